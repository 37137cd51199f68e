import PyProof.Rows.All
import Wide.All
import OpenK.AllK
import Wide.FinOn
import Lean
import PyProof.EqAt
import PyProof.EqKinds
import PyProof.NeKinds
import PyProof.TupleCall
import PySem.Challenge.RW_loopgyre_k01_roads_numbered
set_option Elab.async false
set_option linter.all false
set_option maxRecDepth 100000
set_option genSizeOf false
noncomputable section
namespace L2
open PySem PySem.Spec PyProof.Rows
abbrev Key := Sum Int Str
def keyIs : Key -> Value -> Bool
 | .inl k, v => Value.isInt k v
 | .inr x, v => Value.isStrOf x v
def keyH (w : World) : Key -> Int
 | .inl k => hashInt k
 | .inr x => hashStr w x
theorem keyIs_shape : ∀ {k : Key} {v : Value}, keyIs k v = true -> (∃ i t, k = Sum.inl i /\ v = Value.int i t) \/ (∃ x t, k = Sum.inr x /\ v = Value.str x t)
 | .inl i, v, h => by
  obtain ⟨t, e⟩ := Value.isInt_shape (k := i) (v := v) h
  exact .inl ⟨i, t, rfl, e⟩
 | .inr x, v, h => by
  obtain ⟨t, e⟩ := Value.isStrOf_shape (x := x) (v := v) h
  exact .inr ⟨x, t, rfl, e⟩
theorem key_ll (a b : Int) : decide ((Sum.inl a : Key) = Sum.inl b) = (a == b) := by
 by_cases e : a = b
 ·subst e; simp
 ·have h : ¬ (Sum.inl a : Key) = Sum.inl b := fun q => e (Sum.inl.inj q)
  rw [decide_eq_false h]
  exact (beq_eq_false_iff_ne.mpr e).symm
theorem key_rr (a b : Str) : decide ((Sum.inr a : Key) = Sum.inr b) = decide (a = b) := by
 by_cases e : a = b
 ·subst e; simp
 ·have h : ¬ (Sum.inr a : Key) = Sum.inr b := fun q => e (Sum.inr.inj q)
  rw [decide_eq_false h, decide_eq_false e]
theorem key_lr (a : Int) (b : Str) : decide ((Sum.inl a : Key) = Sum.inr b) = false := decide_eq_false (fun q => nomatch q)
theorem key_rl (a : Str) (b : Int) : decide ((Sum.inr a : Key) = Sum.inl b) = false := decide_eq_false (fun q => nomatch q)
def mixKind (prog : Program) (w : World) : PySem.KeyKind prog w Key where
 is := keyIs
 hash := keyH w
 inj := fun v a b ha hb => by
  rcases keyIs_shape ha with ⟨i, t, rfl, rfl⟩ | ⟨x, t, rfl, rfl⟩
  ·rcases keyIs_shape hb with ⟨j, u, rfl, e⟩ | ⟨y, u, rfl, e⟩
   ·injection e with e1 _; rw [e1]
   ·exact nomatch e
  ·rcases keyIs_shape hb with ⟨j, u, rfl, e⟩ | ⟨y, u, rfl, e⟩
   ·exact nomatch e
   ·injection e with e1 _; rw [e1]
 byValue := fun k v h => by
  rcases keyIs_shape h with ⟨i, t, rfl, rfl⟩ | ⟨x, t, rfl, rfl⟩ <;> rfl
 pyHash := fun hv h => by
  rcases keyIs_shape hv with ⟨i, t, rfl, rfl⟩ | ⟨x, t, rfl, rfl⟩
  ·exact wpAny_pyHash_int h
  ·exact wpAny_pyHash_str h
 eqBool := fun hu hv h => by
  rcases keyIs_shape hu with ⟨i, t, rfl, rfl⟩ | ⟨x, t, rfl, rfl⟩
  ·rcases keyIs_shape hv with ⟨j, u, rfl, rfl⟩ | ⟨y, u, rfl, rfl⟩
   ·rw [key_ll] at h; exact wpAny_eqBool_int h
   ·rw [key_lr] at h; exact SeqAt.EqAt.int_str i t y u _ _ _ _ h
  ·rcases keyIs_shape hv with ⟨j, u, rfl, rfl⟩ | ⟨y, u, rfl, rfl⟩
   ·rw [key_rl] at h; exact SeqAt.EqAt.str_int x t j u _ _ _ _ h
   ·rw [key_rr] at h; exact wpAny_eqBool_str h
 «strs» := fun k x t v h => by
  rcases keyIs_shape h with ⟨i, u, rfl, e⟩ | ⟨y, u, rfl, e⟩
  ·exact nomatch e
  ·injection e with e1 _
   subst e1
   cases v <;> rfl
end L2
namespace L2
open PySem PySem.Spec PyProof.Rows
inductive V where
 | non | bl (b : Bool) | int (i : Int) | str (x : Str) | byt (b : Array UInt8) | flt (b : UInt64) | ref (a : Addr) | ty (n : String)
 deriving DecidableEq
def RelV : V -> Value -> Prop
 | .non, u => u = Value.none
 | .bl b, u => u = Value.bool b
 | .int i, u => ∃ t, u = Value.int i t
 | .str x, u => ∃ t, u = Value.str x t
 | .byt b, u => ∃ t, u = Value.bytes b t
 | .flt b, u => ∃ t, u = Value.float b t
 | .ref a, u => u = Value.ref a
 | .ty n, u => u = Value.type n
abbrev Vals : List V -> List Value -> Prop := Paired RelV
theorem Vals.length {xs : List V} {us : List Value} (r : Vals xs us) : xs.length = us.length := Paired.length r
theorem Vals.get : ∀ {xs : List V} {us : List Value} {i : Nat} {x : V}, Vals xs us -> xs[i]? = some x -> ∃ u, us[i]? = some u /\ RelV x u
 | _, _, _, _, .nil, e => by simp at e
 | _, _, 0, _, .cons r _, e => by simp at e; subst e; exact ⟨_, rfl, r⟩
 | _, _, i + 1, x, .cons _ t, e => by
  obtain ⟨u, h1, h2⟩ := Vals.get (i := i) (x := x) t (by simpa using e)
  exact ⟨u, by simpa using h1, h2⟩
theorem Vals.set {x : V} {u : Value} (r : RelV x u) : ∀ {xs : List V} {us : List Value} (i : Nat), Vals xs us -> Vals (xs.set i x) (us.set i u)
 | _, _, _, .nil => .nil
 | _, _, 0, .cons _ t => .cons r t
 | _, _, i + 1, .cons q t => .cons q (Vals.set r i t)
theorem Vals.append : ∀ {xs ys : List V} {us ws : List Value}, Vals xs us -> Vals ys ws -> Vals (xs ++ ys) (us ++ ws)
 | _, _, _, _, .nil, s => s
 | _, _, _, _, .cons r t, s => .cons r (Vals.append t s)
theorem Vals.take : ∀ {xs : List V} {us : List Value} (n : Nat), Vals xs us -> Vals (xs.take n) (us.take n)
 | _, _, 0, _ => .nil
 | _, _, _ + 1, .nil => .nil
 | _, _, n + 1, .cons r t => .cons r (Vals.take n t)
theorem Vals.drop : ∀ {xs : List V} {us : List Value} (n : Nat), Vals xs us -> Vals (xs.drop n) (us.drop n)
 | _, _, 0, r => r
 | _, _, _ + 1, .nil => .nil
 | _, _, n + 1, .cons _ t => Vals.drop n t
def RelO : Option V -> Option Value -> Prop
 | some v, some u => RelV v u
 | none, none => True
 | _, _ => False
def KV {κ : Type} : List (κ × V) -> List (κ × Value) -> Prop := Paired fun (p : κ × V) (q : κ × Value) => p.1 = q.1 /\ RelV p.2 q.2
def kV : Key -> V
 | .inl i => .int i
 | .inr x => .str x
inductive HO where
 /-- a list -/
 | lst (xs : List V)
 /-- a tuple (never changes) -/
 | tup (xs : List V)
 /-- a dict whose keys are ints and texts; one whose keys are tuples of ints and texts (the empty one is both) -/
 | dK (kvs : List (Key × V)) | dT (kvs : List (List Key × V))
 /-- a set of ints: its members, its size -/
 | set (S : Int -> Bool) (n : Nat)
 /-- an instance of the class at C, its dict at dx, its attributes -/
 | ins (C dx : Addr) (fs : List (Str × V))
 /-- the dict of the instance at x -/
 | own (x : Addr)
 /-- the dict of an exception -/
 | xd (fs : List (Str × V))
 /-- a bound method, f of x -/
 | met (f x : Addr)
 /-- a range object lo, lo + 1, .. below hi -/
 | rng (lo hi : Int)
 /-- a thing that is known to the object (the script; a dict while a loop walks it): read, never written while it is so -/
 | frz (o : Obj) (u : HO)
 /-- a code object's table -/
 | tbl (ps : Array Value)
 /-- any other thing, by what is true of its one object (a def of one's own: SetO a S n := HO.ext fun h => ..) -/
 | ext (φ : Heap -> Prop)
abbrev Hp := Addr -> Option HO
def upd (H : Hp) (a : Addr) (o : HO) : Hp := fun b => if b = a then some o else H b
theorem upd_same {H : Hp} {a : Addr} {o : HO} : upd H a o a = some o := by unfold upd; rw [if_pos rfl]
theorem upd_ne {H : Hp} {a b : Addr} {o : HO} (h : b ≠ a) : upd H a o b = H b := by unfold upd; rw [if_neg h]
theorem ne_of_none {H : Hp} {a b : Addr} {o : HO} (h : H a = some o) (h' : H b = none) : a ≠ b := by
 intro e; subst e; rw [h] at h'; cases h'
section
variable (P : Program) (w : World)
def ObjOk (H : Hp) (h : Heap) (a : Addr) : HO -> Prop
 | .lst xs => xs.length <= sizeLine /\ ∃ (its : List Value) (n : Nat), Vals xs its /\ h.get? a = some { cls := .type "list", data := .seq its.toArray n }
 | .tup xs => xs.length <= sizeLine /\ ∃ its : List Value, Vals xs its /\ IsTup h a its.toArray
 | .dK kvs => kvs.length <= sizeLine /\ (a == sysModules) = false /\ ∃ vs, KV kvs vs /\ h.DictOf (mixKind P w) a vs
 | .dT kvs => kvs.length <= sizeLine /\ (a == sysModules) = false /\ ∃ xs : List (List Key × Addr × Value),
   Paired (fun (p : List Key × V) (q : List Key × Addr × Value) => p.1 = q.1 /\ H q.2.1 = some (.tup (p.1.map kV)) /\ RelV p.2 q.2.2) kvs xs /\
   ∃ o es ep, h.get? a = some o /\ o.ExactDict /\ o.data = .dict es ep /\ es.toList = xs.map (entryOfKey (tupleKind (mixKind P w))) /\ (xs.map (·.1)).Nodup
 | .set S n => h.SetOf (intKind P w) a S n
 | .ins C dx fs => H dx = some (.own a) /\ fs.length <= 1000 /\ dx ≠ a /\ h.get? a = some (PySem.W.instObj C dx) /\
   ∃ mA, h.Ns1 dx mA /\ (∀ f, RelO (fs.lookup f) (mA f)) /\ PySem.Within mA (fs.map (·.1))
 | .own _ => ∃ o, h.get? a = some o
 | .xd fs => ∃ mA, h.Ns1 a mA /\ ∀ f, RelO (fs.lookup f) (mA f)
 | .rng lo hi => ∃ t u v, h.get? a = some { cls := .type "range", data := .fields #[.int lo t, .int hi u, .int 1 v] }
 | .frz o u => h.get? a = some o /\ ObjOk H h a u
 | .tbl ps => h.get? a = some { cls := .none, data := .fields ps }
 | .met f x => h.get? a = some (PySem.W.methodObj (.ref f) (.ref x))
 | .ext φ => φ h /\ (∃ o, h.get? a = some o) /\ ∀ h1 h2 : Heap, φ h1 -> (∀ o, h1.get? a = some o -> h2.get? a = some o) -> φ h2
def HOk (H : Hp) (h : Heap) : Prop := ∀ a o, H a = some o -> ObjOk P w H h a o
end
section
variable {P : Program} {w : World} {H H' : Hp} {h h' : Heap} {a : Addr} {o : HO}
theorem ObjOk.lt (x : ObjOk P w H h a o) : a < h.objs.size := by
 cases o with
 | lst xs => obtain ⟨_, _, _, _, e⟩ := x; exact Heap.lt_size e
 | tup xs => obtain ⟨_, _, _, p⟩ := x; exact p.lt
 | dK kvs => obtain ⟨_, _, _, _, o, _, _, e, _⟩ := x; exact Heap.lt_size e
 | dT kvs => obtain ⟨_, _, _, _, o, _, _, e, _⟩ := x; exact Heap.lt_size e
 | set S n => obtain ⟨o, _, _, _, e, _⟩ := x; exact Heap.lt_size e
 | ins C dx fs => obtain ⟨_, _, _, e, _⟩ := x; exact Heap.lt_size e
 | own y => obtain ⟨_, e⟩ := x; exact Heap.lt_size e
 | xd fs => obtain ⟨_, ⟨_, _, _, e, _⟩, _⟩ := x; exact Heap.lt_size e
 | rng lo hi => obtain ⟨_, _, _, e⟩ := x; exact Heap.lt_size e
 | frz ob u => obtain ⟨e, _⟩ := x; exact Heap.lt_size e
 | tbl ps => exact Heap.lt_size (show h.get? a = some _ from x)
 | met f y => exact Heap.lt_size (show h.get? a = some _ from x)
 | ext φ => obtain ⟨_, ⟨_, e⟩, _⟩ := x; exact Heap.lt_size e
theorem Paired.mapP {α β : Type} {F G : α -> β -> Prop} : ∀ {l₁ : List α} {l₂ : List β}, Paired F l₁ l₂ -> (∀ a b, F a b -> G a b) -> Paired G l₁ l₂
 | _, _, .nil, _ => .nil
 | _, _, .cons r t, f => .cons (f _ _ r) (Paired.mapP t f)
theorem ObjOk.stay (x : ObjOk P w H h a o) (k : ∀ b u, (b = a \/ H b = some (.own a)) -> h.get? b = some u -> h'.get? b = some u)
  (ho : ∀ b, H b = some (.own a) -> H' b = some (.own a)) (ht : ∀ b xs, H b = some (.tup xs) -> H' b = some (.tup xs)) : ObjOk P w H' h' a o := by
 induction o with
 | lst xs => obtain ⟨z, its, n, r, e⟩ := x; exact ⟨z, its, n, r, k _ _ (.inl rfl) e⟩
 | tup xs => obtain ⟨z, its, r, ob, e, c⟩ := x; exact ⟨z, its, r, ob, k _ _ (.inl rfl) e, c⟩
 | dK kvs => obtain ⟨z, y, vs, r, ob, es, ep, e, c⟩ := x; exact ⟨z, y, vs, r, ob, es, ep, k _ _ (.inl rfl) e, c⟩
 | dT kvs =>
  obtain ⟨z, y, xs, r, ob, es, ep, e, c⟩ := x
  exact ⟨z, y, xs, Paired.mapP r fun p q z => ⟨z.1, ht _ _ z.2.1, z.2.2⟩, ob, es, ep, k _ _ (.inl rfl) e, c⟩
 | set S n => obtain ⟨ob, es, ep, t, e, c⟩ := x; exact ⟨ob, es, ep, t, k _ _ (.inl rfl) e, c⟩
 | ins C dx fs =>
  obtain ⟨d, z, ne, e, mA, ⟨od, es, ep, e2, c⟩, r⟩ := x
  exact ⟨ho _ d, z, ne, k _ _ (.inl rfl) e, mA, ⟨od, es, ep, k _ _ (.inr d) e2, c⟩, r⟩
 | own y => obtain ⟨ob, e⟩ := x; exact ⟨ob, k _ _ (.inl rfl) e⟩
 | xd fs => obtain ⟨mA, ⟨od, es, ep, e, c⟩, r⟩ := x; exact ⟨mA, ⟨od, es, ep, k _ _ (.inl rfl) e, c⟩, r⟩
 | rng lo hi => obtain ⟨t, u, v, e⟩ := x; exact ⟨t, u, v, k _ _ (.inl rfl) e⟩
 | frz ob u ih => obtain ⟨e, q⟩ := x; exact ⟨k _ _ (.inl rfl) e, ih q⟩
 | tbl ps =>
  have e : h.get? a = some { cls := .none, data := .fields ps } := x
  show h'.get? a = some { cls := .none, data := .fields ps }
  exact k a _ (.inl rfl) e
 | met f y =>
  have e : h.get? a = some (PySem.W.methodObj (.ref f) (.ref y)) := x
  show h'.get? a = some (PySem.W.methodObj (.ref f) (.ref y))
  exact k a _ (.inl rfl) e
 | ext φ => obtain ⟨p, ⟨o, e⟩, st⟩ := x; exact ⟨st _ _ p fun o q => k _ _ (.inl rfl) q, ⟨o, k _ _ (.inl rfl) e⟩, st⟩
theorem HOk.lt (x : HOk P w H h) (e : H a = some o) : a < h.objs.size := (x a o e).lt
theorem HOk.fresh (x : HOk P w H h) (e : h.objs.size <= a) : H a = none := by
 cases q : H a with
 | none => rfl
 | some u => exact absurd (Nat.lt_of_lt_of_le (x.lt q) e) (Nat.lt_irrefl _)
theorem HOk.kept (x : HOk P w H h) (k : ∀ b u, h.get? b = some u -> h'.get? b = some u) : HOk P w H h' := fun a o e =>
 (x a o e).stay (fun b u _ q => k b u q) (fun _ q => q) fun _ _ q => q
theorem HOk.laid (x : HOk P w H h) (k : ∀ b u, h.get? b = some u -> h'.get? b = some u) (hp : h.objs.size <= a) (new : ObjOk P w (upd H a o) h' a o) : HOk P w (upd H a o) h' := fun b u e => by
 have hn := x.fresh hp
 by_cases hb : b = a
 ·subst hb; rw [upd_same] at e; cases e; exact new
 ·rw [upd_ne hb] at e
  exact (x b u e).stay (fun c v _ q => k c v q) (fun c q => by rw [upd_ne (ne_of_none q hn)]; exact q) fun c xs q => by rw [upd_ne (ne_of_none q hn)]; exact q
end
def Rd (H : Hp) (a : Addr) (u : HO) : Prop := H a = some u \/ ∃ o, H a = some (.frz o u)
theorem Rd.ok {P : Program} {w : World} {H : Hp} {h : Heap} {a : Addr} {u : HO} (r : Rd H a u) (x : HOk P w H h) : ObjOk P w H h a u := by
 rcases r with r | ⟨o, r⟩
 ·exact x a u r
 ·obtain ⟨_, q⟩ := x a _ r
  exact q
def Mut : Option HO -> Prop
 | some (.lst _) => True
 | some (.dK _) => True
 | some (.dT _) => True
 | some (.set _ _) => True
 | some (.ins _ _ _) => True
 | some (.ext _) => True
 | _ => False
section
variable {P : Program} {w : World} {H : Hp} {h h' : Heap} {x e : Addr} {o' : HO}
theorem HOk.write (ok : HOk P w H h) (mu : Mut (H x)) (he : e = x \/ H e = some (.own x)) (k : ∀ b u, b ≠ e -> h.get? b = some u -> h'.get? b = some u) (heo : ∃ u, h'.get? e = some u)
  (new : ObjOk P w (upd H x o') h' x o') : HOk P w (upd H x o') h' := fun b u q => by
 have nown : ∀ c y, H c = some (.own y) -> c ≠ x := fun c y r z => by subst z; rw [r] at mu; exact mu
 have ntup : ∀ c xs, H c = some (.tup xs) -> c ≠ x := fun c xs r z => by subst z; rw [r] at mu; exact mu
 by_cases hb : b = x
 ·subst hb; rw [upd_same] at q; cases q; exact new
 ·rw [upd_ne hb] at q
  by_cases hbe : b = e
  ·have q' : H b = some (.own x) := by
    rcases he with z | z
    ·exact absurd (hbe.trans z) hb
    ·rw [hbe]; exact z
   rw [q] at q'; cases q'
   obtain ⟨v, hv⟩ := heo
   exact ⟨v, by rw [hbe]; exact hv⟩
  ·refine (ok b u q).stay (fun c v hc r => k c v ?_ r) (fun c r => by rw [upd_ne (nown c b r)]; exact r) fun c xs r => by rw [upd_ne (ntup c xs r)]; exact r
   rcases hc with rfl | hc
   ·exact hbe
   ·rintro rfl
    rcases he with z | z
    ·exact nown c b hc z
    ·rw [hc] at z; cases z; exact hb rfl
end
structure Un (fs ex : List Addr) (H H' : Hp) (h h' : Heap) : Prop where
 keep : ∀ b o, h.get? b = some o -> H b = none -> b ∉ fs -> b ∉ ex -> h'.get? b = some o
 slot : ∀ b o, h.get? b = some o -> H b = none -> b ∈ fs -> b ∉ ex -> ∃ sl, h'.get? b = some { o with slots := sl }
 free : ∀ b o, h.get? b = some o -> H b = none -> b ∉ ex -> H' b = none
 there : ∀ b o, h.get? b = some o -> b ∉ ex -> ∃ o', h'.get? b = some o'
 tups : ∀ b xs, H b = some (.tup xs) -> H' b = some (.tup xs)
 frzs : ∀ b o u, H b = some (.frz o u) -> H' b = some (.frz o u)
 tbls : ∀ b ps, H b = some (.tbl ps) -> ∃ more, H' b = some (.tbl (ps ++ more))
section
variable {fs fs' ex ex' : List Addr} {H H1 H2 : Hp} {h h1 h2 h' : Heap} {a x e : Addr} {o : HO}
theorem Un.any (u : Un fs ex H H1 h h1) {b : Addr} {ob : Obj} (q : h.get? b = some ob) (n : H b = none) (hx : b ∉ ex) : ∃ sl, h1.get? b = some { ob with slots := sl } := by
 by_cases hb : b ∈ fs
 ·exact u.slot b ob q n hb hx
 ·exact ⟨ob.slots, u.keep b ob q n hb hx⟩
theorem Un.kept (k : ∀ b u, h.get? b = some u -> h'.get? b = some u) : Un fs ex H H h h' :=
 ⟨fun b ob q _ _ _ => k b ob q, fun b ob q _ _ _ => ⟨ob.slots, k b ob q⟩, fun _ _ _ n _ => n, fun b ob q _ => ⟨ob, k b ob q⟩, fun _ _ q => q, fun _ _ _ q => q, fun _ ps q => ⟨#[], by rw [q]; simp⟩⟩
theorem Un.refl : Un fs ex H H h h := Un.kept fun _ _ q => q
theorem Un.laid (k : ∀ b u, h.get? b = some u -> h'.get? b = some u) (hp : h.objs.size <= a) (hn : H a = none) : Un fs ex H (upd H a o) h h' where
 keep := fun b u q _ _ _ => k b u q
 slot := fun b u q _ _ _ => ⟨u.slots, k b u q⟩
 free := fun b u q n _ => by rw [upd_ne (Nat.ne_of_lt (Nat.lt_of_lt_of_le (Heap.lt_size q) hp))]; exact n
 there := fun b u q _ => ⟨u, k b u q⟩
 tups := fun b xs q => by rw [upd_ne (ne_of_none q hn)]; exact q
 frzs := fun b u xs q => by rw [upd_ne (ne_of_none q hn)]; exact q
 tbls := fun b ps q => ⟨#[], by rw [upd_ne (ne_of_none q hn), q]; simp⟩
theorem Un.write (mu : Mut (H x)) (he : e = x \/ H e = some (.own x)) (k : ∀ b u, b ≠ e -> h.get? b = some u -> h'.get? b = some u) (heo : ∃ u, h'.get? e = some u) : Un fs ex H (upd H x o) h h' := by
 have hx : ∀ b, H b = none -> b ≠ x := fun b n z => by subst z; rw [n] at mu; exact mu
 have hb : ∀ b, H b = none -> b ≠ e := fun b n z => by
  subst z
  rcases he with r | r
  ·exact hx b n r
  ·rw [n] at r; cases r
 have hm : ∀ b u, H b = some u -> ¬ Mut (some u) -> b ≠ x := fun b u q nm z => by subst z; rw [q] at mu; exact nm mu
 refine ⟨fun b u q n _ _ => k b u (hb b n) q, fun b u q n _ _ => ⟨u.slots, k b u (hb b n) q⟩, fun b u q n _ => by rw [upd_ne (hx b n)]; exact n, fun b u q _ => ?_,
  fun b xs q => by rw [upd_ne (hm b _ q fun z => z)]; exact q, fun b u xs q => by rw [upd_ne (hm b _ q fun z => z)]; exact q, fun b ps q => ⟨#[], by rw [upd_ne (hm b _ q fun z => z), q]; simp⟩⟩
 by_cases hbe : b = e
 ·subst hbe; exact heo
 ·exact ⟨u, k b u hbe q⟩
end
def trk (h : Heap) (H : Hp) : List Addr := (List.range h.objs.size).filter fun a => (H a).isSome
def hidT (h : Heap) (H : Hp) : Heap := PySem.W.hideAll h (trk h H)
theorem hidT_size (h : Heap) (H : Hp) : (hidT h H).objs.size = h.objs.size := PySem.W.hideAll_size _ _
theorem hidT_get {h : Heap} {H : Hp} {b : Addr} {o : Obj} (e : h.get? b = some o) (n : H b = none) : (hidT h H).get? b = some o :=
 PySem.W.hideAll_get _ e fun hm => by
  have q : (H b).isSome = true := (List.mem_filter.mp hm).2
  rw [n] at q; simp at q
theorem of_hidT {h : Heap} {H : Hp} {b : Addr} {o : Obj} (e : (hidT h H).get? b = some o) : h.get? b = some o /\ H b = none := by
 have e' : h.get? b = some o := PySem.W.of_hideAll (trk h H) e
 refine ⟨e', ?_⟩
 cases q : H b with
 | none => rfl
 | some x =>
  have hm : b ∈ trk h H := List.mem_filter.mpr ⟨List.mem_range.mpr (Heap.lt_size e'), by simp [q]⟩
  have z : (hidT h H).get? b = none := PySem.W.hideAll_none (trk h H) hm
  rw [z] at e; cases e
end L2
namespace L2
open PySem PySem.Spec PyProof.Rows
structure Mod (K : PySem.W.Frag) (mg : Str -> Option Value) (base : Heap) : Prop where
 kin : K.In base
 glob : base.Ns mainGlobals mg
 blt : ∃ mb, base.Ns builtinsNs mb /\ ∀ x : Str, x ≠ "__name__" -> mb x = bootBuiltins x
 nolimit : base.NoLimit
structure Cx where
 prog : Program
 w : World
 K : PySem.W.Frag
 mg : Str -> Option Value
 base : Heap
 A : Around
 N : List Str
 s₀ : Shared
 H₀ : Hp
 env : Env
 outer : List Env
 stack : List Env
 ex : List Addr
 fn : Str -> Bool
 calm : Bool
 pn : List (Addr × Obj)
 xe : Value -> Shared -> Prop
def frs (l : List Env) : List Addr := l.filterMap (·.frame)
abbrev Cx.fs (X : Cx) : List Addr := frs X.outer
def Vis (sc : Scope) (x : Str) : Prop := sc.names.lookup x = some .local \/ sc.names.lookup x = some .cell \/ sc.names.lookup x = some .free
def Loc (sc : Scope) (x : Str) : Prop := sc.names.lookup x = some .local \/ sc.names.lookup x = some .cell
def Look (env : Env) (h : Heap) (m : Str -> Option Value) (x : Str) (u : Value) : Prop :=
 (env.kindOf x = some .local /\ m x = some u) \/ ((env.kindOf x = some .cell \/ env.kindOf x = some .free) /\ ∃ c, env.cells.lookup x = some c /\ h.IsCell c (some u))
structure Cx.Ok (X : Cx) : Prop where
 mod : Mod X.K X.mg X.base
 kind : X.env.scope.kind = .function
 glob : X.env.globals = mainGlobals
 blt : X.env.builtins = builtinsNs
 above : X.s₀.heap.objs.size <= X.env.locals
 inj : ∀ x y c, X.env.cells.lookup x = some c -> X.env.cells.lookup y = some c -> x = y
 has : ∀ x, (X.env.kindOf x = some .cell \/ X.env.kindOf x = some .free) -> ∃ c, X.env.cells.lookup x = some c
 cab : ∀ x c, X.fn x = true -> X.env.cells.lookup x = some c -> X.s₀.heap.objs.size <= c
 hd : X.calm = true -> X.A.handled = none
 frames : X.A.frames = some X.stack
 stk : X.stack = X.outer \/ (X.stack = X.env :: X.outer /\ X.env.frame = some X.env.locals)
 exf : ∀ b ∈ X.ex, b ≠ X.env.locals /\ ∀ x c, X.env.cells.lookup x = some c -> c ≠ b
 bs : ∀ b o, X.base.get? b = some o -> X.s₀.heap.get? b = some o /\ X.H₀ b = none
 bsz : X.base.objs.size <= X.s₀.heap.objs.size
 noex : ∀ b o, X.base.get? b = some o -> b ∉ X.ex
 exfs : ∀ b ∈ X.ex, b ∉ X.fs
 funs : X.s₀.heap.FunFrames X.base X.outer
 frf : ∀ b ∈ X.fs, X.H₀ b = none
structure Inv (X : Cx) (pins : List (Addr × Obj)) (σ : List (Option V)) (H : Hp) (s : Shared) : Prop where
 ok : X.Ok
 os : s.os = X.s₀.os
 bare : AllBare s.gens
 base : Un X.fs X.ex X.H₀ H X.s₀.heap s.heap
 loc : ∃ m, s.heap.Ns X.env.locals m /\ ∀ (i : Nat) (x : Str) (v : V), X.N[i]? = some x -> σ[i]? = some (some v) -> Vis X.env.scope x -> ∃ u, RelV v u /\ Look X.env s.heap m x u
 cell : ∀ x c, X.env.cells.lookup x = some c -> ∃ v, s.heap.IsCell c v
 free : H X.env.locals = none
 freeC : ∀ x c, X.env.cells.lookup x = some c -> H c = none
 pin : ∀ p ∈ X.pn ++ pins, s.heap.get? p.1 = some p.2 /\ H p.1 = none /\ p.1 ≠ X.env.locals /\ p.1 ∉ X.fs /\ ∀ v, p.2.data ≠ .cell v
 hok : HOk X.prog X.w H s.heap
 len : σ.length = X.N.length
section
variable {X : Cx} {pins : List (Addr × Obj)} {σ : List (Option V)} {H H' : Hp} {s : Shared} {h' : Heap}
theorem Cx.Ok.nofr (ok : X.Ok) {b : Addr} {o : Obj} (e : X.base.get? b = some o) : b ∉ X.fs := fun hb => by
 have := (ok.funs.mem hb).1
 rw [e] at this; cases this
theorem Inv.bs (I : Inv X pins σ H s) : ∀ b o, X.base.get? b = some o -> s.heap.get? b = some o /\ H b = none := fun b o e =>
 ⟨I.base.keep b o (I.ok.bs b o e).1 (I.ok.bs b o e).2 (I.ok.nofr e) (I.ok.noex b o e), I.base.free b o (I.ok.bs b o e).1 (I.ok.bs b o e).2 (I.ok.noex b o e)⟩
theorem Inv.bk (I : Inv X pins σ H s) : ∀ b o, X.base.get? b = some o -> s.heap.get? b = some o := fun b o e => (I.bs b o e).1
theorem Inv.mod (I : Inv X pins σ H s) : Mod X.K X.mg X.base := I.ok.mod
theorem Inv.kIn (I : Inv X pins σ H s) : X.K.In s.heap := I.ok.mod.kin.keeps I.bk
theorem Inv.lt (I : Inv X pins σ H s) : X.env.locals < s.heap.objs.size := let ⟨_, hn, _⟩ := I.loc; hn.lt
theorem Inv.sz (I : Inv X pins σ H s) : X.s₀.heap.objs.size <= s.heap.objs.size := Nat.le_trans I.ok.above (Nat.le_of_lt I.lt)
theorem Inv.nofs (I : Inv X pins σ H s) {a : Addr} (h : s.heap.objs.size <= a) : a ∉ X.fs := fun hb => by
 obtain ⟨_, o, ho, _⟩ := I.ok.funs.mem hb
 exact absurd (Nat.lt_of_lt_of_le (Heap.lt_size ho) (Nat.le_trans I.sz h)) (Nat.lt_irrefl _)
theorem Inv.cne (I : Inv X pins σ H s) : ∀ x c, X.env.cells.lookup x = some c -> c ≠ X.env.locals := fun x c e z => by
 obtain ⟨v, o, ho, hd⟩ := I.cell x c e
 obtain ⟨m, ⟨o', es, ep, ho', hd', _⟩, _⟩ := I.loc
 rw [z, ho'] at ho; cases ho; rw [hd'] at hd; cases hd
theorem Inv.funs (I : Inv X pins σ H s) : s.heap.FunFrames X.base X.outer := by
 have all : ∀ (l : List Env), (∀ b ∈ frs l, b ∈ X.fs) -> X.s₀.heap.FunFrames X.base l -> s.heap.FunFrames X.base l := by
  intro l
  induction l with
  | nil => intro _ _; trivial
  | cons env r ih =>
   intro hs hl
   obtain ⟨hk, ⟨L, o, hf, hn, ho, hd⟩, hr⟩ := hl
   have hL : L ∈ X.fs := hs L (by unfold frs; rw [List.filterMap_cons, hf]; exact List.mem_cons_self)
   obtain ⟨sl, e⟩ := I.base.slot L o ho (I.ok.frf L hL) hL fun z => I.ok.exfs L z hL
   exact ⟨hk, ⟨L, _, hf, hn, e, hd⟩, ih (fun b hb => hs b (by unfold frs; rw [List.filterMap_cons, hf]; exact List.mem_cons_of_mem _ hb)) hr⟩
 exact all X.outer (fun _ hb => hb) I.ok.funs
theorem Inv.stack (I : Inv X pins σ H s) : s.heap.FunFrames X.base X.stack := by
 rcases I.ok.stk with e | ⟨e, hf⟩
 ·rw [e]; exact I.funs
 ·rw [e]
  obtain ⟨m, hn, _⟩ := I.loc
  refine .cons (by rw [I.ok.kind]; decide) hf hn ?_ I.funs
  exact Heap.get?_none_of_le (Nat.le_trans I.ok.bsz I.ok.above)
theorem Inv.stkSub (I : Inv X pins σ H s) : ∀ b ∈ frs X.stack, b ∈ X.env.locals :: X.fs := fun b hb => by
 rcases I.ok.stk with e | ⟨e, hf⟩
 ·rw [e] at hb; exact List.mem_cons_of_mem _ hb
 ·rw [e] at hb
  unfold frs at hb
  rw [List.filterMap_cons, hf] at hb
  exact hb
theorem Inv.stkFree (I : Inv X pins σ H s) : ∀ b ∈ frs X.stack, H b = none := fun b hb => by
 rcases List.mem_cons.mp (I.stkSub b hb) with e | hb
 ·rw [e]; exact I.free
 ·obtain ⟨_, o, ho, _⟩ := I.ok.funs.mem hb
  exact I.base.free b o ho (I.ok.frf b hb) fun z => I.ok.exfs b z hb
theorem Inv.step {g' : Array GenState} {t' : Nat} {d' : Drawn} {ch : List Addr} (I : Inv X pins σ H s)
  (hch : ∀ b ∈ ch, (b ∈ X.ex \/ X.s₀.heap.objs.size <= b) /\ b ≠ X.env.locals /\ (∀ x c, X.env.cells.lookup x = some c -> c ≠ b) /\ ∀ p ∈ X.pn ++ pins, p.1 ≠ b)
  (keep : ∀ b o, b ≠ X.env.locals -> b ∉ X.fs -> b ∉ ch -> s.heap.get? b = some o -> H b = none -> h'.get? b = some o)
  (slot : ∀ b o, b ≠ X.env.locals -> b ∈ X.fs -> b ∉ ch -> s.heap.get? b = some o -> H b = none -> ∃ sl, h'.get? b = some { o with slots := sl }) (free : ∀ b o, b ∉ ch -> s.heap.get? b = some o -> H b = none -> H' b = none)
  (there : ∀ b o, b ∉ ch -> s.heap.get? b = some o -> ∃ o', h'.get? b = some o')
  (tups : ∀ b xs, H b = some (.tup xs) -> H' b = some (.tup xs)) (frzs : ∀ b o u, H b = some (.frz o u) -> H' b = some (.frz o u)) (tbls : ∀ b ps, H b = some (.tbl ps) -> ∃ more, H' b = some (.tbl (ps ++ more)))
  (ns : ∀ m, s.heap.Ns X.env.locals m -> h'.Ns X.env.locals m) (hok : HOk X.prog X.w H' h') (hg : AllBare g') :
  Inv X pins σ H' { s with heap := h', gens := g', drawn := d', toks := t' } := by
 have neL : ∀ b o, X.s₀.heap.get? b = some o -> b ≠ X.env.locals := fun b o e => Nat.ne_of_lt (Nat.lt_of_lt_of_le (Heap.lt_size e) I.ok.above)
 have neC : ∀ b o, X.s₀.heap.get? b = some o -> b ∉ X.ex -> b ∉ ch := fun b o e hx hb => by
  rcases (hch b hb).1 with z | z
  ·exact hx z
  ·exact absurd (Nat.lt_of_lt_of_le (Heap.lt_size e) z) (Nat.lt_irrefl _)
 have cellK : ∀ x c, X.env.cells.lookup x = some c -> ∀ v, s.heap.IsCell c v -> h'.IsCell c v := fun x c e v ⟨o, ho, hd⟩ => by
  have nch : c ∉ ch := fun z => (hch c z).2.2.1 x c e rfl
  by_cases hc : c ∈ X.fs
  ·obtain ⟨sl, q⟩ := slot c o (I.cne x c e) hc nch ho (I.freeC x c e)
   exact ⟨_, q, hd⟩
  ·exact ⟨o, keep c o (I.cne x c e) hc nch ho (I.freeC x c e), hd⟩
 refine ⟨I.ok, I.os, hg, ⟨fun b o e n hb hx => ?_, fun b o e n hb hx => ?_, fun b o e n hx => ?_, fun b o e hx => ?_, fun b xs e => tups b xs (I.base.tups b xs e), fun b o xs e => frzs b o xs (I.base.frzs b o xs e), fun b ps e => ?_⟩, ?_, fun x c e => ?_, ?_, fun x c e => ?_, fun p hp => ?_, hok, I.len⟩
 ·exact keep b o (neL b o e) hb (neC b o e hx) (I.base.keep b o e n hb hx) (I.base.free b o e n hx)
 ·obtain ⟨sl, e1⟩ := I.base.slot b o e n hb hx
  obtain ⟨sl', e2⟩ := slot b _ (neL b o e) hb (neC b o e hx) e1 (I.base.free b o e n hx)
  exact ⟨sl', e2⟩
 ·obtain ⟨o', e1⟩ := I.base.there b o e hx
  exact free b o' (neC b o e hx) e1 (I.base.free b o e n hx)
 ·obtain ⟨o', e1⟩ := I.base.there b o e hx
  exact there b o' (neC b o e hx) e1
 ·obtain ⟨m1, e1⟩ := I.base.tbls b ps e
  obtain ⟨m2, e2⟩ := tbls b _ e1
  exact ⟨m1 ++ m2, by rw [e2, Array.append_assoc]⟩
 ·obtain ⟨m, hn, hl⟩ := I.loc
  refine ⟨m, ns m hn, fun i x v e1 e2 e3 => ?_⟩
  obtain ⟨u, r, l⟩ := hl i x v e1 e2 e3
  refine ⟨u, r, ?_⟩
  rcases l with l | ⟨k, c, e, z⟩
  ·exact .inl l
  ·exact .inr ⟨k, c, e, cellK x c e _ z⟩
 ·obtain ⟨v, z⟩ := I.cell x c e
  exact ⟨v, cellK x c e v z⟩
 ·obtain ⟨m, ⟨o, _, _, ho, _⟩, _⟩ := I.loc
  exact free _ o (fun z => (hch _ z).2.1 rfl) ho I.free
 ·obtain ⟨v, o, ho, hd⟩ := I.cell x c e
  exact free c o (fun z => (hch c z).2.2.1 x c e rfl) ho (I.freeC x c e)
 ·obtain ⟨e, n, ne, nf, d⟩ := I.pin p hp
  have nch : p.1 ∉ ch := fun z => (hch p.1 z).2.2.2 p hp rfl
  exact ⟨keep p.1 p.2 ne nf nch e n, free p.1 p.2 nch e n, ne, nf, d⟩
theorem Inv.un {t' : Nat} (I : Inv X pins σ H s) (u : Un X.fs [] H H' s.heap h') (hok : HOk X.prog X.w H' h') : Inv X pins σ H' { s with heap := h', toks := t' } := by
 obtain ⟨m, ⟨o, es, ep, ho, r⟩, _⟩ := id I.loc
 obtain ⟨sl, hL⟩ := u.any ho I.free (by simp)
 exact I.step (g' := s.gens) (d' := s.drawn) (ch := []) (fun _ z => nomatch z) (fun b o _ hb _ e n => u.keep b o e n hb (by simp)) (fun b o _ hb _ e n => u.slot b o e n hb (by simp)) (fun b o _ e n => u.free b o e n (by simp)) (fun b o _ e => u.there b o e (by simp)) u.tups u.frzs u.tbls (fun m' hm => by
  obtain ⟨o', es', ep', ho', r'⟩ := hm
  rw [ho] at ho'; cases ho'
  exact ⟨_, es', ep', hL, r'⟩) hok I.bare
theorem Inv.call {g' : Array GenState} {t' : Nat} {d' : Drawn} {ch : List Addr} (I : Inv X pins σ H s) (u : Un (frs X.stack) ch H H' s.heap h') (hok : HOk X.prog X.w H' h') (hg : AllBare g')
  (hch : ∀ b ∈ ch, (b ∈ X.ex \/ X.s₀.heap.objs.size <= b) /\ b ≠ X.env.locals /\ (∀ x c, X.env.cells.lookup x = some c -> c ≠ b) /\ ∀ p ∈ X.pn ++ pins, p.1 ≠ b) :
  Inv X pins σ H' { s with heap := h', gens := g', drawn := d', toks := t' } := by
 obtain ⟨m, ⟨o, es, ep, ho, r⟩, _⟩ := id I.loc
 obtain ⟨sl, hL⟩ := u.any ho I.free fun z => (hch _ z).2.1 rfl
 exact I.step (ch := ch) hch (fun b o hL hb hc e n => u.keep b o e n (fun z => (List.mem_cons.mp (I.stkSub b z)).elim hL hb) hc) (fun b o _ _ hc e n => u.any e n hc) (fun b o hc e n => u.free b o e n hc) (fun b o hc e => u.there b o e hc) u.tups u.frzs u.tbls (fun m' hm => by
  obtain ⟨o', es', ep', ho', r'⟩ := hm
  rw [ho] at ho'; cases ho'
  exact ⟨_, es', ep', hL, r'⟩) hok hg
theorem Inv.turned {t' : Nat} {it : Addr} (I : Inv X pins σ H s) (k : ∀ b o, b ≠ it -> s.heap.get? b = some o -> h'.get? b = some o) (hn : H it = none) (hL : it ≠ X.env.locals)
  (h1 : it ∈ X.ex \/ X.s₀.heap.objs.size <= it) (h2 : ∀ x c, X.env.cells.lookup x = some c -> c ≠ it) (h3 : ∀ p ∈ X.pn ++ pins, p.1 ≠ it) : Inv X pins σ H { s with heap := h', toks := t' } := by
 have nit : ∀ b u, H b = some u -> b ≠ it := fun b u e z => by rw [z, hn] at e; cases e
 refine I.step (g' := s.gens) (d' := s.drawn) (ch := [it]) (fun b hb => ?_) (fun b o _ _ hc e _ => k b o (fun z => hc (by simp [z])) e) (fun b o _ _ hc e _ => ⟨o.slots, k b o (fun z => hc (by simp [z])) e⟩) (fun _ _ _ _ n => n)
  (fun b o hc e => ⟨o, k b o (fun z => hc (by simp [z])) e⟩) (fun _ _ e => e) (fun _ _ _ e => e) (fun b ps e => ⟨#[], by rw [e]; simp⟩) (fun m hm => ?_) (fun b u e => ?_) I.bare
 ·have e : b = it := by simpa using hb
  subst e
  exact ⟨h1, hL, h2, h3⟩
 ·obtain ⟨o, es, ep, ho, r⟩ := hm
  exact ⟨o, es, ep, k _ o (Ne.symm hL) ho, r⟩
 ·refine (I.hok b u e).stay (fun c v hc q => k c v ?_ q) (fun _ q => q) fun _ _ q => q
  rcases hc with z | z
  ·rw [z]; exact nit b u e
  ·exact nit c _ z
theorem Inv.tok (I : Inv X pins σ H s) (t : Nat) : Inv X pins σ H { s with toks := t } := I.un (h' := s.heap) (t' := t) Un.refl I.hok
theorem Inv.kept {t' : Nat} (I : Inv X pins σ H s) (k : ∀ b u, s.heap.get? b = some u -> h'.get? b = some u) : Inv X pins σ H { s with heap := h', toks := t' } := I.un (Un.kept k) (I.hok.kept k)
theorem Inv.laid {a : Addr} {o : HO} {t' : Nat} (I : Inv X pins σ H s) (k : ∀ b u, s.heap.get? b = some u -> h'.get? b = some u) (hp : s.heap.objs.size <= a) (new : ObjOk X.prog X.w (upd H a o) h' a o) :
  Inv X pins σ (upd H a o) { s with heap := h', toks := t' } := I.un (Un.laid k hp (I.hok.fresh hp)) (I.hok.laid k hp new)
theorem Inv.write {x e : Addr} {o : HO} {t' : Nat} (I : Inv X pins σ H s) (mu : Mut (H x)) (he : e = x \/ H e = some (.own x)) (k : ∀ b u, b ≠ e -> s.heap.get? b = some u -> h'.get? b = some u) (heo : ∃ u, h'.get? e = some u)
  (new : ObjOk X.prog X.w (upd H x o) h' x o) : Inv X pins σ (upd H x o) { s with heap := h', toks := t' } := I.un (Un.write mu he k heo) (I.hok.write mu he k heo new)
theorem Inv.pins_of {pins' : List (Addr × Obj)} (I : Inv X pins σ H s) (h : ∀ p ∈ pins', s.heap.get? p.1 = some p.2 /\ H p.1 = none /\ p.1 ≠ X.env.locals /\ p.1 ∉ X.fs /\ ∀ v, p.2.data ≠ .cell v) : Inv X pins' σ H s :=
 ⟨I.ok, I.os, I.bare, I.base, I.loc, I.cell, I.free, I.freeC, fun p hp => (List.mem_append.mp hp).elim (fun z => I.pin p (List.mem_append_left _ z)) (h p), I.hok, I.len⟩
theorem nodup_ix {N : List Str} (hN : N.Nodup) {i j : Nat} {x : Str} (a : N[i]? = some x) (b : N[j]? = some x) : i = j := by
 obtain ⟨h1, e1⟩ := List.getElem?_eq_some_iff.mp a
 obtain ⟨h2, e2⟩ := List.getElem?_eq_some_iff.mp b
 exact (List.getElem_inj hN).mp (e1.trans e2.symm)
theorem store_ok2 {M : Model} {A : Around} {E : Value -> Shared -> Prop} {i : Nat} {x : Str} {v : V} {u : Value} {Q : Unit -> Shared -> Prop} (I : Inv X pins σ H s) (hN : X.N.Nodup) (hi : X.N[i]? = some x) (hx : Loc X.env.scope x) (r : RelV v u)
  (h : ∀ s', Inv X pins (σ.set i (some v)) H s' -> (∃ a, Heap.SameBut a s.heap s'.heap /\ (a = X.env.locals \/ X.env.cells.lookup x = some a)) -> Q () s') (hf : X.fn x = true \/ X.env.scope.names.lookup x = some .local := by first | exact .inl rfl | exact .inr rfl | assumption) : wpAny M A (storeName X.env x u) Q E s := by
 obtain ⟨m, hn, hl⟩ := id I.loc
 have hcls : (X.env.scope.kind == .class || (X.env.scope.kind == .module && X.env.locals != X.env.globals)) = false := by rw [I.ok.kind]; rfl
 have hiσ : i < σ.length := by rw [I.len]; exact (List.getElem?_eq_some_iff.mp hi).1
 have cne := I.cne
 have tracked : ∀ {a : Addr} {h' : Heap}, (∃ o, s.heap.get? a = some o /\ H a = none) -> Heap.SameBut a s.heap h' -> HOk X.prog X.w H h' := fun {a h'} ha hs b ob e => by
  obtain ⟨_, _, hfree⟩ := ha
  refine (I.hok b ob e).stay (fun c w' hc q => (hs.2 c ?_).trans q) (fun _ q => q) fun _ _ q => q
  rintro rfl
  rcases hc with rfl | hc
  ·rw [hfree] at e; cases e
  ·rw [hfree] at hc; cases hc
 rcases hx with hk | hk
 ·refine wpAny_storeName_local hk hn (fun h' hn' hs => ?_) hcls
  obtain ⟨oL, _, _, hoL, _⟩ := id hn
  refine h _ ⟨I.ok, I.os, I.bare, ⟨fun b o e n hb hx => ?_, fun b o e n hb hx => ?_, I.base.free, fun b o e hx => ?_, I.base.tups, I.base.frzs, I.base.tbls⟩, ⟨_, hn', fun j y v' e1 e2 e3 => ?_⟩, fun y c e => ?_, I.free, I.freeC, fun p hp => ?_, tracked ⟨oL, hoL, I.free⟩ hs, by simpa using I.len⟩ ⟨_, hs, .inl rfl⟩
  ·exact (hs.2 b (Nat.ne_of_lt (Nat.lt_of_lt_of_le (Heap.lt_size e) I.ok.above))).trans (I.base.keep b o e n hb hx)
  ·obtain ⟨sl, e1⟩ := I.base.slot b o e n hb hx
   exact ⟨sl, (hs.2 b (Nat.ne_of_lt (Nat.lt_of_lt_of_le (Heap.lt_size e) I.ok.above))).trans e1⟩
  ·obtain ⟨o', e1⟩ := I.base.there b o e hx
   exact ⟨o', (hs.2 b (Nat.ne_of_lt (Nat.lt_of_lt_of_le (Heap.lt_size e) I.ok.above))).trans e1⟩
  ·by_cases hj : j = i
   ·subst hj
    rw [hi] at e1; cases e1
    rw [List.getElem?_set_self hiσ] at e2
    cases e2
    exact ⟨u, r, .inl ⟨hk, by simp⟩⟩
   ·rw [List.getElem?_set_ne (Ne.symm hj)] at e2
    obtain ⟨u', r', q⟩ := hl j y v' e1 e2 e3
    refine ⟨u', r', ?_⟩
    rcases q with ⟨k, e⟩ | ⟨k, c, e, z⟩
    ·refine .inl ⟨k, ?_⟩
     have : y ≠ x := fun e => hj (nodup_ix hN e1 (e ▸ hi))
     simp [this, e]
    ·exact .inr ⟨k, c, e, z.sameBut hs (cne y c e)⟩
  ·obtain ⟨w', z⟩ := I.cell y c e
   exact ⟨w', z.sameBut hs (cne y c e)⟩
  ·obtain ⟨e, n, ne, nf, d⟩ := I.pin p hp
   exact ⟨(hs.2 p.1 ne).trans e, n, ne, nf, d⟩
 ·have hfn : X.fn x = true := by
   rcases hf with z | z
   ·exact z
   ·rw [z] at hk; cases hk
  obtain ⟨c, hc⟩ := I.ok.has x (.inl hk)
  obtain ⟨w', z⟩ := I.cell x c hc
  refine wpAny_storeName_cell I.ok.kind hk hc z (fun h' hc' hs => ?_)
  obtain ⟨oc, hoc, hocd⟩ := id z
  refine h { s with heap := h' } ⟨I.ok, I.os, I.bare, ⟨fun b o e n hb hx => ?_, fun b o e n hb hx => ?_, I.base.free, fun b o e hx => ?_, I.base.tups, I.base.frzs, I.base.tbls⟩, ⟨m, hn.sameBut hs (Ne.symm (cne x c hc)), fun j y v' e1 e2 e3 => ?_⟩, fun y c' e => ?_, I.free, I.freeC, fun p hp => ?_, tracked ⟨oc, hoc, I.freeC x c hc⟩ hs, by simpa using I.len⟩ ⟨c, hs, .inr hc⟩
  ·exact (hs.2 b (Nat.ne_of_lt (Nat.lt_of_lt_of_le (Heap.lt_size e) (I.ok.cab x c hfn hc)))).trans (I.base.keep b o e n hb hx)
  ·obtain ⟨sl, e1⟩ := I.base.slot b o e n hb hx
   exact ⟨sl, (hs.2 b (Nat.ne_of_lt (Nat.lt_of_lt_of_le (Heap.lt_size e) (I.ok.cab x c hfn hc)))).trans e1⟩
  ·obtain ⟨o', e1⟩ := I.base.there b o e hx
   exact ⟨o', (hs.2 b (Nat.ne_of_lt (Nat.lt_of_lt_of_le (Heap.lt_size e) (I.ok.cab x c hfn hc)))).trans e1⟩
  ·by_cases hj : j = i
   ·subst hj
    rw [hi] at e1; cases e1
    rw [List.getElem?_set_self hiσ] at e2
    cases e2
    exact ⟨u, r, .inr ⟨.inl hk, c, hc, hc'⟩⟩
   ·rw [List.getElem?_set_ne (Ne.symm hj)] at e2
    obtain ⟨u', r', q⟩ := hl j y v' e1 e2 e3
    refine ⟨u', r', ?_⟩
    rcases q with q | ⟨k, c', e, z'⟩
    ·exact .inl q
    ·refine .inr ⟨k, c', e, z'.sameBut hs ?_⟩
     rintro rfl
     exact hj (nodup_ix hN e1 (I.ok.inj _ _ _ e hc ▸ hi))
  ·by_cases hcc : c' = c
   ·subst hcc; exact ⟨_, hc'⟩
   ·obtain ⟨w2, z2⟩ := I.cell y c' e
    exact ⟨w2, z2.sameBut hs hcc⟩
  ·obtain ⟨e, n, ne, nf, d⟩ := I.pin p hp
   refine ⟨(hs.2 p.1 ?_).trans e, n, ne, nf, d⟩
   intro q
   rw [q, hoc] at e
   have q' : oc = p.2 := Option.some.inj e
   exact d w' (by rw [<- q']; exact hocd)
theorem store_ok {M : Model} {A : Around} {E : Value -> Shared -> Prop} {i : Nat} {x : Str} {v : V} {u : Value} {Q : Unit -> Shared -> Prop} (I : Inv X pins σ H s) (hN : X.N.Nodup) (hi : X.N[i]? = some x) (hx : Loc X.env.scope x) (r : RelV v u)
  (h : ∀ s', Inv X pins (σ.set i (some v)) H s' -> Q () s') (hf : X.fn x = true \/ X.env.scope.names.lookup x = some .local := by first | exact .inl rfl | exact .inr rfl | assumption) : wpAny M A (storeName X.env x u) Q E s :=
 store_ok2 I hN hi hx r (fun s' I' _ => h s' I') hf
theorem Inv.call' {s' : Shared} {ch : List Addr} (I : Inv X pins σ H s) (ho : s'.os = s.os) (u : Un (frs X.stack) ch H H' s.heap s'.heap) (hok : HOk X.prog X.w H' s'.heap) (hg : AllBare s'.gens)
  (hch : ∀ b ∈ ch, (b ∈ X.ex \/ X.s₀.heap.objs.size <= b) /\ b ≠ X.env.locals /\ (∀ x c, X.env.cells.lookup x = some c -> c ≠ b) /\ ∀ p ∈ X.pn ++ pins, p.1 ≠ b) : Inv X pins σ H' s' := by
 obtain ⟨h', g', d', t', o'⟩ := s'
 have e : o' = s.os := ho
 subst e
 exact I.call (g' := g') (t' := t') (d' := d') u hok hg hch
end
abbrev XK := Value -> Option Addr -> Hp -> Prop
abbrev St := List (Option V)
abbrev VK := V -> Hp -> Prop
abbrev TE := St -> Hp -> VK -> Prop
abbrev TT := St -> Hp -> (Bool -> Hp -> Prop) -> Prop
abbrev TA := St -> Hp -> (List V -> Hp -> Prop) -> Prop
structure Ends where
 nx : St -> Hp -> Prop
 rt : VK
 bk : St -> Hp -> Prop := fun _ _ => False
 ct : St -> Hp -> Prop := fun _ _ => False
abbrev TS := Ends -> St -> Hp -> Prop
def EP (X : Cx) (pins : List (Addr × Obj)) (σ : St) (Q : VK) (u : Value) (s' : Shared) : Prop := ∃ v H', Inv X pins σ H' s' /\ RelV v u /\ Q v H'
def TP (X : Cx) (pins : List (Addr × Obj)) (σ : St) (Q : Bool -> Hp -> Prop) (b : Bool) (s' : Shared) : Prop := ∃ H', Inv X pins σ H' s' /\ Q b H'
def AP (X : Cx) (pins : List (Addr × Obj)) (σ : St) (Q : List V -> Hp -> Prop) (us : List Value) (s' : Shared) : Prop := ∃ vs H', Inv X pins σ H' s' /\ Vals vs us /\ Q vs H'
def SP (X : Cx) (pins : List (Addr × Obj)) (D : Ends) (f : Flow) (s' : Shared) : Prop :=
 match f with
 | .next => ∃ σ' H', Inv X pins σ' H' s' /\ D.nx σ' H'
 | .brk => ∃ σ' H', Inv X pins σ' H' s' /\ D.bk σ' H'
 | .cont => ∃ σ' H', Inv X pins σ' H' s' /\ D.ct σ' H'
 | .ret u => ∃ v σ' H', Inv X pins σ' H' s' /\ RelV v u /\ D.rt v H'
def PE (X : Cx) (e : Expr) (t : TE) : Prop :=
 ∀ (pins : List (Addr × Obj)) (s : Shared) (σ : St) (H : Hp) (Q : VK), Inv X pins σ H s -> t σ H Q -> wpAny (model X.prog X.w) X.A (eval e X.env) (EP X pins σ Q) X.xe s
def PT (X : Cx) (e : Expr) (t : TT) : Prop :=
 ∀ (pins : List (Addr × Obj)) (s : Shared) (σ : St) (H : Hp) (Q : Bool -> Hp -> Prop), Inv X pins σ H s -> t σ H Q -> wpAny (model X.prog X.w) X.A (isTrue e X.env (eval e X.env)) (TP X pins σ Q) X.xe s
def PW (X : Cx) (e : Expr) (t : TT) : Prop :=
 ∀ (whole : Sem Value) (pins : List (Addr × Obj)) (s : Shared) (σ : St) (H : Hp) (Q : Bool -> Hp -> Prop), Inv X pins σ H s -> t σ H Q -> wpAny (model X.prog X.w) X.A (isTrue e X.env whole) (TP X pins σ Q) X.xe s
theorem PW.pt {X : Cx} {e : Expr} {t : TT} (h : PW X e t) : PT X e t := h _
def PA (X : Cx) (es : List Expr) (t : TA) : Prop :=
 ∀ (pos : Pos) (pins : List (Addr × Obj)) (s : Shared) (σ : St) (H : Hp) (Q : List V -> Hp -> Prop), Inv X pins σ H s -> t σ H Q -> wpAny (model X.prog X.w) X.A (spliced (backTo pos (starEach es X.env))) (AP X pins σ Q) X.xe s
def PS (X : Cx) (st : Stmt) (t : TS) : Prop :=
 ∀ (pins : List (Addr × Obj)) (s : Shared) (σ : St) (H : Hp) (D : Ends), Inv X pins σ H s -> t D σ H -> wpAny (model X.prog X.w) X.A (exec st X.env) (SP X pins D) X.xe s
def PSs (X : Cx) (st : List Stmt) (t : TS) : Prop :=
 ∀ (pins : List (Addr × Obj)) (s : Shared) (σ : St) (H : Hp) (D : Ends), Inv X pins σ H s -> t D σ H -> wpAny (model X.prog X.w) X.A (execs st X.env) (SP X pins D) X.xe s
theorem thn {α : Type} {t : Sem α} {Q Q' : α -> Shared -> Prop} {M : Model} {A : Around} {E : Value -> Shared -> Prop} {s : Shared} (h : wpAny M A t Q E s) (hQ : ∀ a s, Q a s -> Q' a s) : wpAny M A t Q' E s := wpAny_mono h hQ fun _ _ x => x
end L2
namespace L2
open PySem PySem.Spec PyProof.Rows
section
variable {X : Cx}
def tVar (i : Nat) : TE := fun σ H Q => ∃ v, σ[i]? = some (some v) /\ Q v H
def tC (v : V) : TE := fun _ H Q => Q v H
theorem pe_var {i : Nat} {x : Str} {pos : Pos} (hN : X.N[i]? = some x) (hv : Vis X.env.scope x) (hd : (x == ("__debug__" : Str)) = false := by decide) (hcd : (x == ("__classdict__" : Str)) = false := by decide) : PE X (.Name x pos) (tVar i) := by
 intro pins s σ H Q I h
 obtain ⟨v, e, h⟩ := h
 obtain ⟨m, hn, hl⟩ := I.loc
 obtain ⟨u, r, l⟩ := hl i x v hN e hv
 have fin : EP X pins σ Q u s := ⟨v, H, I, r, h⟩
 rcases l with ⟨hk, hm⟩ | ⟨hk, c, hc, hcell⟩
 ·exact wpAny_Name (wpAny_loadName_local I.ok.kind hk hn hm fin) hd
 ·rcases hk with hk | hk
  ·exact wpAny_Name (wpAny_loadName_cell I.ok.kind hk hc hcell fin) hd
  ·exact wpAny_Name (wpAny_loadName_free I.ok.kind hk hc hcell fin hcd) hd
theorem pe_int {i j pos} : PE X (.Constant (.int i) j pos) (tC (.int i)) := fun _ _ _ H _ I h => wpAny_Constant_int ⟨.int i, H, I.tok _, ⟨_, rfl⟩, h⟩
theorem pe_bl {b j pos} : PE X (.Constant (.bool b) j pos) (tC (.bl b)) := fun _ _ _ H _ I h => Constant_bool ⟨.bl b, H, I, rfl, h⟩
theorem pe_non {j pos} : PE X (.Constant .none j pos) (tC .non) := fun _ _ _ H _ I h => Constant_none ⟨.non, H, I, rfl, h⟩
theorem pe_str {x j pos} : PE X (.Constant (.str x) j pos) (tC (.str x)) := fun _ _ _ H _ I h => Calls.Constant_str ⟨.str x, H, I.tok _, ⟨_, rfl⟩, h⟩
def Gl (X : Cx) (x : Str) : Prop := X.env.kindOf x = some .globalImplicit
theorem ld_glob {E : Value -> Shared -> Prop} {pins : List (Addr × Obj)} {s : Shared} {σ : St} {H : Hp} {x : Str} {u : Value} {pos : Pos} {Q : Value -> Shared -> Prop} (I : Inv X pins σ H s) (hg : Gl X x) (hm : X.mg x = some u) (h : Q u s)
  (hd : (x == ("__debug__" : Str)) = false := by decide) : wpAny (model X.prog X.w) X.A (eval (.Name x pos) X.env) Q E s :=
 Calls.Name_function_global I.ok.kind hg (Calls.loadGlobal_global (by rw [I.ok.glob]; exact I.mod.glob.keeps I.bk) hm h) hd
theorem ld_blt {E : Value -> Shared -> Prop} {pins : List (Addr × Obj)} {s : Shared} {σ : St} {H : Hp} {x : Str} {u : Value} {pos : Pos} {Q : Value -> Shared -> Prop} (I : Inv X pins σ H s) (hg : Gl X x) (hm : X.mg x = none) (hv : bootBuiltins x = some u) (h : Q u s)
  (hn : x ≠ "__name__" := by decide) (hd : (x == ("__debug__" : Str)) = false := by decide) : wpAny (model X.prog X.w) X.A (eval (.Name x pos) X.env) Q E s := by
 obtain ⟨mb, h1, h2⟩ := I.mod.blt
 exact Calls.Name_function_global I.ok.kind hg (Calls.loadGlobal_builtin (by rw [I.ok.glob]; exact I.mod.glob.keeps I.bk) hm (by rw [I.ok.blt]; exact h1.keeps I.bk) ((h2 x hn).trans hv) h) hd
theorem pe_glob {x : Str} {v : V} {u : Value} {pos : Pos} (hg : Gl X x) (hm : X.mg x = some u) (r : RelV v u) (hd : (x == ("__debug__" : Str)) = false := by decide) : PE X (.Name x pos) (tC v) :=
 fun _ _ _ H _ I h => ld_glob I hg hm ⟨v, H, I, r, h⟩ hd
theorem pe_bltn {x : Str} {v : V} {u : Value} {pos : Pos} (hg : Gl X x) (hm : X.mg x = none) (hv : bootBuiltins x = some u) (r : RelV v u) (hn : x ≠ "__name__" := by decide) (hd : (x == ("__debug__" : Str)) = false := by decide) : PE X (.Name x pos) (tC v) :=
 fun _ _ _ H _ I h => ld_blt I hg hm hv ⟨v, H, I, r, h⟩ hn hd
variable {a b : Expr} {ta tb : TE} {pos : Pos}
def tB (t : TE) : TT := fun σ H Q => t σ H fun x H1 => ∃ c, x = .bl c /\ Q c H1
theorem pt_val {e : Expr} {t : TE} (h : PE X e t) (he : ∀ whole, isTrue e X.env whole = (do let v <- whole; standAt e.pos; holding [v] (truthy v)) := by intro _; rfl) : PT X e (tB t) := by
 intro pins s σ H Q I hw
 refine isTrue_plain (thn (h pins s σ H _ I hw) fun v s1 ⟨x, H1, I1, r1, q1⟩ => ?_) (he _)
 obtain ⟨d, rfl, q⟩ := q1
 cases r1
 exact wpAny_truthy_bool ⟨H1, I1, q⟩
variable {tA tB' : TT} {rest : List Expr}
def tAnd (t u : TT) : TT := fun σ H Q => t σ H fun c H1 => if c = true then u σ H1 Q else Q false H1
def tOr (t u : TT) : TT := fun σ H Q => t σ H fun c H1 => if c = true then Q true H1 else u σ H1 Q
def tNot (t : TT) : TT := fun σ H Q => t σ H fun c H1 => Q (!c) H1
theorem pw_and1 (ha : PT X a tA) : PW X (.BoolOp .And [a] pos) tA := by
 intro wh pins s σ H Q I h
 refine isTrue_and (thn (ha pins s σ H Q I h) fun c s1 e => ?_)
 cases c with
 | true => exact isTrue_and_nil e
 | false => exact e
theorem pw_or1 (ha : PT X a tA) : PW X (.BoolOp .Or [a] pos) tA := by
 intro wh pins s σ H Q I h
 refine isTrue_or (thn (ha pins s σ H Q I h) fun c s1 e => ?_)
 cases c with
 | false => exact isTrue_or_nil e
 | true => exact e
theorem pw_and (ha : PT X a tA) (hb : PW X (.BoolOp .And (b :: rest) pos) tB') : PW X (.BoolOp .And (a :: b :: rest) pos) (tAnd tA tB') := by
 intro wh pins s σ H Q I h
 refine isTrue_and (thn (ha pins s σ H _ I h) fun c s1 ⟨H1, I1, q1⟩ => ?_)
 cases c with
 | true => exact hb wh pins s1 σ H1 Q I1 q1
 | false => exact ⟨H1, I1, q1⟩
theorem pw_or (ha : PT X a tA) (hb : PW X (.BoolOp .Or (b :: rest) pos) tB') : PW X (.BoolOp .Or (a :: b :: rest) pos) (tOr tA tB') := by
 intro wh pins s σ H Q I h
 refine isTrue_or (thn (ha pins s σ H _ I h) fun c s1 ⟨H1, I1, q1⟩ => ?_)
 cases c with
 | true => exact ⟨H1, I1, q1⟩
 | false => exact hb wh pins s1 σ H1 Q I1 q1
theorem pt_not (ha : PT X a tA) : PT X (.UnaryOp .Not a pos) (tNot tA) := by
 intro pins s σ H Q I h
 exact isTrue_not (ha pins s σ H (fun c H1 => Q (!c) H1) I h)
def tAndV (ta tb : TE) : TE := fun σ H Q => ta σ H fun x H1 => ∃ c, x = .bl c /\ if c = true then tb σ H1 Q else Q (.bl false) H1
def tOrV (ta tb : TE) : TE := fun σ H Q => ta σ H fun x H1 => ∃ c, x = .bl c /\ if c = true then Q (.bl true) H1 else tb σ H1 Q
def tNotV (ta : TE) : TE := fun σ H Q => ta σ H fun x H1 => ∃ c, x = .bl c /\ Q (.bl (!c)) H1
theorem pe_one {op} {t : TE} (h : PE X a t) : PE X (.BoolOp op [a] pos) t := fun pins s σ H Q I hw => BoolOp_one (h pins s σ H Q I hw)
theorem pe_and (ha : PE X a ta) (hb : PE X (.BoolOp .And (b :: rest) pos) tb) : PE X (.BoolOp .And (a :: b :: rest) pos) (tAndV ta tb) := by
 intro pins s σ H Q I h
 refine BoolOp_and (thn (ha pins s σ H _ I h) fun v s1 ⟨x, H1, I1, r1, q1⟩ => ?_)
 obtain ⟨c, rfl, q1⟩ := q1
 cases r1
 refine wpAny_truthy_bool ?_
 cases c with
 | true => exact hb pins s1 σ H1 Q I1 q1
 | false => exact ⟨.bl false, H1, I1, rfl, q1⟩
theorem pe_or (ha : PE X a ta) (hb : PE X (.BoolOp .Or (b :: rest) pos) tb) : PE X (.BoolOp .Or (a :: b :: rest) pos) (tOrV ta tb) := by
 intro pins s σ H Q I h
 refine BoolOp_or (thn (ha pins s σ H _ I h) fun v s1 ⟨x, H1, I1, r1, q1⟩ => ?_)
 obtain ⟨c, rfl, q1⟩ := q1
 cases r1
 refine wpAny_truthy_bool ?_
 cases c with
 | false => exact hb pins s1 σ H1 Q I1 q1
 | true => exact ⟨.bl true, H1, I1, rfl, q1⟩
theorem pe_not (ha : PE X a ta) : PE X (.UnaryOp .Not a pos) (tNotV ta) := by
 intro pins s σ H Q I h
 refine UnaryOp_ (thn (ha pins s σ H _ I h) fun v s1 ⟨x, H1, I1, r1, q1⟩ => ?_)
 obtain ⟨c, rfl, q1⟩ := q1
 cases r1
 exact not_of (wpAny_truthy_bool ⟨.bl (!c), H1, I1, rfl, q1⟩)
def tIf (t : TT) (ta tb : TE) : TE := fun σ H Q => t σ H fun c H1 => if c = true then ta σ H1 Q else tb σ H1 Q
theorem pe_ifExp {c : Expr} (hc : PT X c tA) (ha : PE X a ta) (hb : PE X b tb) : PE X (.IfExp c a b pos) (tIf tA ta tb) := by
 intro pins s σ H Q I h
 refine wpAny_IfExp (thn (hc pins s σ H _ I h) fun d s1 ⟨H1, I1, q1⟩ => ?_)
 cases d with
 | true => exact ha pins s1 σ H1 Q I1 q1
 | false => exact hb pins s1 σ H1 Q I1 q1
end
end L2
namespace L2
open PySem PySem.Spec PyProof.Rows
def SqL (K : PySem.W.Frag) (H : Hp) (a : Addr) (xs : List V) : Prop :=
 Rd H a (.lst xs) \/
  ∃ (o : Obj) (its : Array Value) (n : Nat), K.lookup a = some o /\ o.cls = .type "list" /\ o.dict = none /\ o.data = .seq its n /\ its.size <= sizeLine /\ Vals xs its.toList
def SqT (K : PySem.W.Frag) (H : Hp) (a : Addr) (xs : List V) : Prop :=
 Rd H a (.tup xs) \/
  ∃ (o : Obj) (its : Array Value) (n : Nat), K.lookup a = some o /\ o.cls = .type "tuple" /\ o.data = .seq its n /\ its.size <= sizeLine /\ Vals xs its.toList
def absV : Value -> Option V
 | .none => some .non
 | .bool b => some (.bl b)
 | .int i _ => some (.int i)
 | .str x _ => some (.str x)
 | .bytes b _ => some (.byt b)
 | .float b _ => some (.flt b)
 | .ref a => some (.ref a)
 | .type n => some (.ty n)
 | _ => none
theorem RelV.abs {x : V} {u : Value} (r : RelV x u) : absV u = some x := by
 cases x with
 | non => cases r; rfl
 | bl _ => cases r; rfl
 | int _ => obtain ⟨t, rfl⟩ := r; rfl
 | str _ => obtain ⟨t, rfl⟩ := r; rfl
 | byt _ => obtain ⟨t, rfl⟩ := r; rfl
 | flt _ => obtain ⟨t, rfl⟩ := r; rfl
 | ref _ => cases r; rfl
 | ty _ => cases r; rfl
theorem RelV.inj {x y : V} {u : Value} (r : RelV x u) (q : RelV y u) : x = y := Option.some.inj (r.abs.symm.trans q.abs)
theorem Vals.inj : ∀ {xs ys : List V} {us : List Value}, Vals xs us -> Vals ys us -> xs = ys
 | _, _, _, .nil, .nil => rfl
 | _, _, _, .cons r t, .cons r' t' => by rw [r.inj r', Vals.inj t t']
section
variable {X : Cx} {pins : List (Addr × Obj)} {σ : St} {H : Hp} {s : Shared} {a : Addr} {xs ys : List V}
theorem SqL.of {K : PySem.W.Frag} (h : H a = some (.lst xs)) : SqL K H a xs := .inl (.inl h)
theorem SqT.of {K : PySem.W.Frag} (h : H a = some (.tup xs)) : SqT K H a xs := .inl (.inl h)
theorem Inv.list (I : Inv X pins σ H s) (h : SqL X.K H a xs) : ∃ its : List Value, Vals xs its /\ PlainL s.heap a its.toArray /\ xs.length <= sizeLine := by
 rcases h with h | ⟨o, its, n, hk, hc, hd, hs, hz, r⟩
 ·obtain ⟨z, its, n, r, e⟩ := h.ok I.hok
  exact ⟨its, r, ⟨_, n, e, rfl, rfl, rfl⟩, z⟩
 ·refine ⟨its.toList, r, ⟨o, n, I.kIn a o hk, hc, hd, by simpa using hs⟩, ?_⟩
  have e := r.length
  simp only [Array.length_toList] at e
  omega
theorem Inv.tuple (I : Inv X pins σ H s) (h : SqT X.K H a xs) : ∃ its : List Value, Vals xs its /\ IsTup s.heap a its.toArray /\ xs.length <= sizeLine := by
 rcases h with h | ⟨o, its, n, hk, hc, hs, hz, r⟩
 ·obtain ⟨z, its, r, p⟩ := h.ok I.hok
  exact ⟨its, r, p, z⟩
 ·refine ⟨its.toList, r, ⟨o, I.kIn a o hk, hc, n, by simpa using hs⟩, ?_⟩
  have e := r.length
  simp only [Array.length_toList] at e
  omega
theorem Inv.list_inj (I : Inv X pins σ H s) (h : SqL X.K H a xs) (h' : SqL X.K H a ys) : xs = ys := by
 obtain ⟨its, r, ⟨o, n, e, _, _, d⟩, _⟩ := I.list h
 obtain ⟨its', r', ⟨o', n', e', _, _, d'⟩, _⟩ := I.list h'
 rw [e] at e'; cases e'
 rw [d] at d'
 injection d' with d1 _
 have : its = its' := by simpa using congrArg Array.toList d1
 subst this
 exact r.inj r'
theorem Inv.tuple_inj (I : Inv X pins σ H s) (h : SqT X.K H a xs) (h' : SqT X.K H a ys) : xs = ys := by
 obtain ⟨its, r, ⟨o, e, _, n, d⟩, _⟩ := I.tuple h
 obtain ⟨its', r', ⟨o', e', _, n', d'⟩, _⟩ := I.tuple h'
 rw [e] at e'; cases e'
 rw [d] at d'
 injection d' with d1 _
 have : its = its' := by simpa using congrArg Array.toList d1
 subst this
 exact r.inj r'
end
abbrev Cx.wish (X : Cx) (E : Value -> Shared -> Prop) : Cx := { X with xe := E }
abbrev Cx.nox (X : Cx) : Cx := X.wish fun _ _ => False
theorem Cx.Ok.wish {X : Cx} (ok : X.Ok) (E : Value -> Shared -> Prop) : (X.wish E).Ok :=
 ⟨ok.mod, ok.kind, ok.glob, ok.blt, ok.above, ok.inj, ok.has, ok.cab, ok.hd, ok.frames, ok.stk, ok.exf, ok.bs, ok.bsz, ok.noex, ok.exfs, ok.funs, ok.frf⟩
theorem Cx.Ok.unwish {X : Cx} {E : Value -> Shared -> Prop} (ok : (X.wish E).Ok) : X.Ok :=
 ⟨ok.mod, ok.kind, ok.glob, ok.blt, ok.above, ok.inj, ok.has, ok.cab, ok.hd, ok.frames, ok.stk, ok.exf, ok.bs, ok.bsz, ok.noex, ok.exfs, ok.funs, ok.frf⟩
section
variable {X : Cx} {pins : List (Addr × Obj)} {σ : St} {H : Hp} {s : Shared} {E : Value -> Shared -> Prop}
theorem Inv.wish (I : Inv X pins σ H s) (E : Value -> Shared -> Prop) : Inv (X.wish E) pins σ H s := ⟨I.ok.wish E, I.os, I.bare, I.base, I.loc, I.cell, I.free, I.freeC, I.pin, I.hok, I.len⟩
theorem Inv.unwish (I : Inv (X.wish E) pins σ H s) : Inv X pins σ H s := ⟨I.ok.unwish, I.os, I.bare, I.base, I.loc, I.cell, I.free, I.freeC, I.pin, I.hok, I.len⟩
theorem SP.unwish {D : Ends} {f : Flow} {s' : Shared} (h : SP (X.wish E) pins D f s') : SP X pins D f s' := by
 cases f with
 | next => obtain ⟨σ', H', I, q⟩ := h; exact ⟨σ', H', I.unwish, q⟩
 | brk => obtain ⟨σ', H', I, q⟩ := h; exact ⟨σ', H', I.unwish, q⟩
 | cont => obtain ⟨σ', H', I, q⟩ := h; exact ⟨σ', H', I.unwish, q⟩
 | ret u => obtain ⟨v, σ', H', I, r, q⟩ := h; exact ⟨v, σ', H', I.unwish, r, q⟩
theorem PSs.nox {st : List Stmt} {t : TS} (h : PSs X.nox st t) : PSs X st t := fun pins s σ H D I hw =>
 wpAny_mono (h pins s σ H D (I.wish _) hw) (fun _ _ q => q.unwish) fun _ _ z => False.elim z
end
section
variable {X : Cx} {st : Stmt} {rest : List Stmt} {t u : TS} {e : Expr} {te : TE} {pos : Pos}
def tNext : TS := fun D σ H => D.nx σ H
def tSeq (t u : TS) : TS := fun D σ H => t { D with nx := u D } σ H
theorem pss_nil : PSs X [] tNext := fun _ _ σ H _ I h => wpAny_execs_nil ⟨σ, H, I, h⟩
theorem pss_cons (h1 : PS X st t) (h2 : PSs X rest u) : PSs X (st :: rest) (tSeq t u) := by
 intro pins s σ H D I h
 refine wpAny_execs_cons (thn (h1 pins s σ H { D with nx := u D } I h) fun f s1 q => ?_)
 cases f with
 | next =>
  obtain ⟨σ', H', I', q⟩ := q
  exact h2 pins s1 σ' H' D I' q
 | ret v => exact q
 | brk => exact q
 | cont => exact q
theorem pss_one (h1 : PS X st t) : PSs X [st] t := by
 intro pins s σ H D I h
 refine wpAny_execs_cons (thn (h1 pins s σ H D I h) fun f s1 q => ?_)
 cases f with
 | next => exact wpAny_execs_nil q
 | ret v => exact q
 | brk => exact q
 | cont => exact q
def tBreak : TS := fun D σ H => D.bk σ H
def tCont : TS := fun D σ H => D.ct σ H
theorem ps_pass : PS X (.Pass pos) tNext := fun _ _ σ H _ I h => wpAny_Pass ⟨σ, H, I, h⟩
theorem ps_break : PS X (.Break pos) tBreak := fun _ _ σ H _ I h => wpAny_Break ⟨σ, H, I, h⟩
theorem ps_continue : PS X (.Continue pos) tCont := fun _ _ σ H _ I h => wpAny_Continue ⟨σ, H, I, h⟩
theorem Inv.quiet {pins : List (Addr × Obj)} {σ : St} {H : Hp} {s : Shared} (I : Inv X pins σ H s) : interactive X.env = false := by simp [interactive, I.ok.kind]
def tDrop (te : TE) : TS := fun D σ H => te σ H fun _ H1 => D.nx σ H1
theorem ps_expr (he : PE X e te) (hs : swapsWith e none pos.line X.env = pure false := by rfl) : PS X (.Expr e pos) (tDrop te) := by
 intro pins s σ H D I h
 exact wpAny_Expr_any (thn (he pins s σ H _ I h) fun v s1 ⟨x, H1, I1, r1, q1⟩ => ⟨σ, H1, I1, q1⟩) I.quiet hs
def tRet (te : TE) : TS := fun D σ H => te σ H D.rt
theorem ps_ret (he : PE X e te) : PS X (.Return (some e) pos) (tRet te) := by
 intro pins s σ H D I h
 exact wpAny_Return_some (thn (he pins s σ H _ I h) fun v s1 ⟨x, H1, I1, r1, q1⟩ => ⟨x, σ, H1, I1, r1, q1⟩)
def tRetN : TS := fun D _ H => D.rt .non H
theorem ps_retN : PS X (.Return none pos) tRetN := fun _ _ σ H _ I h => wpAny_Return_none ⟨.non, σ, H, I, rfl, h⟩
def tIfS (c : TT) (t u : TS) : TS := fun D σ H => c σ H fun b H1 => if b = true then t D σ H1 else u D σ H1
theorem ps_if {c : Expr} {a b : List Stmt} {tc : TT} (hc : PT X c tc) (ha : PSs X a t) (hb : PSs X b u) : PS X (.If c a b pos) (tIfS tc t u) := by
 intro pins s σ H D I h
 refine wpAny_If (thn (hc pins s σ H _ I h) fun d s1 ⟨H1, I1, q1⟩ => ?_)
 cases d with
 | true => exact ha pins s1 σ H1 D I1 q1
 | false => exact hb pins s1 σ H1 D I1 q1
def tNever : TS := fun _ _ _ => False
theorem ps_never : PS X st tNever := fun _ _ _ _ _ _ h => h.elim
end
abbrev TG := V -> St -> Hp -> (St -> Hp -> Prop) -> Prop
abbrev TGs := List V -> St -> Hp -> (St -> Hp -> Prop) -> Prop
def PG (X : Cx) (target : Expr) (t : TG) : Prop :=
 ∀ (pins : List (Addr × Obj)) (s : Shared) (σ : St) (H : Hp) (v : V) (u : Value) (Q : St -> Hp -> Prop), Inv X pins σ H s -> RelV v u -> t v σ H Q ->
  wpAny (model X.prog X.w) X.A (assign target X.env u) (fun _ s' => ∃ σ' H', Inv X pins σ' H' s' /\ Q σ' H') X.xe s
def PGs (X : Cx) (ts : List Expr) (t : TGs) : Prop :=
 ∀ (pins : List (Addr × Obj)) (s : Shared) (σ : St) (H : Hp) (vs : List V) (us : List Value) (Q : St -> Hp -> Prop), Inv X pins σ H s -> Vals vs us -> t vs σ H Q ->
  wpAny (model X.prog X.w) X.A (assignInOrder ((assignEach ts X.env).map (·.2)) us) (fun _ s' => ∃ σ' H', Inv X pins σ' H' s' /\ Q σ' H') X.xe s
abbrev TSet := V -> V -> V -> Hp -> (Hp -> Prop) -> Prop
def PSet (X : Cx) (t : TSet) : Prop :=
 ∀ (pins : List (Addr × Obj)) (s : Shared) (σ : St) (H : Hp) (o i v : V) (ov iv u : Value) (Q : Hp -> Prop), Inv X pins σ H s -> RelV o ov -> RelV i iv -> RelV v u -> t o i v H Q ->
  wpAny (model X.prog X.w) X.A (setItem ov iv u) (fun _ s' => ∃ H', Inv X pins σ H' s' /\ Q H') X.xe s
abbrev TIp := V -> V -> Hp -> VK -> Prop
def PIp (X : Cx) (op : Operator) (t : TIp) : Prop :=
 ∀ (pins : List (Addr × Obj)) (s : Shared) (σ : St) (H : Hp) (x y : V) (v u : Value) (Q : VK), Inv X pins σ H s -> RelV x v -> RelV y u -> t x y H Q ->
  wpAny (model X.prog X.w) X.A (inplaceOp op v u) (EP X pins σ Q) X.xe s
section
variable {X : Cx} {pos : Pos}
def gName (i : Nat) : TG := fun v σ H Q => Q (σ.set i (some v)) H
theorem pg_name {i : Nat} {x : Str} (hN : X.N.Nodup) (hi : X.N[i]? = some x) (hx : Loc X.env.scope x) (hf : X.fn x = true \/ X.env.scope.names.lookup x = some .local := by first | exact .inl rfl | exact .inr rfl | assumption) : PG X (.Name x pos) (gName i) := by
 intro pins s σ H v u Q I r h
 exact wpAny_assign_Name (store_ok I hN hi hx r (fun s' I' => ⟨_, H, I', h⟩) hf)
def gNil : TGs := fun vs σ H Q => vs = [] /\ Q σ H
def gCons (t : TG) (u : TGs) : TGs := fun vs σ H Q => ∃ v r, vs = v :: r /\ t v σ H fun σ' H' => u r σ' H' Q
theorem pgs_nil : PGs X [] gNil := by
 intro pins s σ H vs us Q I r h
 obtain ⟨e, h⟩ := h
 subst e
 cases r
 exact assignInOrder_nil ⟨σ, H, I, h⟩
theorem pgs_cons {e : Expr} {es : List Expr} {t : TG} {u : TGs} (h1 : PG X e t) (h2 : PGs X es u)
  (hs : (assignEach (e :: es) X.env).map (·.2) = assign e X.env :: (assignEach es X.env).map (·.2) := by rfl) : PGs X (e :: es) (gCons t u) := by
 intro pins s σ H vs us Q I r h
 obtain ⟨v, vr, e1, h⟩ := h
 subst e1
 cases r with
 | cons r rr =>
  rw [hs]
  refine assignInOrder_cons (thn (h1 pins s σ H _ _ _ I r h) fun _ s1 ⟨σ1, H1, I1, q1⟩ => ?_)
  exact h2 pins s1 σ1 H1 _ _ Q I1 rr q1
def gTup (K : PySem.W.Frag) (n : Nat) (t : TGs) : TG := fun v σ H Q => ∃ a xs, v = .ref a /\ SqT K H a xs /\ xs.length = n /\ t xs σ H Q
theorem pg_tup {es : List Expr} {k : Nat} {t : TGs} {n : Nat} (hc : X.calm = true) (h : PGs X es t)
  (hn : (assignEach es X.env).length = n := by rfl) (hst : (assignEach es X.env).findIdx? (·.1) = none := by rfl) : PG X (.Tuple es k pos) (gTup X.K n t) := by
 intro pins s σ H v u Q I r hw
 obtain ⟨a, xs, e1, hq, hl, hw⟩ := hw
 subst e1
 cases r
 obtain ⟨its, rv, ht, hz⟩ := I.tuple hq
 refine assign_Tuple_tuple (I.ok.hd hc) ht (by simp [hn, <- hl, rv.length]) hst fun h' hx => ?_
 have I1 : Inv X pins σ H { s with heap := h' } := I.kept (t' := s.toks) fun b o e => hx b o (Nat.ne_of_lt (Heap.lt_size e)) e
 exact h pins _ σ H xs _ Q I1 (by simpa using rv) hw
def gSub (to ti : TE) (t : TSet) : TG := fun v σ H Q => to σ H fun o H1 => ti σ H1 fun i H2 => t o i v H2 fun H3 => Q σ H3
theorem pg_sub {o i : Expr} {to ti : TE} {t : TSet} (ho : PE X o to) (hi : PE X i ti) (hs : PSet X t)
  (ha : ∀ v, assign (.Subscript o i pos) X.env v = (do
   let ov <- holding [v] (eval o X.env)
   let iv <- holding [v, ov] (eval i X.env)
   standAt pos
   holding [v, ov, iv] (setItem ov iv v)
   release [v, ov, iv] []) := by intro _; rfl) : PG X (.Subscript o i pos) (gSub to ti t) := by
 intro pins s σ H v u Q I r h
 rw [ha]
 refine wpAny_bind (wpAny_holding (thn (ho pins s σ H _ I h) fun ov s1 ⟨x, H1, I1, r1, q1⟩ => ?_))
 refine wpAny_bind (wpAny_holding (thn (hi pins s1 σ H1 _ I1 q1) fun iv s2 ⟨y, H2, I2, r2, q2⟩ => ?_))
 refine wpAny_bind (wpAny_standAt (wpAny_bind (wpAny_holding (thn (hs pins s2 σ H2 x y v ov iv u _ I2 r1 r2 r q2) fun _ s3 ⟨H3, I3, q3⟩ => ?_))))
 exact wpAny_release ⟨σ, H3, I3, q3⟩
def tAsg (te : TE) (g : TG) : TS := fun D σ H => te σ H fun x H1 => g x σ H1 D.nx
theorem ps_asg {tg e : Expr} {te : TE} {g : TG} (he : PE X e te) (hg : PG X tg g) (hs : swapsWithSole [tg] e pos.line X.env = pure false := by rfl) (hw : swappedStores [tg] e X.env = pure none := by rfl)
  (h1 : (assignEach [tg] X.env).map (·.2) = [assign tg X.env] := by rfl) : PS X (.Assign [tg] e pos) (tAsg te g) := by
 intro pins s σ H D I h
 refine wpAny_Assign_stores (thn (he pins s σ H _ I h) fun v s1 ⟨x, H1, I1, r1, q1⟩ => ?_) hs hw
 rw [h1]
 exact thn (hg pins s1 σ H1 x v _ I1 r1 q1) fun _ s2 q => q
theorem ps_set {i : Nat} {x : Str} {e : Expr} {te : TE} {pos' : Pos} (hN : X.N.Nodup) (hi : X.N[i]? = some x) (hx : Loc X.env.scope x) (he : PE X e te) (hs : swapsWith e (some (.Name x pos')) pos.line X.env = pure false := by rfl) (hf : X.fn x = true \/ X.env.scope.names.lookup x = some .local := by first | exact .inl rfl | exact .inr rfl | assumption) :
  PS X (.Assign [.Name x pos'] e pos) (tAsg te (gName i)) := by
 intro pins s σ H D I h
 refine wpAny_Assign_Name (thn (he pins s σ H _ I h) fun v s1 ⟨y, H1, I1, r1, q1⟩ => ?_) hs
 exact store_ok I1 hN hi hx r1 (fun s2 I2 => ⟨_, H1, I2, q1⟩) hf
def tAug (i : Nat) (te : TE) (ti : TIp) : TS := fun D σ H => ∃ x, σ[i]? = some (some x) /\ te σ H fun y H1 => ti x y H1 fun z H2 => D.nx (σ.set i (some z)) H2
theorem ps_aug {i : Nat} {x : Str} {e : Expr} {te : TE} {op : Operator} {ti : TIp} {pos' : Pos} (hN : X.N.Nodup) (hi : X.N[i]? = some x) (hx : Loc X.env.scope x) (he : PE X e te) (ho : PIp X op ti) (hf : X.fn x = true \/ X.env.scope.names.lookup x = some .local := by first | exact .inl rfl | exact .inr rfl | assumption) :
  PS X (.AugAssign (.Name x pos') op e pos) (tAug i te ti) := by
 intro pins s σ H D I h
 obtain ⟨v, e1, h⟩ := h
 obtain ⟨m, hn, hl⟩ := I.loc
 have vis : Vis X.env.scope x := by rcases hx with k | k; exact .inl k; exact .inr (.inl k)
 obtain ⟨u, r, l⟩ := hl i x v hi e1 vis
 refine wpAny_AugAssign_Name ?_
 have go : wpAny (model X.prog X.w) X.A (eval e X.env) (fun w s₂ => wpAny (model X.prog X.w) X.A (inplaceOp op u w) (fun r s₃ => wpAny (model X.prog X.w) X.A (storeName X.env x r) (fun _ => SP X pins D .next) X.xe s₃) X.xe s₂) X.xe s := by
  refine thn (he pins s σ H _ I h) fun w s1 ⟨y, H1, I1, r1, q1⟩ => ?_
  refine thn (ho pins s1 σ H1 v y u w _ I1 r r1 q1) fun z s2 ⟨zv, H2, I2, r2, q2⟩ => ?_
  exact store_ok I2 hN hi hx r2 (fun s3 I3 => ⟨_, H2, I3, q2⟩) hf
 rcases l with ⟨hk, hm⟩ | ⟨hk, c, hc, hcell⟩
 ·exact wpAny_loadName_local I.ok.kind hk hn hm go
 ·rcases hk with hk | hk
  ·exact wpAny_loadName_cell I.ok.kind hk hc hcell go
  ·rcases hx with k | k
   ·have : X.env.scope.names.lookup x = some .free := hk
    rw [k] at this; cases this
   ·have : X.env.scope.names.lookup x = some .free := hk
    rw [k] at this; cases this
def tAugS (to ti te : TE) (tget : V -> V -> Hp -> VK -> Prop) (tip : TIp) (tset : TSet) : TS := fun D σ H => to σ H fun o H1 => ti σ H1 fun i H2 => tget o i H2 fun x H3 => te σ H3 fun y H4 => tip x y H4 fun z H5 => tset o i z H5 fun H6 => D.nx σ H6
def PGet (X : Cx) (t : V -> V -> Hp -> VK -> Prop) : Prop :=
 ∀ (pins : List (Addr × Obj)) (s : Shared) (σ : St) (H : Hp) (o i : V) (ov iv : Value) (Q : VK), Inv X pins σ H s -> RelV o ov -> RelV i iv -> t o i H Q ->
  wpAny (model X.prog X.w) X.A (getItem ov iv) (EP X pins σ Q) X.xe s
theorem ps_augS {o i e : Expr} {to ti te : TE} {tget : V -> V -> Hp -> VK -> Prop} {tip : TIp} {tset : TSet} {op : Operator} {tpos : Pos} (ho : PE X o to) (hi : PE X i ti) (hg : PGet X tget) (he : PE X e te) (hp : PIp X op tip) (hs : PSet X tset)
  (ha : ∀ ov iv new, augStore i ov iv new = (do holding [new, ov, iv] (setItem ov iv new); release [new, ov, iv] []; pure .next) := by intros; rfl) : PS X (.AugAssign (.Subscript o i tpos) op e pos) (tAugS to ti te tget tip tset) := by
 intro pins s σ H D I h
 refine wpAny_AugAssign_SubscriptAny (thn (ho pins s σ H _ I h) fun ov s1 ⟨x1, H1, I1, r1, q1⟩ => ?_) ha
 refine thn (hi pins s1 σ H1 _ I1 q1) fun iv s2 ⟨x2, H2, I2, r2, q2⟩ => ?_
 refine thn (hg pins s2 σ H2 x1 x2 ov iv _ I2 r1 r2 q2) fun old s3 ⟨x3, H3, I3, r3, q3⟩ => ?_
 refine thn (he pins s3 σ H3 _ I3 q3) fun v s4 ⟨x4, H4, I4, r4, q4⟩ => ?_
 refine thn (hp pins s4 σ H4 x3 x4 old v _ I4 r3 r4 q4) fun new s5 ⟨x5, H5, I5, r5, q5⟩ => ?_
 exact thn (hs pins s5 σ H5 x1 x2 x5 ov iv new _ I5 r1 r2 r5 q5) fun _ s6 ⟨H6, I6, q6⟩ => ⟨σ, H6, I6, q6⟩
def ipI (f : Int -> Int -> Int) : TIp := fun x y H Q => ∃ i j, x = .int i /\ y = .int j /\ Q (.int (f i j)) H
theorem ip_add : PIp X .Add (ipI fun i j => i + j) := by
 intro pins s σ H x y v u Q I r1 r2 h
 obtain ⟨i, j, e1, e2, q⟩ := h
 subst e1; subst e2
 obtain ⟨t, rfl⟩ := r1
 obtain ⟨t', rfl⟩ := r2
 exact iadd_int ⟨.int _, H, I.tok _, ⟨_, rfl⟩, q⟩
theorem ip_sub : PIp X .Sub (ipI fun i j => i - j) := by
 intro pins s σ H x y v u Q I r1 r2 h
 obtain ⟨i, j, e1, e2, q⟩ := h
 subst e1; subst e2
 obtain ⟨t, rfl⟩ := r1
 obtain ⟨t', rfl⟩ := r2
 exact isub_int ⟨.int _, H, I.tok _, ⟨_, rfl⟩, q⟩
end
section
variable {X : Cx} {pos : Pos}
def tWhile (c : TT) (tb : TS) : TS := fun D σ H => ∃ W : Nat -> St -> Hp -> Prop, (∃ m, W m σ H) /\ ∀ m σ H, W m σ H ->
 c σ H fun b H1 => if b = true then ∃ N : St -> Hp -> Prop, (∀ σ' H', N σ' H' -> ∃ m', m' < m /\ W m' σ' H') /\ tb { D with nx := N, ct := N, bk := D.nx } σ H1 else D.nx σ H1
theorem ps_while {c : Expr} {body : List Stmt} {tc : TT} {tb : TS} (hp : PassesOwn (model X.prog X.w) X.A X.env X.xe) (hc : PT X c tc) (hb : PSs X body tb) : PS X (.While c body [] pos) (tWhile tc tb) := by
 intro pins s σ H D I h
 obtain ⟨W, ⟨m0, w0⟩, turn⟩ := h
 refine wpAny_While (codeAny_whileLoop (fun n s' => ∃ σ' H', Inv X pins σ' H' s' /\ W n σ' H') ?_ m0 ⟨σ, H, I, w0⟩)
 rintro n s1 ⟨σ1, H1, I1, w1⟩
 refine wpAny_passesOwn hp (thn (hc pins s1 σ1 H1 _ I1 (turn n σ1 H1 w1)) fun b s2 ⟨H2, I2, q2⟩ => ?_)
 cases b with
 | true =>
  obtain ⟨N, hN, q2⟩ := q2
  rw [if_pos rfl]
  refine wpAny_passesOwn hp (thn (hb pins s2 σ1 H2 _ I2 q2) fun f s3 q3 => ?_)
  cases f with
  | next =>
   obtain ⟨σ3, H3, I3, n3⟩ := q3
   obtain ⟨m', hm, w3⟩ := hN σ3 H3 n3
   exact ⟨m', hm, σ3, H3, I3, w3⟩
  | cont =>
   obtain ⟨σ3, H3, I3, n3⟩ := q3
   obtain ⟨m', hm, w3⟩ := hN σ3 H3 n3
   exact ⟨m', hm, σ3, H3, I3, w3⟩
  | brk => exact q3
  | ret v => exact q3
 | false =>
  rw [if_neg Bool.false_ne_true]
  exact wpAny_execs_nil ⟨σ1, H2, I2, q2⟩
end
structure It where
 go : Nat -> Hp -> Prop
 yld : Nat -> Hp -> V -> Hp -> Prop
 stop : Nat -> Hp -> Prop
def FpOk (X : Cx) (pins : List (Addr × Obj)) (H : Hp) (b : Addr) : Prop :=
 H b = none /\ b ≠ X.env.locals /\ b ∉ X.fs /\ (b ∈ X.ex \/ X.s₀.heap.objs.size <= b) /\ (∀ x c, X.env.cells.lookup x = some c -> c ≠ b) /\ ∀ p ∈ X.pn ++ pins, p.1 ≠ b
theorem Inv.fpOk {X : Cx} {pins : List (Addr × Obj)} {σ : St} {H H' : Hp} {s : Shared} {b : Addr} (I : Inv X pins σ H s) (hb : s.heap.objs.size <= b) (hn : H' b = none) : FpOk X pins H' b := by
 refine ⟨hn, Nat.ne_of_gt (Nat.lt_of_lt_of_le I.lt hb), I.nofs hb, .inr (Nat.le_trans I.sz hb), fun x c e z => ?_, fun p hp z => ?_⟩
 ·obtain ⟨v, q⟩ := I.cell x c e
  exact absurd (Nat.lt_of_lt_of_le q.lt (by rw [z]; exact hb)) (Nat.lt_irrefl _)
 ·exact absurd (Nat.lt_of_lt_of_le (Heap.lt_size (I.pin p hp).1) (by rw [z]; exact hb)) (Nat.lt_irrefl _)
structure Turn (P : Program) (w : World) (K : PySem.W.Frag) (tg : Expr) (J : It) (fp : List Addr) (it : Addr) (tn : Nat -> Heap -> Prop) : Prop where
 mem : it ∈ fp
 obj : ∀ i h, tn i h -> ∀ b ∈ fp, ∃ o, h.get? b = some o /\ ∀ v, o.data ≠ .cell v
 keep : ∀ i h h', tn i h -> (∀ b ∈ fp, ∀ o, h.get? b = some o -> h'.get? b = some o) -> tn i h'
 item : ∀ (X : Cx), X.prog = P -> X.w = w -> X.K = K -> X.calm = true -> ∀ (i : Nat) (pins : List (Addr × Obj)) (s : Shared) (σ : St) (H : Hp) (E : Value -> Shared -> Prop), Inv X pins σ H s -> (∀ b ∈ fp, FpOk X pins H b) -> tn i s.heap -> J.go i H ->
  wpAny (model P w) X.A (pyNext (.ref it)) (fun r s1 => ∃ u, r = some u /\
   wpAny (model P w) X.A (letOwnedTupleGo tg (.ref it) u) (fun _ s2 => ∃ x H', Inv X pins σ H' s2 /\ RelV x u /\ J.yld i H x H' /\ tn (i + 1) s2.heap /\ ∀ b ∈ fp, H' b = none) E s1) E s
 done : ∀ (X : Cx), X.prog = P -> X.w = w -> X.K = K -> X.calm = true -> ∀ (i : Nat) (pins : List (Addr × Obj)) (s : Shared) (σ : St) (H : Hp) (E : Value -> Shared -> Prop), Inv X pins σ H s -> (∀ b ∈ fp, FpOk X pins H b) -> tn i s.heap -> J.stop i H ->
  wpAny (model P w) X.A (pyNext (.ref it)) (fun r s1 => r = none /\ Inv X pins σ H s1) E s
 self : ∀ (A : Around) (i : Nat) (s : Shared) (Q : Value -> Shared -> Prop) (E : Value -> Shared -> Prop), tn i s.heap -> Q (.ref it) s -> wpAny (model P w) A (pyIter (.ref it)) Q E s
abbrev TI := St -> Hp -> (It -> Hp -> Prop) -> Prop
def PIE (X : Cx) (pins : List (Addr × Obj)) (σ : St) (tg : Expr) (R : It -> Hp -> Prop) (itv : Value) (s2 : Shared) : Prop :=
 ∃ (it : Addr) (fp : List Addr) (tn : Nat -> Heap -> Prop) (J : It) (H' : Hp), itv = .ref it /\ Inv X pins σ H' s2 /\ Turn X.prog X.w X.K tg J fp it tn /\ tn 0 s2.heap /\ (∀ b ∈ fp, FpOk X pins H' b) /\ R J H'
def PI (X : Cx) (tg iter : Expr) (wi : TI) : Prop :=
 ∀ (pins : List (Addr × Obj)) (s : Shared) (σ : St) (H : Hp) (R : It -> Hp -> Prop), Inv X pins σ H s -> wi σ H R ->
  wpAny (model X.prog X.w) X.A (eval iter X.env) (fun v s1 => wpAny (model X.prog X.w) X.A (pyIter v) (PIE X pins σ tg R) X.xe s1) X.xe s
theorem go_of {M : Model} {A : Around} {E : Value -> Shared -> Prop} {s : Shared} {tg : Expr} {it : Addr} {u : Value} {o : Obj} {n : String} {vs : Array Value} {Q : Unit -> Shared -> Prop} (ho : s.heap.get? it = some o) (hc : o.cls = .type n) (hd : o.data = .fields vs)
  (hn : ["enumerate", "zip", "dict_itemiterator", "dict_reverseitemiterator", "odict_iterator", "itertools.zip_longest", "itertools.pairwise"].contains n = false) (hQ : Q () s) : wpAny M A (letOwnedTupleGo tg (.ref it) u) Q E s := by
 unfold letOwnedTupleGo
 cases tg <;> first
  | exact wpAny_pure hQ
  | (cases u <;> first
    | exact wpAny_pure hQ
    | (refine wpAny_bind (wpAny_load ho ?_)
       rw [hc, hd]
       show wpAny M A (if (["enumerate", "zip", "dict_itemiterator", "dict_reverseitemiterator", "odict_iterator", "itertools.zip_longest", "itertools.pairwise"].contains n && vs[0]? == some (rawInt _)) = true then _ else _) Q E s
       rw [if_neg (by intro h; rw [hn, Bool.false_and] at h; cases h)]
       exact wpAny_pure hQ))
def Itl (K : PySem.W.Frag) (a : Addr) : It :=
 ⟨fun i H => ∃ xs x, SqL K H a xs /\ xs[i]? = some x, fun i H x H' => H' = H /\ ∀ xs, SqL K H a xs -> xs[i]? = some x, fun i H => ∃ xs, SqL K H a xs /\ xs.length <= i⟩
def Itt (K : PySem.W.Frag) (a : Addr) : It :=
 ⟨fun i H => ∃ xs x, SqT K H a xs /\ xs[i]? = some x, fun i H x H' => H' = H /\ ∀ xs, SqT K H a xs -> xs[i]? = some x, fun i H => ∃ xs, SqT K H a xs /\ xs.length <= i⟩
def Itr (lo : Int) (n : Nat) : It := ⟨fun i _ => i < n, fun i H x H' => H' = H /\ x = .int (lo + i), fun i _ => n <= i⟩
theorem turn_list {P : Program} {w : World} {K : PySem.W.Frag} {tg : Expr} (a it : Addr) : Turn P w K tg (Itl K a) [it] it (fun i h => h.IsListIter it a i) where
 mem := by simp
 obj := fun i h st b hb => by
  have e : b = it := by simpa using hb
  subst e
  obtain ⟨o, e, c, d⟩ := st
  exact ⟨o, e, fun v z => by rw [d] at z; cases z⟩
 keep := fun i h h' st k => st.at fun o e => k it (by simp) o e
 item := by
  intro X hP hw hK hc i pins s σ H E I hf st hg
  subst hP hw hK
  obtain ⟨xs, x, hq, hx⟩ := hg
  obtain ⟨its, rv, p, hz⟩ := I.list hq
  obtain ⟨u, hu, ru⟩ := rv.get hx
  obtain ⟨f0, f1, f2, f3, f4, f5⟩ := hf it (by simp)
  refine wpAny_pyNext_list_item st p.isList (x := u) (by simpa using hu) fun h' st' sb => ?_
  have I1 : Inv X pins σ H { s with heap := h' } := I.turned (t' := s.toks) (fun b o hb e => (sb.2 b hb).trans e) f0 f1 f3 f4 f5
  obtain ⟨o, e, c, d⟩ := id st'
  exact ⟨u, rfl, go_of (s := { s with heap := h' }) e c d (by decide) ⟨x, H, I1, ru, ⟨rfl, fun ys hy => by rw [I.list_inj hy hq]; exact hx⟩, st', fun b hb => (hf b hb).1⟩⟩
 done := by
  intro X hP hw hK hc i pins s σ H E I hf st hg
  subst hP hw hK
  obtain ⟨xs, hq, hx⟩ := hg
  obtain ⟨its, rv, p, hz⟩ := I.list hq
  obtain ⟨f0, f1, f2, f3, f4, f5⟩ := hf it (by simp)
  have hl := rv.length
  exact wpAny_pyNext_list_end (I.ok.hd hc) st p.isList (by simp; omega) fun h' eb => ⟨rfl, I.turned (t' := s.toks) (fun b o hb e => eb b o hb e) f0 f1 f3 f4 f5⟩
 self := fun _ _ _ _ _ st h => wpAny_pyIter_listiter st h
theorem turn_tuple {P : Program} {w : World} {K : PySem.W.Frag} {tg : Expr} (a it : Addr) : Turn P w K tg (Itt K a) [it] it (fun i h => h.IsTupleIter it a i) where
 mem := by simp
 obj := fun i h st b hb => by
  have e : b = it := by simpa using hb
  subst e
  obtain ⟨o, e, c, d⟩ := st
  exact ⟨o, e, fun v z => by rw [d] at z; cases z⟩
 keep := fun i h h' st k => st.at fun o e => k it (by simp) o e
 item := by
  intro X hP hw hK hc i pins s σ H E I hf st hg
  subst hP hw hK
  obtain ⟨xs, x, hq, hx⟩ := hg
  obtain ⟨its, rv, p, hz⟩ := I.tuple hq
  obtain ⟨u, hu, ru⟩ := rv.get hx
  obtain ⟨f0, f1, f2, f3, f4, f5⟩ := hf it (by simp)
  refine wpAny_pyNext_tuple_item st (show s.heap.IsTuple a its.toArray from p) (x := u) (by simpa using hu) fun h' st' sb => ?_
  have I1 : Inv X pins σ H { s with heap := h' } := I.turned (t' := s.toks) (fun b o hb e => (sb.2 b hb).trans e) f0 f1 f3 f4 f5
  obtain ⟨o, e, c, d⟩ := id st'
  exact ⟨u, rfl, go_of (s := { s with heap := h' }) e c d (by decide) ⟨x, H, I1, ru, ⟨rfl, fun ys hy => by rw [I.tuple_inj hy hq]; exact hx⟩, st', fun b hb => (hf b hb).1⟩⟩
 done := by
  intro X hP hw hK hc i pins s σ H E I hf st hg
  subst hP hw hK
  obtain ⟨xs, hq, hx⟩ := hg
  obtain ⟨its, rv, p, hz⟩ := I.tuple hq
  obtain ⟨f0, f1, f2, f3, f4, f5⟩ := hf it (by simp)
  have hl := rv.length
  exact wpAny_pyNext_tuple_end (I.ok.hd hc) st (show s.heap.IsTuple a its.toArray from p) (by simp; omega) fun h' eb => ⟨rfl, I.turned (t' := s.toks) (fun b o hb e => eb b o hb e) f0 f1 f3 f4 f5⟩
 self := fun _ _ _ _ _ st h => wpAny_pyIter_tupleiter st h
theorem turn_range {P : Program} {w : World} {K : PySem.W.Frag} {tg : Expr} (it : Addr) (lo : Int) (n : Nat) : Turn P w K tg (Itr lo n) [it] it (fun i h => IsRangeIter h it (lo + (i : Nat) * 1) ((n : Int) - (i : Nat)) 1) where
 mem := by simp
 obj := fun i h st b hb => by
  have e : b = it := by simpa using hb
  subst e
  exact ⟨_, st, fun v z => by
   have z' : Data.fields _ = Data.cell v := z
   cases z'⟩
 keep := fun i h h' st k => k it (by simp) _ st
 item := by
  intro X hP hw hK hc i pins s σ H E I hf st hg
  subst hP hw hK
  obtain ⟨f0, f1, f2, f3, f4, f5⟩ := hf it (by simp)
  have W := Walks.range (prog := X.prog) (w := X.w) (I.ok.hd hc) it lo 1 n
  refine W.item i s _ _ hg st fun v h' tk hv st' kk => ?_
  obtain ⟨t, rfl⟩ := hv
  have I1 : Inv X pins σ H { s with heap := h', toks := tk } := I.turned (fun b o hb e => kk b o (by simpa using hb) e) f0 f1 f3 f4 f5
  refine ⟨_, rfl, go_of (s := { s with heap := h', toks := tk }) (n := "range_iterator") st' rfl rfl (by decide) ⟨.int (lo + i), H, I1, ⟨t, ?_⟩, ⟨rfl, rfl⟩, st', fun b hb => (hf b hb).1⟩⟩
  rw [Int.mul_one]
 done := by
  intro X hP hw hK hc i pins s σ H E I hf st hg
  subst hP hw hK
  obtain ⟨f0, f1, f2, f3, f4, f5⟩ := hf it (by simp)
  exact wpAny_pyNext_range_end (I.ok.hd hc) st (by have : n <= i := hg; omega) fun h' eb => ⟨rfl, I.turned (t' := s.toks) (fun b o hb e => eb b o hb e) f0 f1 f3 f4 f5⟩
 self := fun _ _ _ _ _ st h => wpAny_pyIter_rangeiter st h
end L2
namespace L2
open PySem PySem.Spec PyProof.Rows
section
variable {X : Cx} {tg : Expr}
def iList (K : PySem.W.Frag) (tl : TE) : TI := fun σ H R => tl σ H fun x H1 => ∃ a, x = .ref a /\ (∃ xs, SqL K H1 a xs) /\ R (Itl K a) H1
def iTup (K : PySem.W.Frag) (tl : TE) : TI := fun σ H R => tl σ H fun x H1 => ∃ a, x = .ref a /\ (∃ xs, SqT K H1 a xs) /\ R (Itt K a) H1
theorem pi_list {l : Expr} {tl : TE} (hl : PE X l tl) : PI X tg l (iList X.K tl) := by
 intro pins s σ H R I h
 refine thn (hl pins s σ H _ I h) fun v s1 ⟨x, H1, I1, r1, q1⟩ => ?_
 obtain ⟨a, e, ⟨xs, hq⟩, q⟩ := q1
 subst e
 cases r1
 obtain ⟨its, rv, p, hz⟩ := I1.list hq
 refine wpAny_pyIter_list p.isList ?_
 refine ⟨s1.heap.objs.size, [s1.heap.objs.size], _, _, H1, rfl, I1.kept (t' := s1.toks) fun b o e => Heap.get?_push_of_some _ e, turn_list a _, ⟨_, Heap.get?_push_size _ rfl, rfl, rfl⟩, fun b hb => ?_, q⟩
 have e : b = s1.heap.objs.size := by simpa using hb
 subst e
 exact I1.fpOk (Nat.le_refl _) (I1.hok.fresh (Nat.le_refl _))
theorem pi_tup {l : Expr} {tl : TE} (hl : PE X l tl) : PI X tg l (iTup X.K tl) := by
 intro pins s σ H R I h
 refine thn (hl pins s σ H _ I h) fun v s1 ⟨x, H1, I1, r1, q1⟩ => ?_
 obtain ⟨a, e, ⟨xs, hq⟩, q⟩ := q1
 subst e
 cases r1
 obtain ⟨its, rv, p, hz⟩ := I1.tuple hq
 refine wpAny_pyIter_tuple (show s1.heap.IsTuple a its.toArray from p) ?_
 refine ⟨s1.heap.objs.size, [s1.heap.objs.size], _, _, H1, rfl, I1.kept (t' := s1.toks) fun b o e => Heap.get?_push_of_some _ e, turn_tuple a _, ⟨_, Heap.get?_push_size _ rfl, rfl, rfl⟩, fun b hb => ?_, q⟩
 have e : b = s1.heap.objs.size := by simpa using hb
 subst e
 exact I1.fpOk (Nat.le_refl _) (I1.hok.fresh (Nat.le_refl _))
theorem range_it {pins : List (Addr × Obj)} {σ : St} {H : Hp} {s : Shared} {R : It -> Hp -> Prop} {E : Value -> Shared -> Prop} {lo hi : Int} {t u v : Tok} {tk : Nat} (I : Inv X pins σ H s) (h1 : -(2 ^ 62) <= lo) (h2 : lo < 2 ^ 62) (h3 : -(2 ^ 62) <= hi) (h4 : hi < 2 ^ 62)
  (q : R (Itr lo (hi - lo).toNat) H) : wpAny (model X.prog X.w) X.A (pyIter (.ref s.heap.objs.size)) (PIE X pins σ tg R) E { s with heap := s.heap.push { cls := .type "range", data := .fields #[.int lo t, .int hi u, .int 1 v] }, toks := tk } := by
 refine wpAny_pyIter_range (IsRange.new ..) (small_one h1 h2 h3 h4) ?_
 have I1 : Inv X pins σ H { s with heap := s.heap.push { cls := .type "range", data := .fields #[.int lo t, .int hi u, .int 1 v] }, toks := tk } := I.kept fun b o e => Heap.get?_push_of_some _ e
 refine ⟨(s.heap.push { cls := .type "range", data := .fields #[.int lo t, .int hi u, .int 1 v] }).objs.size, [(s.heap.push { cls := .type "range", data := .fields #[.int lo t, .int hi u, .int 1 v] }).objs.size], _, _, H, rfl,
  I1.kept (t' := tk) fun b o e => Heap.get?_push_of_some _ e, turn_range _ lo (hi - lo).toNat, ?_, fun b hb => ?_, q⟩
 ·have e1 : lo + ((0 : Nat) : Int) * 1 = lo := by simp
  have e2 : (((hi - lo).toNat : Nat) : Int) - ((0 : Nat) : Int) = Builtin.Range.rangeSize lo hi 1 := by rw [rangeSize_one]; split <;> omega
  show IsRangeIter _ _ (lo + ((0 : Nat) : Int) * 1) ((((hi - lo).toNat : Nat) : Int) - ((0 : Nat) : Int)) 1
  rw [e1, e2]
  exact Heap.get?_push_size _ rfl
 ·have e : b = (s.heap.push { cls := .type "range", data := .fields #[.int lo t, .int hi u, .int 1 v] }).objs.size := by simpa using hb
  subst e
  exact I1.fpOk (Nat.le_refl _) (I1.hok.fresh (Nat.le_refl _))
def iRng1 (ta : TA) : TI := fun σ H R => ta σ H fun vs H1 => ∃ j : Int, vs = [.int j] /\ -(2 ^ 62) <= j /\ j < 2 ^ 62 /\ R (Itr 0 j.toNat) H1
def iRng2 (ta : TA) : TI := fun σ H R => ta σ H fun vs H1 => ∃ i j : Int, vs = [.int i, .int j] /\ (-(2 ^ 62) <= i /\ i < 2 ^ 62 /\ -(2 ^ 62) <= j /\ j < 2 ^ 62) /\ R (Itr i (j - i).toNat) H1
theorem pi_range1 {a : Expr} {ta : TA} {p pos : Pos} (hg : Gl X "range") (hm : X.mg "range" = none) (ha : PA X [a] ta) (hs : starEach [a] X.env = [(false, eval a X.env)] := by rfl) : PI X tg (.Call (.Name "range" p) [a] [] pos) (iRng1 ta) := by
 intro pins s σ H R I h
 refine Call_ (ld_blt I hg hm boot_range (PyProof.Rows.callWith_type1 (thn (ha pos pins s σ H _ I h) fun us s1 ⟨vs, H1, I1, r1, q1⟩ => ?_) hs rfl))
 obtain ⟨j, e, q1, q2, q⟩ := q1
 subst e
 cases r1 with
 | cons r rr =>
  cases rr
  obtain ⟨t, rfl⟩ := r
  exact call_range_1 (range_it I1 (by omega) (by omega) q1 q2 (by simpa using q))
theorem pi_range2 {a b : Expr} {ta : TA} {p pos : Pos} (hg : Gl X "range") (hm : X.mg "range" = none) (ha : PA X [a, b] ta) (hs : starEach [a, b] X.env = [(false, eval a X.env), (false, eval b X.env)] := by rfl) (hs2 : starEach [b] X.env = [(false, eval b X.env)] := by rfl) :
  PI X tg (.Call (.Name "range" p) [a, b] [] pos) (iRng2 ta) := by
 intro pins s σ H R I h
 refine Call_ (ld_blt I hg hm boot_range (PyProof.Rows.callWith_type1 (thn (ha pos pins s σ H _ I h) fun us s1 ⟨vs, H1, I1, r1, q1⟩ => ?_) (by rw [hs, hs2]) (by rw [hs2]; rfl)))
 obtain ⟨i, j, e, ⟨q1, q2, q3, q4⟩, q⟩ := q1
 subst e
 cases r1 with
 | cons r rr =>
  cases rr with
  | cons r' rr =>
   cases rr
   obtain ⟨t, rfl⟩ := r
   obtain ⟨t', rfl⟩ := r'
   exact call_range_2 (range_it I1 q1 q2 q3 q4 q)
def tFor (wi : TI) (g : TG) (tb : TS) : TS := fun D σ H => wi σ H fun J H1 => ∃ W : Nat -> Nat -> St -> Hp -> Prop, (∃ m, W 0 m σ H1) /\ ∀ i m σ H, W i m σ H ->
 (J.stop i H /\ D.nx σ H) \/ (J.go i H /\ ∃ N : St -> Hp -> Prop, (∀ σ' H', N σ' H' -> ∃ m', m' < m /\ W (i + 1) m' σ' H') /\ ∀ x H', J.yld i H x H' -> g x σ H' fun σ2 H2 => tb { D with nx := N, ct := N, bk := D.nx } σ2 H2)
def pinsAt (fp : List Addr) (h : Heap) : List (Addr × Obj) := fp.filterMap fun b => (h.get? b).map fun o => (b, o)
theorem mem_pinsAt {fp : List Addr} {h : Heap} {b : Addr} {o : Obj} (hb : b ∈ fp) (e : h.get? b = some o) : (b, o) ∈ pinsAt fp h := List.mem_filterMap.mpr ⟨b, hb, by rw [e]; rfl⟩
theorem of_pinsAt {fp : List Addr} {h : Heap} {p : Addr × Obj} (hp : p ∈ pinsAt fp h) : p.1 ∈ fp /\ h.get? p.1 = some p.2 := by
 obtain ⟨b, hb, e⟩ := List.mem_filterMap.mp hp
 cases q : h.get? b with
 | none => rw [q] at e; cases e
 | some o =>
  rw [q] at e
  have e' : (b, o) = p := Option.some.inj e
  subst e'
  exact ⟨hb, q⟩
theorem Inv.pinned {pins : List (Addr × Obj)} {σ : St} {H : Hp} {s : Shared} {fp : List Addr} (I : Inv X pins σ H s) (hf : ∀ b ∈ fp, FpOk X pins H b) (ho : ∀ b ∈ fp, ∃ o, s.heap.get? b = some o /\ ∀ v, o.data ≠ .cell v) : Inv X (pins ++ pinsAt fp s.heap) σ H s :=
 I.pins_of fun p hp => (List.mem_append.mp hp).elim (fun z => I.pin p (List.mem_append_right _ z)) fun z => by
  obtain ⟨hb, e⟩ := of_pinsAt z
  obtain ⟨f0, f1, f2, _⟩ := hf p.1 hb
  obtain ⟨o, e', d⟩ := ho p.1 hb
  rw [e] at e'; cases e'
  exact ⟨e, f0, f1, f2, d⟩
theorem Inv.unpinned {pins pl : List (Addr × Obj)} {σ : St} {H : Hp} {s : Shared} (I : Inv X (pins ++ pl) σ H s) : Inv X pins σ H s := I.pins_of fun p hp => I.pin p (List.mem_append_right _ (List.mem_append_left _ hp))
theorem ps_for {iter : Expr} {body : List Stmt} {wi : TI} {g : TG} {tb : TS} {pos : Pos} (hp : PassesOwn (model X.prog X.w) X.A X.env X.xe) (hc : X.calm = true) (hi : PI X tg iter wi) (hg : PG X tg g) (hb : PSs X body tb)
  (hs : ∀ x, foldedSetIterable iter X.env x = pure x := by intro _; rfl) : PS X (.For tg iter body [] pos) (tFor wi g tb) := by
 intro pins s σ H D I h
 refine wpAny_For (thn (hi pins s σ H _ I h) fun v s1 h1 => thn h1 fun itv s2 h2 => ?_) hs
 obtain ⟨it, fp, tn, J, H2, e, I2, T, st2, f2, W, ⟨m0, w0⟩, turn⟩ := h2
 subst e
 -- what stays true of the iterator's objects through the loop
 have stat : ∀ {H' : Hp}, (∀ b ∈ fp, H' b = none) -> ∀ b ∈ fp, FpOk X pins H' b := fun hn b hb => ⟨hn b hb, (f2 b hb).2⟩
 refine codeAny_forLoop_any (fun n s' => ∃ i σ' H', Inv X pins σ' H' s' /\ tn i s'.heap /\ (∀ b ∈ fp, H' b = none) /\ W i n σ' H') ?_ m0 ⟨0, σ, H2, I2, st2, fun b hb => (f2 b hb).1, w0⟩
 rintro n s3 ⟨i, σ3, H3, I3, st3, fr3, w3⟩
 rcases turn i n σ3 H3 w3 with ⟨stop, qn⟩ | ⟨go, N, hN, step⟩
 ·refine wpAny_passesOwn hp (thn (T.done X rfl rfl rfl hc i pins s3 σ3 H3 X.xe I3 (stat fr3) st3 stop) fun r s4 ⟨hr, I4⟩ => ?_)
  subst hr
  exact wpAny_execs_nil ⟨σ3, H3, I4, qn⟩
 ·refine wpAny_passesOwn hp (thn (T.item X rfl rfl rfl hc i pins s3 σ3 H3 X.xe I3 (stat fr3) st3 go) fun r s4 ⟨u, hr, h4⟩ => ?_)
  subst hr
  refine wpAny_passesOwn hp (thn h4 fun _ s5 ⟨x, H5, I5, r5, y5, st5, fr5⟩ => ?_)
  have I5' := I5.pinned (stat fr5) (T.obj _ _ st5)
  refine wpAny_passesOwn hp (thn (hg _ s5 σ3 H5 x u _ I5' r5 (step x H5 y5)) fun _ s6 ⟨σ6, H6, I6, q6⟩ => ?_)
  refine wpAny_passesOwn hp (thn (hb _ s6 σ6 H6 _ I6 q6) fun f s7 q7 => ?_)
  have again : ∀ {σ7 : St} {H7 : Hp}, Inv X (pins ++ pinsAt fp s5.heap) σ7 H7 s7 -> N σ7 H7 -> ∃ m, m < n /\ ∃ i σ' H', Inv X pins σ' H' s7 /\ tn i s7.heap /\ (∀ b ∈ fp, H' b = none) /\ W i m σ' H' := fun {σ7 H7} I7 n7 => by
   obtain ⟨m', hm, w7⟩ := hN σ7 H7 n7
   refine ⟨m', hm, i + 1, σ7, H7, I7.unpinned, T.keep _ _ _ st5 fun b hb o e => (I7.pin (b, o) (List.mem_append_right _ (List.mem_append_right _ (mem_pinsAt hb e)))).1, fun b hb => ?_, w7⟩
   obtain ⟨o, e, d⟩ := T.obj _ _ st5 b hb
   exact (I7.pin (b, o) (List.mem_append_right _ (List.mem_append_right _ (mem_pinsAt hb e)))).2.1
  cases f with
  | next => obtain ⟨σ7, H7, I7, n7⟩ := q7; exact again I7 n7
  | cont => obtain ⟨σ7, H7, I7, n7⟩ := q7; exact again I7 n7
  | brk => obtain ⟨σ7, H7, I7, q7⟩ := q7; exact ⟨σ7, H7, I7.unpinned, q7⟩
  | ret v => obtain ⟨x7, σ7, H7, I7, r7, q7⟩ := q7; exact ⟨x7, σ7, H7, I7.unpinned, r7, q7⟩
end
end L2
namespace L2
open PySem PySem.Spec PyProof.Rows
abbrev R2 := V -> V -> Hp -> VK -> Prop
def OpR (X : Cx) (f : Value -> Value -> Sem Value) (r : R2) : Prop :=
 ∀ (pins : List (Addr × Obj)) (s : Shared) (σ : St) (H : Hp) (x y : V) (v u : Value) (Q : VK), Inv X pins σ H s -> RelV x v -> RelV y u -> r x y H Q ->
  wpAny (model X.prog X.w) X.A (f v u) (EP X pins σ Q) X.xe s
def UnR (X : Cx) (f : Value -> Sem Value) (r : V -> Hp -> VK -> Prop) : Prop :=
 ∀ (pins : List (Addr × Obj)) (s : Shared) (σ : St) (H : Hp) (x : V) (v : Value) (Q : VK), Inv X pins σ H s -> RelV x v -> r x H Q ->
  wpAny (model X.prog X.w) X.A (f v) (EP X pins σ Q) X.xe s
def CallR (X : Cx) (f : Value) (r : List V -> Hp -> VK -> Prop) : Prop :=
 ∀ (pins : List (Addr × Obj)) (s : Shared) (σ : St) (H : Hp) (xs : List V) (us : List Value) (Q : VK), Inv X pins σ H s -> Vals xs us -> r xs H Q ->
  wpAny (model X.prog X.w) X.A (call f us) (EP X pins σ Q) X.xe s
def tOp (r : R2) (ta tb : TE) : TE := fun σ H Q => ta σ H fun x H1 => tb σ H1 fun y H2 => r x y H2 Q
def tUn (r : V -> Hp -> VK -> Prop) (ta : TE) : TE := fun σ H Q => ta σ H fun x H1 => r x H1 Q
def rI (C : Int -> Int -> Prop) (g : Int -> Int -> V) : R2 := fun x y H Q => ∃ i j, x = .int i /\ y = .int j /\ C i j /\ Q (g i j) H
def rI0 (g : Int -> Int -> V) : R2 := fun x y H Q => ∃ i j, x = .int i /\ y = .int j /\ Q (g i j) H
def rU (g : Int -> V) : V -> Hp -> VK -> Prop := fun x H Q => ∃ i, x = .int i /\ Q (g i) H
section
variable {X : Cx} {a b c : Expr} {ta tb tc : TE} {pos : Pos}
theorem binT (ha : PE X a ta) (hb : PE X b tb) {pins : List (Addr × Obj)} {s : Shared} {σ : St} {H : Hp} {R : V -> V -> Hp -> Prop} (I : Inv X pins σ H s)
  (h : ta σ H fun x H1 => tb σ H1 fun y H2 => R x y H2) {Q : Value -> Shared -> Prop} {f : Value -> Value -> Sem Value}
  (hf : ∀ v u s2 x y H2, Inv X pins σ H2 s2 -> RelV x v -> RelV y u -> R x y H2 -> wpAny (model X.prog X.w) X.A (f v u) Q X.xe s2) :
  wpAny (model X.prog X.w) X.A (eval a X.env) (fun v s₁ => wpAny (model X.prog X.w) X.A (eval b X.env) (fun u s₂ => wpAny (model X.prog X.w) X.A (f v u) Q X.xe s₂) X.xe s₁) X.xe s := by
 refine thn (ha pins s σ H _ I h) fun v s1 ⟨x, H1, I1, r1, q1⟩ => ?_
 refine thn (hb pins s1 σ H1 _ I1 q1) fun u s2 ⟨y, H2, I2, r2, q2⟩ => ?_
 exact hf v u s2 x y H2 I2 r1 r2 q2
theorem pe_op {op : Operator} {r : R2} (ho : OpR X (binaryOp op) r) (ha : PE X a ta) (hb : PE X b tb) : PE X (.BinOp a op b pos) (tOp r ta tb) := by
 intro pins s σ H Q I h
 exact wpAny_BinOp (binT ha hb I h fun v u s2 x y H2 I2 rx ry q => ho pins s2 σ H2 x y v u Q I2 rx ry q)
theorem pe_un {op : UnaryOp} {r : V -> Hp -> VK -> Prop} (ho : UnR X (unaryOp op) r) (ha : PE X a ta) : PE X (.UnaryOp op a pos) (tUn r ta) := by
 intro pins s σ H Q I h
 exact UnaryOp_ (thn (ha pins s σ H _ I h) fun v s1 ⟨x, H1, I1, r1, q1⟩ => ho pins s1 σ H1 x v Q I1 r1 q1)
theorem opI {f : Value -> Value -> Sem Value} {C : Int -> Int -> Prop} {g : Int -> Int -> Int}
  (rule : ∀ (i j : Int) (t u : Tok) (s : Shared) (Q : Value -> Shared -> Prop) (E : Value -> Shared -> Prop), C i j -> Q (.int (g i j) s.toks) { s with toks := s.toks + 1 } -> wpAny (model X.prog X.w) X.A (f (.int i t) (.int j u)) Q E s) :
  OpR X f (rI C fun i j => .int (g i j)) := by
 intro pins s σ H x y v u Q I rx ry h
 obtain ⟨i, j, rfl, rfl, hc, q⟩ := h
 obtain ⟨t, rfl⟩ := rx
 obtain ⟨t', rfl⟩ := ry
 exact rule i j t t' s _ _ hc ⟨.int (g i j), H, I.tok _, ⟨_, rfl⟩, q⟩
theorem opI0 {f : Value -> Value -> Sem Value} {g : Int -> Int -> Int}
  (rule : ∀ (i j : Int) (t u : Tok) (s : Shared) (Q : Value -> Shared -> Prop) (E : Value -> Shared -> Prop), Q (.int (g i j) s.toks) { s with toks := s.toks + 1 } -> wpAny (model X.prog X.w) X.A (f (.int i t) (.int j u)) Q E s) :
  OpR X f (rI0 fun i j => .int (g i j)) := by
 intro pins s σ H x y v u Q I rx ry h
 obtain ⟨i, j, rfl, rfl, q⟩ := h
 obtain ⟨t, rfl⟩ := rx
 obtain ⟨t', rfl⟩ := ry
 exact rule i j t t' s _ _ ⟨.int (g i j), H, I.tok _, ⟨_, rfl⟩, q⟩
theorem opB0 {f : Value -> Value -> Sem Value} {g : Int -> Int -> Bool}
  (rule : ∀ (i j : Int) (t u : Tok) (s : Shared) (Q : Value -> Shared -> Prop) (E : Value -> Shared -> Prop), Q (.bool (g i j)) s -> wpAny (model X.prog X.w) X.A (f (.int i t) (.int j u)) Q E s) :
  OpR X f (rI0 fun i j => .bl (g i j)) := by
 intro pins s σ H x y v u Q I rx ry h
 obtain ⟨i, j, rfl, rfl, q⟩ := h
 obtain ⟨t, rfl⟩ := rx
 obtain ⟨t', rfl⟩ := ry
 exact rule i j t t' s _ _ ⟨.bl (g i j), H, I, rfl, q⟩
def CDiv (i j : Int) : Prop := 0 < j /\ j < 1073741824
def CPow (i j : Int) : Prop := 0 <= j /\ j <= 1000000 /\ i.natAbs < 2 ^ 64
def CMul (i j : Int) : Prop := (-(2 ^ 64) < i /\ i < 2 ^ 64) \/ (-(2 ^ 64) < j /\ j < 2 ^ 64)
theorem CMul.ok {i j : Int} (h : CMul i j) : IntMulOk i j := by
 rcases h with ⟨h1, h2⟩ | ⟨h1, h2⟩
 ·exact .of_left (intBits_le_64 h1 h2)
 ·exact .of_right (intBits_le_64 h1 h2)
theorem op_add : OpR X (binaryOp .Add) (rI0 fun i j => .int (i + j)) := opI0 fun _ _ _ _ _ _ _ q => add_int q
theorem op_sub : OpR X (binaryOp .Sub) (rI0 fun i j => .int (i - j)) := opI0 fun _ _ _ _ _ _ _ q => sub_int q
theorem op_mul : OpR X (binaryOp .Mult) (rI CMul fun i j => .int (i * j)) := opI fun _ _ _ _ _ _ _ hc q => mul_int q hc.ok
theorem op_fdiv : OpR X (binaryOp .FloorDiv) (rI CDiv fun i j => .int (i / j)) := opI fun i j _ _ _ _ _ hc q => by
 have h1 : (0 : Int) < j := hc.1
 have h2 : j < 1073741824 := hc.2
 exact floordiv_int (by omega) (by rw [Int.fdiv_eq_ediv_of_nonneg i (by omega)]; exact q) (.inl (PyProof.noPylong_small (by omega)))
theorem op_mod : OpR X (binaryOp .Mod) (rI (fun _ j => 0 < j) fun i j => .int (i % j)) := opI fun i j _ _ _ _ _ hc q => by
 have h1 : (0 : Int) < j := hc
 exact mod_int' (by omega) (by rw [Int.fmod_eq_emod_of_nonneg i (by omega)]; exact q)
theorem op_pow : OpR X (binaryOp .Pow) (rI CPow fun i j => .int (i ^ j.toNat)) := opI fun _ _ _ _ _ _ _ hc q => pow_int_small hc.1 hc.2.1 hc.2.2 q
theorem unI {f : Value -> Sem Value} {g : Int -> Int}
  (rule : ∀ (i : Int) (t : Tok) (s : Shared) (Q : Value -> Shared -> Prop) (E : Value -> Shared -> Prop), Q (.int (g i) s.toks) { s with toks := s.toks + 1 } -> wpAny (model X.prog X.w) X.A (f (.int i t)) Q E s) :
  UnR X f (rU fun i => .int (g i)) := by
 intro pins s σ H x v Q I rx h
 obtain ⟨i, rfl, q⟩ := h
 obtain ⟨t, rfl⟩ := rx
 exact rule i t s _ _ ⟨.int (g i), H, I.tok _, ⟨_, rfl⟩, q⟩
theorem un_neg : UnR X (unaryOp .USub) (rU fun i => .int (-i)) := unI fun _ _ _ _ _ q => neg_int q
end
section
variable {X : Cx} {a b c : Expr} {ta tb tc : TE} {pos : Pos}
theorem fin_bl {pins : List (Addr × Obj)} {σ : St} {H : Hp} {s : Shared} {Q : VK} {k k' : Bool} (I : Inv X pins σ H s) (q : Q (.bl k) H) (e : k = k') : EP X pins σ Q (.bool k') s := by
 subst e
 exact ⟨.bl k, H, I, rfl, q⟩
theorem op_lt : OpR X (compareOp .Lt) (rI0 fun i j => .bl (decide (i < j))) := opB0 fun _ _ _ _ _ _ _ q => lt_int q
theorem op_le : OpR X (compareOp .LtE) (rI0 fun i j => .bl (decide (i <= j))) := opB0 fun _ _ _ _ _ _ _ q => le_int q
theorem op_gt : OpR X (compareOp .Gt) (rI0 fun i j => .bl (decide (j < i))) := opB0 fun _ _ _ _ _ _ _ q => gt_int q
theorem op_ge : OpR X (compareOp .GtE) (rI0 fun i j => .bl (decide (j <= i))) := opB0 fun _ _ _ _ _ _ _ q => ge_int q
theorem op_isN : OpR X (compareOp .Is) (fun x y H Q => y = .non /\ Q (.bl (decide (x = .non))) H) := by
 intro pins s σ H x y v u Q I rx ry h
 obtain ⟨rfl, q⟩ := h
 cases ry
 refine is_none_gen (fin_bl I q ?_)
 cases x <;> first
  | (cases rx; rfl)
  | (obtain ⟨t, rfl⟩ := rx; rfl)
theorem op_notN : OpR X (compareOp .IsNot) (fun x y H Q => y = .non /\ Q (.bl (!decide (x = .non))) H) := by
 intro pins s σ H x y v u Q I rx ry h
 obtain ⟨rfl, q⟩ := h
 cases ry
 refine isnot_none_gen (fin_bl I q ?_)
 cases x <;> first
  | (cases rx; rfl)
  | (obtain ⟨t, rfl⟩ := rx; rfl)
theorem OpR.or {f : Value -> Value -> Sem Value} {r r' : R2} (h : OpR X f r) (h' : OpR X f r') : OpR X f (fun x y H Q => r x y H Q \/ r' x y H Q) := by
 intro pins s σ H x y v u Q I rx ry q
 rcases q with q | q
 ·exact h pins s σ H x y v u Q I rx ry q
 ·exact h' pins s σ H x y v u Q I rx ry q
theorem pe_cmpR {op : CmpOp} {r : R2} (ho : OpR X (compareOp op) r) (ha : PE X a ta) (hb : PE X b tb) (hm : behindInMarks op b = false) : PE X (.Compare a [op] [b] pos) (tOp r ta tb) := by
 intro pins s σ H Q I h
 exact wpAny_Compare1 (binT ha hb I h fun v u s2 x y H2 I2 rx ry q => ho pins s2 σ H2 x y v u Q I2 rx ry q) hm
def tTest (t : TE) : TT := fun σ H Q => t σ H fun x H' => ∃ k, x = .bl k /\ Q k H'
theorem pt_cmpR {op : CmpOp} {r : R2} (ho : OpR X (compareOp op) r) (ha : PE X a ta) (hb : PE X b tb) (hm : behindInMarks op b = false) : PT X (.Compare a [op] [b] pos) (tTest (tOp r ta tb)) := by
 intro pins s σ H Q I h
 refine wpAny_isTrue_Compare1 (thn (ha pins s σ H _ I h) fun v s1 ⟨x, H1, I1, r1, q1⟩ => thn (hb pins s1 σ H1 _ I1 q1) fun u s2 ⟨y, H2, I2, r2, q2⟩ =>
  thn (ho pins s2 σ H2 x y v u _ I2 r1 r2 q2) fun c s3 ⟨z, H3, I3, r3, k, e, q3⟩ => ?_) hm
 subst e
 cases r3
 exact wpAny_truthy_bool ⟨H3, I3, q3⟩
def tChain (r r' : R2) (ta tb tc : TE) : TE := fun σ H Q => ta σ H fun x H1 => tb σ H1 fun y H2 => r x y H2 fun z H3 => ∃ k, z = .bl k /\
 (if k = true then tc σ H3 fun w' H4 => r' y w' H4 Q else Q (.bl false) H3)
theorem pe_chain {op op' : CmpOp} {r r' : R2} (ho : OpR X (compareOp op) r) (ho' : OpR X (compareOp op') r') (ha : PE X a ta) (hb : PE X b tb) (hc : PE X c tc)
  (hm : lastMarks [op, op'] [b, c] = false := by with_unfolding_all rfl) : PE X (.Compare a [op, op'] [b, c] pos) (tChain r r' ta tb tc) := by
 intro pins s σ H Q I h
 refine Compare_chain (thn (ha pins s σ H _ I h) fun v s1 ⟨x, H1, I1, r1, q1⟩ => chain_link (thn (hb pins s1 σ H1 _ I1 q1) fun u s2 ⟨y, H2, I2, r2, q2⟩ =>
  thn (ho pins s2 σ H2 x y v u _ I2 r1 r2 q2) fun d s3 ⟨z, H3, I3, r3, k, e, q3⟩ => ?_)) hm
 subst e
 cases r3
 refine wpAny_truthy_bool ?_
 cases k with
 | false => exact ite_ff ⟨.bl false, H3, I3, rfl, q3⟩
 | true => exact ite_tt (chain_last (thn (hc pins s3 σ H3 _ I3 q3) fun w' s4 ⟨z', H4, I4, r4, q4⟩ => ho' pins s4 σ H4 y z' u w' Q I4 r2 r4 q4))
theorem pt_chain {op op' : CmpOp} {r r' : R2} (ho : OpR X (compareOp op) r) (ho' : OpR X (compareOp op') r') (ha : PE X a ta) (hb : PE X b tb) (hc : PE X c tc)
  (hm : lastMarks [op, op'] [b, c] = false := by with_unfolding_all rfl) : PT X (.Compare a [op, op'] [b, c] pos) (tTest (tChain r r' ta tb tc)) := by
 intro pins s σ H Q I h
 refine isTrue_chain (thn (ha pins s σ H _ I h) fun v s1 ⟨x, H1, I1, r1, q1⟩ => test_link (thn (hb pins s1 σ H1 _ I1 q1) fun u s2 ⟨y, H2, I2, r2, q2⟩ =>
  thn (ho pins s2 σ H2 x y v u _ I2 r1 r2 q2) fun d s3 ⟨z, H3, I3, r3, k, e, q3⟩ => ?_)) hm
 subst e
 cases r3
 refine wpAny_truthy_bool ?_
 cases k with
 | false =>
  obtain ⟨k', e', q'⟩ := q3
  cases e'
  exact ite_ff ⟨H3, I3, q'⟩
 | true =>
  refine ite_tt (test_last (thn (hc pins s3 σ H3 _ I3 q3) fun w' s4 ⟨z', H4, I4, r4, q4⟩ => thn (ho' pins s4 σ H4 y z' u w' _ I4 r2 r4 q4) fun d' s5 ⟨z2, H5, I5, r5, k2, e2, q5⟩ => ?_))
  subst e2
  cases r5
  exact wpAny_truthy_bool ⟨H5, I5, q5⟩
theorem line63 : (sizeLine : Nat) < 2 ^ 63 := by rw [sizeLine_eq]; decide
theorem vals1 {x : V} {us : List Value} (r : Vals [x] us) : ∃ u, us = [u] /\ RelV x u := by
 cases r with
 | cons r1 r2 => cases r2; exact ⟨_, rfl, r1⟩
theorem vals2 {x y : V} {us : List Value} (r : Vals [x, y] us) : ∃ u w', us = [u, w'] /\ RelV x u /\ RelV y w' := by
 cases r with
 | cons r1 r2 =>
  cases r2 with
  | cons r3 r4 => cases r4; exact ⟨_, _, rfl, r1, r3⟩
theorem call_abs : CallR X (.builtin "abs") (fun xs H Q => ∃ i, xs = [.int i] /\ Q (.int (if i < 0 then -i else i)) H) := by
 intro pins s σ H xs us Q I r h
 obtain ⟨i, rfl, q⟩ := h
 obtain ⟨u, rfl, t, rfl⟩ := vals1 r
 exact call_abs_int fun u tk => ⟨.int (if i < 0 then -i else i), H, I.tok _, ⟨_, rfl⟩, q⟩
theorem call_max2 (hc : X.calm = true) : CallR X (.builtin "max") (fun xs H Q => ∃ i j, xs = [.int i, .int j] /\ Q (.int (if j > i then j else i)) H) := by
 intro pins s σ H xs us Q I r h
 obtain ⟨i, j, rfl, q⟩ := h
 obtain ⟨u, w', rfl, ⟨t, rfl⟩, ⟨t', rfl⟩⟩ := vals2 r
 refine max_two_ints (I.ok.hd hc) fun h' tk k => ⟨_, H, I.kept k, ?_, q⟩
 by_cases hj : j > i
 ·rw [if_pos hj, if_pos hj]; exact ⟨_, rfl⟩
 ·rw [if_neg hj, if_neg hj]; exact ⟨_, rfl⟩
theorem call_min2 (hc : X.calm = true) : CallR X (.builtin "min") (fun xs H Q => ∃ i j, xs = [.int i, .int j] /\ Q (.int (if j < i then j else i)) H) := by
 intro pins s σ H xs us Q I r h
 obtain ⟨i, j, rfl, q⟩ := h
 obtain ⟨u, w', rfl, ⟨t, rfl⟩, ⟨t', rfl⟩⟩ := vals2 r
 refine min_two_ints (I.ok.hd hc) fun h' tk k => ⟨_, H, I.kept k, ?_, q⟩
 by_cases hj : j < i
 ·rw [if_pos hj, if_pos hj]; exact ⟨_, rfl⟩
 ·rw [if_neg hj, if_neg hj]; exact ⟨_, rfl⟩
theorem call_int1 : CallR X (.type "int") (fun xs H Q => (∃ i, xs = [.int i] /\ Q (.int i) H) \/ ∃ k, xs = [.bl k] /\ Q (.int (if k then 1 else 0)) H) := by
 intro pins s σ H xs us Q I r h
 rcases h with ⟨i, rfl, q⟩ | ⟨k, rfl, q⟩
 ·obtain ⟨u, rfl, t, rfl⟩ := vals1 r
  exact call_int_int ⟨.int i, H, I, ⟨_, rfl⟩, q⟩
 ·obtain ⟨u, rfl, r1⟩ := vals1 r
  cases r1
  exact call_int_bool ⟨.int (if k then 1 else 0), H, I.tok _, ⟨_, rfl⟩, q⟩
end
end L2
namespace L2
open PySem PySem.Spec PyProof.Rows
structure ObjM (h : Heap) (x dx C : Addr) (mA : Str -> Option Value) : Prop where
 obj : h.get? x = some (PySem.W.instObj C dx)
 ns : h.Ns1 dx mA
 ne : dx ≠ x
theorem lookIn_ns {h : Heap} {dx : Addr} {mA : Str -> Option Value} (n : h.Ns1 dx mA) : ∃ od, h.get? dx = some od /\ ∀ name, PySem.W.lookIn name od = some (mA name) := by
 obtain ⟨o, es, ep, ho, hd, hk, _, hm⟩ := n
 refine ⟨o, ho, fun name => ?_⟩
 have e := hm name
 unfold nsFind findBy at e
 rw [<- Array.find?_toList] at e
 unfold PySem.W.lookIn
 rw [hd]
 dsimp only
 split
 ·rename_i y q
  rw [q] at e
  exact congrArg some e
 ·rename_i q
  rw [q] at e
  have a : es.toList.any (·.refKey) = false := by
   rw [List.any_eq_false]
   intro y hy
   obtain ⟨z, t, hkey⟩ := hk y (Array.mem_toList_iff.mp hy)
   simp [DictEntry.refKey, hkey]
  have a' : ¬ es.toList.any (·.refKey) = true := by rw [a]; exact Bool.false_ne_true
  rw [if_neg a']
  exact congrArg some e
theorem ObjM.look {h : Heap} {x dx C : Addr} {mA : Str -> Option Value} (I : ObjM h x dx C mA) : ∃ od, PySem.W.InstAt h x (PySem.W.instObj C dx) C (some od) /\ ∀ name, PySem.W.lookIn name od = some (mA name) :=
 let ⟨od, ho, hl⟩ := lookIn_ns I.ns
 ⟨od, ⟨I.obj, rfl, rfl, ho⟩, hl⟩
section
variable {prog : Program} {w : World} {A : Around} {E : Value -> Shared -> Prop} {s : Shared} {K : PySem.W.Frag} {x dx C f : Addr} {mA : Str -> Option Value} {name : Str} {v : Value}
end
section
variable {P : Program} {w : World} {H H' : Hp} {h h' : Heap} {a C dx : Addr} {fs fs' : List (Str × V)}
theorem ins_get (hok : HOk P w H h) (e : H a = some (.ins C dx fs)) : ∃ mA, ObjM h a dx C mA /\ (∀ f, RelO (fs.lookup f) (mA f)) /\ PySem.Within mA (fs.map (·.1)) /\ fs.length <= 1000 /\ H dx = some (.own a) := by
 obtain ⟨d, z, ne, ob, mA, n, r, q⟩ := (show ObjOk P w H h a (.ins C dx fs) from hok a _ e)
 exact ⟨mA, ⟨ob, n, ne⟩, r, q, z, d⟩
end
structure Cls (K : PySem.W.Frag) (C : Addr) : Prop where
 pg : PySem.W.plainGet K C Str.empty = true
 hd : PySem.W.hasDictIn K C = true
 po : PySem.W.plainOver K C = true
 sa : PySem.W.findIn K (.ref C) "__setattr__" = some (some (.builtin "object.__setattr__"))
theorem Cls.get {K : PySem.W.Frag} {C : Addr} (c : Cls K C) (f : Str) : PySem.W.plainGet K C f = true := c.pg
section
variable {X : Cx} {pins : List (Addr × Obj)} {σ : St} {H : Hp} {s : Shared} {a C dx : Addr} {fs : List (Str × V)} {f : Str} {v : V} {A : Around} {E : Value -> Shared -> Prop}
end
section
variable {X : Cx} {o e value : Expr} {f : Str} {pos pos' tpos : Pos} {ta tv : TE}
end
section
variable {X : Cx} {pins : List (Addr × Obj)} {σ : St} {H : Hp} {s : Shared} {A : Around} {E : Value -> Shared -> Prop} {Q : Value -> Shared -> Prop} {c : Value} {b : Bool}
inductive TyOf (K : PySem.W.Frag) (H : Hp) : V -> Value -> Prop where
 | non : TyOf K H .non (.type "NoneType")
 | bl (x : Bool) : TyOf K H (.bl x) (.type "bool")
 | int (i : Int) : TyOf K H (.int i) (.type "int")
 | str (x : Str) : TyOf K H (.str x) (.type "str")
 | flt (x : UInt64) : TyOf K H (.flt x) (.type "float")
 | lst {a : Addr} {xs : List V} (e : H a = some (.lst xs)) : TyOf K H (.ref a) (.type "list")
 | frz {a : Addr} {o : Obj} {xs : List V} (e : H a = some (.frz o (.lst xs))) : TyOf K H (.ref a) (.type "list")
 | tup {a : Addr} {xs : List V} (e : H a = some (.tup xs)) : TyOf K H (.ref a) (.type "tuple")
 | dK {a : Addr} {kvs : List (Key × V)} (e : H a = some (.dK kvs)) : TyOf K H (.ref a) (.type "dict")
 | dT {a : Addr} {kvs : List (List Key × V)} (e : H a = some (.dT kvs)) : TyOf K H (.ref a) (.type "dict")
 | ins {a C dx : Addr} {fs : List (Str × V)} (e : H a = some (.ins C dx fs)) (cl : Cls K C) (ha : PySem.W.findIn K (.ref C) "__class__" = some (some (.builtin "object.__class__")))
   (hn : PySem.W.specialIn K (.builtin "object.__class__") "__get__" = some (some (.builtin "getset_descriptor.__get__"))) (htk : PySem.W.takesIn K (.builtin "object.__class__") = some true)
   (hm : PySem.W.mroIn K C (.type "object") = some true) : TyOf K H (.ref a) (.ref C)
theorem isinst_ok {x : V} {u t : Value} (I : Inv X pins σ H s) (rx : RelV x u) (ty : TyOf X.K H x t) (e : PySem.W.kitOne X.K t c = some b) (h : ∀ tk, Q (.bool b) { s with toks := tk }) :
  wpAny (model X.prog X.w) A (call (.builtin "isinstance") [u, c]) Q E s := by
 cases ty with
 | non => cases (show u = Value.none from rx); exact PySem.W.kia_one PySem.W.kitx_none I.kIn True.intro e (fun z => nomatch z) h
 | bl y => cases (show u = Value.bool y from rx); exact PySem.W.kia_one PySem.W.kitx_bool I.kIn True.intro e (fun z => nomatch z) h
 | int i => obtain ⟨t, q⟩ := (show ∃ t, u = Value.int i t from rx); cases q; exact PySem.W.kia_one PySem.W.kitx_int I.kIn True.intro e (fun z => nomatch z) h
 | str y => obtain ⟨t, q⟩ := (show ∃ t, u = Value.str y t from rx); cases q; exact PySem.W.kia_one PySem.W.kitx_str I.kIn True.intro e (fun z => nomatch z) h
 | flt y => obtain ⟨t, q⟩ := (show ∃ t, u = Value.float y t from rx); cases q; exact PySem.W.kia_one PySem.W.kitx_float I.kIn True.intro e (fun z => nomatch z) h
 | @lst a xs ea =>
  cases (show u = Value.ref a from rx)
  obtain ⟨_, _, n, _, h1⟩ := (show ObjOk X.prog X.w H s.heap a (.lst xs) from I.hok a _ ea)
  exact PySem.W.kia_one PySem.W.kitx_list I.kIn ⟨_, h1, rfl⟩ e (fun z => nomatch z) h
 | @frz a ob xs ea =>
  cases (show u = Value.ref a from rx)
  obtain ⟨_, _, _, n, _, h1⟩ := (show ObjOk X.prog X.w H s.heap a (.frz ob (.lst xs)) from I.hok a _ ea)
  exact PySem.W.kia_one PySem.W.kitx_list I.kIn ⟨_, h1, rfl⟩ e (fun z => nomatch z) h
 | @tup a xs ea =>
  cases (show u = Value.ref a from rx)
  obtain ⟨_, _, _, p⟩ := (show ObjOk X.prog X.w H s.heap a (.tup xs) from I.hok a _ ea)
  obtain ⟨o, h1, h2, _⟩ := p
  exact PySem.W.kia_one PySem.W.kitx_tuple I.kIn ⟨o, h1, h2⟩ e (fun z => nomatch z) h
 | @dK a kvs ea =>
  cases (show u = Value.ref a from rx)
  obtain ⟨_, _, vs, _, p⟩ := (show ObjOk X.prog X.w H s.heap a (.dK kvs) from I.hok a _ ea)
  obtain ⟨o, es, ep, h1, h2, _⟩ := p
  exact PySem.W.kia_one PySem.W.kitx_dict I.kIn ⟨o, h1, h2.1⟩ e (fun z => nomatch z) h
 | @dT a kvs ea =>
  cases (show u = Value.ref a from rx)
  obtain ⟨_, _, xs, _, o, es, ep, h1, h2, _⟩ := (show ObjOk X.prog X.w H s.heap a (.dT kvs) from I.hok a _ ea)
  exact PySem.W.kia_one PySem.W.kitx_dict I.kIn ⟨o, h1, h2.1⟩ e (fun z => nomatch z) h
 | @ins a C dx fs ea cl ha hn htk hm =>
  cases (show u = Value.ref a from rx)
  obtain ⟨mA, O, _⟩ := ins_get I.hok ea
  obtain ⟨od, J, _⟩ := O.look
  exact PySem.W.kia_one (PySem.W.kitx_own (cl.get _) cl.hd ha hn htk hm) I.kIn J e (fun z => nomatch z) h
end
end L2
namespace L2
open PySem PySem.Spec PyProof.Rows
structure Room (k : Nat) (A : Around) : Prop where
 hd : A.handled = none
 dp : A.depth + 3 * k + 5 < recursionLimit
 un : A.units + 16 * k + 200 < cLine
theorem Room.deeper {k : Nat} {A : Around} (r : Room (k + 1) A) (env : Env) : Room k (A.deeper env) :=
 ⟨r.hd, by have := r.dp; show A.depth + 1 + 3 * k + 5 < _; omega, by have := r.un; show A.units + 3 + 16 * k + 200 < _; omega⟩
theorem Room.depth {k : Nat} {A : Around} (r : Room k A) : A.depth < recursionLimit := by have := r.dp; omega
theorem Room.units {k : Nat} {A : Around} (r : Room k A) : A.units + 64 < cLine := by have := r.un; omega
def tNil : TA := fun _ H Q => Q [] H
def tCons (ta : TE) (tr : TA) : TA := fun σ H Q => ta σ H fun x H1 => tr σ H1 fun xs H2 => Q (x :: xs) H2
section
variable {X : Cx} {e : Expr} {es : List Expr} {te : TE} {t : TA} {pos : Pos}
theorem pa_nil : PA X [] tNil := fun _ _ _ _ H Q I h => Calls.spliced_nil ⟨[], H, I, .nil, h⟩
theorem pa_cons (ha : PE X e te) (hr : PA X es t) (hs : starEach (e :: es) X.env = (false, eval e X.env) :: starEach es X.env := by rfl) : PA X (e :: es) (tCons te t) := by
 intro pos pins s σ H Q I h
 rw [hs]
 show wpAny _ _ (spliced ((false, eval e X.env) :: backTo pos (starEach es X.env))) _ _ s
 refine Calls.spliced_cons (thn (ha pins s σ H _ I h) fun u s1 ⟨x, H1, I1, r1, q1⟩ => ?_)
 exact thn (hr pos pins s1 σ H1 _ I1 q1) fun us s2 ⟨xs, H2, I2, r2, q2⟩ => ⟨x :: xs, H2, I2, .cons r1 r2, q2⟩
def tTup (t : TA) : TE := fun σ H Q => t σ H fun xs H1 => xs.length <= sizeLine /\ ∀ p, H1 p = none -> Q (.ref p) (upd H1 p (.tup xs))
def tLst (t : TA) : TE := fun σ H Q => t σ H fun xs H1 => xs.length <= sizeLine /\ ∀ p, H1 p = none -> Q (.ref p) (upd H1 p (.lst xs))
theorem pe_tup {x1} (h : PA X es t) : PE X (.Tuple es x1 pos) (tTup t) := by
 intro pins s σ H Q I hq
 refine wpAny_Tuple_spliced (thn (h pos pins s σ H _ I hq) fun us s1 ⟨xs, H1, I1, r, z, q⟩ => ⟨by rw [<- r.length]; exact z, ?_⟩)
 have hf : H1 s1.heap.objs.size = none := I1.hok.fresh (Nat.le_refl _)
 refine ⟨.ref s1.heap.objs.size, upd H1 s1.heap.objs.size (.tup xs), I1.laid (t' := s1.toks) (fun b u e => Heap.get?_push_of_some _ e) (Nat.le_refl _) ?_, rfl, q _ hf⟩
 exact ⟨z, us, r, ⟨_, Heap.get?_push_size _ rfl, rfl, _, rfl⟩⟩
theorem pe_lst (h : PA X es t) : PE X (.List es pos) (tLst t) := by
 intro pins s σ H Q I hq
 refine wpAny_List_spliced (thn (h pos pins s σ H _ I hq) fun us s1 ⟨xs, H1, I1, r, z, q⟩ => ⟨by rw [<- r.length]; exact z, ?_⟩)
 have hf : H1 s1.heap.objs.size = none := I1.hok.fresh (Nat.le_refl _)
 refine ⟨.ref s1.heap.objs.size, upd H1 s1.heap.objs.size (.lst xs), I1.laid (t' := s1.toks) (fun b u e => Heap.get?_push_of_some _ e) (Nat.le_refl _) ?_, rfl, q _ hf⟩
 exact ⟨z, us, 0, r, Heap.get?_push_size _ rfl⟩
end
abbrev Sp := List V -> Hp -> VK -> XK -> Prop
abbrev CXT := List Env -> Hp -> Shared -> XK -> Value -> Shared -> Prop
structure Env0 (P : Program) (w : World) (K : PySem.W.Frag) (mg : Str -> Option Value) (base : Heap) (A : Around) (outer : List Env) (s : Shared) (H : Hp) : Prop where
 frames : A.frames = some outer
 mod : Mod K mg base
 bs : ∀ b o, base.get? b = some o -> s.heap.get? b = some o /\ H b = none
 bsz : base.objs.size <= s.heap.objs.size
 funs : s.heap.FunFrames base outer
 frf : ∀ b ∈ frs outer, H b = none
 hok : HOk P w H s.heap
 bare : AllBare s.gens
def CE (outer : List Env) (P : Program) (w : World) (H : Hp) (s : Shared) (Q : VK) (u : Value) (s' : Shared) : Prop :=
 ∃ v H', s'.os = s.os /\ AllBare s'.gens /\ Un (frs outer) [] H H' s.heap s'.heap /\ HOk P w H' s'.heap /\ RelV v u /\ Q v H'
def CR (CX : CXT) (outer : List Env) (P : Program) (w : World) (H : Hp) (s : Shared) (Q : VK) (E : XK) (r : Result) (s' : Shared) : Prop :=
 match r with
 | .ok (.ret u) => CE outer P w H s Q u s'
 | .ok _ => False
 | .error e => CX outer H s E e s'
structure FnOk (P : Program) (w : World) (K : PySem.W.Frag) (mg : Str -> Option Value) (base : Heap) (CX : CXT) (k : Nat) (f : Addr) (fd : FuncData) (ps : List Str) (sp : Sp) : Prop where
 len : ∀ vs H Q E, sp vs H Q E -> vs.length = ps.length
 run : ∀ (A : Around) (outer : List Env) (s : Shared) (H : Hp) (args : Args) (us : List Value) (vs : List V) (Q : VK) (E : XK), Room k A -> Env0 P w K mg base A outer s H -> BindsTo s fd args (ps.zip us) -> Vals vs us -> sp vs H Q E ->
  codeAny (model P w) A (.call (.ref f) args) (CR CX outer P w H s Q E) s
section
variable {X : Cx} {pins : List (Addr × Obj)} {σ : St} {H : Hp} {s s' : Shared}
theorem Inv.env0 (I : Inv X pins σ H s) : Env0 X.prog X.w X.K X.mg X.base X.A X.stack s H :=
 ⟨I.ok.frames, I.ok.mod, I.bs, Nat.le_trans I.ok.bsz I.sz, I.stack, I.stkFree, I.hok, I.bare⟩
theorem Inv.after {Q : VK} {u : Value} (I : Inv X pins σ H s) (h : CE X.stack X.prog X.w H s Q u s') : EP X pins σ Q u s' := by
 obtain ⟨v, H', os, bare, un, hok, r, q⟩ := h
 obtain ⟨hh, g, d, t, os'⟩ := s'
 obtain rfl : os' = s.os := os
 exact ⟨v, H', I.call (h' := hh) (g' := g) (d' := d) (t' := t) (ch := []) un hok bare (fun b z => absurd z (by simp)), r, q⟩
end
def tCall (sp : Sp) (dvs : List V) (E : XK) (t : TA) : TE := fun σ H Q => t σ H fun vs H1 => sp (vs ++ dvs) H1 Q E
def Binds (K : PySem.W.Frag) (fd : FuncData) (ps : List Str) (ds : List Value) : Prop :=
 ∀ (s : Shared) (us : List Value), K.In s.heap -> (us ++ ds).length = ps.length -> BindsTo s fd ⟨us, []⟩ (ps.zip (us ++ ds))
theorem Binds.all {K : PySem.W.Frag} {fd : FuncData} {ps : List Str} (h : ∀ us : List Value, us.length = ps.length -> bindArgs fd ⟨us, []⟩ = pure (ps.zip us)) : Binds K fd ps [] := fun s us _ hl => by
 rw [List.append_nil] at hl ⊢
 exact .of_eq (h us hl)
def Passes (CX : CXT) (X : Cx) (E : XK) : Prop := ∀ (pins : List (Addr × Obj)) (σ : St) (H : Hp) (s : Shared) (e : Value) (s' : Shared), Inv X pins σ H s -> CX X.stack H s E e s' -> X.xe e s'
section
variable {X : Cx} {CX : CXT} {k : Nat} {f C : Addr} {fd : FuncData} {ps : List Str} {sp : Sp} {dvs : List V} {ds : List Value} {E : XK} {x m : Str} {p pos apos : Pos} {e o : Expr} {es : List Expr} {ta : TE} {t : TA}
theorem run_fn {pins : List (Addr × Obj)} {σ : St} {H : Hp} {s : Shared} {Q : VK} {us : List Value} {vs : List V} (F : FnOk X.prog X.w X.K X.mg X.base CX k f fd ps sp) (hr : Room k X.A) (hb : Binds X.K fd ps ds) (hd : Vals dvs ds) (hx : Passes CX X E)
  (I : Inv X pins σ H s) (r : Vals vs us) (h : sp (vs ++ dvs) H Q E) : wpAny (model X.prog X.w) X.A (call (.ref f) us) (EP X pins σ Q) X.xe s := by
 have r2 : Vals (vs ++ dvs) (us ++ ds) := r.append hd
 have hl : (us ++ ds).length = ps.length := by rw [<- r2.length]; exact F.len _ _ _ _ h
 refine wpAny_call (codeAny_mono (F.run X.A X.stack s H ⟨us, []⟩ (us ++ ds) (vs ++ dvs) Q E hr I.env0 (hb s us I.kIn hl) r2 h) fun r s' hq => ?_)
 cases r with
 | error e => exact hx pins σ H s e s' I hq
 | ok fl =>
  cases fl with
  | ret u => exact I.after hq
  | next => exact False.elim hq
  | brk => exact False.elim hq
  | cont => exact False.elim hq
theorem pe_call (F : FnOk X.prog X.w X.K X.mg X.base CX k f fd ps sp) (hr : Room k X.A) (hg : Gl X x) (hm : X.mg x = some (.ref f)) (hk : PySem.W.keepIn X.K (.ref f) = true) (hb : Binds X.K fd ps ds) (hd : Vals dvs ds) (hx : Passes CX X E)
  (ha : PA X (e :: es) t) (hdb : (x == ("__debug__" : Str)) = false := by decide) (he : starEach (e :: es) X.env = (false, eval e X.env) :: starEach es X.env := by rfl) (hpl : (backTo pos (starEach es X.env)).any (·.1) = false := by rfl) :
  PE X (.Call (.Name x p) (e :: es) [] pos) (tCall sp dvs E t) := by
 intro pins s σ H Q I h
 refine wpAny_Call_Name_kw (ld_glob I hg hm ?_ hdb)
 refine PySem.W.callWith_K (h₀ := X.base) I.ok.mod.kin hk (thn (ha pos pins s σ H _ I h) fun us s1 ⟨vs, H1, I1, r, q⟩ => ⟨I1.kIn, ?_⟩) he hpl
 exact run_fn F hr hb hd hx I1 r q
end
def PK (X : Cx) (kws : List Keyword) (t : TA) : Prop :=
 ∀ (pos : Pos) (pins : List (Addr × Obj)) (s : Shared) (σ : St) (H : Hp) (Q : List V -> Hp -> Prop), Inv X pins σ H s -> t σ H Q -> wpAny (model X.prog X.w) X.A (evalAll ((backToKw pos (keywordEach kws X.env)).map (·.2))) (AP X pins σ Q) X.xe s
section
variable {X : Cx} {CX : CXT} {k : Nat} {f C : Addr} {fd : FuncData} {ps ks : List Str} {sp : Sp} {E : XK} {x m : Str} {p pos apos kpos : Pos} {e o : Expr} {es : List Expr} {kws : List Keyword} {te ta : TE} {t tk : TA} {nm : Option Str}
theorem pk_nil : PK X [] tNil := fun _ _ _ _ H Q I h => wpAny_evalAll_nil ⟨[], H, I, .nil, h⟩
theorem pk_cons (ha : PE X e te) (hr : PK X kws t) : PK X (⟨nm, e, kpos⟩ :: kws) (tCons te t) := by
 intro pos pins s σ H Q I h
 show wpAny _ _ (evalAll ((do let v <- eval e X.env; standAt pos; pure v) :: (backToKw pos (keywordEach kws X.env)).map (·.2))) _ _ s
 refine wpAny_evalAll_cons (wpAny_bind (thn (ha pins s σ H _ I h) fun u s1 ⟨x, H1, I1, r1, q1⟩ => wpAny_bind (wpAny_standAt (wpAny_pure ?_))))
 exact thn (hr pos pins s1 σ H1 _ I1 q1) fun us s2 ⟨xs, H2, I2, r2, q2⟩ => ⟨x :: xs, H2, I2, .cons r1 r2, q2⟩
variable {g : List Value -> List Value -> List Value} {gV : List V -> List V -> List V}
end
structure FnScope (N P : List Str) (sc : Scope) : Prop where
 kind : sc.kind = .function
 co : sc.isCoroutine = false
 gen : sc.isGenerator = false
 nd : N.Nodup
 pre : N.take P.length = P
 par : ∀ x ∈ P, sc.names.lookup x = some .local \/ sc.names.lookup x = some .cell
 nofree : ∀ y ∈ sc.names, y.2 ≠ .free
theorem bindL_out {kindOf : Str -> Option NameKind} {x : Str} : ∀ {binds : List (Str × Value)} {m : Str -> Option Value}, (∀ v, (x, v) ∉ binds) -> bindL kindOf binds m x = m x
 | [], _, _ => rfl
 | (n, v) :: r, m, h => by
  unfold bindL
  rw [bindL_out fun w hw => h w (List.mem_cons_of_mem _ hw)]
  split
  ·have : x ≠ n := by rintro rfl; exact h v List.mem_cons_self
   simp [this]
  ·rfl
theorem bindC_out {kindOf : Str -> Option NameKind} {x : Str} : ∀ {binds : List (Str × Value)} {m : Str -> Option Value}, (∀ v, (x, v) ∉ binds) -> bindC kindOf binds m x = m x
 | [], _, _ => rfl
 | (n, v) :: r, m, h => by
  unfold bindC
  rw [bindC_out fun w hw => h w (List.mem_cons_of_mem _ hw)]
  split
  ·rfl
  ·have : x ≠ n := by rintro rfl; exact h v List.mem_cons_self
   simp [this]
theorem bindL_get {kindOf : Str -> Option NameKind} {x : Str} {v : Value} : ∀ {P : List Str} {vs : List Value} {i : Nat} {m : Str -> Option Value}, P.Nodup -> P[i]? = some x -> vs[i]? = some v -> kindOf x = some .local ->
  bindL kindOf (P.zip vs) m x = some v
 | [], _, _, _, _, h, _, _ => by simp at h
 | _ :: _, [], _, _, _, _, h, _ => by simp at h
 | p :: P, w :: vs, 0, m, nd, h1, h2, hk => by
  simp at h1 h2; subst h1; subst h2
  show bindL kindOf ((p, w) :: P.zip vs) m p = _
  unfold bindL
  rw [bindL_out fun v hv => (List.nodup_cons.mp nd).1 (List.of_mem_zip hv).1, if_pos hk]
  simp
 | p :: P, w :: vs, i + 1, m, nd, h1, h2, hk => by
  show bindL kindOf ((p, w) :: P.zip vs) m x = _
  unfold bindL
  exact bindL_get (i := i) (List.nodup_cons.mp nd).2 (by simpa using h1) (by simpa using h2) hk
theorem bindC_get {kindOf : Str -> Option NameKind} {x : Str} {v : Value} : ∀ {P : List Str} {vs : List Value} {i : Nat} {m : Str -> Option Value}, P.Nodup -> P[i]? = some x -> vs[i]? = some v -> kindOf x ≠ some .local ->
  bindC kindOf (P.zip vs) m x = some v
 | [], _, _, _, _, h, _, _ => by simp at h
 | _ :: _, [], _, _, _, _, h, _ => by simp at h
 | p :: P, w :: vs, 0, m, nd, h1, h2, hk => by
  simp at h1 h2; subst h1; subst h2
  show bindC kindOf ((p, w) :: P.zip vs) m p = _
  unfold bindC
  rw [bindC_out fun v hv => (List.nodup_cons.mp nd).1 (List.of_mem_zip hv).1, if_neg hk]
  simp
 | p :: P, w :: vs, i + 1, m, nd, h1, h2, hk => by
  show bindC kindOf ((p, w) :: P.zip vs) m x = _
  unfold bindC
  exact bindC_get (i := i) (List.nodup_cons.mp nd).2 (by simpa using h1) (by simpa using h2) hk
def start (N : List Str) (vs : List V) : St := vs.map some ++ List.replicate (N.length - vs.length) none
def cxOf (CX : CXT) (P : Program) (w : World) (K : PySem.W.Frag) (mg : Str -> Option Value) (base : Heap) (N : List Str) (qual : Str) (scope : Scope) (f : Addr) (cd : Value) (A : Around) (outer : List Env) (s : Shared) (H : Hp) (E : XK) : Cx where
 prog := P
 w := w
 K := K
 mg := mg
 base := base
 A := A.deeper (envOfC qual scope s.heap.objs.size f cd)
 N := N
 s₀ := s
 H₀ := H
 env := envOfC qual scope s.heap.objs.size f cd
 outer := outer
 stack := envOfC qual scope s.heap.objs.size f cd :: outer
 ex := []
 calm := true
 fn := fun _ => true
 pn := []
 xe := fun e s' => wpAny (model P w) (A.deeper (envOfC qual scope s.heap.objs.size f cd)) (leaving (envOfC qual scope s.heap.objs.size f cd) e) (fun _ s'' => CX outer H s E e s'') (fun e' s'' => CX outer H s E e' s'') s'
theorem cell_has {sc : Scope} {n : Nat} {x : Str} (h : sc.names.lookup x = some .cell) : ∃ c, (cellsFrom n sc.names []).lookup x = some c := by
 have q := PySem.W.cellsFrom_some sc.names n [] (.inl h)
 exact Option.isSome_iff_exists.mp q
theorem inv_start {CX : CXT} {P : Program} {w : World} {K : PySem.W.Frag} {mg : Str -> Option Value} {base : Heap} {N ps : List Str} {qual : Str} {scope : Scope} {f : Addr} {cd : Value} {A : Around} {outer : List Env} {s s1 : Shared} {H : Hp} {E : XK} {us : List Value} {vs : List V}
  (S : FnScope N ps scope) (hd : A.handled = none) (e0 : Env0 P w K mg base A outer s H) (hl : vs.length = ps.length) (r : Vals vs us)
  (x : InCallC s s.heap.objs.size (bindL (envOfC qual scope s.heap.objs.size f cd).kindOf (ps.zip us) fun _ => none) (cellsFrom (s.heap.objs.size + 1) scope.names []) (bindC (envOfC qual scope s.heap.objs.size f cd).kindOf (ps.zip us) fun _ => none) s1) :
  Inv (cxOf CX P w K mg base N qual scope f cd A outer s H E) [] (start N vs) H s1 := by
 have hpl : ps.length <= N.length := by have := congrArg List.length S.pre; rw [List.length_take] at this; omega
 obtain ⟨h1, tk, rfl, hk⟩ := x.done
 have noA : ∀ b : Addr, b ∉ (cxOf CX P w K mg base N qual scope f cd A outer s H E).ex := fun b z => absurd (show b ∈ ([] : List Addr) from z) (by simp)
 refine ⟨⟨e0.mod, S.kind, rfl, rfl, Nat.le_refl _, fun y z c h1 h2 => ?_, fun y hy => ?_, fun y c _ h => ?_, fun _ => hd, Around.frames_deeper e0.frames, .inr ⟨rfl, rfl⟩, fun b z => absurd z (noA b), e0.bs, e0.bsz, fun b _ _ => noA b, fun b z => absurd z (noA b), e0.funs, e0.frf⟩,
  rfl, e0.bare, Un.kept hk, ⟨_, x.toInCall.ns, fun i y v h1 h2 h3 => ?_⟩, fun y c h => ⟨_, x.cell y c h⟩, e0.hok.fresh (Nat.le_refl _), fun y c h => ?_, fun p hp => absurd (show p ∈ ([] : List (Addr × Obj)) from hp) (by simp), e0.hok.kept hk, ?_⟩
 ·exact name_of_addr x.apart (PySem.mem_of_lookup h1) (PySem.mem_of_lookup h2)
 ·have hy : scope.names.lookup y = some .cell \/ scope.names.lookup y = some .free := hy
  rcases hy with hy | hy
  ·exact cell_has hy
  ·exact absurd rfl (S.nofree _ (PySem.mem_of_lookup hy))
 ·exact Nat.le_of_lt (x.above y c (PySem.mem_of_lookup h))
 ·have hi : i < vs.length := by
   unfold start at h2
   by_cases hi : i < vs.length
   ·exact hi
   ·rw [List.getElem?_append_right (by simpa using hi)] at h2
    rw [List.getElem?_replicate] at h2
    split at h2 <;> cases h2
  have ha : vs[i]? = some v := by
   unfold start at h2
   rw [List.getElem?_append_left (by simpa using hi), List.getElem?_map] at h2
   cases e : vs[i]? with
   | none => rw [e] at h2; cases h2
   | some a => rw [e] at h2; cases h2; rfl
  obtain ⟨u, hu, rv⟩ := r.get ha
  have hp : ps[i]? = some y := by
   rw [<- S.pre, List.getElem?_take_of_lt (by omega)]; exact h1
  have ndP : ps.Nodup := by rw [<- S.pre]; exact S.nd.sublist (List.take_sublist _ _)
  refine ⟨u, rv, ?_⟩
  rcases S.par y (List.mem_of_getElem? hp) with k | k
  ·exact .inl ⟨k, bindL_get ndP hp hu k⟩
  ·obtain ⟨c, e⟩ := cell_has (n := s.heap.objs.size + 1) k
   refine .inr ⟨.inl k, c, e, ?_⟩
   have q := x.cell y c e
   rw [bindC_get ndP hp hu (by show scope.names.lookup y ≠ _; rw [k]; decide)] at q
   exact q
 ·exact e0.hok.fresh (Nat.le_of_lt (x.above y c (PySem.mem_of_lookup h)))
 ·unfold start
  show _ = N.length
  rw [List.length_append, List.length_map, List.length_replicate]
  omega
theorem fn_of {CX : CXT} {P : Program} {w : World} {K : PySem.W.Frag} {mg : Str -> Option Value} {base : Heap} {k : Nat} {f : Addr} {name qual : Str} {params : Arguments} {body : List Stmt} {scope : Scope} {dV kV doc pm cdv ct oc : Value} {an od : Option Addr}
  {osl : Array (Option Value)} {N ps : List Str} {sp : Sp} (lk : K.lookup f = some ⟨oc, od, .func (PySem.W.fnOf name qual params body scope dV kV doc pm an cdv ct), osl⟩) (hcd : PySem.W.codeIn K cdv qual = true) (S : FnScope N ps scope)
  (len : ∀ vs H Q E, sp vs H Q E -> vs.length = ps.length)
  (hbody : ∀ (A : Around) (outer : List Env) (s : Shared) (H : Hp) (vs : List V) (Q : VK) (E : XK), Room k (A.deeper (envOfC qual scope s.heap.objs.size f cdv)) -> sp vs H Q E ->
   ∃ t, PSs (cxOf CX P w K mg base N qual scope f cdv A outer s H E) body t /\ t { nx := fun _ H' => Q .non H', rt := Q } (start N vs) H) :
  FnOk P w K mg base CX (k + 1) f (PySem.W.fnOf name qual params body scope dV kV doc pm an cdv ct) ps sp := by
 refine ⟨len, fun A outer s H args us vs Q E hr e0 hb r hsp => ?_⟩
 have hl := len _ _ _ _ hsp
 have KX : K.In s.heap := e0.mod.kin.keeps fun b o e => (e0.bs b o e).1
 have lim : s.heap.NoLimit := e0.mod.nolimit.keeps fun b o e => (e0.bs b o e).1
 have hkind : ∀ y ∈ ps.zip us, scope.names.lookup y.1 = some .local \/ (scope.names.lookup y.1 = some .cell /\ ((cellsFrom (s.heap.objs.size + 1) scope.names []).lookup y.1).isSome = true) := fun ⟨n, v⟩ hy => by
  rcases S.par n (List.of_mem_zip hy).1 with q | q
  ·exact .inl q
  ·exact .inr ⟨q, PySem.W.cellsFrom_some _ _ _ (.inl q)⟩
 refine codeAny_call_function hr.depth (KX _ _ lk) rfl S.co S.gen rfl (PySem.W.codeRec_of KX hcd) (hb _ _ _ _ ?_)
 refine wpAny_newFunctionEnv_cells S.kind hkind fun env he s1 x => ?_
 subst he
 refine ⟨lim.keeps x.toInCall.keep, codeAny_func ?_⟩
 obtain ⟨t, ht, hq⟩ := hbody A outer s H vs Q E (hr.deeper _) hsp
 have I : Inv (cxOf CX P w K mg base N qual scope f cdv A outer s H E) [] (start N vs) H s1 := inv_start S hr.hd e0 hl r x
 refine wpAny_mono (ht [] s1 (start N vs) H _ I hq) (fun fl s' hs => ?_) fun e s' hs => hs
 have fin : ∀ {σ' : St} {H' : Hp} {v : V} {u : Value}, Inv (cxOf CX P w K mg base N qual scope f cdv A outer s H E) [] σ' H' s' -> RelV v u -> Q v H' -> CE outer P w H s Q u s' :=
  fun {σ' H' v u} J rv q => ⟨v, H', J.os, J.bare, J.base, J.hok, rv, q⟩
 cases fl with
 | ret u =>
  obtain ⟨v, σ', H', J, rv, q⟩ := hs
  exact fin J rv q
 | next =>
  obtain ⟨σ', H', J, q⟩ := hs
  exact fin (v := V.non) (u := Value.none) J rfl q
 | brk =>
  obtain ⟨_, _, _, q⟩ := hs
  exact False.elim q
 | cont =>
  obtain ⟨_, _, _, q⟩ := hs
  exact False.elim q
end L2
namespace L2
open PySem PySem.Spec PyProof.Rows
section
variable {X : Cx} {x : Str} {p pos : Pos} {e : Expr} {es : List Expr} {t : TA} {id T : String} {r : List V -> Hp -> VK -> Prop}
def tCB (r : List V -> Hp -> VK -> Prop) (t : TA) : TE := fun σ H Q => t σ H fun vs H1 => r vs H1 Q
theorem pe_callB (hc : CallR X (.builtin id) r) (hg : Gl X x) (hm : X.mg x = none) (hv : bootBuiltins x = some (.builtin id)) (ha : PA X (e :: es) t) (hn : x ≠ "__name__" := by decide) (hdb : (x == ("__debug__" : Str)) = false := by decide)
  (he : starEach (e :: es) X.env = (false, eval e X.env) :: starEach es X.env := by rfl) (hpl : (backTo pos (starEach es X.env)).any (·.1) = false := by rfl) : PE X (.Call (.Name x p) (e :: es) [] pos) (tCB r t) := by
 intro pins s σ H Q I h
 refine wpAny_Call_Name_kw (ld_blt I hg hm hv ?_ hn hdb)
 exact PyProof.Rows.callWith_builtin1 (thn (ha pos pins s σ H _ I h) fun us s1 ⟨vs, H1, I1, r1, q1⟩ => hc pins s1 σ H1 vs us Q I1 r1 q1) he hpl
theorem pe_callTy (hc : CallR X (.type T) r) (hg : Gl X x) (hm : X.mg x = none) (hv : bootBuiltins x = some (.type T)) (ha : PA X (e :: es) t) (hn : x ≠ "__name__" := by decide) (hdb : (x == ("__debug__" : Str)) = false := by decide)
  (he : starEach (e :: es) X.env = (false, eval e X.env) :: starEach es X.env := by rfl) (hpl : (backTo pos (starEach es X.env)).any (·.1) = false := by rfl) : PE X (.Call (.Name x p) (e :: es) [] pos) (tCB r t) := by
 intro pins s σ H Q I h
 refine wpAny_Call_Name_kw (ld_blt I hg hm hv ?_ hn hdb)
 exact PyProof.Rows.callWith_type1 (thn (ha pos pins s σ H _ I h) fun us s1 ⟨vs, H1, I1, r1, q1⟩ => hc pins s1 σ H1 vs us Q I1 r1 q1) he hpl
end
end L2
namespace HT
open PySem PyProof.Rows
section
open PySem.SeqAt
open PySem.AutoSeq1 (wpAny_loadPart')
open PySem.MeetsSeq PySem.MeetsSeq2 PySem.MeetsSeq3
end
section
variable {prog : Program} {w : World} {A : Around} {E : Value -> Shared -> Prop} {s : Shared}
theorem cat_tup {t b : Addr} {vs ws : List Value} {Q : Value -> Shared -> Prop} (ht : IsTup s.heap t vs.toArray) (hb : IsTup s.heap b ws.toArray) (hv : vs ≠ [])
  (h1 : ws = [] -> Q (.ref t) s) (h2 : ws ≠ [] -> Q (.ref s.heap.objs.size) { s with heap := s.heap.push { cls := .type "tuple", data := .seq (vs ++ ws).toArray } })
  (hsz : vs.length + ws.length <= sizeLine) : wpAny (model prog w) A (binaryOp .Add (.ref t) (.ref b)) Q E s := by
 obtain ⟨⟨cls, dd, data, sl⟩, ho, hc, n, hd⟩ := id ht
 obtain ⟨⟨cls2, dd2, data2, sl2⟩, ho2, hc2, n2, hd2⟩ := id hb
 simp only at hc hd hc2 hd2
 subst hc hd hc2 hd2
 have e : vs.toArray ++ ws.toArray = (vs ++ ws).toArray := by simp
 by_cases hw : ws = []
 ·exact concat_meets ⟨_, ho, rfl⟩ ⟨_, ho2, rfl⟩ noFill_tuple_add seq_tuple_add PySem.F.slot_tuple_add PySem.F.entry_tuple_add (PySem.F.args_tuple_add_2 _ _)
   (tuple_addW1 t b vs.toArray ws.toArray n n2 dd dd2 sl sl2 (by simpa using hv) (by simp [hw])) ⟨ho, ho2, h1 hw⟩
 ·refine concat_meets ⟨_, ho, rfl⟩ ⟨_, ho2, rfl⟩ noFill_tuple_add seq_tuple_add PySem.F.slot_tuple_add PySem.F.entry_tuple_add (PySem.F.args_tuple_add_2 _ _)
   (tuple_addW2 t b vs.toArray ws.toArray n n2 dd dd2 sl sl2 (by simpa using hv) (by simpa using hw) (by rw [List.size_toArray, List.size_toArray]; exact hsz)) ⟨ho, ho2, ?_⟩
  rw [e]
  exact h2 hw
def sIx (n d : Nat) : Option Int -> Nat
 | none => d
 | some v => if v < 0 then (v + (n : Int)).toNat else min v.toNat n
end
end HT
namespace L2
open PySem PySem.Spec PyProof.Rows
abbrev TO := St -> Hp -> (Option Int -> Hp -> Prop) -> Prop
def PO (X : Cx) (e : Option Expr) (t : TO) : Prop :=
 ∀ (pins : List (Addr × Obj)) (s : Shared) (σ : St) (H : Hp) (Q : Option Int -> Hp -> Prop), Inv X pins σ H s -> t σ H Q ->
  wpAny (model X.prog X.w) X.A (evalPart e X.env) (fun u s' => ∃ o H', Inv X pins σ H' s' /\ IsPart u o /\ Q o H') X.xe s
def tNoPart : TO := fun _ H Q => Q none H
def tPart (t : TE) : TO := fun σ H Q => t σ H fun x H1 => ∃ i, x = .int i /\ Q (some i) H1
section
variable {X : Cx} {e : Expr} {te : TE} {lo hi : Option Expr} {tl th : TO} {pos p2 : Pos}
theorem po_none : PO X none tNoPart := by
 intro pins s σ H Q I h
 rw [evalPart_none]
 exact wpAny_pure ⟨none, H, I, .none, h⟩
theorem po_some (h : PE X e te) : PO X (some e) (tPart te) := by
 intro pins s σ H Q I hw
 rw [evalPart_some]
 refine thn (h pins s σ H _ I hw) fun u s1 ⟨x, H1, I1, r1, q1⟩ => ?_
 obtain ⟨i, rfl, q⟩ := q1
 obtain ⟨t, rfl⟩ := r1
 exact ⟨some i, H1, I1, .int i t, q⟩
def SlR (X : Cx) (r : V -> Option Int -> Option Int -> Hp -> VK -> Prop) : Prop :=
 ∀ (pins : List (Addr × Obj)) (s : Shared) (σ : St) (H : Hp) (x : V) (v vl vu : Value) (lo hi : Option Int) (sl : Addr) (Q : VK), Inv X pins σ H s -> RelV x v -> s.heap.IsSliceOf sl vl vu .none -> IsPart vl lo -> IsPart vu hi -> r x lo hi H Q ->
  ∃ T id, typeLookup (.type T) "__getitem__" = pure (some (.builtin id)) /\ s.TypeIs v T /\ wpAny (model X.prog X.w) X.A (getItem v (.ref sl)) (EP X pins σ Q) X.xe s
def tSl (r : V -> Option Int -> Option Int -> Hp -> VK -> Prop) (te : TE) (tl th : TO) : TE := fun σ H Q => te σ H fun x H1 => tl σ H1 fun l H2 => th σ H2 fun u H3 => r x l u H3 Q
theorem pe_slice {r : V -> Option Int -> Option Int -> Hp -> VK -> Prop} (hr : SlR X r) (he : PE X e te) (hl : PO X lo tl) (hu : PO X hi th) : PE X (.Subscript e (.Slice lo hi none p2) pos) (tSl r te tl th) := by
 intro pins s σ H Q I h
 refine Subscript_ (thn (he pins s σ H _ I h) fun v s1 ⟨x, H1, I1, r1, q1⟩ => ?_)
 refine wpAny_Slice (thn (hl pins s1 σ H1 _ I1 q1) fun vl s2 ⟨l, H2, I2, pl, q2⟩ => thn (hu pins s2 σ H2 _ I2 q2) fun vu s3 ⟨u, H3, I3, pu, q3⟩ => ?_)
 rw [evalPart_none]
 refine wpAny_pure ?_
 have I4 : Inv X pins σ H3 { s3 with heap := s3.heap.push { cls := .type "slice", data := .fields #[vl, vu, .none] } } := I3.kept (t' := s3.toks) fun b ob q => Heap.get?_push_of_some _ q
 obtain ⟨T, id, hT, ht, hg⟩ := hr pins { s3 with heap := s3.heap.push { cls := .type "slice", data := .fields #[vl, vu, .none] } } σ H3 x v vl vu l u s3.heap.objs.size Q I4 r1 (Heap.IsSliceOf.new ..) pl pu q3
 show wpAny (model X.prog X.w) X.A (subscriptTail e (.Slice lo hi none p2) v (.ref s3.heap.objs.size)) (EP X pins σ Q) X.xe { s3 with heap := s3.heap.push { cls := .type "slice", data := .fields #[vl, vu, .none] } }
 exact tail_any (ops := [.ref s3.heap.objs.size, v]) ht hT hg (by with_unfolding_all rfl)
def cutV (xs : List V) (lo hi : Option Int) : List V := (xs.drop (HT.sIx xs.length 0 lo)).take (HT.sIx xs.length xs.length hi - HT.sIx xs.length 0 lo)
theorem cutV_length (xs : List V) (lo hi : Option Int) : (cutV xs lo hi).length <= xs.length := by
 unfold cutV
 rw [List.length_take, List.length_drop]
 omega
def rCatT (K : PySem.W.Frag) : R2 := fun x y H Q => ∃ a b xs ys, x = .ref a /\ y = .ref b /\ SqT K H a xs /\ SqT K H b ys /\ xs ≠ [] /\ xs.length + ys.length <= sizeLine /\
 (ys = [] -> Q (.ref a) H) /\ (ys ≠ [] -> ∀ p, H p = none -> Q (.ref p) (upd H p (.tup (xs ++ ys))))
theorem Vals.nil_iff {xs : List V} {us : List Value} (r : Vals xs us) : us = [] ↔ xs = [] := by
 cases r with
 | nil => simp
 | cons _ _ => simp
theorem op_catT : OpR X (binaryOp .Add) (rCatT X.K) := by
 intro pins s σ H x y v u Q I rx ry h
 obtain ⟨a, b, xs, ys, rfl, rfl, ha, hb, hx, hz, q1, q2⟩ := h
 cases rx
 cases ry
 obtain ⟨its, r1, p1, _⟩ := I.tuple ha
 obtain ⟨its2, r2, p2, _⟩ := I.tuple hb
 refine HT.cat_tup p1 p2 (fun z => hx (r1.nil_iff.mp z)) (fun z => ⟨.ref a, H, I, rfl, q1 (r2.nil_iff.mp z)⟩) (fun z => ?_) (by rw [<- r1.length, <- r2.length]; exact hz)
 refine ⟨.ref s.heap.objs.size, _, I.laid (t' := s.toks) (o := .tup (xs ++ ys)) (fun b ob q => Heap.get?_push_of_some _ q) (Nat.le_refl _) ?_, rfl, q2 (fun w => z (r2.nil_iff.mpr w)) _ (I.hok.fresh (Nat.le_refl _))⟩
 exact ⟨by rw [List.length_append]; exact hz, _, r1.append r2, IsTup.new _ _⟩
end
end L2
namespace L2
open PySem PySem.Spec PyProof.Rows
def ixN (n : Nat) (i : Int) : Option Nat := if 0 <= i then (if i < n then some i.toNat else none) else if -(n : Int) <= i then some (i + n).toNat else none
def atI {α : Type} (xs : List α) (i : Int) : Option α := (ixN xs.length i).bind fun j => xs[j]?
theorem ixN_seq {n : Nat} {i : Int} {j : Nat} (h : ixN n i = some j) : seqIndex? i n = some j /\ j < n /\ -(n : Int) <= i /\ i < n := by
 unfold ixN at h
 by_cases h0 : 0 <= i
 ·rw [if_pos h0] at h
  by_cases h1 : i < n
  ·rw [if_pos h1] at h
   have e : i.toNat = j := Option.some.inj h
   exact ⟨by rw [seqIndex_of h0 h1, e], by omega, by omega, h1⟩
  ·rw [if_neg h1] at h; cases h
 ·rw [if_neg h0] at h
  by_cases h1 : -(n : Int) <= i
  ·rw [if_pos h1] at h
   have e : (i + n).toNat = j := Option.some.inj h
   exact ⟨by rw [seqIndex_neg (by omega) h1, e], by omega, h1, by omega⟩
  ·rw [if_neg h1] at h; cases h
theorem atI_get {α : Type} {xs : List α} {i : Int} {v : α} (h : atI xs i = some v) : ∃ j, seqIndex? i xs.length = some j /\ xs[j]? = some v /\ j < xs.length /\ -(xs.length : Int) <= i /\ i < xs.length := by
 unfold atI at h
 cases e : ixN xs.length i with
 | none => rw [e] at h; cases h
 | some j =>
  rw [e] at h
  obtain ⟨h1, h2, h3, h4⟩ := ixN_seq e
  exact ⟨j, h1, h, h2, h3, h4⟩
def PlainIx (b : Expr) : Prop := ∀ o i, subscripted b false o i = operate [o, i] (getItem o i)
def IxR (X : Cx) (r : R2) : Prop :=
 ∀ (value slice : Expr) (pins : List (Addr × Obj)) (s : Shared) (σ : St) (H : Hp) (x y : V) (v u : Value) (Q : VK), Inv X pins σ H s -> RelV x v -> RelV y u -> r x y H Q ->
  subscripted slice false v u = operate [v, u] (getItem v u) -> wpAny (model X.prog X.w) X.A (subscriptTail value slice v u) (EP X pins σ Q) X.xe s
def MtR (X : Cx) (id : String) (r : V -> List V -> Hp -> VK -> Prop) : Prop :=
 ∀ (pins : List (Addr × Obj)) (s : Shared) (σ : St) (H : Hp) (x : V) (xs : List V) (v : Value) (us : List Value) (Q : VK), Inv X pins σ H s -> RelV x v -> Vals xs us -> r x xs H Q ->
  wpAny (model X.prog X.w) X.A (call (.builtin id) (v :: us)) (EP X pins σ Q) X.xe s
section
variable {X : Cx} {a b : Expr} {ta tb : TE} {pos : Pos}
theorem IxR.or {r r' : R2} (h : IxR X r) (h' : IxR X r') : IxR X (fun x y H Q => r x y H Q \/ r' x y H Q) := by
 intro value slice pins s σ H x y v u Q I rx ry q hs
 rcases q with q | q
 ·exact h value slice pins s σ H x y v u Q I rx ry q hs
 ·exact h' value slice pins s σ H x y v u Q I rx ry q hs
theorem pe_ix {r : R2} (hr : IxR X r) (ha : PE X a ta) (hb : PE X b tb) (hs : PlainIx b) : PE X (.Subscript a b pos) (tOp r ta tb) := by
 intro pins s σ H Q I h
 exact Subscript_ (binT ha hb I h fun v u s2 x y H2 I2 rx ry q => hr a b pins s2 σ H2 x y v u Q I2 rx ry q (hs _ _))
def rIxL (K : PySem.W.Frag) : R2 := fun x y H Q => ∃ p xs i v, x = .ref p /\ y = .int i /\ SqL K H p xs /\ atI xs i = some v /\ Q v H
def rIxT (K : PySem.W.Frag) : R2 := fun x y H Q => ∃ p xs i v, x = .ref p /\ y = .int i /\ SqT K H p xs /\ atI xs i = some v /\ Q v H
def rIxS : R2 := fun x y H Q => ∃ z i c, x = .str z /\ y = .int i /\ z.length <= sizeLine /\ atI z.cps.toList i = some c /\ Q (.str ⟨#[c]⟩) H
theorem ix_list : IxR X (rIxL X.K) := by
 intro value slice pins s σ H x y v u Q I rx ry h hs
 obtain ⟨p, xs, i, z, rfl, rfl, hq, he, q⟩ := h
 cases rx
 obtain ⟨t, rfl⟩ := ry
 obtain ⟨its, r, pl, hz⟩ := I.list hq
 obtain ⟨j, h1, h2, h3, h4, h5⟩ := atI_get he
 obtain ⟨w, ew, rw'⟩ := r.get h2
 have hl := r.length
 have hn := line63
 have fin : EP X pins σ Q w s := ⟨z, H, I, rw', q⟩
 by_cases h0 : 0 <= i
 ·have hj : i.toNat = j := by
   rw [seqIndex_of h0 h5] at h1
   exact Option.some.inj h1
  exact item_listR pl.isList h0 (by omega) (by rw [hj]; simpa using ew) fin hs
 ·have hj : (i + (its.toArray.size : Int)).toNat = j := by
   rw [seqIndex_neg (by omega) h4] at h1
   rw [List.size_toArray, <- hl]
   exact Option.some.inj h1
  exact subscriptTail_builtinR (x := w) pl.isList.typeIs slot_list_getitem.lookup
   (wpAny_getItem_list_neg (Q := fun r s' => r = w /\ EP X pins σ Q r s') pl.isList (by omega) (by rw [List.size_toArray] <;> omega) (by omega) (by rw [hj]; simpa using ew) ⟨rfl, fin⟩) hs
theorem ix_tup : IxR X (rIxT X.K) := by
 intro value slice pins s σ H x y v u Q I rx ry h hs
 obtain ⟨p, xs, i, z, rfl, rfl, hq, he, q⟩ := h
 cases rx
 obtain ⟨t, rfl⟩ := ry
 obtain ⟨its, r, pl, hz⟩ := I.tuple hq
 obtain ⟨j, h1, h2, h3, h4, h5⟩ := atI_get he
 obtain ⟨w, ew, rw'⟩ := r.get h2
 have hl := r.length
 have hn := line63
 have fin : EP X pins σ Q w s := ⟨z, H, I, rw', q⟩
 exact subscriptTail_builtinR (x := w) pl.typeIs slot_tuple_getitem.lookup
  (getItem_tuple (j := j) (Q := fun r s' => r = w /\ EP X pins σ Q r s') pl (by omega) (by omega) (by rw [List.size_toArray, <- hl]; exact h1) (by simpa using ew) ⟨rfl, fin⟩) hs
theorem ix_str : IxR X rIxS := by
 intro value slice pins s σ H x y v u Q I rx ry h hs
 obtain ⟨z, i, c, rfl, rfl, hz, he, q⟩ := h
 obtain ⟨t, rfl⟩ := rx
 obtain ⟨t', rfl⟩ := ry
 obtain ⟨j, h1, h2, h3, h4, h5⟩ := atI_get he
 have hl : z.cps.toList.length = z.length := by simp [Str.length]
 rw [hl] at h1 h4 h5
 have hn := line63
 exact tail_any (typeIs_str s z t) slot_str_getitem.lookup (getItem_str (c := c) (by
  have e1 : decide (i < -(2 ^ 63 : Int)) = false := decide_eq_false (by omega)
  have e2 : decide (i ≥ 2 ^ 63) = false := decide_eq_false (by omega)
  rw [e1, e2, Bool.or_false]) (by rw [h1]; simpa using h2) ⟨.str ⟨#[c]⟩, H, I.tok _, ⟨_, rfl⟩, q⟩) hs
def rIx (K : PySem.W.Frag) : R2 := fun x y H Q => rIxL K x y H Q \/ rIxT K x y H Q \/ rIxS x y H Q
theorem ix_seq : IxR X (rIx X.K) := ix_list.or (ix_tup.or ix_str)
theorem mapSeq_set (its : List Value) (n j : Nat) (u : Value) : Obj.mapSeq (·.setIfInBounds j u) { cls := .type "list", data := .seq its.toArray n } = { cls := .type "list", data := .seq (its.set j u).toArray n } := by
 simp [Obj.mapSeq]
theorem Inv.lst {pins : List (Addr × Obj)} {σ : St} {H : Hp} {s : Shared} {p : Addr} {xs : List V} (I : Inv X pins σ H s) (h : H p = some (.lst xs)) :
  ∃ (its : List Value) (n : Nat), Vals xs its /\ s.heap.get? p = some { cls := .type "list", data := .seq its.toArray n } /\ xs.length <= sizeLine := by
 obtain ⟨z, its, n, r, e⟩ := I.hok p _ h
 exact ⟨its, n, r, e, z⟩
theorem Inv.lstUpd {pins : List (Addr × Obj)} {σ : St} {H : Hp} {s : Shared} {p : Addr} {xs ys : List V} {its its' : List Value} {n n' : Nat} {f : Obj -> Obj} (I : Inv X pins σ H s) (h : H p = some (.lst xs))
  (ho : s.heap.get? p = some { cls := .type "list", data := .seq its.toArray n }) (hf : f { cls := .type "list", data := .seq its.toArray n } = { cls := .type "list", data := .seq its'.toArray n' }) (r : Vals ys its') (hz : ys.length <= sizeLine) (t : Nat) :
  Inv X pins σ (upd H p (.lst ys)) { s with heap := s.heap.update p f, toks := t } := by
 have e : (s.heap.update p f).get? p = some { cls := .type "list", data := .seq its'.toArray n' } := by
  rw [Heap.get?_update_self f ho (by rw [hf] <;> rfl), hf]
 refine I.write (x := p) (e := p) (by rw [h]; trivial) (.inl rfl) (fun b u hb q => (Heap.get?_update_other _ _ (Ne.symm hb)).trans q) ⟨_, e⟩ ?_
 exact ⟨hz, its', n', r, e⟩
def rSetL : V -> V -> V -> Hp -> (Hp -> Prop) -> Prop := fun o i v H Q => ∃ p xs k j, o = .ref p /\ i = .int k /\ H p = some (.lst xs) /\ ixN xs.length k = some j /\ Q (upd H p (.lst (xs.set j v)))
theorem set_list : PSet X rSetL := by
 intro pins s σ H o i v ov iv u Q I ro ri rv h
 obtain ⟨p, xs, k, j, rfl, rfl, hp, hj, q⟩ := h
 cases ro
 obtain ⟨t, rfl⟩ := ri
 obtain ⟨its, n, r, ho, hz⟩ := I.lst hp
 obtain ⟨h1, h2, h3, h4⟩ := ixN_seq hj
 have hl := r.length
 have hn := line63
 have I' : Inv X pins σ (upd H p (.lst (xs.set j v))) { s with heap := s.heap.update p (Obj.mapSeq (·.setIfInBounds j u)) } :=
  I.lstUpd hp ho (mapSeq_set its n j u) (r.set rv j) (by rw [List.length_set]; exact hz) s.toks
 by_cases h0 : 0 <= k
 ·have hk : k.toNat = j := by
   rw [seqIndex_of h0 h4] at h1
   exact Option.some.inj h1
  exact PySem.W.ki_setAt ho h0 (by omega) (by rw [List.size_toArray, <- hl]; exact h4) (by rw [hk]; exact ⟨_, I', q⟩)
 ·have hk : (k + (its.toArray.size : Int)).toNat = j := by
   rw [seqIndex_neg (by omega) h3] at h1
   rw [List.size_toArray, <- hl]
   exact Option.some.inj h1
  exact PySem.W.ki_setBack ho (by omega) (by rw [List.size_toArray, <- hl]; exact h3) (by omega) (by rw [hk]; exact ⟨_, I', q⟩)
theorem slice_bounds (lo hi : Option Int) (n : Nat) : (sliceBounds lo hi none n).1 = ((HT.sIx n 0 lo : Nat) : Int) /\ (sliceBounds lo hi none n).2.1 = ((HT.sIx n n hi : Nat) : Int) /\ (sliceBounds lo hi none n).2.2 = 1 := by
 refine ⟨?_, ?_, rfl⟩
 ·cases lo with
  | none => simp [sliceBounds, HT.sIx]
  | some i =>
   simp only [sliceBounds, HT.sIx, Option.getD_none, show (1 : Int) > 0 by decide, if_true]
   by_cases h : i < 0
   ·simp only [h, if_true] <;> omega
   ·simp only [h, if_false] <;> omega
 ·cases hi with
  | none => simp [sliceBounds, HT.sIx]
  | some i =>
   simp only [sliceBounds, HT.sIx, Option.getD_none, show (1 : Int) > 0 by decide, if_true]
   by_cases h : i < 0
   ·simp only [h, if_true] <;> omega
   ·simp only [h, if_false] <;> omega
theorem slicePick_cut (its : List Value) (lo hi : Option Int) : slicePick its.toArray lo hi none = ((its.drop (HT.sIx its.length 0 lo)).take (HT.sIx its.length its.length hi - HT.sIx its.length 0 lo)).toArray := by
 obtain ⟨h1, h2, h3⟩ := slice_bounds lo hi its.toArray.size
 unfold slicePick
 rw [h1, h2, h3]
 simp only [sliceRange_one, pick_run, List.size_toArray] <;> rfl
def rSlL (K : PySem.W.Frag) : V -> Option Int -> Option Int -> Hp -> VK -> Prop := fun x lo hi H Q => ∃ a xs, x = .ref a /\ SqL K H a xs /\ ∀ p, H p = none -> Q (.ref p) (upd H p (.lst (cutV xs lo hi)))
theorem sl_list : SlR X (rSlL X.K) := by
 intro pins s σ H x v vl vu lo hi sl Q I rx hs pl pu h
 obtain ⟨a, xs, rfl, hx, q⟩ := h
 cases rx
 obtain ⟨its, r, ht, hz⟩ := I.list hx
 have hlen := r.length
 refine ⟨"list", _, slot_list_getitem.lookup, ht.isList.typeIs, ?_⟩
 refine wpAny_getItem_list_slice ht.isList hs pl pu .none (by simp) ?_ (by rw [List.size_toArray] <;> omega)
 rw [slicePick_cut, <- hlen]
 refine ⟨.ref s.heap.objs.size, _, I.laid (t' := s.toks) (o := .lst (cutV xs lo hi)) (fun b ob q => Heap.get?_push_of_some _ q) (Nat.le_refl _) ?_, rfl, q _ (I.hok.fresh (Nat.le_refl _))⟩
 exact ⟨Nat.le_trans (cutV_length xs lo hi) hz, _, 0, (r.drop (HT.sIx xs.length 0 lo)).take (HT.sIx xs.length xs.length hi - HT.sIx xs.length 0 lo), Heap.get?_push_size _ rfl⟩
theorem call_len_seq : CallR X (.builtin "len") (fun xs H Q => ∃ p ys, xs = [.ref p] /\ (SqL X.K H p ys \/ SqT X.K H p ys) /\ Q (.int ys.length) H) := by
 intro pins s σ H xs us Q I r h
 obtain ⟨p, ys, rfl, hq, q⟩ := h
 obtain ⟨u, rfl, rx⟩ := vals1 r
 cases rx
 have hn := line63
 rcases hq with hq | hq
 ·obtain ⟨its, r', pl, hz⟩ := I.list hq
  have hlen := r'.length
  exact Calls.call_len_list pl.isList (by simp only [List.size_toArray] <;> omega) ⟨.int ys.length, H, I.tok _, ⟨s.toks + 1, by rw [List.size_toArray, hlen]⟩, q⟩
 ·obtain ⟨its, r', pl, hz⟩ := I.tuple hq
  have hlen := r'.length
  exact len_tuple pl (by simp only [List.size_toArray] <;> omega) ⟨.int ys.length, H, I.tok _, ⟨s.toks + 1, by rw [List.size_toArray, hlen]⟩, q⟩
theorem call_list_of : CallR X (.type "list") (fun xs H Q => ∃ p ys, xs = [.ref p] /\ (SqL X.K H p ys \/ SqT X.K H p ys) /\ ∀ l, H l = none -> Q (.ref l) (upd H l (.lst ys))) := by
 intro pins s σ H xs us Q I r h
 obtain ⟨p, ys, rfl, hq, q⟩ := h
 obtain ⟨u, rfl, rx⟩ := vals1 r
 cases rx
 have fin : ∀ (its : List Value), Vals ys its -> ys.length <= sizeLine -> ∀ (h' : Heap) (c' : Nat), (∀ b o', s.heap.get? b = some o' -> h'.get? b = some o') ->
   h'.get? s.heap.objs.size = some { cls := .type "list", dict := none, data := .seq its.toArray c', slots := #[] } -> EP X pins σ Q (.ref s.heap.objs.size) { s with heap := h' } := fun its r' hz h' c' kp e =>
  ⟨.ref s.heap.objs.size, _, I.laid (t' := s.toks) kp (Nat.le_refl _) (show ObjOk X.prog X.w _ h' _ (.lst ys) from ⟨hz, its, c', r', e⟩), rfl, q _ (I.hok.fresh (Nat.le_refl _))⟩
 rcases hq with hq | hq
 ·obtain ⟨its, r', pl, hz⟩ := I.list hq
  have hlen := r'.length
  obtain ⟨o, ho, hc, n, hd⟩ := pl.isList
  exact call_list_seq p (.inl rfl) ho hc hd (fun h' c' kp e => fin its r' hz h' c' kp e) (by simp only [List.size_toArray] <;> omega)
 ·obtain ⟨its, r', pl, hz⟩ := I.tuple hq
  have hlen := r'.length
  obtain ⟨o, ho, hc, n, hd⟩ := pl
  exact call_list_seq p (.inr rfl) ho hc hd (fun h' c' kp e => fin its r' hz h' c' kp e) (by simp only [List.size_toArray] <;> omega)
theorem call_tuple_of : CallR X (.type "tuple") (fun xs H Q => ∃ p ys, xs = [.ref p] /\ ((SqL X.K H p ys /\ ∀ l, H l = none -> Q (.ref l) (upd H l (.tup ys))) \/ (SqT X.K H p ys /\ Q (.ref p) H))) := by
 intro pins s σ H xs us Q I r h
 obtain ⟨p, ys, rfl, h⟩ := h
 obtain ⟨u, rfl, rx⟩ := vals1 r
 cases rx
 rcases h with ⟨hq, q⟩ | ⟨hq, q⟩
 ·obtain ⟨its, r', pl, hz⟩ := I.list hq
  have hlen := r'.length
  refine call_tuple_list pl.isList (fun h' kp => ?_) (by simp only [List.size_toArray] <;> omega)
  have I1 : Inv X pins σ H { s with heap := h' } := I.kept (t' := s.toks) kp
  have I2 : Inv X pins σ (upd H h'.objs.size (.tup ys)) { s with heap := h'.push { cls := .type "tuple", data := .seq its.toArray } } :=
   I1.laid (t' := s.toks) (fun b o e => Heap.get?_push_of_some _ e) (Nat.le_refl _) (show ObjOk X.prog X.w _ _ _ (.tup ys) from ⟨hz, its, r', IsTup.new _ _⟩)
  exact ⟨.ref h'.objs.size, _, I2, rfl, q _ (I1.hok.fresh (Nat.le_refl _))⟩
 ·obtain ⟨its, r', pl, hz⟩ := I.tuple hq
  exact call_tuple_same pl ⟨.ref p, H, I, rfl, q⟩
def tyV (K : PySem.W.Frag) (T : String) (x : V) (H : Hp) : Prop := match x with
 | .str _ => T = "str"
 | .int _ => T = "int"
 | .ref p => (T = "list" /\ ∃ xs, SqL K H p xs) \/ (T = "tuple" /\ ∃ o, K.lookup p = some o /\ o.cls = .type "tuple" /\ o.dict = none) \/
   (T = "dict" /\ ((∃ kvs, H p = some (.dK kvs)) \/ ∃ kvs, H p = some (.dT kvs))) \/ (T = "set" /\ ∃ S n, H p = some (.set S n))
 | _ => False
theorem tyV_is {pins : List (Addr × Obj)} {σ : St} {H : Hp} {s : Shared} {T : String} {x : V} {v : Value} (I : Inv X pins σ H s) (r : RelV x v) (ty : tyV X.K T x H) :
  s.TypeIs v T /\ ∀ a, v = .ref a -> ∃ ob, s.heap.get? a = some ob /\ ob.dict = none := by
 cases x with
 | str z =>
  obtain ⟨t, rfl⟩ := r
  cases (show T = "str" from ty)
  exact ⟨typeIs_str s z t, fun _ e => nomatch e⟩
 | int i =>
  obtain ⟨t, rfl⟩ := r
  cases (show T = "int" from ty)
  exact ⟨typeIs_int s i t, fun _ e => nomatch e⟩
 | ref p =>
  cases r
  rcases ty with ⟨rfl, xs, hq⟩ | ⟨rfl, o, hk, hc, hd⟩ | ⟨rfl, hk⟩ | ⟨rfl, S, n, hk⟩
  ·obtain ⟨its, _, pl, _⟩ := I.list hq
   refine ⟨pl.isList.typeIs, fun a e => ?_⟩
   cases e
   obtain ⟨o, n, e, c, hd, _⟩ := pl
   exact ⟨o, e, hd⟩
  ·refine ⟨⟨o, I.kIn p o hk, hc⟩, fun a e => ?_⟩
   cases e
   exact ⟨o, I.kIn _ o hk, hd⟩
  ·have z : ∃ o, s.heap.get? p = some o /\ o.ExactDict := by
    rcases hk with ⟨kvs, hk⟩ | ⟨kvs, hk⟩
    ·obtain ⟨_, _, _, _, o, _, _, e, ex, _⟩ := I.hok p _ hk
     exact ⟨o, e, ex⟩
    ·obtain ⟨_, _, _, _, o, _, _, e, ex, _⟩ := I.hok p _ hk
     exact ⟨o, e, ex⟩
   obtain ⟨o, e, ex⟩ := z
   refine ⟨⟨o, e, ex.1⟩, fun a e2 => ?_⟩
   cases e2
   exact ⟨o, e, ex.2.1⟩
  ·obtain ⟨o, _, _, _, e, ex, _⟩ := I.hok p _ hk
   refine ⟨⟨o, e, ex.1⟩, fun a e2 => ?_⟩
   cases e2
   exact ⟨o, e, ex.2.1⟩
 | _ => exact False.elim ty
def tBM0 (K : PySem.W.Frag) (T : String) (r : V -> List V -> Hp -> VK -> Prop) (to : TE) : TE := fun σ H Q => to σ H fun x H1 => tyV K T x H1 /\ r x [] H1 Q
def tBM (K : PySem.W.Frag) (T : String) (r : V -> List V -> Hp -> VK -> Prop) (to : TE) (t : TA) : TE := fun σ H Q => to σ H fun x H1 => tyV K T x H1 /\ t σ H1 fun xs H2 => r x xs H2 Q
variable {o e : Expr} {es : List Expr} {to : TE} {t : TA} {name : Str} {apos cpos : Pos} {T id : String} {r : V -> List V -> Hp -> VK -> Prop}
theorem pe_bm0 (pa : PlainAttrs T) (slot : Slot T name id) (hty : typeOf (.builtin id) = pure (.type "method_descriptor")) (hm : MtR X id r) (ho : PE X o to)
  (hbase : attributeBase o name X.env (eval o X.env) = eval o X.env := by rfl) (hline : (apos.endLine == cpos.line) = true := by rfl) : PE X (.Call (.Attribute o name apos) [] [] cpos) (tBM0 X.K T r to) := by
 intro pins s σ H Q I h
 refine wpAny_Call_method0_late hbase hline (thn (ho pins s σ H _ I h) fun v s1 ⟨x, H1, I1, r1, ty, q1⟩ => ?_)
 obtain ⟨h1, h2⟩ := tyV_is I1 r1 ty
 exact ⟨T, id, pa, slot, hty, h1, h2, Calls.callWith_builtin rfl (PySem.evalArgs_none (hm pins s1 σ H1 x [] v [] Q I1 r1 .nil q1))⟩
theorem pe_bm (pa : PlainAttrs T) (slot : Slot T name id) (hty : typeOf (.builtin id) = pure (.type "method_descriptor")) (hm : MtR X id r) (ho : PE X o to) (ha : PA X (e :: es) t)
  (hbase : attributeBase o name X.env (eval o X.env) = eval o X.env := by rfl)
  (hfew : ((backTo cpos (starEach (e :: es) X.env)).all (fun x => !x.1) && (backToKw cpos (keywordEach [] X.env)).all (fun x => x.1.isSome)
   && decide ((e :: es).length + ([] : List Keyword).length + (if ([] : List Keyword).isEmpty then 0 else 1) < 30)) = true := by rfl)
  (hline : (apos.endLine == cpos.line) = true := by rfl) (hs : starEach (e :: es) X.env = (false, eval e X.env) :: starEach es X.env := by rfl) (hplain : (backTo cpos (starEach es X.env)).any (·.1) = false := by rfl) :
  PE X (.Call (.Attribute o name apos) (e :: es) [] cpos) (tBM X.K T r to t) := by
 intro pins s σ H Q I h
 refine wpAny_Call_method_late hbase hfew hline rfl (thn (ho pins s σ H _ I h) fun v s1 ⟨x, H1, I1, r1, ty, q1⟩ => ?_)
 obtain ⟨h1, h2⟩ := tyV_is I1 r1 ty
 refine ⟨T, id, pa, slot, hty, h1, h2, ?_⟩
 have hA := ha cpos pins s1 σ H1 _ I1 q1
 rw [hs] at hA ⊢
 refine Calls.callWith_builtin (by show (false || (backTo cpos (starEach es X.env)).any (·.1)) = false; rw [hplain] <;> rfl) (Calls.evalArgs_plain ?_)
 exact thn hA fun us s2 ⟨vs, H2, I2, r2, q2⟩ => hm pins s2 σ H2 x vs v us Q I2 r1 r2 q2
end
end L2
namespace L2
open PySem PySem.Spec PyProof.Rows
def MtM (X : Cx) (id : String) (r : V -> List V -> Hp -> VK -> Prop) : Prop :=
 ∀ (pins : List (Addr × Obj)) (s : Shared) (σ : St) (H : Hp) (x : V) (xs : List V) (v : Value) (us : List Value) (Q : VK), Inv X pins σ H s -> RelV x v -> Vals xs us -> r x xs H Q ->
  wpAny (model X.prog X.w) X.A (call (.builtin id) (v :: us)) (EP X pins σ Q) X.xe s
theorem Vals.one : ∀ {x : V} {us : List Value}, Vals [x] us -> ∃ u, us = [u] /\ RelV x u
 | _, _, .cons r .nil => ⟨_, rfl, r⟩
theorem Vals.zero : ∀ {us : List Value}, Vals [] us -> us = []
 | _, .nil => rfl
theorem Vals.dropLast {xs : List V} {us : List Value} (h : Vals xs us) : Vals xs.dropLast us.dropLast := by
 induction h with
 | nil => exact .nil
 | cons r t ih =>
  cases t with
  | nil => exact .nil
  | cons q t' => exact .cons r ih
theorem Vals.eraseIdx : ∀ {xs : List V} {us : List Value} (i : Nat), Vals xs us -> Vals (xs.eraseIdx i) (us.eraseIdx i)
 | _, _, _, .nil => .nil
 | _, _, 0, .cons _ t => t
 | _, _, i + 1, .cons r t => .cons r (Vals.eraseIdx i t)
theorem Vals.reverse {xs : List V} {us : List Value} (h : Vals xs us) : Vals xs.reverse us.reverse := by
 induction h with
 | nil => exact .nil
 | cons r t ih => rw [List.reverse_cons, List.reverse_cons]; exact Vals.append ih (.cons r .nil)
theorem Vals.rep {xs : List V} {us : List Value} (h : Vals xs us) : ∀ k : Nat, Vals (List.replicate k xs).flatten (List.replicate k us).flatten
 | 0 => .nil
 | k + 1 => by
  rw [List.replicate_succ, List.replicate_succ, List.flatten_cons, List.flatten_cons]
  exact Vals.append h (Vals.rep h k)
theorem erase_last {α : Type} (l : List α) : l.eraseIdx (l.length - 1) = l.dropLast := by
 induction l with
 | nil => rfl
 | cons a r ih =>
  cases r with
  | nil => rfl
  | cons b r =>
   have e : (a :: b :: r).length - 1 = ((b :: r).length - 1) + 1 := by
    have h1 : (a :: b :: r).length = r.length + 2 := rfl
    have h2 : (b :: r).length = r.length + 1 := rfl
    omega
   rw [e, List.eraseIdx_cons_succ, ih]
   all_goals rfl
theorem len_erase {α : Type} : ∀ (l : List α) (i : Nat), (l.eraseIdx i).length <= l.length
 | [], _ => Nat.le_refl _
 | _ :: _, 0 => Nat.le_succ _
 | _ :: r, i + 1 => Nat.succ_le_succ (len_erase r i)
theorem foldl_rep (its : List Value) : ∀ (k : Nat) (acc : List Value),
  List.foldl (fun x1 x2 => x1 ++ x2) acc.toArray (List.replicate k its.toArray) = (acc ++ (List.replicate k its).flatten).toArray
 | 0, acc => by simp
 | k + 1, acc => by
  have e : acc.toArray ++ its.toArray = (acc ++ its).toArray := by simp
  have e2 : (acc ++ its) ++ (List.replicate k its).flatten = acc ++ (List.replicate (k + 1) its).flatten := by
   rw [List.replicate_succ, List.flatten_cons, List.append_assoc]
  rw [<- e2, <- foldl_rep its k (acc ++ its), <- e, List.replicate_succ, List.foldl_cons]
section
variable {X : Cx} {pins : List (Addr × Obj)} {σ : St} {H : Hp} {s : Shared} {l b : Addr} {xs ys zs : List V}
theorem Inv.lset {its its' : List Value} {n : Nat} {f : Array Value -> Array Value} {t' : Nat} (I : Inv X pins σ H s) (hH : H l = some (.lst xs))
  (e : s.heap.get? l = some { cls := .type "list", data := .seq its.toArray n }) (hf : f its.toArray = its'.toArray) (hv : Vals ys its') (hz : ys.length <= sizeLine) :
  Inv X pins σ (upd H l (.lst ys)) { s with heap := s.heap.update l (Obj.mapSeq f), toks := t' } := by
 have q := PySem.IsL.update e f
 rw [hf] at q
 refine I.write (x := l) (e := l) (by rw [hH]; exact trivial) (.inl rfl) (fun b' u hb hu => (Heap.get?_update_other s.heap (Obj.mapSeq f) (Ne.symm hb)).trans hu) ⟨_, q⟩ ?_
 exact ⟨hz, its', _, hv, q⟩
theorem Inv.lnew {its : List Value} {t' : Nat} (I : Inv X pins σ H s) (hv : Vals ys its) (hz : ys.length <= sizeLine) :
  Inv X pins σ (upd H s.heap.objs.size (.lst ys)) { s with heap := s.heap.push { cls := .type "list", data := .seq its.toArray }, toks := t' } :=
 I.laid (fun _ _ q => Heap.get?_push_of_some _ q) (Nat.le_refl _) ⟨hz, its, 0, hv, Heap.get?_push_size _ rfl⟩
theorem Inv.fresh (I : Inv X pins σ H s) : H s.heap.objs.size = none := I.hok.fresh (Nat.le_refl _)
theorem Inv.lstM (I : Inv X pins σ H s) (hH : H l = some (.lst xs)) : xs.length <= sizeLine /\ ∃ (its : List Value) (n : Nat), Vals xs its /\ xs.length = its.length /\ s.heap.get? l = some { cls := .type "list", data := .seq its.toArray n } := by
 obtain ⟨z, its, n, r, e⟩ := I.hok l _ hH
 exact ⟨z, its, n, r, r.length, e⟩
theorem notLongL {n : Nat} (h : n <= sizeLine) : Builtin.List.listTooLong n = false := by
 unfold Builtin.List.listTooLong
 exact decide_eq_false (by omega)
end
section
variable {X : Cx}
def rAppend : V -> List V -> Hp -> VK -> Prop := fun x vs H Q => ∃ l xs y, x = .ref l /\ vs = [y] /\ H l = some (.lst xs) /\ xs.length < sizeLine /\ Q .non (upd H l (.lst (xs ++ [y])))
theorem mt_append : MtM X "list.append" rAppend := by
 intro pins s σ H x vs v us Q I rx rv h
 obtain ⟨l, xs, y, rfl, rfl, hH, hz, q⟩ := h
 cases rx
 obtain ⟨u, rfl, ru⟩ := rv.one
 obtain ⟨z, its, n, r, hl, e⟩ := I.lstM hH
 refine call_meets F.slot_list_append ⟨_, e, rfl⟩ F.entry_list_append (F.args_list_append_2 _ _) (PySem.list_append l its.toArray n u (by rw [List.size_toArray]; omega)) ⟨e, ?_⟩
 refine ⟨.non, _, I.lset (its' := its ++ [u]) hH e (by simp) (r.append (.cons ru .nil)) ?_, rfl, q⟩
 rw [List.length_append, List.length_singleton]
 omega
def rExtend : V -> List V -> Hp -> VK -> Prop := fun x vs H Q => ∃ l b xs zs, x = .ref l /\ vs = [.ref b] /\ H l = some (.lst xs) /\ H b = some (.lst zs) /\ xs.length + zs.length <= sizeLine /\ Q .non (upd H l (.lst (xs ++ zs)))
theorem mt_extend : MtM X "list.extend" rExtend := by
 intro pins s σ H x vs v us Q I rx rv h
 obtain ⟨l, b, xs, zs, rfl, rfl, hH, hB, hz, q⟩ := h
 cases rx
 obtain ⟨u, rfl, ru⟩ := rv.one
 cases ru
 obtain ⟨z, its, n, r, hl, e⟩ := I.lstM hH
 obtain ⟨z2, its2, n2, r2, hl2, e2⟩ := I.lstM hB
 have hsz : its.toArray.size + its2.toArray.size <= sizeLine := by rw [List.size_toArray, List.size_toArray]; omega
 have hlong : ¬ (!its.toArray.isEmpty && Builtin.List.listTooLong (its.toArray.size + its2.toArray.size)) = true := by
  rw [notLongL hsz, Bool.and_false]
  exact Bool.false_ne_true
 refine call_meets F.slot_list_extend ⟨_, e, rfl⟩ F.entry_list_extend (F.args_list_extend_2 _ _)
  (AutoSeq1.list_extend_list_list_0 l its.toArray n b its2.toArray n2 hlong (by rw [List.size_toArray]; omega) (by omega)) ⟨e, e2, ?_⟩
 refine ⟨.non, _, I.lset (its' := its ++ its2) hH e (by simp) (r.append r2) ?_, rfl, q⟩
 rw [List.length_append]
 omega
def rPop : V -> List V -> Hp -> VK -> Prop := fun x vs H Q => ∃ l xs y, x = .ref l /\ vs = [] /\ H l = some (.lst xs) /\ xs[xs.length - 1]? = some y /\ Q y (upd H l (.lst xs.dropLast))
theorem mt_pop : MtM X "list.pop" rPop := by
 intro pins s σ H x vs v us Q I rx rv h
 obtain ⟨l, xs, y, rfl, rfl, hH, hy, q⟩ := h
 cases rx
 have hus := rv.zero
 subst hus
 obtain ⟨z, its, n, r, hl, e⟩ := I.lstM hH
 obtain ⟨u, hu, ru⟩ := r.get hy
 have hy' : its.toArray[its.toArray.size - 1]? = some u := by
  show its.toArray[its.length - 1]? = some u
  rw [<- Array.getElem?_toList, <- hl]
  exact hu
 refine call_meets F.slot_list_pop ⟨_, e, rfl⟩ F.entry_list_pop (F.args_list_pop_1 _) (MeetsSeq.list_pop_last l its.toArray n u hy' (by rw [List.size_toArray]; omega)) ⟨e, ?_⟩
 refine ⟨y, _, I.lset (its' := its.dropLast) hH e ?_ r.dropLast ?_, ru, q⟩
 ·show its.toArray.eraseIdxIfInBounds (its.toArray.size - 1) = its.dropLast.toArray
  rw [List.size_toArray, List.eraseIdxIfInBounds_toArray, erase_last]
 ·rw [List.length_dropLast]
  omega
def rPopAt : V -> List V -> Hp -> VK -> Prop := fun x vs H Q => ∃ l xs i k y, x = .ref l /\ vs = [.int i] /\ H l = some (.lst xs) /\ -(2 ^ 63) <= i /\ i < 2 ^ 63 /\ seqIndex? i xs.length = some k /\ xs[k]? = some y /\ Q y (upd H l (.lst (xs.eraseIdx k)))
theorem mt_popAt : MtM X "list.pop" rPopAt := by
 intro pins s σ H x vs v us Q I rx rv h
 obtain ⟨l, xs, i, k, y, rfl, rfl, hH, h1, h2, hk, hy, q⟩ := h
 cases rx
 obtain ⟨u, rfl, ru⟩ := rv.one
 obtain ⟨t, rfl⟩ := ru
 obtain ⟨z, its, n, r, hl, e⟩ := I.lstM hH
 obtain ⟨w, hw, rw'⟩ := r.get hy
 refine call_meets F.slot_list_pop ⟨_, e, rfl⟩ F.entry_list_pop (F.args_list_pop_2 _ _)
  (MeetsSeq.list_pop_at l its.toArray n i t k w (fitsIndex_both h1 h2) (by rw [List.size_toArray, <- hl]; exact hk) (by rw [<- Array.getElem?_toList]; exact hw) (by rw [List.size_toArray]; omega)) ⟨e, ?_⟩
 refine ⟨y, _, I.lset (its' := its.eraseIdx k) hH e ?_ (r.eraseIdx k) ?_, rw', q⟩
 ·show its.toArray.eraseIdxIfInBounds k = (its.eraseIdx k).toArray
  rw [List.eraseIdxIfInBounds_toArray]
 ·have := len_erase xs k
  omega
def rReverse : V -> List V -> Hp -> VK -> Prop := fun x vs H Q => ∃ l xs, x = .ref l /\ vs = [] /\ H l = some (.lst xs) /\ Q .non (upd H l (.lst xs.reverse))
theorem mt_reverse : MtM X "list.reverse" rReverse := by
 intro pins s σ H x vs v us Q I rx rv h
 obtain ⟨l, xs, rfl, rfl, hH, q⟩ := h
 cases rx
 have hus := rv.zero
 subst hus
 obtain ⟨z, its, n, r, hl, e⟩ := I.lstM hH
 refine call_meets F.slot_list_reverse ⟨_, e, rfl⟩ F.entry_list_reverse (F.args_list_reverse_1 _) (AutoSeq1.list_reverse_list_0 l its.toArray n (by rw [List.size_toArray]; omega)) ⟨e, ?_⟩
 refine ⟨.non, _, I.lset (its' := its.reverse) hH e (by simp) r.reverse ?_, rfl, q⟩
 rw [List.length_reverse]
 omega
def rClear : V -> List V -> Hp -> VK -> Prop := fun x vs H Q => ∃ l xs, x = .ref l /\ vs = [] /\ H l = some (.lst xs) /\ Q .non (upd H l (.lst []))
theorem mt_clear : MtM X "list.clear" rClear := by
 intro pins s σ H x vs v us Q I rx rv h
 obtain ⟨l, xs, rfl, rfl, hH, q⟩ := h
 cases rx
 have hus := rv.zero
 subst hus
 obtain ⟨z, its, n, r, hl, e⟩ := I.lstM hH
 refine call_meets F.slot_list_clear ⟨_, e, rfl⟩ F.entry_list_clear (F.args_list_clear_1 _) (AutoSeq1.list_clear_list_0 l its.toArray n (by rw [List.size_toArray]; omega)) ⟨e, ?_⟩
 exact ⟨.non, _, I.lset (its' := []) (ys := []) hH e rfl .nil (Nat.zero_le _), rfl, q⟩
def rCat : R2 := fun x y H Q => ∃ l b xs zs, x = .ref l /\ y = .ref b /\ H l = some (.lst xs) /\ H b = some (.lst zs) /\ xs.length + zs.length <= sizeLine /\ ∀ p, H p = none -> Q (.ref p) (upd H p (.lst (xs ++ zs)))
theorem op_cat : OpR X (binaryOp .Add) rCat := by
 intro pins s σ H x y v u Q I rx ry h
 obtain ⟨l, b, xs, zs, rfl, rfl, hH, hB, hz, q⟩ := h
 cases rx
 cases ry
 obtain ⟨z, its, n, r, hl, e⟩ := I.lstM hH
 obtain ⟨z2, its2, n2, r2, hl2, e2⟩ := I.lstM hB
 refine PySem.P.add_list e e2 ?_ (by rw [List.size_toArray, List.size_toArray]; omega)
 have ea : its.toArray ++ its2.toArray = (its ++ its2).toArray := by simp
 rw [ea]
 exact ⟨.ref _, _, I.lnew (t' := s.toks) (r.append r2) (by rw [List.length_append]; omega), rfl, q _ I.fresh⟩
def rRep : R2 := fun x y H Q => ∃ l k xs, x = .ref l /\ y = .int k /\ H l = some (.lst xs) /\ -(2 ^ 63) <= k /\ k < 2 ^ 63 /\ xs.length * k.toNat <= sizeLine /\
 ∀ p, H p = none -> Q (.ref p) (upd H p (.lst (List.replicate k.toNat xs).flatten))
theorem len_rep {α : Type} (xs : List α) (k : Nat) : (List.replicate k xs).flatten.length = k * xs.length := by
 induction k with
 | zero => simp
 | succ k ih => rw [List.replicate_succ, List.flatten_cons, List.length_append, ih, Nat.succ_mul, Nat.add_comm]
theorem op_rep : OpR X (binaryOp .Mult) rRep := by
 intro pins s σ H x y v u Q I rx ry h
 obtain ⟨l, k, xs, rfl, rfl, hH, h1, h2, hz, q⟩ := h
 cases rx
 obtain ⟨t, rfl⟩ := ry
 obtain ⟨z, its, n, r, hl, e⟩ := I.lstM hH
 have hlen : its.toArray.size * k.toNat <= sizeLine := by rw [List.size_toArray, <- hl]; exact hz
 have hcap : ¬ its.toArray.size * k.toNat > (2 ^ 63 - 1) / 8 := by
  have : (sizeLine : Nat) <= (2 ^ 63 - 1) / 8 := by decide
  omega
 have hfit : ¬ (!Builtin.List.listFitsIndex k) = true := by
  rw [fitsIndex_both h1 h2]
  exact Bool.false_ne_true
 have hlong : ¬ Builtin.List.listTooLong (its.toArray.size * k.toNat) = true := by
  rw [notLongL hlen]
  exact Bool.false_ne_true
 have hnew : List.foldl (fun x1 x2 => x1 ++ x2) #[] (List.replicate (if its.toArray.isEmpty = true then 0 else k.toNat) its.toArray) = (List.replicate k.toNat its).flatten.toArray := by
  have f0 : ∀ m : Nat, List.foldl (fun x1 x2 => x1 ++ x2) #[] (List.replicate m its.toArray) = (List.replicate m its).flatten.toArray := fun m => by
   have := foldl_rep its m []
   rw [List.nil_append] at this
   exact this
  rw [f0]
  cases its with
  | nil => simp
  | cons a r' => rw [if_neg (by simp)]
 refine wpAny_binaryOp_repeat_ref (T := "list") (U := "int") (by decide) ⟨_, e, rfl⟩ (fun s' => typeIs_int s' k t) noFill_list_mul F.fills_int_mul F.slot_int_rmul repeat_list F.slot_int_index.lookup
  (call_meets F.slot_int_rmul (typeIs_int s k t) F.entry_int_rmul (F.args_int_rmul_2 _ _) (int___rmul___int_list k t l its.toArray n)
   ⟨e, rfl, ⟨_, e, rfl⟩, call_meets F.slot_list_mul ⟨_, e, rfl⟩ F.entry_list_mul (F.args_list_mul_2 _ _) (AutoListH.list___mul___list_int_3 l its.toArray n k t hfit hcap hlong) ⟨e, ?_⟩⟩)
 rw [hnew]
 exact ⟨.ref _, _, I.lnew (t' := s.toks) (r.rep k.toNat) (by rw [len_rep, Nat.mul_comm]; exact hz), rfl, q _ I.fresh⟩
end
section
variable {prog : Program} {w : World} {A : Around} {E : Value -> Shared -> Prop} {s : Shared}
end
section
variable {X : Cx}
end
end L2
namespace Att
open PySem PySem.W PySem.Calls PyProof.Rows
theorem ints_of_wellAll {P : Params} {h : Heap} : ∀ (ns : List Int) (vs : List Value), WellAll P h vs (ns.map WData.int) -> IntsAre vs ns := by
 intro ns
 induction ns with
 | nil =>
  intro vs w
  rw [List.map_nil] at w
  cases w
  exact .nil
 | cons n ns ih =>
  intro vs w
  rw [List.map_cons] at w
  cases w with
  | cons a b =>
   cases a
   exact .cons _ _ (ih _ b)
theorem script_of {l : OpenLaw} {n : Nat} (hn : l.most = some n) {P : Params} {h : Heap} {args : List WData} {vals : List Value}
  (hpre : l.row.toRowW.claim.pre args = true) (hwl : WellAll P h vals args) :
  ∃ a vs ns, vals = [Value.ref a] /\ args = [WData.list (ns.map WData.int)] /\ h.get? a = some { cls := .type "list", data := .seq vs.toArray } /\ IntsAre vs ns /\ ns.length <= n := by
 have hsh : WShape.hasAll [] args [.list .int] = true := (pre_splitW hpre).1
 have hc : l.pre.holds [] { args := args } = true := (pre_splitW hpre).2
 obtain ⟨d, r, rfl, h1, h2⟩ := hasAllW_cons hsh
 obtain rfl := hasAllW_nil h2
 obtain ⟨xs, rfl, h3⟩ := hasW_list h1
 obtain ⟨ns, rfl⟩ := items_int h3
 have hlen : ns.length <= n := by
  unfold OpenLaw.pre at hc
  have h4 : (WTm.not (.lt (.lit (.int (n : Int))) (.len (.arg 0)))).holds [] { args := [.list (ns.map .int)] } = true := by
   have h4 := (holds_andW hc).1
   rw [hn] at h4
   exact h4
  have h5 := condW_of h4 (w_not (w_lt w_lit (w_len_list (w_arg rfl))))
  rw [List.length_map] at h5
  refine Nat.le_of_not_lt fun q => ?_
  have q' : (n : Int) < ((ns.length : Nat) : Int) := by omega
  first
   | (rw [decide_eq_true q'] at h5; exact absurd h5 (by decide))
   | (simp at h5; omega)
 cases hwl with
 | cons w1 w2 =>
  cases w2
  cases w1 with
  | list ho hall => exact ⟨_, _, ns, rfl, rfl, ho, ints_of_wellAll ns _ hall, hlen⟩
theorem post_true (l : OpenLaw) (args : List WData) : l.row.toRowW.claim.post args (.bool true) args = true :=
 postW_of (r := l.row.toRowW) (X := (true == true))
  (show WShape.has [] (.bool true) .bool = true by first | rfl | decide | simp [WShape.has, WShape.arms, WShape.armsAll])
  (show (WTm.eq .res (.lit (.bool true))).value [] { args := args, res := some (.bool true), after := args } = some (.bool (true == true)) from w_eq_bool (w_res rfl) w_lit) rfl
theorem attach_call {l : OpenLaw} {n : Nat} {q : Program} {loose : List Str} {XP : (Str -> Option Value) -> Heap -> Prop} {YP : World -> Heap -> Prop} {d : DefRec}
  (hn : l.most = some n) (hdf : d.params.defaults = [])
  (call : ∀ (w : World) (s₀ s₁ : Shared) (mg mb : Str -> Option Value) (fa : Addr) (o : Obj) (pm cd doc : Value) (a : Addr) (vs : List Value) (ns : List Int),
   Ground q loose [] XP w s₀ mg mb s₁.heap -> YP w s₁.heap ->
   s₁.heap.get? fa = some o -> o.data = .func (docDef d.name d.params d.body d.scope pm cd doc) -> s₁.heap.CodeRec cd d.name -> mg d.name = some (.ref fa) ->
   s₁.heap.get? a = some { cls := .type "list", data := .seq vs.toArray } -> IntsAre vs ns -> ns.length <= n -> s₁.gens = #[] ->
   codeAny (model l.prog w) callerA (.call (.ref fa) ⟨[.ref a], []⟩) (fun r s' => r = .ok (.ret (.bool true)) /\ OldK s₁.heap s'.heap /\ s'.os = s₁.os /\ AllBare s'.gens) s₁) :
  WalkO q loose XP YP l.row.toRowW d [] (fun f vs => PySem.call f vs) := by
 intro w s₀ s₁ mg mb G Y fa o pm cd doc dV kV ho hd hcd hD hmg hg args vals as hpre hlay hrd hwl hlo
 obtain rfl : dV = .none := Dflts.none hD hdf
 obtain rfl : kV = .none := Dflts.noKw hD
 obtain ⟨a, vs, ns, rfl, rfl, hobj, hints, hlen⟩ := script_of hn hpre hwl
 refine enter_call (codeAny_mono (call w s₀ s₁ mg mb fa o pm cd doc a vs ns G Y ho (fd_plain hd) hcd hmg hobj hints hlen hg) fun r s' hq => ?_)
 obtain ⟨rfl, h2, h3, h4⟩ := hq
 exact ⟨.inl ⟨.bool true, .bool true, [], rfl, fun _ => rfl, .bool true, post_true l _, fun _ => ⟨List.Pairwise.nil, fun _ hm => (nomatch hm)⟩⟩, h2, h3, h4⟩
section
variable {prog : Program} {w : World} {A : Around} {E : Value -> Shared -> Prop} {s : Shared} {K : Frag}
end
end Att
namespace L2
open PySem PySem.Spec PyProof.Rows
theorem vals_ints : ∀ {vs : List Value} {ns : List Int}, IntsAre vs ns -> Vals (ns.map V.int) vs
 | _, _, .nil => .nil
 | _, _, .cons n t h => .cons ⟨t, rfl⟩ (vals_ints h)
def Only (H : Hp) : Prop := ∀ b, H b = none \/ ∃ o xs, H b = some (.frz o (.lst xs))
theorem law_call {P : Program} {w : World} {K : PySem.W.Frag} {mg mb : Str -> Option Value} {CX : CXT} {k : Nat} {fa a : Addr} {fd : FuncData} {x : Str} {sp : Sp} {s₁ : Shared} {vs : List Value} {ns : List Int}
  (KX : K.In s₁.heap) (hns : s₁.heap.Ns mainGlobals mg) (hb : s₁.heap.Ns builtinsNs mb) (hbb : ∀ x : Str, x ≠ "__name__" -> mb x = bootBuiltins x) (hlim : s₁.heap.NoLimit) (hg : s₁.gens = #[])
  (ha : s₁.heap.get? a = some { cls := .type "list", data := .seq vs.toArray }) (hi : IntsAre vs ns) (hl : ns.length <= sizeLine) (hr : Room k callerA)
  (F : ∀ base : Heap, K.In base -> base.Ns mainGlobals mg -> FnOk P w K mg base CX k fa fd [x] sp) (hbind : ∀ (s : Shared) (u : Value), BindsTo s fd ⟨[u], []⟩ [(x, u)])
  (hsp : ∀ H : Hp, Only H -> SqL K H a (ns.map V.int) -> sp [.ref a] H (fun v _ => v = .bl true) fun _ _ _ => False)
  (hCX : ∀ H e s', CX [] H s₁ (fun _ _ _ => False) e s' -> False) :
  codeAny (model P w) callerA (.call (.ref fa) ⟨[.ref a], []⟩) (fun r s' => r = .ok (.ret (.bool true)) /\ OldK s₁.heap s'.heap /\ s'.os = s₁.os /\ AllBare s'.gens) s₁ := by
 have rv := vals_ints hi
 have lenV := hi.length
 -- from an abstract heap in which nothing but the script may be tracked
 have core : ∀ H : Hp, Only H -> SqL K H a (ns.map V.int) -> HOk P w H s₁.heap -> (∀ b, H b ≠ none -> b = a) -> (H a ≠ none -> K.lookup a = none) ->
   codeAny (model P w) callerA (.call (.ref fa) ⟨[.ref a], []⟩) (fun r s' => r = .ok (.ret (.bool true)) /\ OldK s₁.heap s'.heap /\ s'.os = s₁.os /\ AllBare s'.gens) s₁ := by
  intro H hO hS hok hA hK
  have base_of : ∀ {b : Addr} {o : Obj}, s₁.heap.get? b = some o -> H b = none -> (hidT s₁.heap H).get? b = some o := fun e n => hidT_get e n
  have noA : ∀ {b : Addr} {o : Obj} {es : Array DictEntry} {ep : Nat}, s₁.heap.get? b = some o -> o.data = .dict es ep -> H b = none := fun {b o es ep} e d => by
   cases q : H b with
   | none => rfl
   | some u =>
    have e' : b = a := hA b (by rw [q]; simp)
    subst e'
    rw [ha] at e; cases e
    have d' : Data.seq vs.toArray _ = Data.dict es ep := d
    cases d'
  have nsK : ∀ {b : Addr} {m : Str -> Option Value}, s₁.heap.Ns b m -> (hidT s₁.heap H).Ns b m := fun {b m} ⟨o, es, ep, e, d, r⟩ => ⟨o, es, ep, base_of e (noA e d), d, r⟩
  have hKb : K.In (hidT s₁.heap H) := fun b o e => base_of (KX b o e) (by
   cases q : H b with
   | none => rfl
   | some u =>
    have e' : b = a := hA b (by rw [q]; simp)
    subst e'
    rw [hK (by rw [q]; simp)] at e; cases e)
  have hM : Mod K mg (hidT s₁.heap H) := ⟨hKb, nsK hns, ⟨mb, nsK hb, hbb⟩, let ⟨mc, h1, h2⟩ := hlim; ⟨mc, nsK h1, h2⟩⟩
  have e0 : Env0 P w K mg (hidT s₁.heap H) callerA [] s₁ H := ⟨rfl, hM, fun b o e => of_hidT e, Nat.le_of_eq (hidT_size _ _), trivial, fun b hb => absurd (show b ∈ ([] : List Addr) from hb) (by simp), hok, .of_eq hg⟩
  refine codeAny_mono ((F _ hKb (nsK hns)).run callerA [] s₁ H ⟨[.ref a], []⟩ [.ref a] [.ref a] _ _ hr e0 (hbind s₁ (.ref a)) (.cons rfl .nil) (hsp H hO hS)) fun r s' h => ?_
  cases r with
  | error e => exact (hCX H e s' h).elim
  | ok fl =>
   cases fl with
   | next => exact False.elim h
   | brk => exact False.elim h
   | cont => exact False.elim h
   | ret u =>
    obtain ⟨v, H', os, bare, un, hok', r', q⟩ := h
    have q' : v = .bl true := q
    subst q'
    obtain rfl : u = Value.bool true := r'
    refine ⟨rfl, OldK.of_keep fun b o e => ?_, os, bare⟩
    cases q : H b with
    | none => exact un.keep b o e q (by intro z; exact absurd (show b ∈ ([] : List Addr) from z) (by simp)) (by simp)
    | some u =>
     rcases hO b with z | ⟨ob, xs, z⟩
     ·rw [q] at z; cases z
     ·have z2 := un.frzs b ob _ z
      obtain ⟨e1, _⟩ := hok b _ z
      obtain ⟨e2, _⟩ := hok' b _ z2
      rw [e] at e1; cases e1
      exact e2
 cases hk : K.lookup a with
 | some o =>
  -- the script is one of the module's own objects
  have e := KX a o hk
  rw [ha] at e
  cases e
  refine core (fun _ => none) (fun _ => .inl rfl) (.inr ⟨_, vs.toArray, _, hk, rfl, rfl, rfl, by rw [List.size_toArray, lenV]; exact hl, by simpa using rv⟩) (fun b u z => by have z' : (none : Option HO) = some u := z; cases z') (fun b z => absurd rfl z) fun z => absurd rfl z
 | none =>
  refine core (fun b => if b = a then some (.frz { cls := .type "list", data := .seq vs.toArray } (.lst (ns.map V.int))) else none) (fun b => ?_) (.inl (.inr ⟨{ cls := .type "list", data := .seq vs.toArray }, if_pos rfl⟩)) (fun b u z => ?_) (fun b z => ?_) fun _ => hk
  ·by_cases hb : b = a
   ·exact .inr ⟨_, _, if_pos hb⟩
   ·exact .inl (if_neg hb)
  ·by_cases hb : b = a
   ·have z' := (if_pos hb).symm.trans z
    cases z'
    subst hb
    exact ⟨ha, by rw [List.length_map]; exact hl, vs, _, rv, ha⟩
   ·have z' := (if_neg hb).symm.trans z
    cases z'
  ·by_cases hb : b = a
   ·exact hb
   ·exact absurd (if_neg hb) z
end L2
namespace L2
open PySem PySem.Spec PyProof.Rows
theorem walk_of {l : PySem.W.OpenLaw} {n k : Nat} {q : Program} {loose : List Str} {XP : (Str -> Option Value) -> Heap -> Prop} {YP : World -> Heap -> Prop} {d : DefRec} {K : Params -> PySem.W.Frag} {CX : World -> CXT} {sp : World -> Sp} {x : Str}
  (hn : l.most = some n) (hn2 : n <= sizeLine) (hdf : d.params.defaults = []) (hr : Room k callerA)
  (hY : ∀ (w : World) (h : Heap), YP w h -> (K w.params).In h)
  (F : ∀ (w : World) (mg : Str -> Option Value) (fa : Addr) (h : Heap), (K w.params).In h -> h.Ns mainGlobals mg -> mg d.name = some (.ref fa) ->
   ∃ fd : FuncData, (∀ (s : Shared) (u : Value), BindsTo s fd ⟨[u], []⟩ [(x, u)]) /\
    ∀ base : Heap, (K w.params).In base -> base.Ns mainGlobals mg -> FnOk l.prog w (K w.params) mg base (CX w) k fa fd [x] (sp w))
  (hsp : ∀ (w : World) (H : Hp) (a : Addr) (ns : List Int), ns.length <= n -> Only H -> SqL (K w.params) H a (ns.map V.int) -> sp w [.ref a] H (fun v _ => v = .bl true) fun _ _ _ => False)
  (hCX : ∀ (w : World) (H : Hp) (s : Shared) (e : Value) (s' : Shared), CX w [] H s (fun _ _ _ => False) e s' -> False) :
  PySem.W.WalkO q loose XP YP l.row.toRowW d [] (fun f vs => PySem.call f vs) := by
 refine Att.attach_call hn hdf fun w s₀ s₁ mg mb fa o pm cd doc a vs ns G Y ho hd hcd hmg hobj hints hlen hg => ?_
 have KX := hY w _ Y
 obtain ⟨fd, hb, hF⟩ := F w mg fa _ KX G.T.g hmg
 exact law_call KX G.T.g G.T.b G.T.builtins G.T.nolimit hg hobj hints (Nat.le_trans hlen hn2) hr hF hb (fun H hO hS => hsp w H a ns hlen hO hS) fun H e s' => hCX w H s₁ e s'
end L2
namespace L2
open PySem PySem.Spec PyProof.Rows
def defArgs (s : Stmt) : Arguments := match s with
 | .FunctionDef _ a _ _ _ _ _ _ _ _ => a
 | _ => { posonlyargs := [], args := [], vararg := none, kwonlyargs := [], kw_defaults := [], kwarg := none, defaults := [] }
def defBody (s : Stmt) : List Stmt := match s with
 | .FunctionDef _ _ b _ _ _ _ _ _ _ => b
 | _ => []
def defScope (s : Stmt) : Scope := match s with
 | .FunctionDef _ _ _ _ _ _ sc _ _ _ => sc
 | _ => { kind := .function, names := [], isGenerator := false, isCoroutine := false }
abbrev CX0 : CXT := fun _ _ _ _ _ _ => False
abbrev E0 : XK := fun _ _ _ => False
theorem pass0 {X : Cx} : Passes CX0 X E0 := fun _ _ _ _ _ _ _ h => h.elim
structure Fun (K : PySem.W.Frag) (x qual : Str) (st : Stmt) (f : Addr) (fd : FuncData) : Prop where
 ex : ∃ (oc : Value) (od : Option Addr) (kV doc pm : Value) (an : Option Addr) (cdv ct : Value) (osl : Array (Option Value)),
  fd = PySem.W.fnOf x qual (defArgs st) (defBody st) (defScope st) .none kV doc pm an cdv ct /\ K.lookup f = some ⟨oc, od, .func fd, osl⟩ /\ PySem.W.codeIn K cdv qual = true
 kp : PySem.W.keepIn K (.ref f) = true
section
variable {P : Program} {w : World} {K : PySem.W.Frag} {mg : Str -> Option Value} {base : Heap}
theorem Fun.ok {x qual : Str} {st : Stmt} {f : Addr} {fd : FuncData} {N ps : List Str} {k : Nat} {sp : Sp} (F : Fun K x qual st f fd) (S : FnScope N ps (defScope st)) (len : ∀ vs H Q E, sp vs H Q E -> vs.length = ps.length)
  (hbody : ∀ (cdv : Value) (A : Around) (outer : List Env) (s : Shared) (H : Hp) (vs : List V) (Q : VK) (E : XK), Room k (A.deeper (envOfC qual (defScope st) s.heap.objs.size f cdv)) -> sp vs H Q E ->
   ∃ t, PSs (cxOf CX0 P w K mg base N qual (defScope st) f cdv A outer s H E).nox (defBody st) t /\ t { nx := fun _ H' => Q .non H', rt := Q } (start N vs) H) : FnOk P w K mg base CX0 (k + 1) f fd ps sp := by
 obtain ⟨oc, od, kV, doc, pm, an, cdv, ct, osl, rfl, lk, hcd⟩ := F.ex
 refine fn_of lk hcd S len fun A outer s H vs Q E hr hsp => ?_
 obtain ⟨t, h, q⟩ := hbody cdv A outer s H vs Q E hr hsp
 exact ⟨t, h.nox, q⟩
theorem Fun.binds {x qual : Str} {st : Stmt} {f : Addr} {fd : FuncData} {ps : List Str} (F : Fun K x qual st f fd)
  (h : ∀ (kV doc pm : Value) (an : Option Addr) (cdv ct : Value) (us : List Value), us.length = ps.length -> bindArgs (PySem.W.fnOf x qual (defArgs st) (defBody st) (defScope st) .none kV doc pm an cdv ct) ⟨us, []⟩ = pure (ps.zip us)) : Binds K fd ps [] := by
 obtain ⟨oc, od, kV, doc, pm, an, cdv, ct, osl, rfl, lk, hcd⟩ := F.ex
 exact .all (h kV doc pm an cdv ct)
theorem fun_mk {x qual : Str} {st : Stmt} {f : Addr} {oc : Value} {od an : Option Addr} {osl : Array (Option Value)} {kV doc pm cdv ct : Value} (l : K.lookup f = some ⟨oc, od, .func (PySem.W.fnOf x qual (defArgs st) (defBody st) (defScope st) .none kV doc pm an cdv ct), osl⟩)
  (c : PySem.W.codeIn K cdv qual = true) (k : PySem.W.keepIn K (.ref f) = true) : Fun K x qual st f (PySem.W.fnOf x qual (defArgs st) (defBody st) (defScope st) .none kV doc pm an cdv ct) := ⟨⟨oc, od, kV, doc, pm, an, cdv, ct, osl, rfl, l, c⟩, k⟩
end
section
variable {X : Cx}
end
theorem iteF {A B : Prop} (h : B) : if false = true then A else B := by
 rw [if_neg Bool.false_ne_true]
 exact h
theorem iteT {A B : Prop} (h : A) : if true = true then A else B := by
 rw [if_pos rfl]
 exact h
end L2
namespace L2
open PySem PySem.Spec PyProof.Rows
section
variable {prog : Program} {w : World} {A : Around} {E : Value -> Shared -> Prop}
theorem draw_lst {it l : Addr} {its : Array Value} (ne : l ≠ it) : ∀ (n i : Nat) (s : Shared) (Q : List Value -> Shared -> Prop), s.heap.IsListIter it l i -> s.heap.IsList l its -> i + n <= its.size ->
  (∀ h', h'.IsListIter it l (i + n) -> Heap.SameBut it s.heap h' -> Q ((its.toList.drop i).take n) { s with heap := h' }) -> wpAny (model prog w) A (draw (.ref it) n) Q E s := by
 intro n
 induction n with
 | zero =>
  intro i s Q h1 _ _ k
  exact wpAny_pure (by simpa using k s.heap h1 (Heap.SameBut.refl ..))
 | succ n ih =>
  intro i s Q h1 h2 hle k
  have lt : i < its.size := by omega
  show wpAny _ _ (pyNext (.ref it) >>= _) Q E s
  refine wpAny_bind (wpAny_pyNext_list_item h1 h2 (x := its[i]) (by simp [lt]) fun hA pA qA => ?_)
  refine wpAny_bind (wpAny_holding (ih (i + 1) _ _ pA (h2.extBut qA.extBut ne) (by omega) fun hB pB qB => wpAny_pure ?_))
  have z := k hB (by rw [show i + (n + 1) = i + 1 + n by omega]; exact pB) (qA.trans qB)
  rw [show its.toList.drop i = its[i] :: its.toList.drop (i + 1) from by simp [List.drop_eq_getElem_cons, lt], List.take_succ_cons] at z
  exact z
theorem items_lst {s : Shared} {l : Addr} {its : Array Value} {Q : List Value -> Shared -> Prop} (hh : A.handled = none) (p : s.heap.IsList l its)
  (k : ∀ h', Heap.ExtBut s.heap.objs.size s.heap h' -> Q its.toList { s with heap := h' }) : wpAny (model prog w) A (unpackItems (.ref l) its.size none) Q E s := by
 have ne : l ≠ s.heap.objs.size := by obtain ⟨o, e, _⟩ := p; exact Nat.ne_of_lt (Heap.lt_size e)
 unfold unpackItems notIterableAtAll
 refine wpAny_bind (wpAny_bind (wpAny_specialOf p.typeIs slot_list_iter.lookup (wpAny_pure ?_)))
 simp only [Bool.false_eq_true, if_false]
 refine wpAny_bind (wpAny_holding (wpAny_pyIter_list p (wpAny_bind (wpAny_holding (draw_lst ne its.size 0 _ _ ⟨_, Heap.get?_push_size _ rfl, rfl, rfl⟩ (p.push _) (by omega) fun hA pA qA => ?_)))))
 rw [show List.take its.size (List.drop 0 its.toList) = its.toList from by rw [List.drop_zero]; exact List.take_of_length_le (by simp), if_neg (by simp)]
 refine wpAny_bind (wpAny_holding (wpAny_pyNext_list_end hh pA ((p.push _).extBut qA.extBut ne) (by simp) fun hB qB => ?_))
 simp only [Option.isSome_none, Bool.false_eq_true, if_false]
 exact wpAny_pure (k hB fun b o hb e => qB b o hb (qA.extBut b o hb (Heap.get?_push_of_some _ e)))
theorem assign_lst {s : Shared} {env : Env} {es : List Expr} {k} {pos : Pos} {l : Addr} {its : Array Value} {Q : Unit -> Shared -> Prop} (hh : A.handled = none) (p : s.heap.IsList l its)
  (hn : (assignEach es env).length = its.size) (hst : (assignEach es env).findIdx? (·.1) = none)
  (h : ∀ h', Heap.ExtBut s.heap.objs.size s.heap h' -> wpAny (model prog w) A (assignInOrder ((assignEach es env).map (·.2)) its.toList) Q E { s with heap := h' }) :
  wpAny (model prog w) A (assign (.Tuple es k pos) env (.ref l)) Q E s := by
 rw [PyProof.Rows.assign_Tuple]
 refine wpAny_bind (wpAny_standAt ?_)
 unfold unpack
 rw [hn, hst]
 exact wpAny_bind (wpAny_holding (items_lst hh p h))
end
section
variable {X : Cx} {pos : Pos}
def gLst (K : PySem.W.Frag) (n : Nat) (t : TGs) : TG := fun v σ H Q => ∃ a xs, v = .ref a /\ SqL K H a xs /\ xs.length = n /\ t xs σ H Q
theorem pg_lst {es : List Expr} {k : Nat} {t : TGs} {n : Nat} (hc : X.calm = true) (h : PGs X es t)
  (hn : (assignEach es X.env).length = n) (hst : (assignEach es X.env).findIdx? (·.1) = none) : PG X (.Tuple es k pos) (gLst X.K n t) := by
 intro pins s σ H v u Q I r hw
 obtain ⟨a, xs, rfl, hq, hl, hw⟩ := hw
 cases r
 obtain ⟨its, rv, p, hz⟩ := I.list hq
 refine assign_lst (I.ok.hd hc) p.isList (by simp [hn, <- hl, rv.length]) hst fun h' hx => ?_
 exact h pins _ σ H xs _ Q (I.kept (t' := s.toks) fun b o e => hx b o (Nat.ne_of_lt (Heap.lt_size e)) e) (by simpa using rv) hw
def gAny (K : PySem.W.Frag) (n : Nat) (t : TGs) : TG := fun v σ H Q => gTup K n t v σ H Q \/ gLst K n t v σ H Q
theorem pg_any {es : List Expr} {k : Nat} {t : TGs} {n : Nat} (hc : X.calm = true) (h : PGs X es t)
  (hn : (assignEach es X.env).length = n := by rfl) (hst : (assignEach es X.env).findIdx? (·.1) = none := by rfl) : PG X (.Tuple es k pos) (gAny X.K n t) := by
 intro pins s σ H v u Q I r hw
 rcases hw with hw | hw
 ·exact pg_tup hc h hn hst pins s σ H v u Q I r hw
 ·exact pg_lst hc h hn hst pins s σ H v u Q I r hw
end
end L2
namespace L2
open PySem PySem.Spec PyProof.Rows
def clOf (env : Env) : List (Str × NameKind) -> List (Str × Addr) -> List (Str × Addr)
 | [], acc => acc
 | (n, k) :: r, acc => if k == .free then clOf env r ((n, (env.cells.lookup n).getD 0) :: acc) else clOf env r acc
theorem closure_loop {env : Env} (f : Str × NameKind -> List (Str × Addr) -> Sem (ForInStep (List (Str × Addr))))
  (hf : ∀ n k cs, f (n, k) cs = if k == .free then (do let a <- cellOf env n; pure (.yield ((n, a) :: cs))) else pure (.yield cs)) :
  ∀ (names : List (Str × NameKind)) (acc : List (Str × Addr)), (∀ y ∈ names, y.2 = .free -> ∃ c, env.cells.lookup y.1 = some c) -> forIn names acc f = pure (clOf env names acc)
 | [], acc, _ => by rw [List.forIn_nil]; rfl
 | (n, k) :: r, acc, h => by
  have ih := closure_loop f hf r
  rw [List.forIn_cons, hf]
  unfold clOf
  cases hk : k == NameKind.free with
  | true =>
   obtain ⟨c, hc⟩ := h (n, k) List.mem_cons_self (by simpa using hk)
   have hc' : env.cells.lookup n = some c := hc
   have e1 : cellOf env n = pure c := by unfold cellOf; rw [hc']
   simp only [if_true, e1, hc', Option.getD_some, pure_bind]
   exact ih _ fun y hy => h y (List.mem_cons_of_mem _ hy)
  | false =>
   simp only [Bool.false_eq_true, if_false, pure_bind]
   exact ih _ fun y hy => h y (List.mem_cons_of_mem _ hy)
theorem closureFor_all {scope : Scope} {env : Env} (h : ∀ y ∈ scope.names, y.2 = .free -> ∃ c, env.cells.lookup y.1 = some c) : closureFor scope env = pure (clOf env scope.names []) := by
 unfold closureFor
 simp only []
 rw [closure_loop (env := env) _ (fun n k cs => by cases hk : k == NameKind.free <;> simp [hk]) scope.names [] h]
 rfl
theorem clOf_in {env : Env} {y : Str} {c : Addr} : ∀ {names : List (Str × NameKind)} {acc : List (Str × Addr)}, (∀ z ∈ names, z.2 = .free -> ∃ c, env.cells.lookup z.1 = some c) -> (clOf env names acc).lookup y = some c ->
  acc.lookup y = some c \/ ((y, NameKind.free) ∈ names /\ env.cells.lookup y = some c)
 | [], acc, _, e => .inl e
 | (n, k) :: r, acc, h, e => by
  unfold clOf at e
  have h' : ∀ z ∈ r, z.2 = .free -> ∃ c, env.cells.lookup z.1 = some c := fun z hz => h z (List.mem_cons_of_mem _ hz)
  cases hk : k == NameKind.free with
  | true =>
   have hk' : k = .free := by simpa using hk
   subst hk'
   rw [hk, if_pos rfl] at e
   rcases clOf_in h' e with q | ⟨q1, q2⟩
   ·rw [List.lookup_cons] at q
    cases hy : y == n with
    | true =>
     rw [hy] at q
     have : y = n := by simpa using hy
     subst this
     obtain ⟨c', hc'⟩ := h (y, .free) List.mem_cons_self rfl
     have hc'' : env.cells.lookup y = some c' := hc'
     rw [hc''] at q
     refine .inr ⟨List.mem_cons_self, ?_⟩
     rw [hc'']; exact q
    | false => rw [hy] at q; exact .inl q
   ·exact .inr ⟨List.mem_cons_of_mem _ q1, q2⟩
  | false =>
   rw [hk, if_neg (by simp)] at e
   rcases clOf_in h' e with q | ⟨q1, q2⟩
   ·exact .inl q
   ·exact .inr ⟨List.mem_cons_of_mem _ q1, q2⟩
theorem clOf_some {env : Env} {y : Str} : ∀ {names : List (Str × NameKind)} {acc : List (Str × Addr)}, ((y, NameKind.free) ∈ names \/ (acc.lookup y).isSome = true) -> ((clOf env names acc).lookup y).isSome = true
 | [], acc, h => by
  rcases h with h | h
  ·cases h
  ·exact h
 | (n, k) :: r, acc, h => by
  unfold clOf
  cases hk : k == NameKind.free with
  | true =>
   rw [if_pos rfl]
   refine clOf_some ?_
   rcases h with h | h
   ·rcases List.mem_cons.mp h with e | e
    ·cases e
     exact .inr (by rw [List.lookup_cons]; simp)
    ·exact .inl e
   ·refine .inr ?_
    rw [List.lookup_cons]
    split
    ·rfl
    ·exact h
  | false =>
   rw [if_neg (by simp)]
   refine clOf_some ?_
   rcases h with h | h
   ·rcases List.mem_cons.mp h with e | e
    ·cases e; cases hk
    ·exact .inl e
   ·exact .inr h
theorem cf_in {y : Str} {c : Addr} : ∀ {names : List (Str × NameKind)} {h : Heap} {acc : List (Str × Addr)}, (cellsFrom h.objs.size names acc).lookup y = some c ->
  acc.lookup y = some c \/ (h.objs.size <= c /\ (pushCells h names).IsCell c none /\ (y, NameKind.cell) ∈ names)
 | [], h, acc, e => .inl e
 | (n, k) :: r, h, acc, e => by
  unfold cellsFrom at e
  cases hk : k == NameKind.cell with
  | true =>
   have hk' : k = .cell := by simpa using hk
   subst hk'
   rw [hk, if_pos rfl] at e
   have ih := cf_in (y := y) (c := c) (names := r) (h := h.push { cls := .type "cell", data := .cell none }) (acc := (n, h.objs.size) :: acc)
   rw [Heap.size_push] at ih
   have hp : pushCells h ((n, NameKind.cell) :: r) = pushCells (h.push { cls := .type "cell", data := .cell none }) r := by
    exact if_pos hk
   rcases ih e with q | ⟨q1, q2, q3⟩
   ·rw [List.lookup_cons] at q
    cases hy : y == n with
    | true =>
     rw [hy] at q
     cases q
     have hyn : y = n := by simpa using hy
     subst hyn
     refine .inr ⟨Nat.le_refl _, ?_, List.mem_cons_self⟩
     rw [hp]
     exact ⟨_, pushCells_keeps _ _ _ _ (Heap.get?_push_size _ rfl), rfl⟩
    | false => rw [hy] at q; exact .inl q
   ·exact .inr ⟨Nat.le_trans (Nat.le_succ _) q1, by rw [hp]; exact q2, List.mem_cons_of_mem _ q3⟩
  | false =>
   rw [hk, if_neg (by simp)] at e
   have hp : pushCells h ((n, k) :: r) = pushCells h r := by
    show (if (k == NameKind.cell) = true then _ else _) = _
    rw [hk, if_neg (by simp)]
   rcases cf_in e with q | ⟨q1, q2, q3⟩
   ·exact .inl q
   ·exact .inr ⟨q1, by rw [hp]; exact q2, List.mem_cons_of_mem _ q3⟩
theorem cf_lo {y : Str} {c : Addr} {lo : Nat} : ∀ {names : List (Str × NameKind)} {n : Nat} {acc : List (Str × Addr)}, ((y, NameKind.cell) ∈ names \/ ∀ c, acc.lookup y = some c -> lo <= c) -> lo <= n -> (cellsFrom n names acc).lookup y = some c -> lo <= c
 | [], n, acc, h, _, e => by
  rcases h with h | h
  ·cases h
  ·exact h c e
 | (m, k) :: r, n, acc, h, hn, e => by
  unfold cellsFrom at e
  cases hk : k == NameKind.cell with
  | true =>
   rw [hk, if_pos rfl] at e
   refine cf_lo ?_ (Nat.le_trans hn (Nat.le_succ _)) e
   by_cases hy : y = m
   ·subst hy
    refine .inr fun c hc => ?_
    rw [List.lookup_cons, beq_self_eq_true] at hc
    cases hc
    exact hn
   ·rcases h with h | h
    ·rcases List.mem_cons.mp h with z | z
     ·cases z; exact absurd rfl hy
     ·exact .inl z
    ·refine .inr fun c hc => ?_
     rw [List.lookup_cons] at hc
     have : (y == m) = false := by simpa using hy
     rw [this] at hc
     exact h c hc
  | false =>
   rw [hk, if_neg (by simp)] at e
   refine cf_lo ?_ hn e
   rcases h with h | h
   ·rcases List.mem_cons.mp h with z | z
    ·cases z; cases hk
    ·exact .inl z
   ·exact .inr h
theorem cf_inj : ∀ {names : List (Str × NameKind)} {n : Nat} {acc : List (Str × Addr)}, (∀ y z c, acc.lookup y = some c -> acc.lookup z = some c -> y = z) -> (∀ y c, acc.lookup y = some c -> c < n) ->
  ∀ y z c, (cellsFrom n names acc).lookup y = some c -> (cellsFrom n names acc).lookup z = some c -> y = z
 | [], n, acc, hi, _ => hi
 | (m, k) :: r, n, acc, hi, hl => by
  unfold cellsFrom
  cases hk : k == NameKind.cell with
  | true =>
   rw [if_pos rfl]
   refine cf_inj (fun y z c e1 e2 => ?_) fun y c e => ?_
   ·rw [List.lookup_cons] at e1 e2
    cases hy : y == m <;> cases hz : z == m <;> rw [hy] at e1 <;> rw [hz] at e2
    ·exact hi y z c e1 e2
    ·cases e2; exact absurd (hl y _ e1) (Nat.lt_irrefl _)
    ·cases e1; exact absurd (hl z _ e2) (Nat.lt_irrefl _)
    ·exact (by simpa using hy : y = m).trans (by simpa using hz : z = m).symm
   ·rw [List.lookup_cons] at e
    cases hy : y == m <;> rw [hy] at e
    ·exact Nat.lt_succ_of_lt (hl y c e)
    ·cases e; exact Nat.lt_succ_self _
  | false =>
   rw [if_neg (by simp)]
   exact cf_inj hi hl
theorem newBlockEnv {M : Model} {A : Around} {E : Value -> Shared -> Prop} {s : Shared} {scope : Scope} {globals : Addr} {cl : List (Str × Addr)} {qual : Str} {outer : Env} {Q : Env -> Shared -> Prop}
  (hQ : Q { scope := scope, locals := s.heap.objs.size, globals := globals, cells := cellsFrom (s.heap.objs.size + 1) scope.names cl, qual := qual, func := none, code := outer.code, frame := outer.frame, builtins := outer.builtins }
   { s with heap := pushCells (s.heap.push { cls := .type "dict", data := .dict #[] }) scope.names }) :
  wpAny M A (newFunctionEnv scope globals cl [] qual none .none (some outer)) Q E s := by
 simp only [newFunctionEnv, Option.isSome_some, if_true]
 refine wpAny_bind (wpAny_alloc ?_)
 refine wpAny_bind (wpAny_layCells _ (fun name kind cells => by cases hkc : kind == NameKind.cell <;> simp [hkc]) _ _ _ _ ?_)
 rw [show ({ s with heap := s.heap.push { cls := .type "dict", data := .dict #[] } } : Shared).heap.objs.size = s.heap.objs.size + 1 from Heap.size_push ..]
 simp only [List.forIn_nil]
 exact wpAny_bind (wpAny_pure (wpAny_pure hQ))
theorem relabel_lookup {scope : Scope} {env : Env} {y : Str} : (relabel scope env).names.lookup y = (scope.names.lookup y).map fun k => if (k == NameKind.free && env.scope.kind == .function && env.kindOf y == some .cell) then NameKind.cell else k := by
 have all : ∀ l : List (Str × NameKind), (l.map fun (n, k) => if (k == NameKind.free && env.scope.kind == .function && env.kindOf n == some .cell) then (n, NameKind.cell) else (n, k)).lookup y = (l.lookup y).map fun k => if (k == NameKind.free && env.scope.kind == .function && env.kindOf y == some .cell) then NameKind.cell else k := by
  intro l
  induction l with
  | nil => rfl
  | cons p r ih =>
   obtain ⟨n, k⟩ := p
   rw [List.map_cons, List.lookup_cons]
   by_cases hc : (k == NameKind.free && env.scope.kind == .function && env.kindOf n == some .cell) = true
   ·simp only [hc, if_true, List.lookup_cons]
    cases hy : y == n with
    | true =>
     have : y = n := by simpa using hy
     subst this
     simp only [Option.map_some, hc, if_true]
    | false => exact ih
   ·simp only [if_neg hc, List.lookup_cons]
    cases hy : y == n with
    | true =>
     have : y = n := by simpa using hy
     subst this
     simp only [Option.map_some, if_neg hc]
    | false => exact ih
 exact all scope.names
def dum (x : Str) : Str := ⟨x.cps.push 0⟩
def compN (N xs : List Str) : List Str := (N.map fun y => if y ∈ xs then dum y else y) ++ xs
theorem compN_len (N xs : List Str) : (compN N xs).length = N.length + xs.length := by simp [compN]
theorem compN_last (N xs : List Str) (j : Nat) : (compN N xs)[N.length + j]? = xs[j]? := by
 unfold compN
 rw [List.getElem?_append_right (by simp)]
 simp
theorem compN_old {N xs : List Str} {y : Str} {i : Nat} (hi : i < N.length) (h : (compN N xs)[i]? = some y) : (∃ x ∈ xs, y = dum x) \/ (N[i]? = some y /\ y ∉ xs) := by
 unfold compN at h
 rw [List.getElem?_append_left (by simpa using hi), List.getElem?_map] at h
 obtain ⟨z, hz⟩ : ∃ z, N[i]? = some z := ⟨N[i], by simp [hi]⟩
 rw [hz] at h
 by_cases e : z ∈ xs
 ·simp only [Option.map_some, if_pos e] at h
  exact .inl ⟨z, e, (Option.some.inj h).symm⟩
 ·simp only [Option.map_some, if_neg e] at h
  have e2 : z = y := Option.some.inj h
  subst e2
  exact .inr ⟨hz, e⟩
structure CompOf (X : Cx) (scope : Scope) (xs : List Str) (Xc : Cx) : Prop where
 prog : Xc.prog = X.prog
 w : Xc.w = X.w
 K : Xc.K = X.K
 mg : Xc.mg = X.mg
 base : Xc.base = X.base
 A : Xc.A = X.A
 N : Xc.N = compN X.N xs
 sc : Xc.env.scope = relabel scope X.env
 calm : Xc.calm = true
 stack : Xc.stack = X.stack
def PTs (X : Cx) (ifs : List Expr) (t : TT) : Prop :=
 ∀ (pins : List (Addr × Obj)) (s : Shared) (σ : St) (H : Hp) (Q : Bool -> Hp -> Prop), Inv X pins σ H s -> t σ H Q ->
  wpAny (model X.prog X.w) X.A (forIn ifs true fun c r => if r = true then do let ok <- isTrue c X.env (eval c X.env); pure (ForInStep.yield ok) else pure (ForInStep.yield r)) (TP X pins σ Q) X.xe s
theorem pts_nil {X : Cx} : PTs X [] (fun _ H Q => Q true H) := fun _ _ _ H _ I h => wpAny_tests_nil ⟨H, I, h⟩
theorem pts_one {X : Cx} {c : Expr} {t : TT} (h : PT X c t) : PTs X [c] t := fun pins s σ H Q I q => wpAny_tests_one (h pins s σ H Q I q)
structure BlockOk (X : Cx) (scope : Scope) (xs : List Str) : Prop where
 kind : scope.kind = .function
 own : ∀ x ∈ xs, scope.names.lookup x = some .local \/ scope.names.lookup x = some .cell
 locs : ∀ y ∈ scope.names, y.2 = .local -> scope.names.lookup y.1 = some .local
 free : ∀ y ∈ scope.names, y.2 = .free -> X.env.scope.names.lookup y.1 = some .cell \/ X.env.scope.names.lookup y.1 = some .free
 alone : ∀ y ∈ X.N, y ∉ xs -> scope.names.lookup y ≠ some .local /\ scope.names.lookup y ≠ some .cell
 one : ∀ y ∈ scope.names, y.2 = .cell -> scope.names.lookup y.1 ≠ some .free
 nd : (compN X.N xs).Nodup
 dumN : ∀ x ∈ xs, scope.names.lookup (dum x) = none
theorem compLoop_any {prog : Program} {w : World} {A : Around} {R : Result -> Shared -> Prop} {s : Shared} {elt target iter : Expr} {ifs : List Expr} {scope : Scope} {pos : Pos} {it acc : Value} {env : Env} (I : Nat -> Shared -> Prop)
  (turn : ∀ n s, I n s -> wpAny (model prog w) A (pyNext it) (fun r s₁ => match r with
   | none => R (.ok .next) s₁
   | some v => wpAny (model prog w) A (letOwnedTupleGo target it v) (fun _ s₁' => wpAny (model prog w) A (assign target env v) (fun _ s₂ =>
     wpAny (model prog w) A (forIn ifs true fun c r => if r = true then do let ok <- isTrue c env (eval c env); pure (ForInStep.yield ok) else pure (ForInStep.yield r)) (fun ok s₃ =>
      if ok = true then wpAny (model prog w) A (eval elt env) (fun x s₄ =>
       wpAny (model prog w) A (call (.builtin "list.append") [acc, x]) (fun _ s₅ => ∃ m, m < n /\ I m s₅) (notedBy (model prog w) A env fun e s' => R (.error e) s') s₄) (notedBy (model prog w) A env fun e s' => R (.error e) s') s₃
      else ∃ m, m < n /\ I m s₃) (notedBy (model prog w) A env fun e s' => R (.error e) s') s₂) (notedBy (model prog w) A env fun e s' => R (.error e) s') s₁') (notedBy (model prog w) A env fun e s' => R (.error e) s') s₁) (notedBy (model prog w) A env fun e s' => R (.error e) s') s)
  (n : Nat) (h : I n s) : codeAny (model prog w) A (.compLoop (.ListComp elt [⟨target, iter, ifs, 0⟩] scope pos) 0 it acc env) R s := by
 refine codeAny_loop rfl I (fun n s hI => ?_) n h
 show wpAny _ A ((compTurn (.ListComp elt [⟨target, iter, ifs, 0⟩] scope pos) 0 it acc env).onRaise (fun x => do noteFrame x env; theTreesLotGoes x)) _ _ s
 refine wpAny_noted ?_
 rw [compTurn_list]
 refine wpAny_bind (wpAny_standAt (wpAny_bind (wpAny_mono (turn n s hI) (fun r s₁ h₁ => ?_) fun _ _ h' => h')))
 cases r with
 | none => exact wpAny_pure h₁
 | some v =>
  refine wpAny_bind (wpAny_mono h₁ (fun _ s₁' h₁' => ?_) fun _ _ h' => h')
  refine wpAny_bind (wpAny_mono h₁' (fun _ s₂ h₂ => wpAny_bind (wpAny_mono h₂ (fun ok s₃ h₃ => ?_) fun _ _ h' => h')) fun _ _ h' => h')
  cases ok with
  | false => exact wpAny_pure ⟨rfl, h₃⟩
  | true =>
   exact wpAny_bind (wpAny_bind (wpAny_mono h₃ (fun x s₄ h₄ => wpAny_bind (wpAny_mono h₄ (fun _ s₅ h₅ => wpAny_pure (wpAny_pure ⟨rfl, h₅⟩)) fun _ _ h' => h')) fun _ _ h' => h'))
def tComp (un : V -> Hp -> List V -> Prop) (wi : TI) (tc : TT) (te : TE) : TE := fun σ H Q => wi σ H fun J H1 => ∀ D, H1 D = none -> ∃ W : Nat -> Nat -> List V -> Hp -> Prop, (∃ m, W 0 m [] (upd H1 D (.lst []))) /\ ∀ i m ys H, W i m ys H ->
 (J.stop i H /\ Q (.ref D) H) \/ (J.go i H /\ ∀ v H', J.yld i H v H' -> ∃ vs, un v H' vs /\ tc (σ ++ vs.map some) H' fun b H2 => if b = true then te (σ ++ vs.map some) H2 fun y H3 => H3 D = some (.lst ys) /\ ys.length < sizeLine /\ ∃ m', m' < m /\ W (i + 1) m' (ys ++ [y]) (upd H3 D (.lst (ys ++ [y])))
  else ∃ m', m' < m /\ W (i + 1) m' ys H2)
theorem comp_block {X : Cx} {elt iter tg : Expr} {xs : List Str} {g : TG} {un : V -> Hp -> List V -> Prop} {ifs : List Expr} {scope : Scope} {pos : Pos} {tc : TT} {te : TE} {pins : List (Addr × Obj)} {σ : St} {s : Shared} {H : Hp} {Q : Value -> Shared -> Prop} {use : Option (Value -> Sem Unit)}
  {D it : Addr} {fp : List Addr} {tn : Nat -> Heap -> Prop} {J : It} (B : BlockOk X scope xs) (hc : X.calm = true)
  (hpg : ∀ Xc, CompOf X scope xs Xc -> (∀ x ∈ xs, Loc Xc.env.scope x /\ (Xc.fn x = true \/ Xc.env.scope.names.lookup x = some .local)) -> PG Xc tg g)
  (hun : ∀ v H vs os, os.length = xs.length -> un v H vs -> vs.length = xs.length /\ g v (σ ++ os) H fun σ2 H2 => σ2 = σ ++ vs.map some /\ H2 = H)
  (hbody : ∀ Xc, CompOf X scope xs Xc -> PTs Xc ifs tc /\ PE Xc elt te)
  (I : Inv X pins σ H s) (T : Turn X.prog X.w X.K tg J fp it tn) (st : tn 0 s.heap) (hfp : ∀ b ∈ fp, FpOk X pins H b)
  (W : Nat -> Nat -> List V -> Hp -> Prop) (m0 : Nat) (w0 : W 0 m0 [] H)
  (turn : ∀ i m ys H, W i m ys H -> (J.stop i H /\ ∀ s' m' C, Inv X pins σ H s' -> s'.heap.Ns C m' -> s.heap.objs.size <= C -> H C = none -> compPost (model X.prog X.w) X.A X.xe use Q (.ref D) C (.ok .next) s') \/
   (J.go i H /\ ∀ v H', J.yld i H v H' -> ∃ vs, un v H' vs /\ tc (σ ++ vs.map some) H' fun b H2 => if b = true then te (σ ++ vs.map some) H2 fun y H3 => H3 D = some (.lst ys) /\ ys.length < sizeLine /\ ∃ m', m' < m /\ W (i + 1) m' (ys ++ [y]) (upd H3 D (.lst (ys ++ [y])))
    else ∃ m', m' < m /\ W (i + 1) m' ys H2)) :
  wpAny (model X.prog X.w) X.A (newFunctionEnv scope X.env.globals (clOf X.env scope.names []) [] X.env.qual none .none (some X.env)) (fun cenv s₄ =>
   codeAny (model X.prog X.w) X.A (.compStart (.ListComp elt [⟨tg, iter, ifs, 0⟩] scope pos) 0 (.ref it) (.ref D) { cenv with scope := relabel scope X.env }) (compPost (model X.prog X.w) X.A X.xe use Q (.ref D) cenv.locals) s₄) X.xe s := by
 refine newBlockEnv ?_
 have hcl : ∀ y ∈ scope.names, y.2 = .free -> ∃ c, X.env.cells.lookup y.1 = some c := fun y hy hf => by
  rcases B.free y hy hf with q | q
  ·exact I.ok.has y.1 (.inl q)
  ·exact I.ok.has y.1 (.inr q)
 -- the block's own parts
 generalize hC : s.heap.objs.size = C
 generalize hcs : cellsFrom (C + 1) scope.names (clOf X.env scope.names []) = cs
 generalize hh4 : pushCells (s.heap.push { cls := .type "dict", data := .dict #[] }) scope.names = h4
 have szP : (s.heap.push { cls := .type "dict", data := .dict #[] }).objs.size = C + 1 := by rw [Heap.size_push, hC]
 have keep4 : ∀ b o, s.heap.get? b = some o -> h4.get? b = some o := fun b o e => hh4 ▸ pushCells_keeps _ _ _ _ (Heap.get?_push_of_some _ e)
 have nsC : h4.Ns C (fun _ => none) := by
  have q := (Heap.Ns.new s.heap (.type "dict")).keeps (pushCells_keeps scope.names (s.heap.push { cls := .type "dict", data := .dict #[] }))
  rw [hC, hh4] at q
  exact q
 -- a cell of the block: one of its own, or one of those around
 have csIn : ∀ y c, cs.lookup y = some c -> ((y, NameKind.free) ∈ scope.names /\ X.env.cells.lookup y = some c) \/ (C + 1 <= c /\ h4.IsCell c none /\ (y, NameKind.cell) ∈ scope.names) := fun y c e => by
  have q := cf_in (y := y) (c := c) (names := scope.names) (h := s.heap.push { cls := .type "dict", data := .dict #[] }) (acc := clOf X.env scope.names [])
  rw [szP, hcs, hh4] at q
  rcases q e with q | q
  ·rcases clOf_in hcl q with z | z
   ·cases z
   ·exact .inl z
  ·exact .inr q
 have oldC : ∀ y c, X.env.cells.lookup y = some c -> c < C := fun y c e => by
  obtain ⟨v, q⟩ := I.cell y c e
  rw [<- hC]; exact q.lt
 have fpC : ∀ b ∈ fp, b < C := fun b hb => by
  obtain ⟨o, e, _⟩ := T.obj _ _ st b hb
  rw [<- hC]; exact Heap.lt_size e
 let cenv : Env := { scope := relabel scope X.env, locals := C, globals := X.env.globals, cells := cs, qual := X.env.qual, func := none, code := X.env.code, frame := X.env.frame, builtins := X.env.builtins }
 let RR : Result -> Shared -> Prop := compPost (model X.prog X.w) X.A X.xe use Q (.ref D) C
 let Xc : Cx := { X with N := compN X.N xs, s₀ := s, H₀ := H, env := cenv, outer := X.stack, stack := X.stack, ex := fp, fn := fun y => decide (scope.names.lookup y = some .cell), calm := true, pn := [], xe := notedBy (model X.prog X.w) X.A cenv fun e s' => RR (.error e) s' }
 have hXc : CompOf X scope xs Xc := ⟨rfl, rfl, rfl, rfl, rfl, rfl, rfl, rfl, rfl, rfl⟩
 obtain ⟨hT, hE⟩ := hbody Xc hXc
 have ok : Xc.Ok := by
  refine ⟨I.ok.mod, B.kind, I.ok.glob, I.ok.blt, Nat.le_of_eq hC, ?_, fun y hy => ?_, fun y c hf e => ?_, fun _ => I.ok.hd hc, I.ok.frames, .inl rfl, fun b hb => ⟨Nat.ne_of_lt (fpC b hb), fun y c e => ?_⟩, I.bs, Nat.le_trans I.ok.bsz I.sz, fun b o e hb => ?_, fun b hb hf => ?_, I.stack, I.stkFree⟩
  ·show ∀ y z c, cs.lookup y = some c -> cs.lookup z = some c -> y = z
   rw [<- hcs]
   refine cf_inj (fun y z c e1 e2 => ?_) fun y c e => ?_
   ·rcases clOf_in hcl e1 with q | q
    ·cases q
    ·rcases clOf_in hcl e2 with q' | q'
     ·cases q'
     ·exact I.ok.inj y z c q.2 q'.2
   ·rcases clOf_in hcl e with q | q
    ·cases q
    ·exact Nat.lt_succ_of_lt (oldC y c q.2)
  ·have hy' : (relabel scope X.env).names.lookup y = some .cell \/ (relabel scope X.env).names.lookup y = some .free := hy
   rw [relabel_lookup] at hy'
   show ∃ c, cs.lookup y = some c
   rw [<- hcs]
   refine Option.isSome_iff_exists.mp (PySem.W.cellsFrom_some _ _ _ ?_)
   cases hk : scope.names.lookup y with
   | none => rw [hk] at hy'; rcases hy' with z | z <;> cases z
   | some k =>
    rw [hk] at hy'
    have kk : k = .cell \/ k = .free := by
     simp only [Option.map_some] at hy'
     by_cases hcnd : (k == NameKind.free && X.env.scope.kind == .function && X.env.kindOf y == some .cell) = true
     ·refine .inr ?_
      have := (Bool.and_eq_true_iff.mp (Bool.and_eq_true_iff.mp hcnd).1).1
      simpa using this
     ·rw [if_neg hcnd] at hy'
      rcases hy' with z | z
      ·exact .inl (Option.some.inj z)
      ·exact .inr (Option.some.inj z)
    rcases kk with rfl | rfl
    ·exact .inl rfl
    ·exact .inr (clOf_some (.inl (PySem.mem_of_lookup hk)))
  ·show s.heap.objs.size <= c
   rw [hC]
   have e' : cs.lookup y = some c := e
   rw [<- hcs] at e'
   exact Nat.le_trans (Nat.le_succ _) (cf_lo (lo := C + 1) (.inl (PySem.mem_of_lookup (of_decide_eq_true hf))) (Nat.le_refl _) e')
  ·show c ≠ b
   rintro rfl
   rcases csIn y c e with ⟨_, z⟩ | ⟨z, _, _⟩
   ·exact (hfp c hb).2.2.2.2.1 y c z rfl
   ·exact absurd (Nat.lt_of_lt_of_le (fpC c hb) (Nat.le_trans (Nat.le_succ _) z)) (Nat.lt_irrefl _)
  ·rcases (hfp b hb).2.2.2.1 with z | z
   ·exact I.ok.noex b o e z
   ·exact absurd (Nat.lt_of_lt_of_le (Heap.lt_size (I.ok.bs b o e).1) z) (Nat.lt_irrefl _)
  ·rcases List.mem_cons.mp (I.stkSub b hf) with z | z
   ·exact (hfp b hb).2.1 z
   ·exact (hfp b hb).2.2.1 z
 have frC : H C = none := I.hok.fresh (Nat.le_of_eq hC)
 have frN : ∀ c, C <= c -> H c = none := fun c hc' => I.hok.fresh (by rw [hC]; exact hc')
 have hσ : σ.length = X.N.length := I.len
 have I4 : Inv Xc [] (σ ++ xs.map fun _ => none) H { s with heap := h4 } := by
  refine ⟨ok, rfl, I.bare, Un.kept keep4, ⟨_, nsC, fun i y v e1 e2 e3 => ?_⟩, fun y c e => ?_, frC, fun y c e => ?_, fun p hp => absurd (show p ∈ ([] : List (Addr × Obj)) from hp) (by simp), I.hok.kept keep4, ?_⟩
  ·have hi : i < σ.length := by
    by_cases hi : i < σ.length
    ·exact hi
    ·rw [List.getElem?_append_right (by omega), List.getElem?_map] at e2
     cases hz : xs[i - σ.length]? with
     | none => rw [hz] at e2; simp at e2
     | some k => rw [hz] at e2; simp at e2
   rw [List.getElem?_append_left hi] at e2
   have vis : scope.names.lookup y = some .local \/ scope.names.lookup y = some .cell \/ scope.names.lookup y = some .free := by
    have e3' : Vis (relabel scope X.env) y := e3
    unfold Vis at e3'
    rw [relabel_lookup] at e3'
    cases hk : scope.names.lookup y with
    | none => rw [hk] at e3'; rcases e3' with z | z | z <;> cases z
    | some k =>
     rw [hk] at e3'
     simp only [Option.map_some] at e3'
     by_cases hcnd : (k == NameKind.free && X.env.scope.kind == .function && X.env.kindOf y == some .cell) = true
     ·have := (Bool.and_eq_true_iff.mp (Bool.and_eq_true_iff.mp hcnd).1).1
      exact .inr (.inr (by rw [show k = .free by simpa using this]))
     ·rw [if_neg hcnd] at e3'
      exact e3'
   rcases compN_old (by rw [<- hσ]; exact hi) e1 with z | ⟨z, zx⟩
   ·obtain ⟨x, hx, z⟩ := z
    subst z
    rw [B.dumN x hx] at vis
    rcases vis with q | q | q <;> cases q
   ·have hfree : scope.names.lookup y = some .free := by
     rcases vis with q | q | q
     ·exact absurd q (B.alone y (List.mem_of_getElem? z) zx).1
     ·exact absurd q (B.alone y (List.mem_of_getElem? z) zx).2
     ·exact q
    have kout := B.free _ (PySem.mem_of_lookup hfree) rfl
    obtain ⟨m, hn, hl⟩ := I.loc
    obtain ⟨u, r, l⟩ := hl i y v z e2 (kout.elim (fun q => .inr (.inl q)) fun q => .inr (.inr q))
    refine ⟨u, r, ?_⟩
    rcases l with ⟨k, _⟩ | ⟨_, c, ec, zc⟩
    ·have k' : X.env.scope.names.lookup y = some .local := k
     rcases kout with q | q <;> rw [k'] at q <;> cases q
    ·have hsome : ∃ c', cs.lookup y = some c' := ok.has y (by
      show (relabel scope X.env).names.lookup y = some .cell \/ (relabel scope X.env).names.lookup y = some .free
      rw [relabel_lookup, hfree]
      simp only [Option.map_some]
      split
      ·exact .inl rfl
      ·exact .inr rfl)
     obtain ⟨c', ec'⟩ := hsome
     refine .inr ⟨?_, c', ec', ?_⟩
     ·show (relabel scope X.env).names.lookup y = some .cell \/ (relabel scope X.env).names.lookup y = some .free
      rw [relabel_lookup, hfree]
      simp only [Option.map_some]
      split
      ·exact .inl rfl
      ·exact .inr rfl
     ·rcases csIn y c' ec' with ⟨_, q⟩ | ⟨_, _, q⟩
      ·rw [ec] at q; cases q
       exact zc.keeps keep4
      ·exact absurd hfree (B.one (y, .cell) q rfl)
  ·rcases csIn y c e with ⟨_, q⟩ | ⟨_, q, _⟩
   ·obtain ⟨v, z⟩ := I.cell y c q
    exact ⟨v, z.keeps keep4⟩
   ·exact ⟨_, q⟩
  ·rcases csIn y c e with ⟨_, q⟩ | ⟨q, _, _⟩
   ·exact I.freeC y c q
   ·exact frN c (by omega)
  ·show (σ ++ xs.map fun _ => none).length = (compN X.N xs).length
   rw [compN_len, List.length_append, hσ, List.length_map]
 -- the loop
 have hLoc : ∀ x ∈ xs, Loc Xc.env.scope x /\ (Xc.fn x = true \/ Xc.env.scope.names.lookup x = some .local) := fun x hx => by
  constructor
  ·show (relabel scope X.env).names.lookup x = some .local \/ (relabel scope X.env).names.lookup x = some .cell
   rw [relabel_lookup]
   rcases B.own x hx with q | q <;> rw [q]
   ·exact .inl rfl
   ·exact .inr rfl
  ·rcases B.own x hx with q | q
   ·refine .inr ?_
    show (relabel scope X.env).names.lookup x = some .local
    rw [relabel_lookup, q]; rfl
   ·exact .inl (decide_eq_true q)
 have hg : PG Xc tg g := hpg Xc hXc hLoc
 have fpX : ∀ {H' : Hp}, (∀ b ∈ fp, H' b = none) -> ∀ b ∈ fp, FpOk Xc [] H' b := fun hn b hb =>
  ⟨hn b hb, Nat.ne_of_lt (fpC b hb), fun z => ok.exfs b hb z, .inl hb, fun y c e => (ok.exf b hb).2 y c e, fun p hp => absurd (show p ∈ ([] : List (Addr × Obj)) from hp) (by simp)⟩
 have loop : codeAny (model X.prog X.w) X.A (.compLoop (.ListComp elt [⟨tg, iter, ifs, 0⟩] scope pos) 0 (.ref it) (.ref D) cenv) RR { s with heap := h4 } := by
  refine compLoop_any (fun n s' => ∃ i os ys H', os.length = xs.length /\ Inv Xc [] (σ ++ os) H' s' /\ tn i s'.heap /\ (∀ b ∈ fp, H' b = none) /\ W i n ys H') ?_ m0 ⟨0, _, [], H, List.length_map _, I4, T.keep _ _ _ st fun b _ o e => keep4 b o e, fun b hb => (hfp b hb).1, w0⟩
  rintro n s3 ⟨i, os, ys, H3, hos, I3, st3, fr3, w3⟩
  rcases turn i n ys H3 w3 with ⟨stop, fin⟩ | ⟨go, step⟩
  ·refine thn (T.done Xc rfl rfl rfl rfl i [] s3 (σ ++ os) H3 Xc.xe I3 (fpX fr3) st3 stop) fun r s4 ⟨hr, I4⟩ => ?_
   subst hr
   obtain ⟨m, hn, _⟩ := id I4.loc
   refine fin s4 m C ?_ hn (Nat.le_of_eq hC) I4.free
   exact I.call' (ch := fp) I4.os I4.base I4.hok I4.bare fun b hb => ⟨(hfp b hb).2.2.2.1, (hfp b hb).2.1, (hfp b hb).2.2.2.2.1, (hfp b hb).2.2.2.2.2⟩
  ·refine thn (T.item Xc rfl rfl rfl rfl i [] s3 (σ ++ os) H3 Xc.xe I3 (fpX fr3) st3 go) fun r s4 ⟨u, hr, h4'⟩ => ?_
   subst hr
   refine thn h4' fun _ s5 ⟨v, H5, I5, r5, y5, st5, fr5⟩ => ?_
   have I5' := I5.pinned (fpX fr5) (T.obj _ _ st5)
   obtain ⟨vs, hvs, step5⟩ := step v H5 y5
   obtain ⟨hvl, hset⟩ := hun v H5 vs os hos hvs
   refine thn (hg _ s5 (σ ++ os) H5 v u (fun σ2 H2 => σ2 = σ ++ vs.map some /\ H2 = H5) I5' r5 hset) fun _ s6 ⟨σ6, H6, I6, e6, e6'⟩ => ?_
   subst e6; subst e6'
   have back : ∀ {H7 : Hp} {s7 : Shared}, Inv Xc ([] ++ pinsAt fp s5.heap) (σ ++ vs.map some) H7 s7 -> tn (i + 1) s7.heap /\ (∀ b ∈ fp, H7 b = none) /\ Inv Xc [] (σ ++ vs.map some) H7 s7 := fun {H7 s7} I7 => by
    refine ⟨T.keep _ _ _ st5 fun b hb ob e => (I7.pin (b, ob) (List.mem_append_right _ (List.mem_append_right _ (mem_pinsAt hb e)))).1, fun b hb => ?_, I7.unpinned⟩
    obtain ⟨ob, e, _⟩ := T.obj _ _ st5 b hb
    exact (I7.pin (b, ob) (List.mem_append_right _ (List.mem_append_right _ (mem_pinsAt hb e)))).2.1
   refine thn (hT _ s6 (σ ++ vs.map some) H6 _ I6 step5) fun b s7 ⟨H7, I7, q7⟩ => ?_
   cases b with
   | false =>
    rw [if_neg Bool.false_ne_true] at q7 ⊢
    obtain ⟨m', hm, w7⟩ := q7
    obtain ⟨t1, t2, t3⟩ := back I7
    exact ⟨m', hm, i + 1, _, ys, H7, (by rw [List.length_map]; exact hvl), t3, t1, t2, w7⟩
   | true =>
    rw [if_pos rfl] at q7 ⊢
    refine thn (hE _ s7 (σ ++ vs.map some) H7 _ I7 q7) fun yv s8 ⟨y, H8, I8, r8, hD8, hl8, m', hm, w8⟩ => ?_
    refine thn (mt_append (X := Xc) _ s8 (σ ++ vs.map some) H8 (.ref D) [y] (.ref D) [yv] (fun _ H9 => H9 = upd H8 D (.lst (ys ++ [y]))) I8 rfl (.cons r8 .nil) ⟨D, ys, y, rfl, rfl, hD8, hl8, rfl⟩) fun _ s9 ⟨_, H9, I9, _, e9⟩ => ?_
    subst e9
    obtain ⟨t1, t2, t3⟩ := back I9
    exact ⟨m', hm, i + 1, _, ys ++ [y], _, (by rw [List.length_map]; exact hvl), t3, t1, t2, w8⟩
 refine codeAny_compStart_list loop ?_
 exact T.self X.A 0 _ _ _ (T.keep _ _ _ st fun b _ o e => keep4 b o e) loop
section
variable {X : Cx} {elt iter tg : Expr} {xs : List Str} {y : Str} {g : TG} {un : V -> Hp -> List V -> Prop} {py : Pos} {ifs : List Expr} {scope : Scope} {pos spos : Pos} {wi : TI} {tc : TT} {te : TE}
theorem Inv.aside {pins : List (Addr × Obj)} {σ : St} {H : Hp} {s : Shared} {C lo : Addr} {h' : Heap} (I : Inv X pins σ H s) (hlo : lo <= C) (hL : X.env.locals < lo) (hcell : ∀ y c, X.env.cells.lookup y = some c -> c < lo) (hpin : ∀ p ∈ X.pn ++ pins, p.1 < lo)
  (hn : H C = none) (hs : Heap.SameBut C s.heap h') : Inv X pins σ H { s with heap := h' } :=
 I.turned (it := C) (t' := s.toks) (fun b o hb e => (hs.2 b hb).trans e) hn (Nat.ne_of_gt (Nat.lt_of_lt_of_le hL hlo)) (.inr (Nat.le_trans I.ok.above (Nat.le_trans (Nat.le_of_lt hL) hlo)))
  (fun y c e => Nat.ne_of_lt (Nat.lt_of_lt_of_le (hcell y c e) hlo)) fun p hp => Nat.ne_of_lt (Nat.lt_of_lt_of_le (hpin p hp) hlo)
theorem Inv.below {pins : List (Addr × Obj)} {σ : St} {H : Hp} {s : Shared} (I : Inv X pins σ H s) : X.env.locals < s.heap.objs.size /\ (∀ y c, X.env.cells.lookup y = some c -> c < s.heap.objs.size) /\ ∀ p ∈ X.pn ++ pins, p.1 < s.heap.objs.size :=
 ⟨I.lt, fun y c e => let ⟨_, z⟩ := I.cell y c e; z.lt, fun p hp => Heap.lt_size (I.pin p hp).1⟩
theorem block_closure (B : BlockOk X scope xs) (ok : X.Ok) : closureFor scope X.env = pure (clOf X.env scope.names []) :=
 closureFor_all fun y hy hf => (B.free y hy hf).elim (fun q => ok.has y.1 (.inl q)) fun q => ok.has y.1 (.inr q)
structure Tgt (X : Cx) (scope : Scope) (xs : List Str) (tg : Expr) (g : TG) (un : V -> Hp -> List V -> Prop) : Prop where
 pg : ∀ Xc, CompOf X scope xs Xc -> (∀ x ∈ xs, Loc Xc.env.scope x /\ (Xc.fn x = true \/ Xc.env.scope.names.lookup x = some .local)) -> PG Xc tg g
 un : ∀ v H vs os (σ : St), σ.length = X.N.length -> os.length = xs.length -> un v H vs -> vs.length = xs.length /\ g v (σ ++ os) H fun σ2 H2 => σ2 = σ ++ vs.map some /\ H2 = H
def un1 (v : V) (_ : Hp) (vs : List V) : Prop := vs = [v]
theorem tgt_one {x : Str} {px : Pos} (B : BlockOk X scope [x]) : Tgt X scope [x] (.Name x px) (gName X.N.length) un1 := by
 refine ⟨fun Xc c h => ?_, fun v H vs os σ hσ ho hv => ?_⟩
 ·exact pg_name (by rw [c.N]; exact B.nd) (by rw [c.N]; exact compN_last X.N [x] 0) (h x (by simp)).1 (h x (by simp)).2
 ·cases hv
  refine ⟨rfl, ?_, rfl⟩
  match os, ho with
  | [o], _ =>
   rw [<- hσ, List.set_append_right _ _ (Nat.le_refl _)]
   simp
def un2 (K : PySem.W.Frag) (v : V) (H : Hp) (vs : List V) : Prop := ∃ a, v = .ref a /\ SqT K H a vs /\ vs.length = 2
theorem tgt_two {x y : Str} {px py : Pos} {k : Nat} {pt : Pos} (hc : X.calm = true) (B : BlockOk X scope [x, y]) : Tgt X scope [x, y] (.Tuple [.Name x px, .Name y py] k pt) (gTup X.K 2 (gCons (gName X.N.length) (gCons (gName (X.N.length + 1)) gNil))) (un2 X.K) := by
 refine ⟨fun Xc c h => ?_, fun v H vs os σ hσ ho hv => ?_⟩
 ·have nd : Xc.N.Nodup := by rw [c.N]; exact B.nd
  rw [<- c.K]
  exact pg_tup c.calm (pgs_cons (pg_name nd (by rw [c.N]; exact compN_last X.N [x, y] 0) (h x (by simp)).1 (h x (by simp)).2) (pgs_cons (pg_name nd (by rw [c.N]; exact compN_last X.N [x, y] 1) (h y (by simp)).1 (h y (by simp)).2) pgs_nil))
 ·obtain ⟨a, e1, e2, e3⟩ := hv
  match vs, e3, os, ho with
  | [u, w], _, [o, p], _ =>
   refine ⟨rfl, a, [u, w], e1, e2, rfl, u, [w], rfl, w, [], rfl, rfl, ?_, rfl⟩
   rw [<- hσ, List.set_append_right _ _ (Nat.le_refl _), List.set_append_right _ _ (by omega)]
   simp
theorem pe_comp (B : BlockOk X scope xs) (hc : X.calm = true) (hT : Tgt X scope xs tg g un) (hi : PI X tg iter wi) (hbody : ∀ Xc, CompOf X scope xs Xc -> PTs Xc ifs tc /\ PE Xc elt te)
  (hs : ∀ v, foldedSetIterable iter X.env v = pure v := by intro _; rfl) : PE X (.ListComp elt [⟨tg, iter, ifs, 0⟩] scope pos) (tComp un wi tc te) := by
 intro pins s σ H Q I h
 rw [eval_ListComp]
 refine wpAny_comprehension_free (use := none) (cl := clOf X.env scope.names []) rfl hs (block_closure B I.ok) B.kind B.locs ?_
 refine thn (hi pins s σ H _ I h) fun xv s1 h1 => thn h1 fun itv s2 h2 => ?_
 obtain ⟨it, fp, tn, J, H2, e, I2, T, st2, f2, q2⟩ := h2
 subst e
 refine wpAny_newObj_type ?_
 have I3 := I2.lnew (its := []) (ys := []) (t' := s2.toks) .nil (Nat.zero_le _)
 obtain ⟨W, ⟨m0, w0⟩, turn⟩ := q2 s2.heap.objs.size (I2.hok.fresh (Nat.le_refl _))
 have fp3 : ∀ b ∈ fp, FpOk X pins (upd H2 s2.heap.objs.size (.lst [])) b := fun b hb => by
  obtain ⟨o, e, _⟩ := T.obj _ _ st2 b hb
  exact ⟨by rw [upd_ne (Nat.ne_of_lt (Heap.lt_size e))]; exact (f2 b hb).1, (f2 b hb).2⟩
 obtain ⟨b1, b2, b3⟩ := I3.below
 refine comp_block B hc hT.pg (fun v H vs os h1 h2 => hT.un v H vs os σ I.len h1 h2) hbody I3 T (T.keep _ _ _ st2 fun b _ o e => Heap.get?_push_of_some _ e) fp3 W m0 w0 fun i m ys H4 w => ?_
 rcases turn i m ys H4 w with ⟨stop, q⟩ | r
 ·exact .inl ⟨stop, fun s' m' C I' hn hC hCn => ⟨m', hn, fun h' hsb => ⟨.ref s2.heap.objs.size, H4, I'.aside hC b1 b2 b3 hCn hsb, rfl, q⟩⟩⟩
 ·exact .inr r
theorem ps_setComp {i : Nat} (B : BlockOk X scope xs) (hc : X.calm = true) (hT : Tgt X scope xs tg g un) (hi : PI X tg iter wi) (hbody : ∀ Xc, CompOf X scope xs Xc -> PTs Xc ifs tc /\ PE Xc elt te)
  (hN : X.N.Nodup) (hy : X.N[i]? = some y) (hx : Loc X.env.scope y) (hf : X.fn y = true \/ X.env.scope.names.lookup y = some .local)
  (hsw : swapsWith (.ListComp elt [⟨tg, iter, ifs, 0⟩] scope pos) (some (.Name y py)) spos.line X.env = pure true)
  (hs : ∀ v, foldedSetIterable iter X.env v = pure v := by intro _; rfl) : PS X (.Assign [.Name y py] (.ListComp elt [⟨tg, iter, ifs, 0⟩] scope pos) spos) (tAsg (tComp un wi tc te) (gName i)) := by
 intro pins s σ H D I h
 rw [exec_Assign_Name_used _ _ _ _ hsw]
 refine wpAny_bind (wpAny_standAt (wpAny_bind ?_))
 show wpAny _ X.A (do let _ <- comprehension (.ListComp elt [⟨tg, iter, ifs, 0⟩] scope pos) scope X.env _ (newList []) false (eval iter X.env) (some (assign (.Name y py) X.env))) _ _ s
 refine wpAny_bind (wpAny_mono (wpAny_comprehension_free (use := some (assign (.Name y py) X.env)) (cl := clOf X.env scope.names []) (Q := fun _ s' => SP X pins D .next s') rfl hs (block_closure B I.ok) B.kind B.locs ?_)
  (fun _ s' hq => wpAny_pure (wpAny_pure hq)) fun _ _ e => e)
 refine thn (hi pins s σ H _ I h) fun xv s1 h1 => thn h1 fun itv s2 h2 => ?_
 obtain ⟨it, fp, tn, J, H2, e, I2, T, st2, f2, q2⟩ := h2
 subst e
 refine wpAny_newObj_type ?_
 have I3 := I2.lnew (its := []) (ys := []) (t' := s2.toks) .nil (Nat.zero_le _)
 obtain ⟨W, ⟨m0, w0⟩, turn⟩ := q2 s2.heap.objs.size (I2.hok.fresh (Nat.le_refl _))
 have fp3 : ∀ b ∈ fp, FpOk X pins (upd H2 s2.heap.objs.size (.lst [])) b := fun b hb => by
  obtain ⟨o, e, _⟩ := T.obj _ _ st2 b hb
  exact ⟨by rw [upd_ne (Nat.ne_of_lt (Heap.lt_size e))]; exact (f2 b hb).1, (f2 b hb).2⟩
 obtain ⟨b1, b2, b3⟩ := I3.below
 refine comp_block B hc hT.pg (fun v H vs os h1 h2 => hT.un v H vs os σ I.len h1 h2) hbody I3 T (T.keep _ _ _ st2 fun b _ o e => Heap.get?_push_of_some _ e) fp3 W m0 w0 fun i' m ys H4 w => ?_
 rcases turn i' m ys H4 w with ⟨stop, q⟩ | r
 ·refine .inl ⟨stop, fun s' m' C I' hn hC hCn => ?_⟩
  refine wpAny_assign_Name (store_ok2 I' hN hy hx (v := .ref s2.heap.objs.size) rfl (fun s'' I'' ⟨a, sb, ha⟩ => ?_) hf)
  have hCa : C ≠ a := by
   rcases ha with rfl | ha
   ·exact Nat.ne_of_gt (Nat.lt_of_lt_of_le b1 hC)
   ·exact Nat.ne_of_gt (Nat.lt_of_lt_of_le (b2 _ _ ha) hC)
  exact ⟨m', hn.sameBut sb hCa, fun h' hsb => ⟨_, H4, I''.aside hC b1 b2 b3 hCn hsb, q⟩⟩
 ·exact .inr r
end
end L2
namespace L2
open PySem PySem.Spec PyProof.Rows
section
variable {X : Cx}
theorem Vals.at {xs : List V} {us : List Value} (h : Vals xs us) {i : Nat} {u : Value} (e : us[i]? = some u) : ∃ x, xs[i]? = some x /\ RelV x u := by
 have hl := h.length
 have hi := (List.getElem?_eq_some_iff.mp e).1
 have hx : xs[i]? = some xs[i] := List.getElem?_eq_getElem (by omega)
 obtain ⟨u', h1, h2⟩ := h.get hx
 rw [e] at h1; cases h1
 exact ⟨_, hx, h2⟩
theorem all_range (bs : List Bool) : (List.range bs.length).all (fun i => bs.getD i true) = bs.all id := by
 rw [Bool.eq_iff_iff, List.all_eq_true, List.all_eq_true]
 constructor
 ·intro h b hb
  obtain ⟨i, hi, e⟩ := List.getElem_of_mem hb
  have := h i (by simpa using hi)
  rw [List.getD_eq_getElem?_getD, List.getElem?_eq_getElem hi] at this
  simpa [e] using this
 ·intro h i hi
  have hi' : i < bs.length := by simpa using hi
  rw [List.getD_eq_getElem?_getD, List.getElem?_eq_getElem hi']
  exact h _ (List.getElem_mem hi')
theorem call_all_of (hc : X.calm = true) : CallR X (.builtin "all") (fun xs H Q => ∃ (p : Addr) (bs : List Bool), xs = [.ref p] /\ SqL X.K H p (bs.map V.bl) /\ Q (.bl (bs.all id)) H) := by
 intro pins s σ H xs us Q I r h
 obtain ⟨p, bs, rfl, hq, q⟩ := h
 obtain ⟨u, rfl, rx⟩ := vals1 r
 cases rx
 obtain ⟨its, r', pl, hz⟩ := I.list hq
 have hlen := r'.length
 have hp : ∃ o, s.heap.get? p = some o := by obtain ⟨o, ho, _⟩ := pl.isList; exact ⟨o, ho⟩
 obtain ⟨o, ho⟩ := hp
 have hlt := Heap.lt_size ho
 refine call_all_walk (wpAny_pyIter_list pl.isList ?_)
 refine ⟨s.heap.objs.size, _, _, _, _, _, fun i => bs.getD i true, rfl, Walks.list (A := X.A.in1) (I.ok.hd hc) s.heap.objs.size p (Nat.ne_of_lt hlt) its.toArray, ⟨⟨_, Heap.get?_push_size _ rfl, rfl, rfl⟩, pl.isList.at fun o e => Heap.get?_push_of_some _ e⟩, ?_, fun h' tk hk => ?_⟩
 ·intro i v s2 Q2 E2 hv hQ
  have hv' : its[i]? = some v := by simpa using hv
  obtain ⟨y, hy, ry⟩ := r'.at hv'
  rw [List.getElem?_map] at hy
  cases hb : bs[i]? with
  | none => rw [hb] at hy; cases hy
  | some b =>
   rw [hb] at hy; cases hy
   have : v = .bool b := ry
   subst this
   have e : bs.getD i true = b := by rw [List.getD_eq_getElem?_getD, hb]; rfl
   have hQ' : Q2 (bs.getD i true) s2 := hQ
   rw [e] at hQ'
   exact wpAny_truthy_bool hQ'
 ·have e : its.toArray.size = bs.length := by simp at hlen ⊢; omega
  rw [e, all_range]
  exact ⟨.bl (bs.all id), H, I.kept (t' := tk) fun b o e => hk b o (fun hb => by
   have : b = s.heap.objs.size := by simpa using hb
   exact absurd (Heap.lt_size e) (by rw [this]; exact Nat.lt_irrefl _)) (Heap.get?_push_of_some _ e), rfl, q⟩
theorem preSum_list (ns : List Int) : ∀ n, n <= ns.length -> preSum (fun i => ns.getD i 0) n = (ns.take n).sum
 | 0, _ => by simp [preSum]
 | n + 1, h => by
  have e : ns[n]? = some (ns.getD n 0) := by rw [List.getD_eq_getElem?_getD, List.getElem?_eq_getElem (by omega)]; rfl
  rw [preSum, preSum_list ns n (by omega), List.take_add_one, e, List.sum_append]
  simp
theorem call_sum_of (hc : X.calm = true) : CallR X (.builtin "sum") (fun xs H Q => ∃ (p : Addr) (ns : List Int), xs = [.ref p] /\ SqL X.K H p (ns.map V.int) /\ Q (.int ns.sum) H) := by
 intro pins s σ H xs us Q I r h
 obtain ⟨p, ns, rfl, hq, q⟩ := h
 obtain ⟨u, rfl, rx⟩ := vals1 r
 cases rx
 obtain ⟨its, r', pl, hz⟩ := I.list hq
 have hlen := r'.length
 have hp : ∃ o, s.heap.get? p = some o := by obtain ⟨o, ho, _⟩ := pl.isList; exact ⟨o, ho⟩
 obtain ⟨o, ho⟩ := hp
 have hlt := Heap.lt_size ho
 refine call_sum_walkG (wpAny_pyIter_list pl.isList ?_)
 refine ⟨s.heap.objs.size, _, _, _, _, _, fun i => ns.getD i 0, rfl, Walks.list (A := X.A.in1) (I.ok.hd hc) s.heap.objs.size p (Nat.ne_of_lt hlt) its.toArray, ⟨⟨_, Heap.get?_push_size _ rfl, rfl, rfl⟩, pl.isList.at fun o e => Heap.get?_push_of_some _ e⟩, ?_, ?_, fun h' tk t' hk => ?_⟩
 ·intro b hb
  have h1 : s.heap.objs.size < (s.heap.push { cls := .type "list_iterator", data := .fields #[.ref p, .int 0 0] }).objs.size := Heap.lt_size (Heap.get?_push_size _ rfl)
  have : b = s.heap.objs.size \/ b = p := by simpa using hb
  rcases this with rfl | rfl
  ·exact h1
  ·exact Nat.lt_trans hlt h1
 ·intro i v hv
  have hv' : its[i]? = some v := by simpa using hv
  obtain ⟨y, hy, ry⟩ := r'.at hv'
  rw [List.getElem?_map] at hy
  cases hb : ns[i]? with
  | none => rw [hb] at hy; cases hy
  | some b =>
   rw [hb] at hy; cases hy
   obtain ⟨t, rfl⟩ := (ry : ∃ t, v = .int b t)
   have e : ns.getD i 0 = b := by rw [List.getD_eq_getElem?_getD, hb]; rfl
   exact ⟨t, by show Value.int b t = Value.int (ns.getD i 0) t; rw [e]⟩
 ·have e : its.toArray.size = ns.length := by simp at hlen ⊢; omega
  rw [e, preSum_list ns ns.length (Nat.le_refl _), List.take_length]
  exact ⟨.int ns.sum, H, I.kept (t' := tk) fun b o e => hk b o (fun hb => by
   have : b = s.heap.objs.size := by simpa using hb
   exact absurd (Heap.lt_size e) (by rw [this]; exact Nat.lt_irrefl _)) (Heap.get?_push_of_some _ e), ⟨t', rfl⟩, q⟩
def Itrs (lo st : Int) (n : Nat) : It := ⟨fun i _ => i < n, fun i H x H' => H' = H /\ x = .int (lo + (i : Nat) * st), fun i _ => n <= i⟩
theorem turn_rangeS {P : Program} {w : World} {K : PySem.W.Frag} {tg : Expr} (it : Addr) (lo st : Int) (n : Nat) : Turn P w K tg (Itrs lo st n) [it] it (fun i h => IsRangeIter h it (lo + (i : Nat) * st) ((n : Int) - (i : Nat)) st) where
 mem := by simp
 obj := fun i h st b hb => by
  have e : b = it := by simpa using hb
  subst e
  exact ⟨_, st, fun v z => by
   have z' : Data.fields _ = Data.cell v := z
   cases z'⟩
 keep := fun i h h' st k => k it (by simp) _ st
 item := by
  intro X hP hw hK hc i pins s σ H E I hf st0 hg
  subst hP hw hK
  obtain ⟨f0, f1, f2, f3, f4, f5⟩ := hf it (by simp)
  have W := Walks.range (prog := X.prog) (w := X.w) (I.ok.hd hc) it lo st n
  refine W.item i s _ _ hg st0 fun v h' tk hv st' kk => ?_
  obtain ⟨t, rfl⟩ := hv
  have I1 : Inv X pins σ H { s with heap := h', toks := tk } := I.turned (fun b o hb e => kk b o (by simpa using hb) e) f0 f1 f3 f4 f5
  exact ⟨_, rfl, go_of (s := { s with heap := h', toks := tk }) (n := "range_iterator") st' rfl rfl (by decide) ⟨.int (lo + (i : Nat) * st), H, I1, ⟨t, rfl⟩, ⟨rfl, rfl⟩, st', fun b hb => (hf b hb).1⟩⟩
 done := by
  intro X hP hw hK hc i pins s σ H E I hf st0 hg
  subst hP hw hK
  obtain ⟨f0, f1, f2, f3, f4, f5⟩ := hf it (by simp)
  exact wpAny_pyNext_range_end (I.ok.hd hc) st0 (by have : n <= i := hg; omega) fun h' eb => ⟨rfl, I.turned (t' := s.toks) (fun b o hb e => eb b o hb e) f0 f1 f3 f4 f5⟩
 self := fun _ _ _ _ _ st h => wpAny_pyIter_rangeiter st h
theorem rangeSize_mone (a b : Int) : Builtin.Range.rangeSize a b (-1) = if b < a then a - b else 0 := by
 unfold Builtin.Range.rangeSize
 simp only [show ¬ ((-1 : Int) > 0) by decide, if_false]
 split <;> (simp; try omega)
theorem small_mone {a b : Int} (ha : -(2 ^ 62) <= a) (ha' : a < 2 ^ 62) (hb : -(2 ^ 62) <= b) (hb' : b < 2 ^ 62) : Builtin.Range.small a b (-1) = true := by
 unfold Builtin.Range.small
 rw [rangeSize_mone]
 simp only [Builtin.Range.rangeFitsLong, Bool.and_eq_true, Bool.or_eq_true, decide_eq_true_eq, beq_iff_eq, show ¬ ((-1 : Int) > 0) by decide, if_false]
 split <;> omega
def cntR (i j k : Int) : Nat := if k = 1 then (j - i).toNat else (i - j).toNat
theorem size_cnt {i j k : Int} (hk : k = 1 \/ k = -1) : Builtin.Range.rangeSize i j k = (cntR i j k : Int) := by
 rcases hk with rfl | rfl
 ·rw [rangeSize_one]; unfold cntR; rw [if_pos rfl]; split <;> omega
 ·have e : cntR i j (-1) = (i - j).toNat := if_neg (by decide)
  rw [rangeSize_mone, e]; split <;> omega
def iRng3 (ta : TA) : TI := fun σ H R => ta σ H fun vs H1 => ∃ i j k : Int, vs = [.int i, .int j, .int k] /\ (-(2 ^ 30) <= i /\ i < 2 ^ 30 /\ -(2 ^ 30) <= j /\ j < 2 ^ 30) /\ (k = 1 \/ k = -1) /\ R (Itrs i k (cntR i j k)) H1
theorem pi_range3 {tg a b c : Expr} {ta : TA} {p pos : Pos} (hg : Gl X "range") (hm : X.mg "range" = none) (ha : PA X [a, b, c] ta) (hs : starEach [a, b, c] X.env = [(false, eval a X.env), (false, eval b X.env), (false, eval c X.env)] := by rfl) (hs2 : starEach [b, c] X.env = [(false, eval b X.env), (false, eval c X.env)] := by rfl) :
  PI X tg (.Call (.Name "range" p) [a, b, c] [] pos) (iRng3 ta) := by
 intro pins s σ H R I h
 refine Call_ (ld_blt I hg hm boot_range (PyProof.Rows.callWith_type1 (thn (ha pos pins s σ H _ I h) fun us s1 ⟨vs, H1, I1, r1, q1⟩ => ?_) (by rw [hs, hs2]) (by rw [hs2]; rfl)))
 obtain ⟨i, j, k, e, ⟨q1, q2, q3, q4⟩, hk, q⟩ := q1
 subst e
 cases r1 with
 | cons r rr =>
  cases rr with
  | cons r' rr =>
   cases rr with
   | cons r'' rr =>
   cases rr
   obtain ⟨t, rfl⟩ := r
   obtain ⟨t', rfl⟩ := r'
   obtain ⟨t'', rfl⟩ := r''
   refine call_range_3 (by omega) ?_ (.inl (PyProof.noPylong_small (by omega)))
   refine wpAny_pyIter_range (IsRange.new ..) (by rcases hk with rfl | rfl; exact small_one (by omega) (by omega) (by omega) (by omega); exact small_mone (by omega) (by omega) (by omega) (by omega)) ?_
   have I2 : Inv X pins σ H1 { s1 with heap := s1.heap.push { cls := .type "range", data := .fields #[.int i t, .int j t', .int k t''] }, toks := s1.toks } := I1.kept fun b o e => Heap.get?_push_of_some _ e
   refine ⟨(s1.heap.push { cls := .type "range", data := .fields #[.int i t, .int j t', .int k t''] }).objs.size, [(s1.heap.push { cls := .type "range", data := .fields #[.int i t, .int j t', .int k t''] }).objs.size], _, _, H1, rfl,
    I2.kept (t' := s1.toks) fun b o e => Heap.get?_push_of_some _ e, turn_rangeS _ i k (cntR i j k), ?_, fun b hb => ?_, q⟩
   ·have e1 : i + ((0 : Nat) : Int) * k = i := by simp
    show IsRangeIter _ _ (i + ((0 : Nat) : Int) * k) (((cntR i j k : Nat) : Int) - ((0 : Nat) : Int)) k
    rw [e1, <- size_cnt hk, show (Builtin.Range.rangeSize i j k) - ((0 : Nat) : Int) = Builtin.Range.rangeSize i j k by simp]
    exact Heap.get?_push_size _ rfl
   ·have e : b = (s1.heap.push { cls := .type "range", data := .fields #[.int i t, .int j t', .int k t''] }).objs.size := by simpa using hb
    subst e
    exact I2.fpOk (Nat.le_refl _) (I2.hok.fresh (Nat.le_refl _))
def tLrng (ta : TA) : TE := fun σ H Q => ta σ H fun vs H1 => ∃ j : Int, vs = [.int j] /\ -(2 ^ 30) <= j /\ j < 2 ^ 24 /\ j.toNat <= sizeLine /\ ∀ l, H1 l = none -> Q (.ref l) (upd H1 l (.lst ((List.range j.toNat).map fun (i : Nat) => V.int ((0 : Int) + 1 * (i : Int)))))
theorem pe_lrng {a : Expr} {ta : TA} {p p' pos pos' : Pos} (hc : X.calm = true) (hgl : Gl X "list") (hml : X.mg "list" = none) (hg : Gl X "range") (hm : X.mg "range" = none) (ha : PA X [a] ta) (hs : starEach [a] X.env = [(false, eval a X.env)] := by rfl) :
  PE X (.Call (.Name "list" p) [.Call (.Name "range" p') [a] [] pos'] [] pos) (tLrng ta) := by
 intro pins s σ H Q I h
 refine wpAny_Call_Name_kw (ld_blt I hgl hml PyProof.Rows.boot_list ?_ (by decide) (by decide))
 refine PyProof.Rows.callWith_type1 ?_ rfl rfl
 refine Calls.spliced_cons ?_
 refine Call_ (ld_blt I hg hm boot_range (PyProof.Rows.callWith_type1 (thn (ha pos' pins s σ H _ I h) fun us s1 ⟨vs, H1, I1, r1, q1⟩ => ?_) hs rfl))
 obtain ⟨j, e, q1, q2, q3, q⟩ := q1
 subst e
 cases r1 with
 | cons r rr =>
  cases rr
  obtain ⟨t, rfl⟩ := r
  refine call_range_1 (Calls.spliced_nil ?_)
  have hn : Builtin.Range.rangeSize 0 j 1 = (j.toNat : Int) := by rw [rangeSize_one]; split <;> omega
  refine call_list_range (n := j.toNat) (I1.ok.hd hc) (IsRange.new ..) (small_one (by omega) (by omega) (by omega) (by omega)) hn (by omega) fun h' tk acc' c' kp e hacc => ?_
  have I2 : Inv X pins σ H1 { s1 with heap := s1.heap.push { cls := .type "range", data := .fields #[.int 0 s1.toks, .int j t, .int 1 (s1.toks + 1)] }, toks := s1.toks + 1 + 1 } := I1.kept fun b o e => Heap.get?_push_of_some _ e
  have hv : Vals ((List.range j.toNat).map fun (i : Nat) => V.int ((0 : Int) + 1 * (i : Int))) acc'.toList := by
   have gen : ∀ (us : List Value) (n : Nat), us.length = n -> ∀ m : Nat, (∀ i v, us[i]? = some v -> ∃ t, v = Value.int ((0 : Int) + ((m + i : Nat) : Int) * 1) t) -> Vals ((List.range' m n).map fun (i : Nat) => V.int ((0 : Int) + 1 * (i : Int))) us := by
    intro us
    induction us with
    | nil => intro n hn m _; simp at hn; subst hn; exact .nil
    | cons u us ih =>
     intro n hn m hu
     cases n with
     | zero => simp at hn
     | succ n =>
      rw [List.range'_succ, List.map_cons]
      obtain ⟨t, rfl⟩ := hu 0 u rfl
      refine .cons ⟨t, ?_⟩ (ih n (by simpa using hn) (m + 1) fun i v hv => ?_)
      ·congr 1; simp
      ·obtain ⟨t, e⟩ := hu (i + 1) v (by simpa using hv)
       exact ⟨t, by rw [e]; congr 2; congr 1; omega⟩
   have := gen acc'.toList j.toNat (by rw [Array.length_toList]; exact hacc.1) 0 (fun i v hv => by
    obtain ⟨t, e⟩ := hacc.2 i v (by simpa using hv)
    exact ⟨t, by rw [e]; simp⟩)
   rw [<- List.range_eq_range'] at this
   exact this
  refine ⟨.ref _, _, I2.laid (t' := tk) kp (Nat.le_refl _) (show ObjOk X.prog X.w _ h' _ (.lst ((List.range j.toNat).map fun (i : Nat) => V.int ((0 : Int) + 1 * (i : Int)))) from ⟨by simpa using q3, acc'.toList, c', hv, by simpa using e⟩), rfl, q _ (I2.hok.fresh (Nat.le_refl _))⟩
end
end L2
namespace L2
open PySem PySem.Spec PyProof.Rows
section
variable {X : Cx} {pins : List (Addr × Obj)} {σ : St} {H : Hp} {s : Shared} {h' : Heap}
theorem Inv.turnedT {t' : Nat} {ch : List Addr} {T : Addr} {xs : List V} {its : List Value} (I : Inv X pins σ H s) (hf : ∀ b ∈ ch, FpOk X pins H b) (k : ∀ b o, b ∉ ch -> s.heap.get? b = some o -> h'.get? b = some o)
  (hT : s.heap.objs.size <= T) (hz : xs.length <= sizeLine) (hv : Vals xs its) (ht : IsTup h' T its.toArray) : Inv X pins σ (upd H T (.tup xs)) { s with heap := h', toks := t' } := by
 have hn : H T = none := I.hok.fresh hT
 have nit : ∀ b u, H b = some u -> b ∉ ch := fun b u e z => by rw [(hf b z).1] at e; cases e
 have up : ∀ b u, H b = some u -> upd H T (.tup xs) b = some u := fun b u e => by rw [upd_ne (ne_of_none e hn)]; exact e
 refine I.step (g' := s.gens) (d' := s.drawn) (ch := ch) (fun b hb => ?_) (fun b o _ _ hc e _ => k b o hc e) (fun b o _ _ hc e _ => ⟨o.slots, k b o hc e⟩) (fun b o hc e n => ?_)
  (fun b o hc e => ⟨o, k b o hc e⟩) (fun b _ e => up b _ e) (fun b _ _ e => up b _ e) (fun b ps e => ⟨#[], by rw [up b _ e]; simp⟩) (fun m hm => ?_) (fun b u e => ?_) I.bare
 ·obtain ⟨f0, f1, f2, f3, f4, f5⟩ := hf b hb
  exact ⟨f3, f1, f4, f5⟩
 ·rw [upd_ne (Nat.ne_of_lt (Nat.lt_of_lt_of_le (Heap.lt_size e) hT))]; exact n
 ·obtain ⟨o, es, ep, ho, r⟩ := hm
  exact ⟨o, es, ep, k _ o (fun z => (hf _ z).2.1 rfl) ho, r⟩
 ·by_cases hb : b = T
  ·subst hb
   rw [upd_same] at e; cases e
   exact ⟨hz, its, hv, ht⟩
  ·rw [upd_ne hb] at e
   refine (I.hok b u e).stay (fun c v hc q => k c v ?_ q) (fun c q => up c _ q) fun c _ q => up c _ q
   rcases hc with z | z
   ·rw [z]; exact nit b u e
   ·exact nit c _ z
theorem Inv.turnedL {t' : Nat} {ch : List Addr} (I : Inv X pins σ H s) (hf : ∀ b ∈ ch, FpOk X pins H b) (k : ∀ b o, b ∉ ch -> s.heap.get? b = some o -> h'.get? b = some o) : Inv X pins σ H { s with heap := h', toks := t' } := by
 have nit : ∀ b u, H b = some u -> b ∉ ch := fun b u e z => by rw [(hf b z).1] at e; cases e
 refine I.step (g' := s.gens) (d' := s.drawn) (ch := ch) (fun b hb => ?_) (fun b o _ _ hc e _ => k b o hc e) (fun b o _ _ hc e _ => ⟨o.slots, k b o hc e⟩) (fun b o hc e n => n)
  (fun b o hc e => ⟨o, k b o hc e⟩) (fun b _ e => e) (fun b _ _ e => e) (fun b ps e => ⟨#[], by rw [e]; simp⟩) (fun m hm => ?_) (fun b u e => ?_) I.bare
 ·obtain ⟨f0, f1, f2, f3, f4, f5⟩ := hf b hb
  exact ⟨f3, f1, f4, f5⟩
 ·obtain ⟨o, es, ep, ho, r⟩ := hm
  exact ⟨o, es, ep, k _ o (fun z => (hf _ z).2.1 rfl) ho, r⟩
 ·refine (I.hok b u e).stay (fun c v hc q => k c v ?_ q) (fun c q => q) fun c _ q => q
  rcases hc with z | z
  ·rw [z]; exact nit b u e
  ·exact nit c _ z
end
def Yp (H : Hp) (v : V) (H' : Hp) (x y : V) : Prop := ∃ T, H T = none /\ v = .ref T /\ H' = upd H T (.tup [x, y])
def Itz (K : PySem.W.Frag) (l1 l2 : Addr) : It :=
 ⟨fun i H => ∃ xs ys x y, SqL K H l1 xs /\ SqL K H l2 ys /\ xs[i]? = some x /\ ys[i]? = some y,
  fun i H v H' => ∃ x y, Yp H v H' x y /\ (∀ xs, SqL K H l1 xs -> xs[i]? = some x) /\ ∀ ys, SqL K H l2 ys -> ys[i]? = some y,
  fun i H => ∃ xs ys, SqL K H l1 xs /\ SqL K H l2 ys /\ (xs.length <= i \/ ys.length <= i)⟩
def Ite (K : PySem.W.Frag) (c : Nat) (l : Addr) : It :=
 ⟨fun i H => ∃ xs x, SqL K H l xs /\ xs[i]? = some x,
  fun i H v H' => ∃ x, Yp H v H' (.int ((i + c : Nat) : Int)) x /\ ∀ xs, SqL K H l xs -> xs[i]? = some x,
  fun i H => ∃ xs, SqL K H l xs /\ xs.length <= i⟩
theorem drawsFrom {prog : Program} {w : World} {A : Around} (hh : A.handled = none) (it l : Addr) (hne : l ≠ it) (items : Array Value) (c : Nat) :
  Draws prog w A it [it, l] (items.size + c) (fun i x => ∃ j, i = j + c /\ items[j]? = some x) (fun i h => ∃ j, i = j + c /\ h.IsListIter it l j /\ h.IsList l items) := by
 have D := Draws.list (prog := prog) (w := w) hh it l hne items
 refine ⟨fun i h st => ?_, fun i h h' st k => ?_, fun i s Q E hi st hQ => ?_, fun s Q E st hE => ?_⟩
 ·obtain ⟨j, _, h1, h2⟩ := st
  exact D.live j h ⟨h1, h2⟩
 ·obtain ⟨j, e, h1, h2⟩ := st
  obtain ⟨q1, q2⟩ := D.frame j h h' ⟨h1, h2⟩ k
  exact ⟨j, e, q1, q2⟩
 ·obtain ⟨j, rfl, h1, h2⟩ := st
  refine D.item j s Q E (by omega) ⟨h1, h2⟩ fun x h' tk p q sb => hQ x h' tk ⟨j, rfl, p⟩ ⟨j + 1, by omega, q.1, q.2⟩ sb
 ·obtain ⟨j, e, h1, h2⟩ := st
  have e' : j = items.size := by omega
  subst e'
  exact D.done s Q E ⟨h1, h2⟩ hE
theorem drawsEnd {prog : Program} {w : World} {A : Around} (hh : A.handled = none) (it l : Addr) (items : Array Value) {i : Nat} (hi : items[i]? = none) :
  Draws prog w A it [it, l] 0 (fun _ _ => True) (fun k h => k = 0 /\ h.IsListIter it l i /\ h.IsList l items) := by
 refine ⟨fun k h st => ?_, fun k h h' st q => ?_, fun k s Q E hk st hQ => absurd hk (Nat.not_lt_zero _), fun s Q E st hE => ?_⟩
 ·obtain ⟨o, ho, _⟩ := st.2.1
  exact ⟨o, ho⟩
 ·exact ⟨st.1, st.2.1.at fun o e => q it (by simp) o e, st.2.2.at fun o e => q l (by simp) o e⟩
 ·exact wpAny_nextOf_list_end hh st.2.1 st.2.2 hi hE
theorem turn_zip {P : Program} {w : World} {K : PySem.W.Frag} {elts : List Expr} {k : Nat} {pt : Pos} (z TI TO i1 i2 l1 l2 : Addr) (D : ZipApart z TI TO i1 i2 l1 l2) :
  Turn P w K (.Tuple elts k pt) (Itz K l1 l2) [z, TI, TO, i1, i2] z (fun i h => IsZip h z TI TO .none /\ IsPair h TI (.ref i1) (.ref i2) /\ (∃ a b, IsPair h TO a b) /\ h.IsListIter i1 l1 i /\ h.IsListIter i2 l2 i) where
 mem := by simp
 obj := fun i h st b hb => by
  obtain ⟨hz, hTI, ⟨a, c, hTO⟩, ⟨o1, e1, c1, d1⟩, o2, e2, c2, d2⟩ := st
  simp only [List.mem_cons, List.not_mem_nil, or_false] at hb
  rcases hb with rfl | rfl | rfl | rfl | rfl
  ·exact ⟨_, hz, fun v z => by cases z⟩
  ·exact ⟨_, hTI, fun v z => by cases z⟩
  ·exact ⟨_, hTO, fun v z => by cases z⟩
  ·exact ⟨_, e1, fun v z => by rw [d1] at z; cases z⟩
  ·exact ⟨_, e2, fun v z => by rw [d2] at z; cases z⟩
 keep := fun i h h' st k => by
  obtain ⟨hz, hTI, ⟨a, c, hTO⟩, h1, h2⟩ := st
  exact ⟨k z (by simp) _ hz, k TI (by simp) _ hTI, ⟨a, c, k TO (by simp) _ hTO⟩, h1.at fun o e => k i1 (by simp) o e, h2.at fun o e => k i2 (by simp) o e⟩
 item := by
  intro X hP hw hK hc i pins s σ H E I hf st hg
  subst hP hw hK
  obtain ⟨xs, ys, x, y, hq1, hq2, hx, hy⟩ := hg
  obtain ⟨its1, rv1, p1, _⟩ := I.list hq1
  obtain ⟨its2, rv2, p2, _⟩ := I.list hq2
  obtain ⟨u, hu, ru⟩ := rv1.get hx
  obtain ⟨v, hv, rv⟩ := rv2.get hy
  obtain ⟨hz, hTI, ⟨a, b, hTO⟩, h1, h2⟩ := st
  refine wpAny_pyNext_zip_item D hz hTI hTO h1 h2 p1.isList p2.isList (x := u) (y := v) (by simpa using hu) (by simpa using hv) fun h' a1 a2 a3 a4 a5 a6 hk => ?_
  refine ⟨_, rfl, wpAny_letOwnedTupleGo_zip (s := { s with heap := h' }) a1 fun h'' hz' hs' => ?_⟩
  have sT : z < s.heap.objs.size := Heap.lt_size hz
  have kk : ∀ b o, b ∉ [z, TI, TO, i1, i2] -> s.heap.get? b = some o -> h''.get? b = some o := fun b o hb e =>
   (hs'.2 b fun q => hb (by simp [q])).trans (hk b o (fun q => hb (by simp [q])) (fun q => hb (by simp [q])) (fun q => hb (by simp [q])) (fun q => hb (by simp [q])) e)
  refine ⟨.ref s.heap.objs.size, upd H s.heap.objs.size (.tup [x, y]), ?_, rfl, ⟨x, y, ⟨_, I.hok.fresh (Nat.le_refl _), rfl, rfl⟩, fun zs hz => by rw [I.list_inj hz hq1]; exact hx, fun zs hz => by rw [I.list_inj hz hq2]; exact hy⟩, ?_, ?_⟩
  ·have I1 : Inv X pins σ (upd H s.heap.objs.size (.tup [x, y])) { s with heap := h'', toks := s.toks } := Inv.turnedT (s := s) (its := [u, v]) I hf kk (Nat.le_refl _) (show (2 : Nat) <= sizeLine by decide) (.cons ru (.cons rv .nil)) ⟨_, (hs'.2 _ (Nat.ne_of_gt sT)).trans a5, rfl, _, rfl⟩
   exact I1
  ·refine ⟨hz', ?_, ⟨u, v, ?_⟩, ?_, ?_⟩
   ·exact (hs'.2 TI D.TIz).trans (hk TI _ D.TIz D.TITO D.TIi1 D.TIi2 hTI)
   ·exact (hs'.2 TO D.TOz).trans a2
   ·exact a3.at fun o e => (hs'.2 i1 D.i1z).trans e
   ·exact a4.at fun o e => (hs'.2 i2 D.i2z).trans e
  ·intro b hb
   have hlt : b < s.heap.objs.size := by
    simp only [List.mem_cons, List.not_mem_nil, or_false] at hb
    obtain ⟨_, e1, _⟩ := h1
    obtain ⟨_, e2, _⟩ := h2
    rcases hb with rfl | rfl | rfl | rfl | rfl
    ·exact sT
    ·exact Heap.lt_size hTI
    ·exact Heap.lt_size hTO
    ·exact Heap.lt_size e1
    ·exact Heap.lt_size e2
   rw [upd_ne (Nat.ne_of_lt hlt)]
   exact (hf b hb).1
 done := by
  intro X hP hw hK hc i pins s σ H E I hf st hg
  subst hP hw hK
  obtain ⟨xs, ys, hq1, hq2, hx⟩ := hg
  obtain ⟨its1, rv1, p1, _⟩ := I.list hq1
  obtain ⟨its2, rv2, p2, _⟩ := I.list hq2
  obtain ⟨hz, hTI, ⟨a, b, hTO⟩, h1, h2⟩ := st
  have l1 := rv1.length
  have l2 := rv2.length
  refine wpAny_pyNext_zip_end (I.ok.hd hc) D hz hTI hTO h1 h2 p1.isList p2.isList ?_ fun h' hk => ⟨rfl, ?_⟩
  ·rcases hx with hx | hx
   ·exact .inl (by simp; omega)
   ·exact .inr (by simp; omega)
  ·exact I.turnedL (t' := s.toks) hf fun b o hb e => hk b o (fun q => hb (by simp [q])) (fun q => hb (by simp [q])) (fun q => hb (by simp [q])) (fun q => hb (by simp [q])) e
 self := fun _ _ _ _ _ st h => wpAny_pyIter_zip st.1 h
theorem turn_enum {P : Program} {w : World} {K : PySem.W.Frag} {elts : List Expr} {k : Nat} {pt : Pos} (c : Nat) (e it l : Addr) (hei : e ≠ it) (hle : l ≠ e) (hli : l ≠ it) :
  Turn P w K (.Tuple elts k pt) (Ite K c l) [e, it] e (fun i h => (∃ old, IsEnum h e it ((i + c : Nat) : Int) old) /\ h.IsListIter it l i) where
 mem := by simp
 obj := fun i h st b hb => by
  obtain ⟨⟨old, he⟩, o1, e1, c1, d1⟩ := st
  simp only [List.mem_cons, List.not_mem_nil, or_false] at hb
  rcases hb with rfl | rfl
  ·exact ⟨_, he, fun v z => by cases z⟩
  ·exact ⟨_, e1, fun v z => by rw [d1] at z; cases z⟩
 keep := fun i h h' st k => by
  obtain ⟨⟨old, he⟩, h1⟩ := st
  exact ⟨⟨old, k e (by simp) _ he⟩, h1.at fun o q => k it (by simp) o q⟩
 item := by
  intro X hP hw hK hc i pins s σ H E I hf st hg
  subst hP hw hK
  obtain ⟨xs, x, hq1, hx⟩ := hg
  obtain ⟨its1, rv1, p1, _⟩ := I.list hq1
  obtain ⟨u, hu, ru⟩ := rv1.get hx
  obtain ⟨⟨old, he⟩, h1⟩ := st
  have hil : i < its1.length := (List.getElem?_eq_some_iff.mp hu).1
  have D := drawsFrom (prog := X.prog) (w := X.w) (A := X.A.in1) (I.ok.hd hc) it l hli its1.toArray c
  refine wpAny_pyNext_enum_itemD D he ⟨i, rfl, h1, p1.isList⟩ (by simp; omega) hei (by simp [hei, Ne.symm hle]) fun x' h' tk px a1 st' a3 a4 hk => ?_
  obtain ⟨j, ej, hj⟩ := px
  have ej' : i = j := by omega
  subst ej'
  have hxu : x' = u := by
   have : its1[i]? = some x' := by simpa using hj
   rw [hu] at this; cases this; rfl
  subst hxu
  obtain ⟨j', ej', a2, _⟩ := st'
  have e2 : j' = i + 1 := by omega
  subst e2
  refine ⟨_, rfl, wpAny_letOwnedTupleGo_enum (s := { s with heap := h', toks := tk + 1 }) a1 fun h'' he' hs' => ?_⟩
  have sT : e < s.heap.objs.size := Heap.lt_size he
  have kk : ∀ b o, b ∉ [e, it] -> s.heap.get? b = some o -> h''.get? b = some o := fun b o hb q =>
   (hs'.2 b fun z => hb (by simp [z])).trans (hk b o (fun z => hb (by simp [z])) (fun z => hb (by simp [z])) q)
  refine ⟨.ref s.heap.objs.size, upd H s.heap.objs.size (.tup [.int ((i + c : Nat) : Int), x]), ?_, rfl, ⟨x, ⟨_, I.hok.fresh (Nat.le_refl _), rfl, rfl⟩, fun zs hz => by rw [I.list_inj hz hq1]; exact hx⟩, ?_, ?_⟩
  ·have I1 : Inv X pins σ (upd H s.heap.objs.size (.tup [.int ((i + c : Nat) : Int), x])) { s with heap := h'', toks := tk + 1 } := Inv.turnedT (s := s) (its := [.int ((i + c : Nat) : Int) tk, x']) I hf kk (Nat.le_refl _) (show (2 : Nat) <= sizeLine by decide) (.cons ⟨_, rfl⟩ (.cons ru .nil)) ⟨_, (hs'.2 _ (Nat.ne_of_gt sT)).trans a3, rfl, _, rfl⟩
   exact I1
  ·refine ⟨⟨x', ?_⟩, a2.at fun o q => (hs'.2 it hei.symm).trans q⟩
   have : ((i + 1 + c : Nat) : Int) = ((i + c : Nat) : Int) + 1 := by omega
   rw [this]
   exact he'
  ·intro b hb
   have hlt : b < s.heap.objs.size := by
    simp only [List.mem_cons, List.not_mem_nil, or_false] at hb
    obtain ⟨_, e1, _⟩ := h1
    rcases hb with rfl | rfl
    ·exact sT
    ·exact Heap.lt_size e1
   rw [upd_ne (Nat.ne_of_lt hlt)]
   exact (hf b hb).1
 done := by
  intro X hP hw hK hc i pins s σ H E I hf st hg
  subst hP hw hK
  obtain ⟨xs, hq1, hx⟩ := hg
  obtain ⟨its1, rv1, p1, _⟩ := I.list hq1
  obtain ⟨⟨old, he⟩, h1⟩ := st
  have l1 := rv1.length
  have D := drawsEnd (prog := X.prog) (w := X.w) (A := X.A.in1) (I.ok.hd hc) it l its1.toArray (i := i) (by simp; omega)
  refine wpAny_pyNext_enum_endD D he ⟨rfl, h1, p1.isList⟩ fun h' hk => ⟨rfl, ?_⟩
  exact I.turnedL (t' := s.toks) hf fun b o hb q => hk b o (fun z => hb (by simp [z])) q
 self := fun _ _ _ _ _ st h => by
  obtain ⟨⟨old, he⟩, _⟩ := st
  exact wpAny_pyIter_enum he h
section
variable {X : Cx} {elts : List Expr} {k : Nat} {pt : Pos}
def iZip (K : PySem.W.Frag) (ta : TA) : TI := fun σ H R => ta σ H fun vs H1 => ∃ l1 l2 xs ys, vs = [.ref l1, .ref l2] /\ SqL K H1 l1 xs /\ SqL K H1 l2 ys /\ R (Itz K l1 l2) H1
def iEnum (K : PySem.W.Frag) (c : Nat) (ta : TA) : TI := fun σ H R => ta σ H fun vs H1 => ∃ l xs, vs = [.ref l] /\ SqL K H1 l xs /\ R (Ite K c l) H1
theorem pi_zip {a b : Expr} {ta : TA} {p pos : Pos} (hg : Gl X "zip") (hm : X.mg "zip" = none) (ha : PA X [a, b] ta) (hs : starEach [a, b] X.env = [(false, eval a X.env), (false, eval b X.env)] := by rfl) (hs2 : starEach [b] X.env = [(false, eval b X.env)] := by rfl) :
  PI X (.Tuple elts k pt) (.Call (.Name "zip" p) [a, b] [] pos) (iZip X.K ta) := by
 intro pins s σ H R I h
 refine Call_ (ld_blt I hg hm PyProof.Rows.boot_zip (PyProof.Rows.callWith_type1 (thn (ha pos pins s σ H _ I h) fun us s1 ⟨vs, H1, I1, r1, q1⟩ => ?_) (by rw [hs, hs2]) (by rw [hs2]; rfl)))
 obtain ⟨l1, l2, xs, ys, e, g1, g2, q⟩ := q1
 subst e
 cases r1 with
 | cons r rr =>
  cases rr with
  | cons r' rr =>
   cases rr
   cases r
   cases r'
   obtain ⟨its1, rv1, p1, _⟩ := I1.list g1
   obtain ⟨its2, rv2, p2, _⟩ := I1.list g2
   have t1 : l1 < s1.heap.objs.size := by obtain ⟨o, e, _⟩ := p1.isList; exact Heap.lt_size e
   have t2 : l2 < s1.heap.objs.size := by obtain ⟨o, e, _⟩ := p2.isList; exact Heap.lt_size e
   refine call_zip_2 p1.isList p2.isList fun h' hz hTI hTO hi1 hi2 hsz hk => ?_
   refine wpAny_pyIter_zip (s := { s1 with heap := h' }) hz ?_
   refine ⟨_, _, _, _, H1, rfl, I1.kept (t' := s1.toks) hk, turn_zip (s1.heap.objs.size + 4) (s1.heap.objs.size + 2) (s1.heap.objs.size + 3) s1.heap.objs.size (s1.heap.objs.size + 1) l1 l2 ?_, ⟨hz, hTI, ⟨_, _, hTO⟩, hi1, hi2⟩, fun b hb => ?_, q⟩
   ·exact zipApart_new t1 t2
   ·have hb' : s1.heap.objs.size <= b := by
     simp only [List.mem_cons, List.not_mem_nil, or_false] at hb
     rcases hb with rfl | rfl | rfl | rfl | rfl
     ·exact Nat.le_add_right _ _
     ·exact Nat.le_add_right _ _
     ·exact Nat.le_add_right _ _
     ·exact Nat.le_refl _
     ·exact Nat.le_add_right _ _
    exact I1.fpOk hb' (I1.hok.fresh hb')
theorem pi_enum {a : Expr} {ta : TA} {p pos : Pos} (hg : Gl X "enumerate") (hm : X.mg "enumerate" = none) (ha : PA X [a] ta) (hs : starEach [a] X.env = [(false, eval a X.env)] := by rfl) :
  PI X (.Tuple elts k pt) (.Call (.Name "enumerate" p) [a] [] pos) (iEnum X.K 0 ta) := by
 intro pins s σ H R I h
 refine Call_ (ld_blt I hg hm PyProof.Rows.boot_enumerate (PyProof.Rows.callWith_type1 (thn (ha pos pins s σ H _ I h) fun us s1 ⟨vs, H1, I1, r1, q1⟩ => ?_) hs rfl))
 obtain ⟨l, xs, e, g1, q⟩ := q1
 subst e
 cases r1 with
 | cons r rr =>
  cases rr
  cases r
  obtain ⟨its1, rv1, p1, _⟩ := I1.list g1
  have t1 : l < s1.heap.objs.size := by obtain ⟨o, e, _⟩ := p1.isList; exact Heap.lt_size e
  refine call_enumerate_list p1.isList fun h' he hi hsz hk => ?_
  refine wpAny_pyIter_enum (s := { s1 with heap := h' }) he ?_
  refine ⟨_, _, _, _, H1, rfl, I1.kept (t' := s1.toks) hk, turn_enum 0 (s1.heap.objs.size + 1) s1.heap.objs.size l (Nat.succ_ne_self _) (Nat.ne_of_lt (Nat.lt_succ_of_lt t1)) (Nat.ne_of_lt t1), ⟨⟨_, he⟩, hi⟩, fun b hb => ?_, q⟩
  have hb' : s1.heap.objs.size <= b := by
   simp only [List.mem_cons, List.not_mem_nil, or_false] at hb
   rcases hb with rfl | rfl
   ·exact Nat.le_add_right _ _
   ·exact Nat.le_refl _
  exact I1.fpOk hb' (I1.hok.fresh hb')
end
end L2
namespace L2
open PySem PySem.Spec PyProof.Rows
open AutoSeq1 (wpAny_loadPart')
section
set_option maxHeartbeats 1000000 in
theorem meets_enumK (l : Addr) (items : Array Value) (n : Nat) (dct : Option Addr) (sl : Array (Option Value)) (t : Tok) :
  Meets (Builtin.«enumerate.__new__» ⟨[.type "enumerate", .ref l], [("start", .int 1 t)]⟩) (fun _ R s => s.heap.get? l = some { cls := .type "list", dict := dct, data := .seq items n, slots := sl } /\
   R (.ok (.ret (.ref (s.heap.push { cls := .type "list_iterator", data := .fields #[.ref l, .int 0 0] }).objs.size)))
    { s with heap := (s.heap.push { cls := .type "list_iterator", data := .fields #[.ref l, .int 0 0] }).push { cls := .type "enumerate", data := .fields #[.none, .bool false, .ref s.heap.objs.size, rawInt 1, .none, .none] } }) :=
 .of_wp fun prog w A R s h => by
  obtain ⟨hp, g, d, tk, os⟩ := s; obtain ⟨hl, h⟩ := h
  have hsub := sub_enumerate
  have hL : Heap.IsList (Shared.heap ⟨hp, g, d, tk, os⟩) l items := ⟨_, hl, rfl, n, rfl⟩
  wp_walk using wpAny_loadPart' hl
  refine wpAny_stack_any fun st => wpAny_pure ?_
  split
  ·rename_i c _ _ _ _ _
   cases (c == Value.type "enumerate") <;> (wp_walk using wpAny_loadPart' hl, wpAny_pyIter_list hL; exact ⟨_, rfl, h⟩)
  ·wp_walk using wpAny_loadPart' hl, wpAny_pyIter_list hL
   exact ⟨_, rfl, h⟩
variable {prog : Program} {w : World} {A : Around} {E : Value -> Shared -> Prop} {s : Shared}
theorem initK {self : Value} {rest : List Value} {kw : List (Str × Value)} (hr : rest ≠ []) :
  Meets (Builtin.«object.__init__» ⟨self :: rest, kw⟩) (fun _ R s => s.TypeIs self "enumerate" /\ R (.ok (.ret .none)) s) := by
 have hl := (F.called_enumerate).init.lookup
 have hm := (F.called_enumerate).made
 have hne : (some "enumerate.__new__" != some "object.__new__") = true := by decide
 refine Meets.of_wp fun prog w A R s ⟨hT, hq⟩ => ?_
 cases rest with
 | nil => exact absurd rfl hr
 | cons a rest =>
  repeat (any_goals (first | assumption | wp_step))
  exact ⟨_, rfl, hq⟩
theorem typeCallK (a b : Value) : checkTypeCall "enumerate" ⟨[a], [("start", b)]⟩ = pure () := by kernel_rfl
theorem newCallK (a b : Value) : checkBuiltinCall "enumerate.__new__" ⟨[.type "enumerate", a], [("start", b)]⟩ = pure () := by kernel_rfl
theorem argsK (o a b : Value) : argsOk "object.__init__" ⟨[o, a], [("start", b)]⟩ := by
 have sg := signature?_of (id := "object.__init__") (n := "__init__".toList.reverse) (o := "object".toList.reverse) (by kernel_rfl) F.owner_object
 unfold argsOk
 rw [sg]
 kernel_rfl
theorem call_enumK {l : Addr} {items : Array Value} {t : Tok} {Q : Value -> Shared -> Prop} (hL : s.heap.IsList l items)
  (h : ∀ h', IsEnum h' (s.heap.objs.size + 1) s.heap.objs.size 1 .none -> h'.IsListIter s.heap.objs.size l 0 -> (∀ b o, s.heap.get? b = some o -> h'.get? b = some o) -> Q (.ref (s.heap.objs.size + 1)) { s with heap := h' }) :
  wpAny (model prog w) A (call (.type "enumerate") [.ref l] [("start", .int 1 t)]) Q E s := by
 obtain ⟨⟨c0, dct, dt, sl⟩, hl, hc, n, hd⟩ := hL
 obtain rfl : c0 = .type "list" := hc
 obtain rfl : dt = .seq items n := hd
 have ft := F.called_enumerate
 obtain ⟨m0, tl, hmro⟩ := ft.mro
 have k1 := ft.made
 have k2 := ft.sub
 have k3 := ft.notType
 have k4 := ft.canCreate
 have kc := typeCallK (.ref l) (.int 1 t)
 apply wpAny_call
 apply codeAny_of_tree
 show wpAny _ _ (callAny (.type "enumerate") _) _ _ _
 apply wpAny_pure
 refine ⟨Code.quiet_builtin _ (by decide +kernel), ?_⟩
 apply codeAny_builtin F.entry_type_call
 rw [Around.under_plain (weight_type_call_type _ _ _) (units_type_call_type _ _ _)]
 repeat (any_goals (first | assumption | wp_step))
 let Q1 : Value -> Shared -> Prop := fun v s1 => v = .ref (s.heap.objs.size + 1) /\ ∃ h', s1 = { s with heap := h' } /\ IsEnum h' (s.heap.objs.size + 1) s.heap.objs.size 1 .none /\ h'.IsListIter s.heap.objs.size l 0 /\ ∀ b o, s.heap.get? b = some o -> h'.get? b = some o
 have hz : (s.heap.push { cls := .type "list_iterator", data := .fields #[.ref l, .int 0 0] }).objs.size = s.heap.objs.size + 1 := Heap.size_push _ _
 have pre : wants Q1 E (.ok (.ret (.ref (s.heap.push { cls := .type "list_iterator", data := .fields #[.ref l, .int 0 0] }).objs.size)))
    { s with heap := (s.heap.push { cls := .type "list_iterator", data := .fields #[.ref l, .int 0 0] }).push { cls := .type "enumerate", data := .fields #[.none, .bool false, .ref s.heap.objs.size, rawInt 1, .none, .none] } } := by
  refine ⟨by rw [hz], _, rfl, ?_, ⟨_, Heap.get?_push_of_some _ (Heap.get?_push_size _ rfl), rfl, rfl⟩, fun b o x => Heap.get?_push_of_some _ (Heap.get?_push_of_some _ x)⟩
  have := Heap.get?_push_size (s.heap.push { cls := .type "list_iterator", data := .fields #[.ref l, .int 0 0] }) (o := { cls := .type "enumerate", data := .fields #[.none, .bool false, .ref s.heap.objs.size, rawInt 1, .none, .none] }) rfl
  rw [hz] at this
  exact this
 have new := codeAny_call_builtin (prog := prog) (w := w) (A := A.in1) (R := wants Q1 E) (s := s) ft.plain F.entry_enumerate_new (wpAny_of_eq (newCallK (.ref l) (.int 1 t)) (meets_enumK l items n dct sl t prog w A.in1 _ s ⟨hl, pre⟩))
 refine codeAny_mono new fun r s1 hr => ?_
 cases r with
 | error e => exact hr
 | ok fl =>
  cases fl with
  | ret obj =>
   obtain ⟨rfl, h', rfl, he, hit, hk⟩ := hr
   have hT : Shared.TypeIs { s with heap := h' } (.ref (s.heap.objs.size + 1)) "enumerate" := ⟨_, he, rfl⟩
   have hli := ft.init.lookup
   have hbi := ft.init.bind (.ref (s.heap.objs.size + 1))
   repeat (any_goals (first | assumption | wp_step))
   have ini := codeAny_call_builtin (prog := prog) (w := w) (A := A.in1) (R := wants (fun r s2 => r = .none /\ s2 = { s with heap := h' }) E) (s := { s with heap := h' }) ft.init.plain F.entry_object_init (ft.init.check _ _ _ _ _ _ _ _ hT (argsK (.ref (s.heap.objs.size + 1)) (.ref l) (.int 1 t)) (initK (rest := [.ref l]) (by simp) prog w A.in1 _ _ ⟨hT, rfl, rfl⟩))
   refine codeAny_mono ini fun r2 s2 hr2 => ?_
   cases r2 with
   | error e => exact hr2
   | ok fl2 =>
    cases fl2 with
    | ret r =>
     obtain ⟨rfl, rfl⟩ := hr2
     have fin := h h' he hit hk
     repeat (any_goals (first | assumption | wp_step))
    | _ => exact hr2.elim
  | _ => exact hr.elim
theorem callWith_typeK {M : Model} {pos : Pos} {T : String} {args : List (Bool × Sem Value)} {ks : List (Option Str × Sem Value)} {Q : Value -> Shared -> Prop} (h1 : args.any (·.1) = false) (h2 : ks.any (·.1.isNone) = false)
  (h : wpAny M A (evalArgs (.type T) true args ks) (fun a s' => wpAny M A (call (.type T) ([] ++ a.pos) a.kw) Q E s') E s) : wpAny M A (callWith pos (.type T) [] args ks) Q E s := by
 unfold callWith
 apply wpAny_bind
 apply wpAny_holding
 refine wpAny_mono h (fun a s' h' => ?_) fun _ _ z => z
 apply wpAny_bind
 apply wpAny_standAt
 simp only [h1, h2, Bool.or_false]
 apply wpAny_bind
 apply wpAny_pure
 apply wpAny_bind
 exact wpAny_mono h' (fun r s2 hr => wpAny_bind (wpAny_holding (wpAny_point (wpAny_pure hr)))) fun _ _ z => z
end
section
variable {X : Cx} {elts : List Expr} {k : Nat} {pt : Pos}
theorem pi_enumK {a : Expr} {ta : TA} {p pos kp cp : Pos} {ck} (hg : Gl X "enumerate") (hm : X.mg "enumerate" = none) (ha : PA X [a] ta) (hs : starEach [a] X.env = [(false, eval a X.env)] := by rfl) :
  PI X (.Tuple elts k pt) (.Call (.Name "enumerate" p) [a] [⟨some "start", .Constant (.int 1) ck cp, kp⟩] pos) (iEnum X.K 1 ta) := by
 intro pins s σ H R I h
 refine wpAny_Call_Name_kw (ld_blt I hg hm PyProof.Rows.boot_enumerate ?_)
 have hb : backTo pos (starEach [a] X.env) = [(false, eval a X.env)] := by rw [hs]; rfl
 refine callWith_typeK (by rw [hb]; rfl) rfl ?_
 have ha' := ha pos pins s σ H _ I h
 rw [hb] at ha' ⊢
 refine PyProof.Rows.evalArgs_kwB rfl (thn ha' fun us s1 ⟨vs, H1, I1, r1, q1⟩ => ?_)
 refine thn (pk_cons (X := X) (pe_int (X := X) (i := 1)) pk_nil pos pins s1 σ H1 (fun ws H2 => ws = [.int 1] /\ H2 = H1) I1 ⟨rfl, rfl⟩) fun kus s2 ⟨ws, H2, I2, r2, e2, e3⟩ => ?_
 subst e2; subst e3
 obtain ⟨l, xs, e, g1, q⟩ := q1
 subst e
 cases r1 with
 | cons r rr =>
  cases rr
  cases r
  cases r2 with
  | cons r2 rr2 =>
   cases rr2
   obtain ⟨t, rfl⟩ := r2
   obtain ⟨its1, rv1, p1, _⟩ := I2.list g1
   have t1 : l < s2.heap.objs.size := by obtain ⟨o, e, _⟩ := p1.isList; exact Heap.lt_size e
   refine call_enumK p1.isList fun h' he hi hk => ?_
   refine wpAny_pyIter_enum (s := { s2 with heap := h' }) he ?_
   refine ⟨_, _, _, _, H2, rfl, I2.kept (t' := s2.toks) hk, turn_enum 1 (s2.heap.objs.size + 1) s2.heap.objs.size l (Nat.succ_ne_self _) (Nat.ne_of_lt (Nat.lt_succ_of_lt t1)) (Nat.ne_of_lt t1), ⟨⟨_, he⟩, hi⟩, fun b hb => ?_, q⟩
   have hb' : s2.heap.objs.size <= b := by
    simp only [List.mem_cons, List.not_mem_nil, or_false] at hb
    rcases hb with rfl | rfl
    ·exact Nat.le_add_right _ _
    ·exact Nat.le_refl _
   exact I2.fpOk hb' (I2.hok.fresh hb')
end
end L2
namespace L2
open PySem PySem.Spec PyProof.Rows
section
variable {X : Cx}
def rIns : V -> List V -> Hp -> VK -> Prop := fun x vs H Q => ∃ l xs y, x = .ref l /\ vs = [.int 0, y] /\ H l = some (.lst xs) /\ xs.length < sizeLine /\ Q .non (upd H l (.lst (y :: xs)))
theorem mt_ins : MtM X "list.insert" rIns := by
 intro pins s σ H x vs v us Q I rx rv h
 obtain ⟨l, xs, y, rfl, rfl, hH, hz, q⟩ := h
 cases rx
 obtain ⟨u0, u, rfl, ru0, ru⟩ : ∃ u0 u, us = [u0, u] /\ RelV (.int 0) u0 /\ RelV y u := by
  cases rv with
  | cons a r =>
   cases r with
   | cons b r => cases r; exact ⟨_, _, rfl, a, b⟩
 obtain ⟨t, rfl⟩ := ru0
 obtain ⟨z, its, n, r, hl, e⟩ := I.lstM hH
 refine call_meets F.slot_list_insert ⟨_, e, rfl⟩ F.entry_list_insert (F.args_list_insert_3 _ _ _) (AutoListH.list_insert_list_int_val_1 l its.toArray n 0 t u (by decide) (by rw [List.size_toArray]; omega)) ⟨e, ?_⟩
 refine ⟨.non, _, I.lset (its' := u :: its) hH e ?_ (.cons ru r) ?_, rfl, q⟩
 ·simp
 ·rw [List.length_cons]
  omega
end
end L2
namespace Mini
inductive Wd where
 | non | bl (b : Bool) | int (i : Int) | str (s : List Nat) | tup (xs : List Wd) | rol (xs : List Wd) | ref (l : Nat)
deriving Inhabited
inductive Ob where
 | lst (xs : List Wd) | dct (kvs : List (Wd × Wd))
deriving Inhabited
abbrev Me := List Ob
abbrev En := List (Option Wd)
inductive Rz where
 | ok (w : Wd) (m : Me) | exc (c : Nat) (w : Wd) (m : Me) | no
deriving Inhabited
inductive Rs where
 | next (e : En) (m : Me) | ret (w : Wd) (m : Me) | brk (e : En) (m : Me) | cont (e : En) (m : Me)
 | exc (c : Nat) (w : Wd) (e : En) (m : Me) | no
deriving Inhabited
inductive Bo where | add | sub | mul | fdiv | mod | pow
deriving DecidableEq
inductive Co where | eq | ne | lt | le | gt | ge | isN | notN | isin | notin
deriving DecidableEq
inductive Tg where | int | bool | list | tuple | str | dict
deriving DecidableEq
inductive Blf where | len | int | bool | list | tuple | sum | all | abs | min2 | max2 | minS | maxS
deriving DecidableEq
inductive Mth where | append | extend | pop | reverse | clear | insert
deriving DecidableEq
inductive Kd where | zip | enum
deriving DecidableEq
inductive Ex where
 | var (i : Nat) | lit (w : Wd)
 | bin (op : Bo) (a b : Ex) | neg (a : Ex) | not (a : Ex) | and (a b : Ex) | or (a b : Ex)
 | cmp (op : Co) (a b : Ex) | chain (p q : Co) (a b c : Ex) | ife (c a b : Ex)
 | unit | pair (a b : Ex)
 | call (k : Nat) (args : Ex) | blt (b : Blf) (args : Ex) | isi (t : Tg) (a : Ex)
 | lst (args : Ex) | tup (args : Ex) | dict0
 | idx (a b : Ex) | slL (a lo : Ex) | slH (a hi : Ex) | slB (a lo hi : Ex)
 | meth (n : Mth) (o args : Ex)
 | rng (a b c : Ex)
 | comp (elt it cond : Ex)
 | lrng (a : Ex)
 | compP (k : Kd) (elt a b cond : Ex)
deriving Inhabited
inductive Sm where
 | skip | seq (a b : Sm)
 | asg (i : Nat) (e : Ex) | asgS (o i e : Ex) | swapS (o i p j a b : Ex) | aug (i : Nat) (op : Bo) (e : Ex) | augS (o i : Ex) (op : Bo) (e : Ex)
 | ite (c : Ex) (a b : Sm) | forv (i : Nat) (it : Ex) (body : Sm) | fort (i j : Nat) (it : Ex) (body : Sm) | while (c : Ex) (body : Sm)
 | ret (e : Ex) | retN | expr (e : Ex) | brk | cont | never
 | forA (i j : Nat) (c : Int)
 | forZ (i j : Nat) (a b : Ex) (body : Sm)
 | forC (i j : Nat)
 | forS (i j k : Nat) (c : Int)
 | appPop (j a x : Nat) (e : Ex)
 | unp3 (i j k : Nat) (e : Ex)
deriving Inhabited
def lim : Nat := 100000
def big : Int := 18446744073709551616
def small (i : Int) : Bool := decide (-big < i) && decide (i < big)
def eqL (p : Wd -> Wd -> Option Bool) : List Wd -> List Wd -> Option Bool
 | x :: xs, y :: ys => match p x y with
  | some a => (eqL p xs ys).map (a && ·)
  | none => none
 | _, _ => some true
def b2i (b : Bool) : Int := if b then 1 else 0
def isLst (m : Me) (l : Nat) : Bool := match m[l]? with
 | some (.lst _) => true
 | _ => false
def notRol : Wd -> Bool
 | .rol _ => false
 | _ => true
def eqW (m : Me) : Nat -> Wd -> Wd -> Option Bool
 | 0, _, _ => none
 | k + 1, x, y => match x, y with
  | .tup a, .tup b => (eqL (eqW m k) a b).map (· && decide (a.length = b.length))
  | .ref a, .ref b => if a = b then (if isLst m a then some true else none) else match m[a]?, m[b]? with
   | some (.lst xs), some (.lst ys) => if xs.length = ys.length then eqL (eqW m k) xs ys else some false
   | _, _ => none
  | .ref a, y => if isLst m a && notRol y then some false else none
  | x, .ref b => if isLst m b && notRol x then some false else none
  | .rol _, _ => none
  | _, .rol _ => none
  | .non, .non => some true
  | .bl a, .bl b => some (a == b)
  | .int a, .int b => some (decide (a = b))
  | .bl a, .int b => some (decide (b2i a = b))
  | .int a, .bl b => some (decide (a = b2i b))
  | .str a, .str b => some (decide (a = b))
  | _, _ => some false
def deep : Nat := 12
def inL (p : Wd -> Wd -> Option Bool) (x : Wd) : List Wd -> Option Bool
 | [] => some false
 | y :: ys => match p y x with
  | some a => (inL p x ys).map (a || ·)
  | none => none
def ix (n : Nat) (i : Int) : Option Nat :=
 if 0 <= i then (if i < n then some i.toNat else none) else if -(n : Int) <= i then some (i + n).toNat else none
def alloc (m : Me) (xs : List Wd) : Rz := if xs.length <= lim then .ok (.ref m.length) (m ++ [.lst xs]) else .no
def lstAt (m : Me) (l : Nat) : Option (List Wd) := match m[l]? with
 | some (.lst xs) => some xs
 | _ => none
def seqOf (m : Me) : Wd -> Option (List Wd)
 | .tup xs => some xs
 | .rol xs => some xs
 | .ref l => lstAt m l
 | _ => none
def bop (op : Bo) (x y : Wd) (m : Me) : Rz := match x, y with
 | .int i, .int j => match op with
  | .add => .ok (.int (i + j)) m
  | .sub => .ok (.int (i - j)) m
  | .mul => if small i || small j then .ok (.int (i * j)) m else .no
  | .fdiv => if 0 < j /\ j < 1073741824 then .ok (.int (i / j)) m else .no
  | .mod => if 0 < j then .ok (.int (i % j)) m else .no
  | .pow => if 0 <= j /\ j <= 1000000 /\ small i = true then .ok (.int (i ^ j.toNat)) m else .no
 | .ref a, .ref b => match op, m[a]?, m[b]? with
  | .add, some (.lst xs), some (.lst ys) => alloc m (xs ++ ys)
  | _, _, _ => .no
 | .ref a, .int k => match op, m[a]? with
  | .mul, some (.lst xs) => if -lim <= k /\ k <= lim then alloc m (List.replicate k.toNat xs).flatten else .no
  | _, _ => .no
 | .tup xs, .tup ys => match op with
  | .add => if xs.length + ys.length <= lim /\ xs.isEmpty = false then .ok (.tup (xs ++ ys)) m else .no
  | _ => .no
 | _, _ => .no
def ofB (o : Option Bool) (m : Me) : Rz := match o with
 | some b => .ok (.bl b) m
 | none => .no
def cmpII (r : Int -> Int -> Bool) (x y : Wd) (m : Me) : Rz := match x, y with
 | .int i, .int j => .ok (.bl (r i j)) m
 | _, _ => .no
def cop (op : Co) (x y : Wd) (m : Me) : Rz := match op with
 | .eq => ofB (eqW m deep x y) m
 | .ne => ofB ((eqW m deep x y).map (!·)) m
 | .isN => match y, x with
  | .non, .non => .ok (.bl true) m
  | .non, _ => .ok (.bl false) m
  | _, _ => .no
 | .notN => match y, x with
  | .non, .non => .ok (.bl false) m
  | .non, _ => .ok (.bl true) m
  | _, _ => .no
 | .isin => match seqOf m y with
  | some ys => ofB (inL (eqW m deep) x ys) m
  | none => .no
 | .notin => match seqOf m y with
  | some ys => ofB ((inL (eqW m deep) x ys).map (!·)) m
  | none => .no
 | .lt => cmpII (fun i j => decide (i < j)) x y m
 | .le => cmpII (fun i j => decide (i <= j)) x y m
 | .gt => cmpII (fun i j => decide (j < i)) x y m
 | .ge => cmpII (fun i j => decide (j <= i)) x y m
def isT (t : Tg) (x : Wd) (m : Me) : Option Bool := match t, x with
 | .int, .int _ => some true
 | .int, .bl _ => some true
 | .bool, .bl _ => some true
 | .str, .str _ => some true
 | .tuple, .tup _ => some true
 | .list, .rol _ => some true
 | t, .ref l => match m[l]? with
  | some (.lst _) => some (decide (t = .list))
  | some (.dct _) => some (decide (t = .dict))
  | none => none
 | _, _ => some false
def sIx (n d : Nat) : Option Int -> Nat
 | none => d
 | some v => if v < 0 then (v + (n : Int)).toNat else min v.toNat n
def sumL : List Wd -> Option Int
 | [] => some 0
 | .int i :: r => (sumL r).map (i + ·)
 | _ => none
def allL : List Wd -> Option Bool
 | [] => some true
 | .bl b :: r => (allL r).map (b && ·)
 | _ => none
def lsOf (m : Me) : Wd -> Option (List Wd)
 | .rol xs => some xs
 | .ref l => lstAt m l
 | _ => none
def bltR (b : Blf) (ws : List Wd) (m : Me) : Rz := match b with
 | .len => match ws with
  | [x] => match seqOf m x with
   | some xs => .ok (.int xs.length) m
   | none => .no
  | _ => .no
 | .int => match ws with
  | [.int i] => .ok (.int i) m
  | [.bl b] => .ok (.int (b2i b)) m
  | _ => .no
 | .list => match ws with
  | [x] => match seqOf m x with
   | some xs => alloc m xs
   | none => .no
  | _ => .no
 | .tuple => match ws with
  | [x] => match seqOf m x with
   | some xs => .ok (.tup xs) m
   | none => .no
  | _ => .no
 | .sum => match ws with
  | [x] => match (lsOf m x).bind sumL with
   | some i => .ok (.int i) m
   | none => .no
  | _ => .no
 | .all => match ws with
  | [x] => match (lsOf m x).bind allL with
   | some i => .ok (.bl i) m
   | none => .no
  | _ => .no
 | .abs => match ws with
  | [.int i] => .ok (.int (if i < 0 then -i else i)) m
  | _ => .no
 | .max2 => match ws with
  | [.int i, .int j] => .ok (.int (if j > i then j else i)) m
  | _ => .no
 | .min2 => match ws with
  | [.int i, .int j] => .ok (.int (if j < i then j else i)) m
  | _ => .no
 | _ => .no
def mtR (n : Mth) (o : Wd) (ws : List Wd) (m : Me) : Rz := match o with
 | .ref l => match m[l]? with
  | some (.lst xs) => match n, ws with
   | .append, [y] => if xs.length < lim then .ok .non (m.set l (.lst (xs ++ [y]))) else .no
   | .extend, [.ref k] => match m[k]? with
    | some (.lst ys) => if xs.length + ys.length <= lim then .ok .non (m.set l (.lst (xs ++ ys))) else .no
    | _ => .no
   | .pop, [] => match xs[xs.length - 1]? with
    | some y => .ok y (m.set l (.lst xs.dropLast))
    | none => .no
   | .reverse, [] => .ok .non (m.set l (.lst xs.reverse))
   | .pop, [.int k] => if k = 0 then match xs with
    | y :: r => .ok y (m.set l (.lst r))
    | [] => .no
    else .no
   | .insert, [.int k, y] => if k = 0 /\ xs.length < lim then .ok .non (m.set l (.lst (y :: xs))) else .no
   | .clear, [] => .ok .non (m.set l (.lst []))
   | _, _ => .no
  | _ => .no
 | _ => .no
def setR (o i v : Wd) (m : Me) : Rz := match o, i with
 | .ref l, .int k => match m[l]? with
  | some (.lst xs) => match ix xs.length k with
   | some j => .ok .non (m.set l (.lst (xs.set j v)))
   | none => .no
  | _ => .no
 | _, _ => .no
def idxR (x y : Wd) (m : Me) : Rz := match y with
 | .int i => match seqOf m x with
  | some xs => match (ix xs.length i).bind fun j => xs[j]? with
   | some v => .ok v m
   | none => .no
  | none => .no
 | _ => .no
def slR (x : Wd) (lo hi : Option Int) (m : Me) : Rz := match lsOf m x with
 | some xs => alloc m ((xs.drop (sIx xs.length 0 lo)).take (sIx xs.length xs.length hi - sIx xs.length 0 lo))
 | none => .no
def rngL (lo st : Int) : Nat -> List Wd
 | 0 => []
 | n + 1 => .int lo :: rngL (lo + st) st n
def rngN (a b c : Int) : Nat := if c = 1 then (b - a).toNat else if c = -1 then (a - b).toNat else 0
def rngR (a b c : Wd) (m : Me) : Rz := match a, b, c with
 | .int a, .int b, .int c => if -lim <= a /\ a <= lim /\ -lim <= b /\ b <= lim /\ (c = 1 \/ c = -1) then .ok (.tup (rngL a c (rngN a b c))) m else .no
 | _, _, _ => .no
def Rz.bind (r : Rz) (f : Wd -> Me -> Rz) : Rz := match r with
 | .ok w m => f w m
 | r => r
def compL (c e : Wd -> Me -> Rz) : List Wd -> List Wd -> Me -> Rz
 | [], acc, m => alloc m acc
 | x :: xs, acc, m => (c x m).bind fun b m1 => match b with
  | .bl true => (e x m1).bind fun y m2 => if acc.length < lim then compL c e xs (acc ++ [y]) m2 else .no
  | .bl false => compL c e xs acc m1
  | _ => .no
def compR (c e : Wd -> Me -> Rz) (l : Nat) : Nat -> Nat -> List Wd -> Me -> Rz
 | 0, _, _, _ => .no
 | k + 1, i, acc, m => match lstAt m l with
  | none => .no
  | some xs => match xs[i]? with
   | none => alloc m acc
   | some x => (c x m).bind fun b m1 => match b with
    | .bl true => (e x m1).bind fun y m2 => if acc.length < lim then compR c e l k (i + 1) (acc ++ [y]) m2 else .no
    | .bl false => compR c e l k (i + 1) acc m1
    | _ => .no
def pairAt (k : Kd) (x y : Wd) (i : Nat) (m : Me) : Option (Option (Wd × Wd)) := match k, x, y with
 | .zip, .ref la, .ref lb => match lstAt m la, lstAt m lb with
  | some xs, some ys => some (match xs[i]?, ys[i]? with
   | some x, some y => some (x, y)
   | _, _ => none)
  | _, _ => none
 | .enum, .ref la, .int s => match lstAt m la with
  | some xs => some (xs[i]?.map fun x => (.int (s + (i : Int)), x))
  | none => none
 | _, _, _ => none
def compG (c e : Wd -> Wd -> Me -> Rz) (g : Nat -> Me -> Option (Option (Wd × Wd))) : Nat -> Nat -> List Wd -> Me -> Rz
 | 0, _, _, _ => .no
 | k + 1, i, acc, m => match g i m with
  | none => .no
  | some none => alloc m acc
  | some (some (x, y)) => (c x y m).bind fun b m1 => match b with
   | .bl true => (e x y m1).bind fun z m2 => if acc.length < lim then compG c e g k (i + 1) (acc ++ [z]) m2 else .no
   | .bl false => compG c e g k (i + 1) acc m1
   | _ => .no
def argsOf : Wd -> List Wd
 | .tup xs => xs
 | _ => []
def evE (cl : Nat -> List Wd -> Me -> Rz) : Ex -> En -> Me -> Rz
 | .var i, env, m => match env[i]? with
  | some (some w) => .ok w m
  | _ => .no
 | .lit w, _, m => .ok w m
 | .bin op a b, env, m => (evE cl a env m).bind fun x m1 => (evE cl b env m1).bind fun y m2 => bop op x y m2
 | .neg a, env, m => (evE cl a env m).bind fun x m1 => match x with
  | .int i => .ok (.int (-i)) m1
  | _ => .no
 | .not a, env, m => (evE cl a env m).bind fun x m1 => match x with
  | .bl b => .ok (.bl (!b)) m1
  | _ => .no
 | .and a b, env, m => (evE cl a env m).bind fun x m1 => match x with
  | .bl true => evE cl b env m1
  | .bl false => .ok (.bl false) m1
  | _ => .no
 | .or a b, env, m => (evE cl a env m).bind fun x m1 => match x with
  | .bl false => evE cl b env m1
  | .bl true => .ok (.bl true) m1
  | _ => .no
 | .cmp op a b, env, m => (evE cl a env m).bind fun x m1 => (evE cl b env m1).bind fun y m2 => cop op x y m2
 | .chain p q a b c, env, m => (evE cl a env m).bind fun x m1 => (evE cl b env m1).bind fun y m2 => (cop p x y m2).bind fun z m3 => match z with
  | .bl true => (evE cl c env m3).bind fun u m4 => cop q y u m4
  | .bl false => .ok (.bl false) m3
  | _ => .no
 | .ife c a b, env, m => (evE cl c env m).bind fun x m1 => match x with
  | .bl true => evE cl a env m1
  | .bl false => evE cl b env m1
  | _ => .no
 | .unit, _, m => .ok (.tup []) m
 | .pair a b, env, m => (evE cl a env m).bind fun x m1 => (evE cl b env m1).bind fun y m2 => .ok (.tup (x :: argsOf y)) m2
 | .call k a, env, m => (evE cl a env m).bind fun x m1 => cl k (argsOf x) m1
 | .blt b a, env, m => (evE cl a env m).bind fun x m1 => bltR b (argsOf x) m1
 | .isi t a, env, m => (evE cl a env m).bind fun x m1 => ofB (isT t x m1) m1
 | .lst a, env, m => (evE cl a env m).bind fun x m1 => alloc m1 (argsOf x)
 | .tup a, env, m => (evE cl a env m).bind fun x m1 => if (argsOf x).length <= lim then .ok (.tup (argsOf x)) m1 else .no
 | .dict0, _, m => .ok (.ref m.length) (m ++ [.dct []])
 | .idx a b, env, m => (evE cl a env m).bind fun x m1 => (evE cl b env m1).bind fun y m2 => idxR x y m2
 | .slL a lo, env, m => (evE cl a env m).bind fun x m1 => (evE cl lo env m1).bind fun y m2 => match y with
  | .int i => slR x (some i) none m2
  | _ => .no
 | .slH a hi, env, m => (evE cl a env m).bind fun x m1 => (evE cl hi env m1).bind fun y m2 => match y with
  | .int i => slR x none (some i) m2
  | _ => .no
 | .slB a lo hi, env, m => (evE cl a env m).bind fun x m1 => (evE cl lo env m1).bind fun y m2 => match y with
  | .int i => (evE cl hi env m2).bind fun z m3 => match z with
   | .int j => slR x (some i) (some j) m3
   | _ => .no
  | _ => .no
 | .meth n o a, env, m => (evE cl o env m).bind fun x m1 => (evE cl a env m1).bind fun y m2 => mtR n x (argsOf y) m2
 | .rng a b c, env, m => (evE cl a env m).bind fun x m1 => (evE cl b env m1).bind fun y m2 => (evE cl c env m2).bind fun z m3 => rngR x y z m3
 | .comp elt it cond, env, m => (evE cl it env m).bind fun x m1 => match x with
  | .tup xs => compL (fun x m => evE cl cond (env ++ [some x]) m) (fun x m => evE cl elt (env ++ [some x]) m) xs [] m1
  | .rol xs => compL (fun x m => evE cl cond (env ++ [some x]) m) (fun x m => evE cl elt (env ++ [some x]) m) xs [] m1
  | .ref l => compR (fun x m => evE cl cond (env ++ [some x]) m) (fun x m => evE cl elt (env ++ [some x]) m) l (lim + 1) 0 [] m1
  | _ => .no
 | .compP k elt a b cond, env, m => (evE cl a env m).bind fun x m1 => (evE cl b env m1).bind fun y m2 =>
  compG (fun u v m => evE cl cond (env ++ [some u] ++ [some v]) m) (fun u v m => evE cl elt (env ++ [some u] ++ [some v]) m) (pairAt k x y) (lim + 1) 0 [] m2
 | .lrng a, env, m => (evE cl a env m).bind fun x m1 => match x with
  | .int j => if -lim <= j /\ j <= lim then alloc m1 (rngL 0 1 j.toNat) else .no
  | _ => .no
def loopL (body : Wd -> En -> Me -> Rs) : List Wd -> En -> Me -> Rs
 | [], env, m => .next env m
 | x :: xs, env, m => match body x env m with
  | .next e1 m1 => loopL body xs e1 m1
  | .cont e1 m1 => loopL body xs e1 m1
  | .brk e1 m1 => .next e1 m1
  | r => r
def loopR (body : Wd -> En -> Me -> Rs) (l : Nat) : Nat -> Nat -> En -> Me -> Rs
 | 0, _, _, _ => .no
 | k + 1, i, env, m => match lstAt m l with
  | none => .no
  | some xs => match xs[i]? with
   | none => .next env m
   | some x => match body x env m with
    | .next e1 m1 => loopR body l k (i + 1) e1 m1
    | .cont e1 m1 => loopR body l k (i + 1) e1 m1
    | .brk e1 m1 => .next e1 m1
    | r => r
def loopG (body : Wd -> En -> Me -> Rs) (g : Nat -> Me -> Option (Option (Wd × Wd))) : Nat -> Nat -> En -> Me -> Rs
 | 0, _, _, _ => .no
 | k + 1, i, env, m => match g i m with
  | none => .no
  | some none => .next env m
  | some (some (x, y)) => match body (.tup [x, y]) env m with
   | .next e1 m1 => loopG body g k (i + 1) e1 m1
   | .cont e1 m1 => loopG body g k (i + 1) e1 m1
   | .brk e1 m1 => .next e1 m1
   | r => r
def loopW (c : En -> Me -> Rz) (body : En -> Me -> Rs) : Nat -> En -> Me -> Rs
 | 0, _, _ => .no
 | k + 1, env, m => match c env m with
  | .ok (.bl true) m1 => match body env m1 with
   | .next e1 m2 => loopW c body k e1 m2
   | .cont e1 m2 => loopW c body k e1 m2
   | .brk e1 m2 => .next e1 m2
   | r => r
  | .ok (.bl false) m1 => .next env m1
  | .exc c w m1 => .exc c w env m1
  | _ => .no
def Rz.bindS (r : Rz) (env : En) (f : Wd -> Me -> Rs) : Rs := match r with
 | .ok w m => f w m
 | .exc c w m => .exc c w env m
 | .no => .no
def forW (body : Wd -> En -> Me -> Rs) (w : Wd) (env : En) (m : Me) : Rs := match w with
 | .tup xs => loopL body xs env m
 | .rol xs => loopL body xs env m
 | .ref l => loopR body l (lim + 1) 0 env m
 | _ => .no
def st2 (i j : Nat) : Wd -> En -> Option En := fun w env => match w with
 | .tup [a, b] => some ((env.set i (some a)).set j (some b))
 | _ => none
def st3 (i j k : Nat) (w : Wd) (m : Me) (env : En) : Option En := match seqOf m w with
 | some [a, b, c] => some (((env.set i (some a)).set j (some b)).set k (some c))
 | _ => none
def bodyOf (st : Wd -> En -> Option En) (b : En -> Me -> Rs) : Wd -> En -> Me -> Rs := fun w env m => match st w env with
 | some env' => b env' m
 | none => .no
def augI (op : Bo) (x y : Wd) (m : Me) (env : En) (f : Wd -> Me -> Rs) : Rs := match x, y with
 | .int _, .int _ => (bop op x y m).bindS env f
 | _, _ => .no
def exS (cl : Nat -> List Wd -> Me -> Rz) : Sm -> En -> Me -> Rs
 | .skip, env, m => .next env m
 | .seq a b, env, m => match exS cl a env m with
  | .next e1 m1 => exS cl b e1 m1
  | r => r
 | .asg i e, env, m => (evE cl e env m).bindS env fun w m1 => .next (env.set i (some w)) m1
 | .asgS o i e, env, m => (evE cl e env m).bindS env fun w m1 => (evE cl o env m1).bindS env fun x m2 => (evE cl i env m2).bindS env fun y m3 => (setR x y w m3).bindS env fun _ m4 => .next env m4
 | .swapS o i p j a b, env, m => (evE cl a env m).bindS env fun u m0 => (evE cl b env m0).bindS env fun w m1 =>
   (evE cl o env m1).bindS env fun x m2 => (evE cl i env m2).bindS env fun y m3 => (setR x y u m3).bindS env fun _ m4 =>
   (evE cl p env m4).bindS env fun x m5 => (evE cl j env m5).bindS env fun y m6 => (setR x y w m6).bindS env fun _ m7 => .next env m7
 | .aug i op e, env, m => match env[i]? with
  | some (some x) => (evE cl e env m).bindS env fun y m1 => augI op x y m1 env fun z m2 => .next (env.set i (some z)) m2
  | _ => .no
 | .augS o i op e, env, m => (evE cl o env m).bindS env fun x m1 => match x with
  | .ref l => (evE cl i env m1).bindS env fun y m2 => (idxR (.ref l) y m2).bindS env fun u m3 => (evE cl e env m3).bindS env fun v m4 => augI op u v m4 env fun z m5 => (setR (.ref l) y z m5).bindS env fun _ m6 => .next env m6
  | _ => .no
 | .ite c a b, env, m => (evE cl c env m).bindS env fun x m1 => match x with
  | .bl true => exS cl a env m1
  | .bl false => exS cl b env m1
  | _ => .no
 | .forv i it body, env, m => (evE cl it env m).bindS env fun w m1 => forW (fun x e m => exS cl body (e.set i (some x)) m) w env m1
 | .fort i j it body, env, m => (evE cl it env m).bindS env fun w m1 => forW (bodyOf (st2 i j) (exS cl body)) w env m1
 | .while c body, env, m => loopW (evE cl c) (exS cl body) 1000000 env m
 | .ret e, env, m => (evE cl e env m).bindS env fun w m1 => .ret w m1
 | .retN, _, m => .ret .non m
 | .expr e, env, m => (evE cl e env m).bindS env fun _ m1 => .next env m1
 | .forA i j c, env, m => (evE cl (.var j) env m).bindS env fun w m1 => forW (fun x e m => (evE cl (.meth .append (.var i) (.pair (.lit (.int c)) .unit)) (e.set i (some x)) m).bindS (e.set i (some x)) fun _ m1 => .next (e.set i (some x)) m1) w env m1
 | .forZ i j a b body, env, m => (evE cl a env m).bindS env fun x m1 => (evE cl b env m1).bindS env fun y m2 => loopG (bodyOf (st2 i j) (exS cl body)) (pairAt .zip x y) (lim + 1) 0 env m2
 | .forS i j k c, env, m => (evE cl (.var k) env m).bindS env fun w m1 => forW (fun x e m => match (evE cl (.var i) (e.set i (some x)) m).bindS (e.set i (some x)) (fun w m1 => forW (fun x e m => (evE cl (.meth .append (.var j) (.pair (.lit (.int c)) .unit)) (e.set j (some x)) m).bindS (e.set j (some x)) fun _ m1 => .next (e.set j (some x)) m1) w (e.set i (some x)) m1) with
  | .next e1 m1 => (evE cl (.meth .append (.var i) (.pair (.lst .unit) .unit)) e1 m1).bindS e1 fun _ m2 => .next e1 m2
  | r => r) w env m1
 | .forC i j, env, m => (evE cl (.var j) env m).bindS env fun w m1 => forW (fun x e m => (evE cl (.meth .clear (.var i) .unit) (e.set i (some x)) m).bindS (e.set i (some x)) fun _ m1 => .next (e.set i (some x)) m1) w env m1
 | .appPop j a x e, env, m => (evE cl (.meth .append (.var j) (.pair (.bin .add (.var a) (.bin .mod (.meth .pop (.var x) (.pair (.lit (.int 0)) .unit)) e)) .unit)) env m).bindS env fun _ m1 => .next env m1
 | .unp3 i j k e, env, m => (evE cl e env m).bindS env fun w m1 => match st3 i j k w m1 env with
  | some e1 => .next e1 m1
  | none => .no
 | .brk, env, m => .brk env m
 | .cont, env, m => .cont env m
 | .never, _, _ => .no
structure Fn where
 ar : Nat
 sz : Nat
 body : Sm
deriving Inhabited
def begin0 (fn : Fn) (ws : List Wd) : En := ws.map some ++ List.replicate (fn.sz - ws.length) none
def runF (cl : Nat -> List Wd -> Me -> Rz) (fn : Fn) (ws : List Wd) (m : Me) : Rz :=
 if ws.length = fn.ar then match exS cl fn.body (begin0 fn ws) m with
  | .next _ m1 => .ok .non m1
  | .ret w m1 => .ok w m1
  | .exc c w _ m1 => .exc c w m1
  | _ => .no
 else .no
def callN (T : List Fn) : Nat -> Nat -> List Wd -> Me -> Rz
 | 0, _, _, _ => .no
 | d + 1, k, ws, m => match T[k]? with
  | some fn => runF (callN T d) fn ws m
  | none => .no
end Mini
namespace Mini
open PySem PySem.Spec PyProof.Rows L2
abbrev St := L2.St
def KL (K : PySem.W.Frag) (a : Addr) (xs : List V) : Prop :=
 ∃ (o : Obj) (its : Array Value) (n : Nat), K.lookup a = some o /\ o.cls = .type "list" /\ o.dict = none /\ o.data = .seq its n /\ its.size <= sizeLine /\ Vals xs its.toList
def SqF (K : PySem.W.Frag) (H : Hp) (a : Addr) (vs : List V) : Prop := (∃ o, H a = some (.frz o (.lst vs))) \/ KL K a vs
theorem SqF.sq {K : PySem.W.Frag} {H : Hp} {a : Addr} {vs : List V} (h : SqF K H a vs) : SqL K H a vs := by
 rcases h with h | h
 ·exact .inl (.inr h)
 ·exact .inr h
mutual
def Rep (K : PySem.W.Frag) (as : List Addr) (H : Hp) : Wd -> V -> Prop
 | .non, v => v = .non
 | .bl b, v => v = .bl b
 | .int i, v => v = .int i
 | .str s, v => v = .str ⟨s.toArray⟩
 | .tup xs, v => ∃ a vs, v = .ref a /\ SqT K H a vs /\ RepL K as H xs vs
 | .rol xs, v => ∃ a vs, v = .ref a /\ SqF K H a vs /\ RepL K as H xs vs
 | .ref l, v => ∃ a, as[l]? = some a /\ v = .ref a
def RepL (K : PySem.W.Frag) (as : List Addr) (H : Hp) : List Wd -> List V -> Prop
 | [], vs => vs = []
 | x :: xs, vs => ∃ v r, vs = v :: r /\ Rep K as H x v /\ RepL K as H xs r
end
def RepO (K : PySem.W.Frag) (as : List Addr) (H : Hp) : Ob -> Addr -> Prop
 | .lst ws, a => ∃ vs, H a = some (.lst vs) /\ RepL K as H ws vs
 | .dct _, _ => False
structure Sim (K : PySem.W.Frag) (as : List Addr) (m : Me) (H : Hp) : Prop where
 len : as.length = m.length
 nd : as.Nodup
 obj : ∀ (l : Nat) (a : Addr) (o : Ob), as[l]? = some a -> m[l]? = some o -> RepO K as H o a
structure Step (as : List Addr) (H : Hp) (as' : List Addr) (H' : Hp) : Prop where
 pre : ∃ t, as' = as ++ t
 frame : ∀ b o, H b = some o -> b ∉ as -> H' b = some o
 fresh : ∀ a ∈ as', a ∈ as \/ H a = none
section
variable {K : PySem.W.Frag} {as as' as2 : List Addr} {H H' H2 : Hp} {m m' : Me}
theorem Step.refl : Step as H as H := ⟨⟨[], by simp⟩, fun _ _ h _ => h, fun _ h => .inl h⟩
theorem Step.get (T : Step as H as' H') {l : Nat} {a : Addr} (h : as[l]? = some a) : as'[l]? = some a := by
 obtain ⟨t, rfl⟩ := T.pre
 rw [List.getElem?_append_left (List.getElem?_eq_some_iff.mp h).1]
 exact h
theorem Step.sub (T : Step as H as' H') {a : Addr} (h : a ∈ as) : a ∈ as' := by
 obtain ⟨t, rfl⟩ := T.pre
 exact List.mem_append_left _ h
theorem Step.out (T : Step as H as' H') {b : Addr} {o : HO} (h : H b = some o) (hb : b ∉ as) : b ∉ as' := fun z => by
 rcases T.fresh b z with q | q
 ·exact hb q
 ·rw [h] at q; cases q
theorem Step.trans (T : Step as H as' H') (U : Step as' H' as2 H2) : Step as H as2 H2 := by
 refine ⟨?_, fun b o h hb => U.frame b o (T.frame b o h hb) (T.out h hb), fun a ha => ?_⟩
 ·obtain ⟨t, rfl⟩ := T.pre
  obtain ⟨u, rfl⟩ := U.pre
  exact ⟨t ++ u, by simp⟩
 ·rcases U.fresh a ha with q | q
  ·exact T.fresh a q
  ·by_cases z : a ∈ as
   ·exact .inl z
   ·refine .inr ?_
    cases e : H a with
    | none => rfl
    | some o => rw [T.frame a o e z] at q; cases q
theorem Sim.get (S : Sim K as m H) {l : Nat} {o : Ob} (h : m[l]? = some o) : ∃ a, as[l]? = some a /\ RepO K as H o a := by
 have hl : l < as.length := by rw [S.len]; exact (List.getElem?_eq_some_iff.mp h).1
 exact ⟨as[l], by simp [hl], S.obj l _ o (by simp [hl]) h⟩
theorem Sim.isLst (S : Sim K as m H) {a : Addr} (h : a ∈ as) : ∃ us, H a = some (.lst us) := by
 obtain ⟨l, hl, rfl⟩ := List.mem_iff_getElem.mp h
 have hm : l < m.length := by rw [<- S.len]; exact hl
 have q := S.obj l as[l] m[l] (by simp [hl]) (by simp [hm])
 cases e : m[l] with
 | lst ws =>
  rw [e] at q
  obtain ⟨vs, h1, _⟩ := q
  exact ⟨vs, h1⟩
 | dct kvs => rw [e] at q; exact q.elim
theorem sqT_mono (nt : ∀ a ∈ as, ∃ us, H a = some (.lst us)) (T : Step as H as' H') {a : Addr} {vs : List V} (h : SqT K H a vs) : SqT K H' a vs := by
 rcases h with h | h
 ·have hn : a ∉ as := fun z => by
   obtain ⟨us, e⟩ := nt a z
   rcases h with h | ⟨o, h⟩ <;> rw [e] at h <;> cases h
  rcases h with h | ⟨o, h⟩
  ·exact .inl (.inl (T.frame _ _ h hn))
  ·exact .inl (.inr ⟨o, T.frame _ _ h hn⟩)
 ·exact .inr h
theorem sqF_mono (nt : ∀ a ∈ as, ∃ us, H a = some (.lst us)) (T : Step as H as' H') {a : Addr} {vs : List V} (h : SqF K H a vs) : SqF K H' a vs := by
 rcases h with ⟨o, h⟩ | h
 ·have hn : a ∉ as := fun z => by
   obtain ⟨us, e⟩ := nt a z
   rw [e] at h; cases h
  exact .inl ⟨o, T.frame _ _ h hn⟩
 ·exact .inr h
structure Kp (K : PySem.W.Frag) (H H' : Hp) : Prop where
 t : ∀ a vs, SqT K H a vs -> SqT K H' a vs
 f : ∀ a vs, SqF K H a vs -> SqF K H' a vs
theorem Sim.kp (S : Sim K as m H) (T : Step as H as' H') : Kp K H H' := ⟨fun _ _ h => sqT_mono (fun _ z => S.isLst z) T h, fun _ _ h => sqF_mono (fun _ z => S.isLst z) T h⟩
theorem Kp.upd {D : Addr} {ys : List V} {o : HO} (h : H D = some (.lst ys)) : Kp K H (L2.upd H D o) := by
 refine ⟨fun a vs q => ?_, fun a vs q => ?_⟩
 ·rcases q with (q | ⟨x, q⟩) | q
  ·exact .inl (.inl (by rw [upd_ne (by rintro rfl; rw [h] at q; cases q)]; exact q))
  ·exact .inl (.inr ⟨x, by rw [upd_ne (by rintro rfl; rw [h] at q; cases q)]; exact q⟩)
  ·exact .inr q
 ·rcases q with ⟨x, q⟩ | q
  ·exact .inl ⟨x, by rw [upd_ne (by rintro rfl; rw [h] at q; cases q)]; exact q⟩
  ·exact .inr q
mutual
theorem rep_mono (k : Kp K H H') (g : ∀ (l : Nat) (a : Addr), as[l]? = some a -> as'[l]? = some a) : ∀ (w : Wd) (v : V), Rep K as H w v -> Rep K as' H' w v
 | .non, _, h => by rw [Rep] at h ⊢; exact h
 | .bl _, _, h => by rw [Rep] at h ⊢; exact h
 | .int _, _, h => by rw [Rep] at h ⊢; exact h
 | .str _, _, h => by rw [Rep] at h ⊢; exact h
 | .tup xs, v, h => by
  rw [Rep] at h ⊢
  obtain ⟨a, vs, e, q, r⟩ := h
  exact ⟨a, vs, e, k.t _ _ q, repL_mono k g xs vs r⟩
 | .rol xs, v, h => by
  rw [Rep] at h ⊢
  obtain ⟨a, vs, e, q, r⟩ := h
  exact ⟨a, vs, e, k.f _ _ q, repL_mono k g xs vs r⟩
 | .ref l, v, h => by
  rw [Rep] at h ⊢
  obtain ⟨a, q, e⟩ := h
  exact ⟨a, g _ _ q, e⟩
theorem repL_mono (k : Kp K H H') (g : ∀ (l : Nat) (a : Addr), as[l]? = some a -> as'[l]? = some a) : ∀ (ws : List Wd) (vs : List V), RepL K as H ws vs -> RepL K as' H' ws vs
 | [], _, h => by rw [RepL] at h ⊢; exact h
 | x :: xs, vs, h => by
  rw [RepL] at h ⊢
  obtain ⟨v, r, e, q, t⟩ := h
  exact ⟨v, r, e, rep_mono k g x v q, repL_mono k g xs r t⟩
end
theorem Rep.mono {w : Wd} {v : V} (h : Rep K as H w v) (S : Sim K as m H) (T : Step as H as' H') : Rep K as' H' w v := rep_mono (S.kp T) (fun _ _ e => T.get e) w v h
theorem RepL.mono {ws : List Wd} {vs : List V} (h : RepL K as H ws vs) (S : Sim K as m H) (T : Step as H as' H') : RepL K as' H' ws vs := repL_mono (S.kp T) (fun _ _ e => T.get e) ws vs h
theorem RepL.kp {ws : List Wd} {vs : List V} (h : RepL K as H ws vs) (k : Kp K H H') : RepL K as H' ws vs := repL_mono k (fun _ _ e => e) ws vs h
theorem Rep.kp {w : Wd} {v : V} (h : Rep K as H w v) (k : Kp K H H') : Rep K as H' w v := rep_mono k (fun _ _ e => e) w v h
theorem rep_non {v : V} : Rep K as H .non v ↔ v = .non := by rw [Rep]
theorem rep_bl {b : Bool} {v : V} : Rep K as H (.bl b) v ↔ v = .bl b := by rw [Rep]
theorem rep_int {i : Int} {v : V} : Rep K as H (.int i) v ↔ v = .int i := by rw [Rep]
theorem rep_str {s : List Nat} {v : V} : Rep K as H (.str s) v ↔ v = .str ⟨s.toArray⟩ := by rw [Rep]
theorem rep_tup {xs : List Wd} {v : V} : Rep K as H (.tup xs) v ↔ ∃ a vs, v = .ref a /\ SqT K H a vs /\ RepL K as H xs vs := by rw [Rep]
theorem rep_rol {xs : List Wd} {v : V} : Rep K as H (.rol xs) v ↔ ∃ a vs, v = .ref a /\ SqF K H a vs /\ RepL K as H xs vs := by rw [Rep]
theorem rep_ref {l : Nat} {v : V} : Rep K as H (.ref l) v ↔ ∃ a, as[l]? = some a /\ v = .ref a := by rw [Rep]
theorem repL_nil {vs : List V} : RepL K as H [] vs ↔ vs = [] := by rw [RepL]
theorem repL_cons {x : Wd} {xs : List Wd} {vs : List V} : RepL K as H (x :: xs) vs ↔ ∃ v r, vs = v :: r /\ Rep K as H x v /\ RepL K as H xs r := by rw [RepL]
theorem RepL.length : ∀ {xs : List Wd} {vs : List V}, RepL K as H xs vs -> xs.length = vs.length
 | [], vs, h => by rw [repL_nil.mp h]; rfl
 | x :: xs, vs, h => by
  obtain ⟨v, r, rfl, _, t⟩ := repL_cons.mp h
  simp [RepL.length t]
theorem RepL.get : ∀ {xs : List Wd} {vs : List V} {i : Nat} {x : Wd}, RepL K as H xs vs -> xs[i]? = some x -> ∃ v, vs[i]? = some v /\ Rep K as H x v
 | [], _, _, _, _, e => by simp at e
 | x :: xs, vs, 0, y, h, e => by
  obtain ⟨v, r, rfl, q, t⟩ := repL_cons.mp h
  simp at e; subst e
  exact ⟨v, rfl, q⟩
 | x :: xs, vs, i + 1, y, h, e => by
  obtain ⟨v, r, rfl, q, t⟩ := repL_cons.mp h
  obtain ⟨u, h1, h2⟩ := RepL.get (i := i) (x := y) t (by simpa using e)
  exact ⟨u, by simpa using h1, h2⟩
theorem RepL.back : ∀ {xs : List Wd} {vs : List V} {i : Nat} {v : V}, RepL K as H xs vs -> vs[i]? = some v -> ∃ x, xs[i]? = some x /\ Rep K as H x v := fun {xs vs i v} h e => by
 have hi : i < xs.length := by rw [h.length]; exact (List.getElem?_eq_some_iff.mp e).1
 obtain ⟨u, h1, h2⟩ := h.get (i := i) (x := xs[i]) (by simp [hi])
 rw [e] at h1; cases h1
 exact ⟨xs[i], by simp [hi], h2⟩
theorem RepL.append : ∀ {xs ys : List Wd} {vs us : List V}, RepL K as H xs vs -> RepL K as H ys us -> RepL K as H (xs ++ ys) (vs ++ us)
 | [], ys, vs, us, h, h' => by rw [repL_nil.mp h]; exact h'
 | x :: xs, ys, vs, us, h, h' => by
  obtain ⟨v, r, rfl, q, t⟩ := repL_cons.mp h
  exact repL_cons.mpr ⟨v, r ++ us, rfl, q, t.append h'⟩
theorem RepL.one {x : Wd} {v : V} (h : Rep K as H x v) : RepL K as H [x] [v] := repL_cons.mpr ⟨v, [], rfl, h, repL_nil.mpr rfl⟩
theorem RepL.set : ∀ {xs : List Wd} {vs : List V} {x : Wd} {v : V} (i : Nat), RepL K as H xs vs -> Rep K as H x v -> RepL K as H (xs.set i x) (vs.set i v)
 | [], vs, _, _, _, h, _ => by rw [repL_nil.mp h]; exact repL_nil.mpr rfl
 | y :: xs, vs, x, v, 0, h, hx => by
  obtain ⟨u, r, rfl, q, t⟩ := repL_cons.mp h
  exact repL_cons.mpr ⟨v, r, rfl, hx, t⟩
 | y :: xs, vs, x, v, i + 1, h, hx => by
  obtain ⟨u, r, rfl, q, t⟩ := repL_cons.mp h
  exact repL_cons.mpr ⟨u, r.set i v, rfl, q, t.set i hx⟩
theorem RepL.take : ∀ {xs : List Wd} {vs : List V} (n : Nat), RepL K as H xs vs -> RepL K as H (xs.take n) (vs.take n)
 | _, _, 0, _ => repL_nil.mpr rfl
 | [], vs, n + 1, h => by rw [repL_nil.mp h]; exact repL_nil.mpr rfl
 | x :: xs, vs, n + 1, h => by
  obtain ⟨v, r, rfl, q, t⟩ := repL_cons.mp h
  exact repL_cons.mpr ⟨v, r.take n, rfl, q, t.take n⟩
theorem RepL.drop : ∀ {xs : List Wd} {vs : List V} (n : Nat), RepL K as H xs vs -> RepL K as H (xs.drop n) (vs.drop n)
 | _, _, 0, h => h
 | [], vs, n + 1, h => by rw [repL_nil.mp h]; exact repL_nil.mpr rfl
 | x :: xs, vs, n + 1, h => by
  obtain ⟨v, r, rfl, q, t⟩ := repL_cons.mp h
  exact t.drop n
theorem RepL.reverse : ∀ {xs : List Wd} {vs : List V}, RepL K as H xs vs -> RepL K as H xs.reverse vs.reverse
 | [], vs, h => by rw [repL_nil.mp h]; exact repL_nil.mpr rfl
 | x :: xs, vs, h => by
  obtain ⟨v, r, rfl, q, t⟩ := repL_cons.mp h
  rw [List.reverse_cons, List.reverse_cons]
  exact t.reverse.append (.one q)
theorem RepL.dropLast : ∀ {xs : List Wd} {vs : List V}, RepL K as H xs vs -> RepL K as H xs.dropLast vs.dropLast := fun {xs vs} h => by
 rw [List.dropLast_eq_take, List.dropLast_eq_take, h.length]
 exact h.take _
theorem RepL.rep {xs : List Wd} {vs : List V} (h : RepL K as H xs vs) : ∀ k : Nat, RepL K as H (List.replicate k xs).flatten (List.replicate k vs).flatten
 | 0 => repL_nil.mpr rfl
 | k + 1 => by
  rw [List.replicate_succ, List.replicate_succ, List.flatten_cons, List.flatten_cons]
  exact h.append (RepL.rep h k)
structure EnvRep (K : PySem.W.Frag) (as : List Addr) (H : Hp) (env : En) (σ : St) : Prop where
 len : env.length = σ.length
 get : ∀ (i : Nat) (w : Wd), env[i]? = some (some w) -> ∃ v, σ[i]? = some (some v) /\ Rep K as H w v
theorem EnvRep.mono {env : En} {σ : St} (G : EnvRep K as H env σ) (S : Sim K as m H) (T : Step as H as' H') : EnvRep K as' H' env σ :=
 ⟨G.len, fun i w e => let ⟨v, h1, h2⟩ := G.get i w e; ⟨v, h1, h2.mono S T⟩⟩
theorem EnvRep.kp {env : En} {σ : St} (G : EnvRep K as H env σ) (k : Kp K H H') : EnvRep K as H' env σ :=
 ⟨G.len, fun i w e => let ⟨v, h1, h2⟩ := G.get i w e; ⟨v, h1, h2.kp k⟩⟩
theorem EnvRep.set {env : En} {σ : St} (G : EnvRep K as H env σ) {w : Wd} {v : V} (h : Rep K as H w v) (i : Nat) : EnvRep K as H (env.set i (some w)) (σ.set i (some v)) := by
 refine ⟨by simp [G.len], fun j x e => ?_⟩
 by_cases hj : j = i
 ·subst hj
  have hl : j < env.length := by
   have := (List.getElem?_eq_some_iff.mp e).1
   simpa using this
  rw [List.getElem?_set_self hl] at e
  cases e
  exact ⟨v, List.getElem?_set_self (by rw [<- G.len]; exact hl), h⟩
 ·rw [List.getElem?_set_ne (Ne.symm hj)] at e
  obtain ⟨u, h1, h2⟩ := G.get j x e
  exact ⟨u, by rw [List.getElem?_set_ne (Ne.symm hj)]; exact h1, h2⟩
theorem EnvRep.push {env : En} {σ : St} (G : EnvRep K as H env σ) {w : Wd} {v : V} (h : Rep K as H w v) : EnvRep K as H (env ++ [some w]) (σ ++ [some v]) := by
 refine ⟨by simp [G.len], fun j x e => ?_⟩
 by_cases hj : j < env.length
 ·rw [List.getElem?_append_left hj] at e
  obtain ⟨u, h1, h2⟩ := G.get j x e
  exact ⟨u, by rw [List.getElem?_append_left (by rw [<- G.len]; exact hj)]; exact h1, h2⟩
 ·rw [List.getElem?_append_right (by omega)] at e
  have hz : j - env.length = 0 := by
   cases hq : j - env.length with
   | zero => rfl
   | succ k => rw [hq] at e; simp at e
  rw [hz] at e
  simp at e
  subst e
  refine ⟨v, ?_, h⟩
  rw [List.getElem?_append_right (by rw [<- G.len]; omega), <- G.len, hz]
  rfl
def Post (K : PySem.W.Frag) (as : List Addr) (H : Hp) (Q : VK) (r : Rz) : Prop := match r with
 | .ok w m' => ∀ as' H' v, Step as H as' H' -> Sim K as' m' H' -> Rep K as' H' w v -> Q v H'
 | _ => False
theorem Post.step {Q : VK} {r : Rz} (h : Post K as H Q r) (T : Step as H as' H') : Post K as' H' Q r := by
 cases r with
 | ok w m' => exact fun as2 H2 v U S R => h as2 H2 v (T.trans U) S R
 | exc c w m' => exact h
 | no => exact h
theorem Post.bind {Q Q1 : VK} {r : Rz} {f : Wd -> Me -> Rz} (h : Post K as H Q (r.bind f))
  (k : ∀ w m' as' H' v, Step as H as' H' -> Sim K as' m' H' -> Rep K as' H' w v -> Post K as' H' Q (f w m') -> Q1 v H') : Post K as H Q1 r := by
 cases r with
 | ok w m' => exact fun as2 H2 v U S R => k w m' as2 H2 v U S R (Post.step (r := f w m') h U)
 | exc c w m' => exact h
 | no => exact h
theorem Post.bindAt {Q Q1 : VK} {r : Rz} {f : Wd -> Me -> Rz} (h : Post K as H Q (r.bind f)) (T : Step as H as' H')
  (k : ∀ w m2 as2 H2 v, Step as' H' as2 H2 -> Sim K as2 m2 H2 -> Rep K as2 H2 w v -> Post K as H Q (f w m2) -> Q1 v H2) : Post K as' H' Q1 r := by
 cases r with
 | ok w m' => exact fun as2 H2 v U S R => k w m' as2 H2 v U S R h
 | exc c w m' => exact h
 | no => exact h
def tOf (K : PySem.W.Frag) (g : En -> Me -> Rz) : TE := fun σ H Q => ∃ as env m, Sim K as m H /\ EnvRep K as H env σ /\ Post K as H Q (g env m)
def tOfT (K : PySem.W.Frag) (g : En -> Me -> Rz) : TT := fun σ H Q => tOf K g σ H fun v H' => ∃ b, v = .bl b /\ Q b H'
theorem Post.ok {Q : VK} {w : Wd} {v : V} (h : Post K as H Q (.ok w m)) (S : Sim K as m H) (R : Rep K as H w v) : Q v H := h as H v .refl S R
end
theorem PE.imp {X : Cx} {e : Expr} {t t' : TE} (h : PE X e t) (k : ∀ σ H Q, t' σ H Q -> t σ H Q) : PE X e t' := fun pins s σ H Q I q => h pins s σ H Q I (k σ H Q q)
theorem PT.imp {X : Cx} {e : Expr} {t t' : TT} (h : PT X e t) (k : ∀ σ H Q, t' σ H Q -> t σ H Q) : PT X e t' := fun pins s σ H Q I q => h pins s σ H Q I (k σ H Q q)
theorem PA.imp {X : Cx} {es : List Expr} {t t' : TA} (h : PA X es t) (k : ∀ σ H Q, t' σ H Q -> t σ H Q) : PA X es t' := fun pos pins s σ H Q I q => h pos pins s σ H Q I (k σ H Q q)
theorem PS.imp {X : Cx} {st : Stmt} {t t' : TS} (h : PS X st t) (k : ∀ D σ H, t' D σ H -> t D σ H) : PS X st t' := fun pins s σ H D I q => h pins s σ H D I (k D σ H q)
theorem PSs.imp {X : Cx} {st : List Stmt} {t t' : TS} (h : PSs X st t) (k : ∀ D σ H, t' D σ H -> t D σ H) : PSs X st t' := fun pins s σ H D I q => h pins s σ H D I (k D σ H q)
end Mini
namespace Mini
open PySem PySem.Spec PyProof.Rows L2
section
variable {K : PySem.W.Frag} {as as' : List Addr} {H H' : Hp} {m m' : Me} {Q : VK} {a p : Addr} {l : Nat} {ws xs : List Wd} {vs us : List V}
theorem lim_line : lim <= sizeLine := by rw [sizeLine_eq]; decide
theorem Sim.new (S : Sim K as m H) (hp : H p = none) : p ∉ as := fun z => by
 obtain ⟨us, e⟩ := S.isLst z
 rw [hp] at e; cases e
theorem Sim.alloc (S : Sim K as m H) (hp : H p = none) (R : RepL K as H ws vs) : Step as H (as ++ [p]) (upd H p (.lst vs)) /\ Sim K (as ++ [p]) (m ++ [.lst ws]) (upd H p (.lst vs)) := by
 have hn := S.new hp
 have T : Step as H (as ++ [p]) (upd H p (.lst vs)) := ⟨⟨[p], rfl⟩, fun b o h _ => by rw [upd_ne (ne_of_none h hp)]; exact h, fun b hb => by
  rcases List.mem_append.mp hb with z | z
  ·exact .inl z
  ·exact .inr (by rw [List.mem_singleton.mp z]; exact hp)⟩
 refine ⟨T, ⟨by simp [S.len], ?_, fun l b o h1 h2 => ?_⟩⟩
 ·refine List.nodup_append.mpr ⟨S.nd, by simp, fun x hx y hy => ?_⟩
  rw [List.mem_singleton.mp hy]
  rintro rfl
  exact hn hx
 ·by_cases hl : l < as.length
  ·rw [List.getElem?_append_left hl] at h1
   rw [List.getElem?_append_left (by rw [<- S.len]; exact hl)] at h2
   have q := S.obj l b o h1 h2
   cases o with
   | lst ys =>
    obtain ⟨zs, e, r⟩ := q
    exact ⟨zs, by rw [upd_ne (ne_of_none e hp)]; exact e, r.mono S T⟩
   | dct kvs => exact q.elim
  ·rw [List.getElem?_append_right (by omega)] at h1
   rw [List.getElem?_append_right (by rw [<- S.len]; omega)] at h2
   have hz : l - as.length = 0 := by
    cases hq : l - as.length with
    | zero => rfl
    | succ k => rw [hq] at h1; simp at h1
   rw [hz] at h1
   rw [<- S.len, hz] at h2
   simp at h1 h2
   subst h1; subst h2
   exact ⟨vs, upd_same, R.mono S T⟩
theorem Sim.set (S : Sim K as m H) (ha : as[l]? = some a) (hm : m[l]? = some (.lst xs)) (R : RepL K as H ws vs) : Step as H as (upd H a (.lst vs)) /\ Sim K as (m.set l (.lst ws)) (upd H a (.lst vs)) := by
 have hin : a ∈ as := List.mem_of_getElem? ha
 have T : Step as H as (upd H a (.lst vs)) := ⟨⟨[], by simp⟩, fun b o h hb => by
  rw [upd_ne (by rintro rfl; exact hb hin)]; exact h, fun b hb => .inl hb⟩
 refine ⟨T, ⟨by simp [S.len], S.nd, fun k b o h1 h2 => ?_⟩⟩
 by_cases hk : k = l
 ·subst hk
  rw [ha] at h1; cases h1
  rw [List.getElem?_set_self (List.getElem?_eq_some_iff.mp hm).1] at h2
  cases h2
  exact ⟨vs, upd_same, R.mono S T⟩
 ·rw [List.getElem?_set_ne (Ne.symm hk)] at h2
  have q := S.obj k b o h1 h2
  have hb : b ≠ a := by
   rintro rfl
   obtain ⟨i1, e1⟩ := List.getElem?_eq_some_iff.mp h1
   obtain ⟨i2, e2⟩ := List.getElem?_eq_some_iff.mp ha
   exact hk ((List.getElem_inj S.nd).mp (e1.trans e2.symm))
  cases o with
  | lst ys =>
   obtain ⟨zs, e, r⟩ := q
   exact ⟨zs, by rw [upd_ne hb]; exact e, r.mono S T⟩
  | dct kvs => exact q.elim
theorem Sim.keep (S : Sim K as m H) (T : Step as H as H') (hk : ∀ a ∈ as, ∀ o, H a = some o -> H' a = some o) : Sim K as m H' := by
 refine ⟨S.len, S.nd, fun l b o h1 h2 => ?_⟩
 have q := S.obj l b o h1 h2
 cases o with
 | lst ys =>
  obtain ⟨zs, e, r⟩ := q
  exact ⟨zs, hk b (List.mem_of_getElem? h1) _ e, r.mono S T⟩
 | dct kvs => exact q.elim
theorem Sim.tup (S : Sim K as m H) (hp : H p = none) (R : RepL K as H ws vs) : Step as H as (upd H p (.tup vs)) /\ Sim K as m (upd H p (.tup vs)) /\ Rep K as (upd H p (.tup vs)) (.tup ws) (.ref p) := by
 have T : Step as H as (upd H p (.tup vs)) := ⟨⟨[], by simp⟩, fun b o h _ => by rw [upd_ne (ne_of_none h hp)]; exact h, fun b hb => .inl hb⟩
 exact ⟨T, S.keep T fun b _ o e => by rw [upd_ne (ne_of_none e hp)]; exact e, rep_tup.mpr ⟨p, vs, rfl, SqT.of upd_same, R.mono S T⟩⟩
theorem alloc_ok (S : Sim K as m H) (R : RepL K as H ws vs) (h : Post K as H Q (alloc m ws)) : vs.length <= lim /\ ∀ p, H p = none -> Q (.ref p) (upd H p (.lst vs)) := by
 unfold Mini.alloc at h
 by_cases hl : ws.length <= lim
 ·rw [if_pos hl] at h
  refine ⟨by rw [<- R.length]; exact hl, fun p hp => ?_⟩
  obtain ⟨T, S'⟩ := S.alloc hp R
  refine h _ _ _ T S' (rep_ref.mpr ⟨p, ?_, rfl⟩)
  rw [<- S.len, List.getElem?_append_right (Nat.le_refl _)]
  simp
 ·rw [if_neg hl] at h; exact h.elim
theorem lst_of (S : Sim K as m H) (hm : m[l]? = some (.lst xs)) : ∃ a vs, as[l]? = some a /\ H a = some (.lst vs) /\ RepL K as H xs vs := by
 obtain ⟨a, ha, vs, e, r⟩ := S.get hm
 exact ⟨a, vs, ha, e, r⟩
theorem lstAt_some {xs : List Wd} (h : lstAt m l = some xs) : m[l]? = some (.lst xs) := by
 unfold lstAt at h
 cases e : m[l]? with
 | none => rw [e] at h; cases h
 | some o => cases o with
  | lst ys => rw [e] at h; cases h; rfl
  | dct kvs => rw [e] at h; cases h
theorem seq_of (S : Sim K as m H) {w : Wd} {v : V} (R : Rep K as H w v) (h : seqOf m w = some xs) : ∃ p vs, v = .ref p /\ (SqL K H p vs \/ SqT K H p vs) /\ RepL K as H xs vs := by
 cases w with
 | tup ys =>
  cases h
  obtain ⟨b, vs, rfl, q, r⟩ := rep_tup.mp R
  exact ⟨b, vs, rfl, .inr q, r⟩
 | rol ys =>
  cases h
  obtain ⟨b, vs, rfl, q, r⟩ := rep_rol.mp R
  exact ⟨b, vs, rfl, .inl q.sq, r⟩
 | ref l =>
  obtain ⟨b, hb, rfl⟩ := rep_ref.mp R
  obtain ⟨a, vs, ha, e, r⟩ := lst_of S (lstAt_some h)
  rw [hb] at ha; cases ha
  exact ⟨b, vs, rfl, .inl (SqL.of e), r⟩
 | non => cases h
 | bl b => cases h
 | int i => cases h
 | str s => cases h
def opK : Bo -> Operator
 | .add => .Add | .sub => .Sub | .mul => .Mult | .fdiv => .FloorDiv | .mod => .Mod | .pow => .Pow
def rB (K : PySem.W.Frag) : Bo -> R2
 | .add => fun x y H Q => rI0 (fun i j => .int (i + j)) x y H Q \/ (rCat x y H Q \/ rCatT K x y H Q)
 | .sub => rI0 fun i j => .int (i - j)
 | .mul => fun x y H Q => rI CMul (fun i j => .int (i * j)) x y H Q \/ rRep x y H Q
 | .fdiv => rI CDiv fun i j => .int (i / j)
 | .mod => rI (fun _ j => 0 < j) fun i j => .int (i % j)
 | .pow => rI CPow fun i j => .int (i ^ j.toNat)
theorem op_rB {X : Cx} (op : Bo) : OpR X (binaryOp (opK op)) (rB X.K op) := by
 cases op with
 | add => exact op_add.or (op_cat.or op_catT)
 | sub => exact op_sub
 | mul => exact op_mul.or op_rep
 | fdiv => exact op_fdiv
 | mod => exact op_mod
 | pow => exact op_pow
theorem small_iff {i : Int} (h : small i = true) : -(2 ^ 64) < i /\ i < 2 ^ 64 := by
 unfold small big at h
 rw [Bool.and_eq_true, decide_eq_true_iff, decide_eq_true_iff] at h
 omega
theorem bop_ok {op : Bo} {x y : Wd} {v u : V} (S : Sim K as m H) (Rx : Rep K as H x v) (Ry : Rep K as H y u) (h : Post K as H Q (bop op x y m)) : rB K op v u H Q := by
 unfold bop at h
 split at h
 ·rename_i i j
  obtain rfl := rep_int.mp Rx
  obtain rfl := rep_int.mp Ry
  cases op with
  | add => exact .inl ⟨i, j, rfl, rfl, h.ok S (rep_int.mpr rfl)⟩
  | sub => exact ⟨i, j, rfl, rfl, h.ok S (rep_int.mpr rfl)⟩
  | mul =>
   simp only [] at h
   split at h
   ·rename_i hs
    refine .inl ⟨i, j, rfl, rfl, ?_, h.ok S (rep_int.mpr rfl)⟩
    rcases Bool.or_eq_true_iff.mp hs with q | q
    ·exact .inl (small_iff q)
    ·exact .inr (small_iff q)
   ·exact h.elim
  | fdiv =>
   simp only [] at h
   split at h
   ·rename_i hs
    exact ⟨i, j, rfl, rfl, hs, h.ok S (rep_int.mpr rfl)⟩
   ·exact h.elim
  | mod =>
   simp only [] at h
   split at h
   ·rename_i hs
    exact ⟨i, j, rfl, rfl, hs, h.ok S (rep_int.mpr rfl)⟩
   ·exact h.elim
  | pow =>
   simp only [] at h
   split at h
   ·rename_i hs
    obtain ⟨h1, h2, h3⟩ := hs
    have h4 := small_iff h3
    exact ⟨i, j, rfl, rfl, ⟨h1, h2, by omega⟩, h.ok S (rep_int.mpr rfl)⟩
   ·exact h.elim
 ·rename_i a b
  obtain ⟨pa, ha, rfl⟩ := rep_ref.mp Rx
  obtain ⟨pb, hb, rfl⟩ := rep_ref.mp Ry
  split at h
  ·rename_i xs ys e1 e2
   obtain ⟨pa', va, ha', ea, ra⟩ := lst_of S e1
   rw [ha] at ha'; cases ha'
   obtain ⟨pb', vb, hb', eb, rb⟩ := lst_of S e2
   rw [hb] at hb'; cases hb'
   obtain ⟨hl, q⟩ := alloc_ok S (ra.append rb) h
   rw [List.length_append] at hl
   exact .inr (.inl ⟨pa, pb, va, vb, rfl, rfl, ea, eb, Nat.le_trans hl lim_line, q⟩)
  ·exact h.elim
 ·rename_i a k
  obtain ⟨pa, ha, rfl⟩ := rep_ref.mp Rx
  obtain rfl := rep_int.mp Ry
  split at h
  ·rename_i xs e1
   obtain ⟨pa', va, ha', ea, ra⟩ := lst_of S e1
   rw [ha] at ha'; cases ha'
   split at h
   ·rename_i hk
    obtain ⟨hl, q⟩ := alloc_ok S (ra.rep k.toNat) h
    rw [len_rep] at hl
    have hlim : (lim : Int) = 100000 := rfl
    exact .inr ⟨pa, k, va, rfl, rfl, ea, by omega, by omega, by rw [Nat.mul_comm]; exact Nat.le_trans hl lim_line, q⟩
   ·exact h.elim
  ·exact h.elim
 ·rename_i xs ys
  split at h
  ·split at h
   ·rename_i hc
    obtain ⟨pa, va, rfl, qa, ra⟩ := rep_tup.mp Rx
    obtain ⟨pb, vb, rfl, qb, rb⟩ := rep_tup.mp Ry
    have la := ra.length
    have lb := rb.length
    refine .inr (.inr ⟨pa, pb, va, vb, rfl, rfl, qa, qb, ?_, ?_, fun e => ?_, fun e p hp => ?_⟩)
    ·rintro rfl
     cases xs with
     | nil => simp at hc
     | cons x xs => simp at la
    ·rw [<- la, <- lb]; exact Nat.le_trans hc.1 lim_line
    ·subst e
     obtain rfl : ys = [] := by
      cases ys with
      | nil => rfl
      | cons y ys => simp at lb
     refine h.ok S (rep_tup.mpr ⟨pa, va, rfl, qa, ?_⟩)
     rw [List.append_nil]; exact ra
    ·obtain ⟨T, S', R'⟩ := S.tup hp (ra.append rb)
     exact h _ _ _ T S' R'
   ·exact h.elim
  ·exact h.elim
 ·exact h.elim
end
end Mini
namespace Mini
open PySem PySem.Spec PyProof.Rows L2
open PySem.SeqAt
section
variable {X : Cx} {pins : List (Addr × Obj)} {σ : St} {s : Shared} {as : List Addr} {H : Hp} {m : Me}
theorem not_both {a : Addr} {xs ys : List V} (I : Inv X pins σ H s) (h1 : SqT X.K H a xs) (h2 : SqL X.K H a ys) : False := by
 obtain ⟨its, _, p, _⟩ := I.tuple h1
 obtain ⟨its', _, q, _⟩ := I.list h2
 exact ne_of_list_tuple q.isList (show s.heap.IsTuple a its.toArray from p) rfl
theorem not_known {a : Addr} {xs : List V} {u : HO} (I : Inv X pins σ H s) (h1 : KL X.K a xs) (h2 : H a = some u) : False := by
 obtain ⟨o, _, _, hk, _⟩ := h1
 have := (I.bs a o (I.ok.mod.kin a o hk)).2
 rw [this] at h2; cases h2
mutual
theorem rep_inj (I : Inv X pins σ H s) (S : Sim X.K as m H) : ∀ (w w' : Wd) (v : V), Rep X.K as H w v -> Rep X.K as H w' v -> w = w'
 | .non, w', v, h, h' => by
  obtain rfl := rep_non.mp h
  cases w' with
  | non => rfl
  | bl b => cases rep_bl.mp h'
  | int i => cases rep_int.mp h'
  | str x => cases rep_str.mp h'
  | tup xs => obtain ⟨_, _, e, _⟩ := rep_tup.mp h'; cases e
  | rol xs => obtain ⟨_, _, e, _⟩ := rep_rol.mp h'; cases e
  | ref l => obtain ⟨_, _, e⟩ := rep_ref.mp h'; cases e
 | .bl c, w', v, h, h' => by
  obtain rfl := rep_bl.mp h
  cases w' with
  | non => cases rep_non.mp h'
  | bl b => cases rep_bl.mp h'; rfl
  | int i => cases rep_int.mp h'
  | str x => cases rep_str.mp h'
  | tup xs => obtain ⟨_, _, e, _⟩ := rep_tup.mp h'; cases e
  | rol xs => obtain ⟨_, _, e, _⟩ := rep_rol.mp h'; cases e
  | ref l => obtain ⟨_, _, e⟩ := rep_ref.mp h'; cases e
 | .int c, w', v, h, h' => by
  obtain rfl := rep_int.mp h
  cases w' with
  | non => cases rep_non.mp h'
  | bl b => cases rep_bl.mp h'
  | int i => cases rep_int.mp h'; rfl
  | str x => cases rep_str.mp h'
  | tup xs => obtain ⟨_, _, e, _⟩ := rep_tup.mp h'; cases e
  | rol xs => obtain ⟨_, _, e, _⟩ := rep_rol.mp h'; cases e
  | ref l => obtain ⟨_, _, e⟩ := rep_ref.mp h'; cases e
 | .str c, w', v, h, h' => by
  obtain rfl := rep_str.mp h
  cases w' with
  | non => cases rep_non.mp h'
  | bl b => cases rep_bl.mp h'
  | int i => cases rep_int.mp h'
  | str x =>
   have e := rep_str.mp h'
   injection e with e
   injection e with e
   have : c = x := by simpa using congrArg Array.toList e
   rw [this]
  | tup xs => obtain ⟨_, _, e, _⟩ := rep_tup.mp h'; cases e
  | rol xs => obtain ⟨_, _, e, _⟩ := rep_rol.mp h'; cases e
  | ref l => obtain ⟨_, _, e⟩ := rep_ref.mp h'; cases e
 | .tup xs, w', v, h, h' => by
  obtain ⟨a, vs, rfl, q, r⟩ := rep_tup.mp h
  cases w' with
  | non => cases rep_non.mp h'
  | bl b => cases rep_bl.mp h'
  | int i => cases rep_int.mp h'
  | str x => cases rep_str.mp h'
  | tup ys =>
   obtain ⟨b, us, e, q', r'⟩ := rep_tup.mp h'
   cases e
   obtain rfl := I.tuple_inj q q'
   rw [repL_inj I S xs ys vs r r']
  | rol ys =>
   obtain ⟨b, us, e, q', r'⟩ := rep_rol.mp h'
   cases e
   exact (not_both I q q'.sq).elim
  | ref l =>
   obtain ⟨b, hb, e⟩ := rep_ref.mp h'
   cases e
   obtain ⟨us, e2⟩ := S.isLst (List.mem_of_getElem? hb)
   exact (not_both I q (SqL.of e2)).elim
 | .rol xs, w', v, h, h' => by
  obtain ⟨a, vs, rfl, q, r⟩ := rep_rol.mp h
  cases w' with
  | non => cases rep_non.mp h'
  | bl b => cases rep_bl.mp h'
  | int i => cases rep_int.mp h'
  | str x => cases rep_str.mp h'
  | tup ys =>
   obtain ⟨b, us, e, q', r'⟩ := rep_tup.mp h'
   cases e
   exact (not_both I q' q.sq).elim
  | rol ys =>
   obtain ⟨b, us, e, q', r'⟩ := rep_rol.mp h'
   cases e
   obtain rfl := I.list_inj q.sq q'.sq
   rw [repL_inj I S xs ys vs r r']
  | ref l =>
   obtain ⟨b, hb, e⟩ := rep_ref.mp h'
   cases e
   obtain ⟨us, e2⟩ := S.isLst (List.mem_of_getElem? hb)
   rcases q with ⟨o, q⟩ | q
   ·rw [e2] at q; cases q
   ·exact (not_known I q e2).elim
 | .ref l, w', v, h, h' => by
  obtain ⟨a, ha, rfl⟩ := rep_ref.mp h
  obtain ⟨us, e2⟩ := S.isLst (List.mem_of_getElem? ha)
  cases w' with
  | non => cases rep_non.mp h'
  | bl b => cases rep_bl.mp h'
  | int i => cases rep_int.mp h'
  | str x => cases rep_str.mp h'
  | tup ys =>
   obtain ⟨b, us, e, q', r'⟩ := rep_tup.mp h'
   cases e
   exact (not_both I q' (SqL.of e2)).elim
  | rol ys =>
   obtain ⟨b, us, e, q', r'⟩ := rep_rol.mp h'
   cases e
   rcases q' with ⟨o, q'⟩ | q'
   ·rw [e2] at q'; cases q'
   ·exact (not_known I q' e2).elim
  | ref l' =>
   obtain ⟨b, hb, e⟩ := rep_ref.mp h'
   cases e
   obtain ⟨i1, e1⟩ := List.getElem?_eq_some_iff.mp ha
   obtain ⟨i2, e2⟩ := List.getElem?_eq_some_iff.mp hb
   rw [(List.getElem_inj S.nd).mp (e1.trans e2.symm)]
theorem repL_inj (I : Inv X pins σ H s) (S : Sim X.K as m H) : ∀ (xs ys : List Wd) (vs : List V), RepL X.K as H xs vs -> RepL X.K as H ys vs -> xs = ys
 | [], ys, vs, h, h' => by
  obtain rfl := repL_nil.mp h
  cases ys with
  | nil => rfl
  | cons y ys => obtain ⟨_, _, e, _⟩ := repL_cons.mp h'; cases e
 | x :: xs, ys, vs, h, h' => by
  obtain ⟨v, r, rfl, q, t⟩ := repL_cons.mp h
  cases ys with
  | nil => cases repL_nil.mp h'
  | cons y ys =>
   obtain ⟨v', r', e, q', t'⟩ := repL_cons.mp h'
   cases e
   rw [rep_inj I S x y v q q', repL_inj I S xs ys r t t']
end
theorem eqL_all {p : Wd -> Wd -> Option Bool} : ∀ {xs ys : List Wd} {r : Bool}, eqL p xs ys = some r ->
  ∃ f : Nat -> Bool, (∀ j x y, xs[j]? = some x -> ys[j]? = some y -> p x y = some (f j)) /\ r = (List.range (min xs.length ys.length)).all f
 | [], ys, r, h => by
  unfold eqL at h
  cases h
  exact ⟨fun _ => true, fun j x y e => by simp at e, by simp⟩
 | _ :: _, [], r, h => by
  unfold eqL at h
  cases h
  exact ⟨fun _ => true, fun j x y _ e => by simp at e, by simp⟩
 | x :: xs, y :: ys, r, h => by
  unfold eqL at h
  cases hp : p x y with
  | none => rw [hp] at h; cases h
  | some b =>
   rw [hp] at h
   simp only [] at h
   cases hr : eqL p xs ys with
   | none => rw [hr] at h; cases h
   | some r' =>
    rw [hr] at h
    cases h
    obtain ⟨f, hf, e⟩ := eqL_all (xs := xs) (ys := ys) hr
    refine ⟨fun j => match j with | 0 => b | j + 1 => f j, fun j x' y' e1 e2 => ?_, ?_⟩
    ·cases j with
     | zero => simp at e1 e2; subst e1; subst e2; exact hp
     | succ j => exact hf j x' y' (by simpa using e1) (by simpa using e2)
    ·rw [List.length_cons, List.length_cons, Nat.succ_min_succ, List.range_succ_eq_map, List.all_cons, List.all_map, e]
     rfl
theorem eqW_same : ∀ (k : Nat) (w : Wd) (r : Bool), eqW m k w w = some r -> r = true
 | 0, w, r, h => by cases h
 | k + 1, w, r, h => by
  cases w with
  | non => cases h; rfl
  | bl b => cases h; simp
  | int i => cases h; simp
  | str x => cases h; simp
  | tup xs =>
   replace h : (eqL (eqW m k) xs xs).map (· && decide (xs.length = xs.length)) = some r := h
   cases hr : eqL (eqW m k) xs xs with
   | none => rw [hr] at h; cases h
   | some r' =>
    rw [hr] at h
    simp only [Option.map_some, decide_true, Bool.and_true] at h
    cases h
    obtain ⟨f, hf, rfl⟩ := eqL_all hr
    rw [List.all_eq_true]
    intro j hj
    have hj' : j < xs.length := by simpa using hj
    exact eqW_same k xs[j] (f j) (hf j xs[j] xs[j] (by simp [hj']) (by simp [hj']))
  | rol xs => cases h
  | ref l =>
   replace h : (if l = l then (if isLst m l then some true else none) else match m[l]?, m[l]? with
    | some (.lst xs), some (.lst ys) => if xs.length = ys.length then eqL (eqW m k) xs ys else some false
    | _, _ => none) = some r := h
   simp only [if_true] at h
   split at h
   ·cases h; rfl
   ·cases h
structure Eqs (A : Around) (s : Shared) (u u' : Value) (r : Bool) : Prop where
 it : EqAt A s u u' r
 eq : RcAt A s u u' r
 ne : RcNeAt A s u u' (!r)
theorem isLst_of (S : Sim X.K as m H) (I : Inv X pins σ H s) {l : Nat} {v : V} {u : Value} (h : isLst m l = true) (R : Rep X.K as H (.ref l) v) (ru : RelV v u) : ∃ b its, u = .ref b /\ s.heap.IsList b its := by
 unfold isLst at h
 cases e : m[l]? with
 | none => rw [e] at h; cases h
 | some o =>
  cases o with
  | dct kvs => rw [e] at h; cases h
  | lst xs =>
   obtain ⟨b, hb, rfl⟩ := rep_ref.mp R
   obtain ⟨a, vs, ha, ea, ra⟩ := lst_of S e
   rw [hb] at ha; cases ha
   obtain rfl : u = .ref b := ru
   obtain ⟨its, _, p, _⟩ := I.list (SqL.of ea)
   exact ⟨b, _, rfl, p.isList⟩
theorem tup_of (I : Inv X pins σ H s) {xs : List Wd} {v : V} {u : Value} (R : Rep X.K as H (.tup xs) v) (ru : RelV v u) : ∃ b vs its, v = .ref b /\ u = .ref b /\ RepL X.K as H xs vs /\ Vals vs its /\ s.heap.IsTuple b its.toArray := by
 obtain ⟨b, vs, rfl, q, r⟩ := rep_tup.mp R
 obtain rfl : u = .ref b := ru
 obtain ⟨its, rv, p, _⟩ := I.tuple q
 exact ⟨b, vs, its, rfl, rfl, r, rv, p⟩
theorem eq_at (I : Inv X pins σ H s) (S : Sim X.K as m H) : ∀ (k : Nat) (A : Around) (w w' : Wd) (v v' : V) (u u' : Value) (r : Bool), A.units + k < cLine -> eqW m k w w' = some r ->
  Rep X.K as H w v -> Rep X.K as H w' v' -> RelV v u -> RelV v' u' -> Eqs A s u u' r
 | 0, _, _, _, _, _, _, _, _, _, h, _, _, _, _ => by cases h
 | k + 1, A, w, w', v, v', u, u', r, hu, h, R, R', ru, ru' => by
  have hu0 : A.units < cLine := by omega
  have hu1 : A.in1.units + k < cLine := by show A.units + 1 + k < cLine; omega
  -- items, pair by pair
  have pairs : ∀ {xs ys : List Wd} {vs us : List V} {its its' : List Value} {r : Bool}, RepL X.K as H xs vs -> RepL X.K as H ys us -> Vals vs its -> Vals us its' -> eqL (eqW m k) xs ys = some r ->
    ∃ f : Nat -> Bool, (∀ j (h1 : j < its.toArray.size) (h2 : j < its'.toArray.size), EqAt A.in1 s its.toArray[j] its'.toArray[j] (f j)) /\ r = (List.range (min its.toArray.size its'.toArray.size)).all f /\ its.toArray.size = xs.length /\ its'.toArray.size = ys.length := by
   intro xs ys vs us its its' r r1 r2 rv rv' he
   obtain ⟨f, hf, e⟩ := eqL_all he
   have l1 := r1.length
   have l2 := r2.length
   have l3 := rv.length
   have l4 := rv'.length
   have s1 : its.toArray.size = xs.length := by simp; omega
   have s2 : its'.toArray.size = ys.length := by simp; omega
   refine ⟨f, fun j h1 h2 => ?_, by rw [e, s1, s2], s1, s2⟩
   have hj : j < xs.length := by omega
   have hj2 : j < ys.length := by omega
   obtain ⟨v1, e1, q1⟩ := r1.get (i := j) (x := xs[j]) (by simp [hj])
   obtain ⟨v2, e2, q2⟩ := r2.get (i := j) (x := ys[j]) (by simp [hj2])
   obtain ⟨u1, e3, q3⟩ := rv.get e1
   obtain ⟨u2, e4, q4⟩ := rv'.get e2
   have z := eq_at I S k A.in1 xs[j] ys[j] v1 v2 u1 u2 (f j) hu1 (hf j _ _ (by simp [hj]) (by simp [hj2])) q1 q2 q3 q4
   obtain ⟨_, e5⟩ := List.getElem?_eq_some_iff.mp e3
   obtain ⟨_, e6⟩ := List.getElem?_eq_some_iff.mp e4
   have g1 : its.toArray[j] = u1 := by simpa using e5
   have g2 : its'.toArray[j] = u2 := by simpa using e6
   rw [g1, g2]
   exact z.it
  cases w with
  | tup xs =>
   obtain ⟨b, vs, its, rfl, rfl, r1, rv, p⟩ := tup_of I R ru
   cases w' with
   | tup ys =>
    obtain ⟨b', vs', its', rfl, rfl, r1', rv', p'⟩ := tup_of I R' ru'
    have rc : RcAt A s (.ref b) (.ref b') r /\ RcNeAt A s (.ref b) (.ref b') (!r) := by
     replace h : (eqL (eqW m k) xs ys).map (· && decide (xs.length = ys.length)) = some r := h
     cases hr : eqL (eqW m k) xs ys with
     | none => rw [hr] at h; cases h
     | some r' =>
      rw [hr] at h
      simp only [Option.map_some] at h
      cases h
      obtain ⟨f, hf, e, z1, z2⟩ := pairs r1 r1' rv rv' hr
      have e2 : ((List.range (min its.toArray.size its'.toArray.size)).all f && its.toArray.size == its'.toArray.size) = (r' && decide (xs.length = ys.length)) := by
       rw [e, z1, z2]
       congr 1
      exact ⟨e2 ▸ RcAt.tuples p p' hu0 hf, e2 ▸ RcNeAt.tuples p p' hu0 hf⟩
    refine ⟨?_, rc.1, rc.2⟩
    by_cases hb : b = b'
    ·subst hb
     have e := rep_inj I S _ _ _ R R'
     rw [<- e] at h
     obtain rfl := eqW_same _ _ _ h
     exact EqAt.same _
    ·exact EqAt.of_refs hb rc.1
   | ref l =>
    replace h : (if isLst m l && true then some false else none) = some r := h
    split at h
    ·rename_i hl
     cases h
     obtain ⟨b', its', rfl, q⟩ := isLst_of S I (Bool.and_eq_true_iff.mp hl).1 R' ru'
     exact ⟨EqAt.tuple_list p q hu0, RcAt.tuple_list p q hu0, RcNeAt.tuple_list p q hu0⟩
    ·cases h
   | rol ys => cases h
   | non =>
    cases h
    obtain rfl := rep_non.mp R'
    obtain rfl : u' = .none := ru'
    exact ⟨EqAt.tuple_none p hu0, RcAt.tuple_none p hu0, RcNeAt.tuple_none p hu0⟩
   | bl c =>
    cases h
    obtain rfl := rep_bl.mp R'
    obtain rfl : u' = .bool c := ru'
    exact ⟨EqAt.tuple_bool c p hu0, RcAt.tuple_bool c p hu0, RcNeAt.tuple_bool c p hu0⟩
   | int i =>
    cases h
    obtain rfl := rep_int.mp R'
    obtain ⟨t, rfl⟩ := ru'
    exact ⟨EqAt.tuple_int i t p hu0, RcAt.tuple_int i t p hu0, RcNeAt.tuple_int i t p hu0⟩
   | str x =>
    cases h
    obtain rfl := rep_str.mp R'
    obtain ⟨t, rfl⟩ := ru'
    exact ⟨EqAt.tuple_str _ t p hu0, RcAt.tuple_str _ t p hu0, RcNeAt.tuple_str _ t p hu0⟩
  | ref l =>
   cases w' with
   | ref l' =>
    obtain ⟨b, hb, rfl⟩ := rep_ref.mp R
    obtain ⟨b', hb', rfl⟩ := rep_ref.mp R'
    obtain rfl : u = .ref b := ru
    obtain rfl : u' = .ref b' := ru'
    replace h : (if l = l' then (if isLst m l then some true else none) else match m[l]?, m[l']? with
     | some (.lst xs), some (.lst ys) => if xs.length = ys.length then eqL (eqW m k) xs ys else some false
     | _, _ => none) = some r := h
    by_cases hll : l = l'
    ·subst hll
     rw [hb] at hb'; cases hb'
     rw [if_pos rfl] at h
     split at h
     ·rename_i hil
      cases h
      obtain ⟨c, its, ec, q⟩ := isLst_of S I hil R (u := .ref b) rfl
      cases ec
      have al : (List.range its.size).all (fun _ => true) = true := by simp
      have e1 := RcAt.lists (A := A) (e := fun _ => true) q q rfl hu0 (fun j h1 h2 => EqAt.same _)
      have e2 := RcNeAt.lists (A := A) (e := fun _ => true) q q rfl hu0 (fun j h1 h2 => EqAt.same _)
      rw [al] at e1 e2
      exact ⟨EqAt.same _, e1, e2⟩
     ·cases h
    ·rw [if_neg hll] at h
     have hbb : b ≠ b' := by
      rintro rfl
      obtain ⟨i1, e1⟩ := List.getElem?_eq_some_iff.mp hb
      obtain ⟨i2, e2⟩ := List.getElem?_eq_some_iff.mp hb'
      exact hll ((List.getElem_inj S.nd).mp (e1.trans e2.symm))
     split at h
     ·rename_i xs ys m1 m2
      obtain ⟨a1, vs, h1, g1, r1⟩ := lst_of S m1
      rw [hb] at h1; cases h1
      obtain ⟨a2, us, h2, g2, r2⟩ := lst_of S m2
      rw [hb'] at h2; cases h2
      obtain ⟨its, rv, p, _⟩ := I.list (SqL.of g1)
      obtain ⟨its', rv', p', _⟩ := I.list (SqL.of g2)
      split at h
      ·rename_i hl
       obtain ⟨f, hf, e, z1, z2⟩ := pairs r1 r2 rv rv' h
       have hsz : its.toArray.size = its'.toArray.size := by rw [z1, z2, hl]
       rw [<- hsz, Nat.min_self] at e
       have e1 := RcAt.lists p.isList p'.isList hsz hu0 hf
       have e2 := RcNeAt.lists p.isList p'.isList hsz hu0 hf
       rw [<- e] at e1 e2
       exact ⟨EqAt.of_refs hbb e1, e1, e2⟩
      ·rename_i hl
       cases h
       have l1 := r1.length
       have l2 := r2.length
       have l3 := rv.length
       have l4 := rv'.length
       have hsz : (its.toArray.size != its'.toArray.size) = true := by
        simp
        omega
       have e1 := RcAt.lists_lengths (A := A) p.isList p'.isList hsz hu0
       exact ⟨EqAt.of_refs hbb e1, e1, RcNeAt.lists_lengths p.isList p'.isList hsz hu0⟩
     ·cases h
   | tup ys =>
    replace h : (if isLst m l && true then some false else none) = some r := h
    split at h
    ·rename_i hl
     cases h
     obtain ⟨b, its, rfl, q⟩ := isLst_of S I (Bool.and_eq_true_iff.mp hl).1 R ru
     obtain ⟨b', vs', its', rfl, rfl, r1', rv', p'⟩ := tup_of I R' ru'
     exact ⟨EqAt.list_tuple q p' hu0, RcAt.list_tuple q p' hu0, RcNeAt.list_tuple q p' hu0⟩
    ·cases h
   | rol ys =>
    replace h : (if isLst m l && false then some false else none) = some r := h
    simp only [Bool.and_false, Bool.false_eq_true, if_false] at h
    cases h
   | non =>
    replace h : (if isLst m l && true then some false else none) = some r := h
    split at h
    ·rename_i hl
     cases h
     obtain ⟨b, its, rfl, q⟩ := isLst_of S I (Bool.and_eq_true_iff.mp hl).1 R ru
     obtain rfl := rep_non.mp R'
     obtain rfl : u' = .none := ru'
     exact ⟨EqAt.list_none q hu0, RcAt.list_none q hu0, RcNeAt.list_none q hu0⟩
    ·cases h
   | bl c =>
    replace h : (if isLst m l && true then some false else none) = some r := h
    split at h
    ·rename_i hl
     cases h
     obtain ⟨b, its, rfl, q⟩ := isLst_of S I (Bool.and_eq_true_iff.mp hl).1 R ru
     obtain rfl := rep_bl.mp R'
     obtain rfl : u' = .bool c := ru'
     exact ⟨EqAt.list_bool c q hu0, RcAt.list_bool c q hu0, RcNeAt.list_bool c q hu0⟩
    ·cases h
   | int i =>
    replace h : (if isLst m l && true then some false else none) = some r := h
    split at h
    ·rename_i hl
     cases h
     obtain ⟨b, its, rfl, q⟩ := isLst_of S I (Bool.and_eq_true_iff.mp hl).1 R ru
     obtain rfl := rep_int.mp R'
     obtain ⟨t, rfl⟩ := ru'
     exact ⟨EqAt.list_int i t q hu0, RcAt.list_int i t q hu0, RcNeAt.list_int i t q hu0⟩
    ·cases h
   | str x =>
    replace h : (if isLst m l && true then some false else none) = some r := h
    split at h
    ·rename_i hl
     cases h
     obtain ⟨b, its, rfl, q⟩ := isLst_of S I (Bool.and_eq_true_iff.mp hl).1 R ru
     obtain rfl := rep_str.mp R'
     obtain ⟨t, rfl⟩ := ru'
     exact ⟨EqAt.list_str _ t q hu0, RcAt.list_str _ t q hu0, RcNeAt.list_str _ t q hu0⟩
    ·cases h
  | rol xs =>
   cases w' <;> first | cases h | (replace h : (if isLst m _ && false then some false else none) = some r := h; simp at h)
  | non =>
   obtain rfl := rep_non.mp R
   obtain rfl : u = .none := ru
   cases w' with
   | rol ys => cases h
   | ref l =>
    replace h : (if isLst m l && true then some false else none) = some r := h
    split at h
    ·rename_i hl
     cases h
     obtain ⟨b, its, rfl, q⟩ := isLst_of S I (Bool.and_eq_true_iff.mp hl).1 R' ru'
     exact ⟨EqAt.none_list q hu0, RcAt.none_list q hu0, RcNeAt.none_list q hu0⟩
    ·cases h
   | tup ys =>
    cases h
    obtain ⟨b', vs', its', rfl, rfl, r1', rv', p'⟩ := tup_of I R' ru'
    exact ⟨EqAt.none_tuple p' hu0, RcAt.none_tuple p' hu0, RcNeAt.none_tuple p' hu0⟩
   | non =>
    cases h
    obtain rfl := rep_non.mp R'
    obtain rfl : u' = .none := ru'
    exact ⟨EqAt.same _, RcAt.none_none, RcNeAt.none_none⟩
   | bl c =>
    cases h
    obtain rfl := rep_bl.mp R'
    obtain rfl : u' = .bool c := ru'
    exact ⟨EqAt.none_bool c, RcAt.none_bool c, RcNeAt.none_bool c⟩
   | int i =>
    cases h
    obtain rfl := rep_int.mp R'
    obtain ⟨t, rfl⟩ := ru'
    exact ⟨EqAt.none_int i t, RcAt.none_int i t, RcNeAt.none_int i t⟩
   | str x =>
    cases h
    obtain rfl := rep_str.mp R'
    obtain ⟨t, rfl⟩ := ru'
    exact ⟨EqAt.none_str _ t, RcAt.none_str _ t, RcNeAt.none_str _ t⟩
  | bl c =>
   obtain rfl := rep_bl.mp R
   obtain rfl : u = .bool c := ru
   cases w' with
   | rol ys => cases h
   | ref l =>
    replace h : (if isLst m l && true then some false else none) = some r := h
    split at h
    ·rename_i hl
     cases h
     obtain ⟨b, its, rfl, q⟩ := isLst_of S I (Bool.and_eq_true_iff.mp hl).1 R' ru'
     exact ⟨EqAt.bool_list c q hu0, RcAt.bool_list c q hu0, RcNeAt.bool_list c q hu0⟩
    ·cases h
   | tup ys =>
    cases h
    obtain ⟨b', vs', its', rfl, rfl, r1', rv', p'⟩ := tup_of I R' ru'
    exact ⟨EqAt.bool_tuple c p' hu0, RcAt.bool_tuple c p' hu0, RcNeAt.bool_tuple c p' hu0⟩
   | non =>
    cases h
    obtain rfl := rep_non.mp R'
    obtain rfl : u' = .none := ru'
    exact ⟨EqAt.bool_none c, RcAt.bool_none c, RcNeAt.bool_none c⟩
   | bl d =>
    cases h
    obtain rfl := rep_bl.mp R'
    obtain rfl : u' = .bool d := ru'
    exact ⟨EqAt.bool_bool c d, RcAt.bool_bool c d, RcNeAt.bool_bool c d⟩
   | int i =>
    cases h
    obtain rfl := rep_int.mp R'
    obtain ⟨t, rfl⟩ := ru'
    have e : decide (b2i c = i) = ((if c then (1 : Int) else 0) == i) := by
     show decide ((if c then (1 : Int) else 0) = i) = _
     rw [Bool.beq_eq_decide_eq]
    rw [e]
    exact ⟨EqAt.bool_int c i t, RcAt.bool_int c i t, RcNeAt.bool_int c i t⟩
   | str x =>
    cases h
    obtain rfl := rep_str.mp R'
    obtain ⟨t, rfl⟩ := ru'
    exact ⟨EqAt.bool_str c _ t, RcAt.bool_str c _ t, RcNeAt.bool_str c _ t⟩
  | int i =>
   obtain rfl := rep_int.mp R
   obtain ⟨t, rfl⟩ := ru
   cases w' with
   | rol ys => cases h
   | ref l =>
    replace h : (if isLst m l && true then some false else none) = some r := h
    split at h
    ·rename_i hl
     cases h
     obtain ⟨b, its, rfl, q⟩ := isLst_of S I (Bool.and_eq_true_iff.mp hl).1 R' ru'
     exact ⟨EqAt.int_list i t q hu0, RcAt.int_list i t q hu0, RcNeAt.int_list i t q hu0⟩
    ·cases h
   | tup ys =>
    cases h
    obtain ⟨b', vs', its', rfl, rfl, r1', rv', p'⟩ := tup_of I R' ru'
    exact ⟨EqAt.int_tuple i t p' hu0, RcAt.int_tuple i t p' hu0, RcNeAt.int_tuple i t p' hu0⟩
   | non =>
    cases h
    obtain rfl := rep_non.mp R'
    obtain rfl : u' = .none := ru'
    exact ⟨EqAt.int_none i t, RcAt.int_none i t, RcNeAt.int_none i t⟩
   | bl d =>
    cases h
    obtain rfl := rep_bl.mp R'
    obtain rfl : u' = .bool d := ru'
    have e : decide (i = b2i d) = (i == (if d then (1 : Int) else 0)) := by
     show decide (i = (if d then (1 : Int) else 0)) = _
     rw [Bool.beq_eq_decide_eq]
    rw [e]
    exact ⟨EqAt.int_bool i t d, RcAt.int_bool i t d, RcNeAt.int_bool i t d⟩
   | int j =>
    cases h
    obtain rfl := rep_int.mp R'
    obtain ⟨t', rfl⟩ := ru'
    have e : decide (i = j) = (i == j) := by rw [Bool.beq_eq_decide_eq]
    rw [e]
    exact ⟨EqAt.int_int i t j t', RcAt.int_int i t j t', RcNeAt.int_int i t j t'⟩
   | str x =>
    cases h
    obtain rfl := rep_str.mp R'
    obtain ⟨t', rfl⟩ := ru'
    exact ⟨EqAt.int_str i t _ t', RcAt.int_str i t _ t', RcNeAt.int_str i t _ t'⟩
  | str x =>
   obtain rfl := rep_str.mp R
   obtain ⟨t, rfl⟩ := ru
   cases w' with
   | rol ys => cases h
   | ref l =>
    replace h : (if isLst m l && true then some false else none) = some r := h
    split at h
    ·rename_i hl
     cases h
     obtain ⟨b, its, rfl, q⟩ := isLst_of S I (Bool.and_eq_true_iff.mp hl).1 R' ru'
     exact ⟨EqAt.str_list _ t q hu0, RcAt.str_list _ t q hu0, RcNeAt.str_list _ t q hu0⟩
    ·cases h
   | tup ys =>
    cases h
    obtain ⟨b', vs', its', rfl, rfl, r1', rv', p'⟩ := tup_of I R' ru'
    exact ⟨EqAt.str_tuple _ t p' hu0, RcAt.str_tuple _ t p' hu0, RcNeAt.str_tuple _ t p' hu0⟩
   | non =>
    cases h
    obtain rfl := rep_non.mp R'
    obtain rfl : u' = .none := ru'
    exact ⟨EqAt.str_none _ t, RcAt.str_none _ t, RcNeAt.str_none _ t⟩
   | bl d =>
    cases h
    obtain rfl := rep_bl.mp R'
    obtain rfl : u' = .bool d := ru'
    exact ⟨EqAt.str_bool _ t d, RcAt.str_bool _ t d, RcNeAt.str_bool _ t d⟩
   | int j =>
    cases h
    obtain rfl := rep_int.mp R'
    obtain ⟨t', rfl⟩ := ru'
    exact ⟨EqAt.str_int _ t j t', RcAt.str_int _ t j t', RcNeAt.str_int _ t j t'⟩
   | str y =>
    cases h
    obtain rfl := rep_str.mp R'
    obtain ⟨t', rfl⟩ := ru'
    have e : decide (x = y) = ((⟨x.toArray⟩ : Str) == ⟨y.toArray⟩) := by
     by_cases hxy : x = y
     ·subst hxy; simp
     ·have : ¬ (⟨x.toArray⟩ : Str) = ⟨y.toArray⟩ := fun z => by
       injection z with z
       exact hxy (by simpa using congrArg Array.toList z)
      rw [decide_eq_false hxy]
      exact (beq_eq_false_iff_ne.mpr this).symm
    rw [e]
    exact ⟨EqAt.str_str _ t _ t', RcAt.str_str _ t _ t', RcNeAt.str_str _ t _ t'⟩
end
end Mini
namespace Mini
open PySem PySem.Spec PyProof.Rows L2
open PySem.SeqAt
def cK : Co -> CmpOp
 | .eq => .Eq | .ne => .NotEq | .lt => .Lt | .le => .LtE | .gt => .Gt | .ge => .GtE | .isN => .Is | .notN => .IsNot | .isin => .In | .notin => .NotIn
def rC (K : PySem.W.Frag) (op : Co) : R2 := fun x y H Q => ∃ as m w w', Sim K as m H /\ Rep K as H w x /\ Rep K as H w' y /\ Post K as H Q (cop op w w' m)
section
variable {X : Cx}
theorem ofB_ok {K : PySem.W.Frag} {as : List Addr} {H : Hp} {m : Me} {Q : VK} {o : Option Bool} (S : Sim K as m H) (h : Post K as H Q (ofB o m)) : ∃ b, o = some b /\ Q (.bl b) H := by
 cases o with
 | none => exact h.elim
 | some b => exact ⟨b, rfl, h.ok S (rep_bl.mpr rfl)⟩
theorem inL_all {p : Wd -> Wd -> Option Bool} {x : Wd} : ∀ {ys : List Wd} {r : Bool}, inL p x ys = some r ->
  ∃ f : Wd -> Bool, (∀ y ∈ ys, p y x = some (f y)) /\ r = ys.any f
 | [], r, h => by cases h; exact ⟨fun _ => false, fun y hy => by simp at hy, rfl⟩
 | y :: ys, r, h => by
  unfold inL at h
  cases hp : p y x with
  | none => rw [hp] at h; cases h
  | some b =>
   rw [hp] at h
   simp only [] at h
   cases hr : inL p x ys with
   | none => rw [hr] at h; cases h
   | some r' =>
    rw [hr] at h
    cases h
    obtain ⟨f, hf, rfl⟩ := inL_all hr
    classical
    refine ⟨fun z => (p z x).getD false, fun z hz => ?_, ?_⟩
    ·rcases List.mem_cons.mp hz with rfl | hz
     ·simp only [hp, Option.getD_some]
     ·simp only [hf z hz, Option.getD_some]
    ·rw [List.any_cons, hp]
     congr 1
     refine Bool.eq_iff_iff.mpr ?_
     rw [List.any_eq_true, List.any_eq_true]
     constructor
     ·rintro ⟨z, hz, e⟩
      exact ⟨z, hz, by rw [hf z hz]; exact e⟩
     ·rintro ⟨z, hz, e⟩
      rw [hf z hz] at e
      exact ⟨z, hz, e⟩
theorem in_items {pins : List (Addr × Obj)} {σ : St} {s : Shared} {as : List Addr} {H : Hp} {m : Me} {A : Around} (I : Inv X pins σ H s) (S : Sim X.K as m H) (hu : A.units + deep < cLine) {w : Wd} {v : V} {u : Value} {ys : List Wd} {vs : List V} {its : List Value} {r : Bool}
  (R : Rep X.K as H w v) (ru : RelV v u) (ry : RepL X.K as H ys vs) (rv : Vals vs its) (h : inL (eqW m deep) w ys = some r) :
  ∃ e : Value -> Bool, (∀ y, y ∈ its.toArray -> EqAt A s y u (e y)) /\ its.toArray.any e = r := by
 obtain ⟨f, hf, rfl⟩ := inL_all h
 classical
 -- the plain value of an item
 have pick : ∀ y, y ∈ its -> ∃ z, z ∈ ys /\ ∃ vz, Rep X.K as H z vz /\ RelV vz y := fun y hy => by
  obtain ⟨j, hj, rfl⟩ := List.mem_iff_getElem.mp hy
  have l1 := ry.length
  have l2 := rv.length
  have hj1 : j < vs.length := by omega
  obtain ⟨u1, e1, q1⟩ := rv.get (i := j) (x := vs[j]) (by simp [hj1])
  obtain ⟨z, e2, q2⟩ := ry.back (i := j) (v := vs[j]) (by simp [hj1])
  obtain ⟨_, e3⟩ := List.getElem?_eq_some_iff.mp e1
  exact ⟨z, List.mem_of_getElem? e2, vs[j], q2, by rw [e3]; exact q1⟩
 let e : Value -> Bool := fun y => if hy : y ∈ its then f (Classical.choose (pick y hy)) else false
 have he : ∀ y (hy : y ∈ its) z vz, z ∈ ys -> Rep X.K as H z vz -> RelV vz y -> e y = f z := fun y hy z vz hz hr hq => by
  obtain ⟨h1, vz', h2, h3⟩ := Classical.choose_spec (pick y hy)
  have : e y = f (Classical.choose (pick y hy)) := dif_pos hy
  rw [this]
  have hv : vz' = vz := h3.inj hq
  subst hv
  rw [rep_inj I S _ _ _ h2 hr]
 refine ⟨e, fun y hy => ?_, ?_⟩
 ·have hy' : y ∈ its := by simpa using hy
  obtain ⟨z, hz, vz, q1, q2⟩ := pick y hy'
  rw [he y hy' z vz hz q1 q2]
  exact (eq_at I S deep A z w vz v y u (f z) hu (hf z hz) q1 R q2 ru).it
 ·refine Bool.eq_iff_iff.mpr ?_
  rw [List.any_toArray, List.any_eq_true, List.any_eq_true]
  constructor
  ·rintro ⟨y, hy, ey⟩
   obtain ⟨z, hz, vz, q1, q2⟩ := pick y hy
   rw [he y hy z vz hz q1 q2] at ey
   exact ⟨z, hz, ey⟩
  ·rintro ⟨z, hz, ez⟩
   obtain ⟨j, hj, rfl⟩ := List.mem_iff_getElem.mp hz
   obtain ⟨v1, e1, q1⟩ := ry.get (i := j) (x := ys[j]) (by simp [hj])
   obtain ⟨u1, e2, q2⟩ := rv.get e1
   have hy : u1 ∈ its := List.mem_of_getElem? e2
   exact ⟨u1, hy, by rw [he u1 hy ys[j] v1 (List.getElem_mem hj) q1 q2]; exact ez⟩
theorem op_rC (hu : X.A.units + 64 < cLine) (op : Co) : OpR X (compareOp (cK op)) (rC X.K op) := by
 intro pins s σ H x y v u Q I rx ry h
 obtain ⟨as, m, w, w', S, R, R', q⟩ := h
 have hd : deep = 12 := rfl
 have fin : ∀ {b : Bool}, Q (.bl b) H -> EP X pins σ Q (.bool b) s := fun {b} q => ⟨.bl b, H, I, rfl, q⟩
 have cmpI : ∀ {r : Int -> Int -> Bool}, Post X.K as H Q (cmpII r w w' m) -> ∃ i j, x = .int i /\ y = .int j /\ Q (.bl (r i j)) H := fun {r} q => by
  unfold cmpII at q
  cases w with
  | int i =>
   cases w' with
   | int j => exact ⟨i, j, rep_int.mp R, rep_int.mp R', q.ok S (rep_bl.mpr rfl)⟩
   | _ => exact q.elim
  | _ => exact q.elim
 cases op with
 | eq =>
  obtain ⟨b, hb, q⟩ := ofB_ok S q
  exact (eq_at I S deep X.A w w' x y v u b (by omega) hb R R' rx ry).eq X.prog X.w X.xe _ (fin q)
 | ne =>
  obtain ⟨b, hb, q⟩ := ofB_ok S q
  obtain ⟨c, hc, rfl⟩ := Option.map_eq_some_iff.mp hb
  exact (eq_at I S deep X.A w w' x y v u c (by omega) hc R R' rx ry).ne X.prog X.w X.xe _ (fin q)
 | isin =>
  simp only [cop] at q
  split at q
  ·rename_i ys hs
   obtain ⟨b, hb, q⟩ := ofB_ok S q
   obtain ⟨p, vs, rfl, hq, r⟩ := seq_of S R' hs
   obtain rfl : u = .ref p := ry
   rcases hq with hq | hq
   ·obtain ⟨its, rv, pl, _⟩ := I.list hq
    obtain ⟨e, he, rfl⟩ := in_items (A := X.A.in1) I S (by show X.A.units + 1 + deep < cLine; omega) R rx r rv hb
    exact in_listAt e pl.isList he (fin q)
   ·obtain ⟨its, rv, pl, _⟩ := I.tuple hq
    obtain ⟨e, he, rfl⟩ := in_items (A := X.A.in1) I S (by show X.A.units + 1 + deep < cLine; omega) R rx r rv hb
    exact in_tupleAt e (show s.heap.IsTuple p its.toArray from pl) he (fin q)
  ·exact q.elim
 | notin =>
  simp only [cop] at q
  split at q
  ·rename_i ys hs
   obtain ⟨b, hb, q⟩ := ofB_ok S q
   obtain ⟨c, hc, rfl⟩ := Option.map_eq_some_iff.mp hb
   obtain ⟨p, vs, rfl, hq, r⟩ := seq_of S R' hs
   obtain rfl : u = .ref p := ry
   rcases hq with hq | hq
   ·obtain ⟨its, rv, pl, _⟩ := I.list hq
    obtain ⟨e, he, rfl⟩ := in_items (A := X.A.in1) I S (by show X.A.units + 1 + deep < cLine; omega) R rx r rv hc
    exact notIn_listAt e pl.isList he (fin q)
   ·obtain ⟨its, rv, pl, _⟩ := I.tuple hq
    obtain ⟨e, he, rfl⟩ := in_items (A := X.A.in1) I S (by show X.A.units + 1 + deep < cLine; omega) R rx r rv hc
    exact notIn_tupleAt e (show s.heap.IsTuple p its.toArray from pl) he (fin q)
  ·exact q.elim
 | isN =>
  refine op_isN pins s σ H x y v u Q I rx ry ?_
  simp only [cop] at q
  split at q
  ·exact ⟨rep_non.mp R', by rw [rep_non.mp R]; exact q.ok S (rep_bl.mpr rfl)⟩
  ·rename_i hne
   refine ⟨rep_non.mp R', ?_⟩
   have : x ≠ .non := fun z => by
    subst z
    exact hne (rep_inj I S _ _ _ R (rep_non.mpr rfl))
   rw [decide_eq_false this]
   exact q.ok S (rep_bl.mpr rfl)
  ·exact q.elim
 | notN =>
  refine op_notN pins s σ H x y v u Q I rx ry ?_
  simp only [cop] at q
  split at q
  ·exact ⟨rep_non.mp R', by rw [rep_non.mp R]; exact q.ok S (rep_bl.mpr rfl)⟩
  ·rename_i hne
   refine ⟨rep_non.mp R', ?_⟩
   have : x ≠ .non := fun z => by
    subst z
    exact hne (rep_inj I S _ _ _ R (rep_non.mpr rfl))
   rw [decide_eq_false this]
   exact q.ok S (rep_bl.mpr rfl)
  ·exact q.elim
 | lt => exact op_lt pins s σ H x y v u Q I rx ry (cmpI q)
 | le => exact op_le pins s σ H x y v u Q I rx ry (cmpI q)
 | gt => exact op_gt pins s σ H x y v u Q I rx ry (cmpI (r := fun i j => decide (j < i)) q)
 | ge => exact op_ge pins s σ H x y v u Q I rx ry (cmpI (r := fun i j => decide (j <= i)) q)
end
end Mini
namespace Mini
open PySem PySem.Spec PyProof.Rows L2
section
variable {K : PySem.W.Frag} {as as' : List Addr} {H H' : Hp} {m m' : Me} {Q : VK} {X : Cx}
def bltV : Blf -> Option (Str × Value)
 | .len => some ("len", .builtin "len")
 | .int => some ("int", .type "int")
 | .list => some ("list", .type "list")
 | .tuple => some ("tuple", .type "tuple")
 | .abs => some ("abs", .builtin "abs")
 | .max2 => some ("max", .builtin "max")
 | .min2 => some ("min", .builtin "min")
 | .sum => some ("sum", .builtin "sum")
 | .all => some ("all", .builtin "all")
 | _ => none
def rBl (K : PySem.W.Frag) (b : Blf) : List V -> Hp -> VK -> Prop := fun vs H Q => ∃ as m ws, Sim K as m H /\ RepL K as H ws vs /\ Post K as H Q (bltR b ws m)
theorem repL_1 {x : Wd} {vs : List V} (h : RepL K as H [x] vs) : ∃ v, vs = [v] /\ Rep K as H x v := by
 obtain ⟨v, r, rfl, q, t⟩ := repL_cons.mp h
 obtain rfl := repL_nil.mp t
 exact ⟨v, rfl, q⟩
theorem repL_2 {x y : Wd} {vs : List V} (h : RepL K as H [x, y] vs) : ∃ v u, vs = [v, u] /\ Rep K as H x v /\ Rep K as H y u := by
 obtain ⟨v, r, rfl, q, t⟩ := repL_cons.mp h
 obtain ⟨u, rfl, q'⟩ := repL_1 t
 exact ⟨v, u, rfl, q, q'⟩
theorem ls_of {w : Wd} {v : V} {xs : List Wd} (S : Sim K as m H) (R : Rep K as H w v) (h : lsOf m w = some xs) : ∃ p vs, v = .ref p /\ SqL K H p vs /\ RepL K as H xs vs := by
 cases w with
 | rol ys =>
  cases h
  obtain ⟨a, vs, rfl, hq, rr⟩ := rep_rol.mp R
  exact ⟨a, vs, rfl, hq.sq, rr⟩
 | ref l =>
  obtain ⟨b, hb, rfl⟩ := rep_ref.mp R
  obtain ⟨a, vs, ha, e, r⟩ := lst_of S (lstAt_some h)
  rw [hb] at ha
  cases ha
  exact ⟨b, vs, rfl, SqL.of e, r⟩
 | _ => cases h
theorem sum_rep : ∀ {xs : List Wd} {vs : List V} {i : Int}, RepL K as H xs vs -> sumL xs = some i -> ∃ ns : List Int, vs = ns.map V.int /\ ns.sum = i
 | [], vs, i, R, h => by cases h; exact ⟨[], repL_nil.mp R, rfl⟩
 | x :: xs, vs, i, R, h => by
  obtain ⟨v, r, rfl, q, t⟩ := repL_cons.mp R
  cases x with
  | int j =>
   simp only [sumL, Option.map_eq_some_iff] at h
   obtain ⟨k, hk, rfl⟩ := h
   obtain ⟨ns, rfl, rfl⟩ := sum_rep t hk
   obtain rfl := rep_int.mp q
   exact ⟨j :: ns, rfl, by simp⟩
  | _ => cases h
theorem all_rep : ∀ {xs : List Wd} {vs : List V} {i : Bool}, RepL K as H xs vs -> allL xs = some i -> ∃ bs : List Bool, vs = bs.map V.bl /\ bs.all id = i
 | [], vs, i, R, h => by cases h; exact ⟨[], repL_nil.mp R, rfl⟩
 | x :: xs, vs, i, R, h => by
  obtain ⟨v, r, rfl, q, t⟩ := repL_cons.mp R
  cases x with
  | bl j =>
   simp only [allL, Option.map_eq_some_iff] at h
   obtain ⟨k, hk, rfl⟩ := h
   obtain ⟨ns, rfl, rfl⟩ := all_rep t hk
   obtain rfl := rep_bl.mp q
   exact ⟨j :: ns, rfl, by simp⟩
  | _ => cases h
theorem call_rBl (hc : X.calm = true) {b : Blf} {nm : Str} {f : Value} (hb : bltV b = some (nm, f)) : CallR X f (rBl X.K b) := by
 intro pins s σ H xs us Q I r h
 obtain ⟨as, m, ws, S, R, q⟩ := h
 cases b with
 | len =>
  cases hb
  refine call_len_seq pins s σ H xs us Q I r ?_
  simp only [bltR] at q
  split at q <;> try exact q.elim
  ·rename_i x
   split at q
   ·rename_i ys hs
    obtain ⟨v, rfl, q1⟩ := repL_1 R
    obtain ⟨p, vs, rfl, hq, rr⟩ := seq_of S q1 hs
    refine ⟨p, vs, rfl, hq, ?_⟩
    rw [<- rr.length]
    exact q.ok S (rep_int.mpr rfl)
   ·exact q.elim
 | int =>
  cases hb
  refine call_int1 pins s σ H xs us Q I r ?_
  simp only [bltR] at q
  split at q <;> try exact q.elim
  ·rename_i i
   obtain ⟨v, rfl, q1⟩ := repL_1 R
   obtain rfl := rep_int.mp q1
   exact .inl ⟨i, rfl, q.ok S (rep_int.mpr rfl)⟩
  ·rename_i i
   obtain ⟨v, rfl, q1⟩ := repL_1 R
   obtain rfl := rep_bl.mp q1
   exact .inr ⟨i, rfl, q.ok S (rep_int.mpr rfl)⟩
 | list =>
  cases hb
  refine call_list_of pins s σ H xs us Q I r ?_
  simp only [bltR] at q
  split at q <;> try exact q.elim
  ·rename_i x
   split at q
   ·rename_i ys hs
    obtain ⟨v, rfl, q1⟩ := repL_1 R
    obtain ⟨p, vs, rfl, hq, rr⟩ := seq_of S q1 hs
    exact ⟨p, vs, rfl, hq, (alloc_ok S rr q).2⟩
   ·exact q.elim
 | tuple =>
  cases hb
  refine call_tuple_of pins s σ H xs us Q I r ?_
  simp only [bltR] at q
  split at q <;> try exact q.elim
  ·rename_i x
   split at q
   ·rename_i ys hs
    obtain ⟨v, rfl, q1⟩ := repL_1 R
    obtain ⟨p, vs, rfl, hq, rr⟩ := seq_of S q1 hs
    refine ⟨p, vs, rfl, ?_⟩
    rcases hq with hq | hq
    ·refine .inl ⟨hq, fun l hl => ?_⟩
     obtain ⟨T, S', R'⟩ := S.tup hl rr
     exact q _ _ _ T S' R'
    ·exact .inr ⟨hq, q.ok S (rep_tup.mpr ⟨p, vs, rfl, hq, rr⟩)⟩
   ·exact q.elim
 | abs =>
  cases hb
  refine call_abs pins s σ H xs us Q I r ?_
  simp only [bltR] at q
  split at q <;> try exact q.elim
  ·rename_i i
   obtain ⟨v, rfl, q1⟩ := repL_1 R
   obtain rfl := rep_int.mp q1
   exact ⟨i, rfl, q.ok S (rep_int.mpr rfl)⟩
 | sum =>
  cases hb
  refine call_sum_of hc pins s σ H xs us Q I r ?_
  simp only [bltR] at q
  split at q <;> try exact q.elim
  ·rename_i x
   split at q
   ·rename_i i hs
    obtain ⟨ys, h1, h2⟩ := Option.bind_eq_some_iff.mp hs
    obtain ⟨v, rfl, q1⟩ := repL_1 R
    obtain ⟨p, vs, rfl, hq, rr⟩ := ls_of S q1 h1
    obtain ⟨ns, rfl, rfl⟩ := sum_rep rr h2
    exact ⟨p, ns, rfl, hq, q.ok S (rep_int.mpr rfl)⟩
   ·exact q.elim
 | all =>
  cases hb
  refine call_all_of hc pins s σ H xs us Q I r ?_
  simp only [bltR] at q
  split at q <;> try exact q.elim
  ·rename_i x
   split at q
   ·rename_i i hs
    obtain ⟨ys, h1, h2⟩ := Option.bind_eq_some_iff.mp hs
    obtain ⟨v, rfl, q1⟩ := repL_1 R
    obtain ⟨p, vs, rfl, hq, rr⟩ := ls_of S q1 h1
    obtain ⟨ns, rfl, rfl⟩ := all_rep rr h2
    exact ⟨p, ns, rfl, hq, q.ok S (rep_bl.mpr rfl)⟩
   ·exact q.elim
 | max2 =>
  cases hb
  refine call_max2 hc pins s σ H xs us Q I r ?_
  simp only [bltR] at q
  split at q <;> try exact q.elim
  ·rename_i i j
   obtain ⟨v, u, rfl, q1, q2⟩ := repL_2 R
   obtain rfl := rep_int.mp q1
   obtain rfl := rep_int.mp q2
   exact ⟨i, j, rfl, q.ok S (rep_int.mpr rfl)⟩
 | min2 =>
  cases hb
  refine call_min2 hc pins s σ H xs us Q I r ?_
  simp only [bltR] at q
  split at q <;> try exact q.elim
  ·rename_i i j
   obtain ⟨v, u, rfl, q1, q2⟩ := repL_2 R
   obtain rfl := rep_int.mp q1
   obtain rfl := rep_int.mp q2
   exact ⟨i, j, rfl, q.ok S (rep_int.mpr rfl)⟩
 | _ => cases hb
theorem idx_ok {x y : Wd} {v u : V} (S : Sim K as m H) (R : Rep K as H x v) (R' : Rep K as H y u) (h : Post K as H Q (idxR x y m)) : rIx K v u H Q := by
 unfold idxR at h
 split at h
 ·rename_i i
  obtain rfl := rep_int.mp R'
  split at h
  ·rename_i xs hs
   split at h
   ·rename_i w hw
    obtain ⟨p, vs, rfl, hq, rr⟩ := seq_of S R hs
    have e : ∃ z, atI vs i = some z /\ Rep K as H w z := by
     obtain ⟨j, hj, hx⟩ := Option.bind_eq_some_iff.mp hw
     obtain ⟨z, hz, rz⟩ := rr.get hx
     refine ⟨z, ?_, rz⟩
     unfold atI
     have hj' : ixN vs.length i = some j := by rw [<- rr.length]; exact hj
     rw [hj']
     exact hz
    obtain ⟨z, hz, rz⟩ := e
    rcases hq with hq | hq
    ·exact .inl ⟨p, vs, i, z, rfl, rfl, hq, hz, h.ok S rz⟩
    ·exact .inr (.inl ⟨p, vs, i, z, rfl, rfl, hq, hz, h.ok S rz⟩)
   ·exact h.elim
  ·exact h.elim
 ·exact h.elim
theorem set_ok {o i w : Wd} {vo vi v : V} {Q : Hp -> Prop} (S : Sim K as m H) (R : Rep K as H o vo) (R' : Rep K as H i vi) (R2 : Rep K as H w v)
  (h : ∀ m', setR o i w m = .ok .non m' -> ∀ H', Step as H as H' -> Sim K as m' H' -> Q H') (hne : ∃ m', setR o i w m = .ok .non m') : rSetL vo vi v H Q := by
 obtain ⟨m', hm'⟩ := hne
 have h := h m' hm'
 unfold setR at hm'
 split at hm'
 ·rename_i l k
  split at hm'
  ·rename_i xs hl
   split at hm'
   ·rename_i j hj
    cases hm'
    obtain ⟨a, ha, rfl⟩ := rep_ref.mp R
    obtain rfl := rep_int.mp R'
    obtain ⟨b, vs, hb, e, rr⟩ := lst_of S hl
    rw [ha] at hb; cases hb
    obtain ⟨T, S'⟩ := S.set ha hl (rr.set j R2)
    refine ⟨a, vs, k, j, rfl, rfl, e, ?_, h _ T S'⟩
    rw [<- rr.length]
    exact hj
   ·cases hm'
  ·cases hm'
 ·cases hm'
def mtV : Mth -> Str × String
 | .append => ("append", "list.append") | .extend => ("extend", "list.extend") | .pop => ("pop", "list.pop") | .reverse => ("reverse", "list.reverse") | .clear => ("clear", "list.clear") | .insert => ("insert", "list.insert")
def rMt (K : PySem.W.Frag) (n : Mth) : V -> List V -> Hp -> VK -> Prop := fun v vs H Q => ∃ as m w ws, Sim K as m H /\ Rep K as H w v /\ RepL K as H ws vs /\ Post K as H Q (mtR n w ws m)
theorem mt_rMt (n : Mth) : MtR X (mtV n).2 (rMt X.K n) := by
 intro pins s σ H v vs u us Q I r rs h
 obtain ⟨as, m, w, ws, S, R, Rs, q⟩ := h
 unfold mtR at q
 split at q
 ·rename_i l
  split at q
  ·rename_i xs hl
   obtain ⟨a, ha, rfl⟩ := rep_ref.mp R
   obtain ⟨b, zs, hb, e, rr⟩ := lst_of S hl
   rw [ha] at hb; cases hb
   have hz : zs.length <= sizeLine := (I.lstM e).1
   split at q
   ·rename_i y
    split at q
    ·rename_i hlt
     obtain ⟨z, rfl, rz⟩ := repL_1 Rs
     obtain ⟨T, S'⟩ := S.set ha hl (rr.append (.one rz))
     exact mt_append pins s σ H _ _ u us Q I r rs ⟨a, zs, z, rfl, rfl, e, by rw [<- rr.length]; exact Nat.lt_of_lt_of_le hlt lim_line, q _ _ _ T S' (rep_non.mpr rfl)⟩
    ·exact q.elim
   ·rename_i k
    split at q
    ·rename_i ys hk
     split at q
     ·rename_i hle
      obtain ⟨z, rfl, rz⟩ := repL_1 Rs
      obtain ⟨c, hc, rfl⟩ := rep_ref.mp rz
      obtain ⟨c', us', hc', e', rr'⟩ := lst_of S hk
      rw [hc] at hc'; cases hc'
      obtain ⟨T, S'⟩ := S.set ha hl (rr.append rr')
      exact mt_extend pins s σ H _ _ u us Q I r rs ⟨a, c, zs, us', rfl, rfl, e, e', by rw [<- rr.length, <- rr'.length]; exact Nat.le_trans hle lim_line, q _ _ _ T S' (rep_non.mpr rfl)⟩
     ·exact q.elim
    ·exact q.elim
   ·split at q
    ·rename_i y hy
     obtain rfl := repL_nil.mp Rs
     obtain ⟨z, hz', rz⟩ := rr.get hy
     obtain ⟨T, S'⟩ := S.set ha hl rr.dropLast
     exact mt_pop pins s σ H _ _ u us Q I r rs ⟨a, zs, z, rfl, rfl, e, by rw [<- rr.length]; exact hz', q _ _ _ T S' (rz.mono S T)⟩
    ·exact q.elim
   ·obtain rfl := repL_nil.mp Rs
    obtain ⟨T, S'⟩ := S.set ha hl rr.reverse
    exact mt_reverse pins s σ H _ _ u us Q I r rs ⟨a, zs, rfl, rfl, e, q _ _ _ T S' (rep_non.mpr rfl)⟩
   ·rename_i k0
    split at q
    ·rename_i hk0
     subst hk0
     split at q
     ·rename_i y0 r0
      obtain ⟨z, rfl, rz⟩ := repL_1 Rs
      obtain rfl := rep_int.mp rz
      obtain ⟨z0, zr, rfl, ra, rb⟩ := repL_cons.mp rr
      obtain ⟨T, S'⟩ := S.set ha hl rb
      exact mt_popAt pins s σ H _ _ u us Q I r rs ⟨a, z0 :: zr, 0, 0, z0, rfl, rfl, e, by decide, by decide, by simp [seqIndex?], rfl, q _ _ _ T S' (ra.mono S T)⟩
     ·exact q.elim
    ·exact q.elim
   ·rename_i k0 y0
    split at q
    ·rename_i hk0
     obtain ⟨rfl, hlt⟩ := hk0
     obtain ⟨z1, z2, rfl, rz1, rz2⟩ := repL_2 Rs
     obtain rfl := rep_int.mp rz1
     obtain ⟨T, S'⟩ := S.set ha hl (repL_cons.mpr ⟨_, _, rfl, rz2, rr⟩)
     exact mt_ins pins s σ H _ _ u us Q I r rs ⟨a, zs, z2, rfl, rfl, e, by rw [<- rr.length]; exact Nat.lt_of_lt_of_le hlt lim_line, q _ _ _ T S' (rep_non.mpr rfl)⟩
    ·exact q.elim
   ·obtain rfl := repL_nil.mp Rs
    obtain ⟨T, S'⟩ := S.set (ws := []) (vs := []) ha hl (repL_nil.mpr rfl)
    exact mt_clear pins s σ H _ _ u us Q I r rs ⟨a, zs, rfl, rfl, e, q _ _ _ T S' (rep_non.mpr rfl)⟩
   ·exact q.elim
  ·exact q.elim
 ·exact q.elim
def tgT : Tg -> String
 | .int => "int" | .bool => "bool" | .list => "list" | .tuple => "tuple" | .str => "str" | .dict => "dict"
theorem kit_all (K : PySem.W.Frag) (t : Tg) :
  PySem.W.kitOne K (.type "NoneType") (.type (tgT t)) = some false /\ PySem.W.kitOne K (.type "bool") (.type (tgT t)) = some (decide (t = .bool \/ t = .int)) /\ PySem.W.kitOne K (.type "int") (.type (tgT t)) = some (decide (t = .int)) /\
  PySem.W.kitOne K (.type "str") (.type (tgT t)) = some (decide (t = .str)) /\ PySem.W.kitOne K (.type "list") (.type (tgT t)) = some (decide (t = .list)) /\ PySem.W.kitOne K (.type "tuple") (.type (tgT t)) = some (decide (t = .tuple)) := by
 cases t <;> refine ⟨?_, ?_, ?_, ?_, ?_, ?_⟩ <;> kernel_rfl
def rIsi (K : PySem.W.Frag) (t : Tg) : List V -> Hp -> VK -> Prop := fun vs H Q => ∃ as m w v, vs = [v, .ty (tgT t)] /\ Sim K as m H /\ Rep K as H w v /\ Post K as H Q (ofB (isT t w m) m)
theorem call_isi (t : Tg) : CallR X (.builtin "isinstance") (rIsi X.K t) := by
 intro pins s σ H xs us Q I r h
 obtain ⟨as, m, w, v, rfl, S, R, q⟩ := h
 obtain ⟨b, hb, q⟩ := ofB_ok S q
 obtain ⟨u, u', rfl, ru, ru'⟩ := vals2 r
 obtain rfl : u' = .type (tgT t) := ru'
 obtain ⟨k1, k2, k3, k4, k5, k6⟩ := kit_all X.K t
 have fin : ∀ tk, EP X pins σ Q (.bool b) { s with toks := tk } := fun tk => ⟨.bl b, H, I.tok tk, rfl, q⟩
 cases w with
 | non =>
  obtain rfl := rep_non.mp R
  have e : b = false := by cases t <;> (cases hb; rfl)
  subst e
  exact isinst_ok I ru .non k1 fin
 | bl c =>
  obtain rfl := rep_bl.mp R
  have e : b = decide (t = .bool \/ t = .int) := by cases t <;> (cases hb; rfl)
  subst e
  exact isinst_ok I ru (.bl c) k2 fin
 | int i =>
  obtain rfl := rep_int.mp R
  have e : b = decide (t = .int) := by cases t <;> (cases hb; rfl)
  subst e
  exact isinst_ok I ru (.int i) k3 fin
 | str x =>
  obtain rfl := rep_str.mp R
  have e : b = decide (t = .str) := by cases t <;> (cases hb; rfl)
  subst e
  exact isinst_ok I ru (.str _) k4 fin
 | tup ys =>
  obtain ⟨a, vs, rfl, hq, rr⟩ := rep_tup.mp R
  have e : b = decide (t = .tuple) := by cases t <;> (cases hb; rfl)
  subst e
  obtain rfl : u = .ref a := ru
  obtain ⟨its, _, ⟨o, h1, h2, _⟩, _⟩ := I.tuple hq
  exact PySem.W.kia_one PySem.W.kitx_tuple I.kIn ⟨o, h1, h2⟩ k6 (fun z => nomatch z) fin
 | rol ys =>
  obtain ⟨a, vs, rfl, hq, rr⟩ := rep_rol.mp R
  have e : b = decide (t = .list) := by cases t <;> (cases hb; rfl)
  subst e
  obtain rfl : u = .ref a := ru
  obtain ⟨its, _, p, _⟩ := I.list hq.sq
  obtain ⟨o, n, h1, h2, _⟩ := p
  exact PySem.W.kia_one PySem.W.kitx_list I.kIn ⟨o, h1, h2⟩ k5 (fun z => nomatch z) fin
 | ref l =>
  obtain ⟨a, ha, rfl⟩ := rep_ref.mp R
  obtain ⟨us, e2⟩ := S.isLst (List.mem_of_getElem? ha)
  have hl : ∃ ys, m[l]? = some (.lst ys) := by
   have hl : l < m.length := by rw [<- S.len]; exact (List.getElem?_eq_some_iff.mp ha).1
   have z := S.obj l a m[l] ha (by simp [hl])
   cases e : m[l] with
   | lst ys => exact ⟨ys, by rw [<- e]; simp [hl]⟩
   | dct kvs => rw [e] at z; exact z.elim
  obtain ⟨ys, hl⟩ := hl
  have e : b = decide (t = .list) := by
   have hb' : (match m[l]? with | some (.lst _) => some (decide (t = .list)) | some (.dct _) => some (decide (t = .dict)) | none => none) = some b := by cases t <;> exact hb
   rw [hl] at hb'
   cases hb'; rfl
  subst e
  exact isinst_ok I ru (.lst e2) k5 fin
end
end Mini
namespace Mini
open PySem PySem.Spec PyProof.Rows L2
structure SeqIt (J : It) (vs : List V) (ok : Hp -> Prop) : Prop where
 go : ∀ i H, ok H -> i < vs.length -> J.go i H
 yld : ∀ i H x H', ok H -> i < vs.length -> J.yld i H x H' -> H' = H /\ vs[i]? = some x
 stop : ∀ i H, ok H -> vs.length <= i -> J.stop i H
def TupIt (K : PySem.W.Frag) (as : List Addr) (H : Hp) (J : It) (xs : List Wd) : Prop :=
 ∃ vs ok, SeqIt J vs ok /\ ok H /\ RepL K as H xs vs /\ ∀ H1 H2, Kp K H1 H2 -> ok H1 -> ok H2
def ItOf (K : PySem.W.Frag) (as : List Addr) (H : Hp) (w : Wd) (J : It) : Prop := match w with
 | .tup xs => TupIt K as H J xs
 | .rol xs => TupIt K as H J xs
 | .ref l => ∃ a, as[l]? = some a /\ J = Itl K a
 | _ => True
def PostI (K : PySem.W.Frag) (as : List Addr) (H : Hp) (R : It -> Hp -> Prop) (r : Rz) : Prop := match r with
 | .ok w m' => (seqOf m' w).isSome = true /\ ∀ as' H' J, Step as H as' H' -> Sim K as' m' H' -> ItOf K as' H' w J -> R J H'
 | _ => False
def iOf (K : PySem.W.Frag) (g : En -> Me -> Rz) : TI := fun σ H R => ∃ as env m, Sim K as m H /\ EnvRep K as H env σ /\ PostI K as H R (g env m)
theorem PI.or {X : Cx} {tg e : Expr} {a b : TI} (h1 : PI X tg e a) (h2 : PI X tg e b) : PI X tg e (fun σ H R => a σ H R \/ b σ H R) := fun pins s σ H R I h => by
 rcases h with h | h
 ·exact h1 pins s σ H R I h
 ·exact h2 pins s σ H R I h
theorem PI.imp {X : Cx} {tg e : Expr} {a b : TI} (h : PI X tg e a) (k : ∀ σ H R, b σ H R -> a σ H R) : PI X tg e b := fun pins s σ H R I q => h pins s σ H R I (k σ H R q)
theorem pi_of {X : Cx} {tg x : Expr} {g : En -> Me -> Rz} (h : PE X x (tOf X.K g)) : PI X tg x (iOf X.K g) := by
 refine PI.imp (PI.or (pi_list h) (pi_tup h)) fun σ H R q => ?_
 obtain ⟨as, env, m, S, G, P⟩ := q
 cases hr : g env m with
 | no => rw [hr] at P; exact P.elim
 | exc c w m' => rw [hr] at P; exact P.elim
 | ok w m' =>
  rw [hr] at P
  obtain ⟨hs, P⟩ := P
  obtain ⟨xs, hs⟩ := Option.isSome_iff_exists.mp hs
  cases w with
  | tup ys =>
   refine .inr ⟨as, env, m, S, G, ?_⟩
   rw [hr]
   intro as' H' v T S' R'
   obtain ⟨a, vs, rfl, hq, rr⟩ := rep_tup.mp R'
   refine ⟨a, rfl, ⟨vs, hq⟩, P as' H' _ T S' ⟨vs, fun H => SqT X.K H a vs, ⟨fun i H h hi => ⟨vs, vs[i], h, by simp [hi]⟩, fun i H x H' h hi q => ⟨q.1, q.2 vs h⟩, fun i H h hi => ⟨vs, h, hi⟩⟩, hq, rr, fun H1 H2 k h => k.t _ _ h⟩⟩
  | rol ys =>
   refine .inl ⟨as, env, m, S, G, ?_⟩
   rw [hr]
   intro as' H' v T S' R'
   obtain ⟨a, vs, rfl, hq, rr⟩ := rep_rol.mp R'
   refine ⟨a, rfl, ⟨vs, hq.sq⟩, P as' H' _ T S' ⟨vs, fun H => SqF X.K H a vs, ⟨fun i H h hi => ⟨vs, vs[i], h.sq, by simp [hi]⟩, fun i H x H' h hi q => ⟨q.1, q.2 vs h.sq⟩, fun i H h hi => ⟨vs, h.sq, hi⟩⟩, hq, rr, fun H1 H2 k h => k.f _ _ h⟩⟩
  | ref l =>
   refine .inl ⟨as, env, m, S, G, ?_⟩
   rw [hr]
   intro as' H' v T S' R'
   obtain ⟨a, ha, rfl⟩ := rep_ref.mp R'
   obtain ⟨us, e⟩ := S'.isLst (List.mem_of_getElem? ha)
   exact ⟨a, rfl, ⟨us, SqL.of e⟩, P as' H' _ T S' ⟨a, ha, rfl⟩⟩
  | non => cases hs
  | bl b => cases hs
  | int i => cases hs
  | str x => cases hs
theorem rngL_rep {K : PySem.W.Frag} {as : List Addr} {H : Hp} (st : Int) : ∀ (n : Nat) (lo : Int), RepL K as H (rngL lo st n) ((List.range n).map fun (i : Nat) => V.int (lo + st * (i : Int)))
 | 0, lo => repL_nil.mpr rfl
 | n + 1, lo => by
  rw [List.range_succ_eq_map, List.map_cons, List.map_map]
  refine repL_cons.mpr ⟨_, _, rfl, rep_int.mpr (by simp), ?_⟩
  have e : ((fun (i : Nat) => V.int (lo + st * (i : Int))) ∘ Nat.succ) = fun (i : Nat) => V.int (lo + st + st * (i : Int)) := by
   funext i
   show V.int (lo + st * ((i.succ : Nat) : Int)) = _
   congr 1
   rw [Nat.succ_eq_add_one, Int.natCast_add, Int.mul_add]
   omega
  rw [e]
  exact rngL_rep st n (lo + st)
theorem seqIt_rng {K : PySem.W.Frag} (lo : Int) (n : Nat) : SeqIt (Itr lo n) ((List.range n).map fun (i : Nat) => V.int (lo + 1 * (i : Int))) (fun _ => True) := by
 refine ⟨fun i H _ hi => ?_, fun i H x H' _ hi q => ?_, fun i H _ hi => ?_⟩
 ·show i < n
  simpa using hi
 ·obtain ⟨e, rfl⟩ := q
  refine ⟨e, ?_⟩
  have hi' : i < n := by simpa using hi
  rw [List.getElem?_map, List.getElem?_range hi']
  simp
 ·show n <= i
  simpa using hi
end Mini
namespace Mini
open PySem PySem.Spec PyProof.Rows L2
structure Ctx where
 fns : List Str
 cons : List (Str × Int)
inductive Nd where
 | e (x : Expr) | a (xs : List Expr)
def glB (sc : Scope) (x : Str) : Bool := decide (sc.names.lookup x = some .globalImplicit)
def visB (sc : Scope) (x : Str) : Bool := decide (sc.names.lookup x = some .local) || (decide (sc.names.lookup x = some .cell) || decide (sc.names.lookup x = some .free))
def okName (x : Str) : Bool := !(x == ("__debug__" : Str)) && !(x == ("__classdict__" : Str)) && !(x == ("__name__" : Str))
def notStar : Expr -> Bool
 | .Starred _ _ => false
 | _ => true
def notSet : Expr -> Bool
 | .Set _ _ _ => false
 | _ => true
def notSlice : Expr -> Bool
 | .Slice _ _ _ _ => false
 | _ => true
def notCall : Expr -> Bool
 | .Call _ _ _ _ => false
 | _ => true
def isRng : Ex -> Bool
 | .rng _ _ _ => true
 | _ => false
def isIf : Ex -> Bool
 | .ife _ _ _ => true
 | _ => false
def relabelS (scope sc : Scope) : Scope :=
 { scope with names := scope.names.map fun (n, k) => if (k == .free && sc.kind == .function && sc.names.lookup n == some .cell) then (n, .cell) else (n, k) }
def blockB (sc : Scope) (N : List Str) (scope : Scope) (xs : List Str) : Bool :=
 decide (scope.kind = .function) && (xs.all (fun x => decide (scope.names.lookup x = some .local) || decide (scope.names.lookup x = some .cell)) &&
 (scope.names.all (fun y => !(decide (y.2 = .local)) || decide (scope.names.lookup y.1 = some .local)) &&
 (scope.names.all (fun y => !(decide (y.2 = .free)) || (decide (sc.names.lookup y.1 = some .cell) || decide (sc.names.lookup y.1 = some .free))) &&
 (scope.names.all (fun y => !(decide (y.2 = .cell)) || !(decide (scope.names.lookup y.1 = some .free))) &&
 (N.all (fun y => decide (y ∈ xs) || (!(decide (scope.names.lookup y = some .local)) && !(decide (scope.names.lookup y = some .cell)))) &&
 (decide (compN N xs).Nodup && xs.all (fun x => decide (scope.names.lookup (dum x) = none))))))))
theorem blockB_ok {X : Cx} {scope : Scope} {xs : List Str} (h : blockB X.env.scope X.N scope xs = true) : BlockOk X scope xs := by
 unfold blockB at h
 simp only [Bool.and_eq_true, Bool.or_eq_true, decide_eq_true_eq, List.all_eq_true, Bool.not_eq_true', decide_eq_false_iff_not] at h
 obtain ⟨h1, h2, h3, h4, h5, h6, h7, h8⟩ := h
 refine ⟨h1, h2, fun y hy e => ?_, fun y hy e => ?_, fun y hy e => ?_, fun y hy e => ?_, h7, h8⟩
 ·rcases h3 y hy with z | z
  ·exact absurd e z
  ·exact z
 ·rcases h4 y hy with z | z
  ·exact absurd e z
  ·exact z
 ·rcases h6 y hy with z | z
  ·exact absurd z e
  ·exact z
 ·rcases h5 y hy with z | z
  ·exact absurd e z
  ·exact z
inductive IsE (C : Ctx) : Scope -> List Str -> Ex -> Nd -> Prop
 | var {sc : Scope} {N : List Str} {i : Nat} {x : Str} {p : Pos} (h1 : N[i]? = some x) (h2 : visB sc x = true) (h3 : okName x = true) : IsE C sc N (.var i) (.e (.Name x p))
 | non {sc : Scope} {N : List Str} {k} {p : Pos} : IsE C sc N (.lit .non) (.e (.Constant .none k p))
 | bl {sc : Scope} {N : List Str} {b : Bool} {k} {p : Pos} : IsE C sc N (.lit (.bl b)) (.e (.Constant (.bool b) k p))
 | int {sc : Scope} {N : List Str} {i : Int} {k} {p : Pos} : IsE C sc N (.lit (.int i)) (.e (.Constant (.int i) k p))
 | str {sc : Scope} {N : List Str} {s : Str} {t : List Nat} {k} {p : Pos} (h : s.cps.toList = t) : IsE C sc N (.lit (.str t)) (.e (.Constant (.str s) k p))
 | con {sc : Scope} {N : List Str} {x : Str} {i : Int} {p : Pos} (h1 : glB sc x = true) (h2 : C.cons.lookup x = some i) (h3 : okName x = true) : IsE C sc N (.lit (.int i)) (.e (.Name x p))
 | bin {sc : Scope} {N : List Str} {op : Bo} {a b : Ex} {x y : Expr} {p : Pos} (ra : isRng a = false) (ha : IsE C sc N a (.e x)) (rb : isRng b = false) (hb : IsE C sc N b (.e y)) : IsE C sc N (.bin op a b) (.e (.BinOp x (opK op) y p))
 | neg {sc : Scope} {N : List Str} {a : Ex} {x : Expr} {p : Pos} (ra : isRng a = false) (ha : IsE C sc N a (.e x)) : IsE C sc N (.neg a) (.e (.UnaryOp .USub x p))
 | not {sc : Scope} {N : List Str} {a : Ex} {x : Expr} {p : Pos} (ra : isRng a = false) (ia : isIf a = false) (ha : IsE C sc N a (.e x)) : IsE C sc N (.not a) (.e (.UnaryOp .Not x p))
 | and2 {sc : Scope} {N : List Str} {a b : Ex} {x y : Expr} {p : Pos} (ra : isRng a = false) (ia : isIf a = false) (ha : IsE C sc N a (.e x)) (rb : isRng b = false) (ib : isIf b = false) (hb : IsE C sc N b (.e y)) : IsE C sc N (.and a b) (.e (.BoolOp .And [x, y] p))
 | andN {sc : Scope} {N : List Str} {a b : Ex} {x y z : Expr} {r : List Expr} {p : Pos} (ra : isRng a = false) (ia : isIf a = false) (ha : IsE C sc N a (.e x)) (rb : isRng b = false) (hb : IsE C sc N b (.e (.BoolOp .And (y :: z :: r) p))) : IsE C sc N (.and a b) (.e (.BoolOp .And (x :: y :: z :: r) p))
 | or2 {sc : Scope} {N : List Str} {a b : Ex} {x y : Expr} {p : Pos} (ra : isRng a = false) (ia : isIf a = false) (ha : IsE C sc N a (.e x)) (rb : isRng b = false) (ib : isIf b = false) (hb : IsE C sc N b (.e y)) : IsE C sc N (.or a b) (.e (.BoolOp .Or [x, y] p))
 | orN {sc : Scope} {N : List Str} {a b : Ex} {x y z : Expr} {r : List Expr} {p : Pos} (ra : isRng a = false) (ia : isIf a = false) (ha : IsE C sc N a (.e x)) (rb : isRng b = false) (hb : IsE C sc N b (.e (.BoolOp .Or (y :: z :: r) p))) : IsE C sc N (.or a b) (.e (.BoolOp .Or (x :: y :: z :: r) p))
 | cmp {sc : Scope} {N : List Str} {op : Co} {a b : Ex} {x y : Expr} {p : Pos} (hs : notSet y = true) (ra : isRng a = false) (ha : IsE C sc N a (.e x)) (rb : isRng b = false) (hb : IsE C sc N b (.e y)) : IsE C sc N (.cmp op a b) (.e (.Compare x [cK op] [y] p))
 | chain {sc : Scope} {N : List Str} {o q : Co} {a b c : Ex} {x y z : Expr} {p : Pos} (hs : notSet z = true) (ra : isRng a = false) (ha : IsE C sc N a (.e x)) (rb : isRng b = false) (hb : IsE C sc N b (.e y)) (rc : isRng c = false) (hc : IsE C sc N c (.e z)) : IsE C sc N (.chain o q a b c) (.e (.Compare x [cK o, cK q] [y, z] p))
 | ife {sc : Scope} {N : List Str} {a b c : Ex} {x y z : Expr} {p : Pos} (rc : isRng c = false) (ic : isIf c = false) (hc : IsE C sc N c (.e x)) (ra : isRng a = false) (ha : IsE C sc N a (.e y)) (rb : isRng b = false) (hb : IsE C sc N b (.e z)) : IsE C sc N (.ife c a b) (.e (.IfExp x y z p))
 | unit {sc : Scope} {N : List Str} : IsE C sc N .unit (.a [])
 | pair {sc : Scope} {N : List Str} {a b : Ex} {x : Expr} {xs : List Expr} (hs : notStar x = true) (ra : isRng a = false) (ha : IsE C sc N a (.e x)) (hb : IsE C sc N b (.a xs)) : IsE C sc N (.pair a b) (.a (x :: xs))
 | call {sc : Scope} {N : List Str} {k : Nat} {a : Ex} {f : Str} {y : Expr} {ys : List Expr} {p p' : Pos} (h1 : C.fns[k]? = some f) (h2 : glB sc f = true) (h3 : okName f = true) (hs : (y :: ys).all notStar = true) (ha : IsE C sc N a (.a (y :: ys))) : IsE C sc N (.call k a) (.e (.Call (.Name f p) (y :: ys) [] p'))
 | blt {sc : Scope} {N : List Str} {b : Blf} {a : Ex} {nm : Str} {f : Value} {y : Expr} {ys : List Expr} {p p' : Pos} (h1 : bltV b = some (nm, f)) (h2 : glB sc nm = true) (h3 : okName nm = true) (hs : (y :: ys).all notStar = true) (ha : IsE C sc N a (.a (y :: ys))) : IsE C sc N (.blt b a) (.e (.Call (.Name nm p) (y :: ys) [] p'))
 | isi {sc : Scope} {N : List Str} {t : Tg} {a : Ex} {y : Expr} {p p' p'' : Pos} (h1 : glB sc "isinstance" = true) (h2 : glB sc (Str.ofString (tgT t)) = true) (hs : notStar y = true) (ra : isRng a = false) (ha : IsE C sc N a (.e y)) : IsE C sc N (.isi t a) (.e (.Call (.Name "isinstance" p) [y, .Name (Str.ofString (tgT t)) p'] [] p''))
 | lst {sc : Scope} {N : List Str} {a : Ex} {xs : List Expr} {p : Pos} (ha : IsE C sc N a (.a xs)) : IsE C sc N (.lst a) (.e (.List xs p))
 | tup {sc : Scope} {N : List Str} {a : Ex} {xs : List Expr} {k} {p : Pos} (ha : IsE C sc N a (.a xs)) : IsE C sc N (.tup a) (.e (.Tuple xs k p))
 | idx {sc : Scope} {N : List Str} {a b : Ex} {x y : Expr} {p : Pos} (hs : notSlice y = true) (ra : isRng a = false) (ha : IsE C sc N a (.e x)) (rb : isRng b = false) (hb : IsE C sc N b (.e y)) : IsE C sc N (.idx a b) (.e (.Subscript x y p))
 | slL {sc : Scope} {N : List Str} {a b : Ex} {x y : Expr} {p p' : Pos} (ra : isRng a = false) (ha : IsE C sc N a (.e x)) (rb : isRng b = false) (hb : IsE C sc N b (.e y)) : IsE C sc N (.slL a b) (.e (.Subscript x (.Slice (some y) none none p') p))
 | slH {sc : Scope} {N : List Str} {a b : Ex} {x y : Expr} {p p' : Pos} (ra : isRng a = false) (ha : IsE C sc N a (.e x)) (rb : isRng b = false) (hb : IsE C sc N b (.e y)) : IsE C sc N (.slH a b) (.e (.Subscript x (.Slice none (some y) none p') p))
 | slB {sc : Scope} {N : List Str} {a b c : Ex} {x y z : Expr} {p p' : Pos} (ra : isRng a = false) (ha : IsE C sc N a (.e x)) (rb : isRng b = false) (hb : IsE C sc N b (.e y)) (rc : isRng c = false) (hc : IsE C sc N c (.e z)) : IsE C sc N (.slB a b c) (.e (.Subscript x (.Slice (some y) (some z) none p') p))
 | meth0 {sc : Scope} {N : List Str} {k : Mth} {o : Ex} {x : Expr} {ap cp : Pos} (hx : notCall x = true) (hl : (ap.endLine == cp.line) = true) (ro : isRng o = false) (ho : IsE C sc N o (.e x)) : IsE C sc N (.meth k o .unit) (.e (.Call (.Attribute x (mtV k).1 ap) [] [] cp))
 | meth {sc : Scope} {N : List Str} {k : Mth} {o a : Ex} {x y : Expr} {ys : List Expr} {ap cp : Pos} (hx : notCall x = true) (hl : (ap.endLine == cp.line) = true) (hn : (y :: ys).length < 29) (hs : (y :: ys).all notStar = true) (ro : isRng o = false) (ho : IsE C sc N o (.e x)) (ha : IsE C sc N a (.a (y :: ys))) : IsE C sc N (.meth k o a) (.e (.Call (.Attribute x (mtV k).1 ap) (y :: ys) [] cp))
 | rng1 {sc : Scope} {N : List Str} {b : Ex} {y : Expr} {p p' : Pos} (hg : glB sc "range" = true) (hs : notStar y = true) (rb : isRng b = false) (hb : IsE C sc N b (.e y)) : IsE C sc N (.rng (.lit (.int 0)) b (.lit (.int 1))) (.e (.Call (.Name "range" p) [y] [] p'))
 | rng2 {sc : Scope} {N : List Str} {a b : Ex} {x y : Expr} {p p' : Pos} (hg : glB sc "range" = true) (hs : notStar x = true) (hs' : notStar y = true) (ra : isRng a = false) (ha : IsE C sc N a (.e x)) (rb : isRng b = false) (hb : IsE C sc N b (.e y)) : IsE C sc N (.rng a b (.lit (.int 1))) (.e (.Call (.Name "range" p) [x, y] [] p'))
 | rng3 {sc : Scope} {N : List Str} {a b c : Ex} {x y z : Expr} {p p' : Pos} (hg : glB sc "range" = true) (hs : notStar x = true) (hs' : notStar y = true) (hs2 : notStar z = true) (ra : isRng a = false) (ha : IsE C sc N a (.e x)) (rb : isRng b = false) (hb : IsE C sc N b (.e y)) (rc : isRng c = false) (hc : IsE C sc N c (.e z)) : IsE C sc N (.rng a b c) (.e (.Call (.Name "range" p) [x, y, z] [] p'))
 | lrng {sc : Scope} {N : List Str} {a : Ex} {y : Expr} {p p' q q' : Pos} (hl : glB sc "list" = true) (hg : glB sc "range" = true) (hs : notStar y = true) (ra : isRng a = false) (ha : IsE C sc N a (.e y)) : IsE C sc N (.lrng a) (.e (.Call (.Name "list" p) [.Call (.Name "range" q) [y] [] q'] [] p'))
 | comp0 {sc scope : Scope} {N : List Str} {elt it : Ex} {x i : Expr} {y : Str} {p p' : Pos} (hs : notSet i = true) (hB : blockB sc N scope [y] = true) (hi : IsE C sc N it (.e i)) (re : isRng elt = false) (he : IsE C (relabelS scope sc) (compN N [y]) elt (.e x)) : IsE C sc N (.comp elt it (.lit (.bl true))) (.e (.ListComp x [⟨.Name y p, i, [], 0⟩] scope p'))
 | comp1 {sc scope : Scope} {N : List Str} {elt it cond : Ex} {x i f : Expr} {y : Str} {p p' : Pos} (hs : notSet i = true) (hB : blockB sc N scope [y] = true) (hi : IsE C sc N it (.e i)) (rc : isRng cond = false) (ic : isIf cond = false) (hc : IsE C (relabelS scope sc) (compN N [y]) cond (.e f)) (re : isRng elt = false) (he : IsE C (relabelS scope sc) (compN N [y]) elt (.e x)) : IsE C sc N (.comp elt it cond) (.e (.ListComp x [⟨.Name y p, i, [f], 0⟩] scope p'))
 | compZ0 {sc scope : Scope} {N : List Str} {elt a b : Ex} {x i j : Expr} {y z : Str} {p p' q q' q2 pt : Pos} {kt : Nat} (hg : glB sc "zip" = true) (hB : blockB sc N scope [y, z] = true) (hs : notStar i = true) (hs' : notStar j = true) (ra : isRng a = false) (ha : IsE C sc N a (.e i)) (rb : isRng b = false) (hb : IsE C sc N b (.e j)) (re : isRng elt = false) (he : IsE C (relabelS scope sc) (compN N [y, z]) elt (.e x)) :
   IsE C sc N (.compP .zip elt a b (.lit (.bl true))) (.e (.ListComp x [⟨.Tuple [.Name y p, .Name z q] kt pt, .Call (.Name "zip" q') [i, j] [] q2, [], 0⟩] scope p'))
 | compE0 {sc scope : Scope} {N : List Str} {elt a : Ex} {x i : Expr} {y z : Str} {p p' q q' q2 pt : Pos} {kt : Nat} (hg : glB sc "enumerate" = true) (hB : blockB sc N scope [y, z] = true) (hs : notStar i = true) (ra : isRng a = false) (ha : IsE C sc N a (.e i)) (re : isRng elt = false) (he : IsE C (relabelS scope sc) (compN N [y, z]) elt (.e x)) :
   IsE C sc N (.compP .enum elt a (.lit (.int 0)) (.lit (.bl true))) (.e (.ListComp x [⟨.Tuple [.Name y p, .Name z q] kt pt, .Call (.Name "enumerate" q') [i] [] q2, [], 0⟩] scope p'))
 | compES {sc scope : Scope} {N : List Str} {elt a : Ex} {x i : Expr} {y z : Str} {p p' q q' q2 pt kp cp : Pos} {kt : Nat} {ck} (hg : glB sc "enumerate" = true) (hB : blockB sc N scope [y, z] = true) (hs : notStar i = true) (ra : isRng a = false) (ha : IsE C sc N a (.e i)) (re : isRng elt = false) (he : IsE C (relabelS scope sc) (compN N [y, z]) elt (.e x)) :
   IsE C sc N (.compP .enum elt a (.lit (.int 1)) (.lit (.bl true))) (.e (.ListComp x [⟨.Tuple [.Name y p, .Name z q] kt pt, .Call (.Name "enumerate" q') [i] [⟨some "start", .Constant (.int 1) ck cp, kp⟩] q2, [], 0⟩] scope p'))
 | compE1 {sc scope : Scope} {N : List Str} {elt a cond : Ex} {x i f : Expr} {y z : Str} {p p' q q' q2 pt : Pos} {kt : Nat} (hg : glB sc "enumerate" = true) (hB : blockB sc N scope [y, z] = true) (hs : notStar i = true) (ra : isRng a = false) (ha : IsE C sc N a (.e i)) (rc : isRng cond = false) (ic : isIf cond = false) (hc : IsE C (relabelS scope sc) (compN N [y, z]) cond (.e f)) (re : isRng elt = false) (he : IsE C (relabelS scope sc) (compN N [y, z]) elt (.e x)) :
   IsE C sc N (.compP .enum elt a (.lit (.int 0)) cond) (.e (.ListComp x [⟨.Tuple [.Name y p, .Name z q] kt pt, .Call (.Name "enumerate" q') [i] [] q2, [f], 0⟩] scope p'))
def spOf (K : PySem.W.Frag) (g : List Wd -> Me -> Rz) : Sp := fun vs H Q _ => ∃ as m ws, Sim K as m H /\ RepL K as H ws vs /\ Post K as H Q (g ws m)
def bltNames : List Str := ["len", "int", "bool", "list", "tuple", "abs", "max", "min", "isinstance", "range", "str", "dict", "sum", "all", "zip", "enumerate"]
structure CtxOk (C : Ctx) (X : Cx) (cl : Nat -> List Wd -> Me -> Rz) (d : Nat) : Prop where
 room : Room d X.A
 calm : X.calm = true
 fn : ∀ (k : Nat) (nm : Str), C.fns[k]? = some nm -> ∃ f fd ps, X.mg nm = some (.ref f) /\ PySem.W.keepIn X.K (.ref f) = true /\ Binds X.K fd ps [] /\ FnOk X.prog X.w X.K X.mg X.base CX0 d f fd ps (spOf X.K (cl k))
 con : ∀ (nm : Str) (i : Int), C.cons.lookup nm = some i -> ∃ t, X.mg nm = some (.int i t)
 blt : ∀ nm ∈ bltNames, X.mg nm = none
theorem CtxOk.comp {C : Ctx} {X Xc : Cx} {cl : Nat -> List Wd -> Me -> Rz} {d : Nat} {scope : Scope} {x : List Str} (h : CtxOk C X cl d) (c : CompOf X scope x Xc) : CtxOk C Xc cl d := by
 refine ⟨by rw [c.A]; exact h.room, c.calm, fun k nm e => ?_, fun nm i e => ?_, fun nm e => ?_⟩
 ·obtain ⟨f, fd, ps, h1, h2, h3, h4⟩ := h.fn k nm e
  exact ⟨f, fd, ps, by rw [c.mg]; exact h1, by rw [c.K]; exact h2, by rw [c.K]; exact h3, by rw [c.prog, c.w, c.K, c.mg, c.base]; exact h4⟩
 ·rw [c.mg]; exact h.con nm i e
 ·rw [c.mg]; exact h.blt nm e
def PostA (K : PySem.W.Frag) (as : List Addr) (H : Hp) (Q : List V -> Hp -> Prop) (r : Rz) : Prop := match r with
 | .ok w m' => ∀ as' H' vs, Step as H as' H' -> Sim K as' m' H' -> RepL K as' H' (argsOf w) vs -> Q vs H'
 | _ => False
def tOfA (K : PySem.W.Frag) (g : En -> Me -> Rz) : TA := fun σ H Q => ∃ as env m, Sim K as m H /\ EnvRep K as H env σ /\ PostA K as H Q (g env m)
theorem PostA.bind {K : PySem.W.Frag} {as : List Addr} {H : Hp} {Q : VK} {Q1 : List V -> Hp -> Prop} {r : Rz} {f : Wd -> Me -> Rz} (h : Post K as H Q (r.bind f))
  (k : ∀ w m' as' H' vs, Step as H as' H' -> Sim K as' m' H' -> RepL K as' H' (argsOf w) vs -> Post K as' H' Q (f w m') -> Q1 vs H') : PostA K as H Q1 r := by
 cases r with
 | ok w m' => exact fun as2 H2 v U S R => k w m' as2 H2 v U S R (Post.step (r := f w m') h U)
 | exc c w m' => exact h
 | no => exact h
def Snd (cl : Nat -> List Wd -> Me -> Rz) (X : Cx) (e : Ex) : Nd -> Prop
 | .e x => (isRng e = false -> PE X x (tOf X.K (evE cl e)) /\ (isIf e = false -> PT X x (tOfT X.K (evE cl e))) /\ (∀ op vs pos, x = .BoolOp op vs pos -> PW X x (tOfT X.K (evE cl e)))) /\ ∀ tg, PI X tg x (iOf X.K (evE cl e))
 | .a xs => PA X xs (tOfA X.K (evE cl e))
theorem Snd.of {cl : Nat -> List Wd -> Me -> Rz} {X : Cx} {e : Ex} {x : Expr} (h : PE X x (tOf X.K (evE cl e))) (ht : ∀ whole, isTrue x X.env whole = (do let v <- whole; standAt x.pos; holding [v] (truthy v)) := by intro _; rfl)
  (hb : ∀ op vs pos, x ≠ .BoolOp op vs pos := by intros; intro z; cases z) : Snd cl X e (.e x) :=
 ⟨fun _ => ⟨h, fun _ => pt_val h ht, fun op vs pos z => absurd z (hb op vs pos)⟩, fun tg => pi_of h⟩
theorem star_cons {e : Expr} {es : List Expr} {env : Env} (h : notStar e = true) : starEach (e :: es) env = (false, eval e env) :: starEach es env := by
 cases e <;> first | rfl | cases h
theorem star_any {pos : Pos} {env : Env} : ∀ {es : List Expr}, es.all notStar = true -> (backTo pos (starEach es env)).any (·.1) = false
 | [], _ => rfl
 | e :: es, h => by
  rw [List.all_cons, Bool.and_eq_true] at h
  rw [star_cons h.1]
  show (false || (backTo pos (starEach es env)).any (·.1)) = false
  rw [star_any h.2]; rfl
end Mini
namespace Mini
open PySem PySem.Spec PyProof.Rows L2
section
variable {cl : Nat -> List Wd -> Me -> Rz} {X : Cx} {a b c : Ex} {x y z : Expr} {pos : Pos}
theorem se_bin {op : Bo} (ha : PE X x (tOf X.K (evE cl a))) (hb : PE X y (tOf X.K (evE cl b))) : PE X (.BinOp x (opK op) y pos) (tOf X.K (evE cl (.bin op a b))) := by
 refine PE.imp (pe_op (op_rB op) ha hb) fun σ H Q h => ?_
 obtain ⟨as, env, m, S, G, P⟩ := h
 refine ⟨as, env, m, S, G, Post.bind P fun x m1 as1 H1 v T1 S1 R1 P1 => ?_⟩
 refine ⟨as1, env, m1, S1, G.mono S T1, Post.bind P1 fun y m2 as2 H2 u T2 S2 R2 P2 => ?_⟩
 exact bop_ok S2 (R1.mono S1 T2) R2 P2
theorem se_neg (ha : PE X x (tOf X.K (evE cl a))) : PE X (.UnaryOp .USub x pos) (tOf X.K (evE cl (.neg a))) := by
 refine PE.imp (pe_un un_neg ha) fun σ H Q h => ?_
 obtain ⟨as, env, m, S, G, P⟩ := h
 refine ⟨as, env, m, S, G, Post.bind P fun x m1 as1 H1 v T1 S1 R1 P1 => ?_⟩
 cases x with
 | int i =>
  obtain rfl := rep_int.mp R1
  exact ⟨i, rfl, P1.ok S1 (rep_int.mpr rfl)⟩
 | _ => exact P1.elim
theorem se_not (ha : PE X x (tOf X.K (evE cl a))) : PE X (.UnaryOp .Not x pos) (tOf X.K (evE cl (.not a))) := by
 refine PE.imp (pe_not ha) fun σ H Q h => ?_
 obtain ⟨as, env, m, S, G, P⟩ := h
 refine ⟨as, env, m, S, G, Post.bind P fun x m1 as1 H1 v T1 S1 R1 P1 => ?_⟩
 cases x with
 | bl k =>
  obtain rfl := rep_bl.mp R1
  exact ⟨k, rfl, P1.ok S1 (rep_bl.mpr rfl)⟩
 | _ => exact P1.elim
theorem st_not (ha : PT X x (tOfT X.K (evE cl a))) : PT X (.UnaryOp .Not x pos) (tOfT X.K (evE cl (.not a))) := by
 refine PT.imp (pt_not ha) fun σ H Q h => ?_
 obtain ⟨as, env, m, S, G, P⟩ := h
 refine ⟨as, env, m, S, G, Post.bind P fun x m1 as1 H1 v T1 S1 R1 P1 => ?_⟩
 cases x with
 | bl k =>
  obtain rfl := rep_bl.mp R1
  obtain ⟨b, e, q⟩ := P1.ok S1 (rep_bl.mpr rfl)
  cases e
  exact ⟨k, rfl, q⟩
 | _ => exact P1.elim
theorem and_bind {K : PySem.W.Frag} {σ : St} {H : Hp} {Q : VK} (h : tOf K (evE cl (.and a b)) σ H Q) : tOf K (evE cl a) σ H fun x H1 => ∃ k, x = .bl k /\ if k = true then tOf K (evE cl b) σ H1 Q else Q (.bl false) H1 := by
 obtain ⟨as, env, m, S, G, P⟩ := h
 refine ⟨as, env, m, S, G, Post.bind P fun x m1 as1 H1 v T1 S1 R1 P1 => ?_⟩
 cases x with
 | bl k =>
  obtain rfl := rep_bl.mp R1
  refine ⟨k, rfl, ?_⟩
  cases k with
  | true => exact iteT ⟨as1, env, m1, S1, G.mono S T1, P1⟩
  | false => exact iteF (P1.ok S1 (rep_bl.mpr rfl))
 | _ => exact P1.elim
theorem or_bind {K : PySem.W.Frag} {σ : St} {H : Hp} {Q : VK} (h : tOf K (evE cl (.or a b)) σ H Q) : tOf K (evE cl a) σ H fun x H1 => ∃ k, x = .bl k /\ if k = true then Q (.bl true) H1 else tOf K (evE cl b) σ H1 Q := by
 obtain ⟨as, env, m, S, G, P⟩ := h
 refine ⟨as, env, m, S, G, Post.bind P fun x m1 as1 H1 v T1 S1 R1 P1 => ?_⟩
 cases x with
 | bl k =>
  obtain rfl := rep_bl.mp R1
  refine ⟨k, rfl, ?_⟩
  cases k with
  | false => exact iteF ⟨as1, env, m1, S1, G.mono S T1, P1⟩
  | true => exact iteT (P1.ok S1 (rep_bl.mpr rfl))
 | _ => exact P1.elim
theorem tOf_mono {K : PySem.W.Frag} {g : En -> Me -> Rz} {σ : St} {H : Hp} {Q Q' : VK} (h : tOf K g σ H Q) (k : ∀ v H, Q v H -> Q' v H) : tOf K g σ H Q' := by
 obtain ⟨as, env, m, S, G, P⟩ := h
 refine ⟨as, env, m, S, G, ?_⟩
 cases hr : g env m with
 | ok w m' => rw [hr] at P; exact fun as' H' v T S' R => k _ _ (P as' H' v T S' R)
 | exc c w m' => rw [hr] at P; exact P
 | no => rw [hr] at P; exact P
theorem se_and {r : List Expr} (ha : PE X x (tOf X.K (evE cl a))) (hb : PE X (.BoolOp .And (y :: r) pos) (tOf X.K (evE cl b))) : PE X (.BoolOp .And (x :: y :: r) pos) (tOf X.K (evE cl (.and a b))) :=
 PE.imp (pe_and ha hb) fun σ H Q h => and_bind h
theorem se_or {r : List Expr} (ha : PE X x (tOf X.K (evE cl a))) (hb : PE X (.BoolOp .Or (y :: r) pos) (tOf X.K (evE cl b))) : PE X (.BoolOp .Or (x :: y :: r) pos) (tOf X.K (evE cl (.or a b))) :=
 PE.imp (pe_or ha hb) fun σ H Q h => or_bind h
theorem PW.imp {e : Expr} {t t' : TT} (h : PW X e t) (k : ∀ σ H Q, t' σ H Q -> t σ H Q) : PW X e t' := fun whole pins s σ H Q I q => h whole pins s σ H Q I (k σ H Q q)
theorem sw_and {r : List Expr} (ha : PT X x (tOfT X.K (evE cl a))) (hb : PW X (.BoolOp .And (y :: r) pos) (tOfT X.K (evE cl b))) : PW X (.BoolOp .And (x :: y :: r) pos) (tOfT X.K (evE cl (.and a b))) :=
 PW.imp (pw_and ha hb) fun σ H Q h => by
  refine tOf_mono (and_bind h) fun v H1 q => ?_
  obtain ⟨k, e, q⟩ := q
  refine ⟨k, e, ?_⟩
  cases k with
  | true => rw [if_pos rfl] at q ⊢; exact q
  | false =>
   rw [if_neg Bool.false_ne_true] at q ⊢
   obtain ⟨b', e', q⟩ := q
   cases e'
   exact q
theorem sw_or {r : List Expr} (ha : PT X x (tOfT X.K (evE cl a))) (hb : PW X (.BoolOp .Or (y :: r) pos) (tOfT X.K (evE cl b))) : PW X (.BoolOp .Or (x :: y :: r) pos) (tOfT X.K (evE cl (.or a b))) :=
 PW.imp (pw_or ha hb) fun σ H Q h => by
  refine tOf_mono (or_bind h) fun v H1 q => ?_
  obtain ⟨k, e, q⟩ := q
  refine ⟨k, e, ?_⟩
  cases k with
  | false => rw [if_neg Bool.false_ne_true] at q ⊢; exact q
  | true =>
   rw [if_pos rfl] at q ⊢
   obtain ⟨b', e', q⟩ := q
   cases e'
   exact q
theorem marks {op : CmpOp} {e : Expr} (h : notSet e = true) : behindInMarks op e = false := by
 cases e <;> first | rfl | cases h
theorem cmp_bind {K : PySem.W.Frag} {op : Co} {σ : St} {H : Hp} {Q : VK} (h : tOf K (evE cl (.cmp op a b)) σ H Q) : tOp (rC K op) (tOf K (evE cl a)) (tOf K (evE cl b)) σ H Q := by
 obtain ⟨as, env, m, S, G, P⟩ := h
 refine ⟨as, env, m, S, G, Post.bind P fun x m1 as1 H1 v T1 S1 R1 P1 => ?_⟩
 refine ⟨as1, env, m1, S1, G.mono S T1, Post.bind P1 fun y m2 as2 H2 u T2 S2 R2 P2 => ?_⟩
 exact ⟨as2, m2, x, y, S2, R1.mono S1 T2, R2, P2⟩
theorem se_cmp {op : Co} (hu : X.A.units + 64 < cLine) (ha : PE X x (tOf X.K (evE cl a))) (hb : PE X y (tOf X.K (evE cl b))) (hs : notSet y = true) : PE X (.Compare x [cK op] [y] pos) (tOf X.K (evE cl (.cmp op a b))) :=
 PE.imp (pe_cmpR (op_rC hu op) ha hb (marks hs)) fun σ H Q h => cmp_bind h
theorem st_cmp {op : Co} (hu : X.A.units + 64 < cLine) (ha : PE X x (tOf X.K (evE cl a))) (hb : PE X y (tOf X.K (evE cl b))) (hs : notSet y = true) : PT X (.Compare x [cK op] [y] pos) (tOfT X.K (evE cl (.cmp op a b))) :=
 PT.imp (pt_cmpR (op_rC hu op) ha hb (marks hs)) fun σ H Q h => cmp_bind h
end
end Mini
namespace Mini
open PySem PySem.Spec PyProof.Rows L2
section
variable {cl : Nat -> List Wd -> Me -> Rz} {X : Cx} {a b c : Ex} {x y z : Expr} {pos : Pos}
theorem chain_bind {K : PySem.W.Frag} {p q : Co} {σ : St} {H : Hp} {Q : VK} (h : tOf K (evE cl (.chain p q a b c)) σ H Q) : tChain (rC K p) (rC K q) (tOf K (evE cl a)) (tOf K (evE cl b)) (tOf K (evE cl c)) σ H Q := by
 obtain ⟨as, env, m, S, G, P⟩ := h
 refine ⟨as, env, m, S, G, Post.bind P fun x m1 as1 H1 v T1 S1 R1 P1 => ?_⟩
 refine ⟨as1, env, m1, S1, G.mono S T1, Post.bind P1 fun y m2 as2 H2 u T2 S2 R2 P2 => ?_⟩
 refine ⟨as2, m2, x, y, S2, R1.mono S1 T2, R2, Post.bind P2 fun z m3 as3 H3 w T3 S3 R3 P3 => ?_⟩
 cases z with
 | bl k =>
  obtain rfl := rep_bl.mp R3
  refine ⟨k, rfl, ?_⟩
  cases k with
  | false => exact iteF (P3.ok S3 (rep_bl.mpr rfl))
  | true =>
   refine iteT ⟨as3, env, m3, S3, ((G.mono S T1).mono S1 T2).mono S2 T3, Post.bind P3 fun t m4 as4 H4 r T4 S4 R4 P4 => ?_⟩
   exact ⟨as4, m4, y, t, S4, (R2.mono S2 T3).mono S3 T4, R4, P4⟩
 | _ => exact P3.elim
theorem lmarks {o o' : CmpOp} (h : notSet z = true) : lastMarks [o, o'] [y, z] = false := by
 show behindInMarks o' z = false
 exact marks h
theorem se_chain {p q : Co} (hu : X.A.units + 64 < cLine) (ha : PE X x (tOf X.K (evE cl a))) (hb : PE X y (tOf X.K (evE cl b))) (hc : PE X z (tOf X.K (evE cl c))) (hs : notSet z = true) :
  PE X (.Compare x [cK p, cK q] [y, z] pos) (tOf X.K (evE cl (.chain p q a b c))) :=
 PE.imp (pe_chain (op_rC hu p) (op_rC hu q) ha hb hc (lmarks hs)) fun σ H Q h => chain_bind h
theorem st_chain {p q : Co} (hu : X.A.units + 64 < cLine) (ha : PE X x (tOf X.K (evE cl a))) (hb : PE X y (tOf X.K (evE cl b))) (hc : PE X z (tOf X.K (evE cl c))) (hs : notSet z = true) :
  PT X (.Compare x [cK p, cK q] [y, z] pos) (tOfT X.K (evE cl (.chain p q a b c))) :=
 PT.imp (pt_chain (op_rC hu p) (op_rC hu q) ha hb hc (lmarks hs)) fun σ H Q h => chain_bind h
theorem ite_bind {K : PySem.W.Frag} {σ : St} {H : Hp} {Q : VK} (h : tOf K (evE cl (.ife c a b)) σ H Q) : tIf (tOfT K (evE cl c)) (tOf K (evE cl a)) (tOf K (evE cl b)) σ H Q := by
 obtain ⟨as, env, m, S, G, P⟩ := h
 refine ⟨as, env, m, S, G, Post.bind P fun x m1 as1 H1 v T1 S1 R1 P1 => ?_⟩
 cases x with
 | bl k =>
  obtain rfl := rep_bl.mp R1
  refine ⟨k, rfl, ?_⟩
  cases k with
  | true => exact iteT ⟨as1, env, m1, S1, G.mono S T1, P1⟩
  | false => exact iteF ⟨as1, env, m1, S1, G.mono S T1, P1⟩
 | _ => exact P1.elim
theorem se_ite (hc : PT X z (tOfT X.K (evE cl c))) (ha : PE X x (tOf X.K (evE cl a))) (hb : PE X y (tOf X.K (evE cl b))) : PE X (.IfExp z x y pos) (tOf X.K (evE cl (.ife c a b))) :=
 PE.imp (pe_ifExp hc ha hb) fun σ H Q h => ite_bind h
theorem sa_unit : PA X [] (tOfA X.K (evE cl .unit)) := PA.imp pa_nil fun σ H Q h => by
 obtain ⟨as, env, m, S, G, P⟩ := h
 exact P as H [] .refl S (repL_nil.mpr rfl)
theorem sa_pair {xs : List Expr} (ha : PE X x (tOf X.K (evE cl a))) (hb : PA X xs (tOfA X.K (evE cl b))) (hs : notStar x = true) : PA X (x :: xs) (tOfA X.K (evE cl (.pair a b))) := by
 refine PA.imp (pa_cons ha hb (star_cons hs)) fun σ H Q h => ?_
 obtain ⟨as, env, m, S, G, P⟩ := h
 refine ⟨as, env, m, S, G, ?_⟩
 have P' : PostA X.K as H Q ((evE cl a env m).bind fun x m1 => (evE cl b env m1).bind fun y m2 => .ok (.tup (x :: argsOf y)) m2) := P
 cases hr : evE cl a env m with
 | no => rw [hr] at P'; exact P'
 | exc c w m' => rw [hr] at P'; exact P'
 | ok w m1 =>
  rw [hr] at P'
  intro as1 H1 v T1 S1 R1
  refine ⟨as1, env, m1, S1, G.mono S T1, ?_⟩
  simp only [Rz.bind] at P'
  cases hr2 : evE cl b env m1 with
  | no => rw [hr2] at P'; exact P'
  | exc c w' m' => rw [hr2] at P'; exact P'
  | ok w' m2 =>
   rw [hr2] at P'
   intro as2 H2 vs T2 S2 R2
   exact P' as2 H2 (v :: vs) (T1.trans T2) S2 (repL_cons.mpr ⟨v, vs, rfl, R1.mono S1 T2, R2⟩)
theorem se_call {C : Ctx} {d k : Nat} {nm : Str} {p : Pos} {xs : List Expr} (hC : CtxOk C X cl d) (hk : C.fns[k]? = some nm) (hg : X.env.scope.names.lookup nm = some .globalImplicit) (hn : okName nm = true)
  (hs : (x :: xs).all notStar = true) (ha : PA X (x :: xs) (tOfA X.K (evE cl a))) : PE X (.Call (.Name nm p) (x :: xs) [] pos) (tOf X.K (evE cl (.call k a))) := by
 obtain ⟨f, fd, ps, h1, h2, h3, h4⟩ := hC.fn k nm hk
 have hs' := hs
 rw [List.all_cons, Bool.and_eq_true] at hs'
 have hdb : (nm == ("__debug__" : Str)) = false := by
  unfold okName at hn
  simp only [Bool.and_eq_true, Bool.not_eq_true'] at hn
  exact hn.1.1
 refine PE.imp (pe_call h4 hC.room hg h1 h2 h3 .nil (pass0 (X := X)) ha hdb (star_cons hs'.1) (star_any hs'.2)) fun σ H Q h => ?_
 obtain ⟨as, env, m, S, G, P⟩ := h
 refine ⟨as, env, m, S, G, PostA.bind P fun w m1 as1 H1 vs T1 S1 R1 P1 => ?_⟩
 refine ⟨as1, m1, argsOf w, S1, ?_, P1⟩
 rw [List.append_nil]
 exact R1
theorem okName_of {nm : Str} (hn : okName nm = true) : (nm == ("__debug__" : Str)) = false /\ (nm == ("__classdict__" : Str)) = false /\ nm ≠ "__name__" := by
 unfold okName at hn
 simp only [Bool.and_eq_true, Bool.not_eq_true'] at hn
 exact ⟨hn.1.1, hn.1.2, by simpa using hn.2⟩
theorem se_blt {C : Ctx} {d : Nat} {bf : Blf} {nm : Str} {f : Value} {p : Pos} {xs : List Expr} (hC : CtxOk C X cl d) (hb : bltV bf = some (nm, f)) (hg : X.env.scope.names.lookup nm = some .globalImplicit) (hn : okName nm = true)
  (hs : (x :: xs).all notStar = true) (ha : PA X (x :: xs) (tOfA X.K (evE cl a))) : PE X (.Call (.Name nm p) (x :: xs) [] pos) (tOf X.K (evE cl (.blt bf a))) := by
 obtain ⟨n1, n2, n3⟩ := okName_of hn
 have hs' := hs
 rw [List.all_cons, Bool.and_eq_true] at hs'
 have hc := call_rBl hC.calm hb
 have go : PE X (.Call (.Name nm p) (x :: xs) [] pos) (tCB (rBl X.K bf) (tOfA X.K (evE cl a))) := by
  cases bf with
  | len => cases hb; exact pe_callB hc hg (hC.blt _ (by simp [bltNames])) PySem.boot_len ha n3 n1 (star_cons hs'.1) (star_any hs'.2)
  | int => cases hb; exact pe_callTy hc hg (hC.blt _ (by simp [bltNames])) PyProof.Rows.boot_int ha n3 n1 (star_cons hs'.1) (star_any hs'.2)
  | list => cases hb; exact pe_callTy hc hg (hC.blt _ (by simp [bltNames])) PyProof.Rows.boot_list ha n3 n1 (star_cons hs'.1) (star_any hs'.2)
  | tuple => cases hb; exact pe_callTy hc hg (hC.blt _ (by simp [bltNames])) PyProof.Rows.boot_tuple ha n3 n1 (star_cons hs'.1) (star_any hs'.2)
  | abs => cases hb; exact pe_callB hc hg (hC.blt _ (by simp [bltNames])) PyProof.Rows.boot_abs ha n3 n1 (star_cons hs'.1) (star_any hs'.2)
  | max2 => cases hb; exact pe_callB hc hg (hC.blt _ (by simp [bltNames])) PyProof.Rows.boot_max ha n3 n1 (star_cons hs'.1) (star_any hs'.2)
  | sum => cases hb; exact pe_callB hc hg (hC.blt _ (by simp [bltNames])) PyProof.Rows.boot_sum ha n3 n1 (star_cons hs'.1) (star_any hs'.2)
  | all => cases hb; exact pe_callB hc hg (hC.blt _ (by simp [bltNames])) PyProof.Rows.boot_all ha n3 n1 (star_cons hs'.1) (star_any hs'.2)
  | min2 => cases hb; exact pe_callB hc hg (hC.blt _ (by simp [bltNames])) PyProof.Rows.boot_min ha n3 n1 (star_cons hs'.1) (star_any hs'.2)
  | _ => cases hb
 refine PE.imp go fun σ H Q h => ?_
 obtain ⟨as, env, m, S, G, P⟩ := h
 refine ⟨as, env, m, S, G, PostA.bind P fun w m1 as1 H1 vs T1 S1 R1 P1 => ?_⟩
 exact ⟨as1, m1, argsOf w, S1, R1, P1⟩
theorem boot_tg (t : Tg) : bootBuiltins (Str.ofString (tgT t)) = some (.type (tgT t)) := by
 cases t <;> decide +kernel
theorem se_isi {C : Ctx} {d : Nat} {t : Tg} {p p' : Pos} (hC : CtxOk C X cl d) (hg : X.env.scope.names.lookup ("isinstance" : Str) = some .globalImplicit) (hg' : X.env.scope.names.lookup (Str.ofString (tgT t)) = some .globalImplicit)
  (hs : notStar x = true) (ha : PE X x (tOf X.K (evE cl a))) : PE X (.Call (.Name "isinstance" p) [x, .Name (Str.ofString (tgT t)) p'] [] pos) (tOf X.K (evE cl (.isi t a))) := by
 have hm : X.mg (Str.ofString (tgT t)) = none := hC.blt _ (by cases t <;> decide +kernel)
 have hty : PE X (.Name (Str.ofString (tgT t)) p') (tC (.ty (tgT t))) := pe_bltn hg' hm (boot_tg t) rfl (by cases t <;> decide +kernel) (by cases t <;> decide +kernel)
 refine PE.imp (pe_callB (call_isi t) hg (hC.blt _ (by simp [bltNames])) PyProof.Rows.boot_isinstance (pa_cons ha (pa_cons hty pa_nil) (star_cons hs)) (by decide +kernel) (by decide +kernel) (star_cons hs) rfl) fun σ H Q h => ?_
 obtain ⟨as, env, m, S, G, P⟩ := h
 refine ⟨as, env, m, S, G, Post.bind P fun w m1 as1 H1 v T1 S1 R1 P1 => ?_⟩
 exact ⟨as1, m1, w, v, rfl, S1, R1, P1⟩
theorem se_lst {xs : List Expr} (ha : PA X xs (tOfA X.K (evE cl a))) : PE X (.List xs pos) (tOf X.K (evE cl (.lst a))) := by
 refine PE.imp (pe_lst ha) fun σ H Q h => ?_
 obtain ⟨as, env, m, S, G, P⟩ := h
 refine ⟨as, env, m, S, G, PostA.bind P fun w m1 as1 H1 vs T1 S1 R1 P1 => ?_⟩
 obtain ⟨h1, h2⟩ := alloc_ok S1 R1 P1
 exact ⟨Nat.le_trans h1 lim_line, h2⟩
theorem se_tup {xs : List Expr} {k : Nat} (ha : PA X xs (tOfA X.K (evE cl a))) : PE X (.Tuple xs k pos) (tOf X.K (evE cl (.tup a))) := by
 refine PE.imp (pe_tup ha) fun σ H Q h => ?_
 obtain ⟨as, env, m, S, G, P⟩ := h
 refine ⟨as, env, m, S, G, PostA.bind P fun w m1 as1 H1 vs T1 S1 R1 P1 => ?_⟩
 split at P1
 ·rename_i hl
  refine ⟨by rw [<- R1.length]; exact Nat.le_trans hl lim_line, fun p hp => ?_⟩
  obtain ⟨T, S', R'⟩ := S1.tup hp R1
  exact P1 _ _ _ T S' R'
 ·exact P1.elim
theorem se_idx (ha : PE X x (tOf X.K (evE cl a))) (hb : PE X y (tOf X.K (evE cl b))) (hs : notSlice y = true) : PE X (.Subscript x y pos) (tOf X.K (evE cl (.idx a b))) := by
 have hp : PlainIx y := fun o i => by cases y <;> first | rfl | cases hs
 refine PE.imp (pe_ix ix_seq ha hb hp) fun σ H Q h => ?_
 obtain ⟨as, env, m, S, G, P⟩ := h
 refine ⟨as, env, m, S, G, Post.bind P fun x m1 as1 H1 v T1 S1 R1 P1 => ?_⟩
 refine ⟨as1, env, m1, S1, G.mono S T1, Post.bind P1 fun y m2 as2 H2 u T2 S2 R2 P2 => ?_⟩
 exact idx_ok S2 (R1.mono S1 T2) R2 P2
end
end Mini
namespace Mini
open PySem PySem.Spec PyProof.Rows L2
section
variable {cl : Nat -> List Wd -> Me -> Rz} {X : Cx} {a b c : Ex} {x y z : Expr} {pos : Pos}
theorem sl_ok {K : PySem.W.Frag} {as : List Addr} {H : Hp} {m : Me} {Q : VK} {w : Wd} {v : V} {lo hi : Option Int} (S : Sim K as m H) (R : Rep K as H w v) (h : Post K as H Q (slR w lo hi m)) : rSlL K v lo hi H Q := by
 have hs : ∀ (n d : Nat) (o : Option Int), sIx n d o = HT.sIx n d o := fun n d o => by cases o <;> rfl
 unfold slR at h
 split at h
 ·rename_i xs hx
  have hsq : seqOf m w = some xs := by
   cases w with
   | rol ys => exact hx
   | ref l => exact hx
   | _ => cases hx
  have key : ∃ p vs, v = .ref p /\ SqL K H p vs /\ RepL K as H xs vs := by
   cases w with
   | rol ys =>
    cases hx
    obtain ⟨p, vs, rfl, q, r⟩ := rep_rol.mp R
    exact ⟨p, vs, rfl, q.sq, r⟩
   | ref l =>
    obtain ⟨p, hp, rfl⟩ := rep_ref.mp R
    obtain ⟨p', vs, hp', e, r⟩ := lst_of S (lstAt_some hx)
    rw [hp] at hp'; cases hp'
    exact ⟨p, vs, rfl, SqL.of e, r⟩
   | _ => cases hx
  obtain ⟨p, vs, rfl, q, r⟩ := key
  refine ⟨p, vs, rfl, q, ?_⟩
  have e : (vs.drop (sIx xs.length 0 lo)).take (sIx xs.length xs.length hi - sIx xs.length 0 lo) = cutV vs lo hi := by
   unfold cutV
   rw [r.length, hs, hs]
  rw [<- e]
  exact (alloc_ok S ((r.drop _).take _) h).2
 ·exact h.elim
theorem se_slL {p2 : Pos} (ha : PE X x (tOf X.K (evE cl a))) (hb : PE X y (tOf X.K (evE cl b))) : PE X (.Subscript x (.Slice (some y) none none p2) pos) (tOf X.K (evE cl (.slL a b))) := by
 refine PE.imp (pe_slice sl_list ha (po_some hb) po_none) fun σ H Q h => ?_
 obtain ⟨as, env, m, S, G, P⟩ := h
 refine ⟨as, env, m, S, G, Post.bind P fun x m1 as1 H1 v T1 S1 R1 P1 => ?_⟩
 refine ⟨as1, env, m1, S1, G.mono S T1, Post.bind P1 fun y m2 as2 H2 u T2 S2 R2 P2 => ?_⟩
 cases y with
 | int i => exact ⟨i, rep_int.mp R2, sl_ok S2 (R1.mono S1 T2) P2⟩
 | _ => exact P2.elim
theorem se_slH {p2 : Pos} (ha : PE X x (tOf X.K (evE cl a))) (hb : PE X y (tOf X.K (evE cl b))) : PE X (.Subscript x (.Slice none (some y) none p2) pos) (tOf X.K (evE cl (.slH a b))) := by
 refine PE.imp (pe_slice sl_list ha po_none (po_some hb)) fun σ H Q h => ?_
 obtain ⟨as, env, m, S, G, P⟩ := h
 refine ⟨as, env, m, S, G, Post.bind P fun x m1 as1 H1 v T1 S1 R1 P1 => ?_⟩
 refine ⟨as1, env, m1, S1, G.mono S T1, Post.bind P1 fun y m2 as2 H2 u T2 S2 R2 P2 => ?_⟩
 cases y with
 | int i => exact ⟨i, rep_int.mp R2, sl_ok S2 (R1.mono S1 T2) P2⟩
 | _ => exact P2.elim
theorem se_slB {p2 : Pos} (ha : PE X x (tOf X.K (evE cl a))) (hb : PE X y (tOf X.K (evE cl b))) (hc : PE X z (tOf X.K (evE cl c))) : PE X (.Subscript x (.Slice (some y) (some z) none p2) pos) (tOf X.K (evE cl (.slB a b c))) := by
 refine PE.imp (pe_slice sl_list ha (po_some hb) (po_some hc)) fun σ H Q h => ?_
 obtain ⟨as, env, m, S, G, P⟩ := h
 refine ⟨as, env, m, S, G, Post.bind P fun x m1 as1 H1 v T1 S1 R1 P1 => ?_⟩
 refine ⟨as1, env, m1, S1, G.mono S T1, Post.bind P1 fun y m2 as2 H2 u T2 S2 R2 P2 => ?_⟩
 cases y with
 | int i =>
  refine ⟨i, rep_int.mp R2, as2, env, m2, S2, (G.mono S T1).mono S1 T2, Post.bind P2 fun z m3 as3 H3 t T3 S3 R3 P3 => ?_⟩
  cases z with
  | int j => exact ⟨j, rep_int.mp R3, sl_ok S3 ((R1.mono S1 T2).mono S2 T3) P3⟩
  | _ => exact P3.elim
 | _ => exact P2.elim
theorem base_of {e : Expr} {f : Str} {env : Env} (h : notCall e = true) : attributeBase e f env (eval e env) = eval e env := by
 cases e <;> first | rfl | cases h
theorem few_of {cp : Pos} {env : Env} {ys : List Expr} (h : ys.all notStar = true) (hl : ys.length < 29) :
  ((backTo cp (starEach ys env)).all (fun x => !x.1) && (backToKw cp (keywordEach [] env)).all (fun x => x.1.isSome)
   && decide (ys.length + ([] : List Keyword).length + (if ([] : List Keyword).isEmpty then 0 else 1) < 30)) = true := by
 have all : ∀ {es : List Expr}, es.all notStar = true -> (backTo cp (starEach es env)).all (fun x => !x.1) = true := by
  intro es
  induction es with
  | nil => intro _; rfl
  | cons e es ih =>
   intro h
   rw [List.all_cons, Bool.and_eq_true] at h
   rw [star_cons h.1]
   show (true && (backTo cp (starEach es env)).all (fun x => !x.1)) = true
   rw [ih h.2]; rfl
 rw [all h]
 have e2 : (backToKw cp (keywordEach [] env)).all (fun x => x.1.isSome) = true := rfl
 rw [e2]
 have e3 : decide (ys.length + ([] : List Keyword).length + (if ([] : List Keyword).isEmpty then 0 else 1) < 30) = true := by
  apply decide_eq_true
  show ys.length + 0 + 0 < 30
  omega
 rw [e3]; rfl
theorem mt_facts (k : Mth) : Slot "list" (mtV k).1 (mtV k).2 /\ typeOf (.builtin (mtV k).2) = pure (.type "method_descriptor") := by
 cases k with
 | append => exact ⟨PySem.F.slot_list_append, PySem.F.type_list_append⟩
 | extend => exact ⟨PySem.F.slot_list_extend, PySem.F.type_list_extend⟩
 | pop => exact ⟨PySem.F.slot_list_pop, PySem.F.type_list_pop⟩
 | reverse => exact ⟨PySem.F.slot_list_reverse, PySem.F.type_list_reverse⟩
 | clear => exact ⟨PySem.F.slot_list_clear, PySem.F.type_list_clear⟩
 | insert => exact ⟨PySem.F.slot_list_insert, PySem.F.type_list_insert⟩
theorem mt_ref {k : Mth} {w : Wd} {ws : List Wd} {m : Me} (h : mtR k w ws m ≠ .no) : ∃ l, w = .ref l := by
 cases w with
 | ref l => exact ⟨l, rfl⟩
 | _ => exact absurd rfl h
theorem ty_ref {K : PySem.W.Frag} {as : List Addr} {H : Hp} {m : Me} {w : Wd} {v : V} (S : Sim K as m H) (R : Rep K as H w v) (hw : ∃ l, w = .ref l) : tyV K "list" v H := by
 obtain ⟨l, rfl⟩ := hw
 obtain ⟨p, hp, rfl⟩ := rep_ref.mp R
 obtain ⟨us, e⟩ := S.isLst (List.mem_of_getElem? hp)
 exact .inl ⟨rfl, us, SqL.of e⟩
theorem se_meth0 {k : Mth} {ap : Pos} (ho : PE X x (tOf X.K (evE cl a))) (hx : notCall x = true) (hl : (ap.endLine == pos.line) = true) :
  PE X (.Call (.Attribute x (mtV k).1 ap) [] [] pos) (tOf X.K (evE cl (.meth k a .unit))) := by
 obtain ⟨f1, f2⟩ := mt_facts k
 refine PE.imp (pe_bm0 PySem.F.plainAttrs_list f1 f2 (mt_rMt k) ho (base_of hx) hl) fun σ H Q h => ?_
 obtain ⟨as, env, m, S, G, P⟩ := h
 refine ⟨as, env, m, S, G, Post.bind P fun w m1 as1 H1 v T1 S1 R1 P1 => ?_⟩
 have P2 : Post X.K as1 H1 Q (mtR k w [] m1) := P1
 refine ⟨ty_ref S1 R1 (mt_ref (k := k) (ws := []) (m := m1) fun z => ?_), as1, m1, w, [], S1, R1, repL_nil.mpr rfl, P2⟩
 rw [z] at P2
 exact P2
theorem se_meth {k : Mth} {ap : Pos} {ys : List Expr} (ho : PE X x (tOf X.K (evE cl a))) (ha : PA X (y :: ys) (tOfA X.K (evE cl b))) (hx : notCall x = true) (hl : (ap.endLine == pos.line) = true) (hn : (y :: ys).length < 29) (hs : (y :: ys).all notStar = true) :
  PE X (.Call (.Attribute x (mtV k).1 ap) (y :: ys) [] pos) (tOf X.K (evE cl (.meth k a b))) := by
 obtain ⟨f1, f2⟩ := mt_facts k
 have isref : ∀ {as : List Addr} {H : Hp} {Q : VK} {w : Wd} {env : En} {m : Me}, Post X.K as H Q ((evE cl b env m).bind fun y m2 => mtR k w (argsOf y) m2) -> ∃ l, w = .ref l := fun {as H Q w env m} P => by
  cases hr : evE cl b env m with
  | no => rw [hr] at P; exact P.elim
  | exc c w' m' => rw [hr] at P; exact P.elim
  | ok w' m' =>
   rw [hr] at P
   refine mt_ref (k := k) (ws := argsOf w') (m := m') fun z => ?_
   have P' : Post X.K as H Q (mtR k w (argsOf w') m') := P
   rw [z] at P'
   exact P'
 have hs' := hs
 rw [List.all_cons, Bool.and_eq_true] at hs'
 refine PE.imp (pe_bm PySem.F.plainAttrs_list f1 f2 (mt_rMt k) ho ha (base_of hx) (few_of hs hn) hl (star_cons hs'.1) (star_any hs'.2)) fun σ H Q h => ?_
 obtain ⟨as, env, m, S, G, P⟩ := h
 refine ⟨as, env, m, S, G, Post.bind P fun w m1 as1 H1 v T1 S1 R1 P1 => ⟨ty_ref S1 R1 (isref P1), ?_⟩⟩
 refine ⟨as1, env, m1, S1, G.mono S T1, PostA.bind P1 fun w2 m2 as2 H2 vs T2 S2 R2 P2 => ?_⟩
 exact ⟨as2, m2, w, argsOf w2, S2, R1.mono S1 T2, R2, P2⟩
theorem rng_bind {K : PySem.W.Frag} {as : List Addr} {H : Hp} {m : Me} {R : It -> Hp -> Prop} {i j : Int} (S : Sim K as m H) (h : PostI K as H R (rngR (.int i) (.int j) (.int 1) m)) : (-(2 ^ 62) <= i /\ i < 2 ^ 62 /\ -(2 ^ 62) <= j /\ j < 2 ^ 62) /\ R (Itr i (j - i).toNat) H := by
 have h' : PostI K as H R (if -lim <= i /\ i <= lim /\ -lim <= j /\ j <= lim /\ ((1 : Int) = 1 \/ (1 : Int) = -1) then .ok (.tup (rngL i 1 (rngN i j 1))) m else .no) := h
 by_cases hc : -(lim : Int) <= i /\ i <= lim /\ -(lim : Int) <= j /\ j <= lim /\ ((1 : Int) = 1 \/ (1 : Int) = -1)
 ·rw [if_pos hc] at h'
  have hlim : (lim : Int) = 100000 := rfl
  refine ⟨by omega, h'.2 as H _ .refl S ?_⟩
  have e : rngN i j 1 = (j - i).toNat := if_pos rfl
  rw [e]
  exact ⟨_, fun _ => True, seqIt_rng i (j - i).toNat (K := K), trivial, rngL_rep 1 (j - i).toNat i, fun _ _ _ _ => trivial⟩
 ·rw [if_neg hc] at h'; exact h'.elim
theorem PostI.bind {K : PySem.W.Frag} {as : List Addr} {H : Hp} {R : It -> Hp -> Prop} {Q1 : VK} {r : Rz} {f : Wd -> Me -> Rz} (h : PostI K as H R (r.bind f))
  (k : ∀ w m' as' H' v, Step as H as' H' -> Sim K as' m' H' -> Rep K as' H' w v -> PostI K as' H' R (f w m') -> Q1 v H') : Post K as H Q1 r := by
 cases r with
 | ok w m' =>
  intro as2 H2 v U S Rr
  refine k w m' as2 H2 v U S Rr ?_
  have h' : PostI K as H R (f w m') := h
  cases hr : f w m' with
  | ok w2 m2 => rw [hr] at h'; exact ⟨h'.1, fun as3 H3 J U3 S3 q => h'.2 as3 H3 J (U.trans U3) S3 q⟩
  | exc c w2 m2 => rw [hr] at h'; exact h'
  | no => rw [hr] at h'; exact h'
 | exc c w m' => exact h
 | no => exact h
theorem si_rng1 {C : Ctx} {d : Nat} {p : Pos} {tg : Expr} (hC : CtxOk C X cl d) (hg : X.env.scope.names.lookup ("range" : Str) = some .globalImplicit) (hs : notStar x = true) (hb : PE X x (tOf X.K (evE cl b))) :
  PI X tg (.Call (.Name "range" p) [x] [] pos) (iOf X.K (evE cl (.rng (.lit (.int 0)) b (.lit (.int 1))))) := by
 refine PI.imp (pi_range1 hg (hC.blt _ (by simp [bltNames])) (pa_cons hb pa_nil (star_cons hs)) (star_cons hs)) fun σ H R h => ?_
 obtain ⟨as, env, m, S, G, P⟩ := h
 have P' : PostI X.K as H R ((evE cl b env m).bind fun y m2 => rngR (.int 0) y (.int 1) m2) := P
 refine ⟨as, env, m, S, G, PostI.bind P' fun w m1 as1 H1 v T1 S1 R1 P1 => ?_⟩
 cases w with
 | int j =>
  obtain rfl := rep_int.mp R1
  obtain ⟨⟨_, _, h1, h2⟩, q⟩ := rng_bind S1 P1
  refine ⟨j, rfl, h1, h2, ?_⟩
  simpa using q
 | _ => exact P1.elim
theorem si_rng2 {C : Ctx} {d : Nat} {p : Pos} {tg : Expr} (hC : CtxOk C X cl d) (hg : X.env.scope.names.lookup ("range" : Str) = some .globalImplicit) (hs : notStar x = true) (hs' : notStar y = true) (ha : PE X x (tOf X.K (evE cl a))) (hb : PE X y (tOf X.K (evE cl b))) :
  PI X tg (.Call (.Name "range" p) [x, y] [] pos) (iOf X.K (evE cl (.rng a b (.lit (.int 1))))) := by
 refine PI.imp (pi_range2 hg (hC.blt _ (by simp [bltNames])) (pa_cons ha (pa_cons hb pa_nil (star_cons hs')) (star_cons hs)) (by rw [star_cons hs, star_cons hs']; rfl) (star_cons hs')) fun σ H R h => ?_
 obtain ⟨as, env, m, S, G, P⟩ := h
 have P' : PostI X.K as H R ((evE cl a env m).bind fun x m1 => (evE cl b env m1).bind fun y m2 => rngR x y (.int 1) m2) := P
 refine ⟨as, env, m, S, G, PostI.bind P' fun w m1 as1 H1 v T1 S1 R1 P1 => ?_⟩
 refine ⟨as1, env, m1, S1, G.mono S T1, PostI.bind P1 fun w2 m2 as2 H2 u T2 S2 R2 P2 => ?_⟩
 cases w with
 | int i =>
  cases w2 with
  | int j =>
   obtain rfl := rep_int.mp R1
   obtain rfl := rep_int.mp R2
   obtain ⟨hb, q⟩ := rng_bind S2 P2
   exact ⟨i, j, rfl, hb, q⟩
  | _ => exact P2.elim
 | _ => cases w2 <;> exact P2.elim
theorem seqIt_rngS {K : PySem.W.Frag} (lo st : Int) (n : Nat) : SeqIt (Itrs lo st n) ((List.range n).map fun (i : Nat) => V.int (lo + st * (i : Int))) (fun _ => True) := by
 refine ⟨fun i H _ hi => ?_, fun i H x H' _ hi q => ?_, fun i H _ hi => ?_⟩
 ·show i < n; simpa using hi
 ·obtain ⟨e1, e2⟩ := q
  have hi' : i < n := by simpa using hi
  refine ⟨e1, ?_⟩
  rw [e2]
  simp [hi', Int.mul_comm]
 ·show n <= i; simpa using hi
theorem rng_bind3 {K : PySem.W.Frag} {as : List Addr} {H : Hp} {m : Me} {R : It -> Hp -> Prop} {i j k : Int} (S : Sim K as m H) (h : PostI K as H R (rngR (.int i) (.int j) (.int k) m)) : (-(2 ^ 30) <= i /\ i < 2 ^ 30 /\ -(2 ^ 30) <= j /\ j < 2 ^ 30) /\ (k = 1 \/ k = -1) /\ R (Itrs i k (cntR i j k)) H := by
 have h' : PostI K as H R (if -lim <= i /\ i <= lim /\ -lim <= j /\ j <= lim /\ (k = 1 \/ k = -1) then .ok (.tup (rngL i k (rngN i j k))) m else .no) := h
 by_cases hc : -(lim : Int) <= i /\ i <= lim /\ -(lim : Int) <= j /\ j <= lim /\ (k = 1 \/ k = -1)
 ·rw [if_pos hc] at h'
  have hlim : (lim : Int) = 100000 := rfl
  refine ⟨by omega, hc.2.2.2.2, h'.2 as H _ .refl S ?_⟩
  have e : rngN i j k = cntR i j k := by
   unfold rngN cntR
   rcases hc.2.2.2.2 with rfl | rfl
   ·rfl
   ·rfl
  rw [e]
  exact ⟨_, fun _ => True, seqIt_rngS i k (cntR i j k) (K := K), trivial, rngL_rep k (cntR i j k) i, fun _ _ _ _ => trivial⟩
 ·rw [if_neg hc] at h'; exact h'.elim
theorem si_rng3 {C : Ctx} {d : Nat} {p : Pos} {tg : Expr} (hC : CtxOk C X cl d) (hg : X.env.scope.names.lookup ("range" : Str) = some .globalImplicit) (hs : notStar x = true) (hs' : notStar y = true) (hs2 : notStar z = true) (ha : PE X x (tOf X.K (evE cl a))) (hb : PE X y (tOf X.K (evE cl b))) (hc : PE X z (tOf X.K (evE cl c))) :
  PI X tg (.Call (.Name "range" p) [x, y, z] [] pos) (iOf X.K (evE cl (.rng a b c))) := by
 refine PI.imp (pi_range3 hg (hC.blt _ (by simp [bltNames])) (pa_cons ha (pa_cons hb (pa_cons hc pa_nil (star_cons hs2)) (star_cons hs')) (star_cons hs)) (by rw [star_cons hs, star_cons hs', star_cons hs2]; rfl) (by rw [star_cons hs', star_cons hs2]; rfl)) fun σ H R h => ?_
 obtain ⟨as, env, m, S, G, P⟩ := h
 refine ⟨as, env, m, S, G, PostI.bind P fun w m1 as1 H1 v T1 S1 R1 P1 => ?_⟩
 refine ⟨as1, env, m1, S1, G.mono S T1, PostI.bind P1 fun w2 m2 as2 H2 u T2 S2 R2 P2 => ?_⟩
 refine ⟨as2, env, m2, S2, (G.mono S T1).mono S1 T2, PostI.bind P2 fun w3 m3 as3 H3 u3 T3 S3 R3 P3 => ?_⟩
 cases w with
 | int i =>
  cases w2 with
  | int j =>
   cases w3 with
   | int k =>
    obtain rfl := rep_int.mp R1
    obtain rfl := rep_int.mp R2
    obtain rfl := rep_int.mp R3
    obtain ⟨h1, h2, q⟩ := rng_bind3 S3 P3
    exact ⟨i, j, k, rfl, h1, h2, q⟩
   | _ => exact P3.elim
  | _ => cases w3 <;> exact P3.elim
 | _ => cases w2 <;> cases w3 <;> exact P3.elim
theorem se_lrng {C : Ctx} {d : Nat} {p p' pos' : Pos} (hC : CtxOk C X cl d) (hgl : X.env.scope.names.lookup ("list" : Str) = some .globalImplicit) (hg : X.env.scope.names.lookup ("range" : Str) = some .globalImplicit) (hs : notStar x = true) (ha : PE X x (tOf X.K (evE cl a))) :
  PE X (.Call (.Name "list" p) [.Call (.Name "range" p') [x] [] pos'] [] pos) (tOf X.K (evE cl (.lrng a))) := by
 refine PE.imp (pe_lrng hC.calm hgl (hC.blt _ (by simp [bltNames])) hg (hC.blt _ (by simp [bltNames])) (pa_cons ha pa_nil (star_cons hs)) (star_cons hs)) fun σ H Q h => ?_
 obtain ⟨as, env, m, S, G, P⟩ := h
 refine ⟨as, env, m, S, G, Post.bind P fun w m1 as1 H1 v T1 S1 R1 P1 => ?_⟩
 cases w with
 | int j =>
  obtain rfl := rep_int.mp R1
  have hlim : (lim : Int) = 100000 := rfl
  have P1' : Post X.K as1 H1 Q (if -(lim : Int) <= j /\ j <= lim then alloc m1 (rngL 0 1 j.toNat) else .no) := P1
  by_cases hc : -(lim : Int) <= j /\ j <= lim
  ·rw [if_pos hc] at P1'
   obtain ⟨h1, h2⟩ := alloc_ok S1 (rngL_rep 1 j.toNat 0) P1'
   have hz : j.toNat <= sizeLine := Nat.le_trans (by have : lim = 100000 := rfl; omega) lim_line
   exact ⟨j, rfl, by omega, by omega, hz, h2⟩
  ·rw [if_neg hc] at P1'; exact P1'.elim
 | _ => exact P1.elim
end
end Mini
namespace Mini
open PySem PySem.Spec PyProof.Rows L2
section
variable {cl : Nat -> List Wd -> Me -> Rz} {X : Cx} {K : PySem.W.Frag}
theorem Sim.updD {as : List Addr} {m : Me} {H : Hp} {D : Addr} {ys : List V} {o : HO} (S : Sim K as m H) (hD : H D = some (.lst ys)) (hn : D ∉ as) : Sim K as m (upd H D o) := by
 refine ⟨S.len, S.nd, fun l b ob h1 h2 => ?_⟩
 have q := S.obj l b ob h1 h2
 have hb : b ≠ D := by rintro rfl; exact hn (List.mem_of_getElem? h1)
 cases ob with
 | lst zs =>
  obtain ⟨us, e, r⟩ := q
  exact ⟨us, by rw [upd_ne hb]; exact e, r.kp (Kp.upd hD)⟩
 | dct kvs => exact q.elim
theorem Sim.join {as : List Addr} {m : Me} {H : Hp} {D : Addr} {ys : List V} {acc : List Wd} (S : Sim K as m H) (hD : H D = some (.lst ys)) (hn : D ∉ as) (R : RepL K as H acc ys) : Sim K (as ++ [D]) (m ++ [.lst acc]) H := by
 have g : ∀ (l : Nat) (a : Addr), as[l]? = some a -> (as ++ [D])[l]? = some a := fun l a e => by
  rw [List.getElem?_append_left (List.getElem?_eq_some_iff.mp e).1]; exact e
 have kp : Kp K H H := ⟨fun _ _ h => h, fun _ _ h => h⟩
 refine ⟨by simp [S.len], ?_, fun l b o h1 h2 => ?_⟩
 ·refine List.nodup_append.mpr ⟨S.nd, by simp, fun x hx y hy => ?_⟩
  rw [List.mem_singleton.mp hy]
  rintro rfl
  exact hn hx
 ·by_cases hl : l < as.length
  ·rw [List.getElem?_append_left hl] at h1
   rw [List.getElem?_append_left (by rw [<- S.len]; exact hl)] at h2
   have q := S.obj l b o h1 h2
   cases o with
   | lst zs =>
    obtain ⟨us, e, r⟩ := q
    exact ⟨us, e, repL_mono kp g _ _ r⟩
   | dct kvs => exact q.elim
  ·rw [List.getElem?_append_right (by omega)] at h1
   rw [List.getElem?_append_right (by rw [<- S.len]; omega)] at h2
   have hz : l - as.length = 0 := by
    cases hq : l - as.length with
    | zero => rfl
    | succ k => rw [hq] at h1; simp at h1
   rw [hz] at h1
   rw [<- S.len, hz] at h2
   simp at h1 h2
   subst h1; subst h2
   exact ⟨ys, hD, repL_mono kp g _ _ R⟩
theorem Step.updD {as as' : List Addr} {H H' : Hp} {D : Addr} {o : HO} (T : Step as H as' H') (hD : H D = none) : Step as H as' (upd H' D o) :=
 ⟨T.pre, fun b ob h hb => by rw [upd_ne (ne_of_none h hD)]; exact T.frame b ob h hb, T.fresh⟩
theorem Step.join {as as' : List Addr} {H H' : Hp} {D : Addr} (T : Step as H as' H') (hD : H D = none) : Step as H (as' ++ [D]) H' := by
 refine ⟨?_, T.frame, fun a ha => ?_⟩
 ·obtain ⟨t, rfl⟩ := T.pre
  exact ⟨t ++ [D], by simp⟩
 ·rcases List.mem_append.mp ha with z | z
  ·exact T.fresh a z
  ·rw [List.mem_singleton.mp z]; exact .inr hD
theorem alloc_join {as as' : List Addr} {m : Me} {H H' : Hp} {D : Addr} {ys : List V} {acc : List Wd} {Q : VK} (S : Sim K as' m H') (T : Step as H as' H') (h0 : H D = none) (hD : H' D = some (.lst ys)) (hn : D ∉ as') (R : RepL K as' H' acc ys)
  (h : Post K as H Q (alloc m acc)) : Q (.ref D) H' := by
 unfold Mini.alloc at h
 split at h
 ·refine h (as' ++ [D]) H' (.ref D) (T.join h0) (S.join hD hn R) (rep_ref.mpr ⟨D, ?_, rfl⟩)
  rw [<- S.len, List.getElem?_append_right (Nat.le_refl _)]
  simp
 ·exact h.elim
structure Mid (K : PySem.W.Frag) (as : List Addr) (H : Hp) (D : Addr) (env : En) (σ : St) (as' : List Addr) (m' : Me) (acc : List Wd) (ys : List V) (H' : Hp) : Prop where
 T : Step as H as' H'
 S : Sim K as' m' H'
 hD : H' D = some (.lst ys)
 n : D ∉ as'
 R : RepL K as' H' acc ys
 G : EnvRep K as' H' env σ
theorem Mid.go {as : List Addr} {H : Hp} {D : Addr} {env : En} {σ : St} {as' as2 : List Addr} {m' m2 : Me} {acc : List Wd} {ys : List V} {H' H2 : Hp} (M : Mid K as H D env σ as' m' acc ys H') (U : Step as' H' as2 H2) (S2 : Sim K as2 m2 H2) : Mid K as H D env σ as2 m2 acc ys H2 :=
 ⟨M.T.trans U, S2, U.frame _ _ M.hD M.n, U.out M.hD M.n, M.R.mono M.S U, M.G.mono M.S U⟩
theorem Mid.push {as : List Addr} {H : Hp} {D : Addr} {env : En} {σ : St} {as' : List Addr} {m' : Me} {acc : List Wd} {ys : List V} {H' : Hp} {w : Wd} {v : V} (M : Mid K as H D env σ as' m' acc ys H') (h0 : H D = none) (R : Rep K as' H' w v) :
  Mid K as H D env σ as' m' (acc ++ [w]) (ys ++ [v]) (upd H' D (.lst (ys ++ [v]))) := by
 have kp : Kp K H' (upd H' D (.lst (ys ++ [v]))) := Kp.upd M.hD
 exact ⟨M.T.updD h0, M.S.updD M.hD M.n, upd_same, M.n, (M.R.append (.one R)).kp kp, M.G.kp kp⟩
theorem comp_turn {elt cond : Ex} {tc : TT} (htc : ∀ σ H Q, tOfT K (evE cl cond) σ H Q -> tc σ H Q) {as1 as' : List Addr} {H1 H' : Hp} {D : Addr} {env ex : En} {σ sx : St} {m' : Me} {acc : List Wd} {ys : List V} {Q : VK} {next : List Wd -> Me -> Rz} {N : List V -> Hp -> Prop}
  (h0 : H1 D = none) (M : Mid K as1 H1 D env σ as' m' acc ys H') (G : EnvRep K as' H' (env ++ ex) (σ ++ sx))
  (Pt : Post K as1 H1 Q ((evE cl cond (env ++ ex) m').bind fun b m1 => match b with
     | .bl true => (evE cl elt (env ++ ex) m1).bind fun y m2 => if acc.length < lim then next (acc ++ [y]) m2 else .no
     | .bl false => next acc m1
     | _ => .no))
  (hN : ∀ as2 m2 acc' ys' H2, Kp K H' H2 -> (∀ (l : Nat) (a : Addr), as'[l]? = some a -> as2[l]? = some a) -> Mid K as1 H1 D env σ as2 m2 acc' ys' H2 -> Post K as1 H1 Q (next acc' m2) -> N ys' H2) :
  tc (σ ++ sx) H' fun b H2 => if b = true then tOf K (evE cl elt) (σ ++ sx) H2 fun y H3 => H3 D = some (.lst ys) /\ ys.length < sizeLine /\ N (ys ++ [y]) (upd H3 D (.lst (ys ++ [y]))) else N ys H2 := by
 refine htc _ _ _ ⟨as', env ++ ex, m', M.S, G, Post.bindAt Pt M.T fun wb m2 as2 H2 vb T2 S2 R2 P2 => ?_⟩
 have M2 := M.go T2 S2
 cases wb with
 | bl k =>
  obtain rfl := rep_bl.mp R2
  refine ⟨k, rfl, ?_⟩
  cases k with
  | false => exact iteF (hN as2 m2 acc ys H2 (M.S.kp T2) (fun _ _ e => T2.get e) M2 P2)
  | true =>
   refine iteT ⟨as2, env ++ ex, m2, S2, G.mono M.S T2, Post.bindAt P2 M2.T fun wy m3 as3 H3 vy T3 S3 R3 P3 => ?_⟩
   have M3 := M2.go T3 S3
   have P3' : Post K as1 H1 Q (if acc.length < lim then next (acc ++ [wy]) m3 else .no) := P3
   by_cases hl : acc.length < lim
   ·rw [if_pos hl] at P3'
    refine ⟨M3.hD, by rw [<- M3.R.length]; exact Nat.lt_of_lt_of_le hl lim_line, hN as3 m3 (acc ++ [wy]) (ys ++ [vy]) _ ?_ (fun _ _ e => T3.get (T2.get e)) (M3.push h0 R3) P3'⟩
    have k1 := M.S.kp T2
    have k2 := S2.kp T3
    have k3 : Kp K H3 (upd H3 D (.lst (ys ++ [vy]))) := Kp.upd M3.hD
    exact ⟨fun a vs q => k3.t _ _ (k2.t _ _ (k1.t _ _ q)), fun a vs q => k3.f _ _ (k2.f _ _ (k1.f _ _ q))⟩
   ·rw [if_neg hl] at P3'; exact P3'.elim
 | _ => exact P2.elim
theorem Mid.start {as as1 : List Addr} {H H1 : Hp} {D : Addr} {env : En} {σ : St} {m1 : Me} (S1 : Sim K as1 m1 H1) (G1 : EnvRep K as1 H1 env σ) (hD : H1 D = none) : Mid K as1 H1 D env σ as1 m1 [] [] (upd H1 D (.lst [])) := by
 have T : Step as1 H1 as1 (upd H1 D (.lst [])) := Step.updD .refl hD
 exact ⟨T, S1.keep T fun b _ o e => by rw [upd_ne (ne_of_none e hD)]; exact e, upd_same, S1.new hD, repL_nil.mpr rfl, G1.mono S1 T⟩
def PairIt (K : PySem.W.Frag) (as : List Addr) (J : It) (g : Nat -> Me -> Option (Option (Wd × Wd))) : Prop :=
 ∀ (as' : List Addr) (m' : Me) (H' : Hp), (∀ (l : Nat) (a : Addr), as[l]? = some a -> as'[l]? = some a) -> Sim K as' m' H' -> ∀ i,
  (g i m' = some none -> J.stop i H') /\ ∀ x y, g i m' = some (some (x, y)) -> J.go i H' /\ ∀ v H'', J.yld i H' v H'' -> ∃ x' y', Yp H' v H'' x' y' /\ Rep K as' H' x x' /\ Rep K as' H' y y'
theorem compP_loop {elt cond : Ex} {tc : TT} (htc : ∀ σ H Q, tOfT K (evE cl cond) σ H Q -> tc σ H Q) {as1 : List Addr} {H1 : Hp} {env : En} {σ : St} {m1 : Me} {J : It} {g : Nat -> Me -> Option (Option (Wd × Wd))} {Q : VK} (hJ : PairIt K as1 J g) (S1 : Sim K as1 m1 H1) (G1 : EnvRep K as1 H1 env σ)
  (P : Post K as1 H1 Q (compG (fun u v m => evE cl cond (env ++ [some u] ++ [some v]) m) (fun u v m => evE cl elt (env ++ [some u] ++ [some v]) m) g (lim + 1) 0 [] m1)) :
  ∀ D, H1 D = none -> ∃ W : Nat -> Nat -> List V -> Hp -> Prop, (∃ m, W 0 m [] (upd H1 D (.lst []))) /\ ∀ i m ys H, W i m ys H ->
   (J.stop i H /\ Q (.ref D) H) \/ (J.go i H /\ ∀ v H', J.yld i H v H' -> ∃ vs, un2 K v H' vs /\ tc (σ ++ vs.map some) H' fun b H2 => if b = true then tOf K (evE cl elt) (σ ++ vs.map some) H2 fun y H3 => H3 D = some (.lst ys) /\ ys.length < sizeLine /\ ∃ m', m' < m /\ W (i + 1) m' (ys ++ [y]) (upd H3 D (.lst (ys ++ [y])))
    else ∃ m', m' < m /\ W (i + 1) m' ys H2) := by
 intro D hD
 refine ⟨fun i n ys H' => ∃ as' m' acc, (∀ (l : Nat) (a : Addr), as1[l]? = some a -> as'[l]? = some a) /\ Mid K as1 H1 D env σ as' m' acc ys H' /\
  Post K as1 H1 Q (compG (fun u v m => evE cl cond (env ++ [some u] ++ [some v]) m) (fun u v m => evE cl elt (env ++ [some u] ++ [some v]) m) g n i acc m'), ⟨lim + 1, as1, m1, [], fun _ _ e => e, Mid.start (as := as1) (H := H1) S1 G1 hD, P⟩, ?_⟩
 rintro i n ys H' ⟨as', m', acc, hl, M, Pi⟩
 cases n with
 | zero => exact Pi.elim
 | succ n =>
  unfold compG at Pi
  obtain ⟨q1, q2⟩ := hJ as' m' H' hl M.S i
  cases e : g i m' with
  | none => rw [e] at Pi; exact Pi.elim
  | some o =>
   rw [e] at Pi
   cases o with
   | none => exact .inl ⟨q1 e, alloc_join M.S M.T hD M.hD M.n M.R Pi⟩
   | some p =>
    obtain ⟨x, y⟩ := p
    simp only [] at Pi
    obtain ⟨go, yl⟩ := q2 x y e
    refine .inr ⟨go, fun v H'' hy => ?_⟩
    obtain ⟨x', y', ⟨T, hT, rfl, rfl⟩, Rx, Ry⟩ := yl v H'' hy
    refine ⟨[x', y'], ⟨T, rfl, SqT.of upd_same, rfl⟩, ?_⟩
    have U : Step as' H' as' (upd H' T (.tup [x', y'])) := Step.updD .refl hT
    have S2 : Sim K as' m' (upd H' T (.tup [x', y'])) := M.S.keep U fun b _ o e => by rw [upd_ne (ne_of_none e hT)]; exact e
    have M2 := M.go U S2
    have G2 : EnvRep K as' (upd H' T (.tup [x', y'])) (env ++ [some x, some y]) (σ ++ [x', y'].map some) := by
     have := (M2.G.push (Rx.mono M.S U)).push (Ry.mono M.S U)
     simpa using this
    refine comp_turn htc (ex := [some x, some y]) (next := fun acc m => compG (fun u v m => evE cl cond (env ++ [some u] ++ [some v]) m) (fun u v m => evE cl elt (env ++ [some u] ++ [some v]) m) g n (i + 1) acc m)
     (N := fun zs H2 => ∃ n', n' < n + 1 /\ ∃ as' m' acc, (∀ (l : Nat) (a : Addr), as1[l]? = some a -> as'[l]? = some a) /\ Mid K as1 H1 D env σ as' m' acc zs H2 /\ Post K as1 H1 Q (compG (fun u v m => evE cl cond (env ++ [some u] ++ [some v]) m) (fun u v m => evE cl elt (env ++ [some u] ++ [some v]) m) g n' (i + 1) acc m')) hD M2 G2 (by rw [show env ++ [some x] ++ [some y] = env ++ [some x, some y] from by simp] at Pi; exact Pi) ?_
    intro as2 m2 acc' ys' H2 kp gg M3 P3
    exact ⟨n, Nat.lt_succ_self _, as2, m2, acc', fun l a e => gg _ _ (hl l a e), M3, P3⟩
theorem pairIt_zip {as : List Addr} {la lb : Nat} {a b : Addr} (ha : as[la]? = some a) (hb : as[lb]? = some b) : PairIt K as (Itz K a b) (pairAt .zip (.ref la) (.ref lb)) := by
 intro as' m' H' hl S i
 simp only [pairAt]
 cases e1 : lstAt m' la with
 | none => exact ⟨fun z => by simp at z, fun x y z => by simp at z⟩
 | some xs =>
  cases e2 : lstAt m' lb with
  | none => exact ⟨fun z => by simp at z, fun x y z => by simp at z⟩
  | some ys =>
   obtain ⟨a', us, ha', eH, RL⟩ := lst_of S (lstAt_some e1)
   rw [hl _ _ ha] at ha'; cases ha'
   obtain ⟨b', vs, hb', eH2, RL2⟩ := lst_of S (lstAt_some e2)
   rw [hl _ _ hb] at hb'; cases hb'
   simp only
   cases ex : xs[i]? with
   | none =>
    refine ⟨fun _ => ⟨us, vs, SqL.of eH, SqL.of eH2, .inl ?_⟩, fun x y z => by simp at z⟩
    rw [<- RL.length]; exact List.getElem?_eq_none_iff.mp ex
   | some x =>
    cases ey : ys[i]? with
    | none =>
     refine ⟨fun _ => ⟨us, vs, SqL.of eH, SqL.of eH2, .inr ?_⟩, fun x y z => by simp at z⟩
     rw [<- RL2.length]; exact List.getElem?_eq_none_iff.mp ey
    | some y =>
     refine ⟨fun z => by simp at z, fun x2 y2 z => ?_⟩
     simp only [Option.some.injEq, Prod.mk.injEq] at z
     obtain ⟨rfl, rfl⟩ := z
     obtain ⟨u0, hu0, Ru⟩ := RL.get ex
     obtain ⟨v0, hv0, Rv⟩ := RL2.get ey
     refine ⟨⟨us, vs, u0, v0, SqL.of eH, SqL.of eH2, hu0, hv0⟩, fun v H'' hy => ?_⟩
     obtain ⟨p, q, yp, k1, k2⟩ := hy
     have := k1 us (SqL.of eH)
     rw [hu0] at this; cases this
     have := k2 vs (SqL.of eH2)
     rw [hv0] at this; cases this
     exact ⟨_, _, yp, Ru, Rv⟩
theorem pairIt_enum {as : List Addr} {la c : Nat} {a : Addr} (ha : as[la]? = some a) : PairIt K as (Ite K c a) (pairAt .enum (.ref la) (.int (c : Int))) := by
 intro as' m' H' hl S i
 simp only [pairAt]
 cases e1 : lstAt m' la with
 | none => exact ⟨fun z => by simp at z, fun x y z => by simp at z⟩
 | some xs =>
  obtain ⟨a', us, ha', eH, RL⟩ := lst_of S (lstAt_some e1)
  rw [hl _ _ ha] at ha'; cases ha'
  simp only
  cases ex : xs[i]? with
  | none =>
   refine ⟨fun _ => ⟨us, SqL.of eH, ?_⟩, fun x y z => by simp at z⟩
   rw [<- RL.length]; exact List.getElem?_eq_none_iff.mp ex
  | some x =>
   refine ⟨fun z => by simp at z, fun x2 y2 z => ?_⟩
   simp only [Option.map_some, Option.some.injEq, Prod.mk.injEq] at z
   obtain ⟨rfl, rfl⟩ := z
   obtain ⟨u0, hu0, Ru⟩ := RL.get ex
   refine ⟨⟨us, u0, SqL.of eH, hu0⟩, fun v H'' hy => ?_⟩
   obtain ⟨p, yp, k1⟩ := hy
   have := k1 us (SqL.of eH)
   rw [hu0] at this; cases this
   exact ⟨_, _, yp, rep_int.mpr (by congr 1; omega), Ru⟩
theorem bind_ok {w : Wd} {m : Me} {f : Wd -> Me -> Rz} : (Rz.ok w m).bind f = f w m := rfl
theorem compG_none {c e : Wd -> Wd -> Me -> Rz} {g : Nat -> Me -> Option (Option (Wd × Wd))} {k i : Nat} {acc : List Wd} {m : Me} (h : g i m = none) : compG c e g (k + 1) i acc m = .no := by
 unfold compG
 rw [h]
theorem pairAt_zip {w w2 : Wd} {i : Nat} {m : Me} {o : Option (Wd × Wd)} (e : pairAt .zip w w2 i m = some o) : ∃ la lb xs ys, w = .ref la /\ w2 = .ref lb /\ lstAt m la = some xs /\ lstAt m lb = some ys := by
 unfold pairAt at e
 split at e
 ·next la lb _ =>
  split at e
  ·next xs ys e1 e2 => exact ⟨la, lb, xs, ys, rfl, rfl, e1, e2⟩
  ·cases e
 ·next h => cases h
 ·cases e
theorem pairAt_enum {w w2 : Wd} {i : Nat} {m : Me} {o : Option (Wd × Wd)} (e : pairAt .enum w w2 i m = some o) : ∃ la xs, w = .ref la /\ lstAt m la = some xs := by
 unfold pairAt at e
 split at e
 ·next h => cases h
 ·next la s _ =>
  split at e
  ·next xs e1 => exact ⟨la, xs, rfl, e1⟩
  ·cases e
 ·cases e
theorem comp_bindZ {elt a b cond : Ex} {tc : TT} (htc : ∀ σ H Q, tOfT K (evE cl cond) σ H Q -> tc σ H Q) {σ : St} {H : Hp} {Q : VK} (h : tOf K (evE cl (.compP .zip elt a b cond)) σ H Q) :
  tComp (un2 K) (iZip K (tCons (tOf K (evE cl a)) (tCons (tOf K (evE cl b)) tNil))) tc (tOf K (evE cl elt)) σ H Q := by
 obtain ⟨as, env, m, S, G, P⟩ := h
 have P' : Post K as H Q ((evE cl a env m).bind fun x m1 => (evE cl b env m1).bind fun y m2 =>
  compG (fun u v m => evE cl cond (env ++ [some u] ++ [some v]) m) (fun u v m => evE cl elt (env ++ [some u] ++ [some v]) m) (pairAt .zip x y) (lim + 1) 0 [] m2) := P
 refine ⟨as, env, m, S, G, Post.bindAt P' .refl fun w m1 as1 H1 v T1 S1 R1 P1 => ?_⟩
 refine ⟨as1, env, m1, S1, G.mono S T1, Post.bindAt P1 T1 fun w2 m2 as2 H2 v2 T2 S2 R2 P2 => ?_⟩
 have P3 := Post.step P2 (T1.trans T2)
 have G2 := (G.mono S T1).mono S1 T2
 have look : ∃ la lb xs ys, w = .ref la /\ w2 = .ref lb /\ lstAt m2 la = some xs /\ lstAt m2 lb = some ys := by
  cases e : pairAt .zip w w2 0 m2 with
  | none => rw [compG_none e] at P3; exact P3.elim
  | some o => exact pairAt_zip e
 obtain ⟨la, lb, xs, ys, rfl, rfl, e1, e2⟩ := look
 obtain ⟨a1, ha1, rfl⟩ := rep_ref.mp R1
 obtain ⟨b1, hb1, rfl⟩ := rep_ref.mp R2
 have ha2 := T2.get ha1
 obtain ⟨a', us, ha', eH, RL⟩ := lst_of S2 (lstAt_some e1)
 rw [ha2] at ha'; cases ha'
 obtain ⟨b', vs, hb', eH2, RL2⟩ := lst_of S2 (lstAt_some e2)
 rw [hb1] at hb'; cases hb'
 exact ⟨a1, b1, us, vs, rfl, SqL.of eH, SqL.of eH2, compP_loop htc (pairIt_zip ha2 hb1) S2 G2 P3⟩
theorem comp_bindE {c : Nat} {z : Int} (hz : z = (c : Int)) {elt a cond : Ex} {tc : TT} (htc : ∀ σ H Q, tOfT K (evE cl cond) σ H Q -> tc σ H Q) {σ : St} {H : Hp} {Q : VK} (h : tOf K (evE cl (.compP .enum elt a (.lit (.int z)) cond)) σ H Q) :
  tComp (un2 K) (iEnum K c (tCons (tOf K (evE cl a)) tNil)) tc (tOf K (evE cl elt)) σ H Q := by
 subst hz
 obtain ⟨as, env, m, S, G, P⟩ := h
 have hl : ∀ m1, evE cl (.lit (.int (c : Int))) env m1 = .ok (.int (c : Int)) m1 := fun _ => rfl
 have P' : Post K as H Q ((evE cl a env m).bind fun x m1 => (evE cl (.lit (.int (c : Int))) env m1).bind fun y m2 =>
  compG (fun u v m => evE cl cond (env ++ [some u] ++ [some v]) m) (fun u v m => evE cl elt (env ++ [some u] ++ [some v]) m) (pairAt .enum x y) (lim + 1) 0 [] m2) := P
 refine ⟨as, env, m, S, G, Post.bindAt P' .refl fun w m1 as1 H1 v T1 S1 R1 P1 => ?_⟩
 rw [hl, bind_ok] at P1
 have P3 := Post.step P1 T1
 have look : ∃ la xs, w = .ref la /\ lstAt m1 la = some xs := by
  cases e : pairAt .enum w (.int (c : Int)) 0 m1 with
  | none => rw [compG_none e] at P3; exact P3.elim
  | some o => exact pairAt_enum e
 obtain ⟨la, xs, rfl, e1⟩ := look
 obtain ⟨a1, ha1, rfl⟩ := rep_ref.mp R1
 obtain ⟨a', us, ha', eH, RL⟩ := lst_of S1 (lstAt_some e1)
 rw [ha1] at ha'; cases ha'
 exact ⟨a1, us, rfl, SqL.of eH, compP_loop htc (pairIt_enum ha1) S1 (G.mono S T1) P3⟩
theorem comp_bind {elt it cond : Ex} {tc : TT} (htc : ∀ σ H Q, tOfT K (evE cl cond) σ H Q -> tc σ H Q) {σ : St} {H : Hp} {Q : VK} (h : tOf K (evE cl (.comp elt it cond)) σ H Q) :
  tComp un1 (iOf K (evE cl it)) tc (tOf K (evE cl elt)) σ H Q := by
 obtain ⟨as, env, m, S, G, P⟩ := h
 refine ⟨as, env, m, S, G, ?_⟩
 have P' : Post K as H Q ((evE cl it env m).bind fun x m1 => match x with
  | .tup xs => compL (fun x m => evE cl cond (env ++ [some x]) m) (fun x m => evE cl elt (env ++ [some x]) m) xs [] m1
  | .rol xs => compL (fun x m => evE cl cond (env ++ [some x]) m) (fun x m => evE cl elt (env ++ [some x]) m) xs [] m1
  | .ref l => compR (fun x m => evE cl cond (env ++ [some x]) m) (fun x m => evE cl elt (env ++ [some x]) m) l (lim + 1) 0 [] m1
  | _ => .no) := P
 clear P
 cases hr : evE cl it env m with
 | no => rw [hr] at P'; exact P'
 | exc c w m' => rw [hr] at P'; exact P'
 | ok w m1 =>
  rw [hr] at P'
  have start : ∀ {as1 : List Addr} {H1 : Hp} {D : Addr}, Step as H as1 H1 -> Sim K as1 m1 H1 -> H1 D = none -> Mid K as1 H1 D env σ as1 m1 [] [] (upd H1 D (.lst [])) := fun {as1 H1 D} T1 S1 hD => Mid.start (as := as) (H := H) S1 (G.mono S T1) hD
  -- over items that stay
  have seqs : ∀ (xs : List Wd), Post K as H Q (compL (fun x m => evE cl cond (env ++ [some x]) m) (fun x m => evE cl elt (env ++ [some x]) m) xs [] m1) ->
    ∀ as1 H1 J, Step as H as1 H1 -> Sim K as1 m1 H1 -> TupIt K as1 H1 J xs -> ∀ D, H1 D = none -> ∃ W : Nat -> Nat -> List V -> Hp -> Prop, (∃ m, W 0 m [] (upd H1 D (.lst []))) /\ ∀ i m ys H, W i m ys H ->
     (J.stop i H /\ Q (.ref D) H) \/ (J.go i H /\ ∀ v H', J.yld i H v H' -> ∃ vs, un1 v H' vs /\ tc (σ ++ vs.map some) H' fun b H2 => if b = true then tOf K (evE cl elt) (σ ++ vs.map some) H2 fun y H3 => H3 D = some (.lst ys) /\ ys.length < sizeLine /\ ∃ m', m' < m /\ W (i + 1) m' (ys ++ [y]) (upd H3 D (.lst (ys ++ [y])))
      else ∃ m', m' < m /\ W (i + 1) m' ys H2) := by
   intro xs Pc as1 H1 J T1 S1 hI D hD
   obtain ⟨vs, ok, hJ, ok1, RL, stab⟩ := hI
   have Pc1 := Post.step Pc T1
   have hlen := RL.length
   refine ⟨fun i n ys H' => ∃ as' m' acc, i <= xs.length /\ n = xs.length - i /\ Mid K as1 H1 D env σ as' m' acc ys H' /\ ok H' /\ RepL K as' H' xs vs /\
    Post K as1 H1 Q (compL (fun x m => evE cl cond (env ++ [some x]) m) (fun x m => evE cl elt (env ++ [some x]) m) (xs.drop i) acc m'),
    ⟨xs.length, as1, m1, [], Nat.zero_le _, rfl, start T1 S1 hD, stab _ _ (S1.kp (start T1 S1 hD).T) ok1, RL.mono S1 (start T1 S1 hD).T, Pc1⟩, ?_⟩
   rintro i n ys H' ⟨as', m', acc, hi, rfl, M, okH, RL', Pi⟩
   by_cases hlt : i < xs.length
   ·refine .inr ⟨hJ.go i H' okH (by rw [<- hlen]; exact hlt), fun v H'' hy => ?_⟩
    obtain ⟨rfl, hv⟩ := hJ.yld i H' v H'' okH (by rw [<- hlen]; exact hlt) hy
    obtain ⟨v', hv', Rx⟩ := RL'.get (i := i) (x := xs[i]) (by simp [hlt])
    rw [hv] at hv'; cases hv'
    rw [List.drop_eq_getElem_cons hlt] at Pi
    refine ⟨[v], rfl, comp_turn htc (sx := [some v]) (next := fun acc m => compL (fun x m => evE cl cond (env ++ [some x]) m) (fun x m => evE cl elt (env ++ [some x]) m) (xs.drop (i + 1)) acc m) (N := fun zs H2 => ∃ n', n' < xs.length - i /\ ∃ as' m' acc, i + 1 <= xs.length /\ n' = xs.length - (i + 1) /\ Mid K as1 H1 D env σ as' m' acc zs H2 /\ ok H2 /\ RepL K as' H2 xs vs /\ Post K as1 H1 Q (compL (fun x m => evE cl cond (env ++ [some x]) m) (fun x m => evE cl elt (env ++ [some x]) m) (xs.drop (i + 1)) acc m')) hD M (M.G.push Rx) Pi ?_⟩
    intro as2 m2 acc' ys' H2 kp g M2 P2
    exact ⟨xs.length - (i + 1), by omega, as2, m2, acc', hlt, rfl, M2, stab _ _ kp okH, repL_mono kp g _ _ RL', P2⟩
   ·have e : i = xs.length := by omega
    subst e
    rw [List.drop_length] at Pi
    exact .inl ⟨hJ.stop _ H' okH (by omega), alloc_join M.S M.T hD M.hD M.n M.R Pi⟩
  cases w with
  | tup xs => exact ⟨rfl, fun as1 H1 J T1 S1 hI => seqs xs P' as1 H1 J T1 S1 hI⟩
  | rol xs => exact ⟨rfl, fun as1 H1 J T1 S1 hI => seqs xs P' as1 H1 J T1 S1 hI⟩
  | ref l =>
   have P2 : Post K as H Q (compR (fun x m => evE cl cond (env ++ [some x]) m) (fun x m => evE cl elt (env ++ [some x]) m) l (lim + 1) 0 [] m1) := P'
   refine ⟨?_, fun as1 H1 J T1 S1 hI D hD => ?_⟩
   ·show (lstAt m1 l).isSome = true
    cases e : lstAt m1 l with
    | some xs => rfl
    | none =>
     unfold compR at P2
     rw [e] at P2
     exact P2.elim
   ·obtain ⟨a, ha, rfl⟩ := hI
    have Pc1 := Post.step P2 T1
    refine ⟨fun i n ys H' => ∃ as' m' acc, as'[l]? = some a /\ Mid K as1 H1 D env σ as' m' acc ys H' /\
     Post K as1 H1 Q (compR (fun x m => evE cl cond (env ++ [some x]) m) (fun x m => evE cl elt (env ++ [some x]) m) l n i acc m'), ⟨lim + 1, as1, m1, [], ha, start T1 S1 hD, Pc1⟩, ?_⟩
    rintro i n ys H' ⟨as', m', acc, hl, M, Pi⟩
    cases n with
    | zero => exact Pi.elim
    | succ n =>
     unfold compR at Pi
     cases e : lstAt m' l with
     | none => rw [e] at Pi; exact Pi.elim
     | some xs =>
      rw [e] at Pi
      simp only [] at Pi
      obtain ⟨a', vs, ha', eH, RL⟩ := lst_of M.S (lstAt_some e)
      rw [hl] at ha'; cases ha'
      cases ex : xs[i]? with
      | none =>
       rw [ex] at Pi
       have hle : vs.length <= i := by rw [<- RL.length]; exact List.getElem?_eq_none_iff.mp ex
       exact .inl ⟨⟨vs, SqL.of eH, hle⟩, alloc_join M.S M.T hD M.hD M.n M.R Pi⟩
      | some x =>
       rw [ex] at Pi
       obtain ⟨v0, hv0, Rx⟩ := RL.get ex
       refine .inr ⟨⟨vs, v0, SqL.of eH, hv0⟩, fun v H'' hy => ?_⟩
       obtain ⟨rfl, hy⟩ := hy
       have := hy vs (SqL.of eH)
       rw [hv0] at this; cases this
       refine ⟨[v0], rfl, comp_turn htc (sx := [some v0]) (next := fun acc m => compR (fun x m => evE cl cond (env ++ [some x]) m) (fun x m => evE cl elt (env ++ [some x]) m) l n (i + 1) acc m) (N := fun zs H2 => ∃ n', n' < n + 1 /\ ∃ as' m' acc, as'[l]? = some a /\ Mid K as1 H1 D env σ as' m' acc zs H2 /\ Post K as1 H1 Q (compR (fun x m => evE cl cond (env ++ [some x]) m) (fun x m => evE cl elt (env ++ [some x]) m) l n' (i + 1) acc m')) hD M (M.G.push Rx) Pi ?_⟩
       intro as2 m2 acc' ys' H2 kp g M2 P2
       exact ⟨n, Nat.lt_succ_self _, as2, m2, acc', g _ _ hl, M2, P2⟩
  | non => exact P'.elim
  | bl k => exact P'.elim
  | int i => exact P'.elim
  | str s => exact P'.elim
end
end Mini
namespace Mini
open PySem PySem.Spec PyProof.Rows L2
section
variable {cl : Nat -> List Wd -> Me -> Rz}
theorem Snd.pe {X : Cx} {e : Ex} {x : Expr} (h : Snd cl X e (.e x)) (hr : isRng e = false) : PE X x (tOf X.K (evE cl e)) := (h.1 hr).1
theorem Snd.pt {X : Cx} {e : Ex} {x : Expr} (h : Snd cl X e (.e x)) (hr : isRng e = false) (hi : isIf e = false) : PT X x (tOfT X.K (evE cl e)) := (h.1 hr).2.1 hi
theorem Snd.pw {X : Cx} {e : Ex} {op : BoolOp} {vs : List Expr} {pos : Pos} (h : Snd cl X e (.e (.BoolOp op vs pos))) (hr : isRng e = false) : PW X (.BoolOp op vs pos) (tOfT X.K (evE cl e)) := (h.1 hr).2.2 op vs pos rfl
theorem Snd.pa {X : Cx} {e : Ex} {xs : List Expr} (h : Snd cl X e (.a xs)) : PA X xs (tOfA X.K (evE cl e)) := h
theorem vis_of {sc : Scope} {x : Str} (h : visB sc x = true) : Vis sc x := by
 unfold visB at h
 simp only [Bool.or_eq_true, decide_eq_true_eq] at h
 exact h
theorem gl_of {sc : Scope} {x : Str} (h : glB sc x = true) : sc.names.lookup x = some .globalImplicit := of_decide_eq_true h
theorem tOf_lit {K : PySem.W.Frag} {w : Wd} {v : V} (hv : ∀ as H, Rep K as H w v) : ∀ σ H Q, tOf K (evE cl (.lit w)) σ H Q -> tC v σ H Q := fun σ H Q h => by
 obtain ⟨as, env, m, S, G, P⟩ := h
 exact Post.ok (m := m) P S (hv as H)
theorem sound {C : Ctx} {d : Nat} {sc : Scope} {N : List Str} {e : Ex} {n : Nd} (h : IsE C sc N e n) : ∀ X : Cx, CtxOk C X cl d -> X.env.scope = sc -> X.N = N -> Snd cl X e n := by
 induction h with
 | @var sc N i x p h1 h2 h3 =>
  intro X hC es eN
  subst es; subst eN
  obtain ⟨n1, n2, _⟩ := okName_of h3
  refine Snd.of (PE.imp (pe_var h1 (vis_of h2) n1 n2) fun σ H Q q => ?_)
  obtain ⟨as, env, m, S, G, P⟩ := q
  cases hw : env[i]? with
  | none => have P' : Post X.K as H Q (match env[i]? with | some (some w) => .ok w m | _ => .no) := P; rw [hw] at P'; exact P'.elim
  | some o =>
   cases o with
   | none => have P' : Post X.K as H Q (match env[i]? with | some (some w) => .ok w m | _ => .no) := P; rw [hw] at P'; exact P'.elim
   | some w =>
    have P' : Post X.K as H Q (match env[i]? with | some (some w) => .ok w m | _ => .no) := P
    rw [hw] at P'
    obtain ⟨v, hv, R⟩ := G.get i w hw
    exact ⟨v, hv, Post.ok (m := m) P' S R⟩
 | non => intro X hC es eN; exact Snd.of (PE.imp pe_non (tOf_lit fun _ _ => rep_non.mpr rfl))
 | bl => intro X hC es eN; exact Snd.of (PE.imp pe_bl (tOf_lit fun _ _ => rep_bl.mpr rfl))
 | int => intro X hC es eN; exact Snd.of (PE.imp pe_int (tOf_lit fun _ _ => rep_int.mpr rfl))
 | str h => intro X hC es eN; subst h; exact Snd.of (PE.imp pe_str (tOf_lit fun _ _ => rep_str.mpr (by simp)))
 | @con sc N x i p h1 h2 h3 =>
  intro X hC es eN
  subst es
  obtain ⟨n1, n2, _⟩ := okName_of h3
  obtain ⟨t, ht⟩ := hC.con x i h2
  exact Snd.of (PE.imp (pe_glob (gl_of h1) ht (v := .int i) ⟨t, rfl⟩ n1) (tOf_lit fun _ _ => rep_int.mpr rfl))
 | bin ra ha rb hb iha ihb => intro X hC es eN; exact Snd.of (se_bin ((iha X hC es eN).pe ra) ((ihb X hC es eN).pe rb))
 | neg ra ha iha => intro X hC es eN; exact Snd.of (se_neg ((iha X hC es eN).pe ra))
 | not ra ia ha iha =>
  intro X hC es eN
  have s1 := iha X hC es eN
  exact ⟨fun _ => ⟨se_not (s1.pe ra), fun _ => st_not (s1.pt ra ia), fun op vs pos z => by cases z⟩, fun tg => pi_of (se_not (s1.pe ra))⟩
 | and2 ra ia ha rb ib hb iha ihb =>
  intro X hC es eN
  have sa := iha X hC es eN
  have sb := ihb X hC es eN
  have e := fun (p : Pos) => se_and (pos := p) (sa.pe ra) (pe_one (sb.pe rb))
  have w := fun (p : Pos) => sw_and (pos := p) (sa.pt ra ia) (pw_and1 (sb.pt rb ib))
  exact ⟨fun _ => ⟨e _, fun _ => (w _).pt, fun op vs pos z => by cases z; exact w _⟩, fun tg => pi_of (e _)⟩
 | andN ra ia ha rb hb iha ihb =>
  intro X hC es eN
  have sa := iha X hC es eN
  have sb := ihb X hC es eN
  have e := se_and (sa.pe ra) (sb.pe rb)
  have w := sw_and (sa.pt ra ia) (sb.pw rb)
  exact ⟨fun _ => ⟨e, fun _ => w.pt, fun op vs pos z => by cases z; exact w⟩, fun tg => pi_of e⟩
 | or2 ra ia ha rb ib hb iha ihb =>
  intro X hC es eN
  have sa := iha X hC es eN
  have sb := ihb X hC es eN
  have e := fun (p : Pos) => se_or (pos := p) (sa.pe ra) (pe_one (sb.pe rb))
  have w := fun (p : Pos) => sw_or (pos := p) (sa.pt ra ia) (pw_or1 (sb.pt rb ib))
  exact ⟨fun _ => ⟨e _, fun _ => (w _).pt, fun op vs pos z => by cases z; exact w _⟩, fun tg => pi_of (e _)⟩
 | orN ra ia ha rb hb iha ihb =>
  intro X hC es eN
  have sa := iha X hC es eN
  have sb := ihb X hC es eN
  have e := se_or (sa.pe ra) (sb.pe rb)
  have w := sw_or (sa.pt ra ia) (sb.pw rb)
  exact ⟨fun _ => ⟨e, fun _ => w.pt, fun op vs pos z => by cases z; exact w⟩, fun tg => pi_of e⟩
 | cmp hs ra ha rb hb iha ihb =>
  intro X hC es eN
  have ea := (iha X hC es eN).pe ra
  have eb := (ihb X hC es eN).pe rb
  exact ⟨fun _ => ⟨se_cmp hC.room.units ea eb hs, fun _ => st_cmp hC.room.units ea eb hs, fun op vs pos z => by cases z⟩, fun tg => pi_of (se_cmp hC.room.units ea eb hs)⟩
 | chain hs ra ha rb hb rc hc iha ihb ihc =>
  intro X hC es eN
  have ea := (iha X hC es eN).pe ra
  have eb := (ihb X hC es eN).pe rb
  have ec := (ihc X hC es eN).pe rc
  exact ⟨fun _ => ⟨se_chain hC.room.units ea eb ec hs, fun _ => st_chain hC.room.units ea eb ec hs, fun op vs pos z => by cases z⟩, fun tg => pi_of (se_chain hC.room.units ea eb ec hs)⟩
 | ife rc ic hc ra ha rb hb ihc iha ihb =>
  intro X hC es eN
  have e := fun (p : Pos) => se_ite (pos := p) ((ihc X hC es eN).pt rc ic) ((iha X hC es eN).pe ra) ((ihb X hC es eN).pe rb)
  exact ⟨fun _ => ⟨e _, fun z => (by cases z), fun op vs pos z => (by cases z)⟩, fun tg => pi_of (e _)⟩
 | unit => intro X hC es eN; exact sa_unit
 | pair hs ra ha hb iha ihb => intro X hC es eN; exact sa_pair ((iha X hC es eN).pe ra) (ihb X hC es eN).pa hs
 | call h1 h2 h3 hs ha iha => intro X hC es eN; subst es; exact Snd.of (se_call hC h1 (gl_of h2) h3 hs (iha X hC rfl eN).pa)
 | blt h1 h2 h3 hs ha iha => intro X hC es eN; subst es; exact Snd.of (se_blt hC h1 (gl_of h2) h3 hs (iha X hC rfl eN).pa)
 | isi h1 h2 hs ra ha iha => intro X hC es eN; subst es; exact Snd.of (se_isi hC (gl_of h1) (gl_of h2) hs ((iha X hC rfl eN).pe ra))
 | lst ha iha => intro X hC es eN; exact Snd.of (se_lst (iha X hC es eN).pa)
 | tup ha iha => intro X hC es eN; exact Snd.of (se_tup (iha X hC es eN).pa)
 | idx hs ra ha rb hb iha ihb => intro X hC es eN; exact Snd.of (se_idx ((iha X hC es eN).pe ra) ((ihb X hC es eN).pe rb) hs)
 | slL ra ha rb hb iha ihb => intro X hC es eN; exact Snd.of (se_slL ((iha X hC es eN).pe ra) ((ihb X hC es eN).pe rb))
 | slH ra ha rb hb iha ihb => intro X hC es eN; exact Snd.of (se_slH ((iha X hC es eN).pe ra) ((ihb X hC es eN).pe rb))
 | slB ra ha rb hb rc hc iha ihb ihc => intro X hC es eN; exact Snd.of (se_slB ((iha X hC es eN).pe ra) ((ihb X hC es eN).pe rb) ((ihc X hC es eN).pe rc))
 | meth0 hx hl ro ho iho => intro X hC es eN; exact Snd.of (se_meth0 ((iho X hC es eN).pe ro) hx hl)
 | meth hx hl hn hs ro ho ha iho iha => intro X hC es eN; exact Snd.of (se_meth ((iho X hC es eN).pe ro) (iha X hC es eN).pa hx hl hn hs)
 | rng1 hg hs rb hb ihb => intro X hC es eN; subst es; exact ⟨fun z => (by cases z), fun tg => si_rng1 hC (gl_of hg) hs ((ihb X hC rfl eN).pe rb)⟩
 | rng2 hg hs hs' ra ha rb hb iha ihb => intro X hC es eN; subst es; exact ⟨fun z => (by cases z), fun tg => si_rng2 hC (gl_of hg) hs hs' ((iha X hC rfl eN).pe ra) ((ihb X hC rfl eN).pe rb)⟩
 | rng3 hg hs hs' hs2 ra ha rb hb rc hc iha ihb ihc => intro X hC es eN; subst es; exact ⟨fun z => (by cases z), fun tg => si_rng3 hC (gl_of hg) hs hs' hs2 ((iha X hC rfl eN).pe ra) ((ihb X hC rfl eN).pe rb) ((ihc X hC rfl eN).pe rc)⟩
 | lrng hl hg hs ra ha iha => intro X hC es eN; subst es; exact Snd.of (se_lrng hC (gl_of hl) (gl_of hg) hs ((iha X hC rfl eN).pe ra))
 | @comp0 sc scope N elt it x i y p p' hs hB hi re he ihi ihe =>
  intro X hC es eN
  subst es; subst eN
  have B := blockB_ok hB
  have hI := (ihi X hC rfl rfl).2 (.Name y p)
  have hset : ∀ v, foldedSetIterable i X.env v = pure v := fun v => by cases i <;> first | rfl | cases hs
  have body : ∀ Xc, CompOf X scope [y] Xc -> PE Xc x (tOf X.K (evE cl elt)) := fun Xc c => by
   have q := (ihe Xc (hC.comp c) c.sc c.N).pe re
   rw [c.K] at q
   exact q
  refine Snd.of (PE.imp (pe_comp B hC.calm (tgt_one B) hI (fun Xc c => ⟨pts_nil, body Xc c⟩) hset) fun σ H Q q => comp_bind (fun σ H Q q => ?_) q)
  obtain ⟨as, env, m, S, G, P⟩ := q
  obtain ⟨b, e, q⟩ := Post.ok (m := m) P S (rep_bl.mpr rfl)
  cases e
  exact q
 | @comp1 sc scope N elt it cond x i f y p p' hs hB hi rc ic hc re he ihi ihc ihe =>
  intro X hC es eN
  subst es; subst eN
  have B := blockB_ok hB
  have hI := (ihi X hC rfl rfl).2 (.Name y p)
  have hset : ∀ v, foldedSetIterable i X.env v = pure v := fun v => by cases i <;> first | rfl | cases hs
  have body : ∀ Xc, CompOf X scope [y] Xc -> PE Xc x (tOf X.K (evE cl elt)) := fun Xc c => by
   have q := (ihe Xc (hC.comp c) c.sc c.N).pe re
   rw [c.K] at q
   exact q
  refine Snd.of (PE.imp (pe_comp B hC.calm (tgt_one B) hI (fun Xc c => ⟨pts_one ?_, body Xc c⟩) hset) fun σ H Q q => comp_bind (fun σ H Q q => q) q)
  have q := (ihc Xc (hC.comp c) c.sc c.N).pt rc ic
  rw [c.K] at q
  exact q
 | @compZ0 sc scope N elt a b x i j y z p p' q q' q2 pt kt hg hB hs hs' ra ha rb hb re he iha ihb ihe =>
  intro X hC es eN
  subst es; subst eN
  have B := blockB_ok hB
  have hI : PI X (.Tuple [.Name y p, .Name z q] kt pt) (.Call (.Name "zip" q') [i, j] [] q2) _ := pi_zip (gl_of hg) (hC.blt _ (by simp [bltNames])) (pa_cons ((iha X hC rfl rfl).pe ra) (pa_cons ((ihb X hC rfl rfl).pe rb) pa_nil (star_cons hs')) (star_cons hs)) (by rw [star_cons hs, star_cons hs']; rfl) (star_cons hs')
  have body : ∀ Xc, CompOf X scope [y, z] Xc -> PE Xc x (tOf X.K (evE cl elt)) := fun Xc c => by
   have q := (ihe Xc (hC.comp c) c.sc c.N).pe re
   rw [c.K] at q
   exact q
  refine Snd.of (PE.imp (pe_comp B hC.calm (tgt_two hC.calm B) hI (fun Xc c => ⟨pts_nil, body Xc c⟩) (fun _ => rfl)) fun σ H Q q => comp_bindZ (fun σ H Q q => ?_) q)
  obtain ⟨as, env, m, S, G, P⟩ := q
  obtain ⟨b, e, q⟩ := Post.ok (m := m) P S (rep_bl.mpr rfl)
  cases e
  exact q
 | @compE0 sc scope N elt a x i y z p p' q q' q2 pt kt hg hB hs ra ha re he iha ihe =>
  intro X hC es eN
  subst es; subst eN
  have B := blockB_ok hB
  have hI : PI X (.Tuple [.Name y p, .Name z q] kt pt) (.Call (.Name "enumerate" q') [i] [] q2) _ := pi_enum (gl_of hg) (hC.blt _ (by simp [bltNames])) (pa_cons ((iha X hC rfl rfl).pe ra) pa_nil (star_cons hs)) (star_cons hs)
  have body : ∀ Xc, CompOf X scope [y, z] Xc -> PE Xc x (tOf X.K (evE cl elt)) := fun Xc c => by
   have q := (ihe Xc (hC.comp c) c.sc c.N).pe re
   rw [c.K] at q
   exact q
  refine Snd.of (PE.imp (pe_comp B hC.calm (tgt_two hC.calm B) hI (fun Xc c => ⟨pts_nil, body Xc c⟩) (fun _ => rfl)) fun σ H Q q => comp_bindE (c := 0) rfl (fun σ H Q q => ?_) q)
  obtain ⟨as, env, m, S, G, P⟩ := q
  obtain ⟨b, e, q⟩ := Post.ok (m := m) P S (rep_bl.mpr rfl)
  cases e
  exact q
 | @compES sc scope N elt a x i y z p p' q q' q2 pt kp cp kt ck hg hB hs ra ha re he iha ihe =>
  intro X hC es eN
  subst es; subst eN
  have B := blockB_ok hB
  have hI : PI X (.Tuple [.Name y p, .Name z q] kt pt) (.Call (.Name "enumerate" q') [i] [⟨some "start", .Constant (.int 1) ck cp, kp⟩] q2) _ := pi_enumK (gl_of hg) (hC.blt _ (by simp [bltNames])) (pa_cons ((iha X hC rfl rfl).pe ra) pa_nil (star_cons hs)) (star_cons hs)
  have body : ∀ Xc, CompOf X scope [y, z] Xc -> PE Xc x (tOf X.K (evE cl elt)) := fun Xc c => by
   have q := (ihe Xc (hC.comp c) c.sc c.N).pe re
   rw [c.K] at q
   exact q
  refine Snd.of (PE.imp (pe_comp B hC.calm (tgt_two hC.calm B) hI (fun Xc c => ⟨pts_nil, body Xc c⟩) (fun _ => rfl)) fun σ H Q q => comp_bindE (c := 1) rfl (fun σ H Q q => ?_) q)
  obtain ⟨as, env, m, S, G, P⟩ := q
  obtain ⟨b, e, q⟩ := Post.ok (m := m) P S (rep_bl.mpr rfl)
  cases e
  exact q
 | @compE1 sc scope N elt a cond x i f y z p p' q q' q2 pt kt hg hB hs ra ha rc ic hc re he iha ihc ihe =>
  intro X hC es eN
  subst es; subst eN
  have B := blockB_ok hB
  have hI : PI X (.Tuple [.Name y p, .Name z q] kt pt) (.Call (.Name "enumerate" q') [i] [] q2) _ := pi_enum (gl_of hg) (hC.blt _ (by simp [bltNames])) (pa_cons ((iha X hC rfl rfl).pe ra) pa_nil (star_cons hs)) (star_cons hs)
  have body : ∀ Xc, CompOf X scope [y, z] Xc -> PE Xc x (tOf X.K (evE cl elt)) := fun Xc c => by
   have q := (ihe Xc (hC.comp c) c.sc c.N).pe re
   rw [c.K] at q
   exact q
  refine Snd.of (PE.imp (pe_comp B hC.calm (tgt_two hC.calm B) hI (fun Xc c => ⟨pts_one ?_, body Xc c⟩) (fun _ => rfl)) fun σ H Q q => comp_bindE (c := 0) rfl (fun σ H Q q => q) q)
  have q := (ihc Xc (hC.comp c) c.sc c.N).pt rc ic
  rw [c.K] at q
  exact q
end
end Mini
namespace Mini
open PySem PySem.Spec PyProof.Rows L2
theorem sw_sub {o i p j a b : Expr} {p1 p2 p3 p4 : Pos} {k k' : Nat} {env : Env} : swappedStores [.Tuple [.Subscript o i p1, .Subscript p j p2] k p3] (.Tuple [a, b] k' p4) env = pure none := by
 unfold swappedStores
 simp only []
 split
 ·rfl
 ·split
  ·rfl
  ·rfl
theorem sw_one {o i v : Expr} {p1 : Pos} {env : Env} : swappedStores [.Subscript o i p1] v env = pure none := rfl
theorem sw_none {v tg : Expr} {line : Nat} {env : Env} (h : ∀ x p, tg ≠ .Name x p) : swapsWithSole [tg] v line env = pure false := by
 cases v <;> first | rfl | (cases tg <;> first | rfl | exact absurd rfl (h _ _))
def isComp : Expr -> Bool
 | .ListComp _ _ _ _ => true
 | .SetComp _ _ _ _ => true
 | .DictComp _ _ _ _ _ => true
 | _ => false
theorem sw_val {v : Expr} {t : Option Expr} {line : Nat} {env : Env} (h : isComp v = false) : swapsWith v t line env = pure false := by
 cases v <;> first | rfl | cases h
def PostS (K : PySem.W.Frag) (as : List Addr) (H : Hp) (D : Ends) (r : Rs) : Prop := match r with
 | .next e m' => ∀ as' H' σ', Step as H as' H' -> Sim K as' m' H' -> EnvRep K as' H' e σ' -> D.nx σ' H'
 | .brk e m' => ∀ as' H' σ', Step as H as' H' -> Sim K as' m' H' -> EnvRep K as' H' e σ' -> D.bk σ' H'
 | .cont e m' => ∀ as' H' σ', Step as H as' H' -> Sim K as' m' H' -> EnvRep K as' H' e σ' -> D.ct σ' H'
 | .ret w m' => ∀ as' H' v, Step as H as' H' -> Sim K as' m' H' -> Rep K as' H' w v -> D.rt v H'
 | _ => False
def tOfS (K : PySem.W.Frag) (g : En -> Me -> Rs) : TS := fun D σ H => ∃ as env m, Sim K as m H /\ EnvRep K as H env σ /\ PostS K as H D (g env m)
section
variable {K : PySem.W.Frag} {as as' : List Addr} {H H' : Hp} {m : Me} {D : Ends}
theorem PostS.step {r : Rs} (h : PostS K as H D r) (T : Step as H as' H') : PostS K as' H' D r := by
 cases r with
 | next e m' => exact fun as2 H2 σ' U S G => h as2 H2 σ' (T.trans U) S G
 | brk e m' => exact fun as2 H2 σ' U S G => h as2 H2 σ' (T.trans U) S G
 | cont e m' => exact fun as2 H2 σ' U S G => h as2 H2 σ' (T.trans U) S G
 | ret w m' => exact fun as2 H2 v U S R => h as2 H2 v (T.trans U) S R
 | exc c w e m' => exact h
 | no => exact h
theorem PostS.bind {Q1 : VK} {r : Rz} {env : En} {f : Wd -> Me -> Rs} (h : PostS K as H D (r.bindS env f))
  (k : ∀ w m' as' H' v, Step as H as' H' -> Sim K as' m' H' -> Rep K as' H' w v -> PostS K as' H' D (f w m') -> Q1 v H') : Post K as H Q1 r := by
 cases r with
 | ok w m' => exact fun as2 H2 v U S R => k w m' as2 H2 v U S R (PostS.step (r := f w m') h U)
 | exc c w m' => exact h
 | no => exact h
theorem PostS.bindI {R1 : It -> Hp -> Prop} {r : Rz} {env : En} {f : Wd -> Me -> Rs} (h : PostS K as H D (r.bindS env f))
  (k : ∀ w m', PostS K as H D (f w m') -> (seqOf m' w).isSome = true /\ ∀ as' H' J, Step as H as' H' -> Sim K as' m' H' -> ItOf K as' H' w J -> R1 J H') : PostI K as H R1 r := by
 cases r with
 | ok w m' => exact k w m' h
 | exc c w m' => exact h
 | no => exact h
theorem PostS.next {env : En} {σ : St} (h : PostS K as H D (.next env m)) (S : Sim K as m H) (G : EnvRep K as H env σ) : D.nx σ H := h as H σ .refl S G
end
section
variable {cl : Nat -> List Wd -> Me -> Rz} {X : Cx} {e o i : Ex} {x y z : Expr} {pos : Pos}
theorem ss_skip : PSs X [] (tOfS X.K (exS cl .skip)) := PSs.imp pss_nil fun D σ H h => by
 obtain ⟨as, env, m, S, G, P⟩ := h
 exact PostS.next (m := m) P S G
theorem ss_pass : PS X (.Pass pos) (tOfS X.K (exS cl .skip)) := PS.imp ps_pass fun D σ H h => by
 obtain ⟨as, env, m, S, G, P⟩ := h
 exact PostS.next (m := m) P S G
theorem ss_seq {a b : Sm} {st : Stmt} {sts : List Stmt} (ha : PS X st (tOfS X.K (exS cl a))) (hb : PSs X sts (tOfS X.K (exS cl b))) : PSs X (st :: sts) (tOfS X.K (exS cl (.seq a b))) :=
 PSs.imp (pss_cons ha hb) fun D σ H h => by
  obtain ⟨as, env, m, S, G, P⟩ := h
  refine ⟨as, env, m, S, G, ?_⟩
  have P' : PostS X.K as H D (match exS cl a env m with | .next e1 m1 => exS cl b e1 m1 | r => r) := P
  cases hr : exS cl a env m with
  | next e1 m1 =>
   rw [hr] at P'
   exact fun as' H' σ' T S' G' => ⟨as', e1, m1, S', G', PostS.step P' T⟩
  | brk e1 m1 => rw [hr] at P'; exact P'
  | cont e1 m1 => rw [hr] at P'; exact P'
  | ret w m1 => rw [hr] at P'; exact P'
  | exc c w e1 m1 => rw [hr] at P'; exact P'
  | no => rw [hr] at P'; exact P'
theorem asg_bind {K : PySem.W.Frag} {i : Nat} {e : Ex} {D : Ends} {σ : St} {H : Hp} (h : tOfS K (exS cl (.asg i e)) D σ H) : tAsg (tOf K (evE cl e)) (gName i) D σ H := by
 obtain ⟨as, env, m, S, G, P⟩ := h
 refine ⟨as, env, m, S, G, PostS.bind P fun w m1 as1 H1 v T1 S1 R1 P1 => ?_⟩
 exact PostS.next (m := m1) P1 S1 ((G.mono S T1).set R1 i)
theorem ss_ret (he : PE X x (tOf X.K (evE cl e))) : PS X (.Return (some x) pos) (tOfS X.K (exS cl (.ret e))) := PS.imp (ps_ret he) fun D σ H h => by
 obtain ⟨as, env, m, S, G, P⟩ := h
 refine ⟨as, env, m, S, G, PostS.bind P fun w m1 as1 H1 v T1 S1 R1 P1 => ?_⟩
 exact P1 as1 H1 v .refl S1 R1
theorem ss_retN : PS X (.Return none pos) (tOfS X.K (exS cl .retN)) := PS.imp ps_retN fun D σ H h => by
 obtain ⟨as, env, m, S, G, P⟩ := h
 exact P as H .non .refl S (rep_non.mpr rfl)
theorem ss_expr (he : PE X x (tOf X.K (evE cl e))) (hc : isComp x = false) : PS X (.Expr x pos) (tOfS X.K (exS cl (.expr e))) := PS.imp (ps_expr he (sw_val hc)) fun D σ H h => by
 obtain ⟨as, env, m, S, G, P⟩ := h
 refine ⟨as, env, m, S, G, PostS.bind P fun w m1 as1 H1 v T1 S1 R1 P1 => ?_⟩
 exact PostS.next (m := m1) P1 S1 (G.mono S T1)
theorem ss_brk : PS X (.Break pos) (tOfS X.K (exS cl .brk)) := PS.imp ps_break fun D σ H h => by
 obtain ⟨as, env, m, S, G, P⟩ := h
 exact P as H σ .refl S G
theorem ss_cont : PS X (.Continue pos) (tOfS X.K (exS cl .cont)) := PS.imp ps_continue fun D σ H h => by
 obtain ⟨as, env, m, S, G, P⟩ := h
 exact P as H σ .refl S G
theorem ss_never {st : Stmt} : PS X st (tOfS X.K (exS cl .never)) := PS.imp ps_never fun D σ H h => by
 obtain ⟨as, env, m, S, G, P⟩ := h
 exact P
theorem ss_if {a b : Sm} {xs ys : List Stmt} (hc : PT X x (tOfT X.K (evE cl e))) (ha : PSs X xs (tOfS X.K (exS cl a))) (hb : PSs X ys (tOfS X.K (exS cl b))) : PS X (.If x xs ys pos) (tOfS X.K (exS cl (.ite e a b))) :=
 PS.imp (ps_if hc ha hb) fun D σ H h => by
  obtain ⟨as, env, m, S, G, P⟩ := h
  refine ⟨as, env, m, S, G, PostS.bind P fun w m1 as1 H1 v T1 S1 R1 P1 => ?_⟩
  cases w with
  | bl k =>
   obtain rfl := rep_bl.mp R1
   refine ⟨k, rfl, ?_⟩
   cases k with
   | true => exact iteT ⟨as1, env, m1, S1, G.mono S T1, P1⟩
   | false => exact iteF ⟨as1, env, m1, S1, G.mono S T1, P1⟩
  | _ => exact P1.elim
theorem set_bind {K : PySem.W.Frag} {as : List Addr} {H : Hp} {m : Me} {D : Ends} {env : En} {o i w : Wd} {vo vi v : V} {Q : Hp -> Prop} {f : Wd -> Me -> Rs} (S : Sim K as m H) (Ro : Rep K as H o vo) (Ri : Rep K as H i vi) (Rw : Rep K as H w v)
  (h : PostS K as H D ((setR o i w m).bindS env f)) (k : ∀ m' H', Step as H as H' -> Sim K as m' H' -> PostS K as H' D (f .non m') -> Q H') : rSetL vo vi v H Q := by
 have key : ∀ r, setR o i w m = r -> (∃ m', r = .ok .non m') \/ r = .no := fun r e => by
  unfold setR at e
  split at e
  ·split at e
   ·split at e
    ·exact .inl ⟨_, e.symm⟩
    ·exact .inr e.symm
   ·exact .inr e.symm
  ·exact .inr e.symm
 rcases key _ rfl with ⟨m', e⟩ | e
 ·refine set_ok S Ro Ri Rw (fun m2 e2 H' T S' => ?_) ⟨m', e⟩
  rw [e] at e2; cases e2
  rw [e] at h
  exact k m' H' T S' (PostS.step (r := f .non m') h T)
 ·rw [e] at h; exact h.elim
theorem assign_sub {o i : Expr} {p : Pos} {env : Env} (hs : notSlice i = true) : ∀ v, assign (.Subscript o i p) env v = (do
   let ov <- holding [v] (eval o env)
   let iv <- holding [v, ov] (eval i env)
   standAt p
   holding [v, ov, iv] (setItem ov iv v)
   release [v, ov, iv] []) := fun v => by
 cases i <;> first | rfl | cases hs
theorem ss_asgS {p1 : Pos} (ho : PE X x (tOf X.K (evE cl o))) (hi : PE X y (tOf X.K (evE cl i))) (he : PE X z (tOf X.K (evE cl e))) (hs : notSlice y = true) : PS X (.Assign [.Subscript x y p1] z pos) (tOfS X.K (exS cl (.asgS o i e))) :=
 PS.imp (ps_asg he (pg_sub ho hi set_list (assign_sub hs)) (sw_none (by intros; intro q; cases q)) sw_one) fun D σ H h => by
  obtain ⟨as, env, m, S, G, P⟩ := h
  refine ⟨as, env, m, S, G, PostS.bind P fun w m1 as1 H1 v T1 S1 R1 P1 => ?_⟩
  refine ⟨as1, env, m1, S1, G.mono S T1, PostS.bind P1 fun wo m2 as2 H2 vo T2 S2 R2 P2 => ?_⟩
  refine ⟨as2, env, m2, S2, (G.mono S T1).mono S1 T2, PostS.bind P2 fun wi m3 as3 H3 vi T3 S3 R3 P3 => ?_⟩
  refine set_bind S3 (R2.mono S2 T3) R3 ((R1.mono S1 T2).mono S2 T3) P3 fun m4 H4 T4 S4 P4 => ?_
  exact PostS.next (m := m4) P4 S4 ((((G.mono S T1).mono S1 T2).mono S2 T3).mono S3 T4)
end
end Mini
namespace Mini
open PySem PySem.Spec PyProof.Rows L2
section
variable {cl : Nat -> List Wd -> Me -> Rz} {X : Cx} {e o i p j a b : Ex} {x y z u v w : Expr} {pos : Pos}
theorem ss_swapS {p1 p2 p3 p4 : Pos} {k k' : Nat} (hc : X.calm = true) (ho : PE X x (tOf X.K (evE cl o))) (hi : PE X y (tOf X.K (evE cl i))) (hp : PE X z (tOf X.K (evE cl p))) (hj : PE X u (tOf X.K (evE cl j)))
  (ha : PE X v (tOf X.K (evE cl a))) (hb : PE X w (tOf X.K (evE cl b))) (hs : notSlice y = true) (hs' : notSlice u = true) (h1 : notStar v = true) (h2 : notStar w = true) :
  PS X (.Assign [.Tuple [.Subscript x y p1, .Subscript z u p2] k p3] (.Tuple [v, w] k' p4) pos) (tOfS X.K (exS cl (.swapS o i p j a b))) := by
 have hG : PG X (.Tuple [.Subscript x y p1, .Subscript z u p2] k p3) (gTup X.K 2 (gCons (gSub (tOf X.K (evE cl o)) (tOf X.K (evE cl i)) rSetL) (gCons (gSub (tOf X.K (evE cl p)) (tOf X.K (evE cl j)) rSetL) gNil))) :=
  pg_tup hc (pgs_cons (pg_sub ho hi set_list (assign_sub hs)) (pgs_cons (pg_sub hp hj set_list (assign_sub hs')) pgs_nil))
 refine PS.imp (ps_asg (pe_tup (pa_cons ha (pa_cons hb pa_nil (star_cons h2)) (star_cons h1))) hG (sw_none (by intros; intro q; cases q)) sw_sub) fun D σ H h => ?_
 obtain ⟨as, env, m, S, G, P⟩ := h
 refine ⟨as, env, m, S, G, PostS.bind P fun wa m0 as0 H0 va T0 S0 R0 P0 => ?_⟩
 have G0 := G.mono S T0
 refine ⟨as0, env, m0, S0, G0, PostS.bind P0 fun wb m1 as1 H1 vb T1 S1 R1 P1 => ⟨by show 2 <= sizeLine; rw [sizeLine_eq]; decide, fun q hq => ?_⟩⟩
 have Ra := R0.mono S0 T1
 obtain ⟨Tt, St', Rt⟩ := S1.tup (ws := [wa, wb]) (vs := [va, vb]) hq (repL_cons.mpr ⟨va, [vb], rfl, Ra, .one R1⟩)
 have G1 := (G0.mono S0 T1).mono S1 Tt
 refine ⟨q, [va, vb], rfl, SqT.of upd_same, rfl, va, [vb], rfl, ?_⟩
 have P1' := PostS.step P1 Tt
 refine ⟨as1, env, m1, St', G1, PostS.bind P1' fun wo m2 as2 H2 vo T2 S2 R2 P2 => ?_⟩
 refine ⟨as2, env, m2, S2, G1.mono St' T2, PostS.bind P2 fun wi m3 as3 H3 vi T3 S3 R3 P3 => ?_⟩
 have Ra3 := ((Ra.mono S1 Tt).mono St' T2).mono S2 T3
 refine set_bind S3 (R2.mono S2 T3) R3 Ra3 P3 fun m4 H4 T4 S4 P4 => ?_
 have G4 := ((G1.mono St' T2).mono S2 T3).mono S3 T4
 refine ⟨vb, [], rfl, ?_⟩
 refine ⟨as3, env, m4, S4, G4, PostS.bind P4 fun wp m5 as5 H5 vp T5 S5 R5 P5 => ?_⟩
 refine ⟨as5, env, m5, S5, G4.mono S4 T5, PostS.bind P5 fun wj m6 as6 H6 vj T6 S6 R6 P6 => ?_⟩
 have Rb6 := (((((R1.mono S1 Tt).mono St' T2).mono S2 T3).mono S3 T4).mono S4 T5).mono S5 T6
 refine set_bind S6 (R5.mono S5 T6) R6 Rb6 P6 fun m7 H7 T7 S7 P7 => ?_
 exact ⟨rfl, PostS.next (m := m7) P7 S7 (((G4.mono S4 T5).mono S5 T6).mono S6 T7)⟩
def augB : Bo -> Bool
 | .add => true
 | .sub => true
 | _ => false
def augF : Bo -> Int -> Int -> Int
 | .sub => fun i j => i - j
 | _ => fun i j => i + j
theorem ip_of {op : Bo} (h : augB op = true) : PIp X (opK op) (ipI (augF op)) := by
 cases op with
 | add => exact ip_add
 | sub => exact ip_sub
 | _ => cases h
theorem bop_int {op : Bo} (h : augB op = true) {i j : Int} {m : Me} : bop op (.int i) (.int j) m = .ok (.int (augF op i j)) m := by
 cases op with
 | add => rfl
 | sub => rfl
 | _ => cases h
theorem aug_int {K : PySem.W.Frag} {as : List Addr} {H : Hp} {m : Me} {D : Ends} {env : En} {op : Bo} {wx wy : Wd} {vx vy : V} {f : Wd -> Me -> Rs} {Q : VK} (hop : augB op = true) (Rx : Rep K as H wx vx) (Ry : Rep K as H wy vy)
  (h : PostS K as H D (augI op wx wy m env f)) (k : ∀ z, PostS K as H D (f (.int z) m) -> Q (.int z) H) : ipI (augF op) vx vy H Q := by
 cases wx with
 | int i =>
  cases wy with
  | int j =>
   have h' : PostS K as H D ((bop op (.int i) (.int j) m).bindS env f) := h
   rw [bop_int hop] at h'
   exact ⟨i, j, rep_int.mp Rx, rep_int.mp Ry, k _ h'⟩
  | _ => exact h.elim
 | _ => exact h.elim
theorem ss_aug {op : Bo} {n : Nat} {nm : Str} {p1 : Pos} (hop : augB op = true) (hN : X.N.Nodup) (hi : X.N[n]? = some nm) (hx : Loc X.env.scope nm) (hf : X.fn nm = true \/ X.env.scope.names.lookup nm = some .local) (he : PE X x (tOf X.K (evE cl e))) :
  PS X (.AugAssign (.Name nm p1) (opK op) x pos) (tOfS X.K (exS cl (.aug n op e))) := PS.imp (ps_aug hN hi hx he (ip_of hop) hf) fun D σ H h => by
 obtain ⟨as, env, m, S, G, P⟩ := h
 have P' : PostS X.K as H D (match env[n]? with
  | some (some x) => (evE cl e env m).bindS env fun y m1 => augI op x y m1 env fun z m2 => .next (env.set n (some z)) m2
  | _ => .no) := P
 split at P'
 ·rename_i wx hw
  obtain ⟨vx, hv, Rx⟩ := G.get n wx hw
  refine ⟨vx, hv, as, env, m, S, G, PostS.bind P' fun wy m1 as1 H1 vy T1 S1 R1 P1 => ?_⟩
  refine aug_int hop (Rx.mono S T1) R1 P1 fun z P2 => ?_
  exact PostS.next (m := m1) P2 S1 ((G.mono S T1).set (rep_int.mpr rfl) n)
 ·exact P'.elim
theorem get_list : PGet X (rIxL X.K) := by
 intro pins s σ H x y v u Q I rx ry h
 obtain ⟨p, xs, i, z, rfl, rfl, hq, he, q⟩ := h
 cases rx
 obtain ⟨t, rfl⟩ := ry
 obtain ⟨its, r, pl, hz⟩ := I.list hq
 obtain ⟨j, h1, h2, h3, h4, h5⟩ := atI_get he
 obtain ⟨w, ew, rw'⟩ := r.get h2
 have hl := r.length
 have hn := line63
 have fin : EP X pins σ Q w s := ⟨z, H, I, rw', q⟩
 by_cases h0 : 0 <= i
 ·have hj : i.toNat = j := by
   rw [seqIndex_of h0 h5] at h1
   exact Option.some.inj h1
  exact wpAny_getItem_list pl.isList h0 (by omega) (by rw [hj]; simpa using ew) fin
 ·have hj : (i + (its.toArray.size : Int)).toNat = j := by
   rw [seqIndex_neg (by omega) h4] at h1
   rw [List.size_toArray, <- hl]
   exact Option.some.inj h1
  exact wpAny_getItem_list_neg pl.isList (by omega) (by rw [List.size_toArray] <;> omega) (by omega) (by rw [hj]; simpa using ew) fin
theorem idx_ref {K : PySem.W.Frag} {as : List Addr} {H : Hp} {m : Me} {Q : VK} {l : Nat} {y : Wd} {v u : V} (S : Sim K as m H) (R : Rep K as H (.ref l) v) (R' : Rep K as H y u) (h : Post K as H Q (idxR (.ref l) y m)) : rIxL K v u H Q := by
 unfold idxR at h
 split at h
 ·rename_i i
  obtain rfl := rep_int.mp R'
  split at h
  ·rename_i xs hs
   split at h
   ·rename_i w hw
    obtain ⟨p, hp, rfl⟩ := rep_ref.mp R
    obtain ⟨p', vs, hp', e, rr⟩ := lst_of S (lstAt_some hs)
    rw [hp] at hp'; cases hp'
    obtain ⟨j, hj, hx⟩ := Option.bind_eq_some_iff.mp hw
    obtain ⟨z, hz, rz⟩ := rr.get hx
    refine ⟨p, vs, i, z, rfl, rfl, SqL.of e, ?_, h.ok S rz⟩
    unfold atI
    have hj' : ixN vs.length i = some j := by rw [<- rr.length]; exact hj
    rw [hj']
    exact hz
   ·exact h.elim
  ·exact h.elim
 ·exact h.elim
theorem ss_augS {op : Bo} {p1 : Pos} (hop : augB op = true) (ho : PE X x (tOf X.K (evE cl o))) (hi : PE X y (tOf X.K (evE cl i))) (he : PE X z (tOf X.K (evE cl e))) (hs : notSlice y = true) :
  PS X (.AugAssign (.Subscript x y p1) (opK op) z pos) (tOfS X.K (exS cl (.augS o i op e))) := by
 have hst : ∀ ov iv new, augStore y ov iv new = (do holding [new, ov, iv] (setItem ov iv new); release [new, ov, iv] []; pure .next) := fun ov iv new => by cases y <;> first | rfl | cases hs
 refine PS.imp (ps_augS ho hi get_list he (ip_of hop) set_list hst) fun D σ H h => ?_
 obtain ⟨as, env, m, S, G, P⟩ := h
 refine ⟨as, env, m, S, G, PostS.bind P fun wo m1 as1 H1 vo T1 S1 R1 P1 => ?_⟩
 have G1 := G.mono S T1
 cases wo with
 | ref l =>
  refine ⟨as1, env, m1, S1, G1, PostS.bind P1 fun wi m2 as2 H2 vi T2 S2 R2 P2 => ?_⟩
  have G2 := G1.mono S1 T2
  have Ro := R1.mono S1 T2
  refine idx_ref S2 Ro R2 (PostS.bind P2 fun wu m3 as3 H3 vu T3 S3 R3 P3 => ?_)
  refine ⟨as3, env, m3, S3, G2.mono S2 T3, PostS.bind P3 fun wv m4 as4 H4 vv T4 S4 R4 P4 => ?_⟩
  refine aug_int hop (R3.mono S3 T4) R4 P4 fun z P5 => ?_
  refine set_bind (m := m4) S4 ((Ro.mono S2 T3).mono S3 T4) ((R2.mono S2 T3).mono S3 T4) (rep_int.mpr rfl) P5 fun m6 H6 T6 S6 P6 => ?_
  exact PostS.next (m := m6) P6 S6 (((G2.mono S2 T3).mono S3 T4).mono S4 T6)
 | _ => exact P1.elim
end
end Mini
namespace Mini
open PySem PySem.Spec PyProof.Rows L2
section
variable {cl : Nat -> List Wd -> Me -> Rz} {X : Cx} {K : PySem.W.Frag}
structure TgtOk (K : PySem.W.Frag) (g : TG) (st : Wd -> En -> Option En) : Prop where
 ok : ∀ {as : List Addr} {H : Hp} {m : Me} {env env' : En} {σ : St} {w : Wd} {v : V} {Q : L2.St -> Hp -> Prop}, Sim K as m H -> EnvRep K as H env σ -> Rep K as H w v -> st w env = some env' -> (∀ σ', EnvRep K as H env' σ' -> Q σ' H) -> g v σ H Q
theorem tgt_name (i : Nat) : TgtOk K (gName i) (fun w env => some (env.set i (some w))) :=
 ⟨fun S G R e k => by cases e; exact k _ (G.set R i)⟩
theorem tgt_pair (i j : Nat) : TgtOk K (gTup K 2 (gCons (gName i) (gCons (gName j) gNil))) (st2 i j) := by
 refine ⟨fun {as H m env env' σ w v Q} S G R e k => ?_⟩
 unfold st2 at e
 split at e
 ·rename_i a b
  cases e
  obtain ⟨p, vs, rfl, hq, rr⟩ := rep_tup.mp R
  obtain ⟨va, vb, rfl, ra, rb⟩ := repL_2 rr
  exact ⟨p, [va, vb], rfl, hq, rfl, va, [vb], rfl, vb, [], rfl, rfl, k _ ((G.set ra i).set rb j)⟩
 ·cases e
theorem for_turn {g : TG} {st : Wd -> En -> Option En} {b : En -> Me -> Rs} (hg : TgtOk K g st) {D : Ends} {as1 as' : List Addr} {H1 H' : Hp} {m' : Me} {env' : En} {σ' : St} {x : Wd} {v : V} {next : En -> Me -> Rs} {N : L2.St -> Hp -> Prop} (T : Step as1 H1 as' H') (S' : Sim K as' m' H') (G' : EnvRep K as' H' env' σ') (Rx : Rep K as' H' x v)
  (Pt : PostS K as1 H1 D (match bodyOf st b x env' m' with
    | .next e1 m1 => next e1 m1
    | .cont e1 m1 => next e1 m1
    | .brk e1 m1 => .next e1 m1
    | r => r))
  (hN : ∀ as2 m2 e2 σ2 H2, Step as' H' as2 H2 -> Sim K as2 m2 H2 -> EnvRep K as2 H2 e2 σ2 -> PostS K as1 H1 D (next e2 m2) -> N σ2 H2) :
  g v σ' H' fun σ2 H2 => tOfS K b { D with nx := N, ct := N, bk := D.nx } σ2 H2 := by
 unfold bodyOf at Pt
 cases hs : st x env' with
 | none => rw [hs] at Pt; exact Pt.elim
 | some e2 =>
  rw [hs] at Pt
  simp only [] at Pt
  refine hg.ok S' G' Rx hs fun σ2 G2 => ⟨as', e2, m', S', G2, ?_⟩
  cases hr : b e2 m' with
  | next e3 m3 => rw [hr] at Pt; exact fun as3 H3 σ3 U S3 G3 => hN as3 m3 e3 σ3 H3 U S3 G3 Pt
  | cont e3 m3 => rw [hr] at Pt; exact fun as3 H3 σ3 U S3 G3 => hN as3 m3 e3 σ3 H3 U S3 G3 Pt
  | brk e3 m3 => rw [hr] at Pt; exact fun as3 H3 σ3 U S3 G3 => Pt as3 H3 σ3 (T.trans U) S3 G3
  | ret w' m3 => rw [hr] at Pt; exact fun as3 H3 v3 U S3 R3 => Pt as3 H3 v3 (T.trans U) S3 R3
  | exc c w' e3 m3 => rw [hr] at Pt; exact Pt.elim
  | no => rw [hr] at Pt; exact Pt.elim
theorem for_bind {it : En -> Me -> Rz} {g : TG} {st : Wd -> En -> Option En} {b : En -> Me -> Rs} (hg : TgtOk K g st) {D : Ends} {σ : St} {H : Hp}
  (h : tOfS K (fun env m => (it env m).bindS env fun w m1 => forW (bodyOf st b) w env m1) D σ H) : tFor (iOf K it) g (tOfS K b) D σ H := by
 obtain ⟨as, env, m, S, G, P⟩ := h
 refine ⟨as, env, m, S, G, PostS.bindI P fun w m1 P1 => ?_⟩
 have seqs : ∀ (xs : List Wd), PostS K as H D (loopL (bodyOf st b) xs env m1) -> ∀ as1 H1 J, Step as H as1 H1 -> Sim K as1 m1 H1 -> TupIt K as1 H1 J xs ->
   ∃ W : Nat -> Nat -> L2.St -> Hp -> Prop, (∃ m, W 0 m σ H1) /\ ∀ i m σ H, W i m σ H ->
    (J.stop i H /\ D.nx σ H) \/ (J.go i H /\ ∃ N : L2.St -> Hp -> Prop, (∀ σ' H', N σ' H' -> ∃ m', m' < m /\ W (i + 1) m' σ' H') /\ ∀ x H', J.yld i H x H' -> g x σ H' fun σ2 H2 => tOfS K b { D with nx := N, ct := N, bk := D.nx } σ2 H2) := by
  intro xs Pc as1 H1 J T1 S1 hI
  obtain ⟨vs, ok, hJ, ok1, RL, stab⟩ := hI
  have hlen := RL.length
  have Pc1 := PostS.step Pc T1
  refine ⟨fun i n σ' H' => ∃ as' m' env', i <= xs.length /\ n = xs.length - i /\ Step as1 H1 as' H' /\ Sim K as' m' H' /\ EnvRep K as' H' env' σ' /\ ok H' /\ RepL K as' H' xs vs /\ PostS K as1 H1 D (loopL (bodyOf st b) (xs.drop i) env' m'),
   ⟨xs.length, as1, m1, env, Nat.zero_le _, rfl, .refl, S1, G.mono S T1, ok1, RL, Pc1⟩, ?_⟩
  rintro i n σ' H' ⟨as', m', env', hi, rfl, T', S', G', okH, RL', Pi⟩
  by_cases hlt : i < xs.length
  ·refine .inr ⟨hJ.go i H' okH (by rw [<- hlen]; exact hlt), fun σ2 H2 => ∃ as2 m2 env2, i + 1 <= xs.length /\ Step as1 H1 as2 H2 /\ Sim K as2 m2 H2 /\ EnvRep K as2 H2 env2 σ2 /\ ok H2 /\ RepL K as2 H2 xs vs /\ PostS K as1 H1 D (loopL (bodyOf st b) (xs.drop (i + 1)) env2 m2), ?_, fun v H'' hy => ?_⟩
   ·rintro σ2 H2 ⟨as2, m2, env2, q⟩
    exact ⟨xs.length - (i + 1), by omega, as2, m2, env2, q.1, rfl, q.2⟩
   ·obtain ⟨rfl, hv⟩ := hJ.yld i H' v H'' okH (by rw [<- hlen]; exact hlt) hy
    obtain ⟨v', hv', Rx⟩ := RL'.get (i := i) (x := xs[i]) (by simp [hlt])
    rw [hv] at hv'; cases hv'
    rw [List.drop_eq_getElem_cons hlt] at Pi
    refine for_turn hg (next := fun e m => loopL (bodyOf st b) (xs.drop (i + 1)) e m) T' S' G' Rx Pi ?_
    intro as2 m2 e2 σ2 H2 U S2 G2 P2
    exact ⟨as2, m2, e2, hlt, T'.trans U, S2, G2, stab _ _ (S'.kp U) okH, RL'.mono S' U, P2⟩
  ·have e : i = xs.length := by omega
   subst e
   rw [List.drop_length] at Pi
   exact .inl ⟨hJ.stop _ H' okH (by omega), Pi as' H' σ' T' S' G'⟩
 cases w with
 | tup xs => exact ⟨rfl, fun as1 H1 J T1 S1 hI => seqs xs P1 as1 H1 J T1 S1 hI⟩
 | rol xs => exact ⟨rfl, fun as1 H1 J T1 S1 hI => seqs xs P1 as1 H1 J T1 S1 hI⟩
 | ref l =>
  have P2 : PostS K as H D (loopR (bodyOf st b) l (lim + 1) 0 env m1) := P1
  refine ⟨?_, fun as1 H1 J T1 S1 hI => ?_⟩
  ·show (lstAt m1 l).isSome = true
   cases e : lstAt m1 l with
   | some xs => rfl
   | none =>
    unfold loopR at P2
    rw [e] at P2
    exact P2.elim
  ·obtain ⟨a, ha, rfl⟩ := hI
   have Pc1 := PostS.step P2 T1
   refine ⟨fun i n σ' H' => ∃ as' m' env', as'[l]? = some a /\ Step as1 H1 as' H' /\ Sim K as' m' H' /\ EnvRep K as' H' env' σ' /\ PostS K as1 H1 D (loopR (bodyOf st b) l n i env' m'), ⟨lim + 1, as1, m1, env, ha, .refl, S1, G.mono S T1, Pc1⟩, ?_⟩
   rintro i n σ' H' ⟨as', m', env', hl, T', S', G', Pi⟩
   cases n with
   | zero => exact Pi.elim
   | succ n =>
    unfold loopR at Pi
    cases e : lstAt m' l with
    | none => rw [e] at Pi; exact Pi.elim
    | some xs =>
     rw [e] at Pi
     simp only [] at Pi
     obtain ⟨a', vs, ha', eH, RL⟩ := lst_of S' (lstAt_some e)
     rw [hl] at ha'; cases ha'
     cases ex : xs[i]? with
     | none =>
      rw [ex] at Pi
      have hle : vs.length <= i := by rw [<- RL.length]; exact List.getElem?_eq_none_iff.mp ex
      exact .inl ⟨⟨vs, SqL.of eH, hle⟩, Pi as' H' σ' T' S' G'⟩
     | some x =>
      rw [ex] at Pi
      obtain ⟨v0, hv0, Rx⟩ := RL.get ex
      refine .inr ⟨⟨vs, v0, SqL.of eH, hv0⟩, fun σ2 H2 => ∃ as2 m2 env2, as2[l]? = some a /\ Step as1 H1 as2 H2 /\ Sim K as2 m2 H2 /\ EnvRep K as2 H2 env2 σ2 /\ PostS K as1 H1 D (loopR (bodyOf st b) l n (i + 1) env2 m2), ?_, fun v H'' hy => ?_⟩
      ·rintro σ2 H2 q
       exact ⟨n, Nat.lt_succ_self _, q⟩
      ·obtain ⟨rfl, hy⟩ := hy
       have := hy vs (SqL.of eH)
       rw [hv0] at this; cases this
       refine for_turn hg (next := fun e m => loopR (bodyOf st b) l n (i + 1) e m) T' S' G' Rx Pi ?_
       intro as2 m2 e2 σ2 H2 U S2 G2 P2
       exact ⟨as2, m2, e2, U.get hl, T'.trans U, S2, G2, P2⟩
 | non => exact P1.elim
 | bl k => exact P1.elim
 | int i => exact P1.elim
 | str s => exact P1.elim
theorem for_loopZ {g : TG} {i j : Nat} {b : En -> Me -> Rs} (hg : TgtOk K g (st2 i j)) {as1 : List Addr} {H1 : Hp} {env : En} {σ : St} {m1 : Me} {J : It} {gz : Nat -> Me -> Option (Option (Wd × Wd))} {D : Ends} (hJ : PairIt K as1 J gz) (S1 : Sim K as1 m1 H1) (G1 : EnvRep K as1 H1 env σ)
  (P : PostS K as1 H1 D (loopG (bodyOf (st2 i j) b) gz (lim + 1) 0 env m1)) :
  ∃ W : Nat -> Nat -> L2.St -> Hp -> Prop, (∃ m, W 0 m σ H1) /\ ∀ i m σ H, W i m σ H ->
   (J.stop i H /\ D.nx σ H) \/ (J.go i H /\ ∃ N : L2.St -> Hp -> Prop, (∀ σ' H', N σ' H' -> ∃ m', m' < m /\ W (i + 1) m' σ' H') /\ ∀ x H', J.yld i H x H' -> g x σ H' fun σ2 H2 => tOfS K b { D with nx := N, ct := N, bk := D.nx } σ2 H2) := by
 refine ⟨fun i0 n σ' H' => ∃ as' m' env', (∀ (l : Nat) (a : Addr), as1[l]? = some a -> as'[l]? = some a) /\ Step as1 H1 as' H' /\ Sim K as' m' H' /\ EnvRep K as' H' env' σ' /\ PostS K as1 H1 D (loopG (bodyOf (st2 i j) b) gz n i0 env' m'), ⟨lim + 1, as1, m1, env, fun _ _ e => e, .refl, S1, G1, P⟩, ?_⟩
 rintro i0 n σ' H' ⟨as', m', env', hl, T', S', G', Pi⟩
 cases n with
 | zero => exact Pi.elim
 | succ n =>
  unfold loopG at Pi
  obtain ⟨q1, q2⟩ := hJ as' m' H' hl S' i0
  cases e : gz i0 m' with
  | none => rw [e] at Pi; exact Pi.elim
  | some o =>
   rw [e] at Pi
   cases o with
   | none => exact .inl ⟨q1 e, Pi as' H' σ' T' S' G'⟩
   | some p =>
    obtain ⟨x, y⟩ := p
    simp only [] at Pi
    obtain ⟨go, yl⟩ := q2 x y e
    refine .inr ⟨go, fun σ2 H2 => ∃ as2 m2 env2, (∀ (l : Nat) (a : Addr), as1[l]? = some a -> as2[l]? = some a) /\ Step as1 H1 as2 H2 /\ Sim K as2 m2 H2 /\ EnvRep K as2 H2 env2 σ2 /\ PostS K as1 H1 D (loopG (bodyOf (st2 i j) b) gz n (i0 + 1) env2 m2), ?_, fun v H'' hy => ?_⟩
    ·rintro σ2 H2 q
     exact ⟨n, Nat.lt_succ_self _, q⟩
    ·obtain ⟨x', y', ⟨T, hT, rfl, rfl⟩, Rx, Ry⟩ := yl v H'' hy
     have U : Step as' H' as' (upd H' T (.tup [x', y'])) := Step.updD .refl hT
     have S2 : Sim K as' m' (upd H' T (.tup [x', y'])) := S'.keep U fun b _ o e => by rw [upd_ne (ne_of_none e hT)]; exact e
     have Rp : Rep K as' (upd H' T (.tup [x', y'])) (.tup [x, y]) (.ref T) := rep_tup.mpr ⟨T, [x', y'], rfl, SqT.of upd_same, (RepL.one (Rx.mono S' U)).append (.one (Ry.mono S' U))⟩
     refine for_turn hg (next := fun e m => loopG (bodyOf (st2 i j) b) gz n (i0 + 1) e m) (T'.trans U) S2 (G'.mono S' U) Rp Pi ?_
     intro as2 m2 e2 σ2 H2 U2 S3 G3 P2
     exact ⟨as2, m2, e2, fun l a q => U2.get (hl l a q), (T'.trans U).trans U2, S3, G3, P2⟩
theorem loopG_none {b : Wd -> En -> Me -> Rs} {g : Nat -> Me -> Option (Option (Wd × Wd))} {k i : Nat} {env : En} {m : Me} (h : g i m = none) : loopG b g (k + 1) i env m = .no := by
 unfold loopG
 rw [h]
theorem for_bindZ {i j : Nat} {a b : Ex} {body : Sm} {D : Ends} {σ : St} {H : Hp} (h : tOfS K (exS cl (.forZ i j a b body)) D σ H) :
  tFor (iZip K (tCons (tOf K (evE cl a)) (tCons (tOf K (evE cl b)) tNil))) (gTup K 2 (gCons (gName i) (gCons (gName j) gNil))) (tOfS K (exS cl body)) D σ H := by
 obtain ⟨as, env, m, S, G, P⟩ := h
 refine ⟨as, env, m, S, G, PostS.bind P fun w m1 as1 H1 v T1 S1 R1 P1 => ?_⟩
 refine ⟨as1, env, m1, S1, G.mono S T1, PostS.bind P1 fun w2 m2 as2 H2 v2 T2 S2 R2 P2 => ?_⟩
 have G2 := (G.mono S T1).mono S1 T2
 have look : ∃ la lb xs ys, w = .ref la /\ w2 = .ref lb /\ lstAt m2 la = some xs /\ lstAt m2 lb = some ys := by
  cases e : pairAt .zip w w2 0 m2 with
  | none => rw [loopG_none e] at P2; exact P2.elim
  | some o => exact pairAt_zip e
 obtain ⟨la, lb, xs, ys, rfl, rfl, e1, e2⟩ := look
 obtain ⟨a1, ha1, rfl⟩ := rep_ref.mp R1
 obtain ⟨b1, hb1, rfl⟩ := rep_ref.mp R2
 have ha2 := T2.get ha1
 obtain ⟨a', us, ha', eH, RL⟩ := lst_of S2 (lstAt_some e1)
 rw [ha2] at ha'; cases ha'
 obtain ⟨b', vs, hb', eH2, RL2⟩ := lst_of S2 (lstAt_some e2)
 rw [hb1] at hb'; cases hb'
 exact ⟨a1, b1, us, vs, rfl, SqL.of eH, SqL.of eH2, for_loopZ (tgt_pair i j) (pairIt_zip ha2 hb1) S2 G2 P2⟩
theorem while_bind {c : Ex} {b : Sm} {D : Ends} {σ : St} {H : Hp} (h : tOfS K (exS cl (.while c b)) D σ H) : tWhile (tOfT K (evE cl c)) (tOfS K (exS cl b)) D σ H := by
 obtain ⟨as, env, m, S, G, P⟩ := h
 refine ⟨fun n σ' H' => ∃ as' m' env', Step as H as' H' /\ Sim K as' m' H' /\ EnvRep K as' H' env' σ' /\ PostS K as H D (loopW (evE cl c) (exS cl b) n env' m'), ⟨1000000, as, m, env, .refl, S, G, P⟩, ?_⟩
 rintro n σ' H' ⟨as', m', env', T', S', G', Pi⟩
 cases n with
 | zero => exact Pi.elim
 | succ n =>
  unfold loopW at Pi
  refine ⟨as', env', m', S', G', ?_⟩
  cases hr : evE cl c env' m' with
  | no => rw [hr] at Pi; exact Pi.elim
  | exc k w m1 => rw [hr] at Pi; exact Pi.elim
  | ok w m1 =>
   rw [hr] at Pi
   intro as1 H1 v T1 S1 R1
   cases w with
   | bl k =>
    obtain rfl := rep_bl.mp R1
    refine ⟨k, rfl, ?_⟩
    cases k with
    | false => exact iteF (Pi as1 H1 σ' (T'.trans T1) S1 (G'.mono S' T1))
    | true =>
     refine iteT ⟨fun σ2 H2 => ∃ as2 m2 env2, Step as H as2 H2 /\ Sim K as2 m2 H2 /\ EnvRep K as2 H2 env2 σ2 /\ PostS K as H D (loopW (evE cl c) (exS cl b) n env2 m2), fun σ2 H2 q => ⟨n, Nat.lt_succ_self _, q⟩, as1, env', m1, S1, G'.mono S' T1, ?_⟩
     simp only [] at Pi
     have T2 := T'.trans T1
     cases hb : exS cl b env' m1 with
     | next e3 m3 => rw [hb] at Pi; exact fun as3 H3 σ3 U S3 G3 => ⟨as3, m3, e3, T2.trans U, S3, G3, Pi⟩
     | cont e3 m3 => rw [hb] at Pi; exact fun as3 H3 σ3 U S3 G3 => ⟨as3, m3, e3, T2.trans U, S3, G3, Pi⟩
     | brk e3 m3 => rw [hb] at Pi; exact fun as3 H3 σ3 U S3 G3 => Pi as3 H3 σ3 (T2.trans U) S3 G3
     | ret w' m3 => rw [hb] at Pi; exact fun as3 H3 v3 U S3 R3 => Pi as3 H3 v3 (T2.trans U) S3 R3
     | exc k w' e3 m3 => rw [hb] at Pi; exact Pi.elim
     | no => rw [hb] at Pi; exact Pi.elim
   | _ => exact Pi.elim
end
end Mini
namespace Mini
open PySem PySem.Spec PyProof.Rows L2
inductive Ns where
 | s (st : Stmt) | b (sts : List Stmt)
def locB (sc : Scope) (x : Str) : Bool := decide (sc.names.lookup x = some .local) || decide (sc.names.lookup x = some .cell)
def unpC : Expr -> Bool
 | .Call _ _ _ _ => true
 | .Name _ _ => true
 | .ListComp _ _ _ _ => true
 | _ => false
def unpB : Expr -> Bool
 | .Call _ _ _ _ => true
 | .Name _ _ => true
 | _ => false
inductive IsS (C : Ctx) (sc : Scope) (N : List Str) : Sm -> Ns -> Prop
 | skip0 : IsS C sc N .skip (.b [])
 | pass {p : Pos} : IsS C sc N .skip (.s (.Pass p))
 | one {s : Sm} {st : Stmt} (h : IsS C sc N s (.s st)) : IsS C sc N s (.b [st])
 | seq {a b : Sm} {st st' : Stmt} {r : List Stmt} (ha : IsS C sc N a (.s st)) (hb : IsS C sc N b (.b (st' :: r))) : IsS C sc N (.seq a b) (.b (st :: st' :: r))
 | asg {i : Nat} {e : Ex} {x : Str} {v : Expr} {p p' : Pos} (hc : isComp v = false) (h1 : N[i]? = some x) (h2 : locB sc x = true) (hr : isRng e = false) (he : IsE C sc N e (.e v)) : IsS C sc N (.asg i e) (.s (.Assign [.Name x p] v p'))
 | asgC0 {i : Nat} {elt it : Ex} {x y : Str} {z w : Expr} {scope : Scope} {p p' q q' : Pos} (h1 : N[i]? = some x) (h2 : locB sc x = true) (hs : notSet w = true) (hB : blockB sc N scope [y] = true) (hi : IsE C sc N it (.e w)) (re : isRng elt = false) (he : IsE C (relabelS scope sc) (compN N [y]) elt (.e z)) :
   IsS C sc N (.asg i (.comp elt it (.lit (.bl true)))) (.s (.Assign [.Name x p] (.ListComp z [⟨.Name y q, w, [], 0⟩] scope q') p'))
 | asgC1 {i : Nat} {elt it cond : Ex} {x y : Str} {z w f : Expr} {scope : Scope} {p p' q q' : Pos} (h1 : N[i]? = some x) (h2 : locB sc x = true) (hs : notSet w = true) (hB : blockB sc N scope [y] = true) (hi : IsE C sc N it (.e w)) (rc : isRng cond = false) (ic : isIf cond = false) (hc : IsE C (relabelS scope sc) (compN N [y]) cond (.e f)) (re : isRng elt = false) (he : IsE C (relabelS scope sc) (compN N [y]) elt (.e z)) :
   IsS C sc N (.asg i (.comp elt it cond)) (.s (.Assign [.Name x p] (.ListComp z [⟨.Name y q, w, [f], 0⟩] scope q') p'))
 | asgCZ0 {i : Nat} {elt a b : Ex} {x y y' : Str} {z w w' : Expr} {scope : Scope} {p p' q q' q2 q3 q4 pt : Pos} {kt : Nat} (h1 : N[i]? = some x) (h2 : locB sc x = true) (hg : glB sc "zip" = true) (hB : blockB sc N scope [y, y'] = true) (hs : notStar w = true) (hs' : notStar w' = true) (ra : isRng a = false) (ha : IsE C sc N a (.e w)) (rb : isRng b = false) (hb : IsE C sc N b (.e w')) (re : isRng elt = false) (he : IsE C (relabelS scope sc) (compN N [y, y']) elt (.e z)) :
   IsS C sc N (.asg i (.compP .zip elt a b (.lit (.bl true)))) (.s (.Assign [.Name x p] (.ListComp z [⟨.Tuple [.Name y q, .Name y' q2] kt pt, .Call (.Name "zip" q3) [w, w'] [] q4, [], 0⟩] scope q') p'))
 | asgS {o i e : Ex} {x y z : Expr} {p p' : Pos} (hs : notSlice y = true) (ro : isRng o = false) (ho : IsE C sc N o (.e x)) (ri : isRng i = false) (hi : IsE C sc N i (.e y)) (re : isRng e = false) (he : IsE C sc N e (.e z)) : IsS C sc N (.asgS o i e) (.s (.Assign [.Subscript x y p] z p'))
 | swapS {o i p j a b : Ex} {x y z u v w : Expr} {k1 k2} {p1 p2 p3 p4 p5 : Pos} (s1 : notSlice y = true) (s2 : notSlice u = true) (s3 : notStar v = true) (s4 : notStar w = true) (r1 : isRng o = false) (c1 : IsE C sc N o (.e x)) (r2 : isRng i = false) (c2 : IsE C sc N i (.e y)) (r3 : isRng p = false) (c3 : IsE C sc N p (.e z)) (r4 : isRng j = false) (c4 : IsE C sc N j (.e u)) (r5 : isRng a = false) (c5 : IsE C sc N a (.e v)) (r6 : isRng b = false) (c6 : IsE C sc N b (.e w)) :
   IsS C sc N (.swapS o i p j a b) (.s (.Assign [.Tuple [.Subscript x y p1, .Subscript z u p2] k1 p3] (.Tuple [v, w] k2 p4) p5))
 | aug {i : Nat} {op : Bo} {e : Ex} {x : Str} {v : Expr} {p p' : Pos} (h1 : N[i]? = some x) (h2 : locB sc x = true) (h3 : augB op = true) (hr : isRng e = false) (he : IsE C sc N e (.e v)) : IsS C sc N (.aug i op e) (.s (.AugAssign (.Name x p) (opK op) v p'))
 | augS {o i e : Ex} {op : Bo} {x y z : Expr} {p p' : Pos} (hs : notSlice y = true) (h3 : augB op = true) (ro : isRng o = false) (ho : IsE C sc N o (.e x)) (ri : isRng i = false) (hi : IsE C sc N i (.e y)) (re : isRng e = false) (he : IsE C sc N e (.e z)) : IsS C sc N (.augS o i op e) (.s (.AugAssign (.Subscript x y p) (opK op) z p'))
 | ite {c : Ex} {a b : Sm} {x : Expr} {xs ys : List Stmt} {p : Pos} (rc : isRng c = false) (ic : isIf c = false) (hc : IsE C sc N c (.e x)) (ha : IsS C sc N a (.b xs)) (hb : IsS C sc N b (.b ys)) : IsS C sc N (.ite c a b) (.s (.If x xs ys p))
 | forv {i : Nat} {it : Ex} {body : Sm} {x : Str} {y : Expr} {sts : List Stmt} {p p' : Pos} (h1 : N[i]? = some x) (h2 : locB sc x = true) (hs : notSet y = true) (hi : IsE C sc N it (.e y)) (hb : IsS C sc N body (.b sts)) : IsS C sc N (.forv i it body) (.s (.For (.Name x p) y sts [] p'))
 | unp {i j : Nat} {e : Ex} {x x' : Str} {v : Expr} {k} {p p' p2 p3 : Pos} (h1 : N[i]? = some x) (h2 : locB sc x = true) (h3 : N[j]? = some x') (h4 : locB sc x' = true) (hv : unpB v = true) (hr : isRng e = false) (he : IsE C sc N e (.e v)) :
   IsS C sc N (.fort i j (.tup (.pair e .unit)) .skip) (.s (.Assign [.Tuple [.Name x p, .Name x' p'] k p2] v p3))
 | fort {i j : Nat} {it : Ex} {body : Sm} {x x' : Str} {y : Expr} {sts : List Stmt} {k} {p p' p2 p3 : Pos} (h1 : N[i]? = some x) (h2 : locB sc x = true) (h3 : N[j]? = some x') (h4 : locB sc x' = true) (hs : notSet y = true) (hi : IsE C sc N it (.e y)) (hb : IsS C sc N body (.b sts)) : IsS C sc N (.fort i j it body) (.s (.For (.Tuple [.Name x p, .Name x' p2] k p3) y sts [] p'))
 | unp3 {i j l : Nat} {e : Ex} {x x' x'' : Str} {v : Expr} {k} {p p' p2 p3 p4 : Pos} (h1 : N[i]? = some x) (h2 : locB sc x = true) (h3 : N[j]? = some x') (h4 : locB sc x' = true) (h5 : N[l]? = some x'') (h6 : locB sc x'' = true) (hv : unpC v = true) (hr : isRng e = false) (he : IsE C sc N e (.e v)) :
   IsS C sc N (.unp3 i j l e) (.s (.Assign [.Tuple [.Name x p, .Name x' p', .Name x'' p4] k p2] v p3))
 | forZ {i j : Nat} {a b : Ex} {body : Sm} {x x' : Str} {w w' : Expr} {sts : List Stmt} {k} {p p' p2 p3 q q' : Pos} (h1 : N[i]? = some x) (h2 : locB sc x = true) (h3 : N[j]? = some x') (h4 : locB sc x' = true) (hg : glB sc "zip" = true) (hs : notStar w = true) (hs' : notStar w' = true) (ra : isRng a = false) (ha : IsE C sc N a (.e w)) (rb : isRng b = false) (hb : IsE C sc N b (.e w')) (hd : IsS C sc N body (.b sts)) : IsS C sc N (.forZ i j a b body) (.s (.For (.Tuple [.Name x p, .Name x' p2] k p3) (.Call (.Name "zip" q) [w, w'] [] q') sts [] p'))
 | forS {i j k : Nat} {c : Int} {n : Ns} (h : IsS C sc N (.forv i (.var k) (.seq (.forv j (.var i) (.expr (.meth .append (.var j) (.pair (.lit (.int c)) .unit)))) (.expr (.meth .append (.var i) (.pair (.lst .unit) .unit))))) n) : IsS C sc N (.forS i j k c) n
 | forC {i j : Nat} {n : Ns} (h : IsS C sc N (.forv i (.var j) (.expr (.meth .clear (.var i) .unit))) n) : IsS C sc N (.forC i j) n
 | appPop {j a x : Nat} {e : Ex} {n : Ns} (h : IsS C sc N (.expr (.meth .append (.var j) (.pair (.bin .add (.var a) (.bin .mod (.meth .pop (.var x) (.pair (.lit (.int 0)) .unit)) e)) .unit))) n) : IsS C sc N (.appPop j a x e) n
 | forA {i j : Nat} {c : Int} {n : Ns} (h : IsS C sc N (.forv i (.var j) (.expr (.meth .append (.var i) (.pair (.lit (.int c)) .unit)))) n) : IsS C sc N (.forA i j c) n
 | while {c : Ex} {body : Sm} {x : Expr} {sts : List Stmt} {p : Pos} (rc : isRng c = false) (ic : isIf c = false) (hc : IsE C sc N c (.e x)) (hb : IsS C sc N body (.b sts)) : IsS C sc N (.while c body) (.s (.While x sts [] p))
 | ret {e : Ex} {x : Expr} {p : Pos} (hr : isRng e = false) (he : IsE C sc N e (.e x)) : IsS C sc N (.ret e) (.s (.Return (some x) p))
 | retN {p : Pos} : IsS C sc N .retN (.s (.Return none p))
 | expr {e : Ex} {x : Expr} {p : Pos} (hc : isComp x = false) (hr : isRng e = false) (he : IsE C sc N e (.e x)) : IsS C sc N (.expr e) (.s (.Expr x p))
 | brk {p : Pos} : IsS C sc N .brk (.s (.Break p))
 | cont {p : Pos} : IsS C sc N .cont (.s (.Continue p))
 | never {st : Stmt} : IsS C sc N .never (.s st)
def SndS (cl : Nat -> List Wd -> Me -> Rz) (X : Cx) (s : Sm) : Ns -> Prop
 | .s st => PS X st (tOfS X.K (exS cl s))
 | .b sts => PSs X sts (tOfS X.K (exS cl s))
structure StOk (X : Cx) : Prop where
 nd : X.N.Nodup
 fn : ∀ x, X.fn x = true
 hp : PassesOwn (model X.prog X.w) X.A X.env X.xe
section
variable {cl : Nat -> List Wd -> Me -> Rz}
theorem loc_of {sc : Scope} {x : Str} (h : locB sc x = true) : Loc sc x := by
 unfold locB at h
 simp only [Bool.or_eq_true, decide_eq_true_eq] at h
 exact h
theorem ss_asgC {X : Cx} {i : Nat} {ce : Ex} {nm : Str} {xs : List Str} {x w tg : Expr} {g : TG} {un : V -> Hp -> List V -> Prop} {wi : TI} {fs : List Expr} {scope : Scope} {tc : TT} {te : TE} {p1 pos pos' : Pos} (hc : X.calm = true) (hX : StOk X) (hi : X.N[i]? = some nm) (hl : Loc X.env.scope nm) (B : BlockOk X scope xs) (hT : Tgt X scope xs tg g un) (hI : PI X tg w wi)
  (body : ∀ Xc, CompOf X scope xs Xc -> PTs Xc fs tc /\ PE Xc x te) (hset : ∀ v, foldedSetIterable w X.env v = pure v) (hbind : ∀ σ H Q, tOf X.K (evE cl ce) σ H Q -> tComp un wi tc te σ H Q)
  (he : PE X (.ListComp x [⟨tg, w, fs, 0⟩] scope pos') (tOf X.K (evE cl ce))) :
  PS X (.Assign [.Name nm p1] (.ListComp x [⟨tg, w, fs, 0⟩] scope pos') pos) (tOfS X.K (exS cl (.asg i ce))) := by
 have hsw : ∃ b : Bool, swapsWith (.ListComp x [⟨tg, w, fs, 0⟩] scope pos') (some (.Name nm p1)) pos.line X.env = pure b := ⟨_, rfl⟩
 obtain ⟨b, hb⟩ := hsw
 cases b with
 | false => exact PS.imp (ps_set hX.nd hi hl he hb (.inl (hX.fn nm))) fun D σ H q => asg_bind q
 | true =>
  refine PS.imp (ps_setComp B hc hT hI body hX.nd hi hl (.inl (hX.fn nm)) hb hset) fun D σ H q => ?_
  exact hbind _ _ _ (asg_bind q)
theorem unp_eq (i j : Nat) (e : Ex) (env : En) (m : Me) : exS cl (.fort i j (.tup (.pair e .unit)) .skip) env m = (evE cl e env m).bindS env fun w m1 => match st2 i j w env with
  | some env' => .next env' m1
  | none => .no := by
 have h : evE cl (.tup (.pair e .unit)) env m = (evE cl e env m).bind fun w m1 => .ok (.tup [w]) m1 := by
  show (((evE cl e env m).bind fun x m1 => .ok (.tup [x]) m1).bind fun x m1 => if (argsOf x).length <= lim then .ok (.tup (argsOf x)) m1 else .no) = _
  cases evE cl e env m with
  | ok w m1 =>
   simp only [Rz.bind]
   simp [argsOf, lim]
  | exc c w m1 => rfl
  | no => rfl
 show (evE cl (.tup (.pair e .unit)) env m).bindS env (fun w m1 => forW (bodyOf (st2 i j) (exS cl .skip)) w env m1) = _
 rw [h]
 cases evE cl e env m with
 | ok w m1 =>
  show loopL (bodyOf (st2 i j) (exS cl .skip)) [w] env m1 = match st2 i j w env with
   | some env' => .next env' m1
   | none => .no
  unfold loopL bodyOf
  cases st2 i j w env with
  | none => rfl
  | some e2 => rfl
 | exc c w m1 => rfl
 | no => rfl
theorem unp_bind {K : PySem.W.Frag} {i j : Nat} {e : Ex} {D : Ends} {σ : St} {H : Hp} (h : tOfS K (exS cl (.fort i j (.tup (.pair e .unit)) .skip)) D σ H) : tAsg (tOf K (evE cl e)) (gTup K 2 (gCons (gName i) (gCons (gName j) gNil))) D σ H := by
 obtain ⟨as, env, m, S, G, P⟩ := h
 rw [unp_eq] at P
 refine ⟨as, env, m, S, G, PostS.bind P fun w m1 as1 H1 v T1 S1 R1 P1 => ?_⟩
 cases hs : st2 i j w env with
 | none => rw [hs] at P1; exact P1.elim
 | some e2 => rw [hs] at P1; exact (tgt_pair i j).ok S1 (G.mono S T1) R1 hs fun σ2 G2 => PostS.next (m := m1) P1 S1 G2
theorem unp3_bind {K : PySem.W.Frag} {i j k : Nat} {e : Ex} {D : Ends} {σ : St} {H : Hp} (h : tOfS K (exS cl (.unp3 i j k e)) D σ H) : tAsg (tOf K (evE cl e)) (gAny K 3 (gCons (gName i) (gCons (gName j) (gCons (gName k) gNil)))) D σ H := by
 obtain ⟨as, env, m, S, G, P⟩ := h
 have P' : PostS K as H D ((evE cl e env m).bindS env fun w m1 => match st3 i j k w m1 env with
  | some e1 => .next e1 m1
  | none => .no) := P
 refine ⟨as, env, m, S, G, PostS.bind P' fun w m1 as1 H1 v T1 S1 R1 P1 => ?_⟩
 have fin : ∀ (ws : List Wd) (vs : List V), seqOf m1 w = some ws -> RepL K as1 H1 ws vs -> vs.length = 3 /\ gCons (gName i) (gCons (gName j) (gCons (gName k) gNil)) vs σ H1 D.nx := by
  intro ws vs hs rl
  unfold st3 at P1
  rw [hs] at P1
  match ws, P1, rl with
  | [a, b, c], P1, rl =>
   obtain ⟨va, r1, rfl, ra, rl⟩ := repL_cons.mp rl
   obtain ⟨vb, r2, rfl, rb, rl⟩ := repL_cons.mp rl
   obtain ⟨vc, r3, rfl, rc, rl⟩ := repL_cons.mp rl
   rw [repL_nil.mp rl]
   exact ⟨rfl, va, [vb, vc], rfl, vb, [vc], rfl, vc, [], rfl, rfl, PostS.next (m := m1) P1 S1 ((((G.mono S T1).set ra i).set rb j).set rc k)⟩
  | [], P1, _ => exact P1.elim
  | [_], P1, _ => exact P1.elim
  | [_, _], P1, _ => exact P1.elim
  | _ :: _ :: _ :: _ :: _, P1, _ => exact P1.elim
 have no : seqOf m1 w ≠ none := fun z => by
  unfold st3 at P1
  rw [z] at P1
  exact P1
 cases w with
 | tup xs =>
  obtain ⟨a, vs, rfl, hq, rl⟩ := rep_tup.mp R1
  obtain ⟨q1, q2⟩ := fin xs vs rfl rl
  exact .inl ⟨a, vs, rfl, hq, q1, q2⟩
 | rol xs =>
  obtain ⟨a, vs, rfl, hq, rl⟩ := rep_rol.mp R1
  obtain ⟨q1, q2⟩ := fin xs vs rfl rl
  exact .inr ⟨a, vs, rfl, hq.sq, q1, q2⟩
 | ref l =>
  obtain ⟨a, ha, rfl⟩ := rep_ref.mp R1
  cases e1 : lstAt m1 l with
  | none => exact absurd e1 no
  | some xs =>
   obtain ⟨a', us, ha', eH, RL⟩ := lst_of S1 (lstAt_some e1)
   rw [ha] at ha'; cases ha'
   obtain ⟨q1, q2⟩ := fin xs us e1 RL
   exact .inr ⟨a, us, rfl, SqL.of eH, q1, q2⟩
 | non => exact absurd rfl no
 | bl _ => exact absurd rfl no
 | int _ => exact absurd rfl no
 | str _ => exact absurd rfl no
theorem soundS {C : Ctx} {d : Nat} {X : Cx} (hC : CtxOk C X cl d) (hX : StOk X) {s : Sm} {n : Ns} (h : IsS C X.env.scope X.N s n) : SndS cl X s n := by
 induction h with
 | skip0 => exact ss_skip
 | pass => exact ss_pass
 | one h ih => exact pss_one ih
 | seq ha hb iha ihb => exact ss_seq iha ihb
 | asg hc h1 h2 hr he => exact PS.imp (ps_set hX.nd h1 (loc_of h2) ((sound he X hC rfl rfl).pe hr) (sw_val hc) (.inl (hX.fn _))) fun D σ H q => asg_bind q
 | @asgC0 i elt it x y z w scope p p' q q' h1 h2 hs hB hi re he =>
  have hset : ∀ v, foldedSetIterable w X.env v = pure v := fun v => by cases w <;> first | rfl | cases hs
  refine ss_asgC (fs := []) (tc := _) hC.calm hX h1 (loc_of h2) (blockB_ok hB) (tgt_one (blockB_ok hB)) ((sound hi X hC rfl rfl).2 _) (te := tOf X.K (evE cl elt)) (fun Xc c => ⟨pts_nil, ?_⟩) hset (fun σ H Q q => comp_bind (fun σ H Q q => ?_) q) ((sound (IsE.comp0 hs hB hi re he) X hC rfl rfl).pe rfl)
  ·have q := (sound he Xc (hC.comp c) c.sc c.N).pe re
   rw [c.K] at q
   exact q
  ·obtain ⟨as, env, m, S, G, P⟩ := q
   obtain ⟨b, e, q⟩ := Post.ok (m := m) P S (rep_bl.mpr rfl)
   cases e
   exact q
 | @asgC1 i elt it cond x y z w f scope p p' q q' h1 h2 hs hB hi rc ic hc re he =>
  have hset : ∀ v, foldedSetIterable w X.env v = pure v := fun v => by cases w <;> first | rfl | cases hs
  refine ss_asgC (fs := [f]) (tc := _) hC.calm hX h1 (loc_of h2) (blockB_ok hB) (tgt_one (blockB_ok hB)) ((sound hi X hC rfl rfl).2 _) (te := tOf X.K (evE cl elt)) (fun Xc c => ⟨pts_one ?_, ?_⟩) hset (fun σ H Q q => comp_bind (fun σ H Q q => q) q) ((sound (IsE.comp1 hs hB hi rc ic hc re he) X hC rfl rfl).pe rfl)
  ·have q := (sound hc Xc (hC.comp c) c.sc c.N).pt rc ic
   rw [c.K] at q
   exact q
  ·have q := (sound he Xc (hC.comp c) c.sc c.N).pe re
   rw [c.K] at q
   exact q
 | @asgCZ0 i elt a b x y y' z w w' scope p p' q q' q2 q3 q4 pt kt h1 h2 hg hB hs hs' ra ha rb hb re he =>
  refine ss_asgC (fs := []) (tc := _) hC.calm hX h1 (loc_of h2) (blockB_ok hB) (tgt_two hC.calm (blockB_ok hB)) (pi_zip (gl_of hg) (hC.blt _ (by simp [bltNames])) (pa_cons ((sound ha X hC rfl rfl).pe ra) (pa_cons ((sound hb X hC rfl rfl).pe rb) pa_nil (star_cons hs')) (star_cons hs)) (by rw [star_cons hs, star_cons hs']; rfl) (star_cons hs')) (te := tOf X.K (evE cl elt)) (fun Xc c => ⟨pts_nil, ?_⟩) (fun _ => rfl) (fun σ H Q q => comp_bindZ (fun σ H Q q => ?_) q) ((sound (IsE.compZ0 hg hB hs hs' ra ha rb hb re he) X hC rfl rfl).pe rfl)
  ·have q := (sound he Xc (hC.comp c) c.sc c.N).pe re
   rw [c.K] at q
   exact q
  ·obtain ⟨as, env, m, S, G, P⟩ := q
   obtain ⟨b, e, q⟩ := Post.ok (m := m) P S (rep_bl.mpr rfl)
   cases e
   exact q
 | asgS hs ro ho ri hi re he => exact ss_asgS ((sound ho X hC rfl rfl).pe ro) ((sound hi X hC rfl rfl).pe ri) ((sound he X hC rfl rfl).pe re) hs
 | swapS s1 s2 s3 s4 r1 c1 r2 c2 r3 c3 r4 c4 r5 c5 r6 c6 => exact ss_swapS hC.calm ((sound c1 X hC rfl rfl).pe r1) ((sound c2 X hC rfl rfl).pe r2) ((sound c3 X hC rfl rfl).pe r3) ((sound c4 X hC rfl rfl).pe r4) ((sound c5 X hC rfl rfl).pe r5) ((sound c6 X hC rfl rfl).pe r6) s1 s2 s3 s4
 | aug h1 h2 h3 hr he => exact ss_aug h3 hX.nd h1 (loc_of h2) (.inl (hX.fn _)) ((sound he X hC rfl rfl).pe hr)
 | augS hs h3 ro ho ri hi re he => exact ss_augS h3 ((sound ho X hC rfl rfl).pe ro) ((sound hi X hC rfl rfl).pe ri) ((sound he X hC rfl rfl).pe re) hs
 | ite rc ic hc ha hb iha ihb => exact ss_if ((sound hc X hC rfl rfl).pt rc ic) iha ihb
 | @forv i it body x y sts p p' h1 h2 hs hi hb ihb =>
  have hset : ∀ v, foldedSetIterable y X.env v = pure v := fun v => by cases y <;> first | rfl | cases hs
  refine PS.imp (ps_for hX.hp hC.calm ((sound hi X hC rfl rfl).2 _) (pg_name hX.nd h1 (loc_of h2) (.inl (hX.fn _))) ihb hset) fun D σ H q => ?_
  exact for_bind (tgt_name i) q
 | @unp i j e x x' v k p p' p2 p3 h1 h2 h3 h4 hv hr he =>
  refine PS.imp (ps_asg ((sound he X hC rfl rfl).pe hr) (pg_tup hC.calm (pgs_cons (pg_name hX.nd h1 (loc_of h2) (.inl (hX.fn _))) (pgs_cons (pg_name hX.nd h3 (loc_of h4) (.inl (hX.fn _))) pgs_nil))) (sw_none (by intros; intro q; cases q)) (by cases v <;> first | rfl | cases hv)) fun D σ H q => ?_
  exact unp_bind q
 | @unp3 i j l e x x' x'' v k p p' p2 p3 p4 h1 h2 h3 h4 h5 h6 hv hr he =>
  refine PS.imp (ps_asg ((sound he X hC rfl rfl).pe hr) (pg_any hC.calm (pgs_cons (pg_name hX.nd h1 (loc_of h2) (.inl (hX.fn _))) (pgs_cons (pg_name hX.nd h3 (loc_of h4) (.inl (hX.fn _))) (pgs_cons (pg_name hX.nd h5 (loc_of h6) (.inl (hX.fn _))) pgs_nil)))) (sw_none (by intros; intro q; cases q)) (by cases v <;> first | rfl | cases hv)) fun D σ H q => ?_
  exact unp3_bind q
 | @fort i j it body x x' y sts k p p' p2 p3 h1 h2 h3 h4 hs hi hb ihb =>
  have hset : ∀ v, foldedSetIterable y X.env v = pure v := fun v => by cases y <;> first | rfl | cases hs
  refine PS.imp (ps_for hX.hp hC.calm ((sound hi X hC rfl rfl).2 _) (pg_tup hC.calm (pgs_cons (pg_name hX.nd h1 (loc_of h2) (.inl (hX.fn _))) (pgs_cons (pg_name hX.nd h3 (loc_of h4) (.inl (hX.fn _))) pgs_nil))) ihb hset) fun D σ H q => ?_
  exact for_bind (tgt_pair i j) q
 | @forZ i j a b body x x' w w' sts k p p' p2 p3 q q' h1 h2 h3 h4 hg hs hs' ra ha rb hb hd ihd =>
  refine PS.imp (ps_for hX.hp hC.calm (pi_zip (gl_of hg) (hC.blt _ (by simp [bltNames])) (pa_cons ((sound ha X hC rfl rfl).pe ra) (pa_cons ((sound hb X hC rfl rfl).pe rb) pa_nil (star_cons hs')) (star_cons hs)) (by rw [star_cons hs, star_cons hs']; rfl) (star_cons hs')) (pg_tup hC.calm (pgs_cons (pg_name hX.nd h1 (loc_of h2) (.inl (hX.fn _))) (pgs_cons (pg_name hX.nd h3 (loc_of h4) (.inl (hX.fn _))) pgs_nil))) ihd (fun _ => rfl)) fun D σ H q => ?_
  exact for_bindZ q
 | @forS i j k c n h ih =>
  have e : exS cl (.forS i j k c) = exS cl (.forv i (.var k) (.seq (.forv j (.var i) (.expr (.meth .append (.var j) (.pair (.lit (.int c)) .unit)))) (.expr (.meth .append (.var i) (.pair (.lst .unit) .unit))))) := by
   funext env m
   rfl
  cases n with
  | s st => unfold SndS at ih ⊢; rw [e]; exact ih
  | b sts => unfold SndS at ih ⊢; rw [e]; exact ih
 | @forC i j n h ih =>
  have e : exS cl (.forC i j) = exS cl (.forv i (.var j) (.expr (.meth .clear (.var i) .unit))) := by
   funext env m
   rfl
  cases n with
  | s st => unfold SndS at ih ⊢; rw [e]; exact ih
  | b sts => unfold SndS at ih ⊢; rw [e]; exact ih
 | @appPop j a x e n h ih =>
  have e : exS cl (.appPop j a x e) = exS cl (.expr (.meth .append (.var j) (.pair (.bin .add (.var a) (.bin .mod (.meth .pop (.var x) (.pair (.lit (.int 0)) .unit)) e)) .unit))) := by
   funext env m
   rfl
  cases n with
  | s st => unfold SndS at ih ⊢; rw [e]; exact ih
  | b sts => unfold SndS at ih ⊢; rw [e]; exact ih
 | @forA i j c n h ih =>
  have e : exS cl (.forA i j c) = exS cl (.forv i (.var j) (.expr (.meth .append (.var i) (.pair (.lit (.int c)) .unit)))) := by
   funext env m
   rfl
  cases n with
  | s st => unfold SndS at ih ⊢; rw [e]; exact ih
  | b sts => unfold SndS at ih ⊢; rw [e]; exact ih
 | «while» rc ic hc hb ihb => exact PS.imp (ps_while hX.hp ((sound hc X hC rfl rfl).pt rc ic) ihb) fun D σ H q => while_bind q
 | ret hr he => exact ss_ret ((sound he X hC rfl rfl).pe hr)
 | retN => exact ss_retN
 | expr hc hr he => exact ss_expr ((sound he X hC rfl rfl).pe hr) hc
 | brk => exact ss_brk
 | cont => exact ss_cont
 | never => exact ss_never
end
end Mini
namespace Mini
open PySem PySem.Spec PyProof.Rows L2
structure Dfn where
 nm : Str
 st : Stmt
 N : List Str
 ps : List Str
 fn : Fn
def scopeB (N ps : List Str) (sc : Scope) : Bool :=
 decide (sc.kind = .function) && (decide (sc.isCoroutine = false) && (decide (sc.isGenerator = false) && (decide N.Nodup && (decide (N.take ps.length = ps) &&
  (ps.all (fun x => decide (sc.names.lookup x = some .local) || decide (sc.names.lookup x = some .cell)) && sc.names.all (fun y => !(decide (y.2 = .free))))))))
theorem scopeB_ok {N ps : List Str} {sc : Scope} (h : scopeB N ps sc = true) : FnScope N ps sc := by
 unfold scopeB at h
 simp only [Bool.and_eq_true, Bool.or_eq_true, decide_eq_true_eq, List.all_eq_true, Bool.not_eq_true', decide_eq_false_iff_not] at h
 obtain ⟨h1, h2, h3, h4, h5, h6, h7⟩ := h
 exact ⟨h1, h2, h3, h4, h5, h6, h7⟩
structure OkD (C : Ctx) (d : Dfn) : Prop where
 sc : scopeB d.N d.ps (defScope d.st) = true
 ar : d.ps.length = d.fn.ar
 sz : d.N.length = d.fn.sz
 body : IsS C (defScope d.st) d.N d.fn.body (.b (defBody d.st))
section
variable {P : Program} {w : World} {K : PySem.W.Frag} {mg : Str -> Option Value} {base : Heap} {C : Ctx} {cl : Nat -> List Wd -> Me -> Rz}
theorem begin_rep {as : List Addr} {H : Hp} {fn : Fn} {N : List Str} {ws : List Wd} {vs : List V} (R : RepL K as H ws vs) (hl : ws.length = fn.ar) (hN : N.length = fn.sz) : EnvRep K as H (begin0 fn ws) (L2.start N vs) := by
 have hv := R.length
 refine ⟨by simp [begin0, L2.start, hN, hv], fun i w e => ?_⟩
 unfold begin0 at e
 by_cases hi : i < ws.length
 ·rw [List.getElem?_append_left (by simpa using hi), List.getElem?_map] at e
  cases hx : ws[i]? with
  | none => rw [hx] at e; cases e
  | some x =>
   rw [hx] at e
   cases e
   obtain ⟨v, h1, h2⟩ := R.get hx
   refine ⟨v, ?_, h2⟩
   unfold L2.start
   rw [List.getElem?_append_left (by simp; omega), List.getElem?_map, h1]
   rfl
 ·rw [List.getElem?_append_right (by simpa using hi), List.getElem?_replicate] at e
  split at e <;> cases e
theorem fn_sound {d : Dfn} {f : Addr} {fd : FuncData} {k : Nat} (F : Fun K d.nm d.nm d.st f fd) (hd : OkD C d)
  (hfn : ∀ (i : Nat) (nm : Str), C.fns[i]? = some nm -> ∃ f fd ps, mg nm = some (.ref f) /\ PySem.W.keepIn K (.ref f) = true /\ Binds K fd ps [] /\ FnOk P w K mg base CX0 k f fd ps (spOf K (cl i)))
  (hcon : ∀ (nm : Str) (i : Int), C.cons.lookup nm = some i -> ∃ t, mg nm = some (.int i t)) (hblt : ∀ nm ∈ bltNames, mg nm = none) :
  FnOk P w K mg base CX0 (k + 1) f fd d.ps (spOf K (runF cl d.fn)) := by
 obtain ⟨h1, h2, h3, h4⟩ := hd
 have Sc := scopeB_ok h1
 have arity : ∀ {as : List Addr} {H : Hp} {Q : VK} {ws : List Wd} {m : Me}, Post K as H Q (runF cl d.fn ws m) -> ws.length = d.fn.ar := fun {as H Q ws m} h => by
  unfold runF at h
  split at h
  ·assumption
  ·exact h.elim
 refine F.ok Sc (fun vs H Q E h => ?_) (fun cdv A outer s H vs Q E hr h => ?_)
 ·obtain ⟨as, m, ws, S, R, q⟩ := h
  rw [<- R.length, arity q, h2]
 ·obtain ⟨as, m, ws, S, R, q⟩ := h
  have ha := arity q
  have hC : CtxOk C (cxOf CX0 P w K mg base d.N d.nm (defScope d.st) f cdv A outer s H E).nox cl k := ⟨hr, rfl, hfn, hcon, hblt⟩
  have hX : StOk (cxOf CX0 P w K mg base d.N d.nm (defScope d.st) f cdv A outer s H E).nox := ⟨Sc.nd, fun _ => rfl, PassesOwn.never⟩
  refine ⟨_, soundS hC hX h4, as, begin0 d.fn ws, m, S, begin_rep R ha h3, ?_⟩
  unfold runF at q
  rw [if_pos ha] at q
  cases hr : exS cl d.fn.body (begin0 d.fn ws) m with
  | next e m1 => rw [hr] at q; exact fun as' H' σ' T S' G => q as' H' .non T S' (rep_non.mpr rfl)
  | ret w m1 => rw [hr] at q; exact fun as' H' v T S' R' => q as' H' v T S' R'
  | brk e m1 => rw [hr] at q; exact q.elim
  | cont e m1 => rw [hr] at q; exact q.elim
  | exc c w e m1 => rw [hr] at q; exact q.elim
  | no => rw [hr] at q; exact q.elim
def DefOk (K : PySem.W.Frag) (mg : Str -> Option Value) (d : Dfn) : Prop := ∃ f fd, Fun K d.nm d.nm d.st f fd /\ mg d.nm = some (.ref f)
def Bnd (d : Dfn) : Prop := ∀ (kV doc pm : Value) (an : Option Addr) (cdv ct : Value) (us : List Value), us.length = d.ps.length -> bindArgs (PySem.W.fnOf d.nm d.nm (defArgs d.st) (defBody d.st) (defScope d.st) .none kV doc pm an cdv ct) ⟨us, []⟩ = pure (d.ps.zip us)
theorem table_sound {D : List Dfn} (hC : C.fns = D.map (·.nm)) (hD : ∀ d ∈ D, OkD C d) (hB : ∀ d ∈ D, Bnd d) (hK : ∀ d ∈ D, DefOk K mg d)
  (hcon : ∀ (nm : Str) (i : Int), C.cons.lookup nm = some i -> ∃ t, mg nm = some (.int i t)) (hblt : ∀ nm ∈ bltNames, mg nm = none) :
  ∀ (k : Nat) (i : Nat) (d : Dfn), D[i]? = some d -> ∀ f fd, Fun K d.nm d.nm d.st f fd -> FnOk P w K mg base CX0 k f fd d.ps (spOf K (callN (D.map (·.fn)) k i))
 | 0, i, d, hi, f, fd, F => by
  have no : ∀ {vs : List V} {H : Hp} {Q : VK} {E : XK}, ¬ spOf K (callN (D.map (·.fn)) 0 i) vs H Q E := fun {vs H Q E} h => by
   obtain ⟨as, m, ws, S, R, q⟩ := h
   exact q
  exact ⟨fun vs H Q E h => (no h).elim, fun A outer s H args us vs Q E _ _ _ _ h => (no h).elim⟩
 | k + 1, i, d, hi, f, fd, F => by
  have ih := table_sound hC hD hB hK hcon hblt k
  have e : spOf K (callN (D.map (·.fn)) (k + 1) i) = spOf K (runF (callN (D.map (·.fn)) k) d.fn) := by
   have : callN (D.map (·.fn)) (k + 1) i = runF (callN (D.map (·.fn)) k) d.fn := by
    funext ws m
    unfold callN
    rw [List.getElem?_map, hi]
    rfl
   rw [this]
  rw [e]
  refine fn_sound F (hD d (List.mem_of_getElem? hi)) (fun j nm hj => ?_) hcon hblt
  rw [hC, List.getElem?_map] at hj
  cases hx : D[j]? with
  | none => rw [hx] at hj; cases hj
  | some d' =>
   rw [hx] at hj
   cases hj
   obtain ⟨f', fd', F', m'⟩ := hK d' (List.mem_of_getElem? hx)
   exact ⟨f', fd', d'.ps, m', F'.kp, F'.binds (hB d' (List.mem_of_getElem? hx)), ih j d' hx f' fd' F'⟩
end
theorem law_pure {K : PySem.W.Frag} {D : List Dfn} {k i : Nat} {H : Hp} {a : Addr} {ns : List Int} {E : XK} (hO : Only H) (hS : SqL K H a (ns.map V.int)) (h : ∃ m, callN (D.map (·.fn)) k i [.rol (ns.map Wd.int)] [] = .ok (.bl true) m) :
  spOf K (callN (D.map (·.fn)) k i) [.ref a] H (fun v _ => v = .bl true) E := by
 obtain ⟨m, h⟩ := h
 refine ⟨[], [], [.rol (ns.map Wd.int)], ⟨rfl, List.nodup_nil, fun l a o e => by simp at e⟩, repL_cons.mpr ⟨.ref a, [], rfl, rep_rol.mpr ⟨a, ns.map V.int, rfl, ?_, ?_⟩, repL_nil.mpr rfl⟩, ?_⟩
 ·rcases hS with (hS | ⟨o, hS⟩) | hS
  ·rcases hO a with z | ⟨o, xs, z⟩
   ·rw [z] at hS; cases hS
   ·rw [z] at hS; cases hS
  ·exact .inl ⟨o, hS⟩
  ·exact .inr hS
 ·have all : ∀ l : List Int, RepL K [] H (l.map Wd.int) (l.map V.int) := by
   intro l
   induction l with
   | nil => exact repL_nil.mpr rfl
   | cons n l ih => exact repL_cons.mpr ⟨_, _, rfl, rep_int.mpr rfl, ih⟩
  exact all ns
 ·rw [h]
  exact fun as' H' v T S R => rep_bl.mp R
theorem walkM {l : PySem.W.OpenLaw} {q : Program} {loose : List Str} {XP : (Str -> Option Value) -> Heap -> Prop} {YP : World -> Heap -> Prop} {d : DefRec} {Kp : Params -> PySem.W.Frag} {D : List Dfn} {C : Ctx} {k i : Nat} {dl : Dfn} {x : Str} {n : Nat}
  (hn : l.most = some n) (hn2 : n <= sizeLine) (hdf : d.params.defaults = []) (hr : Room k callerA) (hY : ∀ (w : World) (h : Heap), YP w h -> (Kp w.params).In h)
  (hC : C.fns = D.map (·.nm)) (hD : ∀ d ∈ D, OkD C d) (hB : ∀ d ∈ D, Bnd d) (hi : D[i]? = some dl) (hx : dl.ps = [x]) (hnm : d.name = dl.nm)
  (F : ∀ (w : World) (mg : Str -> Option Value) (fa : Addr) (h : Heap), (Kp w.params).In h -> h.Ns mainGlobals mg -> mg d.name = some (.ref fa) ->
   (∀ e ∈ D, DefOk (Kp w.params) mg e) /\ (∀ (nm : Str) (i : Int), C.cons.lookup nm = some i -> ∃ t, mg nm = some (.int i t)) /\ ∀ nm ∈ bltNames, mg nm = none)
  (hpure : ∀ ns : List Int, ns.length <= n -> ∃ m, callN (D.map (·.fn)) k i [.rol (ns.map Wd.int)] [] = .ok (.bl true) m) :
  PySem.W.WalkO q loose XP YP l.row.toRowW d [] (fun f vs => PySem.call f vs) := by
 refine L2.walk_of (n := n) (k := k) (x := x) (CX := fun _ => CX0) (sp := fun w => spOf (Kp w.params) (callN (D.map (·.fn)) k i)) hn hn2 hdf hr hY ?_ (fun w H a ns hl hO hS => law_pure hO hS (hpure ns hl)) fun _ _ _ _ _ z => z
 intro w mg fa h KX G hmg
 obtain ⟨h1, h2, h3⟩ := F w mg fa h KX G hmg
 obtain ⟨f, fd, Ff, hm⟩ := h1 dl (List.mem_of_getElem? hi)
 rw [hnm, hm] at hmg
 cases hmg
 refine ⟨fd, fun s u => ?_, fun base kb nb => ?_⟩
 ·obtain ⟨oc, od, kV, doc, pm, an, cdv, ct, osl, rfl, lk, hcd⟩ := Ff.ex
  have q := hB dl (List.mem_of_getElem? hi) kV doc pm an cdv ct [u] (by rw [hx]; rfl)
  rw [hx] at q
  exact .of_eq q
 ·rw [<- hx]
  exact table_sound hC hD hB h1 h2 h3 k i dl hi fa fd Ff
theorem IsE.v {C : Ctx} {sc : Scope} {N : List Str} {i : Nat} {x : Str} {p : Pos} (h1 : N[i]? = some x := by rfl) (h2 : visB sc x = true := by kernel_rfl) (h3 : okName x = true := by kernel_rfl) : IsE C sc N (.var i) (.e (.Name x p)) := .var h1 h2 h3
theorem us1 {P : List Value -> Prop} (h : ∀ a, P [a]) : ∀ us : List Value, us.length = 1 -> P us
 | [a], _ => h a
theorem usS {n : Nat} {P : List Value -> Prop} (h : ∀ a (us : List Value), us.length = n -> P (a :: us)) : ∀ us : List Value, us.length = n + 1 -> P us
 | a :: us, e => h a us (Nat.succ.inj e)
theorem us2 {P : List Value -> Prop} (h : ∀ a b, P [a, b]) : ∀ us : List Value, us.length = 2 -> P us := usS fun a => us1 (P := fun us => P (a :: us)) (h a)
theorem us3 {P : List Value -> Prop} (h : ∀ a b c, P [a, b, c]) : ∀ us : List Value, us.length = 3 -> P us := usS fun a => us2 (P := fun us => P (a :: us)) (h a)
theorem us4 {P : List Value -> Prop} (h : ∀ a b c d, P [a, b, c, d]) : ∀ us : List Value, us.length = 4 -> P us := usS fun a => us3 (P := fun us => P (a :: us)) (h a)
end Mini
namespace R01
open PySem L2 Mini
def top (i : Nat) : Stmt := PySem.Challenge.pw_loopgyre_k01_roads_numbered.main.body.getD i (.Pass ⟨0, 0, 0, 0⟩)
def f0 : Fn := ⟨1, 1, (.ret (.and (.isi .int (.var 0)) (.not (.isi .bool (.var 0)))))⟩
abbrev d0 : Dfn := ⟨"is_whole", top 6, ["thing"], ["thing"], f0⟩
def f1 : Fn := ⟨2, 2, (.ret (.and (.call 0 (.pair (.var 0) .unit)) (.chain .le .le (.lit (.int 1)) (.var 0) (.var 1))))⟩
abbrev d1 : Dfn := ⟨"is_size_to", top 7, ["thing", "most"], ["thing", "most"], f1⟩
def f2 : Fn := ⟨2, 2, (.ite (.not (.call 1 (.pair (.var 0) (.pair (.var 1) .unit)))) .never .skip)⟩
abbrev d2 : Dfn := ⟨"need_size_to", top 8, ["n", "most"], ["n", "most"], f2⟩
def f3 : Fn := ⟨1, 1, (.expr (.call 2 (.pair (.var 0) (.pair (.lit (.int 12)) .unit))))⟩
abbrev d3 : Dfn := ⟨"need_size", top 9, ["n"], ["n"], f3⟩
def f4 : Fn := ⟨3, 3, (.ret (.and (.chain .le .lt (.lit (.int 0)) (.var 1) (.var 0)) (.chain .le .lt (.lit (.int 0)) (.var 2) (.var 0))))⟩
abbrev d4 : Dfn := ⟨"is_place", top 11, ["n", "r", "c"], ["n", "r", "c"], f4⟩
def f5 : Fn := ⟨4, 4, (.seq (.ite (.not (.call 4 (.pair (.var 0) (.pair (.var 1) (.pair (.var 2) .unit))))) (.ret (.lit .non)) .skip) (.seq (.ite (.and (.cmp .eq (.var 3) (.lit (.str [85]))) (.cmp .eq (.var 1) (.lit (.int 0)))) (.ret (.var 2)) .skip) (.seq (.ite (.and (.cmp .eq (.var 3) (.lit (.str [82]))) (.cmp .eq (.var 2) (.bin .sub (.var 0) (.lit (.int 1))))) (.ret (.bin .add (.var 0) (.var 1))) .skip) (.seq (.ite (.and (.cmp .eq (.var 3) (.lit (.str [68]))) (.cmp .eq (.var 1) (.bin .sub (.var 0) (.lit (.int 1))))) (.ret (.bin .add (.bin .mul (.lit (.int 2)) (.var 0)) (.bin .sub (.bin .sub (.var 0) (.lit (.int 1))) (.var 2)))) .skip) (.seq (.ite (.and (.cmp .eq (.var 3) (.lit (.str [76]))) (.cmp .eq (.var 2) (.lit (.int 0)))) (.ret (.bin .add (.bin .mul (.lit (.int 3)) (.var 0)) (.bin .sub (.bin .sub (.var 0) (.lit (.int 1))) (.var 1)))) .skip) (.ret (.lit .non)))))))⟩
abbrev d5 : Dfn := ⟨"road_over", top 12, ["n", "r", "c", "side"], ["n", "r", "c", "side"], f5⟩
def f6 : Fn := ⟨4, 4, (.seq (.expr (.call 3 (.pair (.var 0) .unit))) (.ret (.call 5 (.pair (.var 0) (.pair (.var 1) (.pair (.var 2) (.pair (.var 3) .unit)))))))⟩
abbrev d6 : Dfn := ⟨"road_of", top 13, ["n", "r", "c", "side"], ["n", "r", "c", "side"], f6⟩
def f7 : Fn := ⟨2, 2, (.ite (.not (.and (.call 0 (.pair (.var 0) .unit)) (.chain .le .lt (.lit (.int 0)) (.var 0) (.var 1)))) .never .skip)⟩
abbrev d7 : Dfn := ⟨"need_road", top 14, ["road", "roads"], ["road", "roads"], f7⟩
def f8 : Fn := ⟨2, 4, (.seq (.asg 2 (.bin .fdiv (.var 1) (.var 0))) (.seq (.asg 3 (.bin .mod (.var 1) (.var 0))) (.seq (.ite (.cmp .eq (.var 2) (.lit (.int 0))) (.ret (.tup (.pair (.lit (.int 0)) (.pair (.var 3) (.pair (.lit (.str [85])) .unit))))) .skip) (.seq (.ite (.cmp .eq (.var 2) (.lit (.int 1))) (.ret (.tup (.pair (.var 3) (.pair (.bin .sub (.var 0) (.lit (.int 1))) (.pair (.lit (.str [82])) .unit))))) .skip) (.seq (.ite (.cmp .eq (.var 2) (.lit (.int 2))) (.ret (.tup (.pair (.bin .sub (.var 0) (.lit (.int 1))) (.pair (.bin .sub (.bin .sub (.var 0) (.lit (.int 1))) (.var 3)) (.pair (.lit (.str [68])) .unit))))) .skip) (.ret (.tup (.pair (.bin .sub (.bin .sub (.var 0) (.lit (.int 1))) (.var 3)) (.pair (.lit (.int 0)) (.pair (.lit (.str [76])) .unit))))))))))⟩
abbrev d8 : Dfn := ⟨"place_at", top 15, ["n", "road", "stretch", "t"], ["n", "road"], f8⟩
def f9 : Fn := ⟨2, 2, (.seq (.expr (.call 3 (.pair (.var 0) .unit))) (.seq (.expr (.call 7 (.pair (.var 1) (.pair (.bin .mul (.lit (.int 4)) (.var 0)) .unit)))) (.ret (.call 8 (.pair (.var 0) (.pair (.var 1) .unit))))))⟩
abbrev d9 : Dfn := ⟨"place_of", top 16, ["n", "road"], ["n", "road"], f9⟩
def f10 : Fn := ⟨2, 2, (.seq (.ite (.cmp .lt (.var 1) (.blt .len (.pair (.var 0) .unit))) (.ret (.idx (.var 0) (.var 1))) .skip) (.ret (.bin .add (.bin .mul (.lit (.int 2)) (.var 1)) (.lit (.int 1)))))⟩
abbrev d10 : Dfn := ⟨"_law_cell_at", top 18, ["_law_script", "_law_k"], ["_law_script", "_law_k"], f10⟩
def f11 : Fn := ⟨1, 1, (.ret (.and (.isi .int (.var 0)) (.not (.isi .bool (.var 0)))))⟩
abbrev d11 : Dfn := ⟨"_law_whole", top 21, ["_law_told"], ["_law_told"], f11⟩
def f12 : Fn := ⟨1, 2, (.seq (.asg 1 (.comp (.tup (.pair (.lit (.int 0)) (.pair (.var 2) (.pair (.lit (.str [85])) .unit)))) (.rng (.lit (.int 0)) (.var 0) (.lit (.int 1))) (.lit (.bl true)))) (.seq (.expr (.meth .extend (.var 1) (.pair (.comp (.tup (.pair (.var 2) (.pair (.bin .sub (.var 0) (.lit (.int 1))) (.pair (.lit (.str [82])) .unit)))) (.rng (.lit (.int 0)) (.var 0) (.lit (.int 1))) (.lit (.bl true))) .unit))) (.seq (.expr (.meth .extend (.var 1) (.pair (.comp (.tup (.pair (.bin .sub (.var 0) (.lit (.int 1))) (.pair (.bin .sub (.bin .sub (.var 0) (.lit (.int 1))) (.var 2)) (.pair (.lit (.str [68])) .unit)))) (.rng (.lit (.int 0)) (.var 0) (.lit (.int 1))) (.lit (.bl true))) .unit))) (.seq (.expr (.meth .extend (.var 1) (.pair (.comp (.tup (.pair (.bin .sub (.bin .sub (.var 0) (.lit (.int 1))) (.var 2)) (.pair (.lit (.int 0)) (.pair (.lit (.str [76])) .unit)))) (.rng (.lit (.int 0)) (.var 0) (.lit (.int 1))) (.lit (.bl true))) .unit))) (.ret (.var 1))))))⟩
abbrev d12 : Dfn := ⟨"_law_round", top 22, ["_law_n", "_law_made"], ["_law_n"], f12⟩
def f13 : Fn := ⟨1, 8, (.seq (.asg 1 (.bin .add (.lit (.int 1)) (.bin .mod (.call 10 (.pair (.var 0) (.pair (.lit (.int 0)) .unit))) (.lit (.int 12))))) (.seq (.asg 2 (.call 12 (.pair (.var 1) .unit))) (.seq (.forv 3 (.rng (.lit (.int 0)) (.var 1) (.lit (.int 1))) (.forv 4 (.rng (.lit (.int 0)) (.var 1) (.lit (.int 1))) (.forv 5 (.tup (.pair (.lit (.str [85])) (.pair (.lit (.str [82])) (.pair (.lit (.str [68])) (.pair (.lit (.str [76])) .unit))))) (.seq (.asg 6 (.call 6 (.pair (.var 1) (.pair (.var 3) (.pair (.var 4) (.pair (.var 5) .unit)))))) (.ite (.cmp .notin (.tup (.pair (.var 3) (.pair (.var 4) (.pair (.var 5) .unit)))) (.var 2)) (.ite (.cmp .notN (.var 6) (.lit .non)) (.ret (.lit (.bl false))) .skip) (.ite (.or (.not (.call 11 (.pair (.var 6) .unit))) (.or (.cmp .ne (.idx (.var 2) (.var 6)) (.tup (.pair (.var 3) (.pair (.var 4) (.pair (.var 5) .unit))))) (.cmp .lt (.var 6) (.lit (.int 0))))) (.ret (.lit (.bl false))) .skip)))))) (.seq (.forv 7 (.rng (.lit (.int 0)) (.bin .mul (.lit (.int 4)) (.var 1)) (.lit (.int 1))) (.seq (.asg 6 (.call 9 (.pair (.var 1) (.pair (.var 7) .unit)))) (.ite (.or (.not (.isi .tuple (.var 6))) (.or (.cmp .ne (.var 6) (.idx (.var 2) (.var 7))) (.or (.not (.call 11 (.pair (.idx (.var 6) (.lit (.int 0))) .unit))) (.not (.call 11 (.pair (.idx (.var 6) (.lit (.int 1))) .unit)))))) (.ret (.lit (.bl false))) .skip))) (.ret (.lit (.bl true)))))))⟩
abbrev d13 : Dfn := ⟨"law", top 23, ["_law_script", "_law_n", "_law_made", "_law_r", "_law_c", "_law_side", "_law_told", "_law_road"], ["_law_script"], f13⟩
def D : List Dfn := [d0, d1, d2, d3, d4, d5, d6, d7, d8, d9, d10, d11, d12, d13]
def C : Mini.Ctx := ⟨["is_whole", "is_size_to", "need_size_to", "need_size", "is_place", "road_over", "road_of", "need_road", "place_at", "place_of", "_law_cell_at", "_law_whole", "_law_round", "law"], [("GREATEST_SIZE", 12)]⟩
theorem ok0 : OkD C d0 := ⟨by decide +kernel, rfl, rfl, (.one (.ret rfl (.and2 rfl rfl (.isi (by kernel_rfl) (by kernel_rfl) rfl rfl .v) rfl rfl (.not rfl rfl (.isi (by kernel_rfl) (by kernel_rfl) rfl rfl .v)))))⟩
theorem ok1 : OkD C d1 := ⟨by decide +kernel, rfl, rfl, (.one (.ret rfl (.and2 rfl rfl (.call rfl (by kernel_rfl) (by kernel_rfl) rfl (.pair rfl rfl .v .unit)) rfl rfl (.chain rfl rfl .int rfl .v rfl .v))))⟩
theorem ok2 : OkD C d2 := ⟨by decide +kernel, rfl, rfl, (.one (.ite rfl rfl (.not rfl rfl (.call rfl (by kernel_rfl) (by kernel_rfl) rfl (.pair rfl rfl .v (.pair rfl rfl .v .unit)))) (.one .never) .skip0))⟩
theorem ok3 : OkD C d3 := ⟨by decide +kernel, rfl, rfl, (.one (.expr rfl rfl (.call rfl (by kernel_rfl) (by kernel_rfl) rfl (.pair rfl rfl .v (.pair rfl rfl (.con (by kernel_rfl) (by kernel_rfl) (by kernel_rfl)) .unit)))))⟩
theorem ok4 : OkD C d4 := ⟨by decide +kernel, rfl, rfl, (.one (.ret rfl (.and2 rfl rfl (.chain rfl rfl .int rfl .v rfl .v) rfl rfl (.chain rfl rfl .int rfl .v rfl .v))))⟩
theorem ok5 : OkD C d5 := ⟨by decide +kernel, rfl, rfl, (.seq (.ite rfl rfl (.not rfl rfl (.call rfl (by kernel_rfl) (by kernel_rfl) rfl (.pair rfl rfl .v (.pair rfl rfl .v (.pair rfl rfl .v .unit))))) (.one (.ret rfl .non)) .skip0) (.seq (.ite rfl rfl (.and2 rfl rfl (.cmp rfl rfl .v rfl (.str (by kernel_rfl))) rfl rfl (.cmp rfl rfl .v rfl .int)) (.one (.ret rfl .v)) .skip0) (.seq (.ite rfl rfl (.and2 rfl rfl (.cmp rfl rfl .v rfl (.str (by kernel_rfl))) rfl rfl (.cmp rfl rfl .v rfl (.bin rfl .v rfl .int))) (.one (.ret rfl (.bin rfl .v rfl .v))) .skip0) (.seq (.ite rfl rfl (.and2 rfl rfl (.cmp rfl rfl .v rfl (.str (by kernel_rfl))) rfl rfl (.cmp rfl rfl .v rfl (.bin rfl .v rfl .int))) (.one (.ret rfl (.bin rfl (.bin rfl .int rfl .v) rfl (.bin rfl (.bin rfl .v rfl .int) rfl .v)))) .skip0) (.seq (.ite rfl rfl (.and2 rfl rfl (.cmp rfl rfl .v rfl (.str (by kernel_rfl))) rfl rfl (.cmp rfl rfl .v rfl .int)) (.one (.ret rfl (.bin rfl (.bin rfl .int rfl .v) rfl (.bin rfl (.bin rfl .v rfl .int) rfl .v)))) .skip0) (.one (.ret rfl .non)))))))⟩
theorem ok6 : OkD C d6 := ⟨by decide +kernel, rfl, rfl, (.seq (.expr rfl rfl (.call rfl (by kernel_rfl) (by kernel_rfl) rfl (.pair rfl rfl .v .unit))) (.one (.ret rfl (.call rfl (by kernel_rfl) (by kernel_rfl) rfl (.pair rfl rfl .v (.pair rfl rfl .v (.pair rfl rfl .v (.pair rfl rfl .v .unit))))))))⟩
theorem ok7 : OkD C d7 := ⟨by decide +kernel, rfl, rfl, (.one (.ite rfl rfl (.not rfl rfl (.and2 rfl rfl (.call rfl (by kernel_rfl) (by kernel_rfl) rfl (.pair rfl rfl .v .unit)) rfl rfl (.chain rfl rfl .int rfl .v rfl .v))) (.one .never) .skip0))⟩
theorem ok8 : OkD C d8 := ⟨by decide +kernel, rfl, rfl, (.seq (.asg rfl rfl (by kernel_rfl) rfl (.bin rfl .v rfl .v)) (.seq (.asg rfl rfl (by kernel_rfl) rfl (.bin rfl .v rfl .v)) (.seq (.ite rfl rfl (.cmp rfl rfl .v rfl .int) (.one (.ret rfl (.tup (.pair rfl rfl .int (.pair rfl rfl .v (.pair rfl rfl (.str (by kernel_rfl)) .unit)))))) .skip0) (.seq (.ite rfl rfl (.cmp rfl rfl .v rfl .int) (.one (.ret rfl (.tup (.pair rfl rfl .v (.pair rfl rfl (.bin rfl .v rfl .int) (.pair rfl rfl (.str (by kernel_rfl)) .unit)))))) .skip0) (.seq (.ite rfl rfl (.cmp rfl rfl .v rfl .int) (.one (.ret rfl (.tup (.pair rfl rfl (.bin rfl .v rfl .int) (.pair rfl rfl (.bin rfl (.bin rfl .v rfl .int) rfl .v) (.pair rfl rfl (.str (by kernel_rfl)) .unit)))))) .skip0) (.one (.ret rfl (.tup (.pair rfl rfl (.bin rfl (.bin rfl .v rfl .int) rfl .v) (.pair rfl rfl .int (.pair rfl rfl (.str (by kernel_rfl)) .unit)))))))))))⟩
theorem ok9 : OkD C d9 := ⟨by decide +kernel, rfl, rfl, (.seq (.expr rfl rfl (.call rfl (by kernel_rfl) (by kernel_rfl) rfl (.pair rfl rfl .v .unit))) (.seq (.expr rfl rfl (.call rfl (by kernel_rfl) (by kernel_rfl) rfl (.pair rfl rfl .v (.pair rfl rfl (.bin rfl .int rfl .v) .unit)))) (.one (.ret rfl (.call rfl (by kernel_rfl) (by kernel_rfl) rfl (.pair rfl rfl .v (.pair rfl rfl .v .unit)))))))⟩
theorem ok10 : OkD C d10 := ⟨by decide +kernel, rfl, rfl, (.seq (.ite rfl rfl (.cmp rfl rfl .v rfl (.blt rfl (by kernel_rfl) (by kernel_rfl) rfl (.pair rfl rfl .v .unit))) (.one (.ret rfl (.idx rfl rfl .v rfl .v))) .skip0) (.one (.ret rfl (.bin rfl (.bin rfl .int rfl .v) rfl .int))))⟩
theorem ok11 : OkD C d11 := ⟨by decide +kernel, rfl, rfl, (.one (.ret rfl (.and2 rfl rfl (.isi (by kernel_rfl) (by kernel_rfl) rfl rfl .v) rfl rfl (.not rfl rfl (.isi (by kernel_rfl) (by kernel_rfl) rfl rfl .v)))))⟩
theorem ok12 : OkD C d12 := ⟨by decide +kernel, rfl, rfl, (.seq (.asgC0 rfl (by kernel_rfl) rfl (by kernel_rfl) (.rng1 (by kernel_rfl) rfl rfl .v) rfl (.tup (.pair rfl rfl .int (.pair rfl rfl .v (.pair rfl rfl (.str (by kernel_rfl)) .unit))))) (.seq (.expr rfl rfl (.meth rfl rfl (by decide) rfl rfl .v (.pair rfl rfl (.comp0 rfl (by kernel_rfl) (.rng1 (by kernel_rfl) rfl rfl .v) rfl (.tup (.pair rfl rfl .v (.pair rfl rfl (.bin rfl .v rfl .int) (.pair rfl rfl (.str (by kernel_rfl)) .unit))))) .unit))) (.seq (.expr rfl rfl (.meth rfl rfl (by decide) rfl rfl .v (.pair rfl rfl (.comp0 rfl (by kernel_rfl) (.rng1 (by kernel_rfl) rfl rfl .v) rfl (.tup (.pair rfl rfl (.bin rfl .v rfl .int) (.pair rfl rfl (.bin rfl (.bin rfl .v rfl .int) rfl .v) (.pair rfl rfl (.str (by kernel_rfl)) .unit))))) .unit))) (.seq (.expr rfl rfl (.meth rfl rfl (by decide) rfl rfl .v (.pair rfl rfl (.comp0 rfl (by kernel_rfl) (.rng1 (by kernel_rfl) rfl rfl .v) rfl (.tup (.pair rfl rfl (.bin rfl (.bin rfl .v rfl .int) rfl .v) (.pair rfl rfl .int (.pair rfl rfl (.str (by kernel_rfl)) .unit))))) .unit))) (.one (.ret rfl .v))))))⟩
theorem ok13 : OkD C d13 := ⟨by decide +kernel, rfl, rfl, (.seq (.asg rfl rfl (by kernel_rfl) rfl (.bin rfl .int rfl (.bin rfl (.call rfl (by kernel_rfl) (by kernel_rfl) rfl (.pair rfl rfl .v (.pair rfl rfl .int .unit))) rfl .int))) (.seq (.asg rfl rfl (by kernel_rfl) rfl (.call rfl (by kernel_rfl) (by kernel_rfl) rfl (.pair rfl rfl .v .unit))) (.seq (.forv rfl (by kernel_rfl) rfl (.rng1 (by kernel_rfl) rfl rfl .v) (.one (.forv rfl (by kernel_rfl) rfl (.rng1 (by kernel_rfl) rfl rfl .v) (.one (.forv rfl (by kernel_rfl) rfl (.tup (.pair rfl rfl (.str (by kernel_rfl)) (.pair rfl rfl (.str (by kernel_rfl)) (.pair rfl rfl (.str (by kernel_rfl)) (.pair rfl rfl (.str (by kernel_rfl)) .unit))))) (.seq (.asg rfl rfl (by kernel_rfl) rfl (.call rfl (by kernel_rfl) (by kernel_rfl) rfl (.pair rfl rfl .v (.pair rfl rfl .v (.pair rfl rfl .v (.pair rfl rfl .v .unit)))))) (.one (.ite rfl rfl (.cmp rfl rfl (.tup (.pair rfl rfl .v (.pair rfl rfl .v (.pair rfl rfl .v .unit)))) rfl .v) (.one (.ite rfl rfl (.cmp rfl rfl .v rfl .non) (.one (.ret rfl .bl)) .skip0)) (.one (.ite rfl rfl (.orN rfl rfl (.not rfl rfl (.call rfl (by kernel_rfl) (by kernel_rfl) rfl (.pair rfl rfl .v .unit))) rfl (.or2 rfl rfl (.cmp rfl rfl (.idx rfl rfl .v rfl .v) rfl (.tup (.pair rfl rfl .v (.pair rfl rfl .v (.pair rfl rfl .v .unit))))) rfl rfl (.cmp rfl rfl .v rfl .int))) (.one (.ret rfl .bl)) .skip0)))))))))) (.seq (.forv rfl (by kernel_rfl) rfl (.rng1 (by kernel_rfl) rfl rfl (.bin rfl .int rfl .v)) (.seq (.asg rfl rfl (by kernel_rfl) rfl (.call rfl (by kernel_rfl) (by kernel_rfl) rfl (.pair rfl rfl .v (.pair rfl rfl .v .unit)))) (.one (.ite rfl rfl (.orN rfl rfl (.not rfl rfl (.isi (by kernel_rfl) (by kernel_rfl) rfl rfl .v)) rfl (.orN rfl rfl (.cmp rfl rfl .v rfl (.idx rfl rfl .v rfl .v)) rfl (.or2 rfl rfl (.not rfl rfl (.call rfl (by kernel_rfl) (by kernel_rfl) rfl (.pair rfl rfl (.idx rfl rfl .v rfl .int) .unit))) rfl rfl (.not rfl rfl (.call rfl (by kernel_rfl) (by kernel_rfl) rfl (.pair rfl rfl (.idx rfl rfl .v rfl .int) .unit)))))) (.one (.ret rfl .bl)) .skip0)))) (.one (.ret rfl .bl))))))⟩
theorem okAll : ∀ d ∈ D, OkD C d := by
 intro d hd
 unfold D at hd
 rcases List.mem_cons.mp hd with rfl | hd
 ·exact (ok0)
 rcases List.mem_cons.mp hd with rfl | hd
 ·exact (ok1)
 rcases List.mem_cons.mp hd with rfl | hd
 ·exact (ok2)
 rcases List.mem_cons.mp hd with rfl | hd
 ·exact (ok3)
 rcases List.mem_cons.mp hd with rfl | hd
 ·exact (ok4)
 rcases List.mem_cons.mp hd with rfl | hd
 ·exact (ok5)
 rcases List.mem_cons.mp hd with rfl | hd
 ·exact (ok6)
 rcases List.mem_cons.mp hd with rfl | hd
 ·exact (ok7)
 rcases List.mem_cons.mp hd with rfl | hd
 ·exact (ok8)
 rcases List.mem_cons.mp hd with rfl | hd
 ·exact (ok9)
 rcases List.mem_cons.mp hd with rfl | hd
 ·exact (ok10)
 rcases List.mem_cons.mp hd with rfl | hd
 ·exact (ok11)
 rcases List.mem_cons.mp hd with rfl | hd
 ·exact (ok12)
 rcases List.mem_cons.mp hd with rfl | hd
 ·exact (ok13)
 ·cases hd
theorem b0 : Bnd d0 := fun _ _ _ _ _ _ => us1 (fun _ => rfl)
theorem b1 : Bnd d1 := fun _ _ _ _ _ _ => us2 (fun _ _ => rfl)
theorem b2 : Bnd d2 := fun _ _ _ _ _ _ => us2 (fun _ _ => rfl)
theorem b3 : Bnd d3 := fun _ _ _ _ _ _ => us1 (fun _ => rfl)
theorem b4 : Bnd d4 := fun _ _ _ _ _ _ => us3 (fun _ _ _ => rfl)
theorem b5 : Bnd d5 := fun _ _ _ _ _ _ => us4 (fun _ _ _ _ => rfl)
theorem b6 : Bnd d6 := fun _ _ _ _ _ _ => us4 (fun _ _ _ _ => rfl)
theorem b7 : Bnd d7 := fun _ _ _ _ _ _ => us2 (fun _ _ => rfl)
theorem b8 : Bnd d8 := fun _ _ _ _ _ _ => us2 (fun _ _ => rfl)
theorem b9 : Bnd d9 := fun _ _ _ _ _ _ => us2 (fun _ _ => rfl)
theorem b10 : Bnd d10 := fun _ _ _ _ _ _ => us2 (fun _ _ => rfl)
theorem b11 : Bnd d11 := fun _ _ _ _ _ _ => us1 (fun _ => rfl)
theorem b12 : Bnd d12 := fun _ _ _ _ _ _ => us1 (fun _ => rfl)
theorem b13 : Bnd d13 := fun _ _ _ _ _ _ => us1 (fun _ => rfl)
theorem bnd : ∀ d ∈ D, Bnd d := by
 intro d hd
 unfold D at hd
 rcases List.mem_cons.mp hd with rfl | hd
 ·exact b0
 rcases List.mem_cons.mp hd with rfl | hd
 ·exact b1
 rcases List.mem_cons.mp hd with rfl | hd
 ·exact b2
 rcases List.mem_cons.mp hd with rfl | hd
 ·exact b3
 rcases List.mem_cons.mp hd with rfl | hd
 ·exact b4
 rcases List.mem_cons.mp hd with rfl | hd
 ·exact b5
 rcases List.mem_cons.mp hd with rfl | hd
 ·exact b6
 rcases List.mem_cons.mp hd with rfl | hd
 ·exact b7
 rcases List.mem_cons.mp hd with rfl | hd
 ·exact b8
 rcases List.mem_cons.mp hd with rfl | hd
 ·exact b9
 rcases List.mem_cons.mp hd with rfl | hd
 ·exact b10
 rcases List.mem_cons.mp hd with rfl | hd
 ·exact b11
 rcases List.mem_cons.mp hd with rfl | hd
 ·exact b12
 rcases List.mem_cons.mp hd with rfl | hd
 ·exact b13
 ·cases hd
theorem mk {K : PySem.W.Frag} {h : Heap} {mg : Str -> Option Value} (X : K.In h) (G : h.Ns mainGlobals mg) {a0 a1 a2 a3 a4 a5 a6 a7 a8 a9 a10 a11 a12 a13 : Addr} {od0 an0 od1 an1 od2 an2 od3 an3 od4 an4 od5 an5 od6 an6 od7 an7 od8 an8 od9 an9 od10 an10 od11 an11 od12 an12 od13 an13 : Option Addr} {sl0 sl1 sl2 sl3 sl4 sl5 sl6 sl7 sl8 sl9 sl10 sl11 sl12 sl13 : Array (Option Value)} {oc0 kV0 dc0 pm0 cd0 ct0 oc1 kV1 dc1 pm1 cd1 ct1 oc2 kV2 dc2 pm2 cd2 ct2 oc3 kV3 dc3 pm3 cd3 ct3 oc4 kV4 dc4 pm4 cd4 ct4 oc5 kV5 dc5 pm5 cd5 ct5 oc6 kV6 dc6 pm6 cd6 ct6 oc7 kV7 dc7 pm7 cd7 ct7 oc8 kV8 dc8 pm8 cd8 ct8 oc9 kV9 dc9 pm9 cd9 ct9 oc10 kV10 dc10 pm10 cd10 ct10 oc11 kV11 dc11 pm11 cd11 ct11 oc12 kV12 dc12 pm12 cd12 ct12 oc13 kV13 dc13 pm13 cd13 ct13 : Value} {t0 : Tok}
  (g0 : PySem.W.nsIn K mainGlobals "is_whole" = some (some (.ref a0)))
  (l0 : K.lookup a0 = some ⟨oc0, od0, .func (PySem.W.fnOf "is_whole" "is_whole" (defArgs (top 6)) (defBody (top 6)) (defScope (top 6)) .none kV0 dc0 pm0 an0 cd0 ct0), sl0⟩) (c0 : PySem.W.codeIn K cd0 "is_whole" = true) (k0 : PySem.W.keepIn K (.ref a0) = true)
  (g1 : PySem.W.nsIn K mainGlobals "is_size_to" = some (some (.ref a1)))
  (l1 : K.lookup a1 = some ⟨oc1, od1, .func (PySem.W.fnOf "is_size_to" "is_size_to" (defArgs (top 7)) (defBody (top 7)) (defScope (top 7)) .none kV1 dc1 pm1 an1 cd1 ct1), sl1⟩) (c1 : PySem.W.codeIn K cd1 "is_size_to" = true) (k1 : PySem.W.keepIn K (.ref a1) = true)
  (g2 : PySem.W.nsIn K mainGlobals "need_size_to" = some (some (.ref a2)))
  (l2 : K.lookup a2 = some ⟨oc2, od2, .func (PySem.W.fnOf "need_size_to" "need_size_to" (defArgs (top 8)) (defBody (top 8)) (defScope (top 8)) .none kV2 dc2 pm2 an2 cd2 ct2), sl2⟩) (c2 : PySem.W.codeIn K cd2 "need_size_to" = true) (k2 : PySem.W.keepIn K (.ref a2) = true)
  (g3 : PySem.W.nsIn K mainGlobals "need_size" = some (some (.ref a3)))
  (l3 : K.lookup a3 = some ⟨oc3, od3, .func (PySem.W.fnOf "need_size" "need_size" (defArgs (top 9)) (defBody (top 9)) (defScope (top 9)) .none kV3 dc3 pm3 an3 cd3 ct3), sl3⟩) (c3 : PySem.W.codeIn K cd3 "need_size" = true) (k3 : PySem.W.keepIn K (.ref a3) = true)
  (g4 : PySem.W.nsIn K mainGlobals "is_place" = some (some (.ref a4)))
  (l4 : K.lookup a4 = some ⟨oc4, od4, .func (PySem.W.fnOf "is_place" "is_place" (defArgs (top 11)) (defBody (top 11)) (defScope (top 11)) .none kV4 dc4 pm4 an4 cd4 ct4), sl4⟩) (c4 : PySem.W.codeIn K cd4 "is_place" = true) (k4 : PySem.W.keepIn K (.ref a4) = true)
  (g5 : PySem.W.nsIn K mainGlobals "road_over" = some (some (.ref a5)))
  (l5 : K.lookup a5 = some ⟨oc5, od5, .func (PySem.W.fnOf "road_over" "road_over" (defArgs (top 12)) (defBody (top 12)) (defScope (top 12)) .none kV5 dc5 pm5 an5 cd5 ct5), sl5⟩) (c5 : PySem.W.codeIn K cd5 "road_over" = true) (k5 : PySem.W.keepIn K (.ref a5) = true)
  (g6 : PySem.W.nsIn K mainGlobals "road_of" = some (some (.ref a6)))
  (l6 : K.lookup a6 = some ⟨oc6, od6, .func (PySem.W.fnOf "road_of" "road_of" (defArgs (top 13)) (defBody (top 13)) (defScope (top 13)) .none kV6 dc6 pm6 an6 cd6 ct6), sl6⟩) (c6 : PySem.W.codeIn K cd6 "road_of" = true) (k6 : PySem.W.keepIn K (.ref a6) = true)
  (g7 : PySem.W.nsIn K mainGlobals "need_road" = some (some (.ref a7)))
  (l7 : K.lookup a7 = some ⟨oc7, od7, .func (PySem.W.fnOf "need_road" "need_road" (defArgs (top 14)) (defBody (top 14)) (defScope (top 14)) .none kV7 dc7 pm7 an7 cd7 ct7), sl7⟩) (c7 : PySem.W.codeIn K cd7 "need_road" = true) (k7 : PySem.W.keepIn K (.ref a7) = true)
  (g8 : PySem.W.nsIn K mainGlobals "place_at" = some (some (.ref a8)))
  (l8 : K.lookup a8 = some ⟨oc8, od8, .func (PySem.W.fnOf "place_at" "place_at" (defArgs (top 15)) (defBody (top 15)) (defScope (top 15)) .none kV8 dc8 pm8 an8 cd8 ct8), sl8⟩) (c8 : PySem.W.codeIn K cd8 "place_at" = true) (k8 : PySem.W.keepIn K (.ref a8) = true)
  (g9 : PySem.W.nsIn K mainGlobals "place_of" = some (some (.ref a9)))
  (l9 : K.lookup a9 = some ⟨oc9, od9, .func (PySem.W.fnOf "place_of" "place_of" (defArgs (top 16)) (defBody (top 16)) (defScope (top 16)) .none kV9 dc9 pm9 an9 cd9 ct9), sl9⟩) (c9 : PySem.W.codeIn K cd9 "place_of" = true) (k9 : PySem.W.keepIn K (.ref a9) = true)
  (g10 : PySem.W.nsIn K mainGlobals "_law_cell_at" = some (some (.ref a10)))
  (l10 : K.lookup a10 = some ⟨oc10, od10, .func (PySem.W.fnOf "_law_cell_at" "_law_cell_at" (defArgs (top 18)) (defBody (top 18)) (defScope (top 18)) .none kV10 dc10 pm10 an10 cd10 ct10), sl10⟩) (c10 : PySem.W.codeIn K cd10 "_law_cell_at" = true) (k10 : PySem.W.keepIn K (.ref a10) = true)
  (g11 : PySem.W.nsIn K mainGlobals "_law_whole" = some (some (.ref a11)))
  (l11 : K.lookup a11 = some ⟨oc11, od11, .func (PySem.W.fnOf "_law_whole" "_law_whole" (defArgs (top 21)) (defBody (top 21)) (defScope (top 21)) .none kV11 dc11 pm11 an11 cd11 ct11), sl11⟩) (c11 : PySem.W.codeIn K cd11 "_law_whole" = true) (k11 : PySem.W.keepIn K (.ref a11) = true)
  (g12 : PySem.W.nsIn K mainGlobals "_law_round" = some (some (.ref a12)))
  (l12 : K.lookup a12 = some ⟨oc12, od12, .func (PySem.W.fnOf "_law_round" "_law_round" (defArgs (top 22)) (defBody (top 22)) (defScope (top 22)) .none kV12 dc12 pm12 an12 cd12 ct12), sl12⟩) (c12 : PySem.W.codeIn K cd12 "_law_round" = true) (k12 : PySem.W.keepIn K (.ref a12) = true)
  (g13 : PySem.W.nsIn K mainGlobals "law" = some (some (.ref a13)))
  (l13 : K.lookup a13 = some ⟨oc13, od13, .func (PySem.W.fnOf "law" "law" (defArgs (top 23)) (defBody (top 23)) (defScope (top 23)) .none kV13 dc13 pm13 an13 cd13 ct13), sl13⟩) (c13 : PySem.W.codeIn K cd13 "law" = true) (k13 : PySem.W.keepIn K (.ref a13) = true)
  (e0 : PySem.W.nsIn K mainGlobals "GREATEST_SIZE" = some (some (.int 12 t0)))
  (z0 : PySem.W.nsIn K mainGlobals "len" = some none)
  (z1 : PySem.W.nsIn K mainGlobals "int" = some none)
  (z2 : PySem.W.nsIn K mainGlobals "bool" = some none)
  (z3 : PySem.W.nsIn K mainGlobals "list" = some none)
  (z4 : PySem.W.nsIn K mainGlobals "tuple" = some none)
  (z5 : PySem.W.nsIn K mainGlobals "abs" = some none)
  (z6 : PySem.W.nsIn K mainGlobals "max" = some none)
  (z7 : PySem.W.nsIn K mainGlobals "min" = some none)
  (z8 : PySem.W.nsIn K mainGlobals "isinstance" = some none)
  (z9 : PySem.W.nsIn K mainGlobals "range" = some none)
  (z10 : PySem.W.nsIn K mainGlobals "str" = some none)
  (z11 : PySem.W.nsIn K mainGlobals "dict" = some none)
  (z12 : PySem.W.nsIn K mainGlobals "sum" = some none)
  (z13 : PySem.W.nsIn K mainGlobals "all" = some none)
  (z14 : PySem.W.nsIn K mainGlobals "zip" = some none)
  (z15 : PySem.W.nsIn K mainGlobals "enumerate" = some none)
  : (∀ e ∈ D, DefOk K mg e) /\ (∀ (nm : Str) (i : Int), C.cons.lookup nm = some i -> ∃ t, mg nm = some (.int i t)) /\ ∀ nm ∈ bltNames, mg nm = none := by
 refine ⟨fun d hd => ?_, fun nm i hi => ?_, fun nm hn => ?_⟩
 ·unfold D at hd
  rcases List.mem_cons.mp hd with rfl | hd
  ·exact ⟨a0, _, fun_mk (st := top 6) l0 c0 k0, PySem.W.mg_of X G g0⟩
  rcases List.mem_cons.mp hd with rfl | hd
  ·exact ⟨a1, _, fun_mk (st := top 7) l1 c1 k1, PySem.W.mg_of X G g1⟩
  rcases List.mem_cons.mp hd with rfl | hd
  ·exact ⟨a2, _, fun_mk (st := top 8) l2 c2 k2, PySem.W.mg_of X G g2⟩
  rcases List.mem_cons.mp hd with rfl | hd
  ·exact ⟨a3, _, fun_mk (st := top 9) l3 c3 k3, PySem.W.mg_of X G g3⟩
  rcases List.mem_cons.mp hd with rfl | hd
  ·exact ⟨a4, _, fun_mk (st := top 11) l4 c4 k4, PySem.W.mg_of X G g4⟩
  rcases List.mem_cons.mp hd with rfl | hd
  ·exact ⟨a5, _, fun_mk (st := top 12) l5 c5 k5, PySem.W.mg_of X G g5⟩
  rcases List.mem_cons.mp hd with rfl | hd
  ·exact ⟨a6, _, fun_mk (st := top 13) l6 c6 k6, PySem.W.mg_of X G g6⟩
  rcases List.mem_cons.mp hd with rfl | hd
  ·exact ⟨a7, _, fun_mk (st := top 14) l7 c7 k7, PySem.W.mg_of X G g7⟩
  rcases List.mem_cons.mp hd with rfl | hd
  ·exact ⟨a8, _, fun_mk (st := top 15) l8 c8 k8, PySem.W.mg_of X G g8⟩
  rcases List.mem_cons.mp hd with rfl | hd
  ·exact ⟨a9, _, fun_mk (st := top 16) l9 c9 k9, PySem.W.mg_of X G g9⟩
  rcases List.mem_cons.mp hd with rfl | hd
  ·exact ⟨a10, _, fun_mk (st := top 18) l10 c10 k10, PySem.W.mg_of X G g10⟩
  rcases List.mem_cons.mp hd with rfl | hd
  ·exact ⟨a11, _, fun_mk (st := top 21) l11 c11 k11, PySem.W.mg_of X G g11⟩
  rcases List.mem_cons.mp hd with rfl | hd
  ·exact ⟨a12, _, fun_mk (st := top 22) l12 c12 k12, PySem.W.mg_of X G g12⟩
  rcases List.mem_cons.mp hd with rfl | hd
  ·exact ⟨a13, _, fun_mk (st := top 23) l13 c13 k13, PySem.W.mg_of X G g13⟩
  ·cases hd
 ·unfold C at hi
  rw [List.lookup_cons] at hi
  cases q0 : nm == ("GREATEST_SIZE" : Str) with
  | true =>
   rw [q0] at hi; cases hi
   rw [beq_iff_eq.mp q0]
   exact ⟨t0, PySem.W.mg_of X G e0⟩
  | false =>
  rw [q0] at hi
  cases hi
 ·unfold bltNames at hn
  rcases List.mem_cons.mp hn with rfl | hn
  ·exact PySem.W.mg_none_of X G z0
  rcases List.mem_cons.mp hn with rfl | hn
  ·exact PySem.W.mg_none_of X G z1
  rcases List.mem_cons.mp hn with rfl | hn
  ·exact PySem.W.mg_none_of X G z2
  rcases List.mem_cons.mp hn with rfl | hn
  ·exact PySem.W.mg_none_of X G z3
  rcases List.mem_cons.mp hn with rfl | hn
  ·exact PySem.W.mg_none_of X G z4
  rcases List.mem_cons.mp hn with rfl | hn
  ·exact PySem.W.mg_none_of X G z5
  rcases List.mem_cons.mp hn with rfl | hn
  ·exact PySem.W.mg_none_of X G z6
  rcases List.mem_cons.mp hn with rfl | hn
  ·exact PySem.W.mg_none_of X G z7
  rcases List.mem_cons.mp hn with rfl | hn
  ·exact PySem.W.mg_none_of X G z8
  rcases List.mem_cons.mp hn with rfl | hn
  ·exact PySem.W.mg_none_of X G z9
  rcases List.mem_cons.mp hn with rfl | hn
  ·exact PySem.W.mg_none_of X G z10
  rcases List.mem_cons.mp hn with rfl | hn
  ·exact PySem.W.mg_none_of X G z11
  rcases List.mem_cons.mp hn with rfl | hn
  ·exact PySem.W.mg_none_of X G z12
  rcases List.mem_cons.mp hn with rfl | hn
  ·exact PySem.W.mg_none_of X G z13
  rcases List.mem_cons.mp hn with rfl | hn
  ·exact PySem.W.mg_none_of X G z14
  rcases List.mem_cons.mp hn with rfl | hn
  ·exact PySem.W.mg_none_of X G z15
  ·cases hn
end R01
namespace R01
open Mini
def T : List Fn := D.map (·.fn)
def good : Rs -> Bool
 | .ret (.bl true) _ => true
 | _ => false
theorem good_ret {r : Rs} (h : good r = true) : ∃ m, r = .ret (.bl true) m := by
 unfold good at h
 split at h
 ·exact ⟨_, rfl⟩
 ·cases h
def rest : Sm := match f13.body with
 | .seq _ b => b
 | s => s
theorem cell0 (ns : List Int) : ∃ c, callN T 5 10 [.rol (ns.map Wd.int), .int 0] [] = .ok (.int c) [] := by
 cases ns with
 | nil => exact ⟨1, by rfl⟩
 | cons x r =>
  refine ⟨x, ?_⟩
  have e : (0 : Int) < (((x :: r).map Wd.int).length : Int) := by simp
  show runF (callN T 4) f10 [.rol ((x :: r).map Wd.int), .int 0] [] = _
  simp [runF, f10, begin0, exS, evE, Rz.bind, Rz.bindS, argsOf, bltR, seqOf, cop, cmpII, idxR, ix]
def run (n : Int) (xs : List Wd) : Rs := exS (callN T 5) rest [some (.rol xs), some (.int n), none, none, none, none, none, none] []
theorem r1 (xs : List Wd) : good (run 1 xs) = true := by kernel_rfl
theorem r2 (xs : List Wd) : good (run 2 xs) = true := by kernel_rfl
theorem r3 (xs : List Wd) : good (run 3 xs) = true := by kernel_rfl
theorem r4 (xs : List Wd) : good (run 4 xs) = true := by kernel_rfl
theorem r5 (xs : List Wd) : good (run 5 xs) = true := by kernel_rfl
theorem r6 (xs : List Wd) : good (run 6 xs) = true := by kernel_rfl
theorem r7 (xs : List Wd) : good (run 7 xs) = true := by kernel_rfl
theorem r8 (xs : List Wd) : good (run 8 xs) = true := by kernel_rfl
theorem r9 (xs : List Wd) : good (run 9 xs) = true := by kernel_rfl
theorem r10 (xs : List Wd) : good (run 10 xs) = true := by kernel_rfl
theorem r11 (xs : List Wd) : good (run 11 xs) = true := by kernel_rfl
theorem r12 (xs : List Wd) : good (run 12 xs) = true := by kernel_rfl
theorem first (c : Int) (xs : List Wd) (hc : callN T 5 10 [.rol xs, .int 0] [] = .ok (.int c) []) :
  exS (callN T 5) f13.body (begin0 f13 [.rol xs]) [] = run (1 + c % 12) xs := by
 show exS (callN T 5) (.seq (.asg 1 (.bin .add (.lit (.int 1)) (.bin .mod (.call 10 (.pair (.var 0) (.pair (.lit (.int 0)) .unit))) (.lit (.int 12))))) rest) (begin0 f13 [.rol xs]) [] = _
 simp [exS, evE, begin0, f13, Rz.bind, Rz.bindS, argsOf, bop, hc, run]
theorem all12 (xs : List Wd) (n : Int) (h1 : 1 <= n) (h2 : n <= 12) : good (run n xs) = true := by
 have h : n = 1 \/ n = 2 \/ n = 3 \/ n = 4 \/ n = 5 \/ n = 6 \/ n = 7 \/ n = 8 \/ n = 9 \/ n = 10 \/ n = 11 \/ n = 12 := by omega
 rcases h with rfl | rfl | rfl | rfl | rfl | rfl | rfl | rfl | rfl | rfl | rfl | rfl
 ·exact r1 xs
 ·exact r2 xs
 ·exact r3 xs
 ·exact r4 xs
 ·exact r5 xs
 ·exact r6 xs
 ·exact r7 xs
 ·exact r8 xs
 ·exact r9 xs
 ·exact r10 xs
 ·exact r11 xs
 ·exact r12 xs
theorem pure (ns : List Int) (_ : ns.length <= 63) : ∃ m, callN (D.map (·.fn)) 6 13 [.rol (ns.map Wd.int)] [] = .ok (.bl true) m := by
 obtain ⟨c, hc⟩ := cell0 ns
 obtain ⟨m, hm⟩ := good_ret (all12 (ns.map Wd.int) (1 + c % 12) (by omega) (by omega))
 refine ⟨m, ?_⟩
 show runF (callN T 5) f13 [.rol (ns.map Wd.int)] [] = _
 unfold runF
 rw [if_pos (show [Wd.rol (ns.map Wd.int)].length = f13.ar from rfl), first c _ hc, hm]
end R01
open PySem PySem.W PyProof.Rows
set_option maxRecDepth 100000 in
set_option maxHeartbeats 0 in
theorem PySem.Challenge.cw_loopgyre_k01_roads_numbered_holds : PySem.Challenge.rw_loopgyre_k01_roads_numbered.Holds := by
 w_on; o_law; k_head; (case hw => w_witness2)
 k_fill
 refine Mini.walkM (l := PySem.Challenge.rw_loopgyre_k01_roads_numbered) (D := R01.D) (C := R01.C) (k := 6) (i := 13) (dl := R01.d13) (x := "_law_script") (n := 63) rfl (by decide) rfl ⟨rfl, by decide, by decide⟩ (fun w h Y => PySem.W.kIn_of Y) rfl R01.okAll R01.bnd rfl rfl rfl ?F R01.pure
 case F =>
  intro w mg fa h KX G hmg
  refine' R01.mk KX G ?xqg0 ?xql0 ?xqc0 ?xqk0 ?xqg1 ?xql1 ?xqc1 ?xqk1 ?xqg2 ?xql2 ?xqc2 ?xqk2 ?xqg3 ?xql3 ?xqc3 ?xqk3 ?xqg4 ?xql4 ?xqc4 ?xqk4 ?xqg5 ?xql5 ?xqc5 ?xqk5 ?xqg6 ?xql6 ?xqc6 ?xqk6 ?xqg7 ?xql7 ?xqc7 ?xqk7 ?xqg8 ?xql8 ?xqc8 ?xqk8 ?xqg9 ?xql9 ?xqc9 ?xqk9 ?xqg10 ?xql10 ?xqc10 ?xqk10 ?xqg11 ?xql11 ?xqc11 ?xqk11 ?xqg12 ?xql12 ?xqc12 ?xqk12 ?xqg13 ?xql13 ?xqc13 ?xqk13 ?xqe0 ?xqz0 ?xqz1 ?xqz2 ?xqz3 ?xqz4 ?xqz5 ?xqz6 ?xqz7 ?xqz8 ?xqz9 ?xqz10 ?xqz11 ?xqz12 ?xqz13 ?xqz14 ?xqz15
  (case xqg0 => k_is)
  (case xql0 => k_is)
  (case xqc0 => k_is)
  (case xqk0 => k_is)
  (case xqg1 => k_is)
  (case xql1 => k_is)
  (case xqc1 => k_is)
  (case xqk1 => k_is)
  (case xqg2 => k_is)
  (case xql2 => k_is)
  (case xqc2 => k_is)
  (case xqk2 => k_is)
  (case xqg3 => k_is)
  (case xql3 => k_is)
  (case xqc3 => k_is)
  (case xqk3 => k_is)
  (case xqg4 => k_is)
  (case xql4 => k_is)
  (case xqc4 => k_is)
  (case xqk4 => k_is)
  (case xqg5 => k_is)
  (case xql5 => k_is)
  (case xqc5 => k_is)
  (case xqk5 => k_is)
  (case xqg6 => k_is)
  (case xql6 => k_is)
  (case xqc6 => k_is)
  (case xqk6 => k_is)
  (case xqg7 => k_is)
  (case xql7 => k_is)
  (case xqc7 => k_is)
  (case xqk7 => k_is)
  (case xqg8 => k_is)
  (case xql8 => k_is)
  (case xqc8 => k_is)
  (case xqk8 => k_is)
  (case xqg9 => k_is)
  (case xql9 => k_is)
  (case xqc9 => k_is)
  (case xqk9 => k_is)
  (case xqg10 => k_is)
  (case xql10 => k_is)
  (case xqc10 => k_is)
  (case xqk10 => k_is)
  (case xqg11 => k_is)
  (case xql11 => k_is)
  (case xqc11 => k_is)
  (case xqk11 => k_is)
  (case xqg12 => k_is)
  (case xql12 => k_is)
  (case xqc12 => k_is)
  (case xqk12 => k_is)
  (case xqg13 => k_is)
  (case xql13 => k_is)
  (case xqc13 => k_is)
  (case xqk13 => k_is)
  (case xqe0 => k_is)
  (case xqz0 => k_is)
  (case xqz1 => k_is)
  (case xqz2 => k_is)
  (case xqz3 => k_is)
  (case xqz4 => k_is)
  (case xqz5 => k_is)
  (case xqz6 => k_is)
  (case xqz7 => k_is)
  (case xqz8 => k_is)
  (case xqz9 => k_is)
  (case xqz10 => k_is)
  (case xqz11 => k_is)
  (case xqz12 => k_is)
  (case xqz13 => k_is)
  (case xqz14 => k_is)
  (case xqz15 => k_is)
