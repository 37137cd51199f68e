import PyProof.Rows.All
import Wide.All
import OpenK.AllK
import Wide.FinOn
import Lean
import PyProof.EqAt
import PyProof.EqKinds
import PyProof.NeKinds
import PyProof.TupleCall
import OpenK.KOwn
import PyProof.WalkInts
import KE.KIsAll
import KE.RegKIsAll
import PyProof.ExcAttrAll.ValueError
import OpenK.KMake
import PyProof.ExcInit
import PySem.Challenge.RW_loopgyre_k02_small_squares
set_option Elab.async false
set_option linter.all false
set_option maxRecDepth 100000
set_option genSizeOf false
set_option backward.eqns.nonrecursive false
set_option backward.eqns.deepRecursiveSplit false
noncomputable section
namespace L2
open PySem PySem.Spec PyProof.Rows
abbrev Key := Sum Int Str
def keyIs : Key -> Value -> Bool
  | .inl k, v => Value.isInt k v
  | .inr x, v => Value.isStrOf x v
def keyH (w : World) : Key -> Int
  | .inl k => hashInt k
  | .inr x => hashStr w x
theorem keyIs_shape : ∀ {k : Key} {v : Value}, keyIs k v = true -> (∃ i t, k = Sum.inl i /\ v = Value.int i t) \/ (∃ x t, k = Sum.inr x /\ v = Value.str x t)
  | .inl i, v, h => by
    obtain ⟨t, e⟩ := Value.isInt_shape (k := i) (v := v) h
    exact .inl ⟨i, t, rfl, e⟩
  | .inr x, v, h => by
    obtain ⟨t, e⟩ := Value.isStrOf_shape (x := x) (v := v) h
    exact .inr ⟨x, t, rfl, e⟩
theorem key_ll (a b : Int) : decide ((Sum.inl a : Key) = Sum.inl b) = (a == b) := by
  by_cases e : a = b
  . subst e; simp
  . have h : ¬ (Sum.inl a : Key) = Sum.inl b := fun q => e (Sum.inl.inj q)
    rw [decide_eq_false h]
    exact (beq_eq_false_iff_ne.mpr e).symm
theorem key_rr (a b : Str) : decide ((Sum.inr a : Key) = Sum.inr b) = decide (a = b) := by
  by_cases e : a = b
  . subst e; simp
  . have h : ¬ (Sum.inr a : Key) = Sum.inr b := fun q => e (Sum.inr.inj q)
    rw [decide_eq_false h, decide_eq_false e]
theorem key_lr (a : Int) (b : Str) : decide ((Sum.inl a : Key) = Sum.inr b) = false := decide_eq_false (fun q => nomatch q)
theorem key_rl (a : Str) (b : Int) : decide ((Sum.inr a : Key) = Sum.inl b) = false := decide_eq_false (fun q => nomatch q)
def mixKind (prog : Program) (w : World) : PySem.KeyKind prog w Key where
  is := keyIs
  hash := keyH w
  inj := fun v a b ha hb => by
    rcases keyIs_shape ha with ⟨i, t, rfl, rfl⟩ | ⟨x, t, rfl, rfl⟩
    . rcases keyIs_shape hb with ⟨j, u, rfl, e⟩ | ⟨y, u, rfl, e⟩
      . injection e with e1 _; rw [e1]
      . exact nomatch e
    . rcases keyIs_shape hb with ⟨j, u, rfl, e⟩ | ⟨y, u, rfl, e⟩
      . exact nomatch e
      . injection e with e1 _; rw [e1]
  byValue := fun k v h => by
    rcases keyIs_shape h with ⟨i, t, rfl, rfl⟩ | ⟨x, t, rfl, rfl⟩ <;> rfl
  pyHash := fun hv h => by
    rcases keyIs_shape hv with ⟨i, t, rfl, rfl⟩ | ⟨x, t, rfl, rfl⟩
    . exact wpAny_pyHash_int h
    . exact wpAny_pyHash_str h
  eqBool := fun hu hv h => by
    rcases keyIs_shape hu with ⟨i, t, rfl, rfl⟩ | ⟨x, t, rfl, rfl⟩
    . rcases keyIs_shape hv with ⟨j, u, rfl, rfl⟩ | ⟨y, u, rfl, rfl⟩
      . rw [key_ll] at h; exact wpAny_eqBool_int h
      . rw [key_lr] at h; exact SeqAt.EqAt.int_str i t y u _ _ _ _ h
    . rcases keyIs_shape hv with ⟨j, u, rfl, rfl⟩ | ⟨y, u, rfl, rfl⟩
      . rw [key_rl] at h; exact SeqAt.EqAt.str_int x t j u _ _ _ _ h
      . rw [key_rr] at h; exact wpAny_eqBool_str h
  «strs» := fun k x t v h => by
    rcases keyIs_shape h with ⟨i, u, rfl, e⟩ | ⟨y, u, rfl, e⟩
    . exact nomatch e
    . injection e with e1 _
      subst e1
      cases v <;> rfl
end L2
namespace L2
open PySem PySem.Spec PyProof.Rows
inductive V where
  | non | bl (b : Bool) | int (i : Int) | str (x : Str) | byt (b : Array UInt8) | flt (b : UInt64) | ref (a : Addr) | ty (n : String)
  deriving DecidableEq
def RelV : V -> Value -> Prop
  | .non, u => u = Value.none
  | .bl b, u => u = Value.bool b
  | .int i, u => ∃ t, u = Value.int i t
  | .str x, u => ∃ t, u = Value.str x t
  | .byt b, u => ∃ t, u = Value.bytes b t
  | .flt b, u => ∃ t, u = Value.float b t
  | .ref a, u => u = Value.ref a
  | .ty n, u => u = Value.type n
abbrev Vals : List V -> List Value -> Prop := Paired RelV
theorem Vals.length {xs : List V} {us : List Value} (r : Vals xs us) : xs.length = us.length := Paired.length r
theorem Vals.get : ∀ {xs : List V} {us : List Value} {i : Nat} {x : V}, Vals xs us -> xs[i]? = some x -> ∃ u, us[i]? = some u /\ RelV x u
  | _, _, _, _, .nil, e => by simp at e
  | _, _, 0, _, .cons r _, e => by simp at e; subst e; exact ⟨_, rfl, r⟩
  | _, _, i + 1, x, .cons _ t, e => by
    obtain ⟨u, h1, h2⟩ := Vals.get (i := i) (x := x) t (by simpa using e)
    exact ⟨u, by simpa using h1, h2⟩
theorem Vals.set {x : V} {u : Value} (r : RelV x u) : ∀ {xs : List V} {us : List Value} (i : Nat), Vals xs us -> Vals (xs.set i x) (us.set i u)
  | _, _, _, .nil => .nil
  | _, _, 0, .cons _ t => .cons r t
  | _, _, i + 1, .cons q t => .cons q (Vals.set r i t)
theorem Vals.append : ∀ {xs ys : List V} {us ws : List Value}, Vals xs us -> Vals ys ws -> Vals (xs ++ ys) (us ++ ws)
  | _, _, _, _, .nil, s => s
  | _, _, _, _, .cons r t, s => .cons r (Vals.append t s)
theorem Vals.take : ∀ {xs : List V} {us : List Value} (n : Nat), Vals xs us -> Vals (xs.take n) (us.take n)
  | _, _, 0, _ => .nil
  | _, _, _ + 1, .nil => .nil
  | _, _, n + 1, .cons r t => .cons r (Vals.take n t)
theorem Vals.drop : ∀ {xs : List V} {us : List Value} (n : Nat), Vals xs us -> Vals (xs.drop n) (us.drop n)
  | _, _, 0, r => r
  | _, _, _ + 1, .nil => .nil
  | _, _, n + 1, .cons _ t => Vals.drop n t
def RelO : Option V -> Option Value -> Prop
  | some v, some u => RelV v u
  | none, none => True
  | _, _ => False
def KV {κ : Type} : List (κ × V) -> List (κ × Value) -> Prop := Paired fun (p : κ × V) (q : κ × Value) => p.1 = q.1 /\ RelV p.2 q.2
def kV : Key -> V
  | .inl i => .int i
  | .inr x => .str x
inductive HO where
  /-- a list -/
  | lst (xs : List V)
  /-- a tuple (never changes) -/
  | tup (xs : List V)
  /-- a dict whose keys are ints and texts; one whose keys are tuples of ints and texts (the empty one is both) -/
  | dK (kvs : List (Key × V)) | dT (kvs : List (List Key × V))
  /-- a set of ints: its members, its size -/
  | set (S : Int -> Bool) (n : Nat)
  /-- an instance of the class at C, its dict at dx, its attributes -/
  | ins (C dx : Addr) (fs : List (Str × V))
  /-- the dict of the instance at x -/
  | own (x : Addr)
  /-- the dict of an exception -/
  | xd (fs : List (Str × V))
  /-- a bound method, f of x -/
  | met (f x : Addr)
  /-- a range object lo, lo + 1, .. below hi -/
  | rng (lo hi : Int)
  /-- a thing that is known to the object (the script; a dict while a loop walks it): read, never written while it is so -/
  | frz (o : Obj) (u : HO)
  /-- a code object's table -/
  | tbl (ps : Array Value)
  /-- any other thing, by what is true of its one object (a def of one's own: SetO a S n := HO.ext fun h => ..) -/
  | ext (φ : Heap -> Prop)
abbrev Hp := Addr -> Option HO
def upd (H : Hp) (a : Addr) (o : HO) : Hp := fun b => if b = a then some o else H b
theorem upd_same {H : Hp} {a : Addr} {o : HO} : upd H a o a = some o := by unfold upd; rw [if_pos rfl]
theorem upd_ne {H : Hp} {a b : Addr} {o : HO} (h : b ≠ a) : upd H a o b = H b := by unfold upd; rw [if_neg h]
theorem ne_of_none {H : Hp} {a b : Addr} {o : HO} (h : H a = some o) (h' : H b = none) : a ≠ b := by
  intro e; subst e; rw [h] at h'; cases h'
section
variable (P : Program) (w : World)
def ObjOk (H : Hp) (h : Heap) (a : Addr) : HO -> Prop
  | .lst xs => xs.length <= sizeLine /\ ∃ (its : List Value) (n : Nat), Vals xs its /\ h.get? a = some { cls := .type "list", data := .seq its.toArray n }
  | .tup xs => xs.length <= sizeLine /\ ∃ its : List Value, Vals xs its /\ IsTup h a its.toArray
  | .dK kvs => kvs.length <= sizeLine /\ (a == sysModules) = false /\ ∃ vs, KV kvs vs /\ h.DictOf (mixKind P w) a vs
  | .dT kvs => kvs.length <= sizeLine /\ (a == sysModules) = false /\ ∃ xs : List (List Key × Addr × Value),
      Paired (fun (p : List Key × V) (q : List Key × Addr × Value) => p.1 = q.1 /\ H q.2.1 = some (.tup (p.1.map kV)) /\ RelV p.2 q.2.2) kvs xs /\
      ∃ o es ep, h.get? a = some o /\ o.ExactDict /\ o.data = .dict es ep /\ es.toList = xs.map (entryOfKey (tupleKind (mixKind P w))) /\ (xs.map (·.1)).Nodup
  | .set S n => h.SetOf (intKind P w) a S n
  | .ins C dx fs => H dx = some (.own a) /\ fs.length <= 1000 /\ dx ≠ a /\ h.get? a = some (PySem.W.instObj C dx) /\
      ∃ mA, h.Ns1 dx mA /\ (∀ f, RelO (fs.lookup f) (mA f)) /\ PySem.Within mA (fs.map (·.1))
  | .own _ => ∃ o, h.get? a = some o
  | .xd fs => ∃ mA, h.Ns1 a mA /\ ∀ f, RelO (fs.lookup f) (mA f)
  | .rng lo hi => ∃ t u v, h.get? a = some { cls := .type "range", data := .fields #[.int lo t, .int hi u, .int 1 v] }
  | .frz o u => h.get? a = some o /\ ObjOk H h a u
  | .tbl ps => h.get? a = some { cls := .none, data := .fields ps }
  | .met f x => h.get? a = some (PySem.W.methodObj (.ref f) (.ref x))
  | .ext φ => φ h /\ (∃ o, h.get? a = some o) /\ ∀ h1 h2 : Heap, φ h1 -> (∀ o, h1.get? a = some o -> h2.get? a = some o) -> φ h2
def HOk (H : Hp) (h : Heap) : Prop := ∀ a o, H a = some o -> ObjOk P w H h a o
end
section
variable {P : Program} {w : World} {H H' : Hp} {h h' : Heap} {a : Addr} {o : HO}
theorem ObjOk.lt (x : ObjOk P w H h a o) : a < h.objs.size := by
  cases o with
  | lst xs => obtain ⟨_, _, _, _, e⟩ := x; exact Heap.lt_size e
  | tup xs => obtain ⟨_, _, _, p⟩ := x; exact p.lt
  | dK kvs => obtain ⟨_, _, _, _, o, _, _, e, _⟩ := x; exact Heap.lt_size e
  | dT kvs => obtain ⟨_, _, _, _, o, _, _, e, _⟩ := x; exact Heap.lt_size e
  | set S n => obtain ⟨o, _, _, _, e, _⟩ := x; exact Heap.lt_size e
  | ins C dx fs => obtain ⟨_, _, _, e, _⟩ := x; exact Heap.lt_size e
  | own y => obtain ⟨_, e⟩ := x; exact Heap.lt_size e
  | xd fs => obtain ⟨_, ⟨_, _, _, e, _⟩, _⟩ := x; exact Heap.lt_size e
  | rng lo hi => obtain ⟨_, _, _, e⟩ := x; exact Heap.lt_size e
  | frz ob u => obtain ⟨e, _⟩ := x; exact Heap.lt_size e
  | tbl ps => exact Heap.lt_size (show h.get? a = some _ from x)
  | met f y => exact Heap.lt_size (show h.get? a = some _ from x)
  | ext φ => obtain ⟨_, ⟨_, e⟩, _⟩ := x; exact Heap.lt_size e
theorem Paired.mapP {α β : Type} {F G : α -> β -> Prop} : ∀ {l₁ : List α} {l₂ : List β}, Paired F l₁ l₂ -> (∀ a b, F a b -> G a b) -> Paired G l₁ l₂
  | _, _, .nil, _ => .nil
  | _, _, .cons r t, f => .cons (f _ _ r) (Paired.mapP t f)
theorem ObjOk.stay (x : ObjOk P w H h a o) (k : ∀ b u, (b = a \/ H b = some (.own a)) -> h.get? b = some u -> h'.get? b = some u)
    (ho : ∀ b, H b = some (.own a) -> H' b = some (.own a)) (ht : ∀ b xs, H b = some (.tup xs) -> H' b = some (.tup xs)) : ObjOk P w H' h' a o := by
  induction o with
  | lst xs => obtain ⟨z, its, n, r, e⟩ := x; exact ⟨z, its, n, r, k _ _ (.inl rfl) e⟩
  | tup xs => obtain ⟨z, its, r, ob, e, c⟩ := x; exact ⟨z, its, r, ob, k _ _ (.inl rfl) e, c⟩
  | dK kvs => obtain ⟨z, y, vs, r, ob, es, ep, e, c⟩ := x; exact ⟨z, y, vs, r, ob, es, ep, k _ _ (.inl rfl) e, c⟩
  | dT kvs =>
    obtain ⟨z, y, xs, r, ob, es, ep, e, c⟩ := x
    exact ⟨z, y, xs, Paired.mapP r fun p q z => ⟨z.1, ht _ _ z.2.1, z.2.2⟩, ob, es, ep, k _ _ (.inl rfl) e, c⟩
  | set S n => obtain ⟨ob, es, ep, t, e, c⟩ := x; exact ⟨ob, es, ep, t, k _ _ (.inl rfl) e, c⟩
  | ins C dx fs =>
    obtain ⟨d, z, ne, e, mA, ⟨od, es, ep, e2, c⟩, r⟩ := x
    exact ⟨ho _ d, z, ne, k _ _ (.inl rfl) e, mA, ⟨od, es, ep, k _ _ (.inr d) e2, c⟩, r⟩
  | own y => obtain ⟨ob, e⟩ := x; exact ⟨ob, k _ _ (.inl rfl) e⟩
  | xd fs => obtain ⟨mA, ⟨od, es, ep, e, c⟩, r⟩ := x; exact ⟨mA, ⟨od, es, ep, k _ _ (.inl rfl) e, c⟩, r⟩
  | rng lo hi => obtain ⟨t, u, v, e⟩ := x; exact ⟨t, u, v, k _ _ (.inl rfl) e⟩
  | frz ob u ih => obtain ⟨e, q⟩ := x; exact ⟨k _ _ (.inl rfl) e, ih q⟩
  | tbl ps =>
    have e : h.get? a = some { cls := .none, data := .fields ps } := x
    show h'.get? a = some { cls := .none, data := .fields ps }
    exact k a _ (.inl rfl) e
  | met f y =>
    have e : h.get? a = some (PySem.W.methodObj (.ref f) (.ref y)) := x
    show h'.get? a = some (PySem.W.methodObj (.ref f) (.ref y))
    exact k a _ (.inl rfl) e
  | ext φ => obtain ⟨p, ⟨o, e⟩, st⟩ := x; exact ⟨st _ _ p fun o q => k _ _ (.inl rfl) q, ⟨o, k _ _ (.inl rfl) e⟩, st⟩
theorem HOk.lt (x : HOk P w H h) (e : H a = some o) : a < h.objs.size := (x a o e).lt
theorem HOk.fresh (x : HOk P w H h) (e : h.objs.size <= a) : H a = none := by
  cases q : H a with
  | none => rfl
  | some u => exact absurd (Nat.lt_of_lt_of_le (x.lt q) e) (Nat.lt_irrefl _)
theorem HOk.kept (x : HOk P w H h) (k : ∀ b u, h.get? b = some u -> h'.get? b = some u) : HOk P w H h' := fun a o e =>
  (x a o e).stay (fun b u _ q => k b u q) (fun _ q => q) fun _ _ q => q
theorem HOk.laid (x : HOk P w H h) (k : ∀ b u, h.get? b = some u -> h'.get? b = some u) (hp : h.objs.size <= a) (new : ObjOk P w (upd H a o) h' a o) : HOk P w (upd H a o) h' := fun b u e => by
  have hn := x.fresh hp
  by_cases hb : b = a
  . subst hb; rw [upd_same] at e; cases e; exact new
  . rw [upd_ne hb] at e
    exact (x b u e).stay (fun c v _ q => k c v q) (fun c q => by rw [upd_ne (ne_of_none q hn)]; exact q) fun c xs q => by rw [upd_ne (ne_of_none q hn)]; exact q
end
def Rd (H : Hp) (a : Addr) (u : HO) : Prop := H a = some u \/ ∃ o, H a = some (.frz o u)
theorem Rd.ok {P : Program} {w : World} {H : Hp} {h : Heap} {a : Addr} {u : HO} (r : Rd H a u) (x : HOk P w H h) : ObjOk P w H h a u := by
  rcases r with r | ⟨o, r⟩
  . exact x a u r
  . obtain ⟨_, q⟩ := x a _ r
    exact q
def Mut : Option HO -> Prop
  | some (.lst _) => True
  | some (.dK _) => True
  | some (.dT _) => True
  | some (.set _ _) => True
  | some (.ins _ _ _) => True
  | some (.ext _) => True
  | _ => False
section
variable {P : Program} {w : World} {H : Hp} {h h' : Heap} {x e : Addr} {o' : HO}
theorem HOk.write (ok : HOk P w H h) (mu : Mut (H x)) (he : e = x \/ H e = some (.own x)) (k : ∀ b u, b ≠ e -> h.get? b = some u -> h'.get? b = some u) (heo : ∃ u, h'.get? e = some u)
    (new : ObjOk P w (upd H x o') h' x o') : HOk P w (upd H x o') h' := fun b u q => by
  have nown : ∀ c y, H c = some (.own y) -> c ≠ x := fun c y r z => by subst z; rw [r] at mu; exact mu
  have ntup : ∀ c xs, H c = some (.tup xs) -> c ≠ x := fun c xs r z => by subst z; rw [r] at mu; exact mu
  by_cases hb : b = x
  . subst hb; rw [upd_same] at q; cases q; exact new
  . rw [upd_ne hb] at q
    by_cases hbe : b = e
    . have q' : H b = some (.own x) := by
        rcases he with z | z
        . exact absurd (hbe.trans z) hb
        . rw [hbe]; exact z
      rw [q] at q'; cases q'
      obtain ⟨v, hv⟩ := heo
      exact ⟨v, by rw [hbe]; exact hv⟩
    . refine (ok b u q).stay (fun c v hc r => k c v ?_ r) (fun c r => by rw [upd_ne (nown c b r)]; exact r) fun c xs r => by rw [upd_ne (ntup c xs r)]; exact r
      rcases hc with rfl | hc
      . exact hbe
      . rintro rfl
        rcases he with z | z
        . exact nown c b hc z
        . rw [hc] at z; cases z; exact hb rfl
end
structure Un (fs ex : List Addr) (H H' : Hp) (h h' : Heap) : Prop where
  keep : ∀ b o, h.get? b = some o -> H b = none -> b ∉ fs -> b ∉ ex -> h'.get? b = some o
  slot : ∀ b o, h.get? b = some o -> H b = none -> b ∈ fs -> b ∉ ex -> ∃ sl, h'.get? b = some { o with slots := sl }
  free : ∀ b o, h.get? b = some o -> H b = none -> b ∉ ex -> H' b = none
  there : ∀ b o, h.get? b = some o -> b ∉ ex -> ∃ o', h'.get? b = some o'
  tups : ∀ b xs, H b = some (.tup xs) -> H' b = some (.tup xs)
  frzs : ∀ b o u, H b = some (.frz o u) -> H' b = some (.frz o u)
  tbls : ∀ b ps, H b = some (.tbl ps) -> ∃ more, H' b = some (.tbl (ps ++ more))
section
variable {fs fs' ex ex' : List Addr} {H H1 H2 : Hp} {h h1 h2 h' : Heap} {a x e : Addr} {o : HO}
theorem Un.any (u : Un fs ex H H1 h h1) {b : Addr} {ob : Obj} (q : h.get? b = some ob) (n : H b = none) (hx : b ∉ ex) : ∃ sl, h1.get? b = some { ob with slots := sl } := by
  by_cases hb : b ∈ fs
  . exact u.slot b ob q n hb hx
  . exact ⟨ob.slots, u.keep b ob q n hb hx⟩
theorem Un.kept (k : ∀ b u, h.get? b = some u -> h'.get? b = some u) : Un fs ex H H h h' :=
  ⟨fun b ob q _ _ _ => k b ob q, fun b ob q _ _ _ => ⟨ob.slots, k b ob q⟩, fun _ _ _ n _ => n, fun b ob q _ => ⟨ob, k b ob q⟩, fun _ _ q => q, fun _ _ _ q => q, fun _ ps q => ⟨#[], by rw [q]; simp⟩⟩
theorem Un.refl : Un fs ex H H h h := Un.kept fun _ _ q => q
theorem Un.laid (k : ∀ b u, h.get? b = some u -> h'.get? b = some u) (hp : h.objs.size <= a) (hn : H a = none) : Un fs ex H (upd H a o) h h' where
  keep := fun b u q _ _ _ => k b u q
  slot := fun b u q _ _ _ => ⟨u.slots, k b u q⟩
  free := fun b u q n _ => by rw [upd_ne (Nat.ne_of_lt (Nat.lt_of_lt_of_le (Heap.lt_size q) hp))]; exact n
  there := fun b u q _ => ⟨u, k b u q⟩
  tups := fun b xs q => by rw [upd_ne (ne_of_none q hn)]; exact q
  frzs := fun b u xs q => by rw [upd_ne (ne_of_none q hn)]; exact q
  tbls := fun b ps q => ⟨#[], by rw [upd_ne (ne_of_none q hn), q]; simp⟩
theorem Un.write (mu : Mut (H x)) (he : e = x \/ H e = some (.own x)) (k : ∀ b u, b ≠ e -> h.get? b = some u -> h'.get? b = some u) (heo : ∃ u, h'.get? e = some u) : Un fs ex H (upd H x o) h h' := by
  have hx : ∀ b, H b = none -> b ≠ x := fun b n z => by subst z; rw [n] at mu; exact mu
  have hb : ∀ b, H b = none -> b ≠ e := fun b n z => by
    subst z
    rcases he with r | r
    . exact hx b n r
    . rw [n] at r; cases r
  have hm : ∀ b u, H b = some u -> ¬ Mut (some u) -> b ≠ x := fun b u q nm z => by subst z; rw [q] at mu; exact nm mu
  refine ⟨fun b u q n _ _ => k b u (hb b n) q, fun b u q n _ _ => ⟨u.slots, k b u (hb b n) q⟩, fun b u q n _ => by rw [upd_ne (hx b n)]; exact n, fun b u q _ => ?_,
    fun b xs q => by rw [upd_ne (hm b _ q fun z => z)]; exact q, fun b u xs q => by rw [upd_ne (hm b _ q fun z => z)]; exact q, fun b ps q => ⟨#[], by rw [upd_ne (hm b _ q fun z => z), q]; simp⟩⟩
  by_cases hbe : b = e
  . subst hbe; exact heo
  . exact ⟨u, k b u hbe q⟩
end
def trk (h : Heap) (H : Hp) : List Addr := (List.range h.objs.size).filter fun a => (H a).isSome
def hidT (h : Heap) (H : Hp) : Heap := PySem.W.hideAll h (trk h H)
theorem hidT_size (h : Heap) (H : Hp) : (hidT h H).objs.size = h.objs.size := PySem.W.hideAll_size _ _
theorem hidT_get {h : Heap} {H : Hp} {b : Addr} {o : Obj} (e : h.get? b = some o) (n : H b = none) : (hidT h H).get? b = some o :=
  PySem.W.hideAll_get _ e fun hm => by
    have q : (H b).isSome = true := (List.mem_filter.mp hm).2
    rw [n] at q; simp at q
theorem of_hidT {h : Heap} {H : Hp} {b : Addr} {o : Obj} (e : (hidT h H).get? b = some o) : h.get? b = some o /\ H b = none := by
  have e' : h.get? b = some o := PySem.W.of_hideAll (trk h H) e
  refine ⟨e', ?_⟩
  cases q : H b with
  | none => rfl
  | some x =>
    have hm : b ∈ trk h H := List.mem_filter.mpr ⟨List.mem_range.mpr (Heap.lt_size e'), by simp [q]⟩
    have z : (hidT h H).get? b = none := PySem.W.hideAll_none (trk h H) hm
    rw [z] at e; cases e
end L2
namespace L2
open PySem PySem.Spec PyProof.Rows
structure Mod (K : PySem.W.Frag) (mg : Str -> Option Value) (base : Heap) : Prop where
  kin : K.In base
  glob : base.Ns mainGlobals mg
  blt : ∃ mb, base.Ns builtinsNs mb /\ ∀ x : Str, x ≠ "__name__" -> mb x = bootBuiltins x
  nolimit : base.NoLimit
structure Cx where
  prog : Program
  w : World
  K : PySem.W.Frag
  mg : Str -> Option Value
  base : Heap
  A : Around
  N : List Str
  s₀ : Shared
  H₀ : Hp
  env : Env
  outer : List Env
  stack : List Env
  ex : List Addr
  fn : Str -> Bool
  calm : Bool
  pn : List (Addr × Obj)
  xe : Value -> Shared -> Prop
def frs (l : List Env) : List Addr := l.filterMap (·.frame)
abbrev Cx.fs (X : Cx) : List Addr := frs X.outer
def Vis (sc : Scope) (x : Str) : Prop := sc.names.lookup x = some .local \/ sc.names.lookup x = some .cell \/ sc.names.lookup x = some .free
def Loc (sc : Scope) (x : Str) : Prop := sc.names.lookup x = some .local \/ sc.names.lookup x = some .cell
def Look (env : Env) (h : Heap) (m : Str -> Option Value) (x : Str) (u : Value) : Prop :=
  (env.kindOf x = some .local /\ m x = some u) \/ ((env.kindOf x = some .cell \/ env.kindOf x = some .free) /\ ∃ c, env.cells.lookup x = some c /\ h.IsCell c (some u))
structure Cx.Ok (X : Cx) : Prop where
  mod : Mod X.K X.mg X.base
  kind : X.env.scope.kind = .function
  glob : X.env.globals = mainGlobals
  blt : X.env.builtins = builtinsNs
  above : X.s₀.heap.objs.size <= X.env.locals
  inj : ∀ x y c, X.env.cells.lookup x = some c -> X.env.cells.lookup y = some c -> x = y
  has : ∀ x, (X.env.kindOf x = some .cell \/ X.env.kindOf x = some .free) -> ∃ c, X.env.cells.lookup x = some c
  cab : ∀ x c, X.fn x = true -> X.env.cells.lookup x = some c -> X.s₀.heap.objs.size <= c
  hd : X.calm = true -> X.A.handled = none
  frames : X.A.frames = some X.stack
  stk : X.stack = X.outer \/ (X.stack = X.env :: X.outer /\ X.env.frame = some X.env.locals)
  exf : ∀ b ∈ X.ex, b ≠ X.env.locals /\ ∀ x c, X.env.cells.lookup x = some c -> c ≠ b
  bs : ∀ b o, X.base.get? b = some o -> X.s₀.heap.get? b = some o /\ X.H₀ b = none
  bsz : X.base.objs.size <= X.s₀.heap.objs.size
  noex : ∀ b o, X.base.get? b = some o -> b ∉ X.ex
  exfs : ∀ b ∈ X.ex, b ∉ X.fs
  funs : X.s₀.heap.FunFrames X.base X.outer
  frf : ∀ b ∈ X.fs, X.H₀ b = none
structure Inv (X : Cx) (pins : List (Addr × Obj)) (σ : List (Option V)) (H : Hp) (s : Shared) : Prop where
  ok : X.Ok
  os : s.os = X.s₀.os
  bare : AllBare s.gens
  base : Un X.fs X.ex X.H₀ H X.s₀.heap s.heap
  loc : ∃ m, s.heap.Ns X.env.locals m /\ ∀ (i : Nat) (x : Str) (v : V), X.N[i]? = some x -> σ[i]? = some (some v) -> Vis X.env.scope x -> ∃ u, RelV v u /\ Look X.env s.heap m x u
  cell : ∀ x c, X.env.cells.lookup x = some c -> ∃ v, s.heap.IsCell c v
  free : H X.env.locals = none
  freeC : ∀ x c, X.env.cells.lookup x = some c -> H c = none
  pin : ∀ p ∈ X.pn ++ pins, s.heap.get? p.1 = some p.2 /\ H p.1 = none /\ p.1 ≠ X.env.locals /\ p.1 ∉ X.fs /\ ∀ v, p.2.data ≠ .cell v
  hok : HOk X.prog X.w H s.heap
  len : σ.length = X.N.length
section
variable {X : Cx} {pins : List (Addr × Obj)} {σ : List (Option V)} {H H' : Hp} {s : Shared} {h' : Heap}
theorem Cx.Ok.nofr (ok : X.Ok) {b : Addr} {o : Obj} (e : X.base.get? b = some o) : b ∉ X.fs := fun hb => by
  have := (ok.funs.mem hb).1
  rw [e] at this; cases this
theorem Inv.bs (I : Inv X pins σ H s) : ∀ b o, X.base.get? b = some o -> s.heap.get? b = some o /\ H b = none := fun b o e =>
  ⟨I.base.keep b o (I.ok.bs b o e).1 (I.ok.bs b o e).2 (I.ok.nofr e) (I.ok.noex b o e), I.base.free b o (I.ok.bs b o e).1 (I.ok.bs b o e).2 (I.ok.noex b o e)⟩
theorem Inv.bk (I : Inv X pins σ H s) : ∀ b o, X.base.get? b = some o -> s.heap.get? b = some o := fun b o e => (I.bs b o e).1
theorem Inv.mod (I : Inv X pins σ H s) : Mod X.K X.mg X.base := I.ok.mod
theorem Inv.kIn (I : Inv X pins σ H s) : X.K.In s.heap := I.ok.mod.kin.keeps I.bk
theorem Inv.lt (I : Inv X pins σ H s) : X.env.locals < s.heap.objs.size := let ⟨_, hn, _⟩ := I.loc; hn.lt
theorem Inv.sz (I : Inv X pins σ H s) : X.s₀.heap.objs.size <= s.heap.objs.size := Nat.le_trans I.ok.above (Nat.le_of_lt I.lt)
theorem Inv.nofs (I : Inv X pins σ H s) {a : Addr} (h : s.heap.objs.size <= a) : a ∉ X.fs := fun hb => by
  obtain ⟨_, o, ho, _⟩ := I.ok.funs.mem hb
  exact absurd (Nat.lt_of_lt_of_le (Heap.lt_size ho) (Nat.le_trans I.sz h)) (Nat.lt_irrefl _)
theorem Inv.cne (I : Inv X pins σ H s) : ∀ x c, X.env.cells.lookup x = some c -> c ≠ X.env.locals := fun x c e z => by
  obtain ⟨v, o, ho, hd⟩ := I.cell x c e
  obtain ⟨m, ⟨o', es, ep, ho', hd', _⟩, _⟩ := I.loc
  rw [z, ho'] at ho; cases ho; rw [hd'] at hd; cases hd
theorem Inv.funs (I : Inv X pins σ H s) : s.heap.FunFrames X.base X.outer := by
  have all : ∀ (l : List Env), (∀ b ∈ frs l, b ∈ X.fs) -> X.s₀.heap.FunFrames X.base l -> s.heap.FunFrames X.base l := by
    intro l
    induction l with
    | nil => intro _ _; trivial
    | cons env r ih =>
      intro hs hl
      obtain ⟨hk, ⟨L, o, hf, hn, ho, hd⟩, hr⟩ := hl
      have hL : L ∈ X.fs := hs L (by unfold frs; rw [List.filterMap_cons, hf]; exact List.mem_cons_self)
      obtain ⟨sl, e⟩ := I.base.slot L o ho (I.ok.frf L hL) hL fun z => I.ok.exfs L z hL
      exact ⟨hk, ⟨L, _, hf, hn, e, hd⟩, ih (fun b hb => hs b (by unfold frs; rw [List.filterMap_cons, hf]; exact List.mem_cons_of_mem _ hb)) hr⟩
  exact all X.outer (fun _ hb => hb) I.ok.funs
theorem Inv.stack (I : Inv X pins σ H s) : s.heap.FunFrames X.base X.stack := by
  rcases I.ok.stk with e | ⟨e, hf⟩
  . rw [e]; exact I.funs
  . rw [e]
    obtain ⟨m, hn, _⟩ := I.loc
    refine .cons (by rw [I.ok.kind]; decide) hf hn ?_ I.funs
    exact Heap.get?_none_of_le (Nat.le_trans I.ok.bsz I.ok.above)
theorem Inv.stkSub (I : Inv X pins σ H s) : ∀ b ∈ frs X.stack, b ∈ X.env.locals :: X.fs := fun b hb => by
  rcases I.ok.stk with e | ⟨e, hf⟩
  . rw [e] at hb; exact List.mem_cons_of_mem _ hb
  . rw [e] at hb
    unfold frs at hb
    rw [List.filterMap_cons, hf] at hb
    exact hb
theorem Inv.stkFree (I : Inv X pins σ H s) : ∀ b ∈ frs X.stack, H b = none := fun b hb => by
  rcases List.mem_cons.mp (I.stkSub b hb) with e | hb
  . rw [e]; exact I.free
  . obtain ⟨_, o, ho, _⟩ := I.ok.funs.mem hb
    exact I.base.free b o ho (I.ok.frf b hb) fun z => I.ok.exfs b z hb
theorem Inv.step {g' : Array GenState} {t' : Nat} {d' : Drawn} {ch : List Addr} (I : Inv X pins σ H s)
    (hch : ∀ b ∈ ch, (b ∈ X.ex \/ X.s₀.heap.objs.size <= b) /\ b ≠ X.env.locals /\ (∀ x c, X.env.cells.lookup x = some c -> c ≠ b) /\ ∀ p ∈ X.pn ++ pins, p.1 ≠ b)
    (keep : ∀ b o, b ≠ X.env.locals -> b ∉ X.fs -> b ∉ ch -> s.heap.get? b = some o -> H b = none -> h'.get? b = some o)
    (slot : ∀ b o, b ≠ X.env.locals -> b ∈ X.fs -> b ∉ ch -> s.heap.get? b = some o -> H b = none -> ∃ sl, h'.get? b = some { o with slots := sl }) (free : ∀ b o, b ∉ ch -> s.heap.get? b = some o -> H b = none -> H' b = none)
    (there : ∀ b o, b ∉ ch -> s.heap.get? b = some o -> ∃ o', h'.get? b = some o')
    (tups : ∀ b xs, H b = some (.tup xs) -> H' b = some (.tup xs)) (frzs : ∀ b o u, H b = some (.frz o u) -> H' b = some (.frz o u)) (tbls : ∀ b ps, H b = some (.tbl ps) -> ∃ more, H' b = some (.tbl (ps ++ more)))
    (ns : ∀ m, s.heap.Ns X.env.locals m -> h'.Ns X.env.locals m) (hok : HOk X.prog X.w H' h') (hg : AllBare g') :
    Inv X pins σ H' { s with heap := h', gens := g', drawn := d', toks := t' } := by
  have neL : ∀ b o, X.s₀.heap.get? b = some o -> b ≠ X.env.locals := fun b o e => Nat.ne_of_lt (Nat.lt_of_lt_of_le (Heap.lt_size e) I.ok.above)
  have neC : ∀ b o, X.s₀.heap.get? b = some o -> b ∉ X.ex -> b ∉ ch := fun b o e hx hb => by
    rcases (hch b hb).1 with z | z
    . exact hx z
    . exact absurd (Nat.lt_of_lt_of_le (Heap.lt_size e) z) (Nat.lt_irrefl _)
  have cellK : ∀ x c, X.env.cells.lookup x = some c -> ∀ v, s.heap.IsCell c v -> h'.IsCell c v := fun x c e v ⟨o, ho, hd⟩ => by
    have nch : c ∉ ch := fun z => (hch c z).2.2.1 x c e rfl
    by_cases hc : c ∈ X.fs
    . obtain ⟨sl, q⟩ := slot c o (I.cne x c e) hc nch ho (I.freeC x c e)
      exact ⟨_, q, hd⟩
    . exact ⟨o, keep c o (I.cne x c e) hc nch ho (I.freeC x c e), hd⟩
  refine ⟨I.ok, I.os, hg, ⟨fun b o e n hb hx => ?_, fun b o e n hb hx => ?_, fun b o e n hx => ?_, fun b o e hx => ?_, fun b xs e => tups b xs (I.base.tups b xs e), fun b o xs e => frzs b o xs (I.base.frzs b o xs e), fun b ps e => ?_⟩, ?_, fun x c e => ?_, ?_, fun x c e => ?_, fun p hp => ?_, hok, I.len⟩
  . exact keep b o (neL b o e) hb (neC b o e hx) (I.base.keep b o e n hb hx) (I.base.free b o e n hx)
  . obtain ⟨sl, e1⟩ := I.base.slot b o e n hb hx
    obtain ⟨sl', e2⟩ := slot b _ (neL b o e) hb (neC b o e hx) e1 (I.base.free b o e n hx)
    exact ⟨sl', e2⟩
  . obtain ⟨o', e1⟩ := I.base.there b o e hx
    exact free b o' (neC b o e hx) e1 (I.base.free b o e n hx)
  . obtain ⟨o', e1⟩ := I.base.there b o e hx
    exact there b o' (neC b o e hx) e1
  . obtain ⟨m1, e1⟩ := I.base.tbls b ps e
    obtain ⟨m2, e2⟩ := tbls b _ e1
    exact ⟨m1 ++ m2, by rw [e2, Array.append_assoc]⟩
  . obtain ⟨m, hn, hl⟩ := I.loc
    refine ⟨m, ns m hn, fun i x v e1 e2 e3 => ?_⟩
    obtain ⟨u, r, l⟩ := hl i x v e1 e2 e3
    refine ⟨u, r, ?_⟩
    rcases l with l | ⟨k, c, e, z⟩
    . exact .inl l
    . exact .inr ⟨k, c, e, cellK x c e _ z⟩
  . obtain ⟨v, z⟩ := I.cell x c e
    exact ⟨v, cellK x c e v z⟩
  . obtain ⟨m, ⟨o, _, _, ho, _⟩, _⟩ := I.loc
    exact free _ o (fun z => (hch _ z).2.1 rfl) ho I.free
  . obtain ⟨v, o, ho, hd⟩ := I.cell x c e
    exact free c o (fun z => (hch c z).2.2.1 x c e rfl) ho (I.freeC x c e)
  . obtain ⟨e, n, ne, nf, d⟩ := I.pin p hp
    have nch : p.1 ∉ ch := fun z => (hch p.1 z).2.2.2 p hp rfl
    exact ⟨keep p.1 p.2 ne nf nch e n, free p.1 p.2 nch e n, ne, nf, d⟩
theorem Inv.un {t' : Nat} (I : Inv X pins σ H s) (u : Un X.fs [] H H' s.heap h') (hok : HOk X.prog X.w H' h') : Inv X pins σ H' { s with heap := h', toks := t' } := by
  obtain ⟨m, ⟨o, es, ep, ho, r⟩, _⟩ := id I.loc
  obtain ⟨sl, hL⟩ := u.any ho I.free (by simp)
  exact I.step (g' := s.gens) (d' := s.drawn) (ch := []) (fun _ z => nomatch z) (fun b o _ hb _ e n => u.keep b o e n hb (by simp)) (fun b o _ hb _ e n => u.slot b o e n hb (by simp)) (fun b o _ e n => u.free b o e n (by simp)) (fun b o _ e => u.there b o e (by simp)) u.tups u.frzs u.tbls (fun m' hm => by
    obtain ⟨o', es', ep', ho', r'⟩ := hm
    rw [ho] at ho'; cases ho'
    exact ⟨_, es', ep', hL, r'⟩) hok I.bare
theorem Inv.call {g' : Array GenState} {t' : Nat} {d' : Drawn} {ch : List Addr} (I : Inv X pins σ H s) (u : Un (frs X.stack) ch H H' s.heap h') (hok : HOk X.prog X.w H' h') (hg : AllBare g')
    (hch : ∀ b ∈ ch, (b ∈ X.ex \/ X.s₀.heap.objs.size <= b) /\ b ≠ X.env.locals /\ (∀ x c, X.env.cells.lookup x = some c -> c ≠ b) /\ ∀ p ∈ X.pn ++ pins, p.1 ≠ b) :
    Inv X pins σ H' { s with heap := h', gens := g', drawn := d', toks := t' } := by
  obtain ⟨m, ⟨o, es, ep, ho, r⟩, _⟩ := id I.loc
  obtain ⟨sl, hL⟩ := u.any ho I.free fun z => (hch _ z).2.1 rfl
  exact I.step (ch := ch) hch (fun b o hL hb hc e n => u.keep b o e n (fun z => (List.mem_cons.mp (I.stkSub b z)).elim hL hb) hc) (fun b o _ _ hc e n => u.any e n hc) (fun b o hc e n => u.free b o e n hc) (fun b o hc e => u.there b o e hc) u.tups u.frzs u.tbls (fun m' hm => by
    obtain ⟨o', es', ep', ho', r'⟩ := hm
    rw [ho] at ho'; cases ho'
    exact ⟨_, es', ep', hL, r'⟩) hok hg
theorem Inv.turned {t' : Nat} {it : Addr} (I : Inv X pins σ H s) (k : ∀ b o, b ≠ it -> s.heap.get? b = some o -> h'.get? b = some o) (hn : H it = none) (hL : it ≠ X.env.locals)
    (h1 : it ∈ X.ex \/ X.s₀.heap.objs.size <= it) (h2 : ∀ x c, X.env.cells.lookup x = some c -> c ≠ it) (h3 : ∀ p ∈ X.pn ++ pins, p.1 ≠ it) : Inv X pins σ H { s with heap := h', toks := t' } := by
  have nit : ∀ b u, H b = some u -> b ≠ it := fun b u e z => by rw [z, hn] at e; cases e
  refine I.step (g' := s.gens) (d' := s.drawn) (ch := [it]) (fun b hb => ?_) (fun b o _ _ hc e _ => k b o (fun z => hc (by simp [z])) e) (fun b o _ _ hc e _ => ⟨o.slots, k b o (fun z => hc (by simp [z])) e⟩) (fun _ _ _ _ n => n)
    (fun b o hc e => ⟨o, k b o (fun z => hc (by simp [z])) e⟩) (fun _ _ e => e) (fun _ _ _ e => e) (fun b ps e => ⟨#[], by rw [e]; simp⟩) (fun m hm => ?_) (fun b u e => ?_) I.bare
  . have e : b = it := by simpa using hb
    subst e
    exact ⟨h1, hL, h2, h3⟩
  . obtain ⟨o, es, ep, ho, r⟩ := hm
    exact ⟨o, es, ep, k _ o (Ne.symm hL) ho, r⟩
  . refine (I.hok b u e).stay (fun c v hc q => k c v ?_ q) (fun _ q => q) fun _ _ q => q
    rcases hc with z | z
    . rw [z]; exact nit b u e
    . exact nit c _ z
theorem Inv.tok (I : Inv X pins σ H s) (t : Nat) : Inv X pins σ H { s with toks := t } := I.un (h' := s.heap) (t' := t) Un.refl I.hok
theorem Inv.kept {t' : Nat} (I : Inv X pins σ H s) (k : ∀ b u, s.heap.get? b = some u -> h'.get? b = some u) : Inv X pins σ H { s with heap := h', toks := t' } := I.un (Un.kept k) (I.hok.kept k)
theorem Inv.laid {a : Addr} {o : HO} {t' : Nat} (I : Inv X pins σ H s) (k : ∀ b u, s.heap.get? b = some u -> h'.get? b = some u) (hp : s.heap.objs.size <= a) (new : ObjOk X.prog X.w (upd H a o) h' a o) :
    Inv X pins σ (upd H a o) { s with heap := h', toks := t' } := I.un (Un.laid k hp (I.hok.fresh hp)) (I.hok.laid k hp new)
theorem Inv.write {x e : Addr} {o : HO} {t' : Nat} (I : Inv X pins σ H s) (mu : Mut (H x)) (he : e = x \/ H e = some (.own x)) (k : ∀ b u, b ≠ e -> s.heap.get? b = some u -> h'.get? b = some u) (heo : ∃ u, h'.get? e = some u)
    (new : ObjOk X.prog X.w (upd H x o) h' x o) : Inv X pins σ (upd H x o) { s with heap := h', toks := t' } := I.un (Un.write mu he k heo) (I.hok.write mu he k heo new)
theorem Inv.pins_of {pins' : List (Addr × Obj)} (I : Inv X pins σ H s) (h : ∀ p ∈ pins', s.heap.get? p.1 = some p.2 /\ H p.1 = none /\ p.1 ≠ X.env.locals /\ p.1 ∉ X.fs /\ ∀ v, p.2.data ≠ .cell v) : Inv X pins' σ H s :=
  ⟨I.ok, I.os, I.bare, I.base, I.loc, I.cell, I.free, I.freeC, fun p hp => (List.mem_append.mp hp).elim (fun z => I.pin p (List.mem_append_left _ z)) (h p), I.hok, I.len⟩
theorem nodup_ix {N : List Str} (hN : N.Nodup) {i j : Nat} {x : Str} (a : N[i]? = some x) (b : N[j]? = some x) : i = j := by
  obtain ⟨h1, e1⟩ := List.getElem?_eq_some_iff.mp a
  obtain ⟨h2, e2⟩ := List.getElem?_eq_some_iff.mp b
  exact (List.getElem_inj hN).mp (e1.trans e2.symm)
theorem store_ok2 {M : Model} {A : Around} {E : Value -> Shared -> Prop} {i : Nat} {x : Str} {v : V} {u : Value} {Q : Unit -> Shared -> Prop} (I : Inv X pins σ H s) (hN : X.N.Nodup) (hi : X.N[i]? = some x) (hx : Loc X.env.scope x) (r : RelV v u)
    (h : ∀ s', Inv X pins (σ.set i (some v)) H s' -> (∃ a, Heap.SameBut a s.heap s'.heap /\ (a = X.env.locals \/ X.env.cells.lookup x = some a)) -> Q () s') (hf : X.fn x = true \/ X.env.scope.names.lookup x = some .local := by first | exact .inl rfl | exact .inr rfl | assumption) : wpAny M A (storeName X.env x u) Q E s := by
  obtain ⟨m, hn, hl⟩ := id I.loc
  have hcls : (X.env.scope.kind == .class || (X.env.scope.kind == .module && X.env.locals != X.env.globals)) = false := by rw [I.ok.kind]; rfl
  have hiσ : i < σ.length := by rw [I.len]; exact (List.getElem?_eq_some_iff.mp hi).1
  have cne := I.cne
  have tracked : ∀ {a : Addr} {h' : Heap}, (∃ o, s.heap.get? a = some o /\ H a = none) -> Heap.SameBut a s.heap h' -> HOk X.prog X.w H h' := fun {a h'} ha hs b ob e => by
    obtain ⟨_, _, hfree⟩ := ha
    refine (I.hok b ob e).stay (fun c w' hc q => (hs.2 c ?_).trans q) (fun _ q => q) fun _ _ q => q
    rintro rfl
    rcases hc with rfl | hc
    . rw [hfree] at e; cases e
    . rw [hfree] at hc; cases hc
  rcases hx with hk | hk
  . refine wpAny_storeName_local hk hn (fun h' hn' hs => ?_) hcls
    obtain ⟨oL, _, _, hoL, _⟩ := id hn
    refine h _ ⟨I.ok, I.os, I.bare, ⟨fun b o e n hb hx => ?_, fun b o e n hb hx => ?_, I.base.free, fun b o e hx => ?_, I.base.tups, I.base.frzs, I.base.tbls⟩, ⟨_, hn', fun j y v' e1 e2 e3 => ?_⟩, fun y c e => ?_, I.free, I.freeC, fun p hp => ?_, tracked ⟨oL, hoL, I.free⟩ hs, by simpa using I.len⟩ ⟨_, hs, .inl rfl⟩
    . exact (hs.2 b (Nat.ne_of_lt (Nat.lt_of_lt_of_le (Heap.lt_size e) I.ok.above))).trans (I.base.keep b o e n hb hx)
    . obtain ⟨sl, e1⟩ := I.base.slot b o e n hb hx
      exact ⟨sl, (hs.2 b (Nat.ne_of_lt (Nat.lt_of_lt_of_le (Heap.lt_size e) I.ok.above))).trans e1⟩
    . obtain ⟨o', e1⟩ := I.base.there b o e hx
      exact ⟨o', (hs.2 b (Nat.ne_of_lt (Nat.lt_of_lt_of_le (Heap.lt_size e) I.ok.above))).trans e1⟩
    . by_cases hj : j = i
      . subst hj
        rw [hi] at e1; cases e1
        rw [List.getElem?_set_self hiσ] at e2
        cases e2
        exact ⟨u, r, .inl ⟨hk, by simp⟩⟩
      . rw [List.getElem?_set_ne (Ne.symm hj)] at e2
        obtain ⟨u', r', q⟩ := hl j y v' e1 e2 e3
        refine ⟨u', r', ?_⟩
        rcases q with ⟨k, e⟩ | ⟨k, c, e, z⟩
        . refine .inl ⟨k, ?_⟩
          have : y ≠ x := fun e => hj (nodup_ix hN e1 (e ▸ hi))
          simp [this, e]
        . exact .inr ⟨k, c, e, z.sameBut hs (cne y c e)⟩
    . obtain ⟨w', z⟩ := I.cell y c e
      exact ⟨w', z.sameBut hs (cne y c e)⟩
    . obtain ⟨e, n, ne, nf, d⟩ := I.pin p hp
      exact ⟨(hs.2 p.1 ne).trans e, n, ne, nf, d⟩
  . have hfn : X.fn x = true := by
      rcases hf with z | z
      . exact z
      . rw [z] at hk; cases hk
    obtain ⟨c, hc⟩ := I.ok.has x (.inl hk)
    obtain ⟨w', z⟩ := I.cell x c hc
    refine wpAny_storeName_cell I.ok.kind hk hc z (fun h' hc' hs => ?_)
    obtain ⟨oc, hoc, hocd⟩ := id z
    refine h { s with heap := h' } ⟨I.ok, I.os, I.bare, ⟨fun b o e n hb hx => ?_, fun b o e n hb hx => ?_, I.base.free, fun b o e hx => ?_, I.base.tups, I.base.frzs, I.base.tbls⟩, ⟨m, hn.sameBut hs (Ne.symm (cne x c hc)), fun j y v' e1 e2 e3 => ?_⟩, fun y c' e => ?_, I.free, I.freeC, fun p hp => ?_, tracked ⟨oc, hoc, I.freeC x c hc⟩ hs, by simpa using I.len⟩ ⟨c, hs, .inr hc⟩
    . exact (hs.2 b (Nat.ne_of_lt (Nat.lt_of_lt_of_le (Heap.lt_size e) (I.ok.cab x c hfn hc)))).trans (I.base.keep b o e n hb hx)
    . obtain ⟨sl, e1⟩ := I.base.slot b o e n hb hx
      exact ⟨sl, (hs.2 b (Nat.ne_of_lt (Nat.lt_of_lt_of_le (Heap.lt_size e) (I.ok.cab x c hfn hc)))).trans e1⟩
    . obtain ⟨o', e1⟩ := I.base.there b o e hx
      exact ⟨o', (hs.2 b (Nat.ne_of_lt (Nat.lt_of_lt_of_le (Heap.lt_size e) (I.ok.cab x c hfn hc)))).trans e1⟩
    . by_cases hj : j = i
      . subst hj
        rw [hi] at e1; cases e1
        rw [List.getElem?_set_self hiσ] at e2
        cases e2
        exact ⟨u, r, .inr ⟨.inl hk, c, hc, hc'⟩⟩
      . rw [List.getElem?_set_ne (Ne.symm hj)] at e2
        obtain ⟨u', r', q⟩ := hl j y v' e1 e2 e3
        refine ⟨u', r', ?_⟩
        rcases q with q | ⟨k, c', e, z'⟩
        . exact .inl q
        . refine .inr ⟨k, c', e, z'.sameBut hs ?_⟩
          rintro rfl
          exact hj (nodup_ix hN e1 (I.ok.inj _ _ _ e hc ▸ hi))
    . by_cases hcc : c' = c
      . subst hcc; exact ⟨_, hc'⟩
      . obtain ⟨w2, z2⟩ := I.cell y c' e
        exact ⟨w2, z2.sameBut hs hcc⟩
    . obtain ⟨e, n, ne, nf, d⟩ := I.pin p hp
      refine ⟨(hs.2 p.1 ?_).trans e, n, ne, nf, d⟩
      intro q
      rw [q, hoc] at e
      have q' : oc = p.2 := Option.some.inj e
      exact d w' (by rw [<- q']; exact hocd)
theorem store_ok {M : Model} {A : Around} {E : Value -> Shared -> Prop} {i : Nat} {x : Str} {v : V} {u : Value} {Q : Unit -> Shared -> Prop} (I : Inv X pins σ H s) (hN : X.N.Nodup) (hi : X.N[i]? = some x) (hx : Loc X.env.scope x) (r : RelV v u)
    (h : ∀ s', Inv X pins (σ.set i (some v)) H s' -> Q () s') (hf : X.fn x = true \/ X.env.scope.names.lookup x = some .local := by first | exact .inl rfl | exact .inr rfl | assumption) : wpAny M A (storeName X.env x u) Q E s :=
  store_ok2 I hN hi hx r (fun s' I' _ => h s' I') hf
theorem Inv.call' {s' : Shared} {ch : List Addr} (I : Inv X pins σ H s) (ho : s'.os = s.os) (u : Un (frs X.stack) ch H H' s.heap s'.heap) (hok : HOk X.prog X.w H' s'.heap) (hg : AllBare s'.gens)
    (hch : ∀ b ∈ ch, (b ∈ X.ex \/ X.s₀.heap.objs.size <= b) /\ b ≠ X.env.locals /\ (∀ x c, X.env.cells.lookup x = some c -> c ≠ b) /\ ∀ p ∈ X.pn ++ pins, p.1 ≠ b) : Inv X pins σ H' s' := by
  obtain ⟨h', g', d', t', o'⟩ := s'
  have e : o' = s.os := ho
  subst e
  exact I.call (g' := g') (t' := t') (d' := d') u hok hg hch
end
abbrev XK := Value -> Option Addr -> Hp -> Prop
abbrev St := List (Option V)
abbrev VK := V -> Hp -> Prop
abbrev TE := St -> Hp -> VK -> Prop
abbrev TT := St -> Hp -> (Bool -> Hp -> Prop) -> Prop
abbrev TA := St -> Hp -> (List V -> Hp -> Prop) -> Prop
structure Ends where
  nx : St -> Hp -> Prop
  rt : VK
  bk : St -> Hp -> Prop := fun _ _ => False
  ct : St -> Hp -> Prop := fun _ _ => False
abbrev TS := Ends -> St -> Hp -> Prop
def EP (X : Cx) (pins : List (Addr × Obj)) (σ : St) (Q : VK) (u : Value) (s' : Shared) : Prop := ∃ v H', Inv X pins σ H' s' /\ RelV v u /\ Q v H'
def TP (X : Cx) (pins : List (Addr × Obj)) (σ : St) (Q : Bool -> Hp -> Prop) (b : Bool) (s' : Shared) : Prop := ∃ H', Inv X pins σ H' s' /\ Q b H'
def AP (X : Cx) (pins : List (Addr × Obj)) (σ : St) (Q : List V -> Hp -> Prop) (us : List Value) (s' : Shared) : Prop := ∃ vs H', Inv X pins σ H' s' /\ Vals vs us /\ Q vs H'
def SP (X : Cx) (pins : List (Addr × Obj)) (D : Ends) (f : Flow) (s' : Shared) : Prop :=
  match f with
  | .next => ∃ σ' H', Inv X pins σ' H' s' /\ D.nx σ' H'
  | .brk => ∃ σ' H', Inv X pins σ' H' s' /\ D.bk σ' H'
  | .cont => ∃ σ' H', Inv X pins σ' H' s' /\ D.ct σ' H'
  | .ret u => ∃ v σ' H', Inv X pins σ' H' s' /\ RelV v u /\ D.rt v H'
def PE (X : Cx) (e : Expr) (t : TE) : Prop :=
  ∀ (pins : List (Addr × Obj)) (s : Shared) (σ : St) (H : Hp) (Q : VK), Inv X pins σ H s -> t σ H Q -> wpAny (model X.prog X.w) X.A (eval e X.env) (EP X pins σ Q) X.xe s
def PT (X : Cx) (e : Expr) (t : TT) : Prop :=
  ∀ (pins : List (Addr × Obj)) (s : Shared) (σ : St) (H : Hp) (Q : Bool -> Hp -> Prop), Inv X pins σ H s -> t σ H Q -> wpAny (model X.prog X.w) X.A (isTrue e X.env (eval e X.env)) (TP X pins σ Q) X.xe s
def PW (X : Cx) (e : Expr) (t : TT) : Prop :=
  ∀ (whole : Sem Value) (pins : List (Addr × Obj)) (s : Shared) (σ : St) (H : Hp) (Q : Bool -> Hp -> Prop), Inv X pins σ H s -> t σ H Q -> wpAny (model X.prog X.w) X.A (isTrue e X.env whole) (TP X pins σ Q) X.xe s
theorem PW.pt {X : Cx} {e : Expr} {t : TT} (h : PW X e t) : PT X e t := h _
def PA (X : Cx) (es : List Expr) (t : TA) : Prop :=
  ∀ (pos : Pos) (pins : List (Addr × Obj)) (s : Shared) (σ : St) (H : Hp) (Q : List V -> Hp -> Prop), Inv X pins σ H s -> t σ H Q -> wpAny (model X.prog X.w) X.A (spliced (backTo pos (starEach es X.env))) (AP X pins σ Q) X.xe s
def PS (X : Cx) (st : Stmt) (t : TS) : Prop :=
  ∀ (pins : List (Addr × Obj)) (s : Shared) (σ : St) (H : Hp) (D : Ends), Inv X pins σ H s -> t D σ H -> wpAny (model X.prog X.w) X.A (exec st X.env) (SP X pins D) X.xe s
def PSs (X : Cx) (st : List Stmt) (t : TS) : Prop :=
  ∀ (pins : List (Addr × Obj)) (s : Shared) (σ : St) (H : Hp) (D : Ends), Inv X pins σ H s -> t D σ H -> wpAny (model X.prog X.w) X.A (execs st X.env) (SP X pins D) X.xe s
theorem thn {α : Type} {t : Sem α} {Q Q' : α -> Shared -> Prop} {M : Model} {A : Around} {E : Value -> Shared -> Prop} {s : Shared} (h : wpAny M A t Q E s) (hQ : ∀ a s, Q a s -> Q' a s) : wpAny M A t Q' E s := wpAny_mono h hQ fun _ _ x => x
end L2
namespace L2
open PySem PySem.Spec PyProof.Rows
section
variable {X : Cx}
def tVar (i : Nat) : TE := fun σ H Q => ∃ v, σ[i]? = some (some v) /\ Q v H
def tC (v : V) : TE := fun _ H Q => Q v H
theorem pe_var {i : Nat} {x : Str} {pos : Pos} (hN : X.N[i]? = some x) (hv : Vis X.env.scope x) (hd : (x == ("__debug__" : Str)) = false := by decide) (hcd : (x == ("__classdict__" : Str)) = false := by decide) : PE X (.Name x pos) (tVar i) := by
  intro pins s σ H Q I h
  obtain ⟨v, e, h⟩ := h
  obtain ⟨m, hn, hl⟩ := I.loc
  obtain ⟨u, r, l⟩ := hl i x v hN e hv
  have fin : EP X pins σ Q u s := ⟨v, H, I, r, h⟩
  rcases l with ⟨hk, hm⟩ | ⟨hk, c, hc, hcell⟩
  . exact wpAny_Name (wpAny_loadName_local I.ok.kind hk hn hm fin) hd
  . rcases hk with hk | hk
    . exact wpAny_Name (wpAny_loadName_cell I.ok.kind hk hc hcell fin) hd
    . exact wpAny_Name (wpAny_loadName_free I.ok.kind hk hc hcell fin hcd) hd
theorem pe_int {i j pos} : PE X (.Constant (.int i) j pos) (tC (.int i)) := fun _ _ _ H _ I h => wpAny_Constant_int ⟨.int i, H, I.tok _, ⟨_, rfl⟩, h⟩
theorem pe_bl {b j pos} : PE X (.Constant (.bool b) j pos) (tC (.bl b)) := fun _ _ _ H _ I h => Constant_bool ⟨.bl b, H, I, rfl, h⟩
theorem pe_non {j pos} : PE X (.Constant .none j pos) (tC .non) := fun _ _ _ H _ I h => Constant_none ⟨.non, H, I, rfl, h⟩
theorem pe_str {x j pos} : PE X (.Constant (.str x) j pos) (tC (.str x)) := fun _ _ _ H _ I h => Calls.Constant_str ⟨.str x, H, I.tok _, ⟨_, rfl⟩, h⟩
def Gl (X : Cx) (x : Str) : Prop := X.env.kindOf x = some .globalImplicit
theorem ld_glob {E : Value -> Shared -> Prop} {pins : List (Addr × Obj)} {s : Shared} {σ : St} {H : Hp} {x : Str} {u : Value} {pos : Pos} {Q : Value -> Shared -> Prop} (I : Inv X pins σ H s) (hg : Gl X x) (hm : X.mg x = some u) (h : Q u s)
    (hd : (x == ("__debug__" : Str)) = false := by decide) : wpAny (model X.prog X.w) X.A (eval (.Name x pos) X.env) Q E s :=
  Calls.Name_function_global I.ok.kind hg (Calls.loadGlobal_global (by rw [I.ok.glob]; exact I.mod.glob.keeps I.bk) hm h) hd
theorem ld_blt {E : Value -> Shared -> Prop} {pins : List (Addr × Obj)} {s : Shared} {σ : St} {H : Hp} {x : Str} {u : Value} {pos : Pos} {Q : Value -> Shared -> Prop} (I : Inv X pins σ H s) (hg : Gl X x) (hm : X.mg x = none) (hv : bootBuiltins x = some u) (h : Q u s)
    (hn : x ≠ "__name__" := by decide) (hd : (x == ("__debug__" : Str)) = false := by decide) : wpAny (model X.prog X.w) X.A (eval (.Name x pos) X.env) Q E s := by
  obtain ⟨mb, h1, h2⟩ := I.mod.blt
  exact Calls.Name_function_global I.ok.kind hg (Calls.loadGlobal_builtin (by rw [I.ok.glob]; exact I.mod.glob.keeps I.bk) hm (by rw [I.ok.blt]; exact h1.keeps I.bk) ((h2 x hn).trans hv) h) hd
theorem pe_glob {x : Str} {v : V} {u : Value} {pos : Pos} (hg : Gl X x) (hm : X.mg x = some u) (r : RelV v u) (hd : (x == ("__debug__" : Str)) = false := by decide) : PE X (.Name x pos) (tC v) :=
  fun _ _ _ H _ I h => ld_glob I hg hm ⟨v, H, I, r, h⟩ hd
theorem pe_bltn {x : Str} {v : V} {u : Value} {pos : Pos} (hg : Gl X x) (hm : X.mg x = none) (hv : bootBuiltins x = some u) (r : RelV v u) (hn : x ≠ "__name__" := by decide) (hd : (x == ("__debug__" : Str)) = false := by decide) : PE X (.Name x pos) (tC v) :=
  fun _ _ _ H _ I h => ld_blt I hg hm hv ⟨v, H, I, r, h⟩ hn hd
variable {a b : Expr} {ta tb : TE} {pos : Pos}
def tB (t : TE) : TT := fun σ H Q => t σ H fun x H1 => ∃ c, x = .bl c /\ Q c H1
theorem pt_val {e : Expr} {t : TE} (h : PE X e t) (he : ∀ whole, isTrue e X.env whole = (do let v <- whole; standAt e.pos; holding [v] (truthy v)) := by intro _; rfl) : PT X e (tB t) := by
  intro pins s σ H Q I hw
  refine isTrue_plain (thn (h pins s σ H _ I hw) fun v s1 ⟨x, H1, I1, r1, q1⟩ => ?_) (he _)
  obtain ⟨d, rfl, q⟩ := q1
  cases r1
  exact wpAny_truthy_bool ⟨H1, I1, q⟩
variable {tA tB' : TT} {rest : List Expr}
def tAnd (t u : TT) : TT := fun σ H Q => t σ H fun c H1 => if c = true then u σ H1 Q else Q false H1
def tOr (t u : TT) : TT := fun σ H Q => t σ H fun c H1 => if c = true then Q true H1 else u σ H1 Q
def tNot (t : TT) : TT := fun σ H Q => t σ H fun c H1 => Q (!c) H1
theorem pw_and1 (ha : PT X a tA) : PW X (.BoolOp .And [a] pos) tA := by
  intro wh pins s σ H Q I h
  refine isTrue_and (thn (ha pins s σ H Q I h) fun c s1 e => ?_)
  cases c with
  | true => exact isTrue_and_nil e
  | false => exact e
theorem pw_or1 (ha : PT X a tA) : PW X (.BoolOp .Or [a] pos) tA := by
  intro wh pins s σ H Q I h
  refine isTrue_or (thn (ha pins s σ H Q I h) fun c s1 e => ?_)
  cases c with
  | false => exact isTrue_or_nil e
  | true => exact e
theorem pw_and (ha : PT X a tA) (hb : PW X (.BoolOp .And (b :: rest) pos) tB') : PW X (.BoolOp .And (a :: b :: rest) pos) (tAnd tA tB') := by
  intro wh pins s σ H Q I h
  refine isTrue_and (thn (ha pins s σ H _ I h) fun c s1 ⟨H1, I1, q1⟩ => ?_)
  cases c with
  | true => exact hb wh pins s1 σ H1 Q I1 q1
  | false => exact ⟨H1, I1, q1⟩
theorem pw_or (ha : PT X a tA) (hb : PW X (.BoolOp .Or (b :: rest) pos) tB') : PW X (.BoolOp .Or (a :: b :: rest) pos) (tOr tA tB') := by
  intro wh pins s σ H Q I h
  refine isTrue_or (thn (ha pins s σ H _ I h) fun c s1 ⟨H1, I1, q1⟩ => ?_)
  cases c with
  | true => exact ⟨H1, I1, q1⟩
  | false => exact hb wh pins s1 σ H1 Q I1 q1
theorem pt_not (ha : PT X a tA) : PT X (.UnaryOp .Not a pos) (tNot tA) := by
  intro pins s σ H Q I h
  exact isTrue_not (ha pins s σ H (fun c H1 => Q (!c) H1) I h)
def tAndV (ta tb : TE) : TE := fun σ H Q => ta σ H fun x H1 => ∃ c, x = .bl c /\ if c = true then tb σ H1 Q else Q (.bl false) H1
def tOrV (ta tb : TE) : TE := fun σ H Q => ta σ H fun x H1 => ∃ c, x = .bl c /\ if c = true then Q (.bl true) H1 else tb σ H1 Q
def tNotV (ta : TE) : TE := fun σ H Q => ta σ H fun x H1 => ∃ c, x = .bl c /\ Q (.bl (!c)) H1
theorem pe_one {op} {t : TE} (h : PE X a t) : PE X (.BoolOp op [a] pos) t := fun pins s σ H Q I hw => BoolOp_one (h pins s σ H Q I hw)
theorem pe_and (ha : PE X a ta) (hb : PE X (.BoolOp .And (b :: rest) pos) tb) : PE X (.BoolOp .And (a :: b :: rest) pos) (tAndV ta tb) := by
  intro pins s σ H Q I h
  refine BoolOp_and (thn (ha pins s σ H _ I h) fun v s1 ⟨x, H1, I1, r1, q1⟩ => ?_)
  obtain ⟨c, rfl, q1⟩ := q1
  cases r1
  refine wpAny_truthy_bool ?_
  cases c with
  | true => exact hb pins s1 σ H1 Q I1 q1
  | false => exact ⟨.bl false, H1, I1, rfl, q1⟩
theorem pe_or (ha : PE X a ta) (hb : PE X (.BoolOp .Or (b :: rest) pos) tb) : PE X (.BoolOp .Or (a :: b :: rest) pos) (tOrV ta tb) := by
  intro pins s σ H Q I h
  refine BoolOp_or (thn (ha pins s σ H _ I h) fun v s1 ⟨x, H1, I1, r1, q1⟩ => ?_)
  obtain ⟨c, rfl, q1⟩ := q1
  cases r1
  refine wpAny_truthy_bool ?_
  cases c with
  | false => exact hb pins s1 σ H1 Q I1 q1
  | true => exact ⟨.bl true, H1, I1, rfl, q1⟩
theorem pe_not (ha : PE X a ta) : PE X (.UnaryOp .Not a pos) (tNotV ta) := by
  intro pins s σ H Q I h
  refine UnaryOp_ (thn (ha pins s σ H _ I h) fun v s1 ⟨x, H1, I1, r1, q1⟩ => ?_)
  obtain ⟨c, rfl, q1⟩ := q1
  cases r1
  exact not_of (wpAny_truthy_bool ⟨.bl (!c), H1, I1, rfl, q1⟩)
def tIf (t : TT) (ta tb : TE) : TE := fun σ H Q => t σ H fun c H1 => if c = true then ta σ H1 Q else tb σ H1 Q
theorem pe_ifExp {c : Expr} (hc : PT X c tA) (ha : PE X a ta) (hb : PE X b tb) : PE X (.IfExp c a b pos) (tIf tA ta tb) := by
  intro pins s σ H Q I h
  refine wpAny_IfExp (thn (hc pins s σ H _ I h) fun d s1 ⟨H1, I1, q1⟩ => ?_)
  cases d with
  | true => exact ha pins s1 σ H1 Q I1 q1
  | false => exact hb pins s1 σ H1 Q I1 q1
end
end L2
namespace L2
open PySem PySem.Spec PyProof.Rows
def SqL (K : PySem.W.Frag) (H : Hp) (a : Addr) (xs : List V) : Prop :=
  Rd H a (.lst xs) \/
    ∃ (o : Obj) (its : Array Value) (n : Nat), K.lookup a = some o /\ o.cls = .type "list" /\ o.dict = none /\ o.data = .seq its n /\ its.size <= sizeLine /\ Vals xs its.toList
def SqT (K : PySem.W.Frag) (H : Hp) (a : Addr) (xs : List V) : Prop :=
  Rd H a (.tup xs) \/
    ∃ (o : Obj) (its : Array Value) (n : Nat), K.lookup a = some o /\ o.cls = .type "tuple" /\ o.data = .seq its n /\ its.size <= sizeLine /\ Vals xs its.toList
def absV : Value -> Option V
  | .none => some .non
  | .bool b => some (.bl b)
  | .int i _ => some (.int i)
  | .str x _ => some (.str x)
  | .bytes b _ => some (.byt b)
  | .float b _ => some (.flt b)
  | .ref a => some (.ref a)
  | .type n => some (.ty n)
  | _ => none
theorem RelV.abs {x : V} {u : Value} (r : RelV x u) : absV u = some x := by
  cases x with
  | non => cases r; rfl
  | bl _ => cases r; rfl
  | int _ => obtain ⟨t, rfl⟩ := r; rfl
  | str _ => obtain ⟨t, rfl⟩ := r; rfl
  | byt _ => obtain ⟨t, rfl⟩ := r; rfl
  | flt _ => obtain ⟨t, rfl⟩ := r; rfl
  | ref _ => cases r; rfl
  | ty _ => cases r; rfl
theorem RelV.inj {x y : V} {u : Value} (r : RelV x u) (q : RelV y u) : x = y := Option.some.inj (r.abs.symm.trans q.abs)
theorem Vals.inj : ∀ {xs ys : List V} {us : List Value}, Vals xs us -> Vals ys us -> xs = ys
  | _, _, _, .nil, .nil => rfl
  | _, _, _, .cons r t, .cons r' t' => by rw [r.inj r', Vals.inj t t']
section
variable {X : Cx} {pins : List (Addr × Obj)} {σ : St} {H : Hp} {s : Shared} {a : Addr} {xs ys : List V}
theorem SqL.of {K : PySem.W.Frag} (h : H a = some (.lst xs)) : SqL K H a xs := .inl (.inl h)
theorem SqT.of {K : PySem.W.Frag} (h : H a = some (.tup xs)) : SqT K H a xs := .inl (.inl h)
theorem Inv.list (I : Inv X pins σ H s) (h : SqL X.K H a xs) : ∃ its : List Value, Vals xs its /\ PlainL s.heap a its.toArray /\ xs.length <= sizeLine := by
  rcases h with h | ⟨o, its, n, hk, hc, hd, hs, hz, r⟩
  . obtain ⟨z, its, n, r, e⟩ := h.ok I.hok
    exact ⟨its, r, ⟨_, n, e, rfl, rfl, rfl⟩, z⟩
  . refine ⟨its.toList, r, ⟨o, n, I.kIn a o hk, hc, hd, by simpa using hs⟩, ?_⟩
    have e := r.length
    simp only [Array.length_toList] at e
    omega
theorem Inv.tuple (I : Inv X pins σ H s) (h : SqT X.K H a xs) : ∃ its : List Value, Vals xs its /\ IsTup s.heap a its.toArray /\ xs.length <= sizeLine := by
  rcases h with h | ⟨o, its, n, hk, hc, hs, hz, r⟩
  . obtain ⟨z, its, r, p⟩ := h.ok I.hok
    exact ⟨its, r, p, z⟩
  . refine ⟨its.toList, r, ⟨o, I.kIn a o hk, hc, n, by simpa using hs⟩, ?_⟩
    have e := r.length
    simp only [Array.length_toList] at e
    omega
theorem Inv.list_inj (I : Inv X pins σ H s) (h : SqL X.K H a xs) (h' : SqL X.K H a ys) : xs = ys := by
  obtain ⟨its, r, ⟨o, n, e, _, _, d⟩, _⟩ := I.list h
  obtain ⟨its', r', ⟨o', n', e', _, _, d'⟩, _⟩ := I.list h'
  rw [e] at e'; cases e'
  rw [d] at d'
  injection d' with d1 _
  have : its = its' := by simpa using congrArg Array.toList d1
  subst this
  exact r.inj r'
theorem Inv.tuple_inj (I : Inv X pins σ H s) (h : SqT X.K H a xs) (h' : SqT X.K H a ys) : xs = ys := by
  obtain ⟨its, r, ⟨o, e, _, n, d⟩, _⟩ := I.tuple h
  obtain ⟨its', r', ⟨o', e', _, n', d'⟩, _⟩ := I.tuple h'
  rw [e] at e'; cases e'
  rw [d] at d'
  injection d' with d1 _
  have : its = its' := by simpa using congrArg Array.toList d1
  subst this
  exact r.inj r'
end
abbrev Cx.wish (X : Cx) (E : Value -> Shared -> Prop) : Cx := { X with xe := E }
abbrev Cx.nox (X : Cx) : Cx := X.wish fun _ _ => False
theorem Cx.Ok.wish {X : Cx} (ok : X.Ok) (E : Value -> Shared -> Prop) : (X.wish E).Ok :=
  ⟨ok.mod, ok.kind, ok.glob, ok.blt, ok.above, ok.inj, ok.has, ok.cab, ok.hd, ok.frames, ok.stk, ok.exf, ok.bs, ok.bsz, ok.noex, ok.exfs, ok.funs, ok.frf⟩
theorem Cx.Ok.unwish {X : Cx} {E : Value -> Shared -> Prop} (ok : (X.wish E).Ok) : X.Ok :=
  ⟨ok.mod, ok.kind, ok.glob, ok.blt, ok.above, ok.inj, ok.has, ok.cab, ok.hd, ok.frames, ok.stk, ok.exf, ok.bs, ok.bsz, ok.noex, ok.exfs, ok.funs, ok.frf⟩
section
variable {X : Cx} {pins : List (Addr × Obj)} {σ : St} {H : Hp} {s : Shared} {E : Value -> Shared -> Prop}
theorem Inv.wish (I : Inv X pins σ H s) (E : Value -> Shared -> Prop) : Inv (X.wish E) pins σ H s := ⟨I.ok.wish E, I.os, I.bare, I.base, I.loc, I.cell, I.free, I.freeC, I.pin, I.hok, I.len⟩
theorem Inv.unwish (I : Inv (X.wish E) pins σ H s) : Inv X pins σ H s := ⟨I.ok.unwish, I.os, I.bare, I.base, I.loc, I.cell, I.free, I.freeC, I.pin, I.hok, I.len⟩
theorem SP.unwish {D : Ends} {f : Flow} {s' : Shared} (h : SP (X.wish E) pins D f s') : SP X pins D f s' := by
  cases f with
  | next => obtain ⟨σ', H', I, q⟩ := h; exact ⟨σ', H', I.unwish, q⟩
  | brk => obtain ⟨σ', H', I, q⟩ := h; exact ⟨σ', H', I.unwish, q⟩
  | cont => obtain ⟨σ', H', I, q⟩ := h; exact ⟨σ', H', I.unwish, q⟩
  | ret u => obtain ⟨v, σ', H', I, r, q⟩ := h; exact ⟨v, σ', H', I.unwish, r, q⟩
theorem PSs.nox {st : List Stmt} {t : TS} (h : PSs X.nox st t) : PSs X st t := fun pins s σ H D I hw =>
  wpAny_mono (h pins s σ H D (I.wish _) hw) (fun _ _ q => q.unwish) fun _ _ z => False.elim z
end
section
variable {X : Cx} {st : Stmt} {rest : List Stmt} {t u : TS} {e : Expr} {te : TE} {pos : Pos}
def tNext : TS := fun D σ H => D.nx σ H
def tSeq (t u : TS) : TS := fun D σ H => t { D with nx := u D } σ H
theorem pss_nil : PSs X [] tNext := fun _ _ σ H _ I h => wpAny_execs_nil ⟨σ, H, I, h⟩
theorem pss_cons (h1 : PS X st t) (h2 : PSs X rest u) : PSs X (st :: rest) (tSeq t u) := by
  intro pins s σ H D I h
  refine wpAny_execs_cons (thn (h1 pins s σ H { D with nx := u D } I h) fun f s1 q => ?_)
  cases f with
  | next =>
    obtain ⟨σ', H', I', q⟩ := q
    exact h2 pins s1 σ' H' D I' q
  | ret v => exact q
  | brk => exact q
  | cont => exact q
theorem pss_one (h1 : PS X st t) : PSs X [st] t := by
  intro pins s σ H D I h
  refine wpAny_execs_cons (thn (h1 pins s σ H D I h) fun f s1 q => ?_)
  cases f with
  | next => exact wpAny_execs_nil q
  | ret v => exact q
  | brk => exact q
  | cont => exact q
def tBreak : TS := fun D σ H => D.bk σ H
def tCont : TS := fun D σ H => D.ct σ H
theorem ps_pass : PS X (.Pass pos) tNext := fun _ _ σ H _ I h => wpAny_Pass ⟨σ, H, I, h⟩
theorem ps_break : PS X (.Break pos) tBreak := fun _ _ σ H _ I h => wpAny_Break ⟨σ, H, I, h⟩
theorem ps_continue : PS X (.Continue pos) tCont := fun _ _ σ H _ I h => wpAny_Continue ⟨σ, H, I, h⟩
theorem Inv.quiet {pins : List (Addr × Obj)} {σ : St} {H : Hp} {s : Shared} (I : Inv X pins σ H s) : interactive X.env = false := by simp [interactive, I.ok.kind]
def tDrop (te : TE) : TS := fun D σ H => te σ H fun _ H1 => D.nx σ H1
theorem ps_expr (he : PE X e te) (hs : swapsWith e none pos.line X.env = pure false := by rfl) : PS X (.Expr e pos) (tDrop te) := by
  intro pins s σ H D I h
  exact wpAny_Expr_any (thn (he pins s σ H _ I h) fun v s1 ⟨x, H1, I1, r1, q1⟩ => ⟨σ, H1, I1, q1⟩) I.quiet hs
def tRet (te : TE) : TS := fun D σ H => te σ H D.rt
theorem ps_ret (he : PE X e te) : PS X (.Return (some e) pos) (tRet te) := by
  intro pins s σ H D I h
  exact wpAny_Return_some (thn (he pins s σ H _ I h) fun v s1 ⟨x, H1, I1, r1, q1⟩ => ⟨x, σ, H1, I1, r1, q1⟩)
def tRetN : TS := fun D _ H => D.rt .non H
theorem ps_retN : PS X (.Return none pos) tRetN := fun _ _ σ H _ I h => wpAny_Return_none ⟨.non, σ, H, I, rfl, h⟩
def tIfS (c : TT) (t u : TS) : TS := fun D σ H => c σ H fun b H1 => if b = true then t D σ H1 else u D σ H1
theorem ps_if {c : Expr} {a b : List Stmt} {tc : TT} (hc : PT X c tc) (ha : PSs X a t) (hb : PSs X b u) : PS X (.If c a b pos) (tIfS tc t u) := by
  intro pins s σ H D I h
  refine wpAny_If (thn (hc pins s σ H _ I h) fun d s1 ⟨H1, I1, q1⟩ => ?_)
  cases d with
  | true => exact ha pins s1 σ H1 D I1 q1
  | false => exact hb pins s1 σ H1 D I1 q1
def tNever : TS := fun _ _ _ => False
theorem ps_never : PS X st tNever := fun _ _ _ _ _ _ h => h.elim
end
abbrev TG := V -> St -> Hp -> (St -> Hp -> Prop) -> Prop
abbrev TGs := List V -> St -> Hp -> (St -> Hp -> Prop) -> Prop
def PG (X : Cx) (target : Expr) (t : TG) : Prop :=
  ∀ (pins : List (Addr × Obj)) (s : Shared) (σ : St) (H : Hp) (v : V) (u : Value) (Q : St -> Hp -> Prop), Inv X pins σ H s -> RelV v u -> t v σ H Q ->
    wpAny (model X.prog X.w) X.A (assign target X.env u) (fun _ s' => ∃ σ' H', Inv X pins σ' H' s' /\ Q σ' H') X.xe s
def PGs (X : Cx) (ts : List Expr) (t : TGs) : Prop :=
  ∀ (pins : List (Addr × Obj)) (s : Shared) (σ : St) (H : Hp) (vs : List V) (us : List Value) (Q : St -> Hp -> Prop), Inv X pins σ H s -> Vals vs us -> t vs σ H Q ->
    wpAny (model X.prog X.w) X.A (assignInOrder ((assignEach ts X.env).map (·.2)) us) (fun _ s' => ∃ σ' H', Inv X pins σ' H' s' /\ Q σ' H') X.xe s
abbrev TSet := V -> V -> V -> Hp -> (Hp -> Prop) -> Prop
def PSet (X : Cx) (t : TSet) : Prop :=
  ∀ (pins : List (Addr × Obj)) (s : Shared) (σ : St) (H : Hp) (o i v : V) (ov iv u : Value) (Q : Hp -> Prop), Inv X pins σ H s -> RelV o ov -> RelV i iv -> RelV v u -> t o i v H Q ->
    wpAny (model X.prog X.w) X.A (setItem ov iv u) (fun _ s' => ∃ H', Inv X pins σ H' s' /\ Q H') X.xe s
abbrev TIp := V -> V -> Hp -> VK -> Prop
def PIp (X : Cx) (op : Operator) (t : TIp) : Prop :=
  ∀ (pins : List (Addr × Obj)) (s : Shared) (σ : St) (H : Hp) (x y : V) (v u : Value) (Q : VK), Inv X pins σ H s -> RelV x v -> RelV y u -> t x y H Q ->
    wpAny (model X.prog X.w) X.A (inplaceOp op v u) (EP X pins σ Q) X.xe s
section
variable {X : Cx} {pos : Pos}
def gName (i : Nat) : TG := fun v σ H Q => Q (σ.set i (some v)) H
theorem pg_name {i : Nat} {x : Str} (hN : X.N.Nodup) (hi : X.N[i]? = some x) (hx : Loc X.env.scope x) (hf : X.fn x = true \/ X.env.scope.names.lookup x = some .local := by first | exact .inl rfl | exact .inr rfl | assumption) : PG X (.Name x pos) (gName i) := by
  intro pins s σ H v u Q I r h
  exact wpAny_assign_Name (store_ok I hN hi hx r (fun s' I' => ⟨_, H, I', h⟩) hf)
def gNil : TGs := fun vs σ H Q => vs = [] /\ Q σ H
def gCons (t : TG) (u : TGs) : TGs := fun vs σ H Q => ∃ v r, vs = v :: r /\ t v σ H fun σ' H' => u r σ' H' Q
theorem pgs_nil : PGs X [] gNil := by
  intro pins s σ H vs us Q I r h
  obtain ⟨e, h⟩ := h
  subst e
  cases r
  exact assignInOrder_nil ⟨σ, H, I, h⟩
theorem pgs_cons {e : Expr} {es : List Expr} {t : TG} {u : TGs} (h1 : PG X e t) (h2 : PGs X es u)
    (hs : (assignEach (e :: es) X.env).map (·.2) = assign e X.env :: (assignEach es X.env).map (·.2) := by rfl) : PGs X (e :: es) (gCons t u) := by
  intro pins s σ H vs us Q I r h
  obtain ⟨v, vr, e1, h⟩ := h
  subst e1
  cases r with
  | cons r rr =>
    rw [hs]
    refine assignInOrder_cons (thn (h1 pins s σ H _ _ _ I r h) fun _ s1 ⟨σ1, H1, I1, q1⟩ => ?_)
    exact h2 pins s1 σ1 H1 _ _ Q I1 rr q1
def gTup (K : PySem.W.Frag) (n : Nat) (t : TGs) : TG := fun v σ H Q => ∃ a xs, v = .ref a /\ SqT K H a xs /\ xs.length = n /\ t xs σ H Q
theorem pg_tup {es : List Expr} {k : Nat} {t : TGs} {n : Nat} (hc : X.calm = true) (h : PGs X es t)
    (hn : (assignEach es X.env).length = n := by rfl) (hst : (assignEach es X.env).findIdx? (·.1) = none := by rfl) : PG X (.Tuple es k pos) (gTup X.K n t) := by
  intro pins s σ H v u Q I r hw
  obtain ⟨a, xs, e1, hq, hl, hw⟩ := hw
  subst e1
  cases r
  obtain ⟨its, rv, ht, hz⟩ := I.tuple hq
  refine assign_Tuple_tuple (I.ok.hd hc) ht (by simp [hn, <- hl, rv.length]) hst fun h' hx => ?_
  have I1 : Inv X pins σ H { s with heap := h' } := I.kept (t' := s.toks) fun b o e => hx b o (Nat.ne_of_lt (Heap.lt_size e)) e
  exact h pins _ σ H xs _ Q I1 (by simpa using rv) hw
def gSub (to ti : TE) (t : TSet) : TG := fun v σ H Q => to σ H fun o H1 => ti σ H1 fun i H2 => t o i v H2 fun H3 => Q σ H3
theorem pg_sub {o i : Expr} {to ti : TE} {t : TSet} (ho : PE X o to) (hi : PE X i ti) (hs : PSet X t)
    (ha : ∀ v, assign (.Subscript o i pos) X.env v = (do
      let ov <- holding [v] (eval o X.env)
      let iv <- holding [v, ov] (eval i X.env)
      standAt pos
      holding [v, ov, iv] (setItem ov iv v)
      release [v, ov, iv] []) := by intro _; rfl) : PG X (.Subscript o i pos) (gSub to ti t) := by
  intro pins s σ H v u Q I r h
  rw [ha]
  refine wpAny_bind (wpAny_holding (thn (ho pins s σ H _ I h) fun ov s1 ⟨x, H1, I1, r1, q1⟩ => ?_))
  refine wpAny_bind (wpAny_holding (thn (hi pins s1 σ H1 _ I1 q1) fun iv s2 ⟨y, H2, I2, r2, q2⟩ => ?_))
  refine wpAny_bind (wpAny_standAt (wpAny_bind (wpAny_holding (thn (hs pins s2 σ H2 x y v ov iv u _ I2 r1 r2 r q2) fun _ s3 ⟨H3, I3, q3⟩ => ?_))))
  exact wpAny_release ⟨σ, H3, I3, q3⟩
def tAsg (te : TE) (g : TG) : TS := fun D σ H => te σ H fun x H1 => g x σ H1 D.nx
theorem ps_asg {tg e : Expr} {te : TE} {g : TG} (he : PE X e te) (hg : PG X tg g) (hs : swapsWithSole [tg] e pos.line X.env = pure false := by rfl) (hw : swappedStores [tg] e X.env = pure none := by rfl)
    (h1 : (assignEach [tg] X.env).map (·.2) = [assign tg X.env] := by rfl) : PS X (.Assign [tg] e pos) (tAsg te g) := by
  intro pins s σ H D I h
  refine wpAny_Assign_stores (thn (he pins s σ H _ I h) fun v s1 ⟨x, H1, I1, r1, q1⟩ => ?_) hs hw
  rw [h1]
  exact thn (hg pins s1 σ H1 x v _ I1 r1 q1) fun _ s2 q => q
theorem ps_set {i : Nat} {x : Str} {e : Expr} {te : TE} {pos' : Pos} (hN : X.N.Nodup) (hi : X.N[i]? = some x) (hx : Loc X.env.scope x) (he : PE X e te) (hs : swapsWith e (some (.Name x pos')) pos.line X.env = pure false := by rfl) (hf : X.fn x = true \/ X.env.scope.names.lookup x = some .local := by first | exact .inl rfl | exact .inr rfl | assumption) :
    PS X (.Assign [.Name x pos'] e pos) (tAsg te (gName i)) := by
  intro pins s σ H D I h
  refine wpAny_Assign_Name (thn (he pins s σ H _ I h) fun v s1 ⟨y, H1, I1, r1, q1⟩ => ?_) hs
  exact store_ok I1 hN hi hx r1 (fun s2 I2 => ⟨_, H1, I2, q1⟩) hf
def tAug (i : Nat) (te : TE) (ti : TIp) : TS := fun D σ H => ∃ x, σ[i]? = some (some x) /\ te σ H fun y H1 => ti x y H1 fun z H2 => D.nx (σ.set i (some z)) H2
theorem ps_aug {i : Nat} {x : Str} {e : Expr} {te : TE} {op : Operator} {ti : TIp} {pos' : Pos} (hN : X.N.Nodup) (hi : X.N[i]? = some x) (hx : Loc X.env.scope x) (he : PE X e te) (ho : PIp X op ti) (hf : X.fn x = true \/ X.env.scope.names.lookup x = some .local := by first | exact .inl rfl | exact .inr rfl | assumption) :
    PS X (.AugAssign (.Name x pos') op e pos) (tAug i te ti) := by
  intro pins s σ H D I h
  obtain ⟨v, e1, h⟩ := h
  obtain ⟨m, hn, hl⟩ := I.loc
  have vis : Vis X.env.scope x := by rcases hx with k | k; exact .inl k; exact .inr (.inl k)
  obtain ⟨u, r, l⟩ := hl i x v hi e1 vis
  refine wpAny_AugAssign_Name ?_
  have go : wpAny (model X.prog X.w) X.A (eval e X.env) (fun w s₂ => wpAny (model X.prog X.w) X.A (inplaceOp op u w) (fun r s₃ => wpAny (model X.prog X.w) X.A (storeName X.env x r) (fun _ => SP X pins D .next) X.xe s₃) X.xe s₂) X.xe s := by
    refine thn (he pins s σ H _ I h) fun w s1 ⟨y, H1, I1, r1, q1⟩ => ?_
    refine thn (ho pins s1 σ H1 v y u w _ I1 r r1 q1) fun z s2 ⟨zv, H2, I2, r2, q2⟩ => ?_
    exact store_ok I2 hN hi hx r2 (fun s3 I3 => ⟨_, H2, I3, q2⟩) hf
  rcases l with ⟨hk, hm⟩ | ⟨hk, c, hc, hcell⟩
  . exact wpAny_loadName_local I.ok.kind hk hn hm go
  . rcases hk with hk | hk
    . exact wpAny_loadName_cell I.ok.kind hk hc hcell go
    . rcases hx with k | k
      . have : X.env.scope.names.lookup x = some .free := hk
        rw [k] at this; cases this
      . have : X.env.scope.names.lookup x = some .free := hk
        rw [k] at this; cases this
def tAugS (to ti te : TE) (tget : V -> V -> Hp -> VK -> Prop) (tip : TIp) (tset : TSet) : TS := fun D σ H => to σ H fun o H1 => ti σ H1 fun i H2 => tget o i H2 fun x H3 => te σ H3 fun y H4 => tip x y H4 fun z H5 => tset o i z H5 fun H6 => D.nx σ H6
def PGet (X : Cx) (t : V -> V -> Hp -> VK -> Prop) : Prop :=
  ∀ (pins : List (Addr × Obj)) (s : Shared) (σ : St) (H : Hp) (o i : V) (ov iv : Value) (Q : VK), Inv X pins σ H s -> RelV o ov -> RelV i iv -> t o i H Q ->
    wpAny (model X.prog X.w) X.A (getItem ov iv) (EP X pins σ Q) X.xe s
theorem ps_augS {o i e : Expr} {to ti te : TE} {tget : V -> V -> Hp -> VK -> Prop} {tip : TIp} {tset : TSet} {op : Operator} {tpos : Pos} (ho : PE X o to) (hi : PE X i ti) (hg : PGet X tget) (he : PE X e te) (hp : PIp X op tip) (hs : PSet X tset)
    (ha : ∀ ov iv new, augStore i ov iv new = (do holding [new, ov, iv] (setItem ov iv new); release [new, ov, iv] []; pure .next) := by intros; rfl) : PS X (.AugAssign (.Subscript o i tpos) op e pos) (tAugS to ti te tget tip tset) := by
  intro pins s σ H D I h
  refine wpAny_AugAssign_SubscriptAny (thn (ho pins s σ H _ I h) fun ov s1 ⟨x1, H1, I1, r1, q1⟩ => ?_) ha
  refine thn (hi pins s1 σ H1 _ I1 q1) fun iv s2 ⟨x2, H2, I2, r2, q2⟩ => ?_
  refine thn (hg pins s2 σ H2 x1 x2 ov iv _ I2 r1 r2 q2) fun old s3 ⟨x3, H3, I3, r3, q3⟩ => ?_
  refine thn (he pins s3 σ H3 _ I3 q3) fun v s4 ⟨x4, H4, I4, r4, q4⟩ => ?_
  refine thn (hp pins s4 σ H4 x3 x4 old v _ I4 r3 r4 q4) fun new s5 ⟨x5, H5, I5, r5, q5⟩ => ?_
  exact thn (hs pins s5 σ H5 x1 x2 x5 ov iv new _ I5 r1 r2 r5 q5) fun _ s6 ⟨H6, I6, q6⟩ => ⟨σ, H6, I6, q6⟩
def ipI (f : Int -> Int -> Int) : TIp := fun x y H Q => ∃ i j, x = .int i /\ y = .int j /\ Q (.int (f i j)) H
theorem ip_add : PIp X .Add (ipI fun i j => i + j) := by
  intro pins s σ H x y v u Q I r1 r2 h
  obtain ⟨i, j, e1, e2, q⟩ := h
  subst e1; subst e2
  obtain ⟨t, rfl⟩ := r1
  obtain ⟨t', rfl⟩ := r2
  exact iadd_int ⟨.int _, H, I.tok _, ⟨_, rfl⟩, q⟩
theorem ip_sub : PIp X .Sub (ipI fun i j => i - j) := by
  intro pins s σ H x y v u Q I r1 r2 h
  obtain ⟨i, j, e1, e2, q⟩ := h
  subst e1; subst e2
  obtain ⟨t, rfl⟩ := r1
  obtain ⟨t', rfl⟩ := r2
  exact isub_int ⟨.int _, H, I.tok _, ⟨_, rfl⟩, q⟩
end
section
variable {X : Cx} {pos : Pos}
def tWhile (c : TT) (tb : TS) : TS := fun D σ H => ∃ W : Nat -> St -> Hp -> Prop, (∃ m, W m σ H) /\ ∀ m σ H, W m σ H ->
  c σ H fun b H1 => if b = true then ∃ N : St -> Hp -> Prop, (∀ σ' H', N σ' H' -> ∃ m', m' < m /\ W m' σ' H') /\ tb { D with nx := N, ct := N, bk := D.nx } σ H1 else D.nx σ H1
theorem ps_while {c : Expr} {body : List Stmt} {tc : TT} {tb : TS} (hp : PassesOwn (model X.prog X.w) X.A X.env X.xe) (hc : PT X c tc) (hb : PSs X body tb) : PS X (.While c body [] pos) (tWhile tc tb) := by
  intro pins s σ H D I h
  obtain ⟨W, ⟨m0, w0⟩, turn⟩ := h
  refine wpAny_While (codeAny_whileLoop (fun n s' => ∃ σ' H', Inv X pins σ' H' s' /\ W n σ' H') ?_ m0 ⟨σ, H, I, w0⟩)
  rintro n s1 ⟨σ1, H1, I1, w1⟩
  refine wpAny_passesOwn hp (thn (hc pins s1 σ1 H1 _ I1 (turn n σ1 H1 w1)) fun b s2 ⟨H2, I2, q2⟩ => ?_)
  cases b with
  | true =>
    obtain ⟨N, hN, q2⟩ := q2
    rw [if_pos rfl]
    refine wpAny_passesOwn hp (thn (hb pins s2 σ1 H2 _ I2 q2) fun f s3 q3 => ?_)
    cases f with
    | next =>
      obtain ⟨σ3, H3, I3, n3⟩ := q3
      obtain ⟨m', hm, w3⟩ := hN σ3 H3 n3
      exact ⟨m', hm, σ3, H3, I3, w3⟩
    | cont =>
      obtain ⟨σ3, H3, I3, n3⟩ := q3
      obtain ⟨m', hm, w3⟩ := hN σ3 H3 n3
      exact ⟨m', hm, σ3, H3, I3, w3⟩
    | brk => exact q3
    | ret v => exact q3
  | false =>
    rw [if_neg Bool.false_ne_true]
    exact wpAny_execs_nil ⟨σ1, H2, I2, q2⟩
end
structure It where
  go : Nat -> Hp -> Prop
  yld : Nat -> Hp -> V -> Hp -> Prop
  stop : Nat -> Hp -> Prop
def FpOk (X : Cx) (pins : List (Addr × Obj)) (H : Hp) (b : Addr) : Prop :=
  H b = none /\ b ≠ X.env.locals /\ b ∉ X.fs /\ (b ∈ X.ex \/ X.s₀.heap.objs.size <= b) /\ (∀ x c, X.env.cells.lookup x = some c -> c ≠ b) /\ ∀ p ∈ X.pn ++ pins, p.1 ≠ b
theorem Inv.fpOk {X : Cx} {pins : List (Addr × Obj)} {σ : St} {H H' : Hp} {s : Shared} {b : Addr} (I : Inv X pins σ H s) (hb : s.heap.objs.size <= b) (hn : H' b = none) : FpOk X pins H' b := by
  refine ⟨hn, Nat.ne_of_gt (Nat.lt_of_lt_of_le I.lt hb), I.nofs hb, .inr (Nat.le_trans I.sz hb), fun x c e z => ?_, fun p hp z => ?_⟩
  . obtain ⟨v, q⟩ := I.cell x c e
    exact absurd (Nat.lt_of_lt_of_le q.lt (by rw [z]; exact hb)) (Nat.lt_irrefl _)
  . exact absurd (Nat.lt_of_lt_of_le (Heap.lt_size (I.pin p hp).1) (by rw [z]; exact hb)) (Nat.lt_irrefl _)
structure Turn (P : Program) (w : World) (K : PySem.W.Frag) (tg : Expr) (J : It) (fp : List Addr) (it : Addr) (tn : Nat -> Heap -> Prop) : Prop where
  mem : it ∈ fp
  obj : ∀ i h, tn i h -> ∀ b ∈ fp, ∃ o, h.get? b = some o /\ ∀ v, o.data ≠ .cell v
  keep : ∀ i h h', tn i h -> (∀ b ∈ fp, ∀ o, h.get? b = some o -> h'.get? b = some o) -> tn i h'
  item : ∀ (X : Cx), X.prog = P -> X.w = w -> X.K = K -> X.calm = true -> ∀ (i : Nat) (pins : List (Addr × Obj)) (s : Shared) (σ : St) (H : Hp) (E : Value -> Shared -> Prop), Inv X pins σ H s -> (∀ b ∈ fp, FpOk X pins H b) -> tn i s.heap -> J.go i H ->
    wpAny (model P w) X.A (pyNext (.ref it)) (fun r s1 => ∃ u, r = some u /\
      wpAny (model P w) X.A (letOwnedTupleGo tg (.ref it) u) (fun _ s2 => ∃ x H', Inv X pins σ H' s2 /\ RelV x u /\ J.yld i H x H' /\ tn (i + 1) s2.heap /\ ∀ b ∈ fp, H' b = none) E s1) E s
  done : ∀ (X : Cx), X.prog = P -> X.w = w -> X.K = K -> X.calm = true -> ∀ (i : Nat) (pins : List (Addr × Obj)) (s : Shared) (σ : St) (H : Hp) (E : Value -> Shared -> Prop), Inv X pins σ H s -> (∀ b ∈ fp, FpOk X pins H b) -> tn i s.heap -> J.stop i H ->
    wpAny (model P w) X.A (pyNext (.ref it)) (fun r s1 => r = none /\ Inv X pins σ H s1) E s
  self : ∀ (A : Around) (i : Nat) (s : Shared) (Q : Value -> Shared -> Prop) (E : Value -> Shared -> Prop), tn i s.heap -> Q (.ref it) s -> wpAny (model P w) A (pyIter (.ref it)) Q E s
abbrev TI := St -> Hp -> (It -> Hp -> Prop) -> Prop
def PIE (X : Cx) (pins : List (Addr × Obj)) (σ : St) (tg : Expr) (R : It -> Hp -> Prop) (itv : Value) (s2 : Shared) : Prop :=
  ∃ (it : Addr) (fp : List Addr) (tn : Nat -> Heap -> Prop) (J : It) (H' : Hp), itv = .ref it /\ Inv X pins σ H' s2 /\ Turn X.prog X.w X.K tg J fp it tn /\ tn 0 s2.heap /\ (∀ b ∈ fp, FpOk X pins H' b) /\ R J H'
def PI (X : Cx) (tg iter : Expr) (wi : TI) : Prop :=
  ∀ (pins : List (Addr × Obj)) (s : Shared) (σ : St) (H : Hp) (R : It -> Hp -> Prop), Inv X pins σ H s -> wi σ H R ->
    wpAny (model X.prog X.w) X.A (eval iter X.env) (fun v s1 => wpAny (model X.prog X.w) X.A (pyIter v) (PIE X pins σ tg R) X.xe s1) X.xe s
theorem go_of {M : Model} {A : Around} {E : Value -> Shared -> Prop} {s : Shared} {tg : Expr} {it : Addr} {u : Value} {o : Obj} {n : String} {vs : Array Value} {Q : Unit -> Shared -> Prop} (ho : s.heap.get? it = some o) (hc : o.cls = .type n) (hd : o.data = .fields vs)
    (hn : ["enumerate", "zip", "dict_itemiterator", "dict_reverseitemiterator", "odict_iterator", "itertools.zip_longest", "itertools.pairwise"].contains n = false) (hQ : Q () s) : wpAny M A (letOwnedTupleGo tg (.ref it) u) Q E s := by
  unfold letOwnedTupleGo
  cases tg <;> first
    | exact wpAny_pure hQ
    | (cases u <;> first
        | exact wpAny_pure hQ
        | (refine wpAny_bind (wpAny_load ho ?_)
           rw [hc, hd]
           show wpAny M A (if (["enumerate", "zip", "dict_itemiterator", "dict_reverseitemiterator", "odict_iterator", "itertools.zip_longest", "itertools.pairwise"].contains n && vs[0]? == some (rawInt _)) = true then _ else _) Q E s
           rw [if_neg (by intro h; rw [hn, Bool.false_and] at h; cases h)]
           exact wpAny_pure hQ))
def Itl (K : PySem.W.Frag) (a : Addr) : It :=
  ⟨fun i H => ∃ xs x, SqL K H a xs /\ xs[i]? = some x, fun i H x H' => H' = H /\ ∀ xs, SqL K H a xs -> xs[i]? = some x, fun i H => ∃ xs, SqL K H a xs /\ xs.length <= i⟩
def Itt (K : PySem.W.Frag) (a : Addr) : It :=
  ⟨fun i H => ∃ xs x, SqT K H a xs /\ xs[i]? = some x, fun i H x H' => H' = H /\ ∀ xs, SqT K H a xs -> xs[i]? = some x, fun i H => ∃ xs, SqT K H a xs /\ xs.length <= i⟩
def Itr (lo : Int) (n : Nat) : It := ⟨fun i _ => i < n, fun i H x H' => H' = H /\ x = .int (lo + i), fun i _ => n <= i⟩
theorem turn_list {P : Program} {w : World} {K : PySem.W.Frag} {tg : Expr} (a it : Addr) : Turn P w K tg (Itl K a) [it] it (fun i h => h.IsListIter it a i) where
  mem := by simp
  obj := fun i h st b hb => by
    have e : b = it := by simpa using hb
    subst e
    obtain ⟨o, e, c, d⟩ := st
    exact ⟨o, e, fun v z => by rw [d] at z; cases z⟩
  keep := fun i h h' st k => st.at fun o e => k it (by simp) o e
  item := by
    intro X hP hw hK hc i pins s σ H E I hf st hg
    subst hP hw hK
    obtain ⟨xs, x, hq, hx⟩ := hg
    obtain ⟨its, rv, p, hz⟩ := I.list hq
    obtain ⟨u, hu, ru⟩ := rv.get hx
    obtain ⟨f0, f1, f2, f3, f4, f5⟩ := hf it (by simp)
    refine wpAny_pyNext_list_item st p.isList (x := u) (by simpa using hu) fun h' st' sb => ?_
    have I1 : Inv X pins σ H { s with heap := h' } := I.turned (t' := s.toks) (fun b o hb e => (sb.2 b hb).trans e) f0 f1 f3 f4 f5
    obtain ⟨o, e, c, d⟩ := id st'
    exact ⟨u, rfl, go_of (s := { s with heap := h' }) e c d (by decide) ⟨x, H, I1, ru, ⟨rfl, fun ys hy => by rw [I.list_inj hy hq]; exact hx⟩, st', fun b hb => (hf b hb).1⟩⟩
  done := by
    intro X hP hw hK hc i pins s σ H E I hf st hg
    subst hP hw hK
    obtain ⟨xs, hq, hx⟩ := hg
    obtain ⟨its, rv, p, hz⟩ := I.list hq
    obtain ⟨f0, f1, f2, f3, f4, f5⟩ := hf it (by simp)
    have hl := rv.length
    exact wpAny_pyNext_list_end (I.ok.hd hc) st p.isList (by simp; omega) fun h' eb => ⟨rfl, I.turned (t' := s.toks) (fun b o hb e => eb b o hb e) f0 f1 f3 f4 f5⟩
  self := fun _ _ _ _ _ st h => wpAny_pyIter_listiter st h
theorem turn_tuple {P : Program} {w : World} {K : PySem.W.Frag} {tg : Expr} (a it : Addr) : Turn P w K tg (Itt K a) [it] it (fun i h => h.IsTupleIter it a i) where
  mem := by simp
  obj := fun i h st b hb => by
    have e : b = it := by simpa using hb
    subst e
    obtain ⟨o, e, c, d⟩ := st
    exact ⟨o, e, fun v z => by rw [d] at z; cases z⟩
  keep := fun i h h' st k => st.at fun o e => k it (by simp) o e
  item := by
    intro X hP hw hK hc i pins s σ H E I hf st hg
    subst hP hw hK
    obtain ⟨xs, x, hq, hx⟩ := hg
    obtain ⟨its, rv, p, hz⟩ := I.tuple hq
    obtain ⟨u, hu, ru⟩ := rv.get hx
    obtain ⟨f0, f1, f2, f3, f4, f5⟩ := hf it (by simp)
    refine wpAny_pyNext_tuple_item st (show s.heap.IsTuple a its.toArray from p) (x := u) (by simpa using hu) fun h' st' sb => ?_
    have I1 : Inv X pins σ H { s with heap := h' } := I.turned (t' := s.toks) (fun b o hb e => (sb.2 b hb).trans e) f0 f1 f3 f4 f5
    obtain ⟨o, e, c, d⟩ := id st'
    exact ⟨u, rfl, go_of (s := { s with heap := h' }) e c d (by decide) ⟨x, H, I1, ru, ⟨rfl, fun ys hy => by rw [I.tuple_inj hy hq]; exact hx⟩, st', fun b hb => (hf b hb).1⟩⟩
  done := by
    intro X hP hw hK hc i pins s σ H E I hf st hg
    subst hP hw hK
    obtain ⟨xs, hq, hx⟩ := hg
    obtain ⟨its, rv, p, hz⟩ := I.tuple hq
    obtain ⟨f0, f1, f2, f3, f4, f5⟩ := hf it (by simp)
    have hl := rv.length
    exact wpAny_pyNext_tuple_end (I.ok.hd hc) st (show s.heap.IsTuple a its.toArray from p) (by simp; omega) fun h' eb => ⟨rfl, I.turned (t' := s.toks) (fun b o hb e => eb b o hb e) f0 f1 f3 f4 f5⟩
  self := fun _ _ _ _ _ st h => wpAny_pyIter_tupleiter st h
theorem turn_range {P : Program} {w : World} {K : PySem.W.Frag} {tg : Expr} (it : Addr) (lo : Int) (n : Nat) : Turn P w K tg (Itr lo n) [it] it (fun i h => IsRangeIter h it (lo + (i : Nat) * 1) ((n : Int) - (i : Nat)) 1) where
  mem := by simp
  obj := fun i h st b hb => by
    have e : b = it := by simpa using hb
    subst e
    exact ⟨_, st, fun v z => by
      have z' : Data.fields _ = Data.cell v := z
      cases z'⟩
  keep := fun i h h' st k => k it (by simp) _ st
  item := by
    intro X hP hw hK hc i pins s σ H E I hf st hg
    subst hP hw hK
    obtain ⟨f0, f1, f2, f3, f4, f5⟩ := hf it (by simp)
    have W := Walks.range (prog := X.prog) (w := X.w) (I.ok.hd hc) it lo 1 n
    refine W.item i s _ _ hg st fun v h' tk hv st' kk => ?_
    obtain ⟨t, rfl⟩ := hv
    have I1 : Inv X pins σ H { s with heap := h', toks := tk } := I.turned (fun b o hb e => kk b o (by simpa using hb) e) f0 f1 f3 f4 f5
    refine ⟨_, rfl, go_of (s := { s with heap := h', toks := tk }) (n := "range_iterator") st' rfl rfl (by decide) ⟨.int (lo + i), H, I1, ⟨t, ?_⟩, ⟨rfl, rfl⟩, st', fun b hb => (hf b hb).1⟩⟩
    rw [Int.mul_one]
  done := by
    intro X hP hw hK hc i pins s σ H E I hf st hg
    subst hP hw hK
    obtain ⟨f0, f1, f2, f3, f4, f5⟩ := hf it (by simp)
    exact wpAny_pyNext_range_end (I.ok.hd hc) st (by have : n <= i := hg; omega) fun h' eb => ⟨rfl, I.turned (t' := s.toks) (fun b o hb e => eb b o hb e) f0 f1 f3 f4 f5⟩
  self := fun _ _ _ _ _ st h => wpAny_pyIter_rangeiter st h
end L2
namespace L2
open PySem PySem.Spec PyProof.Rows
section
variable {X : Cx} {tg : Expr}
def iList (K : PySem.W.Frag) (tl : TE) : TI := fun σ H R => tl σ H fun x H1 => ∃ a, x = .ref a /\ (∃ xs, SqL K H1 a xs) /\ R (Itl K a) H1
def iTup (K : PySem.W.Frag) (tl : TE) : TI := fun σ H R => tl σ H fun x H1 => ∃ a, x = .ref a /\ (∃ xs, SqT K H1 a xs) /\ R (Itt K a) H1
theorem pi_list {l : Expr} {tl : TE} (hl : PE X l tl) : PI X tg l (iList X.K tl) := by
  intro pins s σ H R I h
  refine thn (hl pins s σ H _ I h) fun v s1 ⟨x, H1, I1, r1, q1⟩ => ?_
  obtain ⟨a, e, ⟨xs, hq⟩, q⟩ := q1
  subst e
  cases r1
  obtain ⟨its, rv, p, hz⟩ := I1.list hq
  refine wpAny_pyIter_list p.isList ?_
  refine ⟨s1.heap.objs.size, [s1.heap.objs.size], _, _, H1, rfl, I1.kept (t' := s1.toks) fun b o e => Heap.get?_push_of_some _ e, turn_list a _, ⟨_, Heap.get?_push_size _ rfl, rfl, rfl⟩, fun b hb => ?_, q⟩
  have e : b = s1.heap.objs.size := by simpa using hb
  subst e
  exact I1.fpOk (Nat.le_refl _) (I1.hok.fresh (Nat.le_refl _))
theorem pi_tup {l : Expr} {tl : TE} (hl : PE X l tl) : PI X tg l (iTup X.K tl) := by
  intro pins s σ H R I h
  refine thn (hl pins s σ H _ I h) fun v s1 ⟨x, H1, I1, r1, q1⟩ => ?_
  obtain ⟨a, e, ⟨xs, hq⟩, q⟩ := q1
  subst e
  cases r1
  obtain ⟨its, rv, p, hz⟩ := I1.tuple hq
  refine wpAny_pyIter_tuple (show s1.heap.IsTuple a its.toArray from p) ?_
  refine ⟨s1.heap.objs.size, [s1.heap.objs.size], _, _, H1, rfl, I1.kept (t' := s1.toks) fun b o e => Heap.get?_push_of_some _ e, turn_tuple a _, ⟨_, Heap.get?_push_size _ rfl, rfl, rfl⟩, fun b hb => ?_, q⟩
  have e : b = s1.heap.objs.size := by simpa using hb
  subst e
  exact I1.fpOk (Nat.le_refl _) (I1.hok.fresh (Nat.le_refl _))
theorem range_it {pins : List (Addr × Obj)} {σ : St} {H : Hp} {s : Shared} {R : It -> Hp -> Prop} {E : Value -> Shared -> Prop} {lo hi : Int} {t u v : Tok} {tk : Nat} (I : Inv X pins σ H s) (h1 : -(2 ^ 62) <= lo) (h2 : lo < 2 ^ 62) (h3 : -(2 ^ 62) <= hi) (h4 : hi < 2 ^ 62)
    (q : R (Itr lo (hi - lo).toNat) H) : wpAny (model X.prog X.w) X.A (pyIter (.ref s.heap.objs.size)) (PIE X pins σ tg R) E { s with heap := s.heap.push { cls := .type "range", data := .fields #[.int lo t, .int hi u, .int 1 v] }, toks := tk } := by
  refine wpAny_pyIter_range (IsRange.new ..) (small_one h1 h2 h3 h4) ?_
  have I1 : Inv X pins σ H { s with heap := s.heap.push { cls := .type "range", data := .fields #[.int lo t, .int hi u, .int 1 v] }, toks := tk } := I.kept fun b o e => Heap.get?_push_of_some _ e
  refine ⟨(s.heap.push { cls := .type "range", data := .fields #[.int lo t, .int hi u, .int 1 v] }).objs.size, [(s.heap.push { cls := .type "range", data := .fields #[.int lo t, .int hi u, .int 1 v] }).objs.size], _, _, H, rfl,
    I1.kept (t' := tk) fun b o e => Heap.get?_push_of_some _ e, turn_range _ lo (hi - lo).toNat, ?_, fun b hb => ?_, q⟩
  . have e1 : lo + ((0 : Nat) : Int) * 1 = lo := by simp
    have e2 : (((hi - lo).toNat : Nat) : Int) - ((0 : Nat) : Int) = Builtin.Range.rangeSize lo hi 1 := by rw [rangeSize_one]; split <;> omega
    show IsRangeIter _ _ (lo + ((0 : Nat) : Int) * 1) ((((hi - lo).toNat : Nat) : Int) - ((0 : Nat) : Int)) 1
    rw [e1, e2]
    exact Heap.get?_push_size _ rfl
  . have e : b = (s.heap.push { cls := .type "range", data := .fields #[.int lo t, .int hi u, .int 1 v] }).objs.size := by simpa using hb
    subst e
    exact I1.fpOk (Nat.le_refl _) (I1.hok.fresh (Nat.le_refl _))
def iRng1 (ta : TA) : TI := fun σ H R => ta σ H fun vs H1 => ∃ j : Int, vs = [.int j] /\ -(2 ^ 62) <= j /\ j < 2 ^ 62 /\ R (Itr 0 j.toNat) H1
def iRng2 (ta : TA) : TI := fun σ H R => ta σ H fun vs H1 => ∃ i j : Int, vs = [.int i, .int j] /\ (-(2 ^ 62) <= i /\ i < 2 ^ 62 /\ -(2 ^ 62) <= j /\ j < 2 ^ 62) /\ R (Itr i (j - i).toNat) H1
theorem pi_range1 {a : Expr} {ta : TA} {p pos : Pos} (hg : Gl X "range") (hm : X.mg "range" = none) (ha : PA X [a] ta) (hs : starEach [a] X.env = [(false, eval a X.env)] := by rfl) : PI X tg (.Call (.Name "range" p) [a] [] pos) (iRng1 ta) := by
  intro pins s σ H R I h
  refine Call_ (ld_blt I hg hm boot_range (PyProof.Rows.callWith_type1 (thn (ha pos pins s σ H _ I h) fun us s1 ⟨vs, H1, I1, r1, q1⟩ => ?_) hs rfl))
  obtain ⟨j, e, q1, q2, q⟩ := q1
  subst e
  cases r1 with
  | cons r rr =>
    cases rr
    obtain ⟨t, rfl⟩ := r
    exact call_range_1 (range_it I1 (by omega) (by omega) q1 q2 (by simpa using q))
theorem pi_range2 {a b : Expr} {ta : TA} {p pos : Pos} (hg : Gl X "range") (hm : X.mg "range" = none) (ha : PA X [a, b] ta) (hs : starEach [a, b] X.env = [(false, eval a X.env), (false, eval b X.env)] := by rfl) (hs2 : starEach [b] X.env = [(false, eval b X.env)] := by rfl) :
    PI X tg (.Call (.Name "range" p) [a, b] [] pos) (iRng2 ta) := by
  intro pins s σ H R I h
  refine Call_ (ld_blt I hg hm boot_range (PyProof.Rows.callWith_type1 (thn (ha pos pins s σ H _ I h) fun us s1 ⟨vs, H1, I1, r1, q1⟩ => ?_) (by rw [hs, hs2]) (by rw [hs2]; rfl)))
  obtain ⟨i, j, e, ⟨q1, q2, q3, q4⟩, q⟩ := q1
  subst e
  cases r1 with
  | cons r rr =>
    cases rr with
    | cons r' rr =>
      cases rr
      obtain ⟨t, rfl⟩ := r
      obtain ⟨t', rfl⟩ := r'
      exact call_range_2 (range_it I1 q1 q2 q3 q4 q)
def tFor (wi : TI) (g : TG) (tb : TS) : TS := fun D σ H => wi σ H fun J H1 => ∃ W : Nat -> Nat -> St -> Hp -> Prop, (∃ m, W 0 m σ H1) /\ ∀ i m σ H, W i m σ H ->
  (J.stop i H /\ D.nx σ H) \/ (J.go i H /\ ∃ N : St -> Hp -> Prop, (∀ σ' H', N σ' H' -> ∃ m', m' < m /\ W (i + 1) m' σ' H') /\ ∀ x H', J.yld i H x H' -> g x σ H' fun σ2 H2 => tb { D with nx := N, ct := N, bk := D.nx } σ2 H2)
def pinsAt (fp : List Addr) (h : Heap) : List (Addr × Obj) := fp.filterMap fun b => (h.get? b).map fun o => (b, o)
theorem mem_pinsAt {fp : List Addr} {h : Heap} {b : Addr} {o : Obj} (hb : b ∈ fp) (e : h.get? b = some o) : (b, o) ∈ pinsAt fp h := List.mem_filterMap.mpr ⟨b, hb, by rw [e]; rfl⟩
theorem of_pinsAt {fp : List Addr} {h : Heap} {p : Addr × Obj} (hp : p ∈ pinsAt fp h) : p.1 ∈ fp /\ h.get? p.1 = some p.2 := by
  obtain ⟨b, hb, e⟩ := List.mem_filterMap.mp hp
  cases q : h.get? b with
  | none => rw [q] at e; cases e
  | some o =>
    rw [q] at e
    have e' : (b, o) = p := Option.some.inj e
    subst e'
    exact ⟨hb, q⟩
theorem Inv.pinned {pins : List (Addr × Obj)} {σ : St} {H : Hp} {s : Shared} {fp : List Addr} (I : Inv X pins σ H s) (hf : ∀ b ∈ fp, FpOk X pins H b) (ho : ∀ b ∈ fp, ∃ o, s.heap.get? b = some o /\ ∀ v, o.data ≠ .cell v) : Inv X (pins ++ pinsAt fp s.heap) σ H s :=
  I.pins_of fun p hp => (List.mem_append.mp hp).elim (fun z => I.pin p (List.mem_append_right _ z)) fun z => by
    obtain ⟨hb, e⟩ := of_pinsAt z
    obtain ⟨f0, f1, f2, _⟩ := hf p.1 hb
    obtain ⟨o, e', d⟩ := ho p.1 hb
    rw [e] at e'; cases e'
    exact ⟨e, f0, f1, f2, d⟩
theorem Inv.unpinned {pins pl : List (Addr × Obj)} {σ : St} {H : Hp} {s : Shared} (I : Inv X (pins ++ pl) σ H s) : Inv X pins σ H s := I.pins_of fun p hp => I.pin p (List.mem_append_right _ (List.mem_append_left _ hp))
theorem ps_for {iter : Expr} {body : List Stmt} {wi : TI} {g : TG} {tb : TS} {pos : Pos} (hp : PassesOwn (model X.prog X.w) X.A X.env X.xe) (hc : X.calm = true) (hi : PI X tg iter wi) (hg : PG X tg g) (hb : PSs X body tb)
    (hs : ∀ x, foldedSetIterable iter X.env x = pure x := by intro _; rfl) : PS X (.For tg iter body [] pos) (tFor wi g tb) := by
  intro pins s σ H D I h
  refine wpAny_For (thn (hi pins s σ H _ I h) fun v s1 h1 => thn h1 fun itv s2 h2 => ?_) hs
  obtain ⟨it, fp, tn, J, H2, e, I2, T, st2, f2, W, ⟨m0, w0⟩, turn⟩ := h2
  subst e
  -- what stays true of the iterator's objects through the loop
  have stat : ∀ {H' : Hp}, (∀ b ∈ fp, H' b = none) -> ∀ b ∈ fp, FpOk X pins H' b := fun hn b hb => ⟨hn b hb, (f2 b hb).2⟩
  refine codeAny_forLoop_any (fun n s' => ∃ i σ' H', Inv X pins σ' H' s' /\ tn i s'.heap /\ (∀ b ∈ fp, H' b = none) /\ W i n σ' H') ?_ m0 ⟨0, σ, H2, I2, st2, fun b hb => (f2 b hb).1, w0⟩
  rintro n s3 ⟨i, σ3, H3, I3, st3, fr3, w3⟩
  rcases turn i n σ3 H3 w3 with ⟨stop, qn⟩ | ⟨go, N, hN, step⟩
  . refine wpAny_passesOwn hp (thn (T.done X rfl rfl rfl hc i pins s3 σ3 H3 X.xe I3 (stat fr3) st3 stop) fun r s4 ⟨hr, I4⟩ => ?_)
    subst hr
    exact wpAny_execs_nil ⟨σ3, H3, I4, qn⟩
  . refine wpAny_passesOwn hp (thn (T.item X rfl rfl rfl hc i pins s3 σ3 H3 X.xe I3 (stat fr3) st3 go) fun r s4 ⟨u, hr, h4⟩ => ?_)
    subst hr
    refine wpAny_passesOwn hp (thn h4 fun _ s5 ⟨x, H5, I5, r5, y5, st5, fr5⟩ => ?_)
    have I5' := I5.pinned (stat fr5) (T.obj _ _ st5)
    refine wpAny_passesOwn hp (thn (hg _ s5 σ3 H5 x u _ I5' r5 (step x H5 y5)) fun _ s6 ⟨σ6, H6, I6, q6⟩ => ?_)
    refine wpAny_passesOwn hp (thn (hb _ s6 σ6 H6 _ I6 q6) fun f s7 q7 => ?_)
    have again : ∀ {σ7 : St} {H7 : Hp}, Inv X (pins ++ pinsAt fp s5.heap) σ7 H7 s7 -> N σ7 H7 -> ∃ m, m < n /\ ∃ i σ' H', Inv X pins σ' H' s7 /\ tn i s7.heap /\ (∀ b ∈ fp, H' b = none) /\ W i m σ' H' := fun {σ7 H7} I7 n7 => by
      obtain ⟨m', hm, w7⟩ := hN σ7 H7 n7
      refine ⟨m', hm, i + 1, σ7, H7, I7.unpinned, T.keep _ _ _ st5 fun b hb o e => (I7.pin (b, o) (List.mem_append_right _ (List.mem_append_right _ (mem_pinsAt hb e)))).1, fun b hb => ?_, w7⟩
      obtain ⟨o, e, d⟩ := T.obj _ _ st5 b hb
      exact (I7.pin (b, o) (List.mem_append_right _ (List.mem_append_right _ (mem_pinsAt hb e)))).2.1
    cases f with
    | next => obtain ⟨σ7, H7, I7, n7⟩ := q7; exact again I7 n7
    | cont => obtain ⟨σ7, H7, I7, n7⟩ := q7; exact again I7 n7
    | brk => obtain ⟨σ7, H7, I7, q7⟩ := q7; exact ⟨σ7, H7, I7.unpinned, q7⟩
    | ret v => obtain ⟨x7, σ7, H7, I7, r7, q7⟩ := q7; exact ⟨x7, σ7, H7, I7.unpinned, r7, q7⟩
end
end L2
namespace L2
open PySem PySem.Spec PyProof.Rows
abbrev R2 := V -> V -> Hp -> VK -> Prop
def OpR (X : Cx) (f : Value -> Value -> Sem Value) (r : R2) : Prop :=
  ∀ (pins : List (Addr × Obj)) (s : Shared) (σ : St) (H : Hp) (x y : V) (v u : Value) (Q : VK), Inv X pins σ H s -> RelV x v -> RelV y u -> r x y H Q ->
    wpAny (model X.prog X.w) X.A (f v u) (EP X pins σ Q) X.xe s
def UnR (X : Cx) (f : Value -> Sem Value) (r : V -> Hp -> VK -> Prop) : Prop :=
  ∀ (pins : List (Addr × Obj)) (s : Shared) (σ : St) (H : Hp) (x : V) (v : Value) (Q : VK), Inv X pins σ H s -> RelV x v -> r x H Q ->
    wpAny (model X.prog X.w) X.A (f v) (EP X pins σ Q) X.xe s
def CallR (X : Cx) (f : Value) (r : List V -> Hp -> VK -> Prop) : Prop :=
  ∀ (pins : List (Addr × Obj)) (s : Shared) (σ : St) (H : Hp) (xs : List V) (us : List Value) (Q : VK), Inv X pins σ H s -> Vals xs us -> r xs H Q ->
    wpAny (model X.prog X.w) X.A (call f us) (EP X pins σ Q) X.xe s
def tOp (r : R2) (ta tb : TE) : TE := fun σ H Q => ta σ H fun x H1 => tb σ H1 fun y H2 => r x y H2 Q
def tUn (r : V -> Hp -> VK -> Prop) (ta : TE) : TE := fun σ H Q => ta σ H fun x H1 => r x H1 Q
def rI (C : Int -> Int -> Prop) (g : Int -> Int -> V) : R2 := fun x y H Q => ∃ i j, x = .int i /\ y = .int j /\ C i j /\ Q (g i j) H
def rI0 (g : Int -> Int -> V) : R2 := fun x y H Q => ∃ i j, x = .int i /\ y = .int j /\ Q (g i j) H
def rU (g : Int -> V) : V -> Hp -> VK -> Prop := fun x H Q => ∃ i, x = .int i /\ Q (g i) H
section
variable {X : Cx} {a b c : Expr} {ta tb tc : TE} {pos : Pos}
theorem binT (ha : PE X a ta) (hb : PE X b tb) {pins : List (Addr × Obj)} {s : Shared} {σ : St} {H : Hp} {R : V -> V -> Hp -> Prop} (I : Inv X pins σ H s)
    (h : ta σ H fun x H1 => tb σ H1 fun y H2 => R x y H2) {Q : Value -> Shared -> Prop} {f : Value -> Value -> Sem Value}
    (hf : ∀ v u s2 x y H2, Inv X pins σ H2 s2 -> RelV x v -> RelV y u -> R x y H2 -> wpAny (model X.prog X.w) X.A (f v u) Q X.xe s2) :
    wpAny (model X.prog X.w) X.A (eval a X.env) (fun v s₁ => wpAny (model X.prog X.w) X.A (eval b X.env) (fun u s₂ => wpAny (model X.prog X.w) X.A (f v u) Q X.xe s₂) X.xe s₁) X.xe s := by
  refine thn (ha pins s σ H _ I h) fun v s1 ⟨x, H1, I1, r1, q1⟩ => ?_
  refine thn (hb pins s1 σ H1 _ I1 q1) fun u s2 ⟨y, H2, I2, r2, q2⟩ => ?_
  exact hf v u s2 x y H2 I2 r1 r2 q2
theorem pe_op {op : Operator} {r : R2} (ho : OpR X (binaryOp op) r) (ha : PE X a ta) (hb : PE X b tb) : PE X (.BinOp a op b pos) (tOp r ta tb) := by
  intro pins s σ H Q I h
  exact wpAny_BinOp (binT ha hb I h fun v u s2 x y H2 I2 rx ry q => ho pins s2 σ H2 x y v u Q I2 rx ry q)
theorem pe_un {op : UnaryOp} {r : V -> Hp -> VK -> Prop} (ho : UnR X (unaryOp op) r) (ha : PE X a ta) : PE X (.UnaryOp op a pos) (tUn r ta) := by
  intro pins s σ H Q I h
  exact UnaryOp_ (thn (ha pins s σ H _ I h) fun v s1 ⟨x, H1, I1, r1, q1⟩ => ho pins s1 σ H1 x v Q I1 r1 q1)
theorem opI {f : Value -> Value -> Sem Value} {C : Int -> Int -> Prop} {g : Int -> Int -> Int}
    (rule : ∀ (i j : Int) (t u : Tok) (s : Shared) (Q : Value -> Shared -> Prop) (E : Value -> Shared -> Prop), C i j -> Q (.int (g i j) s.toks) { s with toks := s.toks + 1 } -> wpAny (model X.prog X.w) X.A (f (.int i t) (.int j u)) Q E s) :
    OpR X f (rI C fun i j => .int (g i j)) := by
  intro pins s σ H x y v u Q I rx ry h
  obtain ⟨i, j, rfl, rfl, hc, q⟩ := h
  obtain ⟨t, rfl⟩ := rx
  obtain ⟨t', rfl⟩ := ry
  exact rule i j t t' s _ _ hc ⟨.int (g i j), H, I.tok _, ⟨_, rfl⟩, q⟩
theorem opI0 {f : Value -> Value -> Sem Value} {g : Int -> Int -> Int}
    (rule : ∀ (i j : Int) (t u : Tok) (s : Shared) (Q : Value -> Shared -> Prop) (E : Value -> Shared -> Prop), Q (.int (g i j) s.toks) { s with toks := s.toks + 1 } -> wpAny (model X.prog X.w) X.A (f (.int i t) (.int j u)) Q E s) :
    OpR X f (rI0 fun i j => .int (g i j)) := by
  intro pins s σ H x y v u Q I rx ry h
  obtain ⟨i, j, rfl, rfl, q⟩ := h
  obtain ⟨t, rfl⟩ := rx
  obtain ⟨t', rfl⟩ := ry
  exact rule i j t t' s _ _ ⟨.int (g i j), H, I.tok _, ⟨_, rfl⟩, q⟩
theorem opB0 {f : Value -> Value -> Sem Value} {g : Int -> Int -> Bool}
    (rule : ∀ (i j : Int) (t u : Tok) (s : Shared) (Q : Value -> Shared -> Prop) (E : Value -> Shared -> Prop), Q (.bool (g i j)) s -> wpAny (model X.prog X.w) X.A (f (.int i t) (.int j u)) Q E s) :
    OpR X f (rI0 fun i j => .bl (g i j)) := by
  intro pins s σ H x y v u Q I rx ry h
  obtain ⟨i, j, rfl, rfl, q⟩ := h
  obtain ⟨t, rfl⟩ := rx
  obtain ⟨t', rfl⟩ := ry
  exact rule i j t t' s _ _ ⟨.bl (g i j), H, I, rfl, q⟩
def CDiv (i j : Int) : Prop := 0 < j /\ j < 1073741824
def CPow (i j : Int) : Prop := 0 <= j /\ j <= 1000000 /\ i.natAbs < 2 ^ 64
def CMul (i j : Int) : Prop := (-(2 ^ 64) < i /\ i < 2 ^ 64) \/ (-(2 ^ 64) < j /\ j < 2 ^ 64)
theorem CMul.ok {i j : Int} (h : CMul i j) : IntMulOk i j := by
  rcases h with ⟨h1, h2⟩ | ⟨h1, h2⟩
  . exact .of_left (intBits_le_64 h1 h2)
  . exact .of_right (intBits_le_64 h1 h2)
theorem op_add : OpR X (binaryOp .Add) (rI0 fun i j => .int (i + j)) := opI0 fun _ _ _ _ _ _ _ q => add_int q
theorem op_sub : OpR X (binaryOp .Sub) (rI0 fun i j => .int (i - j)) := opI0 fun _ _ _ _ _ _ _ q => sub_int q
theorem op_mul : OpR X (binaryOp .Mult) (rI CMul fun i j => .int (i * j)) := opI fun _ _ _ _ _ _ _ hc q => mul_int q hc.ok
theorem op_fdiv : OpR X (binaryOp .FloorDiv) (rI CDiv fun i j => .int (i / j)) := opI fun i j _ _ _ _ _ hc q => by
  have h1 : (0 : Int) < j := hc.1
  have h2 : j < 1073741824 := hc.2
  exact floordiv_int (by omega) (by rw [Int.fdiv_eq_ediv_of_nonneg i (by omega)]; exact q) (.inl (PyProof.noPylong_small (by omega)))
theorem op_mod : OpR X (binaryOp .Mod) (rI (fun _ j => 0 < j) fun i j => .int (i % j)) := opI fun i j _ _ _ _ _ hc q => by
  have h1 : (0 : Int) < j := hc
  exact mod_int' (by omega) (by rw [Int.fmod_eq_emod_of_nonneg i (by omega)]; exact q)
theorem op_pow : OpR X (binaryOp .Pow) (rI CPow fun i j => .int (i ^ j.toNat)) := opI fun _ _ _ _ _ _ _ hc q => pow_int_small hc.1 hc.2.1 hc.2.2 q
theorem unI {f : Value -> Sem Value} {g : Int -> Int}
    (rule : ∀ (i : Int) (t : Tok) (s : Shared) (Q : Value -> Shared -> Prop) (E : Value -> Shared -> Prop), Q (.int (g i) s.toks) { s with toks := s.toks + 1 } -> wpAny (model X.prog X.w) X.A (f (.int i t)) Q E s) :
    UnR X f (rU fun i => .int (g i)) := by
  intro pins s σ H x v Q I rx h
  obtain ⟨i, rfl, q⟩ := h
  obtain ⟨t, rfl⟩ := rx
  exact rule i t s _ _ ⟨.int (g i), H, I.tok _, ⟨_, rfl⟩, q⟩
theorem un_neg : UnR X (unaryOp .USub) (rU fun i => .int (-i)) := unI fun _ _ _ _ _ q => neg_int q
end
section
variable {X : Cx} {a b c : Expr} {ta tb tc : TE} {pos : Pos}
theorem fin_bl {pins : List (Addr × Obj)} {σ : St} {H : Hp} {s : Shared} {Q : VK} {k k' : Bool} (I : Inv X pins σ H s) (q : Q (.bl k) H) (e : k = k') : EP X pins σ Q (.bool k') s := by
  subst e
  exact ⟨.bl k, H, I, rfl, q⟩
theorem op_lt : OpR X (compareOp .Lt) (rI0 fun i j => .bl (decide (i < j))) := opB0 fun _ _ _ _ _ _ _ q => lt_int q
theorem op_le : OpR X (compareOp .LtE) (rI0 fun i j => .bl (decide (i <= j))) := opB0 fun _ _ _ _ _ _ _ q => le_int q
theorem op_gt : OpR X (compareOp .Gt) (rI0 fun i j => .bl (decide (j < i))) := opB0 fun _ _ _ _ _ _ _ q => gt_int q
theorem op_ge : OpR X (compareOp .GtE) (rI0 fun i j => .bl (decide (j <= i))) := opB0 fun _ _ _ _ _ _ _ q => ge_int q
theorem op_isN : OpR X (compareOp .Is) (fun x y H Q => y = .non /\ Q (.bl (decide (x = .non))) H) := by
  intro pins s σ H x y v u Q I rx ry h
  obtain ⟨rfl, q⟩ := h
  cases ry
  refine is_none_gen (fin_bl I q ?_)
  cases x <;> first
    | (cases rx; rfl)
    | (obtain ⟨t, rfl⟩ := rx; rfl)
theorem op_notN : OpR X (compareOp .IsNot) (fun x y H Q => y = .non /\ Q (.bl (!decide (x = .non))) H) := by
  intro pins s σ H x y v u Q I rx ry h
  obtain ⟨rfl, q⟩ := h
  cases ry
  refine isnot_none_gen (fin_bl I q ?_)
  cases x <;> first
    | (cases rx; rfl)
    | (obtain ⟨t, rfl⟩ := rx; rfl)
theorem OpR.or {f : Value -> Value -> Sem Value} {r r' : R2} (h : OpR X f r) (h' : OpR X f r') : OpR X f (fun x y H Q => r x y H Q \/ r' x y H Q) := by
  intro pins s σ H x y v u Q I rx ry q
  rcases q with q | q
  . exact h pins s σ H x y v u Q I rx ry q
  . exact h' pins s σ H x y v u Q I rx ry q
theorem pe_cmpR {op : CmpOp} {r : R2} (ho : OpR X (compareOp op) r) (ha : PE X a ta) (hb : PE X b tb) (hm : behindInMarks op b = false) : PE X (.Compare a [op] [b] pos) (tOp r ta tb) := by
  intro pins s σ H Q I h
  exact wpAny_Compare1 (binT ha hb I h fun v u s2 x y H2 I2 rx ry q => ho pins s2 σ H2 x y v u Q I2 rx ry q) hm
def tTest (t : TE) : TT := fun σ H Q => t σ H fun x H' => ∃ k, x = .bl k /\ Q k H'
theorem pt_cmpR {op : CmpOp} {r : R2} (ho : OpR X (compareOp op) r) (ha : PE X a ta) (hb : PE X b tb) (hm : behindInMarks op b = false) : PT X (.Compare a [op] [b] pos) (tTest (tOp r ta tb)) := by
  intro pins s σ H Q I h
  refine wpAny_isTrue_Compare1 (thn (ha pins s σ H _ I h) fun v s1 ⟨x, H1, I1, r1, q1⟩ => thn (hb pins s1 σ H1 _ I1 q1) fun u s2 ⟨y, H2, I2, r2, q2⟩ =>
    thn (ho pins s2 σ H2 x y v u _ I2 r1 r2 q2) fun c s3 ⟨z, H3, I3, r3, k, e, q3⟩ => ?_) hm
  subst e
  cases r3
  exact wpAny_truthy_bool ⟨H3, I3, q3⟩
def tChain (r r' : R2) (ta tb tc : TE) : TE := fun σ H Q => ta σ H fun x H1 => tb σ H1 fun y H2 => r x y H2 fun z H3 => ∃ k, z = .bl k /\
  (if k = true then tc σ H3 fun w' H4 => r' y w' H4 Q else Q (.bl false) H3)
theorem pe_chain {op op' : CmpOp} {r r' : R2} (ho : OpR X (compareOp op) r) (ho' : OpR X (compareOp op') r') (ha : PE X a ta) (hb : PE X b tb) (hc : PE X c tc)
    (hm : lastMarks [op, op'] [b, c] = false := by with_unfolding_all rfl) : PE X (.Compare a [op, op'] [b, c] pos) (tChain r r' ta tb tc) := by
  intro pins s σ H Q I h
  refine Compare_chain (thn (ha pins s σ H _ I h) fun v s1 ⟨x, H1, I1, r1, q1⟩ => chain_link (thn (hb pins s1 σ H1 _ I1 q1) fun u s2 ⟨y, H2, I2, r2, q2⟩ =>
    thn (ho pins s2 σ H2 x y v u _ I2 r1 r2 q2) fun d s3 ⟨z, H3, I3, r3, k, e, q3⟩ => ?_)) hm
  subst e
  cases r3
  refine wpAny_truthy_bool ?_
  cases k with
  | false => exact ite_ff ⟨.bl false, H3, I3, rfl, q3⟩
  | true => exact ite_tt (chain_last (thn (hc pins s3 σ H3 _ I3 q3) fun w' s4 ⟨z', H4, I4, r4, q4⟩ => ho' pins s4 σ H4 y z' u w' Q I4 r2 r4 q4))
theorem pt_chain {op op' : CmpOp} {r r' : R2} (ho : OpR X (compareOp op) r) (ho' : OpR X (compareOp op') r') (ha : PE X a ta) (hb : PE X b tb) (hc : PE X c tc)
    (hm : lastMarks [op, op'] [b, c] = false := by with_unfolding_all rfl) : PT X (.Compare a [op, op'] [b, c] pos) (tTest (tChain r r' ta tb tc)) := by
  intro pins s σ H Q I h
  refine isTrue_chain (thn (ha pins s σ H _ I h) fun v s1 ⟨x, H1, I1, r1, q1⟩ => test_link (thn (hb pins s1 σ H1 _ I1 q1) fun u s2 ⟨y, H2, I2, r2, q2⟩ =>
    thn (ho pins s2 σ H2 x y v u _ I2 r1 r2 q2) fun d s3 ⟨z, H3, I3, r3, k, e, q3⟩ => ?_)) hm
  subst e
  cases r3
  refine wpAny_truthy_bool ?_
  cases k with
  | false =>
    obtain ⟨k', e', q'⟩ := q3
    cases e'
    exact ite_ff ⟨H3, I3, q'⟩
  | true =>
    refine ite_tt (test_last (thn (hc pins s3 σ H3 _ I3 q3) fun w' s4 ⟨z', H4, I4, r4, q4⟩ => thn (ho' pins s4 σ H4 y z' u w' _ I4 r2 r4 q4) fun d' s5 ⟨z2, H5, I5, r5, k2, e2, q5⟩ => ?_))
    subst e2
    cases r5
    exact wpAny_truthy_bool ⟨H5, I5, q5⟩
theorem line63 : (sizeLine : Nat) < 2 ^ 63 := by rw [sizeLine_eq]; decide
theorem vals1 {x : V} {us : List Value} (r : Vals [x] us) : ∃ u, us = [u] /\ RelV x u := by
  cases r with
  | cons r1 r2 => cases r2; exact ⟨_, rfl, r1⟩
theorem vals2 {x y : V} {us : List Value} (r : Vals [x, y] us) : ∃ u w', us = [u, w'] /\ RelV x u /\ RelV y w' := by
  cases r with
  | cons r1 r2 =>
    cases r2 with
    | cons r3 r4 => cases r4; exact ⟨_, _, rfl, r1, r3⟩
theorem call_abs : CallR X (.builtin "abs") (fun xs H Q => ∃ i, xs = [.int i] /\ Q (.int (if i < 0 then -i else i)) H) := by
  intro pins s σ H xs us Q I r h
  obtain ⟨i, rfl, q⟩ := h
  obtain ⟨u, rfl, t, rfl⟩ := vals1 r
  exact call_abs_int fun u tk => ⟨.int (if i < 0 then -i else i), H, I.tok _, ⟨_, rfl⟩, q⟩
theorem call_max2 (hc : X.calm = true) : CallR X (.builtin "max") (fun xs H Q => ∃ i j, xs = [.int i, .int j] /\ Q (.int (if j > i then j else i)) H) := by
  intro pins s σ H xs us Q I r h
  obtain ⟨i, j, rfl, q⟩ := h
  obtain ⟨u, w', rfl, ⟨t, rfl⟩, ⟨t', rfl⟩⟩ := vals2 r
  refine max_two_ints (I.ok.hd hc) fun h' tk k => ⟨_, H, I.kept k, ?_, q⟩
  by_cases hj : j > i
  . rw [if_pos hj, if_pos hj]; exact ⟨_, rfl⟩
  . rw [if_neg hj, if_neg hj]; exact ⟨_, rfl⟩
theorem call_min2 (hc : X.calm = true) : CallR X (.builtin "min") (fun xs H Q => ∃ i j, xs = [.int i, .int j] /\ Q (.int (if j < i then j else i)) H) := by
  intro pins s σ H xs us Q I r h
  obtain ⟨i, j, rfl, q⟩ := h
  obtain ⟨u, w', rfl, ⟨t, rfl⟩, ⟨t', rfl⟩⟩ := vals2 r
  refine min_two_ints (I.ok.hd hc) fun h' tk k => ⟨_, H, I.kept k, ?_, q⟩
  by_cases hj : j < i
  . rw [if_pos hj, if_pos hj]; exact ⟨_, rfl⟩
  . rw [if_neg hj, if_neg hj]; exact ⟨_, rfl⟩
theorem call_int1 : CallR X (.type "int") (fun xs H Q => (∃ i, xs = [.int i] /\ Q (.int i) H) \/ ∃ k, xs = [.bl k] /\ Q (.int (if k then 1 else 0)) H) := by
  intro pins s σ H xs us Q I r h
  rcases h with ⟨i, rfl, q⟩ | ⟨k, rfl, q⟩
  . obtain ⟨u, rfl, t, rfl⟩ := vals1 r
    exact call_int_int ⟨.int i, H, I, ⟨_, rfl⟩, q⟩
  . obtain ⟨u, rfl, r1⟩ := vals1 r
    cases r1
    exact call_int_bool ⟨.int (if k then 1 else 0), H, I.tok _, ⟨_, rfl⟩, q⟩
end
end L2
namespace L2
open PySem PySem.Spec PyProof.Rows
structure ObjM (h : Heap) (x dx C : Addr) (mA : Str -> Option Value) : Prop where
  obj : h.get? x = some (PySem.W.instObj C dx)
  ns : h.Ns1 dx mA
  ne : dx ≠ x
theorem lookIn_ns {h : Heap} {dx : Addr} {mA : Str -> Option Value} (n : h.Ns1 dx mA) : ∃ od, h.get? dx = some od /\ ∀ name, PySem.W.lookIn name od = some (mA name) := by
  obtain ⟨o, es, ep, ho, hd, hk, _, hm⟩ := n
  refine ⟨o, ho, fun name => ?_⟩
  have e := hm name
  unfold nsFind findBy at e
  rw [<- Array.find?_toList] at e
  unfold PySem.W.lookIn
  rw [hd]
  dsimp only
  split
  . rename_i y q
    rw [q] at e
    exact congrArg some e
  . rename_i q
    rw [q] at e
    have a : es.toList.any (·.refKey) = false := by
      rw [List.any_eq_false]
      intro y hy
      obtain ⟨z, t, hkey⟩ := hk y (Array.mem_toList_iff.mp hy)
      simp [DictEntry.refKey, hkey]
    have a' : ¬ es.toList.any (·.refKey) = true := by rw [a]; exact Bool.false_ne_true
    rw [if_neg a']
    exact congrArg some e
theorem ObjM.look {h : Heap} {x dx C : Addr} {mA : Str -> Option Value} (I : ObjM h x dx C mA) : ∃ od, PySem.W.InstAt h x (PySem.W.instObj C dx) C (some od) /\ ∀ name, PySem.W.lookIn name od = some (mA name) :=
  let ⟨od, ho, hl⟩ := lookIn_ns I.ns
  ⟨od, ⟨I.obj, rfl, rfl, ho⟩, hl⟩
section
variable {prog : Program} {w : World} {A : Around} {E : Value -> Shared -> Prop} {s : Shared} {K : PySem.W.Frag} {x dx C f : Addr} {mA : Str -> Option Value} {name : Str} {v : Value}
end
section
variable {P : Program} {w : World} {H H' : Hp} {h h' : Heap} {a C dx : Addr} {fs fs' : List (Str × V)}
theorem ins_get (hok : HOk P w H h) (e : H a = some (.ins C dx fs)) : ∃ mA, ObjM h a dx C mA /\ (∀ f, RelO (fs.lookup f) (mA f)) /\ PySem.Within mA (fs.map (·.1)) /\ fs.length <= 1000 /\ H dx = some (.own a) := by
  obtain ⟨d, z, ne, ob, mA, n, r, q⟩ := (show ObjOk P w H h a (.ins C dx fs) from hok a _ e)
  exact ⟨mA, ⟨ob, n, ne⟩, r, q, z, d⟩
end
structure Cls (K : PySem.W.Frag) (C : Addr) : Prop where
  pg : PySem.W.plainGet K C Str.empty = true
  hd : PySem.W.hasDictIn K C = true
  po : PySem.W.plainOver K C = true
  sa : PySem.W.findIn K (.ref C) "__setattr__" = some (some (.builtin "object.__setattr__"))
theorem Cls.get {K : PySem.W.Frag} {C : Addr} (c : Cls K C) (f : Str) : PySem.W.plainGet K C f = true := c.pg
section
variable {X : Cx} {pins : List (Addr × Obj)} {σ : St} {H : Hp} {s : Shared} {a C dx : Addr} {fs : List (Str × V)} {f : Str} {v : V} {A : Around} {E : Value -> Shared -> Prop}
end
section
variable {X : Cx} {o e value : Expr} {f : Str} {pos pos' tpos : Pos} {ta tv : TE}
end
section
variable {X : Cx} {pins : List (Addr × Obj)} {σ : St} {H : Hp} {s : Shared} {A : Around} {E : Value -> Shared -> Prop} {Q : Value -> Shared -> Prop} {c : Value} {b : Bool}
inductive TyOf (K : PySem.W.Frag) (H : Hp) : V -> Value -> Prop where
  | non : TyOf K H .non (.type "NoneType")
  | bl (x : Bool) : TyOf K H (.bl x) (.type "bool")
  | int (i : Int) : TyOf K H (.int i) (.type "int")
  | str (x : Str) : TyOf K H (.str x) (.type "str")
  | flt (x : UInt64) : TyOf K H (.flt x) (.type "float")
  | lst {a : Addr} {xs : List V} (e : H a = some (.lst xs)) : TyOf K H (.ref a) (.type "list")
  | frz {a : Addr} {o : Obj} {xs : List V} (e : H a = some (.frz o (.lst xs))) : TyOf K H (.ref a) (.type "list")
  | tup {a : Addr} {xs : List V} (e : H a = some (.tup xs)) : TyOf K H (.ref a) (.type "tuple")
  | dK {a : Addr} {kvs : List (Key × V)} (e : H a = some (.dK kvs)) : TyOf K H (.ref a) (.type "dict")
  | dT {a : Addr} {kvs : List (List Key × V)} (e : H a = some (.dT kvs)) : TyOf K H (.ref a) (.type "dict")
  | ins {a C dx : Addr} {fs : List (Str × V)} (e : H a = some (.ins C dx fs)) (cl : Cls K C) (ha : PySem.W.findIn K (.ref C) "__class__" = some (some (.builtin "object.__class__")))
      (hn : PySem.W.specialIn K (.builtin "object.__class__") "__get__" = some (some (.builtin "getset_descriptor.__get__"))) (htk : PySem.W.takesIn K (.builtin "object.__class__") = some true)
      (hm : PySem.W.mroIn K C (.type "object") = some true) : TyOf K H (.ref a) (.ref C)
theorem isinst_ok {x : V} {u t : Value} (I : Inv X pins σ H s) (rx : RelV x u) (ty : TyOf X.K H x t) (e : PySem.W.kitOne X.K t c = some b) (h : ∀ tk, Q (.bool b) { s with toks := tk }) :
    wpAny (model X.prog X.w) A (call (.builtin "isinstance") [u, c]) Q E s := by
  cases ty with
  | non => cases (show u = Value.none from rx); exact PySem.W.kia_one PySem.W.kitx_none I.kIn True.intro e (fun z => nomatch z) h
  | bl y => cases (show u = Value.bool y from rx); exact PySem.W.kia_one PySem.W.kitx_bool I.kIn True.intro e (fun z => nomatch z) h
  | int i => obtain ⟨t, q⟩ := (show ∃ t, u = Value.int i t from rx); cases q; exact PySem.W.kia_one PySem.W.kitx_int I.kIn True.intro e (fun z => nomatch z) h
  | str y => obtain ⟨t, q⟩ := (show ∃ t, u = Value.str y t from rx); cases q; exact PySem.W.kia_one PySem.W.kitx_str I.kIn True.intro e (fun z => nomatch z) h
  | flt y => obtain ⟨t, q⟩ := (show ∃ t, u = Value.float y t from rx); cases q; exact PySem.W.kia_one PySem.W.kitx_float I.kIn True.intro e (fun z => nomatch z) h
  | @lst a xs ea =>
    cases (show u = Value.ref a from rx)
    obtain ⟨_, _, n, _, h1⟩ := (show ObjOk X.prog X.w H s.heap a (.lst xs) from I.hok a _ ea)
    exact PySem.W.kia_one PySem.W.kitx_list I.kIn ⟨_, h1, rfl⟩ e (fun z => nomatch z) h
  | @frz a ob xs ea =>
    cases (show u = Value.ref a from rx)
    obtain ⟨_, _, _, n, _, h1⟩ := (show ObjOk X.prog X.w H s.heap a (.frz ob (.lst xs)) from I.hok a _ ea)
    exact PySem.W.kia_one PySem.W.kitx_list I.kIn ⟨_, h1, rfl⟩ e (fun z => nomatch z) h
  | @tup a xs ea =>
    cases (show u = Value.ref a from rx)
    obtain ⟨_, _, _, p⟩ := (show ObjOk X.prog X.w H s.heap a (.tup xs) from I.hok a _ ea)
    obtain ⟨o, h1, h2, _⟩ := p
    exact PySem.W.kia_one PySem.W.kitx_tuple I.kIn ⟨o, h1, h2⟩ e (fun z => nomatch z) h
  | @dK a kvs ea =>
    cases (show u = Value.ref a from rx)
    obtain ⟨_, _, vs, _, p⟩ := (show ObjOk X.prog X.w H s.heap a (.dK kvs) from I.hok a _ ea)
    obtain ⟨o, es, ep, h1, h2, _⟩ := p
    exact PySem.W.kia_one PySem.W.kitx_dict I.kIn ⟨o, h1, h2.1⟩ e (fun z => nomatch z) h
  | @dT a kvs ea =>
    cases (show u = Value.ref a from rx)
    obtain ⟨_, _, xs, _, o, es, ep, h1, h2, _⟩ := (show ObjOk X.prog X.w H s.heap a (.dT kvs) from I.hok a _ ea)
    exact PySem.W.kia_one PySem.W.kitx_dict I.kIn ⟨o, h1, h2.1⟩ e (fun z => nomatch z) h
  | @ins a C dx fs ea cl ha hn htk hm =>
    cases (show u = Value.ref a from rx)
    obtain ⟨mA, O, _⟩ := ins_get I.hok ea
    obtain ⟨od, J, _⟩ := O.look
    exact PySem.W.kia_one (PySem.W.kitx_own (cl.get _) cl.hd ha hn htk hm) I.kIn J e (fun z => nomatch z) h
end
end L2
namespace L2
open PySem PySem.Spec PyProof.Rows
structure Room (k : Nat) (A : Around) : Prop where
  hd : A.handled = none
  dp : A.depth + 3 * k + 5 < recursionLimit
  un : A.units + 16 * k + 200 < cLine
theorem Room.deeper {k : Nat} {A : Around} (r : Room (k + 1) A) (env : Env) : Room k (A.deeper env) :=
  ⟨r.hd, by have := r.dp; show A.depth + 1 + 3 * k + 5 < _; omega, by have := r.un; show A.units + 3 + 16 * k + 200 < _; omega⟩
theorem Room.depth {k : Nat} {A : Around} (r : Room k A) : A.depth < recursionLimit := by have := r.dp; omega
theorem Room.units {k : Nat} {A : Around} (r : Room k A) : A.units + 64 < cLine := by have := r.un; omega
def tNil : TA := fun _ H Q => Q [] H
def tCons (ta : TE) (tr : TA) : TA := fun σ H Q => ta σ H fun x H1 => tr σ H1 fun xs H2 => Q (x :: xs) H2
section
variable {X : Cx} {e : Expr} {es : List Expr} {te : TE} {t : TA} {pos : Pos}
theorem pa_nil : PA X [] tNil := fun _ _ _ _ H Q I h => Calls.spliced_nil ⟨[], H, I, .nil, h⟩
theorem pa_cons (ha : PE X e te) (hr : PA X es t) (hs : starEach (e :: es) X.env = (false, eval e X.env) :: starEach es X.env := by rfl) : PA X (e :: es) (tCons te t) := by
  intro pos pins s σ H Q I h
  rw [hs]
  show wpAny _ _ (spliced ((false, eval e X.env) :: backTo pos (starEach es X.env))) _ _ s
  refine Calls.spliced_cons (thn (ha pins s σ H _ I h) fun u s1 ⟨x, H1, I1, r1, q1⟩ => ?_)
  exact thn (hr pos pins s1 σ H1 _ I1 q1) fun us s2 ⟨xs, H2, I2, r2, q2⟩ => ⟨x :: xs, H2, I2, .cons r1 r2, q2⟩
def tTup (t : TA) : TE := fun σ H Q => t σ H fun xs H1 => xs.length <= sizeLine /\ ∀ p, H1 p = none -> Q (.ref p) (upd H1 p (.tup xs))
def tLst (t : TA) : TE := fun σ H Q => t σ H fun xs H1 => xs.length <= sizeLine /\ ∀ p, H1 p = none -> Q (.ref p) (upd H1 p (.lst xs))
theorem pe_tup {x1} (h : PA X es t) : PE X (.Tuple es x1 pos) (tTup t) := by
  intro pins s σ H Q I hq
  refine wpAny_Tuple_spliced (thn (h pos pins s σ H _ I hq) fun us s1 ⟨xs, H1, I1, r, z, q⟩ => ⟨by rw [<- r.length]; exact z, ?_⟩)
  have hf : H1 s1.heap.objs.size = none := I1.hok.fresh (Nat.le_refl _)
  refine ⟨.ref s1.heap.objs.size, upd H1 s1.heap.objs.size (.tup xs), I1.laid (t' := s1.toks) (fun b u e => Heap.get?_push_of_some _ e) (Nat.le_refl _) ?_, rfl, q _ hf⟩
  exact ⟨z, us, r, ⟨_, Heap.get?_push_size _ rfl, rfl, _, rfl⟩⟩
theorem pe_lst (h : PA X es t) : PE X (.List es pos) (tLst t) := by
  intro pins s σ H Q I hq
  refine wpAny_List_spliced (thn (h pos pins s σ H _ I hq) fun us s1 ⟨xs, H1, I1, r, z, q⟩ => ⟨by rw [<- r.length]; exact z, ?_⟩)
  have hf : H1 s1.heap.objs.size = none := I1.hok.fresh (Nat.le_refl _)
  refine ⟨.ref s1.heap.objs.size, upd H1 s1.heap.objs.size (.lst xs), I1.laid (t' := s1.toks) (fun b u e => Heap.get?_push_of_some _ e) (Nat.le_refl _) ?_, rfl, q _ hf⟩
  exact ⟨z, us, 0, r, Heap.get?_push_size _ rfl⟩
end
abbrev Sp := List V -> Hp -> VK -> XK -> Prop
abbrev CXT := List Env -> Hp -> Shared -> XK -> Value -> Shared -> Prop
structure Env0 (P : Program) (w : World) (K : PySem.W.Frag) (mg : Str -> Option Value) (base : Heap) (A : Around) (outer : List Env) (s : Shared) (H : Hp) : Prop where
  frames : A.frames = some outer
  mod : Mod K mg base
  bs : ∀ b o, base.get? b = some o -> s.heap.get? b = some o /\ H b = none
  bsz : base.objs.size <= s.heap.objs.size
  funs : s.heap.FunFrames base outer
  frf : ∀ b ∈ frs outer, H b = none
  hok : HOk P w H s.heap
  bare : AllBare s.gens
def CE (outer : List Env) (P : Program) (w : World) (H : Hp) (s : Shared) (Q : VK) (u : Value) (s' : Shared) : Prop :=
  ∃ v H', s'.os = s.os /\ AllBare s'.gens /\ Un (frs outer) [] H H' s.heap s'.heap /\ HOk P w H' s'.heap /\ RelV v u /\ Q v H'
def CR (CX : CXT) (outer : List Env) (P : Program) (w : World) (H : Hp) (s : Shared) (Q : VK) (E : XK) (r : Result) (s' : Shared) : Prop :=
  match r with
  | .ok (.ret u) => CE outer P w H s Q u s'
  | .ok _ => False
  | .error e => CX outer H s E e s'
structure FnOk (P : Program) (w : World) (K : PySem.W.Frag) (mg : Str -> Option Value) (base : Heap) (CX : CXT) (k : Nat) (f : Addr) (fd : FuncData) (ps : List Str) (sp : Sp) : Prop where
  len : ∀ vs H Q E, sp vs H Q E -> vs.length = ps.length
  run : ∀ (A : Around) (outer : List Env) (s : Shared) (H : Hp) (args : Args) (us : List Value) (vs : List V) (Q : VK) (E : XK), Room k A -> Env0 P w K mg base A outer s H -> BindsTo s fd args (ps.zip us) -> Vals vs us -> sp vs H Q E ->
    codeAny (model P w) A (.call (.ref f) args) (CR CX outer P w H s Q E) s
section
variable {X : Cx} {pins : List (Addr × Obj)} {σ : St} {H : Hp} {s s' : Shared}
theorem Inv.env0 (I : Inv X pins σ H s) : Env0 X.prog X.w X.K X.mg X.base X.A X.stack s H :=
  ⟨I.ok.frames, I.ok.mod, I.bs, Nat.le_trans I.ok.bsz I.sz, I.stack, I.stkFree, I.hok, I.bare⟩
theorem Inv.after {Q : VK} {u : Value} (I : Inv X pins σ H s) (h : CE X.stack X.prog X.w H s Q u s') : EP X pins σ Q u s' := by
  obtain ⟨v, H', os, bare, un, hok, r, q⟩ := h
  obtain ⟨hh, g, d, t, os'⟩ := s'
  obtain rfl : os' = s.os := os
  exact ⟨v, H', I.call (h' := hh) (g' := g) (d' := d) (t' := t) (ch := []) un hok bare (fun b z => absurd z (by simp)), r, q⟩
end
def tCall (sp : Sp) (dvs : List V) (E : XK) (t : TA) : TE := fun σ H Q => t σ H fun vs H1 => sp (vs ++ dvs) H1 Q E
def Binds (K : PySem.W.Frag) (fd : FuncData) (ps : List Str) (ds : List Value) : Prop :=
  ∀ (s : Shared) (us : List Value), K.In s.heap -> (us ++ ds).length = ps.length -> BindsTo s fd ⟨us, []⟩ (ps.zip (us ++ ds))
theorem Binds.all {K : PySem.W.Frag} {fd : FuncData} {ps : List Str} (h : ∀ us : List Value, us.length = ps.length -> bindArgs fd ⟨us, []⟩ = pure (ps.zip us)) : Binds K fd ps [] := fun s us _ hl => by
  rw [List.append_nil] at hl ⊢
  exact .of_eq (h us hl)
def Passes (CX : CXT) (X : Cx) (E : XK) : Prop := ∀ (pins : List (Addr × Obj)) (σ : St) (H : Hp) (s : Shared) (e : Value) (s' : Shared), Inv X pins σ H s -> CX X.stack H s E e s' -> X.xe e s'
section
variable {X : Cx} {CX : CXT} {k : Nat} {f C : Addr} {fd : FuncData} {ps : List Str} {sp : Sp} {dvs : List V} {ds : List Value} {E : XK} {x m : Str} {p pos apos : Pos} {e o : Expr} {es : List Expr} {ta : TE} {t : TA}
theorem run_fn {pins : List (Addr × Obj)} {σ : St} {H : Hp} {s : Shared} {Q : VK} {us : List Value} {vs : List V} (F : FnOk X.prog X.w X.K X.mg X.base CX k f fd ps sp) (hr : Room k X.A) (hb : Binds X.K fd ps ds) (hd : Vals dvs ds) (hx : Passes CX X E)
    (I : Inv X pins σ H s) (r : Vals vs us) (h : sp (vs ++ dvs) H Q E) : wpAny (model X.prog X.w) X.A (call (.ref f) us) (EP X pins σ Q) X.xe s := by
  have r2 : Vals (vs ++ dvs) (us ++ ds) := r.append hd
  have hl : (us ++ ds).length = ps.length := by rw [<- r2.length]; exact F.len _ _ _ _ h
  refine wpAny_call (codeAny_mono (F.run X.A X.stack s H ⟨us, []⟩ (us ++ ds) (vs ++ dvs) Q E hr I.env0 (hb s us I.kIn hl) r2 h) fun r s' hq => ?_)
  cases r with
  | error e => exact hx pins σ H s e s' I hq
  | ok fl =>
    cases fl with
    | ret u => exact I.after hq
    | next => exact False.elim hq
    | brk => exact False.elim hq
    | cont => exact False.elim hq
theorem pe_call (F : FnOk X.prog X.w X.K X.mg X.base CX k f fd ps sp) (hr : Room k X.A) (hg : Gl X x) (hm : X.mg x = some (.ref f)) (hk : PySem.W.keepIn X.K (.ref f) = true) (hb : Binds X.K fd ps ds) (hd : Vals dvs ds) (hx : Passes CX X E)
    (ha : PA X (e :: es) t) (hdb : (x == ("__debug__" : Str)) = false := by decide) (he : starEach (e :: es) X.env = (false, eval e X.env) :: starEach es X.env := by rfl) (hpl : (backTo pos (starEach es X.env)).any (·.1) = false := by rfl) :
    PE X (.Call (.Name x p) (e :: es) [] pos) (tCall sp dvs E t) := by
  intro pins s σ H Q I h
  refine wpAny_Call_Name_kw (ld_glob I hg hm ?_ hdb)
  refine PySem.W.callWith_K (h₀ := X.base) I.ok.mod.kin hk (thn (ha pos pins s σ H _ I h) fun us s1 ⟨vs, H1, I1, r, q⟩ => ⟨I1.kIn, ?_⟩) he hpl
  exact run_fn F hr hb hd hx I1 r q
end
def PK (X : Cx) (kws : List Keyword) (t : TA) : Prop :=
  ∀ (pos : Pos) (pins : List (Addr × Obj)) (s : Shared) (σ : St) (H : Hp) (Q : List V -> Hp -> Prop), Inv X pins σ H s -> t σ H Q -> wpAny (model X.prog X.w) X.A (evalAll ((backToKw pos (keywordEach kws X.env)).map (·.2))) (AP X pins σ Q) X.xe s
section
variable {X : Cx} {CX : CXT} {k : Nat} {f C : Addr} {fd : FuncData} {ps ks : List Str} {sp : Sp} {E : XK} {x m : Str} {p pos apos kpos : Pos} {e o : Expr} {es : List Expr} {kws : List Keyword} {te ta : TE} {t tk : TA} {nm : Option Str}
theorem pk_nil : PK X [] tNil := fun _ _ _ _ H Q I h => wpAny_evalAll_nil ⟨[], H, I, .nil, h⟩
theorem pk_cons (ha : PE X e te) (hr : PK X kws t) : PK X (⟨nm, e, kpos⟩ :: kws) (tCons te t) := by
  intro pos pins s σ H Q I h
  show wpAny _ _ (evalAll ((do let v <- eval e X.env; standAt pos; pure v) :: (backToKw pos (keywordEach kws X.env)).map (·.2))) _ _ s
  refine wpAny_evalAll_cons (wpAny_bind (thn (ha pins s σ H _ I h) fun u s1 ⟨x, H1, I1, r1, q1⟩ => wpAny_bind (wpAny_standAt (wpAny_pure ?_))))
  exact thn (hr pos pins s1 σ H1 _ I1 q1) fun us s2 ⟨xs, H2, I2, r2, q2⟩ => ⟨x :: xs, H2, I2, .cons r1 r2, q2⟩
variable {g : List Value -> List Value -> List Value} {gV : List V -> List V -> List V}
end
structure FnScope (N P : List Str) (sc : Scope) : Prop where
  kind : sc.kind = .function
  co : sc.isCoroutine = false
  gen : sc.isGenerator = false
  nd : N.Nodup
  pre : N.take P.length = P
  par : ∀ x ∈ P, sc.names.lookup x = some .local \/ sc.names.lookup x = some .cell
  nofree : ∀ y ∈ sc.names, y.2 ≠ .free
theorem bindL_out {kindOf : Str -> Option NameKind} {x : Str} : ∀ {binds : List (Str × Value)} {m : Str -> Option Value}, (∀ v, (x, v) ∉ binds) -> bindL kindOf binds m x = m x
  | [], _, _ => rfl
  | (n, v) :: r, m, h => by
    unfold bindL
    rw [bindL_out fun w hw => h w (List.mem_cons_of_mem _ hw)]
    split
    . have : x ≠ n := by rintro rfl; exact h v List.mem_cons_self
      simp [this]
    . rfl
theorem bindC_out {kindOf : Str -> Option NameKind} {x : Str} : ∀ {binds : List (Str × Value)} {m : Str -> Option Value}, (∀ v, (x, v) ∉ binds) -> bindC kindOf binds m x = m x
  | [], _, _ => rfl
  | (n, v) :: r, m, h => by
    unfold bindC
    rw [bindC_out fun w hw => h w (List.mem_cons_of_mem _ hw)]
    split
    . rfl
    . have : x ≠ n := by rintro rfl; exact h v List.mem_cons_self
      simp [this]
theorem bindL_get {kindOf : Str -> Option NameKind} {x : Str} {v : Value} : ∀ {P : List Str} {vs : List Value} {i : Nat} {m : Str -> Option Value}, P.Nodup -> P[i]? = some x -> vs[i]? = some v -> kindOf x = some .local ->
    bindL kindOf (P.zip vs) m x = some v
  | [], _, _, _, _, h, _, _ => by simp at h
  | _ :: _, [], _, _, _, _, h, _ => by simp at h
  | p :: P, w :: vs, 0, m, nd, h1, h2, hk => by
    simp at h1 h2; subst h1; subst h2
    show bindL kindOf ((p, w) :: P.zip vs) m p = _
    unfold bindL
    rw [bindL_out fun v hv => (List.nodup_cons.mp nd).1 (List.of_mem_zip hv).1, if_pos hk]
    simp
  | p :: P, w :: vs, i + 1, m, nd, h1, h2, hk => by
    show bindL kindOf ((p, w) :: P.zip vs) m x = _
    unfold bindL
    exact bindL_get (i := i) (List.nodup_cons.mp nd).2 (by simpa using h1) (by simpa using h2) hk
theorem bindC_get {kindOf : Str -> Option NameKind} {x : Str} {v : Value} : ∀ {P : List Str} {vs : List Value} {i : Nat} {m : Str -> Option Value}, P.Nodup -> P[i]? = some x -> vs[i]? = some v -> kindOf x ≠ some .local ->
    bindC kindOf (P.zip vs) m x = some v
  | [], _, _, _, _, h, _, _ => by simp at h
  | _ :: _, [], _, _, _, _, h, _ => by simp at h
  | p :: P, w :: vs, 0, m, nd, h1, h2, hk => by
    simp at h1 h2; subst h1; subst h2
    show bindC kindOf ((p, w) :: P.zip vs) m p = _
    unfold bindC
    rw [bindC_out fun v hv => (List.nodup_cons.mp nd).1 (List.of_mem_zip hv).1, if_neg hk]
    simp
  | p :: P, w :: vs, i + 1, m, nd, h1, h2, hk => by
    show bindC kindOf ((p, w) :: P.zip vs) m x = _
    unfold bindC
    exact bindC_get (i := i) (List.nodup_cons.mp nd).2 (by simpa using h1) (by simpa using h2) hk
def start (N : List Str) (vs : List V) : St := vs.map some ++ List.replicate (N.length - vs.length) none
def cxOf (CX : CXT) (P : Program) (w : World) (K : PySem.W.Frag) (mg : Str -> Option Value) (base : Heap) (N : List Str) (qual : Str) (scope : Scope) (f : Addr) (cd : Value) (A : Around) (outer : List Env) (s : Shared) (H : Hp) (E : XK) : Cx where
  prog := P
  w := w
  K := K
  mg := mg
  base := base
  A := A.deeper (envOfC qual scope s.heap.objs.size f cd)
  N := N
  s₀ := s
  H₀ := H
  env := envOfC qual scope s.heap.objs.size f cd
  outer := outer
  stack := envOfC qual scope s.heap.objs.size f cd :: outer
  ex := []
  calm := true
  fn := fun _ => true
  pn := []
  xe := fun e s' => wpAny (model P w) (A.deeper (envOfC qual scope s.heap.objs.size f cd)) (leaving (envOfC qual scope s.heap.objs.size f cd) e) (fun _ s'' => CX outer H s E e s'') (fun e' s'' => CX outer H s E e' s'') s'
theorem cell_has {sc : Scope} {n : Nat} {x : Str} (h : sc.names.lookup x = some .cell) : ∃ c, (cellsFrom n sc.names []).lookup x = some c := by
  have q := PySem.W.cellsFrom_some sc.names n [] (.inl h)
  exact Option.isSome_iff_exists.mp q
theorem inv_start {CX : CXT} {P : Program} {w : World} {K : PySem.W.Frag} {mg : Str -> Option Value} {base : Heap} {N ps : List Str} {qual : Str} {scope : Scope} {f : Addr} {cd : Value} {A : Around} {outer : List Env} {s s1 : Shared} {H : Hp} {E : XK} {us : List Value} {vs : List V}
    (S : FnScope N ps scope) (hd : A.handled = none) (e0 : Env0 P w K mg base A outer s H) (hl : vs.length = ps.length) (r : Vals vs us)
    (x : InCallC s s.heap.objs.size (bindL (envOfC qual scope s.heap.objs.size f cd).kindOf (ps.zip us) fun _ => none) (cellsFrom (s.heap.objs.size + 1) scope.names []) (bindC (envOfC qual scope s.heap.objs.size f cd).kindOf (ps.zip us) fun _ => none) s1) :
    Inv (cxOf CX P w K mg base N qual scope f cd A outer s H E) [] (start N vs) H s1 := by
  have hpl : ps.length <= N.length := by have := congrArg List.length S.pre; rw [List.length_take] at this; omega
  obtain ⟨h1, tk, rfl, hk⟩ := x.done
  have noA : ∀ b : Addr, b ∉ (cxOf CX P w K mg base N qual scope f cd A outer s H E).ex := fun b z => absurd (show b ∈ ([] : List Addr) from z) (by simp)
  refine ⟨⟨e0.mod, S.kind, rfl, rfl, Nat.le_refl _, fun y z c h1 h2 => ?_, fun y hy => ?_, fun y c _ h => ?_, fun _ => hd, Around.frames_deeper e0.frames, .inr ⟨rfl, rfl⟩, fun b z => absurd z (noA b), e0.bs, e0.bsz, fun b _ _ => noA b, fun b z => absurd z (noA b), e0.funs, e0.frf⟩,
    rfl, e0.bare, Un.kept hk, ⟨_, x.toInCall.ns, fun i y v h1 h2 h3 => ?_⟩, fun y c h => ⟨_, x.cell y c h⟩, e0.hok.fresh (Nat.le_refl _), fun y c h => ?_, fun p hp => absurd (show p ∈ ([] : List (Addr × Obj)) from hp) (by simp), e0.hok.kept hk, ?_⟩
  . exact name_of_addr x.apart (PySem.mem_of_lookup h1) (PySem.mem_of_lookup h2)
  . have hy : scope.names.lookup y = some .cell \/ scope.names.lookup y = some .free := hy
    rcases hy with hy | hy
    . exact cell_has hy
    . exact absurd rfl (S.nofree _ (PySem.mem_of_lookup hy))
  . exact Nat.le_of_lt (x.above y c (PySem.mem_of_lookup h))
  . have hi : i < vs.length := by
      unfold start at h2
      by_cases hi : i < vs.length
      . exact hi
      . rw [List.getElem?_append_right (by simpa using hi)] at h2
        rw [List.getElem?_replicate] at h2
        split at h2 <;> cases h2
    have ha : vs[i]? = some v := by
      unfold start at h2
      rw [List.getElem?_append_left (by simpa using hi), List.getElem?_map] at h2
      cases e : vs[i]? with
      | none => rw [e] at h2; cases h2
      | some a => rw [e] at h2; cases h2; rfl
    obtain ⟨u, hu, rv⟩ := r.get ha
    have hp : ps[i]? = some y := by
      rw [<- S.pre, List.getElem?_take_of_lt (by omega)]; exact h1
    have ndP : ps.Nodup := by rw [<- S.pre]; exact S.nd.sublist (List.take_sublist _ _)
    refine ⟨u, rv, ?_⟩
    rcases S.par y (List.mem_of_getElem? hp) with k | k
    . exact .inl ⟨k, bindL_get ndP hp hu k⟩
    . obtain ⟨c, e⟩ := cell_has (n := s.heap.objs.size + 1) k
      refine .inr ⟨.inl k, c, e, ?_⟩
      have q := x.cell y c e
      rw [bindC_get ndP hp hu (by show scope.names.lookup y ≠ _; rw [k]; decide)] at q
      exact q
  . exact e0.hok.fresh (Nat.le_of_lt (x.above y c (PySem.mem_of_lookup h)))
  . unfold start
    show _ = N.length
    rw [List.length_append, List.length_map, List.length_replicate]
    omega
theorem fn_of {CX : CXT} {P : Program} {w : World} {K : PySem.W.Frag} {mg : Str -> Option Value} {base : Heap} {k : Nat} {f : Addr} {name qual : Str} {params : Arguments} {body : List Stmt} {scope : Scope} {dV kV doc pm cdv ct oc : Value} {an od : Option Addr}
    {osl : Array (Option Value)} {N ps : List Str} {sp : Sp} (lk : K.lookup f = some ⟨oc, od, .func (PySem.W.fnOf name qual params body scope dV kV doc pm an cdv ct), osl⟩) (hcd : PySem.W.codeIn K cdv qual = true) (S : FnScope N ps scope)
    (len : ∀ vs H Q E, sp vs H Q E -> vs.length = ps.length)
    (hbody : ∀ (A : Around) (outer : List Env) (s : Shared) (H : Hp) (vs : List V) (Q : VK) (E : XK), Room k (A.deeper (envOfC qual scope s.heap.objs.size f cdv)) -> sp vs H Q E ->
      ∃ t, PSs (cxOf CX P w K mg base N qual scope f cdv A outer s H E) body t /\ t { nx := fun _ H' => Q .non H', rt := Q } (start N vs) H) :
    FnOk P w K mg base CX (k + 1) f (PySem.W.fnOf name qual params body scope dV kV doc pm an cdv ct) ps sp := by
  refine ⟨len, fun A outer s H args us vs Q E hr e0 hb r hsp => ?_⟩
  have hl := len _ _ _ _ hsp
  have KX : K.In s.heap := e0.mod.kin.keeps fun b o e => (e0.bs b o e).1
  have lim : s.heap.NoLimit := e0.mod.nolimit.keeps fun b o e => (e0.bs b o e).1
  have hkind : ∀ y ∈ ps.zip us, scope.names.lookup y.1 = some .local \/ (scope.names.lookup y.1 = some .cell /\ ((cellsFrom (s.heap.objs.size + 1) scope.names []).lookup y.1).isSome = true) := fun ⟨n, v⟩ hy => by
    rcases S.par n (List.of_mem_zip hy).1 with q | q
    . exact .inl q
    . exact .inr ⟨q, PySem.W.cellsFrom_some _ _ _ (.inl q)⟩
  refine codeAny_call_function hr.depth (KX _ _ lk) rfl S.co S.gen rfl (PySem.W.codeRec_of KX hcd) (hb _ _ _ _ ?_)
  refine wpAny_newFunctionEnv_cells S.kind hkind fun env he s1 x => ?_
  subst he
  refine ⟨lim.keeps x.toInCall.keep, codeAny_func ?_⟩
  obtain ⟨t, ht, hq⟩ := hbody A outer s H vs Q E (hr.deeper _) hsp
  have I : Inv (cxOf CX P w K mg base N qual scope f cdv A outer s H E) [] (start N vs) H s1 := inv_start S hr.hd e0 hl r x
  refine wpAny_mono (ht [] s1 (start N vs) H _ I hq) (fun fl s' hs => ?_) fun e s' hs => hs
  have fin : ∀ {σ' : St} {H' : Hp} {v : V} {u : Value}, Inv (cxOf CX P w K mg base N qual scope f cdv A outer s H E) [] σ' H' s' -> RelV v u -> Q v H' -> CE outer P w H s Q u s' :=
    fun {σ' H' v u} J rv q => ⟨v, H', J.os, J.bare, J.base, J.hok, rv, q⟩
  cases fl with
  | ret u =>
    obtain ⟨v, σ', H', J, rv, q⟩ := hs
    exact fin J rv q
  | next =>
    obtain ⟨σ', H', J, q⟩ := hs
    exact fin (v := V.non) (u := Value.none) J rfl q
  | brk =>
    obtain ⟨_, _, _, q⟩ := hs
    exact False.elim q
  | cont =>
    obtain ⟨_, _, _, q⟩ := hs
    exact False.elim q
end L2
namespace L2
open PySem PySem.Spec PyProof.Rows
section
variable {X : Cx} {x : Str} {p pos : Pos} {e : Expr} {es : List Expr} {t : TA} {id T : String} {r : List V -> Hp -> VK -> Prop}
def tCB (r : List V -> Hp -> VK -> Prop) (t : TA) : TE := fun σ H Q => t σ H fun vs H1 => r vs H1 Q
theorem pe_callB (hc : CallR X (.builtin id) r) (hg : Gl X x) (hm : X.mg x = none) (hv : bootBuiltins x = some (.builtin id)) (ha : PA X (e :: es) t) (hn : x ≠ "__name__" := by decide) (hdb : (x == ("__debug__" : Str)) = false := by decide)
    (he : starEach (e :: es) X.env = (false, eval e X.env) :: starEach es X.env := by rfl) (hpl : (backTo pos (starEach es X.env)).any (·.1) = false := by rfl) : PE X (.Call (.Name x p) (e :: es) [] pos) (tCB r t) := by
  intro pins s σ H Q I h
  refine wpAny_Call_Name_kw (ld_blt I hg hm hv ?_ hn hdb)
  exact PyProof.Rows.callWith_builtin1 (thn (ha pos pins s σ H _ I h) fun us s1 ⟨vs, H1, I1, r1, q1⟩ => hc pins s1 σ H1 vs us Q I1 r1 q1) he hpl
theorem pe_callTy (hc : CallR X (.type T) r) (hg : Gl X x) (hm : X.mg x = none) (hv : bootBuiltins x = some (.type T)) (ha : PA X (e :: es) t) (hn : x ≠ "__name__" := by decide) (hdb : (x == ("__debug__" : Str)) = false := by decide)
    (he : starEach (e :: es) X.env = (false, eval e X.env) :: starEach es X.env := by rfl) (hpl : (backTo pos (starEach es X.env)).any (·.1) = false := by rfl) : PE X (.Call (.Name x p) (e :: es) [] pos) (tCB r t) := by
  intro pins s σ H Q I h
  refine wpAny_Call_Name_kw (ld_blt I hg hm hv ?_ hn hdb)
  exact PyProof.Rows.callWith_type1 (thn (ha pos pins s σ H _ I h) fun us s1 ⟨vs, H1, I1, r1, q1⟩ => hc pins s1 σ H1 vs us Q I1 r1 q1) he hpl
end
end L2
namespace HT
open PySem PyProof.Rows
section
open PySem.SeqAt
open PySem.AutoSeq1 (wpAny_loadPart')
open PySem.MeetsSeq PySem.MeetsSeq2 PySem.MeetsSeq3
end
section
variable {prog : Program} {w : World} {A : Around} {E : Value -> Shared -> Prop} {s : Shared}
theorem cat_tup {t b : Addr} {vs ws : List Value} {Q : Value -> Shared -> Prop} (ht : IsTup s.heap t vs.toArray) (hb : IsTup s.heap b ws.toArray) (hv : vs ≠ [])
    (h1 : ws = [] -> Q (.ref t) s) (h2 : ws ≠ [] -> Q (.ref s.heap.objs.size) { s with heap := s.heap.push { cls := .type "tuple", data := .seq (vs ++ ws).toArray } })
    (hsz : vs.length + ws.length <= sizeLine) : wpAny (model prog w) A (binaryOp .Add (.ref t) (.ref b)) Q E s := by
  obtain ⟨⟨cls, dd, data, sl⟩, ho, hc, n, hd⟩ := id ht
  obtain ⟨⟨cls2, dd2, data2, sl2⟩, ho2, hc2, n2, hd2⟩ := id hb
  simp only at hc hd hc2 hd2
  subst hc hd hc2 hd2
  have e : vs.toArray ++ ws.toArray = (vs ++ ws).toArray := by simp
  by_cases hw : ws = []
  . exact concat_meets ⟨_, ho, rfl⟩ ⟨_, ho2, rfl⟩ noFill_tuple_add seq_tuple_add PySem.F.slot_tuple_add PySem.F.entry_tuple_add (PySem.F.args_tuple_add_2 _ _)
      (tuple_addW1 t b vs.toArray ws.toArray n n2 dd dd2 sl sl2 (by simpa using hv) (by simp [hw])) ⟨ho, ho2, h1 hw⟩
  . refine concat_meets ⟨_, ho, rfl⟩ ⟨_, ho2, rfl⟩ noFill_tuple_add seq_tuple_add PySem.F.slot_tuple_add PySem.F.entry_tuple_add (PySem.F.args_tuple_add_2 _ _)
      (tuple_addW2 t b vs.toArray ws.toArray n n2 dd dd2 sl sl2 (by simpa using hv) (by simpa using hw) (by rw [List.size_toArray, List.size_toArray]; exact hsz)) ⟨ho, ho2, ?_⟩
    rw [e]
    exact h2 hw
def sIx (n d : Nat) : Option Int -> Nat
  | none => d
  | some v => if v < 0 then (v + (n : Int)).toNat else min v.toNat n
end
end HT
namespace L2
open PySem PySem.Spec PyProof.Rows
abbrev TO := St -> Hp -> (Option Int -> Hp -> Prop) -> Prop
def PO (X : Cx) (e : Option Expr) (t : TO) : Prop :=
  ∀ (pins : List (Addr × Obj)) (s : Shared) (σ : St) (H : Hp) (Q : Option Int -> Hp -> Prop), Inv X pins σ H s -> t σ H Q ->
    wpAny (model X.prog X.w) X.A (evalPart e X.env) (fun u s' => ∃ o H', Inv X pins σ H' s' /\ IsPart u o /\ Q o H') X.xe s
def tNoPart : TO := fun _ H Q => Q none H
def tPart (t : TE) : TO := fun σ H Q => t σ H fun x H1 => ∃ i, x = .int i /\ Q (some i) H1
section
variable {X : Cx} {e : Expr} {te : TE} {lo hi : Option Expr} {tl th : TO} {pos p2 : Pos}
theorem po_none : PO X none tNoPart := by
  intro pins s σ H Q I h
  rw [evalPart_none]
  exact wpAny_pure ⟨none, H, I, .none, h⟩
theorem po_some (h : PE X e te) : PO X (some e) (tPart te) := by
  intro pins s σ H Q I hw
  rw [evalPart_some]
  refine thn (h pins s σ H _ I hw) fun u s1 ⟨x, H1, I1, r1, q1⟩ => ?_
  obtain ⟨i, rfl, q⟩ := q1
  obtain ⟨t, rfl⟩ := r1
  exact ⟨some i, H1, I1, .int i t, q⟩
def SlR (X : Cx) (r : V -> Option Int -> Option Int -> Hp -> VK -> Prop) : Prop :=
  ∀ (pins : List (Addr × Obj)) (s : Shared) (σ : St) (H : Hp) (x : V) (v vl vu : Value) (lo hi : Option Int) (sl : Addr) (Q : VK), Inv X pins σ H s -> RelV x v -> s.heap.IsSliceOf sl vl vu .none -> IsPart vl lo -> IsPart vu hi -> r x lo hi H Q ->
    ∃ T id, typeLookup (.type T) "__getitem__" = pure (some (.builtin id)) /\ s.TypeIs v T /\ wpAny (model X.prog X.w) X.A (getItem v (.ref sl)) (EP X pins σ Q) X.xe s
def tSl (r : V -> Option Int -> Option Int -> Hp -> VK -> Prop) (te : TE) (tl th : TO) : TE := fun σ H Q => te σ H fun x H1 => tl σ H1 fun l H2 => th σ H2 fun u H3 => r x l u H3 Q
theorem pe_slice {r : V -> Option Int -> Option Int -> Hp -> VK -> Prop} (hr : SlR X r) (he : PE X e te) (hl : PO X lo tl) (hu : PO X hi th) : PE X (.Subscript e (.Slice lo hi none p2) pos) (tSl r te tl th) := by
  intro pins s σ H Q I h
  refine Subscript_ (thn (he pins s σ H _ I h) fun v s1 ⟨x, H1, I1, r1, q1⟩ => ?_)
  refine wpAny_Slice (thn (hl pins s1 σ H1 _ I1 q1) fun vl s2 ⟨l, H2, I2, pl, q2⟩ => thn (hu pins s2 σ H2 _ I2 q2) fun vu s3 ⟨u, H3, I3, pu, q3⟩ => ?_)
  rw [evalPart_none]
  refine wpAny_pure ?_
  have I4 : Inv X pins σ H3 { s3 with heap := s3.heap.push { cls := .type "slice", data := .fields #[vl, vu, .none] } } := I3.kept (t' := s3.toks) fun b ob q => Heap.get?_push_of_some _ q
  obtain ⟨T, id, hT, ht, hg⟩ := hr pins { s3 with heap := s3.heap.push { cls := .type "slice", data := .fields #[vl, vu, .none] } } σ H3 x v vl vu l u s3.heap.objs.size Q I4 r1 (Heap.IsSliceOf.new ..) pl pu q3
  show wpAny (model X.prog X.w) X.A (subscriptTail e (.Slice lo hi none p2) v (.ref s3.heap.objs.size)) (EP X pins σ Q) X.xe { s3 with heap := s3.heap.push { cls := .type "slice", data := .fields #[vl, vu, .none] } }
  exact tail_any (ops := [.ref s3.heap.objs.size, v]) ht hT hg (by with_unfolding_all rfl)
def cutV (xs : List V) (lo hi : Option Int) : List V := (xs.drop (HT.sIx xs.length 0 lo)).take (HT.sIx xs.length xs.length hi - HT.sIx xs.length 0 lo)
theorem cutV_length (xs : List V) (lo hi : Option Int) : (cutV xs lo hi).length <= xs.length := by
  unfold cutV
  rw [List.length_take, List.length_drop]
  omega
def rCatT (K : PySem.W.Frag) : R2 := fun x y H Q => ∃ a b xs ys, x = .ref a /\ y = .ref b /\ SqT K H a xs /\ SqT K H b ys /\ xs ≠ [] /\ xs.length + ys.length <= sizeLine /\
  (ys = [] -> Q (.ref a) H) /\ (ys ≠ [] -> ∀ p, H p = none -> Q (.ref p) (upd H p (.tup (xs ++ ys))))
theorem Vals.nil_iff {xs : List V} {us : List Value} (r : Vals xs us) : us = [] ↔ xs = [] := by
  cases r with
  | nil => simp
  | cons _ _ => simp
theorem op_catT : OpR X (binaryOp .Add) (rCatT X.K) := by
  intro pins s σ H x y v u Q I rx ry h
  obtain ⟨a, b, xs, ys, rfl, rfl, ha, hb, hx, hz, q1, q2⟩ := h
  cases rx
  cases ry
  obtain ⟨its, r1, p1, _⟩ := I.tuple ha
  obtain ⟨its2, r2, p2, _⟩ := I.tuple hb
  refine HT.cat_tup p1 p2 (fun z => hx (r1.nil_iff.mp z)) (fun z => ⟨.ref a, H, I, rfl, q1 (r2.nil_iff.mp z)⟩) (fun z => ?_) (by rw [<- r1.length, <- r2.length]; exact hz)
  refine ⟨.ref s.heap.objs.size, _, I.laid (t' := s.toks) (o := .tup (xs ++ ys)) (fun b ob q => Heap.get?_push_of_some _ q) (Nat.le_refl _) ?_, rfl, q2 (fun w => z (r2.nil_iff.mpr w)) _ (I.hok.fresh (Nat.le_refl _))⟩
  exact ⟨by rw [List.length_append]; exact hz, _, r1.append r2, IsTup.new _ _⟩
end
end L2
namespace L2
open PySem PySem.Spec PyProof.Rows
def ixN (n : Nat) (i : Int) : Option Nat := if 0 <= i then (if i < n then some i.toNat else none) else if -(n : Int) <= i then some (i + n).toNat else none
def atI {α : Type} (xs : List α) (i : Int) : Option α := (ixN xs.length i).bind fun j => xs[j]?
theorem ixN_seq {n : Nat} {i : Int} {j : Nat} (h : ixN n i = some j) : seqIndex? i n = some j /\ j < n /\ -(n : Int) <= i /\ i < n := by
  unfold ixN at h
  by_cases h0 : 0 <= i
  . rw [if_pos h0] at h
    by_cases h1 : i < n
    . rw [if_pos h1] at h
      have e : i.toNat = j := Option.some.inj h
      exact ⟨by rw [seqIndex_of h0 h1, e], by omega, by omega, h1⟩
    . rw [if_neg h1] at h; cases h
  . rw [if_neg h0] at h
    by_cases h1 : -(n : Int) <= i
    . rw [if_pos h1] at h
      have e : (i + n).toNat = j := Option.some.inj h
      exact ⟨by rw [seqIndex_neg (by omega) h1, e], by omega, h1, by omega⟩
    . rw [if_neg h1] at h; cases h
theorem atI_get {α : Type} {xs : List α} {i : Int} {v : α} (h : atI xs i = some v) : ∃ j, seqIndex? i xs.length = some j /\ xs[j]? = some v /\ j < xs.length /\ -(xs.length : Int) <= i /\ i < xs.length := by
  unfold atI at h
  cases e : ixN xs.length i with
  | none => rw [e] at h; cases h
  | some j =>
    rw [e] at h
    obtain ⟨h1, h2, h3, h4⟩ := ixN_seq e
    exact ⟨j, h1, h, h2, h3, h4⟩
def PlainIx (b : Expr) : Prop := ∀ o i, subscripted b false o i = operate [o, i] (getItem o i)
def IxR (X : Cx) (r : R2) : Prop :=
  ∀ (value slice : Expr) (pins : List (Addr × Obj)) (s : Shared) (σ : St) (H : Hp) (x y : V) (v u : Value) (Q : VK), Inv X pins σ H s -> RelV x v -> RelV y u -> r x y H Q ->
    subscripted slice false v u = operate [v, u] (getItem v u) -> wpAny (model X.prog X.w) X.A (subscriptTail value slice v u) (EP X pins σ Q) X.xe s
def MtR (X : Cx) (id : String) (r : V -> List V -> Hp -> VK -> Prop) : Prop :=
  ∀ (pins : List (Addr × Obj)) (s : Shared) (σ : St) (H : Hp) (x : V) (xs : List V) (v : Value) (us : List Value) (Q : VK), Inv X pins σ H s -> RelV x v -> Vals xs us -> r x xs H Q ->
    wpAny (model X.prog X.w) X.A (call (.builtin id) (v :: us)) (EP X pins σ Q) X.xe s
section
variable {X : Cx} {a b : Expr} {ta tb : TE} {pos : Pos}
theorem IxR.or {r r' : R2} (h : IxR X r) (h' : IxR X r') : IxR X (fun x y H Q => r x y H Q \/ r' x y H Q) := by
  intro value slice pins s σ H x y v u Q I rx ry q hs
  rcases q with q | q
  . exact h value slice pins s σ H x y v u Q I rx ry q hs
  . exact h' value slice pins s σ H x y v u Q I rx ry q hs
theorem pe_ix {r : R2} (hr : IxR X r) (ha : PE X a ta) (hb : PE X b tb) (hs : PlainIx b) : PE X (.Subscript a b pos) (tOp r ta tb) := by
  intro pins s σ H Q I h
  exact Subscript_ (binT ha hb I h fun v u s2 x y H2 I2 rx ry q => hr a b pins s2 σ H2 x y v u Q I2 rx ry q (hs _ _))
def rIxL (K : PySem.W.Frag) : R2 := fun x y H Q => ∃ p xs i v, x = .ref p /\ y = .int i /\ SqL K H p xs /\ atI xs i = some v /\ Q v H
def rIxT (K : PySem.W.Frag) : R2 := fun x y H Q => ∃ p xs i v, x = .ref p /\ y = .int i /\ SqT K H p xs /\ atI xs i = some v /\ Q v H
def rIxS : R2 := fun x y H Q => ∃ z i c, x = .str z /\ y = .int i /\ z.length <= sizeLine /\ atI z.cps.toList i = some c /\ Q (.str ⟨#[c]⟩) H
theorem ix_list : IxR X (rIxL X.K) := by
  intro value slice pins s σ H x y v u Q I rx ry h hs
  obtain ⟨p, xs, i, z, rfl, rfl, hq, he, q⟩ := h
  cases rx
  obtain ⟨t, rfl⟩ := ry
  obtain ⟨its, r, pl, hz⟩ := I.list hq
  obtain ⟨j, h1, h2, h3, h4, h5⟩ := atI_get he
  obtain ⟨w, ew, rw'⟩ := r.get h2
  have hl := r.length
  have hn := line63
  have fin : EP X pins σ Q w s := ⟨z, H, I, rw', q⟩
  by_cases h0 : 0 <= i
  . have hj : i.toNat = j := by
      rw [seqIndex_of h0 h5] at h1
      exact Option.some.inj h1
    exact item_listR pl.isList h0 (by omega) (by rw [hj]; simpa using ew) fin hs
  . have hj : (i + (its.toArray.size : Int)).toNat = j := by
      rw [seqIndex_neg (by omega) h4] at h1
      rw [List.size_toArray, <- hl]
      exact Option.some.inj h1
    exact subscriptTail_builtinR (x := w) pl.isList.typeIs slot_list_getitem.lookup
      (wpAny_getItem_list_neg (Q := fun r s' => r = w /\ EP X pins σ Q r s') pl.isList (by omega) (by rw [List.size_toArray] <;> omega) (by omega) (by rw [hj]; simpa using ew) ⟨rfl, fin⟩) hs
theorem ix_tup : IxR X (rIxT X.K) := by
  intro value slice pins s σ H x y v u Q I rx ry h hs
  obtain ⟨p, xs, i, z, rfl, rfl, hq, he, q⟩ := h
  cases rx
  obtain ⟨t, rfl⟩ := ry
  obtain ⟨its, r, pl, hz⟩ := I.tuple hq
  obtain ⟨j, h1, h2, h3, h4, h5⟩ := atI_get he
  obtain ⟨w, ew, rw'⟩ := r.get h2
  have hl := r.length
  have hn := line63
  have fin : EP X pins σ Q w s := ⟨z, H, I, rw', q⟩
  exact subscriptTail_builtinR (x := w) pl.typeIs slot_tuple_getitem.lookup
    (getItem_tuple (j := j) (Q := fun r s' => r = w /\ EP X pins σ Q r s') pl (by omega) (by omega) (by rw [List.size_toArray, <- hl]; exact h1) (by simpa using ew) ⟨rfl, fin⟩) hs
theorem ix_str : IxR X rIxS := by
  intro value slice pins s σ H x y v u Q I rx ry h hs
  obtain ⟨z, i, c, rfl, rfl, hz, he, q⟩ := h
  obtain ⟨t, rfl⟩ := rx
  obtain ⟨t', rfl⟩ := ry
  obtain ⟨j, h1, h2, h3, h4, h5⟩ := atI_get he
  have hl : z.cps.toList.length = z.length := by simp [Str.length]
  rw [hl] at h1 h4 h5
  have hn := line63
  exact tail_any (typeIs_str s z t) slot_str_getitem.lookup (getItem_str (c := c) (by
    have e1 : decide (i < -(2 ^ 63 : Int)) = false := decide_eq_false (by omega)
    have e2 : decide (i ≥ 2 ^ 63) = false := decide_eq_false (by omega)
    rw [e1, e2, Bool.or_false]) (by rw [h1]; simpa using h2) ⟨.str ⟨#[c]⟩, H, I.tok _, ⟨_, rfl⟩, q⟩) hs
def rIx (K : PySem.W.Frag) : R2 := fun x y H Q => rIxL K x y H Q \/ rIxT K x y H Q \/ rIxS x y H Q
theorem ix_seq : IxR X (rIx X.K) := ix_list.or (ix_tup.or ix_str)
theorem mapSeq_set (its : List Value) (n j : Nat) (u : Value) : Obj.mapSeq (·.setIfInBounds j u) { cls := .type "list", data := .seq its.toArray n } = { cls := .type "list", data := .seq (its.set j u).toArray n } := by
  simp [Obj.mapSeq]
theorem Inv.lst {pins : List (Addr × Obj)} {σ : St} {H : Hp} {s : Shared} {p : Addr} {xs : List V} (I : Inv X pins σ H s) (h : H p = some (.lst xs)) :
    ∃ (its : List Value) (n : Nat), Vals xs its /\ s.heap.get? p = some { cls := .type "list", data := .seq its.toArray n } /\ xs.length <= sizeLine := by
  obtain ⟨z, its, n, r, e⟩ := I.hok p _ h
  exact ⟨its, n, r, e, z⟩
theorem Inv.lstUpd {pins : List (Addr × Obj)} {σ : St} {H : Hp} {s : Shared} {p : Addr} {xs ys : List V} {its its' : List Value} {n n' : Nat} {f : Obj -> Obj} (I : Inv X pins σ H s) (h : H p = some (.lst xs))
    (ho : s.heap.get? p = some { cls := .type "list", data := .seq its.toArray n }) (hf : f { cls := .type "list", data := .seq its.toArray n } = { cls := .type "list", data := .seq its'.toArray n' }) (r : Vals ys its') (hz : ys.length <= sizeLine) (t : Nat) :
    Inv X pins σ (upd H p (.lst ys)) { s with heap := s.heap.update p f, toks := t } := by
  have e : (s.heap.update p f).get? p = some { cls := .type "list", data := .seq its'.toArray n' } := by
    rw [Heap.get?_update_self f ho (by rw [hf] <;> rfl), hf]
  refine I.write (x := p) (e := p) (by rw [h]; trivial) (.inl rfl) (fun b u hb q => (Heap.get?_update_other _ _ (Ne.symm hb)).trans q) ⟨_, e⟩ ?_
  exact ⟨hz, its', n', r, e⟩
def rSetL : V -> V -> V -> Hp -> (Hp -> Prop) -> Prop := fun o i v H Q => ∃ p xs k j, o = .ref p /\ i = .int k /\ H p = some (.lst xs) /\ ixN xs.length k = some j /\ Q (upd H p (.lst (xs.set j v)))
theorem set_list : PSet X rSetL := by
  intro pins s σ H o i v ov iv u Q I ro ri rv h
  obtain ⟨p, xs, k, j, rfl, rfl, hp, hj, q⟩ := h
  cases ro
  obtain ⟨t, rfl⟩ := ri
  obtain ⟨its, n, r, ho, hz⟩ := I.lst hp
  obtain ⟨h1, h2, h3, h4⟩ := ixN_seq hj
  have hl := r.length
  have hn := line63
  have I' : Inv X pins σ (upd H p (.lst (xs.set j v))) { s with heap := s.heap.update p (Obj.mapSeq (·.setIfInBounds j u)) } :=
    I.lstUpd hp ho (mapSeq_set its n j u) (r.set rv j) (by rw [List.length_set]; exact hz) s.toks
  by_cases h0 : 0 <= k
  . have hk : k.toNat = j := by
      rw [seqIndex_of h0 h4] at h1
      exact Option.some.inj h1
    exact PySem.W.ki_setAt ho h0 (by omega) (by rw [List.size_toArray, <- hl]; exact h4) (by rw [hk]; exact ⟨_, I', q⟩)
  . have hk : (k + (its.toArray.size : Int)).toNat = j := by
      rw [seqIndex_neg (by omega) h3] at h1
      rw [List.size_toArray, <- hl]
      exact Option.some.inj h1
    exact PySem.W.ki_setBack ho (by omega) (by rw [List.size_toArray, <- hl]; exact h3) (by omega) (by rw [hk]; exact ⟨_, I', q⟩)
theorem slice_bounds (lo hi : Option Int) (n : Nat) : (sliceBounds lo hi none n).1 = ((HT.sIx n 0 lo : Nat) : Int) /\ (sliceBounds lo hi none n).2.1 = ((HT.sIx n n hi : Nat) : Int) /\ (sliceBounds lo hi none n).2.2 = 1 := by
  refine ⟨?_, ?_, rfl⟩
  . cases lo with
    | none => simp [sliceBounds, HT.sIx]
    | some i =>
      simp only [sliceBounds, HT.sIx, Option.getD_none, show (1 : Int) > 0 by decide, if_true]
      by_cases h : i < 0
      . simp only [h, if_true] <;> omega
      . simp only [h, if_false] <;> omega
  . cases hi with
    | none => simp [sliceBounds, HT.sIx]
    | some i =>
      simp only [sliceBounds, HT.sIx, Option.getD_none, show (1 : Int) > 0 by decide, if_true]
      by_cases h : i < 0
      . simp only [h, if_true] <;> omega
      . simp only [h, if_false] <;> omega
theorem slicePick_cut (its : List Value) (lo hi : Option Int) : slicePick its.toArray lo hi none = ((its.drop (HT.sIx its.length 0 lo)).take (HT.sIx its.length its.length hi - HT.sIx its.length 0 lo)).toArray := by
  obtain ⟨h1, h2, h3⟩ := slice_bounds lo hi its.toArray.size
  unfold slicePick
  rw [h1, h2, h3]
  simp only [sliceRange_one, pick_run, List.size_toArray] <;> rfl
def rSlL (K : PySem.W.Frag) : V -> Option Int -> Option Int -> Hp -> VK -> Prop := fun x lo hi H Q => ∃ a xs, x = .ref a /\ SqL K H a xs /\ ∀ p, H p = none -> Q (.ref p) (upd H p (.lst (cutV xs lo hi)))
theorem sl_list : SlR X (rSlL X.K) := by
  intro pins s σ H x v vl vu lo hi sl Q I rx hs pl pu h
  obtain ⟨a, xs, rfl, hx, q⟩ := h
  cases rx
  obtain ⟨its, r, ht, hz⟩ := I.list hx
  have hlen := r.length
  refine ⟨"list", _, slot_list_getitem.lookup, ht.isList.typeIs, ?_⟩
  refine wpAny_getItem_list_slice ht.isList hs pl pu .none (by simp) ?_ (by rw [List.size_toArray] <;> omega)
  rw [slicePick_cut, <- hlen]
  refine ⟨.ref s.heap.objs.size, _, I.laid (t' := s.toks) (o := .lst (cutV xs lo hi)) (fun b ob q => Heap.get?_push_of_some _ q) (Nat.le_refl _) ?_, rfl, q _ (I.hok.fresh (Nat.le_refl _))⟩
  exact ⟨Nat.le_trans (cutV_length xs lo hi) hz, _, 0, (r.drop (HT.sIx xs.length 0 lo)).take (HT.sIx xs.length xs.length hi - HT.sIx xs.length 0 lo), Heap.get?_push_size _ rfl⟩
theorem call_len_seq : CallR X (.builtin "len") (fun xs H Q => ∃ p ys, xs = [.ref p] /\ (SqL X.K H p ys \/ SqT X.K H p ys) /\ Q (.int ys.length) H) := by
  intro pins s σ H xs us Q I r h
  obtain ⟨p, ys, rfl, hq, q⟩ := h
  obtain ⟨u, rfl, rx⟩ := vals1 r
  cases rx
  have hn := line63
  rcases hq with hq | hq
  . obtain ⟨its, r', pl, hz⟩ := I.list hq
    have hlen := r'.length
    exact Calls.call_len_list pl.isList (by simp only [List.size_toArray] <;> omega) ⟨.int ys.length, H, I.tok _, ⟨s.toks + 1, by rw [List.size_toArray, hlen]⟩, q⟩
  . obtain ⟨its, r', pl, hz⟩ := I.tuple hq
    have hlen := r'.length
    exact len_tuple pl (by simp only [List.size_toArray] <;> omega) ⟨.int ys.length, H, I.tok _, ⟨s.toks + 1, by rw [List.size_toArray, hlen]⟩, q⟩
theorem call_list_of : CallR X (.type "list") (fun xs H Q => ∃ p ys, xs = [.ref p] /\ (SqL X.K H p ys \/ SqT X.K H p ys) /\ ∀ l, H l = none -> Q (.ref l) (upd H l (.lst ys))) := by
  intro pins s σ H xs us Q I r h
  obtain ⟨p, ys, rfl, hq, q⟩ := h
  obtain ⟨u, rfl, rx⟩ := vals1 r
  cases rx
  have fin : ∀ (its : List Value), Vals ys its -> ys.length <= sizeLine -> ∀ (h' : Heap) (c' : Nat), (∀ b o', s.heap.get? b = some o' -> h'.get? b = some o') ->
      h'.get? s.heap.objs.size = some { cls := .type "list", dict := none, data := .seq its.toArray c', slots := #[] } -> EP X pins σ Q (.ref s.heap.objs.size) { s with heap := h' } := fun its r' hz h' c' kp e =>
    ⟨.ref s.heap.objs.size, _, I.laid (t' := s.toks) kp (Nat.le_refl _) (show ObjOk X.prog X.w _ h' _ (.lst ys) from ⟨hz, its, c', r', e⟩), rfl, q _ (I.hok.fresh (Nat.le_refl _))⟩
  rcases hq with hq | hq
  . obtain ⟨its, r', pl, hz⟩ := I.list hq
    have hlen := r'.length
    obtain ⟨o, ho, hc, n, hd⟩ := pl.isList
    exact call_list_seq p (.inl rfl) ho hc hd (fun h' c' kp e => fin its r' hz h' c' kp e) (by simp only [List.size_toArray] <;> omega)
  . obtain ⟨its, r', pl, hz⟩ := I.tuple hq
    have hlen := r'.length
    obtain ⟨o, ho, hc, n, hd⟩ := pl
    exact call_list_seq p (.inr rfl) ho hc hd (fun h' c' kp e => fin its r' hz h' c' kp e) (by simp only [List.size_toArray] <;> omega)
theorem call_tuple_of : CallR X (.type "tuple") (fun xs H Q => ∃ p ys, xs = [.ref p] /\ ((SqL X.K H p ys /\ ∀ l, H l = none -> Q (.ref l) (upd H l (.tup ys))) \/ (SqT X.K H p ys /\ Q (.ref p) H))) := by
  intro pins s σ H xs us Q I r h
  obtain ⟨p, ys, rfl, h⟩ := h
  obtain ⟨u, rfl, rx⟩ := vals1 r
  cases rx
  rcases h with ⟨hq, q⟩ | ⟨hq, q⟩
  . obtain ⟨its, r', pl, hz⟩ := I.list hq
    have hlen := r'.length
    refine call_tuple_list pl.isList (fun h' kp => ?_) (by simp only [List.size_toArray] <;> omega)
    have I1 : Inv X pins σ H { s with heap := h' } := I.kept (t' := s.toks) kp
    have I2 : Inv X pins σ (upd H h'.objs.size (.tup ys)) { s with heap := h'.push { cls := .type "tuple", data := .seq its.toArray } } :=
      I1.laid (t' := s.toks) (fun b o e => Heap.get?_push_of_some _ e) (Nat.le_refl _) (show ObjOk X.prog X.w _ _ _ (.tup ys) from ⟨hz, its, r', IsTup.new _ _⟩)
    exact ⟨.ref h'.objs.size, _, I2, rfl, q _ (I1.hok.fresh (Nat.le_refl _))⟩
  . obtain ⟨its, r', pl, hz⟩ := I.tuple hq
    exact call_tuple_same pl ⟨.ref p, H, I, rfl, q⟩
def tyV (K : PySem.W.Frag) (T : String) (x : V) (H : Hp) : Prop := match x with
  | .str _ => T = "str"
  | .int _ => T = "int"
  | .ref p => (T = "list" /\ ∃ xs, SqL K H p xs) \/ (T = "tuple" /\ ∃ o, K.lookup p = some o /\ o.cls = .type "tuple" /\ o.dict = none) \/
      (T = "dict" /\ ((∃ kvs, H p = some (.dK kvs)) \/ ∃ kvs, H p = some (.dT kvs))) \/ (T = "set" /\ ∃ S n, H p = some (.set S n))
  | _ => False
theorem tyV_is {pins : List (Addr × Obj)} {σ : St} {H : Hp} {s : Shared} {T : String} {x : V} {v : Value} (I : Inv X pins σ H s) (r : RelV x v) (ty : tyV X.K T x H) :
    s.TypeIs v T /\ ∀ a, v = .ref a -> ∃ ob, s.heap.get? a = some ob /\ ob.dict = none := by
  cases x with
  | str z =>
    obtain ⟨t, rfl⟩ := r
    cases (show T = "str" from ty)
    exact ⟨typeIs_str s z t, fun _ e => nomatch e⟩
  | int i =>
    obtain ⟨t, rfl⟩ := r
    cases (show T = "int" from ty)
    exact ⟨typeIs_int s i t, fun _ e => nomatch e⟩
  | ref p =>
    cases r
    rcases ty with ⟨rfl, xs, hq⟩ | ⟨rfl, o, hk, hc, hd⟩ | ⟨rfl, hk⟩ | ⟨rfl, S, n, hk⟩
    . obtain ⟨its, _, pl, _⟩ := I.list hq
      refine ⟨pl.isList.typeIs, fun a e => ?_⟩
      cases e
      obtain ⟨o, n, e, c, hd, _⟩ := pl
      exact ⟨o, e, hd⟩
    . refine ⟨⟨o, I.kIn p o hk, hc⟩, fun a e => ?_⟩
      cases e
      exact ⟨o, I.kIn _ o hk, hd⟩
    . have z : ∃ o, s.heap.get? p = some o /\ o.ExactDict := by
        rcases hk with ⟨kvs, hk⟩ | ⟨kvs, hk⟩
        . obtain ⟨_, _, _, _, o, _, _, e, ex, _⟩ := I.hok p _ hk
          exact ⟨o, e, ex⟩
        . obtain ⟨_, _, _, _, o, _, _, e, ex, _⟩ := I.hok p _ hk
          exact ⟨o, e, ex⟩
      obtain ⟨o, e, ex⟩ := z
      refine ⟨⟨o, e, ex.1⟩, fun a e2 => ?_⟩
      cases e2
      exact ⟨o, e, ex.2.1⟩
    . obtain ⟨o, _, _, _, e, ex, _⟩ := I.hok p _ hk
      refine ⟨⟨o, e, ex.1⟩, fun a e2 => ?_⟩
      cases e2
      exact ⟨o, e, ex.2.1⟩
  | _ => exact False.elim ty
def tBM0 (K : PySem.W.Frag) (T : String) (r : V -> List V -> Hp -> VK -> Prop) (to : TE) : TE := fun σ H Q => to σ H fun x H1 => tyV K T x H1 /\ r x [] H1 Q
def tBM (K : PySem.W.Frag) (T : String) (r : V -> List V -> Hp -> VK -> Prop) (to : TE) (t : TA) : TE := fun σ H Q => to σ H fun x H1 => tyV K T x H1 /\ t σ H1 fun xs H2 => r x xs H2 Q
variable {o e : Expr} {es : List Expr} {to : TE} {t : TA} {name : Str} {apos cpos : Pos} {T id : String} {r : V -> List V -> Hp -> VK -> Prop}
theorem pe_bm0 (pa : PlainAttrs T) (slot : Slot T name id) (hty : typeOf (.builtin id) = pure (.type "method_descriptor")) (hm : MtR X id r) (ho : PE X o to)
    (hbase : attributeBase o name X.env (eval o X.env) = eval o X.env := by rfl) (hline : (apos.endLine == cpos.line) = true := by rfl) : PE X (.Call (.Attribute o name apos) [] [] cpos) (tBM0 X.K T r to) := by
  intro pins s σ H Q I h
  refine wpAny_Call_method0_late hbase hline (thn (ho pins s σ H _ I h) fun v s1 ⟨x, H1, I1, r1, ty, q1⟩ => ?_)
  obtain ⟨h1, h2⟩ := tyV_is I1 r1 ty
  exact ⟨T, id, pa, slot, hty, h1, h2, Calls.callWith_builtin rfl (PySem.evalArgs_none (hm pins s1 σ H1 x [] v [] Q I1 r1 .nil q1))⟩
theorem pe_bm (pa : PlainAttrs T) (slot : Slot T name id) (hty : typeOf (.builtin id) = pure (.type "method_descriptor")) (hm : MtR X id r) (ho : PE X o to) (ha : PA X (e :: es) t)
    (hbase : attributeBase o name X.env (eval o X.env) = eval o X.env := by rfl)
    (hfew : ((backTo cpos (starEach (e :: es) X.env)).all (fun x => !x.1) && (backToKw cpos (keywordEach [] X.env)).all (fun x => x.1.isSome)
      && decide ((e :: es).length + ([] : List Keyword).length + (if ([] : List Keyword).isEmpty then 0 else 1) < 30)) = true := by rfl)
    (hline : (apos.endLine == cpos.line) = true := by rfl) (hs : starEach (e :: es) X.env = (false, eval e X.env) :: starEach es X.env := by rfl) (hplain : (backTo cpos (starEach es X.env)).any (·.1) = false := by rfl) :
    PE X (.Call (.Attribute o name apos) (e :: es) [] cpos) (tBM X.K T r to t) := by
  intro pins s σ H Q I h
  refine wpAny_Call_method_late hbase hfew hline rfl (thn (ho pins s σ H _ I h) fun v s1 ⟨x, H1, I1, r1, ty, q1⟩ => ?_)
  obtain ⟨h1, h2⟩ := tyV_is I1 r1 ty
  refine ⟨T, id, pa, slot, hty, h1, h2, ?_⟩
  have hA := ha cpos pins s1 σ H1 _ I1 q1
  rw [hs] at hA ⊢
  refine Calls.callWith_builtin (by show (false || (backTo cpos (starEach es X.env)).any (·.1)) = false; rw [hplain] <;> rfl) (Calls.evalArgs_plain ?_)
  exact thn hA fun us s2 ⟨vs, H2, I2, r2, q2⟩ => hm pins s2 σ H2 x vs v us Q I2 r1 r2 q2
end
end L2
namespace L2
open PySem PySem.Spec PyProof.Rows
def MtM (X : Cx) (id : String) (r : V -> List V -> Hp -> VK -> Prop) : Prop :=
  ∀ (pins : List (Addr × Obj)) (s : Shared) (σ : St) (H : Hp) (x : V) (xs : List V) (v : Value) (us : List Value) (Q : VK), Inv X pins σ H s -> RelV x v -> Vals xs us -> r x xs H Q ->
    wpAny (model X.prog X.w) X.A (call (.builtin id) (v :: us)) (EP X pins σ Q) X.xe s
theorem Vals.one : ∀ {x : V} {us : List Value}, Vals [x] us -> ∃ u, us = [u] /\ RelV x u
  | _, _, .cons r .nil => ⟨_, rfl, r⟩
theorem Vals.zero : ∀ {us : List Value}, Vals [] us -> us = []
  | _, .nil => rfl
theorem Vals.dropLast {xs : List V} {us : List Value} (h : Vals xs us) : Vals xs.dropLast us.dropLast := by
  induction h with
  | nil => exact .nil
  | cons r t ih =>
    cases t with
    | nil => exact .nil
    | cons q t' => exact .cons r ih
theorem Vals.eraseIdx : ∀ {xs : List V} {us : List Value} (i : Nat), Vals xs us -> Vals (xs.eraseIdx i) (us.eraseIdx i)
  | _, _, _, .nil => .nil
  | _, _, 0, .cons _ t => t
  | _, _, i + 1, .cons r t => .cons r (Vals.eraseIdx i t)
theorem Vals.reverse {xs : List V} {us : List Value} (h : Vals xs us) : Vals xs.reverse us.reverse := by
  induction h with
  | nil => exact .nil
  | cons r t ih => rw [List.reverse_cons, List.reverse_cons]; exact Vals.append ih (.cons r .nil)
theorem Vals.rep {xs : List V} {us : List Value} (h : Vals xs us) : ∀ k : Nat, Vals (List.replicate k xs).flatten (List.replicate k us).flatten
  | 0 => .nil
  | k + 1 => by
    rw [List.replicate_succ, List.replicate_succ, List.flatten_cons, List.flatten_cons]
    exact Vals.append h (Vals.rep h k)
theorem erase_last {α : Type} (l : List α) : l.eraseIdx (l.length - 1) = l.dropLast := by
  induction l with
  | nil => rfl
  | cons a r ih =>
    cases r with
    | nil => rfl
    | cons b r =>
      have e : (a :: b :: r).length - 1 = ((b :: r).length - 1) + 1 := by
        have h1 : (a :: b :: r).length = r.length + 2 := rfl
        have h2 : (b :: r).length = r.length + 1 := rfl
        omega
      rw [e, List.eraseIdx_cons_succ, ih]
      all_goals rfl
theorem len_erase {α : Type} : ∀ (l : List α) (i : Nat), (l.eraseIdx i).length <= l.length
  | [], _ => Nat.le_refl _
  | _ :: _, 0 => Nat.le_succ _
  | _ :: r, i + 1 => Nat.succ_le_succ (len_erase r i)
theorem foldl_rep (its : List Value) : ∀ (k : Nat) (acc : List Value),
    List.foldl (fun x1 x2 => x1 ++ x2) acc.toArray (List.replicate k its.toArray) = (acc ++ (List.replicate k its).flatten).toArray
  | 0, acc => by simp
  | k + 1, acc => by
    have e : acc.toArray ++ its.toArray = (acc ++ its).toArray := by simp
    have e2 : (acc ++ its) ++ (List.replicate k its).flatten = acc ++ (List.replicate (k + 1) its).flatten := by
      rw [List.replicate_succ, List.flatten_cons, List.append_assoc]
    rw [<- e2, <- foldl_rep its k (acc ++ its), <- e, List.replicate_succ, List.foldl_cons]
section
variable {X : Cx} {pins : List (Addr × Obj)} {σ : St} {H : Hp} {s : Shared} {l b : Addr} {xs ys zs : List V}
theorem Inv.lset {its its' : List Value} {n : Nat} {f : Array Value -> Array Value} {t' : Nat} (I : Inv X pins σ H s) (hH : H l = some (.lst xs))
    (e : s.heap.get? l = some { cls := .type "list", data := .seq its.toArray n }) (hf : f its.toArray = its'.toArray) (hv : Vals ys its') (hz : ys.length <= sizeLine) :
    Inv X pins σ (upd H l (.lst ys)) { s with heap := s.heap.update l (Obj.mapSeq f), toks := t' } := by
  have q := PySem.IsL.update e f
  rw [hf] at q
  refine I.write (x := l) (e := l) (by rw [hH]; exact trivial) (.inl rfl) (fun b' u hb hu => (Heap.get?_update_other s.heap (Obj.mapSeq f) (Ne.symm hb)).trans hu) ⟨_, q⟩ ?_
  exact ⟨hz, its', _, hv, q⟩
theorem Inv.lnew {its : List Value} {t' : Nat} (I : Inv X pins σ H s) (hv : Vals ys its) (hz : ys.length <= sizeLine) :
    Inv X pins σ (upd H s.heap.objs.size (.lst ys)) { s with heap := s.heap.push { cls := .type "list", data := .seq its.toArray }, toks := t' } :=
  I.laid (fun _ _ q => Heap.get?_push_of_some _ q) (Nat.le_refl _) ⟨hz, its, 0, hv, Heap.get?_push_size _ rfl⟩
theorem Inv.fresh (I : Inv X pins σ H s) : H s.heap.objs.size = none := I.hok.fresh (Nat.le_refl _)
theorem Inv.lstM (I : Inv X pins σ H s) (hH : H l = some (.lst xs)) : xs.length <= sizeLine /\ ∃ (its : List Value) (n : Nat), Vals xs its /\ xs.length = its.length /\ s.heap.get? l = some { cls := .type "list", data := .seq its.toArray n } := by
  obtain ⟨z, its, n, r, e⟩ := I.hok l _ hH
  exact ⟨z, its, n, r, r.length, e⟩
theorem notLongL {n : Nat} (h : n <= sizeLine) : Builtin.List.listTooLong n = false := by
  unfold Builtin.List.listTooLong
  exact decide_eq_false (by omega)
end
section
variable {X : Cx}
def rAppend : V -> List V -> Hp -> VK -> Prop := fun x vs H Q => ∃ l xs y, x = .ref l /\ vs = [y] /\ H l = some (.lst xs) /\ xs.length < sizeLine /\ Q .non (upd H l (.lst (xs ++ [y])))
theorem mt_append : MtM X "list.append" rAppend := by
  intro pins s σ H x vs v us Q I rx rv h
  obtain ⟨l, xs, y, rfl, rfl, hH, hz, q⟩ := h
  cases rx
  obtain ⟨u, rfl, ru⟩ := rv.one
  obtain ⟨z, its, n, r, hl, e⟩ := I.lstM hH
  refine call_meets F.slot_list_append ⟨_, e, rfl⟩ F.entry_list_append (F.args_list_append_2 _ _) (PySem.list_append l its.toArray n u (by rw [List.size_toArray]; omega)) ⟨e, ?_⟩
  refine ⟨.non, _, I.lset (its' := its ++ [u]) hH e (by simp) (r.append (.cons ru .nil)) ?_, rfl, q⟩
  rw [List.length_append, List.length_singleton]
  omega
def rExtend : V -> List V -> Hp -> VK -> Prop := fun x vs H Q => ∃ l b xs zs, x = .ref l /\ vs = [.ref b] /\ H l = some (.lst xs) /\ H b = some (.lst zs) /\ xs.length + zs.length <= sizeLine /\ Q .non (upd H l (.lst (xs ++ zs)))
theorem mt_extend : MtM X "list.extend" rExtend := by
  intro pins s σ H x vs v us Q I rx rv h
  obtain ⟨l, b, xs, zs, rfl, rfl, hH, hB, hz, q⟩ := h
  cases rx
  obtain ⟨u, rfl, ru⟩ := rv.one
  cases ru
  obtain ⟨z, its, n, r, hl, e⟩ := I.lstM hH
  obtain ⟨z2, its2, n2, r2, hl2, e2⟩ := I.lstM hB
  have hsz : its.toArray.size + its2.toArray.size <= sizeLine := by rw [List.size_toArray, List.size_toArray]; omega
  have hlong : ¬ (!its.toArray.isEmpty && Builtin.List.listTooLong (its.toArray.size + its2.toArray.size)) = true := by
    rw [notLongL hsz, Bool.and_false]
    exact Bool.false_ne_true
  refine call_meets F.slot_list_extend ⟨_, e, rfl⟩ F.entry_list_extend (F.args_list_extend_2 _ _)
    (AutoSeq1.list_extend_list_list_0 l its.toArray n b its2.toArray n2 hlong (by rw [List.size_toArray]; omega) (by omega)) ⟨e, e2, ?_⟩
  refine ⟨.non, _, I.lset (its' := its ++ its2) hH e (by simp) (r.append r2) ?_, rfl, q⟩
  rw [List.length_append]
  omega
def rPop : V -> List V -> Hp -> VK -> Prop := fun x vs H Q => ∃ l xs y, x = .ref l /\ vs = [] /\ H l = some (.lst xs) /\ xs[xs.length - 1]? = some y /\ Q y (upd H l (.lst xs.dropLast))
theorem mt_pop : MtM X "list.pop" rPop := by
  intro pins s σ H x vs v us Q I rx rv h
  obtain ⟨l, xs, y, rfl, rfl, hH, hy, q⟩ := h
  cases rx
  have hus := rv.zero
  subst hus
  obtain ⟨z, its, n, r, hl, e⟩ := I.lstM hH
  obtain ⟨u, hu, ru⟩ := r.get hy
  have hy' : its.toArray[its.toArray.size - 1]? = some u := by
    show its.toArray[its.length - 1]? = some u
    rw [<- Array.getElem?_toList, <- hl]
    exact hu
  refine call_meets F.slot_list_pop ⟨_, e, rfl⟩ F.entry_list_pop (F.args_list_pop_1 _) (MeetsSeq.list_pop_last l its.toArray n u hy' (by rw [List.size_toArray]; omega)) ⟨e, ?_⟩
  refine ⟨y, _, I.lset (its' := its.dropLast) hH e ?_ r.dropLast ?_, ru, q⟩
  . show its.toArray.eraseIdxIfInBounds (its.toArray.size - 1) = its.dropLast.toArray
    rw [List.size_toArray, List.eraseIdxIfInBounds_toArray, erase_last]
  . rw [List.length_dropLast]
    omega
def rPopAt : V -> List V -> Hp -> VK -> Prop := fun x vs H Q => ∃ l xs i k y, x = .ref l /\ vs = [.int i] /\ H l = some (.lst xs) /\ -(2 ^ 63) <= i /\ i < 2 ^ 63 /\ seqIndex? i xs.length = some k /\ xs[k]? = some y /\ Q y (upd H l (.lst (xs.eraseIdx k)))
theorem mt_popAt : MtM X "list.pop" rPopAt := by
  intro pins s σ H x vs v us Q I rx rv h
  obtain ⟨l, xs, i, k, y, rfl, rfl, hH, h1, h2, hk, hy, q⟩ := h
  cases rx
  obtain ⟨u, rfl, ru⟩ := rv.one
  obtain ⟨t, rfl⟩ := ru
  obtain ⟨z, its, n, r, hl, e⟩ := I.lstM hH
  obtain ⟨w, hw, rw'⟩ := r.get hy
  refine call_meets F.slot_list_pop ⟨_, e, rfl⟩ F.entry_list_pop (F.args_list_pop_2 _ _)
    (MeetsSeq.list_pop_at l its.toArray n i t k w (fitsIndex_both h1 h2) (by rw [List.size_toArray, <- hl]; exact hk) (by rw [<- Array.getElem?_toList]; exact hw) (by rw [List.size_toArray]; omega)) ⟨e, ?_⟩
  refine ⟨y, _, I.lset (its' := its.eraseIdx k) hH e ?_ (r.eraseIdx k) ?_, rw', q⟩
  . show its.toArray.eraseIdxIfInBounds k = (its.eraseIdx k).toArray
    rw [List.eraseIdxIfInBounds_toArray]
  . have := len_erase xs k
    omega
def rReverse : V -> List V -> Hp -> VK -> Prop := fun x vs H Q => ∃ l xs, x = .ref l /\ vs = [] /\ H l = some (.lst xs) /\ Q .non (upd H l (.lst xs.reverse))
theorem mt_reverse : MtM X "list.reverse" rReverse := by
  intro pins s σ H x vs v us Q I rx rv h
  obtain ⟨l, xs, rfl, rfl, hH, q⟩ := h
  cases rx
  have hus := rv.zero
  subst hus
  obtain ⟨z, its, n, r, hl, e⟩ := I.lstM hH
  refine call_meets F.slot_list_reverse ⟨_, e, rfl⟩ F.entry_list_reverse (F.args_list_reverse_1 _) (AutoSeq1.list_reverse_list_0 l its.toArray n (by rw [List.size_toArray]; omega)) ⟨e, ?_⟩
  refine ⟨.non, _, I.lset (its' := its.reverse) hH e (by simp) r.reverse ?_, rfl, q⟩
  rw [List.length_reverse]
  omega
def rClear : V -> List V -> Hp -> VK -> Prop := fun x vs H Q => ∃ l xs, x = .ref l /\ vs = [] /\ H l = some (.lst xs) /\ Q .non (upd H l (.lst []))
theorem mt_clear : MtM X "list.clear" rClear := by
  intro pins s σ H x vs v us Q I rx rv h
  obtain ⟨l, xs, rfl, rfl, hH, q⟩ := h
  cases rx
  have hus := rv.zero
  subst hus
  obtain ⟨z, its, n, r, hl, e⟩ := I.lstM hH
  refine call_meets F.slot_list_clear ⟨_, e, rfl⟩ F.entry_list_clear (F.args_list_clear_1 _) (AutoSeq1.list_clear_list_0 l its.toArray n (by rw [List.size_toArray]; omega)) ⟨e, ?_⟩
  exact ⟨.non, _, I.lset (its' := []) (ys := []) hH e rfl .nil (Nat.zero_le _), rfl, q⟩
def rCat : R2 := fun x y H Q => ∃ l b xs zs, x = .ref l /\ y = .ref b /\ H l = some (.lst xs) /\ H b = some (.lst zs) /\ xs.length + zs.length <= sizeLine /\ ∀ p, H p = none -> Q (.ref p) (upd H p (.lst (xs ++ zs)))
theorem op_cat : OpR X (binaryOp .Add) rCat := by
  intro pins s σ H x y v u Q I rx ry h
  obtain ⟨l, b, xs, zs, rfl, rfl, hH, hB, hz, q⟩ := h
  cases rx
  cases ry
  obtain ⟨z, its, n, r, hl, e⟩ := I.lstM hH
  obtain ⟨z2, its2, n2, r2, hl2, e2⟩ := I.lstM hB
  refine PySem.P.add_list e e2 ?_ (by rw [List.size_toArray, List.size_toArray]; omega)
  have ea : its.toArray ++ its2.toArray = (its ++ its2).toArray := by simp
  rw [ea]
  exact ⟨.ref _, _, I.lnew (t' := s.toks) (r.append r2) (by rw [List.length_append]; omega), rfl, q _ I.fresh⟩
def rRep : R2 := fun x y H Q => ∃ l k xs, x = .ref l /\ y = .int k /\ H l = some (.lst xs) /\ -(2 ^ 63) <= k /\ k < 2 ^ 63 /\ xs.length * k.toNat <= sizeLine /\
  ∀ p, H p = none -> Q (.ref p) (upd H p (.lst (List.replicate k.toNat xs).flatten))
theorem len_rep {α : Type} (xs : List α) (k : Nat) : (List.replicate k xs).flatten.length = k * xs.length := by
  induction k with
  | zero => simp
  | succ k ih => rw [List.replicate_succ, List.flatten_cons, List.length_append, ih, Nat.succ_mul, Nat.add_comm]
theorem op_rep : OpR X (binaryOp .Mult) rRep := by
  intro pins s σ H x y v u Q I rx ry h
  obtain ⟨l, k, xs, rfl, rfl, hH, h1, h2, hz, q⟩ := h
  cases rx
  obtain ⟨t, rfl⟩ := ry
  obtain ⟨z, its, n, r, hl, e⟩ := I.lstM hH
  have hlen : its.toArray.size * k.toNat <= sizeLine := by rw [List.size_toArray, <- hl]; exact hz
  have hcap : ¬ its.toArray.size * k.toNat > (2 ^ 63 - 1) / 8 := by
    have : (sizeLine : Nat) <= (2 ^ 63 - 1) / 8 := by decide
    omega
  have hfit : ¬ (!Builtin.List.listFitsIndex k) = true := by
    rw [fitsIndex_both h1 h2]
    exact Bool.false_ne_true
  have hlong : ¬ Builtin.List.listTooLong (its.toArray.size * k.toNat) = true := by
    rw [notLongL hlen]
    exact Bool.false_ne_true
  have hnew : List.foldl (fun x1 x2 => x1 ++ x2) #[] (List.replicate (if its.toArray.isEmpty = true then 0 else k.toNat) its.toArray) = (List.replicate k.toNat its).flatten.toArray := by
    have f0 : ∀ m : Nat, List.foldl (fun x1 x2 => x1 ++ x2) #[] (List.replicate m its.toArray) = (List.replicate m its).flatten.toArray := fun m => by
      have := foldl_rep its m []
      rw [List.nil_append] at this
      exact this
    rw [f0]
    cases its with
    | nil => simp
    | cons a r' => rw [if_neg (by simp)]
  refine wpAny_binaryOp_repeat_ref (T := "list") (U := "int") (by decide) ⟨_, e, rfl⟩ (fun s' => typeIs_int s' k t) noFill_list_mul F.fills_int_mul F.slot_int_rmul repeat_list F.slot_int_index.lookup
    (call_meets F.slot_int_rmul (typeIs_int s k t) F.entry_int_rmul (F.args_int_rmul_2 _ _) (int___rmul___int_list k t l its.toArray n)
      ⟨e, rfl, ⟨_, e, rfl⟩, call_meets F.slot_list_mul ⟨_, e, rfl⟩ F.entry_list_mul (F.args_list_mul_2 _ _) (AutoListH.list___mul___list_int_3 l its.toArray n k t hfit hcap hlong) ⟨e, ?_⟩⟩)
  rw [hnew]
  exact ⟨.ref _, _, I.lnew (t' := s.toks) (r.rep k.toNat) (by rw [len_rep, Nat.mul_comm]; exact hz), rfl, q _ I.fresh⟩
end
section
variable {prog : Program} {w : World} {A : Around} {E : Value -> Shared -> Prop} {s : Shared}
end
section
variable {X : Cx}
end
end L2
namespace Att
open PySem PySem.W PySem.Calls PyProof.Rows
theorem ints_of_wellAll {P : Params} {h : Heap} : ∀ (ns : List Int) (vs : List Value), WellAll P h vs (ns.map WData.int) -> IntsAre vs ns := by
  intro ns
  induction ns with
  | nil =>
    intro vs w
    rw [List.map_nil] at w
    cases w
    exact .nil
  | cons n ns ih =>
    intro vs w
    rw [List.map_cons] at w
    cases w with
    | cons a b =>
      cases a
      exact .cons _ _ (ih _ b)
theorem script_of {l : OpenLaw} {n : Nat} (hn : l.most = some n) {P : Params} {h : Heap} {args : List WData} {vals : List Value}
    (hpre : l.row.toRowW.claim.pre args = true) (hwl : WellAll P h vals args) :
    ∃ a vs ns, vals = [Value.ref a] /\ args = [WData.list (ns.map WData.int)] /\ h.get? a = some { cls := .type "list", data := .seq vs.toArray } /\ IntsAre vs ns /\ ns.length <= n := by
  have hsh : WShape.hasAll [] args [.list .int] = true := (pre_splitW hpre).1
  have hc : l.pre.holds [] { args := args } = true := (pre_splitW hpre).2
  obtain ⟨d, r, rfl, h1, h2⟩ := hasAllW_cons hsh
  obtain rfl := hasAllW_nil h2
  obtain ⟨xs, rfl, h3⟩ := hasW_list h1
  obtain ⟨ns, rfl⟩ := items_int h3
  have hlen : ns.length <= n := by
    unfold OpenLaw.pre at hc
    have h4 : (WTm.not (.lt (.lit (.int (n : Int))) (.len (.arg 0)))).holds [] { args := [.list (ns.map .int)] } = true := by
      have h4 := (holds_andW hc).1
      rw [hn] at h4
      exact h4
    have h5 := condW_of h4 (w_not (w_lt w_lit (w_len_list (w_arg rfl))))
    rw [List.length_map] at h5
    refine Nat.le_of_not_lt fun q => ?_
    have q' : (n : Int) < ((ns.length : Nat) : Int) := by omega
    first
      | (rw [decide_eq_true q'] at h5; exact absurd h5 (by decide))
      | (simp at h5; omega)
  cases hwl with
  | cons w1 w2 =>
    cases w2
    cases w1 with
    | list ho hall => exact ⟨_, _, ns, rfl, rfl, ho, ints_of_wellAll ns _ hall, hlen⟩
theorem post_true (l : OpenLaw) (args : List WData) : l.row.toRowW.claim.post args (.bool true) args = true :=
  postW_of (r := l.row.toRowW) (X := (true == true))
    (show WShape.has [] (.bool true) .bool = true by first | rfl | decide | simp [WShape.has, WShape.arms, WShape.armsAll])
    (show (WTm.eq .res (.lit (.bool true))).value [] { args := args, res := some (.bool true), after := args } = some (.bool (true == true)) from w_eq_bool (w_res rfl) w_lit) rfl
theorem attach_call {l : OpenLaw} {n : Nat} {q : Program} {loose : List Str} {XP : (Str -> Option Value) -> Heap -> Prop} {YP : World -> Heap -> Prop} {d : DefRec}
    (hn : l.most = some n) (hdf : d.params.defaults = [])
    (call : ∀ (w : World) (s₀ s₁ : Shared) (mg mb : Str -> Option Value) (fa : Addr) (o : Obj) (pm cd doc : Value) (a : Addr) (vs : List Value) (ns : List Int),
      Ground q loose [] XP w s₀ mg mb s₁.heap -> YP w s₁.heap ->
      s₁.heap.get? fa = some o -> o.data = .func (docDef d.name d.params d.body d.scope pm cd doc) -> s₁.heap.CodeRec cd d.name -> mg d.name = some (.ref fa) ->
      s₁.heap.get? a = some { cls := .type "list", data := .seq vs.toArray } -> IntsAre vs ns -> ns.length <= n -> s₁.gens = #[] ->
      codeAny (model l.prog w) callerA (.call (.ref fa) ⟨[.ref a], []⟩) (fun r s' => r = .ok (.ret (.bool true)) /\ OldK s₁.heap s'.heap /\ s'.os = s₁.os /\ AllBare s'.gens) s₁) :
    WalkO q loose XP YP l.row.toRowW d [] (fun f vs => PySem.call f vs) := by
  intro w s₀ s₁ mg mb G Y fa o pm cd doc dV kV ho hd hcd hD hmg hg args vals as hpre hlay hrd hwl hlo
  obtain rfl : dV = .none := Dflts.none hD hdf
  obtain rfl : kV = .none := Dflts.noKw hD
  obtain ⟨a, vs, ns, rfl, rfl, hobj, hints, hlen⟩ := script_of hn hpre hwl
  refine enter_call (codeAny_mono (call w s₀ s₁ mg mb fa o pm cd doc a vs ns G Y ho (fd_plain hd) hcd hmg hobj hints hlen hg) fun r s' hq => ?_)
  obtain ⟨rfl, h2, h3, h4⟩ := hq
  exact ⟨.inl ⟨.bool true, .bool true, [], rfl, fun _ => rfl, .bool true, post_true l _, fun _ => ⟨List.Pairwise.nil, fun _ hm => (nomatch hm)⟩⟩, h2, h3, h4⟩
section
variable {prog : Program} {w : World} {A : Around} {E : Value -> Shared -> Prop} {s : Shared} {K : Frag}
end
end Att
namespace L2
open PySem PySem.Spec PyProof.Rows
theorem vals_ints : ∀ {vs : List Value} {ns : List Int}, IntsAre vs ns -> Vals (ns.map V.int) vs
  | _, _, .nil => .nil
  | _, _, .cons n t h => .cons ⟨t, rfl⟩ (vals_ints h)
def Only (H : Hp) : Prop := ∀ b, H b = none \/ ∃ o xs, H b = some (.frz o (.lst xs))
theorem law_call {P : Program} {w : World} {K : PySem.W.Frag} {mg mb : Str -> Option Value} {CX : CXT} {k : Nat} {fa a : Addr} {fd : FuncData} {x : Str} {sp : Sp} {s₁ : Shared} {vs : List Value} {ns : List Int}
    (KX : K.In s₁.heap) (hns : s₁.heap.Ns mainGlobals mg) (hb : s₁.heap.Ns builtinsNs mb) (hbb : ∀ x : Str, x ≠ "__name__" -> mb x = bootBuiltins x) (hlim : s₁.heap.NoLimit) (hg : s₁.gens = #[])
    (ha : s₁.heap.get? a = some { cls := .type "list", data := .seq vs.toArray }) (hi : IntsAre vs ns) (hl : ns.length <= sizeLine) (hr : Room k callerA)
    (F : ∀ base : Heap, K.In base -> base.Ns mainGlobals mg -> FnOk P w K mg base CX k fa fd [x] sp) (hbind : ∀ (s : Shared) (u : Value), BindsTo s fd ⟨[u], []⟩ [(x, u)])
    (hsp : ∀ H : Hp, Only H -> SqL K H a (ns.map V.int) -> sp [.ref a] H (fun v _ => v = .bl true) fun _ _ _ => False)
    (hCX : ∀ H e s', CX [] H s₁ (fun _ _ _ => False) e s' -> False) :
    codeAny (model P w) callerA (.call (.ref fa) ⟨[.ref a], []⟩) (fun r s' => r = .ok (.ret (.bool true)) /\ OldK s₁.heap s'.heap /\ s'.os = s₁.os /\ AllBare s'.gens) s₁ := by
  have rv := vals_ints hi
  have lenV := hi.length
  -- from an abstract heap in which nothing but the script may be tracked
  have core : ∀ H : Hp, Only H -> SqL K H a (ns.map V.int) -> HOk P w H s₁.heap -> (∀ b, H b ≠ none -> b = a) -> (H a ≠ none -> K.lookup a = none) ->
      codeAny (model P w) callerA (.call (.ref fa) ⟨[.ref a], []⟩) (fun r s' => r = .ok (.ret (.bool true)) /\ OldK s₁.heap s'.heap /\ s'.os = s₁.os /\ AllBare s'.gens) s₁ := by
    intro H hO hS hok hA hK
    have base_of : ∀ {b : Addr} {o : Obj}, s₁.heap.get? b = some o -> H b = none -> (hidT s₁.heap H).get? b = some o := fun e n => hidT_get e n
    have noA : ∀ {b : Addr} {o : Obj} {es : Array DictEntry} {ep : Nat}, s₁.heap.get? b = some o -> o.data = .dict es ep -> H b = none := fun {b o es ep} e d => by
      cases q : H b with
      | none => rfl
      | some u =>
        have e' : b = a := hA b (by rw [q]; simp)
        subst e'
        rw [ha] at e; cases e
        have d' : Data.seq vs.toArray _ = Data.dict es ep := d
        cases d'
    have nsK : ∀ {b : Addr} {m : Str -> Option Value}, s₁.heap.Ns b m -> (hidT s₁.heap H).Ns b m := fun {b m} ⟨o, es, ep, e, d, r⟩ => ⟨o, es, ep, base_of e (noA e d), d, r⟩
    have hKb : K.In (hidT s₁.heap H) := fun b o e => base_of (KX b o e) (by
      cases q : H b with
      | none => rfl
      | some u =>
        have e' : b = a := hA b (by rw [q]; simp)
        subst e'
        rw [hK (by rw [q]; simp)] at e; cases e)
    have hM : Mod K mg (hidT s₁.heap H) := ⟨hKb, nsK hns, ⟨mb, nsK hb, hbb⟩, let ⟨mc, h1, h2⟩ := hlim; ⟨mc, nsK h1, h2⟩⟩
    have e0 : Env0 P w K mg (hidT s₁.heap H) callerA [] s₁ H := ⟨rfl, hM, fun b o e => of_hidT e, Nat.le_of_eq (hidT_size _ _), trivial, fun b hb => absurd (show b ∈ ([] : List Addr) from hb) (by simp), hok, .of_eq hg⟩
    refine codeAny_mono ((F _ hKb (nsK hns)).run callerA [] s₁ H ⟨[.ref a], []⟩ [.ref a] [.ref a] _ _ hr e0 (hbind s₁ (.ref a)) (.cons rfl .nil) (hsp H hO hS)) fun r s' h => ?_
    cases r with
    | error e => exact (hCX H e s' h).elim
    | ok fl =>
      cases fl with
      | next => exact False.elim h
      | brk => exact False.elim h
      | cont => exact False.elim h
      | ret u =>
        obtain ⟨v, H', os, bare, un, hok', r', q⟩ := h
        have q' : v = .bl true := q
        subst q'
        obtain rfl : u = Value.bool true := r'
        refine ⟨rfl, OldK.of_keep fun b o e => ?_, os, bare⟩
        cases q : H b with
        | none => exact un.keep b o e q (by intro z; exact absurd (show b ∈ ([] : List Addr) from z) (by simp)) (by simp)
        | some u =>
          rcases hO b with z | ⟨ob, xs, z⟩
          . rw [q] at z; cases z
          . have z2 := un.frzs b ob _ z
            obtain ⟨e1, _⟩ := hok b _ z
            obtain ⟨e2, _⟩ := hok' b _ z2
            rw [e] at e1; cases e1
            exact e2
  cases hk : K.lookup a with
  | some o =>
    -- the script is one of the module's own objects
    have e := KX a o hk
    rw [ha] at e
    cases e
    refine core (fun _ => none) (fun _ => .inl rfl) (.inr ⟨_, vs.toArray, _, hk, rfl, rfl, rfl, by rw [List.size_toArray, lenV]; exact hl, by simpa using rv⟩) (fun b u z => by have z' : (none : Option HO) = some u := z; cases z') (fun b z => absurd rfl z) fun z => absurd rfl z
  | none =>
    refine core (fun b => if b = a then some (.frz { cls := .type "list", data := .seq vs.toArray } (.lst (ns.map V.int))) else none) (fun b => ?_) (.inl (.inr ⟨{ cls := .type "list", data := .seq vs.toArray }, if_pos rfl⟩)) (fun b u z => ?_) (fun b z => ?_) fun _ => hk
    . by_cases hb : b = a
      . exact .inr ⟨_, _, if_pos hb⟩
      . exact .inl (if_neg hb)
    . by_cases hb : b = a
      . have z' := (if_pos hb).symm.trans z
        cases z'
        subst hb
        exact ⟨ha, by rw [List.length_map]; exact hl, vs, _, rv, ha⟩
      . have z' := (if_neg hb).symm.trans z
        cases z'
    . by_cases hb : b = a
      . exact hb
      . exact absurd (if_neg hb) z
end L2
namespace L2
open PySem PySem.Spec PyProof.Rows
theorem walk_of {l : PySem.W.OpenLaw} {n k : Nat} {q : Program} {loose : List Str} {XP : (Str -> Option Value) -> Heap -> Prop} {YP : World -> Heap -> Prop} {d : DefRec} {K : Params -> PySem.W.Frag} {CX : World -> CXT} {sp : World -> Sp} {x : Str}
    (hn : l.most = some n) (hn2 : n <= sizeLine) (hdf : d.params.defaults = []) (hr : Room k callerA)
    (hY : ∀ (w : World) (h : Heap), YP w h -> (K w.params).In h)
    (F : ∀ (w : World) (mg : Str -> Option Value) (fa : Addr) (h : Heap), (K w.params).In h -> h.Ns mainGlobals mg -> mg d.name = some (.ref fa) ->
      ∃ fd : FuncData, (∀ (s : Shared) (u : Value), BindsTo s fd ⟨[u], []⟩ [(x, u)]) /\
        ∀ base : Heap, (K w.params).In base -> base.Ns mainGlobals mg -> FnOk l.prog w (K w.params) mg base (CX w) k fa fd [x] (sp w))
    (hsp : ∀ (w : World) (H : Hp) (a : Addr) (ns : List Int), ns.length <= n -> Only H -> SqL (K w.params) H a (ns.map V.int) -> sp w [.ref a] H (fun v _ => v = .bl true) fun _ _ _ => False)
    (hCX : ∀ (w : World) (H : Hp) (s : Shared) (e : Value) (s' : Shared), CX w [] H s (fun _ _ _ => False) e s' -> False) :
    PySem.W.WalkO q loose XP YP l.row.toRowW d [] (fun f vs => PySem.call f vs) := by
  refine Att.attach_call hn hdf fun w s₀ s₁ mg mb fa o pm cd doc a vs ns G Y ho hd hcd hmg hobj hints hlen hg => ?_
  have KX := hY w _ Y
  obtain ⟨fd, hb, hF⟩ := F w mg fa _ KX G.T.g hmg
  exact law_call KX G.T.g G.T.b G.T.builtins G.T.nolimit hg hobj hints (Nat.le_trans hlen hn2) hr hF hb (fun H hO hS => hsp w H a ns hlen hO hS) fun H e s' => hCX w H s₁ e s'
end L2
namespace L2
open PySem PySem.Spec PyProof.Rows
def defArgs (s : Stmt) : Arguments := match s with
  | .FunctionDef _ a _ _ _ _ _ _ _ _ => a
  | _ => { posonlyargs := [], args := [], vararg := none, kwonlyargs := [], kw_defaults := [], kwarg := none, defaults := [] }
def defBody (s : Stmt) : List Stmt := match s with
  | .FunctionDef _ _ b _ _ _ _ _ _ _ => b
  | _ => []
def defScope (s : Stmt) : Scope := match s with
  | .FunctionDef _ _ _ _ _ _ sc _ _ _ => sc
  | _ => { kind := .function, names := [], isGenerator := false, isCoroutine := false }
abbrev CX0 : CXT := fun _ _ _ _ _ _ => False
abbrev E0 : XK := fun _ _ _ => False
theorem pass0 {X : Cx} : Passes CX0 X E0 := fun _ _ _ _ _ _ _ h => h.elim
structure Fun (K : PySem.W.Frag) (x qual : Str) (st : Stmt) (f : Addr) (fd : FuncData) : Prop where
  ex : ∃ (oc : Value) (od : Option Addr) (kV doc pm : Value) (an : Option Addr) (cdv ct : Value) (osl : Array (Option Value)),
    fd = PySem.W.fnOf x qual (defArgs st) (defBody st) (defScope st) .none kV doc pm an cdv ct /\ K.lookup f = some ⟨oc, od, .func fd, osl⟩ /\ PySem.W.codeIn K cdv qual = true
  kp : PySem.W.keepIn K (.ref f) = true
section
variable {P : Program} {w : World} {K : PySem.W.Frag} {mg : Str -> Option Value} {base : Heap}
theorem Fun.ok {x qual : Str} {st : Stmt} {f : Addr} {fd : FuncData} {N ps : List Str} {k : Nat} {sp : Sp} (F : Fun K x qual st f fd) (S : FnScope N ps (defScope st)) (len : ∀ vs H Q E, sp vs H Q E -> vs.length = ps.length)
    (hbody : ∀ (cdv : Value) (A : Around) (outer : List Env) (s : Shared) (H : Hp) (vs : List V) (Q : VK) (E : XK), Room k (A.deeper (envOfC qual (defScope st) s.heap.objs.size f cdv)) -> sp vs H Q E ->
      ∃ t, PSs (cxOf CX0 P w K mg base N qual (defScope st) f cdv A outer s H E).nox (defBody st) t /\ t { nx := fun _ H' => Q .non H', rt := Q } (start N vs) H) : FnOk P w K mg base CX0 (k + 1) f fd ps sp := by
  obtain ⟨oc, od, kV, doc, pm, an, cdv, ct, osl, rfl, lk, hcd⟩ := F.ex
  refine fn_of lk hcd S len fun A outer s H vs Q E hr hsp => ?_
  obtain ⟨t, h, q⟩ := hbody cdv A outer s H vs Q E hr hsp
  exact ⟨t, h.nox, q⟩
theorem Fun.binds {x qual : Str} {st : Stmt} {f : Addr} {fd : FuncData} {ps : List Str} (F : Fun K x qual st f fd)
    (h : ∀ (kV doc pm : Value) (an : Option Addr) (cdv ct : Value) (us : List Value), us.length = ps.length -> bindArgs (PySem.W.fnOf x qual (defArgs st) (defBody st) (defScope st) .none kV doc pm an cdv ct) ⟨us, []⟩ = pure (ps.zip us)) : Binds K fd ps [] := by
  obtain ⟨oc, od, kV, doc, pm, an, cdv, ct, osl, rfl, lk, hcd⟩ := F.ex
  exact .all (h kV doc pm an cdv ct)
theorem fun_mk {x qual : Str} {st : Stmt} {f : Addr} {oc : Value} {od an : Option Addr} {osl : Array (Option Value)} {kV doc pm cdv ct : Value} (l : K.lookup f = some ⟨oc, od, .func (PySem.W.fnOf x qual (defArgs st) (defBody st) (defScope st) .none kV doc pm an cdv ct), osl⟩)
    (c : PySem.W.codeIn K cdv qual = true) (k : PySem.W.keepIn K (.ref f) = true) : Fun K x qual st f (PySem.W.fnOf x qual (defArgs st) (defBody st) (defScope st) .none kV doc pm an cdv ct) := ⟨⟨oc, od, kV, doc, pm, an, cdv, ct, osl, rfl, l, c⟩, k⟩
end
section
variable {X : Cx}
end
theorem iteF {A B : Prop} (h : B) : if false = true then A else B := by
  rw [if_neg Bool.false_ne_true]
  exact h
theorem iteT {A B : Prop} (h : A) : if true = true then A else B := by
  rw [if_pos rfl]
  exact h
end L2
namespace L2
open PySem PySem.Spec PyProof.Rows
section
variable {prog : Program} {w : World} {A : Around} {E : Value -> Shared -> Prop}
theorem draw_lst {it l : Addr} {its : Array Value} (ne : l ≠ it) : ∀ (n i : Nat) (s : Shared) (Q : List Value -> Shared -> Prop), s.heap.IsListIter it l i -> s.heap.IsList l its -> i + n <= its.size ->
    (∀ h', h'.IsListIter it l (i + n) -> Heap.SameBut it s.heap h' -> Q ((its.toList.drop i).take n) { s with heap := h' }) -> wpAny (model prog w) A (draw (.ref it) n) Q E s := by
  intro n
  induction n with
  | zero =>
    intro i s Q h1 _ _ k
    exact wpAny_pure (by simpa using k s.heap h1 (Heap.SameBut.refl ..))
  | succ n ih =>
    intro i s Q h1 h2 hle k
    have lt : i < its.size := by omega
    show wpAny _ _ (pyNext (.ref it) >>= _) Q E s
    refine wpAny_bind (wpAny_pyNext_list_item h1 h2 (x := its[i]) (by simp [lt]) fun hA pA qA => ?_)
    refine wpAny_bind (wpAny_holding (ih (i + 1) _ _ pA (h2.extBut qA.extBut ne) (by omega) fun hB pB qB => wpAny_pure ?_))
    have z := k hB (by rw [show i + (n + 1) = i + 1 + n by omega]; exact pB) (qA.trans qB)
    rw [show its.toList.drop i = its[i] :: its.toList.drop (i + 1) from by simp [List.drop_eq_getElem_cons, lt], List.take_succ_cons] at z
    exact z
theorem items_lst {s : Shared} {l : Addr} {its : Array Value} {Q : List Value -> Shared -> Prop} (hh : A.handled = none) (p : s.heap.IsList l its)
    (k : ∀ h', Heap.ExtBut s.heap.objs.size s.heap h' -> Q its.toList { s with heap := h' }) : wpAny (model prog w) A (unpackItems (.ref l) its.size none) Q E s := by
  have ne : l ≠ s.heap.objs.size := by obtain ⟨o, e, _⟩ := p; exact Nat.ne_of_lt (Heap.lt_size e)
  unfold unpackItems notIterableAtAll
  refine wpAny_bind (wpAny_bind (wpAny_specialOf p.typeIs slot_list_iter.lookup (wpAny_pure ?_)))
  simp only [Bool.false_eq_true, if_false]
  refine wpAny_bind (wpAny_holding (wpAny_pyIter_list p (wpAny_bind (wpAny_holding (draw_lst ne its.size 0 _ _ ⟨_, Heap.get?_push_size _ rfl, rfl, rfl⟩ (p.push _) (by omega) fun hA pA qA => ?_)))))
  rw [show List.take its.size (List.drop 0 its.toList) = its.toList from by rw [List.drop_zero]; exact List.take_of_length_le (by simp), if_neg (by simp)]
  refine wpAny_bind (wpAny_holding (wpAny_pyNext_list_end hh pA ((p.push _).extBut qA.extBut ne) (by simp) fun hB qB => ?_))
  simp only [Option.isSome_none, Bool.false_eq_true, if_false]
  exact wpAny_pure (k hB fun b o hb e => qB b o hb (qA.extBut b o hb (Heap.get?_push_of_some _ e)))
theorem assign_lst {s : Shared} {env : Env} {es : List Expr} {k} {pos : Pos} {l : Addr} {its : Array Value} {Q : Unit -> Shared -> Prop} (hh : A.handled = none) (p : s.heap.IsList l its)
    (hn : (assignEach es env).length = its.size) (hst : (assignEach es env).findIdx? (·.1) = none)
    (h : ∀ h', Heap.ExtBut s.heap.objs.size s.heap h' -> wpAny (model prog w) A (assignInOrder ((assignEach es env).map (·.2)) its.toList) Q E { s with heap := h' }) :
    wpAny (model prog w) A (assign (.Tuple es k pos) env (.ref l)) Q E s := by
  rw [PyProof.Rows.assign_Tuple]
  refine wpAny_bind (wpAny_standAt ?_)
  unfold unpack
  rw [hn, hst]
  exact wpAny_bind (wpAny_holding (items_lst hh p h))
end
section
variable {X : Cx} {pos : Pos}
def gLst (K : PySem.W.Frag) (n : Nat) (t : TGs) : TG := fun v σ H Q => ∃ a xs, v = .ref a /\ SqL K H a xs /\ xs.length = n /\ t xs σ H Q
theorem pg_lst {es : List Expr} {k : Nat} {t : TGs} {n : Nat} (hc : X.calm = true) (h : PGs X es t)
    (hn : (assignEach es X.env).length = n) (hst : (assignEach es X.env).findIdx? (·.1) = none) : PG X (.Tuple es k pos) (gLst X.K n t) := by
  intro pins s σ H v u Q I r hw
  obtain ⟨a, xs, rfl, hq, hl, hw⟩ := hw
  cases r
  obtain ⟨its, rv, p, hz⟩ := I.list hq
  refine assign_lst (I.ok.hd hc) p.isList (by simp [hn, <- hl, rv.length]) hst fun h' hx => ?_
  exact h pins _ σ H xs _ Q (I.kept (t' := s.toks) fun b o e => hx b o (Nat.ne_of_lt (Heap.lt_size e)) e) (by simpa using rv) hw
def gAny (K : PySem.W.Frag) (n : Nat) (t : TGs) : TG := fun v σ H Q => gTup K n t v σ H Q \/ gLst K n t v σ H Q
theorem pg_any {es : List Expr} {k : Nat} {t : TGs} {n : Nat} (hc : X.calm = true) (h : PGs X es t)
    (hn : (assignEach es X.env).length = n := by rfl) (hst : (assignEach es X.env).findIdx? (·.1) = none := by rfl) : PG X (.Tuple es k pos) (gAny X.K n t) := by
  intro pins s σ H v u Q I r hw
  rcases hw with hw | hw
  . exact pg_tup hc h hn hst pins s σ H v u Q I r hw
  . exact pg_lst hc h hn hst pins s σ H v u Q I r hw
end
end L2
namespace L2
open PySem PySem.Spec PyProof.Rows
def clOf (env : Env) : List (Str × NameKind) -> List (Str × Addr) -> List (Str × Addr)
  | [], acc => acc
  | (n, k) :: r, acc => if k == .free then clOf env r ((n, (env.cells.lookup n).getD 0) :: acc) else clOf env r acc
theorem closure_loop {env : Env} (f : Str × NameKind -> List (Str × Addr) -> Sem (ForInStep (List (Str × Addr))))
    (hf : ∀ n k cs, f (n, k) cs = if k == .free then (do let a <- cellOf env n; pure (.yield ((n, a) :: cs))) else pure (.yield cs)) :
    ∀ (names : List (Str × NameKind)) (acc : List (Str × Addr)), (∀ y ∈ names, y.2 = .free -> ∃ c, env.cells.lookup y.1 = some c) -> forIn names acc f = pure (clOf env names acc)
  | [], acc, _ => by rw [List.forIn_nil]; rfl
  | (n, k) :: r, acc, h => by
    have ih := closure_loop f hf r
    rw [List.forIn_cons, hf]
    unfold clOf
    cases hk : k == NameKind.free with
    | true =>
      obtain ⟨c, hc⟩ := h (n, k) List.mem_cons_self (by simpa using hk)
      have hc' : env.cells.lookup n = some c := hc
      have e1 : cellOf env n = pure c := by unfold cellOf; rw [hc']
      simp only [if_true, e1, hc', Option.getD_some, pure_bind]
      exact ih _ fun y hy => h y (List.mem_cons_of_mem _ hy)
    | false =>
      simp only [Bool.false_eq_true, if_false, pure_bind]
      exact ih _ fun y hy => h y (List.mem_cons_of_mem _ hy)
theorem closureFor_all {scope : Scope} {env : Env} (h : ∀ y ∈ scope.names, y.2 = .free -> ∃ c, env.cells.lookup y.1 = some c) : closureFor scope env = pure (clOf env scope.names []) := by
  unfold closureFor
  simp only []
  rw [closure_loop (env := env) _ (fun n k cs => by cases hk : k == NameKind.free <;> simp [hk]) scope.names [] h]
  rfl
theorem clOf_in {env : Env} {y : Str} {c : Addr} : ∀ {names : List (Str × NameKind)} {acc : List (Str × Addr)}, (∀ z ∈ names, z.2 = .free -> ∃ c, env.cells.lookup z.1 = some c) -> (clOf env names acc).lookup y = some c ->
    acc.lookup y = some c \/ ((y, NameKind.free) ∈ names /\ env.cells.lookup y = some c)
  | [], acc, _, e => .inl e
  | (n, k) :: r, acc, h, e => by
    unfold clOf at e
    have h' : ∀ z ∈ r, z.2 = .free -> ∃ c, env.cells.lookup z.1 = some c := fun z hz => h z (List.mem_cons_of_mem _ hz)
    cases hk : k == NameKind.free with
    | true =>
      have hk' : k = .free := by simpa using hk
      subst hk'
      rw [hk, if_pos rfl] at e
      rcases clOf_in h' e with q | ⟨q1, q2⟩
      . rw [List.lookup_cons] at q
        cases hy : y == n with
        | true =>
          rw [hy] at q
          have : y = n := by simpa using hy
          subst this
          obtain ⟨c', hc'⟩ := h (y, .free) List.mem_cons_self rfl
          have hc'' : env.cells.lookup y = some c' := hc'
          rw [hc''] at q
          refine .inr ⟨List.mem_cons_self, ?_⟩
          rw [hc'']; exact q
        | false => rw [hy] at q; exact .inl q
      . exact .inr ⟨List.mem_cons_of_mem _ q1, q2⟩
    | false =>
      rw [hk, if_neg (by simp)] at e
      rcases clOf_in h' e with q | ⟨q1, q2⟩
      . exact .inl q
      . exact .inr ⟨List.mem_cons_of_mem _ q1, q2⟩
theorem clOf_some {env : Env} {y : Str} : ∀ {names : List (Str × NameKind)} {acc : List (Str × Addr)}, ((y, NameKind.free) ∈ names \/ (acc.lookup y).isSome = true) -> ((clOf env names acc).lookup y).isSome = true
  | [], acc, h => by
    rcases h with h | h
    . cases h
    . exact h
  | (n, k) :: r, acc, h => by
    unfold clOf
    cases hk : k == NameKind.free with
    | true =>
      rw [if_pos rfl]
      refine clOf_some ?_
      rcases h with h | h
      . rcases List.mem_cons.mp h with e | e
        . cases e
          exact .inr (by rw [List.lookup_cons]; simp)
        . exact .inl e
      . refine .inr ?_
        rw [List.lookup_cons]
        split
        . rfl
        . exact h
    | false =>
      rw [if_neg (by simp)]
      refine clOf_some ?_
      rcases h with h | h
      . rcases List.mem_cons.mp h with e | e
        . cases e; cases hk
        . exact .inl e
      . exact .inr h
theorem cf_in {y : Str} {c : Addr} : ∀ {names : List (Str × NameKind)} {h : Heap} {acc : List (Str × Addr)}, (cellsFrom h.objs.size names acc).lookup y = some c ->
    acc.lookup y = some c \/ (h.objs.size <= c /\ (pushCells h names).IsCell c none /\ (y, NameKind.cell) ∈ names)
  | [], h, acc, e => .inl e
  | (n, k) :: r, h, acc, e => by
    unfold cellsFrom at e
    cases hk : k == NameKind.cell with
    | true =>
      have hk' : k = .cell := by simpa using hk
      subst hk'
      rw [hk, if_pos rfl] at e
      have ih := cf_in (y := y) (c := c) (names := r) (h := h.push { cls := .type "cell", data := .cell none }) (acc := (n, h.objs.size) :: acc)
      rw [Heap.size_push] at ih
      have hp : pushCells h ((n, NameKind.cell) :: r) = pushCells (h.push { cls := .type "cell", data := .cell none }) r := by
        exact if_pos hk
      rcases ih e with q | ⟨q1, q2, q3⟩
      . rw [List.lookup_cons] at q
        cases hy : y == n with
        | true =>
          rw [hy] at q
          cases q
          have hyn : y = n := by simpa using hy
          subst hyn
          refine .inr ⟨Nat.le_refl _, ?_, List.mem_cons_self⟩
          rw [hp]
          exact ⟨_, pushCells_keeps _ _ _ _ (Heap.get?_push_size _ rfl), rfl⟩
        | false => rw [hy] at q; exact .inl q
      . exact .inr ⟨Nat.le_trans (Nat.le_succ _) q1, by rw [hp]; exact q2, List.mem_cons_of_mem _ q3⟩
    | false =>
      rw [hk, if_neg (by simp)] at e
      have hp : pushCells h ((n, k) :: r) = pushCells h r := by
        show (if (k == NameKind.cell) = true then _ else _) = _
        rw [hk, if_neg (by simp)]
      rcases cf_in e with q | ⟨q1, q2, q3⟩
      . exact .inl q
      . exact .inr ⟨q1, by rw [hp]; exact q2, List.mem_cons_of_mem _ q3⟩
theorem cf_lo {y : Str} {c : Addr} {lo : Nat} : ∀ {names : List (Str × NameKind)} {n : Nat} {acc : List (Str × Addr)}, ((y, NameKind.cell) ∈ names \/ ∀ c, acc.lookup y = some c -> lo <= c) -> lo <= n -> (cellsFrom n names acc).lookup y = some c -> lo <= c
  | [], n, acc, h, _, e => by
    rcases h with h | h
    . cases h
    . exact h c e
  | (m, k) :: r, n, acc, h, hn, e => by
    unfold cellsFrom at e
    cases hk : k == NameKind.cell with
    | true =>
      rw [hk, if_pos rfl] at e
      refine cf_lo ?_ (Nat.le_trans hn (Nat.le_succ _)) e
      by_cases hy : y = m
      . subst hy
        refine .inr fun c hc => ?_
        rw [List.lookup_cons, beq_self_eq_true] at hc
        cases hc
        exact hn
      . rcases h with h | h
        . rcases List.mem_cons.mp h with z | z
          . cases z; exact absurd rfl hy
          . exact .inl z
        . refine .inr fun c hc => ?_
          rw [List.lookup_cons] at hc
          have : (y == m) = false := by simpa using hy
          rw [this] at hc
          exact h c hc
    | false =>
      rw [hk, if_neg (by simp)] at e
      refine cf_lo ?_ hn e
      rcases h with h | h
      . rcases List.mem_cons.mp h with z | z
        . cases z; cases hk
        . exact .inl z
      . exact .inr h
theorem cf_inj : ∀ {names : List (Str × NameKind)} {n : Nat} {acc : List (Str × Addr)}, (∀ y z c, acc.lookup y = some c -> acc.lookup z = some c -> y = z) -> (∀ y c, acc.lookup y = some c -> c < n) ->
    ∀ y z c, (cellsFrom n names acc).lookup y = some c -> (cellsFrom n names acc).lookup z = some c -> y = z
  | [], n, acc, hi, _ => hi
  | (m, k) :: r, n, acc, hi, hl => by
    unfold cellsFrom
    cases hk : k == NameKind.cell with
    | true =>
      rw [if_pos rfl]
      refine cf_inj (fun y z c e1 e2 => ?_) fun y c e => ?_
      . rw [List.lookup_cons] at e1 e2
        cases hy : y == m <;> cases hz : z == m <;> rw [hy] at e1 <;> rw [hz] at e2
        . exact hi y z c e1 e2
        . cases e2; exact absurd (hl y _ e1) (Nat.lt_irrefl _)
        . cases e1; exact absurd (hl z _ e2) (Nat.lt_irrefl _)
        . exact (by simpa using hy : y = m).trans (by simpa using hz : z = m).symm
      . rw [List.lookup_cons] at e
        cases hy : y == m <;> rw [hy] at e
        . exact Nat.lt_succ_of_lt (hl y c e)
        . cases e; exact Nat.lt_succ_self _
    | false =>
      rw [if_neg (by simp)]
      exact cf_inj hi hl
theorem newBlockEnv {M : Model} {A : Around} {E : Value -> Shared -> Prop} {s : Shared} {scope : Scope} {globals : Addr} {cl : List (Str × Addr)} {qual : Str} {outer : Env} {Q : Env -> Shared -> Prop}
    (hQ : Q { scope := scope, locals := s.heap.objs.size, globals := globals, cells := cellsFrom (s.heap.objs.size + 1) scope.names cl, qual := qual, func := none, code := outer.code, frame := outer.frame, builtins := outer.builtins }
      { s with heap := pushCells (s.heap.push { cls := .type "dict", data := .dict #[] }) scope.names }) :
    wpAny M A (newFunctionEnv scope globals cl [] qual none .none (some outer)) Q E s := by
  simp only [newFunctionEnv, Option.isSome_some, if_true]
  refine wpAny_bind (wpAny_alloc ?_)
  refine wpAny_bind (wpAny_layCells _ (fun name kind cells => by cases hkc : kind == NameKind.cell <;> simp [hkc]) _ _ _ _ ?_)
  rw [show ({ s with heap := s.heap.push { cls := .type "dict", data := .dict #[] } } : Shared).heap.objs.size = s.heap.objs.size + 1 from Heap.size_push ..]
  simp only [List.forIn_nil]
  exact wpAny_bind (wpAny_pure (wpAny_pure hQ))
theorem relabel_lookup {scope : Scope} {env : Env} {y : Str} : (relabel scope env).names.lookup y = (scope.names.lookup y).map fun k => if (k == NameKind.free && env.scope.kind == .function && env.kindOf y == some .cell) then NameKind.cell else k := by
  have all : ∀ l : List (Str × NameKind), (l.map fun (n, k) => if (k == NameKind.free && env.scope.kind == .function && env.kindOf n == some .cell) then (n, NameKind.cell) else (n, k)).lookup y = (l.lookup y).map fun k => if (k == NameKind.free && env.scope.kind == .function && env.kindOf y == some .cell) then NameKind.cell else k := by
    intro l
    induction l with
    | nil => rfl
    | cons p r ih =>
      obtain ⟨n, k⟩ := p
      rw [List.map_cons, List.lookup_cons]
      by_cases hc : (k == NameKind.free && env.scope.kind == .function && env.kindOf n == some .cell) = true
      . simp only [hc, if_true, List.lookup_cons]
        cases hy : y == n with
        | true =>
          have : y = n := by simpa using hy
          subst this
          simp only [Option.map_some, hc, if_true]
        | false => exact ih
      . simp only [if_neg hc, List.lookup_cons]
        cases hy : y == n with
        | true =>
          have : y = n := by simpa using hy
          subst this
          simp only [Option.map_some, if_neg hc]
        | false => exact ih
  exact all scope.names
def dum (x : Str) : Str := ⟨x.cps.push 0⟩
def compN (N xs : List Str) : List Str := (N.map fun y => if y ∈ xs then dum y else y) ++ xs
theorem compN_len (N xs : List Str) : (compN N xs).length = N.length + xs.length := by simp [compN]
theorem compN_last (N xs : List Str) (j : Nat) : (compN N xs)[N.length + j]? = xs[j]? := by
  unfold compN
  rw [List.getElem?_append_right (by simp)]
  simp
theorem compN_old {N xs : List Str} {y : Str} {i : Nat} (hi : i < N.length) (h : (compN N xs)[i]? = some y) : (∃ x ∈ xs, y = dum x) \/ (N[i]? = some y /\ y ∉ xs) := by
  unfold compN at h
  rw [List.getElem?_append_left (by simpa using hi), List.getElem?_map] at h
  obtain ⟨z, hz⟩ : ∃ z, N[i]? = some z := ⟨N[i], by simp [hi]⟩
  rw [hz] at h
  by_cases e : z ∈ xs
  . simp only [Option.map_some, if_pos e] at h
    exact .inl ⟨z, e, (Option.some.inj h).symm⟩
  . simp only [Option.map_some, if_neg e] at h
    have e2 : z = y := Option.some.inj h
    subst e2
    exact .inr ⟨hz, e⟩
structure CompOf (X : Cx) (scope : Scope) (xs : List Str) (Xc : Cx) : Prop where
  prog : Xc.prog = X.prog
  w : Xc.w = X.w
  K : Xc.K = X.K
  mg : Xc.mg = X.mg
  base : Xc.base = X.base
  A : Xc.A = X.A
  N : Xc.N = compN X.N xs
  sc : Xc.env.scope = relabel scope X.env
  calm : Xc.calm = true
  stack : Xc.stack = X.stack
def PTs (X : Cx) (ifs : List Expr) (t : TT) : Prop :=
  ∀ (pins : List (Addr × Obj)) (s : Shared) (σ : St) (H : Hp) (Q : Bool -> Hp -> Prop), Inv X pins σ H s -> t σ H Q ->
    wpAny (model X.prog X.w) X.A (forIn ifs true fun c r => if r = true then do let ok <- isTrue c X.env (eval c X.env); pure (ForInStep.yield ok) else pure (ForInStep.yield r)) (TP X pins σ Q) X.xe s
theorem pts_nil {X : Cx} : PTs X [] (fun _ H Q => Q true H) := fun _ _ _ H _ I h => wpAny_tests_nil ⟨H, I, h⟩
theorem pts_one {X : Cx} {c : Expr} {t : TT} (h : PT X c t) : PTs X [c] t := fun pins s σ H Q I q => wpAny_tests_one (h pins s σ H Q I q)
structure BlockOk (X : Cx) (scope : Scope) (xs : List Str) : Prop where
  kind : scope.kind = .function
  own : ∀ x ∈ xs, scope.names.lookup x = some .local \/ scope.names.lookup x = some .cell
  locs : ∀ y ∈ scope.names, y.2 = .local -> scope.names.lookup y.1 = some .local
  free : ∀ y ∈ scope.names, y.2 = .free -> X.env.scope.names.lookup y.1 = some .cell \/ X.env.scope.names.lookup y.1 = some .free
  alone : ∀ y ∈ X.N, y ∉ xs -> scope.names.lookup y ≠ some .local /\ scope.names.lookup y ≠ some .cell
  one : ∀ y ∈ scope.names, y.2 = .cell -> scope.names.lookup y.1 ≠ some .free
  nd : (compN X.N xs).Nodup
  dumN : ∀ x ∈ xs, scope.names.lookup (dum x) = none
theorem compLoop_any {prog : Program} {w : World} {A : Around} {R : Result -> Shared -> Prop} {s : Shared} {elt target iter : Expr} {ifs : List Expr} {scope : Scope} {pos : Pos} {it acc : Value} {env : Env} (I : Nat -> Shared -> Prop)
    (turn : ∀ n s, I n s -> wpAny (model prog w) A (pyNext it) (fun r s₁ => match r with
      | none => R (.ok .next) s₁
      | some v => wpAny (model prog w) A (letOwnedTupleGo target it v) (fun _ s₁' => wpAny (model prog w) A (assign target env v) (fun _ s₂ =>
          wpAny (model prog w) A (forIn ifs true fun c r => if r = true then do let ok <- isTrue c env (eval c env); pure (ForInStep.yield ok) else pure (ForInStep.yield r)) (fun ok s₃ =>
            if ok = true then wpAny (model prog w) A (eval elt env) (fun x s₄ =>
              wpAny (model prog w) A (call (.builtin "list.append") [acc, x]) (fun _ s₅ => ∃ m, m < n /\ I m s₅) (notedBy (model prog w) A env fun e s' => R (.error e) s') s₄) (notedBy (model prog w) A env fun e s' => R (.error e) s') s₃
            else ∃ m, m < n /\ I m s₃) (notedBy (model prog w) A env fun e s' => R (.error e) s') s₂) (notedBy (model prog w) A env fun e s' => R (.error e) s') s₁') (notedBy (model prog w) A env fun e s' => R (.error e) s') s₁) (notedBy (model prog w) A env fun e s' => R (.error e) s') s)
    (n : Nat) (h : I n s) : codeAny (model prog w) A (.compLoop (.ListComp elt [⟨target, iter, ifs, 0⟩] scope pos) 0 it acc env) R s := by
  refine codeAny_loop rfl I (fun n s hI => ?_) n h
  show wpAny _ A ((compTurn (.ListComp elt [⟨target, iter, ifs, 0⟩] scope pos) 0 it acc env).onRaise (fun x => do noteFrame x env; theTreesLotGoes x)) _ _ s
  refine wpAny_noted ?_
  rw [compTurn_list]
  refine wpAny_bind (wpAny_standAt (wpAny_bind (wpAny_mono (turn n s hI) (fun r s₁ h₁ => ?_) fun _ _ h' => h')))
  cases r with
  | none => exact wpAny_pure h₁
  | some v =>
    refine wpAny_bind (wpAny_mono h₁ (fun _ s₁' h₁' => ?_) fun _ _ h' => h')
    refine wpAny_bind (wpAny_mono h₁' (fun _ s₂ h₂ => wpAny_bind (wpAny_mono h₂ (fun ok s₃ h₃ => ?_) fun _ _ h' => h')) fun _ _ h' => h')
    cases ok with
    | false => exact wpAny_pure ⟨rfl, h₃⟩
    | true =>
      exact wpAny_bind (wpAny_bind (wpAny_mono h₃ (fun x s₄ h₄ => wpAny_bind (wpAny_mono h₄ (fun _ s₅ h₅ => wpAny_pure (wpAny_pure ⟨rfl, h₅⟩)) fun _ _ h' => h')) fun _ _ h' => h'))
def tComp (un : V -> Hp -> List V -> Prop) (wi : TI) (tc : TT) (te : TE) : TE := fun σ H Q => wi σ H fun J H1 => ∀ D, H1 D = none -> ∃ W : Nat -> Nat -> List V -> Hp -> Prop, (∃ m, W 0 m [] (upd H1 D (.lst []))) /\ ∀ i m ys H, W i m ys H ->
  (J.stop i H /\ Q (.ref D) H) \/ (J.go i H /\ ∀ v H', J.yld i H v H' -> ∃ vs, un v H' vs /\ tc (σ ++ vs.map some) H' fun b H2 => if b = true then te (σ ++ vs.map some) H2 fun y H3 => H3 D = some (.lst ys) /\ ys.length < sizeLine /\ ∃ m', m' < m /\ W (i + 1) m' (ys ++ [y]) (upd H3 D (.lst (ys ++ [y])))
    else ∃ m', m' < m /\ W (i + 1) m' ys H2)
theorem comp_block {X : Cx} {elt iter tg : Expr} {xs : List Str} {g : TG} {un : V -> Hp -> List V -> Prop} {ifs : List Expr} {scope : Scope} {pos : Pos} {tc : TT} {te : TE} {pins : List (Addr × Obj)} {σ : St} {s : Shared} {H : Hp} {Q : Value -> Shared -> Prop} {use : Option (Value -> Sem Unit)}
    {D it : Addr} {fp : List Addr} {tn : Nat -> Heap -> Prop} {J : It} (B : BlockOk X scope xs) (hc : X.calm = true)
    (hpg : ∀ Xc, CompOf X scope xs Xc -> (∀ x ∈ xs, Loc Xc.env.scope x /\ (Xc.fn x = true \/ Xc.env.scope.names.lookup x = some .local)) -> PG Xc tg g)
    (hun : ∀ v H vs os, os.length = xs.length -> un v H vs -> vs.length = xs.length /\ g v (σ ++ os) H fun σ2 H2 => σ2 = σ ++ vs.map some /\ H2 = H)
    (hbody : ∀ Xc, CompOf X scope xs Xc -> PTs Xc ifs tc /\ PE Xc elt te)
    (I : Inv X pins σ H s) (T : Turn X.prog X.w X.K tg J fp it tn) (st : tn 0 s.heap) (hfp : ∀ b ∈ fp, FpOk X pins H b)
    (W : Nat -> Nat -> List V -> Hp -> Prop) (m0 : Nat) (w0 : W 0 m0 [] H)
    (turn : ∀ i m ys H, W i m ys H -> (J.stop i H /\ ∀ s' m' C, Inv X pins σ H s' -> s'.heap.Ns C m' -> s.heap.objs.size <= C -> H C = none -> compPost (model X.prog X.w) X.A X.xe use Q (.ref D) C (.ok .next) s') \/
      (J.go i H /\ ∀ v H', J.yld i H v H' -> ∃ vs, un v H' vs /\ tc (σ ++ vs.map some) H' fun b H2 => if b = true then te (σ ++ vs.map some) H2 fun y H3 => H3 D = some (.lst ys) /\ ys.length < sizeLine /\ ∃ m', m' < m /\ W (i + 1) m' (ys ++ [y]) (upd H3 D (.lst (ys ++ [y])))
        else ∃ m', m' < m /\ W (i + 1) m' ys H2)) :
    wpAny (model X.prog X.w) X.A (newFunctionEnv scope X.env.globals (clOf X.env scope.names []) [] X.env.qual none .none (some X.env)) (fun cenv s₄ =>
      codeAny (model X.prog X.w) X.A (.compStart (.ListComp elt [⟨tg, iter, ifs, 0⟩] scope pos) 0 (.ref it) (.ref D) { cenv with scope := relabel scope X.env }) (compPost (model X.prog X.w) X.A X.xe use Q (.ref D) cenv.locals) s₄) X.xe s := by
  refine newBlockEnv ?_
  have hcl : ∀ y ∈ scope.names, y.2 = .free -> ∃ c, X.env.cells.lookup y.1 = some c := fun y hy hf => by
    rcases B.free y hy hf with q | q
    . exact I.ok.has y.1 (.inl q)
    . exact I.ok.has y.1 (.inr q)
  -- the block's own parts
  generalize hC : s.heap.objs.size = C
  generalize hcs : cellsFrom (C + 1) scope.names (clOf X.env scope.names []) = cs
  generalize hh4 : pushCells (s.heap.push { cls := .type "dict", data := .dict #[] }) scope.names = h4
  have szP : (s.heap.push { cls := .type "dict", data := .dict #[] }).objs.size = C + 1 := by rw [Heap.size_push, hC]
  have keep4 : ∀ b o, s.heap.get? b = some o -> h4.get? b = some o := fun b o e => hh4 ▸ pushCells_keeps _ _ _ _ (Heap.get?_push_of_some _ e)
  have nsC : h4.Ns C (fun _ => none) := by
    have q := (Heap.Ns.new s.heap (.type "dict")).keeps (pushCells_keeps scope.names (s.heap.push { cls := .type "dict", data := .dict #[] }))
    rw [hC, hh4] at q
    exact q
  -- a cell of the block: one of its own, or one of those around
  have csIn : ∀ y c, cs.lookup y = some c -> ((y, NameKind.free) ∈ scope.names /\ X.env.cells.lookup y = some c) \/ (C + 1 <= c /\ h4.IsCell c none /\ (y, NameKind.cell) ∈ scope.names) := fun y c e => by
    have q := cf_in (y := y) (c := c) (names := scope.names) (h := s.heap.push { cls := .type "dict", data := .dict #[] }) (acc := clOf X.env scope.names [])
    rw [szP, hcs, hh4] at q
    rcases q e with q | q
    . rcases clOf_in hcl q with z | z
      . cases z
      . exact .inl z
    . exact .inr q
  have oldC : ∀ y c, X.env.cells.lookup y = some c -> c < C := fun y c e => by
    obtain ⟨v, q⟩ := I.cell y c e
    rw [<- hC]; exact q.lt
  have fpC : ∀ b ∈ fp, b < C := fun b hb => by
    obtain ⟨o, e, _⟩ := T.obj _ _ st b hb
    rw [<- hC]; exact Heap.lt_size e
  let cenv : Env := { scope := relabel scope X.env, locals := C, globals := X.env.globals, cells := cs, qual := X.env.qual, func := none, code := X.env.code, frame := X.env.frame, builtins := X.env.builtins }
  let RR : Result -> Shared -> Prop := compPost (model X.prog X.w) X.A X.xe use Q (.ref D) C
  let Xc : Cx := { X with N := compN X.N xs, s₀ := s, H₀ := H, env := cenv, outer := X.stack, stack := X.stack, ex := fp, fn := fun y => decide (scope.names.lookup y = some .cell), calm := true, pn := [], xe := notedBy (model X.prog X.w) X.A cenv fun e s' => RR (.error e) s' }
  have hXc : CompOf X scope xs Xc := ⟨rfl, rfl, rfl, rfl, rfl, rfl, rfl, rfl, rfl, rfl⟩
  obtain ⟨hT, hE⟩ := hbody Xc hXc
  have ok : Xc.Ok := by
    refine ⟨I.ok.mod, B.kind, I.ok.glob, I.ok.blt, Nat.le_of_eq hC, ?_, fun y hy => ?_, fun y c hf e => ?_, fun _ => I.ok.hd hc, I.ok.frames, .inl rfl, fun b hb => ⟨Nat.ne_of_lt (fpC b hb), fun y c e => ?_⟩, I.bs, Nat.le_trans I.ok.bsz I.sz, fun b o e hb => ?_, fun b hb hf => ?_, I.stack, I.stkFree⟩
    . show ∀ y z c, cs.lookup y = some c -> cs.lookup z = some c -> y = z
      rw [<- hcs]
      refine cf_inj (fun y z c e1 e2 => ?_) fun y c e => ?_
      . rcases clOf_in hcl e1 with q | q
        . cases q
        . rcases clOf_in hcl e2 with q' | q'
          . cases q'
          . exact I.ok.inj y z c q.2 q'.2
      . rcases clOf_in hcl e with q | q
        . cases q
        . exact Nat.lt_succ_of_lt (oldC y c q.2)
    . have hy' : (relabel scope X.env).names.lookup y = some .cell \/ (relabel scope X.env).names.lookup y = some .free := hy
      rw [relabel_lookup] at hy'
      show ∃ c, cs.lookup y = some c
      rw [<- hcs]
      refine Option.isSome_iff_exists.mp (PySem.W.cellsFrom_some _ _ _ ?_)
      cases hk : scope.names.lookup y with
      | none => rw [hk] at hy'; rcases hy' with z | z <;> cases z
      | some k =>
        rw [hk] at hy'
        have kk : k = .cell \/ k = .free := by
          simp only [Option.map_some] at hy'
          by_cases hcnd : (k == NameKind.free && X.env.scope.kind == .function && X.env.kindOf y == some .cell) = true
          . refine .inr ?_
            have := (Bool.and_eq_true_iff.mp (Bool.and_eq_true_iff.mp hcnd).1).1
            simpa using this
          . rw [if_neg hcnd] at hy'
            rcases hy' with z | z
            . exact .inl (Option.some.inj z)
            . exact .inr (Option.some.inj z)
        rcases kk with rfl | rfl
        . exact .inl rfl
        . exact .inr (clOf_some (.inl (PySem.mem_of_lookup hk)))
    . show s.heap.objs.size <= c
      rw [hC]
      have e' : cs.lookup y = some c := e
      rw [<- hcs] at e'
      exact Nat.le_trans (Nat.le_succ _) (cf_lo (lo := C + 1) (.inl (PySem.mem_of_lookup (of_decide_eq_true hf))) (Nat.le_refl _) e')
    . show c ≠ b
      rintro rfl
      rcases csIn y c e with ⟨_, z⟩ | ⟨z, _, _⟩
      . exact (hfp c hb).2.2.2.2.1 y c z rfl
      . exact absurd (Nat.lt_of_lt_of_le (fpC c hb) (Nat.le_trans (Nat.le_succ _) z)) (Nat.lt_irrefl _)
    . rcases (hfp b hb).2.2.2.1 with z | z
      . exact I.ok.noex b o e z
      . exact absurd (Nat.lt_of_lt_of_le (Heap.lt_size (I.ok.bs b o e).1) z) (Nat.lt_irrefl _)
    . rcases List.mem_cons.mp (I.stkSub b hf) with z | z
      . exact (hfp b hb).2.1 z
      . exact (hfp b hb).2.2.1 z
  have frC : H C = none := I.hok.fresh (Nat.le_of_eq hC)
  have frN : ∀ c, C <= c -> H c = none := fun c hc' => I.hok.fresh (by rw [hC]; exact hc')
  have hσ : σ.length = X.N.length := I.len
  have I4 : Inv Xc [] (σ ++ xs.map fun _ => none) H { s with heap := h4 } := by
    refine ⟨ok, rfl, I.bare, Un.kept keep4, ⟨_, nsC, fun i y v e1 e2 e3 => ?_⟩, fun y c e => ?_, frC, fun y c e => ?_, fun p hp => absurd (show p ∈ ([] : List (Addr × Obj)) from hp) (by simp), I.hok.kept keep4, ?_⟩
    . have hi : i < σ.length := by
        by_cases hi : i < σ.length
        . exact hi
        . rw [List.getElem?_append_right (by omega), List.getElem?_map] at e2
          cases hz : xs[i - σ.length]? with
          | none => rw [hz] at e2; simp at e2
          | some k => rw [hz] at e2; simp at e2
      rw [List.getElem?_append_left hi] at e2
      have vis : scope.names.lookup y = some .local \/ scope.names.lookup y = some .cell \/ scope.names.lookup y = some .free := by
        have e3' : Vis (relabel scope X.env) y := e3
        unfold Vis at e3'
        rw [relabel_lookup] at e3'
        cases hk : scope.names.lookup y with
        | none => rw [hk] at e3'; rcases e3' with z | z | z <;> cases z
        | some k =>
          rw [hk] at e3'
          simp only [Option.map_some] at e3'
          by_cases hcnd : (k == NameKind.free && X.env.scope.kind == .function && X.env.kindOf y == some .cell) = true
          . have := (Bool.and_eq_true_iff.mp (Bool.and_eq_true_iff.mp hcnd).1).1
            exact .inr (.inr (by rw [show k = .free by simpa using this]))
          . rw [if_neg hcnd] at e3'
            exact e3'
      rcases compN_old (by rw [<- hσ]; exact hi) e1 with z | ⟨z, zx⟩
      . obtain ⟨x, hx, z⟩ := z
        subst z
        rw [B.dumN x hx] at vis
        rcases vis with q | q | q <;> cases q
      . have hfree : scope.names.lookup y = some .free := by
          rcases vis with q | q | q
          . exact absurd q (B.alone y (List.mem_of_getElem? z) zx).1
          . exact absurd q (B.alone y (List.mem_of_getElem? z) zx).2
          . exact q
        have kout := B.free _ (PySem.mem_of_lookup hfree) rfl
        obtain ⟨m, hn, hl⟩ := I.loc
        obtain ⟨u, r, l⟩ := hl i y v z e2 (kout.elim (fun q => .inr (.inl q)) fun q => .inr (.inr q))
        refine ⟨u, r, ?_⟩
        rcases l with ⟨k, _⟩ | ⟨_, c, ec, zc⟩
        . have k' : X.env.scope.names.lookup y = some .local := k
          rcases kout with q | q <;> rw [k'] at q <;> cases q
        . have hsome : ∃ c', cs.lookup y = some c' := ok.has y (by
            show (relabel scope X.env).names.lookup y = some .cell \/ (relabel scope X.env).names.lookup y = some .free
            rw [relabel_lookup, hfree]
            simp only [Option.map_some]
            split
            . exact .inl rfl
            . exact .inr rfl)
          obtain ⟨c', ec'⟩ := hsome
          refine .inr ⟨?_, c', ec', ?_⟩
          . show (relabel scope X.env).names.lookup y = some .cell \/ (relabel scope X.env).names.lookup y = some .free
            rw [relabel_lookup, hfree]
            simp only [Option.map_some]
            split
            . exact .inl rfl
            . exact .inr rfl
          . rcases csIn y c' ec' with ⟨_, q⟩ | ⟨_, _, q⟩
            . rw [ec] at q; cases q
              exact zc.keeps keep4
            . exact absurd hfree (B.one (y, .cell) q rfl)
    . rcases csIn y c e with ⟨_, q⟩ | ⟨_, q, _⟩
      . obtain ⟨v, z⟩ := I.cell y c q
        exact ⟨v, z.keeps keep4⟩
      . exact ⟨_, q⟩
    . rcases csIn y c e with ⟨_, q⟩ | ⟨q, _, _⟩
      . exact I.freeC y c q
      . exact frN c (by omega)
    . show (σ ++ xs.map fun _ => none).length = (compN X.N xs).length
      rw [compN_len, List.length_append, hσ, List.length_map]
  -- the loop
  have hLoc : ∀ x ∈ xs, Loc Xc.env.scope x /\ (Xc.fn x = true \/ Xc.env.scope.names.lookup x = some .local) := fun x hx => by
    constructor
    . show (relabel scope X.env).names.lookup x = some .local \/ (relabel scope X.env).names.lookup x = some .cell
      rw [relabel_lookup]
      rcases B.own x hx with q | q <;> rw [q]
      . exact .inl rfl
      . exact .inr rfl
    . rcases B.own x hx with q | q
      . refine .inr ?_
        show (relabel scope X.env).names.lookup x = some .local
        rw [relabel_lookup, q]; rfl
      . exact .inl (decide_eq_true q)
  have hg : PG Xc tg g := hpg Xc hXc hLoc
  have fpX : ∀ {H' : Hp}, (∀ b ∈ fp, H' b = none) -> ∀ b ∈ fp, FpOk Xc [] H' b := fun hn b hb =>
    ⟨hn b hb, Nat.ne_of_lt (fpC b hb), fun z => ok.exfs b hb z, .inl hb, fun y c e => (ok.exf b hb).2 y c e, fun p hp => absurd (show p ∈ ([] : List (Addr × Obj)) from hp) (by simp)⟩
  have loop : codeAny (model X.prog X.w) X.A (.compLoop (.ListComp elt [⟨tg, iter, ifs, 0⟩] scope pos) 0 (.ref it) (.ref D) cenv) RR { s with heap := h4 } := by
    refine compLoop_any (fun n s' => ∃ i os ys H', os.length = xs.length /\ Inv Xc [] (σ ++ os) H' s' /\ tn i s'.heap /\ (∀ b ∈ fp, H' b = none) /\ W i n ys H') ?_ m0 ⟨0, _, [], H, List.length_map _, I4, T.keep _ _ _ st fun b _ o e => keep4 b o e, fun b hb => (hfp b hb).1, w0⟩
    rintro n s3 ⟨i, os, ys, H3, hos, I3, st3, fr3, w3⟩
    rcases turn i n ys H3 w3 with ⟨stop, fin⟩ | ⟨go, step⟩
    . refine thn (T.done Xc rfl rfl rfl rfl i [] s3 (σ ++ os) H3 Xc.xe I3 (fpX fr3) st3 stop) fun r s4 ⟨hr, I4⟩ => ?_
      subst hr
      obtain ⟨m, hn, _⟩ := id I4.loc
      refine fin s4 m C ?_ hn (Nat.le_of_eq hC) I4.free
      exact I.call' (ch := fp) I4.os I4.base I4.hok I4.bare fun b hb => ⟨(hfp b hb).2.2.2.1, (hfp b hb).2.1, (hfp b hb).2.2.2.2.1, (hfp b hb).2.2.2.2.2⟩
    . refine thn (T.item Xc rfl rfl rfl rfl i [] s3 (σ ++ os) H3 Xc.xe I3 (fpX fr3) st3 go) fun r s4 ⟨u, hr, h4'⟩ => ?_
      subst hr
      refine thn h4' fun _ s5 ⟨v, H5, I5, r5, y5, st5, fr5⟩ => ?_
      have I5' := I5.pinned (fpX fr5) (T.obj _ _ st5)
      obtain ⟨vs, hvs, step5⟩ := step v H5 y5
      obtain ⟨hvl, hset⟩ := hun v H5 vs os hos hvs
      refine thn (hg _ s5 (σ ++ os) H5 v u (fun σ2 H2 => σ2 = σ ++ vs.map some /\ H2 = H5) I5' r5 hset) fun _ s6 ⟨σ6, H6, I6, e6, e6'⟩ => ?_
      subst e6; subst e6'
      have back : ∀ {H7 : Hp} {s7 : Shared}, Inv Xc ([] ++ pinsAt fp s5.heap) (σ ++ vs.map some) H7 s7 -> tn (i + 1) s7.heap /\ (∀ b ∈ fp, H7 b = none) /\ Inv Xc [] (σ ++ vs.map some) H7 s7 := fun {H7 s7} I7 => by
        refine ⟨T.keep _ _ _ st5 fun b hb ob e => (I7.pin (b, ob) (List.mem_append_right _ (List.mem_append_right _ (mem_pinsAt hb e)))).1, fun b hb => ?_, I7.unpinned⟩
        obtain ⟨ob, e, _⟩ := T.obj _ _ st5 b hb
        exact (I7.pin (b, ob) (List.mem_append_right _ (List.mem_append_right _ (mem_pinsAt hb e)))).2.1
      refine thn (hT _ s6 (σ ++ vs.map some) H6 _ I6 step5) fun b s7 ⟨H7, I7, q7⟩ => ?_
      cases b with
      | false =>
        rw [if_neg Bool.false_ne_true] at q7 ⊢
        obtain ⟨m', hm, w7⟩ := q7
        obtain ⟨t1, t2, t3⟩ := back I7
        exact ⟨m', hm, i + 1, _, ys, H7, (by rw [List.length_map]; exact hvl), t3, t1, t2, w7⟩
      | true =>
        rw [if_pos rfl] at q7 ⊢
        refine thn (hE _ s7 (σ ++ vs.map some) H7 _ I7 q7) fun yv s8 ⟨y, H8, I8, r8, hD8, hl8, m', hm, w8⟩ => ?_
        refine thn (mt_append (X := Xc) _ s8 (σ ++ vs.map some) H8 (.ref D) [y] (.ref D) [yv] (fun _ H9 => H9 = upd H8 D (.lst (ys ++ [y]))) I8 rfl (.cons r8 .nil) ⟨D, ys, y, rfl, rfl, hD8, hl8, rfl⟩) fun _ s9 ⟨_, H9, I9, _, e9⟩ => ?_
        subst e9
        obtain ⟨t1, t2, t3⟩ := back I9
        exact ⟨m', hm, i + 1, _, ys ++ [y], _, (by rw [List.length_map]; exact hvl), t3, t1, t2, w8⟩
  refine codeAny_compStart_list loop ?_
  exact T.self X.A 0 _ _ _ (T.keep _ _ _ st fun b _ o e => keep4 b o e) loop
section
variable {X : Cx} {elt iter tg : Expr} {xs : List Str} {y : Str} {g : TG} {un : V -> Hp -> List V -> Prop} {py : Pos} {ifs : List Expr} {scope : Scope} {pos spos : Pos} {wi : TI} {tc : TT} {te : TE}
theorem Inv.aside {pins : List (Addr × Obj)} {σ : St} {H : Hp} {s : Shared} {C lo : Addr} {h' : Heap} (I : Inv X pins σ H s) (hlo : lo <= C) (hL : X.env.locals < lo) (hcell : ∀ y c, X.env.cells.lookup y = some c -> c < lo) (hpin : ∀ p ∈ X.pn ++ pins, p.1 < lo)
    (hn : H C = none) (hs : Heap.SameBut C s.heap h') : Inv X pins σ H { s with heap := h' } :=
  I.turned (it := C) (t' := s.toks) (fun b o hb e => (hs.2 b hb).trans e) hn (Nat.ne_of_gt (Nat.lt_of_lt_of_le hL hlo)) (.inr (Nat.le_trans I.ok.above (Nat.le_trans (Nat.le_of_lt hL) hlo)))
    (fun y c e => Nat.ne_of_lt (Nat.lt_of_lt_of_le (hcell y c e) hlo)) fun p hp => Nat.ne_of_lt (Nat.lt_of_lt_of_le (hpin p hp) hlo)
theorem Inv.below {pins : List (Addr × Obj)} {σ : St} {H : Hp} {s : Shared} (I : Inv X pins σ H s) : X.env.locals < s.heap.objs.size /\ (∀ y c, X.env.cells.lookup y = some c -> c < s.heap.objs.size) /\ ∀ p ∈ X.pn ++ pins, p.1 < s.heap.objs.size :=
  ⟨I.lt, fun y c e => let ⟨_, z⟩ := I.cell y c e; z.lt, fun p hp => Heap.lt_size (I.pin p hp).1⟩
theorem block_closure (B : BlockOk X scope xs) (ok : X.Ok) : closureFor scope X.env = pure (clOf X.env scope.names []) :=
  closureFor_all fun y hy hf => (B.free y hy hf).elim (fun q => ok.has y.1 (.inl q)) fun q => ok.has y.1 (.inr q)
structure Tgt (X : Cx) (scope : Scope) (xs : List Str) (tg : Expr) (g : TG) (un : V -> Hp -> List V -> Prop) : Prop where
  pg : ∀ Xc, CompOf X scope xs Xc -> (∀ x ∈ xs, Loc Xc.env.scope x /\ (Xc.fn x = true \/ Xc.env.scope.names.lookup x = some .local)) -> PG Xc tg g
  un : ∀ v H vs os (σ : St), σ.length = X.N.length -> os.length = xs.length -> un v H vs -> vs.length = xs.length /\ g v (σ ++ os) H fun σ2 H2 => σ2 = σ ++ vs.map some /\ H2 = H
def un1 (v : V) (_ : Hp) (vs : List V) : Prop := vs = [v]
theorem one_in {α : Type} {l : List α} (h : l.length = 1) : ∃ a, l = [a] := by
  cases l with
  | nil => cases h
  | cons a t =>
    cases t with
    | nil => exact ⟨a, rfl⟩
    | cons b t => cases h
theorem two_in {α : Type} {l : List α} (h : l.length = 2) : ∃ a b, l = [a, b] := by
  cases l with
  | nil => cases h
  | cons a t =>
    obtain ⟨b, rfl⟩ := one_in (Nat.succ.inj h)
    exact ⟨a, b, rfl⟩
theorem tgt_one {x : Str} {px : Pos} (B : BlockOk X scope [x]) : Tgt X scope [x] (.Name x px) (gName X.N.length) un1 := by
  refine ⟨fun Xc c h => ?_, fun v H vs os σ hσ ho hv => ?_⟩
  . exact pg_name (by rw [c.N]; exact B.nd) (by rw [c.N]; exact compN_last X.N [x] 0) (h x (by simp)).1 (h x (by simp)).2
  . cases hv
    refine ⟨rfl, ?_, rfl⟩
    obtain ⟨o, rfl⟩ := one_in ho
    rw [<- hσ, List.set_append_right _ _ (Nat.le_refl _)]
    simp
def un2 (K : PySem.W.Frag) (v : V) (H : Hp) (vs : List V) : Prop := ∃ a, v = .ref a /\ SqT K H a vs /\ vs.length = 2
theorem tgt_two {x y : Str} {px py : Pos} {k : Nat} {pt : Pos} (hc : X.calm = true) (B : BlockOk X scope [x, y]) : Tgt X scope [x, y] (.Tuple [.Name x px, .Name y py] k pt) (gTup X.K 2 (gCons (gName X.N.length) (gCons (gName (X.N.length + 1)) gNil))) (un2 X.K) := by
  refine ⟨fun Xc c h => ?_, fun v H vs os σ hσ ho hv => ?_⟩
  . have nd : Xc.N.Nodup := by rw [c.N]; exact B.nd
    rw [<- c.K]
    exact pg_tup c.calm (pgs_cons (pg_name nd (by rw [c.N]; exact compN_last X.N [x, y] 0) (h x (by simp)).1 (h x (by simp)).2) (pgs_cons (pg_name nd (by rw [c.N]; exact compN_last X.N [x, y] 1) (h y (by simp)).1 (h y (by simp)).2) pgs_nil))
  . obtain ⟨a, e1, e2, e3⟩ := hv
    obtain ⟨u, w, rfl⟩ := two_in e3
    obtain ⟨o, p, rfl⟩ := two_in ho
    refine ⟨rfl, a, [u, w], e1, e2, rfl, u, [w], rfl, w, [], rfl, rfl, ?_, rfl⟩
    rw [<- hσ, List.set_append_right _ _ (Nat.le_refl _), List.set_append_right _ _ (by omega)]
    simp
theorem pe_comp (B : BlockOk X scope xs) (hc : X.calm = true) (hT : Tgt X scope xs tg g un) (hi : PI X tg iter wi) (hbody : ∀ Xc, CompOf X scope xs Xc -> PTs Xc ifs tc /\ PE Xc elt te)
    (hs : ∀ v, foldedSetIterable iter X.env v = pure v := by intro _; rfl) : PE X (.ListComp elt [⟨tg, iter, ifs, 0⟩] scope pos) (tComp un wi tc te) := by
  intro pins s σ H Q I h
  rw [eval_ListComp]
  refine wpAny_comprehension_free (use := none) (cl := clOf X.env scope.names []) rfl hs (block_closure B I.ok) B.kind B.locs ?_
  refine thn (hi pins s σ H _ I h) fun xv s1 h1 => thn h1 fun itv s2 h2 => ?_
  obtain ⟨it, fp, tn, J, H2, e, I2, T, st2, f2, q2⟩ := h2
  subst e
  refine wpAny_newObj_type ?_
  have I3 := I2.lnew (its := []) (ys := []) (t' := s2.toks) .nil (Nat.zero_le _)
  obtain ⟨W, ⟨m0, w0⟩, turn⟩ := q2 s2.heap.objs.size (I2.hok.fresh (Nat.le_refl _))
  have fp3 : ∀ b ∈ fp, FpOk X pins (upd H2 s2.heap.objs.size (.lst [])) b := fun b hb => by
    obtain ⟨o, e, _⟩ := T.obj _ _ st2 b hb
    exact ⟨by rw [upd_ne (Nat.ne_of_lt (Heap.lt_size e))]; exact (f2 b hb).1, (f2 b hb).2⟩
  obtain ⟨b1, b2, b3⟩ := I3.below
  refine comp_block B hc hT.pg (fun v H vs os h1 h2 => hT.un v H vs os σ I.len h1 h2) hbody I3 T (T.keep _ _ _ st2 fun b _ o e => Heap.get?_push_of_some _ e) fp3 W m0 w0 fun i m ys H4 w => ?_
  rcases turn i m ys H4 w with ⟨stop, q⟩ | r
  . exact .inl ⟨stop, fun s' m' C I' hn hC hCn => ⟨m', hn, fun h' hsb => ⟨.ref s2.heap.objs.size, H4, I'.aside hC b1 b2 b3 hCn hsb, rfl, q⟩⟩⟩
  . exact .inr r
theorem ps_setComp {i : Nat} (B : BlockOk X scope xs) (hc : X.calm = true) (hT : Tgt X scope xs tg g un) (hi : PI X tg iter wi) (hbody : ∀ Xc, CompOf X scope xs Xc -> PTs Xc ifs tc /\ PE Xc elt te)
    (hN : X.N.Nodup) (hy : X.N[i]? = some y) (hx : Loc X.env.scope y) (hf : X.fn y = true \/ X.env.scope.names.lookup y = some .local)
    (hsw : swapsWith (.ListComp elt [⟨tg, iter, ifs, 0⟩] scope pos) (some (.Name y py)) spos.line X.env = pure true)
    (hs : ∀ v, foldedSetIterable iter X.env v = pure v := by intro _; rfl) : PS X (.Assign [.Name y py] (.ListComp elt [⟨tg, iter, ifs, 0⟩] scope pos) spos) (tAsg (tComp un wi tc te) (gName i)) := by
  intro pins s σ H D I h
  rw [exec_Assign_Name_used _ _ _ _ hsw]
  refine wpAny_bind (wpAny_standAt (wpAny_bind ?_))
  show wpAny _ X.A (do let _ <- comprehension (.ListComp elt [⟨tg, iter, ifs, 0⟩] scope pos) scope X.env _ (newList []) false (eval iter X.env) (some (assign (.Name y py) X.env))) _ _ s
  refine wpAny_bind (wpAny_mono (wpAny_comprehension_free (use := some (assign (.Name y py) X.env)) (cl := clOf X.env scope.names []) (Q := fun _ s' => SP X pins D .next s') rfl hs (block_closure B I.ok) B.kind B.locs ?_)
    (fun _ s' hq => wpAny_pure (wpAny_pure hq)) fun _ _ e => e)
  refine thn (hi pins s σ H _ I h) fun xv s1 h1 => thn h1 fun itv s2 h2 => ?_
  obtain ⟨it, fp, tn, J, H2, e, I2, T, st2, f2, q2⟩ := h2
  subst e
  refine wpAny_newObj_type ?_
  have I3 := I2.lnew (its := []) (ys := []) (t' := s2.toks) .nil (Nat.zero_le _)
  obtain ⟨W, ⟨m0, w0⟩, turn⟩ := q2 s2.heap.objs.size (I2.hok.fresh (Nat.le_refl _))
  have fp3 : ∀ b ∈ fp, FpOk X pins (upd H2 s2.heap.objs.size (.lst [])) b := fun b hb => by
    obtain ⟨o, e, _⟩ := T.obj _ _ st2 b hb
    exact ⟨by rw [upd_ne (Nat.ne_of_lt (Heap.lt_size e))]; exact (f2 b hb).1, (f2 b hb).2⟩
  obtain ⟨b1, b2, b3⟩ := I3.below
  refine comp_block B hc hT.pg (fun v H vs os h1 h2 => hT.un v H vs os σ I.len h1 h2) hbody I3 T (T.keep _ _ _ st2 fun b _ o e => Heap.get?_push_of_some _ e) fp3 W m0 w0 fun i' m ys H4 w => ?_
  rcases turn i' m ys H4 w with ⟨stop, q⟩ | r
  . refine .inl ⟨stop, fun s' m' C I' hn hC hCn => ?_⟩
    refine wpAny_assign_Name (store_ok2 I' hN hy hx (v := .ref s2.heap.objs.size) rfl (fun s'' I'' ⟨a, sb, ha⟩ => ?_) hf)
    have hCa : C ≠ a := by
      rcases ha with rfl | ha
      . exact Nat.ne_of_gt (Nat.lt_of_lt_of_le b1 hC)
      . exact Nat.ne_of_gt (Nat.lt_of_lt_of_le (b2 _ _ ha) hC)
    exact ⟨m', hn.sameBut sb hCa, fun h' hsb => ⟨_, H4, I''.aside hC b1 b2 b3 hCn hsb, q⟩⟩
  . exact .inr r
end
end L2
namespace L2
open PySem PySem.Spec PyProof.Rows
section
variable {X : Cx}
theorem Vals.at {xs : List V} {us : List Value} (h : Vals xs us) {i : Nat} {u : Value} (e : us[i]? = some u) : ∃ x, xs[i]? = some x /\ RelV x u := by
  have hl := h.length
  have hi := (List.getElem?_eq_some_iff.mp e).1
  have hx : xs[i]? = some xs[i] := List.getElem?_eq_getElem (by omega)
  obtain ⟨u', h1, h2⟩ := h.get hx
  rw [e] at h1; cases h1
  exact ⟨_, hx, h2⟩
theorem all_range (bs : List Bool) : (List.range bs.length).all (fun i => bs.getD i true) = bs.all id := by
  rw [Bool.eq_iff_iff, List.all_eq_true, List.all_eq_true]
  constructor
  . intro h b hb
    obtain ⟨i, hi, e⟩ := List.getElem_of_mem hb
    have := h i (by simpa using hi)
    rw [List.getD_eq_getElem?_getD, List.getElem?_eq_getElem hi] at this
    simpa [e] using this
  . intro h i hi
    have hi' : i < bs.length := by simpa using hi
    rw [List.getD_eq_getElem?_getD, List.getElem?_eq_getElem hi']
    exact h _ (List.getElem_mem hi')
theorem call_all_of (hc : X.calm = true) : CallR X (.builtin "all") (fun xs H Q => ∃ (p : Addr) (bs : List Bool), xs = [.ref p] /\ SqL X.K H p (bs.map V.bl) /\ Q (.bl (bs.all id)) H) := by
  intro pins s σ H xs us Q I r h
  obtain ⟨p, bs, rfl, hq, q⟩ := h
  obtain ⟨u, rfl, rx⟩ := vals1 r
  cases rx
  obtain ⟨its, r', pl, hz⟩ := I.list hq
  have hlen := r'.length
  have hp : ∃ o, s.heap.get? p = some o := by obtain ⟨o, ho, _⟩ := pl.isList; exact ⟨o, ho⟩
  obtain ⟨o, ho⟩ := hp
  have hlt := Heap.lt_size ho
  refine call_all_walk (wpAny_pyIter_list pl.isList ?_)
  refine ⟨s.heap.objs.size, _, _, _, _, _, fun i => bs.getD i true, rfl, Walks.list (A := X.A.in1) (I.ok.hd hc) s.heap.objs.size p (Nat.ne_of_lt hlt) its.toArray, ⟨⟨_, Heap.get?_push_size _ rfl, rfl, rfl⟩, pl.isList.at fun o e => Heap.get?_push_of_some _ e⟩, ?_, fun h' tk hk => ?_⟩
  . intro i v s2 Q2 E2 hv hQ
    have hv' : its[i]? = some v := by simpa using hv
    obtain ⟨y, hy, ry⟩ := r'.at hv'
    rw [List.getElem?_map] at hy
    cases hb : bs[i]? with
    | none => rw [hb] at hy; cases hy
    | some b =>
      rw [hb] at hy; cases hy
      have : v = .bool b := ry
      subst this
      have e : bs.getD i true = b := by rw [List.getD_eq_getElem?_getD, hb]; rfl
      have hQ' : Q2 (bs.getD i true) s2 := hQ
      rw [e] at hQ'
      exact wpAny_truthy_bool hQ'
  . have e : its.toArray.size = bs.length := by simp at hlen ⊢; omega
    rw [e, all_range]
    exact ⟨.bl (bs.all id), H, I.kept (t' := tk) fun b o e => hk b o (fun hb => by
      have : b = s.heap.objs.size := by simpa using hb
      exact absurd (Heap.lt_size e) (by rw [this]; exact Nat.lt_irrefl _)) (Heap.get?_push_of_some _ e), rfl, q⟩
theorem preSum_list (ns : List Int) : ∀ n, n <= ns.length -> preSum (fun i => ns.getD i 0) n = (ns.take n).sum
  | 0, _ => by simp [preSum]
  | n + 1, h => by
    have e : ns[n]? = some (ns.getD n 0) := by rw [List.getD_eq_getElem?_getD, List.getElem?_eq_getElem (by omega)]; rfl
    rw [preSum, preSum_list ns n (by omega), List.take_add_one, e, List.sum_append]
    simp
theorem call_sum_of (hc : X.calm = true) : CallR X (.builtin "sum") (fun xs H Q => ∃ (p : Addr) (ns : List Int), xs = [.ref p] /\ SqL X.K H p (ns.map V.int) /\ Q (.int ns.sum) H) := by
  intro pins s σ H xs us Q I r h
  obtain ⟨p, ns, rfl, hq, q⟩ := h
  obtain ⟨u, rfl, rx⟩ := vals1 r
  cases rx
  obtain ⟨its, r', pl, hz⟩ := I.list hq
  have hlen := r'.length
  have hp : ∃ o, s.heap.get? p = some o := by obtain ⟨o, ho, _⟩ := pl.isList; exact ⟨o, ho⟩
  obtain ⟨o, ho⟩ := hp
  have hlt := Heap.lt_size ho
  refine call_sum_walkG (wpAny_pyIter_list pl.isList ?_)
  refine ⟨s.heap.objs.size, _, _, _, _, _, fun i => ns.getD i 0, rfl, Walks.list (A := X.A.in1) (I.ok.hd hc) s.heap.objs.size p (Nat.ne_of_lt hlt) its.toArray, ⟨⟨_, Heap.get?_push_size _ rfl, rfl, rfl⟩, pl.isList.at fun o e => Heap.get?_push_of_some _ e⟩, ?_, ?_, fun h' tk t' hk => ?_⟩
  . intro b hb
    have h1 : s.heap.objs.size < (s.heap.push { cls := .type "list_iterator", data := .fields #[.ref p, .int 0 0] }).objs.size := Heap.lt_size (Heap.get?_push_size _ rfl)
    have : b = s.heap.objs.size \/ b = p := by simpa using hb
    rcases this with rfl | rfl
    . exact h1
    . exact Nat.lt_trans hlt h1
  . intro i v hv
    have hv' : its[i]? = some v := by simpa using hv
    obtain ⟨y, hy, ry⟩ := r'.at hv'
    rw [List.getElem?_map] at hy
    cases hb : ns[i]? with
    | none => rw [hb] at hy; cases hy
    | some b =>
      rw [hb] at hy; cases hy
      obtain ⟨t, rfl⟩ := (ry : ∃ t, v = .int b t)
      have e : ns.getD i 0 = b := by rw [List.getD_eq_getElem?_getD, hb]; rfl
      exact ⟨t, by show Value.int b t = Value.int (ns.getD i 0) t; rw [e]⟩
  . have e : its.toArray.size = ns.length := by simp at hlen ⊢; omega
    rw [e, preSum_list ns ns.length (Nat.le_refl _), List.take_length]
    exact ⟨.int ns.sum, H, I.kept (t' := tk) fun b o e => hk b o (fun hb => by
      have : b = s.heap.objs.size := by simpa using hb
      exact absurd (Heap.lt_size e) (by rw [this]; exact Nat.lt_irrefl _)) (Heap.get?_push_of_some _ e), ⟨t', rfl⟩, q⟩
def Itrs (lo st : Int) (n : Nat) : It := ⟨fun i _ => i < n, fun i H x H' => H' = H /\ x = .int (lo + (i : Nat) * st), fun i _ => n <= i⟩
theorem turn_rangeS {P : Program} {w : World} {K : PySem.W.Frag} {tg : Expr} (it : Addr) (lo st : Int) (n : Nat) : Turn P w K tg (Itrs lo st n) [it] it (fun i h => IsRangeIter h it (lo + (i : Nat) * st) ((n : Int) - (i : Nat)) st) where
  mem := by simp
  obj := fun i h st b hb => by
    have e : b = it := by simpa using hb
    subst e
    exact ⟨_, st, fun v z => by
      have z' : Data.fields _ = Data.cell v := z
      cases z'⟩
  keep := fun i h h' st k => k it (by simp) _ st
  item := by
    intro X hP hw hK hc i pins s σ H E I hf st0 hg
    subst hP hw hK
    obtain ⟨f0, f1, f2, f3, f4, f5⟩ := hf it (by simp)
    have W := Walks.range (prog := X.prog) (w := X.w) (I.ok.hd hc) it lo st n
    refine W.item i s _ _ hg st0 fun v h' tk hv st' kk => ?_
    obtain ⟨t, rfl⟩ := hv
    have I1 : Inv X pins σ H { s with heap := h', toks := tk } := I.turned (fun b o hb e => kk b o (by simpa using hb) e) f0 f1 f3 f4 f5
    exact ⟨_, rfl, go_of (s := { s with heap := h', toks := tk }) (n := "range_iterator") st' rfl rfl (by decide) ⟨.int (lo + (i : Nat) * st), H, I1, ⟨t, rfl⟩, ⟨rfl, rfl⟩, st', fun b hb => (hf b hb).1⟩⟩
  done := by
    intro X hP hw hK hc i pins s σ H E I hf st0 hg
    subst hP hw hK
    obtain ⟨f0, f1, f2, f3, f4, f5⟩ := hf it (by simp)
    exact wpAny_pyNext_range_end (I.ok.hd hc) st0 (by have : n <= i := hg; omega) fun h' eb => ⟨rfl, I.turned (t' := s.toks) (fun b o hb e => eb b o hb e) f0 f1 f3 f4 f5⟩
  self := fun _ _ _ _ _ st h => wpAny_pyIter_rangeiter st h
theorem rangeSize_mone (a b : Int) : Builtin.Range.rangeSize a b (-1) = if b < a then a - b else 0 := by
  unfold Builtin.Range.rangeSize
  simp only [show ¬ ((-1 : Int) > 0) by decide, if_false]
  split <;> (simp; try omega)
theorem small_mone {a b : Int} (ha : -(2 ^ 62) <= a) (ha' : a < 2 ^ 62) (hb : -(2 ^ 62) <= b) (hb' : b < 2 ^ 62) : Builtin.Range.small a b (-1) = true := by
  unfold Builtin.Range.small
  rw [rangeSize_mone]
  simp only [Builtin.Range.rangeFitsLong, Bool.and_eq_true, Bool.or_eq_true, decide_eq_true_eq, beq_iff_eq, show ¬ ((-1 : Int) > 0) by decide, if_false]
  split <;> omega
def cntR (i j k : Int) : Nat := if k = 1 then (j - i).toNat else (i - j).toNat
theorem size_cnt {i j k : Int} (hk : k = 1 \/ k = -1) : Builtin.Range.rangeSize i j k = (cntR i j k : Int) := by
  rcases hk with rfl | rfl
  . rw [rangeSize_one]; unfold cntR; rw [if_pos rfl]; split <;> omega
  . have e : cntR i j (-1) = (i - j).toNat := if_neg (by decide)
    rw [rangeSize_mone, e]; split <;> omega
def iRng3 (ta : TA) : TI := fun σ H R => ta σ H fun vs H1 => ∃ i j k : Int, vs = [.int i, .int j, .int k] /\ (-(2 ^ 30) <= i /\ i < 2 ^ 30 /\ -(2 ^ 30) <= j /\ j < 2 ^ 30) /\ (k = 1 \/ k = -1) /\ R (Itrs i k (cntR i j k)) H1
theorem pi_range3 {tg a b c : Expr} {ta : TA} {p pos : Pos} (hg : Gl X "range") (hm : X.mg "range" = none) (ha : PA X [a, b, c] ta) (hs : starEach [a, b, c] X.env = [(false, eval a X.env), (false, eval b X.env), (false, eval c X.env)] := by rfl) (hs2 : starEach [b, c] X.env = [(false, eval b X.env), (false, eval c X.env)] := by rfl) :
    PI X tg (.Call (.Name "range" p) [a, b, c] [] pos) (iRng3 ta) := by
  intro pins s σ H R I h
  refine Call_ (ld_blt I hg hm boot_range (PyProof.Rows.callWith_type1 (thn (ha pos pins s σ H _ I h) fun us s1 ⟨vs, H1, I1, r1, q1⟩ => ?_) (by rw [hs, hs2]) (by rw [hs2]; rfl)))
  obtain ⟨i, j, k, e, ⟨q1, q2, q3, q4⟩, hk, q⟩ := q1
  subst e
  cases r1 with
  | cons r rr =>
    cases rr with
    | cons r' rr =>
      cases rr with
      | cons r'' rr =>
      cases rr
      obtain ⟨t, rfl⟩ := r
      obtain ⟨t', rfl⟩ := r'
      obtain ⟨t'', rfl⟩ := r''
      refine call_range_3 (by omega) ?_ (.inl (PyProof.noPylong_small (by omega)))
      refine wpAny_pyIter_range (IsRange.new ..) (by rcases hk with rfl | rfl; exact small_one (by omega) (by omega) (by omega) (by omega); exact small_mone (by omega) (by omega) (by omega) (by omega)) ?_
      have I2 : Inv X pins σ H1 { s1 with heap := s1.heap.push { cls := .type "range", data := .fields #[.int i t, .int j t', .int k t''] }, toks := s1.toks } := I1.kept fun b o e => Heap.get?_push_of_some _ e
      refine ⟨(s1.heap.push { cls := .type "range", data := .fields #[.int i t, .int j t', .int k t''] }).objs.size, [(s1.heap.push { cls := .type "range", data := .fields #[.int i t, .int j t', .int k t''] }).objs.size], _, _, H1, rfl,
        I2.kept (t' := s1.toks) fun b o e => Heap.get?_push_of_some _ e, turn_rangeS _ i k (cntR i j k), ?_, fun b hb => ?_, q⟩
      . have e1 : i + ((0 : Nat) : Int) * k = i := by simp
        show IsRangeIter _ _ (i + ((0 : Nat) : Int) * k) (((cntR i j k : Nat) : Int) - ((0 : Nat) : Int)) k
        rw [e1, <- size_cnt hk, show (Builtin.Range.rangeSize i j k) - ((0 : Nat) : Int) = Builtin.Range.rangeSize i j k by simp]
        exact Heap.get?_push_size _ rfl
      . have e : b = (s1.heap.push { cls := .type "range", data := .fields #[.int i t, .int j t', .int k t''] }).objs.size := by simpa using hb
        subst e
        exact I2.fpOk (Nat.le_refl _) (I2.hok.fresh (Nat.le_refl _))
def tLrng (ta : TA) : TE := fun σ H Q => ta σ H fun vs H1 => ∃ j : Int, vs = [.int j] /\ -(2 ^ 30) <= j /\ j < 2 ^ 24 /\ j.toNat <= sizeLine /\ ∀ l, H1 l = none -> Q (.ref l) (upd H1 l (.lst ((List.range j.toNat).map fun (i : Nat) => V.int ((0 : Int) + 1 * (i : Int)))))
theorem pe_lrng {a : Expr} {ta : TA} {p p' pos pos' : Pos} (hc : X.calm = true) (hgl : Gl X "list") (hml : X.mg "list" = none) (hg : Gl X "range") (hm : X.mg "range" = none) (ha : PA X [a] ta) (hs : starEach [a] X.env = [(false, eval a X.env)] := by rfl) :
    PE X (.Call (.Name "list" p) [.Call (.Name "range" p') [a] [] pos'] [] pos) (tLrng ta) := by
  intro pins s σ H Q I h
  refine wpAny_Call_Name_kw (ld_blt I hgl hml PyProof.Rows.boot_list ?_ (by decide) (by decide))
  refine PyProof.Rows.callWith_type1 ?_ rfl rfl
  refine Calls.spliced_cons ?_
  refine Call_ (ld_blt I hg hm boot_range (PyProof.Rows.callWith_type1 (thn (ha pos' pins s σ H _ I h) fun us s1 ⟨vs, H1, I1, r1, q1⟩ => ?_) hs rfl))
  obtain ⟨j, e, q1, q2, q3, q⟩ := q1
  subst e
  cases r1 with
  | cons r rr =>
    cases rr
    obtain ⟨t, rfl⟩ := r
    refine call_range_1 (Calls.spliced_nil ?_)
    have hn : Builtin.Range.rangeSize 0 j 1 = (j.toNat : Int) := by rw [rangeSize_one]; split <;> omega
    refine call_list_range (n := j.toNat) (I1.ok.hd hc) (IsRange.new ..) (small_one (by omega) (by omega) (by omega) (by omega)) hn (by omega) fun h' tk acc' c' kp e hacc => ?_
    have I2 : Inv X pins σ H1 { s1 with heap := s1.heap.push { cls := .type "range", data := .fields #[.int 0 s1.toks, .int j t, .int 1 (s1.toks + 1)] }, toks := s1.toks + 1 + 1 } := I1.kept fun b o e => Heap.get?_push_of_some _ e
    have hv : Vals ((List.range j.toNat).map fun (i : Nat) => V.int ((0 : Int) + 1 * (i : Int))) acc'.toList := by
      have gen : ∀ (us : List Value) (n : Nat), us.length = n -> ∀ m : Nat, (∀ i v, us[i]? = some v -> ∃ t, v = Value.int ((0 : Int) + ((m + i : Nat) : Int) * 1) t) -> Vals ((List.range' m n).map fun (i : Nat) => V.int ((0 : Int) + 1 * (i : Int))) us := by
        intro us
        induction us with
        | nil => intro n hn m _; simp at hn; subst hn; exact .nil
        | cons u us ih =>
          intro n hn m hu
          cases n with
          | zero => simp at hn
          | succ n =>
            rw [List.range'_succ, List.map_cons]
            obtain ⟨t, rfl⟩ := hu 0 u rfl
            refine .cons ⟨t, ?_⟩ (ih n (by simpa using hn) (m + 1) fun i v hv => ?_)
            . congr 1; simp
            . obtain ⟨t, e⟩ := hu (i + 1) v (by simpa using hv)
              exact ⟨t, by rw [e]; congr 2; congr 1; omega⟩
      have := gen acc'.toList j.toNat (by rw [Array.length_toList]; exact hacc.1) 0 (fun i v hv => by
        obtain ⟨t, e⟩ := hacc.2 i v (by simpa using hv)
        exact ⟨t, by rw [e]; simp⟩)
      rw [<- List.range_eq_range'] at this
      exact this
    refine ⟨.ref _, _, I2.laid (t' := tk) kp (Nat.le_refl _) (show ObjOk X.prog X.w _ h' _ (.lst ((List.range j.toNat).map fun (i : Nat) => V.int ((0 : Int) + 1 * (i : Int)))) from ⟨by simpa using q3, acc'.toList, c', hv, by simpa using e⟩), rfl, q _ (I2.hok.fresh (Nat.le_refl _))⟩
end
end L2
namespace L2
open PySem PySem.Spec PyProof.Rows
section
variable {X : Cx} {pins : List (Addr × Obj)} {σ : St} {H : Hp} {s : Shared} {h' : Heap}
theorem Inv.turnedT {t' : Nat} {ch : List Addr} {T : Addr} {xs : List V} {its : List Value} (I : Inv X pins σ H s) (hf : ∀ b ∈ ch, FpOk X pins H b) (k : ∀ b o, b ∉ ch -> s.heap.get? b = some o -> h'.get? b = some o)
    (hT : s.heap.objs.size <= T) (hz : xs.length <= sizeLine) (hv : Vals xs its) (ht : IsTup h' T its.toArray) : Inv X pins σ (upd H T (.tup xs)) { s with heap := h', toks := t' } := by
  have hn : H T = none := I.hok.fresh hT
  have nit : ∀ b u, H b = some u -> b ∉ ch := fun b u e z => by rw [(hf b z).1] at e; cases e
  have up : ∀ b u, H b = some u -> upd H T (.tup xs) b = some u := fun b u e => by rw [upd_ne (ne_of_none e hn)]; exact e
  refine I.step (g' := s.gens) (d' := s.drawn) (ch := ch) (fun b hb => ?_) (fun b o _ _ hc e _ => k b o hc e) (fun b o _ _ hc e _ => ⟨o.slots, k b o hc e⟩) (fun b o hc e n => ?_)
    (fun b o hc e => ⟨o, k b o hc e⟩) (fun b _ e => up b _ e) (fun b _ _ e => up b _ e) (fun b ps e => ⟨#[], by rw [up b _ e]; simp⟩) (fun m hm => ?_) (fun b u e => ?_) I.bare
  . obtain ⟨f0, f1, f2, f3, f4, f5⟩ := hf b hb
    exact ⟨f3, f1, f4, f5⟩
  . rw [upd_ne (Nat.ne_of_lt (Nat.lt_of_lt_of_le (Heap.lt_size e) hT))]; exact n
  . obtain ⟨o, es, ep, ho, r⟩ := hm
    exact ⟨o, es, ep, k _ o (fun z => (hf _ z).2.1 rfl) ho, r⟩
  . by_cases hb : b = T
    . subst hb
      rw [upd_same] at e; cases e
      exact ⟨hz, its, hv, ht⟩
    . rw [upd_ne hb] at e
      refine (I.hok b u e).stay (fun c v hc q => k c v ?_ q) (fun c q => up c _ q) fun c _ q => up c _ q
      rcases hc with z | z
      . rw [z]; exact nit b u e
      . exact nit c _ z
theorem Inv.turnedL {t' : Nat} {ch : List Addr} (I : Inv X pins σ H s) (hf : ∀ b ∈ ch, FpOk X pins H b) (k : ∀ b o, b ∉ ch -> s.heap.get? b = some o -> h'.get? b = some o) : Inv X pins σ H { s with heap := h', toks := t' } := by
  have nit : ∀ b u, H b = some u -> b ∉ ch := fun b u e z => by rw [(hf b z).1] at e; cases e
  refine I.step (g' := s.gens) (d' := s.drawn) (ch := ch) (fun b hb => ?_) (fun b o _ _ hc e _ => k b o hc e) (fun b o _ _ hc e _ => ⟨o.slots, k b o hc e⟩) (fun b o hc e n => n)
    (fun b o hc e => ⟨o, k b o hc e⟩) (fun b _ e => e) (fun b _ _ e => e) (fun b ps e => ⟨#[], by rw [e]; simp⟩) (fun m hm => ?_) (fun b u e => ?_) I.bare
  . obtain ⟨f0, f1, f2, f3, f4, f5⟩ := hf b hb
    exact ⟨f3, f1, f4, f5⟩
  . obtain ⟨o, es, ep, ho, r⟩ := hm
    exact ⟨o, es, ep, k _ o (fun z => (hf _ z).2.1 rfl) ho, r⟩
  . refine (I.hok b u e).stay (fun c v hc q => k c v ?_ q) (fun c q => q) fun c _ q => q
    rcases hc with z | z
    . rw [z]; exact nit b u e
    . exact nit c _ z
end
def Yp (H : Hp) (v : V) (H' : Hp) (x y : V) : Prop := ∃ T, H T = none /\ v = .ref T /\ H' = upd H T (.tup [x, y])
def Itz (K : PySem.W.Frag) (l1 l2 : Addr) : It :=
  ⟨fun i H => ∃ xs ys x y, SqL K H l1 xs /\ SqL K H l2 ys /\ xs[i]? = some x /\ ys[i]? = some y,
   fun i H v H' => ∃ x y, Yp H v H' x y /\ (∀ xs, SqL K H l1 xs -> xs[i]? = some x) /\ ∀ ys, SqL K H l2 ys -> ys[i]? = some y,
   fun i H => ∃ xs ys, SqL K H l1 xs /\ SqL K H l2 ys /\ (xs.length <= i \/ ys.length <= i)⟩
def Ite (K : PySem.W.Frag) (c : Nat) (l : Addr) : It :=
  ⟨fun i H => ∃ xs x, SqL K H l xs /\ xs[i]? = some x,
   fun i H v H' => ∃ x, Yp H v H' (.int ((i + c : Nat) : Int)) x /\ ∀ xs, SqL K H l xs -> xs[i]? = some x,
   fun i H => ∃ xs, SqL K H l xs /\ xs.length <= i⟩
theorem drawsFrom {prog : Program} {w : World} {A : Around} (hh : A.handled = none) (it l : Addr) (hne : l ≠ it) (items : Array Value) (c : Nat) :
    Draws prog w A it [it, l] (items.size + c) (fun i x => ∃ j, i = j + c /\ items[j]? = some x) (fun i h => ∃ j, i = j + c /\ h.IsListIter it l j /\ h.IsList l items) := by
  have D := Draws.list (prog := prog) (w := w) hh it l hne items
  refine ⟨fun i h st => ?_, fun i h h' st k => ?_, fun i s Q E hi st hQ => ?_, fun s Q E st hE => ?_⟩
  . obtain ⟨j, _, h1, h2⟩ := st
    exact D.live j h ⟨h1, h2⟩
  . obtain ⟨j, e, h1, h2⟩ := st
    obtain ⟨q1, q2⟩ := D.frame j h h' ⟨h1, h2⟩ k
    exact ⟨j, e, q1, q2⟩
  . obtain ⟨j, rfl, h1, h2⟩ := st
    refine D.item j s Q E (by omega) ⟨h1, h2⟩ fun x h' tk p q sb => hQ x h' tk ⟨j, rfl, p⟩ ⟨j + 1, by omega, q.1, q.2⟩ sb
  . obtain ⟨j, e, h1, h2⟩ := st
    have e' : j = items.size := by omega
    subst e'
    exact D.done s Q E ⟨h1, h2⟩ hE
theorem drawsEnd {prog : Program} {w : World} {A : Around} (hh : A.handled = none) (it l : Addr) (items : Array Value) {i : Nat} (hi : items[i]? = none) :
    Draws prog w A it [it, l] 0 (fun _ _ => True) (fun k h => k = 0 /\ h.IsListIter it l i /\ h.IsList l items) := by
  refine ⟨fun k h st => ?_, fun k h h' st q => ?_, fun k s Q E hk st hQ => absurd hk (Nat.not_lt_zero _), fun s Q E st hE => ?_⟩
  . obtain ⟨o, ho, _⟩ := st.2.1
    exact ⟨o, ho⟩
  . exact ⟨st.1, st.2.1.at fun o e => q it (by simp) o e, st.2.2.at fun o e => q l (by simp) o e⟩
  . exact wpAny_nextOf_list_end hh st.2.1 st.2.2 hi hE
theorem turn_zip {P : Program} {w : World} {K : PySem.W.Frag} {elts : List Expr} {k : Nat} {pt : Pos} (z TI TO i1 i2 l1 l2 : Addr) (D : ZipApart z TI TO i1 i2 l1 l2) :
    Turn P w K (.Tuple elts k pt) (Itz K l1 l2) [z, TI, TO, i1, i2] z (fun i h => IsZip h z TI TO .none /\ IsPair h TI (.ref i1) (.ref i2) /\ (∃ a b, IsPair h TO a b) /\ h.IsListIter i1 l1 i /\ h.IsListIter i2 l2 i) where
  mem := by simp
  obj := fun i h st b hb => by
    obtain ⟨hz, hTI, ⟨a, c, hTO⟩, ⟨o1, e1, c1, d1⟩, o2, e2, c2, d2⟩ := st
    simp only [List.mem_cons, List.not_mem_nil, or_false] at hb
    rcases hb with rfl | rfl | rfl | rfl | rfl
    . exact ⟨_, hz, fun v z => by cases z⟩
    . exact ⟨_, hTI, fun v z => by cases z⟩
    . exact ⟨_, hTO, fun v z => by cases z⟩
    . exact ⟨_, e1, fun v z => by rw [d1] at z; cases z⟩
    . exact ⟨_, e2, fun v z => by rw [d2] at z; cases z⟩
  keep := fun i h h' st k => by
    obtain ⟨hz, hTI, ⟨a, c, hTO⟩, h1, h2⟩ := st
    exact ⟨k z (by simp) _ hz, k TI (by simp) _ hTI, ⟨a, c, k TO (by simp) _ hTO⟩, h1.at fun o e => k i1 (by simp) o e, h2.at fun o e => k i2 (by simp) o e⟩
  item := by
    intro X hP hw hK hc i pins s σ H E I hf st hg
    subst hP hw hK
    obtain ⟨xs, ys, x, y, hq1, hq2, hx, hy⟩ := hg
    obtain ⟨its1, rv1, p1, _⟩ := I.list hq1
    obtain ⟨its2, rv2, p2, _⟩ := I.list hq2
    obtain ⟨u, hu, ru⟩ := rv1.get hx
    obtain ⟨v, hv, rv⟩ := rv2.get hy
    obtain ⟨hz, hTI, ⟨a, b, hTO⟩, h1, h2⟩ := st
    refine wpAny_pyNext_zip_item D hz hTI hTO h1 h2 p1.isList p2.isList (x := u) (y := v) (by simpa using hu) (by simpa using hv) fun h' a1 a2 a3 a4 a5 a6 hk => ?_
    refine ⟨_, rfl, wpAny_letOwnedTupleGo_zip (s := { s with heap := h' }) a1 fun h'' hz' hs' => ?_⟩
    have sT : z < s.heap.objs.size := Heap.lt_size hz
    have kk : ∀ b o, b ∉ [z, TI, TO, i1, i2] -> s.heap.get? b = some o -> h''.get? b = some o := fun b o hb e =>
      (hs'.2 b fun q => hb (by simp [q])).trans (hk b o (fun q => hb (by simp [q])) (fun q => hb (by simp [q])) (fun q => hb (by simp [q])) (fun q => hb (by simp [q])) e)
    refine ⟨.ref s.heap.objs.size, upd H s.heap.objs.size (.tup [x, y]), ?_, rfl, ⟨x, y, ⟨_, I.hok.fresh (Nat.le_refl _), rfl, rfl⟩, fun zs hz => by rw [I.list_inj hz hq1]; exact hx, fun zs hz => by rw [I.list_inj hz hq2]; exact hy⟩, ?_, ?_⟩
    . have I1 : Inv X pins σ (upd H s.heap.objs.size (.tup [x, y])) { s with heap := h'', toks := s.toks } := Inv.turnedT (s := s) (its := [u, v]) I hf kk (Nat.le_refl _) (show (2 : Nat) <= sizeLine by decide) (.cons ru (.cons rv .nil)) ⟨_, (hs'.2 _ (Nat.ne_of_gt sT)).trans a5, rfl, _, rfl⟩
      exact I1
    . refine ⟨hz', ?_, ⟨u, v, ?_⟩, ?_, ?_⟩
      . exact (hs'.2 TI D.TIz).trans (hk TI _ D.TIz D.TITO D.TIi1 D.TIi2 hTI)
      . exact (hs'.2 TO D.TOz).trans a2
      . exact a3.at fun o e => (hs'.2 i1 D.i1z).trans e
      . exact a4.at fun o e => (hs'.2 i2 D.i2z).trans e
    . intro b hb
      have hlt : b < s.heap.objs.size := by
        simp only [List.mem_cons, List.not_mem_nil, or_false] at hb
        obtain ⟨_, e1, _⟩ := h1
        obtain ⟨_, e2, _⟩ := h2
        rcases hb with rfl | rfl | rfl | rfl | rfl
        . exact sT
        . exact Heap.lt_size hTI
        . exact Heap.lt_size hTO
        . exact Heap.lt_size e1
        . exact Heap.lt_size e2
      rw [upd_ne (Nat.ne_of_lt hlt)]
      exact (hf b hb).1
  done := by
    intro X hP hw hK hc i pins s σ H E I hf st hg
    subst hP hw hK
    obtain ⟨xs, ys, hq1, hq2, hx⟩ := hg
    obtain ⟨its1, rv1, p1, _⟩ := I.list hq1
    obtain ⟨its2, rv2, p2, _⟩ := I.list hq2
    obtain ⟨hz, hTI, ⟨a, b, hTO⟩, h1, h2⟩ := st
    have l1 := rv1.length
    have l2 := rv2.length
    refine wpAny_pyNext_zip_end (I.ok.hd hc) D hz hTI hTO h1 h2 p1.isList p2.isList ?_ fun h' hk => ⟨rfl, ?_⟩
    . rcases hx with hx | hx
      . exact .inl (by simp; omega)
      . exact .inr (by simp; omega)
    . exact I.turnedL (t' := s.toks) hf fun b o hb e => hk b o (fun q => hb (by simp [q])) (fun q => hb (by simp [q])) (fun q => hb (by simp [q])) (fun q => hb (by simp [q])) e
  self := fun _ _ _ _ _ st h => wpAny_pyIter_zip st.1 h
theorem turn_enum {P : Program} {w : World} {K : PySem.W.Frag} {elts : List Expr} {k : Nat} {pt : Pos} (c : Nat) (e it l : Addr) (hei : e ≠ it) (hle : l ≠ e) (hli : l ≠ it) :
    Turn P w K (.Tuple elts k pt) (Ite K c l) [e, it] e (fun i h => (∃ old, IsEnum h e it ((i + c : Nat) : Int) old) /\ h.IsListIter it l i) where
  mem := by simp
  obj := fun i h st b hb => by
    obtain ⟨⟨old, he⟩, o1, e1, c1, d1⟩ := st
    simp only [List.mem_cons, List.not_mem_nil, or_false] at hb
    rcases hb with rfl | rfl
    . exact ⟨_, he, fun v z => by cases z⟩
    . exact ⟨_, e1, fun v z => by rw [d1] at z; cases z⟩
  keep := fun i h h' st k => by
    obtain ⟨⟨old, he⟩, h1⟩ := st
    exact ⟨⟨old, k e (by simp) _ he⟩, h1.at fun o q => k it (by simp) o q⟩
  item := by
    intro X hP hw hK hc i pins s σ H E I hf st hg
    subst hP hw hK
    obtain ⟨xs, x, hq1, hx⟩ := hg
    obtain ⟨its1, rv1, p1, _⟩ := I.list hq1
    obtain ⟨u, hu, ru⟩ := rv1.get hx
    obtain ⟨⟨old, he⟩, h1⟩ := st
    have hil : i < its1.length := (List.getElem?_eq_some_iff.mp hu).1
    have D := drawsFrom (prog := X.prog) (w := X.w) (A := X.A.in1) (I.ok.hd hc) it l hli its1.toArray c
    refine wpAny_pyNext_enum_itemD D he ⟨i, rfl, h1, p1.isList⟩ (by simp; omega) hei (by simp [hei, Ne.symm hle]) fun x' h' tk px a1 st' a3 a4 hk => ?_
    obtain ⟨j, ej, hj⟩ := px
    have ej' : i = j := by omega
    subst ej'
    have hxu : x' = u := by
      have : its1[i]? = some x' := by simpa using hj
      rw [hu] at this; cases this; rfl
    subst hxu
    obtain ⟨j', ej', a2, _⟩ := st'
    have e2 : j' = i + 1 := by omega
    subst e2
    refine ⟨_, rfl, wpAny_letOwnedTupleGo_enum (s := { s with heap := h', toks := tk + 1 }) a1 fun h'' he' hs' => ?_⟩
    have sT : e < s.heap.objs.size := Heap.lt_size he
    have kk : ∀ b o, b ∉ [e, it] -> s.heap.get? b = some o -> h''.get? b = some o := fun b o hb q =>
      (hs'.2 b fun z => hb (by simp [z])).trans (hk b o (fun z => hb (by simp [z])) (fun z => hb (by simp [z])) q)
    refine ⟨.ref s.heap.objs.size, upd H s.heap.objs.size (.tup [.int ((i + c : Nat) : Int), x]), ?_, rfl, ⟨x, ⟨_, I.hok.fresh (Nat.le_refl _), rfl, rfl⟩, fun zs hz => by rw [I.list_inj hz hq1]; exact hx⟩, ?_, ?_⟩
    . have I1 : Inv X pins σ (upd H s.heap.objs.size (.tup [.int ((i + c : Nat) : Int), x])) { s with heap := h'', toks := tk + 1 } := Inv.turnedT (s := s) (its := [.int ((i + c : Nat) : Int) tk, x']) I hf kk (Nat.le_refl _) (show (2 : Nat) <= sizeLine by decide) (.cons ⟨_, rfl⟩ (.cons ru .nil)) ⟨_, (hs'.2 _ (Nat.ne_of_gt sT)).trans a3, rfl, _, rfl⟩
      exact I1
    . refine ⟨⟨x', ?_⟩, a2.at fun o q => (hs'.2 it hei.symm).trans q⟩
      have : ((i + 1 + c : Nat) : Int) = ((i + c : Nat) : Int) + 1 := by omega
      rw [this]
      exact he'
    . intro b hb
      have hlt : b < s.heap.objs.size := by
        simp only [List.mem_cons, List.not_mem_nil, or_false] at hb
        obtain ⟨_, e1, _⟩ := h1
        rcases hb with rfl | rfl
        . exact sT
        . exact Heap.lt_size e1
      rw [upd_ne (Nat.ne_of_lt hlt)]
      exact (hf b hb).1
  done := by
    intro X hP hw hK hc i pins s σ H E I hf st hg
    subst hP hw hK
    obtain ⟨xs, hq1, hx⟩ := hg
    obtain ⟨its1, rv1, p1, _⟩ := I.list hq1
    obtain ⟨⟨old, he⟩, h1⟩ := st
    have l1 := rv1.length
    have D := drawsEnd (prog := X.prog) (w := X.w) (A := X.A.in1) (I.ok.hd hc) it l its1.toArray (i := i) (by simp; omega)
    refine wpAny_pyNext_enum_endD D he ⟨rfl, h1, p1.isList⟩ fun h' hk => ⟨rfl, ?_⟩
    exact I.turnedL (t' := s.toks) hf fun b o hb q => hk b o (fun z => hb (by simp [z])) q
  self := fun _ _ _ _ _ st h => by
    obtain ⟨⟨old, he⟩, _⟩ := st
    exact wpAny_pyIter_enum he h
section
variable {X : Cx} {elts : List Expr} {k : Nat} {pt : Pos}
def iZip (K : PySem.W.Frag) (ta : TA) : TI := fun σ H R => ta σ H fun vs H1 => ∃ l1 l2 xs ys, vs = [.ref l1, .ref l2] /\ SqL K H1 l1 xs /\ SqL K H1 l2 ys /\ R (Itz K l1 l2) H1
def iEnum (K : PySem.W.Frag) (c : Nat) (ta : TA) : TI := fun σ H R => ta σ H fun vs H1 => ∃ l xs, vs = [.ref l] /\ SqL K H1 l xs /\ R (Ite K c l) H1
theorem pi_zip {a b : Expr} {ta : TA} {p pos : Pos} (hg : Gl X "zip") (hm : X.mg "zip" = none) (ha : PA X [a, b] ta) (hs : starEach [a, b] X.env = [(false, eval a X.env), (false, eval b X.env)] := by rfl) (hs2 : starEach [b] X.env = [(false, eval b X.env)] := by rfl) :
    PI X (.Tuple elts k pt) (.Call (.Name "zip" p) [a, b] [] pos) (iZip X.K ta) := by
  intro pins s σ H R I h
  refine Call_ (ld_blt I hg hm PyProof.Rows.boot_zip (PyProof.Rows.callWith_type1 (thn (ha pos pins s σ H _ I h) fun us s1 ⟨vs, H1, I1, r1, q1⟩ => ?_) (by rw [hs, hs2]) (by rw [hs2]; rfl)))
  obtain ⟨l1, l2, xs, ys, e, g1, g2, q⟩ := q1
  subst e
  cases r1 with
  | cons r rr =>
    cases rr with
    | cons r' rr =>
      cases rr
      cases r
      cases r'
      obtain ⟨its1, rv1, p1, _⟩ := I1.list g1
      obtain ⟨its2, rv2, p2, _⟩ := I1.list g2
      have t1 : l1 < s1.heap.objs.size := by obtain ⟨o, e, _⟩ := p1.isList; exact Heap.lt_size e
      have t2 : l2 < s1.heap.objs.size := by obtain ⟨o, e, _⟩ := p2.isList; exact Heap.lt_size e
      refine call_zip_2 p1.isList p2.isList fun h' hz hTI hTO hi1 hi2 hsz hk => ?_
      refine wpAny_pyIter_zip (s := { s1 with heap := h' }) hz ?_
      refine ⟨_, _, _, _, H1, rfl, I1.kept (t' := s1.toks) hk, turn_zip (s1.heap.objs.size + 4) (s1.heap.objs.size + 2) (s1.heap.objs.size + 3) s1.heap.objs.size (s1.heap.objs.size + 1) l1 l2 ?_, ⟨hz, hTI, ⟨_, _, hTO⟩, hi1, hi2⟩, fun b hb => ?_, q⟩
      . exact zipApart_new t1 t2
      . have hb' : s1.heap.objs.size <= b := by
          simp only [List.mem_cons, List.not_mem_nil, or_false] at hb
          rcases hb with rfl | rfl | rfl | rfl | rfl
          . exact Nat.le_add_right _ _
          . exact Nat.le_add_right _ _
          . exact Nat.le_add_right _ _
          . exact Nat.le_refl _
          . exact Nat.le_add_right _ _
        exact I1.fpOk hb' (I1.hok.fresh hb')
theorem pi_enum {a : Expr} {ta : TA} {p pos : Pos} (hg : Gl X "enumerate") (hm : X.mg "enumerate" = none) (ha : PA X [a] ta) (hs : starEach [a] X.env = [(false, eval a X.env)] := by rfl) :
    PI X (.Tuple elts k pt) (.Call (.Name "enumerate" p) [a] [] pos) (iEnum X.K 0 ta) := by
  intro pins s σ H R I h
  refine Call_ (ld_blt I hg hm PyProof.Rows.boot_enumerate (PyProof.Rows.callWith_type1 (thn (ha pos pins s σ H _ I h) fun us s1 ⟨vs, H1, I1, r1, q1⟩ => ?_) hs rfl))
  obtain ⟨l, xs, e, g1, q⟩ := q1
  subst e
  cases r1 with
  | cons r rr =>
    cases rr
    cases r
    obtain ⟨its1, rv1, p1, _⟩ := I1.list g1
    have t1 : l < s1.heap.objs.size := by obtain ⟨o, e, _⟩ := p1.isList; exact Heap.lt_size e
    refine call_enumerate_list p1.isList fun h' he hi hsz hk => ?_
    refine wpAny_pyIter_enum (s := { s1 with heap := h' }) he ?_
    refine ⟨_, _, _, _, H1, rfl, I1.kept (t' := s1.toks) hk, turn_enum 0 (s1.heap.objs.size + 1) s1.heap.objs.size l (Nat.succ_ne_self _) (Nat.ne_of_lt (Nat.lt_succ_of_lt t1)) (Nat.ne_of_lt t1), ⟨⟨_, he⟩, hi⟩, fun b hb => ?_, q⟩
    have hb' : s1.heap.objs.size <= b := by
      simp only [List.mem_cons, List.not_mem_nil, or_false] at hb
      rcases hb with rfl | rfl
      . exact Nat.le_add_right _ _
      . exact Nat.le_refl _
    exact I1.fpOk hb' (I1.hok.fresh hb')
end
end L2
namespace L2
open PySem PySem.Spec PyProof.Rows
open AutoSeq1 (wpAny_loadPart')
section
set_option maxHeartbeats 1000000 in
theorem meets_enumK (l : Addr) (items : Array Value) (n : Nat) (dct : Option Addr) (sl : Array (Option Value)) (t : Tok) :
    Meets (Builtin.«enumerate.__new__» ⟨[.type "enumerate", .ref l], [("start", .int 1 t)]⟩) (fun _ R s => s.heap.get? l = some { cls := .type "list", dict := dct, data := .seq items n, slots := sl } /\
      R (.ok (.ret (.ref (s.heap.push { cls := .type "list_iterator", data := .fields #[.ref l, .int 0 0] }).objs.size)))
        { s with heap := (s.heap.push { cls := .type "list_iterator", data := .fields #[.ref l, .int 0 0] }).push { cls := .type "enumerate", data := .fields #[.none, .bool false, .ref s.heap.objs.size, rawInt 1, .none, .none] } }) :=
  .of_wp fun prog w A R s h => by
    obtain ⟨hp, g, d, tk, os⟩ := s; obtain ⟨hl, h⟩ := h
    have hsub := sub_enumerate
    have hL : Heap.IsList (Shared.heap ⟨hp, g, d, tk, os⟩) l items := ⟨_, hl, rfl, n, rfl⟩
    wp_walk using wpAny_loadPart' hl
    refine wpAny_stack_any fun st => wpAny_pure ?_
    split
    . rename_i c _ _ _ _ _
      cases (c == Value.type "enumerate") <;> (wp_walk using wpAny_loadPart' hl, wpAny_pyIter_list hL; exact ⟨_, rfl, h⟩)
    . wp_walk using wpAny_loadPart' hl, wpAny_pyIter_list hL
      exact ⟨_, rfl, h⟩
variable {prog : Program} {w : World} {A : Around} {E : Value -> Shared -> Prop} {s : Shared}
theorem initK {self : Value} {rest : List Value} {kw : List (Str × Value)} (hr : rest ≠ []) :
    Meets (Builtin.«object.__init__» ⟨self :: rest, kw⟩) (fun _ R s => s.TypeIs self "enumerate" /\ R (.ok (.ret .none)) s) := by
  have hl := (F.called_enumerate).init.lookup
  have hm := (F.called_enumerate).made
  have hne : (some "enumerate.__new__" != some "object.__new__") = true := by decide
  refine Meets.of_wp fun prog w A R s ⟨hT, hq⟩ => ?_
  cases rest with
  | nil => exact absurd rfl hr
  | cons a rest =>
    repeat (any_goals (first | assumption | wp_step))
    exact ⟨_, rfl, hq⟩
theorem typeCallK (a b : Value) : checkTypeCall "enumerate" ⟨[a], [("start", b)]⟩ = pure () := by kernel_rfl
theorem newCallK (a b : Value) : checkBuiltinCall "enumerate.__new__" ⟨[.type "enumerate", a], [("start", b)]⟩ = pure () := by kernel_rfl
theorem argsK (o a b : Value) : argsOk "object.__init__" ⟨[o, a], [("start", b)]⟩ := by
  have sg := signature?_of (id := "object.__init__") (n := "__init__".toList.reverse) (o := "object".toList.reverse) (by kernel_rfl) F.owner_object
  unfold argsOk
  rw [sg]
  kernel_rfl
theorem call_enumK {l : Addr} {items : Array Value} {t : Tok} {Q : Value -> Shared -> Prop} (hL : s.heap.IsList l items)
    (h : ∀ h', IsEnum h' (s.heap.objs.size + 1) s.heap.objs.size 1 .none -> h'.IsListIter s.heap.objs.size l 0 -> (∀ b o, s.heap.get? b = some o -> h'.get? b = some o) -> Q (.ref (s.heap.objs.size + 1)) { s with heap := h' }) :
    wpAny (model prog w) A (call (.type "enumerate") [.ref l] [("start", .int 1 t)]) Q E s := by
  obtain ⟨⟨c0, dct, dt, sl⟩, hl, hc, n, hd⟩ := hL
  obtain rfl : c0 = .type "list" := hc
  obtain rfl : dt = .seq items n := hd
  have ft := F.called_enumerate
  obtain ⟨m0, tl, hmro⟩ := ft.mro
  have k1 := ft.made
  have k2 := ft.sub
  have k3 := ft.notType
  have k4 := ft.canCreate
  have kc := typeCallK (.ref l) (.int 1 t)
  apply wpAny_call
  apply codeAny_of_tree
  show wpAny _ _ (callAny (.type "enumerate") _) _ _ _
  apply wpAny_pure
  refine ⟨Code.quiet_builtin _ (by decide +kernel), ?_⟩
  apply codeAny_builtin F.entry_type_call
  rw [Around.under_plain (weight_type_call_type _ _ _) (units_type_call_type _ _ _)]
  repeat (any_goals (first | assumption | wp_step))
  let Q1 : Value -> Shared -> Prop := fun v s1 => v = .ref (s.heap.objs.size + 1) /\ ∃ h', s1 = { s with heap := h' } /\ IsEnum h' (s.heap.objs.size + 1) s.heap.objs.size 1 .none /\ h'.IsListIter s.heap.objs.size l 0 /\ ∀ b o, s.heap.get? b = some o -> h'.get? b = some o
  have hz : (s.heap.push { cls := .type "list_iterator", data := .fields #[.ref l, .int 0 0] }).objs.size = s.heap.objs.size + 1 := Heap.size_push _ _
  have pre : wants Q1 E (.ok (.ret (.ref (s.heap.push { cls := .type "list_iterator", data := .fields #[.ref l, .int 0 0] }).objs.size)))
        { s with heap := (s.heap.push { cls := .type "list_iterator", data := .fields #[.ref l, .int 0 0] }).push { cls := .type "enumerate", data := .fields #[.none, .bool false, .ref s.heap.objs.size, rawInt 1, .none, .none] } } := by
    refine ⟨by rw [hz], _, rfl, ?_, ⟨_, Heap.get?_push_of_some _ (Heap.get?_push_size _ rfl), rfl, rfl⟩, fun b o x => Heap.get?_push_of_some _ (Heap.get?_push_of_some _ x)⟩
    have := Heap.get?_push_size (s.heap.push { cls := .type "list_iterator", data := .fields #[.ref l, .int 0 0] }) (o := { cls := .type "enumerate", data := .fields #[.none, .bool false, .ref s.heap.objs.size, rawInt 1, .none, .none] }) rfl
    rw [hz] at this
    exact this
  have new := codeAny_call_builtin (prog := prog) (w := w) (A := A.in1) (R := wants Q1 E) (s := s) ft.plain F.entry_enumerate_new (wpAny_of_eq (newCallK (.ref l) (.int 1 t)) (meets_enumK l items n dct sl t prog w A.in1 _ s ⟨hl, pre⟩))
  refine codeAny_mono new fun r s1 hr => ?_
  cases r with
  | error e => exact hr
  | ok fl =>
    cases fl with
    | ret obj =>
      obtain ⟨rfl, h', rfl, he, hit, hk⟩ := hr
      have hT : Shared.TypeIs { s with heap := h' } (.ref (s.heap.objs.size + 1)) "enumerate" := ⟨_, he, rfl⟩
      have hli := ft.init.lookup
      have hbi := ft.init.bind (.ref (s.heap.objs.size + 1))
      repeat (any_goals (first | assumption | wp_step))
      have ini := codeAny_call_builtin (prog := prog) (w := w) (A := A.in1) (R := wants (fun r s2 => r = .none /\ s2 = { s with heap := h' }) E) (s := { s with heap := h' }) ft.init.plain F.entry_object_init (ft.init.check _ _ _ _ _ _ _ _ hT (argsK (.ref (s.heap.objs.size + 1)) (.ref l) (.int 1 t)) (initK (rest := [.ref l]) (by simp) prog w A.in1 _ _ ⟨hT, rfl, rfl⟩))
      refine codeAny_mono ini fun r2 s2 hr2 => ?_
      cases r2 with
      | error e => exact hr2
      | ok fl2 =>
        cases fl2 with
        | ret r =>
          obtain ⟨rfl, rfl⟩ := hr2
          have fin := h h' he hit hk
          repeat (any_goals (first | assumption | wp_step))
        | _ => exact hr2.elim
    | _ => exact hr.elim
theorem callWith_typeK {M : Model} {pos : Pos} {T : String} {args : List (Bool × Sem Value)} {ks : List (Option Str × Sem Value)} {Q : Value -> Shared -> Prop} (h1 : args.any (·.1) = false) (h2 : ks.any (·.1.isNone) = false)
    (h : wpAny M A (evalArgs (.type T) true args ks) (fun a s' => wpAny M A (call (.type T) ([] ++ a.pos) a.kw) Q E s') E s) : wpAny M A (callWith pos (.type T) [] args ks) Q E s := by
  unfold callWith
  apply wpAny_bind
  apply wpAny_holding
  refine wpAny_mono h (fun a s' h' => ?_) fun _ _ z => z
  apply wpAny_bind
  apply wpAny_standAt
  simp only [h1, h2, Bool.or_false]
  apply wpAny_bind
  apply wpAny_pure
  apply wpAny_bind
  exact wpAny_mono h' (fun r s2 hr => wpAny_bind (wpAny_holding (wpAny_point (wpAny_pure hr)))) fun _ _ z => z
end
section
variable {X : Cx} {elts : List Expr} {k : Nat} {pt : Pos}
theorem pi_enumK {a : Expr} {ta : TA} {p pos kp cp : Pos} {ck} (hg : Gl X "enumerate") (hm : X.mg "enumerate" = none) (ha : PA X [a] ta) (hs : starEach [a] X.env = [(false, eval a X.env)] := by rfl) :
    PI X (.Tuple elts k pt) (.Call (.Name "enumerate" p) [a] [⟨some "start", .Constant (.int 1) ck cp, kp⟩] pos) (iEnum X.K 1 ta) := by
  intro pins s σ H R I h
  refine wpAny_Call_Name_kw (ld_blt I hg hm PyProof.Rows.boot_enumerate ?_)
  have hb : backTo pos (starEach [a] X.env) = [(false, eval a X.env)] := by rw [hs]; rfl
  refine callWith_typeK (by rw [hb]; rfl) rfl ?_
  have ha' := ha pos pins s σ H _ I h
  rw [hb] at ha' ⊢
  refine PyProof.Rows.evalArgs_kwB rfl (thn ha' fun us s1 ⟨vs, H1, I1, r1, q1⟩ => ?_)
  refine thn (pk_cons (X := X) (pe_int (X := X) (i := 1)) pk_nil pos pins s1 σ H1 (fun ws H2 => ws = [.int 1] /\ H2 = H1) I1 ⟨rfl, rfl⟩) fun kus s2 ⟨ws, H2, I2, r2, e2, e3⟩ => ?_
  subst e2; subst e3
  obtain ⟨l, xs, e, g1, q⟩ := q1
  subst e
  cases r1 with
  | cons r rr =>
    cases rr
    cases r
    cases r2 with
    | cons r2 rr2 =>
      cases rr2
      obtain ⟨t, rfl⟩ := r2
      obtain ⟨its1, rv1, p1, _⟩ := I2.list g1
      have t1 : l < s2.heap.objs.size := by obtain ⟨o, e, _⟩ := p1.isList; exact Heap.lt_size e
      refine call_enumK p1.isList fun h' he hi hk => ?_
      refine wpAny_pyIter_enum (s := { s2 with heap := h' }) he ?_
      refine ⟨_, _, _, _, H2, rfl, I2.kept (t' := s2.toks) hk, turn_enum 1 (s2.heap.objs.size + 1) s2.heap.objs.size l (Nat.succ_ne_self _) (Nat.ne_of_lt (Nat.lt_succ_of_lt t1)) (Nat.ne_of_lt t1), ⟨⟨_, he⟩, hi⟩, fun b hb => ?_, q⟩
      have hb' : s2.heap.objs.size <= b := by
        simp only [List.mem_cons, List.not_mem_nil, or_false] at hb
        rcases hb with rfl | rfl
        . exact Nat.le_add_right _ _
        . exact Nat.le_refl _
      exact I2.fpOk hb' (I2.hok.fresh hb')
end
end L2
namespace L2
open PySem PySem.Spec PyProof.Rows
section
variable {X : Cx}
def rIns : V -> List V -> Hp -> VK -> Prop := fun x vs H Q => ∃ l xs y, x = .ref l /\ vs = [.int 0, y] /\ H l = some (.lst xs) /\ xs.length < sizeLine /\ Q .non (upd H l (.lst (y :: xs)))
theorem mt_ins : MtM X "list.insert" rIns := by
  intro pins s σ H x vs v us Q I rx rv h
  obtain ⟨l, xs, y, rfl, rfl, hH, hz, q⟩ := h
  cases rx
  obtain ⟨u0, u, rfl, ru0, ru⟩ : ∃ u0 u, us = [u0, u] /\ RelV (.int 0) u0 /\ RelV y u := by
    cases rv with
    | cons a r =>
      cases r with
      | cons b r => cases r; exact ⟨_, _, rfl, a, b⟩
  obtain ⟨t, rfl⟩ := ru0
  obtain ⟨z, its, n, r, hl, e⟩ := I.lstM hH
  refine call_meets F.slot_list_insert ⟨_, e, rfl⟩ F.entry_list_insert (F.args_list_insert_3 _ _ _) (AutoListH.list_insert_list_int_val_1 l its.toArray n 0 t u (by decide) (by rw [List.size_toArray]; omega)) ⟨e, ?_⟩
  refine ⟨.non, _, I.lset (its' := u :: its) hH e ?_ (.cons ru r) ?_, rfl, q⟩
  . simp
  . rw [List.length_cons]
    omega
end
end L2
namespace L2
open PySem PySem.Spec PyProof.Rows
def Held (fs : List Addr) (H' : Hp) (h h' B : Heap) : Prop := ∀ b o, h'.get? b = some o -> (H' b ≠ none \/ ∃ o₀, h.get? b = some o₀) -> b ∉ fs -> B.get? b = some o
theorem ObjOk.ob {P : Program} {w : World} {H : Hp} {h : Heap} {a : Addr} {o : HO} (x : ObjOk P w H h a o) : ∃ u, h.get? a = some u := by
  cases o with
  | lst xs => obtain ⟨_, _, _, _, e⟩ := x; exact ⟨_, e⟩
  | tup xs => obtain ⟨_, _, _, o, e, _⟩ := x; exact ⟨_, e⟩
  | dK kvs => obtain ⟨_, _, _, _, o, _, _, e, _⟩ := x; exact ⟨_, e⟩
  | dT kvs => obtain ⟨_, _, _, _, o, _, _, e, _⟩ := x; exact ⟨_, e⟩
  | set S n => obtain ⟨o, _, _, _, e, _⟩ := x; exact ⟨_, e⟩
  | ins C dx fs => obtain ⟨_, _, _, e, _⟩ := x; exact ⟨_, e⟩
  | own y => exact x
  | xd fs => obtain ⟨_, ⟨_, _, _, e, _⟩, _⟩ := x; exact ⟨_, e⟩
  | rng lo hi => obtain ⟨_, _, _, e⟩ := x; exact ⟨_, e⟩
  | frz ob u => exact ⟨_, x.1⟩
  | tbl ps => exact ⟨_, show h.get? a = some _ from x⟩
  | met f y => exact ⟨_, show h.get? a = some _ from x⟩
  | ext φ => exact x.2.1
section
variable {P : Program} {w : World} {X : Cx} {pins : List (Addr × Obj)} {σ : St} {H H' : Hp} {s : Shared} {h1 h2 B : Heap}
theorem Held.next {fs : List Addr} {h : Heap} (ok : HOk P w H' h1) (hB : Held fs H' h h1 B) (st : B.StaysIn h2) (th : ∀ b o, h.get? b = some o -> ∃ o', h1.get? b = some o') : Held fs H' h h2 B := fun b o e hq hn => by
  have ex : ∃ o', h1.get? b = some o' := by
    rcases hq with z | ⟨o₀, z⟩
    . cases q : H' b with
      | none => exact absurd q z
      | some u =>
        exact (ok b u q).ob
    . exact th b o₀ z
  obtain ⟨o', e1⟩ := ex
  have e2 := hB b o' e1 hq hn
  have e3 := st b o' e2
  rw [e] at e3
  cases e3
  exact e2
end
section
variable {P : Program} {w : World} {K : PySem.W.Frag} {mg : Str -> Option Value} {base : Heap} {N : List Str} {qual : Str} {scope : Scope} {f : Addr} {cd : Value} {A : Around} {outer : List Env} {s : Shared} {H : Hp} {E : XK}
end
section
variable {P : Program} {w : World} {K : PySem.W.Frag} {mg : Str -> Option Value} {base : Heap} {N : List Str} {qual : Str} {scope : Scope} {f : Addr} {cd : Value} {A : Around} {outer : List Env} {s : Shared} {H : Hp} {E : XK}
end
section
variable {X : Cx} {x : Str} {C : Addr} {bm : List Value} {Bn newId initId : String} {E : XK} {t : TA} {np cpos pos : Pos} {e₀ : Expr} {rest : List Expr}
end
end L2
namespace L2
open PySem PySem.Spec PySem.Calls PyProof.Rows PySem.W Builtin Builtin.ObjectAttr Builtin.Getset_descriptor
section
variable {prog : Program} {w : World} {A : Around} {E : Value -> Shared -> Prop} {K : PySem.W.Frag} {x C : Addr} {ox : Obj} {h : Heap} {g : Array GenState} {d : Drawn} {t : Nat} {os : OsState}
end
end L2
namespace L2
open PySem PySem.Spec PySem.Calls PyProof.Rows PySem.W
structure ExcK (K : PySem.W.Frag) (C : Addr) : Prop where
  ga : findIn K (.ref C) "__getattribute__" = some (some (.builtin "BaseException.__getattribute__"))
  gt : findIn K (.ref C) "__getattr__" = some none
  be : mroIn K C (.type "BaseException") = some true
  cl : findIn K (.ref C) "__class__" = some (some (.builtin "object.__class__"))
  mo : mroIn K C (.type "object") = some true
section
variable {X : Cx} {pins : List (Addr × Obj)} {σ : St} {H : Hp} {s : Shared} {e : Addr} {oe : Obj} {E : Value -> Shared -> Prop}
end
section
variable {M : Model} {A : Around} {E : Value -> Shared -> Prop} {bs bs' bm bm' : List Value} {nm nm' q q' : Str} {C G N N' : Addr} {hdct hdct' : Bool} {sn sn' : List Str} {sub sub' : List Value} {ab ab' : Bool} {col col' : Option Bool} {dd dd' : Option Addr} {k0 k1 k2 k3 k5 j0 j1 j2 j3 j5 : Option Value} {newId newId' : String}
end
end L2
namespace L2
open PySem PySem.Spec PySem.Calls PyProof.Rows PySem.W
section
variable {X : Cx} {pins : List (Addr × Obj)} {σ : St} {H : Hp} {s : Shared}
end
def IsExc (h : Heap) (C : Addr) (v : Value) : Prop := ∃ nm q N bs bm hdct sn sub ab col dd k0 k1 k2 k3 k5 newId, h.get? C = some (excClassObj nm q C N bs bm hdct sn sub ab col dd k0 k1 k2 k3 k5 newId) /\ (Value.ref C :: bm).contains v = true
end L2
namespace L2
open PySem PySem.Spec PySem.Calls PyProof.Rows PySem.W
inductive IsNms (env : Env) (mg : Str -> Option Value) : List Expr -> List Addr -> Prop
  | nil : IsNms env mg [] []
  | cons {x : Str} {p : Pos} {es : List Expr} {a : Addr} {as : List Addr} (hg : env.kindOf x = some .globalImplicit) (hm : mg x = some (.ref a)) (hd : (x == ("__debug__" : Str)) = false) (h : IsNms env mg es as) : IsNms env mg (.Name x p :: es) (a :: as)
def suiteA (n y : Str) (es : List Expr) (p1 p2 p3 p4 p5 p6 p7 p8 p9 pa pb pc pd pe pf pg ph : Pos) (k1 k2 : Nat) : List Stmt :=
  [.If (.Call (.Name "isinstance" p1) [.Name n p2, .Tuple es k1 p3] [] p4) [.Return (some (.Constant (.bool false) k2 p5)) p6] [] p7,
   .Return (some (.BoolOp .And [.Call (.Name "isinstance" p8) [.Name n p9, .Name y pa] [] pb, .Call (.Name "isinstance" pc) [.Name n pd, .Name "ValueError" pe] [] pf] pg)) ph]
structure ClsOk (X : Cx) (C G : Addr) (ts : List Addr) (Y : Addr) (r : Bool) : Prop where
  ex : IsExc X.base C (.ref G)
  kk : ExcK X.K C
  va : kitOne X.K (.ref C) (.type "ValueError") = some true
  re : ∃ b1 b2, kitAny X.K (.ref C) (ts.map Value.ref) = some b1 /\ kitOne X.K (.ref C) (.ref Y) = some b2 /\ r = (!b1 && b2)
end L2
namespace L2
open PySem PySem.Spec PySem.Calls PyProof.Rows PySem.W
structure ClsOk2 (X : Cx) (C G Y Z : Addr) (r : Bool) : Prop where
  ex : IsExc X.base C (.ref G)
  kk : ExcK X.K C
  re : ∃ b1 b2, kitOne X.K (.ref C) (.ref Y) = some b1 /\ kitOne X.K (.ref C) (.ref Z) = some b2 /\ r = (b1 && !b2)
end L2
namespace L2
open PySem PySem.Spec PySem.Calls PyProof.Rows PySem.W
section
variable {X : Cx} {pins : List (Addr × Obj)} {σ : St} {H : Hp} {s : Shared} {e : Addr} {E : Value -> Shared -> Prop}
end
structure KOk (K : PySem.W.Frag) (C : Addr) (ts : List Addr) (Y : Addr) (r : Bool) : Prop where
  kk : ExcK K C
  va : kitOne K (.ref C) (.type "ValueError") = some true
  re : ∃ b1 b2, kitAny K (.ref C) (ts.map Value.ref) = some b1 /\ kitOne K (.ref C) (.ref Y) = some b2 /\ r = (!b1 && b2)
structure RoomU (A : Around) : Prop where
  dp : A.depth + 8 < recursionLimit
  un : A.units + 216 < cLine
theorem RoomU.of {k : Nat} {A : Around} (r : Room (k + 1) A) (v : Option Value) : RoomU (A.mark v) := ⟨by have := r.dp; show A.depth + 8 < _; omega, by have := r.un; show A.units + 216 < _; omega⟩
structure FnU (P : Program) (w : World) (K : PySem.W.Frag) (mg : Str -> Option Value) (base : Heap) (f : Addr) (fd : FuncData) (ps : List Str) (sp : Sp) : Prop where
  len : ∀ vs H Q E, sp vs H Q E -> vs.length = ps.length
  run : ∀ (A : Around) (outer : List Env) (s : Shared) (H : Hp) (args : Args) (us : List Value) (vs : List V) (Q : VK) (E : XK), RoomU A -> Env0 P w K mg base A outer s H -> BindsTo s fd args (ps.zip us) -> Vals vs us -> sp vs H Q E ->
    codeAny (model P w) A (.call (.ref f) args) (CR CX0 outer P w H s Q E) s
end L2
namespace L2
open PySem PySem.Spec PySem.Calls PyProof.Rows PySem.W
end L2
namespace L2
open PySem PySem.Spec PySem.Calls PyProof.Rows
end L2
namespace L2
open PySem PySem.Spec PyProof.Rows
def bestG (ns : List Int) : Int := ns.getD (argBest (fun i j => decide (ns.getD i 0 > ns.getD j 0)) (ns.length - 1)) 0
def bestL (ns : List Int) : Int := ns.getD (argBest (fun i j => decide (ns.getD i 0 < ns.getD j 0)) (ns.length - 1)) 0
theorem argBest_le (bt : Nat -> Nat -> Bool) : ∀ k, argBest bt k <= k
  | 0 => Nat.le_refl _
  | k + 1 => by
    unfold argBest
    split
    . exact Nat.le_refl _
    . exact Nat.le_succ_of_le (argBest_le bt k)
section
variable {X : Cx}
end
end L2
namespace L2
open PySem PySem.Spec PyProof.Rows
section
variable {X : Cx}
theorem call_maxT (hc : X.calm = true) : CallR X (.builtin "max") (fun xs H Q => ∃ (p : Addr) (ns : List Int), xs = [.ref p] /\ SqT X.K H p (ns.map V.int) /\ 0 < ns.length /\ Q (.int (bestG ns)) H) := by
  intro pins s σ H xs us Q I r h
  obtain ⟨p, ns, rfl, hq, h0, q⟩ := h
  obtain ⟨u, rfl, rx⟩ := vals1 r
  cases rx
  obtain ⟨its, r', pl, hz⟩ := I.tuple hq
  have hlen := r'.length
  rw [List.length_map] at hlen
  have pt : s.heap.IsTuple p its.toArray := pl
  obtain ⟨o, ho, _⟩ := id pt
  have hlt := Heap.lt_size ho
  have e0 : its.toArray.size = ns.length := by simp; omega
  have val : ∀ (i : Nat) (v : Value), its.toArray[i]? = some v -> ∃ t, v = .int (ns.getD i 0) t := fun i v hv => by
    have hv' : its[i]? = some v := by simpa using hv
    obtain ⟨y, hy, ry⟩ := r'.at hv'
    rw [List.getElem?_map] at hy
    cases hb : ns[i]? with
    | none => rw [hb] at hy; cases hy
    | some b =>
      rw [hb] at hy; cases hy
      obtain ⟨t, rfl⟩ := (ry : ∃ t, v = .int b t)
      exact ⟨t, by rw [List.getD_eq_getElem?_getD, hb]; rfl⟩
  refine call_max_walk (wpAny_pyIter_tuple pt ?_)
  refine ⟨s.heap.objs.size, _, _, _, _, _, _, rfl, Walks.tuple (A := X.A.in1) (I.ok.hd hc) s.heap.objs.size p (Nat.ne_of_lt hlt) its.toArray, ⟨⟨_, Heap.get?_push_size _ rfl, rfl, rfl⟩, pt.at fun o e => Heap.get?_push_of_some _ e⟩, ?_, by rw [e0]; exact h0, CmpOf.ints_gt (fun i => ns.getD i 0) val, fun v h' tk hv hk => ?_⟩
  . intro b hb
    have h1 : s.heap.objs.size < (s.heap.push { cls := .type "tuple_iterator", data := .fields #[.ref p, .int 0 0] }).objs.size := Heap.lt_size (Heap.get?_push_size _ rfl)
    have : b = s.heap.objs.size \/ b = p := by simpa using hb
    rcases this with rfl | rfl
    . exact h1
    . exact Nat.lt_trans hlt h1
  . rw [e0] at hv
    obtain ⟨t, rfl⟩ := val _ v hv
    exact ⟨.int (bestG ns), H, I.kept (t' := tk) fun b o e => hk b o (fun hb => by
      have : b = s.heap.objs.size := by simpa using hb
      exact absurd (Heap.lt_size e) (by rw [this]; exact Nat.lt_irrefl _)) (Heap.get?_push_of_some _ e), ⟨t, rfl⟩, q⟩
theorem call_minT (hc : X.calm = true) : CallR X (.builtin "min") (fun xs H Q => ∃ (p : Addr) (ns : List Int), xs = [.ref p] /\ SqT X.K H p (ns.map V.int) /\ 0 < ns.length /\ Q (.int (bestL ns)) H) := by
  intro pins s σ H xs us Q I r h
  obtain ⟨p, ns, rfl, hq, h0, q⟩ := h
  obtain ⟨u, rfl, rx⟩ := vals1 r
  cases rx
  obtain ⟨its, r', pl, hz⟩ := I.tuple hq
  have hlen := r'.length
  rw [List.length_map] at hlen
  have pt : s.heap.IsTuple p its.toArray := pl
  obtain ⟨o, ho, _⟩ := id pt
  have hlt := Heap.lt_size ho
  have e0 : its.toArray.size = ns.length := by simp; omega
  have val : ∀ (i : Nat) (v : Value), its.toArray[i]? = some v -> ∃ t, v = .int (ns.getD i 0) t := fun i v hv => by
    have hv' : its[i]? = some v := by simpa using hv
    obtain ⟨y, hy, ry⟩ := r'.at hv'
    rw [List.getElem?_map] at hy
    cases hb : ns[i]? with
    | none => rw [hb] at hy; cases hy
    | some b =>
      rw [hb] at hy; cases hy
      obtain ⟨t, rfl⟩ := (ry : ∃ t, v = .int b t)
      exact ⟨t, by rw [List.getD_eq_getElem?_getD, hb]; rfl⟩
  refine call_min_walk (wpAny_pyIter_tuple pt ?_)
  refine ⟨s.heap.objs.size, _, _, _, _, _, _, rfl, Walks.tuple (A := X.A.in1) (I.ok.hd hc) s.heap.objs.size p (Nat.ne_of_lt hlt) its.toArray, ⟨⟨_, Heap.get?_push_size _ rfl, rfl, rfl⟩, pt.at fun o e => Heap.get?_push_of_some _ e⟩, ?_, by rw [e0]; exact h0, CmpOf.ints_lt (fun i => ns.getD i 0) val, fun v h' tk hv hk => ?_⟩
  . intro b hb
    have h1 : s.heap.objs.size < (s.heap.push { cls := .type "tuple_iterator", data := .fields #[.ref p, .int 0 0] }).objs.size := Heap.lt_size (Heap.get?_push_size _ rfl)
    have : b = s.heap.objs.size \/ b = p := by simpa using hb
    rcases this with rfl | rfl
    . exact h1
    . exact Nat.lt_trans hlt h1
  . rw [e0] at hv
    obtain ⟨t, rfl⟩ := val _ v hv
    exact ⟨.int (bestL ns), H, I.kept (t' := tk) fun b o e => hk b o (fun hb => by
      have : b = s.heap.objs.size := by simpa using hb
      exact absurd (Heap.lt_size e) (by rw [this]; exact Nat.lt_irrefl _)) (Heap.get?_push_of_some _ e), ⟨t, rfl⟩, q⟩
end
end L2
namespace L2
open PySem PySem.Spec PyProof.Rows
section
variable {prog : Program} {w : World} {A : Around} {E : Value -> Shared -> Prop} {s : Shared}
inductive NItems (h : Heap) : List (List Int) -> List Value -> Prop
  | nil : NItems h [] []
  | cons {k : List Int} {a : Addr} {ks : List (List Int)} {vs : List Value} : IsTupleKey (intKind prog w) h k a -> NItems h ks vs -> NItems h (k :: ks) (.ref a :: vs)
def NKey (prog : Program) (w : World) (h : Heap) (ks : List (List Int)) (a : Addr) : Prop := ∃ o items n, h.get? a = some o /\ o.cls = .type "tuple" /\ o.data = .seq items n /\ NItems (prog := prog) (w := w) h ks items.toList
theorem NItems.inj {h : Heap} {x y : List (List Int)} {vs : List Value} (hx : NItems (prog := prog) (w := w) h x vs) (hy : NItems (prog := prog) (w := w) h y vs) : x = y := by
  induction hx generalizing y with
  | nil => cases hy; rfl
  | cons h1 _ ih =>
    cases hy with
    | cons h2 t2 => rw [h1.inj h2, ih t2]
theorem NKey.typeIs {ks : List (List Int)} {a : Addr} (x : NKey prog w s.heap ks a) : s.TypeIs (.ref a) "tuple" := let ⟨o, _, _, ho, hc, _⟩ := x; ⟨o, ho, hc⟩
theorem NKey.inj {h : Heap} {a : Addr} {x y : List (List Int)} (hx : NKey prog w h x a) (hy : NKey prog w h y a) : x = y := by
  obtain ⟨o, items, n, ho, _, hd, hi⟩ := hx
  obtain ⟨o', items', n', ho', _, hd', hi'⟩ := hy
  obtain rfl : o = o' := Option.some.inj (ho.symm.trans ho')
  rw [hd] at hd'
  injection hd' with h1 _
  subst h1
  exact hi.inj hi'
theorem NItems.mono {h h' : Heap} {ks : List (List Int)} {vs : List Value} (x : NItems (prog := prog) (w := w) h ks vs) (k : ∀ ks a, IsTupleKey (intKind prog w) h ks a -> IsTupleKey (intKind prog w) h' ks a) : NItems (prog := prog) (w := w) h' ks vs := by
  induction x with
  | nil => exact .nil
  | cons h1 _ ih => exact .cons (k _ _ h1) ih
theorem NKey.keeps {h h' : Heap} {ks : List (List Int)} {a d : Addr} {o : Obj} {es ep} (x : NKey prog w h ks a) (ho : h.get? d = some o) (hd : o.data = .dict es ep) (hs : Heap.SameBut d h h') : NKey prog w h' ks a := by
  obtain ⟨o', items, n, ho', hc, hd', hi⟩ := x
  have hne : a ≠ d := by
    rintro rfl
    obtain rfl : o' = o := Option.some.inj (ho'.symm.trans ho)
    rw [hd] at hd'; exact nomatch hd'
  exact ⟨o', items, n, (hs.2 a hne).trans ho', hc, hd', hi.mono fun _ _ z => z.keeps ho hd hs⟩
def nHash (prog : Program) (w : World) (ks : List (List Int)) : Int := reduceHash (Builtin.Tuple.tupleHashOf (ks.map (tupleKeyHash (intKind prog w))))
def nDraws (ks : List (List Int)) : Nat := (ks.map fun k => k.length + 1).sum + 1
theorem n_hash {ks : List (List Int)} {a : Addr} {Q : Int -> Shared -> Prop} (hu : A.units + 1 < cLine) (hk : NKey prog w s.heap ks a) (h : Q (nHash prog w ks) { s with toks := s.toks + nDraws ks }) :
    wpAny (model prog w) A (pyHash (.ref a)) Q E s := by
  have hT := hk.typeIs
  obtain ⟨o, items, n, ho, _, hd, hi⟩ := hk
  unfold pyHash
  first | unfold pyHashByItsType | skip
  first | refine wpAny_bind (wpAny_cRoomFor_or (.inr (by omega)) ?_) | skip
  refine wpAny_bind (wpAny_specialOf hT F.slot_tuple_hash.lookup ?_)
  show wpAny _ _ (if (some (Value.builtin "tuple.__hash__") == some Value.none) = true then _ else _) Q E s
  rw [if_neg (by rw [beq_builtin_none]; exact Bool.false_ne_true)]
  refine wpAny_bind (wpAny_specialOf hT F.slot_tuple_hash.lookup ?_)
  show wpAny _ _ (callSpecialIfBoundUnlessNone? (.ref a) "__hash__" _ >>= _) Q E s
  refine wpAny_bind (wpAny_callSpecialIfBoundUnlessNone?_slot hT F.slot_tuple_hash (wpAny_call_entry F.slot_tuple_hash hT F.entry_tuple_hash ?_ (F.args_tuple_hash_1 _)))
  show wpAny _ _ (Builtin.Tuple.tupleItemsOf (.ref a) >>= _) _ _ s
  refine wpAny_bind (wpAny_tupleItemsOf ho hd ?_)
  refine wpAny_bind ?_
  rw [<- Array.forIn_toList]
  refine wpAny_forIn_list _
    (fun rest (b : Array Int) s' => ∃ done left, ks = done ++ left /\ NItems (prog := prog) (w := w) s.heap left rest /\ b.toList = done.map (tupleKeyHash (intKind prog w)) /\ s' = { s with toks := s.toks + (done.map fun k => k.length + 1).sum })
    _ ?_ ?_ _ _ ⟨[], ks, rfl, hi, rfl, rfl⟩
  . rintro x rest b s' ⟨done, left, rfl, hl, hb, rfl⟩
    cases hl with
    | @cons k _ ks' _ h1 hl' =>
      refine wpAny_bind (wpAny_pyHash_tuple (knd := intKind prog w) (A := A.in1) (by show A.units + 1 < cLine; exact hu) h1 ?_)
      first
        | exact wpAny_pure ⟨done ++ [k], ks', by simp, hl', by simp [hb], by simp [Nat.add_assoc]⟩
        | exact wpAny_bind (wpAny_pure (wpAny_pure ⟨done ++ [k], ks', by simp, hl', by simp [hb], by simp [Nat.add_assoc]⟩))
  . rintro b s' ⟨done, left, rfl, hl, hb, rfl⟩
    cases hl
    rw [List.append_nil] at h
    show wpAny _ _ (retInt (Builtin.Tuple.tupleHashOf b.toList)) _ _ _
    rw [hb]
    refine wpAny_ret_mkInt ?_
    show wpAny _ _ (if (decide (-(2 : Int) ^ 63 <= Builtin.Tuple.tupleHashOf (done.map (tupleKeyHash (intKind prog w)))) && decide (Builtin.Tuple.tupleHashOf (done.map (tupleKeyHash (intKind prog w))) < 2 ^ 63)) = true then _ else _) Q E _
    unfold nHash reduceHash nDraws at h
    by_cases hr : (decide (-(2 : Int) ^ 63 <= Builtin.Tuple.tupleHashOf (done.map (tupleKeyHash (intKind prog w)))) && decide (Builtin.Tuple.tupleHashOf (done.map (tupleKeyHash (intKind prog w))) < 2 ^ 63)) = true
    . rw [if_pos hr]
      rw [if_pos hr] at h
      exact wpAny_pure (by simpa [Nat.add_assoc] using h)
    . rw [if_neg hr]
      rw [if_neg hr] at h
      exact wpAny_bind (wpAny_rule (wpAny_pure (by simpa [Nat.add_assoc] using h)))
theorem n_eq_tree {x y : List (List Int)} {a b : Addr} {P : Fin -> Shared -> Prop} (hu : A.units < cLine) (hx : NKey prog w s.heap x a) (hy : NKey prog w s.heap y b) (h : P (.done (.ret (.bool (decide (x = y))))) s) :
    wpAny (model prog w) A (Builtin.«tuple.__eq__» ⟨[.ref a, .ref b], []⟩) P E s := by
  have hTb := hy.typeIs
  obtain ⟨oa, xs, na, hoa, _, hda, hia⟩ := hx
  obtain ⟨ob, ys, nb, hob, _, hdb, hib⟩ := hy
  show wpAny _ _ (isInstance (.ref b) (.type "tuple") >>= _) _ _ s
  refine wpAny_bind (wpAny_isInstance hTb isSubtype_tuple_tuple ?_)
  simp only [Bool.not_true, Bool.false_eq_true, if_false]
  refine wpAny_bind (wpAny_tupleItemsOf hoa hda ?_)
  refine wpAny_bind (wpAny_tupleItemsOf hob hdb ?_)
  refine wpAny_bind ?_
  refine wpAny_forIn_list _
    (fun rest r s' => r.1 = none /\ s' = s /\ ∃ x' y' xs' ys', rest = List.zip xs' ys' /\ NItems (prog := prog) (w := w) s.heap x' xs' /\ NItems (prog := prog) (w := w) s.heap y' ys' /\ decide (x' = y') = decide (x = y) /\ (xs'.length == ys'.length) = (xs.size == ys.size))
    _ ?_ ?_ _ _ ⟨rfl, rfl, x, y, xs.toList, ys.toList, rfl, hia, hib, rfl, by simp⟩
  . rintro ⟨u, v⟩ rest r s' ⟨hr, rfl, x', y', xs', ys', hz, hx', hy', hdec, hlen⟩
    cases hx' with
    | nil => simp at hz
    | @cons k1 u' x'' xs'' h1 hx'' =>
      cases hy' with
      | nil => simp at hz
      | @cons k2 v' y'' ys'' h2 hy'' =>
        simp only [List.zip_cons_cons, List.cons.injEq, Prod.mk.injEq] at hz
        obtain ⟨⟨rfl, rfl⟩, rfl⟩ := hz
        refine wpAny_bind (wpAny_eqBool_tuple (knd := intKind prog w) (x := k1) (y := k2) hu h1 h2 ?_)
        by_cases hk : k1 = k2
        . subst hk
          rw [decide_eq_true rfl]
          simp only [Bool.not_true, Bool.false_eq_true, if_false]
          refine wpAny_pure ⟨rfl, rfl, x'', y'', xs'', ys'', rfl, hx'', hy'', ?_, by simpa using hlen⟩
          rw [<- hdec]
          by_cases hxy : x'' = y''
          . simp [hxy]
          . simp [hxy]
        . rw [decide_eq_false hk]
          simp only [Bool.not_false, if_true]
          have hf : decide (x = y) = false := by rw [<- hdec]; simp [hk]
          rw [hf] at h
          exact wpAny_bind (wpAny_pure (wpAny_pure (wpAny_pure h)))
  . rintro ⟨r1, r2⟩ s' ⟨hr, rfl, x', y', xs', ys', hz, hx', hy', hdec, hlen⟩
    simp only at hr
    subst hr
    refine wpAny_pure ?_
    have hfin : (xs.size == ys.size) = decide (x = y) := by
      rw [<- hdec, <- hlen]
      cases hx' with
      | nil =>
        cases hy' with
        | nil => simp
        | cons _ _ => simp
      | cons _ _ =>
        cases hy' with
        | nil => simp
        | cons _ _ => simp at hz
    show P (.done (.ret (.bool (xs.size == ys.size)))) s'
    rw [hfin]; exact h
theorem n_eq {x y : List (List Int)} {a b : Addr} {Q : Bool -> Shared -> Prop} (hu : A.units + 1 < cLine) (hx : NKey prog w s.heap x a) (hy : NKey prog w s.heap y b) (h : Q (decide (x = y)) s) :
    wpAny (model prog w) A (eqBool (.ref a) (.ref b)) Q E s := by
  unfold eqBool
  try with_reducible refine wpAny_holding ?_
  show wpAny _ _ (if (Value.ref a == Value.ref b) = true then _ else _) Q E s
  by_cases hab : (Value.ref a == Value.ref b) = true
  . rw [if_pos hab]
    have e : a = b := by have := eq_of_beq hab; injection this
    subst e
    obtain rfl := hx.inj hy
    exact wpAny_bind (wpAny_rule (wpAny_pure (by simpa using h)))
  . rw [if_neg hab]
    exact wpAny_bind (wpAny_richCompare_same_room (op := .Eq) hx.typeIs hy.typeIs F.slot_tuple_eq
      (wpAny_call_entry F.slot_tuple_eq hx.typeIs F.entry_tuple_eq (n_eq_tree (A := A.in1) hu hx hy ⟨_, rfl, (fun e => nomatch e), wpAny_truthy_bool h⟩) (F.args_tuple_eq_2 _ _)) (by omega))
theorem flat_quiet {n : Nat} {ks : List Int} {a : Addr} {Q : Bool -> Shared -> Prop} (hk : IsTupleKey (intKind prog w) s.heap ks a) (h : Q true s) : wpAny (model prog w) A (eqIsQuiet (n + 1) (.ref a)) Q E s := by
  have hT := hk.typeIs
  obtain ⟨o, items, m, ho, _, hd, hi⟩ := hk
  unfold eqIsQuiet
  refine wpAny_bind (wpAny_specialOf hT F.slot_tuple_eq.lookup ?_)
  show wpAny _ _ (isInstance (.ref a) (.type "tuple") >>= _) _ _ s
  refine wpAny_bind (wpAny_isInstance hT isSubtype_tuple_tuple ?_)
  simp only [Bool.not_true, Bool.false_eq_true, if_false]
  refine wpAny_bind (wpAny_seqItems ho hd ?_)
  refine wpAny_bind ?_
  show wpAny _ _ (forIn items _ _) _ _ s
  rw [<- Array.forIn_toList]
  refine wpAny_forIn_list _ (fun rest r s' => r.1 = none /\ s' = s /\ ∀ v ∈ rest, carriedByValue v = true) _ ?_ ?_ _ _ ⟨rfl, rfl, hi.byValue⟩
  . rintro v rest r s' ⟨hr, rfl, hall⟩
    rw [eqIsQuiet_byValue _ (hall v List.mem_cons_self)]
    refine wpAny_bind (wpAny_pure ?_)
    simp only [Bool.not_true, Bool.false_eq_true, if_false]
    exact wpAny_pure ⟨rfl, rfl, fun u hu' => hall u (List.mem_cons_of_mem _ hu')⟩
  . rintro ⟨r1, r2⟩ s' ⟨hr, rfl, _⟩
    simp only at hr
    subst hr
    exact wpAny_pure h
theorem n_quiet {ks : List (List Int)} {a : Addr} {Q : Bool -> Shared -> Prop} (hk : NKey prog w s.heap ks a) (h : Q true s) : wpAny (model prog w) A (eqIsQuiet 8 (.ref a)) Q E s := by
  have hT := hk.typeIs
  obtain ⟨o, items, m, ho, _, hd, hi⟩ := hk
  unfold eqIsQuiet
  refine wpAny_bind (wpAny_specialOf hT F.slot_tuple_eq.lookup ?_)
  show wpAny _ _ (isInstance (.ref a) (.type "tuple") >>= _) _ _ s
  refine wpAny_bind (wpAny_isInstance hT isSubtype_tuple_tuple ?_)
  simp only [Bool.not_true, Bool.false_eq_true, if_false]
  refine wpAny_bind (wpAny_seqItems ho hd ?_)
  refine wpAny_bind ?_
  show wpAny _ _ (forIn items _ _) _ _ s
  rw [<- Array.forIn_toList]
  refine wpAny_forIn_list _ (fun rest r s' => r.1 = none /\ s' = s /\ ∃ left, NItems (prog := prog) (w := w) s.heap left rest) _ ?_ ?_ _ _ ⟨rfl, rfl, ks, hi⟩
  . rintro v rest r s' ⟨hr, rfl, left, hl⟩
    cases hl with
    | @cons k _ ks' _ h1 hl' =>
      refine wpAny_bind (flat_quiet (n := 6) h1 ?_)
      simp only [Bool.not_true, Bool.false_eq_true, if_false]
      exact wpAny_pure ⟨rfl, rfl, ks', hl'⟩
  . rintro ⟨r1, r2⟩ s' ⟨hr, rfl, _⟩
    simp only at hr
    subst hr
    exact wpAny_pure h
end
def nKind (prog : Program) (w : World) : HeapKind prog w (List (List Int)) where
  is := NKey prog w
  hash := nHash prog w
  draws := nDraws
  room := fun A => A.units + 1 < cLine
  inj := fun hx hy => hx.inj hy
  keeps := fun x ho hd hs => x.keeps ho hd hs
  pyHash := fun hu hk h => n_hash hu hk h
  eqBool := fun hu hx hy h => n_eq hu hx hy h
  quiet := fun hk h => n_quiet hk h
end L2
namespace L2
open PySem PySem.Spec PyProof.Rows
abbrev NK := List (List Int) × Addr × Value
def dObj (P : Program) (w : World) (d : Addr) (xs : List NK) : HO := .ext fun h => (d == sysModules) = false /\ ∃ o es ep, h.get? d = some o /\ o.ExactDict /\ o.data = .dict es ep /\ es.toList = xs.map (entryOfKey (nKind P w)) /\ (xs.map (·.1)).Nodup
def TAt (K : PySem.W.Frag) (H : Hp) : List (List Int) -> List Addr -> Prop
  | [], [] => True
  | k :: ks, b :: bs => SqT K H b (k.map V.int) /\ TAt K H ks bs
  | _, _ => False
def NTup (K : PySem.W.Frag) (H : Hp) (ks : List (List Int)) (a : Addr) : Prop := ∃ bs : List Addr, SqT K H a (bs.map V.ref) /\ TAt K H ks bs
theorem TAt.mono {K : PySem.W.Frag} {H H' : Hp} (k : ∀ b xs, SqT K H b xs -> SqT K H' b xs) : ∀ {ks : List (List Int)} {bs : List Addr}, TAt K H ks bs -> TAt K H' ks bs
  | [], [], _ => trivial
  | _ :: _, _ :: _, h => ⟨k _ _ h.1, TAt.mono k h.2⟩
  | [], _ :: _, h => h.elim
  | _ :: _, [], h => h.elim
theorem NTup.mono {K : PySem.W.Frag} {H H' : Hp} (k : ∀ b xs, SqT K H b xs -> SqT K H' b xs) {ks : List (List Int)} {a : Addr} (h : NTup K H ks a) : NTup K H' ks a :=
  let ⟨bs, h1, h2⟩ := h; ⟨bs, k _ _ h1, h2.mono k⟩
theorem refs_eq : ∀ {bs : List Addr} {us : List Value}, Vals (bs.map V.ref) us -> us = bs.map Value.ref
  | [], _, .nil => rfl
  | _ :: _, _, .cons p q => by
    rw [refs_eq q]
    cases p
    rfl
theorem ints_are {P : Program} {w : World} : ∀ {k : List Int} {us : List Value}, Vals (k.map V.int) us -> ItemsAre (intKind P w) k us
  | [], _, .nil => .nil
  | i :: _, _, .cons p q => by
    obtain ⟨t, rfl⟩ := p
    exact .cons (by show Value.isInt i (.int i t) = true; simp [Value.isInt]) (ints_are q)
section
variable {X : Cx} {pins : List (Addr × Obj)} {σ : St} {H : Hp} {s : Shared}
theorem items_of (I : Inv X pins σ H s) : ∀ {ks : List (List Int)} {bs : List Addr}, TAt X.K H ks bs -> NItems (prog := X.prog) (w := X.w) s.heap ks (bs.map Value.ref)
  | [], [], _ => .nil
  | k :: _, b :: _, h => by
    obtain ⟨its, r, ⟨o, ho, hc, n, hd⟩, _⟩ := I.tuple h.1
    exact .cons ⟨o, its.toArray, n, ho, hc, hd, ints_are r⟩ (items_of I h.2)
  | [], _ :: _, h => h.elim
  | _ :: _, [], h => h.elim
theorem nkey_of (I : Inv X pins σ H s) {ks : List (List Int)} {a : Addr} (h : NTup X.K H ks a) : NKey X.prog X.w s.heap ks a := by
  obtain ⟨bs, h1, h2⟩ := h
  obtain ⟨its, r, ⟨o, ho, hc, n, hd⟩, _⟩ := I.tuple h1
  refine ⟨o, its.toArray, n, ho, hc, hd, ?_⟩
  have e : its.toArray.toList = bs.map Value.ref := refs_eq r
  rw [e]
  exact items_of I h2
def NDict (K : PySem.W.Frag) (P : Program) (w : World) (H : Hp) (d : Addr) (xs : List NK) : Prop := H d = some (dObj P w d xs) /\ ∀ x ∈ xs, NTup K H x.1 x.2.1
theorem ndict_of (I : Inv X pins σ H s) {d : Addr} {xs : List NK} (h : NDict X.K X.prog X.w H d xs) : (d == sysModules) = false /\ s.heap.DictOfH (nKind X.prog X.w) d xs := by
  obtain ⟨h1, h2⟩ := h
  obtain ⟨⟨a0, o, es, ep, a1, a2, a3, a4, a5⟩, _, _⟩ := I.hok d _ h1
  exact ⟨a0, o, es, ep, a1, a2, a3, a4, fun x hx => nkey_of I (h2 x hx), a5⟩
theorem op_inN (hu : X.A.units + 64 < cLine) : OpR X (compareOp .In) (fun x y H Q => ∃ a d ks xs, x = .ref a /\ y = .ref d /\ NTup X.K H ks a /\ NDict X.K X.prog X.w H d xs /\ Q (.bl (atKey xs ks).isSome) H) := by
  intro pins s σ H x y v u Q I rx ry h
  obtain ⟨a, d, ks, xs, rfl, rfl, hk, hd, q⟩ := h
  cases rx
  cases ry
  obtain ⟨d0, dm⟩ := ndict_of I hd
  exact wpAny_in_heap (knd := nKind X.prog X.w) (by show X.A.units + 1 + 1 < cLine; omega) (nkey_of I hk) d0 dm ⟨.bl (atKey xs ks).isSome, H, I.tok _, rfl, q⟩
theorem pe_dict0 {pos : Pos} : PE X (.Dict [] [] pos) (fun _ H Q => ∀ d, H d = none -> Q (.ref d) (upd H d (dObj X.prog X.w d []))) := by
  intro pins s σ H Q I h
  have hd : (s.heap.objs.size == sysModules) = false := by
    obtain ⟨o, _, _, ho, _⟩ := I.ok.mod.glob
    have h1 : (3 : Nat) < X.base.objs.size := Heap.lt_size ho
    have h2 := Nat.le_trans I.ok.bsz I.sz
    have : s.heap.objs.size ≠ (1 : Nat) := by omega
    exact beq_eq_false_iff_ne.mpr this
  refine wpAny_Dict_empty ⟨.ref s.heap.objs.size, upd H s.heap.objs.size (dObj X.prog X.w s.heap.objs.size []), I.laid (t' := s.toks) (fun b u e => Heap.get?_push_of_some _ e) (Nat.le_refl _) ?_, rfl, h _ I.fresh⟩
  refine ⟨⟨hd, _, #[], 0, Heap.get?_push_size _ rfl, ⟨rfl, rfl, rfl⟩, rfl, rfl, List.nodup_nil⟩, ⟨_, Heap.get?_push_size _ rfl⟩, fun h1 h2 hx k => ?_⟩
  obtain ⟨a0, o, es, ep, a1, r⟩ := hx
  exact ⟨a0, o, es, ep, k o a1, r⟩
def rSetN (K : PySem.W.Frag) (P : Program) (w : World) : V -> V -> V -> Hp -> (Hp -> Prop) -> Prop := fun o i v H Q => ∃ d a ks xs, o = .ref d /\ i = .ref a /\ v = .bl true /\ NTup K H ks a /\ NDict K P w H d xs /\ atKey xs ks = none /\ xs.length <= 100000 /\ Q (upd H d (dObj P w d (xs ++ [(ks, a, .bool true)])))
theorem set_N (hu : X.A.units + 64 < cLine) : PSet X (rSetN X.K X.prog X.w) := by
  intro pins s σ H o i v ov iv u Q I ro ri rv h
  obtain ⟨d, a, ks, xs, rfl, rfl, rfl, hk, hd, hn, hl, q⟩ := h
  cases ro
  cases ri
  cases rv
  obtain ⟨d0, dm⟩ := ndict_of I hd
  refine wpAny_setItem_heap (knd := nKind X.prog X.w) (by show X.A.units + 1 + 1 < cLine; omega) (nkey_of I hk) dm (fun h' dm' sb => ?_) (Nat.le_trans hl (by decide))
  rw [storedH_new hn] at dm'
  refine ⟨upd H d (dObj X.prog X.w d (xs ++ [(ks, a, .bool true)])), ?_, q⟩
  obtain ⟨o', es, ep, a1, a2, a3, a4, a5, a6⟩ := dm'
  refine I.write (x := d) (e := d) (by rw [hd.1]; trivial) (.inl rfl) (fun b u' hb e => (sb.2 b hb).trans e) ⟨_, a1⟩ ?_
  refine ⟨⟨d0, o', es, ep, a1, a2, a3, a4, a6⟩, ⟨_, a1⟩, fun h1 h2 hx k => ?_⟩
  obtain ⟨b0, o, es, ep, b1, r⟩ := hx
  exact ⟨b0, o, es, ep, k o b1, r⟩
end
end L2
namespace Mini
inductive Wd where
  | non | bl (b : Bool) | int (i : Int) | str (s : List Nat) | tup (xs : List Wd) | rol (xs : List Wd) | ref (l : Nat)
deriving Inhabited
inductive Ob where
  | lst (xs : List Wd) | dct (kvs : List (Wd × Wd))
deriving Inhabited
abbrev Me := List Ob
abbrev En := List (Option Wd)
inductive Rz where
  | ok (w : Wd) (m : Me) | exc (c : Nat) (w : Wd) (m : Me) | no
deriving Inhabited
inductive Rs where
  | next (e : En) (m : Me) | ret (w : Wd) (m : Me) | brk (e : En) (m : Me) | cont (e : En) (m : Me)
  | exc (c : Nat) (w : Wd) (e : En) (m : Me) | no
deriving Inhabited
inductive Bo where | add | sub | mul | fdiv | mod | pow
deriving DecidableEq
inductive Co where | eq | ne | lt | le | gt | ge | isN | notN | isin | notin
deriving DecidableEq
inductive Tg where | int | bool | list | tuple | str | dict
deriving DecidableEq
inductive Blf where | len | int | bool | list | tuple | sum | all | abs | min2 | max2 | minS | maxS
deriving DecidableEq
inductive Mth where | append | extend | pop | reverse | clear | insert
deriving DecidableEq
inductive Kd where | zip | enum
deriving DecidableEq
inductive Ex where
  | var (i : Nat) | lit (w : Wd)
  | bin (op : Bo) (a b : Ex) | neg (a : Ex) | not (a : Ex) | and (a b : Ex) | or (a b : Ex)
  | cmp (op : Co) (a b : Ex) | chain (p q : Co) (a b c : Ex) | ife (c a b : Ex)
  | unit | pair (a b : Ex)
  | call (k : Nat) (args : Ex) | blt (b : Blf) (args : Ex) | isi (t : Tg) (a : Ex)
  | lst (args : Ex) | tup (args : Ex) | dict0
  | idx (a b : Ex) | slL (a lo : Ex) | slH (a hi : Ex) | slB (a lo hi : Ex)
  | meth (n : Mth) (o args : Ex)
  | rng (a b c : Ex)
  | comp (elt it cond : Ex)
  | lrng (a : Ex)
  | compP (k : Kd) (elt a b cond : Ex)
deriving Inhabited
inductive Sm where
  | skip | seq (a b : Sm)
  | asg (i : Nat) (e : Ex) | asgS (o i e : Ex) | swapS (o i p j a b : Ex) | aug (i : Nat) (op : Bo) (e : Ex) | augS (o i : Ex) (op : Bo) (e : Ex)
  | ite (c : Ex) (a b : Sm) | forv (i : Nat) (it : Ex) (body : Sm) | fort (i j : Nat) (it : Ex) (body : Sm) | while (c : Ex) (body : Sm)
  | ret (e : Ex) | retN | expr (e : Ex) | brk | cont | never
  | forA (i j : Nat) (c : Int)
  | forZ (i j : Nat) (a b : Ex) (body : Sm)
  | forC (i j : Nat)
  | forS (i j k : Nat) (c : Int)
  | appPop (j a x : Nat) (e : Ex)
  | unp3 (i j k : Nat) (e : Ex)
  | popV (i j : Nat)
  | forE (i j : Nat) (a : Ex) (body : Sm)
  | swapI (j : Nat) (i k a b : Ex)
  | popI (j : Nat) (e : Ex) (a b : Sm)
  | chk (t n k p s : Nat)
deriving Inhabited
def lim : Nat := 100000
def big : Int := 18446744073709551616
def small (i : Int) : Bool := decide (-big < i) && decide (i < big)
def eqL (p : Wd -> Wd -> Option Bool) : List Wd -> List Wd -> Option Bool
  | x :: xs, y :: ys => match p x y with
    | some a => (eqL p xs ys).map (a && ·)
    | none => none
  | _, _ => some true
def b2i (b : Bool) : Int := if b then 1 else 0
def isLst (m : Me) (l : Nat) : Bool := match m[l]? with
  | some (.lst _) => true
  | _ => false
def notRol : Wd -> Bool
  | .rol _ => false
  | _ => true
def eqW (m : Me) : Nat -> Wd -> Wd -> Option Bool
  | 0, _, _ => none
  | k + 1, x, y => match x, y with
    | .tup a, .tup b => (eqL (eqW m k) a b).map (· && decide (a.length = b.length))
    | .ref a, .ref b => if a = b then (if isLst m a then some true else none) else match m[a]?, m[b]? with
      | some (.lst xs), some (.lst ys) => if xs.length = ys.length then eqL (eqW m k) xs ys else some false
      | _, _ => none
    | .ref a, y => if isLst m a && notRol y then some false else none
    | x, .ref b => if isLst m b && notRol x then some false else none
    | .rol _, _ => none
    | _, .rol _ => none
    | .non, .non => some true
    | .bl a, .bl b => some (a == b)
    | .int a, .int b => some (decide (a = b))
    | .bl a, .int b => some (decide (b2i a = b))
    | .int a, .bl b => some (decide (a = b2i b))
    | .str a, .str b => some (decide (a = b))
    | _, _ => some false
def deep : Nat := 12
def inL (p : Wd -> Wd -> Option Bool) (x : Wd) : List Wd -> Option Bool
  | [] => some false
  | y :: ys => match p y x with
    | some a => (inL p x ys).map (a || ·)
    | none => none
def ix (n : Nat) (i : Int) : Option Nat :=
  if 0 <= i then (if i < n then some i.toNat else none) else if -(n : Int) <= i then some (i + n).toNat else none
def alloc (m : Me) (xs : List Wd) : Rz := if xs.length <= lim then .ok (.ref m.length) (m ++ [.lst xs]) else .no
def lstAt (m : Me) (l : Nat) : Option (List Wd) := match m[l]? with
  | some (.lst xs) => some xs
  | _ => none
def seqOf (m : Me) : Wd -> Option (List Wd)
  | .tup xs => some xs
  | .rol xs => some xs
  | .ref l => lstAt m l
  | _ => none
def bop (op : Bo) (x y : Wd) (m : Me) : Rz := match x, y with
  | .int i, .int j => match op with
    | .add => .ok (.int (i + j)) m
    | .sub => .ok (.int (i - j)) m
    | .mul => if small i || small j then .ok (.int (i * j)) m else .no
    | .fdiv => if 0 < j /\ j < 1073741824 then .ok (.int (i / j)) m else .no
    | .mod => if 0 < j then .ok (.int (i % j)) m else .no
    | .pow => if 0 <= j /\ j <= 1000000 /\ small i = true then .ok (.int (i ^ j.toNat)) m else .no
  | .ref a, .ref b => match op, m[a]?, m[b]? with
    | .add, some (.lst xs), some (.lst ys) => alloc m (xs ++ ys)
    | _, _, _ => .no
  | .ref a, .int k => match op, m[a]? with
    | .mul, some (.lst xs) => if -lim <= k /\ k <= lim then alloc m (List.replicate k.toNat xs).flatten else .no
    | _, _ => .no
  | .tup xs, .tup ys => match op with
    | .add => if xs.length + ys.length <= lim /\ xs.isEmpty = false then .ok (.tup (xs ++ ys)) m else .no
    | _ => .no
  | _, _ => .no
def ofB (o : Option Bool) (m : Me) : Rz := match o with
  | some b => .ok (.bl b) m
  | none => .no
def cmpII (r : Int -> Int -> Bool) (x y : Wd) (m : Me) : Rz := match x, y with
  | .int i, .int j => .ok (.bl (r i j)) m
  | _, _ => .no
def cop (op : Co) (x y : Wd) (m : Me) : Rz := match op with
  | .eq => ofB (eqW m deep x y) m
  | .ne => ofB ((eqW m deep x y).map (!·)) m
  | .isN => match y, x with
    | .non, .non => .ok (.bl true) m
    | .non, _ => .ok (.bl false) m
    | _, _ => .no
  | .notN => match y, x with
    | .non, .non => .ok (.bl false) m
    | .non, _ => .ok (.bl true) m
    | _, _ => .no
  | .isin => match seqOf m y with
    | some ys => ofB (inL (eqW m deep) x ys) m
    | none => .no
  | .notin => match seqOf m y with
    | some ys => ofB ((inL (eqW m deep) x ys).map (!·)) m
    | none => .no
  | .lt => cmpII (fun i j => decide (i < j)) x y m
  | .le => cmpII (fun i j => decide (i <= j)) x y m
  | .gt => cmpII (fun i j => decide (j < i)) x y m
  | .ge => cmpII (fun i j => decide (j <= i)) x y m
def isT (t : Tg) (x : Wd) (m : Me) : Option Bool := match t, x with
  | .int, .int _ => some true
  | .int, .bl _ => some true
  | .bool, .bl _ => some true
  | .str, .str _ => some true
  | .tuple, .tup _ => some true
  | .list, .rol _ => some true
  | t, .ref l => match m[l]? with
    | some (.lst _) => some (decide (t = .list))
    | some (.dct _) => some (decide (t = .dict))
    | none => none
  | _, _ => some false
def sIx (n d : Nat) : Option Int -> Nat
  | none => d
  | some v => if v < 0 then (v + (n : Int)).toNat else min v.toNat n
def sumL : List Wd -> Option Int
  | [] => some 0
  | .int i :: r => (sumL r).map (i + ·)
  | _ => none
def allL : List Wd -> Option Bool
  | [] => some true
  | .bl b :: r => (allL r).map (b && ·)
  | _ => none
def lsOf (m : Me) : Wd -> Option (List Wd)
  | .rol xs => some xs
  | .ref l => lstAt m l
  | _ => none
def bltR (b : Blf) (ws : List Wd) (m : Me) : Rz := match b with
  | .len => match ws with
    | [x] => match seqOf m x with
      | some xs => .ok (.int xs.length) m
      | none => .no
    | _ => .no
  | .int => match ws with
    | [.int i] => .ok (.int i) m
    | [.bl b] => .ok (.int (b2i b)) m
    | _ => .no
  | .list => match ws with
    | [x] => match seqOf m x with
      | some xs => alloc m xs
      | none => .no
    | _ => .no
  | .tuple => match ws with
    | [x] => match seqOf m x with
      | some xs => .ok (.tup xs) m
      | none => .no
    | _ => .no
  | .sum => match ws with
    | [x] => match (lsOf m x).bind sumL with
      | some i => .ok (.int i) m
      | none => .no
    | _ => .no
  | .all => match ws with
    | [x] => match (lsOf m x).bind allL with
      | some i => .ok (.bl i) m
      | none => .no
    | _ => .no
  | .abs => match ws with
    | [.int i] => .ok (.int (if i < 0 then -i else i)) m
    | _ => .no
  | .max2 => match ws with
    | [.int i, .int j] => .ok (.int (if j > i then j else i)) m
    | _ => .no
  | .min2 => match ws with
    | [.int i, .int j] => .ok (.int (if j < i then j else i)) m
    | _ => .no
  | _ => .no
def mtR (n : Mth) (o : Wd) (ws : List Wd) (m : Me) : Rz := match o with
  | .ref l => match m[l]? with
    | some (.lst xs) => match n, ws with
      | .append, [y] => if xs.length < lim then .ok .non (m.set l (.lst (xs ++ [y]))) else .no
      | .extend, [.ref k] => match m[k]? with
        | some (.lst ys) => if xs.length + ys.length <= lim then .ok .non (m.set l (.lst (xs ++ ys))) else .no
        | _ => .no
      | .pop, [] => match xs[xs.length - 1]? with
        | some y => .ok y (m.set l (.lst xs.dropLast))
        | none => .no
      | .reverse, [] => .ok .non (m.set l (.lst xs.reverse))
      | .pop, [.int k] => if k = 0 then match xs with
        | y :: r => .ok y (m.set l (.lst r))
        | [] => .no
        else .no
      | .insert, [.int k, y] => if k = 0 /\ xs.length < lim then .ok .non (m.set l (.lst (y :: xs))) else .no
      | .clear, [] => .ok .non (m.set l (.lst []))
      | _, _ => .no
    | _ => .no
  | _ => .no
def setR (o i v : Wd) (m : Me) : Rz := match o, i with
  | .ref l, .int k => match m[l]? with
    | some (.lst xs) => match ix xs.length k with
      | some j => .ok .non (m.set l (.lst (xs.set j v)))
      | none => .no
    | _ => .no
  | _, _ => .no
def idxR (x y : Wd) (m : Me) : Rz := match y with
  | .int i => match seqOf m x with
    | some xs => match (ix xs.length i).bind fun j => xs[j]? with
      | some v => .ok v m
      | none => .no
    | none => .no
  | _ => .no
def slR (x : Wd) (lo hi : Option Int) (m : Me) : Rz := match lsOf m x with
  | some xs => alloc m ((xs.drop (sIx xs.length 0 lo)).take (sIx xs.length xs.length hi - sIx xs.length 0 lo))
  | none => .no
def rngL (lo st : Int) : Nat -> List Wd
  | 0 => []
  | n + 1 => .int lo :: rngL (lo + st) st n
def rngN (a b c : Int) : Nat := if c = 1 then (b - a).toNat else if c = -1 then (a - b).toNat else 0
def rngR (a b c : Wd) (m : Me) : Rz := match a, b, c with
  | .int a, .int b, .int c => if -lim <= a /\ a <= lim /\ -lim <= b /\ b <= lim /\ (c = 1 \/ c = -1) then .ok (.tup (rngL a c (rngN a b c))) m else .no
  | _, _, _ => .no
def Rz.bind (r : Rz) (f : Wd -> Me -> Rz) : Rz := match r with
  | .ok w m => f w m
  | r => r
def compL (c e : Wd -> Me -> Rz) : List Wd -> List Wd -> Me -> Rz
  | [], acc, m => alloc m acc
  | x :: xs, acc, m => (c x m).bind fun b m1 => match b with
    | .bl true => (e x m1).bind fun y m2 => if acc.length < lim then compL c e xs (acc ++ [y]) m2 else .no
    | .bl false => compL c e xs acc m1
    | _ => .no
def compR (c e : Wd -> Me -> Rz) (l : Nat) : Nat -> Nat -> List Wd -> Me -> Rz
  | 0, _, _, _ => .no
  | k + 1, i, acc, m => match lstAt m l with
    | none => .no
    | some xs => match xs[i]? with
      | none => alloc m acc
      | some x => (c x m).bind fun b m1 => match b with
        | .bl true => (e x m1).bind fun y m2 => if acc.length < lim then compR c e l k (i + 1) (acc ++ [y]) m2 else .no
        | .bl false => compR c e l k (i + 1) acc m1
        | _ => .no
def pairAt (k : Kd) (x y : Wd) (i : Nat) (m : Me) : Option (Option (Wd × Wd)) := match k, x, y with
  | .zip, .ref la, .ref lb => match lstAt m la, lstAt m lb with
    | some xs, some ys => some (match xs[i]?, ys[i]? with
      | some x, some y => some (x, y)
      | _, _ => none)
    | _, _ => none
  | .enum, .ref la, .int s => match lstAt m la with
    | some xs => some (xs[i]?.map fun x => (.int (s + (i : Int)), x))
    | none => none
  | _, _, _ => none
def compG (c e : Wd -> Wd -> Me -> Rz) (g : Nat -> Me -> Option (Option (Wd × Wd))) : Nat -> Nat -> List Wd -> Me -> Rz
  | 0, _, _, _ => .no
  | k + 1, i, acc, m => match g i m with
    | none => .no
    | some none => alloc m acc
    | some (some (x, y)) => (c x y m).bind fun b m1 => match b with
      | .bl true => (e x y m1).bind fun z m2 => if acc.length < lim then compG c e g k (i + 1) (acc ++ [z]) m2 else .no
      | .bl false => compG c e g k (i + 1) acc m1
      | _ => .no
def argsOf : Wd -> List Wd
  | .tup xs => xs
  | _ => []
def evE (cl : Nat -> List Wd -> Me -> Rz) : Ex -> En -> Me -> Rz
  | .var i, env, m => match env[i]? with
    | some (some w) => .ok w m
    | _ => .no
  | .lit w, _, m => .ok w m
  | .bin op a b, env, m => (evE cl a env m).bind fun x m1 => (evE cl b env m1).bind fun y m2 => bop op x y m2
  | .neg a, env, m => (evE cl a env m).bind fun x m1 => match x with
    | .int i => .ok (.int (-i)) m1
    | _ => .no
  | .not a, env, m => (evE cl a env m).bind fun x m1 => match x with
    | .bl b => .ok (.bl (!b)) m1
    | _ => .no
  | .and a b, env, m => (evE cl a env m).bind fun x m1 => match x with
    | .bl true => evE cl b env m1
    | .bl false => .ok (.bl false) m1
    | _ => .no
  | .or a b, env, m => (evE cl a env m).bind fun x m1 => match x with
    | .bl false => evE cl b env m1
    | .bl true => .ok (.bl true) m1
    | _ => .no
  | .cmp op a b, env, m => (evE cl a env m).bind fun x m1 => (evE cl b env m1).bind fun y m2 => cop op x y m2
  | .chain p q a b c, env, m => (evE cl a env m).bind fun x m1 => (evE cl b env m1).bind fun y m2 => (cop p x y m2).bind fun z m3 => match z with
    | .bl true => (evE cl c env m3).bind fun u m4 => cop q y u m4
    | .bl false => .ok (.bl false) m3
    | _ => .no
  | .ife c a b, env, m => (evE cl c env m).bind fun x m1 => match x with
    | .bl true => evE cl a env m1
    | .bl false => evE cl b env m1
    | _ => .no
  | .unit, _, m => .ok (.tup []) m
  | .pair a b, env, m => (evE cl a env m).bind fun x m1 => (evE cl b env m1).bind fun y m2 => .ok (.tup (x :: argsOf y)) m2
  | .call k a, env, m => (evE cl a env m).bind fun x m1 => cl k (argsOf x) m1
  | .blt b a, env, m => (evE cl a env m).bind fun x m1 => bltR b (argsOf x) m1
  | .isi t a, env, m => (evE cl a env m).bind fun x m1 => ofB (isT t x m1) m1
  | .lst a, env, m => (evE cl a env m).bind fun x m1 => alloc m1 (argsOf x)
  | .tup a, env, m => (evE cl a env m).bind fun x m1 => if (argsOf x).length <= lim then .ok (.tup (argsOf x)) m1 else .no
  | .dict0, _, m => .ok (.ref m.length) (m ++ [.dct []])
  | .idx a b, env, m => (evE cl a env m).bind fun x m1 => (evE cl b env m1).bind fun y m2 => idxR x y m2
  | .slL a lo, env, m => (evE cl a env m).bind fun x m1 => (evE cl lo env m1).bind fun y m2 => match y with
    | .int i => slR x (some i) none m2
    | _ => .no
  | .slH a hi, env, m => (evE cl a env m).bind fun x m1 => (evE cl hi env m1).bind fun y m2 => match y with
    | .int i => slR x none (some i) m2
    | _ => .no
  | .slB a lo hi, env, m => (evE cl a env m).bind fun x m1 => (evE cl lo env m1).bind fun y m2 => match y with
    | .int i => (evE cl hi env m2).bind fun z m3 => match z with
      | .int j => slR x (some i) (some j) m3
      | _ => .no
    | _ => .no
  | .meth n o a, env, m => (evE cl o env m).bind fun x m1 => (evE cl a env m1).bind fun y m2 => mtR n x (argsOf y) m2
  | .rng a b c, env, m => (evE cl a env m).bind fun x m1 => (evE cl b env m1).bind fun y m2 => (evE cl c env m2).bind fun z m3 => rngR x y z m3
  | .comp elt it cond, env, m => (evE cl it env m).bind fun x m1 => match x with
    | .tup xs => compL (fun x m => evE cl cond (env ++ [some x]) m) (fun x m => evE cl elt (env ++ [some x]) m) xs [] m1
    | .rol xs => compL (fun x m => evE cl cond (env ++ [some x]) m) (fun x m => evE cl elt (env ++ [some x]) m) xs [] m1
    | .ref l => compR (fun x m => evE cl cond (env ++ [some x]) m) (fun x m => evE cl elt (env ++ [some x]) m) l (lim + 1) 0 [] m1
    | _ => .no
  | .compP k elt a b cond, env, m => (evE cl a env m).bind fun x m1 => (evE cl b env m1).bind fun y m2 =>
    compG (fun u v m => evE cl cond (env ++ [some u] ++ [some v]) m) (fun u v m => evE cl elt (env ++ [some u] ++ [some v]) m) (pairAt k x y) (lim + 1) 0 [] m2
  | .lrng a, env, m => (evE cl a env m).bind fun x m1 => match x with
    | .int j => if -lim <= j /\ j <= lim then alloc m1 (rngL 0 1 j.toNat) else .no
    | _ => .no
def loopL (body : Wd -> En -> Me -> Rs) : List Wd -> En -> Me -> Rs
  | [], env, m => .next env m
  | x :: xs, env, m => match body x env m with
    | .next e1 m1 => loopL body xs e1 m1
    | .cont e1 m1 => loopL body xs e1 m1
    | .brk e1 m1 => .next e1 m1
    | r => r
def loopR (body : Wd -> En -> Me -> Rs) (l : Nat) : Nat -> Nat -> En -> Me -> Rs
  | 0, _, _, _ => .no
  | k + 1, i, env, m => match lstAt m l with
    | none => .no
    | some xs => match xs[i]? with
      | none => .next env m
      | some x => match body x env m with
        | .next e1 m1 => loopR body l k (i + 1) e1 m1
        | .cont e1 m1 => loopR body l k (i + 1) e1 m1
        | .brk e1 m1 => .next e1 m1
        | r => r
def loopG (body : Wd -> En -> Me -> Rs) (g : Nat -> Me -> Option (Option (Wd × Wd))) : Nat -> Nat -> En -> Me -> Rs
  | 0, _, _, _ => .no
  | k + 1, i, env, m => match g i m with
    | none => .no
    | some none => .next env m
    | some (some (x, y)) => match body (.tup [x, y]) env m with
      | .next e1 m1 => loopG body g k (i + 1) e1 m1
      | .cont e1 m1 => loopG body g k (i + 1) e1 m1
      | .brk e1 m1 => .next e1 m1
      | r => r
def loopW (c : En -> Me -> Rz) (body : En -> Me -> Rs) : Nat -> En -> Me -> Rs
  | 0, _, _ => .no
  | k + 1, env, m => match c env m with
    | .ok (.bl true) m1 => match body env m1 with
      | .next e1 m2 => loopW c body k e1 m2
      | .cont e1 m2 => loopW c body k e1 m2
      | .brk e1 m2 => .next e1 m2
      | r => r
    | .ok (.bl false) m1 => .next env m1
    | .exc c w m1 => .exc c w env m1
    | _ => .no
def Rz.bindS (r : Rz) (env : En) (f : Wd -> Me -> Rs) : Rs := match r with
  | .ok w m => f w m
  | .exc c w m => .exc c w env m
  | .no => .no
def forW (body : Wd -> En -> Me -> Rs) (w : Wd) (env : En) (m : Me) : Rs := match w with
  | .tup xs => loopL body xs env m
  | .rol xs => loopL body xs env m
  | .ref l => loopR body l (lim + 1) 0 env m
  | _ => .no
def st2 (i j : Nat) : Wd -> En -> Option En := fun w env => match w with
  | .tup [a, b] => some ((env.set i (some a)).set j (some b))
  | _ => none
def st3 (i j k : Nat) (w : Wd) (m : Me) (env : En) : Option En := match seqOf m w with
  | some [a, b, c] => some (((env.set i (some a)).set j (some b)).set k (some c))
  | _ => none
def bodyOf (st : Wd -> En -> Option En) (b : En -> Me -> Rs) : Wd -> En -> Me -> Rs := fun w env m => match st w env with
  | some env' => b env' m
  | none => .no
def augI (op : Bo) (x y : Wd) (m : Me) (env : En) (f : Wd -> Me -> Rs) : Rs := match x, y with
  | .int _, .int _ => (bop op x y m).bindS env f
  | _, _ => .no
def ptOf : Wd -> Option (Int × Int)
  | .tup [.int i, .int j] => some (i, j)
  | _ => none
def ptsOf : List Wd -> Option (List (Int × Int))
  | [] => some []
  | w :: r => match ptOf w, ptsOf r with
    | some p, some q => some (p :: q)
    | _, _ => none
def ptsOk (n : Int) (ps : List (Int × Int)) : Bool := ps.all (fun p => decide (1 <= p.1) && decide (p.1 < n) && decide (1 <= p.2) && decide (p.2 < n) && ps.all fun q => decide ((p.1 + p.2) % 2 = (q.1 + q.2) % 2)) && decide ps.Nodup
def sidesK (p : Int × Int) : List (List (List Int)) := [[[p.1 - 1, p.2 - 1], [p.1 - 1, p.2]], [[p.1 - 1, p.2], [p.1, p.2]], [[p.1, p.2 - 1], [p.1, p.2]], [[p.1 - 1, p.2 - 1], [p.1, p.2 - 1]]]
def tupI (k : List Int) : Wd := .tup (k.map Wd.int)
def tupK (k : List (List Int)) : Wd := .tup (k.map tupI)
def junk (ps : List (Int × Int)) : Me := ps.map fun p => .lst ((sidesK p).map tupK)
def chkS (t n k p s : Nat) (env : En) (m : Me) : Rs := match env[t]?, env[n]? with
  | some (some (.ref l)), some (some (.int i)) => match m[l]? with
    | some (.lst xs) => match ptsOf xs with
      | some ps => if ptsOk i ps = true /\ ps.length <= 1000 then .next (((env.set k none).set p none).set s none) (m ++ junk ps) else .no
      | none => .no
    | _ => .no
  | _, _ => .no
def exS (cl : Nat -> List Wd -> Me -> Rz) : Sm -> En -> Me -> Rs
  | .skip, env, m => .next env m
  | .seq a b, env, m => match exS cl a env m with
    | .next e1 m1 => exS cl b e1 m1
    | r => r
  | .asg i e, env, m => (evE cl e env m).bindS env fun w m1 => .next (env.set i (some w)) m1
  | .asgS o i e, env, m => (evE cl e env m).bindS env fun w m1 => (evE cl o env m1).bindS env fun x m2 => (evE cl i env m2).bindS env fun y m3 => (setR x y w m3).bindS env fun _ m4 => .next env m4
  | .swapS o i p j a b, env, m => (evE cl a env m).bindS env fun u m0 => (evE cl b env m0).bindS env fun w m1 =>
      (evE cl o env m1).bindS env fun x m2 => (evE cl i env m2).bindS env fun y m3 => (setR x y u m3).bindS env fun _ m4 =>
      (evE cl p env m4).bindS env fun x m5 => (evE cl j env m5).bindS env fun y m6 => (setR x y w m6).bindS env fun _ m7 => .next env m7
  | .aug i op e, env, m => match env[i]? with
    | some (some x) => (evE cl e env m).bindS env fun y m1 => augI op x y m1 env fun z m2 => .next (env.set i (some z)) m2
    | _ => .no
  | .augS o i op e, env, m => (evE cl o env m).bindS env fun x m1 => match x with
    | .ref l => (evE cl i env m1).bindS env fun y m2 => (idxR (.ref l) y m2).bindS env fun u m3 => (evE cl e env m3).bindS env fun v m4 => augI op u v m4 env fun z m5 => (setR (.ref l) y z m5).bindS env fun _ m6 => .next env m6
    | _ => .no
  | .ite c a b, env, m => (evE cl c env m).bindS env fun x m1 => match x with
    | .bl true => exS cl a env m1
    | .bl false => exS cl b env m1
    | _ => .no
  | .forv i it body, env, m => (evE cl it env m).bindS env fun w m1 => forW (fun x e m => exS cl body (e.set i (some x)) m) w env m1
  | .fort i j it body, env, m => (evE cl it env m).bindS env fun w m1 => forW (bodyOf (st2 i j) (exS cl body)) w env m1
  | .while c body, env, m => loopW (evE cl c) (exS cl body) 1000000 env m
  | .ret e, env, m => (evE cl e env m).bindS env fun w m1 => .ret w m1
  | .retN, _, m => .ret .non m
  | .expr e, env, m => (evE cl e env m).bindS env fun _ m1 => .next env m1
  | .forA i j c, env, m => (evE cl (.var j) env m).bindS env fun w m1 => forW (fun x e m => (evE cl (.meth .append (.var i) (.pair (.lit (.int c)) .unit)) (e.set i (some x)) m).bindS (e.set i (some x)) fun _ m1 => .next (e.set i (some x)) m1) w env m1
  | .forZ i j a b body, env, m => (evE cl a env m).bindS env fun x m1 => (evE cl b env m1).bindS env fun y m2 => loopG (bodyOf (st2 i j) (exS cl body)) (pairAt .zip x y) (lim + 1) 0 env m2
  | .forS i j k c, env, m => (evE cl (.var k) env m).bindS env fun w m1 => forW (fun x e m => match (evE cl (.var i) (e.set i (some x)) m).bindS (e.set i (some x)) (fun w m1 => forW (fun x e m => (evE cl (.meth .append (.var j) (.pair (.lit (.int c)) .unit)) (e.set j (some x)) m).bindS (e.set j (some x)) fun _ m1 => .next (e.set j (some x)) m1) w (e.set i (some x)) m1) with
    | .next e1 m1 => (evE cl (.meth .append (.var i) (.pair (.lst .unit) .unit)) e1 m1).bindS e1 fun _ m2 => .next e1 m2
    | r => r) w env m1
  | .forC i j, env, m => (evE cl (.var j) env m).bindS env fun w m1 => forW (fun x e m => (evE cl (.meth .clear (.var i) .unit) (e.set i (some x)) m).bindS (e.set i (some x)) fun _ m1 => .next (e.set i (some x)) m1) w env m1
  | .forE i j a body, env, m => (evE cl a env m).bindS env fun x m1 => loopG (bodyOf (st2 i j) (exS cl body)) (pairAt .enum x (.int 0)) (lim + 1) 0 env m1
  | .swapI v i j a b, env, m => (evE cl a env m).bindS env fun u m0 => (evE cl b env m0).bindS env fun w m1 =>
      (evE cl (.var v) env m1).bindS env fun x m2 => (evE cl i env m2).bindS env fun y m3 => (setR x y u m3).bindS env fun _ m4 =>
      (evE cl (.var v) env m4).bindS env fun x m5 => (evE cl j env m5).bindS env fun y m6 => (setR x y w m6).bindS env fun _ m7 => .next env m7
  | .popV i j, env, m => (evE cl (.meth .pop (.var j) .unit) env m).bindS env fun w m1 => .next (env.set i (some w)) m1
  | .popI j e a b, env, m => (evE cl (.cmp .ne (.meth .pop (.var j) .unit) e) env m).bindS env fun x m1 => match x with
    | .bl true => exS cl a env m1
    | .bl false => exS cl b env m1
    | _ => .no
  | .appPop j a x e, env, m => (evE cl (.meth .append (.var j) (.pair (.bin .add (.var a) (.bin .mod (.meth .pop (.var x) (.pair (.lit (.int 0)) .unit)) e)) .unit)) env m).bindS env fun _ m1 => .next env m1
  | .unp3 i j k e, env, m => (evE cl e env m).bindS env fun w m1 => match st3 i j k w m1 env with
    | some e1 => .next e1 m1
    | none => .no
  | .chk t n k p s, env, m => chkS t n k p s env m
  | .brk, env, m => .brk env m
  | .cont, env, m => .cont env m
  | .never, _, _ => .no
structure Fn where
  ar : Nat
  sz : Nat
  body : Sm
deriving Inhabited
def begin0 (fn : Fn) (ws : List Wd) : En := ws.map some ++ List.replicate (fn.sz - ws.length) none
def runF (cl : Nat -> List Wd -> Me -> Rz) (fn : Fn) (ws : List Wd) (m : Me) : Rz :=
  if ws.length = fn.ar then match exS cl fn.body (begin0 fn ws) m with
    | .next _ m1 => .ok .non m1
    | .ret w m1 => .ok w m1
    | .exc c w _ m1 => .exc c w m1
    | _ => .no
  else .no
def callN (T : List Fn) : Nat -> Nat -> List Wd -> Me -> Rz
  | 0, _, _, _ => .no
  | d + 1, k, ws, m => match T[k]? with
    | some fn => runF (callN T d) fn ws m
    | none => .no
end Mini
namespace Mini
open PySem PySem.Spec PyProof.Rows L2
abbrev St := L2.St
def KL (K : PySem.W.Frag) (a : Addr) (xs : List V) : Prop :=
  ∃ (o : Obj) (its : Array Value) (n : Nat), K.lookup a = some o /\ o.cls = .type "list" /\ o.dict = none /\ o.data = .seq its n /\ its.size <= sizeLine /\ Vals xs its.toList
def SqF (K : PySem.W.Frag) (H : Hp) (a : Addr) (vs : List V) : Prop := (∃ o, H a = some (.frz o (.lst vs))) \/ KL K a vs
theorem SqF.sq {K : PySem.W.Frag} {H : Hp} {a : Addr} {vs : List V} (h : SqF K H a vs) : SqL K H a vs := by
  rcases h with h | h
  . exact .inl (.inr h)
  . exact .inr h
mutual
def Rep (K : PySem.W.Frag) (as : List Addr) (H : Hp) : Wd -> V -> Prop
  | .non, v => v = .non
  | .bl b, v => v = .bl b
  | .int i, v => v = .int i
  | .str s, v => v = .str ⟨s.toArray⟩
  | .tup xs, v => ∃ a vs, v = .ref a /\ SqT K H a vs /\ RepL K as H xs vs
  | .rol xs, v => ∃ a vs, v = .ref a /\ SqF K H a vs /\ RepL K as H xs vs
  | .ref l, v => ∃ a, as[l]? = some a /\ v = .ref a
def RepL (K : PySem.W.Frag) (as : List Addr) (H : Hp) : List Wd -> List V -> Prop
  | [], vs => vs = []
  | x :: xs, vs => ∃ v r, vs = v :: r /\ Rep K as H x v /\ RepL K as H xs r
end
def RepO (K : PySem.W.Frag) (as : List Addr) (H : Hp) : Ob -> Addr -> Prop
  | .lst ws, a => ∃ vs, H a = some (.lst vs) /\ RepL K as H ws vs
  | .dct _, _ => False
structure Sim (K : PySem.W.Frag) (as : List Addr) (m : Me) (H : Hp) : Prop where
  len : as.length = m.length
  nd : as.Nodup
  obj : ∀ (l : Nat) (a : Addr) (o : Ob), as[l]? = some a -> m[l]? = some o -> RepO K as H o a
structure Step (as : List Addr) (H : Hp) (as' : List Addr) (H' : Hp) : Prop where
  pre : ∃ t, as' = as ++ t
  frame : ∀ b o, H b = some o -> b ∉ as -> H' b = some o
  fresh : ∀ a ∈ as', a ∈ as \/ H a = none
section
variable {K : PySem.W.Frag} {as as' as2 : List Addr} {H H' H2 : Hp} {m m' : Me}
theorem Step.refl : Step as H as H := ⟨⟨[], by simp⟩, fun _ _ h _ => h, fun _ h => .inl h⟩
theorem Step.get (T : Step as H as' H') {l : Nat} {a : Addr} (h : as[l]? = some a) : as'[l]? = some a := by
  obtain ⟨t, rfl⟩ := T.pre
  rw [List.getElem?_append_left (List.getElem?_eq_some_iff.mp h).1]
  exact h
theorem Step.out (T : Step as H as' H') {b : Addr} {o : HO} (h : H b = some o) (hb : b ∉ as) : b ∉ as' := fun z => by
  rcases T.fresh b z with q | q
  . exact hb q
  . rw [h] at q; cases q
theorem Step.trans (T : Step as H as' H') (U : Step as' H' as2 H2) : Step as H as2 H2 := by
  refine ⟨?_, fun b o h hb => U.frame b o (T.frame b o h hb) (T.out h hb), fun a ha => ?_⟩
  . obtain ⟨t, rfl⟩ := T.pre
    obtain ⟨u, rfl⟩ := U.pre
    exact ⟨t ++ u, by simp⟩
  . rcases U.fresh a ha with q | q
    . exact T.fresh a q
    . by_cases z : a ∈ as
      . exact .inl z
      . refine .inr ?_
        cases e : H a with
        | none => rfl
        | some o => rw [T.frame a o e z] at q; cases q
theorem Sim.get (S : Sim K as m H) {l : Nat} {o : Ob} (h : m[l]? = some o) : ∃ a, as[l]? = some a /\ RepO K as H o a := by
  have hl : l < as.length := by rw [S.len]; exact (List.getElem?_eq_some_iff.mp h).1
  exact ⟨as[l], by simp [hl], S.obj l _ o (by simp [hl]) h⟩
theorem Sim.isLst (S : Sim K as m H) {a : Addr} (h : a ∈ as) : ∃ us, H a = some (.lst us) := by
  obtain ⟨l, hl, rfl⟩ := List.mem_iff_getElem.mp h
  have hm : l < m.length := by rw [<- S.len]; exact hl
  have q := S.obj l as[l] m[l] (by simp [hl]) (by simp [hm])
  cases e : m[l] with
  | lst ws =>
    rw [e] at q
    obtain ⟨vs, h1, _⟩ := q
    exact ⟨vs, h1⟩
  | dct kvs => rw [e] at q; exact q.elim
theorem sqT_mono (nt : ∀ a ∈ as, ∃ us, H a = some (.lst us)) (T : Step as H as' H') {a : Addr} {vs : List V} (h : SqT K H a vs) : SqT K H' a vs := by
  rcases h with h | h
  . have hn : a ∉ as := fun z => by
      obtain ⟨us, e⟩ := nt a z
      rcases h with h | ⟨o, h⟩ <;> rw [e] at h <;> cases h
    rcases h with h | ⟨o, h⟩
    . exact .inl (.inl (T.frame _ _ h hn))
    . exact .inl (.inr ⟨o, T.frame _ _ h hn⟩)
  . exact .inr h
theorem sqF_mono (nt : ∀ a ∈ as, ∃ us, H a = some (.lst us)) (T : Step as H as' H') {a : Addr} {vs : List V} (h : SqF K H a vs) : SqF K H' a vs := by
  rcases h with ⟨o, h⟩ | h
  . have hn : a ∉ as := fun z => by
      obtain ⟨us, e⟩ := nt a z
      rw [e] at h; cases h
    exact .inl ⟨o, T.frame _ _ h hn⟩
  . exact .inr h
structure Kp (K : PySem.W.Frag) (H H' : Hp) : Prop where
  t : ∀ a vs, SqT K H a vs -> SqT K H' a vs
  f : ∀ a vs, SqF K H a vs -> SqF K H' a vs
theorem Sim.kp (S : Sim K as m H) (T : Step as H as' H') : Kp K H H' := ⟨fun _ _ h => sqT_mono (fun _ z => S.isLst z) T h, fun _ _ h => sqF_mono (fun _ z => S.isLst z) T h⟩
theorem Kp.upd {D : Addr} {ys : List V} {o : HO} (h : H D = some (.lst ys)) : Kp K H (L2.upd H D o) := by
  refine ⟨fun a vs q => ?_, fun a vs q => ?_⟩
  . rcases q with (q | ⟨x, q⟩) | q
    . exact .inl (.inl (by rw [upd_ne (by rintro rfl; rw [h] at q; cases q)]; exact q))
    . exact .inl (.inr ⟨x, by rw [upd_ne (by rintro rfl; rw [h] at q; cases q)]; exact q⟩)
    . exact .inr q
  . rcases q with ⟨x, q⟩ | q
    . exact .inl ⟨x, by rw [upd_ne (by rintro rfl; rw [h] at q; cases q)]; exact q⟩
    . exact .inr q
mutual
theorem rep_mono (k : Kp K H H') (g : ∀ (l : Nat) (a : Addr), as[l]? = some a -> as'[l]? = some a) : ∀ (w : Wd) (v : V), Rep K as H w v -> Rep K as' H' w v
  | .non, _, h => by rw [Rep] at h ⊢; exact h
  | .bl _, _, h => by rw [Rep] at h ⊢; exact h
  | .int _, _, h => by rw [Rep] at h ⊢; exact h
  | .str _, _, h => by rw [Rep] at h ⊢; exact h
  | .tup xs, v, h => by
    rw [Rep] at h ⊢
    obtain ⟨a, vs, e, q, r⟩ := h
    exact ⟨a, vs, e, k.t _ _ q, repL_mono k g xs vs r⟩
  | .rol xs, v, h => by
    rw [Rep] at h ⊢
    obtain ⟨a, vs, e, q, r⟩ := h
    exact ⟨a, vs, e, k.f _ _ q, repL_mono k g xs vs r⟩
  | .ref l, v, h => by
    rw [Rep] at h ⊢
    obtain ⟨a, q, e⟩ := h
    exact ⟨a, g _ _ q, e⟩
theorem repL_mono (k : Kp K H H') (g : ∀ (l : Nat) (a : Addr), as[l]? = some a -> as'[l]? = some a) : ∀ (ws : List Wd) (vs : List V), RepL K as H ws vs -> RepL K as' H' ws vs
  | [], _, h => by rw [RepL] at h ⊢; exact h
  | x :: xs, vs, h => by
    rw [RepL] at h ⊢
    obtain ⟨v, r, e, q, t⟩ := h
    exact ⟨v, r, e, rep_mono k g x v q, repL_mono k g xs r t⟩
end
theorem Rep.mono {w : Wd} {v : V} (h : Rep K as H w v) (S : Sim K as m H) (T : Step as H as' H') : Rep K as' H' w v := rep_mono (S.kp T) (fun _ _ e => T.get e) w v h
theorem RepL.mono {ws : List Wd} {vs : List V} (h : RepL K as H ws vs) (S : Sim K as m H) (T : Step as H as' H') : RepL K as' H' ws vs := repL_mono (S.kp T) (fun _ _ e => T.get e) ws vs h
theorem RepL.kp {ws : List Wd} {vs : List V} (h : RepL K as H ws vs) (k : Kp K H H') : RepL K as H' ws vs := repL_mono k (fun _ _ e => e) ws vs h
theorem Rep.kp {w : Wd} {v : V} (h : Rep K as H w v) (k : Kp K H H') : Rep K as H' w v := rep_mono k (fun _ _ e => e) w v h
theorem rep_non {v : V} : Rep K as H .non v ↔ v = .non := by rw [Rep]
theorem rep_bl {b : Bool} {v : V} : Rep K as H (.bl b) v ↔ v = .bl b := by rw [Rep]
theorem rep_int {i : Int} {v : V} : Rep K as H (.int i) v ↔ v = .int i := by rw [Rep]
theorem rep_str {s : List Nat} {v : V} : Rep K as H (.str s) v ↔ v = .str ⟨s.toArray⟩ := by rw [Rep]
theorem rep_tup {xs : List Wd} {v : V} : Rep K as H (.tup xs) v ↔ ∃ a vs, v = .ref a /\ SqT K H a vs /\ RepL K as H xs vs := by rw [Rep]
theorem rep_rol {xs : List Wd} {v : V} : Rep K as H (.rol xs) v ↔ ∃ a vs, v = .ref a /\ SqF K H a vs /\ RepL K as H xs vs := by rw [Rep]
theorem rep_ref {l : Nat} {v : V} : Rep K as H (.ref l) v ↔ ∃ a, as[l]? = some a /\ v = .ref a := by rw [Rep]
theorem repL_nil {vs : List V} : RepL K as H [] vs ↔ vs = [] := by rw [RepL]
theorem repL_cons {x : Wd} {xs : List Wd} {vs : List V} : RepL K as H (x :: xs) vs ↔ ∃ v r, vs = v :: r /\ Rep K as H x v /\ RepL K as H xs r := by rw [RepL]
theorem RepL.length : ∀ {xs : List Wd} {vs : List V}, RepL K as H xs vs -> xs.length = vs.length
  | [], vs, h => by rw [repL_nil.mp h]; rfl
  | x :: xs, vs, h => by
    obtain ⟨v, r, rfl, _, t⟩ := repL_cons.mp h
    simp [RepL.length t]
theorem RepL.get : ∀ {xs : List Wd} {vs : List V} {i : Nat} {x : Wd}, RepL K as H xs vs -> xs[i]? = some x -> ∃ v, vs[i]? = some v /\ Rep K as H x v
  | [], _, _, _, _, e => by simp at e
  | x :: xs, vs, 0, y, h, e => by
    obtain ⟨v, r, rfl, q, t⟩ := repL_cons.mp h
    simp at e; subst e
    exact ⟨v, rfl, q⟩
  | x :: xs, vs, i + 1, y, h, e => by
    obtain ⟨v, r, rfl, q, t⟩ := repL_cons.mp h
    obtain ⟨u, h1, h2⟩ := RepL.get (i := i) (x := y) t (by simpa using e)
    exact ⟨u, by simpa using h1, h2⟩
theorem RepL.back : ∀ {xs : List Wd} {vs : List V} {i : Nat} {v : V}, RepL K as H xs vs -> vs[i]? = some v -> ∃ x, xs[i]? = some x /\ Rep K as H x v := fun {xs vs i v} h e => by
  have hi : i < xs.length := by rw [h.length]; exact (List.getElem?_eq_some_iff.mp e).1
  obtain ⟨u, h1, h2⟩ := h.get (i := i) (x := xs[i]) (by simp [hi])
  rw [e] at h1; cases h1
  exact ⟨xs[i], by simp [hi], h2⟩
theorem RepL.append : ∀ {xs ys : List Wd} {vs us : List V}, RepL K as H xs vs -> RepL K as H ys us -> RepL K as H (xs ++ ys) (vs ++ us)
  | [], ys, vs, us, h, h' => by rw [repL_nil.mp h]; exact h'
  | x :: xs, ys, vs, us, h, h' => by
    obtain ⟨v, r, rfl, q, t⟩ := repL_cons.mp h
    exact repL_cons.mpr ⟨v, r ++ us, rfl, q, t.append h'⟩
theorem RepL.one {x : Wd} {v : V} (h : Rep K as H x v) : RepL K as H [x] [v] := repL_cons.mpr ⟨v, [], rfl, h, repL_nil.mpr rfl⟩
theorem RepL.set : ∀ {xs : List Wd} {vs : List V} {x : Wd} {v : V} (i : Nat), RepL K as H xs vs -> Rep K as H x v -> RepL K as H (xs.set i x) (vs.set i v)
  | [], vs, _, _, _, h, _ => by rw [repL_nil.mp h]; exact repL_nil.mpr rfl
  | y :: xs, vs, x, v, 0, h, hx => by
    obtain ⟨u, r, rfl, q, t⟩ := repL_cons.mp h
    exact repL_cons.mpr ⟨v, r, rfl, hx, t⟩
  | y :: xs, vs, x, v, i + 1, h, hx => by
    obtain ⟨u, r, rfl, q, t⟩ := repL_cons.mp h
    exact repL_cons.mpr ⟨u, r.set i v, rfl, q, t.set i hx⟩
theorem RepL.take : ∀ {xs : List Wd} {vs : List V} (n : Nat), RepL K as H xs vs -> RepL K as H (xs.take n) (vs.take n)
  | _, _, 0, _ => repL_nil.mpr rfl
  | [], vs, n + 1, h => by rw [repL_nil.mp h]; exact repL_nil.mpr rfl
  | x :: xs, vs, n + 1, h => by
    obtain ⟨v, r, rfl, q, t⟩ := repL_cons.mp h
    exact repL_cons.mpr ⟨v, r.take n, rfl, q, t.take n⟩
theorem RepL.drop : ∀ {xs : List Wd} {vs : List V} (n : Nat), RepL K as H xs vs -> RepL K as H (xs.drop n) (vs.drop n)
  | _, _, 0, h => h
  | [], vs, n + 1, h => by rw [repL_nil.mp h]; exact repL_nil.mpr rfl
  | x :: xs, vs, n + 1, h => by
    obtain ⟨v, r, rfl, q, t⟩ := repL_cons.mp h
    exact t.drop n
theorem RepL.reverse : ∀ {xs : List Wd} {vs : List V}, RepL K as H xs vs -> RepL K as H xs.reverse vs.reverse
  | [], vs, h => by rw [repL_nil.mp h]; exact repL_nil.mpr rfl
  | x :: xs, vs, h => by
    obtain ⟨v, r, rfl, q, t⟩ := repL_cons.mp h
    rw [List.reverse_cons, List.reverse_cons]
    exact t.reverse.append (.one q)
theorem RepL.dropLast : ∀ {xs : List Wd} {vs : List V}, RepL K as H xs vs -> RepL K as H xs.dropLast vs.dropLast := fun {xs vs} h => by
  rw [List.dropLast_eq_take, List.dropLast_eq_take, h.length]
  exact h.take _
theorem RepL.rep {xs : List Wd} {vs : List V} (h : RepL K as H xs vs) : ∀ k : Nat, RepL K as H (List.replicate k xs).flatten (List.replicate k vs).flatten
  | 0 => repL_nil.mpr rfl
  | k + 1 => by
    rw [List.replicate_succ, List.replicate_succ, List.flatten_cons, List.flatten_cons]
    exact h.append (RepL.rep h k)
structure EnvRep (K : PySem.W.Frag) (as : List Addr) (H : Hp) (env : En) (σ : St) : Prop where
  len : env.length = σ.length
  get : ∀ (i : Nat) (w : Wd), env[i]? = some (some w) -> ∃ v, σ[i]? = some (some v) /\ Rep K as H w v
theorem EnvRep.mono {env : En} {σ : St} (G : EnvRep K as H env σ) (S : Sim K as m H) (T : Step as H as' H') : EnvRep K as' H' env σ :=
  ⟨G.len, fun i w e => let ⟨v, h1, h2⟩ := G.get i w e; ⟨v, h1, h2.mono S T⟩⟩
theorem EnvRep.kp {env : En} {σ : St} (G : EnvRep K as H env σ) (k : Kp K H H') : EnvRep K as H' env σ :=
  ⟨G.len, fun i w e => let ⟨v, h1, h2⟩ := G.get i w e; ⟨v, h1, h2.kp k⟩⟩
theorem EnvRep.set {env : En} {σ : St} (G : EnvRep K as H env σ) {w : Wd} {v : V} (h : Rep K as H w v) (i : Nat) : EnvRep K as H (env.set i (some w)) (σ.set i (some v)) := by
  refine ⟨by simp [G.len], fun j x e => ?_⟩
  by_cases hj : j = i
  . subst hj
    have hl : j < env.length := by
      have := (List.getElem?_eq_some_iff.mp e).1
      simpa using this
    rw [List.getElem?_set_self hl] at e
    cases e
    exact ⟨v, List.getElem?_set_self (by rw [<- G.len]; exact hl), h⟩
  . rw [List.getElem?_set_ne (Ne.symm hj)] at e
    obtain ⟨u, h1, h2⟩ := G.get j x e
    exact ⟨u, by rw [List.getElem?_set_ne (Ne.symm hj)]; exact h1, h2⟩
theorem EnvRep.push {env : En} {σ : St} (G : EnvRep K as H env σ) {w : Wd} {v : V} (h : Rep K as H w v) : EnvRep K as H (env ++ [some w]) (σ ++ [some v]) := by
  refine ⟨by simp [G.len], fun j x e => ?_⟩
  by_cases hj : j < env.length
  . rw [List.getElem?_append_left hj] at e
    obtain ⟨u, h1, h2⟩ := G.get j x e
    exact ⟨u, by rw [List.getElem?_append_left (by rw [<- G.len]; exact hj)]; exact h1, h2⟩
  . rw [List.getElem?_append_right (by omega)] at e
    have hz : j - env.length = 0 := by
      cases hq : j - env.length with
      | zero => rfl
      | succ k => rw [hq] at e; simp at e
    rw [hz] at e
    simp at e
    subst e
    refine ⟨v, ?_, h⟩
    rw [List.getElem?_append_right (by rw [<- G.len]; omega), <- G.len, hz]
    rfl
def Post (K : PySem.W.Frag) (as : List Addr) (H : Hp) (Q : VK) (r : Rz) : Prop := match r with
  | .ok w m' => ∀ as' H' v, Step as H as' H' -> Sim K as' m' H' -> Rep K as' H' w v -> Q v H'
  | _ => False
theorem Post.step {Q : VK} {r : Rz} (h : Post K as H Q r) (T : Step as H as' H') : Post K as' H' Q r := by
  cases r with
  | ok w m' => exact fun as2 H2 v U S R => h as2 H2 v (T.trans U) S R
  | exc c w m' => exact h
  | no => exact h
theorem Post.bind {Q Q1 : VK} {r : Rz} {f : Wd -> Me -> Rz} (h : Post K as H Q (r.bind f))
    (k : ∀ w m' as' H' v, Step as H as' H' -> Sim K as' m' H' -> Rep K as' H' w v -> Post K as' H' Q (f w m') -> Q1 v H') : Post K as H Q1 r := by
  cases r with
  | ok w m' => exact fun as2 H2 v U S R => k w m' as2 H2 v U S R (Post.step (r := f w m') h U)
  | exc c w m' => exact h
  | no => exact h
theorem Post.bindAt {Q Q1 : VK} {r : Rz} {f : Wd -> Me -> Rz} (h : Post K as H Q (r.bind f)) (T : Step as H as' H')
    (k : ∀ w m2 as2 H2 v, Step as' H' as2 H2 -> Sim K as2 m2 H2 -> Rep K as2 H2 w v -> Post K as H Q (f w m2) -> Q1 v H2) : Post K as' H' Q1 r := by
  cases r with
  | ok w m' => exact fun as2 H2 v U S R => k w m' as2 H2 v U S R h
  | exc c w m' => exact h
  | no => exact h
def tOf (K : PySem.W.Frag) (g : En -> Me -> Rz) : TE := fun σ H Q => ∃ as env m, Sim K as m H /\ EnvRep K as H env σ /\ Post K as H Q (g env m)
def tOfT (K : PySem.W.Frag) (g : En -> Me -> Rz) : TT := fun σ H Q => tOf K g σ H fun v H' => ∃ b, v = .bl b /\ Q b H'
theorem Post.ok {Q : VK} {w : Wd} {v : V} (h : Post K as H Q (.ok w m)) (S : Sim K as m H) (R : Rep K as H w v) : Q v H := h as H v .refl S R
end
theorem PE.imp {X : Cx} {e : Expr} {t t' : TE} (h : PE X e t) (k : ∀ σ H Q, t' σ H Q -> t σ H Q) : PE X e t' := fun pins s σ H Q I q => h pins s σ H Q I (k σ H Q q)
theorem PT.imp {X : Cx} {e : Expr} {t t' : TT} (h : PT X e t) (k : ∀ σ H Q, t' σ H Q -> t σ H Q) : PT X e t' := fun pins s σ H Q I q => h pins s σ H Q I (k σ H Q q)
theorem PA.imp {X : Cx} {es : List Expr} {t t' : TA} (h : PA X es t) (k : ∀ σ H Q, t' σ H Q -> t σ H Q) : PA X es t' := fun pos pins s σ H Q I q => h pos pins s σ H Q I (k σ H Q q)
theorem PS.imp {X : Cx} {st : Stmt} {t t' : TS} (h : PS X st t) (k : ∀ D σ H, t' D σ H -> t D σ H) : PS X st t' := fun pins s σ H D I q => h pins s σ H D I (k D σ H q)
theorem PSs.imp {X : Cx} {st : List Stmt} {t t' : TS} (h : PSs X st t) (k : ∀ D σ H, t' D σ H -> t D σ H) : PSs X st t' := fun pins s σ H D I q => h pins s σ H D I (k D σ H q)
end Mini
namespace Mini
open PySem PySem.Spec PyProof.Rows L2
section
variable {K : PySem.W.Frag} {as as' : List Addr} {H H' : Hp} {m m' : Me} {Q : VK} {a p : Addr} {l : Nat} {ws xs : List Wd} {vs us : List V}
theorem lim_line : lim <= sizeLine := by rw [sizeLine_eq]; decide
theorem Sim.new (S : Sim K as m H) (hp : H p = none) : p ∉ as := fun z => by
  obtain ⟨us, e⟩ := S.isLst z
  rw [hp] at e; cases e
theorem Sim.alloc (S : Sim K as m H) (hp : H p = none) (R : RepL K as H ws vs) : Step as H (as ++ [p]) (upd H p (.lst vs)) /\ Sim K (as ++ [p]) (m ++ [.lst ws]) (upd H p (.lst vs)) := by
  have hn := S.new hp
  have T : Step as H (as ++ [p]) (upd H p (.lst vs)) := ⟨⟨[p], rfl⟩, fun b o h _ => by rw [upd_ne (ne_of_none h hp)]; exact h, fun b hb => by
    rcases List.mem_append.mp hb with z | z
    . exact .inl z
    . exact .inr (by rw [List.mem_singleton.mp z]; exact hp)⟩
  refine ⟨T, ⟨by simp [S.len], ?_, fun l b o h1 h2 => ?_⟩⟩
  . refine List.nodup_append.mpr ⟨S.nd, by simp, fun x hx y hy => ?_⟩
    rw [List.mem_singleton.mp hy]
    rintro rfl
    exact hn hx
  . by_cases hl : l < as.length
    . rw [List.getElem?_append_left hl] at h1
      rw [List.getElem?_append_left (by rw [<- S.len]; exact hl)] at h2
      have q := S.obj l b o h1 h2
      cases o with
      | lst ys =>
        obtain ⟨zs, e, r⟩ := q
        exact ⟨zs, by rw [upd_ne (ne_of_none e hp)]; exact e, r.mono S T⟩
      | dct kvs => exact q.elim
    . rw [List.getElem?_append_right (by omega)] at h1
      rw [List.getElem?_append_right (by rw [<- S.len]; omega)] at h2
      have hz : l - as.length = 0 := by
        cases hq : l - as.length with
        | zero => rfl
        | succ k => rw [hq] at h1; simp at h1
      rw [hz] at h1
      rw [<- S.len, hz] at h2
      simp at h1 h2
      subst h1; subst h2
      exact ⟨vs, upd_same, R.mono S T⟩
theorem Sim.set (S : Sim K as m H) (ha : as[l]? = some a) (hm : m[l]? = some (.lst xs)) (R : RepL K as H ws vs) : Step as H as (upd H a (.lst vs)) /\ Sim K as (m.set l (.lst ws)) (upd H a (.lst vs)) := by
  have hin : a ∈ as := List.mem_of_getElem? ha
  have T : Step as H as (upd H a (.lst vs)) := ⟨⟨[], by simp⟩, fun b o h hb => by
    rw [upd_ne (by rintro rfl; exact hb hin)]; exact h, fun b hb => .inl hb⟩
  refine ⟨T, ⟨by simp [S.len], S.nd, fun k b o h1 h2 => ?_⟩⟩
  by_cases hk : k = l
  . subst hk
    rw [ha] at h1; cases h1
    rw [List.getElem?_set_self (List.getElem?_eq_some_iff.mp hm).1] at h2
    cases h2
    exact ⟨vs, upd_same, R.mono S T⟩
  . rw [List.getElem?_set_ne (Ne.symm hk)] at h2
    have q := S.obj k b o h1 h2
    have hb : b ≠ a := by
      rintro rfl
      obtain ⟨i1, e1⟩ := List.getElem?_eq_some_iff.mp h1
      obtain ⟨i2, e2⟩ := List.getElem?_eq_some_iff.mp ha
      exact hk ((List.getElem_inj S.nd).mp (e1.trans e2.symm))
    cases o with
    | lst ys =>
      obtain ⟨zs, e, r⟩ := q
      exact ⟨zs, by rw [upd_ne hb]; exact e, r.mono S T⟩
    | dct kvs => exact q.elim
theorem Sim.keep (S : Sim K as m H) (T : Step as H as H') (hk : ∀ a ∈ as, ∀ o, H a = some o -> H' a = some o) : Sim K as m H' := by
  refine ⟨S.len, S.nd, fun l b o h1 h2 => ?_⟩
  have q := S.obj l b o h1 h2
  cases o with
  | lst ys =>
    obtain ⟨zs, e, r⟩ := q
    exact ⟨zs, hk b (List.mem_of_getElem? h1) _ e, r.mono S T⟩
  | dct kvs => exact q.elim
theorem Sim.tup (S : Sim K as m H) (hp : H p = none) (R : RepL K as H ws vs) : Step as H as (upd H p (.tup vs)) /\ Sim K as m (upd H p (.tup vs)) /\ Rep K as (upd H p (.tup vs)) (.tup ws) (.ref p) := by
  have T : Step as H as (upd H p (.tup vs)) := ⟨⟨[], by simp⟩, fun b o h _ => by rw [upd_ne (ne_of_none h hp)]; exact h, fun b hb => .inl hb⟩
  exact ⟨T, S.keep T fun b _ o e => by rw [upd_ne (ne_of_none e hp)]; exact e, rep_tup.mpr ⟨p, vs, rfl, SqT.of upd_same, R.mono S T⟩⟩
theorem alloc_ok (S : Sim K as m H) (R : RepL K as H ws vs) (h : Post K as H Q (alloc m ws)) : vs.length <= lim /\ ∀ p, H p = none -> Q (.ref p) (upd H p (.lst vs)) := by
  unfold Mini.alloc at h
  by_cases hl : ws.length <= lim
  . rw [if_pos hl] at h
    refine ⟨by rw [<- R.length]; exact hl, fun p hp => ?_⟩
    obtain ⟨T, S'⟩ := S.alloc hp R
    refine h _ _ _ T S' (rep_ref.mpr ⟨p, ?_, rfl⟩)
    rw [<- S.len, List.getElem?_append_right (Nat.le_refl _)]
    simp
  . rw [if_neg hl] at h; exact h.elim
theorem lst_of (S : Sim K as m H) (hm : m[l]? = some (.lst xs)) : ∃ a vs, as[l]? = some a /\ H a = some (.lst vs) /\ RepL K as H xs vs := by
  obtain ⟨a, ha, vs, e, r⟩ := S.get hm
  exact ⟨a, vs, ha, e, r⟩
theorem lstAt_some {xs : List Wd} (h : lstAt m l = some xs) : m[l]? = some (.lst xs) := by
  unfold lstAt at h
  cases e : m[l]? with
  | none => rw [e] at h; cases h
  | some o => cases o with
    | lst ys => rw [e] at h; cases h; rfl
    | dct kvs => rw [e] at h; cases h
theorem seq_of (S : Sim K as m H) {w : Wd} {v : V} (R : Rep K as H w v) (h : seqOf m w = some xs) : ∃ p vs, v = .ref p /\ (SqL K H p vs \/ SqT K H p vs) /\ RepL K as H xs vs := by
  cases w with
  | tup ys =>
    cases h
    obtain ⟨b, vs, rfl, q, r⟩ := rep_tup.mp R
    exact ⟨b, vs, rfl, .inr q, r⟩
  | rol ys =>
    cases h
    obtain ⟨b, vs, rfl, q, r⟩ := rep_rol.mp R
    exact ⟨b, vs, rfl, .inl q.sq, r⟩
  | ref l =>
    obtain ⟨b, hb, rfl⟩ := rep_ref.mp R
    obtain ⟨a, vs, ha, e, r⟩ := lst_of S (lstAt_some h)
    rw [hb] at ha; cases ha
    exact ⟨b, vs, rfl, .inl (SqL.of e), r⟩
  | non => cases h
  | bl b => cases h
  | int i => cases h
  | str s => cases h
def opK : Bo -> Operator
  | .add => .Add | .sub => .Sub | .mul => .Mult | .fdiv => .FloorDiv | .mod => .Mod | .pow => .Pow
def rB (K : PySem.W.Frag) : Bo -> R2
  | .add => fun x y H Q => rI0 (fun i j => .int (i + j)) x y H Q \/ (rCat x y H Q \/ rCatT K x y H Q)
  | .sub => rI0 fun i j => .int (i - j)
  | .mul => fun x y H Q => rI CMul (fun i j => .int (i * j)) x y H Q \/ rRep x y H Q
  | .fdiv => rI CDiv fun i j => .int (i / j)
  | .mod => rI (fun _ j => 0 < j) fun i j => .int (i % j)
  | .pow => rI CPow fun i j => .int (i ^ j.toNat)
theorem op_rB {X : Cx} (op : Bo) : OpR X (binaryOp (opK op)) (rB X.K op) := by
  cases op with
  | add => exact op_add.or (op_cat.or op_catT)
  | sub => exact op_sub
  | mul => exact op_mul.or op_rep
  | fdiv => exact op_fdiv
  | mod => exact op_mod
  | pow => exact op_pow
theorem small_iff {i : Int} (h : small i = true) : -(2 ^ 64) < i /\ i < 2 ^ 64 := by
  unfold small big at h
  rw [Bool.and_eq_true, decide_eq_true_iff, decide_eq_true_iff] at h
  omega
theorem post_if {c : Prop} [Decidable c] {r : Rz} (h : Post K as H Q (if c then r else .no)) : c /\ Post K as H Q r := by
  by_cases hc : c
  . rw [if_pos hc] at h; exact ⟨hc, h⟩
  . rw [if_neg hc] at h; exact h.elim
theorem cat_inv {a b : Nat} (h : Post K as H Q (bop .add (.ref a) (.ref b) m)) : ∃ xs ys, m[a]? = some (.lst xs) /\ m[b]? = some (.lst ys) /\ Post K as H Q (alloc m (xs ++ ys)) := by
  unfold bop at h
  dsimp only at h
  generalize m[a]? = p at h ⊢
  generalize m[b]? = q at h ⊢
  cases p with
  | none => exact h.elim
  | some o =>
    cases o with
    | dct kvs => exact h.elim
    | lst xs =>
      cases q with
      | none => exact h.elim
      | some o =>
        cases o with
        | dct kvs => exact h.elim
        | lst ys => exact ⟨xs, ys, rfl, rfl, h⟩
theorem rep_inv {a : Nat} {k : Int} (h : Post K as H Q (bop .mul (.ref a) (.int k) m)) : ∃ xs, m[a]? = some (.lst xs) /\ Post K as H Q (if -lim <= k /\ k <= lim then alloc m (List.replicate k.toNat xs).flatten else .no) := by
  unfold bop at h
  dsimp only at h
  generalize m[a]? = p at h ⊢
  cases p with
  | none => exact h.elim
  | some o =>
    cases o with
    | dct kvs => exact h.elim
    | lst xs => exact ⟨xs, rfl, h⟩
theorem bop_ok {op : Bo} {x y : Wd} {v u : V} (S : Sim K as m H) (Rx : Rep K as H x v) (Ry : Rep K as H y u) (h : Post K as H Q (bop op x y m)) : rB K op v u H Q := by
  cases x with
  | int i =>
    cases y with
    | int j =>
      obtain rfl := rep_int.mp Rx
      obtain rfl := rep_int.mp Ry
      cases op with
      | add => exact .inl ⟨i, j, rfl, rfl, h.ok S (rep_int.mpr rfl)⟩
      | sub => exact ⟨i, j, rfl, rfl, h.ok S (rep_int.mpr rfl)⟩
      | mul =>
        obtain ⟨hs, h⟩ := post_if h
        refine .inl ⟨i, j, rfl, rfl, ?_, h.ok S (rep_int.mpr rfl)⟩
        rcases Bool.or_eq_true_iff.mp hs with q | q
        . exact .inl (small_iff q)
        . exact .inr (small_iff q)
      | fdiv =>
        obtain ⟨hs, h⟩ := post_if h
        exact ⟨i, j, rfl, rfl, hs, h.ok S (rep_int.mpr rfl)⟩
      | mod =>
        obtain ⟨hs, h⟩ := post_if h
        exact ⟨i, j, rfl, rfl, hs, h.ok S (rep_int.mpr rfl)⟩
      | pow =>
        obtain ⟨⟨h1, h2, h3⟩, h⟩ := post_if h
        have h4 := small_iff h3
        exact ⟨i, j, rfl, rfl, ⟨h1, h2, by omega⟩, h.ok S (rep_int.mpr rfl)⟩
    | _ => exact h.elim
  | ref a =>
    obtain ⟨pa, ha, rfl⟩ := rep_ref.mp Rx
    cases y with
    | ref b =>
      obtain ⟨pb, hb, rfl⟩ := rep_ref.mp Ry
      cases op with
      | add =>
        obtain ⟨xs, ys, e1, e2, h⟩ := cat_inv h
        obtain ⟨pa', va, ha', ea, ra⟩ := lst_of S e1
        rw [ha] at ha'; cases ha'
        obtain ⟨pb', vb, hb', eb, rb⟩ := lst_of S e2
        rw [hb] at hb'; cases hb'
        obtain ⟨hl, q⟩ := alloc_ok S (ra.append rb) h
        rw [List.length_append] at hl
        exact .inr (.inl ⟨pa, pb, va, vb, rfl, rfl, ea, eb, Nat.le_trans hl lim_line, q⟩)
      | _ => exact h.elim
    | int k =>
      obtain rfl := rep_int.mp Ry
      cases op with
      | mul =>
        obtain ⟨xs, e1, h⟩ := rep_inv h
        obtain ⟨hk, h⟩ := post_if h
        obtain ⟨pa', va, ha', ea, ra⟩ := lst_of S e1
        rw [ha] at ha'; cases ha'
        obtain ⟨hl, q⟩ := alloc_ok S (ra.rep k.toNat) h
        rw [len_rep] at hl
        have hlim : (lim : Int) = 100000 := rfl
        exact .inr ⟨pa, k, va, rfl, rfl, ea, by omega, by omega, by rw [Nat.mul_comm]; exact Nat.le_trans hl lim_line, q⟩
      | _ => exact h.elim
    | _ => exact h.elim
  | tup xs =>
    cases y with
    | tup ys =>
      cases op with
      | add =>
        obtain ⟨hc, h⟩ := post_if h
        obtain ⟨pa, va, rfl, qa, ra⟩ := rep_tup.mp Rx
        obtain ⟨pb, vb, rfl, qb, rb⟩ := rep_tup.mp Ry
        have la := ra.length
        have lb := rb.length
        refine .inr (.inr ⟨pa, pb, va, vb, rfl, rfl, qa, qb, ?_, ?_, fun e => ?_, fun e p hp => ?_⟩)
        . rintro rfl
          cases xs with
          | nil => simp at hc
          | cons x xs => simp at la
        . rw [<- la, <- lb]; exact Nat.le_trans hc.1 lim_line
        . subst e
          obtain rfl : ys = [] := by
            cases ys with
            | nil => rfl
            | cons y ys => simp at lb
          refine h.ok S (rep_tup.mpr ⟨pa, va, rfl, qa, ?_⟩)
          rw [List.append_nil]; exact ra
        . obtain ⟨T, S', R'⟩ := S.tup hp (ra.append rb)
          exact h _ _ _ T S' R'
      | _ => exact h.elim
    | _ => exact h.elim
  | _ => exact h.elim
end
end Mini
namespace Mini
open PySem PySem.Spec PyProof.Rows L2
open PySem.SeqAt
section
variable {X : Cx} {pins : List (Addr × Obj)} {σ : St} {s : Shared} {as : List Addr} {H : Hp} {m : Me}
theorem not_both {a : Addr} {xs ys : List V} (I : Inv X pins σ H s) (h1 : SqT X.K H a xs) (h2 : SqL X.K H a ys) : False := by
  obtain ⟨its, _, p, _⟩ := I.tuple h1
  obtain ⟨its', _, q, _⟩ := I.list h2
  exact ne_of_list_tuple q.isList (show s.heap.IsTuple a its.toArray from p) rfl
theorem not_known {a : Addr} {xs : List V} {u : HO} (I : Inv X pins σ H s) (h1 : KL X.K a xs) (h2 : H a = some u) : False := by
  obtain ⟨o, _, _, hk, _⟩ := h1
  have := (I.bs a o (I.ok.mod.kin a o hk)).2
  rw [this] at h2; cases h2
mutual
theorem rep_inj (I : Inv X pins σ H s) (S : Sim X.K as m H) : ∀ (w w' : Wd) (v : V), Rep X.K as H w v -> Rep X.K as H w' v -> w = w'
  | .non, w', v, h, h' => by
    obtain rfl := rep_non.mp h
    cases w' with
    | non => rfl
    | bl b => cases rep_bl.mp h'
    | int i => cases rep_int.mp h'
    | str x => cases rep_str.mp h'
    | tup xs => obtain ⟨_, _, e, _⟩ := rep_tup.mp h'; cases e
    | rol xs => obtain ⟨_, _, e, _⟩ := rep_rol.mp h'; cases e
    | ref l => obtain ⟨_, _, e⟩ := rep_ref.mp h'; cases e
  | .bl c, w', v, h, h' => by
    obtain rfl := rep_bl.mp h
    cases w' with
    | non => cases rep_non.mp h'
    | bl b => cases rep_bl.mp h'; rfl
    | int i => cases rep_int.mp h'
    | str x => cases rep_str.mp h'
    | tup xs => obtain ⟨_, _, e, _⟩ := rep_tup.mp h'; cases e
    | rol xs => obtain ⟨_, _, e, _⟩ := rep_rol.mp h'; cases e
    | ref l => obtain ⟨_, _, e⟩ := rep_ref.mp h'; cases e
  | .int c, w', v, h, h' => by
    obtain rfl := rep_int.mp h
    cases w' with
    | non => cases rep_non.mp h'
    | bl b => cases rep_bl.mp h'
    | int i => cases rep_int.mp h'; rfl
    | str x => cases rep_str.mp h'
    | tup xs => obtain ⟨_, _, e, _⟩ := rep_tup.mp h'; cases e
    | rol xs => obtain ⟨_, _, e, _⟩ := rep_rol.mp h'; cases e
    | ref l => obtain ⟨_, _, e⟩ := rep_ref.mp h'; cases e
  | .str c, w', v, h, h' => by
    obtain rfl := rep_str.mp h
    cases w' with
    | non => cases rep_non.mp h'
    | bl b => cases rep_bl.mp h'
    | int i => cases rep_int.mp h'
    | str x =>
      have e := rep_str.mp h'
      injection e with e
      injection e with e
      have : c = x := by simpa using congrArg Array.toList e
      rw [this]
    | tup xs => obtain ⟨_, _, e, _⟩ := rep_tup.mp h'; cases e
    | rol xs => obtain ⟨_, _, e, _⟩ := rep_rol.mp h'; cases e
    | ref l => obtain ⟨_, _, e⟩ := rep_ref.mp h'; cases e
  | .tup xs, w', v, h, h' => by
    obtain ⟨a, vs, rfl, q, r⟩ := rep_tup.mp h
    cases w' with
    | non => cases rep_non.mp h'
    | bl b => cases rep_bl.mp h'
    | int i => cases rep_int.mp h'
    | str x => cases rep_str.mp h'
    | tup ys =>
      obtain ⟨b, us, e, q', r'⟩ := rep_tup.mp h'
      cases e
      obtain rfl := I.tuple_inj q q'
      rw [repL_inj I S xs ys vs r r']
    | rol ys =>
      obtain ⟨b, us, e, q', r'⟩ := rep_rol.mp h'
      cases e
      exact (not_both I q q'.sq).elim
    | ref l =>
      obtain ⟨b, hb, e⟩ := rep_ref.mp h'
      cases e
      obtain ⟨us, e2⟩ := S.isLst (List.mem_of_getElem? hb)
      exact (not_both I q (SqL.of e2)).elim
  | .rol xs, w', v, h, h' => by
    obtain ⟨a, vs, rfl, q, r⟩ := rep_rol.mp h
    cases w' with
    | non => cases rep_non.mp h'
    | bl b => cases rep_bl.mp h'
    | int i => cases rep_int.mp h'
    | str x => cases rep_str.mp h'
    | tup ys =>
      obtain ⟨b, us, e, q', r'⟩ := rep_tup.mp h'
      cases e
      exact (not_both I q' q.sq).elim
    | rol ys =>
      obtain ⟨b, us, e, q', r'⟩ := rep_rol.mp h'
      cases e
      obtain rfl := I.list_inj q.sq q'.sq
      rw [repL_inj I S xs ys vs r r']
    | ref l =>
      obtain ⟨b, hb, e⟩ := rep_ref.mp h'
      cases e
      obtain ⟨us, e2⟩ := S.isLst (List.mem_of_getElem? hb)
      rcases q with ⟨o, q⟩ | q
      . rw [e2] at q; cases q
      . exact (not_known I q e2).elim
  | .ref l, w', v, h, h' => by
    obtain ⟨a, ha, rfl⟩ := rep_ref.mp h
    obtain ⟨us, e2⟩ := S.isLst (List.mem_of_getElem? ha)
    cases w' with
    | non => cases rep_non.mp h'
    | bl b => cases rep_bl.mp h'
    | int i => cases rep_int.mp h'
    | str x => cases rep_str.mp h'
    | tup ys =>
      obtain ⟨b, us, e, q', r'⟩ := rep_tup.mp h'
      cases e
      exact (not_both I q' (SqL.of e2)).elim
    | rol ys =>
      obtain ⟨b, us, e, q', r'⟩ := rep_rol.mp h'
      cases e
      rcases q' with ⟨o, q'⟩ | q'
      . rw [e2] at q'; cases q'
      . exact (not_known I q' e2).elim
    | ref l' =>
      obtain ⟨b, hb, e⟩ := rep_ref.mp h'
      cases e
      obtain ⟨i1, e1⟩ := List.getElem?_eq_some_iff.mp ha
      obtain ⟨i2, e2⟩ := List.getElem?_eq_some_iff.mp hb
      rw [(List.getElem_inj S.nd).mp (e1.trans e2.symm)]
theorem repL_inj (I : Inv X pins σ H s) (S : Sim X.K as m H) : ∀ (xs ys : List Wd) (vs : List V), RepL X.K as H xs vs -> RepL X.K as H ys vs -> xs = ys
  | [], ys, vs, h, h' => by
    obtain rfl := repL_nil.mp h
    cases ys with
    | nil => rfl
    | cons y ys => obtain ⟨_, _, e, _⟩ := repL_cons.mp h'; cases e
  | x :: xs, ys, vs, h, h' => by
    obtain ⟨v, r, rfl, q, t⟩ := repL_cons.mp h
    cases ys with
    | nil => cases repL_nil.mp h'
    | cons y ys =>
      obtain ⟨v', r', e, q', t'⟩ := repL_cons.mp h'
      cases e
      rw [rep_inj I S x y v q q', repL_inj I S xs ys r t t']
end
theorem eqL_all {p : Wd -> Wd -> Option Bool} : ∀ {xs ys : List Wd} {r : Bool}, eqL p xs ys = some r ->
    ∃ f : Nat -> Bool, (∀ j x y, xs[j]? = some x -> ys[j]? = some y -> p x y = some (f j)) /\ r = (List.range (min xs.length ys.length)).all f
  | [], ys, r, h => by
    unfold eqL at h
    cases h
    exact ⟨fun _ => true, fun j x y e => by simp at e, by simp⟩
  | _ :: _, [], r, h => by
    unfold eqL at h
    cases h
    exact ⟨fun _ => true, fun j x y _ e => by simp at e, by simp⟩
  | x :: xs, y :: ys, r, h => by
    unfold eqL at h
    cases hp : p x y with
    | none => rw [hp] at h; cases h
    | some b =>
      rw [hp] at h
      simp only [] at h
      cases hr : eqL p xs ys with
      | none => rw [hr] at h; cases h
      | some r' =>
        rw [hr] at h
        cases h
        obtain ⟨f, hf, e⟩ := eqL_all (xs := xs) (ys := ys) hr
        refine ⟨fun j => match j with | 0 => b | j + 1 => f j, fun j x' y' e1 e2 => ?_, ?_⟩
        . cases j with
          | zero => simp at e1 e2; subst e1; subst e2; exact hp
          | succ j => exact hf j x' y' (by simpa using e1) (by simpa using e2)
        . rw [List.length_cons, List.length_cons, Nat.succ_min_succ, List.range_succ_eq_map, List.all_cons, List.all_map, e]
          rfl
theorem eqW_same : ∀ (k : Nat) (w : Wd) (r : Bool), eqW m k w w = some r -> r = true
  | 0, w, r, h => by cases h
  | k + 1, w, r, h => by
    cases w with
    | non => cases h; rfl
    | bl b => cases h; simp
    | int i => cases h; simp
    | str x => cases h; simp
    | tup xs =>
      replace h : (eqL (eqW m k) xs xs).map (· && decide (xs.length = xs.length)) = some r := h
      cases hr : eqL (eqW m k) xs xs with
      | none => rw [hr] at h; cases h
      | some r' =>
        rw [hr] at h
        simp only [Option.map_some, decide_true, Bool.and_true] at h
        cases h
        obtain ⟨f, hf, rfl⟩ := eqL_all hr
        rw [List.all_eq_true]
        intro j hj
        have hj' : j < xs.length := by simpa using hj
        exact eqW_same k xs[j] (f j) (hf j xs[j] xs[j] (by simp [hj']) (by simp [hj']))
    | rol xs => cases h
    | ref l =>
      replace h : (if l = l then (if isLst m l then some true else none) else match m[l]?, m[l]? with
        | some (.lst xs), some (.lst ys) => if xs.length = ys.length then eqL (eqW m k) xs ys else some false
        | _, _ => none) = some r := h
      simp only [if_true] at h
      split at h
      . cases h; rfl
      . cases h
structure Eqs (A : Around) (s : Shared) (u u' : Value) (r : Bool) : Prop where
  it : EqAt A s u u' r
  eq : RcAt A s u u' r
  ne : RcNeAt A s u u' (!r)
theorem isLst_of (S : Sim X.K as m H) (I : Inv X pins σ H s) {l : Nat} {v : V} {u : Value} (h : isLst m l = true) (R : Rep X.K as H (.ref l) v) (ru : RelV v u) : ∃ b its, u = .ref b /\ s.heap.IsList b its := by
  unfold isLst at h
  cases e : m[l]? with
  | none => rw [e] at h; cases h
  | some o =>
    cases o with
    | dct kvs => rw [e] at h; cases h
    | lst xs =>
      obtain ⟨b, hb, rfl⟩ := rep_ref.mp R
      obtain ⟨a, vs, ha, ea, ra⟩ := lst_of S e
      rw [hb] at ha; cases ha
      obtain rfl : u = .ref b := ru
      obtain ⟨its, _, p, _⟩ := I.list (SqL.of ea)
      exact ⟨b, _, rfl, p.isList⟩
theorem tup_of (I : Inv X pins σ H s) {xs : List Wd} {v : V} {u : Value} (R : Rep X.K as H (.tup xs) v) (ru : RelV v u) : ∃ b vs its, v = .ref b /\ u = .ref b /\ RepL X.K as H xs vs /\ Vals vs its /\ s.heap.IsTuple b its.toArray := by
  obtain ⟨b, vs, rfl, q, r⟩ := rep_tup.mp R
  obtain rfl : u = .ref b := ru
  obtain ⟨its, rv, p, _⟩ := I.tuple q
  exact ⟨b, vs, its, rfl, rfl, r, rv, p⟩
theorem eq_at (I : Inv X pins σ H s) (S : Sim X.K as m H) : ∀ (k : Nat) (A : Around) (w w' : Wd) (v v' : V) (u u' : Value) (r : Bool), A.units + k < cLine -> eqW m k w w' = some r ->
    Rep X.K as H w v -> Rep X.K as H w' v' -> RelV v u -> RelV v' u' -> Eqs A s u u' r
  | 0, _, _, _, _, _, _, _, _, _, h, _, _, _, _ => by cases h
  | k + 1, A, w, w', v, v', u, u', r, hu, h, R, R', ru, ru' => by
    have hu0 : A.units < cLine := by omega
    have hu1 : A.in1.units + k < cLine := by show A.units + 1 + k < cLine; omega
    -- items, pair by pair
    have pairs : ∀ {xs ys : List Wd} {vs us : List V} {its its' : List Value} {r : Bool}, RepL X.K as H xs vs -> RepL X.K as H ys us -> Vals vs its -> Vals us its' -> eqL (eqW m k) xs ys = some r ->
        ∃ f : Nat -> Bool, (∀ j (h1 : j < its.toArray.size) (h2 : j < its'.toArray.size), EqAt A.in1 s its.toArray[j] its'.toArray[j] (f j)) /\ r = (List.range (min its.toArray.size its'.toArray.size)).all f /\ its.toArray.size = xs.length /\ its'.toArray.size = ys.length := by
      intro xs ys vs us its its' r r1 r2 rv rv' he
      obtain ⟨f, hf, e⟩ := eqL_all he
      have l1 := r1.length
      have l2 := r2.length
      have l3 := rv.length
      have l4 := rv'.length
      have s1 : its.toArray.size = xs.length := by simp; omega
      have s2 : its'.toArray.size = ys.length := by simp; omega
      refine ⟨f, fun j h1 h2 => ?_, by rw [e, s1, s2], s1, s2⟩
      have hj : j < xs.length := by omega
      have hj2 : j < ys.length := by omega
      obtain ⟨v1, e1, q1⟩ := r1.get (i := j) (x := xs[j]) (by simp [hj])
      obtain ⟨v2, e2, q2⟩ := r2.get (i := j) (x := ys[j]) (by simp [hj2])
      obtain ⟨u1, e3, q3⟩ := rv.get e1
      obtain ⟨u2, e4, q4⟩ := rv'.get e2
      have z := eq_at I S k A.in1 xs[j] ys[j] v1 v2 u1 u2 (f j) hu1 (hf j _ _ (by simp [hj]) (by simp [hj2])) q1 q2 q3 q4
      obtain ⟨_, e5⟩ := List.getElem?_eq_some_iff.mp e3
      obtain ⟨_, e6⟩ := List.getElem?_eq_some_iff.mp e4
      have g1 : its.toArray[j] = u1 := by simpa using e5
      have g2 : its'.toArray[j] = u2 := by simpa using e6
      rw [g1, g2]
      exact z.it
    cases w with
    | tup xs =>
      obtain ⟨b, vs, its, rfl, rfl, r1, rv, p⟩ := tup_of I R ru
      cases w' with
      | tup ys =>
        obtain ⟨b', vs', its', rfl, rfl, r1', rv', p'⟩ := tup_of I R' ru'
        have rc : RcAt A s (.ref b) (.ref b') r /\ RcNeAt A s (.ref b) (.ref b') (!r) := by
          replace h : (eqL (eqW m k) xs ys).map (· && decide (xs.length = ys.length)) = some r := h
          cases hr : eqL (eqW m k) xs ys with
          | none => rw [hr] at h; cases h
          | some r' =>
            rw [hr] at h
            simp only [Option.map_some] at h
            cases h
            obtain ⟨f, hf, e, z1, z2⟩ := pairs r1 r1' rv rv' hr
            have e2 : ((List.range (min its.toArray.size its'.toArray.size)).all f && its.toArray.size == its'.toArray.size) = (r' && decide (xs.length = ys.length)) := by
              rw [e, z1, z2]
              congr 1
            exact ⟨e2 ▸ RcAt.tuples p p' hu0 hf, e2 ▸ RcNeAt.tuples p p' hu0 hf⟩
        refine ⟨?_, rc.1, rc.2⟩
        by_cases hb : b = b'
        . subst hb
          have e := rep_inj I S _ _ _ R R'
          rw [<- e] at h
          obtain rfl := eqW_same _ _ _ h
          exact EqAt.same _
        . exact EqAt.of_refs hb rc.1
      | ref l =>
        replace h : (if isLst m l && true then some false else none) = some r := h
        split at h
        . rename_i hl
          cases h
          obtain ⟨b', its', rfl, q⟩ := isLst_of S I (Bool.and_eq_true_iff.mp hl).1 R' ru'
          exact ⟨EqAt.tuple_list p q hu0, RcAt.tuple_list p q hu0, RcNeAt.tuple_list p q hu0⟩
        . cases h
      | rol ys => cases h
      | non =>
        cases h
        obtain rfl := rep_non.mp R'
        obtain rfl : u' = .none := ru'
        exact ⟨EqAt.tuple_none p hu0, RcAt.tuple_none p hu0, RcNeAt.tuple_none p hu0⟩
      | bl c =>
        cases h
        obtain rfl := rep_bl.mp R'
        obtain rfl : u' = .bool c := ru'
        exact ⟨EqAt.tuple_bool c p hu0, RcAt.tuple_bool c p hu0, RcNeAt.tuple_bool c p hu0⟩
      | int i =>
        cases h
        obtain rfl := rep_int.mp R'
        obtain ⟨t, rfl⟩ := ru'
        exact ⟨EqAt.tuple_int i t p hu0, RcAt.tuple_int i t p hu0, RcNeAt.tuple_int i t p hu0⟩
      | str x =>
        cases h
        obtain rfl := rep_str.mp R'
        obtain ⟨t, rfl⟩ := ru'
        exact ⟨EqAt.tuple_str _ t p hu0, RcAt.tuple_str _ t p hu0, RcNeAt.tuple_str _ t p hu0⟩
    | ref l =>
      cases w' with
      | ref l' =>
        obtain ⟨b, hb, rfl⟩ := rep_ref.mp R
        obtain ⟨b', hb', rfl⟩ := rep_ref.mp R'
        obtain rfl : u = .ref b := ru
        obtain rfl : u' = .ref b' := ru'
        replace h : (if l = l' then (if isLst m l then some true else none) else match m[l]?, m[l']? with
          | some (.lst xs), some (.lst ys) => if xs.length = ys.length then eqL (eqW m k) xs ys else some false
          | _, _ => none) = some r := h
        by_cases hll : l = l'
        . subst hll
          rw [hb] at hb'; cases hb'
          rw [if_pos rfl] at h
          split at h
          . rename_i hil
            cases h
            obtain ⟨c, its, ec, q⟩ := isLst_of S I hil R (u := .ref b) rfl
            cases ec
            have al : (List.range its.size).all (fun _ => true) = true := by simp
            have e1 := RcAt.lists (A := A) (e := fun _ => true) q q rfl hu0 (fun j h1 h2 => EqAt.same _)
            have e2 := RcNeAt.lists (A := A) (e := fun _ => true) q q rfl hu0 (fun j h1 h2 => EqAt.same _)
            rw [al] at e1 e2
            exact ⟨EqAt.same _, e1, e2⟩
          . cases h
        . rw [if_neg hll] at h
          have hbb : b ≠ b' := by
            rintro rfl
            obtain ⟨i1, e1⟩ := List.getElem?_eq_some_iff.mp hb
            obtain ⟨i2, e2⟩ := List.getElem?_eq_some_iff.mp hb'
            exact hll ((List.getElem_inj S.nd).mp (e1.trans e2.symm))
          split at h
          . rename_i xs ys m1 m2
            obtain ⟨a1, vs, h1, g1, r1⟩ := lst_of S m1
            rw [hb] at h1; cases h1
            obtain ⟨a2, us, h2, g2, r2⟩ := lst_of S m2
            rw [hb'] at h2; cases h2
            obtain ⟨its, rv, p, _⟩ := I.list (SqL.of g1)
            obtain ⟨its', rv', p', _⟩ := I.list (SqL.of g2)
            split at h
            . rename_i hl
              obtain ⟨f, hf, e, z1, z2⟩ := pairs r1 r2 rv rv' h
              have hsz : its.toArray.size = its'.toArray.size := by rw [z1, z2, hl]
              rw [<- hsz, Nat.min_self] at e
              have e1 := RcAt.lists p.isList p'.isList hsz hu0 hf
              have e2 := RcNeAt.lists p.isList p'.isList hsz hu0 hf
              rw [<- e] at e1 e2
              exact ⟨EqAt.of_refs hbb e1, e1, e2⟩
            . rename_i hl
              cases h
              have l1 := r1.length
              have l2 := r2.length
              have l3 := rv.length
              have l4 := rv'.length
              have hsz : (its.toArray.size != its'.toArray.size) = true := by
                simp
                omega
              have e1 := RcAt.lists_lengths (A := A) p.isList p'.isList hsz hu0
              exact ⟨EqAt.of_refs hbb e1, e1, RcNeAt.lists_lengths p.isList p'.isList hsz hu0⟩
          . cases h
      | tup ys =>
        replace h : (if isLst m l && true then some false else none) = some r := h
        split at h
        . rename_i hl
          cases h
          obtain ⟨b, its, rfl, q⟩ := isLst_of S I (Bool.and_eq_true_iff.mp hl).1 R ru
          obtain ⟨b', vs', its', rfl, rfl, r1', rv', p'⟩ := tup_of I R' ru'
          exact ⟨EqAt.list_tuple q p' hu0, RcAt.list_tuple q p' hu0, RcNeAt.list_tuple q p' hu0⟩
        . cases h
      | rol ys =>
        replace h : (if isLst m l && false then some false else none) = some r := h
        simp only [Bool.and_false, Bool.false_eq_true, if_false] at h
        cases h
      | non =>
        replace h : (if isLst m l && true then some false else none) = some r := h
        split at h
        . rename_i hl
          cases h
          obtain ⟨b, its, rfl, q⟩ := isLst_of S I (Bool.and_eq_true_iff.mp hl).1 R ru
          obtain rfl := rep_non.mp R'
          obtain rfl : u' = .none := ru'
          exact ⟨EqAt.list_none q hu0, RcAt.list_none q hu0, RcNeAt.list_none q hu0⟩
        . cases h
      | bl c =>
        replace h : (if isLst m l && true then some false else none) = some r := h
        split at h
        . rename_i hl
          cases h
          obtain ⟨b, its, rfl, q⟩ := isLst_of S I (Bool.and_eq_true_iff.mp hl).1 R ru
          obtain rfl := rep_bl.mp R'
          obtain rfl : u' = .bool c := ru'
          exact ⟨EqAt.list_bool c q hu0, RcAt.list_bool c q hu0, RcNeAt.list_bool c q hu0⟩
        . cases h
      | int i =>
        replace h : (if isLst m l && true then some false else none) = some r := h
        split at h
        . rename_i hl
          cases h
          obtain ⟨b, its, rfl, q⟩ := isLst_of S I (Bool.and_eq_true_iff.mp hl).1 R ru
          obtain rfl := rep_int.mp R'
          obtain ⟨t, rfl⟩ := ru'
          exact ⟨EqAt.list_int i t q hu0, RcAt.list_int i t q hu0, RcNeAt.list_int i t q hu0⟩
        . cases h
      | str x =>
        replace h : (if isLst m l && true then some false else none) = some r := h
        split at h
        . rename_i hl
          cases h
          obtain ⟨b, its, rfl, q⟩ := isLst_of S I (Bool.and_eq_true_iff.mp hl).1 R ru
          obtain rfl := rep_str.mp R'
          obtain ⟨t, rfl⟩ := ru'
          exact ⟨EqAt.list_str _ t q hu0, RcAt.list_str _ t q hu0, RcNeAt.list_str _ t q hu0⟩
        . cases h
    | rol xs =>
      cases w' <;> first | cases h | (replace h : (if isLst m _ && false then some false else none) = some r := h; simp at h)
    | non =>
      obtain rfl := rep_non.mp R
      obtain rfl : u = .none := ru
      cases w' with
      | rol ys => cases h
      | ref l =>
        replace h : (if isLst m l && true then some false else none) = some r := h
        split at h
        . rename_i hl
          cases h
          obtain ⟨b, its, rfl, q⟩ := isLst_of S I (Bool.and_eq_true_iff.mp hl).1 R' ru'
          exact ⟨EqAt.none_list q hu0, RcAt.none_list q hu0, RcNeAt.none_list q hu0⟩
        . cases h
      | tup ys =>
        cases h
        obtain ⟨b', vs', its', rfl, rfl, r1', rv', p'⟩ := tup_of I R' ru'
        exact ⟨EqAt.none_tuple p' hu0, RcAt.none_tuple p' hu0, RcNeAt.none_tuple p' hu0⟩
      | non =>
        cases h
        obtain rfl := rep_non.mp R'
        obtain rfl : u' = .none := ru'
        exact ⟨EqAt.same _, RcAt.none_none, RcNeAt.none_none⟩
      | bl c =>
        cases h
        obtain rfl := rep_bl.mp R'
        obtain rfl : u' = .bool c := ru'
        exact ⟨EqAt.none_bool c, RcAt.none_bool c, RcNeAt.none_bool c⟩
      | int i =>
        cases h
        obtain rfl := rep_int.mp R'
        obtain ⟨t, rfl⟩ := ru'
        exact ⟨EqAt.none_int i t, RcAt.none_int i t, RcNeAt.none_int i t⟩
      | str x =>
        cases h
        obtain rfl := rep_str.mp R'
        obtain ⟨t, rfl⟩ := ru'
        exact ⟨EqAt.none_str _ t, RcAt.none_str _ t, RcNeAt.none_str _ t⟩
    | bl c =>
      obtain rfl := rep_bl.mp R
      obtain rfl : u = .bool c := ru
      cases w' with
      | rol ys => cases h
      | ref l =>
        replace h : (if isLst m l && true then some false else none) = some r := h
        split at h
        . rename_i hl
          cases h
          obtain ⟨b, its, rfl, q⟩ := isLst_of S I (Bool.and_eq_true_iff.mp hl).1 R' ru'
          exact ⟨EqAt.bool_list c q hu0, RcAt.bool_list c q hu0, RcNeAt.bool_list c q hu0⟩
        . cases h
      | tup ys =>
        cases h
        obtain ⟨b', vs', its', rfl, rfl, r1', rv', p'⟩ := tup_of I R' ru'
        exact ⟨EqAt.bool_tuple c p' hu0, RcAt.bool_tuple c p' hu0, RcNeAt.bool_tuple c p' hu0⟩
      | non =>
        cases h
        obtain rfl := rep_non.mp R'
        obtain rfl : u' = .none := ru'
        exact ⟨EqAt.bool_none c, RcAt.bool_none c, RcNeAt.bool_none c⟩
      | bl d =>
        cases h
        obtain rfl := rep_bl.mp R'
        obtain rfl : u' = .bool d := ru'
        exact ⟨EqAt.bool_bool c d, RcAt.bool_bool c d, RcNeAt.bool_bool c d⟩
      | int i =>
        cases h
        obtain rfl := rep_int.mp R'
        obtain ⟨t, rfl⟩ := ru'
        have e : decide (b2i c = i) = ((if c then (1 : Int) else 0) == i) := by
          show decide ((if c then (1 : Int) else 0) = i) = _
          rw [Bool.beq_eq_decide_eq]
        rw [e]
        exact ⟨EqAt.bool_int c i t, RcAt.bool_int c i t, RcNeAt.bool_int c i t⟩
      | str x =>
        cases h
        obtain rfl := rep_str.mp R'
        obtain ⟨t, rfl⟩ := ru'
        exact ⟨EqAt.bool_str c _ t, RcAt.bool_str c _ t, RcNeAt.bool_str c _ t⟩
    | int i =>
      obtain rfl := rep_int.mp R
      obtain ⟨t, rfl⟩ := ru
      cases w' with
      | rol ys => cases h
      | ref l =>
        replace h : (if isLst m l && true then some false else none) = some r := h
        split at h
        . rename_i hl
          cases h
          obtain ⟨b, its, rfl, q⟩ := isLst_of S I (Bool.and_eq_true_iff.mp hl).1 R' ru'
          exact ⟨EqAt.int_list i t q hu0, RcAt.int_list i t q hu0, RcNeAt.int_list i t q hu0⟩
        . cases h
      | tup ys =>
        cases h
        obtain ⟨b', vs', its', rfl, rfl, r1', rv', p'⟩ := tup_of I R' ru'
        exact ⟨EqAt.int_tuple i t p' hu0, RcAt.int_tuple i t p' hu0, RcNeAt.int_tuple i t p' hu0⟩
      | non =>
        cases h
        obtain rfl := rep_non.mp R'
        obtain rfl : u' = .none := ru'
        exact ⟨EqAt.int_none i t, RcAt.int_none i t, RcNeAt.int_none i t⟩
      | bl d =>
        cases h
        obtain rfl := rep_bl.mp R'
        obtain rfl : u' = .bool d := ru'
        have e : decide (i = b2i d) = (i == (if d then (1 : Int) else 0)) := by
          show decide (i = (if d then (1 : Int) else 0)) = _
          rw [Bool.beq_eq_decide_eq]
        rw [e]
        exact ⟨EqAt.int_bool i t d, RcAt.int_bool i t d, RcNeAt.int_bool i t d⟩
      | int j =>
        cases h
        obtain rfl := rep_int.mp R'
        obtain ⟨t', rfl⟩ := ru'
        have e : decide (i = j) = (i == j) := by rw [Bool.beq_eq_decide_eq]
        rw [e]
        exact ⟨EqAt.int_int i t j t', RcAt.int_int i t j t', RcNeAt.int_int i t j t'⟩
      | str x =>
        cases h
        obtain rfl := rep_str.mp R'
        obtain ⟨t', rfl⟩ := ru'
        exact ⟨EqAt.int_str i t _ t', RcAt.int_str i t _ t', RcNeAt.int_str i t _ t'⟩
    | str x =>
      obtain rfl := rep_str.mp R
      obtain ⟨t, rfl⟩ := ru
      cases w' with
      | rol ys => cases h
      | ref l =>
        replace h : (if isLst m l && true then some false else none) = some r := h
        split at h
        . rename_i hl
          cases h
          obtain ⟨b, its, rfl, q⟩ := isLst_of S I (Bool.and_eq_true_iff.mp hl).1 R' ru'
          exact ⟨EqAt.str_list _ t q hu0, RcAt.str_list _ t q hu0, RcNeAt.str_list _ t q hu0⟩
        . cases h
      | tup ys =>
        cases h
        obtain ⟨b', vs', its', rfl, rfl, r1', rv', p'⟩ := tup_of I R' ru'
        exact ⟨EqAt.str_tuple _ t p' hu0, RcAt.str_tuple _ t p' hu0, RcNeAt.str_tuple _ t p' hu0⟩
      | non =>
        cases h
        obtain rfl := rep_non.mp R'
        obtain rfl : u' = .none := ru'
        exact ⟨EqAt.str_none _ t, RcAt.str_none _ t, RcNeAt.str_none _ t⟩
      | bl d =>
        cases h
        obtain rfl := rep_bl.mp R'
        obtain rfl : u' = .bool d := ru'
        exact ⟨EqAt.str_bool _ t d, RcAt.str_bool _ t d, RcNeAt.str_bool _ t d⟩
      | int j =>
        cases h
        obtain rfl := rep_int.mp R'
        obtain ⟨t', rfl⟩ := ru'
        exact ⟨EqAt.str_int _ t j t', RcAt.str_int _ t j t', RcNeAt.str_int _ t j t'⟩
      | str y =>
        cases h
        obtain rfl := rep_str.mp R'
        obtain ⟨t', rfl⟩ := ru'
        have e : decide (x = y) = ((⟨x.toArray⟩ : Str) == ⟨y.toArray⟩) := by
          by_cases hxy : x = y
          . subst hxy; simp
          . have : ¬ (⟨x.toArray⟩ : Str) = ⟨y.toArray⟩ := fun z => by
              injection z with z
              exact hxy (by simpa using congrArg Array.toList z)
            rw [decide_eq_false hxy]
            exact (beq_eq_false_iff_ne.mpr this).symm
        rw [e]
        exact ⟨EqAt.str_str _ t _ t', RcAt.str_str _ t _ t', RcNeAt.str_str _ t _ t'⟩
end
end Mini
namespace Mini
open PySem PySem.Spec PyProof.Rows L2
open PySem.SeqAt
def cK : Co -> CmpOp
  | .eq => .Eq | .ne => .NotEq | .lt => .Lt | .le => .LtE | .gt => .Gt | .ge => .GtE | .isN => .Is | .notN => .IsNot | .isin => .In | .notin => .NotIn
def rC (K : PySem.W.Frag) (op : Co) : R2 := fun x y H Q => ∃ as m w w', Sim K as m H /\ Rep K as H w x /\ Rep K as H w' y /\ Post K as H Q (cop op w w' m)
section
variable {X : Cx}
theorem ofB_ok {K : PySem.W.Frag} {as : List Addr} {H : Hp} {m : Me} {Q : VK} {o : Option Bool} (S : Sim K as m H) (h : Post K as H Q (ofB o m)) : ∃ b, o = some b /\ Q (.bl b) H := by
  cases o with
  | none => exact h.elim
  | some b => exact ⟨b, rfl, h.ok S (rep_bl.mpr rfl)⟩
theorem inL_all {p : Wd -> Wd -> Option Bool} {x : Wd} : ∀ {ys : List Wd} {r : Bool}, inL p x ys = some r ->
    ∃ f : Wd -> Bool, (∀ y ∈ ys, p y x = some (f y)) /\ r = ys.any f
  | [], r, h => by cases h; exact ⟨fun _ => false, fun y hy => by simp at hy, rfl⟩
  | y :: ys, r, h => by
    unfold inL at h
    cases hp : p y x with
    | none => rw [hp] at h; cases h
    | some b =>
      rw [hp] at h
      simp only [] at h
      cases hr : inL p x ys with
      | none => rw [hr] at h; cases h
      | some r' =>
        rw [hr] at h
        cases h
        obtain ⟨f, hf, rfl⟩ := inL_all hr
        classical
        refine ⟨fun z => (p z x).getD false, fun z hz => ?_, ?_⟩
        . rcases List.mem_cons.mp hz with rfl | hz
          . simp only [hp, Option.getD_some]
          . simp only [hf z hz, Option.getD_some]
        . rw [List.any_cons, hp]
          congr 1
          refine Bool.eq_iff_iff.mpr ?_
          rw [List.any_eq_true, List.any_eq_true]
          constructor
          . rintro ⟨z, hz, e⟩
            exact ⟨z, hz, by rw [hf z hz]; exact e⟩
          . rintro ⟨z, hz, e⟩
            rw [hf z hz] at e
            exact ⟨z, hz, e⟩
theorem in_items {pins : List (Addr × Obj)} {σ : St} {s : Shared} {as : List Addr} {H : Hp} {m : Me} {A : Around} (I : Inv X pins σ H s) (S : Sim X.K as m H) (hu : A.units + deep < cLine) {w : Wd} {v : V} {u : Value} {ys : List Wd} {vs : List V} {its : List Value} {r : Bool}
    (R : Rep X.K as H w v) (ru : RelV v u) (ry : RepL X.K as H ys vs) (rv : Vals vs its) (h : inL (eqW m deep) w ys = some r) :
    ∃ e : Value -> Bool, (∀ y, y ∈ its.toArray -> EqAt A s y u (e y)) /\ its.toArray.any e = r := by
  obtain ⟨f, hf, rfl⟩ := inL_all h
  classical
  -- the plain value of an item
  have pick : ∀ y, y ∈ its -> ∃ z, z ∈ ys /\ ∃ vz, Rep X.K as H z vz /\ RelV vz y := fun y hy => by
    obtain ⟨j, hj, rfl⟩ := List.mem_iff_getElem.mp hy
    have l1 := ry.length
    have l2 := rv.length
    have hj1 : j < vs.length := by omega
    obtain ⟨u1, e1, q1⟩ := rv.get (i := j) (x := vs[j]) (by simp [hj1])
    obtain ⟨z, e2, q2⟩ := ry.back (i := j) (v := vs[j]) (by simp [hj1])
    obtain ⟨_, e3⟩ := List.getElem?_eq_some_iff.mp e1
    exact ⟨z, List.mem_of_getElem? e2, vs[j], q2, by rw [e3]; exact q1⟩
  let e : Value -> Bool := fun y => if hy : y ∈ its then f (Classical.choose (pick y hy)) else false
  have he : ∀ y (hy : y ∈ its) z vz, z ∈ ys -> Rep X.K as H z vz -> RelV vz y -> e y = f z := fun y hy z vz hz hr hq => by
    obtain ⟨h1, vz', h2, h3⟩ := Classical.choose_spec (pick y hy)
    have : e y = f (Classical.choose (pick y hy)) := dif_pos hy
    rw [this]
    have hv : vz' = vz := h3.inj hq
    subst hv
    rw [rep_inj I S _ _ _ h2 hr]
  refine ⟨e, fun y hy => ?_, ?_⟩
  . have hy' : y ∈ its := by simpa using hy
    obtain ⟨z, hz, vz, q1, q2⟩ := pick y hy'
    rw [he y hy' z vz hz q1 q2]
    exact (eq_at I S deep A z w vz v y u (f z) hu (hf z hz) q1 R q2 ru).it
  . refine Bool.eq_iff_iff.mpr ?_
    rw [List.any_toArray, List.any_eq_true, List.any_eq_true]
    constructor
    . rintro ⟨y, hy, ey⟩
      obtain ⟨z, hz, vz, q1, q2⟩ := pick y hy
      rw [he y hy z vz hz q1 q2] at ey
      exact ⟨z, hz, ey⟩
    . rintro ⟨z, hz, ez⟩
      obtain ⟨j, hj, rfl⟩ := List.mem_iff_getElem.mp hz
      obtain ⟨v1, e1, q1⟩ := ry.get (i := j) (x := ys[j]) (by simp [hj])
      obtain ⟨u1, e2, q2⟩ := rv.get e1
      have hy : u1 ∈ its := List.mem_of_getElem? e2
      exact ⟨u1, hy, by rw [he u1 hy ys[j] v1 (List.getElem_mem hj) q1 q2]; exact ez⟩
theorem op_rC (hu : X.A.units + 64 < cLine) (op : Co) : OpR X (compareOp (cK op)) (rC X.K op) := by
  intro pins s σ H x y v u Q I rx ry h
  obtain ⟨as, m, w, w', S, R, R', q⟩ := h
  have hd : deep = 12 := rfl
  have fin : ∀ {b : Bool}, Q (.bl b) H -> EP X pins σ Q (.bool b) s := fun {b} q => ⟨.bl b, H, I, rfl, q⟩
  have cmpI : ∀ {r : Int -> Int -> Bool}, Post X.K as H Q (cmpII r w w' m) -> ∃ i j, x = .int i /\ y = .int j /\ Q (.bl (r i j)) H := fun {r} q => by
    unfold cmpII at q
    cases w with
    | int i =>
      cases w' with
      | int j => exact ⟨i, j, rep_int.mp R, rep_int.mp R', q.ok S (rep_bl.mpr rfl)⟩
      | _ => exact q.elim
    | _ => exact q.elim
  cases op with
  | eq =>
    obtain ⟨b, hb, q⟩ := ofB_ok S q
    exact (eq_at I S deep X.A w w' x y v u b (by omega) hb R R' rx ry).eq X.prog X.w X.xe _ (fin q)
  | ne =>
    obtain ⟨b, hb, q⟩ := ofB_ok S q
    obtain ⟨c, hc, rfl⟩ := Option.map_eq_some_iff.mp hb
    exact (eq_at I S deep X.A w w' x y v u c (by omega) hc R R' rx ry).ne X.prog X.w X.xe _ (fin q)
  | isin =>
    simp only [cop] at q
    split at q
    . rename_i ys hs
      obtain ⟨b, hb, q⟩ := ofB_ok S q
      obtain ⟨p, vs, rfl, hq, r⟩ := seq_of S R' hs
      obtain rfl : u = .ref p := ry
      rcases hq with hq | hq
      . obtain ⟨its, rv, pl, _⟩ := I.list hq
        obtain ⟨e, he, rfl⟩ := in_items (A := X.A.in1) I S (by show X.A.units + 1 + deep < cLine; omega) R rx r rv hb
        exact in_listAt e pl.isList he (fin q)
      . obtain ⟨its, rv, pl, _⟩ := I.tuple hq
        obtain ⟨e, he, rfl⟩ := in_items (A := X.A.in1) I S (by show X.A.units + 1 + deep < cLine; omega) R rx r rv hb
        exact in_tupleAt e (show s.heap.IsTuple p its.toArray from pl) he (fin q)
    . exact q.elim
  | notin =>
    simp only [cop] at q
    split at q
    . rename_i ys hs
      obtain ⟨b, hb, q⟩ := ofB_ok S q
      obtain ⟨c, hc, rfl⟩ := Option.map_eq_some_iff.mp hb
      obtain ⟨p, vs, rfl, hq, r⟩ := seq_of S R' hs
      obtain rfl : u = .ref p := ry
      rcases hq with hq | hq
      . obtain ⟨its, rv, pl, _⟩ := I.list hq
        obtain ⟨e, he, rfl⟩ := in_items (A := X.A.in1) I S (by show X.A.units + 1 + deep < cLine; omega) R rx r rv hc
        exact notIn_listAt e pl.isList he (fin q)
      . obtain ⟨its, rv, pl, _⟩ := I.tuple hq
        obtain ⟨e, he, rfl⟩ := in_items (A := X.A.in1) I S (by show X.A.units + 1 + deep < cLine; omega) R rx r rv hc
        exact notIn_tupleAt e (show s.heap.IsTuple p its.toArray from pl) he (fin q)
    . exact q.elim
  | isN =>
    refine op_isN pins s σ H x y v u Q I rx ry ?_
    simp only [cop] at q
    split at q
    . exact ⟨rep_non.mp R', by rw [rep_non.mp R]; exact q.ok S (rep_bl.mpr rfl)⟩
    . rename_i hne
      refine ⟨rep_non.mp R', ?_⟩
      have : x ≠ .non := fun z => by
        subst z
        exact hne (rep_inj I S _ _ _ R (rep_non.mpr rfl))
      rw [decide_eq_false this]
      exact q.ok S (rep_bl.mpr rfl)
    . exact q.elim
  | notN =>
    refine op_notN pins s σ H x y v u Q I rx ry ?_
    simp only [cop] at q
    split at q
    . exact ⟨rep_non.mp R', by rw [rep_non.mp R]; exact q.ok S (rep_bl.mpr rfl)⟩
    . rename_i hne
      refine ⟨rep_non.mp R', ?_⟩
      have : x ≠ .non := fun z => by
        subst z
        exact hne (rep_inj I S _ _ _ R (rep_non.mpr rfl))
      rw [decide_eq_false this]
      exact q.ok S (rep_bl.mpr rfl)
    . exact q.elim
  | lt => exact op_lt pins s σ H x y v u Q I rx ry (cmpI q)
  | le => exact op_le pins s σ H x y v u Q I rx ry (cmpI q)
  | gt => exact op_gt pins s σ H x y v u Q I rx ry (cmpI (r := fun i j => decide (j < i)) q)
  | ge => exact op_ge pins s σ H x y v u Q I rx ry (cmpI (r := fun i j => decide (j <= i)) q)
end
end Mini
namespace Mini
open PySem PySem.Spec PyProof.Rows L2
section
variable {K : PySem.W.Frag} {as as' : List Addr} {H H' : Hp} {m m' : Me} {Q : VK} {X : Cx}
def bltV : Blf -> Option (Str × Value)
  | .len => some ("len", .builtin "len")
  | .int => some ("int", .type "int")
  | .list => some ("list", .type "list")
  | .tuple => some ("tuple", .type "tuple")
  | .abs => some ("abs", .builtin "abs")
  | .max2 => some ("max", .builtin "max")
  | .min2 => some ("min", .builtin "min")
  | .sum => some ("sum", .builtin "sum")
  | .all => some ("all", .builtin "all")
  | _ => none
def rBl (K : PySem.W.Frag) (b : Blf) : List V -> Hp -> VK -> Prop := fun vs H Q => ∃ as m ws, Sim K as m H /\ RepL K as H ws vs /\ Post K as H Q (bltR b ws m)
theorem repL_1 {x : Wd} {vs : List V} (h : RepL K as H [x] vs) : ∃ v, vs = [v] /\ Rep K as H x v := by
  obtain ⟨v, r, rfl, q, t⟩ := repL_cons.mp h
  obtain rfl := repL_nil.mp t
  exact ⟨v, rfl, q⟩
theorem repL_2 {x y : Wd} {vs : List V} (h : RepL K as H [x, y] vs) : ∃ v u, vs = [v, u] /\ Rep K as H x v /\ Rep K as H y u := by
  obtain ⟨v, r, rfl, q, t⟩ := repL_cons.mp h
  obtain ⟨u, rfl, q'⟩ := repL_1 t
  exact ⟨v, u, rfl, q, q'⟩
theorem ls_of {w : Wd} {v : V} {xs : List Wd} (S : Sim K as m H) (R : Rep K as H w v) (h : lsOf m w = some xs) : ∃ p vs, v = .ref p /\ SqL K H p vs /\ RepL K as H xs vs := by
  cases w with
  | rol ys =>
    cases h
    obtain ⟨a, vs, rfl, hq, rr⟩ := rep_rol.mp R
    exact ⟨a, vs, rfl, hq.sq, rr⟩
  | ref l =>
    obtain ⟨b, hb, rfl⟩ := rep_ref.mp R
    obtain ⟨a, vs, ha, e, r⟩ := lst_of S (lstAt_some h)
    rw [hb] at ha
    cases ha
    exact ⟨b, vs, rfl, SqL.of e, r⟩
  | _ => cases h
theorem sum_rep : ∀ {xs : List Wd} {vs : List V} {i : Int}, RepL K as H xs vs -> sumL xs = some i -> ∃ ns : List Int, vs = ns.map V.int /\ ns.sum = i
  | [], vs, i, R, h => by cases h; exact ⟨[], repL_nil.mp R, rfl⟩
  | x :: xs, vs, i, R, h => by
    obtain ⟨v, r, rfl, q, t⟩ := repL_cons.mp R
    cases x with
    | int j =>
      simp only [sumL, Option.map_eq_some_iff] at h
      obtain ⟨k, hk, rfl⟩ := h
      obtain ⟨ns, rfl, rfl⟩ := sum_rep t hk
      obtain rfl := rep_int.mp q
      exact ⟨j :: ns, rfl, by simp⟩
    | _ => cases h
theorem all_rep : ∀ {xs : List Wd} {vs : List V} {i : Bool}, RepL K as H xs vs -> allL xs = some i -> ∃ bs : List Bool, vs = bs.map V.bl /\ bs.all id = i
  | [], vs, i, R, h => by cases h; exact ⟨[], repL_nil.mp R, rfl⟩
  | x :: xs, vs, i, R, h => by
    obtain ⟨v, r, rfl, q, t⟩ := repL_cons.mp R
    cases x with
    | bl j =>
      simp only [allL, Option.map_eq_some_iff] at h
      obtain ⟨k, hk, rfl⟩ := h
      obtain ⟨ns, rfl, rfl⟩ := all_rep t hk
      obtain rfl := rep_bl.mp q
      exact ⟨j :: ns, rfl, by simp⟩
    | _ => cases h
theorem post_sq {o : Option (List Wd)} {f : (List Wd) -> Rz} (h : Post K as H Q (match o with | some a => f a | none => .no)) : ∃ a, o = some a /\ Post K as H Q (f a) := by
  cases o with
  | none => exact h.elim
  | some a => exact ⟨a, rfl, h⟩
theorem post_in {o : Option Int} {f : Int -> Rz} (h : Post K as H Q (match o with | some a => f a | none => .no)) : ∃ a, o = some a /\ Post K as H Q (f a) := by
  cases o with
  | none => exact h.elim
  | some a => exact ⟨a, rfl, h⟩
theorem post_bo {o : Option Bool} {f : Bool -> Rz} (h : Post K as H Q (match o with | some a => f a | none => .no)) : ∃ a, o = some a /\ Post K as H Q (f a) := by
  cases o with
  | none => exact h.elim
  | some a => exact ⟨a, rfl, h⟩
theorem call_rBl (hc : X.calm = true) {b : Blf} {nm : Str} {f : Value} (hb : bltV b = some (nm, f)) : CallR X f (rBl X.K b) := by
  intro pins s σ H xs us Q I r h
  obtain ⟨as, m, ws, S, R, q⟩ := h
  cases b with
  | len =>
    cases hb
    refine call_len_seq pins s σ H xs us Q I r ?_
    rcases ws with _ | ⟨x, _ | ⟨_, _⟩⟩
    . exact q.elim
    . obtain ⟨ys, hs, q⟩ := post_sq (o := seqOf m x) (f := fun ys => .ok (.int ys.length) m) q
      obtain ⟨v, rfl, q1⟩ := repL_1 R
      obtain ⟨p, vs, rfl, hq, rr⟩ := seq_of S q1 hs
      refine ⟨p, vs, rfl, hq, ?_⟩
      rw [<- rr.length]
      exact q.ok S (rep_int.mpr rfl)
    . exact q.elim
  | int =>
    cases hb
    refine call_int1 pins s σ H xs us Q I r ?_
    cases ws with
    | nil => exact q.elim
    | cons x ws =>
      cases x with
      | int i =>
        cases ws with
        | nil =>
          obtain ⟨v, rfl, q1⟩ := repL_1 R
          obtain rfl := rep_int.mp q1
          exact .inl ⟨i, rfl, q.ok S (rep_int.mpr rfl)⟩
        | cons _ _ => exact q.elim
      | bl i =>
        cases ws with
        | nil =>
          obtain ⟨v, rfl, q1⟩ := repL_1 R
          obtain rfl := rep_bl.mp q1
          exact .inr ⟨i, rfl, q.ok S (rep_int.mpr rfl)⟩
        | cons _ _ => exact q.elim
      | _ => exact q.elim
  | list =>
    cases hb
    refine call_list_of pins s σ H xs us Q I r ?_
    rcases ws with _ | ⟨x, _ | ⟨_, _⟩⟩
    . exact q.elim
    . obtain ⟨ys, hs, q⟩ := post_sq (o := seqOf m x) (f := fun ys => alloc m ys) q
      obtain ⟨v, rfl, q1⟩ := repL_1 R
      obtain ⟨p, vs, rfl, hq, rr⟩ := seq_of S q1 hs
      exact ⟨p, vs, rfl, hq, (alloc_ok S rr q).2⟩
    . exact q.elim
  | tuple =>
    cases hb
    refine call_tuple_of pins s σ H xs us Q I r ?_
    rcases ws with _ | ⟨x, _ | ⟨_, _⟩⟩
    . exact q.elim
    . obtain ⟨ys, hs, q⟩ := post_sq (o := seqOf m x) (f := fun ys => .ok (.tup ys) m) q
      obtain ⟨v, rfl, q1⟩ := repL_1 R
      obtain ⟨p, vs, rfl, hq, rr⟩ := seq_of S q1 hs
      refine ⟨p, vs, rfl, ?_⟩
      rcases hq with hq | hq
      . refine .inl ⟨hq, fun l hl => ?_⟩
        obtain ⟨T, S', R'⟩ := S.tup hl rr
        exact q _ _ _ T S' R'
      . exact .inr ⟨hq, q.ok S (rep_tup.mpr ⟨p, vs, rfl, hq, rr⟩)⟩
    . exact q.elim
  | abs =>
    cases hb
    refine call_abs pins s σ H xs us Q I r ?_
    cases ws with
    | nil => exact q.elim
    | cons x ws =>
      cases x with
      | int i =>
        cases ws with
        | nil =>
          obtain ⟨v, rfl, q1⟩ := repL_1 R
          obtain rfl := rep_int.mp q1
          exact ⟨i, rfl, q.ok S (rep_int.mpr rfl)⟩
        | cons _ _ => exact q.elim
      | _ => exact q.elim
  | sum =>
    cases hb
    refine call_sum_of hc pins s σ H xs us Q I r ?_
    rcases ws with _ | ⟨x, _ | ⟨_, _⟩⟩
    . exact q.elim
    . obtain ⟨i, hs, q⟩ := post_in (o := (lsOf m x).bind sumL) (f := fun i => .ok (.int i) m) q
      obtain ⟨ys, h1, h2⟩ := Option.bind_eq_some_iff.mp hs
      obtain ⟨v, rfl, q1⟩ := repL_1 R
      obtain ⟨p, vs, rfl, hq, rr⟩ := ls_of S q1 h1
      obtain ⟨ns, rfl, rfl⟩ := sum_rep rr h2
      exact ⟨p, ns, rfl, hq, q.ok S (rep_int.mpr rfl)⟩
    . exact q.elim
  | all =>
    cases hb
    refine call_all_of hc pins s σ H xs us Q I r ?_
    rcases ws with _ | ⟨x, _ | ⟨_, _⟩⟩
    . exact q.elim
    . obtain ⟨i, hs, q⟩ := post_bo (o := (lsOf m x).bind allL) (f := fun i => .ok (.bl i) m) q
      obtain ⟨ys, h1, h2⟩ := Option.bind_eq_some_iff.mp hs
      obtain ⟨v, rfl, q1⟩ := repL_1 R
      obtain ⟨p, vs, rfl, hq, rr⟩ := ls_of S q1 h1
      obtain ⟨ns, rfl, rfl⟩ := all_rep rr h2
      exact ⟨p, ns, rfl, hq, q.ok S (rep_bl.mpr rfl)⟩
    . exact q.elim
  | max2 =>
    cases hb
    refine call_max2 hc pins s σ H xs us Q I r ?_
    cases ws with
    | nil => exact q.elim
    | cons x ws =>
      cases x with
      | int i =>
        cases ws with
        | nil => exact q.elim
        | cons y ws =>
          cases y with
          | int j =>
            cases ws with
            | nil =>
              obtain ⟨v, u, rfl, q1, q2⟩ := repL_2 R
              obtain rfl := rep_int.mp q1
              obtain rfl := rep_int.mp q2
              exact ⟨i, j, rfl, q.ok S (rep_int.mpr rfl)⟩
            | cons _ _ => exact q.elim
          | _ => exact q.elim
      | _ => exact q.elim
  | min2 =>
    cases hb
    refine call_min2 hc pins s σ H xs us Q I r ?_
    cases ws with
    | nil => exact q.elim
    | cons x ws =>
      cases x with
      | int i =>
        cases ws with
        | nil => exact q.elim
        | cons y ws =>
          cases y with
          | int j =>
            cases ws with
            | nil =>
              obtain ⟨v, u, rfl, q1, q2⟩ := repL_2 R
              obtain rfl := rep_int.mp q1
              obtain rfl := rep_int.mp q2
              exact ⟨i, j, rfl, q.ok S (rep_int.mpr rfl)⟩
            | cons _ _ => exact q.elim
          | _ => exact q.elim
      | _ => exact q.elim
  | _ => cases hb
theorem idx_ok {x y : Wd} {v u : V} (S : Sim K as m H) (R : Rep K as H x v) (R' : Rep K as H y u) (h : Post K as H Q (idxR x y m)) : rIx K v u H Q := by
  unfold idxR at h
  split at h
  . rename_i i
    obtain rfl := rep_int.mp R'
    split at h
    . rename_i xs hs
      split at h
      . rename_i w hw
        obtain ⟨p, vs, rfl, hq, rr⟩ := seq_of S R hs
        have e : ∃ z, atI vs i = some z /\ Rep K as H w z := by
          obtain ⟨j, hj, hx⟩ := Option.bind_eq_some_iff.mp hw
          obtain ⟨z, hz, rz⟩ := rr.get hx
          refine ⟨z, ?_, rz⟩
          unfold atI
          have hj' : ixN vs.length i = some j := by rw [<- rr.length]; exact hj
          rw [hj']
          exact hz
        obtain ⟨z, hz, rz⟩ := e
        rcases hq with hq | hq
        . exact .inl ⟨p, vs, i, z, rfl, rfl, hq, hz, h.ok S rz⟩
        . exact .inr (.inl ⟨p, vs, i, z, rfl, rfl, hq, hz, h.ok S rz⟩)
      . exact h.elim
    . exact h.elim
  . exact h.elim
theorem set_ok {o i w : Wd} {vo vi v : V} {Q : Hp -> Prop} (S : Sim K as m H) (R : Rep K as H o vo) (R' : Rep K as H i vi) (R2 : Rep K as H w v)
    (h : ∀ m', setR o i w m = .ok .non m' -> ∀ H', Step as H as H' -> Sim K as m' H' -> Q H') (hne : ∃ m', setR o i w m = .ok .non m') : rSetL vo vi v H Q := by
  obtain ⟨m', hm'⟩ := hne
  have h := h m' hm'
  unfold setR at hm'
  split at hm'
  . rename_i l k
    split at hm'
    . rename_i xs hl
      split at hm'
      . rename_i j hj
        cases hm'
        obtain ⟨a, ha, rfl⟩ := rep_ref.mp R
        obtain rfl := rep_int.mp R'
        obtain ⟨b, vs, hb, e, rr⟩ := lst_of S hl
        rw [ha] at hb; cases hb
        obtain ⟨T, S'⟩ := S.set ha hl (rr.set j R2)
        refine ⟨a, vs, k, j, rfl, rfl, e, ?_, h _ T S'⟩
        rw [<- rr.length]
        exact hj
      . cases hm'
    . cases hm'
  . cases hm'
def mtV : Mth -> Str × String
  | .append => ("append", "list.append") | .extend => ("extend", "list.extend") | .pop => ("pop", "list.pop") | .reverse => ("reverse", "list.reverse") | .clear => ("clear", "list.clear") | .insert => ("insert", "list.insert")
def rMt (K : PySem.W.Frag) (n : Mth) : V -> List V -> Hp -> VK -> Prop := fun v vs H Q => ∃ as m w ws, Sim K as m H /\ Rep K as H w v /\ RepL K as H ws vs /\ Post K as H Q (mtR n w ws m)
theorem mt_rMt (n : Mth) : MtR X (mtV n).2 (rMt X.K n) := by
  intro pins s σ H v vs u us Q I r rs h
  obtain ⟨as, m, w, ws, S, R, Rs, q⟩ := h
  unfold mtR at q
  split at q
  . rename_i l
    split at q
    . rename_i xs hl
      obtain ⟨a, ha, rfl⟩ := rep_ref.mp R
      obtain ⟨b, zs, hb, e, rr⟩ := lst_of S hl
      rw [ha] at hb; cases hb
      have hz : zs.length <= sizeLine := (I.lstM e).1
      split at q
      . rename_i y
        split at q
        . rename_i hlt
          obtain ⟨z, rfl, rz⟩ := repL_1 Rs
          obtain ⟨T, S'⟩ := S.set ha hl (rr.append (.one rz))
          exact mt_append pins s σ H _ _ u us Q I r rs ⟨a, zs, z, rfl, rfl, e, by rw [<- rr.length]; exact Nat.lt_of_lt_of_le hlt lim_line, q _ _ _ T S' (rep_non.mpr rfl)⟩
        . exact q.elim
      . rename_i k
        split at q
        . rename_i ys hk
          split at q
          . rename_i hle
            obtain ⟨z, rfl, rz⟩ := repL_1 Rs
            obtain ⟨c, hc, rfl⟩ := rep_ref.mp rz
            obtain ⟨c', us', hc', e', rr'⟩ := lst_of S hk
            rw [hc] at hc'; cases hc'
            obtain ⟨T, S'⟩ := S.set ha hl (rr.append rr')
            exact mt_extend pins s σ H _ _ u us Q I r rs ⟨a, c, zs, us', rfl, rfl, e, e', by rw [<- rr.length, <- rr'.length]; exact Nat.le_trans hle lim_line, q _ _ _ T S' (rep_non.mpr rfl)⟩
          . exact q.elim
        . exact q.elim
      . split at q
        . rename_i y hy
          obtain rfl := repL_nil.mp Rs
          obtain ⟨z, hz', rz⟩ := rr.get hy
          obtain ⟨T, S'⟩ := S.set ha hl rr.dropLast
          exact mt_pop pins s σ H _ _ u us Q I r rs ⟨a, zs, z, rfl, rfl, e, by rw [<- rr.length]; exact hz', q _ _ _ T S' (rz.mono S T)⟩
        . exact q.elim
      . obtain rfl := repL_nil.mp Rs
        obtain ⟨T, S'⟩ := S.set ha hl rr.reverse
        exact mt_reverse pins s σ H _ _ u us Q I r rs ⟨a, zs, rfl, rfl, e, q _ _ _ T S' (rep_non.mpr rfl)⟩
      . rename_i k0
        split at q
        . rename_i hk0
          subst hk0
          split at q
          . rename_i y0 r0
            obtain ⟨z, rfl, rz⟩ := repL_1 Rs
            obtain rfl := rep_int.mp rz
            obtain ⟨z0, zr, rfl, ra, rb⟩ := repL_cons.mp rr
            obtain ⟨T, S'⟩ := S.set ha hl rb
            exact mt_popAt pins s σ H _ _ u us Q I r rs ⟨a, z0 :: zr, 0, 0, z0, rfl, rfl, e, by decide, by decide, by simp [seqIndex?], rfl, q _ _ _ T S' (ra.mono S T)⟩
          . exact q.elim
        . exact q.elim
      . rename_i k0 y0
        split at q
        . rename_i hk0
          obtain ⟨rfl, hlt⟩ := hk0
          obtain ⟨z1, z2, rfl, rz1, rz2⟩ := repL_2 Rs
          obtain rfl := rep_int.mp rz1
          obtain ⟨T, S'⟩ := S.set ha hl (repL_cons.mpr ⟨_, _, rfl, rz2, rr⟩)
          exact mt_ins pins s σ H _ _ u us Q I r rs ⟨a, zs, z2, rfl, rfl, e, by rw [<- rr.length]; exact Nat.lt_of_lt_of_le hlt lim_line, q _ _ _ T S' (rep_non.mpr rfl)⟩
        . exact q.elim
      . obtain rfl := repL_nil.mp Rs
        obtain ⟨T, S'⟩ := S.set (ws := []) (vs := []) ha hl (repL_nil.mpr rfl)
        exact mt_clear pins s σ H _ _ u us Q I r rs ⟨a, zs, rfl, rfl, e, q _ _ _ T S' (rep_non.mpr rfl)⟩
      . exact q.elim
    . exact q.elim
  . exact q.elim
def tgT : Tg -> String
  | .int => "int" | .bool => "bool" | .list => "list" | .tuple => "tuple" | .str => "str" | .dict => "dict"
theorem kit_all (K : PySem.W.Frag) (t : Tg) :
    PySem.W.kitOne K (.type "NoneType") (.type (tgT t)) = some false /\ PySem.W.kitOne K (.type "bool") (.type (tgT t)) = some (decide (t = .bool \/ t = .int)) /\ PySem.W.kitOne K (.type "int") (.type (tgT t)) = some (decide (t = .int)) /\
    PySem.W.kitOne K (.type "str") (.type (tgT t)) = some (decide (t = .str)) /\ PySem.W.kitOne K (.type "list") (.type (tgT t)) = some (decide (t = .list)) /\ PySem.W.kitOne K (.type "tuple") (.type (tgT t)) = some (decide (t = .tuple)) := by
  cases t <;> refine ⟨?_, ?_, ?_, ?_, ?_, ?_⟩ <;> kernel_rfl
def rIsi (K : PySem.W.Frag) (t : Tg) : List V -> Hp -> VK -> Prop := fun vs H Q => ∃ as m w v, vs = [v, .ty (tgT t)] /\ Sim K as m H /\ Rep K as H w v /\ Post K as H Q (ofB (isT t w m) m)
theorem isT_at (m : Me) (t : Tg) : isT t .non m = some false /\ (∀ c, isT t (.bl c) m = some (decide (t = .bool \/ t = .int))) /\ (∀ i, isT t (.int i) m = some (decide (t = .int))) /\ (∀ x, isT t (.str x) m = some (decide (t = .str))) /\ (∀ ys, isT t (.tup ys) m = some (decide (t = .tuple))) /\ (∀ ys, isT t (.rol ys) m = some (decide (t = .list))) /\ ∀ l ys, m[l]? = some (.lst ys) -> isT t (.ref l) m = some (decide (t = .list)) := by
  refine ⟨?_, fun c => ?_, fun i => ?_, fun x => ?_, fun ys => ?_, fun ys => ?_, fun l ys h => ?_⟩
  rotate_right
  . have e : isT t (.ref l) m = (match m[l]? with | some (.lst _) => some (decide (t = .list)) | some (.dct _) => some (decide (t = .dict)) | none => none) := by cases t <;> rfl
    rw [e, h]
  all_goals cases t <;> rfl
theorem call_isi (t : Tg) : CallR X (.builtin "isinstance") (rIsi X.K t) := by
  intro pins s σ H xs us Q I r h
  obtain ⟨as, m, w, v, rfl, S, R, q⟩ := h
  obtain ⟨b, hb, q⟩ := ofB_ok S q
  obtain ⟨u, u', rfl, ru, ru'⟩ := vals2 r
  obtain rfl : u' = .type (tgT t) := ru'
  obtain ⟨k1, k2, k3, k4, k5, k6⟩ := kit_all X.K t
  obtain ⟨z1, z2, z3, z4, z5, z6, z7⟩ := isT_at m t
  have fin : ∀ tk, EP X pins σ Q (.bool b) { s with toks := tk } := fun tk => ⟨.bl b, H, I.tok tk, rfl, q⟩
  cases w with
  | non =>
    obtain rfl := rep_non.mp R
    have e : b = false := Option.some.inj (hb.symm.trans z1)
    subst e
    exact isinst_ok I ru .non k1 fin
  | bl c =>
    obtain rfl := rep_bl.mp R
    have e : b = decide (t = .bool \/ t = .int) := Option.some.inj (hb.symm.trans (z2 _))
    subst e
    exact isinst_ok I ru (.bl c) k2 fin
  | int i =>
    obtain rfl := rep_int.mp R
    have e : b = decide (t = .int) := Option.some.inj (hb.symm.trans (z3 _))
    subst e
    exact isinst_ok I ru (.int i) k3 fin
  | str x =>
    obtain rfl := rep_str.mp R
    have e : b = decide (t = .str) := Option.some.inj (hb.symm.trans (z4 _))
    subst e
    exact isinst_ok I ru (.str _) k4 fin
  | tup ys =>
    obtain ⟨a, vs, rfl, hq, rr⟩ := rep_tup.mp R
    have e : b = decide (t = .tuple) := Option.some.inj (hb.symm.trans (z5 _))
    subst e
    obtain rfl : u = .ref a := ru
    obtain ⟨its, _, ⟨o, h1, h2, _⟩, _⟩ := I.tuple hq
    exact PySem.W.kia_one PySem.W.kitx_tuple I.kIn ⟨o, h1, h2⟩ k6 (fun z => nomatch z) fin
  | rol ys =>
    obtain ⟨a, vs, rfl, hq, rr⟩ := rep_rol.mp R
    have e : b = decide (t = .list) := Option.some.inj (hb.symm.trans (z6 _))
    subst e
    obtain rfl : u = .ref a := ru
    obtain ⟨its, _, p, _⟩ := I.list hq.sq
    obtain ⟨o, n, h1, h2, _⟩ := p
    exact PySem.W.kia_one PySem.W.kitx_list I.kIn ⟨o, h1, h2⟩ k5 (fun z => nomatch z) fin
  | ref l =>
    obtain ⟨a, ha, rfl⟩ := rep_ref.mp R
    obtain ⟨us, e2⟩ := S.isLst (List.mem_of_getElem? ha)
    have hl : ∃ ys, m[l]? = some (.lst ys) := by
      have hl : l < m.length := by rw [<- S.len]; exact (List.getElem?_eq_some_iff.mp ha).1
      have z := S.obj l a m[l] ha (by simp [hl])
      cases e : m[l] with
      | lst ys => exact ⟨ys, by rw [<- e]; simp [hl]⟩
      | dct kvs => rw [e] at z; exact z.elim
    obtain ⟨ys, hl⟩ := hl
    have e : b = decide (t = .list) := Option.some.inj (hb.symm.trans (z7 _ _ hl))
    subst e
    exact isinst_ok I ru (.lst e2) k5 fin
end
end Mini
namespace Mini
open PySem PySem.Spec PyProof.Rows L2
structure SeqIt (J : It) (vs : List V) (ok : Hp -> Prop) : Prop where
  go : ∀ i H, ok H -> i < vs.length -> J.go i H
  yld : ∀ i H x H', ok H -> i < vs.length -> J.yld i H x H' -> H' = H /\ vs[i]? = some x
  stop : ∀ i H, ok H -> vs.length <= i -> J.stop i H
def TupIt (K : PySem.W.Frag) (as : List Addr) (H : Hp) (J : It) (xs : List Wd) : Prop :=
  ∃ vs ok, SeqIt J vs ok /\ ok H /\ RepL K as H xs vs /\ ∀ H1 H2, Kp K H1 H2 -> ok H1 -> ok H2
def ItOf (K : PySem.W.Frag) (as : List Addr) (H : Hp) (w : Wd) (J : It) : Prop := match w with
  | .tup xs => TupIt K as H J xs
  | .rol xs => TupIt K as H J xs
  | .ref l => ∃ a, as[l]? = some a /\ J = Itl K a
  | _ => True
def PostI (K : PySem.W.Frag) (as : List Addr) (H : Hp) (R : It -> Hp -> Prop) (r : Rz) : Prop := match r with
  | .ok w m' => (seqOf m' w).isSome = true /\ ∀ as' H' J, Step as H as' H' -> Sim K as' m' H' -> ItOf K as' H' w J -> R J H'
  | _ => False
def iOf (K : PySem.W.Frag) (g : En -> Me -> Rz) : TI := fun σ H R => ∃ as env m, Sim K as m H /\ EnvRep K as H env σ /\ PostI K as H R (g env m)
theorem PI.or {X : Cx} {tg e : Expr} {a b : TI} (h1 : PI X tg e a) (h2 : PI X tg e b) : PI X tg e (fun σ H R => a σ H R \/ b σ H R) := fun pins s σ H R I h => by
  rcases h with h | h
  . exact h1 pins s σ H R I h
  . exact h2 pins s σ H R I h
theorem PI.imp {X : Cx} {tg e : Expr} {a b : TI} (h : PI X tg e a) (k : ∀ σ H R, b σ H R -> a σ H R) : PI X tg e b := fun pins s σ H R I q => h pins s σ H R I (k σ H R q)
theorem pi_of {X : Cx} {tg x : Expr} {g : En -> Me -> Rz} (h : PE X x (tOf X.K g)) : PI X tg x (iOf X.K g) := by
  refine PI.imp (PI.or (pi_list h) (pi_tup h)) fun σ H R q => ?_
  obtain ⟨as, env, m, S, G, P⟩ := q
  cases hr : g env m with
  | no => rw [hr] at P; exact P.elim
  | exc c w m' => rw [hr] at P; exact P.elim
  | ok w m' =>
    rw [hr] at P
    obtain ⟨hs, P⟩ := P
    obtain ⟨xs, hs⟩ := Option.isSome_iff_exists.mp hs
    cases w with
    | tup ys =>
      refine .inr ⟨as, env, m, S, G, ?_⟩
      rw [hr]
      intro as' H' v T S' R'
      obtain ⟨a, vs, rfl, hq, rr⟩ := rep_tup.mp R'
      refine ⟨a, rfl, ⟨vs, hq⟩, P as' H' _ T S' ⟨vs, fun H => SqT X.K H a vs, ⟨fun i H h hi => ⟨vs, vs[i], h, by simp [hi]⟩, fun i H x H' h hi q => ⟨q.1, q.2 vs h⟩, fun i H h hi => ⟨vs, h, hi⟩⟩, hq, rr, fun H1 H2 k h => k.t _ _ h⟩⟩
    | rol ys =>
      refine .inl ⟨as, env, m, S, G, ?_⟩
      rw [hr]
      intro as' H' v T S' R'
      obtain ⟨a, vs, rfl, hq, rr⟩ := rep_rol.mp R'
      refine ⟨a, rfl, ⟨vs, hq.sq⟩, P as' H' _ T S' ⟨vs, fun H => SqF X.K H a vs, ⟨fun i H h hi => ⟨vs, vs[i], h.sq, by simp [hi]⟩, fun i H x H' h hi q => ⟨q.1, q.2 vs h.sq⟩, fun i H h hi => ⟨vs, h.sq, hi⟩⟩, hq, rr, fun H1 H2 k h => k.f _ _ h⟩⟩
    | ref l =>
      refine .inl ⟨as, env, m, S, G, ?_⟩
      rw [hr]
      intro as' H' v T S' R'
      obtain ⟨a, ha, rfl⟩ := rep_ref.mp R'
      obtain ⟨us, e⟩ := S'.isLst (List.mem_of_getElem? ha)
      exact ⟨a, rfl, ⟨us, SqL.of e⟩, P as' H' _ T S' ⟨a, ha, rfl⟩⟩
    | non => cases hs
    | bl b => cases hs
    | int i => cases hs
    | str x => cases hs
theorem rngL_rep {K : PySem.W.Frag} {as : List Addr} {H : Hp} (st : Int) : ∀ (n : Nat) (lo : Int), RepL K as H (rngL lo st n) ((List.range n).map fun (i : Nat) => V.int (lo + st * (i : Int)))
  | 0, lo => repL_nil.mpr rfl
  | n + 1, lo => by
    rw [List.range_succ_eq_map, List.map_cons, List.map_map]
    refine repL_cons.mpr ⟨_, _, rfl, rep_int.mpr (by simp), ?_⟩
    have e : ((fun (i : Nat) => V.int (lo + st * (i : Int))) ∘ Nat.succ) = fun (i : Nat) => V.int (lo + st + st * (i : Int)) := by
      funext i
      show V.int (lo + st * ((i.succ : Nat) : Int)) = _
      congr 1
      rw [Nat.succ_eq_add_one, Int.natCast_add, Int.mul_add]
      omega
    rw [e]
    exact rngL_rep st n (lo + st)
theorem seqIt_rng {K : PySem.W.Frag} (lo : Int) (n : Nat) : SeqIt (Itr lo n) ((List.range n).map fun (i : Nat) => V.int (lo + 1 * (i : Int))) (fun _ => True) := by
  refine ⟨fun i H _ hi => ?_, fun i H x H' _ hi q => ?_, fun i H _ hi => ?_⟩
  . show i < n
    simpa using hi
  . obtain ⟨e, rfl⟩ := q
    refine ⟨e, ?_⟩
    have hi' : i < n := by simpa using hi
    rw [List.getElem?_map, List.getElem?_range hi']
    simp
  . show n <= i
    simpa using hi
end Mini
namespace Mini
open PySem PySem.Spec PyProof.Rows L2
structure Ctx where
  fns : List Str
  cons : List (Str × Int)
inductive Nd where
  | e (x : Expr) | a (xs : List Expr)
def glB (sc : Scope) (x : Str) : Bool := decide (sc.names.lookup x = some .globalImplicit)
def visB (sc : Scope) (x : Str) : Bool := decide (sc.names.lookup x = some .local) || (decide (sc.names.lookup x = some .cell) || decide (sc.names.lookup x = some .free))
def okName (x : Str) : Bool := !(x == ("__debug__" : Str)) && !(x == ("__classdict__" : Str)) && !(x == ("__name__" : Str))
def notStar : Expr -> Bool
  | .Starred _ _ => false
  | _ => true
def notSet : Expr -> Bool
  | .Set _ _ _ => false
  | _ => true
def notSlice : Expr -> Bool
  | .Slice _ _ _ _ => false
  | _ => true
def notCall : Expr -> Bool
  | .Call _ _ _ _ => false
  | _ => true
def isRng : Ex -> Bool
  | .rng _ _ _ => true
  | _ => false
def isIf : Ex -> Bool
  | .ife _ _ _ => true
  | _ => false
def relabelS (scope sc : Scope) : Scope :=
  { scope with names := scope.names.map fun (n, k) => if (k == .free && sc.kind == .function && sc.names.lookup n == some .cell) then (n, .cell) else (n, k) }
def blockB (sc : Scope) (N : List Str) (scope : Scope) (xs : List Str) : Bool :=
  decide (scope.kind = .function) && (xs.all (fun x => decide (scope.names.lookup x = some .local) || decide (scope.names.lookup x = some .cell)) &&
  (scope.names.all (fun y => !(decide (y.2 = .local)) || decide (scope.names.lookup y.1 = some .local)) &&
  (scope.names.all (fun y => !(decide (y.2 = .free)) || (decide (sc.names.lookup y.1 = some .cell) || decide (sc.names.lookup y.1 = some .free))) &&
  (scope.names.all (fun y => !(decide (y.2 = .cell)) || !(decide (scope.names.lookup y.1 = some .free))) &&
  (N.all (fun y => decide (y ∈ xs) || (!(decide (scope.names.lookup y = some .local)) && !(decide (scope.names.lookup y = some .cell)))) &&
  (decide (compN N xs).Nodup && xs.all (fun x => decide (scope.names.lookup (dum x) = none))))))))
theorem blockB_ok {X : Cx} {scope : Scope} {xs : List Str} (h : blockB X.env.scope X.N scope xs = true) : BlockOk X scope xs := by
  unfold blockB at h
  simp only [Bool.and_eq_true, Bool.or_eq_true, decide_eq_true_eq, List.all_eq_true, Bool.not_eq_true', decide_eq_false_iff_not] at h
  obtain ⟨h1, h2, h3, h4, h5, h6, h7, h8⟩ := h
  refine ⟨h1, h2, fun y hy e => ?_, fun y hy e => ?_, fun y hy e => ?_, fun y hy e => ?_, h7, h8⟩
  . rcases h3 y hy with z | z
    . exact absurd e z
    . exact z
  . rcases h4 y hy with z | z
    . exact absurd e z
    . exact z
  . rcases h6 y hy with z | z
    . exact absurd z e
    . exact z
  . rcases h5 y hy with z | z
    . exact absurd e z
    . exact z
def spOf (K : PySem.W.Frag) (g : List Wd -> Me -> Rz) : Sp := fun vs H Q _ => ∃ as m ws, Sim K as m H /\ RepL K as H ws vs /\ Post K as H Q (g ws m)
def bltNames : List Str := ["len", "int", "bool", "list", "tuple", "abs", "max", "min", "isinstance", "range", "str", "dict", "sum", "all", "zip", "enumerate"]
structure CtxOk (C : Ctx) (X : Cx) (cl : Nat -> List Wd -> Me -> Rz) (d : Nat) : Prop where
  room : Room d X.A
  calm : X.calm = true
  fn : ∀ (k : Nat) (nm : Str), C.fns[k]? = some nm -> ∃ f fd ps, X.mg nm = some (.ref f) /\ PySem.W.keepIn X.K (.ref f) = true /\ Binds X.K fd ps [] /\ FnOk X.prog X.w X.K X.mg X.base CX0 d f fd ps (spOf X.K (cl k))
  con : ∀ (nm : Str) (i : Int), C.cons.lookup nm = some i -> ∃ t, X.mg nm = some (.int i t)
  blt : ∀ nm ∈ bltNames, X.mg nm = none
theorem CtxOk.comp {C : Ctx} {X Xc : Cx} {cl : Nat -> List Wd -> Me -> Rz} {d : Nat} {scope : Scope} {x : List Str} (h : CtxOk C X cl d) (c : CompOf X scope x Xc) : CtxOk C Xc cl d := by
  refine ⟨by rw [c.A]; exact h.room, c.calm, fun k nm e => ?_, fun nm i e => ?_, fun nm e => ?_⟩
  . obtain ⟨f, fd, ps, h1, h2, h3, h4⟩ := h.fn k nm e
    exact ⟨f, fd, ps, by rw [c.mg]; exact h1, by rw [c.K]; exact h2, by rw [c.K]; exact h3, by rw [c.prog, c.w, c.K, c.mg, c.base]; exact h4⟩
  . rw [c.mg]; exact h.con nm i e
  . rw [c.mg]; exact h.blt nm e
def PostA (K : PySem.W.Frag) (as : List Addr) (H : Hp) (Q : List V -> Hp -> Prop) (r : Rz) : Prop := match r with
  | .ok w m' => ∀ as' H' vs, Step as H as' H' -> Sim K as' m' H' -> RepL K as' H' (argsOf w) vs -> Q vs H'
  | _ => False
def tOfA (K : PySem.W.Frag) (g : En -> Me -> Rz) : TA := fun σ H Q => ∃ as env m, Sim K as m H /\ EnvRep K as H env σ /\ PostA K as H Q (g env m)
theorem PostA.bind {K : PySem.W.Frag} {as : List Addr} {H : Hp} {Q : VK} {Q1 : List V -> Hp -> Prop} {r : Rz} {f : Wd -> Me -> Rz} (h : Post K as H Q (r.bind f))
    (k : ∀ w m' as' H' vs, Step as H as' H' -> Sim K as' m' H' -> RepL K as' H' (argsOf w) vs -> Post K as' H' Q (f w m') -> Q1 vs H') : PostA K as H Q1 r := by
  cases r with
  | ok w m' => exact fun as2 H2 v U S R => k w m' as2 H2 v U S R (Post.step (r := f w m') h U)
  | exc c w m' => exact h
  | no => exact h
def Snd (cl : Nat -> List Wd -> Me -> Rz) (X : Cx) (e : Ex) : Nd -> Prop
  | .e x => (isRng e = false -> PE X x (tOf X.K (evE cl e)) /\ (isIf e = false -> PT X x (tOfT X.K (evE cl e))) /\ (∀ op vs pos, x = .BoolOp op vs pos -> PW X x (tOfT X.K (evE cl e)))) /\ ∀ tg, PI X tg x (iOf X.K (evE cl e))
  | .a xs => PA X xs (tOfA X.K (evE cl e))
theorem Snd.of {cl : Nat -> List Wd -> Me -> Rz} {X : Cx} {e : Ex} {x : Expr} (h : PE X x (tOf X.K (evE cl e))) (ht : ∀ whole, isTrue x X.env whole = (do let v <- whole; standAt x.pos; holding [v] (truthy v)) := by intro _; rfl)
    (hb : ∀ op vs pos, x ≠ .BoolOp op vs pos := by intros; intro z; cases z) : Snd cl X e (.e x) :=
  ⟨fun _ => ⟨h, fun _ => pt_val h ht, fun op vs pos z => absurd z (hb op vs pos)⟩, fun tg => pi_of h⟩
theorem star_cons {e : Expr} {es : List Expr} {env : Env} (h : notStar e = true) : starEach (e :: es) env = (false, eval e env) :: starEach es env := by
  cases e <;> first | rfl | cases h
theorem star_any {pos : Pos} {env : Env} : ∀ {es : List Expr}, es.all notStar = true -> (backTo pos (starEach es env)).any (·.1) = false
  | [], _ => rfl
  | e :: es, h => by
    rw [List.all_cons, Bool.and_eq_true] at h
    rw [star_cons h.1]
    show (false || (backTo pos (starEach es env)).any (·.1)) = false
    rw [star_any h.2]; rfl
end Mini
namespace Mini
open PySem PySem.Spec PyProof.Rows L2
section
variable {cl : Nat -> List Wd -> Me -> Rz} {X : Cx} {a b c : Ex} {x y z : Expr} {pos : Pos}
theorem se_bin {op : Bo} (ha : PE X x (tOf X.K (evE cl a))) (hb : PE X y (tOf X.K (evE cl b))) : PE X (.BinOp x (opK op) y pos) (tOf X.K (evE cl (.bin op a b))) := by
  refine PE.imp (pe_op (op_rB op) ha hb) fun σ H Q h => ?_
  obtain ⟨as, env, m, S, G, P⟩ := h
  refine ⟨as, env, m, S, G, Post.bind P fun x m1 as1 H1 v T1 S1 R1 P1 => ?_⟩
  refine ⟨as1, env, m1, S1, G.mono S T1, Post.bind P1 fun y m2 as2 H2 u T2 S2 R2 P2 => ?_⟩
  exact bop_ok S2 (R1.mono S1 T2) R2 P2
theorem se_neg (ha : PE X x (tOf X.K (evE cl a))) : PE X (.UnaryOp .USub x pos) (tOf X.K (evE cl (.neg a))) := by
  refine PE.imp (pe_un un_neg ha) fun σ H Q h => ?_
  obtain ⟨as, env, m, S, G, P⟩ := h
  refine ⟨as, env, m, S, G, Post.bind P fun x m1 as1 H1 v T1 S1 R1 P1 => ?_⟩
  cases x with
  | int i =>
    obtain rfl := rep_int.mp R1
    exact ⟨i, rfl, P1.ok S1 (rep_int.mpr rfl)⟩
  | _ => exact P1.elim
theorem se_not (ha : PE X x (tOf X.K (evE cl a))) : PE X (.UnaryOp .Not x pos) (tOf X.K (evE cl (.not a))) := by
  refine PE.imp (pe_not ha) fun σ H Q h => ?_
  obtain ⟨as, env, m, S, G, P⟩ := h
  refine ⟨as, env, m, S, G, Post.bind P fun x m1 as1 H1 v T1 S1 R1 P1 => ?_⟩
  cases x with
  | bl k =>
    obtain rfl := rep_bl.mp R1
    exact ⟨k, rfl, P1.ok S1 (rep_bl.mpr rfl)⟩
  | _ => exact P1.elim
theorem st_not (ha : PT X x (tOfT X.K (evE cl a))) : PT X (.UnaryOp .Not x pos) (tOfT X.K (evE cl (.not a))) := by
  refine PT.imp (pt_not ha) fun σ H Q h => ?_
  obtain ⟨as, env, m, S, G, P⟩ := h
  refine ⟨as, env, m, S, G, Post.bind P fun x m1 as1 H1 v T1 S1 R1 P1 => ?_⟩
  cases x with
  | bl k =>
    obtain rfl := rep_bl.mp R1
    obtain ⟨b, e, q⟩ := P1.ok S1 (rep_bl.mpr rfl)
    cases e
    exact ⟨k, rfl, q⟩
  | _ => exact P1.elim
theorem and_bind {K : PySem.W.Frag} {σ : St} {H : Hp} {Q : VK} (h : tOf K (evE cl (.and a b)) σ H Q) : tOf K (evE cl a) σ H fun x H1 => ∃ k, x = .bl k /\ if k = true then tOf K (evE cl b) σ H1 Q else Q (.bl false) H1 := by
  obtain ⟨as, env, m, S, G, P⟩ := h
  refine ⟨as, env, m, S, G, Post.bind P fun x m1 as1 H1 v T1 S1 R1 P1 => ?_⟩
  cases x with
  | bl k =>
    obtain rfl := rep_bl.mp R1
    refine ⟨k, rfl, ?_⟩
    cases k with
    | true => exact iteT ⟨as1, env, m1, S1, G.mono S T1, P1⟩
    | false => exact iteF (P1.ok S1 (rep_bl.mpr rfl))
  | _ => exact P1.elim
theorem or_bind {K : PySem.W.Frag} {σ : St} {H : Hp} {Q : VK} (h : tOf K (evE cl (.or a b)) σ H Q) : tOf K (evE cl a) σ H fun x H1 => ∃ k, x = .bl k /\ if k = true then Q (.bl true) H1 else tOf K (evE cl b) σ H1 Q := by
  obtain ⟨as, env, m, S, G, P⟩ := h
  refine ⟨as, env, m, S, G, Post.bind P fun x m1 as1 H1 v T1 S1 R1 P1 => ?_⟩
  cases x with
  | bl k =>
    obtain rfl := rep_bl.mp R1
    refine ⟨k, rfl, ?_⟩
    cases k with
    | false => exact iteF ⟨as1, env, m1, S1, G.mono S T1, P1⟩
    | true => exact iteT (P1.ok S1 (rep_bl.mpr rfl))
  | _ => exact P1.elim
theorem tOf_mono {K : PySem.W.Frag} {g : En -> Me -> Rz} {σ : St} {H : Hp} {Q Q' : VK} (h : tOf K g σ H Q) (k : ∀ v H, Q v H -> Q' v H) : tOf K g σ H Q' := by
  obtain ⟨as, env, m, S, G, P⟩ := h
  refine ⟨as, env, m, S, G, ?_⟩
  cases hr : g env m with
  | ok w m' => rw [hr] at P; exact fun as' H' v T S' R => k _ _ (P as' H' v T S' R)
  | exc c w m' => rw [hr] at P; exact P
  | no => rw [hr] at P; exact P
theorem se_and {r : List Expr} (ha : PE X x (tOf X.K (evE cl a))) (hb : PE X (.BoolOp .And (y :: r) pos) (tOf X.K (evE cl b))) : PE X (.BoolOp .And (x :: y :: r) pos) (tOf X.K (evE cl (.and a b))) :=
  PE.imp (pe_and ha hb) fun σ H Q h => and_bind h
theorem se_or {r : List Expr} (ha : PE X x (tOf X.K (evE cl a))) (hb : PE X (.BoolOp .Or (y :: r) pos) (tOf X.K (evE cl b))) : PE X (.BoolOp .Or (x :: y :: r) pos) (tOf X.K (evE cl (.or a b))) :=
  PE.imp (pe_or ha hb) fun σ H Q h => or_bind h
theorem PW.imp {e : Expr} {t t' : TT} (h : PW X e t) (k : ∀ σ H Q, t' σ H Q -> t σ H Q) : PW X e t' := fun whole pins s σ H Q I q => h whole pins s σ H Q I (k σ H Q q)
theorem sw_and {r : List Expr} (ha : PT X x (tOfT X.K (evE cl a))) (hb : PW X (.BoolOp .And (y :: r) pos) (tOfT X.K (evE cl b))) : PW X (.BoolOp .And (x :: y :: r) pos) (tOfT X.K (evE cl (.and a b))) :=
  PW.imp (pw_and ha hb) fun σ H Q h => by
    refine tOf_mono (and_bind h) fun v H1 q => ?_
    obtain ⟨k, e, q⟩ := q
    refine ⟨k, e, ?_⟩
    cases k with
    | true => rw [if_pos rfl] at q ⊢; exact q
    | false =>
      rw [if_neg Bool.false_ne_true] at q ⊢
      obtain ⟨b', e', q⟩ := q
      cases e'
      exact q
theorem sw_or {r : List Expr} (ha : PT X x (tOfT X.K (evE cl a))) (hb : PW X (.BoolOp .Or (y :: r) pos) (tOfT X.K (evE cl b))) : PW X (.BoolOp .Or (x :: y :: r) pos) (tOfT X.K (evE cl (.or a b))) :=
  PW.imp (pw_or ha hb) fun σ H Q h => by
    refine tOf_mono (or_bind h) fun v H1 q => ?_
    obtain ⟨k, e, q⟩ := q
    refine ⟨k, e, ?_⟩
    cases k with
    | false => rw [if_neg Bool.false_ne_true] at q ⊢; exact q
    | true =>
      rw [if_pos rfl] at q ⊢
      obtain ⟨b', e', q⟩ := q
      cases e'
      exact q
theorem marks {op : CmpOp} {e : Expr} (h : notSet e = true) : behindInMarks op e = false := by
  cases e <;> first | rfl | cases h
theorem cmp_bind {K : PySem.W.Frag} {op : Co} {σ : St} {H : Hp} {Q : VK} (h : tOf K (evE cl (.cmp op a b)) σ H Q) : tOp (rC K op) (tOf K (evE cl a)) (tOf K (evE cl b)) σ H Q := by
  obtain ⟨as, env, m, S, G, P⟩ := h
  refine ⟨as, env, m, S, G, Post.bind P fun x m1 as1 H1 v T1 S1 R1 P1 => ?_⟩
  refine ⟨as1, env, m1, S1, G.mono S T1, Post.bind P1 fun y m2 as2 H2 u T2 S2 R2 P2 => ?_⟩
  exact ⟨as2, m2, x, y, S2, R1.mono S1 T2, R2, P2⟩
theorem se_cmp {op : Co} (hu : X.A.units + 64 < cLine) (ha : PE X x (tOf X.K (evE cl a))) (hb : PE X y (tOf X.K (evE cl b))) (hs : notSet y = true) : PE X (.Compare x [cK op] [y] pos) (tOf X.K (evE cl (.cmp op a b))) :=
  PE.imp (pe_cmpR (op_rC hu op) ha hb (marks hs)) fun σ H Q h => cmp_bind h
theorem st_cmp {op : Co} (hu : X.A.units + 64 < cLine) (ha : PE X x (tOf X.K (evE cl a))) (hb : PE X y (tOf X.K (evE cl b))) (hs : notSet y = true) : PT X (.Compare x [cK op] [y] pos) (tOfT X.K (evE cl (.cmp op a b))) :=
  PT.imp (pt_cmpR (op_rC hu op) ha hb (marks hs)) fun σ H Q h => cmp_bind h
end
end Mini
namespace Mini
open PySem PySem.Spec PyProof.Rows L2
section
variable {cl : Nat -> List Wd -> Me -> Rz} {X : Cx} {a b c : Ex} {x y z : Expr} {pos : Pos}
theorem chain_bind {K : PySem.W.Frag} {p q : Co} {σ : St} {H : Hp} {Q : VK} (h : tOf K (evE cl (.chain p q a b c)) σ H Q) : tChain (rC K p) (rC K q) (tOf K (evE cl a)) (tOf K (evE cl b)) (tOf K (evE cl c)) σ H Q := by
  obtain ⟨as, env, m, S, G, P⟩ := h
  refine ⟨as, env, m, S, G, Post.bind P fun x m1 as1 H1 v T1 S1 R1 P1 => ?_⟩
  refine ⟨as1, env, m1, S1, G.mono S T1, Post.bind P1 fun y m2 as2 H2 u T2 S2 R2 P2 => ?_⟩
  refine ⟨as2, m2, x, y, S2, R1.mono S1 T2, R2, Post.bind P2 fun z m3 as3 H3 w T3 S3 R3 P3 => ?_⟩
  cases z with
  | bl k =>
    obtain rfl := rep_bl.mp R3
    refine ⟨k, rfl, ?_⟩
    cases k with
    | false => exact iteF (P3.ok S3 (rep_bl.mpr rfl))
    | true =>
      refine iteT ⟨as3, env, m3, S3, ((G.mono S T1).mono S1 T2).mono S2 T3, Post.bind P3 fun t m4 as4 H4 r T4 S4 R4 P4 => ?_⟩
      exact ⟨as4, m4, y, t, S4, (R2.mono S2 T3).mono S3 T4, R4, P4⟩
  | _ => exact P3.elim
theorem lmarks {o o' : CmpOp} (h : notSet z = true) : lastMarks [o, o'] [y, z] = false := by
  show behindInMarks o' z = false
  exact marks h
theorem se_chain {p q : Co} (hu : X.A.units + 64 < cLine) (ha : PE X x (tOf X.K (evE cl a))) (hb : PE X y (tOf X.K (evE cl b))) (hc : PE X z (tOf X.K (evE cl c))) (hs : notSet z = true) :
    PE X (.Compare x [cK p, cK q] [y, z] pos) (tOf X.K (evE cl (.chain p q a b c))) :=
  PE.imp (pe_chain (op_rC hu p) (op_rC hu q) ha hb hc (lmarks hs)) fun σ H Q h => chain_bind h
theorem st_chain {p q : Co} (hu : X.A.units + 64 < cLine) (ha : PE X x (tOf X.K (evE cl a))) (hb : PE X y (tOf X.K (evE cl b))) (hc : PE X z (tOf X.K (evE cl c))) (hs : notSet z = true) :
    PT X (.Compare x [cK p, cK q] [y, z] pos) (tOfT X.K (evE cl (.chain p q a b c))) :=
  PT.imp (pt_chain (op_rC hu p) (op_rC hu q) ha hb hc (lmarks hs)) fun σ H Q h => chain_bind h
theorem ite_bind {K : PySem.W.Frag} {σ : St} {H : Hp} {Q : VK} (h : tOf K (evE cl (.ife c a b)) σ H Q) : tIf (tOfT K (evE cl c)) (tOf K (evE cl a)) (tOf K (evE cl b)) σ H Q := by
  obtain ⟨as, env, m, S, G, P⟩ := h
  refine ⟨as, env, m, S, G, Post.bind P fun x m1 as1 H1 v T1 S1 R1 P1 => ?_⟩
  cases x with
  | bl k =>
    obtain rfl := rep_bl.mp R1
    refine ⟨k, rfl, ?_⟩
    cases k with
    | true => exact iteT ⟨as1, env, m1, S1, G.mono S T1, P1⟩
    | false => exact iteF ⟨as1, env, m1, S1, G.mono S T1, P1⟩
  | _ => exact P1.elim
theorem se_ite (hc : PT X z (tOfT X.K (evE cl c))) (ha : PE X x (tOf X.K (evE cl a))) (hb : PE X y (tOf X.K (evE cl b))) : PE X (.IfExp z x y pos) (tOf X.K (evE cl (.ife c a b))) :=
  PE.imp (pe_ifExp hc ha hb) fun σ H Q h => ite_bind h
theorem sa_unit : PA X [] (tOfA X.K (evE cl .unit)) := PA.imp pa_nil fun σ H Q h => by
  obtain ⟨as, env, m, S, G, P⟩ := h
  exact P as H [] .refl S (repL_nil.mpr rfl)
theorem sa_pair {xs : List Expr} (ha : PE X x (tOf X.K (evE cl a))) (hb : PA X xs (tOfA X.K (evE cl b))) (hs : notStar x = true) : PA X (x :: xs) (tOfA X.K (evE cl (.pair a b))) := by
  refine PA.imp (pa_cons ha hb (star_cons hs)) fun σ H Q h => ?_
  obtain ⟨as, env, m, S, G, P⟩ := h
  refine ⟨as, env, m, S, G, ?_⟩
  have P' : PostA X.K as H Q ((evE cl a env m).bind fun x m1 => (evE cl b env m1).bind fun y m2 => .ok (.tup (x :: argsOf y)) m2) := P
  cases hr : evE cl a env m with
  | no => rw [hr] at P'; exact P'
  | exc c w m' => rw [hr] at P'; exact P'
  | ok w m1 =>
    rw [hr] at P'
    intro as1 H1 v T1 S1 R1
    refine ⟨as1, env, m1, S1, G.mono S T1, ?_⟩
    simp only [Rz.bind] at P'
    cases hr2 : evE cl b env m1 with
    | no => rw [hr2] at P'; exact P'
    | exc c w' m' => rw [hr2] at P'; exact P'
    | ok w' m2 =>
      rw [hr2] at P'
      intro as2 H2 vs T2 S2 R2
      exact P' as2 H2 (v :: vs) (T1.trans T2) S2 (repL_cons.mpr ⟨v, vs, rfl, R1.mono S1 T2, R2⟩)
theorem se_call {C : Ctx} {d k : Nat} {nm : Str} {p : Pos} {xs : List Expr} (hC : CtxOk C X cl d) (hk : C.fns[k]? = some nm) (hg : X.env.scope.names.lookup nm = some .globalImplicit) (hn : okName nm = true)
    (hs : (x :: xs).all notStar = true) (ha : PA X (x :: xs) (tOfA X.K (evE cl a))) : PE X (.Call (.Name nm p) (x :: xs) [] pos) (tOf X.K (evE cl (.call k a))) := by
  obtain ⟨f, fd, ps, h1, h2, h3, h4⟩ := hC.fn k nm hk
  have hs' := hs
  rw [List.all_cons, Bool.and_eq_true] at hs'
  have hdb : (nm == ("__debug__" : Str)) = false := by
    unfold okName at hn
    simp only [Bool.and_eq_true, Bool.not_eq_true'] at hn
    exact hn.1.1
  refine PE.imp (pe_call h4 hC.room hg h1 h2 h3 .nil (pass0 (X := X)) ha hdb (star_cons hs'.1) (star_any hs'.2)) fun σ H Q h => ?_
  obtain ⟨as, env, m, S, G, P⟩ := h
  refine ⟨as, env, m, S, G, PostA.bind P fun w m1 as1 H1 vs T1 S1 R1 P1 => ?_⟩
  refine ⟨as1, m1, argsOf w, S1, ?_, P1⟩
  rw [List.append_nil]
  exact R1
theorem okName_of {nm : Str} (hn : okName nm = true) : (nm == ("__debug__" : Str)) = false /\ (nm == ("__classdict__" : Str)) = false /\ nm ≠ "__name__" := by
  unfold okName at hn
  simp only [Bool.and_eq_true, Bool.not_eq_true'] at hn
  exact ⟨hn.1.1, hn.1.2, by simpa using hn.2⟩
theorem se_blt {C : Ctx} {d : Nat} {bf : Blf} {nm : Str} {f : Value} {p : Pos} {xs : List Expr} (hC : CtxOk C X cl d) (hb : bltV bf = some (nm, f)) (hg : X.env.scope.names.lookup nm = some .globalImplicit) (hn : okName nm = true)
    (hs : (x :: xs).all notStar = true) (ha : PA X (x :: xs) (tOfA X.K (evE cl a))) : PE X (.Call (.Name nm p) (x :: xs) [] pos) (tOf X.K (evE cl (.blt bf a))) := by
  obtain ⟨n1, n2, n3⟩ := okName_of hn
  have hs' := hs
  rw [List.all_cons, Bool.and_eq_true] at hs'
  have hc := call_rBl hC.calm hb
  have go : PE X (.Call (.Name nm p) (x :: xs) [] pos) (tCB (rBl X.K bf) (tOfA X.K (evE cl a))) := by
    cases bf with
    | len => cases hb; exact pe_callB hc hg (hC.blt _ (by simp [bltNames])) PySem.boot_len ha n3 n1 (star_cons hs'.1) (star_any hs'.2)
    | int => cases hb; exact pe_callTy hc hg (hC.blt _ (by simp [bltNames])) PyProof.Rows.boot_int ha n3 n1 (star_cons hs'.1) (star_any hs'.2)
    | list => cases hb; exact pe_callTy hc hg (hC.blt _ (by simp [bltNames])) PyProof.Rows.boot_list ha n3 n1 (star_cons hs'.1) (star_any hs'.2)
    | tuple => cases hb; exact pe_callTy hc hg (hC.blt _ (by simp [bltNames])) PyProof.Rows.boot_tuple ha n3 n1 (star_cons hs'.1) (star_any hs'.2)
    | abs => cases hb; exact pe_callB hc hg (hC.blt _ (by simp [bltNames])) PyProof.Rows.boot_abs ha n3 n1 (star_cons hs'.1) (star_any hs'.2)
    | max2 => cases hb; exact pe_callB hc hg (hC.blt _ (by simp [bltNames])) PyProof.Rows.boot_max ha n3 n1 (star_cons hs'.1) (star_any hs'.2)
    | sum => cases hb; exact pe_callB hc hg (hC.blt _ (by simp [bltNames])) PyProof.Rows.boot_sum ha n3 n1 (star_cons hs'.1) (star_any hs'.2)
    | all => cases hb; exact pe_callB hc hg (hC.blt _ (by simp [bltNames])) PyProof.Rows.boot_all ha n3 n1 (star_cons hs'.1) (star_any hs'.2)
    | min2 => cases hb; exact pe_callB hc hg (hC.blt _ (by simp [bltNames])) PyProof.Rows.boot_min ha n3 n1 (star_cons hs'.1) (star_any hs'.2)
    | _ => cases hb
  refine PE.imp go fun σ H Q h => ?_
  obtain ⟨as, env, m, S, G, P⟩ := h
  refine ⟨as, env, m, S, G, PostA.bind P fun w m1 as1 H1 vs T1 S1 R1 P1 => ?_⟩
  exact ⟨as1, m1, argsOf w, S1, R1, P1⟩
theorem boot_tg (t : Tg) : bootBuiltins (Str.ofString (tgT t)) = some (.type (tgT t)) := by
  cases t <;> decide +kernel
theorem se_isi {C : Ctx} {d : Nat} {t : Tg} {p p' : Pos} (hC : CtxOk C X cl d) (hg : X.env.scope.names.lookup ("isinstance" : Str) = some .globalImplicit) (hg' : X.env.scope.names.lookup (Str.ofString (tgT t)) = some .globalImplicit)
    (hs : notStar x = true) (ha : PE X x (tOf X.K (evE cl a))) : PE X (.Call (.Name "isinstance" p) [x, .Name (Str.ofString (tgT t)) p'] [] pos) (tOf X.K (evE cl (.isi t a))) := by
  have hm : X.mg (Str.ofString (tgT t)) = none := hC.blt _ (by cases t <;> decide +kernel)
  have hty : PE X (.Name (Str.ofString (tgT t)) p') (tC (.ty (tgT t))) := pe_bltn hg' hm (boot_tg t) rfl (by cases t <;> decide +kernel) (by cases t <;> decide +kernel)
  refine PE.imp (pe_callB (call_isi t) hg (hC.blt _ (by simp [bltNames])) PyProof.Rows.boot_isinstance (pa_cons ha (pa_cons hty pa_nil) (star_cons hs)) (by decide +kernel) (by decide +kernel) (star_cons hs) rfl) fun σ H Q h => ?_
  obtain ⟨as, env, m, S, G, P⟩ := h
  refine ⟨as, env, m, S, G, Post.bind P fun w m1 as1 H1 v T1 S1 R1 P1 => ?_⟩
  exact ⟨as1, m1, w, v, rfl, S1, R1, P1⟩
theorem se_lst {xs : List Expr} (ha : PA X xs (tOfA X.K (evE cl a))) : PE X (.List xs pos) (tOf X.K (evE cl (.lst a))) := by
  refine PE.imp (pe_lst ha) fun σ H Q h => ?_
  obtain ⟨as, env, m, S, G, P⟩ := h
  refine ⟨as, env, m, S, G, PostA.bind P fun w m1 as1 H1 vs T1 S1 R1 P1 => ?_⟩
  obtain ⟨h1, h2⟩ := alloc_ok S1 R1 P1
  exact ⟨Nat.le_trans h1 lim_line, h2⟩
theorem se_tup {xs : List Expr} {k : Nat} (ha : PA X xs (tOfA X.K (evE cl a))) : PE X (.Tuple xs k pos) (tOf X.K (evE cl (.tup a))) := by
  refine PE.imp (pe_tup ha) fun σ H Q h => ?_
  obtain ⟨as, env, m, S, G, P⟩ := h
  refine ⟨as, env, m, S, G, PostA.bind P fun w m1 as1 H1 vs T1 S1 R1 P1 => ?_⟩
  split at P1
  . rename_i hl
    refine ⟨by rw [<- R1.length]; exact Nat.le_trans hl lim_line, fun p hp => ?_⟩
    obtain ⟨T, S', R'⟩ := S1.tup hp R1
    exact P1 _ _ _ T S' R'
  . exact P1.elim
theorem se_idx (ha : PE X x (tOf X.K (evE cl a))) (hb : PE X y (tOf X.K (evE cl b))) (hs : notSlice y = true) : PE X (.Subscript x y pos) (tOf X.K (evE cl (.idx a b))) := by
  have hp : PlainIx y := fun o i => by cases y <;> first | rfl | cases hs
  refine PE.imp (pe_ix ix_seq ha hb hp) fun σ H Q h => ?_
  obtain ⟨as, env, m, S, G, P⟩ := h
  refine ⟨as, env, m, S, G, Post.bind P fun x m1 as1 H1 v T1 S1 R1 P1 => ?_⟩
  refine ⟨as1, env, m1, S1, G.mono S T1, Post.bind P1 fun y m2 as2 H2 u T2 S2 R2 P2 => ?_⟩
  exact idx_ok S2 (R1.mono S1 T2) R2 P2
end
end Mini
namespace Mini
open PySem PySem.Spec PyProof.Rows L2
section
variable {cl : Nat -> List Wd -> Me -> Rz} {X : Cx} {a b c : Ex} {x y z : Expr} {pos : Pos}
theorem sl_ok {K : PySem.W.Frag} {as : List Addr} {H : Hp} {m : Me} {Q : VK} {w : Wd} {v : V} {lo hi : Option Int} (S : Sim K as m H) (R : Rep K as H w v) (h : Post K as H Q (slR w lo hi m)) : rSlL K v lo hi H Q := by
  have hs : ∀ (n d : Nat) (o : Option Int), sIx n d o = HT.sIx n d o := fun n d o => by cases o <;> rfl
  unfold slR at h
  split at h
  . rename_i xs hx
    have hsq : seqOf m w = some xs := by
      cases w with
      | rol ys => exact hx
      | ref l => exact hx
      | _ => cases hx
    have key : ∃ p vs, v = .ref p /\ SqL K H p vs /\ RepL K as H xs vs := by
      cases w with
      | rol ys =>
        cases hx
        obtain ⟨p, vs, rfl, q, r⟩ := rep_rol.mp R
        exact ⟨p, vs, rfl, q.sq, r⟩
      | ref l =>
        obtain ⟨p, hp, rfl⟩ := rep_ref.mp R
        obtain ⟨p', vs, hp', e, r⟩ := lst_of S (lstAt_some hx)
        rw [hp] at hp'; cases hp'
        exact ⟨p, vs, rfl, SqL.of e, r⟩
      | _ => cases hx
    obtain ⟨p, vs, rfl, q, r⟩ := key
    refine ⟨p, vs, rfl, q, ?_⟩
    have e : (vs.drop (sIx xs.length 0 lo)).take (sIx xs.length xs.length hi - sIx xs.length 0 lo) = cutV vs lo hi := by
      unfold cutV
      rw [r.length, hs, hs]
    rw [<- e]
    exact (alloc_ok S ((r.drop _).take _) h).2
  . exact h.elim
theorem se_slL {p2 : Pos} (ha : PE X x (tOf X.K (evE cl a))) (hb : PE X y (tOf X.K (evE cl b))) : PE X (.Subscript x (.Slice (some y) none none p2) pos) (tOf X.K (evE cl (.slL a b))) := by
  refine PE.imp (pe_slice sl_list ha (po_some hb) po_none) fun σ H Q h => ?_
  obtain ⟨as, env, m, S, G, P⟩ := h
  refine ⟨as, env, m, S, G, Post.bind P fun x m1 as1 H1 v T1 S1 R1 P1 => ?_⟩
  refine ⟨as1, env, m1, S1, G.mono S T1, Post.bind P1 fun y m2 as2 H2 u T2 S2 R2 P2 => ?_⟩
  cases y with
  | int i => exact ⟨i, rep_int.mp R2, sl_ok S2 (R1.mono S1 T2) P2⟩
  | _ => exact P2.elim
theorem se_slH {p2 : Pos} (ha : PE X x (tOf X.K (evE cl a))) (hb : PE X y (tOf X.K (evE cl b))) : PE X (.Subscript x (.Slice none (some y) none p2) pos) (tOf X.K (evE cl (.slH a b))) := by
  refine PE.imp (pe_slice sl_list ha po_none (po_some hb)) fun σ H Q h => ?_
  obtain ⟨as, env, m, S, G, P⟩ := h
  refine ⟨as, env, m, S, G, Post.bind P fun x m1 as1 H1 v T1 S1 R1 P1 => ?_⟩
  refine ⟨as1, env, m1, S1, G.mono S T1, Post.bind P1 fun y m2 as2 H2 u T2 S2 R2 P2 => ?_⟩
  cases y with
  | int i => exact ⟨i, rep_int.mp R2, sl_ok S2 (R1.mono S1 T2) P2⟩
  | _ => exact P2.elim
theorem se_slB {p2 : Pos} (ha : PE X x (tOf X.K (evE cl a))) (hb : PE X y (tOf X.K (evE cl b))) (hc : PE X z (tOf X.K (evE cl c))) : PE X (.Subscript x (.Slice (some y) (some z) none p2) pos) (tOf X.K (evE cl (.slB a b c))) := by
  refine PE.imp (pe_slice sl_list ha (po_some hb) (po_some hc)) fun σ H Q h => ?_
  obtain ⟨as, env, m, S, G, P⟩ := h
  refine ⟨as, env, m, S, G, Post.bind P fun x m1 as1 H1 v T1 S1 R1 P1 => ?_⟩
  refine ⟨as1, env, m1, S1, G.mono S T1, Post.bind P1 fun y m2 as2 H2 u T2 S2 R2 P2 => ?_⟩
  cases y with
  | int i =>
    refine ⟨i, rep_int.mp R2, as2, env, m2, S2, (G.mono S T1).mono S1 T2, Post.bind P2 fun z m3 as3 H3 t T3 S3 R3 P3 => ?_⟩
    cases z with
    | int j => exact ⟨j, rep_int.mp R3, sl_ok S3 ((R1.mono S1 T2).mono S2 T3) P3⟩
    | _ => exact P3.elim
  | _ => exact P2.elim
theorem base_of {e : Expr} {f : Str} {env : Env} (h : notCall e = true) : attributeBase e f env (eval e env) = eval e env := by
  cases e <;> first | rfl | cases h
theorem few_of {cp : Pos} {env : Env} {ys : List Expr} (h : ys.all notStar = true) (hl : ys.length < 29) :
    ((backTo cp (starEach ys env)).all (fun x => !x.1) && (backToKw cp (keywordEach [] env)).all (fun x => x.1.isSome)
      && decide (ys.length + ([] : List Keyword).length + (if ([] : List Keyword).isEmpty then 0 else 1) < 30)) = true := by
  have all : ∀ {es : List Expr}, es.all notStar = true -> (backTo cp (starEach es env)).all (fun x => !x.1) = true := by
    intro es
    induction es with
    | nil => intro _; rfl
    | cons e es ih =>
      intro h
      rw [List.all_cons, Bool.and_eq_true] at h
      rw [star_cons h.1]
      show (true && (backTo cp (starEach es env)).all (fun x => !x.1)) = true
      rw [ih h.2]; rfl
  rw [all h]
  have e2 : (backToKw cp (keywordEach [] env)).all (fun x => x.1.isSome) = true := rfl
  rw [e2]
  have e3 : decide (ys.length + ([] : List Keyword).length + (if ([] : List Keyword).isEmpty then 0 else 1) < 30) = true := by
    apply decide_eq_true
    show ys.length + 0 + 0 < 30
    omega
  rw [e3]; rfl
theorem mt_facts (k : Mth) : Slot "list" (mtV k).1 (mtV k).2 /\ typeOf (.builtin (mtV k).2) = pure (.type "method_descriptor") := by
  cases k with
  | append => exact ⟨PySem.F.slot_list_append, PySem.F.type_list_append⟩
  | extend => exact ⟨PySem.F.slot_list_extend, PySem.F.type_list_extend⟩
  | pop => exact ⟨PySem.F.slot_list_pop, PySem.F.type_list_pop⟩
  | reverse => exact ⟨PySem.F.slot_list_reverse, PySem.F.type_list_reverse⟩
  | clear => exact ⟨PySem.F.slot_list_clear, PySem.F.type_list_clear⟩
  | insert => exact ⟨PySem.F.slot_list_insert, PySem.F.type_list_insert⟩
theorem mt_ref {k : Mth} {w : Wd} {ws : List Wd} {m : Me} (h : mtR k w ws m ≠ .no) : ∃ l, w = .ref l := by
  cases w with
  | ref l => exact ⟨l, rfl⟩
  | _ => exact absurd rfl h
theorem ty_ref {K : PySem.W.Frag} {as : List Addr} {H : Hp} {m : Me} {w : Wd} {v : V} (S : Sim K as m H) (R : Rep K as H w v) (hw : ∃ l, w = .ref l) : tyV K "list" v H := by
  obtain ⟨l, rfl⟩ := hw
  obtain ⟨p, hp, rfl⟩ := rep_ref.mp R
  obtain ⟨us, e⟩ := S.isLst (List.mem_of_getElem? hp)
  exact .inl ⟨rfl, us, SqL.of e⟩
theorem se_meth0 {k : Mth} {ap : Pos} (ho : PE X x (tOf X.K (evE cl a))) (hx : notCall x = true) (hl : (ap.endLine == pos.line) = true) :
    PE X (.Call (.Attribute x (mtV k).1 ap) [] [] pos) (tOf X.K (evE cl (.meth k a .unit))) := by
  obtain ⟨f1, f2⟩ := mt_facts k
  refine PE.imp (pe_bm0 PySem.F.plainAttrs_list f1 f2 (mt_rMt k) ho (base_of hx) hl) fun σ H Q h => ?_
  obtain ⟨as, env, m, S, G, P⟩ := h
  refine ⟨as, env, m, S, G, Post.bind P fun w m1 as1 H1 v T1 S1 R1 P1 => ?_⟩
  have P2 : Post X.K as1 H1 Q (mtR k w [] m1) := P1
  refine ⟨ty_ref S1 R1 (mt_ref (k := k) (ws := []) (m := m1) fun z => ?_), as1, m1, w, [], S1, R1, repL_nil.mpr rfl, P2⟩
  rw [z] at P2
  exact P2
theorem se_meth {k : Mth} {ap : Pos} {ys : List Expr} (ho : PE X x (tOf X.K (evE cl a))) (ha : PA X (y :: ys) (tOfA X.K (evE cl b))) (hx : notCall x = true) (hl : (ap.endLine == pos.line) = true) (hn : (y :: ys).length < 29) (hs : (y :: ys).all notStar = true) :
    PE X (.Call (.Attribute x (mtV k).1 ap) (y :: ys) [] pos) (tOf X.K (evE cl (.meth k a b))) := by
  obtain ⟨f1, f2⟩ := mt_facts k
  have isref : ∀ {as : List Addr} {H : Hp} {Q : VK} {w : Wd} {env : En} {m : Me}, Post X.K as H Q ((evE cl b env m).bind fun y m2 => mtR k w (argsOf y) m2) -> ∃ l, w = .ref l := fun {as H Q w env m} P => by
    cases hr : evE cl b env m with
    | no => rw [hr] at P; exact P.elim
    | exc c w' m' => rw [hr] at P; exact P.elim
    | ok w' m' =>
      rw [hr] at P
      refine mt_ref (k := k) (ws := argsOf w') (m := m') fun z => ?_
      have P' : Post X.K as H Q (mtR k w (argsOf w') m') := P
      rw [z] at P'
      exact P'
  have hs' := hs
  rw [List.all_cons, Bool.and_eq_true] at hs'
  refine PE.imp (pe_bm PySem.F.plainAttrs_list f1 f2 (mt_rMt k) ho ha (base_of hx) (few_of hs hn) hl (star_cons hs'.1) (star_any hs'.2)) fun σ H Q h => ?_
  obtain ⟨as, env, m, S, G, P⟩ := h
  refine ⟨as, env, m, S, G, Post.bind P fun w m1 as1 H1 v T1 S1 R1 P1 => ⟨ty_ref S1 R1 (isref P1), ?_⟩⟩
  refine ⟨as1, env, m1, S1, G.mono S T1, PostA.bind P1 fun w2 m2 as2 H2 vs T2 S2 R2 P2 => ?_⟩
  exact ⟨as2, m2, w, argsOf w2, S2, R1.mono S1 T2, R2, P2⟩
theorem rng_bind {K : PySem.W.Frag} {as : List Addr} {H : Hp} {m : Me} {R : It -> Hp -> Prop} {i j : Int} (S : Sim K as m H) (h : PostI K as H R (rngR (.int i) (.int j) (.int 1) m)) : (-(2 ^ 62) <= i /\ i < 2 ^ 62 /\ -(2 ^ 62) <= j /\ j < 2 ^ 62) /\ R (Itr i (j - i).toNat) H := by
  have h' : PostI K as H R (if -lim <= i /\ i <= lim /\ -lim <= j /\ j <= lim /\ ((1 : Int) = 1 \/ (1 : Int) = -1) then .ok (.tup (rngL i 1 (rngN i j 1))) m else .no) := h
  by_cases hc : -(lim : Int) <= i /\ i <= lim /\ -(lim : Int) <= j /\ j <= lim /\ ((1 : Int) = 1 \/ (1 : Int) = -1)
  . rw [if_pos hc] at h'
    have hlim : (lim : Int) = 100000 := rfl
    refine ⟨by omega, h'.2 as H _ .refl S ?_⟩
    have e : rngN i j 1 = (j - i).toNat := if_pos rfl
    rw [e]
    exact ⟨_, fun _ => True, seqIt_rng i (j - i).toNat (K := K), trivial, rngL_rep 1 (j - i).toNat i, fun _ _ _ _ => trivial⟩
  . rw [if_neg hc] at h'; exact h'.elim
theorem PostI.bind {K : PySem.W.Frag} {as : List Addr} {H : Hp} {R : It -> Hp -> Prop} {Q1 : VK} {r : Rz} {f : Wd -> Me -> Rz} (h : PostI K as H R (r.bind f))
    (k : ∀ w m' as' H' v, Step as H as' H' -> Sim K as' m' H' -> Rep K as' H' w v -> PostI K as' H' R (f w m') -> Q1 v H') : Post K as H Q1 r := by
  cases r with
  | ok w m' =>
    intro as2 H2 v U S Rr
    refine k w m' as2 H2 v U S Rr ?_
    have h' : PostI K as H R (f w m') := h
    cases hr : f w m' with
    | ok w2 m2 => rw [hr] at h'; exact ⟨h'.1, fun as3 H3 J U3 S3 q => h'.2 as3 H3 J (U.trans U3) S3 q⟩
    | exc c w2 m2 => rw [hr] at h'; exact h'
    | no => rw [hr] at h'; exact h'
  | exc c w m' => exact h
  | no => exact h
theorem si_rng1 {C : Ctx} {d : Nat} {p : Pos} {tg : Expr} (hC : CtxOk C X cl d) (hg : X.env.scope.names.lookup ("range" : Str) = some .globalImplicit) (hs : notStar x = true) (hb : PE X x (tOf X.K (evE cl b))) :
    PI X tg (.Call (.Name "range" p) [x] [] pos) (iOf X.K (evE cl (.rng (.lit (.int 0)) b (.lit (.int 1))))) := by
  refine PI.imp (pi_range1 hg (hC.blt _ (by simp [bltNames])) (pa_cons hb pa_nil (star_cons hs)) (star_cons hs)) fun σ H R h => ?_
  obtain ⟨as, env, m, S, G, P⟩ := h
  have P' : PostI X.K as H R ((evE cl b env m).bind fun y m2 => rngR (.int 0) y (.int 1) m2) := P
  refine ⟨as, env, m, S, G, PostI.bind P' fun w m1 as1 H1 v T1 S1 R1 P1 => ?_⟩
  cases w with
  | int j =>
    obtain rfl := rep_int.mp R1
    obtain ⟨⟨_, _, h1, h2⟩, q⟩ := rng_bind S1 P1
    refine ⟨j, rfl, h1, h2, ?_⟩
    simpa using q
  | _ => exact P1.elim
theorem si_rng2 {C : Ctx} {d : Nat} {p : Pos} {tg : Expr} (hC : CtxOk C X cl d) (hg : X.env.scope.names.lookup ("range" : Str) = some .globalImplicit) (hs : notStar x = true) (hs' : notStar y = true) (ha : PE X x (tOf X.K (evE cl a))) (hb : PE X y (tOf X.K (evE cl b))) :
    PI X tg (.Call (.Name "range" p) [x, y] [] pos) (iOf X.K (evE cl (.rng a b (.lit (.int 1))))) := by
  refine PI.imp (pi_range2 hg (hC.blt _ (by simp [bltNames])) (pa_cons ha (pa_cons hb pa_nil (star_cons hs')) (star_cons hs)) (by rw [star_cons hs, star_cons hs']; rfl) (star_cons hs')) fun σ H R h => ?_
  obtain ⟨as, env, m, S, G, P⟩ := h
  have P' : PostI X.K as H R ((evE cl a env m).bind fun x m1 => (evE cl b env m1).bind fun y m2 => rngR x y (.int 1) m2) := P
  refine ⟨as, env, m, S, G, PostI.bind P' fun w m1 as1 H1 v T1 S1 R1 P1 => ?_⟩
  refine ⟨as1, env, m1, S1, G.mono S T1, PostI.bind P1 fun w2 m2 as2 H2 u T2 S2 R2 P2 => ?_⟩
  cases w with
  | int i =>
    cases w2 with
    | int j =>
      obtain rfl := rep_int.mp R1
      obtain rfl := rep_int.mp R2
      obtain ⟨hb, q⟩ := rng_bind S2 P2
      exact ⟨i, j, rfl, hb, q⟩
    | _ => exact P2.elim
  | _ => cases w2 <;> exact P2.elim
theorem seqIt_rngS {K : PySem.W.Frag} (lo st : Int) (n : Nat) : SeqIt (Itrs lo st n) ((List.range n).map fun (i : Nat) => V.int (lo + st * (i : Int))) (fun _ => True) := by
  refine ⟨fun i H _ hi => ?_, fun i H x H' _ hi q => ?_, fun i H _ hi => ?_⟩
  . show i < n; simpa using hi
  . obtain ⟨e1, e2⟩ := q
    have hi' : i < n := by simpa using hi
    refine ⟨e1, ?_⟩
    rw [e2]
    simp [hi', Int.mul_comm]
  . show n <= i; simpa using hi
theorem rng_bind3 {K : PySem.W.Frag} {as : List Addr} {H : Hp} {m : Me} {R : It -> Hp -> Prop} {i j k : Int} (S : Sim K as m H) (h : PostI K as H R (rngR (.int i) (.int j) (.int k) m)) : (-(2 ^ 30) <= i /\ i < 2 ^ 30 /\ -(2 ^ 30) <= j /\ j < 2 ^ 30) /\ (k = 1 \/ k = -1) /\ R (Itrs i k (cntR i j k)) H := by
  have h' : PostI K as H R (if -lim <= i /\ i <= lim /\ -lim <= j /\ j <= lim /\ (k = 1 \/ k = -1) then .ok (.tup (rngL i k (rngN i j k))) m else .no) := h
  by_cases hc : -(lim : Int) <= i /\ i <= lim /\ -(lim : Int) <= j /\ j <= lim /\ (k = 1 \/ k = -1)
  . rw [if_pos hc] at h'
    have hlim : (lim : Int) = 100000 := rfl
    refine ⟨by omega, hc.2.2.2.2, h'.2 as H _ .refl S ?_⟩
    have e : rngN i j k = cntR i j k := by
      unfold rngN cntR
      rcases hc.2.2.2.2 with rfl | rfl
      . rfl
      . rfl
    rw [e]
    exact ⟨_, fun _ => True, seqIt_rngS i k (cntR i j k) (K := K), trivial, rngL_rep k (cntR i j k) i, fun _ _ _ _ => trivial⟩
  . rw [if_neg hc] at h'; exact h'.elim
theorem si_rng3 {C : Ctx} {d : Nat} {p : Pos} {tg : Expr} (hC : CtxOk C X cl d) (hg : X.env.scope.names.lookup ("range" : Str) = some .globalImplicit) (hs : notStar x = true) (hs' : notStar y = true) (hs2 : notStar z = true) (ha : PE X x (tOf X.K (evE cl a))) (hb : PE X y (tOf X.K (evE cl b))) (hc : PE X z (tOf X.K (evE cl c))) :
    PI X tg (.Call (.Name "range" p) [x, y, z] [] pos) (iOf X.K (evE cl (.rng a b c))) := by
  refine PI.imp (pi_range3 hg (hC.blt _ (by simp [bltNames])) (pa_cons ha (pa_cons hb (pa_cons hc pa_nil (star_cons hs2)) (star_cons hs')) (star_cons hs)) (by rw [star_cons hs, star_cons hs', star_cons hs2]; rfl) (by rw [star_cons hs', star_cons hs2]; rfl)) fun σ H R h => ?_
  obtain ⟨as, env, m, S, G, P⟩ := h
  refine ⟨as, env, m, S, G, PostI.bind P fun w m1 as1 H1 v T1 S1 R1 P1 => ?_⟩
  refine ⟨as1, env, m1, S1, G.mono S T1, PostI.bind P1 fun w2 m2 as2 H2 u T2 S2 R2 P2 => ?_⟩
  refine ⟨as2, env, m2, S2, (G.mono S T1).mono S1 T2, PostI.bind P2 fun w3 m3 as3 H3 u3 T3 S3 R3 P3 => ?_⟩
  cases w with
  | int i =>
    cases w2 with
    | int j =>
      cases w3 with
      | int k =>
        obtain rfl := rep_int.mp R1
        obtain rfl := rep_int.mp R2
        obtain rfl := rep_int.mp R3
        obtain ⟨h1, h2, q⟩ := rng_bind3 S3 P3
        exact ⟨i, j, k, rfl, h1, h2, q⟩
      | _ => exact P3.elim
    | _ => exact P3.elim
  | _ => exact P3.elim
theorem se_lrng {C : Ctx} {d : Nat} {p p' pos' : Pos} (hC : CtxOk C X cl d) (hgl : X.env.scope.names.lookup ("list" : Str) = some .globalImplicit) (hg : X.env.scope.names.lookup ("range" : Str) = some .globalImplicit) (hs : notStar x = true) (ha : PE X x (tOf X.K (evE cl a))) :
    PE X (.Call (.Name "list" p) [.Call (.Name "range" p') [x] [] pos'] [] pos) (tOf X.K (evE cl (.lrng a))) := by
  refine PE.imp (pe_lrng hC.calm hgl (hC.blt _ (by simp [bltNames])) hg (hC.blt _ (by simp [bltNames])) (pa_cons ha pa_nil (star_cons hs)) (star_cons hs)) fun σ H Q h => ?_
  obtain ⟨as, env, m, S, G, P⟩ := h
  refine ⟨as, env, m, S, G, Post.bind P fun w m1 as1 H1 v T1 S1 R1 P1 => ?_⟩
  cases w with
  | int j =>
    obtain rfl := rep_int.mp R1
    have hlim : (lim : Int) = 100000 := rfl
    have P1' : Post X.K as1 H1 Q (if -(lim : Int) <= j /\ j <= lim then alloc m1 (rngL 0 1 j.toNat) else .no) := P1
    by_cases hc : -(lim : Int) <= j /\ j <= lim
    . rw [if_pos hc] at P1'
      obtain ⟨h1, h2⟩ := alloc_ok S1 (rngL_rep 1 j.toNat 0) P1'
      have hz : j.toNat <= sizeLine := Nat.le_trans (by have : lim = 100000 := rfl; omega) lim_line
      exact ⟨j, rfl, by omega, by omega, hz, h2⟩
    . rw [if_neg hc] at P1'; exact P1'.elim
  | _ => exact P1.elim
end
end Mini
namespace Mini
open PySem PySem.Spec PyProof.Rows L2
section
variable {cl : Nat -> List Wd -> Me -> Rz} {X : Cx} {K : PySem.W.Frag}
theorem Sim.updD {as : List Addr} {m : Me} {H : Hp} {D : Addr} {ys : List V} {o : HO} (S : Sim K as m H) (hD : H D = some (.lst ys)) (hn : D ∉ as) : Sim K as m (upd H D o) := by
  refine ⟨S.len, S.nd, fun l b ob h1 h2 => ?_⟩
  have q := S.obj l b ob h1 h2
  have hb : b ≠ D := by rintro rfl; exact hn (List.mem_of_getElem? h1)
  cases ob with
  | lst zs =>
    obtain ⟨us, e, r⟩ := q
    exact ⟨us, by rw [upd_ne hb]; exact e, r.kp (Kp.upd hD)⟩
  | dct kvs => exact q.elim
theorem Sim.join {as : List Addr} {m : Me} {H : Hp} {D : Addr} {ys : List V} {acc : List Wd} (S : Sim K as m H) (hD : H D = some (.lst ys)) (hn : D ∉ as) (R : RepL K as H acc ys) : Sim K (as ++ [D]) (m ++ [.lst acc]) H := by
  have g : ∀ (l : Nat) (a : Addr), as[l]? = some a -> (as ++ [D])[l]? = some a := fun l a e => by
    rw [List.getElem?_append_left (List.getElem?_eq_some_iff.mp e).1]; exact e
  have kp : Kp K H H := ⟨fun _ _ h => h, fun _ _ h => h⟩
  refine ⟨by simp [S.len], ?_, fun l b o h1 h2 => ?_⟩
  . refine List.nodup_append.mpr ⟨S.nd, by simp, fun x hx y hy => ?_⟩
    rw [List.mem_singleton.mp hy]
    rintro rfl
    exact hn hx
  . by_cases hl : l < as.length
    . rw [List.getElem?_append_left hl] at h1
      rw [List.getElem?_append_left (by rw [<- S.len]; exact hl)] at h2
      have q := S.obj l b o h1 h2
      cases o with
      | lst zs =>
        obtain ⟨us, e, r⟩ := q
        exact ⟨us, e, repL_mono kp g _ _ r⟩
      | dct kvs => exact q.elim
    . rw [List.getElem?_append_right (by omega)] at h1
      rw [List.getElem?_append_right (by rw [<- S.len]; omega)] at h2
      have hz : l - as.length = 0 := by
        cases hq : l - as.length with
        | zero => rfl
        | succ k => rw [hq] at h1; simp at h1
      rw [hz] at h1
      rw [<- S.len, hz] at h2
      simp at h1 h2
      subst h1; subst h2
      exact ⟨ys, hD, repL_mono kp g _ _ R⟩
theorem Step.updD {as as' : List Addr} {H H' : Hp} {D : Addr} {o : HO} (T : Step as H as' H') (hD : H D = none) : Step as H as' (upd H' D o) :=
  ⟨T.pre, fun b ob h hb => by rw [upd_ne (ne_of_none h hD)]; exact T.frame b ob h hb, T.fresh⟩
theorem Step.join {as as' : List Addr} {H H' : Hp} {D : Addr} (T : Step as H as' H') (hD : H D = none) : Step as H (as' ++ [D]) H' := by
  refine ⟨?_, T.frame, fun a ha => ?_⟩
  . obtain ⟨t, rfl⟩ := T.pre
    exact ⟨t ++ [D], by simp⟩
  . rcases List.mem_append.mp ha with z | z
    . exact T.fresh a z
    . rw [List.mem_singleton.mp z]; exact .inr hD
theorem alloc_join {as as' : List Addr} {m : Me} {H H' : Hp} {D : Addr} {ys : List V} {acc : List Wd} {Q : VK} (S : Sim K as' m H') (T : Step as H as' H') (h0 : H D = none) (hD : H' D = some (.lst ys)) (hn : D ∉ as') (R : RepL K as' H' acc ys)
    (h : Post K as H Q (alloc m acc)) : Q (.ref D) H' := by
  unfold Mini.alloc at h
  split at h
  . refine h (as' ++ [D]) H' (.ref D) (T.join h0) (S.join hD hn R) (rep_ref.mpr ⟨D, ?_, rfl⟩)
    rw [<- S.len, List.getElem?_append_right (Nat.le_refl _)]
    simp
  . exact h.elim
structure Mid (K : PySem.W.Frag) (as : List Addr) (H : Hp) (D : Addr) (env : En) (σ : St) (as' : List Addr) (m' : Me) (acc : List Wd) (ys : List V) (H' : Hp) : Prop where
  T : Step as H as' H'
  S : Sim K as' m' H'
  hD : H' D = some (.lst ys)
  n : D ∉ as'
  R : RepL K as' H' acc ys
  G : EnvRep K as' H' env σ
theorem Mid.go {as : List Addr} {H : Hp} {D : Addr} {env : En} {σ : St} {as' as2 : List Addr} {m' m2 : Me} {acc : List Wd} {ys : List V} {H' H2 : Hp} (M : Mid K as H D env σ as' m' acc ys H') (U : Step as' H' as2 H2) (S2 : Sim K as2 m2 H2) : Mid K as H D env σ as2 m2 acc ys H2 :=
  ⟨M.T.trans U, S2, U.frame _ _ M.hD M.n, U.out M.hD M.n, M.R.mono M.S U, M.G.mono M.S U⟩
theorem Mid.push {as : List Addr} {H : Hp} {D : Addr} {env : En} {σ : St} {as' : List Addr} {m' : Me} {acc : List Wd} {ys : List V} {H' : Hp} {w : Wd} {v : V} (M : Mid K as H D env σ as' m' acc ys H') (h0 : H D = none) (R : Rep K as' H' w v) :
    Mid K as H D env σ as' m' (acc ++ [w]) (ys ++ [v]) (upd H' D (.lst (ys ++ [v]))) := by
  have kp : Kp K H' (upd H' D (.lst (ys ++ [v]))) := Kp.upd M.hD
  exact ⟨M.T.updD h0, M.S.updD M.hD M.n, upd_same, M.n, (M.R.append (.one R)).kp kp, M.G.kp kp⟩
theorem comp_turn {elt cond : Ex} {tc : TT} (htc : ∀ σ H Q, tOfT K (evE cl cond) σ H Q -> tc σ H Q) {as1 as' : List Addr} {H1 H' : Hp} {D : Addr} {env ex : En} {σ sx : St} {m' : Me} {acc : List Wd} {ys : List V} {Q : VK} {next : List Wd -> Me -> Rz} {N : List V -> Hp -> Prop}
    (h0 : H1 D = none) (M : Mid K as1 H1 D env σ as' m' acc ys H') (G : EnvRep K as' H' (env ++ ex) (σ ++ sx))
    (Pt : Post K as1 H1 Q ((evE cl cond (env ++ ex) m').bind fun b m1 => match b with
          | .bl true => (evE cl elt (env ++ ex) m1).bind fun y m2 => if acc.length < lim then next (acc ++ [y]) m2 else .no
          | .bl false => next acc m1
          | _ => .no))
    (hN : ∀ as2 m2 acc' ys' H2, Kp K H' H2 -> (∀ (l : Nat) (a : Addr), as'[l]? = some a -> as2[l]? = some a) -> Mid K as1 H1 D env σ as2 m2 acc' ys' H2 -> Post K as1 H1 Q (next acc' m2) -> N ys' H2) :
    tc (σ ++ sx) H' fun b H2 => if b = true then tOf K (evE cl elt) (σ ++ sx) H2 fun y H3 => H3 D = some (.lst ys) /\ ys.length < sizeLine /\ N (ys ++ [y]) (upd H3 D (.lst (ys ++ [y]))) else N ys H2 := by
  refine htc _ _ _ ⟨as', env ++ ex, m', M.S, G, Post.bindAt Pt M.T fun wb m2 as2 H2 vb T2 S2 R2 P2 => ?_⟩
  have M2 := M.go T2 S2
  cases wb with
  | bl k =>
    obtain rfl := rep_bl.mp R2
    refine ⟨k, rfl, ?_⟩
    cases k with
    | false => exact iteF (hN as2 m2 acc ys H2 (M.S.kp T2) (fun _ _ e => T2.get e) M2 P2)
    | true =>
      refine iteT ⟨as2, env ++ ex, m2, S2, G.mono M.S T2, Post.bindAt P2 M2.T fun wy m3 as3 H3 vy T3 S3 R3 P3 => ?_⟩
      have M3 := M2.go T3 S3
      have P3' : Post K as1 H1 Q (if acc.length < lim then next (acc ++ [wy]) m3 else .no) := P3
      by_cases hl : acc.length < lim
      . rw [if_pos hl] at P3'
        refine ⟨M3.hD, by rw [<- M3.R.length]; exact Nat.lt_of_lt_of_le hl lim_line, hN as3 m3 (acc ++ [wy]) (ys ++ [vy]) _ ?_ (fun _ _ e => T3.get (T2.get e)) (M3.push h0 R3) P3'⟩
        have k1 := M.S.kp T2
        have k2 := S2.kp T3
        have k3 : Kp K H3 (upd H3 D (.lst (ys ++ [vy]))) := Kp.upd M3.hD
        exact ⟨fun a vs q => k3.t _ _ (k2.t _ _ (k1.t _ _ q)), fun a vs q => k3.f _ _ (k2.f _ _ (k1.f _ _ q))⟩
      . rw [if_neg hl] at P3'; exact P3'.elim
  | _ => exact P2.elim
theorem Mid.start {as as1 : List Addr} {H H1 : Hp} {D : Addr} {env : En} {σ : St} {m1 : Me} (S1 : Sim K as1 m1 H1) (G1 : EnvRep K as1 H1 env σ) (hD : H1 D = none) : Mid K as1 H1 D env σ as1 m1 [] [] (upd H1 D (.lst [])) := by
  have T : Step as1 H1 as1 (upd H1 D (.lst [])) := Step.updD .refl hD
  exact ⟨T, S1.keep T fun b _ o e => by rw [upd_ne (ne_of_none e hD)]; exact e, upd_same, S1.new hD, repL_nil.mpr rfl, G1.mono S1 T⟩
def PairIt (K : PySem.W.Frag) (as : List Addr) (J : It) (g : Nat -> Me -> Option (Option (Wd × Wd))) : Prop :=
  ∀ (as' : List Addr) (m' : Me) (H' : Hp), (∀ (l : Nat) (a : Addr), as[l]? = some a -> as'[l]? = some a) -> Sim K as' m' H' -> ∀ i,
    (g i m' = some none -> J.stop i H') /\ ∀ x y, g i m' = some (some (x, y)) -> J.go i H' /\ ∀ v H'', J.yld i H' v H'' -> ∃ x' y', Yp H' v H'' x' y' /\ Rep K as' H' x x' /\ Rep K as' H' y y'
theorem compP_loop {elt cond : Ex} {tc : TT} (htc : ∀ σ H Q, tOfT K (evE cl cond) σ H Q -> tc σ H Q) {as1 : List Addr} {H1 : Hp} {env : En} {σ : St} {m1 : Me} {J : It} {g : Nat -> Me -> Option (Option (Wd × Wd))} {Q : VK} (hJ : PairIt K as1 J g) (S1 : Sim K as1 m1 H1) (G1 : EnvRep K as1 H1 env σ)
    (P : Post K as1 H1 Q (compG (fun u v m => evE cl cond (env ++ [some u] ++ [some v]) m) (fun u v m => evE cl elt (env ++ [some u] ++ [some v]) m) g (lim + 1) 0 [] m1)) :
    ∀ D, H1 D = none -> ∃ W : Nat -> Nat -> List V -> Hp -> Prop, (∃ m, W 0 m [] (upd H1 D (.lst []))) /\ ∀ i m ys H, W i m ys H ->
      (J.stop i H /\ Q (.ref D) H) \/ (J.go i H /\ ∀ v H', J.yld i H v H' -> ∃ vs, un2 K v H' vs /\ tc (σ ++ vs.map some) H' fun b H2 => if b = true then tOf K (evE cl elt) (σ ++ vs.map some) H2 fun y H3 => H3 D = some (.lst ys) /\ ys.length < sizeLine /\ ∃ m', m' < m /\ W (i + 1) m' (ys ++ [y]) (upd H3 D (.lst (ys ++ [y])))
        else ∃ m', m' < m /\ W (i + 1) m' ys H2) := by
  intro D hD
  refine ⟨fun i n ys H' => ∃ as' m' acc, (∀ (l : Nat) (a : Addr), as1[l]? = some a -> as'[l]? = some a) /\ Mid K as1 H1 D env σ as' m' acc ys H' /\
    Post K as1 H1 Q (compG (fun u v m => evE cl cond (env ++ [some u] ++ [some v]) m) (fun u v m => evE cl elt (env ++ [some u] ++ [some v]) m) g n i acc m'), ⟨lim + 1, as1, m1, [], fun _ _ e => e, Mid.start (as := as1) (H := H1) S1 G1 hD, P⟩, ?_⟩
  rintro i n ys H' ⟨as', m', acc, hl, M, Pi⟩
  cases n with
  | zero => exact Pi.elim
  | succ n =>
    unfold compG at Pi
    obtain ⟨q1, q2⟩ := hJ as' m' H' hl M.S i
    cases e : g i m' with
    | none => rw [e] at Pi; exact Pi.elim
    | some o =>
      rw [e] at Pi
      cases o with
      | none => exact .inl ⟨q1 e, alloc_join M.S M.T hD M.hD M.n M.R Pi⟩
      | some p =>
        obtain ⟨x, y⟩ := p
        simp only [] at Pi
        obtain ⟨go, yl⟩ := q2 x y e
        refine .inr ⟨go, fun v H'' hy => ?_⟩
        obtain ⟨x', y', ⟨T, hT, rfl, rfl⟩, Rx, Ry⟩ := yl v H'' hy
        refine ⟨[x', y'], ⟨T, rfl, SqT.of upd_same, rfl⟩, ?_⟩
        have U : Step as' H' as' (upd H' T (.tup [x', y'])) := Step.updD .refl hT
        have S2 : Sim K as' m' (upd H' T (.tup [x', y'])) := M.S.keep U fun b _ o e => by rw [upd_ne (ne_of_none e hT)]; exact e
        have M2 := M.go U S2
        have G2 : EnvRep K as' (upd H' T (.tup [x', y'])) (env ++ [some x, some y]) (σ ++ [x', y'].map some) := by
          have := (M2.G.push (Rx.mono M.S U)).push (Ry.mono M.S U)
          simpa using this
        refine comp_turn htc (ex := [some x, some y]) (next := fun acc m => compG (fun u v m => evE cl cond (env ++ [some u] ++ [some v]) m) (fun u v m => evE cl elt (env ++ [some u] ++ [some v]) m) g n (i + 1) acc m)
          (N := fun zs H2 => ∃ n', n' < n + 1 /\ ∃ as' m' acc, (∀ (l : Nat) (a : Addr), as1[l]? = some a -> as'[l]? = some a) /\ Mid K as1 H1 D env σ as' m' acc zs H2 /\ Post K as1 H1 Q (compG (fun u v m => evE cl cond (env ++ [some u] ++ [some v]) m) (fun u v m => evE cl elt (env ++ [some u] ++ [some v]) m) g n' (i + 1) acc m')) hD M2 G2 (by rw [show env ++ [some x] ++ [some y] = env ++ [some x, some y] from by simp] at Pi; exact Pi) ?_
        intro as2 m2 acc' ys' H2 kp gg M3 P3
        exact ⟨n, Nat.lt_succ_self _, as2, m2, acc', fun l a e => gg _ _ (hl l a e), M3, P3⟩
theorem pairIt_zip {as : List Addr} {la lb : Nat} {a b : Addr} (ha : as[la]? = some a) (hb : as[lb]? = some b) : PairIt K as (Itz K a b) (pairAt .zip (.ref la) (.ref lb)) := by
  intro as' m' H' hl S i
  simp only [pairAt]
  cases e1 : lstAt m' la with
  | none => exact ⟨fun z => by simp at z, fun x y z => by simp at z⟩
  | some xs =>
    cases e2 : lstAt m' lb with
    | none => exact ⟨fun z => by simp at z, fun x y z => by simp at z⟩
    | some ys =>
      obtain ⟨a', us, ha', eH, RL⟩ := lst_of S (lstAt_some e1)
      rw [hl _ _ ha] at ha'; cases ha'
      obtain ⟨b', vs, hb', eH2, RL2⟩ := lst_of S (lstAt_some e2)
      rw [hl _ _ hb] at hb'; cases hb'
      simp only
      cases ex : xs[i]? with
      | none =>
        refine ⟨fun _ => ⟨us, vs, SqL.of eH, SqL.of eH2, .inl ?_⟩, fun x y z => by simp at z⟩
        rw [<- RL.length]; exact List.getElem?_eq_none_iff.mp ex
      | some x =>
        cases ey : ys[i]? with
        | none =>
          refine ⟨fun _ => ⟨us, vs, SqL.of eH, SqL.of eH2, .inr ?_⟩, fun x y z => by simp at z⟩
          rw [<- RL2.length]; exact List.getElem?_eq_none_iff.mp ey
        | some y =>
          refine ⟨fun z => by simp at z, fun x2 y2 z => ?_⟩
          simp only [Option.some.injEq, Prod.mk.injEq] at z
          obtain ⟨rfl, rfl⟩ := z
          obtain ⟨u0, hu0, Ru⟩ := RL.get ex
          obtain ⟨v0, hv0, Rv⟩ := RL2.get ey
          refine ⟨⟨us, vs, u0, v0, SqL.of eH, SqL.of eH2, hu0, hv0⟩, fun v H'' hy => ?_⟩
          obtain ⟨p, q, yp, k1, k2⟩ := hy
          have := k1 us (SqL.of eH)
          rw [hu0] at this; cases this
          have := k2 vs (SqL.of eH2)
          rw [hv0] at this; cases this
          exact ⟨_, _, yp, Ru, Rv⟩
theorem pairIt_enum {as : List Addr} {la c : Nat} {a : Addr} (ha : as[la]? = some a) : PairIt K as (Ite K c a) (pairAt .enum (.ref la) (.int (c : Int))) := by
  intro as' m' H' hl S i
  simp only [pairAt]
  cases e1 : lstAt m' la with
  | none => exact ⟨fun z => by simp at z, fun x y z => by simp at z⟩
  | some xs =>
    obtain ⟨a', us, ha', eH, RL⟩ := lst_of S (lstAt_some e1)
    rw [hl _ _ ha] at ha'; cases ha'
    simp only
    cases ex : xs[i]? with
    | none =>
      refine ⟨fun _ => ⟨us, SqL.of eH, ?_⟩, fun x y z => by simp at z⟩
      rw [<- RL.length]; exact List.getElem?_eq_none_iff.mp ex
    | some x =>
      refine ⟨fun z => by simp at z, fun x2 y2 z => ?_⟩
      simp only [Option.map_some, Option.some.injEq, Prod.mk.injEq] at z
      obtain ⟨rfl, rfl⟩ := z
      obtain ⟨u0, hu0, Ru⟩ := RL.get ex
      refine ⟨⟨us, u0, SqL.of eH, hu0⟩, fun v H'' hy => ?_⟩
      obtain ⟨p, yp, k1⟩ := hy
      have := k1 us (SqL.of eH)
      rw [hu0] at this; cases this
      exact ⟨_, _, yp, rep_int.mpr (by congr 1; omega), Ru⟩
theorem bind_ok {w : Wd} {m : Me} {f : Wd -> Me -> Rz} : (Rz.ok w m).bind f = f w m := rfl
theorem compG_none {c e : Wd -> Wd -> Me -> Rz} {g : Nat -> Me -> Option (Option (Wd × Wd))} {k i : Nat} {acc : List Wd} {m : Me} (h : g i m = none) : compG c e g (k + 1) i acc m = .no := by
  unfold compG
  rw [h]
theorem pairAt_zip {w w2 : Wd} {i : Nat} {m : Me} {o : Option (Wd × Wd)} (e : pairAt .zip w w2 i m = some o) : ∃ la lb xs ys, w = .ref la /\ w2 = .ref lb /\ lstAt m la = some xs /\ lstAt m lb = some ys := by
  unfold pairAt at e
  split at e
  . next la lb _ =>
    split at e
    . next xs ys e1 e2 => exact ⟨la, lb, xs, ys, rfl, rfl, e1, e2⟩
    . cases e
  . next h => cases h
  . cases e
theorem pairAt_enum {w w2 : Wd} {i : Nat} {m : Me} {o : Option (Wd × Wd)} (e : pairAt .enum w w2 i m = some o) : ∃ la xs, w = .ref la /\ lstAt m la = some xs := by
  unfold pairAt at e
  split at e
  . next h => cases h
  . next la s _ =>
    split at e
    . next xs e1 => exact ⟨la, xs, rfl, e1⟩
    . cases e
  . cases e
theorem comp_bindZ {elt a b cond : Ex} {tc : TT} (htc : ∀ σ H Q, tOfT K (evE cl cond) σ H Q -> tc σ H Q) {σ : St} {H : Hp} {Q : VK} (h : tOf K (evE cl (.compP .zip elt a b cond)) σ H Q) :
    tComp (un2 K) (iZip K (tCons (tOf K (evE cl a)) (tCons (tOf K (evE cl b)) tNil))) tc (tOf K (evE cl elt)) σ H Q := by
  obtain ⟨as, env, m, S, G, P⟩ := h
  have P' : Post K as H Q ((evE cl a env m).bind fun x m1 => (evE cl b env m1).bind fun y m2 =>
    compG (fun u v m => evE cl cond (env ++ [some u] ++ [some v]) m) (fun u v m => evE cl elt (env ++ [some u] ++ [some v]) m) (pairAt .zip x y) (lim + 1) 0 [] m2) := P
  refine ⟨as, env, m, S, G, Post.bindAt P' .refl fun w m1 as1 H1 v T1 S1 R1 P1 => ?_⟩
  refine ⟨as1, env, m1, S1, G.mono S T1, Post.bindAt P1 T1 fun w2 m2 as2 H2 v2 T2 S2 R2 P2 => ?_⟩
  have P3 := Post.step P2 (T1.trans T2)
  have G2 := (G.mono S T1).mono S1 T2
  have look : ∃ la lb xs ys, w = .ref la /\ w2 = .ref lb /\ lstAt m2 la = some xs /\ lstAt m2 lb = some ys := by
    cases e : pairAt .zip w w2 0 m2 with
    | none => rw [compG_none e] at P3; exact P3.elim
    | some o => exact pairAt_zip e
  obtain ⟨la, lb, xs, ys, rfl, rfl, e1, e2⟩ := look
  obtain ⟨a1, ha1, rfl⟩ := rep_ref.mp R1
  obtain ⟨b1, hb1, rfl⟩ := rep_ref.mp R2
  have ha2 := T2.get ha1
  obtain ⟨a', us, ha', eH, RL⟩ := lst_of S2 (lstAt_some e1)
  rw [ha2] at ha'; cases ha'
  obtain ⟨b', vs, hb', eH2, RL2⟩ := lst_of S2 (lstAt_some e2)
  rw [hb1] at hb'; cases hb'
  exact ⟨a1, b1, us, vs, rfl, SqL.of eH, SqL.of eH2, compP_loop htc (pairIt_zip ha2 hb1) S2 G2 P3⟩
theorem comp_bindE {c : Nat} {z : Int} (hz : z = (c : Int)) {elt a cond : Ex} {tc : TT} (htc : ∀ σ H Q, tOfT K (evE cl cond) σ H Q -> tc σ H Q) {σ : St} {H : Hp} {Q : VK} (h : tOf K (evE cl (.compP .enum elt a (.lit (.int z)) cond)) σ H Q) :
    tComp (un2 K) (iEnum K c (tCons (tOf K (evE cl a)) tNil)) tc (tOf K (evE cl elt)) σ H Q := by
  subst hz
  obtain ⟨as, env, m, S, G, P⟩ := h
  have hl : ∀ m1, evE cl (.lit (.int (c : Int))) env m1 = .ok (.int (c : Int)) m1 := fun _ => rfl
  have P' : Post K as H Q ((evE cl a env m).bind fun x m1 => (evE cl (.lit (.int (c : Int))) env m1).bind fun y m2 =>
    compG (fun u v m => evE cl cond (env ++ [some u] ++ [some v]) m) (fun u v m => evE cl elt (env ++ [some u] ++ [some v]) m) (pairAt .enum x y) (lim + 1) 0 [] m2) := P
  refine ⟨as, env, m, S, G, Post.bindAt P' .refl fun w m1 as1 H1 v T1 S1 R1 P1 => ?_⟩
  rw [hl, bind_ok] at P1
  have P3 := Post.step P1 T1
  have look : ∃ la xs, w = .ref la /\ lstAt m1 la = some xs := by
    cases e : pairAt .enum w (.int (c : Int)) 0 m1 with
    | none => rw [compG_none e] at P3; exact P3.elim
    | some o => exact pairAt_enum e
  obtain ⟨la, xs, rfl, e1⟩ := look
  obtain ⟨a1, ha1, rfl⟩ := rep_ref.mp R1
  obtain ⟨a', us, ha', eH, RL⟩ := lst_of S1 (lstAt_some e1)
  rw [ha1] at ha'; cases ha'
  exact ⟨a1, us, rfl, SqL.of eH, compP_loop htc (pairIt_enum ha1) S1 (G.mono S T1) P3⟩
theorem comp_bind {elt it cond : Ex} {tc : TT} (htc : ∀ σ H Q, tOfT K (evE cl cond) σ H Q -> tc σ H Q) {σ : St} {H : Hp} {Q : VK} (h : tOf K (evE cl (.comp elt it cond)) σ H Q) :
    tComp un1 (iOf K (evE cl it)) tc (tOf K (evE cl elt)) σ H Q := by
  obtain ⟨as, env, m, S, G, P⟩ := h
  refine ⟨as, env, m, S, G, ?_⟩
  have P' : Post K as H Q ((evE cl it env m).bind fun x m1 => match x with
    | .tup xs => compL (fun x m => evE cl cond (env ++ [some x]) m) (fun x m => evE cl elt (env ++ [some x]) m) xs [] m1
    | .rol xs => compL (fun x m => evE cl cond (env ++ [some x]) m) (fun x m => evE cl elt (env ++ [some x]) m) xs [] m1
    | .ref l => compR (fun x m => evE cl cond (env ++ [some x]) m) (fun x m => evE cl elt (env ++ [some x]) m) l (lim + 1) 0 [] m1
    | _ => .no) := P
  clear P
  cases hr : evE cl it env m with
  | no => rw [hr] at P'; exact P'
  | exc c w m' => rw [hr] at P'; exact P'
  | ok w m1 =>
    rw [hr] at P'
    have start : ∀ {as1 : List Addr} {H1 : Hp} {D : Addr}, Step as H as1 H1 -> Sim K as1 m1 H1 -> H1 D = none -> Mid K as1 H1 D env σ as1 m1 [] [] (upd H1 D (.lst [])) := fun {as1 H1 D} T1 S1 hD => Mid.start (as := as) (H := H) S1 (G.mono S T1) hD
    -- over items that stay
    have seqs : ∀ (xs : List Wd), Post K as H Q (compL (fun x m => evE cl cond (env ++ [some x]) m) (fun x m => evE cl elt (env ++ [some x]) m) xs [] m1) ->
        ∀ as1 H1 J, Step as H as1 H1 -> Sim K as1 m1 H1 -> TupIt K as1 H1 J xs -> ∀ D, H1 D = none -> ∃ W : Nat -> Nat -> List V -> Hp -> Prop, (∃ m, W 0 m [] (upd H1 D (.lst []))) /\ ∀ i m ys H, W i m ys H ->
          (J.stop i H /\ Q (.ref D) H) \/ (J.go i H /\ ∀ v H', J.yld i H v H' -> ∃ vs, un1 v H' vs /\ tc (σ ++ vs.map some) H' fun b H2 => if b = true then tOf K (evE cl elt) (σ ++ vs.map some) H2 fun y H3 => H3 D = some (.lst ys) /\ ys.length < sizeLine /\ ∃ m', m' < m /\ W (i + 1) m' (ys ++ [y]) (upd H3 D (.lst (ys ++ [y])))
            else ∃ m', m' < m /\ W (i + 1) m' ys H2) := by
      intro xs Pc as1 H1 J T1 S1 hI D hD
      obtain ⟨vs, ok, hJ, ok1, RL, stab⟩ := hI
      have Pc1 := Post.step Pc T1
      have hlen := RL.length
      refine ⟨fun i n ys H' => ∃ as' m' acc, i <= xs.length /\ n = xs.length - i /\ Mid K as1 H1 D env σ as' m' acc ys H' /\ ok H' /\ RepL K as' H' xs vs /\
        Post K as1 H1 Q (compL (fun x m => evE cl cond (env ++ [some x]) m) (fun x m => evE cl elt (env ++ [some x]) m) (xs.drop i) acc m'),
        ⟨xs.length, as1, m1, [], Nat.zero_le _, rfl, start T1 S1 hD, stab _ _ (S1.kp (start T1 S1 hD).T) ok1, RL.mono S1 (start T1 S1 hD).T, Pc1⟩, ?_⟩
      rintro i n ys H' ⟨as', m', acc, hi, rfl, M, okH, RL', Pi⟩
      by_cases hlt : i < xs.length
      . refine .inr ⟨hJ.go i H' okH (by rw [<- hlen]; exact hlt), fun v H'' hy => ?_⟩
        obtain ⟨rfl, hv⟩ := hJ.yld i H' v H'' okH (by rw [<- hlen]; exact hlt) hy
        obtain ⟨v', hv', Rx⟩ := RL'.get (i := i) (x := xs[i]) (by simp [hlt])
        rw [hv] at hv'; cases hv'
        rw [List.drop_eq_getElem_cons hlt] at Pi
        refine ⟨[v], rfl, comp_turn htc (sx := [some v]) (next := fun acc m => compL (fun x m => evE cl cond (env ++ [some x]) m) (fun x m => evE cl elt (env ++ [some x]) m) (xs.drop (i + 1)) acc m) (N := fun zs H2 => ∃ n', n' < xs.length - i /\ ∃ as' m' acc, i + 1 <= xs.length /\ n' = xs.length - (i + 1) /\ Mid K as1 H1 D env σ as' m' acc zs H2 /\ ok H2 /\ RepL K as' H2 xs vs /\ Post K as1 H1 Q (compL (fun x m => evE cl cond (env ++ [some x]) m) (fun x m => evE cl elt (env ++ [some x]) m) (xs.drop (i + 1)) acc m')) hD M (M.G.push Rx) Pi ?_⟩
        intro as2 m2 acc' ys' H2 kp g M2 P2
        exact ⟨xs.length - (i + 1), by omega, as2, m2, acc', hlt, rfl, M2, stab _ _ kp okH, repL_mono kp g _ _ RL', P2⟩
      . have e : i = xs.length := by omega
        subst e
        rw [List.drop_length] at Pi
        exact .inl ⟨hJ.stop _ H' okH (by omega), alloc_join M.S M.T hD M.hD M.n M.R Pi⟩
    cases w with
    | tup xs => exact ⟨rfl, fun as1 H1 J T1 S1 hI => seqs xs P' as1 H1 J T1 S1 hI⟩
    | rol xs => exact ⟨rfl, fun as1 H1 J T1 S1 hI => seqs xs P' as1 H1 J T1 S1 hI⟩
    | ref l =>
      have P2 : Post K as H Q (compR (fun x m => evE cl cond (env ++ [some x]) m) (fun x m => evE cl elt (env ++ [some x]) m) l (lim + 1) 0 [] m1) := P'
      refine ⟨?_, fun as1 H1 J T1 S1 hI D hD => ?_⟩
      . show (lstAt m1 l).isSome = true
        cases e : lstAt m1 l with
        | some xs => rfl
        | none =>
          unfold compR at P2
          rw [e] at P2
          exact P2.elim
      . obtain ⟨a, ha, rfl⟩ := hI
        have Pc1 := Post.step P2 T1
        refine ⟨fun i n ys H' => ∃ as' m' acc, as'[l]? = some a /\ Mid K as1 H1 D env σ as' m' acc ys H' /\
          Post K as1 H1 Q (compR (fun x m => evE cl cond (env ++ [some x]) m) (fun x m => evE cl elt (env ++ [some x]) m) l n i acc m'), ⟨lim + 1, as1, m1, [], ha, start T1 S1 hD, Pc1⟩, ?_⟩
        rintro i n ys H' ⟨as', m', acc, hl, M, Pi⟩
        cases n with
        | zero => exact Pi.elim
        | succ n =>
          unfold compR at Pi
          cases e : lstAt m' l with
          | none => rw [e] at Pi; exact Pi.elim
          | some xs =>
            rw [e] at Pi
            simp only [] at Pi
            obtain ⟨a', vs, ha', eH, RL⟩ := lst_of M.S (lstAt_some e)
            rw [hl] at ha'; cases ha'
            cases ex : xs[i]? with
            | none =>
              rw [ex] at Pi
              have hle : vs.length <= i := by rw [<- RL.length]; exact List.getElem?_eq_none_iff.mp ex
              exact .inl ⟨⟨vs, SqL.of eH, hle⟩, alloc_join M.S M.T hD M.hD M.n M.R Pi⟩
            | some x =>
              rw [ex] at Pi
              obtain ⟨v0, hv0, Rx⟩ := RL.get ex
              refine .inr ⟨⟨vs, v0, SqL.of eH, hv0⟩, fun v H'' hy => ?_⟩
              obtain ⟨rfl, hy⟩ := hy
              have := hy vs (SqL.of eH)
              rw [hv0] at this; cases this
              refine ⟨[v0], rfl, comp_turn htc (sx := [some v0]) (next := fun acc m => compR (fun x m => evE cl cond (env ++ [some x]) m) (fun x m => evE cl elt (env ++ [some x]) m) l n (i + 1) acc m) (N := fun zs H2 => ∃ n', n' < n + 1 /\ ∃ as' m' acc, as'[l]? = some a /\ Mid K as1 H1 D env σ as' m' acc zs H2 /\ Post K as1 H1 Q (compR (fun x m => evE cl cond (env ++ [some x]) m) (fun x m => evE cl elt (env ++ [some x]) m) l n' (i + 1) acc m')) hD M (M.G.push Rx) Pi ?_⟩
              intro as2 m2 acc' ys' H2 kp g M2 P2
              exact ⟨n, Nat.lt_succ_self _, as2, m2, acc', g _ _ hl, M2, P2⟩
    | non => exact P'.elim
    | bl k => exact P'.elim
    | int i => exact P'.elim
    | str s => exact P'.elim
end
end Mini
namespace Mini
open PySem PySem.Spec PyProof.Rows L2
section
variable {cl : Nat -> List Wd -> Me -> Rz}
theorem Snd.pe {X : Cx} {e : Ex} {x : Expr} (h : Snd cl X e (.e x)) (hr : isRng e = false) : PE X x (tOf X.K (evE cl e)) := (h.1 hr).1
theorem Snd.pt {X : Cx} {e : Ex} {x : Expr} (h : Snd cl X e (.e x)) (hr : isRng e = false) (hi : isIf e = false) : PT X x (tOfT X.K (evE cl e)) := (h.1 hr).2.1 hi
theorem Snd.pw {X : Cx} {e : Ex} {op : BoolOp} {vs : List Expr} {pos : Pos} (h : Snd cl X e (.e (.BoolOp op vs pos))) (hr : isRng e = false) : PW X (.BoolOp op vs pos) (tOfT X.K (evE cl e)) := (h.1 hr).2.2 op vs pos rfl
theorem Snd.pa {X : Cx} {e : Ex} {xs : List Expr} (h : Snd cl X e (.a xs)) : PA X xs (tOfA X.K (evE cl e)) := h
theorem vis_of {sc : Scope} {x : Str} (h : visB sc x = true) : Vis sc x := by
  unfold visB at h
  simp only [Bool.or_eq_true, decide_eq_true_eq] at h
  exact h
theorem gl_of {sc : Scope} {x : Str} (h : glB sc x = true) : sc.names.lookup x = some .globalImplicit := of_decide_eq_true h
theorem tOf_lit {K : PySem.W.Frag} {w : Wd} {v : V} (hv : ∀ as H, Rep K as H w v) : ∀ σ H Q, tOf K (evE cl (.lit w)) σ H Q -> tC v σ H Q := fun σ H Q h => by
  obtain ⟨as, env, m, S, G, P⟩ := h
  exact Post.ok (m := m) P S (hv as H)
theorem set_plain {env : Env} {y : Expr} (hs : notSet y = true) : ∀ v, foldedSetIterable y env v = pure v := fun v => by
  cases y <;> first | rfl | cases hs
def IsE (C : Ctx) (sc : Scope) (N : List Str) (e : Ex) (n : Nd) : Prop := ∀ (cl : Nat → List Wd → Me → Rz) (d : Nat) (X : Cx), CtxOk C X cl d → X.env.scope = sc → X.N = N → Snd cl X e n
theorem sound {C : Ctx} {d : Nat} {sc : Scope} {N : List Str} {e : Ex} {n : Nd} (h : IsE C sc N e n) : ∀ X : Cx, CtxOk C X cl d -> X.env.scope = sc -> X.N = N -> Snd cl X e n := h cl d
theorem IsE.«var» {C : Ctx} {sc : Scope} {N : List Str} {i : Nat} {x : Str} {p : Pos} (h1 : N[i]? = some x) (h2 : visB sc x = true) (h3 : okName x = true) : IsE C sc N (.var i) (.e (.Name x p)) := by
  intro cl d
  intro X hC es eN
  subst es; subst eN
  obtain ⟨n1, n2, _⟩ := okName_of h3
  refine Snd.of (PE.imp (pe_var h1 (vis_of h2) n1 n2) fun σ H Q q => ?_)
  obtain ⟨as, env, m, S, G, P⟩ := q
  cases hw : env[i]? with
  | none => have P' : Post X.K as H Q (match env[i]? with | some (some w) => .ok w m | _ => .no) := P; rw [hw] at P'; exact P'.elim
  | some o =>
    cases o with
    | none => have P' : Post X.K as H Q (match env[i]? with | some (some w) => .ok w m | _ => .no) := P; rw [hw] at P'; exact P'.elim
    | some w =>
      have P' : Post X.K as H Q (match env[i]? with | some (some w) => .ok w m | _ => .no) := P
      rw [hw] at P'
      obtain ⟨v, hv, R⟩ := G.get i w hw
      exact ⟨v, hv, Post.ok (m := m) P' S R⟩
theorem IsE.«bl» {C : Ctx} {sc : Scope} {N : List Str} {b : Bool} {k} {p : Pos} : IsE C sc N (.lit (.bl b)) (.e (.Constant (.bool b) k p)) := by
  intro cl d
  intro X hC es eN; exact Snd.of (PE.imp pe_bl (tOf_lit fun _ _ => rep_bl.mpr rfl))
theorem IsE.«int» {C : Ctx} {sc : Scope} {N : List Str} {i : Int} {k} {p : Pos} : IsE C sc N (.lit (.int i)) (.e (.Constant (.int i) k p)) := by
  intro cl d
  intro X hC es eN; exact Snd.of (PE.imp pe_int (tOf_lit fun _ _ => rep_int.mpr rfl))
theorem IsE.«str» {C : Ctx} {sc : Scope} {N : List Str} {s : Str} {t : List Nat} {k} {p : Pos} (h : s.cps.toList = t) : IsE C sc N (.lit (.str t)) (.e (.Constant (.str s) k p)) := by
  intro cl d
  intro X hC es eN; subst h; exact Snd.of (PE.imp pe_str (tOf_lit fun _ _ => rep_str.mpr (by simp)))
theorem IsE.«con» {C : Ctx} {sc : Scope} {N : List Str} {x : Str} {i : Int} {p : Pos} (h1 : glB sc x = true) (h2 : C.cons.lookup x = some i) (h3 : okName x = true) : IsE C sc N (.lit (.int i)) (.e (.Name x p)) := by
  intro cl d
  intro X hC es eN
  subst es
  obtain ⟨n1, n2, _⟩ := okName_of h3
  obtain ⟨t, ht⟩ := hC.con x i h2
  exact Snd.of (PE.imp (pe_glob (gl_of h1) ht (v := .int i) ⟨t, rfl⟩ n1) (tOf_lit fun _ _ => rep_int.mpr rfl))
theorem IsE.«bin» {C : Ctx} {sc : Scope} {N : List Str} {op : Bo} {a b : Ex} {x y : Expr} {p : Pos} (ra : isRng a = false) (ha : IsE C sc N a (.e x)) (rb : isRng b = false) (hb : IsE C sc N b (.e y)) : IsE C sc N (.bin op a b) (.e (.BinOp x (opK op) y p)) := by
  intro cl d
  have iha := ha cl d
  have ihb := hb cl d
  intro X hC es eN; exact Snd.of (se_bin ((iha X hC es eN).pe ra) ((ihb X hC es eN).pe rb))
theorem IsE.«not» {C : Ctx} {sc : Scope} {N : List Str} {a : Ex} {x : Expr} {p : Pos} (ra : isRng a = false) (ia : isIf a = false) (ha : IsE C sc N a (.e x)) : IsE C sc N (.not a) (.e (.UnaryOp .Not x p)) := by
  intro cl d
  have iha := ha cl d
  intro X hC es eN
  have s1 := iha X hC es eN
  exact ⟨fun _ => ⟨se_not (s1.pe ra), fun _ => st_not (s1.pt ra ia), fun op vs pos z => by cases z⟩, fun tg => pi_of (se_not (s1.pe ra))⟩
theorem IsE.«and2» {C : Ctx} {sc : Scope} {N : List Str} {a b : Ex} {x y : Expr} {p : Pos} (ra : isRng a = false) (ia : isIf a = false) (ha : IsE C sc N a (.e x)) (rb : isRng b = false) (ib : isIf b = false) (hb : IsE C sc N b (.e y)) : IsE C sc N (.and a b) (.e (.BoolOp .And [x, y] p)) := by
  intro cl d
  have iha := ha cl d
  have ihb := hb cl d
  intro X hC es eN
  have sa := iha X hC es eN
  have sb := ihb X hC es eN
  have e := fun (p : Pos) => se_and (pos := p) (sa.pe ra) (pe_one (sb.pe rb))
  have w := fun (p : Pos) => sw_and (pos := p) (sa.pt ra ia) (pw_and1 (sb.pt rb ib))
  exact ⟨fun _ => ⟨e _, fun _ => (w _).pt, fun op vs pos z => by cases z; exact w _⟩, fun tg => pi_of (e _)⟩
theorem IsE.«or2» {C : Ctx} {sc : Scope} {N : List Str} {a b : Ex} {x y : Expr} {p : Pos} (ra : isRng a = false) (ia : isIf a = false) (ha : IsE C sc N a (.e x)) (rb : isRng b = false) (ib : isIf b = false) (hb : IsE C sc N b (.e y)) : IsE C sc N (.or a b) (.e (.BoolOp .Or [x, y] p)) := by
  intro cl d
  have iha := ha cl d
  have ihb := hb cl d
  intro X hC es eN
  have sa := iha X hC es eN
  have sb := ihb X hC es eN
  have e := fun (p : Pos) => se_or (pos := p) (sa.pe ra) (pe_one (sb.pe rb))
  have w := fun (p : Pos) => sw_or (pos := p) (sa.pt ra ia) (pw_or1 (sb.pt rb ib))
  exact ⟨fun _ => ⟨e _, fun _ => (w _).pt, fun op vs pos z => by cases z; exact w _⟩, fun tg => pi_of (e _)⟩
theorem IsE.«orN» {C : Ctx} {sc : Scope} {N : List Str} {a b : Ex} {x y z : Expr} {r : List Expr} {p : Pos} (ra : isRng a = false) (ia : isIf a = false) (ha : IsE C sc N a (.e x)) (rb : isRng b = false) (hb : IsE C sc N b (.e (.BoolOp .Or (y :: z :: r) p))) : IsE C sc N (.or a b) (.e (.BoolOp .Or (x :: y :: z :: r) p)) := by
  intro cl d
  have iha := ha cl d
  have ihb := hb cl d
  intro X hC es eN
  have sa := iha X hC es eN
  have sb := ihb X hC es eN
  have e := se_or (sa.pe ra) (sb.pe rb)
  have w := sw_or (sa.pt ra ia) (sb.pw rb)
  exact ⟨fun _ => ⟨e, fun _ => w.pt, fun op vs pos z => by cases z; exact w⟩, fun tg => pi_of e⟩
theorem IsE.«cmp» {C : Ctx} {sc : Scope} {N : List Str} {op : Co} {a b : Ex} {x y : Expr} {p : Pos} (hs : notSet y = true) (ra : isRng a = false) (ha : IsE C sc N a (.e x)) (rb : isRng b = false) (hb : IsE C sc N b (.e y)) : IsE C sc N (.cmp op a b) (.e (.Compare x [cK op] [y] p)) := by
  intro cl d
  have iha := ha cl d
  have ihb := hb cl d
  intro X hC es eN
  have ea := (iha X hC es eN).pe ra
  have eb := (ihb X hC es eN).pe rb
  exact ⟨fun _ => ⟨se_cmp hC.room.units ea eb hs, fun _ => st_cmp hC.room.units ea eb hs, fun op vs pos z => by cases z⟩, fun tg => pi_of (se_cmp hC.room.units ea eb hs)⟩
theorem IsE.«chain» {C : Ctx} {sc : Scope} {N : List Str} {o q : Co} {a b c : Ex} {x y z : Expr} {p : Pos} (hs : notSet z = true) (ra : isRng a = false) (ha : IsE C sc N a (.e x)) (rb : isRng b = false) (hb : IsE C sc N b (.e y)) (rc : isRng c = false) (hc : IsE C sc N c (.e z)) : IsE C sc N (.chain o q a b c) (.e (.Compare x [cK o, cK q] [y, z] p)) := by
  intro cl d
  have iha := ha cl d
  have ihb := hb cl d
  have ihc := hc cl d
  intro X hC es eN
  have ea := (iha X hC es eN).pe ra
  have eb := (ihb X hC es eN).pe rb
  have ec := (ihc X hC es eN).pe rc
  exact ⟨fun _ => ⟨se_chain hC.room.units ea eb ec hs, fun _ => st_chain hC.room.units ea eb ec hs, fun op vs pos z => by cases z⟩, fun tg => pi_of (se_chain hC.room.units ea eb ec hs)⟩
theorem IsE.«ife» {C : Ctx} {sc : Scope} {N : List Str} {a b c : Ex} {x y z : Expr} {p : Pos} (rc : isRng c = false) (ic : isIf c = false) (hc : IsE C sc N c (.e x)) (ra : isRng a = false) (ha : IsE C sc N a (.e y)) (rb : isRng b = false) (hb : IsE C sc N b (.e z)) : IsE C sc N (.ife c a b) (.e (.IfExp x y z p)) := by
  intro cl d
  have ihc := hc cl d
  have iha := ha cl d
  have ihb := hb cl d
  intro X hC es eN
  have e := fun (p : Pos) => se_ite (pos := p) ((ihc X hC es eN).pt rc ic) ((iha X hC es eN).pe ra) ((ihb X hC es eN).pe rb)
  exact ⟨fun _ => ⟨e _, fun z => (by cases z), fun op vs pos z => (by cases z)⟩, fun tg => pi_of (e _)⟩
theorem IsE.«unit» {C : Ctx} {sc : Scope} {N : List Str} : IsE C sc N .unit (.a []) := by
  intro cl d
  intro X hC es eN; exact sa_unit
theorem IsE.«pair» {C : Ctx} {sc : Scope} {N : List Str} {a b : Ex} {x : Expr} {xs : List Expr} (hs : notStar x = true) (ra : isRng a = false) (ha : IsE C sc N a (.e x)) (hb : IsE C sc N b (.a xs)) : IsE C sc N (.pair a b) (.a (x :: xs)) := by
  intro cl d
  have iha := ha cl d
  have ihb := hb cl d
  intro X hC es eN; exact sa_pair ((iha X hC es eN).pe ra) (ihb X hC es eN).pa hs
theorem IsE.«call» {C : Ctx} {sc : Scope} {N : List Str} {k : Nat} {a : Ex} {f : Str} {y : Expr} {ys : List Expr} {p p' : Pos} (h1 : C.fns[k]? = some f) (h2 : glB sc f = true) (h3 : okName f = true) (hs : (y :: ys).all notStar = true) (ha : IsE C sc N a (.a (y :: ys))) : IsE C sc N (.call k a) (.e (.Call (.Name f p) (y :: ys) [] p')) := by
  intro cl d
  have iha := ha cl d
  intro X hC es eN; subst es; exact Snd.of (se_call hC h1 (gl_of h2) h3 hs (iha X hC rfl eN).pa)
theorem IsE.«blt» {C : Ctx} {sc : Scope} {N : List Str} {b : Blf} {a : Ex} {nm : Str} {f : Value} {y : Expr} {ys : List Expr} {p p' : Pos} (h1 : bltV b = some (nm, f)) (h2 : glB sc nm = true) (h3 : okName nm = true) (hs : (y :: ys).all notStar = true) (ha : IsE C sc N a (.a (y :: ys))) : IsE C sc N (.blt b a) (.e (.Call (.Name nm p) (y :: ys) [] p')) := by
  intro cl d
  have iha := ha cl d
  intro X hC es eN; subst es; exact Snd.of (se_blt hC h1 (gl_of h2) h3 hs (iha X hC rfl eN).pa)
theorem IsE.«isi» {C : Ctx} {sc : Scope} {N : List Str} {t : Tg} {a : Ex} {y : Expr} {p p' p'' : Pos} (h1 : glB sc "isinstance" = true) (h2 : glB sc (Str.ofString (tgT t)) = true) (hs : notStar y = true) (ra : isRng a = false) (ha : IsE C sc N a (.e y)) : IsE C sc N (.isi t a) (.e (.Call (.Name "isinstance" p) [y, .Name (Str.ofString (tgT t)) p'] [] p'')) := by
  intro cl d
  have iha := ha cl d
  intro X hC es eN; subst es; exact Snd.of (se_isi hC (gl_of h1) (gl_of h2) hs ((iha X hC rfl eN).pe ra))
theorem IsE.«lst» {C : Ctx} {sc : Scope} {N : List Str} {a : Ex} {xs : List Expr} {p : Pos} (ha : IsE C sc N a (.a xs)) : IsE C sc N (.lst a) (.e (.List xs p)) := by
  intro cl d
  have iha := ha cl d
  intro X hC es eN; exact Snd.of (se_lst (iha X hC es eN).pa)
theorem IsE.«tup» {C : Ctx} {sc : Scope} {N : List Str} {a : Ex} {xs : List Expr} {k} {p : Pos} (ha : IsE C sc N a (.a xs)) : IsE C sc N (.tup a) (.e (.Tuple xs k p)) := by
  intro cl d
  have iha := ha cl d
  intro X hC es eN; exact Snd.of (se_tup (iha X hC es eN).pa)
theorem IsE.«idx» {C : Ctx} {sc : Scope} {N : List Str} {a b : Ex} {x y : Expr} {p : Pos} (hs : notSlice y = true) (ra : isRng a = false) (ha : IsE C sc N a (.e x)) (rb : isRng b = false) (hb : IsE C sc N b (.e y)) : IsE C sc N (.idx a b) (.e (.Subscript x y p)) := by
  intro cl d
  have iha := ha cl d
  have ihb := hb cl d
  intro X hC es eN; exact Snd.of (se_idx ((iha X hC es eN).pe ra) ((ihb X hC es eN).pe rb) hs)
theorem IsE.«meth» {C : Ctx} {sc : Scope} {N : List Str} {k : Mth} {o a : Ex} {x y : Expr} {ys : List Expr} {ap cp : Pos} (hx : notCall x = true) (hl : (ap.endLine == cp.line) = true) (hn : (y :: ys).length < 29) (hs : (y :: ys).all notStar = true) (ro : isRng o = false) (ho : IsE C sc N o (.e x)) (ha : IsE C sc N a (.a (y :: ys))) : IsE C sc N (.meth k o a) (.e (.Call (.Attribute x (mtV k).1 ap) (y :: ys) [] cp)) := by
  intro cl d
  have iho := ho cl d
  have iha := ha cl d
  intro X hC es eN; exact Snd.of (se_meth ((iho X hC es eN).pe ro) (iha X hC es eN).pa hx hl hn hs)
theorem IsE.«rng1» {C : Ctx} {sc : Scope} {N : List Str} {b : Ex} {y : Expr} {p p' : Pos} (hg : glB sc "range" = true) (hs : notStar y = true) (rb : isRng b = false) (hb : IsE C sc N b (.e y)) : IsE C sc N (.rng (.lit (.int 0)) b (.lit (.int 1))) (.e (.Call (.Name "range" p) [y] [] p')) := by
  intro cl d
  have ihb := hb cl d
  intro X hC es eN; subst es; exact ⟨fun z => (by cases z), fun tg => si_rng1 hC (gl_of hg) hs ((ihb X hC rfl eN).pe rb)⟩
theorem IsE.«rng2» {C : Ctx} {sc : Scope} {N : List Str} {a b : Ex} {x y : Expr} {p p' : Pos} (hg : glB sc "range" = true) (hs : notStar x = true) (hs' : notStar y = true) (ra : isRng a = false) (ha : IsE C sc N a (.e x)) (rb : isRng b = false) (hb : IsE C sc N b (.e y)) : IsE C sc N (.rng a b (.lit (.int 1))) (.e (.Call (.Name "range" p) [x, y] [] p')) := by
  intro cl d
  have iha := ha cl d
  have ihb := hb cl d
  intro X hC es eN; subst es; exact ⟨fun z => (by cases z), fun tg => si_rng2 hC (gl_of hg) hs hs' ((iha X hC rfl eN).pe ra) ((ihb X hC rfl eN).pe rb)⟩
theorem IsE.«comp1» {C : Ctx} {sc scope : Scope} {N : List Str} {elt it cond : Ex} {x i f : Expr} {y : Str} {p p' : Pos} (hs : notSet i = true) (hB : blockB sc N scope [y] = true) (hi : IsE C sc N it (.e i)) (rc : isRng cond = false) (ic : isIf cond = false) (hc : IsE C (relabelS scope sc) (compN N [y]) cond (.e f)) (re : isRng elt = false) (he : IsE C (relabelS scope sc) (compN N [y]) elt (.e x)) : IsE C sc N (.comp elt it cond) (.e (.ListComp x [⟨.Name y p, i, [f], 0⟩] scope p')) := by
  intro cl d
  have ihi := hi cl d
  have ihc := hc cl d
  have ihe := he cl d
  intro X hC es eN
  subst es; subst eN
  have B := blockB_ok hB
  have hI := (ihi X hC rfl rfl).2 (.Name y p)
  have hset : ∀ v, foldedSetIterable i X.env v = pure v := set_plain hs
  have body : ∀ Xc, CompOf X scope [y] Xc -> PE Xc x (tOf X.K (evE cl elt)) := fun Xc c => by
    have q := (ihe Xc (hC.comp c) c.sc c.N).pe re
    rw [c.K] at q
    exact q
  refine Snd.of (PE.imp (pe_comp B hC.calm (tgt_one B) hI (fun Xc c => ⟨pts_one ?_, body Xc c⟩) hset) fun σ H Q q => comp_bind (fun σ H Q q => q) q)
  have q := (ihc Xc (hC.comp c) c.sc c.N).pt rc ic
  rw [c.K] at q
  exact q
end
end Mini
namespace Mini
open PySem PySem.Spec PyProof.Rows L2
theorem sw_sub {o i p j a b : Expr} {p1 p2 p3 p4 : Pos} {k k' : Nat} {env : Env} : swappedStores [.Tuple [.Subscript o i p1, .Subscript p j p2] k p3] (.Tuple [a, b] k' p4) env = pure none := by
  unfold swappedStores
  simp only []
  split
  . rfl
  . split
    . rfl
    . rfl
theorem sw_one {o i v : Expr} {p1 : Pos} {env : Env} : swappedStores [.Subscript o i p1] v env = pure none := rfl
theorem sw_none {v tg : Expr} {line : Nat} {env : Env} (h : ∀ x p, tg ≠ .Name x p) : swapsWithSole [tg] v line env = pure false := by
  cases v <;> first | rfl | (cases tg <;> first | rfl | exact absurd rfl (h _ _))
def isComp : Expr -> Bool
  | .ListComp _ _ _ _ => true
  | .SetComp _ _ _ _ => true
  | .DictComp _ _ _ _ _ => true
  | _ => false
theorem sw_val {v : Expr} {t : Option Expr} {line : Nat} {env : Env} (h : isComp v = false) : swapsWith v t line env = pure false := by
  cases v <;> first | rfl | cases h
def PostS (K : PySem.W.Frag) (as : List Addr) (H : Hp) (D : Ends) (r : Rs) : Prop := match r with
  | .next e m' => ∀ as' H' σ', Step as H as' H' -> Sim K as' m' H' -> EnvRep K as' H' e σ' -> D.nx σ' H'
  | .brk e m' => ∀ as' H' σ', Step as H as' H' -> Sim K as' m' H' -> EnvRep K as' H' e σ' -> D.bk σ' H'
  | .cont e m' => ∀ as' H' σ', Step as H as' H' -> Sim K as' m' H' -> EnvRep K as' H' e σ' -> D.ct σ' H'
  | .ret w m' => ∀ as' H' v, Step as H as' H' -> Sim K as' m' H' -> Rep K as' H' w v -> D.rt v H'
  | _ => False
def tOfS (K : PySem.W.Frag) (g : En -> Me -> Rs) : TS := fun D σ H => ∃ as env m, Sim K as m H /\ EnvRep K as H env σ /\ PostS K as H D (g env m)
section
variable {K : PySem.W.Frag} {as as' : List Addr} {H H' : Hp} {m : Me} {D : Ends}
theorem PostS.step {r : Rs} (h : PostS K as H D r) (T : Step as H as' H') : PostS K as' H' D r := by
  cases r with
  | next e m' => exact fun as2 H2 σ' U S G => h as2 H2 σ' (T.trans U) S G
  | brk e m' => exact fun as2 H2 σ' U S G => h as2 H2 σ' (T.trans U) S G
  | cont e m' => exact fun as2 H2 σ' U S G => h as2 H2 σ' (T.trans U) S G
  | ret w m' => exact fun as2 H2 v U S R => h as2 H2 v (T.trans U) S R
  | exc c w e m' => exact h
  | no => exact h
theorem PostS.bind {Q1 : VK} {r : Rz} {env : En} {f : Wd -> Me -> Rs} (h : PostS K as H D (r.bindS env f))
    (k : ∀ w m' as' H' v, Step as H as' H' -> Sim K as' m' H' -> Rep K as' H' w v -> PostS K as' H' D (f w m') -> Q1 v H') : Post K as H Q1 r := by
  cases r with
  | ok w m' => exact fun as2 H2 v U S R => k w m' as2 H2 v U S R (PostS.step (r := f w m') h U)
  | exc c w m' => exact h
  | no => exact h
theorem PostS.bindI {R1 : It -> Hp -> Prop} {r : Rz} {env : En} {f : Wd -> Me -> Rs} (h : PostS K as H D (r.bindS env f))
    (k : ∀ w m', PostS K as H D (f w m') -> (seqOf m' w).isSome = true /\ ∀ as' H' J, Step as H as' H' -> Sim K as' m' H' -> ItOf K as' H' w J -> R1 J H') : PostI K as H R1 r := by
  cases r with
  | ok w m' => exact k w m' h
  | exc c w m' => exact h
  | no => exact h
theorem PostS.next {env : En} {σ : St} (h : PostS K as H D (.next env m)) (S : Sim K as m H) (G : EnvRep K as H env σ) : D.nx σ H := h as H σ .refl S G
end
section
variable {cl : Nat -> List Wd -> Me -> Rz} {X : Cx} {e o i : Ex} {x y z : Expr} {pos : Pos}
theorem ss_skip : PSs X [] (tOfS X.K (exS cl .skip)) := PSs.imp pss_nil fun D σ H h => by
  obtain ⟨as, env, m, S, G, P⟩ := h
  exact PostS.next (m := m) P S G
theorem ss_pass : PS X (.Pass pos) (tOfS X.K (exS cl .skip)) := PS.imp ps_pass fun D σ H h => by
  obtain ⟨as, env, m, S, G, P⟩ := h
  exact PostS.next (m := m) P S G
theorem ss_seq {a b : Sm} {st : Stmt} {sts : List Stmt} (ha : PS X st (tOfS X.K (exS cl a))) (hb : PSs X sts (tOfS X.K (exS cl b))) : PSs X (st :: sts) (tOfS X.K (exS cl (.seq a b))) :=
  PSs.imp (pss_cons ha hb) fun D σ H h => by
    obtain ⟨as, env, m, S, G, P⟩ := h
    refine ⟨as, env, m, S, G, ?_⟩
    have P' : PostS X.K as H D (match exS cl a env m with | .next e1 m1 => exS cl b e1 m1 | r => r) := P
    cases hr : exS cl a env m with
    | next e1 m1 =>
      rw [hr] at P'
      exact fun as' H' σ' T S' G' => ⟨as', e1, m1, S', G', PostS.step P' T⟩
    | brk e1 m1 => rw [hr] at P'; exact P'
    | cont e1 m1 => rw [hr] at P'; exact P'
    | ret w m1 => rw [hr] at P'; exact P'
    | exc c w e1 m1 => rw [hr] at P'; exact P'
    | no => rw [hr] at P'; exact P'
theorem asg_bind {K : PySem.W.Frag} {i : Nat} {e : Ex} {D : Ends} {σ : St} {H : Hp} (h : tOfS K (exS cl (.asg i e)) D σ H) : tAsg (tOf K (evE cl e)) (gName i) D σ H := by
  obtain ⟨as, env, m, S, G, P⟩ := h
  refine ⟨as, env, m, S, G, PostS.bind P fun w m1 as1 H1 v T1 S1 R1 P1 => ?_⟩
  exact PostS.next (m := m1) P1 S1 ((G.mono S T1).set R1 i)
theorem ss_ret (he : PE X x (tOf X.K (evE cl e))) : PS X (.Return (some x) pos) (tOfS X.K (exS cl (.ret e))) := PS.imp (ps_ret he) fun D σ H h => by
  obtain ⟨as, env, m, S, G, P⟩ := h
  refine ⟨as, env, m, S, G, PostS.bind P fun w m1 as1 H1 v T1 S1 R1 P1 => ?_⟩
  exact P1 as1 H1 v .refl S1 R1
theorem ss_retN : PS X (.Return none pos) (tOfS X.K (exS cl .retN)) := PS.imp ps_retN fun D σ H h => by
  obtain ⟨as, env, m, S, G, P⟩ := h
  exact P as H .non .refl S (rep_non.mpr rfl)
theorem ss_expr (he : PE X x (tOf X.K (evE cl e))) (hc : isComp x = false) : PS X (.Expr x pos) (tOfS X.K (exS cl (.expr e))) := PS.imp (ps_expr he (sw_val hc)) fun D σ H h => by
  obtain ⟨as, env, m, S, G, P⟩ := h
  refine ⟨as, env, m, S, G, PostS.bind P fun w m1 as1 H1 v T1 S1 R1 P1 => ?_⟩
  exact PostS.next (m := m1) P1 S1 (G.mono S T1)
theorem ss_brk : PS X (.Break pos) (tOfS X.K (exS cl .brk)) := PS.imp ps_break fun D σ H h => by
  obtain ⟨as, env, m, S, G, P⟩ := h
  exact P as H σ .refl S G
theorem ss_cont : PS X (.Continue pos) (tOfS X.K (exS cl .cont)) := PS.imp ps_continue fun D σ H h => by
  obtain ⟨as, env, m, S, G, P⟩ := h
  exact P as H σ .refl S G
theorem ss_never {st : Stmt} : PS X st (tOfS X.K (exS cl .never)) := PS.imp ps_never fun D σ H h => by
  obtain ⟨as, env, m, S, G, P⟩ := h
  exact P
theorem ss_if {a b : Sm} {xs ys : List Stmt} (hc : PT X x (tOfT X.K (evE cl e))) (ha : PSs X xs (tOfS X.K (exS cl a))) (hb : PSs X ys (tOfS X.K (exS cl b))) : PS X (.If x xs ys pos) (tOfS X.K (exS cl (.ite e a b))) :=
  PS.imp (ps_if hc ha hb) fun D σ H h => by
    obtain ⟨as, env, m, S, G, P⟩ := h
    refine ⟨as, env, m, S, G, PostS.bind P fun w m1 as1 H1 v T1 S1 R1 P1 => ?_⟩
    cases w with
    | bl k =>
      obtain rfl := rep_bl.mp R1
      refine ⟨k, rfl, ?_⟩
      cases k with
      | true => exact iteT ⟨as1, env, m1, S1, G.mono S T1, P1⟩
      | false => exact iteF ⟨as1, env, m1, S1, G.mono S T1, P1⟩
    | _ => exact P1.elim
theorem set_bind {K : PySem.W.Frag} {as : List Addr} {H : Hp} {m : Me} {D : Ends} {env : En} {o i w : Wd} {vo vi v : V} {Q : Hp -> Prop} {f : Wd -> Me -> Rs} (S : Sim K as m H) (Ro : Rep K as H o vo) (Ri : Rep K as H i vi) (Rw : Rep K as H w v)
    (h : PostS K as H D ((setR o i w m).bindS env f)) (k : ∀ m' H', Step as H as H' -> Sim K as m' H' -> PostS K as H' D (f .non m') -> Q H') : rSetL vo vi v H Q := by
  have key : ∀ r, setR o i w m = r -> (∃ m', r = .ok .non m') \/ r = .no := fun r e => by
    unfold setR at e
    split at e
    . split at e
      . split at e
        . exact .inl ⟨_, e.symm⟩
        . exact .inr e.symm
      . exact .inr e.symm
    . exact .inr e.symm
  rcases key _ rfl with ⟨m', e⟩ | e
  . refine set_ok S Ro Ri Rw (fun m2 e2 H' T S' => ?_) ⟨m', e⟩
    rw [e] at e2; cases e2
    rw [e] at h
    exact k m' H' T S' (PostS.step (r := f .non m') h T)
  . rw [e] at h; exact h.elim
theorem assign_sub {o i : Expr} {p : Pos} {env : Env} (hs : notSlice i = true) : ∀ v, assign (.Subscript o i p) env v = (do
      let ov <- holding [v] (eval o env)
      let iv <- holding [v, ov] (eval i env)
      standAt p
      holding [v, ov, iv] (setItem ov iv v)
      release [v, ov, iv] []) := fun v => by
  cases i <;> first | rfl | cases hs
theorem ss_asgS {p1 : Pos} (ho : PE X x (tOf X.K (evE cl o))) (hi : PE X y (tOf X.K (evE cl i))) (he : PE X z (tOf X.K (evE cl e))) (hs : notSlice y = true) : PS X (.Assign [.Subscript x y p1] z pos) (tOfS X.K (exS cl (.asgS o i e))) :=
  PS.imp (ps_asg he (pg_sub ho hi set_list (assign_sub hs)) (sw_none (by intros; intro q; cases q)) sw_one) fun D σ H h => by
    obtain ⟨as, env, m, S, G, P⟩ := h
    refine ⟨as, env, m, S, G, PostS.bind P fun w m1 as1 H1 v T1 S1 R1 P1 => ?_⟩
    refine ⟨as1, env, m1, S1, G.mono S T1, PostS.bind P1 fun wo m2 as2 H2 vo T2 S2 R2 P2 => ?_⟩
    refine ⟨as2, env, m2, S2, (G.mono S T1).mono S1 T2, PostS.bind P2 fun wi m3 as3 H3 vi T3 S3 R3 P3 => ?_⟩
    refine set_bind S3 (R2.mono S2 T3) R3 ((R1.mono S1 T2).mono S2 T3) P3 fun m4 H4 T4 S4 P4 => ?_
    exact PostS.next (m := m4) P4 S4 ((((G.mono S T1).mono S1 T2).mono S2 T3).mono S3 T4)
end
end Mini
namespace Mini
open PySem PySem.Spec PyProof.Rows L2
section
variable {cl : Nat -> List Wd -> Me -> Rz} {X : Cx} {e o i p j a b : Ex} {x y z u v w : Expr} {pos : Pos}
theorem ss_swapS {p1 p2 p3 p4 : Pos} {k k' : Nat} (hc : X.calm = true) (ho : PE X x (tOf X.K (evE cl o))) (hi : PE X y (tOf X.K (evE cl i))) (hp : PE X z (tOf X.K (evE cl p))) (hj : PE X u (tOf X.K (evE cl j)))
    (ha : PE X v (tOf X.K (evE cl a))) (hb : PE X w (tOf X.K (evE cl b))) (hs : notSlice y = true) (hs' : notSlice u = true) (h1 : notStar v = true) (h2 : notStar w = true) :
    PS X (.Assign [.Tuple [.Subscript x y p1, .Subscript z u p2] k p3] (.Tuple [v, w] k' p4) pos) (tOfS X.K (exS cl (.swapS o i p j a b))) := by
  have hG : PG X (.Tuple [.Subscript x y p1, .Subscript z u p2] k p3) (gTup X.K 2 (gCons (gSub (tOf X.K (evE cl o)) (tOf X.K (evE cl i)) rSetL) (gCons (gSub (tOf X.K (evE cl p)) (tOf X.K (evE cl j)) rSetL) gNil))) :=
    pg_tup hc (pgs_cons (pg_sub ho hi set_list (assign_sub hs)) (pgs_cons (pg_sub hp hj set_list (assign_sub hs')) pgs_nil))
  refine PS.imp (ps_asg (pe_tup (pa_cons ha (pa_cons hb pa_nil (star_cons h2)) (star_cons h1))) hG (sw_none (by intros; intro q; cases q)) sw_sub) fun D σ H h => ?_
  obtain ⟨as, env, m, S, G, P⟩ := h
  refine ⟨as, env, m, S, G, PostS.bind P fun wa m0 as0 H0 va T0 S0 R0 P0 => ?_⟩
  have G0 := G.mono S T0
  refine ⟨as0, env, m0, S0, G0, PostS.bind P0 fun wb m1 as1 H1 vb T1 S1 R1 P1 => ⟨by show 2 <= sizeLine; rw [sizeLine_eq]; decide, fun q hq => ?_⟩⟩
  have Ra := R0.mono S0 T1
  obtain ⟨Tt, St', Rt⟩ := S1.tup (ws := [wa, wb]) (vs := [va, vb]) hq (repL_cons.mpr ⟨va, [vb], rfl, Ra, .one R1⟩)
  have G1 := (G0.mono S0 T1).mono S1 Tt
  refine ⟨q, [va, vb], rfl, SqT.of upd_same, rfl, va, [vb], rfl, ?_⟩
  have P1' := PostS.step P1 Tt
  refine ⟨as1, env, m1, St', G1, PostS.bind P1' fun wo m2 as2 H2 vo T2 S2 R2 P2 => ?_⟩
  refine ⟨as2, env, m2, S2, G1.mono St' T2, PostS.bind P2 fun wi m3 as3 H3 vi T3 S3 R3 P3 => ?_⟩
  have Ra3 := ((Ra.mono S1 Tt).mono St' T2).mono S2 T3
  refine set_bind S3 (R2.mono S2 T3) R3 Ra3 P3 fun m4 H4 T4 S4 P4 => ?_
  have G4 := ((G1.mono St' T2).mono S2 T3).mono S3 T4
  refine ⟨vb, [], rfl, ?_⟩
  refine ⟨as3, env, m4, S4, G4, PostS.bind P4 fun wp m5 as5 H5 vp T5 S5 R5 P5 => ?_⟩
  refine ⟨as5, env, m5, S5, G4.mono S4 T5, PostS.bind P5 fun wj m6 as6 H6 vj T6 S6 R6 P6 => ?_⟩
  have Rb6 := (((((R1.mono S1 Tt).mono St' T2).mono S2 T3).mono S3 T4).mono S4 T5).mono S5 T6
  refine set_bind S6 (R5.mono S5 T6) R6 Rb6 P6 fun m7 H7 T7 S7 P7 => ?_
  exact ⟨rfl, PostS.next (m := m7) P7 S7 (((G4.mono S4 T5).mono S5 T6).mono S6 T7)⟩
def augB : Bo -> Bool
  | .add => true
  | .sub => true
  | _ => false
def augF : Bo -> Int -> Int -> Int
  | .sub => fun i j => i - j
  | _ => fun i j => i + j
theorem ip_of {op : Bo} (h : augB op = true) : PIp X (opK op) (ipI (augF op)) := by
  cases op with
  | add => exact ip_add
  | sub => exact ip_sub
  | _ => cases h
theorem bop_int {op : Bo} (h : augB op = true) {i j : Int} {m : Me} : bop op (.int i) (.int j) m = .ok (.int (augF op i j)) m := by
  cases op with
  | add => rfl
  | sub => rfl
  | _ => cases h
theorem aug_int {K : PySem.W.Frag} {as : List Addr} {H : Hp} {m : Me} {D : Ends} {env : En} {op : Bo} {wx wy : Wd} {vx vy : V} {f : Wd -> Me -> Rs} {Q : VK} (hop : augB op = true) (Rx : Rep K as H wx vx) (Ry : Rep K as H wy vy)
    (h : PostS K as H D (augI op wx wy m env f)) (k : ∀ z, PostS K as H D (f (.int z) m) -> Q (.int z) H) : ipI (augF op) vx vy H Q := by
  cases wx with
  | int i =>
    cases wy with
    | int j =>
      have h' : PostS K as H D ((bop op (.int i) (.int j) m).bindS env f) := h
      rw [bop_int hop] at h'
      exact ⟨i, j, rep_int.mp Rx, rep_int.mp Ry, k _ h'⟩
    | _ => exact h.elim
  | _ => exact h.elim
theorem ss_aug {op : Bo} {n : Nat} {nm : Str} {p1 : Pos} (hop : augB op = true) (hN : X.N.Nodup) (hi : X.N[n]? = some nm) (hx : Loc X.env.scope nm) (hf : X.fn nm = true \/ X.env.scope.names.lookup nm = some .local) (he : PE X x (tOf X.K (evE cl e))) :
    PS X (.AugAssign (.Name nm p1) (opK op) x pos) (tOfS X.K (exS cl (.aug n op e))) := PS.imp (ps_aug hN hi hx he (ip_of hop) hf) fun D σ H h => by
  obtain ⟨as, env, m, S, G, P⟩ := h
  have P' : PostS X.K as H D (match env[n]? with
    | some (some x) => (evE cl e env m).bindS env fun y m1 => augI op x y m1 env fun z m2 => .next (env.set n (some z)) m2
    | _ => .no) := P
  split at P'
  . rename_i wx hw
    obtain ⟨vx, hv, Rx⟩ := G.get n wx hw
    refine ⟨vx, hv, as, env, m, S, G, PostS.bind P' fun wy m1 as1 H1 vy T1 S1 R1 P1 => ?_⟩
    refine aug_int hop (Rx.mono S T1) R1 P1 fun z P2 => ?_
    exact PostS.next (m := m1) P2 S1 ((G.mono S T1).set (rep_int.mpr rfl) n)
  . exact P'.elim
theorem get_list : PGet X (rIxL X.K) := by
  intro pins s σ H x y v u Q I rx ry h
  obtain ⟨p, xs, i, z, rfl, rfl, hq, he, q⟩ := h
  cases rx
  obtain ⟨t, rfl⟩ := ry
  obtain ⟨its, r, pl, hz⟩ := I.list hq
  obtain ⟨j, h1, h2, h3, h4, h5⟩ := atI_get he
  obtain ⟨w, ew, rw'⟩ := r.get h2
  have hl := r.length
  have hn := line63
  have fin : EP X pins σ Q w s := ⟨z, H, I, rw', q⟩
  by_cases h0 : 0 <= i
  . have hj : i.toNat = j := by
      rw [seqIndex_of h0 h5] at h1
      exact Option.some.inj h1
    exact wpAny_getItem_list pl.isList h0 (by omega) (by rw [hj]; simpa using ew) fin
  . have hj : (i + (its.toArray.size : Int)).toNat = j := by
      rw [seqIndex_neg (by omega) h4] at h1
      rw [List.size_toArray, <- hl]
      exact Option.some.inj h1
    exact wpAny_getItem_list_neg pl.isList (by omega) (by rw [List.size_toArray] <;> omega) (by omega) (by rw [hj]; simpa using ew) fin
theorem idx_ref {K : PySem.W.Frag} {as : List Addr} {H : Hp} {m : Me} {Q : VK} {l : Nat} {y : Wd} {v u : V} (S : Sim K as m H) (R : Rep K as H (.ref l) v) (R' : Rep K as H y u) (h : Post K as H Q (idxR (.ref l) y m)) : rIxL K v u H Q := by
  unfold idxR at h
  split at h
  . rename_i i
    obtain rfl := rep_int.mp R'
    split at h
    . rename_i xs hs
      split at h
      . rename_i w hw
        obtain ⟨p, hp, rfl⟩ := rep_ref.mp R
        obtain ⟨p', vs, hp', e, rr⟩ := lst_of S (lstAt_some hs)
        rw [hp] at hp'; cases hp'
        obtain ⟨j, hj, hx⟩ := Option.bind_eq_some_iff.mp hw
        obtain ⟨z, hz, rz⟩ := rr.get hx
        refine ⟨p, vs, i, z, rfl, rfl, SqL.of e, ?_, h.ok S rz⟩
        unfold atI
        have hj' : ixN vs.length i = some j := by rw [<- rr.length]; exact hj
        rw [hj']
        exact hz
      . exact h.elim
    . exact h.elim
  . exact h.elim
theorem ss_augS {op : Bo} {p1 : Pos} (hop : augB op = true) (ho : PE X x (tOf X.K (evE cl o))) (hi : PE X y (tOf X.K (evE cl i))) (he : PE X z (tOf X.K (evE cl e))) (hs : notSlice y = true) :
    PS X (.AugAssign (.Subscript x y p1) (opK op) z pos) (tOfS X.K (exS cl (.augS o i op e))) := by
  have hst : ∀ ov iv new, augStore y ov iv new = (do holding [new, ov, iv] (setItem ov iv new); release [new, ov, iv] []; pure .next) := fun ov iv new => by cases y <;> first | rfl | cases hs
  refine PS.imp (ps_augS ho hi get_list he (ip_of hop) set_list hst) fun D σ H h => ?_
  obtain ⟨as, env, m, S, G, P⟩ := h
  refine ⟨as, env, m, S, G, PostS.bind P fun wo m1 as1 H1 vo T1 S1 R1 P1 => ?_⟩
  have G1 := G.mono S T1
  cases wo with
  | ref l =>
    refine ⟨as1, env, m1, S1, G1, PostS.bind P1 fun wi m2 as2 H2 vi T2 S2 R2 P2 => ?_⟩
    have G2 := G1.mono S1 T2
    have Ro := R1.mono S1 T2
    refine idx_ref S2 Ro R2 (PostS.bind P2 fun wu m3 as3 H3 vu T3 S3 R3 P3 => ?_)
    refine ⟨as3, env, m3, S3, G2.mono S2 T3, PostS.bind P3 fun wv m4 as4 H4 vv T4 S4 R4 P4 => ?_⟩
    refine aug_int hop (R3.mono S3 T4) R4 P4 fun z P5 => ?_
    refine set_bind (m := m4) S4 ((Ro.mono S2 T3).mono S3 T4) ((R2.mono S2 T3).mono S3 T4) (rep_int.mpr rfl) P5 fun m6 H6 T6 S6 P6 => ?_
    exact PostS.next (m := m6) P6 S6 (((G2.mono S2 T3).mono S3 T4).mono S4 T6)
  | _ => exact P1.elim
end
end Mini
namespace Mini
open PySem PySem.Spec PyProof.Rows L2
section
variable {cl : Nat -> List Wd -> Me -> Rz} {X : Cx} {K : PySem.W.Frag}
structure TgtOk (K : PySem.W.Frag) (g : TG) (st : Wd -> En -> Option En) : Prop where
  ok : ∀ {as : List Addr} {H : Hp} {m : Me} {env env' : En} {σ : St} {w : Wd} {v : V} {Q : L2.St -> Hp -> Prop}, Sim K as m H -> EnvRep K as H env σ -> Rep K as H w v -> st w env = some env' -> (∀ σ', EnvRep K as H env' σ' -> Q σ' H) -> g v σ H Q
theorem tgt_name (i : Nat) : TgtOk K (gName i) (fun w env => some (env.set i (some w))) :=
  ⟨fun S G R e k => by cases e; exact k _ (G.set R i)⟩
theorem tgt_pair (i j : Nat) : TgtOk K (gTup K 2 (gCons (gName i) (gCons (gName j) gNil))) (st2 i j) := by
  refine ⟨fun {as H m env env' σ w v Q} S G R e k => ?_⟩
  unfold st2 at e
  split at e
  . rename_i a b
    cases e
    obtain ⟨p, vs, rfl, hq, rr⟩ := rep_tup.mp R
    obtain ⟨va, vb, rfl, ra, rb⟩ := repL_2 rr
    exact ⟨p, [va, vb], rfl, hq, rfl, va, [vb], rfl, vb, [], rfl, rfl, k _ ((G.set ra i).set rb j)⟩
  . cases e
theorem for_turn {g : TG} {st : Wd -> En -> Option En} {b : En -> Me -> Rs} (hg : TgtOk K g st) {D : Ends} {as1 as' : List Addr} {H1 H' : Hp} {m' : Me} {env' : En} {σ' : St} {x : Wd} {v : V} {next : En -> Me -> Rs} {N : L2.St -> Hp -> Prop} (T : Step as1 H1 as' H') (S' : Sim K as' m' H') (G' : EnvRep K as' H' env' σ') (Rx : Rep K as' H' x v)
    (Pt : PostS K as1 H1 D (match bodyOf st b x env' m' with
        | .next e1 m1 => next e1 m1
        | .cont e1 m1 => next e1 m1
        | .brk e1 m1 => .next e1 m1
        | r => r))
    (hN : ∀ as2 m2 e2 σ2 H2, Step as' H' as2 H2 -> Sim K as2 m2 H2 -> EnvRep K as2 H2 e2 σ2 -> PostS K as1 H1 D (next e2 m2) -> N σ2 H2) :
    g v σ' H' fun σ2 H2 => tOfS K b { D with nx := N, ct := N, bk := D.nx } σ2 H2 := by
  unfold bodyOf at Pt
  cases hs : st x env' with
  | none => rw [hs] at Pt; exact Pt.elim
  | some e2 =>
    rw [hs] at Pt
    simp only [] at Pt
    refine hg.ok S' G' Rx hs fun σ2 G2 => ⟨as', e2, m', S', G2, ?_⟩
    cases hr : b e2 m' with
    | next e3 m3 => rw [hr] at Pt; exact fun as3 H3 σ3 U S3 G3 => hN as3 m3 e3 σ3 H3 U S3 G3 Pt
    | cont e3 m3 => rw [hr] at Pt; exact fun as3 H3 σ3 U S3 G3 => hN as3 m3 e3 σ3 H3 U S3 G3 Pt
    | brk e3 m3 => rw [hr] at Pt; exact fun as3 H3 σ3 U S3 G3 => Pt as3 H3 σ3 (T.trans U) S3 G3
    | ret w' m3 => rw [hr] at Pt; exact fun as3 H3 v3 U S3 R3 => Pt as3 H3 v3 (T.trans U) S3 R3
    | exc c w' e3 m3 => rw [hr] at Pt; exact Pt.elim
    | no => rw [hr] at Pt; exact Pt.elim
theorem for_bind {it : En -> Me -> Rz} {g : TG} {st : Wd -> En -> Option En} {b : En -> Me -> Rs} (hg : TgtOk K g st) {D : Ends} {σ : St} {H : Hp}
    (h : tOfS K (fun env m => (it env m).bindS env fun w m1 => forW (bodyOf st b) w env m1) D σ H) : tFor (iOf K it) g (tOfS K b) D σ H := by
  obtain ⟨as, env, m, S, G, P⟩ := h
  refine ⟨as, env, m, S, G, PostS.bindI P fun w m1 P1 => ?_⟩
  have seqs : ∀ (xs : List Wd), PostS K as H D (loopL (bodyOf st b) xs env m1) -> ∀ as1 H1 J, Step as H as1 H1 -> Sim K as1 m1 H1 -> TupIt K as1 H1 J xs ->
      ∃ W : Nat -> Nat -> L2.St -> Hp -> Prop, (∃ m, W 0 m σ H1) /\ ∀ i m σ H, W i m σ H ->
        (J.stop i H /\ D.nx σ H) \/ (J.go i H /\ ∃ N : L2.St -> Hp -> Prop, (∀ σ' H', N σ' H' -> ∃ m', m' < m /\ W (i + 1) m' σ' H') /\ ∀ x H', J.yld i H x H' -> g x σ H' fun σ2 H2 => tOfS K b { D with nx := N, ct := N, bk := D.nx } σ2 H2) := by
    intro xs Pc as1 H1 J T1 S1 hI
    obtain ⟨vs, ok, hJ, ok1, RL, stab⟩ := hI
    have hlen := RL.length
    have Pc1 := PostS.step Pc T1
    refine ⟨fun i n σ' H' => ∃ as' m' env', i <= xs.length /\ n = xs.length - i /\ Step as1 H1 as' H' /\ Sim K as' m' H' /\ EnvRep K as' H' env' σ' /\ ok H' /\ RepL K as' H' xs vs /\ PostS K as1 H1 D (loopL (bodyOf st b) (xs.drop i) env' m'),
      ⟨xs.length, as1, m1, env, Nat.zero_le _, rfl, .refl, S1, G.mono S T1, ok1, RL, Pc1⟩, ?_⟩
    rintro i n σ' H' ⟨as', m', env', hi, rfl, T', S', G', okH, RL', Pi⟩
    by_cases hlt : i < xs.length
    . refine .inr ⟨hJ.go i H' okH (by rw [<- hlen]; exact hlt), fun σ2 H2 => ∃ as2 m2 env2, i + 1 <= xs.length /\ Step as1 H1 as2 H2 /\ Sim K as2 m2 H2 /\ EnvRep K as2 H2 env2 σ2 /\ ok H2 /\ RepL K as2 H2 xs vs /\ PostS K as1 H1 D (loopL (bodyOf st b) (xs.drop (i + 1)) env2 m2), ?_, fun v H'' hy => ?_⟩
      . rintro σ2 H2 ⟨as2, m2, env2, q⟩
        exact ⟨xs.length - (i + 1), by omega, as2, m2, env2, q.1, rfl, q.2⟩
      . obtain ⟨rfl, hv⟩ := hJ.yld i H' v H'' okH (by rw [<- hlen]; exact hlt) hy
        obtain ⟨v', hv', Rx⟩ := RL'.get (i := i) (x := xs[i]) (by simp [hlt])
        rw [hv] at hv'; cases hv'
        rw [List.drop_eq_getElem_cons hlt] at Pi
        refine for_turn hg (next := fun e m => loopL (bodyOf st b) (xs.drop (i + 1)) e m) T' S' G' Rx Pi ?_
        intro as2 m2 e2 σ2 H2 U S2 G2 P2
        exact ⟨as2, m2, e2, hlt, T'.trans U, S2, G2, stab _ _ (S'.kp U) okH, RL'.mono S' U, P2⟩
    . have e : i = xs.length := by omega
      subst e
      rw [List.drop_length] at Pi
      exact .inl ⟨hJ.stop _ H' okH (by omega), Pi as' H' σ' T' S' G'⟩
  cases w with
  | tup xs => exact ⟨rfl, fun as1 H1 J T1 S1 hI => seqs xs P1 as1 H1 J T1 S1 hI⟩
  | rol xs => exact ⟨rfl, fun as1 H1 J T1 S1 hI => seqs xs P1 as1 H1 J T1 S1 hI⟩
  | ref l =>
    have P2 : PostS K as H D (loopR (bodyOf st b) l (lim + 1) 0 env m1) := P1
    refine ⟨?_, fun as1 H1 J T1 S1 hI => ?_⟩
    . show (lstAt m1 l).isSome = true
      cases e : lstAt m1 l with
      | some xs => rfl
      | none =>
        unfold loopR at P2
        rw [e] at P2
        exact P2.elim
    . obtain ⟨a, ha, rfl⟩ := hI
      have Pc1 := PostS.step P2 T1
      refine ⟨fun i n σ' H' => ∃ as' m' env', as'[l]? = some a /\ Step as1 H1 as' H' /\ Sim K as' m' H' /\ EnvRep K as' H' env' σ' /\ PostS K as1 H1 D (loopR (bodyOf st b) l n i env' m'), ⟨lim + 1, as1, m1, env, ha, .refl, S1, G.mono S T1, Pc1⟩, ?_⟩
      rintro i n σ' H' ⟨as', m', env', hl, T', S', G', Pi⟩
      cases n with
      | zero => exact Pi.elim
      | succ n =>
        unfold loopR at Pi
        cases e : lstAt m' l with
        | none => rw [e] at Pi; exact Pi.elim
        | some xs =>
          rw [e] at Pi
          simp only [] at Pi
          obtain ⟨a', vs, ha', eH, RL⟩ := lst_of S' (lstAt_some e)
          rw [hl] at ha'; cases ha'
          cases ex : xs[i]? with
          | none =>
            rw [ex] at Pi
            have hle : vs.length <= i := by rw [<- RL.length]; exact List.getElem?_eq_none_iff.mp ex
            exact .inl ⟨⟨vs, SqL.of eH, hle⟩, Pi as' H' σ' T' S' G'⟩
          | some x =>
            rw [ex] at Pi
            obtain ⟨v0, hv0, Rx⟩ := RL.get ex
            refine .inr ⟨⟨vs, v0, SqL.of eH, hv0⟩, fun σ2 H2 => ∃ as2 m2 env2, as2[l]? = some a /\ Step as1 H1 as2 H2 /\ Sim K as2 m2 H2 /\ EnvRep K as2 H2 env2 σ2 /\ PostS K as1 H1 D (loopR (bodyOf st b) l n (i + 1) env2 m2), ?_, fun v H'' hy => ?_⟩
            . rintro σ2 H2 q
              exact ⟨n, Nat.lt_succ_self _, q⟩
            . obtain ⟨rfl, hy⟩ := hy
              have := hy vs (SqL.of eH)
              rw [hv0] at this; cases this
              refine for_turn hg (next := fun e m => loopR (bodyOf st b) l n (i + 1) e m) T' S' G' Rx Pi ?_
              intro as2 m2 e2 σ2 H2 U S2 G2 P2
              exact ⟨as2, m2, e2, U.get hl, T'.trans U, S2, G2, P2⟩
  | non => exact P1.elim
  | bl k => exact P1.elim
  | int i => exact P1.elim
  | str s => exact P1.elim
theorem for_loopZ {g : TG} {i j : Nat} {b : En -> Me -> Rs} (hg : TgtOk K g (st2 i j)) {as1 : List Addr} {H1 : Hp} {env : En} {σ : St} {m1 : Me} {J : It} {gz : Nat -> Me -> Option (Option (Wd × Wd))} {D : Ends} (hJ : PairIt K as1 J gz) (S1 : Sim K as1 m1 H1) (G1 : EnvRep K as1 H1 env σ)
    (P : PostS K as1 H1 D (loopG (bodyOf (st2 i j) b) gz (lim + 1) 0 env m1)) :
    ∃ W : Nat -> Nat -> L2.St -> Hp -> Prop, (∃ m, W 0 m σ H1) /\ ∀ i m σ H, W i m σ H ->
      (J.stop i H /\ D.nx σ H) \/ (J.go i H /\ ∃ N : L2.St -> Hp -> Prop, (∀ σ' H', N σ' H' -> ∃ m', m' < m /\ W (i + 1) m' σ' H') /\ ∀ x H', J.yld i H x H' -> g x σ H' fun σ2 H2 => tOfS K b { D with nx := N, ct := N, bk := D.nx } σ2 H2) := by
  refine ⟨fun i0 n σ' H' => ∃ as' m' env', (∀ (l : Nat) (a : Addr), as1[l]? = some a -> as'[l]? = some a) /\ Step as1 H1 as' H' /\ Sim K as' m' H' /\ EnvRep K as' H' env' σ' /\ PostS K as1 H1 D (loopG (bodyOf (st2 i j) b) gz n i0 env' m'), ⟨lim + 1, as1, m1, env, fun _ _ e => e, .refl, S1, G1, P⟩, ?_⟩
  rintro i0 n σ' H' ⟨as', m', env', hl, T', S', G', Pi⟩
  cases n with
  | zero => exact Pi.elim
  | succ n =>
    unfold loopG at Pi
    obtain ⟨q1, q2⟩ := hJ as' m' H' hl S' i0
    cases e : gz i0 m' with
    | none => rw [e] at Pi; exact Pi.elim
    | some o =>
      rw [e] at Pi
      cases o with
      | none => exact .inl ⟨q1 e, Pi as' H' σ' T' S' G'⟩
      | some p =>
        obtain ⟨x, y⟩ := p
        simp only [] at Pi
        obtain ⟨go, yl⟩ := q2 x y e
        refine .inr ⟨go, fun σ2 H2 => ∃ as2 m2 env2, (∀ (l : Nat) (a : Addr), as1[l]? = some a -> as2[l]? = some a) /\ Step as1 H1 as2 H2 /\ Sim K as2 m2 H2 /\ EnvRep K as2 H2 env2 σ2 /\ PostS K as1 H1 D (loopG (bodyOf (st2 i j) b) gz n (i0 + 1) env2 m2), ?_, fun v H'' hy => ?_⟩
        . rintro σ2 H2 q
          exact ⟨n, Nat.lt_succ_self _, q⟩
        . obtain ⟨x', y', ⟨T, hT, rfl, rfl⟩, Rx, Ry⟩ := yl v H'' hy
          have U : Step as' H' as' (upd H' T (.tup [x', y'])) := Step.updD .refl hT
          have S2 : Sim K as' m' (upd H' T (.tup [x', y'])) := S'.keep U fun b _ o e => by rw [upd_ne (ne_of_none e hT)]; exact e
          have Rp : Rep K as' (upd H' T (.tup [x', y'])) (.tup [x, y]) (.ref T) := rep_tup.mpr ⟨T, [x', y'], rfl, SqT.of upd_same, (RepL.one (Rx.mono S' U)).append (.one (Ry.mono S' U))⟩
          refine for_turn hg (next := fun e m => loopG (bodyOf (st2 i j) b) gz n (i0 + 1) e m) (T'.trans U) S2 (G'.mono S' U) Rp Pi ?_
          intro as2 m2 e2 σ2 H2 U2 S3 G3 P2
          exact ⟨as2, m2, e2, fun l a q => U2.get (hl l a q), (T'.trans U).trans U2, S3, G3, P2⟩
theorem loopG_none {b : Wd -> En -> Me -> Rs} {g : Nat -> Me -> Option (Option (Wd × Wd))} {k i : Nat} {env : En} {m : Me} (h : g i m = none) : loopG b g (k + 1) i env m = .no := by
  unfold loopG
  rw [h]
theorem for_bindZ {i j : Nat} {a b : Ex} {body : Sm} {D : Ends} {σ : St} {H : Hp} (h : tOfS K (exS cl (.forZ i j a b body)) D σ H) :
    tFor (iZip K (tCons (tOf K (evE cl a)) (tCons (tOf K (evE cl b)) tNil))) (gTup K 2 (gCons (gName i) (gCons (gName j) gNil))) (tOfS K (exS cl body)) D σ H := by
  obtain ⟨as, env, m, S, G, P⟩ := h
  refine ⟨as, env, m, S, G, PostS.bind P fun w m1 as1 H1 v T1 S1 R1 P1 => ?_⟩
  refine ⟨as1, env, m1, S1, G.mono S T1, PostS.bind P1 fun w2 m2 as2 H2 v2 T2 S2 R2 P2 => ?_⟩
  have G2 := (G.mono S T1).mono S1 T2
  have look : ∃ la lb xs ys, w = .ref la /\ w2 = .ref lb /\ lstAt m2 la = some xs /\ lstAt m2 lb = some ys := by
    cases e : pairAt .zip w w2 0 m2 with
    | none => rw [loopG_none e] at P2; exact P2.elim
    | some o => exact pairAt_zip e
  obtain ⟨la, lb, xs, ys, rfl, rfl, e1, e2⟩ := look
  obtain ⟨a1, ha1, rfl⟩ := rep_ref.mp R1
  obtain ⟨b1, hb1, rfl⟩ := rep_ref.mp R2
  have ha2 := T2.get ha1
  obtain ⟨a', us, ha', eH, RL⟩ := lst_of S2 (lstAt_some e1)
  rw [ha2] at ha'; cases ha'
  obtain ⟨b', vs, hb', eH2, RL2⟩ := lst_of S2 (lstAt_some e2)
  rw [hb1] at hb'; cases hb'
  exact ⟨a1, b1, us, vs, rfl, SqL.of eH, SqL.of eH2, for_loopZ (tgt_pair i j) (pairIt_zip ha2 hb1) S2 G2 P2⟩
theorem for_bindE {i j : Nat} {a : Ex} {body : Sm} {D : Ends} {σ : St} {H : Hp} (h : tOfS K (exS cl (.forE i j a body)) D σ H) :
    tFor (iEnum K 0 (tCons (tOf K (evE cl a)) tNil)) (gTup K 2 (gCons (gName i) (gCons (gName j) gNil))) (tOfS K (exS cl body)) D σ H := by
  obtain ⟨as, env, m, S, G, P⟩ := h
  refine ⟨as, env, m, S, G, PostS.bind P fun w m1 as1 H1 v T1 S1 R1 P1 => ?_⟩
  have look : ∃ la xs, w = .ref la /\ lstAt m1 la = some xs := by
    cases e : pairAt .enum w (.int 0) 0 m1 with
    | none => rw [loopG_none e] at P1; exact P1.elim
    | some o => exact pairAt_enum e
  obtain ⟨la, xs, rfl, e1⟩ := look
  obtain ⟨a1, ha1, rfl⟩ := rep_ref.mp R1
  obtain ⟨a', us, ha', eH, RL⟩ := lst_of S1 (lstAt_some e1)
  rw [ha1] at ha'; cases ha'
  exact ⟨a1, us, rfl, SqL.of eH, for_loopZ (tgt_pair i j) (pairIt_enum (c := 0) ha1) S1 (G.mono S T1) P1⟩
theorem while_bind {c : Ex} {b : Sm} {D : Ends} {σ : St} {H : Hp} (h : tOfS K (exS cl (.while c b)) D σ H) : tWhile (tOfT K (evE cl c)) (tOfS K (exS cl b)) D σ H := by
  obtain ⟨as, env, m, S, G, P⟩ := h
  refine ⟨fun n σ' H' => ∃ as' m' env', Step as H as' H' /\ Sim K as' m' H' /\ EnvRep K as' H' env' σ' /\ PostS K as H D (loopW (evE cl c) (exS cl b) n env' m'), ⟨1000000, as, m, env, .refl, S, G, P⟩, ?_⟩
  rintro n σ' H' ⟨as', m', env', T', S', G', Pi⟩
  cases n with
  | zero => exact Pi.elim
  | succ n =>
    unfold loopW at Pi
    refine ⟨as', env', m', S', G', ?_⟩
    cases hr : evE cl c env' m' with
    | no => rw [hr] at Pi; exact Pi.elim
    | exc k w m1 => rw [hr] at Pi; exact Pi.elim
    | ok w m1 =>
      rw [hr] at Pi
      intro as1 H1 v T1 S1 R1
      cases w with
      | bl k =>
        obtain rfl := rep_bl.mp R1
        refine ⟨k, rfl, ?_⟩
        cases k with
        | false => exact iteF (Pi as1 H1 σ' (T'.trans T1) S1 (G'.mono S' T1))
        | true =>
          refine iteT ⟨fun σ2 H2 => ∃ as2 m2 env2, Step as H as2 H2 /\ Sim K as2 m2 H2 /\ EnvRep K as2 H2 env2 σ2 /\ PostS K as H D (loopW (evE cl c) (exS cl b) n env2 m2), fun σ2 H2 q => ⟨n, Nat.lt_succ_self _, q⟩, as1, env', m1, S1, G'.mono S' T1, ?_⟩
          simp only [] at Pi
          have T2 := T'.trans T1
          cases hb : exS cl b env' m1 with
          | next e3 m3 => rw [hb] at Pi; exact fun as3 H3 σ3 U S3 G3 => ⟨as3, m3, e3, T2.trans U, S3, G3, Pi⟩
          | cont e3 m3 => rw [hb] at Pi; exact fun as3 H3 σ3 U S3 G3 => ⟨as3, m3, e3, T2.trans U, S3, G3, Pi⟩
          | brk e3 m3 => rw [hb] at Pi; exact fun as3 H3 σ3 U S3 G3 => Pi as3 H3 σ3 (T2.trans U) S3 G3
          | ret w' m3 => rw [hb] at Pi; exact fun as3 H3 v3 U S3 R3 => Pi as3 H3 v3 (T2.trans U) S3 R3
          | exc k w' e3 m3 => rw [hb] at Pi; exact Pi.elim
          | no => rw [hb] at Pi; exact Pi.elim
      | _ => exact Pi.elim
end
end Mini
namespace Mini
open PySem PySem.Spec PyProof.Rows L2
inductive Ns where
  | s (st : Stmt) | b (sts : List Stmt)
def locB (sc : Scope) (x : Str) : Bool := decide (sc.names.lookup x = some .local) || decide (sc.names.lookup x = some .cell)
def unpC : Expr -> Bool
  | .Call _ _ _ _ => true
  | .Name _ _ => true
  | .ListComp _ _ _ _ => true
  | _ => false
def unpB : Expr -> Bool
  | .Call _ _ _ _ => true
  | .Name _ _ => true
  | _ => false
def SndS (cl : Nat -> List Wd -> Me -> Rz) (X : Cx) (s : Sm) : Ns -> Prop
  | .s st => PS X st (tOfS X.K (exS cl s))
  | .b sts => PSs X sts (tOfS X.K (exS cl s))
structure StOk (X : Cx) : Prop where
  nd : X.N.Nodup
  fn : ∀ x, X.fn x = true
  hp : PassesOwn (model X.prog X.w) X.A X.env X.xe
section
variable {cl : Nat -> List Wd -> Me -> Rz}
theorem loc_of {sc : Scope} {x : Str} (h : locB sc x = true) : Loc sc x := by
  unfold locB at h
  simp only [Bool.or_eq_true, decide_eq_true_eq] at h
  exact h
theorem ss_asgC {X : Cx} {i : Nat} {ce : Ex} {nm : Str} {xs : List Str} {x w tg : Expr} {g : TG} {un : V -> Hp -> List V -> Prop} {wi : TI} {fs : List Expr} {scope : Scope} {tc : TT} {te : TE} {p1 pos pos' : Pos} (hc : X.calm = true) (hX : StOk X) (hi : X.N[i]? = some nm) (hl : Loc X.env.scope nm) (B : BlockOk X scope xs) (hT : Tgt X scope xs tg g un) (hI : PI X tg w wi)
    (body : ∀ Xc, CompOf X scope xs Xc -> PTs Xc fs tc /\ PE Xc x te) (hset : ∀ v, foldedSetIterable w X.env v = pure v) (hbind : ∀ σ H Q, tOf X.K (evE cl ce) σ H Q -> tComp un wi tc te σ H Q)
    (he : PE X (.ListComp x [⟨tg, w, fs, 0⟩] scope pos') (tOf X.K (evE cl ce))) :
    PS X (.Assign [.Name nm p1] (.ListComp x [⟨tg, w, fs, 0⟩] scope pos') pos) (tOfS X.K (exS cl (.asg i ce))) := by
  have hsw : ∃ b : Bool, swapsWith (.ListComp x [⟨tg, w, fs, 0⟩] scope pos') (some (.Name nm p1)) pos.line X.env = pure b := ⟨_, rfl⟩
  obtain ⟨b, hb⟩ := hsw
  cases b with
  | false => exact PS.imp (ps_set hX.nd hi hl he hb (.inl (hX.fn nm))) fun D σ H q => asg_bind q
  | true =>
    refine PS.imp (ps_setComp B hc hT hI body hX.nd hi hl (.inl (hX.fn nm)) hb hset) fun D σ H q => ?_
    exact hbind _ _ _ (asg_bind q)
theorem unp_eq (i j : Nat) (e : Ex) (env : En) (m : Me) : exS cl (.fort i j (.tup (.pair e .unit)) .skip) env m = (evE cl e env m).bindS env fun w m1 => match st2 i j w env with
    | some env' => .next env' m1
    | none => .no := by
  have h : evE cl (.tup (.pair e .unit)) env m = (evE cl e env m).bind fun w m1 => .ok (.tup [w]) m1 := by
    show (((evE cl e env m).bind fun x m1 => .ok (.tup [x]) m1).bind fun x m1 => if (argsOf x).length <= lim then .ok (.tup (argsOf x)) m1 else .no) = _
    cases evE cl e env m with
    | ok w m1 =>
      simp only [Rz.bind]
      simp [argsOf, lim]
    | exc c w m1 => rfl
    | no => rfl
  show (evE cl (.tup (.pair e .unit)) env m).bindS env (fun w m1 => forW (bodyOf (st2 i j) (exS cl .skip)) w env m1) = _
  rw [h]
  cases evE cl e env m with
  | ok w m1 =>
    show loopL (bodyOf (st2 i j) (exS cl .skip)) [w] env m1 = match st2 i j w env with
      | some env' => .next env' m1
      | none => .no
    unfold loopL bodyOf
    cases st2 i j w env with
    | none => rfl
    | some e2 => rfl
  | exc c w m1 => rfl
  | no => rfl
theorem unp_bind {K : PySem.W.Frag} {i j : Nat} {e : Ex} {D : Ends} {σ : St} {H : Hp} (h : tOfS K (exS cl (.fort i j (.tup (.pair e .unit)) .skip)) D σ H) : tAsg (tOf K (evE cl e)) (gTup K 2 (gCons (gName i) (gCons (gName j) gNil))) D σ H := by
  obtain ⟨as, env, m, S, G, P⟩ := h
  rw [unp_eq] at P
  refine ⟨as, env, m, S, G, PostS.bind P fun w m1 as1 H1 v T1 S1 R1 P1 => ?_⟩
  cases hs : st2 i j w env with
  | none => rw [hs] at P1; exact P1.elim
  | some e2 => rw [hs] at P1; exact (tgt_pair i j).ok S1 (G.mono S T1) R1 hs fun σ2 G2 => PostS.next (m := m1) P1 S1 G2
theorem unp3_bind {K : PySem.W.Frag} {i j k : Nat} {e : Ex} {D : Ends} {σ : St} {H : Hp} (h : tOfS K (exS cl (.unp3 i j k e)) D σ H) : tAsg (tOf K (evE cl e)) (gAny K 3 (gCons (gName i) (gCons (gName j) (gCons (gName k) gNil)))) D σ H := by
  obtain ⟨as, env, m, S, G, P⟩ := h
  have P' : PostS K as H D ((evE cl e env m).bindS env fun w m1 => match st3 i j k w m1 env with
    | some e1 => .next e1 m1
    | none => .no) := P
  refine ⟨as, env, m, S, G, PostS.bind P' fun w m1 as1 H1 v T1 S1 R1 P1 => ?_⟩
  have fin : ∀ (ws : List Wd) (vs : List V), seqOf m1 w = some ws -> RepL K as1 H1 ws vs -> vs.length = 3 /\ gCons (gName i) (gCons (gName j) (gCons (gName k) gNil)) vs σ H1 D.nx := by
    intro ws vs hs rl
    unfold st3 at P1
    rw [hs] at P1
    match ws, P1, rl with
    | [a, b, c], P1, rl =>
      obtain ⟨va, r1, rfl, ra, rl⟩ := repL_cons.mp rl
      obtain ⟨vb, r2, rfl, rb, rl⟩ := repL_cons.mp rl
      obtain ⟨vc, r3, rfl, rc, rl⟩ := repL_cons.mp rl
      rw [repL_nil.mp rl]
      exact ⟨rfl, va, [vb, vc], rfl, vb, [vc], rfl, vc, [], rfl, rfl, PostS.next (m := m1) P1 S1 ((((G.mono S T1).set ra i).set rb j).set rc k)⟩
    | [], P1, _ => exact P1.elim
    | [_], P1, _ => exact P1.elim
    | [_, _], P1, _ => exact P1.elim
    | _ :: _ :: _ :: _ :: _, P1, _ => exact P1.elim
  have no : seqOf m1 w ≠ none := fun z => by
    unfold st3 at P1
    rw [z] at P1
    exact P1
  cases w with
  | tup xs =>
    obtain ⟨a, vs, rfl, hq, rl⟩ := rep_tup.mp R1
    obtain ⟨q1, q2⟩ := fin xs vs rfl rl
    exact .inl ⟨a, vs, rfl, hq, q1, q2⟩
  | rol xs =>
    obtain ⟨a, vs, rfl, hq, rl⟩ := rep_rol.mp R1
    obtain ⟨q1, q2⟩ := fin xs vs rfl rl
    exact .inr ⟨a, vs, rfl, hq.sq, q1, q2⟩
  | ref l =>
    obtain ⟨a, ha, rfl⟩ := rep_ref.mp R1
    cases e1 : lstAt m1 l with
    | none => exact absurd e1 no
    | some xs =>
      obtain ⟨a', us, ha', eH, RL⟩ := lst_of S1 (lstAt_some e1)
      rw [ha] at ha'; cases ha'
      obtain ⟨q1, q2⟩ := fin xs us e1 RL
      exact .inr ⟨a, us, rfl, SqL.of eH, q1, q2⟩
  | non => exact absurd rfl no
  | bl _ => exact absurd rfl no
  | int _ => exact absurd rfl no
  | str _ => exact absurd rfl no
def IsS (C : Ctx) (sc : Scope) (N : List Str) (s : Sm) (n : Ns) : Prop := ∀ (cl : Nat → List Wd → Me → Rz) (d : Nat) (X : Cx), CtxOk C X cl d → StOk X → X.env.scope = sc → X.N = N → SndS cl X s n
theorem soundS {C : Ctx} {d : Nat} {X : Cx} (hC : CtxOk C X cl d) (hX : StOk X) {s : Sm} {n : Ns} (h : IsS C X.env.scope X.N s n) : SndS cl X s n := h cl d X hC hX rfl rfl
theorem IsS.«skip0» {C : Ctx} {sc : Scope} {N : List Str} : IsS C sc N .skip (.b []) := by
  intro cl d X hC hX es eN; subst es; subst eN
  exact ss_skip
theorem IsS.«pass» {C : Ctx} {sc : Scope} {N : List Str} {p : Pos} : IsS C sc N .skip (.s (.Pass p)) := by
  intro cl d X hC hX es eN; subst es; subst eN
  exact ss_pass
theorem IsS.«one» {C : Ctx} {sc : Scope} {N : List Str} {s : Sm} {st : Stmt} (h : IsS C sc N s (.s st)) : IsS C sc N s (.b [st]) := by
  intro cl d X hC hX es eN; subst es; subst eN
  have ih := h cl d X hC hX rfl rfl
  exact pss_one ih
theorem IsS.«seq» {C : Ctx} {sc : Scope} {N : List Str} {a b : Sm} {st st' : Stmt} {r : List Stmt} (ha : IsS C sc N a (.s st)) (hb : IsS C sc N b (.b (st' :: r))) : IsS C sc N (.seq a b) (.b (st :: st' :: r)) := by
  intro cl d X hC hX es eN; subst es; subst eN
  have iha := ha cl d X hC hX rfl rfl
  have ihb := hb cl d X hC hX rfl rfl
  exact ss_seq iha ihb
theorem IsS.«asg» {C : Ctx} {sc : Scope} {N : List Str} {i : Nat} {e : Ex} {x : Str} {v : Expr} {p p' : Pos} (hc : isComp v = false) (h1 : N[i]? = some x) (h2 : locB sc x = true) (hr : isRng e = false) (he : IsE C sc N e (.e v)) : IsS C sc N (.asg i e) (.s (.Assign [.Name x p] v p')) := by
  intro cl d X hC hX es eN; subst es; subst eN
  exact PS.imp (ps_set hX.nd h1 (loc_of h2) ((sound he X hC rfl rfl).pe hr) (sw_val hc) (.inl (hX.fn _))) fun D σ H q => asg_bind q
theorem IsS.«ite» {C : Ctx} {sc : Scope} {N : List Str} {c : Ex} {a b : Sm} {x : Expr} {xs ys : List Stmt} {p : Pos} (rc : isRng c = false) (ic : isIf c = false) (hc : IsE C sc N c (.e x)) (ha : IsS C sc N a (.b xs)) (hb : IsS C sc N b (.b ys)) : IsS C sc N (.ite c a b) (.s (.If x xs ys p)) := by
  intro cl d X hC hX es eN; subst es; subst eN
  have iha := ha cl d X hC hX rfl rfl
  have ihb := hb cl d X hC hX rfl rfl
  exact ss_if ((sound hc X hC rfl rfl).pt rc ic) iha ihb
theorem IsS.«forv» {C : Ctx} {sc : Scope} {N : List Str} {i : Nat} {it : Ex} {body : Sm} {x : Str} {y : Expr} {sts : List Stmt} {p p' : Pos} (h1 : N[i]? = some x) (h2 : locB sc x = true) (hs : notSet y = true) (hi : IsE C sc N it (.e y)) (hb : IsS C sc N body (.b sts)) : IsS C sc N (.forv i it body) (.s (.For (.Name x p) y sts [] p')) := by
  intro cl d X hC hX es eN; subst es; subst eN
  have ihb := hb cl d X hC hX rfl rfl
  have hset : ∀ v, foldedSetIterable y X.env v = pure v := set_plain hs
  refine PS.imp (ps_for hX.hp hC.calm ((sound hi X hC rfl rfl).2 _) (pg_name hX.nd h1 (loc_of h2) (.inl (hX.fn _))) ihb hset) fun D σ H q => ?_
  exact for_bind (tgt_name i) q
theorem IsS.«ret» {C : Ctx} {sc : Scope} {N : List Str} {e : Ex} {x : Expr} {p : Pos} (hr : isRng e = false) (he : IsE C sc N e (.e x)) : IsS C sc N (.ret e) (.s (.Return (some x) p)) := by
  intro cl d X hC hX es eN; subst es; subst eN
  exact ss_ret ((sound he X hC rfl rfl).pe hr)
theorem IsS.«expr» {C : Ctx} {sc : Scope} {N : List Str} {e : Ex} {x : Expr} {p : Pos} (hc : isComp x = false) (hr : isRng e = false) (he : IsE C sc N e (.e x)) : IsS C sc N (.expr e) (.s (.Expr x p)) := by
  intro cl d X hC hX es eN; subst es; subst eN
  exact ss_expr ((sound he X hC rfl rfl).pe hr) hc
theorem IsS.«never» {C : Ctx} {sc : Scope} {N : List Str} {st : Stmt} : IsS C sc N .never (.s st) := by
  intro cl d X hC hX es eN; subst es; subst eN
  exact ss_never
end
end Mini
namespace Mini
open PySem PySem.Spec PyProof.Rows L2
structure Dfn where
  nm : Str
  st : Stmt
  N : List Str
  ps : List Str
  fn : Fn
def scopeB (N ps : List Str) (sc : Scope) : Bool :=
  decide (sc.kind = .function) && (decide (sc.isCoroutine = false) && (decide (sc.isGenerator = false) && (decide N.Nodup && (decide (N.take ps.length = ps) &&
    (ps.all (fun x => decide (sc.names.lookup x = some .local) || decide (sc.names.lookup x = some .cell)) && sc.names.all (fun y => !(decide (y.2 = .free))))))))
theorem scopeB_ok {N ps : List Str} {sc : Scope} (h : scopeB N ps sc = true) : FnScope N ps sc := by
  unfold scopeB at h
  simp only [Bool.and_eq_true, Bool.or_eq_true, decide_eq_true_eq, List.all_eq_true, Bool.not_eq_true', decide_eq_false_iff_not] at h
  obtain ⟨h1, h2, h3, h4, h5, h6, h7⟩ := h
  exact ⟨h1, h2, h3, h4, h5, h6, h7⟩
structure OkD (C : Ctx) (d : Dfn) : Prop where
  sc : scopeB d.N d.ps (defScope d.st) = true
  ar : d.ps.length = d.fn.ar
  sz : d.N.length = d.fn.sz
  body : IsS C (defScope d.st) d.N d.fn.body (.b (defBody d.st))
section
variable {P : Program} {w : World} {K : PySem.W.Frag} {mg : Str -> Option Value} {base : Heap} {C : Ctx} {cl : Nat -> List Wd -> Me -> Rz}
theorem begin_rep {as : List Addr} {H : Hp} {fn : Fn} {N : List Str} {ws : List Wd} {vs : List V} (R : RepL K as H ws vs) (hl : ws.length = fn.ar) (hN : N.length = fn.sz) : EnvRep K as H (begin0 fn ws) (L2.start N vs) := by
  have hv := R.length
  refine ⟨by simp [begin0, L2.start, hN, hv], fun i w e => ?_⟩
  unfold begin0 at e
  by_cases hi : i < ws.length
  . rw [List.getElem?_append_left (by simpa using hi), List.getElem?_map] at e
    cases hx : ws[i]? with
    | none => rw [hx] at e; cases e
    | some x =>
      rw [hx] at e
      cases e
      obtain ⟨v, h1, h2⟩ := R.get hx
      refine ⟨v, ?_, h2⟩
      unfold L2.start
      rw [List.getElem?_append_left (by simp; omega), List.getElem?_map, h1]
      rfl
  . rw [List.getElem?_append_right (by simpa using hi), List.getElem?_replicate] at e
    split at e <;> cases e
theorem fn_sound {d : Dfn} {f : Addr} {fd : FuncData} {k : Nat} (F : Fun K d.nm d.nm d.st f fd) (hd : OkD C d)
    (hfn : ∀ (i : Nat) (nm : Str), C.fns[i]? = some nm -> ∃ f fd ps, mg nm = some (.ref f) /\ PySem.W.keepIn K (.ref f) = true /\ Binds K fd ps [] /\ FnOk P w K mg base CX0 k f fd ps (spOf K (cl i)))
    (hcon : ∀ (nm : Str) (i : Int), C.cons.lookup nm = some i -> ∃ t, mg nm = some (.int i t)) (hblt : ∀ nm ∈ bltNames, mg nm = none) :
    FnOk P w K mg base CX0 (k + 1) f fd d.ps (spOf K (runF cl d.fn)) := by
  obtain ⟨h1, h2, h3, h4⟩ := hd
  have Sc := scopeB_ok h1
  have arity : ∀ {as : List Addr} {H : Hp} {Q : VK} {ws : List Wd} {m : Me}, Post K as H Q (runF cl d.fn ws m) -> ws.length = d.fn.ar := fun {as H Q ws m} h => by
    unfold runF at h
    split at h
    . assumption
    . exact h.elim
  refine F.ok Sc (fun vs H Q E h => ?_) (fun cdv A outer s H vs Q E hr h => ?_)
  . obtain ⟨as, m, ws, S, R, q⟩ := h
    rw [<- R.length, arity q, h2]
  . obtain ⟨as, m, ws, S, R, q⟩ := h
    have ha := arity q
    have hC : CtxOk C (cxOf CX0 P w K mg base d.N d.nm (defScope d.st) f cdv A outer s H E).nox cl k := ⟨hr, rfl, hfn, hcon, hblt⟩
    have hX : StOk (cxOf CX0 P w K mg base d.N d.nm (defScope d.st) f cdv A outer s H E).nox := ⟨Sc.nd, fun _ => rfl, PassesOwn.never⟩
    refine ⟨_, soundS hC hX h4, as, begin0 d.fn ws, m, S, begin_rep R ha h3, ?_⟩
    unfold runF at q
    rw [if_pos ha] at q
    cases hr : exS cl d.fn.body (begin0 d.fn ws) m with
    | next e m1 => rw [hr] at q; exact fun as' H' σ' T S' G => q as' H' .non T S' (rep_non.mpr rfl)
    | ret w m1 => rw [hr] at q; exact fun as' H' v T S' R' => q as' H' v T S' R'
    | brk e m1 => rw [hr] at q; exact q.elim
    | cont e m1 => rw [hr] at q; exact q.elim
    | exc c w e m1 => rw [hr] at q; exact q.elim
    | no => rw [hr] at q; exact q.elim
def DefOk (K : PySem.W.Frag) (mg : Str -> Option Value) (d : Dfn) : Prop := ∃ f fd, Fun K d.nm d.nm d.st f fd /\ mg d.nm = some (.ref f)
def Bnd (d : Dfn) : Prop := ∀ (kV doc pm : Value) (an : Option Addr) (cdv ct : Value) (us : List Value), us.length = d.ps.length -> bindArgs (PySem.W.fnOf d.nm d.nm (defArgs d.st) (defBody d.st) (defScope d.st) .none kV doc pm an cdv ct) ⟨us, []⟩ = pure (d.ps.zip us)
end
theorem law_pure {K : PySem.W.Frag} {D : List Dfn} {k i : Nat} {H : Hp} {a : Addr} {ns : List Int} {E : XK} (hO : Only H) (hS : SqL K H a (ns.map V.int)) (h : ∃ m, callN (D.map (·.fn)) k i [.rol (ns.map Wd.int)] [] = .ok (.bl true) m) :
    spOf K (callN (D.map (·.fn)) k i) [.ref a] H (fun v _ => v = .bl true) E := by
  obtain ⟨m, h⟩ := h
  refine ⟨[], [], [.rol (ns.map Wd.int)], ⟨rfl, List.nodup_nil, fun l a o e => by simp at e⟩, repL_cons.mpr ⟨.ref a, [], rfl, rep_rol.mpr ⟨a, ns.map V.int, rfl, ?_, ?_⟩, repL_nil.mpr rfl⟩, ?_⟩
  . rcases hS with (hS | ⟨o, hS⟩) | hS
    . rcases hO a with z | ⟨o, xs, z⟩
      . rw [z] at hS; cases hS
      . rw [z] at hS; cases hS
    . exact .inl ⟨o, hS⟩
    . exact .inr hS
  . have all : ∀ l : List Int, RepL K [] H (l.map Wd.int) (l.map V.int) := by
      intro l
      induction l with
      | nil => exact repL_nil.mpr rfl
      | cons n l ih => exact repL_cons.mpr ⟨_, _, rfl, rep_int.mpr rfl, ih⟩
    exact all ns
  . rw [h]
    exact fun as' H' v T S R => rep_bl.mp R
theorem IsE.v {C : Ctx} {sc : Scope} {N : List Str} {i : Nat} {x : Str} {p : Pos} (h1 : N[i]? = some x := by rfl) (h2 : visB sc x = true := by kernel_rfl) (h3 : okName x = true := by kernel_rfl) : IsE C sc N (.var i) (.e (.Name x p)) := .var h1 h2 h3
theorem us1 {P : List Value -> Prop} (h : ∀ a, P [a]) : ∀ us : List Value, us.length = 1 -> P us
  | [a], _ => h a
theorem usS {n : Nat} {P : List Value -> Prop} (h : ∀ a (us : List Value), us.length = n -> P (a :: us)) : ∀ us : List Value, us.length = n + 1 -> P us
  | a :: us, e => h a us (Nat.succ.inj e)
theorem us2 {P : List Value -> Prop} (h : ∀ a b, P [a, b]) : ∀ us : List Value, us.length = 2 -> P us := usS fun a => us1 (P := fun us => P (a :: us)) (h a)
end Mini
namespace Mini
open PySem PySem.Spec PyProof.Rows L2
structure Xc where
  g : Str
  rs : List Str
  os : List Str
def Xc.xs (Q : Xc) : List Str := Q.rs ++ Q.os
theorem Xc.at {Q : Xc} {c : Nat} {x : Str} (h : Q.rs[c]? = some x) : Q.xs[c]? = some x := by
  unfold Xc.xs
  rw [List.getElem?_append_left (List.getElem?_eq_some_iff.mp h).1]
  exact h
def vmB : List Value := [.type "ValueError", .type "Exception", .type "BaseException", .type "object"]
structure XOk (K : PySem.W.Frag) (mg : Str -> Option Value) (Q : Xc) (G : Addr) : Prop where
  g : mg Q.g = some (.ref G)
  ge : PySem.W.excIn K G vmB "ValueError.__new__" = true
  gb : PySem.W.mroIn K G (.type "BaseException") = some true
  v : mg "ValueError" = none
  y : ∀ (c : Nat) (x : Str), Q.xs[c]? = some x -> ∃ A, mg x = some (.ref A)
  x : ∀ (c : Nat) (x : Str), Q.rs[c]? = some x -> ∃ A, mg x = some (.ref A) /\ PySem.W.excIn K A vmB "ValueError.__new__" = true /\ ExcK K A /\ PySem.W.mroIn K A (.ref G) = some true /\ PySem.W.kitOne K (.ref A) (.type "ValueError") = some true /\
    ∀ (c' : Nat) (x' : Str) (A' : Addr), Q.xs[c']? = some x' -> mg x' = some (.ref A') -> PySem.W.kitOne K (.ref A) (.ref A') = some (decide (c = c'))
def nsB (sc : Scope) (Q : Xc) : List Expr -> List Nat -> Bool
  | [], [] => true
  | .Name x _ :: es, c :: cs => glB sc x && (okName x && (decide (Q.xs[c]? = some x) && nsB sc Q es cs))
  | _, _ => false
def plainB : Sm -> Bool
  | .expr _ => true
  | .asg _ _ => true
  | _ => false
inductive IsX (C : Ctx) (Q : Xc) (xn : List (Nat × Str)) (sc : Scope) (N : List Str) : Sm -> List Stmt -> Prop
  | ite {c : Ex} {y : Expr} {x msg : Str} {j k : Nat} {np cp p p1 p2 : Pos} {rest : List Stmt} (rc : isRng c = false) (ic : isIf c = false) (hc : IsE C sc N c (.e y)) (hx : Q.rs[j]? = some x) (hg : glB sc x = true) (ok : okName x = true) :
      IsX C Q xn sc N (.ite c (.ret (.lit (.int j))) .never) (.If y [.Raise (some (.Call (.Name x np) [.Constant (.str msg) k p1] [] cp)) none p2] [] p :: rest)
  | iteF {c : Ex} {y : Expr} {x msg v : Str} {i j k : Nat} {b : Int} {np cp p p1 p2 p3 p4 p5 : Pos} {rest : List Stmt} (rc : isRng c = false) (ic : isIf c = false) (hc : IsE C sc N c (.e y)) (hx : Q.rs[j]? = some x) (hg : glB sc x = true) (ok : okName x = true) (hi : N[i]? = some v) (hv : visB sc v = true) (ov : okName v = true)
      (hb : decide (b.natAbs.log2 < 1920) = true) (hz1 : decide ((Str.empty ++ msg).length <= sizeLine) = true) (hz2 : decide ((Str.empty ++ msg ++ (toString b : Str)).length <= sizeLine) = true) :
      IsX C Q xn sc N (.ite c (.ite (.cmp .eq (.bin .sub (.var i) (.lit (.int b))) (.lit (.int 0))) (.ret (.lit (.int j))) .never) .never) (.If y [.Raise (some (.Call (.Name x np) [.JoinedStr [.Constant (.str msg) k p1, .FormattedValue (.Name v p3) (-1) none p4] p5] [] cp)) none p2] [] p :: rest)
  | seqS {a b : Sm} {st st' : Stmt} {r : List Stmt} (hn : plainB a = true) (ha : IsS C sc N a (.s st)) (hb : IsX C Q xn sc N b (st' :: r)) : IsX C Q xn sc N (.seq a b) (st :: st' :: r)
  | call {k : Nat} {a : Ex} {nm : Str} {y : Expr} {ys : List Expr} {p p' p2 : Pos} {rest : List Stmt} (hk : xn.lookup k = some nm) (hg : glB sc nm = true) (ok : okName nm = true) (hs : (y :: ys).all notStar = true) (ha : IsE C sc N a (.a (y :: ys))) :
      IsX C Q xn sc N (.ret (.call k a)) (.Expr (.Call (.Name nm p) (y :: ys) [] p') p2 :: rest)
theorem CtxOk.wish {C : Ctx} {X : Cx} {cl : Nat -> List Wd -> Me -> Rz} {d : Nat} (h : CtxOk C X cl d) (E : Value -> Shared -> Prop) : CtxOk C (X.wish E) cl d := ⟨h.room, h.calm, h.fn, h.con, h.blt⟩
theorem okDbg {x : Str} (h : okName x = true) : (x == ("__debug__" : Str)) = false /\ (x == ("__classdict__" : Str)) = false := by
  unfold okName at h
  simp only [Bool.and_eq_true, Bool.not_eq_true'] at h
  exact ⟨h.1.1, h.1.2⟩
section
variable {C : Ctx} {Q : Xc} {xn : List (Nat × Str)} {cl : Nat -> List Wd -> Me -> Rz} {d : Nat} {X : Cx} {G : Addr}
inductive IsT (C : Ctx) (Q : Xc) (xn : List (Nat × Str)) (sc : Scope) (N : List Str) : Sm -> List Stmt -> Prop
  | mk {k y i : Nat} {a : Ex} {nm n ny : Str} {e0 : Expr} {es ns : List Expr} {cs : List Nat} {rest : List Stmt} {p q p' np hp pos p1 p2 p3 p4 p5 p6 p7 p8 p9 pa pb pc pd pe pf pg ph : Pos} {k1 k2 : Nat}
      (hk : xn.lookup k = some nm) (hg : glB sc nm = true) (ok : okName nm = true) (hs : (e0 :: es).all notStar = true) (ha : IsE C sc N a (.a (e0 :: es))) (gg : glB sc Q.g = true) (og : okName Q.g = true) (hi : N[i]? = some n) (hn : decide (sc.names.lookup n = some .local) = true) (on : okName n = true)
      (hns : nsB sc Q ns cs = true) (hcs : cs.contains y = false) (hz : cs.length <= 1000) (hy : Q.rs[y]? = some ny) (gy : glB sc ny = true) (oy : okName ny = true) (gI : glB sc "isinstance" = true) (gV : glB sc "ValueError" = true) :
      IsT C Q xn sc N (.ret (.cmp .eq (.call k a) (.lit (.int y)))) (.Try [.Expr (.Call (.Name nm p) (e0 :: es) [] q) p'] [.ExceptHandler (some (.Name Q.g np)) (some n) (suiteA n ny ns p1 p2 p3 p4 p5 p6 p7 p8 p9 pa pb pc pd pe pf pg ph k1 k2) hp] [] [] pos :: rest)
end
end Mini
namespace Mini
open PySem PySem.Spec PyProof.Rows L2
structure OkT (C : Ctx) (Q : Xc) (xn : List (Nat × Str)) (d : Dfn) : Prop where
  sc : scopeB d.N d.ps (defScope d.st) = true
  ar : d.ps.length = d.fn.ar
  sz : d.N.length = d.fn.sz
  body : IsT C Q xn (defScope d.st) d.N d.fn.body (defBody d.st)
structure OkX (C : Ctx) (Q : Xc) (xn : List (Nat × Str)) (d : Dfn) : Prop where
  sc : scopeB d.N d.ps (defScope d.st) = true
  ar : d.ps.length = d.fn.ar
  sz : d.N.length = d.fn.sz
  body : IsX C Q xn (defScope d.st) d.N d.fn.body (defBody d.st)
section
variable {P : Program} {w : World} {K : PySem.W.Frag} {mg : Str -> Option Value} {base : Heap} {C : Ctx} {cl : Nat -> List Wd -> Me -> Rz} {Q : Xc} {xn : List (Nat × Str)} {G : Addr}
theorem arity {as : List Addr} {H : Hp} {R : VK} {fn : Fn} {ws : List Wd} {m : Me} (h : Post K as H R (runF cl fn ws m)) : ws.length = fn.ar := by
  unfold runF at h
  split at h
  . assumption
  . exact h.elim
end
end Mini
namespace Mini
open PySem PySem.Spec PyProof.Rows L2
def lvlR (i : Nat) : Sm := .ret (.and (.cmp .eq (.idx (.var i) (.lit (.int 0))) (.idx (.var i) (.lit (.int 1)))) (.and (.cmp .eq (.idx (.var i) (.lit (.int 0))) (.idx (.var i) (.lit (.int 2)))) (.cmp .eq (.idx (.var i) (.lit (.int 0))) (.idx (.var i) (.lit (.int 3))))))
def lvlM (i : Nat) : Sm := .seq (.expr (.blt .sum (.pair (.var i) .unit))) (.ite (.cmp .eq (.blt .len (.pair (.var i) .unit)) (.lit (.int 4))) (lvlR i) .never)
section
variable {cl : Nat -> List Wd -> Me -> Rz} {env : En} {m : Me} {i : Nat}
end
inductive IsM (C : Ctx) (sc : Scope) (N : List Str) : Sm -> List Stmt -> Prop
  | mk {s : Sm} {st : Stmt} {i : Nat} {x : Str} {p1 p2 p3 p4 p5 p6 p7 p8 : Pos} (hs : IsS C sc N s (.s st)) (hi : N[i]? = some x) (hv : visB sc x = true) (ho : okName x = true) (g1 : glB sc "min" = true) (g2 : glB sc "max" = true) :
      IsM C sc N (.seq s (lvlM i)) [st, .Return (some (.Compare (.Call (.Name "min" p1) [.Name x p2] [] p3) [.Eq] [.Call (.Name "max" p4) [.Name x p5] [] p6] p7)) p8]
structure OkM (C : Ctx) (d : Dfn) : Prop where
  sc : scopeB d.N d.ps (defScope d.st) = true
  ar : d.ps.length = d.fn.ar
  sz : d.N.length = d.fn.sz
  body : IsM C (defScope d.st) d.N d.fn.body (defBody d.st)
section
variable {P : Program} {w : World} {K : PySem.W.Frag} {mg : Str -> Option Value} {base : Heap} {C : Ctx} {cl : Nat -> List Wd -> Me -> Rz}
end
end Mini
namespace Mini
open PySem PySem.Spec PyProof.Rows L2
theorem side_own {p q : Int × Int} {k : List (List Int)} (hp : k ∈ sidesK p) (hq : k ∈ sidesK q) (h : (p.1 + p.2) % 2 = (q.1 + q.2) % 2) : p = q := by
  obtain ⟨a, b⟩ := p
  obtain ⟨c, d⟩ := q
  simp only [sidesK, List.mem_cons, List.not_mem_nil, or_false] at hp hq
  rcases hp with rfl | rfl | rfl | rfl <;> rcases hq with e | e | e | e <;> simp only [List.cons.injEq, and_true] at e <;> simp only [Prod.mk.injEq] <;> (dsimp only at h) <;> omega
theorem sides_nd (p : Int × Int) : (sidesK p).Nodup := by
  obtain ⟨a, b⟩ := p
  simp only [sidesK, List.nodup_cons, List.mem_cons, List.cons.injEq, and_true, List.not_mem_nil, or_false, not_false_eq_true, List.nodup_nil]
  omega
theorem side_new {n : Int} {ps : List (Int × Int)} {i j : Nat} {p : Int × Int} {k : List (List Int)} (h : ptsOk n ps = true) (hp : ps[i]? = some p) (hk : (sidesK p)[j]? = some k) : k ∉ (ps.take i).flatMap sidesK ++ (sidesK p).take j := by
  unfold ptsOk at h
  simp only [Bool.and_eq_true, List.all_eq_true, decide_eq_true_eq] at h
  obtain ⟨h1, h2⟩ := h
  have hi := (List.getElem?_eq_some_iff.mp hp)
  intro hm
  rcases List.mem_append.mp hm with z | z
  . obtain ⟨q, hq, hkq⟩ := List.mem_flatMap.mp z
    have e := side_own hkq (List.mem_of_getElem? hk) ((h1 q (List.mem_of_mem_take hq)).2 p (List.mem_of_getElem? hp))
    subst e
    obtain ⟨m, hm1, hm2⟩ := List.getElem_of_mem hq
    have hlt : m < i := by
      have := hm1
      rw [List.length_take] at this
      omega
    rw [List.getElem_take] at hm2
    obtain ⟨g1, g2⟩ := hi
    have := (List.getElem_inj h2).mp (hm2.trans g2.symm)
    omega
  . obtain ⟨m, hm1, hm2⟩ := List.getElem_of_mem z
    rw [List.getElem_take] at hm2
    rw [List.length_take] at hm1
    obtain ⟨g1, g2⟩ := List.getElem?_eq_some_iff.mp hk
    have := (List.getElem_inj (sides_nd p)).mp (hm2.trans g2.symm)
    omega
theorem no_key {xs : List NK} {k : List (List Int)} (h : k ∉ xs.map (·.1)) : atKey xs k = none := by
  unfold atKey
  have : (xs.find? fun x => decide (x.1 = k)) = none := by
    rw [List.find?_eq_none]
    intro x hx e
    exact h (List.mem_map.mpr ⟨x, hx, of_decide_eq_true e⟩)
  rw [this]
  rfl
theorem best4 {a b c d n : Int} (ha : 0 <= a /\ a < n) (hb : 0 <= b /\ b < n) (hc : 0 <= c /\ c < n) (hd : 0 <= d /\ d < n) : ¬ bestL [a, b, c, d] < 0 /\ ¬ n <= bestG [a, b, c, d] := by
  have mem : ∀ i, i <= 3 -> [a, b, c, d].getD i 0 = a \/ [a, b, c, d].getD i 0 = b \/ [a, b, c, d].getD i 0 = c \/ [a, b, c, d].getD i 0 = d := fun i hi => by
    match i, hi with
    | 0, _ => exact .inl rfl
    | 1, _ => exact .inr (.inl rfl)
    | 2, _ => exact .inr (.inr (.inl rfl))
    | 3, _ => exact .inr (.inr (.inr rfl))
  have mg : bestG [a, b, c, d] = a \/ bestG [a, b, c, d] = b \/ bestG [a, b, c, d] = c \/ bestG [a, b, c, d] = d := mem _ (argBest_le _ 3)
  have ml : bestL [a, b, c, d] = a \/ bestL [a, b, c, d] = b \/ bestL [a, b, c, d] = c \/ bestL [a, b, c, d] = d := mem _ (argBest_le _ 3)
  omega
theorem Kp.ext {K : PySem.W.Frag} {H : Hp} {D : Addr} {φ : Heap -> Prop} {o : HO} (h : H D = some (.ext φ)) : Kp K H (L2.upd H D o) := by
  refine ⟨fun a vs q => ?_, fun a vs q => ?_⟩
  . rcases q with (q | ⟨x, q⟩) | q
    . exact .inl (.inl (by rw [upd_ne (by rintro rfl; rw [h] at q; cases q)]; exact q))
    . exact .inl (.inr ⟨x, by rw [upd_ne (by rintro rfl; rw [h] at q; cases q)]; exact q⟩)
    . exact .inr q
  . rcases q with ⟨x, q⟩ | q
    . exact .inl ⟨x, by rw [upd_ne (by rintro rfl; rw [h] at q; cases q)]; exact q⟩
    . exact .inr q
theorem Kp.new {K : PySem.W.Frag} {H : Hp} {D : Addr} {o : HO} (h : H D = none) : Kp K H (L2.upd H D o) := by
  refine ⟨fun a vs q => ?_, fun a vs q => ?_⟩
  . rcases q with (q | ⟨x, q⟩) | q
    . exact .inl (.inl (by rw [upd_ne (by rintro rfl; rw [h] at q; cases q)]; exact q))
    . exact .inl (.inr ⟨x, by rw [upd_ne (by rintro rfl; rw [h] at q; cases q)]; exact q⟩)
    . exact .inr q
  . rcases q with ⟨x, q⟩ | q
    . exact .inl ⟨x, by rw [upd_ne (by rintro rfl; rw [h] at q; cases q)]; exact q⟩
    . exact .inr q
theorem Kp.trans {K : PySem.W.Frag} {H H1 H2 : Hp} (a : Kp K H H1) (b : Kp K H1 H2) : Kp K H H2 := ⟨fun x vs h => b.t x vs (a.t x vs h), fun x vs h => b.f x vs (a.f x vs h)⟩
theorem Sim.ext {K : PySem.W.Frag} {as : List Addr} {m : Me} {H : Hp} {D : Addr} {φ : Heap -> Prop} {o : HO} (S : Sim K as m H) (hD : H D = some (.ext φ)) : Sim K as m (upd H D o) := by
  refine ⟨S.len, S.nd, fun l b ob h1 h2 => ?_⟩
  have q := S.obj l b ob h1 h2
  cases ob with
  | lst zs =>
    obtain ⟨us, e, r⟩ := q
    have hb : b ≠ D := by rintro rfl; rw [e] at hD; cases hD
    exact ⟨us, by rw [upd_ne hb]; exact e, r.kp (Kp.ext hD)⟩
  | dct kvs => exact q.elim
theorem ifF {p q : Prop} (h : q) : if false = true then p else q := by rw [if_neg Bool.false_ne_true]; exact h
def innerS (k s n : Str) (p1 p2 p3 q1 q2 q3 q4 q5 q6 q7 q8 q9 r1 r2 r3 r4 r5 r6 r7 r8 r9 t1 t2 t3 t4 t5 t6 t7 t8 t9 u1 u2 u3 u4 : Pos) (j1 j2 j3 j4 j5 j6 j7 : Nat) : List Stmt :=
  [.If (.BoolOp .Or [.Compare (.Name s p1) [.In] [.Name k p2] p3,
      .Compare (.Call (.Name "min" q1) [.BinOp (.Subscript (.Name s q2) (.Constant (.int 0) j1 q3) q4) .Add (.Subscript (.Name s q5) (.Constant (.int 1) j2 q6) q7) q8] [] q9) [.Lt] [.Constant (.int 0) j3 r1] r2,
      .Compare (.Call (.Name "max" r3) [.BinOp (.Subscript (.Name s r4) (.Constant (.int 0) j4 r5) r6) .Add (.Subscript (.Name s r7) (.Constant (.int 1) j5 r8) r9) t1] [] t2) [.GtE] [.Name n t3] t4] t5)
    [.Return (some (.Constant (.bool false) j6 t6)) t7] [] t8,
   .Assign [.Subscript (.Name k t9) (.Name s u1) u2] (.Constant (.bool true) j7 u3) u4]
section
variable {X : Cx}
theorem inner_ok {k s n : Str} {ik is' inn : Nat} {p1 p2 p3 q1 q2 q3 q4 q5 q6 q7 q8 q9 r1 r2 r3 r4 r5 r6 r7 r8 r9 t1 t2 t3 t4 t5 t6 t7 t8 t9 u1 u2 u3 u4 : Pos} {j1 j2 j3 j4 j5 j6 j7 : Nat} (hu : X.A.units + 64 < cLine) (hc : X.calm = true) (hk : X.N[ik]? = some k) (hs : X.N[is']? = some s) (hn : X.N[inn]? = some n) (vk : Vis X.env.scope k) (vs : Vis X.env.scope s) (vn : Vis X.env.scope n)
    (ok : okName k = true) (os : okName s = true) (on : okName n = true) (gm : Gl X "min") (mm : X.mg "min" = none) (gM : Gl X "max") (mM : X.mg "max" = none) :
    PSs X (innerS k s n p1 p2 p3 q1 q2 q3 q4 q5 q6 q7 q8 q9 r1 r2 r3 r4 r5 r6 r7 r8 r9 t1 t2 t3 t4 t5 t6 t7 t8 t9 u1 u2 u3 u4 j1 j2 j3 j4 j5 j6 j7)
      (fun D σ H => ∃ (a d : Addr) (w x y z N : Int) (xs : List NK), σ[is']? = some (some (.ref a)) /\ σ[ik]? = some (some (.ref d)) /\ σ[inn]? = some (some (.int N)) /\ NTup X.K H [[w, x], [y, z]] a /\ NDict X.K X.prog X.w H d xs /\ [[w, x], [y, z]] ∉ xs.map (·.1) /\ xs.length <= 100000 /\
        ((0 <= w /\ w < N) /\ (0 <= x /\ x < N) /\ (0 <= y /\ y < N) /\ (0 <= z /\ z < N)) /\
        ∀ a1 a2, H a1 = none -> upd H a1 (.tup [.int w, .int x, .int y, .int z]) a2 = none -> D.nx σ (upd (upd (upd H a1 (.tup [.int w, .int x, .int y, .int z])) a2 (.tup [.int w, .int x, .int y, .int z])) d (dObj X.prog X.w d (xs ++ [([[w, x], [y, z]], a, .bool true)])))) := by
  have vS : ∀ {p : Pos}, PE X (.Name s p) (tVar is') := fun {p} => pe_var hs vs (okDbg os).1 (okDbg os).2
  have vK : ∀ {p : Pos}, PE X (.Name k p) (tVar ik) := fun {p} => pe_var hk vk (okDbg ok).1 (okDbg ok).2
  have vN : ∀ {p : Pos}, PE X (.Name n p) (tVar inn) := fun {p} => pe_var hn vn (okDbg on).1 (okDbg on).2
  have cat : ∀ {a1 a2 a3 a4 a5 a6 a7 : Pos} {i1 i2 : Nat}, PE X (.BinOp (.Subscript (.Name s a1) (.Constant (.int 0) i1 a2) a3) .Add (.Subscript (.Name s a4) (.Constant (.int 1) i2 a5) a6) a7) _ := fun {a1 a2 a3 a4 a5 a6 a7 i1 i2} =>
    pe_op (pos := a7) op_catT (pe_ix (pos := a3) ix_tup (vS (p := a1)) (pe_int (i := 0) (j := i1) (pos := a2)) (fun _ _ => rfl)) (pe_ix (pos := a6) ix_tup (vS (p := a4)) (pe_int (i := 1) (j := i2) (pos := a5)) (fun _ _ => rfl))
  have c1 : PT X (.Compare (.Name s p1) [.In] [.Name k p2] p3) _ := pt_cmpR (pos := p3) (op_inN hu) (vS (p := p1)) (vK (p := p2)) rfl
  have c2 : PT X (.Compare (.Call (.Name "min" q1) [.BinOp (.Subscript (.Name s q2) (.Constant (.int 0) j1 q3) q4) .Add (.Subscript (.Name s q5) (.Constant (.int 1) j2 q6) q7) q8] [] q9) [.Lt] [.Constant (.int 0) j3 r1] r2) _ :=
    pt_cmpR (pos := r2) op_lt (pe_callB (call_minT hc) gm mm (by rfl) (pa_cons cat pa_nil)) (pe_int (i := 0) (j := j3) (pos := r1)) rfl
  have c3 : PT X (.Compare (.Call (.Name "max" r3) [.BinOp (.Subscript (.Name s r4) (.Constant (.int 0) j4 r5) r6) .Add (.Subscript (.Name s r7) (.Constant (.int 1) j5 r8) r9) t1] [] t2) [.GtE] [.Name n t3] t4) _ :=
    pt_cmpR (pos := t4) op_ge (pe_callB (call_maxT hc) gM mM (by rfl) (pa_cons cat pa_nil)) (vN (p := t3)) rfl
  have s1 := ps_if (pos := t8) (PW.pt (pw_or (pos := t5) c1 (pw_or c2 (pw_or1 c3)))) (pss_one (ps_ret (pos := t7) (pe_bl (X := X) (b := false) (j := j6) (pos := t6)))) (pss_nil (X := X))
  have s2 : PS X (.Assign [.Subscript (.Name k t9) (.Name s u1) u2] (.Constant (.bool true) j7 u3) u4) _ := ps_asg (pos := u4) (pe_bl (X := X) (b := true) (j := j7) (pos := u3)) (pg_sub (pos := u2) (vK (p := t9)) (vS (p := u1)) (set_N hu))
  refine PSs.imp (pss_cons s1 (pss_one s2)) fun D σ H q => ?_
  obtain ⟨a, d, w, x, y, z, N, xs, h1, h2, h3, h4, h5, h6, h7, h8, h9⟩ := q
  have hb := best4 h8.1 h8.2.1 h8.2.2.1 h8.2.2.2
  obtain ⟨bs, ha, ht⟩ := id h4
  cases bs with
  | nil => exact ht.elim
  | cons b1 bs =>
    cases bs with
    | nil => exact ht.2.elim
    | cons b2 bs =>
      cases bs with
      | cons _ _ => exact ht.2.2.elim
      | nil =>
        have kn : atKey xs [[w, x], [y, z]] = none := no_key h6
        have e1 : (atKey xs [[w, x], [y, z]]).isSome = false := by rw [kn]; rfl
        refine ⟨.ref a, h1, .ref d, h2, a, d, _, xs, rfl, rfl, h4, h5, false, by rw [e1], ?_⟩
        refine ifF ⟨.ref a, h1, a, _, 0, .ref b1, rfl, rfl, ha, rfl, .ref a, h1, a, _, 1, .ref b2, rfl, rfl, ha, rfl, b1, b2, _, _, rfl, rfl, ht.1, ht.2.1, by simp, show 2 + 2 <= sizeLine by decide, (fun z => by cases z), fun _ a1 h10 => ?_⟩
        refine ⟨a1, [w, x, y, z], rfl, .inl (.inl upd_same), Nat.succ_pos _, _, 0, rfl, rfl, false, congrArg V.bl (decide_eq_false hb.1), ?_⟩
        refine ifF ?_
        have k1 : Kp X.K H (upd H a1 (.tup [.int w, .int x, .int y, .int z])) := Kp.new h10
        refine ⟨.ref a, h1, a, _, 0, .ref b1, rfl, rfl, k1.t _ _ ha, rfl, .ref a, h1, a, _, 1, .ref b2, rfl, rfl, k1.t _ _ ha, rfl, b1, b2, _, _, rfl, rfl, k1.t _ _ ht.1, k1.t _ _ ht.2.1, by simp, show 2 + 2 <= sizeLine by decide, (fun z => by cases z), fun _ a2 h11 => ?_⟩
        refine ⟨a2, [w, x, y, z], rfl, .inl (.inl upd_same), Nat.succ_pos _, .int N, h3, _, N, rfl, rfl, false, congrArg V.bl (decide_eq_false hb.2), ?_⟩
        refine ifF ?_
        have k2 := Kp.trans k1 (Kp.new (K := X.K) (o := .tup [.int w, .int x, .int y, .int z]) h11)
        have n1 : d ≠ a1 := fun z => by have h12 := h5.1; rw [z, h10] at h12; cases h12
        have n2 : d ≠ a2 := fun z => by rw [<- z, upd_ne n1, h5.1] at h11; cases h11
        refine ⟨.ref d, h2, .ref a, h1, d, a, _, xs, rfl, rfl, rfl, h4.mono k2.t, ⟨?_, fun v hv => (h5.2 v hv).mono k2.t⟩, kn, h7, h9 a1 a2 h10 h11⟩
        rw [upd_ne n2, upd_ne n1]
        exact h5.1
end
theorem EnvRep.sub {K : PySem.W.Frag} {as : List Addr} {H : Hp} {env env' : En} {σ : St} (G : EnvRep K as H env σ) (hl : env'.length = env.length) (h : ∀ (q : Nat) (w : Wd), env'[q]? = some (some w) -> env[q]? = some (some w)) : EnvRep K as H env' σ :=
  ⟨hl.trans G.len, fun q w e => G.get q w (h q w e)⟩
theorem EnvRep.at {K : PySem.W.Frag} {as : List Addr} {H : Hp} {env env' : En} {σ σ' : St} (G : EnvRep K as H env σ) (hl : env'.length = env.length) (hs : σ'.length = σ.length) (h : ∀ (q : Nat) (w : Wd), env'[q]? = some (some w) -> env[q]? = some (some w) /\ σ'[q]? = σ[q]?) : EnvRep K as H env' σ' := by
  refine ⟨hl.trans (G.len.trans hs.symm), fun q w e => ?_⟩
  obtain ⟨a, b⟩ := h q w e
  obtain ⟨v, h1, h2⟩ := G.get q w a
  exact ⟨v, by rw [b]; exact h1, h2⟩
theorem set_get {α : Type} {l : List (Option α)} {i q : Nat} {w : α} (h : (l.set i none)[q]? = some (some w)) : q ≠ i /\ l[q]? = some (some w) := by
  by_cases e : q = i
  . subst e
    rw [List.getElem?_set, if_pos rfl] at h
    split at h <;> cases h
  . rw [List.getElem?_set_ne (Ne.symm e)] at h
    exact ⟨e, h⟩
theorem sim_new {K : PySem.W.Frag} {as : List Addr} {m : Me} {H : Hp} {p : Addr} (S : Sim K as m H) (hp : H p = none) (o : HO) : Step as H as (upd H p o) /\ Sim K as m (upd H p o) := by
  have T : Step as H as (upd H p o) := ⟨⟨[], by simp⟩, fun b o' h _ => by rw [upd_ne (ne_of_none h hp)]; exact h, fun b hb => .inl hb⟩
  refine ⟨T, S.keep T fun b _ o' e => ?_⟩
  rw [upd_ne (ne_of_none e hp)]
  exact e
theorem pts_len : ∀ {xs : List Wd} {ps : List (Int × Int)}, ptsOf xs = some ps -> ps.length = xs.length
  | [], ps, h => by cases h; rfl
  | w :: r, ps, h => by
    have h' : (match ptOf w, ptsOf r with | some p, some q => some (p :: q) | _, _ => none) = some ps := h
    cases e1 : ptOf w with
    | none => rw [e1] at h'; cases h'
    | some p =>
      cases e2 : ptsOf r with
      | none => rw [e1, e2] at h'; cases h'
      | some q =>
        rw [e1, e2] at h'
        cases h'
        simp [pts_len e2]
theorem pt_eq {w : Wd} {p : Int × Int} (h : ptOf w = some p) : w = .tup [.int p.1, .int p.2] := by
  unfold ptOf at h
  split at h
  . cases h; rfl
  . cases h
theorem pts_at : ∀ {xs : List Wd} {ps : List (Int × Int)} {i : Nat} {p : Int × Int}, ptsOf xs = some ps -> ps[i]? = some p -> xs[i]? = some (.tup [.int p.1, .int p.2])
  | [], ps, i, p, h, e => by cases h; cases e
  | w :: r, ps, i, p, h, e => by
    have h' : (match ptOf w, ptsOf r with | some p, some q => some (p :: q) | _, _ => none) = some ps := h
    cases e1 : ptOf w with
    | none => rw [e1] at h'; cases h'
    | some p' =>
      cases e2 : ptsOf r with
      | none => rw [e1, e2] at h'; cases h'
      | some q =>
        rw [e1, e2] at h'
        cases h'
        cases i with
        | zero => cases e; rw [pt_eq e1]; rfl
        | succ i => exact pts_at (xs := r) e2 e
theorem ntup_of {K : PySem.W.Frag} {as : List Addr} {H : Hp} {w x y z : Int} {v : V} (h : Rep K as H (tupK [[w, x], [y, z]]) v) : ∃ a, v = .ref a /\ NTup K H [[w, x], [y, z]] a := by
  obtain ⟨a, vs, rfl, h1, h2⟩ := rep_tup.mp h
  obtain ⟨v1, r1, rfl, g1, h3⟩ := repL_cons.mp h2
  obtain ⟨v2, r2, rfl, g2, h4⟩ := repL_cons.mp h3
  obtain rfl := repL_nil.mp h4
  have one : ∀ {i j : Int} {v : V}, Rep K as H (tupI [i, j]) v -> ∃ b, v = .ref b /\ SqT K H b [.int i, .int j] := fun {i j v} g => by
    obtain ⟨b, us, rfl, k1, k2⟩ := rep_tup.mp g
    obtain ⟨u1, s1, rfl, l1, k3⟩ := repL_cons.mp k2
    obtain ⟨u2, s2, rfl, l2, k4⟩ := repL_cons.mp k3
    obtain rfl := repL_nil.mp k4
    rw [rep_int.mp l1, rep_int.mp l2] at k1
    exact ⟨b, rfl, k1⟩
  obtain ⟨b1, rfl, q1⟩ := one g1
  obtain ⟨b2, rfl, q2⟩ := one g2
  exact ⟨a, rfl, [b1, b2], h1, q1, q2, trivial⟩
end Mini
namespace Mini
open PySem PySem.Spec PyProof.Rows L2
theorem junk_more {ps : List (Int × Int)} {i : Nat} {p : Int × Int} (h : ps[i]? = some p) : junk (ps.take (i + 1)) = junk (ps.take i) ++ [.lst ((sidesK p).map tupK)] := by
  unfold junk
  rw [List.take_add_one, h]
  simp
theorem keys_more {ps : List (Int × Int)} {i : Nat} {p : Int × Int} (h : ps[i]? = some p) : (ps.take (i + 1)).flatMap sidesK = (ps.take i).flatMap sidesK ++ sidesK p := by
  rw [List.take_add_one, h]
  simp
structure InnerI (X : Cx) (as4 : List Addr) (as : List Addr) (H0 : Hp) (M4 : Me) (envp : En) (ik : Nat) (d : Addr) (ks : List (List (List Int))) (σ : St) (H : Hp) : Prop where
  S : Sim X.K as4 M4 H
  T : Step as H0 as4 H
  G : EnvRep X.K as4 H envp σ
  k : σ[ik]? = some (some (.ref d))
  d : ∃ xs : List NK, NDict X.K X.prog X.w H d xs /\ xs.map (·.1) = ks
section
variable {X : Cx} {as4 as : List Addr} {H0 : Hp} {M4 : Me} {envp : En} {ik is' inn : Nat} {d : Addr} {ks : List (List (List Int))} {σ : St} {H : Hp}
theorem len_keys {xs : List NK} (h : xs.map (·.1) = ks) : xs.length = ks.length := by rw [<- h, List.length_map]
theorem InnerI.next {a1 a2 a : Addr} {xs : List NK} {T4 : List V} {k : List (List Int)} (h : InnerI X as4 as H0 M4 envp ik d ks σ H) (hd : NDict X.K X.prog X.w H d xs) (hx : xs.map (·.1) = ks) (hs : is' ≠ ik) (hes : ∀ w, envp[is']? ≠ some (some w)) (h0 : H0 d = none) (hk : NTup X.K H k a) (h1 : H a1 = none) (h2 : upd H a1 (.tup T4) a2 = none) :
    InnerI X as4 as H0 M4 envp ik d (ks ++ [k]) (σ.set is' (some (.ref a))) (upd (upd (upd H a1 (.tup T4)) a2 (.tup T4)) d (dObj X.prog X.w d (xs ++ [(k, a, .bool true)]))) := by
  have n1 : d ≠ a1 := fun z => by have h12 := hd.1; rw [z, h1] at h12; cases h12
  have n2 : d ≠ a2 := fun z => by rw [<- z, upd_ne n1, hd.1] at h2; cases h2
  obtain ⟨t1, s1⟩ := sim_new h.S h1 (.tup T4)
  obtain ⟨t2, s2⟩ := sim_new s1 h2 (.tup T4)
  have e2 : upd (upd H a1 (.tup T4)) a2 (.tup T4) d = some (dObj X.prog X.w d xs) := by rw [upd_ne n2, upd_ne n1]; exact hd.1
  have s3 := s2.ext (o := dObj X.prog X.w d (xs ++ [(k, a, .bool true)])) e2
  have kp : Kp X.K H (upd (upd (upd H a1 (.tup T4)) a2 (.tup T4)) d (dObj X.prog X.w d (xs ++ [(k, a, .bool true)]))) := Kp.trans (Kp.trans (Kp.new h1) (Kp.new h2)) (Kp.ext e2)
  have T' := h.T.trans (t1.trans t2)
  refine ⟨s3, ⟨T'.pre, fun b o q hb => ?_, T'.fresh⟩, ?_, ?_, xs ++ [(k, a, .bool true)], ⟨upd_same, fun v hv => ?_⟩, by rw [List.map_append, hx]; rfl⟩
  . rw [upd_ne (fun z => by rw [z, h0] at q; cases q)]
    exact T'.frame b o q hb
  . refine (h.G.kp kp).at rfl (by simp) fun q w e => ⟨e, ?_⟩
    have : q ≠ is' := fun z => by subst z; exact hes w e
    rw [List.getElem?_set_ne (Ne.symm this)]
  . rw [List.getElem?_set_ne hs]
    exact h.k
  . rcases List.mem_append.mp hv with z | z
    . exact (hd.2 v z).mono kp.t
    . rw [List.mem_singleton.mp z]
      exact hk.mono kp.t
theorem InnerI.step {as5 : List Addr} {H5 : Hp} {M5 : Me} (h : InnerI X as4 as H0 M4 envp ik d ks σ H) (T : Step as4 H as5 H5) (S : Sim X.K as5 M5 H5) : InnerI X as5 as H0 M5 envp ik d ks σ H5 := by
  obtain ⟨xs, hd, hx⟩ := h.d
  have hn : d ∉ as4 := fun z => by
    obtain ⟨us, e⟩ := h.S.isLst z
    rw [hd.1] at e; cases e
  refine ⟨S, h.T.trans T, h.G.mono h.S T, h.k, xs, ⟨T.frame _ _ hd.1 hn, fun v hv => (hd.2 v hv).mono (h.S.kp T).t⟩, hx⟩
end
theorem sides_walk {X : Cx} {as as4 : List Addr} {H0 H4 : Hp} {M : Me} {envp : En} {ik is' inn : Nat} {d a4 : Addr} {ks0 : List (List (List Int))} {p : Int × Int} {N : Int} {σ : St} {D : Ends} {g : TG} {inner : TS} (hg : g = gName is') (hM : ∀ (σ : St) (H : Hp) (D : Ends), (∃ (a d : Addr) (w x y z N : Int) (xs : List NK), σ[is']? = some (some (.ref a)) /\ σ[ik]? = some (some (.ref d)) /\ σ[inn]? = some (some (.int N)) /\ NTup X.K H [[w, x], [y, z]] a /\ NDict X.K X.prog X.w H d xs /\ [[w, x], [y, z]] ∉ xs.map (·.1) /\ xs.length <= 100000 /\
        ((0 <= w /\ w < N) /\ (0 <= x /\ x < N) /\ (0 <= y /\ y < N) /\ (0 <= z /\ z < N)) /\
        ∀ a1 a2, H a1 = none -> upd H a1 (.tup [.int w, .int x, .int y, .int z]) a2 = none -> D.nx σ (upd (upd (upd H a1 (.tup [.int w, .int x, .int y, .int z])) a2 (.tup [.int w, .int x, .int y, .int z])) d (dObj X.prog X.w d (xs ++ [([[w, x], [y, z]], a, .bool true)])))) -> inner D σ H)
    (hs : is' ≠ ik) (hsn : is' ≠ inn) (hes : ∀ w, envp[is']? ≠ some (some w)) (hsl : is' < σ.length) (h0 : H0 d = none) (hen : envp[inn]? = some (some (.int N))) (hp : 1 <= p.1 /\ p.1 < N /\ 1 <= p.2 /\ p.2 < N) (hz : ks0.length <= 90000) (hnew : ∀ j k, (sidesK p)[j]? = some k -> k ∉ ks0 ++ (sidesK p).take j)
    (ha : as4[M.length]? = some a4) (h : InnerI X as4 as H0 (M ++ [.lst ((sidesK p).map tupK)]) envp ik d ks0 σ H4)
    (fin : ∀ σ' H', InnerI X as4 as H0 (M ++ [.lst ((sidesK p).map tupK)]) envp ik d (ks0 ++ sidesK p) σ' H' -> σ'.length = σ.length -> D.nx σ' H') :
    ∃ W : Nat -> Nat -> St -> Hp -> Prop, (∃ m, W 0 m σ H4) /\ ∀ i m σ H, W i m σ H ->
      ((Itl X.K a4).stop i H /\ D.nx σ H) \/ ((Itl X.K a4).go i H /\ ∃ N : St -> Hp -> Prop, (∀ σ' H', N σ' H' -> ∃ m', m' < m /\ W (i + 1) m' σ' H') /\ ∀ x H', (Itl X.K a4).yld i H x H' -> g x σ H' fun σ2 H2 => inner { D with nx := N, ct := N, bk := D.nx } σ2 H2) := by
  subst hg
  refine ⟨fun i m σ' H' => i <= 4 /\ m = 4 - i /\ σ'.length = σ.length /\ InnerI X as4 as H0 (M ++ [.lst ((sidesK p).map tupK)]) envp ik d (ks0 ++ (sidesK p).take i) σ' H', ⟨4, by omega, by omega, rfl, by simpa using h⟩, fun i m σ' H' w => ?_⟩
  obtain ⟨w1, w2, w3, I⟩ := w
  have hlst : ∃ vs, H' a4 = some (.lst vs) /\ RepL X.K as4 H' ((sidesK p).map tupK) vs := by
    have q := I.S.obj M.length a4 (.lst ((sidesK p).map tupK)) ha (by simp)
    obtain ⟨vs, e, r⟩ := q
    exact ⟨vs, e, r⟩
  obtain ⟨vs, hv, r⟩ := hlst
  have hlen : vs.length = 4 := by rw [<- r.length]; rfl
  by_cases hi : i = 4
  . subst hi
    refine .inl ⟨⟨vs, SqL.of hv, by omega⟩, fin σ' H' ?_ w3⟩
    have e4 : (sidesK p).take 4 = sidesK p := rfl
    rw [e4] at I
    exact I
  . have hi4 : i < 4 := by omega
    obtain ⟨k, hk⟩ : ∃ k, (sidesK p)[i]? = some k := ⟨(sidesK p)[i]'hi4, List.getElem?_eq_getElem hi4⟩
    have hform : ∃ w x y z : Int, k = [[w, x], [y, z]] /\ ((0 <= w /\ w < N) /\ (0 <= x /\ x < N) /\ (0 <= y /\ y < N) /\ (0 <= z /\ z < N)) := by
      rcases (by omega : i = 0 \/ i = 1 \/ i = 2 \/ i = 3) with rfl | rfl | rfl | rfl <;> cases hk <;> exact ⟨_, _, _, _, rfl, by omega⟩
    obtain ⟨w, x, y, z, rfl, hb⟩ := hform
    obtain ⟨v, hv1, hv2⟩ := r.get (i := i) (x := tupK [[w, x], [y, z]]) (by rw [List.getElem?_map, hk]; rfl)
    obtain ⟨a, rfl, hnt⟩ := ntup_of hv2
    refine .inr ⟨⟨vs, _, SqL.of hv, hv1⟩, fun σ2 H2 => i + 1 <= 4 /\ σ2.length = σ.length /\ InnerI X as4 as H0 (M ++ [.lst ((sidesK p).map tupK)]) envp ik d (ks0 ++ (sidesK p).take (i + 1)) σ2 H2, fun σ2 H2 q => ⟨4 - (i + 1), by omega, q.1, rfl, q.2.1, q.2.2⟩, fun x' H2 hy => ?_⟩
    obtain ⟨rfl, hx'⟩ := hy
    have e := hx' vs (SqL.of hv)
    rw [hv1] at e
    cases e
    obtain ⟨xs, hd, hx⟩ := I.d
    have hl : is' < σ'.length := by rw [w3]; exact hsl
    obtain ⟨vn, gn, rn⟩ := I.G.get inn _ hen
    obtain rfl := rep_int.mp rn
    refine hM _ _ _ ⟨a, d, w, x, y, z, N, xs, List.getElem?_set_self hl, by rw [List.getElem?_set_ne hs]; exact I.k, by rw [List.getElem?_set_ne hsn]; exact gn, hnt, hd, by rw [hx]; exact hnew i _ hk, ?_, hb, fun a1 a2 h1 h2 => ⟨hi4, by rw [List.length_set]; exact w3, ?_⟩⟩
    . have := len_keys hx
      rw [List.length_append, List.length_take] at this
      omega
    . have q := I.next (is' := is') (T4 := [.int w, .int x, .int y, .int z]) hd hx hs hes h0 hnt h1 h2
      have e5 : ks0 ++ (sidesK p).take (i + 1) = ks0 ++ (sidesK p).take i ++ [[[w, x], [y, z]]] := by
        rw [List.take_add_one, hk, List.append_assoc]
        rfl
      rw [e5]
      exact q
end Mini
namespace Mini
open PySem PySem.Spec PyProof.Rows L2
inductive IsBlk (C : Ctx) (sc : Scope) (N : List Str) (kp t n : Nat) (ec el : Ex) : Nat -> Nat -> Nat -> List Stmt -> Prop
  | mk {ik ip is' : Nat} {kn pn sn tn nn : Str} {cond call : Expr} {a1 a2 a3 a4 a5 a6 a7 a8 b1 b2 b3 p1 p2 p3 q1 q2 q3 q4 q5 q6 q7 q8 q9 r1 r2 r3 r4 r5 r6 r7 r8 r9 t1 t2 t3 t4 t5 t6 t7 t8 t9 u1 u2 u3 u4 : Pos} {j0 j1 j2 j3 j4 j5 j6 j7 : Nat}
      (hk : N[ik]? = some kn) (lk : locB sc kn = true) (ok : okName kn = true) (hp : N[ip]? = some pn) (lp : locB sc pn = true) (hs : N[is']? = some sn) (ls : locB sc sn = true) (os : okName sn = true) (ht : N[t]? = some tn) (lt : locB sc tn = true) (ot : okName tn = true) (hn : N[n]? = some nn) (ln : locB sc nn = true) (on : okName nn = true)
      (gm : glB sc "min" = true) (gM : glB sc "max" = true) (rc : isRng ec = false) (ic : isIf ec = false) (hc : IsE C sc N ec (.e cond)) (rl : isRng el = false) (hl : IsE C sc N el (.e call)) (hns : notSet call = true)
      (df : decide (ik ≠ ip /\ ik ≠ is' /\ ip ≠ is' /\ t ≠ ik /\ t ≠ ip /\ t ≠ is' /\ n ≠ ik /\ n ≠ ip /\ n ≠ is') = true) :
      IsBlk C sc N kp t n ec el ik ip is' [.Assign [.Name kn a1] (.Dict [] [] a2) a3, .For (.Name pn a4) (.Name tn a5) [.If cond [.Return (some (.Constant (.bool false) j0 a6)) a7] [] a8,
        .For (.Name sn b1) call (innerS kn sn nn p1 p2 p3 q1 q2 q3 q4 q5 q6 q7 q8 q9 r1 r2 r3 r4 r5 r6 r7 r8 r9 t1 t2 t3 t4 t5 t6 t7 t8 t9 u1 u2 u3 u4 j1 j2 j3 j4 j5 j6 j7) [] b2] [] b3]
section
variable {C : Ctx} {X : Cx} {cl : Nat -> List Wd -> Me -> Rz} {dp : Nat}
theorem vis_loc {sc : Scope} {x : Str} (h : locB sc x = true) : Vis sc x := (loc_of h).elim .inl fun z => .inr (.inl z)
theorem block_ok (hC : CtxOk C X cl dp) (hX : StOk X) {rest : List Stmt} {u : TS} (hrest : PSs X rest u) {kp t n ik ip is' : Nat} {ec el : Ex} {sts : List Stmt} (h : IsBlk C X.env.scope X.N kp t n ec el ik ip is' sts)
    (hec : ∀ (env : En) (m : Me) (i j : Int), env[ip]? = some (some (.tup [.int i, .int j])) -> evE cl ec env m = .ok (.bl false) m)
    (hel : ∀ (env : En) (m : Me) (i j : Int), env[ip]? = some (some (.tup [.int i, .int j])) -> evE cl el env m = .ok (.ref m.length) (m ++ [.lst ((sidesK (i, j)).map tupK)])) :
    PSs X (sts ++ rest) (fun D σ H => tOfS X.K (chkS t n ik ip is') { D with nx := u D } σ H) := by
  cases h with
  | @mk kn pn sn tn nn cond call a1 a2 a3 a4 a5 a6 a7 a8 b1 b2 b3 p1 p2 p3 q1 q2 q3 q4 q5 q6 q7 q8 q9 r1 r2 r3 r4 r5 r6 r7 r8 r9 t1 t2 t3 t4 t5 t6 t7 t8 t9 u1 u2 u3 u4 j0 j1 j2 j3 j4 j5 j6 j7 hk lk ok hp lp hs ls os ht lt ot hn ln on gm gM rc ic hc rl hl hns df =>
    obtain ⟨d1, d2, d3, d4, d5, d6, d7, d8, d9⟩ := of_decide_eq_true df
    have hu := hC.room.units
    have pIn := inner_ok (X := X) (p1 := p1) (p2 := p2) (p3 := p3) (q1 := q1) (q2 := q2) (q3 := q3) (q4 := q4) (q5 := q5) (q6 := q6) (q7 := q7) (q8 := q8) (q9 := q9) (r1 := r1) (r2 := r2) (r3 := r3) (r4 := r4) (r5 := r5) (r6 := r6) (r7 := r7) (r8 := r8) (r9 := r9) (t1 := t1) (t2 := t2) (t3 := t3) (t4 := t4) (t5 := t5) (t6 := t6) (t7 := t7) (t8 := t8) (t9 := t9) (u1 := u1) (u2 := u2) (u3 := u3) (u4 := u4) (j1 := j1) (j2 := j2) (j3 := j3) (j4 := j4) (j5 := j5) (j6 := j6) (j7 := j7)
      hu hC.calm hk hs hn (vis_loc lk) (vis_loc ls) (vis_loc ln) ok os on (gl_of gm) (hC.blt _ (by simp [bltNames])) (gl_of gM) (hC.blt _ (by simp [bltNames]))
    have sIn := ps_for (pos := b2) hX.hp hC.calm (pi_list ((sound hl X hC rfl rfl).pe rl)) (pg_name (pos := b1) hX.nd hs (loc_of ls) (.inl (hX.fn _))) pIn (set_plain hns)
    have sIf := ps_if (pos := a8) ((sound hc X hC rfl rfl).pt rc ic) (pss_one (ps_ret (pos := a7) (pe_bl (X := X) (b := false) (j := j0) (pos := a6)))) (pss_nil (X := X))
    have sOut := ps_for (pos := b3) hX.hp hC.calm (pi_list (pe_var (pos := a5) ht (vis_loc lt) (okDbg ot).1 (okDbg ot).2)) (pg_name (pos := a4) hX.nd hp (loc_of lp) (.inl (hX.fn _))) (pss_cons sIf (pss_one sIn)) (set_plain rfl)
    have sD := ps_set (pos := a3) (pos' := a1) hX.nd hk (loc_of lk) (pe_dict0 (X := X) (pos := a2)) (sw_val (by rfl)) (.inl (hX.fn _))
    intro pins s0 σ H D0 I q
    generalize hD : ({ D0 with nx := u D0 } : Ends) = D at q
    have hikσ : ik < σ.length := by rw [I.len]; exact (List.getElem?_eq_some_iff.mp hk).1
    have hipσ : ip < σ.length := by rw [I.len]; exact (List.getElem?_eq_some_iff.mp hp).1
    have hisσ : is' < σ.length := by rw [I.len]; exact (List.getElem?_eq_some_iff.mp hs).1
    refine pss_cons sD (pss_cons sOut hrest) pins s0 σ H D0 I ?_
    show tAsg _ _ { D0 with nx := tFor _ _ _ { D0 with nx := u D0 } } σ H
    rw [hD]
    obtain ⟨as, env, m, S, G, P⟩ := q
    cases et : env[t]? with
    | none => unfold chkS at P; rw [et] at P; exact P.elim
    | some ot =>
      cases en : env[n]? with
      | none => unfold chkS at P; rw [et, en] at P; cases ot with | none => exact P.elim | some w => cases w <;> exact P.elim
      | some on' =>
        have P1 : PostS X.K as H D (match (some ot : Option (Option Wd)), (some on' : Option (Option Wd)) with
          | some (some (.ref l)), some (some (.int i)) => match m[l]? with
            | some (.lst xs) => match ptsOf xs with
              | some ps => if ptsOk i ps = true /\ ps.length <= 1000 then .next (((env.set ik none).set ip none).set is' none) (m ++ junk ps) else .no
              | none => .no
            | _ => .no
          | _, _ => .no) := by
          unfold chkS at P
          rw [et, en] at P
          exact P
        split at P1
        case h_2 => exact P1.elim
        case h_1 l N e1 e2 =>
          cases e1
          cases e2
          split at P1
          case h_2 => exact P1.elim
          case h_1 xs hm =>
            cases hps : ptsOf xs with
            | none => rw [hps] at P1; exact P1.elim
            | some ps =>
              rw [hps] at P1
              by_cases hok : ptsOk N ps = true /\ ps.length <= 1000
              case neg =>
                have P2 : PostS X.K as H D (if ptsOk N ps = true /\ ps.length <= 1000 then .next (((env.set ik none).set ip none).set is' none) (m ++ junk ps) else .no) := P1
                rw [if_neg hok] at P2
                exact P2.elim
              case pos =>
                have P2 : PostS X.K as H D (if ptsOk N ps = true /\ ps.length <= 1000 then .next (((env.set ik none).set ip none).set is' none) (m ++ junk ps) else .no) := P1
                rw [if_pos hok] at P2
                intro d hd
                obtain ⟨T1, S1⟩ := sim_new S hd (dObj X.prog X.w d [])
                have G1 := G.mono S T1
                have hlen := pts_len hps
                have hσl : (σ.set ik (some (V.ref d))).length = σ.length := List.length_set ..
                obtain ⟨vt, gt, rt⟩ := G.get t _ et
                obtain ⟨a, ha, rfl⟩ := rep_ref.mp rt
                have hlt : l < m.length := (List.getElem?_eq_some_iff.mp hm).1
                -- the list of points, whatever stands behind it
                have lst : ∀ {as' : List Addr} {H' : Hp} {mm : Me}, Step as H as' H' -> Sim X.K as' (m ++ mm) H' -> ∃ vs, H' a = some (.lst vs) /\ RepL X.K as' H' xs vs := fun {as' H' mm} T' S' => by
                  have q := S'.obj l a (.lst xs) (T'.get ha) (by rw [List.getElem?_append_left hlt]; exact hm)
                  obtain ⟨vs, e, r⟩ := q
                  exact ⟨vs, e, r⟩
                have hb : ∀ {i : Nat} {p : Int × Int}, ps[i]? = some p -> 1 <= p.1 /\ p.1 < N /\ 1 <= p.2 /\ p.2 < N := fun {i p} e => by
                  have h1 := hok.1
                  unfold ptsOk at h1
                  simp only [Bool.and_eq_true, List.all_eq_true, decide_eq_true_eq] at h1
                  have h2 := (h1.1 p (List.mem_of_getElem? e)).1
                  exact ⟨h2.1.1.1, h2.1.1.2, h2.1.2, h2.2⟩
                obtain ⟨vs1, hv1, _⟩ := lst (mm := []) T1 (by rw [List.append_nil]; exact S1)
                have I0 : InnerI X as as H (m ++ junk (ps.take 0)) (((env.set ik none).set ip none).set is' none) ik d ((ps.take 0).flatMap sidesK) (σ.set ik (some (.ref d))) (upd H d (dObj X.prog X.w d [])) := by
                  refine ⟨by simpa [junk] using S1, T1, G1.at (by simp) (by simp) fun q w e => ?_, List.getElem?_set_self hikσ, [], ⟨upd_same, fun v hv => by simp at hv⟩, by simp⟩
                  obtain ⟨z1, e⟩ := set_get e
                  obtain ⟨z2, e⟩ := set_get e
                  obtain ⟨z3, e⟩ := set_get e
                  exact ⟨e, by rw [List.getElem?_set_ne (Ne.symm z3)]⟩
                refine ⟨.ref a, by rw [List.getElem?_set_ne (Ne.symm d4)]; exact gt, a, rfl, ⟨vs1, SqL.of hv1⟩, fun i mm σ' H' => i <= ps.length /\ mm = ps.length - i /\ σ'.length = σ.length /\ ∃ as', InnerI X as' as H (m ++ junk (ps.take i)) (((env.set ik none).set ip none).set is' none) ik d ((ps.take i).flatMap sidesK) σ' H',
                  ⟨ps.length, by omega, by omega, hσl, as, I0⟩, fun i mm σ' H' w => ?_⟩
                obtain ⟨w1, w2, w3, as', II⟩ := w
                obtain ⟨vs, hv, r⟩ := lst II.T II.S
                have hvl : vs.length = ps.length := by rw [<- r.length, hlen]
                by_cases hi : i = ps.length
                . subst hi
                  refine .inl ⟨⟨vs, SqL.of hv, by omega⟩, P2 as' H' σ' II.T ?_ II.G⟩
                  have := II.S
                  rw [List.take_length] at this
                  exact this
                . have hilt : i < ps.length := by omega
                  obtain ⟨pt, hpt⟩ : ∃ pt, ps[i]? = some pt := ⟨ps[i], List.getElem?_eq_getElem hilt⟩
                  obtain ⟨x, hx1, hx2⟩ := r.get (i := i) (pts_at hps hpt)
                  refine .inr ⟨⟨vs, x, SqL.of hv, hx1⟩, fun σ2 H2 => i + 1 <= ps.length /\ σ2.length = σ.length /\ ∃ as2, InnerI X as2 as H (m ++ junk (ps.take (i + 1))) (((env.set ik none).set ip none).set is' none) ik d ((ps.take (i + 1)).flatMap sidesK) σ2 H2,
                    fun σ2 H2 q => ⟨ps.length - (i + 1), by omega, q.1, rfl, q.2.1, q.2.2⟩, fun x' H2 hy => ?_⟩
                  obtain ⟨rfl, hx'⟩ := hy
                  have e := hx' vs (SqL.of hv)
                  rw [hx1] at e
                  cases e
                  have hel' : (((env.set ik none).set ip none).set is' none).length = env.length := by simp
                  have hipe : ip < (((env.set ik none).set ip none).set is' none).length := by rw [hel', G.len]; exact hipσ
                  have hat : ((((env.set ik none).set ip none).set is' none).set ip (some (.tup [.int pt.1, .int pt.2])))[ip]? = some (some (.tup [.int pt.1, .int pt.2])) := List.getElem?_set_self hipe
                  have G2 := II.G.set hx2 ip
                  have IIa : InnerI X as' as H (m ++ junk (ps.take i)) (((((env.set ik none).set ip none).set is' none).set ip (some (.tup [.int pt.1, .int pt.2]))).set is' none) ik d ((ps.take i).flatMap sidesK) (σ'.set ip (some x)) H2 :=
                    ⟨II.S, II.T, G2.sub (by simp) fun q w e => (set_get e).2, by rw [List.getElem?_set_ne (Ne.symm d1)]; exact II.k, II.d⟩
                  refine ⟨as', _, _, II.S, G2, ?_⟩
                  rw [hec _ _ _ _ hat]
                  intro as3 H3 v3 T3 S3 R3
                  obtain rfl := rep_bl.mp R3
                  refine ⟨false, rfl, ifF ?_⟩
                  refine ⟨as3, _, _, S3, G2.mono II.S T3, ?_⟩
                  rw [hel _ _ _ _ hat]
                  intro as4 H4 v4 T4 S4 R4
                  obtain ⟨a4', ha4, rfl⟩ := rep_ref.mp R4
                  have II2 := (IIa.step T3 S3).step T4 S4
                  have hl4 : ∃ vs4, H4 a4' = some (.lst vs4) := S4.isLst (List.mem_of_getElem? ha4)
                  obtain ⟨vs4, hv4⟩ := hl4
                  refine ⟨a4', rfl, ⟨vs4, SqL.of hv4⟩, ?_⟩
                  refine sides_walk (X := X) (p := pt) (N := N) (inn := n) rfl (fun σ H D h => h) (Ne.symm d2) (Ne.symm d9) (fun w e => (set_get e).1 rfl) (by rw [List.length_set, w3]; exact hisσ) hd ?_ (hb hpt) ?_ (fun j k hk => side_new hok.1 hpt hk) ha4 II2 fun σ5 H5 I5 hl5 => ⟨hilt, by rw [hl5, List.length_set, w3], as4, ?_⟩
                  . rw [List.getElem?_set_ne (Ne.symm d9), List.getElem?_set_ne (Ne.symm d8), List.getElem?_set_ne (Ne.symm d9), List.getElem?_set_ne (Ne.symm d8), List.getElem?_set_ne (Ne.symm d7)]
                    exact en
                  . have : ∀ l : List (Int × Int), (l.flatMap sidesK).length = 4 * l.length := fun l => by
                      induction l with
                      | nil => rfl
                      | cons a l ih => rw [List.flatMap_cons, List.length_append, ih, List.length_cons]; show 4 + _ = _; omega
                    rw [this, List.length_take]
                    have := hok.2
                    omega
                  . rw [junk_more hpt, keys_more hpt, <- List.append_assoc]
                    refine ⟨I5.S, I5.T, I5.G.sub (by simp) fun q w e => ?_, I5.k, I5.d⟩
                    obtain ⟨z1, e1⟩ := set_get e
                    obtain ⟨z2, e2⟩ := set_get e1
                    rw [List.getElem?_set_ne (Ne.symm z1), List.getElem?_set_ne (Ne.symm z2)]
                    exact e
end
end Mini
namespace Mini
open PySem PySem.Spec PyProof.Rows L2
def condE (ip kw : Nat) : Ex := .or (.not (.isi .tuple (.var ip))) (.or (.not (.call kw (.pair (.idx (.var ip) (.lit (.int 0))) .unit))) (.not (.call kw (.pair (.idx (.var ip) (.lit (.int 1))) .unit))))
def callE (ip ks : Nat) : Ex := .call ks (.pair (.idx (.var ip) (.lit (.int 0))) (.pair (.idx (.var ip) (.lit (.int 1))) .unit))
section
variable {cl : Nat -> List Wd -> Me -> Rz} {env : En} {m : Me} {i j : Int} {ip kw ks : Nat}
theorem idx_run (h : env[ip]? = some (some (.tup [.int i, .int j]))) : evE cl (.idx (.var ip) (.lit (.int 0))) env m = .ok (.int i) m /\ evE cl (.idx (.var ip) (.lit (.int 1))) env m = .ok (.int j) m := by
  constructor
  . show ((match env[ip]? with | some (some w) => Rz.ok w m | _ => .no).bind fun x m1 => (Rz.ok (.int 0) m1).bind fun y m2 => idxR x y m2) = _
    rw [h]
    rfl
  . show ((match env[ip]? with | some (some w) => Rz.ok w m | _ => .no).bind fun x m1 => (Rz.ok (.int 1) m1).bind fun y m2 => idxR x y m2) = _
    rw [h]
    rfl
theorem cond_run (hW : ∀ (i : Int) (m : Me), cl kw [.int i] m = .ok (.bl true) m) (h : env[ip]? = some (some (.tup [.int i, .int j]))) : evE cl (condE ip kw) env m = .ok (.bl false) m := by
  obtain ⟨h1, h2⟩ := idx_run (cl := cl) (m := m) h
  have e1 : evE cl (.not (.isi .tuple (.var ip))) env m = .ok (.bl false) m := by
    show (((match env[ip]? with | some (some w) => Rz.ok w m | _ => .no).bind fun x m1 => ofB (isT .tuple x m1) m1).bind _) = _
    rw [h]
    rfl
  have e2 : ∀ q c, evE cl (.idx (.var ip) (.lit (.int q))) env m = .ok (.int c) m -> evE cl (.not (.call kw (.pair (.idx (.var ip) (.lit (.int q))) .unit))) env m = .ok (.bl false) m := fun q c hq => by
    show ((((evE cl (.idx (.var ip) (.lit (.int q))) env m).bind fun x m1 => (Rz.ok (.tup []) m1).bind fun y m2 => .ok (.tup (x :: argsOf y)) m2).bind fun x m1 => cl kw (argsOf x) m1).bind _) = _
    rw [hq]
    show ((cl kw [.int c] m).bind _) = _
    rw [hW]
    rfl
  have e3 : evE cl (.or (.not (.call kw (.pair (.idx (.var ip) (.lit (.int 0))) .unit))) (.not (.call kw (.pair (.idx (.var ip) (.lit (.int 1))) .unit)))) env m = .ok (.bl false) m := by
    show ((evE cl (.not (.call kw (.pair (.idx (.var ip) (.lit (.int 0))) .unit))) env m).bind _) = _
    rw [e2 0 i h1]
    exact e2 1 j h2
  show ((evE cl (.not (.isi .tuple (.var ip))) env m).bind _) = _
  rw [e1]
  exact e3
theorem call_run (hS : ∀ (i j : Int) (m : Me), cl ks [.int i, .int j] m = .ok (.ref m.length) (m ++ [.lst ((sidesK (i, j)).map tupK)])) (h : env[ip]? = some (some (.tup [.int i, .int j]))) : evE cl (callE ip ks) env m = .ok (.ref m.length) (m ++ [.lst ((sidesK (i, j)).map tupK)]) := by
  obtain ⟨h1, h2⟩ := idx_run (cl := cl) (m := m) h
  show (((evE cl (.idx (.var ip) (.lit (.int 0))) env m).bind fun x m1 => ((evE cl (.idx (.var ip) (.lit (.int 1))) env m1).bind fun x m1 => (Rz.ok (.tup []) m1).bind fun y m2 => .ok (.tup (x :: argsOf y)) m2).bind fun y m2 => .ok (.tup (x :: argsOf y)) m2).bind fun x m1 => cl ks (argsOf x) m1) = _
  rw [h1]
  show (((evE cl (.idx (.var ip) (.lit (.int 1))) env m).bind fun x m1 => (Rz.ok (.tup []) m1).bind fun y m2 => .ok (.tup (x :: argsOf y)) m2).bind fun y m2 => Rz.ok (.tup (.int i :: argsOf y)) m2).bind (fun x m1 => cl ks (argsOf x) m1) = _
  rw [h2]
  exact hS i j m
end
inductive IsN (C : Ctx) (sc : Scope) (N : List Str) (kw ks : Nat) : Sm -> List Stmt -> Prop
  | blk {t n ik ip is' : Nat} {b : Sm} {s1 s2 : Stmt} {rest : List Stmt} (h : IsBlk C sc N 0 t n (condE ip kw) (callE ip ks) ik ip is' [s1, s2]) (hb : IsS C sc N b (.b rest)) : IsN C sc N kw ks (.seq (.chk t n ik ip is') b) (s1 :: s2 :: rest)
  | seq {a b : Sm} {st : Stmt} {sts : List Stmt} (ha : IsS C sc N a (.s st)) (hb : IsN C sc N kw ks b sts) : IsN C sc N kw ks (.seq a b) (st :: sts)
  | forv {i : Nat} {it : Ex} {body b : Sm} {x : Str} {y : Expr} {sts rest : List Stmt} {p p' : Pos} (h1 : N[i]? = some x) (h2 : locB sc x = true) (hs : notSet y = true) (hi : IsE C sc N it (.e y)) (hb : IsN C sc N kw ks body sts) (hr : IsS C sc N b (.b rest)) : IsN C sc N kw ks (.seq (.forv i it body) b) (.For (.Name x p) y sts [] p' :: rest)
  | forv1 {i : Nat} {it : Ex} {body : Sm} {x : Str} {y : Expr} {sts : List Stmt} {p p' : Pos} (h1 : N[i]? = some x) (h2 : locB sc x = true) (hs : notSet y = true) (hi : IsE C sc N it (.e y)) (hb : IsN C sc N kw ks body sts) : IsN C sc N kw ks (.forv i it body) [.For (.Name x p) y sts [] p']
section
variable {C : Ctx} {X : Cx} {cl : Nat -> List Wd -> Me -> Rz} {dp kw ks : Nat}
theorem seq_any {f g : En -> Me -> Rs} {K : PySem.W.Frag} {D : Ends} {σ : St} {H : Hp} (h : tOfS K (fun env m => match f env m with | .next e1 m1 => g e1 m1 | r => r) D σ H) : tOfS K f { D with nx := tOfS K g D } σ H := by
  obtain ⟨as, env, m, S, G, P⟩ := h
  refine ⟨as, env, m, S, G, ?_⟩
  have P' : PostS K as H D (match f env m with | .next e1 m1 => g e1 m1 | r => r) := P
  cases hr : f env m with
  | next e1 m1 =>
    rw [hr] at P'
    exact fun as' H' σ' T S' G' => ⟨as', e1, m1, S', G', PostS.step P' T⟩
  | brk e1 m1 => rw [hr] at P'; exact P'
  | cont e1 m1 => rw [hr] at P'; exact P'
  | ret w m1 => rw [hr] at P'; exact P'
  | exc c w e1 m1 => rw [hr] at P'; exact P'
  | no => rw [hr] at P'; exact P'
theorem soundN (hC : CtxOk C X cl dp) (hX : StOk X) (hW : ∀ (i : Int) (m : Me), cl kw [.int i] m = .ok (.bl true) m) (hS : ∀ (i j : Int) (m : Me), cl ks [.int i, .int j] m = .ok (.ref m.length) (m ++ [.lst ((sidesK (i, j)).map tupK)]))
    {s : Sm} {sts : List Stmt} (h : IsN C X.env.scope X.N kw ks s sts) : PSs X sts (tOfS X.K (exS cl s)) := by
  have fv : ∀ {i : Nat} {it : Ex} {body : Sm} {x : Str} {y : Expr} {sts : List Stmt} {p p' : Pos}, X.N[i]? = some x -> locB X.env.scope x = true -> notSet y = true -> IsE C X.env.scope X.N it (.e y) -> PSs X sts (tOfS X.K (exS cl body)) -> PS X (.For (.Name x p) y sts [] p') (tOfS X.K (exS cl (.forv i it body))) := fun {i it body x y sts p p'} h1 h2 hs hi ih => by
    refine PS.imp (ps_for (pos := p') hX.hp hC.calm ((sound hi X hC rfl rfl).2 _) (pg_name (pos := p) hX.nd h1 (loc_of h2) (.inl (hX.fn _))) ih (set_plain hs)) fun D σ H q => ?_
    exact for_bind (tgt_name i) q
  induction h with
  | @blk t n ik ip is' b s1 s2 rest h hb =>
    refine PSs.imp (block_ok hC hX (soundS hC hX hb) h (fun env m i j e => cond_run hW e) (fun env m i j e => call_run hS e)) fun D σ H q => ?_
    exact seq_any (f := chkS t n ik ip is') (g := exS cl b) q
  | seq ha hb ih => exact ss_seq (soundS hC hX ha) ih
  | forv h1 h2 hs hi hb hr ih => exact ss_seq (fv h1 h2 hs hi ih) (soundS hC hX hr)
  | forv1 h1 h2 hs hi hb ih => exact pss_one (fv h1 h2 hs hi ih)
end
structure OkN (C : Ctx) (kw ks : Nat) (d : Dfn) : Prop where
  sc : scopeB d.N d.ps (defScope d.st) = true
  ar : d.ps.length = d.fn.ar
  sz : d.N.length = d.fn.sz
  body : IsN C (defScope d.st) d.N kw ks d.fn.body (defBody d.st)
end Mini
namespace Mini
open PySem PySem.Spec PyProof.Rows L2
def chkIn : Sm -> Bool
  | .chk _ _ _ _ _ => true
  | .seq a b => chkIn a || chkIn b
  | .forv _ _ b => chkIn b
  | _ => false
theorem has_chk {C : Ctx} {sc : Scope} {N : List Str} {kw ks : Nat} {s : Sm} {sts : List Stmt} (h : IsN C sc N kw ks s sts) (z : chkIn s = false) : False := by
  have q : chkIn s = true := by
    clear z
    induction h with
    | blk => rfl
    | seq _ _ ih => simp [chkIn, ih]
    | forv _ _ _ _ _ _ ih => simp [chkIn, ih]
    | forv1 _ _ _ _ _ ih => simp [chkIn, ih]
  rw [z] at q
  cases q
section
variable {P : Program} {w : World} {K : PySem.W.Frag} {mg : Str -> Option Value} {base : Heap} {C : Ctx} {cl : Nat -> List Wd -> Me -> Rz} {kw ks : Nat}
theorem arityN {as : List Addr} {H : Hp} {R : VK} {fn : Fn} {ws : List Wd} {m : Me} (h : Post K as H R (runF cl fn ws m)) : ws.length = fn.ar := by
  unfold runF at h
  split at h
  . assumption
  . exact h.elim
theorem fnN_sound {d : Dfn} {f : Addr} {fd : FuncData} {k : Nat} (F : Fun K d.nm d.nm d.st f fd) (hd : OkN C kw ks d) (hW : ∀ (i : Int) (m : Me), cl kw [.int i] m = .ok (.bl true) m) (hS : ∀ (i j : Int) (m : Me), cl ks [.int i, .int j] m = .ok (.ref m.length) (m ++ [.lst ((sidesK (i, j)).map tupK)]))
    (hfn : ∀ (i : Nat) (nm : Str), C.fns[i]? = some nm -> ∃ f fd ps, mg nm = some (.ref f) /\ PySem.W.keepIn K (.ref f) = true /\ Binds K fd ps [] /\ FnOk P w K mg base CX0 k f fd ps (spOf K (cl i)))
    (hcon : ∀ (nm : Str) (i : Int), C.cons.lookup nm = some i -> ∃ t, mg nm = some (.int i t)) (hblt : ∀ nm ∈ bltNames, mg nm = none) :
    FnOk P w K mg base CX0 (k + 1) f fd d.ps (spOf K (runF cl d.fn)) := by
  obtain ⟨h1, h2, h3, h4⟩ := hd
  have Sc := scopeB_ok h1
  refine F.ok Sc (fun vs H Q' E h => ?_) (fun cdv A outer s H vs Q' E hr h => ?_)
  . obtain ⟨as, m, ws, S, R, q⟩ := h
    rw [<- R.length, arityN q, h2]
  . obtain ⟨as, m, ws, S, R, q⟩ := h
    have ha := arityN q
    have hC : CtxOk C (cxOf CX0 P w K mg base d.N d.nm (defScope d.st) f cdv A outer s H E).nox cl k := ⟨hr, rfl, hfn, hcon, hblt⟩
    have hX : StOk (cxOf CX0 P w K mg base d.N d.nm (defScope d.st) f cdv A outer s H E).nox := ⟨Sc.nd, fun _ => rfl, PassesOwn.never⟩
    refine ⟨_, soundN hC hX hW hS h4, as, begin0 d.fn ws, m, S, begin_rep R ha h3, ?_⟩
    unfold runF at q
    rw [if_pos ha] at q
    cases hr : exS cl d.fn.body (begin0 d.fn ws) m with
    | next e m1 => rw [hr] at q; exact fun as' H' σ' T S' G' => q as' H' .non T S' (rep_non.mpr rfl)
    | ret w m1 => rw [hr] at q; exact fun as' H' v T S' R' => q as' H' v T S' R'
    | brk e m1 => rw [hr] at q; exact q.elim
    | cont e m1 => rw [hr] at q; exact q.elim
    | exc c w e m1 => rw [hr] at q; exact q.elim
    | no => rw [hr] at q; exact q.elim
theorem tableN {D : List Dfn} {dw ds : Dfn} (hC : C.fns = D.map (·.nm)) (hD : ∀ d ∈ D, OkD C d \/ OkN C kw ks d) (hB : ∀ d ∈ D, Bnd d) (hK : ∀ d ∈ D, DefOk K mg d) (hw : D[kw]? = some dw) (hs : D[ks]? = some ds) (fw : ∀ (cl : Nat -> List Wd -> Me -> Rz) (i : Int) (m : Me), runF cl dw.fn [.int i] m = .ok (.bl true) m) (fs : ∀ (cl : Nat -> List Wd -> Me -> Rz) (i j : Int) (m : Me), runF cl ds.fn [.int i, .int j] m = .ok (.ref m.length) (m ++ [.lst ((sidesK (i, j)).map tupK)])) (f0 : ∀ d ∈ D, OkN C kw ks d -> ∀ ws m, runF (callN (D.map (·.fn)) 0) d.fn ws m = .no)
    (hcon : ∀ (nm : Str) (i : Int), C.cons.lookup nm = some i -> ∃ t, mg nm = some (.int i t)) (hblt : ∀ nm ∈ bltNames, mg nm = none) :
    ∀ (k : Nat) (i : Nat) (d : Dfn), D[i]? = some d -> ∀ f fd, Fun K d.nm d.nm d.st f fd -> FnOk P w K mg base CX0 k f fd d.ps (spOf K (callN (D.map (·.fn)) k i))
  | 0, i, d, hi, f, fd, F => by
    have no : ∀ {vs : List V} {H : Hp} {Q : VK} {E : XK}, ¬ spOf K (callN (D.map (·.fn)) 0 i) vs H Q E := fun {vs H Q E} h => by
      obtain ⟨as, m, ws, S, R, q⟩ := h
      exact q
    exact ⟨fun vs H Q E h => (no h).elim, fun A outer s H args us vs Q E _ _ _ _ h => (no h).elim⟩
  | k + 1, i, d, hi, f, fd, F => by
    have ih := tableN hC hD hB hK hw hs fw fs f0 hcon hblt k
    have e : spOf K (callN (D.map (·.fn)) (k + 1) i) = spOf K (runF (callN (D.map (·.fn)) k) d.fn) := by
      have : callN (D.map (·.fn)) (k + 1) i = runF (callN (D.map (·.fn)) k) d.fn := by
        funext ws m
        unfold callN
        rw [List.getElem?_map, hi]
        rfl
      rw [this]
    rw [e]
    have hfn : ∀ (j : Nat) (nm : Str), C.fns[j]? = some nm -> ∃ f fd ps, mg nm = some (.ref f) /\ PySem.W.keepIn K (.ref f) = true /\ Binds K fd ps [] /\ FnOk P w K mg base CX0 k f fd ps (spOf K (callN (D.map (·.fn)) k j)) := ?hfn
    . rcases hD d (List.mem_of_getElem? hi) with h | h
      . exact fn_sound F h hfn hcon hblt
      . cases k with
        | zero =>
          have no : ∀ {vs : List V} {H : Hp} {Q : VK} {E : XK}, ¬ spOf K (runF (callN (D.map (·.fn)) 0) d.fn) vs H Q E := fun {vs H Q E} z => by
            obtain ⟨as, m, ws, S, R, q⟩ := z
            rw [f0 d (List.mem_of_getElem? hi) h] at q
            exact q
          exact ⟨fun vs H Q E z => (no z).elim, fun A outer s H args us vs Q E _ _ _ _ z => (no z).elim⟩
        | succ k =>
          have at1 : ∀ {i : Nat} {d : Dfn}, D[i]? = some d -> callN (D.map (·.fn)) (k + 1) i = runF (callN (D.map (·.fn)) k) d.fn := fun {i d} hi => by
            funext ws m
            unfold callN
            rw [List.getElem?_map, hi]
            rfl
          exact fnN_sound F h (fun i m => by rw [at1 hw]; exact fw _ i m) (fun i j m => by rw [at1 hs]; exact fs _ i j m) hfn hcon hblt
    intro j nm hj
    rw [hC, List.getElem?_map] at hj
    cases hx : D[j]? with
    | none => rw [hx] at hj; cases hj
    | some d' =>
      rw [hx] at hj
      cases hj
      obtain ⟨f', fd', F', m'⟩ := hK d' (List.mem_of_getElem? hx)
      exact ⟨f', fd', d'.ps, m', F'.kp, F'.binds (hB d' (List.mem_of_getElem? hx)), ih j d' hx f' fd' F'⟩
end
theorem walkN {l : PySem.W.OpenLaw} {q : Program} {loose : List Str} {XP : (Str -> Option Value) -> Heap -> Prop} {YP : World -> Heap -> Prop} {d : DefRec} {Kp : Params -> PySem.W.Frag} {D : List Dfn} {C : Ctx} {k i kw ks : Nat} {dl dw ds : Dfn} {x : Str} {n : Nat}
    (hn : l.most = some n) (hn2 : n <= sizeLine) (hdf : d.params.defaults = []) (hr : Room k callerA) (hY : ∀ (w : World) (h : Heap), YP w h -> (Kp w.params).In h)
    (hC : C.fns = D.map (·.nm)) (hD : ∀ d ∈ D, OkD C d \/ OkN C kw ks d) (hB : ∀ d ∈ D, Bnd d) (hw : D[kw]? = some dw) (hs : D[ks]? = some ds) (fw : ∀ (cl : Nat -> List Wd -> Me -> Rz) (i : Int) (m : Me), runF cl dw.fn [.int i] m = .ok (.bl true) m) (fs : ∀ (cl : Nat -> List Wd -> Me -> Rz) (i j : Int) (m : Me), runF cl ds.fn [.int i, .int j] m = .ok (.ref m.length) (m ++ [.lst ((sidesK (i, j)).map tupK)])) (f0 : ∀ d ∈ D, OkN C kw ks d -> ∀ ws m, runF (callN (D.map (·.fn)) 0) d.fn ws m = .no) (hi : D[i]? = some dl) (hx : dl.ps = [x]) (hnm : d.name = dl.nm)
    (F : ∀ (w : World) (mg : Str -> Option Value) (fa : Addr) (h : Heap), (Kp w.params).In h -> h.Ns mainGlobals mg -> mg d.name = some (.ref fa) ->
      (∀ e ∈ D, DefOk (Kp w.params) mg e) /\ (∀ (nm : Str) (i : Int), C.cons.lookup nm = some i -> ∃ t, mg nm = some (.int i t)) /\ ∀ nm ∈ bltNames, mg nm = none)
    (hpure : ∀ ns : List Int, ns.length <= n -> ∃ m, callN (D.map (·.fn)) k i [.rol (ns.map Wd.int)] [] = .ok (.bl true) m) :
    PySem.W.WalkO q loose XP YP l.row.toRowW d [] (fun f vs => PySem.call f vs) := by
  refine L2.walk_of (n := n) (k := k) (x := x) (CX := fun _ => CX0) (sp := fun w => spOf (Kp w.params) (callN (D.map (·.fn)) k i)) hn hn2 hdf hr hY ?_ (fun w H a ns hl hO hS => law_pure hO hS (hpure ns hl)) fun _ _ _ _ _ z => z
  intro w mg fa h KX G hmg
  obtain ⟨h1, h2, h3⟩ := F w mg fa h KX G hmg
  obtain ⟨f, fd, Ff, hm⟩ := h1 dl (List.mem_of_getElem? hi)
  rw [hnm, hm] at hmg
  cases hmg
  refine ⟨fd, fun s u => ?_, fun base kb nb => ?_⟩
  . obtain ⟨oc, od, kV, doc, pm, an, cdv, ct, osl, rfl, lk, hcd⟩ := Ff.ex
    have q := hB dl (List.mem_of_getElem? hi) kV doc pm an cdv ct [u] (by rw [hx]; rfl)
    rw [hx] at q
    exact .of_eq q
  . rw [<- hx]
    exact tableN hC hD hB h1 hw hs fw fs f0 h2 h3 k i dl hi fa fd Ff
end Mini
namespace Mini
open PySem PySem.Spec PyProof.Rows
theorem walkZ {q : Program} {loose : List Str} {XP : (Str -> Option Value) -> Heap -> Prop} {r : PySem.W.RowW} {d : DefRec} {kwd : List (Str × Expr)} {run : Value -> List Value -> Sem Value} {K : Params -> PySem.W.Frag} {as : List Addr} {n t : Nat} (e : ∀ P, as = (K P).map (·.1))
    (h : PySem.W.WalkO q loose XP (fun w h => (K w.params).In h) r d kwd run) : PySem.W.WalkX q loose XP (PySem.W.X.obsZ as) (PySem.W.X.valZ K n t) r d kwd run :=
  fun w s₀ s₁ mg mb G y a o pm cd doc dV kV h1 h2 h3 h4 h5 h6 args vals as' L p1 p2 p3 p4 p5 => h w s₀ s₁ mg mb G (PySem.W.InK.keeps (K := K) w _ _ (PySem.W.X.z_facts e y).2.1 L.keeps) a o pm cd doc dV kV h1 h2 h3 h4 h5 h6 args vals as' p1 p2 p3 p4 p5
end Mini
namespace R02
open PySem L2 Mini
def top (i : Nat) : Stmt := PySem.Challenge.pw_loopgyre_k02_small_squares.main.body.getD i (.Pass ⟨0, 0, 0, 0⟩)
def f0 : Fn := ⟨1, 1, (.ret (.and (.isi .int (.var 0)) (.not (.isi .bool (.var 0)))))⟩
abbrev d0 : Dfn := ⟨"is_whole", top 5, ["thing"], ["thing"], f0⟩
def f1 : Fn := ⟨2, 2, (.ret (.and (.call 0 (.pair (.var 0) .unit)) (.chain .le .le (.lit (.int 1)) (.var 0) (.var 1))))⟩
abbrev d1 : Dfn := ⟨"is_size_to", top 6, ["thing", "most"], ["thing", "most"], f1⟩
def f2 : Fn := ⟨2, 2, (.ite (.not (.call 1 (.pair (.var 0) (.pair (.var 1) .unit)))) .never .skip)⟩
abbrev d2 : Dfn := ⟨"need_size_to", top 7, ["n", "most"], ["n", "most"], f2⟩
def f3 : Fn := ⟨1, 1, (.expr (.call 2 (.pair (.var 0) (.pair (.lit (.int 12)) .unit))))⟩
abbrev d3 : Dfn := ⟨"need_size", top 8, ["n"], ["n"], f3⟩
def f4 : Fn := ⟨2, 2, (.ret (.ife (.cmp .eq (.bin .mod (.bin .add (.var 0) (.var 1)) (.lit (.int 2))) (.lit (.int 0))) (.lit (.str [108, 105, 103, 104, 116])) (.lit (.str [100, 97, 114, 107]))))⟩
abbrev d4 : Dfn := ⟨"shade_of", top 10, ["i", "j"], ["i", "j"], f4⟩
def f5 : Fn := ⟨2, 5, (.seq (.asg 2 (.lst .unit)) (.seq (.forv 3 (.rng (.lit (.int 1)) (.var 0) (.lit (.int 1))) (.forv 4 (.rng (.lit (.int 1)) (.var 0) (.lit (.int 1))) (.ite (.cmp .eq (.call 4 (.pair (.var 3) (.pair (.var 4) .unit))) (.var 1)) (.expr (.meth .append (.var 2) (.pair (.tup (.pair (.var 3) (.pair (.var 4) .unit))) .unit))) .skip))) (.ret (.var 2))))⟩
abbrev d5 : Dfn := ⟨"squares_within", top 11, ["n", "shade", "points", "i", "j"], ["n", "shade"], f5⟩
def f6 : Fn := ⟨2, 2, (.seq (.expr (.call 3 (.pair (.var 0) .unit))) (.ret (.call 5 (.pair (.var 0) (.pair (.var 1) .unit)))))⟩
abbrev d6 : Dfn := ⟨"squares", top 12, ["n", "shade"], ["n", "shade"], f6⟩
def f7 : Fn := ⟨2, 2, (.seq (.ite (.cmp .lt (.var 1) (.blt .len (.pair (.var 0) .unit))) (.ret (.idx (.var 0) (.var 1))) .skip) (.ret (.bin .add (.bin .mul (.lit (.int 2)) (.var 1)) (.lit (.int 1)))))⟩
abbrev d7 : Dfn := ⟨"_law_cell_at", top 14, ["_law_script", "_law_k"], ["_law_script", "_law_k"], f7⟩
def f8 : Fn := ⟨1, 1, (.ret (.and (.isi .int (.var 0)) (.not (.isi .bool (.var 0)))))⟩
abbrev d8 : Dfn := ⟨"_law_whole", top 17, ["_law_told"], ["_law_told"], f8⟩
def f9 : Fn := ⟨2, 6, (.seq (.asg 2 (.tup (.pair (.tup (.pair (.bin .sub (.var 0) (.lit (.int 1))) (.pair (.bin .sub (.var 1) (.lit (.int 1))) .unit))) (.pair (.tup (.pair (.bin .sub (.var 0) (.lit (.int 1))) (.pair (.var 1) .unit))) .unit)))) (.seq (.asg 3 (.tup (.pair (.tup (.pair (.bin .sub (.var 0) (.lit (.int 1))) (.pair (.var 1) .unit))) (.pair (.tup (.pair (.var 0) (.pair (.var 1) .unit))) .unit)))) (.seq (.asg 4 (.tup (.pair (.tup (.pair (.var 0) (.pair (.bin .sub (.var 1) (.lit (.int 1))) .unit))) (.pair (.tup (.pair (.var 0) (.pair (.var 1) .unit))) .unit)))) (.seq (.asg 5 (.tup (.pair (.tup (.pair (.bin .sub (.var 0) (.lit (.int 1))) (.pair (.bin .sub (.var 1) (.lit (.int 1))) .unit))) (.pair (.tup (.pair (.var 0) (.pair (.bin .sub (.var 1) (.lit (.int 1))) .unit))) .unit)))) (.ret (.lst (.pair (.var 2) (.pair (.var 3) (.pair (.var 4) (.pair (.var 5) .unit))))))))))⟩
abbrev d9 : Dfn := ⟨"_law_sides_round", top 18, ["_law_i", "_law_j", "_law_up", "_law_right", "_law_down", "_law_left"], ["_law_i", "_law_j"], f9⟩
def f10 : Fn := ⟨1, 10, (.seq (.asg 1 (.bin .add (.lit (.int 1)) (.bin .mod (.call 7 (.pair (.var 0) (.pair (.lit (.int 0)) .unit))) (.lit (.int 12))))) (.seq (.forv 2 (.rng (.lit (.int 0)) (.lit (.int 2)) (.lit (.int 1))) (.forv 3 (.tup (.pair (.lit (.str [108, 105, 103, 104, 116])) (.pair (.lit (.str [100, 97, 114, 107])) .unit))) (.seq (.asg 4 (.call 6 (.pair (.var 1) (.pair (.var 3) .unit)))) (.seq (.asg 5 (.lst .unit)) (.seq (.forv 6 (.rng (.lit (.int 1)) (.var 1) (.lit (.int 1))) (.expr (.meth .extend (.var 5) (.pair (.comp (.tup (.pair (.var 6) (.pair (.var 10) .unit))) (.rng (.lit (.int 1)) (.var 1) (.lit (.int 1))) (.cmp .eq (.bin .mod (.bin .add (.var 6) (.var 10)) (.lit (.int 2))) (.blt .int (.pair (.cmp .eq (.var 3) (.lit (.str [100, 97, 114, 107]))) .unit)))) .unit)))) (.seq (.ite (.or (.not (.isi .list (.var 4))) (.cmp .ne (.var 4) (.var 5))) (.ret (.lit (.bl false))) .skip) (.seq (.chk 4 1 7 8 9) (.expr (.meth .append (.var 4) (.pair (.tup (.pair (.lit (.int 0)) (.pair (.lit (.int 0)) .unit))) .unit)))))))))) (.ret (.lit (.bl true)))))⟩
abbrev d10 : Dfn := ⟨"law", top 19, ["_law_script", "_law_n", "_law_turn", "_law_shade", "_law_told", "_law_due", "_law_i", "_law_known", "_law_point", "_law_side"], ["_law_script"], f10⟩
def D : List Dfn := [d0, d1, d2, d3, d4, d5, d6, d7, d8, d9, d10]
def C : Mini.Ctx := ⟨["is_whole", "is_size_to", "need_size_to", "need_size", "shade_of", "squares_within", "squares", "_law_cell_at", "_law_whole", "_law_sides_round", "law"], [("GREATEST_SIZE", 12)]⟩
theorem ok0 : OkD C d0 := ⟨by decide +kernel, rfl, rfl, (.one (.ret rfl (.and2 rfl rfl (.isi (by kernel_rfl) (by kernel_rfl) rfl rfl .v) rfl rfl (.not rfl rfl (.isi (by kernel_rfl) (by kernel_rfl) rfl rfl .v)))))⟩
theorem ok1 : OkD C d1 := ⟨by decide +kernel, rfl, rfl, (.one (.ret rfl (.and2 rfl rfl (.call rfl (by kernel_rfl) (by kernel_rfl) rfl (.pair rfl rfl .v .unit)) rfl rfl (.chain rfl rfl .int rfl .v rfl .v))))⟩
theorem ok2 : OkD C d2 := ⟨by decide +kernel, rfl, rfl, (.one (.ite rfl rfl (.not rfl rfl (.call rfl (by kernel_rfl) (by kernel_rfl) rfl (.pair rfl rfl .v (.pair rfl rfl .v .unit)))) (.one .never) .skip0))⟩
theorem ok3 : OkD C d3 := ⟨by decide +kernel, rfl, rfl, (.one (.expr rfl rfl (.call rfl (by kernel_rfl) (by kernel_rfl) rfl (.pair rfl rfl .v (.pair rfl rfl (.con (by kernel_rfl) (by kernel_rfl) (by kernel_rfl)) .unit)))))⟩
theorem ok4 : OkD C d4 := ⟨by decide +kernel, rfl, rfl, (.one (.ret rfl (.ife rfl rfl (.cmp rfl rfl (.bin rfl (.bin rfl .v rfl .v) rfl .int) rfl .int) rfl (.str (by kernel_rfl)) rfl (.str (by kernel_rfl)))))⟩
theorem ok5 : OkD C d5 := ⟨by decide +kernel, rfl, rfl, (.seq (.asg rfl rfl (by kernel_rfl) rfl (.lst .unit)) (.seq (.forv rfl (by kernel_rfl) rfl (.rng2 (by kernel_rfl) rfl rfl rfl .int rfl .v) (.one (.forv rfl (by kernel_rfl) rfl (.rng2 (by kernel_rfl) rfl rfl rfl .int rfl .v) (.one (.ite rfl rfl (.cmp rfl rfl (.call rfl (by kernel_rfl) (by kernel_rfl) rfl (.pair rfl rfl .v (.pair rfl rfl .v .unit))) rfl .v) (.one (.expr rfl rfl (.meth rfl rfl (by decide) rfl rfl .v (.pair rfl rfl (.tup (.pair rfl rfl .v (.pair rfl rfl .v .unit))) .unit)))) .skip0))))) (.one (.ret rfl .v))))⟩
theorem ok6 : OkD C d6 := ⟨by decide +kernel, rfl, rfl, (.seq (.expr rfl rfl (.call rfl (by kernel_rfl) (by kernel_rfl) rfl (.pair rfl rfl .v .unit))) (.one (.ret rfl (.call rfl (by kernel_rfl) (by kernel_rfl) rfl (.pair rfl rfl .v (.pair rfl rfl .v .unit))))))⟩
theorem ok7 : OkD C d7 := ⟨by decide +kernel, rfl, rfl, (.seq (.ite rfl rfl (.cmp rfl rfl .v rfl (.blt rfl (by kernel_rfl) (by kernel_rfl) rfl (.pair rfl rfl .v .unit))) (.one (.ret rfl (.idx rfl rfl .v rfl .v))) .skip0) (.one (.ret rfl (.bin rfl (.bin rfl .int rfl .v) rfl .int))))⟩
theorem ok8 : OkD C d8 := ⟨by decide +kernel, rfl, rfl, (.one (.ret rfl (.and2 rfl rfl (.isi (by kernel_rfl) (by kernel_rfl) rfl rfl .v) rfl rfl (.not rfl rfl (.isi (by kernel_rfl) (by kernel_rfl) rfl rfl .v)))))⟩
theorem ok9 : OkD C d9 := ⟨by decide +kernel, rfl, rfl, (.seq (.asg rfl rfl (by kernel_rfl) rfl (.tup (.pair rfl rfl (.tup (.pair rfl rfl (.bin rfl .v rfl .int) (.pair rfl rfl (.bin rfl .v rfl .int) .unit))) (.pair rfl rfl (.tup (.pair rfl rfl (.bin rfl .v rfl .int) (.pair rfl rfl .v .unit))) .unit)))) (.seq (.asg rfl rfl (by kernel_rfl) rfl (.tup (.pair rfl rfl (.tup (.pair rfl rfl (.bin rfl .v rfl .int) (.pair rfl rfl .v .unit))) (.pair rfl rfl (.tup (.pair rfl rfl .v (.pair rfl rfl .v .unit))) .unit)))) (.seq (.asg rfl rfl (by kernel_rfl) rfl (.tup (.pair rfl rfl (.tup (.pair rfl rfl .v (.pair rfl rfl (.bin rfl .v rfl .int) .unit))) (.pair rfl rfl (.tup (.pair rfl rfl .v (.pair rfl rfl .v .unit))) .unit)))) (.seq (.asg rfl rfl (by kernel_rfl) rfl (.tup (.pair rfl rfl (.tup (.pair rfl rfl (.bin rfl .v rfl .int) (.pair rfl rfl (.bin rfl .v rfl .int) .unit))) (.pair rfl rfl (.tup (.pair rfl rfl .v (.pair rfl rfl (.bin rfl .v rfl .int) .unit))) .unit)))) (.one (.ret rfl (.lst (.pair rfl rfl .v (.pair rfl rfl .v (.pair rfl rfl .v (.pair rfl rfl .v .unit)))))))))))⟩
theorem ok10 : OkN C 8 9 d10 := ⟨by decide +kernel, rfl, rfl, IsN.seq (.asg rfl rfl (by kernel_rfl) rfl (.bin rfl .int rfl (.bin rfl (.call rfl (by kernel_rfl) (by kernel_rfl) rfl (.pair rfl rfl .v (.pair rfl rfl .int .unit))) rfl .int))) (IsN.forv rfl (by kernel_rfl) rfl (.rng1 (by kernel_rfl) rfl rfl .int) (IsN.forv1 rfl (by kernel_rfl) rfl (.tup (.pair rfl rfl (.str (by kernel_rfl)) (.pair rfl rfl (.str (by kernel_rfl)) .unit))) (IsN.seq (.asg rfl rfl (by kernel_rfl) rfl (.call rfl (by kernel_rfl) (by kernel_rfl) rfl (.pair rfl rfl .v (.pair rfl rfl .v .unit)))) (IsN.seq (.asg rfl rfl (by kernel_rfl) rfl (.lst .unit)) (IsN.seq (.forv rfl (by kernel_rfl) rfl (.rng2 (by kernel_rfl) rfl rfl rfl .int rfl .v) (.one (.expr rfl rfl (.meth rfl rfl (by decide) rfl rfl .v (.pair rfl rfl (.comp1 rfl (by kernel_rfl) (.rng2 (by kernel_rfl) rfl rfl rfl .int rfl .v) rfl rfl (.cmp rfl rfl (.bin rfl (.bin rfl .v rfl .v) rfl .int) rfl (.blt rfl (by kernel_rfl) (by kernel_rfl) rfl (.pair rfl rfl (.cmp rfl rfl .v rfl (.str (by kernel_rfl))) .unit))) rfl (.tup (.pair rfl rfl .v (.pair rfl rfl .v .unit)))) .unit))))) (IsN.seq (.ite rfl rfl (.or2 rfl rfl (.not rfl rfl (.isi (by kernel_rfl) (by kernel_rfl) rfl rfl .v)) rfl rfl (.cmp rfl rfl .v rfl .v)) (.one (.ret rfl .bl)) .skip0) (IsN.blk (IsBlk.mk rfl (by kernel_rfl) (by kernel_rfl) rfl (by kernel_rfl) rfl (by kernel_rfl) (by kernel_rfl) rfl (by kernel_rfl) (by kernel_rfl) rfl (by kernel_rfl) (by kernel_rfl) (by kernel_rfl) (by kernel_rfl) rfl rfl (.orN rfl rfl (.not rfl rfl (.isi (by kernel_rfl) (by kernel_rfl) rfl rfl .v)) rfl (.or2 rfl rfl (.not rfl rfl (.call rfl (by kernel_rfl) (by kernel_rfl) rfl (.pair rfl rfl (.idx rfl rfl .v rfl .int) .unit))) rfl rfl (.not rfl rfl (.call rfl (by kernel_rfl) (by kernel_rfl) rfl (.pair rfl rfl (.idx rfl rfl .v rfl .int) .unit))))) rfl (.call rfl (by kernel_rfl) (by kernel_rfl) rfl (.pair rfl rfl (.idx rfl rfl .v rfl .int) (.pair rfl rfl (.idx rfl rfl .v rfl .int) .unit))) rfl (by kernel_rfl)) (.one (.expr rfl rfl (.meth rfl rfl (by decide) rfl rfl .v (.pair rfl rfl (.tup (.pair rfl rfl .int (.pair rfl rfl .int .unit))) .unit)))))))))) (.one (.ret rfl .bl)))⟩
theorem okAll : ∀ d ∈ D, OkD C d \/ OkN C 8 9 d := by
  intro d hd
  unfold D at hd
  rcases List.mem_cons.mp hd with rfl | hd
  . exact .inl ok0
  rcases List.mem_cons.mp hd with rfl | hd
  . exact .inl ok1
  rcases List.mem_cons.mp hd with rfl | hd
  . exact .inl ok2
  rcases List.mem_cons.mp hd with rfl | hd
  . exact .inl ok3
  rcases List.mem_cons.mp hd with rfl | hd
  . exact .inl ok4
  rcases List.mem_cons.mp hd with rfl | hd
  . exact .inl ok5
  rcases List.mem_cons.mp hd with rfl | hd
  . exact .inl ok6
  rcases List.mem_cons.mp hd with rfl | hd
  . exact .inl ok7
  rcases List.mem_cons.mp hd with rfl | hd
  . exact .inl ok8
  rcases List.mem_cons.mp hd with rfl | hd
  . exact .inl ok9
  rcases List.mem_cons.mp hd with rfl | hd
  . exact .inr ok10
  . cases hd
theorem b0 : Bnd d0 := fun _ _ _ _ _ _ => us1 (fun _ => rfl)
theorem b1 : Bnd d1 := fun _ _ _ _ _ _ => us2 (fun _ _ => rfl)
theorem b2 : Bnd d2 := fun _ _ _ _ _ _ => us2 (fun _ _ => rfl)
theorem b3 : Bnd d3 := fun _ _ _ _ _ _ => us1 (fun _ => rfl)
theorem b4 : Bnd d4 := fun _ _ _ _ _ _ => us2 (fun _ _ => rfl)
theorem b5 : Bnd d5 := fun _ _ _ _ _ _ => us2 (fun _ _ => rfl)
theorem b6 : Bnd d6 := fun _ _ _ _ _ _ => us2 (fun _ _ => rfl)
theorem b7 : Bnd d7 := fun _ _ _ _ _ _ => us2 (fun _ _ => rfl)
theorem b8 : Bnd d8 := fun _ _ _ _ _ _ => us1 (fun _ => rfl)
theorem b9 : Bnd d9 := fun _ _ _ _ _ _ => us2 (fun _ _ => rfl)
theorem b10 : Bnd d10 := fun _ _ _ _ _ _ => us1 (fun _ => rfl)
theorem bnd : ∀ d ∈ D, Bnd d := by
  intro d hd
  unfold D at hd
  rcases List.mem_cons.mp hd with rfl | hd
  . exact b0
  rcases List.mem_cons.mp hd with rfl | hd
  . exact b1
  rcases List.mem_cons.mp hd with rfl | hd
  . exact b2
  rcases List.mem_cons.mp hd with rfl | hd
  . exact b3
  rcases List.mem_cons.mp hd with rfl | hd
  . exact b4
  rcases List.mem_cons.mp hd with rfl | hd
  . exact b5
  rcases List.mem_cons.mp hd with rfl | hd
  . exact b6
  rcases List.mem_cons.mp hd with rfl | hd
  . exact b7
  rcases List.mem_cons.mp hd with rfl | hd
  . exact b8
  rcases List.mem_cons.mp hd with rfl | hd
  . exact b9
  rcases List.mem_cons.mp hd with rfl | hd
  . exact b10
  . cases hd
theorem fw (cl : Nat -> List Wd -> Me -> Rz) (i : Int) (m : Me) : runF cl d8.fn [.int i] m = .ok (.bl true) m := rfl
theorem fs (cl : Nat -> List Wd -> Me -> Rz) (i j : Int) (m : Me) : runF cl d9.fn [.int i, .int j] m = .ok (.ref m.length) (m ++ [.lst ((sidesK (i, j)).map tupK)]) := rfl
theorem no0 : ¬ OkN C 8 9 d0 := fun h => has_chk h.body rfl
theorem no1 : ¬ OkN C 8 9 d1 := fun h => has_chk h.body rfl
theorem no2 : ¬ OkN C 8 9 d2 := fun h => has_chk h.body rfl
theorem no3 : ¬ OkN C 8 9 d3 := fun h => has_chk h.body rfl
theorem no4 : ¬ OkN C 8 9 d4 := fun h => has_chk h.body rfl
theorem no5 : ¬ OkN C 8 9 d5 := fun h => has_chk h.body rfl
theorem no6 : ¬ OkN C 8 9 d6 := fun h => has_chk h.body rfl
theorem no7 : ¬ OkN C 8 9 d7 := fun h => has_chk h.body rfl
theorem no8 : ¬ OkN C 8 9 d8 := fun h => has_chk h.body rfl
theorem no9 : ¬ OkN C 8 9 d9 := fun h => has_chk h.body rfl
theorem fz : ∀ d ∈ D, OkN C 8 9 d -> ∀ ws m, runF (callN (D.map (·.fn)) 0) d.fn ws m = .no := by
  intro d hd hN ws m
  unfold D at hd
  rcases List.mem_cons.mp hd with rfl | hd
  . exact (no0 hN).elim
  rcases List.mem_cons.mp hd with rfl | hd
  . exact (no1 hN).elim
  rcases List.mem_cons.mp hd with rfl | hd
  . exact (no2 hN).elim
  rcases List.mem_cons.mp hd with rfl | hd
  . exact (no3 hN).elim
  rcases List.mem_cons.mp hd with rfl | hd
  . exact (no4 hN).elim
  rcases List.mem_cons.mp hd with rfl | hd
  . exact (no5 hN).elim
  rcases List.mem_cons.mp hd with rfl | hd
  . exact (no6 hN).elim
  rcases List.mem_cons.mp hd with rfl | hd
  . exact (no7 hN).elim
  rcases List.mem_cons.mp hd with rfl | hd
  . exact (no8 hN).elim
  rcases List.mem_cons.mp hd with rfl | hd
  . exact (no9 hN).elim
  rcases List.mem_cons.mp hd with rfl | hd
  . unfold runF
    split
    . next h =>
      match ws, h with
      | [x], _ => rfl
    . rfl
  . cases hd
theorem zk {K : PySem.W.Frag} (z0 : PySem.W.nsIn K mainGlobals "len" = some none) (z1 : PySem.W.nsIn K mainGlobals "int" = some none) (z2 : PySem.W.nsIn K mainGlobals "bool" = some none) (z3 : PySem.W.nsIn K mainGlobals "list" = some none) (z4 : PySem.W.nsIn K mainGlobals "tuple" = some none) (z5 : PySem.W.nsIn K mainGlobals "abs" = some none) (z6 : PySem.W.nsIn K mainGlobals "max" = some none) (z7 : PySem.W.nsIn K mainGlobals "min" = some none) (z8 : PySem.W.nsIn K mainGlobals "isinstance" = some none) (z9 : PySem.W.nsIn K mainGlobals "range" = some none) (z10 : PySem.W.nsIn K mainGlobals "str" = some none) (z11 : PySem.W.nsIn K mainGlobals "dict" = some none) (z12 : PySem.W.nsIn K mainGlobals "sum" = some none) (z13 : PySem.W.nsIn K mainGlobals "all" = some none) (z14 : PySem.W.nsIn K mainGlobals "zip" = some none) (z15 : PySem.W.nsIn K mainGlobals "enumerate" = some none) : ∀ nm ∈ bltNames, PySem.W.nsIn K mainGlobals nm = some none := by
  unfold bltNames
  simp only [List.forall_mem_cons]
  exact ⟨z0, z1, z2, z3, z4, z5, z6, z7, z8, z9, z10, z11, z12, z13, z14, z15, fun _ q => (List.not_mem_nil q).elim⟩
theorem dk {K : PySem.W.Frag} {h : Heap} {mg : Str -> Option Value} (X : K.In h) (G : h.Ns mainGlobals mg) {d : Dfn} {a : Addr} {od an : Option Addr} {sl : Array (Option Value)} {oc kV dc pm cd ct : Value} (g : PySem.W.nsIn K mainGlobals d.nm = some (some (.ref a)))
    (l : K.lookup a = some ⟨oc, od, .func (PySem.W.fnOf d.nm d.nm (defArgs d.st) (defBody d.st) (defScope d.st) .none kV dc pm an cd ct), sl⟩) (c : PySem.W.codeIn K cd d.nm = true) (k : PySem.W.keepIn K (.ref a) = true) : DefOk K mg d := ⟨a, _, fun_mk l c k, PySem.W.mg_of X G g⟩
theorem mk {K : PySem.W.Frag} {h : Heap} {mg : Str -> Option Value} (X : K.In h) (G : h.Ns mainGlobals mg) {t0 : Tok}
    (h0 : DefOk K mg d0) (h1 : DefOk K mg d1) (h2 : DefOk K mg d2) (h3 : DefOk K mg d3) (h4 : DefOk K mg d4) (h5 : DefOk K mg d5) (h6 : DefOk K mg d6) (h7 : DefOk K mg d7) (h8 : DefOk K mg d8) (h9 : DefOk K mg d9) (h10 : DefOk K mg d10)
    (e0 : PySem.W.nsIn K mainGlobals "GREATEST_SIZE" = some (some (.int 12 t0)))
    (z : ∀ nm ∈ bltNames, PySem.W.nsIn K mainGlobals nm = some none)
    : (∀ e ∈ D, DefOk K mg e) /\ (∀ (nm : Str) (i : Int), C.cons.lookup nm = some i -> ∃ t, mg nm = some (.int i t)) /\ ∀ nm ∈ bltNames, mg nm = none := by
  refine ⟨fun d hd => ?_, fun nm i hi => ?_, fun nm hn => PySem.W.mg_none_of X G (z nm hn)⟩
  . unfold D at hd
    rcases List.mem_cons.mp hd with rfl | hd
    . exact h0
    rcases List.mem_cons.mp hd with rfl | hd
    . exact h1
    rcases List.mem_cons.mp hd with rfl | hd
    . exact h2
    rcases List.mem_cons.mp hd with rfl | hd
    . exact h3
    rcases List.mem_cons.mp hd with rfl | hd
    . exact h4
    rcases List.mem_cons.mp hd with rfl | hd
    . exact h5
    rcases List.mem_cons.mp hd with rfl | hd
    . exact h6
    rcases List.mem_cons.mp hd with rfl | hd
    . exact h7
    rcases List.mem_cons.mp hd with rfl | hd
    . exact h8
    rcases List.mem_cons.mp hd with rfl | hd
    . exact h9
    rcases List.mem_cons.mp hd with rfl | hd
    . exact h10
    . cases hd
  . unfold C at hi
    rw [List.lookup_cons] at hi
    cases q0 : nm == ("GREATEST_SIZE" : Str) with
    | true =>
      rw [q0] at hi; cases hi
      rw [beq_iff_eq.mp q0]
      exact ⟨t0, PySem.W.mg_of X G e0⟩
    | false =>
    rw [q0] at hi
    cases hi
end R02
namespace Mini
namespace Vl
inductive Dat where
  | non | bl (b : Bool) | int (i : Int) | str (s : List Nat) | tup (xs : List Dat) | lst (xs : List Dat) | scr (ns : List Int)
deriving Inhabited
inductive Lv where | no | top | full
deriving DecidableEq, Inhabited
abbrev DEn := List (Option Dat)
inductive Rd where | ok (d : Dat) | exc (c : Nat) (d : Dat) | no
deriving Inhabited
def Rd.bind (r : Rd) (f : Dat -> Rd) : Rd := match r with
  | .ok d => f d
  | .exc c d => .exc c d
  | .no => .no
mutual
def flat : Dat -> Bool
  | .lst _ => false
  | .tup xs => flatL xs
  | .non => true
  | .bl _ => true
  | .int _ => true
  | .str _ => true
  | .scr _ => true
def flatL : List Dat -> Bool
  | [] => true
  | d :: ds => flat d && flatL ds
end
mutual
def eqOk : Nat -> Dat -> Bool
  | 0, _ => false
  | _ + 1, .scr _ => false
  | k + 1, .tup xs => eqOkL k xs
  | k + 1, .lst xs => eqOkL k xs
  | _ + 1, .non => true
  | _ + 1, .bl _ => true
  | _ + 1, .int _ => true
  | _ + 1, .str _ => true
def eqOkL : Nat -> List Dat -> Bool
  | _, [] => true
  | k, d :: ds => eqOk k d && eqOkL k ds
end
mutual
def deq : Dat -> Dat -> Bool
  | .tup a, .tup b => deqL a b
  | .lst a, .lst b => deqL a b
  | .non, .non => true
  | .bl a, .bl b => a == b
  | .int a, .int b => decide (a = b)
  | .bl a, .int b => decide (b2i a = b)
  | .int a, .bl b => decide (a = b2i b)
  | .str a, .str b => decide (a = b)
  | _, _ => false
def deqL : List Dat -> List Dat -> Bool
  | [], [] => true
  | x :: xs, y :: ys => deq x y && deqL xs ys
  | _, _ => false
end
def seqD : Dat -> Option (List Dat)
  | .tup xs => some xs
  | .lst xs => some xs
  | .scr ns => some (ns.map .int)
  | _ => none
def lsD : Dat -> Option (List Dat)
  | .lst xs => some xs
  | .scr ns => some (ns.map .int)
  | _ => none
def newD (xs : List Dat) : Rd := if xs.length <= lim then .ok (.lst xs) else .no
def bopD (op : Bo) (x y : Dat) : Rd := match x, y with
  | .int i, .int j => match op with
    | .add => .ok (.int (i + j))
    | .sub => .ok (.int (i - j))
    | .mul => if small i || small j then .ok (.int (i * j)) else .no
    | .fdiv => if 0 < j /\ j < 1073741824 then .ok (.int (i / j)) else .no
    | .mod => if 0 < j then .ok (.int (i % j)) else .no
    | .pow => if 0 <= j /\ j <= 1000000 /\ small i = true then .ok (.int (i ^ j.toNat)) else .no
  | .lst xs, .lst ys => match op with
    | .add => newD (xs ++ ys)
    | _ => .no
  | .lst xs, .int k => match op with
    | .mul => if -lim <= k /\ k <= lim then newD (List.replicate k.toNat xs).flatten else .no
    | _ => .no
  | .tup xs, .tup ys => match op with
    | .add => if xs.length + ys.length <= lim /\ xs.isEmpty = false then .ok (.tup (xs ++ ys)) else .no
    | _ => .no
  | _, _ => .no
def eqD (x y : Dat) : Option Bool := if eqOk deep x && eqOk deep y then some (deq x y) else none
def inD (x : Dat) (ys : List Dat) : Option Bool := if eqOk deep x && eqOkL deep ys then some (ys.any fun y => deq y x) else none
def ofBD : Option Bool -> Rd
  | some b => .ok (.bl b)
  | none => .no
def cmpD (r : Int -> Int -> Bool) (x y : Dat) : Rd := match x, y with
  | .int i, .int j => .ok (.bl (r i j))
  | _, _ => .no
def copD (op : Co) (x y : Dat) : Rd := match op with
  | .eq => ofBD (eqD x y)
  | .ne => ofBD ((eqD x y).map (!·))
  | .isN => match y, x with
    | .non, .non => .ok (.bl true)
    | .non, _ => .ok (.bl false)
    | _, _ => .no
  | .notN => match y, x with
    | .non, .non => .ok (.bl false)
    | .non, _ => .ok (.bl true)
    | _, _ => .no
  | .isin => match seqD y with
    | some ys => ofBD (inD x ys)
    | none => .no
  | .notin => match seqD y with
    | some ys => ofBD ((inD x ys).map (!·))
    | none => .no
  | .lt => cmpD (fun i j => decide (i < j)) x y
  | .le => cmpD (fun i j => decide (i <= j)) x y
  | .gt => cmpD (fun i j => decide (j < i)) x y
  | .ge => cmpD (fun i j => decide (j <= i)) x y
def isD (t : Tg) (x : Dat) : Bool := match t with
  | .int => match x with
    | .int _ => true
    | .bl _ => true
    | _ => false
  | .bool => match x with
    | .bl _ => true
    | _ => false
  | .str => match x with
    | .str _ => true
    | _ => false
  | .tuple => match x with
    | .tup _ => true
    | _ => false
  | .list => match x with
    | .scr _ => true
    | .lst _ => true
    | _ => false
  | .dict => false
def sumD : List Dat -> Option Int
  | [] => some 0
  | .int i :: r => (sumD r).map (i + ·)
  | _ => none
def allD : List Dat -> Option Bool
  | [] => some true
  | .bl b :: r => (allD r).map (b && ·)
  | _ => none
def bltD (b : Blf) (ws : List Dat) : Rd := match b with
  | .len => match ws with
    | [x] => match seqD x with
      | some xs => .ok (.int xs.length)
      | none => .no
    | _ => .no
  | .int => match ws with
    | [.int i] => .ok (.int i)
    | [.bl b] => .ok (.int (b2i b))
    | _ => .no
  | .list => match ws with
    | [x] => match seqD x with
      | some xs => newD xs
      | none => .no
    | _ => .no
  | .tuple => match ws with
    | [x] => match seqD x with
      | some xs => .ok (.tup xs)
      | none => .no
    | _ => .no
  | .sum => match ws with
    | [x] => match (lsD x).bind sumD with
      | some i => .ok (.int i)
      | none => .no
    | _ => .no
  | .all => match ws with
    | [x] => match (lsD x).bind allD with
      | some i => .ok (.bl i)
      | none => .no
    | _ => .no
  | .abs => match ws with
    | [.int i] => .ok (.int (if i < 0 then -i else i))
    | _ => .no
  | .max2 => match ws with
    | [.int i, .int j] => .ok (.int (if j > i then j else i))
    | _ => .no
  | .min2 => match ws with
    | [.int i, .int j] => .ok (.int (if j < i then j else i))
    | _ => .no
  | _ => .no
def idxD (x y : Dat) : Rd := match y with
  | .int i => match seqD x with
    | some xs => match (ix xs.length i).bind fun j => xs[j]? with
      | some v => .ok v
      | none => .no
    | none => .no
  | _ => .no
def slD (x : Dat) (lo hi : Option Int) : Rd := match lsD x with
  | some xs => newD ((xs.drop (sIx xs.length 0 lo)).take (sIx xs.length xs.length hi - sIx xs.length 0 lo))
  | none => .no
def rngF (lo st : Int) (n : Nat) : List Dat := (List.range n).map fun (i : Nat) => .int (lo + st * (i : Int))
def rngD (a b c : Dat) : Rd := match a, b, c with
  | .int a, .int b, .int c => if -lim <= a /\ a <= lim /\ -lim <= b /\ b <= lim /\ (c = 1 \/ c = -1) then .ok (.tup (rngF a c (rngN a b c))) else .no
  | _, _, _ => .no
def compD {α : Type} (c e : α -> Rd) : List α -> List Dat -> Rd
  | [], acc => newD acc
  | x :: xs, acc => (c x).bind fun b => match b with
    | .bl true => (e x).bind fun y => if acc.length < lim then compD c e xs (acc ++ [y]) else .no
    | .bl false => compD c e xs acc
    | _ => .no
def itD (d : Dat) : Option (List Dat) := match d with
  | .tup xs => some xs
  | .scr ns => some (ns.map .int)
  | .lst xs => if xs.length <= lim then some xs else none
  | _ => none
def pairsD (k : Kd) (x y : Dat) : Option (List (Dat × Dat)) := match k, x, y with
  | .zip, .lst xs, .lst ys => if xs.length <= lim /\ ys.length <= lim then some (xs.zip ys) else none
  | .enum, .lst xs, .int s => if xs.length <= lim then some ((rngF s 1 xs.length).zip xs) else none
  | _, _, _ => none
def argsD : Dat -> List Dat
  | .tup xs => xs
  | _ => []
def litD : Wd -> Option Dat
  | .non => some .non
  | .bl b => some (.bl b)
  | .int i => some (.int i)
  | .str s => some (.str s)
  | _ => none
def evD (cl : Nat -> List Dat -> Rd) : Ex -> DEn -> Rd
  | .var i, de => match de[i]? with
    | some (some d) => .ok d
    | _ => .no
  | .lit w, _ => match litD w with
    | some d => .ok d
    | none => .no
  | .bin op a b, de => (evD cl a de).bind fun x => (evD cl b de).bind fun y => bopD op x y
  | .neg a, de => (evD cl a de).bind fun x => match x with
    | .int i => .ok (.int (-i))
    | _ => .no
  | .not a, de => (evD cl a de).bind fun x => match x with
    | .bl b => .ok (.bl (!b))
    | _ => .no
  | .and a b, de => (evD cl a de).bind fun x => match x with
    | .bl true => evD cl b de
    | .bl false => .ok (.bl false)
    | _ => .no
  | .or a b, de => (evD cl a de).bind fun x => match x with
    | .bl false => evD cl b de
    | .bl true => .ok (.bl true)
    | _ => .no
  | .cmp op a b, de => (evD cl a de).bind fun x => (evD cl b de).bind fun y => copD op x y
  | .chain p q a b c, de => (evD cl a de).bind fun x => (evD cl b de).bind fun y => (copD p x y).bind fun z => match z with
    | .bl true => (evD cl c de).bind fun u => copD q y u
    | .bl false => .ok (.bl false)
    | _ => .no
  | .ife c a b, de => (evD cl c de).bind fun x => match x with
    | .bl true => evD cl a de
    | .bl false => evD cl b de
    | _ => .no
  | .unit, _ => .ok (.tup [])
  | .pair a b, de => (evD cl a de).bind fun x => (evD cl b de).bind fun y => .ok (.tup (x :: argsD y))
  | .call k a, de => (evD cl a de).bind fun x => cl k (argsD x)
  | .blt b a, de => (evD cl a de).bind fun x => bltD b (argsD x)
  | .isi t a, de => (evD cl a de).bind fun x => .ok (.bl (isD t x))
  | .lst a, de => (evD cl a de).bind fun x => newD (argsD x)
  | .tup a, de => (evD cl a de).bind fun x => if (argsD x).length <= lim then .ok (.tup (argsD x)) else .no
  | .dict0, _ => .no
  | .idx a b, de => (evD cl a de).bind fun x => (evD cl b de).bind fun y => idxD x y
  | .slL a lo, de => (evD cl a de).bind fun x => (evD cl lo de).bind fun y => match y with
    | .int i => slD x (some i) none
    | _ => .no
  | .slH a hi, de => (evD cl a de).bind fun x => (evD cl hi de).bind fun y => match y with
    | .int i => slD x none (some i)
    | _ => .no
  | .slB a lo hi, de => (evD cl a de).bind fun x => (evD cl lo de).bind fun y => match y with
    | .int i => (evD cl hi de).bind fun z => match z with
      | .int j => slD x (some i) (some j)
      | _ => .no
    | _ => .no
  | .meth _ _ _, _ => .no
  | .rng a b c, de => (evD cl a de).bind fun x => (evD cl b de).bind fun y => (evD cl c de).bind fun z => rngD x y z
  | .comp elt it cond, de => (evD cl it de).bind fun x => match itD x with
    | some xs => compD (fun x => evD cl cond (de ++ [some x])) (fun x => evD cl elt (de ++ [some x])) xs []
    | none => .no
  | .compP _ _ _ _ _, _ => .no
  | .lrng a, de => (evD cl a de).bind fun x => match x with
    | .int j => if -lim <= j /\ j <= lim then newD (rngF 0 1 j.toNat) else .no
    | _ => .no
theorem evE_some {cl : Nat -> List Wd -> Me -> Rz} {i : Nat} {env : En} {w : Wd} (h : env[i]? = some (some w)) (m : Me) : evE cl (.var i) env m = .ok w m := by
  show (match env[i]? with | some (some w) => Rz.ok w m | _ => .no) = _
  rw [h]
theorem evD_some {cl : Nat -> List Dat -> Rd} {i : Nat} {de : DEn} {d : Dat} (h : de[i]? = some (some d)) : evD cl (.var i) de = .ok d := by
  show (match de[i]? with | some (some d) => Rd.ok d | _ => .no) = _
  rw [h]
theorem evD_none {cl : Nat -> List Dat -> Rd} {i : Nat} {de : DEn} (h : de[i]? = none \/ de[i]? = some none) : evD cl (.var i) de = .no := by
  show (match de[i]? with | some (some d) => Rd.ok d | _ => .no) = _
  rcases h with h | h <;> rw [h]
theorem evD_inv {cl : Nat -> List Dat -> Rd} {i : Nat} {de : DEn} {d : Dat} (h : evD cl (.var i) de = .ok d) : de[i]? = some (some d) := by
  cases z : de[i]? with
  | none => rw [evD_none (.inl z)] at h; cases h
  | some o =>
    cases o with
    | none => rw [evD_none (.inr z)] at h; cases h
    | some e => rw [evD_some z] at h; cases h; rfl
mutual
def Rep (R : Nat -> Prop) (m : Me) : Dat -> Wd -> Prop
  | .non, w => w = .non
  | .bl b, w => w = .bl b
  | .int i, w => w = .int i
  | .str s, w => w = .str s
  | .scr ns, w => w = .rol (ns.map Wd.int)
  | .tup ds, w => ∃ xs, w = .tup xs /\ RepL R m ds xs
  | .lst ds, w => ∃ l xs, w = .ref l /\ R l /\ m[l]? = some (.lst xs) /\ RepL R m ds xs
def RepL (R : Nat -> Prop) (m : Me) : List Dat -> List Wd -> Prop
  | [], xs => xs = []
  | d :: ds, xs => ∃ x r, xs = x :: r /\ Rep R m d x /\ RepL R m ds r
end
def Le (m m' : Me) : Prop := ∀ (l : Nat) o, m[l]? = some o -> m'[l]? = some o
theorem Le.refl (m : Me) : Le m m := fun _ _ h => h
theorem Le.trans {a b c : Me} (h : Le a b) (k : Le b c) : Le a c := fun l o z => k l o (h l o z)
theorem Le.app (m x : Me) : Le m (m ++ x) := fun l o z => by
  obtain ⟨hl, _⟩ := List.getElem?_eq_some_iff.mp z
  rw [List.getElem?_append_left hl]; exact z
theorem Le.len {a b : Me} (h : Le a b) : a.length <= b.length := by
  rcases Nat.lt_or_ge b.length a.length with z | z
  . have := h b.length a[b.length] (List.getElem?_eq_getElem z)
    have := (List.getElem?_eq_some_iff.mp this).1
    omega
  . exact z
def Rf (R : Nat -> Prop) (n : Nat) : Nat -> Prop := fun l => R l \/ n <= l
mutual
theorem Rep.frame {R R' : Nat -> Prop} {m m' : Me} (h : ∀ (l : Nat) o, R l -> m[l]? = some o -> R' l /\ m'[l]? = some o) : ∀ (d : Dat) (w : Wd), Rep R m d w -> Rep R' m' d w
  | .non, w, q => by unfold Rep at q ⊢; exact q
  | .bl b, w, q => by unfold Rep at q ⊢; exact q
  | .int b, w, q => by unfold Rep at q ⊢; exact q
  | .str b, w, q => by unfold Rep at q ⊢; exact q
  | .scr b, w, q => by unfold Rep at q ⊢; exact q
  | .tup ds, w, q => by
    unfold Rep at q ⊢
    obtain ⟨xs, rfl, q⟩ := q
    exact ⟨xs, rfl, RepL.frame h ds xs q⟩
  | .lst ds, w, q => by
    unfold Rep at q ⊢
    obtain ⟨l, xs, rfl, r, z, q⟩ := q
    exact ⟨l, xs, rfl, (h l _ r z).1, (h l _ r z).2, RepL.frame h ds xs q⟩
theorem RepL.frame {R R' : Nat -> Prop} {m m' : Me} (h : ∀ (l : Nat) o, R l -> m[l]? = some o -> R' l /\ m'[l]? = some o) : ∀ (ds : List Dat) (xs : List Wd), RepL R m ds xs -> RepL R' m' ds xs
  | [], xs, q => by unfold RepL at q ⊢; exact q
  | d :: ds, xs, q => by
    unfold RepL at q ⊢
    obtain ⟨x, r, rfl, a, b⟩ := q
    exact ⟨x, r, rfl, Rep.frame h d x a, RepL.frame h ds r b⟩
end
theorem Rep.up {R : Nat -> Prop} {m m' : Me} {d : Dat} {w : Wd} (n : Nat) (h : Le m m') (q : Rep R m d w) : Rep (Rf R n) m' d w :=
  Rep.frame (fun l o r z => ⟨.inl r, h l o z⟩) d w q
theorem RepL.up {R : Nat -> Prop} {m m' : Me} {d : List Dat} {w : List Wd} (n : Nat) (h : Le m m') (q : RepL R m d w) : RepL (Rf R n) m' d w :=
  RepL.frame (fun l o r z => ⟨.inl r, h l o z⟩) d w q
theorem repL_iff {R : Nat -> Prop} {m : Me} : ∀ {ds : List Dat} {xs : List Wd}, RepL R m ds xs ↔ ds.length = xs.length /\ ∀ (i : Nat) d x, ds[i]? = some d -> xs[i]? = some x -> Rep R m d x
  | [], xs => by
    unfold RepL
    constructor
    . rintro rfl; exact ⟨rfl, by simp⟩
    . rintro ⟨h, _⟩; exact List.eq_nil_of_length_eq_zero h.symm
  | d :: ds, xs => by
    unfold RepL
    constructor
    . rintro ⟨x, r, rfl, a, b⟩
      obtain ⟨hl, hb⟩ := repL_iff.mp b
      refine ⟨by simp [hl], fun i e y h1 h2 => ?_⟩
      cases i with
      | zero => simp at h1 h2; subst h1; subst h2; exact a
      | succ i => simp at h1 h2; exact hb i e y h1 h2
    . rintro ⟨hl, h⟩
      cases xs with
      | nil => cases hl
      | cons x r =>
        refine ⟨x, r, rfl, h 0 d x rfl rfl, repL_iff.mpr ⟨by simpa using hl, fun i e y h1 h2 => h (i + 1) e y (by simpa using h1) (by simpa using h2)⟩⟩
theorem RepL.len {R : Nat -> Prop} {m : Me} {ds : List Dat} {xs : List Wd} (h : RepL R m ds xs) : ds.length = xs.length := (repL_iff.mp h).1
theorem RepL.get {R : Nat -> Prop} {m : Me} {ds : List Dat} {xs : List Wd} (h : RepL R m ds xs) {i : Nat} {d : Dat} (z : ds[i]? = some d) : ∃ x, xs[i]? = some x /\ Rep R m d x := by
  obtain ⟨hl, h⟩ := repL_iff.mp h
  obtain ⟨hi, _⟩ := List.getElem?_eq_some_iff.mp z
  exact ⟨xs[i], List.getElem?_eq_getElem (by omega), h i d _ z (List.getElem?_eq_getElem (by omega))⟩
theorem RepL.nil {R : Nat -> Prop} {m : Me} : RepL R m [] [] := by unfold RepL; rfl
theorem RepL.cons {R : Nat -> Prop} {m : Me} {d : Dat} {x : Wd} {ds : List Dat} {xs : List Wd} (a : Rep R m d x) (b : RepL R m ds xs) : RepL R m (d :: ds) (x :: xs) := by
  unfold RepL; exact ⟨x, xs, rfl, a, b⟩
theorem RepL.cons_inv {R : Nat -> Prop} {m : Me} {d : Dat} {ds : List Dat} {xs : List Wd} (h : RepL R m (d :: ds) xs) : ∃ x r, xs = x :: r /\ Rep R m d x /\ RepL R m ds r := by
  unfold RepL at h; exact h
theorem RepL.nil_inv {R : Nat -> Prop} {m : Me} {xs : List Wd} (h : RepL R m [] xs) : xs = [] := by unfold RepL at h; exact h
theorem RepL.app {R : Nat -> Prop} {m : Me} : ∀ {ds es : List Dat} {xs ys : List Wd}, RepL R m ds xs -> RepL R m es ys -> RepL R m (ds ++ es) (xs ++ ys)
  | [], es, xs, ys, a, b => by rw [a.nil_inv]; exact b
  | d :: ds, es, xs, ys, a, b => by
    obtain ⟨x, r, rfl, p, q⟩ := a.cons_inv
    exact .cons p (RepL.app q b)
theorem RepL.drop {R : Nat -> Prop} {m : Me} (n : Nat) {ds : List Dat} {xs : List Wd} (h : RepL R m ds xs) : RepL R m (ds.drop n) (xs.drop n) := by
  obtain ⟨hl, h⟩ := repL_iff.mp h
  refine repL_iff.mpr ⟨by simp [hl], fun i d x a b => h (n + i) d x (by simpa using a) (by simpa using b)⟩
theorem RepL.take {R : Nat -> Prop} {m : Me} (n : Nat) {ds : List Dat} {xs : List Wd} (h : RepL R m ds xs) : RepL R m (ds.take n) (xs.take n) := by
  obtain ⟨hl, h⟩ := repL_iff.mp h
  refine repL_iff.mpr ⟨by simp [hl], fun i d x a b => ?_⟩
  rw [List.getElem?_take] at a b
  split at a
  . next z => rw [if_pos z] at b; exact h i d x a b
  . cases a
theorem RepL.rev {R : Nat -> Prop} {m : Me} : ∀ {ds : List Dat} {xs : List Wd}, RepL R m ds xs -> RepL R m ds.reverse xs.reverse
  | [], xs, a => by rw [a.nil_inv]; exact .nil
  | d :: ds, xs, a => by
    obtain ⟨x, r, rfl, p, q⟩ := a.cons_inv
    rw [List.reverse_cons, List.reverse_cons]
    exact RepL.app (RepL.rev q) (.cons p .nil)
theorem RepL.set {R : Nat -> Prop} {m : Me} {ds : List Dat} {xs : List Wd} (h : RepL R m ds xs) (j : Nat) {d : Dat} {x : Wd} (z : Rep R m d x) : RepL R m (ds.set j d) (xs.set j x) := by
  obtain ⟨hl, h⟩ := repL_iff.mp h
  refine repL_iff.mpr ⟨by simp [hl], fun i e y a b => ?_⟩
  rw [List.getElem?_set] at a b
  by_cases q : j = i
  . rw [if_pos q] at a b
    split at a
    . split at b
      . cases a; cases b; exact z
      . cases b
    . cases a
  . rw [if_neg q] at a b; exact h i e y a b
theorem RepL.rep {R : Nat -> Prop} {m : Me} {ds : List Dat} {xs : List Wd} (h : RepL R m ds xs) : ∀ k : Nat, RepL R m (List.replicate k ds).flatten (List.replicate k xs).flatten
  | 0 => .nil
  | k + 1 => by
    rw [List.replicate_succ, List.replicate_succ, List.flatten_cons, List.flatten_cons]
    exact RepL.app h (RepL.rep h k)
theorem RepL.ints {R : Nat -> Prop} {m : Me} : ∀ (l : List Int), RepL R m (l.map Dat.int) (l.map Wd.int)
  | [] => .nil
  | i :: l => .cons (by unfold Rep; rfl) (RepL.ints l)
theorem rep_int {R : Nat -> Prop} {m : Me} {i : Int} {w : Wd} : Rep R m (.int i) w ↔ w = .int i := by unfold Rep; exact Iff.rfl
theorem rep_bl {R : Nat -> Prop} {m : Me} {i : Bool} {w : Wd} : Rep R m (.bl i) w ↔ w = .bl i := by unfold Rep; exact Iff.rfl
theorem rep_non {R : Nat -> Prop} {m : Me} {w : Wd} : Rep R m .non w ↔ w = .non := by unfold Rep; exact Iff.rfl
theorem rep_str {R : Nat -> Prop} {m : Me} {s : List Nat} {w : Wd} : Rep R m (.str s) w ↔ w = .str s := by unfold Rep; exact Iff.rfl
theorem rep_scr {R : Nat -> Prop} {m : Me} {s : List Int} {w : Wd} : Rep R m (.scr s) w ↔ w = .rol (s.map Wd.int) := by unfold Rep; exact Iff.rfl
theorem rep_tup {R : Nat -> Prop} {m : Me} {ds : List Dat} {w : Wd} : Rep R m (.tup ds) w ↔ ∃ xs, w = .tup xs /\ RepL R m ds xs := by
  constructor
  . intro h; unfold Rep at h; exact h
  . intro h; unfold Rep; exact h
theorem rep_lst {R : Nat -> Prop} {m : Me} {ds : List Dat} {w : Wd} : Rep R m (.lst ds) w ↔ ∃ l xs, w = .ref l /\ R l /\ m[l]? = some (.lst xs) /\ RepL R m ds xs := by
  constructor
  . intro h; unfold Rep at h; exact h
  . intro h; unfold Rep; exact h
def SimE (R : Nat -> Prop) (m : Me) (r : Rz) (rd : Rd) : Prop := match rd with
  | .ok d => ∃ w m', r = .ok w m' /\ Le m m' /\ Rep (Rf R m.length) m' d w
  | .exc c d => ∃ w m', r = .exc c w m' /\ Le m m' /\ Rep (Rf R m.length) m' d w
  | .no => True
theorem SimE.lift {R : Nat -> Prop} {m m1 : Me} {r : Rz} {rd : Rd} (h : Le m m1) (q : SimE (Rf R m.length) m1 r rd) : SimE R m r rd := by
  have hl := h.len
  have fr : ∀ (m' : Me) (d : Dat) (w : Wd), Rep (Rf (Rf R m.length) m1.length) m' d w -> Rep (Rf R m.length) m' d w := fun m' d w => Rep.frame (fun l o z k => ⟨by rcases z with (z | z) | z; exact .inl z; exact .inr z; exact .inr (by omega), k⟩) d w
  cases rd with
  | ok d => obtain ⟨w, m', rfl, k, z⟩ := q; exact ⟨w, m', rfl, h.trans k, fr _ _ _ z⟩
  | exc c d => obtain ⟨w, m', rfl, k, z⟩ := q; exact ⟨w, m', rfl, h.trans k, fr _ _ _ z⟩
  | no => trivial
theorem SimE.bind {R : Nat -> Prop} {m : Me} {r : Rz} {rd : Rd} {f : Wd -> Me -> Rz} {g : Dat -> Rd} (h : SimE R m r rd)
    (k : ∀ d w m', Le m m' -> Rep (Rf R m.length) m' d w -> SimE (Rf R m.length) m' (f w m') (g d)) : SimE R m (r.bind f) (rd.bind g) := by
  cases rd with
  | ok d => obtain ⟨w, m', rfl, l, z⟩ := h; exact SimE.lift l (k d w m' l z)
  | exc c d => obtain ⟨w, m', rfl, l, z⟩ := h; exact ⟨w, m', rfl, l, z⟩
  | no => trivial
theorem SimE.here {R : Nat -> Prop} {m : Me} {d : Dat} {w : Wd} (h : Rep R m d w) : SimE R m (.ok w m) (.ok d) :=
  ⟨w, m, rfl, Le.refl m, h.up _ (Le.refl m)⟩
theorem SimE.no {R : Nat -> Prop} {m : Me} {r : Rz} : SimE R m r .no := trivial
theorem SimE.new {R : Nat -> Prop} {m : Me} {ds : List Dat} {xs : List Wd} (h : RepL R m ds xs) : SimE R m (alloc m xs) (newD ds) := by
  unfold newD alloc
  rw [h.len]
  by_cases z : xs.length <= lim
  . rw [if_pos z, if_pos z]
    exact ⟨_, _, rfl, Le.app m _, rep_lst.mpr ⟨_, xs, rfl, .inr (Nat.le_refl _), by simp, h.up _ (Le.app m _)⟩⟩
  . rw [if_neg z, if_neg z]; exact SimE.no
theorem seq_sim {R : Nat -> Prop} {m : Me} {d : Dat} {w : Wd} {ds : List Dat} (h : Rep R m d w) (z : seqD d = some ds) : ∃ xs, seqOf m w = some xs /\ RepL R m ds xs := by
  cases d with
  | tup es => obtain ⟨xs, rfl, q⟩ := rep_tup.mp h; cases z; exact ⟨xs, rfl, q⟩
  | lst es =>
    obtain ⟨l, xs, rfl, _, e, q⟩ := rep_lst.mp h; cases z
    exact ⟨xs, by show lstAt m l = _; unfold lstAt; rw [e], q⟩
  | scr ns => rw [rep_scr.mp h]; cases z; exact ⟨_, rfl, RepL.ints ns⟩
  | _ => cases z
theorem ls_sim {R : Nat -> Prop} {m : Me} {d : Dat} {w : Wd} {ds : List Dat} (h : Rep R m d w) (z : lsD d = some ds) : ∃ xs, lsOf m w = some xs /\ RepL R m ds xs := by
  cases d with
  | lst es =>
    obtain ⟨l, xs, rfl, _, e, q⟩ := rep_lst.mp h; cases z
    exact ⟨xs, by show lstAt m l = _; unfold lstAt; rw [e], q⟩
  | scr ns => rw [rep_scr.mp h]; cases z; exact ⟨_, rfl, RepL.ints ns⟩
  | _ => cases z
theorem ints_inj : ∀ {a b : List Int}, a.map Wd.int = b.map Wd.int -> a = b
  | [], [], _ => rfl
  | [], _ :: _, h => by cases h
  | _ :: _, [], h => by cases h
  | x :: a, y :: b, h => by
    simp only [List.map_cons, List.cons.injEq, Wd.int.injEq] at h
    rw [h.1, ints_inj h.2]
mutual
theorem Rep.det {R R' : Nat -> Prop} {m : Me} : ∀ (d e : Dat) (w : Wd), Rep R m d w -> Rep R' m e w -> d = e
  | .non, e, w, q, z => by rw [rep_non.mp q] at z; cases e <;> unfold Rep at z <;> first | rfl | (exfalso; simp at z)
  | .bl b, e, w, q, z => by rw [rep_bl.mp q] at z; cases e <;> unfold Rep at z <;> first | (injection z with z; rw [z]) | (exfalso; simp at z)
  | .int b, e, w, q, z => by rw [rep_int.mp q] at z; cases e <;> unfold Rep at z <;> first | (injection z with z; rw [z]) | (exfalso; simp at z)
  | .str b, e, w, q, z => by rw [rep_str.mp q] at z; cases e <;> unfold Rep at z <;> first | (injection z with z; rw [z]) | (exfalso; simp at z)
  | .scr b, e, w, q, z => by rw [rep_scr.mp q] at z; cases e <;> unfold Rep at z <;> first | (injection z with z; rw [ints_inj z]) | (exfalso; simp at z)
  | .tup ds, e, w, q, z => by
    obtain ⟨xs, rfl, q1⟩ := rep_tup.mp q
    cases e with
    | tup es => obtain ⟨ys, e, z1⟩ := rep_tup.mp z; cases e; rw [RepL.det ds es xs q1 z1]
    | _ => exfalso; unfold Rep at z; simp at z
  | .lst ds, e, w, q, z => by
    obtain ⟨l, xs, rfl, _, hm, q1⟩ := rep_lst.mp q
    cases e with
    | lst es => obtain ⟨l', ys, e, _, hn, z1⟩ := rep_lst.mp z; cases e; rw [hm] at hn; cases hn; rw [RepL.det ds es xs q1 z1]
    | _ => exfalso; unfold Rep at z; simp at z
theorem RepL.det {R R' : Nat -> Prop} {m : Me} : ∀ (ds es : List Dat) (xs : List Wd), RepL R m ds xs -> RepL R' m es xs -> ds = es
  | [], es, xs, q, z => by
    rw [q.nil_inv] at z
    cases es with
    | nil => rfl
    | cons e es => obtain ⟨_, _, h, _⟩ := z.cons_inv; cases h
  | d :: ds, es, xs, q, z => by
    obtain ⟨x, r, rfl, a, b⟩ := q.cons_inv
    cases es with
    | nil => cases z.nil_inv
    | cons e es =>
      obtain ⟨_, _, h, a', b'⟩ := z.cons_inv
      cases h
      rw [Rep.det d e x a a', RepL.det ds es r b b']
end
theorem eqOk0 (d : Dat) : eqOk 0 d = false := by cases d <;> rfl
mutual
theorem deq_refl : ∀ (k : Nat) (d : Dat), eqOk k d = true -> deq d d = true
  | 0, d, h => by rw [eqOk0] at h; cases h
  | k + 1, .non, h => rfl
  | k + 1, .bl b, h => by show (b == b) = true; simp
  | k + 1, .int b, h => by show decide (b = b) = true; simp
  | k + 1, .str b, h => by show decide (b = b) = true; simp
  | k + 1, .scr b, h => absurd (show false = true from h) (by decide)
  | k + 1, .tup ds, h => deqL_refl k ds h
  | k + 1, .lst ds, h => deqL_refl k ds h
theorem deqL_refl : ∀ (k : Nat) (ds : List Dat), eqOkL k ds = true -> deqL ds ds = true
  | k, [], h => rfl
  | k, d :: ds, h => by
    replace h : (eqOk k d && eqOkL k ds) = true := h
    show (deq d d && deqL ds ds) = true
    rw [Bool.and_eq_true] at h ⊢
    exact ⟨deq_refl k d h.1, deqL_refl k ds h.2⟩
end
theorem eqL_sim {R : Nat -> Prop} {m : Me} {k : Nat} (ih : ∀ (d e : Dat) (x y : Wd), eqOk k d = true -> eqOk k e = true -> Rep R m d x -> Rep R m e y -> eqW m k x y = some (deq d e)) :
    ∀ (ds es : List Dat) (xs ys : List Wd), eqOkL k ds = true -> eqOkL k es = true -> RepL R m ds xs -> RepL R m es ys -> ∃ q, eqL (eqW m k) xs ys = some q /\ (q && decide (xs.length = ys.length)) = deqL ds es
  | [], es, xs, ys, h1, h2, a, b => by
    rw [a.nil_inv]
    cases es with
    | nil => rw [b.nil_inv]; exact ⟨true, rfl, rfl⟩
    | cons e es => obtain ⟨y, r, rfl, _, _⟩ := b.cons_inv; exact ⟨true, rfl, rfl⟩
  | d :: ds, es, xs, ys, h1, h2, a, b => by
    obtain ⟨x, r, rfl, p, q⟩ := a.cons_inv
    cases es with
    | nil => rw [b.nil_inv]; exact ⟨true, rfl, rfl⟩
    | cons e es =>
      obtain ⟨y, s, rfl, p', q'⟩ := b.cons_inv
      replace h1 : (eqOk k d && eqOkL k ds) = true := h1
      replace h2 : (eqOk k e && eqOkL k es) = true := h2
      rw [Bool.and_eq_true] at h1 h2
      obtain ⟨t, ht, hb⟩ := eqL_sim ih ds es r s h1.2 h2.2 q q'
      refine ⟨deq d e && t, ?_, ?_⟩
      . unfold eqL
        rw [ih d e x y h1.1 h2.1 p p', ht]
        rfl
      . show (deq d e && t && decide (r.length + 1 = s.length + 1)) = (deq d e && deqL ds es)
        simp only [<- hb, Nat.succ_inj, Bool.and_assoc]
theorem isLst_of {m : Me} {l : Nat} {xs : List Wd} (h : m[l]? = some (.lst xs)) : isLst m l = true := by unfold isLst; rw [h]
theorem ite_lst {m : Me} {l : Nat} {xs : List Wd} (h : m[l]? = some (.lst xs)) : (if isLst m l && true then some false else none) = some false := by rw [isLst_of h]; rfl
theorem eq_sim {R : Nat -> Prop} {m : Me} : ∀ (k : Nat) (d e : Dat) (x y : Wd), eqOk k d = true -> eqOk k e = true -> Rep R m d x -> Rep R m e y -> eqW m k x y = some (deq d e)
  | 0, d, e, x, y, h, _, _, _ => by rw [eqOk0] at h; cases h
  | k + 1, d, e, x, y, h1, h2, a, b => by
    have ih := eq_sim (R := R) (m := m) k
    cases d with
    | scr ns => exact absurd (show false = true from h1) (by decide)
    | tup ds =>
      obtain ⟨xs, rfl, a1⟩ := rep_tup.mp a
      cases e with
      | scr ns => exact absurd (show false = true from h2) (by decide)
      | tup es =>
        obtain ⟨ys, rfl, b1⟩ := rep_tup.mp b
        obtain ⟨q, h, e⟩ := eqL_sim ih ds es xs ys h1 h2 a1 b1
        show (eqL (eqW m k) xs ys).map (· && decide (xs.length = ys.length)) = some (deqL ds es)
        rw [h, <- e]; rfl
      | lst es =>
        obtain ⟨l, ys, rfl, _, hm, b⟩ := rep_lst.mp b
        exact ite_lst hm
      | non => rw [rep_non.mp b]; rfl
      | bl _ => rw [rep_bl.mp b]; rfl
      | int _ => rw [rep_int.mp b]; rfl
      | str _ => rw [rep_str.mp b]; rfl
    | lst ds =>
      have a0 := a
      obtain ⟨l, xs, rfl, _, hm, a⟩ := rep_lst.mp a
      cases e with
      | scr ns => exact absurd (show false = true from h2) (by decide)
      | lst es =>
        have b0 := b
        obtain ⟨l', ys, rfl, _, hn, b⟩ := rep_lst.mp b
        show (if l = l' then (if isLst m l then some true else none) else match m[l]?, m[l']? with
          | some (.lst xs), some (.lst ys) => if xs.length = ys.length then eqL (eqW m k) xs ys else some false
          | _, _ => none) = _
        by_cases q : l = l'
        . subst q
          rw [if_pos rfl, if_pos (isLst_of hm)]
          rw [Rep.det _ _ _ a0 b0] at *
          rw [deq_refl (k + 1) _ h2]
        . rw [if_neg q, hm, hn]
          obtain ⟨q, h, e⟩ := eqL_sim ih ds es xs ys h1 h2 a b
          show (if xs.length = ys.length then eqL (eqW m k) xs ys else some false) = some (deqL ds es)
          by_cases z : xs.length = ys.length
          . simp only [z, if_true, h, <- e]; simp
          . simp only [z, if_false, <- e]; simp
      | tup es => obtain ⟨ys, rfl, b⟩ := rep_tup.mp b; exact ite_lst hm
      | non => rw [rep_non.mp b]; exact ite_lst hm
      | bl _ => rw [rep_bl.mp b]; exact ite_lst hm
      | int _ => rw [rep_int.mp b]; exact ite_lst hm
      | str _ => rw [rep_str.mp b]; exact ite_lst hm
    | non =>
      rw [rep_non.mp a]
      cases e with
      | scr ns => exact absurd (show false = true from h2) (by decide)
      | lst es => obtain ⟨l', ys, rfl, _, hn, b⟩ := rep_lst.mp b; exact ite_lst hn
      | tup es => obtain ⟨ys, rfl, b⟩ := rep_tup.mp b; rfl
      | non => rw [rep_non.mp b]; rfl
      | bl _ => rw [rep_bl.mp b]; rfl
      | int _ => rw [rep_int.mp b]; rfl
      | str _ => rw [rep_str.mp b]; rfl
    | bl _ =>
      rw [rep_bl.mp a]
      cases e with
      | scr ns => exact absurd (show false = true from h2) (by decide)
      | lst es => obtain ⟨l', ys, rfl, _, hn, b⟩ := rep_lst.mp b; exact ite_lst hn
      | tup es => obtain ⟨ys, rfl, b⟩ := rep_tup.mp b; rfl
      | non => rw [rep_non.mp b]; rfl
      | bl _ => rw [rep_bl.mp b]; rfl
      | int _ => rw [rep_int.mp b]; rfl
      | str _ => rw [rep_str.mp b]; rfl
    | int _ =>
      rw [rep_int.mp a]
      cases e with
      | scr ns => exact absurd (show false = true from h2) (by decide)
      | lst es => obtain ⟨l', ys, rfl, _, hn, b⟩ := rep_lst.mp b; exact ite_lst hn
      | tup es => obtain ⟨ys, rfl, b⟩ := rep_tup.mp b; rfl
      | non => rw [rep_non.mp b]; rfl
      | bl _ => rw [rep_bl.mp b]; rfl
      | int _ => rw [rep_int.mp b]; rfl
      | str _ => rw [rep_str.mp b]; rfl
    | str _ =>
      rw [rep_str.mp a]
      cases e with
      | scr ns => exact absurd (show false = true from h2) (by decide)
      | lst es => obtain ⟨l', ys, rfl, _, hn, b⟩ := rep_lst.mp b; exact ite_lst hn
      | tup es => obtain ⟨ys, rfl, b⟩ := rep_tup.mp b; rfl
      | non => rw [rep_non.mp b]; rfl
      | bl _ => rw [rep_bl.mp b]; rfl
      | int _ => rw [rep_int.mp b]; rfl
      | str _ => rw [rep_str.mp b]; rfl
theorem eqD_sim {R : Nat -> Prop} {m : Me} {d e : Dat} {x y : Wd} {q : Bool} (h : eqD d e = some q) (a : Rep R m d x) (b : Rep R m e y) : eqW m deep x y = some q := by
  unfold eqD at h
  split at h
  . next z => simp only [Bool.and_eq_true] at z; cases h; exact eq_sim deep d e x y z.1 z.2 a b
  . cases h
theorem inL_sim {R : Nat -> Prop} {m : Me} {d : Dat} {x : Wd} (h : eqOk deep d = true) (a : Rep R m d x) : ∀ (es : List Dat) (ys : List Wd), eqOkL deep es = true -> RepL R m es ys -> inL (eqW m deep) x ys = some (es.any fun e => deq e d)
  | [], ys, _, b => by rw [b.nil_inv]; rfl
  | e :: es, ys, z, b => by
    obtain ⟨y, r, rfl, p, q⟩ := b.cons_inv
    replace z : (eqOk deep e && eqOkL deep es) = true := z
    rw [Bool.and_eq_true] at z
    show (match eqW m deep y x with
      | some a => (inL (eqW m deep) x r).map (a || ·)
      | none => none) = _
    rw [eq_sim deep e d y x z.1 h p a, inL_sim h a es r z.2 q]; rfl
theorem inD_sim {R : Nat -> Prop} {m : Me} {d : Dat} {x : Wd} {es : List Dat} {ys : List Wd} {q : Bool} (h : inD d es = some q) (a : Rep R m d x) (b : RepL R m es ys) : inL (eqW m deep) x ys = some q := by
  unfold inD at h
  split at h
  . next z => simp only [Bool.and_eq_true] at z; cases h; exact inL_sim z.1 a es ys z.2 b
  . cases h
theorem SimE.int {R : Nat -> Prop} {m : Me} {i : Int} : SimE R m (.ok (.int i) m) (.ok (.int i)) := SimE.here (rep_int.mpr rfl)
theorem SimE.bl {R : Nat -> Prop} {m : Me} {i : Bool} : SimE R m (.ok (.bl i) m) (.ok (.bl i)) := SimE.here (rep_bl.mpr rfl)
theorem bop_sim {R : Nat -> Prop} {m : Me} {d e : Dat} {x y : Wd} (op : Bo) (a : Rep R m d x) (b : Rep R m e y) : SimE R m (bop op x y m) (bopD op d e) := by
  cases d with
  | int i =>
    rw [rep_int.mp a]
    cases e with
    | int j =>
      rw [rep_int.mp b]
      cases op <;> simp only [bop, bopD]
      . exact SimE.int
      . exact SimE.int
      . by_cases z : (small i || small j) = true
        . rw [if_pos z, if_pos z]; exact SimE.int
        . rw [if_neg z, if_neg z]; exact SimE.no
      . by_cases z : 0 < j /\ j < 1073741824
        . rw [if_pos z, if_pos z]; exact SimE.int
        . rw [if_neg z, if_neg z]; exact SimE.no
      . by_cases z : 0 < j
        . rw [if_pos z, if_pos z]; exact SimE.int
        . rw [if_neg z, if_neg z]; exact SimE.no
      . by_cases z : 0 <= j /\ j <= 1000000 /\ small i = true
        . rw [if_pos z, if_pos z]; exact SimE.int
        . rw [if_neg z, if_neg z]; exact SimE.no
    | _ => exact SimE.no
  | lst ds =>
    obtain ⟨l, xs, rfl, _, hm, a1⟩ := rep_lst.mp a
    cases e with
    | lst es =>
      obtain ⟨l', ys, rfl, _, hn, b1⟩ := rep_lst.mp b
      cases op <;> first | exact SimE.no | skip
      simp only [bop, bopD, hm, hn]
      exact SimE.new (a1.app b1)
    | int k =>
      rw [rep_int.mp b]
      cases op <;> first | exact SimE.no | skip
      simp only [bop, bopD, hm]
      by_cases z : -(lim : Int) <= k /\ k <= (lim : Int)
      . rw [if_pos z, if_pos z]; exact SimE.new (a1.rep _)
      . rw [if_neg z, if_neg z]; exact SimE.no
    | _ => exact SimE.no
  | tup ds =>
    obtain ⟨xs, rfl, a1⟩ := rep_tup.mp a
    cases e with
    | tup es =>
      obtain ⟨ys, rfl, b1⟩ := rep_tup.mp b
      cases op <;> first | exact SimE.no | skip
      simp only [bop, bopD]
      have h1 := a1.len
      have h2 := b1.len
      have h3 : ds.isEmpty = xs.isEmpty := by cases ds <;> cases xs <;> simp_all
      rw [h1, h2, h3]
      by_cases z : xs.length + ys.length <= lim /\ xs.isEmpty = false
      . rw [if_pos z, if_pos z]; exact SimE.here (rep_tup.mpr ⟨_, rfl, a1.app b1⟩)
      . rw [if_neg z, if_neg z]; exact SimE.no
    | _ => exact SimE.no
  | _ => exact SimE.no
theorem cmp_sim {R : Nat -> Prop} {m : Me} {d e : Dat} {x y : Wd} (r : Int -> Int -> Bool) (a : Rep R m d x) (b : Rep R m e y) : SimE R m (cmpII r x y m) (cmpD r d e) := by
  cases d with
  | int i =>
    rw [rep_int.mp a]
    cases e with
    | int j => rw [rep_int.mp b]; exact SimE.bl
    | _ => exact SimE.no
  | _ => exact SimE.no
theorem ofB_sim {R : Nat -> Prop} {m : Me} {p : Option Bool} {q : Option Bool} (h : ∀ b, q = some b -> p = some b) : SimE R m (ofB p m) (ofBD q) := by
  cases q with
  | none => exact SimE.no
  | some b => rw [h b rfl]; exact SimE.bl
theorem ofB_simN {R : Nat -> Prop} {m : Me} {p : Option Bool} {q : Option Bool} (h : ∀ b, q = some b -> p = some b) : SimE R m (ofB (p.map (!·)) m) (ofBD (q.map (!·))) := by
  cases q with
  | none => exact SimE.no
  | some b => rw [h b rfl]; exact SimE.bl
theorem isN_sim {R : Nat -> Prop} {m : Me} {d e : Dat} {x y : Wd} (a : Rep R m d x) (b : Rep R m e y) : SimE R m (cop .isN x y m) (copD .isN d e) := by
  cases e with
  | non =>
    rw [rep_non.mp b]
    cases d with
    | non => rw [rep_non.mp a]; exact SimE.bl
    | bl _ => rw [rep_bl.mp a]; exact SimE.bl
    | int _ => rw [rep_int.mp a]; exact SimE.bl
    | str _ => rw [rep_str.mp a]; exact SimE.bl
    | scr _ => rw [rep_scr.mp a]; exact SimE.bl
    | tup _ => obtain ⟨xs, rfl, _⟩ := rep_tup.mp a; exact SimE.bl
    | lst _ => obtain ⟨l, xs, rfl, _⟩ := rep_lst.mp a; exact SimE.bl
  | _ => exact SimE.no
theorem notN_sim {R : Nat -> Prop} {m : Me} {d e : Dat} {x y : Wd} (a : Rep R m d x) (b : Rep R m e y) : SimE R m (cop .notN x y m) (copD .notN d e) := by
  cases e with
  | non =>
    rw [rep_non.mp b]
    cases d with
    | non => rw [rep_non.mp a]; exact SimE.bl
    | bl _ => rw [rep_bl.mp a]; exact SimE.bl
    | int _ => rw [rep_int.mp a]; exact SimE.bl
    | str _ => rw [rep_str.mp a]; exact SimE.bl
    | scr _ => rw [rep_scr.mp a]; exact SimE.bl
    | tup _ => obtain ⟨xs, rfl, _⟩ := rep_tup.mp a; exact SimE.bl
    | lst _ => obtain ⟨l, xs, rfl, _⟩ := rep_lst.mp a; exact SimE.bl
  | _ => exact SimE.no
theorem cop_sim {R : Nat -> Prop} {m : Me} {d e : Dat} {x y : Wd} (op : Co) (a : Rep R m d x) (b : Rep R m e y) : SimE R m (cop op x y m) (copD op d e) := by
  cases op with
  | eq => exact ofB_sim fun q h => eqD_sim h a b
  | ne => exact ofB_simN fun q h => eqD_sim h a b
  | isN => exact isN_sim a b
  | notN => exact notN_sim a b
  | isin =>
    simp only [cop, copD]
    cases z : seqD e with
    | none => exact SimE.no
    | some es =>
      obtain ⟨ys, h, q⟩ := seq_sim b z
      rw [h]; exact ofB_sim fun t h => inD_sim h a q
  | notin =>
    simp only [cop, copD]
    cases z : seqD e with
    | none => exact SimE.no
    | some es =>
      obtain ⟨ys, h, q⟩ := seq_sim b z
      rw [h]; exact ofB_simN fun t h => inD_sim h a q
  | lt => exact cmp_sim _ a b
  | le => exact cmp_sim _ a b
  | gt => exact cmp_sim _ a b
  | ge => exact cmp_sim _ a b
theorem isT_sim {R : Nat -> Prop} {m : Me} {d : Dat} {x : Wd} (t : Tg) (a : Rep R m d x) : SimE R m (ofB (isT t x m) m) (.ok (.bl (isD t d))) := by
  have h : isT t x m = some (isD t d) := by
    cases d with
    | non => rw [rep_non.mp a]; cases t <;> rfl
    | bl _ => rw [rep_bl.mp a]; cases t <;> rfl
    | int _ => rw [rep_int.mp a]; cases t <;> rfl
    | str _ => rw [rep_str.mp a]; cases t <;> rfl
    | scr _ => rw [rep_scr.mp a]; cases t <;> rfl
    | tup _ => obtain ⟨xs, rfl, _⟩ := rep_tup.mp a; cases t <;> rfl
    | lst _ => obtain ⟨l, xs, rfl, _, hm, _⟩ := rep_lst.mp a; cases t <;> (show (match m[l]? with | some (.lst _) => _ | some (.dct _) => _ | none => _) = _; rw [hm]; rfl)
  rw [h]; exact SimE.bl
theorem sum_sim {R : Nat -> Prop} {m : Me} : ∀ {ds : List Dat} {xs : List Wd} {i : Int}, RepL R m ds xs -> sumD ds = some i -> sumL xs = some i
  | [], xs, i, a, h => by rw [a.nil_inv]; exact h
  | d :: ds, xs, i, a, h => by
    obtain ⟨x, r, rfl, p, q⟩ := a.cons_inv
    cases d with
    | int j =>
      rw [rep_int.mp p]
      simp only [sumD, Option.map_eq_some_iff] at h
      obtain ⟨k, hk, rfl⟩ := h
      simp only [sumL, sum_sim q hk, Option.map_some]
    | _ => simp [sumD] at h
theorem all_sim {R : Nat -> Prop} {m : Me} : ∀ {ds : List Dat} {xs : List Wd} {i : Bool}, RepL R m ds xs -> allD ds = some i -> allL xs = some i
  | [], xs, i, a, h => by rw [a.nil_inv]; exact h
  | d :: ds, xs, i, a, h => by
    obtain ⟨x, r, rfl, p, q⟩ := a.cons_inv
    cases d with
    | bl j =>
      rw [rep_bl.mp p]
      simp only [allD, Option.map_eq_some_iff] at h
      obtain ⟨k, hk, rfl⟩ := h
      simp only [allL, all_sim q hk, Option.map_some]
    | _ => simp [allD] at h
theorem blt_sim {R : Nat -> Prop} {m : Me} {ds : List Dat} {xs : List Wd} (b : Blf) (a : RepL R m ds xs) : SimE R m (bltR b xs m) (bltD b ds) := by
  have one : ∀ {d : Dat} {xs : List Wd}, RepL R m [d] xs -> ∃ x, xs = [x] /\ Rep R m d x := by
    intro d xs h
    obtain ⟨x, r, rfl, p, q⟩ := h.cons_inv
    rw [q.nil_inv]; exact ⟨x, rfl, p⟩
  cases b with
  | len =>
    cases ds with
    | nil => exact SimE.no
    | cons d ds =>
      cases ds with
      | cons _ _ => exact SimE.no
      | nil =>
        obtain ⟨x, rfl, p⟩ := one a
        show SimE R m _ (match seqD d with | some i => .ok (.int i.length) | none => .no)
        cases z : seqD d with
        | none => exact SimE.no
        | some i =>
          obtain ⟨ys, h, q⟩ := seq_sim p z; simp only [bltR, h, q.len]; exact SimE.int
  | int =>
    cases ds with
    | nil => exact SimE.no
    | cons d ds =>
      cases d with
      | int i =>
        cases ds with
        | cons _ _ => exact SimE.no
        | nil => obtain ⟨x, rfl, p⟩ := one a; rw [rep_int.mp p]; exact SimE.int
      | bl i =>
        cases ds with
        | cons _ _ => exact SimE.no
        | nil => obtain ⟨x, rfl, p⟩ := one a; rw [rep_bl.mp p]; exact SimE.int
      | _ => exact SimE.no
  | list =>
    cases ds with
    | nil => exact SimE.no
    | cons d ds =>
      cases ds with
      | cons _ _ => exact SimE.no
      | nil =>
        obtain ⟨x, rfl, p⟩ := one a
        show SimE R m _ (match seqD d with | some i => newD i | none => .no)
        cases z : seqD d with
        | none => exact SimE.no
        | some i =>
          obtain ⟨ys, h, q⟩ := seq_sim p z; simp only [bltR, h]; exact SimE.new q
  | tuple =>
    cases ds with
    | nil => exact SimE.no
    | cons d ds =>
      cases ds with
      | cons _ _ => exact SimE.no
      | nil =>
        obtain ⟨x, rfl, p⟩ := one a
        show SimE R m _ (match seqD d with | some i => .ok (.tup i) | none => .no)
        cases z : seqD d with
        | none => exact SimE.no
        | some i =>
          obtain ⟨ys, h, q⟩ := seq_sim p z; simp only [bltR, h]; exact SimE.here (rep_tup.mpr ⟨_, rfl, q⟩)
  | sum =>
    cases ds with
    | nil => exact SimE.no
    | cons d ds =>
      cases ds with
      | cons _ _ => exact SimE.no
      | nil =>
        obtain ⟨x, rfl, p⟩ := one a
        show SimE R m _ (match (lsD d).bind sumD with | some i => .ok (.int i) | none => .no)
        cases z : (lsD d).bind sumD with
        | none => exact SimE.no
        | some i =>
          obtain ⟨es, z1, z2⟩ := Option.bind_eq_some_iff.mp z
          obtain ⟨ys, h, q⟩ := ls_sim p z1; simp only [bltR, h, Option.bind_some, sum_sim q z2]; exact SimE.int
  | all =>
    cases ds with
    | nil => exact SimE.no
    | cons d ds =>
      cases ds with
      | cons _ _ => exact SimE.no
      | nil =>
        obtain ⟨x, rfl, p⟩ := one a
        show SimE R m _ (match (lsD d).bind allD with | some i => .ok (.bl i) | none => .no)
        cases z : (lsD d).bind allD with
        | none => exact SimE.no
        | some i =>
          obtain ⟨es, z1, z2⟩ := Option.bind_eq_some_iff.mp z
          obtain ⟨ys, h, q⟩ := ls_sim p z1; simp only [bltR, h, Option.bind_some, all_sim q z2]; exact SimE.bl
  | abs =>
    cases ds with
    | nil => exact SimE.no
    | cons d ds =>
      cases d with
      | int i =>
        cases ds with
        | cons _ _ => exact SimE.no
        | nil => obtain ⟨x, rfl, p⟩ := one a; rw [rep_int.mp p]; exact SimE.int
      | _ => exact SimE.no
  | max2 =>
    cases ds with
    | nil => exact SimE.no
    | cons d ds =>
      cases d with
      | int i =>
        cases ds with
        | nil => exact SimE.no
        | cons e ds =>
          cases e with
          | int j =>
            cases ds with
            | cons _ _ => exact SimE.no
            | nil =>
              obtain ⟨x, r, rfl, p, q⟩ := a.cons_inv
              obtain ⟨y, rfl, q1⟩ := one q
              rw [rep_int.mp p, rep_int.mp q1]; exact SimE.int
          | _ => exact SimE.no
      | _ => exact SimE.no
  | min2 =>
    cases ds with
    | nil => exact SimE.no
    | cons d ds =>
      cases d with
      | int i =>
        cases ds with
        | nil => exact SimE.no
        | cons e ds =>
          cases e with
          | int j =>
            cases ds with
            | cons _ _ => exact SimE.no
            | nil =>
              obtain ⟨x, r, rfl, p, q⟩ := a.cons_inv
              obtain ⟨y, rfl, q1⟩ := one q
              rw [rep_int.mp p, rep_int.mp q1]; exact SimE.int
          | _ => exact SimE.no
      | _ => exact SimE.no
  | bool => exact SimE.no
  | minS => exact SimE.no
  | maxS => exact SimE.no
theorem idx_sim {R : Nat -> Prop} {m : Me} {d e : Dat} {x y : Wd} (a : Rep R m d x) (b : Rep R m e y) : SimE R m (idxR x y m) (idxD d e) := by
  cases e with
  | int i =>
    rw [rep_int.mp b]
    simp only [idxD, idxR]
    cases z : seqD d with
    | none => exact SimE.no
    | some ds =>
      obtain ⟨xs, h, q⟩ := seq_sim a z
      simp only [h]
      cases z : (ix ds.length i).bind fun j => ds[j]? with
      | none => exact SimE.no
      | some v =>
        obtain ⟨j, h1, h2⟩ := Option.bind_eq_some_iff.mp z
        obtain ⟨x, h3, p⟩ := q.get h2
        rw [q.len] at h1
        simp only [h1, Option.bind_some, h3]
        exact SimE.here p
  | _ => exact SimE.no
theorem sl_sim {R : Nat -> Prop} {m : Me} {d : Dat} {x : Wd} (lo hi : Option Int) (a : Rep R m d x) : SimE R m (slR x lo hi m) (slD d lo hi) := by
  simp only [slD, slR]
  cases z : lsD d with
  | none => exact SimE.no
  | some ds =>
    obtain ⟨xs, h, q⟩ := ls_sim a z
    simp only [h, q.len]
    exact SimE.new ((q.drop _).take _)
theorem rng_sim0 {R : Nat -> Prop} {m : Me} (st : Int) : ∀ (n : Nat) (lo : Int), RepL R m (rngF lo st n) (rngL lo st n)
  | 0, lo => .nil
  | n + 1, lo => by
    have h : rngF lo st (n + 1) = .int lo :: rngF (lo + st) st n := by
      unfold rngF
      rw [List.range_succ_eq_map, List.map_cons, List.map_map]
      congr 1
      . simp
      . apply List.map_congr_left
        intro i _
        show Dat.int _ = Dat.int _
        congr 1
        rw [show ((Nat.succ i : Nat) : Int) = (i : Int) + 1 from rfl, Int.mul_add, Int.mul_one]
        omega
    rw [h]
    exact .cons (rep_int.mpr rfl) (rng_sim0 st n _)
theorem rng_sim {R : Nat -> Prop} {m : Me} {d e f : Dat} {x y z : Wd} (a : Rep R m d x) (b : Rep R m e y) (c : Rep R m f z) : SimE R m (rngR x y z m) (rngD d e f) := by
  cases d with
  | int i =>
    cases e with
    | int j =>
      cases f with
      | int k =>
        rw [rep_int.mp a, rep_int.mp b, rep_int.mp c]
        simp only [rngR, rngD]
        split
        . exact SimE.here (rep_tup.mpr ⟨_, rfl, rng_sim0 k _ i⟩)
        . exact SimE.no
      | _ => exact SimE.no
    | _ => exact SimE.no
  | _ => exact SimE.no
theorem comp_simL {c e : Wd -> Me -> Rz} {cd ed : Dat -> Rd} {R : Nat -> Prop} {m0 : Me}
    (hc : ∀ (R' : Nat -> Prop) m d x, (∀ l, R l -> R' l) -> Le m0 m -> Rep R' m d x -> SimE R' m (c x m) (cd d)) (he : ∀ (R' : Nat -> Prop) m d x, (∀ l, R l -> R' l) -> Le m0 m -> Rep R' m d x -> SimE R' m (e x m) (ed d)) :
    ∀ (ds : List Dat) (xs : List Wd) (acc : List Dat) (acx : List Wd) (R' : Nat -> Prop) (m : Me), (∀ l, R l -> R' l) -> Le m0 m -> RepL R' m ds xs -> RepL R' m acc acx -> SimE R' m (compL c e xs acx m) (compD cd ed ds acc)
  | [], xs, acc, acx, R', m, hR, hm, a, b => by
    rw [a.nil_inv]
    unfold compL compD
    exact SimE.new b
  | d :: ds, xs, acc, acx, R', m, hR, hm, a, b => by
    obtain ⟨x, r, rfl, p, q⟩ := a.cons_inv
    unfold compL compD
    refine (hc R' m d x hR hm p).bind fun t w m1 l1 k1 => ?_
    cases t with
    | bl t =>
      rw [rep_bl.mp k1]
      cases t with
      | true =>
        refine (he _ m1 d x (fun l z => .inl (hR l z)) (hm.trans l1) (p.up _ l1)).bind fun t w m2 l2 k2 => ?_
        simp only [b.len]
        by_cases z : acx.length < lim
        . rw [if_pos z, if_pos z]
          exact comp_simL hc he ds r _ _ _ m2 (fun l z => .inl (.inl (hR l z))) ((hm.trans l1).trans l2) ((q.up _ l1).up _ l2) (((b.up _ l1).up _ l2).app (.cons k2 .nil))
        . rw [if_neg z, if_neg z]; exact SimE.no
      | false => exact comp_simL hc he ds r _ _ _ m1 (fun l z => .inl (hR l z)) (hm.trans l1) (q.up _ l1) (b.up _ l1)
    | _ => exact SimE.no
theorem comp_simR {c e : Wd -> Me -> Rz} {cd ed : Dat -> Rd} {R : Nat -> Prop} {m0 : Me} {l : Nat} {xs0 : List Wd} (hl : m0[l]? = some (.lst xs0))
    (hc : ∀ (R' : Nat -> Prop) m d x, (∀ l, R l -> R' l) -> Le m0 m -> Rep R' m d x -> SimE R' m (c x m) (cd d)) (he : ∀ (R' : Nat -> Prop) m d x, (∀ l, R l -> R' l) -> Le m0 m -> Rep R' m d x -> SimE R' m (e x m) (ed d)) :
    ∀ (ds : List Dat) (i k : Nat) (acc : List Dat) (acx : List Wd) (R' : Nat -> Prop) (m : Me), (∀ l, R l -> R' l) -> Le m0 m -> RepL R' m ds (xs0.drop i) -> i + ds.length = xs0.length -> ds.length < k -> RepL R' m acc acx -> SimE R' m (compR c e l k i acx m) (compD cd ed ds acc)
  | [], i, 0, acc, acx, R', m, hR, hm, a, hi, hk, b => by simp at hk
  | d :: ds, i, 0, acc, acx, R', m, hR, hm, a, hi, hk, b => by simp at hk
  | [], i, k + 1, acc, acx, R', m, hR, hm, a, hi, hk, b => by
    unfold compR compD lstAt
    rw [hm l _ hl]
    simp only
    rw [List.getElem?_eq_none (by simp at hi; omega)]
    exact SimE.new b
  | d :: ds, i, k + 1, acc, acx, R', m, hR, hm, a, hi, hk, b => by
    obtain ⟨x, r, e0, p, q⟩ := a.cons_inv
    have hx : xs0[i]? = some x := by
      have : (xs0.drop i)[0]? = some x := by rw [e0]; rfl
      simpa using this
    have hr : r = xs0.drop (i + 1) := by
      have : (xs0.drop i).drop 1 = r := by rw [e0]; rfl
      rw [<- this, List.drop_drop]
    rw [hr] at q
    have hi' : i + 1 + ds.length = xs0.length := by simp at hi; omega
    have hk' : ds.length < k := by simp at hk; omega
    unfold compR compD lstAt
    rw [hm l _ hl]
    simp only
    rw [hx]
    simp only
    refine (hc R' m d x hR hm p).bind fun t w m1 l1 k1 => ?_
    cases t with
    | bl t =>
      rw [rep_bl.mp k1]
      cases t with
      | true =>
        refine (he _ m1 d x (fun l z => .inl (hR l z)) (hm.trans l1) (p.up _ l1)).bind fun t w m2 l2 k2 => ?_
        simp only [b.len]
        by_cases z : acx.length < lim
        . rw [if_pos z, if_pos z]
          exact comp_simR hl hc he ds (i + 1) k _ _ _ m2 (fun l z => .inl (.inl (hR l z))) ((hm.trans l1).trans l2) ((q.up _ l1).up _ l2) hi' hk' (((b.up _ l1).up _ l2).app (.cons k2 .nil))
        . rw [if_neg z, if_neg z]; exact SimE.no
      | false => exact comp_simR hl hc he ds (i + 1) k _ _ _ m1 (fun l z => .inl (hR l z)) (hm.trans l1) (q.up _ l1) hi' hk' (b.up _ l1)
    | _ => exact SimE.no
def PairR (R : Nat -> Prop) (m0 : Me) (ps : List (Dat × Dat)) (g : Nat -> Me -> Option (Option (Wd × Wd))) : Prop :=
  ∀ m, Le m0 m -> (∀ i p, ps[i]? = some p -> ∃ a b, g i m = some (some (a, b)) /\ Rep R m p.1 a /\ Rep R m p.2 b) /\ ∀ i, ps.length <= i -> g i m = some none
theorem zip_get {α β : Type} : ∀ {xs : List α} {ys : List β} {i : Nat} {p : α × β}, (xs.zip ys)[i]? = some p -> xs[i]? = some p.1 /\ ys[i]? = some p.2
  | [], _, i, p, h => by simp at h
  | _ :: _, [], i, p, h => by simp at h
  | x :: xs, y :: ys, 0, p, h => by simp at h; subst h; exact ⟨rfl, rfl⟩
  | x :: xs, y :: ys, i + 1, p, h => by
    have h' : (xs.zip ys)[i]? = some p := by simpa using h
    simpa using zip_get h'
theorem pairs_rep {R : Nat -> Prop} {m0 : Me} {k : Kd} {x y : Dat} {a b : Wd} {ps : List (Dat × Dat)} (e : pairsD k x y = some ps) (hx : Rep R m0 x a) (hy : Rep R m0 y b) : PairR R m0 ps (pairAt k a b) /\ ps.length <= lim := by
  unfold pairsD at e
  split at e
  . obtain ⟨l, xs, rfl, _, e1, k1⟩ := rep_lst.mp hx
    obtain ⟨l', ys, rfl, _, e2, k2⟩ := rep_lst.mp hy
    split at e
    . next z =>
      cases e
      refine ⟨fun m h => ⟨fun i p q => ?_, fun i q => ?_⟩, by simp; omega⟩
      . obtain ⟨z1, z2⟩ := zip_get q
        obtain ⟨a, a1, a2⟩ := k1.get z1
        obtain ⟨b, b1, b2⟩ := k2.get z2
        refine ⟨a, b, ?_, Rep.frame (fun l o r z => ⟨r, h l o z⟩) _ _ a2, Rep.frame (fun l o r z => ⟨r, h l o z⟩) _ _ b2⟩
        simp only [pairAt, lstAt]
        rw [h _ _ e1, h _ _ e2]
        simp only [a1, b1]
      . simp only [pairAt, lstAt]
        rw [h _ _ e1, h _ _ e2]
        have l1 := k1.len
        have l2 := k2.len
        simp only [List.length_zip] at q
        simp only
        rcases Nat.le_total xs.length ys.length with z3 | z3
        . rw [List.getElem?_eq_none (by omega)]
        . rw [List.getElem?_eq_none (l := ys) (by omega)]
          cases xs[i]? <;> rfl
    . cases e
  . rename_i xs0 st
    obtain ⟨l, xs, rfl, _, e1, k1⟩ := rep_lst.mp hx
    rw [rep_int.mp hy]
    split at e
    . next z =>
      cases e
      have l1 := k1.len
      refine ⟨fun m h => ⟨fun i p q => ?_, fun i q => ?_⟩, by simp [rngF]; omega⟩
      . obtain ⟨z1, z2⟩ := zip_get q
        obtain ⟨a, a1, a2⟩ := k1.get z2
        have hp : p.1 = .int (st + (i : Int)) := by
          simp only [rngF, List.getElem?_map] at z1
          cases hr : (List.range xs0.length)[i]? with
          | none => rw [hr] at z1; cases z1
          | some j =>
            rw [hr] at z1
            have := List.getElem?_eq_some_iff.mp hr
            obtain ⟨_, hj⟩ := this
            simp only [List.getElem_range] at hj
            subst hj
            simp only [Option.map_some, Option.some.injEq, Int.one_mul] at z1
            exact z1.symm
        refine ⟨.int (st + (i : Int)), a, ?_, by rw [hp]; exact rep_int.mpr rfl, Rep.frame (fun l o r z => ⟨r, h l o z⟩) _ _ a2⟩
        simp only [pairAt, lstAt]
        rw [h _ _ e1]
        simp only [a1, Option.map_some]
      . simp only [pairAt, lstAt]
        rw [h _ _ e1]
        simp only [rngF, List.length_zip, List.length_map, List.length_range] at q
        simp only
        rw [List.getElem?_eq_none (by omega)]
        rfl
    . cases e
  . cases e
def vars : Ex -> List Nat
  | .var i => [i]
  | .lit _ => []
  | .bin _ a b => vars a ++ vars b
  | .neg a => vars a
  | .not a => vars a
  | .and a b => vars a ++ vars b
  | .or a b => vars a ++ vars b
  | .cmp _ a b => vars a ++ vars b
  | .chain _ _ a b c => vars a ++ (vars b ++ vars c)
  | .ife c a b => vars c ++ (vars a ++ vars b)
  | .unit => []
  | .pair a b => vars a ++ vars b
  | .call _ a => vars a
  | .blt _ a => vars a
  | .isi _ a => vars a
  | .lst a => vars a
  | .tup a => vars a
  | .dict0 => []
  | .idx a b => vars a ++ vars b
  | .slL a b => vars a ++ vars b
  | .slH a b => vars a ++ vars b
  | .slB a b c => vars a ++ (vars b ++ vars c)
  | .meth _ a b => vars a ++ vars b
  | .rng a b c => vars a ++ (vars b ++ vars c)
  | .comp e i c => vars i ++ (vars e ++ vars c)
  | .lrng a => vars a
  | .compP _ e a b c => vars a ++ (vars b ++ (vars e ++ vars c))
@[simp] theorem vars_var (i : Nat) : vars (.var i) = [i] := rfl
@[simp] theorem vars_lit (w : Wd) : vars (.lit w) = [] := rfl
@[simp] theorem vars_idx (a b : Ex) : vars (.idx a b) = vars a ++ vars b := rfl
@[simp] theorem vars_tup (a : Ex) : vars (.tup a) = vars a := rfl
@[simp] theorem vars_pair (a b : Ex) : vars (.pair a b) = vars a ++ vars b := rfl
@[simp] theorem vars_unit  : vars (.unit) = [] := rfl
@[simp] theorem vars_bin (op : Bo) (a b : Ex) : vars (.bin op a b) = vars a ++ vars b := rfl
@[simp] theorem vars_call (k : Nat) (a : Ex) : vars (.call k a) = vars a := rfl
@[simp] theorem vars_neg (a : Ex) : vars (.neg a) = vars a := rfl
@[simp] theorem vars_lst (a : Ex) : vars (.lst a) = vars a := rfl
def EnvR (R : Nat -> Prop) (m : Me) (vs : List Nat) (de : DEn) (env : En) : Prop :=
  de.length = env.length /\ ∀ i ∈ vs, ∀ d, de[i]? = some (some d) -> ∃ w, env[i]? = some (some w) /\ Rep R m d w
theorem EnvR.up {R R' : Nat -> Prop} {m m' : Me} {vs : List Nat} {de : DEn} {env : En} (hR : ∀ l, R l -> R' l) (h : Le m m') (q : EnvR R m vs de env) : EnvR R' m' vs de env :=
  ⟨q.1, fun i hi d z => by
    obtain ⟨w, a, b⟩ := q.2 i hi d z
    exact ⟨w, a, Rep.frame (fun l o r k => ⟨hR l r, h l o k⟩) d w b⟩⟩
theorem EnvR.sub {R : Nat -> Prop} {m : Me} {vs us : List Nat} {de : DEn} {env : En} (h : ∀ i ∈ us, i ∈ vs) (q : EnvR R m vs de env) : EnvR R m us de env :=
  ⟨q.1, fun i hi => q.2 i (h i hi)⟩
theorem EnvR.left {R : Nat -> Prop} {m : Me} {us vs : List Nat} {de : DEn} {env : En} (q : EnvR R m (us ++ vs) de env) : EnvR R m us de env := q.sub fun _ h => List.mem_append_left _ h
theorem EnvR.right {R : Nat -> Prop} {m : Me} {us vs : List Nat} {de : DEn} {env : En} (q : EnvR R m (us ++ vs) de env) : EnvR R m vs de env := q.sub fun _ h => List.mem_append_right _ h
theorem EnvR.push {R : Nat -> Prop} {m : Me} {vs : List Nat} {de : DEn} {env : En} {d : Dat} {w : Wd} (q : EnvR R m vs de env) (h : Rep R m d w) : EnvR R m vs (de ++ [some d]) (env ++ [some w]) := by
  refine ⟨by simp [q.1], fun i hi e z => ?_⟩
  rw [List.getElem?_append] at z
  split at z
  . next k =>
    obtain ⟨w, a, b⟩ := q.2 i hi e z
    exact ⟨w, by rw [List.getElem?_append_left (by rw [<- q.1]; exact k)]; exact a, b⟩
  . next k =>
    rw [List.getElem?_append_right (by rw [<- q.1]; omega), <- q.1]
    have : i - de.length = 0 := by
      rcases Nat.eq_zero_or_pos (i - de.length) with z0 | z0
      . exact z0
      . rw [List.getElem?_eq_none (by simp; omega)] at z; cases z
    rw [this] at z ⊢
    cases z
    exact ⟨w, rfl, h⟩
def CallR (cl : Nat -> List Wd -> Me -> Rz) (cd : Nat -> List Dat -> Rd) : Prop := ∀ (k : Nat) (ds : List Dat) (ws : List Wd) (R : Nat -> Prop) (m : Me), RepL R m ds ws -> SimE R m (cl k ws m) (cd k ds)
theorem args_sim {R : Nat -> Prop} {m : Me} {d : Dat} {w : Wd} (h : Rep R m d w) : RepL R m (argsD d) (argsOf w) := by
  cases d with
  | tup ds => obtain ⟨xs, rfl, q⟩ := rep_tup.mp h; exact q
  | non => rw [rep_non.mp h]; exact .nil
  | bl _ => rw [rep_bl.mp h]; exact .nil
  | int _ => rw [rep_int.mp h]; exact .nil
  | str _ => rw [rep_str.mp h]; exact .nil
  | scr _ => rw [rep_scr.mp h]; exact .nil
  | lst _ => obtain ⟨l, xs, rfl, _⟩ := rep_lst.mp h; exact .nil
theorem ev_read {cl : Nat -> List Wd -> Me -> Rz} {cd : Nat -> List Dat -> Rd} (H : CallR cl cd) : ∀ (e : Ex) (R : Nat -> Prop) (m : Me) (de : DEn) (env : En), EnvR R m (vars e) de env -> SimE R m (evE cl e env m) (evD cd e de)
  | .var i, R, m, de, env, q => by
    cases z : de[i]? with
    | none => rw [evD_none (.inl z)]; exact SimE.no
    | some o =>
      cases o with
      | none => rw [evD_none (.inr z)]; exact SimE.no
      | some d =>
        obtain ⟨w, a, b⟩ := q.2 i (List.mem_singleton.mpr rfl) d z
        rw [evD_some z, evE_some a]; exact SimE.here b
  | .lit w, R, m, de, env, q => by
    cases w <;> first | exact SimE.no | (exact SimE.here (by unfold Rep; rfl))
  | .bin op a b, R, m, de, env, q => by
    refine (ev_read H a R m de env q.left).bind fun d w m1 l1 k1 => ?_
    refine (ev_read H b _ m1 de env (q.right.up (fun _ => .inl) l1)).bind fun d2 w2 m2 l2 k2 => ?_
    exact bop_sim op (k1.up _ l2) k2
  | .neg a, R, m, de, env, q => by
    refine (ev_read H a R m de env q).bind fun d w m1 l1 k1 => ?_
    cases d with
    | int i => rw [rep_int.mp k1]; exact SimE.int
    | _ => exact SimE.no
  | .not a, R, m, de, env, q => by
    refine (ev_read H a R m de env q).bind fun d w m1 l1 k1 => ?_
    cases d with
    | bl i => rw [rep_bl.mp k1]; exact SimE.bl
    | _ => exact SimE.no
  | .and a b, R, m, de, env, q => by
    refine (ev_read H a R m de env q.left).bind fun d w m1 l1 k1 => ?_
    cases d with
    | bl i =>
      rw [rep_bl.mp k1]
      cases i with
      | true => exact ev_read H b _ m1 de env (q.right.up (fun _ => .inl) l1)
      | false => exact SimE.bl
    | _ => exact SimE.no
  | .or a b, R, m, de, env, q => by
    refine (ev_read H a R m de env q.left).bind fun d w m1 l1 k1 => ?_
    cases d with
    | bl i =>
      rw [rep_bl.mp k1]
      cases i with
      | false => exact ev_read H b _ m1 de env (q.right.up (fun _ => .inl) l1)
      | true => exact SimE.bl
    | _ => exact SimE.no
  | .cmp op a b, R, m, de, env, q => by
    refine (ev_read H a R m de env q.left).bind fun d w m1 l1 k1 => ?_
    refine (ev_read H b _ m1 de env (q.right.up (fun _ => .inl) l1)).bind fun d2 w2 m2 l2 k2 => ?_
    exact cop_sim op (k1.up _ l2) k2
  | .chain o p a b c, R, m, de, env, q => by
    refine (ev_read H a R m de env q.left).bind fun d w m1 l1 k1 => ?_
    refine (ev_read H b _ m1 de env (q.right.left.up (fun _ => .inl) l1)).bind fun d2 w2 m2 l2 k2 => ?_
    refine (cop_sim o (k1.up _ l2) k2).bind fun d3 w3 m3 l3 k3 => ?_
    cases d3 with
    | bl i =>
      rw [rep_bl.mp k3]
      cases i with
      | false => exact SimE.bl
      | true =>
        refine (ev_read H c _ m3 de env (q.right.right.up (fun _ h => .inl (.inl (.inl h))) ((l1.trans l2).trans l3))).bind fun d4 w4 m4 l4 k4 => ?_
        exact cop_sim p ((k2.up _ l3).up _ l4) k4
    | _ => exact SimE.no
  | .ife c a b, R, m, de, env, q => by
    refine (ev_read H c R m de env q.left).bind fun d w m1 l1 k1 => ?_
    cases d with
    | bl i =>
      rw [rep_bl.mp k1]
      cases i with
      | true => exact ev_read H a _ m1 de env (q.right.left.up (fun _ => .inl) l1)
      | false => exact ev_read H b _ m1 de env (q.right.right.up (fun _ => .inl) l1)
    | _ => exact SimE.no
  | .unit, R, m, de, env, q => by
    exact SimE.here (rep_tup.mpr ⟨[], rfl, .nil⟩)
  | .pair a b, R, m, de, env, q => by
    refine (ev_read H a R m de env q.left).bind fun d w m1 l1 k1 => ?_
    refine (ev_read H b _ m1 de env (q.right.up (fun _ => .inl) l1)).bind fun d2 w2 m2 l2 k2 => ?_
    exact SimE.here (rep_tup.mpr ⟨_, rfl, .cons (k1.up _ l2) (args_sim k2)⟩)
  | .call k a, R, m, de, env, q => by
    refine (ev_read H a R m de env q).bind fun d w m1 l1 k1 => ?_
    exact H k _ _ _ m1 (args_sim k1)
  | .blt b a, R, m, de, env, q => by
    refine (ev_read H a R m de env q).bind fun d w m1 l1 k1 => ?_
    exact blt_sim b (args_sim k1)
  | .isi t a, R, m, de, env, q => by
    refine (ev_read H a R m de env q).bind fun d w m1 l1 k1 => ?_
    exact isT_sim t k1
  | .lst a, R, m, de, env, q => by
    refine (ev_read H a R m de env q).bind fun d w m1 l1 k1 => ?_
    exact SimE.new (args_sim k1)
  | .tup a, R, m, de, env, q => by
    refine (ev_read H a R m de env q).bind fun d w m1 l1 k1 => ?_
    have k2 := args_sim k1
    simp only [k2.len]
    split
    . exact SimE.here (rep_tup.mpr ⟨_, rfl, k2⟩)
    . exact SimE.no
  | .dict0, R, m, de, env, q => by
    exact SimE.no
  | .idx a b, R, m, de, env, q => by
    refine (ev_read H a R m de env q.left).bind fun d w m1 l1 k1 => ?_
    refine (ev_read H b _ m1 de env (q.right.up (fun _ => .inl) l1)).bind fun d2 w2 m2 l2 k2 => ?_
    exact idx_sim (k1.up _ l2) k2
  | .slL a b, R, m, de, env, q => by
    refine (ev_read H a R m de env q.left).bind fun d w m1 l1 k1 => ?_
    refine (ev_read H b _ m1 de env (q.right.up (fun _ => .inl) l1)).bind fun d2 w2 m2 l2 k2 => ?_
    cases d2 with
    | int i => rw [rep_int.mp k2]; exact sl_sim _ _ (k1.up _ l2)
    | _ => exact SimE.no
  | .slH a b, R, m, de, env, q => by
    refine (ev_read H a R m de env q.left).bind fun d w m1 l1 k1 => ?_
    refine (ev_read H b _ m1 de env (q.right.up (fun _ => .inl) l1)).bind fun d2 w2 m2 l2 k2 => ?_
    cases d2 with
    | int i => rw [rep_int.mp k2]; exact sl_sim _ _ (k1.up _ l2)
    | _ => exact SimE.no
  | .slB a b c, R, m, de, env, q => by
    refine (ev_read H a R m de env q.left).bind fun d w m1 l1 k1 => ?_
    refine (ev_read H b _ m1 de env (q.right.left.up (fun _ => .inl) l1)).bind fun d2 w2 m2 l2 k2 => ?_
    cases d2 with
    | int i =>
      rw [rep_int.mp k2]
      refine (ev_read H c _ m2 de env (q.right.right.up (fun _ h => .inl (.inl h)) (l1.trans l2))).bind fun d3 w3 m3 l3 k3 => ?_
      cases d3 with
      | int j => rw [rep_int.mp k3]; exact sl_sim _ _ ((k1.up _ l2).up _ l3)
      | _ => exact SimE.no
    | _ => exact SimE.no
  | .meth _ _ _, R, m, de, env, q => by
    exact SimE.no
  | .rng a b c, R, m, de, env, q => by
    refine (ev_read H a R m de env q.left).bind fun d w m1 l1 k1 => ?_
    refine (ev_read H b _ m1 de env (q.right.left.up (fun _ => .inl) l1)).bind fun d2 w2 m2 l2 k2 => ?_
    refine (ev_read H c _ m2 de env (q.right.right.up (fun _ h => .inl (.inl h)) (l1.trans l2))).bind fun d3 w3 m3 l3 k3 => ?_
    exact rng_sim ((k1.up _ l2).up _ l3) (k2.up _ l3) k3
  | .lrng a, R, m, de, env, q => by
    refine (ev_read H a R m de env q).bind fun d w m1 l1 k1 => ?_
    cases d with
    | int j =>
      rw [rep_int.mp k1]
      simp only
      split
      . exact SimE.new (rng_sim0 1 _ 0)
      . exact SimE.no
    | _ => exact SimE.no
  | .comp elt it cond, R, m, de, env, q => by
    refine (ev_read H it R m de env q.left).bind fun d w m1 l1 k1 => ?_
    have hc : ∀ (R' : Nat -> Prop) m' d x, (∀ l, Rf R m.length l -> R' l) -> Le m1 m' -> Rep R' m' d x -> SimE R' m' (evE cl cond (env ++ [some x]) m') (evD cd cond (de ++ [some d])) :=
      fun R' m' d x hR l k => ev_read H cond R' m' _ _ ((q.right.right.up (fun l h => hR l (.inl h)) (l1.trans l)).push k)
    have he : ∀ (R' : Nat -> Prop) m' d x, (∀ l, Rf R m.length l -> R' l) -> Le m1 m' -> Rep R' m' d x -> SimE R' m' (evE cl elt (env ++ [some x]) m') (evD cd elt (de ++ [some d])) :=
      fun R' m' d x hR l k => ev_read H elt R' m' _ _ ((q.right.left.up (fun l h => hR l (.inl h)) (l1.trans l)).push k)
    cases d with
    | tup ds =>
      obtain ⟨xs, rfl, k2⟩ := rep_tup.mp k1
      exact comp_simL hc he ds xs [] [] _ m1 (fun _ h => h) (Le.refl _) k2 .nil
    | scr ns =>
      rw [rep_scr.mp k1]
      exact comp_simL hc he (ns.map .int) (ns.map .int) [] [] _ m1 (fun _ h => h) (Le.refl _) (RepL.ints ns) .nil
    | lst ds =>
      obtain ⟨l, xs, rfl, _, hm, k2⟩ := rep_lst.mp k1
      simp only [itD]
      by_cases z : ds.length <= lim
      . rw [if_pos z]
        have hl := k2.len
        exact comp_simR hm hc he ds 0 (lim + 1) [] [] _ m1 (fun _ h => h) (Le.refl _) (by simpa using k2) (by omega) (by omega) .nil
      . rw [if_neg z]; exact SimE.no
    | _ => exact SimE.no
  | .compP _ _ _ _ _, R, m, de, env, q => SimE.no
mutual
def Own (m : Me) : Dat -> Wd -> List Nat -> Prop
  | .non, w, A => w = .non /\ A = []
  | .bl b, w, A => w = .bl b /\ A = []
  | .int i, w, A => w = .int i /\ A = []
  | .str s, w, A => w = .str s /\ A = []
  | .scr ns, w, A => w = .rol (ns.map Wd.int) /\ A = []
  | .tup ds, w, A => ∃ xs, w = .tup xs /\ OwnL m ds xs A
  | .lst ds, w, A => ∃ l xs B, w = .ref l /\ A = l :: B /\ m[l]? = some (.lst xs) /\ OwnL m ds xs B
def OwnL (m : Me) : List Dat -> List Wd -> List Nat -> Prop
  | [], xs, A => xs = [] /\ A = []
  | d :: ds, xs, A => ∃ x r B C, xs = x :: r /\ A = B ++ C /\ Own m d x B /\ OwnL m ds r C
end
theorem own_lst {m : Me} {ds : List Dat} {w : Wd} {A : List Nat} : Own m (.lst ds) w A ↔ ∃ l xs B, w = .ref l /\ A = l :: B /\ m[l]? = some (.lst xs) /\ OwnL m ds xs B := by
  constructor
  . intro h; unfold Own at h; exact h
  . intro h; unfold Own; exact h
theorem own_tup {m : Me} {ds : List Dat} {w : Wd} {A : List Nat} : Own m (.tup ds) w A ↔ ∃ xs, w = .tup xs /\ OwnL m ds xs A := by
  constructor
  . intro h; unfold Own at h; exact h
  . intro h; unfold Own; exact h
theorem OwnL.cons_inv {m : Me} {d : Dat} {ds : List Dat} {xs : List Wd} {A : List Nat} (h : OwnL m (d :: ds) xs A) : ∃ x r B C, xs = x :: r /\ A = B ++ C /\ Own m d x B /\ OwnL m ds r C := by unfold OwnL at h; exact h
theorem OwnL.nil_inv {m : Me} {xs : List Wd} {A : List Nat} (h : OwnL m [] xs A) : xs = [] /\ A = [] := by unfold OwnL at h; exact h
theorem OwnL.nil {m : Me} : OwnL m [] [] [] := by unfold OwnL; exact ⟨rfl, rfl⟩
theorem OwnL.cons {m : Me} {d : Dat} {ds : List Dat} {x : Wd} {xs : List Wd} {B C : List Nat} (a : Own m d x B) (b : OwnL m ds xs C) : OwnL m (d :: ds) (x :: xs) (B ++ C) := by
  unfold OwnL; exact ⟨x, xs, B, C, rfl, rfl, a, b⟩
theorem OwnL.app {m : Me} : ∀ {ds es : List Dat} {xs ys : List Wd} {A B : List Nat}, OwnL m ds xs A -> OwnL m es ys B -> OwnL m (ds ++ es) (xs ++ ys) (A ++ B)
  | [], es, xs, ys, A, B, a, b => by rw [a.nil_inv.1, a.nil_inv.2]; exact b
  | d :: ds, es, xs, ys, A, B, a, b => by
    obtain ⟨x, r, P, Q, rfl, rfl, p, q⟩ := a.cons_inv
    rw [List.append_assoc]
    exact .cons p (OwnL.app q b)
mutual
theorem Own.frame {m m' : Me} : ∀ (d : Dat) (w : Wd) (A : List Nat), (∀ l ∈ A, ∀ o, m[l]? = some o -> m'[l]? = some o) -> Own m d w A -> Own m' d w A
  | .non, w, A, h, q => by unfold Own at q ⊢; exact q
  | .bl _, w, A, h, q => by unfold Own at q ⊢; exact q
  | .int _, w, A, h, q => by unfold Own at q ⊢; exact q
  | .str _, w, A, h, q => by unfold Own at q ⊢; exact q
  | .scr _, w, A, h, q => by unfold Own at q ⊢; exact q
  | .tup ds, w, A, h, q => by
    obtain ⟨xs, rfl, q1⟩ := own_tup.mp q
    exact own_tup.mpr ⟨xs, rfl, OwnL.frame ds xs A h q1⟩
  | .lst ds, w, A, h, q => by
    obtain ⟨l, xs, B, rfl, rfl, hm, q1⟩ := own_lst.mp q
    exact own_lst.mpr ⟨l, xs, B, rfl, rfl, h l List.mem_cons_self _ hm, OwnL.frame ds xs B (fun l hl => h l (List.mem_cons_of_mem _ hl)) q1⟩
theorem OwnL.frame {m m' : Me} : ∀ (ds : List Dat) (xs : List Wd) (A : List Nat), (∀ l ∈ A, ∀ o, m[l]? = some o -> m'[l]? = some o) -> OwnL m ds xs A -> OwnL m' ds xs A
  | [], xs, A, h, q => by rw [q.nil_inv.1, q.nil_inv.2]; exact .nil
  | d :: ds, xs, A, h, q => by
    obtain ⟨x, r, B, C, rfl, rfl, a, b⟩ := q.cons_inv
    exact .cons (Own.frame d x B (fun l hl => h l (List.mem_append_left _ hl)) a) (OwnL.frame ds r C (fun l hl => h l (List.mem_append_right _ hl)) b)
end
mutual
theorem Own.rep {m : Me} {R : Nat -> Prop} : ∀ (d : Dat) (w : Wd) (A : List Nat), (∀ l ∈ A, R l) -> Own m d w A -> Rep R m d w
  | .non, w, A, h, q => by unfold Own at q; exact rep_non.mpr q.1
  | .bl _, w, A, h, q => by unfold Own at q; exact rep_bl.mpr q.1
  | .int _, w, A, h, q => by unfold Own at q; exact rep_int.mpr q.1
  | .str _, w, A, h, q => by unfold Own at q; exact rep_str.mpr q.1
  | .scr _, w, A, h, q => by unfold Own at q; exact rep_scr.mpr q.1
  | .tup ds, w, A, h, q => by
    obtain ⟨xs, rfl, q1⟩ := own_tup.mp q
    exact rep_tup.mpr ⟨xs, rfl, OwnL.rep ds xs A h q1⟩
  | .lst ds, w, A, h, q => by
    obtain ⟨l, xs, B, rfl, rfl, hm, q1⟩ := own_lst.mp q
    exact rep_lst.mpr ⟨l, xs, rfl, h l List.mem_cons_self, hm, OwnL.rep ds xs B (fun l hl => h l (List.mem_cons_of_mem _ hl)) q1⟩
theorem OwnL.rep {m : Me} {R : Nat -> Prop} : ∀ (ds : List Dat) (xs : List Wd) (A : List Nat), (∀ l ∈ A, R l) -> OwnL m ds xs A -> RepL R m ds xs
  | [], xs, A, h, q => by rw [q.nil_inv.1]; exact .nil
  | d :: ds, xs, A, h, q => by
    obtain ⟨x, r, B, C, rfl, rfl, a, b⟩ := q.cons_inv
    exact .cons (Own.rep d x B (fun l hl => h l (List.mem_append_left _ hl)) a) (OwnL.rep ds r C (fun l hl => h l (List.mem_append_right _ hl)) b)
end
mutual
theorem Own.lt {m : Me} : ∀ (d : Dat) (w : Wd) (A : List Nat), Own m d w A -> ∀ l ∈ A, l < m.length
  | .non, w, A, q => by unfold Own at q; rw [q.2]; simp
  | .bl _, w, A, q => by unfold Own at q; rw [q.2]; simp
  | .int _, w, A, q => by unfold Own at q; rw [q.2]; simp
  | .str _, w, A, q => by unfold Own at q; rw [q.2]; simp
  | .scr _, w, A, q => by unfold Own at q; rw [q.2]; simp
  | .tup ds, w, A, q => by
    obtain ⟨xs, rfl, q1⟩ := own_tup.mp q
    exact OwnL.lt ds xs A q1
  | .lst ds, w, A, q => by
    obtain ⟨l, xs, B, rfl, rfl, hm, q1⟩ := own_lst.mp q
    intro k hk
    rcases List.mem_cons.mp hk with rfl | hk
    . exact (List.getElem?_eq_some_iff.mp hm).1
    . exact OwnL.lt ds xs B q1 k hk
theorem OwnL.lt {m : Me} : ∀ (ds : List Dat) (xs : List Wd) (A : List Nat), OwnL m ds xs A -> ∀ l ∈ A, l < m.length
  | [], xs, A, q => by rw [q.nil_inv.2]; simp
  | d :: ds, xs, A, q => by
    obtain ⟨x, r, B, C, rfl, rfl, a, b⟩ := q.cons_inv
    intro k hk
    rcases List.mem_append.mp hk with hk | hk
    . exact Own.lt d x B a k hk
    . exact OwnL.lt ds r C b k hk
end
mutual
theorem Rep.flat {R : Nat -> Prop} {m m' : Me} : ∀ (d : Dat) (w : Wd), flat d = true -> Rep R m d w -> Own m' d w []
  | .non, w, h, q => by unfold Own; exact ⟨rep_non.mp q, rfl⟩
  | .bl _, w, h, q => by unfold Own; exact ⟨rep_bl.mp q, rfl⟩
  | .int _, w, h, q => by unfold Own; exact ⟨rep_int.mp q, rfl⟩
  | .str _, w, h, q => by unfold Own; exact ⟨rep_str.mp q, rfl⟩
  | .scr _, w, h, q => by unfold Own; exact ⟨rep_scr.mp q, rfl⟩
  | .tup ds, w, h, q => by
    obtain ⟨xs, rfl, q1⟩ := rep_tup.mp q
    exact own_tup.mpr ⟨xs, rfl, RepL.flat ds xs (by unfold Vl.flat at h; exact h) q1⟩
  | .lst ds, w, h, q => by unfold Vl.flat at h; cases h
theorem RepL.flat {R : Nat -> Prop} {m m' : Me} : ∀ (ds : List Dat) (xs : List Wd), flatL ds = true -> RepL R m ds xs -> OwnL m' ds xs []
  | [], xs, h, q => by rw [q.nil_inv]; exact .nil
  | d :: ds, xs, h, q => by
    obtain ⟨x, r, rfl, a, b⟩ := q.cons_inv
    unfold flatL at h
    rw [Bool.and_eq_true] at h
    exact OwnL.cons (B := []) (C := []) (Rep.flat d x h.1 a) (RepL.flat ds r h.2 b)
end
def RepO (R : Nat -> Prop) (m : Me) (lv : Lv) (d : Dat) (w : Wd) (A : List Nat) : Prop := match lv with
  | .no => Rep R m d w /\ A = []
  | .top => ∃ ds l xs, d = .lst ds /\ w = .ref l /\ A = [l] /\ m[l]? = some (.lst xs) /\ RepL R m ds xs
  | .full => Own m d w A
theorem RepO.rep {R R' : Nat -> Prop} {m : Me} {lv : Lv} {d : Dat} {w : Wd} {A : List Nat} (h : ∀ l, R l -> R' l) (k : ∀ l ∈ A, R' l) (q : RepO R m lv d w A) : Rep R' m d w := by
  cases lv with
  | no => exact Rep.frame (fun l o r z => ⟨h l r, z⟩) d w q.1
  | top =>
    obtain ⟨ds, l, xs, rfl, rfl, rfl, hm, a⟩ := q
    exact rep_lst.mpr ⟨l, xs, rfl, k l (by simp), hm, RepL.frame (fun l o r z => ⟨h l r, z⟩) ds xs a⟩
  | full => exact Own.rep d w A k q
theorem RepO.frame {R R' : Nat -> Prop} {m m' : Me} {lv : Lv} {d : Dat} {w : Wd} {A : List Nat} (h : ∀ (l : Nat) o, R l -> m[l]? = some o -> R' l /\ m'[l]? = some o) (k : ∀ l ∈ A, ∀ o, m[l]? = some o -> m'[l]? = some o) (q : RepO R m lv d w A) : RepO R' m' lv d w A := by
  cases lv with
  | no => exact ⟨Rep.frame h d w q.1, q.2⟩
  | top =>
    obtain ⟨ds, l, xs, rfl, rfl, rfl, hm, a⟩ := q
    exact ⟨ds, l, xs, rfl, rfl, rfl, k l (by simp) _ hm, RepL.frame h ds xs a⟩
  | full => exact Own.frame d w A k q
theorem RepO.lt {R : Nat -> Prop} {m : Me} {lv : Lv} {d : Dat} {w : Wd} {A : List Nat} (q : RepO R m lv d w A) : ∀ l ∈ A, l < m.length := by
  cases lv with
  | no => rw [q.2]; simp
  | top =>
    obtain ⟨ds, l, xs, rfl, rfl, rfl, hm, a⟩ := q
    intro k hk
    rw [List.mem_singleton.mp hk]
    exact (List.getElem?_eq_some_iff.mp hm).1
  | full => exact Own.lt d w A q
def lvE (lev : Nat -> Lv) : Ex -> Dat -> Lv
  | .comp elt _ _, d => if flat d then .full else match d with
    | .lst ds => if ds.all (fun x => lvE lev elt x == .full) then .full else .top
    | _ => .no
  | .compP _ elt _ _ _, d => if flat d then .full else match d with
    | .lst ds => if ds.all (fun x => lvE lev elt x == .full) then .full else .top
    | _ => .no
  | .lst a, d => if flat d then .full else match d with
    | .lst ds => if lvE lev a (.tup ds) == .full then .full else .top
    | _ => .no
  | .tup a, d => lvE lev a d
  | .pair a b, d => if flat d then .full else match d with
    | .tup (x :: ds) => if lvE lev a x == .full && lvE lev b (.tup ds) == .full then .full else .no
    | _ => .no
  | .call k _, d => if flat d then .full else lev k
  | .blt .list _, d => if flat d then .full else match d with
    | .lst ds => if flatL ds then .full else .top
    | _ => .no
  | .lrng _, d => if flat d then .full else match d with
    | .lst ds => if flatL ds then .full else .top
    | _ => .no
  | .slL _ _, d => if flat d then .full else match d with
    | .lst ds => if flatL ds then .full else .top
    | _ => .no
  | .slH _ _, d => if flat d then .full else match d with
    | .lst ds => if flatL ds then .full else .top
    | _ => .no
  | .slB _ _ _, d => if flat d then .full else match d with
    | .lst ds => if flatL ds then .full else .top
    | _ => .no
  | .bin _ _ _, d => if flat d then .full else match d with
    | .lst ds => if flatL ds then .full else .top
    | _ => .no
  | _, d => if flat d then .full else .no
@[simp] theorem lv_comp (lev : Nat -> Lv) (e i c : Ex) (d : Dat) : lvE lev (.comp e i c) d = if flat d then .full else match d with
    | .lst ds => if ds.all (fun x => lvE lev e x == .full) then .full else .top
    | _ => .no := rfl
@[simp] theorem lv_compP (lev : Nat -> Lv) (k : Kd) (e a b c : Ex) (d : Dat) : lvE lev (.compP k e a b c) d = if flat d then .full else match d with
    | .lst ds => if ds.all (fun x => lvE lev e x == .full) then .full else .top
    | _ => .no := rfl
@[simp] theorem lv_lst (lev : Nat -> Lv) (a : Ex) (d : Dat) : lvE lev (.lst a) d = if flat d then .full else match d with
    | .lst ds => if lvE lev a (.tup ds) == .full then .full else .top
    | _ => .no := rfl
@[simp] theorem lv_tup (lev : Nat -> Lv) (a : Ex) (d : Dat) : lvE lev (.tup a) d = lvE lev a d := rfl
@[simp] theorem lv_pair (lev : Nat -> Lv) (a b : Ex) (d : Dat) : lvE lev (.pair a b) d = if flat d then .full else match d with
    | .tup (x :: ds) => if lvE lev a x == .full && lvE lev b (.tup ds) == .full then .full else .no
    | _ => .no := rfl
@[simp] theorem lv_call (lev : Nat -> Lv) (k : Nat) (a : Ex) (d : Dat) : lvE lev (.call k a) d = if flat d then .full else lev k := rfl
@[simp] theorem lv_list (lev : Nat -> Lv) (a : Ex) (d : Dat) : lvE lev (.blt .list a) d = if flat d then .full else match d with
    | .lst ds => if flatL ds then .full else .top
    | _ => .no := rfl
@[simp] theorem lv_lrng (lev : Nat -> Lv) (a : Ex) (d : Dat) : lvE lev (.lrng a) d = if flat d then .full else match d with
    | .lst ds => if flatL ds then .full else .top
    | _ => .no := rfl
@[simp] theorem lv_slL (lev : Nat -> Lv) (a b : Ex) (d : Dat) : lvE lev (.slL a b) d = if flat d then .full else match d with
    | .lst ds => if flatL ds then .full else .top
    | _ => .no := rfl
@[simp] theorem lv_slH (lev : Nat -> Lv) (a b : Ex) (d : Dat) : lvE lev (.slH a b) d = if flat d then .full else match d with
    | .lst ds => if flatL ds then .full else .top
    | _ => .no := rfl
@[simp] theorem lv_slB (lev : Nat -> Lv) (a b c : Ex) (d : Dat) : lvE lev (.slB a b c) d = if flat d then .full else match d with
    | .lst ds => if flatL ds then .full else .top
    | _ => .no := rfl
@[simp] theorem lv_bin (lev : Nat -> Lv) (op : Bo) (a b : Ex) (d : Dat) : lvE lev (.bin op a b) d = if flat d then .full else match d with
    | .lst ds => if flatL ds then .full else .top
    | _ => .no := rfl
@[simp] theorem lv_var (lev : Nat -> Lv) (i : Nat) (d : Dat) : lvE lev (.var i) d = if flat d then .full else .no := rfl
@[simp] theorem lv_lit (lev : Nat -> Lv) (w : Wd) (d : Dat) : lvE lev (.lit w) d = if flat d then .full else .no := rfl
@[simp] theorem lv_idx (lev : Nat -> Lv) (a b : Ex) (d : Dat) : lvE lev (.idx a b) d = if flat d then .full else .no := rfl
@[simp] theorem lv_neg (lev : Nat -> Lv) (a : Ex) (d : Dat) : lvE lev (.neg a) d = if flat d then .full else .no := rfl
@[simp] theorem lv_not (lev : Nat -> Lv) (a : Ex) (d : Dat) : lvE lev (.not a) d = if flat d then .full else .no := rfl
@[simp] theorem lv_and (lev : Nat -> Lv) (a b : Ex) (d : Dat) : lvE lev (.and a b) d = if flat d then .full else .no := rfl
@[simp] theorem lv_or (lev : Nat -> Lv) (a b : Ex) (d : Dat) : lvE lev (.or a b) d = if flat d then .full else .no := rfl
@[simp] theorem lv_cmp (lev : Nat -> Lv) (op : Co) (a b : Ex) (d : Dat) : lvE lev (.cmp op a b) d = if flat d then .full else .no := rfl
@[simp] theorem lv_ife (lev : Nat -> Lv) (c a b : Ex) (d : Dat) : lvE lev (.ife c a b) d = if flat d then .full else .no := rfl
@[simp] theorem lv_unit (lev : Nat -> Lv)  (d : Dat) : lvE lev (.unit) d = if flat d then .full else .no := rfl
@[simp] theorem lv_isi (lev : Nat -> Lv) (t : Tg) (a : Ex) (d : Dat) : lvE lev (.isi t a) d = if flat d then .full else .no := rfl
@[simp] theorem lv_rng (lev : Nat -> Lv) (a b c : Ex) (d : Dat) : lvE lev (.rng a b c) d = if flat d then .full else .no := rfl
@[simp] theorem lv_blen (lev : Nat -> Lv) (a : Ex) (d : Dat) : lvE lev (.blt .len a) d = if flat d then .full else .no := rfl
@[simp] theorem lv_bint (lev : Nat -> Lv) (a : Ex) (d : Dat) : lvE lev (.blt .int a) d = if flat d then .full else .no := rfl
@[simp] theorem lv_bbool (lev : Nat -> Lv) (a : Ex) (d : Dat) : lvE lev (.blt .bool a) d = if flat d then .full else .no := rfl
@[simp] theorem lv_btuple (lev : Nat -> Lv) (a : Ex) (d : Dat) : lvE lev (.blt .tuple a) d = if flat d then .full else .no := rfl
@[simp] theorem lv_bsum (lev : Nat -> Lv) (a : Ex) (d : Dat) : lvE lev (.blt .sum a) d = if flat d then .full else .no := rfl
@[simp] theorem lv_ball (lev : Nat -> Lv) (a : Ex) (d : Dat) : lvE lev (.blt .all a) d = if flat d then .full else .no := rfl
@[simp] theorem lv_babs (lev : Nat -> Lv) (a : Ex) (d : Dat) : lvE lev (.blt .abs a) d = if flat d then .full else .no := rfl
@[simp] theorem lv_bmin2 (lev : Nat -> Lv) (a : Ex) (d : Dat) : lvE lev (.blt .min2 a) d = if flat d then .full else .no := rfl
@[simp] theorem lv_bmax2 (lev : Nat -> Lv) (a : Ex) (d : Dat) : lvE lev (.blt .max2 a) d = if flat d then .full else .no := rfl
def SimO (R : Nat -> Prop) (m : Me) (lv : Dat -> Lv) (r : Rz) (rd : Rd) : Prop := match rd with
  | .ok d => ∃ w m' A, r = .ok w m' /\ Le m m' /\ RepO (fun l => Rf R m.length l /\ l ∉ A) m' (lv d) d w A /\ A.Nodup /\ ∀ a ∈ A, m.length <= a
  | .exc c d => ∃ w m', r = .exc c w m' /\ Le m m' /\ Rep (Rf R m.length) m' d w
  | .no => True
def callLv (lev : Nat -> Lv) (k : Nat) (d : Dat) : Lv := if flat d then .full else lev k
def CallO (lev : Nat -> Lv) (cl : Nat -> List Wd -> Me -> Rz) (cd : Nat -> List Dat -> Rd) : Prop := ∀ (k : Nat) (ds : List Dat) (ws : List Wd) (R : Nat -> Prop) (m : Me), RepL R m ds ws -> SimO R m (callLv lev k) (cl k ws m) (cd k ds)
theorem SimO.sim {R : Nat -> Prop} {m : Me} {lv : Dat -> Lv} {r : Rz} {rd : Rd} (h : SimO R m lv r rd) : SimE R m r rd := by
  cases rd with
  | ok d =>
    obtain ⟨w, m', A, rfl, l, q, _, hA⟩ := h
    exact ⟨w, m', rfl, l, q.rep (fun _ z => z.1) (fun a z => .inr (hA a z))⟩
  | exc c d => exact h
  | no => trivial
theorem CallO.r {lev : Nat -> Lv} {cl : Nat -> List Wd -> Me -> Rz} {cd : Nat -> List Dat -> Rd} (H : CallO lev cl cd) : CallR cl cd := fun k ds ws R m q => (H k ds ws R m q).sim
theorem SimE.own {R : Nat -> Prop} {m : Me} {r : Rz} {rd : Rd} {lv : Dat -> Lv} (h : SimE R m r rd) (hl : ∀ d, lv d = if flat d then .full else .no) : SimO R m lv r rd := by
  cases rd with
  | ok d =>
    obtain ⟨w, m', rfl, l, q⟩ := h
    refine ⟨w, m', [], rfl, l, ?_, List.nodup_nil, by simp⟩
    rw [hl]
    split
    . next z => exact q.flat d w z
    . exact ⟨Rep.frame (fun l o r z => ⟨⟨r, by simp⟩, z⟩) d w q, rfl⟩
  | exc c d => exact h
  | no => trivial
theorem SimO.lift {R : Nat -> Prop} {m m1 : Me} {r : Rz} {rd : Rd} {lv : Dat -> Lv} (h : Le m m1) (q : SimO (Rf R m.length) m1 lv r rd) : SimO R m lv r rd := by
  have hl := h.len
  cases rd with
  | ok d =>
    obtain ⟨w, m', A, rfl, k, z, nd, hA⟩ := q
    exact ⟨w, m', A, rfl, h.trans k, z.frame (fun l o r z => ⟨⟨by rcases r.1 with (r | r) | r; exact .inl r; exact .inr r; exact .inr (by omega), r.2⟩, z⟩) (fun _ _ _ z => z), nd, fun a ha => by have := hA a ha; omega⟩
  | exc c d => exact SimE.lift (rd := .exc c d) h q
  | no => trivial
theorem SimE.bindO {R : Nat -> Prop} {m : Me} {r : Rz} {rd : Rd} {f : Wd -> Me -> Rz} {g : Dat -> Rd} {lv : Dat -> Lv} (h : SimE R m r rd)
    (k : ∀ d w m', Le m m' -> Rep (Rf R m.length) m' d w -> SimO (Rf R m.length) m' lv (f w m') (g d)) : SimO R m lv (r.bind f) (rd.bind g) := by
  cases rd with
  | ok d => obtain ⟨w, m', rfl, l, z⟩ := h; exact SimO.lift l (k d w m' l z)
  | exc c d => obtain ⟨w, m', rfl, l, z⟩ := h; exact ⟨w, m', rfl, l, z⟩
  | no => trivial
theorem SimO.no {R : Nat -> Prop} {m : Me} {r : Rz} {lv : Dat -> Lv} : SimO R m lv r .no := trivial
theorem SimO.new {R : Nat -> Prop} {m : Me} {ds : List Dat} {xs : List Wd} {lv : Dat -> Lv} (h : RepL R m ds xs) (hl : ∀ es, lv (.lst es) = if flatL es then .full else .top) : SimO R m lv (alloc m xs) (newD ds) := by
  unfold newD alloc
  rw [h.len]
  by_cases z : xs.length <= lim
  . rw [if_pos z, if_pos z]
    refine ⟨_, _, [m.length], rfl, Le.app m _, ?_, by simp, by simp⟩
    rw [hl]
    split
    . next f => exact own_lst.mpr ⟨_, xs, [], rfl, rfl, by simp, h.flat ds xs f⟩
    . refine ⟨ds, _, xs, rfl, rfl, rfl, by simp, RepL.frame (fun l o r z => ⟨⟨.inl r, ?_⟩, Le.app m _ l o z⟩) ds xs h⟩
      have := (List.getElem?_eq_some_iff.mp z).1
      simp; omega
  . rw [if_neg z, if_neg z]; exact SimO.no
theorem SimO.newOwn {R : Nat -> Prop} {m0 m : Me} {ds : List Dat} {xs : List Wd} {A : List Nat} {lv : Dat -> Lv} (hm : Le m0 m) (h : OwnL m ds xs A) (nd : A.Nodup) (hA : ∀ a ∈ A, m0.length <= a) (hl : lv (.lst ds) = .full) (hlen : ds.length = xs.length) : SimO R m0 lv (alloc m xs) (newD ds) := by
  unfold newD alloc
  rw [hlen]
  have hlt := h.lt
  by_cases z : xs.length <= lim
  . rw [if_pos z, if_pos z]
    refine ⟨_, _, m.length :: A, rfl, hm.trans (Le.app m _), ?_, List.nodup_cons.mpr ⟨fun q => by have := hlt _ q; omega, nd⟩, ?_⟩
    . rw [hl]
      exact own_lst.mpr ⟨_, xs, A, rfl, rfl, by simp, OwnL.frame ds xs A (fun l hl o q => Le.app m _ l o q) h⟩
    . intro a ha
      rcases List.mem_cons.mp ha with rfl | ha
      . exact hm.len
      . exact hA a ha
  . rw [if_neg z, if_neg z]; exact SimO.no
theorem OwnL.len {m : Me} : ∀ {ds : List Dat} {xs : List Wd} {A : List Nat}, OwnL m ds xs A -> ds.length = xs.length
  | [], xs, A, q => by rw [q.nil_inv.1]; rfl
  | d :: ds, xs, A, q => by
    obtain ⟨x, r, B, C, rfl, rfl, a, b⟩ := q.cons_inv
    simp [OwnL.len b]
def CompO (R : Nat -> Prop) (m : Me) (lv : Dat -> Lv) (r : Rz) (rd : Rd) : Prop := match rd with
  | .ok d => ∃ out m2 outx, d = .lst out /\ out.length <= lim /\ r = alloc m2 outx /\ Le m m2 /\ RepL (Rf R m.length) m2 out outx /\ ((∀ y ∈ out, lv y = .full) -> ∃ A, OwnL m2 out outx A /\ A.Nodup /\ ∀ a ∈ A, m.length <= a)
  | .exc c d => ∃ w m', r = .exc c w m' /\ Le m m' /\ Rep (Rf R m.length) m' d w
  | .no => True
def AccO (m0 m : Me) (lv : Dat -> Lv) (acc : List Dat) (acx : List Wd) : Prop := (∀ y ∈ acc, lv y = .full) -> ∃ A, OwnL m acc acx A /\ A.Nodup /\ ∀ a ∈ A, m0.length <= a
theorem AccO.up {m0 m m' : Me} {lv : Dat -> Lv} {acc : List Dat} {acx : List Wd} (h : Le m m') (q : AccO m0 m lv acc acx) : AccO m0 m' lv acc acx := fun z => by
  obtain ⟨A, a, b, c⟩ := q z
  exact ⟨A, OwnL.frame acc acx A (fun l _ o k => h l o k) a, b, c⟩
theorem AccO.push {m0 m m' : Me} {lv : Dat -> Lv} {acc : List Dat} {acx : List Wd} {d : Dat} {w : Wd} {B : List Nat} (hm : Le m0 m) (h : Le m m') (q : AccO m0 m lv acc acx) (z : lv d = .full -> Own m' d w B) (nd : B.Nodup) (hB : ∀ b ∈ B, m.length <= b) : AccO m0 m' lv (acc ++ [d]) (acx ++ [w]) := fun f => by
  obtain ⟨A, a, b, c⟩ := q fun y hy => f y (List.mem_append_left _ hy)
  refine ⟨A ++ (B ++ []), (OwnL.frame acc acx A (fun l _ o k => h l o k) a).app (.cons (z (f d (by simp))) .nil), ?_, ?_⟩
  . rw [List.append_nil]
    refine List.nodup_append.mpr ⟨b, nd, fun x hx y hy e => ?_⟩
    have := OwnL.lt acc acx A a x hx
    have := hB y hy
    omega
  . intro x hx
    rw [List.append_nil] at hx
    rcases List.mem_append.mp hx with hx | hx
    . exact c x hx
    . have := hB x hx
      have := hm.len
      omega
theorem comp_ownL {c e : Wd -> Me -> Rz} {cd ed : Dat -> Rd} {R : Nat -> Prop} {m0 : Me} {lv : Dat -> Lv}
    (hc : ∀ (R' : Nat -> Prop) m d x, (∀ l, R l -> R' l) -> Le m0 m -> Rep R' m d x -> SimE R' m (c x m) (cd d)) (he : ∀ (R' : Nat -> Prop) m d x, (∀ l, R l -> R' l) -> Le m0 m -> Rep R' m d x -> SimO R' m lv (e x m) (ed d)) :
    ∀ (ds : List Dat) (xs : List Wd) (acc : List Dat) (acx : List Wd) (m : Me), Le m0 m -> RepL (Rf R m0.length) m ds xs -> RepL (Rf R m0.length) m acc acx -> AccO m0 m lv acc acx -> CompO R m0 lv (compL c e xs acx m) (compD cd ed ds acc)
  | [], xs, acc, acx, m, hm, a, b, f => by
    rw [a.nil_inv]
    unfold compL compD newD
    by_cases z : acc.length <= lim
    . rw [if_pos z]; exact ⟨acc, m, acx, rfl, z, rfl, hm, b, f⟩
    . rw [if_neg z]; trivial
  | d :: ds, xs, acc, acx, m, hm, a, b, f => by
    obtain ⟨x, r, rfl, p, q⟩ := a.cons_inv
    have hl := hm.len
    have sh : ∀ {n : Nat} {m' : Me} {d : Dat} {w : Wd}, m0.length <= n -> Rep (Rf (Rf R m0.length) n) m' d w -> Rep (Rf R m0.length) m' d w := fun hn k => Rep.frame (fun l o r z => ⟨by rcases r with (r | r) | r; exact .inl r; exact .inr r; exact .inr (by omega), z⟩) _ _ k
    unfold compL compD
    have h1 := hc _ m d x (fun l z => .inl z) hm p
    cases e1 : cd d with
    | no => trivial
    | exc k t => rw [e1] at h1; obtain ⟨w, m', h1, l1, k1⟩ := h1; rw [h1]; exact ⟨w, m', rfl, hm.trans l1, sh hl k1⟩
    | ok t =>
      rw [e1] at h1
      obtain ⟨w, m1, h1, l1, k1⟩ := h1
      rw [h1]
      simp only [Rz.bind, Rd.bind]
      cases t with
      | bl t =>
        rw [rep_bl.mp k1]
        have fr : ∀ {ds : List Dat} {xs : List Wd}, RepL (Rf R m0.length) m ds xs -> RepL (Rf R m0.length) m1 ds xs := fun k => RepL.frame (fun l o r z => ⟨r, l1 l o z⟩) _ _ k
        cases t with
        | false => exact comp_ownL hc he ds r acc acx m1 (hm.trans l1) (fr q) (fr b) (f.up l1)
        | true =>
          have h2 := he _ m1 d x (fun l z => .inl z) (hm.trans l1) (Rep.frame (fun l o r z => ⟨r, l1 l o z⟩) _ _ p)
          have hl1 := (hm.trans l1).len
          simp only
          cases e2 : ed d with
          | no => trivial
          | exc k t => rw [e2] at h2; obtain ⟨w, m', h2, l2, k2⟩ := h2; rw [h2]; exact ⟨w, m', rfl, (hm.trans l1).trans l2, sh hl1 k2⟩
          | ok y =>
            rw [e2] at h2
            have h3 := h2.sim
            obtain ⟨w, m2, B, h2, l2, k2, nd, hB⟩ := h2
            obtain ⟨w', m2', h3, _, k3⟩ := h3
            rw [h2] at h3 ⊢
            cases h3
            simp only [Rz.bind, Rd.bind, b.len]
            split
            . refine comp_ownL hc he ds r _ _ m2 ((hm.trans l1).trans l2) (RepL.frame (fun l o r z => ⟨r, l2 l o z⟩) _ _ (fr q)) ((RepL.frame (fun l o r z => ⟨r, l2 l o z⟩) _ _ (fr b)).app (.cons (sh hl1 k3) .nil)) ((f.up l1).push (hm.trans l1) l2 ?_ nd hB)
              intro z
              rw [z] at k2
              exact k2
            . trivial
      | _ => trivial
theorem comp_ownR {c e : Wd -> Me -> Rz} {cd ed : Dat -> Rd} {R : Nat -> Prop} {m0 : Me} {lv : Dat -> Lv} {l : Nat} {xs0 : List Wd} (hx0 : m0[l]? = some (.lst xs0))
    (hc : ∀ (R' : Nat -> Prop) m d x, (∀ l, R l -> R' l) -> Le m0 m -> Rep R' m d x -> SimE R' m (c x m) (cd d)) (he : ∀ (R' : Nat -> Prop) m d x, (∀ l, R l -> R' l) -> Le m0 m -> Rep R' m d x -> SimO R' m lv (e x m) (ed d)) :
    ∀ (ds : List Dat) (i k : Nat) (acc : List Dat) (acx : List Wd) (m : Me), Le m0 m -> RepL (Rf R m0.length) m ds (xs0.drop i) -> i + ds.length = xs0.length -> ds.length < k -> RepL (Rf R m0.length) m acc acx -> AccO m0 m lv acc acx -> CompO R m0 lv (compR c e l k i acx m) (compD cd ed ds acc)
  | [], i, 0, acc, acx, m, hm, a, hi, hk, b, f => by simp at hk
  | d :: ds, i, 0, acc, acx, m, hm, a, hi, hk, b, f => by simp at hk
  | [], i, k + 1, acc, acx, m, hm, a, hi, hk, b, f => by
    unfold compR compD lstAt newD
    rw [hm l _ hx0]
    simp only
    rw [List.getElem?_eq_none (by simp at hi; omega)]
    by_cases z : acc.length <= lim
    . rw [if_pos z]; exact ⟨acc, m, acx, rfl, z, rfl, hm, b, f⟩
    . rw [if_neg z]; trivial
  | d :: ds, i, k + 1, acc, acx, m, hm, a, hi, hk, b, f => by
    obtain ⟨x, r, e0, p, q⟩ := a.cons_inv
    have hx : xs0[i]? = some x := by
      have : (xs0.drop i)[0]? = some x := by rw [e0]; rfl
      simpa using this
    have hr : r = xs0.drop (i + 1) := by
      have : (xs0.drop i).drop 1 = r := by rw [e0]; rfl
      rw [<- this, List.drop_drop]
    rw [hr] at q
    have hi' : i + 1 + ds.length = xs0.length := by simp at hi; omega
    have hk' : ds.length < k := by simp at hk; omega
    have hl := hm.len
    have sh : ∀ {n : Nat} {m' : Me} {d : Dat} {w : Wd}, m0.length <= n -> Rep (Rf (Rf R m0.length) n) m' d w -> Rep (Rf R m0.length) m' d w := fun hn k => Rep.frame (fun l o r z => ⟨by rcases r with (r | r) | r; exact .inl r; exact .inr r; exact .inr (by omega), z⟩) _ _ k
    unfold compR compD lstAt
    rw [hm l _ hx0]
    simp only
    rw [hx]
    simp only
    have h1 := hc _ m d x (fun l z => .inl z) hm p
    cases e1 : cd d with
    | no => trivial
    | exc k t => rw [e1] at h1; obtain ⟨w, m', h1, l1, k1⟩ := h1; rw [h1]; exact ⟨w, m', rfl, hm.trans l1, sh hl k1⟩
    | ok t =>
      rw [e1] at h1
      obtain ⟨w, m1, h1, l1, k1⟩ := h1
      rw [h1]
      simp only [Rz.bind, Rd.bind]
      cases t with
      | bl t =>
        rw [rep_bl.mp k1]
        have fr : ∀ {ds : List Dat} {xs : List Wd}, RepL (Rf R m0.length) m ds xs -> RepL (Rf R m0.length) m1 ds xs := fun k => RepL.frame (fun l o r z => ⟨r, l1 l o z⟩) _ _ k
        cases t with
        | false => exact comp_ownR hx0 hc he ds (i + 1) k acc acx m1 (hm.trans l1) (fr q) hi' hk' (fr b) (f.up l1)
        | true =>
          have h2 := he _ m1 d x (fun l z => .inl z) (hm.trans l1) (Rep.frame (fun l o r z => ⟨r, l1 l o z⟩) _ _ p)
          have hl1 := (hm.trans l1).len
          simp only
          cases e2 : ed d with
          | no => trivial
          | exc k t => rw [e2] at h2; obtain ⟨w, m', h2, l2, k2⟩ := h2; rw [h2]; exact ⟨w, m', rfl, (hm.trans l1).trans l2, sh hl1 k2⟩
          | ok y =>
            rw [e2] at h2
            have h3 := h2.sim
            obtain ⟨w, m2, B, h2, l2, k2, nd, hB⟩ := h2
            obtain ⟨w', m2', h3, _, k3⟩ := h3
            rw [h2] at h3 ⊢
            cases h3
            simp only [Rz.bind, Rd.bind, b.len]
            split
            . refine comp_ownR hx0 hc he ds (i + 1) k _ _ m2 ((hm.trans l1).trans l2) (RepL.frame (fun l o r z => ⟨r, l2 l o z⟩) _ _ (fr q)) hi' hk' ((RepL.frame (fun l o r z => ⟨r, l2 l o z⟩) _ _ (fr b)).app (.cons (sh hl1 k3) .nil)) ((f.up l1).push (hm.trans l1) l2 ?_ nd hB)
              intro z
              rw [z] at k2
              exact k2
            . trivial
      | _ => trivial
theorem CompO.sim {R : Nat -> Prop} {m : Me} {lv lw : Dat -> Lv} {r : Rz} {rd : Rd} (h : CompO R m lv r rd) (hl : ∀ ds, lw (.lst ds) = if ds.all (fun x => lv x == .full) then .full else .top) : SimO R m lw r rd := by
  cases rd with
  | no => trivial
  | exc c d => exact h
  | ok d =>
    obtain ⟨out, m2, outx, rfl, hlen, rfl, l2, k2, own⟩ := h
    have e := k2.len
    cases z : out.all (fun x => lv x == .full) with
    | true =>
      obtain ⟨A, a, b, c⟩ := own fun y hy => by simpa using List.all_eq_true.mp z y hy
      have := SimO.newOwn (R := R) (lv := lw) l2 a b c (by rw [hl, z]; rfl) e
      unfold newD at this
      rw [if_pos hlen] at this
      exact this
    | false =>
      unfold alloc
      rw [<- e, if_pos hlen]
      have ll := l2.len
      refine ⟨_, _, [m2.length], rfl, l2.trans (Le.app m2 _), ?_, by simp, by simp; exact ll⟩
      rw [hl, z]
      refine ⟨out, _, outx, rfl, rfl, rfl, by simp, RepL.frame (fun l o r z => ⟨⟨r, ?_⟩, Le.app m2 _ l o z⟩) out outx k2⟩
      have := (List.getElem?_eq_some_iff.mp z).1
      simp; omega
theorem lvE_flat (lev : Nat -> Lv) : ∀ (e : Ex) (d : Dat), flat d = true -> lvE lev e d = .full
  | .tup a, d, h => lvE_flat lev a d h
  | .comp _ _ _, d, h => if_pos h
  | .compP _ _ _ _ _, d, h => if_pos h
  | .lst _, d, h => if_pos h
  | .pair _ _, d, h => if_pos h
  | .call _ _, d, h => if_pos h
  | .blt b _, d, h => by cases b <;> exact if_pos h
  | .slL _ _, d, h => if_pos h
  | .lrng _, d, h => if_pos h
  | .slH _ _, d, h => if_pos h
  | .slB _ _ _, d, h => if_pos h
  | .bin _ _ _, d, h => if_pos h
  | .var _, d, h => if_pos h
  | .lit _, d, h => if_pos h
  | .neg _, d, h => if_pos h
  | .not _, d, h => if_pos h
  | .and _ _, d, h => if_pos h
  | .or _ _, d, h => if_pos h
  | .cmp _ _ _, d, h => if_pos h
  | .chain _ _ _ _ _, d, h => if_pos h
  | .ife _ _ _, d, h => if_pos h
  | .unit, d, h => if_pos h
  | .isi _ _, d, h => if_pos h
  | .dict0, d, h => if_pos h
  | .idx _ _, d, h => if_pos h
  | .meth _ _ _, d, h => if_pos h
  | .rng _ _ _, d, h => if_pos h
theorem SimO.newTop {R : Nat -> Prop} {m0 m : Me} {ds : List Dat} {xs : List Wd} {lv : Dat -> Lv} (hm : Le m0 m) (h : RepL (Rf R m0.length) m ds xs) (hl : lv (.lst ds) = .top) : SimO R m0 lv (alloc m xs) (newD ds) := by
  unfold newD alloc
  rw [h.len]
  by_cases z : xs.length <= lim
  . rw [if_pos z, if_pos z]
    refine ⟨_, _, [m.length], rfl, hm.trans (Le.app m _), ?_, by simp, by simp; exact hm.len⟩
    rw [hl]
    refine ⟨ds, _, xs, rfl, rfl, rfl, by simp, RepL.frame (fun l o r z => ⟨⟨r, ?_⟩, Le.app m _ l o z⟩) ds xs h⟩
    have := (List.getElem?_eq_some_iff.mp z).1
    simp; omega
  . rw [if_neg z, if_neg z]; exact SimO.no
theorem bop_own {R : Nat -> Prop} {m : Me} {d e : Dat} {x y : Wd} {lv : Dat -> Lv} (op : Bo) (hl : ∀ d, lv d = if flat d then .full else match d with | .lst ds => if flatL ds then .full else .top | _ => .no) (a : Rep R m d x) (b : Rep R m e y) : SimO R m lv (bop op x y m) (bopD op d e) := by
  have hn : ∀ es, lv (.lst es) = if flatL es then .full else .top := fun es => by rw [hl]; simp [flat]
  have hs := bop_sim op a b
  cases d with
  | lst ds =>
    obtain ⟨l, xs, rfl, _, hm, a1⟩ := rep_lst.mp a
    cases e with
    | lst es =>
      obtain ⟨l', ys, rfl, _, hk, b1⟩ := rep_lst.mp b
      cases op <;> first | exact SimO.no | skip
      simp only [bop, bopD, hm, hk]
      exact SimO.new (a1.app b1) hn
    | int k =>
      rw [rep_int.mp b]
      cases op <;> first | exact SimO.no | skip
      simp only [bop, bopD, hm]
      by_cases z : -(lim : Int) <= k /\ k <= (lim : Int)
      . rw [if_pos z, if_pos z]; exact SimO.new (a1.rep _) hn
      . rw [if_neg z, if_neg z]; exact SimO.no
    | _ => exact SimO.no
  | int i =>
    cases e with
    | int j =>
      have hi : ∀ r : Rd, SimE R m (bop op x y m) r -> (∀ d, r = .ok d -> flat d = true) -> SimO R m lv (bop op x y m) r := by
        intro r h f
        cases r with
        | ok d =>
          obtain ⟨w, m', h, l, k⟩ := h
          refine ⟨w, m', [], h, l, ?_, List.nodup_nil, by simp⟩
          rw [hl, if_pos (f d rfl)]
          exact k.flat d w (f d rfl)
        | exc c d => exact h
        | no => trivial
      refine hi _ hs fun d h => ?_
      cases op <;> simp only [bopD] at h
      . cases h; rfl
      . cases h; rfl
      all_goals (split at h <;> (cases h; try rfl))
    | _ => exact SimO.no
  | tup ds =>
    obtain ⟨xs, rfl, a1⟩ := rep_tup.mp a
    cases e with
    | tup es =>
      obtain ⟨ys, rfl, b1⟩ := rep_tup.mp b
      cases op <;> first | exact SimO.no | skip
      simp only [bopD] at hs ⊢
      split at hs
      . next z =>
        rw [if_pos z]
        obtain ⟨w, m', h, l, k⟩ := hs
        refine ⟨w, m', [], h, l, ?_, List.nodup_nil, by simp⟩
        rw [hl]
        split
        . next f => exact k.flat _ w f
        . exact ⟨Rep.frame (fun l o r z => ⟨⟨r, by simp⟩, z⟩) _ w k, rfl⟩
      . next z => rw [if_neg z]; exact SimO.no
    | _ => exact SimO.no
  | _ => exact SimO.no
theorem ev_own {lev : Nat -> Lv} {cl : Nat -> List Wd -> Me -> Rz} {cd : Nat -> List Dat -> Rd} (H : CallO lev cl cd) : ∀ (e : Ex) (R : Nat -> Prop) (m : Me) (de : DEn) (env : En), EnvR R m (vars e) de env -> SimO R m (lvE lev e) (evE cl e env m) (evD cd e de)
  | .call k a, R, m, de, env, q => by
    have e : lvE lev (.call k a) = callLv lev k := by funext d; simp [callLv]
    rw [e]
    refine (ev_read H.r a R m de env q).bindO fun d w m1 l1 k1 => ?_
    exact H k _ _ _ m1 (args_sim k1)
  | .bin op a b, R, m, de, env, q => by
    refine (ev_read H.r a R m de env q.left).bindO fun d w m1 l1 k1 => ?_
    refine (ev_read H.r b _ m1 de env (q.right.up (fun _ => .inl) l1)).bindO fun d2 w2 m2 l2 k2 => ?_
    exact bop_own op (fun d => by cases d <;> rfl) (k1.up _ l2) k2
  | .lrng a, R, m, de, env, q => by
    refine (ev_read H.r a R m de env q).bindO fun d w m1 l1 k1 => ?_
    cases d with
    | int j =>
      rw [rep_int.mp k1]
      simp only
      split
      . exact SimO.new (rng_sim0 1 _ 0) (fun es => by simp [flat])
      . exact SimO.no
    | _ => exact SimO.no
  | .slL a b, R, m, de, env, q => by
    refine (ev_read H.r a R m de env q.left).bindO fun d w m1 l1 k1 => ?_
    refine (ev_read H.r b _ m1 de env (q.right.up (fun _ => .inl) l1)).bindO fun d2 w2 m2 l2 k2 => ?_
    cases d2 with
    | int i =>
      rw [rep_int.mp k2]
      simp only [slD, slR]
      cases z : lsD d with
      | none => exact SimO.no
      | some ds =>
        obtain ⟨xs, h, q⟩ := ls_sim (k1.up m1.length l2) z
        simp only [h, q.len]
        exact SimO.new ((q.drop _).take _) (fun es => by simp [flat])
    | _ => exact SimO.no
  | .slH a b, R, m, de, env, q => by
    refine (ev_read H.r a R m de env q.left).bindO fun d w m1 l1 k1 => ?_
    refine (ev_read H.r b _ m1 de env (q.right.up (fun _ => .inl) l1)).bindO fun d2 w2 m2 l2 k2 => ?_
    cases d2 with
    | int i =>
      rw [rep_int.mp k2]
      simp only [slD, slR]
      cases z : lsD d with
      | none => exact SimO.no
      | some ds =>
        obtain ⟨xs, h, q⟩ := ls_sim (k1.up m1.length l2) z
        simp only [h, q.len]
        exact SimO.new ((q.drop _).take _) (fun es => by simp [flat])
    | _ => exact SimO.no
  | .slB a b c, R, m, de, env, q => by
    refine (ev_read H.r a R m de env q.left).bindO fun d w m1 l1 k1 => ?_
    refine (ev_read H.r b _ m1 de env (q.right.left.up (fun _ => .inl) l1)).bindO fun d2 w2 m2 l2 k2 => ?_
    cases d2 with
    | int i =>
      rw [rep_int.mp k2]
      refine (ev_read H.r c _ m2 de env (q.right.right.up (fun _ h => .inl (.inl h)) (l1.trans l2))).bindO fun d3 w3 m3 l3 k3 => ?_
      cases d3 with
      | int j =>
        rw [rep_int.mp k3]
        simp only [slD, slR]
        cases z : lsD d with
        | none => exact SimO.no
        | some ds =>
          obtain ⟨xs, h, q⟩ := ls_sim ((k1.up m1.length l2).up m2.length l3) z
          simp only [h, q.len]
          exact SimO.new ((q.drop _).take _) (fun es => by simp [flat])
      | _ => exact SimO.no
    | _ => exact SimO.no
  | .blt b a, R, m, de, env, q => by
    by_cases hb : b = .list
    . subst hb
      refine (ev_read H.r a R m de env q).bindO fun d w m1 l1 k1 => ?_
      have k2 := args_sim k1
      simp only [bltD]
      split
      . next x hx =>
        rw [hx] at k2
        obtain ⟨x', r, e0, p, q0⟩ := k2.cons_inv
        rw [e0, q0.nil_inv]
        split
        . next z => obtain ⟨ys, h, q⟩ := seq_sim p z; simp only [bltR, h]; exact SimO.new q (fun es => by simp [flat])
        . exact SimO.no
      . exact SimO.no
    . exact (ev_read H.r (.blt b a) R m de env q).own fun d => by cases b <;> first | exact absurd rfl hb | rfl
  | .lst a, R, m, de, env, q => by
    have ih := ev_own H a R m de env q
    show SimO R m _ ((evE cl a env m).bind fun x m1 => alloc m1 (argsOf x)) ((evD cd a de).bind fun x => newD (argsD x))
    cases ea : evD cd a de with
    | no => trivial
    | exc c d => rw [ea] at ih; obtain ⟨w, m', h, l, k⟩ := ih; rw [h]; exact ⟨w, m', rfl, l, k⟩
    | ok d =>
      rw [ea] at ih
      have hs := ih.sim
      obtain ⟨w, m1, A, h, l, k, nd, hA⟩ := ih
      obtain ⟨w', m1', h', _, ks⟩ := hs
      rw [h] at h'; cases h'
      rw [h]
      simp only [Rz.bind, Rd.bind]
      have ka := args_sim ks
      cases z : lvE lev a (.tup (argsD d)) == .full with
      | false => exact SimO.newTop l ka (by simp [flat, z])
      | true =>
        have z' : lvE lev a (.tup (argsD d)) = .full := by simpa using z
        have own : ∃ B, OwnL m1 (argsD d) (argsOf w) B /\ B.Nodup /\ ∀ b ∈ B, m.length <= b := by
          cases d with
          | tup ds =>
            rw [show lvE lev a (.tup ds) = .full from z'] at k
            obtain ⟨xs, rfl, k1⟩ := own_tup.mp k
            exact ⟨A, k1, nd, hA⟩
          | _ => refine ⟨[], ?_, List.nodup_nil, by simp⟩; exact ka.flat _ _ rfl
        obtain ⟨B, o, nb, hB⟩ := own
        exact SimO.newOwn l o nb hB (by simp [flat, z]) ka.len
  | .tup a, R, m, de, env, q => by
    have ih := ev_own H a R m de env q
    have el : lvE lev (.tup a) = lvE lev a := by funext d; simp
    rw [el]
    show SimO R m _ ((evE cl a env m).bind fun x m1 => if (argsOf x).length <= lim then .ok (.tup (argsOf x)) m1 else .no) ((evD cd a de).bind fun x => if (argsD x).length <= lim then .ok (.tup (argsD x)) else .no)
    cases ea : evD cd a de with
    | no => trivial
    | exc c d => rw [ea] at ih; obtain ⟨w, m', h, l, k⟩ := ih; rw [h]; exact ⟨w, m', rfl, l, k⟩
    | ok d =>
      rw [ea] at ih
      have hs := ih.sim
      obtain ⟨w, m1, A, h, l, k, nd, hA⟩ := ih
      obtain ⟨w', m1', h', _, ks⟩ := hs
      rw [h] at h'; cases h'
      rw [h]
      have ka := args_sim ks
      simp only [Rz.bind, Rd.bind, ka.len]
      split
      . cases d with
        | tup ds =>
          obtain ⟨xs, rfl, _⟩ := rep_tup.mp ks
          exact ⟨_, m1, A, rfl, l, k, nd, hA⟩
        | _ =>
          refine ⟨_, m1, [], rfl, l, ?_, List.nodup_nil, by simp⟩
          rw [lvE_flat lev a _ (by rfl)]
          exact own_tup.mpr ⟨_, rfl, ka.flat _ _ rfl⟩
      . trivial
  | .pair a b, R, m, de, env, q => by
    have iha := ev_own H a R m de env q.left
    show SimO R m _ ((evE cl a env m).bind fun x m1 => (evE cl b env m1).bind fun y m2 => .ok (.tup (x :: argsOf y)) m2) ((evD cd a de).bind fun x => (evD cd b de).bind fun y => .ok (.tup (x :: argsD y)))
    cases ea : evD cd a de with
    | no => trivial
    | exc c d => rw [ea] at iha; obtain ⟨w, m', h, l, k⟩ := iha; rw [h]; exact ⟨w, m', rfl, l, k⟩
    | ok d =>
      rw [ea] at iha
      have hs := iha.sim
      obtain ⟨w, m1, A, h, l, k, nd, hA⟩ := iha
      obtain ⟨w', m1', h', _, ks⟩ := hs
      rw [h] at h'; cases h'
      rw [h]
      simp only [Rz.bind, Rd.bind]
      have ihb := ev_own H b _ m1 de env (q.right.up (R' := Rf R m.length) (fun _ => .inl) l)
      cases eb : evD cd b de with
      | no => trivial
      | exc c d => rw [eb] at ihb; obtain ⟨w, m', h, l2, k⟩ := ihb; rw [h]; exact SimE.lift (rd := .exc c d) l ⟨w, m', rfl, l2, k⟩
      | ok d2 =>
        rw [eb] at ihb
        have hs2 := ihb.sim
        obtain ⟨w2, m2, A2, h2, l2, k2, nd2, hA2⟩ := ihb
        obtain ⟨w2', m2', h2', _, ks2⟩ := hs2
        rw [h2] at h2'; cases h2'
        rw [h2]
        simp only
        have ka := args_sim ks2
        have hl1 := l.len
        cases z : (lvE lev a d == .full && lvE lev b (.tup (argsD d2)) == .full) with
        | false =>
          have : SimE R m (.ok (.tup (w :: argsOf w2)) m2) (.ok (.tup (d :: argsD d2))) :=
            SimE.lift l (SimE.lift l2 (SimE.here (rep_tup.mpr ⟨_, rfl, .cons (ks.up _ l2) ka⟩)))
          obtain ⟨w3, m3, h3, l3, k3⟩ := this
          refine ⟨w3, m3, [], h3, l3, ?_, List.nodup_nil, by simp⟩
          by_cases f : flat (.tup (d :: argsD d2)) = true
          . rw [lvE_flat lev _ _ f]; exact k3.flat _ w3 f
          . have : lvE lev (.pair a b) (.tup (d :: argsD d2)) = .no := by
              rw [lv_pair, if_neg f]; simp only [z]; rfl
            rw [this]
            exact ⟨Rep.frame (fun l o r z => ⟨⟨r, by simp⟩, z⟩) _ w3 k3, rfl⟩
        | true =>
          rw [Bool.and_eq_true] at z
          have z1 : lvE lev a d = .full := by simpa using z.1
          have z2 : lvE lev b (.tup (argsD d2)) = .full := by simpa using z.2
          rw [z1] at k
          have own : ∃ B, OwnL m2 (argsD d2) (argsOf w2) B /\ B.Nodup /\ ∀ b ∈ B, m1.length <= b := by
            cases d2 with
            | tup ds =>
              rw [show lvE lev b (.tup ds) = .full from z2] at k2
              obtain ⟨xs, rfl, k3⟩ := own_tup.mp k2
              exact ⟨A2, k3, nd2, hA2⟩
            | _ => refine ⟨[], ?_, List.nodup_nil, by simp⟩; exact ka.flat _ _ rfl
          obtain ⟨B, o, nb, hB⟩ := own
          refine ⟨_, m2, A ++ B, rfl, l.trans l2, ?_, ?_, ?_⟩
          . have : lvE lev (.pair a b) (.tup (d :: argsD d2)) = .full := by
              rw [lv_pair]; simp only [z1, z2]; simp
            rw [this]
            exact own_tup.mpr ⟨_, rfl, .cons (Own.frame d w A (fun x _ o q => l2 x o q) k) o⟩
          . refine List.nodup_append.mpr ⟨nd, nb, fun x hx y hy e => ?_⟩
            have := Own.lt d w A k x hx
            have := hB y hy
            omega
          . intro x hx
            rcases List.mem_append.mp hx with hx | hx
            . exact hA x hx
            . have := hB x hx; omega
  | .comp elt it cond, R, m, de, env, q => by
    refine (ev_read H.r it R m de env q.left).bindO fun d w m1 l1 k1 => ?_
    have hc : ∀ (R' : Nat -> Prop) m' d x, (∀ l, Rf R m.length l -> R' l) -> Le m1 m' -> Rep R' m' d x -> SimE R' m' (evE cl cond (env ++ [some x]) m') (evD cd cond (de ++ [some d])) :=
      fun R' m' d x hR l k => ev_read H.r cond R' m' _ _ ((q.right.right.up (fun l h => hR l (.inl h)) (l1.trans l)).push k)
    have he : ∀ (R' : Nat -> Prop) m' d x, (∀ l, Rf R m.length l -> R' l) -> Le m1 m' -> Rep R' m' d x -> SimO R' m' (lvE lev elt) (evE cl elt (env ++ [some x]) m') (evD cd elt (de ++ [some d])) :=
      fun R' m' d x hR l k => ev_own H elt R' m' _ _ ((q.right.left.up (fun l h => hR l (.inl h)) (l1.trans l)).push k)
    have hl : ∀ ds, lvE lev (.comp elt it cond) (.lst ds) = if ds.all (fun x => lvE lev elt x == .full) then .full else .top := fun ds => by simp [flat]
    have acc0 : AccO m1 m1 (lvE lev elt) [] [] := fun _ => ⟨[], .nil, List.nodup_nil, by simp⟩
    cases d with
    | tup ds =>
      obtain ⟨xs, rfl, k2⟩ := rep_tup.mp k1
      exact (comp_ownL hc he ds xs [] [] m1 (Le.refl _) (k2.up _ (Le.refl _)) .nil acc0).sim hl
    | scr ns =>
      rw [rep_scr.mp k1]
      exact (comp_ownL hc he (ns.map .int) (ns.map .int) [] [] m1 (Le.refl _) (RepL.ints ns) .nil acc0).sim hl
    | lst ds =>
      obtain ⟨l, xs, rfl, _, hm, k2⟩ := rep_lst.mp k1
      simp only [itD]
      by_cases z : ds.length <= lim
      . rw [if_pos z]
        have hl' := k2.len
        exact (comp_ownR hm hc he ds 0 (lim + 1) [] [] m1 (Le.refl _) (by simpa using (k2.up _ (Le.refl _))) (by omega) (by omega) .nil acc0).sim hl
      . rw [if_neg z]; exact SimO.no
    | _ => exact SimO.no
  | .compP _ _ _ _ _, R, m, de, env, q => SimO.no
  | .var i, R, m, de, env, q => (ev_read H.r _ R m de env q).own fun d => rfl
  | .lit w, R, m, de, env, q => (ev_read H.r _ R m de env q).own fun d => rfl
  | .neg a, R, m, de, env, q => (ev_read H.r _ R m de env q).own fun d => rfl
  | .not a, R, m, de, env, q => (ev_read H.r _ R m de env q).own fun d => rfl
  | .and a b, R, m, de, env, q => (ev_read H.r _ R m de env q).own fun d => rfl
  | .or a b, R, m, de, env, q => (ev_read H.r _ R m de env q).own fun d => rfl
  | .cmp op a b, R, m, de, env, q => (ev_read H.r _ R m de env q).own fun d => rfl
  | .chain o p a b c, R, m, de, env, q => (ev_read H.r _ R m de env q).own fun d => rfl
  | .ife c a b, R, m, de, env, q => (ev_read H.r _ R m de env q).own fun d => rfl
  | .unit, R, m, de, env, q => (ev_read H.r _ R m de env q).own fun d => rfl
  | .isi t a, R, m, de, env, q => (ev_read H.r _ R m de env q).own fun d => rfl
  | .dict0, R, m, de, env, q => (ev_read H.r _ R m de env q).own fun d => rfl
  | .idx a b, R, m, de, env, q => (ev_read H.r _ R m de env q).own fun d => rfl
  | .meth _ _ _, R, m, de, env, q => (ev_read H.r _ R m de env q).own fun d => rfl
  | .rng a b c, R, m, de, env, q => (ev_read H.r _ R m de env q).own fun d => rfl
inductive Rsd where
  | next (de : DEn) (lv : List Lv) | ret (d : Dat) (l : Lv) | brk (de : DEn) (lv : List Lv) | cont (de : DEn) (lv : List Lv) | exc (c : Nat) (d : Dat) | no
deriving Inhabited
def Rd.bindS (r : Rd) (f : Dat -> Rsd) : Rsd := match r with
  | .ok d => f d
  | .exc c d => .exc c d
  | .no => .no
def Rd.okS (r : Rd) (f : Dat -> Rsd) : Rsd := match r with
  | .ok d => f d
  | _ => .no
def downs : List Nat -> List Lv -> List Lv
  | [], lv => lv
  | i :: vs, lv => downs vs (lv.set i .no)
def topD (de : DEn) (j : Nat) (lv : List Lv) : List Lv := match de[j]?, lv[j]? with
  | some (some (.lst _)), some .full => lv.set j .top
  | some (some (.lst _)), some .top => lv.set j .top
  | _, _ => lv.set j .no
def relE (e : Ex) (de : DEn) (lv : List Lv) : List Lv := match e with
  | .idx (.var j) b => topD de j (downs (vars b) lv)
  | e => downs (vars e) lv
mutual
def dep : Dat -> Nat
  | .lst xs => depL xs + 1
  | .tup xs => depL xs + 1
  | .non => 0
  | .bl _ => 0
  | .int _ => 0
  | .str _ => 0
  | .scr _ => 0
def depL : List Dat -> Nat
  | [] => 0
  | d :: ds => max (dep d) (depL ds)
end
def owned (lv : List Lv) (j : Nat) : Bool := match lv[j]? with
  | some .top => true
  | some .full => true
  | _ => false
def giveE (lev : Nat -> Lv) (e : Ex) (d : Dat) (j : Nat) (de : DEn) (lv : List Lv) : Option (DEn × List Lv) :=
  if owned lv j = false then none
  else if lvE lev e d = .full then some (de, lv)
  else if j ∈ vars e then none
  else match e with
    | .var i => if lv[i]? = some .full /\ lv[j]? = some .full then some (de.set i none, lv) else some (de, (downs [i] lv).set j .top)
    | e => some (de, (relE e de lv).set j .top)
def loopD {α : Type} (body : α -> DEn -> List Lv -> Rsd) : List α -> DEn -> List Lv -> Rsd
  | [], de, lv => .next de lv
  | x :: xs, de, lv => match body x de lv with
    | .next d1 l1 => loopD body xs d1 l1
    | .cont d1 l1 => loopD body xs d1 l1
    | .brk d1 l1 => .next d1 l1
    | r => r
def loopWD (c : DEn -> Rd) (body : DEn -> List Lv -> Rsd) : Nat -> DEn -> List Lv -> Rsd
  | 0, _, _ => .no
  | k + 1, de, lv => match c de with
    | .ok (.bl true) => match body de lv with
      | .next d1 l1 => loopWD c body k d1 l1
      | .cont d1 l1 => loopWD c body k d1 l1
      | .brk d1 l1 => .next d1 l1
      | r => r
    | .ok (.bl false) => .next de lv
    | .exc c d => .exc c d
    | _ => .no
def lvF (d : Dat) : Lv := if flat d then .full else .no
def lvR (lev : Nat -> Lv) (e : Ex) (d : Dat) (lv : List Lv) : Lv := if flat d then .full else match e with
  | .var i => (lv[i]?).getD .no
  | .tup (.pair (.var a) (.pair (.var b) .unit)) => if a ≠ b /\ lv[a]? = some .full /\ lv[b]? = some .full then .full else .no
  | e => lvE lev e d
def lsAt (de : DEn) (j : Nat) : Option (List Dat) := match de[j]? with
  | some (some (.lst ds)) => some ds
  | _ => none
def asgD (lev : Nat -> Lv) (i : Nat) (e : Ex) (d : Dat) (de : DEn) (lv : List Lv) : Rsd :=
  if lvE lev e d = .full then .next (de.set i (some d)) (lv.set i .full) else .next (de.set i (some d)) ((relE e de lv).set i (lvE lev e d))
def putD (lev : Nat -> Lv) (j : Nat) (k : Dat) (e : Ex) (d : Dat) (de : DEn) (lv : List Lv) : Rsd := match k, lsAt de j with
  | .int k, some ds => match ix ds.length k with
    | some p => match giveE lev e d j de lv with
      | some (de1, lv1) => .next (de1.set j (some (.lst (ds.set p d)))) lv1
      | none => if owned lv j && decide (dep d < dep (.lst ds)) && (flat d == false) then .next (de.set j (some (.lst (ds.set p d)))) ((downs (vars e) lv).set j .top) else .no
    | none => .no
  | _, _ => .no
def inD2 (j : Nat) (r : Dat) (de : DEn) (lv : List Lv) (f : List Dat -> Option (List Dat)) : Option DEn := match r, lsAt de j with
  | .int k, some ds => match (ix ds.length k).bind fun p => (ds[p]?).bind fun d => match d with
      | .lst es => (f es).map fun es1 => ds.set p (.lst es1)
      | _ => none with
    | some ds1 => if lv[j]? = some .full then some (de.set j (some (.lst ds1))) else none
    | none => none
  | _, _ => none
def toS (o : Option DEn) (lv : List Lv) : Rsd := match o with
  | some de => .next de lv
  | none => .no
def setAt (k d : Dat) (es : List Dat) : Option (List Dat) := match k with
  | .int k => (ix es.length k).map fun p => es.set p d
  | _ => none
def augAt (k : Dat) (op : Bo) (y : Dat) (es : List Dat) : Option (List Dat) := match k, y with
  | .int k, .int b => (ix es.length k).bind fun p => match es[p]? with
    | some (.int a) => match bopD op (.int a) (.int b) with
      | .ok z => some (es.set p z)
      | _ => none
    | _ => none
  | _, _ => none
def viewSw (s t : Sm) : Option (Nat × Nat × Ex × Ex × Ex × Ex × Ex) := match t with
  | .swapS (.var i1) p (.var i2) q (.idx (.var i3) c) (.idx (.var i4) d) => match s with
    | .asg i (.idx (.var j) r) => if i1 = i /\ i2 = i /\ i3 = i /\ i4 = i /\ i ≠ j then some (i, j, r, p, q, c, d) else none
    | _ => none
  | _ => none
def swAt (p q c d : Dat) (es : List Dat) : Option (List Dat) := match p, q, c, d with
  | .int p, .int q, .int c, .int d => match ix es.length p, ix es.length q, (ix es.length c).bind fun k => es[k]?, (ix es.length d).bind fun k => es[k]? with
    | some p, some q, some x, some y => if flat x && flat y then some ((es.set p x).set q y) else none
    | _, _, _, _ => none
  | _, _, _, _ => none
def appAll (c : Int) : List Dat -> Option (List Dat)
  | [] => some []
  | .lst es :: r => if es.length < lim then (appAll c r).map (.lst (es ++ [.int c]) :: ·) else none
  | _ => none
def allLst : List Dat -> Bool
  | [] => true
  | .lst _ :: r => allLst r
  | _ => false
def short : List Dat -> Bool
  | [] => true
  | .lst es :: r => decide (es.length < lim) && short r
  | _ => false
def shorts : List Dat -> Bool
  | [] => true
  | .lst ds :: r => short ds && decide (ds.length < lim) && shorts r
  | _ => false
def swD (cl : Nat -> List Dat -> Rd) (t : Nat × Nat × Ex × Ex × Ex × Ex × Ex) (de : DEn) (lv : List Lv) : Rsd := match t with
  | (i, j, r, p, q, c, d) => (evD cl r de).okS fun rv => (evD cl (.idx (.var j) r) de).okS fun row =>
        (evD cl c (de.set i (some row))).okS fun c => (evD cl d (de.set i (some row))).okS fun d => (evD cl p (de.set i (some row))).okS fun p => (evD cl q ((de.set j none).set i none)).okS fun q =>
          if i < de.length then toS ((inD2 j rv de lv (swAt p q c d)).map fun de1 => de1.set i none) (lv.set i .full) else .no
def swapD (cl : Nat -> List Dat -> Rd) (o i p k a b : Ex) (de : DEn) (lv : List Lv) : Rsd := match o, p, a, b with
    | .var j, .var j2, .idx (.var j3) a, .idx (.var j4) b => if j = j2 /\ j = j3 /\ j = j4 /\ owned lv j = true then
        (evD cl a de).okS fun a => (evD cl b de).okS fun b => (evD cl i de).okS fun i => (evD cl k (de.set j none)).okS fun k => match lsAt de j, i, k, a, b with
          | some ds, .int i, .int k, .int a, .int b => match ix ds.length i, ix ds.length k, (ix ds.length a).bind fun p => ds[p]?, (ix ds.length b).bind fun p => ds[p]? with
            | some p, some q, some x, some y => .next (de.set j (some (.lst ((ds.set p x).set q y)))) (lv.set j .top)
            | _, _, _, _ => .no
          | _, _, _, _, _ => .no
        else .no
    | _, _, _, _ => .no
def exprD (lev : Nat -> Lv) (cl : Nat -> List Dat -> Rd) (e : Ex) (de : DEn) (lv : List Lv) : Rsd := match e with
    | .meth .append (.var j) (.pair e .unit) => (evD cl e de).okS fun d => match lsAt de j with
      | some ds => if ds.length < lim then match giveE lev e d j de lv with
        | some (de1, lv1) => .next (de1.set j (some (.lst (ds ++ [d])))) lv1
        | none => .no
        else .no
      | none => .no
    | .meth .extend (.var j) (.pair e .unit) => (evD cl e de).okS fun d => match lsAt de j, d with
      | some ds, .lst es => if owned lv j && flatL es && decide (ds.length + es.length <= lim) then .next (de.set j (some (.lst (ds ++ es)))) lv else .no
      | _, _ => .no
    | .meth .reverse (.var j) .unit => match lsAt de j with
      | some ds => if owned lv j then .next (de.set j (some (.lst ds.reverse))) lv else .no
      | none => .no
    | .meth _ _ _ => .no
    | e => (evD cl e de).bindS fun _ => .next de lv
def setI (j : Nat) (p u : Dat) (de : DEn) (lv : List Lv) : Option DEn := match p, u, lsAt de j with
  | .int p, .int u, some ds => match ix ds.length p with
    | some k => if owned lv j = true then some (de.set j (some (.lst (ds.set k (.int u))))) else none
    | none => none
  | _, _, _ => none
def popD (j : Nat) (de : DEn) (lv : List Lv) : Option (Int × DEn) := match lsAt de j with
  | some ds => match ds.getLast? with
    | some (.int v) => if owned lv j = true then some (v, de.set j (some (.lst ds.dropLast))) else none
    | _ => none
  | none => none
def dptOf : Dat -> Option (Int × Int)
  | .tup [.int i, .int j] => some (i, j)
  | _ => none
def dptsOf : List Dat -> Option (List (Int × Int))
  | [] => some []
  | w :: r => match dptOf w, dptsOf r with
    | some p, some q => some (p :: q)
    | _, _ => none
def chkD (t n k p s : Nat) (de : DEn) (lv : List Lv) : Rsd := match de[t]?, de[n]? with
  | some (some (.lst ds)), some (some (.int i)) => match dptsOf ds with
    | some ps => if ptsOk i ps = true /\ ps.length <= 1000 /\ k < de.length /\ p < de.length /\ s < de.length then .next (((de.set k none).set p none).set s none) (((lv.set k .full).set p .full).set s .full) else .no
    | none => .no
  | _, _ => .no
def exD (lev : Nat -> Lv) (cl : Nat -> List Dat -> Rd) : Sm -> DEn -> List Lv -> Rsd
  | .skip, de, lv => .next de lv
  | .seq a b, de, lv => match viewSw a b with
    | some _ => .no
    | none => match exD lev cl a de lv with
      | .next d1 l1 => exD lev cl b d1 l1
      | r => r
  | .asg i e, de, lv => (evD cl e de).bindS fun d => asgD lev i e d de lv
  | .asgS _ _ _, _, _ => .no
  | .swapS _ _ _ _ _ _, _, _ => .no
  | .aug _ _ _, _, _ => .no
  | .augS _ _ _ _, _, _ => .no
  | .ite c a b, de, lv => (evD cl c de).bindS fun x => match x with
    | .bl true => exD lev cl a de lv
    | .bl false => exD lev cl b de lv
    | _ => .no
  | .forv i it body, de, lv => (evD cl it de).bindS fun d => match itD d with
    | some xs => loopD (fun x de lv => exD lev cl body (de.set i (some x)) (lv.set i (lvF x))) xs de (if flat d then lv else relE it de lv)
    | none => .no
  | .fort _ _ _ _, _, _ => .no
  | .while _ _, _, _ => .no
  | .ret e, de, lv => (evD cl e de).bindS fun d => .ret d (lvR lev e d lv)
  | .retN, _, _ => .no
  | .expr e, de, lv => exprD lev cl e de lv
  | .forA _ _ _, _, _ => .no
  | .forZ _ _ _ _ _, _, _ => .no
  | .forS _ _ _ _, _, _ => .no
  | .forC _ _, _, _ => .no
  | .appPop _ _ _ _, _, _ => .no
  | .forE _ _ _ _, _, _ => .no
  | .swapI _ _ _ _ _, _, _ => .no
  | .popV _ _, _, _ => .no
  | .popI _ _ _ _, _, _ => .no
  | .unp3 _ _ _ _, _, _ => .no
  | .chk t n k p s, de, lv => chkD t n k p s de lv
  | .brk, _, _ => .no
  | .cont, _, _ => .no
  | .never, _, _ => .no
theorem exD_seq {lev : Nat -> Lv} {cl : Nat -> List Dat -> Rd} {a b : Sm} {de : DEn} {lv : List Lv} : exD lev cl (.seq a b) de lv = match viewSw a b with
    | some _ => .no
    | none => match exD lev cl a de lv with
      | .next d1 l1 => exD lev cl b d1 l1
      | r => r := rfl
def startD (fn : Fn) (ds : List Dat) : DEn := ds.map some ++ List.replicate (fn.sz - ds.length) none
def startL (fn : Fn) (ds : List Dat) : List Lv := ds.map lvF ++ List.replicate (fn.sz - ds.length) .full
def geLv : Lv -> Lv -> Bool
  | _, .no => true
  | .full, .full => true
  | .top, .top => true
  | _, _ => false
def endD (l : Lv) : Rsd -> Rd
  | .next _ _ => .ok .non
  | .ret d k => if flat d || geLv k l then .ok d else .no
  | .exc c d => .exc c d
  | _ => .no
def runD (lev : Nat -> Lv) (cl : Nat -> List Dat -> Rd) (k : Nat) (fn : Fn) (ds : List Dat) : Rd :=
  if ds.length = fn.ar then endD (lev k) (exD lev cl fn.body (startD fn ds) (startL fn ds)) else .no
def callD (lev : Nat -> Lv) (T : List Fn) : Nat -> Nat -> List Dat -> Rd
  | 0, _, _ => .no
  | d + 1, k, ds => match T[k]? with
    | some fn => runD lev (callD lev T d) k fn ds
    | none => .no
def Free (RR : Nat -> Prop) (A : Nat -> List Nat) : Nat -> Prop := fun l => RR l /\ ∀ i, l ∉ A i
structure Inv (lo : Nat) (RR : Nat -> Prop) (m : Me) (de : DEn) (lv : List Lv) (env : En) (A : Nat -> List Nat) : Prop where
  len : de.length = env.length
  lvl : lv.length = de.length
  rr : ∀ l, lo <= l -> RR l
  lom : lo <= m.length
  slot : ∀ i d l, de[i]? = some (some d) -> lv[i]? = some l -> ∃ w, env[i]? = some (some w) /\ RepO (Free RR A) m l d w (A i)
  nd : ∀ i, (A i).Nodup
  dj : ∀ i j a, a ∈ A i -> a ∈ A j -> i = j
  bd : ∀ i a, a ∈ A i -> lo <= a /\ a < m.length
def Keep (A : Nat -> List Nat) (m : Me) (A' : Nat -> List Nat) (m' : Me) : Prop := (∀ (l : Nat) o, (∀ i, l ∉ A i) -> m[l]? = some o -> (∀ i, l ∉ A' i) /\ m'[l]? = some o) /\ m.length <= m'.length
theorem Keep.refl (A : Nat -> List Nat) (m : Me) : Keep A m A m := ⟨fun _ _ h k => ⟨h, k⟩, Nat.le_refl _⟩
theorem Keep.trans {A B C : Nat -> List Nat} {m m1 m2 : Me} (h : Keep A m B m1) (k : Keep B m1 C m2) : Keep A m C m2 :=
  ⟨fun l o a b => k.1 l o (h.1 l o a b).1 (h.1 l o a b).2, Nat.le_trans h.2 k.2⟩
theorem Keep.rep {A A' : Nat -> List Nat} {m m' : Me} {RR : Nat -> Prop} {d : Dat} {w : Wd} (h : Keep A m A' m') (q : Rep (Free RR A) m d w) : Rep (Free RR A') m' d w :=
  Rep.frame (fun l o r z => ⟨⟨r.1, (h.1 l o r.2 z).1⟩, (h.1 l o r.2 z).2⟩) d w q
theorem Keep.repL {A A' : Nat -> List Nat} {m m' : Me} {RR : Nat -> Prop} {d : List Dat} {w : List Wd} (h : Keep A m A' m') (q : RepL (Free RR A) m d w) : RepL (Free RR A') m' d w :=
  RepL.frame (fun l o r z => ⟨⟨r.1, (h.1 l o r.2 z).1⟩, (h.1 l o r.2 z).2⟩) d w q
theorem Inv.getlv {lo : Nat} {RR : Nat -> Prop} {m : Me} {de : DEn} {lv : List Lv} {env : En} {A : Nat -> List Nat} (I : Inv lo RR m de lv env A) {i : Nat} {o : Option Dat} (h : de[i]? = some o) : ∃ l, lv[i]? = some l := by
  obtain ⟨hi, _⟩ := List.getElem?_eq_some_iff.mp h
  exact ⟨_, List.getElem?_eq_getElem (by rw [I.lvl]; exact hi)⟩
theorem Inv.envR {lo : Nat} {RR : Nat -> Prop} {m : Me} {de : DEn} {lv : List Lv} {env : En} {A : Nat -> List Nat} (I : Inv lo RR m de lv env A) (vs : List Nat) : EnvR RR m vs de env :=
  ⟨I.len, fun i _ d h => by
    obtain ⟨l, hl⟩ := I.getlv h
    obtain ⟨w, a, b⟩ := I.slot i d l h hl
    exact ⟨w, a, b.rep (fun _ z => z.1) (fun a ha => I.rr a (I.bd i a ha).1)⟩⟩
theorem Inv.ext {lo : Nat} {RR : Nat -> Prop} {m m' : Me} {de : DEn} {lv : List Lv} {env : En} {A : Nat -> List Nat} (I : Inv lo RR m de lv env A) (h : Le m m') : Inv lo RR m' de lv env A :=
  ⟨I.len, I.lvl, I.rr, Nat.le_trans I.lom h.len, fun i d l a b => by
    obtain ⟨w, p, q⟩ := I.slot i d l a b
    exact ⟨w, p, q.frame (fun l o r z => ⟨r, h l o z⟩) (fun l _ o z => h l o z)⟩, I.nd, I.dj, fun i a ha => ⟨(I.bd i a ha).1, Nat.lt_of_lt_of_le (I.bd i a ha).2 h.len⟩⟩
theorem keep_le {A : Nat -> List Nat} {m m' : Me} (h : Le m m') : Keep A m A m' := ⟨fun l o a b => ⟨a, h l o b⟩, h.len⟩
def upd (A : Nat -> List Nat) (i : Nat) (B : List Nat) : Nat -> List Nat := fun k => if k = i then B else A k
theorem upd_same {A : Nat -> List Nat} {i : Nat} {B : List Nat} : upd A i B i = B := by simp [upd]
theorem upd_ne {A : Nat -> List Nat} {i k : Nat} {B : List Nat} (h : k ≠ i) : upd A i B k = A k := by simp [upd, h]
theorem Inv.store {lo : Nat} {RR : Nat -> Prop} {m m' : Me} {de : DEn} {lv : List Lv} {env : En} {A : Nat -> List Nat} (I : Inv lo RR m de lv env A) (h : Le m m') (i : Nat) {d : Dat} {l : Lv} {w : Wd} {B : List Nat}
    (q : RepO (fun l => (Free RR A l \/ m.length <= l) /\ l ∉ B) m' l d w B) (nd : B.Nodup) (hB : ∀ b ∈ B, m.length <= b) :
    Inv lo RR m' (de.set i (some d)) (lv.set i l) (env.set i (some w)) (upd A i B) /\ Keep A m (upd A i B) m' := by
  have hlt := q.lt
  have fr : ∀ (x : Nat) (o : Ob), (∀ k, x ∉ A k) -> m[x]? = some o -> ∀ k, x ∉ upd A i B k := by
    intro x o hx hm k
    by_cases e : k = i
    . subst e; rw [upd_same]; intro hb
      have := hB x hb
      have := (List.getElem?_eq_some_iff.mp hm).1
      omega
    . rw [upd_ne e]; exact hx k
  refine ⟨⟨by simp [I.len], by simp [I.lvl], I.rr, Nat.le_trans I.lom h.len, ?_, ?_, ?_, ?_⟩, ⟨fun x o hx hm => ⟨fr x o hx hm, h x o hm⟩, h.len⟩⟩
  . intro k e l' h1 h2
    by_cases z : k = i
    . rw [z] at h1 h2 ⊢
      rw [List.getElem?_set] at h1 h2
      rw [if_pos rfl] at h1 h2
      split at h1
      . split at h2
        . next q1 q2 =>
          cases h1; cases h2
          refine ⟨w, by rw [List.getElem?_set, if_pos rfl, if_pos (by rw [<- I.len]; exact q1)], ?_⟩
          rw [upd_same]
          refine q.frame (fun x o r hm => ⟨⟨?_, fun k => ?_⟩, hm⟩) (fun _ _ _ z => z)
          . rcases r.1 with r1 | r1
            . exact r1.1
            . exact I.rr x (Nat.le_trans I.lom r1)
          . by_cases e : k = i
            . subst e; rw [upd_same]; exact r.2
            . rw [upd_ne e]
              rcases r.1 with r1 | r1
              . exact r1.2 k
              . intro ha; have := (I.bd k x ha).2; omega
        . cases h2
      . cases h1
    . rw [List.getElem?_set_ne (Ne.symm z)] at h1 h2
      obtain ⟨w', a, b⟩ := I.slot k e l' h1 h2
      refine ⟨w', by rw [List.getElem?_set_ne (Ne.symm z)]; exact a, ?_⟩
      rw [upd_ne z]
      exact b.frame (fun x o r hm => ⟨⟨r.1, fr x o r.2 hm⟩, h x o hm⟩) (fun x _ o hm => h x o hm)
  . intro k
    by_cases e : k = i
    . subst e; rw [upd_same]; exact nd
    . rw [upd_ne e]; exact I.nd k
  . intro k j a ha hb
    by_cases e : k = i
    . subst e; rw [upd_same] at ha
      by_cases f : j = k
      . exact f.symm
      . rw [upd_ne f] at hb
        have := hB a ha
        have := (I.bd j a hb).2
        omega
    . rw [upd_ne e] at ha
      by_cases f : j = i
      . subst f; rw [upd_same] at hb
        have := hB a hb
        have := (I.bd k a ha).2
        omega
      . rw [upd_ne f] at hb; exact I.dj k j a ha hb
  . intro k a ha
    by_cases e : k = i
    . subst e; rw [upd_same] at ha
      exact ⟨Nat.le_trans I.lom (hB a ha), hlt a ha⟩
    . rw [upd_ne e] at ha
      exact ⟨(I.bd k a ha).1, Nat.lt_of_lt_of_le (I.bd k a ha).2 h.len⟩
theorem Inv.weak {lo : Nat} {RR : Nat -> Prop} {m : Me} {de : DEn} {lv : List Lv} {env : En} {A : Nat -> List Nat} (I : Inv lo RR m de lv env A) (i : Nat) {l : Lv} {B : List Nat}
    (hB : ∀ b ∈ B, b ∈ A i) (nd : B.Nodup) (q : ∀ d w, de[i]? = some (some d) -> env[i]? = some (some w) -> RepO (Free RR (upd A i B)) m l d w B) :
    Inv lo RR m de (lv.set i l) env (upd A i B) /\ Keep A m (upd A i B) m := by
  have fr : ∀ x, (∀ k, x ∉ A k) -> ∀ k, x ∉ upd A i B k := by
    intro x hx k
    by_cases e : k = i
    . subst e; rw [upd_same]; intro hb; exact hx _ (hB x hb)
    . rw [upd_ne e]; exact hx k
  have sub : ∀ k a, a ∈ upd A i B k -> a ∈ A k := by
    intro k a ha
    by_cases e : k = i
    . subst e; rw [upd_same] at ha; exact hB a ha
    . rw [upd_ne e] at ha; exact ha
  refine ⟨⟨I.len, by simp [I.lvl], I.rr, I.lom, ?_, ?_, fun k j a ha hb => I.dj k j a (sub k a ha) (sub j a hb), fun k a ha => I.bd k a (sub k a ha)⟩, ⟨fun x o hx hm => ⟨fr x hx, hm⟩, Nat.le_refl _⟩⟩
  . intro k e l' h1 h2
    by_cases z : k = i
    . subst z
      rw [List.getElem?_set, if_pos rfl] at h2
      split at h2
      . cases h2
        obtain ⟨l0, hl0⟩ := I.getlv h1
        obtain ⟨w, a, _⟩ := I.slot k e l0 h1 hl0
        refine ⟨w, a, ?_⟩
        rw [upd_same]
        exact q e w h1 a
      . cases h2
    . rw [List.getElem?_set_ne (Ne.symm z)] at h2
      obtain ⟨w', a, b⟩ := I.slot k e l' h1 h2
      refine ⟨w', a, ?_⟩
      rw [upd_ne z]
      exact b.frame (fun x o r hm => ⟨⟨r.1, fr x r.2⟩, hm⟩) (fun x _ o hm => hm)
  . intro k
    by_cases e : k = i
    . subst e; rw [upd_same]; exact nd
    . rw [upd_ne e]; exact I.nd k
theorem Inv.down {lo : Nat} {RR : Nat -> Prop} {m : Me} {de : DEn} {lv : List Lv} {env : En} {A : Nat -> List Nat} (I : Inv lo RR m de lv env A) (i : Nat) :
    Inv lo RR m de (lv.set i .no) env (upd A i []) /\ Keep A m (upd A i []) m := by
  refine I.weak i (by simp) List.nodup_nil fun d w h1 h2 => ⟨?_, rfl⟩
  obtain ⟨l, hl⟩ := I.getlv h1
  obtain ⟨w', a, b⟩ := I.slot i d l h1 hl
  rw [h2] at a; cases a
  refine b.rep (fun x r => ⟨r.1, fun k => ?_⟩) (fun x hx => ⟨I.rr x (I.bd i x hx).1, fun k => ?_⟩)
  . by_cases e : k = i
    . subst e; rw [upd_same]; simp
    . rw [upd_ne e]; exact r.2 k
  . by_cases e : k = i
    . subst e; rw [upd_same]; simp
    . rw [upd_ne e]; intro ha; exact e (I.dj k i x ha hx)
theorem downs_get : ∀ (vs : List Nat) (lv : List Lv) (k : Nat), (downs vs lv)[k]? = if k ∈ vs /\ k < lv.length then some .no else lv[k]?
  | [], lv, k => by simp [downs]
  | i :: vs, lv, k => by
    unfold downs
    rw [downs_get vs (lv.set i .no) k]
    rw [List.length_set, List.getElem?_set]
    by_cases a : k ∈ vs /\ k < lv.length
    . rw [if_pos a, if_pos ⟨List.mem_cons_of_mem _ a.1, a.2⟩]
    . rw [if_neg a]
      by_cases e : i = k
      . subst e
        by_cases b : i < lv.length
        . simp [b]
        . simp [b]
      . rw [if_neg e]
        by_cases c : k ∈ vs
        . have : ¬ k < lv.length := fun z => a ⟨c, z⟩
          rw [if_neg (fun z => this z.2)]
        . rw [if_neg (fun z => by rcases List.mem_cons.mp z.1 with z1 | z1; exact e z1.symm; exact c z1)]
theorem Inv.downs {lo : Nat} {RR : Nat -> Prop} {m : Me} {de : DEn} {env : En} : ∀ (vs : List Nat) {lv : List Lv} {A : Nat -> List Nat}, Inv lo RR m de lv env A ->
    ∃ A', Inv lo RR m de (downs vs lv) env A' /\ Keep A m A' m /\ (∀ i ∈ vs, A' i = []) /\ (∀ i, A' i = A i \/ A' i = []) /\ ∀ i, i ∉ vs -> A' i = A i
  | [], lv, A, I => ⟨A, I, Keep.refl A m, by simp, fun i => .inl rfl, fun _ _ => rfl⟩
  | j :: vs, lv, A, I => by
    obtain ⟨I1, K1⟩ := I.down j
    obtain ⟨A', I2, K2, h1, h2, h3⟩ := Inv.downs vs I1
    refine ⟨A', I2, K1.trans K2, fun i hi => ?_, fun i => ?_, fun i hi => ?_⟩
    . by_cases q : i ∈ vs
      . exact h1 i q
      . rw [h3 i q]
        rcases List.mem_cons.mp hi with rfl | hi
        . exact upd_same
        . exact absurd hi q
    . rcases h2 i with z | z
      . rw [z]
        by_cases e : i = j
        . subst e; right; exact upd_same
        . left; exact upd_ne e
      . exact .inr z
    . have : i ≠ j := fun e => hi (by rw [e]; simp)
      rw [h3 i (fun z => hi (List.mem_cons_of_mem _ z)), upd_ne this]
theorem Inv.top {lo : Nat} {RR : Nat -> Prop} {m : Me} {de : DEn} {lv : List Lv} {env : En} {A : Nat -> List Nat} (I : Inv lo RR m de lv env A) (j : Nat) {ds : List Dat} (hd : de[j]? = some (some (.lst ds))) (hj : owned lv j = true) :
    ∃ l xs A', Inv lo RR m de (lv.set j .top) env A' /\ Keep A m A' m /\ A' j = [l] /\ (∀ i, i ≠ j -> A' i = A i) /\ env[j]? = some (some (.ref l)) /\ m[l]? = some (.lst xs) /\ RepL (Free RR A') m ds xs /\ l ∈ A j := by
  unfold owned at hj
  obtain ⟨lj, hl⟩ := I.getlv hd
  obtain ⟨w, a, b⟩ := I.slot j _ lj hd hl
  rw [hl] at hj
  have key : ∃ l xs, w = .ref l /\ l ∈ A j /\ m[l]? = some (.lst xs) /\ RepL (Free RR (upd A j [l])) m ds xs := by
    cases lj with
    | no => simp at hj
    | top =>
      obtain ⟨es, l, xs, e, rfl, hA, hm, r⟩ := b
      cases e
      refine ⟨l, xs, rfl, by rw [hA]; simp, hm, RepL.frame (fun x o r z => ⟨⟨r.1, fun k => ?_⟩, z⟩) _ _ r⟩
      by_cases e : k = j
      . subst e; rw [upd_same, <- hA]; exact r.2 k
      . rw [upd_ne e]; exact r.2 k
    | full =>
      obtain ⟨l, xs, B, rfl, hA, hm, r⟩ := own_lst.mp b
      refine ⟨l, xs, rfl, by rw [hA]; simp, hm, OwnL.rep ds xs B (fun x hx => ⟨I.rr x (I.bd j x (by rw [hA]; exact List.mem_cons_of_mem _ hx)).1, fun k => ?_⟩) r⟩
      have nd := I.nd j
      rw [hA] at nd
      by_cases e : k = j
      . subst e; rw [upd_same]; intro z; rw [List.mem_singleton.mp z] at hx; exact (List.nodup_cons.mp nd).1 hx
      . rw [upd_ne e]; intro z; exact e (I.dj k j x z (by rw [hA]; exact List.mem_cons_of_mem _ hx))
  obtain ⟨l, xs, rfl, hA, hm, r⟩ := key
  obtain ⟨I', K⟩ := I.weak j (l := .top) (B := [l]) (by intro b hb; rw [List.mem_singleton.mp hb]; exact hA) (by simp) fun d w h1 h2 => by
    rw [hd] at h1; cases h1
    rw [a] at h2; cases h2
    exact ⟨ds, l, xs, rfl, rfl, rfl, hm, r⟩
  exact ⟨l, xs, _, I', K, upd_same, fun i hi => upd_ne hi, a, hm, r, hA⟩
theorem get_set_ne {m : Me} {l x : Nat} {o : Ob} (h : l ≠ x) : (m.set l o)[x]? = m[x]? := List.getElem?_set_ne h
theorem get_set_same {m : Me} {l : Nat} {o p : Ob} (h : m[l]? = some p) : (m.set l o)[l]? = some o := by
  rw [List.getElem?_set, if_pos rfl, if_pos (List.getElem?_eq_some_iff.mp h).1]
theorem Inv.put {lo : Nat} {RR : Nat -> Prop} {m m1 : Me} {de : DEn} {lv : List Lv} {env : En} {A : Nat -> List Nat} (I : Inv lo RR m de lv env A) (le : Le m m1) {j l : Nat} {xs ys : List Wd} (hl : l ∈ A j) (A1 : Nat -> List Nat)
    (h3 : ∀ k a, a ∈ A1 k -> (∃ k', a ∈ A k') \/ m.length <= a) (nd1 : ∀ k, (A1 k).Nodup) (dj1 : ∀ i k a, a ∈ A1 i -> a ∈ A1 k -> i = k) (bd1 : ∀ k a, a ∈ A1 k -> lo <= a /\ a < m1.length)
    {de1 : DEn} {lv1 : List Lv} (len1 : de1.length = de.length) (lvl1 : lv1.length = lv.length)
    (live : ∀ k d lk, k ≠ j -> de1[k]? = some (some d) -> lv1[k]? = some lk -> de[k]? = some (some d) /\ lv[k]? = some lk /\ A1 k = A k)
    (sj : ∀ d lj, de1[j]? = some (some d) -> lv1[j]? = some lj -> ∃ w, env[j]? = some (some w) /\ RepO (Free RR A1) (m1.set l (.lst ys)) lj d w (A1 j)) :
    Inv lo RR (m1.set l (.lst ys)) de1 lv1 env A1 /\ Keep A m A1 (m1.set l (.lst ys)) := by
  have fr : ∀ (x : Nat) (o : Ob), (∀ k, x ∉ A k) -> m[x]? = some o -> (∀ k, x ∉ A1 k) /\ (m1.set l (.lst ys))[x]? = some o := by
    intro x o hx hm
    refine ⟨fun k ha => ?_, ?_⟩
    . rcases h3 k x ha with ⟨k', z⟩ | z
      . exact hx k' z
      . have := (List.getElem?_eq_some_iff.mp hm).1; omega
    . rw [get_set_ne (l := l) (x := x) (fun e => hx j (by rw [<- e]; exact hl))]; exact le x o hm
  refine ⟨⟨len1.trans I.len, by rw [lvl1, I.lvl, len1], I.rr, by rw [List.length_set]; exact Nat.le_trans I.lom le.len, ?_, nd1, dj1, fun k a ha => by rw [List.length_set]; exact bd1 k a ha⟩, ⟨fun x o hx hm => fr x o hx hm, by rw [List.length_set]; exact le.len⟩⟩
  intro k d lk h1 h2
  by_cases e : k = j
  . subst e; exact sj d lk h1 h2
  . obtain ⟨a, b, c⟩ := live k d lk e h1 h2
    obtain ⟨w, p, q⟩ := I.slot k d lk a b
    refine ⟨w, p, ?_⟩
    rw [c]
    refine q.frame (fun x o r hm => ⟨⟨r.1, (fr x o r.2 hm).1⟩, (fr x o r.2 hm).2⟩) (fun x hx o hm => ?_)
    rw [get_set_ne (l := l) (x := x) (fun z => e (I.dj k j x hx (by rw [<- z]; exact hl)))]
    exact le x o hm
def ChgF (m m1 : Me) (ds : List Dat) (xs : List Wd) (ds' : List Dat) (ys : List Wd) : Prop :=
  ∀ B, B.Nodup -> OwnL m ds xs B -> ∃ B', OwnL m1 ds' ys B' /\ B'.Nodup /\ ∀ b ∈ B', b ∈ B \/ m.length <= b
def ChgT (RR : Nat -> Prop) (A : Nat -> List Nat) (m m1 : Me) (ds : List Dat) (xs : List Wd) (ds' : List Dat) (ys : List Wd) : Prop :=
  RepL (Free RR A) m ds xs -> RepL (fun x => Free RR A x \/ m.length <= x) m1 ds' ys
def Chg (RR : Nat -> Prop) (A : Nat -> List Nat) (m m1 : Me) (ds : List Dat) (xs : List Wd) (ds' : List Dat) (ys : List Wd) : Prop :=
  (∀ B, B.Nodup -> OwnL m ds xs B -> ∃ B', OwnL m1 ds' ys B' /\ B'.Nodup /\ ∀ b ∈ B', b ∈ B \/ m.length <= b) /\ (RepL (Free RR A) m ds xs -> RepL (fun x => Free RR A x \/ m.length <= x) m1 ds' ys)
theorem Inv.mut {lo : Nat} {RR : Nat -> Prop} {m : Me} {de : DEn} {lv : List Lv} {env : En} {A : Nat -> List Nat} (I : Inv lo RR m de lv env A) {j : Nat} {ds : List Dat} (hd : de[j]? = some (some (.lst ds))) (hj : owned lv j = true) :
    ∃ l xs, env[j]? = some (some (.ref l)) /\ m[l]? = some (.lst xs) /\ RepL RR m ds xs /\ ∀ (m1 : Me) (ds' : List Dat) (ys : List Wd), Le m m1 -> (lv[j]? = some .full -> ChgF m m1 ds xs ds' ys) -> (lv[j]? = some .top -> ChgT RR A m m1 ds xs ds' ys) ->
      ∃ A1, Inv lo RR (m1.set l (.lst ys)) (de.set j (some (.lst ds'))) lv env A1 /\ Keep A m A1 (m1.set l (.lst ys)) := by
  unfold owned at hj
  obtain ⟨lj, hl⟩ := I.getlv hd
  obtain ⟨w, a, b⟩ := I.slot j _ lj hd hl
  rw [hl] at hj
  have hjl : j < de.length := (List.getElem?_eq_some_iff.mp hd).1
  have live : ∀ (A1 : Nat -> List Nat), (∀ k, k ≠ j -> A1 k = A k) -> ∀ (ds' : List Dat) k d lk, k ≠ j -> (de.set j (some (.lst ds')))[k]? = some (some d) -> lv[k]? = some lk -> de[k]? = some (some d) /\ lv[k]? = some lk /\ A1 k = A k := by
    intro A1 h ds' k d lk e h1 h2
    rw [List.getElem?_set_ne (Ne.symm e)] at h1
    exact ⟨h1, h2, h k e⟩
  cases lj with
  | no => simp at hj
  | top =>
    obtain ⟨es, l, xs, e, rfl, hA, hm, r⟩ := b
    cases e
    refine ⟨l, xs, a, hm, RepL.frame (fun _ _ r z => ⟨r.1, z⟩) _ _ r, fun m1 ds' ys le _ c => ⟨A, ?_⟩⟩
    have hlm := (List.getElem?_eq_some_iff.mp hm).1
    refine I.put le (j := j) (l := l) (xs := xs) (by rw [hA]; simp) A (fun k a ha => .inl ⟨k, ha⟩) I.nd I.dj (fun k a ha => ⟨(I.bd k a ha).1, Nat.lt_of_lt_of_le (I.bd k a ha).2 le.len⟩) (by simp) rfl (live A (fun _ _ => rfl) ds') ?_
    intro d lj h1 h2
    rw [List.getElem?_set, if_pos rfl, if_pos hjl] at h1
    cases h1
    rw [hl] at h2; cases h2
    refine ⟨_, a, ds', l, ys, rfl, rfl, hA, get_set_same (le l _ hm), RepL.frame (fun x o r z => ?_) _ _ (c hl r)⟩
    rcases r with r | r
    . exact ⟨r, by rw [get_set_ne (l := l) (x := x) (fun e => r.2 j (by rw [hA, e]; simp))]; exact z⟩
    . exact ⟨⟨I.rr x (Nat.le_trans I.lom r), fun k hk => by have := (I.bd k x hk).2; omega⟩, by rw [get_set_ne (l := l) (x := x) (by omega)]; exact z⟩
  | full =>
    obtain ⟨l, xs, B, rfl, hA, hm, r⟩ := own_lst.mp b
    have hlm := (List.getElem?_eq_some_iff.mp hm).1
    have nd := I.nd j
    rw [hA] at nd
    refine ⟨l, xs, a, hm, OwnL.rep ds xs B (fun x hx => I.rr x (I.bd j x (by rw [hA]; exact List.mem_cons_of_mem _ hx)).1) r, fun m1 ds' ys le c _ => ?_⟩
    obtain ⟨B', o, nb, hB⟩ := c hl B (List.nodup_cons.mp nd).2 r
    have hlB : l ∉ B' := fun z => by
      rcases hB l z with z | z
      . exact (List.nodup_cons.mp nd).1 z
      . omega
    have sub : ∀ x ∈ l :: B', x ∈ A j \/ m.length <= x := by
      intro x hx
      rcases List.mem_cons.mp hx with rfl | hx
      . left; rw [hA]; simp
      . rcases hB x hx with z | z
        . left; rw [hA]; exact List.mem_cons_of_mem _ z
        . exact .inr z
    refine ⟨upd A j (l :: B'), ?_⟩
    refine I.put le (j := j) (l := l) (xs := xs) (by rw [hA]; simp) _ ?_ ?_ ?_ ?_ (by simp) rfl (live _ (fun k hk => upd_ne hk) ds') ?_
    . intro k x hx
      by_cases e : k = j
      . subst e; rw [upd_same] at hx
        rcases sub x hx with z | z
        . exact .inl ⟨k, z⟩
        . exact .inr z
      . rw [upd_ne e] at hx; exact .inl ⟨k, hx⟩
    . intro k
      by_cases e : k = j
      . subst e; rw [upd_same]; exact List.nodup_cons.mpr ⟨hlB, nb⟩
      . rw [upd_ne e]; exact I.nd k
    . intro i k x h1 h2
      by_cases e : i = j
      . by_cases f : k = j
        . rw [e, f]
        . rw [e, upd_same] at h1; rw [upd_ne f] at h2
          rcases sub x h1 with z | z
          . rw [e]; exact I.dj j k x z h2
          . have := (I.bd k x h2).2; omega
      . rw [upd_ne e] at h1
        by_cases f : k = j
        . rw [f, upd_same] at h2
          rcases sub x h2 with z | z
          . rw [f]; exact I.dj i j x h1 z
          . have := (I.bd i x h1).2; omega
        . rw [upd_ne f] at h2; exact I.dj i k x h1 h2
    . intro k x hx
      by_cases e : k = j
      . rw [e, upd_same] at hx
        rcases List.mem_cons.mp hx with rfl | hx
        . exact ⟨(I.bd j _ (by rw [hA]; simp)).1, Nat.lt_of_lt_of_le hlm le.len⟩
        . refine ⟨?_, OwnL.lt ds' ys B' o x hx⟩
          rcases hB x hx with z | z
          . exact (I.bd j x (by rw [hA]; exact List.mem_cons_of_mem _ z)).1
          . exact Nat.le_trans I.lom z
      . rw [upd_ne e] at hx
        exact ⟨(I.bd k x hx).1, Nat.lt_of_lt_of_le (I.bd k x hx).2 le.len⟩
    . intro d lj h1 h2
      rw [List.getElem?_set, if_pos rfl, if_pos hjl] at h1
      cases h1
      rw [hl] at h2; cases h2
      refine ⟨_, a, ?_⟩
      rw [upd_same]
      exact own_lst.mpr ⟨l, ys, B', rfl, rfl, get_set_same (le l _ hm), OwnL.frame ds' ys B' (fun x hx o z => by rw [get_set_ne (l := l) (x := x) (fun e => hlB (by rw [e]; exact hx))]; exact z) o⟩
theorem OwnL.item {m : Me} : ∀ {ds : List Dat} {xs : List Wd} {A : List Nat} {p : Nat} {d : Dat}, OwnL m ds xs A -> ds[p]? = some d -> ∃ x B, (xs[p]? = some x /\ Own m d x B) /\ ∀ b ∈ B, b ∈ A
  | [], xs, A, p, d, h, z => by simp at z
  | e :: ds, xs, A, 0, d, h, z => by
    obtain ⟨x, r, B, C, rfl, rfl, a, b⟩ := h.cons_inv
    simp at z; subst z
    exact ⟨x, B, ⟨rfl, a⟩, fun b hb => List.mem_append_left _ hb⟩
  | e :: ds, xs, A, p + 1, d, h, z => by
    obtain ⟨x, r, B, C, rfl, rfl, a, b⟩ := h.cons_inv
    obtain ⟨y, D, h1, h2⟩ := OwnL.item b (by simpa using z)
    exact ⟨y, D, by simpa using h1, fun b hb => List.mem_append_right _ (h2 b hb)⟩
theorem OwnL.split {m : Me} : ∀ {ds : List Dat} {xs : List Wd} {A : List Nat} {p : Nat} {d : Dat}, OwnL m ds xs A -> ds[p]? = some d ->
    ∃ x B1 Bp B2, xs[p]? = some x /\ A = B1 ++ (Bp ++ B2) /\ Own m d x Bp /\ (∀ (i : Nat) e y, i ≠ p -> ds[i]? = some e -> xs[i]? = some y -> ∃ Bi, Own m e y Bi /\ ∀ b ∈ Bi, b ∈ B1 \/ b ∈ B2) /\ ∀ (m' : Me) (d' : Dat) (x' : Wd) (B' : List Nat), (∀ l, l ∈ B1 \/ l ∈ B2 -> ∀ o, m[l]? = some o -> m'[l]? = some o) -> Own m' d' x' B' -> OwnL m' (ds.set p d') (xs.set p x') (B1 ++ (B' ++ B2))
  | [], xs, A, p, d, h, z => by simp at z
  | e :: ds, xs, A, 0, d, h, z => by
    obtain ⟨x, r, B, C, rfl, rfl, a, b⟩ := h.cons_inv
    simp at z; subst z
    refine ⟨x, [], B, C, rfl, rfl, a, fun i e y hi h1 h2 => ?_, fun m' d' x' B' fr o => ?_⟩
    . cases i with
      | zero => exact absurd rfl hi
      | succ i =>
        simp at h1 h2
        obtain ⟨y', Bi, o, hB⟩ := OwnL.item b h1
        rw [h2] at o; obtain ⟨o1, o2⟩ := o; cases o1
        exact ⟨Bi, o2, fun z hz => .inr (hB z hz)⟩
    show OwnL m' (d' :: ds) (x' :: r) (B' ++ C)
    exact OwnL.cons o (OwnL.frame ds r C (fun l hl => fr l (.inr hl)) b)
  | e :: ds, xs, A, p + 1, d, h, z => by
    obtain ⟨x, r, B, C, rfl, rfl, a, b⟩ := h.cons_inv
    obtain ⟨y, B1, Bp, B2, h1, rfl, h3, h5, h4⟩ := OwnL.split b (by simpa using z)
    refine ⟨y, B ++ B1, Bp, B2, by simpa using h1, by simp [List.append_assoc], h3, fun i e' y' hi g1 g2 => ?_, fun m' d' x' B' fr o => ?_⟩
    . cases i with
      | zero => simp at g1 g2; subst g1; subst g2; exact ⟨B, a, fun z hz => .inl (List.mem_append_left _ hz)⟩
      | succ i =>
        simp at g1 g2
        obtain ⟨Bi, o, hB⟩ := h5 i e' y' (by omega) g1 g2
        exact ⟨Bi, o, fun z hz => by rcases hB z hz with q | q; exact .inl (List.mem_append_right _ q); exact .inr q⟩
    rw [List.append_assoc]
    exact OwnL.cons (Own.frame e x B (fun l hl => fr l (.inl (List.mem_append_left _ hl))) a) (h4 m' d' x' B' (fun l hl => fr l (by rcases hl with hl | hl; exact .inl (List.mem_append_right _ hl); exact .inr hl)) o)
theorem chg_app {RR : Nat -> Prop} {A : Nat -> List Nat} {m m1 : Me} {ds : List Dat} {xs : List Wd} {d : Dat} {w : Wd} {B0 : List Nat} (le : Le m m1) (o : Own m1 d w B0) (nd : B0.Nodup) (hB : ∀ b ∈ B0, m.length <= b) : Chg RR A m m1 ds xs (ds ++ [d]) (xs ++ [w]) := by
  refine ⟨fun B nb q => ⟨B ++ (B0 ++ []), (OwnL.frame ds xs B (fun l _ o z => le l o z) q).app (.cons o .nil), ?_, ?_⟩, fun q => ?_⟩
  . rw [List.append_nil]
    refine List.nodup_append.mpr ⟨nb, nd, fun x hx y hy e => ?_⟩
    have := OwnL.lt ds xs B q x hx
    have := hB y hy
    omega
  . intro b hb
    rw [List.append_nil] at hb
    rcases List.mem_append.mp hb with z | z
    . exact .inl z
    . exact .inr (hB b z)
  . exact (RepL.frame (fun l o r z => ⟨.inl r, le l o z⟩) _ _ q).app (.cons (Own.rep d w B0 (fun b hb => .inr (hB b hb)) o) .nil)
theorem chg_set {RR : Nat -> Prop} {A : Nat -> List Nat} {m m1 : Me} {ds : List Dat} {xs : List Wd} {d : Dat} {w : Wd} {B0 : List Nat} (p : Nat) (le : Le m m1) (o : Own m1 d w B0) (nd : B0.Nodup) (hB : ∀ b ∈ B0, m.length <= b) : Chg RR A m m1 ds xs (ds.set p d) (xs.set p w) := by
  refine ⟨fun B nb q => ?_, fun q => ?_⟩
  . cases hp : ds[p]? with
    | none =>
      have h1 : ds.length <= p := List.getElem?_eq_none_iff.mp hp
      rw [List.set_eq_of_length_le h1, List.set_eq_of_length_le (by rw [<- q.len]; exact h1)]
      exact ⟨B, OwnL.frame ds xs B (fun l _ o z => le l o z) q, nb, fun b hb => .inl hb⟩
    | some e =>
      obtain ⟨y, B1, Bp, B2, h1, rfl, h3, _, h4⟩ := OwnL.split q hp
      refine ⟨B1 ++ (B0 ++ B2), h4 m1 d w B0 (fun l _ o z => le l o z) o, ?_, ?_⟩
      . have hlt := OwnL.lt ds xs _ q
        rw [List.nodup_append] at nb ⊢
        obtain ⟨n1, n2, n3⟩ := nb
        rw [List.nodup_append] at n2 ⊢
        obtain ⟨n4, n5, n6⟩ := n2
        refine ⟨n1, ⟨nd, n5, fun x hx y hy e => ?_⟩, fun x hx y hy e => ?_⟩
        . have := hB x hx
          have := hlt y (by simp [hy])
          omega
        . rcases List.mem_append.mp hy with hy | hy
          . have := hB y hy
            have := hlt x (by simp [hx])
            omega
          . exact n3 x hx y (List.mem_append_right _ hy) e
      . intro b hb
        simp only [List.mem_append] at hb ⊢
        rcases hb with z | z | z
        . exact .inl (.inl z)
        . exact .inr (hB b z)
        . exact .inl (.inr (.inr z))
  . exact (RepL.frame (fun l o r z => ⟨.inl r, le l o z⟩) _ _ q).set p (Own.rep d w B0 (fun b hb => .inr (hB b hb)) o)
theorem OwnL.rev {m : Me} : ∀ {ds : List Dat} {xs : List Wd} {A : List Nat}, A.Nodup -> OwnL m ds xs A -> ∃ B, OwnL m ds.reverse xs.reverse B /\ B.Nodup /\ ∀ b ∈ B, b ∈ A
  | [], xs, A, nd, h => by rw [h.nil_inv.1]; exact ⟨[], .nil, List.nodup_nil, by simp⟩
  | d :: ds, xs, A, nd, h => by
    obtain ⟨x, r, B, C, rfl, rfl, a, b⟩ := h.cons_inv
    obtain ⟨n1, n2, n3⟩ := List.nodup_append.mp nd
    obtain ⟨D, o, nD, hD⟩ := OwnL.rev n2 b
    rw [List.reverse_cons, List.reverse_cons]
    refine ⟨D ++ (B ++ []), o.app (.cons a .nil), ?_, ?_⟩
    . rw [List.append_nil]
      exact List.nodup_append.mpr ⟨nD, n1, fun x hx y hy e => n3 y hy x (hD x hx) e.symm⟩
    . intro b hb
      simp only [List.append_nil, List.mem_append] at hb ⊢
      rcases hb with z | z
      . exact .inr (hD b z)
      . exact .inl z
theorem chg_rev {RR : Nat -> Prop} {A : Nat -> List Nat} {m : Me} {ds : List Dat} {xs : List Wd} : Chg RR A m m ds xs ds.reverse xs.reverse := by
  refine ⟨fun B nb q => ?_, fun q => (RepL.frame (fun l o r z => ⟨.inl r, z⟩) _ _ q).rev⟩
  obtain ⟨D, o, nD, hD⟩ := OwnL.rev nb q
  exact ⟨D, o, nD, fun b hb => .inl (hD b hb)⟩
theorem chg_nil {RR : Nat -> Prop} {A : Nat -> List Nat} {m : Me} {ds : List Dat} {xs : List Wd} : Chg RR A m m ds xs [] [] :=
  ⟨fun B nb q => ⟨[], .nil, List.nodup_nil, by simp⟩, fun q => .nil⟩
theorem chg_ext {RR R : Nat -> Prop} {A : Nat -> List Nat} {m m1 : Me} {ds : List Dat} {xs : List Wd} {es : List Dat} {ys : List Wd} (le : Le m m1) (f : flatL es = true) (r : RepL R m1 es ys) : Chg RR A m m1 ds xs (ds ++ es) (xs ++ ys) := by
  have o : OwnL m1 es ys [] := r.flat es ys f
  refine ⟨fun B nb q => ⟨B ++ [], (OwnL.frame ds xs B (fun l _ o z => le l o z) q).app o, by simpa using nb, fun b hb => .inl (by simpa using hb)⟩, fun q => ?_⟩
  exact (RepL.frame (fun l o r z => ⟨.inl r, le l o z⟩) _ _ q).app (OwnL.rep es ys [] (by simp) o)
theorem chg_cons {RR : Nat -> Prop} {A : Nat -> List Nat} {m m1 : Me} {ds : List Dat} {xs : List Wd} {d : Dat} {w : Wd} {B0 : List Nat} (le : Le m m1) (o : Own m1 d w B0) (nd : B0.Nodup) (hB : ∀ b ∈ B0, m.length <= b) : Chg RR A m m1 ds xs (d :: ds) (w :: xs) := by
  refine ⟨fun B nb q => ⟨B0 ++ B, .cons o (OwnL.frame ds xs B (fun l _ o z => le l o z) q), ?_, ?_⟩, fun q => ?_⟩
  . refine List.nodup_append.mpr ⟨nd, nb, fun x hx y hy e => ?_⟩
    have := OwnL.lt ds xs B q y hy
    have := hB x hx
    omega
  . intro b hb
    rcases List.mem_append.mp hb with z | z
    . exact .inr (hB b z)
    . exact .inl z
  . exact .cons (Own.rep d w B0 (fun b hb => .inr (hB b hb)) o) (RepL.frame (fun l o r z => ⟨.inl r, le l o z⟩) _ _ q)
theorem OwnL.dropL {m : Me} : ∀ {ds : List Dat} {xs : List Wd} {A : List Nat}, A.Nodup -> OwnL m ds xs A -> ∃ B, OwnL m ds.dropLast xs.dropLast B /\ B.Nodup /\ ∀ b ∈ B, b ∈ A
  | [], xs, A, nd, h => by rw [h.nil_inv.1]; exact ⟨[], .nil, List.nodup_nil, by simp⟩
  | [d], xs, A, nd, h => by
    obtain ⟨x, r, B, C, rfl, rfl, a, b⟩ := h.cons_inv
    rw [b.nil_inv.1]; exact ⟨[], .nil, List.nodup_nil, by simp⟩
  | d :: e :: ds, xs, A, nd, h => by
    obtain ⟨x, r, B, C, rfl, rfl, a, b⟩ := h.cons_inv
    obtain ⟨n1, n2, n3⟩ := List.nodup_append.mp nd
    obtain ⟨D, o, nD, hD⟩ := OwnL.dropL n2 b
    obtain ⟨y, r', B', C', rfl, rfl, a', b'⟩ := b.cons_inv
    refine ⟨B ++ D, .cons a o, List.nodup_append.mpr ⟨n1, nD, fun x hx y hy e => n3 x hx y (hD y hy) e⟩, fun b hb => ?_⟩
    rcases List.mem_append.mp hb with z | z
    . exact List.mem_append_left _ z
    . exact List.mem_append_right _ (hD b z)
theorem chg_last {RR : Nat -> Prop} {A : Nat -> List Nat} {m : Me} {ds : List Dat} {xs : List Wd} : Chg RR A m m ds xs ds.dropLast xs.dropLast := by
  refine ⟨fun B nb q => ?_, fun q => ?_⟩
  . obtain ⟨D, o, nD, hD⟩ := OwnL.dropL nb q
    exact ⟨D, o, nD, fun b hb => .inl (hD b hb)⟩
  . rw [List.dropLast_eq_take, List.dropLast_eq_take, <- q.len]
    exact (RepL.frame (fun l o r z => ⟨.inl r, z⟩) _ _ q).take _
theorem chg_tail {RR : Nat -> Prop} {A : Nat -> List Nat} {m : Me} {ds : List Dat} {xs : List Wd} {d : Dat} {w : Wd} : Chg RR A m m (d :: ds) (w :: xs) ds xs := by
  refine ⟨fun B nb q => ?_, fun q => ?_⟩
  . obtain ⟨x, r, B1, C, e, rfl, a, b⟩ := q.cons_inv
    cases e
    exact ⟨C, b, (List.nodup_append.mp nb).2.1, fun b hb => .inl (List.mem_append_right _ hb)⟩
  . obtain ⟨x, r, e, a, b⟩ := q.cons_inv
    cases e
    exact RepL.frame (fun l o r z => ⟨.inl r, z⟩) _ _ b
theorem Inv.mutIn {lo : Nat} {RR : Nat -> Prop} {m : Me} {de : DEn} {lv : List Lv} {env : En} {A : Nat -> List Nat} (I : Inv lo RR m de lv env A) {j p : Nat} {ds es : List Dat} (hd : de[j]? = some (some (.lst ds))) (hf : lv[j]? = some .full) (hp : ds[p]? = some (.lst es)) :
    ∃ l xs l2 us, env[j]? = some (some (.ref l)) /\ m[l]? = some (.lst xs) /\ xs[p]? = some (.ref l2) /\ m[l2]? = some (.lst us) /\ ds.length = xs.length /\ RepL RR m es us /\
      (∀ (m1 : Me) (es' : List Dat) (vs : List Wd), Le m m1 -> ChgF m m1 es us es' vs ->
        ∃ A1, Inv lo RR (m1.set l2 (.lst vs)) (de.set j (some (.lst (ds.set p (.lst es'))))) lv env A1 /\ Keep A m A1 (m1.set l2 (.lst vs))) /\
      (∀ (m1 : Me) (q : Nat) (d : Dat) (w : Wd), Le m m1 -> Rep (fun x => Free RR A x \/ m.length <= x) m1 d w ->
        ∃ A1, Inv lo RR (m1.set l2 (.lst (us.set q w))) (de.set j (some (.lst (ds.set p (.lst (es.set q d)))))) (lv.set j .top) env A1 /\ Keep A m A1 (m1.set l2 (.lst (us.set q w)))) := by
  obtain ⟨w, a, b⟩ := I.slot j _ .full hd hf
  obtain ⟨l, xs, B, rfl, hA, hm, r⟩ := own_lst.mp b
  obtain ⟨x, B1, Bp, B2, h1, hB, h3, h5, h4⟩ := r.split hp
  obtain ⟨l2, us, Bq, rfl, rfl, hm2, r2⟩ := own_lst.mp h3
  have hjl : j < de.length := (List.getElem?_eq_some_iff.mp hd).1
  have nd := I.nd j
  rw [hA, hB] at nd
  have hlm := (List.getElem?_eq_some_iff.mp hm).1
  have hlm2 := (List.getElem?_eq_some_iff.mp hm2).1
  obtain ⟨n0, n1⟩ := List.nodup_cons.mp nd
  obtain ⟨n2, n3, n4⟩ := List.nodup_append.mp n1
  obtain ⟨n5, n6, n7⟩ := List.nodup_append.mp n3
  obtain ⟨n8, n9⟩ := List.nodup_cons.mp n5
  have inA : ∀ {x}, x = l \/ x ∈ B1 \/ x = l2 \/ x ∈ Bq \/ x ∈ B2 -> x ∈ A j := by
    intro x hx; rw [hA, hB]; simp only [List.mem_cons, List.mem_append]
    rcases hx with z | z | z | z | z
    . exact .inl z
    . exact .inr (.inl z)
    . exact .inr (.inr (.inl (.inl z)))
    . exact .inr (.inr (.inl (.inr z)))
    . exact .inr (.inr (.inr z))
  have l2B1 : l2 ∉ B1 := fun z => n4 l2 z l2 (by simp) rfl
  have l2B2 : l2 ∉ B2 := fun z => n7 l2 (by simp) l2 z rfl
  have hll : l ≠ l2 := fun e => n0 (by rw [e]; simp)
  have live : ∀ (A1 : Nat -> List Nat) (lv1 : List Lv), (∀ k, k ≠ j -> A1 k = A k) -> (∀ k, k ≠ j -> lv1[k]? = lv[k]?) -> ∀ (ds' : List Dat) k d lk, k ≠ j -> (de.set j (some (.lst ds')))[k]? = some (some d) -> lv1[k]? = some lk -> de[k]? = some (some d) /\ lv[k]? = some lk /\ A1 k = A k := by
    intro A1 lv1 h hlv ds' k d lk e h1 h2
    rw [List.getElem?_set_ne (Ne.symm e)] at h1
    rw [hlv k e] at h2
    exact ⟨h1, h2, h k e⟩
  refine ⟨l, xs, l2, us, a, hm, h1, hm2, r.len, OwnL.rep es us Bq (fun x hx => I.rr x (I.bd j x (inA (.inr (.inr (.inr (.inl hx)))))).1) r2, ?_, ?_⟩
  . intro m1 es' vs le c
    obtain ⟨Bq', o, nb, hBq⟩ := c Bq n9 r2
    have hlt := OwnL.lt es' vs Bq' o
    have l2q : l2 ∉ Bq' := fun z => by
      rcases hBq l2 z with z | z
      . exact n8 z
      . omega
    have sub : ∀ x ∈ l :: (B1 ++ ((l2 :: Bq') ++ B2)), x ∈ A j \/ m.length <= x := by
      intro x hx
      simp only [List.mem_cons, List.mem_append] at hx
      rcases hx with z | z | (z | z) | z
      . exact .inl (inA (.inl z))
      . exact .inl (inA (.inr (.inl z)))
      . exact .inl (inA (.inr (.inr (.inl z))))
      . rcases hBq x z with z | z
        . exact .inl (inA (.inr (.inr (.inr (.inl z)))))
        . exact .inr z
      . exact .inl (inA (.inr (.inr (.inr (.inr z)))))
    have nd1 : (l :: (B1 ++ ((l2 :: Bq') ++ B2))).Nodup := by
      refine List.nodup_cons.mpr ⟨?_, List.nodup_append.mpr ⟨n2, List.nodup_append.mpr ⟨List.nodup_cons.mpr ⟨l2q, nb⟩, n6, ?_⟩, ?_⟩⟩
      . intro z
        simp only [List.mem_cons, List.mem_append] at z n0
        rcases z with z | (z | z) | z
        . exact n0 (.inl z)
        . exact hll z
        . rcases hBq l z with z | z
          . exact n0 (.inr (.inl (.inr z)))
          . omega
        . exact n0 (.inr (.inr z))
      . intro x hx y hy e
        subst e
        rcases List.mem_cons.mp hx with z | z
        . subst z; exact l2B2 hy
        . rcases hBq x z with z | z
          . exact n7 x (List.mem_cons_of_mem _ z) x hy rfl
          . have := (I.bd j x (inA (.inr (.inr (.inr (.inr hy)))))).2; omega
      . intro x hx y hy e
        subst e
        simp only [List.mem_cons, List.mem_append] at hy
        rcases hy with (z | z) | z
        . subst z; exact l2B1 hx
        . rcases hBq x z with z | z
          . exact n4 x hx x (by simp [z]) rfl
          . have := (I.bd j x (inA (.inr (.inl hx)))).2; omega
        . exact n4 x hx x (by simp [z]) rfl
    refine ⟨upd A j (l :: (B1 ++ ((l2 :: Bq') ++ B2))), ?_⟩
    refine I.put le (j := j) (l := l2) (xs := us) (inA (.inr (.inr (.inl rfl)))) _ ?_ ?_ ?_ ?_ (by simp) rfl (live _ lv (fun k hk => upd_ne hk) (fun _ _ => rfl) _) ?_
    . intro k x hx
      by_cases e : k = j
      . rw [e, upd_same] at hx
        rcases sub x hx with z | z
        . exact .inl ⟨j, z⟩
        . exact .inr z
      . rw [upd_ne e] at hx; exact .inl ⟨k, hx⟩
    . intro k
      by_cases e : k = j
      . rw [e, upd_same]; exact nd1
      . rw [upd_ne e]; exact I.nd k
    . intro i k x h1 h2
      by_cases e : i = j
      . by_cases f : k = j
        . rw [e, f]
        . rw [e, upd_same] at h1; rw [upd_ne f] at h2
          rcases sub x h1 with z | z
          . rw [e]; exact I.dj j k x z h2
          . have := (I.bd k x h2).2; omega
      . rw [upd_ne e] at h1
        by_cases f : k = j
        . rw [f, upd_same] at h2
          rcases sub x h2 with z | z
          . rw [f]; exact I.dj i j x h1 z
          . have := (I.bd i x h1).2; omega
        . rw [upd_ne f] at h2; exact I.dj i k x h1 h2
    . intro k x hx
      have ll := le.len
      by_cases e : k = j
      . rw [e, upd_same] at hx
        rcases sub x hx with z | z
        . exact ⟨(I.bd j x z).1, Nat.lt_of_lt_of_le (I.bd j x z).2 ll⟩
        . refine ⟨Nat.le_trans I.lom z, ?_⟩
          simp only [List.mem_cons, List.mem_append] at hx
          rcases hx with q | q | (q | q) | q
          . omega
          . have := (I.bd j x (inA (.inr (.inl q)))).2; omega
          . omega
          . exact hlt x q
          . have := (I.bd j x (inA (.inr (.inr (.inr (.inr q)))))).2; omega
      . rw [upd_ne e] at hx
        exact ⟨(I.bd k x hx).1, Nat.lt_of_lt_of_le (I.bd k x hx).2 ll⟩
    . intro d lj g1 g2
      rw [List.getElem?_set, if_pos rfl, if_pos hjl] at g1
      cases g1
      rw [hf] at g2; cases g2
      refine ⟨_, a, ?_⟩
      rw [upd_same]
      refine own_lst.mpr ⟨l, xs, B1 ++ ((l2 :: Bq') ++ B2), rfl, rfl, ?_, ?_⟩
      . rw [get_set_ne (l := l2) (x := l) (Ne.symm hll)]; exact le l _ hm
      . have := h4 (m1.set l2 (.lst vs)) (.lst es') (.ref l2) (l2 :: Bq') ?_ (own_lst.mpr ⟨l2, vs, Bq', rfl, rfl, get_set_same (le l2 _ hm2), OwnL.frame es' vs Bq' (fun x hx o z => by rw [get_set_ne (l := l2) (x := x) (fun e => l2q (by rw [e]; exact hx))]; exact z) o⟩)
        . rw [show xs.set p (.ref l2) = xs from by
            obtain ⟨hpx, e⟩ := List.getElem?_eq_some_iff.mp h1
            rw [<- e]; exact List.set_getElem_self hpx] at this
          exact this
        . intro x hx o z
          rw [get_set_ne (l := l2) (x := x) (fun e => by rcases hx with hx | hx; exact l2B1 (by rw [e]; exact hx); exact l2B2 (by rw [e]; exact hx))]
          exact le x o z
  . intro m1 q d w le rw0
    have ll := le.len
    have sub : ∀ k x, x ∈ upd A j [l] k -> x ∈ A k := by
      intro k x hx
      by_cases e : k = j
      . rw [e, upd_same] at hx; rw [e, List.mem_singleton.mp hx]; exact inA (.inl rfl)
      . rw [upd_ne e] at hx; exact hx
    refine ⟨upd A j [l], ?_⟩
    refine I.put le (j := j) (l := l2) (xs := us) (inA (.inr (.inr (.inl rfl)))) _ (fun k x hx => .inl ⟨k, sub k x hx⟩) ?_ (fun i k x g1 g2 => I.dj i k x (sub i x g1) (sub k x g2)) (fun k x hx => ⟨(I.bd k x (sub k x hx)).1, Nat.lt_of_lt_of_le (I.bd k x (sub k x hx)).2 ll⟩) (by simp) (by simp) (live _ (lv.set j .top) (fun k hk => upd_ne hk) (fun k hk => List.getElem?_set_ne (Ne.symm hk)) _) ?_
    . intro k
      by_cases e : k = j
      . rw [e, upd_same]; simp
      . rw [upd_ne e]; exact I.nd k
    . intro d' lj g1 g2
      rw [List.getElem?_set, if_pos rfl, if_pos hjl] at g1
      cases g1
      rw [List.getElem?_set, if_pos rfl, if_pos (by rw [I.lvl]; exact hjl)] at g2
      cases g2
      refine ⟨_, a, ds.set p (.lst (es.set q d)), l, xs, rfl, rfl, upd_same, ?_, ?_⟩
      . rw [get_set_ne (l := l2) (x := l) (Ne.symm hll)]; exact le l _ hm
      have fr : ∀ x, x ∈ B1 \/ x ∈ B2 \/ x ∈ Bq \/ x = l2 -> Free RR (upd A j [l]) x := by
        intro x hx
        have hxA : x ∈ A j := inA (by rcases hx with z | z | z | z; exact .inr (.inl z); exact .inr (.inr (.inr (.inr z))); exact .inr (.inr (.inr (.inl z))); exact .inr (.inr (.inl z)))
        refine ⟨I.rr x (I.bd j x hxA).1, fun k hk => ?_⟩
        by_cases e : k = j
        . rw [e, upd_same] at hk
          have e2 := List.mem_singleton.mp hk
          subst e2
          rcases hx with z | z | z | z
          . exact n0 (by simp [z])
          . exact n0 (by simp [z])
          . exact n0 (by simp [z])
          . exact hll z
        . rw [upd_ne e] at hk; exact e (I.dj k j x hk hxA)
      refine repL_iff.mpr ⟨by simp [r.len], fun i e y g1 g2 => ?_⟩
      by_cases ei : i = p
      . rw [ei] at g1 g2
        rw [h1] at g2; cases g2
        rw [List.getElem?_set, if_pos rfl, if_pos (List.getElem?_eq_some_iff.mp hp).1] at g1
        cases g1
        refine rep_lst.mpr ⟨l2, us.set q w, rfl, fr l2 (.inr (.inr (.inr rfl))), get_set_same (le l2 _ hm2), ?_⟩
        refine RepL.set (RepL.frame (R := fun x => x ∈ Bq) (m := m) (fun x o hx z => ⟨fr x (.inr (.inr (.inl hx))), ?_⟩) _ _ (OwnL.rep es us Bq (fun _ h => h) r2)) q ?_
        . rw [get_set_ne (l := l2) (x := x) (fun e => n8 (by rw [e]; exact hx))]; exact le x o z
        . refine Rep.frame (fun x o hx z => ?_) _ _ rw0
          have ne : l2 ≠ x := by
            rcases hx with hx | hx
            . intro e; exact hx.2 j (by rw [<- e]; exact inA (.inr (.inr (.inl rfl))))
            . omega
          refine ⟨?_, by rw [get_set_ne (l := l2) (x := x) ne]; exact z⟩
          rcases hx with hx | hx
          . exact ⟨hx.1, fun k hk => hx.2 k (sub k x hk)⟩
          . exact ⟨I.rr x (Nat.le_trans I.lom hx), fun k hk => by have := (I.bd k x (sub k x hk)).2; omega⟩
      . rw [List.getElem?_set_ne (Ne.symm ei)] at g1
        obtain ⟨Bi, o, hBi⟩ := h5 i e y ei g1 g2
        refine Rep.frame (R := fun x => x ∈ Bi) (m := m) (fun x o hx z => ?_) _ _ (Own.rep e y Bi (fun _ h => h) o)
        rcases hBi x hx with z1 | z1
        . exact ⟨fr x (.inl z1), by rw [get_set_ne (l := l2) (x := x) (fun e => l2B1 (by rw [e]; exact z1))]; exact le x _ z⟩
        . exact ⟨fr x (.inr (.inl z1)), by rw [get_set_ne (l := l2) (x := x) (fun e => l2B2 (by rw [e]; exact z1))]; exact le x _ z⟩
theorem idx_item {R : Nat -> Prop} {m : Me} {ds : List Dat} {xs : List Wd} {l : Nat} {e : Dat} {y : Wd} (h : RepL R m ds xs) (hm : m[l]? = some (.lst xs)) (b : Rep R m e y) : SimE R m (idxR (.ref l) y m) (idxD (.lst ds) e) := by
  cases e with
  | int i =>
    rw [rep_int.mp b]
    simp only [idxD, idxR, seqD, seqOf, lstAt, hm]
    cases z : (ix ds.length i).bind fun j => ds[j]? with
    | none => exact SimE.no
    | some v =>
      obtain ⟨j, h1, h2⟩ := Option.bind_eq_some_iff.mp z
      obtain ⟨x, h3, p⟩ := h.get h2
      rw [h.len] at h1
      simp only [h1, Option.bind_some, h3]
      exact SimE.here p
  | _ => exact SimE.no
theorem envR_no {lo : Nat} {RR : Nat -> Prop} {m : Me} {de : DEn} {lv : List Lv} {env : En} {A : Nat -> List Nat} (I : Inv lo RR m de lv env A) {vs : List Nat} (h : ∀ i ∈ vs, ∀ l, lv[i]? = some l -> l = .no) : EnvR (Free RR A) m vs de env :=
  ⟨I.len, fun i hi d hd => by
    obtain ⟨l, hl⟩ := I.getlv hd
    obtain ⟨w, a, b⟩ := I.slot i d l hd hl
    rw [h i hi l hl] at b
    exact ⟨w, a, b.1⟩⟩
theorem downs_len : ∀ (vs : List Nat) (lv : List Lv), (downs vs lv).length = lv.length
  | [], lv => rfl
  | i :: vs, lv => by unfold downs; rw [downs_len vs]; simp
theorem topD_ne (de : DEn) (j : Nat) (lv : List Lv) {k : Nat} (h : k ≠ j) : (topD de j lv)[k]? = lv[k]? := by
  have q : ∃ l, topD de j lv = lv.set j l := by
    unfold topD
    generalize de[j]? = p
    generalize lv[j]? = q
    cases p with
    | none => exact ⟨_, rfl⟩
    | some o =>
      cases o with
      | none => exact ⟨_, rfl⟩
      | some d =>
        cases d with
        | lst ds =>
          cases q with
          | none => exact ⟨_, rfl⟩
          | some l => cases l <;> exact ⟨_, rfl⟩
        | _ => exact ⟨_, rfl⟩
  obtain ⟨l, e⟩ := q
  rw [e]; exact List.getElem?_set_ne (Ne.symm h)
theorem relE_ne (e : Ex) (de : DEn) (lv : List Lv) {k : Nat} (h : k ∉ vars e) : (relE e de lv)[k]? = lv[k]? := by
  have gen : ∀ vs, k ∉ vs -> (downs vs lv)[k]? = lv[k]? := fun vs h => by rw [downs_get, if_neg (fun z => h z.1)]
  cases e with
  | idx o b =>
    cases o with
    | var j =>
      replace h : k ∉ j :: vars b := h
      rw [List.mem_cons, not_or] at h
      show (topD de j (downs (vars b) lv))[k]? = _
      rw [topD_ne _ _ _ h.1, gen _ h.2]
    | _ => exact gen _ h
  | _ => exact gen _ h
theorem Inv.topD {lo : Nat} {RR : Nat -> Prop} {m : Me} {de : DEn} {lv : List Lv} {env : En} {A : Nat -> List Nat} (I : Inv lo RR m de lv env A) (j : Nat) :
    ∃ A', Inv lo RR m de (topD de j lv) env A' /\ Keep A m A' m /\ (∀ i, i ≠ j -> A' i = A i) /\ ((∃ ds l xs, de[j]? = some (some (.lst ds)) /\ A' j = [l] /\ env[j]? = some (some (.ref l)) /\ m[l]? = some (.lst xs) /\ RepL (Free RR A') m ds xs) \/ ((Vl.topD de j lv)[j]? = some .no \/ lv.length <= j)) := by
  by_cases h : (∃ ds, de[j]? = some (some (.lst ds))) /\ owned lv j = true
  . obtain ⟨⟨ds, hd⟩, ho⟩ := h
    obtain ⟨l, xs, A', I', K, h1, h2, h3, h4, h5, _⟩ := I.top j hd ho
    have : Vl.topD de j lv = lv.set j .top := by
      unfold Vl.topD; rw [hd]
      unfold owned at ho
      cases z : lv[j]? with
      | none => rw [z] at ho; simp at ho
      | some l => rw [z] at ho; cases l <;> simp at ho ⊢
    rw [this]
    exact ⟨A', I', K, h2, .inl ⟨ds, l, xs, hd, h1, h3, h4, h5⟩⟩
  . obtain ⟨I', K⟩ := I.down j
    have : Vl.topD de j lv = lv.set j .no := by
      unfold Vl.topD
      split
      . next ds hd hl => exact absurd ⟨⟨ds, hd⟩, by unfold owned; rw [hl]⟩ h
      . next ds hd hl => exact absurd ⟨⟨ds, hd⟩, by unfold owned; rw [hl]⟩ h
      . rfl
    rw [this]
    refine ⟨_, I', K, fun i hi => upd_ne hi, .inr ?_⟩
    by_cases z : j < lv.length
    . left; rw [List.getElem?_set, if_pos rfl, if_pos z]
    . right; omega
theorem Inv.relEv {lev : Nat -> Lv} {cl : Nat -> List Wd -> Me -> Rz} {cd : Nat -> List Dat -> Rd} (H : CallO lev cl cd) {lo : Nat} {RR : Nat -> Prop} {m : Me} {de : DEn} {lv : List Lv} {env : En} {A : Nat -> List Nat} (I : Inv lo RR m de lv env A) (e : Ex) :
    ∃ A', Inv lo RR m de (relE e de lv) env A' /\ Keep A m A' m /\ (∀ k, k ∉ vars e -> A' k = A k) /\ SimO (Free RR A') m (lvE lev e) (evE cl e env m) (evD cd e de) := by
  have gen : relE e de lv = Vl.downs (vars e) lv -> ∃ A', Inv lo RR m de (relE e de lv) env A' /\ Keep A m A' m /\ (∀ k, k ∉ vars e -> A' k = A k) /\ SimO (Free RR A') m (lvE lev e) (evE cl e env m) (evD cd e de) := by
    intro h
    rw [h]
    obtain ⟨A', I', K, h1, _, h3⟩ := Inv.downs (vars e) I
    refine ⟨A', I', K, h3, ev_own H e _ m de env (envR_no I' fun i hi l hl => ?_)⟩
    rw [downs_get] at hl
    split at hl
    . cases hl; rfl
    . next z => rw [List.getElem?_eq_none (by have : ¬ i < lv.length := fun q => z ⟨hi, q⟩; omega)] at hl; cases hl
  cases e with
  | idx a b =>
    cases a with
    | var j =>
      show ∃ A', Inv lo RR m de (Vl.topD de j (Vl.downs (vars b) lv)) env A' /\ _
      obtain ⟨A1, I1, K1, h1, h2, h3⟩ := Inv.downs (vars b) I
      obtain ⟨A2, I2, K2, g1, g2⟩ := I1.topD j
      have hne : ∀ k, k ∉ vars (.idx (.var j) b) -> A2 k = A k := by
        intro k hk
        replace hk : k ∉ j :: vars b := hk
        rw [List.mem_cons, not_or] at hk
        rw [g1 k hk.1, h3 k hk.2]
      refine ⟨A2, I2, K1.trans K2, hne, ?_⟩
      have lvno : ∀ i, i ∈ vars b -> i ≠ j -> ∀ l, (Vl.topD de j (Vl.downs (vars b) lv))[i]? = some l -> l = .no := by
        intro i hi hij l hl
        rw [topD_ne _ _ _ hij, downs_get] at hl
        split at hl
        . cases hl; rfl
        . next z => rw [List.getElem?_eq_none (by have : ¬ i < lv.length := fun q => z ⟨hi, q⟩; omega)] at hl; cases hl
      rcases g2 with ⟨ds, l, xs, hd, hA, he, hm, hr⟩ | g2
      . have hjb : j ∉ vars b := fun z => by
          have h0 := h1 j z
          have hx : l ∈ A1 j := by
            have i1 := I1
            by_cases q : l ∈ A1 j
            . exact q
            . exfalso
              have := (K2.1 l _ (fun k hk => ?_) hm).1 j
              . rw [hA] at this; exact this (by simp)
              . by_cases ek : k = j
                . rw [ek] at hk; exact q hk
                . have e1 := g1 k ek
                  rw [<- e1] at hk
                  exact ek (I2.dj k j l hk (by rw [hA]; simp))
          rw [h0] at hx
          cases hx
        refine SimE.own ?_ (fun d => rfl)
        show SimE _ m ((evE cl (.var j) env m).bind fun x m1 => (evE cl b env m1).bind fun y m2 => idxR x y m2) ((evD cd (.var j) de).bind fun x => (evD cd b de).bind fun y => idxD x y)
        have e1 : evE cl (.var j) env m = .ok (.ref l) m := evE_some he m
        have e2 : evD cd (.var j) de = .ok (.lst ds) := evD_some hd
        rw [e1, e2]
        simp only [Rz.bind, Rd.bind]
        refine (ev_read H.r b _ m de env (envR_no I2 fun i hi => lvno i hi (fun e => hjb (by rw [<- e]; exact hi)))).bind fun d2 w2 m2 l2 k2 => ?_
        exact idx_item (hr.up _ l2) (l2 l _ hm) k2
      . refine ev_own H _ _ m de env (envR_no I2 fun i hi l hl => ?_)
        replace hi : i ∈ j :: vars b := hi
        rw [List.mem_cons] at hi
        by_cases e : i = j
        . rw [e] at hl
          rcases g2 with g2 | g2
          . rw [g2] at hl; cases hl; rfl
          . have : (Vl.topD de j (Vl.downs (vars b) lv)).length = (Vl.downs (vars b) lv).length := by rw [I2.lvl, I1.lvl]
            rw [List.getElem?_eq_none (by omega)] at hl; cases hl
        . rcases hi with z | z
          . exact absurd z e
          . exact lvno i z e l hl
    | _ => exact gen rfl
  | _ => exact gen rfl
def SimS (lo : Nat) (RR : Nat -> Prop) (A : Nat -> List Nat) (m : Me) (r : Rs) (rd : Rsd) : Prop := match rd with
  | .next de lv => ∃ env m' A', r = .next env m' /\ Inv lo RR m' de lv env A' /\ Keep A m A' m'
  | .brk de lv => ∃ env m' A', r = .brk env m' /\ Inv lo RR m' de lv env A' /\ Keep A m A' m'
  | .cont de lv => ∃ env m' A', r = .cont env m' /\ Inv lo RR m' de lv env A' /\ Keep A m A' m'
  | .ret d l => ∃ w m' B, r = .ret w m' /\ ((∀ (x : Nat) o, (∀ i, x ∉ A i) -> m[x]? = some o -> m'[x]? = some o) /\ m.length <= m'.length) /\ RepO (fun x => RR x /\ x ∉ B) m' l d w B /\ B.Nodup /\ ∀ b ∈ B, lo <= b
  | .exc c d => ∃ w e m', r = .exc c w e m' /\ ((∀ (x : Nat) o, (∀ i, x ∉ A i) -> m[x]? = some o -> m'[x]? = some o) /\ m.length <= m'.length) /\ Rep RR m' d w
  | .no => True
theorem SimS.keep {lo : Nat} {RR : Nat -> Prop} {A A1 : Nat -> List Nat} {m m1 : Me} {r : Rs} {rd : Rsd} (K : Keep A m A1 m1) (h : SimS lo RR A1 m1 r rd) : SimS lo RR A m r rd := by
  cases rd with
  | next de lv => obtain ⟨e, m', A', h, I, k⟩ := h; exact ⟨e, m', A', h, I, K.trans k⟩
  | brk de lv => obtain ⟨e, m', A', h, I, k⟩ := h; exact ⟨e, m', A', h, I, K.trans k⟩
  | cont de lv => obtain ⟨e, m', A', h, I, k⟩ := h; exact ⟨e, m', A', h, I, K.trans k⟩
  | ret d l => obtain ⟨w, m', B, h, k, z⟩ := h; exact ⟨w, m', B, h, ⟨fun x o a b => k.1 x o (K.1 x o a b).1 (K.1 x o a b).2, Nat.le_trans K.2 k.2⟩, z⟩
  | exc c d => obtain ⟨w, e, m', h, k, z⟩ := h; exact ⟨w, e, m', h, ⟨fun x o a b => k.1 x o (K.1 x o a b).1 (K.1 x o a b).2, Nat.le_trans K.2 k.2⟩, z⟩
  | no => trivial
theorem Inv.rf {lo : Nat} {RR : Nat -> Prop} {m m' : Me} {de : DEn} {lv : List Lv} {env : En} {A : Nat -> List Nat} (I : Inv lo RR m de lv env A) {d : Dat} {w : Wd} (h : Rep (Rf RR m.length) m' d w) : Rep RR m' d w :=
  Rep.frame (fun x o r z => ⟨by rcases r with r | r; exact r; exact I.rr x (Nat.le_trans I.lom r), z⟩) d w h
theorem Inv.bindE {cl : Nat -> List Wd -> Me -> Rz} {cd : Nat -> List Dat -> Rd} (H : CallR cl cd) {lo : Nat} {RR : Nat -> Prop} {m : Me} {de : DEn} {lv : List Lv} {env : En} {A : Nat -> List Nat} (I : Inv lo RR m de lv env A) (e : Ex) {f : Wd -> Me -> Rs} {g : Dat -> Rsd}
    (k : ∀ d w m1, evD cd e de = .ok d -> evE cl e env m = .ok w m1 -> Le m m1 -> Rep RR m1 d w -> SimS lo RR A m1 (f w m1) (g d)) : SimS lo RR A m ((evE cl e env m).bindS env f) ((evD cd e de).bindS g) := by
  have h := ev_read H e RR m de env (I.envR _)
  cases z : evD cd e de with
  | no => trivial
  | exc c d =>
    rw [z] at h
    obtain ⟨w, m', h, l, r⟩ := h
    rw [h]
    exact ⟨w, env, m', rfl, ⟨fun x o _ b => l x o b, l.len⟩, I.rf r⟩
  | ok d =>
    rw [z] at h
    obtain ⟨w, m', h, l, r⟩ := h
    have := k d w m' z h l (I.rf r)
    rw [h]
    exact SimS.keep (keep_le l) this
theorem Inv.own {lev : Nat -> Lv} {cl : Nat -> List Wd -> Me -> Rz} {cd : Nat -> List Dat -> Rd} (H : CallO lev cl cd) {lo : Nat} {RR : Nat -> Prop} {m m1 : Me} {de : DEn} {lv : List Lv} {env : En} {A : Nat -> List Nat} (I : Inv lo RR m de lv env A) {e : Ex} {d : Dat} {w : Wd} (h1 : evD cd e de = .ok d) (h2 : evE cl e env m = .ok w m1) :
    ∃ B, RepO (fun x => RR x /\ x ∉ B) m1 (lvE lev e d) d w B /\ B.Nodup /\ ∀ b ∈ B, m.length <= b := by
  have h := ev_own H e RR m de env (I.envR _)
  rw [h1] at h
  obtain ⟨w', m', B, h3, l, r, nd, hB⟩ := h
  rw [h2] at h3; cases h3
  exact ⟨B, r.frame (fun x o r z => ⟨⟨by rcases r.1 with r | r; exact r; exact I.rr x (Nat.le_trans I.lom r), r.2⟩, z⟩) (fun _ _ _ z => z), nd, hB⟩
section
variable {lev : Nat -> Lv} {cl : Nat -> List Wd -> Me -> Rz} {cd : Nat -> List Dat -> Rd} {lo : Nat} {RR : Nat -> Prop} {m : Me} {de : DEn} {lv : List Lv} {env : En} {A : Nat -> List Nat}
theorem lsAt_eq {j : Nat} {ds : List Dat} (h : lsAt de j = some ds) : de[j]? = some (some (.lst ds)) := by
  unfold lsAt at h
  split at h
  . next z => cases h; exact z
  . cases h
theorem inD2_eq {j : Nat} {r : Dat} {f : List Dat -> Option (List Dat)} {de1 : DEn} (h : inD2 j r de lv f = some de1) :
    ∃ k ds p es es1, r = .int k /\ de[j]? = some (some (.lst ds)) /\ ix ds.length k = some p /\ ds[p]? = some (.lst es) /\ f es = some es1 /\ lv[j]? = some .full /\ de1 = de.set j (some (.lst (ds.set p (.lst es1)))) := by
  unfold inD2 at h
  split at h
  . next k ds h1 =>
    split at h
    . next ds1 h2 =>
      split at h
      . next h3 =>
        cases h
        obtain ⟨p, h4, h5⟩ := Option.bind_eq_some_iff.mp h2
        obtain ⟨d, h6, h7⟩ := Option.bind_eq_some_iff.mp h5
        split at h7
        . next es =>
          obtain ⟨es1, h8, h9⟩ := Option.map_eq_some_iff.mp h7
          exact ⟨k, ds, p, es, es1, rfl, lsAt_eq h1, h4, h6, h8, h3, by rw [h9]⟩
        . cases h7
      . cases h
    . cases h
  . cases h
theorem idxRow {m : Me} {l p : Nat} {xs : List Wd} {k : Int} {w : Wd} (hm : m[l]? = some (.lst xs)) (hk : ix xs.length k = some p) (hp : xs[p]? = some w) : idxR (.ref l) (.int k) m = .ok w m := by
  simp [idxR, seqOf, lstAt, hm, hk, hp]
theorem evVar {j : Nat} {w : Wd} (h : env[j]? = some (some w)) (m : Me) : evE cl (.var j) env m = .ok w m := by
  exact evE_some h m
theorem asg_sim (H : CallO lev cl cd) (I : Inv lo RR m de lv env A) (i : Nat) (e : Ex) : SimS lo RR A m (exS cl (.asg i e) env m) (exD lev cd (.asg i e) de lv) := by
  have h : SimS lo RR A m ((evE cl e env m).bindS env fun w m1 => .next (env.set i (some w)) m1) ((evD cd e de).bindS fun d => asgD lev i e d de lv) := by
    cases z : evD cd e de with
    | no => trivial
    | exc c d =>
      have := I.bindE H.r e (f := fun w m1 => .next (env.set i (some w)) m1) (g := fun d => .no) (fun _ _ _ _ _ _ _ => trivial)
      rw [z] at this; exact this
    | ok d =>
      show SimS lo RR A m _ (asgD lev i e d de lv)
      unfold asgD
      by_cases f : lvE lev e d = .full
      . rw [if_pos f]
        have h := ev_own H e RR m de env (I.envR _)
        rw [z] at h
        obtain ⟨w, m1, B, h2, l, r, nd, hB⟩ := h
        rw [h2]
        rw [f] at r
        obtain ⟨I', K⟩ := I.store l i (l := .full) (d := d) (w := w) (B := B) r nd hB
        exact ⟨_, _, _, rfl, I', K⟩
      . rw [if_neg f]
        obtain ⟨A1, I1, K1, _, h⟩ := I.relEv H e
        rw [z] at h
        obtain ⟨w, m1, B, h2, l, r, nd, hB⟩ := h
        rw [h2]
        obtain ⟨I', K⟩ := I1.store l i (l := lvE lev e d) (d := d) (w := w) (B := B) r nd hB
        exact ⟨_, _, _, rfl, I', K1.trans K⟩
  exact h
theorem give_sim (H : CallO lev cl cd) (I : Inv lo RR m de lv env A) {e : Ex} {d : Dat} {w : Wd} {m1 : Me} {j : Nat} {ds : List Dat} {de1 : DEn} {lv1 : List Lv} (hd : de[j]? = some (some (.lst ds))) (h1 : evD cd e de = .ok d) (h2 : evE cl e env m = .ok w m1) (l1 : Le m m1) {m2 : Me} (l2 : Le m1 m2)
    (g : giveE lev e d j de lv = some (de1, lv1)) (F : List Dat -> Dat -> List Dat) (G : List Wd -> Wd -> List Wd)
    (cF : ∀ (m m1 : Me) (A : Nat -> List Nat) (ds : List Dat) (xs : List Wd) (d : Dat) (w : Wd) (B0 : List Nat), Le m m1 -> Own m1 d w B0 -> B0.Nodup -> (∀ b ∈ B0, m.length <= b) -> Chg RR A m m1 ds xs (F ds d) (G xs w))
    (cM : ∀ (m : Me) (ds : List Dat) (xs : List Wd) (d : Dat) (w : Wd) (B B0 : List Nat), (B ++ B0).Nodup -> OwnL m ds xs B -> Own m d w B0 -> ∃ B', OwnL m (F ds d) (G xs w) B' /\ B'.Nodup /\ ∀ b ∈ B', b ∈ B \/ b ∈ B0)
    (cT : ∀ (R : Nat -> Prop) (m : Me) (ds : List Dat) (xs : List Wd) (d : Dat) (w : Wd), RepL R m ds xs -> Rep R m d w -> RepL R m (F ds d) (G xs w)) :
    ∃ l xs, env[j]? = some (some (.ref l)) /\ m2[l]? = some (.lst xs) /\ ds.length = xs.length /\ ∃ A', Inv lo RR (m2.set l (.lst (G xs w))) (de1.set j (some (.lst (F ds d)))) lv1 env A' /\ Keep A m A' (m2.set l (.lst (G xs w))) := by
  have l12 := l1.trans l2
  unfold giveE at g
  split at g
  . cases g
  . next ho =>
    have ho : owned lv j = true := by simpa using ho
    split at g
    . next f =>
      cases g
      obtain ⟨B, r, nd, hB⟩ := I.own H h1 h2
      rw [f] at r
      obtain ⟨l, xs, he, hm, hr, put⟩ := I.mut hd ho
      have r' : Own m2 d w B := Own.frame d w B (fun x _ o z => l2 x o z) r
      refine ⟨l, xs, he, l12 l _ hm, hr.len, put m2 _ _ l12 (fun _ => (cF m m2 A ds xs d w B l12 r' nd hB).1) (fun _ => (cF m m2 A ds xs d w B l12 r' nd hB).2)⟩
    . next f =>
      split at g
      . cases g
      . next hj =>
        have share : lv1 = (relE e de lv).set j .top -> de1 = de -> ∃ l xs, env[j]? = some (some (.ref l)) /\ m2[l]? = some (.lst xs) /\ ds.length = xs.length /\ ∃ A', Inv lo RR (m2.set l (.lst (G xs w))) (de1.set j (some (.lst (F ds d)))) lv1 env A' /\ Keep A m A' (m2.set l (.lst (G xs w))) := by
          rintro rfl rfl
          obtain ⟨A1, I1, K1, hA1, h⟩ := I.relEv H e
          rw [h1] at h
          have ho1 : owned (relE e de1 lv) j = true := by unfold owned; rw [relE_ne e _ _ hj]; exact ho
          obtain ⟨l, xs, A2, I2, K2, g1, g2, he, hm, hr, hlA⟩ := I1.top j hd ho1
          have hs := h.sim
          obtain ⟨w', m', h3, _, rw0⟩ := hs
          rw [h2] at h3; cases h3
          have hjl : j < (relE e de1 lv).length := by rw [I1.lvl]; exact (List.getElem?_eq_some_iff.mp hd).1
          have ho2 : owned ((relE e de1 lv).set j .top) j = true := by unfold owned; rw [List.getElem?_set, if_pos rfl, if_pos hjl]
          have hlv : ((relE e de1 lv).set j .top)[j]? = some .top := by rw [List.getElem?_set, if_pos rfl, if_pos hjl]
          obtain ⟨l', xs', he', hm', _, put⟩ := I2.mut hd ho2
          rw [he] at he'; cases he'
          rw [hm] at hm'; cases hm'
          obtain ⟨A3, I3, K3⟩ := put m2 (F ds d) (G xs w) l12 (fun z => by rw [hlv] at z; cases z) (fun _ q => by
            refine cT _ m2 ds xs d w (RepL.frame (fun x o r z => ⟨.inl r, l12 x o z⟩) _ _ q) (Rep.frame (fun x o r z => ⟨?_, l2 x o z⟩) _ _ rw0)
            rcases r with r | r
            . left
              refine ⟨r.1, fun k hk => ?_⟩
              by_cases ek : k = j
              . rw [ek, g1] at hk
                rw [List.mem_singleton.mp hk] at r
                exact r.2 j hlA
              . rw [g2 k ek] at hk; exact r.2 k hk
            . exact .inr r)
          exact ⟨l, xs, he, l12 l _ hm, hr.len, A3, I3, (K1.trans K2).trans K3⟩
        split at g
        . next i =>
          split at g
          . next hfull =>
            cases g
            have hij : i ≠ j := fun e => hj (by rw [e]; exact List.mem_singleton.mpr rfl)
            -- the move
            have hdi : de[i]? = some (some d) := by
              exact evD_inv h1
            obtain ⟨wi, hei, ri⟩ := I.slot i d .full hdi hfull.1
            have : evE cl (.var i) env m = .ok wi m := evVar hei m
            rw [this] at h2; cases h2
            obtain ⟨wj, hej, rj⟩ := I.slot j _ .full hd hfull.2
            obtain ⟨l, xs, B, rfl, hA, hm, r⟩ := own_lst.mp rj
            have hlm := (List.getElem?_eq_some_iff.mp hm).1
            have nd := I.nd j
            rw [hA] at nd
            obtain ⟨n0, n1⟩ := List.nodup_cons.mp nd
            have nBi : (B ++ A i).Nodup := List.nodup_append.mpr ⟨n1, I.nd i, fun x hx y hy e => by
              subst e
              exact hij (I.dj i j x hy (by rw [hA]; exact List.mem_cons_of_mem _ hx))⟩
            obtain ⟨B', o, nB', hB'⟩ := cM m ds xs d w B (A i) nBi r ri
            have lB' : l ∉ B' := fun z => by
              rcases hB' l z with q | q
              . exact n0 q
              . exact hij (I.dj i j l q (by rw [hA]; simp))
            have sub : ∀ x ∈ l :: B', x ∈ A j \/ x ∈ A i := by
              intro x hx
              rcases List.mem_cons.mp hx with rfl | hx
              . left; rw [hA]; simp
              . rcases hB' x hx with q | q
                . left; rw [hA]; exact List.mem_cons_of_mem _ q
                . exact .inr q
            have hjl : j < de.length := (List.getElem?_eq_some_iff.mp hd).1
            have hil : i < de.length := (List.getElem?_eq_some_iff.mp hdi).1
            have ui : upd (upd A i []) j (l :: B') i = [] := by rw [upd_ne hij, upd_same]
            have uo : ∀ k, k ≠ i -> k ≠ j -> upd (upd A i []) j (l :: B') k = A k := fun k a b => by rw [upd_ne b, upd_ne a]
            have ll2 := l2.len
            refine ⟨l, xs, hej, l2 l _ hm, r.len, upd (upd A i []) j (l :: B'), ?_⟩
            refine I.put l2 (j := j) (l := l) (xs := xs) (by rw [hA]; simp) _ ?_ ?_ ?_ ?_ (by simp) rfl ?_ ?_
            . intro k x hx
              left
              by_cases e : k = j
              . rw [e, upd_same] at hx
                rcases sub x hx with q | q
                . exact ⟨j, q⟩
                . exact ⟨i, q⟩
              . by_cases f : k = i
                . rw [f, ui] at hx; cases hx
                . rw [uo k f e] at hx; exact ⟨k, hx⟩
            . intro k
              by_cases e : k = j
              . rw [e, upd_same]; exact List.nodup_cons.mpr ⟨lB', nB'⟩
              . by_cases f : k = i
                . rw [f, ui]; simp
                . rw [uo k f e]; exact I.nd k
            . have main : ∀ k x, k ≠ j -> x ∈ l :: B' -> x ∈ upd (upd A i []) j (l :: B') k -> False := by
                intro k x e hx hk
                by_cases f : k = i
                . rw [f, ui] at hk; cases hk
                . rw [uo k f e] at hk
                  rcases sub x hx with q | q
                  . exact e (I.dj k j x hk q)
                  . exact f (I.dj k i x hk q)
              intro a b x ha hb
              by_cases e : a = j
              . by_cases f : b = j
                . rw [e, f]
                . rw [e, upd_same] at ha; exact (main b x f ha hb).elim
              . by_cases f : b = j
                . rw [f, upd_same] at hb; exact (main a x e hb ha).elim
                . by_cases g : a = i
                  . rw [g, ui] at ha; cases ha
                  . by_cases h : b = i
                    . rw [h, ui] at hb; cases hb
                    . rw [uo a g e] at ha; rw [uo b h f] at hb; exact I.dj a b x ha hb
            . intro k x hx
              by_cases e : k = j
              . rw [e, upd_same] at hx
                rcases sub x hx with q | q
                . exact ⟨(I.bd j x q).1, Nat.lt_of_lt_of_le (I.bd j x q).2 ll2⟩
                . exact ⟨(I.bd i x q).1, Nat.lt_of_lt_of_le (I.bd i x q).2 ll2⟩
              . by_cases f : k = i
                . rw [f, ui] at hx; cases hx
                . rw [uo k f e] at hx; exact ⟨(I.bd k x hx).1, Nat.lt_of_lt_of_le (I.bd k x hx).2 ll2⟩
            . intro k d' lk e g1 g2
              rw [List.getElem?_set_ne (Ne.symm e)] at g1
              by_cases f : k = i
              . rw [f, List.getElem?_set, if_pos rfl, if_pos hil] at g1; cases g1
              . rw [List.getElem?_set_ne (Ne.symm f)] at g1
                exact ⟨g1, g2, uo k f e⟩
            . intro d' lj g1 g2
              rw [List.getElem?_set, if_pos rfl, if_pos (by simpa using hjl)] at g1
              cases g1
              rw [hfull.2] at g2; cases g2
              refine ⟨_, hej, ?_⟩
              rw [upd_same]
              exact own_lst.mpr ⟨l, _, B', rfl, rfl, get_set_same (l2 l _ hm), OwnL.frame _ _ B' (fun x hx o z => by rw [get_set_ne (l := l) (x := x) (fun e => lB' (by rw [e]; exact hx))]; exact l2 x o z) o⟩
          . cases g; exact share rfl rfl
        . cases g; exact share rfl rfl
end
section
variable {lev : Nat -> Lv} {cl : Nat -> List Wd -> Me -> Rz} {cd : Nat -> List Dat -> Rd} {lo : Nat} {RR : Nat -> Prop} {m : Me} {de : DEn} {lv : List Lv} {env : En} {A : Nat -> List Nat}
theorem evMeth {n : Mth} {o e : Ex} {x w : Wd} {m1 m2 : Me} (h1 : evE cl o env m = .ok x m1) (h2 : evE cl e env m1 = .ok w m2) : evE cl (.meth n o (.pair e .unit)) env m = mtR n x [w] m2 := by
  show (evE cl o env m).bind (fun x m1 => ((evE cl e env m1).bind fun a m2 => .ok (.tup [a]) m2).bind fun y m2 => mtR n x (argsOf y) m2) = _
  rw [h1]
  show (((evE cl e env m1).bind fun a m2 => .ok (.tup [a]) m2).bind fun y m2 => mtR n x (argsOf y) m2) = _
  rw [h2]
  rfl
theorem evMeth0 {n : Mth} {o : Ex} {x : Wd} {m1 : Me} (h1 : evE cl o env m = .ok x m1) : evE cl (.meth n o .unit) env m = mtR n x [] m1 := by
  show (evE cl o env m).bind (fun x m1 => mtR n x [] m1) = _
  rw [h1]
  rfl
theorem own_app {m : Me} {ds : List Dat} {xs : List Wd} {d : Dat} {w : Wd} {B B0 : List Nat} (n : (B ++ B0).Nodup) (a : OwnL m ds xs B) (b : Own m d w B0) : ∃ B', OwnL m (ds ++ [d]) (xs ++ [w]) B' /\ B'.Nodup /\ ∀ b ∈ B', b ∈ B \/ b ∈ B0 :=
  ⟨B ++ (B0 ++ []), a.app (.cons b .nil), by simpa using n, fun x hx => by simpa using hx⟩
theorem own_set {m : Me} {ds : List Dat} {xs : List Wd} {d : Dat} {w : Wd} {B B0 : List Nat} (p : Nat) (n : (B ++ B0).Nodup) (a : OwnL m ds xs B) (b : Own m d w B0) : ∃ B', OwnL m (ds.set p d) (xs.set p w) B' /\ B'.Nodup /\ ∀ b ∈ B', b ∈ B \/ b ∈ B0 := by
  cases hp : ds[p]? with
  | none =>
    have h1 : ds.length <= p := List.getElem?_eq_none_iff.mp hp
    rw [List.set_eq_of_length_le h1, List.set_eq_of_length_le (by rw [<- a.len]; exact h1)]
    exact ⟨B, a, (List.nodup_append.mp n).1, fun b hb => .inl hb⟩
  | some e =>
    obtain ⟨y, B1, Bp, B2, h1, rfl, h3, _, h4⟩ := OwnL.split a hp
    refine ⟨B1 ++ (B0 ++ B2), h4 m d w B0 (fun l _ o z => z) b, ?_, ?_⟩
    . obtain ⟨q1, q2, q3⟩ := List.nodup_append.mp n
      obtain ⟨n1, n2, n3⟩ := List.nodup_append.mp q1
      obtain ⟨n4, n5, n6⟩ := List.nodup_append.mp n2
      refine List.nodup_append.mpr ⟨n1, List.nodup_append.mpr ⟨q2, n5, fun x hx y hy e => q3 y (by simp [hy]) x hx e.symm⟩, fun x hx y hy e => ?_⟩
      rcases List.mem_append.mp hy with hy | hy
      . exact q3 x (by simp [hx]) y hy e
      . exact n3 x hx y (by simp [hy]) e
    . intro x hx
      simp only [List.mem_append] at hx ⊢
      rcases hx with z | z | z
      . exact .inl (.inl z)
      . exact .inr z
      . exact .inl (.inr (.inr z))
theorem SimS.okS {r : Rs} {rd : Rd} {g : Dat -> Rsd} (h : ∀ d, rd = .ok d -> SimS lo RR A m r (g d)) : SimS lo RR A m r (rd.okS g) := by
  cases rd with
  | ok d => exact h d rfl
  | _ => trivial
theorem Inv.ok (H : CallR cl cd) (I : Inv lo RR m de lv env A) {e : Ex} {d : Dat} (h : evD cd e de = .ok d) {m1 : Me} (l : Le m m1) : ∃ w m2, evE cl e env m1 = .ok w m2 /\ Le m1 m2 /\ Rep RR m2 d w := by
  have q := ev_read H e RR m1 de env ((I.ext l).envR _)
  rw [h] at q
  obtain ⟨w, m2, a, b, c⟩ := q
  exact ⟨w, m2, a, b, (I.ext l).rf c⟩
theorem appV_sim (H : CallO lev cl cd) (I : Inv lo RR m de lv env A) (j : Nat) (e : Ex) : SimS lo RR A m (exS cl (.expr (.meth .append (.var j) (.pair e .unit))) env m) (exD lev cd (.expr (.meth .append (.var j) (.pair e .unit))) de lv) := by
  show SimS _ _ _ _ ((evE cl _ env m).bindS env _) _
  refine SimS.okS fun d h1 => ?_
  split
  . next ds hl =>
    split
    . next hlim =>
      split
      . next de1 lv1 g =>
        obtain ⟨w, m1, h2, l1, r1⟩ := I.ok H.r h1 (Le.refl m)
        obtain ⟨l, xs, he, hm, hlen, A', I', K⟩ := give_sim H I (lsAt_eq hl) h1 h2 l1 (Le.refl m1) g (fun ds d => ds ++ [d]) (fun xs w => xs ++ [w])
          (fun _ _ _ _ _ _ _ _ le o nd hB => chg_app le o nd hB) (fun _ _ _ _ _ _ _ n a b => own_app n a b) (fun _ _ _ _ _ _ a b => a.app (.cons b .nil))
        rw [evMeth (evVar he m) h2]
        have : mtR .append (.ref l) [w] m1 = .ok .non (m1.set l (.lst (xs ++ [w]))) := by
          simp only [mtR, hm]; rw [if_pos (by omega)]
        rw [this]
        exact ⟨_, _, A', rfl, I', K⟩
      . trivial
    . trivial
  . trivial
theorem own_cons {m : Me} {ds : List Dat} {xs : List Wd} {d : Dat} {w : Wd} {B B0 : List Nat} (n : (B ++ B0).Nodup) (a : OwnL m ds xs B) (b : Own m d w B0) : ∃ B', OwnL m (d :: ds) (w :: xs) B' /\ B'.Nodup /\ ∀ b ∈ B', b ∈ B \/ b ∈ B0 := by
  obtain ⟨n1, n2, n3⟩ := List.nodup_append.mp n
  exact ⟨B0 ++ B, .cons b a, List.nodup_append.mpr ⟨n2, n1, fun x hx y hy e => n3 y hy x hx e.symm⟩, fun x hx => (List.mem_append.mp hx).elim .inr .inl⟩
theorem revV_sim (I : Inv lo RR m de lv env A) (j : Nat) : SimS lo RR A m (exS cl (.expr (.meth .reverse (.var j) .unit)) env m) (exD lev cd (.expr (.meth .reverse (.var j) .unit)) de lv) := by
  show SimS _ _ _ _ ((evE cl _ env m).bindS env _) (match lsAt de j with
      | some ds => if owned lv j then .next (de.set j (some (.lst ds.reverse))) lv else .no
      | none => .no)
  split
  . next ds hl =>
    split
    . next ho =>
      obtain ⟨l, xs, he, hm, hr, put⟩ := I.mut (lsAt_eq hl) ho
      obtain ⟨A', I', K⟩ := put m ds.reverse xs.reverse (Le.refl m) (fun _ => (chg_rev (RR := RR) (A := A)).1) (fun _ => chg_rev.2)
      rw [evMeth0 (evVar he m)]
      have : mtR .reverse (.ref l) [] m = .ok .non (m.set l (.lst xs.reverse)) := by simp only [mtR, hm]
      rw [this]
      exact ⟨_, _, A', rfl, I', K⟩
    . trivial
  . trivial
theorem extV_sim (H : CallO lev cl cd) (I : Inv lo RR m de lv env A) (j : Nat) (e : Ex) : SimS lo RR A m (exS cl (.expr (.meth .extend (.var j) (.pair e .unit))) env m) (exD lev cd (.expr (.meth .extend (.var j) (.pair e .unit))) de lv) := by
  show SimS _ _ _ _ ((evE cl _ env m).bindS env _) _
  refine SimS.okS fun d h1 => ?_
  split
  . next ds es hl =>
    split
    . next c =>
      simp only [Bool.and_eq_true, decide_eq_true_eq] at c
      obtain ⟨w, m1, h2, l1, r1⟩ := I.ok H.r h1 (Le.refl m)
      obtain ⟨l2, ys, rfl, _, hm2, r2⟩ := rep_lst.mp r1
      obtain ⟨l, xs, he, hm, hr, put⟩ := I.mut (lsAt_eq hl) c.1.1
      have ch : Chg RR A m m1 ds xs (ds ++ es) (xs ++ ys) := chg_ext l1 c.1.2 r2
      obtain ⟨A', I', K⟩ := put m1 _ _ l1 (fun _ => ch.1) (fun _ => ch.2)
      rw [evMeth (evVar he m) h2]
      have e1 := hr.len
      have e2 := r2.len
      have : mtR .extend (.ref l) [.ref l2] m1 = .ok .non (m1.set l (.lst (xs ++ ys))) := by
        simp only [mtR, l1 l _ hm, hm2]; rw [if_pos (by omega)]
      rw [this]
      exact ⟨_, _, A', rfl, I', K⟩
    . trivial
  . trivial
theorem row_at (H : CallR cl cd) (I : Inv lo RR m de lv env A) {j p : Nat} {r : Ex} {k : Int} {ds : List Dat} {l l2 : Nat} {xs : List Wd} (hr : evD cd r de = .ok (.int k)) (hp : ix ds.length k = some p) (he : env[j]? = some (some (.ref l))) (hm : m[l]? = some (.lst xs)) (hlen : ds.length = xs.length) (hx : xs[p]? = some (.ref l2)) {m0 : Me} (l0 : Le m m0) :
    ∃ m1, evE cl (.idx (.var j) r) env m0 = .ok (.ref l2) m1 /\ Le m0 m1 := by
  obtain ⟨w, m1, h2, l1, r1⟩ := I.ok H hr l0
  rw [rep_int.mp r1] at h2
  refine ⟨m1, ?_, l1⟩
  show (evE cl (.var j) env m0).bind (fun x m1 => (evE cl r env m1).bind fun y m2 => idxR x y m2) = _
  rw [evVar he m0]
  simp only [Rz.bind, h2]
  exact idxRow (l1 l _ (l0 l _ hm)) (by rw [<- hlen]; exact hp) hx
theorem toS_sim {r : Rs} {o : Option DEn} {lv1 : List Lv} (h : ∀ de1, o = some de1 -> SimS lo RR A m r (.next de1 lv1)) : SimS lo RR A m r (toS o lv1) := by
  cases o with
  | none => trivial
  | some d => exact h d rfl
end
section
variable {lev : Nat -> Lv} {cl : Nat -> List Wd -> Me -> Rz} {cd : Nat -> List Dat -> Rd} {lo : Nat} {RR : Nat -> Prop} {m : Me} {de : DEn} {lv : List Lv} {env : En} {A : Nat -> List Nat}
mutual
theorem Rep.avoid {R R' : Nat -> Prop} {m : Me} {D : Dat} {l : Nat} (hD : Rep R' m D (.ref l)) : ∀ (d : Dat) (w : Wd), dep d < dep D -> Rep R m d w -> Rep (fun x => R x /\ x ≠ l) m d w
  | .non, w, h, q => rep_non.mpr (rep_non.mp q)
  | .bl _, w, h, q => rep_bl.mpr (rep_bl.mp q)
  | .int _, w, h, q => rep_int.mpr (rep_int.mp q)
  | .str _, w, h, q => rep_str.mpr (rep_str.mp q)
  | .scr _, w, h, q => rep_scr.mpr (rep_scr.mp q)
  | .tup ds, w, h, q => by
    obtain ⟨xs, rfl, q1⟩ := rep_tup.mp q
    exact rep_tup.mpr ⟨xs, rfl, RepL.avoid hD ds xs (by rw [show dep (.tup ds) = depL ds + 1 from by simp [dep]] at h; omega) q1⟩
  | .lst ds, w, h, q => by
    obtain ⟨k, xs, rfl, r, hm, q1⟩ := rep_lst.mp q
    refine rep_lst.mpr ⟨k, xs, rfl, ⟨r, fun e => ?_⟩, hm, RepL.avoid hD ds xs (by rw [show dep (.lst ds) = depL ds + 1 from by simp [dep]] at h; omega) q1⟩
    subst e
    have := Rep.det _ _ _ q hD
    rw [this] at h
    omega
theorem RepL.avoid {R R' : Nat -> Prop} {m : Me} {D : Dat} {l : Nat} (hD : Rep R' m D (.ref l)) : ∀ (ds : List Dat) (xs : List Wd), depL ds < dep D -> RepL R m ds xs -> RepL (fun x => R x /\ x ≠ l) m ds xs
  | [], xs, h, q => by rw [q.nil_inv]; exact .nil
  | d :: ds, xs, h, q => by
    obtain ⟨x, r, rfl, a, b⟩ := q.cons_inv
    unfold depL at h
    exact .cons (Rep.avoid hD d x (by omega) a) (RepL.avoid hD ds r (by omega) b)
end
theorem setRow {m : Me} {l p : Nat} {xs : List Wd} {k : Int} {w : Wd} (hm : m[l]? = some (.lst xs)) (hk : ix xs.length k = some p) : setR (.ref l) (.int k) w m = .ok .non (m.set l (.lst (xs.set p w))) := by
  simp [setR, hm, hk]
theorem setAt_eq {k d : Dat} {es es1 : List Dat} (h : setAt k d es = some es1) : ∃ i p, k = .int i /\ ix es.length i = some p /\ es1 = es.set p d := by
  unfold setAt at h
  split at h
  . next i => obtain ⟨p, a, b⟩ := Option.map_eq_some_iff.mp h; exact ⟨i, p, rfl, a, b.symm⟩
  . cases h
theorem augAt_eq {k y : Dat} {op : Bo} {es es1 : List Dat} (h : augAt k op y es = some es1) : ∃ i b p a z, k = .int i /\ y = .int b /\ ix es.length i = some p /\ es[p]? = some (.int a) /\ bopD op (.int a) (.int b) = .ok z /\ es1 = es.set p z /\ flat z = true := by
  unfold augAt at h
  split at h
  . next i b =>
    obtain ⟨p, h1, h2⟩ := Option.bind_eq_some_iff.mp h
    split at h2
    . next a ha =>
      split at h2
      . next z hz =>
        cases h2
        refine ⟨i, b, p, a, z, rfl, rfl, h1, ha, hz, rfl, ?_⟩
        cases op <;> simp only [bopD] at hz
        . cases hz; rfl
        . cases hz; rfl
        all_goals (split at hz <;> (cases hz; try rfl))
      . cases h2
    . cases h2
  . cases h
end
section
variable {lev : Nat -> Lv} {cl : Nat -> List Wd -> Me -> Rz} {cd : Nat -> List Dat -> Rd} {lo : Nat} {RR : Nat -> Prop} {m : Me} {de : DEn} {lv : List Lv} {env : En} {A : Nat -> List Nat}
theorem EnvR.kill {R : Nat -> Prop} {m : Me} {vs : List Nat} {de : DEn} {env : En} {j : Nat} {o : Option Dat} (h : EnvR R m vs (de.set j o) env) : EnvR R m vs (de.set j none) env := by
  refine ⟨by simpa using h.1, fun i hi d hd => ?_⟩
  by_cases e : j = i
  . subst e; rw [List.getElem?_set, if_pos rfl] at hd
    split at hd
    . cases hd
    . cases hd
  . rw [List.getElem?_set_ne e] at hd
    exact h.2 i hi d (by rw [List.getElem?_set_ne e]; exact hd)
theorem ok_env (H : CallR cl cd) {R : Nat -> Prop} {m : Me} {de : DEn} {env : En} {e : Ex} {d : Dat} (q : EnvR R m (vars e) de env) (h : evD cd e de = .ok d) (hR : ∀ l, m.length <= l -> R l) : ∃ w m2, evE cl e env m = .ok w m2 /\ Le m m2 /\ Rep R m2 d w := by
  have q := ev_read H e R m de env q
  rw [h] at q
  obtain ⟨w, m2, a, b, c⟩ := q
  exact ⟨w, m2, a, b, Rep.frame (fun x o r z => ⟨by rcases r with r | r; exact r; exact hR x r, z⟩) d w c⟩
theorem Inv.forget (I : Inv lo RR m de lv env A) (i : Nat) (w : Wd) : Inv lo RR m (de.set i none) (lv.set i .full) (env.set i (some w)) A := by
  refine ⟨by simp [I.len], by simp [I.lvl], I.rr, I.lom, fun k d l h1 h2 => ?_, I.nd, I.dj, I.bd⟩
  by_cases e : i = k
  . subst e; rw [List.getElem?_set, if_pos rfl] at h1
    split at h1
    . cases h1
    . cases h1
  . rw [List.getElem?_set_ne e] at h1 h2
    obtain ⟨w', a, b⟩ := I.slot k d l h1 h2
    exact ⟨w', by rw [List.getElem?_set_ne e]; exact a, b⟩
theorem swAt_eq {p q c d : Dat} {es es1 : List Dat} (h : swAt p q c d es = some es1) : ∃ p' q' c' d' p1 q1 c1 d1 x y, p = .int p' /\ q = .int q' /\ c = .int c' /\ d = .int d' /\ ix es.length p' = some p1 /\ ix es.length q' = some q1 /\ ix es.length c' = some c1 /\ es[c1]? = some x /\ ix es.length d' = some d1 /\ es[d1]? = some y /\ flat x = true /\ flat y = true /\ es1 = (es.set p1 x).set q1 y := by
  unfold swAt at h
  split at h
  . next p' q' c' d' =>
    split at h
    . next p1 q1 x y h1 h2 h3 h4 =>
      split at h
      . next f =>
        cases h
        rw [Bool.and_eq_true] at f
        obtain ⟨c1, a, b⟩ := Option.bind_eq_some_iff.mp h3
        obtain ⟨d1, a', b'⟩ := Option.bind_eq_some_iff.mp h4
        exact ⟨p', q', c', d', p1, q1, c1, d1, x, y, rfl, rfl, rfl, rfl, h1, h2, a, b, a', b', f.1, f.2, rfl⟩
      . cases h
    . cases h
  . cases h
theorem viewSw_eq {s t : Sm} {i j : Nat} {r p q c d : Ex} (h : viewSw s t = some (i, j, r, p, q, c, d)) : s = .asg i (.idx (.var j) r) /\ t = .swapS (.var i) p (.var i) q (.idx (.var i) c) (.idx (.var i) d) /\ i ≠ j := by
  unfold viewSw at h
  split at h
  . split at h
    . split at h
      . next z => obtain ⟨rfl, rfl, rfl, rfl, z⟩ := z; cases h; exact ⟨rfl, rfl, z⟩
      . cases h
    . cases h
  . cases h
end
section
variable {lev : Nat -> Lv} {cl : Nat -> List Wd -> Me -> Rz} {cd : Nat -> List Dat -> Rd} {lo : Nat} {RR : Nat -> Prop}
theorem Inv.bindSlot {m : Me} {de : DEn} {lv : List Lv} {env : En} {A : Nat -> List Nat} (I : Inv lo RR m de lv env A) (i : Nat) {d : Dat} {w : Wd} (h : Rep (Free RR A) m d w) : Inv lo RR m (de.set i (some d)) (lv.set i (lvF d)) (env.set i (some w)) (upd A i []) /\ Keep A m (upd A i []) m := by
  refine I.store (Le.refl m) i (B := []) ?_ List.nodup_nil (by simp)
  unfold lvF
  split
  . next f => exact h.flat d w f
  . exact ⟨Rep.frame (fun x o r z => ⟨⟨.inl r, by simp⟩, z⟩) _ _ h, rfl⟩
theorem loopL_sim {bw : Wd -> En -> Me -> Rs} {bd : Dat -> DEn -> List Lv -> Rsd} (hb : ∀ x w m de lv env A, Inv lo RR m de lv env A -> Rep (Free RR A) m x w -> SimS lo RR A m (bw w env m) (bd x de lv)) :
    ∀ (ds : List Dat) (xs : List Wd) (m : Me) (de : DEn) (lv : List Lv) (env : En) (A : Nat -> List Nat), Inv lo RR m de lv env A -> RepL (Free RR A) m ds xs -> SimS lo RR A m (loopL bw xs env m) (loopD bd ds de lv)
  | [], xs, m, de, lv, env, A, I, r => by
    rw [r.nil_inv]
    exact ⟨env, m, A, rfl, I, Keep.refl A m⟩
  | d :: ds, xs, m, de, lv, env, A, I, r => by
    obtain ⟨x, xs, rfl, a, b⟩ := r.cons_inv
    have h := hb d x m de lv env A I a
    unfold loopL loopD
    cases z : bd d de lv with
    | next d1 l1 =>
      rw [z] at h
      obtain ⟨e1, m1, A1, h1, I1, K1⟩ := h
      rw [h1]
      exact SimS.keep K1 (loopL_sim hb ds xs m1 d1 l1 e1 A1 I1 (K1.repL b))
    | cont d1 l1 =>
      rw [z] at h
      obtain ⟨e1, m1, A1, h1, I1, K1⟩ := h
      rw [h1]
      exact SimS.keep K1 (loopL_sim hb ds xs m1 d1 l1 e1 A1 I1 (K1.repL b))
    | brk d1 l1 =>
      rw [z] at h
      obtain ⟨e1, m1, A1, h1, I1, K1⟩ := h
      rw [h1]
      exact ⟨e1, m1, A1, rfl, I1, K1⟩
    | ret d l =>
      rw [z] at h
      obtain ⟨w, m1, B, h1, k⟩ := h
      rw [h1]
      exact ⟨w, m1, B, rfl, k⟩
    | exc c d =>
      rw [z] at h
      obtain ⟨w, e, m1, h1, k⟩ := h
      rw [h1]
      exact ⟨w, e, m1, rfl, k⟩
    | no => trivial
theorem loopR_sim {bw : Wd -> En -> Me -> Rs} {bd : Dat -> DEn -> List Lv -> Rsd} (hb : ∀ x w m de lv env A, Inv lo RR m de lv env A -> Rep (Free RR A) m x w -> SimS lo RR A m (bw w env m) (bd x de lv)) {l : Nat} {xs0 : List Wd} :
    ∀ (ds : List Dat) (i k : Nat) (m : Me) (de : DEn) (lv : List Lv) (env : En) (A : Nat -> List Nat), Inv lo RR m de lv env A -> (∀ k, l ∉ A k) -> m[l]? = some (.lst xs0) -> RepL (Free RR A) m ds (xs0.drop i) -> i + ds.length = xs0.length -> ds.length < k -> SimS lo RR A m (loopR bw l k i env m) (loopD bd ds de lv)
  | [], i, 0, m, de, lv, env, A, I, hl, hm, r, hi, hk => by simp at hk
  | d :: ds, i, 0, m, de, lv, env, A, I, hl, hm, r, hi, hk => by simp at hk
  | [], i, k + 1, m, de, lv, env, A, I, hl, hm, r, hi, hk => by
    unfold loopR loopD lstAt
    rw [hm]
    simp only
    rw [List.getElem?_eq_none (by simp at hi; omega)]
    exact ⟨env, m, A, rfl, I, Keep.refl A m⟩
  | d :: ds, i, k + 1, m, de, lv, env, A, I, hl, hm, r, hi, hk => by
    obtain ⟨x, q, e0, a, b⟩ := r.cons_inv
    have hx : xs0[i]? = some x := by
      have : (xs0.drop i)[0]? = some x := by rw [e0]; rfl
      simpa using this
    have hr : q = xs0.drop (i + 1) := by
      have : (xs0.drop i).drop 1 = q := by rw [e0]; rfl
      rw [<- this, List.drop_drop]
    rw [hr] at b
    have hi' : i + 1 + ds.length = xs0.length := by simp at hi; omega
    have hk' : ds.length < k := by simp at hk; omega
    have h := hb d x m de lv env A I a
    unfold loopR loopD lstAt
    rw [hm]
    simp only
    rw [hx]
    simp only
    cases z : bd d de lv with
    | next d1 l1 =>
      rw [z] at h
      obtain ⟨e1, m1, A1, h1, I1, K1⟩ := h
      rw [h1]
      exact SimS.keep K1 (loopR_sim hb ds (i + 1) k m1 d1 l1 e1 A1 I1 (K1.1 l _ hl hm).1 (K1.1 l _ hl hm).2 (K1.repL b) hi' hk')
    | cont d1 l1 =>
      rw [z] at h
      obtain ⟨e1, m1, A1, h1, I1, K1⟩ := h
      rw [h1]
      exact SimS.keep K1 (loopR_sim hb ds (i + 1) k m1 d1 l1 e1 A1 I1 (K1.1 l _ hl hm).1 (K1.1 l _ hl hm).2 (K1.repL b) hi' hk')
    | brk d1 l1 =>
      rw [z] at h
      obtain ⟨e1, m1, A1, h1, I1, K1⟩ := h
      rw [h1]
      exact ⟨e1, m1, A1, rfl, I1, K1⟩
    | ret d l =>
      rw [z] at h
      obtain ⟨w, m1, B, h1, k⟩ := h
      rw [h1]
      exact ⟨w, m1, B, rfl, k⟩
    | exc c d =>
      rw [z] at h
      obtain ⟨w, e, m1, h1, k⟩ := h
      rw [h1]
      exact ⟨w, e, m1, rfl, k⟩
    | no => trivial
theorem for_sim {bw : Wd -> En -> Me -> Rs} {bd : Dat -> DEn -> List Lv -> Rsd} (H : CallO lev cl cd) (hb : ∀ x w m de lv env A, Inv lo RR m de lv env A -> Rep (Free RR A) m x w -> SimS lo RR A m (bw w env m) (bd x de lv)) {m : Me} {de : DEn} {lv : List Lv} {env : En} {A : Nat -> List Nat} (I : Inv lo RR m de lv env A) (it : Ex) :
    SimS lo RR A m ((evE cl it env m).bindS env fun w m1 => forW bw w env m1) ((evD cd it de).bindS fun d => match itD d with
      | some xs => loopD bd xs de (if flat d then lv else relE it de lv)
      | none => .no) := by
  have run : ∀ (d : Dat) (w : Wd) (m1 : Me) (xs : List Dat) (lv1 : List Lv) (A1 : Nat -> List Nat), itD d = some xs -> Inv lo RR m1 de lv1 env A1 -> Rep (Free RR A1) m1 d w -> SimS lo RR A1 m1 (forW bw w env m1) (loopD bd xs de lv1) := by
    intro d w m1 xs lv1 A1 hi I1 r
    cases d with
    | tup ds => cases hi; obtain ⟨ys, rfl, r1⟩ := rep_tup.mp r; exact loopL_sim hb _ _ _ _ _ _ _ I1 r1
    | scr ns => cases hi; rw [rep_scr.mp r]; exact loopL_sim hb _ _ _ _ _ _ _ I1 (RepL.ints ns)
    | lst ds =>
      simp only [itD] at hi
      split at hi
      . next z =>
        cases hi
        obtain ⟨l, ys, rfl, hR, hm, r1⟩ := rep_lst.mp r
        have := r1.len
        exact loopR_sim hb _ 0 (lim + 1) m1 de lv1 env A1 I1 hR.2 hm (by simpa using r1) (by omega) (by omega)
      . cases hi
    | _ => cases hi
  cases z : evD cd it de with
  | no => trivial
  | exc c d =>
    have := I.bindE H.r it (f := fun w m1 => forW bw w env m1) (g := fun d => .no) (fun _ _ _ _ _ _ _ => trivial)
    rw [z] at this; exact this
  | ok d =>
    show SimS lo RR A m _ (match itD d with
      | some xs => loopD bd xs de (if flat d then lv else relE it de lv)
      | none => .no)
    cases hi : itD d with
    | none => trivial
    | some xs =>
      simp only
      split
      . next f =>
        obtain ⟨w, m1, h2, l1, r1⟩ := I.ok H.r z (Le.refl m)
        rw [h2]
        exact SimS.keep (keep_le l1) (run d w m1 xs lv A hi (I.ext l1) (Own.rep d w [] (by simp) (r1.flat d w f)))
      . obtain ⟨A1, I1, K1, _, h⟩ := I.relEv H it
        rw [z] at h
        obtain ⟨w, m1, h2, l1, r1⟩ := h.sim
        rw [h2]
        refine SimS.keep (K1.trans (keep_le l1)) (run d w m1 xs _ A1 hi (I1.ext l1) (Rep.frame (fun x o r z => ⟨?_, z⟩) _ _ r1))
        rcases r with r | r
        . exact r
        . exact ⟨I.rr x (Nat.le_trans I.lom r), fun k hk => by have := (I1.bd k x hk).2; omega⟩
theorem loopW_sim {cw : En -> Me -> Rz} {bw : En -> Me -> Rs} {c : DEn -> Rd} {bd : DEn -> List Lv -> Rsd} (hc : ∀ m de lv env A, Inv lo RR m de lv env A -> match c de with | .ok d => ∃ w m1, cw env m = .ok w m1 /\ Le m m1 /\ Rep RR m1 d w | .exc k d => ∃ w m1, cw env m = .exc k w m1 /\ Le m m1 /\ Rep RR m1 d w | .no => True)
    (hb : ∀ m de lv env A, Inv lo RR m de lv env A -> SimS lo RR A m (bw env m) (bd de lv)) : ∀ (k : Nat) (m : Me) (de : DEn) (lv : List Lv) (env : En) (A : Nat -> List Nat), Inv lo RR m de lv env A -> SimS lo RR A m (loopW cw bw k env m) (loopWD c bd k de lv)
  | 0, m, de, lv, env, A, I => trivial
  | k + 1, m, de, lv, env, A, I => by
    have h := hc m de lv env A I
    unfold loopW loopWD
    cases z : c de with
    | no => trivial
    | exc j d =>
      rw [z] at h
      obtain ⟨w, m1, h1, l1, r1⟩ := h
      rw [h1]
      exact ⟨w, env, m1, rfl, ⟨fun x o _ b => l1 x o b, l1.len⟩, r1⟩
    | ok d =>
      rw [z] at h
      obtain ⟨w, m1, h1, l1, r1⟩ := h
      rw [h1]
      cases d with
      | bl b =>
        rw [rep_bl.mp r1]
        cases b with
        | false => exact ⟨env, m1, A, rfl, I.ext l1, keep_le l1⟩
        | true =>
          have h2 := hb m1 de lv env A (I.ext l1)
          refine SimS.keep (keep_le l1) ?_
          simp only
          cases z2 : bd de lv with
          | next d1 l2 =>
            rw [z2] at h2
            obtain ⟨e1, m2, A1, h3, I1, K1⟩ := h2
            rw [h3]
            exact SimS.keep K1 (loopW_sim hc hb k m2 d1 l2 e1 A1 I1)
          | cont d1 l2 =>
            rw [z2] at h2
            obtain ⟨e1, m2, A1, h3, I1, K1⟩ := h2
            rw [h3]
            exact SimS.keep K1 (loopW_sim hc hb k m2 d1 l2 e1 A1 I1)
          | brk d1 l2 =>
            rw [z2] at h2
            obtain ⟨e1, m2, A1, h3, I1, K1⟩ := h2
            rw [h3]
            exact ⟨e1, m2, A1, rfl, I1, K1⟩
          | ret d l =>
            rw [z2] at h2
            obtain ⟨w, m2, B, h3, k⟩ := h2
            rw [h3]
            exact ⟨w, m2, B, rfl, k⟩
          | exc c d =>
            rw [z2] at h2
            obtain ⟨w, e, m2, h3, k⟩ := h2
            rw [h3]
            exact ⟨w, e, m2, rfl, k⟩
          | no => trivial
      | _ => trivial
theorem loopE_sim {bw : Wd -> En -> Me -> Rs} {bd : Dat × Dat -> DEn -> List Lv -> Rsd} (hb : ∀ (p : Dat × Dat) w1 w2 m de lv env A, Inv lo RR m de lv env A -> Rep (Free RR A) m p.1 w1 -> Rep (Free RR A) m p.2 w2 -> SimS lo RR A m (bw (.tup [w1, w2]) env m) (bd p de lv)) {la : Nat} {xs : List Wd} {da : List Dat} (ps : List (Dat × Dat)) :
    ∀ (i k : Nat) (m : Me) (de : DEn) (lv : List Lv) (env : En) (A : Nat -> List Nat), Inv lo RR m de lv env A -> (∀ k, la ∉ A k) -> m[la]? = some (.lst xs) -> RepL (Free RR A) m da xs ->
      ps = ((rngF 0 1 da.length).zip da).drop i -> i + ps.length = da.length -> ps.length < k -> SimS lo RR A m (loopG bw (pairAt .enum (.ref la) (.int 0)) k i env m) (loopD bd ps de lv) := by
  induction ps with
  | nil =>
    intro i k m de lv env A I ha hma ra hp hi hk
    obtain ⟨k, rfl⟩ : ∃ q, k = q + 1 := ⟨k - 1, by simp at hk; omega⟩
    have l1 := ra.len
    have e : pairAt .enum (.ref la) (.int 0) i m = some none := by
      simp only [pairAt, lstAt, hma]
      simp only [List.length_nil] at hi
      rw [List.getElem?_eq_none (by omega)]
      rfl
    unfold loopG loopD
    rw [e]
    exact ⟨env, m, A, rfl, I, Keep.refl A m⟩
  | cons p ps ih =>
    intro i k m de lv env A I ha hma ra hp hi hk
    obtain ⟨k, rfl⟩ : ∃ q, k = q + 1 := ⟨k - 1, by simp at hk; omega⟩
    have hx : ((rngF 0 1 da.length).zip da)[i]? = some p := by
      have : (((rngF 0 1 da.length).zip da).drop i)[0]? = some p := by rw [<- hp]; rfl
      simpa using this
    have hr : ps = ((rngF 0 1 da.length).zip da).drop (i + 1) := by
      have : (((rngF 0 1 da.length).zip da).drop i).drop 1 = ps := by rw [<- hp]; rfl
      rw [<- this, List.drop_drop]
    obtain ⟨z1, z2⟩ := zip_get hx
    obtain ⟨w2, b1, b2⟩ := ra.get z2
    have hil : i < da.length := (List.getElem?_eq_some_iff.mp z2).1
    have hp1 : p.1 = .int (0 + (i : Int)) := by
      have : (rngF 0 1 da.length)[i]? = some (.int (0 + 1 * (i : Int))) := by simp [rngF, hil]
      rw [this] at z1
      rw [<- Option.some.inj z1, Int.one_mul]
    have e : pairAt .enum (.ref la) (.int 0) i m = some (some (.int (0 + (i : Int)), w2)) := by simp only [pairAt, lstAt, hma, b1, Option.map_some]
    have hi' : i + 1 + ps.length = da.length := by simp only [List.length_cons] at hi; omega
    have hk' : ps.length < k := by simp only [List.length_cons] at hk; omega
    have h := hb p (.int (0 + (i : Int))) w2 m de lv env A I (by rw [hp1]; exact rep_int.mpr rfl) b2
    unfold loopG loopD
    rw [e]
    simp only
    cases z : bd p de lv with
    | next d1 l1 =>
      rw [z] at h
      obtain ⟨e1, m1, A1, h1, I1, K1⟩ := h
      rw [h1]
      exact SimS.keep K1 (ih (i + 1) k m1 d1 l1 e1 A1 I1 (K1.1 la _ ha hma).1 (K1.1 la _ ha hma).2 (K1.repL ra) hr hi' hk')
    | cont d1 l1 =>
      rw [z] at h
      obtain ⟨e1, m1, A1, h1, I1, K1⟩ := h
      rw [h1]
      exact SimS.keep K1 (ih (i + 1) k m1 d1 l1 e1 A1 I1 (K1.1 la _ ha hma).1 (K1.1 la _ ha hma).2 (K1.repL ra) hr hi' hk')
    | brk d1 l1 =>
      rw [z] at h
      obtain ⟨e1, m1, A1, h1, I1, K1⟩ := h
      rw [h1]
      exact ⟨e1, m1, A1, rfl, I1, K1⟩
    | ret d l =>
      rw [z] at h
      obtain ⟨w, m1, B, h1, k⟩ := h
      rw [h1]
      exact ⟨w, m1, B, rfl, k⟩
    | exc c d =>
      rw [z] at h
      obtain ⟨w, e, m1, h1, k⟩ := h
      rw [h1]
      exact ⟨w, e, m1, rfl, k⟩
    | no => trivial
theorem appAll_at {c : Int} : ∀ {ds ds' : List Dat}, appAll c ds = some ds' -> ∀ {p : Nat}, p < ds.length -> ∃ es, ds[p]? = some (.lst es) /\ es.length < lim /\ ds'[p]? = some (.lst (es ++ [.int c]))
  | [], _, _, p, hp => by simp at hp
  | d :: r, ds', h, p, hp => by
    unfold appAll at h
    split at h
    . rename_i heq
      cases heq
    . rename_i es r' heq
      cases heq
      split at h
      . next hl =>
        cases hr : appAll c r with
        | none => rw [hr] at h; cases h
        | some t =>
          rw [hr] at h
          cases h
          cases p with
          | zero => exact ⟨es, rfl, hl, rfl⟩
          | succ p => simpa using appAll_at hr (p := p) (by simpa using hp)
      . cases h
    . cases h
theorem appAll_len {c : Int} : ∀ {ds ds' : List Dat}, appAll c ds = some ds' -> ds'.length = ds.length
  | [], _, h => by cases h; rfl
  | d :: r, ds', h => by
    unfold appAll at h
    split at h
    . rename_i heq
      cases heq
    . rename_i es r' heq
      cases heq
      split at h
      . cases hr : appAll c r with
        | none => rw [hr] at h; cases h
        | some t => rw [hr] at h; cases h; simpa using appAll_len hr
      . cases h
    . cases h
def bodyA (cl : Nat -> List Wd -> Me -> Rz) (i : Nat) (c : Int) : Wd -> En -> Me -> Rs := fun x e m => (evE cl (.meth .append (.var i) (.pair (.lit (.int c)) .unit)) (e.set i (some x)) m).bindS (e.set i (some x)) fun _ m1 => .next (e.set i (some x)) m1
def bodyC (cl : Nat -> List Wd -> Me -> Rz) (i : Nat) : Wd -> En -> Me -> Rs := fun x e m => (evE cl (.meth .clear (.var i) .unit) (e.set i (some x)) m).bindS (e.set i (some x)) fun _ m1 => .next (e.set i (some x)) m1
theorem allLst_at : ∀ {ds : List Dat}, allLst ds = true -> ∀ {p : Nat}, p < ds.length -> ∃ es, ds[p]? = some (.lst es)
  | [], _, p, hp => by simp at hp
  | d :: r, h, p, hp => by
    cases d with
    | lst es =>
      cases p with
      | zero => exact ⟨es, rfl⟩
      | succ p => simpa using allLst_at (ds := r) (by simpa [allLst] using h) (p := p) (by simpa using hp)
    | _ => simp [allLst] at h
theorem set_self {α : Type} {l : List α} {i : Nat} {o : α} (h : l[i]? = some o) : l.set i o = l := by
  refine List.ext_getElem? fun q => ?_
  by_cases hq : i = q
  . subst hq; rw [List.getElem?_set_self (List.getElem?_eq_some_iff.mp h).1, h]
  . rw [List.getElem?_set_ne hq]
theorem take_set {α : Type} {ds ds' : List α} {p : Nat} {v : α} (h1 : ds'.length = ds.length) (h2 : p < ds.length) (h3 : ds'[p]? = some v) : (ds'.take p ++ ds.drop p).set p v = ds'.take (p + 1) ++ ds.drop (p + 1) := by
  refine List.ext_getElem? fun q => ?_
  by_cases hq : p = q
  . subst hq
    rw [List.getElem?_set_self (by simp; omega), List.getElem?_append_left (by simp; omega), List.getElem?_take, if_pos (by omega), h3]
  . rw [List.getElem?_set_ne hq]
    by_cases hlt : q < p
    . rw [List.getElem?_append_left (by simp; omega), List.getElem?_append_left (by simp; omega), List.getElem?_take, List.getElem?_take, if_pos hlt, if_pos (by omega)]
    . rw [List.getElem?_append_right (by simp; omega), List.getElem?_append_right (by simp; omega), List.getElem?_drop, List.getElem?_drop]
      congr 1
      simp only [List.length_take]; omega
theorem Inv.drop {m : Me} {de : DEn} {lv : List Lv} {env : En} {A : Nat -> List Nat} (I : Inv lo RR m de lv env A) (i : Nat) (hi : i < de.length) : Inv lo RR m (de.set i none) (lv.set i .full) env A := by
  refine ⟨by simp [I.len], by simp [I.lvl], I.rr, I.lom, fun k d l h1 h2 => ?_, I.nd, I.dj, I.bd⟩
  by_cases e : i = k
  . subst e; rw [List.getElem?_set, if_pos rfl] at h1
    split at h1
    . cases h1
    . cases h1
  . rw [List.getElem?_set_ne e] at h1 h2
    exact I.slot k d l h1 h2
theorem Inv.hole {m : Me} {de : DEn} {lv : List Lv} {env : En} {A : Nat -> List Nat} (I : Inv lo RR m de lv env A) (i : Nat) : Inv lo RR m (de.set i none) (lv.set i .full) (env.set i none) A := by
  refine ⟨by simp [I.len], by simp [I.lvl], I.rr, I.lom, fun k d l h1 h2 => ?_, I.nd, I.dj, I.bd⟩
  by_cases e : i = k
  . subst e
    rw [List.getElem?_set, if_pos rfl] at h1
    split at h1 <;> cases h1
  . rw [List.getElem?_set_ne e] at h1 h2 ⊢
    exact I.slot k d l h1 h2
theorem pt_sim {R : Nat -> Prop} {m : Me} {d : Dat} {x : Wd} {p : Int × Int} (h : dptOf d = some p) (r : Rep R m d x) : ptOf x = some p := by
  cases d with
  | tup ds =>
    obtain ⟨xs, rfl, q⟩ := rep_tup.mp r
    cases ds with
    | nil => cases h
    | cons a ds =>
      cases ds with
      | nil => cases a <;> cases h
      | cons b ds =>
        cases ds with
        | cons c ds => cases a <;> cases b <;> cases h
        | nil =>
          cases a with
          | int i =>
            cases b with
            | int j =>
              cases h
              obtain ⟨x1, r1, rfl, q1, q2⟩ := q
              obtain ⟨x2, r2, rfl, q3, q4⟩ := q2
              obtain rfl : r2 = [] := q4
              rw [rep_int.mp q1, rep_int.mp q3]
              rfl
            | _ => cases h
          | _ => cases h
  | _ => cases h
theorem pts_sim {R : Nat -> Prop} {m : Me} : ∀ {ds : List Dat} {xs : List Wd} {ps : List (Int × Int)}, dptsOf ds = some ps -> RepL R m ds xs -> ptsOf xs = some ps
  | [], xs, ps, h, r => by
    obtain rfl : xs = [] := r
    exact h
  | d :: ds, xs, ps, h, r => by
    obtain ⟨x, xs', rfl, q1, q2⟩ := r
    have h' : (match dptOf d, dptsOf ds with | some p, some q => some (p :: q) | _, _ => none) = some ps := h
    show (match ptOf x, ptsOf xs' with | some p, some q => some (p :: q) | _, _ => none) = some ps
    cases e1 : dptOf d with
    | none => rw [e1] at h'; cases h'
    | some p =>
      cases e2 : dptsOf ds with
      | none => rw [e1, e2] at h'; cases h'
      | some q =>
        rw [e1, e2] at h'
        rw [pt_sim e1 q1, pts_sim e2 q2]
        exact h'
theorem chk_sim {m : Me} {de : DEn} {lv : List Lv} {env : En} {A : Nat -> List Nat} (I : Inv lo RR m de lv env A) (t n k p s : Nat) : SimS lo RR A m (chkS t n k p s env m) (chkD t n k p s de lv) := by
  unfold chkD
  split
  . next ds i h1 h2 =>
    split
    . next ps h3 =>
      split
      . next h4 =>
        obtain ⟨l1, g1⟩ := I.getlv h1
        obtain ⟨l2, g2⟩ := I.getlv h2
        obtain ⟨w1, e1, r1⟩ := I.slot t _ l1 h1 g1
        obtain ⟨w2, e2, r2⟩ := I.slot n _ l2 h2 g2
        have q1 : Rep (fun _ => True) m (.lst ds) w1 := RepO.rep (fun _ _ => trivial) (fun _ _ => trivial) r1
        have q2 : Rep (fun _ => True) m (.int i) w2 := RepO.rep (fun _ _ => trivial) (fun _ _ => trivial) r2
        obtain ⟨l, xs, rfl, _, hm, rl⟩ := rep_lst.mp q1
        obtain rfl := rep_int.mp q2
        have e : chkS t n k p s env m = .next (((env.set k none).set p none).set s none) (m ++ junk ps) := by
          unfold chkS
          rw [e1, e2]
          simp only [hm, pts_sim h3 rl]
          rw [if_pos ⟨h4.1, h4.2.1⟩]
        have le : Le m (m ++ junk ps) := fun l o z => by rw [List.getElem?_append_left (List.getElem?_eq_some_iff.mp z).1]; exact z
        exact ⟨_, m ++ junk ps, A, e, (((I.hole k).hole p).hole s).ext le, fun l o h z => ⟨h, le l o z⟩, by simp⟩
      . trivial
    . trivial
  . trivial
theorem OwnL.leng {m : Me} {ds : List Dat} {xs : List Wd} {B : List Nat} (h : OwnL m ds xs B) : ds.length = xs.length := (OwnL.rep (R := fun _ => True) ds xs B (fun _ _ => trivial) h).len
def bodyS (cl : Nat -> List Wd -> Me -> Rz) (i j : Nat) (c : Int) : Wd -> En -> Me -> Rs := fun x e m => match (evE cl (.var i) (e.set i (some x)) m).bindS (e.set i (some x)) fun w m1 => forW (bodyA cl j c) w (e.set i (some x)) m1 with
  | .next e1 m1 => (evE cl (.meth .append (.var i) (.pair (.lst .unit) .unit)) e1 m1).bindS e1 fun _ m2 => .next e1 m2
  | r => r
theorem pop_sim {m : Me} {de de1 : DEn} {lv : List Lv} {env : En} {A : Nat -> List Nat} (I : Inv lo RR m de lv env A) {j : Nat} {v : Int} (h : popD j de lv = some (v, de1)) :
    ∃ m1 A1, evE cl (.meth .pop (.var j) .unit) env m = .ok (.int v) m1 /\ Inv lo RR m1 de1 lv env A1 /\ Keep A m A1 m1 := by
  unfold popD at h
  split at h
  . next ds hj =>
    split at h
    . next v' hv =>
      split at h
      . next oj =>
        cases h
        obtain ⟨l, xs, e1, m1, rx, put⟩ := I.mut (lsAt_eq hj) oj
        obtain ⟨A1, I1, K1⟩ := put m ds.dropLast xs.dropLast (Le.refl m) (fun _ => (chg_last (RR := RR) (A := A)).1) (fun _ => (chg_last (RR := RR) (A := A)).2)
        rw [List.getLast?_eq_getElem?] at hv
        obtain ⟨y, hy, ry⟩ := rx.get hv
        rw [rep_int.mp ry] at hy
        refine ⟨_, A1, ?_, I1, K1⟩
        rw [evMeth0 (x := .ref l) (m1 := m) (evVar e1 m)]
        simp only [mtR, m1]
        rw [<- rx.len]
        show (match xs[ds.length - 1]? with
          | some y => Rz.ok y (m.set l (.lst xs.dropLast))
          | none => .no) = _
        rw [hy]
      . cases h
    . cases h
  . cases h
theorem setI_sim {m : Me} {de de1 : DEn} {lv : List Lv} {env : En} {A : Nat -> List Nat} (I : Inv lo RR m de lv env A) {j : Nat} {p u : Dat} (h : setI j p u de lv = some de1) :
    ∃ a b m1 A1 x, p = .int a /\ u = .int b /\ env[j]? = some (some x) /\ setR x (.int a) (.int b) m = .ok .non m1 /\ Inv lo RR m1 de1 lv env A1 /\ Keep A m A1 m1 := by
  unfold setI at h
  split at h
  . next a b ds hj =>
    split at h
    . next k hk =>
      split at h
      . next oj =>
        cases h
        obtain ⟨l, xs, e1, m1, rx, put⟩ := I.mut (lsAt_eq hj) oj
        have ow : Own m (.int b) (.int b) [] := (rep_int.mpr rfl : Rep (fun _ => True) m (.int b) (.int b)).flat _ _ rfl
        have ch : Chg RR A m m ds xs (ds.set k (.int b)) (xs.set k (.int b)) := chg_set k (Le.refl m) (B0 := []) ow List.nodup_nil (by simp)
        obtain ⟨A1, I1, K1⟩ := put m _ _ (Le.refl m) (fun _ => ch.1) (fun _ => ch.2)
        refine ⟨a, b, _, A1, .ref l, rfl, rfl, e1, ?_, I1, K1⟩
        have hk' : ix xs.length a = some k := by rw [<- rx.len]; exact hk
        simp only [setR, m1, hk']
      . cases h
    . cases h
  . cases h
theorem ret_sim (H : CallO lev cl cd) {m : Me} {de : DEn} {lv : List Lv} {env : En} {A : Nat -> List Nat} (I : Inv lo RR m de lv env A) (e : Ex) : SimS lo RR A m (exS cl (.ret e) env m) (exD lev cd (.ret e) de lv) := by
  show SimS _ _ _ _ ((evE cl e env m).bindS env _) ((evD cd e de).bindS _)
  cases z : evD cd e de with
  | no => trivial
  | exc c d =>
    have := I.bindE H.r e (f := fun w m1 => .ret w m1) (g := fun d => .no) (fun _ _ _ _ _ _ _ => trivial)
    rw [z] at this; exact this
  | ok d =>
    obtain ⟨w, m1, h2, l1, r1⟩ := I.ok H.r z (Le.refl m)
    rw [h2]
    show SimS lo RR A m (.ret w m1) (.ret d (lvR lev e d lv))
    have kp : (∀ (x : Nat) o, (∀ i, x ∉ A i) -> m[x]? = some o -> m1[x]? = some o) /\ m.length <= m1.length := ⟨fun x o _ b => l1 x o b, l1.len⟩
    have no : RepO (fun x => RR x /\ x ∉ ([] : List Nat)) m1 .no d w [] := ⟨Rep.frame (fun x o r z => ⟨⟨r, by simp⟩, z⟩) _ _ r1, rfl⟩
    by_cases f : flat d = true
    . refine ⟨w, m1, [], rfl, kp, ?_, List.nodup_nil, by simp⟩
      unfold lvR; rw [if_pos f]
      exact r1.flat d w f
    . unfold lvR
      rw [if_neg f]
      split
      . next i =>
        have hdi : de[i]? = some (some d) := by
          exact evD_inv z
        obtain ⟨l, hl⟩ := I.getlv hdi
        obtain ⟨w', he, ro⟩ := I.slot i d l hdi hl
        rw [evVar he m] at h2; cases h2
        rw [hl]
        refine ⟨_, _, A i, rfl, kp, ?_, I.nd i, fun b hb => (I.bd i b hb).1⟩
        exact ro.frame (fun x o r z => ⟨⟨r.1, r.2 i⟩, z⟩) (fun _ _ _ z => z)
      . next a b =>
        split
        . next c =>
          obtain ⟨hab, ha, hb⟩ := c
          have : ∃ da db, de[a]? = some (some da) /\ de[b]? = some (some db) /\ d = .tup [da, db] := by
            have hz : evD cd (.tup (.pair (.var a) (.pair (.var b) .unit))) de = ((evD cd (.var a) de).bind fun x => ((evD cd (.var b) de).bind fun y => .ok (.tup [y])).bind fun y => .ok (.tup (x :: argsD y))).bind fun x => if (argsD x).length <= lim then .ok (.tup (argsD x)) else .no := rfl
            rw [hz] at z
            cases q1 : de[a]? with
            | none => rw [evD_none (.inl q1)] at z; cases z
            | some o => cases o with
              | none => rw [evD_none (.inr q1)] at z; cases z
              | some da =>
                rw [evD_some q1] at z
                cases q2 : de[b]? with
                | none => rw [evD_none (.inl q2)] at z; cases z
                | some o => cases o with
                  | none => rw [evD_none (.inr q2)] at z; cases z
                  | some db =>
                    rw [evD_some q2] at z
                    simp [Rd.bind, argsD, lim] at z
                    exact ⟨da, db, rfl, rfl, z.symm⟩
          obtain ⟨da, db, h3, h4, rfl⟩ := this
          obtain ⟨wa, ea, oa⟩ := I.slot a da .full h3 ha
          obtain ⟨wb, eb, ob⟩ := I.slot b db .full h4 hb
          have hw : evE cl (.tup (.pair (.var a) (.pair (.var b) .unit))) env m = .ok (.tup [wa, wb]) m := by
            show (((evE cl (.var a) env m).bind fun x m1 => ((evE cl (.var b) env m1).bind fun y m2 => .ok (.tup [y]) m2).bind fun y m2 => .ok (.tup (x :: argsOf y)) m2).bind fun x m1 => if (argsOf x).length <= lim then .ok (.tup (argsOf x)) m1 else .no) = _
            rw [evVar ea m]
            simp only [Rz.bind]
            rw [evVar eb m]
            simp [argsOf, lim]
          rw [hw] at h2; cases h2
          refine ⟨_, _, A a ++ (A b ++ []), rfl, kp, own_tup.mpr ⟨_, rfl, .cons oa (.cons ob .nil)⟩, ?_, ?_⟩
          . rw [List.append_nil]
            exact List.nodup_append.mpr ⟨I.nd a, I.nd b, fun x hx y hy e => hab (I.dj a b x hx (by rw [e]; exact hy))⟩
          . intro x hx
            rw [List.append_nil] at hx
            rcases List.mem_append.mp hx with q | q
            . exact (I.bd a x q).1
            . exact (I.bd b x q).1
        . exact ⟨w, m1, [], rfl, kp, no, List.nodup_nil, by simp⟩
      . obtain ⟨B, ro, nd, hB⟩ := I.own H z h2
        exact ⟨w, m1, B, rfl, kp, ro, nd, fun b hb => Nat.le_trans I.lom (hB b hb)⟩
theorem ex_sim (H : CallO lev cl cd) : ∀ (s : Sm) (m : Me) (de : DEn) (lv : List Lv) (env : En) (A : Nat -> List Nat), Inv lo RR m de lv env A -> SimS lo RR A m (exS cl s env m) (exD lev cd s de lv)
  | .skip, m, de, lv, env, A, I => by show SimS _ _ _ _ (.next env m) (.next de lv); exact ⟨env, m, A, rfl, I, Keep.refl A m⟩
  | .seq a b, m, de, lv, env, A, I => by
    cases hv : viewSw a b with
    | some t => rw [exD_seq, hv]; exact trivial
    | none =>
      have h := ex_sim H a m de lv env A I
      rw [exD_seq, hv]
      show SimS _ _ _ _ (match exS cl a env m with
        | .next e1 m1 => exS cl b e1 m1
        | r => r) _
      cases z : exD lev cd a de lv with
      | next d1 l1 =>
        rw [z] at h
        obtain ⟨e1, m1, A1, h1, I1, K1⟩ := h
        rw [h1]
        exact SimS.keep K1 (ex_sim H b m1 d1 l1 e1 A1 I1)
      | cont d1 l1 =>
        rw [z] at h
        obtain ⟨e1, m1, A1, h1, I1, K1⟩ := h
        rw [h1]
        exact ⟨e1, m1, A1, rfl, I1, K1⟩
      | brk d1 l1 =>
        rw [z] at h
        obtain ⟨e1, m1, A1, h1, I1, K1⟩ := h
        rw [h1]
        exact ⟨e1, m1, A1, rfl, I1, K1⟩
      | ret d l =>
        rw [z] at h
        obtain ⟨w, m1, B, h1, k⟩ := h
        rw [h1]
        exact ⟨w, m1, B, rfl, k⟩
      | exc c d =>
        rw [z] at h
        obtain ⟨w, e, m1, h1, k⟩ := h
        rw [h1]
        exact ⟨w, e, m1, rfl, k⟩
      | no => trivial
  | .asg i e, m, de, lv, env, A, I => asg_sim H I i e
  | .asgS _ _ _, m, de, lv, env, A, I => trivial
  | .swapS _ _ _ _ _ _, m, de, lv, env, A, I => trivial
  | .aug _ _ _, m, de, lv, env, A, I => trivial
  | .augS _ _ _ _, m, de, lv, env, A, I => trivial
  | .ite c a b, m, de, lv, env, A, I => by
    refine I.bindE H.r c fun d w m1 _ _ l1 r1 => ?_
    cases d with
    | bl t =>
      rw [rep_bl.mp r1]
      cases t with
      | true => exact ex_sim H a m1 de lv env A (I.ext l1)
      | false => exact ex_sim H b m1 de lv env A (I.ext l1)
    | _ => trivial
  | .forv i it body, m, de, lv, env, A, I => by
    refine for_sim H (fun x w m de lv env A I r => ?_) I it
    obtain ⟨I1, K1⟩ := I.bindSlot i r
    exact SimS.keep K1 (ex_sim H body _ _ _ _ _ I1)
  | .fort _ _ _ _, m, de, lv, env, A, I => trivial
  | .forA _ _ _, m, de, lv, env, A, I => trivial
  | .forC _ _, m, de, lv, env, A, I => trivial
  | .forS _ _ _ _, m, de, lv, env, A, I => trivial
  | .forE _ _ _ _, m, de, lv, env, A, I => trivial
  | .swapI _ _ _ _ _, m, de, lv, env, A, I => trivial
  | .popV _ _, m, de, lv, env, A, I => trivial
  | .popI _ _ _ _, m, de, lv, env, A, I => trivial
  | .appPop _ _ _ _, m, de, lv, env, A, I => trivial
  | .unp3 _ _ _ _, m, de, lv, env, A, I => trivial
  | .forZ _ _ _ _ _, m, de, lv, env, A, I => trivial
  | .while _ _, m, de, lv, env, A, I => trivial
  | .ret e, m, de, lv, env, A, I => ret_sim H I e
  | .retN, m, de, lv, env, A, I => trivial
  | .expr e, m, de, lv, env, A, I => by
    have dflt : SimS lo RR A m (exS cl (.expr e) env m) ((evD cd e de).bindS fun _ => .next de lv) := by
      exact I.bindE H.r e fun d w m1 _ _ l1 _ => ⟨env, m1, A, rfl, I.ext l1, Keep.refl A m1⟩
    by_cases q : ∃ n o a, e = .meth n o a
    . obtain ⟨n, o, a, rfl⟩ := q
      have hap := fun j e => appV_sim H I j e
      have hex := fun j e => extV_sim H I j e
      have hrv := fun j => revV_sim (cl := cl) (cd := cd) (lev := lev) I j
      show SimS _ _ _ _ _ (exprD lev cd (.meth n o a) de lv)
      unfold exprD
      split
      . next h => cases h; exact hap _ _
      . next h => cases h; exact hex _ _
      . next h => cases h; exact hrv _
      . trivial
      . next h => first | exact (h _ _ _ rfl).elim | exact (h _ _ _).elim | exact absurd rfl h
    . show SimS _ _ _ _ _ (exprD lev cd e de lv)
      unfold exprD
      split
      . exact absurd ⟨_, _, _, rfl⟩ q
      . exact absurd ⟨_, _, _, rfl⟩ q
      . exact absurd ⟨_, _, _, rfl⟩ q
      . exact absurd ⟨_, _, _, rfl⟩ q
      . exact dflt
  | .chk t n k p s, m, de, lv, env, A, I => chk_sim I t n k p s
  | .brk, m, de, lv, env, A, I => trivial
  | .cont, m, de, lv, env, A, I => trivial
  | .never, m, de, lv, env, A, I => by exact trivial
end
theorem start_get {α β : Type} (f : α -> β) (z : β) (xs : List α) (n i : Nat) : (xs.map f ++ List.replicate n z)[i]? = if i < xs.length then (xs[i]?).map f else if i < xs.length + n then some z else none := by
  rw [List.getElem?_append, List.length_map]
  split
  . rw [List.getElem?_map]
  . rw [List.getElem?_replicate]
    by_cases h : i - xs.length < n
    . rw [if_pos h, if_pos (by omega)]
    . rw [if_neg h, if_neg (by omega)]
theorem start_inv {R : Nat -> Prop} {m : Me} {ds : List Dat} {ws : List Wd} (fn : Fn) (h : RepL R m ds ws) : Inv m.length (Rf R m.length) m (startD fn ds) (startL fn ds) (begin0 fn ws) (fun _ => []) := by
  have hl := h.len
  refine ⟨?_, ?_, fun l hl => .inr hl, Nat.le_refl _, ?_, fun _ => List.nodup_nil, (fun _ _ _ h => by cases h), (fun _ _ h => by cases h)⟩
  . simp [startD, begin0, hl]
  . simp [startD, startL]
  . intro i d l h1 h2
    unfold startD at h1
    unfold startL at h2
    rw [start_get] at h1 h2
    by_cases hi : i < ds.length
    . rw [if_pos hi] at h1 h2
      obtain ⟨d', e1, e2⟩ := Option.map_eq_some_iff.mp h1
      cases e2
      rw [e1] at h2
      cases h2
      obtain ⟨w, hw, r⟩ := h.get e1
      refine ⟨w, ?_, ?_⟩
      . unfold begin0; rw [start_get, if_pos (by omega), hw]; rfl
      . unfold lvF
        split
        . next f => exact r.flat d w f
        . exact ⟨Rep.frame (fun x o r z => ⟨⟨.inl r, fun _ h => by cases h⟩, z⟩) _ _ r, rfl⟩
    . rw [if_neg hi] at h1
      split at h1 <;> cases h1
theorem run_sim {lev : Nat -> Lv} {cl : Nat -> List Wd -> Me -> Rz} {cd : Nat -> List Dat -> Rd} (H : CallO lev cl cd) (k : Nat) (fn : Fn) (ds : List Dat) (ws : List Wd) (R : Nat -> Prop) (m : Me) (h : RepL R m ds ws) : SimO R m (callLv lev k) (runF cl fn ws m) (runD lev cd k fn ds) := by
  unfold runF runD
  rw [h.len]
  split
  . have s := ex_sim H fn.body m _ _ _ _ (start_inv fn h)
    cases z : exD lev cd fn.body (startD fn ds) (startL fn ds) with
    | next d1 l1 =>
      rw [z] at s
      obtain ⟨e1, m1, A1, h1, I1, K1⟩ := s
      rw [h1]
      refine ⟨.non, m1, [], rfl, fun l o q => (K1.1 l o (fun _ h => by cases h) q).2, ?_, List.nodup_nil, by simp⟩
      unfold callLv RepO Own
      simp [flat]
    | ret d l =>
      rw [z] at s
      obtain ⟨w, m1, B, h1, ⟨kp, _⟩, ro, nd, hB⟩ := s
      rw [h1]
      have le : Le m m1 := fun l o q => kp l o (fun _ h => by cases h) q
      show SimO R m (callLv lev k) (.ok w m1) (if flat d || geLv l (lev k) then .ok d else .no)
      split
      . next c =>
        by_cases f : flat d = true
        . refine ⟨w, m1, [], rfl, le, ?_, List.nodup_nil, by simp⟩
          unfold callLv; rw [if_pos f]
          exact (ro.rep (R' := fun _ => True) (fun _ _ => trivial) (fun _ _ => trivial)).flat d w f
        . have g : geLv l (lev k) = true := by simpa [f] using c
          unfold SimO callLv
          simp only [if_neg f]
          cases e : lev k with
          | no =>
            refine ⟨w, m1, [], rfl, le, ⟨?_, rfl⟩, List.nodup_nil, by simp⟩
            exact ro.rep (fun x r => ⟨r.1, by simp⟩) (fun b hb => ⟨.inr (hB b hb), by simp⟩)
          | top =>
            rw [e] at g
            cases l with
            | top => exact ⟨w, m1, B, rfl, le, ro, nd, hB⟩
            | no => cases g
            | full => cases g
          | full =>
            rw [e] at g
            cases l with
            | full => exact ⟨w, m1, B, rfl, le, ro, nd, hB⟩
            | no => cases g
            | top => cases g
      . trivial
    | exc c d =>
      rw [z] at s
      obtain ⟨w, e, m1, h1, ⟨kp, _⟩, r⟩ := s
      rw [h1]
      exact ⟨w, m1, rfl, fun l o q => kp l o (fun _ h => by cases h) q, r⟩
    | brk _ _ => trivial
    | cont _ _ => trivial
    | no => trivial
  . trivial
theorem call_sim (lev : Nat -> Lv) (T : List Fn) : ∀ d : Nat, CallO lev (callN T d) (callD lev T d)
  | 0 => fun k ds ws R m h => trivial
  | d + 1 => fun k ds ws R m h => by
    unfold callN callD
    cases T[k]? with
    | none => trivial
    | some fn => exact run_sim (call_sim lev T d) k fn ds ws R m h
theorem law_val (lev : Nat -> Lv) (T : List Fn) (d i : Nat) (ns : List Int) (h : callD lev T d i [.scr ns] = .ok (.bl true)) : ∃ m, callN T d i [.rol (ns.map Wd.int)] [] = .ok (.bl true) m := by
  have s := call_sim lev T d i [.scr ns] [.rol (ns.map Wd.int)] (fun _ => True) [] (.cons (rep_scr.mpr rfl) .nil)
  rw [h] at s
  obtain ⟨w, m', h1, _, r⟩ := s.sim
  rw [rep_bl.mp r] at h1
  exact ⟨m', h1⟩
section
variable (lev : Nat -> Lv) (cl : Nat -> List Dat -> Rd) (de : DEn) (lv : List Lv)
@[simp] theorem Rd.bind_ok (d : Dat) (f : Dat -> Rd) : (Rd.ok d).bind f = f d := rfl
@[simp] theorem Rd.bindS_ok (d : Dat) (f : Dat -> Rsd) : (Rd.ok d).bindS f = f d := rfl
@[simp] theorem Rd.okS_ok (d : Dat) (f : Dat -> Rsd) : (Rd.ok d).okS f = f d := rfl
@[simp] theorem ev_lit_int (i : Int) : evD cl (.lit (.int i)) de = .ok (.int i) := rfl
@[simp] theorem ev_lit_bl (i : Bool) : evD cl (.lit (.bl i)) de = .ok (.bl i) := rfl
@[simp] theorem ev_lit_non : evD cl (.lit .non) de = .ok .non := rfl
@[simp] theorem ev_lit_str (s : List Nat) : evD cl (.lit (.str s)) de = .ok (.str s) := rfl
@[simp] theorem ev_bin (op : Bo) (a b : Ex) : evD cl (.bin op a b) de = (evD cl a de).bind fun x => (evD cl b de).bind fun y => bopD op x y := rfl
@[simp] theorem ev_cmp (op : Co) (a b : Ex) : evD cl (.cmp op a b) de = (evD cl a de).bind fun x => (evD cl b de).bind fun y => copD op x y := rfl
@[simp] theorem ev_unit : evD cl .unit de = .ok (.tup []) := rfl
@[simp] theorem ev_pair (a b : Ex) : evD cl (.pair a b) de = (evD cl a de).bind fun x => (evD cl b de).bind fun y => .ok (.tup (x :: argsD y)) := rfl
@[simp] theorem ev_call (k : Nat) (a : Ex) : evD cl (.call k a) de = (evD cl a de).bind fun x => cl k (argsD x) := rfl
@[simp] theorem ev_blt (b : Blf) (a : Ex) : evD cl (.blt b a) de = (evD cl a de).bind fun x => bltD b (argsD x) := rfl
@[simp] theorem ev_isi (t : Tg) (a : Ex) : evD cl (.isi t a) de = (evD cl a de).bind fun x => .ok (.bl (isD t x)) := rfl
@[simp] theorem ev_idx (a b : Ex) : evD cl (.idx a b) de = (evD cl a de).bind fun x => (evD cl b de).bind fun y => idxD x y := rfl
@[simp] theorem ev_lst (a : Ex) : evD cl (.lst a) de = (evD cl a de).bind fun x => newD (argsD x) := rfl
@[simp] theorem ev_tup (a : Ex) : evD cl (.tup a) de = (evD cl a de).bind fun x => if (argsD x).length <= lim then .ok (.tup (argsD x)) else .no := rfl
@[simp] theorem ev_rng (a b c : Ex) : evD cl (.rng a b c) de = (evD cl a de).bind fun x => (evD cl b de).bind fun y => (evD cl c de).bind fun z => rngD x y z := rfl
@[simp] theorem ev_var0 (d : Dat) (r : DEn) : evD cl (.var 0) (some d :: r) = .ok d := rfl
@[simp] theorem ev_var_s (i : Nat) (d : Option Dat) (r : DEn) : evD cl (.var (i + 1)) (d :: r) = evD cl (.var i) r := rfl
@[simp] theorem ev_neg (a : Ex) : evD cl (.neg a) de = (evD cl a de).bind fun x => match x with
    | .int i => .ok (.int (-i))
    | _ => .no := rfl
@[simp] theorem ev_not (a : Ex) : evD cl (.not a) de = (evD cl a de).bind fun x => match x with
    | .bl b => .ok (.bl (!b))
    | _ => .no := rfl
@[simp] theorem ev_and (a b : Ex) : evD cl (.and a b) de = (evD cl a de).bind fun x => match x with
    | .bl true => evD cl b de
    | .bl false => .ok (.bl false)
    | _ => .no := rfl
@[simp] theorem ev_or (a b : Ex) : evD cl (.or a b) de = (evD cl a de).bind fun x => match x with
    | .bl false => evD cl b de
    | .bl true => .ok (.bl true)
    | _ => .no := rfl
@[simp] theorem ev_chain (p q : Co) (a b c : Ex) : evD cl (.chain p q a b c) de = (evD cl a de).bind fun x => (evD cl b de).bind fun y => (copD p x y).bind fun z => match z with
    | .bl true => (evD cl c de).bind fun u => copD q y u
    | .bl false => .ok (.bl false)
    | _ => .no := rfl
@[simp] theorem ev_ife (c a b : Ex) : evD cl (.ife c a b) de = (evD cl c de).bind fun x => match x with
    | .bl true => evD cl a de
    | .bl false => evD cl b de
    | _ => .no := rfl
@[simp] theorem ev_slL (a lo : Ex) : evD cl (.slL a lo) de = (evD cl a de).bind fun x => (evD cl lo de).bind fun y => match y with
    | .int i => slD x (some i) none
    | _ => .no := rfl
@[simp] theorem ev_slH (a hi : Ex) : evD cl (.slH a hi) de = (evD cl a de).bind fun x => (evD cl hi de).bind fun y => match y with
    | .int i => slD x none (some i)
    | _ => .no := rfl
@[simp] theorem ev_lrng (a : Ex) : evD cl (.lrng a) de = (evD cl a de).bind fun x => match x with
    | .int j => if -lim <= j /\ j <= lim then newD (rngF 0 1 j.toNat) else .no
    | _ => .no := rfl
@[simp] theorem deq_ii (a b : Int) : deq (.int a) (.int b) = decide (a = b) := rfl
@[simp] theorem deq_bb (a b : Bool) : deq (.bl a) (.bl b) = (a == b) := rfl
@[simp] theorem deq_ss (a b : List Nat) : deq (.str a) (.str b) = decide (a = b) := rfl
@[simp] theorem deq_tt (a b : List Dat) : deq (.tup a) (.tup b) = deqL a b := rfl
@[simp] theorem deq_ll (a b : List Dat) : deq (.lst a) (.lst b) = deqL a b := rfl
@[simp] theorem eqOk_int (k : Nat) (a : Int) : eqOk (k + 1) (.int a) = true := rfl
@[simp] theorem eqOk_bl (k : Nat) (a : Bool) : eqOk (k + 1) (.bl a) = true := rfl
@[simp] theorem eqOk_str (k : Nat) (a : List Nat) : eqOk (k + 1) (.str a) = true := rfl
@[simp] theorem eqOk_non (k : Nat) : eqOk (k + 1) .non = true := rfl
@[simp] theorem eqOk_tup (k : Nat) (a : List Dat) : eqOk (k + 1) (.tup a) = eqOkL k a := rfl
@[simp] theorem eqOk_lst (k : Nat) (a : List Dat) : eqOk (k + 1) (.lst a) = eqOkL k a := rfl
@[simp] theorem eqOkL_nil (k : Nat) : eqOkL k [] = true := rfl
@[simp] theorem eqOkL_cons (k : Nat) (d : Dat) (a : List Dat) : eqOkL k (d :: a) = (eqOk k d && eqOkL k a) := rfl
@[simp] theorem deep_is : deep = 11 + 1 := rfl
@[simp] theorem co_lt (i j : Int) : copD .lt (.int i) (.int j) = .ok (.bl (decide (i < j))) := rfl
@[simp] theorem co_le (i j : Int) : copD .le (.int i) (.int j) = .ok (.bl (decide (i <= j))) := rfl
@[simp] theorem co_gt (i j : Int) : copD .gt (.int i) (.int j) = .ok (.bl (decide (j < i))) := rfl
@[simp] theorem co_ge (i j : Int) : copD .ge (.int i) (.int j) = .ok (.bl (decide (j <= i))) := rfl
@[simp] theorem co_eq (i j : Int) : copD .eq (.int i) (.int j) = .ok (.bl (decide (i = j))) := rfl
@[simp] theorem co_ne (i j : Int) : copD .ne (.int i) (.int j) = .ok (.bl (!decide (i = j))) := rfl
@[simp] theorem co_eqb (i j : Bool) : copD .eq (.bl i) (.bl j) = .ok (.bl (i == j)) := rfl
@[simp] theorem co_neb (i j : Bool) : copD .ne (.bl i) (.bl j) = .ok (.bl (!(i == j))) := rfl
@[simp] theorem bo_add (i j : Int) : bopD .add (.int i) (.int j) = .ok (.int (i + j)) := rfl
@[simp] theorem bo_sub (i j : Int) : bopD .sub (.int i) (.int j) = .ok (.int (i - j)) := rfl
theorem bo_mulL (i j : Int) (h : small i = true) : bopD .mul (.int i) (.int j) = .ok (.int (i * j)) := by simp [bopD, h]
theorem bo_mod (i j : Int) (h : 0 < j) : bopD .mod (.int i) (.int j) = .ok (.int (i % j)) := by simp [bopD, h]
@[simp] theorem args_tup (xs : List Dat) : argsD (.tup xs) = xs := rfl
@[simp] theorem len_lst (xs : List Dat) : bltD .len [.lst xs] = .ok (.int xs.length) := rfl
@[simp] theorem len_tup (xs : List Dat) : bltD .len [.tup xs] = .ok (.int xs.length) := rfl
@[simp] theorem len_scr (ns : List Int) : bltD .len [.scr ns] = .ok (.int ns.length) := by simp [bltD, seqD]
@[simp] theorem int_bl (b : Bool) : bltD .int [.bl b] = .ok (.int (b2i b)) := rfl
theorem ix_nat {n i : Nat} (h : i < n) : ix n (i : Int) = some i := by unfold ix; rw [if_pos (by omega), if_pos (by omega)]; simp
@[simp] theorem rngF_len (a c : Int) (n : Nat) : (rngF a c n).length = n := by simp [rngF]
@[simp] theorem flatL_rng (a c : Int) : ∀ (n : Nat), flatL (rngF a c n) = true := by
  intro n
  unfold rngF
  generalize List.range n = l
  induction l with
  | nil => rfl
  | cons x l ih => simp [flatL, flat, ih]
@[simp] theorem flat_tup (xs : List Dat) : flat (.tup xs) = flatL xs := by rw [flat]
@[simp] theorem flat_lst (xs : List Dat) : flat (.lst xs) = false := by rw [flat]
@[simp] theorem flat_int (i : Int) : flat (.int i) = true := by rw [flat]
@[simp] theorem flat_bl (i : Bool) : flat (.bl i) = true := by rw [flat]
@[simp] theorem flat_non : flat .non = true := by rw [flat]
@[simp] theorem flat_str (s : List Nat) : flat (.str s) = true := by rw [flat]
@[simp] theorem flat_scr (s : List Int) : flat (.scr s) = true := by rw [flat]
@[simp] theorem flatL_nil : flatL [] = true := by rw [flatL]
@[simp] theorem flatL_cons (d : Dat) (ds : List Dat) : flatL (d :: ds) = (flat d && flatL ds) := by rw [flatL]
@[simp] theorem flatL_ints (l : List Int) : flatL (l.map Dat.int) = true := by
  induction l with
  | nil => rfl
  | cons x l ih => simp [ih]
@[simp] theorem it_tup (xs : List Dat) : itD (.tup xs) = some xs := rfl
@[simp] theorem it_scr (xs : List Int) : itD (.scr xs) = some (xs.map .int) := rfl
@[simp] theorem ex_skip : exD lev cl .skip de lv = .next de lv := rfl
@[simp] theorem ex_ret (e : Ex) : exD lev cl (.ret e) de lv = (evD cl e de).bindS fun d => .ret d (lvR lev e d lv) := rfl
@[simp] theorem ex_asg (i : Nat) (e : Ex) : exD lev cl (.asg i e) de lv = (evD cl e de).bindS fun d => asgD lev i e d de lv := rfl
@[simp] theorem ex_ite (c : Ex) (a b : Sm) : exD lev cl (.ite c a b) de lv = (evD cl c de).bindS fun x => match x with
    | .bl true => exD lev cl a de lv
    | .bl false => exD lev cl b de lv
    | _ => .no := rfl
end
namespace Lib
section
variable {lev : Nat -> Lv} {cl : Nat -> List Dat -> Rd} {k : Nat}
def isInt : Dat -> Bool
  | .int _ => true
  | _ => false
end
end Lib
section
variable (lev : Nat -> Lv) (cl : Nat -> List Dat -> Rd) (de : DEn) (lv : List Lv)
@[simp] theorem ex_appV (j : Nat) (e : Ex) : exD lev cl (.expr (.meth .append (.var j) (.pair e .unit))) de lv = (evD cl e de).okS fun d => match lsAt de j with
      | some ds => if ds.length < lim then match giveE lev e d j de lv with
        | some (de1, lv1) => .next (de1.set j (some (.lst (ds ++ [d])))) lv1
        | none => .no
        else .no
      | none => .no := rfl
@[simp] theorem ex_revV (j : Nat) : exD lev cl (.expr (.meth .reverse (.var j) .unit)) de lv = match lsAt de j with
      | some ds => if owned lv j then .next (de.set j (some (.lst ds.reverse))) lv else .no
      | none => .no := rfl
def Rsd.then (r : Rsd) (f : DEn -> List Lv -> Rsd) : Rsd := match r with
  | .next d l => f d l
  | r => r
@[simp] theorem then_next (d : DEn) (l : List Lv) (f : DEn -> List Lv -> Rsd) : (Rsd.next d l).then f = f d l := rfl
@[simp] theorem then_ret (d : Dat) (l : Lv) (f : DEn -> List Lv -> Rsd) : (Rsd.ret d l).then f = .ret d l := rfl
theorem seq_then {a b : Sm} (h : viewSw a b = none) : exD lev cl (.seq a b) de lv = (exD lev cl a de lv).then (exD lev cl b) := by
  rw [exD_seq, h]; cases exD lev cl a de lv <;> rfl
theorem view_seq (a : Sm) (c d : Sm) : viewSw a (.seq c d) = none := rfl
@[simp] theorem sq_seq (a : Sm) (c d : Sm) : exD lev cl (.seq a (.seq c d)) de lv = (exD lev cl a de lv).then (exD lev cl (.seq c d)) := seq_then lev cl de lv (view_seq a c d)
theorem view_ret (a : Sm) (e : Ex) : viewSw a (.ret e) = none := rfl
@[simp] theorem sq_ret (a : Sm) (e : Ex) : exD lev cl (.seq a (.ret e)) de lv = (exD lev cl a de lv).then (exD lev cl (.ret e)) := seq_then lev cl de lv (view_ret a e)
theorem view_retN (a : Sm)  : viewSw a .retN = none := rfl
@[simp] theorem sq_retN (a : Sm)  : exD lev cl (.seq a .retN) de lv = (exD lev cl a de lv).then (exD lev cl .retN) := seq_then lev cl de lv (view_retN a)
theorem view_ite (a : Sm) (c : Ex) (x y : Sm) : viewSw a (.ite c x y) = none := rfl
@[simp] theorem sq_ite (a : Sm) (c : Ex) (x y : Sm) : exD lev cl (.seq a (.ite c x y)) de lv = (exD lev cl a de lv).then (exD lev cl (.ite c x y)) := seq_then lev cl de lv (view_ite a c x y)
theorem view_forv (a : Sm) (i : Nat) (e : Ex) (x : Sm) : viewSw a (.forv i e x) = none := rfl
@[simp] theorem sq_forv (a : Sm) (i : Nat) (e : Ex) (x : Sm) : exD lev cl (.seq a (.forv i e x)) de lv = (exD lev cl a de lv).then (exD lev cl (.forv i e x)) := seq_then lev cl de lv (view_forv a i e x)
theorem view_fort (a : Sm) (i j : Nat) (e : Ex) (x : Sm) : viewSw a (.fort i j e x) = none := rfl
@[simp] theorem sq_fort (a : Sm) (i j : Nat) (e : Ex) (x : Sm) : exD lev cl (.seq a (.fort i j e x)) de lv = (exD lev cl a de lv).then (exD lev cl (.fort i j e x)) := seq_then lev cl de lv (view_fort a i j e x)
theorem view_while (a : Sm) (e : Ex) (x : Sm) : viewSw a (.while e x) = none := rfl
@[simp] theorem sq_while (a : Sm) (e : Ex) (x : Sm) : exD lev cl (.seq a (.while e x)) de lv = (exD lev cl a de lv).then (exD lev cl (.while e x)) := seq_then lev cl de lv (view_while a e x)
theorem view_asg (a : Sm) (i : Nat) (e : Ex) : viewSw a (.asg i e) = none := rfl
@[simp] theorem sq_asg (a : Sm) (i : Nat) (e : Ex) : exD lev cl (.seq a (.asg i e)) de lv = (exD lev cl a de lv).then (exD lev cl (.asg i e)) := seq_then lev cl de lv (view_asg a i e)
theorem view_asgS (a : Sm) (o i e : Ex) : viewSw a (.asgS o i e) = none := rfl
@[simp] theorem sq_asgS (a : Sm) (o i e : Ex) : exD lev cl (.seq a (.asgS o i e)) de lv = (exD lev cl a de lv).then (exD lev cl (.asgS o i e)) := seq_then lev cl de lv (view_asgS a o i e)
theorem view_aug (a : Sm) (i : Nat) (op : Bo) (e : Ex) : viewSw a (.aug i op e) = none := rfl
@[simp] theorem sq_aug (a : Sm) (i : Nat) (op : Bo) (e : Ex) : exD lev cl (.seq a (.aug i op e)) de lv = (exD lev cl a de lv).then (exD lev cl (.aug i op e)) := seq_then lev cl de lv (view_aug a i op e)
theorem view_augS (a : Sm) (o i : Ex) (op : Bo) (e : Ex) : viewSw a (.augS o i op e) = none := rfl
@[simp] theorem sq_augS (a : Sm) (o i : Ex) (op : Bo) (e : Ex) : exD lev cl (.seq a (.augS o i op e)) de lv = (exD lev cl a de lv).then (exD lev cl (.augS o i op e)) := seq_then lev cl de lv (view_augS a o i op e)
theorem view_expr (a : Sm) (e : Ex) : viewSw a (.expr e) = none := rfl
@[simp] theorem sq_expr (a : Sm) (e : Ex) : exD lev cl (.seq a (.expr e)) de lv = (exD lev cl a de lv).then (exD lev cl (.expr e)) := seq_then lev cl de lv (view_expr a e)
theorem view_skip (a : Sm)  : viewSw a .skip = none := rfl
@[simp] theorem sq_skip (a : Sm)  : exD lev cl (.seq a .skip) de lv = (exD lev cl a de lv).then (exD lev cl .skip) := seq_then lev cl de lv (view_skip a)
theorem view_brk (a : Sm)  : viewSw a .brk = none := rfl
@[simp] theorem sq_brk (a : Sm)  : exD lev cl (.seq a .brk) de lv = (exD lev cl a de lv).then (exD lev cl .brk) := seq_then lev cl de lv (view_brk a)
theorem view_cont (a : Sm)  : viewSw a .cont = none := rfl
@[simp] theorem sq_cont (a : Sm)  : exD lev cl (.seq a .cont) de lv = (exD lev cl a de lv).then (exD lev cl .cont) := seq_then lev cl de lv (view_cont a)
theorem view_never (a : Sm)  : viewSw a .never = none := rfl
@[simp] theorem sq_never (a : Sm)  : exD lev cl (.seq a .never) de lv = (exD lev cl a de lv).then (exD lev cl .never) := seq_then lev cl de lv (view_never a)
end
namespace Lib
section
variable {lev : Nat -> Lv} {cl : Nat -> List Dat -> Rd} {k : Nat}
def row (r : List Int) : Dat := .lst (r.map .int)
end
end Lib
namespace Lib
section
variable {lev : Nat -> Lv} {cl : Nat -> List Dat -> Rd} {k : Nat}
def S (R : List (List Int)) (r c : Nat) : Int := ((R.take r).map (fun x => x.getD c 0)).sum
end
end Lib
namespace Lib
section
variable {lev : Nat -> Lv} {cl : Nat -> List Dat -> Rd} {k : Nat}
def fCell : Fn := ⟨2, 2, (.seq (.ite (.cmp .lt (.var 1) (.blt .len (.pair (.var 0) .unit))) (.ret (.idx (.var 0) (.var 1))) .skip) (.ret (.bin .add (.bin .mul (.lit (.int 2)) (.var 1)) (.lit (.int 1)))))⟩
theorem run_cell (ns : List Int) (i : Nat) : ∃ c : Int, runD lev cl k fCell [.scr ns, .int i] = .ok (.int c) := by
  by_cases h : i < ns.length
  . refine ⟨ns[i], ?_⟩
    have h1 : idxD (.scr ns) (.int (i : Int)) = .ok (.int ns[i]) := by simp [idxD, seqD, ix_nat h, h]
    simp [runD, fCell, startD, startL, endD, lvR, h, h1]
  . refine ⟨2 * i + 1, ?_⟩
    simp [runD, fCell, startD, startL, endD, lvR, h, bo_mulL 2 i (by decide)]
end
end Lib
end Vl
end Mini
namespace R02
open Mini
def T : List Fn := [f0, f1, f2, f3, f4, f5, f6, f7, f8, f9, f10]
open Vl Vl.Lib
def lev0 : Nat -> Lv := fun k => if k = 5 \/ k = 6 then .full else .no
abbrev CD (d : Nat) := callD lev0 T d
theorem c_run {d k : Nat} {f : Fn} (h : T[k]? = some f) (ds : List Dat) : CD (d + 1) k ds = runD lev0 (CD d) k f ds := by
  show callD lev0 T (d + 1) k ds = _
  unfold callD
  rw [h]
theorem H7 (d : Nat) (ns : List Int) (i : Nat) : ∃ c : Int, CD (d + 1) 7 [.scr ns, .int i] = .ok (.int c) := by rw [c_run (f := fCell) rfl]; exact run_cell ns i
def rest : Sm := match f10.body with
  | .seq _ b => b
  | s => s
def szE : Ex := .bin .add (.lit (.int 1)) (.bin .mod (.call 7 (.pair (.var 0) (.pair (.lit (.int 0)) .unit))) (.lit (.int 12)))
def retB : Rsd -> Bool
  | .ret (.bl true) _ => true
  | _ => false
theorem retB_of {r : Rsd} {k : Lv} (h : retB r = true) : endD k r = .ok (.bl true) := by
  unfold retB at h
  split at h
  . simp [endD]
  . cases h
def go (ns : List Int) (n : Int) : Rsd := (asgD lev0 1 szE (.int n) [some (.scr ns), none, none, none, none, none, none, none, none, none] [lvF (.scr ns), .full, .full, .full, .full, .full, .full, .full, .full, .full]).then (exD lev0 (CD 8) rest)
theorem g1 (ns : List Int) : retB (go ns 1) = true := by kernel_rfl
theorem g2 (ns : List Int) : retB (go ns 2) = true := by kernel_rfl
theorem g3 (ns : List Int) : retB (go ns 3) = true := by kernel_rfl
theorem g4 (ns : List Int) : retB (go ns 4) = true := by kernel_rfl
theorem g5 (ns : List Int) : retB (go ns 5) = true := by kernel_rfl
theorem g6 (ns : List Int) : retB (go ns 6) = true := by kernel_rfl
theorem g7 (ns : List Int) : retB (go ns 7) = true := by kernel_rfl
theorem g8 (ns : List Int) : retB (go ns 8) = true := by kernel_rfl
theorem g9 (ns : List Int) : retB (go ns 9) = true := by kernel_rfl
theorem g10 (ns : List Int) : retB (go ns 10) = true := by kernel_rfl
theorem g11 (ns : List Int) : retB (go ns 11) = true := by kernel_rfl
theorem g12 (ns : List Int) : retB (go ns 12) = true := by kernel_rfl
theorem go_all (ns : List Int) {n : Int} (h : 1 <= n /\ n <= 12) : retB (go ns n) = true := by
  rcases (by omega : n = 1 \/ n = 2 \/ n = 3 \/ n = 4 \/ n = 5 \/ n = 6 \/ n = 7 \/ n = 8 \/ n = 9 \/ n = 10 \/ n = 11 \/ n = 12) with rfl | rfl | rfl | rfl | rfl | rfl | rfl | rfl | rfl | rfl | rfl | rfl
  . exact g1 ns
  . exact g2 ns
  . exact g3 ns
  . exact g4 ns
  . exact g5 ns
  . exact g6 ns
  . exact g7 ns
  . exact g8 ns
  . exact g9 ns
  . exact g10 ns
  . exact g11 ns
  . exact g12 ns
theorem law_true (ns : List Int) : CD 9 10 [.scr ns] = .ok (.bl true) := by
  rw [c_run (d := 8) (f := f10) rfl]
  obtain ⟨c, h⟩ := H7 7 ns 0
  have h' : CD 8 7 [.scr ns, .int 0] = .ok (.int c) := h
  have em : bopD .mod (.int c) (.int 12) = .ok (.int (c % 12)) := bo_mod _ _ (by decide)
  have e : evD (CD 8) szE [some (.scr ns), none, none, none, none, none, none, none, none, none] = .ok (.int (1 + c % 12)) := by
    simp only [szE, ev_bin, ev_call, ev_pair, ev_unit, ev_var0, ev_lit_int, Rd.bind_ok, args_tup, h', em, bo_add]
  have es : exD lev0 (CD 8) f10.body [some (.scr ns), none, none, none, none, none, none, none, none, none] [lvF (.scr ns), .full, .full, .full, .full, .full, .full, .full, .full, .full] = go ns (1 + c % 12) := by
    show exD lev0 (CD 8) (.seq (.asg 1 szE) rest) _ _ = _
    rw [seq_then lev0 (CD 8) _ _ rfl, ex_asg, e]
    rfl
  unfold runD
  rw [if_pos (by rfl)]
  show endD _ (exD lev0 (CD 8) f10.body [some (.scr ns), none, none, none, none, none, none, none, none, none] [lvF (.scr ns), .full, .full, .full, .full, .full, .full, .full, .full, .full]) = _
  rw [es]
  exact retB_of (go_all ns (by omega))
theorem pure (ns : List Int) (_ : ns.length <= 63) : ∃ m, callN (D.map (·.fn)) 9 10 [.rol (ns.map Wd.int)] [] = .ok (.bl true) m := law_val lev0 T 9 10 ns (law_true ns)
end R02
open PySem PySem.W PyProof.Rows
set_option maxRecDepth 100000 in
set_option maxHeartbeats 0 in
theorem PySem.Challenge.cw_loopgyre_k02_small_squares_holds : PySem.Challenge.rw_loopgyre_k02_small_squares.Holds := by
  w_on; o_law; z_head; (case hw => w_witness2)
  k_fill
  refine Mini.walkZ (fun _ => rfl) ?_
  refine Mini.walkN (l := PySem.Challenge.rw_loopgyre_k02_small_squares) (D := R02.D) (C := R02.C) (k := 9) (i := 10) (kw := 8) (ks := 9) (dl := R02.d10) (dw := R02.d8) (ds := R02.d9) (x := "_law_script") (n := 63) rfl (by decide) rfl ⟨rfl, by decide, by decide⟩ (fun w h Y => Y) rfl R02.okAll R02.bnd rfl rfl R02.fw R02.fs R02.fz rfl rfl rfl ?F R02.pure
  case F =>
    intro w mg fa h KX G hmg
    refine' R02.mk KX G ?_ ?_ ?_ ?_ ?_ ?_ ?_ ?_ ?_ ?_ ?_ ?xqe0 ?xqz
    all_goals try ((refine' R02.dk KX G ?g ?l ?c ?k); (case g => k_is); (case l => k_is); (case c => k_is); (case k => k_is))
    (case xqz => refine R02.zk ?_ ?_ ?_ ?_ ?_ ?_ ?_ ?_ ?_ ?_ ?_ ?_ ?_ ?_ ?_ ?_ <;> k_is)
    (case xqe0 => k_is)
