import PyProof.Rows.All
import Wide.All
import OpenK.AllK
import Wide.FinOn
import Lean
import PyProof.EqAt
import PyProof.EqKinds
import PyProof.NeKinds
import PyProof.TupleCall
import OpenK.KOwn
import PyProof.WalkInts
import KE.KIsAll
import KE.RegKIsAll
import PyProof.ExcAttrAll.ValueError
import OpenK.KMake
import PyProof.ExcInit
import PySem.Challenge.RW_loopgyre_k03_no_sizes_no_roads
set_option Elab.async false
set_option linter.all false
set_option maxRecDepth 100000
set_option genSizeOf false
set_option tactic.hygienic false
set_option bootstrap.genMatcherCode false
set_option compiler.extract_closed false
set_option backward.eqns.nonrecursive false
set_option backward.eqns.deepRecursiveSplit false
noncomputable section
namespace L2
open PySem PySem.Spec PyProof.Rows
abbrev Key:=Sum Int Str
noncomputable def keyIs:Key->Value->Bool
 | .inl k,v=>Value.isInt k v
 | .inr x,v=>Value.isStrOf x v
noncomputable def keyH (w:World):Key->Int
 | .inl k=>hashInt k
 | .inr x=>hashStr w x
theorem keyIs_shape:∀ {k:Key}{v:Value},keyIs k v=true->(∃ i t,k=Sum.inl i/\v=Value.int i t)\/(∃ x t,k=Sum.inr x/\v=Value.str x t)
 | .inl i,v,h=>by
  obtain ⟨t,e⟩:=Value.isInt_shape (k:=i) (v:=v) h
  exact .inl ⟨i,t,rfl,e⟩
 | .inr x,v,h=>by
  obtain ⟨t,e⟩:=Value.isStrOf_shape (x:=x) (v:=v) h
  exact .inr ⟨x,t,rfl,e⟩
theorem key_ll (a b:Int):decide ((Sum.inl a:Key)=Sum.inl b)=(a == b):=by
 by_cases e:a=b
 ·subst e;simp
 ·have h:¬ (Sum.inl a:Key)=Sum.inl b:=fun q=>e (Sum.inl.inj q)
  rw[decide_eq_false h]
  exact (beq_eq_false_iff_ne.mpr e).symm
theorem key_rr (a b:Str):decide ((Sum.inr a:Key)=Sum.inr b)=decide (a=b):=by
 by_cases e:a=b
 ·subst e;simp
 ·have h:¬ (Sum.inr a:Key)=Sum.inr b:=fun q=>e (Sum.inr.inj q)
  rw[decide_eq_false h,decide_eq_false e]
theorem key_lr (a:Int) (b:Str):decide ((Sum.inl a:Key)=Sum.inr b)=false:=decide_eq_false (fun q=>nomatch q)
theorem key_rl (a:Str) (b:Int):decide ((Sum.inr a:Key)=Sum.inl b)=false:=decide_eq_false (fun q=>nomatch q)
noncomputable def mixKind (prog:Program) (w:World):PySem.KeyKind prog w Key where
 is:=keyIs
 hash:=keyH w
 inj:=fun v a b ha hb=>by
  rcases keyIs_shape ha with ⟨i,t,rfl,rfl⟩ | ⟨x,t,rfl,rfl⟩
  ·rcases keyIs_shape hb with ⟨j,u,rfl,e⟩ | ⟨y,u,rfl,e⟩
   ·injection e with e1 _;rw[e1]
   ·exact nomatch e
  ·rcases keyIs_shape hb with ⟨j,u,rfl,e⟩ | ⟨y,u,rfl,e⟩
   ·exact nomatch e
   ·injection e with e1 _;rw[e1]
 byValue:=fun k v h=>by
  rcases keyIs_shape h with ⟨i,t,rfl,rfl⟩ | ⟨x,t,rfl,rfl⟩ <;> rfl
 pyHash:=fun hv h=>by
  rcases keyIs_shape hv with ⟨i,t,rfl,rfl⟩ | ⟨x,t,rfl,rfl⟩
  ·exact wpAny_pyHash_int h
  ·exact wpAny_pyHash_str h
 eqBool:=fun hu hv h=>by
  rcases keyIs_shape hu with ⟨i,t,rfl,rfl⟩ | ⟨x,t,rfl,rfl⟩
  ·rcases keyIs_shape hv with ⟨j,u,rfl,rfl⟩ | ⟨y,u,rfl,rfl⟩
   ·rw[key_ll] at h;exact wpAny_eqBool_int h
   ·rw[key_lr] at h;exact SeqAt.EqAt.int_str i t y u _ _ _ _ h
  ·rcases keyIs_shape hv with ⟨j,u,rfl,rfl⟩ | ⟨y,u,rfl,rfl⟩
   ·rw[key_rl] at h;exact SeqAt.EqAt.str_int x t j u _ _ _ _ h
   ·rw[key_rr] at h;exact wpAny_eqBool_str h
 «strs»:=fun k x t v h=>by
  rcases keyIs_shape h with ⟨i,u,rfl,e⟩ | ⟨y,u,rfl,e⟩
  ·exact nomatch e
  ·injection e with e1 _
   subst e1
   cases v <;> rfl
end L2
namespace L2
open PySem PySem.Spec PyProof.Rows
set_option genInjectivity false in
inductive V where
 | non | bl (b:Bool) | int (i:Int) | str (x:Str) | byt (b:Array UInt8) | flt (b:UInt64) | ref (a:Addr) | ty (n:String)
 deriving DecidableEq
def RelV:V->Value->Prop
 | .non,u=>u=Value.none
 | .bl b,u=>u=Value.bool b
 | .int i,u=>∃ t,u=Value.int i t
 | .str x,u=>∃ t,u=Value.str x t
 | .byt b,u=>∃ t,u=Value.bytes b t
 | .flt b,u=>∃ t,u=Value.float b t
 | .ref a,u=>u=Value.ref a
 | .ty n,u=>u=Value.type n
abbrev Vals:List V->List Value->Prop:=Paired RelV
theorem Vals.length {xs:List V}{us:List Value}(r:Vals xs us):xs.length=us.length:=Paired.length r
theorem Vals.get:∀ {xs:List V}{us:List Value}{i:Nat}{x:V},Vals xs us->xs[i]?=some x->∃ u,us[i]?=some u/\RelV x u
 | _,_,_,_,.nil,e=>by simp at e
 | _,_,0,_,.cons r _,e=>by simp at e;subst e;exact ⟨_,rfl,r⟩
 | _,_,i+1,x,.cons _ t,e=>by
  obtain ⟨u,h1,h2⟩:=Vals.get (i:=i) (x:=x) t (by simpa using e)
  exact ⟨u,by simpa using h1,h2⟩
theorem Vals.append:∀ {xs ys:List V}{us ws:List Value},Vals xs us->Vals ys ws->Vals (xs++ys) (us++ws)
 | _,_,_,_,.nil,s=>s
 | _,_,_,_,.cons r t,s=>.cons r (Vals.append t s)
def RelO:Option V->Option Value->Prop
 | some v,some u=>RelV v u
 | none,none=>True
 | _,_=>False
def KV {κ:Type}:List (κ × V)->List (κ × Value)->Prop:=Paired fun (p:κ × V) (q:κ × Value)=>p.1=q.1/\RelV p.2 q.2
noncomputable def kV:Key->V
 | .inl i=>.int i
 | .inr x=>.str x
set_option genInjectivity false in
inductive HO where
 /-- a list -/
 | lst (xs:List V)
 /-- a tuple (never changes) -/
 | tup (xs:List V)
 /-- a dict whose keys are ints and texts;one whose keys are tuples of ints and texts (the empty one is both) -/
 | dK (kvs:List (Key × V)) | dT (kvs:List (List Key × V))
 /-- a set of ints: its members,its size -/
 | set (S:Int->Bool) (n:Nat)
 /-- an instance of the class at C,its dict at dx,its attributes -/
 | ins (C dx:Addr) (fs:List (Str × V))
 /-- the dict of the instance at x -/
 | own (x:Addr)
 /-- the dict of an exception -/
 | xd (fs:List (Str × V))
 /-- a bound method,f of x -/
 | met (f x:Addr)
 /-- a range object lo,lo+1,.. below hi -/
 | rng (lo hi:Int)
 /-- a thing that is known to the object (the script;a dict while a loop walks it): read,never written while it is so -/
 | frz (o:Obj) (u:HO)
 /-- a code object's table -/
 | tbl (ps:Array Value)
 /-- any other thing,by what is true of its one object (a def of one's own: SetO a S n:=HO.ext fun h=>..) -/
 | ext (φ:Heap->Prop)
abbrev Hp:=Addr->Option HO
noncomputable def upd (H:Hp) (a:Addr) (o:HO):Hp:=fun b=>if b=a then some o else H b
theorem upd_same {H:Hp}{a:Addr}{o:HO}:upd H a o a=some o:=by unfold upd;rw[if_pos rfl]
theorem upd_ne {H:Hp}{a b:Addr}{o:HO}(h:b ≠ a):upd H a o b=H b:=by unfold upd;rw[if_neg h]
theorem ne_of_none {H:Hp}{a b:Addr}{o:HO}(h:H a=some o) (h':H b=none):a ≠ b:=by
 intro e;subst e;rw[h] at h';cases h'
section
variable (P : Program) (w : World)
def ObjOk (H:Hp) (h:Heap) (a:Addr):HO->Prop
 | .lst xs=>xs.length<=sizeLine/\∃ (its:List Value) (n:Nat),Vals xs its/\h.get? a=some { cls:=.type "list",data:=.seq its.toArray n }
 | .tup xs=>xs.length<=sizeLine/\∃ its:List Value,Vals xs its/\IsTup h a its.toArray
 | .dK kvs=>kvs.length<=sizeLine/\(a == sysModules)=false/\∃ vs,KV kvs vs/\h.DictOf (mixKind P w) a vs
 | .dT kvs=>kvs.length<=sizeLine/\(a == sysModules)=false/\∃ xs:List (List Key × Addr × Value),
   Paired (fun (p:List Key × V) (q:List Key × Addr × Value)=>p.1=q.1/\H q.2.1=some (.tup (p.1.map kV))/\RelV p.2 q.2.2) kvs xs /\
   ∃ o es ep,h.get? a=some o/\o.ExactDict/\o.data=.dict es ep/\es.toList=xs.map (entryOfKey (tupleKind (mixKind P w)))/\(xs.map (·.1)).Nodup
 | .set S n=>h.SetOf (intKind P w) a S n
 | .ins C dx fs=>H dx=some (.own a)/\fs.length<=1000/\dx ≠ a/\h.get? a=some (PySem.W.instObj C dx) /\
   ∃ mA,h.Ns1 dx mA/\(∀ f,RelO (fs.lookup f) (mA f))/\PySem.Within mA (fs.map (·.1))
 | .own _=>∃ o,h.get? a=some o
 | .xd fs=>∃ mA,h.Ns1 a mA/\∀ f,RelO (fs.lookup f) (mA f)
 | .rng lo hi=>∃ t u v,h.get? a=some { cls:=.type "range",data:=.fields #[.int lo t,.int hi u,.int 1 v] }
 | .frz o u=>h.get? a=some o/\ObjOk H h a u
 | .tbl ps=>h.get? a=some { cls:=.none,data:=.fields ps }
 | .met f x=>h.get? a=some (PySem.W.methodObj (.ref f) (.ref x))
 | .ext φ=>φ h/\(∃ o,h.get? a=some o)/\∀ h1 h2:Heap,φ h1->(∀ o,h1.get? a=some o->h2.get? a=some o)->φ h2
def HOk (H:Hp) (h:Heap):Prop:=∀ a o,H a=some o->ObjOk P w H h a o
end
section
variable {P : Program} {w : World} {H H' : Hp} {h h' : Heap} {a : Addr} {o : HO}
theorem ObjOk.lt (x:ObjOk P w H h a o):a < h.objs.size:=by
 cases o with
 | lst xs=>obtain ⟨_,_,_,_,e⟩:=x;exact Heap.lt_size e
 | tup xs=>obtain ⟨_,_,_,p⟩:=x;exact p.lt
 | dK kvs=>obtain ⟨_,_,_,_,o,_,_,e,_⟩:=x;exact Heap.lt_size e
 | dT kvs=>obtain ⟨_,_,_,_,o,_,_,e,_⟩:=x;exact Heap.lt_size e
 | set S n=>obtain ⟨o,_,_,_,e,_⟩:=x;exact Heap.lt_size e
 | ins C dx fs=>obtain ⟨_,_,_,e,_⟩:=x;exact Heap.lt_size e
 | own y=>obtain ⟨_,e⟩:=x;exact Heap.lt_size e
 | xd fs=>obtain ⟨_,⟨_,_,_,e,_⟩,_⟩:=x;exact Heap.lt_size e
 | rng lo hi=>obtain ⟨_,_,_,e⟩:=x;exact Heap.lt_size e
 | frz ob u=>obtain ⟨e,_⟩:=x;exact Heap.lt_size e
 | tbl ps=>exact Heap.lt_size (show h.get? a=some _ from x)
 | met f y=>exact Heap.lt_size (show h.get? a=some _ from x)
 | ext φ=>obtain ⟨_,⟨_,e⟩,_⟩:=x;exact Heap.lt_size e
theorem Paired.mapP {α β:Type}{F G:α->β->Prop}:∀ {l₁:List α}{l₂:List β},Paired F l₁ l₂->(∀ a b,F a b->G a b)->Paired G l₁ l₂
 | _,_,.nil,_=>.nil
 | _,_,.cons r t,f=>.cons (f _ _ r) (Paired.mapP t f)
theorem ObjOk.stay (x:ObjOk P w H h a o) (k:∀ b u,(b=a\/H b=some (.own a))->h.get? b=some u->h'.get? b=some u)
  (ho:∀ b,H b=some (.own a)->H' b=some (.own a)) (ht:∀ b xs,H b=some (.tup xs)->H' b=some (.tup xs)):ObjOk P w H' h' a o:=by
 induction o with
 | lst xs=>obtain ⟨z,its,n,r,e⟩:=x;exact ⟨z,its,n,r,k _ _ (.inl rfl) e⟩
 | tup xs=>obtain ⟨z,its,r,ob,e,c⟩:=x;exact ⟨z,its,r,ob,k _ _ (.inl rfl) e,c⟩
 | dK kvs=>obtain ⟨z,y,vs,r,ob,es,ep,e,c⟩:=x;exact ⟨z,y,vs,r,ob,es,ep,k _ _ (.inl rfl) e,c⟩
 | dT kvs =>
  obtain ⟨z,y,xs,r,ob,es,ep,e,c⟩:=x
  exact ⟨z,y,xs,Paired.mapP r fun p q z=>⟨z.1,ht _ _ z.2.1,z.2.2⟩,ob,es,ep,k _ _ (.inl rfl) e,c⟩
 | set S n=>obtain ⟨ob,es,ep,t,e,c⟩:=x;exact ⟨ob,es,ep,t,k _ _ (.inl rfl) e,c⟩
 | ins C dx fs =>
  obtain ⟨d,z,ne,e,mA,⟨od,es,ep,e2,c⟩,r⟩:=x
  exact ⟨ho _ d,z,ne,k _ _ (.inl rfl) e,mA,⟨od,es,ep,k _ _ (.inr d) e2,c⟩,r⟩
 | own y=>obtain ⟨ob,e⟩:=x;exact ⟨ob,k _ _ (.inl rfl) e⟩
 | xd fs=>obtain ⟨mA,⟨od,es,ep,e,c⟩,r⟩:=x;exact ⟨mA,⟨od,es,ep,k _ _ (.inl rfl) e,c⟩,r⟩
 | rng lo hi=>obtain ⟨t,u,v,e⟩:=x;exact ⟨t,u,v,k _ _ (.inl rfl) e⟩
 | frz ob u ih=>obtain ⟨e,q⟩:=x;exact ⟨k _ _ (.inl rfl) e,ih q⟩
 | tbl ps =>
  have e:h.get? a=some { cls:=.none,data:=.fields ps }:=x
  show h'.get? a=some { cls:=.none,data:=.fields ps }
  exact k a _ (.inl rfl) e
 | met f y =>
  have e:h.get? a=some (PySem.W.methodObj (.ref f) (.ref y)):=x
  show h'.get? a=some (PySem.W.methodObj (.ref f) (.ref y))
  exact k a _ (.inl rfl) e
 | ext φ=>obtain ⟨p,⟨o,e⟩,st⟩:=x;exact ⟨st _ _ p fun o q=>k _ _ (.inl rfl) q,⟨o,k _ _ (.inl rfl) e⟩,st⟩
theorem HOk.lt (x:HOk P w H h) (e:H a=some o):a < h.objs.size:=(x a o e).lt
theorem HOk.fresh (x:HOk P w H h) (e:h.objs.size<=a):H a=none:=by
 cases q:H a with
 | none=>rfl
 | some u=>exact absurd (Nat.lt_of_lt_of_le (x.lt q) e) (Nat.lt_irrefl _)
theorem HOk.kept (x:HOk P w H h) (k:∀ b u,h.get? b=some u->h'.get? b=some u):HOk P w H h':=fun a o e =>
 (x a o e).stay (fun b u _ q=>k b u q) (fun _ q=>q) fun _ _ q=>q
theorem HOk.laid (x:HOk P w H h) (k:∀ b u,h.get? b=some u->h'.get? b=some u) (hp:h.objs.size<=a) (new:ObjOk P w (upd H a o) h' a o):HOk P w (upd H a o) h':=fun b u e=>by
 have hn:=x.fresh hp
 by_cases hb:b=a
 ·subst hb;rw[upd_same] at e;cases e;exact new
 ·rw[upd_ne hb] at e
  exact (x b u e).stay (fun c v _ q=>k c v q) (fun c q=>by rw[upd_ne (ne_of_none q hn)];exact q) fun c xs q=>by rw[upd_ne (ne_of_none q hn)];exact q
end
def Rd (H:Hp) (a:Addr) (u:HO):Prop:=H a=some u\/∃ o,H a=some (.frz o u)
theorem Rd.ok {P:Program}{w:World}{H:Hp}{h:Heap}{a:Addr}{u:HO}(r:Rd H a u) (x:HOk P w H h):ObjOk P w H h a u:=by
 rcases r with r | ⟨o,r⟩
 ·exact x a u r
 ·obtain ⟨_,q⟩:=x a _ r
  exact q
def Mut:Option HO->Prop
 | some (.lst _)=>True
 | some (.dK _)=>True
 | some (.dT _)=>True
 | some (.set _ _)=>True
 | some (.ins _ _ _)=>True
 | some (.ext _)=>True
 | _=>False
section
variable {P : Program} {w : World} {H : Hp} {h h' : Heap} {x e : Addr} {o' : HO}
theorem HOk.write (ok:HOk P w H h) (mu:Mut (H x)) (he:e=x\/H e=some (.own x)) (k:∀ b u,b ≠ e->h.get? b=some u->h'.get? b=some u) (heo:∃ u,h'.get? e=some u)
  (new:ObjOk P w (upd H x o') h' x o'):HOk P w (upd H x o') h':=fun b u q=>by
 have nown:∀ c y,H c=some (.own y)->c ≠ x:=fun c y r z=>by subst z;rw[r] at mu;exact mu
 have ntup:∀ c xs,H c=some (.tup xs)->c ≠ x:=fun c xs r z=>by subst z;rw[r] at mu;exact mu
 by_cases hb:b=x
 ·subst hb;rw[upd_same] at q;cases q;exact new
 ·rw[upd_ne hb] at q
  by_cases hbe:b=e
  ·have q':H b=some (.own x):=by
    rcases he with z | z
    ·exact absurd (hbe.trans z) hb
    ·rw[hbe];exact z
   rw[q] at q';cases q'
   obtain ⟨v,hv⟩:=heo
   exact ⟨v,by rw[hbe];exact hv⟩
  ·refine (ok b u q).stay (fun c v hc r=>k c v ?_ r) (fun c r=>by rw[upd_ne (nown c b r)];exact r) fun c xs r=>by rw[upd_ne (ntup c xs r)];exact r
   rcases hc with rfl | hc
   ·exact hbe
   ·rintro rfl
    rcases he with z | z
    ·exact nown c b hc z
    ·rw[hc] at z;cases z;exact hb rfl
end
structure Un (fs ex:List Addr) (H H':Hp) (h h':Heap):Prop where
 keep:∀ b o,h.get? b=some o->H b=none->b ∉ fs->b ∉ ex->h'.get? b=some o
 slot:∀ b o,h.get? b=some o->H b=none->b ∈ fs->b ∉ ex->∃ sl,h'.get? b=some { o with slots:=sl }
 free:∀ b o,h.get? b=some o->H b=none->b ∉ ex->H' b=none
 there:∀ b o,h.get? b=some o->b ∉ ex->∃ o',h'.get? b=some o'
 tups:∀ b xs,H b=some (.tup xs)->H' b=some (.tup xs)
 frzs:∀ b o u,H b=some (.frz o u)->H' b=some (.frz o u)
 tbls:∀ b ps,H b=some (.tbl ps)->∃ more,H' b=some (.tbl (ps++more))
section
variable {fs fs' ex ex' : List Addr} {H H1 H2 : Hp} {h h1 h2 h' : Heap} {a x e : Addr} {o : HO}
theorem Un.any (u:Un fs ex H H1 h h1) {b:Addr}{ob:Obj}(q:h.get? b=some ob) (n:H b=none) (hx:b ∉ ex):∃ sl,h1.get? b=some { ob with slots:=sl }:=by
 by_cases hb:b ∈ fs
 ·exact u.slot b ob q n hb hx
 ·exact ⟨ob.slots,u.keep b ob q n hb hx⟩
theorem Un.kept (k:∀ b u,h.get? b=some u->h'.get? b=some u):Un fs ex H H h h' :=
 ⟨fun b ob q _ _ _=>k b ob q,fun b ob q _ _ _=>⟨ob.slots,k b ob q⟩,fun _ _ _ n _=>n,fun b ob q _=>⟨ob,k b ob q⟩,fun _ _ q=>q,fun _ _ _ q=>q,fun _ ps q=>⟨#[],by rw[q];simp⟩⟩
theorem Un.refl:Un fs ex H H h h:=Un.kept fun _ _ q=>q
theorem Un.laid (k:∀ b u,h.get? b=some u->h'.get? b=some u) (hp:h.objs.size<=a) (hn:H a=none):Un fs ex H (upd H a o) h h' where
 keep:=fun b u q _ _ _=>k b u q
 slot:=fun b u q _ _ _=>⟨u.slots,k b u q⟩
 free:=fun b u q n _=>by rw[upd_ne (Nat.ne_of_lt (Nat.lt_of_lt_of_le (Heap.lt_size q) hp))];exact n
 there:=fun b u q _=>⟨u,k b u q⟩
 tups:=fun b xs q=>by rw[upd_ne (ne_of_none q hn)];exact q
 frzs:=fun b u xs q=>by rw[upd_ne (ne_of_none q hn)];exact q
 tbls:=fun b ps q=>⟨#[],by rw[upd_ne (ne_of_none q hn),q];simp⟩
theorem Un.write (mu:Mut (H x)) (he:e=x\/H e=some (.own x)) (k:∀ b u,b ≠ e->h.get? b=some u->h'.get? b=some u) (heo:∃ u,h'.get? e=some u):Un fs ex H (upd H x o) h h':=by
 have hx:∀ b,H b=none->b ≠ x:=fun b n z=>by subst z;rw[n] at mu;exact mu
 have hb:∀ b,H b=none->b ≠ e:=fun b n z=>by
  subst z
  rcases he with r | r
  ·exact hx b n r
  ·rw[n] at r;cases r
 have hm:∀ b u,H b=some u->¬ Mut (some u)->b ≠ x:=fun b u q nm z=>by subst z;rw[q] at mu;exact nm mu
 refine ⟨fun b u q n _ _=>k b u (hb b n) q,fun b u q n _ _=>⟨u.slots,k b u (hb b n) q⟩,fun b u q n _=>by rw[upd_ne (hx b n)];exact n,fun b u q _=>?_,
  fun b xs q=>by rw[upd_ne (hm b _ q fun z=>z)];exact q,fun b u xs q=>by rw[upd_ne (hm b _ q fun z=>z)];exact q,fun b ps q=>⟨#[],by rw[upd_ne (hm b _ q fun z=>z),q];simp⟩⟩
 by_cases hbe:b=e
 ·subst hbe;exact heo
 ·exact ⟨u,k b u hbe q⟩
end
noncomputable def trk (h:Heap) (H:Hp):List Addr:=(List.range h.objs.size).filter fun a=>(H a).isSome
noncomputable def hidT (h:Heap) (H:Hp):Heap:=PySem.W.hideAll h (trk h H)
theorem hidT_size (h:Heap) (H:Hp):(hidT h H).objs.size=h.objs.size:=PySem.W.hideAll_size _ _
theorem hidT_get {h:Heap}{H:Hp}{b:Addr}{o:Obj}(e:h.get? b=some o) (n:H b=none):(hidT h H).get? b=some o :=
 PySem.W.hideAll_get _ e fun hm=>by
  have q:(H b).isSome=true:=(List.mem_filter.mp hm).2
  rw[n] at q;simp at q
theorem of_hidT {h:Heap}{H:Hp}{b:Addr}{o:Obj}(e:(hidT h H).get? b=some o):h.get? b=some o/\H b=none:=by
 have e':h.get? b=some o:=PySem.W.of_hideAll (trk h H) e
 refine ⟨e',?_⟩
 cases q:H b with
 | none=>rfl
 | some x =>
  have hm:b ∈ trk h H:=List.mem_filter.mpr ⟨List.mem_range.mpr (Heap.lt_size e'),by simp[q]⟩
  have z:(hidT h H).get? b=none:=PySem.W.hideAll_none (trk h H) hm
  rw[z] at e;cases e
end L2
namespace L2
open PySem PySem.Spec PyProof.Rows
structure Mod (K:PySem.W.Frag) (mg:Str->Option Value) (base:Heap):Prop where
 kin:K.In base
 glob:base.Ns mainGlobals mg
 blt:∃ mb,base.Ns builtinsNs mb/\∀ x:Str,x ≠ "__name__" -> mb x=bootBuiltins x
 nolimit:base.NoLimit
set_option genInjectivity false in
structure Cx where
 prog:Program
 w:World
 K:PySem.W.Frag
 mg:Str->Option Value
 base:Heap
 A:Around
 N:List Str
 s₀:Shared
 H₀:Hp
 env:Env
 outer:List Env
 stack:List Env
 ex:List Addr
 fn:Str->Bool
 calm:Bool
 pn:List (Addr × Obj)
 xe:Value->Shared->Prop
noncomputable def frs (l:List Env):List Addr:=l.filterMap (·.frame)
noncomputable abbrev Cx.fs (X:Cx):List Addr:=frs X.outer
def Vis (sc:Scope) (x:Str):Prop:=sc.names.lookup x=some .local\/sc.names.lookup x=some .cell\/sc.names.lookup x=some .free
def Loc (sc:Scope) (x:Str):Prop:=sc.names.lookup x=some .local\/sc.names.lookup x=some .cell
def Look (env:Env) (h:Heap) (m:Str->Option Value) (x:Str) (u:Value):Prop :=
 (env.kindOf x=some .local/\m x=some u)\/((env.kindOf x=some .cell\/env.kindOf x=some .free)/\∃ c,env.cells.lookup x=some c/\h.IsCell c (some u))
structure Cx.Ok (X:Cx):Prop where
 mod:Mod X.K X.mg X.base
 kind:X.env.scope.kind=.function
 glob:X.env.globals=mainGlobals
 blt:X.env.builtins=builtinsNs
 above:X.s₀.heap.objs.size<=X.env.locals
 inj:∀ x y c,X.env.cells.lookup x=some c->X.env.cells.lookup y=some c->x=y
 has:∀ x,(X.env.kindOf x=some .cell\/X.env.kindOf x=some .free)->∃ c,X.env.cells.lookup x=some c
 cab:∀ x c,X.fn x=true->X.env.cells.lookup x=some c->X.s₀.heap.objs.size<=c
 hd:X.calm=true->X.A.handled=none
 frames:X.A.frames=some X.stack
 stk:X.stack=X.outer\/(X.stack=X.env::X.outer/\X.env.frame=some X.env.locals)
 exf:∀ b ∈ X.ex,b ≠ X.env.locals/\∀ x c,X.env.cells.lookup x=some c->c ≠ b
 bs:∀ b o,X.base.get? b=some o->X.s₀.heap.get? b=some o/\X.H₀ b=none
 bsz:X.base.objs.size<=X.s₀.heap.objs.size
 noex:∀ b o,X.base.get? b=some o->b ∉ X.ex
 exfs:∀ b ∈ X.ex,b ∉ X.fs
 funs:X.s₀.heap.FunFrames X.base X.outer
 frf:∀ b ∈ X.fs,X.H₀ b=none
structure Inv (X:Cx) (pins:List (Addr × Obj)) (σ:List (Option V)) (H:Hp) (s:Shared):Prop where
 ok:X.Ok
 os:s.os=X.s₀.os
 bare:AllBare s.gens
 base:Un X.fs X.ex X.H₀ H X.s₀.heap s.heap
 loc:∃ m,s.heap.Ns X.env.locals m/\∀ (i:Nat) (x:Str) (v:V),X.N[i]?=some x->σ[i]?=some (some v)->Vis X.env.scope x->∃ u,RelV v u/\Look X.env s.heap m x u
 cell:∀ x c,X.env.cells.lookup x=some c->∃ v,s.heap.IsCell c v
 free:H X.env.locals=none
 freeC:∀ x c,X.env.cells.lookup x=some c->H c=none
 pin:∀ p ∈ X.pn++pins,s.heap.get? p.1=some p.2/\H p.1=none/\p.1 ≠ X.env.locals/\p.1 ∉ X.fs/\∀ v,p.2.data ≠ .cell v
 hok:HOk X.prog X.w H s.heap
 len:σ.length=X.N.length
section
variable {X : Cx} {pins : List (Addr × Obj)} {σ : List (Option V)} {H H' : Hp} {s : Shared} {h' : Heap}
theorem Cx.Ok.nofr (ok:X.Ok) {b:Addr}{o:Obj}(e:X.base.get? b=some o):b ∉ X.fs:=fun hb=>by
 have:=(ok.funs.mem hb).1
 rw[e] at this;cases this
theorem Inv.bs (I:Inv X pins σ H s):∀ b o,X.base.get? b=some o->s.heap.get? b=some o/\H b=none:=fun b o e =>
 ⟨I.base.keep b o (I.ok.bs b o e).1 (I.ok.bs b o e).2 (I.ok.nofr e) (I.ok.noex b o e),I.base.free b o (I.ok.bs b o e).1 (I.ok.bs b o e).2 (I.ok.noex b o e)⟩
theorem Inv.bk (I:Inv X pins σ H s):∀ b o,X.base.get? b=some o->s.heap.get? b=some o:=fun b o e=>(I.bs b o e).1
theorem Inv.mod (I:Inv X pins σ H s):Mod X.K X.mg X.base:=I.ok.mod
theorem Inv.kIn (I:Inv X pins σ H s):X.K.In s.heap:=I.ok.mod.kin.keeps I.bk
theorem Inv.lt (I:Inv X pins σ H s):X.env.locals < s.heap.objs.size:=let ⟨_,hn,_⟩:=I.loc;hn.lt
theorem Inv.sz (I:Inv X pins σ H s):X.s₀.heap.objs.size<=s.heap.objs.size:=Nat.le_trans I.ok.above (Nat.le_of_lt I.lt)
theorem Inv.nofs (I:Inv X pins σ H s) {a:Addr}(h:s.heap.objs.size<=a):a ∉ X.fs:=fun hb=>by
 obtain ⟨_,o,ho,_⟩:=I.ok.funs.mem hb
 exact absurd (Nat.lt_of_lt_of_le (Heap.lt_size ho) (Nat.le_trans I.sz h)) (Nat.lt_irrefl _)
theorem Inv.cne (I:Inv X pins σ H s):∀ x c,X.env.cells.lookup x=some c->c ≠ X.env.locals:=fun x c e z=>by
 obtain ⟨v,o,ho,hd⟩:=I.cell x c e
 obtain ⟨m,⟨o',es,ep,ho',hd',_⟩,_⟩:=I.loc
 rw[z,ho'] at ho;cases ho;rw[hd'] at hd;cases hd
theorem Inv.funs (I:Inv X pins σ H s):s.heap.FunFrames X.base X.outer:=by
 have all:∀ (l:List Env),(∀ b ∈ frs l,b ∈ X.fs)->X.s₀.heap.FunFrames X.base l->s.heap.FunFrames X.base l:=by
  intro l
  induction l with
  | nil=>intro _ _;trivial
  | cons env r ih =>
   intro hs hl
   obtain ⟨hk,⟨L,o,hf,hn,ho,hd⟩,hr⟩:=hl
   have hL:L ∈ X.fs:=hs L (by unfold frs;rw[List.filterMap_cons,hf];exact List.mem_cons_self)
   obtain ⟨sl,e⟩:=I.base.slot L o ho (I.ok.frf L hL) hL fun z=>I.ok.exfs L z hL
   exact ⟨hk,⟨L,_,hf,hn,e,hd⟩,ih (fun b hb=>hs b (by unfold frs;rw[List.filterMap_cons,hf];exact List.mem_cons_of_mem _ hb)) hr⟩
 exact all X.outer (fun _ hb=>hb) I.ok.funs
theorem Inv.stack (I:Inv X pins σ H s):s.heap.FunFrames X.base X.stack:=by
 rcases I.ok.stk with e | ⟨e,hf⟩
 ·rw[e];exact I.funs
 ·rw[e]
  obtain ⟨m,hn,_⟩:=I.loc
  refine .cons (by rw[I.ok.kind];decide) hf hn ?_ I.funs
  exact Heap.get?_none_of_le (Nat.le_trans I.ok.bsz I.ok.above)
theorem Inv.stkSub (I:Inv X pins σ H s):∀ b ∈ frs X.stack,b ∈ X.env.locals::X.fs:=fun b hb=>by
 rcases I.ok.stk with e | ⟨e,hf⟩
 ·rw[e] at hb;exact List.mem_cons_of_mem _ hb
 ·rw[e] at hb
  unfold frs at hb
  rw[List.filterMap_cons,hf] at hb
  exact hb
theorem Inv.stkFree (I:Inv X pins σ H s):∀ b ∈ frs X.stack,H b=none:=fun b hb=>by
 rcases List.mem_cons.mp (I.stkSub b hb) with e | hb
 ·rw[e];exact I.free
 ·obtain ⟨_,o,ho,_⟩:=I.ok.funs.mem hb
  exact I.base.free b o ho (I.ok.frf b hb) fun z=>I.ok.exfs b z hb
theorem Inv.step {g':Array GenState}{t':Nat}{d':Drawn}{ch:List Addr}(I:Inv X pins σ H s)
  (hch:∀ b ∈ ch,(b ∈ X.ex\/X.s₀.heap.objs.size<=b)/\b ≠ X.env.locals/\(∀ x c,X.env.cells.lookup x=some c->c ≠ b)/\∀ p ∈ X.pn++pins,p.1 ≠ b)
  (keep:∀ b o,b ≠ X.env.locals->b ∉ X.fs->b ∉ ch->s.heap.get? b=some o->H b=none->h'.get? b=some o)
  (slot:∀ b o,b ≠ X.env.locals->b ∈ X.fs->b ∉ ch->s.heap.get? b=some o->H b=none->∃ sl,h'.get? b=some { o with slots:=sl }) (free:∀ b o,b ∉ ch->s.heap.get? b=some o->H b=none->H' b=none)
  (there:∀ b o,b ∉ ch->s.heap.get? b=some o->∃ o',h'.get? b=some o')
  (tups:∀ b xs,H b=some (.tup xs)->H' b=some (.tup xs)) (frzs:∀ b o u,H b=some (.frz o u)->H' b=some (.frz o u)) (tbls:∀ b ps,H b=some (.tbl ps)->∃ more,H' b=some (.tbl (ps++more)))
  (ns:∀ m,s.heap.Ns X.env.locals m->h'.Ns X.env.locals m) (hok:HOk X.prog X.w H' h') (hg:AllBare g') :
  Inv X pins σ H' { s with heap:=h',gens:=g',drawn:=d',toks:=t' }:=by
 have neL:∀ b o,X.s₀.heap.get? b=some o->b ≠ X.env.locals:=fun b o e=>Nat.ne_of_lt (Nat.lt_of_lt_of_le (Heap.lt_size e) I.ok.above)
 have neC:∀ b o,X.s₀.heap.get? b=some o->b ∉ X.ex->b ∉ ch:=fun b o e hx hb=>by
  rcases (hch b hb).1 with z | z
  ·exact hx z
  ·exact absurd (Nat.lt_of_lt_of_le (Heap.lt_size e) z) (Nat.lt_irrefl _)
 have cellK:∀ x c,X.env.cells.lookup x=some c->∀ v,s.heap.IsCell c v->h'.IsCell c v:=fun x c e v ⟨o,ho,hd⟩=>by
  have nch:c ∉ ch:=fun z=>(hch c z).2.2.1 x c e rfl
  by_cases hc:c ∈ X.fs
  ·obtain ⟨sl,q⟩:=slot c o (I.cne x c e) hc nch ho (I.freeC x c e)
   exact ⟨_,q,hd⟩
  ·exact ⟨o,keep c o (I.cne x c e) hc nch ho (I.freeC x c e),hd⟩
 refine ⟨I.ok,I.os,hg,⟨fun b o e n hb hx=>?_,fun b o e n hb hx=>?_,fun b o e n hx=>?_,fun b o e hx=>?_,fun b xs e=>tups b xs (I.base.tups b xs e),fun b o xs e=>frzs b o xs (I.base.frzs b o xs e),fun b ps e=>?_⟩,?_,fun x c e=>?_,?_,fun x c e=>?_,fun p hp=>?_,hok,I.len⟩
 ·exact keep b o (neL b o e) hb (neC b o e hx) (I.base.keep b o e n hb hx) (I.base.free b o e n hx)
 ·obtain ⟨sl,e1⟩:=I.base.slot b o e n hb hx
  obtain ⟨sl',e2⟩:=slot b _ (neL b o e) hb (neC b o e hx) e1 (I.base.free b o e n hx)
  exact ⟨sl',e2⟩
 ·obtain ⟨o',e1⟩:=I.base.there b o e hx
  exact free b o' (neC b o e hx) e1 (I.base.free b o e n hx)
 ·obtain ⟨o',e1⟩:=I.base.there b o e hx
  exact there b o' (neC b o e hx) e1
 ·obtain ⟨m1,e1⟩:=I.base.tbls b ps e
  obtain ⟨m2,e2⟩:=tbls b _ e1
  exact ⟨m1++m2,by rw[e2,Array.append_assoc]⟩
 ·obtain ⟨m,hn,hl⟩:=I.loc
  refine ⟨m,ns m hn,fun i x v e1 e2 e3=>?_⟩
  obtain ⟨u,r,l⟩:=hl i x v e1 e2 e3
  refine ⟨u,r,?_⟩
  rcases l with l | ⟨k,c,e,z⟩
  ·exact .inl l
  ·exact .inr ⟨k,c,e,cellK x c e _ z⟩
 ·obtain ⟨v,z⟩:=I.cell x c e
  exact ⟨v,cellK x c e v z⟩
 ·obtain ⟨m,⟨o,_,_,ho,_⟩,_⟩:=I.loc
  exact free _ o (fun z=>(hch _ z).2.1 rfl) ho I.free
 ·obtain ⟨v,o,ho,hd⟩:=I.cell x c e
  exact free c o (fun z=>(hch c z).2.2.1 x c e rfl) ho (I.freeC x c e)
 ·obtain ⟨e,n,ne,nf,d⟩:=I.pin p hp
  have nch:p.1 ∉ ch:=fun z=>(hch p.1 z).2.2.2 p hp rfl
  exact ⟨keep p.1 p.2 ne nf nch e n,free p.1 p.2 nch e n,ne,nf,d⟩
theorem Inv.un {t':Nat}(I:Inv X pins σ H s) (u:Un X.fs [] H H' s.heap h') (hok:HOk X.prog X.w H' h'):Inv X pins σ H' { s with heap:=h',toks:=t' }:=by
 obtain ⟨m,⟨o,es,ep,ho,r⟩,_⟩:=id I.loc
 obtain ⟨sl,hL⟩:=u.any ho I.free (by simp)
 exact I.step (g':=s.gens) (d':=s.drawn) (ch:=[]) (fun _ z=>nomatch z) (fun b o _ hb _ e n=>u.keep b o e n hb (by simp)) (fun b o _ hb _ e n=>u.slot b o e n hb (by simp)) (fun b o _ e n=>u.free b o e n (by simp)) (fun b o _ e=>u.there b o e (by simp)) u.tups u.frzs u.tbls (fun m' hm=>by
  obtain ⟨o',es',ep',ho',r'⟩:=hm
  rw[ho] at ho';cases ho'
  exact ⟨_,es',ep',hL,r'⟩) hok I.bare
theorem Inv.call {g':Array GenState}{t':Nat}{d':Drawn}{ch:List Addr}(I:Inv X pins σ H s) (u:Un (frs X.stack) ch H H' s.heap h') (hok:HOk X.prog X.w H' h') (hg:AllBare g')
  (hch:∀ b ∈ ch,(b ∈ X.ex\/X.s₀.heap.objs.size<=b)/\b ≠ X.env.locals/\(∀ x c,X.env.cells.lookup x=some c->c ≠ b)/\∀ p ∈ X.pn++pins,p.1 ≠ b) :
  Inv X pins σ H' { s with heap:=h',gens:=g',drawn:=d',toks:=t' }:=by
 obtain ⟨m,⟨o,es,ep,ho,r⟩,_⟩:=id I.loc
 obtain ⟨sl,hL⟩:=u.any ho I.free fun z=>(hch _ z).2.1 rfl
 exact I.step (ch:=ch) hch (fun b o hL hb hc e n=>u.keep b o e n (fun z=>(List.mem_cons.mp (I.stkSub b z)).elim hL hb) hc) (fun b o _ _ hc e n=>u.any e n hc) (fun b o hc e n=>u.free b o e n hc) (fun b o hc e=>u.there b o e hc) u.tups u.frzs u.tbls (fun m' hm=>by
  obtain ⟨o',es',ep',ho',r'⟩:=hm
  rw[ho] at ho';cases ho'
  exact ⟨_,es',ep',hL,r'⟩) hok hg
theorem Inv.turned {t':Nat}{it:Addr}(I:Inv X pins σ H s) (k:∀ b o,b ≠ it->s.heap.get? b=some o->h'.get? b=some o) (hn:H it=none) (hL:it ≠ X.env.locals)
  (h1:it ∈ X.ex\/X.s₀.heap.objs.size<=it) (h2:∀ x c,X.env.cells.lookup x=some c->c ≠ it) (h3:∀ p ∈ X.pn++pins,p.1 ≠ it):Inv X pins σ H { s with heap:=h',toks:=t' }:=by
 have nit:∀ b u,H b=some u->b ≠ it:=fun b u e z=>by rw[z,hn] at e;cases e
 refine I.step (g':=s.gens) (d':=s.drawn) (ch:=[it]) (fun b hb=>?_) (fun b o _ _ hc e _=>k b o (fun z=>hc (by simp[z])) e) (fun b o _ _ hc e _=>⟨o.slots,k b o (fun z=>hc (by simp[z])) e⟩) (fun _ _ _ _ n=>n)
  (fun b o hc e=>⟨o,k b o (fun z=>hc (by simp[z])) e⟩) (fun _ _ e=>e) (fun _ _ _ e=>e) (fun b ps e=>⟨#[],by rw[e];simp⟩) (fun m hm=>?_) (fun b u e=>?_) I.bare
 ·have e:b=it:=by simpa using hb
  subst e
  exact ⟨h1,hL,h2,h3⟩
 ·obtain ⟨o,es,ep,ho,r⟩:=hm
  exact ⟨o,es,ep,k _ o (Ne.symm hL) ho,r⟩
 ·refine (I.hok b u e).stay (fun c v hc q=>k c v ?_ q) (fun _ q=>q) fun _ _ q=>q
  rcases hc with z | z
  ·rw[z];exact nit b u e
  ·exact nit c _ z
theorem Inv.tok (I:Inv X pins σ H s) (t:Nat):Inv X pins σ H { s with toks:=t }:=I.un (h':=s.heap) (t':=t) Un.refl I.hok
theorem Inv.kept {t':Nat}(I:Inv X pins σ H s) (k:∀ b u,s.heap.get? b=some u->h'.get? b=some u):Inv X pins σ H { s with heap:=h',toks:=t' }:=I.un (Un.kept k) (I.hok.kept k)
theorem Inv.laid {a:Addr}{o:HO}{t':Nat}(I:Inv X pins σ H s) (k:∀ b u,s.heap.get? b=some u->h'.get? b=some u) (hp:s.heap.objs.size<=a) (new:ObjOk X.prog X.w (upd H a o) h' a o) :
  Inv X pins σ (upd H a o) { s with heap:=h',toks:=t' }:=I.un (Un.laid k hp (I.hok.fresh hp)) (I.hok.laid k hp new)
theorem Inv.write {x e:Addr}{o:HO}{t':Nat}(I:Inv X pins σ H s) (mu:Mut (H x)) (he:e=x\/H e=some (.own x)) (k:∀ b u,b ≠ e->s.heap.get? b=some u->h'.get? b=some u) (heo:∃ u,h'.get? e=some u)
  (new:ObjOk X.prog X.w (upd H x o) h' x o):Inv X pins σ (upd H x o) { s with heap:=h',toks:=t' }:=I.un (Un.write mu he k heo) (I.hok.write mu he k heo new)
theorem Inv.pins_of {pins':List (Addr × Obj)}(I:Inv X pins σ H s) (h:∀ p ∈ pins',s.heap.get? p.1=some p.2/\H p.1=none/\p.1 ≠ X.env.locals/\p.1 ∉ X.fs/\∀ v,p.2.data ≠ .cell v):Inv X pins' σ H s :=
 ⟨I.ok,I.os,I.bare,I.base,I.loc,I.cell,I.free,I.freeC,fun p hp=>(List.mem_append.mp hp).elim (fun z=>I.pin p (List.mem_append_left _ z)) (h p),I.hok,I.len⟩
theorem nodup_ix {N:List Str}(hN:N.Nodup) {i j:Nat}{x:Str}(a:N[i]?=some x) (b:N[j]?=some x):i=j:=by
 obtain ⟨h1,e1⟩:=List.getElem?_eq_some_iff.mp a
 obtain ⟨h2,e2⟩:=List.getElem?_eq_some_iff.mp b
 exact (List.getElem_inj hN).mp (e1.trans e2.symm)
theorem store_ok2 {M:Model}{A:Around}{E:Value->Shared->Prop}{i:Nat}{x:Str}{v:V}{u:Value}{Q:Unit->Shared->Prop}(I:Inv X pins σ H s) (hN:X.N.Nodup) (hi:X.N[i]?=some x) (hx:Loc X.env.scope x) (r:RelV v u)
  (h:∀ s',Inv X pins (σ.set i (some v)) H s'->(∃ a,Heap.SameBut a s.heap s'.heap/\(a=X.env.locals\/X.env.cells.lookup x=some a))->Q () s') (hf:X.fn x=true\/X.env.scope.names.lookup x=some .local:=by first | exact .inl rfl | exact .inr rfl | assumption):wpAny M A (storeName X.env x u) Q E s:=by
 obtain ⟨m,hn,hl⟩:=id I.loc
 have hcls:(X.env.scope.kind == .class || (X.env.scope.kind == .module && X.env.locals != X.env.globals))=false:=by rw[I.ok.kind];rfl
 have hiσ:i < σ.length:=by rw[I.len];exact (List.getElem?_eq_some_iff.mp hi).1
 have cne:=I.cne
 have tracked:∀ {a:Addr}{h':Heap},(∃ o,s.heap.get? a=some o/\H a=none)->Heap.SameBut a s.heap h'->HOk X.prog X.w H h':=fun {a h'} ha hs b ob e=>by
  obtain ⟨_,_,hfree⟩:=ha
  refine (I.hok b ob e).stay (fun c w' hc q=>(hs.2 c ?_).trans q) (fun _ q=>q) fun _ _ q=>q
  rintro rfl
  rcases hc with rfl | hc
  ·rw[hfree] at e;cases e
  ·rw[hfree] at hc;cases hc
 rcases hx with hk | hk
 ·refine wpAny_storeName_local hk hn (fun h' hn' hs=>?_) hcls
  obtain ⟨oL,_,_,hoL,_⟩:=id hn
  refine h _ ⟨I.ok,I.os,I.bare,⟨fun b o e n hb hx=>?_,fun b o e n hb hx=>?_,I.base.free,fun b o e hx=>?_,I.base.tups,I.base.frzs,I.base.tbls⟩,⟨_,hn',fun j y v' e1 e2 e3=>?_⟩,fun y c e=>?_,I.free,I.freeC,fun p hp=>?_,tracked ⟨oL,hoL,I.free⟩ hs,by simpa using I.len⟩ ⟨_,hs,.inl rfl⟩
  ·exact (hs.2 b (Nat.ne_of_lt (Nat.lt_of_lt_of_le (Heap.lt_size e) I.ok.above))).trans (I.base.keep b o e n hb hx)
  ·obtain ⟨sl,e1⟩:=I.base.slot b o e n hb hx
   exact ⟨sl,(hs.2 b (Nat.ne_of_lt (Nat.lt_of_lt_of_le (Heap.lt_size e) I.ok.above))).trans e1⟩
  ·obtain ⟨o',e1⟩:=I.base.there b o e hx
   exact ⟨o',(hs.2 b (Nat.ne_of_lt (Nat.lt_of_lt_of_le (Heap.lt_size e) I.ok.above))).trans e1⟩
  ·by_cases hj:j=i
   ·subst hj
    rw[hi] at e1;cases e1
    rw[List.getElem?_set_self hiσ] at e2
    cases e2
    exact ⟨u,r,.inl ⟨hk,by simp⟩⟩
   ·rw[List.getElem?_set_ne (Ne.symm hj)] at e2
    obtain ⟨u',r',q⟩:=hl j y v' e1 e2 e3
    refine ⟨u',r',?_⟩
    rcases q with ⟨k,e⟩ | ⟨k,c,e,z⟩
    ·refine .inl ⟨k,?_⟩
     have:y ≠ x:=fun e=>hj (nodup_ix hN e1 (e ▸ hi))
     simp[this,e]
    ·exact .inr ⟨k,c,e,z.sameBut hs (cne y c e)⟩
  ·obtain ⟨w',z⟩:=I.cell y c e
   exact ⟨w',z.sameBut hs (cne y c e)⟩
  ·obtain ⟨e,n,ne,nf,d⟩:=I.pin p hp
   exact ⟨(hs.2 p.1 ne).trans e,n,ne,nf,d⟩
 ·have hfn:X.fn x=true:=by
   rcases hf with z | z
   ·exact z
   ·rw[z] at hk;cases hk
  obtain ⟨c,hc⟩:=I.ok.has x (.inl hk)
  obtain ⟨w',z⟩:=I.cell x c hc
  refine wpAny_storeName_cell I.ok.kind hk hc z (fun h' hc' hs=>?_)
  obtain ⟨oc,hoc,hocd⟩:=id z
  refine h { s with heap:=h' } ⟨I.ok,I.os,I.bare,⟨fun b o e n hb hx=>?_,fun b o e n hb hx=>?_,I.base.free,fun b o e hx=>?_,I.base.tups,I.base.frzs,I.base.tbls⟩,⟨m,hn.sameBut hs (Ne.symm (cne x c hc)),fun j y v' e1 e2 e3=>?_⟩,fun y c' e=>?_,I.free,I.freeC,fun p hp=>?_,tracked ⟨oc,hoc,I.freeC x c hc⟩ hs,by simpa using I.len⟩ ⟨c,hs,.inr hc⟩
  ·exact (hs.2 b (Nat.ne_of_lt (Nat.lt_of_lt_of_le (Heap.lt_size e) (I.ok.cab x c hfn hc)))).trans (I.base.keep b o e n hb hx)
  ·obtain ⟨sl,e1⟩:=I.base.slot b o e n hb hx
   exact ⟨sl,(hs.2 b (Nat.ne_of_lt (Nat.lt_of_lt_of_le (Heap.lt_size e) (I.ok.cab x c hfn hc)))).trans e1⟩
  ·obtain ⟨o',e1⟩:=I.base.there b o e hx
   exact ⟨o',(hs.2 b (Nat.ne_of_lt (Nat.lt_of_lt_of_le (Heap.lt_size e) (I.ok.cab x c hfn hc)))).trans e1⟩
  ·by_cases hj:j=i
   ·subst hj
    rw[hi] at e1;cases e1
    rw[List.getElem?_set_self hiσ] at e2
    cases e2
    exact ⟨u,r,.inr ⟨.inl hk,c,hc,hc'⟩⟩
   ·rw[List.getElem?_set_ne (Ne.symm hj)] at e2
    obtain ⟨u',r',q⟩:=hl j y v' e1 e2 e3
    refine ⟨u',r',?_⟩
    rcases q with q | ⟨k,c',e,z'⟩
    ·exact .inl q
    ·refine .inr ⟨k,c',e,z'.sameBut hs ?_⟩
     rintro rfl
     exact hj (nodup_ix hN e1 (I.ok.inj _ _ _ e hc ▸ hi))
  ·by_cases hcc:c'=c
   ·subst hcc;exact ⟨_,hc'⟩
   ·obtain ⟨w2,z2⟩:=I.cell y c' e
    exact ⟨w2,z2.sameBut hs hcc⟩
  ·obtain ⟨e,n,ne,nf,d⟩:=I.pin p hp
   refine ⟨(hs.2 p.1 ?_).trans e,n,ne,nf,d⟩
   intro q
   rw[q,hoc] at e
   have q':oc=p.2:=Option.some.inj e
   exact d w' (by rw[<- q'];exact hocd)
theorem store_ok {M:Model}{A:Around}{E:Value->Shared->Prop}{i:Nat}{x:Str}{v:V}{u:Value}{Q:Unit->Shared->Prop}(I:Inv X pins σ H s) (hN:X.N.Nodup) (hi:X.N[i]?=some x) (hx:Loc X.env.scope x) (r:RelV v u)
  (h:∀ s',Inv X pins (σ.set i (some v)) H s'->Q () s') (hf:X.fn x=true\/X.env.scope.names.lookup x=some .local:=by first | exact .inl rfl | exact .inr rfl | assumption):wpAny M A (storeName X.env x u) Q E s :=
 store_ok2 I hN hi hx r (fun s' I' _=>h s' I') hf
theorem Inv.call' {s':Shared}{ch:List Addr}(I:Inv X pins σ H s) (ho:s'.os=s.os) (u:Un (frs X.stack) ch H H' s.heap s'.heap) (hok:HOk X.prog X.w H' s'.heap) (hg:AllBare s'.gens)
  (hch:∀ b ∈ ch,(b ∈ X.ex\/X.s₀.heap.objs.size<=b)/\b ≠ X.env.locals/\(∀ x c,X.env.cells.lookup x=some c->c ≠ b)/\∀ p ∈ X.pn++pins,p.1 ≠ b):Inv X pins σ H' s':=by
 obtain ⟨h',g',d',t',o'⟩:=s'
 have e:o'=s.os:=ho
 subst e
 exact I.call (g':=g') (t':=t') (d':=d') u hok hg hch
end
abbrev XK:=Value->Option Addr->Hp->Prop
abbrev St:=List (Option V)
abbrev VK:=V->Hp->Prop
abbrev TE:=St->Hp->VK->Prop
abbrev TT:=St->Hp->(Bool->Hp->Prop)->Prop
abbrev TA:=St->Hp->(List V->Hp->Prop)->Prop
set_option genInjectivity false in
structure Ends where
 nx:St->Hp->Prop
 rt:VK
 bk:St->Hp->Prop:=fun _ _=>False
 ct:St->Hp->Prop:=fun _ _=>False
abbrev TS:=Ends->St->Hp->Prop
def EP (X:Cx) (pins:List (Addr × Obj)) (σ:St) (Q:VK) (u:Value) (s':Shared):Prop:=∃ v H',Inv X pins σ H' s'/\RelV v u/\Q v H'
def TP (X:Cx) (pins:List (Addr × Obj)) (σ:St) (Q:Bool->Hp->Prop) (b:Bool) (s':Shared):Prop:=∃ H',Inv X pins σ H' s'/\Q b H'
def AP (X:Cx) (pins:List (Addr × Obj)) (σ:St) (Q:List V->Hp->Prop) (us:List Value) (s':Shared):Prop:=∃ vs H',Inv X pins σ H' s'/\Vals vs us/\Q vs H'
def SP (X:Cx) (pins:List (Addr × Obj)) (D:Ends) (f:Flow) (s':Shared):Prop :=
 match f with
 | .next=>∃ σ' H',Inv X pins σ' H' s'/\D.nx σ' H'
 | .brk=>∃ σ' H',Inv X pins σ' H' s'/\D.bk σ' H'
 | .cont=>∃ σ' H',Inv X pins σ' H' s'/\D.ct σ' H'
 | .ret u=>∃ v σ' H',Inv X pins σ' H' s'/\RelV v u/\D.rt v H'
def PE (X:Cx) (e:Expr) (t:TE):Prop :=
 ∀ (pins:List (Addr × Obj)) (s:Shared) (σ:St) (H:Hp) (Q:VK),Inv X pins σ H s->t σ H Q->wpAny (model X.prog X.w) X.A (eval e X.env) (EP X pins σ Q) X.xe s
def PT (X:Cx) (e:Expr) (t:TT):Prop :=
 ∀ (pins:List (Addr × Obj)) (s:Shared) (σ:St) (H:Hp) (Q:Bool->Hp->Prop),Inv X pins σ H s->t σ H Q->wpAny (model X.prog X.w) X.A (isTrue e X.env (eval e X.env)) (TP X pins σ Q) X.xe s
def PW (X:Cx) (e:Expr) (t:TT):Prop :=
 ∀ (whole:Sem Value) (pins:List (Addr × Obj)) (s:Shared) (σ:St) (H:Hp) (Q:Bool->Hp->Prop),Inv X pins σ H s->t σ H Q->wpAny (model X.prog X.w) X.A (isTrue e X.env whole) (TP X pins σ Q) X.xe s
theorem PW.pt {X:Cx}{e:Expr}{t:TT}(h:PW X e t):PT X e t:=h _
def PA (X:Cx) (es:List Expr) (t:TA):Prop :=
 ∀ (pos:Pos) (pins:List (Addr × Obj)) (s:Shared) (σ:St) (H:Hp) (Q:List V->Hp->Prop),Inv X pins σ H s->t σ H Q->wpAny (model X.prog X.w) X.A (spliced (backTo pos (starEach es X.env))) (AP X pins σ Q) X.xe s
def PS (X:Cx) (st:Stmt) (t:TS):Prop :=
 ∀ (pins:List (Addr × Obj)) (s:Shared) (σ:St) (H:Hp) (D:Ends),Inv X pins σ H s->t D σ H->wpAny (model X.prog X.w) X.A (exec st X.env) (SP X pins D) X.xe s
def PSs (X:Cx) (st:List Stmt) (t:TS):Prop :=
 ∀ (pins:List (Addr × Obj)) (s:Shared) (σ:St) (H:Hp) (D:Ends),Inv X pins σ H s->t D σ H->wpAny (model X.prog X.w) X.A (execs st X.env) (SP X pins D) X.xe s
theorem thn {α:Type}{t:Sem α}{Q Q':α->Shared->Prop}{M:Model}{A:Around}{E:Value->Shared->Prop}{s:Shared}(h:wpAny M A t Q E s) (hQ:∀ a s,Q a s->Q' a s):wpAny M A t Q' E s:=wpAny_mono h hQ fun _ _ x=>x
end L2
namespace L2
open PySem PySem.Spec PyProof.Rows
section
variable {X : Cx}
def tVar (i:Nat):TE:=fun σ H Q=>∃ v,σ[i]?=some (some v)/\Q v H
def tC (v:V):TE:=fun _ H Q=>Q v H
theorem pe_var {i:Nat}{x:Str}{pos:Pos}(hN:X.N[i]?=some x) (hv:Vis X.env.scope x) (hd:(x == ("__debug__" : Str))=false:=by decide) (hcd:(x == ("__classdict__" : Str))=false:=by decide):PE X (.Name x pos) (tVar i):=by
 intro pins s σ H Q I h
 obtain ⟨v,e,h⟩:=h
 obtain ⟨m,hn,hl⟩:=I.loc
 obtain ⟨u,r,l⟩:=hl i x v hN e hv
 have fin:EP X pins σ Q u s:=⟨v,H,I,r,h⟩
 rcases l with ⟨hk,hm⟩ | ⟨hk,c,hc,hcell⟩
 ·exact wpAny_Name (wpAny_loadName_local I.ok.kind hk hn hm fin) hd
 ·rcases hk with hk | hk
  ·exact wpAny_Name (wpAny_loadName_cell I.ok.kind hk hc hcell fin) hd
  ·exact wpAny_Name (wpAny_loadName_free I.ok.kind hk hc hcell fin hcd) hd
theorem pe_int {i j pos}:PE X (.Constant (.int i) j pos) (tC (.int i)):=fun _ _ _ H _ I h=>wpAny_Constant_int ⟨.int i,H,I.tok _,⟨_,rfl⟩,h⟩
theorem pe_bl {b j pos}:PE X (.Constant (.bool b) j pos) (tC (.bl b)):=fun _ _ _ H _ I h=>Constant_bool ⟨.bl b,H,I,rfl,h⟩
theorem pe_non {j pos}:PE X (.Constant .none j pos) (tC .non):=fun _ _ _ H _ I h=>Constant_none ⟨.non,H,I,rfl,h⟩
theorem pe_str {x j pos}:PE X (.Constant (.str x) j pos) (tC (.str x)):=fun _ _ _ H _ I h=>Calls.Constant_str ⟨.str x,H,I.tok _,⟨_,rfl⟩,h⟩
def Gl (X:Cx) (x:Str):Prop:=X.env.kindOf x=some .globalImplicit
theorem ld_glob {E:Value->Shared->Prop}{pins:List (Addr × Obj)}{s:Shared}{σ:St}{H:Hp}{x:Str}{u:Value}{pos:Pos}{Q:Value->Shared->Prop}(I:Inv X pins σ H s) (hg:Gl X x) (hm:X.mg x=some u) (h:Q u s)
  (hd:(x == ("__debug__" : Str))=false:=by decide):wpAny (model X.prog X.w) X.A (eval (.Name x pos) X.env) Q E s :=
 Calls.Name_function_global I.ok.kind hg (Calls.loadGlobal_global (by rw[I.ok.glob];exact I.mod.glob.keeps I.bk) hm h) hd
theorem ld_blt {E:Value->Shared->Prop}{pins:List (Addr × Obj)}{s:Shared}{σ:St}{H:Hp}{x:Str}{u:Value}{pos:Pos}{Q:Value->Shared->Prop}(I:Inv X pins σ H s) (hg:Gl X x) (hm:X.mg x=none) (hv:bootBuiltins x=some u) (h:Q u s)
  (hn:x ≠ "__name__" := by decide) (hd:(x == ("__debug__" : Str))=false:=by decide):wpAny (model X.prog X.w) X.A (eval (.Name x pos) X.env) Q E s:=by
 obtain ⟨mb,h1,h2⟩:=I.mod.blt
 exact Calls.Name_function_global I.ok.kind hg (Calls.loadGlobal_builtin (by rw[I.ok.glob];exact I.mod.glob.keeps I.bk) hm (by rw[I.ok.blt];exact h1.keeps I.bk) ((h2 x hn).trans hv) h) hd
theorem pe_glob {x:Str}{v:V}{u:Value}{pos:Pos}(hg:Gl X x) (hm:X.mg x=some u) (r:RelV v u) (hd:(x == ("__debug__" : Str))=false:=by decide):PE X (.Name x pos) (tC v) :=
 fun _ _ _ H _ I h=>ld_glob I hg hm ⟨v,H,I,r,h⟩ hd
theorem pe_bltn {x:Str}{v:V}{u:Value}{pos:Pos}(hg:Gl X x) (hm:X.mg x=none) (hv:bootBuiltins x=some u) (r:RelV v u) (hn:x ≠ "__name__" := by decide) (hd:(x == ("__debug__" : Str))=false:=by decide):PE X (.Name x pos) (tC v) :=
 fun _ _ _ H _ I h=>ld_blt I hg hm hv ⟨v,H,I,r,h⟩ hn hd
variable {a b : Expr} {ta tb : TE} {pos : Pos}
def tB (t:TE):TT:=fun σ H Q=>t σ H fun x H1=>∃ c,x=.bl c/\Q c H1
theorem pt_val {e:Expr}{t:TE}(h:PE X e t) (he:∀ whole,isTrue e X.env whole=(do let v <- whole;standAt e.pos;holding [v] (truthy v)):=by intro _;rfl):PT X e (tB t):=by
 intro pins s σ H Q I hw
 refine isTrue_plain (thn (h pins s σ H _ I hw) fun v s1 ⟨x,H1,I1,r1,q1⟩=>?_) (he _)
 obtain ⟨d,rfl,q⟩:=q1
 cases r1
 exact wpAny_truthy_bool ⟨H1,I1,q⟩
variable {tA tB' : TT} {rest : List Expr}
def tAnd (t u:TT):TT:=fun σ H Q=>t σ H fun c H1=>if c=true then u σ H1 Q else Q false H1
def tNot (t:TT):TT:=fun σ H Q=>t σ H fun c H1=>Q (!c) H1
theorem pw_and1 (ha:PT X a tA):PW X (.BoolOp .And [a] pos) tA:=by
 intro wh pins s σ H Q I h
 refine isTrue_and (thn (ha pins s σ H Q I h) fun c s1 e=>?_)
 cases c with
 | true=>exact isTrue_and_nil e
 | false=>exact e
theorem pw_and (ha:PT X a tA) (hb:PW X (.BoolOp .And (b::rest) pos) tB'):PW X (.BoolOp .And (a::b::rest) pos) (tAnd tA tB'):=by
 intro wh pins s σ H Q I h
 refine isTrue_and (thn (ha pins s σ H _ I h) fun c s1 ⟨H1,I1,q1⟩=>?_)
 cases c with
 | true=>exact hb wh pins s1 σ H1 Q I1 q1
 | false=>exact ⟨H1,I1,q1⟩
theorem pt_not (ha:PT X a tA):PT X (.UnaryOp .Not a pos) (tNot tA):=by
 intro pins s σ H Q I h
 exact isTrue_not (ha pins s σ H (fun c H1=>Q (!c) H1) I h)
def tAndV (ta tb:TE):TE:=fun σ H Q=>ta σ H fun x H1=>∃ c,x=.bl c/\if c=true then tb σ H1 Q else Q (.bl false) H1
def tNotV (ta:TE):TE:=fun σ H Q=>ta σ H fun x H1=>∃ c,x=.bl c/\Q (.bl (!c)) H1
theorem pe_one {op}{t:TE}(h:PE X a t):PE X (.BoolOp op [a] pos) t:=fun pins s σ H Q I hw=>BoolOp_one (h pins s σ H Q I hw)
theorem pe_and (ha:PE X a ta) (hb:PE X (.BoolOp .And (b::rest) pos) tb):PE X (.BoolOp .And (a::b::rest) pos) (tAndV ta tb):=by
 intro pins s σ H Q I h
 refine BoolOp_and (thn (ha pins s σ H _ I h) fun v s1 ⟨x,H1,I1,r1,q1⟩=>?_)
 obtain ⟨c,rfl,q1⟩:=q1
 cases r1
 refine wpAny_truthy_bool ?_
 cases c with
 | true=>exact hb pins s1 σ H1 Q I1 q1
 | false=>exact ⟨.bl false,H1,I1,rfl,q1⟩
theorem pe_not (ha:PE X a ta):PE X (.UnaryOp .Not a pos) (tNotV ta):=by
 intro pins s σ H Q I h
 refine UnaryOp_ (thn (ha pins s σ H _ I h) fun v s1 ⟨x,H1,I1,r1,q1⟩=>?_)
 obtain ⟨c,rfl,q1⟩:=q1
 cases r1
 exact not_of (wpAny_truthy_bool ⟨.bl (!c),H1,I1,rfl,q1⟩)
end
end L2
namespace L2
open PySem PySem.Spec PyProof.Rows
def SqL (K:PySem.W.Frag) (H:Hp) (a:Addr) (xs:List V):Prop :=
 Rd H a (.lst xs) \/
  ∃ (o:Obj) (its:Array Value) (n:Nat),K.lookup a=some o/\o.cls=.type "list" /\ o.dict=none/\o.data=.seq its n/\its.size<=sizeLine/\Vals xs its.toList
def SqT (K:PySem.W.Frag) (H:Hp) (a:Addr) (xs:List V):Prop :=
 Rd H a (.tup xs) \/
  ∃ (o:Obj) (its:Array Value) (n:Nat),K.lookup a=some o/\o.cls=.type "tuple" /\ o.data=.seq its n/\its.size<=sizeLine/\Vals xs its.toList
noncomputable def absV:Value->Option V
 | .none=>some .non
 | .bool b=>some (.bl b)
 | .int i _=>some (.int i)
 | .str x _=>some (.str x)
 | .bytes b _=>some (.byt b)
 | .float b _=>some (.flt b)
 | .ref a=>some (.ref a)
 | .type n=>some (.ty n)
 | _=>none
theorem RelV.abs {x:V}{u:Value}(r:RelV x u):absV u=some x:=by
 cases x with
 | non=>cases r;rfl
 | bl _=>cases r;rfl
 | int _=>obtain ⟨t,rfl⟩:=r;rfl
 | str _=>obtain ⟨t,rfl⟩:=r;rfl
 | byt _=>obtain ⟨t,rfl⟩:=r;rfl
 | flt _=>obtain ⟨t,rfl⟩:=r;rfl
 | ref _=>cases r;rfl
 | ty _=>cases r;rfl
theorem RelV.inj {x y:V}{u:Value}(r:RelV x u) (q:RelV y u):x=y:=Option.some.inj (r.abs.symm.trans q.abs)
theorem Vals.inj:∀ {xs ys:List V}{us:List Value},Vals xs us->Vals ys us->xs=ys
 | _,_,_,.nil,.nil=>rfl
 | _,_,_,.cons r t,.cons r' t'=>by rw[r.inj r',Vals.inj t t']
section
variable {X : Cx} {pins : List (Addr × Obj)} {σ : St} {H : Hp} {s : Shared} {a : Addr} {xs ys : List V}
theorem SqL.of {K:PySem.W.Frag}(h:H a=some (.lst xs)):SqL K H a xs:=.inl (.inl h)
theorem SqT.of {K:PySem.W.Frag}(h:H a=some (.tup xs)):SqT K H a xs:=.inl (.inl h)
theorem Inv.list (I:Inv X pins σ H s) (h:SqL X.K H a xs):∃ its:List Value,Vals xs its/\PlainL s.heap a its.toArray/\xs.length<=sizeLine:=by
 rcases h with h | ⟨o,its,n,hk,hc,hd,hs,hz,r⟩
 ·obtain ⟨z,its,n,r,e⟩:=h.ok I.hok
  exact ⟨its,r,⟨_,n,e,rfl,rfl,rfl⟩,z⟩
 ·refine ⟨its.toList,r,⟨o,n,I.kIn a o hk,hc,hd,by simpa using hs⟩,?_⟩
  have e:=r.length
  simp only[Array.length_toList] at e
  lia
theorem Inv.tuple (I:Inv X pins σ H s) (h:SqT X.K H a xs):∃ its:List Value,Vals xs its/\IsTup s.heap a its.toArray/\xs.length<=sizeLine:=by
 rcases h with h | ⟨o,its,n,hk,hc,hs,hz,r⟩
 ·obtain ⟨z,its,r,p⟩:=h.ok I.hok
  exact ⟨its,r,p,z⟩
 ·refine ⟨its.toList,r,⟨o,I.kIn a o hk,hc,n,by simpa using hs⟩,?_⟩
  have e:=r.length
  simp only[Array.length_toList] at e
  lia
theorem Inv.list_inj (I:Inv X pins σ H s) (h:SqL X.K H a xs) (h':SqL X.K H a ys):xs=ys:=by
 obtain ⟨its,r,⟨o,n,e,_,_,d⟩,_⟩:=I.list h
 obtain ⟨its',r',⟨o',n',e',_,_,d'⟩,_⟩:=I.list h'
 rw[e] at e';cases e'
 rw[d] at d'
 injection d' with d1 _
 have:its=its':=by simpa using congrArg Array.toList d1
 subst this
 exact r.inj r'
theorem Inv.tuple_inj (I:Inv X pins σ H s) (h:SqT X.K H a xs) (h':SqT X.K H a ys):xs=ys:=by
 obtain ⟨its,r,⟨o,e,_,n,d⟩,_⟩:=I.tuple h
 obtain ⟨its',r',⟨o',e',_,n',d'⟩,_⟩:=I.tuple h'
 rw[e] at e';cases e'
 rw[d] at d'
 injection d' with d1 _
 have:its=its':=by simpa using congrArg Array.toList d1
 subst this
 exact r.inj r'
end
noncomputable abbrev Cx.wish (X:Cx) (E:Value->Shared->Prop):Cx:={ X with xe:=E }
noncomputable abbrev Cx.nox (X:Cx):Cx:=X.wish fun _ _=>False
theorem Cx.Ok.wish {X:Cx}(ok:X.Ok) (E:Value->Shared->Prop):(X.wish E).Ok :=
 ⟨ok.mod,ok.kind,ok.glob,ok.blt,ok.above,ok.inj,ok.has,ok.cab,ok.hd,ok.frames,ok.stk,ok.exf,ok.bs,ok.bsz,ok.noex,ok.exfs,ok.funs,ok.frf⟩
theorem Cx.Ok.unwish {X:Cx}{E:Value->Shared->Prop}(ok:(X.wish E).Ok):X.Ok :=
 ⟨ok.mod,ok.kind,ok.glob,ok.blt,ok.above,ok.inj,ok.has,ok.cab,ok.hd,ok.frames,ok.stk,ok.exf,ok.bs,ok.bsz,ok.noex,ok.exfs,ok.funs,ok.frf⟩
section
variable {X : Cx} {pins : List (Addr × Obj)} {σ : St} {H : Hp} {s : Shared} {E : Value -> Shared -> Prop}
theorem Inv.wish (I:Inv X pins σ H s) (E:Value->Shared->Prop):Inv (X.wish E) pins σ H s:=⟨I.ok.wish E,I.os,I.bare,I.base,I.loc,I.cell,I.free,I.freeC,I.pin,I.hok,I.len⟩
theorem Inv.unwish (I:Inv (X.wish E) pins σ H s):Inv X pins σ H s:=⟨I.ok.unwish,I.os,I.bare,I.base,I.loc,I.cell,I.free,I.freeC,I.pin,I.hok,I.len⟩
theorem SP.unwish {D:Ends}{f:Flow}{s':Shared}(h:SP (X.wish E) pins D f s'):SP X pins D f s':=by
 cases f with
 | next=>obtain ⟨σ',H',I,q⟩:=h;exact ⟨σ',H',I.unwish,q⟩
 | brk=>obtain ⟨σ',H',I,q⟩:=h;exact ⟨σ',H',I.unwish,q⟩
 | cont=>obtain ⟨σ',H',I,q⟩:=h;exact ⟨σ',H',I.unwish,q⟩
 | ret u=>obtain ⟨v,σ',H',I,r,q⟩:=h;exact ⟨v,σ',H',I.unwish,r,q⟩
theorem PSs.nox {st:List Stmt}{t:TS}(h:PSs X.nox st t):PSs X st t:=fun pins s σ H D I hw =>
 wpAny_mono (h pins s σ H D (I.wish _) hw) (fun _ _ q=>q.unwish) fun _ _ z=>False.elim z
end
section
variable {X : Cx} {st : Stmt} {rest : List Stmt} {t u : TS} {e : Expr} {te : TE} {pos : Pos}
def tNext:TS:=fun D σ H=>D.nx σ H
def tSeq (t u:TS):TS:=fun D σ H=>t { D with nx:=u D } σ H
theorem pss_nil:PSs X [] tNext:=fun _ _ σ H _ I h=>wpAny_execs_nil ⟨σ,H,I,h⟩
theorem pss_cons (h1:PS X st t) (h2:PSs X rest u):PSs X (st::rest) (tSeq t u):=by
 intro pins s σ H D I h
 refine wpAny_execs_cons (thn (h1 pins s σ H { D with nx:=u D } I h) fun f s1 q=>?_)
 cases f with
 | next =>
  obtain ⟨σ',H',I',q⟩:=q
  exact h2 pins s1 σ' H' D I' q
 | ret v=>exact q
 | brk=>exact q
 | cont=>exact q
theorem pss_one (h1:PS X st t):PSs X [st] t:=by
 intro pins s σ H D I h
 refine wpAny_execs_cons (thn (h1 pins s σ H D I h) fun f s1 q=>?_)
 cases f with
 | next=>exact wpAny_execs_nil q
 | ret v=>exact q
 | brk=>exact q
 | cont=>exact q
theorem Inv.quiet {pins:List (Addr × Obj)}{σ:St}{H:Hp}{s:Shared}(I:Inv X pins σ H s):interactive X.env=false:=by simp[interactive,I.ok.kind]
def tDrop (te:TE):TS:=fun D σ H=>te σ H fun _ H1=>D.nx σ H1
theorem ps_expr (he:PE X e te) (hs:swapsWith e none pos.line X.env=pure false:=by rfl):PS X (.Expr e pos) (tDrop te):=by
 intro pins s σ H D I h
 exact wpAny_Expr_any (thn (he pins s σ H _ I h) fun v s1 ⟨x,H1,I1,r1,q1⟩=>⟨σ,H1,I1,q1⟩) I.quiet hs
def tRet (te:TE):TS:=fun D σ H=>te σ H D.rt
theorem ps_ret (he:PE X e te):PS X (.Return (some e) pos) (tRet te):=by
 intro pins s σ H D I h
 exact wpAny_Return_some (thn (he pins s σ H _ I h) fun v s1 ⟨x,H1,I1,r1,q1⟩=>⟨x,σ,H1,I1,r1,q1⟩)
def tIfS (c:TT) (t u:TS):TS:=fun D σ H=>c σ H fun b H1=>if b=true then t D σ H1 else u D σ H1
theorem ps_if {c:Expr}{a b:List Stmt}{tc:TT}(hc:PT X c tc) (ha:PSs X a t) (hb:PSs X b u):PS X (.If c a b pos) (tIfS tc t u):=by
 intro pins s σ H D I h
 refine wpAny_If (thn (hc pins s σ H _ I h) fun d s1 ⟨H1,I1,q1⟩=>?_)
 cases d with
 | true=>exact ha pins s1 σ H1 D I1 q1
 | false=>exact hb pins s1 σ H1 D I1 q1
def tNever:TS:=fun _ _ _=>False
theorem ps_never:PS X st tNever:=fun _ _ _ _ _ _ h=>h.elim
theorem pss_never {sts:List Stmt}:PSs X sts tNever:=fun _ _ _ _ _ _ h=>h.elim
end
abbrev TG:=V->St->Hp->(St->Hp->Prop)->Prop
def PG (X:Cx) (target:Expr) (t:TG):Prop :=
 ∀ (pins:List (Addr × Obj)) (s:Shared) (σ:St) (H:Hp) (v:V) (u:Value) (Q:St->Hp->Prop),Inv X pins σ H s->RelV v u->t v σ H Q ->
  wpAny (model X.prog X.w) X.A (assign target X.env u) (fun _ s'=>∃ σ' H',Inv X pins σ' H' s'/\Q σ' H') X.xe s
section
variable {X : Cx} {pos : Pos}
def gName (i:Nat):TG:=fun v σ H Q=>Q (σ.set i (some v)) H
theorem pg_name {i:Nat}{x:Str}(hN:X.N.Nodup) (hi:X.N[i]?=some x) (hx:Loc X.env.scope x) (hf:X.fn x=true\/X.env.scope.names.lookup x=some .local:=by first | exact .inl rfl | exact .inr rfl | assumption):PG X (.Name x pos) (gName i):=by
 intro pins s σ H v u Q I r h
 exact wpAny_assign_Name (store_ok I hN hi hx r (fun s' I'=>⟨_,H,I',h⟩) hf)
def tAsg (te:TE) (g:TG):TS:=fun D σ H=>te σ H fun x H1=>g x σ H1 D.nx
theorem ps_set {i:Nat}{x:Str}{e:Expr}{te:TE}{pos':Pos}(hN:X.N.Nodup) (hi:X.N[i]?=some x) (hx:Loc X.env.scope x) (he:PE X e te) (hs:swapsWith e (some (.Name x pos')) pos.line X.env=pure false:=by rfl) (hf:X.fn x=true\/X.env.scope.names.lookup x=some .local:=by first | exact .inl rfl | exact .inr rfl | assumption) :
  PS X (.Assign [.Name x pos'] e pos) (tAsg te (gName i)):=by
 intro pins s σ H D I h
 refine wpAny_Assign_Name (thn (he pins s σ H _ I h) fun v s1 ⟨y,H1,I1,r1,q1⟩=>?_) hs
 exact store_ok I1 hN hi hx r1 (fun s2 I2=>⟨_,H1,I2,q1⟩) hf
end
section
variable {X : Cx} {pos : Pos}
end
set_option genInjectivity false in
structure It where
 go:Nat->Hp->Prop
 yld:Nat->Hp->V->Hp->Prop
 stop:Nat->Hp->Prop
def FpOk (X:Cx) (pins:List (Addr × Obj)) (H:Hp) (b:Addr):Prop :=
 H b=none/\b ≠ X.env.locals/\b ∉ X.fs/\(b ∈ X.ex\/X.s₀.heap.objs.size<=b)/\(∀ x c,X.env.cells.lookup x=some c->c ≠ b)/\∀ p ∈ X.pn++pins,p.1 ≠ b
theorem Inv.fpOk {X:Cx}{pins:List (Addr × Obj)}{σ:St}{H H':Hp}{s:Shared}{b:Addr}(I:Inv X pins σ H s) (hb:s.heap.objs.size<=b) (hn:H' b=none):FpOk X pins H' b:=by
 refine ⟨hn,Nat.ne_of_gt (Nat.lt_of_lt_of_le I.lt hb),I.nofs hb,.inr (Nat.le_trans I.sz hb),fun x c e z=>?_,fun p hp z=>?_⟩
 ·obtain ⟨v,q⟩:=I.cell x c e
  exact absurd (Nat.lt_of_lt_of_le q.lt (by rw[z];exact hb)) (Nat.lt_irrefl _)
 ·exact absurd (Nat.lt_of_lt_of_le (Heap.lt_size (I.pin p hp).1) (by rw[z];exact hb)) (Nat.lt_irrefl _)
structure Turn (P:Program) (w:World) (K:PySem.W.Frag) (tg:Expr) (J:It) (fp:List Addr) (it:Addr) (tn:Nat->Heap->Prop):Prop where
 mem:it ∈ fp
 obj:∀ i h,tn i h->∀ b ∈ fp,∃ o,h.get? b=some o/\∀ v,o.data ≠ .cell v
 keep:∀ i h h',tn i h->(∀ b ∈ fp,∀ o,h.get? b=some o->h'.get? b=some o)->tn i h'
 item:∀ (X:Cx),X.prog=P->X.w=w->X.K=K->X.calm=true->∀ (i:Nat) (pins:List (Addr × Obj)) (s:Shared) (σ:St) (H:Hp) (E:Value->Shared->Prop),Inv X pins σ H s->(∀ b ∈ fp,FpOk X pins H b)->tn i s.heap->J.go i H ->
  wpAny (model P w) X.A (pyNext (.ref it)) (fun r s1=>∃ u,r=some u /\
   wpAny (model P w) X.A (letOwnedTupleGo tg (.ref it) u) (fun _ s2=>∃ x H',Inv X pins σ H' s2/\RelV x u/\J.yld i H x H'/\tn (i+1) s2.heap/\∀ b ∈ fp,H' b=none) E s1) E s
 done:∀ (X:Cx),X.prog=P->X.w=w->X.K=K->X.calm=true->∀ (i:Nat) (pins:List (Addr × Obj)) (s:Shared) (σ:St) (H:Hp) (E:Value->Shared->Prop),Inv X pins σ H s->(∀ b ∈ fp,FpOk X pins H b)->tn i s.heap->J.stop i H ->
  wpAny (model P w) X.A (pyNext (.ref it)) (fun r s1=>r=none/\Inv X pins σ H s1) E s
 self:∀ (A:Around) (i:Nat) (s:Shared) (Q:Value->Shared->Prop) (E:Value->Shared->Prop),tn i s.heap->Q (.ref it) s->wpAny (model P w) A (pyIter (.ref it)) Q E s
abbrev TI:=St->Hp->(It->Hp->Prop)->Prop
def PIE (X:Cx) (pins:List (Addr × Obj)) (σ:St) (tg:Expr) (R:It->Hp->Prop) (itv:Value) (s2:Shared):Prop :=
 ∃ (it:Addr) (fp:List Addr) (tn:Nat->Heap->Prop) (J:It) (H':Hp),itv=.ref it/\Inv X pins σ H' s2/\Turn X.prog X.w X.K tg J fp it tn/\tn 0 s2.heap/\(∀ b ∈ fp,FpOk X pins H' b)/\R J H'
def PI (X:Cx) (tg iter:Expr) (wi:TI):Prop :=
 ∀ (pins:List (Addr × Obj)) (s:Shared) (σ:St) (H:Hp) (R:It->Hp->Prop),Inv X pins σ H s->wi σ H R ->
  wpAny (model X.prog X.w) X.A (eval iter X.env) (fun v s1=>wpAny (model X.prog X.w) X.A (pyIter v) (PIE X pins σ tg R) X.xe s1) X.xe s
theorem go_of {M:Model}{A:Around}{E:Value->Shared->Prop}{s:Shared}{tg:Expr}{it:Addr}{u:Value}{o:Obj}{n:String}{vs:Array Value}{Q:Unit->Shared->Prop}(ho:s.heap.get? it=some o) (hc:o.cls=.type n) (hd:o.data=.fields vs)
  (hn:["enumerate", "zip", "dict_itemiterator", "dict_reverseitemiterator", "odict_iterator", "itertools.zip_longest", "itertools.pairwise"].contains n=false) (hQ:Q () s):wpAny M A (letOwnedTupleGo tg (.ref it) u) Q E s:=by
 unfold letOwnedTupleGo
 cases tg <;> first
  | exact wpAny_pure hQ
  | (cases u <;> first
    | exact wpAny_pure hQ
    | (refine wpAny_bind (wpAny_load ho ?_)
       rw[hc,hd]
       show wpAny M A (if (["enumerate", "zip", "dict_itemiterator", "dict_reverseitemiterator", "odict_iterator", "itertools.zip_longest", "itertools.pairwise"].contains n && vs[0]? == some (rawInt _))=true then _ else _) Q E s
       rw[if_neg (by intro h;rw[hn,Bool.false_and] at h;cases h)]
       exact wpAny_pure hQ))
noncomputable def Itl (K:PySem.W.Frag) (a:Addr):It :=
 ⟨fun i H=>∃ xs x,SqL K H a xs/\xs[i]?=some x,fun i H x H'=>H'=H/\∀ xs,SqL K H a xs->xs[i]?=some x,fun i H=>∃ xs,SqL K H a xs/\xs.length<=i⟩
noncomputable def Itt (K:PySem.W.Frag) (a:Addr):It :=
 ⟨fun i H=>∃ xs x,SqT K H a xs/\xs[i]?=some x,fun i H x H'=>H'=H/\∀ xs,SqT K H a xs->xs[i]?=some x,fun i H=>∃ xs,SqT K H a xs/\xs.length<=i⟩
noncomputable def Itr (lo:Int) (n:Nat):It:=⟨fun i _=>i < n,fun i H x H'=>H'=H/\x=.int (lo+i),fun i _=>n<=i⟩
theorem turn_list {P:Program}{w:World}{K:PySem.W.Frag}{tg:Expr}(a it:Addr):Turn P w K tg (Itl K a) [it] it (fun i h=>h.IsListIter it a i) where
 mem:=by simp
 obj:=fun i h st b hb=>by
  have e:b=it:=by simpa using hb
  subst e
  obtain ⟨o,e,c,d⟩:=st
  exact ⟨o,e,fun v z=>by rw[d] at z;cases z⟩
 keep:=fun i h h' st k=>st.at fun o e=>k it (by simp) o e
 item:=by
  intro X hP hw hK hc i pins s σ H E I hf st hg
  subst hP hw hK
  obtain ⟨xs,x,hq,hx⟩:=hg
  obtain ⟨its,rv,p,hz⟩:=I.list hq
  obtain ⟨u,hu,ru⟩:=rv.get hx
  obtain ⟨f0,f1,f2,f3,f4,f5⟩:=hf it (by simp)
  refine wpAny_pyNext_list_item st p.isList (x:=u) (by simpa using hu) fun h' st' sb=>?_
  have I1:Inv X pins σ H { s with heap:=h' }:=I.turned (t':=s.toks) (fun b o hb e=>(sb.2 b hb).trans e) f0 f1 f3 f4 f5
  obtain ⟨o,e,c,d⟩:=id st'
  exact ⟨u,rfl,go_of (s:={ s with heap:=h' }) e c d (by decide) ⟨x,H,I1,ru,⟨rfl,fun ys hy=>by rw[I.list_inj hy hq];exact hx⟩,st',fun b hb=>(hf b hb).1⟩⟩
 done:=by
  intro X hP hw hK hc i pins s σ H E I hf st hg
  subst hP hw hK
  obtain ⟨xs,hq,hx⟩:=hg
  obtain ⟨its,rv,p,hz⟩:=I.list hq
  obtain ⟨f0,f1,f2,f3,f4,f5⟩:=hf it (by simp)
  have hl:=rv.length
  exact wpAny_pyNext_list_end (I.ok.hd hc) st p.isList (by simp;lia) fun h' eb=>⟨rfl,I.turned (t':=s.toks) (fun b o hb e=>eb b o hb e) f0 f1 f3 f4 f5⟩
 self:=fun _ _ _ _ _ st h=>wpAny_pyIter_listiter st h
theorem turn_tuple {P:Program}{w:World}{K:PySem.W.Frag}{tg:Expr}(a it:Addr):Turn P w K tg (Itt K a) [it] it (fun i h=>h.IsTupleIter it a i) where
 mem:=by simp
 obj:=fun i h st b hb=>by
  have e:b=it:=by simpa using hb
  subst e
  obtain ⟨o,e,c,d⟩:=st
  exact ⟨o,e,fun v z=>by rw[d] at z;cases z⟩
 keep:=fun i h h' st k=>st.at fun o e=>k it (by simp) o e
 item:=by
  intro X hP hw hK hc i pins s σ H E I hf st hg
  subst hP hw hK
  obtain ⟨xs,x,hq,hx⟩:=hg
  obtain ⟨its,rv,p,hz⟩:=I.tuple hq
  obtain ⟨u,hu,ru⟩:=rv.get hx
  obtain ⟨f0,f1,f2,f3,f4,f5⟩:=hf it (by simp)
  refine wpAny_pyNext_tuple_item st (show s.heap.IsTuple a its.toArray from p) (x:=u) (by simpa using hu) fun h' st' sb=>?_
  have I1:Inv X pins σ H { s with heap:=h' }:=I.turned (t':=s.toks) (fun b o hb e=>(sb.2 b hb).trans e) f0 f1 f3 f4 f5
  obtain ⟨o,e,c,d⟩:=id st'
  exact ⟨u,rfl,go_of (s:={ s with heap:=h' }) e c d (by decide) ⟨x,H,I1,ru,⟨rfl,fun ys hy=>by rw[I.tuple_inj hy hq];exact hx⟩,st',fun b hb=>(hf b hb).1⟩⟩
 done:=by
  intro X hP hw hK hc i pins s σ H E I hf st hg
  subst hP hw hK
  obtain ⟨xs,hq,hx⟩:=hg
  obtain ⟨its,rv,p,hz⟩:=I.tuple hq
  obtain ⟨f0,f1,f2,f3,f4,f5⟩:=hf it (by simp)
  have hl:=rv.length
  exact wpAny_pyNext_tuple_end (I.ok.hd hc) st (show s.heap.IsTuple a its.toArray from p) (by simp;lia) fun h' eb=>⟨rfl,I.turned (t':=s.toks) (fun b o hb e=>eb b o hb e) f0 f1 f3 f4 f5⟩
 self:=fun _ _ _ _ _ st h=>wpAny_pyIter_tupleiter st h
theorem turn_range {P:Program}{w:World}{K:PySem.W.Frag}{tg:Expr}(it:Addr) (lo:Int) (n:Nat):Turn P w K tg (Itr lo n) [it] it (fun i h=>IsRangeIter h it (lo+(i:Nat) * 1) ((n:Int) - (i:Nat)) 1) where
 mem:=by simp
 obj:=fun i h st b hb=>by
  have e:b=it:=by simpa using hb
  subst e
  exact ⟨_,st,fun v z=>by
   have z':Data.fields _=Data.cell v:=z
   cases z'⟩
 keep:=fun i h h' st k=>k it (by simp) _ st
 item:=by
  intro X hP hw hK hc i pins s σ H E I hf st hg
  subst hP hw hK
  obtain ⟨f0,f1,f2,f3,f4,f5⟩:=hf it (by simp)
  have W:=Walks.range (prog:=X.prog) (w:=X.w) (I.ok.hd hc) it lo 1 n
  refine W.item i s _ _ hg st fun v h' tk hv st' kk=>?_
  obtain ⟨t,rfl⟩:=hv
  have I1:Inv X pins σ H { s with heap:=h',toks:=tk }:=I.turned (fun b o hb e=>kk b o (by simpa using hb) e) f0 f1 f3 f4 f5
  refine ⟨_,rfl,go_of (s:={ s with heap:=h',toks:=tk }) (n := "range_iterator") st' rfl rfl (by decide) ⟨.int (lo+i),H,I1,⟨t,?_⟩,⟨rfl,rfl⟩,st',fun b hb=>(hf b hb).1⟩⟩
  rw[Int.mul_one]
 done:=by
  intro X hP hw hK hc i pins s σ H E I hf st hg
  subst hP hw hK
  obtain ⟨f0,f1,f2,f3,f4,f5⟩:=hf it (by simp)
  exact wpAny_pyNext_range_end (I.ok.hd hc) st (by have:n<=i:=hg;lia) fun h' eb=>⟨rfl,I.turned (t':=s.toks) (fun b o hb e=>eb b o hb e) f0 f1 f3 f4 f5⟩
 self:=fun _ _ _ _ _ st h=>wpAny_pyIter_rangeiter st h
end L2
namespace L2
open PySem PySem.Spec PyProof.Rows
section
variable {X : Cx} {tg : Expr}
def iList (K:PySem.W.Frag) (tl:TE):TI:=fun σ H R=>tl σ H fun x H1=>∃ a,x=.ref a/\(∃ xs,SqL K H1 a xs)/\R (Itl K a) H1
def iTup (K:PySem.W.Frag) (tl:TE):TI:=fun σ H R=>tl σ H fun x H1=>∃ a,x=.ref a/\(∃ xs,SqT K H1 a xs)/\R (Itt K a) H1
theorem pi_list {l:Expr}{tl:TE}(hl:PE X l tl):PI X tg l (iList X.K tl):=by
 intro pins s σ H R I h
 refine thn (hl pins s σ H _ I h) fun v s1 ⟨x,H1,I1,r1,q1⟩=>?_
 obtain ⟨a,e,⟨xs,hq⟩,q⟩:=q1
 subst e
 cases r1
 obtain ⟨its,rv,p,hz⟩:=I1.list hq
 refine wpAny_pyIter_list p.isList ?_
 refine ⟨s1.heap.objs.size,[s1.heap.objs.size],_,_,H1,rfl,I1.kept (t':=s1.toks) fun b o e=>Heap.get?_push_of_some _ e,turn_list a _,⟨_,Heap.get?_push_size _ rfl,rfl,rfl⟩,fun b hb=>?_,q⟩
 have e:b=s1.heap.objs.size:=by simpa using hb
 subst e
 exact I1.fpOk (Nat.le_refl _) (I1.hok.fresh (Nat.le_refl _))
theorem pi_tup {l:Expr}{tl:TE}(hl:PE X l tl):PI X tg l (iTup X.K tl):=by
 intro pins s σ H R I h
 refine thn (hl pins s σ H _ I h) fun v s1 ⟨x,H1,I1,r1,q1⟩=>?_
 obtain ⟨a,e,⟨xs,hq⟩,q⟩:=q1
 subst e
 cases r1
 obtain ⟨its,rv,p,hz⟩:=I1.tuple hq
 refine wpAny_pyIter_tuple (show s1.heap.IsTuple a its.toArray from p) ?_
 refine ⟨s1.heap.objs.size,[s1.heap.objs.size],_,_,H1,rfl,I1.kept (t':=s1.toks) fun b o e=>Heap.get?_push_of_some _ e,turn_tuple a _,⟨_,Heap.get?_push_size _ rfl,rfl,rfl⟩,fun b hb=>?_,q⟩
 have e:b=s1.heap.objs.size:=by simpa using hb
 subst e
 exact I1.fpOk (Nat.le_refl _) (I1.hok.fresh (Nat.le_refl _))
theorem range_it {pins:List (Addr × Obj)}{σ:St}{H:Hp}{s:Shared}{R:It->Hp->Prop}{E:Value->Shared->Prop}{lo hi:Int}{t u v:Tok}{tk:Nat}(I:Inv X pins σ H s) (h1:-(2 ^ 62)<=lo) (h2:lo < 2 ^ 62) (h3:-(2 ^ 62)<=hi) (h4:hi < 2 ^ 62)
  (q:R (Itr lo (hi - lo).toNat) H):wpAny (model X.prog X.w) X.A (pyIter (.ref s.heap.objs.size)) (PIE X pins σ tg R) E { s with heap:=s.heap.push { cls:=.type "range",data:=.fields #[.int lo t,.int hi u,.int 1 v] },toks:=tk }:=by
 refine wpAny_pyIter_range (IsRange.new ..) (small_one h1 h2 h3 h4) ?_
 have I1:Inv X pins σ H { s with heap:=s.heap.push { cls:=.type "range",data:=.fields #[.int lo t,.int hi u,.int 1 v] },toks:=tk }:=I.kept fun b o e=>Heap.get?_push_of_some _ e
 refine ⟨(s.heap.push { cls:=.type "range",data:=.fields #[.int lo t,.int hi u,.int 1 v] }).objs.size,[(s.heap.push { cls:=.type "range",data:=.fields #[.int lo t,.int hi u,.int 1 v] }).objs.size],_,_,H,rfl,
  I1.kept (t':=tk) fun b o e=>Heap.get?_push_of_some _ e,turn_range _ lo (hi - lo).toNat,?_,fun b hb=>?_,q⟩
 ·have e1:lo+((0:Nat):Int) * 1=lo:=by simp
  have e2:(((hi - lo).toNat:Nat):Int) - ((0:Nat):Int)=Builtin.Range.rangeSize lo hi 1:=by rw[rangeSize_one];split <;> lia
  show IsRangeIter _ _ (lo+((0:Nat):Int) * 1) ((((hi - lo).toNat:Nat):Int) - ((0:Nat):Int)) 1
  rw[e1,e2]
  exact Heap.get?_push_size _ rfl
 ·have e:b=(s.heap.push { cls:=.type "range",data:=.fields #[.int lo t,.int hi u,.int 1 v] }).objs.size:=by simpa using hb
  subst e
  exact I1.fpOk (Nat.le_refl _) (I1.hok.fresh (Nat.le_refl _))
def iRng1 (ta:TA):TI:=fun σ H R=>ta σ H fun vs H1=>∃ j:Int,vs=[.int j]/\-(2 ^ 62)<=j/\j < 2 ^ 62/\R (Itr 0 j.toNat) H1
theorem pi_range1 {a:Expr}{ta:TA}{p pos:Pos}(hg:Gl X "range") (hm:X.mg "range" = none) (ha:PA X [a] ta) (hs:starEach [a] X.env=[(false,eval a X.env)]:=by rfl):PI X tg (.Call (.Name "range" p) [a] [] pos) (iRng1 ta):=by
 intro pins s σ H R I h
 refine Call_ (ld_blt I hg hm boot_range (PyProof.Rows.callWith_type1 (thn (ha pos pins s σ H _ I h) fun us s1 ⟨vs,H1,I1,r1,q1⟩=>?_) hs rfl))
 obtain ⟨j,e,q1,q2,q⟩:=q1
 subst e
 cases r1 with
 | cons r rr =>
  cases rr
  obtain ⟨t,rfl⟩:=r
  exact call_range_1 (range_it I1 (by lia) (by lia) q1 q2 (by simpa using q))
def tFor (wi:TI) (g:TG) (tb:TS):TS:=fun D σ H=>wi σ H fun J H1=>∃ W:Nat->Nat->St->Hp->Prop,(∃ m,W 0 m σ H1)/\∀ i m σ H,W i m σ H ->
 (J.stop i H/\D.nx σ H)\/(J.go i H/\∃ N:St->Hp->Prop,(∀ σ' H',N σ' H'->∃ m',m' < m/\W (i+1) m' σ' H')/\∀ x H',J.yld i H x H'->g x σ H' fun σ2 H2=>tb { D with nx:=N,ct:=N,bk:=D.nx } σ2 H2)
noncomputable def pinsAt (fp:List Addr) (h:Heap):List (Addr × Obj):=fp.filterMap fun b=>(h.get? b).map fun o=>(b,o)
theorem mem_pinsAt {fp:List Addr}{h:Heap}{b:Addr}{o:Obj}(hb:b ∈ fp) (e:h.get? b=some o):(b,o) ∈ pinsAt fp h:=List.mem_filterMap.mpr ⟨b,hb,by rw[e];rfl⟩
theorem of_pinsAt {fp:List Addr}{h:Heap}{p:Addr × Obj}(hp:p ∈ pinsAt fp h):p.1 ∈ fp/\h.get? p.1=some p.2:=by
 obtain ⟨b,hb,e⟩:=List.mem_filterMap.mp hp
 cases q:h.get? b with
 | none=>rw[q] at e;cases e
 | some o =>
  rw[q] at e
  have e':(b,o)=p:=Option.some.inj e
  subst e'
  exact ⟨hb,q⟩
theorem Inv.pinned {pins:List (Addr × Obj)}{σ:St}{H:Hp}{s:Shared}{fp:List Addr}(I:Inv X pins σ H s) (hf:∀ b ∈ fp,FpOk X pins H b) (ho:∀ b ∈ fp,∃ o,s.heap.get? b=some o/\∀ v,o.data ≠ .cell v):Inv X (pins++pinsAt fp s.heap) σ H s :=
 I.pins_of fun p hp=>(List.mem_append.mp hp).elim (fun z=>I.pin p (List.mem_append_right _ z)) fun z=>by
  obtain ⟨hb,e⟩:=of_pinsAt z
  obtain ⟨f0,f1,f2,_⟩:=hf p.1 hb
  obtain ⟨o,e',d⟩:=ho p.1 hb
  rw[e] at e';cases e'
  exact ⟨e,f0,f1,f2,d⟩
theorem Inv.unpinned {pins pl:List (Addr × Obj)}{σ:St}{H:Hp}{s:Shared}(I:Inv X (pins++pl) σ H s):Inv X pins σ H s:=I.pins_of fun p hp=>I.pin p (List.mem_append_right _ (List.mem_append_left _ hp))
theorem ps_for {iter:Expr}{body:List Stmt}{wi:TI}{g:TG}{tb:TS}{pos:Pos}(hp:PassesOwn (model X.prog X.w) X.A X.env X.xe) (hc:X.calm=true) (hi:PI X tg iter wi) (hg:PG X tg g) (hb:PSs X body tb)
  (hs:∀ x,foldedSetIterable iter X.env x=pure x:=by intro _;rfl):PS X (.For tg iter body [] pos) (tFor wi g tb):=by
 intro pins s σ H D I h
 refine wpAny_For (thn (hi pins s σ H _ I h) fun v s1 h1=>thn h1 fun itv s2 h2=>?_) hs
 obtain ⟨it,fp,tn,J,H2,e,I2,T,st2,f2,W,⟨m0,w0⟩,turn⟩:=h2
 subst e
 -- what stays true of the iterator's objects through the loop
 have stat:∀ {H':Hp},(∀ b ∈ fp,H' b=none)->∀ b ∈ fp,FpOk X pins H' b:=fun hn b hb=>⟨hn b hb,(f2 b hb).2⟩
 refine codeAny_forLoop_any (fun n s'=>∃ i σ' H',Inv X pins σ' H' s'/\tn i s'.heap/\(∀ b ∈ fp,H' b=none)/\W i n σ' H') ?_ m0 ⟨0,σ,H2,I2,st2,fun b hb=>(f2 b hb).1,w0⟩
 rintro n s3 ⟨i,σ3,H3,I3,st3,fr3,w3⟩
 rcases turn i n σ3 H3 w3 with ⟨stop,qn⟩ | ⟨go,N,hN,step⟩
 ·refine wpAny_passesOwn hp (thn (T.done X rfl rfl rfl hc i pins s3 σ3 H3 X.xe I3 (stat fr3) st3 stop) fun r s4 ⟨hr,I4⟩=>?_)
  subst hr
  exact wpAny_execs_nil ⟨σ3,H3,I4,qn⟩
 ·refine wpAny_passesOwn hp (thn (T.item X rfl rfl rfl hc i pins s3 σ3 H3 X.xe I3 (stat fr3) st3 go) fun r s4 ⟨u,hr,h4⟩=>?_)
  subst hr
  refine wpAny_passesOwn hp (thn h4 fun _ s5 ⟨x,H5,I5,r5,y5,st5,fr5⟩=>?_)
  have I5':=I5.pinned (stat fr5) (T.obj _ _ st5)
  refine wpAny_passesOwn hp (thn (hg _ s5 σ3 H5 x u _ I5' r5 (step x H5 y5)) fun _ s6 ⟨σ6,H6,I6,q6⟩=>?_)
  refine wpAny_passesOwn hp (thn (hb _ s6 σ6 H6 _ I6 q6) fun f s7 q7=>?_)
  have again:∀ {σ7:St}{H7:Hp},Inv X (pins++pinsAt fp s5.heap) σ7 H7 s7->N σ7 H7->∃ m,m < n/\∃ i σ' H',Inv X pins σ' H' s7/\tn i s7.heap/\(∀ b ∈ fp,H' b=none)/\W i m σ' H':=fun {σ7 H7} I7 n7=>by
   obtain ⟨m',hm,w7⟩:=hN σ7 H7 n7
   refine ⟨m',hm,i+1,σ7,H7,I7.unpinned,T.keep _ _ _ st5 fun b hb o e=>(I7.pin (b,o) (List.mem_append_right _ (List.mem_append_right _ (mem_pinsAt hb e)))).1,fun b hb=>?_,w7⟩
   obtain ⟨o,e,d⟩:=T.obj _ _ st5 b hb
   exact (I7.pin (b,o) (List.mem_append_right _ (List.mem_append_right _ (mem_pinsAt hb e)))).2.1
  cases f with
  | next=>obtain ⟨σ7,H7,I7,n7⟩:=q7;exact again I7 n7
  | cont=>obtain ⟨σ7,H7,I7,n7⟩:=q7;exact again I7 n7
  | brk=>obtain ⟨σ7,H7,I7,q7⟩:=q7;exact ⟨σ7,H7,I7.unpinned,q7⟩
  | ret v=>obtain ⟨x7,σ7,H7,I7,r7,q7⟩:=q7;exact ⟨x7,σ7,H7,I7.unpinned,r7,q7⟩
end
end L2
namespace L2
open PySem PySem.Spec PyProof.Rows
abbrev R2:=V->V->Hp->VK->Prop
def OpR (X:Cx) (f:Value->Value->Sem Value) (r:R2):Prop :=
 ∀ (pins:List (Addr × Obj)) (s:Shared) (σ:St) (H:Hp) (x y:V) (v u:Value) (Q:VK),Inv X pins σ H s->RelV x v->RelV y u->r x y H Q ->
  wpAny (model X.prog X.w) X.A (f v u) (EP X pins σ Q) X.xe s
def UnR (X:Cx) (f:Value->Sem Value) (r:V->Hp->VK->Prop):Prop :=
 ∀ (pins:List (Addr × Obj)) (s:Shared) (σ:St) (H:Hp) (x:V) (v:Value) (Q:VK),Inv X pins σ H s->RelV x v->r x H Q ->
  wpAny (model X.prog X.w) X.A (f v) (EP X pins σ Q) X.xe s
def CallR (X:Cx) (f:Value) (r:List V->Hp->VK->Prop):Prop :=
 ∀ (pins:List (Addr × Obj)) (s:Shared) (σ:St) (H:Hp) (xs:List V) (us:List Value) (Q:VK),Inv X pins σ H s->Vals xs us->r xs H Q ->
  wpAny (model X.prog X.w) X.A (call f us) (EP X pins σ Q) X.xe s
def tOp (r:R2) (ta tb:TE):TE:=fun σ H Q=>ta σ H fun x H1=>tb σ H1 fun y H2=>r x y H2 Q
def tUn (r:V->Hp->VK->Prop) (ta:TE):TE:=fun σ H Q=>ta σ H fun x H1=>r x H1 Q
def rI (C:Int->Int->Prop) (g:Int->Int->V):R2:=fun x y H Q=>∃ i j,x=.int i/\y=.int j/\C i j/\Q (g i j) H
def rI0 (g:Int->Int->V):R2:=fun x y H Q=>∃ i j,x=.int i/\y=.int j/\Q (g i j) H
def rU (g:Int->V):V->Hp->VK->Prop:=fun x H Q=>∃ i,x=.int i/\Q (g i) H
section
variable {X : Cx} {a b c : Expr} {ta tb tc : TE} {pos : Pos}
theorem binT (ha:PE X a ta) (hb:PE X b tb) {pins:List (Addr × Obj)}{s:Shared}{σ:St}{H:Hp}{R:V->V->Hp->Prop}(I:Inv X pins σ H s)
  (h:ta σ H fun x H1=>tb σ H1 fun y H2=>R x y H2) {Q:Value->Shared->Prop}{f:Value->Value->Sem Value}
  (hf:∀ v u s2 x y H2,Inv X pins σ H2 s2->RelV x v->RelV y u->R x y H2->wpAny (model X.prog X.w) X.A (f v u) Q X.xe s2) :
  wpAny (model X.prog X.w) X.A (eval a X.env) (fun v s₁=>wpAny (model X.prog X.w) X.A (eval b X.env) (fun u s₂=>wpAny (model X.prog X.w) X.A (f v u) Q X.xe s₂) X.xe s₁) X.xe s:=by
 refine thn (ha pins s σ H _ I h) fun v s1 ⟨x,H1,I1,r1,q1⟩=>?_
 refine thn (hb pins s1 σ H1 _ I1 q1) fun u s2 ⟨y,H2,I2,r2,q2⟩=>?_
 exact hf v u s2 x y H2 I2 r1 r2 q2
theorem pe_op {op:Operator}{r:R2}(ho:OpR X (binaryOp op) r) (ha:PE X a ta) (hb:PE X b tb):PE X (.BinOp a op b pos) (tOp r ta tb):=by
 intro pins s σ H Q I h
 exact wpAny_BinOp (binT ha hb I h fun v u s2 x y H2 I2 rx ry q=>ho pins s2 σ H2 x y v u Q I2 rx ry q)
theorem pe_un {op:UnaryOp}{r:V->Hp->VK->Prop}(ho:UnR X (unaryOp op) r) (ha:PE X a ta):PE X (.UnaryOp op a pos) (tUn r ta):=by
 intro pins s σ H Q I h
 exact UnaryOp_ (thn (ha pins s σ H _ I h) fun v s1 ⟨x,H1,I1,r1,q1⟩=>ho pins s1 σ H1 x v Q I1 r1 q1)
theorem opI {f:Value->Value->Sem Value}{C:Int->Int->Prop}{g:Int->Int->Int}
  (rule:∀ (i j:Int) (t u:Tok) (s:Shared) (Q:Value->Shared->Prop) (E:Value->Shared->Prop),C i j->Q (.int (g i j) s.toks) { s with toks:=s.toks+1 }->wpAny (model X.prog X.w) X.A (f (.int i t) (.int j u)) Q E s) :
  OpR X f (rI C fun i j=>.int (g i j)):=by
 intro pins s σ H x y v u Q I rx ry h
 obtain ⟨i,j,rfl,rfl,hc,q⟩:=h
 obtain ⟨t,rfl⟩:=rx
 obtain ⟨t',rfl⟩:=ry
 exact rule i j t t' s _ _ hc ⟨.int (g i j),H,I.tok _,⟨_,rfl⟩,q⟩
theorem opI0 {f:Value->Value->Sem Value}{g:Int->Int->Int}
  (rule:∀ (i j:Int) (t u:Tok) (s:Shared) (Q:Value->Shared->Prop) (E:Value->Shared->Prop),Q (.int (g i j) s.toks) { s with toks:=s.toks+1 }->wpAny (model X.prog X.w) X.A (f (.int i t) (.int j u)) Q E s) :
  OpR X f (rI0 fun i j=>.int (g i j)):=by
 intro pins s σ H x y v u Q I rx ry h
 obtain ⟨i,j,rfl,rfl,q⟩:=h
 obtain ⟨t,rfl⟩:=rx
 obtain ⟨t',rfl⟩:=ry
 exact rule i j t t' s _ _ ⟨.int (g i j),H,I.tok _,⟨_,rfl⟩,q⟩
theorem opB0 {f:Value->Value->Sem Value}{g:Int->Int->Bool}
  (rule:∀ (i j:Int) (t u:Tok) (s:Shared) (Q:Value->Shared->Prop) (E:Value->Shared->Prop),Q (.bool (g i j)) s->wpAny (model X.prog X.w) X.A (f (.int i t) (.int j u)) Q E s) :
  OpR X f (rI0 fun i j=>.bl (g i j)):=by
 intro pins s σ H x y v u Q I rx ry h
 obtain ⟨i,j,rfl,rfl,q⟩:=h
 obtain ⟨t,rfl⟩:=rx
 obtain ⟨t',rfl⟩:=ry
 exact rule i j t t' s _ _ ⟨.bl (g i j),H,I,rfl,q⟩
def CDiv (i j:Int):Prop:=0 < j/\j < 1073741824
def CPow (i j:Int):Prop:=0<=j/\j<=1000000/\i.natAbs < 2 ^ 64
def CMul (i j:Int):Prop:=(-(2 ^ 64) < i/\i < 2 ^ 64)\/(-(2 ^ 64) < j/\j < 2 ^ 64)
theorem CMul.ok {i j:Int}(h:CMul i j):IntMulOk i j:=by
 rcases h with ⟨h1,h2⟩ | ⟨h1,h2⟩
 ·exact .of_left (intBits_le_64 h1 h2)
 ·exact .of_right (intBits_le_64 h1 h2)
theorem op_add:OpR X (binaryOp .Add) (rI0 fun i j=>.int (i+j)):=opI0 fun _ _ _ _ _ _ _ q=>add_int q
theorem op_sub:OpR X (binaryOp .Sub) (rI0 fun i j=>.int (i - j)):=opI0 fun _ _ _ _ _ _ _ q=>sub_int q
theorem op_mul:OpR X (binaryOp .Mult) (rI CMul fun i j=>.int (i * j)):=opI fun _ _ _ _ _ _ _ hc q=>mul_int q hc.ok
theorem op_fdiv:OpR X (binaryOp .FloorDiv) (rI CDiv fun i j=>.int (i / j)):=opI fun i j _ _ _ _ _ hc q=>by
 have h1:(0:Int) < j:=hc.1
 have h2:j < 1073741824:=hc.2
 exact floordiv_int (by lia) (by rw[Int.fdiv_eq_ediv_of_nonneg i (by lia)];exact q) (.inl (PyProof.noPylong_small (by lia)))
theorem op_mod:OpR X (binaryOp .Mod) (rI (fun _ j=>0 < j) fun i j=>.int (i % j)):=opI fun i j _ _ _ _ _ hc q=>by
 have h1:(0:Int) < j:=hc
 exact mod_int' (by lia) (by rw[Int.fmod_eq_emod_of_nonneg i (by lia)];exact q)
theorem op_pow:OpR X (binaryOp .Pow) (rI CPow fun i j=>.int (i ^ j.toNat)):=opI fun _ _ _ _ _ _ _ hc q=>pow_int_small hc.1 hc.2.1 hc.2.2 q
theorem unI {f:Value->Sem Value}{g:Int->Int}
  (rule:∀ (i:Int) (t:Tok) (s:Shared) (Q:Value->Shared->Prop) (E:Value->Shared->Prop),Q (.int (g i) s.toks) { s with toks:=s.toks+1 }->wpAny (model X.prog X.w) X.A (f (.int i t)) Q E s) :
  UnR X f (rU fun i=>.int (g i)):=by
 intro pins s σ H x v Q I rx h
 obtain ⟨i,rfl,q⟩:=h
 obtain ⟨t,rfl⟩:=rx
 exact rule i t s _ _ ⟨.int (g i),H,I.tok _,⟨_,rfl⟩,q⟩
theorem un_neg:UnR X (unaryOp .USub) (rU fun i=>.int (-i)):=unI fun _ _ _ _ _ q=>neg_int q
end
section
variable {X : Cx} {a b c : Expr} {ta tb tc : TE} {pos : Pos}
theorem fin_bl {pins:List (Addr × Obj)}{σ:St}{H:Hp}{s:Shared}{Q:VK}{k k':Bool}(I:Inv X pins σ H s) (q:Q (.bl k) H) (e:k=k'):EP X pins σ Q (.bool k') s:=by
 subst e
 exact ⟨.bl k,H,I,rfl,q⟩
theorem op_lt:OpR X (compareOp .Lt) (rI0 fun i j=>.bl (decide (i < j))):=opB0 fun _ _ _ _ _ _ _ q=>lt_int q
theorem op_le:OpR X (compareOp .LtE) (rI0 fun i j=>.bl (decide (i<=j))):=opB0 fun _ _ _ _ _ _ _ q=>le_int q
theorem op_gt:OpR X (compareOp .Gt) (rI0 fun i j=>.bl (decide (j < i))):=opB0 fun _ _ _ _ _ _ _ q=>gt_int q
theorem op_ge:OpR X (compareOp .GtE) (rI0 fun i j=>.bl (decide (j<=i))):=opB0 fun _ _ _ _ _ _ _ q=>ge_int q
theorem op_isN:OpR X (compareOp .Is) (fun x y H Q=>y=.non/\Q (.bl (decide (x=.non))) H):=by
 intro pins s σ H x y v u Q I rx ry h
 obtain ⟨rfl,q⟩:=h
 cases ry
 refine is_none_gen (fin_bl I q ?_)
 cases x <;> first
  | (cases rx;rfl)
  | (obtain ⟨t,rfl⟩:=rx;rfl)
theorem op_notN:OpR X (compareOp .IsNot) (fun x y H Q=>y=.non/\Q (.bl (!decide (x=.non))) H):=by
 intro pins s σ H x y v u Q I rx ry h
 obtain ⟨rfl,q⟩:=h
 cases ry
 refine isnot_none_gen (fin_bl I q ?_)
 cases x <;> first
  | (cases rx;rfl)
  | (obtain ⟨t,rfl⟩:=rx;rfl)
theorem OpR.or {f:Value->Value->Sem Value}{r r':R2}(h:OpR X f r) (h':OpR X f r'):OpR X f (fun x y H Q=>r x y H Q\/r' x y H Q):=by
 intro pins s σ H x y v u Q I rx ry q
 rcases q with q | q
 ·exact h pins s σ H x y v u Q I rx ry q
 ·exact h' pins s σ H x y v u Q I rx ry q
theorem pe_cmpR {op:CmpOp}{r:R2}(ho:OpR X (compareOp op) r) (ha:PE X a ta) (hb:PE X b tb) (hm:behindInMarks op b=false):PE X (.Compare a [op] [b] pos) (tOp r ta tb):=by
 intro pins s σ H Q I h
 exact wpAny_Compare1 (binT ha hb I h fun v u s2 x y H2 I2 rx ry q=>ho pins s2 σ H2 x y v u Q I2 rx ry q) hm
def tTest (t:TE):TT:=fun σ H Q=>t σ H fun x H'=>∃ k,x=.bl k/\Q k H'
theorem pt_cmpR {op:CmpOp}{r:R2}(ho:OpR X (compareOp op) r) (ha:PE X a ta) (hb:PE X b tb) (hm:behindInMarks op b=false):PT X (.Compare a [op] [b] pos) (tTest (tOp r ta tb)):=by
 intro pins s σ H Q I h
 refine wpAny_isTrue_Compare1 (thn (ha pins s σ H _ I h) fun v s1 ⟨x,H1,I1,r1,q1⟩=>thn (hb pins s1 σ H1 _ I1 q1) fun u s2 ⟨y,H2,I2,r2,q2⟩ =>
  thn (ho pins s2 σ H2 x y v u _ I2 r1 r2 q2) fun c s3 ⟨z,H3,I3,r3,k,e,q3⟩=>?_) hm
 subst e
 cases r3
 exact wpAny_truthy_bool ⟨H3,I3,q3⟩
def tChain (r r':R2) (ta tb tc:TE):TE:=fun σ H Q=>ta σ H fun x H1=>tb σ H1 fun y H2=>r x y H2 fun z H3=>∃ k,z=.bl k /\
 (if k=true then tc σ H3 fun w' H4=>r' y w' H4 Q else Q (.bl false) H3)
theorem pe_chain {op op':CmpOp}{r r':R2}(ho:OpR X (compareOp op) r) (ho':OpR X (compareOp op') r') (ha:PE X a ta) (hb:PE X b tb) (hc:PE X c tc)
  (hm:lastMarks [op,op'] [b,c]=false:=by with_unfolding_all rfl):PE X (.Compare a [op,op'] [b,c] pos) (tChain r r' ta tb tc):=by
 intro pins s σ H Q I h
 refine Compare_chain (thn (ha pins s σ H _ I h) fun v s1 ⟨x,H1,I1,r1,q1⟩=>chain_link (thn (hb pins s1 σ H1 _ I1 q1) fun u s2 ⟨y,H2,I2,r2,q2⟩ =>
  thn (ho pins s2 σ H2 x y v u _ I2 r1 r2 q2) fun d s3 ⟨z,H3,I3,r3,k,e,q3⟩=>?_)) hm
 subst e
 cases r3
 refine wpAny_truthy_bool ?_
 cases k with
 | false=>exact ite_ff ⟨.bl false,H3,I3,rfl,q3⟩
 | true=>exact ite_tt (chain_last (thn (hc pins s3 σ H3 _ I3 q3) fun w' s4 ⟨z',H4,I4,r4,q4⟩=>ho' pins s4 σ H4 y z' u w' Q I4 r2 r4 q4))
theorem pt_chain {op op':CmpOp}{r r':R2}(ho:OpR X (compareOp op) r) (ho':OpR X (compareOp op') r') (ha:PE X a ta) (hb:PE X b tb) (hc:PE X c tc)
  (hm:lastMarks [op,op'] [b,c]=false:=by with_unfolding_all rfl):PT X (.Compare a [op,op'] [b,c] pos) (tTest (tChain r r' ta tb tc)):=by
 intro pins s σ H Q I h
 refine isTrue_chain (thn (ha pins s σ H _ I h) fun v s1 ⟨x,H1,I1,r1,q1⟩=>test_link (thn (hb pins s1 σ H1 _ I1 q1) fun u s2 ⟨y,H2,I2,r2,q2⟩ =>
  thn (ho pins s2 σ H2 x y v u _ I2 r1 r2 q2) fun d s3 ⟨z,H3,I3,r3,k,e,q3⟩=>?_)) hm
 subst e
 cases r3
 refine wpAny_truthy_bool ?_
 cases k with
 | false =>
  obtain ⟨k',e',q'⟩:=q3
  cases e'
  exact ite_ff ⟨H3,I3,q'⟩
 | true =>
  refine ite_tt (test_last (thn (hc pins s3 σ H3 _ I3 q3) fun w' s4 ⟨z',H4,I4,r4,q4⟩=>thn (ho' pins s4 σ H4 y z' u w' _ I4 r2 r4 q4) fun d' s5 ⟨z2,H5,I5,r5,k2,e2,q5⟩=>?_))
  subst e2
  cases r5
  exact wpAny_truthy_bool ⟨H5,I5,q5⟩
theorem line63:(sizeLine:Nat) < 2 ^ 63:=by rw[sizeLine_eq];decide
theorem vals1 {x:V}{us:List Value}(r:Vals [x] us):∃ u,us=[u]/\RelV x u:=by
 cases r with
 | cons r1 r2=>cases r2;exact ⟨_,rfl,r1⟩
theorem vals2 {x y:V}{us:List Value}(r:Vals [x,y] us):∃ u w',us=[u,w']/\RelV x u/\RelV y w':=by
 cases r with
 | cons r1 r2 =>
  cases r2 with
  | cons r3 r4=>cases r4;exact ⟨_,_,rfl,r1,r3⟩
theorem call_abs:CallR X (.builtin "abs") (fun xs H Q=>∃ i,xs=[.int i]/\Q (.int (if i < 0 then -i else i)) H):=by
 intro pins s σ H xs us Q I r h
 obtain ⟨i,rfl,q⟩:=h
 obtain ⟨u,rfl,t,rfl⟩:=vals1 r
 exact call_abs_int fun u tk=>⟨.int (if i < 0 then -i else i),H,I.tok _,⟨_,rfl⟩,q⟩
theorem call_max2 (hc:X.calm=true):CallR X (.builtin "max") (fun xs H Q=>∃ i j,xs=[.int i,.int j]/\Q (.int (if j > i then j else i)) H):=by
 intro pins s σ H xs us Q I r h
 obtain ⟨i,j,rfl,q⟩:=h
 obtain ⟨u,w',rfl,⟨t,rfl⟩,⟨t',rfl⟩⟩:=vals2 r
 refine max_two_ints (I.ok.hd hc) fun h' tk k=>⟨_,H,I.kept k,?_,q⟩
 by_cases hj:j > i
 ·rw[if_pos hj,if_pos hj];exact ⟨_,rfl⟩
 ·rw[if_neg hj,if_neg hj];exact ⟨_,rfl⟩
theorem call_min2 (hc:X.calm=true):CallR X (.builtin "min") (fun xs H Q=>∃ i j,xs=[.int i,.int j]/\Q (.int (if j < i then j else i)) H):=by
 intro pins s σ H xs us Q I r h
 obtain ⟨i,j,rfl,q⟩:=h
 obtain ⟨u,w',rfl,⟨t,rfl⟩,⟨t',rfl⟩⟩:=vals2 r
 refine min_two_ints (I.ok.hd hc) fun h' tk k=>⟨_,H,I.kept k,?_,q⟩
 by_cases hj:j < i
 ·rw[if_pos hj,if_pos hj];exact ⟨_,rfl⟩
 ·rw[if_neg hj,if_neg hj];exact ⟨_,rfl⟩
theorem call_int1:CallR X (.type "int") (fun xs H Q=>(∃ i,xs=[.int i]/\Q (.int i) H)\/∃ k,xs=[.bl k]/\Q (.int (if k then 1 else 0)) H):=by
 intro pins s σ H xs us Q I r h
 rcases h with ⟨i,rfl,q⟩ | ⟨k,rfl,q⟩
 ·obtain ⟨u,rfl,t,rfl⟩:=vals1 r
  exact call_int_int ⟨.int i,H,I,⟨_,rfl⟩,q⟩
 ·obtain ⟨u,rfl,r1⟩:=vals1 r
  cases r1
  exact call_int_bool ⟨.int (if k then 1 else 0),H,I.tok _,⟨_,rfl⟩,q⟩
end
end L2
namespace L2
open PySem PySem.Spec PyProof.Rows
structure ObjM (h:Heap) (x dx C:Addr) (mA:Str->Option Value):Prop where
 obj:h.get? x=some (PySem.W.instObj C dx)
 ns:h.Ns1 dx mA
 ne:dx ≠ x
set_option tactic.hygienic true in
theorem lookIn_ns {h:Heap}{dx:Addr}{mA:Str->Option Value}(n:h.Ns1 dx mA):∃ od,h.get? dx=some od/\∀ name,PySem.W.lookIn name od=some (mA name):=by
 obtain ⟨o,es,ep,ho,hd,hk,_,hm⟩:=n
 refine ⟨o,ho,fun name=>?_⟩
 have e:=hm name
 unfold nsFind findBy at e
 rw[<- Array.find?_toList] at e
 unfold PySem.W.lookIn
 rw[hd]
 dsimp only
 split
 ·rename_i y q
  rw[q] at e
  exact congrArg some e
 ·rename_i q
  rw[q] at e
  have a:es.toList.any (·.refKey)=false:=by
   rw[List.any_eq_false]
   intro y hy
   obtain ⟨z,t,hkey⟩:=hk y (Array.mem_toList_iff.mp hy)
   simp[DictEntry.refKey,hkey]
  have a':¬ es.toList.any (·.refKey)=true:=by rw[a];exact Bool.false_ne_true
  rw[if_neg a']
  exact congrArg some e
theorem ObjM.look {h:Heap}{x dx C:Addr}{mA:Str->Option Value}(I:ObjM h x dx C mA):∃ od,PySem.W.InstAt h x (PySem.W.instObj C dx) C (some od)/\∀ name,PySem.W.lookIn name od=some (mA name) :=
 let ⟨od,ho,hl⟩:=lookIn_ns I.ns
 ⟨od,⟨I.obj,rfl,rfl,ho⟩,hl⟩
section
variable {prog : Program} {w : World} {A : Around} {E : Value -> Shared -> Prop} {s : Shared} {K : PySem.W.Frag} {x dx C f : Addr} {mA : Str -> Option Value} {name : Str} {v : Value}
end
theorem RelO.some_of {v:V}{o:Option Value}(r:RelO (some v) o):∃ u,o=some u/\RelV v u:=by
 cases o with
 | none=>exact (show False from r).elim
 | some u=>exact ⟨u,rfl,r⟩
theorem handed_of {v:V}{u:Value}(r:RelV v u):PySem.W.handedIn u=true:=by
 cases v with
 | non=>cases (show u=Value.none from r);rfl
 | bl b=>cases (show u=Value.bool b from r);rfl
 | int i=>obtain ⟨t,e⟩:=(show ∃ t,u=Value.int i t from r);cases e;rfl
 | str x=>obtain ⟨t,e⟩:=(show ∃ t,u=Value.str x t from r);cases e;rfl
 | byt b=>obtain ⟨t,e⟩:=(show ∃ t,u=Value.bytes b t from r);cases e;rfl
 | flt b=>obtain ⟨t,e⟩:=(show ∃ t,u=Value.float b t from r);cases e;rfl
 | ref a=>cases (show u=Value.ref a from r);rfl
 | ty n=>cases (show u=Value.type n from r);rfl
section
variable {P : Program} {w : World} {H H' : Hp} {h h' : Heap} {a C dx : Addr} {fs fs' : List (Str × V)}
theorem ins_get (hok:HOk P w H h) (e:H a=some (.ins C dx fs)):∃ mA,ObjM h a dx C mA/\(∀ f,RelO (fs.lookup f) (mA f))/\PySem.Within mA (fs.map (·.1))/\fs.length<=1000/\H dx=some (.own a):=by
 obtain ⟨d,z,ne,ob,mA,n,r,q⟩:=(show ObjOk P w H h a (.ins C dx fs) from hok a _ e)
 exact ⟨mA,⟨ob,n,ne⟩,r,q,z,d⟩
end
structure Cls (K:PySem.W.Frag) (C:Addr):Prop where
 pg:PySem.W.plainGet K C Str.empty=true
 hd:PySem.W.hasDictIn K C=true
 po:PySem.W.plainOver K C=true
 sa:PySem.W.findIn K (.ref C) "__setattr__" = some (some (.builtin "object.__setattr__"))
theorem Cls.get {K:PySem.W.Frag}{C:Addr}(c:Cls K C) (f:Str):PySem.W.plainGet K C f=true:=c.pg
section
variable {X : Cx} {pins : List (Addr × Obj)} {σ : St} {H : Hp} {s : Shared} {a C dx : Addr} {fs : List (Str × V)} {f : Str} {v : V} {A : Around} {E : Value -> Shared -> Prop}
theorem attr_of {prog:Program}{w:World}{env:Env}{e:Expr}{f:Str}{pos:Pos}{s:Shared}{Q:Value->Shared->Prop}(hb:attributeBase e f env (eval e env)=eval e env)
  (h:wpAny (model prog w) A (eval e env) (fun o s₁=>wpAny (model prog w) A (getAttr o f true) Q E s₁) E s):wpAny (model prog w) A (eval (.Attribute e f pos) env) Q E s :=
 Attribute_any_ h (by rw[arm_eval_Attribute,hb])
end
section
variable {X : Cx} {o e value : Expr} {f : Str} {pos pos' tpos : Pos} {ta tv : TE}
end
section
variable {X : Cx} {pins : List (Addr × Obj)} {σ : St} {H : Hp} {s : Shared} {A : Around} {E : Value -> Shared -> Prop} {Q : Value -> Shared -> Prop} {c : Value} {b : Bool}
inductive TyOf (K:PySem.W.Frag) (H:Hp):V->Value->Prop where
 | non:TyOf K H .non (.type "NoneType")
 | bl (x:Bool):TyOf K H (.bl x) (.type "bool")
 | int (i:Int):TyOf K H (.int i) (.type "int")
 | str (x:Str):TyOf K H (.str x) (.type "str")
 | flt (x:UInt64):TyOf K H (.flt x) (.type "float")
 | lst {a:Addr}{xs:List V}(e:H a=some (.lst xs)):TyOf K H (.ref a) (.type "list")
 | frz {a:Addr}{o:Obj}{xs:List V}(e:H a=some (.frz o (.lst xs))):TyOf K H (.ref a) (.type "list")
 | tup {a:Addr}{xs:List V}(e:H a=some (.tup xs)):TyOf K H (.ref a) (.type "tuple")
 | dK {a:Addr}{kvs:List (Key × V)}(e:H a=some (.dK kvs)):TyOf K H (.ref a) (.type "dict")
 | dT {a:Addr}{kvs:List (List Key × V)}(e:H a=some (.dT kvs)):TyOf K H (.ref a) (.type "dict")
 | ins {a C dx:Addr}{fs:List (Str × V)}(e:H a=some (.ins C dx fs)) (cl:Cls K C) (ha:PySem.W.findIn K (.ref C) "__class__" = some (some (.builtin "object.__class__")))
   (hn:PySem.W.specialIn K (.builtin "object.__class__") "__get__" = some (some (.builtin "getset_descriptor.__get__"))) (htk:PySem.W.takesIn K (.builtin "object.__class__")=some true)
   (hm:PySem.W.mroIn K C (.type "object")=some true):TyOf K H (.ref a) (.ref C)
theorem isinst_ok {x:V}{u t:Value}(I:Inv X pins σ H s) (rx:RelV x u) (ty:TyOf X.K H x t) (e:PySem.W.kitOne X.K t c=some b) (h:∀ tk,Q (.bool b) { s with toks:=tk }) :
  wpAny (model X.prog X.w) A (call (.builtin "isinstance") [u,c]) Q E s:=by
 cases ty with
 | non=>cases (show u=Value.none from rx);exact PySem.W.kia_one PySem.W.kitx_none I.kIn True.intro e (fun z=>nomatch z) h
 | bl y=>cases (show u=Value.bool y from rx);exact PySem.W.kia_one PySem.W.kitx_bool I.kIn True.intro e (fun z=>nomatch z) h
 | int i=>obtain ⟨t,q⟩:=(show ∃ t,u=Value.int i t from rx);cases q;exact PySem.W.kia_one PySem.W.kitx_int I.kIn True.intro e (fun z=>nomatch z) h
 | str y=>obtain ⟨t,q⟩:=(show ∃ t,u=Value.str y t from rx);cases q;exact PySem.W.kia_one PySem.W.kitx_str I.kIn True.intro e (fun z=>nomatch z) h
 | flt y=>obtain ⟨t,q⟩:=(show ∃ t,u=Value.float y t from rx);cases q;exact PySem.W.kia_one PySem.W.kitx_float I.kIn True.intro e (fun z=>nomatch z) h
 | @lst a xs ea =>
  cases (show u=Value.ref a from rx)
  obtain ⟨_,_,n,_,h1⟩:=(show ObjOk X.prog X.w H s.heap a (.lst xs) from I.hok a _ ea)
  exact PySem.W.kia_one PySem.W.kitx_list I.kIn ⟨_,h1,rfl⟩ e (fun z=>nomatch z) h
 | @frz a ob xs ea =>
  cases (show u=Value.ref a from rx)
  obtain ⟨_,_,_,n,_,h1⟩:=(show ObjOk X.prog X.w H s.heap a (.frz ob (.lst xs)) from I.hok a _ ea)
  exact PySem.W.kia_one PySem.W.kitx_list I.kIn ⟨_,h1,rfl⟩ e (fun z=>nomatch z) h
 | @tup a xs ea =>
  cases (show u=Value.ref a from rx)
  obtain ⟨_,_,_,p⟩:=(show ObjOk X.prog X.w H s.heap a (.tup xs) from I.hok a _ ea)
  obtain ⟨o,h1,h2,_⟩:=p
  exact PySem.W.kia_one PySem.W.kitx_tuple I.kIn ⟨o,h1,h2⟩ e (fun z=>nomatch z) h
 | @dK a kvs ea =>
  cases (show u=Value.ref a from rx)
  obtain ⟨_,_,vs,_,p⟩:=(show ObjOk X.prog X.w H s.heap a (.dK kvs) from I.hok a _ ea)
  obtain ⟨o,es,ep,h1,h2,_⟩:=p
  exact PySem.W.kia_one PySem.W.kitx_dict I.kIn ⟨o,h1,h2.1⟩ e (fun z=>nomatch z) h
 | @dT a kvs ea =>
  cases (show u=Value.ref a from rx)
  obtain ⟨_,_,xs,_,o,es,ep,h1,h2,_⟩:=(show ObjOk X.prog X.w H s.heap a (.dT kvs) from I.hok a _ ea)
  exact PySem.W.kia_one PySem.W.kitx_dict I.kIn ⟨o,h1,h2.1⟩ e (fun z=>nomatch z) h
 | @ins a C dx fs ea cl ha hn htk hm =>
  cases (show u=Value.ref a from rx)
  obtain ⟨mA,O,_⟩:=ins_get I.hok ea
  obtain ⟨od,J,_⟩:=O.look
  exact PySem.W.kia_one (PySem.W.kitx_own (cl.get _) cl.hd ha hn htk hm) I.kIn J e (fun z=>nomatch z) h
end
end L2
namespace L2
open PySem PySem.Spec PyProof.Rows
structure Room (k:Nat) (A:Around):Prop where
 hd:A.handled=none
 dp:A.depth+3 * k+5 < recursionLimit
 un:A.units+16 * k+200 < cLine
theorem Room.deeper {k:Nat}{A:Around}(r:Room (k+1) A) (env:Env):Room k (A.deeper env) :=
 ⟨r.hd,by have:=r.dp;show A.depth+1+3 * k+5 < _;lia,by have:=r.un;show A.units+3+16 * k+200 < _;lia⟩
theorem make_depth {A:Around}{C:Addr}{us:List Value}{kw:List (Str × Value)}:(A.under (.builtin "type.__call__" ⟨.ref C::us,kw⟩)).depth=A.depth+1:=by
 first | rfl | simp[Around.under,Code.weight,Code.isCreation,Code.isGuard,Code.isCaller,Code.frames,Code.isFrame,guardIds]
theorem Room.depth {k:Nat}{A:Around}(r:Room k A):A.depth < recursionLimit:=by have:=r.dp;lia
theorem Room.units {k:Nat}{A:Around}(r:Room k A):A.units+64 < cLine:=by have:=r.un;lia
def tNil:TA:=fun _ H Q=>Q [] H
def tCons (ta:TE) (tr:TA):TA:=fun σ H Q=>ta σ H fun x H1=>tr σ H1 fun xs H2=>Q (x::xs) H2
section
variable {X : Cx} {e : Expr} {es : List Expr} {te : TE} {t : TA} {pos : Pos}
theorem pa_nil:PA X [] tNil:=fun _ _ _ _ H Q I h=>Calls.spliced_nil ⟨[],H,I,.nil,h⟩
theorem pa_cons (ha:PE X e te) (hr:PA X es t) (hs:starEach (e::es) X.env=(false,eval e X.env)::starEach es X.env:=by rfl):PA X (e::es) (tCons te t):=by
 intro pos pins s σ H Q I h
 rw[hs]
 show wpAny _ _ (spliced ((false,eval e X.env)::backTo pos (starEach es X.env))) _ _ s
 refine Calls.spliced_cons (thn (ha pins s σ H _ I h) fun u s1 ⟨x,H1,I1,r1,q1⟩=>?_)
 exact thn (hr pos pins s1 σ H1 _ I1 q1) fun us s2 ⟨xs,H2,I2,r2,q2⟩=>⟨x::xs,H2,I2,.cons r1 r2,q2⟩
def tTup (t:TA):TE:=fun σ H Q=>t σ H fun xs H1=>xs.length<=sizeLine/\∀ p,H1 p=none->Q (.ref p) (upd H1 p (.tup xs))
def tLst (t:TA):TE:=fun σ H Q=>t σ H fun xs H1=>xs.length<=sizeLine/\∀ p,H1 p=none->Q (.ref p) (upd H1 p (.lst xs))
theorem pe_tup {x1}(h:PA X es t):PE X (.Tuple es x1 pos) (tTup t):=by
 intro pins s σ H Q I hq
 refine wpAny_Tuple_spliced (thn (h pos pins s σ H _ I hq) fun us s1 ⟨xs,H1,I1,r,z,q⟩=>⟨by rw[<- r.length];exact z,?_⟩)
 have hf:H1 s1.heap.objs.size=none:=I1.hok.fresh (Nat.le_refl _)
 refine ⟨.ref s1.heap.objs.size,upd H1 s1.heap.objs.size (.tup xs),I1.laid (t':=s1.toks) (fun b u e=>Heap.get?_push_of_some _ e) (Nat.le_refl _) ?_,rfl,q _ hf⟩
 exact ⟨z,us,r,⟨_,Heap.get?_push_size _ rfl,rfl,_,rfl⟩⟩
theorem pe_lst (h:PA X es t):PE X (.List es pos) (tLst t):=by
 intro pins s σ H Q I hq
 refine wpAny_List_spliced (thn (h pos pins s σ H _ I hq) fun us s1 ⟨xs,H1,I1,r,z,q⟩=>⟨by rw[<- r.length];exact z,?_⟩)
 have hf:H1 s1.heap.objs.size=none:=I1.hok.fresh (Nat.le_refl _)
 refine ⟨.ref s1.heap.objs.size,upd H1 s1.heap.objs.size (.lst xs),I1.laid (t':=s1.toks) (fun b u e=>Heap.get?_push_of_some _ e) (Nat.le_refl _) ?_,rfl,q _ hf⟩
 exact ⟨z,us,0,r,Heap.get?_push_size _ rfl⟩
end
abbrev Sp:=List V->Hp->VK->XK->Prop
abbrev CXT:=List Env->Hp->Shared->XK->Value->Shared->Prop
structure Env0 (P:Program) (w:World) (K:PySem.W.Frag) (mg:Str->Option Value) (base:Heap) (A:Around) (outer:List Env) (s:Shared) (H:Hp):Prop where
 frames:A.frames=some outer
 mod:Mod K mg base
 bs:∀ b o,base.get? b=some o->s.heap.get? b=some o/\H b=none
 bsz:base.objs.size<=s.heap.objs.size
 funs:s.heap.FunFrames base outer
 frf:∀ b ∈ frs outer,H b=none
 hok:HOk P w H s.heap
 bare:AllBare s.gens
def CE (outer:List Env) (P:Program) (w:World) (H:Hp) (s:Shared) (Q:VK) (u:Value) (s':Shared):Prop :=
 ∃ v H',s'.os=s.os/\AllBare s'.gens/\Un (frs outer) [] H H' s.heap s'.heap/\HOk P w H' s'.heap/\RelV v u/\Q v H'
def CR (CX:CXT) (outer:List Env) (P:Program) (w:World) (H:Hp) (s:Shared) (Q:VK) (E:XK) (r:Result) (s':Shared):Prop :=
 match r with
 | .ok (.ret u)=>CE outer P w H s Q u s'
 | .ok _=>False
 | .error e=>CX outer H s E e s'
structure FnOk (P:Program) (w:World) (K:PySem.W.Frag) (mg:Str->Option Value) (base:Heap) (CX:CXT) (k:Nat) (f:Addr) (fd:FuncData) (ps:List Str) (sp:Sp):Prop where
 len:∀ vs H Q E,sp vs H Q E->vs.length=ps.length
 run:∀ (A:Around) (outer:List Env) (s:Shared) (H:Hp) (args:Args) (us:List Value) (vs:List V) (Q:VK) (E:XK),Room k A->Env0 P w K mg base A outer s H->BindsTo s fd args (ps.zip us)->Vals vs us->sp vs H Q E ->
  codeAny (model P w) A (.call (.ref f) args) (CR CX outer P w H s Q E) s
theorem Env0.make {P:Program}{w:World}{K:PySem.W.Frag}{mg:Str->Option Value}{base:Heap}{A:Around}{outer:List Env}{s:Shared}{H:Hp}(e:Env0 P w K mg base A outer s H) (C:Addr) (us:List Value) (kw:List (Str × Value)) :
  Env0 P w K mg base (A.under (.builtin "type.__call__" ⟨.ref C::us,kw⟩)) outer s H:=⟨by first | exact e.frames | (simpa [Around.under,Code.envs,Code.isFrame,pushEnvs] using e.frames),e.mod,e.bs,e.bsz,e.funs,e.frf,e.hok,e.bare⟩
section
variable {X : Cx} {pins : List (Addr × Obj)} {σ : St} {H : Hp} {s s' : Shared}
theorem Inv.env0 (I:Inv X pins σ H s):Env0 X.prog X.w X.K X.mg X.base X.A X.stack s H :=
 ⟨I.ok.frames,I.ok.mod,I.bs,Nat.le_trans I.ok.bsz I.sz,I.stack,I.stkFree,I.hok,I.bare⟩
theorem Inv.after {Q:VK}{u:Value}(I:Inv X pins σ H s) (h:CE X.stack X.prog X.w H s Q u s'):EP X pins σ Q u s':=by
 obtain ⟨v,H',os,bare,un,hok,r,q⟩:=h
 obtain ⟨hh,g,d,t,os'⟩:=s'
 obtain rfl:os'=s.os:=os
 exact ⟨v,H',I.call (h':=hh) (g':=g) (d':=d) (t':=t) (ch:=[]) un hok bare (fun b z=>absurd z (by simp)),r,q⟩
end
def tCall (sp:Sp) (dvs:List V) (E:XK) (t:TA):TE:=fun σ H Q=>t σ H fun vs H1=>sp (vs++dvs) H1 Q E
def Binds (K:PySem.W.Frag) (fd:FuncData) (ps:List Str) (ds:List Value):Prop :=
 ∀ (s:Shared) (us:List Value),K.In s.heap->(us++ds).length=ps.length->BindsTo s fd ⟨us,[]⟩ (ps.zip (us++ds))
theorem Binds.all {K:PySem.W.Frag}{fd:FuncData}{ps:List Str}(h:∀ us:List Value,us.length=ps.length->bindArgs fd ⟨us,[]⟩=pure (ps.zip us)):Binds K fd ps []:=fun s us _ hl=>by
 rw[List.append_nil] at hl ⊢
 exact .of_eq (h us hl)
def Passes (CX:CXT) (X:Cx) (E:XK):Prop:=∀ (pins:List (Addr × Obj)) (σ:St) (H:Hp) (s:Shared) (e:Value) (s':Shared),Inv X pins σ H s->CX X.stack H s E e s'->X.xe e s'
section
variable {X : Cx} {CX : CXT} {k : Nat} {f C : Addr} {fd : FuncData} {ps : List Str} {sp : Sp} {dvs : List V} {ds : List Value} {E : XK} {x m : Str} {p pos apos : Pos} {e o : Expr} {es : List Expr} {ta : TE} {t : TA}
theorem run_fn {pins:List (Addr × Obj)}{σ:St}{H:Hp}{s:Shared}{Q:VK}{us:List Value}{vs:List V}(F:FnOk X.prog X.w X.K X.mg X.base CX k f fd ps sp) (hr:Room k X.A) (hb:Binds X.K fd ps ds) (hd:Vals dvs ds) (hx:Passes CX X E)
  (I:Inv X pins σ H s) (r:Vals vs us) (h:sp (vs++dvs) H Q E):wpAny (model X.prog X.w) X.A (call (.ref f) us) (EP X pins σ Q) X.xe s:=by
 have r2:Vals (vs++dvs) (us++ds):=r.append hd
 have hl:(us++ds).length=ps.length:=by rw[<- r2.length];exact F.len _ _ _ _ h
 refine wpAny_call (codeAny_mono (F.run X.A X.stack s H ⟨us,[]⟩ (us++ds) (vs++dvs) Q E hr I.env0 (hb s us I.kIn hl) r2 h) fun r s' hq=>?_)
 cases r with
 | error e=>exact hx pins σ H s e s' I hq
 | ok fl =>
  cases fl with
  | ret u=>exact I.after hq
  | next=>exact False.elim hq
  | brk=>exact False.elim hq
  | cont=>exact False.elim hq
theorem pe_call (F:FnOk X.prog X.w X.K X.mg X.base CX k f fd ps sp) (hr:Room k X.A) (hg:Gl X x) (hm:X.mg x=some (.ref f)) (hk:PySem.W.keepIn X.K (.ref f)=true) (hb:Binds X.K fd ps ds) (hd:Vals dvs ds) (hx:Passes CX X E)
  (ha:PA X (e::es) t) (hdb:(x == ("__debug__" : Str))=false:=by decide) (he:starEach (e::es) X.env=(false,eval e X.env)::starEach es X.env:=by rfl) (hpl:(backTo pos (starEach es X.env)).any (·.1)=false:=by rfl) :
  PE X (.Call (.Name x p) (e::es) [] pos) (tCall sp dvs E t):=by
 intro pins s σ H Q I h
 refine wpAny_Call_Name_kw (ld_glob I hg hm ?_ hdb)
 refine PySem.W.callWith_K (h₀:=X.base) I.ok.mod.kin hk (thn (ha pos pins s σ H _ I h) fun us s1 ⟨vs,H1,I1,r,q⟩=>⟨I1.kIn,?_⟩) he hpl
 exact run_fn F hr hb hd hx I1 r q
end
section
variable {X : Cx} {CX : CXT} {k : Nat} {f C : Addr} {fd : FuncData} {ps ks : List Str} {sp : Sp} {E : XK} {x m : Str} {p pos apos kpos : Pos} {e o : Expr} {es : List Expr} {kws : List Keyword} {te ta : TE} {t tk : TA} {nm : Option Str}
variable {g : List Value -> List Value -> List Value} {gV : List V -> List V -> List V}
end
structure FnScope (N P:List Str) (sc:Scope):Prop where
 kind:sc.kind=.function
 co:sc.isCoroutine=false
 gen:sc.isGenerator=false
 nd:N.Nodup
 pre:N.take P.length=P
 par:∀ x ∈ P,sc.names.lookup x=some .local\/sc.names.lookup x=some .cell
 nofree:∀ y ∈ sc.names,y.2 ≠ .free
theorem bindL_out {kindOf:Str->Option NameKind}{x:Str}:∀ {binds:List (Str × Value)}{m:Str->Option Value},(∀ v,(x,v) ∉ binds)->bindL kindOf binds m x=m x
 | [],_,_=>rfl
 | (n,v)::r,m,h=>by
  unfold bindL
  rw[bindL_out fun w hw=>h w (List.mem_cons_of_mem _ hw)]
  split
  ·have:x ≠ n:=by rintro rfl;exact h v List.mem_cons_self
   simp[this]
  ·rfl
theorem bindC_out {kindOf:Str->Option NameKind}{x:Str}:∀ {binds:List (Str × Value)}{m:Str->Option Value},(∀ v,(x,v) ∉ binds)->bindC kindOf binds m x=m x
 | [],_,_=>rfl
 | (n,v)::r,m,h=>by
  unfold bindC
  rw[bindC_out fun w hw=>h w (List.mem_cons_of_mem _ hw)]
  split
  ·rfl
  ·have:x ≠ n:=by rintro rfl;exact h v List.mem_cons_self
   simp[this]
theorem bindL_get {kindOf:Str->Option NameKind}{x:Str}{v:Value}:∀ {P:List Str}{vs:List Value}{i:Nat}{m:Str->Option Value},P.Nodup->P[i]?=some x->vs[i]?=some v->kindOf x=some .local ->
  bindL kindOf (P.zip vs) m x=some v
 | [],_,_,_,_,h,_,_=>by simp at h
 | _::_,[],_,_,_,_,h,_=>by simp at h
 | p::P,w::vs,0,m,nd,h1,h2,hk=>by
  simp at h1 h2;subst h1;subst h2
  show bindL kindOf ((p,w)::P.zip vs) m p=_
  unfold bindL
  rw[bindL_out fun v hv=>(List.nodup_cons.mp nd).1 (List.of_mem_zip hv).1,if_pos hk]
  simp
 | p::P,w::vs,i+1,m,nd,h1,h2,hk=>by
  show bindL kindOf ((p,w)::P.zip vs) m x=_
  unfold bindL
  exact bindL_get (i:=i) (List.nodup_cons.mp nd).2 (by simpa using h1) (by simpa using h2) hk
theorem bindC_get {kindOf:Str->Option NameKind}{x:Str}{v:Value}:∀ {P:List Str}{vs:List Value}{i:Nat}{m:Str->Option Value},P.Nodup->P[i]?=some x->vs[i]?=some v->kindOf x ≠ some .local ->
  bindC kindOf (P.zip vs) m x=some v
 | [],_,_,_,_,h,_,_=>by simp at h
 | _::_,[],_,_,_,_,h,_=>by simp at h
 | p::P,w::vs,0,m,nd,h1,h2,hk=>by
  simp at h1 h2;subst h1;subst h2
  show bindC kindOf ((p,w)::P.zip vs) m p=_
  unfold bindC
  rw[bindC_out fun v hv=>(List.nodup_cons.mp nd).1 (List.of_mem_zip hv).1,if_neg hk]
  simp
 | p::P,w::vs,i+1,m,nd,h1,h2,hk=>by
  show bindC kindOf ((p,w)::P.zip vs) m x=_
  unfold bindC
  exact bindC_get (i:=i) (List.nodup_cons.mp nd).2 (by simpa using h1) (by simpa using h2) hk
noncomputable def start (N:List Str) (vs:List V):St:=vs.map some++List.replicate (N.length - vs.length) none
noncomputable def cxOf (CX:CXT) (P:Program) (w:World) (K:PySem.W.Frag) (mg:Str->Option Value) (base:Heap) (N:List Str) (qual:Str) (scope:Scope) (f:Addr) (cd:Value) (A:Around) (outer:List Env) (s:Shared) (H:Hp) (E:XK):Cx where
 prog:=P
 w:=w
 K:=K
 mg:=mg
 base:=base
 A:=A.deeper (envOfC qual scope s.heap.objs.size f cd)
 N:=N
 s₀:=s
 H₀:=H
 env:=envOfC qual scope s.heap.objs.size f cd
 outer:=outer
 stack:=envOfC qual scope s.heap.objs.size f cd::outer
 ex:=[]
 calm:=true
 fn:=fun _=>true
 pn:=[]
 xe:=fun e s'=>wpAny (model P w) (A.deeper (envOfC qual scope s.heap.objs.size f cd)) (leaving (envOfC qual scope s.heap.objs.size f cd) e) (fun _ s''=>CX outer H s E e s'') (fun e' s''=>CX outer H s E e' s'') s'
theorem cell_has {sc:Scope}{n:Nat}{x:Str}(h:sc.names.lookup x=some .cell):∃ c,(cellsFrom n sc.names []).lookup x=some c:=by
 have q:=PySem.W.cellsFrom_some sc.names n [] (.inl h)
 exact Option.isSome_iff_exists.mp q
theorem inv_start {CX:CXT}{P:Program}{w:World}{K:PySem.W.Frag}{mg:Str->Option Value}{base:Heap}{N ps:List Str}{qual:Str}{scope:Scope}{f:Addr}{cd:Value}{A:Around}{outer:List Env}{s s1:Shared}{H:Hp}{E:XK}{us:List Value}{vs:List V}
  (S:FnScope N ps scope) (hd:A.handled=none) (e0:Env0 P w K mg base A outer s H) (hl:vs.length=ps.length) (r:Vals vs us)
  (x:InCallC s s.heap.objs.size (bindL (envOfC qual scope s.heap.objs.size f cd).kindOf (ps.zip us) fun _=>none) (cellsFrom (s.heap.objs.size+1) scope.names []) (bindC (envOfC qual scope s.heap.objs.size f cd).kindOf (ps.zip us) fun _=>none) s1) :
  Inv (cxOf CX P w K mg base N qual scope f cd A outer s H E) [] (start N vs) H s1:=by
 have hpl:ps.length<=N.length:=by have:=congrArg List.length S.pre;rw[List.length_take] at this;lia
 obtain ⟨h1,tk,rfl,hk⟩:=x.done
 have noA:∀ b:Addr,b ∉ (cxOf CX P w K mg base N qual scope f cd A outer s H E).ex:=fun b z=>absurd (show b ∈ ([]:List Addr) from z) (by simp)
 refine ⟨⟨e0.mod,S.kind,rfl,rfl,Nat.le_refl _,fun y z c h1 h2=>?_,fun y hy=>?_,fun y c _ h=>?_,fun _=>hd,Around.frames_deeper e0.frames,.inr ⟨rfl,rfl⟩,fun b z=>absurd z (noA b),e0.bs,e0.bsz,fun b _ _=>noA b,fun b z=>absurd z (noA b),e0.funs,e0.frf⟩,
  rfl,e0.bare,Un.kept hk,⟨_,x.toInCall.ns,fun i y v h1 h2 h3=>?_⟩,fun y c h=>⟨_,x.cell y c h⟩,e0.hok.fresh (Nat.le_refl _),fun y c h=>?_,fun p hp=>absurd (show p ∈ ([]:List (Addr × Obj)) from hp) (by simp),e0.hok.kept hk,?_⟩
 ·exact name_of_addr x.apart (PySem.mem_of_lookup h1) (PySem.mem_of_lookup h2)
 ·have hy:scope.names.lookup y=some .cell\/scope.names.lookup y=some .free:=hy
  rcases hy with hy | hy
  ·exact cell_has hy
  ·exact absurd rfl (S.nofree _ (PySem.mem_of_lookup hy))
 ·exact Nat.le_of_lt (x.above y c (PySem.mem_of_lookup h))
 ·have hi:i < vs.length:=by
   unfold start at h2
   by_cases hi:i < vs.length
   ·exact hi
   ·rw[List.getElem?_append_right (by simpa using hi)] at h2
    rw[List.getElem?_replicate] at h2
    split at h2 <;> cases h2
  have ha:vs[i]?=some v:=by
   unfold start at h2
   rw[List.getElem?_append_left (by simpa using hi),List.getElem?_map] at h2
   cases e:vs[i]? with
   | none=>rw[e] at h2;cases h2
   | some a=>rw[e] at h2;cases h2;rfl
  obtain ⟨u,hu,rv⟩:=r.get ha
  have hp:ps[i]?=some y:=by
   rw[<- S.pre,List.getElem?_take_of_lt (by lia)];exact h1
  have ndP:ps.Nodup:=by rw[<- S.pre];exact S.nd.sublist (List.take_sublist _ _)
  refine ⟨u,rv,?_⟩
  rcases S.par y (List.mem_of_getElem? hp) with k | k
  ·exact .inl ⟨k,bindL_get ndP hp hu k⟩
  ·obtain ⟨c,e⟩:=cell_has (n:=s.heap.objs.size+1) k
   refine .inr ⟨.inl k,c,e,?_⟩
   have q:=x.cell y c e
   rw[bindC_get ndP hp hu (by show scope.names.lookup y ≠ _;rw[k];decide)] at q
   exact q
 ·exact e0.hok.fresh (Nat.le_of_lt (x.above y c (PySem.mem_of_lookup h)))
 ·unfold start
  show _=N.length
  rw[List.length_append,List.length_map,List.length_replicate]
  lia
theorem fn_of {CX:CXT}{P:Program}{w:World}{K:PySem.W.Frag}{mg:Str->Option Value}{base:Heap}{k:Nat}{f:Addr}{name qual:Str}{params:Arguments}{body:List Stmt}{scope:Scope}{dV kV doc pm cdv ct oc:Value}{an od:Option Addr}
  {osl:Array (Option Value)}{N ps:List Str}{sp:Sp}(lk:K.lookup f=some ⟨oc,od,.func (PySem.W.fnOf name qual params body scope dV kV doc pm an cdv ct),osl⟩) (hcd:PySem.W.codeIn K cdv qual=true) (S:FnScope N ps scope)
  (len:∀ vs H Q E,sp vs H Q E->vs.length=ps.length)
  (hbody:∀ (A:Around) (outer:List Env) (s:Shared) (H:Hp) (vs:List V) (Q:VK) (E:XK),Room k (A.deeper (envOfC qual scope s.heap.objs.size f cdv))->sp vs H Q E ->
   ∃ t,PSs (cxOf CX P w K mg base N qual scope f cdv A outer s H E) body t/\t { nx:=fun _ H'=>Q .non H',rt:=Q } (start N vs) H) :
  FnOk P w K mg base CX (k+1) f (PySem.W.fnOf name qual params body scope dV kV doc pm an cdv ct) ps sp:=by
 refine ⟨len,fun A outer s H args us vs Q E hr e0 hb r hsp=>?_⟩
 have hl:=len _ _ _ _ hsp
 have KX:K.In s.heap:=e0.mod.kin.keeps fun b o e=>(e0.bs b o e).1
 have lim:s.heap.NoLimit:=e0.mod.nolimit.keeps fun b o e=>(e0.bs b o e).1
 have hkind:∀ y ∈ ps.zip us,scope.names.lookup y.1=some .local\/(scope.names.lookup y.1=some .cell/\((cellsFrom (s.heap.objs.size+1) scope.names []).lookup y.1).isSome=true):=fun ⟨n,v⟩ hy=>by
  rcases S.par n (List.of_mem_zip hy).1 with q | q
  ·exact .inl q
  ·exact .inr ⟨q,PySem.W.cellsFrom_some _ _ _ (.inl q)⟩
 refine codeAny_call_function hr.depth (KX _ _ lk) rfl S.co S.gen rfl (PySem.W.codeRec_of KX hcd) (hb _ _ _ _ ?_)
 refine wpAny_newFunctionEnv_cells S.kind hkind fun env he s1 x=>?_
 subst he
 refine ⟨lim.keeps x.toInCall.keep,codeAny_func ?_⟩
 obtain ⟨t,ht,hq⟩:=hbody A outer s H vs Q E (hr.deeper _) hsp
 have I:Inv (cxOf CX P w K mg base N qual scope f cdv A outer s H E) [] (start N vs) H s1:=inv_start S hr.hd e0 hl r x
 refine wpAny_mono (ht [] s1 (start N vs) H _ I hq) (fun fl s' hs=>?_) fun e s' hs=>hs
 have fin:∀ {σ':St}{H':Hp}{v:V}{u:Value},Inv (cxOf CX P w K mg base N qual scope f cdv A outer s H E) [] σ' H' s'->RelV v u->Q v H'->CE outer P w H s Q u s' :=
  fun {σ' H' v u} J rv q=>⟨v,H',J.os,J.bare,J.base,J.hok,rv,q⟩
 cases fl with
 | ret u =>
  obtain ⟨v,σ',H',J,rv,q⟩:=hs
  exact fin J rv q
 | next =>
  obtain ⟨σ',H',J,q⟩:=hs
  exact fin (v:=V.non) (u:=Value.none) J rfl q
 | brk =>
  obtain ⟨_,_,_,q⟩:=hs
  exact False.elim q
 | cont =>
  obtain ⟨_,_,_,q⟩:=hs
  exact False.elim q
end L2
namespace L2
open PySem PySem.Spec PyProof.Rows
section
variable {X : Cx} {x : Str} {p pos : Pos} {e : Expr} {es : List Expr} {t : TA} {id T : String} {r : List V -> Hp -> VK -> Prop}
def tCB (r:List V->Hp->VK->Prop) (t:TA):TE:=fun σ H Q=>t σ H fun vs H1=>r vs H1 Q
theorem pe_callB (hc:CallR X (.builtin id) r) (hg:Gl X x) (hm:X.mg x=none) (hv:bootBuiltins x=some (.builtin id)) (ha:PA X (e::es) t) (hn:x ≠ "__name__" := by decide) (hdb:(x == ("__debug__" : Str))=false:=by decide)
  (he:starEach (e::es) X.env=(false,eval e X.env)::starEach es X.env:=by rfl) (hpl:(backTo pos (starEach es X.env)).any (·.1)=false:=by rfl):PE X (.Call (.Name x p) (e::es) [] pos) (tCB r t):=by
 intro pins s σ H Q I h
 refine wpAny_Call_Name_kw (ld_blt I hg hm hv ?_ hn hdb)
 exact PyProof.Rows.callWith_builtin1 (thn (ha pos pins s σ H _ I h) fun us s1 ⟨vs,H1,I1,r1,q1⟩=>hc pins s1 σ H1 vs us Q I1 r1 q1) he hpl
theorem pe_callTy (hc:CallR X (.type T) r) (hg:Gl X x) (hm:X.mg x=none) (hv:bootBuiltins x=some (.type T)) (ha:PA X (e::es) t) (hn:x ≠ "__name__" := by decide) (hdb:(x == ("__debug__" : Str))=false:=by decide)
  (he:starEach (e::es) X.env=(false,eval e X.env)::starEach es X.env:=by rfl) (hpl:(backTo pos (starEach es X.env)).any (·.1)=false:=by rfl):PE X (.Call (.Name x p) (e::es) [] pos) (tCB r t):=by
 intro pins s σ H Q I h
 refine wpAny_Call_Name_kw (ld_blt I hg hm hv ?_ hn hdb)
 exact PyProof.Rows.callWith_type1 (thn (ha pos pins s σ H _ I h) fun us s1 ⟨vs,H1,I1,r1,q1⟩=>hc pins s1 σ H1 vs us Q I1 r1 q1) he hpl
end
end L2
namespace HT
open PySem PyProof.Rows
section
open PySem.SeqAt
open PySem.AutoSeq1 (wpAny_loadPart')
open PySem.MeetsSeq PySem.MeetsSeq2 PySem.MeetsSeq3
end
section
variable {prog : Program} {w : World} {A : Around} {E : Value -> Shared -> Prop} {s : Shared}
theorem cat_tup {t b:Addr}{vs ws:List Value}{Q:Value->Shared->Prop}(ht:IsTup s.heap t vs.toArray) (hb:IsTup s.heap b ws.toArray) (hv:vs ≠ [])
  (h1:ws=[]->Q (.ref t) s) (h2:ws ≠ []->Q (.ref s.heap.objs.size) { s with heap:=s.heap.push { cls:=.type "tuple",data:=.seq (vs++ws).toArray } })
  (hsz:vs.length+ws.length<=sizeLine):wpAny (model prog w) A (binaryOp .Add (.ref t) (.ref b)) Q E s:=by
 obtain ⟨⟨cls,dd,data,sl⟩,ho,hc,n,hd⟩:=id ht
 obtain ⟨⟨cls2,dd2,data2,sl2⟩,ho2,hc2,n2,hd2⟩:=id hb
 simp only at hc hd hc2 hd2
 subst hc hd hc2 hd2
 have e:vs.toArray++ws.toArray=(vs++ws).toArray:=by simp
 by_cases hw:ws=[]
 ·exact concat_meets ⟨_,ho,rfl⟩ ⟨_,ho2,rfl⟩ noFill_tuple_add seq_tuple_add PySem.F.slot_tuple_add PySem.F.entry_tuple_add (PySem.F.args_tuple_add_2 _ _)
   (tuple_addW1 t b vs.toArray ws.toArray n n2 dd dd2 sl sl2 (by simpa using hv) (by simp[hw])) ⟨ho,ho2,h1 hw⟩
 ·refine concat_meets ⟨_,ho,rfl⟩ ⟨_,ho2,rfl⟩ noFill_tuple_add seq_tuple_add PySem.F.slot_tuple_add PySem.F.entry_tuple_add (PySem.F.args_tuple_add_2 _ _)
   (tuple_addW2 t b vs.toArray ws.toArray n n2 dd dd2 sl sl2 (by simpa using hv) (by simpa using hw) (by rw[List.size_toArray,List.size_toArray];exact hsz)) ⟨ho,ho2,?_⟩
  rw[e]
  exact h2 hw
noncomputable def sIx (n d:Nat):Option Int->Nat
 | none=>d
 | some v=>if v < 0 then (v+(n:Int)).toNat else min v.toNat n
end
end HT
namespace L2
open PySem PySem.Spec PyProof.Rows
abbrev TO:=St->Hp->(Option Int->Hp->Prop)->Prop
section
variable {X : Cx} {e : Expr} {te : TE} {lo hi : Option Expr} {tl th : TO} {pos p2 : Pos}
def rCatT (K:PySem.W.Frag):R2:=fun x y H Q=>∃ a b xs ys,x=.ref a/\y=.ref b/\SqT K H a xs/\SqT K H b ys/\xs ≠ []/\xs.length+ys.length<=sizeLine /\
 (ys=[]->Q (.ref a) H)/\(ys ≠ []->∀ p,H p=none->Q (.ref p) (upd H p (.tup (xs++ys))))
theorem Vals.nil_iff {xs:List V}{us:List Value}(r:Vals xs us):us=[] ↔ xs=[]:=by
 cases r with
 | nil=>simp
 | cons _ _=>simp
theorem op_catT:OpR X (binaryOp .Add) (rCatT X.K):=by
 intro pins s σ H x y v u Q I rx ry h
 obtain ⟨a,b,xs,ys,rfl,rfl,ha,hb,hx,hz,q1,q2⟩:=h
 cases rx
 cases ry
 obtain ⟨its,r1,p1,_⟩:=I.tuple ha
 obtain ⟨its2,r2,p2,_⟩:=I.tuple hb
 refine HT.cat_tup p1 p2 (fun z=>hx (r1.nil_iff.mp z)) (fun z=>⟨.ref a,H,I,rfl,q1 (r2.nil_iff.mp z)⟩) (fun z=>?_) (by rw[<- r1.length,<- r2.length];exact hz)
 refine ⟨.ref s.heap.objs.size,_,I.laid (t':=s.toks) (o:=.tup (xs++ys)) (fun b ob q=>Heap.get?_push_of_some _ q) (Nat.le_refl _) ?_,rfl,q2 (fun w=>z (r2.nil_iff.mpr w)) _ (I.hok.fresh (Nat.le_refl _))⟩
 exact ⟨by rw[List.length_append];exact hz,_,r1.append r2,IsTup.new _ _⟩
end
end L2
namespace L2
open PySem PySem.Spec PyProof.Rows
noncomputable def ixN (n:Nat) (i:Int):Option Nat:=if 0<=i then (if i < n then some i.toNat else none) else if -(n:Int)<=i then some (i+n).toNat else none
noncomputable def atI {α:Type}(xs:List α) (i:Int):Option α:=(ixN xs.length i).bind fun j=>xs[j]?
theorem ixN_seq {n:Nat}{i:Int}{j:Nat}(h:ixN n i=some j):seqIndex? i n=some j/\j < n/\-(n:Int)<=i/\i < n:=by
 unfold ixN at h
 by_cases h0:0<=i
 ·rw[if_pos h0] at h
  by_cases h1:i < n
  ·rw[if_pos h1] at h
   have e:i.toNat=j:=Option.some.inj h
   exact ⟨by rw[seqIndex_of h0 h1,e],by lia,by lia,h1⟩
  ·rw[if_neg h1] at h;cases h
 ·rw[if_neg h0] at h
  by_cases h1:-(n:Int)<=i
  ·rw[if_pos h1] at h
   have e:(i+n).toNat=j:=Option.some.inj h
   exact ⟨by rw[seqIndex_neg (by lia) h1,e],by lia,h1,by lia⟩
  ·rw[if_neg h1] at h;cases h
theorem atI_get {α:Type}{xs:List α}{i:Int}{v:α}(h:atI xs i=some v):∃ j,seqIndex? i xs.length=some j/\xs[j]?=some v/\j < xs.length/\-(xs.length:Int)<=i/\i < xs.length:=by
 unfold atI at h
 cases e:ixN xs.length i with
 | none=>rw[e] at h;cases h
 | some j =>
  rw[e] at h
  obtain ⟨h1,h2,h3,h4⟩:=ixN_seq e
  exact ⟨j,h1,h,h2,h3,h4⟩
def PlainIx (b:Expr):Prop:=∀ o i,subscripted b false o i=operate [o,i] (getItem o i)
def IxR (X:Cx) (r:R2):Prop :=
 ∀ (value slice:Expr) (pins:List (Addr × Obj)) (s:Shared) (σ:St) (H:Hp) (x y:V) (v u:Value) (Q:VK),Inv X pins σ H s->RelV x v->RelV y u->r x y H Q ->
  subscripted slice false v u=operate [v,u] (getItem v u)->wpAny (model X.prog X.w) X.A (subscriptTail value slice v u) (EP X pins σ Q) X.xe s
section
variable {X : Cx} {a b : Expr} {ta tb : TE} {pos : Pos}
theorem IxR.or {r r':R2}(h:IxR X r) (h':IxR X r'):IxR X (fun x y H Q=>r x y H Q\/r' x y H Q):=by
 intro value slice pins s σ H x y v u Q I rx ry q hs
 rcases q with q | q
 ·exact h value slice pins s σ H x y v u Q I rx ry q hs
 ·exact h' value slice pins s σ H x y v u Q I rx ry q hs
theorem pe_ix {r:R2}(hr:IxR X r) (ha:PE X a ta) (hb:PE X b tb) (hs:PlainIx b):PE X (.Subscript a b pos) (tOp r ta tb):=by
 intro pins s σ H Q I h
 exact Subscript_ (binT ha hb I h fun v u s2 x y H2 I2 rx ry q=>hr a b pins s2 σ H2 x y v u Q I2 rx ry q (hs _ _))
def rIxL (K:PySem.W.Frag):R2:=fun x y H Q=>∃ p xs i v,x=.ref p/\y=.int i/\SqL K H p xs/\atI xs i=some v/\Q v H
def rIxT (K:PySem.W.Frag):R2:=fun x y H Q=>∃ p xs i v,x=.ref p/\y=.int i/\SqT K H p xs/\atI xs i=some v/\Q v H
def rIxS:R2:=fun x y H Q=>∃ z i c,x=.str z/\y=.int i/\z.length<=sizeLine/\atI z.cps.toList i=some c/\Q (.str ⟨#[c]⟩) H
theorem ix_list:IxR X (rIxL X.K):=by
 intro value slice pins s σ H x y v u Q I rx ry h hs
 obtain ⟨p,xs,i,z,rfl,rfl,hq,he,q⟩:=h
 cases rx
 obtain ⟨t,rfl⟩:=ry
 obtain ⟨its,r,pl,hz⟩:=I.list hq
 obtain ⟨j,h1,h2,h3,h4,h5⟩:=atI_get he
 obtain ⟨w,ew,rw'⟩:=r.get h2
 have hl:=r.length
 have hn:=line63
 have fin:EP X pins σ Q w s:=⟨z,H,I,rw',q⟩
 by_cases h0:0<=i
 ·have hj:i.toNat=j:=by
   rw[seqIndex_of h0 h5] at h1
   exact Option.some.inj h1
  exact item_listR pl.isList h0 (by lia) (by rw[hj];simpa using ew) fin hs
 ·have hj:(i+(its.toArray.size:Int)).toNat=j:=by
   rw[seqIndex_neg (by lia) h4] at h1
   rw[List.size_toArray,<- hl]
   exact Option.some.inj h1
  exact subscriptTail_builtinR (x:=w) pl.isList.typeIs slot_list_getitem.lookup
   (wpAny_getItem_list_neg (Q:=fun r s'=>r=w/\EP X pins σ Q r s') pl.isList (by lia) (by rw[List.size_toArray] <;> lia) (by lia) (by rw[hj];simpa using ew) ⟨rfl,fin⟩) hs
theorem ix_tup:IxR X (rIxT X.K):=by
 intro value slice pins s σ H x y v u Q I rx ry h hs
 obtain ⟨p,xs,i,z,rfl,rfl,hq,he,q⟩:=h
 cases rx
 obtain ⟨t,rfl⟩:=ry
 obtain ⟨its,r,pl,hz⟩:=I.tuple hq
 obtain ⟨j,h1,h2,h3,h4,h5⟩:=atI_get he
 obtain ⟨w,ew,rw'⟩:=r.get h2
 have hl:=r.length
 have hn:=line63
 have fin:EP X pins σ Q w s:=⟨z,H,I,rw',q⟩
 exact subscriptTail_builtinR (x:=w) pl.typeIs slot_tuple_getitem.lookup
  (getItem_tuple (j:=j) (Q:=fun r s'=>r=w/\EP X pins σ Q r s') pl (by lia) (by lia) (by rw[List.size_toArray,<- hl];exact h1) (by simpa using ew) ⟨rfl,fin⟩) hs
theorem ix_str:IxR X rIxS:=by
 intro value slice pins s σ H x y v u Q I rx ry h hs
 obtain ⟨z,i,c,rfl,rfl,hz,he,q⟩:=h
 obtain ⟨t,rfl⟩:=rx
 obtain ⟨t',rfl⟩:=ry
 obtain ⟨j,h1,h2,h3,h4,h5⟩:=atI_get he
 have hl:z.cps.toList.length=z.length:=by simp[Str.length]
 rw[hl] at h1 h4 h5
 have hn:=line63
 exact tail_any (typeIs_str s z t) slot_str_getitem.lookup (getItem_str (c:=c) (by
  have e1:decide (i < -(2 ^ 63:Int))=false:=decide_eq_false (by lia)
  have e2:decide (i ≥ 2 ^ 63)=false:=decide_eq_false (by lia)
  rw[e1,e2,Bool.or_false]) (by rw[h1];simpa using h2) ⟨.str ⟨#[c]⟩,H,I.tok _,⟨_,rfl⟩,q⟩) hs
def rIx (K:PySem.W.Frag):R2:=fun x y H Q=>rIxL K x y H Q\/rIxT K x y H Q\/rIxS x y H Q
theorem ix_seq:IxR X (rIx X.K):=ix_list.or (ix_tup.or ix_str)
theorem call_len_seq:CallR X (.builtin "len") (fun xs H Q=>∃ p ys,xs=[.ref p]/\(SqL X.K H p ys\/SqT X.K H p ys)/\Q (.int ys.length) H):=by
 intro pins s σ H xs us Q I r h
 obtain ⟨p,ys,rfl,hq,q⟩:=h
 obtain ⟨u,rfl,rx⟩:=vals1 r
 cases rx
 have hn:=line63
 rcases hq with hq | hq
 ·obtain ⟨its,r',pl,hz⟩:=I.list hq
  have hlen:=r'.length
  exact Calls.call_len_list pl.isList (by simp only[List.size_toArray] <;> lia) ⟨.int ys.length,H,I.tok _,⟨s.toks+1,by rw[List.size_toArray,hlen]⟩,q⟩
 ·obtain ⟨its,r',pl,hz⟩:=I.tuple hq
  have hlen:=r'.length
  exact len_tuple pl (by simp only[List.size_toArray] <;> lia) ⟨.int ys.length,H,I.tok _,⟨s.toks+1,by rw[List.size_toArray,hlen]⟩,q⟩
theorem call_list_of:CallR X (.type "list") (fun xs H Q=>∃ p ys,xs=[.ref p]/\(SqL X.K H p ys\/SqT X.K H p ys)/\∀ l,H l=none->Q (.ref l) (upd H l (.lst ys))):=by
 intro pins s σ H xs us Q I r h
 obtain ⟨p,ys,rfl,hq,q⟩:=h
 obtain ⟨u,rfl,rx⟩:=vals1 r
 cases rx
 have fin:∀ (its:List Value),Vals ys its->ys.length<=sizeLine->∀ (h':Heap) (c':Nat),(∀ b o',s.heap.get? b=some o'->h'.get? b=some o') ->
   h'.get? s.heap.objs.size=some { cls:=.type "list",dict:=none,data:=.seq its.toArray c',slots:=#[] }->EP X pins σ Q (.ref s.heap.objs.size) { s with heap:=h' }:=fun its r' hz h' c' kp e =>
  ⟨.ref s.heap.objs.size,_,I.laid (t':=s.toks) kp (Nat.le_refl _) (show ObjOk X.prog X.w _ h' _ (.lst ys) from ⟨hz,its,c',r',e⟩),rfl,q _ (I.hok.fresh (Nat.le_refl _))⟩
 rcases hq with hq | hq
 ·obtain ⟨its,r',pl,hz⟩:=I.list hq
  have hlen:=r'.length
  obtain ⟨o,ho,hc,n,hd⟩:=pl.isList
  exact call_list_seq p (.inl rfl) ho hc hd (fun h' c' kp e=>fin its r' hz h' c' kp e) (by simp only[List.size_toArray] <;> lia)
 ·obtain ⟨its,r',pl,hz⟩:=I.tuple hq
  have hlen:=r'.length
  obtain ⟨o,ho,hc,n,hd⟩:=pl
  exact call_list_seq p (.inr rfl) ho hc hd (fun h' c' kp e=>fin its r' hz h' c' kp e) (by simp only[List.size_toArray] <;> lia)
theorem call_tuple_of:CallR X (.type "tuple") (fun xs H Q=>∃ p ys,xs=[.ref p]/\((SqL X.K H p ys/\∀ l,H l=none->Q (.ref l) (upd H l (.tup ys)))\/(SqT X.K H p ys/\Q (.ref p) H))):=by
 intro pins s σ H xs us Q I r h
 obtain ⟨p,ys,rfl,h⟩:=h
 obtain ⟨u,rfl,rx⟩:=vals1 r
 cases rx
 rcases h with ⟨hq,q⟩ | ⟨hq,q⟩
 ·obtain ⟨its,r',pl,hz⟩:=I.list hq
  have hlen:=r'.length
  refine call_tuple_list pl.isList (fun h' kp=>?_) (by simp only[List.size_toArray] <;> lia)
  have I1:Inv X pins σ H { s with heap:=h' }:=I.kept (t':=s.toks) kp
  have I2:Inv X pins σ (upd H h'.objs.size (.tup ys)) { s with heap:=h'.push { cls:=.type "tuple",data:=.seq its.toArray } } :=
   I1.laid (t':=s.toks) (fun b o e=>Heap.get?_push_of_some _ e) (Nat.le_refl _) (show ObjOk X.prog X.w _ _ _ (.tup ys) from ⟨hz,its,r',IsTup.new _ _⟩)
  exact ⟨.ref h'.objs.size,_,I2,rfl,q _ (I1.hok.fresh (Nat.le_refl _))⟩
 ·obtain ⟨its,r',pl,hz⟩:=I.tuple hq
  exact call_tuple_same pl ⟨.ref p,H,I,rfl,q⟩
variable {o e : Expr} {es : List Expr} {to : TE} {t : TA} {name : Str} {apos cpos : Pos} {T id : String} {r : V -> List V -> Hp -> VK -> Prop}
end
end L2
namespace L2
open PySem PySem.Spec PyProof.Rows
def MtM (X:Cx) (id:String) (r:V->List V->Hp->VK->Prop):Prop :=
 ∀ (pins:List (Addr × Obj)) (s:Shared) (σ:St) (H:Hp) (x:V) (xs:List V) (v:Value) (us:List Value) (Q:VK),Inv X pins σ H s->RelV x v->Vals xs us->r x xs H Q ->
  wpAny (model X.prog X.w) X.A (call (.builtin id) (v::us)) (EP X pins σ Q) X.xe s
theorem Vals.one:∀ {x:V}{us:List Value},Vals [x] us->∃ u,us=[u]/\RelV x u
 | _,_,.cons r .nil=>⟨_,rfl,r⟩
theorem Vals.dropLast {xs:List V}{us:List Value}(h:Vals xs us):Vals xs.dropLast us.dropLast:=by
 induction h with
 | nil=>exact .nil
 | cons r t ih =>
  cases t with
  | nil=>exact .nil
  | cons q t'=>exact .cons r ih
theorem Vals.reverse {xs:List V}{us:List Value}(h:Vals xs us):Vals xs.reverse us.reverse:=by
 induction h with
 | nil=>exact .nil
 | cons r t ih=>rw[List.reverse_cons,List.reverse_cons];exact Vals.append ih (.cons r .nil)
theorem Vals.rep {xs:List V}{us:List Value}(h:Vals xs us):∀ k:Nat,Vals (List.replicate k xs).flatten (List.replicate k us).flatten
 | 0=>.nil
 | k+1=>by
  rw[List.replicate_succ,List.replicate_succ,List.flatten_cons,List.flatten_cons]
  exact Vals.append h (Vals.rep h k)
theorem foldl_rep (its:List Value):∀ (k:Nat) (acc:List Value),
  List.foldl (fun x1 x2=>x1++x2) acc.toArray (List.replicate k its.toArray)=(acc++(List.replicate k its).flatten).toArray
 | 0,acc=>by simp
 | k+1,acc=>by
  have e:acc.toArray++its.toArray=(acc++its).toArray:=by simp
  have e2:(acc++its)++(List.replicate k its).flatten=acc++(List.replicate (k+1) its).flatten:=by
   rw[List.replicate_succ,List.flatten_cons,List.append_assoc]
  rw[<- e2,<- foldl_rep its k (acc++its),<- e,List.replicate_succ,List.foldl_cons]
section
variable {X : Cx} {pins : List (Addr × Obj)} {σ : St} {H : Hp} {s : Shared} {l b : Addr} {xs ys zs : List V}
theorem Inv.lset {its its':List Value}{n:Nat}{f:Array Value->Array Value}{t':Nat}(I:Inv X pins σ H s) (hH:H l=some (.lst xs))
  (e:s.heap.get? l=some { cls:=.type "list",data:=.seq its.toArray n }) (hf:f its.toArray=its'.toArray) (hv:Vals ys its') (hz:ys.length<=sizeLine) :
  Inv X pins σ (upd H l (.lst ys)) { s with heap:=s.heap.update l (Obj.mapSeq f),toks:=t' }:=by
 have q:=PySem.IsL.update e f
 rw[hf] at q
 refine I.write (x:=l) (e:=l) (by rw[hH];exact trivial) (.inl rfl) (fun b' u hb hu=>(Heap.get?_update_other s.heap (Obj.mapSeq f) (Ne.symm hb)).trans hu) ⟨_,q⟩ ?_
 exact ⟨hz,its',_,hv,q⟩
theorem Inv.lnew {its:List Value}{t':Nat}(I:Inv X pins σ H s) (hv:Vals ys its) (hz:ys.length<=sizeLine) :
  Inv X pins σ (upd H s.heap.objs.size (.lst ys)) { s with heap:=s.heap.push { cls:=.type "list",data:=.seq its.toArray },toks:=t' } :=
 I.laid (fun _ _ q=>Heap.get?_push_of_some _ q) (Nat.le_refl _) ⟨hz,its,0,hv,Heap.get?_push_size _ rfl⟩
theorem Inv.fresh (I:Inv X pins σ H s):H s.heap.objs.size=none:=I.hok.fresh (Nat.le_refl _)
theorem Inv.lstM (I:Inv X pins σ H s) (hH:H l=some (.lst xs)):xs.length<=sizeLine/\∃ (its:List Value) (n:Nat),Vals xs its/\xs.length=its.length/\s.heap.get? l=some { cls:=.type "list",data:=.seq its.toArray n }:=by
 obtain ⟨z,its,n,r,e⟩:=I.hok l _ hH
 exact ⟨z,its,n,r,r.length,e⟩
theorem notLongL {n:Nat}(h:n<=sizeLine):Builtin.List.listTooLong n=false:=by
 unfold Builtin.List.listTooLong
 exact decide_eq_false (by lia)
end
section
variable {X : Cx}
def rAppend:V->List V->Hp->VK->Prop:=fun x vs H Q=>∃ l xs y,x=.ref l/\vs=[y]/\H l=some (.lst xs)/\xs.length < sizeLine/\Q .non (upd H l (.lst (xs++[y])))
theorem mt_append:MtM X "list.append" rAppend:=by
 intro pins s σ H x vs v us Q I rx rv h
 obtain ⟨l,xs,y,rfl,rfl,hH,hz,q⟩:=h
 cases rx
 obtain ⟨u,rfl,ru⟩:=rv.one
 obtain ⟨z,its,n,r,hl,e⟩:=I.lstM hH
 refine call_meets F.slot_list_append ⟨_,e,rfl⟩ F.entry_list_append (F.args_list_append_2 _ _) (PySem.list_append l its.toArray n u (by rw[List.size_toArray];lia)) ⟨e,?_⟩
 refine ⟨.non,_,I.lset (its':=its++[u]) hH e (by simp) (r.append (.cons ru .nil)) ?_,rfl,q⟩
 rw[List.length_append,List.length_singleton]
 lia
def rCat:R2:=fun x y H Q=>∃ l b xs zs,x=.ref l/\y=.ref b/\H l=some (.lst xs)/\H b=some (.lst zs)/\xs.length+zs.length<=sizeLine/\∀ p,H p=none->Q (.ref p) (upd H p (.lst (xs++zs)))
theorem op_cat:OpR X (binaryOp .Add) rCat:=by
 intro pins s σ H x y v u Q I rx ry h
 obtain ⟨l,b,xs,zs,rfl,rfl,hH,hB,hz,q⟩:=h
 cases rx
 cases ry
 obtain ⟨z,its,n,r,hl,e⟩:=I.lstM hH
 obtain ⟨z2,its2,n2,r2,hl2,e2⟩:=I.lstM hB
 refine PySem.P.add_list e e2 ?_ (by rw[List.size_toArray,List.size_toArray];lia)
 have ea:its.toArray++its2.toArray=(its++its2).toArray:=by simp
 rw[ea]
 exact ⟨.ref _,_,I.lnew (t':=s.toks) (r.append r2) (by rw[List.length_append];lia),rfl,q _ I.fresh⟩
def rRep:R2:=fun x y H Q=>∃ l k xs,x=.ref l/\y=.int k/\H l=some (.lst xs)/\-(2 ^ 63)<=k/\k < 2 ^ 63/\xs.length * k.toNat<=sizeLine /\
 ∀ p,H p=none->Q (.ref p) (upd H p (.lst (List.replicate k.toNat xs).flatten))
theorem len_rep {α:Type}(xs:List α) (k:Nat):(List.replicate k xs).flatten.length=k * xs.length:=by
 induction k with
 | zero=>simp
 | succ k ih=>rw[List.replicate_succ,List.flatten_cons,List.length_append,ih,Nat.succ_mul,Nat.add_comm]
theorem op_rep:OpR X (binaryOp .Mult) rRep:=by
 intro pins s σ H x y v u Q I rx ry h
 obtain ⟨l,k,xs,rfl,rfl,hH,h1,h2,hz,q⟩:=h
 cases rx
 obtain ⟨t,rfl⟩:=ry
 obtain ⟨z,its,n,r,hl,e⟩:=I.lstM hH
 have hlen:its.toArray.size * k.toNat<=sizeLine:=by rw[List.size_toArray,<- hl];exact hz
 have hcap:¬ its.toArray.size * k.toNat > (2 ^ 63 - 1) / 8:=by
  have:(sizeLine:Nat)<=(2 ^ 63 - 1) / 8:=by decide
  lia
 have hfit:¬ (!Builtin.List.listFitsIndex k)=true:=by
  rw[fitsIndex_both h1 h2]
  exact Bool.false_ne_true
 have hlong:¬ Builtin.List.listTooLong (its.toArray.size * k.toNat)=true:=by
  rw[notLongL hlen]
  exact Bool.false_ne_true
 have hnew:List.foldl (fun x1 x2=>x1++x2) #[] (List.replicate (if its.toArray.isEmpty=true then 0 else k.toNat) its.toArray)=(List.replicate k.toNat its).flatten.toArray:=by
  have f0:∀ m:Nat,List.foldl (fun x1 x2=>x1++x2) #[] (List.replicate m its.toArray)=(List.replicate m its).flatten.toArray:=fun m=>by
   have:=foldl_rep its m []
   rw[List.nil_append] at this
   exact this
  rw[f0]
  cases its with
  | nil=>simp
  | cons a r'=>rw[if_neg (by simp)]
 refine wpAny_binaryOp_repeat_ref (T := "list") (U := "int") (by decide) ⟨_,e,rfl⟩ (fun s'=>typeIs_int s' k t) noFill_list_mul F.fills_int_mul F.slot_int_rmul repeat_list F.slot_int_index.lookup
  (call_meets F.slot_int_rmul (typeIs_int s k t) F.entry_int_rmul (F.args_int_rmul_2 _ _) (int___rmul___int_list k t l its.toArray n)
   ⟨e,rfl,⟨_,e,rfl⟩,call_meets F.slot_list_mul ⟨_,e,rfl⟩ F.entry_list_mul (F.args_list_mul_2 _ _) (AutoListH.list___mul___list_int_3 l its.toArray n k t hfit hcap hlong) ⟨e,?_⟩⟩)
 rw[hnew]
 exact ⟨.ref _,_,I.lnew (t':=s.toks) (r.rep k.toNat) (by rw[len_rep,Nat.mul_comm];exact hz),rfl,q _ I.fresh⟩
end
section
variable {prog : Program} {w : World} {A : Around} {E : Value -> Shared -> Prop} {s : Shared}
end
section
variable {X : Cx}
end
end L2
namespace Att
open PySem PySem.W PySem.Calls PyProof.Rows
theorem ints_of_wellAll {P:Params}{h:Heap}:∀ (ns:List Int) (vs:List Value),WellAll P h vs (ns.map WData.int)->IntsAre vs ns:=by
 intro ns
 induction ns with
 | nil =>
  intro vs w
  rw[List.map_nil] at w
  cases w
  exact .nil
 | cons n ns ih =>
  intro vs w
  rw[List.map_cons] at w
  cases w with
  | cons a b =>
   cases a
   exact .cons _ _ (ih _ b)
theorem script_of {l:OpenLaw}{n:Nat}(hn:l.most=some n) {P:Params}{h:Heap}{args:List WData}{vals:List Value}
  (hpre:l.row.toRowW.claim.pre args=true) (hwl:WellAll P h vals args) :
  ∃ a vs ns,vals=[Value.ref a]/\args=[WData.list (ns.map WData.int)]/\h.get? a=some { cls:=.type "list",data:=.seq vs.toArray }/\IntsAre vs ns/\ns.length<=n:=by
 have hsh:WShape.hasAll [] args [.list .int]=true:=(pre_splitW hpre).1
 have hc:l.pre.holds [] { args:=args }=true:=(pre_splitW hpre).2
 obtain ⟨d,r,rfl,h1,h2⟩:=hasAllW_cons hsh
 obtain rfl:=hasAllW_nil h2
 obtain ⟨xs,rfl,h3⟩:=hasW_list h1
 obtain ⟨ns,rfl⟩:=items_int h3
 have hlen:ns.length<=n:=by
  unfold OpenLaw.pre at hc
  have h4:(WTm.not (.lt (.lit (.int (n:Int))) (.len (.arg 0)))).holds [] { args:=[.list (ns.map .int)] }=true:=by
   have h4:=(holds_andW hc).1
   rw[hn] at h4
   exact h4
  have h5:=condW_of h4 (w_not (w_lt w_lit (w_len_list (w_arg rfl))))
  rw[List.length_map] at h5
  refine Nat.le_of_not_lt fun q=>?_
  have q':(n:Int) < ((ns.length:Nat):Int):=by lia
  first
   | (rw[decide_eq_true q'] at h5;exact absurd h5 (by decide))
   | (simp at h5;lia)
 cases hwl with
 | cons w1 w2 =>
  cases w2
  cases w1 with
  | list ho hall=>exact ⟨_,_,ns,rfl,rfl,ho,ints_of_wellAll ns _ hall,hlen⟩
theorem post_true (l:OpenLaw) (args:List WData):l.row.toRowW.claim.post args (.bool true) args=true :=
 postW_of (r:=l.row.toRowW) (X:=(true == true))
  (show WShape.has [] (.bool true) .bool=true by first | rfl | decide | simp[WShape.has,WShape.arms,WShape.armsAll])
  (show (WTm.eq .res (.lit (.bool true))).value [] { args:=args,res:=some (.bool true),after:=args }=some (.bool (true == true)) from w_eq_bool (w_res rfl) w_lit) rfl
theorem attach_call {l:OpenLaw}{n:Nat}{q:Program}{loose:List Str}{XP:(Str->Option Value)->Heap->Prop}{YP:World->Heap->Prop}{d:DefRec}
  (hn:l.most=some n) (hdf:d.params.defaults=[])
  (call:∀ (w:World) (s₀ s₁:Shared) (mg mb:Str->Option Value) (fa:Addr) (o:Obj) (pm cd doc:Value) (a:Addr) (vs:List Value) (ns:List Int),
   Ground q loose [] XP w s₀ mg mb s₁.heap->YP w s₁.heap ->
   s₁.heap.get? fa=some o->o.data=.func (docDef d.name d.params d.body d.scope pm cd doc)->s₁.heap.CodeRec cd d.name->mg d.name=some (.ref fa) ->
   s₁.heap.get? a=some { cls:=.type "list",data:=.seq vs.toArray }->IntsAre vs ns->ns.length<=n->s₁.gens=#[] ->
   codeAny (model l.prog w) callerA (.call (.ref fa) ⟨[.ref a],[]⟩) (fun r s'=>r=.ok (.ret (.bool true))/\OldK s₁.heap s'.heap/\s'.os=s₁.os/\AllBare s'.gens) s₁) :
  WalkO q loose XP YP l.row.toRowW d [] (fun f vs=>PySem.call f vs):=by
 intro w s₀ s₁ mg mb G Y fa o pm cd doc dV kV ho hd hcd hD hmg hg args vals as hpre hlay hrd hwl hlo
 obtain rfl:dV=.none:=Dflts.none hD hdf
 obtain rfl:kV=.none:=Dflts.noKw hD
 obtain ⟨a,vs,ns,rfl,rfl,hobj,hints,hlen⟩:=script_of hn hpre hwl
 refine enter_call (codeAny_mono (call w s₀ s₁ mg mb fa o pm cd doc a vs ns G Y ho (fd_plain hd) hcd hmg hobj hints hlen hg) fun r s' hq=>?_)
 obtain ⟨rfl,h2,h3,h4⟩:=hq
 exact ⟨.inl ⟨.bool true,.bool true,[],rfl,fun _=>rfl,.bool true,post_true l _,fun _=>⟨List.Pairwise.nil,fun _ hm=>(nomatch hm)⟩⟩,h2,h3,h4⟩
section
variable {prog : Program} {w : World} {A : Around} {E : Value -> Shared -> Prop} {s : Shared} {K : Frag}
end
end Att
namespace L2
open PySem PySem.Spec PyProof.Rows
theorem vals_ints:∀ {vs:List Value}{ns:List Int},IntsAre vs ns->Vals (ns.map V.int) vs
 | _,_,.nil=>.nil
 | _,_,.cons n t h=>.cons ⟨t,rfl⟩ (vals_ints h)
def Only (H:Hp):Prop:=∀ b,H b=none\/∃ o xs,H b=some (.frz o (.lst xs))
theorem law_call {P:Program}{w:World}{K:PySem.W.Frag}{mg mb:Str->Option Value}{CX:CXT}{k:Nat}{fa a:Addr}{fd:FuncData}{x:Str}{sp:Sp}{s₁:Shared}{vs:List Value}{ns:List Int}
  (KX:K.In s₁.heap) (hns:s₁.heap.Ns mainGlobals mg) (hb:s₁.heap.Ns builtinsNs mb) (hbb:∀ x:Str,x ≠ "__name__" -> mb x=bootBuiltins x) (hlim:s₁.heap.NoLimit) (hg:s₁.gens=#[])
  (ha:s₁.heap.get? a=some { cls:=.type "list",data:=.seq vs.toArray }) (hi:IntsAre vs ns) (hl:ns.length<=sizeLine) (hr:Room k callerA)
  (F:∀ base:Heap,K.In base->base.Ns mainGlobals mg->FnOk P w K mg base CX k fa fd [x] sp) (hbind:∀ (s:Shared) (u:Value),BindsTo s fd ⟨[u],[]⟩ [(x,u)])
  (hsp:∀ H:Hp,Only H->SqL K H a (ns.map V.int)->sp [.ref a] H (fun v _=>v=.bl true) fun _ _ _=>False)
  (hCX:∀ H e s',CX [] H s₁ (fun _ _ _=>False) e s'->False) :
  codeAny (model P w) callerA (.call (.ref fa) ⟨[.ref a],[]⟩) (fun r s'=>r=.ok (.ret (.bool true))/\OldK s₁.heap s'.heap/\s'.os=s₁.os/\AllBare s'.gens) s₁:=by
 have rv:=vals_ints hi
 have lenV:=hi.length
 -- from an abstract heap in which nothing but the script may be tracked
 have core:∀ H:Hp,Only H->SqL K H a (ns.map V.int)->HOk P w H s₁.heap->(∀ b,H b ≠ none->b=a)->(H a ≠ none->K.lookup a=none) ->
   codeAny (model P w) callerA (.call (.ref fa) ⟨[.ref a],[]⟩) (fun r s'=>r=.ok (.ret (.bool true))/\OldK s₁.heap s'.heap/\s'.os=s₁.os/\AllBare s'.gens) s₁:=by
  intro H hO hS hok hA hK
  have base_of:∀ {b:Addr}{o:Obj},s₁.heap.get? b=some o->H b=none->(hidT s₁.heap H).get? b=some o:=fun e n=>hidT_get e n
  have noA:∀ {b:Addr}{o:Obj}{es:Array DictEntry}{ep:Nat},s₁.heap.get? b=some o->o.data=.dict es ep->H b=none:=fun {b o es ep} e d=>by
   cases q:H b with
   | none=>rfl
   | some u =>
    have e':b=a:=hA b (by rw[q];simp)
    subst e'
    rw[ha] at e;cases e
    have d':Data.seq vs.toArray _=Data.dict es ep:=d
    cases d'
  have nsK:∀ {b:Addr}{m:Str->Option Value},s₁.heap.Ns b m->(hidT s₁.heap H).Ns b m:=fun {b m} ⟨o,es,ep,e,d,r⟩=>⟨o,es,ep,base_of e (noA e d),d,r⟩
  have hKb:K.In (hidT s₁.heap H):=fun b o e=>base_of (KX b o e) (by
   cases q:H b with
   | none=>rfl
   | some u =>
    have e':b=a:=hA b (by rw[q];simp)
    subst e'
    rw[hK (by rw[q];simp)] at e;cases e)
  have hM:Mod K mg (hidT s₁.heap H):=⟨hKb,nsK hns,⟨mb,nsK hb,hbb⟩,let ⟨mc,h1,h2⟩:=hlim;⟨mc,nsK h1,h2⟩⟩
  have e0:Env0 P w K mg (hidT s₁.heap H) callerA [] s₁ H:=⟨rfl,hM,fun b o e=>of_hidT e,Nat.le_of_eq (hidT_size _ _),trivial,fun b hb=>absurd (show b ∈ ([]:List Addr) from hb) (by simp),hok,.of_eq hg⟩
  refine codeAny_mono ((F _ hKb (nsK hns)).run callerA [] s₁ H ⟨[.ref a],[]⟩ [.ref a] [.ref a] _ _ hr e0 (hbind s₁ (.ref a)) (.cons rfl .nil) (hsp H hO hS)) fun r s' h=>?_
  cases r with
  | error e=>exact (hCX H e s' h).elim
  | ok fl =>
   cases fl with
   | next=>exact False.elim h
   | brk=>exact False.elim h
   | cont=>exact False.elim h
   | ret u =>
    obtain ⟨v,H',os,bare,un,hok',r',q⟩:=h
    have q':v=.bl true:=q
    subst q'
    obtain rfl:u=Value.bool true:=r'
    refine ⟨rfl,OldK.of_keep fun b o e=>?_,os,bare⟩
    cases q:H b with
    | none=>exact un.keep b o e q (by intro z;exact absurd (show b ∈ ([]:List Addr) from z) (by simp)) (by simp)
    | some u =>
     rcases hO b with z | ⟨ob,xs,z⟩
     ·rw[q] at z;cases z
     ·have z2:=un.frzs b ob _ z
      obtain ⟨e1,_⟩:=hok b _ z
      obtain ⟨e2,_⟩:=hok' b _ z2
      rw[e] at e1;cases e1
      exact e2
 cases hk:K.lookup a with
 | some o =>
  -- the script is one of the module's own objects
  have e:=KX a o hk
  rw[ha] at e
  cases e
  refine core (fun _=>none) (fun _=>.inl rfl) (.inr ⟨_,vs.toArray,_,hk,rfl,rfl,rfl,by rw[List.size_toArray,lenV];exact hl,by simpa using rv⟩) (fun b u z=>by have z':(none:Option HO)=some u:=z;cases z') (fun b z=>absurd rfl z) fun z=>absurd rfl z
 | none =>
  refine core (fun b=>if b=a then some (.frz { cls:=.type "list",data:=.seq vs.toArray } (.lst (ns.map V.int))) else none) (fun b=>?_) (.inl (.inr ⟨{ cls:=.type "list",data:=.seq vs.toArray },if_pos rfl⟩)) (fun b u z=>?_) (fun b z=>?_) fun _=>hk
  ·by_cases hb:b=a
   ·exact .inr ⟨_,_,if_pos hb⟩
   ·exact .inl (if_neg hb)
  ·by_cases hb:b=a
   ·have z':=(if_pos hb).symm.trans z
    cases z'
    subst hb
    exact ⟨ha,by rw[List.length_map];exact hl,vs,_,rv,ha⟩
   ·have z':=(if_neg hb).symm.trans z
    cases z'
  ·by_cases hb:b=a
   ·exact hb
   ·exact absurd (if_neg hb) z
end L2
namespace L2
open PySem PySem.Spec PyProof.Rows
theorem walk_of {l:PySem.W.OpenLaw}{n k:Nat}{q:Program}{loose:List Str}{XP:(Str->Option Value)->Heap->Prop}{YP:World->Heap->Prop}{d:DefRec}{K:Params->PySem.W.Frag}{CX:World->CXT}{sp:World->Sp}{x:Str}
  (hn:l.most=some n) (hn2:n<=sizeLine) (hdf:d.params.defaults=[]) (hr:Room k callerA)
  (hY:∀ (w:World) (h:Heap),YP w h->(K w.params).In h)
  (F:∀ (w:World) (mg:Str->Option Value) (fa:Addr) (h:Heap),(K w.params).In h->h.Ns mainGlobals mg->mg d.name=some (.ref fa) ->
   ∃ fd:FuncData,(∀ (s:Shared) (u:Value),BindsTo s fd ⟨[u],[]⟩ [(x,u)]) /\
    ∀ base:Heap,(K w.params).In base->base.Ns mainGlobals mg->FnOk l.prog w (K w.params) mg base (CX w) k fa fd [x] (sp w))
  (hsp:∀ (w:World) (H:Hp) (a:Addr) (ns:List Int),ns.length<=n->Only H->SqL (K w.params) H a (ns.map V.int)->sp w [.ref a] H (fun v _=>v=.bl true) fun _ _ _=>False)
  (hCX:∀ (w:World) (H:Hp) (s:Shared) (e:Value) (s':Shared),CX w [] H s (fun _ _ _=>False) e s'->False) :
  PySem.W.WalkO q loose XP YP l.row.toRowW d [] (fun f vs=>PySem.call f vs):=by
 refine Att.attach_call hn hdf fun w s₀ s₁ mg mb fa o pm cd doc a vs ns G Y ho hd hcd hmg hobj hints hlen hg=>?_
 have KX:=hY w _ Y
 obtain ⟨fd,hb,hF⟩:=F w mg fa _ KX G.T.g hmg
 exact law_call KX G.T.g G.T.b G.T.builtins G.T.nolimit hg hobj hints (Nat.le_trans hlen hn2) hr hF hb (fun H hO hS=>hsp w H a ns hlen hO hS) fun H e s'=>hCX w H s₁ e s'
end L2
namespace L2
open PySem PySem.Spec PyProof.Rows
noncomputable def defArgs (s:Stmt):Arguments:=match s with
 | .FunctionDef _ a _ _ _ _ _ _ _ _=>a
 | _=>{ posonlyargs:=[],args:=[],vararg:=none,kwonlyargs:=[],kw_defaults:=[],kwarg:=none,defaults:=[] }
noncomputable def defBody (s:Stmt):List Stmt:=match s with
 | .FunctionDef _ _ b _ _ _ _ _ _ _=>b
 | _=>[]
noncomputable def defScope (s:Stmt):Scope:=match s with
 | .FunctionDef _ _ _ _ _ _ sc _ _ _=>sc
 | _=>{ kind:=.function,names:=[],isGenerator:=false,isCoroutine:=false }
abbrev CX0:CXT:=fun _ _ _ _ _ _=>False
abbrev E0:XK:=fun _ _ _=>False
theorem pass0 {X:Cx}:Passes CX0 X E0:=fun _ _ _ _ _ _ _ h=>h.elim
structure Fun (K:PySem.W.Frag) (x qual:Str) (st:Stmt) (f:Addr) (fd:FuncData):Prop where
 ex:∃ (oc:Value) (od:Option Addr) (kV doc pm:Value) (an:Option Addr) (cdv ct:Value) (osl:Array (Option Value)),
  fd=PySem.W.fnOf x qual (defArgs st) (defBody st) (defScope st) .none kV doc pm an cdv ct/\K.lookup f=some ⟨oc,od,.func fd,osl⟩/\PySem.W.codeIn K cdv qual=true
 kp:PySem.W.keepIn K (.ref f)=true
section
variable {P : Program} {w : World} {K : PySem.W.Frag} {mg : Str -> Option Value} {base : Heap}
theorem Fun.ok {x qual:Str}{st:Stmt}{f:Addr}{fd:FuncData}{N ps:List Str}{k:Nat}{sp:Sp}(F:Fun K x qual st f fd) (S:FnScope N ps (defScope st)) (len:∀ vs H Q E,sp vs H Q E->vs.length=ps.length)
  (hbody:∀ (cdv:Value) (A:Around) (outer:List Env) (s:Shared) (H:Hp) (vs:List V) (Q:VK) (E:XK),Room k (A.deeper (envOfC qual (defScope st) s.heap.objs.size f cdv))->sp vs H Q E ->
   ∃ t,PSs (cxOf CX0 P w K mg base N qual (defScope st) f cdv A outer s H E).nox (defBody st) t/\t { nx:=fun _ H'=>Q .non H',rt:=Q } (start N vs) H):FnOk P w K mg base CX0 (k+1) f fd ps sp:=by
 obtain ⟨oc,od,kV,doc,pm,an,cdv,ct,osl,rfl,lk,hcd⟩:=F.ex
 refine fn_of lk hcd S len fun A outer s H vs Q E hr hsp=>?_
 obtain ⟨t,h,q⟩:=hbody cdv A outer s H vs Q E hr hsp
 exact ⟨t,h.nox,q⟩
theorem Fun.binds {x qual:Str}{st:Stmt}{f:Addr}{fd:FuncData}{ps:List Str}(F:Fun K x qual st f fd)
  (h:∀ (kV doc pm:Value) (an:Option Addr) (cdv ct:Value) (us:List Value),us.length=ps.length->bindArgs (PySem.W.fnOf x qual (defArgs st) (defBody st) (defScope st) .none kV doc pm an cdv ct) ⟨us,[]⟩=pure (ps.zip us)):Binds K fd ps []:=by
 obtain ⟨oc,od,kV,doc,pm,an,cdv,ct,osl,rfl,lk,hcd⟩:=F.ex
 exact .all (h kV doc pm an cdv ct)
theorem fun_mk {x qual:Str}{st:Stmt}{f:Addr}{oc:Value}{od an:Option Addr}{osl:Array (Option Value)}{kV doc pm cdv ct:Value}(l:K.lookup f=some ⟨oc,od,.func (PySem.W.fnOf x qual (defArgs st) (defBody st) (defScope st) .none kV doc pm an cdv ct),osl⟩)
  (c:PySem.W.codeIn K cdv qual=true) (k:PySem.W.keepIn K (.ref f)=true):Fun K x qual st f (PySem.W.fnOf x qual (defArgs st) (defBody st) (defScope st) .none kV doc pm an cdv ct):=⟨⟨oc,od,kV,doc,pm,an,cdv,ct,osl,rfl,l,c⟩,k⟩
end
section
variable {X : Cx}
end
theorem iteF {A B:Prop}(h:B):if false=true then A else B:=by
 rw[if_neg Bool.false_ne_true]
 exact h
theorem iteT {A B:Prop}(h:A):if true=true then A else B:=by
 rw[if_pos rfl]
 exact h
end L2
namespace L2
open PySem PySem.Spec PyProof.Rows
section
variable {prog : Program} {w : World} {A : Around} {E : Value -> Shared -> Prop}
end
section
variable {X : Cx} {pos : Pos}
end
end L2
namespace L2
open PySem PySem.Spec PyProof.Rows
noncomputable def clOf (env:Env):List (Str × NameKind)->List (Str × Addr)->List (Str × Addr)
 | [],acc=>acc
 | (n,k)::r,acc=>if k == .free then clOf env r ((n,(env.cells.lookup n).getD 0)::acc) else clOf env r acc
theorem closure_loop {env:Env}(f:Str × NameKind->List (Str × Addr)->Sem (ForInStep (List (Str × Addr))))
  (hf:∀ n k cs,f (n,k) cs=if k == .free then (do let a <- cellOf env n;pure (.yield ((n,a)::cs))) else pure (.yield cs)) :
  ∀ (names:List (Str × NameKind)) (acc:List (Str × Addr)),(∀ y ∈ names,y.2=.free->∃ c,env.cells.lookup y.1=some c)->forIn names acc f=pure (clOf env names acc)
 | [],acc,_=>by rw[List.forIn_nil];rfl
 | (n,k)::r,acc,h=>by
  have ih:=closure_loop f hf r
  rw[List.forIn_cons,hf]
  unfold clOf
  cases hk:k == NameKind.free with
  | true =>
   obtain ⟨c,hc⟩:=h (n,k) List.mem_cons_self (by simpa using hk)
   have hc':env.cells.lookup n=some c:=hc
   have e1:cellOf env n=pure c:=by unfold cellOf;rw[hc']
   simp only[if_true,e1,hc',Option.getD_some,pure_bind]
   exact ih _ fun y hy=>h y (List.mem_cons_of_mem _ hy)
  | false =>
   simp only[Bool.false_eq_true,if_false,pure_bind]
   exact ih _ fun y hy=>h y (List.mem_cons_of_mem _ hy)
theorem closureFor_all {scope:Scope}{env:Env}(h:∀ y ∈ scope.names,y.2=.free->∃ c,env.cells.lookup y.1=some c):closureFor scope env=pure (clOf env scope.names []):=by
 unfold closureFor
 simp only[]
 rw[closure_loop (env:=env) _ (fun n k cs=>by cases hk:k == NameKind.free <;> simp[hk]) scope.names [] h]
 rfl
theorem clOf_in {env:Env}{y:Str}{c:Addr}:∀ {names:List (Str × NameKind)}{acc:List (Str × Addr)},(∀ z ∈ names,z.2=.free->∃ c,env.cells.lookup z.1=some c)->(clOf env names acc).lookup y=some c ->
  acc.lookup y=some c\/((y,NameKind.free) ∈ names/\env.cells.lookup y=some c)
 | [],acc,_,e=>.inl e
 | (n,k)::r,acc,h,e=>by
  unfold clOf at e
  have h':∀ z ∈ r,z.2=.free->∃ c,env.cells.lookup z.1=some c:=fun z hz=>h z (List.mem_cons_of_mem _ hz)
  cases hk:k == NameKind.free with
  | true =>
   have hk':k=.free:=by simpa using hk
   subst hk'
   rw[hk,if_pos rfl] at e
   rcases clOf_in h' e with q | ⟨q1,q2⟩
   ·rw[List.lookup_cons] at q
    cases hy:y == n with
    | true =>
     rw[hy] at q
     have:y=n:=by simpa using hy
     subst this
     obtain ⟨c',hc'⟩:=h (y,.free) List.mem_cons_self rfl
     have hc'':env.cells.lookup y=some c':=hc'
     rw[hc''] at q
     refine .inr ⟨List.mem_cons_self,?_⟩
     rw[hc''];exact q
    | false=>rw[hy] at q;exact .inl q
   ·exact .inr ⟨List.mem_cons_of_mem _ q1,q2⟩
  | false =>
   rw[hk,if_neg (by simp)] at e
   rcases clOf_in h' e with q | ⟨q1,q2⟩
   ·exact .inl q
   ·exact .inr ⟨List.mem_cons_of_mem _ q1,q2⟩
theorem clOf_some {env:Env}{y:Str}:∀ {names:List (Str × NameKind)}{acc:List (Str × Addr)},((y,NameKind.free) ∈ names\/(acc.lookup y).isSome=true)->((clOf env names acc).lookup y).isSome=true
 | [],acc,h=>by
  rcases h with h | h
  ·cases h
  ·exact h
 | (n,k)::r,acc,h=>by
  unfold clOf
  cases hk:k == NameKind.free with
  | true =>
   rw[if_pos rfl]
   refine clOf_some ?_
   rcases h with h | h
   ·rcases List.mem_cons.mp h with e | e
    ·cases e
     exact .inr (by rw[List.lookup_cons];simp)
    ·exact .inl e
   ·refine .inr ?_
    rw[List.lookup_cons]
    split
    ·rfl
    ·exact h
  | false =>
   rw[if_neg (by simp)]
   refine clOf_some ?_
   rcases h with h | h
   ·rcases List.mem_cons.mp h with e | e
    ·cases e;cases hk
    ·exact .inl e
   ·exact .inr h
theorem cf_in {y:Str}{c:Addr}:∀ {names:List (Str × NameKind)}{h:Heap}{acc:List (Str × Addr)},(cellsFrom h.objs.size names acc).lookup y=some c ->
  acc.lookup y=some c\/(h.objs.size<=c/\(pushCells h names).IsCell c none/\(y,NameKind.cell) ∈ names)
 | [],h,acc,e=>.inl e
 | (n,k)::r,h,acc,e=>by
  unfold cellsFrom at e
  cases hk:k == NameKind.cell with
  | true =>
   have hk':k=.cell:=by simpa using hk
   subst hk'
   rw[hk,if_pos rfl] at e
   have ih:=cf_in (y:=y) (c:=c) (names:=r) (h:=h.push { cls:=.type "cell",data:=.cell none }) (acc:=(n,h.objs.size)::acc)
   rw[Heap.size_push] at ih
   have hp:pushCells h ((n,NameKind.cell)::r)=pushCells (h.push { cls:=.type "cell",data:=.cell none }) r:=by
    exact if_pos hk
   rcases ih e with q | ⟨q1,q2,q3⟩
   ·rw[List.lookup_cons] at q
    cases hy:y == n with
    | true =>
     rw[hy] at q
     cases q
     have hyn:y=n:=by simpa using hy
     subst hyn
     refine .inr ⟨Nat.le_refl _,?_,List.mem_cons_self⟩
     rw[hp]
     exact ⟨_,pushCells_keeps _ _ _ _ (Heap.get?_push_size _ rfl),rfl⟩
    | false=>rw[hy] at q;exact .inl q
   ·exact .inr ⟨Nat.le_trans (Nat.le_succ _) q1,by rw[hp];exact q2,List.mem_cons_of_mem _ q3⟩
  | false =>
   rw[hk,if_neg (by simp)] at e
   have hp:pushCells h ((n,k)::r)=pushCells h r:=by
    show (if (k == NameKind.cell)=true then _ else _)=_
    rw[hk,if_neg (by simp)]
   rcases cf_in e with q | ⟨q1,q2,q3⟩
   ·exact .inl q
   ·exact .inr ⟨q1,by rw[hp];exact q2,List.mem_cons_of_mem _ q3⟩
theorem cf_lo {y:Str}{c:Addr}{lo:Nat}:∀ {names:List (Str × NameKind)}{n:Nat}{acc:List (Str × Addr)},((y,NameKind.cell) ∈ names\/∀ c,acc.lookup y=some c->lo<=c)->lo<=n->(cellsFrom n names acc).lookup y=some c->lo<=c
 | [],n,acc,h,_,e=>by
  rcases h with h | h
  ·cases h
  ·exact h c e
 | (m,k)::r,n,acc,h,hn,e=>by
  unfold cellsFrom at e
  cases hk:k == NameKind.cell with
  | true =>
   rw[hk,if_pos rfl] at e
   refine cf_lo ?_ (Nat.le_trans hn (Nat.le_succ _)) e
   by_cases hy:y=m
   ·subst hy
    refine .inr fun c hc=>?_
    rw[List.lookup_cons,beq_self_eq_true] at hc
    cases hc
    exact hn
   ·rcases h with h | h
    ·rcases List.mem_cons.mp h with z | z
     ·cases z;exact absurd rfl hy
     ·exact .inl z
    ·refine .inr fun c hc=>?_
     rw[List.lookup_cons] at hc
     have:(y == m)=false:=by simpa using hy
     rw[this] at hc
     exact h c hc
  | false =>
   rw[hk,if_neg (by simp)] at e
   refine cf_lo ?_ hn e
   rcases h with h | h
   ·rcases List.mem_cons.mp h with z | z
    ·cases z;cases hk
    ·exact .inl z
   ·exact .inr h
theorem cf_inj:∀ {names:List (Str × NameKind)}{n:Nat}{acc:List (Str × Addr)},(∀ y z c,acc.lookup y=some c->acc.lookup z=some c->y=z)->(∀ y c,acc.lookup y=some c->c < n) ->
  ∀ y z c,(cellsFrom n names acc).lookup y=some c->(cellsFrom n names acc).lookup z=some c->y=z
 | [],n,acc,hi,_=>hi
 | (m,k)::r,n,acc,hi,hl=>by
  unfold cellsFrom
  cases hk:k == NameKind.cell with
  | true =>
   rw[if_pos rfl]
   refine cf_inj (fun y z c e1 e2=>?_) fun y c e=>?_
   ·rw[List.lookup_cons] at e1 e2
    cases hy:y == m <;> cases hz:z == m <;> rw[hy] at e1 <;> rw[hz] at e2
    ·exact hi y z c e1 e2
    ·cases e2;exact absurd (hl y _ e1) (Nat.lt_irrefl _)
    ·cases e1;exact absurd (hl z _ e2) (Nat.lt_irrefl _)
    ·exact (by simpa using hy:y=m).trans (by simpa using hz:z=m).symm
   ·rw[List.lookup_cons] at e
    cases hy:y == m <;> rw[hy] at e
    ·exact Nat.lt_succ_of_lt (hl y c e)
    ·cases e;exact Nat.lt_succ_self _
  | false =>
   rw[if_neg (by simp)]
   exact cf_inj hi hl
theorem newBlockEnv {M:Model}{A:Around}{E:Value->Shared->Prop}{s:Shared}{scope:Scope}{globals:Addr}{cl:List (Str × Addr)}{qual:Str}{outer:Env}{Q:Env->Shared->Prop}
  (hQ:Q { scope:=scope,locals:=s.heap.objs.size,globals:=globals,cells:=cellsFrom (s.heap.objs.size+1) scope.names cl,qual:=qual,func:=none,code:=outer.code,frame:=outer.frame,builtins:=outer.builtins }
   { s with heap:=pushCells (s.heap.push { cls:=.type "dict",data:=.dict #[] }) scope.names }) :
  wpAny M A (newFunctionEnv scope globals cl [] qual none .none (some outer)) Q E s:=by
 simp only[newFunctionEnv,Option.isSome_some,if_true]
 refine wpAny_bind (wpAny_alloc ?_)
 refine wpAny_bind (wpAny_layCells _ (fun name kind cells=>by cases hkc:kind == NameKind.cell <;> simp[hkc]) _ _ _ _ ?_)
 rw[show ({ s with heap:=s.heap.push { cls:=.type "dict",data:=.dict #[] } }:Shared).heap.objs.size=s.heap.objs.size+1 from Heap.size_push ..]
 simp only[List.forIn_nil]
 exact wpAny_bind (wpAny_pure (wpAny_pure hQ))
theorem relabel_lookup {scope:Scope}{env:Env}{y:Str}:(relabel scope env).names.lookup y=(scope.names.lookup y).map fun k=>if (k == NameKind.free && env.scope.kind == .function && env.kindOf y == some .cell) then NameKind.cell else k:=by
 have all:∀ l:List (Str × NameKind),(l.map fun (n,k)=>if (k == NameKind.free && env.scope.kind == .function && env.kindOf n == some .cell) then (n,NameKind.cell) else (n,k)).lookup y=(l.lookup y).map fun k=>if (k == NameKind.free && env.scope.kind == .function && env.kindOf y == some .cell) then NameKind.cell else k:=by
  intro l
  induction l with
  | nil=>rfl
  | cons p r ih =>
   obtain ⟨n,k⟩:=p
   rw[List.map_cons,List.lookup_cons]
   by_cases hc:(k == NameKind.free && env.scope.kind == .function && env.kindOf n == some .cell)=true
   ·simp only[hc,if_true,List.lookup_cons]
    cases hy:y == n with
    | true =>
     have:y=n:=by simpa using hy
     subst this
     simp only[Option.map_some,hc,if_true]
    | false=>exact ih
   ·simp only[if_neg hc,List.lookup_cons]
    cases hy:y == n with
    | true =>
     have:y=n:=by simpa using hy
     subst this
     simp only[Option.map_some,if_neg hc]
    | false=>exact ih
 exact all scope.names
noncomputable def dum (x:Str):Str:=⟨x.cps.push 0⟩
noncomputable def compN (N xs:List Str):List Str:=(N.map fun y=>if y ∈ xs then dum y else y)++xs
theorem compN_len (N xs:List Str):(compN N xs).length=N.length+xs.length:=by simp[compN]
theorem compN_last (N xs:List Str) (j:Nat):(compN N xs)[N.length+j]?=xs[j]?:=by
 unfold compN
 rw[List.getElem?_append_right (by simp)]
 simp
theorem compN_old {N xs:List Str}{y:Str}{i:Nat}(hi:i < N.length) (h:(compN N xs)[i]?=some y):(∃ x ∈ xs,y=dum x)\/(N[i]?=some y/\y ∉ xs):=by
 unfold compN at h
 rw[List.getElem?_append_left (by simpa using hi),List.getElem?_map] at h
 obtain ⟨z,hz⟩:∃ z,N[i]?=some z:=⟨N[i],by simp[hi]⟩
 rw[hz] at h
 by_cases e:z ∈ xs
 ·simp only[Option.map_some,if_pos e] at h
  exact .inl ⟨z,e,(Option.some.inj h).symm⟩
 ·simp only[Option.map_some,if_neg e] at h
  have e2:z=y:=Option.some.inj h
  subst e2
  exact .inr ⟨hz,e⟩
structure CompOf (X:Cx) (scope:Scope) (xs:List Str) (Xc:Cx):Prop where
 prog:Xc.prog=X.prog
 w:Xc.w=X.w
 K:Xc.K=X.K
 mg:Xc.mg=X.mg
 base:Xc.base=X.base
 A:Xc.A=X.A
 N:Xc.N=compN X.N xs
 sc:Xc.env.scope=relabel scope X.env
 calm:Xc.calm=true
 stack:Xc.stack=X.stack
def PTs (X:Cx) (ifs:List Expr) (t:TT):Prop :=
 ∀ (pins:List (Addr × Obj)) (s:Shared) (σ:St) (H:Hp) (Q:Bool->Hp->Prop),Inv X pins σ H s->t σ H Q ->
  wpAny (model X.prog X.w) X.A (forIn ifs true fun c r=>if r=true then do let ok <- isTrue c X.env (eval c X.env);pure (ForInStep.yield ok) else pure (ForInStep.yield r)) (TP X pins σ Q) X.xe s
theorem pts_one {X:Cx}{c:Expr}{t:TT}(h:PT X c t):PTs X [c] t:=fun pins s σ H Q I q=>wpAny_tests_one (h pins s σ H Q I q)
structure BlockOk (X:Cx) (scope:Scope) (xs:List Str):Prop where
 kind:scope.kind=.function
 own:∀ x ∈ xs,scope.names.lookup x=some .local\/scope.names.lookup x=some .cell
 locs:∀ y ∈ scope.names,y.2=.local->scope.names.lookup y.1=some .local
 free:∀ y ∈ scope.names,y.2=.free->X.env.scope.names.lookup y.1=some .cell\/X.env.scope.names.lookup y.1=some .free
 alone:∀ y ∈ X.N,y ∉ xs->scope.names.lookup y ≠ some .local/\scope.names.lookup y ≠ some .cell
 one:∀ y ∈ scope.names,y.2=.cell->scope.names.lookup y.1 ≠ some .free
 nd:(compN X.N xs).Nodup
 dumN:∀ x ∈ xs,scope.names.lookup (dum x)=none
theorem compLoop_any {prog:Program}{w:World}{A:Around}{R:Result->Shared->Prop}{s:Shared}{elt target iter:Expr}{ifs:List Expr}{scope:Scope}{pos:Pos}{it acc:Value}{env:Env}(I:Nat->Shared->Prop)
  (turn:∀ n s,I n s->wpAny (model prog w) A (pyNext it) (fun r s₁=>match r with
   | none=>R (.ok .next) s₁
   | some v=>wpAny (model prog w) A (letOwnedTupleGo target it v) (fun _ s₁'=>wpAny (model prog w) A (assign target env v) (fun _ s₂ =>
     wpAny (model prog w) A (forIn ifs true fun c r=>if r=true then do let ok <- isTrue c env (eval c env);pure (ForInStep.yield ok) else pure (ForInStep.yield r)) (fun ok s₃ =>
      if ok=true then wpAny (model prog w) A (eval elt env) (fun x s₄ =>
       wpAny (model prog w) A (call (.builtin "list.append") [acc,x]) (fun _ s₅=>∃ m,m < n/\I m s₅) (notedBy (model prog w) A env fun e s'=>R (.error e) s') s₄) (notedBy (model prog w) A env fun e s'=>R (.error e) s') s₃
      else ∃ m,m < n/\I m s₃) (notedBy (model prog w) A env fun e s'=>R (.error e) s') s₂) (notedBy (model prog w) A env fun e s'=>R (.error e) s') s₁') (notedBy (model prog w) A env fun e s'=>R (.error e) s') s₁) (notedBy (model prog w) A env fun e s'=>R (.error e) s') s)
  (n:Nat) (h:I n s):codeAny (model prog w) A (.compLoop (.ListComp elt [⟨target,iter,ifs,0⟩] scope pos) 0 it acc env) R s:=by
 refine codeAny_loop rfl I (fun n s hI=>?_) n h
 show wpAny _ A ((compTurn (.ListComp elt [⟨target,iter,ifs,0⟩] scope pos) 0 it acc env).onRaise (fun x=>do noteFrame x env;theTreesLotGoes x)) _ _ s
 refine wpAny_noted ?_
 rw[compTurn_list]
 refine wpAny_bind (wpAny_standAt (wpAny_bind (wpAny_mono (turn n s hI) (fun r s₁ h₁=>?_) fun _ _ h'=>h')))
 cases r with
 | none=>exact wpAny_pure h₁
 | some v =>
  refine wpAny_bind (wpAny_mono h₁ (fun _ s₁' h₁'=>?_) fun _ _ h'=>h')
  refine wpAny_bind (wpAny_mono h₁' (fun _ s₂ h₂=>wpAny_bind (wpAny_mono h₂ (fun ok s₃ h₃=>?_) fun _ _ h'=>h')) fun _ _ h'=>h')
  cases ok with
  | false=>exact wpAny_pure ⟨rfl,h₃⟩
  | true =>
   exact wpAny_bind (wpAny_bind (wpAny_mono h₃ (fun x s₄ h₄=>wpAny_bind (wpAny_mono h₄ (fun _ s₅ h₅=>wpAny_pure (wpAny_pure ⟨rfl,h₅⟩)) fun _ _ h'=>h')) fun _ _ h'=>h'))
def tComp (un:V->Hp->List V->Prop) (wi:TI) (tc:TT) (te:TE):TE:=fun σ H Q=>wi σ H fun J H1=>∀ D,H1 D=none->∃ W:Nat->Nat->List V->Hp->Prop,(∃ m,W 0 m [] (upd H1 D (.lst [])))/\∀ i m ys H,W i m ys H ->
 (J.stop i H/\Q (.ref D) H)\/(J.go i H/\∀ v H',J.yld i H v H'->∃ vs,un v H' vs/\tc (σ++vs.map some) H' fun b H2=>if b=true then te (σ++vs.map some) H2 fun y H3=>H3 D=some (.lst ys)/\ys.length < sizeLine/\∃ m',m' < m/\W (i+1) m' (ys++[y]) (upd H3 D (.lst (ys++[y])))
  else ∃ m',m' < m/\W (i+1) m' ys H2)
section
variable {X : Cx} {elt iter tg : Expr} {xs : List Str} {y : Str} {g : TG} {un : V -> Hp -> List V -> Prop} {py : Pos} {ifs : List Expr} {scope : Scope} {pos spos : Pos} {wi : TI} {tc : TT} {te : TE}
theorem Inv.aside {pins:List (Addr × Obj)}{σ:St}{H:Hp}{s:Shared}{C lo:Addr}{h':Heap}(I:Inv X pins σ H s) (hlo:lo<=C) (hL:X.env.locals < lo) (hcell:∀ y c,X.env.cells.lookup y=some c->c < lo) (hpin:∀ p ∈ X.pn++pins,p.1 < lo)
  (hn:H C=none) (hs:Heap.SameBut C s.heap h'):Inv X pins σ H { s with heap:=h' } :=
 I.turned (it:=C) (t':=s.toks) (fun b o hb e=>(hs.2 b hb).trans e) hn (Nat.ne_of_gt (Nat.lt_of_lt_of_le hL hlo)) (.inr (Nat.le_trans I.ok.above (Nat.le_trans (Nat.le_of_lt hL) hlo)))
  (fun y c e=>Nat.ne_of_lt (Nat.lt_of_lt_of_le (hcell y c e) hlo)) fun p hp=>Nat.ne_of_lt (Nat.lt_of_lt_of_le (hpin p hp) hlo)
theorem Inv.below {pins:List (Addr × Obj)}{σ:St}{H:Hp}{s:Shared}(I:Inv X pins σ H s):X.env.locals < s.heap.objs.size/\(∀ y c,X.env.cells.lookup y=some c->c < s.heap.objs.size)/\∀ p ∈ X.pn++pins,p.1 < s.heap.objs.size :=
 ⟨I.lt,fun y c e=>let ⟨_,z⟩:=I.cell y c e;z.lt,fun p hp=>Heap.lt_size (I.pin p hp).1⟩
theorem block_closure (B:BlockOk X scope xs) (ok:X.Ok):closureFor scope X.env=pure (clOf X.env scope.names []) :=
 closureFor_all fun y hy hf=>(B.free y hy hf).elim (fun q=>ok.has y.1 (.inl q)) fun q=>ok.has y.1 (.inr q)
structure Tgt (X:Cx) (scope:Scope) (xs:List Str) (tg:Expr) (g:TG) (un:V->Hp->List V->Prop):Prop where
 pg:∀ Xc,CompOf X scope xs Xc->(∀ x ∈ xs,Loc Xc.env.scope x/\(Xc.fn x=true\/Xc.env.scope.names.lookup x=some .local))->PG Xc tg g
 un:∀ v H vs os (σ:St),σ.length=X.N.length->os.length=xs.length->un v H vs->vs.length=xs.length/\g v (σ++os) H fun σ2 H2=>σ2=σ++vs.map some/\H2=H
def un1 (v:V) (_:Hp) (vs:List V):Prop:=vs=[v]
theorem one_in {α:Type}{l:List α}(h:l.length=1):∃ a,l=[a]:=by
 cases l with
 | nil=>cases h
 | cons a t =>
  cases t with
  | nil=>exact ⟨a,rfl⟩
  | cons b t=>cases h
end
end L2
namespace L2
open PySem PySem.Spec PyProof.Rows
section
variable {X : Cx}
theorem Vals.at {xs:List V}{us:List Value}(h:Vals xs us) {i:Nat}{u:Value}(e:us[i]?=some u):∃ x,xs[i]?=some x/\RelV x u:=by
 have hl:=h.length
 have hi:=(List.getElem?_eq_some_iff.mp e).1
 have hx:xs[i]?=some xs[i]:=List.getElem?_eq_getElem (by lia)
 obtain ⟨u',h1,h2⟩:=h.get hx
 rw[e] at h1;cases h1
 exact ⟨_,hx,h2⟩
theorem all_range (bs:List Bool):(List.range bs.length).all (fun i=>bs.getD i true)=bs.all id:=by
 rw[Bool.eq_iff_iff,List.all_eq_true,List.all_eq_true]
 constructor
 ·intro h b hb
  obtain ⟨i,hi,e⟩:=List.getElem_of_mem hb
  have:=h i (by simpa using hi)
  rw[List.getD_eq_getElem?_getD,List.getElem?_eq_getElem hi] at this
  simpa [e] using this
 ·intro h i hi
  have hi':i < bs.length:=by simpa using hi
  rw[List.getD_eq_getElem?_getD,List.getElem?_eq_getElem hi']
  exact h _ (List.getElem_mem hi')
theorem call_all_of (hc:X.calm=true):CallR X (.builtin "all") (fun xs H Q=>∃ (p:Addr) (bs:List Bool),xs=[.ref p]/\SqL X.K H p (bs.map V.bl)/\Q (.bl (bs.all id)) H):=by
 intro pins s σ H xs us Q I r h
 obtain ⟨p,bs,rfl,hq,q⟩:=h
 obtain ⟨u,rfl,rx⟩:=vals1 r
 cases rx
 obtain ⟨its,r',pl,hz⟩:=I.list hq
 have hlen:=r'.length
 have hp:∃ o,s.heap.get? p=some o:=by obtain ⟨o,ho,_⟩:=pl.isList;exact ⟨o,ho⟩
 obtain ⟨o,ho⟩:=hp
 have hlt:=Heap.lt_size ho
 refine call_all_walk (wpAny_pyIter_list pl.isList ?_)
 refine ⟨s.heap.objs.size,_,_,_,_,_,fun i=>bs.getD i true,rfl,Walks.list (A:=X.A.in1) (I.ok.hd hc) s.heap.objs.size p (Nat.ne_of_lt hlt) its.toArray,⟨⟨_,Heap.get?_push_size _ rfl,rfl,rfl⟩,pl.isList.at fun o e=>Heap.get?_push_of_some _ e⟩,?_,fun h' tk hk=>?_⟩
 ·intro i v s2 Q2 E2 hv hQ
  have hv':its[i]?=some v:=by simpa using hv
  obtain ⟨y,hy,ry⟩:=r'.at hv'
  rw[List.getElem?_map] at hy
  cases hb:bs[i]? with
  | none=>rw[hb] at hy;cases hy
  | some b =>
   rw[hb] at hy;cases hy
   have:v=.bool b:=ry
   subst this
   have e:bs.getD i true=b:=by rw[List.getD_eq_getElem?_getD,hb];rfl
   have hQ':Q2 (bs.getD i true) s2:=hQ
   rw[e] at hQ'
   exact wpAny_truthy_bool hQ'
 ·have e:its.toArray.size=bs.length:=by simp at hlen ⊢;lia
  rw[e,all_range]
  exact ⟨.bl (bs.all id),H,I.kept (t':=tk) fun b o e=>hk b o (fun hb=>by
   have:b=s.heap.objs.size:=by simpa using hb
   exact absurd (Heap.lt_size e) (by rw[this];exact Nat.lt_irrefl _)) (Heap.get?_push_of_some _ e),rfl,q⟩
theorem preSum_list (ns:List Int):∀ n,n<=ns.length->preSum (fun i=>ns.getD i 0) n=(ns.take n).sum
 | 0,_=>by simp[preSum]
 | n+1,h=>by
  have e:ns[n]?=some (ns.getD n 0):=by rw[List.getD_eq_getElem?_getD,List.getElem?_eq_getElem (by lia)];rfl
  rw[preSum,preSum_list ns n (by lia),List.take_add_one,e,List.sum_append]
  simp
theorem call_sum_of (hc:X.calm=true):CallR X (.builtin "sum") (fun xs H Q=>∃ (p:Addr) (ns:List Int),xs=[.ref p]/\SqL X.K H p (ns.map V.int)/\Q (.int ns.sum) H):=by
 intro pins s σ H xs us Q I r h
 obtain ⟨p,ns,rfl,hq,q⟩:=h
 obtain ⟨u,rfl,rx⟩:=vals1 r
 cases rx
 obtain ⟨its,r',pl,hz⟩:=I.list hq
 have hlen:=r'.length
 have hp:∃ o,s.heap.get? p=some o:=by obtain ⟨o,ho,_⟩:=pl.isList;exact ⟨o,ho⟩
 obtain ⟨o,ho⟩:=hp
 have hlt:=Heap.lt_size ho
 refine call_sum_walkG (wpAny_pyIter_list pl.isList ?_)
 refine ⟨s.heap.objs.size,_,_,_,_,_,fun i=>ns.getD i 0,rfl,Walks.list (A:=X.A.in1) (I.ok.hd hc) s.heap.objs.size p (Nat.ne_of_lt hlt) its.toArray,⟨⟨_,Heap.get?_push_size _ rfl,rfl,rfl⟩,pl.isList.at fun o e=>Heap.get?_push_of_some _ e⟩,?_,?_,fun h' tk t' hk=>?_⟩
 ·intro b hb
  have h1:s.heap.objs.size < (s.heap.push { cls:=.type "list_iterator",data:=.fields #[.ref p,.int 0 0] }).objs.size:=Heap.lt_size (Heap.get?_push_size _ rfl)
  have:b=s.heap.objs.size\/b=p:=by simpa using hb
  rcases this with rfl | rfl
  ·exact h1
  ·exact Nat.lt_trans hlt h1
 ·intro i v hv
  have hv':its[i]?=some v:=by simpa using hv
  obtain ⟨y,hy,ry⟩:=r'.at hv'
  rw[List.getElem?_map] at hy
  cases hb:ns[i]? with
  | none=>rw[hb] at hy;cases hy
  | some b =>
   rw[hb] at hy;cases hy
   obtain ⟨t,rfl⟩:=(ry:∃ t,v=.int b t)
   have e:ns.getD i 0=b:=by rw[List.getD_eq_getElem?_getD,hb];rfl
   exact ⟨t,by show Value.int b t=Value.int (ns.getD i 0) t;rw[e]⟩
 ·have e:its.toArray.size=ns.length:=by simp at hlen ⊢;lia
  rw[e,preSum_list ns ns.length (Nat.le_refl _),List.take_length]
  exact ⟨.int ns.sum,H,I.kept (t':=tk) fun b o e=>hk b o (fun hb=>by
   have:b=s.heap.objs.size:=by simpa using hb
   exact absurd (Heap.lt_size e) (by rw[this];exact Nat.lt_irrefl _)) (Heap.get?_push_of_some _ e),⟨t',rfl⟩,q⟩
end
end L2
namespace L2
open PySem PySem.Spec PyProof.Rows
section
variable {X : Cx} {pins : List (Addr × Obj)} {σ : St} {H : Hp} {s : Shared} {h' : Heap}
end
section
variable {X : Cx} {elts : List Expr} {k : Nat} {pt : Pos}
end
end L2
namespace L2
open PySem PySem.Spec PyProof.Rows
open AutoSeq1 (wpAny_loadPart')
section
variable {prog : Program} {w : World} {A : Around} {E : Value -> Shared -> Prop} {s : Shared}
end
section
variable {X : Cx} {elts : List Expr} {k : Nat} {pt : Pos}
end
end L2
namespace L2
open PySem PySem.Spec PyProof.Rows
section
variable {X : Cx}
end
end L2
namespace L2
open PySem PySem.Spec PyProof.Rows
def Held (fs:List Addr) (H':Hp) (h h' B:Heap):Prop:=∀ b o,h'.get? b=some o->(H' b ≠ none\/∃ o₀,h.get? b=some o₀)->b ∉ fs->B.get? b=some o
theorem frs_cons {env:Env}{l:List Env}{L:Addr}(hf:env.frame=some L):frs (env::l)=L::frs l:=by
 unfold frs
 rw[List.filterMap_cons,hf]
theorem un_frames {fs:List Addr}{H H':Hp}{h h' base:Heap}{l:List Env}(hl:h.FunFrames base l) (hn:∀ b ∈ frs l,H b=none) (u:Un fs [] H H' h h'):∀ b ∈ frs l,H' b=none:=fun b hb=>by
 obtain ⟨_,o,ho,_⟩:=hl.mem hb
 exact u.free b o ho (hn b hb) (by simp)
theorem ObjOk.ob {P:Program}{w:World}{H:Hp}{h:Heap}{a:Addr}{o:HO}(x:ObjOk P w H h a o):∃ u,h.get? a=some u:=by
 cases o with
 | lst xs=>obtain ⟨_,_,_,_,e⟩:=x;exact ⟨_,e⟩
 | tup xs=>obtain ⟨_,_,_,o,e,_⟩:=x;exact ⟨_,e⟩
 | dK kvs=>obtain ⟨_,_,_,_,o,_,_,e,_⟩:=x;exact ⟨_,e⟩
 | dT kvs=>obtain ⟨_,_,_,_,o,_,_,e,_⟩:=x;exact ⟨_,e⟩
 | set S n=>obtain ⟨o,_,_,_,e,_⟩:=x;exact ⟨_,e⟩
 | ins C dx fs=>obtain ⟨_,_,_,e,_⟩:=x;exact ⟨_,e⟩
 | own y=>exact x
 | xd fs=>obtain ⟨_,⟨_,_,_,e,_⟩,_⟩:=x;exact ⟨_,e⟩
 | rng lo hi=>obtain ⟨_,_,_,e⟩:=x;exact ⟨_,e⟩
 | frz ob u=>exact ⟨_,x.1⟩
 | tbl ps=>exact ⟨_,show h.get? a=some _ from x⟩
 | met f y=>exact ⟨_,show h.get? a=some _ from x⟩
 | ext φ=>exact x.2.1
section
variable {P : Program} {w : World} {X : Cx} {pins : List (Addr × Obj)} {σ : St} {H H' : Hp} {s : Shared} {h1 h2 B : Heap}
theorem hok_stay {fs:List Addr}{h:Heap}(ok:HOk P w H' h1) (hfs:∀ b ∈ fs,H' b=none) (hB:Held fs H' h h1 B) (st:B.StaysIn h2):HOk P w H' h2:=fun a o e =>
 (ok a o e).stay (fun b u hb q=>st b u (hB b u q (.inl (by
  rcases hb with rfl | hb
  ·rw[e];simp
  ·rw[hb];simp)) fun hm=>by
   have:=hfs b hm
   rcases hb with rfl | hb
   ·rw[e] at this;cases this
   ·rw[hb] at this;cases this)) (fun _ q=>q) fun _ _ q=>q
theorem Held.next {fs:List Addr}{h:Heap}(ok:HOk P w H' h1) (hB:Held fs H' h h1 B) (st:B.StaysIn h2) (th:∀ b o,h.get? b=some o->∃ o',h1.get? b=some o'):Held fs H' h h2 B:=fun b o e hq hn=>by
 have ex:∃ o',h1.get? b=some o':=by
  rcases hq with z | ⟨o₀,z⟩
  ·cases q:H' b with
   | none=>exact absurd q z
   | some u =>
    exact (ok b u q).ob
  ·exact th b o₀ z
 obtain ⟨o',e1⟩:=ex
 have e2:=hB b o' e1 hq hn
 have e3:=st b o' e2
 rw[e] at e3
 cases e3
 exact e2
end
theorem un_left {outer:List Env}{L:Addr}{H₀ H H':Hp}{h₀ h h1 h2 B base:Heap}(hL:h₀.objs.size<=L) (hfo:h₀.FunFrames base outer) (hf0:∀ b ∈ frs outer,H₀ b=none)
  (u0:Un (frs outer) [] H₀ H h₀ h) (u1:Un (L::frs outer) [] H H' h h1) (hB:Held (L::frs outer) H' h h1 B) (st:B.StaysIn h2) (up:h1.UpToSlots h2):Un (frs outer) [] H₀ H' h₀ h2:=by
 have no:∀ b:Addr,b ∉ ([]:List Addr):=fun b=>by simp
 have nL:∀ {b:Addr}{o:Obj},h₀.get? b=some o->b ≠ L:=fun {b o} e z=>by
  subst z
  exact absurd (Nat.lt_of_lt_of_le (Heap.lt_size e) hL) (Nat.lt_irrefl _)
 have kp:∀ b o,h₀.get? b=some o->H₀ b=none->b ∉ frs outer->h2.get? b=some o:=fun b o e n hb=>by
  have e1:=u0.keep b o e n hb (no b)
  have hb':b ∉ L::frs outer:=fun hm=>(List.mem_cons.mp hm).elim (nL e) hb
  have e2:=u1.keep b o e1 (u0.free b o e n (no b)) hb' (no b)
  exact st b o (hB b o e2 (.inr ⟨o,e1⟩) hb')
 have sl:∀ b o,h₀.get? b=some o->H₀ b=none->b ∈ frs outer->∃ sl,h2.get? b=some { o with slots:=sl }:=fun b o e n hb=>by
  obtain ⟨s1,e1⟩:=u0.slot b o e n hb (no b)
  obtain ⟨s2,e2⟩:=u1.slot b _ e1 (u0.free b o e n (no b)) (List.mem_cons_of_mem _ hb) (no b)
  obtain ⟨_,o',ho',hd⟩:=hfo.mem hb
  rw[e] at ho'
  cases ho'
  obtain ⟨s3,e3⟩:=up b _ e2 hd
  exact ⟨s3,e3⟩
 refine ⟨fun b o e n hb _=>kp b o e n hb,fun b o e n hb _=>sl b o e n hb,fun b o e n _=>?_,fun b o e _=>?_,fun b xs q=>u1.tups b xs (u0.tups b xs q),fun b o u q=>u1.frzs b o u (u0.frzs b o u q),fun b ps q=>?_⟩
 ·obtain ⟨o1,e1⟩:=u0.there b o e (no b)
  exact u1.free b o1 e1 (u0.free b o e n (no b)) (no b)
 ·by_cases hb:b ∈ frs outer
  ·obtain ⟨s1,e1⟩:=sl b o e (hf0 b hb) hb
   exact ⟨_,e1⟩
  ·obtain ⟨o1,e1⟩:=u0.there b o e (no b)
   obtain ⟨o2,e2⟩:=u1.there b o1 e1 (no b)
   have hb':b ∉ L::frs outer:=fun hm=>(List.mem_cons.mp hm).elim (nL e) hb
   exact ⟨o2,st b o2 (hB b o2 e2 (.inr ⟨o1,e1⟩) hb')⟩
 ·obtain ⟨m1,e1⟩:=u0.tbls b ps q
  obtain ⟨m2,e2⟩:=u1.tbls b _ e1
  exact ⟨m1++m2,by rw[e2,Array.append_assoc]⟩
section
variable {P : Program} {w : World} {K : PySem.W.Frag} {mg : Str -> Option Value} {base : Heap} {N : List Str} {qual : Str} {scope : Scope} {f : Addr} {cd : Value} {A : Around} {outer : List Env} {s : Shared} {H : Hp} {E : XK}
theorem held_left {fs:List Addr}{L:Addr}{H₀ H H':Hp}{h₀ h h1 h2 B:Heap}(hL:h₀.objs.size<=L) (hLn:H' L=none) (u0:Un fs [] H₀ H h₀ h) (ok:HOk P w H' h1) (th:∀ b o,h.get? b=some o->∃ o',h1.get? b=some o')
  (hB:Held (L::fs) H' h h1 B) (st:B.StaysIn h2):Held fs H' h₀ h2 B:=fun b o e hq hn=>by
 have hb':b ∉ L::fs:=fun hm=>(List.mem_cons.mp hm).elim (fun z=>by
  subst z
  rcases hq with q | ⟨o₀,q⟩
  ·exact q hLn
  ·exact absurd (Nat.lt_of_lt_of_le (Heap.lt_size q) hL) (Nat.lt_irrefl _)) hn
 refine Held.next ok hB st th b o e (hq.imp id fun ⟨o₀,q⟩=>?_) hb'
 exact u0.there b o₀ q (by simp)
end
def Raises (X:Cx) (E:XK):Prop:=∀ (pins:List (Addr × Obj)) (σ:St) (H:Hp) (s:Shared) (h':Heap) (e C:Addr) (vs:List Value),Inv X pins σ H s->Heap.MadeExcOf s.heap h' e (.ref C) vs->E (.ref C) none H->X.xe (.ref e) { s with heap:=h' }
section
variable {P : Program} {w : World} {K : PySem.W.Frag} {mg : Str -> Option Value} {base : Heap} {N : List Str} {qual : Str} {scope : Scope} {f : Addr} {cd : Value} {A : Around} {outer : List Env} {s : Shared} {H : Hp} {E : XK}
end
def tRaise (C:Addr) (E:XK) (t:TA):TS:=fun D σ H=>t σ H fun vs H1=>vs.length<=sizeLine/\E (.ref C) none H1
section
variable {X : Cx} {x : Str} {C : Addr} {bm : List Value} {Bn newId initId : String} {E : XK} {t : TA} {np cpos pos : Pos} {e₀ : Expr} {rest : List Expr}
theorem ps_raise (O:OwnCls x C bm newId X.mg X.base) (FB:ExcBaseFacts Bn newId initId bm) (hc:X.calm=true) (hg:Gl X x) (hx:Raises X E) (ha:PA X (e₀::rest) t) (hdb:(x == ("__debug__" : Str))=false:=by decide)
  (he:starEach (e₀::rest) X.env=(false,eval e₀ X.env)::starEach rest X.env:=by rfl) (hpl:(backTo cpos (starEach rest X.env)).any (·.1)=false:=by rfl) :
  PS X (.Raise (some (.Call (.Name x np) (e₀::rest) [] cpos)) none pos) (tRaise C E t):=by
 intro pins s σ H D I h
 obtain ⟨tl,N,nm,q,bs,hdct,sn,sub,ab,col,dd,k0,k1,k2,k3,k5,mN,hC,hN,hni,T⟩:=O.obj
 refine wpAny_Raise_call_subT (k0:=k0) (k1:=k1) (k2:=k2) (k3:=k3) (k5:=k5) (dd:=dd) (col:=col) (ab:=ab) (sub:=sub) (sn:=sn) (hdct:=hdct) (bs:=bs) (q:=q) (nm:=nm) (C:=C) (N:=N) (bm:=tl) (mN:=mN) FB (T.hasType FB.hasBase) (I.ok.hd hc) (by rw[he];exact hpl) hni (ld_glob I hg O.bound ⟨rfl,?_⟩ hdb)
 have h1:=ha cpos pins s σ H _ I h
 rw[he] at h1 ⊢
 refine Calls.evalArgs_plain (wpAny_mono h1 (fun us s2 h2=>?_) fun _ _ y=>y)
 obtain ⟨vs,H1,I1,r,hz,hE⟩:=h2
 exact ⟨rfl,by rw[<- r.length];exact hz,I1.bk _ _ hC,hN.keeps I1.bk,T.keeps I1.bk,fun h' e mk=>hx pins σ H1 s2 h' e C us I1 mk hE⟩
end
end L2
namespace L2
open PySem PySem.Spec PySem.Calls PyProof.Rows PySem.W Builtin Builtin.ObjectAttr Builtin.Getset_descriptor
section
variable {prog : Program} {w : World} {A : Around} {E : Value -> Shared -> Prop} {K : PySem.W.Frag} {x C : Addr} {ox : Obj} {h : Heap} {g : Array GenState} {d : Drawn} {t : Nat} {os : OsState}
theorem exc_ty (M:Model) (hx:h.get? x=some ox) (hc:ox.cls=.ref C):Looks M h (typeOf (.ref x)) (.ref C):=hc ▸ (Looks.ld hx).andThen .now
theorem cls_get {R:Result->Shared->Prop}{tp:Value}(X:K.In h) (hx:h.get? x=some ox) (hc:ox.cls=.ref C) (hm:mroIn K C (.type "object")=some true) (hq:R (.ok (.ret (.ref C))) ⟨h,g,d,t,os⟩) :
  codeAny (model prog w) A (.call (.builtin "getset_descriptor.__get__") ⟨[.builtin "object.__class__",.ref x,tp],[]⟩) R ⟨h,g,d,t,os⟩:=by
 have L0:=exc_ty (model prog w) hx hc
 have L1:=looks_mroIn (M:=model prog w) X hm
 refine codeAny_call_builtin KF.slot_gs.plain KF.entry_gs ?_
 refine KF.slot_gs.check _ _ _ _ _ _ _ _ KF.type_class (KF.args_gs _ _ _) ?_
 unfold Builtin.«getset_descriptor.__get__» descrGet
 rw[dga_obj]
 refine wpAny_bind (wpAny_pure ?_)
 unfold descrGetter descrCheckInstance descrNameAndClass isInstance
 simp only[KF.owner_class]
 repeat lk
 have z1:Code.quiet (.builtin "object.__class__" ⟨[.ref x],[]⟩)=true:=Code.quiet_builtin _ (by decide +kernel)
 refine ⟨z1,?_⟩
 refine codeAny_builtin KF.entry_class ?_
 unfold Builtin.«object.__class__» shownTypeOf
 repeat lk
 exact hq
theorem exc_entry {tk:Tok}{Q:Fin->Shared->Prop}(X:K.In h) (hx:h.get? x=some ox) (hc:ox.cls=.ref C) (hcl:findIn K (.ref C) "__class__" = some (some (.builtin "object.__class__"))) (hm:mroIn K C (.type "object")=some true)
  (hq:Q (.done (.ret (.ref C))) ⟨h,g,d,t,os⟩):wpAny (model prog w) A (Builtin.«object.__getattribute__» ⟨[.ref x,.str "__class__" tk],[]⟩) Q E ⟨h,g,d,t,os⟩:=by
 have L0:=exc_ty (model prog w) hx hc
 have L1:=looks_findIn (M:=model prog w) X hcl
 have hT5:(⟨h,g,d,t,os⟩:Shared).TypeIs (.builtin "object.__class__") "getset_descriptor" := F.typeOf_object_class
 have f5:=F.typeOf_object_class
 have f6:=F.slot_gs_get.lookup
 have f7:=F.slot_gs_set.lookup
 unfold Builtin.«object.__getattribute__»
 repeat (any_goals (first | assumption | (with_reducible refine wpAny_loadPart_at hx ?_;rw[hc]) | with_reducible refine Looks.at (by assumption) ?_ | wp_step))
 refine cls_get X hx hc hm ?_
 repeat (any_goals (first | assumption | wp_step))
theorem exc_check {nameV:Value}{Q:Unit->Shared->Prop}(X:K.In h) (hx:h.get? x=some ox) (hc:ox.cls=.ref C) (hb:mroIn K C (.type "BaseException")=some true) (hq:Q () ⟨h,g,d,t,os⟩) :
  wpAny (model prog w) A (checkBuiltinCall "BaseException.__getattribute__" ⟨[.ref x,nameV],[]⟩) Q E ⟨h,g,d,t,os⟩:=by
 have L0:=exc_ty (model prog w) hx hc
 have L1:=looks_mroIn (M:=model prog w) X hb
 have z1:builtinKind "BaseException.__getattribute__" = some .slot:=by decide +kernel
 have z2:splitId "BaseException.__getattribute__" = some ("BaseException", "__getattribute__"):=by decide +kernel
 have z3:=F.args_bexc_ga (.ref x) nameV
 simp only[checkBuiltinCall,z1,z2]
 refine wpAny_bind ?_
 unfold isInstance
 repeat (first | with_reducible refine Looks.at (by assumption) ?_ | wp_step)
 exact hq
theorem exc_call {tk:Tok}{R:Result->Shared->Prop}(X:K.In h) (hx:h.get? x=some ox) (hc:ox.cls=.ref C) (hb:mroIn K C (.type "BaseException")=some true) (hcl:findIn K (.ref C) "__class__" = some (some (.builtin "object.__class__"))) (hm:mroIn K C (.type "object")=some true)
  (hq:R (.ok (.ret (.ref C))) ⟨h,g,d,t,os⟩):codeAny (model prog w) A (.call (.builtin "BaseException.__getattribute__") ⟨[.ref x,.str "__class__" tk],[]⟩) R ⟨h,g,d,t,os⟩ :=
 codeAny_call_builtin F.attr_ValueError.ga.plain F.entry_bexc_ga (exc_check X hx hc hb (exc_entry X hx hc hcl hm hq))
theorem exc_cls {s:Shared}{Q:Option Value->Shared->Prop}(X:K.In s.heap) (hx:s.heap.get? x=some ox) (hc:ox.cls=.ref C) (hga:findIn K (.ref C) "__getattribute__" = some (some (.builtin "BaseException.__getattribute__"))) (hgt:findIn K (.ref C) "__getattr__" = some none)
  (hb:mroIn K C (.type "BaseException")=some true) (hcl:findIn K (.ref C) "__class__" = some (some (.builtin "object.__class__"))) (hm:mroIn K C (.type "object")=some true)
  (hq:Q (some (.ref C)) { s with toks:=s.toks+1 }):wpAny (model prog w) A (getAttr? (.ref x) "__class__") Q E s:=by
 obtain ⟨h,g,d,t,os⟩:=s
 have L0:=exc_ty (model prog w) hx hc
 have L1:=looks_findIn (M:=model prog w) X hga
 have L2:=looks_findIn (M:=model prog w) X hgt
 have f3:=F.attr_ValueError.ga.bind (.ref x)
 have y2:(Value.builtin "BaseException.__getattribute__" == Value.builtin "object.__getattribute__")=false:=by decide +kernel
 have y1:(onTheHeap (Value.ref C) && Value.builtin "BaseException.__getattribute__" == Value.builtin "object.__getattribute__")=false:=by rw[y2];rfl
 unfold getAttr? getAttrBy? getAttrBy
 refine wpAny_bind (wpAny_mkText (wpAny_bind (wpAny_attempt (wpAny_holding (wpAny_bind (L0.at (wpAny_bind (L1.at ?_))))))))
 dsimp only
 rw[if_neg (by rw[y1];decide)]
 unfold getAttrByItsOwn hookBefore callGetattribute
 repeat (any_goals (first | assumption | with_reducible refine Looks.at (by assumption) ?_ | wp_step))
 refine exc_call (h:=h) X hx hc hb hcl hm ?_
 repeat (any_goals (first | assumption | wp_step))
end
end L2
namespace L2
open PySem PySem.Spec PySem.Calls PyProof.Rows PySem.W
structure ExcK (K:PySem.W.Frag) (C:Addr):Prop where
 ga:findIn K (.ref C) "__getattribute__" = some (some (.builtin "BaseException.__getattribute__"))
 gt:findIn K (.ref C) "__getattr__" = some none
 be:mroIn K C (.type "BaseException")=some true
 cl:findIn K (.ref C) "__class__" = some (some (.builtin "object.__class__"))
 mo:mroIn K C (.type "object")=some true
set_option tactic.hygienic true in
theorem cls_of {K:PySem.W.Frag}{C:Addr}(h:(clsIn K C).isSome=true):∃ c d cd sl,K.lookup C=some ⟨c,d,.cls cd,sl⟩:=by
 unfold clsIn at h
 split at h
 ·rename_i c d cd sl ho
  exact ⟨c,d,cd,sl,ho⟩
 ·cases h
theorem ExcK.ci {K:PySem.W.Frag}{C:Addr}(Z:ExcK K C):(clsIn K C).isSome=true:=by
 obtain ⟨cd,a,_⟩:=Option.bind_eq_some_iff.mp Z.be
 rw[a]
 rfl
theorem kitx_exc {K:PySem.W.Frag}{x C:Addr}{ox:Obj}(Z:ExcK K C) (hc:ox.cls=.ref C):KitX K (.ref x) (.ref C) (fun h=>h.get? x=some ox) where
 ty:=fun M h _ p=>exc_ty M p hc
 it:=fun M h X _=>by
  obtain ⟨c,d,cd,sl,ho⟩:=cls_of Z.ci
  intro A' Q' E' s' k q
  unfold isType loadHead
  refine wpAny_bind (wpAny_loadPart (k _ _ (X _ _ ho)) ?_)
  exact wpAny_pure q
 ne:=fun h tp dd its n sl X htp=>by
  obtain ⟨c,d,cd,sl',ho⟩:=cls_of Z.ci
  refine Bool.eq_false_iff.mpr fun q=>?_
  cases Value.ref.inj (beq_iff_eq.mp q)
  have z:=(X _ _ ho).symm.trans htp
  cases z
 ca:=fun X p k=>exc_cls X p hc Z.ga Z.gt Z.be Z.cl Z.mo k
def rIsX (K:PySem.W.Frag) (x C:Addr):List V->Hp->VK->Prop:=fun vs H Q =>
 (∃ c u b,vs=[.ref x,c]/\RelV c u/\(∀ u',RelV c u'->u'=u)/\kitOne K (.ref C) u=some b/\Q (.bl b) H) \/
 (∃ tp ts b,vs=[.ref x,.ref tp]/\H tp=some (.tup ts)/\(∀ us,Vals ts us->kitAny K (.ref C) us=some b)/\Q (.bl b) H)
theorem two_of {v w:V}{us:List Value}(r:Vals [v,w] us):∃ a b,us=[a,b]/\RelV v a/\RelV w b:=by
 cases r with
 | cons p q =>
  cases q with
  | cons p' q' =>
   cases q' with
   | nil=>exact ⟨_,_,rfl,p,p'⟩
section
variable {X : Cx} {pins : List (Addr × Obj)} {σ : St} {H : Hp} {s : Shared} {e : Addr} {oe : Obj} {E : Value -> Shared -> Prop}
end
theorem un_stay {l:List Env}{H H':Hp}{h h1 h2 B base:Heap}(hl:h.FunFrames base l) (hn:∀ b ∈ frs l,H b=none) (u:Un (frs l) [] H H' h h1) (hB:Held (frs l) H' h h1 B) (st:B.StaysIn h2) (up:h1.UpToSlots h2):Un (frs l) [] H H' h h2:=by
 have no:∀ b:Addr,b ∉ ([]:List Addr):=fun b=>by simp
 have sl:∀ b o,h.get? b=some o->b ∈ frs l->∃ sl,h2.get? b=some { o with slots:=sl }:=fun b o e hb=>by
  obtain ⟨s1,e1⟩:=u.slot b o e (hn b hb) hb (no b)
  obtain ⟨_,o',ho',hd⟩:=hl.mem hb
  rw[e] at ho'
  cases ho'
  obtain ⟨s2,e2⟩:=up b _ e1 hd
  exact ⟨s2,e2⟩
 refine ⟨fun b o e n hb _=>?_,fun b o e n hb _=>sl b o e hb,u.free,fun b o e _=>?_,u.tups,u.frzs,u.tbls⟩
 ·have e1:=u.keep b o e n hb (no b)
  exact st b o (hB b o e1 (.inr ⟨o,e⟩) hb)
 ·by_cases hb:b ∈ frs l
  ·obtain ⟨s1,e1⟩:=sl b o e hb
   exact ⟨_,e1⟩
  ·obtain ⟨o1,e1⟩:=u.there b o e (no b)
   exact ⟨o1,st b o1 (hB b o1 e1 (.inr ⟨o,e⟩) hb)⟩
section
variable {M : Model} {A : Around} {E : Value -> Shared -> Prop} {bs bs' bm bm' : List Value} {nm nm' q q' : Str} {C G N N' : Addr} {hdct hdct' : Bool} {sn sn' : List Str} {sub sub' : List Value} {ab ab' : Bool} {col col' : Option Bool} {dd dd' : Option Addr} {k0 k1 k2 k3 k5 j0 j1 j2 j3 j5 : Option Value} {newId newId' : String}
theorem exm_base {h:Heap}{g:Array GenState}{d:Drawn}{t:Nat}{os:OsState}{e:Addr}{oe:Obj}{Q:Bool->Shared->Prop}
  (hC:h.get? C=some (excClassObj nm q C N bs bm hdct sn sub ab col dd k0 k1 k2 k3 k5 newId)) (hG:h.get? G=some (excClassObj nm' q' G N' bs' bm' hdct' sn' sub' ab' col' dd' j0 j1 j2 j3 j5 newId')) (he:h.get? e=some oe) (hcls:oe.cls=.ref C)
  (y1:(Value.ref G::bm').contains (.type "BaseException")=true) (y2:(Value.ref C::bm).contains (.ref G)=true) (hq:Q true ⟨h,g,d,t,os⟩):wpAny M A (excMatches (.ref e) (.ref G)) Q E ⟨h,g,d,t,os⟩:=by
 have f:=tc_notTuple
 unfold excMatches
 repeat (first | (with_reducible refine wpAny_loadPart_at he ?_;rw[hcls]) | with_reducible refine wpAny_loadPart_at hG ?_ | (with_reducible refine wpAny_isSubtype_exc hG ?_;rw[y1]) | (with_reducible refine wpAny_isSubtype_exc hC ?_;rw[y2]) | wp_step)
 exact hq
end
end L2
namespace L2
open PySem PySem.Spec PySem.Calls PyProof.Rows PySem.W
section
variable {X : Cx} {pins : List (Addr × Obj)} {σ : St} {H : Hp} {s : Shared}
theorem Inv.lost {h':Heap}{m':Str->Option Value}{t':Nat}(I:Inv X pins σ H s) (hn:h'.Ns X.env.locals m') (hs:Heap.SameBut X.env.locals s.heap h'):Inv X pins (List.replicate X.N.length none) H { s with heap:=h',toks:=t' }:=by
 have lo:∀ {b:Addr}{o:Obj},X.s₀.heap.get? b=some o->b ≠ X.env.locals:=fun {b o} e z=>by
  subst z
  exact absurd (Nat.lt_of_lt_of_le (Heap.lt_size e) I.ok.above) (Nat.lt_irrefl _)
 refine ⟨I.ok,I.os,I.bare,⟨fun b o e n hb hx=>?_,fun b o e n hb hx=>?_,I.base.free,fun b o e hx=>?_,I.base.tups,I.base.frzs,I.base.tbls⟩,⟨m',hn,fun j y v e1 e2 _=>?_⟩,fun y c e=>?_,I.free,I.freeC,fun p hp=>?_,fun b ob e=>?_,by simp⟩
 ·rw[hs.2 b (lo e)];exact I.base.keep b o e n hb hx
 ·obtain ⟨sl,e1⟩:=I.base.slot b o e n hb hx
  exact ⟨sl,by rw[hs.2 b (lo e)];exact e1⟩
 ·obtain ⟨o',e1⟩:=I.base.there b o e hx
  exact ⟨o',by rw[hs.2 b (lo e)];exact e1⟩
 ·rw[List.getElem?_replicate] at e2
  split at e2 <;> cases e2
 ·obtain ⟨w',z⟩:=I.cell y c e
  exact ⟨w',z.sameBut hs (I.cne y c e)⟩
 ·obtain ⟨e,n,ne,nf,d⟩:=I.pin p hp
  exact ⟨by rw[hs.2 p.1 ne];exact e,n,ne,nf,d⟩
 ·have hL:=I.free
  refine (I.hok b ob e).stay (fun c w' hc q=>?_) (fun _ q=>q) fun _ _ q=>q
  rw[hs.2 c (fun z=>by
   subst z
   rcases hc with z | z
   ·rw[<- z,hL] at e;cases e
   ·rw[hL] at z;cases z)]
  exact q
end
def IsExc (h:Heap) (C:Addr) (v:Value):Prop:=∃ nm q N bs bm hdct sn sub ab col dd k0 k1 k2 k3 k5 newId,h.get? C=some (excClassObj nm q C N bs bm hdct sn sub ab col dd k0 k1 k2 k3 k5 newId)/\(Value.ref C::bm).contains v=true
end L2
namespace L2
open PySem PySem.Spec PySem.Calls PyProof.Rows PySem.W
inductive IsNms (env:Env) (mg:Str->Option Value):List Expr->List Addr->Prop
 | nil:IsNms env mg [] []
 | cons {x:Str}{p:Pos}{es:List Expr}{a:Addr}{as:List Addr}(hg:env.kindOf x=some .globalImplicit) (hm:mg x=some (.ref a)) (hd:(x == ("__debug__" : Str))=false) (h:IsNms env mg es as):IsNms env mg (.Name x p::es) (a::as)
noncomputable def suiteA (n y:Str) (es:List Expr) (p1 p2 p3 p4 p5 p6 p7 p8 p9 pa pb pc pd pe pf pg ph:Pos) (k1 k2:Nat):List Stmt :=
 [.If (.Call (.Name "isinstance" p1) [.Name n p2,.Tuple es k1 p3] [] p4) [.Return (some (.Constant (.bool false) k2 p5)) p6] [] p7,
  .Return (some (.BoolOp .And [.Call (.Name "isinstance" p8) [.Name n p9,.Name y pa] [] pb,.Call (.Name "isinstance" pc) [.Name n pd,.Name "ValueError" pe] [] pf] pg)) ph]
structure ClsOk (X:Cx) (C G:Addr) (ts:List Addr) (Y:Addr) (r:Bool):Prop where
 ex:IsExc X.base C (.ref G)
 kk:ExcK X.K C
 va:kitOne X.K (.ref C) (.type "ValueError")=some true
 re:∃ b1 b2,kitAny X.K (.ref C) (ts.map Value.ref)=some b1/\kitOne X.K (.ref C) (.ref Y)=some b2/\r=(!b1 && b2)
end L2
namespace L2
open PySem PySem.Spec PySem.Calls PyProof.Rows PySem.W
theorem Inv.gone {X:Cx}{pins:List (Addr × Obj)}{σ:St}{H:Hp}{s:Shared}{h':Heap}{m:Str->Option Value}{v:Option Value}{t' i:Nat}{n:Str}(I:Inv X pins σ H s) (hN:X.N.Nodup) (hi:X.N[i]?=some n)
  (hl:∀ (i:Nat) (x:Str) (v:V),X.N[i]?=some x->σ[i]?=some (some v)->Vis X.env.scope x->∃ u,RelV v u/\Look X.env s.heap m x u) (hn:h'.Ns X.env.locals (fun x=>if x=n then v else m x)) (hs:Heap.SameBut X.env.locals s.heap h'):Inv X pins (σ.set i none) H { s with heap:=h',toks:=t' }:=by
 have lo:∀ {b:Addr}{o:Obj},X.s₀.heap.get? b=some o->b ≠ X.env.locals:=fun {b o} e z=>by
  subst z
  exact absurd (Nat.lt_of_lt_of_le (Heap.lt_size e) I.ok.above) (Nat.lt_irrefl _)
 refine ⟨I.ok,I.os,I.bare,⟨fun b o e n hb hx=>?_,fun b o e n hb hx=>?_,I.base.free,fun b o e hx=>?_,I.base.tups,I.base.frzs,I.base.tbls⟩,⟨_,hn,fun j y w e1 e2 e3=>?_⟩,fun y c e=>?_,I.free,I.freeC,fun p hp=>?_,fun b ob e=>?_,by rw[List.length_set];exact I.len⟩
 ·rw[hs.2 b (lo e)];exact I.base.keep b o e n hb hx
 ·obtain ⟨sl,e1⟩:=I.base.slot b o e n hb hx
  exact ⟨sl,by rw[hs.2 b (lo e)];exact e1⟩
 ·obtain ⟨o',e1⟩:=I.base.there b o e hx
  exact ⟨o',by rw[hs.2 b (lo e)];exact e1⟩
 ·have hj:j ≠ i:=by
   rintro rfl
   rw[List.getElem?_set] at e2
   split at e2
   ·split at e2 <;> cases e2
   ·rename_i z;exact z rfl
  rw[List.getElem?_set_ne (Ne.symm hj)] at e2
  obtain ⟨u,r,q⟩:=hl j y w e1 e2 e3
  refine ⟨u,r,?_⟩
  rcases q with ⟨k,e⟩ | ⟨k,c,e,z⟩
  ·refine .inl ⟨k,?_⟩
   have:y ≠ n:=fun e=>hj (nodup_ix hN e1 (e ▸ hi))
   show (if y=n then v else m y)=some u
   rw[if_neg this];exact e
  ·exact .inr ⟨k,c,e,z.sameBut hs (I.cne y c e)⟩
 ·obtain ⟨w',z⟩:=I.cell y c e
  exact ⟨w',z.sameBut hs (I.cne y c e)⟩
 ·obtain ⟨e,n,ne,nf,d⟩:=I.pin p hp
  exact ⟨by rw[hs.2 p.1 ne];exact e,n,ne,nf,d⟩
 ·have hL:=I.free
  refine (I.hok b ob e).stay (fun c w' hc q=>?_) (fun _ q=>q) fun _ _ q=>q
  rw[hs.2 c (fun z=>by
   subst z
   rcases hc with z | z
   ·rw[<- z,hL] at e;cases e
   ·rw[hL] at z;cases z)]
  exact q
structure ClsOk2 (X:Cx) (C G Y Z:Addr) (r:Bool):Prop where
 ex:IsExc X.base C (.ref G)
 kk:ExcK X.K C
 re:∃ b1 b2,kitOne X.K (.ref C) (.ref Y)=some b1/\kitOne X.K (.ref C) (.ref Z)=some b2/\r=(b1 && !b2)
end L2
namespace L2
open PySem PySem.Spec PySem.Calls PyProof.Rows PySem.W
noncomputable def exO (oe:Obj):HO:=.frz oe (.ext fun _=>True)
theorem Inv.track {X:Cx}{pins:List (Addr × Obj)}{σ:St}{H:Hp}{s:Shared}{e:Addr}{oe:Obj}(I:Inv X pins σ H s) (he:s.heap.get? e=some oe) (hn:H e=none) (h0:X.s₀.heap.get? e=none) (hl:e ≠ X.env.locals)
  (hc:∀ x c,X.env.cells.lookup x=some c->c ≠ e) (hp:∀ p ∈ X.pn++pins,p.1 ≠ e):Inv X pins σ (upd H e (exO oe)) s:=by
 have up:∀ {b:Addr}{o:HO},H b=some o->upd H e (exO oe) b=some o:=fun {b o} z=>by
  rw[upd_ne (ne_of_none z hn)];exact z
 refine ⟨I.ok,I.os,I.bare,⟨I.base.keep,I.base.slot,fun b o e1 e2 e3=>?_,I.base.there,fun b xs z=>up (I.base.tups b xs z),fun b o u z=>up (I.base.frzs b o u z),fun b ps z=>?_⟩,I.loc,I.cell,?_,fun x c z=>?_,fun p z=>?_,fun a o z=>?_,I.len⟩
 ·rw[upd_ne (fun z=>by rw[z,h0] at e1;cases e1)]
  exact I.base.free b o e1 e2 e3
 ·obtain ⟨more,q⟩:=I.base.tbls b ps z
  exact ⟨more,up q⟩
 ·rw[upd_ne (Ne.symm hl)];exact I.free
 ·rw[upd_ne (hc x c z)];exact I.freeC x c z
 ·obtain ⟨a1,a2,a3⟩:=I.pin p z
  exact ⟨a1,by rw[upd_ne (hp p z)];exact a2,a3⟩
 ·by_cases q:a=e
  ·subst q
   rw[upd_same] at z
   cases z
   exact ⟨he,trivial,⟨oe,he⟩,fun _ _ _ _=>trivial⟩
  ·rw[upd_ne q] at z
   exact (I.hok a o z).stay (fun _ _ _ q=>q) (fun _ q=>up q) fun _ _ q=>up q
noncomputable abbrev Cx.heldT (X:Cx) (e:Addr) (E:Value->Shared->Prop):Cx:={ X with A:=X.A.mark (some (.ref e)),calm:=false,xe:=E }
section
variable {X : Cx} {pins : List (Addr × Obj)} {σ : St} {H : Hp} {s : Shared} {e : Addr} {E : Value -> Shared -> Prop}
theorem Inv.heldT (I:Inv X pins σ H s):Inv (X.heldT e E) pins σ H s :=
 ⟨⟨I.ok.mod,I.ok.kind,I.ok.glob,I.ok.blt,I.ok.above,I.ok.inj,I.ok.has,I.ok.cab,(fun z=>by cases z),I.ok.frames,I.ok.stk,I.ok.exf,I.ok.bs,I.ok.bsz,I.ok.noex,I.ok.exfs,I.ok.funs,I.ok.frf⟩,I.os,I.bare,I.base,I.loc,I.cell,I.free,I.freeC,I.pin,I.hok,I.len⟩
theorem Inv.unheldT (ok:X.Ok) (I:Inv (X.heldT e E) pins σ H s):Inv X pins σ H s :=
 ⟨ok,I.os,I.bare,I.base,I.loc,I.cell,I.free,I.freeC,I.pin,I.hok,I.len⟩
end
theorem call_isF {X:Cx}{x C:Addr}{ox:Obj}(Z:ExcK X.K C) (hc:ox.cls=.ref C):CallR X (.builtin "isinstance") (fun vs H Q=>H x=some (exO ox)/\rIsX X.K x C vs H Q):=by
 intro pins s σ H xs us Q I r ⟨hH,h⟩
 have hx:s.heap.get? x=some ox:=(I.hok x _ hH).1
 rcases h with ⟨c,u,b,rfl,ru,uq,k,q⟩ | ⟨tp,ts,b,rfl,ht,k,q⟩
 ·obtain ⟨a,a',rfl,ra,ra'⟩:=two_of r
  obtain rfl:a=.ref x:=ra
  obtain rfl:=uq a' ra'
  exact kia_one (kitx_exc Z hc) I.kIn hx k (fun z=>nomatch z) fun tk=>⟨.bl b,H,I.tok tk,rfl,q⟩
 ·obtain ⟨a,a',rfl,ra,ra'⟩:=two_of r
  obtain rfl:a=.ref x:=ra
  obtain rfl:a'=.ref tp:=ra'
  obtain ⟨z,its,rv,⟨oc,od,dat,sl⟩,ho,h1,n,hd⟩:=I.hok tp _ ht
  obtain rfl:oc=.type "tuple" := h1
  obtain rfl:dat=.seq its.toArray n:=hd
  exact kia_tup (kitx_exc Z hc) I.kIn hx ho (k its rv) (fun z=>nomatch z) fun tk=>⟨.bl b,H,I.tok tk,rfl,q⟩
structure KOk (K:PySem.W.Frag) (C:Addr) (ts:List Addr) (Y:Addr) (r:Bool):Prop where
 kk:ExcK K C
 va:kitOne K (.ref C) (.type "ValueError")=some true
 re:∃ b1 b2,kitAny K (.ref C) (ts.map Value.ref)=some b1/\kitOne K (.ref C) (.ref Y)=some b2/\r=(!b1 && b2)
structure RoomU (A:Around):Prop where
 dp:A.depth+8 < recursionLimit
 un:A.units+216 < cLine
theorem RoomU.of {k:Nat}{A:Around}(r:Room (k+1) A) (v:Option Value):RoomU (A.mark v):=⟨by have:=r.dp;show A.depth+8 < _;lia,by have:=r.un;show A.units+216 < _;lia⟩
structure FnU (P:Program) (w:World) (K:PySem.W.Frag) (mg:Str->Option Value) (base:Heap) (f:Addr) (fd:FuncData) (ps:List Str) (sp:Sp):Prop where
 len:∀ vs H Q E,sp vs H Q E->vs.length=ps.length
 run:∀ (A:Around) (outer:List Env) (s:Shared) (H:Hp) (args:Args) (us:List Value) (vs:List V) (Q:VK) (E:XK),RoomU A->Env0 P w K mg base A outer s H->BindsTo s fd args (ps.zip us)->Vals vs us->sp vs H Q E ->
  codeAny (model P w) A (.call (.ref f) args) (CR CX0 outer P w H s Q E) s
noncomputable abbrev Cx.loud (X:Cx):Cx:={ X with calm:=false }
end L2
namespace L2
open PySem PySem.Spec PySem.Calls PyProof.Rows PySem.W
end L2
namespace L2
open PySem PySem.Spec PySem.Calls PyProof.Rows
theorem pe_fstr {X:Cx}{msg v:Str}{i k:Nat}{b:Int}{p1 p3 p4 p5:Pos}(hi:X.N[i]?=some v) (hv:Vis X.env.scope v) (hd:(v == ("__debug__" : Str))=false) (hcd:(v == ("__classdict__" : Str))=false) (hb:b.natAbs.log2 < 1920) (hz1:(Str.empty++msg).length<=sizeLine) (hz2:(Str.empty++msg++(toString b:Str)).length<=sizeLine) :
  PE X (.JoinedStr [.Constant (.str msg) k p1,.FormattedValue (.Name v p3) (-1) none p4] p5) (fun σ H Q=>σ[i]?=some (some (.int b))/\∀ z,Q (.str z) H):=by
 intro pins s σ H Q I ⟨hσ,h⟩
 refine JoinedStr_many (joinParts_cons ?_)
 refine thn (pe_str (X:=X) (x:=msg) (j:=k) (pos:=p1) pins s σ H (fun w H'=>w=.str msg/\H'=H) I ⟨rfl,rfl⟩) fun u s1 ⟨x,H1,I1,r1,q1⟩=>?_
 obtain ⟨rfl,rfl⟩:=q1
 obtain ⟨t,rfl⟩:=r1
 refine ⟨hz1,joinParts_cons (FormattedValue_plain ?_)⟩
 refine thn (pe_var (X:=X) hi hv hd hcd pins s1 σ H1 (fun w H'=>w=.int b/\H'=H1) I1 ⟨.int b,hσ,rfl,rfl⟩) fun u s2 ⟨x,H2,I2,r2,q2⟩=>?_
 obtain ⟨rfl,rfl⟩:=q2
 obtain ⟨t2,rfl⟩:=r2
 refine wpAny_formatField_int hb ?_
 refine ⟨hz2,joinParts_nil ?_ hz2⟩
 exact ⟨.str _,H2,(I2.tok _).tok _,⟨_,rfl⟩,h _⟩
end L2
namespace L2
open PySem PySem.Spec PySem.Calls PyProof.Rows PySem.W Builtin Builtin.ObjectAttr
section
variable {prog : Program} {w : World} {A : Around} {E : Value -> Shared -> Prop} {K : PySem.W.Frag} {x C : Addr} {ox : Obj} {s : Shared} {name : Str} {v : Value}
theorem store_exc {cd:ClassData}{Q:Unit->Shared->Prop}(X:K.In s.heap) (hx:s.heap.get? x=some ox) (hc:ox.cls=.ref C) (hnc:notCls ox=true) (hdn:ox.dict=none) (hcd:clsIn K C=some cd) (hdd:cd.hasDict=true) (hpass:∀ self,refuseLoop self "__setattr__" cd.mro=pure ())
  (hs:findIn K (.ref C) "__setattr__" = some (some (.builtin "object.__setattr__"))) (hm:mroIn K C (.type "object")=some true) (hn:findIn K (.ref C) name=some none)
  (h:∀ h' tk' D,s.heap.get? D=none->h'.get? x=some { ox with dict:=some D }->h'.Ns1 D (fun y=>if y=name then some v else none)->(∀ b o,b ≠ x->s.heap.get? b=some o->h'.get? b=some o)->Q () { s with heap:=h',toks:=tk' }) :
  wpAny (model prog w) A (setAttr (.ref x) name v) Q E s:=by
 obtain ⟨h₀,g,d,t,os⟩:=s
 dsimp only at hx X h ⊢
 have SF:=PySem.F.store_object
 have I:InstAt h₀ x ox C none:=⟨hx,hc,hnc,by rw[hdn];trivial⟩
 refine set_plain X I hs ?_
 have L0:=I.type (M:=model prog w)
 have sub:Looks (model prog w) h₀ (isInstance (.ref x) (.type "object")) true:=L0.andThen (looks_mroIn X hm)
 refine codeAny_call_builtin SF.slot.plain SF.entry (@check_slot (model prog w) _ _ ⟨h₀,g,d,t+1,os⟩ "object.__setattr__" "object" "__setattr__" (.ref x) [.str name t,v] [] _ SF.kind SF.split sub (SF.args (.ref x) (.str name t) v) ?_)
 have L1:Looks (model prog w) h₀ (mroOf (.ref C)) cd.mro:=(looks_clsIn X hcd).andThen .now
 have L2:=looks_findIn (M:=model prog w) X hn
 have L3:=looks_clsIn (M:=model prog w) X hcd
 rw[osa_eq,refuse_eq]
 refine wpAny_bind (wpAny_bind (L0.at (wpAny_bind (L1.at ?_))))
 rw[hpass]
 refine wpAny_pure (wpAny_bind (L0.at (wpAny_bind (L2.at (wpAny_bind (wpAny_pure (a:=(none:Option Value)) ?_))))))
 obtain ⟨oc,od,odt,osl⟩:=ox
 dsimp only at hc hdn
 subst hc hdn
 have hxs:x ≠ h₀.objs.size:=Nat.ne_of_lt (Heap.lt_size hx)
 have hx₁:(h₀.push { cls:=.type "dict",data:=.dict #[] }).get? x=some ⟨.ref C,none,odt,osl⟩:=Heap.get?_push_of_some _ hx
 refine wpAny_bind (wpAny_pure (wpAny_bind (wpAny_bind (wpAny_loadPart hx (wpAny_bind (L3.at ?_))))))
 rw[hdd]
 have hcls:∀ c,odt ≠ .cls c:=fun c z=>by subst z;cases hnc
 have step:∀ {Q':Option Addr->Shared->Prop},Q' (some h₀.objs.size) ⟨(h₀.push { cls:=.type "dict",data:=.dict #[] }).update x fun o=>{ o with dict:=some h₀.objs.size },g,d,t+1,os⟩ ->
   wpAny (model prog w) A.in1 (do
    let d <- alloc { cls:=.type "dict",data:=.dict #[] }
    update x fun o=>{ o with dict:=some d }
    dictMade (.ref C) x d) Q' (fun e s'=>E e s') ⟨h₀,g,d,t+1,os⟩:=fun {Q'} hq =>
  wpAny_bind (wpAny_alloc' (wpAny_bind (wpAny_update' hx₁ (wpAny_pure hq))))
 have hgx:((h₀.push { cls:=.type "dict",data:=.dict #[] }).update x fun o=>{ o with dict:=some h₀.objs.size }).get? x=some ⟨.ref C,some h₀.objs.size,odt,osl⟩:=by
  refine Heap.get?_update_self _ hx₁ ?_
  have hfr:=(Heap.get?_some_iff.mp hx).2
  cases odt <;> first | rfl | exact hfr
 have hgd:((h₀.push { cls:=.type "dict",data:=.dict #[] }).update x fun o=>{ o with dict:=some h₀.objs.size }).get? h₀.objs.size=some { cls:=.type "dict",data:=.dict #[] } :=
  (Heap.get?_update_ne _ _ _ _ hxs.symm).trans (Heap.get?_push_at rfl rfl)
 have hnd:((h₀.push { cls:=.type "dict",data:=.dict #[] }).update x fun o=>{ o with dict:=some h₀.objs.size }).Ns h₀.objs.size (fun _=>none) :=
  ⟨_,#[],_,hgd,rfl,fun e he=>absurd he (by simp),fun _=>rfl⟩
 have fin:∀ {Q':Fin->Shared->Prop},(∀ h' tk' D,h₀.get? D=none->h'.get? x=some ⟨.ref C,some D,odt,osl⟩->h'.Ns1 D (fun y=>if y=name then some v else none)->(∀ b o,b ≠ x->h₀.get? b=some o->h'.get? b=some o)->Q' (.done (.ret .none)) ⟨h',g,d,tk',os⟩) ->
   wpAny (model prog w) A.in1 (storeInDict h₀.objs.size (.str name t) name v) Q' (fun e s'=>E e s') ⟨(h₀.push { cls:=.type "dict",data:=.dict #[] }).update x fun o=>{ o with dict:=some h₀.objs.size },g,d,t+1,os⟩:=fun {Q'} hq=>by
  unfold storeInDict newKeyGuard
  refine wpAny_bind (wpAny_pure (wpAny_bind (wpAny_nsSet1 (Heap.Ns1.of_empty hnd) fun h' hn' hs=>?_)))
  obtain ⟨oD,esD,epD,hoD,hdD,hcD⟩:=hn'.count (Within.cons name v Within.nil)
  refine wpAny_bind (wpAny_lookBehind hoD (by rw[hdD];exact pastItsLine_dict (Nat.le_trans hcD (by rw[List.length_cons,List.length_nil,sizeLine_eq];lia))) ?_)
  refine wpAny_pure ?_
  refine hq h' _ h₀.objs.size (Heap.get?_none_of_le (Nat.le_refl _)) ((hs.2 x hxs).trans hgx) hn' fun b o hbx hb=>?_
  exact (hs.2 b (Nat.ne_of_lt (Heap.lt_size hb))).trans ((Heap.get?_update_ne _ _ _ _ hbx).trans (Heap.get?_push_of_some _ hb))
 rw[if_neg (by decide)]
 dsimp only
 rw[if_neg (by simp[typeHasDict])]
 split
 ·exact absurd rfl (hcls _)
 ·exact step (fin fun h' tk' D a1 a2 a3 a4=>h h' tk' D a1 a2 a3 a4)
end
end L2
namespace L2
open PySem PySem.Spec PySem.Calls PyProof.Rows PySem.W
section
variable {prog : Program} {w : World} {A : Around} {E : Value -> Shared -> Prop} {K : PySem.W.Frag} {h : Heap} {g : Array GenState} {d : Drawn} {t : Nat} {os : OsState}
variable {nm q : Str} {C N fI : Addr} {bs bm bmB : List Value} {hdct : Bool} {sn : List Str} {sub : List Value} {ab : Bool} {col : Option Bool} {dd : Option Addr} {k0 k1 k2 k3 k5 : Option Value} {B newId initId : String}
theorem make_exc (F:ExcBaseFacts B newId initId bmB) (T:OwnTail h bmB bm) {rest:List Value}{Q:Fin->Shared->Prop}(X:K.In h)
  (hC:h.get? C=some (excClassObj nm q C N bs bm hdct sn sub ab col dd k0 k1 k2 k3 k5 newId)) (hi:findIn K (.ref C) "__init__" = some (some (.ref fI))) (hf:typeIn K (.ref fI)=some (.type "function"))
  (hq:∀ h' e,Heap.MadeExcOf h h' e (.ref C) rest->h.objs.size<=h'.objs.size->wpAny (model prog w) A (call (.ref fI) (.ref e::rest)) (fun r s'=>r=.none/\Q (.done (.ret (.ref e))) s') E ⟨h',g,d,t,os⟩) (hrest:rest.length<=sizeLine) :
  wpAny (model prog w) A (Builtin.«type.__call__» ⟨.ref C::rest,[]⟩) Q E ⟨h,g,d,t,os⟩:=by
 repeat (first | with_reducible refine wpAny_loadPart_at hC ?_ | with_reducible refine wpAny_madeBy_exc hC ?_ | wp_step)
 refine codeAny_call_builtin_code (Code.quiet_builtin _ F.quiet) (wpAny_check_new_subT F T hC ?_)
 refine codeAny_exc_new_subT F T hC ?_ hrest
 show wpAny _ _ _ _ _ _
 have kp:∀ b o,h.get? b=some o->((h.push { cls:=.type "tuple",data:=.seq rest.toArray }).push { cls:=.ref C,data:=.fields #[.ref h.objs.size,.none,.none,.none,.bool false,.none] }).get? b=some o:=fun b o e=>Heap.get?_push_of_some _ (Heap.get?_push_of_some _ e)
 have X₁:=X.keeps kp
 have hC₁:=kp _ _ hC
 have hget:((h.push { cls:=.type "tuple",data:=.seq rest.toArray }).push { cls:=.ref C,data:=.fields #[.ref h.objs.size,.none,.none,.none,.bool false,.none] }).get? (h.objs.size+1)=some { cls:=.ref C,data:=.fields #[.ref h.objs.size,.none,.none,.none,.bool false,.none] }:=by heap_get
 have hcC:(Value.ref C::bm).contains (.ref C)=true:=by simp
 have mk:Heap.MadeExcOf h _ (h.objs.size+1) (.ref C) rest:=⟨kp,Heap.get?_none_of_le (Nat.le_succ _),h.objs.size,hget,Heap.get?_none_of_le (Nat.le_refl _),Heap.get?_push_of_some _ (Heap.get?_push_at rfl rfl)⟩
 unfold isInstance
 repeat (first | with_reducible refine wpAny_loadPart_at hget ?_ | (with_reducible refine wpAny_isSubtype_exc hC₁ ?_;rw[hcC]) | wp_step)
 show wpAny _ _ (typeLookup (.ref C) _) _ _ _
 refine (looks_findIn X₁ hi).at (wpAny_holding (wpAny_bind ((bind_fn X₁ _ hf).at ?_)))
 refine wpAny_bind (wpAny_mono (hq _ _ mk (by rw[Heap.size_push,Heap.size_push];lia)) (fun r s' hr=>?_) fun _ _ x=>x)
 obtain ⟨rfl,hQ⟩:=hr
 wp_walk
 exact hQ
end
end L2
namespace L2
open PySem PySem.Spec PySem.Calls PyProof.Rows PySem.W
section
variable {prog : Program} {w : World} {A : Around} {E : Value -> Shared -> Prop} {K : PySem.W.Frag} {h : Heap} {g : Array GenState} {d : Drawn} {t : Nat} {os : OsState}
variable {nm q : Str} {C N fI : Addr} {bs bm bmB : List Value} {hdct : Bool} {sn : List Str} {sub : List Value} {ab : Bool} {col : Option Bool} {dd : Option Addr} {k0 k1 k2 k3 k5 : Option Value} {B newId initId : String}
theorem call_exc (F:ExcBaseFacts B newId initId bmB) (T:OwnTail h bmB bm) {rest:List Value}{Q:Value->Shared->Prop}(X:K.In h)
  (hC:h.get? C=some (excClassObj nm q C N bs bm hdct sn sub ab col dd k0 k1 k2 k3 k5 newId)) (hi:findIn K (.ref C) "__init__" = some (some (.ref fI))) (hf:typeIn K (.ref fI)=some (.type "function"))
  (hq:∀ h' e,Heap.MadeExcOf h h' e (.ref C) rest->h.objs.size<=h'.objs.size->wpAny (model prog w) (A.under (.builtin "type.__call__" ⟨.ref C::rest,[]⟩)) (call (.ref fI) (.ref e::rest)) (fun r s'=>r=.none/\Q (.ref e) s') E ⟨h',g,d,t,os⟩) (hrest:rest.length<=sizeLine) :
  wpAny (model prog w) A (call (.ref C) rest) Q E ⟨h,g,d,t,os⟩:=by
 have f1:=tc_lookup
 have f2:=tc_bind (.ref C)
 have hT:(⟨h,g,d,t,os⟩:Shared).TypeIs (.ref C) "type" := ⟨_,hC,rfl⟩
 refine wpAny_call (codeAny_of_tree ?_)
 show wpAny _ _ (callAny (.ref C) _) _ _ _
 repeat (any_goals (first | assumption | with_reducible refine wpAny_loadPart_at hC ?_ | wp_step))
 exact ⟨rfl,codeAny_call_builtin_at (Code.quiet_builtin _ (by decide +kernel)) entry_typeCall (wpAny_check_type_call_sub hC (make_exc F T X hC hi hf hq hrest))⟩
theorem throw_exc {M:Model}{s:Shared}{env:Env}{x:Sem Value}{Q:Flow->Shared->Prop}(hbase:bm.contains (.type "BaseException")=true) (hh:A.handled=none)
  (h:wpAny M A x (fun v s₁=>∃ e oe t,v=.ref e/\s₁.heap.get? C=some (excClassObj nm q C N bs bm hdct sn sub ab col dd k0 k1 k2 k3 k5 newId) /\
   s₁.heap.get? e=some oe/\oe.cls=.ref C/\oe.data=.fields #[.ref t,.none,.none,.none,.bool false,.none]/\E (.ref e) s₁) E s) :
  wpAny M A (raiseStmt env (some x) none) Q E s:=by
 have hcB:(Value.ref C::bm).contains (.type "BaseException")=true:=by rw[List.contains_cons,hbase,Bool.or_true]
 unfold raiseStmt
 refine wpAny_bind (wpAny_mono h (fun v s₁ h₁=>?_) fun _ _ x=>x)
 obtain ⟨e,oe,t,rfl,hC,he,hc,hd,hE⟩:=h₁
 obtain ⟨oc,od,odt,osl⟩:=oe
 dsimp only at hc hd
 subst hc hd
 obtain ⟨hp,g,d,tk,os⟩:=s₁
 repeat (first | with_reducible refine wpAny_loadPart_at he ?_ | with_reducible refine wpAny_loadPart_at hC ?_ | (with_reducible refine wpAny_isSubtype_exc hC ?_;rw[hcB]) | wp_step)
 exact wpAny_raiseNew_none hh hE
theorem raise_exc {s:Shared}{env:Env}(F:ExcBaseFacts B newId initId bmB) {x:Str}{np cpos pos:Pos}{args:List Expr}{Q:Flow->Shared->Prop}
  (hbase:bm.contains (.type "BaseException")=true) (hh:A.handled=none) (hplain:(backTo cpos (starEach args env)).any (·.1)=false)
  (hi:findIn K (.ref C) "__init__" = some (some (.ref fI))) (hf:typeIn K (.ref fI)=some (.type "function"))
  (h:wpAny (model prog w) A (eval (.Name x np) env) (fun f s₁=>f=.ref C/\wpAny (model prog w) A (evalArgs (.ref C) true (backTo cpos (starEach args env)) [])
   (fun a s₂=>a.kw=[]/\a.pos.length<=sizeLine/\s₂.heap.get? C=some (excClassObj nm q C N bs bm hdct sn sub ab col dd k0 k1 k2 k3 k5 newId)/\K.In s₂.heap/\OwnTail s₂.heap bmB bm /\
    ∀ h' e,Heap.MadeExcOf s₂.heap h' e (.ref C) a.pos->s₂.heap.objs.size<=h'.objs.size->wpAny (model prog w) (A.under (.builtin "type.__call__" ⟨.ref C::a.pos,[]⟩)) (call (.ref fI) (.ref e::a.pos))
     (fun r s'=>r=.none/\∃ oe t,s'.heap.get? C=some (excClassObj nm q C N bs bm hdct sn sub ab col dd k0 k1 k2 k3 k5 newId)/\s'.heap.get? e=some oe/\oe.cls=.ref C/\oe.data=.fields #[.ref t,.none,.none,.none,.bool false,.none]/\E (.ref e) s') E { s₂ with heap:=h' }) E s₁) E s) :
  wpAny (model prog w) A (exec (.Raise (some (.Call (.Name x np) args [] cpos)) none pos) env) Q E s:=by
 rw[arm_exec_Raise]
 simp only[evalOpt,Option.map]
 refine wpAny_bind (wpAny_standAt (throw_exc (C:=C) (nm:=nm) (q:=q) (N:=N) (bs:=bs) (bm:=bm) (hdct:=hdct) (sn:=sn) (sub:=sub) (ab:=ab) (col:=col) (dd:=dd) (k0:=k0) (k1:=k1) (k2:=k2) (k3:=k3) (k5:=k5) (newId:=newId) hbase hh ?_))
 refine wpAny_bind (wpAny_mono (wpAny_Call_ofName (wpAny_mono h (fun f s₁ h₁=>?_) fun _ _ x=>x)) (fun v s₃ h₃=>wpAny_bind (wpAny_standAt (wpAny_pure h₃))) fun _ _ x=>x)
 obtain ⟨rfl,h₁⟩:=h₁
 unfold callWith
 refine wpAny_bind (wpAny_holding (wpAny_mono h₁ (fun a s₂ h₂=>wpAny_bind (wpAny_standAt ?_)) fun _ _ x=>x))
 obtain ⟨apos,akw⟩:=a
 obtain ⟨hkw,hlen,hC,hX,T,h₂⟩:=h₂
 obtain rfl:akw=[]:=hkw
 obtain ⟨hp,g,d,tk,os⟩:=s₂
 simp only[hplain]
 refine wpAny_bind (wpAny_keeperOf_exc hC ?_)
 refine wpAny_bind (call_exc (hrest:=hlen) F T hX hC hi hf fun h' e hm hz=>wpAny_mono (h₂ h' e hm hz) (fun r s' hr=>⟨hr.1,wpAny_bind (wpAny_holding (wpAny_point (wpAny_pure ?_)))⟩) fun _ _ y=>y)
 obtain ⟨_,oe,t,e1,e2,e3,e4,e5⟩:=hr
 exact ⟨e,oe,t,rfl,e1,e2,e3,e4,e5⟩
end
end L2
namespace L2
open PySem PySem.Spec PySem.Calls PyProof.Rows PySem.W Builtin Builtin.ObjectAttr
structure OwnN (K:PySem.W.Frag) (C fI:Addr) (n:Str):Prop where
 cd:∃ cd,clsIn K C=some cd/\cd.hasDict=true/\∀ self,refuseLoop self "__setattr__" cd.mro=pure ()
 sa:findIn K (.ref C) "__setattr__" = some (some (.builtin "object.__setattr__"))
 ob:mroIn K C (.type "object")=some true
 no:findIn K (.ref C) n=some none
 ini:findIn K (.ref C) "__init__" = some (some (.ref fI))
 fn:typeIn K (.ref fI)=some (.type "function")
section
variable {P : Program} {w : World} {K : PySem.W.Frag} {mg : Str -> Option Value} {base : Heap} {A : Around} {outer : List Env} {s : Shared} {H : Hp}
variable {fI : Addr} {qual a0 a1 : Str} {params : Arguments} {scope : Scope} {dV kV doc pm cdv ct oc : Value} {an od : Option Addr} {osl : Array (Option Value)} {p1 p2 p3 p4 : Pos}
theorem init_run {C e:Addr}{oe:Obj}{v:V}{u:Value}{E:Value->Shared->Prop}{R:Value->Shared->Prop}
  (lk:K.lookup fI=some ⟨oc,od,.func (PySem.W.fnOf "__init__" qual params [.Assign [.Attribute (.Name a0 p1) a1 p2] (.Name a1 p3) p4] scope dV kV doc pm an cdv ct),osl⟩) (hcd:PySem.W.codeIn K cdv qual=true) (S:FnScope [a0,a1] [a0,a1] scope)
  (hb:Binds K (PySem.W.fnOf "__init__" qual params [.Assign [.Attribute (.Name a0 p1) a1 p2] (.Name a1 p3) p4] scope dV kV doc pm an cdv ct) [a0,a1] []) (l0:scope.names.lookup a0=some .local) (l1:scope.names.lookup a1=some .local)
  (d0:(a0 == ("__debug__" : Str))=false) (d0':(a0 == ("__classdict__" : Str))=false) (d1:(a1 == ("__debug__" : Str))=false) (d1':(a1 == ("__classdict__" : Str))=false)
  (hs:∀ env,swapsWith (.Name a1 p3) (some (.Attribute (.Name a0 p1) a1 p2)) p4.line env=pure false)
  (O:OwnN K C fI a1) (hr:A.depth < recursionLimit) (hh:A.handled=none) (e0:Env0 P w K mg base A outer s H) (he:s.heap.get? e=some oe) (hHe:H e=none) (hef:e ∉ frs outer) (hc:oe.cls=.ref C) (hnc:notCls oe=true) (hdn:oe.dict=none) (rv:RelV v u)
  (hq:∀ s' D u',s'.os=s.os->AllBare s'.gens->s.heap.get? D=none->s'.heap.get? e=some { oe with dict:=some D }->s'.heap.Ns1 D (fun y=>if y=a1 then some u' else none)->RelV v u'->HOk P w H s'.heap ->
   (∀ b o,b ≠ e->s.heap.get? b=some o->H b=none->b ∉ frs outer->s'.heap.get? b=some o)->(∀ b o,b ≠ e->s.heap.get? b=some o->H b=none->b ∈ frs outer->∃ sl,s'.heap.get? b=some { o with slots:=sl }) ->
   (∀ b o,s.heap.get? b=some o->∃ o',s'.heap.get? b=some o')->R .none s') :
  wpAny (model P w) A (call (.ref fI) [.ref e,u]) R E s:=by
 have KX:K.In s.heap:=e0.mod.kin.keeps fun b o e=>(e0.bs b o e).1
 have lim:s.heap.NoLimit:=e0.mod.nolimit.keeps fun b o e=>(e0.bs b o e).1
 have hkind:∀ y ∈ [a0,a1].zip [Value.ref e,u],scope.names.lookup y.1=some .local\/(scope.names.lookup y.1=some .cell/\((cellsFrom (s.heap.objs.size+1) scope.names []).lookup y.1).isSome=true):=fun ⟨n,v⟩ hy=>by
  rcases S.par n (List.of_mem_zip hy).1 with q | q
  ·exact .inl q
  ·exact .inr ⟨q,PySem.W.cellsFrom_some _ _ _ (.inl q)⟩
 have hbb:BindsTo s (PySem.W.fnOf "__init__" qual params [.Assign [.Attribute (.Name a0 p1) a1 p2] (.Name a1 p3) p4] scope dV kV doc pm an cdv ct) ⟨[.ref e,u],[]⟩ ([a0,a1].zip [Value.ref e,u]):=by
  have z:=hb s [.ref e,u] KX rfl
  rw[List.append_nil] at z
  exact z
 refine wpAny_call (codeAny_call_function hr (KX _ _ lk) rfl S.co S.gen rfl (PySem.W.codeRec_of KX hcd) (hbb _ _ _ _ ?_))
 refine wpAny_newFunctionEnv_cells S.kind hkind fun env hen s1 x=>?_
 subst hen
 refine ⟨lim.keeps x.toInCall.keep,codeAny_func ?_⟩
 have I:Inv (cxOf CX0 P w K mg base [a0,a1] qual scope fI cdv A outer s H (fun _ _ _=>False)) [] (start [a0,a1] [.ref e,v]) H s1:=inv_start S hh e0 rfl (.cons rfl (.cons rv .nil)) x
 have pv:∀ E',PE ((cxOf CX0 P w K mg base [a0,a1] qual scope fI cdv A outer s H (fun _ _ _=>False)).wish E') (.Name a1 p3) (tVar 1):=fun E'=>pe_var rfl (.inl l1) d1 d1'
 have ps:∀ E',PE ((cxOf CX0 P w K mg base [a0,a1] qual scope fI cdv A outer s H (fun _ _ _=>False)).wish E') (.Name a0 p1) (tVar 0):=fun E'=>pe_var rfl (.inl l0) d0 d0'
 refine wpAny_execs_cons (plainObj_wpAny_Assign_Attribute (thn (pv _ [] s1 _ H (fun y H1=>y=v/\H1=H) (I.wish _) ⟨v,rfl,rfl,rfl⟩) fun u1 s2 h2=>?_) (hs _))
 obtain ⟨y,H1,I1,ry,rfl,rfl⟩:=h2
 refine thn (ps _ [] s2 _ H1 (fun y H2=>y=.ref e/\H2=H1) I1 ⟨.ref e,rfl,rfl,rfl⟩) fun ov s3 h3=>?_
 obtain ⟨y',H2,I2,ry',rfl,rfl⟩:=h3
 obtain rfl:ov=.ref e:=ry'
 obtain ⟨cd,hcd,hdd,hpass⟩:=O.cd
 have noA:∀ b:Addr,b ∉ ([]:List Addr):=fun b z=>absurd z (by simp)
 have he3:s3.heap.get? e=some oe:=I2.base.keep e oe he hHe hef (noA _)
 refine store_exc I2.kIn he3 hc hnc hdn hcd hdd hpass O.sa O.ob O.no fun h' tk' D hD hx hns hk=>wpAny_execs_nil ?_
 have hsz:∀ {b:Addr},s3.heap.get? b=none->s.heap.get? b=none:=fun {b} z=>by
  cases q:s.heap.get? b with
  | none=>rfl
  | some o =>
   obtain ⟨o',z'⟩:=I2.base.there b o q (noA _)
   rw[z] at z';cases z'
 refine hq _ D u1 I2.os I2.bare (hsz hD) hx hns ry (fun a o z=>(I2.hok a o z).stay (fun b u' hb q=>hk b u' (fun eb=>?_) q) (fun _ q=>q) fun _ _ q=>q)
  (fun b o ne q n hb=>hk b o ne (I2.base.keep b o q n hb (noA _))) (fun b o ne q n hb=>?_) (fun b o q=>?_)
 ·subst eb
  rcases hb with rfl | hb
  ·rw[hHe] at z;cases z
  ·rw[hHe] at hb;cases hb
 ·obtain ⟨sl,q'⟩:=I2.base.slot b o q n hb (noA _)
  exact ⟨sl,hk b _ ne q'⟩
 ·by_cases eb:b=e
  ·subst eb;exact ⟨_,hx⟩
  ·obtain ⟨o',q'⟩:=I2.base.there b o q (noA _)
   exact ⟨o',hk b o' eb q'⟩
end
end L2
namespace L2
open PySem PySem.Spec PySem.Calls PyProof.Rows PySem.W
structure Fly (B:Heap) (l:List Env) (e:Addr) (o:Obj) (z fl:Value) (g:Heap):Prop where
 st:B.StaysIn g
 no:B.get? e=none
 fr:g.FunFrames B l
 ob:∃ xs T p ys,g.get? e=some { o with data:=.fields xs }/\xs[0]?=some z/\xs[1]?=some (.ref T)/\B.get? T=none/\T ≠ e/\g.get? T=some p/\p.data=.fields ys/\ys[3]?=some fl/\xs[2]?=some .none
section
variable {M : Model} {A : Around} {E : Value -> Shared -> Prop} {s : Shared} {B : Heap} {env : Env} {outer : List Env} {L e : Addr} {o : Obj} {z fl : Value}
theorem Fly.w {g:Heap}{l:List Env}(x:Fly B l e o z .none g):Heap.FlyingW B l e o.cls z g:=by
 obtain ⟨xs,T,p,ys,q1,q2,q3,q4,q5,q6,q7,q8,q9⟩:=x.ob
 exact ⟨x.st,x.no,x.fr,⟨_,xs,T,p,ys,q1,⟨rfl,q2⟩,rfl,q3,q4,q5,q6,q7,q8⟩⟩
theorem fly_lay {xs:Array Value}{hd:Value}{had:Bool}{Q:Unit->Shared->Prop}(fs:A.frames=some (env::outer)) (le:env.frame=some L) (fr:s.heap.FunFrames B (env::outer)) (st:B.StaysIn s.heap) (no:B.get? e=none)
  (oe:s.heap.get? e=some { o with data:=.fields xs }) (sz:1 < xs.size) (x0:xs[0]?=some z) (x2:xs[2]?=some .none) (k:∀ g,Fly B (env::outer) e o z (rawInt L) g->s.heap.UpToSlots g->Q () { s with heap:=g }) :
  wpAny M A (do let a <- frameOf env;let pl <- entryPlaceOf L had;let b <- EntryCells.newEntry hd a .none (rawInt L) .none pl;setField (.ref e) 1 b) Q E s:=by
 have ne:e ∉ (env::outer).filterMap (·.frame):=fun hm=>by
  obtain ⟨_,u,hu,nu⟩:=fr.mem hm
  cases oe.symm.trans hu
  exact nu xs rfl
 refine wpAny_bind (wpAny_frameOf_fun fs fr le fun g1 sl=>wpAny_bind (wpAny_entryPlaceOf fun pl ip=>?_))
 unfold EntryCells.newEntry newFields
 refine wpAny_bind (wpAny_newObj_type ?_ (ip.sizeOk5 _ _ _ _ _))
 generalize hT:({ cls:=.type "traceback",dict:=none,data:=.fields ([hd,.ref L,.none,rawInt L,.none]++(if pl.isEmpty then List.replicate 6 Value.none else pl)).toArray }:Obj)=tb
 have e1:g1.get? e=some { o with data:=.fields xs }:=(sl.2.1 e ne).trans oe
 have e2:=Heap.get?_push_of_some tb e1
 have Te:g1.objs.size ≠ e:=Nat.ne_of_gt (Heap.lt_size e1)
 have b1:B.StaysIn g1:=fun b u hb=>by
  rw[sl.2.1 b (fun hm=>by rw[(fr.mem hm).1] at hb;cases hb)]
  exact st b u hb
 refine wpAny_setField e2 rfl sz (k _ ?_ ?_)
 ·have e3:((g1.push tb).update e (Obj.mapFields (·.setIfInBounds 1 (Value.ref g1.objs.size)))).get? e=some { o with data:=.fields (xs.setIfInBounds 1 (.ref g1.objs.size)) }:=Heap.get?_update_self _ e2 rfl
  have t3:((g1.push tb).update e (Obj.mapFields (·.setIfInBounds 1 (Value.ref g1.objs.size)))).get? g1.objs.size=some tb:=(Heap.get?_update_other _ _ (Ne.symm Te)).trans (Heap.get?_push_size g1 (by subst hT;rfl))
  have kp:∀ b u,b ≠ e->g1.get? b=some u->((g1.push tb).update e (Obj.mapFields (·.setIfInBounds 1 (Value.ref g1.objs.size)))).get? b=some u:=fun b u nb hb=>(Heap.get?_update_other _ _ (Ne.symm nb)).trans (Heap.get?_push_of_some _ hb)
  refine ⟨fun b u hb=>kp b u (fun q=>by rw[q,no] at hb;cases hb) (b1 b u hb),no,fr.of_keeps fun b u hb nf=>?_,⟨_,g1.objs.size,tb,_,e3,?_,?_,b1.fresh,Te,t3,by subst hT;rfl,?_,by rw[Array.getElem?_setIfInBounds_ne (by decide)];exact x2⟩⟩
  ·obtain ⟨q,hq⟩:=sl.2.2 b u hb
   exact ⟨_,kp b _ (fun h=>by subst h;cases oe.symm.trans hb;exact nf xs rfl) hq,rfl⟩
  ·rw[Array.getElem?_setIfInBounds_ne (by decide)];exact x0
  ·simp[sz]
  ·first
    | (simp;done)
    | (rcases ip with rfl | ⟨_,_,_,_,_,_,_,rfl⟩ <;> simp)
 ·intro b u hb nf
  obtain ⟨q,hq⟩:=sl.2.2 b u hb
  exact ⟨q,(Heap.get?_update_other _ _ (fun h=>by subst h;cases oe.symm.trans hb;exact nf xs rfl)).trans (Heap.get?_push_of_some _ hq)⟩
theorem fly_land {l:List Env}{Q:Unit->Shared->Prop}(f:Fly B l e o z fl s.heap) (k:∀ g,Fly B l e o z .none g->s.heap.UpToSlots g->Q () { s with heap:=g }):wpAny M A (setFlight (.ref e) none) Q E s:=by
 obtain ⟨xs,T,p,ys,q1,q2,q3,q4,q5,q6,q7,q8,q9⟩:=f.ob
 have s3:3 < ys.size:=(Array.getElem?_eq_some_iff.mp q8).1
 unfold setFlight
 refine wpAny_bind (wpAny_field q1 rfl q3 ?_)
 rw[if_pos (show (Value.ref T != Value.none)=true by simp)]
 have ot:∀ {b:Addr},b ≠ T->(s.heap.update T (Obj.mapFields (·.setIfInBounds 3 Value.none))).get? b=s.heap.get? b:=fun {b} nb=>Heap.get?_update_other _ _ (Ne.symm nb)
 have nr:∀ {b:Addr}{u:Obj},s.heap.get? b=some u->(∀ vs,u.data ≠ .fields vs)->b ≠ T:=fun {b u} hb nf h=>by subst h;cases q6.symm.trans hb;exact nf ys q7
 refine wpAny_setField q6 q7 s3 (k _ ⟨fun b u hb=>(ot fun h=>by rw[h,q4] at hb;cases hb).trans (f.st b u hb),f.no,f.fr.of_keeps fun b u hb nf=>⟨u,(ot (nr hb nf)).trans hb,rfl⟩,⟨xs,T,_,_,(ot (Ne.symm q5)).trans q1,q2,q3,q4,q5,Heap.get?_update_self _ q6 (Obj.isFreed_of_fields (Obj.data_mapFields q7 _)),Obj.data_mapFields q7 _,by simp[s3],q9⟩⟩ fun b u hb nf=>⟨u.slots,(ot (nr hb nf)).trans hb⟩)
theorem fly_note {Q:Unit->Shared->Prop}(fs:A.frames=some (env::outer)) (le:env.frame=some L) (f:Fly B (env::outer) e o z .none s.heap) (k:∀ g,Fly B (env::outer) e o z (rawInt L) g->s.heap.UpToSlots g->Q () { s with heap:=g }):wpAny M A (noteFrame (.ref e) env) Q E s:=by
 obtain ⟨xs,T,p,ys,q1,q2,q3,q4,q5,q6,q7,q8,q9⟩:=f.ob
 have s3:3 < ys.size:=(Array.getElem?_eq_some_iff.mp q8).1
 unfold noteFrame
 simp only[le]
 refine wpAny_bind (wpAny_field q1 rfl q3 ?_)
 rw[if_pos (show (Value.ref T != Value.none)=true by simp)]
 refine wpAny_bind (wpAny_field q6 q7 q8 ?_)
 rw[if_neg (show ¬ (Value.none == rawInt L)=true by simp[rawInt])]
 have ot:∀ {b:Addr},b ≠ T->(s.heap.update T (Obj.mapFields (·.setIfInBounds 3 Value.none))).get? b=s.heap.get? b:=fun {b} nb=>Heap.get?_update_other _ _ (Ne.symm nb)
 have nr:∀ {b:Addr}{u:Obj},s.heap.get? b=some u->(∀ vs,u.data ≠ .fields vs)->b ≠ T:=fun {b u} hb nf h=>by subst h;cases q6.symm.trans hb;exact nf ys q7
 refine wpAny_bind (wpAny_setField q6 q7 s3 ?_)
 refine fly_lay (s:={ s with heap:=s.heap.update T (Obj.mapFields (·.setIfInBounds 3 Value.none)) }) fs le (f.fr.of_keeps fun b u hb nf=>⟨u,(ot (nr hb nf)).trans hb,rfl⟩) (fun b u hb=>(ot fun h=>by rw[h,q4] at hb;cases hb).trans (f.st b u hb)) f.no ((ot (Ne.symm q5)).trans q1) (Array.getElem?_eq_some_iff.mp q3).1 q2 q9 fun g fg up=>k g fg fun b u hb nf=>?_
 exact up b u ((ot (nr hb nf)).trans hb) nf
theorem fly_first {xs:Array Value}{Q:Unit->Shared->Prop}(fs:A.frames=some (env::outer)) (le:env.frame=some L) (fr:s.heap.FunFrames B (env::outer)) (st:B.StaysIn s.heap) (no:B.get? e=none)
  (oe:s.heap.get? e=some { o with data:=.fields xs }) (x1:xs[1]?=some .none) (x0:xs[0]?=some z) (x2:xs[2]?=some .none) (k:∀ g,Fly B outer e o z .none g->s.heap.UpToSlots g->Q () { s with heap:=g }):wpAny M A (leaving env (.ref e)) Q E s:=by
 unfold leaving noteFrame
 simp only[le]
 refine wpAny_bind (wpAny_bind (wpAny_field oe rfl x1 ?_))
 rw[if_neg (by decide)]
 refine fly_lay fs le fr st no oe (Array.getElem?_eq_some_iff.mp x1).1 x0 x2 fun g fg up=>fly_land fg fun g2 fg2 up2=>k g2 ⟨fg2.st,fg2.no,fg2.fr.2.2,fg2.ob⟩ (up.trans up2)
theorem fly_leave {Q:Unit->Shared->Prop}(fs:A.frames=some (env::outer)) (le:env.frame=some L) (f:Fly B (env::outer) e o z .none s.heap) (k:∀ g,Fly B outer e o z .none g->s.heap.UpToSlots g->Q () { s with heap:=g }):wpAny M A (leaving env (.ref e)) Q E s:=by
 unfold leaving
 refine wpAny_bind (fly_note fs le f fun g fg up=>?_)
 exact fly_land fg fun g2 fg2 up2=>k g2 ⟨fg2.st,fg2.no,fg2.fr.2.2,fg2.ob⟩ (up.trans up2)
end
end L2
namespace L2
open PySem PySem.Spec PySem.Calls PyProof.Rows PySem.W
structure MadeN (P:Program) (w:World) (fs:List Addr) (H:Hp) (s s':Shared) (C e D:Addr) (oe:Obj) (n:Str) (v:V):Prop where
 os:s'.os=s.os
 bare:AllBare s'.gens
 ne:s.heap.get? e=none
 nD:s.heap.get? D=none
 De:D ≠ e
 he:s'.heap.get? e=some oe
 cl:oe.cls=.ref C
 di:oe.dict=some D
 da:∃ t,oe.data=.fields #[.ref t,.none,.none,.none,.bool false,.none]
 ns:∃ u,s'.heap.Ns1 D (fun y=>if y=n then some u else none)/\RelV v u
 hok:HOk P w H s'.heap
 keep:∀ b o,s.heap.get? b=some o->H b=none->b ∉ fs->s'.heap.get? b=some o
 slot:∀ b o,s.heap.get? b=some o->H b=none->b ∈ fs->∃ sl,s'.heap.get? b=some { o with slots:=sl }
 there:∀ b o,s.heap.get? b=some o->∃ o',s'.heap.get? b=some o'
section
variable {P : Program} {w : World} {fs : List Addr} {H : Hp} {s s' : Shared} {C e D : Addr} {oe : Obj} {n : Str} {v : V}
theorem no_of_new (hk:HOk P w H s.heap) {b:Addr}(h:s.heap.get? b=none):H b=none:=by
 cases z:H b with
 | none=>rfl
 | some u =>
  obtain ⟨o,ho⟩:=(hk b u z).ob
  rw[h] at ho;cases ho
theorem MadeN.hokD (m:MadeN P w fs H s s' C e D oe n v) (hk:HOk P w H s.heap):HOk P w (upd H D (.xd [(n,v)])) s'.heap:=fun a o z=>by
 have hD:=no_of_new hk m.nD
 by_cases q:a=D
 ·subst q
  rw[upd_same] at z
  cases z
  obtain ⟨u,hu,r⟩:=m.ns
  refine ⟨_,hu,fun f=>?_⟩
  rw[List.lookup_cons]
  by_cases y:f=n
  ·subst y
   simp only[beq_self_eq_true,if_true]
   exact r
  ·have:(f == n)=false:=by simpa using y
   simp only[this,if_neg y]
   trivial
 ·rw[upd_ne q] at z
  exact (m.hok a o z).stay (fun _ _ _ q=>q) (fun _ q=>by rw[upd_ne (ne_of_none q hD)];exact q) fun _ _ q=>by rw[upd_ne (ne_of_none q hD)];exact q
theorem MadeN.un (m:MadeN P w fs H s s' C e D oe n v) (hk:HOk P w H s.heap):Un fs [] H (upd H D (.xd [(n,v)])) s.heap s'.heap:=by
 have hD:=no_of_new hk m.nD
 refine ⟨fun b o q1 q2 q3 _=>m.keep b o q1 q2 q3,fun b o q1 q2 q3 _=>m.slot b o q1 q2 q3,fun b o q1 q2 _=>?_,fun b o q _=>m.there b o q,fun b xs q=>?_,fun b o u q=>?_,fun b ps q=>⟨#[],?_⟩⟩
 ·rw[upd_ne (fun z=>by rw[z,m.nD] at q1;cases q1)];exact q2
 ·rw[upd_ne (ne_of_none q hD)];exact q
 ·rw[upd_ne (ne_of_none q hD)];exact q
 ·rw[upd_ne (ne_of_none q hD),Array.append_empty];exact q
end
theorem frames_slots {base h h':Heap}:∀ {l:List Env},h.FunFrames base l->(∀ b ∈ frs l,∀ o,h.get? b=some o->∃ sl,h'.get? b=some { o with slots:=sl })->h'.FunFrames base l
 | [],_,_=>trivial
 | env::l,⟨hk,⟨L,o,hf,hn,ho,hd⟩,hr⟩,k=>by
  obtain ⟨sl,q⟩:=k L (by rw[frs_cons hf];exact List.mem_cons_self) o ho
  exact ⟨hk,⟨L,_,hf,hn,q,hd⟩,frames_slots hr fun b hb=>k b (by rw[frs_cons hf];exact List.mem_cons_of_mem _ hb)⟩
section
variable {P : Program} {w : World} {K : PySem.W.Frag} {mg : Str -> Option Value} {base : Heap} {N : List Str} {qual : Str} {scope : Scope} {f : Addr} {cd : Value} {A : Around} {outer : List Env} {s : Shared} {H : Hp} {E : XK} {n : Str}
end
end L2
namespace L2
open PySem PySem.Spec PySem.Calls PyProof.Rows PySem.W
noncomputable def vmV:List Value:=[.type "ValueError",.type "Exception",.type "BaseException",.type "object"]
noncomputable def excInI (K:Frag) (C:Addr):Bool:=match K.lookup C with
 | some ⟨.type "type",_,.cls cd,sl⟩=>(match cd.mro,sl.toList with
  | .ref C'::bm,[_,_,_,_,some (.builtin n),_]=>C' == C && n == "ValueError.__new__" && !cd.hasDel && tailIn K vmV bm
  | _,_=>false)
 | _=>false
set_option tactic.hygienic true in
theorem ownI {K:Frag}{h:Heap}{C:Addr}(X:K.In h) (q:excInI K C=true):(∃ nm q N bs bm hdct sn sub ab col dd k0 k1 k2 k3 k5,K.lookup C=some (excClassObj nm q C N bs bm hdct sn sub ab col dd k0 k1 k2 k3 k5 "ValueError.__new__")/\h.get? C=some (excClassObj nm q C N bs bm hdct sn sub ab col dd k0 k1 k2 k3 k5 "ValueError.__new__")/\OwnTail h vmV bm/\tailIn K vmV bm=true)/\∀ v,mroIn K C v=some true->IsExc h C v:=by
 unfold excInI at q
 split at q
 ·rename_i dd cd sl ho
  split at q
  ·rename_i C' bm k0 k1 k2 k3 n k5 hm hs
   simp only[Bool.and_eq_true,beq_iff_eq,Bool.not_eq_true'] at q
   obtain ⟨⟨⟨rfl,rfl⟩,q1⟩,q2⟩:=q
   have eo:=X _ _ ho
   have em:∀ v,mroIn K C' v=some (cd.mro.contains v):=fun v=>by
    unfold mroIn clsIn
    rw[ho]
    simp only[Option.bind_some]
    rw[hm]
    rfl
   obtain ⟨a1,a2,a3,a4,a5,a6,a7,a8,a9,b1,b2⟩:=cd
   dsimp only at hm q1 em
   subst hm q1
   have es:sl=#[k0,k1,k2,k3,some (.builtin "ValueError.__new__"),k5]:=by
    obtain ⟨l⟩:=sl
    simp only at hs
    rw[hs]
   subst es
   refine ⟨⟨a1,a5,a4,a2,bm,a6,a7,a8,a9,b1,dd,k0,k1,k2,k3,k5,ho,eo,tail_of_in X q2,q2⟩,fun v z=>?_⟩
   rw[em] at z
   exact ⟨a1,a5,a4,a2,bm,a6,a7,a8,a9,b1,dd,k0,k1,k2,k3,k5,_,eo,Option.some.inj z⟩
  ·cases q
 ·cases q
structure InitOk (K:Frag) (C fI:Addr) (n a0:Str) (st:Stmt):Prop where
 cls:excInI K C=true
 own:OwnN K C fI n
 fn:∃ fd qual,Fun K "__init__" qual st fI fd/\Binds K fd [a0,n] []
 sc:FnScope [a0,n] [a0,n] (defScope st)
 body:∃ p1 p2 p3 p4,defBody st=[.Assign [.Attribute (.Name a0 p1) n p2] (.Name n p3) p4]/\∀ env,swapsWith (.Name n p3) (some (.Attribute (.Name a0 p1) n p2)) p4.line env=pure false
 l0:(defScope st).names.lookup a0=some .local
 l1:(defScope st).names.lookup n=some .local
 d0:(a0 == ("__debug__" : Str))=false/\(a0 == ("__classdict__" : Str))=false
 d1:(n == ("__debug__" : Str))=false/\(n == ("__classdict__" : Str))=false
theorem raise_atN {X:Cx}{x n a0:Str}{C fI:Addr}{st:Stmt}{k:Nat}{E:XK}{t:TA}{np cpos pos:Pos}{e₀:Expr}{pins:List (Addr × Obj)}{s:Shared}{σ:St}{H:Hp}{QQ:Flow->Shared->Prop}(hb:X.mg x=some (.ref C)) (O:InitOk X.K C fI n a0 st) (hr:Room k X.A) (hc:X.calm=true) (hg:Gl X x)
  (hx:∀ (H:Hp) (s s':Shared) (e D:Addr) (oe:Obj) (v:V),Inv X pins σ H s->MadeN X.prog X.w (frs X.stack) H s s' C e D oe n v->E (.ref C) (some D) (upd H D (.xd [(n,v)]))->X.xe (.ref e) s') (ha:PA X [e₀] t)
  (I:Inv X pins σ H s) (h:t σ H fun vs H1=>∃ v,vs=[v]/\∀ D',H1 D'=none->E (.ref C) (some D') (upd H1 D' (.xd [(n,v)])))
  (hdb:(x == ("__debug__" : Str))=false) (he:starEach [e₀] X.env=(false,eval e₀ X.env)::starEach [] X.env):wpAny (model X.prog X.w) X.A (exec (.Raise (some (.Call (.Name x np) [e₀] [] cpos)) none pos) X.env) QQ X.xe s:=by
 obtain ⟨⟨nm,q,N,bs,bm,hdct,sn,sub,ab,col,dd,k0,k1,k2,k3,k5,lC,hC,T,tl⟩,_⟩:=ownI I.ok.mod.kin O.cls
 obtain ⟨fd,qual,Fi,hB⟩:=O.fn
 obtain ⟨p1,p2,p3,p4,eb,hs⟩:=O.body
 obtain ⟨oc,od,kV,doc,pm,an,cdv,ct,osl,rfl,lk,hcd⟩:=Fi.ex
 rw[eb] at lk hB
 refine raise_exc (K:=X.K) (fI:=fI) (k0:=k0) (k1:=k1) (k2:=k2) (k3:=k3) (k5:=k5) (dd:=dd) (col:=col) (ab:=ab) (sub:=sub) (sn:=sn) (hdct:=hdct) (bs:=bs) (q:=q) (nm:=nm) (C:=C) (N:=N) (bm:=bm) PySem.F.excBase_ValueError (T.hasType PySem.F.excBase_ValueError.hasBase) (I.ok.hd hc) (by rw[he];rfl) O.own.ini O.own.fn (ld_glob I hg hb ⟨rfl,?_⟩ hdb)
 have h1:=ha cpos pins s σ H _ I h
 rw[he] at h1 ⊢
 refine Calls.evalArgs_plain (wpAny_mono h1 (fun us s2 h2=>?_) fun _ _ y=>y)
 obtain ⟨vs,H1,I1,r,v,rfl,hE⟩:=h2
 obtain ⟨u,rfl,ru⟩:∃ u,us=[u]/\RelV v u:=by
  cases r with
  | cons p q=>cases q with
   | nil=>exact ⟨_,rfl,p⟩
 have hC2:=I1.bk _ _ hC
 refine ⟨rfl,show 1<=sizeLine by decide,hC2,I1.kIn,T.keeps I1.bk,fun h' e mk hz=>?_⟩
 obtain ⟨tt,he',htn,ht⟩:=mk.there
 have hHe:H1 e=none:=no_of_new I1.hok mk.new
 have hef:e ∉ frs X.stack:=fun hm=>by
  obtain ⟨_,o,ho,_⟩:=I1.stack.mem hm
  rw[mk.new] at ho;cases ho
 have hok':HOk X.prog X.w H1 h':=fun a o z=>(I1.hok a o z).stay (fun b u _ q=>mk.keeps b u q) (fun _ q=>q) fun _ _ q=>q
 have e1:=I1.env0
 have e2:Env0 X.prog X.w X.K X.mg X.base X.A X.stack { s2 with heap:=h' } H1:=⟨e1.frames,e1.mod,fun b o q=>⟨mk.keeps b o (e1.bs b o q).1,(e1.bs b o q).2⟩,Nat.le_trans e1.bsz hz,e1.funs.of_keeps fun b o q _=>⟨o,mk.keeps b o q,rfl⟩,e1.frf,hok',e1.bare⟩
 refine init_run (A:=X.A.under (.builtin "type.__call__" ⟨.ref C::[u],[]⟩)) (outer:=X.stack) (H:=H1) (e:=e) (v:=v) lk hcd O.sc hB O.l0 O.l1 O.d0.1 O.d0.2 O.d1.1 O.d1.2 hs O.own (by rw[make_depth];have:=hr.dp;lia) hr.hd (e2.make _ _ _) he' hHe hef rfl rfl rfl ru fun s' D' u' a1 a2 a3 a4 a5 a6 a7 a8 a9 a10=>?_
 have keep:∀ b o,s2.heap.get? b=some o->H1 b=none->b ∉ frs X.stack->s'.heap.get? b=some o:=fun b o q1 q2 q3=>a8 b o (fun z=>by rw[z,mk.new] at q1;cases q1) (mk.keeps b o q1) q2 q3
 have nD:s2.heap.get? D'=none:=by
  cases z:s2.heap.get? D' with
  | none=>rfl
  | some o =>
   have:h'.get? D'=none:=a3
   rw[mk.keeps _ _ z] at this;cases this
 have hCn:H1 C=none:=(e1.bs C _ hC).2
 have hCf:C ∉ frs X.stack:=fun hm=>by
  obtain ⟨q,_⟩:=I1.stack.mem hm
  rw[hC] at q;cases q
 refine ⟨rfl,_,tt,keep C _ hC2 hCn hCf,a4,rfl,rfl,?_⟩
 refine hx H1 s2 s' e D' _ v I1 ⟨a1,a2,mk.new,nD,fun z=>?_,a4,rfl,rfl,⟨tt,rfl⟩,⟨u',a5,a6⟩,a7,keep,fun b o q1 q2 q3=>a9 b o (fun z=>by rw[z,mk.new] at q1;cases q1) (mk.keeps b o q1) q2 q3,fun b o q=>a10 b o (mk.keeps b o q)⟩ (hE D' (no_of_new I1.hok nD))
 have:h'.get? D'=none:=a3
 rw[z,he'] at this;cases this
end L2
namespace L2
open PySem PySem.Spec PySem.Calls PyProof.Rows PySem.W Builtin Builtin.ObjectAttr
section
variable {prog : Program} {w : World} {A : Around} {E : Value -> Shared -> Prop} {K : PySem.W.Frag} {x C : Addr} {ox oD : Obj} {h : Heap} {g : Array GenState} {d : Drawn} {t : Nat} {os : OsState} {name : Str} {v : Value}
theorem exc_own {tk:Tok}{Q:Fin->Shared->Prop}(X:K.In h) (I:InstAt h x ox C (some oD)) (hf:findObj K C (some oD) name=some (.value v)) (hq:Q (.done (.ret v)) ⟨h,g,d,t,os⟩) :
  wpAny (model prog w) A (Builtin.«object.__getattribute__» ⟨[.ref x,.str name tk],[]⟩) Q E ⟨h,g,d,t,os⟩:=by
 have L0:=I.type (M:=model prog w)
 have L1:=looks_find (M:=model prog w) X I hf
 unfold Builtin.«object.__getattribute__»
 repeat (any_goals (first | assumption | with_reducible refine Looks.at (by assumption) ?_ | wp_step))
theorem exc_attr {s:Shared}{b:Bool}{Q:Value->Shared->Prop}(X:K.In s.heap) (I:InstAt s.heap x ox C (some oD)) (Z:ExcK K C) (hf:findObj K C (some oD) name=some (.value v)) (hh:handedIn v=true)
  (hq:Q v { s with toks:=s.toks+1 }):wpAny (model prog w) A (getAttr (.ref x) name b) Q E s:=by
 obtain ⟨h,g,d,t,os⟩:=s
 have hx:=I.at_
 have hc:=I.cls
 have L0:=I.type (M:=model prog w)
 have L1:=looks_findIn (M:=model prog w) X Z.ga
 have L2:=looks_findIn (M:=model prog w) X Z.gt
 have f3:=F.attr_ValueError.ga.bind (.ref x)
 have y2:(Value.builtin "BaseException.__getattribute__" == Value.builtin "object.__getattribute__")=false:=by decide +kernel
 have y1:(onTheHeap (Value.ref C) && Value.builtin "BaseException.__getattribute__" == Value.builtin "object.__getattribute__")=false:=by rw[y2];rfl
 have y3:(b && onTheHeap (Value.builtin "BaseException.__getattribute__"))=false:=by rw[show onTheHeap (Value.builtin "BaseException.__getattribute__")=false from rfl,Bool.and_false]
 have hO:=handedOut_of hh
 unfold getAttr getAttrBy
 refine wpAny_bind (wpAny_mkText (wpAny_holding (wpAny_bind (L0.at (wpAny_bind (L1.at ?_))))))
 dsimp only
 rw[if_neg (by rw[y1];decide)]
 have hcg:∀ nv:Value,callGetattribute (.ref x) nv (.builtin "BaseException.__getattribute__") b=boundAndCalled (.builtin "BaseException.__getattribute__") (.ref x) nv:=fun nv=>by
  unfold callGetattribute
  rw[if_neg (by rw[y3];decide)]
 unfold getAttrByItsOwn hookBefore
 rw[hcg]
 repeat (any_goals (first | assumption | with_reducible refine Looks.at (by assumption) ?_ | wp_step))
 refine codeAny_call_builtin F.attr_ValueError.ga.plain F.entry_bexc_ga (exc_check X hx hc Z.be (exc_own X I hf ?_))
 repeat (any_goals (first | assumption | wp_step))
end
end L2
namespace L2
open PySem PySem.Spec PySem.Calls PyProof.Rows PySem.W
theorem pe_spot {X:Cx}{i:Nat}{n f:Str}{C D e fI:Addr}{oe:Obj}{p pos:Pos}(hN:X.N[i]?=some n) (hn:X.env.scope.names.lookup n=some .local) (hd1:(n == ("__debug__" : Str))=false) (hd2:(n == ("__classdict__" : Str))=false) (Z:ExcK X.K C) (O:OwnN X.K C fI f)
  (hc:oe.cls=.ref C) (hnc:notCls oe=true) (hdi:oe.dict=some D) (hb:attributeBase (.Name n p) f X.env (eval (.Name n p) X.env)=eval (.Name n p) X.env:=by rfl) :
  PE X (.Attribute (.Name n p) f pos) (fun σ H Q=>σ[i]?=some (some (V.ref e))/\H e=some (exO oe)/\∃ fs v,H D=some (.xd fs)/\fs.lookup f=some v/\Q v H):=by
 intro pins s σ H Q I h
 obtain ⟨hσ,hH,fs,v,hD,hl,q⟩:=h
 have pv:PE X (.Name n p) (tVar i):=pe_var hN (.inl hn) hd1 hd2
 refine attr_of hb (thn (pv pins s σ H (fun x H1=>x=.ref e/\H1=H) I ⟨.ref e,hσ,rfl,rfl⟩) fun u s1 ⟨x,H1,I1,rx,ex,eH⟩=>?_)
 subst ex eH
 obtain rfl:u=Value.ref e:=rx
 have hx:s1.heap.get? e=some oe:=(I1.hok e _ hH).1
 obtain ⟨mA,hns,r⟩:=I1.hok D _ hD
 obtain ⟨u,hu,ru⟩:=RelO.some_of (v:=v) (o:=mA f) (by rw[<- hl];exact r f)
 obtain ⟨od,ho,hlk⟩:=lookIn_ns hns
 obtain ⟨cd,k1,k2,_⟩:=O.cd
 have hh:hasDictIn X.K C=true:=by unfold hasDictIn;rw[k1];exact k2
 refine exc_attr I1.kIn ⟨hx,hc,hnc,by rw[hdi];exact ho⟩ Z (findObj_own hh O.no rfl (by rw[hlk,hu])) (handed_of ru) ⟨v,H1,I1.tok _,ru,q⟩
noncomputable def suiteR (x n ny f:Str) (es:List Expr) (ta tb:Str) (p1 p2 p3 p4 p5 p6 p7 p8 p9 pa pb pc pd pe pf pg ph pi pj pk pl pm:Pos) (k1 k2 k3 k4 k5 k6:Nat):List Stmt :=
 [.Assign [.Name x p1] (.Tuple [.Constant (.str ta) k1 p2,.Constant .none k2 p3] k3 p4) p5,
  .If (.BoolOp .And [.Call (.Name "isinstance" p6) [.Name n p7,.Name ny p8] [] p9,.UnaryOp .Not (.Call (.Name "isinstance" pa) [.Name n pb,.Tuple es k4 pc] [] pd) pe] pf)
    [.Assign [.Name x pg] (.Tuple [.Constant (.str tb) k5 ph,.Attribute (.Name n pi) f pj] k6 pk) pl] [] pm]
end L2
namespace L2
open PySem PySem.Spec PySem.Calls PyProof.Rows PySem.W
theorem try_callR {X:Cx}{CX:CXT}{k:Nat}{f:Addr}{fd:FuncData}{ps:List Str}{sp:Sp}{t:TA}{fnm:Str}{e0:Expr}{es:List Expr}{p q:Pos}{R:VK}{E:XK}{Eh:Value->Shared->Prop}{pins:List (Addr × Obj)}{s:Shared}{σ:St}{H:Hp}
  (F:FnOk X.prog X.w X.K X.mg X.base CX k f fd ps sp) (hr:Room k X.A) (hgf:Gl X fnm) (hmf:X.mg fnm=some (.ref f)) (hkf:PySem.W.keepIn X.K (.ref f)=true) (hb:Binds X.K fd ps []) (hdf:(fnm == ("__debug__" : Str))=false) (ha:PA (X.wish Eh) (e0::es) t)
  (he:starEach (e0::es) X.env=(false,eval e0 X.env)::starEach es X.env) (hpl:(backTo q (starEach es X.env)).any (·.1)=false) (I:Inv X pins σ H s) (h:t σ H fun vs H1=>sp vs H1 R E)
  (hx:∀ (H1:Hp) (s1:Shared) (ev:Value) (s':Shared),Inv X pins σ H1 s1->CX X.stack H1 s1 E ev s'->Eh ev s'):wpAny (model X.prog X.w) X.A (eval (.Call (.Name fnm p) (e0::es) [] q) X.env) (EP X pins σ R) Eh s:=by
 refine wpAny_Call_Name_kw (ld_glob I hgf hmf ?_ hdf)
 refine PySem.W.callWith_K (h₀:=X.base) I.ok.mod.kin hkf (thn (ha q pins s σ H _ (I.wish Eh) h) fun us s1 ⟨vs,H1,I1,r,hsp⟩=>⟨I1.kIn,?_⟩) he hpl
 have J:Inv X pins σ H1 s1:=I1.unwish
 have hl:us.length=ps.length:=by rw[<- r.length];exact F.len _ _ _ _ hsp
 have hbb:BindsTo s1 fd ⟨us,[]⟩ (ps.zip us):=by
  have z:=hb s1 us J.kIn (by rw[List.append_nil];exact hl)
  rw[List.append_nil] at z
  exact z
 refine wpAny_call (codeAny_mono (F.run X.A X.stack s1 H1 ⟨us,[]⟩ us vs _ _ hr J.env0 hbb r hsp) fun res s' hq=>?_)
 cases res with
 | error ev=>exact hx H1 s1 ev s' J hq
 | ok fl =>
  cases fl with
  | ret u=>exact J.after hq
  | next=>exact False.elim hq
  | brk=>exact False.elim hq
  | cont=>exact False.elim hq
end L2
namespace L2
open PySem PySem.Spec PySem.Calls PyProof.Rows PySem.W
def CXf (P:Program) (w:World):CXT:=fun outer H s E ev s'=>∃ (C e:Addr) (o:Obj) (z:Value) (B:Heap) (H':Hp),ev=.ref e/\s'.os=s.os/\AllBare s'.gens/\Un (frs outer) [] H H' s.heap s'.heap/\HOk P w H' s'.heap /\
 Fly B outer e o z .none s'.heap/\o.cls=.ref C/\Held (frs outer) H' s.heap s'.heap B/\E (.ref C) none H'
section
variable {P : Program} {w : World} {K : PySem.W.Frag} {mg : Str -> Option Value} {base : Heap} {N : List Str} {qual : Str} {scope : Scope} {f : Addr} {cd : Value} {A : Around} {outer : List Env} {s : Shared} {H : Hp} {E : XK}
theorem pass_onF:Passes (CXf P w) (cxOf (CXf P w) P w K mg base N qual scope f cd A outer s H E) E:=by
 intro pins σ H1 s1 ev s2 I h
 obtain ⟨C,e,o,z,B,H2,rfl,os,bare,un,hok,fl,hcl,hB,hE⟩:=h
 have hfr:(envOfC qual scope s.heap.objs.size f cd).frame=some s.heap.objs.size:=rfl
 have un':Un (s.heap.objs.size::frs outer) [] H1 H2 s1.heap s2.heap:=un
 have hB':Held (s.heap.objs.size::frs outer) H2 s1.heap s2.heap B:=hB
 have fz:=un_frames I.stack I.stkFree un
 refine fly_leave I.ok.frames hfr fl fun h' fl' up=>?_
 refine ⟨C,e,o,z,B,H2,rfl,os.trans I.os,bare,?_,?_,fl',hcl,?_,hE⟩
 ·exact un_left (Nat.le_refl _) I.ok.funs I.ok.frf I.base un' hB' fl'.st up
 ·exact hok_stay hok fz hB fl'.st
 ·exact held_left (Nat.le_refl _) (fz _ (by show _ ∈ s.heap.objs.size::frs outer;exact List.mem_cons_self)) I.base hok (fun b o q=>un.there b o q (by simp)) hB' fl'.st
theorem raise_onF:Raises (cxOf (CXf P w) P w K mg base N qual scope f cd A outer s H E) E:=by
 intro pins σ H1 s1 h' e C vs I mk hE
 have hfr:(envOfC qual scope s.heap.objs.size f cd).frame=some s.heap.objs.size:=rfl
 have hin:∀ env ∈ (envOfC qual scope s.heap.objs.size f cd::outer),∀ b,env.frame=some b->b ∈ frs (envOfC qual scope s.heap.objs.size f cd::outer):=fun env he b hb=>List.mem_filterMap.mpr ⟨env,he,hb⟩
 have hst:s1.heap.FunFrames base (envOfC qual scope s.heap.objs.size f cd::outer):=I.stack
 have hfz:∀ b ∈ frs (envOfC qual scope s.heap.objs.size f cd::outer),H1 b=none:=I.stkFree
 have hB:Held (s.heap.objs.size::frs outer) H1 s1.heap s1.heap (PySem.W.hideAll s1.heap (frs (envOfC qual scope s.heap.objs.size f cd::outer))):=fun b o q _ hn=>PySem.W.hideAll_get _ q hn
 obtain ⟨t,het,htn,htt⟩:=mk.there
 have fr':h'.FunFrames (PySem.W.hideAll s1.heap (frs (envOfC qual scope s.heap.objs.size f cd::outer))) (envOfC qual scope s.heap.objs.size f cd::outer):=(PySem.W.funFrames_hide hst hin).of_keeps fun b o hb _=>⟨o,mk.keeps b o hb,rfl⟩
 have ne:(PySem.W.hideAll s1.heap (frs (envOfC qual scope s.heap.objs.size f cd::outer))).get? e=none:=by
  cases q:(PySem.W.hideAll s1.heap (frs (envOfC qual scope s.heap.objs.size f cd::outer))).get? e with
  | none=>rfl
  | some o =>
   have:=PySem.W.of_hideAll _ q
   rw[mk.new] at this;cases this
 refine fly_first (s:={ s1 with heap:=h' }) (o:={ cls:=.ref C,data:=.fields #[.ref t,.none,.none,.none,.bool false,.none] }) (z:=.ref t) I.ok.frames hfr fr' (fun b o q=>mk.keeps b o (PySem.W.of_hideAll _ q)) ne het rfl rfl rfl fun h2 fl up=>?_
 have up':s1.heap.UpToSlots h2:=(Heap.UpToSlots.of_keeps mk.keeps).trans up
 refine ⟨C,e,_,_,_,H1,rfl,I.os,I.bare,?_,?_,fl,rfl,?_,hE⟩
 ·exact un_left (Nat.le_refl _) I.ok.funs I.ok.frf I.base Un.refl hB fl.st up'
 ·exact hok_stay I.hok hfz hB fl.st
 ·exact held_left (Nat.le_refl _) (hfz _ (by show _ ∈ s.heap.objs.size::frs outer;exact List.mem_cons_self)) I.base I.hok (fun b o q=>⟨o,q⟩) hB fl.st
end
theorem catch_landF {X:Cx}{pins:List (Addr × Obj)}{σ:St}{H1 H2:Hp}{s1 s2:Shared}{C G e:Addr}{o:Obj}{zz fl':Value}{B h4:Heap}{gn n:Str}{i:Nat}{np pos:Pos}{b₀:Stmt}{suite:List Stmt}{D:Ends}(hst:X.stack=X.env::X.outer) (hfr:X.env.frame=some X.env.locals) (I:Inv X pins σ H1 s1)
  (os:s2.os=s1.os) (bare:AllBare s2.gens) (un:Un (frs X.stack) [] H1 H2 s1.heap s2.heap) (hok:HOk X.prog X.w H2 s2.heap) (hd4:Fly B X.stack e o zz fl' h4) (up4:s2.heap.UpToSlots h4) (hoc:o.cls=.ref C) (hB:Held (frs X.stack) H2 s1.heap s2.heap B)
  (cC:IsExc X.base C (.ref G)) (cG:IsExc X.base G (.type "BaseException")) (hg:Gl X gn) (hm:X.mg gn=some (.ref G)) (hdb:(gn == ("__debug__" : Str))=false)
  (hN:X.N.Nodup) (hi:X.N[i]?=some n) (hn:X.env.scope.names.lookup n=some .local) (hex:X.ex=[])
  (hsuite:∀ (ws:Array Value) (E':Value->Shared->Prop),ws[2]?=some .none->H2 e=none->∃ tt,PSs (X.heldT e E') (b₀::suite) tt/\tt { nx:=fun σ' H'=>D.nx (σ'.set i none) H',rt:=D.rt } (σ.set i (some (.ref e))) (upd H2 e (exO { o with data:=.fields ws }))) :
  wpAny (model X.prog X.w) X.A (setFlight (.ref e) none)
   (fun _ s₃=>wpAny (model X.prog X.w) X.A (handleBy (.ref e) X.env [.ExceptHandler (some (.Name gn np)) (some n) (b₀::suite) pos]) (SP X pins D) X.xe s₃) X.xe { s2 with heap:=h4 }:=by
 have fz:=un_frames I.stack I.stkFree un
 have inv:∀ {h5:Heap},B.StaysIn h5->s2.heap.UpToSlots h5->Inv X pins σ H2 { s2 with heap:=h5 }:=fun {h5} st up =>
  I.call' (s':={ s2 with heap:=h5 }) (ch:=[]) os (un_stay I.stack I.stkFree un hB st up) (hok_stay hok fz hB st) bare (fun b z=>absurd z (by simp))
 refine fly_land hd4 fun h5 fl5 up5=>?_
 have I5:=inv fl5.st (up4.trans up5)
 obtain ⟨xs5,_,_,_,he5,_⟩:=fl5.ob
 obtain ⟨nm,q,N,bs,bm,hdct,sn,sub,ab,col,dd,k0,k1,k2,k3,k5,ni,hC,hCG⟩:=cC
 obtain ⟨nm',q',N',bs',bm',hdct',sn',sub',ab',col',dd',j0,j1,j2,j3,j5,ni',hG,hGB⟩:=cG
 refine wpAny_handleBy_cons (codeAny_handlers_test ?_) (by intro z;cases z)
 refine Calls.Name_function_global I.ok.kind hg (Calls.loadGlobal_global (by rw[I.ok.glob];exact I5.mod.glob.keeps I5.bk) hm ?_) hdb
 refine exm_base (I5.bk _ _ hC) (I5.bk _ _ hG) he5 hoc hGB hCG (codeAny_handlers_suite_as ?_)
 refine fly_land fl5 fun h6 fl6 up6=>?_
 have I6:=inv fl6.st ((up4.trans up5).trans up6)
 obtain ⟨ws,_,_,_,he6,_,_,_,_,_,_,_,h2n⟩:=fl6.ob
 have hBe:B.get? e=none:=fl6.no
 have hHe:H2 e=none:=by
  cases z:H2 e with
  | none=>rfl
  | some u =>
   obtain ⟨o,ho⟩:=(hok e u z).ob
   have:=hB e o ho (.inl (by rw[z];simp)) (fun hm=>by rw[fz e hm] at z;cases z)
   rw[hBe] at this;cases this
 have hen:∀ b ∈ frs X.stack,b ≠ e:=fun b hb z=>by
  subst z
  obtain ⟨_,o,ho,hnf⟩:=I6.stack.mem hb
  rw[he6] at ho
  cases ho
  exact hnf ws rfl
 have hL:e ≠ X.env.locals:=fun z=>hen X.env.locals (by rw[hst,frs_cons hfr];exact List.mem_cons_self) z.symm
 have hS1:s1.heap.get? e=none:=by
  cases z:s1.heap.get? e with
  | none=>rfl
  | some o1 =>
   obtain ⟨o2,h2⟩:=un.there e o1 z (by simp)
   have:=hB e o2 h2 (.inr ⟨o1,z⟩) (fun hm=>hen e hm rfl)
   rw[hBe] at this;cases this
 have hS0:X.s₀.heap.get? e=none:=by
  cases z:X.s₀.heap.get? e with
  | none=>rfl
  | some o1 =>
   obtain ⟨o2,h2⟩:=I.base.there e o1 z (by rw[hex];simp)
   rw[hS1] at h2;cases h2
 have hCe:∀ x c,X.env.cells.lookup x=some c->c ≠ e:=fun x c z q=>by
  subst q
  obtain ⟨v,hv⟩:=I.cell x c z
  obtain ⟨o,ho,_⟩:=hv
  rw[hS1] at ho;cases ho
 have hPe:∀ p ∈ X.pn++pins,p.1 ≠ e:=fun p hp q=>by
  have:=(I.pin p hp).1
  rw[q,hS1] at this;cases this
 refine store_ok (I6.track he6 hHe hS0 hL hCe hPe) hN hi (.inl hn) (v:=.ref e) rfl (fun s7 I7=>?_) (.inr hn)
 obtain ⟨tt,hp,ht⟩:=hsuite ws _ h2n hHe
 refine wpAny_mono (hp pins s7 _ _ _ I7.heldT ht) (fun f s8 h8=>?_) (fun x s8 hx=>hx)
 cases f with
 | brk=>obtain ⟨_,_,_,z⟩:=h8;exact z.elim
 | cont=>obtain ⟨_,_,_,z⟩:=h8;exact z.elim
 | ret u =>
  obtain ⟨v,σ',H',I8,rv,qq⟩:=h8
  have I8':=Inv.unheldT I.ok I8
  obtain ⟨m,hm8,_⟩:=I8'.loc
  refine wpAny_nameGoes hn hm8 (by rw[I.ok.kind];rfl) fun h' m' hn' hs'=>?_
  exact ⟨v,_,H',I8'.lost hn' hs',rv,qq⟩
 | next =>
  obtain ⟨σ',H',I8,qq⟩:=h8
  have I8':=Inv.unheldT I.ok I8
  obtain ⟨m,hm8,hl8⟩:=I8'.loc
  refine wpAny_nameGoes_keeps hn hm8 (by rw[I.ok.kind];rfl) fun h' v' hn' hs'=>?_
  exact ⟨_,H',I8'.gone hN hi hl8 hn' hs',qq⟩
theorem ps_tryF {X:Cx}{k i:Nat}{f:Addr}{fd:FuncData}{ps:List Str}{sp:Sp}{t:TA}{fnm gn n:Str}{e0:Expr}{es:List Expr}{G:Addr}{b₀:Stmt}{suite:List Stmt}{p q p' np hp pos:Pos}
  (hst:X.stack=X.env::X.outer) (hfr:X.env.frame=some X.env.locals) (hex:X.ex=[]) (F:FnOk X.prog X.w X.K X.mg X.base (CXf X.prog X.w) k f fd ps sp) (hr:Room k X.A) (hgf:Gl X fnm) (hmf:X.mg fnm=some (.ref f)) (hkf:PySem.W.keepIn X.K (.ref f)=true) (hb:Binds X.K fd ps [])
  (hdf:(fnm == ("__debug__" : Str))=false) (ha:∀ E,PA (X.wish E) (e0::es) t) (hG:IsExc X.base G (.type "BaseException")) (hgG:Gl X gn) (hmG:X.mg gn=some (.ref G)) (hdG:(gn == ("__debug__" : Str))=false)
  (hN:X.N.Nodup) (hi:X.N[i]?=some n) (hn:X.env.scope.names.lookup n=some .local)
  (he:starEach (e0::es) X.env=(false,eval e0 X.env)::starEach es X.env:=by rfl) (hpl:(backTo q (starEach es X.env)).any (·.1)=false:=by rfl) (hs:swapsWith (.Call (.Name fnm p) (e0::es) [] q) none p'.line X.env=pure false:=by rfl) :
  PS X (.Try [.Expr (.Call (.Name fnm p) (e0::es) [] q) p'] [.ExceptHandler (some (.Name gn np)) (some n) (b₀::suite) hp] [] [] pos)
   (fun D σ H=>t σ H fun vs H1=>sp vs H1 (fun _ _=>False) fun cls _ H2=>∃ C,cls=.ref C/\IsExc X.base C (.ref G)/\∀ (e:Addr) (o:Obj) (ws:Array Value) (E':Value->Shared->Prop),o.cls=.ref C->ws[2]?=some .none->H2 e=none ->
    ∃ tt,PSs (X.heldT e E') (b₀::suite) tt/\tt { nx:=fun σ' H'=>D.nx (σ'.set i none) H',rt:=D.rt } (σ.set i (some (.ref e))) (upd H2 e (exO { o with data:=.fields ws }))):=by
 intro pins s σ H D I h
 refine wpAny_Try_except (wpAny_execs_cons (wpAny_Expr_any (wpAny_mono (try_callR (Eh:=fun ev s'=>_) F hr hgf hmf hkf hb hdf (ha _) he hpl I h fun H1 s1 ev s' J hq=>?_) (fun u s1 z=>?_) fun _ _ y=>y) I.quiet hs))
 ·obtain ⟨C,e,o,zz,B,H2,rfl,os,bare,un,hok,fl,hoc,hB,C',eC,hk,hD⟩:=hq
  cases eC
  have frames:X.A.frames=some (X.env::X.outer):=by rw[<- hst];exact I.ok.frames
  have fl':=fl
  rw[hst] at fl'
  refine fly_note frames hfr fl' fun h4 hd4 up4=>?_
  rw[<- hst] at hd4
  exact catch_landF (D:=D) hst hfr J os bare un hok hd4 up4 hoc hB hk hG hgG hmG hdG hN hi hn hex fun ws E' h2 hz=>hD e o ws E' hoc h2 hz
 ·obtain ⟨v,H2,I2,r,qn⟩:=z
  exact qn.elim
theorem raise_atW {X:Cx}{x n a0:Str}{C fI:Addr}{st:Stmt}{k:Nat}{E:XK}{t:TA}{np cpos pos:Pos}{e₀:Expr}{pins:List (Addr × Obj)}{s:Shared}{σ:St}{H:Hp}{QQ:Flow->Shared->Prop}{Eh:Value->Shared->Prop}(hb:X.mg x=some (.ref C)) (O:InitOk X.K C fI n a0 st) (hr:Room k X.A) (hc:X.calm=true) (hg:Gl X x)
  (hx:∀ (H:Hp) (s s':Shared) (e D:Addr) (oe:Obj) (v:V),Inv X pins σ H s->MadeN X.prog X.w (frs X.stack) H s s' C e D oe n v->E (.ref C) (some D) (upd H D (.xd [(n,v)]))->Eh (.ref e) s') (ha:∀ E,PA (X.wish E) [e₀] t)
  (I:Inv X pins σ H s) (h:t σ H fun vs H1=>∃ v,vs=[v]/\∀ D',H1 D'=none->E (.ref C) (some D') (upd H1 D' (.xd [(n,v)])))
  (hdb:(x == ("__debug__" : Str))=false) (he:starEach [e₀] X.env=(false,eval e₀ X.env)::starEach [] X.env):wpAny (model X.prog X.w) X.A (exec (.Raise (some (.Call (.Name x np) [e₀] [] cpos)) none pos) X.env) QQ Eh s :=
 raise_atN (X:=X.wish Eh) (E:=E) hb O hr hc hg (fun H s s' e D oe v I1 m q=>hx H s s' e D oe v I1.unwish m q) (ha _) (I.wish _) h hdb he
def catchE (X:Cx) (b₀:Stmt) (suite:List Stmt) (D:Ends) (σ:St) (i:Nat) (C:Addr):XK:=fun _ dx H2=>match dx with
 | none=>False
 | some D'=>∀ (e:Addr) (o:Obj) (ws:Array Value) (E':Value->Shared->Prop),o.cls=.ref C->o.dict=some D'->ws[2]?=some .none->H2 e=none ->
   ∃ tt,PSs (X.heldT e E') (b₀::suite) tt/\tt { nx:=fun σ' H'=>D.nx (σ'.set i none) H',rt:=D.rt } (σ.set i (some (.ref e))) (upd H2 e (exO { o with data:=.fields ws }))
theorem ps_tryO {X:Cx}{k i:Nat}{x fn a0 gn n:Str}{C fI G:Addr}{st:Stmt}{t:TA}{e₀:Expr}{b₀:Stmt}{suite:List Stmt}{np cpos rp np' hp pos:Pos}
  (hst:X.stack=X.env::X.outer) (hfr:X.env.frame=some X.env.locals) (hex:X.ex=[]) (hb:X.mg x=some (.ref C)) (O:InitOk X.K C fI fn a0 st) (hr:Room k X.A) (hc:X.calm=true) (hg:Gl X x) (hdx:(x == ("__debug__" : Str))=false) (ha:∀ E,PA (X.wish E) [e₀] t)
  (hCG:IsExc X.base C (.ref G)) (hG:IsExc X.base G (.type "BaseException")) (hgG:Gl X gn) (hmG:X.mg gn=some (.ref G)) (hdG:(gn == ("__debug__" : Str))=false) (hN:X.N.Nodup) (hi:X.N[i]?=some n) (hn:X.env.scope.names.lookup n=some .local)
  (he:starEach [e₀] X.env=(false,eval e₀ X.env)::starEach [] X.env:=by rfl) :
  PS X (.Try [.Raise (some (.Call (.Name x np) [e₀] [] cpos)) none rp] [.ExceptHandler (some (.Name gn np')) (some n) (b₀::suite) hp] [] [] pos)
   (fun D σ H=>t σ H fun vs H1=>∃ v,vs=[v]/\∀ D',H1 D'=none->∀ (e:Addr) (o:Obj) (ws:Array Value) (E':Value->Shared->Prop),o.cls=.ref C->o.dict=some D'->ws[2]?=some .none->upd H1 D' (.xd [(fn,v)]) e=none ->
    ∃ tt,PSs (X.heldT e E') (b₀::suite) tt/\tt { nx:=fun σ' H'=>D.nx (σ'.set i none) H',rt:=D.rt } (σ.set i (some (.ref e))) (upd (upd H1 D' (.xd [(fn,v)])) e (exO { o with data:=.fields ws }))):=by
 intro pins s σ H D I h
 refine wpAny_Try_except (wpAny_execs_cons ?_)
 refine raise_atW (E:=catchE X b₀ suite D σ i C) hb O hr hc hg (fun H1 s1 s2 e D' oe v J m hE=>?_) ha I h hdx he
 ·have hfz:∀ b ∈ frs X.stack,H1 b=none:=J.stkFree
  have hD:=no_of_new J.hok m.nD
  have hhe:=no_of_new J.hok m.ne
  have hst2:s2.heap.FunFrames X.base X.stack:=frames_slots J.stack fun b hb o ho=>m.slot b o ho (hfz b hb) hb
  obtain ⟨tt,hda⟩:=m.da
  have hok2:=m.hokD J.hok
  have hB:Held (frs X.stack) (upd H1 D' (.xd [(fn,v)])) s1.heap s2.heap (hideAll s2.heap (e::frs X.stack)):=fun b o q hq hn=>by
   refine hideAll_get _ q fun hm=>?_
   rcases List.mem_cons.mp hm with z | z
   ·subst z
    rcases hq with y | ⟨o₀,y⟩
    ·rw[upd_ne (Ne.symm m.De)] at y;exact y hhe
    ·rw[m.ne] at y;cases y
   ·exact hn z
  have eo:({ oe with data:=.fields #[.ref tt,.none,.none,.none,.bool false,.none] }:Obj)=oe:=by
   obtain ⟨a,b,c,d⟩:=oe
   dsimp only at hda
   subst hda
   rfl
  have frames:X.A.frames=some (X.env::X.outer):=by rw[<- hst];exact I.ok.frames
  have fr':s2.heap.FunFrames (hideAll s2.heap (e::frs X.stack)) X.stack:=funFrames_hide hst2 fun env he b hb=>List.mem_cons_of_mem _ (List.mem_filterMap.mpr ⟨env,he,hb⟩)
  have fr2:=fr'
  rw[hst] at fr2
  unfold noteFrame
  simp only[hfr]
  have hge:s2.heap.get? e=some { oe with data:=.fields #[.ref tt,.none,.none,.none,.bool false,.none] }:=by rw[eo];exact m.he
  refine wpAny_bind (wpAny_field hge rfl (x:=.none) rfl ?_)
  rw[if_neg (by decide)]
  refine fly_lay (o:=oe) (z:=.ref tt) (B:=hideAll s2.heap (e::frs X.stack)) frames hfr (by rw[hst] at fr' ⊢;exact fr') (fun b o q=>of_hideAll _ q) (hideAll_none _ (List.mem_cons_self)) hge (show 1 < 6 by decide) rfl rfl fun h4 hd4 up4=>?_
  rw[<- hst] at hd4
  exact catch_landF (D:=D) hst hfr J m.os m.bare (m.un J.hok) hok2 hd4 up4 m.cl hB hCG hG hgG hmG hdG hN hi hn hex fun ws E' h2 hz=>hE e oe ws E' m.cl m.di h2 hz
end L2
namespace L2
open PySem PySem.Spec PySem.Calls PyProof.Rows PySem.W
theorem entry_unchain:entryFor table "proto.unchain" = some Builtin.«proto.unchain»:=entryFor_of_tree (by kernel_rfl)
theorem stop_loud {α:Type}{prog:Program}{w:World}{A:Around}{E:Value->Shared->Prop}{s:Shared}{Q:α->Shared->Prop}{h a:Addr}{oh oa:Obj}{ws vs:Array Value}(hh:A.handled=some (.ref h)) (hne:h ≠ a) (ho:s.heap.get? h=some oh) (hd:oh.data=.fields ws) (h2:ws[2]?=some .none)
  (ha:s.heap.get? a=some oa) (hda:oa.data=.fields vs) (hz:2 < vs.size) (hQ:E (.ref a) { s with heap:=s.heap.update a (Obj.mapFields (·.setIfInBounds 2 (.ref h))) }):wpAny (model prog w) A (raiseNew (α:=α) (.ref a)) Q E s:=by
 simp only[raiseNew]
 refine wpAny_bind (wpAny_handled ?_)
 rw[hh]
 have e1:(Value.ref h != Value.ref a)=true:=by simp[hne]
 simp only[e1,if_true]
 refine wpAny_bind (wpAny_holding (wpAny_runValue (codeAny_builtin entry_unchain ?_)))
 show wpAny _ _ (field (.ref h) 2 >>= _) _ _ s
 refine wpAny_bind (wpAny_field ho hd h2 ?_)
 rw[if_pos (by decide)]
 refine wpAny_pure ?_
 show wpAny _ _ (setField (.ref a) 2 (.ref h) >>= _) _ _ s
 exact wpAny_bind (wpAny_setField (a:=a) ha hda hz (wpAny_throw hQ))
theorem next_loud {prog:Program}{w:World}{A:Around}{E:Value->Shared->Prop}{s:Shared}{it h:Addr}{oh:Obj}{ws:Array Value}{x left step:Int}{Q:Option Value->Shared->Prop}(hh:A.handled=some (.ref h)) (ho:s.heap.get? h=some oh) (hd:oh.data=.fields ws) (h2:ws[2]?=some .none) (hit:IsRangeIter s.heap it x left step) (hleft:left<=0)
  (hQ:∀ h',Heap.ExtBut it s.heap h'->Q none { s with heap:=h' }):wpAny (model prog w) A (pyNext (.ref it)) Q E s:=by
 have hT:s.TypeIs (.ref it) "range_iterator" := ⟨_,hit,rfl⟩
 unfold pyNext
 refine wpAny_bind (wpAny_attempt (wpAny_callSpecial?_slot (name:=Str.ofString "__next__") hT F.slot_range_iterator_next
  (wpAny_call_entry F.slot_range_iterator_next hT F.entry_range_iterator_next ?_ (F.args_range_iterator_next_1 _))))
 show wpAny _ _ (field (.ref it) 0 >>= _) _ _ s
 refine wpAny_bind (wpAny_field hit rfl (x:=rawInt x) rfl ?_)
 show wpAny _ _ (field (.ref it) 1 >>= _) _ _ s
 refine wpAny_bind (wpAny_field hit rfl (x:=rawInt left) rfl ?_)
 show wpAny _ _ (field (.ref it) 2 >>= _) _ _ s
 refine wpAny_bind (wpAny_field hit rfl (x:=rawInt step) rfl ?_)
 show wpAny _ _ (if left<=0 then _ else _) _ _ s
 rw[if_pos hleft]
 refine wpAny_bind (wpAny_rule ?_)
 refine wpAny_bind ?_
 show wpAny _ _ (newExc (.type "StopIteration") [] >>= _) _ _ _
 refine wpAny_bind ?_
 simp only[newExc,newTuple]
 refine wpAny_bind (wpAny_newObj_type ?_ (by size_fits))
 refine wpAny_bind (m:=firstArgMember _ _) (wpAny_of_eq (a:=Value.none) (by first | rfl | (simp only[firstArgMember];rfl)) ?_)
 refine wpAny_newObj_type ?_ (by size_fits)
 have hlt:=Heap.lt_size ho
 refine stop_loud (h:=h) (A:=A.in1) hh (Nat.ne_of_lt (by rw[Heap.size_push];exact Nat.lt_succ_of_lt hlt)) (Heap.get?_push_of_some _ (Heap.get?_push_of_some _ ho)) hd h2 (Heap.get?_push_size _ rfl) rfl (show 2 < 6 by decide) ?_
 refine wpAny_bind (wpAny_isInstance (T := "StopIteration") (b:=true) ⟨_,Heap.get?_update_self _ (Heap.get?_push_size _ rfl) rfl,rfl⟩ isSubtype_stop ?_)
 refine wpAny_pure (hQ _ ?_)
 exact fun b o _ e=>(Heap.get?_update_other _ _ (Nat.ne_of_gt (by rw[Heap.size_push];exact Nat.lt_succ_of_lt (Heap.lt_size e)))).trans (Heap.get?_push_of_some _ (Heap.get?_push_of_some _ e))
end L2
namespace L2
open PySem PySem.Spec PyProof.Rows PySem.W
def Loud (X:Cx):Prop:=∃ (e:Addr) (oe:Obj) (ws:Array Value),X.A.handled=some (.ref e)/\X.H₀ e=some (exO oe)/\oe.data=.fields ws/\ws[2]?=some .none
theorem Inv.loud {X:Cx}{pins:List (Addr × Obj)}{σ:St}{H:Hp}{s:Shared}(I:Inv X pins σ H s) (h:Loud X):∃ (e:Addr) (oe:Obj) (ws:Array Value),X.A.handled=some (.ref e)/\H e=some (exO oe)/\s.heap.get? e=some oe/\oe.data=.fields ws/\ws[2]?=some .none:=by
 obtain ⟨e,oe,ws,h1,h2,h3,h4⟩:=h
 have q:=I.base.frzs e oe _ h2
 exact ⟨e,oe,ws,h1,q,(I.hok e _ q).1,h3,h4⟩
structure TurnL (P:Program) (w:World) (K:PySem.W.Frag) (tg:Expr) (J:It) (fp:List Addr) (it:Addr) (tn:Nat->Heap->Prop):Prop where
 mem:it ∈ fp
 obj:∀ i h,tn i h->∀ b ∈ fp,∃ o,h.get? b=some o/\∀ v,o.data ≠ .cell v
 keep:∀ i h h',tn i h->(∀ b ∈ fp,∀ o,h.get? b=some o->h'.get? b=some o)->tn i h'
 item:∀ (X:Cx),X.prog=P->X.w=w->X.K=K->Loud X->∀ (i:Nat) (pins:List (Addr × Obj)) (s:Shared) (σ:St) (H:Hp) (E:Value->Shared->Prop),Inv X pins σ H s->(∀ b ∈ fp,FpOk X pins H b)->tn i s.heap->J.go i H ->
  wpAny (model P w) X.A (pyNext (.ref it)) (fun r s1=>∃ u,r=some u /\
   wpAny (model P w) X.A (letOwnedTupleGo tg (.ref it) u) (fun _ s2=>∃ x H',Inv X pins σ H' s2/\RelV x u/\J.yld i H x H'/\tn (i+1) s2.heap/\∀ b ∈ fp,H' b=none) E s1) E s
 done:∀ (X:Cx),X.prog=P->X.w=w->X.K=K->Loud X->∀ (i:Nat) (pins:List (Addr × Obj)) (s:Shared) (σ:St) (H:Hp) (E:Value->Shared->Prop),Inv X pins σ H s->(∀ b ∈ fp,FpOk X pins H b)->tn i s.heap->J.stop i H ->
  wpAny (model P w) X.A (pyNext (.ref it)) (fun r s1=>r=none/\Inv X pins σ H s1) E s
 self:∀ (A:Around) (i:Nat) (s:Shared) (Q:Value->Shared->Prop) (E:Value->Shared->Prop),tn i s.heap->Q (.ref it) s->wpAny (model P w) A (pyIter (.ref it)) Q E s
def PIEL (X:Cx) (pins:List (Addr × Obj)) (σ:St) (tg:Expr) (R:It->Hp->Prop) (itv:Value) (s2:Shared):Prop :=
 ∃ (it:Addr) (fp:List Addr) (tn:Nat->Heap->Prop) (J:It) (H':Hp),itv=.ref it/\Inv X pins σ H' s2/\TurnL X.prog X.w X.K tg J fp it tn/\tn 0 s2.heap/\(∀ b ∈ fp,FpOk X pins H' b)/\R J H'
def PIL (X:Cx) (tg iter:Expr) (wi:TI):Prop :=
 ∀ (pins:List (Addr × Obj)) (s:Shared) (σ:St) (H:Hp) (R:It->Hp->Prop),Inv X pins σ H s->wi σ H R ->
  wpAny (model X.prog X.w) X.A (eval iter X.env) (fun v s1=>wpAny (model X.prog X.w) X.A (pyIter v) (PIEL X pins σ tg R) X.xe s1) X.xe s
theorem turnL_range {P:Program}{w:World}{K:PySem.W.Frag}{tg:Expr}(it:Addr) (lo:Int) (n:Nat):TurnL P w K tg (Itr lo n) [it] it (fun i h=>IsRangeIter h it (lo+(i:Nat) * 1) ((n:Int) - (i:Nat)) 1) where
 mem:=by simp
 obj:=fun i h st b hb=>by
  have e:b=it:=by simpa using hb
  subst e
  exact ⟨_,st,fun v z=>by
   have z':Data.fields _=Data.cell v:=z
   cases z'⟩
 keep:=fun i h h' st k=>k it (by simp) _ st
 item:=by
  intro X hP hw hK hc i pins s σ H E I hf st hg
  subst hP hw hK
  obtain ⟨f0,f1,f2,f3,f4,f5⟩:=hf it (by simp)
  have hg':i < n:=hg
  refine wpAny_pyNext_range_item st (by lia) fun h' st' sb=>?_
  have I1:Inv X pins σ H { s with heap:=h',toks:=s.toks+1 }:=I.turned (fun b o hb e=>(sb.2 b hb).trans e) f0 f1 f3 f4 f5
  have st2:IsRangeIter h' it (lo+((i+1:Nat):Int) * 1) ((n:Int) - ((i+1:Nat):Int)) 1:=by
   have e1:lo+((i+1:Nat):Int) * 1=lo+(i:Nat) * 1+1:=by lia
   have e2:(n:Int) - ((i+1:Nat):Int)=(n:Int) - (i:Nat) - 1:=by lia
   rw[e1,e2]
   exact st'
  exact ⟨_,rfl,go_of (s:={ s with heap:=h',toks:=s.toks+1 }) (n := "range_iterator") st' rfl rfl (by decide) ⟨.int (lo+i),H,I1,⟨s.toks,by rw[Int.mul_one]⟩,⟨rfl,rfl⟩,st2,fun b hb=>(hf b hb).1⟩⟩
 done:=by
  intro X hP hw hK hc i pins s σ H E I hf st hg
  subst hP hw hK
  obtain ⟨f0,f1,f2,f3,f4,f5⟩:=hf it (by simp)
  obtain ⟨e,oe,ws,k1,_,k2,k3,k4⟩:=I.loud hc
  exact next_loud k1 k2 k3 k4 st (by have:n<=i:=hg;lia) fun h' eb=>⟨rfl,I.turned (t':=s.toks) (fun b o hb e=>eb b o hb e) f0 f1 f3 f4 f5⟩
 self:=fun _ _ _ _ _ st h=>wpAny_pyIter_rangeiter st h
section
variable {X : Cx} {tg : Expr}
theorem rangeL_it {pins:List (Addr × Obj)}{σ:St}{H:Hp}{s:Shared}{R:It->Hp->Prop}{E:Value->Shared->Prop}{lo hi:Int}{t u v:Tok}{tk:Nat}(I:Inv X pins σ H s) (h1:-(2 ^ 62)<=lo) (h2:lo < 2 ^ 62) (h3:-(2 ^ 62)<=hi) (h4:hi < 2 ^ 62)
  (q:R (Itr lo (hi - lo).toNat) H):wpAny (model X.prog X.w) X.A (pyIter (.ref s.heap.objs.size)) (PIEL X pins σ tg R) E { s with heap:=s.heap.push { cls:=.type "range",data:=.fields #[.int lo t,.int hi u,.int 1 v] },toks:=tk }:=by
 refine wpAny_pyIter_range (IsRange.new ..) (small_one h1 h2 h3 h4) ?_
 have I1:Inv X pins σ H { s with heap:=s.heap.push { cls:=.type "range",data:=.fields #[.int lo t,.int hi u,.int 1 v] },toks:=tk }:=I.kept fun b o e=>Heap.get?_push_of_some _ e
 refine ⟨(s.heap.push { cls:=.type "range",data:=.fields #[.int lo t,.int hi u,.int 1 v] }).objs.size,[(s.heap.push { cls:=.type "range",data:=.fields #[.int lo t,.int hi u,.int 1 v] }).objs.size],_,_,H,rfl,
  I1.kept (t':=tk) fun b o e=>Heap.get?_push_of_some _ e,turnL_range _ lo (hi - lo).toNat,?_,fun b hb=>?_,q⟩
 ·have e1:lo+((0:Nat):Int) * 1=lo:=by simp
  have e2:(((hi - lo).toNat:Nat):Int) - ((0:Nat):Int)=Builtin.Range.rangeSize lo hi 1:=by rw[rangeSize_one];split <;> lia
  show IsRangeIter _ _ (lo+((0:Nat):Int) * 1) ((((hi - lo).toNat:Nat):Int) - ((0:Nat):Int)) 1
  rw[e1,e2]
  exact Heap.get?_push_size _ rfl
 ·have e:b=(s.heap.push { cls:=.type "range",data:=.fields #[.int lo t,.int hi u,.int 1 v] }).objs.size:=by simpa using hb
  subst e
  exact I1.fpOk (Nat.le_refl _) (I1.hok.fresh (Nat.le_refl _))
theorem piL_range1 {a:Expr}{ta:TA}{p pos:Pos}(hg:Gl X "range") (hm:X.mg "range" = none) (ha:PA X [a] ta) (hs:starEach [a] X.env=[(false,eval a X.env)]:=by rfl):PIL X tg (.Call (.Name "range" p) [a] [] pos) (iRng1 ta):=by
 intro pins s σ H R I h
 refine Call_ (ld_blt I hg hm boot_range (PyProof.Rows.callWith_type1 (thn (ha pos pins s σ H _ I h) fun us s1 ⟨vs,H1,I1,r1,q1⟩=>?_) hs rfl))
 obtain ⟨j,e,q1,q2,q⟩:=q1
 subst e
 cases r1 with
 | cons r rr =>
  cases rr
  obtain ⟨t,rfl⟩:=r
  exact call_range_1 (rangeL_it I1 (by lia) (by lia) q1 q2 (by simpa using q))
end
structure CompL (X:Cx) (scope:Scope) (xs:List Str) (Xc:Cx):Prop where
 prog:Xc.prog=X.prog
 w:Xc.w=X.w
 K:Xc.K=X.K
 mg:Xc.mg=X.mg
 base:Xc.base=X.base
 A:Xc.A=X.A
 N:Xc.N=compN X.N xs
 sc:Xc.env.scope=relabel scope X.env
 stack:Xc.stack=X.stack
theorem compL_block {X:Cx}{elt iter tg:Expr}{xs:List Str}{g:TG}{un:V->Hp->List V->Prop}{ifs:List Expr}{scope:Scope}{pos:Pos}{tc:TT}{te:TE}{pins:List (Addr × Obj)}{σ:St}{s:Shared}{H:Hp}{Q:Value->Shared->Prop}{use:Option (Value->Sem Unit)}
  {D it:Addr}{fp:List Addr}{tn:Nat->Heap->Prop}{J:It}(B:BlockOk X scope xs) (hc:Loud X)
  (hpg:∀ Xc,CompL X scope xs Xc->(∀ x ∈ xs,Loc Xc.env.scope x/\(Xc.fn x=true\/Xc.env.scope.names.lookup x=some .local))->PG Xc tg g)
  (hun:∀ v H vs os,os.length=xs.length->un v H vs->vs.length=xs.length/\g v (σ++os) H fun σ2 H2=>σ2=σ++vs.map some/\H2=H)
  (hbody:∀ Xc,CompL X scope xs Xc->PTs Xc ifs tc/\PE Xc elt te)
  (I:Inv X pins σ H s) (T:TurnL X.prog X.w X.K tg J fp it tn) (st:tn 0 s.heap) (hfp:∀ b ∈ fp,FpOk X pins H b)
  (W:Nat->Nat->List V->Hp->Prop) (m0:Nat) (w0:W 0 m0 [] H)
  (turn:∀ i m ys H,W i m ys H->(J.stop i H/\∀ s' m' C,Inv X pins σ H s'->s'.heap.Ns C m'->s.heap.objs.size<=C->H C=none->compPost (model X.prog X.w) X.A X.xe use Q (.ref D) C (.ok .next) s') \/
   (J.go i H/\∀ v H',J.yld i H v H'->∃ vs,un v H' vs/\tc (σ++vs.map some) H' fun b H2=>if b=true then te (σ++vs.map some) H2 fun y H3=>H3 D=some (.lst ys)/\ys.length < sizeLine/\∃ m',m' < m/\W (i+1) m' (ys++[y]) (upd H3 D (.lst (ys++[y])))
    else ∃ m',m' < m/\W (i+1) m' ys H2)) :
  wpAny (model X.prog X.w) X.A (newFunctionEnv scope X.env.globals (clOf X.env scope.names []) [] X.env.qual none .none (some X.env)) (fun cenv s₄ =>
   codeAny (model X.prog X.w) X.A (.compStart (.ListComp elt [⟨tg,iter,ifs,0⟩] scope pos) 0 (.ref it) (.ref D) { cenv with scope:=relabel scope X.env }) (compPost (model X.prog X.w) X.A X.xe use Q (.ref D) cenv.locals) s₄) X.xe s:=by
 refine newBlockEnv ?_
 have hcl:∀ y ∈ scope.names,y.2=.free->∃ c,X.env.cells.lookup y.1=some c:=fun y hy hf=>by
  rcases B.free y hy hf with q | q
  ·exact I.ok.has y.1 (.inl q)
  ·exact I.ok.has y.1 (.inr q)
 -- the block's own parts
 generalize hC:s.heap.objs.size=C
 generalize hcs:cellsFrom (C+1) scope.names (clOf X.env scope.names [])=cs
 generalize hh4:pushCells (s.heap.push { cls:=.type "dict",data:=.dict #[] }) scope.names=h4
 have szP:(s.heap.push { cls:=.type "dict",data:=.dict #[] }).objs.size=C+1:=by rw[Heap.size_push,hC]
 have keep4:∀ b o,s.heap.get? b=some o->h4.get? b=some o:=fun b o e=>hh4 ▸ pushCells_keeps _ _ _ _ (Heap.get?_push_of_some _ e)
 have nsC:h4.Ns C (fun _=>none):=by
  have q:=(Heap.Ns.new s.heap (.type "dict")).keeps (pushCells_keeps scope.names (s.heap.push { cls:=.type "dict",data:=.dict #[] }))
  rw[hC,hh4] at q
  exact q
 -- a cell of the block: one of its own,or one of those around
 have csIn:∀ y c,cs.lookup y=some c->((y,NameKind.free) ∈ scope.names/\X.env.cells.lookup y=some c)\/(C+1<=c/\h4.IsCell c none/\(y,NameKind.cell) ∈ scope.names):=fun y c e=>by
  have q:=cf_in (y:=y) (c:=c) (names:=scope.names) (h:=s.heap.push { cls:=.type "dict",data:=.dict #[] }) (acc:=clOf X.env scope.names [])
  rw[szP,hcs,hh4] at q
  rcases q e with q | q
  ·rcases clOf_in hcl q with z | z
   ·cases z
   ·exact .inl z
  ·exact .inr q
 have oldC:∀ y c,X.env.cells.lookup y=some c->c < C:=fun y c e=>by
  obtain ⟨v,q⟩:=I.cell y c e
  rw[<- hC];exact q.lt
 have fpC:∀ b ∈ fp,b < C:=fun b hb=>by
  obtain ⟨o,e,_⟩:=T.obj _ _ st b hb
  rw[<- hC];exact Heap.lt_size e
 let cenv:Env:={ scope:=relabel scope X.env,locals:=C,globals:=X.env.globals,cells:=cs,qual:=X.env.qual,func:=none,code:=X.env.code,frame:=X.env.frame,builtins:=X.env.builtins }
 let RR:Result->Shared->Prop:=compPost (model X.prog X.w) X.A X.xe use Q (.ref D) C
 let Xc:Cx:={ X with N:=compN X.N xs,s₀:=s,H₀:=H,env:=cenv,outer:=X.stack,stack:=X.stack,ex:=fp,fn:=fun y=>decide (scope.names.lookup y=some .cell),calm:=false,pn:=[],xe:=notedBy (model X.prog X.w) X.A cenv fun e s'=>RR (.error e) s' }
 have hXc:CompL X scope xs Xc:=⟨rfl,rfl,rfl,rfl,rfl,rfl,rfl,rfl,rfl⟩
 obtain ⟨hT,hE⟩:=hbody Xc hXc
 have hL:Loud Xc:=by
  obtain ⟨e,oe,ws,k1,k2,_,k3,k4⟩:=I.loud hc
  exact ⟨e,oe,ws,k1,k2,k3,k4⟩
 have ok:Xc.Ok:=by
  refine ⟨I.ok.mod,B.kind,I.ok.glob,I.ok.blt,Nat.le_of_eq hC,?_,fun y hy=>?_,fun y c hf e=>?_,(fun z=>by cases z),I.ok.frames,.inl rfl,fun b hb=>⟨Nat.ne_of_lt (fpC b hb),fun y c e=>?_⟩,I.bs,Nat.le_trans I.ok.bsz I.sz,fun b o e hb=>?_,fun b hb hf=>?_,I.stack,I.stkFree⟩
  ·show ∀ y z c,cs.lookup y=some c->cs.lookup z=some c->y=z
   rw[<- hcs]
   refine cf_inj (fun y z c e1 e2=>?_) fun y c e=>?_
   ·rcases clOf_in hcl e1 with q | q
    ·cases q
    ·rcases clOf_in hcl e2 with q' | q'
     ·cases q'
     ·exact I.ok.inj y z c q.2 q'.2
   ·rcases clOf_in hcl e with q | q
    ·cases q
    ·exact Nat.lt_succ_of_lt (oldC y c q.2)
  ·have hy':(relabel scope X.env).names.lookup y=some .cell\/(relabel scope X.env).names.lookup y=some .free:=hy
   rw[relabel_lookup] at hy'
   show ∃ c,cs.lookup y=some c
   rw[<- hcs]
   refine Option.isSome_iff_exists.mp (PySem.W.cellsFrom_some _ _ _ ?_)
   cases hk:scope.names.lookup y with
   | none=>rw[hk] at hy';rcases hy' with z | z <;> cases z
   | some k =>
    rw[hk] at hy'
    have kk:k=.cell\/k=.free:=by
     simp only[Option.map_some] at hy'
     by_cases hcnd:(k == NameKind.free && X.env.scope.kind == .function && X.env.kindOf y == some .cell)=true
     ·refine .inr ?_
      have:=(Bool.and_eq_true_iff.mp (Bool.and_eq_true_iff.mp hcnd).1).1
      simpa using this
     ·rw[if_neg hcnd] at hy'
      rcases hy' with z | z
      ·exact .inl (Option.some.inj z)
      ·exact .inr (Option.some.inj z)
    rcases kk with rfl | rfl
    ·exact .inl rfl
    ·exact .inr (clOf_some (.inl (PySem.mem_of_lookup hk)))
  ·show s.heap.objs.size<=c
   rw[hC]
   have e':cs.lookup y=some c:=e
   rw[<- hcs] at e'
   exact Nat.le_trans (Nat.le_succ _) (cf_lo (lo:=C+1) (.inl (PySem.mem_of_lookup (of_decide_eq_true hf))) (Nat.le_refl _) e')
  ·show c ≠ b
   rintro rfl
   rcases csIn y c e with ⟨_,z⟩ | ⟨z,_,_⟩
   ·exact (hfp c hb).2.2.2.2.1 y c z rfl
   ·exact absurd (Nat.lt_of_lt_of_le (fpC c hb) (Nat.le_trans (Nat.le_succ _) z)) (Nat.lt_irrefl _)
  ·rcases (hfp b hb).2.2.2.1 with z | z
   ·exact I.ok.noex b o e z
   ·exact absurd (Nat.lt_of_lt_of_le (Heap.lt_size (I.ok.bs b o e).1) z) (Nat.lt_irrefl _)
  ·rcases List.mem_cons.mp (I.stkSub b hf) with z | z
   ·exact (hfp b hb).2.1 z
   ·exact (hfp b hb).2.2.1 z
 have frC:H C=none:=I.hok.fresh (Nat.le_of_eq hC)
 have frN:∀ c,C<=c->H c=none:=fun c hc'=>I.hok.fresh (by rw[hC];exact hc')
 have hσ:σ.length=X.N.length:=I.len
 have I4:Inv Xc [] (σ++xs.map fun _=>none) H { s with heap:=h4 }:=by
  refine ⟨ok,rfl,I.bare,Un.kept keep4,⟨_,nsC,fun i y v e1 e2 e3=>?_⟩,fun y c e=>?_,frC,fun y c e=>?_,fun p hp=>absurd (show p ∈ ([]:List (Addr × Obj)) from hp) (by simp),I.hok.kept keep4,?_⟩
  ·have hi:i < σ.length:=by
    by_cases hi:i < σ.length
    ·exact hi
    ·rw[List.getElem?_append_right (by lia),List.getElem?_map] at e2
     cases hz:xs[i - σ.length]? with
     | none=>rw[hz] at e2;simp at e2
     | some k=>rw[hz] at e2;simp at e2
   rw[List.getElem?_append_left hi] at e2
   have vis:scope.names.lookup y=some .local\/scope.names.lookup y=some .cell\/scope.names.lookup y=some .free:=by
    have e3':Vis (relabel scope X.env) y:=e3
    unfold Vis at e3'
    rw[relabel_lookup] at e3'
    cases hk:scope.names.lookup y with
    | none=>rw[hk] at e3';rcases e3' with z | z | z <;> cases z
    | some k =>
     rw[hk] at e3'
     simp only[Option.map_some] at e3'
     by_cases hcnd:(k == NameKind.free && X.env.scope.kind == .function && X.env.kindOf y == some .cell)=true
     ·have:=(Bool.and_eq_true_iff.mp (Bool.and_eq_true_iff.mp hcnd).1).1
      exact .inr (.inr (by rw[show k=.free by simpa using this]))
     ·rw[if_neg hcnd] at e3'
      exact e3'
   rcases compN_old (by rw[<- hσ];exact hi) e1 with z | ⟨z,zx⟩
   ·obtain ⟨x,hx,z⟩:=z
    subst z
    rw[B.dumN x hx] at vis
    rcases vis with q | q | q <;> cases q
   ·have hfree:scope.names.lookup y=some .free:=by
     rcases vis with q | q | q
     ·exact absurd q (B.alone y (List.mem_of_getElem? z) zx).1
     ·exact absurd q (B.alone y (List.mem_of_getElem? z) zx).2
     ·exact q
    have kout:=B.free _ (PySem.mem_of_lookup hfree) rfl
    obtain ⟨m,hn,hl⟩:=I.loc
    obtain ⟨u,r,l⟩:=hl i y v z e2 (kout.elim (fun q=>.inr (.inl q)) fun q=>.inr (.inr q))
    refine ⟨u,r,?_⟩
    rcases l with ⟨k,_⟩ | ⟨_,c,ec,zc⟩
    ·have k':X.env.scope.names.lookup y=some .local:=k
     rcases kout with q | q <;> rw[k'] at q <;> cases q
    ·have hsome:∃ c',cs.lookup y=some c':=ok.has y (by
      show (relabel scope X.env).names.lookup y=some .cell\/(relabel scope X.env).names.lookup y=some .free
      rw[relabel_lookup,hfree]
      simp only[Option.map_some]
      split
      ·exact .inl rfl
      ·exact .inr rfl)
     obtain ⟨c',ec'⟩:=hsome
     refine .inr ⟨?_,c',ec',?_⟩
     ·show (relabel scope X.env).names.lookup y=some .cell\/(relabel scope X.env).names.lookup y=some .free
      rw[relabel_lookup,hfree]
      simp only[Option.map_some]
      split
      ·exact .inl rfl
      ·exact .inr rfl
     ·rcases csIn y c' ec' with ⟨_,q⟩ | ⟨_,_,q⟩
      ·rw[ec] at q;cases q
       exact zc.keeps keep4
      ·exact absurd hfree (B.one (y,.cell) q rfl)
  ·rcases csIn y c e with ⟨_,q⟩ | ⟨_,q,_⟩
   ·obtain ⟨v,z⟩:=I.cell y c q
    exact ⟨v,z.keeps keep4⟩
   ·exact ⟨_,q⟩
  ·rcases csIn y c e with ⟨_,q⟩ | ⟨q,_,_⟩
   ·exact I.freeC y c q
   ·exact frN c (by lia)
  ·show (σ++xs.map fun _=>none).length=(compN X.N xs).length
   rw[compN_len,List.length_append,hσ,List.length_map]
 -- the loop
 have hLoc:∀ x ∈ xs,Loc Xc.env.scope x/\(Xc.fn x=true\/Xc.env.scope.names.lookup x=some .local):=fun x hx=>by
  constructor
  ·show (relabel scope X.env).names.lookup x=some .local\/(relabel scope X.env).names.lookup x=some .cell
   rw[relabel_lookup]
   rcases B.own x hx with q | q <;> rw[q]
   ·exact .inl rfl
   ·exact .inr rfl
  ·rcases B.own x hx with q | q
   ·refine .inr ?_
    show (relabel scope X.env).names.lookup x=some .local
    rw[relabel_lookup,q];rfl
   ·exact .inl (decide_eq_true q)
 have hg:PG Xc tg g:=hpg Xc hXc hLoc
 have fpX:∀ {H':Hp},(∀ b ∈ fp,H' b=none)->∀ b ∈ fp,FpOk Xc [] H' b:=fun hn b hb =>
  ⟨hn b hb,Nat.ne_of_lt (fpC b hb),fun z=>ok.exfs b hb z,.inl hb,fun y c e=>(ok.exf b hb).2 y c e,fun p hp=>absurd (show p ∈ ([]:List (Addr × Obj)) from hp) (by simp)⟩
 have loop:codeAny (model X.prog X.w) X.A (.compLoop (.ListComp elt [⟨tg,iter,ifs,0⟩] scope pos) 0 (.ref it) (.ref D) cenv) RR { s with heap:=h4 }:=by
  refine compLoop_any (fun n s'=>∃ i os ys H',os.length=xs.length/\Inv Xc [] (σ++os) H' s'/\tn i s'.heap/\(∀ b ∈ fp,H' b=none)/\W i n ys H') ?_ m0 ⟨0,_,[],H,List.length_map _,I4,T.keep _ _ _ st fun b _ o e=>keep4 b o e,fun b hb=>(hfp b hb).1,w0⟩
  rintro n s3 ⟨i,os,ys,H3,hos,I3,st3,fr3,w3⟩
  rcases turn i n ys H3 w3 with ⟨stop,fin⟩ | ⟨go,step⟩
  ·refine thn (T.done Xc rfl rfl rfl hL i [] s3 (σ++os) H3 Xc.xe I3 (fpX fr3) st3 stop) fun r s4 ⟨hr,I4⟩=>?_
   subst hr
   obtain ⟨m,hn,_⟩:=id I4.loc
   refine fin s4 m C ?_ hn (Nat.le_of_eq hC) I4.free
   exact I.call' (ch:=fp) I4.os I4.base I4.hok I4.bare fun b hb=>⟨(hfp b hb).2.2.2.1,(hfp b hb).2.1,(hfp b hb).2.2.2.2.1,(hfp b hb).2.2.2.2.2⟩
  ·refine thn (T.item Xc rfl rfl rfl hL i [] s3 (σ++os) H3 Xc.xe I3 (fpX fr3) st3 go) fun r s4 ⟨u,hr,h4'⟩=>?_
   subst hr
   refine thn h4' fun _ s5 ⟨v,H5,I5,r5,y5,st5,fr5⟩=>?_
   have I5':=I5.pinned (fpX fr5) (T.obj _ _ st5)
   obtain ⟨vs,hvs,step5⟩:=step v H5 y5
   obtain ⟨hvl,hset⟩:=hun v H5 vs os hos hvs
   refine thn (hg _ s5 (σ++os) H5 v u (fun σ2 H2=>σ2=σ++vs.map some/\H2=H5) I5' r5 hset) fun _ s6 ⟨σ6,H6,I6,e6,e6'⟩=>?_
   subst e6;subst e6'
   have back:∀ {H7:Hp}{s7:Shared},Inv Xc ([]++pinsAt fp s5.heap) (σ++vs.map some) H7 s7->tn (i+1) s7.heap/\(∀ b ∈ fp,H7 b=none)/\Inv Xc [] (σ++vs.map some) H7 s7:=fun {H7 s7} I7=>by
    refine ⟨T.keep _ _ _ st5 fun b hb ob e=>(I7.pin (b,ob) (List.mem_append_right _ (List.mem_append_right _ (mem_pinsAt hb e)))).1,fun b hb=>?_,I7.unpinned⟩
    obtain ⟨ob,e,_⟩:=T.obj _ _ st5 b hb
    exact (I7.pin (b,ob) (List.mem_append_right _ (List.mem_append_right _ (mem_pinsAt hb e)))).2.1
   refine thn (hT _ s6 (σ++vs.map some) H6 _ I6 step5) fun b s7 ⟨H7,I7,q7⟩=>?_
   cases b with
   | false =>
    rw[if_neg Bool.false_ne_true] at q7 ⊢
    obtain ⟨m',hm,w7⟩:=q7
    obtain ⟨t1,t2,t3⟩:=back I7
    exact ⟨m',hm,i+1,_,ys,H7,(by rw[List.length_map];exact hvl),t3,t1,t2,w7⟩
   | true =>
    rw[if_pos rfl] at q7 ⊢
    refine thn (hE _ s7 (σ++vs.map some) H7 _ I7 q7) fun yv s8 ⟨y,H8,I8,r8,hD8,hl8,m',hm,w8⟩=>?_
    refine thn (mt_append (X:=Xc) _ s8 (σ++vs.map some) H8 (.ref D) [y] (.ref D) [yv] (fun _ H9=>H9=upd H8 D (.lst (ys++[y]))) I8 rfl (.cons r8 .nil) ⟨D,ys,y,rfl,rfl,hD8,hl8,rfl⟩) fun _ s9 ⟨_,H9,I9,_,e9⟩=>?_
    subst e9
    obtain ⟨t1,t2,t3⟩:=back I9
    exact ⟨m',hm,i+1,_,ys++[y],_,(by rw[List.length_map];exact hvl),t3,t1,t2,w8⟩
 refine codeAny_compStart_list loop ?_
 exact T.self X.A 0 _ _ _ (T.keep _ _ _ st fun b _ o e=>keep4 b o e) loop
section
variable {X : Cx} {elt iter tg : Expr} {xs : List Str} {y : Str} {g : TG} {un : V -> Hp -> List V -> Prop} {py : Pos} {ifs : List Expr} {scope : Scope} {pos spos : Pos} {wi : TI} {tc : TT} {te : TE}
structure TgtL (X:Cx) (scope:Scope) (xs:List Str) (tg:Expr) (g:TG) (un:V->Hp->List V->Prop):Prop where
 pg:∀ Xc,CompL X scope xs Xc->(∀ x ∈ xs,Loc Xc.env.scope x/\(Xc.fn x=true\/Xc.env.scope.names.lookup x=some .local))->PG Xc tg g
 un:∀ v H vs os (σ:St),σ.length=X.N.length->os.length=xs.length->un v H vs->vs.length=xs.length/\g v (σ++os) H fun σ2 H2=>σ2=σ++vs.map some/\H2=H
theorem tgtL_one {x:Str}{px:Pos}(B:BlockOk X scope [x]):TgtL X scope [x] (.Name x px) (gName X.N.length) un1:=by
 refine ⟨fun Xc c h=>?_,fun v H vs os σ hσ ho hv=>?_⟩
 ·exact pg_name (by rw[c.N];exact B.nd) (by rw[c.N];exact compN_last X.N [x] 0) (h x (by simp)).1 (h x (by simp)).2
 ·cases hv
  refine ⟨rfl,?_,rfl⟩
  obtain ⟨o,rfl⟩:=one_in ho
  rw[<- hσ,List.set_append_right _ _ (Nat.le_refl _)]
  simp
theorem peL_comp (B:BlockOk X scope xs) (hc:Loud X) (hT:TgtL X scope xs tg g un) (hi:PIL X tg iter wi) (hbody:∀ Xc,CompL X scope xs Xc->PTs Xc ifs tc/\PE Xc elt te)
  (hs:∀ v,foldedSetIterable iter X.env v=pure v:=by intro _;rfl):PE X (.ListComp elt [⟨tg,iter,ifs,0⟩] scope pos) (tComp un wi tc te):=by
 intro pins s σ H Q I h
 rw[eval_ListComp]
 refine wpAny_comprehension_free (use:=none) (cl:=clOf X.env scope.names []) rfl hs (block_closure B I.ok) B.kind B.locs ?_
 refine thn (hi pins s σ H _ I h) fun xv s1 h1=>thn h1 fun itv s2 h2=>?_
 obtain ⟨it,fp,tn,J,H2,e,I2,T,st2,f2,q2⟩:=h2
 subst e
 refine wpAny_newObj_type ?_
 have I3:=I2.lnew (its:=[]) (ys:=[]) (t':=s2.toks) .nil (Nat.zero_le _)
 obtain ⟨W,⟨m0,w0⟩,turn⟩:=q2 s2.heap.objs.size (I2.hok.fresh (Nat.le_refl _))
 have fp3:∀ b ∈ fp,FpOk X pins (upd H2 s2.heap.objs.size (.lst [])) b:=fun b hb=>by
  obtain ⟨o,e,_⟩:=T.obj _ _ st2 b hb
  exact ⟨by rw[upd_ne (Nat.ne_of_lt (Heap.lt_size e))];exact (f2 b hb).1,(f2 b hb).2⟩
 obtain ⟨b1,b2,b3⟩:=I3.below
 refine compL_block B hc hT.pg (fun v H vs os h1 h2=>hT.un v H vs os σ I.len h1 h2) hbody I3 T (T.keep _ _ _ st2 fun b _ o e=>Heap.get?_push_of_some _ e) fp3 W m0 w0 fun i m ys H4 w=>?_
 rcases turn i m ys H4 w with ⟨stop,q⟩ | r
 ·exact .inl ⟨stop,fun s' m' C I' hn hC hCn=>⟨m',hn,fun h' hsb=>⟨.ref s2.heap.objs.size,H4,I'.aside hC b1 b2 b3 hCn hsb,rfl,q⟩⟩⟩
 ·exact .inr r
end
end L2
namespace L2
open PySem PySem.Spec PySem.Calls PyProof.Rows PySem.W
def LoudH (A:Around) (H:Hp):Prop:=∃ (e:Addr) (oe:Obj) (ws:Array Value),A.handled=some (.ref e)/\H e=some (exO oe)/\oe.data=.fields ws/\ws[2]?=some .none
structure FnL (P:Program) (w:World) (K:PySem.W.Frag) (mg:Str->Option Value) (base:Heap) (f:Addr) (fd:FuncData) (ps:List Str) (sp:Sp):Prop where
 len:∀ vs H Q E,sp vs H Q E->vs.length=ps.length
 run:∀ (A:Around) (outer:List Env) (s:Shared) (H:Hp) (args:Args) (us:List Value) (vs:List V) (Q:VK) (E:XK),A.depth < recursionLimit->LoudH A H->Env0 P w K mg base A outer s H->BindsTo s fd args (ps.zip us)->Vals vs us->sp vs H Q E ->
  codeAny (model P w) A (.call (.ref f) args) (CR CX0 outer P w H s Q E) s
theorem fnL_of {P:Program}{w:World}{K:PySem.W.Frag}{mg:Str->Option Value}{base:Heap}{f:Addr}{name qual:Str}{params:Arguments}{body:List Stmt}{scope:Scope}{dV kV doc pm cdv ct oc:Value}{an od:Option Addr}
  {osl:Array (Option Value)}{N ps:List Str}{sp:Sp}(lk:K.lookup f=some ⟨oc,od,.func (PySem.W.fnOf name qual params body scope dV kV doc pm an cdv ct),osl⟩) (hcd:PySem.W.codeIn K cdv qual=true) (S:FnScope N ps scope)
  (len:∀ vs H Q E,sp vs H Q E->vs.length=ps.length)
  (hbody:∀ (A:Around) (outer:List Env) (s:Shared) (H:Hp) (vs:List V) (Q:VK) (E:XK),Loud (cxOf CX0 P w K mg base N qual scope f cdv A outer s H E).loud->sp vs H Q E ->
   ∃ t,PSs (cxOf CX0 P w K mg base N qual scope f cdv A outer s H E).loud body t/\t { nx:=fun _ H'=>Q .non H',rt:=Q } (start N vs) H) :
  FnL P w K mg base f (PySem.W.fnOf name qual params body scope dV kV doc pm an cdv ct) ps sp:=by
 refine ⟨len,fun A outer s H args us vs Q E hr hLd e0 hb r hsp=>?_⟩
 have hl:=len _ _ _ _ hsp
 have KX:K.In s.heap:=e0.mod.kin.keeps fun b o e=>(e0.bs b o e).1
 have lim:s.heap.NoLimit:=e0.mod.nolimit.keeps fun b o e=>(e0.bs b o e).1
 have hkind:∀ y ∈ ps.zip us,scope.names.lookup y.1=some .local\/(scope.names.lookup y.1=some .cell/\((cellsFrom (s.heap.objs.size+1) scope.names []).lookup y.1).isSome=true):=fun ⟨n,v⟩ hy=>by
  rcases S.par n (List.of_mem_zip hy).1 with q | q
  ·exact .inl q
  ·exact .inr ⟨q,PySem.W.cellsFrom_some _ _ _ (.inl q)⟩
 refine codeAny_call_function hr (KX _ _ lk) rfl S.co S.gen rfl (PySem.W.codeRec_of KX hcd) (hb _ _ _ _ ?_)
 refine wpAny_newFunctionEnv_cells S.kind hkind fun env he s1 x=>?_
 subst he
 refine ⟨lim.keeps x.toInCall.keep,codeAny_func ?_⟩
 obtain ⟨t,ht,hq⟩:=hbody A outer s H vs Q E hLd hsp
 have e1:Env0 P w K mg base { A with handled:=none } outer s H:=⟨e0.frames,e0.mod,e0.bs,e0.bsz,e0.funs,e0.frf,e0.hok,e0.bare⟩
 have I0:Inv (cxOf CX0 P w K mg base N qual scope f cdv { A with handled:=none } outer s H E) [] (start N vs) H s1:=inv_start S rfl e1 hl r x
 have I:Inv (cxOf CX0 P w K mg base N qual scope f cdv A outer s H E).loud [] (start N vs) H s1 :=
  ⟨⟨I0.ok.mod,I0.ok.kind,I0.ok.glob,I0.ok.blt,I0.ok.above,I0.ok.inj,I0.ok.has,I0.ok.cab,(fun z=>by cases z),Around.frames_deeper e0.frames,I0.ok.stk,I0.ok.exf,I0.ok.bs,I0.ok.bsz,I0.ok.noex,I0.ok.exfs,I0.ok.funs,I0.ok.frf⟩,I0.os,I0.bare,I0.base,I0.loc,I0.cell,I0.free,I0.freeC,I0.pin,I0.hok,I0.len⟩
 refine wpAny_mono (ht [] s1 (start N vs) H _ I hq) (fun fl s' hs=>?_) fun e s' hs=>hs
 have fin:∀ {σ':St}{H':Hp}{v:V}{u:Value},Inv (cxOf CX0 P w K mg base N qual scope f cdv A outer s H E).loud [] σ' H' s'->RelV v u->Q v H'->CE outer P w H s Q u s' :=
  fun {σ' H' v u} J rv q=>⟨v,H',J.os,J.bare,J.base,J.hok,rv,q⟩
 cases fl with
 | ret u =>
  obtain ⟨v,σ',H',J,rv,q⟩:=hs
  exact fin J rv q
 | next =>
  obtain ⟨σ',H',J,q⟩:=hs
  exact fin (v:=V.non) (u:=Value.none) J rfl q
 | brk =>
  obtain ⟨_,_,_,q⟩:=hs
  exact False.elim q
 | cont =>
  obtain ⟨_,_,_,q⟩:=hs
  exact False.elim q
theorem pe_callL {X:Cx}{f:Addr}{fd:FuncData}{ps:List Str}{sp:Sp}{E:XK}{x:Str}{p pos:Pos}{e:Expr}{t:TA}(F:FnL X.prog X.w X.K X.mg X.base f fd ps sp) (hr:X.A.depth < recursionLimit) (hg:Gl X x) (hm:X.mg x=some (.ref f)) (hk:PySem.W.keepIn X.K (.ref f)=true) (hb:Binds X.K fd ps [])
  (ha:PA X [e] t) (hdb:(x == ("__debug__" : Str))=false:=by decide) (he:starEach [e] X.env=(false,eval e X.env)::starEach [] X.env:=by rfl) :
  PE X (.Call (.Name x p) [e] [] pos) (fun σ H Q=>t σ H fun vs H1=>LoudH X.A H1/\sp vs H1 Q E):=by
 intro pins s σ H Q I h
 refine wpAny_Call_Name_kw (ld_glob I hg hm ?_ hdb)
 refine PySem.W.callWith_K (h₀:=X.base) I.ok.mod.kin hk (thn (ha pos pins s σ H _ I h) fun us s1 ⟨vs,H1,I1,r,hl0,q⟩=>⟨I1.kIn,?_⟩) he rfl
 have hl:us.length=ps.length:=by rw[<- r.length];exact F.len _ _ _ _ q
 have hbb:BindsTo s1 fd ⟨us,[]⟩ (ps.zip us):=by
  have z:=hb s1 us I1.kIn (by rw[List.append_nil];exact hl)
  rw[List.append_nil] at z
  exact z
 refine wpAny_call (codeAny_mono (F.run X.A X.stack s1 H1 ⟨us,[]⟩ us vs Q E hr hl0 I1.env0 hbb r q) fun r s' hq=>?_)
 cases r with
 | error e=>exact False.elim hq
 | ok fl =>
  cases fl with
  | ret u=>exact I1.after hq
  | next=>exact False.elim hq
  | brk=>exact False.elim hq
  | cont=>exact False.elim hq
end L2
namespace L2
open PySem PySem.Spec PyProof.Rows
section
variable {X : Cx}
end
end L2
namespace Mini
inductive Wd where
 | non | bl (b:Bool) | int (i:Int) | str (s:List Nat) | tup (xs:List Wd) | rol (xs:List Wd) | ref (l:Nat)
deriving Inhabited
set_option genInjectivity false in
inductive Ob where
 | lst (xs:List Wd) | dct (kvs:List (Wd × Wd))
deriving Inhabited
abbrev Me:=List Ob
abbrev En:=List (Option Wd)
set_option genInjectivity false in
inductive Rz where
 | ok (w:Wd) (m:Me) | exc (c:Nat) (w:Wd) (m:Me) | no
deriving Inhabited
set_option genInjectivity false in
inductive Rs where
 | next (e:En) (m:Me) | ret (w:Wd) (m:Me) | brk (e:En) (m:Me) | cont (e:En) (m:Me)
 | exc (c:Nat) (w:Wd) (e:En) (m:Me) | no
deriving Inhabited
inductive Bo where | add | sub | mul | fdiv | mod | pow
deriving DecidableEq
inductive Co where | eq | ne | lt | le | gt | ge | isN | notN | isin | notin
deriving DecidableEq
inductive Tg where | int | bool | list | tuple | str | dict
deriving DecidableEq
inductive Blf where | len | int | bool | list | tuple | sum | all | abs | min2 | max2 | minS | maxS
deriving DecidableEq
inductive Mth where | append | extend | pop | reverse | clear | insert
deriving DecidableEq
inductive Kd where | zip | enum
deriving DecidableEq
set_option genInjectivity false in
inductive Ex where
 | var (i:Nat) | lit (w:Wd)
 | bin (op:Bo) (a b:Ex) | neg (a:Ex) | not (a:Ex) | and (a b:Ex) | or (a b:Ex)
 | cmp (op:Co) (a b:Ex) | chain (p q:Co) (a b c:Ex) | ife (c a b:Ex)
 | unit | pair (a b:Ex)
 | call (k:Nat) (args:Ex) | blt (b:Blf) (args:Ex) | isi (t:Tg) (a:Ex)
 | lst (args:Ex) | tup (args:Ex) | dict0
 | idx (a b:Ex) | slL (a lo:Ex) | slH (a hi:Ex) | slB (a lo hi:Ex)
 | meth (n:Mth) (o args:Ex)
 | rng (a b c:Ex)
 | comp (elt it cond:Ex)
 | lrng (a:Ex)
 | compP (k:Kd) (elt a b cond:Ex)
deriving Inhabited
set_option genInjectivity false in
inductive Sm where
 | skip | seq (a b:Sm)
 | asg (i:Nat) (e:Ex) | asgS (o i e:Ex) | swapS (o i p j a b:Ex) | aug (i:Nat) (op:Bo) (e:Ex) | augS (o i:Ex) (op:Bo) (e:Ex)
 | ite (c:Ex) (a b:Sm) | forv (i:Nat) (it:Ex) (body:Sm) | fort (i j:Nat) (it:Ex) (body:Sm) | while (c:Ex) (body:Sm)
 | ret (e:Ex) | retN | expr (e:Ex) | brk | cont | never
 | forA (i j:Nat) (c:Int)
 | forZ (i j:Nat) (a b:Ex) (body:Sm)
 | forC (i j:Nat)
 | forS (i j k:Nat) (c:Int)
 | appPop (j a x:Nat) (e:Ex)
 | unp3 (i j k:Nat) (e:Ex)
 | popV (i j:Nat)
 | forE (i j:Nat) (a:Ex) (body:Sm)
 | swapI (j:Nat) (i k a b:Ex)
 | popI (j:Nat) (e:Ex) (a b:Sm)
deriving Inhabited
noncomputable def lim:Nat:=100000
noncomputable def big:Int:=18446744073709551616
noncomputable def small (i:Int):Bool:=decide (-big < i) && decide (i < big)
noncomputable def eqL (p:Wd->Wd->Option Bool):List Wd->List Wd->Option Bool
 | x::xs,y::ys=>match p x y with
  | some a=>(eqL p xs ys).map (a && ·)
  | none=>none
 | _,_=>some true
noncomputable def b2i (b:Bool):Int:=if b then 1 else 0
noncomputable def isLst (m:Me) (l:Nat):Bool:=match m[l]? with
 | some (.lst _)=>true
 | _=>false
noncomputable def notRol:Wd->Bool
 | .rol _=>false
 | _=>true
noncomputable def eqW (m:Me):Nat->Wd->Wd->Option Bool
 | 0,_,_=>none
 | k+1,x,y=>match x,y with
  | .tup a,.tup b=>(eqL (eqW m k) a b).map (· && decide (a.length=b.length))
  | .ref a,.ref b=>if a=b then (if isLst m a then some true else none) else match m[a]?,m[b]? with
   | some (.lst xs),some (.lst ys)=>if xs.length=ys.length then eqL (eqW m k) xs ys else some false
   | _,_=>none
  | .ref a,y=>if isLst m a && notRol y then some false else none
  | x,.ref b=>if isLst m b && notRol x then some false else none
  | .rol _,_=>none
  | _,.rol _=>none
  | .non,.non=>some true
  | .bl a,.bl b=>some (a == b)
  | .int a,.int b=>some (decide (a=b))
  | .bl a,.int b=>some (decide (b2i a=b))
  | .int a,.bl b=>some (decide (a=b2i b))
  | .str a,.str b=>some (decide (a=b))
  | _,_=>some false
noncomputable def deep:Nat:=12
noncomputable def inL (p:Wd->Wd->Option Bool) (x:Wd):List Wd->Option Bool
 | []=>some false
 | y::ys=>match p y x with
  | some a=>(inL p x ys).map (a || ·)
  | none=>none
noncomputable def ix (n:Nat) (i:Int):Option Nat :=
 if 0<=i then (if i < n then some i.toNat else none) else if -(n:Int)<=i then some (i+n).toNat else none
noncomputable def alloc (m:Me) (xs:List Wd):Rz:=if xs.length<=lim then .ok (.ref m.length) (m++[.lst xs]) else .no
noncomputable def lstAt (m:Me) (l:Nat):Option (List Wd):=match m[l]? with
 | some (.lst xs)=>some xs
 | _=>none
noncomputable def seqOf (m:Me):Wd->Option (List Wd)
 | .tup xs=>some xs
 | .rol xs=>some xs
 | .ref l=>lstAt m l
 | _=>none
noncomputable def bop (op:Bo) (x y:Wd) (m:Me):Rz:=match x,y with
 | .int i,.int j=>match op with
  | .add=>.ok (.int (i+j)) m
  | .sub=>.ok (.int (i - j)) m
  | .mul=>if small i || small j then .ok (.int (i * j)) m else .no
  | .fdiv=>if 0 < j/\j < 1073741824 then .ok (.int (i / j)) m else .no
  | .mod=>if 0 < j then .ok (.int (i % j)) m else .no
  | .pow=>if 0<=j/\j<=1000000/\small i=true then .ok (.int (i ^ j.toNat)) m else .no
 | .ref a,.ref b=>match op,m[a]?,m[b]? with
  | .add,some (.lst xs),some (.lst ys)=>alloc m (xs++ys)
  | _,_,_=>.no
 | .ref a,.int k=>match op,m[a]? with
  | .mul,some (.lst xs)=>if -lim<=k/\k<=lim then alloc m (List.replicate k.toNat xs).flatten else .no
  | _,_=>.no
 | .tup xs,.tup ys=>match op with
  | .add=>if xs.length+ys.length<=lim/\xs.isEmpty=false then .ok (.tup (xs++ys)) m else .no
  | _=>.no
 | _,_=>.no
noncomputable def ofB (o:Option Bool) (m:Me):Rz:=match o with
 | some b=>.ok (.bl b) m
 | none=>.no
noncomputable def cmpII (r:Int->Int->Bool) (x y:Wd) (m:Me):Rz:=match x,y with
 | .int i,.int j=>.ok (.bl (r i j)) m
 | _,_=>.no
noncomputable def cop (op:Co) (x y:Wd) (m:Me):Rz:=match op with
 | .eq=>ofB (eqW m deep x y) m
 | .ne=>ofB ((eqW m deep x y).map (!·)) m
 | .isN=>match y,x with
  | .non,.non=>.ok (.bl true) m
  | .non,_=>.ok (.bl false) m
  | _,_=>.no
 | .notN=>match y,x with
  | .non,.non=>.ok (.bl false) m
  | .non,_=>.ok (.bl true) m
  | _,_=>.no
 | .isin=>match seqOf m y with
  | some ys=>ofB (inL (eqW m deep) x ys) m
  | none=>.no
 | .notin=>match seqOf m y with
  | some ys=>ofB ((inL (eqW m deep) x ys).map (!·)) m
  | none=>.no
 | .lt=>cmpII (fun i j=>decide (i < j)) x y m
 | .le=>cmpII (fun i j=>decide (i<=j)) x y m
 | .gt=>cmpII (fun i j=>decide (j < i)) x y m
 | .ge=>cmpII (fun i j=>decide (j<=i)) x y m
noncomputable def isT (t:Tg) (x:Wd) (m:Me):Option Bool:=match t,x with
 | .int,.int _=>some true
 | .int,.bl _=>some true
 | .bool,.bl _=>some true
 | .str,.str _=>some true
 | .tuple,.tup _=>some true
 | .list,.rol _=>some true
 | t,.ref l=>match m[l]? with
  | some (.lst _)=>some (decide (t=.list))
  | some (.dct _)=>some (decide (t=.dict))
  | none=>none
 | _,_=>some false
noncomputable def sIx (n d:Nat):Option Int->Nat
 | none=>d
 | some v=>if v < 0 then (v+(n:Int)).toNat else min v.toNat n
noncomputable def sumL:List Wd->Option Int
 | []=>some 0
 | .int i::r=>(sumL r).map (i+·)
 | _=>none
noncomputable def allL:List Wd->Option Bool
 | []=>some true
 | .bl b::r=>(allL r).map (b && ·)
 | _=>none
noncomputable def lsOf (m:Me):Wd->Option (List Wd)
 | .rol xs=>some xs
 | .ref l=>lstAt m l
 | _=>none
noncomputable def bltR (b:Blf) (ws:List Wd) (m:Me):Rz:=match b with
 | .len=>match ws with
  | [x]=>match seqOf m x with
   | some xs=>.ok (.int xs.length) m
   | none=>.no
  | _=>.no
 | .int=>match ws with
  | [.int i]=>.ok (.int i) m
  | [.bl b]=>.ok (.int (b2i b)) m
  | _=>.no
 | .list=>match ws with
  | [x]=>match seqOf m x with
   | some xs=>alloc m xs
   | none=>.no
  | _=>.no
 | .tuple=>match ws with
  | [x]=>match seqOf m x with
   | some xs=>.ok (.tup xs) m
   | none=>.no
  | _=>.no
 | .sum=>match ws with
  | [x]=>match (lsOf m x).bind sumL with
   | some i=>.ok (.int i) m
   | none=>.no
  | _=>.no
 | .all=>match ws with
  | [x]=>match (lsOf m x).bind allL with
   | some i=>.ok (.bl i) m
   | none=>.no
  | _=>.no
 | .abs=>match ws with
  | [.int i]=>.ok (.int (if i < 0 then -i else i)) m
  | _=>.no
 | .max2=>match ws with
  | [.int i,.int j]=>.ok (.int (if j > i then j else i)) m
  | _=>.no
 | .min2=>match ws with
  | [.int i,.int j]=>.ok (.int (if j < i then j else i)) m
  | _=>.no
 | _=>.no
noncomputable def mtR (n:Mth) (o:Wd) (ws:List Wd) (m:Me):Rz:=match o with
 | .ref l=>match m[l]? with
  | some (.lst xs)=>match n,ws with
   | .append,[y]=>if xs.length < lim then .ok .non (m.set l (.lst (xs++[y]))) else .no
   | .extend,[.ref k]=>match m[k]? with
    | some (.lst ys)=>if xs.length+ys.length<=lim then .ok .non (m.set l (.lst (xs++ys))) else .no
    | _=>.no
   | .pop,[]=>match xs[xs.length - 1]? with
    | some y=>.ok y (m.set l (.lst xs.dropLast))
    | none=>.no
   | .reverse,[]=>.ok .non (m.set l (.lst xs.reverse))
   | .pop,[.int k]=>if k=0 then match xs with
    | y::r=>.ok y (m.set l (.lst r))
    | []=>.no
    else .no
   | .insert,[.int k,y]=>if k=0/\xs.length < lim then .ok .non (m.set l (.lst (y::xs))) else .no
   | .clear,[]=>.ok .non (m.set l (.lst []))
   | _,_=>.no
  | _=>.no
 | _=>.no
noncomputable def setR (o i v:Wd) (m:Me):Rz:=match o,i with
 | .ref l,.int k=>match m[l]? with
  | some (.lst xs)=>match ix xs.length k with
   | some j=>.ok .non (m.set l (.lst (xs.set j v)))
   | none=>.no
  | _=>.no
 | _,_=>.no
noncomputable def idxR (x y:Wd) (m:Me):Rz:=match y with
 | .int i=>match seqOf m x with
  | some xs=>match (ix xs.length i).bind fun j=>xs[j]? with
   | some v=>.ok v m
   | none=>.no
  | none=>.no
 | _=>.no
noncomputable def slR (x:Wd) (lo hi:Option Int) (m:Me):Rz:=match lsOf m x with
 | some xs=>alloc m ((xs.drop (sIx xs.length 0 lo)).take (sIx xs.length xs.length hi - sIx xs.length 0 lo))
 | none=>.no
noncomputable def rngL (lo st:Int):Nat->List Wd
 | 0=>[]
 | n+1=>.int lo::rngL (lo+st) st n
noncomputable def rngN (a b c:Int):Nat:=if c=1 then (b - a).toNat else if c=-1 then (a - b).toNat else 0
noncomputable def rngR (a b c:Wd) (m:Me):Rz:=match a,b,c with
 | .int a,.int b,.int c=>if -lim<=a/\a<=lim/\-lim<=b/\b<=lim/\(c=1\/c=-1) then .ok (.tup (rngL a c (rngN a b c))) m else .no
 | _,_,_=>.no
noncomputable def Rz.bind (r:Rz) (f:Wd->Me->Rz):Rz:=match r with
 | .ok w m=>f w m
 | r=>r
noncomputable def compL (c e:Wd->Me->Rz):List Wd->List Wd->Me->Rz
 | [],acc,m=>alloc m acc
 | x::xs,acc,m=>(c x m).bind fun b m1=>match b with
  | .bl true=>(e x m1).bind fun y m2=>if acc.length < lim then compL c e xs (acc++[y]) m2 else .no
  | .bl false=>compL c e xs acc m1
  | _=>.no
noncomputable def compR (c e:Wd->Me->Rz) (l:Nat):Nat->Nat->List Wd->Me->Rz
 | 0,_,_,_=>.no
 | k+1,i,acc,m=>match lstAt m l with
  | none=>.no
  | some xs=>match xs[i]? with
   | none=>alloc m acc
   | some x=>(c x m).bind fun b m1=>match b with
    | .bl true=>(e x m1).bind fun y m2=>if acc.length < lim then compR c e l k (i+1) (acc++[y]) m2 else .no
    | .bl false=>compR c e l k (i+1) acc m1
    | _=>.no
noncomputable def pairAt (k:Kd) (x y:Wd) (i:Nat) (m:Me):Option (Option (Wd × Wd)):=match k,x,y with
 | .zip,.ref la,.ref lb=>match lstAt m la,lstAt m lb with
  | some xs,some ys=>some (match xs[i]?,ys[i]? with
   | some x,some y=>some (x,y)
   | _,_=>none)
  | _,_=>none
 | .enum,.ref la,.int s=>match lstAt m la with
  | some xs=>some (xs[i]?.map fun x=>(.int (s+(i:Int)),x))
  | none=>none
 | _,_,_=>none
noncomputable def compG (c e:Wd->Wd->Me->Rz) (g:Nat->Me->Option (Option (Wd × Wd))):Nat->Nat->List Wd->Me->Rz
 | 0,_,_,_=>.no
 | k+1,i,acc,m=>match g i m with
  | none=>.no
  | some none=>alloc m acc
  | some (some (x,y))=>(c x y m).bind fun b m1=>match b with
   | .bl true=>(e x y m1).bind fun z m2=>if acc.length < lim then compG c e g k (i+1) (acc++[z]) m2 else .no
   | .bl false=>compG c e g k (i+1) acc m1
   | _=>.no
noncomputable def argsOf:Wd->List Wd
 | .tup xs=>xs
 | _=>[]
noncomputable def evE (cl:Nat->List Wd->Me->Rz):Ex->En->Me->Rz
 | .var i,env,m=>match env[i]? with
  | some (some w)=>.ok w m
  | _=>.no
 | .lit w,_,m=>.ok w m
 | .bin op a b,env,m=>(evE cl a env m).bind fun x m1=>(evE cl b env m1).bind fun y m2=>bop op x y m2
 | .neg a,env,m=>(evE cl a env m).bind fun x m1=>match x with
  | .int i=>.ok (.int (-i)) m1
  | _=>.no
 | .not a,env,m=>(evE cl a env m).bind fun x m1=>match x with
  | .bl b=>.ok (.bl (!b)) m1
  | _=>.no
 | .and a b,env,m=>(evE cl a env m).bind fun x m1=>match x with
  | .bl true=>evE cl b env m1
  | .bl false=>.ok (.bl false) m1
  | _=>.no
 | .or a b,env,m=>(evE cl a env m).bind fun x m1=>match x with
  | .bl false=>evE cl b env m1
  | .bl true=>.ok (.bl true) m1
  | _=>.no
 | .cmp op a b,env,m=>(evE cl a env m).bind fun x m1=>(evE cl b env m1).bind fun y m2=>cop op x y m2
 | .chain p q a b c,env,m=>(evE cl a env m).bind fun x m1=>(evE cl b env m1).bind fun y m2=>(cop p x y m2).bind fun z m3=>match z with
  | .bl true=>(evE cl c env m3).bind fun u m4=>cop q y u m4
  | .bl false=>.ok (.bl false) m3
  | _=>.no
 | .ife c a b,env,m=>(evE cl c env m).bind fun x m1=>match x with
  | .bl true=>evE cl a env m1
  | .bl false=>evE cl b env m1
  | _=>.no
 | .unit,_,m=>.ok (.tup []) m
 | .pair a b,env,m=>(evE cl a env m).bind fun x m1=>(evE cl b env m1).bind fun y m2=>.ok (.tup (x::argsOf y)) m2
 | .call k a,env,m=>(evE cl a env m).bind fun x m1=>cl k (argsOf x) m1
 | .blt b a,env,m=>(evE cl a env m).bind fun x m1=>bltR b (argsOf x) m1
 | .isi t a,env,m=>(evE cl a env m).bind fun x m1=>ofB (isT t x m1) m1
 | .lst a,env,m=>(evE cl a env m).bind fun x m1=>alloc m1 (argsOf x)
 | .tup a,env,m=>(evE cl a env m).bind fun x m1=>if (argsOf x).length<=lim then .ok (.tup (argsOf x)) m1 else .no
 | .dict0,_,m=>.ok (.ref m.length) (m++[.dct []])
 | .idx a b,env,m=>(evE cl a env m).bind fun x m1=>(evE cl b env m1).bind fun y m2=>idxR x y m2
 | .slL a lo,env,m=>(evE cl a env m).bind fun x m1=>(evE cl lo env m1).bind fun y m2=>match y with
  | .int i=>slR x (some i) none m2
  | _=>.no
 | .slH a hi,env,m=>(evE cl a env m).bind fun x m1=>(evE cl hi env m1).bind fun y m2=>match y with
  | .int i=>slR x none (some i) m2
  | _=>.no
 | .slB a lo hi,env,m=>(evE cl a env m).bind fun x m1=>(evE cl lo env m1).bind fun y m2=>match y with
  | .int i=>(evE cl hi env m2).bind fun z m3=>match z with
   | .int j=>slR x (some i) (some j) m3
   | _=>.no
  | _=>.no
 | .meth n o a,env,m=>(evE cl o env m).bind fun x m1=>(evE cl a env m1).bind fun y m2=>mtR n x (argsOf y) m2
 | .rng a b c,env,m=>(evE cl a env m).bind fun x m1=>(evE cl b env m1).bind fun y m2=>(evE cl c env m2).bind fun z m3=>rngR x y z m3
 | .comp elt it cond,env,m=>(evE cl it env m).bind fun x m1=>match x with
  | .tup xs=>compL (fun x m=>evE cl cond (env++[some x]) m) (fun x m=>evE cl elt (env++[some x]) m) xs [] m1
  | .rol xs=>compL (fun x m=>evE cl cond (env++[some x]) m) (fun x m=>evE cl elt (env++[some x]) m) xs [] m1
  | .ref l=>compR (fun x m=>evE cl cond (env++[some x]) m) (fun x m=>evE cl elt (env++[some x]) m) l (lim+1) 0 [] m1
  | _=>.no
 | .compP k elt a b cond,env,m=>(evE cl a env m).bind fun x m1=>(evE cl b env m1).bind fun y m2 =>
  compG (fun u v m=>evE cl cond (env++[some u]++[some v]) m) (fun u v m=>evE cl elt (env++[some u]++[some v]) m) (pairAt k x y) (lim+1) 0 [] m2
 | .lrng a,env,m=>(evE cl a env m).bind fun x m1=>match x with
  | .int j=>if -lim<=j/\j<=lim then alloc m1 (rngL 0 1 j.toNat) else .no
  | _=>.no
noncomputable def loopL (body:Wd->En->Me->Rs):List Wd->En->Me->Rs
 | [],env,m=>.next env m
 | x::xs,env,m=>match body x env m with
  | .next e1 m1=>loopL body xs e1 m1
  | .cont e1 m1=>loopL body xs e1 m1
  | .brk e1 m1=>.next e1 m1
  | r=>r
noncomputable def loopR (body:Wd->En->Me->Rs) (l:Nat):Nat->Nat->En->Me->Rs
 | 0,_,_,_=>.no
 | k+1,i,env,m=>match lstAt m l with
  | none=>.no
  | some xs=>match xs[i]? with
   | none=>.next env m
   | some x=>match body x env m with
    | .next e1 m1=>loopR body l k (i+1) e1 m1
    | .cont e1 m1=>loopR body l k (i+1) e1 m1
    | .brk e1 m1=>.next e1 m1
    | r=>r
noncomputable def loopG (body:Wd->En->Me->Rs) (g:Nat->Me->Option (Option (Wd × Wd))):Nat->Nat->En->Me->Rs
 | 0,_,_,_=>.no
 | k+1,i,env,m=>match g i m with
  | none=>.no
  | some none=>.next env m
  | some (some (x,y))=>match body (.tup [x,y]) env m with
   | .next e1 m1=>loopG body g k (i+1) e1 m1
   | .cont e1 m1=>loopG body g k (i+1) e1 m1
   | .brk e1 m1=>.next e1 m1
   | r=>r
noncomputable def loopW (c:En->Me->Rz) (body:En->Me->Rs):Nat->En->Me->Rs
 | 0,_,_=>.no
 | k+1,env,m=>match c env m with
  | .ok (.bl true) m1=>match body env m1 with
   | .next e1 m2=>loopW c body k e1 m2
   | .cont e1 m2=>loopW c body k e1 m2
   | .brk e1 m2=>.next e1 m2
   | r=>r
  | .ok (.bl false) m1=>.next env m1
  | .exc c w m1=>.exc c w env m1
  | _=>.no
noncomputable def Rz.bindS (r:Rz) (env:En) (f:Wd->Me->Rs):Rs:=match r with
 | .ok w m=>f w m
 | .exc c w m=>.exc c w env m
 | .no=>.no
noncomputable def forW (body:Wd->En->Me->Rs) (w:Wd) (env:En) (m:Me):Rs:=match w with
 | .tup xs=>loopL body xs env m
 | .rol xs=>loopL body xs env m
 | .ref l=>loopR body l (lim+1) 0 env m
 | _=>.no
noncomputable def st2 (i j:Nat):Wd->En->Option En:=fun w env=>match w with
 | .tup [a,b]=>some ((env.set i (some a)).set j (some b))
 | _=>none
noncomputable def st3 (i j k:Nat) (w:Wd) (m:Me) (env:En):Option En:=match seqOf m w with
 | some [a,b,c]=>some (((env.set i (some a)).set j (some b)).set k (some c))
 | _=>none
noncomputable def bodyOf (st:Wd->En->Option En) (b:En->Me->Rs):Wd->En->Me->Rs:=fun w env m=>match st w env with
 | some env'=>b env' m
 | none=>.no
noncomputable def augI (op:Bo) (x y:Wd) (m:Me) (env:En) (f:Wd->Me->Rs):Rs:=match x,y with
 | .int _,.int _=>(bop op x y m).bindS env f
 | _,_=>.no
noncomputable def exS (cl:Nat->List Wd->Me->Rz):Sm->En->Me->Rs
 | .skip,env,m=>.next env m
 | .seq a b,env,m=>match exS cl a env m with
  | .next e1 m1=>exS cl b e1 m1
  | r=>r
 | .asg i e,env,m=>(evE cl e env m).bindS env fun w m1=>.next (env.set i (some w)) m1
 | .asgS o i e,env,m=>(evE cl e env m).bindS env fun w m1=>(evE cl o env m1).bindS env fun x m2=>(evE cl i env m2).bindS env fun y m3=>(setR x y w m3).bindS env fun _ m4=>.next env m4
 | .swapS o i p j a b,env,m=>(evE cl a env m).bindS env fun u m0=>(evE cl b env m0).bindS env fun w m1 =>
   (evE cl o env m1).bindS env fun x m2=>(evE cl i env m2).bindS env fun y m3=>(setR x y u m3).bindS env fun _ m4 =>
   (evE cl p env m4).bindS env fun x m5=>(evE cl j env m5).bindS env fun y m6=>(setR x y w m6).bindS env fun _ m7=>.next env m7
 | .aug i op e,env,m=>match env[i]? with
  | some (some x)=>(evE cl e env m).bindS env fun y m1=>augI op x y m1 env fun z m2=>.next (env.set i (some z)) m2
  | _=>.no
 | .augS o i op e,env,m=>(evE cl o env m).bindS env fun x m1=>match x with
  | .ref l=>(evE cl i env m1).bindS env fun y m2=>(idxR (.ref l) y m2).bindS env fun u m3=>(evE cl e env m3).bindS env fun v m4=>augI op u v m4 env fun z m5=>(setR (.ref l) y z m5).bindS env fun _ m6=>.next env m6
  | _=>.no
 | .ite c a b,env,m=>(evE cl c env m).bindS env fun x m1=>match x with
  | .bl true=>exS cl a env m1
  | .bl false=>exS cl b env m1
  | _=>.no
 | .forv i it body,env,m=>(evE cl it env m).bindS env fun w m1=>forW (fun x e m=>exS cl body (e.set i (some x)) m) w env m1
 | .fort i j it body,env,m=>(evE cl it env m).bindS env fun w m1=>forW (bodyOf (st2 i j) (exS cl body)) w env m1
 | .while c body,env,m=>loopW (evE cl c) (exS cl body) 1000000 env m
 | .ret e,env,m=>(evE cl e env m).bindS env fun w m1=>.ret w m1
 | .retN,_,m=>.ret .non m
 | .expr e,env,m=>(evE cl e env m).bindS env fun _ m1=>.next env m1
 | .forA i j c,env,m=>(evE cl (.var j) env m).bindS env fun w m1=>forW (fun x e m=>(evE cl (.meth .append (.var i) (.pair (.lit (.int c)) .unit)) (e.set i (some x)) m).bindS (e.set i (some x)) fun _ m1=>.next (e.set i (some x)) m1) w env m1
 | .forZ i j a b body,env,m=>(evE cl a env m).bindS env fun x m1=>(evE cl b env m1).bindS env fun y m2=>loopG (bodyOf (st2 i j) (exS cl body)) (pairAt .zip x y) (lim+1) 0 env m2
 | .forS i j k c,env,m=>(evE cl (.var k) env m).bindS env fun w m1=>forW (fun x e m=>match (evE cl (.var i) (e.set i (some x)) m).bindS (e.set i (some x)) (fun w m1=>forW (fun x e m=>(evE cl (.meth .append (.var j) (.pair (.lit (.int c)) .unit)) (e.set j (some x)) m).bindS (e.set j (some x)) fun _ m1=>.next (e.set j (some x)) m1) w (e.set i (some x)) m1) with
  | .next e1 m1=>(evE cl (.meth .append (.var i) (.pair (.lst .unit) .unit)) e1 m1).bindS e1 fun _ m2=>.next e1 m2
  | r=>r) w env m1
 | .forC i j,env,m=>(evE cl (.var j) env m).bindS env fun w m1=>forW (fun x e m=>(evE cl (.meth .clear (.var i) .unit) (e.set i (some x)) m).bindS (e.set i (some x)) fun _ m1=>.next (e.set i (some x)) m1) w env m1
 | .forE i j a body,env,m=>(evE cl a env m).bindS env fun x m1=>loopG (bodyOf (st2 i j) (exS cl body)) (pairAt .enum x (.int 0)) (lim+1) 0 env m1
 | .swapI v i j a b,env,m=>(evE cl a env m).bindS env fun u m0=>(evE cl b env m0).bindS env fun w m1 =>
   (evE cl (.var v) env m1).bindS env fun x m2=>(evE cl i env m2).bindS env fun y m3=>(setR x y u m3).bindS env fun _ m4 =>
   (evE cl (.var v) env m4).bindS env fun x m5=>(evE cl j env m5).bindS env fun y m6=>(setR x y w m6).bindS env fun _ m7=>.next env m7
 | .popV i j,env,m=>(evE cl (.meth .pop (.var j) .unit) env m).bindS env fun w m1=>.next (env.set i (some w)) m1
 | .popI j e a b,env,m=>(evE cl (.cmp .ne (.meth .pop (.var j) .unit) e) env m).bindS env fun x m1=>match x with
  | .bl true=>exS cl a env m1
  | .bl false=>exS cl b env m1
  | _=>.no
 | .appPop j a x e,env,m=>(evE cl (.meth .append (.var j) (.pair (.bin .add (.var a) (.bin .mod (.meth .pop (.var x) (.pair (.lit (.int 0)) .unit)) e)) .unit)) env m).bindS env fun _ m1=>.next env m1
 | .unp3 i j k e,env,m=>(evE cl e env m).bindS env fun w m1=>match st3 i j k w m1 env with
  | some e1=>.next e1 m1
  | none=>.no
 | .brk,env,m=>.brk env m
 | .cont,env,m=>.cont env m
 | .never,_,_=>.no
set_option genInjectivity false in
structure Fn where
 ar:Nat
 sz:Nat
 body:Sm
deriving Inhabited
noncomputable def begin0 (fn:Fn) (ws:List Wd):En:=ws.map some++List.replicate (fn.sz - ws.length) none
noncomputable def runF (cl:Nat->List Wd->Me->Rz) (fn:Fn) (ws:List Wd) (m:Me):Rz :=
 if ws.length=fn.ar then match exS cl fn.body (begin0 fn ws) m with
  | .next _ m1=>.ok .non m1
  | .ret w m1=>.ok w m1
  | .exc c w _ m1=>.exc c w m1
  | _=>.no
 else .no
noncomputable def callN (T:List Fn):Nat->Nat->List Wd->Me->Rz
 | 0,_,_,_=>.no
 | d+1,k,ws,m=>match T[k]? with
  | some fn=>runF (callN T d) fn ws m
  | none=>.no
end Mini
namespace Mini
open PySem PySem.Spec PyProof.Rows L2
abbrev St:=L2.St
def KL (K:PySem.W.Frag) (a:Addr) (xs:List V):Prop :=
 ∃ (o:Obj) (its:Array Value) (n:Nat),K.lookup a=some o/\o.cls=.type "list" /\ o.dict=none/\o.data=.seq its n/\its.size<=sizeLine/\Vals xs its.toList
def SqF (K:PySem.W.Frag) (H:Hp) (a:Addr) (vs:List V):Prop:=(∃ o,H a=some (.frz o (.lst vs)))\/KL K a vs
theorem SqF.sq {K:PySem.W.Frag}{H:Hp}{a:Addr}{vs:List V}(h:SqF K H a vs):SqL K H a vs:=by
 rcases h with h | h
 ·exact .inl (.inr h)
 ·exact .inr h
mutual
noncomputable def Rep (K:PySem.W.Frag) (as:List Addr) (H:Hp):Wd->V->Prop
 | .non,v=>v=.non
 | .bl b,v=>v=.bl b
 | .int i,v=>v=.int i
 | .str s,v=>v=.str ⟨s.toArray⟩
 | .tup xs,v=>∃ a vs,v=.ref a/\SqT K H a vs/\RepL K as H xs vs
 | .rol xs,v=>∃ a vs,v=.ref a/\SqF K H a vs/\RepL K as H xs vs
 | .ref l,v=>∃ a,as[l]?=some a/\v=.ref a
noncomputable def RepL (K:PySem.W.Frag) (as:List Addr) (H:Hp):List Wd->List V->Prop
 | [],vs=>vs=[]
 | x::xs,vs=>∃ v r,vs=v::r/\Rep K as H x v/\RepL K as H xs r
end
def RepO (K:PySem.W.Frag) (as:List Addr) (H:Hp):Ob->Addr->Prop
 | .lst ws,a=>∃ vs,H a=some (.lst vs)/\RepL K as H ws vs
 | .dct _,_=>False
structure Sim (K:PySem.W.Frag) (as:List Addr) (m:Me) (H:Hp):Prop where
 len:as.length=m.length
 nd:as.Nodup
 obj:∀ (l:Nat) (a:Addr) (o:Ob),as[l]?=some a->m[l]?=some o->RepO K as H o a
structure Step (as:List Addr) (H:Hp) (as':List Addr) (H':Hp):Prop where
 pre:∃ t,as'=as++t
 frame:∀ b o,H b=some o->b ∉ as->H' b=some o
 fresh:∀ a ∈ as',a ∈ as\/H a=none
section
variable {K : PySem.W.Frag} {as as' as2 : List Addr} {H H' H2 : Hp} {m m' : Me}
theorem Step.refl:Step as H as H:=⟨⟨[],by simp⟩,fun _ _ h _=>h,fun _ h=>.inl h⟩
theorem Step.get (T:Step as H as' H') {l:Nat}{a:Addr}(h:as[l]?=some a):as'[l]?=some a:=by
 obtain ⟨t,rfl⟩:=T.pre
 rw[List.getElem?_append_left (List.getElem?_eq_some_iff.mp h).1]
 exact h
theorem Step.out (T:Step as H as' H') {b:Addr}{o:HO}(h:H b=some o) (hb:b ∉ as):b ∉ as':=fun z=>by
 rcases T.fresh b z with q | q
 ·exact hb q
 ·rw[h] at q;cases q
theorem Step.trans (T:Step as H as' H') (U:Step as' H' as2 H2):Step as H as2 H2:=by
 refine ⟨?_,fun b o h hb=>U.frame b o (T.frame b o h hb) (T.out h hb),fun a ha=>?_⟩
 ·obtain ⟨t,rfl⟩:=T.pre
  obtain ⟨u,rfl⟩:=U.pre
  exact ⟨t++u,by simp⟩
 ·rcases U.fresh a ha with q | q
  ·exact T.fresh a q
  ·by_cases z:a ∈ as
   ·exact .inl z
   ·refine .inr ?_
    cases e:H a with
    | none=>rfl
    | some o=>rw[T.frame a o e z] at q;cases q
theorem Sim.get (S:Sim K as m H) {l:Nat}{o:Ob}(h:m[l]?=some o):∃ a,as[l]?=some a/\RepO K as H o a:=by
 have hl:l < as.length:=by rw[S.len];exact (List.getElem?_eq_some_iff.mp h).1
 exact ⟨as[l],by simp[hl],S.obj l _ o (by simp[hl]) h⟩
theorem Sim.isLst (S:Sim K as m H) {a:Addr}(h:a ∈ as):∃ us,H a=some (.lst us):=by
 obtain ⟨l,hl,rfl⟩:=List.mem_iff_getElem.mp h
 have hm:l < m.length:=by rw[<- S.len];exact hl
 have q:=S.obj l as[l] m[l] (by simp[hl]) (by simp[hm])
 cases e:m[l] with
 | lst ws =>
  rw[e] at q
  obtain ⟨vs,h1,_⟩:=q
  exact ⟨vs,h1⟩
 | dct kvs=>rw[e] at q;exact q.elim
theorem sqT_mono (nt:∀ a ∈ as,∃ us,H a=some (.lst us)) (T:Step as H as' H') {a:Addr}{vs:List V}(h:SqT K H a vs):SqT K H' a vs:=by
 rcases h with h | h
 ·have hn:a ∉ as:=fun z=>by
   obtain ⟨us,e⟩:=nt a z
   rcases h with h | ⟨o,h⟩ <;> rw[e] at h <;> cases h
  rcases h with h | ⟨o,h⟩
  ·exact .inl (.inl (T.frame _ _ h hn))
  ·exact .inl (.inr ⟨o,T.frame _ _ h hn⟩)
 ·exact .inr h
theorem sqF_mono (nt:∀ a ∈ as,∃ us,H a=some (.lst us)) (T:Step as H as' H') {a:Addr}{vs:List V}(h:SqF K H a vs):SqF K H' a vs:=by
 rcases h with ⟨o,h⟩ | h
 ·have hn:a ∉ as:=fun z=>by
   obtain ⟨us,e⟩:=nt a z
   rw[e] at h;cases h
  exact .inl ⟨o,T.frame _ _ h hn⟩
 ·exact .inr h
structure Kp (K:PySem.W.Frag) (H H':Hp):Prop where
 t:∀ a vs,SqT K H a vs->SqT K H' a vs
 f:∀ a vs,SqF K H a vs->SqF K H' a vs
theorem Sim.kp (S:Sim K as m H) (T:Step as H as' H'):Kp K H H':=⟨fun _ _ h=>sqT_mono (fun _ z=>S.isLst z) T h,fun _ _ h=>sqF_mono (fun _ z=>S.isLst z) T h⟩
theorem Kp.upd {D:Addr}{ys:List V}{o:HO}(h:H D=some (.lst ys)):Kp K H (L2.upd H D o):=by
 refine ⟨fun a vs q=>?_,fun a vs q=>?_⟩
 ·rcases q with (q | ⟨x,q⟩) | q
  ·exact .inl (.inl (by rw[upd_ne (by rintro rfl;rw[h] at q;cases q)];exact q))
  ·exact .inl (.inr ⟨x,by rw[upd_ne (by rintro rfl;rw[h] at q;cases q)];exact q⟩)
  ·exact .inr q
 ·rcases q with ⟨x,q⟩ | q
  ·exact .inl ⟨x,by rw[upd_ne (by rintro rfl;rw[h] at q;cases q)];exact q⟩
  ·exact .inr q
mutual
theorem rep_mono (k:Kp K H H') (g:∀ (l:Nat) (a:Addr),as[l]?=some a->as'[l]?=some a):∀ (w:Wd) (v:V),Rep K as H w v->Rep K as' H' w v
 | .non,_,h=>by rw[Rep] at h ⊢;exact h
 | .bl _,_,h=>by rw[Rep] at h ⊢;exact h
 | .int _,_,h=>by rw[Rep] at h ⊢;exact h
 | .str _,_,h=>by rw[Rep] at h ⊢;exact h
 | .tup xs,v,h=>by
  rw[Rep] at h ⊢
  obtain ⟨a,vs,e,q,r⟩:=h
  exact ⟨a,vs,e,k.t _ _ q,repL_mono k g xs vs r⟩
 | .rol xs,v,h=>by
  rw[Rep] at h ⊢
  obtain ⟨a,vs,e,q,r⟩:=h
  exact ⟨a,vs,e,k.f _ _ q,repL_mono k g xs vs r⟩
 | .ref l,v,h=>by
  rw[Rep] at h ⊢
  obtain ⟨a,q,e⟩:=h
  exact ⟨a,g _ _ q,e⟩
theorem repL_mono (k:Kp K H H') (g:∀ (l:Nat) (a:Addr),as[l]?=some a->as'[l]?=some a):∀ (ws:List Wd) (vs:List V),RepL K as H ws vs->RepL K as' H' ws vs
 | [],_,h=>by rw[RepL] at h ⊢;exact h
 | x::xs,vs,h=>by
  rw[RepL] at h ⊢
  obtain ⟨v,r,e,q,t⟩:=h
  exact ⟨v,r,e,rep_mono k g x v q,repL_mono k g xs r t⟩
end
theorem Rep.mono {w:Wd}{v:V}(h:Rep K as H w v) (S:Sim K as m H) (T:Step as H as' H'):Rep K as' H' w v:=rep_mono (S.kp T) (fun _ _ e=>T.get e) w v h
theorem RepL.mono {ws:List Wd}{vs:List V}(h:RepL K as H ws vs) (S:Sim K as m H) (T:Step as H as' H'):RepL K as' H' ws vs:=repL_mono (S.kp T) (fun _ _ e=>T.get e) ws vs h
theorem RepL.kp {ws:List Wd}{vs:List V}(h:RepL K as H ws vs) (k:Kp K H H'):RepL K as H' ws vs:=repL_mono k (fun _ _ e=>e) ws vs h
theorem Rep.kp {w:Wd}{v:V}(h:Rep K as H w v) (k:Kp K H H'):Rep K as H' w v:=rep_mono k (fun _ _ e=>e) w v h
theorem rep_non {v:V}:Rep K as H .non v ↔ v=.non:=by rw[Rep]
theorem rep_bl {b:Bool}{v:V}:Rep K as H (.bl b) v ↔ v=.bl b:=by rw[Rep]
theorem rep_int {i:Int}{v:V}:Rep K as H (.int i) v ↔ v=.int i:=by rw[Rep]
theorem rep_str {s:List Nat}{v:V}:Rep K as H (.str s) v ↔ v=.str ⟨s.toArray⟩:=by rw[Rep]
theorem rep_tup {xs:List Wd}{v:V}:Rep K as H (.tup xs) v ↔ ∃ a vs,v=.ref a/\SqT K H a vs/\RepL K as H xs vs:=by rw[Rep]
theorem rep_rol {xs:List Wd}{v:V}:Rep K as H (.rol xs) v ↔ ∃ a vs,v=.ref a/\SqF K H a vs/\RepL K as H xs vs:=by rw[Rep]
theorem rep_ref {l:Nat}{v:V}:Rep K as H (.ref l) v ↔ ∃ a,as[l]?=some a/\v=.ref a:=by rw[Rep]
theorem repL_nil {vs:List V}:RepL K as H [] vs ↔ vs=[]:=by rw[RepL]
theorem repL_cons {x:Wd}{xs:List Wd}{vs:List V}:RepL K as H (x::xs) vs ↔ ∃ v r,vs=v::r/\Rep K as H x v/\RepL K as H xs r:=by rw[RepL]
theorem RepL.length:∀ {xs:List Wd}{vs:List V},RepL K as H xs vs->xs.length=vs.length
 | [],vs,h=>by rw[repL_nil.mp h];rfl
 | x::xs,vs,h=>by
  obtain ⟨v,r,rfl,_,t⟩:=repL_cons.mp h
  simp[RepL.length t]
theorem RepL.get:∀ {xs:List Wd}{vs:List V}{i:Nat}{x:Wd},RepL K as H xs vs->xs[i]?=some x->∃ v,vs[i]?=some v/\Rep K as H x v
 | [],_,_,_,_,e=>by simp at e
 | x::xs,vs,0,y,h,e=>by
  obtain ⟨v,r,rfl,q,t⟩:=repL_cons.mp h
  simp at e;subst e
  exact ⟨v,rfl,q⟩
 | x::xs,vs,i+1,y,h,e=>by
  obtain ⟨v,r,rfl,q,t⟩:=repL_cons.mp h
  obtain ⟨u,h1,h2⟩:=RepL.get (i:=i) (x:=y) t (by simpa using e)
  exact ⟨u,by simpa using h1,h2⟩
theorem RepL.back:∀ {xs:List Wd}{vs:List V}{i:Nat}{v:V},RepL K as H xs vs->vs[i]?=some v->∃ x,xs[i]?=some x/\Rep K as H x v:=fun {xs vs i v} h e=>by
 have hi:i < xs.length:=by rw[h.length];exact (List.getElem?_eq_some_iff.mp e).1
 obtain ⟨u,h1,h2⟩:=h.get (i:=i) (x:=xs[i]) (by simp[hi])
 rw[e] at h1;cases h1
 exact ⟨xs[i],by simp[hi],h2⟩
theorem RepL.append:∀ {xs ys:List Wd}{vs us:List V},RepL K as H xs vs->RepL K as H ys us->RepL K as H (xs++ys) (vs++us)
 | [],ys,vs,us,h,h'=>by rw[repL_nil.mp h];exact h'
 | x::xs,ys,vs,us,h,h'=>by
  obtain ⟨v,r,rfl,q,t⟩:=repL_cons.mp h
  exact repL_cons.mpr ⟨v,r++us,rfl,q,t.append h'⟩
theorem RepL.one {x:Wd}{v:V}(h:Rep K as H x v):RepL K as H [x] [v]:=repL_cons.mpr ⟨v,[],rfl,h,repL_nil.mpr rfl⟩
theorem RepL.take:∀ {xs:List Wd}{vs:List V}(n:Nat),RepL K as H xs vs->RepL K as H (xs.take n) (vs.take n)
 | _,_,0,_=>repL_nil.mpr rfl
 | [],vs,n+1,h=>by rw[repL_nil.mp h];exact repL_nil.mpr rfl
 | x::xs,vs,n+1,h=>by
  obtain ⟨v,r,rfl,q,t⟩:=repL_cons.mp h
  exact repL_cons.mpr ⟨v,r.take n,rfl,q,t.take n⟩
theorem RepL.reverse:∀ {xs:List Wd}{vs:List V},RepL K as H xs vs->RepL K as H xs.reverse vs.reverse
 | [],vs,h=>by rw[repL_nil.mp h];exact repL_nil.mpr rfl
 | x::xs,vs,h=>by
  obtain ⟨v,r,rfl,q,t⟩:=repL_cons.mp h
  rw[List.reverse_cons,List.reverse_cons]
  exact t.reverse.append (.one q)
theorem RepL.dropLast:∀ {xs:List Wd}{vs:List V},RepL K as H xs vs->RepL K as H xs.dropLast vs.dropLast:=fun {xs vs} h=>by
 rw[List.dropLast_eq_take,List.dropLast_eq_take,h.length]
 exact h.take _
theorem RepL.rep {xs:List Wd}{vs:List V}(h:RepL K as H xs vs):∀ k:Nat,RepL K as H (List.replicate k xs).flatten (List.replicate k vs).flatten
 | 0=>repL_nil.mpr rfl
 | k+1=>by
  rw[List.replicate_succ,List.replicate_succ,List.flatten_cons,List.flatten_cons]
  exact h.append (RepL.rep h k)
structure EnvRep (K:PySem.W.Frag) (as:List Addr) (H:Hp) (env:En) (σ:St):Prop where
 len:env.length=σ.length
 get:∀ (i:Nat) (w:Wd),env[i]?=some (some w)->∃ v,σ[i]?=some (some v)/\Rep K as H w v
theorem EnvRep.mono {env:En}{σ:St}(G:EnvRep K as H env σ) (S:Sim K as m H) (T:Step as H as' H'):EnvRep K as' H' env σ :=
 ⟨G.len,fun i w e=>let ⟨v,h1,h2⟩:=G.get i w e;⟨v,h1,h2.mono S T⟩⟩
theorem EnvRep.kp {env:En}{σ:St}(G:EnvRep K as H env σ) (k:Kp K H H'):EnvRep K as H' env σ :=
 ⟨G.len,fun i w e=>let ⟨v,h1,h2⟩:=G.get i w e;⟨v,h1,h2.kp k⟩⟩
theorem EnvRep.set {env:En}{σ:St}(G:EnvRep K as H env σ) {w:Wd}{v:V}(h:Rep K as H w v) (i:Nat):EnvRep K as H (env.set i (some w)) (σ.set i (some v)):=by
 refine ⟨by simp[G.len],fun j x e=>?_⟩
 by_cases hj:j=i
 ·subst hj
  have hl:j < env.length:=by
   have:=(List.getElem?_eq_some_iff.mp e).1
   simpa using this
  rw[List.getElem?_set_self hl] at e
  cases e
  exact ⟨v,List.getElem?_set_self (by rw[<- G.len];exact hl),h⟩
 ·rw[List.getElem?_set_ne (Ne.symm hj)] at e
  obtain ⟨u,h1,h2⟩:=G.get j x e
  exact ⟨u,by rw[List.getElem?_set_ne (Ne.symm hj)];exact h1,h2⟩
theorem EnvRep.push {env:En}{σ:St}(G:EnvRep K as H env σ) {w:Wd}{v:V}(h:Rep K as H w v):EnvRep K as H (env++[some w]) (σ++[some v]):=by
 refine ⟨by simp[G.len],fun j x e=>?_⟩
 by_cases hj:j < env.length
 ·rw[List.getElem?_append_left hj] at e
  obtain ⟨u,h1,h2⟩:=G.get j x e
  exact ⟨u,by rw[List.getElem?_append_left (by rw[<- G.len];exact hj)];exact h1,h2⟩
 ·rw[List.getElem?_append_right (by lia)] at e
  have hz:j - env.length=0:=by
   cases hq:j - env.length with
   | zero=>rfl
   | succ k=>rw[hq] at e;simp at e
  rw[hz] at e
  simp at e
  subst e
  refine ⟨v,?_,h⟩
  rw[List.getElem?_append_right (by rw[<- G.len];lia),<- G.len,hz]
  rfl
def Post (K:PySem.W.Frag) (as:List Addr) (H:Hp) (Q:VK) (r:Rz):Prop:=match r with
 | .ok w m'=>∀ as' H' v,Step as H as' H'->Sim K as' m' H'->Rep K as' H' w v->Q v H'
 | _=>False
theorem Post.step {Q:VK}{r:Rz}(h:Post K as H Q r) (T:Step as H as' H'):Post K as' H' Q r:=by
 cases r with
 | ok w m'=>exact fun as2 H2 v U S R=>h as2 H2 v (T.trans U) S R
 | exc c w m'=>exact h
 | no=>exact h
theorem Post.bind {Q Q1:VK}{r:Rz}{f:Wd->Me->Rz}(h:Post K as H Q (r.bind f))
  (k:∀ w m' as' H' v,Step as H as' H'->Sim K as' m' H'->Rep K as' H' w v->Post K as' H' Q (f w m')->Q1 v H'):Post K as H Q1 r:=by
 cases r with
 | ok w m'=>exact fun as2 H2 v U S R=>k w m' as2 H2 v U S R (Post.step (r:=f w m') h U)
 | exc c w m'=>exact h
 | no=>exact h
def tOf (K:PySem.W.Frag) (g:En->Me->Rz):TE:=fun σ H Q=>∃ as env m,Sim K as m H/\EnvRep K as H env σ/\Post K as H Q (g env m)
def tOfT (K:PySem.W.Frag) (g:En->Me->Rz):TT:=fun σ H Q=>tOf K g σ H fun v H'=>∃ b,v=.bl b/\Q b H'
theorem Post.ok {Q:VK}{w:Wd}{v:V}(h:Post K as H Q (.ok w m)) (S:Sim K as m H) (R:Rep K as H w v):Q v H:=h as H v .refl S R
end
theorem PE.imp {X:Cx}{e:Expr}{t t':TE}(h:PE X e t) (k:∀ σ H Q,t' σ H Q->t σ H Q):PE X e t':=fun pins s σ H Q I q=>h pins s σ H Q I (k σ H Q q)
theorem PT.imp {X:Cx}{e:Expr}{t t':TT}(h:PT X e t) (k:∀ σ H Q,t' σ H Q->t σ H Q):PT X e t':=fun pins s σ H Q I q=>h pins s σ H Q I (k σ H Q q)
theorem PA.imp {X:Cx}{es:List Expr}{t t':TA}(h:PA X es t) (k:∀ σ H Q,t' σ H Q->t σ H Q):PA X es t':=fun pos pins s σ H Q I q=>h pos pins s σ H Q I (k σ H Q q)
theorem PS.imp {X:Cx}{st:Stmt}{t t':TS}(h:PS X st t) (k:∀ D σ H,t' D σ H->t D σ H):PS X st t':=fun pins s σ H D I q=>h pins s σ H D I (k D σ H q)
theorem PSs.imp {X:Cx}{st:List Stmt}{t t':TS}(h:PSs X st t) (k:∀ D σ H,t' D σ H->t D σ H):PSs X st t':=fun pins s σ H D I q=>h pins s σ H D I (k D σ H q)
end Mini
namespace Mini
open PySem PySem.Spec PyProof.Rows L2
section
variable {K : PySem.W.Frag} {as as' : List Addr} {H H' : Hp} {m m' : Me} {Q : VK} {a p : Addr} {l : Nat} {ws xs : List Wd} {vs us : List V}
theorem lim_line:lim<=sizeLine:=by rw[sizeLine_eq];decide
theorem Sim.new (S:Sim K as m H) (hp:H p=none):p ∉ as:=fun z=>by
 obtain ⟨us,e⟩:=S.isLst z
 rw[hp] at e;cases e
theorem Sim.alloc (S:Sim K as m H) (hp:H p=none) (R:RepL K as H ws vs):Step as H (as++[p]) (upd H p (.lst vs))/\Sim K (as++[p]) (m++[.lst ws]) (upd H p (.lst vs)):=by
 have hn:=S.new hp
 have T:Step as H (as++[p]) (upd H p (.lst vs)):=⟨⟨[p],rfl⟩,fun b o h _=>by rw[upd_ne (ne_of_none h hp)];exact h,fun b hb=>by
  rcases List.mem_append.mp hb with z | z
  ·exact .inl z
  ·exact .inr (by rw[List.mem_singleton.mp z];exact hp)⟩
 refine ⟨T,⟨by simp[S.len],?_,fun l b o h1 h2=>?_⟩⟩
 ·refine List.nodup_append.mpr ⟨S.nd,by simp,fun x hx y hy=>?_⟩
  rw[List.mem_singleton.mp hy]
  rintro rfl
  exact hn hx
 ·by_cases hl:l < as.length
  ·rw[List.getElem?_append_left hl] at h1
   rw[List.getElem?_append_left (by rw[<- S.len];exact hl)] at h2
   have q:=S.obj l b o h1 h2
   cases o with
   | lst ys =>
    obtain ⟨zs,e,r⟩:=q
    exact ⟨zs,by rw[upd_ne (ne_of_none e hp)];exact e,r.mono S T⟩
   | dct kvs=>exact q.elim
  ·rw[List.getElem?_append_right (by lia)] at h1
   rw[List.getElem?_append_right (by rw[<- S.len];lia)] at h2
   have hz:l - as.length=0:=by
    cases hq:l - as.length with
    | zero=>rfl
    | succ k=>rw[hq] at h1;simp at h1
   rw[hz] at h1
   rw[<- S.len,hz] at h2
   simp at h1 h2
   subst h1;subst h2
   exact ⟨vs,upd_same,R.mono S T⟩
theorem Sim.set (S:Sim K as m H) (ha:as[l]?=some a) (hm:m[l]?=some (.lst xs)) (R:RepL K as H ws vs):Step as H as (upd H a (.lst vs))/\Sim K as (m.set l (.lst ws)) (upd H a (.lst vs)):=by
 have hin:a ∈ as:=List.mem_of_getElem? ha
 have T:Step as H as (upd H a (.lst vs)):=⟨⟨[],by simp⟩,fun b o h hb=>by
  rw[upd_ne (by rintro rfl;exact hb hin)];exact h,fun b hb=>.inl hb⟩
 refine ⟨T,⟨by simp[S.len],S.nd,fun k b o h1 h2=>?_⟩⟩
 by_cases hk:k=l
 ·subst hk
  rw[ha] at h1;cases h1
  rw[List.getElem?_set_self (List.getElem?_eq_some_iff.mp hm).1] at h2
  cases h2
  exact ⟨vs,upd_same,R.mono S T⟩
 ·rw[List.getElem?_set_ne (Ne.symm hk)] at h2
  have q:=S.obj k b o h1 h2
  have hb:b ≠ a:=by
   rintro rfl
   obtain ⟨i1,e1⟩:=List.getElem?_eq_some_iff.mp h1
   obtain ⟨i2,e2⟩:=List.getElem?_eq_some_iff.mp ha
   exact hk ((List.getElem_inj S.nd).mp (e1.trans e2.symm))
  cases o with
  | lst ys =>
   obtain ⟨zs,e,r⟩:=q
   exact ⟨zs,by rw[upd_ne hb];exact e,r.mono S T⟩
  | dct kvs=>exact q.elim
theorem Sim.keep (S:Sim K as m H) (T:Step as H as H') (hk:∀ a ∈ as,∀ o,H a=some o->H' a=some o):Sim K as m H':=by
 refine ⟨S.len,S.nd,fun l b o h1 h2=>?_⟩
 have q:=S.obj l b o h1 h2
 cases o with
 | lst ys =>
  obtain ⟨zs,e,r⟩:=q
  exact ⟨zs,hk b (List.mem_of_getElem? h1) _ e,r.mono S T⟩
 | dct kvs=>exact q.elim
theorem Sim.tup (S:Sim K as m H) (hp:H p=none) (R:RepL K as H ws vs):Step as H as (upd H p (.tup vs))/\Sim K as m (upd H p (.tup vs))/\Rep K as (upd H p (.tup vs)) (.tup ws) (.ref p):=by
 have T:Step as H as (upd H p (.tup vs)):=⟨⟨[],by simp⟩,fun b o h _=>by rw[upd_ne (ne_of_none h hp)];exact h,fun b hb=>.inl hb⟩
 exact ⟨T,S.keep T fun b _ o e=>by rw[upd_ne (ne_of_none e hp)];exact e,rep_tup.mpr ⟨p,vs,rfl,SqT.of upd_same,R.mono S T⟩⟩
theorem alloc_ok (S:Sim K as m H) (R:RepL K as H ws vs) (h:Post K as H Q (alloc m ws)):vs.length<=lim/\∀ p,H p=none->Q (.ref p) (upd H p (.lst vs)):=by
 unfold Mini.alloc at h
 by_cases hl:ws.length<=lim
 ·rw[if_pos hl] at h
  refine ⟨by rw[<- R.length];exact hl,fun p hp=>?_⟩
  obtain ⟨T,S'⟩:=S.alloc hp R
  refine h _ _ _ T S' (rep_ref.mpr ⟨p,?_,rfl⟩)
  rw[<- S.len,List.getElem?_append_right (Nat.le_refl _)]
  simp
 ·rw[if_neg hl] at h;exact h.elim
theorem lst_of (S:Sim K as m H) (hm:m[l]?=some (.lst xs)):∃ a vs,as[l]?=some a/\H a=some (.lst vs)/\RepL K as H xs vs:=by
 obtain ⟨a,ha,vs,e,r⟩:=S.get hm
 exact ⟨a,vs,ha,e,r⟩
theorem lstAt_some {xs:List Wd}(h:lstAt m l=some xs):m[l]?=some (.lst xs):=by
 unfold lstAt at h
 cases e:m[l]? with
 | none=>rw[e] at h;cases h
 | some o=>cases o with
  | lst ys=>rw[e] at h;cases h;rfl
  | dct kvs=>rw[e] at h;cases h
theorem seq_of (S:Sim K as m H) {w:Wd}{v:V}(R:Rep K as H w v) (h:seqOf m w=some xs):∃ p vs,v=.ref p/\(SqL K H p vs\/SqT K H p vs)/\RepL K as H xs vs:=by
 cases w with
 | tup ys =>
  cases h
  obtain ⟨b,vs,rfl,q,r⟩:=rep_tup.mp R
  exact ⟨b,vs,rfl,.inr q,r⟩
 | rol ys =>
  cases h
  obtain ⟨b,vs,rfl,q,r⟩:=rep_rol.mp R
  exact ⟨b,vs,rfl,.inl q.sq,r⟩
 | ref l =>
  obtain ⟨b,hb,rfl⟩:=rep_ref.mp R
  obtain ⟨a,vs,ha,e,r⟩:=lst_of S (lstAt_some h)
  rw[hb] at ha;cases ha
  exact ⟨b,vs,rfl,.inl (SqL.of e),r⟩
 | non=>cases h
 | bl b=>cases h
 | int i=>cases h
 | str s=>cases h
noncomputable def opK:Bo->Operator
 | .add=>.Add | .sub=>.Sub | .mul=>.Mult | .fdiv=>.FloorDiv | .mod=>.Mod | .pow=>.Pow
def rB (K:PySem.W.Frag):Bo->R2
 | .add=>fun x y H Q=>rI0 (fun i j=>.int (i+j)) x y H Q\/(rCat x y H Q\/rCatT K x y H Q)
 | .sub=>rI0 fun i j=>.int (i - j)
 | .mul=>fun x y H Q=>rI CMul (fun i j=>.int (i * j)) x y H Q\/rRep x y H Q
 | .fdiv=>rI CDiv fun i j=>.int (i / j)
 | .mod=>rI (fun _ j=>0 < j) fun i j=>.int (i % j)
 | .pow=>rI CPow fun i j=>.int (i ^ j.toNat)
theorem op_rB {X:Cx}(op:Bo):OpR X (binaryOp (opK op)) (rB X.K op):=by
 cases op with
 | add=>exact op_add.or (op_cat.or op_catT)
 | sub=>exact op_sub
 | mul=>exact op_mul.or op_rep
 | fdiv=>exact op_fdiv
 | mod=>exact op_mod
 | pow=>exact op_pow
theorem small_iff {i:Int}(h:small i=true):-(2 ^ 64) < i/\i < 2 ^ 64:=by
 unfold small big at h
 rw[Bool.and_eq_true,decide_eq_true_iff,decide_eq_true_iff] at h
 lia
theorem post_if {c:Prop} [Decidable c] {r:Rz}(h:Post K as H Q (if c then r else .no)):c/\Post K as H Q r:=by
 by_cases hc:c
 ·rw[if_pos hc] at h;exact ⟨hc,h⟩
 ·rw[if_neg hc] at h;exact h.elim
theorem cat_inv {a b:Nat}(h:Post K as H Q (bop .add (.ref a) (.ref b) m)):∃ xs ys,m[a]?=some (.lst xs)/\m[b]?=some (.lst ys)/\Post K as H Q (alloc m (xs++ys)):=by
 unfold bop at h
 dsimp only at h
 generalize m[a]?=p at h ⊢
 generalize m[b]?=q at h ⊢
 cases p with
 | none=>exact h.elim
 | some o =>
  cases o with
  | dct kvs=>exact h.elim
  | lst xs =>
   cases q with
   | none=>exact h.elim
   | some o =>
    cases o with
    | dct kvs=>exact h.elim
    | lst ys=>exact ⟨xs,ys,rfl,rfl,h⟩
theorem rep_inv {a:Nat}{k:Int}(h:Post K as H Q (bop .mul (.ref a) (.int k) m)):∃ xs,m[a]?=some (.lst xs)/\Post K as H Q (if -lim<=k/\k<=lim then alloc m (List.replicate k.toNat xs).flatten else .no):=by
 unfold bop at h
 dsimp only at h
 generalize m[a]?=p at h ⊢
 cases p with
 | none=>exact h.elim
 | some o =>
  cases o with
  | dct kvs=>exact h.elim
  | lst xs=>exact ⟨xs,rfl,h⟩
set_option tactic.hygienic true in
theorem bop_ok {op:Bo}{x y:Wd}{v u:V}(S:Sim K as m H) (Rx:Rep K as H x v) (Ry:Rep K as H y u) (h:Post K as H Q (bop op x y m)):rB K op v u H Q:=by
 cases x with
 | int i =>
  cases y with
  | int j =>
   obtain rfl:=rep_int.mp Rx
   obtain rfl:=rep_int.mp Ry
   cases op with
   | add=>exact .inl ⟨i,j,rfl,rfl,h.ok S (rep_int.mpr rfl)⟩
   | sub=>exact ⟨i,j,rfl,rfl,h.ok S (rep_int.mpr rfl)⟩
   | mul =>
    obtain ⟨hs,h⟩:=post_if h
    refine .inl ⟨i,j,rfl,rfl,?_,h.ok S (rep_int.mpr rfl)⟩
    rcases Bool.or_eq_true_iff.mp hs with q | q
    ·exact .inl (small_iff q)
    ·exact .inr (small_iff q)
   | fdiv =>
    obtain ⟨hs,h⟩:=post_if h
    exact ⟨i,j,rfl,rfl,hs,h.ok S (rep_int.mpr rfl)⟩
   | mod =>
    obtain ⟨hs,h⟩:=post_if h
    exact ⟨i,j,rfl,rfl,hs,h.ok S (rep_int.mpr rfl)⟩
   | pow =>
    obtain ⟨⟨h1,h2,h3⟩,h⟩:=post_if h
    have h4:=small_iff h3
    exact ⟨i,j,rfl,rfl,⟨h1,h2,by lia⟩,h.ok S (rep_int.mpr rfl)⟩
  | _=>exact h.elim
 | ref a =>
  obtain ⟨pa,ha,rfl⟩:=rep_ref.mp Rx
  cases y with
  | ref b =>
   obtain ⟨pb,hb,rfl⟩:=rep_ref.mp Ry
   cases op with
   | add =>
    obtain ⟨xs,ys,e1,e2,h⟩:=cat_inv h
    obtain ⟨pa',va,ha',ea,ra⟩:=lst_of S e1
    rw[ha] at ha';cases ha'
    obtain ⟨pb',vb,hb',eb,rb⟩:=lst_of S e2
    rw[hb] at hb';cases hb'
    obtain ⟨hl,q⟩:=alloc_ok S (ra.append rb) h
    rw[List.length_append] at hl
    exact .inr (.inl ⟨pa,pb,va,vb,rfl,rfl,ea,eb,Nat.le_trans hl lim_line,q⟩)
   | _=>exact h.elim
  | int k =>
   obtain rfl:=rep_int.mp Ry
   cases op with
   | mul =>
    obtain ⟨xs,e1,h⟩:=rep_inv h
    obtain ⟨hk,h⟩:=post_if h
    obtain ⟨pa',va,ha',ea,ra⟩:=lst_of S e1
    rw[ha] at ha';cases ha'
    obtain ⟨hl,q⟩:=alloc_ok S (ra.rep k.toNat) h
    rw[len_rep] at hl
    have hlim:(lim:Int)=100000:=rfl
    exact .inr ⟨pa,k,va,rfl,rfl,ea,by lia,by lia,by rw[Nat.mul_comm];exact Nat.le_trans hl lim_line,q⟩
   | _=>exact h.elim
  | _=>exact h.elim
 | tup xs =>
  cases y with
  | tup ys =>
   cases op with
   | add =>
    obtain ⟨hc,h⟩:=post_if h
    obtain ⟨pa,va,rfl,qa,ra⟩:=rep_tup.mp Rx
    obtain ⟨pb,vb,rfl,qb,rb⟩:=rep_tup.mp Ry
    have la:=ra.length
    have lb:=rb.length
    refine .inr (.inr ⟨pa,pb,va,vb,rfl,rfl,qa,qb,?_,?_,fun e=>?_,fun e p hp=>?_⟩)
    ·rintro rfl
     cases xs with
     | nil=>simp at hc
     | cons x xs=>simp at la
    ·rw[<- la,<- lb];exact Nat.le_trans hc.1 lim_line
    ·subst e
     obtain rfl:ys=[]:=by
      cases ys with
      | nil=>rfl
      | cons y ys=>simp at lb
     refine h.ok S (rep_tup.mpr ⟨pa,va,rfl,qa,?_⟩)
     rw[List.append_nil];exact ra
    ·obtain ⟨T,S',R'⟩:=S.tup hp (ra.append rb)
     exact h _ _ _ T S' R'
   | _=>exact h.elim
  | _=>exact h.elim
 | _=>exact h.elim
end
end Mini
namespace Mini
open PySem PySem.Spec PyProof.Rows L2
open PySem.SeqAt
section
variable {X : Cx} {pins : List (Addr × Obj)} {σ : St} {s : Shared} {as : List Addr} {H : Hp} {m : Me}
theorem not_both {a:Addr}{xs ys:List V}(I:Inv X pins σ H s) (h1:SqT X.K H a xs) (h2:SqL X.K H a ys):False:=by
 obtain ⟨its,_,p,_⟩:=I.tuple h1
 obtain ⟨its',_,q,_⟩:=I.list h2
 exact ne_of_list_tuple q.isList (show s.heap.IsTuple a its.toArray from p) rfl
theorem not_known {a:Addr}{xs:List V}{u:HO}(I:Inv X pins σ H s) (h1:KL X.K a xs) (h2:H a=some u):False:=by
 obtain ⟨o,_,_,hk,_⟩:=h1
 have:=(I.bs a o (I.ok.mod.kin a o hk)).2
 rw[this] at h2;cases h2
mutual
theorem rep_inj (I:Inv X pins σ H s) (S:Sim X.K as m H):∀ (w w':Wd) (v:V),Rep X.K as H w v->Rep X.K as H w' v->w=w'
 | .non,w',v,h,h'=>by
  obtain rfl:=rep_non.mp h
  cases w' with
  | non=>rfl
  | bl b=>cases rep_bl.mp h'
  | int i=>cases rep_int.mp h'
  | str x=>cases rep_str.mp h'
  | tup xs=>obtain ⟨_,_,e,_⟩:=rep_tup.mp h';cases e
  | rol xs=>obtain ⟨_,_,e,_⟩:=rep_rol.mp h';cases e
  | ref l=>obtain ⟨_,_,e⟩:=rep_ref.mp h';cases e
 | .bl c,w',v,h,h'=>by
  obtain rfl:=rep_bl.mp h
  cases w' with
  | non=>cases rep_non.mp h'
  | bl b=>cases rep_bl.mp h';rfl
  | int i=>cases rep_int.mp h'
  | str x=>cases rep_str.mp h'
  | tup xs=>obtain ⟨_,_,e,_⟩:=rep_tup.mp h';cases e
  | rol xs=>obtain ⟨_,_,e,_⟩:=rep_rol.mp h';cases e
  | ref l=>obtain ⟨_,_,e⟩:=rep_ref.mp h';cases e
 | .int c,w',v,h,h'=>by
  obtain rfl:=rep_int.mp h
  cases w' with
  | non=>cases rep_non.mp h'
  | bl b=>cases rep_bl.mp h'
  | int i=>cases rep_int.mp h';rfl
  | str x=>cases rep_str.mp h'
  | tup xs=>obtain ⟨_,_,e,_⟩:=rep_tup.mp h';cases e
  | rol xs=>obtain ⟨_,_,e,_⟩:=rep_rol.mp h';cases e
  | ref l=>obtain ⟨_,_,e⟩:=rep_ref.mp h';cases e
 | .str c,w',v,h,h'=>by
  obtain rfl:=rep_str.mp h
  cases w' with
  | non=>cases rep_non.mp h'
  | bl b=>cases rep_bl.mp h'
  | int i=>cases rep_int.mp h'
  | str x =>
   have e:=rep_str.mp h'
   injection e with e
   injection e with e
   have:c=x:=by simpa using congrArg Array.toList e
   rw[this]
  | tup xs=>obtain ⟨_,_,e,_⟩:=rep_tup.mp h';cases e
  | rol xs=>obtain ⟨_,_,e,_⟩:=rep_rol.mp h';cases e
  | ref l=>obtain ⟨_,_,e⟩:=rep_ref.mp h';cases e
 | .tup xs,w',v,h,h'=>by
  obtain ⟨a,vs,rfl,q,r⟩:=rep_tup.mp h
  cases w' with
  | non=>cases rep_non.mp h'
  | bl b=>cases rep_bl.mp h'
  | int i=>cases rep_int.mp h'
  | str x=>cases rep_str.mp h'
  | tup ys =>
   obtain ⟨b,us,e,q',r'⟩:=rep_tup.mp h'
   cases e
   obtain rfl:=I.tuple_inj q q'
   rw[repL_inj I S xs ys vs r r']
  | rol ys =>
   obtain ⟨b,us,e,q',r'⟩:=rep_rol.mp h'
   cases e
   exact (not_both I q q'.sq).elim
  | ref l =>
   obtain ⟨b,hb,e⟩:=rep_ref.mp h'
   cases e
   obtain ⟨us,e2⟩:=S.isLst (List.mem_of_getElem? hb)
   exact (not_both I q (SqL.of e2)).elim
 | .rol xs,w',v,h,h'=>by
  obtain ⟨a,vs,rfl,q,r⟩:=rep_rol.mp h
  cases w' with
  | non=>cases rep_non.mp h'
  | bl b=>cases rep_bl.mp h'
  | int i=>cases rep_int.mp h'
  | str x=>cases rep_str.mp h'
  | tup ys =>
   obtain ⟨b,us,e,q',r'⟩:=rep_tup.mp h'
   cases e
   exact (not_both I q' q.sq).elim
  | rol ys =>
   obtain ⟨b,us,e,q',r'⟩:=rep_rol.mp h'
   cases e
   obtain rfl:=I.list_inj q.sq q'.sq
   rw[repL_inj I S xs ys vs r r']
  | ref l =>
   obtain ⟨b,hb,e⟩:=rep_ref.mp h'
   cases e
   obtain ⟨us,e2⟩:=S.isLst (List.mem_of_getElem? hb)
   rcases q with ⟨o,q⟩ | q
   ·rw[e2] at q;cases q
   ·exact (not_known I q e2).elim
 | .ref l,w',v,h,h'=>by
  obtain ⟨a,ha,rfl⟩:=rep_ref.mp h
  obtain ⟨us,e2⟩:=S.isLst (List.mem_of_getElem? ha)
  cases w' with
  | non=>cases rep_non.mp h'
  | bl b=>cases rep_bl.mp h'
  | int i=>cases rep_int.mp h'
  | str x=>cases rep_str.mp h'
  | tup ys =>
   obtain ⟨b,us,e,q',r'⟩:=rep_tup.mp h'
   cases e
   exact (not_both I q' (SqL.of e2)).elim
  | rol ys =>
   obtain ⟨b,us,e,q',r'⟩:=rep_rol.mp h'
   cases e
   rcases q' with ⟨o,q'⟩ | q'
   ·rw[e2] at q';cases q'
   ·exact (not_known I q' e2).elim
  | ref l' =>
   obtain ⟨b,hb,e⟩:=rep_ref.mp h'
   cases e
   obtain ⟨i1,e1⟩:=List.getElem?_eq_some_iff.mp ha
   obtain ⟨i2,e2⟩:=List.getElem?_eq_some_iff.mp hb
   rw[(List.getElem_inj S.nd).mp (e1.trans e2.symm)]
theorem repL_inj (I:Inv X pins σ H s) (S:Sim X.K as m H):∀ (xs ys:List Wd) (vs:List V),RepL X.K as H xs vs->RepL X.K as H ys vs->xs=ys
 | [],ys,vs,h,h'=>by
  obtain rfl:=repL_nil.mp h
  cases ys with
  | nil=>rfl
  | cons y ys=>obtain ⟨_,_,e,_⟩:=repL_cons.mp h';cases e
 | x::xs,ys,vs,h,h'=>by
  obtain ⟨v,r,rfl,q,t⟩:=repL_cons.mp h
  cases ys with
  | nil=>cases repL_nil.mp h'
  | cons y ys =>
   obtain ⟨v',r',e,q',t'⟩:=repL_cons.mp h'
   cases e
   rw[rep_inj I S x y v q q',repL_inj I S xs ys r t t']
end
theorem eqL_all {p:Wd->Wd->Option Bool}:∀ {xs ys:List Wd}{r:Bool},eqL p xs ys=some r ->
  ∃ f:Nat->Bool,(∀ j x y,xs[j]?=some x->ys[j]?=some y->p x y=some (f j))/\r=(List.range (min xs.length ys.length)).all f
 | [],ys,r,h=>by
  unfold eqL at h
  cases h
  exact ⟨fun _=>true,fun j x y e=>by simp at e,by simp⟩
 | _::_,[],r,h=>by
  unfold eqL at h
  cases h
  exact ⟨fun _=>true,fun j x y _ e=>by simp at e,by simp⟩
 | x::xs,y::ys,r,h=>by
  unfold eqL at h
  cases hp:p x y with
  | none=>rw[hp] at h;cases h
  | some b =>
   rw[hp] at h
   simp only[] at h
   cases hr:eqL p xs ys with
   | none=>rw[hr] at h;cases h
   | some r' =>
    rw[hr] at h
    cases h
    obtain ⟨f,hf,e⟩:=eqL_all (xs:=xs) (ys:=ys) hr
    refine ⟨fun j=>match j with | 0=>b | j+1=>f j,fun j x' y' e1 e2=>?_,?_⟩
    ·cases j with
     | zero=>simp at e1 e2;subst e1;subst e2;exact hp
     | succ j=>exact hf j x' y' (by simpa using e1) (by simpa using e2)
    ·rw[List.length_cons,List.length_cons,Nat.succ_min_succ,List.range_succ_eq_map,List.all_cons,List.all_map,e]
     rfl
theorem eqW_same:∀ (k:Nat) (w:Wd) (r:Bool),eqW m k w w=some r->r=true
 | 0,w,r,h=>by cases h
 | k+1,w,r,h=>by
  cases w with
  | non=>cases h;rfl
  | bl b=>cases h;simp
  | int i=>cases h;simp
  | str x=>cases h;simp
  | tup xs =>
   replace h:(eqL (eqW m k) xs xs).map (· && decide (xs.length=xs.length))=some r:=h
   cases hr:eqL (eqW m k) xs xs with
   | none=>rw[hr] at h;cases h
   | some r' =>
    rw[hr] at h
    simp only[Option.map_some,decide_true,Bool.and_true] at h
    cases h
    obtain ⟨f,hf,rfl⟩:=eqL_all hr
    rw[List.all_eq_true]
    intro j hj
    have hj':j < xs.length:=by simpa using hj
    exact eqW_same k xs[j] (f j) (hf j xs[j] xs[j] (by simp[hj']) (by simp[hj']))
  | rol xs=>cases h
  | ref l =>
   replace h:(if l=l then (if isLst m l then some true else none) else match m[l]?,m[l]? with
    | some (.lst xs),some (.lst ys)=>if xs.length=ys.length then eqL (eqW m k) xs ys else some false
    | _,_=>none)=some r:=h
   simp only[if_true] at h
   split at h
   ·cases h;rfl
   ·cases h
structure Eqs (A:Around) (s:Shared) (u u':Value) (r:Bool):Prop where
 it:EqAt A s u u' r
 eq:RcAt A s u u' r
 ne:RcNeAt A s u u' (!r)
theorem isLst_of (S:Sim X.K as m H) (I:Inv X pins σ H s) {l:Nat}{v:V}{u:Value}(h:isLst m l=true) (R:Rep X.K as H (.ref l) v) (ru:RelV v u):∃ b its,u=.ref b/\s.heap.IsList b its:=by
 unfold isLst at h
 cases e:m[l]? with
 | none=>rw[e] at h;cases h
 | some o =>
  cases o with
  | dct kvs=>rw[e] at h;cases h
  | lst xs =>
   obtain ⟨b,hb,rfl⟩:=rep_ref.mp R
   obtain ⟨a,vs,ha,ea,ra⟩:=lst_of S e
   rw[hb] at ha;cases ha
   obtain rfl:u=.ref b:=ru
   obtain ⟨its,_,p,_⟩:=I.list (SqL.of ea)
   exact ⟨b,_,rfl,p.isList⟩
theorem tup_of (I:Inv X pins σ H s) {xs:List Wd}{v:V}{u:Value}(R:Rep X.K as H (.tup xs) v) (ru:RelV v u):∃ b vs its,v=.ref b/\u=.ref b/\RepL X.K as H xs vs/\Vals vs its/\s.heap.IsTuple b its.toArray:=by
 obtain ⟨b,vs,rfl,q,r⟩:=rep_tup.mp R
 obtain rfl:u=.ref b:=ru
 obtain ⟨its,rv,p,_⟩:=I.tuple q
 exact ⟨b,vs,its,rfl,rfl,r,rv,p⟩
set_option tactic.hygienic true in
theorem eq_at (I:Inv X pins σ H s) (S:Sim X.K as m H):∀ (k:Nat) (A:Around) (w w':Wd) (v v':V) (u u':Value) (r:Bool),A.units+k < cLine->eqW m k w w'=some r ->
  Rep X.K as H w v->Rep X.K as H w' v'->RelV v u->RelV v' u'->Eqs A s u u' r
 | 0,_,_,_,_,_,_,_,_,_,h,_,_,_,_=>by cases h
 | k+1,A,w,w',v,v',u,u',r,hu,h,R,R',ru,ru'=>by
  have hu0:A.units < cLine:=by lia
  have hu1:A.in1.units+k < cLine:=by show A.units+1+k < cLine;lia
  -- items,pair by pair
  have pairs:∀ {xs ys:List Wd}{vs us:List V}{its its':List Value}{r:Bool},RepL X.K as H xs vs->RepL X.K as H ys us->Vals vs its->Vals us its'->eqL (eqW m k) xs ys=some r ->
    ∃ f:Nat->Bool,(∀ j (h1:j < its.toArray.size) (h2:j < its'.toArray.size),EqAt A.in1 s its.toArray[j] its'.toArray[j] (f j))/\r=(List.range (min its.toArray.size its'.toArray.size)).all f/\its.toArray.size=xs.length/\its'.toArray.size=ys.length:=by
   intro xs ys vs us its its' r r1 r2 rv rv' he
   obtain ⟨f,hf,e⟩:=eqL_all he
   have l1:=r1.length
   have l2:=r2.length
   have l3:=rv.length
   have l4:=rv'.length
   have s1:its.toArray.size=xs.length:=by simp;lia
   have s2:its'.toArray.size=ys.length:=by simp;lia
   refine ⟨f,fun j h1 h2=>?_,by rw[e,s1,s2],s1,s2⟩
   have hj:j < xs.length:=by lia
   have hj2:j < ys.length:=by lia
   obtain ⟨v1,e1,q1⟩:=r1.get (i:=j) (x:=xs[j]) (by simp[hj])
   obtain ⟨v2,e2,q2⟩:=r2.get (i:=j) (x:=ys[j]) (by simp[hj2])
   obtain ⟨u1,e3,q3⟩:=rv.get e1
   obtain ⟨u2,e4,q4⟩:=rv'.get e2
   have z:=eq_at I S k A.in1 xs[j] ys[j] v1 v2 u1 u2 (f j) hu1 (hf j _ _ (by simp[hj]) (by simp[hj2])) q1 q2 q3 q4
   obtain ⟨_,e5⟩:=List.getElem?_eq_some_iff.mp e3
   obtain ⟨_,e6⟩:=List.getElem?_eq_some_iff.mp e4
   have g1:its.toArray[j]=u1:=by simpa using e5
   have g2:its'.toArray[j]=u2:=by simpa using e6
   rw[g1,g2]
   exact z.it
  cases w with
  | tup xs =>
   obtain ⟨b,vs,its,rfl,rfl,r1,rv,p⟩:=tup_of I R ru
   cases w' with
   | tup ys =>
    obtain ⟨b',vs',its',rfl,rfl,r1',rv',p'⟩:=tup_of I R' ru'
    have rc:RcAt A s (.ref b) (.ref b') r/\RcNeAt A s (.ref b) (.ref b') (!r):=by
     replace h:(eqL (eqW m k) xs ys).map (· && decide (xs.length=ys.length))=some r:=h
     cases hr:eqL (eqW m k) xs ys with
     | none=>rw[hr] at h;cases h
     | some r' =>
      rw[hr] at h
      simp only[Option.map_some] at h
      cases h
      obtain ⟨f,hf,e,z1,z2⟩:=pairs r1 r1' rv rv' hr
      have e2:((List.range (min its.toArray.size its'.toArray.size)).all f && its.toArray.size == its'.toArray.size)=(r' && decide (xs.length=ys.length)):=by
       rw[e,z1,z2]
       congr 1
      exact ⟨e2 ▸ RcAt.tuples p p' hu0 hf,e2 ▸ RcNeAt.tuples p p' hu0 hf⟩
    refine ⟨?_,rc.1,rc.2⟩
    by_cases hb:b=b'
    ·subst hb
     have e:=rep_inj I S _ _ _ R R'
     rw[<- e] at h
     obtain rfl:=eqW_same _ _ _ h
     exact EqAt.same _
    ·exact EqAt.of_refs hb rc.1
   | ref l =>
    replace h:(if isLst m l && true then some false else none)=some r:=h
    split at h
    ·rename_i hl
     cases h
     obtain ⟨b',its',rfl,q⟩:=isLst_of S I (Bool.and_eq_true_iff.mp hl).1 R' ru'
     exact ⟨EqAt.tuple_list p q hu0,RcAt.tuple_list p q hu0,RcNeAt.tuple_list p q hu0⟩
    ·cases h
   | rol ys=>cases h
   | non =>
    cases h
    obtain rfl:=rep_non.mp R'
    obtain rfl:u'=.none:=ru'
    exact ⟨EqAt.tuple_none p hu0,RcAt.tuple_none p hu0,RcNeAt.tuple_none p hu0⟩
   | bl c =>
    cases h
    obtain rfl:=rep_bl.mp R'
    obtain rfl:u'=.bool c:=ru'
    exact ⟨EqAt.tuple_bool c p hu0,RcAt.tuple_bool c p hu0,RcNeAt.tuple_bool c p hu0⟩
   | int i =>
    cases h
    obtain rfl:=rep_int.mp R'
    obtain ⟨t,rfl⟩:=ru'
    exact ⟨EqAt.tuple_int i t p hu0,RcAt.tuple_int i t p hu0,RcNeAt.tuple_int i t p hu0⟩
   | str x =>
    cases h
    obtain rfl:=rep_str.mp R'
    obtain ⟨t,rfl⟩:=ru'
    exact ⟨EqAt.tuple_str _ t p hu0,RcAt.tuple_str _ t p hu0,RcNeAt.tuple_str _ t p hu0⟩
  | ref l =>
   cases w' with
   | ref l' =>
    obtain ⟨b,hb,rfl⟩:=rep_ref.mp R
    obtain ⟨b',hb',rfl⟩:=rep_ref.mp R'
    obtain rfl:u=.ref b:=ru
    obtain rfl:u'=.ref b':=ru'
    replace h:(if l=l' then (if isLst m l then some true else none) else match m[l]?,m[l']? with
     | some (.lst xs),some (.lst ys)=>if xs.length=ys.length then eqL (eqW m k) xs ys else some false
     | _,_=>none)=some r:=h
    by_cases hll:l=l'
    ·subst hll
     rw[hb] at hb';cases hb'
     rw[if_pos rfl] at h
     split at h
     ·rename_i hil
      cases h
      obtain ⟨c,its,ec,q⟩:=isLst_of S I hil R (u:=.ref b) rfl
      cases ec
      have al:(List.range its.size).all (fun _=>true)=true:=by simp
      have e1:=RcAt.lists (A:=A) (e:=fun _=>true) q q rfl hu0 (fun j h1 h2=>EqAt.same _)
      have e2:=RcNeAt.lists (A:=A) (e:=fun _=>true) q q rfl hu0 (fun j h1 h2=>EqAt.same _)
      rw[al] at e1 e2
      exact ⟨EqAt.same _,e1,e2⟩
     ·cases h
    ·rw[if_neg hll] at h
     have hbb:b ≠ b':=by
      rintro rfl
      obtain ⟨i1,e1⟩:=List.getElem?_eq_some_iff.mp hb
      obtain ⟨i2,e2⟩:=List.getElem?_eq_some_iff.mp hb'
      exact hll ((List.getElem_inj S.nd).mp (e1.trans e2.symm))
     split at h
     ·rename_i xs ys m1 m2
      obtain ⟨a1,vs,h1,g1,r1⟩:=lst_of S m1
      rw[hb] at h1;cases h1
      obtain ⟨a2,us,h2,g2,r2⟩:=lst_of S m2
      rw[hb'] at h2;cases h2
      obtain ⟨its,rv,p,_⟩:=I.list (SqL.of g1)
      obtain ⟨its',rv',p',_⟩:=I.list (SqL.of g2)
      split at h
      ·rename_i hl
       obtain ⟨f,hf,e,z1,z2⟩:=pairs r1 r2 rv rv' h
       have hsz:its.toArray.size=its'.toArray.size:=by rw[z1,z2,hl]
       rw[<- hsz,Nat.min_self] at e
       have e1:=RcAt.lists p.isList p'.isList hsz hu0 hf
       have e2:=RcNeAt.lists p.isList p'.isList hsz hu0 hf
       rw[<- e] at e1 e2
       exact ⟨EqAt.of_refs hbb e1,e1,e2⟩
      ·rename_i hl
       cases h
       have l1:=r1.length
       have l2:=r2.length
       have l3:=rv.length
       have l4:=rv'.length
       have hsz:(its.toArray.size != its'.toArray.size)=true:=by
        simp
        lia
       have e1:=RcAt.lists_lengths (A:=A) p.isList p'.isList hsz hu0
       exact ⟨EqAt.of_refs hbb e1,e1,RcNeAt.lists_lengths p.isList p'.isList hsz hu0⟩
     ·cases h
   | tup ys =>
    replace h:(if isLst m l && true then some false else none)=some r:=h
    split at h
    ·rename_i hl
     cases h
     obtain ⟨b,its,rfl,q⟩:=isLst_of S I (Bool.and_eq_true_iff.mp hl).1 R ru
     obtain ⟨b',vs',its',rfl,rfl,r1',rv',p'⟩:=tup_of I R' ru'
     exact ⟨EqAt.list_tuple q p' hu0,RcAt.list_tuple q p' hu0,RcNeAt.list_tuple q p' hu0⟩
    ·cases h
   | rol ys =>
    replace h:(if isLst m l && false then some false else none)=some r:=h
    simp only[Bool.and_false,Bool.false_eq_true,if_false] at h
    cases h
   | non =>
    replace h:(if isLst m l && true then some false else none)=some r:=h
    split at h
    ·rename_i hl
     cases h
     obtain ⟨b,its,rfl,q⟩:=isLst_of S I (Bool.and_eq_true_iff.mp hl).1 R ru
     obtain rfl:=rep_non.mp R'
     obtain rfl:u'=.none:=ru'
     exact ⟨EqAt.list_none q hu0,RcAt.list_none q hu0,RcNeAt.list_none q hu0⟩
    ·cases h
   | bl c =>
    replace h:(if isLst m l && true then some false else none)=some r:=h
    split at h
    ·rename_i hl
     cases h
     obtain ⟨b,its,rfl,q⟩:=isLst_of S I (Bool.and_eq_true_iff.mp hl).1 R ru
     obtain rfl:=rep_bl.mp R'
     obtain rfl:u'=.bool c:=ru'
     exact ⟨EqAt.list_bool c q hu0,RcAt.list_bool c q hu0,RcNeAt.list_bool c q hu0⟩
    ·cases h
   | int i =>
    replace h:(if isLst m l && true then some false else none)=some r:=h
    split at h
    ·rename_i hl
     cases h
     obtain ⟨b,its,rfl,q⟩:=isLst_of S I (Bool.and_eq_true_iff.mp hl).1 R ru
     obtain rfl:=rep_int.mp R'
     obtain ⟨t,rfl⟩:=ru'
     exact ⟨EqAt.list_int i t q hu0,RcAt.list_int i t q hu0,RcNeAt.list_int i t q hu0⟩
    ·cases h
   | str x =>
    replace h:(if isLst m l && true then some false else none)=some r:=h
    split at h
    ·rename_i hl
     cases h
     obtain ⟨b,its,rfl,q⟩:=isLst_of S I (Bool.and_eq_true_iff.mp hl).1 R ru
     obtain rfl:=rep_str.mp R'
     obtain ⟨t,rfl⟩:=ru'
     exact ⟨EqAt.list_str _ t q hu0,RcAt.list_str _ t q hu0,RcNeAt.list_str _ t q hu0⟩
    ·cases h
  | rol xs =>
   cases w' <;> first | cases h | (replace h:(if isLst m _ && false then some false else none)=some r:=h;simp at h)
  | non =>
   obtain rfl:=rep_non.mp R
   obtain rfl:u=.none:=ru
   cases w' with
   | rol ys=>cases h
   | ref l =>
    replace h:(if isLst m l && true then some false else none)=some r:=h
    split at h
    ·rename_i hl
     cases h
     obtain ⟨b,its,rfl,q⟩:=isLst_of S I (Bool.and_eq_true_iff.mp hl).1 R' ru'
     exact ⟨EqAt.none_list q hu0,RcAt.none_list q hu0,RcNeAt.none_list q hu0⟩
    ·cases h
   | tup ys =>
    cases h
    obtain ⟨b',vs',its',rfl,rfl,r1',rv',p'⟩:=tup_of I R' ru'
    exact ⟨EqAt.none_tuple p' hu0,RcAt.none_tuple p' hu0,RcNeAt.none_tuple p' hu0⟩
   | non =>
    cases h
    obtain rfl:=rep_non.mp R'
    obtain rfl:u'=.none:=ru'
    exact ⟨EqAt.same _,RcAt.none_none,RcNeAt.none_none⟩
   | bl c =>
    cases h
    obtain rfl:=rep_bl.mp R'
    obtain rfl:u'=.bool c:=ru'
    exact ⟨EqAt.none_bool c,RcAt.none_bool c,RcNeAt.none_bool c⟩
   | int i =>
    cases h
    obtain rfl:=rep_int.mp R'
    obtain ⟨t,rfl⟩:=ru'
    exact ⟨EqAt.none_int i t,RcAt.none_int i t,RcNeAt.none_int i t⟩
   | str x =>
    cases h
    obtain rfl:=rep_str.mp R'
    obtain ⟨t,rfl⟩:=ru'
    exact ⟨EqAt.none_str _ t,RcAt.none_str _ t,RcNeAt.none_str _ t⟩
  | bl c =>
   obtain rfl:=rep_bl.mp R
   obtain rfl:u=.bool c:=ru
   cases w' with
   | rol ys=>cases h
   | ref l =>
    replace h:(if isLst m l && true then some false else none)=some r:=h
    split at h
    ·rename_i hl
     cases h
     obtain ⟨b,its,rfl,q⟩:=isLst_of S I (Bool.and_eq_true_iff.mp hl).1 R' ru'
     exact ⟨EqAt.bool_list c q hu0,RcAt.bool_list c q hu0,RcNeAt.bool_list c q hu0⟩
    ·cases h
   | tup ys =>
    cases h
    obtain ⟨b',vs',its',rfl,rfl,r1',rv',p'⟩:=tup_of I R' ru'
    exact ⟨EqAt.bool_tuple c p' hu0,RcAt.bool_tuple c p' hu0,RcNeAt.bool_tuple c p' hu0⟩
   | non =>
    cases h
    obtain rfl:=rep_non.mp R'
    obtain rfl:u'=.none:=ru'
    exact ⟨EqAt.bool_none c,RcAt.bool_none c,RcNeAt.bool_none c⟩
   | bl d =>
    cases h
    obtain rfl:=rep_bl.mp R'
    obtain rfl:u'=.bool d:=ru'
    exact ⟨EqAt.bool_bool c d,RcAt.bool_bool c d,RcNeAt.bool_bool c d⟩
   | int i =>
    cases h
    obtain rfl:=rep_int.mp R'
    obtain ⟨t,rfl⟩:=ru'
    have e:decide (b2i c=i)=((if c then (1:Int) else 0) == i):=by
     show decide ((if c then (1:Int) else 0)=i)=_
     rw[Bool.beq_eq_decide_eq]
    rw[e]
    exact ⟨EqAt.bool_int c i t,RcAt.bool_int c i t,RcNeAt.bool_int c i t⟩
   | str x =>
    cases h
    obtain rfl:=rep_str.mp R'
    obtain ⟨t,rfl⟩:=ru'
    exact ⟨EqAt.bool_str c _ t,RcAt.bool_str c _ t,RcNeAt.bool_str c _ t⟩
  | int i =>
   obtain rfl:=rep_int.mp R
   obtain ⟨t,rfl⟩:=ru
   cases w' with
   | rol ys=>cases h
   | ref l =>
    replace h:(if isLst m l && true then some false else none)=some r:=h
    split at h
    ·rename_i hl
     cases h
     obtain ⟨b,its,rfl,q⟩:=isLst_of S I (Bool.and_eq_true_iff.mp hl).1 R' ru'
     exact ⟨EqAt.int_list i t q hu0,RcAt.int_list i t q hu0,RcNeAt.int_list i t q hu0⟩
    ·cases h
   | tup ys =>
    cases h
    obtain ⟨b',vs',its',rfl,rfl,r1',rv',p'⟩:=tup_of I R' ru'
    exact ⟨EqAt.int_tuple i t p' hu0,RcAt.int_tuple i t p' hu0,RcNeAt.int_tuple i t p' hu0⟩
   | non =>
    cases h
    obtain rfl:=rep_non.mp R'
    obtain rfl:u'=.none:=ru'
    exact ⟨EqAt.int_none i t,RcAt.int_none i t,RcNeAt.int_none i t⟩
   | bl d =>
    cases h
    obtain rfl:=rep_bl.mp R'
    obtain rfl:u'=.bool d:=ru'
    have e:decide (i=b2i d)=(i == (if d then (1:Int) else 0)):=by
     show decide (i=(if d then (1:Int) else 0))=_
     rw[Bool.beq_eq_decide_eq]
    rw[e]
    exact ⟨EqAt.int_bool i t d,RcAt.int_bool i t d,RcNeAt.int_bool i t d⟩
   | int j =>
    cases h
    obtain rfl:=rep_int.mp R'
    obtain ⟨t',rfl⟩:=ru'
    have e:decide (i=j)=(i == j):=by rw[Bool.beq_eq_decide_eq]
    rw[e]
    exact ⟨EqAt.int_int i t j t',RcAt.int_int i t j t',RcNeAt.int_int i t j t'⟩
   | str x =>
    cases h
    obtain rfl:=rep_str.mp R'
    obtain ⟨t',rfl⟩:=ru'
    exact ⟨EqAt.int_str i t _ t',RcAt.int_str i t _ t',RcNeAt.int_str i t _ t'⟩
  | str x =>
   obtain rfl:=rep_str.mp R
   obtain ⟨t,rfl⟩:=ru
   cases w' with
   | rol ys=>cases h
   | ref l =>
    replace h:(if isLst m l && true then some false else none)=some r:=h
    split at h
    ·rename_i hl
     cases h
     obtain ⟨b,its,rfl,q⟩:=isLst_of S I (Bool.and_eq_true_iff.mp hl).1 R' ru'
     exact ⟨EqAt.str_list _ t q hu0,RcAt.str_list _ t q hu0,RcNeAt.str_list _ t q hu0⟩
    ·cases h
   | tup ys =>
    cases h
    obtain ⟨b',vs',its',rfl,rfl,r1',rv',p'⟩:=tup_of I R' ru'
    exact ⟨EqAt.str_tuple _ t p' hu0,RcAt.str_tuple _ t p' hu0,RcNeAt.str_tuple _ t p' hu0⟩
   | non =>
    cases h
    obtain rfl:=rep_non.mp R'
    obtain rfl:u'=.none:=ru'
    exact ⟨EqAt.str_none _ t,RcAt.str_none _ t,RcNeAt.str_none _ t⟩
   | bl d =>
    cases h
    obtain rfl:=rep_bl.mp R'
    obtain rfl:u'=.bool d:=ru'
    exact ⟨EqAt.str_bool _ t d,RcAt.str_bool _ t d,RcNeAt.str_bool _ t d⟩
   | int j =>
    cases h
    obtain rfl:=rep_int.mp R'
    obtain ⟨t',rfl⟩:=ru'
    exact ⟨EqAt.str_int _ t j t',RcAt.str_int _ t j t',RcNeAt.str_int _ t j t'⟩
   | str y =>
    cases h
    obtain rfl:=rep_str.mp R'
    obtain ⟨t',rfl⟩:=ru'
    have e:decide (x=y)=((⟨x.toArray⟩:Str) == ⟨y.toArray⟩):=by
     by_cases hxy:x=y
     ·subst hxy;simp
     ·have:¬ (⟨x.toArray⟩:Str)=⟨y.toArray⟩:=fun z=>by
       injection z with z
       exact hxy (by simpa using congrArg Array.toList z)
      rw[decide_eq_false hxy]
      exact (beq_eq_false_iff_ne.mpr this).symm
    rw[e]
    exact ⟨EqAt.str_str _ t _ t',RcAt.str_str _ t _ t',RcNeAt.str_str _ t _ t'⟩
end
end Mini
namespace Mini
open PySem PySem.Spec PyProof.Rows L2
open PySem.SeqAt
noncomputable def cK:Co->CmpOp
 | .eq=>.Eq | .ne=>.NotEq | .lt=>.Lt | .le=>.LtE | .gt=>.Gt | .ge=>.GtE | .isN=>.Is | .notN=>.IsNot | .isin=>.In | .notin=>.NotIn
def rC (K:PySem.W.Frag) (op:Co):R2:=fun x y H Q=>∃ as m w w',Sim K as m H/\Rep K as H w x/\Rep K as H w' y/\Post K as H Q (cop op w w' m)
section
variable {X : Cx}
theorem ofB_ok {K:PySem.W.Frag}{as:List Addr}{H:Hp}{m:Me}{Q:VK}{o:Option Bool}(S:Sim K as m H) (h:Post K as H Q (ofB o m)):∃ b,o=some b/\Q (.bl b) H:=by
 cases o with
 | none=>exact h.elim
 | some b=>exact ⟨b,rfl,h.ok S (rep_bl.mpr rfl)⟩
theorem inL_all {p:Wd->Wd->Option Bool}{x:Wd}:∀ {ys:List Wd}{r:Bool},inL p x ys=some r ->
  ∃ f:Wd->Bool,(∀ y ∈ ys,p y x=some (f y))/\r=ys.any f
 | [],r,h=>by cases h;exact ⟨fun _=>false,fun y hy=>by simp at hy,rfl⟩
 | y::ys,r,h=>by
  unfold inL at h
  cases hp:p y x with
  | none=>rw[hp] at h;cases h
  | some b =>
   rw[hp] at h
   simp only[] at h
   cases hr:inL p x ys with
   | none=>rw[hr] at h;cases h
   | some r' =>
    rw[hr] at h
    cases h
    obtain ⟨f,hf,rfl⟩:=inL_all hr
    classical
    refine ⟨fun z=>(p z x).getD false,fun z hz=>?_,?_⟩
    ·rcases List.mem_cons.mp hz with rfl | hz
     ·simp only[hp,Option.getD_some]
     ·simp only[hf z hz,Option.getD_some]
    ·rw[List.any_cons,hp]
     congr 1
     refine Bool.eq_iff_iff.mpr ?_
     rw[List.any_eq_true,List.any_eq_true]
     constructor
     ·rintro ⟨z,hz,e⟩
      exact ⟨z,hz,by rw[hf z hz];exact e⟩
     ·rintro ⟨z,hz,e⟩
      rw[hf z hz] at e
      exact ⟨z,hz,e⟩
theorem in_items {pins:List (Addr × Obj)}{σ:St}{s:Shared}{as:List Addr}{H:Hp}{m:Me}{A:Around}(I:Inv X pins σ H s) (S:Sim X.K as m H) (hu:A.units+deep < cLine) {w:Wd}{v:V}{u:Value}{ys:List Wd}{vs:List V}{its:List Value}{r:Bool}
  (R:Rep X.K as H w v) (ru:RelV v u) (ry:RepL X.K as H ys vs) (rv:Vals vs its) (h:inL (eqW m deep) w ys=some r) :
  ∃ e:Value->Bool,(∀ y,y ∈ its.toArray->EqAt A s y u (e y))/\its.toArray.any e=r:=by
 obtain ⟨f,hf,rfl⟩:=inL_all h
 classical
 -- the plain value of an item
 have pick:∀ y,y ∈ its->∃ z,z ∈ ys/\∃ vz,Rep X.K as H z vz/\RelV vz y:=fun y hy=>by
  obtain ⟨j,hj,rfl⟩:=List.mem_iff_getElem.mp hy
  have l1:=ry.length
  have l2:=rv.length
  have hj1:j < vs.length:=by lia
  obtain ⟨u1,e1,q1⟩:=rv.get (i:=j) (x:=vs[j]) (by simp[hj1])
  obtain ⟨z,e2,q2⟩:=ry.back (i:=j) (v:=vs[j]) (by simp[hj1])
  obtain ⟨_,e3⟩:=List.getElem?_eq_some_iff.mp e1
  exact ⟨z,List.mem_of_getElem? e2,vs[j],q2,by rw[e3];exact q1⟩
 let e:Value->Bool:=fun y=>if hy:y ∈ its then f (Classical.choose (pick y hy)) else false
 have he:∀ y (hy:y ∈ its) z vz,z ∈ ys->Rep X.K as H z vz->RelV vz y->e y=f z:=fun y hy z vz hz hr hq=>by
  obtain ⟨h1,vz',h2,h3⟩:=Classical.choose_spec (pick y hy)
  have:e y=f (Classical.choose (pick y hy)):=dif_pos hy
  rw[this]
  have hv:vz'=vz:=h3.inj hq
  subst hv
  rw[rep_inj I S _ _ _ h2 hr]
 refine ⟨e,fun y hy=>?_,?_⟩
 ·have hy':y ∈ its:=by simpa using hy
  obtain ⟨z,hz,vz,q1,q2⟩:=pick y hy'
  rw[he y hy' z vz hz q1 q2]
  exact (eq_at I S deep A z w vz v y u (f z) hu (hf z hz) q1 R q2 ru).it
 ·refine Bool.eq_iff_iff.mpr ?_
  rw[List.any_toArray,List.any_eq_true,List.any_eq_true]
  constructor
  ·rintro ⟨y,hy,ey⟩
   obtain ⟨z,hz,vz,q1,q2⟩:=pick y hy
   rw[he y hy z vz hz q1 q2] at ey
   exact ⟨z,hz,ey⟩
  ·rintro ⟨z,hz,ez⟩
   obtain ⟨j,hj,rfl⟩:=List.mem_iff_getElem.mp hz
   obtain ⟨v1,e1,q1⟩:=ry.get (i:=j) (x:=ys[j]) (by simp[hj])
   obtain ⟨u1,e2,q2⟩:=rv.get e1
   have hy:u1 ∈ its:=List.mem_of_getElem? e2
   exact ⟨u1,hy,by rw[he u1 hy ys[j] v1 (List.getElem_mem hj) q1 q2];exact ez⟩
set_option tactic.hygienic true in
theorem op_rC (hu:X.A.units+64 < cLine) (op:Co):OpR X (compareOp (cK op)) (rC X.K op):=by
 intro pins s σ H x y v u Q I rx ry h
 obtain ⟨as,m,w,w',S,R,R',q⟩:=h
 have hd:deep=12:=rfl
 have fin:∀ {b:Bool},Q (.bl b) H->EP X pins σ Q (.bool b) s:=fun {b} q=>⟨.bl b,H,I,rfl,q⟩
 have cmpI:∀ {r:Int->Int->Bool},Post X.K as H Q (cmpII r w w' m)->∃ i j,x=.int i/\y=.int j/\Q (.bl (r i j)) H:=fun {r} q=>by
  unfold cmpII at q
  cases w with
  | int i =>
   cases w' with
   | int j=>exact ⟨i,j,rep_int.mp R,rep_int.mp R',q.ok S (rep_bl.mpr rfl)⟩
   | _=>exact q.elim
  | _=>exact q.elim
 cases op with
 | eq =>
  obtain ⟨b,hb,q⟩:=ofB_ok S q
  exact (eq_at I S deep X.A w w' x y v u b (by lia) hb R R' rx ry).eq X.prog X.w X.xe _ (fin q)
 | ne =>
  obtain ⟨b,hb,q⟩:=ofB_ok S q
  obtain ⟨c,hc,rfl⟩:=Option.map_eq_some_iff.mp hb
  exact (eq_at I S deep X.A w w' x y v u c (by lia) hc R R' rx ry).ne X.prog X.w X.xe _ (fin q)
 | isin =>
  simp only[cop] at q
  split at q
  ·rename_i ys hs
   obtain ⟨b,hb,q⟩:=ofB_ok S q
   obtain ⟨p,vs,rfl,hq,r⟩:=seq_of S R' hs
   obtain rfl:u=.ref p:=ry
   rcases hq with hq | hq
   ·obtain ⟨its,rv,pl,_⟩:=I.list hq
    obtain ⟨e,he,rfl⟩:=in_items (A:=X.A.in1) I S (by show X.A.units+1+deep < cLine;lia) R rx r rv hb
    exact in_listAt e pl.isList he (fin q)
   ·obtain ⟨its,rv,pl,_⟩:=I.tuple hq
    obtain ⟨e,he,rfl⟩:=in_items (A:=X.A.in1) I S (by show X.A.units+1+deep < cLine;lia) R rx r rv hb
    exact in_tupleAt e (show s.heap.IsTuple p its.toArray from pl) he (fin q)
  ·exact q.elim
 | notin =>
  simp only[cop] at q
  split at q
  ·rename_i ys hs
   obtain ⟨b,hb,q⟩:=ofB_ok S q
   obtain ⟨c,hc,rfl⟩:=Option.map_eq_some_iff.mp hb
   obtain ⟨p,vs,rfl,hq,r⟩:=seq_of S R' hs
   obtain rfl:u=.ref p:=ry
   rcases hq with hq | hq
   ·obtain ⟨its,rv,pl,_⟩:=I.list hq
    obtain ⟨e,he,rfl⟩:=in_items (A:=X.A.in1) I S (by show X.A.units+1+deep < cLine;lia) R rx r rv hc
    exact notIn_listAt e pl.isList he (fin q)
   ·obtain ⟨its,rv,pl,_⟩:=I.tuple hq
    obtain ⟨e,he,rfl⟩:=in_items (A:=X.A.in1) I S (by show X.A.units+1+deep < cLine;lia) R rx r rv hc
    exact notIn_tupleAt e (show s.heap.IsTuple p its.toArray from pl) he (fin q)
  ·exact q.elim
 | isN =>
  refine op_isN pins s σ H x y v u Q I rx ry ?_
  simp only[cop] at q
  split at q
  ·exact ⟨rep_non.mp R',by rw[rep_non.mp R];exact q.ok S (rep_bl.mpr rfl)⟩
  ·rename_i hne
   refine ⟨rep_non.mp R',?_⟩
   have:x ≠ .non:=fun z=>by
    subst z
    exact hne (rep_inj I S _ _ _ R (rep_non.mpr rfl))
   rw[decide_eq_false this]
   exact q.ok S (rep_bl.mpr rfl)
  ·exact q.elim
 | notN =>
  refine op_notN pins s σ H x y v u Q I rx ry ?_
  simp only[cop] at q
  split at q
  ·exact ⟨rep_non.mp R',by rw[rep_non.mp R];exact q.ok S (rep_bl.mpr rfl)⟩
  ·rename_i hne
   refine ⟨rep_non.mp R',?_⟩
   have:x ≠ .non:=fun z=>by
    subst z
    exact hne (rep_inj I S _ _ _ R (rep_non.mpr rfl))
   rw[decide_eq_false this]
   exact q.ok S (rep_bl.mpr rfl)
  ·exact q.elim
 | lt=>exact op_lt pins s σ H x y v u Q I rx ry (cmpI q)
 | le=>exact op_le pins s σ H x y v u Q I rx ry (cmpI q)
 | gt=>exact op_gt pins s σ H x y v u Q I rx ry (cmpI (r:=fun i j=>decide (j < i)) q)
 | ge=>exact op_ge pins s σ H x y v u Q I rx ry (cmpI (r:=fun i j=>decide (j<=i)) q)
end
end Mini
namespace Mini
open PySem PySem.Spec PyProof.Rows L2
section
variable {K : PySem.W.Frag} {as as' : List Addr} {H H' : Hp} {m m' : Me} {Q : VK} {X : Cx}
noncomputable def bltV:Blf->Option (Str × Value)
 | .len=>some ("len",.builtin "len")
 | .int=>some ("int",.type "int")
 | .list=>some ("list",.type "list")
 | .tuple=>some ("tuple",.type "tuple")
 | .abs=>some ("abs",.builtin "abs")
 | .max2=>some ("max",.builtin "max")
 | .min2=>some ("min",.builtin "min")
 | .sum=>some ("sum",.builtin "sum")
 | .all=>some ("all",.builtin "all")
 | _=>none
def rBl (K:PySem.W.Frag) (b:Blf):List V->Hp->VK->Prop:=fun vs H Q=>∃ as m ws,Sim K as m H/\RepL K as H ws vs/\Post K as H Q (bltR b ws m)
theorem repL_1 {x:Wd}{vs:List V}(h:RepL K as H [x] vs):∃ v,vs=[v]/\Rep K as H x v:=by
 obtain ⟨v,r,rfl,q,t⟩:=repL_cons.mp h
 obtain rfl:=repL_nil.mp t
 exact ⟨v,rfl,q⟩
theorem repL_2 {x y:Wd}{vs:List V}(h:RepL K as H [x,y] vs):∃ v u,vs=[v,u]/\Rep K as H x v/\Rep K as H y u:=by
 obtain ⟨v,r,rfl,q,t⟩:=repL_cons.mp h
 obtain ⟨u,rfl,q'⟩:=repL_1 t
 exact ⟨v,u,rfl,q,q'⟩
theorem ls_of {w:Wd}{v:V}{xs:List Wd}(S:Sim K as m H) (R:Rep K as H w v) (h:lsOf m w=some xs):∃ p vs,v=.ref p/\SqL K H p vs/\RepL K as H xs vs:=by
 cases w with
 | rol ys =>
  cases h
  obtain ⟨a,vs,rfl,hq,rr⟩:=rep_rol.mp R
  exact ⟨a,vs,rfl,hq.sq,rr⟩
 | ref l =>
  obtain ⟨b,hb,rfl⟩:=rep_ref.mp R
  obtain ⟨a,vs,ha,e,r⟩:=lst_of S (lstAt_some h)
  rw[hb] at ha
  cases ha
  exact ⟨b,vs,rfl,SqL.of e,r⟩
 | _=>cases h
theorem sum_rep:∀ {xs:List Wd}{vs:List V}{i:Int},RepL K as H xs vs->sumL xs=some i->∃ ns:List Int,vs=ns.map V.int/\ns.sum=i
 | [],vs,i,R,h=>by cases h;exact ⟨[],repL_nil.mp R,rfl⟩
 | x::xs,vs,i,R,h=>by
  obtain ⟨v,r,rfl,q,t⟩:=repL_cons.mp R
  cases x with
  | int j =>
   simp only[sumL,Option.map_eq_some_iff] at h
   obtain ⟨k,hk,rfl⟩:=h
   obtain ⟨ns,rfl,rfl⟩:=sum_rep t hk
   obtain rfl:=rep_int.mp q
   exact ⟨j::ns,rfl,by simp⟩
  | _=>cases h
theorem all_rep:∀ {xs:List Wd}{vs:List V}{i:Bool},RepL K as H xs vs->allL xs=some i->∃ bs:List Bool,vs=bs.map V.bl/\bs.all id=i
 | [],vs,i,R,h=>by cases h;exact ⟨[],repL_nil.mp R,rfl⟩
 | x::xs,vs,i,R,h=>by
  obtain ⟨v,r,rfl,q,t⟩:=repL_cons.mp R
  cases x with
  | bl j =>
   simp only[allL,Option.map_eq_some_iff] at h
   obtain ⟨k,hk,rfl⟩:=h
   obtain ⟨ns,rfl,rfl⟩:=all_rep t hk
   obtain rfl:=rep_bl.mp q
   exact ⟨j::ns,rfl,by simp⟩
  | _=>cases h
theorem post_sq {o:Option (List Wd)}{f:(List Wd)->Rz}(h:Post K as H Q (match o with | some a=>f a | none=>.no)):∃ a,o=some a/\Post K as H Q (f a):=by
 cases o with
 | none=>exact h.elim
 | some a=>exact ⟨a,rfl,h⟩
theorem post_in {o:Option Int}{f:Int->Rz}(h:Post K as H Q (match o with | some a=>f a | none=>.no)):∃ a,o=some a/\Post K as H Q (f a):=by
 cases o with
 | none=>exact h.elim
 | some a=>exact ⟨a,rfl,h⟩
theorem post_bo {o:Option Bool}{f:Bool->Rz}(h:Post K as H Q (match o with | some a=>f a | none=>.no)):∃ a,o=some a/\Post K as H Q (f a):=by
 cases o with
 | none=>exact h.elim
 | some a=>exact ⟨a,rfl,h⟩
set_option tactic.hygienic true in
theorem call_rBl (hc:X.calm=true) {b:Blf}{nm:Str}{f:Value}(hb:bltV b=some (nm,f)):CallR X f (rBl X.K b):=by
 intro pins s σ H xs us Q I r h
 obtain ⟨as,m,ws,S,R,q⟩:=h
 cases b with
 | len =>
  cases hb
  refine call_len_seq pins s σ H xs us Q I r ?_
  rcases ws with _ | ⟨x,_ | ⟨_,_⟩⟩
  ·exact q.elim
  ·obtain ⟨ys,hs,q⟩:=post_sq (o:=seqOf m x) (f:=fun ys=>.ok (.int ys.length) m) q
   obtain ⟨v,rfl,q1⟩:=repL_1 R
   obtain ⟨p,vs,rfl,hq,rr⟩:=seq_of S q1 hs
   refine ⟨p,vs,rfl,hq,?_⟩
   rw[<- rr.length]
   exact q.ok S (rep_int.mpr rfl)
  ·exact q.elim
 | int =>
  cases hb
  refine call_int1 pins s σ H xs us Q I r ?_
  cases ws with
  | nil=>exact q.elim
  | cons x ws =>
   cases x with
   | int i =>
    cases ws with
    | nil =>
     obtain ⟨v,rfl,q1⟩:=repL_1 R
     obtain rfl:=rep_int.mp q1
     exact .inl ⟨i,rfl,q.ok S (rep_int.mpr rfl)⟩
    | cons _ _=>exact q.elim
   | bl i =>
    cases ws with
    | nil =>
     obtain ⟨v,rfl,q1⟩:=repL_1 R
     obtain rfl:=rep_bl.mp q1
     exact .inr ⟨i,rfl,q.ok S (rep_int.mpr rfl)⟩
    | cons _ _=>exact q.elim
   | _=>exact q.elim
 | list =>
  cases hb
  refine call_list_of pins s σ H xs us Q I r ?_
  rcases ws with _ | ⟨x,_ | ⟨_,_⟩⟩
  ·exact q.elim
  ·obtain ⟨ys,hs,q⟩:=post_sq (o:=seqOf m x) (f:=fun ys=>alloc m ys) q
   obtain ⟨v,rfl,q1⟩:=repL_1 R
   obtain ⟨p,vs,rfl,hq,rr⟩:=seq_of S q1 hs
   exact ⟨p,vs,rfl,hq,(alloc_ok S rr q).2⟩
  ·exact q.elim
 | tuple =>
  cases hb
  refine call_tuple_of pins s σ H xs us Q I r ?_
  rcases ws with _ | ⟨x,_ | ⟨_,_⟩⟩
  ·exact q.elim
  ·obtain ⟨ys,hs,q⟩:=post_sq (o:=seqOf m x) (f:=fun ys=>.ok (.tup ys) m) q
   obtain ⟨v,rfl,q1⟩:=repL_1 R
   obtain ⟨p,vs,rfl,hq,rr⟩:=seq_of S q1 hs
   refine ⟨p,vs,rfl,?_⟩
   rcases hq with hq | hq
   ·refine .inl ⟨hq,fun l hl=>?_⟩
    obtain ⟨T,S',R'⟩:=S.tup hl rr
    exact q _ _ _ T S' R'
   ·exact .inr ⟨hq,q.ok S (rep_tup.mpr ⟨p,vs,rfl,hq,rr⟩)⟩
  ·exact q.elim
 | abs =>
  cases hb
  refine call_abs pins s σ H xs us Q I r ?_
  cases ws with
  | nil=>exact q.elim
  | cons x ws =>
   cases x with
   | int i =>
    cases ws with
    | nil =>
     obtain ⟨v,rfl,q1⟩:=repL_1 R
     obtain rfl:=rep_int.mp q1
     exact ⟨i,rfl,q.ok S (rep_int.mpr rfl)⟩
    | cons _ _=>exact q.elim
   | _=>exact q.elim
 | sum =>
  cases hb
  refine call_sum_of hc pins s σ H xs us Q I r ?_
  rcases ws with _ | ⟨x,_ | ⟨_,_⟩⟩
  ·exact q.elim
  ·obtain ⟨i,hs,q⟩:=post_in (o:=(lsOf m x).bind sumL) (f:=fun i=>.ok (.int i) m) q
   obtain ⟨ys,h1,h2⟩:=Option.bind_eq_some_iff.mp hs
   obtain ⟨v,rfl,q1⟩:=repL_1 R
   obtain ⟨p,vs,rfl,hq,rr⟩:=ls_of S q1 h1
   obtain ⟨ns,rfl,rfl⟩:=sum_rep rr h2
   exact ⟨p,ns,rfl,hq,q.ok S (rep_int.mpr rfl)⟩
  ·exact q.elim
 | all =>
  cases hb
  refine call_all_of hc pins s σ H xs us Q I r ?_
  rcases ws with _ | ⟨x,_ | ⟨_,_⟩⟩
  ·exact q.elim
  ·obtain ⟨i,hs,q⟩:=post_bo (o:=(lsOf m x).bind allL) (f:=fun i=>.ok (.bl i) m) q
   obtain ⟨ys,h1,h2⟩:=Option.bind_eq_some_iff.mp hs
   obtain ⟨v,rfl,q1⟩:=repL_1 R
   obtain ⟨p,vs,rfl,hq,rr⟩:=ls_of S q1 h1
   obtain ⟨ns,rfl,rfl⟩:=all_rep rr h2
   exact ⟨p,ns,rfl,hq,q.ok S (rep_bl.mpr rfl)⟩
  ·exact q.elim
 | max2 =>
  cases hb
  refine call_max2 hc pins s σ H xs us Q I r ?_
  cases ws with
  | nil=>exact q.elim
  | cons x ws =>
   cases x with
   | int i =>
    cases ws with
    | nil=>exact q.elim
    | cons y ws =>
     cases y with
     | int j =>
      cases ws with
      | nil =>
       obtain ⟨v,u,rfl,q1,q2⟩:=repL_2 R
       obtain rfl:=rep_int.mp q1
       obtain rfl:=rep_int.mp q2
       exact ⟨i,j,rfl,q.ok S (rep_int.mpr rfl)⟩
      | cons _ _=>exact q.elim
     | _=>exact q.elim
   | _=>exact q.elim
 | min2 =>
  cases hb
  refine call_min2 hc pins s σ H xs us Q I r ?_
  cases ws with
  | nil=>exact q.elim
  | cons x ws =>
   cases x with
   | int i =>
    cases ws with
    | nil=>exact q.elim
    | cons y ws =>
     cases y with
     | int j =>
      cases ws with
      | nil =>
       obtain ⟨v,u,rfl,q1,q2⟩:=repL_2 R
       obtain rfl:=rep_int.mp q1
       obtain rfl:=rep_int.mp q2
       exact ⟨i,j,rfl,q.ok S (rep_int.mpr rfl)⟩
      | cons _ _=>exact q.elim
     | _=>exact q.elim
   | _=>exact q.elim
 | _=>cases hb
set_option tactic.hygienic true in
theorem idx_ok {x y:Wd}{v u:V}(S:Sim K as m H) (R:Rep K as H x v) (R':Rep K as H y u) (h:Post K as H Q (idxR x y m)):rIx K v u H Q:=by
 unfold idxR at h
 split at h
 ·rename_i i
  obtain rfl:=rep_int.mp R'
  split at h
  ·rename_i xs hs
   split at h
   ·rename_i w hw
    obtain ⟨p,vs,rfl,hq,rr⟩:=seq_of S R hs
    have e:∃ z,atI vs i=some z/\Rep K as H w z:=by
     obtain ⟨j,hj,hx⟩:=Option.bind_eq_some_iff.mp hw
     obtain ⟨z,hz,rz⟩:=rr.get hx
     refine ⟨z,?_,rz⟩
     unfold atI
     have hj':ixN vs.length i=some j:=by rw[<- rr.length];exact hj
     rw[hj']
     exact hz
    obtain ⟨z,hz,rz⟩:=e
    rcases hq with hq | hq
    ·exact .inl ⟨p,vs,i,z,rfl,rfl,hq,hz,h.ok S rz⟩
    ·exact .inr (.inl ⟨p,vs,i,z,rfl,rfl,hq,hz,h.ok S rz⟩)
   ·exact h.elim
  ·exact h.elim
 ·exact h.elim
noncomputable def tgT:Tg->String
 | .int => "int" | .bool => "bool" | .list => "list" | .tuple => "tuple" | .str => "str" | .dict => "dict"
theorem kit_all (K:PySem.W.Frag) (t:Tg) :
  PySem.W.kitOne K (.type "NoneType") (.type (tgT t))=some false/\PySem.W.kitOne K (.type "bool") (.type (tgT t))=some (decide (t=.bool\/t=.int))/\PySem.W.kitOne K (.type "int") (.type (tgT t))=some (decide (t=.int)) /\
  PySem.W.kitOne K (.type "str") (.type (tgT t))=some (decide (t=.str))/\PySem.W.kitOne K (.type "list") (.type (tgT t))=some (decide (t=.list))/\PySem.W.kitOne K (.type "tuple") (.type (tgT t))=some (decide (t=.tuple)):=by
 cases t <;> refine ⟨?_,?_,?_,?_,?_,?_⟩ <;> kernel_rfl
def rIsi (K:PySem.W.Frag) (t:Tg):List V->Hp->VK->Prop:=fun vs H Q=>∃ as m w v,vs=[v,.ty (tgT t)]/\Sim K as m H/\Rep K as H w v/\Post K as H Q (ofB (isT t w m) m)
theorem isT_at (m:Me) (t:Tg):isT t .non m=some false/\(∀ c,isT t (.bl c) m=some (decide (t=.bool\/t=.int)))/\(∀ i,isT t (.int i) m=some (decide (t=.int)))/\(∀ x,isT t (.str x) m=some (decide (t=.str)))/\(∀ ys,isT t (.tup ys) m=some (decide (t=.tuple)))/\(∀ ys,isT t (.rol ys) m=some (decide (t=.list)))/\∀ l ys,m[l]?=some (.lst ys)->isT t (.ref l) m=some (decide (t=.list)):=by
 refine ⟨?_,fun c=>?_,fun i=>?_,fun x=>?_,fun ys=>?_,fun ys=>?_,fun l ys h=>?_⟩
 rotate_right
 ·have e:isT t (.ref l) m=(match m[l]? with | some (.lst _)=>some (decide (t=.list)) | some (.dct _)=>some (decide (t=.dict)) | none=>none):=by cases t <;> rfl
  rw[e,h]
 all_goals cases t <;> rfl
theorem call_isi (t:Tg):CallR X (.builtin "isinstance") (rIsi X.K t):=by
 intro pins s σ H xs us Q I r h
 obtain ⟨as,m,w,v,rfl,S,R,q⟩:=h
 obtain ⟨b,hb,q⟩:=ofB_ok S q
 obtain ⟨u,u',rfl,ru,ru'⟩:=vals2 r
 obtain rfl:u'=.type (tgT t):=ru'
 obtain ⟨k1,k2,k3,k4,k5,k6⟩:=kit_all X.K t
 obtain ⟨z1,z2,z3,z4,z5,z6,z7⟩:=isT_at m t
 have fin:∀ tk,EP X pins σ Q (.bool b) { s with toks:=tk }:=fun tk=>⟨.bl b,H,I.tok tk,rfl,q⟩
 cases w with
 | non =>
  obtain rfl:=rep_non.mp R
  have e:b=false:=Option.some.inj (hb.symm.trans z1)
  subst e
  exact isinst_ok I ru .non k1 fin
 | bl c =>
  obtain rfl:=rep_bl.mp R
  have e:b=decide (t=.bool\/t=.int):=Option.some.inj (hb.symm.trans (z2 _))
  subst e
  exact isinst_ok I ru (.bl c) k2 fin
 | int i =>
  obtain rfl:=rep_int.mp R
  have e:b=decide (t=.int):=Option.some.inj (hb.symm.trans (z3 _))
  subst e
  exact isinst_ok I ru (.int i) k3 fin
 | str x =>
  obtain rfl:=rep_str.mp R
  have e:b=decide (t=.str):=Option.some.inj (hb.symm.trans (z4 _))
  subst e
  exact isinst_ok I ru (.str _) k4 fin
 | tup ys =>
  obtain ⟨a,vs,rfl,hq,rr⟩:=rep_tup.mp R
  have e:b=decide (t=.tuple):=Option.some.inj (hb.symm.trans (z5 _))
  subst e
  obtain rfl:u=.ref a:=ru
  obtain ⟨its,_,⟨o,h1,h2,_⟩,_⟩:=I.tuple hq
  exact PySem.W.kia_one PySem.W.kitx_tuple I.kIn ⟨o,h1,h2⟩ k6 (fun z=>nomatch z) fin
 | rol ys =>
  obtain ⟨a,vs,rfl,hq,rr⟩:=rep_rol.mp R
  have e:b=decide (t=.list):=Option.some.inj (hb.symm.trans (z6 _))
  subst e
  obtain rfl:u=.ref a:=ru
  obtain ⟨its,_,p,_⟩:=I.list hq.sq
  obtain ⟨o,n,h1,h2,_⟩:=p
  exact PySem.W.kia_one PySem.W.kitx_list I.kIn ⟨o,h1,h2⟩ k5 (fun z=>nomatch z) fin
 | ref l =>
  obtain ⟨a,ha,rfl⟩:=rep_ref.mp R
  obtain ⟨us,e2⟩:=S.isLst (List.mem_of_getElem? ha)
  have hl:∃ ys,m[l]?=some (.lst ys):=by
   have hl:l < m.length:=by rw[<- S.len];exact (List.getElem?_eq_some_iff.mp ha).1
   have z:=S.obj l a m[l] ha (by simp[hl])
   cases e:m[l] with
   | lst ys=>exact ⟨ys,by rw[<- e];simp[hl]⟩
   | dct kvs=>rw[e] at z;exact z.elim
  obtain ⟨ys,hl⟩:=hl
  have e:b=decide (t=.list):=Option.some.inj (hb.symm.trans (z7 _ _ hl))
  subst e
  exact isinst_ok I ru (.lst e2) k5 fin
end
end Mini
namespace Mini
open PySem PySem.Spec PyProof.Rows L2
structure SeqIt (J:It) (vs:List V) (ok:Hp->Prop):Prop where
 go:∀ i H,ok H->i < vs.length->J.go i H
 yld:∀ i H x H',ok H->i < vs.length->J.yld i H x H'->H'=H/\vs[i]?=some x
 stop:∀ i H,ok H->vs.length<=i->J.stop i H
def TupIt (K:PySem.W.Frag) (as:List Addr) (H:Hp) (J:It) (xs:List Wd):Prop :=
 ∃ vs ok,SeqIt J vs ok/\ok H/\RepL K as H xs vs/\∀ H1 H2,Kp K H1 H2->ok H1->ok H2
def ItOf (K:PySem.W.Frag) (as:List Addr) (H:Hp) (w:Wd) (J:It):Prop:=match w with
 | .tup xs=>TupIt K as H J xs
 | .rol xs=>TupIt K as H J xs
 | .ref l=>∃ a,as[l]?=some a/\J=Itl K a
 | _=>True
def PostI (K:PySem.W.Frag) (as:List Addr) (H:Hp) (R:It->Hp->Prop) (r:Rz):Prop:=match r with
 | .ok w m'=>(seqOf m' w).isSome=true/\∀ as' H' J,Step as H as' H'->Sim K as' m' H'->ItOf K as' H' w J->R J H'
 | _=>False
def iOf (K:PySem.W.Frag) (g:En->Me->Rz):TI:=fun σ H R=>∃ as env m,Sim K as m H/\EnvRep K as H env σ/\PostI K as H R (g env m)
theorem PI.or {X:Cx}{tg e:Expr}{a b:TI}(h1:PI X tg e a) (h2:PI X tg e b):PI X tg e (fun σ H R=>a σ H R\/b σ H R):=fun pins s σ H R I h=>by
 rcases h with h | h
 ·exact h1 pins s σ H R I h
 ·exact h2 pins s σ H R I h
theorem PI.imp {X:Cx}{tg e:Expr}{a b:TI}(h:PI X tg e a) (k:∀ σ H R,b σ H R->a σ H R):PI X tg e b:=fun pins s σ H R I q=>h pins s σ H R I (k σ H R q)
theorem pi_of {X:Cx}{tg x:Expr}{g:En->Me->Rz}(h:PE X x (tOf X.K g)):PI X tg x (iOf X.K g):=by
 refine PI.imp (PI.or (pi_list h) (pi_tup h)) fun σ H R q=>?_
 obtain ⟨as,env,m,S,G,P⟩:=q
 cases hr:g env m with
 | no=>rw[hr] at P;exact P.elim
 | exc c w m'=>rw[hr] at P;exact P.elim
 | ok w m' =>
  rw[hr] at P
  obtain ⟨hs,P⟩:=P
  obtain ⟨xs,hs⟩:=Option.isSome_iff_exists.mp hs
  cases w with
  | tup ys =>
   refine .inr ⟨as,env,m,S,G,?_⟩
   rw[hr]
   intro as' H' v T S' R'
   obtain ⟨a,vs,rfl,hq,rr⟩:=rep_tup.mp R'
   refine ⟨a,rfl,⟨vs,hq⟩,P as' H' _ T S' ⟨vs,fun H=>SqT X.K H a vs,⟨fun i H h hi=>⟨vs,vs[i],h,by simp[hi]⟩,fun i H x H' h hi q=>⟨q.1,q.2 vs h⟩,fun i H h hi=>⟨vs,h,hi⟩⟩,hq,rr,fun H1 H2 k h=>k.t _ _ h⟩⟩
  | rol ys =>
   refine .inl ⟨as,env,m,S,G,?_⟩
   rw[hr]
   intro as' H' v T S' R'
   obtain ⟨a,vs,rfl,hq,rr⟩:=rep_rol.mp R'
   refine ⟨a,rfl,⟨vs,hq.sq⟩,P as' H' _ T S' ⟨vs,fun H=>SqF X.K H a vs,⟨fun i H h hi=>⟨vs,vs[i],h.sq,by simp[hi]⟩,fun i H x H' h hi q=>⟨q.1,q.2 vs h.sq⟩,fun i H h hi=>⟨vs,h.sq,hi⟩⟩,hq,rr,fun H1 H2 k h=>k.f _ _ h⟩⟩
  | ref l =>
   refine .inl ⟨as,env,m,S,G,?_⟩
   rw[hr]
   intro as' H' v T S' R'
   obtain ⟨a,ha,rfl⟩:=rep_ref.mp R'
   obtain ⟨us,e⟩:=S'.isLst (List.mem_of_getElem? ha)
   exact ⟨a,rfl,⟨us,SqL.of e⟩,P as' H' _ T S' ⟨a,ha,rfl⟩⟩
  | non=>cases hs
  | bl b=>cases hs
  | int i=>cases hs
  | str x=>cases hs
theorem rngL_rep {K:PySem.W.Frag}{as:List Addr}{H:Hp}(st:Int):∀ (n:Nat) (lo:Int),RepL K as H (rngL lo st n) ((List.range n).map fun (i:Nat)=>V.int (lo+st * (i:Int)))
 | 0,lo=>repL_nil.mpr rfl
 | n+1,lo=>by
  rw[List.range_succ_eq_map,List.map_cons,List.map_map]
  refine repL_cons.mpr ⟨_,_,rfl,rep_int.mpr (by simp),?_⟩
  have e:((fun (i:Nat)=>V.int (lo+st * (i:Int))) ∘ Nat.succ)=fun (i:Nat)=>V.int (lo+st+st * (i:Int)):=by
   funext i
   show V.int (lo+st * ((i.succ:Nat):Int))=_
   congr 1
   rw[Nat.succ_eq_add_one,Int.natCast_add,Int.mul_add]
   lia
  rw[e]
  exact rngL_rep st n (lo+st)
theorem seqIt_rng {K:PySem.W.Frag}(lo:Int) (n:Nat):SeqIt (Itr lo n) ((List.range n).map fun (i:Nat)=>V.int (lo+1 * (i:Int))) (fun _=>True):=by
 refine ⟨fun i H _ hi=>?_,fun i H x H' _ hi q=>?_,fun i H _ hi=>?_⟩
 ·show i < n
  simpa using hi
 ·obtain ⟨e,rfl⟩:=q
  refine ⟨e,?_⟩
  have hi':i < n:=by simpa using hi
  rw[List.getElem?_map,List.getElem?_range hi']
  simp
 ·show n<=i
  simpa using hi
end Mini
namespace Mini
open PySem PySem.Spec PyProof.Rows L2
set_option genInjectivity false in
structure Ctx where
 fns:List Str
 cons:List (Str × Int)
set_option genInjectivity false in
inductive Nd where
 | e (x:Expr) | a (xs:List Expr)
noncomputable def glB (sc:Scope) (x:Str):Bool:=decide (sc.names.lookup x=some .globalImplicit)
noncomputable def visB (sc:Scope) (x:Str):Bool:=decide (sc.names.lookup x=some .local) || (decide (sc.names.lookup x=some .cell) || decide (sc.names.lookup x=some .free))
noncomputable def okName (x:Str):Bool:=!(x == ("__debug__" : Str)) && !(x == ("__classdict__" : Str)) && !(x == ("__name__" : Str))
noncomputable def notStar:Expr->Bool
 | .Starred _ _=>false
 | _=>true
noncomputable def notSet:Expr->Bool
 | .Set _ _ _=>false
 | _=>true
noncomputable def notSlice:Expr->Bool
 | .Slice _ _ _ _=>false
 | _=>true
noncomputable def notCall:Expr->Bool
 | .Call _ _ _ _=>false
 | _=>true
noncomputable def isRng:Ex->Bool
 | .rng _ _ _=>true
 | _=>false
noncomputable def isIf:Ex->Bool
 | .ife _ _ _=>true
 | _=>false
noncomputable def relabelS (scope sc:Scope):Scope :=
 { scope with names:=scope.names.map fun (n,k)=>if (k == .free && sc.kind == .function && sc.names.lookup n == some .cell) then (n,.cell) else (n,k) }
noncomputable def blockB (sc:Scope) (N:List Str) (scope:Scope) (xs:List Str):Bool :=
 decide (scope.kind=.function) && (xs.all (fun x=>decide (scope.names.lookup x=some .local) || decide (scope.names.lookup x=some .cell)) &&
 (scope.names.all (fun y=>!(decide (y.2=.local)) || decide (scope.names.lookup y.1=some .local)) &&
 (scope.names.all (fun y=>!(decide (y.2=.free)) || (decide (sc.names.lookup y.1=some .cell) || decide (sc.names.lookup y.1=some .free))) &&
 (scope.names.all (fun y=>!(decide (y.2=.cell)) || !(decide (scope.names.lookup y.1=some .free))) &&
 (N.all (fun y=>decide (y ∈ xs) || (!(decide (scope.names.lookup y=some .local)) && !(decide (scope.names.lookup y=some .cell)))) &&
 (decide (compN N xs).Nodup && xs.all (fun x=>decide (scope.names.lookup (dum x)=none))))))))
theorem blockB_ok {X:Cx}{scope:Scope}{xs:List Str}(h:blockB X.env.scope X.N scope xs=true):BlockOk X scope xs:=by
 unfold blockB at h
 simp only[Bool.and_eq_true,Bool.or_eq_true,decide_eq_true_eq,List.all_eq_true,Bool.not_eq_true',decide_eq_false_iff_not] at h
 obtain ⟨h1,h2,h3,h4,h5,h6,h7,h8⟩:=h
 refine ⟨h1,h2,fun y hy e=>?_,fun y hy e=>?_,fun y hy e=>?_,fun y hy e=>?_,h7,h8⟩
 ·rcases h3 y hy with z | z
  ·exact absurd e z
  ·exact z
 ·rcases h4 y hy with z | z
  ·exact absurd e z
  ·exact z
 ·rcases h6 y hy with z | z
  ·exact absurd z e
  ·exact z
 ·rcases h5 y hy with z | z
  ·exact absurd e z
  ·exact z
def spOf (K:PySem.W.Frag) (g:List Wd->Me->Rz):Sp:=fun vs H Q _=>∃ as m ws,Sim K as m H/\RepL K as H ws vs/\Post K as H Q (g ws m)
noncomputable def bltNames:List Str:=["len", "int", "bool", "list", "tuple", "abs", "max", "min", "isinstance", "range", "str", "dict", "sum", "all", "zip", "enumerate"]
structure CtxOk (C:Ctx) (X:Cx) (cl:Nat->List Wd->Me->Rz) (d:Nat):Prop where
 room:Room d X.A
 calm:X.calm=true
 fn:∀ (k:Nat) (nm:Str),C.fns[k]?=some nm->∃ f fd ps,X.mg nm=some (.ref f)/\PySem.W.keepIn X.K (.ref f)=true/\Binds X.K fd ps []/\FnOk X.prog X.w X.K X.mg X.base CX0 d f fd ps (spOf X.K (cl k))
 con:∀ (nm:Str) (i:Int),C.cons.lookup nm=some i->∃ t,X.mg nm=some (.int i t)
 blt:∀ nm ∈ bltNames,X.mg nm=none
theorem CtxOk.comp {C:Ctx}{X Xc:Cx}{cl:Nat->List Wd->Me->Rz}{d:Nat}{scope:Scope}{x:List Str}(h:CtxOk C X cl d) (c:CompOf X scope x Xc):CtxOk C Xc cl d:=by
 refine ⟨by rw[c.A];exact h.room,c.calm,fun k nm e=>?_,fun nm i e=>?_,fun nm e=>?_⟩
 ·obtain ⟨f,fd,ps,h1,h2,h3,h4⟩:=h.fn k nm e
  exact ⟨f,fd,ps,by rw[c.mg];exact h1,by rw[c.K];exact h2,by rw[c.K];exact h3,by rw[c.prog,c.w,c.K,c.mg,c.base];exact h4⟩
 ·rw[c.mg];exact h.con nm i e
 ·rw[c.mg];exact h.blt nm e
def PostA (K:PySem.W.Frag) (as:List Addr) (H:Hp) (Q:List V->Hp->Prop) (r:Rz):Prop:=match r with
 | .ok w m'=>∀ as' H' vs,Step as H as' H'->Sim K as' m' H'->RepL K as' H' (argsOf w) vs->Q vs H'
 | _=>False
def tOfA (K:PySem.W.Frag) (g:En->Me->Rz):TA:=fun σ H Q=>∃ as env m,Sim K as m H/\EnvRep K as H env σ/\PostA K as H Q (g env m)
theorem PostA.bind {K:PySem.W.Frag}{as:List Addr}{H:Hp}{Q:VK}{Q1:List V->Hp->Prop}{r:Rz}{f:Wd->Me->Rz}(h:Post K as H Q (r.bind f))
  (k:∀ w m' as' H' vs,Step as H as' H'->Sim K as' m' H'->RepL K as' H' (argsOf w) vs->Post K as' H' Q (f w m')->Q1 vs H'):PostA K as H Q1 r:=by
 cases r with
 | ok w m'=>exact fun as2 H2 v U S R=>k w m' as2 H2 v U S R (Post.step (r:=f w m') h U)
 | exc c w m'=>exact h
 | no=>exact h
def Snd (cl:Nat->List Wd->Me->Rz) (X:Cx) (e:Ex):Nd->Prop
 | .e x=>(isRng e=false->PE X x (tOf X.K (evE cl e))/\(isIf e=false->PT X x (tOfT X.K (evE cl e)))/\(∀ op vs pos,x=.BoolOp op vs pos->PW X x (tOfT X.K (evE cl e))))/\∀ tg,PI X tg x (iOf X.K (evE cl e))
 | .a xs=>PA X xs (tOfA X.K (evE cl e))
theorem Snd.of {cl:Nat->List Wd->Me->Rz}{X:Cx}{e:Ex}{x:Expr}(h:PE X x (tOf X.K (evE cl e))) (ht:∀ whole,isTrue x X.env whole=(do let v <- whole;standAt x.pos;holding [v] (truthy v)):=by intro _;rfl)
  (hb:∀ op vs pos,x ≠ .BoolOp op vs pos:=by intros;intro z;cases z):Snd cl X e (.e x) :=
 ⟨fun _=>⟨h,fun _=>pt_val h ht,fun op vs pos z=>absurd z (hb op vs pos)⟩,fun tg=>pi_of h⟩
theorem star_cons {e:Expr}{es:List Expr}{env:Env}(h:notStar e=true):starEach (e::es) env=(false,eval e env)::starEach es env:=by
 cases e <;> first | rfl | cases h
theorem star_any {pos:Pos}{env:Env}:∀ {es:List Expr},es.all notStar=true->(backTo pos (starEach es env)).any (·.1)=false
 | [],_=>rfl
 | e::es,h=>by
  rw[List.all_cons,Bool.and_eq_true] at h
  rw[star_cons h.1]
  show (false || (backTo pos (starEach es env)).any (·.1))=false
  rw[star_any h.2];rfl
end Mini
namespace Mini
open PySem PySem.Spec PyProof.Rows L2
section
variable {cl : Nat -> List Wd -> Me -> Rz} {X : Cx} {a b c : Ex} {x y z : Expr} {pos : Pos}
theorem se_bin {op:Bo}(ha:PE X x (tOf X.K (evE cl a))) (hb:PE X y (tOf X.K (evE cl b))):PE X (.BinOp x (opK op) y pos) (tOf X.K (evE cl (.bin op a b))):=by
 refine PE.imp (pe_op (op_rB op) ha hb) fun σ H Q h=>?_
 obtain ⟨as,env,m,S,G,P⟩:=h
 refine ⟨as,env,m,S,G,Post.bind P fun x m1 as1 H1 v T1 S1 R1 P1=>?_⟩
 refine ⟨as1,env,m1,S1,G.mono S T1,Post.bind P1 fun y m2 as2 H2 u T2 S2 R2 P2=>?_⟩
 exact bop_ok S2 (R1.mono S1 T2) R2 P2
theorem se_neg (ha:PE X x (tOf X.K (evE cl a))):PE X (.UnaryOp .USub x pos) (tOf X.K (evE cl (.neg a))):=by
 refine PE.imp (pe_un un_neg ha) fun σ H Q h=>?_
 obtain ⟨as,env,m,S,G,P⟩:=h
 refine ⟨as,env,m,S,G,Post.bind P fun x m1 as1 H1 v T1 S1 R1 P1=>?_⟩
 cases x with
 | int i =>
  obtain rfl:=rep_int.mp R1
  exact ⟨i,rfl,P1.ok S1 (rep_int.mpr rfl)⟩
 | _=>exact P1.elim
theorem se_not (ha:PE X x (tOf X.K (evE cl a))):PE X (.UnaryOp .Not x pos) (tOf X.K (evE cl (.not a))):=by
 refine PE.imp (pe_not ha) fun σ H Q h=>?_
 obtain ⟨as,env,m,S,G,P⟩:=h
 refine ⟨as,env,m,S,G,Post.bind P fun x m1 as1 H1 v T1 S1 R1 P1=>?_⟩
 cases x with
 | bl k =>
  obtain rfl:=rep_bl.mp R1
  exact ⟨k,rfl,P1.ok S1 (rep_bl.mpr rfl)⟩
 | _=>exact P1.elim
theorem st_not (ha:PT X x (tOfT X.K (evE cl a))):PT X (.UnaryOp .Not x pos) (tOfT X.K (evE cl (.not a))):=by
 refine PT.imp (pt_not ha) fun σ H Q h=>?_
 obtain ⟨as,env,m,S,G,P⟩:=h
 refine ⟨as,env,m,S,G,Post.bind P fun x m1 as1 H1 v T1 S1 R1 P1=>?_⟩
 cases x with
 | bl k =>
  obtain rfl:=rep_bl.mp R1
  obtain ⟨b,e,q⟩:=P1.ok S1 (rep_bl.mpr rfl)
  cases e
  exact ⟨k,rfl,q⟩
 | _=>exact P1.elim
theorem and_bind {K:PySem.W.Frag}{σ:St}{H:Hp}{Q:VK}(h:tOf K (evE cl (.and a b)) σ H Q):tOf K (evE cl a) σ H fun x H1=>∃ k,x=.bl k/\if k=true then tOf K (evE cl b) σ H1 Q else Q (.bl false) H1:=by
 obtain ⟨as,env,m,S,G,P⟩:=h
 refine ⟨as,env,m,S,G,Post.bind P fun x m1 as1 H1 v T1 S1 R1 P1=>?_⟩
 cases x with
 | bl k =>
  obtain rfl:=rep_bl.mp R1
  refine ⟨k,rfl,?_⟩
  cases k with
  | true=>exact iteT ⟨as1,env,m1,S1,G.mono S T1,P1⟩
  | false=>exact iteF (P1.ok S1 (rep_bl.mpr rfl))
 | _=>exact P1.elim
theorem tOf_mono {K:PySem.W.Frag}{g:En->Me->Rz}{σ:St}{H:Hp}{Q Q':VK}(h:tOf K g σ H Q) (k:∀ v H,Q v H->Q' v H):tOf K g σ H Q':=by
 obtain ⟨as,env,m,S,G,P⟩:=h
 refine ⟨as,env,m,S,G,?_⟩
 cases hr:g env m with
 | ok w m'=>rw[hr] at P;exact fun as' H' v T S' R=>k _ _ (P as' H' v T S' R)
 | exc c w m'=>rw[hr] at P;exact P
 | no=>rw[hr] at P;exact P
theorem se_and {r:List Expr}(ha:PE X x (tOf X.K (evE cl a))) (hb:PE X (.BoolOp .And (y::r) pos) (tOf X.K (evE cl b))):PE X (.BoolOp .And (x::y::r) pos) (tOf X.K (evE cl (.and a b))) :=
 PE.imp (pe_and ha hb) fun σ H Q h=>and_bind h
theorem PW.imp {e:Expr}{t t':TT}(h:PW X e t) (k:∀ σ H Q,t' σ H Q->t σ H Q):PW X e t':=fun whole pins s σ H Q I q=>h whole pins s σ H Q I (k σ H Q q)
theorem sw_and {r:List Expr}(ha:PT X x (tOfT X.K (evE cl a))) (hb:PW X (.BoolOp .And (y::r) pos) (tOfT X.K (evE cl b))):PW X (.BoolOp .And (x::y::r) pos) (tOfT X.K (evE cl (.and a b))) :=
 PW.imp (pw_and ha hb) fun σ H Q h=>by
  refine tOf_mono (and_bind h) fun v H1 q=>?_
  obtain ⟨k,e,q⟩:=q
  refine ⟨k,e,?_⟩
  cases k with
  | true=>rw[if_pos rfl] at q ⊢;exact q
  | false =>
   rw[if_neg Bool.false_ne_true] at q ⊢
   obtain ⟨b',e',q⟩:=q
   cases e'
   exact q
theorem marks {op:CmpOp}{e:Expr}(h:notSet e=true):behindInMarks op e=false:=by
 cases e <;> first | rfl | cases h
theorem cmp_bind {K:PySem.W.Frag}{op:Co}{σ:St}{H:Hp}{Q:VK}(h:tOf K (evE cl (.cmp op a b)) σ H Q):tOp (rC K op) (tOf K (evE cl a)) (tOf K (evE cl b)) σ H Q:=by
 obtain ⟨as,env,m,S,G,P⟩:=h
 refine ⟨as,env,m,S,G,Post.bind P fun x m1 as1 H1 v T1 S1 R1 P1=>?_⟩
 refine ⟨as1,env,m1,S1,G.mono S T1,Post.bind P1 fun y m2 as2 H2 u T2 S2 R2 P2=>?_⟩
 exact ⟨as2,m2,x,y,S2,R1.mono S1 T2,R2,P2⟩
theorem se_cmp {op:Co}(hu:X.A.units+64 < cLine) (ha:PE X x (tOf X.K (evE cl a))) (hb:PE X y (tOf X.K (evE cl b))) (hs:notSet y=true):PE X (.Compare x [cK op] [y] pos) (tOf X.K (evE cl (.cmp op a b))) :=
 PE.imp (pe_cmpR (op_rC hu op) ha hb (marks hs)) fun σ H Q h=>cmp_bind h
theorem st_cmp {op:Co}(hu:X.A.units+64 < cLine) (ha:PE X x (tOf X.K (evE cl a))) (hb:PE X y (tOf X.K (evE cl b))) (hs:notSet y=true):PT X (.Compare x [cK op] [y] pos) (tOfT X.K (evE cl (.cmp op a b))) :=
 PT.imp (pt_cmpR (op_rC hu op) ha hb (marks hs)) fun σ H Q h=>cmp_bind h
end
end Mini
namespace Mini
open PySem PySem.Spec PyProof.Rows L2
section
variable {cl : Nat -> List Wd -> Me -> Rz} {X : Cx} {a b c : Ex} {x y z : Expr} {pos : Pos}
theorem chain_bind {K:PySem.W.Frag}{p q:Co}{σ:St}{H:Hp}{Q:VK}(h:tOf K (evE cl (.chain p q a b c)) σ H Q):tChain (rC K p) (rC K q) (tOf K (evE cl a)) (tOf K (evE cl b)) (tOf K (evE cl c)) σ H Q:=by
 obtain ⟨as,env,m,S,G,P⟩:=h
 refine ⟨as,env,m,S,G,Post.bind P fun x m1 as1 H1 v T1 S1 R1 P1=>?_⟩
 refine ⟨as1,env,m1,S1,G.mono S T1,Post.bind P1 fun y m2 as2 H2 u T2 S2 R2 P2=>?_⟩
 refine ⟨as2,m2,x,y,S2,R1.mono S1 T2,R2,Post.bind P2 fun z m3 as3 H3 w T3 S3 R3 P3=>?_⟩
 cases z with
 | bl k =>
  obtain rfl:=rep_bl.mp R3
  refine ⟨k,rfl,?_⟩
  cases k with
  | false=>exact iteF (P3.ok S3 (rep_bl.mpr rfl))
  | true =>
   refine iteT ⟨as3,env,m3,S3,((G.mono S T1).mono S1 T2).mono S2 T3,Post.bind P3 fun t m4 as4 H4 r T4 S4 R4 P4=>?_⟩
   exact ⟨as4,m4,y,t,S4,(R2.mono S2 T3).mono S3 T4,R4,P4⟩
 | _=>exact P3.elim
theorem lmarks {o o':CmpOp}(h:notSet z=true):lastMarks [o,o'] [y,z]=false:=by
 show behindInMarks o' z=false
 exact marks h
theorem se_chain {p q:Co}(hu:X.A.units+64 < cLine) (ha:PE X x (tOf X.K (evE cl a))) (hb:PE X y (tOf X.K (evE cl b))) (hc:PE X z (tOf X.K (evE cl c))) (hs:notSet z=true) :
  PE X (.Compare x [cK p,cK q] [y,z] pos) (tOf X.K (evE cl (.chain p q a b c))) :=
 PE.imp (pe_chain (op_rC hu p) (op_rC hu q) ha hb hc (lmarks hs)) fun σ H Q h=>chain_bind h
theorem st_chain {p q:Co}(hu:X.A.units+64 < cLine) (ha:PE X x (tOf X.K (evE cl a))) (hb:PE X y (tOf X.K (evE cl b))) (hc:PE X z (tOf X.K (evE cl c))) (hs:notSet z=true) :
  PT X (.Compare x [cK p,cK q] [y,z] pos) (tOfT X.K (evE cl (.chain p q a b c))) :=
 PT.imp (pt_chain (op_rC hu p) (op_rC hu q) ha hb hc (lmarks hs)) fun σ H Q h=>chain_bind h
theorem sa_unit:PA X [] (tOfA X.K (evE cl .unit)):=PA.imp pa_nil fun σ H Q h=>by
 obtain ⟨as,env,m,S,G,P⟩:=h
 exact P as H [] .refl S (repL_nil.mpr rfl)
theorem sa_pair {xs:List Expr}(ha:PE X x (tOf X.K (evE cl a))) (hb:PA X xs (tOfA X.K (evE cl b))) (hs:notStar x=true):PA X (x::xs) (tOfA X.K (evE cl (.pair a b))):=by
 refine PA.imp (pa_cons ha hb (star_cons hs)) fun σ H Q h=>?_
 obtain ⟨as,env,m,S,G,P⟩:=h
 refine ⟨as,env,m,S,G,?_⟩
 have P':PostA X.K as H Q ((evE cl a env m).bind fun x m1=>(evE cl b env m1).bind fun y m2=>.ok (.tup (x::argsOf y)) m2):=P
 cases hr:evE cl a env m with
 | no=>rw[hr] at P';exact P'
 | exc c w m'=>rw[hr] at P';exact P'
 | ok w m1 =>
  rw[hr] at P'
  intro as1 H1 v T1 S1 R1
  refine ⟨as1,env,m1,S1,G.mono S T1,?_⟩
  simp only[Rz.bind] at P'
  cases hr2:evE cl b env m1 with
  | no=>rw[hr2] at P';exact P'
  | exc c w' m'=>rw[hr2] at P';exact P'
  | ok w' m2 =>
   rw[hr2] at P'
   intro as2 H2 vs T2 S2 R2
   exact P' as2 H2 (v::vs) (T1.trans T2) S2 (repL_cons.mpr ⟨v,vs,rfl,R1.mono S1 T2,R2⟩)
theorem se_call {C:Ctx}{d k:Nat}{nm:Str}{p:Pos}{xs:List Expr}(hC:CtxOk C X cl d) (hk:C.fns[k]?=some nm) (hg:X.env.scope.names.lookup nm=some .globalImplicit) (hn:okName nm=true)
  (hs:(x::xs).all notStar=true) (ha:PA X (x::xs) (tOfA X.K (evE cl a))):PE X (.Call (.Name nm p) (x::xs) [] pos) (tOf X.K (evE cl (.call k a))):=by
 obtain ⟨f,fd,ps,h1,h2,h3,h4⟩:=hC.fn k nm hk
 have hs':=hs
 rw[List.all_cons,Bool.and_eq_true] at hs'
 have hdb:(nm == ("__debug__" : Str))=false:=by
  unfold okName at hn
  simp only[Bool.and_eq_true,Bool.not_eq_true'] at hn
  exact hn.1.1
 refine PE.imp (pe_call h4 hC.room hg h1 h2 h3 .nil (pass0 (X:=X)) ha hdb (star_cons hs'.1) (star_any hs'.2)) fun σ H Q h=>?_
 obtain ⟨as,env,m,S,G,P⟩:=h
 refine ⟨as,env,m,S,G,PostA.bind P fun w m1 as1 H1 vs T1 S1 R1 P1=>?_⟩
 refine ⟨as1,m1,argsOf w,S1,?_,P1⟩
 rw[List.append_nil]
 exact R1
theorem okName_of {nm:Str}(hn:okName nm=true):(nm == ("__debug__" : Str))=false/\(nm == ("__classdict__" : Str))=false/\nm ≠ "__name__" := by
 unfold okName at hn
 simp only[Bool.and_eq_true,Bool.not_eq_true'] at hn
 exact ⟨hn.1.1,hn.1.2,by simpa using hn.2⟩
theorem se_blt {C:Ctx}{d:Nat}{bf:Blf}{nm:Str}{f:Value}{p:Pos}{xs:List Expr}(hC:CtxOk C X cl d) (hb:bltV bf=some (nm,f)) (hg:X.env.scope.names.lookup nm=some .globalImplicit) (hn:okName nm=true)
  (hs:(x::xs).all notStar=true) (ha:PA X (x::xs) (tOfA X.K (evE cl a))):PE X (.Call (.Name nm p) (x::xs) [] pos) (tOf X.K (evE cl (.blt bf a))):=by
 obtain ⟨n1,n2,n3⟩:=okName_of hn
 have hs':=hs
 rw[List.all_cons,Bool.and_eq_true] at hs'
 have hc:=call_rBl hC.calm hb
 have go:PE X (.Call (.Name nm p) (x::xs) [] pos) (tCB (rBl X.K bf) (tOfA X.K (evE cl a))):=by
  cases bf with
  | len=>cases hb;exact pe_callB hc hg (hC.blt _ (by simp[bltNames])) PySem.boot_len ha n3 n1 (star_cons hs'.1) (star_any hs'.2)
  | int=>cases hb;exact pe_callTy hc hg (hC.blt _ (by simp[bltNames])) PyProof.Rows.boot_int ha n3 n1 (star_cons hs'.1) (star_any hs'.2)
  | list=>cases hb;exact pe_callTy hc hg (hC.blt _ (by simp[bltNames])) PyProof.Rows.boot_list ha n3 n1 (star_cons hs'.1) (star_any hs'.2)
  | tuple=>cases hb;exact pe_callTy hc hg (hC.blt _ (by simp[bltNames])) PyProof.Rows.boot_tuple ha n3 n1 (star_cons hs'.1) (star_any hs'.2)
  | abs=>cases hb;exact pe_callB hc hg (hC.blt _ (by simp[bltNames])) PyProof.Rows.boot_abs ha n3 n1 (star_cons hs'.1) (star_any hs'.2)
  | max2=>cases hb;exact pe_callB hc hg (hC.blt _ (by simp[bltNames])) PyProof.Rows.boot_max ha n3 n1 (star_cons hs'.1) (star_any hs'.2)
  | sum=>cases hb;exact pe_callB hc hg (hC.blt _ (by simp[bltNames])) PyProof.Rows.boot_sum ha n3 n1 (star_cons hs'.1) (star_any hs'.2)
  | all=>cases hb;exact pe_callB hc hg (hC.blt _ (by simp[bltNames])) PyProof.Rows.boot_all ha n3 n1 (star_cons hs'.1) (star_any hs'.2)
  | min2=>cases hb;exact pe_callB hc hg (hC.blt _ (by simp[bltNames])) PyProof.Rows.boot_min ha n3 n1 (star_cons hs'.1) (star_any hs'.2)
  | _=>cases hb
 refine PE.imp go fun σ H Q h=>?_
 obtain ⟨as,env,m,S,G,P⟩:=h
 refine ⟨as,env,m,S,G,PostA.bind P fun w m1 as1 H1 vs T1 S1 R1 P1=>?_⟩
 exact ⟨as1,m1,argsOf w,S1,R1,P1⟩
theorem boot_tg (t:Tg):bootBuiltins (Str.ofString (tgT t))=some (.type (tgT t)):=by
 cases t <;> decide +kernel
theorem se_isi {C:Ctx}{d:Nat}{t:Tg}{p p':Pos}(hC:CtxOk C X cl d) (hg:X.env.scope.names.lookup ("isinstance" : Str)=some .globalImplicit) (hg':X.env.scope.names.lookup (Str.ofString (tgT t))=some .globalImplicit)
  (hs:notStar x=true) (ha:PE X x (tOf X.K (evE cl a))):PE X (.Call (.Name "isinstance" p) [x,.Name (Str.ofString (tgT t)) p'] [] pos) (tOf X.K (evE cl (.isi t a))):=by
 have hm:X.mg (Str.ofString (tgT t))=none:=hC.blt _ (by cases t <;> decide +kernel)
 have hty:PE X (.Name (Str.ofString (tgT t)) p') (tC (.ty (tgT t))):=pe_bltn hg' hm (boot_tg t) rfl (by cases t <;> decide +kernel) (by cases t <;> decide +kernel)
 refine PE.imp (pe_callB (call_isi t) hg (hC.blt _ (by simp[bltNames])) PyProof.Rows.boot_isinstance (pa_cons ha (pa_cons hty pa_nil) (star_cons hs)) (by decide +kernel) (by decide +kernel) (star_cons hs) rfl) fun σ H Q h=>?_
 obtain ⟨as,env,m,S,G,P⟩:=h
 refine ⟨as,env,m,S,G,Post.bind P fun w m1 as1 H1 v T1 S1 R1 P1=>?_⟩
 exact ⟨as1,m1,w,v,rfl,S1,R1,P1⟩
theorem se_lst {xs:List Expr}(ha:PA X xs (tOfA X.K (evE cl a))):PE X (.List xs pos) (tOf X.K (evE cl (.lst a))):=by
 refine PE.imp (pe_lst ha) fun σ H Q h=>?_
 obtain ⟨as,env,m,S,G,P⟩:=h
 refine ⟨as,env,m,S,G,PostA.bind P fun w m1 as1 H1 vs T1 S1 R1 P1=>?_⟩
 obtain ⟨h1,h2⟩:=alloc_ok S1 R1 P1
 exact ⟨Nat.le_trans h1 lim_line,h2⟩
theorem se_tup {xs:List Expr}{k:Nat}(ha:PA X xs (tOfA X.K (evE cl a))):PE X (.Tuple xs k pos) (tOf X.K (evE cl (.tup a))):=by
 refine PE.imp (pe_tup ha) fun σ H Q h=>?_
 obtain ⟨as,env,m,S,G,P⟩:=h
 refine ⟨as,env,m,S,G,PostA.bind P fun w m1 as1 H1 vs T1 S1 R1 P1=>?_⟩
 split at P1
 ·rename_i hl
  refine ⟨by rw[<- R1.length];exact Nat.le_trans hl lim_line,fun p hp=>?_⟩
  obtain ⟨T,S',R'⟩:=S1.tup hp R1
  exact P1 _ _ _ T S' R'
 ·exact P1.elim
theorem se_idx (ha:PE X x (tOf X.K (evE cl a))) (hb:PE X y (tOf X.K (evE cl b))) (hs:notSlice y=true):PE X (.Subscript x y pos) (tOf X.K (evE cl (.idx a b))):=by
 have hp:PlainIx y:=fun o i=>by cases y <;> first | rfl | cases hs
 refine PE.imp (pe_ix ix_seq ha hb hp) fun σ H Q h=>?_
 obtain ⟨as,env,m,S,G,P⟩:=h
 refine ⟨as,env,m,S,G,Post.bind P fun x m1 as1 H1 v T1 S1 R1 P1=>?_⟩
 refine ⟨as1,env,m1,S1,G.mono S T1,Post.bind P1 fun y m2 as2 H2 u T2 S2 R2 P2=>?_⟩
 exact idx_ok S2 (R1.mono S1 T2) R2 P2
end
end Mini
namespace Mini
open PySem PySem.Spec PyProof.Rows L2
section
variable {cl : Nat -> List Wd -> Me -> Rz} {X : Cx} {a b c : Ex} {x y z : Expr} {pos : Pos}
theorem base_of {e:Expr}{f:Str}{env:Env}(h:notCall e=true):attributeBase e f env (eval e env)=eval e env:=by
 cases e <;> first | rfl | cases h
theorem rng_bind {K:PySem.W.Frag}{as:List Addr}{H:Hp}{m:Me}{R:It->Hp->Prop}{i j:Int}(S:Sim K as m H) (h:PostI K as H R (rngR (.int i) (.int j) (.int 1) m)):(-(2 ^ 62)<=i/\i < 2 ^ 62/\-(2 ^ 62)<=j/\j < 2 ^ 62)/\R (Itr i (j - i).toNat) H:=by
 have h':PostI K as H R (if -lim<=i/\i<=lim/\-lim<=j/\j<=lim/\((1:Int)=1\/(1:Int)=-1) then .ok (.tup (rngL i 1 (rngN i j 1))) m else .no):=h
 by_cases hc:-(lim:Int)<=i/\i<=lim/\-(lim:Int)<=j/\j<=lim/\((1:Int)=1\/(1:Int)=-1)
 ·rw[if_pos hc] at h'
  have hlim:(lim:Int)=100000:=rfl
  refine ⟨by lia,h'.2 as H _ .refl S ?_⟩
  have e:rngN i j 1=(j - i).toNat:=if_pos rfl
  rw[e]
  exact ⟨_,fun _=>True,seqIt_rng i (j - i).toNat (K:=K),trivial,rngL_rep 1 (j - i).toNat i,fun _ _ _ _=>trivial⟩
 ·rw[if_neg hc] at h';exact h'.elim
theorem PostI.bind {K:PySem.W.Frag}{as:List Addr}{H:Hp}{R:It->Hp->Prop}{Q1:VK}{r:Rz}{f:Wd->Me->Rz}(h:PostI K as H R (r.bind f))
  (k:∀ w m' as' H' v,Step as H as' H'->Sim K as' m' H'->Rep K as' H' w v->PostI K as' H' R (f w m')->Q1 v H'):Post K as H Q1 r:=by
 cases r with
 | ok w m' =>
  intro as2 H2 v U S Rr
  refine k w m' as2 H2 v U S Rr ?_
  have h':PostI K as H R (f w m'):=h
  cases hr:f w m' with
  | ok w2 m2=>rw[hr] at h';exact ⟨h'.1,fun as3 H3 J U3 S3 q=>h'.2 as3 H3 J (U.trans U3) S3 q⟩
  | exc c w2 m2=>rw[hr] at h';exact h'
  | no=>rw[hr] at h';exact h'
 | exc c w m'=>exact h
 | no=>exact h
theorem si_rng1 {C:Ctx}{d:Nat}{p:Pos}{tg:Expr}(hC:CtxOk C X cl d) (hg:X.env.scope.names.lookup ("range" : Str)=some .globalImplicit) (hs:notStar x=true) (hb:PE X x (tOf X.K (evE cl b))) :
  PI X tg (.Call (.Name "range" p) [x] [] pos) (iOf X.K (evE cl (.rng (.lit (.int 0)) b (.lit (.int 1))))):=by
 refine PI.imp (pi_range1 hg (hC.blt _ (by simp[bltNames])) (pa_cons hb pa_nil (star_cons hs)) (star_cons hs)) fun σ H R h=>?_
 obtain ⟨as,env,m,S,G,P⟩:=h
 have P':PostI X.K as H R ((evE cl b env m).bind fun y m2=>rngR (.int 0) y (.int 1) m2):=P
 refine ⟨as,env,m,S,G,PostI.bind P' fun w m1 as1 H1 v T1 S1 R1 P1=>?_⟩
 cases w with
 | int j =>
  obtain rfl:=rep_int.mp R1
  obtain ⟨⟨_,_,h1,h2⟩,q⟩:=rng_bind S1 P1
  refine ⟨j,rfl,h1,h2,?_⟩
  simpa using q
 | _=>exact P1.elim
end
end Mini
namespace Mini
open PySem PySem.Spec PyProof.Rows L2
section
variable {cl : Nat -> List Wd -> Me -> Rz} {X : Cx} {K : PySem.W.Frag}
theorem Sim.updD {as:List Addr}{m:Me}{H:Hp}{D:Addr}{ys:List V}{o:HO}(S:Sim K as m H) (hD:H D=some (.lst ys)) (hn:D ∉ as):Sim K as m (upd H D o):=by
 refine ⟨S.len,S.nd,fun l b ob h1 h2=>?_⟩
 have q:=S.obj l b ob h1 h2
 have hb:b ≠ D:=by rintro rfl;exact hn (List.mem_of_getElem? h1)
 cases ob with
 | lst zs =>
  obtain ⟨us,e,r⟩:=q
  exact ⟨us,by rw[upd_ne hb];exact e,r.kp (Kp.upd hD)⟩
 | dct kvs=>exact q.elim
theorem Sim.join {as:List Addr}{m:Me}{H:Hp}{D:Addr}{ys:List V}{acc:List Wd}(S:Sim K as m H) (hD:H D=some (.lst ys)) (hn:D ∉ as) (R:RepL K as H acc ys):Sim K (as++[D]) (m++[.lst acc]) H:=by
 have g:∀ (l:Nat) (a:Addr),as[l]?=some a->(as++[D])[l]?=some a:=fun l a e=>by
  rw[List.getElem?_append_left (List.getElem?_eq_some_iff.mp e).1];exact e
 have kp:Kp K H H:=⟨fun _ _ h=>h,fun _ _ h=>h⟩
 refine ⟨by simp[S.len],?_,fun l b o h1 h2=>?_⟩
 ·refine List.nodup_append.mpr ⟨S.nd,by simp,fun x hx y hy=>?_⟩
  rw[List.mem_singleton.mp hy]
  rintro rfl
  exact hn hx
 ·by_cases hl:l < as.length
  ·rw[List.getElem?_append_left hl] at h1
   rw[List.getElem?_append_left (by rw[<- S.len];exact hl)] at h2
   have q:=S.obj l b o h1 h2
   cases o with
   | lst zs =>
    obtain ⟨us,e,r⟩:=q
    exact ⟨us,e,repL_mono kp g _ _ r⟩
   | dct kvs=>exact q.elim
  ·rw[List.getElem?_append_right (by lia)] at h1
   rw[List.getElem?_append_right (by rw[<- S.len];lia)] at h2
   have hz:l - as.length=0:=by
    cases hq:l - as.length with
    | zero=>rfl
    | succ k=>rw[hq] at h1;simp at h1
   rw[hz] at h1
   rw[<- S.len,hz] at h2
   simp at h1 h2
   subst h1;subst h2
   exact ⟨ys,hD,repL_mono kp g _ _ R⟩
theorem Step.updD {as as':List Addr}{H H':Hp}{D:Addr}{o:HO}(T:Step as H as' H') (hD:H D=none):Step as H as' (upd H' D o) :=
 ⟨T.pre,fun b ob h hb=>by rw[upd_ne (ne_of_none h hD)];exact T.frame b ob h hb,T.fresh⟩
theorem Step.join {as as':List Addr}{H H':Hp}{D:Addr}(T:Step as H as' H') (hD:H D=none):Step as H (as'++[D]) H':=by
 refine ⟨?_,T.frame,fun a ha=>?_⟩
 ·obtain ⟨t,rfl⟩:=T.pre
  exact ⟨t++[D],by simp⟩
 ·rcases List.mem_append.mp ha with z | z
  ·exact T.fresh a z
  ·rw[List.mem_singleton.mp z];exact .inr hD
structure Mid (K:PySem.W.Frag) (as:List Addr) (H:Hp) (D:Addr) (env:En) (σ:St) (as':List Addr) (m':Me) (acc:List Wd) (ys:List V) (H':Hp):Prop where
 T:Step as H as' H'
 S:Sim K as' m' H'
 hD:H' D=some (.lst ys)
 n:D ∉ as'
 R:RepL K as' H' acc ys
 G:EnvRep K as' H' env σ
theorem Mid.go {as:List Addr}{H:Hp}{D:Addr}{env:En}{σ:St}{as' as2:List Addr}{m' m2:Me}{acc:List Wd}{ys:List V}{H' H2:Hp}(M:Mid K as H D env σ as' m' acc ys H') (U:Step as' H' as2 H2) (S2:Sim K as2 m2 H2):Mid K as H D env σ as2 m2 acc ys H2 :=
 ⟨M.T.trans U,S2,U.frame _ _ M.hD M.n,U.out M.hD M.n,M.R.mono M.S U,M.G.mono M.S U⟩
theorem Mid.push {as:List Addr}{H:Hp}{D:Addr}{env:En}{σ:St}{as':List Addr}{m':Me}{acc:List Wd}{ys:List V}{H':Hp}{w:Wd}{v:V}(M:Mid K as H D env σ as' m' acc ys H') (h0:H D=none) (R:Rep K as' H' w v) :
  Mid K as H D env σ as' m' (acc++[w]) (ys++[v]) (upd H' D (.lst (ys++[v]))):=by
 have kp:Kp K H' (upd H' D (.lst (ys++[v]))):=Kp.upd M.hD
 exact ⟨M.T.updD h0,M.S.updD M.hD M.n,upd_same,M.n,(M.R.append (.one R)).kp kp,M.G.kp kp⟩
theorem Mid.start {as as1:List Addr}{H H1:Hp}{D:Addr}{env:En}{σ:St}{m1:Me}(S1:Sim K as1 m1 H1) (G1:EnvRep K as1 H1 env σ) (hD:H1 D=none):Mid K as1 H1 D env σ as1 m1 [] [] (upd H1 D (.lst [])):=by
 have T:Step as1 H1 as1 (upd H1 D (.lst [])):=Step.updD .refl hD
 exact ⟨T,S1.keep T fun b _ o e=>by rw[upd_ne (ne_of_none e hD)];exact e,upd_same,S1.new hD,repL_nil.mpr rfl,G1.mono S1 T⟩
theorem bind_ok {w:Wd}{m:Me}{f:Wd->Me->Rz}:(Rz.ok w m).bind f=f w m:=rfl
end
end Mini
namespace Mini
open PySem PySem.Spec PyProof.Rows L2
section
variable {cl : Nat -> List Wd -> Me -> Rz}
theorem Snd.pe {X:Cx}{e:Ex}{x:Expr}(h:Snd cl X e (.e x)) (hr:isRng e=false):PE X x (tOf X.K (evE cl e)):=(h.1 hr).1
theorem Snd.pt {X:Cx}{e:Ex}{x:Expr}(h:Snd cl X e (.e x)) (hr:isRng e=false) (hi:isIf e=false):PT X x (tOfT X.K (evE cl e)):=(h.1 hr).2.1 hi
theorem Snd.pw {X:Cx}{e:Ex}{op:BoolOp}{vs:List Expr}{pos:Pos}(h:Snd cl X e (.e (.BoolOp op vs pos))) (hr:isRng e=false):PW X (.BoolOp op vs pos) (tOfT X.K (evE cl e)):=(h.1 hr).2.2 op vs pos rfl
theorem Snd.pa {X:Cx}{e:Ex}{xs:List Expr}(h:Snd cl X e (.a xs)):PA X xs (tOfA X.K (evE cl e)):=h
theorem vis_of {sc:Scope}{x:Str}(h:visB sc x=true):Vis sc x:=by
 unfold visB at h
 simp only[Bool.or_eq_true,decide_eq_true_eq] at h
 exact h
theorem gl_of {sc:Scope}{x:Str}(h:glB sc x=true):sc.names.lookup x=some .globalImplicit:=of_decide_eq_true h
theorem tOf_lit {K:PySem.W.Frag}{w:Wd}{v:V}(hv:∀ as H,Rep K as H w v):∀ σ H Q,tOf K (evE cl (.lit w)) σ H Q->tC v σ H Q:=fun σ H Q h=>by
 obtain ⟨as,env,m,S,G,P⟩:=h
 exact Post.ok (m:=m) P S (hv as H)
theorem set_plain {env:Env}{y:Expr}(hs:notSet y=true):∀ v,foldedSetIterable y env v=pure v:=fun v=>by
 cases y <;> first | rfl | cases hs
def IsE (C:Ctx) (sc:Scope) (N:List Str) (e:Ex) (n:Nd):Prop:=∀ (cl:Nat → List Wd → Me → Rz) (d:Nat) (X:Cx),CtxOk C X cl d → X.env.scope=sc → X.N=N → Snd cl X e n
theorem sound {C:Ctx}{d:Nat}{sc:Scope}{N:List Str}{e:Ex}{n:Nd}(h:IsE C sc N e n):∀ X:Cx,CtxOk C X cl d->X.env.scope=sc->X.N=N->Snd cl X e n:=h cl d
theorem IsE.«var» {C:Ctx}{sc:Scope}{N:List Str}{i:Nat}{x:Str}{p:Pos}(h1:N[i]?=some x) (h2:visB sc x=true) (h3:okName x=true):IsE C sc N (.var i) (.e (.Name x p)):=by
 intro cl d
 intro X hC es eN
 subst es;subst eN
 obtain ⟨n1,n2,_⟩:=okName_of h3
 refine Snd.of (PE.imp (pe_var h1 (vis_of h2) n1 n2) fun σ H Q q=>?_)
 obtain ⟨as,env,m,S,G,P⟩:=q
 cases hw:env[i]? with
 | none=>have P':Post X.K as H Q (match env[i]? with | some (some w)=>.ok w m | _=>.no):=P;rw[hw] at P';exact P'.elim
 | some o =>
  cases o with
  | none=>have P':Post X.K as H Q (match env[i]? with | some (some w)=>.ok w m | _=>.no):=P;rw[hw] at P';exact P'.elim
  | some w =>
   have P':Post X.K as H Q (match env[i]? with | some (some w)=>.ok w m | _=>.no):=P
   rw[hw] at P'
   obtain ⟨v,hv,R⟩:=G.get i w hw
   exact ⟨v,hv,Post.ok (m:=m) P' S R⟩
theorem IsE.«non» {C:Ctx}{sc:Scope}{N:List Str}{k}{p:Pos}:IsE C sc N (.lit .non) (.e (.Constant .none k p)):=by
 intro cl d
 intro X hC es eN;exact Snd.of (PE.imp pe_non (tOf_lit fun _ _=>rep_non.mpr rfl))
theorem IsE.«bl» {C:Ctx}{sc:Scope}{N:List Str}{b:Bool}{k}{p:Pos}:IsE C sc N (.lit (.bl b)) (.e (.Constant (.bool b) k p)):=by
 intro cl d
 intro X hC es eN;exact Snd.of (PE.imp pe_bl (tOf_lit fun _ _=>rep_bl.mpr rfl))
theorem IsE.«int» {C:Ctx}{sc:Scope}{N:List Str}{i:Int}{k}{p:Pos}:IsE C sc N (.lit (.int i)) (.e (.Constant (.int i) k p)):=by
 intro cl d
 intro X hC es eN;exact Snd.of (PE.imp pe_int (tOf_lit fun _ _=>rep_int.mpr rfl))
theorem IsE.«str» {C:Ctx}{sc:Scope}{N:List Str}{s:Str}{t:List Nat}{k}{p:Pos}(h:s.cps.toList=t):IsE C sc N (.lit (.str t)) (.e (.Constant (.str s) k p)):=by
 intro cl d
 intro X hC es eN;subst h;exact Snd.of (PE.imp pe_str (tOf_lit fun _ _=>rep_str.mpr (by simp)))
theorem IsE.«con» {C:Ctx}{sc:Scope}{N:List Str}{x:Str}{i:Int}{p:Pos}(h1:glB sc x=true) (h2:C.cons.lookup x=some i) (h3:okName x=true):IsE C sc N (.lit (.int i)) (.e (.Name x p)):=by
 intro cl d
 intro X hC es eN
 subst es
 obtain ⟨n1,n2,_⟩:=okName_of h3
 obtain ⟨t,ht⟩:=hC.con x i h2
 exact Snd.of (PE.imp (pe_glob (gl_of h1) ht (v:=.int i) ⟨t,rfl⟩ n1) (tOf_lit fun _ _=>rep_int.mpr rfl))
theorem IsE.«bin» {C:Ctx}{sc:Scope}{N:List Str}{op:Bo}{a b:Ex}{x y:Expr}{p:Pos}(ra:isRng a=false) (ha:IsE C sc N a (.e x)) (rb:isRng b=false) (hb:IsE C sc N b (.e y)):IsE C sc N (.bin op a b) (.e (.BinOp x (opK op) y p)):=by
 intro cl d
 have iha:=ha cl d
 have ihb:=hb cl d
 intro X hC es eN;exact Snd.of (se_bin ((iha X hC es eN).pe ra) ((ihb X hC es eN).pe rb))
theorem IsE.«neg» {C:Ctx}{sc:Scope}{N:List Str}{a:Ex}{x:Expr}{p:Pos}(ra:isRng a=false) (ha:IsE C sc N a (.e x)):IsE C sc N (.neg a) (.e (.UnaryOp .USub x p)):=by
 intro cl d
 have iha:=ha cl d
 intro X hC es eN;exact Snd.of (se_neg ((iha X hC es eN).pe ra))
theorem IsE.«not» {C:Ctx}{sc:Scope}{N:List Str}{a:Ex}{x:Expr}{p:Pos}(ra:isRng a=false) (ia:isIf a=false) (ha:IsE C sc N a (.e x)):IsE C sc N (.not a) (.e (.UnaryOp .Not x p)):=by
 intro cl d
 have iha:=ha cl d
 intro X hC es eN
 have s1:=iha X hC es eN
 exact ⟨fun _=>⟨se_not (s1.pe ra),fun _=>st_not (s1.pt ra ia),fun op vs pos z=>by cases z⟩,fun tg=>pi_of (se_not (s1.pe ra))⟩
theorem IsE.«and2» {C:Ctx}{sc:Scope}{N:List Str}{a b:Ex}{x y:Expr}{p:Pos}(ra:isRng a=false) (ia:isIf a=false) (ha:IsE C sc N a (.e x)) (rb:isRng b=false) (ib:isIf b=false) (hb:IsE C sc N b (.e y)):IsE C sc N (.and a b) (.e (.BoolOp .And [x,y] p)):=by
 intro cl d
 have iha:=ha cl d
 have ihb:=hb cl d
 intro X hC es eN
 have sa:=iha X hC es eN
 have sb:=ihb X hC es eN
 have e:=fun (p:Pos)=>se_and (pos:=p) (sa.pe ra) (pe_one (sb.pe rb))
 have w:=fun (p:Pos)=>sw_and (pos:=p) (sa.pt ra ia) (pw_and1 (sb.pt rb ib))
 exact ⟨fun _=>⟨e _,fun _=>(w _).pt,fun op vs pos z=>by cases z;exact w _⟩,fun tg=>pi_of (e _)⟩
theorem IsE.«andN» {C:Ctx}{sc:Scope}{N:List Str}{a b:Ex}{x y z:Expr}{r:List Expr}{p:Pos}(ra:isRng a=false) (ia:isIf a=false) (ha:IsE C sc N a (.e x)) (rb:isRng b=false) (hb:IsE C sc N b (.e (.BoolOp .And (y::z::r) p))):IsE C sc N (.and a b) (.e (.BoolOp .And (x::y::z::r) p)):=by
 intro cl d
 have iha:=ha cl d
 have ihb:=hb cl d
 intro X hC es eN
 have sa:=iha X hC es eN
 have sb:=ihb X hC es eN
 have e:=se_and (sa.pe ra) (sb.pe rb)
 have w:=sw_and (sa.pt ra ia) (sb.pw rb)
 exact ⟨fun _=>⟨e,fun _=>w.pt,fun op vs pos z=>by cases z;exact w⟩,fun tg=>pi_of e⟩
theorem IsE.«cmp» {C:Ctx}{sc:Scope}{N:List Str}{op:Co}{a b:Ex}{x y:Expr}{p:Pos}(hs:notSet y=true) (ra:isRng a=false) (ha:IsE C sc N a (.e x)) (rb:isRng b=false) (hb:IsE C sc N b (.e y)):IsE C sc N (.cmp op a b) (.e (.Compare x [cK op] [y] p)):=by
 intro cl d
 have iha:=ha cl d
 have ihb:=hb cl d
 intro X hC es eN
 have ea:=(iha X hC es eN).pe ra
 have eb:=(ihb X hC es eN).pe rb
 exact ⟨fun _=>⟨se_cmp hC.room.units ea eb hs,fun _=>st_cmp hC.room.units ea eb hs,fun op vs pos z=>by cases z⟩,fun tg=>pi_of (se_cmp hC.room.units ea eb hs)⟩
theorem IsE.«chain» {C:Ctx}{sc:Scope}{N:List Str}{o q:Co}{a b c:Ex}{x y z:Expr}{p:Pos}(hs:notSet z=true) (ra:isRng a=false) (ha:IsE C sc N a (.e x)) (rb:isRng b=false) (hb:IsE C sc N b (.e y)) (rc:isRng c=false) (hc:IsE C sc N c (.e z)):IsE C sc N (.chain o q a b c) (.e (.Compare x [cK o,cK q] [y,z] p)):=by
 intro cl d
 have iha:=ha cl d
 have ihb:=hb cl d
 have ihc:=hc cl d
 intro X hC es eN
 have ea:=(iha X hC es eN).pe ra
 have eb:=(ihb X hC es eN).pe rb
 have ec:=(ihc X hC es eN).pe rc
 exact ⟨fun _=>⟨se_chain hC.room.units ea eb ec hs,fun _=>st_chain hC.room.units ea eb ec hs,fun op vs pos z=>by cases z⟩,fun tg=>pi_of (se_chain hC.room.units ea eb ec hs)⟩
theorem IsE.«unit» {C:Ctx}{sc:Scope}{N:List Str}:IsE C sc N .unit (.a []):=by
 intro cl d
 intro X hC es eN;exact sa_unit
theorem IsE.«pair» {C:Ctx}{sc:Scope}{N:List Str}{a b:Ex}{x:Expr}{xs:List Expr}(hs:notStar x=true) (ra:isRng a=false) (ha:IsE C sc N a (.e x)) (hb:IsE C sc N b (.a xs)):IsE C sc N (.pair a b) (.a (x::xs)):=by
 intro cl d
 have iha:=ha cl d
 have ihb:=hb cl d
 intro X hC es eN;exact sa_pair ((iha X hC es eN).pe ra) (ihb X hC es eN).pa hs
theorem IsE.«call» {C:Ctx}{sc:Scope}{N:List Str}{k:Nat}{a:Ex}{f:Str}{y:Expr}{ys:List Expr}{p p':Pos}(h1:C.fns[k]?=some f) (h2:glB sc f=true) (h3:okName f=true) (hs:(y::ys).all notStar=true) (ha:IsE C sc N a (.a (y::ys))):IsE C sc N (.call k a) (.e (.Call (.Name f p) (y::ys) [] p')):=by
 intro cl d
 have iha:=ha cl d
 intro X hC es eN;subst es;exact Snd.of (se_call hC h1 (gl_of h2) h3 hs (iha X hC rfl eN).pa)
theorem IsE.«blt» {C:Ctx}{sc:Scope}{N:List Str}{b:Blf}{a:Ex}{nm:Str}{f:Value}{y:Expr}{ys:List Expr}{p p':Pos}(h1:bltV b=some (nm,f)) (h2:glB sc nm=true) (h3:okName nm=true) (hs:(y::ys).all notStar=true) (ha:IsE C sc N a (.a (y::ys))):IsE C sc N (.blt b a) (.e (.Call (.Name nm p) (y::ys) [] p')):=by
 intro cl d
 have iha:=ha cl d
 intro X hC es eN;subst es;exact Snd.of (se_blt hC h1 (gl_of h2) h3 hs (iha X hC rfl eN).pa)
theorem IsE.«isi» {C:Ctx}{sc:Scope}{N:List Str}{t:Tg}{a:Ex}{y:Expr}{p p' p'':Pos}(h1:glB sc "isinstance" = true) (h2:glB sc (Str.ofString (tgT t))=true) (hs:notStar y=true) (ra:isRng a=false) (ha:IsE C sc N a (.e y)):IsE C sc N (.isi t a) (.e (.Call (.Name "isinstance" p) [y,.Name (Str.ofString (tgT t)) p'] [] p'')):=by
 intro cl d
 have iha:=ha cl d
 intro X hC es eN;subst es;exact Snd.of (se_isi hC (gl_of h1) (gl_of h2) hs ((iha X hC rfl eN).pe ra))
theorem IsE.«lst» {C:Ctx}{sc:Scope}{N:List Str}{a:Ex}{xs:List Expr}{p:Pos}(ha:IsE C sc N a (.a xs)):IsE C sc N (.lst a) (.e (.List xs p)):=by
 intro cl d
 have iha:=ha cl d
 intro X hC es eN;exact Snd.of (se_lst (iha X hC es eN).pa)
theorem IsE.«tup» {C:Ctx}{sc:Scope}{N:List Str}{a:Ex}{xs:List Expr}{k}{p:Pos}(ha:IsE C sc N a (.a xs)):IsE C sc N (.tup a) (.e (.Tuple xs k p)):=by
 intro cl d
 have iha:=ha cl d
 intro X hC es eN;exact Snd.of (se_tup (iha X hC es eN).pa)
theorem IsE.«idx» {C:Ctx}{sc:Scope}{N:List Str}{a b:Ex}{x y:Expr}{p:Pos}(hs:notSlice y=true) (ra:isRng a=false) (ha:IsE C sc N a (.e x)) (rb:isRng b=false) (hb:IsE C sc N b (.e y)):IsE C sc N (.idx a b) (.e (.Subscript x y p)):=by
 intro cl d
 have iha:=ha cl d
 have ihb:=hb cl d
 intro X hC es eN;exact Snd.of (se_idx ((iha X hC es eN).pe ra) ((ihb X hC es eN).pe rb) hs)
theorem IsE.«rng1» {C:Ctx}{sc:Scope}{N:List Str}{b:Ex}{y:Expr}{p p':Pos}(hg:glB sc "range" = true) (hs:notStar y=true) (rb:isRng b=false) (hb:IsE C sc N b (.e y)):IsE C sc N (.rng (.lit (.int 0)) b (.lit (.int 1))) (.e (.Call (.Name "range" p) [y] [] p')):=by
 intro cl d
 have ihb:=hb cl d
 intro X hC es eN;subst es;exact ⟨fun z=>(by cases z),fun tg=>si_rng1 hC (gl_of hg) hs ((ihb X hC rfl eN).pe rb)⟩
end
end Mini
namespace Mini
open PySem PySem.Spec PyProof.Rows L2
noncomputable def isComp:Expr->Bool
 | .ListComp _ _ _ _=>true
 | .SetComp _ _ _ _=>true
 | .DictComp _ _ _ _ _=>true
 | _=>false
theorem sw_val {v:Expr}{t:Option Expr}{line:Nat}{env:Env}(h:isComp v=false):swapsWith v t line env=pure false:=by
 cases v <;> first | rfl | cases h
def PostS (K:PySem.W.Frag) (as:List Addr) (H:Hp) (D:Ends) (r:Rs):Prop:=match r with
 | .next e m'=>∀ as' H' σ',Step as H as' H'->Sim K as' m' H'->EnvRep K as' H' e σ'->D.nx σ' H'
 | .brk e m'=>∀ as' H' σ',Step as H as' H'->Sim K as' m' H'->EnvRep K as' H' e σ'->D.bk σ' H'
 | .cont e m'=>∀ as' H' σ',Step as H as' H'->Sim K as' m' H'->EnvRep K as' H' e σ'->D.ct σ' H'
 | .ret w m'=>∀ as' H' v,Step as H as' H'->Sim K as' m' H'->Rep K as' H' w v->D.rt v H'
 | _=>False
def tOfS (K:PySem.W.Frag) (g:En->Me->Rs):TS:=fun D σ H=>∃ as env m,Sim K as m H/\EnvRep K as H env σ/\PostS K as H D (g env m)
section
variable {K : PySem.W.Frag} {as as' : List Addr} {H H' : Hp} {m : Me} {D : Ends}
theorem PostS.step {r:Rs}(h:PostS K as H D r) (T:Step as H as' H'):PostS K as' H' D r:=by
 cases r with
 | next e m'=>exact fun as2 H2 σ' U S G=>h as2 H2 σ' (T.trans U) S G
 | brk e m'=>exact fun as2 H2 σ' U S G=>h as2 H2 σ' (T.trans U) S G
 | cont e m'=>exact fun as2 H2 σ' U S G=>h as2 H2 σ' (T.trans U) S G
 | ret w m'=>exact fun as2 H2 v U S R=>h as2 H2 v (T.trans U) S R
 | exc c w e m'=>exact h
 | no=>exact h
theorem PostS.bind {Q1:VK}{r:Rz}{env:En}{f:Wd->Me->Rs}(h:PostS K as H D (r.bindS env f))
  (k:∀ w m' as' H' v,Step as H as' H'->Sim K as' m' H'->Rep K as' H' w v->PostS K as' H' D (f w m')->Q1 v H'):Post K as H Q1 r:=by
 cases r with
 | ok w m'=>exact fun as2 H2 v U S R=>k w m' as2 H2 v U S R (PostS.step (r:=f w m') h U)
 | exc c w m'=>exact h
 | no=>exact h
theorem PostS.bindI {R1:It->Hp->Prop}{r:Rz}{env:En}{f:Wd->Me->Rs}(h:PostS K as H D (r.bindS env f))
  (k:∀ w m',PostS K as H D (f w m')->(seqOf m' w).isSome=true/\∀ as' H' J,Step as H as' H'->Sim K as' m' H'->ItOf K as' H' w J->R1 J H'):PostI K as H R1 r:=by
 cases r with
 | ok w m'=>exact k w m' h
 | exc c w m'=>exact h
 | no=>exact h
theorem PostS.next {env:En}{σ:St}(h:PostS K as H D (.next env m)) (S:Sim K as m H) (G:EnvRep K as H env σ):D.nx σ H:=h as H σ .refl S G
end
section
variable {cl : Nat -> List Wd -> Me -> Rz} {X : Cx} {e o i : Ex} {x y z : Expr} {pos : Pos}
theorem ss_skip:PSs X [] (tOfS X.K (exS cl .skip)):=PSs.imp pss_nil fun D σ H h=>by
 obtain ⟨as,env,m,S,G,P⟩:=h
 exact PostS.next (m:=m) P S G
theorem ss_seq {a b:Sm}{st:Stmt}{sts:List Stmt}(ha:PS X st (tOfS X.K (exS cl a))) (hb:PSs X sts (tOfS X.K (exS cl b))):PSs X (st::sts) (tOfS X.K (exS cl (.seq a b))) :=
 PSs.imp (pss_cons ha hb) fun D σ H h=>by
  obtain ⟨as,env,m,S,G,P⟩:=h
  refine ⟨as,env,m,S,G,?_⟩
  have P':PostS X.K as H D (match exS cl a env m with | .next e1 m1=>exS cl b e1 m1 | r=>r):=P
  cases hr:exS cl a env m with
  | next e1 m1 =>
   rw[hr] at P'
   exact fun as' H' σ' T S' G'=>⟨as',e1,m1,S',G',PostS.step P' T⟩
  | brk e1 m1=>rw[hr] at P';exact P'
  | cont e1 m1=>rw[hr] at P';exact P'
  | ret w m1=>rw[hr] at P';exact P'
  | exc c w e1 m1=>rw[hr] at P';exact P'
  | no=>rw[hr] at P';exact P'
theorem asg_bind {K:PySem.W.Frag}{i:Nat}{e:Ex}{D:Ends}{σ:St}{H:Hp}(h:tOfS K (exS cl (.asg i e)) D σ H):tAsg (tOf K (evE cl e)) (gName i) D σ H:=by
 obtain ⟨as,env,m,S,G,P⟩:=h
 refine ⟨as,env,m,S,G,PostS.bind P fun w m1 as1 H1 v T1 S1 R1 P1=>?_⟩
 exact PostS.next (m:=m1) P1 S1 ((G.mono S T1).set R1 i)
theorem ss_ret (he:PE X x (tOf X.K (evE cl e))):PS X (.Return (some x) pos) (tOfS X.K (exS cl (.ret e))):=PS.imp (ps_ret he) fun D σ H h=>by
 obtain ⟨as,env,m,S,G,P⟩:=h
 refine ⟨as,env,m,S,G,PostS.bind P fun w m1 as1 H1 v T1 S1 R1 P1=>?_⟩
 exact P1 as1 H1 v .refl S1 R1
theorem ss_expr (he:PE X x (tOf X.K (evE cl e))) (hc:isComp x=false):PS X (.Expr x pos) (tOfS X.K (exS cl (.expr e))):=PS.imp (ps_expr he (sw_val hc)) fun D σ H h=>by
 obtain ⟨as,env,m,S,G,P⟩:=h
 refine ⟨as,env,m,S,G,PostS.bind P fun w m1 as1 H1 v T1 S1 R1 P1=>?_⟩
 exact PostS.next (m:=m1) P1 S1 (G.mono S T1)
theorem ss_never {st:Stmt}:PS X st (tOfS X.K (exS cl .never)):=PS.imp ps_never fun D σ H h=>by
 obtain ⟨as,env,m,S,G,P⟩:=h
 exact P
theorem ss_if {a b:Sm}{xs ys:List Stmt}(hc:PT X x (tOfT X.K (evE cl e))) (ha:PSs X xs (tOfS X.K (exS cl a))) (hb:PSs X ys (tOfS X.K (exS cl b))):PS X (.If x xs ys pos) (tOfS X.K (exS cl (.ite e a b))) :=
 PS.imp (ps_if hc ha hb) fun D σ H h=>by
  obtain ⟨as,env,m,S,G,P⟩:=h
  refine ⟨as,env,m,S,G,PostS.bind P fun w m1 as1 H1 v T1 S1 R1 P1=>?_⟩
  cases w with
  | bl k =>
   obtain rfl:=rep_bl.mp R1
   refine ⟨k,rfl,?_⟩
   cases k with
   | true=>exact iteT ⟨as1,env,m1,S1,G.mono S T1,P1⟩
   | false=>exact iteF ⟨as1,env,m1,S1,G.mono S T1,P1⟩
  | _=>exact P1.elim
end
end Mini
namespace Mini
open PySem PySem.Spec PyProof.Rows L2
section
variable {cl : Nat -> List Wd -> Me -> Rz} {X : Cx} {e o i p j a b : Ex} {x y z u v w : Expr} {pos : Pos}
end
end Mini
namespace Mini
open PySem PySem.Spec PyProof.Rows L2
section
variable {cl : Nat -> List Wd -> Me -> Rz} {X : Cx} {K : PySem.W.Frag}
structure TgtOk (K:PySem.W.Frag) (g:TG) (st:Wd->En->Option En):Prop where
 ok:∀ {as:List Addr}{H:Hp}{m:Me}{env env':En}{σ:St}{w:Wd}{v:V}{Q:L2.St->Hp->Prop},Sim K as m H->EnvRep K as H env σ->Rep K as H w v->st w env=some env'->(∀ σ',EnvRep K as H env' σ'->Q σ' H)->g v σ H Q
theorem tgt_name (i:Nat):TgtOk K (gName i) (fun w env=>some (env.set i (some w))) :=
 ⟨fun S G R e k=>by cases e;exact k _ (G.set R i)⟩
theorem for_turn {g:TG}{st:Wd->En->Option En}{b:En->Me->Rs}(hg:TgtOk K g st) {D:Ends}{as1 as':List Addr}{H1 H':Hp}{m':Me}{env':En}{σ':St}{x:Wd}{v:V}{next:En->Me->Rs}{N:L2.St->Hp->Prop}(T:Step as1 H1 as' H') (S':Sim K as' m' H') (G':EnvRep K as' H' env' σ') (Rx:Rep K as' H' x v)
  (Pt:PostS K as1 H1 D (match bodyOf st b x env' m' with
    | .next e1 m1=>next e1 m1
    | .cont e1 m1=>next e1 m1
    | .brk e1 m1=>.next e1 m1
    | r=>r))
  (hN:∀ as2 m2 e2 σ2 H2,Step as' H' as2 H2->Sim K as2 m2 H2->EnvRep K as2 H2 e2 σ2->PostS K as1 H1 D (next e2 m2)->N σ2 H2) :
  g v σ' H' fun σ2 H2=>tOfS K b { D with nx:=N,ct:=N,bk:=D.nx } σ2 H2:=by
 unfold bodyOf at Pt
 cases hs:st x env' with
 | none=>rw[hs] at Pt;exact Pt.elim
 | some e2 =>
  rw[hs] at Pt
  simp only[] at Pt
  refine hg.ok S' G' Rx hs fun σ2 G2=>⟨as',e2,m',S',G2,?_⟩
  cases hr:b e2 m' with
  | next e3 m3=>rw[hr] at Pt;exact fun as3 H3 σ3 U S3 G3=>hN as3 m3 e3 σ3 H3 U S3 G3 Pt
  | cont e3 m3=>rw[hr] at Pt;exact fun as3 H3 σ3 U S3 G3=>hN as3 m3 e3 σ3 H3 U S3 G3 Pt
  | brk e3 m3=>rw[hr] at Pt;exact fun as3 H3 σ3 U S3 G3=>Pt as3 H3 σ3 (T.trans U) S3 G3
  | ret w' m3=>rw[hr] at Pt;exact fun as3 H3 v3 U S3 R3=>Pt as3 H3 v3 (T.trans U) S3 R3
  | exc c w' e3 m3=>rw[hr] at Pt;exact Pt.elim
  | no=>rw[hr] at Pt;exact Pt.elim
theorem for_bind {it:En->Me->Rz}{g:TG}{st:Wd->En->Option En}{b:En->Me->Rs}(hg:TgtOk K g st) {D:Ends}{σ:St}{H:Hp}
  (h:tOfS K (fun env m=>(it env m).bindS env fun w m1=>forW (bodyOf st b) w env m1) D σ H):tFor (iOf K it) g (tOfS K b) D σ H:=by
 obtain ⟨as,env,m,S,G,P⟩:=h
 refine ⟨as,env,m,S,G,PostS.bindI P fun w m1 P1=>?_⟩
 have seqs:∀ (xs:List Wd),PostS K as H D (loopL (bodyOf st b) xs env m1)->∀ as1 H1 J,Step as H as1 H1->Sim K as1 m1 H1->TupIt K as1 H1 J xs ->
   ∃ W:Nat->Nat->L2.St->Hp->Prop,(∃ m,W 0 m σ H1)/\∀ i m σ H,W i m σ H ->
    (J.stop i H/\D.nx σ H)\/(J.go i H/\∃ N:L2.St->Hp->Prop,(∀ σ' H',N σ' H'->∃ m',m' < m/\W (i+1) m' σ' H')/\∀ x H',J.yld i H x H'->g x σ H' fun σ2 H2=>tOfS K b { D with nx:=N,ct:=N,bk:=D.nx } σ2 H2):=by
  intro xs Pc as1 H1 J T1 S1 hI
  obtain ⟨vs,ok,hJ,ok1,RL,stab⟩:=hI
  have hlen:=RL.length
  have Pc1:=PostS.step Pc T1
  refine ⟨fun i n σ' H'=>∃ as' m' env',i<=xs.length/\n=xs.length - i/\Step as1 H1 as' H'/\Sim K as' m' H'/\EnvRep K as' H' env' σ'/\ok H'/\RepL K as' H' xs vs/\PostS K as1 H1 D (loopL (bodyOf st b) (xs.drop i) env' m'),
   ⟨xs.length,as1,m1,env,Nat.zero_le _,rfl,.refl,S1,G.mono S T1,ok1,RL,Pc1⟩,?_⟩
  rintro i n σ' H' ⟨as',m',env',hi,rfl,T',S',G',okH,RL',Pi⟩
  by_cases hlt:i < xs.length
  ·refine .inr ⟨hJ.go i H' okH (by rw[<- hlen];exact hlt),fun σ2 H2=>∃ as2 m2 env2,i+1<=xs.length/\Step as1 H1 as2 H2/\Sim K as2 m2 H2/\EnvRep K as2 H2 env2 σ2/\ok H2/\RepL K as2 H2 xs vs/\PostS K as1 H1 D (loopL (bodyOf st b) (xs.drop (i+1)) env2 m2),?_,fun v H'' hy=>?_⟩
   ·rintro σ2 H2 ⟨as2,m2,env2,q⟩
    exact ⟨xs.length - (i+1),by lia,as2,m2,env2,q.1,rfl,q.2⟩
   ·obtain ⟨rfl,hv⟩:=hJ.yld i H' v H'' okH (by rw[<- hlen];exact hlt) hy
    obtain ⟨v',hv',Rx⟩:=RL'.get (i:=i) (x:=xs[i]) (by simp[hlt])
    rw[hv] at hv';cases hv'
    rw[List.drop_eq_getElem_cons hlt] at Pi
    refine for_turn hg (next:=fun e m=>loopL (bodyOf st b) (xs.drop (i+1)) e m) T' S' G' Rx Pi ?_
    intro as2 m2 e2 σ2 H2 U S2 G2 P2
    exact ⟨as2,m2,e2,hlt,T'.trans U,S2,G2,stab _ _ (S'.kp U) okH,RL'.mono S' U,P2⟩
  ·have e:i=xs.length:=by lia
   subst e
   rw[List.drop_length] at Pi
   exact .inl ⟨hJ.stop _ H' okH (by lia),Pi as' H' σ' T' S' G'⟩
 cases w with
 | tup xs=>exact ⟨rfl,fun as1 H1 J T1 S1 hI=>seqs xs P1 as1 H1 J T1 S1 hI⟩
 | rol xs=>exact ⟨rfl,fun as1 H1 J T1 S1 hI=>seqs xs P1 as1 H1 J T1 S1 hI⟩
 | ref l =>
  have P2:PostS K as H D (loopR (bodyOf st b) l (lim+1) 0 env m1):=P1
  refine ⟨?_,fun as1 H1 J T1 S1 hI=>?_⟩
  ·show (lstAt m1 l).isSome=true
   cases e:lstAt m1 l with
   | some xs=>rfl
   | none =>
    unfold loopR at P2
    rw[e] at P2
    exact P2.elim
  ·obtain ⟨a,ha,rfl⟩:=hI
   have Pc1:=PostS.step P2 T1
   refine ⟨fun i n σ' H'=>∃ as' m' env',as'[l]?=some a/\Step as1 H1 as' H'/\Sim K as' m' H'/\EnvRep K as' H' env' σ'/\PostS K as1 H1 D (loopR (bodyOf st b) l n i env' m'),⟨lim+1,as1,m1,env,ha,.refl,S1,G.mono S T1,Pc1⟩,?_⟩
   rintro i n σ' H' ⟨as',m',env',hl,T',S',G',Pi⟩
   cases n with
   | zero=>exact Pi.elim
   | succ n =>
    unfold loopR at Pi
    cases e:lstAt m' l with
    | none=>rw[e] at Pi;exact Pi.elim
    | some xs =>
     rw[e] at Pi
     simp only[] at Pi
     obtain ⟨a',vs,ha',eH,RL⟩:=lst_of S' (lstAt_some e)
     rw[hl] at ha';cases ha'
     cases ex:xs[i]? with
     | none =>
      rw[ex] at Pi
      have hle:vs.length<=i:=by rw[<- RL.length];exact List.getElem?_eq_none_iff.mp ex
      exact .inl ⟨⟨vs,SqL.of eH,hle⟩,Pi as' H' σ' T' S' G'⟩
     | some x =>
      rw[ex] at Pi
      obtain ⟨v0,hv0,Rx⟩:=RL.get ex
      refine .inr ⟨⟨vs,v0,SqL.of eH,hv0⟩,fun σ2 H2=>∃ as2 m2 env2,as2[l]?=some a/\Step as1 H1 as2 H2/\Sim K as2 m2 H2/\EnvRep K as2 H2 env2 σ2/\PostS K as1 H1 D (loopR (bodyOf st b) l n (i+1) env2 m2),?_,fun v H'' hy=>?_⟩
      ·rintro σ2 H2 q
       exact ⟨n,Nat.lt_succ_self _,q⟩
      ·obtain ⟨rfl,hy⟩:=hy
       have:=hy vs (SqL.of eH)
       rw[hv0] at this;cases this
       refine for_turn hg (next:=fun e m=>loopR (bodyOf st b) l n (i+1) e m) T' S' G' Rx Pi ?_
       intro as2 m2 e2 σ2 H2 U S2 G2 P2
       exact ⟨as2,m2,e2,U.get hl,T'.trans U,S2,G2,P2⟩
 | non=>exact P1.elim
 | bl k=>exact P1.elim
 | int i=>exact P1.elim
 | str s=>exact P1.elim
end
end Mini
namespace Mini
open PySem PySem.Spec PyProof.Rows L2
set_option genInjectivity false in
inductive Ns where
 | s (st:Stmt) | b (sts:List Stmt)
noncomputable def locB (sc:Scope) (x:Str):Bool:=decide (sc.names.lookup x=some .local) || decide (sc.names.lookup x=some .cell)
def SndS (cl:Nat->List Wd->Me->Rz) (X:Cx) (s:Sm):Ns->Prop
 | .s st=>PS X st (tOfS X.K (exS cl s))
 | .b sts=>PSs X sts (tOfS X.K (exS cl s))
structure StOk (X:Cx):Prop where
 nd:X.N.Nodup
 fn:∀ x,X.fn x=true
 hp:PassesOwn (model X.prog X.w) X.A X.env X.xe
section
variable {cl : Nat -> List Wd -> Me -> Rz}
theorem loc_of {sc:Scope}{x:Str}(h:locB sc x=true):Loc sc x:=by
 unfold locB at h
 simp only[Bool.or_eq_true,decide_eq_true_eq] at h
 exact h
def IsS (C:Ctx) (sc:Scope) (N:List Str) (s:Sm) (n:Ns):Prop:=∀ (cl:Nat → List Wd → Me → Rz) (d:Nat) (X:Cx),CtxOk C X cl d → StOk X → X.env.scope=sc → X.N=N → SndS cl X s n
theorem soundS {C:Ctx}{d:Nat}{X:Cx}(hC:CtxOk C X cl d) (hX:StOk X) {s:Sm}{n:Ns}(h:IsS C X.env.scope X.N s n):SndS cl X s n:=h cl d X hC hX rfl rfl
theorem IsS.«skip0» {C:Ctx}{sc:Scope}{N:List Str}:IsS C sc N .skip (.b []):=by
 intro cl d X hC hX es eN;subst es;subst eN
 exact ss_skip
theorem IsS.«one» {C:Ctx}{sc:Scope}{N:List Str}{s:Sm}{st:Stmt}(h:IsS C sc N s (.s st)):IsS C sc N s (.b [st]):=by
 intro cl d X hC hX es eN;subst es;subst eN
 have ih:=h cl d X hC hX rfl rfl
 exact pss_one ih
theorem IsS.«seq» {C:Ctx}{sc:Scope}{N:List Str}{a b:Sm}{st st':Stmt}{r:List Stmt}(ha:IsS C sc N a (.s st)) (hb:IsS C sc N b (.b (st'::r))):IsS C sc N (.seq a b) (.b (st::st'::r)):=by
 intro cl d X hC hX es eN;subst es;subst eN
 have iha:=ha cl d X hC hX rfl rfl
 have ihb:=hb cl d X hC hX rfl rfl
 exact ss_seq iha ihb
theorem IsS.«asg» {C:Ctx}{sc:Scope}{N:List Str}{i:Nat}{e:Ex}{x:Str}{v:Expr}{p p':Pos}(hc:isComp v=false) (h1:N[i]?=some x) (h2:locB sc x=true) (hr:isRng e=false) (he:IsE C sc N e (.e v)):IsS C sc N (.asg i e) (.s (.Assign [.Name x p] v p')):=by
 intro cl d X hC hX es eN;subst es;subst eN
 exact PS.imp (ps_set hX.nd h1 (loc_of h2) ((sound he X hC rfl rfl).pe hr) (sw_val hc) (.inl (hX.fn _))) fun D σ H q=>asg_bind q
theorem IsS.«ite» {C:Ctx}{sc:Scope}{N:List Str}{c:Ex}{a b:Sm}{x:Expr}{xs ys:List Stmt}{p:Pos}(rc:isRng c=false) (ic:isIf c=false) (hc:IsE C sc N c (.e x)) (ha:IsS C sc N a (.b xs)) (hb:IsS C sc N b (.b ys)):IsS C sc N (.ite c a b) (.s (.If x xs ys p)):=by
 intro cl d X hC hX es eN;subst es;subst eN
 have iha:=ha cl d X hC hX rfl rfl
 have ihb:=hb cl d X hC hX rfl rfl
 exact ss_if ((sound hc X hC rfl rfl).pt rc ic) iha ihb
theorem IsS.«forv» {C:Ctx}{sc:Scope}{N:List Str}{i:Nat}{it:Ex}{body:Sm}{x:Str}{y:Expr}{sts:List Stmt}{p p':Pos}(h1:N[i]?=some x) (h2:locB sc x=true) (hs:notSet y=true) (hi:IsE C sc N it (.e y)) (hb:IsS C sc N body (.b sts)):IsS C sc N (.forv i it body) (.s (.For (.Name x p) y sts [] p')):=by
 intro cl d X hC hX es eN;subst es;subst eN
 have ihb:=hb cl d X hC hX rfl rfl
 have hset:∀ v,foldedSetIterable y X.env v=pure v:=set_plain hs
 refine PS.imp (ps_for hX.hp hC.calm ((sound hi X hC rfl rfl).2 _) (pg_name hX.nd h1 (loc_of h2) (.inl (hX.fn _))) ihb hset) fun D σ H q=>?_
 exact for_bind (tgt_name i) q
theorem IsS.«ret» {C:Ctx}{sc:Scope}{N:List Str}{e:Ex}{x:Expr}{p:Pos}(hr:isRng e=false) (he:IsE C sc N e (.e x)):IsS C sc N (.ret e) (.s (.Return (some x) p)):=by
 intro cl d X hC hX es eN;subst es;subst eN
 exact ss_ret ((sound he X hC rfl rfl).pe hr)
theorem IsS.«expr» {C:Ctx}{sc:Scope}{N:List Str}{e:Ex}{x:Expr}{p:Pos}(hc:isComp x=false) (hr:isRng e=false) (he:IsE C sc N e (.e x)):IsS C sc N (.expr e) (.s (.Expr x p)):=by
 intro cl d X hC hX es eN;subst es;subst eN
 exact ss_expr ((sound he X hC rfl rfl).pe hr) hc
theorem IsS.«never» {C:Ctx}{sc:Scope}{N:List Str}{st:Stmt}:IsS C sc N .never (.s st):=by
 intro cl d X hC hX es eN;subst es;subst eN
 exact ss_never
end
end Mini
namespace Mini
open PySem PySem.Spec PyProof.Rows L2
structure Dfn where
 nm:Str
 st:Stmt
 N:List Str
 ps:List Str
 fn:Fn
noncomputable def scopeB (N ps:List Str) (sc:Scope):Bool :=
 decide (sc.kind=.function) && (decide (sc.isCoroutine=false) && (decide (sc.isGenerator=false) && (decide N.Nodup && (decide (N.take ps.length=ps) &&
  (ps.all (fun x=>decide (sc.names.lookup x=some .local) || decide (sc.names.lookup x=some .cell)) && sc.names.all (fun y=>!(decide (y.2=.free))))))))
theorem scopeB_ok {N ps:List Str}{sc:Scope}(h:scopeB N ps sc=true):FnScope N ps sc:=by
 unfold scopeB at h
 simp only[Bool.and_eq_true,Bool.or_eq_true,decide_eq_true_eq,List.all_eq_true,Bool.not_eq_true',decide_eq_false_iff_not] at h
 obtain ⟨h1,h2,h3,h4,h5,h6,h7⟩:=h
 exact ⟨h1,h2,h3,h4,h5,h6,h7⟩
structure OkD (C:Ctx) (d:Dfn):Prop where
 sc:scopeB d.N d.ps (defScope d.st)=true
 ar:d.ps.length=d.fn.ar
 sz:d.N.length=d.fn.sz
 body:IsS C (defScope d.st) d.N d.fn.body (.b (defBody d.st))
section
variable {P : Program} {w : World} {K : PySem.W.Frag} {mg : Str -> Option Value} {base : Heap} {C : Ctx} {cl : Nat -> List Wd -> Me -> Rz}
theorem begin_rep {as:List Addr}{H:Hp}{fn:Fn}{N:List Str}{ws:List Wd}{vs:List V}(R:RepL K as H ws vs) (hl:ws.length=fn.ar) (hN:N.length=fn.sz):EnvRep K as H (begin0 fn ws) (L2.start N vs):=by
 have hv:=R.length
 refine ⟨by simp[begin0,L2.start,hN,hv],fun i w e=>?_⟩
 unfold begin0 at e
 by_cases hi:i < ws.length
 ·rw[List.getElem?_append_left (by simpa using hi),List.getElem?_map] at e
  cases hx:ws[i]? with
  | none=>rw[hx] at e;cases e
  | some x =>
   rw[hx] at e
   cases e
   obtain ⟨v,h1,h2⟩:=R.get hx
   refine ⟨v,?_,h2⟩
   unfold L2.start
   rw[List.getElem?_append_left (by simp;lia),List.getElem?_map,h1]
   rfl
 ·rw[List.getElem?_append_right (by simpa using hi),List.getElem?_replicate] at e
  split at e <;> cases e
theorem fn_sound {d:Dfn}{f:Addr}{fd:FuncData}{k:Nat}(F:Fun K d.nm d.nm d.st f fd) (hd:OkD C d)
  (hfn:∀ (i:Nat) (nm:Str),C.fns[i]?=some nm->∃ f fd ps,mg nm=some (.ref f)/\PySem.W.keepIn K (.ref f)=true/\Binds K fd ps []/\FnOk P w K mg base CX0 k f fd ps (spOf K (cl i)))
  (hcon:∀ (nm:Str) (i:Int),C.cons.lookup nm=some i->∃ t,mg nm=some (.int i t)) (hblt:∀ nm ∈ bltNames,mg nm=none) :
  FnOk P w K mg base CX0 (k+1) f fd d.ps (spOf K (runF cl d.fn)):=by
 obtain ⟨h1,h2,h3,h4⟩:=hd
 have Sc:=scopeB_ok h1
 have arity:∀ {as:List Addr}{H:Hp}{Q:VK}{ws:List Wd}{m:Me},Post K as H Q (runF cl d.fn ws m)->ws.length=d.fn.ar:=fun {as H Q ws m} h=>by
  unfold runF at h
  split at h
  ·assumption
  ·exact h.elim
 refine F.ok Sc (fun vs H Q E h=>?_) (fun cdv A outer s H vs Q E hr h=>?_)
 ·obtain ⟨as,m,ws,S,R,q⟩:=h
  rw[<- R.length,arity q,h2]
 ·obtain ⟨as,m,ws,S,R,q⟩:=h
  have ha:=arity q
  have hC:CtxOk C (cxOf CX0 P w K mg base d.N d.nm (defScope d.st) f cdv A outer s H E).nox cl k:=⟨hr,rfl,hfn,hcon,hblt⟩
  have hX:StOk (cxOf CX0 P w K mg base d.N d.nm (defScope d.st) f cdv A outer s H E).nox:=⟨Sc.nd,fun _=>rfl,PassesOwn.never⟩
  refine ⟨_,soundS hC hX h4,as,begin0 d.fn ws,m,S,begin_rep R ha h3,?_⟩
  unfold runF at q
  rw[if_pos ha] at q
  cases hr:exS cl d.fn.body (begin0 d.fn ws) m with
  | next e m1=>rw[hr] at q;exact fun as' H' σ' T S' G=>q as' H' .non T S' (rep_non.mpr rfl)
  | ret w m1=>rw[hr] at q;exact fun as' H' v T S' R'=>q as' H' v T S' R'
  | brk e m1=>rw[hr] at q;exact q.elim
  | cont e m1=>rw[hr] at q;exact q.elim
  | exc c w e m1=>rw[hr] at q;exact q.elim
  | no=>rw[hr] at q;exact q.elim
def DefOk (K:PySem.W.Frag) (mg:Str->Option Value) (d:Dfn):Prop:=∃ f fd,Fun K d.nm d.nm d.st f fd/\mg d.nm=some (.ref f)
def Bnd (d:Dfn):Prop:=∀ (kV doc pm:Value) (an:Option Addr) (cdv ct:Value) (us:List Value),us.length=d.ps.length->bindArgs (PySem.W.fnOf d.nm d.nm (defArgs d.st) (defBody d.st) (defScope d.st) .none kV doc pm an cdv ct) ⟨us,[]⟩=pure (d.ps.zip us)
end
theorem law_pure {K:PySem.W.Frag}{D:List Dfn}{k i:Nat}{H:Hp}{a:Addr}{ns:List Int}{E:XK}(hO:Only H) (hS:SqL K H a (ns.map V.int)) (h:∃ m,callN (D.map (·.fn)) k i [.rol (ns.map Wd.int)] []=.ok (.bl true) m) :
  spOf K (callN (D.map (·.fn)) k i) [.ref a] H (fun v _=>v=.bl true) E:=by
 obtain ⟨m,h⟩:=h
 refine ⟨[],[],[.rol (ns.map Wd.int)],⟨rfl,List.nodup_nil,fun l a o e=>by simp at e⟩,repL_cons.mpr ⟨.ref a,[],rfl,rep_rol.mpr ⟨a,ns.map V.int,rfl,?_,?_⟩,repL_nil.mpr rfl⟩,?_⟩
 ·rcases hS with (hS | ⟨o,hS⟩) | hS
  ·rcases hO a with z | ⟨o,xs,z⟩
   ·rw[z] at hS;cases hS
   ·rw[z] at hS;cases hS
  ·exact .inl ⟨o,hS⟩
  ·exact .inr hS
 ·have all:∀ l:List Int,RepL K [] H (l.map Wd.int) (l.map V.int):=by
   intro l
   induction l with
   | nil=>exact repL_nil.mpr rfl
   | cons n l ih=>exact repL_cons.mpr ⟨_,_,rfl,rep_int.mpr rfl,ih⟩
  exact all ns
 ·rw[h]
  exact fun as' H' v T S R=>rep_bl.mp R
theorem IsE.v {C:Ctx}{sc:Scope}{N:List Str}{i:Nat}{x:Str}{p:Pos}(h1:N[i]?=some x:=by rfl) (h2:visB sc x=true:=by kernel_rfl) (h3:okName x=true:=by kernel_rfl):IsE C sc N (.var i) (.e (.Name x p)):=.var h1 h2 h3
theorem us1 {P:List Value->Prop}(h:∀ a,P [a]):∀ us:List Value,us.length=1->P us
 | [a],_=>h a
theorem usS {n:Nat}{P:List Value->Prop}(h:∀ a (us:List Value),us.length=n->P (a::us)):∀ us:List Value,us.length=n+1->P us
 | a::us,e=>h a us (Nat.succ.inj e)
theorem us2 {P:List Value->Prop}(h:∀ a b,P [a,b]):∀ us:List Value,us.length=2->P us:=usS fun a=>us1 (P:=fun us=>P (a::us)) (h a)
theorem us3 {P:List Value->Prop}(h:∀ a b c,P [a,b,c]):∀ us:List Value,us.length=3->P us:=usS fun a=>us2 (P:=fun us=>P (a::us)) (h a)
theorem us4 {P:List Value->Prop}(h:∀ a b c d,P [a,b,c,d]):∀ us:List Value,us.length=4->P us:=usS fun a=>us3 (P:=fun us=>P (a::us)) (h a)
end Mini
namespace Mini
open PySem PySem.Spec PyProof.Rows L2
set_option genInjectivity false in
structure Xc where
 g:Str
 rs:List Str
 os:List Str
noncomputable def Xc.xs (Q:Xc):List Str:=Q.rs++Q.os
theorem Xc.at {Q:Xc}{c:Nat}{x:Str}(h:Q.rs[c]?=some x):Q.xs[c]?=some x:=by
 unfold Xc.xs
 rw[List.getElem?_append_left (List.getElem?_eq_some_iff.mp h).1]
 exact h
noncomputable def vmB:List Value:=[.type "ValueError",.type "Exception",.type "BaseException",.type "object"]
set_option tactic.hygienic true in
theorem own_in {K:PySem.W.Frag}{h:Heap}{C:Addr}{v:Value}(X:K.In h) (q:PySem.W.excIn K C vmB "ValueError.__new__" = true):(∀ (x:Str) (mg:Str->Option Value),mg x=some (.ref C)->OwnCls x C vmB "ValueError.__new__" mg h)/\(PySem.W.mroIn K C v=some true->IsExc h C v):=by
 unfold PySem.W.excIn at q
 split at q
 ·rename_i dd cd sl ho
  split at q
  ·rename_i C' bm k0 k1 k2 k3 n k5 hm hs
   simp only[Bool.and_eq_true,beq_iff_eq,Bool.not_eq_true'] at q
   obtain ⟨⟨⟨⟨⟨rfl,rfl⟩,q1⟩,q2⟩,q3⟩,q4⟩:=q
   have eo:=X _ _ ho
   have em:PySem.W.mroIn K C' v=some (cd.mro.contains v):=by
    unfold PySem.W.mroIn PySem.W.clsIn
    rw[ho]
    simp only[Option.bind_some]
    rw[hm]
    rfl
   obtain ⟨a1,a2,a3,a4,a5,a6,a7,a8,a9,b1,b2⟩:=cd
   dsimp only at hm q1 q3 q4 em
   subst hm q1
   have es:sl=#[k0,k1,k2,k3,some (.builtin "ValueError.__new__"),k5]:=by
    obtain ⟨l⟩:=sl
    simp only at hs
    rw[hs]
   subst es
   have T:=PySem.W.tail_of_in X q2
   refine ⟨fun x mg hb=>⟨hb,bm,a4,a1,a5,a2,a6,a7,a8,a9,b1,dd,k0,k1,k2,k3,k5,_,eo,.of_isNs (PySem.W.isNs_of_in X q3),PySem.W.nsMap_none_of_in X q3 q4,T⟩,fun z=>?_⟩
   rw[em] at z
   exact ⟨a1,a5,a4,a2,bm,a6,a7,a8,a9,b1,dd,k0,k1,k2,k3,k5,_,eo,Option.some.inj z⟩
  ·cases q
 ·cases q
structure XOk (K:PySem.W.Frag) (mg:Str->Option Value) (Q:Xc) (G:Addr):Prop where
 g:mg Q.g=some (.ref G)
 ge:PySem.W.excIn K G vmB "ValueError.__new__" = true
 gb:PySem.W.mroIn K G (.type "BaseException")=some true
 v:mg "ValueError" = none
 y:∀ (c:Nat) (x:Str),Q.xs[c]?=some x->∃ A,mg x=some (.ref A)
 x:∀ (c:Nat) (x:Str),Q.rs[c]?=some x->∃ A,mg x=some (.ref A)/\PySem.W.excIn K A vmB "ValueError.__new__" = true/\ExcK K A/\PySem.W.mroIn K A (.ref G)=some true/\PySem.W.kitOne K (.ref A) (.type "ValueError")=some true /\
  ∀ (c':Nat) (x':Str) (A':Addr),Q.xs[c']?=some x'->mg x'=some (.ref A')->PySem.W.kitOne K (.ref A) (.ref A')=some (decide (c=c'))
def RX (mg:Str->Option Value) (Q:Xc) (E:XK):VK:=fun v H=>∃ (c:Nat) (x:Str) (A:Addr),v=.int c/\Q.rs[c]?=some x/\mg x=some (.ref A)/\E (.ref A) none H
def spX (K:PySem.W.Frag) (mg:Str->Option Value) (Q:Xc) (g:List Wd->Me->Rz):Sp:=fun vs H _ E=>spOf K g vs H (RX mg Q E) E0
noncomputable def nsB (sc:Scope) (Q:Xc):List Expr->List Nat->Bool
 | [],[]=>true
 | .Name x _::es,c::cs=>glB sc x && (okName x && (decide (Q.xs[c]?=some x) && nsB sc Q es cs))
 | _,_=>false
noncomputable def plainB:Sm->Bool
 | .expr _=>true
 | .asg _ _=>true
 | _=>false
theorem plain_run {cl:Nat->List Wd->Me->Rz}{a:Sm}(h:plainB a=true) (env:En) (m:Me):(∃ e1 m1,exS cl a env m=.next e1 m1)\/(∃ c w e1 m1,exS cl a env m=.exc c w e1 m1)\/exS cl a env m=.no:=by
 cases a with
 | expr e =>
  show (∃ e1 m1,(evE cl e env m).bindS env _=.next e1 m1)\/(∃ c w e1 m1,(evE cl e env m).bindS env _=.exc c w e1 m1)\/(evE cl e env m).bindS env _=.no
  cases evE cl e env m with
  | ok w m1=>exact .inl ⟨_,_,rfl⟩
  | exc c w m1=>exact .inr (.inl ⟨_,_,_,_,rfl⟩)
  | no=>exact .inr (.inr rfl)
 | asg i e =>
  show (∃ e1 m1,(evE cl e env m).bindS env _=.next e1 m1)\/(∃ c w e1 m1,(evE cl e env m).bindS env _=.exc c w e1 m1)\/(evE cl e env m).bindS env _=.no
  cases evE cl e env m with
  | ok w m1=>exact .inl ⟨_,_,rfl⟩
  | exc c w m1=>exact .inr (.inl ⟨_,_,_,_,rfl⟩)
  | no=>exact .inr (.inr rfl)
 | _=>cases h
inductive IsX (C:Ctx) (Q:Xc) (xn:List (Nat × Str)) (sc:Scope) (N:List Str):Sm->List Stmt->Prop
 | ite {c:Ex}{y:Expr}{x msg:Str}{j k:Nat}{np cp p p1 p2:Pos}{rest:List Stmt}(rc:isRng c=false) (ic:isIf c=false) (hc:IsE C sc N c (.e y)) (hx:Q.rs[j]?=some x) (hg:glB sc x=true) (ok:okName x=true) :
   IsX C Q xn sc N (.ite c (.ret (.lit (.int j))) .never) (.If y [.Raise (some (.Call (.Name x np) [.Constant (.str msg) k p1] [] cp)) none p2] [] p::rest)
 | iteF {c:Ex}{y:Expr}{x msg v:Str}{i j k:Nat}{b:Int}{np cp p p1 p2 p3 p4 p5:Pos}{rest:List Stmt}(rc:isRng c=false) (ic:isIf c=false) (hc:IsE C sc N c (.e y)) (hx:Q.rs[j]?=some x) (hg:glB sc x=true) (ok:okName x=true) (hi:N[i]?=some v) (hv:visB sc v=true) (ov:okName v=true)
   (hb:decide (b.natAbs.log2 < 1920)=true) (hz1:decide ((Str.empty++msg).length<=sizeLine)=true) (hz2:decide ((Str.empty++msg++(toString b:Str)).length<=sizeLine)=true) :
   IsX C Q xn sc N (.ite c (.ite (.cmp .eq (.bin .sub (.var i) (.lit (.int b))) (.lit (.int 0))) (.ret (.lit (.int j))) .never) .never) (.If y [.Raise (some (.Call (.Name x np) [.JoinedStr [.Constant (.str msg) k p1,.FormattedValue (.Name v p3) (-1) none p4] p5] [] cp)) none p2] [] p::rest)
 | seqS {a b:Sm}{st st':Stmt}{r:List Stmt}(hn:plainB a=true) (ha:IsS C sc N a (.s st)) (hb:IsX C Q xn sc N b (st'::r)):IsX C Q xn sc N (.seq a b) (st::st'::r)
 | call {k:Nat}{a:Ex}{nm:Str}{y:Expr}{ys:List Expr}{p p' p2:Pos}{rest:List Stmt}(hk:xn.lookup k=some nm) (hg:glB sc nm=true) (ok:okName nm=true) (hs:(y::ys).all notStar=true) (ha:IsE C sc N a (.a (y::ys))) :
   IsX C Q xn sc N (.ret (.call k a)) (.Expr (.Call (.Name nm p) (y::ys) [] p') p2::rest)
theorem CtxOk.wish {C:Ctx}{X:Cx}{cl:Nat->List Wd->Me->Rz}{d:Nat}(h:CtxOk C X cl d) (E:Value->Shared->Prop):CtxOk C (X.wish E) cl d:=⟨h.room,h.calm,h.fn,h.con,h.blt⟩
theorem okDbg {x:Str}(h:okName x=true):(x == ("__debug__" : Str))=false/\(x == ("__classdict__" : Str))=false:=by
 unfold okName at h
 simp only[Bool.and_eq_true,Bool.not_eq_true'] at h
 exact ⟨h.1.1,h.1.2⟩
section
variable {C : Ctx} {Q : Xc} {xn : List (Nat × Str)} {cl : Nat -> List Wd -> Me -> Rz} {d : Nat} {X : Cx} {G : Addr}
theorem ps_nox {X:Cx}{st:Stmt}{t:TS}(h:PS X.nox st t):PS X st t:=fun pins s σ H D I hw =>
 wpAny_mono (h pins s σ H D (I.wish _) hw) (fun _ _ q=>q.unwish) fun _ _ z=>False.elim z
inductive IsT (C:Ctx) (Q:Xc) (xn:List (Nat × Str)) (sc:Scope) (N:List Str):Sm->List Stmt->Prop
 | mk {k y i:Nat}{a:Ex}{nm n ny:Str}{e0:Expr}{es ns:List Expr}{cs:List Nat}{rest:List Stmt}{p q p' np hp pos p1 p2 p3 p4 p5 p6 p7 p8 p9 pa pb pc pd pe pf pg ph:Pos}{k1 k2:Nat}
   (hk:xn.lookup k=some nm) (hg:glB sc nm=true) (ok:okName nm=true) (hs:(e0::es).all notStar=true) (ha:IsE C sc N a (.a (e0::es))) (gg:glB sc Q.g=true) (og:okName Q.g=true) (hi:N[i]?=some n) (hn:decide (sc.names.lookup n=some .local)=true) (on:okName n=true)
   (hns:nsB sc Q ns cs=true) (hcs:cs.contains y=false) (hz:cs.length<=1000) (hy:Q.rs[y]?=some ny) (gy:glB sc ny=true) (oy:okName ny=true) (gI:glB sc "isinstance" = true) (gV:glB sc "ValueError" = true) :
   IsT C Q xn sc N (.ret (.cmp .eq (.call k a) (.lit (.int y)))) (.Try [.Expr (.Call (.Name nm p) (e0::es) [] q) p'] [.ExceptHandler (some (.Name Q.g np)) (some n) (suiteA n ny ns p1 p2 p3 p4 p5 p6 p7 p8 p9 pa pb pc pd pe pf pg ph k1 k2) hp] [] [] pos::rest)
end
end Mini
namespace Mini
open PySem PySem.Spec PyProof.Rows L2
structure OkT (C:Ctx) (Q:Xc) (xn:List (Nat × Str)) (d:Dfn):Prop where
 sc:scopeB d.N d.ps (defScope d.st)=true
 ar:d.ps.length=d.fn.ar
 sz:d.N.length=d.fn.sz
 body:IsT C Q xn (defScope d.st) d.N d.fn.body (defBody d.st)
structure OkX (C:Ctx) (Q:Xc) (xn:List (Nat × Str)) (d:Dfn):Prop where
 sc:scopeB d.N d.ps (defScope d.st)=true
 ar:d.ps.length=d.fn.ar
 sz:d.N.length=d.fn.sz
 body:IsX C Q xn (defScope d.st) d.N d.fn.body (defBody d.st)
section
variable {P : Program} {w : World} {K : PySem.W.Frag} {mg : Str -> Option Value} {base : Heap} {C : Ctx} {cl : Nat -> List Wd -> Me -> Rz} {Q : Xc} {xn : List (Nat × Str)} {G : Addr}
theorem arity {as:List Addr}{H:Hp}{R:VK}{fn:Fn}{ws:List Wd}{m:Me}(h:Post K as H R (runF cl fn ws m)):ws.length=fn.ar:=by
 unfold runF at h
 split at h
 ·assumption
 ·exact h.elim
end
end Mini
namespace Mini
open PySem PySem.Spec PyProof.Rows L2
noncomputable def lvlR (i:Nat):Sm:=.ret (.and (.cmp .eq (.idx (.var i) (.lit (.int 0))) (.idx (.var i) (.lit (.int 1)))) (.and (.cmp .eq (.idx (.var i) (.lit (.int 0))) (.idx (.var i) (.lit (.int 2)))) (.cmp .eq (.idx (.var i) (.lit (.int 0))) (.idx (.var i) (.lit (.int 3))))))
noncomputable def lvlM (i:Nat):Sm:=.seq (.expr (.blt .sum (.pair (.var i) .unit))) (.ite (.cmp .eq (.blt .len (.pair (.var i) .unit)) (.lit (.int 4))) (lvlR i) .never)
section
variable {cl : Nat -> List Wd -> Me -> Rz} {env : En} {m : Me} {i : Nat}
end
inductive IsM (C:Ctx) (sc:Scope) (N:List Str):Sm->List Stmt->Prop
 | mk {s:Sm}{st:Stmt}{i:Nat}{x:Str}{p1 p2 p3 p4 p5 p6 p7 p8:Pos}(hs:IsS C sc N s (.s st)) (hi:N[i]?=some x) (hv:visB sc x=true) (ho:okName x=true) (g1:glB sc "min" = true) (g2:glB sc "max" = true) :
   IsM C sc N (.seq s (lvlM i)) [st,.Return (some (.Compare (.Call (.Name "min" p1) [.Name x p2] [] p3) [.Eq] [.Call (.Name "max" p4) [.Name x p5] [] p6] p7)) p8]
structure OkM (C:Ctx) (d:Dfn):Prop where
 sc:scopeB d.N d.ps (defScope d.st)=true
 ar:d.ps.length=d.fn.ar
 sz:d.N.length=d.fn.sz
 body:IsM C (defScope d.st) d.N d.fn.body (defBody d.st)
section
variable {P : Program} {w : World} {K : PySem.W.Frag} {mg : Str -> Option Value} {base : Heap} {C : Ctx} {cl : Nat -> List Wd -> Me -> Rz}
end
end Mini
namespace Mini
open PySem PySem.Spec PyProof.Rows L2
noncomputable def argsV:List Nat->Ex
 | []=>.unit
 | u::r=>.pair (.var u) (argsV r)
theorem EnvRep.hole {K:PySem.W.Frag}{as:List Addr}{H:Hp}{env:En}{σ:St}(G:EnvRep K as H env σ) (i:Nat):EnvRep K as H (env.set i none) (σ.set i none):=by
 refine ⟨by simp[G.len],fun j x e=>?_⟩
 by_cases hj:i=j
 ·subst hj
  rw[List.getElem?_set] at e
  split at e
  ·split at e <;> cases e
  ·rename_i z;exact absurd rfl z
 ·rw[List.getElem?_set_ne hj] at e ⊢
  exact G.get j x e
theorem PostAS.bind {K:PySem.W.Frag}{as:List Addr}{H:Hp}{D:Ends}{Q1:List V->Hp->Prop}{r:Rz}{g:Wd->Me->Rz}{env:En}{f:Wd->Me->Rs}(h:PostS K as H D ((r.bind g).bindS env f))
  (k:∀ w m' as' H' vs,Step as H as' H'->Sim K as' m' H'->RepL K as' H' (argsOf w) vs->PostS K as' H' D ((g w m').bindS env f)->Q1 vs H'):PostA K as H Q1 r:=by
 cases r with
 | ok w m'=>exact fun as2 H2 v U S R=>k w m' as2 H2 v U S R (PostS.step (r:=(g w m').bindS env f) h U)
 | exc c w m'=>exact h
 | no=>exact h
theorem sim_any {K:PySem.W.Frag}{as:List Addr}{m:Me}{H:Hp}{p:Addr}(S:Sim K as m H) (hp:H p=none) (o:HO):Step as H as (upd H p o)/\Sim K as m (upd H p o):=by
 have T:Step as H as (upd H p o):=⟨⟨[],by simp⟩,fun b o' h _=>by rw[upd_ne (ne_of_none h hp)];exact h,fun b hb=>.inl hb⟩
 refine ⟨T,S.keep T fun b _ o' e=>?_⟩
 rw[upd_ne (ne_of_none e hp)]
 exact e
inductive IsK (Q:Xc) (sc:Scope) (n:Str) (y:Nat):List Stmt->Prop
 | mk {ny:Str}{ns:List Expr}{cs:List Nat}{p1 p2 p3 p4 p5 p6 p7 p8 p9 pa pb pc pd pe pf pg ph:Pos}{k1 k2:Nat}(hn:decide (sc.names.lookup n=some .local)=true) (on:okName n=true) (hns:nsB sc Q ns cs=true) (hcs:cs.contains y=false) (hz:cs.length<=1000) (hy:Q.rs[y]?=some ny) (gy:glB sc ny=true) (oy:okName ny=true)
   (gI:glB sc "isinstance" = true) (gV:glB sc "ValueError" = true):IsK Q sc n y (suiteA n ny ns p1 p2 p3 p4 p5 p6 p7 p8 p9 pa pb pc pd pe pf pg ph k1 k2)
structure OkK (Q:Xc) (d:Dfn) (n:Str) (y:Nat):Prop where
 sc:scopeB d.N d.ps (defScope d.st)=true
 ps:d.ps=[n]
 N:d.N=[n]
 body:IsK Q (defScope d.st) n y (defBody d.st)
inductive IsW (C:Ctx) (Q:Xc) (xn:List (Nat × Str)) (kn:Str) (y:Nat) (sc:Scope) (N:List Str):Sm->List Stmt->Prop
 | mk {k1 k2 i j:Nat}{us1 us2:List Nat}{nm1 nm2 x n:Str}{e1 e2:Expr}{es1 es2:List Expr}{st:Stmt}{rest:List Stmt}{p q p' np hp pos q1 q2 q3 q4 q5 r p2 r' np2 hp2 pos2 u1 u2 u3 u4 u5 u6:Pos}
   (h0:IsS C sc N (.asg j (.lit (.bl false))) (.s st)) (hk1:xn.lookup k1=some nm1) (g1:glB sc nm1=true) (o1:okName nm1=true) (s1:(e1::es1).all notStar=true) (a1:IsE C sc N (argsV us1) (.a (e1::es1)))
   (hk2:xn.lookup k2=some nm2) (g2:glB sc nm2=true) (o2:okName nm2=true) (s2:(e2::es2).all notStar=true) (a2:IsE C sc N (argsV us2) (.a (e2::es2))) (ni:us2.contains i=false)
   (gg:glB sc Q.g=true) (og:okName Q.g=true) (hi:N[i]?=some n) (hn:decide (sc.names.lookup n=some .local)=true) (on:okName n=true)
   (hj:N[j]?=some x) (hx:decide (sc.names.lookup x=some .local)=true) (ox:okName x=true) (hij:decide (i=j)=false) (gk:glB sc kn=true) (ok:okName kn=true) :
   IsW C Q xn kn y sc N (.seq (.asg j (.lit (.bl false))) (.seq (.asg j (.cmp .eq (.call k1 (argsV us1)) (.lit (.int y)))) (.ret (.and (.cmp .eq (.call k2 (argsV us2)) (.lit (.int y))) (.var j)))))
    (st::.Try [.Expr (.Call (.Name nm1 p) (e1::es1) [] q) p'] [.ExceptHandler (some (.Name Q.g np)) (some n) [.Assign [.Name x q1] (.Call (.Name kn q2) [.Name n q3] [] q4) q5] hp] [] [] pos ::
     .Try [.Expr (.Call (.Name nm2 r) (e2::es2) [] p2) r'] [.ExceptHandler (some (.Name Q.g np2)) (some n) [.Return (some (.BoolOp .And [.Name x u1,.Call (.Name kn u2) [.Name n u3] [] u4] u5)) u6] hp2] [] [] pos2::rest)
section
variable {C : Ctx} {Q : Xc} {xn : List (Nat × Str)} {X : Cx} {cl : Nat -> List Wd -> Me -> Rz} {d : Nat} {G : Addr} {kd : Dfn} {y : Nat} {n' : Str}
end
structure OkW (C:Ctx) (Q:Xc) (xn:List (Nat × Str)) (kd:Dfn) (y:Nat) (d:Dfn):Prop where
 sc:scopeB d.N d.ps (defScope d.st)=true
 ar:d.ps.length=d.fn.ar
 sz:d.N.length=d.fn.sz
 body:IsW C Q xn kd.nm y (defScope d.st) d.N d.fn.body (defBody d.st)
section
variable {P : Program} {w : World} {K : PySem.W.Frag} {mg : Str -> Option Value} {base : Heap} {C : Ctx} {cl : Nat -> List Wd -> Me -> Rz} {Q : Xc} {xn : List (Nat × Str)} {G : Addr} {kd : Dfn} {y : Nat} {n : Str}
end
end Mini
namespace Mini
open PySem PySem.Spec PyProof.Rows L2
inductive IsIns (sc:Scope) (n:Str):List Expr->List Str->Prop
 | nil:IsIns sc n [] []
 | cons {c:Str}{es:List Expr}{cs:List Str}{p1 p2 p3 p4:Pos}(hg:glB sc c=true) (ok:okName c=true) (h:IsIns sc n es cs):IsIns sc n (.Call (.Name "isinstance" p1) [.Name n p2,.Name c p3] [] p4::es) (c::cs)
inductive IsKd (sc:Scope) (n x k:Str) (cs ds:List Str):List Stmt->Prop
 | mk {scope:Scope}{es fs:List Expr}{p1 p2 p3 p4 p5 p6 p7 p8 q0 q1 q2 q3 q4 q5 q6 q7 r1 r2 r3 r4 r5 r6 r7 r8 r9 ra:Pos}{j:Nat}(hn:decide (sc.names.lookup n=some .local)=true) (on:okName n=true) (gI:glB sc "isinstance" = true) (gV:glB sc "ValueError" = true) (gR:glB sc "range" = true)
   (hx:locB sc x=true) (ox:okName x=true) (he:IsIns sc n es cs) (hf:IsIns sc n fs ds) (hB:blockB sc [n,x] scope [k]=true) (hc:(compN [n,x] [k])[1]?=some x) (vx:visB (relabelS scope sc) x=true) (vk:visB (relabelS scope sc) k=true) (ok:okName k=true) :
   IsKd sc n x k cs ds [.If (.UnaryOp .Not (.Call (.Name "isinstance" p1) [.Name n p2,.Name "ValueError" p3] [] p4) p5) [.Return (some (.List [] p6)) p7] [] p8,
    .Assign [.Name x q0] (.List es q1) q2,.Assign [.Name x q3] (.BinOp (.Name x q4) .Add (.List fs q5) q6) q7,
    .Return (some (.ListComp (.Name k r1) [⟨.Name k r2,.Call (.Name "range" r3) [.Constant (.int 8) j r4] [] r5,[.Subscript (.Name x r6) (.Name k r7) r8],0⟩] scope r9)) ra]
structure OkKd (d:Dfn) (n x k:Str) (cs ds:List Str):Prop where
 sc:scopeB d.N d.ps (defScope d.st)=true
 ps:d.ps=[n]
 N:d.N=[n,x]
 body:IsKd (defScope d.st) n x k cs ds (defBody d.st)
def NumOk (K:PySem.W.Frag) (mg:Str->Option Value) (A:Addr):List Str->List Bool->Prop
 | [],[]=>True
 | x::r,b::bs=>(∃ B,mg x=some (.ref B)/\PySem.W.kitOne K (.ref A) (.ref B)=some b)/\NumOk K mg A r bs
 | _,_=>False
section
variable {X : Cx} {n : Str} {e A : Addr} {oe : Obj} {i : Nat}
theorem pe_ins {c:Str}{B:Addr}{b:Bool}{p1 p2 p3 p4:Pos}(hk:ExcK X.K A) (hc:oe.cls=.ref A) (hN:X.N[i]?=some n) (hn:X.env.scope.names.lookup n=some .local) (on:okName n=true) (hI:Gl X "isinstance") (hmI:X.mg "isinstance" = none) (hg:Gl X c) (hm:X.mg c=some (.ref B)) (ok:okName c=true) (hb:PySem.W.kitOne X.K (.ref A) (.ref B)=some b) :
  PE X (.Call (.Name "isinstance" p1) [.Name n p2,.Name c p3] [] p4) (fun σ H Q=>σ[i]?=some (some (V.ref e))/\H e=some (exO oe)/\Q (.bl b) H):=by
 refine PE.imp (pe_callB (call_isF (X:=X) (x:=e) hk hc) hI hmI (by rfl) (pa_cons (pe_var hN (.inl hn) (okDbg on).1 (okDbg on).2) (pa_cons (pe_glob (v:=.ref B) hg hm rfl (okDbg ok).1) pa_nil))) fun σ H Q h=>?_
 exact ⟨.ref e,h.1,h.2.1,.inl ⟨.ref B,.ref B,b,rfl,rfl,fun _ z=>z,hb,h.2.2⟩⟩
theorem pa_ins (hk:ExcK X.K A) (hc:oe.cls=.ref A) (hN:X.N[i]?=some n) (hn:X.env.scope.names.lookup n=some .local) (on:okName n=true) (hI:Gl X "isinstance") (hmI:X.mg "isinstance" = none) :
  ∀ {es:List Expr}{cs:List Str}{bs:List Bool},IsIns X.env.scope n es cs->NumOk X.K X.mg A cs bs->PA X es (fun σ H Q=>σ[i]?=some (some (V.ref e))/\H e=some (exO oe)/\Q (bs.map V.bl) H):=by
 intro es cs bs h
 induction h generalizing bs with
 | nil =>
  intro hb
  cases bs with
  | nil=>exact PA.imp pa_nil fun σ H Q h=>h.2.2
  | cons b bs=>exact hb.elim
 | cons hg ok h ih =>
  intro hb
  cases bs with
  | nil=>exact hb.elim
  | cons b bs =>
   obtain ⟨⟨B,hm,hk2⟩,hb⟩:=hb
   exact PA.imp (pa_cons (pe_ins (e:=e) (oe:=oe) hk hc hN hn on hI hmI (gl_of hg) hm ok hk2) (ih hb)) fun σ H Q h=>⟨h.1,h.2.1,h.1,h.2.1,h.2.2⟩
noncomputable def numB (c:Nat):List Bool:=(List.range 8).map fun j=>decide (c=j)
theorem at_num {c i:Nat}(h:i < 8):atI ((numB c).map V.bl) (0+(i:Int))=some (.bl (decide (c=i))):=by
 rcases (by lia:i=0\/i=1\/i=2\/i=3\/i=4\/i=5\/i=6\/i=7) with rfl | rfl | rfl | rfl | rfl | rfl | rfl | rfl <;> rfl
noncomputable def yet (c i:Nat):List V:=if c < i then [.int c] else []
theorem yet_go {c i:Nat}(h:c=i):yet c i++[.int (0+(i:Int))]=yet c (i+1):=by
 subst h
 unfold yet
 rw[if_neg (Nat.lt_irrefl _),if_pos (Nat.lt_succ_self _),Int.zero_add]
 rfl
theorem yet_no {c i:Nat}(h:c ≠ i):yet c i=yet c (i+1):=by
 unfold yet
 by_cases z:c < i
 ·rw[if_pos z,if_pos (Nat.lt_succ_of_lt z)]
 ·rw[if_neg z,if_neg (by lia)]
theorem kinds_ok {x k:Str}{cs ds:List Str}{c:Nat}{σ:St}{H:Hp}{D:Ends}{body:List Stmt}(hL:Loud X) (hX:X.N=[n,x]) (nd:X.N.Nodup) (hfn:∀ y,X.fn y=true) (hk:ExcK X.K A) (hV:PySem.W.kitOne X.K (.ref A) (.type "ValueError")=some true) (hc:oe.cls=.ref A) (hmI:X.mg "isinstance" = none) (hmV:X.mg "ValueError" = none) (hmR:X.mg "range" = none)
  (h8:c < 8) (h1:NumOk X.K X.mg A cs ((numB c).take 4)) (h2:NumOk X.K X.mg A ds ((numB c).drop 4)) (hB:IsKd X.env.scope n x k cs ds body) (hσ:σ=[some (.ref e),none]) (hH:H e=some (exO oe))
  (q:∀ H' p,(∀ a o,H a=some o->H' a=some o)->H p=none->H' p=some (.lst [.int c])->D.rt (.ref p) H'):∃ tt,PSs X body tt/\tt D σ H:=by
 cases hB with
 | @mk scope es fs p1 p2 p3 p4 p5 p6 p7 p8 q0 q1 q2 q3 q4 q5 q6 q7 r1 r2 r3 r4 r5 r6 r7 r8 r9 ra j hn on gI gV gR hx ox he hf hB hcx vx vk ok =>
  have hn':=of_decide_eq_true hn
  have hN0:X.N[0]?=some n:=by rw[hX];rfl
  have hN1:X.N[1]?=some x:=by rw[hX];rfl
  have hlx:=loc_of hx
  have hvx:Vis X.env.scope x:=hlx.elim .inl fun z=>.inr (.inl z)
  have pV:PE X (.Call (.Name "isinstance" p1) [.Name n p2,.Name "ValueError" p3] [] p4) (fun σ H Q=>σ[0]?=some (some (V.ref e))/\H e=some (exO oe)/\Q (.bl true) H):=by
   refine PE.imp (pe_callB (call_isF (X:=X) (x:=e) hk hc) (gl_of gI) hmI (by rfl) (pa_cons (pe_var hN0 (.inl hn') (okDbg on).1 (okDbg on).2) (pa_cons (pe_bltn (v:=.ty "ValueError") (gl_of gV) hmV (by rfl) rfl) pa_nil))) fun σ H Q h=>?_
   exact ⟨.ref e,h.1,h.2.1,.inl ⟨.ty "ValueError",.type "ValueError",true,rfl,rfl,fun _ z=>z,hV,h.2.2⟩⟩
  have s1:PS X (.If (.UnaryOp .Not (.Call (.Name "isinstance" p1) [.Name n p2,.Name "ValueError" p3] [] p4) p5) [.Return (some (.List [] p6)) p7] [] p8) _:=ps_if (pos:=p8) (pt_not (pos:=p5) (pt_val pV)) (pss_one (ps_ret (pos:=p7) (pe_lst (pos:=p6) pa_nil))) pss_nil
  have s2:PS X (.Assign [.Name x q0] (.List es q1) q2) _:=ps_set (pos:=q2) (pos':=q0) nd hN1 hlx (pe_lst (pos:=q1) (pa_ins (e:=e) (oe:=oe) hk hc hN0 hn' on (gl_of gI) hmI he h1)) (sw_val (by rfl)) (.inl (hfn x))
  have s3:PS X (.Assign [.Name x q3] (.BinOp (.Name x q4) .Add (.List fs q5) q6) q7) _:=ps_set (pos:=q7) (pos':=q3) nd hN1 hlx (pe_op (pos:=q6) op_cat (pe_var (pos:=q4) hN1 hvx (okDbg ox).1 (okDbg ox).2) (pe_lst (pos:=q5) (pa_ins (e:=e) (oe:=oe) hk hc hN0 hn' on (gl_of gI) hmI hf h2))) (sw_val (by rfl)) (.inl (hfn x))
  have BB:BlockOk X scope [k]:=blockB_ok (by rw[hX];exact hB)
  have s4:PS X (.Return (some (.ListComp (.Name k r1) [⟨.Name k r2,.Call (.Name "range" r3) [.Constant (.int 8) j r4] [] r5,[.Subscript (.Name x r6) (.Name k r7) r8],0⟩] scope r9)) ra) (tRet (tComp un1 (iRng1 (tCons (tC (.int 8)) tNil)) (tB (tOp (rIxL X.K) (tVar 1) (tVar 2))) (tVar 2))):=by
   refine ps_ret (peL_comp BB hL (tgtL_one BB) (piL_range1 (gl_of gR) hmR (pa_cons pe_int pa_nil)) fun Xc c=>?_)
   have eN:Xc.N=compN [n,x] [k]:=by rw[c.N,hX]
   have k2:Xc.N[2]?=some k:=by rw[eN];exact compN_last [n,x] [k] 0
   have k1:Xc.N[1]?=some x:=by rw[eN];exact hcx
   have vx':Vis Xc.env.scope x:=by rw[c.sc];exact vis_of vx
   have vk':Vis Xc.env.scope k:=by rw[c.sc];exact vis_of vk
   refine ⟨pts_one (pt_val ?_),pe_var k2 vk' (okDbg ok).1 (okDbg ok).2⟩
   have z:=pe_ix (X:=Xc) (pos:=r8) ix_list (pe_var (pos:=r6) k1 vx' (okDbg ox).1 (okDbg ox).2) (pe_var (pos:=r7) k2 vk' (okDbg ok).1 (okDbg ok).2) (fun o i=>rfl)
   rw[c.K] at z
   exact z
  refine ⟨_,pss_cons s1 (pss_cons s2 (pss_cons s3 (pss_one s4))),?_⟩
  subst hσ
  refine ⟨rfl,hH,true,rfl,?_⟩
  show (if (!true)=true then _ else _)
  rw[if_neg (by decide)]
  refine ⟨rfl,hH,show 4<=sizeLine by decide,fun a1 ha1=>?_⟩
  have n1:e ≠ a1:=fun z=>by rw[z,ha1] at hH;cases hH
  have g1:upd H a1 (.lst (((numB c).take 4).map V.bl)) e=some (exO oe):=by rw[upd_ne n1];exact hH
  refine ⟨.ref a1,rfl,rfl,g1,show 4<=sizeLine by decide,fun a2 ha2=>?_⟩
  have n2:a1 ≠ a2:=fun z=>by rw[z,upd_same] at ha2;cases ha2
  have l1:upd (upd H a1 (.lst (((numB c).take 4).map V.bl))) a2 (.lst (((numB c).drop 4).map V.bl)) a1=some (.lst (((numB c).take 4).map V.bl)):=by rw[upd_ne n2];exact upd_same
  refine ⟨a1,a2,_,_,rfl,rfl,l1,upd_same,show 4+4<=sizeLine by decide,fun a3 ha3=>?_⟩
  generalize hH3:upd (upd (upd H a1 (.lst (((numB c).take 4).map V.bl))) a2 (.lst (((numB c).drop 4).map V.bl))) a3 (.lst (((numB c).take 4).map V.bl++((numB c).drop 4).map V.bl))=H3
  have l3:H3 a3=some (.lst ((numB c).map V.bl)):=by
   rw[<- hH3,upd_same,<- List.map_append,List.take_append_drop]
  have k3:∀ a o,H a=some o->H3 a=some o:=fun a o h=>by
   have m1:upd H a1 (.lst (((numB c).take 4).map V.bl)) a=some o:=by rw[upd_ne (fun z=>by rw[z,ha1] at h;cases h)];exact h
   have m2:upd (upd H a1 (.lst (((numB c).take 4).map V.bl))) a2 (.lst (((numB c).drop 4).map V.bl)) a=some o:=by rw[upd_ne (fun z=>by rw[z,ha2] at m1;cases m1)];exact m1
   rw[<- hH3,upd_ne (fun z=>by rw[z,ha3] at m2;cases m2)]
   exact m2
  refine ⟨8,rfl,by decide,by decide,fun D' hD'=>⟨fun i m ys H'=>i<=8/\m=8 - i/\ys=yet c i/\H'=upd H3 D' (.lst ys),⟨8,by lia,by lia,rfl,rfl⟩,fun i m ys H' w=>?_⟩⟩
  obtain ⟨w1,w2,w3,w4⟩:=w
  subst w3 w4
  have nD:a3 ≠ D':=fun z=>by rw[z,hD'] at l3;cases l3
  by_cases hi:i=8
  ·subst hi
   refine .inl ⟨show (8:Int).toNat<=8 by decide,q _ D' (fun a o h=>?_) ?_ ?_⟩
   ·rw[upd_ne (fun z=>by rw[z] at h;rw[k3 _ _ h] at hD';cases hD')]
    exact k3 a o h
   ·cases z:H D' with
    | none=>rfl
    | some o=>rw[k3 _ _ z] at hD';cases hD'
   ·rw[upd_same]
    unfold yet
    rw[if_pos h8]
  ·have hi8:i < 8:=by lia
   refine .inr ⟨hi8,fun v H' hy=>?_⟩
   obtain ⟨rfl,rfl⟩:=hy
   refine ⟨[.int (0+(i:Int))],rfl,.ref a3,rfl,.int (0+(i:Int)),rfl,a3,_,0+(i:Int),_,rfl,rfl,SqL.of (by rw[upd_ne nD];exact l3),at_num hi8,decide (c=i),rfl,?_⟩
   by_cases hc':c=i
   ·rw[decide_eq_true hc']
    dsimp only
    rw[if_pos rfl]
    refine ⟨.int (0+(i:Int)),rfl,upd_same,?_,8 - (i+1),by lia,by lia,rfl,yet_go hc',?_⟩
    ·unfold yet
     rw[if_neg (by lia)]
     decide
    ·rw[yet_go hc']
     funext a
     by_cases z:a=D'
     ·subst z;rw[upd_same,upd_same]
     ·rw[upd_ne z,upd_ne z,upd_ne z]
   ·rw[decide_eq_false hc']
    dsimp only
    rw[if_neg Bool.false_ne_true]
    exact ⟨8 - (i+1),by lia,by lia,rfl,yet_no hc',by rw[yet_no hc']⟩
end
def spN (K:PySem.W.Frag) (mg:Str->Option Value) (cs ds:List Str):Sp:=fun vs H R _=>∃ (e:Addr) (oe:Obj) (A:Addr) (c:Nat),vs=[.ref e]/\H e=some (exO oe)/\oe.cls=.ref A/\ExcK K A/\PySem.W.kitOne K (.ref A) (.type "ValueError")=some true/\c < 8/\NumOk K mg A cs ((numB c).take 4)/\NumOk K mg A ds ((numB c).drop 4) /\
 ∀ H' p,(∀ a o,H a=some o->H' a=some o)->H p=none->H' p=some (.lst [.int c])->R (.ref p) H'
theorem fnKd_sound {P:Program}{w:World}{K:PySem.W.Frag}{mg:Str->Option Value}{base:Heap}{d:Dfn}{f:Addr}{fd:FuncData}{n x k:Str}{cs ds:List Str}(F:Fun K d.nm d.nm d.st f fd) (hd:OkKd d n x k cs ds) (hv:mg "ValueError" = none) (hblt:∀ nm ∈ bltNames,mg nm=none) :
  FnL P w K mg base f fd d.ps (spN K mg cs ds):=by
 obtain ⟨h1,h2,h3,h4⟩:=hd
 have Sc:=scopeB_ok h1
 obtain ⟨oc,od,kV,doc,pm,an,cdv,ct,osl,rfl,lk,hcd⟩:=F.ex
 refine fnL_of lk hcd Sc (fun vs H Q' E h=>?_) fun A outer s H vs Q' E hL h=>?_
 ·obtain ⟨e,oe,A,c,rfl,_⟩:=h
  rw[h2];rfl
 ·obtain ⟨e,oe,A',c,rfl,hH,hcl,a1,a2,a3,a4,a5,hq⟩:=h
  exact kinds_ok (D:={ nx:=fun _ H'=>Q' .non H',rt:=Q' }) hL h3 Sc.nd (fun _=>rfl) a1 a2 hcl (hblt _ (by simp[bltNames])) hv (hblt _ (by simp[bltNames])) a3 a4 a5 h4 (by rw[h3];rfl) hH hq
end Mini
namespace Mini
open PySem PySem.Spec PyProof.Rows L2
noncomputable def isZ (i:Nat):Ex:=.cmp .eq (.bin .sub (.var i) (.lit (.int 0))) (.lit (.int 0))
inductive IsF (C:Ctx) (Q:Xc) (xn:List (Nat × Str)) (sc:Scope) (N:List Str):Sm->List Stmt->Prop
 | ite {c:Ex}{y:Expr}{x msg:Str}{j k:Nat}{np cp p p1 p2:Pos}{rest:List Stmt}(rc:isRng c=false) (ic:isIf c=false) (hc:IsE C sc N c (.e y)) (hx:Q.rs[j]?=some x) (hg:glB sc x=true) (ok:okName x=true) :
   IsF C Q xn sc N (.ite c (.ret (.lit (.int j))) .never) (.If y [.Raise (some (.Call (.Name x np) [.Constant (.str msg) k p1] [] cp)) none p2] [] p::rest)
 | iteF {c:Ex}{y:Expr}{x msg v:Str}{i j k:Nat}{b:Int}{np cp p p1 p2 p3 p4 p5:Pos}{rest:List Stmt}(rc:isRng c=false) (ic:isIf c=false) (hc:IsE C sc N c (.e y)) (hx:Q.rs[j]?=some x) (hg:glB sc x=true) (ok:okName x=true) (hi:N[i]?=some v) (hv:visB sc v=true) (ov:okName v=true)
   (hb:decide (b.natAbs.log2 < 1920)=true) (hz1:decide ((Str.empty++msg).length<=sizeLine)=true) (hz2:decide ((Str.empty++msg++(toString b:Str)).length<=sizeLine)=true) :
   IsF C Q xn sc N (.ite c (.ite (.cmp .eq (.bin .sub (.var i) (.lit (.int b))) (.lit (.int 0))) (.ret (.lit (.int j))) .never) .never) (.If y [.Raise (some (.Call (.Name x np) [.JoinedStr [.Constant (.str msg) k p1,.FormattedValue (.Name v p3) (-1) none p4] p5] [] cp)) none p2] [] p::rest)
 | seqS {a b:Sm}{st st':Stmt}{r:List Stmt}(hn:plainB a=true) (ha:IsS C sc N a (.s st)) (hb:IsF C Q xn sc N b (st'::r)):IsF C Q xn sc N (.seq a b) (st::st'::r)
 | call {k:Nat}{a:Ex}{nm:Str}{y:Expr}{ys:List Expr}{p p' p2:Pos}{rest:List Stmt}(hk:xn.lookup k=some nm) (hg:glB sc nm=true) (ok:okName nm=true) (hs:(y::ys).all notStar=true) (ha:IsE C sc N a (.a (y::ys))) :
   IsF C Q xn sc N (.ret (.call k a)) (.Expr (.Call (.Name nm p) (y::ys) [] p') p2::rest)
 | callR {k:Nat}{a:Ex}{nm:Str}{y:Expr}{ys:List Expr}{p p' p2:Pos}{rest:List Stmt}(hk:xn.lookup k=some nm) (hg:glB sc nm=true) (ok:okName nm=true) (hs:(y::ys).all notStar=true) (ha:IsE C sc N a (.a (y::ys))) :
   IsF C Q xn sc N (.ret (.call k a)) (.Return (some (.Call (.Name nm p) (y::ys) [] p')) p2::rest)
 | iff {c:Ex}{y:Expr}{s1 s2:Sm}{p:Pos}{b rest:List Stmt}(rc:isRng c=false) (ic:isIf c=false) (hc:IsE C sc N c (.e y)) (h1:IsF C Q xn sc N s1 b) (h2:IsF C Q xn sc N s2 rest):IsF C Q xn sc N (.ite c s1 s2) (.If y b [] p::rest)
 | orr {i:Nat}{s1 s2:Sm}{sts:List Stmt}(h1:IsF C Q xn sc N s1 sts) (h2:IsF C Q xn sc N s2 sts):IsF C Q xn sc N (.ite (isZ i) s1 s2) sts
def XFf (P:Program) (w:World) (K:PySem.W.Frag) (mg:Str->Option Value) (base:Heap) (Q:Xc) (xn:List (Nat × Str)) (cl:Nat->List Wd->Me->Rz) (d:Nat):Prop:=∀ (k:Nat) (nm:Str),xn.lookup k=some nm ->
 (∃ f fd ps,mg nm=some (.ref f)/\PySem.W.keepIn K (.ref f)=true/\Binds K fd ps []/\FnOk P w K mg base (CXf P w) d f fd ps (spX K mg Q (cl k))) /\
 ∀ ws m v m',cl k ws m=.ok v m'->∃ (c:Nat) (x:Str),v=.int c/\Q.rs[c]?=some x
section
variable {C : Ctx} {Q : Xc} {xn : List (Nat × Str)} {cl : Nat -> List Wd -> Me -> Rz} {d : Nat} {X : Cx} {G : Addr}
theorem pe_refuse {E:XK}{k:Nat}{a:Ex}{nm:Str}{y:Expr}{ys:List Expr}{p p':Pos}(hC:CtxOk C X cl d) (hp:Passes (CXf X.prog X.w) X E) (hF:XFf X.prog X.w X.K X.mg X.base Q xn cl d) (hk:xn.lookup k=some nm) (hg:glB X.env.scope nm=true) (ok:okName nm=true) (hs:(y::ys).all notStar=true) (ha:IsE C X.env.scope X.N a (.a (y::ys))) :
  PE X (.Call (.Name nm p) (y::ys) [] p') (fun σ H _=>tOfS X.K (exS cl (.ret (.call k a))) { nx:=fun _ _=>False,rt:=RX X.mg Q E } σ H):=by
 obtain ⟨⟨f,fd,ps,h1,h2,h3,h4⟩,_⟩:=hF k nm hk
 have hs':=hs
 rw[List.all_cons,Bool.and_eq_true] at hs'
 intro pins s σ H R I q
 have pa:PA (X.wish X.xe) (y::ys) (tOfA X.K (evE cl a)):=sound ha X hC rfl rfl
 refine wpAny_mono (try_callR (R:=fun _ _=>False) (E:=E) h4 hC.room (gl_of hg) h1 h2 h3 (okDbg ok).1 pa (star_cons hs'.1) (star_any hs'.2) I ?_ fun H1 s1 ev s' J z=>hp pins σ H1 s1 ev s' J z) (fun v s1 z=>?_) fun _ _ z=>z
 ·obtain ⟨as,env,m,S,G',P⟩:=q
  have P0:Post X.K as H (RX X.mg Q E) ((evE cl a env m).bind fun w m1=>cl k (argsOf w) m1):=PostS.bind (r:=(evE cl a env m).bind fun w m1=>cl k (argsOf w) m1) P fun w m1 as1 H1 v T1 S1 R1 P1=>P1 as1 H1 v .refl S1 R1
  exact ⟨as,env,m,S,G',PostA.bind P0 fun w m1 as1 H1 vs T1 S1 R1 P1=>⟨as1,m1,argsOf w,S1,R1,P1⟩⟩
 ·obtain ⟨_,_,_,_,z⟩:=z
  exact z.elim
theorem soundF {E:XK}(hC:CtxOk C X cl d) (hX:StOk X.nox) (hO:XOk X.K X.mg Q G) (hx:∀ x A,X.mg x=some (.ref A)->PySem.W.excIn X.K A vmB "ValueError.__new__" = true->OwnCls x A vmB "ValueError.__new__" X.mg X.base) (hp:Passes (CXf X.prog X.w) X E) (hr:Raises X E)
  (hF:XFf X.prog X.w X.K X.mg X.base Q xn cl d) {s:Sm}{sts:List Stmt}(h:IsF C Q xn X.env.scope X.N s sts):PSs X sts (fun _ σ H=>tOfS X.K (exS cl s) { nx:=fun _ _=>False,rt:=RX X.mg Q E } σ H):=by
 induction h with
 | @ite c y x msg j k np cp p p1 p2 rest rc ic hc hxs hg ok =>
  obtain ⟨A,hm,hA,hz⟩:=hO.x j x hxs
  have pR:=ps_raise (X:=X) (E:=E) (np:=np) (cpos:=cp) (pos:=p2) (hx x A hm hA) F.excBase_ValueError hC.calm (gl_of hg) hr (pa_cons (pe_str (x:=msg) (j:=k) (pos:=p1)) pa_nil) (okDbg ok).1
  have pI:=ps_if (pos:=p) ((sound hc X hC rfl rfl).pt rc ic) (pss_one pR) (pss_never (X:=X) (sts:=[]))
  intro pins s σ H D I q
  refine pss_cons pI (pss_never (X:=X) (sts:=rest)) pins s σ H D I ?_
  obtain ⟨as,env,m,S,G',P⟩:=q
  refine ⟨as,env,m,S,G',PostS.bind P fun w m1 as1 H1 v T1 S1 R1 P1=>?_⟩
  cases w with
  | bl b =>
   obtain rfl:=rep_bl.mp R1
   refine ⟨b,rfl,?_⟩
   cases b with
   | true =>
    refine iteT ⟨show 1<=sizeLine by decide,?_⟩
    obtain ⟨c',x',A',e1,e2,e3,e4⟩:=P1 as1 H1 (.int j) .refl S1 (rep_int.mpr rfl)
    have e5:(j:Int)=c':=by injection e1
    have e6:j=c':=by lia
    subst e6
    rw[hxs] at e2
    cases e2
    rw[hm] at e3
    cases e3
    exact e4
   | false=>exact P1.elim
  | _=>exact P1.elim
 | @iteF c y x msg v i j k b np cp p p1 p2 p3 p4 p5 rest rc ic hc hxs hg ok hi hv ov hb hz1 hz2 =>
  obtain ⟨A,hm,hA,hz⟩:=hO.x j x hxs
  have pR:=ps_raise (X:=X) (E:=E) (np:=np) (cpos:=cp) (pos:=p2) (hx x A hm hA) F.excBase_ValueError hC.calm (gl_of hg) hr (pa_cons (pe_fstr (msg:=msg) (k:=k) (p1:=p1) (p3:=p3) (p4:=p4) (p5:=p5) hi (vis_of hv) (okDbg ov).1 (okDbg ov).2 (of_decide_eq_true hb) (of_decide_eq_true hz1) (of_decide_eq_true hz2)) pa_nil) (okDbg ok).1
  have pI:=ps_if (pos:=p) ((sound hc X hC rfl rfl).pt rc ic) (pss_one pR) (pss_never (X:=X) (sts:=[]))
  intro pins s σ H D I q
  refine pss_cons pI (pss_never (X:=X) (sts:=rest)) pins s σ H D I ?_
  obtain ⟨as,env,m,S,G',P⟩:=q
  refine ⟨as,env,m,S,G',PostS.bind P fun w m1 as1 H1 v' T1 S1 R1 P1=>?_⟩
  cases w with
  | bl bb =>
   obtain rfl:=rep_bl.mp R1
   refine ⟨bb,rfl,?_⟩
   cases bb with
   | false=>exact P1.elim
   | true =>
    have P2:PostS X.K as1 H1 { nx:=fun _ _=>False,rt:=RX X.mg Q E } ((((match env[i]? with | some (some w)=>Rz.ok w m1 | _=>.no).bind fun x m2=>(Rz.ok (.int b) m2).bind fun y m3=>bop .sub x y m3).bind fun x m2=>(Rz.ok (.int 0) m2).bind fun y m3=>cop .eq x y m3).bindS env fun x m2=>match x with
     | .bl true=>exS cl (.ret (.lit (.int j))) env m2
     | .bl false=>exS cl .never env m2
     | _=>.no):=P1
    cases hw:env[i]? with
    | none=>rw[hw] at P2;exact P2.elim
    | some o =>
     cases o with
     | none=>rw[hw] at P2;exact P2.elim
     | some w =>
      rw[hw] at P2
      cases w with
      | int a =>
       have P3:PostS X.K as1 H1 { nx:=fun _ _=>False,rt:=RX X.mg Q E } (match Wd.bl (decide (a - b=0)) with
        | .bl true=>exS cl (.ret (.lit (.int j))) env m1
        | .bl false=>exS cl .never env m1
        | _=>.no):=P2
       obtain ⟨v2,hv2,R2⟩:=(G'.mono S T1).get i _ hw
       obtain rfl:=rep_int.mp R2
       cases z:decide (a - b=0) with
       | false=>rw[z] at P3;exact P3.elim
       | true =>
        rw[z] at P3
        have ab:a=b:=by have:=of_decide_eq_true z;lia
        subst ab
        refine iteT ⟨hv2,fun z'=>⟨show 1<=sizeLine by decide,?_⟩⟩
        have P4:PostS X.K as1 H1 { nx:=fun _ _=>False,rt:=RX X.mg Q E } (.ret (.int j) m1):=P3
        obtain ⟨c',x',A',e1,e2,e3,e4⟩:=P4 as1 H1 (.int j) .refl S1 (rep_int.mpr rfl)
        have e5:(j:Int)=c':=by injection e1
        have e6:j=c':=by lia
        subst e6
        rw[hxs] at e2
        cases e2
        rw[hm] at e3
        cases e3
        exact e4
      | _=>exact P2.elim
  | _=>exact P1.elim
 | @seqS a b st st' r hn ha hb ih =>
  have p1:PS X st (tOfS X.K (exS cl a)):=ps_nox (soundS (hC.wish _) hX ha)
  intro pins s σ H D I q
  refine pss_cons p1 ih pins s σ H D I ?_
  obtain ⟨as,env,m,S,G',P⟩:=q
  refine ⟨as,env,m,S,G',?_⟩
  have P':PostS X.K as H { nx:=fun _ _=>False,rt:=RX X.mg Q E } (match exS cl a env m with
   | .next e1 m1=>exS cl b e1 m1
   | r=>r):=P
  rcases plain_run (cl:=cl) hn env m with ⟨e1,m1,e⟩ | ⟨c,w,e1,m1,e⟩ | e
  ·rw[e] at P' ⊢
   exact fun as' H' σ' T S' G2=>⟨as',e1,m1,S',G2,PostS.step (r:=exS cl b e1 m1) P' T⟩
  ·rw[e] at P';exact P'.elim
  ·rw[e] at P';exact P'.elim
 | @call k a nm y ys p p' p2 rest hk hg ok hs ha =>
  refine PSs.imp (pss_cons (ps_expr (pos:=p2) (pe_refuse (p:=p) (p':=p') hC hp hF hk hg ok hs ha) (sw_val (by rfl))) (pss_never (X:=X) (sts:=rest))) fun D σ H q=>q
 | @callR k a nm y ys p p' p2 rest hk hg ok hs ha =>
  refine PSs.imp (pss_cons (ps_ret (pos:=p2) (pe_refuse (p:=p) (p':=p') hC hp hF hk hg ok hs ha)) (pss_never (X:=X) (sts:=rest))) fun D σ H q=>q
 | @iff c y s1 s2 p b rest rc ic hc h1 h2 ih1 ih2 =>
  have pI:=ps_if (pos:=p) ((sound hc X hC rfl rfl).pt rc ic) ih1 (pss_nil (X:=X))
  refine PSs.imp (pss_cons pI ih2) fun D σ H q=>?_
  obtain ⟨as,env,m,S,G',P⟩:=q
  refine ⟨as,env,m,S,G',PostS.bind P fun w m1 as1 H1 v T1 S1 R1 P1=>?_⟩
  cases w with
  | bl b =>
   obtain rfl:=rep_bl.mp R1
   refine ⟨b,rfl,?_⟩
   cases b with
   | true=>exact iteT ⟨as1,env,m1,S1,G'.mono S T1,P1⟩
   | false =>
    rw[if_neg Bool.false_ne_true]
    exact ⟨as1,env,m1,S1,G'.mono S T1,P1⟩
  | _=>exact P1.elim
 | @orr i s1 s2 sts h1 h2 ih1 ih2 =>
  intro pins s σ H D I q
  obtain ⟨as,env,m,S,G',P⟩:=q
  have P2:PostS X.K as H { nx:=fun _ _=>False,rt:=RX X.mg Q E } ((((match env[i]? with | some (some w)=>Rz.ok w m | _=>.no).bind fun x m2=>(Rz.ok (.int 0) m2).bind fun y m3=>bop .sub x y m3).bind fun x m2=>(Rz.ok (.int 0) m2).bind fun y m3=>cop .eq x y m3).bindS env fun x m2=>match x with
   | .bl true=>exS cl s1 env m2
   | .bl false=>exS cl s2 env m2
   | _=>.no):=P
  cases hw:env[i]? with
  | none=>rw[hw] at P2;exact P2.elim
  | some o =>
   cases o with
   | none=>rw[hw] at P2;exact P2.elim
   | some w =>
    rw[hw] at P2
    cases w with
    | int a =>
     have P3:PostS X.K as H { nx:=fun _ _=>False,rt:=RX X.mg Q E } (match Wd.bl (decide (a - 0=0)) with
      | .bl true=>exS cl s1 env m
      | .bl false=>exS cl s2 env m
      | _=>.no):=P2
     cases z:decide (a - 0=0) with
     | true=>rw[z] at P3;exact ih1 pins s σ H D I ⟨as,env,m,S,G',P3⟩
     | false=>rw[z] at P3;exact ih2 pins s σ H D I ⟨as,env,m,S,G',P3⟩
    | _=>exact P2.elim
end
structure OkF (C:Ctx) (Q:Xc) (xn:List (Nat × Str)) (d:Dfn):Prop where
 sc:scopeB d.N d.ps (defScope d.st)=true
 ar:d.ps.length=d.fn.ar
 sz:d.N.length=d.fn.sz
 body:IsF C Q xn (defScope d.st) d.N d.fn.body (defBody d.st)
section
variable {P : Program} {w : World} {K : PySem.W.Frag} {mg : Str -> Option Value} {base : Heap} {C : Ctx} {cl : Nat -> List Wd -> Me -> Rz} {Q : Xc} {xn : List (Nat × Str)} {G : Addr}
theorem fnF_sound {d:Dfn}{f:Addr}{fd:FuncData}{k:Nat}(F:Fun K d.nm d.nm d.st f fd) (hd:OkF C Q xn d) (kb:K.In base) (hO:XOk K mg Q G) (hF:XFf P w K mg base Q xn cl k)
  (hfn:∀ (i:Nat) (nm:Str),C.fns[i]?=some nm->∃ f fd ps,mg nm=some (.ref f)/\PySem.W.keepIn K (.ref f)=true/\Binds K fd ps []/\FnOk P w K mg base CX0 k f fd ps (spOf K (cl i)))
  (hcon:∀ (nm:Str) (i:Int),C.cons.lookup nm=some i->∃ t,mg nm=some (.int i t)) (hblt:∀ nm ∈ bltNames,mg nm=none) :
  FnOk P w K mg base (CXf P w) (k+1) f fd d.ps (spX K mg Q (runF cl d.fn)):=by
 obtain ⟨h1,h2,h3,h4⟩:=hd
 have Sc:=scopeB_ok h1
 obtain ⟨oc,od,kV,doc,pm,an,cdv,ct,osl,rfl,lk,hcd⟩:=F.ex
 refine fn_of lk hcd Sc (fun vs H Q' E h=>?_) fun A outer s H vs Q' E hr h=>?_
 ·obtain ⟨as,m,ws,S,R,q⟩:=h
  rw[<- R.length,arity q,h2]
 ·obtain ⟨as,m,ws,S,R,q⟩:=h
  have ha:=arity q
  have hC:CtxOk C (cxOf (CXf P w) P w K mg base d.N d.nm (defScope d.st) f cdv A outer s H E) cl k:=⟨hr,rfl,hfn,hcon,hblt⟩
  refine ⟨_,soundF hC ⟨Sc.nd,fun _=>rfl,PassesOwn.never⟩ hO (fun x A z1 z2=>(own_in (v:=.none) kb z2).1 x mg z1) pass_onF raise_onF hF h4,as,begin0 d.fn ws,m,S,begin_rep R ha h3,?_⟩
  unfold runF at q
  rw[if_pos ha] at q
  cases hr:exS cl d.fn.body (begin0 d.fn ws) m with
  | next e m1 =>
   rw[hr] at q
   intro as' H' σ' T S' G'
   obtain ⟨_,_,_,z,_⟩:=q as' H' .non T S' (rep_non.mpr rfl)
   cases z
  | ret w m1=>rw[hr] at q;exact fun as' H' v T S' R'=>q as' H' v T S' R'
  | brk e m1=>rw[hr] at q;exact q.elim
  | cont e m1=>rw[hr] at q;exact q.elim
  | exc c w e m1=>rw[hr] at q;exact q.elim
  | no=>rw[hr] at q;exact q.elim
theorem valF {sc:Scope}{N:List Str}{s:Sm}{sts:List Stmt}(h:IsF C Q xn sc N s sts) (hv:∀ (k:Nat) (nm:Str),xn.lookup k=some nm->∀ ws m v m',cl k ws m=.ok v m'->∃ (c:Nat) (x:Str),v=.int c/\Q.rs[c]?=some x) (env:En) (m:Me) :
  match exS cl s env m with
  | .ret v _=>∃ (c:Nat) (x:Str),v=.int c/\Q.rs[c]?=some x
  | .next _ _=>False
  | _=>True:=by
 induction h generalizing env m with
 | @ite c y x msg j k np cp p p1 p2 rest rc ic hc hxs hg ok =>
  show match (evE cl c env m).bindS env (fun x m1=>match x with
   | .bl true=>exS cl (.ret (.lit (.int j))) env m1
   | .bl false=>exS cl .never env m1
   | _=>.no) with
   | .ret v _=>_
   | .next _ _=>False
   | _=>True
  cases evE cl c env m with
  | ok w m1 =>
   cases w with
   | bl b =>
    cases b with
    | true=>exact ⟨j,x,rfl,hxs⟩
    | false=>trivial
   | _=>trivial
  | exc _ _ _=>trivial
  | no=>trivial
 | @iteF c y x msg v i j k b np cp p p1 p2 p3 p4 p5 rest rc ic hc hxs hg ok hi hv ov hb hz1 hz2 =>
  show match (evE cl c env m).bindS env (fun x m1=>match x with
   | .bl true=>exS cl (.ite (.cmp .eq (.bin .sub (.var i) (.lit (.int b))) (.lit (.int 0))) (.ret (.lit (.int j))) .never) env m1
   | .bl false=>exS cl .never env m1
   | _=>.no) with
   | .ret v _=>_
   | .next _ _=>False
   | _=>True
  cases evE cl c env m with
  | ok w m1 =>
   cases w with
   | bl b' =>
    cases b' with
    | true =>
     show match (evE cl (.cmp .eq (.bin .sub (.var i) (.lit (.int b))) (.lit (.int 0))) env m1).bindS env (fun x m2=>match x with
      | .bl true=>exS cl (.ret (.lit (.int j))) env m2
      | .bl false=>exS cl .never env m2
      | _=>.no) with
      | .ret v _=>_
      | .next _ _=>False
      | _=>True
     cases evE cl (.cmp .eq (.bin .sub (.var i) (.lit (.int b))) (.lit (.int 0))) env m1 with
     | ok w m2 =>
      cases w with
      | bl b'' =>
       cases b'' with
       | true=>exact ⟨j,x,rfl,hxs⟩
       | false=>trivial
      | _=>trivial
     | exc _ _ _=>trivial
     | no=>trivial
    | false=>trivial
   | _=>trivial
  | exc _ _ _=>trivial
  | no=>trivial
 | @seqS a b st st' r hn ha hb ih =>
  show match (match exS cl a env m with
   | .next e1 m1=>exS cl b e1 m1
   | r=>r) with
   | .ret v _=>_
   | .next _ _=>False
   | _=>True
  rcases plain_run (cl:=cl) hn env m with ⟨e1,m1,e⟩ | ⟨c,w,e1,m1,e⟩ | e
  ·rw[e];exact ih e1 m1
  ·rw[e];trivial
  ·rw[e];trivial
 | @call k a nm y ys p p' p2 rest hk hg ok hs ha =>
  show match ((evE cl a env m).bind fun w m1=>cl k (argsOf w) m1).bindS env (fun w m1=>.ret w m1) with
   | .ret v _=>_
   | .next _ _=>False
   | _=>True
  cases evE cl a env m with
  | ok w m1 =>
   show match (cl k (argsOf w) m1).bindS env (fun w m1=>.ret w m1) with
    | .ret v _=>_
    | .next _ _=>False
    | _=>True
   cases e:cl k (argsOf w) m1 with
   | ok v m2=>exact hv k nm hk _ _ _ _ e
   | exc _ _ _=>trivial
   | no=>trivial
  | exc _ _ _=>trivial
  | no=>trivial
 | @callR k a nm y ys p p' p2 rest hk hg ok hs ha =>
  show match ((evE cl a env m).bind fun w m1=>cl k (argsOf w) m1).bindS env (fun w m1=>.ret w m1) with
   | .ret v _=>_
   | .next _ _=>False
   | _=>True
  cases evE cl a env m with
  | ok w m1 =>
   show match (cl k (argsOf w) m1).bindS env (fun w m1=>.ret w m1) with
    | .ret v _=>_
    | .next _ _=>False
    | _=>True
   cases e:cl k (argsOf w) m1 with
   | ok v m2=>exact hv k nm hk _ _ _ _ e
   | exc _ _ _=>trivial
   | no=>trivial
  | exc _ _ _=>trivial
  | no=>trivial
 | @iff c y s1 s2 p b rest rc ic hc h1 h2 ih1 ih2 =>
  show match (evE cl c env m).bindS env (fun x m1=>match x with
   | .bl true=>exS cl s1 env m1
   | .bl false=>exS cl s2 env m1
   | _=>.no) with
   | .ret v _=>_
   | .next _ _=>False
   | _=>True
  cases evE cl c env m with
  | ok w m1 =>
   cases w with
   | bl b =>
    cases b with
    | true=>exact ih1 env m1
    | false=>exact ih2 env m1
   | _=>trivial
  | exc _ _ _=>trivial
  | no=>trivial
 | @orr i s1 s2 sts h1 h2 ih1 ih2 =>
  show match (evE cl (isZ i) env m).bindS env (fun x m1=>match x with
   | .bl true=>exS cl s1 env m1
   | .bl false=>exS cl s2 env m1
   | _=>.no) with
   | .ret v _=>_
   | .next _ _=>False
   | _=>True
  cases evE cl (isZ i) env m with
  | ok w m1 =>
   cases w with
   | bl b =>
    cases b with
    | true=>exact ih1 env m1
    | false=>exact ih2 env m1
   | _=>trivial
  | exc _ _ _=>trivial
  | no=>trivial
theorem runXF {d:Dfn}(hd:OkF C Q xn d) (hv:∀ (k:Nat) (nm:Str),xn.lookup k=some nm->∀ ws m v m',cl k ws m=.ok v m'->∃ (c:Nat) (x:Str),v=.int c/\Q.rs[c]?=some x) (ws:List Wd) (m:Me) (v:Wd) (m':Me) (h:runF cl d.fn ws m=.ok v m') :
  ∃ (c:Nat) (x:Str),v=.int c/\Q.rs[c]?=some x:=by
 have z:=valF hd.body hv (begin0 d.fn ws) m
 unfold runF at h
 split at h
 ·cases e:exS cl d.fn.body (begin0 d.fn ws) m with
  | ret w m1=>rw[e] at h z;cases h;exact z
  | next _ _=>rw[e] at z;exact z.elim
  | brk _ _=>rw[e] at h;cases h
  | cont _ _=>rw[e] at h;cases h
  | exc _ _ _ _=>rw[e] at h;cases h
  | no=>rw[e] at h;cases h
 ·cases h
end
end Mini
namespace Mini
open PySem PySem.Spec PyProof.Rows L2
noncomputable def PostY (K:PySem.W.Frag) (as:List Addr) (H:Hp) (R:VK) (E:VK) (r:Rs):Prop:=match r with
 | .ret (.tup []) m'=>∀ as' H' v,Step as H as' H'->Sim K as' m' H'->R v H'
 | .ret (.tup [w]) m'=>∀ as' H' v,Step as H as' H'->Sim K as' m' H'->Rep K as' H' w v->E v H'
 | _=>False
theorem PostY.step {K:PySem.W.Frag}{as as':List Addr}{H H':Hp}{R E:VK}{r:Rs}(h:PostY K as H R E r) (T:Step as H as' H'):PostY K as' H' R E r:=by
 unfold PostY at h ⊢
 split at h
 ·exact fun as2 H2 v U S=>h as2 H2 v (T.trans U) S
 ·exact fun as2 H2 v U S Rp=>h as2 H2 v (T.trans U) S Rp
 ·exact h.elim
inductive IsY (C:Ctx) (x:Str) (sc:Scope) (N:List Str):Sm->List Stmt->Prop
 | mk {c c2 e1 e2:Ex}{y y2:Expr}{st1 st4:Stmt}{i k1:Nat}{sp:Str}{np cp p p1 p2 np' cp' p' p1' p2':Pos}(rc:isRng c=false) (ic:isIf c=false) (hc:IsE C sc N c (.e y)) (h1:IsS C sc N (.asg i e1) (.s st1)) (rc2:isRng c2=false) (ic2:isIf c2=false) (hc2:IsE C sc N c2 (.e y2))
   (h4:IsS C sc N (.ret e2) (.s st4)) (hi:N[i]?=some sp) (hv:visB sc sp=true) (ov:okName sp=true) (hg:glB sc x=true) (ok:okName x=true) :
   IsY C x sc N (.seq (.ite c (.ret (.tup (.pair (.lit .non) .unit))) .skip) (.seq (.asg i e1) (.seq (.ite c2 (.ret (.tup (.pair (.var i) .unit))) .skip) (.seq (.expr e2) (.ret (.tup .unit))))))
    [.If y [.Raise (some (.Call (.Name x np) [.Constant .none k1 p1] [] cp)) none p2] [] p,st1,.If y2 [.Raise (some (.Call (.Name x np') [.Name sp p1'] [] cp')) none p2'] [] p',st4]
section
variable {C : Ctx} {X : Cx} {cl : Nat -> List Wd -> Me -> Rz} {d : Nat} {x n a0 : Str} {A fI : Addr} {st : Stmt} {E : XK}
end
structure OkY (C:Ctx) (x:Str) (d:Dfn):Prop where
 sc:scopeB d.N d.ps (defScope d.st)=true
 ar:d.ps.length=d.fn.ar
 sz:d.N.length=d.fn.sz
 body:IsY C x (defScope d.st) d.N d.fn.body (defBody d.st)
section
variable {P : Program} {w : World} {K : PySem.W.Frag} {mg : Str -> Option Value} {base : Heap} {C : Ctx} {cl : Nat -> List Wd -> Me -> Rz} {x n a0 : Str} {A fI : Addr} {st : Stmt}
end
end Mini
namespace Mini
open PySem PySem.Spec PyProof.Rows L2
structure SOk (K:PySem.W.Frag) (mg:Str->Option Value) (Q:Xc) (G A:Addr):Prop where
 g:mg Q.g=some (.ref G)
 ge:excInI K G=true
 gb:PySem.W.mroIn K G (.type "BaseException")=some true
 x:∃ nx,Q.rs=[nx]/\mg nx=some (.ref A)
 xe:ExcK K A
 xm:PySem.W.mroIn K A (.ref G)=some true
 xk:PySem.W.kitOne K (.ref A) (.ref A)=some true
 o:∀ (c:Nat) (x:Str),Q.os[c]?=some x->∃ B,mg x=some (.ref B)/\PySem.W.kitOne K (.ref A) (.ref B)=some false
noncomputable def nsO (sc:Scope) (os:List Str):List Expr->Bool
 | []=>true
 | .Name x _::es=>glB sc x && (okName x && (os.contains x && nsO sc os es))
 | _=>false
inductive IsR (C:Ctx) (Q:Xc) (kx:Nat) (nm f:Str) (sc:Scope) (N:List Str):Sm->List Stmt->Prop
 | mk {i j:Nat}{a e0:Ex}{x n ny ta tb:Str}{lb:List Nat}{a0:Expr}{es ns:List Expr}{st:Stmt}{p q p' np hp pos r1 r2 p1 p2 p3 p4 p5 p6 p7 p8 p9 pa pb pc pd pe pf pg ph pi pj pk pl pm:Pos}{k1 k2 k3 k4 k5 k6:Nat}
   (h0:IsS C sc N (.asg j e0) (.s st)) (hg:glB sc nm=true) (ok:okName nm=true) (hs:(a0::es).all notStar=true) (ha:IsE C sc N a (.a (a0::es))) (gg:glB sc Q.g=true) (og:okName Q.g=true) (hi:N[i]?=some n) (hn:decide (sc.names.lookup n=some .local)=true) (on:okName n=true)
   (hj:N[j]?=some x) (hx:decide (sc.names.lookup x=some .local)=true) (ox:okName x=true) (hij:decide (i=j)=false) (hns:nsO sc Q.os ns=true) (hz:ns.length<=1000) (hy:Q.rs=[ny]) (gy:glB sc ny=true) (oy:okName ny=true) (gI:glB sc "isinstance" = true) (e2:tb.cps.toList=lb) :
   IsR C Q kx nm f sc N (.seq (.asg j e0) (.seq (.asg i (.call kx a)) (.ite (.cmp .eq (.blt .len (.pair (.var i) .unit)) (.lit (.int 0))) (.ret (.var j)) (.ret (.tup (.pair (.lit (.str lb)) (.pair (.idx (.var i) (.lit (.int 0))) .unit)))))))
    (st::[.Try [.Expr (.Call (.Name nm p) (a0::es) [] q) p'] [.ExceptHandler (some (.Name Q.g np)) (some n) (suiteR x n ny f ns ta tb p1 p2 p3 p4 p5 p6 p7 p8 p9 pa pb pc pd pe pf pg ph pi pj pk pl pm k1 k2 k3 k4 k5 k6) hp] [] [] pos,.Return (some (.Name x r1)) r2])
section
variable {C : Ctx} {Q : Xc} {X : Cx} {cl : Nat -> List Wd -> Me -> Rz} {d kx : Nat} {G A fI : Addr} {nm f : Str}
end
structure OkR (C:Ctx) (Q:Xc) (kx:Nat) (nm f:Str) (d:Dfn):Prop where
 sc:scopeB d.N d.ps (defScope d.st)=true
 ar:d.ps.length=d.fn.ar
 sz:d.N.length=d.fn.sz
 body:IsR C Q kx nm f (defScope d.st) d.N d.fn.body (defBody d.st)
section
variable {P : Program} {w : World} {K : PySem.W.Frag} {mg : Str -> Option Value} {base : Heap} {C : Ctx} {Q : Xc} {cl : Nat -> List Wd -> Me -> Rz} {kx : Nat} {nm f : Str} {G A fI : Addr}
end
end Mini
namespace Mini
open PySem PySem.Spec PyProof.Rows L2
theorem sim_more {K:PySem.W.Frag}{as:List Addr}{m:Me}{H H':Hp}{p:Addr}{vs:List V}{ws:List Wd}(S:Sim K as m H) (k1:∀ a o,H a=some o->H' a=some o) (k2:H p=none) (k3:H' p=some (.lst vs)) (R:RepL K as H' ws vs) :
  Step as H (as++[p]) H'/\Sim K (as++[p]) (m++[.lst ws]) H'/\Rep K (as++[p]) H' (.ref m.length) (.ref p):=by
 have T:Step as H as H':=⟨⟨[],by simp⟩,fun b o h _=>k1 b o h,fun b hb=>.inl hb⟩
 have S':=S.keep T fun a _ o h=>k1 a o h
 refine ⟨⟨⟨[p],rfl⟩,fun b o h _=>k1 b o h,fun b hb=>?_⟩,S'.join k3 (S.new k2) R,rep_ref.mpr ⟨p,?_,rfl⟩⟩
 ·rcases List.mem_append.mp hb with z | z
  ·exact .inl z
  ·rw[List.mem_singleton.mp z];exact .inr k2
 ·rw[<- S.len,List.getElem?_append_right (Nat.le_refl _)]
  simp
inductive IsRf (C:Ctx) (Q:Xc) (xn:List (Nat × Str)) (kn:Str) (sc:Scope) (N:List Str):Sm->List Stmt->Prop
 | mk {k i j:Nat}{a:Ex}{nm x n:Str}{e0:Expr}{es:List Expr}{st:Stmt}{p q p' np hp pos r1 r2 q1 q2 q3 q4 q5:Pos}
   (h0:IsS C sc N (.asg j (.lst .unit)) (.s st)) (hk:xn.lookup k=some nm) (hg:glB sc nm=true) (ok:okName nm=true) (hs:(e0::es).all notStar=true) (ha:IsE C sc N a (.a (e0::es))) (gg:glB sc Q.g=true) (og:okName Q.g=true) (hi:N[i]?=some n) (hn:decide (sc.names.lookup n=some .local)=true) (on:okName n=true)
   (hj:N[j]?=some x) (hx:decide (sc.names.lookup x=some .local)=true) (ox:okName x=true) (hij:decide (i=j)=false) (gk:glB sc kn=true) (okn:okName kn=true) :
   IsRf C Q xn kn sc N (.seq (.asg j (.lst .unit)) (.ret (.lst (.pair (.call k a) .unit))))
    (st::[.Try [.Expr (.Call (.Name nm p) (e0::es) [] q) p'] [.ExceptHandler (some (.Name Q.g np)) (some n) [.Assign [.Name x q1] (.Call (.Name kn q2) [.Name n q3] [] q4) q5] hp] [] [] pos,.Return (some (.Name x r1)) r2])
noncomputable def four (u:Nat):Ex:=.lst (.pair (.lst (.pair (.lit (.int 4)) .unit)) (.pair (.var u) .unit))
inductive IsSk (C:Ctx) (Q:Xc) (kn sn f:Str) (sc:Scope) (N:List Str):Sm->List Stmt->Prop
 | mk {i j u:Nat}{x n:Str}{e0 ce:Expr}{st:Stmt}{p q p' np hp pos r2 q1 q2 q3 q4 q5 q6 q7 q8:Pos}
   (h0:IsS C sc N (.asg j (.lst .unit)) (.s st)) (hg:glB sc sn=true) (ok:okName sn=true) (hs:notStar e0=true) (ha:IsE C sc N (.pair (.var u) .unit) (.a [e0])) (gg:glB sc Q.g=true) (og:okName Q.g=true) (hi:N[i]?=some n) (hn:decide (sc.names.lookup n=some .local)=true) (on:okName n=true)
   (hj:N[j]?=some x) (hx:decide (sc.names.lookup x=some .local)=true) (ox:okName x=true) (hij:decide (i=j)=false) (hui:decide (u=i)=false) (huj:decide (u=j)=false) (gk:glB sc kn=true) (okn:okName kn=true) (hR:IsE C sc N (.cmp .eq (.var j) (four u)) (.e ce)) :
   IsSk C Q kn sn f sc N (.seq (.asg j (.lst .unit)) (.seq (.asg j (four u)) (.ret (.cmp .eq (.var j) (four u)))))
    (st::[.Try [.Raise (some (.Call (.Name sn p) [e0] [] q)) none p'] [.ExceptHandler (some (.Name Q.g np)) (some n) [.Assign [.Name x q1] (.List [.Call (.Name kn q2) [.Name n q3] [] q4,.Attribute (.Name n q5) f q6] q7) q8] hp] [] [] pos,.Return (some ce) r2])
section
variable {C : Ctx} {Q : Xc} {xn : List (Nat × Str)} {X : Cx} {cl : Nat -> List Wd -> Me -> Rz} {d : Nat} {G : Addr} {kd : Dfn} {cs ds : List Str}
theorem num_of {K:PySem.W.Frag}{mg:Str->Option Value}{A:Addr}{c:Nat}{xs:List Str}(hy:∀ (c:Nat) (x:Str),xs[c]?=some x->∃ A,mg x=some (.ref A)) (hA:∀ (c':Nat) (x':Str) (A':Addr),xs[c']?=some x'->mg x'=some (.ref A')->PySem.W.kitOne K (.ref A) (.ref A')=some (decide (c=c'))) (h8:xs.length=8) :
  NumOk K mg A (xs.take 4) ((numB c).take 4)/\NumOk K mg A (xs.drop 4) ((numB c).drop 4):=by
 match xs,h8 with
 | [x0,x1,x2,x3,x4,x5,x6,x7],_ =>
  have g:∀ (i:Nat) (x:Str),[x0,x1,x2,x3,x4,x5,x6,x7][i]?=some x->∃ B,mg x=some (.ref B)/\PySem.W.kitOne K (.ref A) (.ref B)=some (decide (c=i)):=fun i x h=>by
   obtain ⟨B,hB⟩:=hy i x h
   exact ⟨B,hB,hA i x B h hB⟩
  exact ⟨⟨g 0 _ rfl,g 1 _ rfl,g 2 _ rfl,g 3 _ rfl,trivial⟩,g 4 _ rfl,g 5 _ rfl,g 6 _ rfl,g 7 _ rfl,trivial⟩
theorem soundRf (hC:CtxOk C X cl d) (hX:StOk X) (hst:X.stack=X.env::X.outer) (hfr:X.env.frame=some X.env.locals) (hex:X.ex=[]) (hO:XOk X.K X.mg Q G) (h8:Q.xs.length=8) (hcs:cs=Q.xs.take 4) (hds:ds=Q.xs.drop 4) (hb:∀ A v,PySem.W.excIn X.K A vmB "ValueError.__new__" = true->PySem.W.mroIn X.K A v=some true->IsExc X.base A v)
  (hF:XFf X.prog X.w X.K X.mg X.base Q xn cl d) (hN:X.N.Nodup) (hU:∃ f fd,X.mg kd.nm=some (.ref f)/\PySem.W.keepIn X.K (.ref f)=true/\Binds X.K fd kd.ps []/\FnL X.prog X.w X.K X.mg X.base f fd kd.ps (spN X.K X.mg cs ds))
  {s:Sm}{sts:List Stmt}(h:IsRf C Q xn kd.nm X.env.scope X.N s sts):PSs X sts (tOfS X.K (exS cl s)):=by
 cases h with
 | @mk k i j a nm x n e0 es st p q p' np hp pos r1 r2 q1 q2 q3 q4 q5 h0 hk hg ok hs ha gg og hi hn on hj hx ox hij gk okn =>
  have hij':i ≠ j:=of_decide_eq_false hij
  refine ss_seq (soundS hC hX h0) (show PSs X _ (tOfS X.K (exS cl (.ret (.lst (.pair (.call k a) .unit))))) from ?_)
  obtain ⟨⟨f,fd,ps,f1,f2,f3,f4⟩,val⟩:=hF k nm hk
  obtain ⟨fk,fdk,mk,kk,bk,Fk⟩:=hU
  have hs':=hs
  rw[List.all_cons,Bool.and_eq_true] at hs'
  have hn':=of_decide_eq_true hn
  have hx':=of_decide_eq_true hx
  have pT:PS X (.Try [.Expr (.Call (.Name nm p) (e0::es) [] q) p'] [.ExceptHandler (some (.Name Q.g np)) (some n) [.Assign [.Name x q1] (.Call (.Name kd.nm q2) [.Name n q3] [] q4) q5] hp] [] [] pos) _:=ps_tryF (X:=X) (G:=G) (p:=p) (q:=q) (p':=p') (np:=np) (hp:=hp) (pos:=pos)
   hst hfr hex f4 hC.room (gl_of hg) f1 f2 f3 (okDbg ok).1 (t:=tOfA X.K (evE cl a)) (fun E=>sound ha (X.wish E) (hC.wish E) rfl rfl) (hb G _ hO.ge hO.gb) (gl_of gg) hO.g (okDbg og).1 hN hi hn' (star_cons hs'.1) (star_any hs'.2) (sw_val (by rfl))
  have pR:PS X (.Return (some (.Name x r1)) r2) (tRet (tVar j)):=ps_ret (pe_var hj (.inl hx') (okDbg ox).1 (okDbg ox).2)
  intro pins s σ H D I qq
  refine pss_cons pT (pss_one pR) pins s σ H D I ?_
  have hiσ:i < σ.length:=by rw[I.len];exact (List.getElem?_eq_some_iff.mp hi).1
  have hjσ:j < σ.length:=by rw[I.len];exact (List.getElem?_eq_some_iff.mp hj).1
  obtain ⟨as,env,m,S,G',P⟩:=qq
  have ex1:exS cl (.ret (.lst (.pair (.call k a) .unit))) env m=((evE cl a env m).bind fun w m1=>(cl k (argsOf w) m1).bind fun u m2=>alloc m2 [u]).bindS env fun w m1=>.ret w m1:=by
   show ((((((evE cl a env m).bind fun x m1=>cl k (argsOf x) m1).bind fun x m1=>(Rz.ok (.tup []) m1).bind fun y m2=>.ok (.tup (x::argsOf y)) m2)).bind fun x m1=>alloc m1 (argsOf x)).bindS env fun w m1=>.ret w m1)=_
   cases evE cl a env m with
   | ok w m1 =>
    show (((((cl k (argsOf w) m1).bind fun x m1=>(Rz.ok (.tup []) m1).bind fun y m2=>.ok (.tup (x::argsOf y)) m2)).bind fun x m1=>alloc m1 (argsOf x)).bindS env fun w m1=>.ret w m1)=((cl k (argsOf w) m1).bind fun u m2=>alloc m2 [u]).bindS env _
    cases cl k (argsOf w) m1 <;> rfl
   | exc c w m1=>rfl
   | no=>rfl
  rw[ex1] at P
  refine ⟨as,env,m,S,G',PostAS.bind P fun w m1 as1 H1 vs T1 S1 R1 P1=>⟨as1,m1,argsOf w,S1,R1,?_⟩⟩
  cases hcl:cl k (argsOf w) m1 with
  | exc c w' m2=>rw[hcl] at P1;exact P1.elim
  | no=>rw[hcl] at P1;exact P1.elim
  | ok u m2 =>
   rw[hcl] at P1
   obtain ⟨c,x',rfl,hxs⟩:=val _ _ _ _ hcl
   intro as2 H2 v T2 S2 R2
   obtain rfl:=rep_int.mp R2
   obtain ⟨A,hmA,hAe,hAk,hAm,hAv,hAo⟩:=hO.x c x' hxs
   have P2:PostS X.K as1 H1 D (.ret (.ref m2.length) (m2++[.lst [.int c]])):=P1
   have hc8:c < 8:=by
    rw[<- h8]
    exact (List.getElem?_eq_some_iff.mp (Xc.at hxs)).1
   obtain ⟨n1,n2⟩:=num_of hO.y hAo h8
   rw[<- hcs] at n1
   rw[<- hds] at n2
   refine ⟨c,x',A,rfl,hxs,hmA,A,rfl,hb A _ hAe hAm,fun e o ws E' hoe hw2 hHe=>?_⟩
   have pK:PE (X.heldT e E') (.Call (.Name kd.nm q2) [.Name n q3] [] q4) _:=pe_callL (X:=X.heldT e E') (E:=E0) Fk hC.room.depth (gl_of gk) mk kk bk (pa_cons (pe_var hi (.inl hn') (okDbg on).1 (okDbg on).2) pa_nil) (okDbg okn).1
   refine ⟨_,pss_one (ps_set (X:=X.heldT e E') (pos':=q1) (pos:=q5) hN hj (.inl hx') pK (hf:=.inr hx')),?_⟩
   have hv:(σ.set i (some (V.ref e)))[i]?=some (some (V.ref e)):=List.getElem?_set_self hiσ
   refine ⟨.ref e,hv,⟨e,_,ws,rfl,upd_same,rfl,hw2⟩,e,_,A,c,rfl,upd_same,hoe,hAk,hAv,hc8,n1,n2,fun H' pp k1 k2 k3=>?_⟩
   obtain ⟨T3,S3⟩:=sim_any S2 hHe (exO { o with data:=.fields ws })
   obtain ⟨T4,S4,R4⟩:=sim_more (ws:=[.int c]) S3 k1 k2 k3 (repL_cons.mpr ⟨_,_,rfl,rep_int.mpr rfl,repL_nil.mpr rfl⟩)
   refine ⟨.ref pp,?_,P2 _ _ _ ((T2.trans T3).trans T4) S4 R4⟩
   rw[List.getElem?_set_ne hij',List.getElem?_set_self (by rw[List.length_set];exact hjσ)]
theorem four_run {u:Nat}{w:Wd}{env:En}{m:Me}(h:env[u]?=some (some w)):evE cl (four u) env m=.ok (.ref (m.length+1)) ((m++[.lst [.int 4]])++[.lst [.ref m.length,w]]):=by
 show ((((Rz.ok (.ref m.length) (m++[.lst [.int 4]])).bind fun x m1=>((match env[u]? with | some (some w)=>Rz.ok w m1 | _=>.no).bind fun x m1=>(Rz.ok (.tup []) m1).bind fun y m2=>.ok (.tup (x::argsOf y)) m2).bind fun y m2=>.ok (.tup (x::argsOf y)) m2)).bind fun x m1=>alloc m1 (argsOf x))=_
 rw[h]
 show alloc (m++[.lst [.int 4]]) [.ref m.length,w]=_
 unfold alloc
 rw[if_pos (show [Wd.ref m.length,w].length<=lim from (show 2<=lim by decide))]
 simp
theorem soundSk {fI:Addr}{sn f a0:Str}{A:Addr}{st:Stmt}(hC:CtxOk C X cl d) (hX:StOk X) (hst:X.stack=X.env::X.outer) (hfr:X.env.frame=some X.env.locals) (hex:X.ex=[]) (hg:X.mg Q.g=some (.ref G)) (hG:IsExc X.base G (.type "BaseException")) (hA:IsExc X.base A (.ref G)) (hm:X.mg sn=some (.ref A)) (O:InitOk X.K A fI f a0 st) (hAk:ExcK X.K A) (hAv:PySem.W.kitOne X.K (.ref A) (.type "ValueError")=some true)
  (n1:NumOk X.K X.mg A cs ((numB 4).take 4)) (n2:NumOk X.K X.mg A ds ((numB 4).drop 4)) (hN:X.N.Nodup) (hU:∃ f fd,X.mg kd.nm=some (.ref f)/\PySem.W.keepIn X.K (.ref f)=true/\Binds X.K fd kd.ps []/\FnL X.prog X.w X.K X.mg X.base f fd kd.ps (spN X.K X.mg cs ds))
  {s:Sm}{sts:List Stmt}(h:IsSk C Q kd.nm sn f X.env.scope X.N s sts):PSs X sts (tOfS X.K (exS cl s)):=by
 cases h with
 | @mk i j u x n e0 ce st' p q p' np hp pos r2 q1 q2 q3 q4 q5 q6 q7 q8 h0 gs ok hs ha gg og hi hn on hj hx ox hij hui huj gk okn hR =>
  have hij':i ≠ j:=of_decide_eq_false hij
  have hui':u ≠ i:=of_decide_eq_false hui
  have huj':u ≠ j:=of_decide_eq_false huj
  refine ss_seq (soundS hC hX h0) (show PSs X _ (tOfS X.K (exS cl (.seq (.asg j (four u)) (.ret (.cmp .eq (.var j) (four u)))))) from ?_)
  obtain ⟨fk,fdk,mk,kk,bk,Fk⟩:=hU
  have hn':=of_decide_eq_true hn
  have hx':=of_decide_eq_true hx
  have pT:PS X (.Try [.Raise (some (.Call (.Name sn p) [e0] [] q)) none p'] [.ExceptHandler (some (.Name Q.g np)) (some n) [.Assign [.Name x q1] (.List [.Call (.Name kd.nm q2) [.Name n q3] [] q4,.Attribute (.Name n q5) f q6] q7) q8] hp] [] [] pos) _:=ps_tryO (X:=X) (G:=G) (np:=p) (cpos:=q) (rp:=p') (np':=np) (hp:=hp) (pos:=pos)
   hst hfr hex hm O hC.room hC.calm (gl_of gs) (okDbg ok).1 (t:=tOfA X.K (evE cl (.pair (.var u) .unit))) (fun E=>sound ha (X.wish E) (hC.wish E) rfl rfl) hA hG (gl_of gg) hg (okDbg og).1 hN hi hn' (star_cons hs)
  have pR:PS X (.Return (some ce) r2) (tRet (tOf X.K (evE cl (.cmp .eq (.var j) (four u))))):=ps_ret ((sound hR X hC rfl rfl).pe rfl)
  intro pins s σ H D I qq
  refine pss_cons pT (pss_one pR) pins s σ H D I ?_
  have hiσ:i < σ.length:=by rw[I.len];exact (List.getElem?_eq_some_iff.mp hi).1
  have hjσ:j < σ.length:=by rw[I.len];exact (List.getElem?_eq_some_iff.mp hj).1
  obtain ⟨as,env,m,S,G',P⟩:=qq
  have P0:PostS X.K as H D (match (evE cl (four u) env m).bindS env (fun w m1=>.next (env.set j (some w)) m1) with
   | .next e1 m1=>exS cl (.ret (.cmp .eq (.var j) (four u))) e1 m1
   | r=>r):=P
  refine ⟨as,env,m,S,G',?_⟩
  show PostA X.K as H _ ((match env[u]? with | some (some w)=>Rz.ok w m | _=>.no).bind fun x m1=>(Rz.ok (.tup []) m1).bind fun y m2=>.ok (.tup (x::argsOf y)) m2)
  cases hu:env[u]? with
  | none =>
   have z:evE cl (four u) env m=.no:=by
    show ((((Rz.ok (.ref m.length) (m++[.lst [.int 4]])).bind fun x m1=>((match env[u]? with | some (some w)=>Rz.ok w m1 | _=>.no).bind fun x m1=>(Rz.ok (.tup []) m1).bind fun y m2=>.ok (.tup (x::argsOf y)) m2).bind fun y m2=>.ok (.tup (x::argsOf y)) m2)).bind fun x m1=>alloc m1 (argsOf x))=_
    rw[hu]
    rfl
   rw[z] at P0
   exact P0.elim
  | some o =>
   cases o with
   | none =>
    have z:evE cl (four u) env m=.no:=by
     show ((((Rz.ok (.ref m.length) (m++[.lst [.int 4]])).bind fun x m1=>((match env[u]? with | some (some w)=>Rz.ok w m1 | _=>.no).bind fun x m1=>(Rz.ok (.tup []) m1).bind fun y m2=>.ok (.tup (x::argsOf y)) m2).bind fun y m2=>.ok (.tup (x::argsOf y)) m2)).bind fun x m1=>alloc m1 (argsOf x))=_
     rw[hu]
     rfl
    rw[z] at P0
    exact P0.elim
   | some w =>
    rw[four_run hu] at P0
    have P1:PostS X.K as H D (exS cl (.ret (.cmp .eq (.var j) (four u))) (env.set j (some (.ref (m.length+1)))) ((m++[.lst [.int 4]])++[.lst [.ref m.length,w]])):=P0
    intro as1 H1 vs T1 S1 R1
    obtain ⟨v,r,rfl,Rv,Rn⟩:=repL_cons.mp (show RepL X.K as1 H1 [w] vs from R1)
    obtain rfl:=repL_nil.mp Rn
    refine ⟨v,rfl,fun D' hD' e o ws E' hoe hdi hw2 hHe=>?_⟩
    have pK:PE (X.heldT e E') (.Call (.Name kd.nm q2) [.Name n q3] [] q4) _:=pe_callL (X:=X.heldT e E') (E:=E0) Fk hC.room.depth (gl_of gk) mk kk bk (pa_cons (pe_var hi (.inl hn') (okDbg on).1 (okDbg on).2) pa_nil) (okDbg okn).1
    have pS:PE (X.heldT e E') (.Attribute (.Name n q5) f q6) _:=pe_spot (X:=X.heldT e E') (e:=e) (oe:={ o with data:=.fields ws }) hi hn' (okDbg on).1 (okDbg on).2 hAk O.own hoe rfl hdi
    refine ⟨_,pss_one (ps_set (X:=X.heldT e E') (pos':=q1) (pos:=q8) hN hj (.inl hx') (pe_lst (pos:=q7) (pa_cons pK (pa_cons pS pa_nil))) (sw_val (by rfl)) (hf:=.inr hx')),?_⟩
    have hv:(σ.set i (some (V.ref e)))[i]?=some (some (V.ref e)):=List.getElem?_set_self hiσ
    have hDe:D' ≠ e:=fun z=>by rw[z,upd_same] at hHe;cases hHe
    have hxd:upd (upd H1 D' (.xd [(f,v)])) e (exO { o with data:=.fields ws }) D'=some (.xd [(f,v)]):=by rw[upd_ne hDe];exact upd_same
    refine ⟨.ref e,hv,⟨e,_,ws,rfl,upd_same,rfl,hw2⟩,e,_,A,4,rfl,upd_same,hoe,hAk,hAv,by decide,n1,n2,fun H' pp k1 k2 k3=>⟨hv,k1 _ _ upd_same,[(f,v)],v,k1 _ _ hxd,by simp,?_⟩⟩
    refine ⟨show 2<=sizeLine by decide,fun a5 ha5=>?_⟩
    obtain ⟨Ta,Sa⟩:=sim_any S1 hD' (.xd [(f,v)])
    obtain ⟨Tb,Sb⟩:=sim_any Sa hHe (exO { o with data:=.fields ws })
    obtain ⟨Tc,Sc,Rc⟩:=sim_more (ws:=[.int 4]) Sb k1 k2 k3 (repL_cons.mpr ⟨_,_,rfl,rep_int.mpr rfl,repL_nil.mpr rfl⟩)
    have TT:=(Ta.trans Tb).trans Tc
    have Rw:Rep X.K (as1++[pp]) H' w v:=Rv.mono S1 TT
    obtain ⟨Td,Sd⟩:=Sc.alloc (ws:=[.ref m.length,w]) (vs:=[.ref pp,v]) ha5 (repL_cons.mpr ⟨_,_,rfl,Rc,repL_cons.mpr ⟨_,_,rfl,Rw,repL_nil.mpr rfl⟩⟩)
    have T9:=(T1.trans TT).trans Td
    have hlen:as1.length=m.length:=S1.len
    have Rr:Rep X.K (as1++[pp]++[a5]) (upd H' a5 (.lst [.ref pp,v])) (.ref (m.length+1)) (.ref a5):=by
     refine rep_ref.mpr ⟨a5,?_,rfl⟩
     rw[List.getElem?_append_right (by simp[hlen])]
     simp[hlen]
    have eσ:(((σ.set i (some (V.ref e))).set j (some (.ref a5))).set i none:St)=(σ.set j (some (.ref a5))).set i none:=by
     apply List.ext_getElem?
     intro a
     simp only[List.getElem?_set,List.length_set]
     by_cases q1:i=a
     ·simp[q1]
     ·simp[q1]
    have G3:EnvRep X.K (as1++[pp]++[a5]) (upd H' a5 (.lst [.ref pp,v])) ((env.set j (some (.ref (m.length+1)))).set i none) ((σ.set j (some (.ref a5))).set i none):=(((G'.mono S T1).mono S1 (TT.trans Td)).set Rr j).hole i
    have hu1:(env.set j (some (Wd.ref (m.length+1))))[u]?=some (some w):=by rw[List.getElem?_set_ne (Ne.symm huj')];exact hu
    have hu2:((env.set j (some (Wd.ref (m.length+1)))).set i none)[u]?=some (some w):=by rw[List.getElem?_set_ne (Ne.symm hui')];exact hu1
    have P2:=PostS.step (r:=exS cl (.ret (.cmp .eq (.var j) (four u))) (env.set j (some (.ref (m.length+1)))) ((m++[.lst [.int 4]])++[.lst [.ref m.length,w]])) P1 T9
    have P3:Post X.K (as1++[pp]++[a5]) (upd H' a5 (.lst [.ref pp,v])) D.rt (evE cl (.cmp .eq (.var j) (four u)) (env.set j (some (.ref (m.length+1)))) ((m++[.lst [.int 4]])++[.lst [.ref m.length,w]])):=PostS.bind P2 fun w m1 as1 H1 v T1 S1 R1 P1=>P1 as1 H1 v .refl S1 R1
    have eR:∀ M,evE cl (.cmp .eq (.var j) (four u)) ((env.set j (some (.ref (m.length+1)))).set i none) M=evE cl (.cmp .eq (.var j) (four u)) (env.set j (some (.ref (m.length+1)))) M:=fun M=>by
     have e4:∀ m1,evE cl (four u) ((env.set j (some (.ref (m.length+1)))).set i none) m1=evE cl (four u) (env.set j (some (.ref (m.length+1)))) m1:=fun m1=>by rw[four_run hu1,four_run hu2]
     show ((match ((env.set j (some (Wd.ref (m.length+1)))).set i none)[j]? with | some (some w)=>Rz.ok w M | _=>.no).bind fun x m1=>(evE cl (four u) ((env.set j (some (.ref (m.length+1)))).set i none) m1).bind fun y m2=>cop .eq x y m2)=((match (env.set j (some (Wd.ref (m.length+1))))[j]? with | some (some w)=>Rz.ok w M | _=>.no).bind fun x m1=>(evE cl (four u) (env.set j (some (.ref (m.length+1)))) m1).bind fun y m2=>cop .eq x y m2)
     rw[List.getElem?_set_ne hij']
     simp only[e4]
    show tOf X.K (evE cl (.cmp .eq (.var j) (four u))) ((((σ.set i (some (V.ref e))).set j (some (.ref a5))).set i none:St)) _ _
    rw[eσ]
    refine ⟨_,_,_,Sd,G3,?_⟩
    rw[eR]
    exact P3
end
end Mini
namespace Mini
open PySem PySem.Spec PyProof.Rows L2
structure OkRf (C:Ctx) (Q:Xc) (xn:List (Nat × Str)) (kn:Str) (d:Dfn):Prop where
 sc:scopeB d.N d.ps (defScope d.st)=true
 ar:d.ps.length=d.fn.ar
 sz:d.N.length=d.fn.sz
 body:IsRf C Q xn kn (defScope d.st) d.N d.fn.body (defBody d.st)
structure OkSk (C:Ctx) (Q:Xc) (kn sn f:Str) (d:Dfn):Prop where
 sc:scopeB d.N d.ps (defScope d.st)=true
 ar:d.ps.length=d.fn.ar
 sz:d.N.length=d.fn.sz
 body:IsSk C Q kn sn f (defScope d.st) d.N d.fn.body (defBody d.st)
section
variable {P : Program} {w : World} {K : PySem.W.Frag} {mg : Str -> Option Value} {base : Heap} {C : Ctx} {cl : Nat -> List Wd -> Me -> Rz} {Q : Xc} {xn : List (Nat × Str)} {G : Addr} {kd : Dfn} {n x k' : Str} {cs ds : List Str}
theorem run_ends {fn:Fn}{ws:List Wd}{m:Me}{as:List Addr}{H:Hp}{R:VK}(q:Post K as H R (runF cl fn ws m)) (ha:ws.length=fn.ar):PostS K as H { nx:=fun _ H'=>R .non H',rt:=R } (exS cl fn.body (begin0 fn ws) m):=by
 unfold runF at q
 rw[if_pos ha] at q
 cases hr:exS cl fn.body (begin0 fn ws) m with
 | next e m1=>rw[hr] at q;exact fun as' H' σ' T S' G'=>q as' H' .non T S' (rep_non.mpr rfl)
 | ret w m1=>rw[hr] at q;exact fun as' H' v T S' R'=>q as' H' v T S' R'
 | brk e m1=>rw[hr] at q;exact q.elim
 | cont e m1=>rw[hr] at q;exact q.elim
 | exc c w e m1=>rw[hr] at q;exact q.elim
 | no=>rw[hr] at q;exact q.elim
theorem fnRf_sound {d:Dfn}{f:Addr}{fd:FuncData}{k:Nat}(F:Fun K d.nm d.nm d.st f fd) (hd:OkRf C Q xn kd.nm d) (kb:K.In base) (hO:XOk K mg Q G) (h8:Q.xs.length=8) (hcs:cs=Q.xs.take 4) (hds:ds=Q.xs.drop 4) (hF:XFf P w K mg base Q xn cl k)
  (hfn:∀ (i:Nat) (nm:Str),C.fns[i]?=some nm->∃ f fd ps,mg nm=some (.ref f)/\PySem.W.keepIn K (.ref f)=true/\Binds K fd ps []/\FnOk P w K mg base CX0 k f fd ps (spOf K (cl i)))
  (hcon:∀ (nm:Str) (i:Int),C.cons.lookup nm=some i->∃ t,mg nm=some (.int i t)) (hblt:∀ nm ∈ bltNames,mg nm=none) (hkd:DefOk K mg kd) (hkb:Bnd kd) (hko:OkKd kd n x k' cs ds) :
  FnOk P w K mg base CX0 (k+1) f fd d.ps (spOf K (runF cl d.fn)):=by
 obtain ⟨h1,h2,h3,h4⟩:=hd
 have Sc:=scopeB_ok h1
 obtain ⟨f',fd',F',m'⟩:=hkd
 refine F.ok Sc (fun vs H Q' E h=>?_) (fun cdv A outer s H vs Q' E hr h=>?_)
 ·obtain ⟨as,m,ws,S,R,q⟩:=h
  rw[<- R.length,arity q,h2]
 ·obtain ⟨as,m,ws,S,R,q⟩:=h
  have ha:=arity q
  have hC:CtxOk C (cxOf CX0 P w K mg base d.N d.nm (defScope d.st) f cdv A outer s H E).nox cl k:=⟨hr,rfl,hfn,hcon,hblt⟩
  exact ⟨_,soundRf hC ⟨Sc.nd,fun _=>rfl,PassesOwn.never⟩ rfl rfl rfl hO h8 hcs hds (fun A v z1 z2=>(own_in kb z1).2 z2) hF Sc.nd ⟨f',fd',m',F'.kp,F'.binds hkb,fnKd_sound F' hko hO.v hblt⟩ h4,as,begin0 d.fn ws,m,S,begin_rep R ha h3,run_ends q ha⟩
theorem fnSk_sound {d:Dfn}{f:Addr}{fd:FuncData}{k:Nat}{fI A:Addr}{sn fl a0:Str}{st:Stmt}(F:Fun K d.nm d.nm d.st f fd) (hd:OkSk C Q kd.nm sn fl d) (kb:K.In base) (hO:XOk K mg Q G) (hm:mg sn=some (.ref A)) (O:InitOk K A fI fl a0 st) (hAk:ExcK K A) (hAv:PySem.W.kitOne K (.ref A) (.type "ValueError")=some true) (hAG:PySem.W.mroIn K A (.ref G)=some true)
  (n1:NumOk K mg A cs ((numB 4).take 4)) (n2:NumOk K mg A ds ((numB 4).drop 4))
  (hfn:∀ (i:Nat) (nm:Str),C.fns[i]?=some nm->∃ f fd ps,mg nm=some (.ref f)/\PySem.W.keepIn K (.ref f)=true/\Binds K fd ps []/\FnOk P w K mg base CX0 k f fd ps (spOf K (cl i)))
  (hcon:∀ (nm:Str) (i:Int),C.cons.lookup nm=some i->∃ t,mg nm=some (.int i t)) (hblt:∀ nm ∈ bltNames,mg nm=none) (hkd:DefOk K mg kd) (hkb:Bnd kd) (hko:OkKd kd n x k' cs ds) :
  FnOk P w K mg base CX0 (k+1) f fd d.ps (spOf K (runF cl d.fn)):=by
 obtain ⟨h1,h2,h3,h4⟩:=hd
 have Sc:=scopeB_ok h1
 obtain ⟨f',fd',F',m'⟩:=hkd
 refine F.ok Sc (fun vs H Q' E h=>?_) (fun cdv A outer s H vs Q' E hr h=>?_)
 ·obtain ⟨as,m,ws,S,R,q⟩:=h
  rw[<- R.length,arity q,h2]
 ·obtain ⟨as,m,ws,S,R,q⟩:=h
  have ha:=arity q
  have hC:CtxOk C (cxOf CX0 P w K mg base d.N d.nm (defScope d.st) f cdv A outer s H E).nox cl k:=⟨hr,rfl,hfn,hcon,hblt⟩
  exact ⟨_,soundSk hC ⟨Sc.nd,fun _=>rfl,PassesOwn.never⟩ rfl rfl rfl hO.g ((own_in kb hO.ge).2 hO.gb) ((ownI kb O.cls).2 _ hAG) hm O hAk hAv n1 n2 Sc.nd ⟨f',fd',m',F'.kp,F'.binds hkb,fnKd_sound F' hko hO.v hblt⟩ h4,as,begin0 d.fn ws,m,S,begin_rep R ha h3,run_ends q ha⟩
end
end Mini
namespace Mini
open PySem PySem.Spec PyProof.Rows L2
noncomputable def xnOf:Nat->List Dfn->List (Nat × Str)
 | _,[]=>[]
 | n,d::r=>(n,d.nm)::xnOf (n+1) r
theorem xnOf_at:∀ {XD:List Dfn}{n k:Nat}{nm:Str},(xnOf n XD).lookup k=some nm->∃ j d,XD[j]?=some d/\d.nm=nm/\k=n+j
 | [],_,_,_,h=>by cases h
 | d::r,n,k,nm,h=>by
  unfold xnOf at h
  rw[List.lookup_cons] at h
  cases e:k == n with
  | true =>
   rw[e] at h
   cases h
   exact ⟨0,d,rfl,rfl,by simpa using e⟩
  | false =>
   rw[e] at h
   obtain ⟨j,d',h1,h2,h3⟩:=xnOf_at h
   exact ⟨j+1,d',h1,h2,by lia⟩
structure SkOk (K:PySem.W.Frag) (mg:Str->Option Value) (Q:Xc) (G:Addr) (sn fl a0:Str) (A fI:Addr) (st:Stmt):Prop where
 m:mg sn=some (.ref A)
 i:InitOk K A fI fl a0 st
 k:ExcK K A
 v:PySem.W.kitOne K (.ref A) (.type "ValueError")=some true
 g:PySem.W.mroIn K A (.ref G)=some true
 n1:NumOk K mg A (Q.xs.take 4) ((numB 4).take 4)
 n2:NumOk K mg A (Q.xs.drop 4) ((numB 4).drop 4)
section
variable {P : Program} {w : World} {K : PySem.W.Frag} {mg : Str -> Option Value} {base : Heap} {C : Ctx} {Q : Xc} {xn : List (Nat × Str)} {G : Addr}
theorem tableG {D XD:List Dfn}{kd:Dfn}{n x k' sn fl a0:Str}{A fI:Addr}{st:Stmt}(hC:C.fns=D.map (·.nm)) (hxn:xn=xnOf D.length XD) (hD:∀ d ∈ D,OkD C d\/OkRf C Q xn kd.nm d\/OkSk C Q kd.nm sn fl d) (hX:∀ d ∈ XD,OkF C Q xn d) (hB:∀ d ∈ D,Bnd d) (hBX:∀ d ∈ XD,Bnd d) (hK:∀ d ∈ D,DefOk K mg d) (hKX:∀ d ∈ XD,DefOk K mg d)
  (kb:K.In base) (hO:XOk K mg Q G) (hkm:kd ∈ D) (hko:OkKd kd n x k' (Q.xs.take 4) (Q.xs.drop 4)) (h8:Q.xs.length=8) (hs:SkOk K mg Q G sn fl a0 A fI st) (hcon:∀ (nm:Str) (i:Int),C.cons.lookup nm=some i->∃ t,mg nm=some (.int i t)) (hblt:∀ nm ∈ bltNames,mg nm=none) :
  ∀ k:Nat,(∀ (i:Nat) (d:Dfn),D[i]?=some d->∀ f fd,Fun K d.nm d.nm d.st f fd->FnOk P w K mg base CX0 k f fd d.ps (spOf K (callN (D.map (·.fn)++XD.map (·.fn)) k i)))/\XFf P w K mg base Q xn (callN (D.map (·.fn)++XD.map (·.fn)) k) k
 | 0=>by
  have no:∀ {i:Nat}{vs:List V}{H:Hp}{R:VK}{E:XK},¬ spOf K (callN (D.map (·.fn)++XD.map (·.fn)) 0 i) vs H R E:=fun {i vs H R E} h=>by
   obtain ⟨as,m,ws,S,R,q⟩:=h
   exact q
  refine ⟨fun i d hi f fd F=>⟨fun vs H R E h=>(no h).elim,fun A outer s H args us vs R E _ _ _ _ h=>(no h).elim⟩,fun k nm hk=>⟨?_,fun ws m v m' h=>by cases h⟩⟩
  rw[hxn] at hk
  obtain ⟨j,d,h1,rfl,rfl⟩:=xnOf_at hk
  obtain ⟨f,fd,F,hm⟩:=hKX d (List.mem_of_getElem? h1)
  exact ⟨f,fd,d.ps,hm,F.kp,F.binds (hBX d (List.mem_of_getElem? h1)),⟨fun vs H R E h=>(no h).elim,fun A outer s H args us vs R E _ _ _ _ h=>(no h).elim⟩⟩
 | k+1=>by
  obtain ⟨ih,ihX⟩:=tableG hC hxn hD hX hB hBX hK hKX kb hO hkm hko h8 hs hcon hblt k
  have hfn:∀ (j:Nat) (nm:Str),C.fns[j]?=some nm->∃ f fd ps,mg nm=some (.ref f)/\PySem.W.keepIn K (.ref f)=true/\Binds K fd ps []/\FnOk P w K mg base CX0 k f fd ps (spOf K (callN (D.map (·.fn)++XD.map (·.fn)) k j)):=fun j nm hj=>by
   rw[hC,List.getElem?_map] at hj
   cases hx:D[j]? with
   | none=>rw[hx] at hj;cases hj
   | some d' =>
    rw[hx] at hj
    cases hj
    obtain ⟨f',fd',F',m'⟩:=hK d' (List.mem_of_getElem? hx)
    exact ⟨f',fd',d'.ps,m',F'.kp,F'.binds (hB d' (List.mem_of_getElem? hx)),ih j d' hx f' fd' F'⟩
  have at1:∀ {i:Nat}{d:Dfn},D[i]?=some d->callN (D.map (·.fn)++XD.map (·.fn)) (k+1) i=runF (callN (D.map (·.fn)++XD.map (·.fn)) k) d.fn:=fun {i d} hi=>by
   funext ws m
   have z:(D.map Dfn.fn++XD.map Dfn.fn)[i]?=some d.fn:=by
    rw[List.getElem?_append_left (by rw[List.length_map];exact (List.getElem?_eq_some_iff.mp hi).1),List.getElem?_map,hi]
    rfl
   show (match ((D.map Dfn.fn)++(XD.map Dfn.fn):List Fn)[i]? with
    | some fn=>runF (callN (D.map Dfn.fn++XD.map Dfn.fn) k) fn ws m
    | none=>.no)=_
   rw[z]
  have at2:∀ {j:Nat}{d:Dfn},XD[j]?=some d->callN (D.map (·.fn)++XD.map (·.fn)) (k+1) (D.length+j)=runF (callN (D.map (·.fn)++XD.map (·.fn)) k) d.fn:=fun {j d} hi=>by
   funext ws m
   have z:(D.map Dfn.fn++XD.map Dfn.fn)[D.length+j]?=some d.fn:=by
    rw[List.getElem?_append_right (by rw[List.length_map];lia),List.length_map,Nat.add_sub_cancel_left,List.getElem?_map,hi]
    rfl
   show (match ((D.map Dfn.fn)++(XD.map Dfn.fn):List Fn)[D.length+j]? with
    | some fn=>runF (callN (D.map Dfn.fn++XD.map Dfn.fn) k) fn ws m
    | none=>.no)=_
   rw[z]
  refine ⟨fun i d hi f fd F=>?_,fun i nm hk=>?_⟩
  ·rw[at1 hi]
   rcases hD d (List.mem_of_getElem? hi) with h | h | h
   ·exact fn_sound F h hfn hcon hblt
   ·exact fnRf_sound F h kb hO h8 rfl rfl ihX hfn hcon hblt (hK kd hkm) (hB kd hkm) hko
   ·exact fnSk_sound F h kb hO hs.m hs.i hs.k hs.v hs.g hs.n1 hs.n2 hfn hcon hblt (hK kd hkm) (hB kd hkm) hko
  ·rw[hxn] at hk
   obtain ⟨j,d,h1,rfl,rfl⟩:=xnOf_at hk
   have hm:=List.mem_of_getElem? h1
   obtain ⟨f,fd,F,m'⟩:=hKX d hm
   rw[at2 h1]
   exact ⟨⟨f,fd,d.ps,m',F.kp,F.binds (hBX d hm),fnF_sound F (hX d hm) kb hO ihX hfn hcon hblt⟩,runXF (hX d hm) fun k nm hk=>(ihX k nm hk).2⟩
end
theorem law_pureG {K:PySem.W.Frag}{T:List Fn}{k i:Nat}{H:Hp}{a:Addr}{ns:List Int}{E:XK}(hO:Only H) (hS:SqL K H a (ns.map V.int)) (h:∃ m,callN T k i [.rol (ns.map Wd.int)] []=.ok (.bl true) m) :
  spOf K (callN T k i) [.ref a] H (fun v _=>v=.bl true) E:=by
 have e:∀ l:List Fn,(l.map fun f=>(⟨"",.Pass ⟨0,0,0,0⟩,[],[],f⟩:Dfn)).map (·.fn)=l:=fun l=>by
  induction l with
  | nil=>rfl
  | cons f l ih=>show f::_=_;rw[ih]
 have z:=law_pure (D:=T.map fun f=>(⟨"",.Pass ⟨0,0,0,0⟩,[],[],f⟩:Dfn)) (k:=k) (i:=i) (E:=E) hO hS
 rw[e] at z
 exact z h
theorem walkG {l:PySem.W.OpenLaw}{q:Program}{loose:List Str}{XP:(Str->Option Value)->Heap->Prop}{YP:World->Heap->Prop}{d:DefRec}{Kp:Params->PySem.W.Frag}{D XD:List Dfn}{C:Ctx}{Q:Xc}{xn:List (Nat × Str)}{kd:Dfn}{n1 x1 k1 sn fl a0:Str}{st:Stmt}{k i:Nat}{dl:Dfn}{x:Str}{n:Nat}
  (hn:l.most=some n) (hn2:n<=sizeLine) (hdf:d.params.defaults=[]) (hr:Room k callerA) (hY:∀ (w:World) (h:Heap),YP w h->(Kp w.params).In h)
  (hkm:kd ∈ D) (hko:OkKd kd n1 x1 k1 (Q.xs.take 4) (Q.xs.drop 4)) (h8:Q.xs.length=8) (hC:C.fns=D.map (·.nm)) (hxn:xn=xnOf D.length XD) (hD:∀ d ∈ D,OkD C d\/OkRf C Q xn kd.nm d\/OkSk C Q kd.nm sn fl d) (hX:∀ d ∈ XD,OkF C Q xn d) (hB:∀ d ∈ D,Bnd d) (hBX:∀ d ∈ XD,Bnd d) (hi:D[i]?=some dl) (hx:dl.ps=[x]) (hnm:d.name=dl.nm)
  (F:∀ (w:World) (mg:Str->Option Value) (fa:Addr) (h:Heap),(Kp w.params).In h->h.Ns mainGlobals mg->mg d.name=some (.ref fa) ->
   ((∀ e ∈ D,DefOk (Kp w.params) mg e)/\(∀ (nm:Str) (i:Int),C.cons.lookup nm=some i->∃ t,mg nm=some (.int i t))/\∀ nm ∈ bltNames,mg nm=none)/\(∀ e ∈ XD,DefOk (Kp w.params) mg e)/\∃ G,XOk (Kp w.params) mg Q G/\∃ A fI,SkOk (Kp w.params) mg Q G sn fl a0 A fI st)
  (hpure:∀ ns:List Int,ns.length<=n->∃ m,callN (D.map (·.fn)++XD.map (·.fn)) k i [.rol (ns.map Wd.int)] []=.ok (.bl true) m) :
  PySem.W.WalkO q loose XP YP l.row.toRowW d [] (fun f vs=>PySem.call f vs):=by
 refine L2.walk_of (n:=n) (k:=k) (x:=x) (CX:=fun _=>CX0) (sp:=fun w=>spOf (Kp w.params) (callN (D.map (·.fn)++XD.map (·.fn)) k i)) hn hn2 hdf hr hY ?_ (fun w H a ns hl hO hS=>law_pureG hO hS (hpure ns hl)) fun _ _ _ _ _ z=>z
 intro w mg fa h KX Gn hmg
 obtain ⟨⟨h1,h2,h3⟩,h4,G,h5,A,fI,h6⟩:=F w mg fa h KX Gn hmg
 obtain ⟨f,fd,Ff,hm⟩:=h1 dl (List.mem_of_getElem? hi)
 rw[hnm,hm] at hmg
 cases hmg
 refine ⟨fd,fun s u=>?_,fun base kb nb=>?_⟩
 ·obtain ⟨oc,od,kV,doc,pm,an,cdv,ct,osl,rfl,lk,hcd⟩:=Ff.ex
  have z:=hB dl (List.mem_of_getElem? hi) kV doc pm an cdv ct [u] (by rw[hx];rfl)
  rw[hx] at z
  exact .of_eq z
 ·rw[<- hx]
  exact (tableG hC hxn hD hX hB hBX h1 h4 kb h5 hkm hko h8 h6 h2 h3 k).1 i dl hi fa fd Ff
end Mini
namespace Mini
open PySem PySem.Spec PyProof.Rows
theorem walkZ {q:Program}{loose:List Str}{XP:(Str->Option Value)->Heap->Prop}{r:PySem.W.RowW}{d:DefRec}{kwd:List (Str × Expr)}{run:Value->List Value->Sem Value}{K:Params->PySem.W.Frag}{as:List Addr}{n t:Nat}(e:∀ P,as=(K P).map (·.1))
  (h:PySem.W.WalkO q loose XP (fun w h=>(K w.params).In h) r d kwd run):PySem.W.WalkX q loose XP (PySem.W.X.obsZ as) (PySem.W.X.valZ K n t) r d kwd run :=
 fun w s₀ s₁ mg mb G y a o pm cd doc dV kV h1 h2 h3 h4 h5 h6 args vals as' L p1 p2 p3 p4 p5=>h w s₀ s₁ mg mb G (PySem.W.InK.keeps (K:=K) w _ _ (PySem.W.X.z_facts e y).2.1 L.keeps) a o pm cd doc dV kV h1 h2 h3 h4 h5 h6 args vals as' p1 p2 p3 p4 p5
end Mini
namespace R03
open PySem L2 Mini
noncomputable def top (i:Nat):Stmt:=PySem.Challenge.pw_loopgyre_k03_no_sizes_no_roads.main.body.getD i (.Pass ⟨0,0,0,0⟩)
noncomputable def ist:Stmt:=match top 2 with
 | .ClassDef _ _ _ b _ _ _ _ _ _ _=>b.getD 0 (.Pass ⟨0,0,0,0⟩)
 | s=>s
noncomputable def f0:Fn:=⟨1,1,(.ret (.and (.isi .int (.var 0)) (.not (.isi .bool (.var 0)))))⟩
noncomputable abbrev d0:Dfn:=⟨"is_whole",top 12,["thing"],["thing"],f0⟩
noncomputable def f1:Fn:=⟨2,2,(.ret (.and (.call 0 (.pair (.var 0) .unit)) (.chain .le .le (.lit (.int 1)) (.var 0) (.var 1))))⟩
noncomputable abbrev d1:Dfn:=⟨"is_size_to",top 13,["thing", "most"],["thing", "most"],f1⟩
noncomputable def f2:Fn:=⟨2,2,(.ite (.not (.call 1 (.pair (.var 0) (.pair (.var 1) .unit)))) .never .skip)⟩
noncomputable abbrev d2:Dfn:=⟨"need_size_to",top 14,["n", "most"],["n", "most"],f2⟩
noncomputable def f3:Fn:=⟨1,1,(.expr (.call 2 (.pair (.var 0) (.pair (.lit (.int 12)) .unit))))⟩
noncomputable abbrev d3:Dfn:=⟨"need_size",top 15,["n"],["n"],f3⟩
noncomputable def f4:Fn:=⟨2,2,(.seq (.ite (.cmp .lt (.var 1) (.blt .len (.pair (.var 0) .unit))) (.ret (.idx (.var 0) (.var 1))) .skip) (.ret (.bin .add (.bin .mul (.lit (.int 2)) (.var 1)) (.lit (.int 1)))))⟩
noncomputable abbrev d4:Dfn:=⟨"_law_cell_at",top 27,["_law_script", "_law_k"],["_law_script", "_law_k"],f4⟩
noncomputable def f5:Fn:=⟨1,2,(.seq .never (.seq .never (.seq .never .never)))⟩
noncomputable abbrev d5:Dfn:=⟨"_law_kinds",top 30,["_law_e", "_law_some"],["_law_e"],f5⟩
noncomputable def f6:Fn:=⟨3,5,(.seq (.asg 3 (.lst .unit)) (.ret (.lst (.pair (.call 15 (.pair (.var 0) (.pair (.var 1) (.pair (.var 2) .unit)))) .unit))))⟩
noncomputable abbrev d6:Dfn:=⟨"_law_refused",top 32,["_law_which", "_law_n", "_law_road", "_law_kinds_here", "_law_e"],["_law_which", "_law_n", "_law_road"],f6⟩
noncomputable def f7:Fn:=⟨1,3,(.seq (.asg 1 (.lst .unit)) (.seq (.asg 1 (four 0)) (.ret (.cmp .eq (.var 1) (four 0)))))⟩
noncomputable abbrev d7:Dfn:=⟨"_law_spot_kept",top 33,["_law_spot", "_law_kept", "_law_e"],["_law_spot"],f7⟩
noncomputable def f8:Fn:=⟨1,5,(.seq (.asg 1 (.call 4 (.pair (.var 0) (.pair (.lit (.int 0)) .unit)))) (.seq (.asg 2 (.idx (.lst (.pair (.bin .sub (.lit (.int 0)) (.bin .mod (.bin .fdiv (.var 1) (.lit (.int 3))) (.bin .pow (.lit (.int 10)) (.lit (.int 29))))) (.pair (.bin .add (.lit (.int 13)) (.bin .mod (.bin .fdiv (.var 1) (.lit (.int 3))) (.bin .pow (.lit (.int 10)) (.lit (.int 29))))) (.pair (.lit (.int 13)) .unit)))) (.bin .mod (.var 1) (.lit (.int 3))))) (.seq (.forv 3 (.rng (.lit (.int 0)) (.lit (.int 4)) (.lit (.int 1))) (.ite (.cmp .ne (.call 6 (.pair (.var 3) (.pair (.var 2) (.pair (.lit (.int 0)) .unit)))) (.lst (.pair (.lit (.int 2)) .unit))) (.ret (.lit (.bl false))) .skip)) (.seq (.asg 1 (.call 4 (.pair (.var 0) (.pair (.lit (.int 1)) .unit)))) (.seq (.asg 2 (.bin .add (.lit (.int 1)) (.bin .mod (.var 1) (.lit (.int 12))))) (.seq (.asg 4 (.idx (.lst (.pair (.bin .mul (.lit (.int 4)) (.var 2)) (.pair (.neg (.lit (.int 1))) (.pair (.bin .add (.bin .mul (.lit (.int 4)) (.var 2)) (.bin .mod (.bin .fdiv (.var 1) (.lit (.int 36))) (.bin .pow (.lit (.int 10)) (.lit (.int 29))))) (.pair (.bin .sub (.neg (.lit (.int 1))) (.bin .mod (.bin .fdiv (.var 1) (.lit (.int 36))) (.bin .pow (.lit (.int 10)) (.lit (.int 29))))) .unit))))) (.bin .mod (.bin .fdiv (.var 1) (.lit (.int 12))) (.lit (.int 4))))) (.ret (.and (.cmp .eq (.call 6 (.pair (.lit (.int 1)) (.pair (.var 2) (.pair (.var 4) .unit)))) (.lst (.pair (.lit (.int 1)) .unit))) (.and (.call 7 (.pair (.tup (.pair (.var 2) (.pair (.var 4) .unit))) .unit)) (.call 7 (.pair (.lit .non) .unit)))))))))))⟩
noncomputable abbrev d8:Dfn:=⟨"law",top 34,["_law_script", "_law_cell", "_law_n", "_law_which", "_law_road"],["_law_script"],f8⟩
noncomputable def D:List Dfn:=[d0,d1,d2,d3,d4,d5,d6,d7,d8]
noncomputable def C:Mini.Ctx:=⟨["is_whole", "is_size_to", "need_size_to", "need_size", "_law_cell_at", "_law_kinds", "_law_refused", "_law_spot_kept", "law"],[("GREATEST_SIZE",12)]⟩
noncomputable def x0:Fn:=⟨2,2,(.ite (.not (.call 1 (.pair (.var 0) (.pair (.var 1) .unit)))) (.ite (.cmp .eq (.bin .sub (.var 1) (.lit (.int 12))) (.lit (.int 0))) (.ret (.lit (.int 2))) .never) .never)⟩
noncomputable abbrev xd0:Dfn:=⟨"need_size_to",top 14,["n", "most"],["n", "most"],x0⟩
noncomputable def x1:Fn:=⟨1,1,(.ret (.call 9 (.pair (.var 0) (.pair (.lit (.int 12)) .unit))))⟩
noncomputable abbrev xd1:Dfn:=⟨"need_size",top 15,["n"],["n"],x1⟩
noncomputable def x2:Fn:=⟨4,4,(.ret (.call 10 (.pair (.var 0) .unit)))⟩
noncomputable abbrev xd2:Dfn:=⟨"road_of",top 19,["n", "r", "c", "side"],["n", "r", "c", "side"],x2⟩
noncomputable def x3:Fn:=⟨2,2,(.ite (.not (.and (.call 0 (.pair (.var 0) .unit)) (.chain .le .lt (.lit (.int 0)) (.var 0) (.var 1)))) (.ret (.lit (.int 1))) .never)⟩
noncomputable abbrev xd3:Dfn:=⟨"need_road",top 20,["road", "roads"],["road", "roads"],x3⟩
noncomputable def x4:Fn:=⟨2,2,(.ite (isZ 1) (.ret (.call 10 (.pair (.var 0) .unit))) (.seq (.expr (.call 3 (.pair (.var 0) .unit))) (.ret (.call 12 (.pair (.var 1) (.pair (.bin .mul (.lit (.int 4)) (.var 0)) .unit))))))⟩
noncomputable abbrev xd4:Dfn:=⟨"place_of",top 22,["n", "road"],["n", "road"],x4⟩
noncomputable def x5:Fn:=⟨2,2,(.ret (.call 10 (.pair (.var 0) .unit)))⟩
noncomputable abbrev xd5:Dfn:=⟨"squares",top 25,["n", "shade"],["n", "shade"],x5⟩
noncomputable def x6:Fn:=⟨3,3,(.ite (.cmp .eq (.var 0) (.lit (.int 0))) (.ret (.call 11 (.pair (.var 1) (.pair (.lit (.int 0)) (.pair (.lit (.int 0)) (.pair (.lit (.str [85])) .unit)))))) (.ite (.cmp .eq (.var 0) (.lit (.int 1))) (.ret (.call 13 (.pair (.var 1) (.pair (.var 2) .unit)))) (.ret (.call 14 (.pair (.var 1) (.pair (.idx (.lst (.pair (.lit (.str [108,105,103,104,116])) (.pair (.lit (.str [100,97,114,107])) .unit))) (.bin .sub (.var 0) (.lit (.int 2)))) .unit))))))⟩
noncomputable abbrev xd6:Dfn:=⟨"_law_asked",top 31,["_law_which", "_law_n", "_law_road"],["_law_which", "_law_n", "_law_road"],x6⟩
noncomputable def XD:List Dfn:=[xd0,xd1,xd2,xd3,xd4,xd5,xd6]
noncomputable def XN:List (Nat × Str):=[(9, "need_size_to"),(10, "need_size"),(11, "road_of"),(12, "need_road"),(13, "place_of"),(14, "squares"),(15, "_law_asked")]
noncomputable def Q:Xc:=⟨"GyreError",["NoName", "NoRoad", "NoSize", "NoSquare"],["NoState", "NoText", "NoTurn", "Unlike"]⟩
theorem okx0:OkF C Q XN xd0:=⟨by decide +kernel,rfl,rfl,IsF.iteF (j:=2) (i:=1) (b:=12) rfl rfl (.not rfl rfl (.call rfl (by kernel_rfl) (by kernel_rfl) rfl (.pair rfl rfl .v (.pair rfl rfl .v .unit)))) rfl (by kernel_rfl) (by kernel_rfl) rfl (by kernel_rfl) (by kernel_rfl) (by kernel_rfl) (by kernel_rfl) (by kernel_rfl)⟩
theorem okx1:OkF C Q XN xd1:=⟨by decide +kernel,rfl,rfl,(IsF.call rfl (by kernel_rfl) (by kernel_rfl) rfl (.pair rfl rfl .v (.pair rfl rfl (.con (by kernel_rfl) (by kernel_rfl) (by kernel_rfl)) .unit)))⟩
theorem okx2:OkF C Q XN xd2:=⟨by decide +kernel,rfl,rfl,(IsF.call rfl (by kernel_rfl) (by kernel_rfl) rfl (.pair rfl rfl .v .unit))⟩
theorem okx3:OkF C Q XN xd3:=⟨by decide +kernel,rfl,rfl,IsF.ite (j:=1) rfl rfl (.not rfl rfl (.and2 rfl rfl (.call rfl (by kernel_rfl) (by kernel_rfl) rfl (.pair rfl rfl .v .unit)) rfl rfl (.chain rfl rfl .int rfl .v rfl .v))) rfl (by kernel_rfl) (by kernel_rfl)⟩
theorem okx4:OkF C Q XN xd4:=⟨by decide +kernel,rfl,rfl,IsF.orr (i:=1) (IsF.call rfl (by kernel_rfl) (by kernel_rfl) rfl (.pair rfl rfl .v .unit)) (IsF.seqS rfl (.expr rfl rfl (.call rfl (by kernel_rfl) (by kernel_rfl) rfl (.pair rfl rfl .v .unit))) (IsF.call rfl (by kernel_rfl) (by kernel_rfl) rfl (.pair rfl rfl .v (.pair rfl rfl (.bin rfl .int rfl .v) .unit))))⟩
theorem okx5:OkF C Q XN xd5:=⟨by decide +kernel,rfl,rfl,(IsF.call rfl (by kernel_rfl) (by kernel_rfl) rfl (.pair rfl rfl .v .unit))⟩
theorem okx6:OkF C Q XN xd6:=⟨by decide +kernel,rfl,rfl,IsF.iff rfl rfl (.cmp rfl rfl .v rfl .int) (IsF.callR rfl (by kernel_rfl) (by kernel_rfl) rfl (.pair rfl rfl .v (.pair rfl rfl .int (.pair rfl rfl .int (.pair rfl rfl (.str (by kernel_rfl)) .unit))))) (IsF.iff rfl rfl (.cmp rfl rfl .v rfl .int) (IsF.callR rfl (by kernel_rfl) (by kernel_rfl) rfl (.pair rfl rfl .v (.pair rfl rfl .v .unit))) (IsF.callR rfl (by kernel_rfl) (by kernel_rfl) rfl (.pair rfl rfl .v (.pair rfl rfl (.idx rfl rfl (.lst (.pair rfl rfl (.str (by kernel_rfl)) (.pair rfl rfl (.str (by kernel_rfl)) .unit))) rfl (.bin rfl .v rfl .int)) .unit))))⟩
theorem ok0:OkD C d0:=⟨by decide +kernel,rfl,rfl,(.one (.ret rfl (.and2 rfl rfl (.isi (by kernel_rfl) (by kernel_rfl) rfl rfl .v) rfl rfl (.not rfl rfl (.isi (by kernel_rfl) (by kernel_rfl) rfl rfl .v)))))⟩
theorem ok1:OkD C d1:=⟨by decide +kernel,rfl,rfl,(.one (.ret rfl (.and2 rfl rfl (.call rfl (by kernel_rfl) (by kernel_rfl) rfl (.pair rfl rfl .v .unit)) rfl rfl (.chain rfl rfl .int rfl .v rfl .v))))⟩
theorem ok2:OkD C d2:=⟨by decide +kernel,rfl,rfl,(.one (.ite rfl rfl (.not rfl rfl (.call rfl (by kernel_rfl) (by kernel_rfl) rfl (.pair rfl rfl .v (.pair rfl rfl .v .unit)))) (.one .never) .skip0))⟩
theorem ok3:OkD C d3:=⟨by decide +kernel,rfl,rfl,(.one (.expr rfl rfl (.call rfl (by kernel_rfl) (by kernel_rfl) rfl (.pair rfl rfl .v (.pair rfl rfl (.con (by kernel_rfl) (by kernel_rfl) (by kernel_rfl)) .unit)))))⟩
theorem ok4:OkD C d4:=⟨by decide +kernel,rfl,rfl,(.seq (.ite rfl rfl (.cmp rfl rfl .v rfl (.blt rfl (by kernel_rfl) (by kernel_rfl) rfl (.pair rfl rfl .v .unit))) (.one (.ret rfl (.idx rfl rfl .v rfl .v))) .skip0) (.one (.ret rfl (.bin rfl (.bin rfl .int rfl .v) rfl .int))))⟩
theorem ok5:OkD C d5:=⟨by decide +kernel,rfl,rfl,(.seq .never (.seq .never (.seq .never (.one .never))))⟩
theorem okK:OkKd d5 "_law_e" "_law_some" "_law_k" (Q.xs.take 4) (Q.xs.drop 4):=⟨by decide +kernel,rfl,rfl,IsKd.mk (by kernel_rfl) (by kernel_rfl) (by kernel_rfl) (by kernel_rfl) (by kernel_rfl) (by kernel_rfl) (by kernel_rfl) (IsIns.cons (by kernel_rfl) (by kernel_rfl) (IsIns.cons (by kernel_rfl) (by kernel_rfl) (IsIns.cons (by kernel_rfl) (by kernel_rfl) (IsIns.cons (by kernel_rfl) (by kernel_rfl) IsIns.nil)))) (IsIns.cons (by kernel_rfl) (by kernel_rfl) (IsIns.cons (by kernel_rfl) (by kernel_rfl) (IsIns.cons (by kernel_rfl) (by kernel_rfl) (IsIns.cons (by kernel_rfl) (by kernel_rfl) IsIns.nil)))) (by kernel_rfl) rfl (by kernel_rfl) (by kernel_rfl) (by kernel_rfl)⟩
theorem ok6:OkRf C Q XN d5.nm d6:=⟨by decide +kernel,rfl,rfl,IsRf.mk (i:=4) (j:=3) (.asg rfl rfl (by kernel_rfl) rfl (.lst .unit)) rfl (by kernel_rfl) (by kernel_rfl) rfl (.pair rfl rfl .v (.pair rfl rfl .v (.pair rfl rfl .v .unit))) (by kernel_rfl) (by kernel_rfl) rfl (by kernel_rfl) (by kernel_rfl) rfl (by kernel_rfl) (by kernel_rfl) rfl (by kernel_rfl) (by kernel_rfl)⟩
theorem ok7:OkSk C Q d5.nm "NoState" "spot" d7:=⟨by decide +kernel,rfl,rfl,IsSk.mk (i:=2) (j:=1) (u:=0) (.asg rfl rfl (by kernel_rfl) rfl (.lst .unit)) (by kernel_rfl) (by kernel_rfl) rfl (.pair rfl rfl .v .unit) (by kernel_rfl) (by kernel_rfl) rfl (by kernel_rfl) (by kernel_rfl) rfl (by kernel_rfl) (by kernel_rfl) rfl rfl rfl (by kernel_rfl) (by kernel_rfl) (.cmp rfl rfl .v rfl (.lst (.pair rfl rfl (.lst (.pair rfl rfl .int .unit)) (.pair rfl rfl .v .unit))))⟩
theorem ok8:OkD C d8:=⟨by decide +kernel,rfl,rfl,(.seq (.asg rfl rfl (by kernel_rfl) rfl (.call rfl (by kernel_rfl) (by kernel_rfl) rfl (.pair rfl rfl .v (.pair rfl rfl .int .unit)))) (.seq (.asg rfl rfl (by kernel_rfl) rfl (.idx rfl rfl (.lst (.pair rfl rfl (.bin rfl .int rfl (.bin rfl (.bin rfl .v rfl .int) rfl (.bin rfl .int rfl .int))) (.pair rfl rfl (.bin rfl .int rfl (.bin rfl (.bin rfl .v rfl .int) rfl (.bin rfl .int rfl .int))) (.pair rfl rfl .int .unit)))) rfl (.bin rfl .v rfl .int))) (.seq (.forv rfl (by kernel_rfl) rfl (.rng1 (by kernel_rfl) rfl rfl .int) (.one (.ite rfl rfl (.cmp rfl rfl (.call rfl (by kernel_rfl) (by kernel_rfl) rfl (.pair rfl rfl .v (.pair rfl rfl .v (.pair rfl rfl .int .unit)))) rfl (.lst (.pair rfl rfl .int .unit))) (.one (.ret rfl .bl)) .skip0))) (.seq (.asg rfl rfl (by kernel_rfl) rfl (.call rfl (by kernel_rfl) (by kernel_rfl) rfl (.pair rfl rfl .v (.pair rfl rfl .int .unit)))) (.seq (.asg rfl rfl (by kernel_rfl) rfl (.bin rfl .int rfl (.bin rfl .v rfl .int))) (.seq (.asg rfl rfl (by kernel_rfl) rfl (.idx rfl rfl (.lst (.pair rfl rfl (.bin rfl .int rfl .v) (.pair rfl rfl (.neg rfl .int) (.pair rfl rfl (.bin rfl (.bin rfl .int rfl .v) rfl (.bin rfl (.bin rfl .v rfl .int) rfl (.bin rfl .int rfl .int))) (.pair rfl rfl (.bin rfl (.neg rfl .int) rfl (.bin rfl (.bin rfl .v rfl .int) rfl (.bin rfl .int rfl .int))) .unit))))) rfl (.bin rfl (.bin rfl .v rfl .int) rfl .int))) (.one (.ret rfl (.andN rfl rfl (.cmp rfl rfl (.call rfl (by kernel_rfl) (by kernel_rfl) rfl (.pair rfl rfl .int (.pair rfl rfl .v (.pair rfl rfl .v .unit)))) rfl (.lst (.pair rfl rfl .int .unit))) rfl (.and2 rfl rfl (.call rfl (by kernel_rfl) (by kernel_rfl) rfl (.pair rfl rfl (.tup (.pair rfl rfl .v (.pair rfl rfl .v .unit))) .unit)) rfl rfl (.call rfl (by kernel_rfl) (by kernel_rfl) rfl (.pair rfl rfl .non .unit))))))))))))⟩
theorem okAll:∀ d ∈ D,OkD C d\/OkRf C Q XN d5.nm d\/OkSk C Q d5.nm "NoState" "spot" d:=by
 intro d hd
 unfold D at hd
 rcases List.mem_cons.mp hd with rfl | hd
 ·exact .inl (ok0)
 rcases List.mem_cons.mp hd with rfl | hd
 ·exact .inl (ok1)
 rcases List.mem_cons.mp hd with rfl | hd
 ·exact .inl (ok2)
 rcases List.mem_cons.mp hd with rfl | hd
 ·exact .inl (ok3)
 rcases List.mem_cons.mp hd with rfl | hd
 ·exact .inl (ok4)
 rcases List.mem_cons.mp hd with rfl | hd
 ·exact .inl (ok5)
 rcases List.mem_cons.mp hd with rfl | hd
 ·exact .inr (.inl ok6)
 rcases List.mem_cons.mp hd with rfl | hd
 ·exact .inr (.inr ok7)
 rcases List.mem_cons.mp hd with rfl | hd
 ·exact .inl (ok8)
 ·cases hd
theorem bx0:Bnd xd0:=fun _ _ _ _ _ _=>us2 (fun _ _=>rfl)
theorem bx1:Bnd xd1:=fun _ _ _ _ _ _=>us1 (fun _=>rfl)
theorem bx2:Bnd xd2:=fun _ _ _ _ _ _=>us4 (fun _ _ _ _=>rfl)
theorem bx3:Bnd xd3:=fun _ _ _ _ _ _=>us2 (fun _ _=>rfl)
theorem bx4:Bnd xd4:=fun _ _ _ _ _ _=>us2 (fun _ _=>rfl)
theorem bx5:Bnd xd5:=fun _ _ _ _ _ _=>us2 (fun _ _=>rfl)
theorem bx6:Bnd xd6:=fun _ _ _ _ _ _=>us3 (fun _ _ _=>rfl)
theorem b0:Bnd d0:=fun _ _ _ _ _ _=>us1 (fun _=>rfl)
theorem b1:Bnd d1:=fun _ _ _ _ _ _=>us2 (fun _ _=>rfl)
theorem b2:Bnd d2:=fun _ _ _ _ _ _=>us2 (fun _ _=>rfl)
theorem b3:Bnd d3:=fun _ _ _ _ _ _=>us1 (fun _=>rfl)
theorem b4:Bnd d4:=fun _ _ _ _ _ _=>us2 (fun _ _=>rfl)
theorem b5:Bnd d5:=fun _ _ _ _ _ _=>us1 (fun _=>rfl)
theorem b6:Bnd d6:=fun _ _ _ _ _ _=>us3 (fun _ _ _=>rfl)
theorem b7:Bnd d7:=fun _ _ _ _ _ _=>us1 (fun _=>rfl)
theorem b8:Bnd d8:=fun _ _ _ _ _ _=>us1 (fun _=>rfl)
theorem okX:∀ d ∈ XD,OkF C Q XN d:=by
 intro d hd
 unfold XD at hd
 rcases List.mem_cons.mp hd with rfl | hd
 ·exact okx0
 rcases List.mem_cons.mp hd with rfl | hd
 ·exact okx1
 rcases List.mem_cons.mp hd with rfl | hd
 ·exact okx2
 rcases List.mem_cons.mp hd with rfl | hd
 ·exact okx3
 rcases List.mem_cons.mp hd with rfl | hd
 ·exact okx4
 rcases List.mem_cons.mp hd with rfl | hd
 ·exact okx5
 rcases List.mem_cons.mp hd with rfl | hd
 ·exact okx6
 ·cases hd
theorem bndX:∀ d ∈ XD,Bnd d:=by
 intro d hd
 unfold XD at hd
 rcases List.mem_cons.mp hd with rfl | hd
 ·exact bx0
 rcases List.mem_cons.mp hd with rfl | hd
 ·exact bx1
 rcases List.mem_cons.mp hd with rfl | hd
 ·exact bx2
 rcases List.mem_cons.mp hd with rfl | hd
 ·exact bx3
 rcases List.mem_cons.mp hd with rfl | hd
 ·exact bx4
 rcases List.mem_cons.mp hd with rfl | hd
 ·exact bx5
 rcases List.mem_cons.mp hd with rfl | hd
 ·exact bx6
 ·cases hd
theorem bnd:∀ d ∈ D,Bnd d:=by
 intro d hd
 unfold D at hd
 rcases List.mem_cons.mp hd with rfl | hd
 ·exact b0
 rcases List.mem_cons.mp hd with rfl | hd
 ·exact b1
 rcases List.mem_cons.mp hd with rfl | hd
 ·exact b2
 rcases List.mem_cons.mp hd with rfl | hd
 ·exact b3
 rcases List.mem_cons.mp hd with rfl | hd
 ·exact b4
 rcases List.mem_cons.mp hd with rfl | hd
 ·exact b5
 rcases List.mem_cons.mp hd with rfl | hd
 ·exact b6
 rcases List.mem_cons.mp hd with rfl | hd
 ·exact b7
 rcases List.mem_cons.mp hd with rfl | hd
 ·exact b8
 ·cases hd
theorem zk {K:PySem.W.Frag}(z0:PySem.W.nsIn K mainGlobals "len" = some none) (z1:PySem.W.nsIn K mainGlobals "int" = some none) (z2:PySem.W.nsIn K mainGlobals "bool" = some none) (z3:PySem.W.nsIn K mainGlobals "list" = some none) (z4:PySem.W.nsIn K mainGlobals "tuple" = some none) (z5:PySem.W.nsIn K mainGlobals "abs" = some none) (z6:PySem.W.nsIn K mainGlobals "max" = some none) (z7:PySem.W.nsIn K mainGlobals "min" = some none) (z8:PySem.W.nsIn K mainGlobals "isinstance" = some none) (z9:PySem.W.nsIn K mainGlobals "range" = some none) (z10:PySem.W.nsIn K mainGlobals "str" = some none) (z11:PySem.W.nsIn K mainGlobals "dict" = some none) (z12:PySem.W.nsIn K mainGlobals "sum" = some none) (z13:PySem.W.nsIn K mainGlobals "all" = some none) (z14:PySem.W.nsIn K mainGlobals "zip" = some none) (z15:PySem.W.nsIn K mainGlobals "enumerate" = some none):∀ nm ∈ bltNames,PySem.W.nsIn K mainGlobals nm=some none:=by
 unfold bltNames
 simp only[List.forall_mem_cons]
 exact ⟨z0,z1,z2,z3,z4,z5,z6,z7,z8,z9,z10,z11,z12,z13,z14,z15,fun _ q=>(List.not_mem_nil q).elim⟩
theorem dk {K:PySem.W.Frag}{h:Heap}{mg:Str->Option Value}(X:K.In h) (G:h.Ns mainGlobals mg) {d:Dfn}{a:Addr}{od an:Option Addr}{sl:Array (Option Value)}{oc kV dc pm cd ct:Value}(g:PySem.W.nsIn K mainGlobals d.nm=some (some (.ref a)))
  (l:K.lookup a=some ⟨oc,od,.func (PySem.W.fnOf d.nm d.nm (defArgs d.st) (defBody d.st) (defScope d.st) .none kV dc pm an cd ct),sl⟩) (c:PySem.W.codeIn K cd d.nm=true) (k:PySem.W.keepIn K (.ref a)=true):DefOk K mg d:=⟨a,_,fun_mk l c k,PySem.W.mg_of X G g⟩
theorem io {K:PySem.W.Frag}{A fI:Addr}{cc:ClassData}{od an:Option Addr}{sl:Array (Option Value)}{oc kV dc pm cd ct:Value}(i1:excInI K A=true) (i2:PySem.W.clsIn K A=some cc) (i3:cc.hasDict=true) (i4:∀ self,refuseLoop self "__setattr__" cc.mro=pure ()) (i5:PySem.W.findIn K (.ref A) "__setattr__" = some (some (.builtin "object.__setattr__"))) (i6:PySem.W.mroIn K A (.type "object")=some true)
  (i7:PySem.W.findIn K (.ref A) "spot" = some none) (i8:PySem.W.findIn K (.ref A) "__init__" = some (some (.ref fI))) (i9:PySem.W.typeIn K (.ref fI)=some (.type "function")) (l:K.lookup fI=some ⟨oc,od,.func (PySem.W.fnOf "__init__" "NoState.__init__" (defArgs ist) (defBody ist) (defScope ist) .none kV dc pm an cd ct),sl⟩) (c:PySem.W.codeIn K cd "NoState.__init__" = true) (k:PySem.W.keepIn K (.ref fI)=true):InitOk K A fI "spot" "self" ist :=
 ⟨i1,⟨⟨cc,i2,i3,i4⟩,i5,i6,i7,i8,i9⟩,⟨_,_,fun_mk l c k,(fun_mk l c k).binds fun _ _ _ _ _ _=>us2 (fun _ _=>rfl)⟩,scopeB_ok (by decide +kernel),⟨_,_,_,_,rfl,fun _=>rfl⟩,by kernel_rfl,by kernel_rfl,⟨by decide,by decide⟩,⟨by decide,by decide⟩⟩
theorem mk {K:PySem.W.Frag}{h:Heap}{mg:Str->Option Value}(X:K.In h) (G:h.Ns mainGlobals mg) {cG fI u0 u1 u2 u3 u4 u5 u6 u7:Addr}{t0:Tok}
  (h0:DefOk K mg d0) (h1:DefOk K mg d1) (h2:DefOk K mg d2) (h3:DefOk K mg d3) (h4:DefOk K mg d4) (h5:DefOk K mg d5) (h6:DefOk K mg d6) (h7:DefOk K mg d7) (h8:DefOk K mg d8) (hx0:DefOk K mg xd0) (hx1:DefOk K mg xd1) (hx2:DefOk K mg xd2) (hx3:DefOk K mg xd3) (hx4:DefOk K mg xd4) (hx5:DefOk K mg xd5) (hx6:DefOk K mg xd6)
  (e0:PySem.W.nsIn K mainGlobals "GREATEST_SIZE" = some (some (.int 12 t0)))
  (z:∀ nm ∈ bltNames,PySem.W.nsIn K mainGlobals nm=some none)
  (xG:PySem.W.nsIn K mainGlobals "GyreError" = some (some (.ref cG)))
  (xg0:PySem.W.nsIn K mainGlobals "NoName" = some (some (.ref u0)))
  (xg1:PySem.W.nsIn K mainGlobals "NoRoad" = some (some (.ref u1)))
  (xg2:PySem.W.nsIn K mainGlobals "NoSize" = some (some (.ref u2)))
  (xg3:PySem.W.nsIn K mainGlobals "NoSquare" = some (some (.ref u3)))
  (xg4:PySem.W.nsIn K mainGlobals "NoState" = some (some (.ref u4)))
  (xg5:PySem.W.nsIn K mainGlobals "NoText" = some (some (.ref u5)))
  (xg6:PySem.W.nsIn K mainGlobals "NoTurn" = some (some (.ref u6)))
  (xg7:PySem.W.nsIn K mainGlobals "Unlike" = some (some (.ref u7)))
  (xE:PySem.W.excIn K cG [.type "ValueError",.type "Exception",.type "BaseException",.type "object"] "ValueError.__new__" = true)
  (xM:PySem.W.mroIn K cG (.type "BaseException")=some true)
  (xV:PySem.W.nsIn K mainGlobals "ValueError" = some none)
  (xe0:PySem.W.excIn K u0 [.type "ValueError",.type "Exception",.type "BaseException",.type "object"] "ValueError.__new__" = true)
  (xa0:PySem.W.findIn K (.ref u0) "__getattribute__" = some (some (.builtin "BaseException.__getattribute__")))
  (xb0:PySem.W.findIn K (.ref u0) "__getattr__" = some none)
  (xc0:PySem.W.mroIn K u0 (.type "BaseException")=some true)
  (xd0:PySem.W.findIn K (.ref u0) "__class__" = some (some (.builtin "object.__class__")))
  (xo0:PySem.W.mroIn K u0 (.type "object")=some true)
  (xm0:PySem.W.mroIn K u0 (.ref cG)=some true)
  (xv0:PySem.W.kitOne K (.ref u0) (.type "ValueError")=some true)
  (xk0_0:PySem.W.kitOne K (.ref u0) (.ref u0)=some true)
  (xk0_1:PySem.W.kitOne K (.ref u0) (.ref u1)=some false)
  (xk0_2:PySem.W.kitOne K (.ref u0) (.ref u2)=some false)
  (xk0_3:PySem.W.kitOne K (.ref u0) (.ref u3)=some false)
  (xk0_4:PySem.W.kitOne K (.ref u0) (.ref u4)=some false)
  (xk0_5:PySem.W.kitOne K (.ref u0) (.ref u5)=some false)
  (xk0_6:PySem.W.kitOne K (.ref u0) (.ref u6)=some false)
  (xk0_7:PySem.W.kitOne K (.ref u0) (.ref u7)=some false)
  (xe1:PySem.W.excIn K u1 [.type "ValueError",.type "Exception",.type "BaseException",.type "object"] "ValueError.__new__" = true)
  (xa1:PySem.W.findIn K (.ref u1) "__getattribute__" = some (some (.builtin "BaseException.__getattribute__")))
  (xb1:PySem.W.findIn K (.ref u1) "__getattr__" = some none)
  (xc1:PySem.W.mroIn K u1 (.type "BaseException")=some true)
  (xd1:PySem.W.findIn K (.ref u1) "__class__" = some (some (.builtin "object.__class__")))
  (xo1:PySem.W.mroIn K u1 (.type "object")=some true)
  (xm1:PySem.W.mroIn K u1 (.ref cG)=some true)
  (xv1:PySem.W.kitOne K (.ref u1) (.type "ValueError")=some true)
  (xk1_0:PySem.W.kitOne K (.ref u1) (.ref u0)=some false)
  (xk1_1:PySem.W.kitOne K (.ref u1) (.ref u1)=some true)
  (xk1_2:PySem.W.kitOne K (.ref u1) (.ref u2)=some false)
  (xk1_3:PySem.W.kitOne K (.ref u1) (.ref u3)=some false)
  (xk1_4:PySem.W.kitOne K (.ref u1) (.ref u4)=some false)
  (xk1_5:PySem.W.kitOne K (.ref u1) (.ref u5)=some false)
  (xk1_6:PySem.W.kitOne K (.ref u1) (.ref u6)=some false)
  (xk1_7:PySem.W.kitOne K (.ref u1) (.ref u7)=some false)
  (xe2:PySem.W.excIn K u2 [.type "ValueError",.type "Exception",.type "BaseException",.type "object"] "ValueError.__new__" = true)
  (xa2:PySem.W.findIn K (.ref u2) "__getattribute__" = some (some (.builtin "BaseException.__getattribute__")))
  (xb2:PySem.W.findIn K (.ref u2) "__getattr__" = some none)
  (xc2:PySem.W.mroIn K u2 (.type "BaseException")=some true)
  (xd2:PySem.W.findIn K (.ref u2) "__class__" = some (some (.builtin "object.__class__")))
  (xo2:PySem.W.mroIn K u2 (.type "object")=some true)
  (xm2:PySem.W.mroIn K u2 (.ref cG)=some true)
  (xv2:PySem.W.kitOne K (.ref u2) (.type "ValueError")=some true)
  (xk2_0:PySem.W.kitOne K (.ref u2) (.ref u0)=some false)
  (xk2_1:PySem.W.kitOne K (.ref u2) (.ref u1)=some false)
  (xk2_2:PySem.W.kitOne K (.ref u2) (.ref u2)=some true)
  (xk2_3:PySem.W.kitOne K (.ref u2) (.ref u3)=some false)
  (xk2_4:PySem.W.kitOne K (.ref u2) (.ref u4)=some false)
  (xk2_5:PySem.W.kitOne K (.ref u2) (.ref u5)=some false)
  (xk2_6:PySem.W.kitOne K (.ref u2) (.ref u6)=some false)
  (xk2_7:PySem.W.kitOne K (.ref u2) (.ref u7)=some false)
  (xe3:PySem.W.excIn K u3 [.type "ValueError",.type "Exception",.type "BaseException",.type "object"] "ValueError.__new__" = true)
  (xa3:PySem.W.findIn K (.ref u3) "__getattribute__" = some (some (.builtin "BaseException.__getattribute__")))
  (xb3:PySem.W.findIn K (.ref u3) "__getattr__" = some none)
  (xc3:PySem.W.mroIn K u3 (.type "BaseException")=some true)
  (xd3:PySem.W.findIn K (.ref u3) "__class__" = some (some (.builtin "object.__class__")))
  (xo3:PySem.W.mroIn K u3 (.type "object")=some true)
  (xm3:PySem.W.mroIn K u3 (.ref cG)=some true)
  (xv3:PySem.W.kitOne K (.ref u3) (.type "ValueError")=some true)
  (xk3_0:PySem.W.kitOne K (.ref u3) (.ref u0)=some false)
  (xk3_1:PySem.W.kitOne K (.ref u3) (.ref u1)=some false)
  (xk3_2:PySem.W.kitOne K (.ref u3) (.ref u2)=some false)
  (xk3_3:PySem.W.kitOne K (.ref u3) (.ref u3)=some true)
  (xk3_4:PySem.W.kitOne K (.ref u3) (.ref u4)=some false)
  (xk3_5:PySem.W.kitOne K (.ref u3) (.ref u5)=some false)
  (xk3_6:PySem.W.kitOne K (.ref u3) (.ref u6)=some false)
  (xk3_7:PySem.W.kitOne K (.ref u3) (.ref u7)=some false)
  (xa4:PySem.W.findIn K (.ref u4) "__getattribute__" = some (some (.builtin "BaseException.__getattribute__")))
  (xb4:PySem.W.findIn K (.ref u4) "__getattr__" = some none)
  (xc4:PySem.W.mroIn K u4 (.type "BaseException")=some true)
  (xd4:PySem.W.findIn K (.ref u4) "__class__" = some (some (.builtin "object.__class__")))
  (xo4:PySem.W.mroIn K u4 (.type "object")=some true)
  (xm4:PySem.W.mroIn K u4 (.ref cG)=some true)
  (xv4:PySem.W.kitOne K (.ref u4) (.type "ValueError")=some true)
  (xk4_0:PySem.W.kitOne K (.ref u4) (.ref u0)=some false)
  (xk4_1:PySem.W.kitOne K (.ref u4) (.ref u1)=some false)
  (xk4_2:PySem.W.kitOne K (.ref u4) (.ref u2)=some false)
  (xk4_3:PySem.W.kitOne K (.ref u4) (.ref u3)=some false)
  (xk4_4:PySem.W.kitOne K (.ref u4) (.ref u4)=some true)
  (xk4_5:PySem.W.kitOne K (.ref u4) (.ref u5)=some false)
  (xk4_6:PySem.W.kitOne K (.ref u4) (.ref u6)=some false)
  (xk4_7:PySem.W.kitOne K (.ref u4) (.ref u7)=some false)
  (i0:InitOk K u4 fI "spot" "self" ist)
  : ((∀ e ∈ D,DefOk K mg e)/\(∀ (nm:Str) (i:Int),C.cons.lookup nm=some i->∃ t,mg nm=some (.int i t))/\∀ nm ∈ bltNames,mg nm=none)/\(∀ e ∈ XD,DefOk K mg e)/\∃ G,XOk K mg Q G/\∃ A fI,SkOk K mg Q G "NoState" "spot" "self" A fI ist:=by
 refine ⟨⟨fun d hd=>?_,fun nm i hi=>?_,fun nm hn=>PySem.W.mg_none_of X G (z nm hn)⟩,fun d hd=>?_,cG,⟨PySem.W.mg_of X G xG,xE,xM,PySem.W.mg_none_of X G xV,fun c x hx=>?_,fun c x hx=>?_⟩,u4,fI,PySem.W.mg_of X G xg4,i0,⟨xa4,xb4,xc4,xd4,xo4⟩,xv4,xm4,⟨⟨_,PySem.W.mg_of X G xg0,xk4_0⟩,⟨_,PySem.W.mg_of X G xg1,xk4_1⟩,⟨_,PySem.W.mg_of X G xg2,xk4_2⟩,⟨_,PySem.W.mg_of X G xg3,xk4_3⟩,trivial⟩,⟨⟨_,PySem.W.mg_of X G xg4,xk4_4⟩,⟨_,PySem.W.mg_of X G xg5,xk4_5⟩,⟨_,PySem.W.mg_of X G xg6,xk4_6⟩,⟨_,PySem.W.mg_of X G xg7,xk4_7⟩,trivial⟩⟩
 ·unfold D at hd
  rcases List.mem_cons.mp hd with rfl | hd
  ·exact h0
  rcases List.mem_cons.mp hd with rfl | hd
  ·exact h1
  rcases List.mem_cons.mp hd with rfl | hd
  ·exact h2
  rcases List.mem_cons.mp hd with rfl | hd
  ·exact h3
  rcases List.mem_cons.mp hd with rfl | hd
  ·exact h4
  rcases List.mem_cons.mp hd with rfl | hd
  ·exact h5
  rcases List.mem_cons.mp hd with rfl | hd
  ·exact h6
  rcases List.mem_cons.mp hd with rfl | hd
  ·exact h7
  rcases List.mem_cons.mp hd with rfl | hd
  ·exact h8
  ·cases hd
 ·unfold C at hi
  rw[List.lookup_cons] at hi
  cases q0:nm == ("GREATEST_SIZE" : Str) with
  | true =>
   rw[q0] at hi;cases hi
   rw[beq_iff_eq.mp q0]
   exact ⟨t0,PySem.W.mg_of X G e0⟩
  | false =>
  rw[q0] at hi
  cases hi
 ·unfold XD at hd
  rcases List.mem_cons.mp hd with rfl | hd
  ·exact hx0
  rcases List.mem_cons.mp hd with rfl | hd
  ·exact hx1
  rcases List.mem_cons.mp hd with rfl | hd
  ·exact hx2
  rcases List.mem_cons.mp hd with rfl | hd
  ·exact hx3
  rcases List.mem_cons.mp hd with rfl | hd
  ·exact hx4
  rcases List.mem_cons.mp hd with rfl | hd
  ·exact hx5
  rcases List.mem_cons.mp hd with rfl | hd
  ·exact hx6
  ·cases hd
 ·have hx':(["NoName", "NoRoad", "NoSize", "NoSquare", "NoState", "NoText", "NoTurn", "Unlike"]:List Str)[c]?=some x:=hx
  match c,hx' with
  | 0,h=>cases h;exact ⟨u0,PySem.W.mg_of X G xg0⟩
  | 1,h=>cases h;exact ⟨u1,PySem.W.mg_of X G xg1⟩
  | 2,h=>cases h;exact ⟨u2,PySem.W.mg_of X G xg2⟩
  | 3,h=>cases h;exact ⟨u3,PySem.W.mg_of X G xg3⟩
  | 4,h=>cases h;exact ⟨u4,PySem.W.mg_of X G xg4⟩
  | 5,h=>cases h;exact ⟨u5,PySem.W.mg_of X G xg5⟩
  | 6,h=>cases h;exact ⟨u6,PySem.W.mg_of X G xg6⟩
  | 7,h=>cases h;exact ⟨u7,PySem.W.mg_of X G xg7⟩
  | _+8,h=>cases h
 ·have hx':(["NoName", "NoRoad", "NoSize", "NoSquare"]:List Str)[c]?=some x:=hx
  match c,hx' with
  | 0,h =>
   cases h
   refine ⟨u0,PySem.W.mg_of X G xg0,xe0,⟨xa0,xb0,xc0,xd0,xo0⟩,xm0,xv0,fun c' x' A' h1 h2=>?_⟩
   have h3:(["NoName", "NoRoad", "NoSize", "NoSquare", "NoState", "NoText", "NoTurn", "Unlike"]:List Str)[c']?=some x':=h1
   match c',h3 with
   | 0,h3=>cases h3;rw[PySem.W.mg_of X G xg0] at h2;cases h2;exact xk0_0
   | 1,h3=>cases h3;rw[PySem.W.mg_of X G xg1] at h2;cases h2;exact xk0_1
   | 2,h3=>cases h3;rw[PySem.W.mg_of X G xg2] at h2;cases h2;exact xk0_2
   | 3,h3=>cases h3;rw[PySem.W.mg_of X G xg3] at h2;cases h2;exact xk0_3
   | 4,h3=>cases h3;rw[PySem.W.mg_of X G xg4] at h2;cases h2;exact xk0_4
   | 5,h3=>cases h3;rw[PySem.W.mg_of X G xg5] at h2;cases h2;exact xk0_5
   | 6,h3=>cases h3;rw[PySem.W.mg_of X G xg6] at h2;cases h2;exact xk0_6
   | 7,h3=>cases h3;rw[PySem.W.mg_of X G xg7] at h2;cases h2;exact xk0_7
   | _+8,h3=>cases h3
  | 1,h =>
   cases h
   refine ⟨u1,PySem.W.mg_of X G xg1,xe1,⟨xa1,xb1,xc1,xd1,xo1⟩,xm1,xv1,fun c' x' A' h1 h2=>?_⟩
   have h3:(["NoName", "NoRoad", "NoSize", "NoSquare", "NoState", "NoText", "NoTurn", "Unlike"]:List Str)[c']?=some x':=h1
   match c',h3 with
   | 0,h3=>cases h3;rw[PySem.W.mg_of X G xg0] at h2;cases h2;exact xk1_0
   | 1,h3=>cases h3;rw[PySem.W.mg_of X G xg1] at h2;cases h2;exact xk1_1
   | 2,h3=>cases h3;rw[PySem.W.mg_of X G xg2] at h2;cases h2;exact xk1_2
   | 3,h3=>cases h3;rw[PySem.W.mg_of X G xg3] at h2;cases h2;exact xk1_3
   | 4,h3=>cases h3;rw[PySem.W.mg_of X G xg4] at h2;cases h2;exact xk1_4
   | 5,h3=>cases h3;rw[PySem.W.mg_of X G xg5] at h2;cases h2;exact xk1_5
   | 6,h3=>cases h3;rw[PySem.W.mg_of X G xg6] at h2;cases h2;exact xk1_6
   | 7,h3=>cases h3;rw[PySem.W.mg_of X G xg7] at h2;cases h2;exact xk1_7
   | _+8,h3=>cases h3
  | 2,h =>
   cases h
   refine ⟨u2,PySem.W.mg_of X G xg2,xe2,⟨xa2,xb2,xc2,xd2,xo2⟩,xm2,xv2,fun c' x' A' h1 h2=>?_⟩
   have h3:(["NoName", "NoRoad", "NoSize", "NoSquare", "NoState", "NoText", "NoTurn", "Unlike"]:List Str)[c']?=some x':=h1
   match c',h3 with
   | 0,h3=>cases h3;rw[PySem.W.mg_of X G xg0] at h2;cases h2;exact xk2_0
   | 1,h3=>cases h3;rw[PySem.W.mg_of X G xg1] at h2;cases h2;exact xk2_1
   | 2,h3=>cases h3;rw[PySem.W.mg_of X G xg2] at h2;cases h2;exact xk2_2
   | 3,h3=>cases h3;rw[PySem.W.mg_of X G xg3] at h2;cases h2;exact xk2_3
   | 4,h3=>cases h3;rw[PySem.W.mg_of X G xg4] at h2;cases h2;exact xk2_4
   | 5,h3=>cases h3;rw[PySem.W.mg_of X G xg5] at h2;cases h2;exact xk2_5
   | 6,h3=>cases h3;rw[PySem.W.mg_of X G xg6] at h2;cases h2;exact xk2_6
   | 7,h3=>cases h3;rw[PySem.W.mg_of X G xg7] at h2;cases h2;exact xk2_7
   | _+8,h3=>cases h3
  | 3,h =>
   cases h
   refine ⟨u3,PySem.W.mg_of X G xg3,xe3,⟨xa3,xb3,xc3,xd3,xo3⟩,xm3,xv3,fun c' x' A' h1 h2=>?_⟩
   have h3:(["NoName", "NoRoad", "NoSize", "NoSquare", "NoState", "NoText", "NoTurn", "Unlike"]:List Str)[c']?=some x':=h1
   match c',h3 with
   | 0,h3=>cases h3;rw[PySem.W.mg_of X G xg0] at h2;cases h2;exact xk3_0
   | 1,h3=>cases h3;rw[PySem.W.mg_of X G xg1] at h2;cases h2;exact xk3_1
   | 2,h3=>cases h3;rw[PySem.W.mg_of X G xg2] at h2;cases h2;exact xk3_2
   | 3,h3=>cases h3;rw[PySem.W.mg_of X G xg3] at h2;cases h2;exact xk3_3
   | 4,h3=>cases h3;rw[PySem.W.mg_of X G xg4] at h2;cases h2;exact xk3_4
   | 5,h3=>cases h3;rw[PySem.W.mg_of X G xg5] at h2;cases h2;exact xk3_5
   | 6,h3=>cases h3;rw[PySem.W.mg_of X G xg6] at h2;cases h2;exact xk3_6
   | 7,h3=>cases h3;rw[PySem.W.mg_of X G xg7] at h2;cases h2;exact xk3_7
   | _+8,h3=>cases h3
  | _+4,h=>cases h
end R03
namespace Mini
namespace Vl
set_option genInjectivity false in
inductive Dat where
 | non | bl (b:Bool) | int (i:Int) | str (s:List Nat) | tup (xs:List Dat) | lst (xs:List Dat) | scr (ns:List Int)
deriving Inhabited
inductive Lv where | no | top | full
deriving DecidableEq,Inhabited
abbrev DEn:=List (Option Dat)
inductive Rd where | ok (d:Dat) | exc (c:Nat) (d:Dat) | no
deriving Inhabited
noncomputable def Rd.bind (r:Rd) (f:Dat->Rd):Rd:=match r with
 | .ok d=>f d
 | .exc c d=>.exc c d
 | .no=>.no
mutual
noncomputable def flat:Dat->Bool
 | .lst _=>false
 | .tup xs=>flatL xs
 | .non=>true
 | .bl _=>true
 | .int _=>true
 | .str _=>true
 | .scr _=>true
noncomputable def flatL:List Dat->Bool
 | []=>true
 | d::ds=>flat d && flatL ds
end
mutual
noncomputable def eqOk:Nat->Dat->Bool
 | 0,_=>false
 | _+1,.scr _=>false
 | k+1,.tup xs=>eqOkL k xs
 | k+1,.lst xs=>eqOkL k xs
 | _+1,.non=>true
 | _+1,.bl _=>true
 | _+1,.int _=>true
 | _+1,.str _=>true
noncomputable def eqOkL:Nat->List Dat->Bool
 | _,[]=>true
 | k,d::ds=>eqOk k d && eqOkL k ds
end
mutual
noncomputable def deq:Dat->Dat->Bool
 | .tup a,.tup b=>deqL a b
 | .lst a,.lst b=>deqL a b
 | .non,.non=>true
 | .bl a,.bl b=>a == b
 | .int a,.int b=>decide (a=b)
 | .bl a,.int b=>decide (b2i a=b)
 | .int a,.bl b=>decide (a=b2i b)
 | .str a,.str b=>decide (a=b)
 | _,_=>false
noncomputable def deqL:List Dat->List Dat->Bool
 | [],[]=>true
 | x::xs,y::ys=>deq x y && deqL xs ys
 | _,_=>false
end
noncomputable def seqD:Dat->Option (List Dat)
 | .tup xs=>some xs
 | .lst xs=>some xs
 | .scr ns=>some (ns.map .int)
 | _=>none
noncomputable def lsD:Dat->Option (List Dat)
 | .lst xs=>some xs
 | .scr ns=>some (ns.map .int)
 | _=>none
noncomputable def newD (xs:List Dat):Rd:=if xs.length<=lim then .ok (.lst xs) else .no
noncomputable def bopD (op:Bo) (x y:Dat):Rd:=match x,y with
 | .int i,.int j=>match op with
  | .add=>.ok (.int (i+j))
  | .sub=>.ok (.int (i - j))
  | .mul=>if small i || small j then .ok (.int (i * j)) else .no
  | .fdiv=>if 0 < j/\j < 1073741824 then .ok (.int (i / j)) else .no
  | .mod=>if 0 < j then .ok (.int (i % j)) else .no
  | .pow=>if 0<=j/\j<=1000000/\small i=true then .ok (.int (i ^ j.toNat)) else .no
 | .lst xs,.lst ys=>match op with
  | .add=>newD (xs++ys)
  | _=>.no
 | .lst xs,.int k=>match op with
  | .mul=>if -lim<=k/\k<=lim then newD (List.replicate k.toNat xs).flatten else .no
  | _=>.no
 | .tup xs,.tup ys=>match op with
  | .add=>if xs.length+ys.length<=lim/\xs.isEmpty=false then .ok (.tup (xs++ys)) else .no
  | _=>.no
 | _,_=>.no
noncomputable def eqD (x y:Dat):Option Bool:=if eqOk deep x && eqOk deep y then some (deq x y) else none
noncomputable def inD (x:Dat) (ys:List Dat):Option Bool:=if eqOk deep x && eqOkL deep ys then some (ys.any fun y=>deq y x) else none
noncomputable def ofBD:Option Bool->Rd
 | some b=>.ok (.bl b)
 | none=>.no
noncomputable def cmpD (r:Int->Int->Bool) (x y:Dat):Rd:=match x,y with
 | .int i,.int j=>.ok (.bl (r i j))
 | _,_=>.no
noncomputable def copD (op:Co) (x y:Dat):Rd:=match op with
 | .eq=>ofBD (eqD x y)
 | .ne=>ofBD ((eqD x y).map (!·))
 | .isN=>match y,x with
  | .non,.non=>.ok (.bl true)
  | .non,_=>.ok (.bl false)
  | _,_=>.no
 | .notN=>match y,x with
  | .non,.non=>.ok (.bl false)
  | .non,_=>.ok (.bl true)
  | _,_=>.no
 | .isin=>match seqD y with
  | some ys=>ofBD (inD x ys)
  | none=>.no
 | .notin=>match seqD y with
  | some ys=>ofBD ((inD x ys).map (!·))
  | none=>.no
 | .lt=>cmpD (fun i j=>decide (i < j)) x y
 | .le=>cmpD (fun i j=>decide (i<=j)) x y
 | .gt=>cmpD (fun i j=>decide (j < i)) x y
 | .ge=>cmpD (fun i j=>decide (j<=i)) x y
noncomputable def isD (t:Tg) (x:Dat):Bool:=match t with
 | .int=>match x with
  | .int _=>true
  | .bl _=>true
  | _=>false
 | .bool=>match x with
  | .bl _=>true
  | _=>false
 | .str=>match x with
  | .str _=>true
  | _=>false
 | .tuple=>match x with
  | .tup _=>true
  | _=>false
 | .list=>match x with
  | .scr _=>true
  | .lst _=>true
  | _=>false
 | .dict=>false
noncomputable def sumD:List Dat->Option Int
 | []=>some 0
 | .int i::r=>(sumD r).map (i+·)
 | _=>none
noncomputable def allD:List Dat->Option Bool
 | []=>some true
 | .bl b::r=>(allD r).map (b && ·)
 | _=>none
noncomputable def bltD (b:Blf) (ws:List Dat):Rd:=match b with
 | .len=>match ws with
  | [x]=>match seqD x with
   | some xs=>.ok (.int xs.length)
   | none=>.no
  | _=>.no
 | .int=>match ws with
  | [.int i]=>.ok (.int i)
  | [.bl b]=>.ok (.int (b2i b))
  | _=>.no
 | .list=>match ws with
  | [x]=>match seqD x with
   | some xs=>newD xs
   | none=>.no
  | _=>.no
 | .tuple=>match ws with
  | [x]=>match seqD x with
   | some xs=>.ok (.tup xs)
   | none=>.no
  | _=>.no
 | .sum=>match ws with
  | [x]=>match (lsD x).bind sumD with
   | some i=>.ok (.int i)
   | none=>.no
  | _=>.no
 | .all=>match ws with
  | [x]=>match (lsD x).bind allD with
   | some i=>.ok (.bl i)
   | none=>.no
  | _=>.no
 | .abs=>match ws with
  | [.int i]=>.ok (.int (if i < 0 then -i else i))
  | _=>.no
 | .max2=>match ws with
  | [.int i,.int j]=>.ok (.int (if j > i then j else i))
  | _=>.no
 | .min2=>match ws with
  | [.int i,.int j]=>.ok (.int (if j < i then j else i))
  | _=>.no
 | _=>.no
noncomputable def idxD (x y:Dat):Rd:=match y with
 | .int i=>match seqD x with
  | some xs=>match (ix xs.length i).bind fun j=>xs[j]? with
   | some v=>.ok v
   | none=>.no
  | none=>.no
 | _=>.no
noncomputable def slD (x:Dat) (lo hi:Option Int):Rd:=match lsD x with
 | some xs=>newD ((xs.drop (sIx xs.length 0 lo)).take (sIx xs.length xs.length hi - sIx xs.length 0 lo))
 | none=>.no
noncomputable def rngF (lo st:Int) (n:Nat):List Dat:=(List.range n).map fun (i:Nat)=>.int (lo+st * (i:Int))
noncomputable def rngD (a b c:Dat):Rd:=match a,b,c with
 | .int a,.int b,.int c=>if -lim<=a/\a<=lim/\-lim<=b/\b<=lim/\(c=1\/c=-1) then .ok (.tup (rngF a c (rngN a b c))) else .no
 | _,_,_=>.no
noncomputable def compD {α:Type}(c e:α->Rd):List α->List Dat->Rd
 | [],acc=>newD acc
 | x::xs,acc=>(c x).bind fun b=>match b with
  | .bl true=>(e x).bind fun y=>if acc.length < lim then compD c e xs (acc++[y]) else .no
  | .bl false=>compD c e xs acc
  | _=>.no
noncomputable def itD (d:Dat):Option (List Dat):=match d with
 | .tup xs=>some xs
 | .scr ns=>some (ns.map .int)
 | .lst xs=>if xs.length<=lim then some xs else none
 | _=>none
noncomputable def argsD:Dat->List Dat
 | .tup xs=>xs
 | _=>[]
noncomputable def litD:Wd->Option Dat
 | .non=>some .non
 | .bl b=>some (.bl b)
 | .int i=>some (.int i)
 | .str s=>some (.str s)
 | _=>none
noncomputable def evD (cl:Nat->List Dat->Rd):Ex->DEn->Rd
 | .var i,de=>match de[i]? with
  | some (some d)=>.ok d
  | _=>.no
 | .lit w,_=>match litD w with
  | some d=>.ok d
  | none=>.no
 | .bin op a b,de=>(evD cl a de).bind fun x=>(evD cl b de).bind fun y=>bopD op x y
 | .neg a,de=>(evD cl a de).bind fun x=>match x with
  | .int i=>.ok (.int (-i))
  | _=>.no
 | .not a,de=>(evD cl a de).bind fun x=>match x with
  | .bl b=>.ok (.bl (!b))
  | _=>.no
 | .and a b,de=>(evD cl a de).bind fun x=>match x with
  | .bl true=>evD cl b de
  | .bl false=>.ok (.bl false)
  | _=>.no
 | .or a b,de=>(evD cl a de).bind fun x=>match x with
  | .bl false=>evD cl b de
  | .bl true=>.ok (.bl true)
  | _=>.no
 | .cmp op a b,de=>(evD cl a de).bind fun x=>(evD cl b de).bind fun y=>copD op x y
 | .chain p q a b c,de=>(evD cl a de).bind fun x=>(evD cl b de).bind fun y=>(copD p x y).bind fun z=>match z with
  | .bl true=>(evD cl c de).bind fun u=>copD q y u
  | .bl false=>.ok (.bl false)
  | _=>.no
 | .ife c a b,de=>(evD cl c de).bind fun x=>match x with
  | .bl true=>evD cl a de
  | .bl false=>evD cl b de
  | _=>.no
 | .unit,_=>.ok (.tup [])
 | .pair a b,de=>(evD cl a de).bind fun x=>(evD cl b de).bind fun y=>.ok (.tup (x::argsD y))
 | .call k a,de=>(evD cl a de).bind fun x=>cl k (argsD x)
 | .blt b a,de=>(evD cl a de).bind fun x=>bltD b (argsD x)
 | .isi t a,de=>(evD cl a de).bind fun x=>.ok (.bl (isD t x))
 | .lst a,de=>(evD cl a de).bind fun x=>newD (argsD x)
 | .tup a,de=>(evD cl a de).bind fun x=>if (argsD x).length<=lim then .ok (.tup (argsD x)) else .no
 | .dict0,_=>.no
 | .idx a b,de=>(evD cl a de).bind fun x=>(evD cl b de).bind fun y=>idxD x y
 | .slL a lo,de=>(evD cl a de).bind fun x=>(evD cl lo de).bind fun y=>match y with
  | .int i=>slD x (some i) none
  | _=>.no
 | .slH a hi,de=>(evD cl a de).bind fun x=>(evD cl hi de).bind fun y=>match y with
  | .int i=>slD x none (some i)
  | _=>.no
 | .slB a lo hi,de=>(evD cl a de).bind fun x=>(evD cl lo de).bind fun y=>match y with
  | .int i=>(evD cl hi de).bind fun z=>match z with
   | .int j=>slD x (some i) (some j)
   | _=>.no
  | _=>.no
 | .meth _ _ _,_=>.no
 | .rng a b c,de=>(evD cl a de).bind fun x=>(evD cl b de).bind fun y=>(evD cl c de).bind fun z=>rngD x y z
 | .comp elt it cond,de=>(evD cl it de).bind fun x=>match itD x with
  | some xs=>compD (fun x=>evD cl cond (de++[some x])) (fun x=>evD cl elt (de++[some x])) xs []
  | none=>.no
 | .compP _ _ _ _ _,_=>.no
 | .lrng a,de=>(evD cl a de).bind fun x=>match x with
  | .int j=>if -lim<=j/\j<=lim then newD (rngF 0 1 j.toNat) else .no
  | _=>.no
theorem evE_some {cl:Nat->List Wd->Me->Rz}{i:Nat}{env:En}{w:Wd}(h:env[i]?=some (some w)) (m:Me):evE cl (.var i) env m=.ok w m:=by
 show (match env[i]? with | some (some w)=>Rz.ok w m | _=>.no)=_
 rw[h]
theorem evD_some {cl:Nat->List Dat->Rd}{i:Nat}{de:DEn}{d:Dat}(h:de[i]?=some (some d)):evD cl (.var i) de=.ok d:=by
 show (match de[i]? with | some (some d)=>Rd.ok d | _=>.no)=_
 rw[h]
theorem evD_none {cl:Nat->List Dat->Rd}{i:Nat}{de:DEn}(h:de[i]?=none\/de[i]?=some none):evD cl (.var i) de=.no:=by
 show (match de[i]? with | some (some d)=>Rd.ok d | _=>.no)=_
 rcases h with h | h <;> rw[h]
theorem evD_inv {cl:Nat->List Dat->Rd}{i:Nat}{de:DEn}{d:Dat}(h:evD cl (.var i) de=.ok d):de[i]?=some (some d):=by
 cases z:de[i]? with
 | none=>rw[evD_none (.inl z)] at h;cases h
 | some o =>
  cases o with
  | none=>rw[evD_none (.inr z)] at h;cases h
  | some e=>rw[evD_some z] at h;cases h;rfl
mutual
noncomputable def Rep (R:Nat->Prop) (m:Me):Dat->Wd->Prop
 | .non,w=>w=.non
 | .bl b,w=>w=.bl b
 | .int i,w=>w=.int i
 | .str s,w=>w=.str s
 | .scr ns,w=>w=.rol (ns.map Wd.int)
 | .tup ds,w=>∃ xs,w=.tup xs/\RepL R m ds xs
 | .lst ds,w=>∃ l xs,w=.ref l/\R l/\m[l]?=some (.lst xs)/\RepL R m ds xs
noncomputable def RepL (R:Nat->Prop) (m:Me):List Dat->List Wd->Prop
 | [],xs=>xs=[]
 | d::ds,xs=>∃ x r,xs=x::r/\Rep R m d x/\RepL R m ds r
end
def Le (m m':Me):Prop:=∀ (l:Nat) o,m[l]?=some o->m'[l]?=some o
theorem Le.refl (m:Me):Le m m:=fun _ _ h=>h
theorem Le.trans {a b c:Me}(h:Le a b) (k:Le b c):Le a c:=fun l o z=>k l o (h l o z)
theorem Le.app (m x:Me):Le m (m++x):=fun l o z=>by
 obtain ⟨hl,_⟩:=List.getElem?_eq_some_iff.mp z
 rw[List.getElem?_append_left hl];exact z
theorem Le.len {a b:Me}(h:Le a b):a.length<=b.length:=by
 rcases Nat.lt_or_ge b.length a.length with z | z
 ·have:=h b.length a[b.length] (List.getElem?_eq_getElem z)
  have:=(List.getElem?_eq_some_iff.mp this).1
  lia
 ·exact z
def Rf (R:Nat->Prop) (n:Nat):Nat->Prop:=fun l=>R l\/n<=l
mutual
theorem Rep.frame {R R':Nat->Prop}{m m':Me}(h:∀ (l:Nat) o,R l->m[l]?=some o->R' l/\m'[l]?=some o):∀ (d:Dat) (w:Wd),Rep R m d w->Rep R' m' d w
 | .non,w,q=>by unfold Rep at q ⊢;exact q
 | .bl b,w,q=>by unfold Rep at q ⊢;exact q
 | .int b,w,q=>by unfold Rep at q ⊢;exact q
 | .str b,w,q=>by unfold Rep at q ⊢;exact q
 | .scr b,w,q=>by unfold Rep at q ⊢;exact q
 | .tup ds,w,q=>by
  unfold Rep at q ⊢
  obtain ⟨xs,rfl,q⟩:=q
  exact ⟨xs,rfl,RepL.frame h ds xs q⟩
 | .lst ds,w,q=>by
  unfold Rep at q ⊢
  obtain ⟨l,xs,rfl,r,z,q⟩:=q
  exact ⟨l,xs,rfl,(h l _ r z).1,(h l _ r z).2,RepL.frame h ds xs q⟩
theorem RepL.frame {R R':Nat->Prop}{m m':Me}(h:∀ (l:Nat) o,R l->m[l]?=some o->R' l/\m'[l]?=some o):∀ (ds:List Dat) (xs:List Wd),RepL R m ds xs->RepL R' m' ds xs
 | [],xs,q=>by unfold RepL at q ⊢;exact q
 | d::ds,xs,q=>by
  unfold RepL at q ⊢
  obtain ⟨x,r,rfl,a,b⟩:=q
  exact ⟨x,r,rfl,Rep.frame h d x a,RepL.frame h ds r b⟩
end
theorem Rep.up {R:Nat->Prop}{m m':Me}{d:Dat}{w:Wd}(n:Nat) (h:Le m m') (q:Rep R m d w):Rep (Rf R n) m' d w :=
 Rep.frame (fun l o r z=>⟨.inl r,h l o z⟩) d w q
theorem RepL.up {R:Nat->Prop}{m m':Me}{d:List Dat}{w:List Wd}(n:Nat) (h:Le m m') (q:RepL R m d w):RepL (Rf R n) m' d w :=
 RepL.frame (fun l o r z=>⟨.inl r,h l o z⟩) d w q
theorem repL_iff {R:Nat->Prop}{m:Me}:∀ {ds:List Dat}{xs:List Wd},RepL R m ds xs ↔ ds.length=xs.length/\∀ (i:Nat) d x,ds[i]?=some d->xs[i]?=some x->Rep R m d x
 | [],xs=>by
  unfold RepL
  constructor
  ·rintro rfl;exact ⟨rfl,by simp⟩
  ·rintro ⟨h,_⟩;exact List.eq_nil_of_length_eq_zero h.symm
 | d::ds,xs=>by
  unfold RepL
  constructor
  ·rintro ⟨x,r,rfl,a,b⟩
   obtain ⟨hl,hb⟩:=repL_iff.mp b
   refine ⟨by simp[hl],fun i e y h1 h2=>?_⟩
   cases i with
   | zero=>simp at h1 h2;subst h1;subst h2;exact a
   | succ i=>simp at h1 h2;exact hb i e y h1 h2
  ·rintro ⟨hl,h⟩
   cases xs with
   | nil=>cases hl
   | cons x r =>
    refine ⟨x,r,rfl,h 0 d x rfl rfl,repL_iff.mpr ⟨by simpa using hl,fun i e y h1 h2=>h (i+1) e y (by simpa using h1) (by simpa using h2)⟩⟩
theorem RepL.len {R:Nat->Prop}{m:Me}{ds:List Dat}{xs:List Wd}(h:RepL R m ds xs):ds.length=xs.length:=(repL_iff.mp h).1
theorem RepL.get {R:Nat->Prop}{m:Me}{ds:List Dat}{xs:List Wd}(h:RepL R m ds xs) {i:Nat}{d:Dat}(z:ds[i]?=some d):∃ x,xs[i]?=some x/\Rep R m d x:=by
 obtain ⟨hl,h⟩:=repL_iff.mp h
 obtain ⟨hi,_⟩:=List.getElem?_eq_some_iff.mp z
 exact ⟨xs[i],List.getElem?_eq_getElem (by lia),h i d _ z (List.getElem?_eq_getElem (by lia))⟩
theorem RepL.nil {R:Nat->Prop}{m:Me}:RepL R m [] []:=by unfold RepL;rfl
theorem RepL.cons {R:Nat->Prop}{m:Me}{d:Dat}{x:Wd}{ds:List Dat}{xs:List Wd}(a:Rep R m d x) (b:RepL R m ds xs):RepL R m (d::ds) (x::xs):=by
 unfold RepL;exact ⟨x,xs,rfl,a,b⟩
theorem RepL.cons_inv {R:Nat->Prop}{m:Me}{d:Dat}{ds:List Dat}{xs:List Wd}(h:RepL R m (d::ds) xs):∃ x r,xs=x::r/\Rep R m d x/\RepL R m ds r:=by
 unfold RepL at h;exact h
theorem RepL.nil_inv {R:Nat->Prop}{m:Me}{xs:List Wd}(h:RepL R m [] xs):xs=[]:=by unfold RepL at h;exact h
theorem RepL.app {R:Nat->Prop}{m:Me}:∀ {ds es:List Dat}{xs ys:List Wd},RepL R m ds xs->RepL R m es ys->RepL R m (ds++es) (xs++ys)
 | [],es,xs,ys,a,b=>by rw[a.nil_inv];exact b
 | d::ds,es,xs,ys,a,b=>by
  obtain ⟨x,r,rfl,p,q⟩:=a.cons_inv
  exact .cons p (RepL.app q b)
theorem RepL.drop {R:Nat->Prop}{m:Me}(n:Nat) {ds:List Dat}{xs:List Wd}(h:RepL R m ds xs):RepL R m (ds.drop n) (xs.drop n):=by
 obtain ⟨hl,h⟩:=repL_iff.mp h
 refine repL_iff.mpr ⟨by simp[hl],fun i d x a b=>h (n+i) d x (by simpa using a) (by simpa using b)⟩
theorem RepL.take {R:Nat->Prop}{m:Me}(n:Nat) {ds:List Dat}{xs:List Wd}(h:RepL R m ds xs):RepL R m (ds.take n) (xs.take n):=by
 obtain ⟨hl,h⟩:=repL_iff.mp h
 refine repL_iff.mpr ⟨by simp[hl],fun i d x a b=>?_⟩
 rw[List.getElem?_take] at a b
 split at a
 ·next z=>rw[if_pos z] at b;exact h i d x a b
 ·cases a
theorem RepL.rev {R:Nat->Prop}{m:Me}:∀ {ds:List Dat}{xs:List Wd},RepL R m ds xs->RepL R m ds.reverse xs.reverse
 | [],xs,a=>by rw[a.nil_inv];exact .nil
 | d::ds,xs,a=>by
  obtain ⟨x,r,rfl,p,q⟩:=a.cons_inv
  rw[List.reverse_cons,List.reverse_cons]
  exact RepL.app (RepL.rev q) (.cons p .nil)
theorem RepL.rep {R:Nat->Prop}{m:Me}{ds:List Dat}{xs:List Wd}(h:RepL R m ds xs):∀ k:Nat,RepL R m (List.replicate k ds).flatten (List.replicate k xs).flatten
 | 0=>.nil
 | k+1=>by
  rw[List.replicate_succ,List.replicate_succ,List.flatten_cons,List.flatten_cons]
  exact RepL.app h (RepL.rep h k)
theorem RepL.ints {R:Nat->Prop}{m:Me}:∀ (l:List Int),RepL R m (l.map Dat.int) (l.map Wd.int)
 | []=>.nil
 | i::l=>.cons (by unfold Rep;rfl) (RepL.ints l)
theorem rep_int {R:Nat->Prop}{m:Me}{i:Int}{w:Wd}:Rep R m (.int i) w ↔ w=.int i:=by unfold Rep;exact Iff.rfl
theorem rep_bl {R:Nat->Prop}{m:Me}{i:Bool}{w:Wd}:Rep R m (.bl i) w ↔ w=.bl i:=by unfold Rep;exact Iff.rfl
theorem rep_non {R:Nat->Prop}{m:Me}{w:Wd}:Rep R m .non w ↔ w=.non:=by unfold Rep;exact Iff.rfl
theorem rep_str {R:Nat->Prop}{m:Me}{s:List Nat}{w:Wd}:Rep R m (.str s) w ↔ w=.str s:=by unfold Rep;exact Iff.rfl
theorem rep_scr {R:Nat->Prop}{m:Me}{s:List Int}{w:Wd}:Rep R m (.scr s) w ↔ w=.rol (s.map Wd.int):=by unfold Rep;exact Iff.rfl
theorem rep_tup {R:Nat->Prop}{m:Me}{ds:List Dat}{w:Wd}:Rep R m (.tup ds) w ↔ ∃ xs,w=.tup xs/\RepL R m ds xs:=by
 constructor
 ·intro h;unfold Rep at h;exact h
 ·intro h;unfold Rep;exact h
theorem rep_lst {R:Nat->Prop}{m:Me}{ds:List Dat}{w:Wd}:Rep R m (.lst ds) w ↔ ∃ l xs,w=.ref l/\R l/\m[l]?=some (.lst xs)/\RepL R m ds xs:=by
 constructor
 ·intro h;unfold Rep at h;exact h
 ·intro h;unfold Rep;exact h
def SimE (R:Nat->Prop) (m:Me) (r:Rz) (rd:Rd):Prop:=match rd with
 | .ok d=>∃ w m',r=.ok w m'/\Le m m'/\Rep (Rf R m.length) m' d w
 | .exc c d=>∃ w m',r=.exc c w m'/\Le m m'/\Rep (Rf R m.length) m' d w
 | .no=>True
theorem SimE.lift {R:Nat->Prop}{m m1:Me}{r:Rz}{rd:Rd}(h:Le m m1) (q:SimE (Rf R m.length) m1 r rd):SimE R m r rd:=by
 have hl:=h.len
 have fr:∀ (m':Me) (d:Dat) (w:Wd),Rep (Rf (Rf R m.length) m1.length) m' d w->Rep (Rf R m.length) m' d w:=fun m' d w=>Rep.frame (fun l o z k=>⟨by rcases z with (z | z) | z;exact .inl z;exact .inr z;exact .inr (by lia),k⟩) d w
 cases rd with
 | ok d=>obtain ⟨w,m',rfl,k,z⟩:=q;exact ⟨w,m',rfl,h.trans k,fr _ _ _ z⟩
 | exc c d=>obtain ⟨w,m',rfl,k,z⟩:=q;exact ⟨w,m',rfl,h.trans k,fr _ _ _ z⟩
 | no=>trivial
theorem SimE.bind {R:Nat->Prop}{m:Me}{r:Rz}{rd:Rd}{f:Wd->Me->Rz}{g:Dat->Rd}(h:SimE R m r rd)
  (k:∀ d w m',Le m m'->Rep (Rf R m.length) m' d w->SimE (Rf R m.length) m' (f w m') (g d)):SimE R m (r.bind f) (rd.bind g):=by
 cases rd with
 | ok d=>obtain ⟨w,m',rfl,l,z⟩:=h;exact SimE.lift l (k d w m' l z)
 | exc c d=>obtain ⟨w,m',rfl,l,z⟩:=h;exact ⟨w,m',rfl,l,z⟩
 | no=>trivial
theorem SimE.here {R:Nat->Prop}{m:Me}{d:Dat}{w:Wd}(h:Rep R m d w):SimE R m (.ok w m) (.ok d) :=
 ⟨w,m,rfl,Le.refl m,h.up _ (Le.refl m)⟩
theorem SimE.no {R:Nat->Prop}{m:Me}{r:Rz}:SimE R m r .no:=trivial
theorem SimE.new {R:Nat->Prop}{m:Me}{ds:List Dat}{xs:List Wd}(h:RepL R m ds xs):SimE R m (alloc m xs) (newD ds):=by
 unfold newD alloc
 rw[h.len]
 by_cases z:xs.length<=lim
 ·rw[if_pos z,if_pos z]
  exact ⟨_,_,rfl,Le.app m _,rep_lst.mpr ⟨_,xs,rfl,.inr (Nat.le_refl _),by simp,h.up _ (Le.app m _)⟩⟩
 ·rw[if_neg z,if_neg z];exact SimE.no
theorem seq_sim {R:Nat->Prop}{m:Me}{d:Dat}{w:Wd}{ds:List Dat}(h:Rep R m d w) (z:seqD d=some ds):∃ xs,seqOf m w=some xs/\RepL R m ds xs:=by
 cases d with
 | tup es=>obtain ⟨xs,rfl,q⟩:=rep_tup.mp h;cases z;exact ⟨xs,rfl,q⟩
 | lst es =>
  obtain ⟨l,xs,rfl,_,e,q⟩:=rep_lst.mp h;cases z
  exact ⟨xs,by show lstAt m l=_;unfold lstAt;rw[e],q⟩
 | scr ns=>rw[rep_scr.mp h];cases z;exact ⟨_,rfl,RepL.ints ns⟩
 | _=>cases z
theorem ls_sim {R:Nat->Prop}{m:Me}{d:Dat}{w:Wd}{ds:List Dat}(h:Rep R m d w) (z:lsD d=some ds):∃ xs,lsOf m w=some xs/\RepL R m ds xs:=by
 cases d with
 | lst es =>
  obtain ⟨l,xs,rfl,_,e,q⟩:=rep_lst.mp h;cases z
  exact ⟨xs,by show lstAt m l=_;unfold lstAt;rw[e],q⟩
 | scr ns=>rw[rep_scr.mp h];cases z;exact ⟨_,rfl,RepL.ints ns⟩
 | _=>cases z
theorem ints_inj:∀ {a b:List Int},a.map Wd.int=b.map Wd.int->a=b
 | [],[],_=>rfl
 | [],_::_,h=>by cases h
 | _::_,[],h=>by cases h
 | x::a,y::b,h=>by
  simp only[List.map_cons,List.cons.injEq,Wd.int.injEq] at h
  rw[h.1,ints_inj h.2]
mutual
theorem Rep.det {R R':Nat->Prop}{m:Me}:∀ (d e:Dat) (w:Wd),Rep R m d w->Rep R' m e w->d=e
 | .non,e,w,q,z=>by rw[rep_non.mp q] at z;cases e <;> unfold Rep at z <;> first | rfl | (exfalso;simp at z)
 | .bl b,e,w,q,z=>by rw[rep_bl.mp q] at z;cases e <;> unfold Rep at z <;> first | (injection z with z;rw[z]) | (exfalso;simp at z)
 | .int b,e,w,q,z=>by rw[rep_int.mp q] at z;cases e <;> unfold Rep at z <;> first | (injection z with z;rw[z]) | (exfalso;simp at z)
 | .str b,e,w,q,z=>by rw[rep_str.mp q] at z;cases e <;> unfold Rep at z <;> first | (injection z with z;rw[z]) | (exfalso;simp at z)
 | .scr b,e,w,q,z=>by rw[rep_scr.mp q] at z;cases e <;> unfold Rep at z <;> first | (injection z with z;rw[ints_inj z]) | (exfalso;simp at z)
 | .tup ds,e,w,q,z=>by
  obtain ⟨xs,rfl,q1⟩:=rep_tup.mp q
  cases e with
  | tup es=>obtain ⟨ys,e,z1⟩:=rep_tup.mp z;cases e;rw[RepL.det ds es xs q1 z1]
  | _=>exfalso;unfold Rep at z;simp at z
 | .lst ds,e,w,q,z=>by
  obtain ⟨l,xs,rfl,_,hm,q1⟩:=rep_lst.mp q
  cases e with
  | lst es=>obtain ⟨l',ys,e,_,hn,z1⟩:=rep_lst.mp z;cases e;rw[hm] at hn;cases hn;rw[RepL.det ds es xs q1 z1]
  | _=>exfalso;unfold Rep at z;simp at z
theorem RepL.det {R R':Nat->Prop}{m:Me}:∀ (ds es:List Dat) (xs:List Wd),RepL R m ds xs->RepL R' m es xs->ds=es
 | [],es,xs,q,z=>by
  rw[q.nil_inv] at z
  cases es with
  | nil=>rfl
  | cons e es=>obtain ⟨_,_,h,_⟩:=z.cons_inv;cases h
 | d::ds,es,xs,q,z=>by
  obtain ⟨x,r,rfl,a,b⟩:=q.cons_inv
  cases es with
  | nil=>cases z.nil_inv
  | cons e es =>
   obtain ⟨_,_,h,a',b'⟩:=z.cons_inv
   cases h
   rw[Rep.det d e x a a',RepL.det ds es r b b']
end
theorem eqOk0 (d:Dat):eqOk 0 d=false:=by cases d <;> rfl
mutual
theorem deq_refl:∀ (k:Nat) (d:Dat),eqOk k d=true->deq d d=true
 | 0,d,h=>by rw[eqOk0] at h;cases h
 | k+1,.non,h=>rfl
 | k+1,.bl b,h=>by show (b == b)=true;simp
 | k+1,.int b,h=>by show decide (b=b)=true;simp
 | k+1,.str b,h=>by show decide (b=b)=true;simp
 | k+1,.scr b,h=>absurd (show false=true from h) (by decide)
 | k+1,.tup ds,h=>deqL_refl k ds h
 | k+1,.lst ds,h=>deqL_refl k ds h
theorem deqL_refl:∀ (k:Nat) (ds:List Dat),eqOkL k ds=true->deqL ds ds=true
 | k,[],h=>rfl
 | k,d::ds,h=>by
  replace h:(eqOk k d && eqOkL k ds)=true:=h
  show (deq d d && deqL ds ds)=true
  rw[Bool.and_eq_true] at h ⊢
  exact ⟨deq_refl k d h.1,deqL_refl k ds h.2⟩
end
theorem eqL_sim {R:Nat->Prop}{m:Me}{k:Nat}(ih:∀ (d e:Dat) (x y:Wd),eqOk k d=true->eqOk k e=true->Rep R m d x->Rep R m e y->eqW m k x y=some (deq d e)) :
  ∀ (ds es:List Dat) (xs ys:List Wd),eqOkL k ds=true->eqOkL k es=true->RepL R m ds xs->RepL R m es ys->∃ q,eqL (eqW m k) xs ys=some q/\(q && decide (xs.length=ys.length))=deqL ds es
 | [],es,xs,ys,h1,h2,a,b=>by
  rw[a.nil_inv]
  cases es with
  | nil=>rw[b.nil_inv];exact ⟨true,rfl,rfl⟩
  | cons e es=>obtain ⟨y,r,rfl,_,_⟩:=b.cons_inv;exact ⟨true,rfl,rfl⟩
 | d::ds,es,xs,ys,h1,h2,a,b=>by
  obtain ⟨x,r,rfl,p,q⟩:=a.cons_inv
  cases es with
  | nil=>rw[b.nil_inv];exact ⟨true,rfl,rfl⟩
  | cons e es =>
   obtain ⟨y,s,rfl,p',q'⟩:=b.cons_inv
   replace h1:(eqOk k d && eqOkL k ds)=true:=h1
   replace h2:(eqOk k e && eqOkL k es)=true:=h2
   rw[Bool.and_eq_true] at h1 h2
   obtain ⟨t,ht,hb⟩:=eqL_sim ih ds es r s h1.2 h2.2 q q'
   refine ⟨deq d e && t,?_,?_⟩
   ·unfold eqL
    rw[ih d e x y h1.1 h2.1 p p',ht]
    rfl
   ·show (deq d e && t && decide (r.length+1=s.length+1))=(deq d e && deqL ds es)
    simp only[<- hb,Nat.succ_inj,Bool.and_assoc]
theorem isLst_of {m:Me}{l:Nat}{xs:List Wd}(h:m[l]?=some (.lst xs)):isLst m l=true:=by unfold isLst;rw[h]
theorem ite_lst {m:Me}{l:Nat}{xs:List Wd}(h:m[l]?=some (.lst xs)):(if isLst m l && true then some false else none)=some false:=by rw[isLst_of h];rfl
theorem eq_sim {R:Nat->Prop}{m:Me}:∀ (k:Nat) (d e:Dat) (x y:Wd),eqOk k d=true->eqOk k e=true->Rep R m d x->Rep R m e y->eqW m k x y=some (deq d e)
 | 0,d,e,x,y,h,_,_,_=>by rw[eqOk0] at h;cases h
 | k+1,d,e,x,y,h1,h2,a,b=>by
  have ih:=eq_sim (R:=R) (m:=m) k
  cases d with
  | scr ns=>exact absurd (show false=true from h1) (by decide)
  | tup ds =>
   obtain ⟨xs,rfl,a1⟩:=rep_tup.mp a
   cases e with
   | scr ns=>exact absurd (show false=true from h2) (by decide)
   | tup es =>
    obtain ⟨ys,rfl,b1⟩:=rep_tup.mp b
    obtain ⟨q,h,e⟩:=eqL_sim ih ds es xs ys h1 h2 a1 b1
    show (eqL (eqW m k) xs ys).map (· && decide (xs.length=ys.length))=some (deqL ds es)
    rw[h,<- e];rfl
   | lst es =>
    obtain ⟨l,ys,rfl,_,hm,b⟩:=rep_lst.mp b
    exact ite_lst hm
   | non=>rw[rep_non.mp b];rfl
   | bl _=>rw[rep_bl.mp b];rfl
   | int _=>rw[rep_int.mp b];rfl
   | str _=>rw[rep_str.mp b];rfl
  | lst ds =>
   have a0:=a
   obtain ⟨l,xs,rfl,_,hm,a⟩:=rep_lst.mp a
   cases e with
   | scr ns=>exact absurd (show false=true from h2) (by decide)
   | lst es =>
    have b0:=b
    obtain ⟨l',ys,rfl,_,hn,b⟩:=rep_lst.mp b
    show (if l=l' then (if isLst m l then some true else none) else match m[l]?,m[l']? with
     | some (.lst xs),some (.lst ys)=>if xs.length=ys.length then eqL (eqW m k) xs ys else some false
     | _,_=>none)=_
    by_cases q:l=l'
    ·subst q
     rw[if_pos rfl,if_pos (isLst_of hm)]
     rw[Rep.det _ _ _ a0 b0] at *
     rw[deq_refl (k+1) _ h2]
    ·rw[if_neg q,hm,hn]
     obtain ⟨q,h,e⟩:=eqL_sim ih ds es xs ys h1 h2 a b
     show (if xs.length=ys.length then eqL (eqW m k) xs ys else some false)=some (deqL ds es)
     by_cases z:xs.length=ys.length
     ·simp only[z,if_true,h,<- e];simp
     ·simp only[z,if_false,<- e];simp
   | tup es=>obtain ⟨ys,rfl,b⟩:=rep_tup.mp b;exact ite_lst hm
   | non=>rw[rep_non.mp b];exact ite_lst hm
   | bl _=>rw[rep_bl.mp b];exact ite_lst hm
   | int _=>rw[rep_int.mp b];exact ite_lst hm
   | str _=>rw[rep_str.mp b];exact ite_lst hm
  | non =>
   rw[rep_non.mp a]
   cases e with
   | scr ns=>exact absurd (show false=true from h2) (by decide)
   | lst es=>obtain ⟨l',ys,rfl,_,hn,b⟩:=rep_lst.mp b;exact ite_lst hn
   | tup es=>obtain ⟨ys,rfl,b⟩:=rep_tup.mp b;rfl
   | non=>rw[rep_non.mp b];rfl
   | bl _=>rw[rep_bl.mp b];rfl
   | int _=>rw[rep_int.mp b];rfl
   | str _=>rw[rep_str.mp b];rfl
  | bl _ =>
   rw[rep_bl.mp a]
   cases e with
   | scr ns=>exact absurd (show false=true from h2) (by decide)
   | lst es=>obtain ⟨l',ys,rfl,_,hn,b⟩:=rep_lst.mp b;exact ite_lst hn
   | tup es=>obtain ⟨ys,rfl,b⟩:=rep_tup.mp b;rfl
   | non=>rw[rep_non.mp b];rfl
   | bl _=>rw[rep_bl.mp b];rfl
   | int _=>rw[rep_int.mp b];rfl
   | str _=>rw[rep_str.mp b];rfl
  | int _ =>
   rw[rep_int.mp a]
   cases e with
   | scr ns=>exact absurd (show false=true from h2) (by decide)
   | lst es=>obtain ⟨l',ys,rfl,_,hn,b⟩:=rep_lst.mp b;exact ite_lst hn
   | tup es=>obtain ⟨ys,rfl,b⟩:=rep_tup.mp b;rfl
   | non=>rw[rep_non.mp b];rfl
   | bl _=>rw[rep_bl.mp b];rfl
   | int _=>rw[rep_int.mp b];rfl
   | str _=>rw[rep_str.mp b];rfl
  | str _ =>
   rw[rep_str.mp a]
   cases e with
   | scr ns=>exact absurd (show false=true from h2) (by decide)
   | lst es=>obtain ⟨l',ys,rfl,_,hn,b⟩:=rep_lst.mp b;exact ite_lst hn
   | tup es=>obtain ⟨ys,rfl,b⟩:=rep_tup.mp b;rfl
   | non=>rw[rep_non.mp b];rfl
   | bl _=>rw[rep_bl.mp b];rfl
   | int _=>rw[rep_int.mp b];rfl
   | str _=>rw[rep_str.mp b];rfl
theorem eqD_sim {R:Nat->Prop}{m:Me}{d e:Dat}{x y:Wd}{q:Bool}(h:eqD d e=some q) (a:Rep R m d x) (b:Rep R m e y):eqW m deep x y=some q:=by
 unfold eqD at h
 split at h
 ·next z=>simp only[Bool.and_eq_true] at z;cases h;exact eq_sim deep d e x y z.1 z.2 a b
 ·cases h
theorem inL_sim {R:Nat->Prop}{m:Me}{d:Dat}{x:Wd}(h:eqOk deep d=true) (a:Rep R m d x):∀ (es:List Dat) (ys:List Wd),eqOkL deep es=true->RepL R m es ys->inL (eqW m deep) x ys=some (es.any fun e=>deq e d)
 | [],ys,_,b=>by rw[b.nil_inv];rfl
 | e::es,ys,z,b=>by
  obtain ⟨y,r,rfl,p,q⟩:=b.cons_inv
  replace z:(eqOk deep e && eqOkL deep es)=true:=z
  rw[Bool.and_eq_true] at z
  show (match eqW m deep y x with
   | some a=>(inL (eqW m deep) x r).map (a || ·)
   | none=>none)=_
  rw[eq_sim deep e d y x z.1 h p a,inL_sim h a es r z.2 q];rfl
theorem inD_sim {R:Nat->Prop}{m:Me}{d:Dat}{x:Wd}{es:List Dat}{ys:List Wd}{q:Bool}(h:inD d es=some q) (a:Rep R m d x) (b:RepL R m es ys):inL (eqW m deep) x ys=some q:=by
 unfold inD at h
 split at h
 ·next z=>simp only[Bool.and_eq_true] at z;cases h;exact inL_sim z.1 a es ys z.2 b
 ·cases h
theorem SimE.int {R:Nat->Prop}{m:Me}{i:Int}:SimE R m (.ok (.int i) m) (.ok (.int i)):=SimE.here (rep_int.mpr rfl)
theorem SimE.bl {R:Nat->Prop}{m:Me}{i:Bool}:SimE R m (.ok (.bl i) m) (.ok (.bl i)):=SimE.here (rep_bl.mpr rfl)
theorem bop_sim {R:Nat->Prop}{m:Me}{d e:Dat}{x y:Wd}(op:Bo) (a:Rep R m d x) (b:Rep R m e y):SimE R m (bop op x y m) (bopD op d e):=by
 cases d with
 | int i =>
  rw[rep_int.mp a]
  cases e with
  | int j =>
   rw[rep_int.mp b]
   cases op <;> simp only[bop,bopD]
   ·exact SimE.int
   ·exact SimE.int
   ·by_cases z:(small i || small j)=true
    ·rw[if_pos z,if_pos z];exact SimE.int
    ·rw[if_neg z,if_neg z];exact SimE.no
   ·by_cases z:0 < j/\j < 1073741824
    ·rw[if_pos z,if_pos z];exact SimE.int
    ·rw[if_neg z,if_neg z];exact SimE.no
   ·by_cases z:0 < j
    ·rw[if_pos z,if_pos z];exact SimE.int
    ·rw[if_neg z,if_neg z];exact SimE.no
   ·by_cases z:0<=j/\j<=1000000/\small i=true
    ·rw[if_pos z,if_pos z];exact SimE.int
    ·rw[if_neg z,if_neg z];exact SimE.no
  | _=>exact SimE.no
 | lst ds =>
  obtain ⟨l,xs,rfl,_,hm,a1⟩:=rep_lst.mp a
  cases e with
  | lst es =>
   obtain ⟨l',ys,rfl,_,hn,b1⟩:=rep_lst.mp b
   cases op <;> first | exact SimE.no | skip
   simp only[bop,bopD,hm,hn]
   exact SimE.new (a1.app b1)
  | int k =>
   rw[rep_int.mp b]
   cases op <;> first | exact SimE.no | skip
   simp only[bop,bopD,hm]
   by_cases z:-(lim:Int)<=k/\k<=(lim:Int)
   ·rw[if_pos z,if_pos z];exact SimE.new (a1.rep _)
   ·rw[if_neg z,if_neg z];exact SimE.no
  | _=>exact SimE.no
 | tup ds =>
  obtain ⟨xs,rfl,a1⟩:=rep_tup.mp a
  cases e with
  | tup es =>
   obtain ⟨ys,rfl,b1⟩:=rep_tup.mp b
   cases op <;> first | exact SimE.no | skip
   simp only[bop,bopD]
   have h1:=a1.len
   have h2:=b1.len
   have h3:ds.isEmpty=xs.isEmpty:=by cases ds <;> cases xs <;> simp_all
   rw[h1,h2,h3]
   by_cases z:xs.length+ys.length<=lim/\xs.isEmpty=false
   ·rw[if_pos z,if_pos z];exact SimE.here (rep_tup.mpr ⟨_,rfl,a1.app b1⟩)
   ·rw[if_neg z,if_neg z];exact SimE.no
  | _=>exact SimE.no
 | _=>exact SimE.no
theorem cmp_sim {R:Nat->Prop}{m:Me}{d e:Dat}{x y:Wd}(r:Int->Int->Bool) (a:Rep R m d x) (b:Rep R m e y):SimE R m (cmpII r x y m) (cmpD r d e):=by
 cases d with
 | int i =>
  rw[rep_int.mp a]
  cases e with
  | int j=>rw[rep_int.mp b];exact SimE.bl
  | _=>exact SimE.no
 | _=>exact SimE.no
theorem ofB_sim {R:Nat->Prop}{m:Me}{p:Option Bool}{q:Option Bool}(h:∀ b,q=some b->p=some b):SimE R m (ofB p m) (ofBD q):=by
 cases q with
 | none=>exact SimE.no
 | some b=>rw[h b rfl];exact SimE.bl
theorem ofB_simN {R:Nat->Prop}{m:Me}{p:Option Bool}{q:Option Bool}(h:∀ b,q=some b->p=some b):SimE R m (ofB (p.map (!·)) m) (ofBD (q.map (!·))):=by
 cases q with
 | none=>exact SimE.no
 | some b=>rw[h b rfl];exact SimE.bl
theorem isN_sim {R:Nat->Prop}{m:Me}{d e:Dat}{x y:Wd}(a:Rep R m d x) (b:Rep R m e y):SimE R m (cop .isN x y m) (copD .isN d e):=by
 cases e with
 | non =>
  rw[rep_non.mp b]
  cases d with
  | non=>rw[rep_non.mp a];exact SimE.bl
  | bl _=>rw[rep_bl.mp a];exact SimE.bl
  | int _=>rw[rep_int.mp a];exact SimE.bl
  | str _=>rw[rep_str.mp a];exact SimE.bl
  | scr _=>rw[rep_scr.mp a];exact SimE.bl
  | tup _=>obtain ⟨xs,rfl,_⟩:=rep_tup.mp a;exact SimE.bl
  | lst _=>obtain ⟨l,xs,rfl,_⟩:=rep_lst.mp a;exact SimE.bl
 | _=>exact SimE.no
theorem notN_sim {R:Nat->Prop}{m:Me}{d e:Dat}{x y:Wd}(a:Rep R m d x) (b:Rep R m e y):SimE R m (cop .notN x y m) (copD .notN d e):=by
 cases e with
 | non =>
  rw[rep_non.mp b]
  cases d with
  | non=>rw[rep_non.mp a];exact SimE.bl
  | bl _=>rw[rep_bl.mp a];exact SimE.bl
  | int _=>rw[rep_int.mp a];exact SimE.bl
  | str _=>rw[rep_str.mp a];exact SimE.bl
  | scr _=>rw[rep_scr.mp a];exact SimE.bl
  | tup _=>obtain ⟨xs,rfl,_⟩:=rep_tup.mp a;exact SimE.bl
  | lst _=>obtain ⟨l,xs,rfl,_⟩:=rep_lst.mp a;exact SimE.bl
 | _=>exact SimE.no
theorem cop_sim {R:Nat->Prop}{m:Me}{d e:Dat}{x y:Wd}(op:Co) (a:Rep R m d x) (b:Rep R m e y):SimE R m (cop op x y m) (copD op d e):=by
 cases op with
 | eq=>exact ofB_sim fun q h=>eqD_sim h a b
 | ne=>exact ofB_simN fun q h=>eqD_sim h a b
 | isN=>exact isN_sim a b
 | notN=>exact notN_sim a b
 | isin =>
  simp only[cop,copD]
  cases z:seqD e with
  | none=>exact SimE.no
  | some es =>
   obtain ⟨ys,h,q⟩:=seq_sim b z
   rw[h];exact ofB_sim fun t h=>inD_sim h a q
 | notin =>
  simp only[cop,copD]
  cases z:seqD e with
  | none=>exact SimE.no
  | some es =>
   obtain ⟨ys,h,q⟩:=seq_sim b z
   rw[h];exact ofB_simN fun t h=>inD_sim h a q
 | lt=>exact cmp_sim _ a b
 | le=>exact cmp_sim _ a b
 | gt=>exact cmp_sim _ a b
 | ge=>exact cmp_sim _ a b
theorem isT_sim {R:Nat->Prop}{m:Me}{d:Dat}{x:Wd}(t:Tg) (a:Rep R m d x):SimE R m (ofB (isT t x m) m) (.ok (.bl (isD t d))):=by
 have h:isT t x m=some (isD t d):=by
  cases d with
  | non=>rw[rep_non.mp a];cases t <;> rfl
  | bl _=>rw[rep_bl.mp a];cases t <;> rfl
  | int _=>rw[rep_int.mp a];cases t <;> rfl
  | str _=>rw[rep_str.mp a];cases t <;> rfl
  | scr _=>rw[rep_scr.mp a];cases t <;> rfl
  | tup _=>obtain ⟨xs,rfl,_⟩:=rep_tup.mp a;cases t <;> rfl
  | lst _=>obtain ⟨l,xs,rfl,_,hm,_⟩:=rep_lst.mp a;cases t <;> (show (match m[l]? with | some (.lst _)=>_ | some (.dct _)=>_ | none=>_)=_;rw[hm];rfl)
 rw[h];exact SimE.bl
theorem sum_sim {R:Nat->Prop}{m:Me}:∀ {ds:List Dat}{xs:List Wd}{i:Int},RepL R m ds xs->sumD ds=some i->sumL xs=some i
 | [],xs,i,a,h=>by rw[a.nil_inv];exact h
 | d::ds,xs,i,a,h=>by
  obtain ⟨x,r,rfl,p,q⟩:=a.cons_inv
  cases d with
  | int j =>
   rw[rep_int.mp p]
   simp only[sumD,Option.map_eq_some_iff] at h
   obtain ⟨k,hk,rfl⟩:=h
   simp only[sumL,sum_sim q hk,Option.map_some]
  | _=>simp[sumD] at h
theorem all_sim {R:Nat->Prop}{m:Me}:∀ {ds:List Dat}{xs:List Wd}{i:Bool},RepL R m ds xs->allD ds=some i->allL xs=some i
 | [],xs,i,a,h=>by rw[a.nil_inv];exact h
 | d::ds,xs,i,a,h=>by
  obtain ⟨x,r,rfl,p,q⟩:=a.cons_inv
  cases d with
  | bl j =>
   rw[rep_bl.mp p]
   simp only[allD,Option.map_eq_some_iff] at h
   obtain ⟨k,hk,rfl⟩:=h
   simp only[allL,all_sim q hk,Option.map_some]
  | _=>simp[allD] at h
theorem blt_sim {R:Nat->Prop}{m:Me}{ds:List Dat}{xs:List Wd}(b:Blf) (a:RepL R m ds xs):SimE R m (bltR b xs m) (bltD b ds):=by
 have one:∀ {d:Dat}{xs:List Wd},RepL R m [d] xs->∃ x,xs=[x]/\Rep R m d x:=by
  intro d xs h
  obtain ⟨x,r,rfl,p,q⟩:=h.cons_inv
  rw[q.nil_inv];exact ⟨x,rfl,p⟩
 cases b with
 | len =>
  cases ds with
  | nil=>exact SimE.no
  | cons d ds =>
   cases ds with
   | cons _ _=>exact SimE.no
   | nil =>
    obtain ⟨x,rfl,p⟩:=one a
    show SimE R m _ (match seqD d with | some i=>.ok (.int i.length) | none=>.no)
    cases z:seqD d with
    | none=>exact SimE.no
    | some i =>
     obtain ⟨ys,h,q⟩:=seq_sim p z;simp only[bltR,h,q.len];exact SimE.int
 | int =>
  cases ds with
  | nil=>exact SimE.no
  | cons d ds =>
   cases d with
   | int i =>
    cases ds with
    | cons _ _=>exact SimE.no
    | nil=>obtain ⟨x,rfl,p⟩:=one a;rw[rep_int.mp p];exact SimE.int
   | bl i =>
    cases ds with
    | cons _ _=>exact SimE.no
    | nil=>obtain ⟨x,rfl,p⟩:=one a;rw[rep_bl.mp p];exact SimE.int
   | _=>exact SimE.no
 | list =>
  cases ds with
  | nil=>exact SimE.no
  | cons d ds =>
   cases ds with
   | cons _ _=>exact SimE.no
   | nil =>
    obtain ⟨x,rfl,p⟩:=one a
    show SimE R m _ (match seqD d with | some i=>newD i | none=>.no)
    cases z:seqD d with
    | none=>exact SimE.no
    | some i =>
     obtain ⟨ys,h,q⟩:=seq_sim p z;simp only[bltR,h];exact SimE.new q
 | tuple =>
  cases ds with
  | nil=>exact SimE.no
  | cons d ds =>
   cases ds with
   | cons _ _=>exact SimE.no
   | nil =>
    obtain ⟨x,rfl,p⟩:=one a
    show SimE R m _ (match seqD d with | some i=>.ok (.tup i) | none=>.no)
    cases z:seqD d with
    | none=>exact SimE.no
    | some i =>
     obtain ⟨ys,h,q⟩:=seq_sim p z;simp only[bltR,h];exact SimE.here (rep_tup.mpr ⟨_,rfl,q⟩)
 | sum =>
  cases ds with
  | nil=>exact SimE.no
  | cons d ds =>
   cases ds with
   | cons _ _=>exact SimE.no
   | nil =>
    obtain ⟨x,rfl,p⟩:=one a
    show SimE R m _ (match (lsD d).bind sumD with | some i=>.ok (.int i) | none=>.no)
    cases z:(lsD d).bind sumD with
    | none=>exact SimE.no
    | some i =>
     obtain ⟨es,z1,z2⟩:=Option.bind_eq_some_iff.mp z
     obtain ⟨ys,h,q⟩:=ls_sim p z1;simp only[bltR,h,Option.bind_some,sum_sim q z2];exact SimE.int
 | all =>
  cases ds with
  | nil=>exact SimE.no
  | cons d ds =>
   cases ds with
   | cons _ _=>exact SimE.no
   | nil =>
    obtain ⟨x,rfl,p⟩:=one a
    show SimE R m _ (match (lsD d).bind allD with | some i=>.ok (.bl i) | none=>.no)
    cases z:(lsD d).bind allD with
    | none=>exact SimE.no
    | some i =>
     obtain ⟨es,z1,z2⟩:=Option.bind_eq_some_iff.mp z
     obtain ⟨ys,h,q⟩:=ls_sim p z1;simp only[bltR,h,Option.bind_some,all_sim q z2];exact SimE.bl
 | abs =>
  cases ds with
  | nil=>exact SimE.no
  | cons d ds =>
   cases d with
   | int i =>
    cases ds with
    | cons _ _=>exact SimE.no
    | nil=>obtain ⟨x,rfl,p⟩:=one a;rw[rep_int.mp p];exact SimE.int
   | _=>exact SimE.no
 | max2 =>
  cases ds with
  | nil=>exact SimE.no
  | cons d ds =>
   cases d with
   | int i =>
    cases ds with
    | nil=>exact SimE.no
    | cons e ds =>
     cases e with
     | int j =>
      cases ds with
      | cons _ _=>exact SimE.no
      | nil =>
       obtain ⟨x,r,rfl,p,q⟩:=a.cons_inv
       obtain ⟨y,rfl,q1⟩:=one q
       rw[rep_int.mp p,rep_int.mp q1];exact SimE.int
     | _=>exact SimE.no
   | _=>exact SimE.no
 | min2 =>
  cases ds with
  | nil=>exact SimE.no
  | cons d ds =>
   cases d with
   | int i =>
    cases ds with
    | nil=>exact SimE.no
    | cons e ds =>
     cases e with
     | int j =>
      cases ds with
      | cons _ _=>exact SimE.no
      | nil =>
       obtain ⟨x,r,rfl,p,q⟩:=a.cons_inv
       obtain ⟨y,rfl,q1⟩:=one q
       rw[rep_int.mp p,rep_int.mp q1];exact SimE.int
     | _=>exact SimE.no
   | _=>exact SimE.no
 | bool=>exact SimE.no
 | minS=>exact SimE.no
 | maxS=>exact SimE.no
theorem idx_sim {R:Nat->Prop}{m:Me}{d e:Dat}{x y:Wd}(a:Rep R m d x) (b:Rep R m e y):SimE R m (idxR x y m) (idxD d e):=by
 cases e with
 | int i =>
  rw[rep_int.mp b]
  simp only[idxD,idxR]
  cases z:seqD d with
  | none=>exact SimE.no
  | some ds =>
   obtain ⟨xs,h,q⟩:=seq_sim a z
   simp only[h]
   cases z:(ix ds.length i).bind fun j=>ds[j]? with
   | none=>exact SimE.no
   | some v =>
    obtain ⟨j,h1,h2⟩:=Option.bind_eq_some_iff.mp z
    obtain ⟨x,h3,p⟩:=q.get h2
    rw[q.len] at h1
    simp only[h1,Option.bind_some,h3]
    exact SimE.here p
 | _=>exact SimE.no
theorem sl_sim {R:Nat->Prop}{m:Me}{d:Dat}{x:Wd}(lo hi:Option Int) (a:Rep R m d x):SimE R m (slR x lo hi m) (slD d lo hi):=by
 simp only[slD,slR]
 cases z:lsD d with
 | none=>exact SimE.no
 | some ds =>
  obtain ⟨xs,h,q⟩:=ls_sim a z
  simp only[h,q.len]
  exact SimE.new ((q.drop _).take _)
theorem rng_sim0 {R:Nat->Prop}{m:Me}(st:Int):∀ (n:Nat) (lo:Int),RepL R m (rngF lo st n) (rngL lo st n)
 | 0,lo=>.nil
 | n+1,lo=>by
  have h:rngF lo st (n+1)=.int lo::rngF (lo+st) st n:=by
   unfold rngF
   rw[List.range_succ_eq_map,List.map_cons,List.map_map]
   congr 1
   ·simp
   ·apply List.map_congr_left
    intro i _
    show Dat.int _=Dat.int _
    congr 1
    rw[show ((Nat.succ i:Nat):Int)=(i:Int)+1 from rfl,Int.mul_add,Int.mul_one]
    lia
  rw[h]
  exact .cons (rep_int.mpr rfl) (rng_sim0 st n _)
theorem rng_sim {R:Nat->Prop}{m:Me}{d e f:Dat}{x y z:Wd}(a:Rep R m d x) (b:Rep R m e y) (c:Rep R m f z):SimE R m (rngR x y z m) (rngD d e f):=by
 cases d with
 | int i =>
  cases e with
  | int j =>
   cases f with
   | int k =>
    rw[rep_int.mp a,rep_int.mp b,rep_int.mp c]
    simp only[rngR,rngD]
    split
    ·exact SimE.here (rep_tup.mpr ⟨_,rfl,rng_sim0 k _ i⟩)
    ·exact SimE.no
   | _=>exact SimE.no
  | _=>exact SimE.no
 | _=>exact SimE.no
theorem comp_simL {c e:Wd->Me->Rz}{cd ed:Dat->Rd}{R:Nat->Prop}{m0:Me}
  (hc:∀ (R':Nat->Prop) m d x,(∀ l,R l->R' l)->Le m0 m->Rep R' m d x->SimE R' m (c x m) (cd d)) (he:∀ (R':Nat->Prop) m d x,(∀ l,R l->R' l)->Le m0 m->Rep R' m d x->SimE R' m (e x m) (ed d)) :
  ∀ (ds:List Dat) (xs:List Wd) (acc:List Dat) (acx:List Wd) (R':Nat->Prop) (m:Me),(∀ l,R l->R' l)->Le m0 m->RepL R' m ds xs->RepL R' m acc acx->SimE R' m (compL c e xs acx m) (compD cd ed ds acc)
 | [],xs,acc,acx,R',m,hR,hm,a,b=>by
  rw[a.nil_inv]
  unfold compL compD
  exact SimE.new b
 | d::ds,xs,acc,acx,R',m,hR,hm,a,b=>by
  obtain ⟨x,r,rfl,p,q⟩:=a.cons_inv
  unfold compL compD
  refine (hc R' m d x hR hm p).bind fun t w m1 l1 k1=>?_
  cases t with
  | bl t =>
   rw[rep_bl.mp k1]
   cases t with
   | true =>
    refine (he _ m1 d x (fun l z=>.inl (hR l z)) (hm.trans l1) (p.up _ l1)).bind fun t w m2 l2 k2=>?_
    simp only[b.len]
    by_cases z:acx.length < lim
    ·rw[if_pos z,if_pos z]
     exact comp_simL hc he ds r _ _ _ m2 (fun l z=>.inl (.inl (hR l z))) ((hm.trans l1).trans l2) ((q.up _ l1).up _ l2) (((b.up _ l1).up _ l2).app (.cons k2 .nil))
    ·rw[if_neg z,if_neg z];exact SimE.no
   | false=>exact comp_simL hc he ds r _ _ _ m1 (fun l z=>.inl (hR l z)) (hm.trans l1) (q.up _ l1) (b.up _ l1)
  | _=>exact SimE.no
theorem comp_simR {c e:Wd->Me->Rz}{cd ed:Dat->Rd}{R:Nat->Prop}{m0:Me}{l:Nat}{xs0:List Wd}(hl:m0[l]?=some (.lst xs0))
  (hc:∀ (R':Nat->Prop) m d x,(∀ l,R l->R' l)->Le m0 m->Rep R' m d x->SimE R' m (c x m) (cd d)) (he:∀ (R':Nat->Prop) m d x,(∀ l,R l->R' l)->Le m0 m->Rep R' m d x->SimE R' m (e x m) (ed d)) :
  ∀ (ds:List Dat) (i k:Nat) (acc:List Dat) (acx:List Wd) (R':Nat->Prop) (m:Me),(∀ l,R l->R' l)->Le m0 m->RepL R' m ds (xs0.drop i)->i+ds.length=xs0.length->ds.length < k->RepL R' m acc acx->SimE R' m (compR c e l k i acx m) (compD cd ed ds acc)
 | [],i,0,acc,acx,R',m,hR,hm,a,hi,hk,b=>by simp at hk
 | d::ds,i,0,acc,acx,R',m,hR,hm,a,hi,hk,b=>by simp at hk
 | [],i,k+1,acc,acx,R',m,hR,hm,a,hi,hk,b=>by
  unfold compR compD lstAt
  rw[hm l _ hl]
  simp only
  rw[List.getElem?_eq_none (by simp at hi;lia)]
  exact SimE.new b
 | d::ds,i,k+1,acc,acx,R',m,hR,hm,a,hi,hk,b=>by
  obtain ⟨x,r,e0,p,q⟩:=a.cons_inv
  have hx:xs0[i]?=some x:=by
   have:(xs0.drop i)[0]?=some x:=by rw[e0];rfl
   simpa using this
  have hr:r=xs0.drop (i+1):=by
   have:(xs0.drop i).drop 1=r:=by rw[e0];rfl
   rw[<- this,List.drop_drop]
  rw[hr] at q
  have hi':i+1+ds.length=xs0.length:=by simp at hi;lia
  have hk':ds.length < k:=by simp at hk;lia
  unfold compR compD lstAt
  rw[hm l _ hl]
  simp only
  rw[hx]
  simp only
  refine (hc R' m d x hR hm p).bind fun t w m1 l1 k1=>?_
  cases t with
  | bl t =>
   rw[rep_bl.mp k1]
   cases t with
   | true =>
    refine (he _ m1 d x (fun l z=>.inl (hR l z)) (hm.trans l1) (p.up _ l1)).bind fun t w m2 l2 k2=>?_
    simp only[b.len]
    by_cases z:acx.length < lim
    ·rw[if_pos z,if_pos z]
     exact comp_simR hl hc he ds (i+1) k _ _ _ m2 (fun l z=>.inl (.inl (hR l z))) ((hm.trans l1).trans l2) ((q.up _ l1).up _ l2) hi' hk' (((b.up _ l1).up _ l2).app (.cons k2 .nil))
    ·rw[if_neg z,if_neg z];exact SimE.no
   | false=>exact comp_simR hl hc he ds (i+1) k _ _ _ m1 (fun l z=>.inl (hR l z)) (hm.trans l1) (q.up _ l1) hi' hk' (b.up _ l1)
  | _=>exact SimE.no
noncomputable def vars:Ex->List Nat
 | .var i=>[i]
 | .lit _=>[]
 | .bin _ a b=>vars a++vars b
 | .neg a=>vars a
 | .not a=>vars a
 | .and a b=>vars a++vars b
 | .or a b=>vars a++vars b
 | .cmp _ a b=>vars a++vars b
 | .chain _ _ a b c=>vars a++(vars b++vars c)
 | .ife c a b=>vars c++(vars a++vars b)
 | .unit=>[]
 | .pair a b=>vars a++vars b
 | .call _ a=>vars a
 | .blt _ a=>vars a
 | .isi _ a=>vars a
 | .lst a=>vars a
 | .tup a=>vars a
 | .dict0=>[]
 | .idx a b=>vars a++vars b
 | .slL a b=>vars a++vars b
 | .slH a b=>vars a++vars b
 | .slB a b c=>vars a++(vars b++vars c)
 | .meth _ a b=>vars a++vars b
 | .rng a b c=>vars a++(vars b++vars c)
 | .comp e i c=>vars i++(vars e++vars c)
 | .lrng a=>vars a
 | .compP _ e a b c=>vars a++(vars b++(vars e++vars c))
@[simp] theorem vars_var (i:Nat):vars (.var i)=[i]:=rfl
@[simp] theorem vars_lit (w:Wd):vars (.lit w)=[]:=rfl
@[simp] theorem vars_idx (a b:Ex):vars (.idx a b)=vars a++vars b:=rfl
@[simp] theorem vars_tup (a:Ex):vars (.tup a)=vars a:=rfl
@[simp] theorem vars_pair (a b:Ex):vars (.pair a b)=vars a++vars b:=rfl
@[simp] theorem vars_unit  : vars (.unit)=[]:=rfl
@[simp] theorem vars_bin (op:Bo) (a b:Ex):vars (.bin op a b)=vars a++vars b:=rfl
@[simp] theorem vars_call (k:Nat) (a:Ex):vars (.call k a)=vars a:=rfl
@[simp] theorem vars_neg (a:Ex):vars (.neg a)=vars a:=rfl
@[simp] theorem vars_lst (a:Ex):vars (.lst a)=vars a:=rfl
def EnvR (R:Nat->Prop) (m:Me) (vs:List Nat) (de:DEn) (env:En):Prop :=
 de.length=env.length/\∀ i ∈ vs,∀ d,de[i]?=some (some d)->∃ w,env[i]?=some (some w)/\Rep R m d w
theorem EnvR.up {R R':Nat->Prop}{m m':Me}{vs:List Nat}{de:DEn}{env:En}(hR:∀ l,R l->R' l) (h:Le m m') (q:EnvR R m vs de env):EnvR R' m' vs de env :=
 ⟨q.1,fun i hi d z=>by
  obtain ⟨w,a,b⟩:=q.2 i hi d z
  exact ⟨w,a,Rep.frame (fun l o r k=>⟨hR l r,h l o k⟩) d w b⟩⟩
theorem EnvR.sub {R:Nat->Prop}{m:Me}{vs us:List Nat}{de:DEn}{env:En}(h:∀ i ∈ us,i ∈ vs) (q:EnvR R m vs de env):EnvR R m us de env :=
 ⟨q.1,fun i hi=>q.2 i (h i hi)⟩
theorem EnvR.left {R:Nat->Prop}{m:Me}{us vs:List Nat}{de:DEn}{env:En}(q:EnvR R m (us++vs) de env):EnvR R m us de env:=q.sub fun _ h=>List.mem_append_left _ h
theorem EnvR.right {R:Nat->Prop}{m:Me}{us vs:List Nat}{de:DEn}{env:En}(q:EnvR R m (us++vs) de env):EnvR R m vs de env:=q.sub fun _ h=>List.mem_append_right _ h
theorem EnvR.push {R:Nat->Prop}{m:Me}{vs:List Nat}{de:DEn}{env:En}{d:Dat}{w:Wd}(q:EnvR R m vs de env) (h:Rep R m d w):EnvR R m vs (de++[some d]) (env++[some w]):=by
 refine ⟨by simp[q.1],fun i hi e z=>?_⟩
 rw[List.getElem?_append] at z
 split at z
 ·next k =>
  obtain ⟨w,a,b⟩:=q.2 i hi e z
  exact ⟨w,by rw[List.getElem?_append_left (by rw[<- q.1];exact k)];exact a,b⟩
 ·next k =>
  rw[List.getElem?_append_right (by rw[<- q.1];lia),<- q.1]
  have:i - de.length=0:=by
   rcases Nat.eq_zero_or_pos (i - de.length) with z0 | z0
   ·exact z0
   ·rw[List.getElem?_eq_none (by simp;lia)] at z;cases z
  rw[this] at z ⊢
  cases z
  exact ⟨w,rfl,h⟩
def CallR (cl:Nat->List Wd->Me->Rz) (cd:Nat->List Dat->Rd):Prop:=∀ (k:Nat) (ds:List Dat) (ws:List Wd) (R:Nat->Prop) (m:Me),RepL R m ds ws->SimE R m (cl k ws m) (cd k ds)
theorem args_sim {R:Nat->Prop}{m:Me}{d:Dat}{w:Wd}(h:Rep R m d w):RepL R m (argsD d) (argsOf w):=by
 cases d with
 | tup ds=>obtain ⟨xs,rfl,q⟩:=rep_tup.mp h;exact q
 | non=>rw[rep_non.mp h];exact .nil
 | bl _=>rw[rep_bl.mp h];exact .nil
 | int _=>rw[rep_int.mp h];exact .nil
 | str _=>rw[rep_str.mp h];exact .nil
 | scr _=>rw[rep_scr.mp h];exact .nil
 | lst _=>obtain ⟨l,xs,rfl,_⟩:=rep_lst.mp h;exact .nil
theorem ev_read {cl:Nat->List Wd->Me->Rz}{cd:Nat->List Dat->Rd}(H:CallR cl cd):∀ (e:Ex) (R:Nat->Prop) (m:Me) (de:DEn) (env:En),EnvR R m (vars e) de env->SimE R m (evE cl e env m) (evD cd e de)
 | .var i,R,m,de,env,q=>by
  cases z:de[i]? with
  | none=>rw[evD_none (.inl z)];exact SimE.no
  | some o =>
   cases o with
   | none=>rw[evD_none (.inr z)];exact SimE.no
   | some d =>
    obtain ⟨w,a,b⟩:=q.2 i (List.mem_singleton.mpr rfl) d z
    rw[evD_some z,evE_some a];exact SimE.here b
 | .lit w,R,m,de,env,q=>by
  cases w <;> first | exact SimE.no | (exact SimE.here (by unfold Rep;rfl))
 | .bin op a b,R,m,de,env,q=>by
  refine (ev_read H a R m de env q.left).bind fun d w m1 l1 k1=>?_
  refine (ev_read H b _ m1 de env (q.right.up (fun _=>.inl) l1)).bind fun d2 w2 m2 l2 k2=>?_
  exact bop_sim op (k1.up _ l2) k2
 | .neg a,R,m,de,env,q=>by
  refine (ev_read H a R m de env q).bind fun d w m1 l1 k1=>?_
  cases d with
  | int i=>rw[rep_int.mp k1];exact SimE.int
  | _=>exact SimE.no
 | .not a,R,m,de,env,q=>by
  refine (ev_read H a R m de env q).bind fun d w m1 l1 k1=>?_
  cases d with
  | bl i=>rw[rep_bl.mp k1];exact SimE.bl
  | _=>exact SimE.no
 | .and a b,R,m,de,env,q=>by
  refine (ev_read H a R m de env q.left).bind fun d w m1 l1 k1=>?_
  cases d with
  | bl i =>
   rw[rep_bl.mp k1]
   cases i with
   | true=>exact ev_read H b _ m1 de env (q.right.up (fun _=>.inl) l1)
   | false=>exact SimE.bl
  | _=>exact SimE.no
 | .or a b,R,m,de,env,q=>by
  refine (ev_read H a R m de env q.left).bind fun d w m1 l1 k1=>?_
  cases d with
  | bl i =>
   rw[rep_bl.mp k1]
   cases i with
   | false=>exact ev_read H b _ m1 de env (q.right.up (fun _=>.inl) l1)
   | true=>exact SimE.bl
  | _=>exact SimE.no
 | .cmp op a b,R,m,de,env,q=>by
  refine (ev_read H a R m de env q.left).bind fun d w m1 l1 k1=>?_
  refine (ev_read H b _ m1 de env (q.right.up (fun _=>.inl) l1)).bind fun d2 w2 m2 l2 k2=>?_
  exact cop_sim op (k1.up _ l2) k2
 | .chain o p a b c,R,m,de,env,q=>by
  refine (ev_read H a R m de env q.left).bind fun d w m1 l1 k1=>?_
  refine (ev_read H b _ m1 de env (q.right.left.up (fun _=>.inl) l1)).bind fun d2 w2 m2 l2 k2=>?_
  refine (cop_sim o (k1.up _ l2) k2).bind fun d3 w3 m3 l3 k3=>?_
  cases d3 with
  | bl i =>
   rw[rep_bl.mp k3]
   cases i with
   | false=>exact SimE.bl
   | true =>
    refine (ev_read H c _ m3 de env (q.right.right.up (fun _ h=>.inl (.inl (.inl h))) ((l1.trans l2).trans l3))).bind fun d4 w4 m4 l4 k4=>?_
    exact cop_sim p ((k2.up _ l3).up _ l4) k4
  | _=>exact SimE.no
 | .ife c a b,R,m,de,env,q=>by
  refine (ev_read H c R m de env q.left).bind fun d w m1 l1 k1=>?_
  cases d with
  | bl i =>
   rw[rep_bl.mp k1]
   cases i with
   | true=>exact ev_read H a _ m1 de env (q.right.left.up (fun _=>.inl) l1)
   | false=>exact ev_read H b _ m1 de env (q.right.right.up (fun _=>.inl) l1)
  | _=>exact SimE.no
 | .unit,R,m,de,env,q=>by
  exact SimE.here (rep_tup.mpr ⟨[],rfl,.nil⟩)
 | .pair a b,R,m,de,env,q=>by
  refine (ev_read H a R m de env q.left).bind fun d w m1 l1 k1=>?_
  refine (ev_read H b _ m1 de env (q.right.up (fun _=>.inl) l1)).bind fun d2 w2 m2 l2 k2=>?_
  exact SimE.here (rep_tup.mpr ⟨_,rfl,.cons (k1.up _ l2) (args_sim k2)⟩)
 | .call k a,R,m,de,env,q=>by
  refine (ev_read H a R m de env q).bind fun d w m1 l1 k1=>?_
  exact H k _ _ _ m1 (args_sim k1)
 | .blt b a,R,m,de,env,q=>by
  refine (ev_read H a R m de env q).bind fun d w m1 l1 k1=>?_
  exact blt_sim b (args_sim k1)
 | .isi t a,R,m,de,env,q=>by
  refine (ev_read H a R m de env q).bind fun d w m1 l1 k1=>?_
  exact isT_sim t k1
 | .lst a,R,m,de,env,q=>by
  refine (ev_read H a R m de env q).bind fun d w m1 l1 k1=>?_
  exact SimE.new (args_sim k1)
 | .tup a,R,m,de,env,q=>by
  refine (ev_read H a R m de env q).bind fun d w m1 l1 k1=>?_
  have k2:=args_sim k1
  simp only[k2.len]
  split
  ·exact SimE.here (rep_tup.mpr ⟨_,rfl,k2⟩)
  ·exact SimE.no
 | .dict0,R,m,de,env,q=>by
  exact SimE.no
 | .idx a b,R,m,de,env,q=>by
  refine (ev_read H a R m de env q.left).bind fun d w m1 l1 k1=>?_
  refine (ev_read H b _ m1 de env (q.right.up (fun _=>.inl) l1)).bind fun d2 w2 m2 l2 k2=>?_
  exact idx_sim (k1.up _ l2) k2
 | .slL a b,R,m,de,env,q=>by
  refine (ev_read H a R m de env q.left).bind fun d w m1 l1 k1=>?_
  refine (ev_read H b _ m1 de env (q.right.up (fun _=>.inl) l1)).bind fun d2 w2 m2 l2 k2=>?_
  cases d2 with
  | int i=>rw[rep_int.mp k2];exact sl_sim _ _ (k1.up _ l2)
  | _=>exact SimE.no
 | .slH a b,R,m,de,env,q=>by
  refine (ev_read H a R m de env q.left).bind fun d w m1 l1 k1=>?_
  refine (ev_read H b _ m1 de env (q.right.up (fun _=>.inl) l1)).bind fun d2 w2 m2 l2 k2=>?_
  cases d2 with
  | int i=>rw[rep_int.mp k2];exact sl_sim _ _ (k1.up _ l2)
  | _=>exact SimE.no
 | .slB a b c,R,m,de,env,q=>by
  refine (ev_read H a R m de env q.left).bind fun d w m1 l1 k1=>?_
  refine (ev_read H b _ m1 de env (q.right.left.up (fun _=>.inl) l1)).bind fun d2 w2 m2 l2 k2=>?_
  cases d2 with
  | int i =>
   rw[rep_int.mp k2]
   refine (ev_read H c _ m2 de env (q.right.right.up (fun _ h=>.inl (.inl h)) (l1.trans l2))).bind fun d3 w3 m3 l3 k3=>?_
   cases d3 with
   | int j=>rw[rep_int.mp k3];exact sl_sim _ _ ((k1.up _ l2).up _ l3)
   | _=>exact SimE.no
  | _=>exact SimE.no
 | .meth _ _ _,R,m,de,env,q=>by
  exact SimE.no
 | .rng a b c,R,m,de,env,q=>by
  refine (ev_read H a R m de env q.left).bind fun d w m1 l1 k1=>?_
  refine (ev_read H b _ m1 de env (q.right.left.up (fun _=>.inl) l1)).bind fun d2 w2 m2 l2 k2=>?_
  refine (ev_read H c _ m2 de env (q.right.right.up (fun _ h=>.inl (.inl h)) (l1.trans l2))).bind fun d3 w3 m3 l3 k3=>?_
  exact rng_sim ((k1.up _ l2).up _ l3) (k2.up _ l3) k3
 | .lrng a,R,m,de,env,q=>by
  refine (ev_read H a R m de env q).bind fun d w m1 l1 k1=>?_
  cases d with
  | int j =>
   rw[rep_int.mp k1]
   simp only
   split
   ·exact SimE.new (rng_sim0 1 _ 0)
   ·exact SimE.no
  | _=>exact SimE.no
 | .comp elt it cond,R,m,de,env,q=>by
  refine (ev_read H it R m de env q.left).bind fun d w m1 l1 k1=>?_
  have hc:∀ (R':Nat->Prop) m' d x,(∀ l,Rf R m.length l->R' l)->Le m1 m'->Rep R' m' d x->SimE R' m' (evE cl cond (env++[some x]) m') (evD cd cond (de++[some d])) :=
   fun R' m' d x hR l k=>ev_read H cond R' m' _ _ ((q.right.right.up (fun l h=>hR l (.inl h)) (l1.trans l)).push k)
  have he:∀ (R':Nat->Prop) m' d x,(∀ l,Rf R m.length l->R' l)->Le m1 m'->Rep R' m' d x->SimE R' m' (evE cl elt (env++[some x]) m') (evD cd elt (de++[some d])) :=
   fun R' m' d x hR l k=>ev_read H elt R' m' _ _ ((q.right.left.up (fun l h=>hR l (.inl h)) (l1.trans l)).push k)
  cases d with
  | tup ds =>
   obtain ⟨xs,rfl,k2⟩:=rep_tup.mp k1
   exact comp_simL hc he ds xs [] [] _ m1 (fun _ h=>h) (Le.refl _) k2 .nil
  | scr ns =>
   rw[rep_scr.mp k1]
   exact comp_simL hc he (ns.map .int) (ns.map .int) [] [] _ m1 (fun _ h=>h) (Le.refl _) (RepL.ints ns) .nil
  | lst ds =>
   obtain ⟨l,xs,rfl,_,hm,k2⟩:=rep_lst.mp k1
   simp only[itD]
   by_cases z:ds.length<=lim
   ·rw[if_pos z]
    have hl:=k2.len
    exact comp_simR hm hc he ds 0 (lim+1) [] [] _ m1 (fun _ h=>h) (Le.refl _) (by simpa using k2) (by lia) (by lia) .nil
   ·rw[if_neg z];exact SimE.no
  | _=>exact SimE.no
 | .compP _ _ _ _ _,R,m,de,env,q=>SimE.no
mutual
noncomputable def Own (m:Me):Dat->Wd->List Nat->Prop
 | .non,w,A=>w=.non/\A=[]
 | .bl b,w,A=>w=.bl b/\A=[]
 | .int i,w,A=>w=.int i/\A=[]
 | .str s,w,A=>w=.str s/\A=[]
 | .scr ns,w,A=>w=.rol (ns.map Wd.int)/\A=[]
 | .tup ds,w,A=>∃ xs,w=.tup xs/\OwnL m ds xs A
 | .lst ds,w,A=>∃ l xs B,w=.ref l/\A=l::B/\m[l]?=some (.lst xs)/\OwnL m ds xs B
noncomputable def OwnL (m:Me):List Dat->List Wd->List Nat->Prop
 | [],xs,A=>xs=[]/\A=[]
 | d::ds,xs,A=>∃ x r B C,xs=x::r/\A=B++C/\Own m d x B/\OwnL m ds r C
end
theorem own_lst {m:Me}{ds:List Dat}{w:Wd}{A:List Nat}:Own m (.lst ds) w A ↔ ∃ l xs B,w=.ref l/\A=l::B/\m[l]?=some (.lst xs)/\OwnL m ds xs B:=by
 constructor
 ·intro h;unfold Own at h;exact h
 ·intro h;unfold Own;exact h
theorem own_tup {m:Me}{ds:List Dat}{w:Wd}{A:List Nat}:Own m (.tup ds) w A ↔ ∃ xs,w=.tup xs/\OwnL m ds xs A:=by
 constructor
 ·intro h;unfold Own at h;exact h
 ·intro h;unfold Own;exact h
theorem OwnL.cons_inv {m:Me}{d:Dat}{ds:List Dat}{xs:List Wd}{A:List Nat}(h:OwnL m (d::ds) xs A):∃ x r B C,xs=x::r/\A=B++C/\Own m d x B/\OwnL m ds r C:=by unfold OwnL at h;exact h
theorem OwnL.nil_inv {m:Me}{xs:List Wd}{A:List Nat}(h:OwnL m [] xs A):xs=[]/\A=[]:=by unfold OwnL at h;exact h
theorem OwnL.nil {m:Me}:OwnL m [] [] []:=by unfold OwnL;exact ⟨rfl,rfl⟩
theorem OwnL.cons {m:Me}{d:Dat}{ds:List Dat}{x:Wd}{xs:List Wd}{B C:List Nat}(a:Own m d x B) (b:OwnL m ds xs C):OwnL m (d::ds) (x::xs) (B++C):=by
 unfold OwnL;exact ⟨x,xs,B,C,rfl,rfl,a,b⟩
theorem OwnL.app {m:Me}:∀ {ds es:List Dat}{xs ys:List Wd}{A B:List Nat},OwnL m ds xs A->OwnL m es ys B->OwnL m (ds++es) (xs++ys) (A++B)
 | [],es,xs,ys,A,B,a,b=>by rw[a.nil_inv.1,a.nil_inv.2];exact b
 | d::ds,es,xs,ys,A,B,a,b=>by
  obtain ⟨x,r,P,Q,rfl,rfl,p,q⟩:=a.cons_inv
  rw[List.append_assoc]
  exact .cons p (OwnL.app q b)
mutual
theorem Own.frame {m m':Me}:∀ (d:Dat) (w:Wd) (A:List Nat),(∀ l ∈ A,∀ o,m[l]?=some o->m'[l]?=some o)->Own m d w A->Own m' d w A
 | .non,w,A,h,q=>by unfold Own at q ⊢;exact q
 | .bl _,w,A,h,q=>by unfold Own at q ⊢;exact q
 | .int _,w,A,h,q=>by unfold Own at q ⊢;exact q
 | .str _,w,A,h,q=>by unfold Own at q ⊢;exact q
 | .scr _,w,A,h,q=>by unfold Own at q ⊢;exact q
 | .tup ds,w,A,h,q=>by
  obtain ⟨xs,rfl,q1⟩:=own_tup.mp q
  exact own_tup.mpr ⟨xs,rfl,OwnL.frame ds xs A h q1⟩
 | .lst ds,w,A,h,q=>by
  obtain ⟨l,xs,B,rfl,rfl,hm,q1⟩:=own_lst.mp q
  exact own_lst.mpr ⟨l,xs,B,rfl,rfl,h l List.mem_cons_self _ hm,OwnL.frame ds xs B (fun l hl=>h l (List.mem_cons_of_mem _ hl)) q1⟩
theorem OwnL.frame {m m':Me}:∀ (ds:List Dat) (xs:List Wd) (A:List Nat),(∀ l ∈ A,∀ o,m[l]?=some o->m'[l]?=some o)->OwnL m ds xs A->OwnL m' ds xs A
 | [],xs,A,h,q=>by rw[q.nil_inv.1,q.nil_inv.2];exact .nil
 | d::ds,xs,A,h,q=>by
  obtain ⟨x,r,B,C,rfl,rfl,a,b⟩:=q.cons_inv
  exact .cons (Own.frame d x B (fun l hl=>h l (List.mem_append_left _ hl)) a) (OwnL.frame ds r C (fun l hl=>h l (List.mem_append_right _ hl)) b)
end
mutual
theorem Own.rep {m:Me}{R:Nat->Prop}:∀ (d:Dat) (w:Wd) (A:List Nat),(∀ l ∈ A,R l)->Own m d w A->Rep R m d w
 | .non,w,A,h,q=>by unfold Own at q;exact rep_non.mpr q.1
 | .bl _,w,A,h,q=>by unfold Own at q;exact rep_bl.mpr q.1
 | .int _,w,A,h,q=>by unfold Own at q;exact rep_int.mpr q.1
 | .str _,w,A,h,q=>by unfold Own at q;exact rep_str.mpr q.1
 | .scr _,w,A,h,q=>by unfold Own at q;exact rep_scr.mpr q.1
 | .tup ds,w,A,h,q=>by
  obtain ⟨xs,rfl,q1⟩:=own_tup.mp q
  exact rep_tup.mpr ⟨xs,rfl,OwnL.rep ds xs A h q1⟩
 | .lst ds,w,A,h,q=>by
  obtain ⟨l,xs,B,rfl,rfl,hm,q1⟩:=own_lst.mp q
  exact rep_lst.mpr ⟨l,xs,rfl,h l List.mem_cons_self,hm,OwnL.rep ds xs B (fun l hl=>h l (List.mem_cons_of_mem _ hl)) q1⟩
theorem OwnL.rep {m:Me}{R:Nat->Prop}:∀ (ds:List Dat) (xs:List Wd) (A:List Nat),(∀ l ∈ A,R l)->OwnL m ds xs A->RepL R m ds xs
 | [],xs,A,h,q=>by rw[q.nil_inv.1];exact .nil
 | d::ds,xs,A,h,q=>by
  obtain ⟨x,r,B,C,rfl,rfl,a,b⟩:=q.cons_inv
  exact .cons (Own.rep d x B (fun l hl=>h l (List.mem_append_left _ hl)) a) (OwnL.rep ds r C (fun l hl=>h l (List.mem_append_right _ hl)) b)
end
mutual
theorem Own.lt {m:Me}:∀ (d:Dat) (w:Wd) (A:List Nat),Own m d w A->∀ l ∈ A,l < m.length
 | .non,w,A,q=>by unfold Own at q;rw[q.2];simp
 | .bl _,w,A,q=>by unfold Own at q;rw[q.2];simp
 | .int _,w,A,q=>by unfold Own at q;rw[q.2];simp
 | .str _,w,A,q=>by unfold Own at q;rw[q.2];simp
 | .scr _,w,A,q=>by unfold Own at q;rw[q.2];simp
 | .tup ds,w,A,q=>by
  obtain ⟨xs,rfl,q1⟩:=own_tup.mp q
  exact OwnL.lt ds xs A q1
 | .lst ds,w,A,q=>by
  obtain ⟨l,xs,B,rfl,rfl,hm,q1⟩:=own_lst.mp q
  intro k hk
  rcases List.mem_cons.mp hk with rfl | hk
  ·exact (List.getElem?_eq_some_iff.mp hm).1
  ·exact OwnL.lt ds xs B q1 k hk
theorem OwnL.lt {m:Me}:∀ (ds:List Dat) (xs:List Wd) (A:List Nat),OwnL m ds xs A->∀ l ∈ A,l < m.length
 | [],xs,A,q=>by rw[q.nil_inv.2];simp
 | d::ds,xs,A,q=>by
  obtain ⟨x,r,B,C,rfl,rfl,a,b⟩:=q.cons_inv
  intro k hk
  rcases List.mem_append.mp hk with hk | hk
  ·exact Own.lt d x B a k hk
  ·exact OwnL.lt ds r C b k hk
end
mutual
theorem Rep.flat {R:Nat->Prop}{m m':Me}:∀ (d:Dat) (w:Wd),flat d=true->Rep R m d w->Own m' d w []
 | .non,w,h,q=>by unfold Own;exact ⟨rep_non.mp q,rfl⟩
 | .bl _,w,h,q=>by unfold Own;exact ⟨rep_bl.mp q,rfl⟩
 | .int _,w,h,q=>by unfold Own;exact ⟨rep_int.mp q,rfl⟩
 | .str _,w,h,q=>by unfold Own;exact ⟨rep_str.mp q,rfl⟩
 | .scr _,w,h,q=>by unfold Own;exact ⟨rep_scr.mp q,rfl⟩
 | .tup ds,w,h,q=>by
  obtain ⟨xs,rfl,q1⟩:=rep_tup.mp q
  exact own_tup.mpr ⟨xs,rfl,RepL.flat ds xs (by unfold Vl.flat at h;exact h) q1⟩
 | .lst ds,w,h,q=>by unfold Vl.flat at h;cases h
theorem RepL.flat {R:Nat->Prop}{m m':Me}:∀ (ds:List Dat) (xs:List Wd),flatL ds=true->RepL R m ds xs->OwnL m' ds xs []
 | [],xs,h,q=>by rw[q.nil_inv];exact .nil
 | d::ds,xs,h,q=>by
  obtain ⟨x,r,rfl,a,b⟩:=q.cons_inv
  unfold flatL at h
  rw[Bool.and_eq_true] at h
  exact OwnL.cons (B:=[]) (C:=[]) (Rep.flat d x h.1 a) (RepL.flat ds r h.2 b)
end
def RepO (R:Nat->Prop) (m:Me) (lv:Lv) (d:Dat) (w:Wd) (A:List Nat):Prop:=match lv with
 | .no=>Rep R m d w/\A=[]
 | .top=>∃ ds l xs,d=.lst ds/\w=.ref l/\A=[l]/\m[l]?=some (.lst xs)/\RepL R m ds xs
 | .full=>Own m d w A
theorem RepO.rep {R R':Nat->Prop}{m:Me}{lv:Lv}{d:Dat}{w:Wd}{A:List Nat}(h:∀ l,R l->R' l) (k:∀ l ∈ A,R' l) (q:RepO R m lv d w A):Rep R' m d w:=by
 cases lv with
 | no=>exact Rep.frame (fun l o r z=>⟨h l r,z⟩) d w q.1
 | top =>
  obtain ⟨ds,l,xs,rfl,rfl,rfl,hm,a⟩:=q
  exact rep_lst.mpr ⟨l,xs,rfl,k l (by simp),hm,RepL.frame (fun l o r z=>⟨h l r,z⟩) ds xs a⟩
 | full=>exact Own.rep d w A k q
theorem RepO.frame {R R':Nat->Prop}{m m':Me}{lv:Lv}{d:Dat}{w:Wd}{A:List Nat}(h:∀ (l:Nat) o,R l->m[l]?=some o->R' l/\m'[l]?=some o) (k:∀ l ∈ A,∀ o,m[l]?=some o->m'[l]?=some o) (q:RepO R m lv d w A):RepO R' m' lv d w A:=by
 cases lv with
 | no=>exact ⟨Rep.frame h d w q.1,q.2⟩
 | top =>
  obtain ⟨ds,l,xs,rfl,rfl,rfl,hm,a⟩:=q
  exact ⟨ds,l,xs,rfl,rfl,rfl,k l (by simp) _ hm,RepL.frame h ds xs a⟩
 | full=>exact Own.frame d w A k q
theorem RepO.lt {R:Nat->Prop}{m:Me}{lv:Lv}{d:Dat}{w:Wd}{A:List Nat}(q:RepO R m lv d w A):∀ l ∈ A,l < m.length:=by
 cases lv with
 | no=>rw[q.2];simp
 | top =>
  obtain ⟨ds,l,xs,rfl,rfl,rfl,hm,a⟩:=q
  intro k hk
  rw[List.mem_singleton.mp hk]
  exact (List.getElem?_eq_some_iff.mp hm).1
 | full=>exact Own.lt d w A q
noncomputable def lvE (lev:Nat->Lv):Ex->Dat->Lv
 | .comp elt _ _,d=>if flat d then .full else match d with
  | .lst ds=>if ds.all (fun x=>lvE lev elt x == .full) then .full else .top
  | _=>.no
 | .compP _ elt _ _ _,d=>if flat d then .full else match d with
  | .lst ds=>if ds.all (fun x=>lvE lev elt x == .full) then .full else .top
  | _=>.no
 | .lst a,d=>if flat d then .full else match d with
  | .lst ds=>if lvE lev a (.tup ds) == .full then .full else .top
  | _=>.no
 | .tup a,d=>lvE lev a d
 | .pair a b,d=>if flat d then .full else match d with
  | .tup (x::ds)=>if lvE lev a x == .full && lvE lev b (.tup ds) == .full then .full else .no
  | _=>.no
 | .call k _,d=>if flat d then .full else lev k
 | .blt .list _,d=>if flat d then .full else match d with
  | .lst ds=>if flatL ds then .full else .top
  | _=>.no
 | .lrng _,d=>if flat d then .full else match d with
  | .lst ds=>if flatL ds then .full else .top
  | _=>.no
 | .slL _ _,d=>if flat d then .full else match d with
  | .lst ds=>if flatL ds then .full else .top
  | _=>.no
 | .slH _ _,d=>if flat d then .full else match d with
  | .lst ds=>if flatL ds then .full else .top
  | _=>.no
 | .slB _ _ _,d=>if flat d then .full else match d with
  | .lst ds=>if flatL ds then .full else .top
  | _=>.no
 | .bin _ _ _,d=>if flat d then .full else match d with
  | .lst ds=>if flatL ds then .full else .top
  | _=>.no
 | _,d=>if flat d then .full else .no
@[simp] theorem lv_comp (lev:Nat->Lv) (e i c:Ex) (d:Dat):lvE lev (.comp e i c) d=if flat d then .full else match d with
  | .lst ds=>if ds.all (fun x=>lvE lev e x == .full) then .full else .top
  | _=>.no:=rfl
@[simp] theorem lv_compP (lev:Nat->Lv) (k:Kd) (e a b c:Ex) (d:Dat):lvE lev (.compP k e a b c) d=if flat d then .full else match d with
  | .lst ds=>if ds.all (fun x=>lvE lev e x == .full) then .full else .top
  | _=>.no:=rfl
@[simp] theorem lv_lst (lev:Nat->Lv) (a:Ex) (d:Dat):lvE lev (.lst a) d=if flat d then .full else match d with
  | .lst ds=>if lvE lev a (.tup ds) == .full then .full else .top
  | _=>.no:=rfl
@[simp] theorem lv_tup (lev:Nat->Lv) (a:Ex) (d:Dat):lvE lev (.tup a) d=lvE lev a d:=rfl
@[simp] theorem lv_pair (lev:Nat->Lv) (a b:Ex) (d:Dat):lvE lev (.pair a b) d=if flat d then .full else match d with
  | .tup (x::ds)=>if lvE lev a x == .full && lvE lev b (.tup ds) == .full then .full else .no
  | _=>.no:=rfl
@[simp] theorem lv_call (lev:Nat->Lv) (k:Nat) (a:Ex) (d:Dat):lvE lev (.call k a) d=if flat d then .full else lev k:=rfl
@[simp] theorem lv_list (lev:Nat->Lv) (a:Ex) (d:Dat):lvE lev (.blt .list a) d=if flat d then .full else match d with
  | .lst ds=>if flatL ds then .full else .top
  | _=>.no:=rfl
@[simp] theorem lv_lrng (lev:Nat->Lv) (a:Ex) (d:Dat):lvE lev (.lrng a) d=if flat d then .full else match d with
  | .lst ds=>if flatL ds then .full else .top
  | _=>.no:=rfl
@[simp] theorem lv_slL (lev:Nat->Lv) (a b:Ex) (d:Dat):lvE lev (.slL a b) d=if flat d then .full else match d with
  | .lst ds=>if flatL ds then .full else .top
  | _=>.no:=rfl
@[simp] theorem lv_slH (lev:Nat->Lv) (a b:Ex) (d:Dat):lvE lev (.slH a b) d=if flat d then .full else match d with
  | .lst ds=>if flatL ds then .full else .top
  | _=>.no:=rfl
@[simp] theorem lv_slB (lev:Nat->Lv) (a b c:Ex) (d:Dat):lvE lev (.slB a b c) d=if flat d then .full else match d with
  | .lst ds=>if flatL ds then .full else .top
  | _=>.no:=rfl
@[simp] theorem lv_bin (lev:Nat->Lv) (op:Bo) (a b:Ex) (d:Dat):lvE lev (.bin op a b) d=if flat d then .full else match d with
  | .lst ds=>if flatL ds then .full else .top
  | _=>.no:=rfl
@[simp] theorem lv_var (lev:Nat->Lv) (i:Nat) (d:Dat):lvE lev (.var i) d=if flat d then .full else .no:=rfl
@[simp] theorem lv_lit (lev:Nat->Lv) (w:Wd) (d:Dat):lvE lev (.lit w) d=if flat d then .full else .no:=rfl
@[simp] theorem lv_idx (lev:Nat->Lv) (a b:Ex) (d:Dat):lvE lev (.idx a b) d=if flat d then .full else .no:=rfl
@[simp] theorem lv_neg (lev:Nat->Lv) (a:Ex) (d:Dat):lvE lev (.neg a) d=if flat d then .full else .no:=rfl
@[simp] theorem lv_not (lev:Nat->Lv) (a:Ex) (d:Dat):lvE lev (.not a) d=if flat d then .full else .no:=rfl
@[simp] theorem lv_and (lev:Nat->Lv) (a b:Ex) (d:Dat):lvE lev (.and a b) d=if flat d then .full else .no:=rfl
@[simp] theorem lv_or (lev:Nat->Lv) (a b:Ex) (d:Dat):lvE lev (.or a b) d=if flat d then .full else .no:=rfl
@[simp] theorem lv_cmp (lev:Nat->Lv) (op:Co) (a b:Ex) (d:Dat):lvE lev (.cmp op a b) d=if flat d then .full else .no:=rfl
@[simp] theorem lv_ife (lev:Nat->Lv) (c a b:Ex) (d:Dat):lvE lev (.ife c a b) d=if flat d then .full else .no:=rfl
@[simp] theorem lv_unit (lev:Nat->Lv)  (d:Dat):lvE lev (.unit) d=if flat d then .full else .no:=rfl
@[simp] theorem lv_isi (lev:Nat->Lv) (t:Tg) (a:Ex) (d:Dat):lvE lev (.isi t a) d=if flat d then .full else .no:=rfl
@[simp] theorem lv_rng (lev:Nat->Lv) (a b c:Ex) (d:Dat):lvE lev (.rng a b c) d=if flat d then .full else .no:=rfl
@[simp] theorem lv_blen (lev:Nat->Lv) (a:Ex) (d:Dat):lvE lev (.blt .len a) d=if flat d then .full else .no:=rfl
@[simp] theorem lv_bint (lev:Nat->Lv) (a:Ex) (d:Dat):lvE lev (.blt .int a) d=if flat d then .full else .no:=rfl
@[simp] theorem lv_bbool (lev:Nat->Lv) (a:Ex) (d:Dat):lvE lev (.blt .bool a) d=if flat d then .full else .no:=rfl
@[simp] theorem lv_btuple (lev:Nat->Lv) (a:Ex) (d:Dat):lvE lev (.blt .tuple a) d=if flat d then .full else .no:=rfl
@[simp] theorem lv_bsum (lev:Nat->Lv) (a:Ex) (d:Dat):lvE lev (.blt .sum a) d=if flat d then .full else .no:=rfl
@[simp] theorem lv_ball (lev:Nat->Lv) (a:Ex) (d:Dat):lvE lev (.blt .all a) d=if flat d then .full else .no:=rfl
@[simp] theorem lv_babs (lev:Nat->Lv) (a:Ex) (d:Dat):lvE lev (.blt .abs a) d=if flat d then .full else .no:=rfl
@[simp] theorem lv_bmin2 (lev:Nat->Lv) (a:Ex) (d:Dat):lvE lev (.blt .min2 a) d=if flat d then .full else .no:=rfl
@[simp] theorem lv_bmax2 (lev:Nat->Lv) (a:Ex) (d:Dat):lvE lev (.blt .max2 a) d=if flat d then .full else .no:=rfl
def SimO (R:Nat->Prop) (m:Me) (lv:Dat->Lv) (r:Rz) (rd:Rd):Prop:=match rd with
 | .ok d=>∃ w m' A,r=.ok w m'/\Le m m'/\RepO (fun l=>Rf R m.length l/\l ∉ A) m' (lv d) d w A/\A.Nodup/\∀ a ∈ A,m.length<=a
 | .exc c d=>∃ w m',r=.exc c w m'/\Le m m'/\Rep (Rf R m.length) m' d w
 | .no=>True
noncomputable def callLv (lev:Nat->Lv) (k:Nat) (d:Dat):Lv:=if flat d then .full else lev k
def CallO (lev:Nat->Lv) (cl:Nat->List Wd->Me->Rz) (cd:Nat->List Dat->Rd):Prop:=∀ (k:Nat) (ds:List Dat) (ws:List Wd) (R:Nat->Prop) (m:Me),RepL R m ds ws->SimO R m (callLv lev k) (cl k ws m) (cd k ds)
theorem SimO.sim {R:Nat->Prop}{m:Me}{lv:Dat->Lv}{r:Rz}{rd:Rd}(h:SimO R m lv r rd):SimE R m r rd:=by
 cases rd with
 | ok d =>
  obtain ⟨w,m',A,rfl,l,q,_,hA⟩:=h
  exact ⟨w,m',rfl,l,q.rep (fun _ z=>z.1) (fun a z=>.inr (hA a z))⟩
 | exc c d=>exact h
 | no=>trivial
theorem CallO.r {lev:Nat->Lv}{cl:Nat->List Wd->Me->Rz}{cd:Nat->List Dat->Rd}(H:CallO lev cl cd):CallR cl cd:=fun k ds ws R m q=>(H k ds ws R m q).sim
theorem SimE.own {R:Nat->Prop}{m:Me}{r:Rz}{rd:Rd}{lv:Dat->Lv}(h:SimE R m r rd) (hl:∀ d,lv d=if flat d then .full else .no):SimO R m lv r rd:=by
 cases rd with
 | ok d =>
  obtain ⟨w,m',rfl,l,q⟩:=h
  refine ⟨w,m',[],rfl,l,?_,List.nodup_nil,by simp⟩
  rw[hl]
  split
  ·next z=>exact q.flat d w z
  ·exact ⟨Rep.frame (fun l o r z=>⟨⟨r,by simp⟩,z⟩) d w q,rfl⟩
 | exc c d=>exact h
 | no=>trivial
theorem SimO.lift {R:Nat->Prop}{m m1:Me}{r:Rz}{rd:Rd}{lv:Dat->Lv}(h:Le m m1) (q:SimO (Rf R m.length) m1 lv r rd):SimO R m lv r rd:=by
 have hl:=h.len
 cases rd with
 | ok d =>
  obtain ⟨w,m',A,rfl,k,z,nd,hA⟩:=q
  exact ⟨w,m',A,rfl,h.trans k,z.frame (fun l o r z=>⟨⟨by rcases r.1 with (r | r) | r;exact .inl r;exact .inr r;exact .inr (by lia),r.2⟩,z⟩) (fun _ _ _ z=>z),nd,fun a ha=>by have:=hA a ha;lia⟩
 | exc c d=>exact SimE.lift (rd:=.exc c d) h q
 | no=>trivial
theorem SimE.bindO {R:Nat->Prop}{m:Me}{r:Rz}{rd:Rd}{f:Wd->Me->Rz}{g:Dat->Rd}{lv:Dat->Lv}(h:SimE R m r rd)
  (k:∀ d w m',Le m m'->Rep (Rf R m.length) m' d w->SimO (Rf R m.length) m' lv (f w m') (g d)):SimO R m lv (r.bind f) (rd.bind g):=by
 cases rd with
 | ok d=>obtain ⟨w,m',rfl,l,z⟩:=h;exact SimO.lift l (k d w m' l z)
 | exc c d=>obtain ⟨w,m',rfl,l,z⟩:=h;exact ⟨w,m',rfl,l,z⟩
 | no=>trivial
theorem SimO.no {R:Nat->Prop}{m:Me}{r:Rz}{lv:Dat->Lv}:SimO R m lv r .no:=trivial
theorem SimO.new {R:Nat->Prop}{m:Me}{ds:List Dat}{xs:List Wd}{lv:Dat->Lv}(h:RepL R m ds xs) (hl:∀ es,lv (.lst es)=if flatL es then .full else .top):SimO R m lv (alloc m xs) (newD ds):=by
 unfold newD alloc
 rw[h.len]
 by_cases z:xs.length<=lim
 ·rw[if_pos z,if_pos z]
  refine ⟨_,_,[m.length],rfl,Le.app m _,?_,by simp,by simp⟩
  rw[hl]
  split
  ·next f=>exact own_lst.mpr ⟨_,xs,[],rfl,rfl,by simp,h.flat ds xs f⟩
  ·refine ⟨ds,_,xs,rfl,rfl,rfl,by simp,RepL.frame (fun l o r z=>⟨⟨.inl r,?_⟩,Le.app m _ l o z⟩) ds xs h⟩
   have:=(List.getElem?_eq_some_iff.mp z).1
   simp;lia
 ·rw[if_neg z,if_neg z];exact SimO.no
theorem SimO.newOwn {R:Nat->Prop}{m0 m:Me}{ds:List Dat}{xs:List Wd}{A:List Nat}{lv:Dat->Lv}(hm:Le m0 m) (h:OwnL m ds xs A) (nd:A.Nodup) (hA:∀ a ∈ A,m0.length<=a) (hl:lv (.lst ds)=.full) (hlen:ds.length=xs.length):SimO R m0 lv (alloc m xs) (newD ds):=by
 unfold newD alloc
 rw[hlen]
 have hlt:=h.lt
 by_cases z:xs.length<=lim
 ·rw[if_pos z,if_pos z]
  refine ⟨_,_,m.length::A,rfl,hm.trans (Le.app m _),?_,List.nodup_cons.mpr ⟨fun q=>by have:=hlt _ q;lia,nd⟩,?_⟩
  ·rw[hl]
   exact own_lst.mpr ⟨_,xs,A,rfl,rfl,by simp,OwnL.frame ds xs A (fun l hl o q=>Le.app m _ l o q) h⟩
  ·intro a ha
   rcases List.mem_cons.mp ha with rfl | ha
   ·exact hm.len
   ·exact hA a ha
 ·rw[if_neg z,if_neg z];exact SimO.no
theorem OwnL.len {m:Me}:∀ {ds:List Dat}{xs:List Wd}{A:List Nat},OwnL m ds xs A->ds.length=xs.length
 | [],xs,A,q=>by rw[q.nil_inv.1];rfl
 | d::ds,xs,A,q=>by
  obtain ⟨x,r,B,C,rfl,rfl,a,b⟩:=q.cons_inv
  simp[OwnL.len b]
def CompO (R:Nat->Prop) (m:Me) (lv:Dat->Lv) (r:Rz) (rd:Rd):Prop:=match rd with
 | .ok d=>∃ out m2 outx,d=.lst out/\out.length<=lim/\r=alloc m2 outx/\Le m m2/\RepL (Rf R m.length) m2 out outx/\((∀ y ∈ out,lv y=.full)->∃ A,OwnL m2 out outx A/\A.Nodup/\∀ a ∈ A,m.length<=a)
 | .exc c d=>∃ w m',r=.exc c w m'/\Le m m'/\Rep (Rf R m.length) m' d w
 | .no=>True
def AccO (m0 m:Me) (lv:Dat->Lv) (acc:List Dat) (acx:List Wd):Prop:=(∀ y ∈ acc,lv y=.full)->∃ A,OwnL m acc acx A/\A.Nodup/\∀ a ∈ A,m0.length<=a
theorem AccO.up {m0 m m':Me}{lv:Dat->Lv}{acc:List Dat}{acx:List Wd}(h:Le m m') (q:AccO m0 m lv acc acx):AccO m0 m' lv acc acx:=fun z=>by
 obtain ⟨A,a,b,c⟩:=q z
 exact ⟨A,OwnL.frame acc acx A (fun l _ o k=>h l o k) a,b,c⟩
theorem AccO.push {m0 m m':Me}{lv:Dat->Lv}{acc:List Dat}{acx:List Wd}{d:Dat}{w:Wd}{B:List Nat}(hm:Le m0 m) (h:Le m m') (q:AccO m0 m lv acc acx) (z:lv d=.full->Own m' d w B) (nd:B.Nodup) (hB:∀ b ∈ B,m.length<=b):AccO m0 m' lv (acc++[d]) (acx++[w]):=fun f=>by
 obtain ⟨A,a,b,c⟩:=q fun y hy=>f y (List.mem_append_left _ hy)
 refine ⟨A++(B++[]),(OwnL.frame acc acx A (fun l _ o k=>h l o k) a).app (.cons (z (f d (by simp))) .nil),?_,?_⟩
 ·rw[List.append_nil]
  refine List.nodup_append.mpr ⟨b,nd,fun x hx y hy e=>?_⟩
  have:=OwnL.lt acc acx A a x hx
  have:=hB y hy
  lia
 ·intro x hx
  rw[List.append_nil] at hx
  rcases List.mem_append.mp hx with hx | hx
  ·exact c x hx
  ·have:=hB x hx
   have:=hm.len
   lia
theorem comp_ownL {c e:Wd->Me->Rz}{cd ed:Dat->Rd}{R:Nat->Prop}{m0:Me}{lv:Dat->Lv}
  (hc:∀ (R':Nat->Prop) m d x,(∀ l,R l->R' l)->Le m0 m->Rep R' m d x->SimE R' m (c x m) (cd d)) (he:∀ (R':Nat->Prop) m d x,(∀ l,R l->R' l)->Le m0 m->Rep R' m d x->SimO R' m lv (e x m) (ed d)) :
  ∀ (ds:List Dat) (xs:List Wd) (acc:List Dat) (acx:List Wd) (m:Me),Le m0 m->RepL (Rf R m0.length) m ds xs->RepL (Rf R m0.length) m acc acx->AccO m0 m lv acc acx->CompO R m0 lv (compL c e xs acx m) (compD cd ed ds acc)
 | [],xs,acc,acx,m,hm,a,b,f=>by
  rw[a.nil_inv]
  unfold compL compD newD
  by_cases z:acc.length<=lim
  ·rw[if_pos z];exact ⟨acc,m,acx,rfl,z,rfl,hm,b,f⟩
  ·rw[if_neg z];trivial
 | d::ds,xs,acc,acx,m,hm,a,b,f=>by
  obtain ⟨x,r,rfl,p,q⟩:=a.cons_inv
  have hl:=hm.len
  have sh:∀ {n:Nat}{m':Me}{d:Dat}{w:Wd},m0.length<=n->Rep (Rf (Rf R m0.length) n) m' d w->Rep (Rf R m0.length) m' d w:=fun hn k=>Rep.frame (fun l o r z=>⟨by rcases r with (r | r) | r;exact .inl r;exact .inr r;exact .inr (by lia),z⟩) _ _ k
  unfold compL compD
  have h1:=hc _ m d x (fun l z=>.inl z) hm p
  cases e1:cd d with
  | no=>trivial
  | exc k t=>rw[e1] at h1;obtain ⟨w,m',h1,l1,k1⟩:=h1;rw[h1];exact ⟨w,m',rfl,hm.trans l1,sh hl k1⟩
  | ok t =>
   rw[e1] at h1
   obtain ⟨w,m1,h1,l1,k1⟩:=h1
   rw[h1]
   simp only[Rz.bind,Rd.bind]
   cases t with
   | bl t =>
    rw[rep_bl.mp k1]
    have fr:∀ {ds:List Dat}{xs:List Wd},RepL (Rf R m0.length) m ds xs->RepL (Rf R m0.length) m1 ds xs:=fun k=>RepL.frame (fun l o r z=>⟨r,l1 l o z⟩) _ _ k
    cases t with
    | false=>exact comp_ownL hc he ds r acc acx m1 (hm.trans l1) (fr q) (fr b) (f.up l1)
    | true =>
     have h2:=he _ m1 d x (fun l z=>.inl z) (hm.trans l1) (Rep.frame (fun l o r z=>⟨r,l1 l o z⟩) _ _ p)
     have hl1:=(hm.trans l1).len
     simp only
     cases e2:ed d with
     | no=>trivial
     | exc k t=>rw[e2] at h2;obtain ⟨w,m',h2,l2,k2⟩:=h2;rw[h2];exact ⟨w,m',rfl,(hm.trans l1).trans l2,sh hl1 k2⟩
     | ok y =>
      rw[e2] at h2
      have h3:=h2.sim
      obtain ⟨w,m2,B,h2,l2,k2,nd,hB⟩:=h2
      obtain ⟨w',m2',h3,_,k3⟩:=h3
      rw[h2] at h3 ⊢
      cases h3
      simp only[Rz.bind,Rd.bind,b.len]
      split
      ·refine comp_ownL hc he ds r _ _ m2 ((hm.trans l1).trans l2) (RepL.frame (fun l o r z=>⟨r,l2 l o z⟩) _ _ (fr q)) ((RepL.frame (fun l o r z=>⟨r,l2 l o z⟩) _ _ (fr b)).app (.cons (sh hl1 k3) .nil)) ((f.up l1).push (hm.trans l1) l2 ?_ nd hB)
       intro z
       rw[z] at k2
       exact k2
      ·trivial
   | _=>trivial
theorem comp_ownR {c e:Wd->Me->Rz}{cd ed:Dat->Rd}{R:Nat->Prop}{m0:Me}{lv:Dat->Lv}{l:Nat}{xs0:List Wd}(hx0:m0[l]?=some (.lst xs0))
  (hc:∀ (R':Nat->Prop) m d x,(∀ l,R l->R' l)->Le m0 m->Rep R' m d x->SimE R' m (c x m) (cd d)) (he:∀ (R':Nat->Prop) m d x,(∀ l,R l->R' l)->Le m0 m->Rep R' m d x->SimO R' m lv (e x m) (ed d)) :
  ∀ (ds:List Dat) (i k:Nat) (acc:List Dat) (acx:List Wd) (m:Me),Le m0 m->RepL (Rf R m0.length) m ds (xs0.drop i)->i+ds.length=xs0.length->ds.length < k->RepL (Rf R m0.length) m acc acx->AccO m0 m lv acc acx->CompO R m0 lv (compR c e l k i acx m) (compD cd ed ds acc)
 | [],i,0,acc,acx,m,hm,a,hi,hk,b,f=>by simp at hk
 | d::ds,i,0,acc,acx,m,hm,a,hi,hk,b,f=>by simp at hk
 | [],i,k+1,acc,acx,m,hm,a,hi,hk,b,f=>by
  unfold compR compD lstAt newD
  rw[hm l _ hx0]
  simp only
  rw[List.getElem?_eq_none (by simp at hi;lia)]
  by_cases z:acc.length<=lim
  ·rw[if_pos z];exact ⟨acc,m,acx,rfl,z,rfl,hm,b,f⟩
  ·rw[if_neg z];trivial
 | d::ds,i,k+1,acc,acx,m,hm,a,hi,hk,b,f=>by
  obtain ⟨x,r,e0,p,q⟩:=a.cons_inv
  have hx:xs0[i]?=some x:=by
   have:(xs0.drop i)[0]?=some x:=by rw[e0];rfl
   simpa using this
  have hr:r=xs0.drop (i+1):=by
   have:(xs0.drop i).drop 1=r:=by rw[e0];rfl
   rw[<- this,List.drop_drop]
  rw[hr] at q
  have hi':i+1+ds.length=xs0.length:=by simp at hi;lia
  have hk':ds.length < k:=by simp at hk;lia
  have hl:=hm.len
  have sh:∀ {n:Nat}{m':Me}{d:Dat}{w:Wd},m0.length<=n->Rep (Rf (Rf R m0.length) n) m' d w->Rep (Rf R m0.length) m' d w:=fun hn k=>Rep.frame (fun l o r z=>⟨by rcases r with (r | r) | r;exact .inl r;exact .inr r;exact .inr (by lia),z⟩) _ _ k
  unfold compR compD lstAt
  rw[hm l _ hx0]
  simp only
  rw[hx]
  simp only
  have h1:=hc _ m d x (fun l z=>.inl z) hm p
  cases e1:cd d with
  | no=>trivial
  | exc k t=>rw[e1] at h1;obtain ⟨w,m',h1,l1,k1⟩:=h1;rw[h1];exact ⟨w,m',rfl,hm.trans l1,sh hl k1⟩
  | ok t =>
   rw[e1] at h1
   obtain ⟨w,m1,h1,l1,k1⟩:=h1
   rw[h1]
   simp only[Rz.bind,Rd.bind]
   cases t with
   | bl t =>
    rw[rep_bl.mp k1]
    have fr:∀ {ds:List Dat}{xs:List Wd},RepL (Rf R m0.length) m ds xs->RepL (Rf R m0.length) m1 ds xs:=fun k=>RepL.frame (fun l o r z=>⟨r,l1 l o z⟩) _ _ k
    cases t with
    | false=>exact comp_ownR hx0 hc he ds (i+1) k acc acx m1 (hm.trans l1) (fr q) hi' hk' (fr b) (f.up l1)
    | true =>
     have h2:=he _ m1 d x (fun l z=>.inl z) (hm.trans l1) (Rep.frame (fun l o r z=>⟨r,l1 l o z⟩) _ _ p)
     have hl1:=(hm.trans l1).len
     simp only
     cases e2:ed d with
     | no=>trivial
     | exc k t=>rw[e2] at h2;obtain ⟨w,m',h2,l2,k2⟩:=h2;rw[h2];exact ⟨w,m',rfl,(hm.trans l1).trans l2,sh hl1 k2⟩
     | ok y =>
      rw[e2] at h2
      have h3:=h2.sim
      obtain ⟨w,m2,B,h2,l2,k2,nd,hB⟩:=h2
      obtain ⟨w',m2',h3,_,k3⟩:=h3
      rw[h2] at h3 ⊢
      cases h3
      simp only[Rz.bind,Rd.bind,b.len]
      split
      ·refine comp_ownR hx0 hc he ds (i+1) k _ _ m2 ((hm.trans l1).trans l2) (RepL.frame (fun l o r z=>⟨r,l2 l o z⟩) _ _ (fr q)) hi' hk' ((RepL.frame (fun l o r z=>⟨r,l2 l o z⟩) _ _ (fr b)).app (.cons (sh hl1 k3) .nil)) ((f.up l1).push (hm.trans l1) l2 ?_ nd hB)
       intro z
       rw[z] at k2
       exact k2
      ·trivial
   | _=>trivial
theorem CompO.sim {R:Nat->Prop}{m:Me}{lv lw:Dat->Lv}{r:Rz}{rd:Rd}(h:CompO R m lv r rd) (hl:∀ ds,lw (.lst ds)=if ds.all (fun x=>lv x == .full) then .full else .top):SimO R m lw r rd:=by
 cases rd with
 | no=>trivial
 | exc c d=>exact h
 | ok d =>
  obtain ⟨out,m2,outx,rfl,hlen,rfl,l2,k2,own⟩:=h
  have e:=k2.len
  cases z:out.all (fun x=>lv x == .full) with
  | true =>
   obtain ⟨A,a,b,c⟩:=own fun y hy=>by simpa using List.all_eq_true.mp z y hy
   have:=SimO.newOwn (R:=R) (lv:=lw) l2 a b c (by rw[hl,z];rfl) e
   unfold newD at this
   rw[if_pos hlen] at this
   exact this
  | false =>
   unfold alloc
   rw[<- e,if_pos hlen]
   have ll:=l2.len
   refine ⟨_,_,[m2.length],rfl,l2.trans (Le.app m2 _),?_,by simp,by simp;exact ll⟩
   rw[hl,z]
   refine ⟨out,_,outx,rfl,rfl,rfl,by simp,RepL.frame (fun l o r z=>⟨⟨r,?_⟩,Le.app m2 _ l o z⟩) out outx k2⟩
   have:=(List.getElem?_eq_some_iff.mp z).1
   simp;lia
theorem lvE_flat (lev:Nat->Lv):∀ (e:Ex) (d:Dat),flat d=true->lvE lev e d=.full
 | .tup a,d,h=>lvE_flat lev a d h
 | .comp _ _ _,d,h=>if_pos h
 | .compP _ _ _ _ _,d,h=>if_pos h
 | .lst _,d,h=>if_pos h
 | .pair _ _,d,h=>if_pos h
 | .call _ _,d,h=>if_pos h
 | .blt b _,d,h=>by cases b <;> exact if_pos h
 | .slL _ _,d,h=>if_pos h
 | .lrng _,d,h=>if_pos h
 | .slH _ _,d,h=>if_pos h
 | .slB _ _ _,d,h=>if_pos h
 | .bin _ _ _,d,h=>if_pos h
 | .var _,d,h=>if_pos h
 | .lit _,d,h=>if_pos h
 | .neg _,d,h=>if_pos h
 | .not _,d,h=>if_pos h
 | .and _ _,d,h=>if_pos h
 | .or _ _,d,h=>if_pos h
 | .cmp _ _ _,d,h=>if_pos h
 | .chain _ _ _ _ _,d,h=>if_pos h
 | .ife _ _ _,d,h=>if_pos h
 | .unit,d,h=>if_pos h
 | .isi _ _,d,h=>if_pos h
 | .dict0,d,h=>if_pos h
 | .idx _ _,d,h=>if_pos h
 | .meth _ _ _,d,h=>if_pos h
 | .rng _ _ _,d,h=>if_pos h
theorem SimO.newTop {R:Nat->Prop}{m0 m:Me}{ds:List Dat}{xs:List Wd}{lv:Dat->Lv}(hm:Le m0 m) (h:RepL (Rf R m0.length) m ds xs) (hl:lv (.lst ds)=.top):SimO R m0 lv (alloc m xs) (newD ds):=by
 unfold newD alloc
 rw[h.len]
 by_cases z:xs.length<=lim
 ·rw[if_pos z,if_pos z]
  refine ⟨_,_,[m.length],rfl,hm.trans (Le.app m _),?_,by simp,by simp;exact hm.len⟩
  rw[hl]
  refine ⟨ds,_,xs,rfl,rfl,rfl,by simp,RepL.frame (fun l o r z=>⟨⟨r,?_⟩,Le.app m _ l o z⟩) ds xs h⟩
  have:=(List.getElem?_eq_some_iff.mp z).1
  simp;lia
 ·rw[if_neg z,if_neg z];exact SimO.no
theorem bop_own {R:Nat->Prop}{m:Me}{d e:Dat}{x y:Wd}{lv:Dat->Lv}(op:Bo) (hl:∀ d,lv d=if flat d then .full else match d with | .lst ds=>if flatL ds then .full else .top | _=>.no) (a:Rep R m d x) (b:Rep R m e y):SimO R m lv (bop op x y m) (bopD op d e):=by
 have hn:∀ es,lv (.lst es)=if flatL es then .full else .top:=fun es=>by rw[hl];simp[flat]
 have hs:=bop_sim op a b
 cases d with
 | lst ds =>
  obtain ⟨l,xs,rfl,_,hm,a1⟩:=rep_lst.mp a
  cases e with
  | lst es =>
   obtain ⟨l',ys,rfl,_,hk,b1⟩:=rep_lst.mp b
   cases op <;> first | exact SimO.no | skip
   simp only[bop,bopD,hm,hk]
   exact SimO.new (a1.app b1) hn
  | int k =>
   rw[rep_int.mp b]
   cases op <;> first | exact SimO.no | skip
   simp only[bop,bopD,hm]
   by_cases z:-(lim:Int)<=k/\k<=(lim:Int)
   ·rw[if_pos z,if_pos z];exact SimO.new (a1.rep _) hn
   ·rw[if_neg z,if_neg z];exact SimO.no
  | _=>exact SimO.no
 | int i =>
  cases e with
  | int j =>
   have hi:∀ r:Rd,SimE R m (bop op x y m) r->(∀ d,r=.ok d->flat d=true)->SimO R m lv (bop op x y m) r:=by
    intro r h f
    cases r with
    | ok d =>
     obtain ⟨w,m',h,l,k⟩:=h
     refine ⟨w,m',[],h,l,?_,List.nodup_nil,by simp⟩
     rw[hl,if_pos (f d rfl)]
     exact k.flat d w (f d rfl)
    | exc c d=>exact h
    | no=>trivial
   refine hi _ hs fun d h=>?_
   cases op <;> simp only[bopD] at h
   ·cases h;rfl
   ·cases h;rfl
   all_goals (split at h <;> (cases h;try rfl))
  | _=>exact SimO.no
 | tup ds =>
  obtain ⟨xs,rfl,a1⟩:=rep_tup.mp a
  cases e with
  | tup es =>
   obtain ⟨ys,rfl,b1⟩:=rep_tup.mp b
   cases op <;> first | exact SimO.no | skip
   simp only[bopD] at hs ⊢
   split at hs
   ·next z =>
    rw[if_pos z]
    obtain ⟨w,m',h,l,k⟩:=hs
    refine ⟨w,m',[],h,l,?_,List.nodup_nil,by simp⟩
    rw[hl]
    split
    ·next f=>exact k.flat _ w f
    ·exact ⟨Rep.frame (fun l o r z=>⟨⟨r,by simp⟩,z⟩) _ w k,rfl⟩
   ·next z=>rw[if_neg z];exact SimO.no
  | _=>exact SimO.no
 | _=>exact SimO.no
set_option tactic.hygienic true in
theorem ev_own {lev:Nat->Lv}{cl:Nat->List Wd->Me->Rz}{cd:Nat->List Dat->Rd}(H:CallO lev cl cd):∀ (e:Ex) (R:Nat->Prop) (m:Me) (de:DEn) (env:En),EnvR R m (vars e) de env->SimO R m (lvE lev e) (evE cl e env m) (evD cd e de)
 | .call k a,R,m,de,env,q=>by
  have e:lvE lev (.call k a)=callLv lev k:=by funext d;simp[callLv]
  rw[e]
  refine (ev_read H.r a R m de env q).bindO fun d w m1 l1 k1=>?_
  exact H k _ _ _ m1 (args_sim k1)
 | .bin op a b,R,m,de,env,q=>by
  refine (ev_read H.r a R m de env q.left).bindO fun d w m1 l1 k1=>?_
  refine (ev_read H.r b _ m1 de env (q.right.up (fun _=>.inl) l1)).bindO fun d2 w2 m2 l2 k2=>?_
  exact bop_own op (fun d=>by cases d <;> rfl) (k1.up _ l2) k2
 | .lrng a,R,m,de,env,q=>by
  refine (ev_read H.r a R m de env q).bindO fun d w m1 l1 k1=>?_
  cases d with
  | int j =>
   rw[rep_int.mp k1]
   simp only
   split
   ·exact SimO.new (rng_sim0 1 _ 0) (fun es=>by simp[flat])
   ·exact SimO.no
  | _=>exact SimO.no
 | .slL a b,R,m,de,env,q=>by
  refine (ev_read H.r a R m de env q.left).bindO fun d w m1 l1 k1=>?_
  refine (ev_read H.r b _ m1 de env (q.right.up (fun _=>.inl) l1)).bindO fun d2 w2 m2 l2 k2=>?_
  cases d2 with
  | int i =>
   rw[rep_int.mp k2]
   simp only[slD,slR]
   cases z:lsD d with
   | none=>exact SimO.no
   | some ds =>
    obtain ⟨xs,h,q⟩:=ls_sim (k1.up m1.length l2) z
    simp only[h,q.len]
    exact SimO.new ((q.drop _).take _) (fun es=>by simp[flat])
  | _=>exact SimO.no
 | .slH a b,R,m,de,env,q=>by
  refine (ev_read H.r a R m de env q.left).bindO fun d w m1 l1 k1=>?_
  refine (ev_read H.r b _ m1 de env (q.right.up (fun _=>.inl) l1)).bindO fun d2 w2 m2 l2 k2=>?_
  cases d2 with
  | int i =>
   rw[rep_int.mp k2]
   simp only[slD,slR]
   cases z:lsD d with
   | none=>exact SimO.no
   | some ds =>
    obtain ⟨xs,h,q⟩:=ls_sim (k1.up m1.length l2) z
    simp only[h,q.len]
    exact SimO.new ((q.drop _).take _) (fun es=>by simp[flat])
  | _=>exact SimO.no
 | .slB a b c,R,m,de,env,q=>by
  refine (ev_read H.r a R m de env q.left).bindO fun d w m1 l1 k1=>?_
  refine (ev_read H.r b _ m1 de env (q.right.left.up (fun _=>.inl) l1)).bindO fun d2 w2 m2 l2 k2=>?_
  cases d2 with
  | int i =>
   rw[rep_int.mp k2]
   refine (ev_read H.r c _ m2 de env (q.right.right.up (fun _ h=>.inl (.inl h)) (l1.trans l2))).bindO fun d3 w3 m3 l3 k3=>?_
   cases d3 with
   | int j =>
    rw[rep_int.mp k3]
    simp only[slD,slR]
    cases z:lsD d with
    | none=>exact SimO.no
    | some ds =>
     obtain ⟨xs,h,q⟩:=ls_sim ((k1.up m1.length l2).up m2.length l3) z
     simp only[h,q.len]
     exact SimO.new ((q.drop _).take _) (fun es=>by simp[flat])
   | _=>exact SimO.no
  | _=>exact SimO.no
 | .blt b a,R,m,de,env,q=>by
  by_cases hb:b=.list
  ·subst hb
   refine (ev_read H.r a R m de env q).bindO fun d w m1 l1 k1=>?_
   have k2:=args_sim k1
   simp only[bltD]
   split
   ·next x hx =>
    rw[hx] at k2
    obtain ⟨x',r,e0,p,q0⟩:=k2.cons_inv
    rw[e0,q0.nil_inv]
    split
    ·next z=>obtain ⟨ys,h,q⟩:=seq_sim p z;simp only[bltR,h];exact SimO.new q (fun es=>by simp[flat])
    ·exact SimO.no
   ·exact SimO.no
  ·exact (ev_read H.r (.blt b a) R m de env q).own fun d=>by cases b <;> first | exact absurd rfl hb | rfl
 | .lst a,R,m,de,env,q=>by
  have ih:=ev_own H a R m de env q
  show SimO R m _ ((evE cl a env m).bind fun x m1=>alloc m1 (argsOf x)) ((evD cd a de).bind fun x=>newD (argsD x))
  cases ea:evD cd a de with
  | no=>trivial
  | exc c d=>rw[ea] at ih;obtain ⟨w,m',h,l,k⟩:=ih;rw[h];exact ⟨w,m',rfl,l,k⟩
  | ok d =>
   rw[ea] at ih
   have hs:=ih.sim
   obtain ⟨w,m1,A,h,l,k,nd,hA⟩:=ih
   obtain ⟨w',m1',h',_,ks⟩:=hs
   rw[h] at h';cases h'
   rw[h]
   simp only[Rz.bind,Rd.bind]
   have ka:=args_sim ks
   cases z:lvE lev a (.tup (argsD d)) == .full with
   | false=>exact SimO.newTop l ka (by simp[flat,z])
   | true =>
    have z':lvE lev a (.tup (argsD d))=.full:=by simpa using z
    have own:∃ B,OwnL m1 (argsD d) (argsOf w) B/\B.Nodup/\∀ b ∈ B,m.length<=b:=by
     cases d with
     | tup ds =>
      rw[show lvE lev a (.tup ds)=.full from z'] at k
      obtain ⟨xs,rfl,k1⟩:=own_tup.mp k
      exact ⟨A,k1,nd,hA⟩
     | _=>refine ⟨[],?_,List.nodup_nil,by simp⟩;exact ka.flat _ _ rfl
    obtain ⟨B,o,nb,hB⟩:=own
    exact SimO.newOwn l o nb hB (by simp[flat,z]) ka.len
 | .tup a,R,m,de,env,q=>by
  have ih:=ev_own H a R m de env q
  have el:lvE lev (.tup a)=lvE lev a:=by funext d;simp
  rw[el]
  show SimO R m _ ((evE cl a env m).bind fun x m1=>if (argsOf x).length<=lim then .ok (.tup (argsOf x)) m1 else .no) ((evD cd a de).bind fun x=>if (argsD x).length<=lim then .ok (.tup (argsD x)) else .no)
  cases ea:evD cd a de with
  | no=>trivial
  | exc c d=>rw[ea] at ih;obtain ⟨w,m',h,l,k⟩:=ih;rw[h];exact ⟨w,m',rfl,l,k⟩
  | ok d =>
   rw[ea] at ih
   have hs:=ih.sim
   obtain ⟨w,m1,A,h,l,k,nd,hA⟩:=ih
   obtain ⟨w',m1',h',_,ks⟩:=hs
   rw[h] at h';cases h'
   rw[h]
   have ka:=args_sim ks
   simp only[Rz.bind,Rd.bind,ka.len]
   split
   ·cases d with
    | tup ds =>
     obtain ⟨xs,rfl,_⟩:=rep_tup.mp ks
     exact ⟨_,m1,A,rfl,l,k,nd,hA⟩
    | _ =>
     refine ⟨_,m1,[],rfl,l,?_,List.nodup_nil,by simp⟩
     rw[lvE_flat lev a _ (by rfl)]
     exact own_tup.mpr ⟨_,rfl,ka.flat _ _ rfl⟩
   ·trivial
 | .pair a b,R,m,de,env,q=>by
  have iha:=ev_own H a R m de env q.left
  show SimO R m _ ((evE cl a env m).bind fun x m1=>(evE cl b env m1).bind fun y m2=>.ok (.tup (x::argsOf y)) m2) ((evD cd a de).bind fun x=>(evD cd b de).bind fun y=>.ok (.tup (x::argsD y)))
  cases ea:evD cd a de with
  | no=>trivial
  | exc c d=>rw[ea] at iha;obtain ⟨w,m',h,l,k⟩:=iha;rw[h];exact ⟨w,m',rfl,l,k⟩
  | ok d =>
   rw[ea] at iha
   have hs:=iha.sim
   obtain ⟨w,m1,A,h,l,k,nd,hA⟩:=iha
   obtain ⟨w',m1',h',_,ks⟩:=hs
   rw[h] at h';cases h'
   rw[h]
   simp only[Rz.bind,Rd.bind]
   have ihb:=ev_own H b _ m1 de env (q.right.up (R':=Rf R m.length) (fun _=>.inl) l)
   cases eb:evD cd b de with
   | no=>trivial
   | exc c d=>rw[eb] at ihb;obtain ⟨w,m',h,l2,k⟩:=ihb;rw[h];exact SimE.lift (rd:=.exc c d) l ⟨w,m',rfl,l2,k⟩
   | ok d2 =>
    rw[eb] at ihb
    have hs2:=ihb.sim
    obtain ⟨w2,m2,A2,h2,l2,k2,nd2,hA2⟩:=ihb
    obtain ⟨w2',m2',h2',_,ks2⟩:=hs2
    rw[h2] at h2';cases h2'
    rw[h2]
    simp only
    have ka:=args_sim ks2
    have hl1:=l.len
    cases z:(lvE lev a d == .full && lvE lev b (.tup (argsD d2)) == .full) with
    | false =>
     have:SimE R m (.ok (.tup (w::argsOf w2)) m2) (.ok (.tup (d::argsD d2))) :=
      SimE.lift l (SimE.lift l2 (SimE.here (rep_tup.mpr ⟨_,rfl,.cons (ks.up _ l2) ka⟩)))
     obtain ⟨w3,m3,h3,l3,k3⟩:=this
     refine ⟨w3,m3,[],h3,l3,?_,List.nodup_nil,by simp⟩
     by_cases f:flat (.tup (d::argsD d2))=true
     ·rw[lvE_flat lev _ _ f];exact k3.flat _ w3 f
     ·have:lvE lev (.pair a b) (.tup (d::argsD d2))=.no:=by
       rw[lv_pair,if_neg f];simp only[z];rfl
      rw[this]
      exact ⟨Rep.frame (fun l o r z=>⟨⟨r,by simp⟩,z⟩) _ w3 k3,rfl⟩
    | true =>
     rw[Bool.and_eq_true] at z
     have z1:lvE lev a d=.full:=by simpa using z.1
     have z2:lvE lev b (.tup (argsD d2))=.full:=by simpa using z.2
     rw[z1] at k
     have own:∃ B,OwnL m2 (argsD d2) (argsOf w2) B/\B.Nodup/\∀ b ∈ B,m1.length<=b:=by
      cases d2 with
      | tup ds =>
       rw[show lvE lev b (.tup ds)=.full from z2] at k2
       obtain ⟨xs,rfl,k3⟩:=own_tup.mp k2
       exact ⟨A2,k3,nd2,hA2⟩
      | _=>refine ⟨[],?_,List.nodup_nil,by simp⟩;exact ka.flat _ _ rfl
     obtain ⟨B,o,nb,hB⟩:=own
     refine ⟨_,m2,A++B,rfl,l.trans l2,?_,?_,?_⟩
     ·have:lvE lev (.pair a b) (.tup (d::argsD d2))=.full:=by
       rw[lv_pair];simp only[z1,z2];simp
      rw[this]
      exact own_tup.mpr ⟨_,rfl,.cons (Own.frame d w A (fun x _ o q=>l2 x o q) k) o⟩
     ·refine List.nodup_append.mpr ⟨nd,nb,fun x hx y hy e=>?_⟩
      have:=Own.lt d w A k x hx
      have:=hB y hy
      lia
     ·intro x hx
      rcases List.mem_append.mp hx with hx | hx
      ·exact hA x hx
      ·have:=hB x hx;lia
 | .comp elt it cond,R,m,de,env,q=>by
  refine (ev_read H.r it R m de env q.left).bindO fun d w m1 l1 k1=>?_
  have hc:∀ (R':Nat->Prop) m' d x,(∀ l,Rf R m.length l->R' l)->Le m1 m'->Rep R' m' d x->SimE R' m' (evE cl cond (env++[some x]) m') (evD cd cond (de++[some d])) :=
   fun R' m' d x hR l k=>ev_read H.r cond R' m' _ _ ((q.right.right.up (fun l h=>hR l (.inl h)) (l1.trans l)).push k)
  have he:∀ (R':Nat->Prop) m' d x,(∀ l,Rf R m.length l->R' l)->Le m1 m'->Rep R' m' d x->SimO R' m' (lvE lev elt) (evE cl elt (env++[some x]) m') (evD cd elt (de++[some d])) :=
   fun R' m' d x hR l k=>ev_own H elt R' m' _ _ ((q.right.left.up (fun l h=>hR l (.inl h)) (l1.trans l)).push k)
  have hl:∀ ds,lvE lev (.comp elt it cond) (.lst ds)=if ds.all (fun x=>lvE lev elt x == .full) then .full else .top:=fun ds=>by simp[flat]
  have acc0:AccO m1 m1 (lvE lev elt) [] []:=fun _=>⟨[],.nil,List.nodup_nil,by simp⟩
  cases d with
  | tup ds =>
   obtain ⟨xs,rfl,k2⟩:=rep_tup.mp k1
   exact (comp_ownL hc he ds xs [] [] m1 (Le.refl _) (k2.up _ (Le.refl _)) .nil acc0).sim hl
  | scr ns =>
   rw[rep_scr.mp k1]
   exact (comp_ownL hc he (ns.map .int) (ns.map .int) [] [] m1 (Le.refl _) (RepL.ints ns) .nil acc0).sim hl
  | lst ds =>
   obtain ⟨l,xs,rfl,_,hm,k2⟩:=rep_lst.mp k1
   simp only[itD]
   by_cases z:ds.length<=lim
   ·rw[if_pos z]
    have hl':=k2.len
    exact (comp_ownR hm hc he ds 0 (lim+1) [] [] m1 (Le.refl _) (by simpa using (k2.up _ (Le.refl _))) (by lia) (by lia) .nil acc0).sim hl
   ·rw[if_neg z];exact SimO.no
  | _=>exact SimO.no
 | .compP _ _ _ _ _,R,m,de,env,q=>SimO.no
 | .var i,R,m,de,env,q=>(ev_read H.r _ R m de env q).own fun d=>rfl
 | .lit w,R,m,de,env,q=>(ev_read H.r _ R m de env q).own fun d=>rfl
 | .neg a,R,m,de,env,q=>(ev_read H.r _ R m de env q).own fun d=>rfl
 | .not a,R,m,de,env,q=>(ev_read H.r _ R m de env q).own fun d=>rfl
 | .and a b,R,m,de,env,q=>(ev_read H.r _ R m de env q).own fun d=>rfl
 | .or a b,R,m,de,env,q=>(ev_read H.r _ R m de env q).own fun d=>rfl
 | .cmp op a b,R,m,de,env,q=>(ev_read H.r _ R m de env q).own fun d=>rfl
 | .chain o p a b c,R,m,de,env,q=>(ev_read H.r _ R m de env q).own fun d=>rfl
 | .ife c a b,R,m,de,env,q=>(ev_read H.r _ R m de env q).own fun d=>rfl
 | .unit,R,m,de,env,q=>(ev_read H.r _ R m de env q).own fun d=>rfl
 | .isi t a,R,m,de,env,q=>(ev_read H.r _ R m de env q).own fun d=>rfl
 | .dict0,R,m,de,env,q=>(ev_read H.r _ R m de env q).own fun d=>rfl
 | .idx a b,R,m,de,env,q=>(ev_read H.r _ R m de env q).own fun d=>rfl
 | .meth _ _ _,R,m,de,env,q=>(ev_read H.r _ R m de env q).own fun d=>rfl
 | .rng a b c,R,m,de,env,q=>(ev_read H.r _ R m de env q).own fun d=>rfl
set_option genInjectivity false in
inductive Rsd where
 | next (de:DEn) (lv:List Lv) | ret (d:Dat) (l:Lv) | brk (de:DEn) (lv:List Lv) | cont (de:DEn) (lv:List Lv) | exc (c:Nat) (d:Dat) | no
deriving Inhabited
noncomputable def Rd.bindS (r:Rd) (f:Dat->Rsd):Rsd:=match r with
 | .ok d=>f d
 | .exc c d=>.exc c d
 | .no=>.no
noncomputable def Rd.okS (r:Rd) (f:Dat->Rsd):Rsd:=match r with
 | .ok d=>f d
 | _=>.no
noncomputable def downs:List Nat->List Lv->List Lv
 | [],lv=>lv
 | i::vs,lv=>downs vs (lv.set i .no)
noncomputable def topD (de:DEn) (j:Nat) (lv:List Lv):List Lv:=match de[j]?,lv[j]? with
 | some (some (.lst _)),some .full=>lv.set j .top
 | some (some (.lst _)),some .top=>lv.set j .top
 | _,_=>lv.set j .no
noncomputable def relE (e:Ex) (de:DEn) (lv:List Lv):List Lv:=match e with
 | .idx (.var j) b=>topD de j (downs (vars b) lv)
 | e=>downs (vars e) lv
mutual
noncomputable def dep:Dat->Nat
 | .lst xs=>depL xs+1
 | .tup xs=>depL xs+1
 | .non=>0
 | .bl _=>0
 | .int _=>0
 | .str _=>0
 | .scr _=>0
noncomputable def depL:List Dat->Nat
 | []=>0
 | d::ds=>max (dep d) (depL ds)
end
noncomputable def owned (lv:List Lv) (j:Nat):Bool:=match lv[j]? with
 | some .top=>true
 | some .full=>true
 | _=>false
noncomputable def giveE (lev:Nat->Lv) (e:Ex) (d:Dat) (j:Nat) (de:DEn) (lv:List Lv):Option (DEn × List Lv) :=
 if owned lv j=false then none
 else if lvE lev e d=.full then some (de,lv)
 else if j ∈ vars e then none
 else match e with
  | .var i=>if lv[i]?=some .full/\lv[j]?=some .full then some (de.set i none,lv) else some (de,(downs [i] lv).set j .top)
  | e=>some (de,(relE e de lv).set j .top)
noncomputable def loopD {α:Type}(body:α->DEn->List Lv->Rsd):List α->DEn->List Lv->Rsd
 | [],de,lv=>.next de lv
 | x::xs,de,lv=>match body x de lv with
  | .next d1 l1=>loopD body xs d1 l1
  | .cont d1 l1=>loopD body xs d1 l1
  | .brk d1 l1=>.next d1 l1
  | r=>r
noncomputable def lvF (d:Dat):Lv:=if flat d then .full else .no
noncomputable def lvR (lev:Nat->Lv) (e:Ex) (d:Dat) (lv:List Lv):Lv:=if flat d then .full else match e with
 | .var i=>(lv[i]?).getD .no
 | .tup (.pair (.var a) (.pair (.var b) .unit))=>if a ≠ b/\lv[a]?=some .full/\lv[b]?=some .full then .full else .no
 | e=>lvE lev e d
noncomputable def lsAt (de:DEn) (j:Nat):Option (List Dat):=match de[j]? with
 | some (some (.lst ds))=>some ds
 | _=>none
noncomputable def asgD (lev:Nat->Lv) (i:Nat) (e:Ex) (d:Dat) (de:DEn) (lv:List Lv):Rsd :=
 if lvE lev e d=.full then .next (de.set i (some d)) (lv.set i .full) else .next (de.set i (some d)) ((relE e de lv).set i (lvE lev e d))
noncomputable def viewSw (s t:Sm):Option (Nat × Nat × Ex × Ex × Ex × Ex × Ex):=match t with
 | .swapS (.var i1) p (.var i2) q (.idx (.var i3) c) (.idx (.var i4) d)=>match s with
  | .asg i (.idx (.var j) r)=>if i1=i/\i2=i/\i3=i/\i4=i/\i ≠ j then some (i,j,r,p,q,c,d) else none
  | _=>none
 | _=>none
noncomputable def exprD (lev:Nat->Lv) (cl:Nat->List Dat->Rd) (e:Ex) (de:DEn) (lv:List Lv):Rsd:=match e with
  | .meth .append (.var j) (.pair e .unit)=>(evD cl e de).okS fun d=>match lsAt de j with
   | some ds=>if ds.length < lim then match giveE lev e d j de lv with
    | some (de1,lv1)=>.next (de1.set j (some (.lst (ds++[d])))) lv1
    | none=>.no
    else .no
   | none=>.no
  | .meth .reverse (.var j) .unit=>match lsAt de j with
   | some ds=>if owned lv j then .next (de.set j (some (.lst ds.reverse))) lv else .no
   | none=>.no
  | .meth _ _ _=>.no
  | e=>(evD cl e de).bindS fun _=>.next de lv
noncomputable def exD (lev:Nat->Lv) (cl:Nat->List Dat->Rd):Sm->DEn->List Lv->Rsd
 | .skip,de,lv=>.next de lv
 | .seq a b,de,lv=>match viewSw a b with
  | some _=>.no
  | none=>match exD lev cl a de lv with
   | .next d1 l1=>exD lev cl b d1 l1
   | r=>r
 | .asg i e,de,lv=>(evD cl e de).bindS fun d=>asgD lev i e d de lv
 | .asgS _ _ _,_,_=>.no
 | .swapS _ _ _ _ _ _,_,_=>.no
 | .aug _ _ _,_,_=>.no
 | .augS _ _ _ _,_,_=>.no
 | .ite c a b,de,lv=>(evD cl c de).bindS fun x=>match x with
  | .bl true=>exD lev cl a de lv
  | .bl false=>exD lev cl b de lv
  | _=>.no
 | .forv i it body,de,lv=>(evD cl it de).bindS fun d=>match itD d with
  | some xs=>loopD (fun x de lv=>exD lev cl body (de.set i (some x)) (lv.set i (lvF x))) xs de (if flat d then lv else relE it de lv)
  | none=>.no
 | .fort _ _ _ _,_,_=>.no
 | .while _ _,_,_=>.no
 | .ret e,de,lv=>(evD cl e de).bindS fun d=>.ret d (lvR lev e d lv)
 | .retN,_,_=>.no
 | .expr e,de,lv=>exprD lev cl e de lv
 | .forA _ _ _,_,_=>.no
 | .forZ _ _ _ _ _,_,_=>.no
 | .forS _ _ _ _,_,_=>.no
 | .forC _ _,_,_=>.no
 | .appPop _ _ _ _,_,_=>.no
 | .forE _ _ _ _,_,_=>.no
 | .swapI _ _ _ _ _,_,_=>.no
 | .popV _ _,_,_=>.no
 | .popI _ _ _ _,_,_=>.no
 | .unp3 _ _ _ _,_,_=>.no
 | .brk,_,_=>.no
 | .cont,_,_=>.no
 | .never,_,_=>.no
theorem exD_seq {lev:Nat->Lv}{cl:Nat->List Dat->Rd}{a b:Sm}{de:DEn}{lv:List Lv}:exD lev cl (.seq a b) de lv=match viewSw a b with
  | some _=>.no
  | none=>match exD lev cl a de lv with
   | .next d1 l1=>exD lev cl b d1 l1
   | r=>r:=rfl
noncomputable def startD (fn:Fn) (ds:List Dat):DEn:=ds.map some++List.replicate (fn.sz - ds.length) none
noncomputable def startL (fn:Fn) (ds:List Dat):List Lv:=ds.map lvF++List.replicate (fn.sz - ds.length) .full
noncomputable def geLv:Lv->Lv->Bool
 | _,.no=>true
 | .full,.full=>true
 | .top,.top=>true
 | _,_=>false
noncomputable def endD (l:Lv):Rsd->Rd
 | .next _ _=>.ok .non
 | .ret d k=>if flat d || geLv k l then .ok d else .no
 | .exc c d=>.exc c d
 | _=>.no
noncomputable def runD (lev:Nat->Lv) (cl:Nat->List Dat->Rd) (k:Nat) (fn:Fn) (ds:List Dat):Rd :=
 if ds.length=fn.ar then endD (lev k) (exD lev cl fn.body (startD fn ds) (startL fn ds)) else .no
noncomputable def callD (lev:Nat->Lv) (T:List Fn):Nat->Nat->List Dat->Rd
 | 0,_,_=>.no
 | d+1,k,ds=>match T[k]? with
  | some fn=>runD lev (callD lev T d) k fn ds
  | none=>.no
def Free (RR:Nat->Prop) (A:Nat->List Nat):Nat->Prop:=fun l=>RR l/\∀ i,l ∉ A i
structure Inv (lo:Nat) (RR:Nat->Prop) (m:Me) (de:DEn) (lv:List Lv) (env:En) (A:Nat->List Nat):Prop where
 len:de.length=env.length
 lvl:lv.length=de.length
 rr:∀ l,lo<=l->RR l
 lom:lo<=m.length
 slot:∀ i d l,de[i]?=some (some d)->lv[i]?=some l->∃ w,env[i]?=some (some w)/\RepO (Free RR A) m l d w (A i)
 nd:∀ i,(A i).Nodup
 dj:∀ i j a,a ∈ A i->a ∈ A j->i=j
 bd:∀ i a,a ∈ A i->lo<=a/\a < m.length
def Keep (A:Nat->List Nat) (m:Me) (A':Nat->List Nat) (m':Me):Prop:=(∀ (l:Nat) o,(∀ i,l ∉ A i)->m[l]?=some o->(∀ i,l ∉ A' i)/\m'[l]?=some o)/\m.length<=m'.length
theorem Keep.refl (A:Nat->List Nat) (m:Me):Keep A m A m:=⟨fun _ _ h k=>⟨h,k⟩,Nat.le_refl _⟩
theorem Keep.trans {A B C:Nat->List Nat}{m m1 m2:Me}(h:Keep A m B m1) (k:Keep B m1 C m2):Keep A m C m2 :=
 ⟨fun l o a b=>k.1 l o (h.1 l o a b).1 (h.1 l o a b).2,Nat.le_trans h.2 k.2⟩
theorem Keep.rep {A A':Nat->List Nat}{m m':Me}{RR:Nat->Prop}{d:Dat}{w:Wd}(h:Keep A m A' m') (q:Rep (Free RR A) m d w):Rep (Free RR A') m' d w :=
 Rep.frame (fun l o r z=>⟨⟨r.1,(h.1 l o r.2 z).1⟩,(h.1 l o r.2 z).2⟩) d w q
theorem Keep.repL {A A':Nat->List Nat}{m m':Me}{RR:Nat->Prop}{d:List Dat}{w:List Wd}(h:Keep A m A' m') (q:RepL (Free RR A) m d w):RepL (Free RR A') m' d w :=
 RepL.frame (fun l o r z=>⟨⟨r.1,(h.1 l o r.2 z).1⟩,(h.1 l o r.2 z).2⟩) d w q
theorem Inv.getlv {lo:Nat}{RR:Nat->Prop}{m:Me}{de:DEn}{lv:List Lv}{env:En}{A:Nat->List Nat}(I:Inv lo RR m de lv env A) {i:Nat}{o:Option Dat}(h:de[i]?=some o):∃ l,lv[i]?=some l:=by
 obtain ⟨hi,_⟩:=List.getElem?_eq_some_iff.mp h
 exact ⟨_,List.getElem?_eq_getElem (by rw[I.lvl];exact hi)⟩
theorem Inv.envR {lo:Nat}{RR:Nat->Prop}{m:Me}{de:DEn}{lv:List Lv}{env:En}{A:Nat->List Nat}(I:Inv lo RR m de lv env A) (vs:List Nat):EnvR RR m vs de env :=
 ⟨I.len,fun i _ d h=>by
  obtain ⟨l,hl⟩:=I.getlv h
  obtain ⟨w,a,b⟩:=I.slot i d l h hl
  exact ⟨w,a,b.rep (fun _ z=>z.1) (fun a ha=>I.rr a (I.bd i a ha).1)⟩⟩
theorem Inv.ext {lo:Nat}{RR:Nat->Prop}{m m':Me}{de:DEn}{lv:List Lv}{env:En}{A:Nat->List Nat}(I:Inv lo RR m de lv env A) (h:Le m m'):Inv lo RR m' de lv env A :=
 ⟨I.len,I.lvl,I.rr,Nat.le_trans I.lom h.len,fun i d l a b=>by
  obtain ⟨w,p,q⟩:=I.slot i d l a b
  exact ⟨w,p,q.frame (fun l o r z=>⟨r,h l o z⟩) (fun l _ o z=>h l o z)⟩,I.nd,I.dj,fun i a ha=>⟨(I.bd i a ha).1,Nat.lt_of_lt_of_le (I.bd i a ha).2 h.len⟩⟩
theorem keep_le {A:Nat->List Nat}{m m':Me}(h:Le m m'):Keep A m A m':=⟨fun l o a b=>⟨a,h l o b⟩,h.len⟩
noncomputable def upd (A:Nat->List Nat) (i:Nat) (B:List Nat):Nat->List Nat:=fun k=>if k=i then B else A k
theorem upd_same {A:Nat->List Nat}{i:Nat}{B:List Nat}:upd A i B i=B:=by simp[upd]
theorem upd_ne {A:Nat->List Nat}{i k:Nat}{B:List Nat}(h:k ≠ i):upd A i B k=A k:=by simp[upd,h]
theorem Inv.store {lo:Nat}{RR:Nat->Prop}{m m':Me}{de:DEn}{lv:List Lv}{env:En}{A:Nat->List Nat}(I:Inv lo RR m de lv env A) (h:Le m m') (i:Nat) {d:Dat}{l:Lv}{w:Wd}{B:List Nat}
  (q:RepO (fun l=>(Free RR A l\/m.length<=l)/\l ∉ B) m' l d w B) (nd:B.Nodup) (hB:∀ b ∈ B,m.length<=b) :
  Inv lo RR m' (de.set i (some d)) (lv.set i l) (env.set i (some w)) (upd A i B)/\Keep A m (upd A i B) m':=by
 have hlt:=q.lt
 have fr:∀ (x:Nat) (o:Ob),(∀ k,x ∉ A k)->m[x]?=some o->∀ k,x ∉ upd A i B k:=by
  intro x o hx hm k
  by_cases e:k=i
  ·subst e;rw[upd_same];intro hb
   have:=hB x hb
   have:=(List.getElem?_eq_some_iff.mp hm).1
   lia
  ·rw[upd_ne e];exact hx k
 refine ⟨⟨by simp[I.len],by simp[I.lvl],I.rr,Nat.le_trans I.lom h.len,?_,?_,?_,?_⟩,⟨fun x o hx hm=>⟨fr x o hx hm,h x o hm⟩,h.len⟩⟩
 ·intro k e l' h1 h2
  by_cases z:k=i
  ·rw[z] at h1 h2 ⊢
   rw[List.getElem?_set] at h1 h2
   rw[if_pos rfl] at h1 h2
   split at h1
   ·split at h2
    ·next q1 q2 =>
     cases h1;cases h2
     refine ⟨w,by rw[List.getElem?_set,if_pos rfl,if_pos (by rw[<- I.len];exact q1)],?_⟩
     rw[upd_same]
     refine q.frame (fun x o r hm=>⟨⟨?_,fun k=>?_⟩,hm⟩) (fun _ _ _ z=>z)
     ·rcases r.1 with r1 | r1
      ·exact r1.1
      ·exact I.rr x (Nat.le_trans I.lom r1)
     ·by_cases e:k=i
      ·subst e;rw[upd_same];exact r.2
      ·rw[upd_ne e]
       rcases r.1 with r1 | r1
       ·exact r1.2 k
       ·intro ha;have:=(I.bd k x ha).2;lia
    ·cases h2
   ·cases h1
  ·rw[List.getElem?_set_ne (Ne.symm z)] at h1 h2
   obtain ⟨w',a,b⟩:=I.slot k e l' h1 h2
   refine ⟨w',by rw[List.getElem?_set_ne (Ne.symm z)];exact a,?_⟩
   rw[upd_ne z]
   exact b.frame (fun x o r hm=>⟨⟨r.1,fr x o r.2 hm⟩,h x o hm⟩) (fun x _ o hm=>h x o hm)
 ·intro k
  by_cases e:k=i
  ·subst e;rw[upd_same];exact nd
  ·rw[upd_ne e];exact I.nd k
 ·intro k j a ha hb
  by_cases e:k=i
  ·subst e;rw[upd_same] at ha
   by_cases f:j=k
   ·exact f.symm
   ·rw[upd_ne f] at hb
    have:=hB a ha
    have:=(I.bd j a hb).2
    lia
  ·rw[upd_ne e] at ha
   by_cases f:j=i
   ·subst f;rw[upd_same] at hb
    have:=hB a hb
    have:=(I.bd k a ha).2
    lia
   ·rw[upd_ne f] at hb;exact I.dj k j a ha hb
 ·intro k a ha
  by_cases e:k=i
  ·subst e;rw[upd_same] at ha
   exact ⟨Nat.le_trans I.lom (hB a ha),hlt a ha⟩
  ·rw[upd_ne e] at ha
   exact ⟨(I.bd k a ha).1,Nat.lt_of_lt_of_le (I.bd k a ha).2 h.len⟩
theorem Inv.weak {lo:Nat}{RR:Nat->Prop}{m:Me}{de:DEn}{lv:List Lv}{env:En}{A:Nat->List Nat}(I:Inv lo RR m de lv env A) (i:Nat) {l:Lv}{B:List Nat}
  (hB:∀ b ∈ B,b ∈ A i) (nd:B.Nodup) (q:∀ d w,de[i]?=some (some d)->env[i]?=some (some w)->RepO (Free RR (upd A i B)) m l d w B) :
  Inv lo RR m de (lv.set i l) env (upd A i B)/\Keep A m (upd A i B) m:=by
 have fr:∀ x,(∀ k,x ∉ A k)->∀ k,x ∉ upd A i B k:=by
  intro x hx k
  by_cases e:k=i
  ·subst e;rw[upd_same];intro hb;exact hx _ (hB x hb)
  ·rw[upd_ne e];exact hx k
 have sub:∀ k a,a ∈ upd A i B k->a ∈ A k:=by
  intro k a ha
  by_cases e:k=i
  ·subst e;rw[upd_same] at ha;exact hB a ha
  ·rw[upd_ne e] at ha;exact ha
 refine ⟨⟨I.len,by simp[I.lvl],I.rr,I.lom,?_,?_,fun k j a ha hb=>I.dj k j a (sub k a ha) (sub j a hb),fun k a ha=>I.bd k a (sub k a ha)⟩,⟨fun x o hx hm=>⟨fr x hx,hm⟩,Nat.le_refl _⟩⟩
 ·intro k e l' h1 h2
  by_cases z:k=i
  ·subst z
   rw[List.getElem?_set,if_pos rfl] at h2
   split at h2
   ·cases h2
    obtain ⟨l0,hl0⟩:=I.getlv h1
    obtain ⟨w,a,_⟩:=I.slot k e l0 h1 hl0
    refine ⟨w,a,?_⟩
    rw[upd_same]
    exact q e w h1 a
   ·cases h2
  ·rw[List.getElem?_set_ne (Ne.symm z)] at h2
   obtain ⟨w',a,b⟩:=I.slot k e l' h1 h2
   refine ⟨w',a,?_⟩
   rw[upd_ne z]
   exact b.frame (fun x o r hm=>⟨⟨r.1,fr x r.2⟩,hm⟩) (fun x _ o hm=>hm)
 ·intro k
  by_cases e:k=i
  ·subst e;rw[upd_same];exact nd
  ·rw[upd_ne e];exact I.nd k
theorem Inv.down {lo:Nat}{RR:Nat->Prop}{m:Me}{de:DEn}{lv:List Lv}{env:En}{A:Nat->List Nat}(I:Inv lo RR m de lv env A) (i:Nat) :
  Inv lo RR m de (lv.set i .no) env (upd A i [])/\Keep A m (upd A i []) m:=by
 refine I.weak i (by simp) List.nodup_nil fun d w h1 h2=>⟨?_,rfl⟩
 obtain ⟨l,hl⟩:=I.getlv h1
 obtain ⟨w',a,b⟩:=I.slot i d l h1 hl
 rw[h2] at a;cases a
 refine b.rep (fun x r=>⟨r.1,fun k=>?_⟩) (fun x hx=>⟨I.rr x (I.bd i x hx).1,fun k=>?_⟩)
 ·by_cases e:k=i
  ·subst e;rw[upd_same];simp
  ·rw[upd_ne e];exact r.2 k
 ·by_cases e:k=i
  ·subst e;rw[upd_same];simp
  ·rw[upd_ne e];intro ha;exact e (I.dj k i x ha hx)
theorem downs_get:∀ (vs:List Nat) (lv:List Lv) (k:Nat),(downs vs lv)[k]?=if k ∈ vs/\k < lv.length then some .no else lv[k]?
 | [],lv,k=>by simp[downs]
 | i::vs,lv,k=>by
  unfold downs
  rw[downs_get vs (lv.set i .no) k]
  rw[List.length_set,List.getElem?_set]
  by_cases a:k ∈ vs/\k < lv.length
  ·rw[if_pos a,if_pos ⟨List.mem_cons_of_mem _ a.1,a.2⟩]
  ·rw[if_neg a]
   by_cases e:i=k
   ·subst e
    by_cases b:i < lv.length
    ·simp[b]
    ·simp[b]
   ·rw[if_neg e]
    by_cases c:k ∈ vs
    ·have:¬ k < lv.length:=fun z=>a ⟨c,z⟩
     rw[if_neg (fun z=>this z.2)]
    ·rw[if_neg (fun z=>by rcases List.mem_cons.mp z.1 with z1 | z1;exact e z1.symm;exact c z1)]
theorem Inv.downs {lo:Nat}{RR:Nat->Prop}{m:Me}{de:DEn}{env:En}:∀ (vs:List Nat) {lv:List Lv}{A:Nat->List Nat},Inv lo RR m de lv env A ->
  ∃ A',Inv lo RR m de (downs vs lv) env A'/\Keep A m A' m/\(∀ i ∈ vs,A' i=[])/\(∀ i,A' i=A i\/A' i=[])/\∀ i,i ∉ vs->A' i=A i
 | [],lv,A,I=>⟨A,I,Keep.refl A m,by simp,fun i=>.inl rfl,fun _ _=>rfl⟩
 | j::vs,lv,A,I=>by
  obtain ⟨I1,K1⟩:=I.down j
  obtain ⟨A',I2,K2,h1,h2,h3⟩:=Inv.downs vs I1
  refine ⟨A',I2,K1.trans K2,fun i hi=>?_,fun i=>?_,fun i hi=>?_⟩
  ·by_cases q:i ∈ vs
   ·exact h1 i q
   ·rw[h3 i q]
    rcases List.mem_cons.mp hi with rfl | hi
    ·exact upd_same
    ·exact absurd hi q
  ·rcases h2 i with z | z
   ·rw[z]
    by_cases e:i=j
    ·subst e;right;exact upd_same
    ·left;exact upd_ne e
   ·exact .inr z
  ·have:i ≠ j:=fun e=>hi (by rw[e];simp)
   rw[h3 i (fun z=>hi (List.mem_cons_of_mem _ z)),upd_ne this]
theorem Inv.top {lo:Nat}{RR:Nat->Prop}{m:Me}{de:DEn}{lv:List Lv}{env:En}{A:Nat->List Nat}(I:Inv lo RR m de lv env A) (j:Nat) {ds:List Dat}(hd:de[j]?=some (some (.lst ds))) (hj:owned lv j=true) :
  ∃ l xs A',Inv lo RR m de (lv.set j .top) env A'/\Keep A m A' m/\A' j=[l]/\(∀ i,i ≠ j->A' i=A i)/\env[j]?=some (some (.ref l))/\m[l]?=some (.lst xs)/\RepL (Free RR A') m ds xs/\l ∈ A j:=by
 unfold owned at hj
 obtain ⟨lj,hl⟩:=I.getlv hd
 obtain ⟨w,a,b⟩:=I.slot j _ lj hd hl
 rw[hl] at hj
 have key:∃ l xs,w=.ref l/\l ∈ A j/\m[l]?=some (.lst xs)/\RepL (Free RR (upd A j [l])) m ds xs:=by
  cases lj with
  | no=>simp at hj
  | top =>
   obtain ⟨es,l,xs,e,rfl,hA,hm,r⟩:=b
   cases e
   refine ⟨l,xs,rfl,by rw[hA];simp,hm,RepL.frame (fun x o r z=>⟨⟨r.1,fun k=>?_⟩,z⟩) _ _ r⟩
   by_cases e:k=j
   ·subst e;rw[upd_same,<- hA];exact r.2 k
   ·rw[upd_ne e];exact r.2 k
  | full =>
   obtain ⟨l,xs,B,rfl,hA,hm,r⟩:=own_lst.mp b
   refine ⟨l,xs,rfl,by rw[hA];simp,hm,OwnL.rep ds xs B (fun x hx=>⟨I.rr x (I.bd j x (by rw[hA];exact List.mem_cons_of_mem _ hx)).1,fun k=>?_⟩) r⟩
   have nd:=I.nd j
   rw[hA] at nd
   by_cases e:k=j
   ·subst e;rw[upd_same];intro z;rw[List.mem_singleton.mp z] at hx;exact (List.nodup_cons.mp nd).1 hx
   ·rw[upd_ne e];intro z;exact e (I.dj k j x z (by rw[hA];exact List.mem_cons_of_mem _ hx))
 obtain ⟨l,xs,rfl,hA,hm,r⟩:=key
 obtain ⟨I',K⟩:=I.weak j (l:=.top) (B:=[l]) (by intro b hb;rw[List.mem_singleton.mp hb];exact hA) (by simp) fun d w h1 h2=>by
  rw[hd] at h1;cases h1
  rw[a] at h2;cases h2
  exact ⟨ds,l,xs,rfl,rfl,rfl,hm,r⟩
 exact ⟨l,xs,_,I',K,upd_same,fun i hi=>upd_ne hi,a,hm,r,hA⟩
theorem get_set_ne {m:Me}{l x:Nat}{o:Ob}(h:l ≠ x):(m.set l o)[x]?=m[x]?:=List.getElem?_set_ne h
theorem get_set_same {m:Me}{l:Nat}{o p:Ob}(h:m[l]?=some p):(m.set l o)[l]?=some o:=by
 rw[List.getElem?_set,if_pos rfl,if_pos (List.getElem?_eq_some_iff.mp h).1]
theorem Inv.put {lo:Nat}{RR:Nat->Prop}{m m1:Me}{de:DEn}{lv:List Lv}{env:En}{A:Nat->List Nat}(I:Inv lo RR m de lv env A) (le:Le m m1) {j l:Nat}{xs ys:List Wd}(hl:l ∈ A j) (A1:Nat->List Nat)
  (h3:∀ k a,a ∈ A1 k->(∃ k',a ∈ A k')\/m.length<=a) (nd1:∀ k,(A1 k).Nodup) (dj1:∀ i k a,a ∈ A1 i->a ∈ A1 k->i=k) (bd1:∀ k a,a ∈ A1 k->lo<=a/\a < m1.length)
  {de1:DEn}{lv1:List Lv}(len1:de1.length=de.length) (lvl1:lv1.length=lv.length)
  (live:∀ k d lk,k ≠ j->de1[k]?=some (some d)->lv1[k]?=some lk->de[k]?=some (some d)/\lv[k]?=some lk/\A1 k=A k)
  (sj:∀ d lj,de1[j]?=some (some d)->lv1[j]?=some lj->∃ w,env[j]?=some (some w)/\RepO (Free RR A1) (m1.set l (.lst ys)) lj d w (A1 j)) :
  Inv lo RR (m1.set l (.lst ys)) de1 lv1 env A1/\Keep A m A1 (m1.set l (.lst ys)):=by
 have fr:∀ (x:Nat) (o:Ob),(∀ k,x ∉ A k)->m[x]?=some o->(∀ k,x ∉ A1 k)/\(m1.set l (.lst ys))[x]?=some o:=by
  intro x o hx hm
  refine ⟨fun k ha=>?_,?_⟩
  ·rcases h3 k x ha with ⟨k',z⟩ | z
   ·exact hx k' z
   ·have:=(List.getElem?_eq_some_iff.mp hm).1;lia
  ·rw[get_set_ne (l:=l) (x:=x) (fun e=>hx j (by rw[<- e];exact hl))];exact le x o hm
 refine ⟨⟨len1.trans I.len,by rw[lvl1,I.lvl,len1],I.rr,by rw[List.length_set];exact Nat.le_trans I.lom le.len,?_,nd1,dj1,fun k a ha=>by rw[List.length_set];exact bd1 k a ha⟩,⟨fun x o hx hm=>fr x o hx hm,by rw[List.length_set];exact le.len⟩⟩
 intro k d lk h1 h2
 by_cases e:k=j
 ·subst e;exact sj d lk h1 h2
 ·obtain ⟨a,b,c⟩:=live k d lk e h1 h2
  obtain ⟨w,p,q⟩:=I.slot k d lk a b
  refine ⟨w,p,?_⟩
  rw[c]
  refine q.frame (fun x o r hm=>⟨⟨r.1,(fr x o r.2 hm).1⟩,(fr x o r.2 hm).2⟩) (fun x hx o hm=>?_)
  rw[get_set_ne (l:=l) (x:=x) (fun z=>e (I.dj k j x hx (by rw[<- z];exact hl)))]
  exact le x o hm
def ChgF (m m1:Me) (ds:List Dat) (xs:List Wd) (ds':List Dat) (ys:List Wd):Prop :=
 ∀ B,B.Nodup->OwnL m ds xs B->∃ B',OwnL m1 ds' ys B'/\B'.Nodup/\∀ b ∈ B',b ∈ B\/m.length<=b
def ChgT (RR:Nat->Prop) (A:Nat->List Nat) (m m1:Me) (ds:List Dat) (xs:List Wd) (ds':List Dat) (ys:List Wd):Prop :=
 RepL (Free RR A) m ds xs->RepL (fun x=>Free RR A x\/m.length<=x) m1 ds' ys
def Chg (RR:Nat->Prop) (A:Nat->List Nat) (m m1:Me) (ds:List Dat) (xs:List Wd) (ds':List Dat) (ys:List Wd):Prop :=
 (∀ B,B.Nodup->OwnL m ds xs B->∃ B',OwnL m1 ds' ys B'/\B'.Nodup/\∀ b ∈ B',b ∈ B\/m.length<=b)/\(RepL (Free RR A) m ds xs->RepL (fun x=>Free RR A x\/m.length<=x) m1 ds' ys)
theorem Inv.mut {lo:Nat}{RR:Nat->Prop}{m:Me}{de:DEn}{lv:List Lv}{env:En}{A:Nat->List Nat}(I:Inv lo RR m de lv env A) {j:Nat}{ds:List Dat}(hd:de[j]?=some (some (.lst ds))) (hj:owned lv j=true) :
  ∃ l xs,env[j]?=some (some (.ref l))/\m[l]?=some (.lst xs)/\RepL RR m ds xs/\∀ (m1:Me) (ds':List Dat) (ys:List Wd),Le m m1->(lv[j]?=some .full->ChgF m m1 ds xs ds' ys)->(lv[j]?=some .top->ChgT RR A m m1 ds xs ds' ys) ->
   ∃ A1,Inv lo RR (m1.set l (.lst ys)) (de.set j (some (.lst ds'))) lv env A1/\Keep A m A1 (m1.set l (.lst ys)):=by
 unfold owned at hj
 obtain ⟨lj,hl⟩:=I.getlv hd
 obtain ⟨w,a,b⟩:=I.slot j _ lj hd hl
 rw[hl] at hj
 have hjl:j < de.length:=(List.getElem?_eq_some_iff.mp hd).1
 have live:∀ (A1:Nat->List Nat),(∀ k,k ≠ j->A1 k=A k)->∀ (ds':List Dat) k d lk,k ≠ j->(de.set j (some (.lst ds')))[k]?=some (some d)->lv[k]?=some lk->de[k]?=some (some d)/\lv[k]?=some lk/\A1 k=A k:=by
  intro A1 h ds' k d lk e h1 h2
  rw[List.getElem?_set_ne (Ne.symm e)] at h1
  exact ⟨h1,h2,h k e⟩
 cases lj with
 | no=>simp at hj
 | top =>
  obtain ⟨es,l,xs,e,rfl,hA,hm,r⟩:=b
  cases e
  refine ⟨l,xs,a,hm,RepL.frame (fun _ _ r z=>⟨r.1,z⟩) _ _ r,fun m1 ds' ys le _ c=>⟨A,?_⟩⟩
  have hlm:=(List.getElem?_eq_some_iff.mp hm).1
  refine I.put le (j:=j) (l:=l) (xs:=xs) (by rw[hA];simp) A (fun k a ha=>.inl ⟨k,ha⟩) I.nd I.dj (fun k a ha=>⟨(I.bd k a ha).1,Nat.lt_of_lt_of_le (I.bd k a ha).2 le.len⟩) (by simp) rfl (live A (fun _ _=>rfl) ds') ?_
  intro d lj h1 h2
  rw[List.getElem?_set,if_pos rfl,if_pos hjl] at h1
  cases h1
  rw[hl] at h2;cases h2
  refine ⟨_,a,ds',l,ys,rfl,rfl,hA,get_set_same (le l _ hm),RepL.frame (fun x o r z=>?_) _ _ (c hl r)⟩
  rcases r with r | r
  ·exact ⟨r,by rw[get_set_ne (l:=l) (x:=x) (fun e=>r.2 j (by rw[hA,e];simp))];exact z⟩
  ·exact ⟨⟨I.rr x (Nat.le_trans I.lom r),fun k hk=>by have:=(I.bd k x hk).2;lia⟩,by rw[get_set_ne (l:=l) (x:=x) (by lia)];exact z⟩
 | full =>
  obtain ⟨l,xs,B,rfl,hA,hm,r⟩:=own_lst.mp b
  have hlm:=(List.getElem?_eq_some_iff.mp hm).1
  have nd:=I.nd j
  rw[hA] at nd
  refine ⟨l,xs,a,hm,OwnL.rep ds xs B (fun x hx=>I.rr x (I.bd j x (by rw[hA];exact List.mem_cons_of_mem _ hx)).1) r,fun m1 ds' ys le c _=>?_⟩
  obtain ⟨B',o,nb,hB⟩:=c hl B (List.nodup_cons.mp nd).2 r
  have hlB:l ∉ B':=fun z=>by
   rcases hB l z with z | z
   ·exact (List.nodup_cons.mp nd).1 z
   ·lia
  have sub:∀ x ∈ l::B',x ∈ A j\/m.length<=x:=by
   intro x hx
   rcases List.mem_cons.mp hx with rfl | hx
   ·left;rw[hA];simp
   ·rcases hB x hx with z | z
    ·left;rw[hA];exact List.mem_cons_of_mem _ z
    ·exact .inr z
  refine ⟨upd A j (l::B'),?_⟩
  refine I.put le (j:=j) (l:=l) (xs:=xs) (by rw[hA];simp) _ ?_ ?_ ?_ ?_ (by simp) rfl (live _ (fun k hk=>upd_ne hk) ds') ?_
  ·intro k x hx
   by_cases e:k=j
   ·subst e;rw[upd_same] at hx
    rcases sub x hx with z | z
    ·exact .inl ⟨k,z⟩
    ·exact .inr z
   ·rw[upd_ne e] at hx;exact .inl ⟨k,hx⟩
  ·intro k
   by_cases e:k=j
   ·subst e;rw[upd_same];exact List.nodup_cons.mpr ⟨hlB,nb⟩
   ·rw[upd_ne e];exact I.nd k
  ·intro i k x h1 h2
   by_cases e:i=j
   ·by_cases f:k=j
    ·rw[e,f]
    ·rw[e,upd_same] at h1;rw[upd_ne f] at h2
     rcases sub x h1 with z | z
     ·rw[e];exact I.dj j k x z h2
     ·have:=(I.bd k x h2).2;lia
   ·rw[upd_ne e] at h1
    by_cases f:k=j
    ·rw[f,upd_same] at h2
     rcases sub x h2 with z | z
     ·rw[f];exact I.dj i j x h1 z
     ·have:=(I.bd i x h1).2;lia
    ·rw[upd_ne f] at h2;exact I.dj i k x h1 h2
  ·intro k x hx
   by_cases e:k=j
   ·rw[e,upd_same] at hx
    rcases List.mem_cons.mp hx with rfl | hx
    ·exact ⟨(I.bd j _ (by rw[hA];simp)).1,Nat.lt_of_lt_of_le hlm le.len⟩
    ·refine ⟨?_,OwnL.lt ds' ys B' o x hx⟩
     rcases hB x hx with z | z
     ·exact (I.bd j x (by rw[hA];exact List.mem_cons_of_mem _ z)).1
     ·exact Nat.le_trans I.lom z
   ·rw[upd_ne e] at hx
    exact ⟨(I.bd k x hx).1,Nat.lt_of_lt_of_le (I.bd k x hx).2 le.len⟩
  ·intro d lj h1 h2
   rw[List.getElem?_set,if_pos rfl,if_pos hjl] at h1
   cases h1
   rw[hl] at h2;cases h2
   refine ⟨_,a,?_⟩
   rw[upd_same]
   exact own_lst.mpr ⟨l,ys,B',rfl,rfl,get_set_same (le l _ hm),OwnL.frame ds' ys B' (fun x hx o z=>by rw[get_set_ne (l:=l) (x:=x) (fun e=>hlB (by rw[e];exact hx))];exact z) o⟩
theorem OwnL.item {m:Me}:∀ {ds:List Dat}{xs:List Wd}{A:List Nat}{p:Nat}{d:Dat},OwnL m ds xs A->ds[p]?=some d->∃ x B,(xs[p]?=some x/\Own m d x B)/\∀ b ∈ B,b ∈ A
 | [],xs,A,p,d,h,z=>by simp at z
 | e::ds,xs,A,0,d,h,z=>by
  obtain ⟨x,r,B,C,rfl,rfl,a,b⟩:=h.cons_inv
  simp at z;subst z
  exact ⟨x,B,⟨rfl,a⟩,fun b hb=>List.mem_append_left _ hb⟩
 | e::ds,xs,A,p+1,d,h,z=>by
  obtain ⟨x,r,B,C,rfl,rfl,a,b⟩:=h.cons_inv
  obtain ⟨y,D,h1,h2⟩:=OwnL.item b (by simpa using z)
  exact ⟨y,D,by simpa using h1,fun b hb=>List.mem_append_right _ (h2 b hb)⟩
theorem OwnL.split {m:Me}:∀ {ds:List Dat}{xs:List Wd}{A:List Nat}{p:Nat}{d:Dat},OwnL m ds xs A->ds[p]?=some d ->
  ∃ x B1 Bp B2,xs[p]?=some x/\A=B1++(Bp++B2)/\Own m d x Bp/\(∀ (i:Nat) e y,i ≠ p->ds[i]?=some e->xs[i]?=some y->∃ Bi,Own m e y Bi/\∀ b ∈ Bi,b ∈ B1\/b ∈ B2)/\∀ (m':Me) (d':Dat) (x':Wd) (B':List Nat),(∀ l,l ∈ B1\/l ∈ B2->∀ o,m[l]?=some o->m'[l]?=some o)->Own m' d' x' B'->OwnL m' (ds.set p d') (xs.set p x') (B1++(B'++B2))
 | [],xs,A,p,d,h,z=>by simp at z
 | e::ds,xs,A,0,d,h,z=>by
  obtain ⟨x,r,B,C,rfl,rfl,a,b⟩:=h.cons_inv
  simp at z;subst z
  refine ⟨x,[],B,C,rfl,rfl,a,fun i e y hi h1 h2=>?_,fun m' d' x' B' fr o=>?_⟩
  ·cases i with
   | zero=>exact absurd rfl hi
   | succ i =>
    simp at h1 h2
    obtain ⟨y',Bi,o,hB⟩:=OwnL.item b h1
    rw[h2] at o;obtain ⟨o1,o2⟩:=o;cases o1
    exact ⟨Bi,o2,fun z hz=>.inr (hB z hz)⟩
  show OwnL m' (d'::ds) (x'::r) (B'++C)
  exact OwnL.cons o (OwnL.frame ds r C (fun l hl=>fr l (.inr hl)) b)
 | e::ds,xs,A,p+1,d,h,z=>by
  obtain ⟨x,r,B,C,rfl,rfl,a,b⟩:=h.cons_inv
  obtain ⟨y,B1,Bp,B2,h1,rfl,h3,h5,h4⟩:=OwnL.split b (by simpa using z)
  refine ⟨y,B++B1,Bp,B2,by simpa using h1,by simp[List.append_assoc],h3,fun i e' y' hi g1 g2=>?_,fun m' d' x' B' fr o=>?_⟩
  ·cases i with
   | zero=>simp at g1 g2;subst g1;subst g2;exact ⟨B,a,fun z hz=>.inl (List.mem_append_left _ hz)⟩
   | succ i =>
    simp at g1 g2
    obtain ⟨Bi,o,hB⟩:=h5 i e' y' (by lia) g1 g2
    exact ⟨Bi,o,fun z hz=>by rcases hB z hz with q | q;exact .inl (List.mem_append_right _ q);exact .inr q⟩
  rw[List.append_assoc]
  exact OwnL.cons (Own.frame e x B (fun l hl=>fr l (.inl (List.mem_append_left _ hl))) a) (h4 m' d' x' B' (fun l hl=>fr l (by rcases hl with hl | hl;exact .inl (List.mem_append_right _ hl);exact .inr hl)) o)
theorem chg_app {RR:Nat->Prop}{A:Nat->List Nat}{m m1:Me}{ds:List Dat}{xs:List Wd}{d:Dat}{w:Wd}{B0:List Nat}(le:Le m m1) (o:Own m1 d w B0) (nd:B0.Nodup) (hB:∀ b ∈ B0,m.length<=b):Chg RR A m m1 ds xs (ds++[d]) (xs++[w]):=by
 refine ⟨fun B nb q=>⟨B++(B0++[]),(OwnL.frame ds xs B (fun l _ o z=>le l o z) q).app (.cons o .nil),?_,?_⟩,fun q=>?_⟩
 ·rw[List.append_nil]
  refine List.nodup_append.mpr ⟨nb,nd,fun x hx y hy e=>?_⟩
  have:=OwnL.lt ds xs B q x hx
  have:=hB y hy
  lia
 ·intro b hb
  rw[List.append_nil] at hb
  rcases List.mem_append.mp hb with z | z
  ·exact .inl z
  ·exact .inr (hB b z)
 ·exact (RepL.frame (fun l o r z=>⟨.inl r,le l o z⟩) _ _ q).app (.cons (Own.rep d w B0 (fun b hb=>.inr (hB b hb)) o) .nil)
theorem OwnL.rev {m:Me}:∀ {ds:List Dat}{xs:List Wd}{A:List Nat},A.Nodup->OwnL m ds xs A->∃ B,OwnL m ds.reverse xs.reverse B/\B.Nodup/\∀ b ∈ B,b ∈ A
 | [],xs,A,nd,h=>by rw[h.nil_inv.1];exact ⟨[],.nil,List.nodup_nil,by simp⟩
 | d::ds,xs,A,nd,h=>by
  obtain ⟨x,r,B,C,rfl,rfl,a,b⟩:=h.cons_inv
  obtain ⟨n1,n2,n3⟩:=List.nodup_append.mp nd
  obtain ⟨D,o,nD,hD⟩:=OwnL.rev n2 b
  rw[List.reverse_cons,List.reverse_cons]
  refine ⟨D++(B++[]),o.app (.cons a .nil),?_,?_⟩
  ·rw[List.append_nil]
   exact List.nodup_append.mpr ⟨nD,n1,fun x hx y hy e=>n3 y hy x (hD x hx) e.symm⟩
  ·intro b hb
   simp only[List.append_nil,List.mem_append] at hb ⊢
   rcases hb with z | z
   ·exact .inr (hD b z)
   ·exact .inl z
theorem chg_rev {RR:Nat->Prop}{A:Nat->List Nat}{m:Me}{ds:List Dat}{xs:List Wd}:Chg RR A m m ds xs ds.reverse xs.reverse:=by
 refine ⟨fun B nb q=>?_,fun q=>(RepL.frame (fun l o r z=>⟨.inl r,z⟩) _ _ q).rev⟩
 obtain ⟨D,o,nD,hD⟩:=OwnL.rev nb q
 exact ⟨D,o,nD,fun b hb=>.inl (hD b hb)⟩
theorem idx_item {R:Nat->Prop}{m:Me}{ds:List Dat}{xs:List Wd}{l:Nat}{e:Dat}{y:Wd}(h:RepL R m ds xs) (hm:m[l]?=some (.lst xs)) (b:Rep R m e y):SimE R m (idxR (.ref l) y m) (idxD (.lst ds) e):=by
 cases e with
 | int i =>
  rw[rep_int.mp b]
  simp only[idxD,idxR,seqD,seqOf,lstAt,hm]
  cases z:(ix ds.length i).bind fun j=>ds[j]? with
  | none=>exact SimE.no
  | some v =>
   obtain ⟨j,h1,h2⟩:=Option.bind_eq_some_iff.mp z
   obtain ⟨x,h3,p⟩:=h.get h2
   rw[h.len] at h1
   simp only[h1,Option.bind_some,h3]
   exact SimE.here p
 | _=>exact SimE.no
theorem envR_no {lo:Nat}{RR:Nat->Prop}{m:Me}{de:DEn}{lv:List Lv}{env:En}{A:Nat->List Nat}(I:Inv lo RR m de lv env A) {vs:List Nat}(h:∀ i ∈ vs,∀ l,lv[i]?=some l->l=.no):EnvR (Free RR A) m vs de env :=
 ⟨I.len,fun i hi d hd=>by
  obtain ⟨l,hl⟩:=I.getlv hd
  obtain ⟨w,a,b⟩:=I.slot i d l hd hl
  rw[h i hi l hl] at b
  exact ⟨w,a,b.1⟩⟩
theorem topD_ne (de:DEn) (j:Nat) (lv:List Lv) {k:Nat}(h:k ≠ j):(topD de j lv)[k]?=lv[k]?:=by
 have q:∃ l,topD de j lv=lv.set j l:=by
  unfold topD
  generalize de[j]?=p
  generalize lv[j]?=q
  cases p with
  | none=>exact ⟨_,rfl⟩
  | some o =>
   cases o with
   | none=>exact ⟨_,rfl⟩
   | some d =>
    cases d with
    | lst ds =>
     cases q with
     | none=>exact ⟨_,rfl⟩
     | some l=>cases l <;> exact ⟨_,rfl⟩
    | _=>exact ⟨_,rfl⟩
 obtain ⟨l,e⟩:=q
 rw[e];exact List.getElem?_set_ne (Ne.symm h)
set_option tactic.hygienic true in
theorem relE_ne (e:Ex) (de:DEn) (lv:List Lv) {k:Nat}(h:k ∉ vars e):(relE e de lv)[k]?=lv[k]?:=by
 have gen:∀ vs,k ∉ vs->(downs vs lv)[k]?=lv[k]?:=fun vs h=>by rw[downs_get,if_neg (fun z=>h z.1)]
 cases e with
 | idx o b =>
  cases o with
  | var j =>
   replace h:k ∉ j::vars b:=h
   rw[List.mem_cons,not_or] at h
   show (topD de j (downs (vars b) lv))[k]?=_
   rw[topD_ne _ _ _ h.1,gen _ h.2]
  | _=>exact gen _ h
 | _=>exact gen _ h
set_option tactic.hygienic true in
theorem Inv.topD {lo:Nat}{RR:Nat->Prop}{m:Me}{de:DEn}{lv:List Lv}{env:En}{A:Nat->List Nat}(I:Inv lo RR m de lv env A) (j:Nat) :
  ∃ A',Inv lo RR m de (topD de j lv) env A'/\Keep A m A' m/\(∀ i,i ≠ j->A' i=A i)/\((∃ ds l xs,de[j]?=some (some (.lst ds))/\A' j=[l]/\env[j]?=some (some (.ref l))/\m[l]?=some (.lst xs)/\RepL (Free RR A') m ds xs)\/((Vl.topD de j lv)[j]?=some .no\/lv.length<=j)):=by
 by_cases h:(∃ ds,de[j]?=some (some (.lst ds)))/\owned lv j=true
 ·obtain ⟨⟨ds,hd⟩,ho⟩:=h
  obtain ⟨l,xs,A',I',K,h1,h2,h3,h4,h5,_⟩:=I.top j hd ho
  have:Vl.topD de j lv=lv.set j .top:=by
   unfold Vl.topD;rw[hd]
   unfold owned at ho
   cases z:lv[j]? with
   | none=>rw[z] at ho;simp at ho
   | some l=>rw[z] at ho;cases l <;> simp at ho ⊢
  rw[this]
  exact ⟨A',I',K,h2,.inl ⟨ds,l,xs,hd,h1,h3,h4,h5⟩⟩
 ·obtain ⟨I',K⟩:=I.down j
  have:Vl.topD de j lv=lv.set j .no:=by
   unfold Vl.topD
   split
   ·next ds hd hl=>exact absurd ⟨⟨ds,hd⟩,by unfold owned;rw[hl]⟩ h
   ·next ds hd hl=>exact absurd ⟨⟨ds,hd⟩,by unfold owned;rw[hl]⟩ h
   ·rfl
  rw[this]
  refine ⟨_,I',K,fun i hi=>upd_ne hi,.inr ?_⟩
  by_cases z:j < lv.length
  ·left;rw[List.getElem?_set,if_pos rfl,if_pos z]
  ·right;lia
theorem Inv.relEv {lev:Nat->Lv}{cl:Nat->List Wd->Me->Rz}{cd:Nat->List Dat->Rd}(H:CallO lev cl cd) {lo:Nat}{RR:Nat->Prop}{m:Me}{de:DEn}{lv:List Lv}{env:En}{A:Nat->List Nat}(I:Inv lo RR m de lv env A) (e:Ex) :
  ∃ A',Inv lo RR m de (relE e de lv) env A'/\Keep A m A' m/\(∀ k,k ∉ vars e->A' k=A k)/\SimO (Free RR A') m (lvE lev e) (evE cl e env m) (evD cd e de):=by
 have gen:relE e de lv=Vl.downs (vars e) lv->∃ A',Inv lo RR m de (relE e de lv) env A'/\Keep A m A' m/\(∀ k,k ∉ vars e->A' k=A k)/\SimO (Free RR A') m (lvE lev e) (evE cl e env m) (evD cd e de):=by
  intro h
  rw[h]
  obtain ⟨A',I',K,h1,_,h3⟩:=Inv.downs (vars e) I
  refine ⟨A',I',K,h3,ev_own H e _ m de env (envR_no I' fun i hi l hl=>?_)⟩
  rw[downs_get] at hl
  split at hl
  ·cases hl;rfl
  ·next z=>rw[List.getElem?_eq_none (by have:¬ i < lv.length:=fun q=>z ⟨hi,q⟩;lia)] at hl;cases hl
 cases e with
 | idx a b =>
  cases a with
  | var j =>
   show ∃ A',Inv lo RR m de (Vl.topD de j (Vl.downs (vars b) lv)) env A'/\_
   obtain ⟨A1,I1,K1,h1,h2,h3⟩:=Inv.downs (vars b) I
   obtain ⟨A2,I2,K2,g1,g2⟩:=I1.topD j
   have hne:∀ k,k ∉ vars (.idx (.var j) b)->A2 k=A k:=by
    intro k hk
    replace hk:k ∉ j::vars b:=hk
    rw[List.mem_cons,not_or] at hk
    rw[g1 k hk.1,h3 k hk.2]
   refine ⟨A2,I2,K1.trans K2,hne,?_⟩
   have lvno:∀ i,i ∈ vars b->i ≠ j->∀ l,(Vl.topD de j (Vl.downs (vars b) lv))[i]?=some l->l=.no:=by
    intro i hi hij l hl
    rw[topD_ne _ _ _ hij,downs_get] at hl
    split at hl
    ·cases hl;rfl
    ·next z=>rw[List.getElem?_eq_none (by have:¬ i < lv.length:=fun q=>z ⟨hi,q⟩;lia)] at hl;cases hl
   rcases g2 with ⟨ds,l,xs,hd,hA,he,hm,hr⟩ | g2
   ·have hjb:j ∉ vars b:=fun z=>by
     have h0:=h1 j z
     have hx:l ∈ A1 j:=by
      have i1:=I1
      by_cases q:l ∈ A1 j
      ·exact q
      ·exfalso
       have:=(K2.1 l _ (fun k hk=>?_) hm).1 j
       ·rw[hA] at this;exact this (by simp)
       ·by_cases ek:k=j
        ·rw[ek] at hk;exact q hk
        ·have e1:=g1 k ek
         rw[<- e1] at hk
         exact ek (I2.dj k j l hk (by rw[hA];simp))
     rw[h0] at hx
     cases hx
    refine SimE.own ?_ (fun d=>rfl)
    show SimE _ m ((evE cl (.var j) env m).bind fun x m1=>(evE cl b env m1).bind fun y m2=>idxR x y m2) ((evD cd (.var j) de).bind fun x=>(evD cd b de).bind fun y=>idxD x y)
    have e1:evE cl (.var j) env m=.ok (.ref l) m:=evE_some he m
    have e2:evD cd (.var j) de=.ok (.lst ds):=evD_some hd
    rw[e1,e2]
    simp only[Rz.bind,Rd.bind]
    refine (ev_read H.r b _ m de env (envR_no I2 fun i hi=>lvno i hi (fun e=>hjb (by rw[<- e];exact hi)))).bind fun d2 w2 m2 l2 k2=>?_
    exact idx_item (hr.up _ l2) (l2 l _ hm) k2
   ·refine ev_own H _ _ m de env (envR_no I2 fun i hi l hl=>?_)
    replace hi:i ∈ j::vars b:=hi
    rw[List.mem_cons] at hi
    by_cases e:i=j
    ·rw[e] at hl
     rcases g2 with g2 | g2
     ·rw[g2] at hl;cases hl;rfl
     ·have:(Vl.topD de j (Vl.downs (vars b) lv)).length=(Vl.downs (vars b) lv).length:=by rw[I2.lvl,I1.lvl]
      rw[List.getElem?_eq_none (by lia)] at hl;cases hl
    ·rcases hi with z | z
     ·exact absurd z e
     ·exact lvno i z e l hl
  | _=>exact gen rfl
 | _=>exact gen rfl
def SimS (lo:Nat) (RR:Nat->Prop) (A:Nat->List Nat) (m:Me) (r:Rs) (rd:Rsd):Prop:=match rd with
 | .next de lv=>∃ env m' A',r=.next env m'/\Inv lo RR m' de lv env A'/\Keep A m A' m'
 | .brk de lv=>∃ env m' A',r=.brk env m'/\Inv lo RR m' de lv env A'/\Keep A m A' m'
 | .cont de lv=>∃ env m' A',r=.cont env m'/\Inv lo RR m' de lv env A'/\Keep A m A' m'
 | .ret d l=>∃ w m' B,r=.ret w m'/\((∀ (x:Nat) o,(∀ i,x ∉ A i)->m[x]?=some o->m'[x]?=some o)/\m.length<=m'.length)/\RepO (fun x=>RR x/\x ∉ B) m' l d w B/\B.Nodup/\∀ b ∈ B,lo<=b
 | .exc c d=>∃ w e m',r=.exc c w e m'/\((∀ (x:Nat) o,(∀ i,x ∉ A i)->m[x]?=some o->m'[x]?=some o)/\m.length<=m'.length)/\Rep RR m' d w
 | .no=>True
theorem SimS.keep {lo:Nat}{RR:Nat->Prop}{A A1:Nat->List Nat}{m m1:Me}{r:Rs}{rd:Rsd}(K:Keep A m A1 m1) (h:SimS lo RR A1 m1 r rd):SimS lo RR A m r rd:=by
 cases rd with
 | next de lv=>obtain ⟨e,m',A',h,I,k⟩:=h;exact ⟨e,m',A',h,I,K.trans k⟩
 | brk de lv=>obtain ⟨e,m',A',h,I,k⟩:=h;exact ⟨e,m',A',h,I,K.trans k⟩
 | cont de lv=>obtain ⟨e,m',A',h,I,k⟩:=h;exact ⟨e,m',A',h,I,K.trans k⟩
 | ret d l=>obtain ⟨w,m',B,h,k,z⟩:=h;exact ⟨w,m',B,h,⟨fun x o a b=>k.1 x o (K.1 x o a b).1 (K.1 x o a b).2,Nat.le_trans K.2 k.2⟩,z⟩
 | exc c d=>obtain ⟨w,e,m',h,k,z⟩:=h;exact ⟨w,e,m',h,⟨fun x o a b=>k.1 x o (K.1 x o a b).1 (K.1 x o a b).2,Nat.le_trans K.2 k.2⟩,z⟩
 | no=>trivial
theorem Inv.rf {lo:Nat}{RR:Nat->Prop}{m m':Me}{de:DEn}{lv:List Lv}{env:En}{A:Nat->List Nat}(I:Inv lo RR m de lv env A) {d:Dat}{w:Wd}(h:Rep (Rf RR m.length) m' d w):Rep RR m' d w :=
 Rep.frame (fun x o r z=>⟨by rcases r with r | r;exact r;exact I.rr x (Nat.le_trans I.lom r),z⟩) d w h
theorem Inv.bindE {cl:Nat->List Wd->Me->Rz}{cd:Nat->List Dat->Rd}(H:CallR cl cd) {lo:Nat}{RR:Nat->Prop}{m:Me}{de:DEn}{lv:List Lv}{env:En}{A:Nat->List Nat}(I:Inv lo RR m de lv env A) (e:Ex) {f:Wd->Me->Rs}{g:Dat->Rsd}
  (k:∀ d w m1,evD cd e de=.ok d->evE cl e env m=.ok w m1->Le m m1->Rep RR m1 d w->SimS lo RR A m1 (f w m1) (g d)):SimS lo RR A m ((evE cl e env m).bindS env f) ((evD cd e de).bindS g):=by
 have h:=ev_read H e RR m de env (I.envR _)
 cases z:evD cd e de with
 | no=>trivial
 | exc c d =>
  rw[z] at h
  obtain ⟨w,m',h,l,r⟩:=h
  rw[h]
  exact ⟨w,env,m',rfl,⟨fun x o _ b=>l x o b,l.len⟩,I.rf r⟩
 | ok d =>
  rw[z] at h
  obtain ⟨w,m',h,l,r⟩:=h
  have:=k d w m' z h l (I.rf r)
  rw[h]
  exact SimS.keep (keep_le l) this
theorem Inv.own {lev:Nat->Lv}{cl:Nat->List Wd->Me->Rz}{cd:Nat->List Dat->Rd}(H:CallO lev cl cd) {lo:Nat}{RR:Nat->Prop}{m m1:Me}{de:DEn}{lv:List Lv}{env:En}{A:Nat->List Nat}(I:Inv lo RR m de lv env A) {e:Ex}{d:Dat}{w:Wd}(h1:evD cd e de=.ok d) (h2:evE cl e env m=.ok w m1) :
  ∃ B,RepO (fun x=>RR x/\x ∉ B) m1 (lvE lev e d) d w B/\B.Nodup/\∀ b ∈ B,m.length<=b:=by
 have h:=ev_own H e RR m de env (I.envR _)
 rw[h1] at h
 obtain ⟨w',m',B,h3,l,r,nd,hB⟩:=h
 rw[h2] at h3;cases h3
 exact ⟨B,r.frame (fun x o r z=>⟨⟨by rcases r.1 with r | r;exact r;exact I.rr x (Nat.le_trans I.lom r),r.2⟩,z⟩) (fun _ _ _ z=>z),nd,hB⟩
section
variable {lev : Nat -> Lv} {cl : Nat -> List Wd -> Me -> Rz} {cd : Nat -> List Dat -> Rd} {lo : Nat} {RR : Nat -> Prop} {m : Me} {de : DEn} {lv : List Lv} {env : En} {A : Nat -> List Nat}
theorem lsAt_eq {j:Nat}{ds:List Dat}(h:lsAt de j=some ds):de[j]?=some (some (.lst ds)):=by
 unfold lsAt at h
 split at h
 ·next z=>cases h;exact z
 ·cases h
theorem evVar {j:Nat}{w:Wd}(h:env[j]?=some (some w)) (m:Me):evE cl (.var j) env m=.ok w m:=by
 exact evE_some h m
theorem asg_sim (H:CallO lev cl cd) (I:Inv lo RR m de lv env A) (i:Nat) (e:Ex):SimS lo RR A m (exS cl (.asg i e) env m) (exD lev cd (.asg i e) de lv):=by
 have h:SimS lo RR A m ((evE cl e env m).bindS env fun w m1=>.next (env.set i (some w)) m1) ((evD cd e de).bindS fun d=>asgD lev i e d de lv):=by
  cases z:evD cd e de with
  | no=>trivial
  | exc c d =>
   have:=I.bindE H.r e (f:=fun w m1=>.next (env.set i (some w)) m1) (g:=fun d=>.no) (fun _ _ _ _ _ _ _=>trivial)
   rw[z] at this;exact this
  | ok d =>
   show SimS lo RR A m _ (asgD lev i e d de lv)
   unfold asgD
   by_cases f:lvE lev e d=.full
   ·rw[if_pos f]
    have h:=ev_own H e RR m de env (I.envR _)
    rw[z] at h
    obtain ⟨w,m1,B,h2,l,r,nd,hB⟩:=h
    rw[h2]
    rw[f] at r
    obtain ⟨I',K⟩:=I.store l i (l:=.full) (d:=d) (w:=w) (B:=B) r nd hB
    exact ⟨_,_,_,rfl,I',K⟩
   ·rw[if_neg f]
    obtain ⟨A1,I1,K1,_,h⟩:=I.relEv H e
    rw[z] at h
    obtain ⟨w,m1,B,h2,l,r,nd,hB⟩:=h
    rw[h2]
    obtain ⟨I',K⟩:=I1.store l i (l:=lvE lev e d) (d:=d) (w:=w) (B:=B) r nd hB
    exact ⟨_,_,_,rfl,I',K1.trans K⟩
 exact h
theorem give_sim (H:CallO lev cl cd) (I:Inv lo RR m de lv env A) {e:Ex}{d:Dat}{w:Wd}{m1:Me}{j:Nat}{ds:List Dat}{de1:DEn}{lv1:List Lv}(hd:de[j]?=some (some (.lst ds))) (h1:evD cd e de=.ok d) (h2:evE cl e env m=.ok w m1) (l1:Le m m1) {m2:Me}(l2:Le m1 m2)
  (g:giveE lev e d j de lv=some (de1,lv1)) (F:List Dat->Dat->List Dat) (G:List Wd->Wd->List Wd)
  (cF:∀ (m m1:Me) (A:Nat->List Nat) (ds:List Dat) (xs:List Wd) (d:Dat) (w:Wd) (B0:List Nat),Le m m1->Own m1 d w B0->B0.Nodup->(∀ b ∈ B0,m.length<=b)->Chg RR A m m1 ds xs (F ds d) (G xs w))
  (cM:∀ (m:Me) (ds:List Dat) (xs:List Wd) (d:Dat) (w:Wd) (B B0:List Nat),(B++B0).Nodup->OwnL m ds xs B->Own m d w B0->∃ B',OwnL m (F ds d) (G xs w) B'/\B'.Nodup/\∀ b ∈ B',b ∈ B\/b ∈ B0)
  (cT:∀ (R:Nat->Prop) (m:Me) (ds:List Dat) (xs:List Wd) (d:Dat) (w:Wd),RepL R m ds xs->Rep R m d w->RepL R m (F ds d) (G xs w)) :
  ∃ l xs,env[j]?=some (some (.ref l))/\m2[l]?=some (.lst xs)/\ds.length=xs.length/\∃ A',Inv lo RR (m2.set l (.lst (G xs w))) (de1.set j (some (.lst (F ds d)))) lv1 env A'/\Keep A m A' (m2.set l (.lst (G xs w))):=by
 have l12:=l1.trans l2
 unfold giveE at g
 split at g
 ·cases g
 ·next ho =>
  have ho:owned lv j=true:=by simpa using ho
  split at g
  ·next f =>
   cases g
   obtain ⟨B,r,nd,hB⟩:=I.own H h1 h2
   rw[f] at r
   obtain ⟨l,xs,he,hm,hr,put⟩:=I.mut hd ho
   have r':Own m2 d w B:=Own.frame d w B (fun x _ o z=>l2 x o z) r
   refine ⟨l,xs,he,l12 l _ hm,hr.len,put m2 _ _ l12 (fun _=>(cF m m2 A ds xs d w B l12 r' nd hB).1) (fun _=>(cF m m2 A ds xs d w B l12 r' nd hB).2)⟩
  ·next f =>
   split at g
   ·cases g
   ·next hj =>
    have share:lv1=(relE e de lv).set j .top->de1=de->∃ l xs,env[j]?=some (some (.ref l))/\m2[l]?=some (.lst xs)/\ds.length=xs.length/\∃ A',Inv lo RR (m2.set l (.lst (G xs w))) (de1.set j (some (.lst (F ds d)))) lv1 env A'/\Keep A m A' (m2.set l (.lst (G xs w))):=by
     rintro rfl rfl
     obtain ⟨A1,I1,K1,hA1,h⟩:=I.relEv H e
     rw[h1] at h
     have ho1:owned (relE e de1 lv) j=true:=by unfold owned;rw[relE_ne e _ _ hj];exact ho
     obtain ⟨l,xs,A2,I2,K2,g1,g2,he,hm,hr,hlA⟩:=I1.top j hd ho1
     have hs:=h.sim
     obtain ⟨w',m',h3,_,rw0⟩:=hs
     rw[h2] at h3;cases h3
     have hjl:j < (relE e de1 lv).length:=by rw[I1.lvl];exact (List.getElem?_eq_some_iff.mp hd).1
     have ho2:owned ((relE e de1 lv).set j .top) j=true:=by unfold owned;rw[List.getElem?_set,if_pos rfl,if_pos hjl]
     have hlv:((relE e de1 lv).set j .top)[j]?=some .top:=by rw[List.getElem?_set,if_pos rfl,if_pos hjl]
     obtain ⟨l',xs',he',hm',_,put⟩:=I2.mut hd ho2
     rw[he] at he';cases he'
     rw[hm] at hm';cases hm'
     obtain ⟨A3,I3,K3⟩:=put m2 (F ds d) (G xs w) l12 (fun z=>by rw[hlv] at z;cases z) (fun _ q=>by
      refine cT _ m2 ds xs d w (RepL.frame (fun x o r z=>⟨.inl r,l12 x o z⟩) _ _ q) (Rep.frame (fun x o r z=>⟨?_,l2 x o z⟩) _ _ rw0)
      rcases r with r | r
      ·left
       refine ⟨r.1,fun k hk=>?_⟩
       by_cases ek:k=j
       ·rw[ek,g1] at hk
        rw[List.mem_singleton.mp hk] at r
        exact r.2 j hlA
       ·rw[g2 k ek] at hk;exact r.2 k hk
      ·exact .inr r)
     exact ⟨l,xs,he,l12 l _ hm,hr.len,A3,I3,(K1.trans K2).trans K3⟩
    split at g
    ·next i =>
     split at g
     ·next hfull =>
      cases g
      have hij:i ≠ j:=fun e=>hj (by rw[e];exact List.mem_singleton.mpr rfl)
      -- the move
      have hdi:de[i]?=some (some d):=by
       exact evD_inv h1
      obtain ⟨wi,hei,ri⟩:=I.slot i d .full hdi hfull.1
      have:evE cl (.var i) env m=.ok wi m:=evVar hei m
      rw[this] at h2;cases h2
      obtain ⟨wj,hej,rj⟩:=I.slot j _ .full hd hfull.2
      obtain ⟨l,xs,B,rfl,hA,hm,r⟩:=own_lst.mp rj
      have hlm:=(List.getElem?_eq_some_iff.mp hm).1
      have nd:=I.nd j
      rw[hA] at nd
      obtain ⟨n0,n1⟩:=List.nodup_cons.mp nd
      have nBi:(B++A i).Nodup:=List.nodup_append.mpr ⟨n1,I.nd i,fun x hx y hy e=>by
       subst e
       exact hij (I.dj i j x hy (by rw[hA];exact List.mem_cons_of_mem _ hx))⟩
      obtain ⟨B',o,nB',hB'⟩:=cM m ds xs d w B (A i) nBi r ri
      have lB':l ∉ B':=fun z=>by
       rcases hB' l z with q | q
       ·exact n0 q
       ·exact hij (I.dj i j l q (by rw[hA];simp))
      have sub:∀ x ∈ l::B',x ∈ A j\/x ∈ A i:=by
       intro x hx
       rcases List.mem_cons.mp hx with rfl | hx
       ·left;rw[hA];simp
       ·rcases hB' x hx with q | q
        ·left;rw[hA];exact List.mem_cons_of_mem _ q
        ·exact .inr q
      have hjl:j < de.length:=(List.getElem?_eq_some_iff.mp hd).1
      have hil:i < de.length:=(List.getElem?_eq_some_iff.mp hdi).1
      have ui:upd (upd A i []) j (l::B') i=[]:=by rw[upd_ne hij,upd_same]
      have uo:∀ k,k ≠ i->k ≠ j->upd (upd A i []) j (l::B') k=A k:=fun k a b=>by rw[upd_ne b,upd_ne a]
      have ll2:=l2.len
      refine ⟨l,xs,hej,l2 l _ hm,r.len,upd (upd A i []) j (l::B'),?_⟩
      refine I.put l2 (j:=j) (l:=l) (xs:=xs) (by rw[hA];simp) _ ?_ ?_ ?_ ?_ (by simp) rfl ?_ ?_
      ·intro k x hx
       left
       by_cases e:k=j
       ·rw[e,upd_same] at hx
        rcases sub x hx with q | q
        ·exact ⟨j,q⟩
        ·exact ⟨i,q⟩
       ·by_cases f:k=i
        ·rw[f,ui] at hx;cases hx
        ·rw[uo k f e] at hx;exact ⟨k,hx⟩
      ·intro k
       by_cases e:k=j
       ·rw[e,upd_same];exact List.nodup_cons.mpr ⟨lB',nB'⟩
       ·by_cases f:k=i
        ·rw[f,ui];simp
        ·rw[uo k f e];exact I.nd k
      ·have main:∀ k x,k ≠ j->x ∈ l::B'->x ∈ upd (upd A i []) j (l::B') k->False:=by
        intro k x e hx hk
        by_cases f:k=i
        ·rw[f,ui] at hk;cases hk
        ·rw[uo k f e] at hk
         rcases sub x hx with q | q
         ·exact e (I.dj k j x hk q)
         ·exact f (I.dj k i x hk q)
       intro a b x ha hb
       by_cases e:a=j
       ·by_cases f:b=j
        ·rw[e,f]
        ·rw[e,upd_same] at ha;exact (main b x f ha hb).elim
       ·by_cases f:b=j
        ·rw[f,upd_same] at hb;exact (main a x e hb ha).elim
        ·by_cases g:a=i
         ·rw[g,ui] at ha;cases ha
         ·by_cases h:b=i
          ·rw[h,ui] at hb;cases hb
          ·rw[uo a g e] at ha;rw[uo b h f] at hb;exact I.dj a b x ha hb
      ·intro k x hx
       by_cases e:k=j
       ·rw[e,upd_same] at hx
        rcases sub x hx with q | q
        ·exact ⟨(I.bd j x q).1,Nat.lt_of_lt_of_le (I.bd j x q).2 ll2⟩
        ·exact ⟨(I.bd i x q).1,Nat.lt_of_lt_of_le (I.bd i x q).2 ll2⟩
       ·by_cases f:k=i
        ·rw[f,ui] at hx;cases hx
        ·rw[uo k f e] at hx;exact ⟨(I.bd k x hx).1,Nat.lt_of_lt_of_le (I.bd k x hx).2 ll2⟩
      ·intro k d' lk e g1 g2
       rw[List.getElem?_set_ne (Ne.symm e)] at g1
       by_cases f:k=i
       ·rw[f,List.getElem?_set,if_pos rfl,if_pos hil] at g1;cases g1
       ·rw[List.getElem?_set_ne (Ne.symm f)] at g1
        exact ⟨g1,g2,uo k f e⟩
      ·intro d' lj g1 g2
       rw[List.getElem?_set,if_pos rfl,if_pos (by simpa using hjl)] at g1
       cases g1
       rw[hfull.2] at g2;cases g2
       refine ⟨_,hej,?_⟩
       rw[upd_same]
       exact own_lst.mpr ⟨l,_,B',rfl,rfl,get_set_same (l2 l _ hm),OwnL.frame _ _ B' (fun x hx o z=>by rw[get_set_ne (l:=l) (x:=x) (fun e=>lB' (by rw[e];exact hx))];exact l2 x o z) o⟩
     ·cases g;exact share rfl rfl
    ·cases g;exact share rfl rfl
end
section
variable {lev : Nat -> Lv} {cl : Nat -> List Wd -> Me -> Rz} {cd : Nat -> List Dat -> Rd} {lo : Nat} {RR : Nat -> Prop} {m : Me} {de : DEn} {lv : List Lv} {env : En} {A : Nat -> List Nat}
theorem evMeth {n:Mth}{o e:Ex}{x w:Wd}{m1 m2:Me}(h1:evE cl o env m=.ok x m1) (h2:evE cl e env m1=.ok w m2):evE cl (.meth n o (.pair e .unit)) env m=mtR n x [w] m2:=by
 show (evE cl o env m).bind (fun x m1=>((evE cl e env m1).bind fun a m2=>.ok (.tup [a]) m2).bind fun y m2=>mtR n x (argsOf y) m2)=_
 rw[h1]
 show (((evE cl e env m1).bind fun a m2=>.ok (.tup [a]) m2).bind fun y m2=>mtR n x (argsOf y) m2)=_
 rw[h2]
 rfl
theorem evMeth0 {n:Mth}{o:Ex}{x:Wd}{m1:Me}(h1:evE cl o env m=.ok x m1):evE cl (.meth n o .unit) env m=mtR n x [] m1:=by
 show (evE cl o env m).bind (fun x m1=>mtR n x [] m1)=_
 rw[h1]
 rfl
theorem own_app {m:Me}{ds:List Dat}{xs:List Wd}{d:Dat}{w:Wd}{B B0:List Nat}(n:(B++B0).Nodup) (a:OwnL m ds xs B) (b:Own m d w B0):∃ B',OwnL m (ds++[d]) (xs++[w]) B'/\B'.Nodup/\∀ b ∈ B',b ∈ B\/b ∈ B0 :=
 ⟨B++(B0++[]),a.app (.cons b .nil),by simpa using n,fun x hx=>by simpa using hx⟩
theorem SimS.okS {r:Rs}{rd:Rd}{g:Dat->Rsd}(h:∀ d,rd=.ok d->SimS lo RR A m r (g d)):SimS lo RR A m r (rd.okS g):=by
 cases rd with
 | ok d=>exact h d rfl
 | _=>trivial
theorem Inv.ok (H:CallR cl cd) (I:Inv lo RR m de lv env A) {e:Ex}{d:Dat}(h:evD cd e de=.ok d) {m1:Me}(l:Le m m1):∃ w m2,evE cl e env m1=.ok w m2/\Le m1 m2/\Rep RR m2 d w:=by
 have q:=ev_read H e RR m1 de env ((I.ext l).envR _)
 rw[h] at q
 obtain ⟨w,m2,a,b,c⟩:=q
 exact ⟨w,m2,a,b,(I.ext l).rf c⟩
set_option tactic.hygienic true in
theorem appV_sim (H:CallO lev cl cd) (I:Inv lo RR m de lv env A) (j:Nat) (e:Ex):SimS lo RR A m (exS cl (.expr (.meth .append (.var j) (.pair e .unit))) env m) (exD lev cd (.expr (.meth .append (.var j) (.pair e .unit))) de lv):=by
 show SimS _ _ _ _ ((evE cl _ env m).bindS env _) _
 refine SimS.okS fun d h1=>?_
 split
 ·next ds hl =>
  split
  ·next hlim =>
   split
   ·next de1 lv1 g =>
    obtain ⟨w,m1,h2,l1,r1⟩:=I.ok H.r h1 (Le.refl m)
    obtain ⟨l,xs,he,hm,hlen,A',I',K⟩:=give_sim H I (lsAt_eq hl) h1 h2 l1 (Le.refl m1) g (fun ds d=>ds++[d]) (fun xs w=>xs++[w])
     (fun _ _ _ _ _ _ _ _ le o nd hB=>chg_app le o nd hB) (fun _ _ _ _ _ _ _ n a b=>own_app n a b) (fun _ _ _ _ _ _ a b=>a.app (.cons b .nil))
    rw[evMeth (evVar he m) h2]
    have:mtR .append (.ref l) [w] m1=.ok .non (m1.set l (.lst (xs++[w]))):=by
     simp only[mtR,hm];rw[if_pos (by lia)]
    rw[this]
    exact ⟨_,_,A',rfl,I',K⟩
   ·trivial
  ·trivial
 ·trivial
set_option tactic.hygienic true in
theorem revV_sim (I:Inv lo RR m de lv env A) (j:Nat):SimS lo RR A m (exS cl (.expr (.meth .reverse (.var j) .unit)) env m) (exD lev cd (.expr (.meth .reverse (.var j) .unit)) de lv):=by
 show SimS _ _ _ _ ((evE cl _ env m).bindS env _) (match lsAt de j with
   | some ds=>if owned lv j then .next (de.set j (some (.lst ds.reverse))) lv else .no
   | none=>.no)
 split
 ·next ds hl =>
  split
  ·next ho =>
   obtain ⟨l,xs,he,hm,hr,put⟩:=I.mut (lsAt_eq hl) ho
   obtain ⟨A',I',K⟩:=put m ds.reverse xs.reverse (Le.refl m) (fun _=>(chg_rev (RR:=RR) (A:=A)).1) (fun _=>chg_rev.2)
   rw[evMeth0 (evVar he m)]
   have:mtR .reverse (.ref l) [] m=.ok .non (m.set l (.lst xs.reverse)):=by simp only[mtR,hm]
   rw[this]
   exact ⟨_,_,A',rfl,I',K⟩
  ·trivial
 ·trivial
end
section
variable {lev : Nat -> Lv} {cl : Nat -> List Wd -> Me -> Rz} {cd : Nat -> List Dat -> Rd} {lo : Nat} {RR : Nat -> Prop} {m : Me} {de : DEn} {lv : List Lv} {env : En} {A : Nat -> List Nat}
mutual
theorem Rep.avoid {R R':Nat->Prop}{m:Me}{D:Dat}{l:Nat}(hD:Rep R' m D (.ref l)):∀ (d:Dat) (w:Wd),dep d < dep D->Rep R m d w->Rep (fun x=>R x/\x ≠ l) m d w
 | .non,w,h,q=>rep_non.mpr (rep_non.mp q)
 | .bl _,w,h,q=>rep_bl.mpr (rep_bl.mp q)
 | .int _,w,h,q=>rep_int.mpr (rep_int.mp q)
 | .str _,w,h,q=>rep_str.mpr (rep_str.mp q)
 | .scr _,w,h,q=>rep_scr.mpr (rep_scr.mp q)
 | .tup ds,w,h,q=>by
  obtain ⟨xs,rfl,q1⟩:=rep_tup.mp q
  exact rep_tup.mpr ⟨xs,rfl,RepL.avoid hD ds xs (by rw[show dep (.tup ds)=depL ds+1 from by simp[dep]] at h;lia) q1⟩
 | .lst ds,w,h,q=>by
  obtain ⟨k,xs,rfl,r,hm,q1⟩:=rep_lst.mp q
  refine rep_lst.mpr ⟨k,xs,rfl,⟨r,fun e=>?_⟩,hm,RepL.avoid hD ds xs (by rw[show dep (.lst ds)=depL ds+1 from by simp[dep]] at h;lia) q1⟩
  subst e
  have:=Rep.det _ _ _ q hD
  rw[this] at h
  lia
theorem RepL.avoid {R R':Nat->Prop}{m:Me}{D:Dat}{l:Nat}(hD:Rep R' m D (.ref l)):∀ (ds:List Dat) (xs:List Wd),depL ds < dep D->RepL R m ds xs->RepL (fun x=>R x/\x ≠ l) m ds xs
 | [],xs,h,q=>by rw[q.nil_inv];exact .nil
 | d::ds,xs,h,q=>by
  obtain ⟨x,r,rfl,a,b⟩:=q.cons_inv
  unfold depL at h
  exact .cons (Rep.avoid hD d x (by lia) a) (RepL.avoid hD ds r (by lia) b)
end
end
section
variable {lev : Nat -> Lv} {cl : Nat -> List Wd -> Me -> Rz} {cd : Nat -> List Dat -> Rd} {lo : Nat} {RR : Nat -> Prop} {m : Me} {de : DEn} {lv : List Lv} {env : En} {A : Nat -> List Nat}
end
section
variable {lev : Nat -> Lv} {cl : Nat -> List Wd -> Me -> Rz} {cd : Nat -> List Dat -> Rd} {lo : Nat} {RR : Nat -> Prop}
theorem Inv.bindSlot {m:Me}{de:DEn}{lv:List Lv}{env:En}{A:Nat->List Nat}(I:Inv lo RR m de lv env A) (i:Nat) {d:Dat}{w:Wd}(h:Rep (Free RR A) m d w):Inv lo RR m (de.set i (some d)) (lv.set i (lvF d)) (env.set i (some w)) (upd A i [])/\Keep A m (upd A i []) m:=by
 refine I.store (Le.refl m) i (B:=[]) ?_ List.nodup_nil (by simp)
 unfold lvF
 split
 ·next f=>exact h.flat d w f
 ·exact ⟨Rep.frame (fun x o r z=>⟨⟨.inl r,by simp⟩,z⟩) _ _ h,rfl⟩
theorem loopL_sim {bw:Wd->En->Me->Rs}{bd:Dat->DEn->List Lv->Rsd}(hb:∀ x w m de lv env A,Inv lo RR m de lv env A->Rep (Free RR A) m x w->SimS lo RR A m (bw w env m) (bd x de lv)) :
  ∀ (ds:List Dat) (xs:List Wd) (m:Me) (de:DEn) (lv:List Lv) (env:En) (A:Nat->List Nat),Inv lo RR m de lv env A->RepL (Free RR A) m ds xs->SimS lo RR A m (loopL bw xs env m) (loopD bd ds de lv)
 | [],xs,m,de,lv,env,A,I,r=>by
  rw[r.nil_inv]
  exact ⟨env,m,A,rfl,I,Keep.refl A m⟩
 | d::ds,xs,m,de,lv,env,A,I,r=>by
  obtain ⟨x,xs,rfl,a,b⟩:=r.cons_inv
  have h:=hb d x m de lv env A I a
  unfold loopL loopD
  cases z:bd d de lv with
  | next d1 l1 =>
   rw[z] at h
   obtain ⟨e1,m1,A1,h1,I1,K1⟩:=h
   rw[h1]
   exact SimS.keep K1 (loopL_sim hb ds xs m1 d1 l1 e1 A1 I1 (K1.repL b))
  | cont d1 l1 =>
   rw[z] at h
   obtain ⟨e1,m1,A1,h1,I1,K1⟩:=h
   rw[h1]
   exact SimS.keep K1 (loopL_sim hb ds xs m1 d1 l1 e1 A1 I1 (K1.repL b))
  | brk d1 l1 =>
   rw[z] at h
   obtain ⟨e1,m1,A1,h1,I1,K1⟩:=h
   rw[h1]
   exact ⟨e1,m1,A1,rfl,I1,K1⟩
  | ret d l =>
   rw[z] at h
   obtain ⟨w,m1,B,h1,k⟩:=h
   rw[h1]
   exact ⟨w,m1,B,rfl,k⟩
  | exc c d =>
   rw[z] at h
   obtain ⟨w,e,m1,h1,k⟩:=h
   rw[h1]
   exact ⟨w,e,m1,rfl,k⟩
  | no=>trivial
theorem loopR_sim {bw:Wd->En->Me->Rs}{bd:Dat->DEn->List Lv->Rsd}(hb:∀ x w m de lv env A,Inv lo RR m de lv env A->Rep (Free RR A) m x w->SimS lo RR A m (bw w env m) (bd x de lv)) {l:Nat}{xs0:List Wd} :
  ∀ (ds:List Dat) (i k:Nat) (m:Me) (de:DEn) (lv:List Lv) (env:En) (A:Nat->List Nat),Inv lo RR m de lv env A->(∀ k,l ∉ A k)->m[l]?=some (.lst xs0)->RepL (Free RR A) m ds (xs0.drop i)->i+ds.length=xs0.length->ds.length < k->SimS lo RR A m (loopR bw l k i env m) (loopD bd ds de lv)
 | [],i,0,m,de,lv,env,A,I,hl,hm,r,hi,hk=>by simp at hk
 | d::ds,i,0,m,de,lv,env,A,I,hl,hm,r,hi,hk=>by simp at hk
 | [],i,k+1,m,de,lv,env,A,I,hl,hm,r,hi,hk=>by
  unfold loopR loopD lstAt
  rw[hm]
  simp only
  rw[List.getElem?_eq_none (by simp at hi;lia)]
  exact ⟨env,m,A,rfl,I,Keep.refl A m⟩
 | d::ds,i,k+1,m,de,lv,env,A,I,hl,hm,r,hi,hk=>by
  obtain ⟨x,q,e0,a,b⟩:=r.cons_inv
  have hx:xs0[i]?=some x:=by
   have:(xs0.drop i)[0]?=some x:=by rw[e0];rfl
   simpa using this
  have hr:q=xs0.drop (i+1):=by
   have:(xs0.drop i).drop 1=q:=by rw[e0];rfl
   rw[<- this,List.drop_drop]
  rw[hr] at b
  have hi':i+1+ds.length=xs0.length:=by simp at hi;lia
  have hk':ds.length < k:=by simp at hk;lia
  have h:=hb d x m de lv env A I a
  unfold loopR loopD lstAt
  rw[hm]
  simp only
  rw[hx]
  simp only
  cases z:bd d de lv with
  | next d1 l1 =>
   rw[z] at h
   obtain ⟨e1,m1,A1,h1,I1,K1⟩:=h
   rw[h1]
   exact SimS.keep K1 (loopR_sim hb ds (i+1) k m1 d1 l1 e1 A1 I1 (K1.1 l _ hl hm).1 (K1.1 l _ hl hm).2 (K1.repL b) hi' hk')
  | cont d1 l1 =>
   rw[z] at h
   obtain ⟨e1,m1,A1,h1,I1,K1⟩:=h
   rw[h1]
   exact SimS.keep K1 (loopR_sim hb ds (i+1) k m1 d1 l1 e1 A1 I1 (K1.1 l _ hl hm).1 (K1.1 l _ hl hm).2 (K1.repL b) hi' hk')
  | brk d1 l1 =>
   rw[z] at h
   obtain ⟨e1,m1,A1,h1,I1,K1⟩:=h
   rw[h1]
   exact ⟨e1,m1,A1,rfl,I1,K1⟩
  | ret d l =>
   rw[z] at h
   obtain ⟨w,m1,B,h1,k⟩:=h
   rw[h1]
   exact ⟨w,m1,B,rfl,k⟩
  | exc c d =>
   rw[z] at h
   obtain ⟨w,e,m1,h1,k⟩:=h
   rw[h1]
   exact ⟨w,e,m1,rfl,k⟩
  | no=>trivial
theorem for_sim {bw:Wd->En->Me->Rs}{bd:Dat->DEn->List Lv->Rsd}(H:CallO lev cl cd) (hb:∀ x w m de lv env A,Inv lo RR m de lv env A->Rep (Free RR A) m x w->SimS lo RR A m (bw w env m) (bd x de lv)) {m:Me}{de:DEn}{lv:List Lv}{env:En}{A:Nat->List Nat}(I:Inv lo RR m de lv env A) (it:Ex) :
  SimS lo RR A m ((evE cl it env m).bindS env fun w m1=>forW bw w env m1) ((evD cd it de).bindS fun d=>match itD d with
   | some xs=>loopD bd xs de (if flat d then lv else relE it de lv)
   | none=>.no):=by
 have run:∀ (d:Dat) (w:Wd) (m1:Me) (xs:List Dat) (lv1:List Lv) (A1:Nat->List Nat),itD d=some xs->Inv lo RR m1 de lv1 env A1->Rep (Free RR A1) m1 d w->SimS lo RR A1 m1 (forW bw w env m1) (loopD bd xs de lv1):=by
  intro d w m1 xs lv1 A1 hi I1 r
  cases d with
  | tup ds=>cases hi;obtain ⟨ys,rfl,r1⟩:=rep_tup.mp r;exact loopL_sim hb _ _ _ _ _ _ _ I1 r1
  | scr ns=>cases hi;rw[rep_scr.mp r];exact loopL_sim hb _ _ _ _ _ _ _ I1 (RepL.ints ns)
  | lst ds =>
   simp only[itD] at hi
   split at hi
   ·next z =>
    cases hi
    obtain ⟨l,ys,rfl,hR,hm,r1⟩:=rep_lst.mp r
    have:=r1.len
    exact loopR_sim hb _ 0 (lim+1) m1 de lv1 env A1 I1 hR.2 hm (by simpa using r1) (by lia) (by lia)
   ·cases hi
  | _=>cases hi
 cases z:evD cd it de with
 | no=>trivial
 | exc c d =>
  have:=I.bindE H.r it (f:=fun w m1=>forW bw w env m1) (g:=fun d=>.no) (fun _ _ _ _ _ _ _=>trivial)
  rw[z] at this;exact this
 | ok d =>
  show SimS lo RR A m _ (match itD d with
   | some xs=>loopD bd xs de (if flat d then lv else relE it de lv)
   | none=>.no)
  cases hi:itD d with
  | none=>trivial
  | some xs =>
   simp only
   split
   ·next f =>
    obtain ⟨w,m1,h2,l1,r1⟩:=I.ok H.r z (Le.refl m)
    rw[h2]
    exact SimS.keep (keep_le l1) (run d w m1 xs lv A hi (I.ext l1) (Own.rep d w [] (by simp) (r1.flat d w f)))
   ·obtain ⟨A1,I1,K1,_,h⟩:=I.relEv H it
    rw[z] at h
    obtain ⟨w,m1,h2,l1,r1⟩:=h.sim
    rw[h2]
    refine SimS.keep (K1.trans (keep_le l1)) (run d w m1 xs _ A1 hi (I1.ext l1) (Rep.frame (fun x o r z=>⟨?_,z⟩) _ _ r1))
    rcases r with r | r
    ·exact r
    ·exact ⟨I.rr x (Nat.le_trans I.lom r),fun k hk=>by have:=(I1.bd k x hk).2;lia⟩
set_option tactic.hygienic true in
theorem ret_sim (H:CallO lev cl cd) {m:Me}{de:DEn}{lv:List Lv}{env:En}{A:Nat->List Nat}(I:Inv lo RR m de lv env A) (e:Ex):SimS lo RR A m (exS cl (.ret e) env m) (exD lev cd (.ret e) de lv):=by
 show SimS _ _ _ _ ((evE cl e env m).bindS env _) ((evD cd e de).bindS _)
 cases z:evD cd e de with
 | no=>trivial
 | exc c d =>
  have:=I.bindE H.r e (f:=fun w m1=>.ret w m1) (g:=fun d=>.no) (fun _ _ _ _ _ _ _=>trivial)
  rw[z] at this;exact this
 | ok d =>
  obtain ⟨w,m1,h2,l1,r1⟩:=I.ok H.r z (Le.refl m)
  rw[h2]
  show SimS lo RR A m (.ret w m1) (.ret d (lvR lev e d lv))
  have kp:(∀ (x:Nat) o,(∀ i,x ∉ A i)->m[x]?=some o->m1[x]?=some o)/\m.length<=m1.length:=⟨fun x o _ b=>l1 x o b,l1.len⟩
  have no:RepO (fun x=>RR x/\x ∉ ([]:List Nat)) m1 .no d w []:=⟨Rep.frame (fun x o r z=>⟨⟨r,by simp⟩,z⟩) _ _ r1,rfl⟩
  by_cases f:flat d=true
  ·refine ⟨w,m1,[],rfl,kp,?_,List.nodup_nil,by simp⟩
   unfold lvR;rw[if_pos f]
   exact r1.flat d w f
  ·unfold lvR
   rw[if_neg f]
   split
   ·next i =>
    have hdi:de[i]?=some (some d):=by
     exact evD_inv z
    obtain ⟨l,hl⟩:=I.getlv hdi
    obtain ⟨w',he,ro⟩:=I.slot i d l hdi hl
    rw[evVar he m] at h2;cases h2
    rw[hl]
    refine ⟨_,_,A i,rfl,kp,?_,I.nd i,fun b hb=>(I.bd i b hb).1⟩
    exact ro.frame (fun x o r z=>⟨⟨r.1,r.2 i⟩,z⟩) (fun _ _ _ z=>z)
   ·next a b =>
    split
    ·next c =>
     obtain ⟨hab,ha,hb⟩:=c
     have:∃ da db,de[a]?=some (some da)/\de[b]?=some (some db)/\d=.tup [da,db]:=by
      have hz:evD cd (.tup (.pair (.var a) (.pair (.var b) .unit))) de=((evD cd (.var a) de).bind fun x=>((evD cd (.var b) de).bind fun y=>.ok (.tup [y])).bind fun y=>.ok (.tup (x::argsD y))).bind fun x=>if (argsD x).length<=lim then .ok (.tup (argsD x)) else .no:=rfl
      rw[hz] at z
      cases q1:de[a]? with
      | none=>rw[evD_none (.inl q1)] at z;cases z
      | some o=>cases o with
       | none=>rw[evD_none (.inr q1)] at z;cases z
       | some da =>
        rw[evD_some q1] at z
        cases q2:de[b]? with
        | none=>rw[evD_none (.inl q2)] at z;cases z
        | some o=>cases o with
         | none=>rw[evD_none (.inr q2)] at z;cases z
         | some db =>
          rw[evD_some q2] at z
          simp[Rd.bind,argsD,lim] at z
          exact ⟨da,db,rfl,rfl,z.symm⟩
     obtain ⟨da,db,h3,h4,rfl⟩:=this
     obtain ⟨wa,ea,oa⟩:=I.slot a da .full h3 ha
     obtain ⟨wb,eb,ob⟩:=I.slot b db .full h4 hb
     have hw:evE cl (.tup (.pair (.var a) (.pair (.var b) .unit))) env m=.ok (.tup [wa,wb]) m:=by
      show (((evE cl (.var a) env m).bind fun x m1=>((evE cl (.var b) env m1).bind fun y m2=>.ok (.tup [y]) m2).bind fun y m2=>.ok (.tup (x::argsOf y)) m2).bind fun x m1=>if (argsOf x).length<=lim then .ok (.tup (argsOf x)) m1 else .no)=_
      rw[evVar ea m]
      simp only[Rz.bind]
      rw[evVar eb m]
      simp[argsOf,lim]
     rw[hw] at h2;cases h2
     refine ⟨_,_,A a++(A b++[]),rfl,kp,own_tup.mpr ⟨_,rfl,.cons oa (.cons ob .nil)⟩,?_,?_⟩
     ·rw[List.append_nil]
      exact List.nodup_append.mpr ⟨I.nd a,I.nd b,fun x hx y hy e=>hab (I.dj a b x hx (by rw[e];exact hy))⟩
     ·intro x hx
      rw[List.append_nil] at hx
      rcases List.mem_append.mp hx with q | q
      ·exact (I.bd a x q).1
      ·exact (I.bd b x q).1
    ·exact ⟨w,m1,[],rfl,kp,no,List.nodup_nil,by simp⟩
   ·obtain ⟨B,ro,nd,hB⟩:=I.own H z h2
    exact ⟨w,m1,B,rfl,kp,ro,nd,fun b hb=>Nat.le_trans I.lom (hB b hb)⟩
set_option tactic.hygienic true in
theorem ex_sim (H:CallO lev cl cd):∀ (s:Sm) (m:Me) (de:DEn) (lv:List Lv) (env:En) (A:Nat->List Nat),Inv lo RR m de lv env A->SimS lo RR A m (exS cl s env m) (exD lev cd s de lv)
 | .skip,m,de,lv,env,A,I=>by show SimS _ _ _ _ (.next env m) (.next de lv);exact ⟨env,m,A,rfl,I,Keep.refl A m⟩
 | .seq a b,m,de,lv,env,A,I=>by
  cases hv:viewSw a b with
  | some t=>rw[exD_seq,hv];exact trivial
  | none =>
   have h:=ex_sim H a m de lv env A I
   rw[exD_seq,hv]
   show SimS _ _ _ _ (match exS cl a env m with
    | .next e1 m1=>exS cl b e1 m1
    | r=>r) _
   cases z:exD lev cd a de lv with
   | next d1 l1 =>
    rw[z] at h
    obtain ⟨e1,m1,A1,h1,I1,K1⟩:=h
    rw[h1]
    exact SimS.keep K1 (ex_sim H b m1 d1 l1 e1 A1 I1)
   | cont d1 l1 =>
    rw[z] at h
    obtain ⟨e1,m1,A1,h1,I1,K1⟩:=h
    rw[h1]
    exact ⟨e1,m1,A1,rfl,I1,K1⟩
   | brk d1 l1 =>
    rw[z] at h
    obtain ⟨e1,m1,A1,h1,I1,K1⟩:=h
    rw[h1]
    exact ⟨e1,m1,A1,rfl,I1,K1⟩
   | ret d l =>
    rw[z] at h
    obtain ⟨w,m1,B,h1,k⟩:=h
    rw[h1]
    exact ⟨w,m1,B,rfl,k⟩
   | exc c d =>
    rw[z] at h
    obtain ⟨w,e,m1,h1,k⟩:=h
    rw[h1]
    exact ⟨w,e,m1,rfl,k⟩
   | no=>trivial
 | .asg i e,m,de,lv,env,A,I=>asg_sim H I i e
 | .asgS _ _ _,m,de,lv,env,A,I=>trivial
 | .swapS _ _ _ _ _ _,m,de,lv,env,A,I=>trivial
 | .aug _ _ _,m,de,lv,env,A,I=>trivial
 | .augS _ _ _ _,m,de,lv,env,A,I=>trivial
 | .ite c a b,m,de,lv,env,A,I=>by
  refine I.bindE H.r c fun d w m1 _ _ l1 r1=>?_
  cases d with
  | bl t =>
   rw[rep_bl.mp r1]
   cases t with
   | true=>exact ex_sim H a m1 de lv env A (I.ext l1)
   | false=>exact ex_sim H b m1 de lv env A (I.ext l1)
  | _=>trivial
 | .forv i it body,m,de,lv,env,A,I=>by
  refine for_sim H (fun x w m de lv env A I r=>?_) I it
  obtain ⟨I1,K1⟩:=I.bindSlot i r
  exact SimS.keep K1 (ex_sim H body _ _ _ _ _ I1)
 | .fort _ _ _ _,m,de,lv,env,A,I=>trivial
 | .forA _ _ _,m,de,lv,env,A,I=>trivial
 | .forC _ _,m,de,lv,env,A,I=>trivial
 | .forS _ _ _ _,m,de,lv,env,A,I=>trivial
 | .forE _ _ _ _,m,de,lv,env,A,I=>trivial
 | .swapI _ _ _ _ _,m,de,lv,env,A,I=>trivial
 | .popV _ _,m,de,lv,env,A,I=>trivial
 | .popI _ _ _ _,m,de,lv,env,A,I=>trivial
 | .appPop _ _ _ _,m,de,lv,env,A,I=>trivial
 | .unp3 _ _ _ _,m,de,lv,env,A,I=>trivial
 | .forZ _ _ _ _ _,m,de,lv,env,A,I=>trivial
 | .while _ _,m,de,lv,env,A,I=>trivial
 | .ret e,m,de,lv,env,A,I=>ret_sim H I e
 | .retN,m,de,lv,env,A,I=>trivial
 | .expr e,m,de,lv,env,A,I=>by
  have dflt:SimS lo RR A m (exS cl (.expr e) env m) ((evD cd e de).bindS fun _=>.next de lv):=by
   exact I.bindE H.r e fun d w m1 _ _ l1 _=>⟨env,m1,A,rfl,I.ext l1,Keep.refl A m1⟩
  by_cases q:∃ n o a,e=.meth n o a
  ·obtain ⟨n,o,a,rfl⟩:=q
   have hap:=fun j e=>appV_sim H I j e
   have hrv:=fun j=>revV_sim (cl:=cl) (cd:=cd) (lev:=lev) I j
   show SimS _ _ _ _ _ (exprD lev cd (.meth n o a) de lv)
   unfold exprD
   split
   ·next h=>cases h;exact hap _ _
   ·next h=>cases h;exact hrv _
   ·trivial
   ·next h=>first | exact (h _ _ _ rfl).elim | exact (h _ _ _).elim | exact absurd rfl h
  ·show SimS _ _ _ _ _ (exprD lev cd e de lv)
   unfold exprD
   split
   ·exact absurd ⟨_,_,_,rfl⟩ q
   ·exact absurd ⟨_,_,_,rfl⟩ q
   ·exact absurd ⟨_,_,_,rfl⟩ q
   ·exact dflt
 | .brk,m,de,lv,env,A,I=>trivial
 | .cont,m,de,lv,env,A,I=>trivial
 | .never,m,de,lv,env,A,I=>by exact trivial
end
theorem start_get {α β:Type}(f:α->β) (z:β) (xs:List α) (n i:Nat):(xs.map f++List.replicate n z)[i]?=if i < xs.length then (xs[i]?).map f else if i < xs.length+n then some z else none:=by
 rw[List.getElem?_append,List.length_map]
 split
 ·rw[List.getElem?_map]
 ·rw[List.getElem?_replicate]
  by_cases h:i - xs.length < n
  ·rw[if_pos h,if_pos (by lia)]
  ·rw[if_neg h,if_neg (by lia)]
theorem start_inv {R:Nat->Prop}{m:Me}{ds:List Dat}{ws:List Wd}(fn:Fn) (h:RepL R m ds ws):Inv m.length (Rf R m.length) m (startD fn ds) (startL fn ds) (begin0 fn ws) (fun _=>[]):=by
 have hl:=h.len
 refine ⟨?_,?_,fun l hl=>.inr hl,Nat.le_refl _,?_,fun _=>List.nodup_nil,(fun _ _ _ h=>by cases h),(fun _ _ h=>by cases h)⟩
 ·simp[startD,begin0,hl]
 ·simp[startD,startL]
 ·intro i d l h1 h2
  unfold startD at h1
  unfold startL at h2
  rw[start_get] at h1 h2
  by_cases hi:i < ds.length
  ·rw[if_pos hi] at h1 h2
   obtain ⟨d',e1,e2⟩:=Option.map_eq_some_iff.mp h1
   cases e2
   rw[e1] at h2
   cases h2
   obtain ⟨w,hw,r⟩:=h.get e1
   refine ⟨w,?_,?_⟩
   ·unfold begin0;rw[start_get,if_pos (by lia),hw];rfl
   ·unfold lvF
    split
    ·next f=>exact r.flat d w f
    ·exact ⟨Rep.frame (fun x o r z=>⟨⟨.inl r,fun _ h=>by cases h⟩,z⟩) _ _ r,rfl⟩
  ·rw[if_neg hi] at h1
   split at h1 <;> cases h1
theorem run_sim {lev:Nat->Lv}{cl:Nat->List Wd->Me->Rz}{cd:Nat->List Dat->Rd}(H:CallO lev cl cd) (k:Nat) (fn:Fn) (ds:List Dat) (ws:List Wd) (R:Nat->Prop) (m:Me) (h:RepL R m ds ws):SimO R m (callLv lev k) (runF cl fn ws m) (runD lev cd k fn ds):=by
 unfold runF runD
 rw[h.len]
 split
 ·have s:=ex_sim H fn.body m _ _ _ _ (start_inv fn h)
  cases z:exD lev cd fn.body (startD fn ds) (startL fn ds) with
  | next d1 l1 =>
   rw[z] at s
   obtain ⟨e1,m1,A1,h1,I1,K1⟩:=s
   rw[h1]
   refine ⟨.non,m1,[],rfl,fun l o q=>(K1.1 l o (fun _ h=>by cases h) q).2,?_,List.nodup_nil,by simp⟩
   unfold callLv RepO Own
   simp[flat]
  | ret d l =>
   rw[z] at s
   obtain ⟨w,m1,B,h1,⟨kp,_⟩,ro,nd,hB⟩:=s
   rw[h1]
   have le:Le m m1:=fun l o q=>kp l o (fun _ h=>by cases h) q
   show SimO R m (callLv lev k) (.ok w m1) (if flat d || geLv l (lev k) then .ok d else .no)
   split
   ·next c =>
    by_cases f:flat d=true
    ·refine ⟨w,m1,[],rfl,le,?_,List.nodup_nil,by simp⟩
     unfold callLv;rw[if_pos f]
     exact (ro.rep (R':=fun _=>True) (fun _ _=>trivial) (fun _ _=>trivial)).flat d w f
    ·have g:geLv l (lev k)=true:=by simpa [f] using c
     unfold SimO callLv
     simp only[if_neg f]
     cases e:lev k with
     | no =>
      refine ⟨w,m1,[],rfl,le,⟨?_,rfl⟩,List.nodup_nil,by simp⟩
      exact ro.rep (fun x r=>⟨r.1,by simp⟩) (fun b hb=>⟨.inr (hB b hb),by simp⟩)
     | top =>
      rw[e] at g
      cases l with
      | top=>exact ⟨w,m1,B,rfl,le,ro,nd,hB⟩
      | no=>cases g
      | full=>cases g
     | full =>
      rw[e] at g
      cases l with
      | full=>exact ⟨w,m1,B,rfl,le,ro,nd,hB⟩
      | no=>cases g
      | top=>cases g
   ·trivial
  | exc c d =>
   rw[z] at s
   obtain ⟨w,e,m1,h1,⟨kp,_⟩,r⟩:=s
   rw[h1]
   exact ⟨w,m1,rfl,fun l o q=>kp l o (fun _ h=>by cases h) q,r⟩
  | brk _ _=>trivial
  | cont _ _=>trivial
  | no=>trivial
 ·trivial
theorem call_sim (lev:Nat->Lv) (T:List Fn):∀ d:Nat,CallO lev (callN T d) (callD lev T d)
 | 0=>fun k ds ws R m h=>trivial
 | d+1=>fun k ds ws R m h=>by
  unfold callN callD
  cases T[k]? with
  | none=>trivial
  | some fn=>exact run_sim (call_sim lev T d) k fn ds ws R m h
theorem law_val (lev:Nat->Lv) (T:List Fn) (d i:Nat) (ns:List Int) (h:callD lev T d i [.scr ns]=.ok (.bl true)):∃ m,callN T d i [.rol (ns.map Wd.int)] []=.ok (.bl true) m:=by
 have s:=call_sim lev T d i [.scr ns] [.rol (ns.map Wd.int)] (fun _=>True) [] (.cons (rep_scr.mpr rfl) .nil)
 rw[h] at s
 obtain ⟨w,m',h1,_,r⟩:=s.sim
 rw[rep_bl.mp r] at h1
 exact ⟨m',h1⟩
section
variable (lev : Nat -> Lv) (cl : Nat -> List Dat -> Rd) (de : DEn) (lv : List Lv)
@[simp] theorem Rd.bind_ok (d:Dat) (f:Dat->Rd):(Rd.ok d).bind f=f d:=rfl
@[simp] theorem Rd.bindS_ok (d:Dat) (f:Dat->Rsd):(Rd.ok d).bindS f=f d:=rfl
@[simp] theorem Rd.okS_ok (d:Dat) (f:Dat->Rsd):(Rd.ok d).okS f=f d:=rfl
@[simp] theorem ev_lit_int (i:Int):evD cl (.lit (.int i)) de=.ok (.int i):=rfl
@[simp] theorem ev_lit_bl (i:Bool):evD cl (.lit (.bl i)) de=.ok (.bl i):=rfl
@[simp] theorem ev_lit_non:evD cl (.lit .non) de=.ok .non:=rfl
@[simp] theorem ev_lit_str (s:List Nat):evD cl (.lit (.str s)) de=.ok (.str s):=rfl
@[simp] theorem ev_bin (op:Bo) (a b:Ex):evD cl (.bin op a b) de=(evD cl a de).bind fun x=>(evD cl b de).bind fun y=>bopD op x y:=rfl
@[simp] theorem ev_cmp (op:Co) (a b:Ex):evD cl (.cmp op a b) de=(evD cl a de).bind fun x=>(evD cl b de).bind fun y=>copD op x y:=rfl
@[simp] theorem ev_unit:evD cl .unit de=.ok (.tup []):=rfl
@[simp] theorem ev_pair (a b:Ex):evD cl (.pair a b) de=(evD cl a de).bind fun x=>(evD cl b de).bind fun y=>.ok (.tup (x::argsD y)):=rfl
@[simp] theorem ev_call (k:Nat) (a:Ex):evD cl (.call k a) de=(evD cl a de).bind fun x=>cl k (argsD x):=rfl
@[simp] theorem ev_blt (b:Blf) (a:Ex):evD cl (.blt b a) de=(evD cl a de).bind fun x=>bltD b (argsD x):=rfl
@[simp] theorem ev_isi (t:Tg) (a:Ex):evD cl (.isi t a) de=(evD cl a de).bind fun x=>.ok (.bl (isD t x)):=rfl
@[simp] theorem ev_idx (a b:Ex):evD cl (.idx a b) de=(evD cl a de).bind fun x=>(evD cl b de).bind fun y=>idxD x y:=rfl
@[simp] theorem ev_lst (a:Ex):evD cl (.lst a) de=(evD cl a de).bind fun x=>newD (argsD x):=rfl
@[simp] theorem ev_tup (a:Ex):evD cl (.tup a) de=(evD cl a de).bind fun x=>if (argsD x).length<=lim then .ok (.tup (argsD x)) else .no:=rfl
@[simp] theorem ev_rng (a b c:Ex):evD cl (.rng a b c) de=(evD cl a de).bind fun x=>(evD cl b de).bind fun y=>(evD cl c de).bind fun z=>rngD x y z:=rfl
@[simp] theorem ev_var0 (d:Dat) (r:DEn):evD cl (.var 0) (some d::r)=.ok d:=rfl
@[simp] theorem ev_var_s (i:Nat) (d:Option Dat) (r:DEn):evD cl (.var (i+1)) (d::r)=evD cl (.var i) r:=rfl
@[simp] theorem ev_neg (a:Ex):evD cl (.neg a) de=(evD cl a de).bind fun x=>match x with
  | .int i=>.ok (.int (-i))
  | _=>.no:=rfl
@[simp] theorem ev_not (a:Ex):evD cl (.not a) de=(evD cl a de).bind fun x=>match x with
  | .bl b=>.ok (.bl (!b))
  | _=>.no:=rfl
@[simp] theorem ev_and (a b:Ex):evD cl (.and a b) de=(evD cl a de).bind fun x=>match x with
  | .bl true=>evD cl b de
  | .bl false=>.ok (.bl false)
  | _=>.no:=rfl
@[simp] theorem ev_or (a b:Ex):evD cl (.or a b) de=(evD cl a de).bind fun x=>match x with
  | .bl false=>evD cl b de
  | .bl true=>.ok (.bl true)
  | _=>.no:=rfl
@[simp] theorem ev_chain (p q:Co) (a b c:Ex):evD cl (.chain p q a b c) de=(evD cl a de).bind fun x=>(evD cl b de).bind fun y=>(copD p x y).bind fun z=>match z with
  | .bl true=>(evD cl c de).bind fun u=>copD q y u
  | .bl false=>.ok (.bl false)
  | _=>.no:=rfl
@[simp] theorem ev_ife (c a b:Ex):evD cl (.ife c a b) de=(evD cl c de).bind fun x=>match x with
  | .bl true=>evD cl a de
  | .bl false=>evD cl b de
  | _=>.no:=rfl
@[simp] theorem ev_slL (a lo:Ex):evD cl (.slL a lo) de=(evD cl a de).bind fun x=>(evD cl lo de).bind fun y=>match y with
  | .int i=>slD x (some i) none
  | _=>.no:=rfl
@[simp] theorem ev_slH (a hi:Ex):evD cl (.slH a hi) de=(evD cl a de).bind fun x=>(evD cl hi de).bind fun y=>match y with
  | .int i=>slD x none (some i)
  | _=>.no:=rfl
@[simp] theorem ev_lrng (a:Ex):evD cl (.lrng a) de=(evD cl a de).bind fun x=>match x with
  | .int j=>if -lim<=j/\j<=lim then newD (rngF 0 1 j.toNat) else .no
  | _=>.no:=rfl
@[simp] theorem deq_ii (a b:Int):deq (.int a) (.int b)=decide (a=b):=rfl
@[simp] theorem deq_bb (a b:Bool):deq (.bl a) (.bl b)=(a == b):=rfl
@[simp] theorem deq_ss (a b:List Nat):deq (.str a) (.str b)=decide (a=b):=rfl
@[simp] theorem deq_tt (a b:List Dat):deq (.tup a) (.tup b)=deqL a b:=rfl
@[simp] theorem deq_ll (a b:List Dat):deq (.lst a) (.lst b)=deqL a b:=rfl
@[simp] theorem eqOk_int (k:Nat) (a:Int):eqOk (k+1) (.int a)=true:=rfl
@[simp] theorem eqOk_bl (k:Nat) (a:Bool):eqOk (k+1) (.bl a)=true:=rfl
@[simp] theorem eqOk_str (k:Nat) (a:List Nat):eqOk (k+1) (.str a)=true:=rfl
@[simp] theorem eqOk_non (k:Nat):eqOk (k+1) .non=true:=rfl
@[simp] theorem eqOk_tup (k:Nat) (a:List Dat):eqOk (k+1) (.tup a)=eqOkL k a:=rfl
@[simp] theorem eqOk_lst (k:Nat) (a:List Dat):eqOk (k+1) (.lst a)=eqOkL k a:=rfl
@[simp] theorem eqOkL_nil (k:Nat):eqOkL k []=true:=rfl
@[simp] theorem eqOkL_cons (k:Nat) (d:Dat) (a:List Dat):eqOkL k (d::a)=(eqOk k d && eqOkL k a):=rfl
@[simp] theorem deep_is:deep=11+1:=rfl
@[simp] theorem co_lt (i j:Int):copD .lt (.int i) (.int j)=.ok (.bl (decide (i < j))):=rfl
@[simp] theorem co_le (i j:Int):copD .le (.int i) (.int j)=.ok (.bl (decide (i<=j))):=rfl
@[simp] theorem co_gt (i j:Int):copD .gt (.int i) (.int j)=.ok (.bl (decide (j < i))):=rfl
@[simp] theorem co_ge (i j:Int):copD .ge (.int i) (.int j)=.ok (.bl (decide (j<=i))):=rfl
@[simp] theorem co_eq (i j:Int):copD .eq (.int i) (.int j)=.ok (.bl (decide (i=j))):=rfl
@[simp] theorem co_ne (i j:Int):copD .ne (.int i) (.int j)=.ok (.bl (!decide (i=j))):=rfl
@[simp] theorem co_eqb (i j:Bool):copD .eq (.bl i) (.bl j)=.ok (.bl (i == j)):=rfl
@[simp] theorem co_neb (i j:Bool):copD .ne (.bl i) (.bl j)=.ok (.bl (!(i == j))):=rfl
@[simp] theorem bo_add (i j:Int):bopD .add (.int i) (.int j)=.ok (.int (i+j)):=rfl
@[simp] theorem bo_sub (i j:Int):bopD .sub (.int i) (.int j)=.ok (.int (i - j)):=rfl
theorem bo_mulL (i j:Int) (h:small i=true):bopD .mul (.int i) (.int j)=.ok (.int (i * j)):=by simp[bopD,h]
theorem bo_fdiv (i j:Int) (h:0 < j) (k:j < 1073741824):bopD .fdiv (.int i) (.int j)=.ok (.int (i / j)):=by simp[bopD,h,k]
theorem bo_mod (i j:Int) (h:0 < j):bopD .mod (.int i) (.int j)=.ok (.int (i % j)):=by simp[bopD,h]
theorem bo_pow (i j:Int) (h:0<=j/\j<=1000000/\small i=true):bopD .pow (.int i) (.int j)=.ok (.int (i ^ j.toNat)):=by simp only[bopD];rw[if_pos h]
@[simp] theorem args_tup (xs:List Dat):argsD (.tup xs)=xs:=rfl
@[simp] theorem len_lst (xs:List Dat):bltD .len [.lst xs]=.ok (.int xs.length):=rfl
@[simp] theorem len_tup (xs:List Dat):bltD .len [.tup xs]=.ok (.int xs.length):=rfl
@[simp] theorem len_scr (ns:List Int):bltD .len [.scr ns]=.ok (.int ns.length):=by simp[bltD,seqD]
@[simp] theorem int_bl (b:Bool):bltD .int [.bl b]=.ok (.int (b2i b)):=rfl
theorem ix_nat {n i:Nat}(h:i < n):ix n (i:Int)=some i:=by unfold ix;rw[if_pos (by lia),if_pos (by lia)];simp
theorem rng_ok {a b c:Int}(h:-lim<=a/\a<=lim/\-lim<=b/\b<=lim/\(c=1\/c=-1)):rngD (.int a) (.int b) (.int c)=.ok (.tup (rngF a c (rngN a b c))):=by
 simp only[rngD];rw[if_pos h]
@[simp] theorem rngF_len (a c:Int) (n:Nat):(rngF a c n).length=n:=by simp[rngF]
theorem rngF_get (a c:Int) (n i:Nat) (h:i < n):(rngF a c n)[i]?=some (.int (a+c * (i:Int))):=by
 simp[rngF,h]
@[simp] theorem flatL_rng (a c:Int):∀ (n:Nat),flatL (rngF a c n)=true:=by
 intro n
 unfold rngF
 generalize List.range n=l
 induction l with
 | nil=>rfl
 | cons x l ih=>simp[flatL,flat,ih]
@[simp] theorem flat_tup (xs:List Dat):flat (.tup xs)=flatL xs:=by rw[flat]
@[simp] theorem flat_lst (xs:List Dat):flat (.lst xs)=false:=by rw[flat]
@[simp] theorem flat_int (i:Int):flat (.int i)=true:=by rw[flat]
@[simp] theorem flat_bl (i:Bool):flat (.bl i)=true:=by rw[flat]
@[simp] theorem flat_non:flat .non=true:=by rw[flat]
@[simp] theorem flat_str (s:List Nat):flat (.str s)=true:=by rw[flat]
@[simp] theorem flat_scr (s:List Int):flat (.scr s)=true:=by rw[flat]
@[simp] theorem flatL_nil:flatL []=true:=by rw[flatL]
@[simp] theorem flatL_cons (d:Dat) (ds:List Dat):flatL (d::ds)=(flat d && flatL ds):=by rw[flatL]
@[simp] theorem flatL_ints (l:List Int):flatL (l.map Dat.int)=true:=by
 induction l with
 | nil=>rfl
 | cons x l ih=>simp[ih]
@[simp] theorem it_tup (xs:List Dat):itD (.tup xs)=some xs:=rfl
@[simp] theorem it_scr (xs:List Int):itD (.scr xs)=some (xs.map .int):=rfl
@[simp] theorem ex_skip:exD lev cl .skip de lv=.next de lv:=rfl
@[simp] theorem ex_ret (e:Ex):exD lev cl (.ret e) de lv=(evD cl e de).bindS fun d=>.ret d (lvR lev e d lv):=rfl
@[simp] theorem ex_asg (i:Nat) (e:Ex):exD lev cl (.asg i e) de lv=(evD cl e de).bindS fun d=>asgD lev i e d de lv:=rfl
@[simp] theorem ex_ite (c:Ex) (a b:Sm):exD lev cl (.ite c a b) de lv=(evD cl c de).bindS fun x=>match x with
  | .bl true=>exD lev cl a de lv
  | .bl false=>exD lev cl b de lv
  | _=>.no:=rfl
theorem loopD_inv {α:Type}{body:α->DEn->List Lv->Rsd}(P:Nat->DEn->List Lv->Prop) (xs:List α) {de:DEn}{lv:List Lv}(h0:P 0 de lv)
  (hs:∀ (i:Nat) x de lv,xs[i]?=some x->P i de lv->∃ de' lv',body x de lv=.next de' lv'/\P (i+1) de' lv'):∃ de' lv',loopD body xs de lv=.next de' lv'/\P xs.length de' lv':=by
 induction xs generalizing P de lv with
 | nil=>exact ⟨de,lv,rfl,h0⟩
 | cons x xs ih =>
  obtain ⟨d1,l1,e1,p1⟩:=hs 0 x de lv rfl h0
  unfold loopD
  rw[e1]
  exact ih (fun i=>P (i+1)) p1 (fun i y de lv hy hp=>hs (i+1) y de lv (by simpa using hy) hp)
end
namespace Lib
section
variable {lev : Nat -> Lv} {cl : Nat -> List Dat -> Rd} {k : Nat}
noncomputable def isInt:Dat->Bool
 | .int _=>true
 | _=>false
noncomputable def fWhole:Fn:=⟨1,1,(.ret (.and (.isi .int (.var 0)) (.not (.isi .bool (.var 0)))))⟩
theorem run_whole (d:Dat):runD lev cl k fWhole [d]=.ok (.bl (isInt d)):=by
 cases d <;> simp[runD,fWhole,startD,startL,endD,isD,isInt,lvR]
end
end Lib
section
variable (lev : Nat -> Lv) (cl : Nat -> List Dat -> Rd) (de : DEn) (lv : List Lv)
@[simp] theorem ex_appV (j:Nat) (e:Ex):exD lev cl (.expr (.meth .append (.var j) (.pair e .unit))) de lv=(evD cl e de).okS fun d=>match lsAt de j with
   | some ds=>if ds.length < lim then match giveE lev e d j de lv with
    | some (de1,lv1)=>.next (de1.set j (some (.lst (ds++[d])))) lv1
    | none=>.no
    else .no
   | none=>.no:=rfl
@[simp] theorem ex_revV (j:Nat):exD lev cl (.expr (.meth .reverse (.var j) .unit)) de lv=match lsAt de j with
   | some ds=>if owned lv j then .next (de.set j (some (.lst ds.reverse))) lv else .no
   | none=>.no:=rfl
theorem ex_for (i:Nat) (it:Ex) (body:Sm):exD lev cl (.forv i it body) de lv=(evD cl it de).bindS fun d=>match itD d with
  | some xs=>loopD (fun x de lv=>exD lev cl body (de.set i (some x)) (lv.set i (lvF x))) xs de (if flat d then lv else relE it de lv)
  | none=>.no:=rfl
noncomputable def Rsd.then (r:Rsd) (f:DEn->List Lv->Rsd):Rsd:=match r with
 | .next d l=>f d l
 | r=>r
@[simp] theorem then_next (d:DEn) (l:List Lv) (f:DEn->List Lv->Rsd):(Rsd.next d l).then f=f d l:=rfl
@[simp] theorem then_ret (d:Dat) (l:Lv) (f:DEn->List Lv->Rsd):(Rsd.ret d l).then f=.ret d l:=rfl
theorem seq_then {a b:Sm}(h:viewSw a b=none):exD lev cl (.seq a b) de lv=(exD lev cl a de lv).then (exD lev cl b):=by
 rw[exD_seq,h];cases exD lev cl a de lv <;> rfl
theorem view_seq (a:Sm) (c d:Sm):viewSw a (.seq c d)=none:=rfl
@[simp] theorem sq_seq (a:Sm) (c d:Sm):exD lev cl (.seq a (.seq c d)) de lv=(exD lev cl a de lv).then (exD lev cl (.seq c d)):=seq_then lev cl de lv (view_seq a c d)
theorem view_ret (a:Sm) (e:Ex):viewSw a (.ret e)=none:=rfl
@[simp] theorem sq_ret (a:Sm) (e:Ex):exD lev cl (.seq a (.ret e)) de lv=(exD lev cl a de lv).then (exD lev cl (.ret e)):=seq_then lev cl de lv (view_ret a e)
theorem view_retN (a:Sm)  : viewSw a .retN=none:=rfl
@[simp] theorem sq_retN (a:Sm)  : exD lev cl (.seq a .retN) de lv=(exD lev cl a de lv).then (exD lev cl .retN):=seq_then lev cl de lv (view_retN a)
theorem view_ite (a:Sm) (c:Ex) (x y:Sm):viewSw a (.ite c x y)=none:=rfl
@[simp] theorem sq_ite (a:Sm) (c:Ex) (x y:Sm):exD lev cl (.seq a (.ite c x y)) de lv=(exD lev cl a de lv).then (exD lev cl (.ite c x y)):=seq_then lev cl de lv (view_ite a c x y)
theorem view_forv (a:Sm) (i:Nat) (e:Ex) (x:Sm):viewSw a (.forv i e x)=none:=rfl
@[simp] theorem sq_forv (a:Sm) (i:Nat) (e:Ex) (x:Sm):exD lev cl (.seq a (.forv i e x)) de lv=(exD lev cl a de lv).then (exD lev cl (.forv i e x)):=seq_then lev cl de lv (view_forv a i e x)
theorem view_fort (a:Sm) (i j:Nat) (e:Ex) (x:Sm):viewSw a (.fort i j e x)=none:=rfl
@[simp] theorem sq_fort (a:Sm) (i j:Nat) (e:Ex) (x:Sm):exD lev cl (.seq a (.fort i j e x)) de lv=(exD lev cl a de lv).then (exD lev cl (.fort i j e x)):=seq_then lev cl de lv (view_fort a i j e x)
theorem view_while (a:Sm) (e:Ex) (x:Sm):viewSw a (.while e x)=none:=rfl
@[simp] theorem sq_while (a:Sm) (e:Ex) (x:Sm):exD lev cl (.seq a (.while e x)) de lv=(exD lev cl a de lv).then (exD lev cl (.while e x)):=seq_then lev cl de lv (view_while a e x)
theorem view_asg (a:Sm) (i:Nat) (e:Ex):viewSw a (.asg i e)=none:=rfl
@[simp] theorem sq_asg (a:Sm) (i:Nat) (e:Ex):exD lev cl (.seq a (.asg i e)) de lv=(exD lev cl a de lv).then (exD lev cl (.asg i e)):=seq_then lev cl de lv (view_asg a i e)
theorem view_asgS (a:Sm) (o i e:Ex):viewSw a (.asgS o i e)=none:=rfl
@[simp] theorem sq_asgS (a:Sm) (o i e:Ex):exD lev cl (.seq a (.asgS o i e)) de lv=(exD lev cl a de lv).then (exD lev cl (.asgS o i e)):=seq_then lev cl de lv (view_asgS a o i e)
theorem view_aug (a:Sm) (i:Nat) (op:Bo) (e:Ex):viewSw a (.aug i op e)=none:=rfl
@[simp] theorem sq_aug (a:Sm) (i:Nat) (op:Bo) (e:Ex):exD lev cl (.seq a (.aug i op e)) de lv=(exD lev cl a de lv).then (exD lev cl (.aug i op e)):=seq_then lev cl de lv (view_aug a i op e)
theorem view_augS (a:Sm) (o i:Ex) (op:Bo) (e:Ex):viewSw a (.augS o i op e)=none:=rfl
@[simp] theorem sq_augS (a:Sm) (o i:Ex) (op:Bo) (e:Ex):exD lev cl (.seq a (.augS o i op e)) de lv=(exD lev cl a de lv).then (exD lev cl (.augS o i op e)):=seq_then lev cl de lv (view_augS a o i op e)
theorem view_expr (a:Sm) (e:Ex):viewSw a (.expr e)=none:=rfl
@[simp] theorem sq_expr (a:Sm) (e:Ex):exD lev cl (.seq a (.expr e)) de lv=(exD lev cl a de lv).then (exD lev cl (.expr e)):=seq_then lev cl de lv (view_expr a e)
theorem view_skip (a:Sm)  : viewSw a .skip=none:=rfl
@[simp] theorem sq_skip (a:Sm)  : exD lev cl (.seq a .skip) de lv=(exD lev cl a de lv).then (exD lev cl .skip):=seq_then lev cl de lv (view_skip a)
theorem view_brk (a:Sm)  : viewSw a .brk=none:=rfl
@[simp] theorem sq_brk (a:Sm)  : exD lev cl (.seq a .brk) de lv=(exD lev cl a de lv).then (exD lev cl .brk):=seq_then lev cl de lv (view_brk a)
theorem view_cont (a:Sm)  : viewSw a .cont=none:=rfl
@[simp] theorem sq_cont (a:Sm)  : exD lev cl (.seq a .cont) de lv=(exD lev cl a de lv).then (exD lev cl .cont):=seq_then lev cl de lv (view_cont a)
theorem view_never (a:Sm)  : viewSw a .never=none:=rfl
@[simp] theorem sq_never (a:Sm)  : exD lev cl (.seq a .never) de lv=(exD lev cl a de lv).then (exD lev cl .never):=seq_then lev cl de lv (view_never a)
end
namespace Lib
section
variable {lev : Nat -> Lv} {cl : Nat -> List Dat -> Rd} {k : Nat}
end
end Lib
namespace Lib
section
variable {lev : Nat -> Lv} {cl : Nat -> List Dat -> Rd} {k : Nat}
noncomputable def S (R:List (List Int)) (r c:Nat):Int:=((R.take r).map (fun x=>x.getD c 0)).sum
end
end Lib
namespace Lib
section
variable {lev : Nat -> Lv} {cl : Nat -> List Dat -> Rd} {k : Nat}
noncomputable def fCell:Fn:=⟨2,2,(.seq (.ite (.cmp .lt (.var 1) (.blt .len (.pair (.var 0) .unit))) (.ret (.idx (.var 0) (.var 1))) .skip) (.ret (.bin .add (.bin .mul (.lit (.int 2)) (.var 1)) (.lit (.int 1)))))⟩
theorem run_cell (ns:List Int) (i:Nat):∃ c:Int,runD lev cl k fCell [.scr ns,.int i]=.ok (.int c):=by
 by_cases h:i < ns.length
 ·refine ⟨ns[i],?_⟩
  have h1:idxD (.scr ns) (.int (i:Int))=.ok (.int ns[i]):=by simp[idxD,seqD,ix_nat h,h]
  simp[runD,fCell,startD,startL,endD,lvR,h,h1]
 ·refine ⟨2 * i+1,?_⟩
  simp[runD,fCell,startD,startL,endD,lvR,h,bo_mulL 2 i (by decide)]
def Inc (x:List Int):Prop:=∀ i,i+1 < x.length->x.getD i 0 < x.getD (i+1) 0
def Lace (big sm:List Int):Prop:=big.length=sm.length+1/\∀ i,i < sm.length->big.getD i 0<=sm.getD i 0/\sm.getD i 0<=big.getD (i+1) 0
theorem getD_of {x:List Int}{i:Nat}{v:Int}(h:x[i]?=some v):x.getD i 0=v:=by rw[List.getD_eq_getElem?_getD,h];rfl
end
end Lib
namespace Lib
section
variable {lev : Nat -> Lv} {cl : Nat -> List Dat -> Rd} {k : Nat}
noncomputable def fSizeTo (kw:Nat):Fn:=⟨2,2,(.ret (.and (.call kw (.pair (.var 0) .unit)) (.chain .le .le (.lit (.int 1)) (.var 0) (.var 1))))⟩
theorem run_sizeTo {kw:Nat}(hw:∀ d,cl kw [d]=.ok (.bl (isInt d))) (n m:Int):runD lev cl k (fSizeTo kw) [.int n,.int m]=.ok (.bl (decide (1<=n/\n<=m))):=by
 by_cases h:1<=n <;> simp[runD,fSizeTo,startD,startL,endD,lvR,hw,isInt,h]
end
end Lib
namespace Lib
section
variable {lev : Nat -> Lv} {cl : Nat -> List Dat -> Rd} {k : Nat}
theorem getD_app_lt {x:List Int}{v:Int}{i:Nat}(h:i < x.length):(x++[v]).getD i 0=x.getD i 0:=by
 simp[List.getD_eq_getElem?_getD,List.getElem?_append_left h]
theorem getD_app_eq {x:List Int}{v:Int}:(x++[v]).getD x.length 0=v:=by
 simp[List.getD_eq_getElem?_getD]
theorem getDL_app_lt {x:List (List Int)}{v:List Int}{i:Nat}(h:i < x.length):(x++[v]).getD i []=x.getD i []:=by
 simp[List.getD_eq_getElem?_getD,List.getElem?_append_left h]
theorem getDL_app_eq {x:List (List Int)}{v:List Int}:(x++[v]).getD x.length []=v:=by
 simp[List.getD_eq_getElem?_getD]
theorem Inc.app {x:List Int}{v:Int}(h:Inc x) (hv:0 < x.length->x.getD (x.length - 1) 0 < v):Inc (x++[v]):=by
 intro i hi
 simp only[List.length_append,List.length_cons,List.length_nil] at hi
 by_cases z:i+1 < x.length
 ·rw[getD_app_lt (by lia),getD_app_lt z];exact h i z
 ·have e:i+1=x.length:=by lia
  rw[getD_app_lt (by lia),e,getD_app_eq]
  have:=hv (by lia)
  rwa [show x.length - 1=i by lia] at this
noncomputable def rangeI (n:Nat):List Int:=(List.range n).map fun (i:Nat)=>(i:Int)
structure TriL (n:Nat) (L:List (List Int)):Prop where
 first:L.getD 0 []=rangeI n
 len:∀ j,j < L.length->(L.getD j []).length+j=n
 inc:∀ j,j < L.length->Inc (L.getD j [])
 bd:∀ j,j < L.length->∀ i,i < (L.getD j []).length->0<=(L.getD j []).getD i 0/\(L.getD j []).getD i 0 < n
 lace:∀ j,j+1 < L.length->Lace (L.getD j []) (L.getD (j+1) [])
theorem rangeI_get {n i:Nat}(h:i < n):(rangeI n).getD i 0=i:=getD_of (by simp[rangeI,h])
theorem TriL.one (n:Nat):TriL n [rangeI n]:=by
 refine ⟨rfl,?_,?_,?_,?_⟩
 ·intro j hj;simp at hj;subst hj;simp[rangeI]
 ·intro j hj i hi;simp at hj;subst hj
  simp only[List.getD_cons_zero] at hi ⊢
  have:i+1 < n:=by simpa [rangeI] using hi
  rw[rangeI_get (by lia),rangeI_get this];lia
 ·intro j hj i hi;simp at hj;subst hj
  simp only[List.getD_cons_zero] at hi ⊢
  have:i < n:=by simpa [rangeI] using hi
  rw[rangeI_get this];lia
 ·intro j hj;simp at hj
theorem TriL.app {n:Nat}{L:List (List Int)}{x:List Int}(h:TriL n L) (hL:0 < L.length) (hi:Inc x) (hl:Lace (L.getD (L.length - 1) []) x):TriL n (L++[x]):=by
 have e:=h.len (L.length - 1) (by lia)
 have lt:∀ {j},j < L.length->(L++[x]).getD j []=L.getD j []:=fun hj=>getDL_app_lt hj
 refine ⟨by rw[lt hL];exact h.first,?_,?_,?_,?_⟩
 ·intro j hj
  by_cases z:j < L.length
  ·rw[lt z];exact h.len j z
  ·have:j=L.length:=by simp at hj;lia
   subst this
   rw[getDL_app_eq]
   have:=hl.1
   lia
 ·intro j hj
  by_cases z:j < L.length
  ·rw[lt z];exact h.inc j z
  ·have:j=L.length:=by simp at hj;lia
   subst this
   rw[getDL_app_eq];exact hi
 ·intro j hj i hi'
  by_cases z:j < L.length
  ·rw[lt z] at hi' ⊢;exact h.bd j z i hi'
  ·have:j=L.length:=by simp at hj;lia
   subst this
   rw[getDL_app_eq] at hi' ⊢
   have h1:=hl.2 i hi'
   have h2:=h.bd (L.length - 1) (by lia) i (by have:=hl.1;lia)
   have h3:=h.bd (L.length - 1) (by lia) (i+1) (by have:=hl.1;lia)
   lia
 ·intro j hj
  simp only[List.length_append,List.length_cons,List.length_nil] at hj
  by_cases z:j+1 < L.length
  ·rw[lt (by lia),lt z];exact h.lace j z
  ·have e2:j+1=L.length:=by lia
   rw[lt (by lia),e2,getDL_app_eq]
   rwa [show L.length - 1=j by lia] at hl
end
end Lib
namespace Lib
section
variable {lev : Nat -> Lv} {cl : Nat -> List Dat -> Rd} {k : Nat}
noncomputable def mem (x:List Int) (c:Int):Bool:=x.any (fun v=>decide (v=c))
end
end Lib
namespace Lib
structure Tri (n:Nat) (X:List (List Int)):Prop where
 len:X.length=n
 rlen:∀ j,j < n->(X.getD j []).length=j+1
 inc:∀ j,j < n->Inc (X.getD j [])
 bd:∀ j,j < n->∀ i,i < j+1->0<=(X.getD j []).getD i 0/\(X.getD j []).getD i 0 < n
 lace:∀ j,j+1 < n->Lace (X.getD (j+1) []) (X.getD j [])
 last:X.getD (n - 1) []=rangeI n
theorem Tri.of {n:Nat}{L:List (List Int)}(hn:1<=n) (h:TriL n L) (hl:L.length=n):Tri n L.reverse:=by
 have g:∀ j,j < n->L.reverse.getD j []=L.getD (n - 1 - j) []:=by
  intro j hj
  rw[List.getD_eq_getElem?_getD,List.getD_eq_getElem?_getD,List.getElem?_reverse (by lia),hl]
 refine ⟨by simp[hl],fun j hj=>?_,fun j hj=>?_,fun j hj i hi=>?_,fun j hj=>?_,?_⟩
 ·rw[g j hj];have:=h.len (n - 1 - j) (by lia);lia
 ·rw[g j hj];exact h.inc _ (by lia)
 ·rw[g j hj];have:=h.len (n - 1 - j) (by lia);exact h.bd _ (by lia) i (by lia)
 ·rw[g (j+1) hj,g j (by lia)]
  have:=h.lace (n - 1 - (j+1)) (by lia)
  rwa [show n - 1 - (j+1)+1=n - 1 - j by lia] at this
 ·rw[g (n - 1) (by lia),show n - 1 - (n - 1)=0 by lia];exact h.first
theorem Inc.lt {x:List Int}(h:Inc x):∀ {i j:Nat},i < j->j < x.length->x.getD i 0 < x.getD j 0:=by
 intro i j hij
 induction j with
 | zero=>lia
 | succ j ih =>
  intro hj
  have h1:=h j hj
  by_cases z:i=j
  ·subst z;exact h1
  ·have:=ih (by lia) (by lia);lia
end Lib
namespace Lib
section
variable {lev : Nat -> Lv} {cl : Nat -> List Dat -> Rd} {k : Nat}
end
end Lib
section
variable (lev : Nat -> Lv) (cl : Nat -> List Dat -> Rd) (de : DEn) (lv : List Lv)
end
namespace Lib
section
variable {lev : Nat -> Lv} {cl : Nat -> List Dat -> Rd} {k : Nat}
theorem asg_any {i:Nat}{e:Ex}{d:Dat}{de:DEn}{lv:List Lv}:∃ lv',asgD lev i e d de lv=.next (de.set i (some d)) lv':=by
 unfold asgD
 split
 ·exact ⟨_,rfl⟩
 ·exact ⟨_,rfl⟩
theorem ite_f {c:Ex}{a b:Sm}{de:DEn}{lv:List Lv}(h:evD cl c de=.ok (.bl false)):exD lev cl (.ite c a b) de lv=exD lev cl b de lv:=by rw[ex_ite,h];rfl
end
end Lib
end Vl
end Mini
namespace R03
open Mini
noncomputable def T:List Fn:=[f0,f1,f2,f3,f4,f5,f6,f7,f8,x0,x1,x2,x3,x4,x5,x6]
open Vl Vl.Lib
noncomputable def lev0:Nat->Lv:=fun _=>.no
noncomputable abbrev CD (d:Nat):=callD lev0 T d
theorem c_run {d k:Nat}{f:Fn}(h:T[k]?=some f) (ds:List Dat):CD (d+1) k ds=runD lev0 (CD d) k f ds:=by
 show callD lev0 T (d+1) k ds=_
 unfold callD
 rw[h]
theorem H0 (d:Nat) (x:Dat):CD (d+1) 0 [x]=.ok (.bl (isInt x)):=by rw[c_run (f:=fWhole) rfl];exact run_whole x
theorem H1 (d:Nat) (n m:Int):CD (d+2) 1 [.int n,.int m]=.ok (.bl (decide (1<=n/\n<=m))):=by rw[c_run (f:=fSizeTo 0) rfl];exact run_sizeTo (H0 d) n m
theorem H2 (d:Nat) (n:Int) (h:1<=n/\n<=12):CD (d+3) 2 [.int n,.int 12]=.ok .non:=by
 rw[c_run (f:=f2) rfl]
 have h1:=H1 d n 12
 rw[decide_eq_true h] at h1
 simp[runD,f2,startD,startL,endD,h1]
theorem expr_ok {cl:Nat->List Dat->Rd}{k:Nat}{a:Ex}{de:DEn}{lv:List Lv}{d:Dat}(h:evD cl (.call k a) de=.ok d):exD lev0 cl (.expr (.call k a)) de lv=.next de lv:=by
 show (evD cl (.call k a) de).bindS _=_
 rw[h]
 rfl
theorem H3 (d:Nat) (n:Int) (h:1<=n/\n<=12):CD (d+4) 3 [.int n]=.ok .non:=by
 rw[c_run (f:=f3) rfl]
 show endD _ (exD lev0 (CD (d+3)) (.expr (.call 2 (.pair (.var 0) (.pair (.lit (.int 12)) .unit)))) [some (.int n)] [lvF (.int n)])=_
 rw[expr_ok (d:=.non) (by simp[H2 d n h])]
 rfl
theorem H4 (d:Nat) (ns:List Int) (i:Nat):∃ c:Int,CD (d+1) 4 [.scr ns,.int i]=.ok (.int c):=by rw[c_run (f:=fCell) rfl];exact run_cell ns i
theorem X0 (d:Nat) (n:Int) (h:¬ (1<=n/\n<=12)):CD (d+3) 9 [.int n,.int 12]=.ok (.int 2):=by
 rw[c_run (f:=x0) rfl]
 have h1:=H1 d n 12
 rw[decide_eq_false h] at h1
 simp[runD,x0,startD,startL,endD,lvR,h1]
theorem X1 (d:Nat) (n:Int) (h:¬ (1<=n/\n<=12)):CD (d+4) 10 [.int n]=.ok (.int 2):=by
 rw[c_run (f:=x1) rfl]
 simp[runD,x1,startD,startL,endD,lvR,X0 d n h]
theorem X2 (d:Nat) (n:Int) (h:¬ (1<=n/\n<=12)) (a b c:Dat):CD (d+5) 11 [.int n,a,b,c]=.ok (.int 2):=by
 rw[c_run (f:=x2) rfl]
 simp[runD,x2,startD,startL,endD,lvR,X1 d n h]
theorem X3 (d:Nat) (r m:Int) (h:¬ (0<=r/\r < m)):CD (d+2) 12 [.int r,.int m]=.ok (.int 1):=by
 rw[c_run (f:=x3) rfl]
 by_cases h1:0<=r
 ·have h2:¬ r < m:=fun z=>h ⟨h1,z⟩
  simp[runD,x3,startD,startL,endD,lvR,H0 d,isInt,h1,h2]
 ·simp[runD,x3,startD,startL,endD,lvR,H0 d,isInt,h1]
theorem X4 (d:Nat) (n:Int) (h:¬ (1<=n/\n<=12)):CD (d+5) 13 [.int n,.int 0]=.ok (.int 2):=by
 rw[c_run (f:=x4) rfl]
 simp[runD,x4,isZ,startD,startL,endD,lvR,X1 d n h]
theorem X4r (d:Nat) (n r:Int) (h:1<=n/\n<=12) (h0:r ≠ 0) (hr:¬ (0<=r/\r < 4 * n)):CD (d+5) 13 [.int n,.int r]=.ok (.int 1):=by
 rw[c_run (f:=x4) rfl]
 have e1:bopD .mul (.int 4) (.int n)=.ok (.int (4 * n)):=bo_mulL _ _ (by decide)
 have e2:=X3 (d+2) r (4 * n) hr
 show endD _ (exD lev0 (CD (d+4)) (.ite (isZ 1) _ (.seq (.expr (.call 3 (.pair (.var 0) .unit))) (.ret (.call 12 (.pair (.var 1) (.pair (.bin .mul (.lit (.int 4)) (.var 0)) .unit)))))) [some (.int n),some (.int r)] [lvF (.int n),lvF (.int r)])=_
 rw[ite_f (by simp[isZ,h0]),seq_then lev0 (CD (d+4)) _ _ rfl,expr_ok (d:=.non) (by simp[H3 d n h]),then_next]
 simp[endD,lvR,e1,e2]
theorem X5 (d:Nat) (n:Int) (h:¬ (1<=n/\n<=12)) (a:Dat):CD (d+5) 14 [.int n,a]=.ok (.int 2):=by
 rw[c_run (f:=x5) rfl]
 simp[runD,x5,startD,startL,endD,lvR,X1 d n h]
theorem X6 (d:Nat) (w:Nat) (hw:w < 4) (n:Int) (h:¬ (1<=n/\n<=12)):CD (d+6) 15 [.int w,.int n,.int 0]=.ok (.int 2):=by
 rw[c_run (f:=x6) rfl]
 rcases (by lia:w=0\/w=1\/w=2\/w=3) with rfl | rfl | rfl | rfl
 ·simp[runD,x6,startD,startL,endD,lvR,X2 d n h]
 ·simp[runD,x6,startD,startL,endD,lvR,X4 d n h]
 ·have e:∀ a b:Dat,idxD (.lst [a,b]) (.int 0)=.ok a:=fun a b=>rfl
  simp[runD,x6,startD,startL,endD,lvR,X5 d n h,newD,e,lim]
 ·have e:∀ a b:Dat,idxD (.lst [a,b]) (.int 1)=.ok b:=fun a b=>rfl
  simp[runD,x6,startD,startL,endD,lvR,X5 d n h,newD,e,lim]
theorem X6r (d:Nat) (n r:Int) (h:1<=n/\n<=12) (h0:r ≠ 0) (hr:¬ (0<=r/\r < 4 * n)):CD (d+6) 15 [.int 1,.int n,.int r]=.ok (.int 1):=by
 rw[c_run (f:=x6) rfl]
 simp[runD,x6,startD,startL,endD,lvR,X4r d n r h h0 hr]
theorem H6 (d:Nat) (a b e:Dat) (c:Int) (h:CD d 15 [a,b,e]=.ok (.int c)):CD (d+1) 6 [a,b,e]=.ok (.lst [.int c]):=by
 rw[c_run (f:=f6) rfl]
 simp[runD,f6,startD,startL,endD,lvR,h,newD,lim,asgD]
 rfl
theorem H7 (d:Nat) (x:Dat) (hf:flat x=true) (h:eqOk 12 (.lst [.lst [.int 4],x])=true):CD (d+1) 7 [x]=.ok (.bl true):=by
 rw[c_run (f:=f7) rfl]
 have e:copD .eq (.lst [.lst [.int 4],x]) (.lst [.lst [.int 4],x])=.ok (.bl true):=by
  have h2:eqOk deep (.lst [.lst [.int 4],x])=true:=h
  simp only[copD,eqD,h2,Bool.and_self,if_true,deq_refl 12 _ h,ofBD]
 simp[runD,f7,four,startD,startL,endD,lvR,newD,lim,asgD,e,hf]
def RetT (r:Rsd):Prop:=∃ l,r=.ret (.bl true) l
theorem st_asg {cl:Nat->List Dat->Rd}{i:Nat}{e:Ex}{d:Dat}{X:Sm}{de:DEn}{lv:List Lv}(h:evD cl e de=.ok d) (hv:viewSw (.asg i e) X=none) (k:∀ lv',RetT (exD lev0 cl X (de.set i (some d)) lv')):RetT (exD lev0 cl (.seq (.asg i e) X) de lv):=by
 rw[seq_then lev0 cl de lv hv,ex_asg,h]
 obtain ⟨lv',e'⟩:=asg_any (lev:=lev0) (i:=i) (e:=e) (d:=d) (de:=de) (lv:=lv)
 simp only[Rd.bindS_ok,e',then_next]
 exact k lv'
theorem st_ret {cl:Nat->List Dat->Rd}{e:Ex}{de:DEn}{lv:List Lv}(h:evD cl e de=.ok (.bl true)):RetT (exD lev0 cl (.ret e) de lv):=by
 rw[ex_ret,h];exact ⟨_,rfl⟩
theorem st_next {cl:Nat->List Dat->Rd}{a X:Sm}{de de':DEn}{lv lv':List Lv}(hv:viewSw a X=none) (h:exD lev0 cl a de lv=.next de' lv') (k:RetT (exD lev0 cl X de' lv')):RetT (exD lev0 cl (.seq a X) de lv):=by
 rw[seq_then lev0 cl de lv hv,h,then_next];exact k
noncomputable def far (q:Int):Ex:=.bin .mod (.bin .fdiv (.var 1) (.lit (.int q))) (.bin .pow (.lit (.int 10)) (.lit (.int 29)))
theorem ev_far {cl:Nat->List Dat->Rd}{q c:Int}(hq:0 < q) (hq2:q < 1073741824) (o:Option Dat) (r:DEn):∃ v:Int,0<=v/\evD cl (far q) (o::some (.int c)::r)=.ok (.int v):=by
 have e1:bopD .pow (.int 10) (.int 29)=.ok (.int (10 ^ 29)):=bo_pow 10 29 ⟨by decide,by decide,by decide⟩
 have e2:bopD .fdiv (.int c) (.int q)=.ok (.int (c / q)):=bo_fdiv _ _ hq hq2
 have hp:(0:Int) < 10 ^ 29:=by decide
 generalize (10:Int) ^ 29=P at *
 have e3:bopD .mod (.int (c / q)) (.int P)=.ok (.int (c / q % P)):=bo_mod _ _ hp
 refine ⟨c / q % P,Int.emod_nonneg _ (by lia),?_⟩
 simp only[far,ev_bin,ev_var_s,ev_var0,ev_lit_int,Rd.bind_ok,e1,e2,e3]
theorem pick3 {a b c:Int}{i:Int}(h0:0<=i) (h3:i < 3):∃ v,(v=a\/v=b\/v=c)/\idxD (.lst [.int a,.int b,.int c]) (.int i)=.ok (.int v):=by
 rcases (by lia:i=0\/i=1\/i=2) with rfl | rfl | rfl
 ·exact ⟨a,.inl rfl,rfl⟩
 ·exact ⟨b,.inr (.inl rfl),rfl⟩
 ·exact ⟨c,.inr (.inr rfl),rfl⟩
theorem pick4 {a b c e:Int}{i:Int}(h0:0<=i) (h3:i < 4):∃ v,(v=a\/v=b\/v=c\/v=e)/\idxD (.lst [.int a,.int b,.int c,.int e]) (.int i)=.ok (.int v):=by
 rcases (by lia:i=0\/i=1\/i=2\/i=3) with rfl | rfl | rfl | rfl
 ·exact ⟨a,.inl rfl,rfl⟩
 ·exact ⟨b,.inr (.inl rfl),rfl⟩
 ·exact ⟨c,.inr (.inr (.inl rfl)),rfl⟩
 ·exact ⟨e,.inr (.inr (.inr rfl)),rfl⟩
noncomputable def tst:Sm:=(.ite (.cmp .ne (.call 6 (.pair (.var 3) (.pair (.var 2) (.pair (.lit (.int 0)) .unit)))) (.lst (.pair (.lit (.int 2)) .unit))) (.ret (.lit (.bl false))) .skip)
theorem new1 (x:Dat):newD [x]=.ok (.lst [x]):=by simp[newD,lim]
theorem eq1 (c:Int):copD .eq (.lst [.int c]) (.lst [.int c])=.ok (.bl true):=by
 have h:eqOk deep (.lst [.int c])=true:=rfl
 simp only[copD,eqD,h,Bool.and_self,if_true,deq_refl 12 _ h,ofBD]
theorem ne1 (c:Int):copD .ne (.lst [.int c]) (.lst [.int c])=.ok (.bl false):=by
 have h:eqOk deep (.lst [.int c])=true:=rfl
 simp only[copD,eqD,h,Bool.and_self,if_true,deq_refl 12 _ h,ofBD,Option.map_some,Bool.not_true]
set_option tactic.hygienic true in
theorem law_true (ns:List Int):CD 9 8 [.scr ns]=.ok (.bl true):=by
 rw[c_run (d:=8) (f:=f8) rfl]
 obtain ⟨c0,h0⟩:=H4 7 ns 0
 obtain ⟨c1,h1⟩:=H4 7 ns 1
 have h0':CD 8 4 [.scr ns,.int 0]=.ok (.int c0):=h0
 have h1':CD 8 4 [.scr ns,.int 1]=.ok (.int c1):=h1
 suffices hs:RetT (exD lev0 (CD 8) f8.body [some (.scr ns),none,none,none,none] [lvF (.scr ns),.full,.full,.full,.full]) by
  obtain ⟨l,hs⟩:=hs
  unfold runD
  rw[if_pos (by rfl)]
  show endD _ (exD lev0 (CD 8) f8.body [some (.scr ns),none,none,none,none] [lvF (.scr ns),.full,.full,.full,.full])=_
  rw[hs]
  simp[endD]
 show RetT (exD lev0 (CD 8) (.seq (.asg 1 (.call 4 (.pair (.var 0) (.pair (.lit (.int 0)) .unit)))) (.seq (.asg 2 (.idx (.lst (.pair (.bin .sub (.lit (.int 0)) (far 3)) (.pair (.bin .add (.lit (.int 13)) (far 3)) (.pair (.lit (.int 13)) .unit)))) (.bin .mod (.var 1) (.lit (.int 3))))) (.seq (.forv 3 (.rng (.lit (.int 0)) (.lit (.int 4)) (.lit (.int 1))) tst) (.seq (.asg 1 (.call 4 (.pair (.var 0) (.pair (.lit (.int 1)) .unit)))) (.seq (.asg 2 (.bin .add (.lit (.int 1)) (.bin .mod (.var 1) (.lit (.int 12))))) (.seq (.asg 4 (.idx (.lst (.pair (.bin .mul (.lit (.int 4)) (.var 2)) (.pair (.neg (.lit (.int 1))) (.pair (.bin .add (.bin .mul (.lit (.int 4)) (.var 2)) (far 36)) (.pair (.bin .sub (.neg (.lit (.int 1))) (far 36)) .unit))))) (.bin .mod (.bin .fdiv (.var 1) (.lit (.int 12))) (.lit (.int 4))))) (.ret (.and (.cmp .eq (.call 6 (.pair (.lit (.int 1)) (.pair (.var 2) (.pair (.var 4) .unit)))) (.lst (.pair (.lit (.int 1)) .unit))) (.and (.call 7 (.pair (.tup (.pair (.var 2) (.pair (.var 4) .unit))) .unit)) (.call 7 (.pair (.lit .non) .unit))))))))))) [some (.scr ns),none,none,none,none] [lvF (.scr ns),.full,.full,.full,.full])
 refine st_asg (d:=.int c0) (by simp only[ev_call,ev_pair,ev_unit,ev_var0,ev_lit_int,Rd.bind_ok,args_tup,h0']) rfl fun l1=>?_
 simp only[List.set_cons_succ,List.set_cons_zero]
 obtain ⟨v,hv,ev⟩:=ev_far (cl:=CD 8) (q:=3) (c:=c0) (by decide) (by decide) (some (.scr ns)) [none,none,none]
 obtain ⟨n,hn,en⟩:=pick3 (a:=0 - v) (b:=13+v) (c:=13) (i:=c0 % 3) (by lia) (by lia)
 have hn':¬ (1<=n/\n<=12):=by lia
 have em:bopD .mod (.int c0) (.int 3)=.ok (.int (c0 % 3)):=bo_mod _ _ (by decide)
 have new3:∀ a b c:Dat,newD [a,b,c]=.ok (.lst [a,b,c]):=fun a b c=>by simp[newD,lim]
 refine st_asg (d:=.int n) (by simp only[ev_idx,ev_lst,ev,ev_pair,ev_unit,ev_bin,ev_var_s,ev_var0,ev_lit_int,Rd.bind_ok,args_tup,bo_sub,bo_add,new3,em,en]) rfl fun l2=>?_
 simp only[List.set_cons_succ,List.set_cons_zero]
 have main:=loopD_inv (body:=fun x de lv=>exD lev0 (CD 8) tst (de.set 3 (some x)) (lv.set 3 (lvF x))) (fun i de lv=>∃ o3,de=[some (.scr ns),some (.int c0),some (.int n),o3,none]) (rngF 0 1 4) (de:=[some (.scr ns),some (.int c0),some (.int n),none,none]) (lv:=l2) ⟨none,rfl⟩ ?_
 ·obtain ⟨de',lv',e,o3,rfl⟩:=main
  have hrng:rngD (.int 0) (.int 4) (.int 1)=.ok (.tup (rngF 0 1 4)):=by
   rw[rng_ok (by unfold lim;lia)]
   rfl
  refine st_next rfl (de':=[some (.scr ns),some (.int c0),some (.int n),o3,none]) (lv':=lv') ?_ ?_
  ·rw[ex_for]
   simp only[ev_rng,ev_lit_int,Rd.bind_ok,hrng,Rd.bindS_ok,it_tup,flat_tup,flatL_rng,if_true]
   exact e
  ·refine st_asg (d:=.int c1) (by simp only[ev_call,ev_pair,ev_unit,ev_var0,ev_lit_int,Rd.bind_ok,args_tup,h1']) rfl fun l3=>?_
   simp only[List.set_cons_succ,List.set_cons_zero]
   have e12:bopD .mod (.int c1) (.int 12)=.ok (.int (c1 % 12)):=bo_mod _ _ (by decide)
   refine st_asg (d:=.int (1+c1 % 12)) (by simp only[ev_bin,ev_var_s,ev_var0,ev_lit_int,Rd.bind_ok,e12,bo_add]) rfl fun l4=>?_
   simp only[List.set_cons_succ,List.set_cons_zero]
   have hN:1<=1+c1 % 12/\1+c1 % 12<=12:=by lia
   generalize 1+c1 % 12=N at *
   obtain ⟨u,hu,eu⟩:=ev_far (cl:=CD 8) (q:=36) (c:=c1) (by decide) (by decide) (some (.scr ns)) [some (.int N),o3,none]
   obtain ⟨r,hr,er⟩:=pick4 (a:=4 * N) (b:=-1) (c:=4 * N+u) (e:=-1 - u) (i:=c1 / 12 % 4) (by lia) (by lia)
   have ed:bopD .fdiv (.int c1) (.int 12)=.ok (.int (c1 / 12)):=bo_fdiv _ _ (by decide) (by decide)
   have e4:bopD .mod (.int (c1 / 12)) (.int 4)=.ok (.int (c1 / 12 % 4)):=bo_mod _ _ (by decide)
   have e5:bopD .mul (.int 4) (.int N)=.ok (.int (4 * N)):=bo_mulL _ _ (by decide)
   have new4:∀ a b c d:Dat,newD [a,b,c,d]=.ok (.lst [a,b,c,d]):=fun a b c d=>by simp[newD,lim]
   have h6:=H6 7 (.int 1) (.int N) (.int r) 1 (X6r 1 N r hN (by lia) (by lia))
   have h7:=H7 7 (.tup [.int N,.int r]) rfl rfl
   have h8:=H7 7 .non rfl rfl
   refine st_asg (d:=.int r) (by
    simp only[ev_idx,ev_lst,eu,ev_pair,ev_unit,ev_bin,ev_neg,ev_var_s,ev_var0,ev_lit_int,Rd.bind_ok,args_tup,bo_sub,bo_add,new4,ed,e4,e5]
    exact er) rfl fun l5=>?_
   simp only[List.set_cons_succ,List.set_cons_zero]
   refine st_ret ?_
   simp only[ev_and,ev_cmp,ev_call,ev_lst,ev_tup,ev_pair,ev_unit,ev_var_s,ev_var0,ev_lit_int,ev_lit_non,Rd.bind_ok,args_tup,h6,new1,eq1,List.length_cons,List.length_nil,show (0+1+1:Nat)<=lim from by unfold lim;lia,if_true,h7,h8]
 ·rintro i x de lv hx ⟨o3,rfl⟩
  have hi:i < 4:=by
   have:=(List.getElem?_eq_some_iff.mp hx).1
   simpa using this
  rw[rngF_get 0 1 4 i hi] at hx
  have hx':x=.int (i:Nat):=by
   have:=(Option.some.inj hx).symm
   simpa using this
  subst hx'
  refine ⟨_,lv.set 3 (lvF (.int (i:Nat))),?_,some (.int (i:Nat)),rfl⟩
  ·simp only[List.set_cons_succ,List.set_cons_zero]
   have h6:=H6 7 (.int (i:Nat)) (.int n) (.int 0) 2 (X6 1 i hi n hn')
   unfold tst
   rw[ite_f (by simp only[ev_cmp,ev_call,ev_lst,ev_pair,ev_unit,ev_var_s,ev_var0,ev_lit_int,Rd.bind_ok,args_tup,h6,new1,ne1])]
   rfl
theorem pure (ns:List Int) (_:ns.length<=63):∃ m,callN (D.map (·.fn)++XD.map (·.fn)) 9 8 [.rol (ns.map Wd.int)] []=.ok (.bl true) m:=law_val lev0 T 9 8 ns (law_true ns)
end R03
open PySem PySem.W PyProof.Rows
set_option maxRecDepth 100000 in
set_option maxHeartbeats 0 in
theorem PySem.Challenge.cw_loopgyre_k03_no_sizes_no_roads_holds : PySem.Challenge.rw_loopgyre_k03_no_sizes_no_roads.Holds := by
 w_on;o_law;z_head;(case hw=>w_witness2)
 k_fill
 refine Mini.walkZ (fun _=>rfl) ?_
 refine Mini.walkG (l:=PySem.Challenge.rw_loopgyre_k03_no_sizes_no_roads) (D:=R03.D) (XD:=R03.XD) (C:=R03.C) (Q:=R03.Q) (xn:=R03.XN) (kd:=R03.d5) (sn := "NoState") (fl := "spot") (a0 := "self") (st:=R03.ist) (k:=9) (i:=8) (dl:=R03.d8) (x := "_law_script") (n:=63) rfl (by decide) rfl ⟨rfl,by decide,by decide⟩ (fun w h Y=>Y) (by unfold R03.D;simp) R03.okK rfl rfl rfl R03.okAll R03.okX R03.bnd R03.bndX rfl rfl rfl ?F R03.pure
 case F =>
  intro w mg fa h KX G hmg
  refine' R03.mk KX G ?_ ?_ ?_ ?_ ?_ ?_ ?_ ?_ ?_ ?_ ?_ ?_ ?_ ?_ ?_ ?_ ?xqe0 ?xqz ?xqxG ?xqxg0 ?xqxg1 ?xqxg2 ?xqxg3 ?xqxg4 ?xqxg5 ?xqxg6 ?xqxg7 ?xqxE ?xqxM ?xqxV ?xqxe0 ?xqxa0 ?xqxb0 ?xqxc0 ?xqxd0 ?xqxo0 ?xqxm0 ?xqxv0 ?xqxk0_0 ?xqxk0_1 ?xqxk0_2 ?xqxk0_3 ?xqxk0_4 ?xqxk0_5 ?xqxk0_6 ?xqxk0_7 ?xqxe1 ?xqxa1 ?xqxb1 ?xqxc1 ?xqxd1 ?xqxo1 ?xqxm1 ?xqxv1 ?xqxk1_0 ?xqxk1_1 ?xqxk1_2 ?xqxk1_3 ?xqxk1_4 ?xqxk1_5 ?xqxk1_6 ?xqxk1_7 ?xqxe2 ?xqxa2 ?xqxb2 ?xqxc2 ?xqxd2 ?xqxo2 ?xqxm2 ?xqxv2 ?xqxk2_0 ?xqxk2_1 ?xqxk2_2 ?xqxk2_3 ?xqxk2_4 ?xqxk2_5 ?xqxk2_6 ?xqxk2_7 ?xqxe3 ?xqxa3 ?xqxb3 ?xqxc3 ?xqxd3 ?xqxo3 ?xqxm3 ?xqxv3 ?xqxk3_0 ?xqxk3_1 ?xqxk3_2 ?xqxk3_3 ?xqxk3_4 ?xqxk3_5 ?xqxk3_6 ?xqxk3_7 ?xqxa4 ?xqxb4 ?xqxc4 ?xqxd4 ?xqxo4 ?xqxm4 ?xqxv4 ?xqxk4_0 ?xqxk4_1 ?xqxk4_2 ?xqxk4_3 ?xqxk4_4 ?xqxk4_5 ?xqxk4_6 ?xqxk4_7 ?xqi0
  all_goals try ((refine' R03.dk KX G ?g ?l ?c ?k);(case g=>k_is);(case l=>k_is);(case c=>k_is);(case k=>k_is))
  (case xqz=>refine R03.zk ?_ ?_ ?_ ?_ ?_ ?_ ?_ ?_ ?_ ?_ ?_ ?_ ?_ ?_ ?_ ?_ <;> k_is)
  (case xqe0=>k_is)
  (case xqxG=>k_is)
  (case xqxg0=>k_is)
  (case xqxg1=>k_is)
  (case xqxg2=>k_is)
  (case xqxg3=>k_is)
  (case xqxg4=>k_is)
  (case xqxg5=>k_is)
  (case xqxg6=>k_is)
  (case xqxg7=>k_is)
  (case xqxE=>k_exc)
  (case xqxM=>k_is)
  (case xqxV=>k_is)
  (case xqxe0=>k_exc)
  (case xqxa0=>k_is)
  (case xqxb0=>k_is)
  (case xqxc0=>k_is)
  (case xqxd0=>k_is)
  (case xqxo0=>k_is)
  (case xqxm0=>k_is)
  (case xqxv0=>kit_is)
  (case xqxk0_0=>kit_is)
  (case xqxk0_1=>kit_is)
  (case xqxk0_2=>kit_is)
  (case xqxk0_3=>kit_is)
  (case xqxk0_4=>kit_is)
  (case xqxk0_5=>kit_is)
  (case xqxk0_6=>kit_is)
  (case xqxk0_7=>kit_is)
  (case xqxe1=>k_exc)
  (case xqxa1=>k_is)
  (case xqxb1=>k_is)
  (case xqxc1=>k_is)
  (case xqxd1=>k_is)
  (case xqxo1=>k_is)
  (case xqxm1=>k_is)
  (case xqxv1=>kit_is)
  (case xqxk1_0=>kit_is)
  (case xqxk1_1=>kit_is)
  (case xqxk1_2=>kit_is)
  (case xqxk1_3=>kit_is)
  (case xqxk1_4=>kit_is)
  (case xqxk1_5=>kit_is)
  (case xqxk1_6=>kit_is)
  (case xqxk1_7=>kit_is)
  (case xqxe2=>k_exc)
  (case xqxa2=>k_is)
  (case xqxb2=>k_is)
  (case xqxc2=>k_is)
  (case xqxd2=>k_is)
  (case xqxo2=>k_is)
  (case xqxm2=>k_is)
  (case xqxv2=>kit_is)
  (case xqxk2_0=>kit_is)
  (case xqxk2_1=>kit_is)
  (case xqxk2_2=>kit_is)
  (case xqxk2_3=>kit_is)
  (case xqxk2_4=>kit_is)
  (case xqxk2_5=>kit_is)
  (case xqxk2_6=>kit_is)
  (case xqxk2_7=>kit_is)
  (case xqxe3=>k_exc)
  (case xqxa3=>k_is)
  (case xqxb3=>k_is)
  (case xqxc3=>k_is)
  (case xqxd3=>k_is)
  (case xqxo3=>k_is)
  (case xqxm3=>k_is)
  (case xqxv3=>kit_is)
  (case xqxk3_0=>kit_is)
  (case xqxk3_1=>kit_is)
  (case xqxk3_2=>kit_is)
  (case xqxk3_3=>kit_is)
  (case xqxk3_4=>kit_is)
  (case xqxk3_5=>kit_is)
  (case xqxk3_6=>kit_is)
  (case xqxk3_7=>kit_is)
  (case xqxa4=>k_is)
  (case xqxb4=>k_is)
  (case xqxc4=>k_is)
  (case xqxd4=>k_is)
  (case xqxo4=>k_is)
  (case xqxm4=>k_is)
  (case xqxv4=>kit_is)
  (case xqxk4_0=>kit_is)
  (case xqxk4_1=>kit_is)
  (case xqxk4_2=>kit_is)
  (case xqxk4_3=>kit_is)
  (case xqxk4_4=>kit_is)
  (case xqxk4_5=>kit_is)
  (case xqxk4_6=>kit_is)
  (case xqxk4_7=>kit_is)
  (case xqi0=>refine' R03.io ?i1 ?i2 ?i3 ?i4 ?i5 ?i6 ?i7 ?i8 ?i9 ?l ?c ?k;(case i2=>k_is);(case i1=>kernel_rfl);(case i3=>kernel_rfl);(case i4=>intro self;kernel_rfl);(case i5=>k_is);(case i6=>k_is);(case i7=>k_is);(case i8=>k_is);(case i9=>k_is);(case l=>k_is);(case c=>k_is);(case k=>k_is))
