import PyProof.Rows.All
import Wide.All
import OpenK.AllK
import Wide.FinOn
import Lean
import PyProof.EqAt
import PyProof.EqKinds
import PyProof.NeKinds
import PyProof.TupleCall
import OpenK.KOwn
import PyProof.WalkInts
import KE.KIsAll
import KE.RegKIsAll
import PyProof.ExcAttrAll.ValueError
import OpenK.KMake
import PyProof.ExcInit
import PySem.Challenge.RW_loopgyre_k28_no_triangles
set_option Elab.async false
set_option linter.all false
set_option maxRecDepth 100000
set_option genSizeOf false
set_option maxHeartbeats 0
set_option tactic.hygienic false
set_option bootstrap.genMatcherCode false
set_option compiler.extract_closed false
set_option backward.eqns.nonrecursive false
set_option backward.eqns.deepRecursiveSplit false
noncomputable section
namespace L2
open PySem PySem.Spec PyProof.Rows
abbrev Key:=Sum Int Str
noncomputable def ze6:Key->Value->Bool
 | .inl k,v=>Value.isInt k v
 | .inr x,v=>Value.isStrOf x v
noncomputable def keyH (w:World):Key->Int
 | .inl k=>hashInt k
 | .inr x=>hashStr w x
theorem zV:∀ {k:Key}{v:Value},ze6 k v=true->(∃i t,k=Sum.inl i/\v=Value.int i t)\/(∃x t,k=Sum.inr x/\v=Value.str x t)
 | .inl i,v,h=>by
  obtain ⟨t,e⟩:=Value.isInt_shape (k:=i) (v:=v) h
  exact .inl ⟨i,t,rfl,e⟩
 | .inr x,v,h=>by
  obtain ⟨t,e⟩:=Value.isStrOf_shape (x:=x) (v:=v) h
  exact .inr ⟨x,t,rfl,e⟩
theorem zfh (a b:Int):decide ((Sum.inl a:Key)=Sum.inl b)=(a == b):=by
 by_cases e:a=b
 .subst e;simp
 .have h:¬(Sum.inl a:Key)=Sum.inl b:=fun q=>e (Sum.inl.inj q)
  rw[decide_eq_false h]
  exact (beq_eq_false_iff_ne.mpr e).symm
theorem zfi (a b:Str):decide ((Sum.inr a:Key)=Sum.inr b)=decide (a=b):=by
 by_cases e:a=b
 .subst e;simp
 .have h:¬(Sum.inr a:Key)=Sum.inr b:=fun q=>e (Sum.inr.inj q)
  rw[decide_eq_false h,decide_eq_false e]
theorem zfj (a:Int)(b:Str):decide ((Sum.inl a:Key)=Sum.inr b)=false:=decide_eq_false (fun q=>nomatch q)
theorem zfk (a:Str)(b:Int):decide ((Sum.inr a:Key)=Sum.inl b)=false:=decide_eq_false (fun q=>nomatch q)
noncomputable def zag (prog:Program)(w:World):PySem.KeyKind prog w Key where
 is:=ze6
 hash:=keyH w
 inj:=fun v a b ha hb=>by
  rcases zV ha with ⟨i,t,rfl,rfl⟩ | ⟨x,t,rfl,rfl⟩
  .rcases zV hb with ⟨j,u,rfl,e⟩ | ⟨y,u,rfl,e⟩
   .injection e with e1 _;rw[e1]
   .exact nomatch e
  .rcases zV hb with ⟨j,u,rfl,e⟩ | ⟨y,u,rfl,e⟩
   .exact nomatch e
   .injection e with e1 _;rw[e1]
 byValue:=fun k v h=>by
  rcases zV h with ⟨i,t,rfl,rfl⟩ | ⟨x,t,rfl,rfl⟩ <;> rfl
 pyHash:=fun hv h=>by
  rcases zV hv with ⟨i,t,rfl,rfl⟩ | ⟨x,t,rfl,rfl⟩
  .exact wpAny_pyHash_int h
  .exact wpAny_pyHash_str h
 eqBool:=fun hu hv h=>by
  rcases zV hu with ⟨i,t,rfl,rfl⟩ | ⟨x,t,rfl,rfl⟩
  .rcases zV hv with ⟨j,u,rfl,rfl⟩ | ⟨y,u,rfl,rfl⟩
   .rw[zfh] at h;exact wpAny_eqBool_int h
   .rw[zfj] at h;exact SeqAt.EqAt.int_str i t y u _ _ _ _ h
  .rcases zV hv with ⟨j,u,rfl,rfl⟩ | ⟨y,u,rfl,rfl⟩
   .rw[zfk] at h;exact SeqAt.EqAt.str_int x t j u _ _ _ _ h
   .rw[zfi] at h;exact wpAny_eqBool_str h
 «strs»:=fun k x t v h=>by
  rcases zV h with ⟨i,u,rfl,e⟩ | ⟨y,u,rfl,e⟩
  .exact nomatch e
  .injection e with e1 _
   subst e1
   cases v <;> rfl
set_option genInjectivity false in
inductive V where
 | non | bl (b:Bool) | int (i:Int) | str (x:Str) | byt (b:Array UInt8) | flt (b:UInt64) | ref (a:Addr) | ty (n:String)
 deriving DecidableEq
def RelV:V->Value->Prop
 | .non,u=>u=Value.none
 | .bl b,u=>u=Value.bool b
 | .int i,u=>∃t,u=Value.int i t
 | .str x,u=>∃t,u=Value.str x t
 | .byt b,u=>∃t,u=Value.bytes b t
 | .flt b,u=>∃t,u=Value.float b t
 | .ref a,u=>u=Value.ref a
 | .ty n,u=>u=Value.type n
abbrev Vals:List V->List Value->Prop:=Paired RelV
theorem Vals.length {xs:List V}{us:List Value}(r:Vals xs us):xs.length=us.length:=Paired.length r
theorem Vals.get:∀ {xs:List V}{us:List Value}{i:Nat}{x:V},Vals xs us->xs[i]?=some x->∃u,us[i]?=some u/\RelV x u
 | _,_,_,_,.nil,e=>by simp at e
 | _,_,0,_,.cons r _,e=>by simp at e;subst e;exact ⟨_,rfl,r⟩
 | _,_,i+1,x,.cons _ t,e=>by
  obtain ⟨u,h1,h2⟩:=Vals.get (i:=i) (x:=x) t (by simpa using e)
  exact ⟨u,by simpa using h1,h2⟩
theorem Vals.set {x:V}{u:Value}(r:RelV x u):∀ {xs:List V}{us:List Value}(i:Nat),Vals xs us->Vals (xs.set i x) (us.set i u)
 | _,_,_,.nil=>.nil
 | _,_,0,.cons _ t=>.cons r t
 | _,_,i+1,.cons q t=>.cons q (Vals.set r i t)
theorem Vals.append:∀ {xs ys:List V}{us ws:List Value},Vals xs us->Vals ys ws->Vals (xs++ys) (us++ws)
 | _,_,_,_,.nil,s=>s
 | _,_,_,_,.cons r t,s=>.cons r (Vals.append t s)
theorem Vals.take:∀ {xs:List V}{us:List Value}(n:Nat),Vals xs us->Vals (xs.take n) (us.take n)
 | _,_,0,_=>.nil
 | _,_,_+1,.nil=>.nil
 | _,_,n+1,.cons r t=>.cons r (Vals.take n t)
theorem Vals.drop:∀ {xs:List V}{us:List Value}(n:Nat),Vals xs us->Vals (xs.drop n) (us.drop n)
 | _,_,0,r=>r
 | _,_,_+1,.nil=>.nil
 | _,_,n+1,.cons _ t=>Vals.drop n t
def RelO:Option V->Option Value->Prop
 | some v,some u=>RelV v u
 | none,none=>True
 | _,_=>False
def KV {κ:Type}:List (κ×V)->List (κ×Value)->Prop:=Paired fun (p:κ×V) (q:κ×Value)=>p.1=q.1/\RelV p.2 q.2
noncomputable def kV:Key->V
 | .inl i=>.int i
 | .inr x=>.str x
set_option genInjectivity false in
inductive HO where
 /-- a list -/
 | lst (xs:List V)
 /-- a tuple (never changes) -/
 | tup (xs:List V)
 /-- a dict whose keys are ints and texts;one whose keys are tuples of ints and texts (the empty one is both) -/
 | dK (kvs:List (Key×V)) | dT (kvs:List (List Key×V))
 /-- a set of ints: its members,its size -/
 | set (S:Int->Bool) (n:Nat)
 /-- an instance of the class at C,its dict at dx,its attributes -/
 | ins (C dx:Addr) (fs:List (Str×V))
 /-- the dict of the instance at x -/
 | own (x:Addr)
 /-- the dict of an exception -/
 | xd (fs:List (Str×V))
 /-- a bound method,f of x -/
 | met (f x:Addr)
 /-- a range object lo,lo+1,.. below hi -/
 | rng (lo hi:Int)
 /-- a thing that is known to the object (the script;a dict while a loop walks it): read,never written while it is so -/
 | frz (o:Obj) (u:HO)
 /-- a code object's table -/
 | tbl (ps:Array Value)
 /-- any other thing,by what is true of its one object (a def of one's own: SetO a S n:=HO.ext fun h=>..) -/
 | ext (φ:Heap->Prop)
abbrev Hp:=Addr->Option HO
noncomputable def upd (H:Hp)(a:Addr)(o:HO):Hp:=fun b=>if b=a then some o else H b
theorem zg {H:Hp}{a:Addr}{o:HO}:upd H a o a=some o:=by unfold upd;rw[if_pos rfl]
theorem zd {H:Hp}{a b:Addr}{o:HO}(h:b≠a):upd H a o b=H b:=by unfold upd;rw[if_neg h]
theorem zl {H:Hp}{a b:Addr}{o:HO}(h:H a=some o)(h':H b=none):a≠b:=by
 intro e;subst e;rw[h] at h';cases h'
section
variable (P:Program)(w:World)
def ObjOk (H:Hp)(h:Heap)(a:Addr):HO->Prop
 | .lst xs=>xs.length<=sizeLine/\∃ (its:List Value) (n:Nat),Vals xs its/\h.get? a=some { cls:=.type "list",data:=.seq its.toArray n }
 | .tup xs=>xs.length<=sizeLine/\∃its:List Value,Vals xs its/\IsTup h a its.toArray
 | .dK kvs=>kvs.length<=sizeLine/\(a == sysModules)=false/\∃vs,KV kvs vs/\h.DictOf (zag P w) a vs
 | .dT kvs=>kvs.length<=sizeLine/\(a == sysModules)=false/\∃xs:List (List Key×Addr×Value),
   Paired (fun (p:List Key×V) (q:List Key×Addr×Value)=>p.1=q.1/\H q.2.1=some (.tup (p.1.map kV))/\RelV p.2 q.2.2) kvs xs /\
   ∃o es ep,h.get? a=some o/\o.ExactDict/\o.data=.dict es ep/\es.toList=xs.map (entryOfKey (tupleKind (zag P w)))/\(xs.map (·.1)).Nodup
 | .set S n=>h.SetOf (intKind P w) a S n
 | .ins C dx fs=>H dx=some (.own a)/\fs.length<=1000/\dx≠a/\h.get? a=some (PySem.W.instObj C dx) /\
   ∃mA,h.Ns1 dx mA/\(∀f,RelO (fs.lookup f) (mA f))/\PySem.Within mA (fs.map (·.1))
 | .own _=>∃o,h.get? a=some o
 | .xd fs=>∃mA,h.Ns1 a mA/\∀f,RelO (fs.lookup f) (mA f)
 | .rng lo hi=>∃t u v,h.get? a=some { cls:=.type "range",data:=.fields #[.int lo t,.int hi u,.int 1 v] }
 | .frz o u=>h.get? a=some o/\ObjOk H h a u
 | .tbl ps=>h.get? a=some { cls:=.none,data:=.fields ps }
 | .met f x=>h.get? a=some (PySem.W.methodObj (.ref f) (.ref x))
 | .ext φ=>φ h/\(∃o,h.get? a=some o)/\∀h1 h2:Heap,φ h1->(∀o,h1.get? a=some o->h2.get? a=some o)->φ h2
def HOk (H:Hp)(h:Heap):Prop:=∀a o,H a=some o->ObjOk P w H h a o
end
section
variable {P:Program}{w:World}{H H':Hp}{h h':Heap}{a:Addr}{o:HO}
theorem ObjOk.lt (x:ObjOk P w H h a o):a < h.objs.size:=by
 cases o with
 | lst xs=>obtain ⟨_,_,_,_,e⟩:=x;exact Heap.lt_size e
 | tup xs=>obtain ⟨_,_,_,p⟩:=x;exact p.lt
 | dK kvs=>obtain ⟨_,_,_,_,o,_,_,e,_⟩:=x;exact Heap.lt_size e
 | dT kvs=>obtain ⟨_,_,_,_,o,_,_,e,_⟩:=x;exact Heap.lt_size e
 | set S n=>obtain ⟨o,_,_,_,e,_⟩:=x;exact Heap.lt_size e
 | ins C dx fs=>obtain ⟨_,_,_,e,_⟩:=x;exact Heap.lt_size e
 | own y=>obtain ⟨_,e⟩:=x;exact Heap.lt_size e
 | xd fs=>obtain ⟨_,⟨_,_,_,e,_⟩,_⟩:=x;exact Heap.lt_size e
 | rng lo hi=>obtain ⟨_,_,_,e⟩:=x;exact Heap.lt_size e
 | frz ob u=>obtain ⟨e,_⟩:=x;exact Heap.lt_size e
 | tbl ps=>exact Heap.lt_size (show h.get? a=some _ from x)
 | met f y=>exact Heap.lt_size (show h.get? a=some _ from x)
 | ext φ=>obtain ⟨_,⟨_,e⟩,_⟩:=x;exact Heap.lt_size e
theorem zix {α β:Type}{F G:α->β->Prop}:∀ {l₁:List α}{l₂:List β},Paired F l₁ l₂->(∀a b,F a b->G a b)->Paired G l₁ l₂
 | _,_,.nil,_=>.nil
 | _,_,.cons r t,f=>.cons (f _ _ r) (zix t f)
theorem ObjOk.stay (x:ObjOk P w H h a o)(k:∀b u,(b=a\/H b=some (.own a))->h.get? b=some u->h'.get? b=some u)
  (ho:∀b,H b=some (.own a)->H' b=some (.own a)) (ht:∀b xs,H b=some (.tup xs)->H' b=some (.tup xs)):ObjOk P w H' h' a o:=by
 induction o with
 | lst xs=>obtain ⟨z,its,n,r,e⟩:=x;exact ⟨z,its,n,r,k _ _ (.inl rfl) e⟩
 | tup xs=>obtain ⟨z,its,r,ob,e,c⟩:=x;exact ⟨z,its,r,ob,k _ _ (.inl rfl) e,c⟩
 | dK kvs=>obtain ⟨z,y,vs,r,ob,es,ep,e,c⟩:=x;exact ⟨z,y,vs,r,ob,es,ep,k _ _ (.inl rfl) e,c⟩
 | dT kvs =>
  obtain ⟨z,y,xs,r,ob,es,ep,e,c⟩:=x
  exact ⟨z,y,xs,zix r fun p q z=>⟨z.1,ht _ _ z.2.1,z.2.2⟩,ob,es,ep,k _ _ (.inl rfl) e,c⟩
 | set S n=>obtain ⟨ob,es,ep,t,e,c⟩:=x;exact ⟨ob,es,ep,t,k _ _ (.inl rfl) e,c⟩
 | ins C dx fs =>
  obtain ⟨d,z,ne,e,mA,⟨od,es,ep,e2,c⟩,r⟩:=x
  exact ⟨ho _ d,z,ne,k _ _ (.inl rfl) e,mA,⟨od,es,ep,k _ _ (.inr d) e2,c⟩,r⟩
 | own y=>obtain ⟨ob,e⟩:=x;exact ⟨ob,k _ _ (.inl rfl) e⟩
 | xd fs=>obtain ⟨mA,⟨od,es,ep,e,c⟩,r⟩:=x;exact ⟨mA,⟨od,es,ep,k _ _ (.inl rfl) e,c⟩,r⟩
 | rng lo hi=>obtain ⟨t,u,v,e⟩:=x;exact ⟨t,u,v,k _ _ (.inl rfl) e⟩
 | frz ob u ih=>obtain ⟨e,q⟩:=x;exact ⟨k _ _ (.inl rfl) e,ih q⟩
 | tbl ps =>
  have e:h.get? a=some { cls:=.none,data:=.fields ps }:=x
  show h'.get? a=some { cls:=.none,data:=.fields ps }
  exact k a _ (.inl rfl) e
 | met f y =>
  have e:h.get? a=some (PySem.W.methodObj (.ref f) (.ref y)):=x
  show h'.get? a=some (PySem.W.methodObj (.ref f) (.ref y))
  exact k a _ (.inl rfl) e
 | ext φ=>obtain ⟨p,⟨o,e⟩,st⟩:=x;exact ⟨st _ _ p fun o q=>k _ _ (.inl rfl) q,⟨o,k _ _ (.inl rfl) e⟩,st⟩
theorem HOk.lt (x:HOk P w H h)(e:H a=some o):a < h.objs.size:=(x a o e).lt
theorem HOk.fresh (x:HOk P w H h)(e:h.objs.size<=a):H a=none:=by
 cases q:H a with
 | none=>rfl
 | some u=>exact absurd (Nat.lt_of_lt_of_le (x.lt q) e) (Nat.lt_irrefl _)
theorem HOk.kept (x:HOk P w H h)(k:∀b u,h.get? b=some u->h'.get? b=some u):HOk P w H h':=fun a o e =>
 (x a o e).stay (fun b u _ q=>k b u q) (fun _ q=>q) fun _ _ q=>q
theorem HOk.laid (x:HOk P w H h)(k:∀b u,h.get? b=some u->h'.get? b=some u)(hp:h.objs.size<=a)(new:ObjOk P w (upd H a o) h' a o):HOk P w (upd H a o) h':=fun b u e=>by
 have hn:=x.fresh hp
 by_cases hb:b=a
 .subst hb;rw[zg] at e;cases e;exact new
 .rw[zd hb] at e
  exact (x b u e).stay (fun c v _ q=>k c v q) (fun c q=>by rw[zd (zl q hn)];exact q) fun c xs q=>by rw[zd (zl q hn)];exact q
end
def Rd (H:Hp)(a:Addr)(u:HO):Prop:=H a=some u\/∃o,H a=some (.frz o u)
theorem Rd.ok {P:Program}{w:World}{H:Hp}{h:Heap}{a:Addr}{u:HO}(r:Rd H a u)(x:HOk P w H h):ObjOk P w H h a u:=by
 rcases r with r | ⟨o,r⟩
 .exact x a u r
 .obtain ⟨_,q⟩:=x a _ r
  exact q
def Mut:Option HO->Prop
 | some (.lst _)=>True
 | some (.dK _)=>True
 | some (.dT _)=>True
 | some (.set _ _)=>True
 | some (.ins _ _ _)=>True
 | some (.ext _)=>True
 | _=>False
section
variable {P:Program}{w:World}{H:Hp}{h h':Heap}{x e:Addr}{o':HO}
theorem HOk.write (ok:HOk P w H h)(mu:Mut (H x))(he:e=x\/H e=some (.own x))(k:∀b u,b≠e->h.get? b=some u->h'.get? b=some u)(heo:∃u,h'.get? e=some u)
  (new:ObjOk P w (upd H x o') h' x o'):HOk P w (upd H x o') h':=fun b u q=>by
 have nown:∀c y,H c=some (.own y)->c≠x:=fun c y r z=>by subst z;rw[r] at mu;exact mu
 have ntup:∀c xs,H c=some (.tup xs)->c≠x:=fun c xs r z=>by subst z;rw[r] at mu;exact mu
 by_cases hb:b=x
 .subst hb;rw[zg] at q;cases q;exact new
 .rw[zd hb] at q
  by_cases hbe:b=e
  .have q':H b=some (.own x):=by
    rcases he with z | z
    .exact absurd (hbe.trans z) hb
    .rw[hbe];exact z
   rw[q] at q';cases q'
   obtain ⟨v,hv⟩:=heo
   exact ⟨v,by rw[hbe];exact hv⟩
  .refine (ok b u q).stay (fun c v hc r=>k c v ?_ r) (fun c r=>by rw[zd (nown c b r)];exact r) fun c xs r=>by rw[zd (ntup c xs r)];exact r
   rcases hc with rfl | hc
   .exact hbe
   .rintro rfl
    rcases he with z | z
    .exact nown c b hc z
    .rw[hc] at z;cases z;exact hb rfl
end
structure Un (fs ex:List Addr)(H H':Hp)(h h':Heap):Prop where
 keep:∀b o,h.get? b=some o->H b=none->b∉fs->b∉ex->h'.get? b=some o
 slot:∀b o,h.get? b=some o->H b=none->b∈fs->b∉ex->∃sl,h'.get? b=some { o with slots:=sl }
 free:∀b o,h.get? b=some o->H b=none->b∉ex->H' b=none
 there:∀b o,h.get? b=some o->b∉ex->∃o',h'.get? b=some o'
 tups:∀b xs,H b=some (.tup xs)->H' b=some (.tup xs)
 frzs:∀b o u,H b=some (.frz o u)->H' b=some (.frz o u)
 tbls:∀b ps,H b=some (.tbl ps)->∃more,H' b=some (.tbl (ps++more))
section
variable {fs ex:List Addr}{H H1:Hp}{h h1 h':Heap}{a x e:Addr}{o:HO}
theorem Un.any (u:Un fs ex H H1 h h1){b:Addr}{ob:Obj}(q:h.get? b=some ob)(n:H b=none)(hx:b∉ex):∃sl,h1.get? b=some { ob with slots:=sl }:=by
 by_cases hb:b∈fs
 .exact u.slot b ob q n hb hx
 .exact ⟨ob.slots,u.keep b ob q n hb hx⟩
theorem Un.kept (k:∀b u,h.get? b=some u->h'.get? b=some u):Un fs ex H H h h' :=
 ⟨fun b ob q _ _ _=>k b ob q,fun b ob q _ _ _=>⟨ob.slots,k b ob q⟩,fun _ _ _ n _=>n,fun b ob q _=>⟨ob,k b ob q⟩,fun _ _ q=>q,fun _ _ _ q=>q,fun _ ps q=>⟨#[],by rw[q];simp⟩⟩
theorem Un.refl:Un fs ex H H h h:=Un.kept fun _ _ q=>q
theorem Un.laid (k:∀b u,h.get? b=some u->h'.get? b=some u)(hp:h.objs.size<=a)(hn:H a=none):Un fs ex H (upd H a o) h h' where
 keep:=fun b u q _ _ _=>k b u q
 slot:=fun b u q _ _ _=>⟨u.slots,k b u q⟩
 free:=fun b u q n _=>by rw[zd (Nat.ne_of_lt (Nat.lt_of_lt_of_le (Heap.lt_size q) hp))];exact n
 there:=fun b u q _=>⟨u,k b u q⟩
 tups:=fun b xs q=>by rw[zd (zl q hn)];exact q
 frzs:=fun b u xs q=>by rw[zd (zl q hn)];exact q
 tbls:=fun b ps q=>⟨#[],by rw[zd (zl q hn),q];simp⟩
theorem Un.write (mu:Mut (H x))(he:e=x\/H e=some (.own x))(k:∀b u,b≠e->h.get? b=some u->h'.get? b=some u)(heo:∃u,h'.get? e=some u):Un fs ex H (upd H x o) h h':=by
 have hx:∀b,H b=none->b≠x:=fun b n z=>by subst z;rw[n] at mu;exact mu
 have hb:∀b,H b=none->b≠e:=fun b n z=>by
  subst z
  rcases he with r | r
  .exact hx b n r
  .rw[n] at r;cases r
 have hm:∀b u,H b=some u->¬ Mut (some u)->b≠x:=fun b u q nm z=>by subst z;rw[q] at mu;exact nm mu
 refine ⟨fun b u q n _ _=>k b u (hb b n) q,fun b u q n _ _=>⟨u.slots,k b u (hb b n) q⟩,fun b u q n _=>by rw[zd (hx b n)];exact n,fun b u q _=>?_,
  fun b xs q=>by rw[zd (hm b _ q fun z=>z)];exact q,fun b u xs q=>by rw[zd (hm b _ q fun z=>z)];exact q,fun b ps q=>⟨#[],by rw[zd (hm b _ q fun z=>z),q];simp⟩⟩
 by_cases hbe:b=e
 .subst hbe;exact heo
 .exact ⟨u,k b u hbe q⟩
end
noncomputable def trk (h:Heap)(H:Hp):List Addr:=(List.range h.objs.size).filter fun a=>(H a).isSome
noncomputable def jM (h:Heap)(H:Hp):Heap:=PySem.W.hideAll h (trk h H)
theorem zaU (h:Heap)(H:Hp):(jM h H).objs.size=h.objs.size:=PySem.W.hideAll_size _ _
theorem zbU {h:Heap}{H:Hp}{b:Addr}{o:Obj}(e:h.get? b=some o)(n:H b=none):(jM h H).get? b=some o :=
 PySem.W.hideAll_get _ e fun hm=>by
  have q:(H b).isSome=true:=(List.mem_filter.mp hm).2
  rw[n] at q;simp at q
theorem zdM {h:Heap}{H:Hp}{b:Addr}{o:Obj}(e:(jM h H).get? b=some o):h.get? b=some o/\H b=none:=by
 have e':h.get? b=some o:=PySem.W.of_hideAll (trk h H) e
 refine ⟨e',?_⟩
 cases q:H b with
 | none=>rfl
 | some x =>
  have hm:b∈trk h H:=List.mem_filter.mpr ⟨List.mem_range.mpr (Heap.lt_size e'),by simp[q]⟩
  have z:(jM h H).get? b=none:=PySem.W.hideAll_none (trk h H) hm
  rw[z] at e;cases e
structure Mod (K:PySem.W.Frag)(mg:Str->Option Value)(base:Heap):Prop where
 kin:K.In base
 glob:base.Ns mainGlobals mg
 blt:∃mb,base.Ns builtinsNs mb/\∀x:Str,x ≠ "__name__" -> mb x=bootBuiltins x
 nolimit:base.NoLimit
set_option genInjectivity false in
structure Cx where
 prog:Program
 w:World
 K:PySem.W.Frag
 mg:Str->Option Value
 base:Heap
 A:Around
 N:List Str
 s₀:Shared
 H₀:Hp
 env:Env
 outer:List Env
 stack:List Env
 ex:List Addr
 fn:Str->Bool
 calm:Bool
 pn:List (Addr×Obj)
 xe:Value->Shared->Prop
noncomputable def frs (l:List Env):List Addr:=l.filterMap (·.frame)
noncomputable abbrev Cx.fs (X:Cx):List Addr:=frs X.outer
def Vis (sc:Scope)(x:Str):Prop:=sc.names.lookup x=some .local\/sc.names.lookup x=some .cell\/sc.names.lookup x=some .free
def Loc (sc:Scope)(x:Str):Prop:=sc.names.lookup x=some .local\/sc.names.lookup x=some .cell
def zgu (env:Env)(h:Heap)(m:Str->Option Value)(x:Str)(u:Value):Prop :=
 (env.kindOf x=some .local/\m x=some u)\/((env.kindOf x=some .cell\/env.kindOf x=some .free)/\∃c,env.cells.lookup x=some c/\h.IsCell c (some u))
structure Cx.Ok (X:Cx):Prop where
 mod:Mod X.K X.mg X.base
 kind:X.env.scope.kind=.function
 glob:X.env.globals=mainGlobals
 blt:X.env.builtins=builtinsNs
 above:X.s₀.heap.objs.size<=X.env.locals
 inj:∀x y c,X.env.cells.lookup x=some c->X.env.cells.lookup y=some c->x=y
 has:∀x,(X.env.kindOf x=some .cell\/X.env.kindOf x=some .free)->∃c,X.env.cells.lookup x=some c
 cab:∀x c,X.fn x=true->X.env.cells.lookup x=some c->X.s₀.heap.objs.size<=c
 hd:X.calm=true->X.A.handled=none
 frames:X.A.frames=some X.stack
 stk:X.stack=X.outer\/(X.stack=X.env::X.outer/\X.env.frame=some X.env.locals)
 exf:∀b∈X.ex,b≠X.env.locals/\∀x c,X.env.cells.lookup x=some c->c≠b
 bs:∀b o,X.base.get? b=some o->X.s₀.heap.get? b=some o/\X.H₀ b=none
 bsz:X.base.objs.size<=X.s₀.heap.objs.size
 noex:∀b o,X.base.get? b=some o->b∉X.ex
 exfs:∀b∈X.ex,b∉X.fs
 funs:X.s₀.heap.FunFrames X.base X.outer
 frf:∀b∈X.fs,X.H₀ b=none
structure Inv (X:Cx)(pins:List (Addr×Obj))(σ:List (Option V))(H:Hp)(s:Shared):Prop where
 ok:X.Ok
 os:s.os=X.s₀.os
 bare:AllBare s.gens
 base:Un X.fs X.ex X.H₀ H X.s₀.heap s.heap
 loc:∃m,s.heap.Ns X.env.locals m/\∀ (i:Nat) (x:Str) (v:V),X.N[i]?=some x->σ[i]?=some (some v)->Vis X.env.scope x->∃u,RelV v u/\zgu X.env s.heap m x u
 cell:∀x c,X.env.cells.lookup x=some c->∃v,s.heap.IsCell c v
 free:H X.env.locals=none
 freeC:∀x c,X.env.cells.lookup x=some c->H c=none
 pin:∀p∈X.pn++pins,s.heap.get? p.1=some p.2/\H p.1=none/\p.1≠X.env.locals/\p.1∉X.fs/\∀v,p.2.data≠.cell v
 hok:HOk X.prog X.w H s.heap
 len:σ.length=X.N.length
section
variable {X:Cx}{pins:List (Addr×Obj)}{σ:List (Option V)}{H H':Hp}{s:Shared}{h':Heap}
theorem Cx.Ok.nofr (ok:X.Ok){b:Addr}{o:Obj}(e:X.base.get? b=some o):b∉X.fs:=fun hb=>by
 have:=(ok.funs.mem hb).1
 rw[e] at this;cases this
theorem Inv.bs (I:Inv X pins σ H s):∀b o,X.base.get? b=some o->s.heap.get? b=some o/\H b=none:=fun b o e =>
 ⟨I.base.keep b o (I.ok.bs b o e).1 (I.ok.bs b o e).2 (I.ok.nofr e) (I.ok.noex b o e),I.base.free b o (I.ok.bs b o e).1 (I.ok.bs b o e).2 (I.ok.noex b o e)⟩
theorem Inv.bk (I:Inv X pins σ H s):∀b o,X.base.get? b=some o->s.heap.get? b=some o:=fun b o e=>(I.bs b o e).1
theorem Inv.mod (I:Inv X pins σ H s):Mod X.K X.mg X.base:=I.ok.mod
theorem Inv.kIn (I:Inv X pins σ H s):X.K.In s.heap:=I.ok.mod.kin.keeps I.bk
theorem Inv.lt (I:Inv X pins σ H s):X.env.locals < s.heap.objs.size:=let ⟨_,hn,_⟩:=I.loc;hn.lt
theorem Inv.sz (I:Inv X pins σ H s):X.s₀.heap.objs.size<=s.heap.objs.size:=Nat.le_trans I.ok.above (Nat.le_of_lt I.lt)
theorem Inv.nofs (I:Inv X pins σ H s){a:Addr}(h:s.heap.objs.size<=a):a∉X.fs:=fun hb=>by
 obtain ⟨_,o,ho,_⟩:=I.ok.funs.mem hb
 exact absurd (Nat.lt_of_lt_of_le (Heap.lt_size ho) (Nat.le_trans I.sz h)) (Nat.lt_irrefl _)
theorem Inv.cne (I:Inv X pins σ H s):∀x c,X.env.cells.lookup x=some c->c≠X.env.locals:=fun x c e z=>by
 obtain ⟨v,o,ho,hd⟩:=I.cell x c e
 obtain ⟨m,⟨o',es,ep,ho',hd',_⟩,_⟩:=I.loc
 rw[z,ho'] at ho;cases ho;rw[hd'] at hd;cases hd
theorem Inv.funs (I:Inv X pins σ H s):s.heap.FunFrames X.base X.outer:=by
 have all:∀ (l:List Env),(∀b∈frs l,b∈X.fs)->X.s₀.heap.FunFrames X.base l->s.heap.FunFrames X.base l:=by
  intro l
  induction l with
  | nil=>intro _ _;trivial
  | cons env r ih =>
   intro hs hl
   obtain ⟨hk,⟨L,o,hf,hn,ho,hd⟩,hr⟩:=hl
   have hL:L∈X.fs:=hs L (by unfold frs;rw[List.filterMap_cons,hf];exact List.mem_cons_self)
   obtain ⟨sl,e⟩:=I.base.slot L o ho (I.ok.frf L hL) hL fun z=>I.ok.exfs L z hL
   exact ⟨hk,⟨L,_,hf,hn,e,hd⟩,ih (fun b hb=>hs b (by unfold frs;rw[List.filterMap_cons,hf];exact List.mem_cons_of_mem _ hb)) hr⟩
 exact all X.outer (fun _ hb=>hb) I.ok.funs
theorem Inv.stack (I:Inv X pins σ H s):s.heap.FunFrames X.base X.stack:=by
 rcases I.ok.stk with e | ⟨e,hf⟩
 .rw[e];exact I.funs
 .rw[e]
  obtain ⟨m,hn,_⟩:=I.loc
  refine .cons (by rw[I.ok.kind];decide) hf hn ?_ I.funs
  exact Heap.get?_none_of_le (Nat.le_trans I.ok.bsz I.ok.above)
theorem Inv.stkSub (I:Inv X pins σ H s):∀b∈frs X.stack,b∈X.env.locals::X.fs:=fun b hb=>by
 rcases I.ok.stk with e | ⟨e,hf⟩
 .rw[e] at hb;exact List.mem_cons_of_mem _ hb
 .rw[e] at hb
  unfold frs at hb
  rw[List.filterMap_cons,hf] at hb
  exact hb
theorem Inv.stkFree (I:Inv X pins σ H s):∀b∈frs X.stack,H b=none:=fun b hb=>by
 rcases List.mem_cons.mp (I.stkSub b hb) with e | hb
 .rw[e];exact I.free
 .obtain ⟨_,o,ho,_⟩:=I.ok.funs.mem hb
  exact I.base.free b o ho (I.ok.frf b hb) fun z=>I.ok.exfs b z hb
theorem Inv.step {g':Array GenState}{t':Nat}{d':Drawn}{ch:List Addr}(I:Inv X pins σ H s)
  (hch:∀b∈ch,(b∈X.ex\/X.s₀.heap.objs.size<=b)/\b≠X.env.locals/\(∀x c,X.env.cells.lookup x=some c->c≠b)/\∀p∈X.pn++pins,p.1≠b)
  (keep:∀b o,b≠X.env.locals->b∉X.fs->b∉ch->s.heap.get? b=some o->H b=none->h'.get? b=some o)
  (slot:∀b o,b≠X.env.locals->b∈X.fs->b∉ch->s.heap.get? b=some o->H b=none->∃sl,h'.get? b=some { o with slots:=sl }) (free:∀b o,b∉ch->s.heap.get? b=some o->H b=none->H' b=none)
  (there:∀b o,b∉ch->s.heap.get? b=some o->∃o',h'.get? b=some o')
  (tups:∀b xs,H b=some (.tup xs)->H' b=some (.tup xs)) (frzs:∀b o u,H b=some (.frz o u)->H' b=some (.frz o u)) (tbls:∀b ps,H b=some (.tbl ps)->∃more,H' b=some (.tbl (ps++more)))
  (ns:∀m,s.heap.Ns X.env.locals m->h'.Ns X.env.locals m) (hok:HOk X.prog X.w H' h') (hg:AllBare g') :
  Inv X pins σ H' { s with heap:=h',gens:=g',drawn:=d',toks:=t' }:=by
 have neL:∀b o,X.s₀.heap.get? b=some o->b≠X.env.locals:=fun b o e=>Nat.ne_of_lt (Nat.lt_of_lt_of_le (Heap.lt_size e) I.ok.above)
 have neC:∀b o,X.s₀.heap.get? b=some o->b∉X.ex->b∉ch:=fun b o e hx hb=>by
  rcases (hch b hb).1 with z | z
  .exact hx z
  .exact absurd (Nat.lt_of_lt_of_le (Heap.lt_size e) z) (Nat.lt_irrefl _)
 have cellK:∀x c,X.env.cells.lookup x=some c->∀v,s.heap.IsCell c v->h'.IsCell c v:=fun x c e v ⟨o,ho,hd⟩=>by
  have nch:c∉ch:=fun z=>(hch c z).2.2.1 x c e rfl
  by_cases hc:c∈X.fs
  .obtain ⟨sl,q⟩:=slot c o (I.cne x c e) hc nch ho (I.freeC x c e)
   exact ⟨_,q,hd⟩
  .exact ⟨o,keep c o (I.cne x c e) hc nch ho (I.freeC x c e),hd⟩
 refine ⟨I.ok,I.os,hg,⟨fun b o e n hb hx=>?_,fun b o e n hb hx=>?_,fun b o e n hx=>?_,fun b o e hx=>?_,fun b xs e=>tups b xs (I.base.tups b xs e),fun b o xs e=>frzs b o xs (I.base.frzs b o xs e),fun b ps e=>?_⟩,?_,fun x c e=>?_,?_,fun x c e=>?_,fun p hp=>?_,hok,I.len⟩
 .exact keep b o (neL b o e) hb (neC b o e hx) (I.base.keep b o e n hb hx) (I.base.free b o e n hx)
 .obtain ⟨sl,e1⟩:=I.base.slot b o e n hb hx
  obtain ⟨sl',e2⟩:=slot b _ (neL b o e) hb (neC b o e hx) e1 (I.base.free b o e n hx)
  exact ⟨sl',e2⟩
 .obtain ⟨o',e1⟩:=I.base.there b o e hx
  exact free b o' (neC b o e hx) e1 (I.base.free b o e n hx)
 .obtain ⟨o',e1⟩:=I.base.there b o e hx
  exact there b o' (neC b o e hx) e1
 .obtain ⟨m1,e1⟩:=I.base.tbls b ps e
  obtain ⟨m2,e2⟩:=tbls b _ e1
  exact ⟨m1++m2,by rw[e2,Array.append_assoc]⟩
 .obtain ⟨m,hn,hl⟩:=I.loc
  refine ⟨m,ns m hn,fun i x v e1 e2 e3=>?_⟩
  obtain ⟨u,r,l⟩:=hl i x v e1 e2 e3
  refine ⟨u,r,?_⟩
  rcases l with l | ⟨k,c,e,z⟩
  .exact .inl l
  .exact .inr ⟨k,c,e,cellK x c e _ z⟩
 .obtain ⟨v,z⟩:=I.cell x c e
  exact ⟨v,cellK x c e v z⟩
 .obtain ⟨m,⟨o,_,_,ho,_⟩,_⟩:=I.loc
  exact free _ o (fun z=>(hch _ z).2.1 rfl) ho I.free
 .obtain ⟨v,o,ho,hd⟩:=I.cell x c e
  exact free c o (fun z=>(hch c z).2.2.1 x c e rfl) ho (I.freeC x c e)
 .obtain ⟨e,n,ne,nf,d⟩:=I.pin p hp
  have nch:p.1∉ch:=fun z=>(hch p.1 z).2.2.2 p hp rfl
  exact ⟨keep p.1 p.2 ne nf nch e n,free p.1 p.2 nch e n,ne,nf,d⟩
theorem Inv.un {t':Nat}(I:Inv X pins σ H s)(u:Un X.fs [] H H' s.heap h')(hok:HOk X.prog X.w H' h'):Inv X pins σ H' { s with heap:=h',toks:=t' }:=by
 obtain ⟨m,⟨o,es,ep,ho,r⟩,_⟩:=id I.loc
 obtain ⟨sl,hL⟩:=u.any ho I.free (by simp)
 exact I.step (g':=s.gens) (d':=s.drawn) (ch:=[]) (fun _ z=>nomatch z) (fun b o _ hb _ e n=>u.keep b o e n hb (by simp)) (fun b o _ hb _ e n=>u.slot b o e n hb (by simp)) (fun b o _ e n=>u.free b o e n (by simp)) (fun b o _ e=>u.there b o e (by simp)) u.tups u.frzs u.tbls (fun m' hm=>by
  obtain ⟨o',es',ep',ho',r'⟩:=hm
  rw[ho] at ho';cases ho'
  exact ⟨_,es',ep',hL,r'⟩) hok I.bare
theorem Inv.call {g':Array GenState}{t':Nat}{d':Drawn}{ch:List Addr}(I:Inv X pins σ H s)(u:Un (frs X.stack) ch H H' s.heap h')(hok:HOk X.prog X.w H' h')(hg:AllBare g')
  (hch:∀b∈ch,(b∈X.ex\/X.s₀.heap.objs.size<=b)/\b≠X.env.locals/\(∀x c,X.env.cells.lookup x=some c->c≠b)/\∀p∈X.pn++pins,p.1≠b) :
  Inv X pins σ H' { s with heap:=h',gens:=g',drawn:=d',toks:=t' }:=by
 obtain ⟨m,⟨o,es,ep,ho,r⟩,_⟩:=id I.loc
 obtain ⟨sl,hL⟩:=u.any ho I.free fun z=>(hch _ z).2.1 rfl
 exact I.step (ch:=ch) hch (fun b o hL hb hc e n=>u.keep b o e n (fun z=>(List.mem_cons.mp (I.stkSub b z)).elim hL hb) hc) (fun b o _ _ hc e n=>u.any e n hc) (fun b o hc e n=>u.free b o e n hc) (fun b o hc e=>u.there b o e hc) u.tups u.frzs u.tbls (fun m' hm=>by
  obtain ⟨o',es',ep',ho',r'⟩:=hm
  rw[ho] at ho';cases ho'
  exact ⟨_,es',ep',hL,r'⟩) hok hg
theorem Inv.turned {t':Nat}{it:Addr}(I:Inv X pins σ H s)(k:∀b o,b≠it->s.heap.get? b=some o->h'.get? b=some o)(hn:H it=none)(hL:it≠X.env.locals)
  (h1:it∈X.ex\/X.s₀.heap.objs.size<=it) (h2:∀x c,X.env.cells.lookup x=some c->c≠it) (h3:∀p∈X.pn++pins,p.1≠it):Inv X pins σ H { s with heap:=h',toks:=t' }:=by
 have nit:∀b u,H b=some u->b≠it:=fun b u e z=>by rw[z,hn] at e;cases e
 refine I.step (g':=s.gens) (d':=s.drawn) (ch:=[it]) (fun b hb=>?_) (fun b o _ _ hc e _=>k b o (fun z=>hc (by simp[z])) e) (fun b o _ _ hc e _=>⟨o.slots,k b o (fun z=>hc (by simp[z])) e⟩) (fun _ _ _ _ n=>n)
  (fun b o hc e=>⟨o,k b o (fun z=>hc (by simp[z])) e⟩) (fun _ _ e=>e) (fun _ _ _ e=>e) (fun b ps e=>⟨#[],by rw[e];simp⟩) (fun m hm=>?_) (fun b u e=>?_) I.bare
 .have e:b=it:=by simpa using hb
  subst e
  exact ⟨h1,hL,h2,h3⟩
 .obtain ⟨o,es,ep,ho,r⟩:=hm
  exact ⟨o,es,ep,k _ o (Ne.symm hL) ho,r⟩
 .refine (I.hok b u e).stay (fun c v hc q=>k c v ?_ q) (fun _ q=>q) fun _ _ q=>q
  rcases hc with z | z
  .rw[z];exact nit b u e
  .exact nit c _ z
theorem Inv.tok (I:Inv X pins σ H s)(t:Nat):Inv X pins σ H { s with toks:=t }:=I.un (h':=s.heap) (t':=t) Un.refl I.hok
theorem Inv.kept {t':Nat}(I:Inv X pins σ H s)(k:∀b u,s.heap.get? b=some u->h'.get? b=some u):Inv X pins σ H { s with heap:=h',toks:=t' }:=I.un (Un.kept k) (I.hok.kept k)
theorem Inv.laid {a:Addr}{o:HO}{t':Nat}(I:Inv X pins σ H s)(k:∀b u,s.heap.get? b=some u->h'.get? b=some u)(hp:s.heap.objs.size<=a)(new:ObjOk X.prog X.w (upd H a o) h' a o):
  Inv X pins σ (upd H a o) { s with heap:=h',toks:=t' }:=I.un (Un.laid k hp (I.hok.fresh hp)) (I.hok.laid k hp new)
theorem Inv.write {x e:Addr}{o:HO}{t':Nat}(I:Inv X pins σ H s)(mu:Mut (H x))(he:e=x\/H e=some (.own x))(k:∀b u,b≠e->s.heap.get? b=some u->h'.get? b=some u)(heo:∃u,h'.get? e=some u)
  (new:ObjOk X.prog X.w (upd H x o) h' x o):Inv X pins σ (upd H x o) { s with heap:=h',toks:=t' }:=I.un (Un.write mu he k heo) (I.hok.write mu he k heo new)
theorem Inv.pins_of {pins':List (Addr×Obj)}(I:Inv X pins σ H s)(h:∀p∈pins',s.heap.get? p.1=some p.2/\H p.1=none/\p.1≠X.env.locals/\p.1∉X.fs/\∀v,p.2.data≠.cell v):Inv X pins' σ H s :=
 ⟨I.ok,I.os,I.bare,I.base,I.loc,I.cell,I.free,I.freeC,fun p hp=>(List.mem_append.mp hp).elim (fun z=>I.pin p (List.mem_append_left _ z)) (h p),I.hok,I.len⟩
theorem kA {N:List Str}(hN:N.Nodup){i j:Nat}{x:Str}(a:N[i]?=some x)(b:N[j]?=some x):i=j:=by
 obtain ⟨h1,e1⟩:=List.getElem?_eq_some_iff.mp a
 obtain ⟨h2,e2⟩:=List.getElem?_eq_some_iff.mp b
 exact (List.getElem_inj hN).mp (e1.trans e2.symm)
theorem jo {M:Model}{A:Around}{E:Value->Shared->Prop}{i:Nat}{x:Str}{v:V}{u:Value}{Q:Unit->Shared->Prop}(I:Inv X pins σ H s)(hN:X.N.Nodup)(hi:X.N[i]?=some x)(hx:Loc X.env.scope x)(r:RelV v u)
  (h:∀s',Inv X pins (σ.set i (some v)) H s'->(∃a,Heap.SameBut a s.heap s'.heap/\(a=X.env.locals\/X.env.cells.lookup x=some a))->Q () s') (hf:X.fn x=true\/X.env.scope.names.lookup x=some .local:=by first | exact .inl rfl | exact .inr rfl | assumption):wpAny M A (storeName X.env x u) Q E s:=by
 obtain ⟨m,hn,hl⟩:=id I.loc
 have hcls:(X.env.scope.kind == .class || (X.env.scope.kind == .module && X.env.locals != X.env.globals))=false:=by rw[I.ok.kind];rfl
 have hiσ:i < σ.length:=by rw[I.len];exact (List.getElem?_eq_some_iff.mp hi).1
 have cne:=I.cne
 have tracked:∀ {a:Addr}{h':Heap},(∃o,s.heap.get? a=some o/\H a=none)->Heap.SameBut a s.heap h'->HOk X.prog X.w H h':=fun {a h'} ha hs b ob e=>by
  obtain ⟨_,_,hfree⟩:=ha
  refine (I.hok b ob e).stay (fun c w' hc q=>(hs.2 c ?_).trans q) (fun _ q=>q) fun _ _ q=>q
  rintro rfl
  rcases hc with rfl | hc
  .rw[hfree] at e;cases e
  .rw[hfree] at hc;cases hc
 rcases hx with hk | hk
 .refine wpAny_storeName_local hk hn (fun h' hn' hs=>?_) hcls
  obtain ⟨oL,_,_,hoL,_⟩:=id hn
  refine h _ ⟨I.ok,I.os,I.bare,⟨fun b o e n hb hx=>?_,fun b o e n hb hx=>?_,I.base.free,fun b o e hx=>?_,I.base.tups,I.base.frzs,I.base.tbls⟩,⟨_,hn',fun j y v' e1 e2 e3=>?_⟩,fun y c e=>?_,I.free,I.freeC,fun p hp=>?_,tracked ⟨oL,hoL,I.free⟩ hs,by simpa using I.len⟩ ⟨_,hs,.inl rfl⟩
  .exact (hs.2 b (Nat.ne_of_lt (Nat.lt_of_lt_of_le (Heap.lt_size e) I.ok.above))).trans (I.base.keep b o e n hb hx)
  .obtain ⟨sl,e1⟩:=I.base.slot b o e n hb hx
   exact ⟨sl,(hs.2 b (Nat.ne_of_lt (Nat.lt_of_lt_of_le (Heap.lt_size e) I.ok.above))).trans e1⟩
  .obtain ⟨o',e1⟩:=I.base.there b o e hx
   exact ⟨o',(hs.2 b (Nat.ne_of_lt (Nat.lt_of_lt_of_le (Heap.lt_size e) I.ok.above))).trans e1⟩
  .by_cases hj:j=i
   .subst hj
    rw[hi] at e1;cases e1
    rw[List.getElem?_set_self hiσ] at e2
    cases e2
    exact ⟨u,r,.inl ⟨hk,by simp⟩⟩
   .rw[List.getElem?_set_ne (Ne.symm hj)] at e2
    obtain ⟨u',r',q⟩:=hl j y v' e1 e2 e3
    refine ⟨u',r',?_⟩
    rcases q with ⟨k,e⟩ | ⟨k,c,e,z⟩
    .refine .inl ⟨k,?_⟩
     have:y≠x:=fun e=>hj (kA hN e1 (e▸hi))
     simp[this,e]
    .exact .inr ⟨k,c,e,z.sameBut hs (cne y c e)⟩
  .obtain ⟨w',z⟩:=I.cell y c e
   exact ⟨w',z.sameBut hs (cne y c e)⟩
  .obtain ⟨e,n,ne,nf,d⟩:=I.pin p hp
   exact ⟨(hs.2 p.1 ne).trans e,n,ne,nf,d⟩
 .have hfn:X.fn x=true:=by
   rcases hf with z | z
   .exact z
   .rw[z] at hk;cases hk
  obtain ⟨c,hc⟩:=I.ok.has x (.inl hk)
  obtain ⟨w',z⟩:=I.cell x c hc
  refine wpAny_storeName_cell I.ok.kind hk hc z (fun h' hc' hs=>?_)
  obtain ⟨oc,hoc,hocd⟩:=id z
  refine h { s with heap:=h' } ⟨I.ok,I.os,I.bare,⟨fun b o e n hb hx=>?_,fun b o e n hb hx=>?_,I.base.free,fun b o e hx=>?_,I.base.tups,I.base.frzs,I.base.tbls⟩,⟨m,hn.sameBut hs (Ne.symm (cne x c hc)),fun j y v' e1 e2 e3=>?_⟩,fun y c' e=>?_,I.free,I.freeC,fun p hp=>?_,tracked ⟨oc,hoc,I.freeC x c hc⟩ hs,by simpa using I.len⟩ ⟨c,hs,.inr hc⟩
  .exact (hs.2 b (Nat.ne_of_lt (Nat.lt_of_lt_of_le (Heap.lt_size e) (I.ok.cab x c hfn hc)))).trans (I.base.keep b o e n hb hx)
  .obtain ⟨sl,e1⟩:=I.base.slot b o e n hb hx
   exact ⟨sl,(hs.2 b (Nat.ne_of_lt (Nat.lt_of_lt_of_le (Heap.lt_size e) (I.ok.cab x c hfn hc)))).trans e1⟩
  .obtain ⟨o',e1⟩:=I.base.there b o e hx
   exact ⟨o',(hs.2 b (Nat.ne_of_lt (Nat.lt_of_lt_of_le (Heap.lt_size e) (I.ok.cab x c hfn hc)))).trans e1⟩
  .by_cases hj:j=i
   .subst hj
    rw[hi] at e1;cases e1
    rw[List.getElem?_set_self hiσ] at e2
    cases e2
    exact ⟨u,r,.inr ⟨.inl hk,c,hc,hc'⟩⟩
   .rw[List.getElem?_set_ne (Ne.symm hj)] at e2
    obtain ⟨u',r',q⟩:=hl j y v' e1 e2 e3
    refine ⟨u',r',?_⟩
    rcases q with q | ⟨k,c',e,z'⟩
    .exact .inl q
    .refine .inr ⟨k,c',e,z'.sameBut hs ?_⟩
     rintro rfl
     exact hj (kA hN e1 (I.ok.inj _ _ _ e hc▸hi))
  .by_cases hcc:c'=c
   .subst hcc;exact ⟨_,hc'⟩
   .obtain ⟨w2,z2⟩:=I.cell y c' e
    exact ⟨w2,z2.sameBut hs hcc⟩
  .obtain ⟨e,n,ne,nf,d⟩:=I.pin p hp
   refine ⟨(hs.2 p.1 ?_).trans e,n,ne,nf,d⟩
   intro q
   rw[q,hoc] at e
   have q':oc=p.2:=Option.some.inj e
   exact d w' (by rw[<- q'];exact hocd)
theorem kC {M:Model}{A:Around}{E:Value->Shared->Prop}{i:Nat}{x:Str}{v:V}{u:Value}{Q:Unit->Shared->Prop}(I:Inv X pins σ H s)(hN:X.N.Nodup)(hi:X.N[i]?=some x)(hx:Loc X.env.scope x)(r:RelV v u)
  (h:∀s',Inv X pins (σ.set i (some v)) H s'->Q () s') (hf:X.fn x=true\/X.env.scope.names.lookup x=some .local:=by first | exact .inl rfl | exact .inr rfl | assumption):wpAny M A (storeName X.env x u) Q E s :=
 jo I hN hi hx r (fun s' I' _=>h s' I') hf
theorem Inv.call' {s':Shared}{ch:List Addr}(I:Inv X pins σ H s)(ho:s'.os=s.os)(u:Un (frs X.stack) ch H H' s.heap s'.heap)(hok:HOk X.prog X.w H' s'.heap)(hg:AllBare s'.gens)
  (hch:∀b∈ch,(b∈X.ex\/X.s₀.heap.objs.size<=b)/\b≠X.env.locals/\(∀x c,X.env.cells.lookup x=some c->c≠b)/\∀p∈X.pn++pins,p.1≠b):Inv X pins σ H' s':=by
 obtain ⟨h',g',d',t',o'⟩:=s'
 have e:o'=s.os:=ho
 subst e
 exact I.call (g':=g') (t':=t') (d':=d') u hok hg hch
end
abbrev XK:=Value->Option Addr->Hp->Prop
abbrev St:=List (Option V)
abbrev VK:=V->Hp->Prop
abbrev TE:=St->Hp->VK->Prop
abbrev TT:=St->Hp->(Bool->Hp->Prop)->Prop
abbrev TA:=St->Hp->(List V->Hp->Prop)->Prop
set_option genInjectivity false in
structure Ends where
 nx:St->Hp->Prop
 rt:VK
 bk:St->Hp->Prop:=fun _ _=>False
 ct:St->Hp->Prop:=fun _ _=>False
abbrev TS:=Ends->St->Hp->Prop
def EP (X:Cx)(pins:List (Addr×Obj))(σ:St)(Q:VK)(u:Value)(s':Shared):Prop:=∃v H',Inv X pins σ H' s'/\RelV v u/\Q v H'
def TP (X:Cx)(pins:List (Addr×Obj))(σ:St)(Q:Bool->Hp->Prop)(b:Bool)(s':Shared):Prop:=∃H',Inv X pins σ H' s'/\Q b H'
def AP (X:Cx)(pins:List (Addr×Obj))(σ:St)(Q:List V->Hp->Prop)(us:List Value)(s':Shared):Prop:=∃vs H',Inv X pins σ H' s'/\Vals vs us/\Q vs H'
def SP (X:Cx)(pins:List (Addr×Obj))(D:Ends)(f:Flow)(s':Shared):Prop :=
 match f with
 | .next=>∃σ' H',Inv X pins σ' H' s'/\D.nx σ' H'
 | .brk=>∃σ' H',Inv X pins σ' H' s'/\D.bk σ' H'
 | .cont=>∃σ' H',Inv X pins σ' H' s'/\D.ct σ' H'
 | .ret u=>∃v σ' H',Inv X pins σ' H' s'/\RelV v u/\D.rt v H'
def PE (X:Cx)(e:Expr)(t:TE):Prop :=
 ∀ (pins:List (Addr×Obj)) (s:Shared) (σ:St) (H:Hp) (Q:VK),Inv X pins σ H s->t σ H Q->wpAny (model X.prog X.w) X.A (eval e X.env) (EP X pins σ Q) X.xe s
def PT (X:Cx)(e:Expr)(t:TT):Prop :=
 ∀ (pins:List (Addr×Obj)) (s:Shared) (σ:St) (H:Hp) (Q:Bool->Hp->Prop),Inv X pins σ H s->t σ H Q->wpAny (model X.prog X.w) X.A (isTrue e X.env (eval e X.env)) (TP X pins σ Q) X.xe s
def PW (X:Cx)(e:Expr)(t:TT):Prop :=
 ∀ (whole:Sem Value) (pins:List (Addr×Obj)) (s:Shared) (σ:St) (H:Hp) (Q:Bool->Hp->Prop),Inv X pins σ H s->t σ H Q->wpAny (model X.prog X.w) X.A (isTrue e X.env whole) (TP X pins σ Q) X.xe s
theorem PW.pt {X:Cx}{e:Expr}{t:TT}(h:PW X e t):PT X e t:=h _
def PA (X:Cx)(es:List Expr)(t:TA):Prop :=
 ∀ (pos:Pos) (pins:List (Addr×Obj)) (s:Shared) (σ:St) (H:Hp) (Q:List V->Hp->Prop),Inv X pins σ H s->t σ H Q->wpAny (model X.prog X.w) X.A (spliced (backTo pos (starEach es X.env))) (AP X pins σ Q) X.xe s
def PS (X:Cx)(st:Stmt)(t:TS):Prop :=
 ∀ (pins:List (Addr×Obj)) (s:Shared) (σ:St) (H:Hp) (D:Ends),Inv X pins σ H s->t D σ H->wpAny (model X.prog X.w) X.A (exec st X.env) (SP X pins D) X.xe s
def PSs (X:Cx)(st:List Stmt)(t:TS):Prop :=
 ∀ (pins:List (Addr×Obj)) (s:Shared) (σ:St) (H:Hp) (D:Ends),Inv X pins σ H s->t D σ H->wpAny (model X.prog X.w) X.A (execs st X.env) (SP X pins D) X.xe s
theorem thn {α:Type}{t:Sem α}{Q Q':α->Shared->Prop}{M:Model}{A:Around}{E:Value->Shared->Prop}{s:Shared}(h:wpAny M A t Q E s)(hQ:∀a s,Q a s->Q' a s):wpAny M A t Q' E s:=wpAny_mono h hQ fun _ _ x=>x
section
variable {X:Cx}
def zaV (i:Nat):TE:=fun σ H Q=>∃v,σ[i]?=some (some v)/\Q v H
def tC (v:V):TE:=fun _ H Q=>Q v H
theorem wG {i:Nat}{x:Str}{pos:Pos}(hN:X.N[i]?=some x)(hv:Vis X.env.scope x)(hd:(x == ("__debug__" : Str))=false:=by decide)(hcd:(x == ("__classdict__" : Str))=false:=by decide):PE X (.Name x pos) (zaV i):=by
 intro pins s σ H Q I h
 obtain ⟨v,e,h⟩:=h
 obtain ⟨m,hn,hl⟩:=I.loc
 obtain ⟨u,r,l⟩:=hl i x v hN e hv
 have fin:EP X pins σ Q u s:=⟨v,H,I,r,h⟩
 rcases l with ⟨hk,hm⟩ | ⟨hk,c,hc,hcell⟩
 .exact wpAny_Name (wpAny_loadName_local I.ok.kind hk hn hm fin) hd
 .rcases hk with hk | hk
  .exact wpAny_Name (wpAny_loadName_cell I.ok.kind hk hc hcell fin) hd
  .exact wpAny_Name (wpAny_loadName_free I.ok.kind hk hc hcell fin hcd) hd
theorem zbV {i j pos}:PE X (.Constant (.int i) j pos) (tC (.int i)):=fun _ _ _ H _ I h=>wpAny_Constant_int ⟨.int i,H,I.tok _,⟨_,rfl⟩,h⟩
theorem zgv {b j pos}:PE X (.Constant (.bool b) j pos) (tC (.bl b)):=fun _ _ _ H _ I h=>Constant_bool ⟨.bl b,H,I,rfl,h⟩
theorem qk {j pos}:PE X (.Constant .none j pos) (tC .non):=fun _ _ _ H _ I h=>Constant_none ⟨.non,H,I,rfl,h⟩
theorem ql {x j pos}:PE X (.Constant (.str x) j pos) (tC (.str x)):=fun _ _ _ H _ I h=>Calls.Constant_str ⟨.str x,H,I.tok _,⟨_,rfl⟩,h⟩
def Gl (X:Cx)(x:Str):Prop:=X.env.kindOf x=some .globalImplicit
theorem v8 {E:Value->Shared->Prop}{pins:List (Addr×Obj)}{s:Shared}{σ:St}{H:Hp}{x:Str}{u:Value}{pos:Pos}{Q:Value->Shared->Prop}(I:Inv X pins σ H s)(hg:Gl X x)(hm:X.mg x=some u)(h:Q u s)
  (hd:(x == ("__debug__" : Str))=false:=by decide):wpAny (model X.prog X.w) X.A (eval (.Name x pos) X.env) Q E s :=
 Calls.Name_function_global I.ok.kind hg (Calls.loadGlobal_global (by rw[I.ok.glob];exact I.mod.glob.keeps I.bk) hm h) hd
theorem xx {E:Value->Shared->Prop}{pins:List (Addr×Obj)}{s:Shared}{σ:St}{H:Hp}{x:Str}{u:Value}{pos:Pos}{Q:Value->Shared->Prop}(I:Inv X pins σ H s)(hg:Gl X x)(hm:X.mg x=none)(hv:bootBuiltins x=some u)(h:Q u s)
  (hn:x ≠ "__name__" := by decide) (hd:(x == ("__debug__" : Str))=false:=by decide):wpAny (model X.prog X.w) X.A (eval (.Name x pos) X.env) Q E s:=by
 obtain ⟨mb,h1,h2⟩:=I.mod.blt
 exact Calls.Name_function_global I.ok.kind hg (Calls.loadGlobal_builtin (by rw[I.ok.glob];exact I.mod.glob.keeps I.bk) hm (by rw[I.ok.blt];exact h1.keeps I.bk) ((h2 x hn).trans hv) h) hd
theorem jN {x:Str}{v:V}{u:Value}{pos:Pos}(hg:Gl X x)(hm:X.mg x=some u)(r:RelV v u)(hd:(x == ("__debug__" : Str))=false:=by decide):PE X (.Name x pos) (tC v) :=
 fun _ _ _ H _ I h=>v8 I hg hm ⟨v,H,I,r,h⟩ hd
theorem zdN {x:Str}{v:V}{u:Value}{pos:Pos}(hg:Gl X x)(hm:X.mg x=none)(hv:bootBuiltins x=some u)(r:RelV v u)(hn:x ≠ "__name__" := by decide)(hd:(x == ("__debug__" : Str))=false:=by decide):PE X (.Name x pos) (tC v) :=
 fun _ _ _ H _ I h=>xx I hg hm hv ⟨v,H,I,r,h⟩ hn hd
variable {a b:Expr}{ta tb:TE}{pos:Pos}
def tB (t:TE):TT:=fun σ H Q=>t σ H fun x H1=>∃c,x=.bl c/\Q c H1
theorem qm {e:Expr}{t:TE}(h:PE X e t)(he:∀whole,isTrue e X.env whole=(do let v <- whole;standAt e.pos;holding [v] (truthy v)):=by intro _;rfl):PT X e (tB t):=by
 intro pins s σ H Q I hw
 refine isTrue_plain (thn (h pins s σ H _ I hw) fun v s1 ⟨x,H1,I1,r1,q1⟩=>?_) (he _)
 obtain ⟨d,rfl,q⟩:=q1
 cases r1
 exact wpAny_truthy_bool ⟨H1,I1,q⟩
variable {tA tB':TT}{rest:List Expr}
def tAnd (t u:TT):TT:=fun σ H Q=>t σ H fun c H1=>if c=true then u σ H1 Q else Q false H1
def tOr (t u:TT):TT:=fun σ H Q=>t σ H fun c H1=>if c=true then Q true H1 else u σ H1 Q
def tNot (t:TT):TT:=fun σ H Q=>t σ H fun c H1=>Q (!c) H1
theorem zah (ha:PT X a tA):PW X (.BoolOp .And [a] pos) tA:=by
 intro wh pins s σ H Q I h
 refine isTrue_and (thn (ha pins s σ H Q I h) fun c s1 e=>?_)
 cases c with
 | true=>exact isTrue_and_nil e
 | false=>exact e
theorem zfl (ha:PT X a tA):PW X (.BoolOp .Or [a] pos) tA:=by
 intro wh pins s σ H Q I h
 refine isTrue_or (thn (ha pins s σ H Q I h) fun c s1 e=>?_)
 cases c with
 | false=>exact isTrue_or_nil e
 | true=>exact e
theorem zbW (ha:PT X a tA)(hb:PW X (.BoolOp .And (b::rest) pos) tB'):PW X (.BoolOp .And (a::b::rest) pos) (tAnd tA tB'):=by
 intro wh pins s σ H Q I h
 refine isTrue_and (thn (ha pins s σ H _ I h) fun c s1 ⟨H1,I1,q1⟩=>?_)
 cases c with
 | true=>exact hb wh pins s1 σ H1 Q I1 q1
 | false=>exact ⟨H1,I1,q1⟩
theorem zgw (ha:PT X a tA)(hb:PW X (.BoolOp .Or (b::rest) pos) tB'):PW X (.BoolOp .Or (a::b::rest) pos) (tOr tA tB'):=by
 intro wh pins s σ H Q I h
 refine isTrue_or (thn (ha pins s σ H _ I h) fun c s1 ⟨H1,I1,q1⟩=>?_)
 cases c with
 | true=>exact ⟨H1,I1,q1⟩
 | false=>exact hb wh pins s1 σ H1 Q I1 q1
theorem zbX (ha:PT X a tA):PT X (.UnaryOp .Not a pos) (tNot tA):=by
 intro pins s σ H Q I h
 exact isTrue_not (ha pins s σ H (fun c H1=>Q (!c) H1) I h)
def zgx (ta tb:TE):TE:=fun σ H Q=>ta σ H fun x H1=>∃c,x=.bl c/\if c=true then tb σ H1 Q else Q (.bl false) H1
def tOrV (ta tb:TE):TE:=fun σ H Q=>ta σ H fun x H1=>∃c,x=.bl c/\if c=true then Q (.bl true) H1 else tb σ H1 Q
def zgy (ta:TE):TE:=fun σ H Q=>ta σ H fun x H1=>∃c,x=.bl c/\Q (.bl (!c)) H1
theorem zbY {op}{t:TE}(h:PE X a t):PE X (.BoolOp op [a] pos) t:=fun pins s σ H Q I hw=>BoolOp_one (h pins s σ H Q I hw)
theorem zfm (ha:PE X a ta)(hb:PE X (.BoolOp .And (b::rest) pos) tb):PE X (.BoolOp .And (a::b::rest) pos) (zgx ta tb):=by
 intro pins s σ H Q I h
 refine BoolOp_and (thn (ha pins s σ H _ I h) fun v s1 ⟨x,H1,I1,r1,q1⟩=>?_)
 obtain ⟨c,rfl,q1⟩:=q1
 cases r1
 refine wpAny_truthy_bool ?_
 cases c with
 | true=>exact hb pins s1 σ H1 Q I1 q1
 | false=>exact ⟨.bl false,H1,I1,rfl,q1⟩
theorem zgz (ha:PE X a ta)(hb:PE X (.BoolOp .Or (b::rest) pos) tb):PE X (.BoolOp .Or (a::b::rest) pos) (tOrV ta tb):=by
 intro pins s σ H Q I h
 refine BoolOp_or (thn (ha pins s σ H _ I h) fun v s1 ⟨x,H1,I1,r1,q1⟩=>?_)
 obtain ⟨c,rfl,q1⟩:=q1
 cases r1
 refine wpAny_truthy_bool ?_
 cases c with
 | false=>exact hb pins s1 σ H1 Q I1 q1
 | true=>exact ⟨.bl true,H1,I1,rfl,q1⟩
theorem zfn (ha:PE X a ta):PE X (.UnaryOp .Not a pos) (zgy ta):=by
 intro pins s σ H Q I h
 refine UnaryOp_ (thn (ha pins s σ H _ I h) fun v s1 ⟨x,H1,I1,r1,q1⟩=>?_)
 obtain ⟨c,rfl,q1⟩:=q1
 cases r1
 exact not_of (wpAny_truthy_bool ⟨.bl (!c),H1,I1,rfl,q1⟩)
def tIf (t:TT)(ta tb:TE):TE:=fun σ H Q=>t σ H fun c H1=>if c=true then ta σ H1 Q else tb σ H1 Q
theorem zbZ {c:Expr}(hc:PT X c tA)(ha:PE X a ta)(hb:PE X b tb):PE X (.IfExp c a b pos) (tIf tA ta tb):=by
 intro pins s σ H Q I h
 refine wpAny_IfExp (thn (hc pins s σ H _ I h) fun d s1 ⟨H1,I1,q1⟩=>?_)
 cases d with
 | true=>exact ha pins s1 σ H1 Q I1 q1
 | false=>exact hb pins s1 σ H1 Q I1 q1
end
def SqL (K:PySem.W.Frag)(H:Hp)(a:Addr)(xs:List V):Prop :=
 Rd H a (.lst xs) \/
  ∃ (o:Obj) (its:Array Value) (n:Nat),K.lookup a=some o/\o.cls=.type "list" /\ o.dict=none/\o.data=.seq its n/\its.size<=sizeLine/\Vals xs its.toList
def SqT (K:PySem.W.Frag)(H:Hp)(a:Addr)(xs:List V):Prop :=
 Rd H a (.tup xs) \/
  ∃ (o:Obj) (its:Array Value) (n:Nat),K.lookup a=some o/\o.cls=.type "tuple" /\ o.data=.seq its n/\its.size<=sizeLine/\Vals xs its.toList
noncomputable def absV:Value->Option V
 | .none=>some .non
 | .bool b=>some (.bl b)
 | .int i _=>some (.int i)
 | .str x _=>some (.str x)
 | .bytes b _=>some (.byt b)
 | .float b _=>some (.flt b)
 | .ref a=>some (.ref a)
 | .type n=>some (.ty n)
 | _=>none
theorem RelV.abs {x:V}{u:Value}(r:RelV x u):absV u=some x:=by
 cases x with
 | non=>cases r;rfl
 | bl _=>cases r;rfl
 | int _=>obtain ⟨t,rfl⟩:=r;rfl
 | str _=>obtain ⟨t,rfl⟩:=r;rfl
 | byt _=>obtain ⟨t,rfl⟩:=r;rfl
 | flt _=>obtain ⟨t,rfl⟩:=r;rfl
 | ref _=>cases r;rfl
 | ty _=>cases r;rfl
theorem RelV.inj {x y:V}{u:Value}(r:RelV x u)(q:RelV y u):x=y:=Option.some.inj (r.abs.symm.trans q.abs)
theorem Vals.inj:∀ {xs ys:List V}{us:List Value},Vals xs us->Vals ys us->xs=ys
 | _,_,_,.nil,.nil=>rfl
 | _,_,_,.cons r t,.cons r' t'=>by rw[r.inj r',Vals.inj t t']
section
variable {X:Cx}{pins:List (Addr×Obj)}{σ:St}{H:Hp}{s:Shared}{a:Addr}{xs ys:List V}
theorem SqL.of {K:PySem.W.Frag}(h:H a=some (.lst xs)):SqL K H a xs:=.inl (.inl h)
theorem SqT.of {K:PySem.W.Frag}(h:H a=some (.tup xs)):SqT K H a xs:=.inl (.inl h)
theorem Inv.list (I:Inv X pins σ H s)(h:SqL X.K H a xs):∃its:List Value,Vals xs its/\PlainL s.heap a its.toArray/\xs.length<=sizeLine:=by
 rcases h with h | ⟨o,its,n,hk,hc,hd,hs,hz,r⟩
 .obtain ⟨z,its,n,r,e⟩:=h.ok I.hok
  exact ⟨its,r,⟨_,n,e,rfl,rfl,rfl⟩,z⟩
 .refine ⟨its.toList,r,⟨o,n,I.kIn a o hk,hc,hd,by simpa using hs⟩,?_⟩
  have e:=r.length
  simp only[Array.length_toList] at e
  lia
theorem Inv.tuple (I:Inv X pins σ H s)(h:SqT X.K H a xs):∃its:List Value,Vals xs its/\IsTup s.heap a its.toArray/\xs.length<=sizeLine:=by
 rcases h with h | ⟨o,its,n,hk,hc,hs,hz,r⟩
 .obtain ⟨z,its,r,p⟩:=h.ok I.hok
  exact ⟨its,r,p,z⟩
 .refine ⟨its.toList,r,⟨o,I.kIn a o hk,hc,n,by simpa using hs⟩,?_⟩
  have e:=r.length
  simp only[Array.length_toList] at e
  lia
theorem Inv.list_inj (I:Inv X pins σ H s)(h:SqL X.K H a xs)(h':SqL X.K H a ys):xs=ys:=by
 obtain ⟨its,r,⟨o,n,e,_,_,d⟩,_⟩:=I.list h
 obtain ⟨its',r',⟨o',n',e',_,_,d'⟩,_⟩:=I.list h'
 rw[e] at e';cases e'
 rw[d] at d'
 injection d' with d1 _
 have:its=its':=by simpa using congrArg Array.toList d1
 subst this
 exact r.inj r'
theorem Inv.tuple_inj (I:Inv X pins σ H s)(h:SqT X.K H a xs)(h':SqT X.K H a ys):xs=ys:=by
 obtain ⟨its,r,⟨o,e,_,n,d⟩,_⟩:=I.tuple h
 obtain ⟨its',r',⟨o',e',_,n',d'⟩,_⟩:=I.tuple h'
 rw[e] at e';cases e'
 rw[d] at d'
 injection d' with d1 _
 have:its=its':=by simpa using congrArg Array.toList d1
 subst this
 exact r.inj r'
end
noncomputable abbrev Cx.wish (X:Cx)(E:Value->Shared->Prop):Cx:={ X with xe:=E }
noncomputable abbrev Cx.nox (X:Cx):Cx:=X.wish fun _ _=>False
theorem Cx.Ok.wish {X:Cx}(ok:X.Ok)(E:Value->Shared->Prop):(X.wish E).Ok :=
 ⟨ok.mod,ok.kind,ok.glob,ok.blt,ok.above,ok.inj,ok.has,ok.cab,ok.hd,ok.frames,ok.stk,ok.exf,ok.bs,ok.bsz,ok.noex,ok.exfs,ok.funs,ok.frf⟩
theorem Cx.Ok.unwish {X:Cx}{E:Value->Shared->Prop}(ok:(X.wish E).Ok):X.Ok :=
 ⟨ok.mod,ok.kind,ok.glob,ok.blt,ok.above,ok.inj,ok.has,ok.cab,ok.hd,ok.frames,ok.stk,ok.exf,ok.bs,ok.bsz,ok.noex,ok.exfs,ok.funs,ok.frf⟩
section
variable {X:Cx}{pins:List (Addr×Obj)}{σ:St}{H:Hp}{s:Shared}{E:Value->Shared->Prop}
theorem Inv.wish (I:Inv X pins σ H s)(E:Value->Shared->Prop):Inv (X.wish E) pins σ H s:=⟨I.ok.wish E,I.os,I.bare,I.base,I.loc,I.cell,I.free,I.freeC,I.pin,I.hok,I.len⟩
theorem Inv.unwish (I:Inv (X.wish E) pins σ H s):Inv X pins σ H s:=⟨I.ok.unwish,I.os,I.bare,I.base,I.loc,I.cell,I.free,I.freeC,I.pin,I.hok,I.len⟩
theorem SP.unwish {D:Ends}{f:Flow}{s':Shared}(h:SP (X.wish E) pins D f s'):SP X pins D f s':=by
 cases f with
 | next=>obtain ⟨σ',H',I,q⟩:=h;exact ⟨σ',H',I.unwish,q⟩
 | brk=>obtain ⟨σ',H',I,q⟩:=h;exact ⟨σ',H',I.unwish,q⟩
 | cont=>obtain ⟨σ',H',I,q⟩:=h;exact ⟨σ',H',I.unwish,q⟩
 | ret u=>obtain ⟨v,σ',H',I,r,q⟩:=h;exact ⟨v,σ',H',I.unwish,r,q⟩
theorem PSs.nox {st:List Stmt}{t:TS}(h:PSs X.nox st t):PSs X st t:=fun pins s σ H D I hw =>
 wpAny_mono (h pins s σ H D (I.wish _) hw) (fun _ _ q=>q.unwish) fun _ _ z=>False.elim z
end
section
variable {X:Cx}{st:Stmt}{rest:List Stmt}{t u:TS}{e:Expr}{te:TE}{pos:Pos}
def zgA:TS:=fun D σ H=>D.nx σ H
def tSeq (t u:TS):TS:=fun D σ H=>t { D with nx:=u D } σ H
theorem v9:PSs X [] zgA:=fun _ _ σ H _ I h=>wpAny_execs_nil ⟨σ,H,I,h⟩
theorem xH (h1:PS X st t)(h2:PSs X rest u):PSs X (st::rest) (tSeq t u):=by
 intro pins s σ H D I h
 refine wpAny_execs_cons (thn (h1 pins s σ H { D with nx:=u D } I h) fun f s1 q=>?_)
 cases f with
 | next =>
  obtain ⟨σ',H',I',q⟩:=q
  exact h2 pins s1 σ' H' D I' q
 | ret v=>exact q
 | brk=>exact q
 | cont=>exact q
theorem xP (h1:PS X st t):PSs X [st] t:=by
 intro pins s σ H D I h
 refine wpAny_execs_cons (thn (h1 pins s σ H D I h) fun f s1 q=>?_)
 cases f with
 | next=>exact wpAny_execs_nil q
 | ret v=>exact q
 | brk=>exact q
 | cont=>exact q
theorem Inv.quiet {pins:List (Addr×Obj)}{σ:St}{H:Hp}{s:Shared}(I:Inv X pins σ H s):interactive X.env=false:=by simp[interactive,I.ok.kind]
def zgB (te:TE):TS:=fun D σ H=>te σ H fun _ H1=>D.nx σ H1
theorem zdO (he:PE X e te)(hs:swapsWith e none pos.line X.env=pure false:=by rfl):PS X (.Expr e pos) (zgB te):=by
 intro pins s σ H D I h
 exact wpAny_Expr_any (thn (he pins s σ H _ I h) fun v s1 ⟨x,H1,I1,r1,q1⟩=>⟨σ,H1,I1,q1⟩) I.quiet hs
def zgC (te:TE):TS:=fun D σ H=>te σ H D.rt
theorem zb0 (he:PE X e te):PS X (.Return (some e) pos) (zgC te):=by
 intro pins s σ H D I h
 exact wpAny_Return_some (thn (he pins s σ H _ I h) fun v s1 ⟨x,H1,I1,r1,q1⟩=>⟨x,σ,H1,I1,r1,q1⟩)
def tIfS (c:TT)(t u:TS):TS:=fun D σ H=>c σ H fun b H1=>if b=true then t D σ H1 else u D σ H1
theorem zai {c:Expr}{a b:List Stmt}{tc:TT}(hc:PT X c tc)(ha:PSs X a t)(hb:PSs X b u):PS X (.If c a b pos) (tIfS tc t u):=by
 intro pins s σ H D I h
 refine wpAny_If (thn (hc pins s σ H _ I h) fun d s1 ⟨H1,I1,q1⟩=>?_)
 cases d with
 | true=>exact ha pins s1 σ H1 D I1 q1
 | false=>exact hb pins s1 σ H1 D I1 q1
def zfo:TS:=fun _ _ _=>False
theorem zb1:PS X st zfo:=fun _ _ _ _ _ _ h=>h.elim
end
abbrev TG:=V->St->Hp->(St->Hp->Prop)->Prop
abbrev TGs:=List V->St->Hp->(St->Hp->Prop)->Prop
def PG (X:Cx)(target:Expr)(t:TG):Prop :=
 ∀ (pins:List (Addr×Obj)) (s:Shared) (σ:St) (H:Hp) (v:V) (u:Value) (Q:St->Hp->Prop),Inv X pins σ H s->RelV v u->t v σ H Q ->
  wpAny (model X.prog X.w) X.A (assign target X.env u) (fun _ s'=>∃σ' H',Inv X pins σ' H' s'/\Q σ' H') X.xe s
def PGs (X:Cx)(ts:List Expr)(t:TGs):Prop :=
 ∀ (pins:List (Addr×Obj)) (s:Shared) (σ:St) (H:Hp) (vs:List V) (us:List Value) (Q:St->Hp->Prop),Inv X pins σ H s->Vals vs us->t vs σ H Q ->
  wpAny (model X.prog X.w) X.A (assignInOrder ((assignEach ts X.env).map (·.2)) us) (fun _ s'=>∃σ' H',Inv X pins σ' H' s'/\Q σ' H') X.xe s
abbrev zfp:=V->V->V->Hp->(Hp->Prop)->Prop
def zgD (X:Cx)(t:zfp):Prop :=
 ∀ (pins:List (Addr×Obj)) (s:Shared) (σ:St) (H:Hp) (o i v:V) (ov iv u:Value) (Q:Hp->Prop),Inv X pins σ H s->RelV o ov->RelV i iv->RelV v u->t o i v H Q ->
  wpAny (model X.prog X.w) X.A (setItem ov iv u) (fun _ s'=>∃H',Inv X pins σ H' s'/\Q H') X.xe s
section
variable {X:Cx}{pos:Pos}
def vV (i:Nat):TG:=fun v σ H Q=>Q (σ.set i (some v)) H
theorem ke {i:Nat}{x:Str}(hN:X.N.Nodup)(hi:X.N[i]?=some x)(hx:Loc X.env.scope x)(hf:X.fn x=true\/X.env.scope.names.lookup x=some .local:=by first | exact .inl rfl | exact .inr rfl | assumption):PG X (.Name x pos) (vV i):=by
 intro pins s σ H v u Q I r h
 exact wpAny_assign_Name (kC I hN hi hx r (fun s' I'=>⟨_,H,I',h⟩) hf)
def zfq:TGs:=fun vs σ H Q=>vs=[]/\Q σ H
def gx (t:TG)(u:TGs):TGs:=fun vs σ H Q=>∃v r,vs=v::r/\t v σ H fun σ' H'=>u r σ' H' Q
theorem zaj:PGs X [] zfq:=by
 intro pins s σ H vs us Q I r h
 obtain ⟨e,h⟩:=h
 subst e
 cases r
 exact assignInOrder_nil ⟨σ,H,I,h⟩
theorem wP {e:Expr}{es:List Expr}{t:TG}{u:TGs}(h1:PG X e t)(h2:PGs X es u)
  (hs:(assignEach (e::es) X.env).map (·.2)=assign e X.env::(assignEach es X.env).map (·.2):=by rfl):PGs X (e::es) (gx t u):=by
 intro pins s σ H vs us Q I r h
 obtain ⟨v,vr,e1,h⟩:=h
 subst e1
 cases r with
 | cons r rr =>
  rw[hs]
  refine assignInOrder_cons (thn (h1 pins s σ H _ _ _ I r h) fun _ s1 ⟨σ1,H1,I1,q1⟩=>?_)
  exact h2 pins s1 σ1 H1 _ _ Q I1 rr q1
def zfr (K:PySem.W.Frag)(n:Nat)(t:TGs):TG:=fun v σ H Q=>∃a xs,v=.ref a/\SqT K H a xs/\xs.length=n/\t xs σ H Q
theorem zb2 {es:List Expr}{k:Nat}{t:TGs}{n:Nat}(hc:X.calm=true)(h:PGs X es t)
  (hn:(assignEach es X.env).length=n:=by rfl) (hst:(assignEach es X.env).findIdx? (·.1)=none:=by rfl):PG X (.Tuple es k pos) (zfr X.K n t):=by
 intro pins s σ H v u Q I r hw
 obtain ⟨a,xs,e1,hq,hl,hw⟩:=hw
 subst e1
 cases r
 obtain ⟨its,rv,ht,hz⟩:=I.tuple hq
 refine assign_Tuple_tuple (I.ok.hd hc) ht (by simp[hn,<- hl,rv.length]) hst fun h' hx=>?_
 have I1:Inv X pins σ H { s with heap:=h' }:=I.kept (t':=s.toks) fun b o e=>hx b o (Nat.ne_of_lt (Heap.lt_size e)) e
 exact h pins _ σ H xs _ Q I1 (by simpa using rv) hw
def zfs (to ti:TE)(t:zfp):TG:=fun v σ H Q=>to σ H fun o H1=>ti σ H1 fun i H2=>t o i v H2 fun H3=>Q σ H3
theorem qo {o i:Expr}{to ti:TE}{t:zfp}(ho:PE X o to)(hi:PE X i ti)(hs:zgD X t)
  (ha:∀v,assign (.Subscript o i pos) X.env v=(do
   let ov <- holding [v] (eval o X.env)
   let iv <- holding [v,ov] (eval i X.env)
   standAt pos
   holding [v,ov,iv] (setItem ov iv v)
   release [v,ov,iv] []):=by intro _;rfl):PG X (.Subscript o i pos) (zfs to ti t):=by
 intro pins s σ H v u Q I r h
 rw[ha]
 refine wpAny_bind (wpAny_holding (thn (ho pins s σ H _ I h) fun ov s1 ⟨x,H1,I1,r1,q1⟩=>?_))
 refine wpAny_bind (wpAny_holding (thn (hi pins s1 σ H1 _ I1 q1) fun iv s2 ⟨y,H2,I2,r2,q2⟩=>?_))
 refine wpAny_bind (wpAny_standAt (wpAny_bind (wpAny_holding (thn (hs pins s2 σ H2 x y v ov iv u _ I2 r1 r2 r q2) fun _ s3 ⟨H3,I3,q3⟩=>?_))))
 exact wpAny_release ⟨σ,H3,I3,q3⟩
def zdP (te:TE)(g:TG):TS:=fun D σ H=>te σ H fun x H1=>g x σ H1 D.nx
theorem zb3 {tg e:Expr}{te:TE}{g:TG}(he:PE X e te)(hg:PG X tg g)(hs:swapsWithSole [tg] e pos.line X.env=pure false:=by rfl)(hw:swappedStores [tg] e X.env=pure none:=by rfl)
  (h1:(assignEach [tg] X.env).map (·.2)=[assign tg X.env]:=by rfl):PS X (.Assign [tg] e pos) (zdP te g):=by
 intro pins s σ H D I h
 refine wpAny_Assign_stores (thn (he pins s σ H _ I h) fun v s1 ⟨x,H1,I1,r1,q1⟩=>?_) hs hw
 rw[h1]
 exact thn (hg pins s1 σ H1 x v _ I1 r1 q1) fun _ s2 q=>q
theorem jO {i:Nat}{x:Str}{e:Expr}{te:TE}{pos':Pos}(hN:X.N.Nodup)(hi:X.N[i]?=some x)(hx:Loc X.env.scope x)(he:PE X e te)(hs:swapsWith e (some (.Name x pos')) pos.line X.env=pure false:=by rfl)(hf:X.fn x=true\/X.env.scope.names.lookup x=some .local:=by first | exact .inl rfl | exact .inr rfl | assumption):
  PS X (.Assign [.Name x pos'] e pos) (zdP te (vV i)):=by
 intro pins s σ H D I h
 refine wpAny_Assign_Name (thn (he pins s σ H _ I h) fun v s1 ⟨y,H1,I1,r1,q1⟩=>?_) hs
 exact kC I1 hN hi hx r1 (fun s2 I2=>⟨_,H1,I2,q1⟩) hf
end
set_option genInjectivity false in
structure It where
 go:Nat->Hp->Prop
 yld:Nat->Hp->V->Hp->Prop
 stop:Nat->Hp->Prop
def vZ (X:Cx)(pins:List (Addr×Obj))(H:Hp)(b:Addr):Prop :=
 H b=none/\b≠X.env.locals/\b∉X.fs/\(b∈X.ex\/X.s₀.heap.objs.size<=b)/\(∀x c,X.env.cells.lookup x=some c->c≠b)/\∀p∈X.pn++pins,p.1≠b
theorem Inv.fpOk {X:Cx}{pins:List (Addr×Obj)}{σ:St}{H H':Hp}{s:Shared}{b:Addr}(I:Inv X pins σ H s)(hb:s.heap.objs.size<=b)(hn:H' b=none):vZ X pins H' b:=by
 refine ⟨hn,Nat.ne_of_gt (Nat.lt_of_lt_of_le I.lt hb),I.nofs hb,.inr (Nat.le_trans I.sz hb),fun x c e z=>?_,fun p hp z=>?_⟩
 .obtain ⟨v,q⟩:=I.cell x c e
  exact absurd (Nat.lt_of_lt_of_le q.lt (by rw[z];exact hb)) (Nat.lt_irrefl _)
 .exact absurd (Nat.lt_of_lt_of_le (Heap.lt_size (I.pin p hp).1) (by rw[z];exact hb)) (Nat.lt_irrefl _)
structure Turn (P:Program)(w:World)(K:PySem.W.Frag)(tg:Expr)(J:It)(fp:List Addr)(it:Addr)(tn:Nat->Heap->Prop):Prop where
 mem:it∈fp
 obj:∀i h,tn i h->∀b∈fp,∃o,h.get? b=some o/\∀v,o.data≠.cell v
 keep:∀i h h',tn i h->(∀b∈fp,∀o,h.get? b=some o->h'.get? b=some o)->tn i h'
 item:∀ (X:Cx),X.prog=P->X.w=w->X.K=K->X.calm=true->∀ (i:Nat) (pins:List (Addr×Obj)) (s:Shared) (σ:St) (H:Hp) (E:Value->Shared->Prop),Inv X pins σ H s->(∀b∈fp,vZ X pins H b)->tn i s.heap->J.go i H ->
  wpAny (model P w) X.A (pyNext (.ref it)) (fun r s1=>∃u,r=some u /\
   wpAny (model P w) X.A (letOwnedTupleGo tg (.ref it) u) (fun _ s2=>∃x H',Inv X pins σ H' s2/\RelV x u/\J.yld i H x H'/\tn (i+1) s2.heap/\∀b∈fp,H' b=none) E s1) E s
 done:∀ (X:Cx),X.prog=P->X.w=w->X.K=K->X.calm=true->∀ (i:Nat) (pins:List (Addr×Obj)) (s:Shared) (σ:St) (H:Hp) (E:Value->Shared->Prop),Inv X pins σ H s->(∀b∈fp,vZ X pins H b)->tn i s.heap->J.stop i H ->
  wpAny (model P w) X.A (pyNext (.ref it)) (fun r s1=>r=none/\Inv X pins σ H s1) E s
 self:∀ (A:Around) (i:Nat) (s:Shared) (Q:Value->Shared->Prop) (E:Value->Shared->Prop),tn i s.heap->Q (.ref it) s->wpAny (model P w) A (pyIter (.ref it)) Q E s
abbrev TI:=St->Hp->(It->Hp->Prop)->Prop
def PIE (X:Cx)(pins:List (Addr×Obj))(σ:St)(tg:Expr)(R:It->Hp->Prop)(itv:Value)(s2:Shared):Prop :=
 ∃ (it:Addr) (fp:List Addr) (tn:Nat->Heap->Prop) (J:It) (H':Hp),itv=.ref it/\Inv X pins σ H' s2/\Turn X.prog X.w X.K tg J fp it tn/\tn 0 s2.heap/\(∀b∈fp,vZ X pins H' b)/\R J H'
def PI (X:Cx)(tg iter:Expr)(wi:TI):Prop :=
 ∀ (pins:List (Addr×Obj)) (s:Shared) (σ:St) (H:Hp) (R:It->Hp->Prop),Inv X pins σ H s->wi σ H R ->
  wpAny (model X.prog X.w) X.A (eval iter X.env) (fun v s1=>wpAny (model X.prog X.w) X.A (pyIter v) (PIE X pins σ tg R) X.xe s1) X.xe s
theorem zak {M:Model}{A:Around}{E:Value->Shared->Prop}{s:Shared}{tg:Expr}{it:Addr}{u:Value}{o:Obj}{n:String}{vs:Array Value}{Q:Unit->Shared->Prop}(ho:s.heap.get? it=some o)(hc:o.cls=.type n)(hd:o.data=.fields vs)
  (hn:["enumerate", "zip", "dict_itemiterator", "dict_reverseitemiterator", "odict_iterator", "itertools.zip_longest", "itertools.pairwise"].contains n=false) (hQ:Q () s):wpAny M A (letOwnedTupleGo tg (.ref it) u) Q E s:=by
 unfold letOwnedTupleGo
 cases tg <;> first
  | exact wpAny_pure hQ
  | (cases u <;> first
    | exact wpAny_pure hQ
    | (refine wpAny_bind (wpAny_load ho ?_)
       rw[hc,hd]
       show wpAny M A (if (["enumerate", "zip", "dict_itemiterator", "dict_reverseitemiterator", "odict_iterator", "itertools.zip_longest", "itertools.pairwise"].contains n && vs[0]? == some (rawInt _))=true then _ else _) Q E s
       rw[if_neg (by intro h;rw[hn,Bool.false_and] at h;cases h)]
       exact wpAny_pure hQ))
noncomputable def Itl (K:PySem.W.Frag)(a:Addr):It :=
 ⟨fun i H=>∃xs x,SqL K H a xs/\xs[i]?=some x,fun i H x H'=>H'=H/\∀xs,SqL K H a xs->xs[i]?=some x,fun i H=>∃xs,SqL K H a xs/\xs.length<=i⟩
noncomputable def Itt (K:PySem.W.Frag)(a:Addr):It :=
 ⟨fun i H=>∃xs x,SqT K H a xs/\xs[i]?=some x,fun i H x H'=>H'=H/\∀xs,SqT K H a xs->xs[i]?=some x,fun i H=>∃xs,SqT K H a xs/\xs.length<=i⟩
noncomputable def Itr (lo:Int)(n:Nat):It:=⟨fun i _=>i < n,fun i H x H'=>H'=H/\x=.int (lo+i),fun i _=>n<=i⟩
theorem zaW {P:Program}{w:World}{K:PySem.W.Frag}{tg:Expr}(a it:Addr):Turn P w K tg (Itl K a) [it] it (fun i h=>h.IsListIter it a i) where
 mem:=by simp
 obj:=fun i h st b hb=>by
  have e:b=it:=by simpa using hb
  subst e
  obtain ⟨o,e,c,d⟩:=st
  exact ⟨o,e,fun v z=>by rw[d] at z;cases z⟩
 keep:=fun i h h' st k=>st.at fun o e=>k it (by simp) o e
 item:=by
  intro X hP hw hK hc i pins s σ H E I hf st hg
  subst hP hw hK
  obtain ⟨xs,x,hq,hx⟩:=hg
  obtain ⟨its,rv,p,hz⟩:=I.list hq
  obtain ⟨u,hu,ru⟩:=rv.get hx
  obtain ⟨f0,f1,f2,f3,f4,f5⟩:=hf it (by simp)
  refine wpAny_pyNext_list_item st p.isList (x:=u) (by simpa using hu) fun h' st' sb=>?_
  have I1:Inv X pins σ H { s with heap:=h' }:=I.turned (t':=s.toks) (fun b o hb e=>(sb.2 b hb).trans e) f0 f1 f3 f4 f5
  obtain ⟨o,e,c,d⟩:=id st'
  exact ⟨u,rfl,zak (s:={ s with heap:=h' }) e c d (by decide) ⟨x,H,I1,ru,⟨rfl,fun ys hy=>by rw[I.list_inj hy hq];exact hx⟩,st',fun b hb=>(hf b hb).1⟩⟩
 done:=by
  intro X hP hw hK hc i pins s σ H E I hf st hg
  subst hP hw hK
  obtain ⟨xs,hq,hx⟩:=hg
  obtain ⟨its,rv,p,hz⟩:=I.list hq
  obtain ⟨f0,f1,f2,f3,f4,f5⟩:=hf it (by simp)
  have hl:=rv.length
  exact wpAny_pyNext_list_end (I.ok.hd hc) st p.isList (by simp;lia) fun h' eb=>⟨rfl,I.turned (t':=s.toks) (fun b o hb e=>eb b o hb e) f0 f1 f3 f4 f5⟩
 self:=fun _ _ _ _ _ st h=>wpAny_pyIter_listiter st h
theorem qp {P:Program}{w:World}{K:PySem.W.Frag}{tg:Expr}(a it:Addr):Turn P w K tg (Itt K a) [it] it (fun i h=>h.IsTupleIter it a i) where
 mem:=by simp
 obj:=fun i h st b hb=>by
  have e:b=it:=by simpa using hb
  subst e
  obtain ⟨o,e,c,d⟩:=st
  exact ⟨o,e,fun v z=>by rw[d] at z;cases z⟩
 keep:=fun i h h' st k=>st.at fun o e=>k it (by simp) o e
 item:=by
  intro X hP hw hK hc i pins s σ H E I hf st hg
  subst hP hw hK
  obtain ⟨xs,x,hq,hx⟩:=hg
  obtain ⟨its,rv,p,hz⟩:=I.tuple hq
  obtain ⟨u,hu,ru⟩:=rv.get hx
  obtain ⟨f0,f1,f2,f3,f4,f5⟩:=hf it (by simp)
  refine wpAny_pyNext_tuple_item st (show s.heap.IsTuple a its.toArray from p) (x:=u) (by simpa using hu) fun h' st' sb=>?_
  have I1:Inv X pins σ H { s with heap:=h' }:=I.turned (t':=s.toks) (fun b o hb e=>(sb.2 b hb).trans e) f0 f1 f3 f4 f5
  obtain ⟨o,e,c,d⟩:=id st'
  exact ⟨u,rfl,zak (s:={ s with heap:=h' }) e c d (by decide) ⟨x,H,I1,ru,⟨rfl,fun ys hy=>by rw[I.tuple_inj hy hq];exact hx⟩,st',fun b hb=>(hf b hb).1⟩⟩
 done:=by
  intro X hP hw hK hc i pins s σ H E I hf st hg
  subst hP hw hK
  obtain ⟨xs,hq,hx⟩:=hg
  obtain ⟨its,rv,p,hz⟩:=I.tuple hq
  obtain ⟨f0,f1,f2,f3,f4,f5⟩:=hf it (by simp)
  have hl:=rv.length
  exact wpAny_pyNext_tuple_end (I.ok.hd hc) st (show s.heap.IsTuple a its.toArray from p) (by simp;lia) fun h' eb=>⟨rfl,I.turned (t':=s.toks) (fun b o hb e=>eb b o hb e) f0 f1 f3 f4 f5⟩
 self:=fun _ _ _ _ _ st h=>wpAny_pyIter_tupleiter st h
theorem qr {P:Program}{w:World}{K:PySem.W.Frag}{tg:Expr}(it:Addr)(lo:Int)(n:Nat):Turn P w K tg (Itr lo n) [it] it (fun i h=>IsRangeIter h it (lo+(i:Nat) * 1) ((n:Int) - (i:Nat)) 1) where
 mem:=by simp
 obj:=fun i h st b hb=>by
  have e:b=it:=by simpa using hb
  subst e
  exact ⟨_,st,fun v z=>by
   have z':Data.fields _=Data.cell v:=z
   cases z'⟩
 keep:=fun i h h' st k=>k it (by simp) _ st
 item:=by
  intro X hP hw hK hc i pins s σ H E I hf st hg
  subst hP hw hK
  obtain ⟨f0,f1,f2,f3,f4,f5⟩:=hf it (by simp)
  have W:=Walks.range (prog:=X.prog) (w:=X.w) (I.ok.hd hc) it lo 1 n
  refine W.item i s _ _ hg st fun v h' tk hv st' kk=>?_
  obtain ⟨t,rfl⟩:=hv
  have I1:Inv X pins σ H { s with heap:=h',toks:=tk }:=I.turned (fun b o hb e=>kk b o (by simpa using hb) e) f0 f1 f3 f4 f5
  refine ⟨_,rfl,zak (s:={ s with heap:=h',toks:=tk }) (n := "range_iterator") st' rfl rfl (by decide) ⟨.int (lo+i),H,I1,⟨t,?_⟩,⟨rfl,rfl⟩,st',fun b hb=>(hf b hb).1⟩⟩
  rw[Int.mul_one]
 done:=by
  intro X hP hw hK hc i pins s σ H E I hf st hg
  subst hP hw hK
  obtain ⟨f0,f1,f2,f3,f4,f5⟩:=hf it (by simp)
  exact wpAny_pyNext_range_end (I.ok.hd hc) st (by have:n<=i:=hg;lia) fun h' eb=>⟨rfl,I.turned (t':=s.toks) (fun b o hb e=>eb b o hb e) f0 f1 f3 f4 f5⟩
 self:=fun _ _ _ _ _ st h=>wpAny_pyIter_rangeiter st h
section
variable {X:Cx}{tg:Expr}
def zgE (K:PySem.W.Frag)(tl:TE):TI:=fun σ H R=>tl σ H fun x H1=>∃a,x=.ref a/\(∃xs,SqL K H1 a xs)/\R (Itl K a) H1
def iTup (K:PySem.W.Frag)(tl:TE):TI:=fun σ H R=>tl σ H fun x H1=>∃a,x=.ref a/\(∃xs,SqT K H1 a xs)/\R (Itt K a) H1
theorem zdQ {l:Expr}{tl:TE}(hl:PE X l tl):PI X tg l (zgE X.K tl):=by
 intro pins s σ H R I h
 refine thn (hl pins s σ H _ I h) fun v s1 ⟨x,H1,I1,r1,q1⟩=>?_
 obtain ⟨a,e,⟨xs,hq⟩,q⟩:=q1
 subst e
 cases r1
 obtain ⟨its,rv,p,hz⟩:=I1.list hq
 refine wpAny_pyIter_list p.isList ?_
 refine ⟨s1.heap.objs.size,[s1.heap.objs.size],_,_,H1,rfl,I1.kept (t':=s1.toks) fun b o e=>Heap.get?_push_of_some _ e,zaW a _,⟨_,Heap.get?_push_size _ rfl,rfl,rfl⟩,fun b hb=>?_,q⟩
 have e:b=s1.heap.objs.size:=by simpa using hb
 subst e
 exact I1.fpOk (Nat.le_refl _) (I1.hok.fresh (Nat.le_refl _))
theorem zft {l:Expr}{tl:TE}(hl:PE X l tl):PI X tg l (iTup X.K tl):=by
 intro pins s σ H R I h
 refine thn (hl pins s σ H _ I h) fun v s1 ⟨x,H1,I1,r1,q1⟩=>?_
 obtain ⟨a,e,⟨xs,hq⟩,q⟩:=q1
 subst e
 cases r1
 obtain ⟨its,rv,p,hz⟩:=I1.tuple hq
 refine wpAny_pyIter_tuple (show s1.heap.IsTuple a its.toArray from p) ?_
 refine ⟨s1.heap.objs.size,[s1.heap.objs.size],_,_,H1,rfl,I1.kept (t':=s1.toks) fun b o e=>Heap.get?_push_of_some _ e,qp a _,⟨_,Heap.get?_push_size _ rfl,rfl,rfl⟩,fun b hb=>?_,q⟩
 have e:b=s1.heap.objs.size:=by simpa using hb
 subst e
 exact I1.fpOk (Nat.le_refl _) (I1.hok.fresh (Nat.le_refl _))
theorem gz {pins:List (Addr×Obj)}{σ:St}{H:Hp}{s:Shared}{R:It->Hp->Prop}{E:Value->Shared->Prop}{lo hi:Int}{t u v:Tok}{tk:Nat}(I:Inv X pins σ H s)(h1:-(2 ^ 62)<=lo)(h2:lo < 2 ^ 62)(h3:-(2 ^ 62)<=hi)(h4:hi < 2 ^ 62)
  (q:R (Itr lo (hi - lo).toNat) H):wpAny (model X.prog X.w) X.A (pyIter (.ref s.heap.objs.size)) (PIE X pins σ tg R) E { s with heap:=s.heap.push { cls:=.type "range",data:=.fields #[.int lo t,.int hi u,.int 1 v] },toks:=tk }:=by
 refine wpAny_pyIter_range (IsRange.new ..) (small_one h1 h2 h3 h4) ?_
 have I1:Inv X pins σ H { s with heap:=s.heap.push { cls:=.type "range",data:=.fields #[.int lo t,.int hi u,.int 1 v] },toks:=tk }:=I.kept fun b o e=>Heap.get?_push_of_some _ e
 refine ⟨(s.heap.push { cls:=.type "range",data:=.fields #[.int lo t,.int hi u,.int 1 v] }).objs.size,[(s.heap.push { cls:=.type "range",data:=.fields #[.int lo t,.int hi u,.int 1 v] }).objs.size],_,_,H,rfl,
  I1.kept (t':=tk) fun b o e=>Heap.get?_push_of_some _ e,qr _ lo (hi - lo).toNat,?_,fun b hb=>?_,q⟩
 .have e1:lo+((0:Nat):Int) * 1=lo:=by simp
  have e2:(((hi - lo).toNat:Nat):Int) - ((0:Nat):Int)=Builtin.Range.rangeSize lo hi 1:=by rw[rangeSize_one];split <;> lia
  show IsRangeIter _ _ (lo+((0:Nat):Int) * 1) ((((hi - lo).toNat:Nat):Int) - ((0:Nat):Int)) 1
  rw[e1,e2]
  exact Heap.get?_push_size _ rfl
 .have e:b=(s.heap.push { cls:=.type "range",data:=.fields #[.int lo t,.int hi u,.int 1 v] }).objs.size:=by simpa using hb
  subst e
  exact I1.fpOk (Nat.le_refl _) (I1.hok.fresh (Nat.le_refl _))
def zgF (ta:TA):TI:=fun σ H R=>ta σ H fun vs H1=>∃j:Int,vs=[.int j]/\-(2 ^ 62)<=j/\j < 2 ^ 62/\R (Itr 0 j.toNat) H1
def zgG (ta:TA):TI:=fun σ H R=>ta σ H fun vs H1=>∃i j:Int,vs=[.int i,.int j]/\(-(2 ^ 62)<=i/\i < 2 ^ 62/\-(2 ^ 62)<=j/\j < 2 ^ 62)/\R (Itr i (j - i).toNat) H1
theorem zaX {a:Expr}{ta:TA}{p pos:Pos}(hg:Gl X "range")(hm:X.mg "range" = none)(ha:PA X [a] ta)(hs:starEach [a] X.env=[(false,eval a X.env)]:=by rfl):PI X tg (.Call (.Name "range" p) [a] [] pos) (zgF ta):=by
 intro pins s σ H R I h
 refine Call_ (xx I hg hm boot_range (PyProof.Rows.callWith_type1 (thn (ha pos pins s σ H _ I h) fun us s1 ⟨vs,H1,I1,r1,q1⟩=>?_) hs rfl))
 obtain ⟨j,e,q1,q2,q⟩:=q1
 subst e
 cases r1 with
 | cons r rr =>
  cases rr
  obtain ⟨t,rfl⟩:=r
  exact call_range_1 (gz I1 (by lia) (by lia) q1 q2 (by simpa using q))
theorem zaY {a b:Expr}{ta:TA}{p pos:Pos}(hg:Gl X "range")(hm:X.mg "range" = none)(ha:PA X [a,b] ta)(hs:starEach [a,b] X.env=[(false,eval a X.env),(false,eval b X.env)]:=by rfl)(hs2:starEach [b] X.env=[(false,eval b X.env)]:=by rfl):
  PI X tg (.Call (.Name "range" p) [a,b] [] pos) (zgG ta):=by
 intro pins s σ H R I h
 refine Call_ (xx I hg hm boot_range (PyProof.Rows.callWith_type1 (thn (ha pos pins s σ H _ I h) fun us s1 ⟨vs,H1,I1,r1,q1⟩=>?_) (by rw[hs,hs2]) (by rw[hs2];rfl)))
 obtain ⟨i,j,e,⟨q1,q2,q3,q4⟩,q⟩:=q1
 subst e
 cases r1 with
 | cons r rr =>
  cases rr with
  | cons r' rr =>
   cases rr
   obtain ⟨t,rfl⟩:=r
   obtain ⟨t',rfl⟩:=r'
   exact call_range_2 (gz I1 q1 q2 q3 q4 q)
def zgH (wi:TI)(g:TG)(tb:TS):TS:=fun D σ H=>wi σ H fun J H1=>∃W:Nat->Nat->St->Hp->Prop,(∃m,W 0 m σ H1)/\∀i m σ H,W i m σ H ->
 (J.stop i H/\D.nx σ H)\/(J.go i H/\∃N:St->Hp->Prop,(∀σ' H',N σ' H'->∃m',m' < m/\W (i+1) m' σ' H')/\∀x H',J.yld i H x H'->g x σ H' fun σ2 H2=>tb { D with nx:=N,ct:=N,bk:=D.nx } σ2 H2)
noncomputable def kD (fp:List Addr)(h:Heap):List (Addr×Obj):=fp.filterMap fun b=>(h.get? b).map fun o=>(b,o)
theorem xQ {fp:List Addr}{h:Heap}{b:Addr}{o:Obj}(hb:b∈fp)(e:h.get? b=some o):(b,o)∈kD fp h:=List.mem_filterMap.mpr ⟨b,hb,by rw[e];rfl⟩
theorem zaZ {fp:List Addr}{h:Heap}{p:Addr×Obj}(hp:p∈kD fp h):p.1∈fp/\h.get? p.1=some p.2:=by
 obtain ⟨b,hb,e⟩:=List.mem_filterMap.mp hp
 cases q:h.get? b with
 | none=>rw[q] at e;cases e
 | some o =>
  rw[q] at e
  have e':(b,o)=p:=Option.some.inj e
  subst e'
  exact ⟨hb,q⟩
theorem Inv.pinned {pins:List (Addr×Obj)}{σ:St}{H:Hp}{s:Shared}{fp:List Addr}(I:Inv X pins σ H s)(hf:∀b∈fp,vZ X pins H b)(ho:∀b∈fp,∃o,s.heap.get? b=some o/\∀v,o.data≠.cell v):Inv X (pins++kD fp s.heap) σ H s :=
 I.pins_of fun p hp=>(List.mem_append.mp hp).elim (fun z=>I.pin p (List.mem_append_right _ z)) fun z=>by
  obtain ⟨hb,e⟩:=zaZ z
  obtain ⟨f0,f1,f2,_⟩:=hf p.1 hb
  obtain ⟨o,e',d⟩:=ho p.1 hb
  rw[e] at e';cases e'
  exact ⟨e,f0,f1,f2,d⟩
theorem Inv.unpinned {pins pl:List (Addr×Obj)}{σ:St}{H:Hp}{s:Shared}(I:Inv X (pins++pl) σ H s):Inv X pins σ H s:=I.pins_of fun p hp=>I.pin p (List.mem_append_right _ (List.mem_append_left _ hp))
theorem zfu {iter:Expr}{body:List Stmt}{wi:TI}{g:TG}{tb:TS}{pos:Pos}(hp:PassesOwn (model X.prog X.w) X.A X.env X.xe)(hc:X.calm=true)(hi:PI X tg iter wi)(hg:PG X tg g)(hb:PSs X body tb)
  (hs:∀x,foldedSetIterable iter X.env x=pure x:=by intro _;rfl):PS X (.For tg iter body [] pos) (zgH wi g tb):=by
 intro pins s σ H D I h
 refine wpAny_For (thn (hi pins s σ H _ I h) fun v s1 h1=>thn h1 fun itv s2 h2=>?_) hs
 obtain ⟨it,fp,tn,J,H2,e,I2,T,st2,f2,W,⟨m0,w0⟩,turn⟩:=h2
 subst e
 -- what stays true of the iterator's objects through the loop
 have stat:∀ {H':Hp},(∀b∈fp,H' b=none)->∀b∈fp,vZ X pins H' b:=fun hn b hb=>⟨hn b hb,(f2 b hb).2⟩
 refine codeAny_forLoop_any (fun n s'=>∃i σ' H',Inv X pins σ' H' s'/\tn i s'.heap/\(∀b∈fp,H' b=none)/\W i n σ' H') ?_ m0 ⟨0,σ,H2,I2,st2,fun b hb=>(f2 b hb).1,w0⟩
 rintro n s3 ⟨i,σ3,H3,I3,st3,fr3,w3⟩
 rcases turn i n σ3 H3 w3 with ⟨stop,qn⟩ | ⟨go,N,hN,step⟩
 .refine wpAny_passesOwn hp (thn (T.done X rfl rfl rfl hc i pins s3 σ3 H3 X.xe I3 (stat fr3) st3 stop) fun r s4 ⟨hr,I4⟩=>?_)
  subst hr
  exact wpAny_execs_nil ⟨σ3,H3,I4,qn⟩
 .refine wpAny_passesOwn hp (thn (T.item X rfl rfl rfl hc i pins s3 σ3 H3 X.xe I3 (stat fr3) st3 go) fun r s4 ⟨u,hr,h4⟩=>?_)
  subst hr
  refine wpAny_passesOwn hp (thn h4 fun _ s5 ⟨x,H5,I5,r5,y5,st5,fr5⟩=>?_)
  have I5':=I5.pinned (stat fr5) (T.obj _ _ st5)
  refine wpAny_passesOwn hp (thn (hg _ s5 σ3 H5 x u _ I5' r5 (step x H5 y5)) fun _ s6 ⟨σ6,H6,I6,q6⟩=>?_)
  refine wpAny_passesOwn hp (thn (hb _ s6 σ6 H6 _ I6 q6) fun f s7 q7=>?_)
  have again:∀ {σ7:St}{H7:Hp},Inv X (pins++kD fp s5.heap) σ7 H7 s7->N σ7 H7->∃m,m < n/\∃i σ' H',Inv X pins σ' H' s7/\tn i s7.heap/\(∀b∈fp,H' b=none)/\W i m σ' H':=fun {σ7 H7} I7 n7=>by
   obtain ⟨m',hm,w7⟩:=hN σ7 H7 n7
   refine ⟨m',hm,i+1,σ7,H7,I7.unpinned,T.keep _ _ _ st5 fun b hb o e=>(I7.pin (b,o) (List.mem_append_right _ (List.mem_append_right _ (xQ hb e)))).1,fun b hb=>?_,w7⟩
   obtain ⟨o,e,d⟩:=T.obj _ _ st5 b hb
   exact (I7.pin (b,o) (List.mem_append_right _ (List.mem_append_right _ (xQ hb e)))).2.1
  cases f with
  | next=>obtain ⟨σ7,H7,I7,n7⟩:=q7;exact again I7 n7
  | cont=>obtain ⟨σ7,H7,I7,n7⟩:=q7;exact again I7 n7
  | brk=>obtain ⟨σ7,H7,I7,q7⟩:=q7;exact ⟨σ7,H7,I7.unpinned,q7⟩
  | ret v=>obtain ⟨x7,σ7,H7,I7,r7,q7⟩:=q7;exact ⟨x7,σ7,H7,I7.unpinned,r7,q7⟩
end
abbrev R2:=V->V->Hp->VK->Prop
def OpR (X:Cx)(f:Value->Value->Sem Value)(r:R2):Prop :=
 ∀ (pins:List (Addr×Obj)) (s:Shared) (σ:St) (H:Hp) (x y:V) (v u:Value) (Q:VK),Inv X pins σ H s->RelV x v->RelV y u->r x y H Q ->
  wpAny (model X.prog X.w) X.A (f v u) (EP X pins σ Q) X.xe s
def UnR (X:Cx)(f:Value->Sem Value)(r:V->Hp->VK->Prop):Prop :=
 ∀ (pins:List (Addr×Obj)) (s:Shared) (σ:St) (H:Hp) (x:V) (v:Value) (Q:VK),Inv X pins σ H s->RelV x v->r x H Q ->
  wpAny (model X.prog X.w) X.A (f v) (EP X pins σ Q) X.xe s
def CallR (X:Cx)(f:Value)(r:List V->Hp->VK->Prop):Prop :=
 ∀ (pins:List (Addr×Obj)) (s:Shared) (σ:St) (H:Hp) (xs:List V) (us:List Value) (Q:VK),Inv X pins σ H s->Vals xs us->r xs H Q ->
  wpAny (model X.prog X.w) X.A (call f us) (EP X pins σ Q) X.xe s
def tOp (r:R2)(ta tb:TE):TE:=fun σ H Q=>ta σ H fun x H1=>tb σ H1 fun y H2=>r x y H2 Q
def tUn (r:V->Hp->VK->Prop)(ta:TE):TE:=fun σ H Q=>ta σ H fun x H1=>r x H1 Q
def rI (C:Int->Int->Prop)(g:Int->Int->V):R2:=fun x y H Q=>∃i j,x=.int i/\y=.int j/\C i j/\Q (g i j) H
def rI0 (g:Int->Int->V):R2:=fun x y H Q=>∃i j,x=.int i/\y=.int j/\Q (g i j) H
def rU (g:Int->V):V->Hp->VK->Prop:=fun x H Q=>∃i,x=.int i/\Q (g i) H
section
variable {X:Cx}{a b:Expr}{ta tb:TE}{pos:Pos}
theorem zfv (ha:PE X a ta)(hb:PE X b tb){pins:List (Addr×Obj)}{s:Shared}{σ:St}{H:Hp}{R:V->V->Hp->Prop}(I:Inv X pins σ H s)
  (h:ta σ H fun x H1=>tb σ H1 fun y H2=>R x y H2) {Q:Value->Shared->Prop}{f:Value->Value->Sem Value}
  (hf:∀v u s2 x y H2,Inv X pins σ H2 s2->RelV x v->RelV y u->R x y H2->wpAny (model X.prog X.w) X.A (f v u) Q X.xe s2) :
  wpAny (model X.prog X.w) X.A (eval a X.env) (fun v s₁=>wpAny (model X.prog X.w) X.A (eval b X.env) (fun u s₂=>wpAny (model X.prog X.w) X.A (f v u) Q X.xe s₂) X.xe s₁) X.xe s:=by
 refine thn (ha pins s σ H _ I h) fun v s1 ⟨x,H1,I1,r1,q1⟩=>?_
 refine thn (hb pins s1 σ H1 _ I1 q1) fun u s2 ⟨y,H2,I2,r2,q2⟩=>?_
 exact hf v u s2 x y H2 I2 r1 r2 q2
theorem zgI {op:Operator}{r:R2}(ho:OpR X (binaryOp op) r)(ha:PE X a ta)(hb:PE X b tb):PE X (.BinOp a op b pos) (tOp r ta tb):=by
 intro pins s σ H Q I h
 exact wpAny_BinOp (zfv ha hb I h fun v u s2 x y H2 I2 rx ry q=>ho pins s2 σ H2 x y v u Q I2 rx ry q)
theorem zgJ {op:UnaryOp}{r:V->Hp->VK->Prop}(ho:UnR X (unaryOp op) r)(ha:PE X a ta):PE X (.UnaryOp op a pos) (tUn r ta):=by
 intro pins s σ H Q I h
 exact UnaryOp_ (thn (ha pins s σ H _ I h) fun v s1 ⟨x,H1,I1,r1,q1⟩=>ho pins s1 σ H1 x v Q I1 r1 q1)
theorem opI {f:Value->Value->Sem Value}{C:Int->Int->Prop}{g:Int->Int->Int}
  (rule:∀ (i j:Int) (t u:Tok) (s:Shared) (Q:Value->Shared->Prop) (E:Value->Shared->Prop),C i j->Q (.int (g i j) s.toks) { s with toks:=s.toks+1 }->wpAny (model X.prog X.w) X.A (f (.int i t) (.int j u)) Q E s) :
  OpR X f (rI C fun i j=>.int (g i j)):=by
 intro pins s σ H x y v u Q I rx ry h
 obtain ⟨i,j,rfl,rfl,hc,q⟩:=h
 obtain ⟨t,rfl⟩:=rx
 obtain ⟨t',rfl⟩:=ry
 exact rule i j t t' s _ _ hc ⟨.int (g i j),H,I.tok _,⟨_,rfl⟩,q⟩
theorem zgK {f:Value->Value->Sem Value}{g:Int->Int->Int}
  (rule:∀ (i j:Int) (t u:Tok) (s:Shared) (Q:Value->Shared->Prop) (E:Value->Shared->Prop),Q (.int (g i j) s.toks) { s with toks:=s.toks+1 }->wpAny (model X.prog X.w) X.A (f (.int i t) (.int j u)) Q E s) :
  OpR X f (rI0 fun i j=>.int (g i j)):=by
 intro pins s σ H x y v u Q I rx ry h
 obtain ⟨i,j,rfl,rfl,q⟩:=h
 obtain ⟨t,rfl⟩:=rx
 obtain ⟨t',rfl⟩:=ry
 exact rule i j t t' s _ _ ⟨.int (g i j),H,I.tok _,⟨_,rfl⟩,q⟩
theorem zdR {f:Value->Value->Sem Value}{g:Int->Int->Bool}
  (rule:∀ (i j:Int) (t u:Tok) (s:Shared) (Q:Value->Shared->Prop) (E:Value->Shared->Prop),Q (.bool (g i j)) s->wpAny (model X.prog X.w) X.A (f (.int i t) (.int j u)) Q E s) :
  OpR X f (rI0 fun i j=>.bl (g i j)):=by
 intro pins s σ H x y v u Q I rx ry h
 obtain ⟨i,j,rfl,rfl,q⟩:=h
 obtain ⟨t,rfl⟩:=rx
 obtain ⟨t',rfl⟩:=ry
 exact rule i j t t' s _ _ ⟨.bl (g i j),H,I,rfl,q⟩
def zgL (i j:Int):Prop:=0 < j/\j < 1073741824
def zgM (i j:Int):Prop:=0<=j/\j<=1000000/\i.natAbs < 2 ^ 64
def CMul (i j:Int):Prop:=(-(2 ^ 64) < i/\i < 2 ^ 64)\/(-(2 ^ 64) < j/\j < 2 ^ 64)
theorem CMul.ok {i j:Int}(h:CMul i j):IntMulOk i j:=by
 rcases h with ⟨h1,h2⟩ | ⟨h1,h2⟩
 .exact .of_left (intBits_le_64 h1 h2)
 .exact .of_right (intBits_le_64 h1 h2)
theorem op_add:OpR X (binaryOp .Add) (rI0 fun i j=>.int (i+j)):=zgK fun _ _ _ _ _ _ _ q=>add_int q
theorem zfw:OpR X (binaryOp .Sub) (rI0 fun i j=>.int (i - j)):=zgK fun _ _ _ _ _ _ _ q=>sub_int q
theorem op_mul:OpR X (binaryOp .Mult) (rI CMul fun i j=>.int (i * j)):=opI fun _ _ _ _ _ _ _ hc q=>mul_int q hc.ok
theorem zdS:OpR X (binaryOp .FloorDiv) (rI zgL fun i j=>.int (i / j)):=opI fun i j _ _ _ _ _ hc q=>by
 have h1:(0:Int) < j:=hc.1
 have h2:j < 1073741824:=hc.2
 exact floordiv_int (by lia) (by rw[Int.fdiv_eq_ediv_of_nonneg i (by lia)];exact q) (.inl (PyProof.noPylong_small (by lia)))
theorem zfx:OpR X (binaryOp .Mod) (rI (fun _ j=>0 < j) fun i j=>.int (i % j)):=opI fun i j _ _ _ _ _ hc q=>by
 have h1:(0:Int) < j:=hc
 exact mod_int' (by lia) (by rw[Int.fmod_eq_emod_of_nonneg i (by lia)];exact q)
theorem zfy:OpR X (binaryOp .Pow) (rI zgM fun i j=>.int (i ^ j.toNat)):=opI fun _ _ _ _ _ _ _ hc q=>pow_int_small hc.1 hc.2.1 hc.2.2 q
theorem unI {f:Value->Sem Value}{g:Int->Int}
  (rule:∀ (i:Int) (t:Tok) (s:Shared) (Q:Value->Shared->Prop) (E:Value->Shared->Prop),Q (.int (g i) s.toks) { s with toks:=s.toks+1 }->wpAny (model X.prog X.w) X.A (f (.int i t)) Q E s) :
  UnR X f (rU fun i=>.int (g i)):=by
 intro pins s σ H x v Q I rx h
 obtain ⟨i,rfl,q⟩:=h
 obtain ⟨t,rfl⟩:=rx
 exact rule i t s _ _ ⟨.int (g i),H,I.tok _,⟨_,rfl⟩,q⟩
theorem zfz:UnR X (unaryOp .USub) (rU fun i=>.int (-i)):=unI fun _ _ _ _ _ q=>neg_int q
end
section
variable {X:Cx}{a b c:Expr}{ta tb tc:TE}{pos:Pos}
theorem zb4 {pins:List (Addr×Obj)}{σ:St}{H:Hp}{s:Shared}{Q:VK}{k k':Bool}(I:Inv X pins σ H s)(q:Q (.bl k) H)(e:k=k'):EP X pins σ Q (.bool k') s:=by
 subst e
 exact ⟨.bl k,H,I,rfl,q⟩
theorem zgN:OpR X (compareOp .Lt) (rI0 fun i j=>.bl (decide (i < j))):=zdR fun _ _ _ _ _ _ _ q=>lt_int q
theorem zgO:OpR X (compareOp .LtE) (rI0 fun i j=>.bl (decide (i<=j))):=zdR fun _ _ _ _ _ _ _ q=>le_int q
theorem zgP:OpR X (compareOp .Gt) (rI0 fun i j=>.bl (decide (j < i))):=zdR fun _ _ _ _ _ _ _ q=>gt_int q
theorem zgQ:OpR X (compareOp .GtE) (rI0 fun i j=>.bl (decide (j<=i))):=zdR fun _ _ _ _ _ _ _ q=>ge_int q
theorem zfA:OpR X (compareOp .Is) (fun x y H Q=>y=.non/\Q (.bl (decide (x=.non))) H):=by
 intro pins s σ H x y v u Q I rx ry h
 obtain ⟨rfl,q⟩:=h
 cases ry
 refine is_none_gen (zb4 I q ?_)
 cases x <;> first
  | (cases rx;rfl)
  | (obtain ⟨t,rfl⟩:=rx;rfl)
theorem zdT:OpR X (compareOp .IsNot) (fun x y H Q=>y=.non/\Q (.bl (!decide (x=.non))) H):=by
 intro pins s σ H x y v u Q I rx ry h
 obtain ⟨rfl,q⟩:=h
 cases ry
 refine isnot_none_gen (zb4 I q ?_)
 cases x <;> first
  | (cases rx;rfl)
  | (obtain ⟨t,rfl⟩:=rx;rfl)
theorem OpR.or {f:Value->Value->Sem Value}{r r':R2}(h:OpR X f r)(h':OpR X f r'):OpR X f (fun x y H Q=>r x y H Q\/r' x y H Q):=by
 intro pins s σ H x y v u Q I rx ry q
 rcases q with q | q
 .exact h pins s σ H x y v u Q I rx ry q
 .exact h' pins s σ H x y v u Q I rx ry q
theorem zdU {op:CmpOp}{r:R2}(ho:OpR X (compareOp op) r)(ha:PE X a ta)(hb:PE X b tb)(hm:behindInMarks op b=false):PE X (.Compare a [op] [b] pos) (tOp r ta tb):=by
 intro pins s σ H Q I h
 exact wpAny_Compare1 (zfv ha hb I h fun v u s2 x y H2 I2 rx ry q=>ho pins s2 σ H2 x y v u Q I2 rx ry q) hm
def ze7 (t:TE):TT:=fun σ H Q=>t σ H fun x H'=>∃k,x=.bl k/\Q k H'
theorem zdV {op:CmpOp}{r:R2}(ho:OpR X (compareOp op) r)(ha:PE X a ta)(hb:PE X b tb)(hm:behindInMarks op b=false):PT X (.Compare a [op] [b] pos) (ze7 (tOp r ta tb)):=by
 intro pins s σ H Q I h
 refine wpAny_isTrue_Compare1 (thn (ha pins s σ H _ I h) fun v s1 ⟨x,H1,I1,r1,q1⟩=>thn (hb pins s1 σ H1 _ I1 q1) fun u s2 ⟨y,H2,I2,r2,q2⟩ =>
  thn (ho pins s2 σ H2 x y v u _ I2 r1 r2 q2) fun c s3 ⟨z,H3,I3,r3,k,e,q3⟩=>?_) hm
 subst e
 cases r3
 exact wpAny_truthy_bool ⟨H3,I3,q3⟩
def qs (r r':R2)(ta tb tc:TE):TE:=fun σ H Q=>ta σ H fun x H1=>tb σ H1 fun y H2=>r x y H2 fun z H3=>∃k,z=.bl k /\
 (if k=true then tc σ H3 fun w' H4=>r' y w' H4 Q else Q (.bl false) H3)
theorem zb5 {op op':CmpOp}{r r':R2}(ho:OpR X (compareOp op) r)(ho':OpR X (compareOp op') r')(ha:PE X a ta)(hb:PE X b tb)(hc:PE X c tc)
  (hm:lastMarks [op,op'] [b,c]=false:=by with_unfolding_all rfl):PE X (.Compare a [op,op'] [b,c] pos) (qs r r' ta tb tc):=by
 intro pins s σ H Q I h
 refine Compare_chain (thn (ha pins s σ H _ I h) fun v s1 ⟨x,H1,I1,r1,q1⟩=>chain_link (thn (hb pins s1 σ H1 _ I1 q1) fun u s2 ⟨y,H2,I2,r2,q2⟩ =>
  thn (ho pins s2 σ H2 x y v u _ I2 r1 r2 q2) fun d s3 ⟨z,H3,I3,r3,k,e,q3⟩=>?_)) hm
 subst e
 cases r3
 refine wpAny_truthy_bool ?_
 cases k with
 | false=>exact ite_ff ⟨.bl false,H3,I3,rfl,q3⟩
 | true=>exact ite_tt (chain_last (thn (hc pins s3 σ H3 _ I3 q3) fun w' s4 ⟨z',H4,I4,r4,q4⟩=>ho' pins s4 σ H4 y z' u w' Q I4 r2 r4 q4))
theorem zb6 {op op':CmpOp}{r r':R2}(ho:OpR X (compareOp op) r)(ho':OpR X (compareOp op') r')(ha:PE X a ta)(hb:PE X b tb)(hc:PE X c tc)
  (hm:lastMarks [op,op'] [b,c]=false:=by with_unfolding_all rfl):PT X (.Compare a [op,op'] [b,c] pos) (ze7 (qs r r' ta tb tc)):=by
 intro pins s σ H Q I h
 refine isTrue_chain (thn (ha pins s σ H _ I h) fun v s1 ⟨x,H1,I1,r1,q1⟩=>test_link (thn (hb pins s1 σ H1 _ I1 q1) fun u s2 ⟨y,H2,I2,r2,q2⟩ =>
  thn (ho pins s2 σ H2 x y v u _ I2 r1 r2 q2) fun d s3 ⟨z,H3,I3,r3,k,e,q3⟩=>?_)) hm
 subst e
 cases r3
 refine wpAny_truthy_bool ?_
 cases k with
 | false =>
  obtain ⟨k',e',q'⟩:=q3
  cases e'
  exact ite_ff ⟨H3,I3,q'⟩
 | true =>
  refine ite_tt (test_last (thn (hc pins s3 σ H3 _ I3 q3) fun w' s4 ⟨z',H4,I4,r4,q4⟩=>thn (ho' pins s4 σ H4 y z' u w' _ I4 r2 r4 q4) fun d' s5 ⟨z2,H5,I5,r5,k2,e2,q5⟩=>?_))
  subst e2
  cases r5
  exact wpAny_truthy_bool ⟨H5,I5,q5⟩
theorem kE:(sizeLine:Nat) < 2 ^ 63:=by rw[sizeLine_eq];decide
theorem jp {x:V}{us:List Value}(r:Vals [x] us):∃u,us=[u]/\RelV x u:=by
 cases r with
 | cons r1 r2=>cases r2;exact ⟨_,rfl,r1⟩
theorem zb7 {x y:V}{us:List Value}(r:Vals [x,y] us):∃u w',us=[u,w']/\RelV x u/\RelV y w':=by
 cases r with
 | cons r1 r2 =>
  cases r2 with
  | cons r3 r4=>cases r4;exact ⟨_,_,rfl,r1,r3⟩
theorem za0 (hc:X.calm=true):CallR X (.builtin "max") (fun xs H Q=>∃i j,xs=[.int i,.int j]/\Q (.int (if j > i then j else i)) H):=by
 intro pins s σ H xs us Q I r h
 obtain ⟨i,j,rfl,q⟩:=h
 obtain ⟨u,w',rfl,⟨t,rfl⟩,⟨t',rfl⟩⟩:=zb7 r
 refine max_two_ints (I.ok.hd hc) fun h' tk k=>⟨_,H,I.kept k,?_,q⟩
 by_cases hj:j > i
 .rw[if_pos hj,if_pos hj];exact ⟨_,rfl⟩
 .rw[if_neg hj,if_neg hj];exact ⟨_,rfl⟩
theorem za1 (hc:X.calm=true):CallR X (.builtin "min") (fun xs H Q=>∃i j,xs=[.int i,.int j]/\Q (.int (if j < i then j else i)) H):=by
 intro pins s σ H xs us Q I r h
 obtain ⟨i,j,rfl,q⟩:=h
 obtain ⟨u,w',rfl,⟨t,rfl⟩,⟨t',rfl⟩⟩:=zb7 r
 refine min_two_ints (I.ok.hd hc) fun h' tk k=>⟨_,H,I.kept k,?_,q⟩
 by_cases hj:j < i
 .rw[if_pos hj,if_pos hj];exact ⟨_,rfl⟩
 .rw[if_neg hj,if_neg hj];exact ⟨_,rfl⟩
theorem za2:CallR X (.type "int") (fun xs H Q=>(∃i,xs=[.int i]/\Q (.int i) H)\/∃k,xs=[.bl k]/\Q (.int (if k then 1 else 0)) H):=by
 intro pins s σ H xs us Q I r h
 rcases h with ⟨i,rfl,q⟩ | ⟨k,rfl,q⟩
 .obtain ⟨u,rfl,t,rfl⟩:=jp r
  exact call_int_int ⟨.int i,H,I,⟨_,rfl⟩,q⟩
 .obtain ⟨u,rfl,r1⟩:=jp r
  cases r1
  exact call_int_bool ⟨.int (if k then 1 else 0),H,I.tok _,⟨_,rfl⟩,q⟩
end
structure ObjM (h:Heap)(x dx C:Addr)(mA:Str->Option Value):Prop where
 obj:h.get? x=some (PySem.W.instObj C dx)
 ns:h.Ns1 dx mA
 ne:dx≠x
set_option tactic.hygienic true in
theorem jq {h:Heap}{dx:Addr}{mA:Str->Option Value}(n:h.Ns1 dx mA):∃od,h.get? dx=some od/\∀name,PySem.W.lookIn name od=some (mA name):=by
 obtain ⟨o,es,ep,ho,hd,hk,_,hm⟩:=n
 refine ⟨o,ho,fun name=>?_⟩
 have e:=hm name
 unfold nsFind findBy at e
 rw[<- Array.find?_toList] at e
 unfold PySem.W.lookIn
 rw[hd]
 dsimp only
 split
 .rename_i y q
  rw[q] at e
  exact congrArg some e
 .rename_i q
  rw[q] at e
  have a:es.toList.any (·.refKey)=false:=by
   rw[List.any_eq_false]
   intro y hy
   obtain ⟨z,t,hkey⟩:=hk y (Array.mem_toList_iff.mp hy)
   simp[DictEntry.refKey,hkey]
  have a':¬ es.toList.any (·.refKey)=true:=by rw[a];exact Bool.false_ne_true
  rw[if_neg a']
  exact congrArg some e
theorem ObjM.look {h:Heap}{x dx C:Addr}{mA:Str->Option Value}(I:ObjM h x dx C mA):∃od,PySem.W.InstAt h x (PySem.W.instObj C dx) C (some od)/\∀name,PySem.W.lookIn name od=some (mA name) :=
 let ⟨od,ho,hl⟩:=jq I.ns
 ⟨od,⟨I.obj,rfl,rfl,ho⟩,hl⟩
theorem RelO.some_of {v:V}{o:Option Value}(r:RelO (some v) o):∃u,o=some u/\RelV v u:=by
 cases o with
 | none=>exact (show False from r).elim
 | some u=>exact ⟨u,rfl,r⟩
theorem za3 {v:V}{u:Value}(r:RelV v u):PySem.W.handedIn u=true:=by
 cases v with
 | non=>cases (show u=Value.none from r);rfl
 | bl b=>cases (show u=Value.bool b from r);rfl
 | int i=>obtain ⟨t,e⟩:=(show ∃t,u=Value.int i t from r);cases e;rfl
 | str x=>obtain ⟨t,e⟩:=(show ∃t,u=Value.str x t from r);cases e;rfl
 | byt b=>obtain ⟨t,e⟩:=(show ∃t,u=Value.bytes b t from r);cases e;rfl
 | flt b=>obtain ⟨t,e⟩:=(show ∃t,u=Value.float b t from r);cases e;rfl
 | ref a=>cases (show u=Value.ref a from r);rfl
 | ty n=>cases (show u=Value.type n from r);rfl
section
variable {P:Program}{w:World}{H:Hp}{h:Heap}{a C dx:Addr}{fs:List (Str×V)}
theorem zdW (hok:HOk P w H h)(e:H a=some (.ins C dx fs)):∃mA,ObjM h a dx C mA/\(∀f,RelO (fs.lookup f) (mA f))/\PySem.Within mA (fs.map (·.1))/\fs.length<=1000/\H dx=some (.own a):=by
 obtain ⟨d,z,ne,ob,mA,n,r,q⟩:=(show ObjOk P w H h a (.ins C dx fs) from hok a _ e)
 exact ⟨mA,⟨ob,n,ne⟩,r,q,z,d⟩
end
structure Cls (K:PySem.W.Frag)(C:Addr):Prop where
 pg:PySem.W.plainGet K C Str.empty=true
 hd:PySem.W.hasDictIn K C=true
 po:PySem.W.plainOver K C=true
 sa:PySem.W.findIn K (.ref C) "__setattr__" = some (some (.builtin "object.__setattr__"))
theorem Cls.get {K:PySem.W.Frag}{C:Addr}(c:Cls K C)(f:Str):PySem.W.plainGet K C f=true:=c.pg
section
variable {s:Shared}{f:Str}{A:Around}{E:Value->Shared->Prop}
theorem zdX {prog:Program}{w:World}{env:Env}{e:Expr}{f:Str}{pos:Pos}{s:Shared}{Q:Value->Shared->Prop}(hb:attributeBase e f env (eval e env)=eval e env)
  (h:wpAny (model prog w) A (eval e env) (fun o s₁=>wpAny (model prog w) A (getAttr o f true) Q E s₁) E s):wpAny (model prog w) A (eval (.Attribute e f pos) env) Q E s :=
 Attribute_any_ h (by rw[arm_eval_Attribute,hb])
end
section
variable {X:Cx}{pins:List (Addr×Obj)}{σ:St}{H:Hp}{s:Shared}{A:Around}{E:Value->Shared->Prop}{Q:Value->Shared->Prop}{c:Value}{b:Bool}
inductive TyOf (K:PySem.W.Frag)(H:Hp):V->Value->Prop where
 | non:TyOf K H .non (.type "NoneType")
 | bl (x:Bool):TyOf K H (.bl x) (.type "bool")
 | int (i:Int):TyOf K H (.int i) (.type "int")
 | str (x:Str):TyOf K H (.str x) (.type "str")
 | flt (x:UInt64):TyOf K H (.flt x) (.type "float")
 | lst {a:Addr}{xs:List V}(e:H a=some (.lst xs)):TyOf K H (.ref a) (.type "list")
 | frz {a:Addr}{o:Obj}{xs:List V}(e:H a=some (.frz o (.lst xs))):TyOf K H (.ref a) (.type "list")
 | tup {a:Addr}{xs:List V}(e:H a=some (.tup xs)):TyOf K H (.ref a) (.type "tuple")
 | dK {a:Addr}{kvs:List (Key×V)}(e:H a=some (.dK kvs)):TyOf K H (.ref a) (.type "dict")
 | dT {a:Addr}{kvs:List (List Key×V)}(e:H a=some (.dT kvs)):TyOf K H (.ref a) (.type "dict")
 | ins {a C dx:Addr}{fs:List (Str×V)}(e:H a=some (.ins C dx fs)) (cl:Cls K C) (ha:PySem.W.findIn K (.ref C) "__class__" = some (some (.builtin "object.__class__")))
   (hn:PySem.W.specialIn K (.builtin "object.__class__") "__get__" = some (some (.builtin "getset_descriptor.__get__"))) (htk:PySem.W.takesIn K (.builtin "object.__class__")=some true)
   (hm:PySem.W.mroIn K C (.type "object")=some true):TyOf K H (.ref a) (.ref C)
theorem xI {x:V}{u t:Value}(I:Inv X pins σ H s)(rx:RelV x u)(ty:TyOf X.K H x t)(e:PySem.W.kitOne X.K t c=some b)(h:∀tk,Q (.bool b) { s with toks:=tk }):
  wpAny (model X.prog X.w) A (call (.builtin "isinstance") [u,c]) Q E s:=by
 cases ty with
 | non=>cases (show u=Value.none from rx);exact PySem.W.kia_one PySem.W.kitx_none I.kIn True.intro e (fun z=>nomatch z) h
 | bl y=>cases (show u=Value.bool y from rx);exact PySem.W.kia_one PySem.W.kitx_bool I.kIn True.intro e (fun z=>nomatch z) h
 | int i=>obtain ⟨t,q⟩:=(show ∃t,u=Value.int i t from rx);cases q;exact PySem.W.kia_one PySem.W.kitx_int I.kIn True.intro e (fun z=>nomatch z) h
 | str y=>obtain ⟨t,q⟩:=(show ∃t,u=Value.str y t from rx);cases q;exact PySem.W.kia_one PySem.W.kitx_str I.kIn True.intro e (fun z=>nomatch z) h
 | flt y=>obtain ⟨t,q⟩:=(show ∃t,u=Value.float y t from rx);cases q;exact PySem.W.kia_one PySem.W.kitx_float I.kIn True.intro e (fun z=>nomatch z) h
 | @lst a xs ea =>
  cases (show u=Value.ref a from rx)
  obtain ⟨_,_,n,_,h1⟩:=(show ObjOk X.prog X.w H s.heap a (.lst xs) from I.hok a _ ea)
  exact PySem.W.kia_one PySem.W.kitx_list I.kIn ⟨_,h1,rfl⟩ e (fun z=>nomatch z) h
 | @frz a ob xs ea =>
  cases (show u=Value.ref a from rx)
  obtain ⟨_,_,_,n,_,h1⟩:=(show ObjOk X.prog X.w H s.heap a (.frz ob (.lst xs)) from I.hok a _ ea)
  exact PySem.W.kia_one PySem.W.kitx_list I.kIn ⟨_,h1,rfl⟩ e (fun z=>nomatch z) h
 | @tup a xs ea =>
  cases (show u=Value.ref a from rx)
  obtain ⟨_,_,_,p⟩:=(show ObjOk X.prog X.w H s.heap a (.tup xs) from I.hok a _ ea)
  obtain ⟨o,h1,h2,_⟩:=p
  exact PySem.W.kia_one PySem.W.kitx_tuple I.kIn ⟨o,h1,h2⟩ e (fun z=>nomatch z) h
 | @dK a kvs ea =>
  cases (show u=Value.ref a from rx)
  obtain ⟨_,_,vs,_,p⟩:=(show ObjOk X.prog X.w H s.heap a (.dK kvs) from I.hok a _ ea)
  obtain ⟨o,es,ep,h1,h2,_⟩:=p
  exact PySem.W.kia_one PySem.W.kitx_dict I.kIn ⟨o,h1,h2.1⟩ e (fun z=>nomatch z) h
 | @dT a kvs ea =>
  cases (show u=Value.ref a from rx)
  obtain ⟨_,_,xs,_,o,es,ep,h1,h2,_⟩:=(show ObjOk X.prog X.w H s.heap a (.dT kvs) from I.hok a _ ea)
  exact PySem.W.kia_one PySem.W.kitx_dict I.kIn ⟨o,h1,h2.1⟩ e (fun z=>nomatch z) h
 | @ins a C dx fs ea cl ha hn htk hm =>
  cases (show u=Value.ref a from rx)
  obtain ⟨mA,O,_⟩:=zdW I.hok ea
  obtain ⟨od,J,_⟩:=O.look
  exact PySem.W.kia_one (PySem.W.kitx_own (cl.get _) cl.hd ha hn htk hm) I.kIn J e (fun z=>nomatch z) h
end
structure Room (k:Nat)(A:Around):Prop where
 hd:A.handled=none
 dp:A.depth+3 * k+5 < recursionLimit
 un:A.units+16 * k+200 < cLine
theorem Room.deeper {k:Nat}{A:Around}(r:Room (k+1) A)(env:Env):Room k (A.deeper env) :=
 ⟨r.hd,by have:=r.dp;show A.depth+1+3 * k+5 < _;lia,by have:=r.un;show A.units+3+16 * k+200 < _;lia⟩
theorem qt {A:Around}{C:Addr}{us:List Value}{kw:List (Str×Value)}:(A.under (.builtin "type.__call__" ⟨.ref C::us,kw⟩)).depth=A.depth+1:=by
 first | rfl | simp[Around.under,Code.weight,Code.isCreation,Code.isGuard,Code.isCaller,Code.frames,Code.isFrame,guardIds]
theorem Room.depth {k:Nat}{A:Around}(r:Room k A):A.depth < recursionLimit:=by have:=r.dp;lia
theorem Room.units {k:Nat}{A:Around}(r:Room k A):A.units+64 < cLine:=by have:=r.un;lia
def zb8:TA:=fun _ H Q=>Q [] H
def jr (ta:TE)(tr:TA):TA:=fun σ H Q=>ta σ H fun x H1=>tr σ H1 fun xs H2=>Q (x::xs) H2
section
variable {X:Cx}{e:Expr}{es:List Expr}{te:TE}{t:TA}{pos:Pos}
theorem yA:PA X [] zb8:=fun _ _ _ _ H Q I h=>Calls.spliced_nil ⟨[],H,I,.nil,h⟩
theorem zy (ha:PE X e te)(hr:PA X es t)(hs:starEach (e::es) X.env=(false,eval e X.env)::starEach es X.env:=by rfl):PA X (e::es) (jr te t):=by
 intro pos pins s σ H Q I h
 rw[hs]
 show wpAny _ _ (spliced ((false,eval e X.env)::backTo pos (starEach es X.env))) _ _ s
 refine Calls.spliced_cons (thn (ha pins s σ H _ I h) fun u s1 ⟨x,H1,I1,r1,q1⟩=>?_)
 exact thn (hr pos pins s1 σ H1 _ I1 q1) fun us s2 ⟨xs,H2,I2,r2,q2⟩=>⟨x::xs,H2,I2,.cons r1 r2,q2⟩
def tTup (t:TA):TE:=fun σ H Q=>t σ H fun xs H1=>xs.length<=sizeLine/\∀p,H1 p=none->Q (.ref p) (upd H1 p (.tup xs))
def tLst (t:TA):TE:=fun σ H Q=>t σ H fun xs H1=>xs.length<=sizeLine/\∀p,H1 p=none->Q (.ref p) (upd H1 p (.lst xs))
theorem kF {x1}(h:PA X es t):PE X (.Tuple es x1 pos) (tTup t):=by
 intro pins s σ H Q I hq
 refine wpAny_Tuple_spliced (thn (h pos pins s σ H _ I hq) fun us s1 ⟨xs,H1,I1,r,z,q⟩=>⟨by rw[<- r.length];exact z,?_⟩)
 have hf:H1 s1.heap.objs.size=none:=I1.hok.fresh (Nat.le_refl _)
 refine ⟨.ref s1.heap.objs.size,upd H1 s1.heap.objs.size (.tup xs),I1.laid (t':=s1.toks) (fun b u e=>Heap.get?_push_of_some _ e) (Nat.le_refl _) ?_,rfl,q _ hf⟩
 exact ⟨z,us,r,⟨_,Heap.get?_push_size _ rfl,rfl,_,rfl⟩⟩
theorem zfB (h:PA X es t):PE X (.List es pos) (tLst t):=by
 intro pins s σ H Q I hq
 refine wpAny_List_spliced (thn (h pos pins s σ H _ I hq) fun us s1 ⟨xs,H1,I1,r,z,q⟩=>⟨by rw[<- r.length];exact z,?_⟩)
 have hf:H1 s1.heap.objs.size=none:=I1.hok.fresh (Nat.le_refl _)
 refine ⟨.ref s1.heap.objs.size,upd H1 s1.heap.objs.size (.lst xs),I1.laid (t':=s1.toks) (fun b u e=>Heap.get?_push_of_some _ e) (Nat.le_refl _) ?_,rfl,q _ hf⟩
 exact ⟨z,us,0,r,Heap.get?_push_size _ rfl⟩
end
abbrev Sp:=List V->Hp->VK->XK->Prop
abbrev CXT:=List Env->Hp->Shared->XK->Value->Shared->Prop
structure Env0 (P:Program)(w:World)(K:PySem.W.Frag)(mg:Str->Option Value)(base:Heap)(A:Around)(outer:List Env)(s:Shared)(H:Hp):Prop where
 frames:A.frames=some outer
 mod:Mod K mg base
 bs:∀b o,base.get? b=some o->s.heap.get? b=some o/\H b=none
 bsz:base.objs.size<=s.heap.objs.size
 funs:s.heap.FunFrames base outer
 frf:∀b∈frs outer,H b=none
 hok:HOk P w H s.heap
 bare:AllBare s.gens
def CE (outer:List Env)(P:Program)(w:World)(H:Hp)(s:Shared)(Q:VK)(u:Value)(s':Shared):Prop :=
 ∃v H',s'.os=s.os/\AllBare s'.gens/\Un (frs outer) [] H H' s.heap s'.heap/\HOk P w H' s'.heap/\RelV v u/\Q v H'
def CR (CX:CXT)(outer:List Env)(P:Program)(w:World)(H:Hp)(s:Shared)(Q:VK)(E:XK)(r:Result)(s':Shared):Prop :=
 match r with
 | .ok (.ret u)=>CE outer P w H s Q u s'
 | .ok _=>False
 | .error e=>CX outer H s E e s'
structure FnOk (P:Program)(w:World)(K:PySem.W.Frag)(mg:Str->Option Value)(base:Heap)(CX:CXT)(k:Nat)(f:Addr)(fd:FuncData)(ps:List Str)(sp:Sp):Prop where
 len:∀vs H Q E,sp vs H Q E->vs.length=ps.length
 run:∀ (A:Around) (outer:List Env) (s:Shared) (H:Hp) (args:Args) (us:List Value) (vs:List V) (Q:VK) (E:XK),Room k A->Env0 P w K mg base A outer s H->BindsTo s fd args (ps.zip us)->Vals vs us->sp vs H Q E ->
  codeAny (model P w) A (.call (.ref f) args) (CR CX outer P w H s Q E) s
theorem Env0.make {P:Program}{w:World}{K:PySem.W.Frag}{mg:Str->Option Value}{base:Heap}{A:Around}{outer:List Env}{s:Shared}{H:Hp}(e:Env0 P w K mg base A outer s H)(C:Addr)(us:List Value)(kw:List (Str×Value)):
  Env0 P w K mg base (A.under (.builtin "type.__call__" ⟨.ref C::us,kw⟩)) outer s H:=⟨by first | exact e.frames | (simpa [Around.under,Code.envs,Code.isFrame,pushEnvs] using e.frames),e.mod,e.bs,e.bsz,e.funs,e.frf,e.hok,e.bare⟩
section
variable {X:Cx}{pins:List (Addr×Obj)}{σ:St}{H:Hp}{s s':Shared}
theorem Inv.env0 (I:Inv X pins σ H s):Env0 X.prog X.w X.K X.mg X.base X.A X.stack s H :=
 ⟨I.ok.frames,I.ok.mod,I.bs,Nat.le_trans I.ok.bsz I.sz,I.stack,I.stkFree,I.hok,I.bare⟩
theorem Inv.after {Q:VK}{u:Value}(I:Inv X pins σ H s)(h:CE X.stack X.prog X.w H s Q u s'):EP X pins σ Q u s':=by
 obtain ⟨v,H',os,bare,un,hok,r,q⟩:=h
 obtain ⟨hh,g,d,t,os'⟩:=s'
 obtain rfl:os'=s.os:=os
 exact ⟨v,H',I.call (h':=hh) (g':=g) (d':=d) (t':=t) (ch:=[]) un hok bare (fun b z=>absurd z (by simp)),r,q⟩
end
def zgR (sp:Sp)(dvs:List V)(E:XK)(t:TA):TE:=fun σ H Q=>t σ H fun vs H1=>sp (vs++dvs) H1 Q E
def Binds (K:PySem.W.Frag)(fd:FuncData)(ps:List Str)(ds:List Value):Prop :=
 ∀ (s:Shared) (us:List Value),K.In s.heap->(us++ds).length=ps.length->BindsTo s fd ⟨us,[]⟩ (ps.zip (us++ds))
theorem Binds.all {K:PySem.W.Frag}{fd:FuncData}{ps:List Str}(h:∀us:List Value,us.length=ps.length->bindArgs fd ⟨us,[]⟩=pure (ps.zip us)):Binds K fd ps []:=fun s us _ hl=>by
 rw[List.append_nil] at hl ⊢
 exact .of_eq (h us hl)
def qu (CX:CXT)(X:Cx)(E:XK):Prop:=∀ (pins:List (Addr×Obj)) (σ:St) (H:Hp) (s:Shared) (e:Value) (s':Shared),Inv X pins σ H s->CX X.stack H s E e s'->X.xe e s'
section
variable {X:Cx}{CX:CXT}{k:Nat}{f:Addr}{fd:FuncData}{ps:List Str}{sp:Sp}{dvs:List V}{ds:List Value}{E:XK}{x:Str}{p pos:Pos}{e:Expr}{es:List Expr}{t:TA}
theorem zfC {pins:List (Addr×Obj)}{σ:St}{H:Hp}{s:Shared}{Q:VK}{us:List Value}{vs:List V}(F:FnOk X.prog X.w X.K X.mg X.base CX k f fd ps sp)(hr:Room k X.A)(hb:Binds X.K fd ps ds)(hd:Vals dvs ds)(hx:qu CX X E)
  (I:Inv X pins σ H s) (r:Vals vs us) (h:sp (vs++dvs) H Q E):wpAny (model X.prog X.w) X.A (call (.ref f) us) (EP X pins σ Q) X.xe s:=by
 have r2:Vals (vs++dvs) (us++ds):=r.append hd
 have hl:(us++ds).length=ps.length:=by rw[<- r2.length];exact F.len _ _ _ _ h
 refine wpAny_call (codeAny_mono (F.run X.A X.stack s H ⟨us,[]⟩ (us++ds) (vs++dvs) Q E hr I.env0 (hb s us I.kIn hl) r2 h) fun r s' hq=>?_)
 cases r with
 | error e=>exact hx pins σ H s e s' I hq
 | ok fl =>
  cases fl with
  | ret u=>exact I.after hq
  | next=>exact False.elim hq
  | brk=>exact False.elim hq
  | cont=>exact False.elim hq
theorem zdY (F:FnOk X.prog X.w X.K X.mg X.base CX k f fd ps sp)(hr:Room k X.A)(hg:Gl X x)(hm:X.mg x=some (.ref f))(hk:PySem.W.keepIn X.K (.ref f)=true)(hb:Binds X.K fd ps ds)(hd:Vals dvs ds)(hx:qu CX X E)
  (ha:PA X (e::es) t) (hdb:(x == ("__debug__" : Str))=false:=by decide) (he:starEach (e::es) X.env=(false,eval e X.env)::starEach es X.env:=by rfl) (hpl:(backTo pos (starEach es X.env)).any (·.1)=false:=by rfl) :
  PE X (.Call (.Name x p) (e::es) [] pos) (zgR sp dvs E t):=by
 intro pins s σ H Q I h
 refine wpAny_Call_Name_kw (v8 I hg hm ?_ hdb)
 refine PySem.W.callWith_K (h₀:=X.base) I.ok.mod.kin hk (thn (ha pos pins s σ H _ I h) fun us s1 ⟨vs,H1,I1,r,q⟩=>⟨I1.kIn,?_⟩) he hpl
 exact zfC F hr hb hd hx I1 r q
end
def PK (X:Cx)(kws:List Keyword)(t:TA):Prop :=
 ∀ (pos:Pos) (pins:List (Addr×Obj)) (s:Shared) (σ:St) (H:Hp) (Q:List V->Hp->Prop),Inv X pins σ H s->t σ H Q->wpAny (model X.prog X.w) X.A (evalAll ((backToKw pos (keywordEach kws X.env)).map (·.2))) (AP X pins σ Q) X.xe s
section
variable {X:Cx}{x:Str}{pos kpos:Pos}{e:Expr}{kws:List Keyword}{te:TE}{t:TA}{nm:Option Str}
theorem zfD:PK X [] zb8:=fun _ _ _ _ H Q I h=>wpAny_evalAll_nil ⟨[],H,I,.nil,h⟩
theorem zdZ (ha:PE X e te)(hr:PK X kws t):PK X (⟨nm,e,kpos⟩::kws) (jr te t):=by
 intro pos pins s σ H Q I h
 show wpAny _ _ (evalAll ((do let v <- eval e X.env;standAt pos;pure v)::(backToKw pos (keywordEach kws X.env)).map (·.2))) _ _ s
 refine wpAny_evalAll_cons (wpAny_bind (thn (ha pins s σ H _ I h) fun u s1 ⟨x,H1,I1,r1,q1⟩=>wpAny_bind (wpAny_standAt (wpAny_pure ?_))))
 exact thn (hr pos pins s1 σ H1 _ I1 q1) fun us s2 ⟨xs,H2,I2,r2,q2⟩=>⟨x::xs,H2,I2,.cons r1 r2,q2⟩
end
structure FnScope (N P:List Str)(sc:Scope):Prop where
 kind:sc.kind=.function
 co:sc.isCoroutine=false
 gen:sc.isGenerator=false
 nd:N.Nodup
 pre:N.take P.length=P
 par:∀x∈P,sc.names.lookup x=some .local\/sc.names.lookup x=some .cell
 nofree:∀y∈sc.names,y.2≠.free
theorem js {kindOf:Str->Option NameKind}{x:Str}:∀ {binds:List (Str×Value)}{m:Str->Option Value},(∀v,(x,v)∉binds)->bindL kindOf binds m x=m x
 | [],_,_=>rfl
 | (n,v)::r,m,h=>by
  unfold bindL
  rw[js fun w hw=>h w (List.mem_cons_of_mem _ hw)]
  split
  .have:x≠n:=by rintro rfl;exact h v List.mem_cons_self
   simp[this]
  .rfl
theorem jt {kindOf:Str->Option NameKind}{x:Str}:∀ {binds:List (Str×Value)}{m:Str->Option Value},(∀v,(x,v)∉binds)->bindC kindOf binds m x=m x
 | [],_,_=>rfl
 | (n,v)::r,m,h=>by
  unfold bindC
  rw[jt fun w hw=>h w (List.mem_cons_of_mem _ hw)]
  split
  .rfl
  .have:x≠n:=by rintro rfl;exact h v List.mem_cons_self
   simp[this]
theorem ju {kindOf:Str->Option NameKind}{x:Str}{v:Value}:∀ {P:List Str}{vs:List Value}{i:Nat}{m:Str->Option Value},P.Nodup->P[i]?=some x->vs[i]?=some v->kindOf x=some .local ->
  bindL kindOf (P.zip vs) m x=some v
 | [],_,_,_,_,h,_,_=>by simp at h
 | _::_,[],_,_,_,_,h,_=>by simp at h
 | p::P,w::vs,0,m,nd,h1,h2,hk=>by
  simp at h1 h2;subst h1;subst h2
  show bindL kindOf ((p,w)::P.zip vs) m p=_
  unfold bindL
  rw[js fun v hv=>(List.nodup_cons.mp nd).1 (List.of_mem_zip hv).1,if_pos hk]
  simp
 | p::P,w::vs,i+1,m,nd,h1,h2,hk=>by
  show bindL kindOf ((p,w)::P.zip vs) m x=_
  unfold bindL
  exact ju (i:=i) (List.nodup_cons.mp nd).2 (by simpa using h1) (by simpa using h2) hk
theorem jv {kindOf:Str->Option NameKind}{x:Str}{v:Value}:∀ {P:List Str}{vs:List Value}{i:Nat}{m:Str->Option Value},P.Nodup->P[i]?=some x->vs[i]?=some v->kindOf x≠some .local ->
  bindC kindOf (P.zip vs) m x=some v
 | [],_,_,_,_,h,_,_=>by simp at h
 | _::_,[],_,_,_,_,h,_=>by simp at h
 | p::P,w::vs,0,m,nd,h1,h2,hk=>by
  simp at h1 h2;subst h1;subst h2
  show bindC kindOf ((p,w)::P.zip vs) m p=_
  unfold bindC
  rw[jt fun v hv=>(List.nodup_cons.mp nd).1 (List.of_mem_zip hv).1,if_neg hk]
  simp
 | p::P,w::vs,i+1,m,nd,h1,h2,hk=>by
  show bindC kindOf ((p,w)::P.zip vs) m x=_
  unfold bindC
  exact jv (i:=i) (List.nodup_cons.mp nd).2 (by simpa using h1) (by simpa using h2) hk
noncomputable def start (N:List Str)(vs:List V):St:=vs.map some++List.replicate (N.length - vs.length) none
noncomputable def wQ (CX:CXT)(P:Program)(w:World)(K:PySem.W.Frag)(mg:Str->Option Value)(base:Heap)(N:List Str)(qual:Str)(scope:Scope)(f:Addr)(cd:Value)(A:Around)(outer:List Env)(s:Shared)(H:Hp)(E:XK):Cx where
 prog:=P
 w:=w
 K:=K
 mg:=mg
 base:=base
 A:=A.deeper (envOfC qual scope s.heap.objs.size f cd)
 N:=N
 s₀:=s
 H₀:=H
 env:=envOfC qual scope s.heap.objs.size f cd
 outer:=outer
 stack:=envOfC qual scope s.heap.objs.size f cd::outer
 ex:=[]
 calm:=true
 fn:=fun _=>true
 pn:=[]
 xe:=fun e s'=>wpAny (model P w) (A.deeper (envOfC qual scope s.heap.objs.size f cd)) (leaving (envOfC qual scope s.heap.objs.size f cd) e) (fun _ s''=>CX outer H s E e s'') (fun e' s''=>CX outer H s E e' s'') s'
theorem gA {sc:Scope}{n:Nat}{x:Str}(h:sc.names.lookup x=some .cell):∃c,(cellsFrom n sc.names []).lookup x=some c:=by
 have q:=PySem.W.cellsFrom_some sc.names n [] (.inl h)
 exact Option.isSome_iff_exists.mp q
theorem jw {CX:CXT}{P:Program}{w:World}{K:PySem.W.Frag}{mg:Str->Option Value}{base:Heap}{N ps:List Str}{qual:Str}{scope:Scope}{f:Addr}{cd:Value}{A:Around}{outer:List Env}{s s1:Shared}{H:Hp}{E:XK}{us:List Value}{vs:List V}
  (S:FnScope N ps scope) (hd:A.handled=none) (e0:Env0 P w K mg base A outer s H) (hl:vs.length=ps.length) (r:Vals vs us)
  (x:InCallC s s.heap.objs.size (bindL (envOfC qual scope s.heap.objs.size f cd).kindOf (ps.zip us) fun _=>none) (cellsFrom (s.heap.objs.size+1) scope.names []) (bindC (envOfC qual scope s.heap.objs.size f cd).kindOf (ps.zip us) fun _=>none) s1) :
  Inv (wQ CX P w K mg base N qual scope f cd A outer s H E) [] (start N vs) H s1:=by
 have hpl:ps.length<=N.length:=by have:=congrArg List.length S.pre;rw[List.length_take] at this;lia
 obtain ⟨h1,tk,rfl,hk⟩:=x.done
 have noA:∀b:Addr,b∉(wQ CX P w K mg base N qual scope f cd A outer s H E).ex:=fun b z=>absurd (show b∈([]:List Addr) from z) (by simp)
 refine ⟨⟨e0.mod,S.kind,rfl,rfl,Nat.le_refl _,fun y z c h1 h2=>?_,fun y hy=>?_,fun y c _ h=>?_,fun _=>hd,Around.frames_deeper e0.frames,.inr ⟨rfl,rfl⟩,fun b z=>absurd z (noA b),e0.bs,e0.bsz,fun b _ _=>noA b,fun b z=>absurd z (noA b),e0.funs,e0.frf⟩,
  rfl,e0.bare,Un.kept hk,⟨_,x.toInCall.ns,fun i y v h1 h2 h3=>?_⟩,fun y c h=>⟨_,x.cell y c h⟩,e0.hok.fresh (Nat.le_refl _),fun y c h=>?_,fun p hp=>absurd (show p∈([]:List (Addr×Obj)) from hp) (by simp),e0.hok.kept hk,?_⟩
 .exact name_of_addr x.apart (PySem.mem_of_lookup h1) (PySem.mem_of_lookup h2)
 .have hy:scope.names.lookup y=some .cell\/scope.names.lookup y=some .free:=hy
  rcases hy with hy | hy
  .exact gA hy
  .exact absurd rfl (S.nofree _ (PySem.mem_of_lookup hy))
 .exact Nat.le_of_lt (x.above y c (PySem.mem_of_lookup h))
 .have hi:i < vs.length:=by
   unfold start at h2
   by_cases hi:i < vs.length
   .exact hi
   .rw[List.getElem?_append_right (by simpa using hi)] at h2
    rw[List.getElem?_replicate] at h2
    split at h2 <;> cases h2
  have ha:vs[i]?=some v:=by
   unfold start at h2
   rw[List.getElem?_append_left (by simpa using hi),List.getElem?_map] at h2
   cases e:vs[i]? with
   | none=>rw[e] at h2;cases h2
   | some a=>rw[e] at h2;cases h2;rfl
  obtain ⟨u,hu,rv⟩:=r.get ha
  have hp:ps[i]?=some y:=by
   rw[<- S.pre,List.getElem?_take_of_lt (by lia)];exact h1
  have ndP:ps.Nodup:=by rw[<- S.pre];exact S.nd.sublist (List.take_sublist _ _)
  refine ⟨u,rv,?_⟩
  rcases S.par y (List.mem_of_getElem? hp) with k | k
  .exact .inl ⟨k,ju ndP hp hu k⟩
  .obtain ⟨c,e⟩:=gA (n:=s.heap.objs.size+1) k
   refine .inr ⟨.inl k,c,e,?_⟩
   have q:=x.cell y c e
   rw[jv ndP hp hu (by show scope.names.lookup y≠_;rw[k];decide)] at q
   exact q
 .exact e0.hok.fresh (Nat.le_of_lt (x.above y c (PySem.mem_of_lookup h)))
 .unfold start
  show _=N.length
  rw[List.length_append,List.length_map,List.length_replicate]
  lia
theorem ze8 {CX:CXT}{P:Program}{w:World}{K:PySem.W.Frag}{mg:Str->Option Value}{base:Heap}{k:Nat}{f:Addr}{name qual:Str}{params:Arguments}{body:List Stmt}{scope:Scope}{dV kV doc pm cdv ct oc:Value}{an od:Option Addr}
  {osl:Array (Option Value)}{N ps:List Str}{sp:Sp}(lk:K.lookup f=some ⟨oc,od,.func (PySem.W.fnOf name qual params body scope dV kV doc pm an cdv ct),osl⟩) (hcd:PySem.W.codeIn K cdv qual=true) (S:FnScope N ps scope)
  (len:∀vs H Q E,sp vs H Q E->vs.length=ps.length)
  (hbody:∀ (A:Around) (outer:List Env) (s:Shared) (H:Hp) (vs:List V) (Q:VK) (E:XK),Room k (A.deeper (envOfC qual scope s.heap.objs.size f cdv))->sp vs H Q E ->
   ∃t,PSs (wQ CX P w K mg base N qual scope f cdv A outer s H E) body t/\t { nx:=fun _ H'=>Q .non H',rt:=Q } (start N vs) H) :
  FnOk P w K mg base CX (k+1) f (PySem.W.fnOf name qual params body scope dV kV doc pm an cdv ct) ps sp:=by
 refine ⟨len,fun A outer s H args us vs Q E hr e0 hb r hsp=>?_⟩
 have hl:=len _ _ _ _ hsp
 have KX:K.In s.heap:=e0.mod.kin.keeps fun b o e=>(e0.bs b o e).1
 have lim:s.heap.NoLimit:=e0.mod.nolimit.keeps fun b o e=>(e0.bs b o e).1
 have hkind:∀y∈ps.zip us,scope.names.lookup y.1=some .local\/(scope.names.lookup y.1=some .cell/\((cellsFrom (s.heap.objs.size+1) scope.names []).lookup y.1).isSome=true):=fun ⟨n,v⟩ hy=>by
  rcases S.par n (List.of_mem_zip hy).1 with q | q
  .exact .inl q
  .exact .inr ⟨q,PySem.W.cellsFrom_some _ _ _ (.inl q)⟩
 refine codeAny_call_function hr.depth (KX _ _ lk) rfl S.co S.gen rfl (PySem.W.codeRec_of KX hcd) (hb _ _ _ _ ?_)
 refine wpAny_newFunctionEnv_cells S.kind hkind fun env he s1 x=>?_
 subst he
 refine ⟨lim.keeps x.toInCall.keep,codeAny_func ?_⟩
 obtain ⟨t,ht,hq⟩:=hbody A outer s H vs Q E (hr.deeper _) hsp
 have I:Inv (wQ CX P w K mg base N qual scope f cdv A outer s H E) [] (start N vs) H s1:=jw S hr.hd e0 hl r x
 refine wpAny_mono (ht [] s1 (start N vs) H _ I hq) (fun fl s' hs=>?_) fun e s' hs=>hs
 have fin:∀ {σ':St}{H':Hp}{v:V}{u:Value},Inv (wQ CX P w K mg base N qual scope f cdv A outer s H E) [] σ' H' s'->RelV v u->Q v H'->CE outer P w H s Q u s' :=
  fun {σ' H' v u} J rv q=>⟨v,H',J.os,J.bare,J.base,J.hok,rv,q⟩
 cases fl with
 | ret u =>
  obtain ⟨v,σ',H',J,rv,q⟩:=hs
  exact fin J rv q
 | next =>
  obtain ⟨σ',H',J,q⟩:=hs
  exact fin (v:=V.non) (u:=Value.none) J rfl q
 | brk =>
  obtain ⟨_,_,_,q⟩:=hs
  exact False.elim q
 | cont =>
  obtain ⟨_,_,_,q⟩:=hs
  exact False.elim q
section
variable {X:Cx}{x:Str}{p pos:Pos}{e:Expr}{es:List Expr}{t:TA}{id T:String}{r:List V->Hp->VK->Prop}
def tCB (r:List V->Hp->VK->Prop)(t:TA):TE:=fun σ H Q=>t σ H fun vs H1=>r vs H1 Q
theorem yM (hc:CallR X (.builtin id) r)(hg:Gl X x)(hm:X.mg x=none)(hv:bootBuiltins x=some (.builtin id))(ha:PA X (e::es) t)(hn:x ≠ "__name__" := by decide)(hdb:(x == ("__debug__" : Str))=false:=by decide)
  (he:starEach (e::es) X.env=(false,eval e X.env)::starEach es X.env:=by rfl) (hpl:(backTo pos (starEach es X.env)).any (·.1)=false:=by rfl):PE X (.Call (.Name x p) (e::es) [] pos) (tCB r t):=by
 intro pins s σ H Q I h
 refine wpAny_Call_Name_kw (xx I hg hm hv ?_ hn hdb)
 exact PyProof.Rows.callWith_builtin1 (thn (ha pos pins s σ H _ I h) fun us s1 ⟨vs,H1,I1,r1,q1⟩=>hc pins s1 σ H1 vs us Q I1 r1 q1) he hpl
theorem vx (hc:CallR X (.type T) r)(hg:Gl X x)(hm:X.mg x=none)(hv:bootBuiltins x=some (.type T))(ha:PA X (e::es) t)(hn:x ≠ "__name__" := by decide)(hdb:(x == ("__debug__" : Str))=false:=by decide)
  (he:starEach (e::es) X.env=(false,eval e X.env)::starEach es X.env:=by rfl) (hpl:(backTo pos (starEach es X.env)).any (·.1)=false:=by rfl):PE X (.Call (.Name x p) (e::es) [] pos) (tCB r t):=by
 intro pins s σ H Q I h
 refine wpAny_Call_Name_kw (xx I hg hm hv ?_ hn hdb)
 exact PyProof.Rows.callWith_type1 (thn (ha pos pins s σ H _ I h) fun us s1 ⟨vs,H1,I1,r1,q1⟩=>hc pins s1 σ H1 vs us Q I1 r1 q1) he hpl
end
end L2
namespace HT
open PySem PyProof.Rows
section
variable {prog:Program}{w:World}{A:Around}{E:Value->Shared->Prop}{s:Shared}
theorem cat_tup {t b:Addr}{vs ws:List Value}{Q:Value->Shared->Prop}(ht:IsTup s.heap t vs.toArray)(hb:IsTup s.heap b ws.toArray)(hv:vs≠[])
  (h1:ws=[]->Q (.ref t) s) (h2:ws≠[]->Q (.ref s.heap.objs.size) { s with heap:=s.heap.push { cls:=.type "tuple",data:=.seq (vs++ws).toArray } })
  (hsz:vs.length+ws.length<=sizeLine):wpAny (model prog w) A (binaryOp .Add (.ref t) (.ref b)) Q E s:=by
 obtain ⟨⟨cls,dd,data,sl⟩,ho,hc,n,hd⟩:=id ht
 obtain ⟨⟨cls2,dd2,data2,sl2⟩,ho2,hc2,n2,hd2⟩:=id hb
 simp only at hc hd hc2 hd2
 subst hc hd hc2 hd2
 have e:vs.toArray++ws.toArray=(vs++ws).toArray:=by simp
 by_cases hw:ws=[]
 .exact concat_meets ⟨_,ho,rfl⟩ ⟨_,ho2,rfl⟩ noFill_tuple_add seq_tuple_add PySem.F.slot_tuple_add PySem.F.entry_tuple_add (PySem.F.args_tuple_add_2 _ _)
   (tuple_addW1 t b vs.toArray ws.toArray n n2 dd dd2 sl sl2 (by simpa using hv) (by simp[hw])) ⟨ho,ho2,h1 hw⟩
 .refine concat_meets ⟨_,ho,rfl⟩ ⟨_,ho2,rfl⟩ noFill_tuple_add seq_tuple_add PySem.F.slot_tuple_add PySem.F.entry_tuple_add (PySem.F.args_tuple_add_2 _ _)
   (tuple_addW2 t b vs.toArray ws.toArray n n2 dd dd2 sl sl2 (by simpa using hv) (by simpa using hw) (by rw[List.size_toArray,List.size_toArray];exact hsz)) ⟨ho,ho2,?_⟩
  rw[e]
  exact h2 hw
noncomputable def sIx (n d:Nat):Option Int->Nat
 | none=>d
 | some v=>if v < 0 then (v+(n:Int)).toNat else min v.toNat n
end
end HT
namespace L2
open PySem PySem.Spec PyProof.Rows
abbrev TO:=St->Hp->(Option Int->Hp->Prop)->Prop
def PO (X:Cx)(e:Option Expr)(t:TO):Prop :=
 ∀ (pins:List (Addr×Obj)) (s:Shared) (σ:St) (H:Hp) (Q:Option Int->Hp->Prop),Inv X pins σ H s->t σ H Q ->
  wpAny (model X.prog X.w) X.A (evalPart e X.env) (fun u s'=>∃o H',Inv X pins σ H' s'/\IsPart u o/\Q o H') X.xe s
def zd0:TO:=fun _ H Q=>Q none H
def zgS (t:TE):TO:=fun σ H Q=>t σ H fun x H1=>∃i,x=.int i/\Q (some i) H1
section
variable {X:Cx}{e:Expr}{te:TE}{lo hi:Option Expr}{tl th:TO}{pos p2:Pos}
theorem zd1:PO X none zd0:=by
 intro pins s σ H Q I h
 rw[evalPart_none]
 exact wpAny_pure ⟨none,H,I,.none,h⟩
theorem zd2 (h:PE X e te):PO X (some e) (zgS te):=by
 intro pins s σ H Q I hw
 rw[evalPart_some]
 refine thn (h pins s σ H _ I hw) fun u s1 ⟨x,H1,I1,r1,q1⟩=>?_
 obtain ⟨i,rfl,q⟩:=q1
 obtain ⟨t,rfl⟩:=r1
 exact ⟨some i,H1,I1,.int i t,q⟩
def SlR (X:Cx)(r:V->Option Int->Option Int->Hp->VK->Prop):Prop :=
 ∀ (pins:List (Addr×Obj)) (s:Shared) (σ:St) (H:Hp) (x:V) (v vl vu:Value) (lo hi:Option Int) (sl:Addr) (Q:VK),Inv X pins σ H s->RelV x v->s.heap.IsSliceOf sl vl vu .none->IsPart vl lo->IsPart vu hi->r x lo hi H Q ->
  ∃T id,typeLookup (.type T) "__getitem__" = pure (some (.builtin id))/\s.TypeIs v T/\wpAny (model X.prog X.w) X.A (getItem v (.ref sl)) (EP X pins σ Q) X.xe s
def tSl (r:V->Option Int->Option Int->Hp->VK->Prop)(te:TE)(tl th:TO):TE:=fun σ H Q=>te σ H fun x H1=>tl σ H1 fun l H2=>th σ H2 fun u H3=>r x l u H3 Q
theorem zb9 {r:V->Option Int->Option Int->Hp->VK->Prop}(hr:SlR X r)(he:PE X e te)(hl:PO X lo tl)(hu:PO X hi th):PE X (.Subscript e (.Slice lo hi none p2) pos) (tSl r te tl th):=by
 intro pins s σ H Q I h
 refine Subscript_ (thn (he pins s σ H _ I h) fun v s1 ⟨x,H1,I1,r1,q1⟩=>?_)
 refine wpAny_Slice (thn (hl pins s1 σ H1 _ I1 q1) fun vl s2 ⟨l,H2,I2,pl,q2⟩=>thn (hu pins s2 σ H2 _ I2 q2) fun vu s3 ⟨u,H3,I3,pu,q3⟩=>?_)
 rw[evalPart_none]
 refine wpAny_pure ?_
 have I4:Inv X pins σ H3 { s3 with heap:=s3.heap.push { cls:=.type "slice",data:=.fields #[vl,vu,.none] } }:=I3.kept (t':=s3.toks) fun b ob q=>Heap.get?_push_of_some _ q
 obtain ⟨T,id,hT,ht,hg⟩:=hr pins { s3 with heap:=s3.heap.push { cls:=.type "slice",data:=.fields #[vl,vu,.none] } } σ H3 x v vl vu l u s3.heap.objs.size Q I4 r1 (Heap.IsSliceOf.new ..) pl pu q3
 show wpAny (model X.prog X.w) X.A (subscriptTail e (.Slice lo hi none p2) v (.ref s3.heap.objs.size)) (EP X pins σ Q) X.xe { s3 with heap:=s3.heap.push { cls:=.type "slice",data:=.fields #[vl,vu,.none] } }
 exact tail_any (ops:=[.ref s3.heap.objs.size,v]) ht hT hg (by with_unfolding_all rfl)
noncomputable def za4 (xs:List V)(lo hi:Option Int):List V:=(xs.drop (HT.sIx xs.length 0 lo)).take (HT.sIx xs.length xs.length hi - HT.sIx xs.length 0 lo)
theorem gB (xs:List V)(lo hi:Option Int):(za4 xs lo hi).length<=xs.length:=by
 unfold za4
 rw[List.length_take,List.length_drop]
 lia
def ze9 (K:PySem.W.Frag):R2:=fun x y H Q=>∃a b xs ys,x=.ref a/\y=.ref b/\SqT K H a xs/\SqT K H b ys/\xs≠[]/\xs.length+ys.length<=sizeLine /\
 (ys=[]->Q (.ref a) H)/\(ys≠[]->∀p,H p=none->Q (.ref p) (upd H p (.tup (xs++ys))))
theorem Vals.nil_iff {xs:List V}{us:List Value}(r:Vals xs us):us=[]↔xs=[]:=by
 cases r with
 | nil=>simp
 | cons _ _=>simp
theorem zd3:OpR X (binaryOp .Add) (ze9 X.K):=by
 intro pins s σ H x y v u Q I rx ry h
 obtain ⟨a,b,xs,ys,rfl,rfl,ha,hb,hx,hz,q1,q2⟩:=h
 cases rx
 cases ry
 obtain ⟨its,r1,p1,_⟩:=I.tuple ha
 obtain ⟨its2,r2,p2,_⟩:=I.tuple hb
 refine HT.cat_tup p1 p2 (fun z=>hx (r1.nil_iff.mp z)) (fun z=>⟨.ref a,H,I,rfl,q1 (r2.nil_iff.mp z)⟩) (fun z=>?_) (by rw[<- r1.length,<- r2.length];exact hz)
 refine ⟨.ref s.heap.objs.size,_,I.laid (t':=s.toks) (o:=.tup (xs++ys)) (fun b ob q=>Heap.get?_push_of_some _ q) (Nat.le_refl _) ?_,rfl,q2 (fun w=>z (r2.nil_iff.mpr w)) _ (I.hok.fresh (Nat.le_refl _))⟩
 exact ⟨by rw[List.length_append];exact hz,_,r1.append r2,IsTup.new _ _⟩
end
noncomputable def ixN (n:Nat)(i:Int):Option Nat:=if 0<=i then (if i < n then some i.toNat else none) else if -(n:Int)<=i then some (i+n).toNat else none
noncomputable def atI {α:Type}(xs:List α)(i:Int):Option α:=(ixN xs.length i).bind fun j=>xs[j]?
theorem zal {n:Nat}{i:Int}{j:Nat}(h:ixN n i=some j):seqIndex? i n=some j/\j < n/\-(n:Int)<=i/\i < n:=by
 unfold ixN at h
 by_cases h0:0<=i
 .rw[if_pos h0] at h
  by_cases h1:i < n
  .rw[if_pos h1] at h
   have e:i.toNat=j:=Option.some.inj h
   exact ⟨by rw[seqIndex_of h0 h1,e],by lia,by lia,h1⟩
  .rw[if_neg h1] at h;cases h
 .rw[if_neg h0] at h
  by_cases h1:-(n:Int)<=i
  .rw[if_pos h1] at h
   have e:(i+n).toNat=j:=Option.some.inj h
   exact ⟨by rw[seqIndex_neg (by lia) h1,e],by lia,h1,by lia⟩
  .rw[if_neg h1] at h;cases h
theorem jP {α:Type}{xs:List α}{i:Int}{v:α}(h:atI xs i=some v):∃j,seqIndex? i xs.length=some j/\xs[j]?=some v/\j < xs.length/\-(xs.length:Int)<=i/\i < xs.length:=by
 unfold atI at h
 cases e:ixN xs.length i with
 | none=>rw[e] at h;cases h
 | some j =>
  rw[e] at h
  obtain ⟨h1,h2,h3,h4⟩:=zal e
  exact ⟨j,h1,h,h2,h3,h4⟩
def zam (b:Expr):Prop:=∀o i,subscripted b false o i=operate [o,i] (getItem o i)
def IxR (X:Cx)(r:R2):Prop :=
 ∀ (value slice:Expr) (pins:List (Addr×Obj)) (s:Shared) (σ:St) (H:Hp) (x y:V) (v u:Value) (Q:VK),Inv X pins σ H s->RelV x v->RelV y u->r x y H Q ->
  subscripted slice false v u=operate [v,u] (getItem v u)->wpAny (model X.prog X.w) X.A (subscriptTail value slice v u) (EP X pins σ Q) X.xe s
def MtR (X:Cx)(id:String)(r:V->List V->Hp->VK->Prop):Prop :=
 ∀ (pins:List (Addr×Obj)) (s:Shared) (σ:St) (H:Hp) (x:V) (xs:List V) (v:Value) (us:List Value) (Q:VK),Inv X pins σ H s->RelV x v->Vals xs us->r x xs H Q ->
  wpAny (model X.prog X.w) X.A (call (.builtin id) (v::us)) (EP X pins σ Q) X.xe s
section
variable {X:Cx}{a b:Expr}{ta tb:TE}{pos:Pos}
theorem IxR.or {r r':R2}(h:IxR X r)(h':IxR X r'):IxR X (fun x y H Q=>r x y H Q\/r' x y H Q):=by
 intro value slice pins s σ H x y v u Q I rx ry q hs
 rcases q with q | q
 .exact h value slice pins s σ H x y v u Q I rx ry q hs
 .exact h' value slice pins s σ H x y v u Q I rx ry q hs
theorem zgT {r:R2}(hr:IxR X r)(ha:PE X a ta)(hb:PE X b tb)(hs:zam b):PE X (.Subscript a b pos) (tOp r ta tb):=by
 intro pins s σ H Q I h
 exact Subscript_ (zfv ha hb I h fun v u s2 x y H2 I2 rx ry q=>hr a b pins s2 σ H2 x y v u Q I2 rx ry q (hs _ _))
def zgU (K:PySem.W.Frag):R2:=fun x y H Q=>∃p xs i v,x=.ref p/\y=.int i/\SqL K H p xs/\atI xs i=some v/\Q v H
def zgV (K:PySem.W.Frag):R2:=fun x y H Q=>∃p xs i v,x=.ref p/\y=.int i/\SqT K H p xs/\atI xs i=some v/\Q v H
def zgW:R2:=fun x y H Q=>∃z i c,x=.str z/\y=.int i/\z.length<=sizeLine/\atI z.cps.toList i=some c/\Q (.str ⟨#[c]⟩) H
theorem ix_list:IxR X (zgU X.K):=by
 intro value slice pins s σ H x y v u Q I rx ry h hs
 obtain ⟨p,xs,i,z,rfl,rfl,hq,he,q⟩:=h
 cases rx
 obtain ⟨t,rfl⟩:=ry
 obtain ⟨its,r,pl,hz⟩:=I.list hq
 obtain ⟨j,h1,h2,h3,h4,h5⟩:=jP he
 obtain ⟨w,ew,rw'⟩:=r.get h2
 have hl:=r.length
 have hn:=kE
 have fin:EP X pins σ Q w s:=⟨z,H,I,rw',q⟩
 by_cases h0:0<=i
 .have hj:i.toNat=j:=by
   rw[seqIndex_of h0 h5] at h1
   exact Option.some.inj h1
  exact item_listR pl.isList h0 (by lia) (by rw[hj];simpa using ew) fin hs
 .have hj:(i+(its.toArray.size:Int)).toNat=j:=by
   rw[seqIndex_neg (by lia) h4] at h1
   rw[List.size_toArray,<- hl]
   exact Option.some.inj h1
  exact subscriptTail_builtinR (x:=w) pl.isList.typeIs slot_list_getitem.lookup
   (wpAny_getItem_list_neg (Q:=fun r s'=>r=w/\EP X pins σ Q r s') pl.isList (by lia) (by rw[List.size_toArray] <;> lia) (by lia) (by rw[hj];simpa using ew) ⟨rfl,fin⟩) hs
theorem ix_tup:IxR X (zgV X.K):=by
 intro value slice pins s σ H x y v u Q I rx ry h hs
 obtain ⟨p,xs,i,z,rfl,rfl,hq,he,q⟩:=h
 cases rx
 obtain ⟨t,rfl⟩:=ry
 obtain ⟨its,r,pl,hz⟩:=I.tuple hq
 obtain ⟨j,h1,h2,h3,h4,h5⟩:=jP he
 obtain ⟨w,ew,rw'⟩:=r.get h2
 have hl:=r.length
 have hn:=kE
 have fin:EP X pins σ Q w s:=⟨z,H,I,rw',q⟩
 exact subscriptTail_builtinR (x:=w) pl.typeIs slot_tuple_getitem.lookup
  (getItem_tuple (j:=j) (Q:=fun r s'=>r=w/\EP X pins σ Q r s') pl (by lia) (by lia) (by rw[List.size_toArray,<- hl];exact h1) (by simpa using ew) ⟨rfl,fin⟩) hs
theorem zfE:IxR X zgW:=by
 intro value slice pins s σ H x y v u Q I rx ry h hs
 obtain ⟨z,i,c,rfl,rfl,hz,he,q⟩:=h
 obtain ⟨t,rfl⟩:=rx
 obtain ⟨t',rfl⟩:=ry
 obtain ⟨j,h1,h2,h3,h4,h5⟩:=jP he
 have hl:z.cps.toList.length=z.length:=by simp[Str.length]
 rw[hl] at h1 h4 h5
 have hn:=kE
 exact tail_any (typeIs_str s z t) slot_str_getitem.lookup (getItem_str (c:=c) (by
  have e1:decide (i < -(2 ^ 63:Int))=false:=decide_eq_false (by lia)
  have e2:decide (i ≥ 2 ^ 63)=false:=decide_eq_false (by lia)
  rw[e1,e2,Bool.or_false]) (by rw[h1];simpa using h2) ⟨.str ⟨#[c]⟩,H,I.tok _,⟨_,rfl⟩,q⟩) hs
def rIx (K:PySem.W.Frag):R2:=fun x y H Q=>zgU K x y H Q\/zgV K x y H Q\/zgW x y H Q
theorem zfF:IxR X (rIx X.K):=ix_list.or (ix_tup.or zfE)
theorem qw (its:List Value)(n j:Nat)(u:Value):Obj.mapSeq (·.setIfInBounds j u) { cls:=.type "list",data:=.seq its.toArray n }={ cls:=.type "list",data:=.seq (its.set j u).toArray n }:=by
 simp[Obj.mapSeq]
theorem Inv.lst {pins:List (Addr×Obj)}{σ:St}{H:Hp}{s:Shared}{p:Addr}{xs:List V}(I:Inv X pins σ H s)(h:H p=some (.lst xs)):
  ∃ (its:List Value) (n:Nat),Vals xs its/\s.heap.get? p=some { cls:=.type "list",data:=.seq its.toArray n }/\xs.length<=sizeLine:=by
 obtain ⟨z,its,n,r,e⟩:=I.hok p _ h
 exact ⟨its,n,r,e,z⟩
theorem Inv.lstUpd {pins:List (Addr×Obj)}{σ:St}{H:Hp}{s:Shared}{p:Addr}{xs ys:List V}{its its':List Value}{n n':Nat}{f:Obj->Obj}(I:Inv X pins σ H s)(h:H p=some (.lst xs))
  (ho:s.heap.get? p=some { cls:=.type "list",data:=.seq its.toArray n }) (hf:f { cls:=.type "list",data:=.seq its.toArray n }={ cls:=.type "list",data:=.seq its'.toArray n' }) (r:Vals ys its') (hz:ys.length<=sizeLine) (t:Nat) :
  Inv X pins σ (upd H p (.lst ys)) { s with heap:=s.heap.update p f,toks:=t }:=by
 have e:(s.heap.update p f).get? p=some { cls:=.type "list",data:=.seq its'.toArray n' }:=by
  rw[Heap.get?_update_self f ho (by rw[hf] <;> rfl),hf]
 refine I.write (x:=p) (e:=p) (by rw[h];trivial) (.inl rfl) (fun b u hb q=>(Heap.get?_update_other _ _ (Ne.symm hb)).trans q) ⟨_,e⟩ ?_
 exact ⟨hz,its',n',r,e⟩
def gC:V->V->V->Hp->(Hp->Prop)->Prop:=fun o i v H Q=>∃p xs k j,o=.ref p/\i=.int k/\H p=some (.lst xs)/\ixN xs.length k=some j/\Q (upd H p (.lst (xs.set j v)))
theorem kG:zgD X gC:=by
 intro pins s σ H o i v ov iv u Q I ro ri rv h
 obtain ⟨p,xs,k,j,rfl,rfl,hp,hj,q⟩:=h
 cases ro
 obtain ⟨t,rfl⟩:=ri
 obtain ⟨its,n,r,ho,hz⟩:=I.lst hp
 obtain ⟨h1,h2,h3,h4⟩:=zal hj
 have hl:=r.length
 have hn:=kE
 have I':Inv X pins σ (upd H p (.lst (xs.set j v))) { s with heap:=s.heap.update p (Obj.mapSeq (·.setIfInBounds j u)) } :=
  I.lstUpd hp ho (qw its n j u) (r.set rv j) (by rw[List.length_set];exact hz) s.toks
 by_cases h0:0<=k
 .have hk:k.toNat=j:=by
   rw[seqIndex_of h0 h4] at h1
   exact Option.some.inj h1
  exact PySem.W.ki_setAt ho h0 (by lia) (by rw[List.size_toArray,<- hl];exact h4) (by rw[hk];exact ⟨_,I',q⟩)
 .have hk:(k+(its.toArray.size:Int)).toNat=j:=by
   rw[seqIndex_neg (by lia) h3] at h1
   rw[List.size_toArray,<- hl]
   exact Option.some.inj h1
  exact PySem.W.ki_setBack ho (by lia) (by rw[List.size_toArray,<- hl];exact h3) (by lia) (by rw[hk];exact ⟨_,I',q⟩)
theorem jQ (lo hi:Option Int)(n:Nat):(sliceBounds lo hi none n).1=((HT.sIx n 0 lo:Nat):Int)/\(sliceBounds lo hi none n).2.1=((HT.sIx n n hi:Nat):Int)/\(sliceBounds lo hi none n).2.2=1:=by
 refine ⟨?_,?_,rfl⟩
 .cases lo with
  | none=>simp[sliceBounds,HT.sIx]
  | some i =>
   simp only[sliceBounds,HT.sIx,Option.getD_none,show (1:Int) > 0 by decide,if_true]
   by_cases h:i < 0
   .simp only[h,if_true] <;> lia
   .simp only[h,if_false] <;> lia
 .cases hi with
  | none=>simp[sliceBounds,HT.sIx]
  | some i =>
   simp only[sliceBounds,HT.sIx,Option.getD_none,show (1:Int) > 0 by decide,if_true]
   by_cases h:i < 0
   .simp only[h,if_true] <;> lia
   .simp only[h,if_false] <;> lia
theorem jk (its:List Value)(lo hi:Option Int):slicePick its.toArray lo hi none=((its.drop (HT.sIx its.length 0 lo)).take (HT.sIx its.length its.length hi - HT.sIx its.length 0 lo)).toArray:=by
 obtain ⟨h1,h2,h3⟩:=jQ lo hi its.toArray.size
 unfold slicePick
 rw[h1,h2,h3]
 simp only[sliceRange_one,pick_run,List.size_toArray] <;> rfl
def zgX (K:PySem.W.Frag):V->Option Int->Option Int->Hp->VK->Prop:=fun x lo hi H Q=>∃a xs,x=.ref a/\SqL K H a xs/\∀p,H p=none->Q (.ref p) (upd H p (.lst (za4 xs lo hi)))
theorem zd4:SlR X (zgX X.K):=by
 intro pins s σ H x v vl vu lo hi sl Q I rx hs pl pu h
 obtain ⟨a,xs,rfl,hx,q⟩:=h
 cases rx
 obtain ⟨its,r,ht,hz⟩:=I.list hx
 have hlen:=r.length
 refine ⟨"list",_,slot_list_getitem.lookup,ht.isList.typeIs,?_⟩
 refine wpAny_getItem_list_slice ht.isList hs pl pu .none (by simp) ?_ (by rw[List.size_toArray] <;> lia)
 rw[jk,<- hlen]
 refine ⟨.ref s.heap.objs.size,_,I.laid (t':=s.toks) (o:=.lst (za4 xs lo hi)) (fun b ob q=>Heap.get?_push_of_some _ q) (Nat.le_refl _) ?_,rfl,q _ (I.hok.fresh (Nat.le_refl _))⟩
 exact ⟨Nat.le_trans (gB xs lo hi) hz,_,0,(r.drop (HT.sIx xs.length 0 lo)).take (HT.sIx xs.length xs.length hi - HT.sIx xs.length 0 lo),Heap.get?_push_size _ rfl⟩
theorem jR:CallR X (.builtin "len") (fun xs H Q=>∃p ys,xs=[.ref p]/\(SqL X.K H p ys\/SqT X.K H p ys)/\Q (.int ys.length) H):=by
 intro pins s σ H xs us Q I r h
 obtain ⟨p,ys,rfl,hq,q⟩:=h
 obtain ⟨u,rfl,rx⟩:=jp r
 cases rx
 have hn:=kE
 rcases hq with hq | hq
 .obtain ⟨its,r',pl,hz⟩:=I.list hq
  have hlen:=r'.length
  exact Calls.call_len_list pl.isList (by simp only[List.size_toArray] <;> lia) ⟨.int ys.length,H,I.tok _,⟨s.toks+1,by rw[List.size_toArray,hlen]⟩,q⟩
 .obtain ⟨its,r',pl,hz⟩:=I.tuple hq
  have hlen:=r'.length
  exact len_tuple pl (by simp only[List.size_toArray] <;> lia) ⟨.int ys.length,H,I.tok _,⟨s.toks+1,by rw[List.size_toArray,hlen]⟩,q⟩
theorem jS:CallR X (.type "list") (fun xs H Q=>∃p ys,xs=[.ref p]/\(SqL X.K H p ys\/SqT X.K H p ys)/\∀l,H l=none->Q (.ref l) (upd H l (.lst ys))):=by
 intro pins s σ H xs us Q I r h
 obtain ⟨p,ys,rfl,hq,q⟩:=h
 obtain ⟨u,rfl,rx⟩:=jp r
 cases rx
 have fin:∀ (its:List Value),Vals ys its->ys.length<=sizeLine->∀ (h':Heap) (c':Nat),(∀b o',s.heap.get? b=some o'->h'.get? b=some o') ->
   h'.get? s.heap.objs.size=some { cls:=.type "list",dict:=none,data:=.seq its.toArray c',slots:=#[] }->EP X pins σ Q (.ref s.heap.objs.size) { s with heap:=h' }:=fun its r' hz h' c' kp e =>
  ⟨.ref s.heap.objs.size,_,I.laid (t':=s.toks) kp (Nat.le_refl _) (show ObjOk X.prog X.w _ h' _ (.lst ys) from ⟨hz,its,c',r',e⟩),rfl,q _ (I.hok.fresh (Nat.le_refl _))⟩
 rcases hq with hq | hq
 .obtain ⟨its,r',pl,hz⟩:=I.list hq
  have hlen:=r'.length
  obtain ⟨o,ho,hc,n,hd⟩:=pl.isList
  exact call_list_seq p (.inl rfl) ho hc hd (fun h' c' kp e=>fin its r' hz h' c' kp e) (by simp only[List.size_toArray] <;> lia)
 .obtain ⟨its,r',pl,hz⟩:=I.tuple hq
  have hlen:=r'.length
  obtain ⟨o,ho,hc,n,hd⟩:=pl
  exact call_list_seq p (.inr rfl) ho hc hd (fun h' c' kp e=>fin its r' hz h' c' kp e) (by simp only[List.size_toArray] <;> lia)
theorem jl:CallR X (.type "tuple") (fun xs H Q=>∃p ys,xs=[.ref p]/\((SqL X.K H p ys/\∀l,H l=none->Q (.ref l) (upd H l (.tup ys)))\/(SqT X.K H p ys/\Q (.ref p) H))):=by
 intro pins s σ H xs us Q I r h
 obtain ⟨p,ys,rfl,h⟩:=h
 obtain ⟨u,rfl,rx⟩:=jp r
 cases rx
 rcases h with ⟨hq,q⟩ | ⟨hq,q⟩
 .obtain ⟨its,r',pl,hz⟩:=I.list hq
  have hlen:=r'.length
  refine call_tuple_list pl.isList (fun h' kp=>?_) (by simp only[List.size_toArray] <;> lia)
  have I1:Inv X pins σ H { s with heap:=h' }:=I.kept (t':=s.toks) kp
  have I2:Inv X pins σ (upd H h'.objs.size (.tup ys)) { s with heap:=h'.push { cls:=.type "tuple",data:=.seq its.toArray } } :=
   I1.laid (t':=s.toks) (fun b o e=>Heap.get?_push_of_some _ e) (Nat.le_refl _) (show ObjOk X.prog X.w _ _ _ (.tup ys) from ⟨hz,its,r',IsTup.new _ _⟩)
  exact ⟨.ref h'.objs.size,_,I2,rfl,q _ (I1.hok.fresh (Nat.le_refl _))⟩
 .obtain ⟨its,r',pl,hz⟩:=I.tuple hq
  exact call_tuple_same pl ⟨.ref p,H,I,rfl,q⟩
def tyV (K:PySem.W.Frag)(T:String)(x:V)(H:Hp):Prop:=match x with
 | .str _=>T = "str"
 | .int _=>T = "int"
 | .ref p=>(T = "list" /\ ∃xs,SqL K H p xs)\/(T = "tuple" /\ ∃o,K.lookup p=some o/\o.cls=.type "tuple" /\ o.dict=none) \/
   (T = "dict" /\ ((∃kvs,H p=some (.dK kvs))\/∃kvs,H p=some (.dT kvs)))\/(T = "set" /\ ∃S n,H p=some (.set S n))
 | _=>False
theorem zca {pins:List (Addr×Obj)}{σ:St}{H:Hp}{s:Shared}{T:String}{x:V}{v:Value}(I:Inv X pins σ H s)(r:RelV x v)(ty:tyV X.K T x H):
  s.TypeIs v T/\∀a,v=.ref a->∃ob,s.heap.get? a=some ob/\ob.dict=none:=by
 cases x with
 | str z =>
  obtain ⟨t,rfl⟩:=r
  cases (show T = "str" from ty)
  exact ⟨typeIs_str s z t,fun _ e=>nomatch e⟩
 | int i =>
  obtain ⟨t,rfl⟩:=r
  cases (show T = "int" from ty)
  exact ⟨typeIs_int s i t,fun _ e=>nomatch e⟩
 | ref p =>
  cases r
  rcases ty with ⟨rfl,xs,hq⟩ | ⟨rfl,o,hk,hc,hd⟩ | ⟨rfl,hk⟩ | ⟨rfl,S,n,hk⟩
  .obtain ⟨its,_,pl,_⟩:=I.list hq
   refine ⟨pl.isList.typeIs,fun a e=>?_⟩
   cases e
   obtain ⟨o,n,e,c,hd,_⟩:=pl
   exact ⟨o,e,hd⟩
  .refine ⟨⟨o,I.kIn p o hk,hc⟩,fun a e=>?_⟩
   cases e
   exact ⟨o,I.kIn _ o hk,hd⟩
  .have z:∃o,s.heap.get? p=some o/\o.ExactDict:=by
    rcases hk with ⟨kvs,hk⟩ | ⟨kvs,hk⟩
    .obtain ⟨_,_,_,_,o,_,_,e,ex,_⟩:=I.hok p _ hk
     exact ⟨o,e,ex⟩
    .obtain ⟨_,_,_,_,o,_,_,e,ex,_⟩:=I.hok p _ hk
     exact ⟨o,e,ex⟩
   obtain ⟨o,e,ex⟩:=z
   refine ⟨⟨o,e,ex.1⟩,fun a e2=>?_⟩
   cases e2
   exact ⟨o,e,ex.2.1⟩
  .obtain ⟨o,_,_,_,e,ex,_⟩:=I.hok p _ hk
   refine ⟨⟨o,e,ex.1⟩,fun a e2=>?_⟩
   cases e2
   exact ⟨o,e,ex.2.1⟩
 | _=>exact False.elim ty
def tBM0 (K:PySem.W.Frag)(T:String)(r:V->List V->Hp->VK->Prop)(to:TE):TE:=fun σ H Q=>to σ H fun x H1=>tyV K T x H1/\r x [] H1 Q
def tBM (K:PySem.W.Frag)(T:String)(r:V->List V->Hp->VK->Prop)(to:TE)(t:TA):TE:=fun σ H Q=>to σ H fun x H1=>tyV K T x H1/\t σ H1 fun xs H2=>r x xs H2 Q
variable {o e:Expr}{es:List Expr}{to:TE}{t:TA}{name:Str}{apos cpos:Pos}{T id:String}{r:V->List V->Hp->VK->Prop}
theorem zfG (pa:PlainAttrs T)(slot:Slot T name id)(hty:typeOf (.builtin id)=pure (.type "method_descriptor"))(hm:MtR X id r)(ho:PE X o to)
  (hbase:attributeBase o name X.env (eval o X.env)=eval o X.env:=by rfl) (hline:(apos.endLine == cpos.line)=true:=by rfl):PE X (.Call (.Attribute o name apos) [] [] cpos) (tBM0 X.K T r to):=by
 intro pins s σ H Q I h
 refine wpAny_Call_method0_late hbase hline (thn (ho pins s σ H _ I h) fun v s1 ⟨x,H1,I1,r1,ty,q1⟩=>?_)
 obtain ⟨h1,h2⟩:=zca I1 r1 ty
 exact ⟨T,id,pa,slot,hty,h1,h2,Calls.callWith_builtin rfl (PySem.evalArgs_none (hm pins s1 σ H1 x [] v [] Q I1 r1 .nil q1))⟩
theorem zgY (pa:PlainAttrs T)(slot:Slot T name id)(hty:typeOf (.builtin id)=pure (.type "method_descriptor"))(hm:MtR X id r)(ho:PE X o to)(ha:PA X (e::es) t)
  (hbase:attributeBase o name X.env (eval o X.env)=eval o X.env:=by rfl)
  (hfew:((backTo cpos (starEach (e::es) X.env)).all (fun x=>!x.1) && (backToKw cpos (keywordEach [] X.env)).all (fun x=>x.1.isSome)
   && decide ((e::es).length+([]:List Keyword).length+(if ([]:List Keyword).isEmpty then 0 else 1) < 30))=true:=by rfl)
  (hline:(apos.endLine == cpos.line)=true:=by rfl) (hs:starEach (e::es) X.env=(false,eval e X.env)::starEach es X.env:=by rfl) (hplain:(backTo cpos (starEach es X.env)).any (·.1)=false:=by rfl) :
  PE X (.Call (.Attribute o name apos) (e::es) [] cpos) (tBM X.K T r to t):=by
 intro pins s σ H Q I h
 refine wpAny_Call_method_late hbase hfew hline rfl (thn (ho pins s σ H _ I h) fun v s1 ⟨x,H1,I1,r1,ty,q1⟩=>?_)
 obtain ⟨h1,h2⟩:=zca I1 r1 ty
 refine ⟨T,id,pa,slot,hty,h1,h2,?_⟩
 have hA:=ha cpos pins s1 σ H1 _ I1 q1
 rw[hs] at hA ⊢
 refine Calls.callWith_builtin (by show (false || (backTo cpos (starEach es X.env)).any (·.1))=false;rw[hplain] <;> rfl) (Calls.evalArgs_plain ?_)
 exact thn hA fun us s2 ⟨vs,H2,I2,r2,q2⟩=>hm pins s2 σ H2 x vs v us Q I2 r1 r2 q2
end
def MtM (X:Cx)(id:String)(r:V->List V->Hp->VK->Prop):Prop :=
 ∀ (pins:List (Addr×Obj)) (s:Shared) (σ:St) (H:Hp) (x:V) (xs:List V) (v:Value) (us:List Value) (Q:VK),Inv X pins σ H s->RelV x v->Vals xs us->r x xs H Q ->
  wpAny (model X.prog X.w) X.A (call (.builtin id) (v::us)) (EP X pins σ Q) X.xe s
theorem Vals.one:∀ {x:V}{us:List Value},Vals [x] us->∃u,us=[u]/\RelV x u
 | _,_,.cons r .nil=>⟨_,rfl,r⟩
theorem Vals.zero:∀ {us:List Value},Vals [] us->us=[]
 | _,.nil=>rfl
theorem Vals.dropLast {xs:List V}{us:List Value}(h:Vals xs us):Vals xs.dropLast us.dropLast:=by
 induction h with
 | nil=>exact .nil
 | cons r t ih =>
  cases t with
  | nil=>exact .nil
  | cons q t'=>exact .cons r ih
theorem Vals.eraseIdx:∀ {xs:List V}{us:List Value}(i:Nat),Vals xs us->Vals (xs.eraseIdx i) (us.eraseIdx i)
 | _,_,_,.nil=>.nil
 | _,_,0,.cons _ t=>t
 | _,_,i+1,.cons r t=>.cons r (Vals.eraseIdx i t)
theorem Vals.reverse {xs:List V}{us:List Value}(h:Vals xs us):Vals xs.reverse us.reverse:=by
 induction h with
 | nil=>exact .nil
 | cons r t ih=>rw[List.reverse_cons,List.reverse_cons];exact Vals.append ih (.cons r .nil)
theorem Vals.rep {xs:List V}{us:List Value}(h:Vals xs us):∀k:Nat,Vals (List.replicate k xs).flatten (List.replicate k us).flatten
 | 0=>.nil
 | k+1=>by
  rw[List.replicate_succ,List.replicate_succ,List.flatten_cons,List.flatten_cons]
  exact Vals.append h (Vals.rep h k)
theorem qx {α:Type}(l:List α):l.eraseIdx (l.length - 1)=l.dropLast:=by
 induction l with
 | nil=>rfl
 | cons a r ih =>
  cases r with
  | nil=>rfl
  | cons b r =>
   have e:(a::b::r).length - 1=((b::r).length - 1)+1:=by
    have h1:(a::b::r).length=r.length+2:=rfl
    have h2:(b::r).length=r.length+1:=rfl
    lia
   rw[e,List.eraseIdx_cons_succ,ih]
   all_goals rfl
theorem jx (its:List Value):∀ (k:Nat) (acc:List Value),
  List.foldl (fun x1 x2=>x1++x2) acc.toArray (List.replicate k its.toArray)=(acc++(List.replicate k its).flatten).toArray
 | 0,acc=>by simp
 | k+1,acc=>by
  have e:acc.toArray++its.toArray=(acc++its).toArray:=by simp
  have e2:(acc++its)++(List.replicate k its).flatten=acc++(List.replicate (k+1) its).flatten:=by
   rw[List.replicate_succ,List.flatten_cons,List.append_assoc]
  rw[<- e2,<- jx its k (acc++its),<- e,List.replicate_succ,List.foldl_cons]
section
variable {X:Cx}{pins:List (Addr×Obj)}{σ:St}{H:Hp}{s:Shared}{l:Addr}{xs ys:List V}
theorem Inv.lset {its its':List Value}{n:Nat}{f:Array Value->Array Value}{t':Nat}(I:Inv X pins σ H s)(hH:H l=some (.lst xs))
  (e:s.heap.get? l=some { cls:=.type "list",data:=.seq its.toArray n }) (hf:f its.toArray=its'.toArray) (hv:Vals ys its') (hz:ys.length<=sizeLine) :
  Inv X pins σ (upd H l (.lst ys)) { s with heap:=s.heap.update l (Obj.mapSeq f),toks:=t' }:=by
 have q:=PySem.IsL.update e f
 rw[hf] at q
 refine I.write (x:=l) (e:=l) (by rw[hH];exact trivial) (.inl rfl) (fun b' u hb hu=>(Heap.get?_update_other s.heap (Obj.mapSeq f) (Ne.symm hb)).trans hu) ⟨_,q⟩ ?_
 exact ⟨hz,its',_,hv,q⟩
theorem Inv.lnew {its:List Value}{t':Nat}(I:Inv X pins σ H s)(hv:Vals ys its)(hz:ys.length<=sizeLine):
  Inv X pins σ (upd H s.heap.objs.size (.lst ys)) { s with heap:=s.heap.push { cls:=.type "list",data:=.seq its.toArray },toks:=t' } :=
 I.laid (fun _ _ q=>Heap.get?_push_of_some _ q) (Nat.le_refl _) ⟨hz,its,0,hv,Heap.get?_push_size _ rfl⟩
theorem Inv.fresh (I:Inv X pins σ H s):H s.heap.objs.size=none:=I.hok.fresh (Nat.le_refl _)
theorem Inv.lstM (I:Inv X pins σ H s)(hH:H l=some (.lst xs)):xs.length<=sizeLine/\∃ (its:List Value) (n:Nat),Vals xs its/\xs.length=its.length/\s.heap.get? l=some { cls:=.type "list",data:=.seq its.toArray n }:=by
 obtain ⟨z,its,n,r,e⟩:=I.hok l _ hH
 exact ⟨z,its,n,r,r.length,e⟩
theorem zcb {n:Nat}(h:n<=sizeLine):Builtin.List.listTooLong n=false:=by
 unfold Builtin.List.listTooLong
 exact decide_eq_false (by lia)
end
section
variable {X:Cx}
def zd5:V->List V->Hp->VK->Prop:=fun x vs H Q=>∃l xs y,x=.ref l/\vs=[y]/\H l=some (.lst xs)/\xs.length < sizeLine/\Q .non (upd H l (.lst (xs++[y])))
theorem jy:MtM X "list.append" zd5:=by
 intro pins s σ H x vs v us Q I rx rv h
 obtain ⟨l,xs,y,rfl,rfl,hH,hz,q⟩:=h
 cases rx
 obtain ⟨u,rfl,ru⟩:=rv.one
 obtain ⟨z,its,n,r,hl,e⟩:=I.lstM hH
 refine call_meets F.slot_list_append ⟨_,e,rfl⟩ F.entry_list_append (F.args_list_append_2 _ _) (PySem.list_append l its.toArray n u (by rw[List.size_toArray];lia)) ⟨e,?_⟩
 refine ⟨.non,_,I.lset (its':=its++[u]) hH e (by simp) (r.append (.cons ru .nil)) ?_,rfl,q⟩
 rw[List.length_append,List.length_singleton]
 lia
def rPop:V->List V->Hp->VK->Prop:=fun x vs H Q=>∃l xs y,x=.ref l/\vs=[]/\H l=some (.lst xs)/\xs[xs.length - 1]?=some y/\Q y (upd H l (.lst xs.dropLast))
theorem zfH:MtM X "list.pop" rPop:=by
 intro pins s σ H x vs v us Q I rx rv h
 obtain ⟨l,xs,y,rfl,rfl,hH,hy,q⟩:=h
 cases rx
 have hus:=rv.zero
 subst hus
 obtain ⟨z,its,n,r,hl,e⟩:=I.lstM hH
 obtain ⟨u,hu,ru⟩:=r.get hy
 have hy':its.toArray[its.toArray.size - 1]?=some u:=by
  show its.toArray[its.length - 1]?=some u
  rw[<- Array.getElem?_toList,<- hl]
  exact hu
 refine call_meets F.slot_list_pop ⟨_,e,rfl⟩ F.entry_list_pop (F.args_list_pop_1 _) (MeetsSeq.list_pop_last l its.toArray n u hy' (by rw[List.size_toArray];lia)) ⟨e,?_⟩
 refine ⟨y,_,I.lset (its':=its.dropLast) hH e ?_ r.dropLast ?_,ru,q⟩
 .show its.toArray.eraseIdxIfInBounds (its.toArray.size - 1)=its.dropLast.toArray
  rw[List.size_toArray,List.eraseIdxIfInBounds_toArray,qx]
 .rw[List.length_dropLast]
  lia
def zcc:V->List V->Hp->VK->Prop:=fun x vs H Q=>∃l xs,x=.ref l/\vs=[]/\H l=some (.lst xs)/\Q .non (upd H l (.lst xs.reverse))
theorem qy:MtM X "list.reverse" zcc:=by
 intro pins s σ H x vs v us Q I rx rv h
 obtain ⟨l,xs,rfl,rfl,hH,q⟩:=h
 cases rx
 have hus:=rv.zero
 subst hus
 obtain ⟨z,its,n,r,hl,e⟩:=I.lstM hH
 refine call_meets F.slot_list_reverse ⟨_,e,rfl⟩ F.entry_list_reverse (F.args_list_reverse_1 _) (AutoSeq1.list_reverse_list_0 l its.toArray n (by rw[List.size_toArray];lia)) ⟨e,?_⟩
 refine ⟨.non,_,I.lset (its':=its.reverse) hH e (by simp) r.reverse ?_,rfl,q⟩
 rw[List.length_reverse]
 lia
def zgZ:R2:=fun x y H Q=>∃l b xs zs,x=.ref l/\y=.ref b/\H l=some (.lst xs)/\H b=some (.lst zs)/\xs.length+zs.length<=sizeLine/\∀p,H p=none->Q (.ref p) (upd H p (.lst (xs++zs)))
theorem op_cat:OpR X (binaryOp .Add) zgZ:=by
 intro pins s σ H x y v u Q I rx ry h
 obtain ⟨l,b,xs,zs,rfl,rfl,hH,hB,hz,q⟩:=h
 cases rx
 cases ry
 obtain ⟨z,its,n,r,hl,e⟩:=I.lstM hH
 obtain ⟨z2,its2,n2,r2,hl2,e2⟩:=I.lstM hB
 refine PySem.P.add_list e e2 ?_ (by rw[List.size_toArray,List.size_toArray];lia)
 have ea:its.toArray++its2.toArray=(its++its2).toArray:=by simp
 rw[ea]
 exact ⟨.ref _,_,I.lnew (t':=s.toks) (r.append r2) (by rw[List.length_append];lia),rfl,q _ I.fresh⟩
def zg0:R2:=fun x y H Q=>∃l k xs,x=.ref l/\y=.int k/\H l=some (.lst xs)/\-(2 ^ 63)<=k/\k < 2 ^ 63/\xs.length * k.toNat<=sizeLine /\
 ∀p,H p=none->Q (.ref p) (upd H p (.lst (List.replicate k.toNat xs).flatten))
theorem zan {α:Type}(xs:List α)(k:Nat):(List.replicate k xs).flatten.length=k * xs.length:=by
 induction k with
 | zero=>simp
 | succ k ih=>rw[List.replicate_succ,List.flatten_cons,List.length_append,ih,Nat.succ_mul,Nat.add_comm]
theorem zfI:OpR X (binaryOp .Mult) zg0:=by
 intro pins s σ H x y v u Q I rx ry h
 obtain ⟨l,k,xs,rfl,rfl,hH,h1,h2,hz,q⟩:=h
 cases rx
 obtain ⟨t,rfl⟩:=ry
 obtain ⟨z,its,n,r,hl,e⟩:=I.lstM hH
 have hlen:its.toArray.size * k.toNat<=sizeLine:=by rw[List.size_toArray,<- hl];exact hz
 have hcap:¬ its.toArray.size * k.toNat > (2 ^ 63 - 1) / 8:=by
  have:(sizeLine:Nat)<=(2 ^ 63 - 1) / 8:=by decide
  lia
 have hfit:¬(!Builtin.List.listFitsIndex k)=true:=by
  rw[fitsIndex_both h1 h2]
  exact Bool.false_ne_true
 have hlong:¬ Builtin.List.listTooLong (its.toArray.size * k.toNat)=true:=by
  rw[zcb hlen]
  exact Bool.false_ne_true
 have hnew:List.foldl (fun x1 x2=>x1++x2) #[] (List.replicate (if its.toArray.isEmpty=true then 0 else k.toNat) its.toArray)=(List.replicate k.toNat its).flatten.toArray:=by
  have f0:∀m:Nat,List.foldl (fun x1 x2=>x1++x2) #[] (List.replicate m its.toArray)=(List.replicate m its).flatten.toArray:=fun m=>by
   have:=jx its m []
   rw[List.nil_append] at this
   exact this
  rw[f0]
  cases its with
  | nil=>simp
  | cons a r'=>rw[if_neg (by simp)]
 refine wpAny_binaryOp_repeat_ref (T := "list") (U := "int") (by decide) ⟨_,e,rfl⟩ (fun s'=>typeIs_int s' k t) noFill_list_mul F.fills_int_mul F.slot_int_rmul repeat_list F.slot_int_index.lookup
  (call_meets F.slot_int_rmul (typeIs_int s k t) F.entry_int_rmul (F.args_int_rmul_2 _ _) (int___rmul___int_list k t l its.toArray n)
   ⟨e,rfl,⟨_,e,rfl⟩,call_meets F.slot_list_mul ⟨_,e,rfl⟩ F.entry_list_mul (F.args_list_mul_2 _ _) (AutoListH.list___mul___list_int_3 l its.toArray n k t hfit hcap hlong) ⟨e,?_⟩⟩)
 rw[hnew]
 exact ⟨.ref _,_,I.lnew (t':=s.toks) (r.rep k.toNat) (by rw[zan,Nat.mul_comm];exact hz),rfl,q _ I.fresh⟩
end
end L2
namespace Att
open PySem PySem.W PySem.Calls PyProof.Rows
theorem v5 {P:Params}{h:Heap}:∀ (ns:List Int) (vs:List Value),WellAll P h vs (ns.map WData.int)->IntsAre vs ns:=by
 intro ns
 induction ns with
 | nil =>
  intro vs w
  rw[List.map_nil] at w
  cases w
  exact .nil
 | cons n ns ih =>
  intro vs w
  rw[List.map_cons] at w
  cases w with
  | cons a b =>
   cases a
   exact .cons _ _ (ih _ b)
theorem za5 {l:OpenLaw}{n:Nat}(hn:l.most=some n){P:Params}{h:Heap}{args:List WData}{vals:List Value}
  (hpre:l.row.toRowW.claim.pre args=true) (hwl:WellAll P h vals args) :
  ∃a vs ns,vals=[Value.ref a]/\args=[WData.list (ns.map WData.int)]/\h.get? a=some { cls:=.type "list",data:=.seq vs.toArray }/\IntsAre vs ns/\ns.length<=n:=by
 have hsh:WShape.hasAll [] args [.list .int]=true:=(pre_splitW hpre).1
 have hc:l.pre.holds [] { args:=args }=true:=(pre_splitW hpre).2
 obtain ⟨d,r,rfl,h1,h2⟩:=hasAllW_cons hsh
 obtain rfl:=hasAllW_nil h2
 obtain ⟨xs,rfl,h3⟩:=hasW_list h1
 obtain ⟨ns,rfl⟩:=items_int h3
 have hlen:ns.length<=n:=by
  unfold OpenLaw.pre at hc
  have h4:(WTm.not (.lt (.lit (.int (n:Int))) (.len (.arg 0)))).holds [] { args:=[.list (ns.map .int)] }=true:=by
   have h4:=(holds_andW hc).1
   rw[hn] at h4
   exact h4
  have h5:=condW_of h4 (w_not (w_lt w_lit (w_len_list (w_arg rfl))))
  rw[List.length_map] at h5
  refine Nat.le_of_not_lt fun q=>?_
  have q':(n:Int) < ((ns.length:Nat):Int):=by lia
  first
   | (rw[decide_eq_true q'] at h5;exact absurd h5 (by decide))
   | (simp at h5;lia)
 cases hwl with
 | cons w1 w2 =>
  cases w2
  cases w1 with
  | list ho hall=>exact ⟨_,_,ns,rfl,rfl,ho,v5 ns _ hall,hlen⟩
theorem za6 (l:OpenLaw)(args:List WData):l.row.toRowW.claim.post args (.bool true) args=true :=
 postW_of (r:=l.row.toRowW) (X:=(true == true))
  (show WShape.has [] (.bool true) .bool=true by first | rfl | decide | simp[WShape.has,WShape.arms,WShape.armsAll])
  (show (WTm.eq .res (.lit (.bool true))).value [] { args:=args,res:=some (.bool true),after:=args }=some (.bool (true == true)) from w_eq_bool (w_res rfl) w_lit) rfl
theorem attach_call {l:OpenLaw}{n:Nat}{q:Program}{loose:List Str}{XP:(Str->Option Value)->Heap->Prop}{YP:World->Heap->Prop}{d:DefRec}
  (hn:l.most=some n) (hdf:d.params.defaults=[])
  (call:∀ (w:World) (s₀ s₁:Shared) (mg mb:Str->Option Value) (fa:Addr) (o:Obj) (pm cd doc:Value) (a:Addr) (vs:List Value) (ns:List Int),
   Ground q loose [] XP w s₀ mg mb s₁.heap->YP w s₁.heap ->
   s₁.heap.get? fa=some o->o.data=.func (docDef d.name d.params d.body d.scope pm cd doc)->s₁.heap.CodeRec cd d.name->mg d.name=some (.ref fa) ->
   s₁.heap.get? a=some { cls:=.type "list",data:=.seq vs.toArray }->IntsAre vs ns->ns.length<=n->s₁.gens=#[] ->
   codeAny (model l.prog w) callerA (.call (.ref fa) ⟨[.ref a],[]⟩) (fun r s'=>r=.ok (.ret (.bool true))/\OldK s₁.heap s'.heap/\s'.os=s₁.os/\AllBare s'.gens) s₁) :
  WalkO q loose XP YP l.row.toRowW d [] (fun f vs=>PySem.call f vs):=by
 intro w s₀ s₁ mg mb G Y fa o pm cd doc dV kV ho hd hcd hD hmg hg args vals as hpre hlay hrd hwl hlo
 obtain rfl:dV=.none:=Dflts.none hD hdf
 obtain rfl:kV=.none:=Dflts.noKw hD
 obtain ⟨a,vs,ns,rfl,rfl,hobj,hints,hlen⟩:=za5 hn hpre hwl
 refine enter_call (codeAny_mono (call w s₀ s₁ mg mb fa o pm cd doc a vs ns G Y ho (fd_plain hd) hcd hmg hobj hints hlen hg) fun r s' hq=>?_)
 obtain ⟨rfl,h2,h3,h4⟩:=hq
 exact ⟨.inl ⟨.bool true,.bool true,[],rfl,fun _=>rfl,.bool true,za6 l _,fun _=>⟨List.Pairwise.nil,fun _ hm=>(nomatch hm)⟩⟩,h2,h3,h4⟩
end Att
namespace L2
open PySem PySem.Spec PyProof.Rows
theorem jz:∀ {vs:List Value}{ns:List Int},IntsAre vs ns->Vals (ns.map V.int) vs
 | _,_,.nil=>.nil
 | _,_,.cons n t h=>.cons ⟨t,rfl⟩ (jz h)
def zcd (H:Hp):Prop:=∀b,H b=none\/∃o xs,H b=some (.frz o (.lst xs))
theorem zce {P:Program}{w:World}{K:PySem.W.Frag}{mg mb:Str->Option Value}{CX:CXT}{k:Nat}{fa a:Addr}{fd:FuncData}{x:Str}{sp:Sp}{s₁:Shared}{vs:List Value}{ns:List Int}
  (KX:K.In s₁.heap) (hns:s₁.heap.Ns mainGlobals mg) (hb:s₁.heap.Ns builtinsNs mb) (hbb:∀x:Str,x ≠ "__name__" -> mb x=bootBuiltins x) (hlim:s₁.heap.NoLimit) (hg:s₁.gens=#[])
  (ha:s₁.heap.get? a=some { cls:=.type "list",data:=.seq vs.toArray }) (hi:IntsAre vs ns) (hl:ns.length<=sizeLine) (hr:Room k callerA)
  (F:∀base:Heap,K.In base->base.Ns mainGlobals mg->FnOk P w K mg base CX k fa fd [x] sp) (hbind:∀ (s:Shared) (u:Value),BindsTo s fd ⟨[u],[]⟩ [(x,u)])
  (hsp:∀H:Hp,zcd H->SqL K H a (ns.map V.int)->sp [.ref a] H (fun v _=>v=.bl true) fun _ _ _=>False)
  (hCX:∀H e s',CX [] H s₁ (fun _ _ _=>False) e s'->False) :
  codeAny (model P w) callerA (.call (.ref fa) ⟨[.ref a],[]⟩) (fun r s'=>r=.ok (.ret (.bool true))/\OldK s₁.heap s'.heap/\s'.os=s₁.os/\AllBare s'.gens) s₁:=by
 have rv:=jz hi
 have lenV:=hi.length
 -- from an abstract heap in which nothing but the script may be tracked
 have core:∀H:Hp,zcd H->SqL K H a (ns.map V.int)->HOk P w H s₁.heap->(∀b,H b≠none->b=a)->(H a≠none->K.lookup a=none) ->
   codeAny (model P w) callerA (.call (.ref fa) ⟨[.ref a],[]⟩) (fun r s'=>r=.ok (.ret (.bool true))/\OldK s₁.heap s'.heap/\s'.os=s₁.os/\AllBare s'.gens) s₁:=by
  intro H hO hS hok hA hK
  have base_of:∀ {b:Addr}{o:Obj},s₁.heap.get? b=some o->H b=none->(jM s₁.heap H).get? b=some o:=fun e n=>zbU e n
  have noA:∀ {b:Addr}{o:Obj}{es:Array DictEntry}{ep:Nat},s₁.heap.get? b=some o->o.data=.dict es ep->H b=none:=fun {b o es ep} e d=>by
   cases q:H b with
   | none=>rfl
   | some u =>
    have e':b=a:=hA b (by rw[q];simp)
    subst e'
    rw[ha] at e;cases e
    have d':Data.seq vs.toArray _=Data.dict es ep:=d
    cases d'
  have nsK:∀ {b:Addr}{m:Str->Option Value},s₁.heap.Ns b m->(jM s₁.heap H).Ns b m:=fun {b m} ⟨o,es,ep,e,d,r⟩=>⟨o,es,ep,base_of e (noA e d),d,r⟩
  have hKb:K.In (jM s₁.heap H):=fun b o e=>base_of (KX b o e) (by
   cases q:H b with
   | none=>rfl
   | some u =>
    have e':b=a:=hA b (by rw[q];simp)
    subst e'
    rw[hK (by rw[q];simp)] at e;cases e)
  have hM:Mod K mg (jM s₁.heap H):=⟨hKb,nsK hns,⟨mb,nsK hb,hbb⟩,let ⟨mc,h1,h2⟩:=hlim;⟨mc,nsK h1,h2⟩⟩
  have e0:Env0 P w K mg (jM s₁.heap H) callerA [] s₁ H:=⟨rfl,hM,fun b o e=>zdM e,Nat.le_of_eq (zaU _ _),trivial,fun b hb=>absurd (show b∈([]:List Addr) from hb) (by simp),hok,.of_eq hg⟩
  refine codeAny_mono ((F _ hKb (nsK hns)).run callerA [] s₁ H ⟨[.ref a],[]⟩ [.ref a] [.ref a] _ _ hr e0 (hbind s₁ (.ref a)) (.cons rfl .nil) (hsp H hO hS)) fun r s' h=>?_
  cases r with
  | error e=>exact (hCX H e s' h).elim
  | ok fl =>
   cases fl with
   | next=>exact False.elim h
   | brk=>exact False.elim h
   | cont=>exact False.elim h
   | ret u =>
    obtain ⟨v,H',os,bare,un,hok',r',q⟩:=h
    have q':v=.bl true:=q
    subst q'
    obtain rfl:u=Value.bool true:=r'
    refine ⟨rfl,OldK.of_keep fun b o e=>?_,os,bare⟩
    cases q:H b with
    | none=>exact un.keep b o e q (by intro z;exact absurd (show b∈([]:List Addr) from z) (by simp)) (by simp)
    | some u =>
     rcases hO b with z | ⟨ob,xs,z⟩
     .rw[q] at z;cases z
     .have z2:=un.frzs b ob _ z
      obtain ⟨e1,_⟩:=hok b _ z
      obtain ⟨e2,_⟩:=hok' b _ z2
      rw[e] at e1;cases e1
      exact e2
 cases hk:K.lookup a with
 | some o =>
  -- the script is one of the module's own objects
  have e:=KX a o hk
  rw[ha] at e
  cases e
  refine core (fun _=>none) (fun _=>.inl rfl) (.inr ⟨_,vs.toArray,_,hk,rfl,rfl,rfl,by rw[List.size_toArray,lenV];exact hl,by simpa using rv⟩) (fun b u z=>by have z':(none:Option HO)=some u:=z;cases z') (fun b z=>absurd rfl z) fun z=>absurd rfl z
 | none =>
  refine core (fun b=>if b=a then some (.frz { cls:=.type "list",data:=.seq vs.toArray } (.lst (ns.map V.int))) else none) (fun b=>?_) (.inl (.inr ⟨{ cls:=.type "list",data:=.seq vs.toArray },if_pos rfl⟩)) (fun b u z=>?_) (fun b z=>?_) fun _=>hk
  .by_cases hb:b=a
   .exact .inr ⟨_,_,if_pos hb⟩
   .exact .inl (if_neg hb)
  .by_cases hb:b=a
   .have z':=(if_pos hb).symm.trans z
    cases z'
    subst hb
    exact ⟨ha,by rw[List.length_map];exact hl,vs,_,rv,ha⟩
   .have z':=(if_neg hb).symm.trans z
    cases z'
  .by_cases hb:b=a
   .exact hb
   .exact absurd (if_neg hb) z
theorem zd6 {l:PySem.W.OpenLaw}{n k:Nat}{q:Program}{loose:List Str}{XP:(Str->Option Value)->Heap->Prop}{YP:World->Heap->Prop}{d:DefRec}{K:Params->PySem.W.Frag}{CX:World->CXT}{sp:World->Sp}{x:Str}
  (hn:l.most=some n) (hn2:n<=sizeLine) (hdf:d.params.defaults=[]) (hr:Room k callerA)
  (hY:∀ (w:World) (h:Heap),YP w h->(K w.params).In h)
  (F:∀ (w:World) (mg:Str->Option Value) (fa:Addr) (h:Heap),(K w.params).In h->h.Ns mainGlobals mg->mg d.name=some (.ref fa) ->
   ∃fd:FuncData,(∀ (s:Shared) (u:Value),BindsTo s fd ⟨[u],[]⟩ [(x,u)]) /\
    ∀base:Heap,(K w.params).In base->base.Ns mainGlobals mg->FnOk l.prog w (K w.params) mg base (CX w) k fa fd [x] (sp w))
  (hsp:∀ (w:World) (H:Hp) (a:Addr) (ns:List Int),ns.length<=n->zcd H->SqL (K w.params) H a (ns.map V.int)->sp w [.ref a] H (fun v _=>v=.bl true) fun _ _ _=>False)
  (hCX:∀ (w:World) (H:Hp) (s:Shared) (e:Value) (s':Shared),CX w [] H s (fun _ _ _=>False) e s'->False) :
  PySem.W.WalkO q loose XP YP l.row.toRowW d [] (fun f vs=>PySem.call f vs):=by
 refine Att.attach_call hn hdf fun w s₀ s₁ mg mb fa o pm cd doc a vs ns G Y ho hd hcd hmg hobj hints hlen hg=>?_
 have KX:=hY w _ Y
 obtain ⟨fd,hb,hF⟩:=F w mg fa _ KX G.T.g hmg
 exact zce KX G.T.g G.T.b G.T.builtins G.T.nolimit hg hobj hints (Nat.le_trans hlen hn2) hr hF hb (fun H hO hS=>hsp w H a ns hlen hO hS) fun H e s'=>hCX w H s₁ e s'
noncomputable def xR (s:Stmt):Arguments:=match s with
 | .FunctionDef _ a _ _ _ _ _ _ _ _=>a
 | _=>{ posonlyargs:=[],args:=[],vararg:=none,kwonlyargs:=[],kw_defaults:=[],kwarg:=none,defaults:=[] }
noncomputable def zW (s:Stmt):List Stmt:=match s with
 | .FunctionDef _ _ b _ _ _ _ _ _ _=>b
 | _=>[]
noncomputable def zo (s:Stmt):Scope:=match s with
 | .FunctionDef _ _ _ _ _ _ sc _ _ _=>sc
 | _=>{ kind:=.function,names:=[],isGenerator:=false,isCoroutine:=false }
abbrev CX0:CXT:=fun _ _ _ _ _ _=>False
abbrev E0:XK:=fun _ _ _=>False
theorem zg1 {X:Cx}:qu CX0 X E0:=fun _ _ _ _ _ _ _ h=>h.elim
structure Fun (K:PySem.W.Frag)(x qual:Str)(st:Stmt)(f:Addr)(fd:FuncData):Prop where
 ex:∃ (oc:Value) (od:Option Addr) (kV doc pm:Value) (an:Option Addr) (cdv ct:Value) (osl:Array (Option Value)),
  fd=PySem.W.fnOf x qual (xR st) (zW st) (zo st) .none kV doc pm an cdv ct/\K.lookup f=some ⟨oc,od,.func fd,osl⟩/\PySem.W.codeIn K cdv qual=true
 kp:PySem.W.keepIn K (.ref f)=true
section
variable {P:Program}{w:World}{K:PySem.W.Frag}{mg:Str->Option Value}{base:Heap}
theorem Fun.ok {x qual:Str}{st:Stmt}{f:Addr}{fd:FuncData}{N ps:List Str}{k:Nat}{sp:Sp}(F:Fun K x qual st f fd)(S:FnScope N ps (zo st))(len:∀vs H Q E,sp vs H Q E->vs.length=ps.length)
  (hbody:∀ (cdv:Value) (A:Around) (outer:List Env) (s:Shared) (H:Hp) (vs:List V) (Q:VK) (E:XK),Room k (A.deeper (envOfC qual (zo st) s.heap.objs.size f cdv))->sp vs H Q E ->
   ∃t,PSs (wQ CX0 P w K mg base N qual (zo st) f cdv A outer s H E).nox (zW st) t/\t { nx:=fun _ H'=>Q .non H',rt:=Q } (start N vs) H):FnOk P w K mg base CX0 (k+1) f fd ps sp:=by
 obtain ⟨oc,od,kV,doc,pm,an,cdv,ct,osl,rfl,lk,hcd⟩:=F.ex
 refine ze8 lk hcd S len fun A outer s H vs Q E hr hsp=>?_
 obtain ⟨t,h,q⟩:=hbody cdv A outer s H vs Q E hr hsp
 exact ⟨t,h.nox,q⟩
theorem Fun.binds {x qual:Str}{st:Stmt}{f:Addr}{fd:FuncData}{ps:List Str}(F:Fun K x qual st f fd)
  (h:∀ (kV doc pm:Value) (an:Option Addr) (cdv ct:Value) (us:List Value),us.length=ps.length->bindArgs (PySem.W.fnOf x qual (xR st) (zW st) (zo st) .none kV doc pm an cdv ct) ⟨us,[]⟩=pure (ps.zip us)):Binds K fd ps []:=by
 obtain ⟨oc,od,kV,doc,pm,an,cdv,ct,osl,rfl,lk,hcd⟩:=F.ex
 exact .all (h kV doc pm an cdv ct)
theorem qz {x qual:Str}{st:Stmt}{f:Addr}{oc:Value}{od an:Option Addr}{osl:Array (Option Value)}{kV doc pm cdv ct:Value}(l:K.lookup f=some ⟨oc,od,.func (PySem.W.fnOf x qual (xR st) (zW st) (zo st) .none kV doc pm an cdv ct),osl⟩)
  (c:PySem.W.codeIn K cdv qual=true) (k:PySem.W.keepIn K (.ref f)=true):Fun K x qual st f (PySem.W.fnOf x qual (xR st) (zW st) (zo st) .none kV doc pm an cdv ct):=⟨⟨oc,od,kV,doc,pm,an,cdv,ct,osl,rfl,l,c⟩,k⟩
end
theorem za7 {n:Nat}(h:n<=1000):n < sizeLine:=Nat.lt_of_le_of_lt h (by decide)
theorem jT {A B:Prop}(h:B):if false=true then A else B:=by
 rw[if_neg Bool.false_ne_true]
 exact h
theorem gD {A B:Prop}(h:A):if true=true then A else B:=by
 rw[if_pos rfl]
 exact h
noncomputable def wH (env:Env):List (Str×NameKind)->List (Str×Addr)->List (Str×Addr)
 | [],acc=>acc
 | (n,k)::r,acc=>if k == .free then wH env r ((n,(env.cells.lookup n).getD 0)::acc) else wH env r acc
theorem wR {env:Env}(f:Str×NameKind->List (Str×Addr)->Sem (ForInStep (List (Str×Addr))))
  (hf:∀n k cs,f (n,k) cs=if k == .free then (do let a <- cellOf env n;pure (.yield ((n,a)::cs))) else pure (.yield cs)) :
  ∀ (names:List (Str×NameKind)) (acc:List (Str×Addr)),(∀y∈names,y.2=.free->∃c,env.cells.lookup y.1=some c)->forIn names acc f=pure (wH env names acc)
 | [],acc,_=>by rw[List.forIn_nil];rfl
 | (n,k)::r,acc,h=>by
  have ih:=wR f hf r
  rw[List.forIn_cons,hf]
  unfold wH
  cases hk:k == NameKind.free with
  | true =>
   obtain ⟨c,hc⟩:=h (n,k) List.mem_cons_self (by simpa using hk)
   have hc':env.cells.lookup n=some c:=hc
   have e1:cellOf env n=pure c:=by unfold cellOf;rw[hc']
   simp only[if_true,e1,hc',Option.getD_some,pure_bind]
   exact ih _ fun y hy=>h y (List.mem_cons_of_mem _ hy)
  | false =>
   simp only[Bool.false_eq_true,if_false,pure_bind]
   exact ih _ fun y hy=>h y (List.mem_cons_of_mem _ hy)
theorem kH {scope:Scope}{env:Env}(h:∀y∈scope.names,y.2=.free->∃c,env.cells.lookup y.1=some c):closureFor scope env=pure (wH env scope.names []):=by
 unfold closureFor
 simp only[]
 rw[wR (env:=env) _ (fun n k cs=>by cases hk:k == NameKind.free <;> simp[hk]) scope.names [] h]
 rfl
theorem ww {env:Env}{y:Str}{c:Addr}:∀ {names:List (Str×NameKind)}{acc:List (Str×Addr)},(∀z∈names,z.2=.free->∃c,env.cells.lookup z.1=some c)->(wH env names acc).lookup y=some c ->
  acc.lookup y=some c\/((y,NameKind.free)∈names/\env.cells.lookup y=some c)
 | [],acc,_,e=>.inl e
 | (n,k)::r,acc,h,e=>by
  unfold wH at e
  have h':∀z∈r,z.2=.free->∃c,env.cells.lookup z.1=some c:=fun z hz=>h z (List.mem_cons_of_mem _ hz)
  cases hk:k == NameKind.free with
  | true =>
   have hk':k=.free:=by simpa using hk
   subst hk'
   rw[hk,if_pos rfl] at e
   rcases ww h' e with q | ⟨q1,q2⟩
   .rw[List.lookup_cons] at q
    cases hy:y == n with
    | true =>
     rw[hy] at q
     have:y=n:=by simpa using hy
     subst this
     obtain ⟨c',hc'⟩:=h (y,.free) List.mem_cons_self rfl
     have hc'':env.cells.lookup y=some c':=hc'
     rw[hc''] at q
     refine .inr ⟨List.mem_cons_self,?_⟩
     rw[hc''];exact q
    | false=>rw[hy] at q;exact .inl q
   .exact .inr ⟨List.mem_cons_of_mem _ q1,q2⟩
  | false =>
   rw[hk,if_neg (by simp)] at e
   rcases ww h' e with q | ⟨q1,q2⟩
   .exact .inl q
   .exact .inr ⟨List.mem_cons_of_mem _ q1,q2⟩
theorem vA {env:Env}{y:Str}:∀ {names:List (Str×NameKind)}{acc:List (Str×Addr)},((y,NameKind.free)∈names\/(acc.lookup y).isSome=true)->((wH env names acc).lookup y).isSome=true
 | [],acc,h=>by
  rcases h with h | h
  .cases h
  .exact h
 | (n,k)::r,acc,h=>by
  unfold wH
  cases hk:k == NameKind.free with
  | true =>
   rw[if_pos rfl]
   refine vA ?_
   rcases h with h | h
   .rcases List.mem_cons.mp h with e | e
    .cases e
     exact .inr (by rw[List.lookup_cons];simp)
    .exact .inl e
   .refine .inr ?_
    rw[List.lookup_cons]
    split
    .rfl
    .exact h
  | false =>
   rw[if_neg (by simp)]
   refine vA ?_
   rcases h with h | h
   .rcases List.mem_cons.mp h with e | e
    .cases e;cases hk
    .exact .inl e
   .exact .inr h
theorem zcf {y:Str}{c:Addr}:∀ {names:List (Str×NameKind)}{h:Heap}{acc:List (Str×Addr)},(cellsFrom h.objs.size names acc).lookup y=some c ->
  acc.lookup y=some c\/(h.objs.size<=c/\(pushCells h names).IsCell c none/\(y,NameKind.cell)∈names)
 | [],h,acc,e=>.inl e
 | (n,k)::r,h,acc,e=>by
  unfold cellsFrom at e
  cases hk:k == NameKind.cell with
  | true =>
   have hk':k=.cell:=by simpa using hk
   subst hk'
   rw[hk,if_pos rfl] at e
   have ih:=zcf (y:=y) (c:=c) (names:=r) (h:=h.push { cls:=.type "cell",data:=.cell none }) (acc:=(n,h.objs.size)::acc)
   rw[Heap.size_push] at ih
   have hp:pushCells h ((n,NameKind.cell)::r)=pushCells (h.push { cls:=.type "cell",data:=.cell none }) r:=by
    exact if_pos hk
   rcases ih e with q | ⟨q1,q2,q3⟩
   .rw[List.lookup_cons] at q
    cases hy:y == n with
    | true =>
     rw[hy] at q
     cases q
     have hyn:y=n:=by simpa using hy
     subst hyn
     refine .inr ⟨Nat.le_refl _,?_,List.mem_cons_self⟩
     rw[hp]
     exact ⟨_,pushCells_keeps _ _ _ _ (Heap.get?_push_size _ rfl),rfl⟩
    | false=>rw[hy] at q;exact .inl q
   .exact .inr ⟨Nat.le_trans (Nat.le_succ _) q1,by rw[hp];exact q2,List.mem_cons_of_mem _ q3⟩
  | false =>
   rw[hk,if_neg (by simp)] at e
   have hp:pushCells h ((n,k)::r)=pushCells h r:=by
    show (if (k == NameKind.cell)=true then _ else _)=_
    rw[hk,if_neg (by simp)]
   rcases zcf e with q | ⟨q1,q2,q3⟩
   .exact .inl q
   .exact .inr ⟨q1,by rw[hp];exact q2,List.mem_cons_of_mem _ q3⟩
theorem zcg {y:Str}{c:Addr}{lo:Nat}:∀ {names:List (Str×NameKind)}{n:Nat}{acc:List (Str×Addr)},((y,NameKind.cell)∈names\/∀c,acc.lookup y=some c->lo<=c)->lo<=n->(cellsFrom n names acc).lookup y=some c->lo<=c
 | [],n,acc,h,_,e=>by
  rcases h with h | h
  .cases h
  .exact h c e
 | (m,k)::r,n,acc,h,hn,e=>by
  unfold cellsFrom at e
  cases hk:k == NameKind.cell with
  | true =>
   rw[hk,if_pos rfl] at e
   refine zcg ?_ (Nat.le_trans hn (Nat.le_succ _)) e
   by_cases hy:y=m
   .subst hy
    refine .inr fun c hc=>?_
    rw[List.lookup_cons,beq_self_eq_true] at hc
    cases hc
    exact hn
   .rcases h with h | h
    .rcases List.mem_cons.mp h with z | z
     .cases z;exact absurd rfl hy
     .exact .inl z
    .refine .inr fun c hc=>?_
     rw[List.lookup_cons] at hc
     have:(y == m)=false:=by simpa using hy
     rw[this] at hc
     exact h c hc
  | false =>
   rw[hk,if_neg (by simp)] at e
   refine zcg ?_ hn e
   rcases h with h | h
   .rcases List.mem_cons.mp h with z | z
    .cases z;cases hk
    .exact .inl z
   .exact .inr h
theorem qB:∀ {names:List (Str×NameKind)}{n:Nat}{acc:List (Str×Addr)},(∀y z c,acc.lookup y=some c->acc.lookup z=some c->y=z)->(∀y c,acc.lookup y=some c->c < n) ->
  ∀y z c,(cellsFrom n names acc).lookup y=some c->(cellsFrom n names acc).lookup z=some c->y=z
 | [],n,acc,hi,_=>hi
 | (m,k)::r,n,acc,hi,hl=>by
  unfold cellsFrom
  cases hk:k == NameKind.cell with
  | true =>
   rw[if_pos rfl]
   refine qB (fun y z c e1 e2=>?_) fun y c e=>?_
   .rw[List.lookup_cons] at e1 e2
    cases hy:y == m <;> cases hz:z == m <;> rw[hy] at e1 <;> rw[hz] at e2
    .exact hi y z c e1 e2
    .cases e2;exact absurd (hl y _ e1) (Nat.lt_irrefl _)
    .cases e1;exact absurd (hl z _ e2) (Nat.lt_irrefl _)
    .exact (by simpa using hy:y=m).trans (by simpa using hz:z=m).symm
   .rw[List.lookup_cons] at e
    cases hy:y == m <;> rw[hy] at e
    .exact Nat.lt_succ_of_lt (hl y c e)
    .cases e;exact Nat.lt_succ_self _
  | false =>
   rw[if_neg (by simp)]
   exact qB hi hl
theorem gE {M:Model}{A:Around}{E:Value->Shared->Prop}{s:Shared}{scope:Scope}{globals:Addr}{cl:List (Str×Addr)}{qual:Str}{outer:Env}{Q:Env->Shared->Prop}
  (hQ:Q { scope:=scope,locals:=s.heap.objs.size,globals:=globals,cells:=cellsFrom (s.heap.objs.size+1) scope.names cl,qual:=qual,func:=none,code:=outer.code,frame:=outer.frame,builtins:=outer.builtins }
   { s with heap:=pushCells (s.heap.push { cls:=.type "dict",data:=.dict #[] }) scope.names }) :
  wpAny M A (newFunctionEnv scope globals cl [] qual none .none (some outer)) Q E s:=by
 simp only[newFunctionEnv,Option.isSome_some,if_true]
 refine wpAny_bind (wpAny_alloc ?_)
 refine wpAny_bind (wpAny_layCells _ (fun name kind cells=>by cases hkc:kind == NameKind.cell <;> simp[hkc]) _ _ _ _ ?_)
 rw[show ({ s with heap:=s.heap.push { cls:=.type "dict",data:=.dict #[] } }:Shared).heap.objs.size=s.heap.objs.size+1 from Heap.size_push ..]
 simp only[List.forIn_nil]
 exact wpAny_bind (wpAny_pure (wpAny_pure hQ))
theorem yf {scope:Scope}{env:Env}{y:Str}:(relabel scope env).names.lookup y=(scope.names.lookup y).map fun k=>if (k == NameKind.free && env.scope.kind == .function && env.kindOf y == some .cell) then NameKind.cell else k:=by
 have all:∀l:List (Str×NameKind),(l.map fun (n,k)=>if (k == NameKind.free && env.scope.kind == .function && env.kindOf n == some .cell) then (n,NameKind.cell) else (n,k)).lookup y=(l.lookup y).map fun k=>if (k == NameKind.free && env.scope.kind == .function && env.kindOf y == some .cell) then NameKind.cell else k:=by
  intro l
  induction l with
  | nil=>rfl
  | cons p r ih =>
   obtain ⟨n,k⟩:=p
   rw[List.map_cons,List.lookup_cons]
   by_cases hc:(k == NameKind.free && env.scope.kind == .function && env.kindOf n == some .cell)=true
   .simp only[hc,if_true,List.lookup_cons]
    cases hy:y == n with
    | true =>
     have:y=n:=by simpa using hy
     subst this
     simp only[Option.map_some,hc,if_true]
    | false=>exact ih
   .simp only[if_neg hc,List.lookup_cons]
    cases hy:y == n with
    | true =>
     have:y=n:=by simpa using hy
     subst this
     simp only[Option.map_some,if_neg hc]
    | false=>exact ih
 exact all scope.names
noncomputable def dum (x:Str):Str:=⟨x.cps.push 0⟩
noncomputable def xh (N xs:List Str):List Str:=(N.map fun y=>if y∈xs then dum y else y)++xs
theorem za8 (N xs:List Str):(xh N xs).length=N.length+xs.length:=by simp[xh]
theorem wI (N xs:List Str)(j:Nat):(xh N xs)[N.length+j]?=xs[j]?:=by
 unfold xh
 rw[List.getElem?_append_right (by simp)]
 simp
theorem za9 {N xs:List Str}{y:Str}{i:Nat}(hi:i < N.length)(h:(xh N xs)[i]?=some y):(∃x∈xs,y=dum x)\/(N[i]?=some y/\y∉xs):=by
 unfold xh at h
 rw[List.getElem?_append_left (by simpa using hi),List.getElem?_map] at h
 obtain ⟨z,hz⟩:∃z,N[i]?=some z:=⟨N[i],by simp[hi]⟩
 rw[hz] at h
 by_cases e:z∈xs
 .simp only[Option.map_some,if_pos e] at h
  exact .inl ⟨z,e,(Option.some.inj h).symm⟩
 .simp only[Option.map_some,if_neg e] at h
  have e2:z=y:=Option.some.inj h
  subst e2
  exact .inr ⟨hz,e⟩
structure CompOf (X:Cx)(scope:Scope)(xs:List Str)(Xc:Cx):Prop where
 prog:Xc.prog=X.prog
 w:Xc.w=X.w
 K:Xc.K=X.K
 mg:Xc.mg=X.mg
 base:Xc.base=X.base
 A:Xc.A=X.A
 N:Xc.N=xh X.N xs
 sc:Xc.env.scope=relabel scope X.env
 calm:Xc.calm=true
 stack:Xc.stack=X.stack
def PTs (X:Cx)(ifs:List Expr)(t:TT):Prop :=
 ∀ (pins:List (Addr×Obj)) (s:Shared) (σ:St) (H:Hp) (Q:Bool->Hp->Prop),Inv X pins σ H s->t σ H Q ->
  wpAny (model X.prog X.w) X.A (forIn ifs true fun c r=>if r=true then do let ok <- isTrue c X.env (eval c X.env);pure (ForInStep.yield ok) else pure (ForInStep.yield r)) (TP X pins σ Q) X.xe s
theorem kg {X:Cx}:PTs X [] (fun _ H Q=>Q true H):=fun _ _ _ H _ I h=>wpAny_tests_nil ⟨H,I,h⟩
structure BlockOk (X:Cx)(scope:Scope)(xs:List Str):Prop where
 kind:scope.kind=.function
 own:∀x∈xs,scope.names.lookup x=some .local\/scope.names.lookup x=some .cell
 locs:∀y∈scope.names,y.2=.local->scope.names.lookup y.1=some .local
 free:∀y∈scope.names,y.2=.free->X.env.scope.names.lookup y.1=some .cell\/X.env.scope.names.lookup y.1=some .free
 alone:∀y∈X.N,y∉xs->scope.names.lookup y≠some .local/\scope.names.lookup y≠some .cell
 one:∀y∈scope.names,y.2=.cell->scope.names.lookup y.1≠some .free
 nd:(xh X.N xs).Nodup
 dumN:∀x∈xs,scope.names.lookup (dum x)=none
theorem jU {prog:Program}{w:World}{A:Around}{R:Result->Shared->Prop}{s:Shared}{elt target iter:Expr}{ifs:List Expr}{scope:Scope}{pos:Pos}{it acc:Value}{env:Env}(I:Nat->Shared->Prop)
  (turn:∀n s,I n s->wpAny (model prog w) A (pyNext it) (fun r s₁=>match r with
   | none=>R (.ok .next) s₁
   | some v=>wpAny (model prog w) A (letOwnedTupleGo target it v) (fun _ s₁'=>wpAny (model prog w) A (assign target env v) (fun _ s₂ =>
     wpAny (model prog w) A (forIn ifs true fun c r=>if r=true then do let ok <- isTrue c env (eval c env);pure (ForInStep.yield ok) else pure (ForInStep.yield r)) (fun ok s₃ =>
      if ok=true then wpAny (model prog w) A (eval elt env) (fun x s₄ =>
       wpAny (model prog w) A (call (.builtin "list.append") [acc,x]) (fun _ s₅=>∃m,m < n/\I m s₅) (notedBy (model prog w) A env fun e s'=>R (.error e) s') s₄) (notedBy (model prog w) A env fun e s'=>R (.error e) s') s₃
      else ∃m,m < n/\I m s₃) (notedBy (model prog w) A env fun e s'=>R (.error e) s') s₂) (notedBy (model prog w) A env fun e s'=>R (.error e) s') s₁') (notedBy (model prog w) A env fun e s'=>R (.error e) s') s₁) (notedBy (model prog w) A env fun e s'=>R (.error e) s') s)
  (n:Nat) (h:I n s):codeAny (model prog w) A (.compLoop (.ListComp elt [⟨target,iter,ifs,0⟩] scope pos) 0 it acc env) R s:=by
 refine codeAny_loop rfl I (fun n s hI=>?_) n h
 show wpAny _ A ((compTurn (.ListComp elt [⟨target,iter,ifs,0⟩] scope pos) 0 it acc env).onRaise (fun x=>do noteFrame x env;theTreesLotGoes x)) _ _ s
 refine wpAny_noted ?_
 rw[compTurn_list]
 refine wpAny_bind (wpAny_standAt (wpAny_bind (wpAny_mono (turn n s hI) (fun r s₁ h₁=>?_) fun _ _ h'=>h')))
 cases r with
 | none=>exact wpAny_pure h₁
 | some v =>
  refine wpAny_bind (wpAny_mono h₁ (fun _ s₁' h₁'=>?_) fun _ _ h'=>h')
  refine wpAny_bind (wpAny_mono h₁' (fun _ s₂ h₂=>wpAny_bind (wpAny_mono h₂ (fun ok s₃ h₃=>?_) fun _ _ h'=>h')) fun _ _ h'=>h')
  cases ok with
  | false=>exact wpAny_pure ⟨rfl,h₃⟩
  | true =>
   exact wpAny_bind (wpAny_bind (wpAny_mono h₃ (fun x s₄ h₄=>wpAny_bind (wpAny_mono h₄ (fun _ s₅ h₅=>wpAny_pure (wpAny_pure ⟨rfl,h₅⟩)) fun _ _ h'=>h')) fun _ _ h'=>h'))
def jA (un:V->Hp->List V->Prop)(wi:TI)(tc:TT)(te:TE):TE:=fun σ H Q=>wi σ H fun J H1=>∀D,H1 D=none->∃W:Nat->Nat->List V->Hp->Prop,(∃m,W 0 m [] (upd H1 D (.lst [])))/\∀i m ys H,W i m ys H ->
 (J.stop i H/\Q (.ref D) H)\/(J.go i H/\∀v H',J.yld i H v H'->∃vs,un v H' vs/\tc (σ++vs.map some) H' fun b H2=>if b=true then te (σ++vs.map some) H2 fun y H3=>H3 D=some (.lst ys)/\ys.length < sizeLine/\∃m',m' < m/\W (i+1) m' (ys++[y]) (upd H3 D (.lst (ys++[y])))
  else ∃m',m' < m/\W (i+1) m' ys H2)
theorem kI {X:Cx}{elt iter tg:Expr}{xs:List Str}{g:TG}{un:V->Hp->List V->Prop}{ifs:List Expr}{scope:Scope}{pos:Pos}{tc:TT}{te:TE}{pins:List (Addr×Obj)}{σ:St}{s:Shared}{H:Hp}{Q:Value->Shared->Prop}{use:Option (Value->Sem Unit)}
  {D it:Addr}{fp:List Addr}{tn:Nat->Heap->Prop}{J:It}(B:BlockOk X scope xs) (hc:X.calm=true)
  (hpg:∀Xc,CompOf X scope xs Xc->(∀x∈xs,Loc Xc.env.scope x/\(Xc.fn x=true\/Xc.env.scope.names.lookup x=some .local))->PG Xc tg g)
  (hun:∀v H vs os,os.length=xs.length->un v H vs->vs.length=xs.length/\g v (σ++os) H fun σ2 H2=>σ2=σ++vs.map some/\H2=H)
  (hbody:∀Xc,CompOf X scope xs Xc->PTs Xc ifs tc/\PE Xc elt te)
  (I:Inv X pins σ H s) (T:Turn X.prog X.w X.K tg J fp it tn) (st:tn 0 s.heap) (hfp:∀b∈fp,vZ X pins H b)
  (W:Nat->Nat->List V->Hp->Prop) (m0:Nat) (w0:W 0 m0 [] H)
  (turn:∀i m ys H,W i m ys H->(J.stop i H/\∀s' m' C,Inv X pins σ H s'->s'.heap.Ns C m'->s.heap.objs.size<=C->H C=none->compPost (model X.prog X.w) X.A X.xe use Q (.ref D) C (.ok .next) s') \/
   (J.go i H/\∀v H',J.yld i H v H'->∃vs,un v H' vs/\tc (σ++vs.map some) H' fun b H2=>if b=true then te (σ++vs.map some) H2 fun y H3=>H3 D=some (.lst ys)/\ys.length < sizeLine/\∃m',m' < m/\W (i+1) m' (ys++[y]) (upd H3 D (.lst (ys++[y])))
    else ∃m',m' < m/\W (i+1) m' ys H2)) :
  wpAny (model X.prog X.w) X.A (newFunctionEnv scope X.env.globals (wH X.env scope.names []) [] X.env.qual none .none (some X.env)) (fun cenv s₄ =>
   codeAny (model X.prog X.w) X.A (.compStart (.ListComp elt [⟨tg,iter,ifs,0⟩] scope pos) 0 (.ref it) (.ref D) { cenv with scope:=relabel scope X.env }) (compPost (model X.prog X.w) X.A X.xe use Q (.ref D) cenv.locals) s₄) X.xe s:=by
 refine gE ?_
 have hcl:∀y∈scope.names,y.2=.free->∃c,X.env.cells.lookup y.1=some c:=fun y hy hf=>by
  rcases B.free y hy hf with q | q
  .exact I.ok.has y.1 (.inl q)
  .exact I.ok.has y.1 (.inr q)
 -- the block's own parts
 generalize hC:s.heap.objs.size=C
 generalize hcs:cellsFrom (C+1) scope.names (wH X.env scope.names [])=cs
 generalize hh4:pushCells (s.heap.push { cls:=.type "dict",data:=.dict #[] }) scope.names=h4
 have szP:(s.heap.push { cls:=.type "dict",data:=.dict #[] }).objs.size=C+1:=by rw[Heap.size_push,hC]
 have keep4:∀b o,s.heap.get? b=some o->h4.get? b=some o:=fun b o e=>hh4▸pushCells_keeps _ _ _ _ (Heap.get?_push_of_some _ e)
 have nsC:h4.Ns C (fun _=>none):=by
  have q:=(Heap.Ns.new s.heap (.type "dict")).keeps (pushCells_keeps scope.names (s.heap.push { cls:=.type "dict",data:=.dict #[] }))
  rw[hC,hh4] at q
  exact q
 -- a cell of the block: one of its own,or one of those around
 have csIn:∀y c,cs.lookup y=some c->((y,NameKind.free)∈scope.names/\X.env.cells.lookup y=some c)\/(C+1<=c/\h4.IsCell c none/\(y,NameKind.cell)∈scope.names):=fun y c e=>by
  have q:=zcf (y:=y) (c:=c) (names:=scope.names) (h:=s.heap.push { cls:=.type "dict",data:=.dict #[] }) (acc:=wH X.env scope.names [])
  rw[szP,hcs,hh4] at q
  rcases q e with q | q
  .rcases ww hcl q with z | z
   .cases z
   .exact .inl z
  .exact .inr q
 have oldC:∀y c,X.env.cells.lookup y=some c->c < C:=fun y c e=>by
  obtain ⟨v,q⟩:=I.cell y c e
  rw[<- hC];exact q.lt
 have fpC:∀b∈fp,b < C:=fun b hb=>by
  obtain ⟨o,e,_⟩:=T.obj _ _ st b hb
  rw[<- hC];exact Heap.lt_size e
 let cenv:Env:={ scope:=relabel scope X.env,locals:=C,globals:=X.env.globals,cells:=cs,qual:=X.env.qual,func:=none,code:=X.env.code,frame:=X.env.frame,builtins:=X.env.builtins }
 let RR:Result->Shared->Prop:=compPost (model X.prog X.w) X.A X.xe use Q (.ref D) C
 let Xc:Cx:={ X with N:=xh X.N xs,s₀:=s,H₀:=H,env:=cenv,outer:=X.stack,stack:=X.stack,ex:=fp,fn:=fun y=>decide (scope.names.lookup y=some .cell),calm:=true,pn:=[],xe:=notedBy (model X.prog X.w) X.A cenv fun e s'=>RR (.error e) s' }
 have hXc:CompOf X scope xs Xc:=⟨rfl,rfl,rfl,rfl,rfl,rfl,rfl,rfl,rfl,rfl⟩
 obtain ⟨hT,hE⟩:=hbody Xc hXc
 have ok:Xc.Ok:=by
  refine ⟨I.ok.mod,B.kind,I.ok.glob,I.ok.blt,Nat.le_of_eq hC,?_,fun y hy=>?_,fun y c hf e=>?_,fun _=>I.ok.hd hc,I.ok.frames,.inl rfl,fun b hb=>⟨Nat.ne_of_lt (fpC b hb),fun y c e=>?_⟩,I.bs,Nat.le_trans I.ok.bsz I.sz,fun b o e hb=>?_,fun b hb hf=>?_,I.stack,I.stkFree⟩
  .show ∀y z c,cs.lookup y=some c->cs.lookup z=some c->y=z
   rw[<- hcs]
   refine qB (fun y z c e1 e2=>?_) fun y c e=>?_
   .rcases ww hcl e1 with q | q
    .cases q
    .rcases ww hcl e2 with q' | q'
     .cases q'
     .exact I.ok.inj y z c q.2 q'.2
   .rcases ww hcl e with q | q
    .cases q
    .exact Nat.lt_succ_of_lt (oldC y c q.2)
  .have hy':(relabel scope X.env).names.lookup y=some .cell\/(relabel scope X.env).names.lookup y=some .free:=hy
   rw[yf] at hy'
   show ∃c,cs.lookup y=some c
   rw[<- hcs]
   refine Option.isSome_iff_exists.mp (PySem.W.cellsFrom_some _ _ _ ?_)
   cases hk:scope.names.lookup y with
   | none=>rw[hk] at hy';rcases hy' with z | z <;> cases z
   | some k =>
    rw[hk] at hy'
    have kk:k=.cell\/k=.free:=by
     simp only[Option.map_some] at hy'
     by_cases hcnd:(k == NameKind.free && X.env.scope.kind == .function && X.env.kindOf y == some .cell)=true
     .refine .inr ?_
      have:=(Bool.and_eq_true_iff.mp (Bool.and_eq_true_iff.mp hcnd).1).1
      simpa using this
     .rw[if_neg hcnd] at hy'
      rcases hy' with z | z
      .exact .inl (Option.some.inj z)
      .exact .inr (Option.some.inj z)
    rcases kk with rfl | rfl
    .exact .inl rfl
    .exact .inr (vA (.inl (PySem.mem_of_lookup hk)))
  .show s.heap.objs.size<=c
   rw[hC]
   have e':cs.lookup y=some c:=e
   rw[<- hcs] at e'
   exact Nat.le_trans (Nat.le_succ _) (zcg (lo:=C+1) (.inl (PySem.mem_of_lookup (of_decide_eq_true hf))) (Nat.le_refl _) e')
  .show c≠b
   rintro rfl
   rcases csIn y c e with ⟨_,z⟩ | ⟨z,_,_⟩
   .exact (hfp c hb).2.2.2.2.1 y c z rfl
   .exact absurd (Nat.lt_of_lt_of_le (fpC c hb) (Nat.le_trans (Nat.le_succ _) z)) (Nat.lt_irrefl _)
  .rcases (hfp b hb).2.2.2.1 with z | z
   .exact I.ok.noex b o e z
   .exact absurd (Nat.lt_of_lt_of_le (Heap.lt_size (I.ok.bs b o e).1) z) (Nat.lt_irrefl _)
  .rcases List.mem_cons.mp (I.stkSub b hf) with z | z
   .exact (hfp b hb).2.1 z
   .exact (hfp b hb).2.2.1 z
 have frC:H C=none:=I.hok.fresh (Nat.le_of_eq hC)
 have frN:∀c,C<=c->H c=none:=fun c hc'=>I.hok.fresh (by rw[hC];exact hc')
 have hσ:σ.length=X.N.length:=I.len
 have I4:Inv Xc [] (σ++xs.map fun _=>none) H { s with heap:=h4 }:=by
  refine ⟨ok,rfl,I.bare,Un.kept keep4,⟨_,nsC,fun i y v e1 e2 e3=>?_⟩,fun y c e=>?_,frC,fun y c e=>?_,fun p hp=>absurd (show p∈([]:List (Addr×Obj)) from hp) (by simp),I.hok.kept keep4,?_⟩
  .have hi:i < σ.length:=by
    by_cases hi:i < σ.length
    .exact hi
    .rw[List.getElem?_append_right (by lia),List.getElem?_map] at e2
     cases hz:xs[i - σ.length]? with
     | none=>rw[hz] at e2;simp at e2
     | some k=>rw[hz] at e2;simp at e2
   rw[List.getElem?_append_left hi] at e2
   have vis:scope.names.lookup y=some .local\/scope.names.lookup y=some .cell\/scope.names.lookup y=some .free:=by
    have e3':Vis (relabel scope X.env) y:=e3
    unfold Vis at e3'
    rw[yf] at e3'
    cases hk:scope.names.lookup y with
    | none=>rw[hk] at e3';rcases e3' with z | z | z <;> cases z
    | some k =>
     rw[hk] at e3'
     simp only[Option.map_some] at e3'
     by_cases hcnd:(k == NameKind.free && X.env.scope.kind == .function && X.env.kindOf y == some .cell)=true
     .have:=(Bool.and_eq_true_iff.mp (Bool.and_eq_true_iff.mp hcnd).1).1
      exact .inr (.inr (by rw[show k=.free by simpa using this]))
     .rw[if_neg hcnd] at e3'
      exact e3'
   rcases za9 (by rw[<- hσ];exact hi) e1 with z | ⟨z,zx⟩
   .obtain ⟨x,hx,z⟩:=z
    subst z
    rw[B.dumN x hx] at vis
    rcases vis with q | q | q <;> cases q
   .have hfree:scope.names.lookup y=some .free:=by
     rcases vis with q | q | q
     .exact absurd q (B.alone y (List.mem_of_getElem? z) zx).1
     .exact absurd q (B.alone y (List.mem_of_getElem? z) zx).2
     .exact q
    have kout:=B.free _ (PySem.mem_of_lookup hfree) rfl
    obtain ⟨m,hn,hl⟩:=I.loc
    obtain ⟨u,r,l⟩:=hl i y v z e2 (kout.elim (fun q=>.inr (.inl q)) fun q=>.inr (.inr q))
    refine ⟨u,r,?_⟩
    rcases l with ⟨k,_⟩ | ⟨_,c,ec,zc⟩
    .have k':X.env.scope.names.lookup y=some .local:=k
     rcases kout with q | q <;> rw[k'] at q <;> cases q
    .have hsome:∃c',cs.lookup y=some c':=ok.has y (by
      show (relabel scope X.env).names.lookup y=some .cell\/(relabel scope X.env).names.lookup y=some .free
      rw[yf,hfree]
      simp only[Option.map_some]
      split
      .exact .inl rfl
      .exact .inr rfl)
     obtain ⟨c',ec'⟩:=hsome
     refine .inr ⟨?_,c',ec',?_⟩
     .show (relabel scope X.env).names.lookup y=some .cell\/(relabel scope X.env).names.lookup y=some .free
      rw[yf,hfree]
      simp only[Option.map_some]
      split
      .exact .inl rfl
      .exact .inr rfl
     .rcases csIn y c' ec' with ⟨_,q⟩ | ⟨_,_,q⟩
      .rw[ec] at q;cases q
       exact zc.keeps keep4
      .exact absurd hfree (B.one (y,.cell) q rfl)
  .rcases csIn y c e with ⟨_,q⟩ | ⟨_,q,_⟩
   .obtain ⟨v,z⟩:=I.cell y c q
    exact ⟨v,z.keeps keep4⟩
   .exact ⟨_,q⟩
  .rcases csIn y c e with ⟨_,q⟩ | ⟨q,_,_⟩
   .exact I.freeC y c q
   .exact frN c (by lia)
  .show (σ++xs.map fun _=>none).length=(xh X.N xs).length
   rw[za8,List.length_append,hσ,List.length_map]
 -- the loop
 have hLoc:∀x∈xs,Loc Xc.env.scope x/\(Xc.fn x=true\/Xc.env.scope.names.lookup x=some .local):=fun x hx=>by
  constructor
  .show (relabel scope X.env).names.lookup x=some .local\/(relabel scope X.env).names.lookup x=some .cell
   rw[yf]
   rcases B.own x hx with q | q <;> rw[q]
   .exact .inl rfl
   .exact .inr rfl
  .rcases B.own x hx with q | q
   .refine .inr ?_
    show (relabel scope X.env).names.lookup x=some .local
    rw[yf,q];rfl
   .exact .inl (decide_eq_true q)
 have hg:PG Xc tg g:=hpg Xc hXc hLoc
 have fpX:∀ {H':Hp},(∀b∈fp,H' b=none)->∀b∈fp,vZ Xc [] H' b:=fun hn b hb =>
  ⟨hn b hb,Nat.ne_of_lt (fpC b hb),fun z=>ok.exfs b hb z,.inl hb,fun y c e=>(ok.exf b hb).2 y c e,fun p hp=>absurd (show p∈([]:List (Addr×Obj)) from hp) (by simp)⟩
 have loop:codeAny (model X.prog X.w) X.A (.compLoop (.ListComp elt [⟨tg,iter,ifs,0⟩] scope pos) 0 (.ref it) (.ref D) cenv) RR { s with heap:=h4 }:=by
  refine jU (fun n s'=>∃i os ys H',os.length=xs.length/\Inv Xc [] (σ++os) H' s'/\tn i s'.heap/\(∀b∈fp,H' b=none)/\W i n ys H') ?_ m0 ⟨0,_,[],H,List.length_map _,I4,T.keep _ _ _ st fun b _ o e=>keep4 b o e,fun b hb=>(hfp b hb).1,w0⟩
  rintro n s3 ⟨i,os,ys,H3,hos,I3,st3,fr3,w3⟩
  rcases turn i n ys H3 w3 with ⟨stop,fin⟩ | ⟨go,step⟩
  .refine thn (T.done Xc rfl rfl rfl rfl i [] s3 (σ++os) H3 Xc.xe I3 (fpX fr3) st3 stop) fun r s4 ⟨hr,I4⟩=>?_
   subst hr
   obtain ⟨m,hn,_⟩:=id I4.loc
   refine fin s4 m C ?_ hn (Nat.le_of_eq hC) I4.free
   exact I.call' (ch:=fp) I4.os I4.base I4.hok I4.bare fun b hb=>⟨(hfp b hb).2.2.2.1,(hfp b hb).2.1,(hfp b hb).2.2.2.2.1,(hfp b hb).2.2.2.2.2⟩
  .refine thn (T.item Xc rfl rfl rfl rfl i [] s3 (σ++os) H3 Xc.xe I3 (fpX fr3) st3 go) fun r s4 ⟨u,hr,h4'⟩=>?_
   subst hr
   refine thn h4' fun _ s5 ⟨v,H5,I5,r5,y5,st5,fr5⟩=>?_
   have I5':=I5.pinned (fpX fr5) (T.obj _ _ st5)
   obtain ⟨vs,hvs,step5⟩:=step v H5 y5
   obtain ⟨hvl,hset⟩:=hun v H5 vs os hos hvs
   refine thn (hg _ s5 (σ++os) H5 v u (fun σ2 H2=>σ2=σ++vs.map some/\H2=H5) I5' r5 hset) fun _ s6 ⟨σ6,H6,I6,e6,e6'⟩=>?_
   subst e6;subst e6'
   have back:∀ {H7:Hp}{s7:Shared},Inv Xc ([]++kD fp s5.heap) (σ++vs.map some) H7 s7->tn (i+1) s7.heap/\(∀b∈fp,H7 b=none)/\Inv Xc [] (σ++vs.map some) H7 s7:=fun {H7 s7} I7=>by
    refine ⟨T.keep _ _ _ st5 fun b hb ob e=>(I7.pin (b,ob) (List.mem_append_right _ (List.mem_append_right _ (xQ hb e)))).1,fun b hb=>?_,I7.unpinned⟩
    obtain ⟨ob,e,_⟩:=T.obj _ _ st5 b hb
    exact (I7.pin (b,ob) (List.mem_append_right _ (List.mem_append_right _ (xQ hb e)))).2.1
   refine thn (hT _ s6 (σ++vs.map some) H6 _ I6 step5) fun b s7 ⟨H7,I7,q7⟩=>?_
   cases b with
   | false =>
    rw[if_neg Bool.false_ne_true] at q7 ⊢
    obtain ⟨m',hm,w7⟩:=q7
    obtain ⟨t1,t2,t3⟩:=back I7
    exact ⟨m',hm,i+1,_,ys,H7,(by rw[List.length_map];exact hvl),t3,t1,t2,w7⟩
   | true =>
    rw[if_pos rfl] at q7 ⊢
    refine thn (hE _ s7 (σ++vs.map some) H7 _ I7 q7) fun yv s8 ⟨y,H8,I8,r8,hD8,hl8,m',hm,w8⟩=>?_
    refine thn (jy (X:=Xc) _ s8 (σ++vs.map some) H8 (.ref D) [y] (.ref D) [yv] (fun _ H9=>H9=upd H8 D (.lst (ys++[y]))) I8 rfl (.cons r8 .nil) ⟨D,ys,y,rfl,rfl,hD8,hl8,rfl⟩) fun _ s9 ⟨_,H9,I9,_,e9⟩=>?_
    subst e9
    obtain ⟨t1,t2,t3⟩:=back I9
    exact ⟨m',hm,i+1,_,ys++[y],_,(by rw[List.length_map];exact hvl),t3,t1,t2,w8⟩
 refine codeAny_compStart_list loop ?_
 exact T.self X.A 0 _ _ _ (T.keep _ _ _ st fun b _ o e=>keep4 b o e) loop
section
variable {X:Cx}{elt iter tg:Expr}{xs:List Str}{y:Str}{g:TG}{un:V->Hp->List V->Prop}{py:Pos}{ifs:List Expr}{scope:Scope}{pos spos:Pos}{wi:TI}{tc:TT}{te:TE}
theorem Inv.aside {pins:List (Addr×Obj)}{σ:St}{H:Hp}{s:Shared}{C lo:Addr}{h':Heap}(I:Inv X pins σ H s)(hlo:lo<=C)(hL:X.env.locals < lo)(hcell:∀y c,X.env.cells.lookup y=some c->c < lo)(hpin:∀p∈X.pn++pins,p.1 < lo)
  (hn:H C=none) (hs:Heap.SameBut C s.heap h'):Inv X pins σ H { s with heap:=h' } :=
 I.turned (it:=C) (t':=s.toks) (fun b o hb e=>(hs.2 b hb).trans e) hn (Nat.ne_of_gt (Nat.lt_of_lt_of_le hL hlo)) (.inr (Nat.le_trans I.ok.above (Nat.le_trans (Nat.le_of_lt hL) hlo)))
  (fun y c e=>Nat.ne_of_lt (Nat.lt_of_lt_of_le (hcell y c e) hlo)) fun p hp=>Nat.ne_of_lt (Nat.lt_of_lt_of_le (hpin p hp) hlo)
theorem Inv.below {pins:List (Addr×Obj)}{σ:St}{H:Hp}{s:Shared}(I:Inv X pins σ H s):X.env.locals < s.heap.objs.size/\(∀y c,X.env.cells.lookup y=some c->c < s.heap.objs.size)/\∀p∈X.pn++pins,p.1 < s.heap.objs.size :=
 ⟨I.lt,fun y c e=>let ⟨_,z⟩:=I.cell y c e;z.lt,fun p hp=>Heap.lt_size (I.pin p hp).1⟩
theorem wE (B:BlockOk X scope xs)(ok:X.Ok):closureFor scope X.env=pure (wH X.env scope.names []) :=
 kH fun y hy hf=>(B.free y hy hf).elim (fun q=>ok.has y.1 (.inl q)) fun q=>ok.has y.1 (.inr q)
structure Tgt (X:Cx)(scope:Scope)(xs:List Str)(tg:Expr)(g:TG)(un:V->Hp->List V->Prop):Prop where
 pg:∀Xc,CompOf X scope xs Xc->(∀x∈xs,Loc Xc.env.scope x/\(Xc.fn x=true\/Xc.env.scope.names.lookup x=some .local))->PG Xc tg g
 un:∀v H vs os (σ:St),σ.length=X.N.length->os.length=xs.length->un v H vs->vs.length=xs.length/\g v (σ++os) H fun σ2 H2=>σ2=σ++vs.map some/\H2=H
def un1 (v:V)(_:Hp)(vs:List V):Prop:=vs=[v]
theorem zao {x:Str}{px:Pos}(B:BlockOk X scope [x]):Tgt X scope [x] (.Name x px) (vV X.N.length) un1:=by
 refine ⟨fun Xc c h=>?_,fun v H vs os σ hσ ho hv=>?_⟩
 .exact ke (by rw[c.N];exact B.nd) (by rw[c.N];exact wI X.N [x] 0) (h x (by simp)).1 (h x (by simp)).2
 .cases hv
  refine ⟨rfl,?_,rfl⟩
  match os,ho with
  | [o],_ =>
   rw[<- hσ,List.set_append_right _ _ (Nat.le_refl _)]
   simp
def un2 (K:PySem.W.Frag)(v:V)(H:Hp)(vs:List V):Prop:=∃a,v=.ref a/\SqT K H a vs/\vs.length=2
theorem zap {x y:Str}{px py:Pos}{k:Nat}{pt:Pos}(hc:X.calm=true)(B:BlockOk X scope [x,y]):Tgt X scope [x,y] (.Tuple [.Name x px,.Name y py] k pt) (zfr X.K 2 (gx (vV X.N.length) (gx (vV (X.N.length+1)) zfq))) (un2 X.K):=by
 refine ⟨fun Xc c h=>?_,fun v H vs os σ hσ ho hv=>?_⟩
 .have nd:Xc.N.Nodup:=by rw[c.N];exact B.nd
  rw[<- c.K]
  exact zb2 c.calm (wP (ke nd (by rw[c.N];exact wI X.N [x,y] 0) (h x (by simp)).1 (h x (by simp)).2) (wP (ke nd (by rw[c.N];exact wI X.N [x,y] 1) (h y (by simp)).1 (h y (by simp)).2) zaj))
 .obtain ⟨a,e1,e2,e3⟩:=hv
  match vs,e3,os,ho with
  | [u,w],_,[o,p],_ =>
   refine ⟨rfl,a,[u,w],e1,e2,rfl,u,[w],rfl,w,[],rfl,rfl,?_,rfl⟩
   rw[<- hσ,List.set_append_right _ _ (Nat.le_refl _),List.set_append_right _ _ (by lia)]
   simp
theorem jV (B:BlockOk X scope xs)(hc:X.calm=true)(hT:Tgt X scope xs tg g un)(hi:PI X tg iter wi)(hbody:∀Xc,CompOf X scope xs Xc->PTs Xc ifs tc/\PE Xc elt te)
  (hs:∀v,foldedSetIterable iter X.env v=pure v:=by intro _;rfl):PE X (.ListComp elt [⟨tg,iter,ifs,0⟩] scope pos) (jA un wi tc te):=by
 intro pins s σ H Q I h
 rw[eval_ListComp]
 refine wpAny_comprehension_free (use:=none) (cl:=wH X.env scope.names []) rfl hs (wE B I.ok) B.kind B.locs ?_
 refine thn (hi pins s σ H _ I h) fun xv s1 h1=>thn h1 fun itv s2 h2=>?_
 obtain ⟨it,fp,tn,J,H2,e,I2,T,st2,f2,q2⟩:=h2
 subst e
 refine wpAny_newObj_type ?_
 have I3:=I2.lnew (its:=[]) (ys:=[]) (t':=s2.toks) .nil (Nat.zero_le _)
 obtain ⟨W,⟨m0,w0⟩,turn⟩:=q2 s2.heap.objs.size (I2.hok.fresh (Nat.le_refl _))
 have fp3:∀b∈fp,vZ X pins (upd H2 s2.heap.objs.size (.lst [])) b:=fun b hb=>by
  obtain ⟨o,e,_⟩:=T.obj _ _ st2 b hb
  exact ⟨by rw[zd (Nat.ne_of_lt (Heap.lt_size e))];exact (f2 b hb).1,(f2 b hb).2⟩
 obtain ⟨b1,b2,b3⟩:=I3.below
 refine kI B hc hT.pg (fun v H vs os h1 h2=>hT.un v H vs os σ I.len h1 h2) hbody I3 T (T.keep _ _ _ st2 fun b _ o e=>Heap.get?_push_of_some _ e) fp3 W m0 w0 fun i m ys H4 w=>?_
 rcases turn i m ys H4 w with ⟨stop,q⟩ | r
 .exact .inl ⟨stop,fun s' m' C I' hn hC hCn=>⟨m',hn,fun h' hsb=>⟨.ref s2.heap.objs.size,H4,I'.aside hC b1 b2 b3 hCn hsb,rfl,q⟩⟩⟩
 .exact .inr r
theorem qC {i:Nat}(B:BlockOk X scope xs)(hc:X.calm=true)(hT:Tgt X scope xs tg g un)(hi:PI X tg iter wi)(hbody:∀Xc,CompOf X scope xs Xc->PTs Xc ifs tc/\PE Xc elt te)
  (hN:X.N.Nodup) (hy:X.N[i]?=some y) (hx:Loc X.env.scope y) (hf:X.fn y=true\/X.env.scope.names.lookup y=some .local)
  (hsw:swapsWith (.ListComp elt [⟨tg,iter,ifs,0⟩] scope pos) (some (.Name y py)) spos.line X.env=pure true)
  (hs:∀v,foldedSetIterable iter X.env v=pure v:=by intro _;rfl):PS X (.Assign [.Name y py] (.ListComp elt [⟨tg,iter,ifs,0⟩] scope pos) spos) (zdP (jA un wi tc te) (vV i)):=by
 intro pins s σ H D I h
 rw[exec_Assign_Name_used _ _ _ _ hsw]
 refine wpAny_bind (wpAny_standAt (wpAny_bind ?_))
 show wpAny _ X.A (do let _ <- comprehension (.ListComp elt [⟨tg,iter,ifs,0⟩] scope pos) scope X.env _ (newList []) false (eval iter X.env) (some (assign (.Name y py) X.env))) _ _ s
 refine wpAny_bind (wpAny_mono (wpAny_comprehension_free (use:=some (assign (.Name y py) X.env)) (cl:=wH X.env scope.names []) (Q:=fun _ s'=>SP X pins D .next s') rfl hs (wE B I.ok) B.kind B.locs ?_)
  (fun _ s' hq=>wpAny_pure (wpAny_pure hq)) fun _ _ e=>e)
 refine thn (hi pins s σ H _ I h) fun xv s1 h1=>thn h1 fun itv s2 h2=>?_
 obtain ⟨it,fp,tn,J,H2,e,I2,T,st2,f2,q2⟩:=h2
 subst e
 refine wpAny_newObj_type ?_
 have I3:=I2.lnew (its:=[]) (ys:=[]) (t':=s2.toks) .nil (Nat.zero_le _)
 obtain ⟨W,⟨m0,w0⟩,turn⟩:=q2 s2.heap.objs.size (I2.hok.fresh (Nat.le_refl _))
 have fp3:∀b∈fp,vZ X pins (upd H2 s2.heap.objs.size (.lst [])) b:=fun b hb=>by
  obtain ⟨o,e,_⟩:=T.obj _ _ st2 b hb
  exact ⟨by rw[zd (Nat.ne_of_lt (Heap.lt_size e))];exact (f2 b hb).1,(f2 b hb).2⟩
 obtain ⟨b1,b2,b3⟩:=I3.below
 refine kI B hc hT.pg (fun v H vs os h1 h2=>hT.un v H vs os σ I.len h1 h2) hbody I3 T (T.keep _ _ _ st2 fun b _ o e=>Heap.get?_push_of_some _ e) fp3 W m0 w0 fun i' m ys H4 w=>?_
 rcases turn i' m ys H4 w with ⟨stop,q⟩ | r
 .refine .inl ⟨stop,fun s' m' C I' hn hC hCn=>?_⟩
  refine wpAny_assign_Name (jo I' hN hy hx (v:=.ref s2.heap.objs.size) rfl (fun s'' I'' ⟨a,sb,ha⟩=>?_) hf)
  have hCa:C≠a:=by
   rcases ha with rfl | ha
   .exact Nat.ne_of_gt (Nat.lt_of_lt_of_le b1 hC)
   .exact Nat.ne_of_gt (Nat.lt_of_lt_of_le (b2 _ _ ha) hC)
  exact ⟨m',hn.sameBut sb hCa,fun h' hsb=>⟨_,H4,I''.aside hC b1 b2 b3 hCn hsb,q⟩⟩
 .exact .inr r
end
section
variable {X:Cx}
theorem Vals.at {xs:List V}{us:List Value}(h:Vals xs us){i:Nat}{u:Value}(e:us[i]?=some u):∃x,xs[i]?=some x/\RelV x u:=by
 have hl:=h.length
 have hi:=(List.getElem?_eq_some_iff.mp e).1
 have hx:xs[i]?=some xs[i]:=List.getElem?_eq_getElem (by lia)
 obtain ⟨u',h1,h2⟩:=h.get hx
 rw[e] at h1;cases h1
 exact ⟨_,hx,h2⟩
theorem zba (bs:List Bool):(List.range bs.length).all (fun i=>bs.getD i true)=bs.all id:=by
 rw[Bool.eq_iff_iff,List.all_eq_true,List.all_eq_true]
 constructor
 .intro h b hb
  obtain ⟨i,hi,e⟩:=List.getElem_of_mem hb
  have:=h i (by simpa using hi)
  rw[List.getD_eq_getElem?_getD,List.getElem?_eq_getElem hi] at this
  simpa [e] using this
 .intro h i hi
  have hi':i < bs.length:=by simpa using hi
  rw[List.getD_eq_getElem?_getD,List.getElem?_eq_getElem hi']
  exact h _ (List.getElem_mem hi')
theorem gF (hc:X.calm=true):CallR X (.builtin "all") (fun xs H Q=>∃ (p:Addr) (bs:List Bool),xs=[.ref p]/\SqL X.K H p (bs.map V.bl)/\Q (.bl (bs.all id)) H):=by
 intro pins s σ H xs us Q I r h
 obtain ⟨p,bs,rfl,hq,q⟩:=h
 obtain ⟨u,rfl,rx⟩:=jp r
 cases rx
 obtain ⟨its,r',pl,hz⟩:=I.list hq
 have hlen:=r'.length
 have hp:∃o,s.heap.get? p=some o:=by obtain ⟨o,ho,_⟩:=pl.isList;exact ⟨o,ho⟩
 obtain ⟨o,ho⟩:=hp
 have hlt:=Heap.lt_size ho
 refine call_all_walk (wpAny_pyIter_list pl.isList ?_)
 refine ⟨s.heap.objs.size,_,_,_,_,_,fun i=>bs.getD i true,rfl,Walks.list (A:=X.A.in1) (I.ok.hd hc) s.heap.objs.size p (Nat.ne_of_lt hlt) its.toArray,⟨⟨_,Heap.get?_push_size _ rfl,rfl,rfl⟩,pl.isList.at fun o e=>Heap.get?_push_of_some _ e⟩,?_,fun h' tk hk=>?_⟩
 .intro i v s2 Q2 E2 hv hQ
  have hv':its[i]?=some v:=by simpa using hv
  obtain ⟨y,hy,ry⟩:=r'.at hv'
  rw[List.getElem?_map] at hy
  cases hb:bs[i]? with
  | none=>rw[hb] at hy;cases hy
  | some b =>
   rw[hb] at hy;cases hy
   have:v=.bool b:=ry
   subst this
   have e:bs.getD i true=b:=by rw[List.getD_eq_getElem?_getD,hb];rfl
   have hQ':Q2 (bs.getD i true) s2:=hQ
   rw[e] at hQ'
   exact wpAny_truthy_bool hQ'
 .have e:its.toArray.size=bs.length:=by simp at hlen ⊢;lia
  rw[e,zba]
  exact ⟨.bl (bs.all id),H,I.kept (t':=tk) fun b o e=>hk b o (fun hb=>by
   have:b=s.heap.objs.size:=by simpa using hb
   exact absurd (Heap.lt_size e) (by rw[this];exact Nat.lt_irrefl _)) (Heap.get?_push_of_some _ e),rfl,q⟩
noncomputable def zd7 (lo st:Int)(n:Nat):It:=⟨fun i _=>i < n,fun i H x H'=>H'=H/\x=.int (lo+(i:Nat) * st),fun i _=>n<=i⟩
theorem gG {P:Program}{w:World}{K:PySem.W.Frag}{tg:Expr}(it:Addr)(lo st:Int)(n:Nat):Turn P w K tg (zd7 lo st n) [it] it (fun i h=>IsRangeIter h it (lo+(i:Nat) * st) ((n:Int) - (i:Nat)) st) where
 mem:=by simp
 obj:=fun i h st b hb=>by
  have e:b=it:=by simpa using hb
  subst e
  exact ⟨_,st,fun v z=>by
   have z':Data.fields _=Data.cell v:=z
   cases z'⟩
 keep:=fun i h h' st k=>k it (by simp) _ st
 item:=by
  intro X hP hw hK hc i pins s σ H E I hf st0 hg
  subst hP hw hK
  obtain ⟨f0,f1,f2,f3,f4,f5⟩:=hf it (by simp)
  have W:=Walks.range (prog:=X.prog) (w:=X.w) (I.ok.hd hc) it lo st n
  refine W.item i s _ _ hg st0 fun v h' tk hv st' kk=>?_
  obtain ⟨t,rfl⟩:=hv
  have I1:Inv X pins σ H { s with heap:=h',toks:=tk }:=I.turned (fun b o hb e=>kk b o (by simpa using hb) e) f0 f1 f3 f4 f5
  exact ⟨_,rfl,zak (s:={ s with heap:=h',toks:=tk }) (n := "range_iterator") st' rfl rfl (by decide) ⟨.int (lo+(i:Nat) * st),H,I1,⟨t,rfl⟩,⟨rfl,rfl⟩,st',fun b hb=>(hf b hb).1⟩⟩
 done:=by
  intro X hP hw hK hc i pins s σ H E I hf st0 hg
  subst hP hw hK
  obtain ⟨f0,f1,f2,f3,f4,f5⟩:=hf it (by simp)
  exact wpAny_pyNext_range_end (I.ok.hd hc) st0 (by have:n<=i:=hg;lia) fun h' eb=>⟨rfl,I.turned (t':=s.toks) (fun b o hb e=>eb b o hb e) f0 f1 f3 f4 f5⟩
 self:=fun _ _ _ _ _ st h=>wpAny_pyIter_rangeiter st h
theorem x8 (a b:Int):Builtin.Range.rangeSize a b (-1)=if b < a then a - b else 0:=by
 unfold Builtin.Range.rangeSize
 simp only[show ¬((-1:Int) > 0) by decide,if_false]
 split <;> (simp;try lia)
theorem qD {a b:Int}(ha:-(2 ^ 62)<=a)(ha':a < 2 ^ 62)(hb:-(2 ^ 62)<=b)(hb':b < 2 ^ 62):Builtin.Range.small a b (-1)=true:=by
 unfold Builtin.Range.small
 rw[x8]
 simp only[Builtin.Range.rangeFitsLong,Bool.and_eq_true,Bool.or_eq_true,decide_eq_true_eq,beq_iff_eq,show ¬((-1:Int) > 0) by decide,if_false]
 split <;> lia
noncomputable def kJ (i j k:Int):Nat:=if k=1 then (j - i).toNat else (i - j).toNat
theorem zch {i j k:Int}(hk:k=1\/k=-1):Builtin.Range.rangeSize i j k=(kJ i j k:Int):=by
 rcases hk with rfl | rfl
 .rw[rangeSize_one];unfold kJ;rw[if_pos rfl];split <;> lia
 .have e:kJ i j (-1)=(i - j).toNat:=if_neg (by decide)
  rw[x8,e];split <;> lia
def zg2 (ta:TA):TI:=fun σ H R=>ta σ H fun vs H1=>∃i j k:Int,vs=[.int i,.int j,.int k]/\(-(2 ^ 30)<=i/\i < 2 ^ 30/\-(2 ^ 30)<=j/\j < 2 ^ 30)/\(k=1\/k=-1)/\R (zd7 i k (kJ i j k)) H1
theorem zbb {tg a b c:Expr}{ta:TA}{p pos:Pos}(hg:Gl X "range")(hm:X.mg "range" = none)(ha:PA X [a,b,c] ta)(hs:starEach [a,b,c] X.env=[(false,eval a X.env),(false,eval b X.env),(false,eval c X.env)]:=by rfl)(hs2:starEach [b,c] X.env=[(false,eval b X.env),(false,eval c X.env)]:=by rfl):
  PI X tg (.Call (.Name "range" p) [a,b,c] [] pos) (zg2 ta):=by
 intro pins s σ H R I h
 refine Call_ (xx I hg hm boot_range (PyProof.Rows.callWith_type1 (thn (ha pos pins s σ H _ I h) fun us s1 ⟨vs,H1,I1,r1,q1⟩=>?_) (by rw[hs,hs2]) (by rw[hs2];rfl)))
 obtain ⟨i,j,k,e,⟨q1,q2,q3,q4⟩,hk,q⟩:=q1
 subst e
 cases r1 with
 | cons r rr =>
  cases rr with
  | cons r' rr =>
   cases rr with
   | cons r'' rr =>
   cases rr
   obtain ⟨t,rfl⟩:=r
   obtain ⟨t',rfl⟩:=r'
   obtain ⟨t'',rfl⟩:=r''
   refine call_range_3 (by lia) ?_ (.inl (PyProof.noPylong_small (by lia)))
   refine wpAny_pyIter_range (IsRange.new ..) (by rcases hk with rfl | rfl;exact small_one (by lia) (by lia) (by lia) (by lia);exact qD (by lia) (by lia) (by lia) (by lia)) ?_
   have I2:Inv X pins σ H1 { s1 with heap:=s1.heap.push { cls:=.type "range",data:=.fields #[.int i t,.int j t',.int k t''] },toks:=s1.toks }:=I1.kept fun b o e=>Heap.get?_push_of_some _ e
   refine ⟨(s1.heap.push { cls:=.type "range",data:=.fields #[.int i t,.int j t',.int k t''] }).objs.size,[(s1.heap.push { cls:=.type "range",data:=.fields #[.int i t,.int j t',.int k t''] }).objs.size],_,_,H1,rfl,
    I2.kept (t':=s1.toks) fun b o e=>Heap.get?_push_of_some _ e,gG _ i k (kJ i j k),?_,fun b hb=>?_,q⟩
   .have e1:i+((0:Nat):Int) * k=i:=by simp
    show IsRangeIter _ _ (i+((0:Nat):Int) * k) (((kJ i j k:Nat):Int) - ((0:Nat):Int)) k
    rw[e1,<- zch hk,show (Builtin.Range.rangeSize i j k) - ((0:Nat):Int)=Builtin.Range.rangeSize i j k by simp]
    exact Heap.get?_push_size _ rfl
   .have e:b=(s1.heap.push { cls:=.type "range",data:=.fields #[.int i t,.int j t',.int k t''] }).objs.size:=by simpa using hb
    subst e
    exact I2.fpOk (Nat.le_refl _) (I2.hok.fresh (Nat.le_refl _))
def zg3 (ta:TA):TE:=fun σ H Q=>ta σ H fun vs H1=>∃j:Int,vs=[.int j]/\-(2 ^ 30)<=j/\j < 2 ^ 24/\j.toNat<=sizeLine/\∀l,H1 l=none->Q (.ref l) (upd H1 l (.lst ((List.range j.toNat).map fun (i:Nat)=>V.int ((0:Int)+1 * (i:Int)))))
theorem zd8 {a:Expr}{ta:TA}{p p' pos pos':Pos}(hc:X.calm=true)(hgl:Gl X "list")(hml:X.mg "list" = none)(hg:Gl X "range")(hm:X.mg "range" = none)(ha:PA X [a] ta)(hs:starEach [a] X.env=[(false,eval a X.env)]:=by rfl):
  PE X (.Call (.Name "list" p) [.Call (.Name "range" p') [a] [] pos'] [] pos) (zg3 ta):=by
 intro pins s σ H Q I h
 refine wpAny_Call_Name_kw (xx I hgl hml PyProof.Rows.boot_list ?_ (by decide) (by decide))
 refine PyProof.Rows.callWith_type1 ?_ rfl rfl
 refine Calls.spliced_cons ?_
 refine Call_ (xx I hg hm boot_range (PyProof.Rows.callWith_type1 (thn (ha pos' pins s σ H _ I h) fun us s1 ⟨vs,H1,I1,r1,q1⟩=>?_) hs rfl))
 obtain ⟨j,e,q1,q2,q3,q⟩:=q1
 subst e
 cases r1 with
 | cons r rr =>
  cases rr
  obtain ⟨t,rfl⟩:=r
  refine call_range_1 (Calls.spliced_nil ?_)
  have hn:Builtin.Range.rangeSize 0 j 1=(j.toNat:Int):=by rw[rangeSize_one];split <;> lia
  refine call_list_range (n:=j.toNat) (I1.ok.hd hc) (IsRange.new ..) (small_one (by lia) (by lia) (by lia) (by lia)) hn (by lia) fun h' tk acc' c' kp e hacc=>?_
  have I2:Inv X pins σ H1 { s1 with heap:=s1.heap.push { cls:=.type "range",data:=.fields #[.int 0 s1.toks,.int j t,.int 1 (s1.toks+1)] },toks:=s1.toks+1+1 }:=I1.kept fun b o e=>Heap.get?_push_of_some _ e
  have hv:Vals ((List.range j.toNat).map fun (i:Nat)=>V.int ((0:Int)+1 * (i:Int))) acc'.toList:=by
   have gen:∀ (us:List Value) (n:Nat),us.length=n->∀m:Nat,(∀i v,us[i]?=some v->∃t,v=Value.int ((0:Int)+((m+i:Nat):Int) * 1) t)->Vals ((List.range' m n).map fun (i:Nat)=>V.int ((0:Int)+1 * (i:Int))) us:=by
    intro us
    induction us with
    | nil=>intro n hn m _;simp at hn;subst hn;exact .nil
    | cons u us ih =>
     intro n hn m hu
     cases n with
     | zero=>simp at hn
     | succ n =>
      rw[List.range'_succ,List.map_cons]
      obtain ⟨t,rfl⟩:=hu 0 u rfl
      refine .cons ⟨t,?_⟩ (ih n (by simpa using hn) (m+1) fun i v hv=>?_)
      .congr 1;simp
      .obtain ⟨t,e⟩:=hu (i+1) v (by simpa using hv)
       exact ⟨t,by rw[e];congr 2;congr 1;lia⟩
   have:=gen acc'.toList j.toNat (by rw[Array.length_toList];exact hacc.1) 0 (fun i v hv=>by
    obtain ⟨t,e⟩:=hacc.2 i v (by simpa using hv)
    exact ⟨t,by rw[e];simp⟩)
   rw[<- List.range_eq_range'] at this
   exact this
  refine ⟨.ref _,_,I2.laid (t':=tk) kp (Nat.le_refl _) (show ObjOk X.prog X.w _ h' _ (.lst ((List.range j.toNat).map fun (i:Nat)=>V.int ((0:Int)+1 * (i:Int)))) from ⟨by simpa using q3,acc'.toList,c',hv,by simpa using e⟩),rfl,q _ (I2.hok.fresh (Nat.le_refl _))⟩
end
section
variable {X:Cx}{pins:List (Addr×Obj)}{σ:St}{H:Hp}{s:Shared}{h':Heap}
theorem ziC {t':Nat}{ch:List Addr}{T:Addr}{xs:List V}{its:List Value}(I:Inv X pins σ H s)(hf:∀b∈ch,vZ X pins H b)(k:∀b o,b∉ch->s.heap.get? b=some o->h'.get? b=some o)
  (hT:s.heap.objs.size<=T) (hz:xs.length<=sizeLine) (hv:Vals xs its) (ht:IsTup h' T its.toArray):Inv X pins σ (upd H T (.tup xs)) { s with heap:=h',toks:=t' }:=by
 have hn:H T=none:=I.hok.fresh hT
 have nit:∀b u,H b=some u->b∉ch:=fun b u e z=>by rw[(hf b z).1] at e;cases e
 have up:∀b u,H b=some u->upd H T (.tup xs) b=some u:=fun b u e=>by rw[zd (zl e hn)];exact e
 refine I.step (g':=s.gens) (d':=s.drawn) (ch:=ch) (fun b hb=>?_) (fun b o _ _ hc e _=>k b o hc e) (fun b o _ _ hc e _=>⟨o.slots,k b o hc e⟩) (fun b o hc e n=>?_)
  (fun b o hc e=>⟨o,k b o hc e⟩) (fun b _ e=>up b _ e) (fun b _ _ e=>up b _ e) (fun b ps e=>⟨#[],by rw[up b _ e];simp⟩) (fun m hm=>?_) (fun b u e=>?_) I.bare
 .obtain ⟨f0,f1,f2,f3,f4,f5⟩:=hf b hb
  exact ⟨f3,f1,f4,f5⟩
 .rw[zd (Nat.ne_of_lt (Nat.lt_of_lt_of_le (Heap.lt_size e) hT))];exact n
 .obtain ⟨o,es,ep,ho,r⟩:=hm
  exact ⟨o,es,ep,k _ o (fun z=>(hf _ z).2.1 rfl) ho,r⟩
 .by_cases hb:b=T
  .subst hb
   rw[zg] at e;cases e
   exact ⟨hz,its,hv,ht⟩
  .rw[zd hb] at e
   refine (I.hok b u e).stay (fun c v hc q=>k c v ?_ q) (fun c q=>up c _ q) fun c _ q=>up c _ q
   rcases hc with z | z
   .rw[z];exact nit b u e
   .exact nit c _ z
theorem Inv.turnedL {t':Nat}{ch:List Addr}(I:Inv X pins σ H s)(hf:∀b∈ch,vZ X pins H b)(k:∀b o,b∉ch->s.heap.get? b=some o->h'.get? b=some o):Inv X pins σ H { s with heap:=h',toks:=t' }:=by
 have nit:∀b u,H b=some u->b∉ch:=fun b u e z=>by rw[(hf b z).1] at e;cases e
 refine I.step (g':=s.gens) (d':=s.drawn) (ch:=ch) (fun b hb=>?_) (fun b o _ _ hc e _=>k b o hc e) (fun b o _ _ hc e _=>⟨o.slots,k b o hc e⟩) (fun b o hc e n=>n)
  (fun b o hc e=>⟨o,k b o hc e⟩) (fun b _ e=>e) (fun b _ _ e=>e) (fun b ps e=>⟨#[],by rw[e];simp⟩) (fun m hm=>?_) (fun b u e=>?_) I.bare
 .obtain ⟨f0,f1,f2,f3,f4,f5⟩:=hf b hb
  exact ⟨f3,f1,f4,f5⟩
 .obtain ⟨o,es,ep,ho,r⟩:=hm
  exact ⟨o,es,ep,k _ o (fun z=>(hf _ z).2.1 rfl) ho,r⟩
 .refine (I.hok b u e).stay (fun c v hc q=>k c v ?_ q) (fun c q=>q) fun c _ q=>q
  rcases hc with z | z
  .rw[z];exact nit b u e
  .exact nit c _ z
end
def Yp (H:Hp)(v:V)(H':Hp)(x y:V):Prop:=∃T,H T=none/\v=.ref T/\H'=upd H T (.tup [x,y])
noncomputable def Itz (K:PySem.W.Frag)(l1 l2:Addr):It :=
 ⟨fun i H=>∃xs ys x y,SqL K H l1 xs/\SqL K H l2 ys/\xs[i]?=some x/\ys[i]?=some y,
  fun i H v H'=>∃x y,Yp H v H' x y/\(∀xs,SqL K H l1 xs->xs[i]?=some x)/\∀ys,SqL K H l2 ys->ys[i]?=some y,
  fun i H=>∃xs ys,SqL K H l1 xs/\SqL K H l2 ys/\(xs.length<=i\/ys.length<=i)⟩
noncomputable def Ite (K:PySem.W.Frag)(c:Nat)(l:Addr):It :=
 ⟨fun i H=>∃xs x,SqL K H l xs/\xs[i]?=some x,
  fun i H v H'=>∃x,Yp H v H' (.int ((i+c:Nat):Int)) x/\∀xs,SqL K H l xs->xs[i]?=some x,
  fun i H=>∃xs,SqL K H l xs/\xs.length<=i⟩
theorem zbc {prog:Program}{w:World}{A:Around}(hh:A.handled=none)(it l:Addr)(hne:l≠it)(items:Array Value)(c:Nat):
  Draws prog w A it [it,l] (items.size+c) (fun i x=>∃j,i=j+c/\items[j]?=some x) (fun i h=>∃j,i=j+c/\h.IsListIter it l j/\h.IsList l items):=by
 have D:=Draws.list (prog:=prog) (w:=w) hh it l hne items
 refine ⟨fun i h st=>?_,fun i h h' st k=>?_,fun i s Q E hi st hQ=>?_,fun s Q E st hE=>?_⟩
 .obtain ⟨j,_,h1,h2⟩:=st
  exact D.live j h ⟨h1,h2⟩
 .obtain ⟨j,e,h1,h2⟩:=st
  obtain ⟨q1,q2⟩:=D.frame j h h' ⟨h1,h2⟩ k
  exact ⟨j,e,q1,q2⟩
 .obtain ⟨j,rfl,h1,h2⟩:=st
  refine D.item j s Q E (by lia) ⟨h1,h2⟩ fun x h' tk p q sb=>hQ x h' tk ⟨j,rfl,p⟩ ⟨j+1,by lia,q.1,q.2⟩ sb
 .obtain ⟨j,e,h1,h2⟩:=st
  have e':j=items.size:=by lia
  subst e'
  exact D.done s Q E ⟨h1,h2⟩ hE
theorem zci {prog:Program}{w:World}{A:Around}(hh:A.handled=none)(it l:Addr)(items:Array Value){i:Nat}(hi:items[i]?=none):
  Draws prog w A it [it,l] 0 (fun _ _=>True) (fun k h=>k=0/\h.IsListIter it l i/\h.IsList l items):=by
 refine ⟨fun k h st=>?_,fun k h h' st q=>?_,fun k s Q E hk st hQ=>absurd hk (Nat.not_lt_zero _),fun s Q E st hE=>?_⟩
 .obtain ⟨o,ho,_⟩:=st.2.1
  exact ⟨o,ho⟩
 .exact ⟨st.1,st.2.1.at fun o e=>q it (by simp) o e,st.2.2.at fun o e=>q l (by simp) o e⟩
 .exact wpAny_nextOf_list_end hh st.2.1 st.2.2 hi hE
theorem zcj {P:Program}{w:World}{K:PySem.W.Frag}{elts:List Expr}{k:Nat}{pt:Pos}(z TI TO i1 i2 l1 l2:Addr)(D:ZipApart z TI TO i1 i2 l1 l2):
  Turn P w K (.Tuple elts k pt) (Itz K l1 l2) [z,TI,TO,i1,i2] z (fun i h=>IsZip h z TI TO .none/\IsPair h TI (.ref i1) (.ref i2)/\(∃a b,IsPair h TO a b)/\h.IsListIter i1 l1 i/\h.IsListIter i2 l2 i) where
 mem:=by simp
 obj:=fun i h st b hb=>by
  obtain ⟨hz,hTI,⟨a,c,hTO⟩,⟨o1,e1,c1,d1⟩,o2,e2,c2,d2⟩:=st
  simp only[List.mem_cons,List.not_mem_nil,or_false] at hb
  rcases hb with rfl | rfl | rfl | rfl | rfl
  .exact ⟨_,hz,fun v z=>by cases z⟩
  .exact ⟨_,hTI,fun v z=>by cases z⟩
  .exact ⟨_,hTO,fun v z=>by cases z⟩
  .exact ⟨_,e1,fun v z=>by rw[d1] at z;cases z⟩
  .exact ⟨_,e2,fun v z=>by rw[d2] at z;cases z⟩
 keep:=fun i h h' st k=>by
  obtain ⟨hz,hTI,⟨a,c,hTO⟩,h1,h2⟩:=st
  exact ⟨k z (by simp) _ hz,k TI (by simp) _ hTI,⟨a,c,k TO (by simp) _ hTO⟩,h1.at fun o e=>k i1 (by simp) o e,h2.at fun o e=>k i2 (by simp) o e⟩
 item:=by
  intro X hP hw hK hc i pins s σ H E I hf st hg
  subst hP hw hK
  obtain ⟨xs,ys,x,y,hq1,hq2,hx,hy⟩:=hg
  obtain ⟨its1,rv1,p1,_⟩:=I.list hq1
  obtain ⟨its2,rv2,p2,_⟩:=I.list hq2
  obtain ⟨u,hu,ru⟩:=rv1.get hx
  obtain ⟨v,hv,rv⟩:=rv2.get hy
  obtain ⟨hz,hTI,⟨a,b,hTO⟩,h1,h2⟩:=st
  refine wpAny_pyNext_zip_item D hz hTI hTO h1 h2 p1.isList p2.isList (x:=u) (y:=v) (by simpa using hu) (by simpa using hv) fun h' a1 a2 a3 a4 a5 a6 hk=>?_
  refine ⟨_,rfl,wpAny_letOwnedTupleGo_zip (s:={ s with heap:=h' }) a1 fun h'' hz' hs'=>?_⟩
  have sT:z < s.heap.objs.size:=Heap.lt_size hz
  have kk:∀b o,b∉[z,TI,TO,i1,i2]->s.heap.get? b=some o->h''.get? b=some o:=fun b o hb e =>
   (hs'.2 b fun q=>hb (by simp[q])).trans (hk b o (fun q=>hb (by simp[q])) (fun q=>hb (by simp[q])) (fun q=>hb (by simp[q])) (fun q=>hb (by simp[q])) e)
  refine ⟨.ref s.heap.objs.size,upd H s.heap.objs.size (.tup [x,y]),?_,rfl,⟨x,y,⟨_,I.hok.fresh (Nat.le_refl _),rfl,rfl⟩,fun zs hz=>by rw[I.list_inj hz hq1];exact hx,fun zs hz=>by rw[I.list_inj hz hq2];exact hy⟩,?_,?_⟩
  .have I1:Inv X pins σ (upd H s.heap.objs.size (.tup [x,y])) { s with heap:=h'',toks:=s.toks }:=ziC (s:=s) (its:=[u,v]) I hf kk (Nat.le_refl _) (show (2:Nat)<=sizeLine by decide) (.cons ru (.cons rv .nil)) ⟨_,(hs'.2 _ (Nat.ne_of_gt sT)).trans a5,rfl,_,rfl⟩
   exact I1
  .refine ⟨hz',?_,⟨u,v,?_⟩,?_,?_⟩
   .exact (hs'.2 TI D.TIz).trans (hk TI _ D.TIz D.TITO D.TIi1 D.TIi2 hTI)
   .exact (hs'.2 TO D.TOz).trans a2
   .exact a3.at fun o e=>(hs'.2 i1 D.i1z).trans e
   .exact a4.at fun o e=>(hs'.2 i2 D.i2z).trans e
  .intro b hb
   have hlt:b < s.heap.objs.size:=by
    simp only[List.mem_cons,List.not_mem_nil,or_false] at hb
    obtain ⟨_,e1,_⟩:=h1
    obtain ⟨_,e2,_⟩:=h2
    rcases hb with rfl | rfl | rfl | rfl | rfl
    .exact sT
    .exact Heap.lt_size hTI
    .exact Heap.lt_size hTO
    .exact Heap.lt_size e1
    .exact Heap.lt_size e2
   rw[zd (Nat.ne_of_lt hlt)]
   exact (hf b hb).1
 done:=by
  intro X hP hw hK hc i pins s σ H E I hf st hg
  subst hP hw hK
  obtain ⟨xs,ys,hq1,hq2,hx⟩:=hg
  obtain ⟨its1,rv1,p1,_⟩:=I.list hq1
  obtain ⟨its2,rv2,p2,_⟩:=I.list hq2
  obtain ⟨hz,hTI,⟨a,b,hTO⟩,h1,h2⟩:=st
  have l1:=rv1.length
  have l2:=rv2.length
  refine wpAny_pyNext_zip_end (I.ok.hd hc) D hz hTI hTO h1 h2 p1.isList p2.isList ?_ fun h' hk=>⟨rfl,?_⟩
  .rcases hx with hx | hx
   .exact .inl (by simp;lia)
   .exact .inr (by simp;lia)
  .exact I.turnedL (t':=s.toks) hf fun b o hb e=>hk b o (fun q=>hb (by simp[q])) (fun q=>hb (by simp[q])) (fun q=>hb (by simp[q])) (fun q=>hb (by simp[q])) e
 self:=fun _ _ _ _ _ st h=>wpAny_pyIter_zip st.1 h
theorem zbd {P:Program}{w:World}{K:PySem.W.Frag}{elts:List Expr}{k:Nat}{pt:Pos}(c:Nat)(e it l:Addr)(hei:e≠it)(hle:l≠e)(hli:l≠it):
  Turn P w K (.Tuple elts k pt) (Ite K c l) [e,it] e (fun i h=>(∃old,IsEnum h e it ((i+c:Nat):Int) old)/\h.IsListIter it l i) where
 mem:=by simp
 obj:=fun i h st b hb=>by
  obtain ⟨⟨old,he⟩,o1,e1,c1,d1⟩:=st
  simp only[List.mem_cons,List.not_mem_nil,or_false] at hb
  rcases hb with rfl | rfl
  .exact ⟨_,he,fun v z=>by cases z⟩
  .exact ⟨_,e1,fun v z=>by rw[d1] at z;cases z⟩
 keep:=fun i h h' st k=>by
  obtain ⟨⟨old,he⟩,h1⟩:=st
  exact ⟨⟨old,k e (by simp) _ he⟩,h1.at fun o q=>k it (by simp) o q⟩
 item:=by
  intro X hP hw hK hc i pins s σ H E I hf st hg
  subst hP hw hK
  obtain ⟨xs,x,hq1,hx⟩:=hg
  obtain ⟨its1,rv1,p1,_⟩:=I.list hq1
  obtain ⟨u,hu,ru⟩:=rv1.get hx
  obtain ⟨⟨old,he⟩,h1⟩:=st
  have hil:i < its1.length:=(List.getElem?_eq_some_iff.mp hu).1
  have D:=zbc (prog:=X.prog) (w:=X.w) (A:=X.A.in1) (I.ok.hd hc) it l hli its1.toArray c
  refine wpAny_pyNext_enum_itemD D he ⟨i,rfl,h1,p1.isList⟩ (by simp;lia) hei (by simp[hei,Ne.symm hle]) fun x' h' tk px a1 st' a3 a4 hk=>?_
  obtain ⟨j,ej,hj⟩:=px
  have ej':i=j:=by lia
  subst ej'
  have hxu:x'=u:=by
   have:its1[i]?=some x':=by simpa using hj
   rw[hu] at this;cases this;rfl
  subst hxu
  obtain ⟨j',ej',a2,_⟩:=st'
  have e2:j'=i+1:=by lia
  subst e2
  refine ⟨_,rfl,wpAny_letOwnedTupleGo_enum (s:={ s with heap:=h',toks:=tk+1 }) a1 fun h'' he' hs'=>?_⟩
  have sT:e < s.heap.objs.size:=Heap.lt_size he
  have kk:∀b o,b∉[e,it]->s.heap.get? b=some o->h''.get? b=some o:=fun b o hb q =>
   (hs'.2 b fun z=>hb (by simp[z])).trans (hk b o (fun z=>hb (by simp[z])) (fun z=>hb (by simp[z])) q)
  refine ⟨.ref s.heap.objs.size,upd H s.heap.objs.size (.tup [.int ((i+c:Nat):Int),x]),?_,rfl,⟨x,⟨_,I.hok.fresh (Nat.le_refl _),rfl,rfl⟩,fun zs hz=>by rw[I.list_inj hz hq1];exact hx⟩,?_,?_⟩
  .have I1:Inv X pins σ (upd H s.heap.objs.size (.tup [.int ((i+c:Nat):Int),x])) { s with heap:=h'',toks:=tk+1 }:=ziC (s:=s) (its:=[.int ((i+c:Nat):Int) tk,x']) I hf kk (Nat.le_refl _) (show (2:Nat)<=sizeLine by decide) (.cons ⟨_,rfl⟩ (.cons ru .nil)) ⟨_,(hs'.2 _ (Nat.ne_of_gt sT)).trans a3,rfl,_,rfl⟩
   exact I1
  .refine ⟨⟨x',?_⟩,a2.at fun o q=>(hs'.2 it hei.symm).trans q⟩
   have:((i+1+c:Nat):Int)=((i+c:Nat):Int)+1:=by lia
   rw[this]
   exact he'
  .intro b hb
   have hlt:b < s.heap.objs.size:=by
    simp only[List.mem_cons,List.not_mem_nil,or_false] at hb
    obtain ⟨_,e1,_⟩:=h1
    rcases hb with rfl | rfl
    .exact sT
    .exact Heap.lt_size e1
   rw[zd (Nat.ne_of_lt hlt)]
   exact (hf b hb).1
 done:=by
  intro X hP hw hK hc i pins s σ H E I hf st hg
  subst hP hw hK
  obtain ⟨xs,hq1,hx⟩:=hg
  obtain ⟨its1,rv1,p1,_⟩:=I.list hq1
  obtain ⟨⟨old,he⟩,h1⟩:=st
  have l1:=rv1.length
  have D:=zci (prog:=X.prog) (w:=X.w) (A:=X.A.in1) (I.ok.hd hc) it l its1.toArray (i:=i) (by simp;lia)
  refine wpAny_pyNext_enum_endD D he ⟨rfl,h1,p1.isList⟩ fun h' hk=>⟨rfl,?_⟩
  exact I.turnedL (t':=s.toks) hf fun b o hb q=>hk b o (fun z=>hb (by simp[z])) q
 self:=fun _ _ _ _ _ st h=>by
  obtain ⟨⟨old,he⟩,_⟩:=st
  exact wpAny_pyIter_enum he h
section
variable {X:Cx}{elts:List Expr}{k:Nat}{pt:Pos}
def zg4 (K:PySem.W.Frag)(ta:TA):TI:=fun σ H R=>ta σ H fun vs H1=>∃l1 l2 xs ys,vs=[.ref l1,.ref l2]/\SqL K H1 l1 xs/\SqL K H1 l2 ys/\R (Itz K l1 l2) H1
def zfa (K:PySem.W.Frag)(c:Nat)(ta:TA):TI:=fun σ H R=>ta σ H fun vs H1=>∃l xs,vs=[.ref l]/\SqL K H1 l xs/\R (Ite K c l) H1
theorem zfJ {a b:Expr}{ta:TA}{p pos:Pos}(hg:Gl X "zip")(hm:X.mg "zip" = none)(ha:PA X [a,b] ta)(hs:starEach [a,b] X.env=[(false,eval a X.env),(false,eval b X.env)]:=by rfl)(hs2:starEach [b] X.env=[(false,eval b X.env)]:=by rfl):
  PI X (.Tuple elts k pt) (.Call (.Name "zip" p) [a,b] [] pos) (zg4 X.K ta):=by
 intro pins s σ H R I h
 refine Call_ (xx I hg hm PyProof.Rows.boot_zip (PyProof.Rows.callWith_type1 (thn (ha pos pins s σ H _ I h) fun us s1 ⟨vs,H1,I1,r1,q1⟩=>?_) (by rw[hs,hs2]) (by rw[hs2];rfl)))
 obtain ⟨l1,l2,xs,ys,e,g1,g2,q⟩:=q1
 subst e
 cases r1 with
 | cons r rr =>
  cases rr with
  | cons r' rr =>
   cases rr
   cases r
   cases r'
   obtain ⟨its1,rv1,p1,_⟩:=I1.list g1
   obtain ⟨its2,rv2,p2,_⟩:=I1.list g2
   have t1:l1 < s1.heap.objs.size:=by obtain ⟨o,e,_⟩:=p1.isList;exact Heap.lt_size e
   have t2:l2 < s1.heap.objs.size:=by obtain ⟨o,e,_⟩:=p2.isList;exact Heap.lt_size e
   refine call_zip_2 p1.isList p2.isList fun h' hz hTI hTO hi1 hi2 hsz hk=>?_
   refine wpAny_pyIter_zip (s:={ s1 with heap:=h' }) hz ?_
   refine ⟨_,_,_,_,H1,rfl,I1.kept (t':=s1.toks) hk,zcj (s1.heap.objs.size+4) (s1.heap.objs.size+2) (s1.heap.objs.size+3) s1.heap.objs.size (s1.heap.objs.size+1) l1 l2 ?_,⟨hz,hTI,⟨_,_,hTO⟩,hi1,hi2⟩,fun b hb=>?_,q⟩
   .exact zipApart_new t1 t2
   .have hb':s1.heap.objs.size<=b:=by
     simp only[List.mem_cons,List.not_mem_nil,or_false] at hb
     rcases hb with rfl | rfl | rfl | rfl | rfl
     .exact Nat.le_add_right _ _
     .exact Nat.le_add_right _ _
     .exact Nat.le_add_right _ _
     .exact Nat.le_refl _
     .exact Nat.le_add_right _ _
    exact I1.fpOk hb' (I1.hok.fresh hb')
end
end L2
namespace L2
open PySem PySem.Spec PyProof.Rows
open AutoSeq1 (wpAny_loadPart')
section
set_option tactic.hygienic true in
theorem gH (l:Addr)(items:Array Value)(n:Nat)(dct:Option Addr)(sl:Array (Option Value))(t:Tok):
  Meets (Builtin.«enumerate.__new__» ⟨[.type "enumerate",.ref l],[("start",.int 1 t)]⟩) (fun _ R s=>s.heap.get? l=some { cls:=.type "list",dict:=dct,data:=.seq items n,slots:=sl } /\
   R (.ok (.ret (.ref (s.heap.push { cls:=.type "list_iterator",data:=.fields #[.ref l,.int 0 0] }).objs.size)))
    { s with heap:=(s.heap.push { cls:=.type "list_iterator",data:=.fields #[.ref l,.int 0 0] }).push { cls:=.type "enumerate",data:=.fields #[.none,.bool false,.ref s.heap.objs.size,rawInt 1,.none,.none] } }) :=
 .of_wp fun prog w A R s h=>by
  obtain ⟨hp,g,d,tk,os⟩:=s;obtain ⟨hl,h⟩:=h
  have hsub:=sub_enumerate
  have hL:Heap.IsList (Shared.heap ⟨hp,g,d,tk,os⟩) l items:=⟨_,hl,rfl,n,rfl⟩
  wp_walk using wpAny_loadPart' hl
  refine wpAny_stack_any fun st=>wpAny_pure ?_
  split
  .rename_i c _ _ _ _ _
   cases (c == Value.type "enumerate") <;> (wp_walk using wpAny_loadPart' hl,wpAny_pyIter_list hL;exact ⟨_,rfl,h⟩)
  .wp_walk using wpAny_loadPart' hl,wpAny_pyIter_list hL
   exact ⟨_,rfl,h⟩
variable {prog:Program}{w:World}{A:Around}{E:Value->Shared->Prop}{s:Shared}
theorem zg5 {self:Value}{rest:List Value}{kw:List (Str×Value)}(hr:rest≠[]):
  Meets (Builtin.«object.__init__» ⟨self::rest,kw⟩) (fun _ R s=>s.TypeIs self "enumerate" /\ R (.ok (.ret .none)) s):=by
 have hl:=(F.called_enumerate).init.lookup
 have hm:=(F.called_enumerate).made
 have hne:(some "enumerate.__new__" != some "object.__new__")=true:=by decide
 refine Meets.of_wp fun prog w A R s ⟨hT,hq⟩=>?_
 cases rest with
 | nil=>exact absurd rfl hr
 | cons a rest =>
  repeat (any_goals (first | assumption | wp_step))
  exact ⟨_,rfl,hq⟩
theorem zbe (a b:Value):checkTypeCall "enumerate" ⟨[a],[("start",b)]⟩=pure ():=by kernel_rfl
theorem zck (a b:Value):checkBuiltinCall "enumerate.__new__" ⟨[.type "enumerate",a],[("start",b)]⟩=pure ():=by kernel_rfl
theorem zg6 (o a b:Value):argsOk "object.__init__" ⟨[o,a],[("start",b)]⟩:=by
 have sg:=signature?_of (id := "object.__init__") (n := "__init__".toList.reverse) (o := "object".toList.reverse) (by kernel_rfl) F.owner_object
 unfold argsOk
 rw[sg]
 kernel_rfl
theorem qE {l:Addr}{items:Array Value}{t:Tok}{Q:Value->Shared->Prop}(hL:s.heap.IsList l items)
  (h:∀h',IsEnum h' (s.heap.objs.size+1) s.heap.objs.size 1 .none->h'.IsListIter s.heap.objs.size l 0->(∀b o,s.heap.get? b=some o->h'.get? b=some o)->Q (.ref (s.heap.objs.size+1)) { s with heap:=h' }) :
  wpAny (model prog w) A (call (.type "enumerate") [.ref l] [("start",.int 1 t)]) Q E s:=by
 obtain ⟨⟨c0,dct,dt,sl⟩,hl,hc,n,hd⟩:=hL
 obtain rfl:c0=.type "list" := hc
 obtain rfl:dt=.seq items n:=hd
 have ft:=F.called_enumerate
 obtain ⟨m0,tl,hmro⟩:=ft.mro
 have k1:=ft.made
 have k2:=ft.sub
 have k3:=ft.notType
 have k4:=ft.canCreate
 have kc:=zbe (.ref l) (.int 1 t)
 apply wpAny_call
 apply codeAny_of_tree
 show wpAny _ _ (callAny (.type "enumerate") _) _ _ _
 apply wpAny_pure
 refine ⟨Code.quiet_builtin _ (by decide +kernel),?_⟩
 apply codeAny_builtin F.entry_type_call
 rw[Around.under_plain (weight_type_call_type _ _ _) (units_type_call_type _ _ _)]
 repeat (any_goals (first | assumption | wp_step))
 let Q1:Value->Shared->Prop:=fun v s1=>v=.ref (s.heap.objs.size+1)/\∃h',s1={ s with heap:=h' }/\IsEnum h' (s.heap.objs.size+1) s.heap.objs.size 1 .none/\h'.IsListIter s.heap.objs.size l 0/\∀b o,s.heap.get? b=some o->h'.get? b=some o
 have hz:(s.heap.push { cls:=.type "list_iterator",data:=.fields #[.ref l,.int 0 0] }).objs.size=s.heap.objs.size+1:=Heap.size_push _ _
 have pre:wants Q1 E (.ok (.ret (.ref (s.heap.push { cls:=.type "list_iterator",data:=.fields #[.ref l,.int 0 0] }).objs.size)))
    { s with heap:=(s.heap.push { cls:=.type "list_iterator",data:=.fields #[.ref l,.int 0 0] }).push { cls:=.type "enumerate",data:=.fields #[.none,.bool false,.ref s.heap.objs.size,rawInt 1,.none,.none] } }:=by
  refine ⟨by rw[hz],_,rfl,?_,⟨_,Heap.get?_push_of_some _ (Heap.get?_push_size _ rfl),rfl,rfl⟩,fun b o x=>Heap.get?_push_of_some _ (Heap.get?_push_of_some _ x)⟩
  have:=Heap.get?_push_size (s.heap.push { cls:=.type "list_iterator",data:=.fields #[.ref l,.int 0 0] }) (o:={ cls:=.type "enumerate",data:=.fields #[.none,.bool false,.ref s.heap.objs.size,rawInt 1,.none,.none] }) rfl
  rw[hz] at this
  exact this
 have new:=codeAny_call_builtin (prog:=prog) (w:=w) (A:=A.in1) (R:=wants Q1 E) (s:=s) ft.plain F.entry_enumerate_new (wpAny_of_eq (zck (.ref l) (.int 1 t)) (gH l items n dct sl t prog w A.in1 _ s ⟨hl,pre⟩))
 refine codeAny_mono new fun r s1 hr=>?_
 cases r with
 | error e=>exact hr
 | ok fl =>
  cases fl with
  | ret obj =>
   obtain ⟨rfl,h',rfl,he,hit,hk⟩:=hr
   have hT:Shared.TypeIs { s with heap:=h' } (.ref (s.heap.objs.size+1)) "enumerate" := ⟨_,he,rfl⟩
   have hli:=ft.init.lookup
   have hbi:=ft.init.bind (.ref (s.heap.objs.size+1))
   repeat (any_goals (first | assumption | wp_step))
   have ini:=codeAny_call_builtin (prog:=prog) (w:=w) (A:=A.in1) (R:=wants (fun r s2=>r=.none/\s2={ s with heap:=h' }) E) (s:={ s with heap:=h' }) ft.init.plain F.entry_object_init (ft.init.check _ _ _ _ _ _ _ _ hT (zg6 (.ref (s.heap.objs.size+1)) (.ref l) (.int 1 t)) (zg5 (rest:=[.ref l]) (by simp) prog w A.in1 _ _ ⟨hT,rfl,rfl⟩))
   refine codeAny_mono ini fun r2 s2 hr2=>?_
   cases r2 with
   | error e=>exact hr2
   | ok fl2 =>
    cases fl2 with
    | ret r =>
     obtain ⟨rfl,rfl⟩:=hr2
     have fin:=h h' he hit hk
     repeat (any_goals (first | assumption | wp_step))
    | _=>exact hr2.elim
  | _=>exact hr.elim
theorem kK {M:Model}{pos:Pos}{T:String}{args:List (Bool×Sem Value)}{ks:List (Option Str×Sem Value)}{Q:Value->Shared->Prop}(h1:args.any (·.1)=false)(h2:ks.any (·.1.isNone)=false)
  (h:wpAny M A (evalArgs (.type T) true args ks) (fun a s'=>wpAny M A (call (.type T) ([]++a.pos) a.kw) Q E s') E s):wpAny M A (callWith pos (.type T) [] args ks) Q E s:=by
 unfold callWith
 apply wpAny_bind
 apply wpAny_holding
 refine wpAny_mono h (fun a s' h'=>?_) fun _ _ z=>z
 apply wpAny_bind
 apply wpAny_standAt
 simp only[h1,h2,Bool.or_false]
 apply wpAny_bind
 apply wpAny_pure
 apply wpAny_bind
 exact wpAny_mono h' (fun r s2 hr=>wpAny_bind (wpAny_holding (wpAny_point (wpAny_pure hr)))) fun _ _ z=>z
end
section
variable {X:Cx}{elts:List Expr}{k:Nat}{pt:Pos}
theorem zcl {a:Expr}{ta:TA}{p pos kp cp:Pos}{ck}(hg:Gl X "enumerate")(hm:X.mg "enumerate" = none)(ha:PA X [a] ta)(hs:starEach [a] X.env=[(false,eval a X.env)]:=by rfl):
  PI X (.Tuple elts k pt) (.Call (.Name "enumerate" p) [a] [⟨some "start",.Constant (.int 1) ck cp,kp⟩] pos) (zfa X.K 1 ta):=by
 intro pins s σ H R I h
 refine wpAny_Call_Name_kw (xx I hg hm PyProof.Rows.boot_enumerate ?_)
 have hb:backTo pos (starEach [a] X.env)=[(false,eval a X.env)]:=by rw[hs];rfl
 refine kK (by rw[hb];rfl) rfl ?_
 have ha':=ha pos pins s σ H _ I h
 rw[hb] at ha' ⊢
 refine PyProof.Rows.evalArgs_kwB rfl (thn ha' fun us s1 ⟨vs,H1,I1,r1,q1⟩=>?_)
 refine thn (zdZ (X:=X) (zbV (X:=X) (i:=1)) zfD pos pins s1 σ H1 (fun ws H2=>ws=[.int 1]/\H2=H1) I1 ⟨rfl,rfl⟩) fun kus s2 ⟨ws,H2,I2,r2,e2,e3⟩=>?_
 subst e2;subst e3
 obtain ⟨l,xs,e,g1,q⟩:=q1
 subst e
 cases r1 with
 | cons r rr =>
  cases rr
  cases r
  cases r2 with
  | cons r2 rr2 =>
   cases rr2
   obtain ⟨t,rfl⟩:=r2
   obtain ⟨its1,rv1,p1,_⟩:=I2.list g1
   have t1:l < s2.heap.objs.size:=by obtain ⟨o,e,_⟩:=p1.isList;exact Heap.lt_size e
   refine qE p1.isList fun h' he hi hk=>?_
   refine wpAny_pyIter_enum (s:={ s2 with heap:=h' }) he ?_
   refine ⟨_,_,_,_,H2,rfl,I2.kept (t':=s2.toks) hk,zbd 1 (s2.heap.objs.size+1) s2.heap.objs.size l (Nat.succ_ne_self _) (Nat.ne_of_lt (Nat.lt_succ_of_lt t1)) (Nat.ne_of_lt t1),⟨⟨_,he⟩,hi⟩,fun b hb=>?_,q⟩
   have hb':s2.heap.objs.size<=b:=by
    simp only[List.mem_cons,List.not_mem_nil,or_false] at hb
    rcases hb with rfl | rfl
    .exact Nat.le_add_right _ _
    .exact Nat.le_refl _
   exact I2.fpOk hb' (I2.hok.fresh hb')
end
end L2
namespace L2
open PySem PySem.Spec PyProof.Rows
def Held (fs:List Addr)(H':Hp)(h h' B:Heap):Prop:=∀b o,h'.get? b=some o->(H' b≠none\/∃o₀,h.get? b=some o₀)->b∉fs->B.get? b=some o
theorem kL {env:Env}{l:List Env}{L:Addr}(hf:env.frame=some L):frs (env::l)=L::frs l:=by
 unfold frs
 rw[List.filterMap_cons,hf]
theorem zbf {fs:List Addr}{H H':Hp}{h h' base:Heap}{l:List Env}(hl:h.FunFrames base l)(hn:∀b∈frs l,H b=none)(u:Un fs [] H H' h h'):∀b∈frs l,H' b=none:=fun b hb=>by
 obtain ⟨_,o,ho,_⟩:=hl.mem hb
 exact u.free b o ho (hn b hb) (by simp)
theorem ObjOk.ob {P:Program}{w:World}{H:Hp}{h:Heap}{a:Addr}{o:HO}(x:ObjOk P w H h a o):∃u,h.get? a=some u:=by
 cases o with
 | lst xs=>obtain ⟨_,_,_,_,e⟩:=x;exact ⟨_,e⟩
 | tup xs=>obtain ⟨_,_,_,o,e,_⟩:=x;exact ⟨_,e⟩
 | dK kvs=>obtain ⟨_,_,_,_,o,_,_,e,_⟩:=x;exact ⟨_,e⟩
 | dT kvs=>obtain ⟨_,_,_,_,o,_,_,e,_⟩:=x;exact ⟨_,e⟩
 | set S n=>obtain ⟨o,_,_,_,e,_⟩:=x;exact ⟨_,e⟩
 | ins C dx fs=>obtain ⟨_,_,_,e,_⟩:=x;exact ⟨_,e⟩
 | own y=>exact x
 | xd fs=>obtain ⟨_,⟨_,_,_,e,_⟩,_⟩:=x;exact ⟨_,e⟩
 | rng lo hi=>obtain ⟨_,_,_,e⟩:=x;exact ⟨_,e⟩
 | frz ob u=>exact ⟨_,x.1⟩
 | tbl ps=>exact ⟨_,show h.get? a=some _ from x⟩
 | met f y=>exact ⟨_,show h.get? a=some _ from x⟩
 | ext φ=>exact x.2.1
section
variable {P:Program}{w:World}{H':Hp}{h1 h2 B:Heap}
theorem gJ {fs:List Addr}{h:Heap}(ok:HOk P w H' h1)(hfs:∀b∈fs,H' b=none)(hB:Held fs H' h h1 B)(st:B.StaysIn h2):HOk P w H' h2:=fun a o e =>
 (ok a o e).stay (fun b u hb q=>st b u (hB b u q (.inl (by
  rcases hb with rfl | hb
  .rw[e];simp
  .rw[hb];simp)) fun hm=>by
   have:=hfs b hm
   rcases hb with rfl | hb
   .rw[e] at this;cases this
   .rw[hb] at this;cases this)) (fun _ q=>q) fun _ _ q=>q
theorem Held.next {fs:List Addr}{h:Heap}(ok:HOk P w H' h1)(hB:Held fs H' h h1 B)(st:B.StaysIn h2)(th:∀b o,h.get? b=some o->∃o',h1.get? b=some o'):Held fs H' h h2 B:=fun b o e hq hn=>by
 have ex:∃o',h1.get? b=some o':=by
  rcases hq with z | ⟨o₀,z⟩
  .cases q:H' b with
   | none=>exact absurd q z
   | some u =>
    exact (ok b u q).ob
  .exact th b o₀ z
 obtain ⟨o',e1⟩:=ex
 have e2:=hB b o' e1 hq hn
 have e3:=st b o' e2
 rw[e] at e3
 cases e3
 exact e2
end
theorem zd9 {outer:List Env}{L:Addr}{H₀ H H':Hp}{h₀ h h1 h2 B base:Heap}(hL:h₀.objs.size<=L)(hfo:h₀.FunFrames base outer)(hf0:∀b∈frs outer,H₀ b=none)
  (u0:Un (frs outer) [] H₀ H h₀ h) (u1:Un (L::frs outer) [] H H' h h1) (hB:Held (L::frs outer) H' h h1 B) (st:B.StaysIn h2) (up:h1.UpToSlots h2):Un (frs outer) [] H₀ H' h₀ h2:=by
 have no:∀b:Addr,b∉([]:List Addr):=fun b=>by simp
 have nL:∀ {b:Addr}{o:Obj},h₀.get? b=some o->b≠L:=fun {b o} e z=>by
  subst z
  exact absurd (Nat.lt_of_lt_of_le (Heap.lt_size e) hL) (Nat.lt_irrefl _)
 have kp:∀b o,h₀.get? b=some o->H₀ b=none->b∉frs outer->h2.get? b=some o:=fun b o e n hb=>by
  have e1:=u0.keep b o e n hb (no b)
  have hb':b∉L::frs outer:=fun hm=>(List.mem_cons.mp hm).elim (nL e) hb
  have e2:=u1.keep b o e1 (u0.free b o e n (no b)) hb' (no b)
  exact st b o (hB b o e2 (.inr ⟨o,e1⟩) hb')
 have sl:∀b o,h₀.get? b=some o->H₀ b=none->b∈frs outer->∃sl,h2.get? b=some { o with slots:=sl }:=fun b o e n hb=>by
  obtain ⟨s1,e1⟩:=u0.slot b o e n hb (no b)
  obtain ⟨s2,e2⟩:=u1.slot b _ e1 (u0.free b o e n (no b)) (List.mem_cons_of_mem _ hb) (no b)
  obtain ⟨_,o',ho',hd⟩:=hfo.mem hb
  rw[e] at ho'
  cases ho'
  obtain ⟨s3,e3⟩:=up b _ e2 hd
  exact ⟨s3,e3⟩
 refine ⟨fun b o e n hb _=>kp b o e n hb,fun b o e n hb _=>sl b o e n hb,fun b o e n _=>?_,fun b o e _=>?_,fun b xs q=>u1.tups b xs (u0.tups b xs q),fun b o u q=>u1.frzs b o u (u0.frzs b o u q),fun b ps q=>?_⟩
 .obtain ⟨o1,e1⟩:=u0.there b o e (no b)
  exact u1.free b o1 e1 (u0.free b o e n (no b)) (no b)
 .by_cases hb:b∈frs outer
  .obtain ⟨s1,e1⟩:=sl b o e (hf0 b hb) hb
   exact ⟨_,e1⟩
  .obtain ⟨o1,e1⟩:=u0.there b o e (no b)
   obtain ⟨o2,e2⟩:=u1.there b o1 e1 (no b)
   have hb':b∉L::frs outer:=fun hm=>(List.mem_cons.mp hm).elim (nL e) hb
   exact ⟨o2,st b o2 (hB b o2 e2 (.inr ⟨o1,e1⟩) hb')⟩
 .obtain ⟨m1,e1⟩:=u0.tbls b ps q
  obtain ⟨m2,e2⟩:=u1.tbls b _ e1
  exact ⟨m1++m2,by rw[e2,Array.append_assoc]⟩
section
variable {P:Program}{w:World}{H:Hp}
theorem zbg {fs:List Addr}{L:Addr}{H₀ H H':Hp}{h₀ h h1 h2 B:Heap}(hL:h₀.objs.size<=L)(hLn:H' L=none)(u0:Un fs [] H₀ H h₀ h)(ok:HOk P w H' h1)(th:∀b o,h.get? b=some o->∃o',h1.get? b=some o')
  (hB:Held (L::fs) H' h h1 B) (st:B.StaysIn h2):Held fs H' h₀ h2 B:=fun b o e hq hn=>by
 have hb':b∉L::fs:=fun hm=>(List.mem_cons.mp hm).elim (fun z=>by
  subst z
  rcases hq with q | ⟨o₀,q⟩
  .exact q hLn
  .exact absurd (Nat.lt_of_lt_of_le (Heap.lt_size q) hL) (Nat.lt_irrefl _)) hn
 refine Held.next ok hB st th b o e (hq.imp id fun ⟨o₀,q⟩=>?_) hb'
 exact u0.there b o₀ q (by simp)
end
end L2
namespace L2
open PySem PySem.Spec PySem.Calls PyProof.Rows PySem.W Builtin Builtin.ObjectAttr Builtin.Getset_descriptor
section
variable {prog:Program}{w:World}{A:Around}{E:Value->Shared->Prop}{K:PySem.W.Frag}{x C:Addr}{ox:Obj}{h:Heap}{g:Array GenState}{d:Drawn}{t:Nat}{os:OsState}
theorem kM (M:Model)(hx:h.get? x=some ox)(hc:ox.cls=.ref C):Looks M h (typeOf (.ref x)) (.ref C):=hc▸(Looks.ld hx).andThen .now
theorem zea {R:Result->Shared->Prop}{tp:Value}(X:K.In h)(hx:h.get? x=some ox)(hc:ox.cls=.ref C)(hm:mroIn K C (.type "object")=some true)(hq:R (.ok (.ret (.ref C))) ⟨h,g,d,t,os⟩):
  codeAny (model prog w) A (.call (.builtin "getset_descriptor.__get__") ⟨[.builtin "object.__class__",.ref x,tp],[]⟩) R ⟨h,g,d,t,os⟩:=by
 have L0:=kM (model prog w) hx hc
 have L1:=looks_mroIn (M:=model prog w) X hm
 refine codeAny_call_builtin KF.slot_gs.plain KF.entry_gs ?_
 refine KF.slot_gs.check _ _ _ _ _ _ _ _ KF.type_class (KF.args_gs _ _ _) ?_
 unfold Builtin.«getset_descriptor.__get__» descrGet
 rw[dga_obj]
 refine wpAny_bind (wpAny_pure ?_)
 unfold descrGetter descrCheckInstance descrNameAndClass isInstance
 simp only[KF.owner_class]
 repeat lk
 have z1:Code.quiet (.builtin "object.__class__" ⟨[.ref x],[]⟩)=true:=Code.quiet_builtin _ (by decide +kernel)
 refine ⟨z1,?_⟩
 refine codeAny_builtin KF.entry_class ?_
 unfold Builtin.«object.__class__» shownTypeOf
 repeat lk
 exact hq
theorem zbh {tk:Tok}{Q:Fin->Shared->Prop}(X:K.In h)(hx:h.get? x=some ox)(hc:ox.cls=.ref C)(hcl:findIn K (.ref C) "__class__" = some (some (.builtin "object.__class__")))(hm:mroIn K C (.type "object")=some true)
  (hq:Q (.done (.ret (.ref C))) ⟨h,g,d,t,os⟩):wpAny (model prog w) A (Builtin.«object.__getattribute__» ⟨[.ref x,.str "__class__" tk],[]⟩) Q E ⟨h,g,d,t,os⟩:=by
 have L0:=kM (model prog w) hx hc
 have L1:=looks_findIn (M:=model prog w) X hcl
 have hT5:(⟨h,g,d,t,os⟩:Shared).TypeIs (.builtin "object.__class__") "getset_descriptor" := F.typeOf_object_class
 have f5:=F.typeOf_object_class
 have f6:=F.slot_gs_get.lookup
 have f7:=F.slot_gs_set.lookup
 unfold Builtin.«object.__getattribute__»
 repeat (any_goals (first | assumption | (with_reducible refine wpAny_loadPart_at hx ?_;rw[hc]) | with_reducible refine Looks.at (by assumption) ?_ | wp_step))
 refine zea X hx hc hm ?_
 repeat (any_goals (first | assumption | wp_step))
theorem jB {nameV:Value}{Q:Unit->Shared->Prop}(X:K.In h)(hx:h.get? x=some ox)(hc:ox.cls=.ref C)(hb:mroIn K C (.type "BaseException")=some true)(hq:Q () ⟨h,g,d,t,os⟩):
  wpAny (model prog w) A (checkBuiltinCall "BaseException.__getattribute__" ⟨[.ref x,nameV],[]⟩) Q E ⟨h,g,d,t,os⟩:=by
 have L0:=kM (model prog w) hx hc
 have L1:=looks_mroIn (M:=model prog w) X hb
 have z1:builtinKind "BaseException.__getattribute__" = some .slot:=by decide +kernel
 have z2:splitId "BaseException.__getattribute__" = some ("BaseException", "__getattribute__"):=by decide +kernel
 have z3:=F.args_bexc_ga (.ref x) nameV
 simp only[checkBuiltinCall,z1,z2]
 refine wpAny_bind ?_
 unfold isInstance
 repeat (first | with_reducible refine Looks.at (by assumption) ?_ | wp_step)
 exact hq
theorem zcm {tk:Tok}{R:Result->Shared->Prop}(X:K.In h)(hx:h.get? x=some ox)(hc:ox.cls=.ref C)(hb:mroIn K C (.type "BaseException")=some true)(hcl:findIn K (.ref C) "__class__" = some (some (.builtin "object.__class__")))(hm:mroIn K C (.type "object")=some true)
  (hq:R (.ok (.ret (.ref C))) ⟨h,g,d,t,os⟩):codeAny (model prog w) A (.call (.builtin "BaseException.__getattribute__") ⟨[.ref x,.str "__class__" tk],[]⟩) R ⟨h,g,d,t,os⟩ :=
 codeAny_call_builtin F.attr_ValueError.ga.plain F.entry_bexc_ga (jB X hx hc hb (zbh X hx hc hcl hm hq))
theorem zeb {s:Shared}{Q:Option Value->Shared->Prop}(X:K.In s.heap)(hx:s.heap.get? x=some ox)(hc:ox.cls=.ref C)(hga:findIn K (.ref C) "__getattribute__" = some (some (.builtin "BaseException.__getattribute__")))(hgt:findIn K (.ref C) "__getattr__" = some none)
  (hb:mroIn K C (.type "BaseException")=some true) (hcl:findIn K (.ref C) "__class__" = some (some (.builtin "object.__class__"))) (hm:mroIn K C (.type "object")=some true)
  (hq:Q (some (.ref C)) { s with toks:=s.toks+1 }):wpAny (model prog w) A (getAttr? (.ref x) "__class__") Q E s:=by
 obtain ⟨h,g,d,t,os⟩:=s
 have L0:=kM (model prog w) hx hc
 have L1:=looks_findIn (M:=model prog w) X hga
 have L2:=looks_findIn (M:=model prog w) X hgt
 have f3:=F.attr_ValueError.ga.bind (.ref x)
 have y2:(Value.builtin "BaseException.__getattribute__" == Value.builtin "object.__getattribute__")=false:=by decide +kernel
 have y1:(onTheHeap (Value.ref C) && Value.builtin "BaseException.__getattribute__" == Value.builtin "object.__getattribute__")=false:=by rw[y2];rfl
 unfold getAttr? getAttrBy? getAttrBy
 refine wpAny_bind (wpAny_mkText (wpAny_bind (wpAny_attempt (wpAny_holding (wpAny_bind (L0.at (wpAny_bind (L1.at ?_))))))))
 dsimp only
 rw[if_neg (by rw[y1];decide)]
 unfold getAttrByItsOwn hookBefore callGetattribute
 repeat (any_goals (first | assumption | with_reducible refine Looks.at (by assumption) ?_ | wp_step))
 refine zcm (h:=h) X hx hc hb hcl hm ?_
 repeat (any_goals (first | assumption | wp_step))
end
end L2
namespace L2
open PySem PySem.Spec PySem.Calls PyProof.Rows PySem.W
structure ExcK (K:PySem.W.Frag)(C:Addr):Prop where
 ga:findIn K (.ref C) "__getattribute__" = some (some (.builtin "BaseException.__getattribute__"))
 gt:findIn K (.ref C) "__getattr__" = some none
 be:mroIn K C (.type "BaseException")=some true
 cl:findIn K (.ref C) "__class__" = some (some (.builtin "object.__class__"))
 mo:mroIn K C (.type "object")=some true
set_option tactic.hygienic true in
theorem zcn {K:PySem.W.Frag}{C:Addr}(h:(clsIn K C).isSome=true):∃c d cd sl,K.lookup C=some ⟨c,d,.cls cd,sl⟩:=by
 unfold clsIn at h
 split at h
 .rename_i c d cd sl ho
  exact ⟨c,d,cd,sl,ho⟩
 .cases h
theorem ExcK.ci {K:PySem.W.Frag}{C:Addr}(Z:ExcK K C):(clsIn K C).isSome=true:=by
 obtain ⟨cd,a,_⟩:=Option.bind_eq_some_iff.mp Z.be
 rw[a]
 rfl
theorem gK {K:PySem.W.Frag}{x C:Addr}{ox:Obj}(Z:ExcK K C)(hc:ox.cls=.ref C):KitX K (.ref x) (.ref C) (fun h=>h.get? x=some ox) where
 ty:=fun M h _ p=>kM M p hc
 it:=fun M h X _=>by
  obtain ⟨c,d,cd,sl,ho⟩:=zcn Z.ci
  intro A' Q' E' s' k q
  unfold isType loadHead
  refine wpAny_bind (wpAny_loadPart (k _ _ (X _ _ ho)) ?_)
  exact wpAny_pure q
 ne:=fun h tp dd its n sl X htp=>by
  obtain ⟨c,d,cd,sl',ho⟩:=zcn Z.ci
  refine Bool.eq_false_iff.mpr fun q=>?_
  cases Value.ref.inj (beq_iff_eq.mp q)
  have z:=(X _ _ ho).symm.trans htp
  cases z
 ca:=fun X p k=>zeb X p hc Z.ga Z.gt Z.be Z.cl Z.mo k
def rIsX (K:PySem.W.Frag)(x C:Addr):List V->Hp->VK->Prop:=fun vs H Q =>
 (∃c u b,vs=[.ref x,c]/\RelV c u/\(∀u',RelV c u'->u'=u)/\kitOne K (.ref C) u=some b/\Q (.bl b) H) \/
 (∃tp ts b,vs=[.ref x,.ref tp]/\H tp=some (.tup ts)/\(∀us,Vals ts us->kitAny K (.ref C) us=some b)/\Q (.bl b) H)
theorem zco {v w:V}{us:List Value}(r:Vals [v,w] us):∃a b,us=[a,b]/\RelV v a/\RelV w b:=by
 cases r with
 | cons p q =>
  cases q with
  | cons p' q' =>
   cases q' with
   | nil=>exact ⟨_,_,rfl,p,p'⟩
theorem zec {l:List Env}{H H':Hp}{h h1 h2 B base:Heap}(hl:h.FunFrames base l)(hn:∀b∈frs l,H b=none)(u:Un (frs l) [] H H' h h1)(hB:Held (frs l) H' h h1 B)(st:B.StaysIn h2)(up:h1.UpToSlots h2):Un (frs l) [] H H' h h2:=by
 have no:∀b:Addr,b∉([]:List Addr):=fun b=>by simp
 have sl:∀b o,h.get? b=some o->b∈frs l->∃sl,h2.get? b=some { o with slots:=sl }:=fun b o e hb=>by
  obtain ⟨s1,e1⟩:=u.slot b o e (hn b hb) hb (no b)
  obtain ⟨_,o',ho',hd⟩:=hl.mem hb
  rw[e] at ho'
  cases ho'
  obtain ⟨s2,e2⟩:=up b _ e1 hd
  exact ⟨s2,e2⟩
 refine ⟨fun b o e n hb _=>?_,fun b o e n hb _=>sl b o e hb,u.free,fun b o e _=>?_,u.tups,u.frzs,u.tbls⟩
 .have e1:=u.keep b o e n hb (no b)
  exact st b o (hB b o e1 (.inr ⟨o,e⟩) hb)
 .by_cases hb:b∈frs l
  .obtain ⟨s1,e1⟩:=sl b o e hb
   exact ⟨_,e1⟩
  .obtain ⟨o1,e1⟩:=u.there b o e (no b)
   exact ⟨o1,st b o1 (hB b o1 e1 (.inr ⟨o,e⟩) hb)⟩
section
variable {M:Model}{A:Around}{E:Value->Shared->Prop}{bs bs' bm bm':List Value}{nm nm' q q':Str}{C G N N':Addr}{hdct hdct':Bool}{sn sn':List Str}{sub sub':List Value}{ab ab':Bool}{col col':Option Bool}{dd dd':Option Addr}{k0 k1 k2 k3 k5 j0 j1 j2 j3 j5:Option Value}{newId newId':String}
theorem zcp {h:Heap}{g:Array GenState}{d:Drawn}{t:Nat}{os:OsState}{e:Addr}{oe:Obj}{Q:Bool->Shared->Prop}
  (hC:h.get? C=some (excClassObj nm q C N bs bm hdct sn sub ab col dd k0 k1 k2 k3 k5 newId)) (hG:h.get? G=some (excClassObj nm' q' G N' bs' bm' hdct' sn' sub' ab' col' dd' j0 j1 j2 j3 j5 newId')) (he:h.get? e=some oe) (hcls:oe.cls=.ref C)
  (y1:(Value.ref G::bm').contains (.type "BaseException")=true) (y2:(Value.ref C::bm).contains (.ref G)=true) (hq:Q true ⟨h,g,d,t,os⟩):wpAny M A (excMatches (.ref e) (.ref G)) Q E ⟨h,g,d,t,os⟩:=by
 have f:=tc_notTuple
 unfold excMatches
 repeat (first | (with_reducible refine wpAny_loadPart_at he ?_;rw[hcls]) | with_reducible refine wpAny_loadPart_at hG ?_ | (with_reducible refine wpAny_isSubtype_exc hG ?_;rw[y1]) | (with_reducible refine wpAny_isSubtype_exc hC ?_;rw[y2]) | wp_step)
 exact hq
end
section
variable {X:Cx}{pins:List (Addr×Obj)}{σ:St}{H:Hp}{s:Shared}
theorem Inv.lost {h':Heap}{m':Str->Option Value}{t':Nat}(I:Inv X pins σ H s)(hn:h'.Ns X.env.locals m')(hs:Heap.SameBut X.env.locals s.heap h'):Inv X pins (List.replicate X.N.length none) H { s with heap:=h',toks:=t' }:=by
 have lo:∀ {b:Addr}{o:Obj},X.s₀.heap.get? b=some o->b≠X.env.locals:=fun {b o} e z=>by
  subst z
  exact absurd (Nat.lt_of_lt_of_le (Heap.lt_size e) I.ok.above) (Nat.lt_irrefl _)
 refine ⟨I.ok,I.os,I.bare,⟨fun b o e n hb hx=>?_,fun b o e n hb hx=>?_,I.base.free,fun b o e hx=>?_,I.base.tups,I.base.frzs,I.base.tbls⟩,⟨m',hn,fun j y v e1 e2 _=>?_⟩,fun y c e=>?_,I.free,I.freeC,fun p hp=>?_,fun b ob e=>?_,by simp⟩
 .rw[hs.2 b (lo e)];exact I.base.keep b o e n hb hx
 .obtain ⟨sl,e1⟩:=I.base.slot b o e n hb hx
  exact ⟨sl,by rw[hs.2 b (lo e)];exact e1⟩
 .obtain ⟨o',e1⟩:=I.base.there b o e hx
  exact ⟨o',by rw[hs.2 b (lo e)];exact e1⟩
 .rw[List.getElem?_replicate] at e2
  split at e2 <;> cases e2
 .obtain ⟨w',z⟩:=I.cell y c e
  exact ⟨w',z.sameBut hs (I.cne y c e)⟩
 .obtain ⟨e,n,ne,nf,d⟩:=I.pin p hp
  exact ⟨by rw[hs.2 p.1 ne];exact e,n,ne,nf,d⟩
 .have hL:=I.free
  refine (I.hok b ob e).stay (fun c w' hc q=>?_) (fun _ q=>q) fun _ _ q=>q
  rw[hs.2 c (fun z=>by
   subst z
   rcases hc with z | z
   .rw[<- z,hL] at e;cases e
   .rw[hL] at z;cases z)]
  exact q
end
def wS (h:Heap)(C:Addr)(v:Value):Prop:=∃nm q N bs bm hdct sn sub ab col dd k0 k1 k2 k3 k5 newId,h.get? C=some (excClassObj nm q C N bs bm hdct sn sub ab col dd k0 k1 k2 k3 k5 newId)/\(Value.ref C::bm).contains v=true
def tNm:List Addr->TA
 | []=>zb8
 | a::r=>jr (tC (.ref a)) (tNm r)
theorem zfK {as:List Addr}{σ:St}{H:Hp}{Q:List V->Hp->Prop}(h:Q (as.map V.ref) H):tNm as σ H Q:=by
 induction as generalizing Q with
 | nil=>exact h
 | cons a r ih=>exact ih (Q:=fun xs H2=>Q (.ref a::xs) H2) h
theorem zaq:∀ {as:List Addr}{us:List Value},Vals (as.map V.ref) us->us=as.map Value.ref
 | [],_,.nil=>rfl
 | a::r,_,.cons p q=>by
  obtain rfl:_=Value.ref a:=p
  rw[zaq q]
  rfl
inductive IsNms (env:Env)(mg:Str->Option Value):List Expr->List Addr->Prop
 | nil:IsNms env mg [] []
 | cons {x:Str}{p:Pos}{es:List Expr}{a:Addr}{as:List Addr}(hg:env.kindOf x=some .globalImplicit) (hm:mg x=some (.ref a)) (hd:(x == ("__debug__" : Str))=false) (h:IsNms env mg es as):IsNms env mg (.Name x p::es) (a::as)
theorem zfL {X:Cx}{es:List Expr}{as:List Addr}(h:IsNms X.env X.mg es as):PA X es (tNm as):=by
 induction h with
 | nil=>exact yA
 | cons hg hm hd _ ih=>exact zy (jN (v:=.ref _) hg hm rfl hd) ih rfl
noncomputable def zcq (n y:Str)(es:List Expr)(p1 p2 p3 p4 p5 p6 p7 p8 p9 pa pb pc pd pe pf pg ph:Pos)(k1 k2:Nat):List Stmt :=
 [.If (.Call (.Name "isinstance" p1) [.Name n p2,.Tuple es k1 p3] [] p4) [.Return (some (.Constant (.bool false) k2 p5)) p6] [] p7,
  .Return (some (.BoolOp .And [.Call (.Name "isinstance" p8) [.Name n p9,.Name y pa] [] pb,.Call (.Name "isinstance" pc) [.Name n pd,.Name "ValueError" pe] [] pf] pg)) ph]
structure ClsOk (X:Cx)(C G:Addr)(ts:List Addr)(Y:Addr)(r:Bool):Prop where
 ex:wS X.base C (.ref G)
 kk:ExcK X.K C
 va:kitOne X.K (.ref C) (.type "ValueError")=some true
 re:∃b1 b2,kitAny X.K (.ref C) (ts.map Value.ref)=some b1/\kitOne X.K (.ref C) (.ref Y)=some b2/\r=(!b1 && b2)
theorem Inv.gone {X:Cx}{pins:List (Addr×Obj)}{σ:St}{H:Hp}{s:Shared}{h':Heap}{m:Str->Option Value}{v:Option Value}{t' i:Nat}{n:Str}(I:Inv X pins σ H s)(hN:X.N.Nodup)(hi:X.N[i]?=some n)
  (hl:∀ (i:Nat) (x:Str) (v:V),X.N[i]?=some x->σ[i]?=some (some v)->Vis X.env.scope x->∃u,RelV v u/\zgu X.env s.heap m x u) (hn:h'.Ns X.env.locals (fun x=>if x=n then v else m x)) (hs:Heap.SameBut X.env.locals s.heap h'):Inv X pins (σ.set i none) H { s with heap:=h',toks:=t' }:=by
 have lo:∀ {b:Addr}{o:Obj},X.s₀.heap.get? b=some o->b≠X.env.locals:=fun {b o} e z=>by
  subst z
  exact absurd (Nat.lt_of_lt_of_le (Heap.lt_size e) I.ok.above) (Nat.lt_irrefl _)
 refine ⟨I.ok,I.os,I.bare,⟨fun b o e n hb hx=>?_,fun b o e n hb hx=>?_,I.base.free,fun b o e hx=>?_,I.base.tups,I.base.frzs,I.base.tbls⟩,⟨_,hn,fun j y w e1 e2 e3=>?_⟩,fun y c e=>?_,I.free,I.freeC,fun p hp=>?_,fun b ob e=>?_,by rw[List.length_set];exact I.len⟩
 .rw[hs.2 b (lo e)];exact I.base.keep b o e n hb hx
 .obtain ⟨sl,e1⟩:=I.base.slot b o e n hb hx
  exact ⟨sl,by rw[hs.2 b (lo e)];exact e1⟩
 .obtain ⟨o',e1⟩:=I.base.there b o e hx
  exact ⟨o',by rw[hs.2 b (lo e)];exact e1⟩
 .have hj:j≠i:=by
   rintro rfl
   rw[List.getElem?_set] at e2
   split at e2
   .split at e2 <;> cases e2
   .rename_i z;exact z rfl
  rw[List.getElem?_set_ne (Ne.symm hj)] at e2
  obtain ⟨u,r,q⟩:=hl j y w e1 e2 e3
  refine ⟨u,r,?_⟩
  rcases q with ⟨k,e⟩ | ⟨k,c,e,z⟩
  .refine .inl ⟨k,?_⟩
   have:y≠n:=fun e=>hj (kA hN e1 (e▸hi))
   show (if y=n then v else m y)=some u
   rw[if_neg this];exact e
  .exact .inr ⟨k,c,e,z.sameBut hs (I.cne y c e)⟩
 .obtain ⟨w',z⟩:=I.cell y c e
  exact ⟨w',z.sameBut hs (I.cne y c e)⟩
 .obtain ⟨e,n,ne,nf,d⟩:=I.pin p hp
  exact ⟨by rw[hs.2 p.1 ne];exact e,n,ne,nf,d⟩
 .have hL:=I.free
  refine (I.hok b ob e).stay (fun c w' hc q=>?_) (fun _ q=>q) fun _ _ q=>q
  rw[hs.2 c (fun z=>by
   subst z
   rcases hc with z | z
   .rw[<- z,hL] at e;cases e
   .rw[hL] at z;cases z)]
  exact q
structure ClsOk2 (X:Cx)(C G Y Z:Addr)(r:Bool):Prop where
 ex:wS X.base C (.ref G)
 kk:ExcK X.K C
 re:∃b1 b2,kitOne X.K (.ref C) (.ref Y)=some b1/\kitOne X.K (.ref C) (.ref Z)=some b2/\r=(b1 && !b2)
noncomputable def exO (oe:Obj):HO:=.frz oe (.ext fun _=>True)
theorem Inv.track {X:Cx}{pins:List (Addr×Obj)}{σ:St}{H:Hp}{s:Shared}{e:Addr}{oe:Obj}(I:Inv X pins σ H s)(he:s.heap.get? e=some oe)(hn:H e=none)(h0:X.s₀.heap.get? e=none)(hl:e≠X.env.locals)
  (hc:∀x c,X.env.cells.lookup x=some c->c≠e) (hp:∀p∈X.pn++pins,p.1≠e):Inv X pins σ (upd H e (exO oe)) s:=by
 have up:∀ {b:Addr}{o:HO},H b=some o->upd H e (exO oe) b=some o:=fun {b o} z=>by
  rw[zd (zl z hn)];exact z
 refine ⟨I.ok,I.os,I.bare,⟨I.base.keep,I.base.slot,fun b o e1 e2 e3=>?_,I.base.there,fun b xs z=>up (I.base.tups b xs z),fun b o u z=>up (I.base.frzs b o u z),fun b ps z=>?_⟩,I.loc,I.cell,?_,fun x c z=>?_,fun p z=>?_,fun a o z=>?_,I.len⟩
 .rw[zd (fun z=>by rw[z,h0] at e1;cases e1)]
  exact I.base.free b o e1 e2 e3
 .obtain ⟨more,q⟩:=I.base.tbls b ps z
  exact ⟨more,up q⟩
 .rw[zd (Ne.symm hl)];exact I.free
 .rw[zd (hc x c z)];exact I.freeC x c z
 .obtain ⟨a1,a2,a3⟩:=I.pin p z
  exact ⟨a1,by rw[zd (hp p z)];exact a2,a3⟩
 .by_cases q:a=e
  .subst q
   rw[zg] at z
   cases z
   exact ⟨he,trivial,⟨oe,he⟩,fun _ _ _ _=>trivial⟩
  .rw[zd q] at z
   exact (I.hok a o z).stay (fun _ _ _ q=>q) (fun _ q=>up q) fun _ _ q=>up q
noncomputable abbrev Cx.heldT (X:Cx)(e:Addr)(E:Value->Shared->Prop):Cx:={ X with A:=X.A.mark (some (.ref e)),calm:=false,xe:=E }
section
variable {X:Cx}{pins:List (Addr×Obj)}{σ:St}{H:Hp}{s:Shared}{e:Addr}{E:Value->Shared->Prop}
theorem Inv.heldT (I:Inv X pins σ H s):Inv (X.heldT e E) pins σ H s :=
 ⟨⟨I.ok.mod,I.ok.kind,I.ok.glob,I.ok.blt,I.ok.above,I.ok.inj,I.ok.has,I.ok.cab,(fun z=>by cases z),I.ok.frames,I.ok.stk,I.ok.exf,I.ok.bs,I.ok.bsz,I.ok.noex,I.ok.exfs,I.ok.funs,I.ok.frf⟩,I.os,I.bare,I.base,I.loc,I.cell,I.free,I.freeC,I.pin,I.hok,I.len⟩
theorem ziE (ok:X.Ok)(I:Inv (X.heldT e E) pins σ H s):Inv X pins σ H s :=
 ⟨ok,I.os,I.bare,I.base,I.loc,I.cell,I.free,I.freeC,I.pin,I.hok,I.len⟩
end
theorem zcr {X:Cx}{x C:Addr}{ox:Obj}(Z:ExcK X.K C)(hc:ox.cls=.ref C):CallR X (.builtin "isinstance") (fun vs H Q=>H x=some (exO ox)/\rIsX X.K x C vs H Q):=by
 intro pins s σ H xs us Q I r ⟨hH,h⟩
 have hx:s.heap.get? x=some ox:=(I.hok x _ hH).1
 rcases h with ⟨c,u,b,rfl,ru,uq,k,q⟩ | ⟨tp,ts,b,rfl,ht,k,q⟩
 .obtain ⟨a,a',rfl,ra,ra'⟩:=zco r
  obtain rfl:a=.ref x:=ra
  obtain rfl:=uq a' ra'
  exact kia_one (gK Z hc) I.kIn hx k (fun z=>nomatch z) fun tk=>⟨.bl b,H,I.tok tk,rfl,q⟩
 .obtain ⟨a,a',rfl,ra,ra'⟩:=zco r
  obtain rfl:a=.ref x:=ra
  obtain rfl:a'=.ref tp:=ra'
  obtain ⟨z,its,rv,⟨oc,od,dat,sl⟩,ho,h1,n,hd⟩:=I.hok tp _ ht
  obtain rfl:oc=.type "tuple" := h1
  obtain rfl:dat=.seq its.toArray n:=hd
  exact kia_tup (gK Z hc) I.kIn hx ho (k its rv) (fun z=>nomatch z) fun tk=>⟨.bl b,H,I.tok tk,rfl,q⟩
structure KOk (K:PySem.W.Frag)(C:Addr)(ts:List Addr)(Y:Addr)(r:Bool):Prop where
 kk:ExcK K C
 va:kitOne K (.ref C) (.type "ValueError")=some true
 re:∃b1 b2,kitAny K (.ref C) (ts.map Value.ref)=some b1/\kitOne K (.ref C) (.ref Y)=some b2/\r=(!b1 && b2)
structure RoomU (A:Around):Prop where
 dp:A.depth+8 < recursionLimit
 un:A.units+216 < cLine
theorem RoomU.of {k:Nat}{A:Around}(r:Room (k+1) A)(v:Option Value):RoomU (A.mark v):=⟨by have:=r.dp;show A.depth+8 < _;lia,by have:=r.un;show A.units+216 < _;lia⟩
structure FnU (P:Program)(w:World)(K:PySem.W.Frag)(mg:Str->Option Value)(base:Heap)(f:Addr)(fd:FuncData)(ps:List Str)(sp:Sp):Prop where
 len:∀vs H Q E,sp vs H Q E->vs.length=ps.length
 run:∀ (A:Around) (outer:List Env) (s:Shared) (H:Hp) (args:Args) (us:List Value) (vs:List V) (Q:VK) (E:XK),RoomU A->Env0 P w K mg base A outer s H->BindsTo s fd args (ps.zip us)->Vals vs us->sp vs H Q E ->
  codeAny (model P w) A (.call (.ref f) args) (CR CX0 outer P w H s Q E) s
end L2
namespace L2
open PySem PySem.Spec PySem.Calls PyProof.Rows
end L2
namespace L2
open PySem PySem.Spec PySem.Calls PyProof.Rows PySem.W Builtin Builtin.ObjectAttr
section
variable {prog:Program}{w:World}{A:Around}{E:Value->Shared->Prop}{K:PySem.W.Frag}{x C:Addr}{ox:Obj}{s:Shared}{name:Str}{v:Value}
theorem zbi {cd:ClassData}{Q:Unit->Shared->Prop}(X:K.In s.heap)(hx:s.heap.get? x=some ox)(hc:ox.cls=.ref C)(hnc:notCls ox=true)(hdn:ox.dict=none)(hcd:clsIn K C=some cd)(hdd:cd.hasDict=true)(hpass:∀self,refuseLoop self "__setattr__" cd.mro=pure ())
  (hs:findIn K (.ref C) "__setattr__" = some (some (.builtin "object.__setattr__"))) (hm:mroIn K C (.type "object")=some true) (hn:findIn K (.ref C) name=some none)
  (h:∀h' tk' D,s.heap.get? D=none->h'.get? x=some { ox with dict:=some D }->h'.Ns1 D (fun y=>if y=name then some v else none)->(∀b o,b≠x->s.heap.get? b=some o->h'.get? b=some o)->Q () { s with heap:=h',toks:=tk' }) :
  wpAny (model prog w) A (setAttr (.ref x) name v) Q E s:=by
 obtain ⟨h₀,g,d,t,os⟩:=s
 dsimp only at hx X h ⊢
 have SF:=PySem.F.store_object
 have I:InstAt h₀ x ox C none:=⟨hx,hc,hnc,by rw[hdn];trivial⟩
 refine set_plain X I hs ?_
 have L0:=I.type (M:=model prog w)
 have sub:Looks (model prog w) h₀ (isInstance (.ref x) (.type "object")) true:=L0.andThen (looks_mroIn X hm)
 refine codeAny_call_builtin SF.slot.plain SF.entry (@check_slot (model prog w) _ _ ⟨h₀,g,d,t+1,os⟩ "object.__setattr__" "object" "__setattr__" (.ref x) [.str name t,v] [] _ SF.kind SF.split sub (SF.args (.ref x) (.str name t) v) ?_)
 have L1:Looks (model prog w) h₀ (mroOf (.ref C)) cd.mro:=(looks_clsIn X hcd).andThen .now
 have L2:=looks_findIn (M:=model prog w) X hn
 have L3:=looks_clsIn (M:=model prog w) X hcd
 rw[osa_eq,refuse_eq]
 refine wpAny_bind (wpAny_bind (L0.at (wpAny_bind (L1.at ?_))))
 rw[hpass]
 refine wpAny_pure (wpAny_bind (L0.at (wpAny_bind (L2.at (wpAny_bind (wpAny_pure (a:=(none:Option Value)) ?_))))))
 obtain ⟨oc,od,odt,osl⟩:=ox
 dsimp only at hc hdn
 subst hc hdn
 have hxs:x≠h₀.objs.size:=Nat.ne_of_lt (Heap.lt_size hx)
 have hx₁:(h₀.push { cls:=.type "dict",data:=.dict #[] }).get? x=some ⟨.ref C,none,odt,osl⟩:=Heap.get?_push_of_some _ hx
 refine wpAny_bind (wpAny_pure (wpAny_bind (wpAny_bind (wpAny_loadPart hx (wpAny_bind (L3.at ?_))))))
 rw[hdd]
 have hcls:∀c,odt≠.cls c:=fun c z=>by subst z;cases hnc
 have step:∀ {Q':Option Addr->Shared->Prop},Q' (some h₀.objs.size) ⟨(h₀.push { cls:=.type "dict",data:=.dict #[] }).update x fun o=>{ o with dict:=some h₀.objs.size },g,d,t+1,os⟩ ->
   wpAny (model prog w) A.in1 (do
    let d <- alloc { cls:=.type "dict",data:=.dict #[] }
    update x fun o=>{ o with dict:=some d }
    dictMade (.ref C) x d) Q' (fun e s'=>E e s') ⟨h₀,g,d,t+1,os⟩:=fun {Q'} hq =>
  wpAny_bind (wpAny_alloc' (wpAny_bind (wpAny_update' hx₁ (wpAny_pure hq))))
 have hgx:((h₀.push { cls:=.type "dict",data:=.dict #[] }).update x fun o=>{ o with dict:=some h₀.objs.size }).get? x=some ⟨.ref C,some h₀.objs.size,odt,osl⟩:=by
  refine Heap.get?_update_self _ hx₁ ?_
  have hfr:=(Heap.get?_some_iff.mp hx).2
  cases odt <;> first | rfl | exact hfr
 have hgd:((h₀.push { cls:=.type "dict",data:=.dict #[] }).update x fun o=>{ o with dict:=some h₀.objs.size }).get? h₀.objs.size=some { cls:=.type "dict",data:=.dict #[] } :=
  (Heap.get?_update_ne _ _ _ _ hxs.symm).trans (Heap.get?_push_at rfl rfl)
 have hnd:((h₀.push { cls:=.type "dict",data:=.dict #[] }).update x fun o=>{ o with dict:=some h₀.objs.size }).Ns h₀.objs.size (fun _=>none) :=
  ⟨_,#[],_,hgd,rfl,fun e he=>absurd he (by simp),fun _=>rfl⟩
 have fin:∀ {Q':Fin->Shared->Prop},(∀h' tk' D,h₀.get? D=none->h'.get? x=some ⟨.ref C,some D,odt,osl⟩->h'.Ns1 D (fun y=>if y=name then some v else none)->(∀b o,b≠x->h₀.get? b=some o->h'.get? b=some o)->Q' (.done (.ret .none)) ⟨h',g,d,tk',os⟩) ->
   wpAny (model prog w) A.in1 (storeInDict h₀.objs.size (.str name t) name v) Q' (fun e s'=>E e s') ⟨(h₀.push { cls:=.type "dict",data:=.dict #[] }).update x fun o=>{ o with dict:=some h₀.objs.size },g,d,t+1,os⟩:=fun {Q'} hq=>by
  unfold storeInDict newKeyGuard
  refine wpAny_bind (wpAny_pure (wpAny_bind (wpAny_nsSet1 (Heap.Ns1.of_empty hnd) fun h' hn' hs=>?_)))
  obtain ⟨oD,esD,epD,hoD,hdD,hcD⟩:=hn'.count (Within.cons name v Within.nil)
  refine wpAny_bind (wpAny_lookBehind hoD (by rw[hdD];exact pastItsLine_dict (Nat.le_trans hcD (by rw[List.length_cons,List.length_nil,sizeLine_eq];lia))) ?_)
  refine wpAny_pure ?_
  refine hq h' _ h₀.objs.size (Heap.get?_none_of_le (Nat.le_refl _)) ((hs.2 x hxs).trans hgx) hn' fun b o hbx hb=>?_
  exact (hs.2 b (Nat.ne_of_lt (Heap.lt_size hb))).trans ((Heap.get?_update_ne _ _ _ _ hbx).trans (Heap.get?_push_of_some _ hb))
 rw[if_neg (by decide)]
 dsimp only
 rw[if_neg (by simp[typeHasDict])]
 split
 .exact absurd rfl (hcls _)
 .exact step (fin fun h' tk' D a1 a2 a3 a4=>h h' tk' D a1 a2 a3 a4)
end
end L2
namespace L2
open PySem PySem.Spec PySem.Calls PyProof.Rows PySem.W
section
variable {prog:Program}{w:World}{A:Around}{E:Value->Shared->Prop}{K:PySem.W.Frag}{h:Heap}{g:Array GenState}{d:Drawn}{t:Nat}{os:OsState}
variable {nm q:Str}{C N fI:Addr}{bs bm bmB:List Value}{hdct:Bool}{sn:List Str}{sub:List Value}{ab:Bool}{col:Option Bool}{dd:Option Addr}{k0 k1 k2 k3 k5:Option Value}{B newId initId:String}
theorem zcs (F:ExcBaseFacts B newId initId bmB)(T:OwnTail h bmB bm){rest:List Value}{Q:Fin->Shared->Prop}(X:K.In h)
  (hC:h.get? C=some (excClassObj nm q C N bs bm hdct sn sub ab col dd k0 k1 k2 k3 k5 newId)) (hi:findIn K (.ref C) "__init__" = some (some (.ref fI))) (hf:typeIn K (.ref fI)=some (.type "function"))
  (hq:∀h' e,Heap.MadeExcOf h h' e (.ref C) rest->h.objs.size<=h'.objs.size->wpAny (model prog w) A (call (.ref fI) (.ref e::rest)) (fun r s'=>r=.none/\Q (.done (.ret (.ref e))) s') E ⟨h',g,d,t,os⟩) (hrest:rest.length<=sizeLine) :
  wpAny (model prog w) A (Builtin.«type.__call__» ⟨.ref C::rest,[]⟩) Q E ⟨h,g,d,t,os⟩:=by
 repeat (first | with_reducible refine wpAny_loadPart_at hC ?_ | with_reducible refine wpAny_madeBy_exc hC ?_ | wp_step)
 refine codeAny_call_builtin_code (Code.quiet_builtin _ F.quiet) (wpAny_check_new_subT F T hC ?_)
 refine codeAny_exc_new_subT F T hC ?_ hrest
 show wpAny _ _ _ _ _ _
 have kp:∀b o,h.get? b=some o->((h.push { cls:=.type "tuple",data:=.seq rest.toArray }).push { cls:=.ref C,data:=.fields #[.ref h.objs.size,.none,.none,.none,.bool false,.none] }).get? b=some o:=fun b o e=>Heap.get?_push_of_some _ (Heap.get?_push_of_some _ e)
 have X₁:=X.keeps kp
 have hC₁:=kp _ _ hC
 have hget:((h.push { cls:=.type "tuple",data:=.seq rest.toArray }).push { cls:=.ref C,data:=.fields #[.ref h.objs.size,.none,.none,.none,.bool false,.none] }).get? (h.objs.size+1)=some { cls:=.ref C,data:=.fields #[.ref h.objs.size,.none,.none,.none,.bool false,.none] }:=by heap_get
 have hcC:(Value.ref C::bm).contains (.ref C)=true:=by simp
 have mk:Heap.MadeExcOf h _ (h.objs.size+1) (.ref C) rest:=⟨kp,Heap.get?_none_of_le (Nat.le_succ _),h.objs.size,hget,Heap.get?_none_of_le (Nat.le_refl _),Heap.get?_push_of_some _ (Heap.get?_push_at rfl rfl)⟩
 unfold isInstance
 repeat (first | with_reducible refine wpAny_loadPart_at hget ?_ | (with_reducible refine wpAny_isSubtype_exc hC₁ ?_;rw[hcC]) | wp_step)
 show wpAny _ _ (typeLookup (.ref C) _) _ _ _
 refine (looks_findIn X₁ hi).at (wpAny_holding (wpAny_bind ((bind_fn X₁ _ hf).at ?_)))
 refine wpAny_bind (wpAny_mono (hq _ _ mk (by rw[Heap.size_push,Heap.size_push];lia)) (fun r s' hr=>?_) fun _ _ x=>x)
 obtain ⟨rfl,hQ⟩:=hr
 wp_walk
 exact hQ
end
section
variable {prog:Program}{w:World}{A:Around}{E:Value->Shared->Prop}{K:PySem.W.Frag}{h:Heap}{g:Array GenState}{d:Drawn}{t:Nat}{os:OsState}
variable {nm q:Str}{C N fI:Addr}{bs bm bmB:List Value}{hdct:Bool}{sn:List Str}{sub:List Value}{ab:Bool}{col:Option Bool}{dd:Option Addr}{k0 k1 k2 k3 k5:Option Value}{B newId initId:String}
theorem zct (F:ExcBaseFacts B newId initId bmB)(T:OwnTail h bmB bm){rest:List Value}{Q:Value->Shared->Prop}(X:K.In h)
  (hC:h.get? C=some (excClassObj nm q C N bs bm hdct sn sub ab col dd k0 k1 k2 k3 k5 newId)) (hi:findIn K (.ref C) "__init__" = some (some (.ref fI))) (hf:typeIn K (.ref fI)=some (.type "function"))
  (hq:∀h' e,Heap.MadeExcOf h h' e (.ref C) rest->h.objs.size<=h'.objs.size->wpAny (model prog w) (A.under (.builtin "type.__call__" ⟨.ref C::rest,[]⟩)) (call (.ref fI) (.ref e::rest)) (fun r s'=>r=.none/\Q (.ref e) s') E ⟨h',g,d,t,os⟩) (hrest:rest.length<=sizeLine) :
  wpAny (model prog w) A (call (.ref C) rest) Q E ⟨h,g,d,t,os⟩:=by
 have f1:=tc_lookup
 have f2:=tc_bind (.ref C)
 have hT:(⟨h,g,d,t,os⟩:Shared).TypeIs (.ref C) "type" := ⟨_,hC,rfl⟩
 refine wpAny_call (codeAny_of_tree ?_)
 show wpAny _ _ (callAny (.ref C) _) _ _ _
 repeat (any_goals (first | assumption | with_reducible refine wpAny_loadPart_at hC ?_ | wp_step))
 exact ⟨rfl,codeAny_call_builtin_at (Code.quiet_builtin _ (by decide +kernel)) entry_typeCall (wpAny_check_type_call_sub hC (zcs F T X hC hi hf hq hrest))⟩
theorem zbj {M:Model}{s:Shared}{env:Env}{x:Sem Value}{Q:Flow->Shared->Prop}(hbase:bm.contains (.type "BaseException")=true)(hh:A.handled=none)
  (h:wpAny M A x (fun v s₁=>∃e oe t,v=.ref e/\s₁.heap.get? C=some (excClassObj nm q C N bs bm hdct sn sub ab col dd k0 k1 k2 k3 k5 newId) /\
   s₁.heap.get? e=some oe/\oe.cls=.ref C/\oe.data=.fields #[.ref t,.none,.none,.none,.bool false,.none]/\E (.ref e) s₁) E s) :
  wpAny M A (raiseStmt env (some x) none) Q E s:=by
 have hcB:(Value.ref C::bm).contains (.type "BaseException")=true:=by rw[List.contains_cons,hbase,Bool.or_true]
 unfold raiseStmt
 refine wpAny_bind (wpAny_mono h (fun v s₁ h₁=>?_) fun _ _ x=>x)
 obtain ⟨e,oe,t,rfl,hC,he,hc,hd,hE⟩:=h₁
 obtain ⟨oc,od,odt,osl⟩:=oe
 dsimp only at hc hd
 subst hc hd
 obtain ⟨hp,g,d,tk,os⟩:=s₁
 repeat (first | with_reducible refine wpAny_loadPart_at he ?_ | with_reducible refine wpAny_loadPart_at hC ?_ | (with_reducible refine wpAny_isSubtype_exc hC ?_;rw[hcB]) | wp_step)
 exact wpAny_raiseNew_none hh hE
theorem zbk {s:Shared}{env:Env}(F:ExcBaseFacts B newId initId bmB){x:Str}{np cpos pos:Pos}{args:List Expr}{Q:Flow->Shared->Prop}
  (hbase:bm.contains (.type "BaseException")=true) (hh:A.handled=none) (hplain:(backTo cpos (starEach args env)).any (·.1)=false)
  (hi:findIn K (.ref C) "__init__" = some (some (.ref fI))) (hf:typeIn K (.ref fI)=some (.type "function"))
  (h:wpAny (model prog w) A (eval (.Name x np) env) (fun f s₁=>f=.ref C/\wpAny (model prog w) A (evalArgs (.ref C) true (backTo cpos (starEach args env)) [])
   (fun a s₂=>a.kw=[]/\a.pos.length<=sizeLine/\s₂.heap.get? C=some (excClassObj nm q C N bs bm hdct sn sub ab col dd k0 k1 k2 k3 k5 newId)/\K.In s₂.heap/\OwnTail s₂.heap bmB bm /\
    ∀h' e,Heap.MadeExcOf s₂.heap h' e (.ref C) a.pos->s₂.heap.objs.size<=h'.objs.size->wpAny (model prog w) (A.under (.builtin "type.__call__" ⟨.ref C::a.pos,[]⟩)) (call (.ref fI) (.ref e::a.pos))
     (fun r s'=>r=.none/\∃oe t,s'.heap.get? C=some (excClassObj nm q C N bs bm hdct sn sub ab col dd k0 k1 k2 k3 k5 newId)/\s'.heap.get? e=some oe/\oe.cls=.ref C/\oe.data=.fields #[.ref t,.none,.none,.none,.bool false,.none]/\E (.ref e) s') E { s₂ with heap:=h' }) E s₁) E s) :
  wpAny (model prog w) A (exec (.Raise (some (.Call (.Name x np) args [] cpos)) none pos) env) Q E s:=by
 rw[arm_exec_Raise]
 simp only[evalOpt,Option.map]
 refine wpAny_bind (wpAny_standAt (zbj (C:=C) (nm:=nm) (q:=q) (N:=N) (bs:=bs) (bm:=bm) (hdct:=hdct) (sn:=sn) (sub:=sub) (ab:=ab) (col:=col) (dd:=dd) (k0:=k0) (k1:=k1) (k2:=k2) (k3:=k3) (k5:=k5) (newId:=newId) hbase hh ?_))
 refine wpAny_bind (wpAny_mono (wpAny_Call_ofName (wpAny_mono h (fun f s₁ h₁=>?_) fun _ _ x=>x)) (fun v s₃ h₃=>wpAny_bind (wpAny_standAt (wpAny_pure h₃))) fun _ _ x=>x)
 obtain ⟨rfl,h₁⟩:=h₁
 unfold callWith
 refine wpAny_bind (wpAny_holding (wpAny_mono h₁ (fun a s₂ h₂=>wpAny_bind (wpAny_standAt ?_)) fun _ _ x=>x))
 obtain ⟨apos,akw⟩:=a
 obtain ⟨hkw,hlen,hC,hX,T,h₂⟩:=h₂
 obtain rfl:akw=[]:=hkw
 obtain ⟨hp,g,d,tk,os⟩:=s₂
 simp only[hplain]
 refine wpAny_bind (wpAny_keeperOf_exc hC ?_)
 refine wpAny_bind (zct (hrest:=hlen) F T hX hC hi hf fun h' e hm hz=>wpAny_mono (h₂ h' e hm hz) (fun r s' hr=>⟨hr.1,wpAny_bind (wpAny_holding (wpAny_point (wpAny_pure ?_)))⟩) fun _ _ y=>y)
 obtain ⟨_,oe,t,e1,e2,e3,e4,e5⟩:=hr
 exact ⟨e,oe,t,rfl,e1,e2,e3,e4,e5⟩
end
end L2
namespace L2
open PySem PySem.Spec PySem.Calls PyProof.Rows PySem.W Builtin Builtin.ObjectAttr
structure OwnN (K:PySem.W.Frag)(C fI:Addr)(n:Str):Prop where
 cd:∃cd,clsIn K C=some cd/\cd.hasDict=true/\∀self,refuseLoop self "__setattr__" cd.mro=pure ()
 sa:findIn K (.ref C) "__setattr__" = some (some (.builtin "object.__setattr__"))
 ob:mroIn K C (.type "object")=some true
 no:findIn K (.ref C) n=some none
 ini:findIn K (.ref C) "__init__" = some (some (.ref fI))
 fn:typeIn K (.ref fI)=some (.type "function")
section
variable {P:Program}{w:World}{K:PySem.W.Frag}{mg:Str->Option Value}{base:Heap}{A:Around}{outer:List Env}{s:Shared}{H:Hp}
variable {fI:Addr}{qual a0 a1:Str}{params:Arguments}{scope:Scope}{dV kV doc pm cdv ct oc:Value}{an od:Option Addr}{osl:Array (Option Value)}{p1 p2 p3 p4:Pos}
theorem zcu {C e:Addr}{oe:Obj}{v:V}{u:Value}{E:Value->Shared->Prop}{R:Value->Shared->Prop}
  (lk:K.lookup fI=some ⟨oc,od,.func (PySem.W.fnOf "__init__" qual params [.Assign [.Attribute (.Name a0 p1) a1 p2] (.Name a1 p3) p4] scope dV kV doc pm an cdv ct),osl⟩) (hcd:PySem.W.codeIn K cdv qual=true) (S:FnScope [a0,a1] [a0,a1] scope)
  (hb:Binds K (PySem.W.fnOf "__init__" qual params [.Assign [.Attribute (.Name a0 p1) a1 p2] (.Name a1 p3) p4] scope dV kV doc pm an cdv ct) [a0,a1] []) (l0:scope.names.lookup a0=some .local) (l1:scope.names.lookup a1=some .local)
  (d0:(a0 == ("__debug__" : Str))=false) (d0':(a0 == ("__classdict__" : Str))=false) (d1:(a1 == ("__debug__" : Str))=false) (d1':(a1 == ("__classdict__" : Str))=false)
  (hs:∀env,swapsWith (.Name a1 p3) (some (.Attribute (.Name a0 p1) a1 p2)) p4.line env=pure false)
  (O:OwnN K C fI a1) (hr:A.depth < recursionLimit) (hh:A.handled=none) (e0:Env0 P w K mg base A outer s H) (he:s.heap.get? e=some oe) (hHe:H e=none) (hef:e∉frs outer) (hc:oe.cls=.ref C) (hnc:notCls oe=true) (hdn:oe.dict=none) (rv:RelV v u)
  (hq:∀s' D u',s'.os=s.os->AllBare s'.gens->s.heap.get? D=none->s'.heap.get? e=some { oe with dict:=some D }->s'.heap.Ns1 D (fun y=>if y=a1 then some u' else none)->RelV v u'->HOk P w H s'.heap ->
   (∀b o,b≠e->s.heap.get? b=some o->H b=none->b∉frs outer->s'.heap.get? b=some o)->(∀b o,b≠e->s.heap.get? b=some o->H b=none->b∈frs outer->∃sl,s'.heap.get? b=some { o with slots:=sl }) ->
   (∀b o,s.heap.get? b=some o->∃o',s'.heap.get? b=some o')->R .none s') :
  wpAny (model P w) A (call (.ref fI) [.ref e,u]) R E s:=by
 have KX:K.In s.heap:=e0.mod.kin.keeps fun b o e=>(e0.bs b o e).1
 have lim:s.heap.NoLimit:=e0.mod.nolimit.keeps fun b o e=>(e0.bs b o e).1
 have hkind:∀y∈[a0,a1].zip [Value.ref e,u],scope.names.lookup y.1=some .local\/(scope.names.lookup y.1=some .cell/\((cellsFrom (s.heap.objs.size+1) scope.names []).lookup y.1).isSome=true):=fun ⟨n,v⟩ hy=>by
  rcases S.par n (List.of_mem_zip hy).1 with q | q
  .exact .inl q
  .exact .inr ⟨q,PySem.W.cellsFrom_some _ _ _ (.inl q)⟩
 have hbb:BindsTo s (PySem.W.fnOf "__init__" qual params [.Assign [.Attribute (.Name a0 p1) a1 p2] (.Name a1 p3) p4] scope dV kV doc pm an cdv ct) ⟨[.ref e,u],[]⟩ ([a0,a1].zip [Value.ref e,u]):=by
  have z:=hb s [.ref e,u] KX rfl
  rw[List.append_nil] at z
  exact z
 refine wpAny_call (codeAny_call_function hr (KX _ _ lk) rfl S.co S.gen rfl (PySem.W.codeRec_of KX hcd) (hbb _ _ _ _ ?_))
 refine wpAny_newFunctionEnv_cells S.kind hkind fun env hen s1 x=>?_
 subst hen
 refine ⟨lim.keeps x.toInCall.keep,codeAny_func ?_⟩
 have I:Inv (wQ CX0 P w K mg base [a0,a1] qual scope fI cdv A outer s H (fun _ _ _=>False)) [] (start [a0,a1] [.ref e,v]) H s1:=jw S hh e0 rfl (.cons rfl (.cons rv .nil)) x
 have pv:∀E',PE ((wQ CX0 P w K mg base [a0,a1] qual scope fI cdv A outer s H (fun _ _ _=>False)).wish E') (.Name a1 p3) (zaV 1):=fun E'=>wG rfl (.inl l1) d1 d1'
 have ps:∀E',PE ((wQ CX0 P w K mg base [a0,a1] qual scope fI cdv A outer s H (fun _ _ _=>False)).wish E') (.Name a0 p1) (zaV 0):=fun E'=>wG rfl (.inl l0) d0 d0'
 refine wpAny_execs_cons (plainObj_wpAny_Assign_Attribute (thn (pv _ [] s1 _ H (fun y H1=>y=v/\H1=H) (I.wish _) ⟨v,rfl,rfl,rfl⟩) fun u1 s2 h2=>?_) (hs _))
 obtain ⟨y,H1,I1,ry,rfl,rfl⟩:=h2
 refine thn (ps _ [] s2 _ H1 (fun y H2=>y=.ref e/\H2=H1) I1 ⟨.ref e,rfl,rfl,rfl⟩) fun ov s3 h3=>?_
 obtain ⟨y',H2,I2,ry',rfl,rfl⟩:=h3
 obtain rfl:ov=.ref e:=ry'
 obtain ⟨cd,hcd,hdd,hpass⟩:=O.cd
 have noA:∀b:Addr,b∉([]:List Addr):=fun b z=>absurd z (by simp)
 have he3:s3.heap.get? e=some oe:=I2.base.keep e oe he hHe hef (noA _)
 refine zbi I2.kIn he3 hc hnc hdn hcd hdd hpass O.sa O.ob O.no fun h' tk' D hD hx hns hk=>wpAny_execs_nil ?_
 have hsz:∀ {b:Addr},s3.heap.get? b=none->s.heap.get? b=none:=fun {b} z=>by
  cases q:s.heap.get? b with
  | none=>rfl
  | some o =>
   obtain ⟨o',z'⟩:=I2.base.there b o q (noA _)
   rw[z] at z';cases z'
 refine hq _ D u1 I2.os I2.bare (hsz hD) hx hns ry (fun a o z=>(I2.hok a o z).stay (fun b u' hb q=>hk b u' (fun eb=>?_) q) (fun _ q=>q) fun _ _ q=>q)
  (fun b o ne q n hb=>hk b o ne (I2.base.keep b o q n hb (noA _))) (fun b o ne q n hb=>?_) (fun b o q=>?_)
 .subst eb
  rcases hb with rfl | hb
  .rw[hHe] at z;cases z
  .rw[hHe] at hb;cases hb
 .obtain ⟨sl,q'⟩:=I2.base.slot b o q n hb (noA _)
  exact ⟨sl,hk b _ ne q'⟩
 .by_cases eb:b=e
  .subst eb;exact ⟨_,hx⟩
  .obtain ⟨o',q'⟩:=I2.base.there b o q (noA _)
   exact ⟨o',hk b o' eb q'⟩
end
end L2
namespace L2
open PySem PySem.Spec PySem.Calls PyProof.Rows PySem.W
structure Fly (B:Heap)(l:List Env)(e:Addr)(o:Obj)(z fl:Value)(g:Heap):Prop where
 st:B.StaysIn g
 no:B.get? e=none
 fr:g.FunFrames B l
 ob:∃xs T p ys,g.get? e=some { o with data:=.fields xs }/\xs[0]?=some z/\xs[1]?=some (.ref T)/\B.get? T=none/\T≠e/\g.get? T=some p/\p.data=.fields ys/\ys[3]?=some fl
section
variable {M:Model}{A:Around}{E:Value->Shared->Prop}{s:Shared}{B:Heap}{env:Env}{outer:List Env}{L e:Addr}{o:Obj}{z fl:Value}
theorem Fly.w {g:Heap}{l:List Env}(x:Fly B l e o z .none g):Heap.FlyingW B l e o.cls z g:=by
 obtain ⟨xs,T,p,ys,q1,q2,q3,q4,q5,q6,q7,q8⟩:=x.ob
 exact ⟨x.st,x.no,x.fr,⟨_,xs,T,p,ys,q1,⟨rfl,q2⟩,rfl,q3,q4,q5,q6,q7,q8⟩⟩
theorem zar {xs:Array Value}{hd:Value}{had:Bool}{Q:Unit->Shared->Prop}(fs:A.frames=some (env::outer))(le:env.frame=some L)(fr:s.heap.FunFrames B (env::outer))(st:B.StaysIn s.heap)(no:B.get? e=none)
  (oe:s.heap.get? e=some { o with data:=.fields xs }) (sz:1 < xs.size) (x0:xs[0]?=some z) (k:∀g,Fly B (env::outer) e o z (rawInt L) g->s.heap.UpToSlots g->Q () { s with heap:=g }) :
  wpAny M A (do let a <- frameOf env;let pl <- entryPlaceOf L had;let b <- EntryCells.newEntry hd a .none (rawInt L) .none pl;setField (.ref e) 1 b) Q E s:=by
 have ne:e∉(env::outer).filterMap (·.frame):=fun hm=>by
  obtain ⟨_,u,hu,nu⟩:=fr.mem hm
  cases oe.symm.trans hu
  exact nu xs rfl
 refine wpAny_bind (wpAny_frameOf_fun fs fr le fun g1 sl=>wpAny_bind (wpAny_entryPlaceOf fun pl ip=>?_))
 unfold EntryCells.newEntry newFields
 refine wpAny_bind (wpAny_newObj_type ?_ (ip.sizeOk5 _ _ _ _ _))
 generalize hT:({ cls:=.type "traceback",dict:=none,data:=.fields ([hd,.ref L,.none,rawInt L,.none]++(if pl.isEmpty then List.replicate 6 Value.none else pl)).toArray }:Obj)=tb
 have e1:g1.get? e=some { o with data:=.fields xs }:=(sl.2.1 e ne).trans oe
 have e2:=Heap.get?_push_of_some tb e1
 have Te:g1.objs.size≠e:=Nat.ne_of_gt (Heap.lt_size e1)
 have b1:B.StaysIn g1:=fun b u hb=>by
  rw[sl.2.1 b (fun hm=>by rw[(fr.mem hm).1] at hb;cases hb)]
  exact st b u hb
 refine wpAny_setField e2 rfl sz (k _ ?_ ?_)
 .have e3:((g1.push tb).update e (Obj.mapFields (·.setIfInBounds 1 (Value.ref g1.objs.size)))).get? e=some { o with data:=.fields (xs.setIfInBounds 1 (.ref g1.objs.size)) }:=Heap.get?_update_self _ e2 rfl
  have t3:((g1.push tb).update e (Obj.mapFields (·.setIfInBounds 1 (Value.ref g1.objs.size)))).get? g1.objs.size=some tb:=(Heap.get?_update_other _ _ (Ne.symm Te)).trans (Heap.get?_push_size g1 (by subst hT;rfl))
  have kp:∀b u,b≠e->g1.get? b=some u->((g1.push tb).update e (Obj.mapFields (·.setIfInBounds 1 (Value.ref g1.objs.size)))).get? b=some u:=fun b u nb hb=>(Heap.get?_update_other _ _ (Ne.symm nb)).trans (Heap.get?_push_of_some _ hb)
  refine ⟨fun b u hb=>kp b u (fun q=>by rw[q,no] at hb;cases hb) (b1 b u hb),no,fr.of_keeps fun b u hb nf=>?_,⟨_,g1.objs.size,tb,_,e3,?_,?_,b1.fresh,Te,t3,by subst hT;rfl,?_⟩⟩
  .obtain ⟨q,hq⟩:=sl.2.2 b u hb
   exact ⟨_,kp b _ (fun h=>by subst h;cases oe.symm.trans hb;exact nf xs rfl) hq,rfl⟩
  .rw[Array.getElem?_setIfInBounds_ne (by decide)];exact x0
  .simp[sz]
  .first
    | (simp;done)
    | (rcases ip with rfl | ⟨_,_,_,_,_,_,_,rfl⟩ <;> simp)
 .intro b u hb nf
  obtain ⟨q,hq⟩:=sl.2.2 b u hb
  exact ⟨q,(Heap.get?_update_other _ _ (fun h=>by subst h;cases oe.symm.trans hb;exact nf xs rfl)).trans (Heap.get?_push_of_some _ hq)⟩
theorem kN {l:List Env}{Q:Unit->Shared->Prop}(f:Fly B l e o z fl s.heap)(k:∀g,Fly B l e o z .none g->s.heap.UpToSlots g->Q () { s with heap:=g }):wpAny M A (setFlight (.ref e) none) Q E s:=by
 obtain ⟨xs,T,p,ys,q1,q2,q3,q4,q5,q6,q7,q8⟩:=f.ob
 have s3:3 < ys.size:=(Array.getElem?_eq_some_iff.mp q8).1
 unfold setFlight
 refine wpAny_bind (wpAny_field q1 rfl q3 ?_)
 rw[if_pos (show (Value.ref T != Value.none)=true by simp)]
 have ot:∀ {b:Addr},b≠T->(s.heap.update T (Obj.mapFields (·.setIfInBounds 3 Value.none))).get? b=s.heap.get? b:=fun {b} nb=>Heap.get?_update_other _ _ (Ne.symm nb)
 have nr:∀ {b:Addr}{u:Obj},s.heap.get? b=some u->(∀vs,u.data≠.fields vs)->b≠T:=fun {b u} hb nf h=>by subst h;cases q6.symm.trans hb;exact nf ys q7
 refine wpAny_setField q6 q7 s3 (k _ ⟨fun b u hb=>(ot fun h=>by rw[h,q4] at hb;cases hb).trans (f.st b u hb),f.no,f.fr.of_keeps fun b u hb nf=>⟨u,(ot (nr hb nf)).trans hb,rfl⟩,⟨xs,T,_,_,(ot (Ne.symm q5)).trans q1,q2,q3,q4,q5,Heap.get?_update_self _ q6 (Obj.isFreed_of_fields (Obj.data_mapFields q7 _)),Obj.data_mapFields q7 _,by simp[s3]⟩⟩ fun b u hb nf=>⟨u.slots,(ot (nr hb nf)).trans hb⟩)
theorem zcv {Q:Unit->Shared->Prop}(fs:A.frames=some (env::outer))(le:env.frame=some L)(f:Fly B (env::outer) e o z .none s.heap)(k:∀g,Fly B (env::outer) e o z (rawInt L) g->s.heap.UpToSlots g->Q () { s with heap:=g }):wpAny M A (noteFrame (.ref e) env) Q E s:=by
 obtain ⟨xs,T,p,ys,q1,q2,q3,q4,q5,q6,q7,q8⟩:=f.ob
 have s3:3 < ys.size:=(Array.getElem?_eq_some_iff.mp q8).1
 unfold noteFrame
 simp only[le]
 refine wpAny_bind (wpAny_field q1 rfl q3 ?_)
 rw[if_pos (show (Value.ref T != Value.none)=true by simp)]
 refine wpAny_bind (wpAny_field q6 q7 q8 ?_)
 rw[if_neg (show ¬(Value.none == rawInt L)=true by simp[rawInt])]
 have ot:∀ {b:Addr},b≠T->(s.heap.update T (Obj.mapFields (·.setIfInBounds 3 Value.none))).get? b=s.heap.get? b:=fun {b} nb=>Heap.get?_update_other _ _ (Ne.symm nb)
 have nr:∀ {b:Addr}{u:Obj},s.heap.get? b=some u->(∀vs,u.data≠.fields vs)->b≠T:=fun {b u} hb nf h=>by subst h;cases q6.symm.trans hb;exact nf ys q7
 refine wpAny_bind (wpAny_setField q6 q7 s3 ?_)
 refine zar (s:={ s with heap:=s.heap.update T (Obj.mapFields (·.setIfInBounds 3 Value.none)) }) fs le (f.fr.of_keeps fun b u hb nf=>⟨u,(ot (nr hb nf)).trans hb,rfl⟩) (fun b u hb=>(ot fun h=>by rw[h,q4] at hb;cases hb).trans (f.st b u hb)) f.no ((ot (Ne.symm q5)).trans q1) (Array.getElem?_eq_some_iff.mp q3).1 q2 fun g fg up=>k g fg fun b u hb nf=>?_
 exact up b u ((ot (nr hb nf)).trans hb) nf
theorem zbl {xs:Array Value}{Q:Unit->Shared->Prop}(fs:A.frames=some (env::outer))(le:env.frame=some L)(fr:s.heap.FunFrames B (env::outer))(st:B.StaysIn s.heap)(no:B.get? e=none)
  (oe:s.heap.get? e=some { o with data:=.fields xs }) (x1:xs[1]?=some .none) (x0:xs[0]?=some z) (k:∀g,Fly B outer e o z .none g->s.heap.UpToSlots g->Q () { s with heap:=g }):wpAny M A (leaving env (.ref e)) Q E s:=by
 unfold leaving noteFrame
 simp only[le]
 refine wpAny_bind (wpAny_bind (wpAny_field oe rfl x1 ?_))
 rw[if_neg (by decide)]
 refine zar fs le fr st no oe (Array.getElem?_eq_some_iff.mp x1).1 x0 fun g fg up=>kN fg fun g2 fg2 up2=>k g2 ⟨fg2.st,fg2.no,fg2.fr.2.2,fg2.ob⟩ (up.trans up2)
end
def CXs (P:Program)(w:World):CXT:=fun outer H s E ev s'=>∃ (C e D:Addr) (o:Obj) (z:Value) (B:Heap) (H':Hp),ev=.ref e/\s'.os=s.os/\AllBare s'.gens/\Un (frs outer) [] H H' s.heap s'.heap/\HOk P w H' s'.heap /\
 Fly B outer e o z .none s'.heap/\o.cls=.ref C/\o.dict=some D/\Held (frs outer) H' s.heap s'.heap B/\E (.ref C) (some D) H'
structure MadeN (P:Program)(w:World)(fs:List Addr)(H:Hp)(s s':Shared)(C e D:Addr)(oe:Obj)(n:Str)(v:V):Prop where
 os:s'.os=s.os
 bare:AllBare s'.gens
 ne:s.heap.get? e=none
 nD:s.heap.get? D=none
 De:D≠e
 he:s'.heap.get? e=some oe
 cl:oe.cls=.ref C
 di:oe.dict=some D
 da:∃t,oe.data=.fields #[.ref t,.none,.none,.none,.bool false,.none]
 ns:∃u,s'.heap.Ns1 D (fun y=>if y=n then some u else none)/\RelV v u
 hok:HOk P w H s'.heap
 keep:∀b o,s.heap.get? b=some o->H b=none->b∉fs->s'.heap.get? b=some o
 slot:∀b o,s.heap.get? b=some o->H b=none->b∈fs->∃sl,s'.heap.get? b=some { o with slots:=sl }
 there:∀b o,s.heap.get? b=some o->∃o',s'.heap.get? b=some o'
def jW (X:Cx)(n:Str)(E:XK):Prop:=∀ (pins:List (Addr×Obj)) (σ:St) (H:Hp) (s s':Shared) (C e D:Addr) (oe:Obj) (v:V),Inv X pins σ H s->MadeN X.prog X.w (frs X.stack) H s s' C e D oe n v->E (.ref C) (some D) (upd H D (.xd [(n,v)]))->X.xe (.ref e) s'
section
variable {P:Program}{w:World}{fs:List Addr}{H:Hp}{s s':Shared}{C e D:Addr}{oe:Obj}{n:Str}{v:V}
theorem xf (hk:HOk P w H s.heap){b:Addr}(h:s.heap.get? b=none):H b=none:=by
 cases z:H b with
 | none=>rfl
 | some u =>
  obtain ⟨o,ho⟩:=(hk b u z).ob
  rw[h] at ho;cases ho
theorem MadeN.hokD (m:MadeN P w fs H s s' C e D oe n v)(hk:HOk P w H s.heap):HOk P w (upd H D (.xd [(n,v)])) s'.heap:=fun a o z=>by
 have hD:=xf hk m.nD
 by_cases q:a=D
 .subst q
  rw[zg] at z
  cases z
  obtain ⟨u,hu,r⟩:=m.ns
  refine ⟨_,hu,fun f=>?_⟩
  rw[List.lookup_cons]
  by_cases y:f=n
  .subst y
   simp only[beq_self_eq_true,if_true]
   exact r
  .have:(f == n)=false:=by simpa using y
   simp only[this,if_neg y]
   trivial
 .rw[zd q] at z
  exact (m.hok a o z).stay (fun _ _ _ q=>q) (fun _ q=>by rw[zd (zl q hD)];exact q) fun _ _ q=>by rw[zd (zl q hD)];exact q
theorem MadeN.un (m:MadeN P w fs H s s' C e D oe n v)(hk:HOk P w H s.heap):Un fs [] H (upd H D (.xd [(n,v)])) s.heap s'.heap:=by
 have hD:=xf hk m.nD
 refine ⟨fun b o q1 q2 q3 _=>m.keep b o q1 q2 q3,fun b o q1 q2 q3 _=>m.slot b o q1 q2 q3,fun b o q1 q2 _=>?_,fun b o q _=>m.there b o q,fun b xs q=>?_,fun b o u q=>?_,fun b ps q=>⟨#[],?_⟩⟩
 .rw[zd (fun z=>by rw[z,m.nD] at q1;cases q1)];exact q2
 .rw[zd (zl q hD)];exact q
 .rw[zd (zl q hD)];exact q
 .rw[zd (zl q hD),Array.append_empty];exact q
end
theorem wT {base h h':Heap}:∀ {l:List Env},h.FunFrames base l->(∀b∈frs l,∀o,h.get? b=some o->∃sl,h'.get? b=some { o with slots:=sl })->h'.FunFrames base l
 | [],_,_=>trivial
 | env::l,⟨hk,⟨L,o,hf,hn,ho,hd⟩,hr⟩,k=>by
  obtain ⟨sl,q⟩:=k L (by rw[kL hf];exact List.mem_cons_self) o ho
  exact ⟨hk,⟨L,_,hf,hn,q,hd⟩,wT hr fun b hb=>k b (by rw[kL hf];exact List.mem_cons_of_mem _ hb)⟩
section
variable {P:Program}{w:World}{K:PySem.W.Frag}{mg:Str->Option Value}{base:Heap}{N:List Str}{qual:Str}{scope:Scope}{f:Addr}{cd:Value}{A:Around}{outer:List Env}{s:Shared}{H:Hp}{E:XK}{n:Str}
theorem zbm:jW (wQ (CXs P w) P w K mg base N qual scope f cd A outer s H E) n E:=by
 intro pins σ H1 s1 s2 C e D oe v I m hE
 have hfr:(envOfC qual scope s.heap.objs.size f cd).frame=some s.heap.objs.size:=rfl
 have hst:s1.heap.FunFrames base (envOfC qual scope s.heap.objs.size f cd::outer):=I.stack
 have hfz:∀b∈frs (envOfC qual scope s.heap.objs.size f cd::outer),H1 b=none:=I.stkFree
 have hD:=xf I.hok m.nD
 have he:=xf I.hok m.ne
 have hfz':∀b∈frs (envOfC qual scope s.heap.objs.size f cd::outer),upd H1 D (.xd [(n,v)]) b=none:=fun b hb=>by
  obtain ⟨_,o,ho,_⟩:=hst.mem hb
  rw[zd (fun z=>by rw[z,m.nD] at ho;cases ho)]
  exact hfz b hb
 have hst2:s2.heap.FunFrames base (envOfC qual scope s.heap.objs.size f cd::outer):=wT hst fun b hb o ho=>m.slot b o ho (hfz b hb) hb
 obtain ⟨t,hda⟩:=m.da
 have hok2:=m.hokD I.hok
 have hB:Held (s.heap.objs.size::frs outer) (upd H1 D (.xd [(n,v)])) s1.heap s2.heap (hideAll s2.heap (e::frs (envOfC qual scope s.heap.objs.size f cd::outer))):=fun b o q hq hn=>by
  refine hideAll_get _ q fun hm=>?_
  rcases List.mem_cons.mp hm with z | z
  .subst z
   rcases hq with y | ⟨o₀,y⟩
   .rw[zd (Ne.symm m.De)] at y;exact y he
   .rw[m.ne] at y;cases y
  .exact hn z
 have eo:({ oe with data:=.fields #[.ref t,.none,.none,.none,.bool false,.none] }:Obj)=oe:=by
  obtain ⟨a,b,c,d⟩:=oe
  dsimp only at hda
  subst hda
  rfl
 refine zbl (o:=oe) (z:=.ref t) I.ok.frames hfr (funFrames_hide hst2 fun env he b hb=>List.mem_cons_of_mem _ (List.mem_filterMap.mpr ⟨env,he,hb⟩)) (fun b o q=>of_hideAll _ q) (hideAll_none _ (List.mem_cons_self)) (by rw[eo];exact m.he) rfl rfl fun g fg up=>?_
 refine ⟨C,e,D,oe,.ref t,_,upd H1 D (.xd [(n,v)]),rfl,m.os.trans I.os,m.bare,?_,?_,fg,m.cl,m.di,?_,hE⟩
 .exact zd9 (Nat.le_refl _) I.ok.funs I.ok.frf I.base (m.un I.hok) hB fg.st up
 .exact gJ hok2 hfz' hB fg.st
 .exact zbg (Nat.le_refl _) (hfz' _ (by show _∈s.heap.objs.size::frs outer;exact List.mem_cons_self)) I.base hok2 (fun b o q=>m.there b o q) hB fg.st
end
noncomputable def vmV:List Value:=[.type "ValueError",.type "Exception",.type "BaseException",.type "object"]
noncomputable def x9 (K:Frag)(C:Addr):Bool:=match K.lookup C with
 | some ⟨.type "type",_,.cls cd,sl⟩=>(match cd.mro,sl.toList with
  | .ref C'::bm,[_,_,_,_,some (.builtin n),_]=>C' == C && n == "ValueError.__new__" && !cd.hasDel && tailIn K vmV bm
  | _,_=>false)
 | _=>false
set_option tactic.hygienic true in
theorem zfM {K:Frag}{h:Heap}{C:Addr}(X:K.In h)(q:x9 K C=true):(∃nm q N bs bm hdct sn sub ab col dd k0 k1 k2 k3 k5,K.lookup C=some (excClassObj nm q C N bs bm hdct sn sub ab col dd k0 k1 k2 k3 k5 "ValueError.__new__")/\h.get? C=some (excClassObj nm q C N bs bm hdct sn sub ab col dd k0 k1 k2 k3 k5 "ValueError.__new__")/\OwnTail h vmV bm/\tailIn K vmV bm=true)/\∀v,mroIn K C v=some true->wS h C v:=by
 unfold x9 at q
 split at q
 .rename_i dd cd sl ho
  split at q
  .rename_i C' bm k0 k1 k2 k3 n k5 hm hs
   simp only[Bool.and_eq_true,beq_iff_eq,Bool.not_eq_true'] at q
   obtain ⟨⟨⟨rfl,rfl⟩,q1⟩,q2⟩:=q
   have eo:=X _ _ ho
   have em:∀v,mroIn K C' v=some (cd.mro.contains v):=fun v=>by
    unfold mroIn clsIn
    rw[ho]
    simp only[Option.bind_some]
    rw[hm]
    rfl
   obtain ⟨a1,a2,a3,a4,a5,a6,a7,a8,a9,b1,b2⟩:=cd
   dsimp only at hm q1 em
   subst hm q1
   have es:sl=#[k0,k1,k2,k3,some (.builtin "ValueError.__new__"),k5]:=by
    obtain ⟨l⟩:=sl
    simp only at hs
    rw[hs]
   subst es
   refine ⟨⟨a1,a5,a4,a2,bm,a6,a7,a8,a9,b1,dd,k0,k1,k2,k3,k5,ho,eo,tail_of_in X q2,q2⟩,fun v z=>?_⟩
   rw[em] at z
   exact ⟨a1,a5,a4,a2,bm,a6,a7,a8,a9,b1,dd,k0,k1,k2,k3,k5,_,eo,Option.some.inj z⟩
  .cases q
 .cases q
structure InitOk (K:Frag)(C fI:Addr)(n a0:Str)(st:Stmt):Prop where
 cls:x9 K C=true
 own:OwnN K C fI n
 fn:∃fd qual,Fun K "__init__" qual st fI fd/\Binds K fd [a0,n] []
 sc:FnScope [a0,n] [a0,n] (zo st)
 body:∃p1 p2 p3 p4,zW st=[.Assign [.Attribute (.Name a0 p1) n p2] (.Name n p3) p4]/\∀env,swapsWith (.Name n p3) (some (.Attribute (.Name a0 p1) n p2)) p4.line env=pure false
 l0:(zo st).names.lookup a0=some .local
 l1:(zo st).names.lookup n=some .local
 d0:(a0 == ("__debug__" : Str))=false/\(a0 == ("__classdict__" : Str))=false
 d1:(n == ("__debug__" : Str))=false/\(n == ("__classdict__" : Str))=false
theorem jC {X:Cx}{x n a0:Str}{C fI:Addr}{st:Stmt}{k:Nat}{E:XK}{t:TA}{np cpos pos:Pos}{e₀:Expr}(hb:X.mg x=some (.ref C))(O:InitOk X.K C fI n a0 st)(hr:Room k X.A)(hc:X.calm=true)(hg:Gl X x)(hx:jW X n E)(ha:PA X [e₀] t)
  (hdb:(x == ("__debug__" : Str))=false:=by decide) (he:starEach [e₀] X.env=(false,eval e₀ X.env)::starEach [] X.env:=by rfl) :
  PS X (.Raise (some (.Call (.Name x np) [e₀] [] cpos)) none pos) (fun _ σ H=>t σ H fun vs H1=>∃v,vs=[v]/\∀D',H1 D'=none->E (.ref C) (some D') (upd H1 D' (.xd [(n,v)]))):=by
 intro pins s σ H D I h
 obtain ⟨⟨nm,q,N,bs,bm,hdct,sn,sub,ab,col,dd,k0,k1,k2,k3,k5,lC,hC,T,tl⟩,_⟩:=zfM I.ok.mod.kin O.cls
 obtain ⟨fd,qual,Fi,hB⟩:=O.fn
 obtain ⟨p1,p2,p3,p4,eb,hs⟩:=O.body
 obtain ⟨oc,od,kV,doc,pm,an,cdv,ct,osl,rfl,lk,hcd⟩:=Fi.ex
 rw[eb] at lk hB
 refine zbk (K:=X.K) (fI:=fI) (k0:=k0) (k1:=k1) (k2:=k2) (k3:=k3) (k5:=k5) (dd:=dd) (col:=col) (ab:=ab) (sub:=sub) (sn:=sn) (hdct:=hdct) (bs:=bs) (q:=q) (nm:=nm) (C:=C) (N:=N) (bm:=bm) PySem.F.excBase_ValueError (T.hasType PySem.F.excBase_ValueError.hasBase) (I.ok.hd hc) (by rw[he];rfl) O.own.ini O.own.fn (v8 I hg hb ⟨rfl,?_⟩ hdb)
 have h1:=ha cpos pins s σ H _ I h
 rw[he] at h1 ⊢
 refine Calls.evalArgs_plain (wpAny_mono h1 (fun us s2 h2=>?_) fun _ _ y=>y)
 obtain ⟨vs,H1,I1,r,v,rfl,hE⟩:=h2
 obtain ⟨u,rfl,ru⟩:∃u,us=[u]/\RelV v u:=by
  cases r with
  | cons p q=>cases q with
   | nil=>exact ⟨_,rfl,p⟩
 have hC2:=I1.bk _ _ hC
 refine ⟨rfl,show 1<=sizeLine by decide,hC2,I1.kIn,T.keeps I1.bk,fun h' e mk hz=>?_⟩
 obtain ⟨tt,he',htn,ht⟩:=mk.there
 have hHe:H1 e=none:=xf I1.hok mk.new
 have hef:e∉frs X.stack:=fun hm=>by
  obtain ⟨_,o,ho,_⟩:=I1.stack.mem hm
  rw[mk.new] at ho;cases ho
 have hok':HOk X.prog X.w H1 h':=fun a o z=>(I1.hok a o z).stay (fun b u _ q=>mk.keeps b u q) (fun _ q=>q) fun _ _ q=>q
 have e1:=I1.env0
 have e2:Env0 X.prog X.w X.K X.mg X.base X.A X.stack { s2 with heap:=h' } H1:=⟨e1.frames,e1.mod,fun b o q=>⟨mk.keeps b o (e1.bs b o q).1,(e1.bs b o q).2⟩,Nat.le_trans e1.bsz hz,e1.funs.of_keeps fun b o q _=>⟨o,mk.keeps b o q,rfl⟩,e1.frf,hok',e1.bare⟩
 refine zcu (A:=X.A.under (.builtin "type.__call__" ⟨.ref C::[u],[]⟩)) (outer:=X.stack) (H:=H1) (e:=e) (v:=v) lk hcd O.sc hB O.l0 O.l1 O.d0.1 O.d0.2 O.d1.1 O.d1.2 hs O.own (by rw[qt];have:=hr.dp;lia) hr.hd (e2.make _ _ _) he' hHe hef rfl rfl rfl ru fun s' D' u' a1 a2 a3 a4 a5 a6 a7 a8 a9 a10=>?_
 have keep:∀b o,s2.heap.get? b=some o->H1 b=none->b∉frs X.stack->s'.heap.get? b=some o:=fun b o q1 q2 q3=>a8 b o (fun z=>by rw[z,mk.new] at q1;cases q1) (mk.keeps b o q1) q2 q3
 have nD:s2.heap.get? D'=none:=by
  cases z:s2.heap.get? D' with
  | none=>rfl
  | some o =>
   have:h'.get? D'=none:=a3
   rw[mk.keeps _ _ z] at this;cases this
 have hCn:H1 C=none:=(e1.bs C _ hC).2
 have hCf:C∉frs X.stack:=fun hm=>by
  obtain ⟨q,_⟩:=I1.stack.mem hm
  rw[hC] at q;cases q
 refine ⟨rfl,_,tt,keep C _ hC2 hCn hCf,a4,rfl,rfl,?_⟩
 refine hx pins σ H1 s2 s' C e D' _ v I1 ⟨a1,a2,mk.new,nD,fun z=>?_,a4,rfl,rfl,⟨tt,rfl⟩,⟨u',a5,a6⟩,a7,keep,fun b o q1 q2 q3=>a9 b o (fun z=>by rw[z,mk.new] at q1;cases q1) (mk.keeps b o q1) q2 q3,fun b o q=>a10 b o (mk.keeps b o q)⟩ (hE D' (xf I1.hok nD))
 have:h'.get? D'=none:=a3
 rw[z,he'] at this;cases this
end L2
namespace L2
open PySem PySem.Spec PySem.Calls PyProof.Rows PySem.W Builtin Builtin.ObjectAttr
section
variable {prog:Program}{w:World}{A:Around}{E:Value->Shared->Prop}{K:PySem.W.Frag}{x C:Addr}{ox oD:Obj}{h:Heap}{g:Array GenState}{d:Drawn}{t:Nat}{os:OsState}{name:Str}{v:Value}
theorem zed {tk:Tok}{Q:Fin->Shared->Prop}(X:K.In h)(I:InstAt h x ox C (some oD))(hf:findObj K C (some oD) name=some (.value v))(hq:Q (.done (.ret v)) ⟨h,g,d,t,os⟩):
  wpAny (model prog w) A (Builtin.«object.__getattribute__» ⟨[.ref x,.str name tk],[]⟩) Q E ⟨h,g,d,t,os⟩:=by
 have L0:=I.type (M:=model prog w)
 have L1:=looks_find (M:=model prog w) X I hf
 unfold Builtin.«object.__getattribute__»
 repeat (any_goals (first | assumption | with_reducible refine Looks.at (by assumption) ?_ | wp_step))
theorem zcw {s:Shared}{b:Bool}{Q:Value->Shared->Prop}(X:K.In s.heap)(I:InstAt s.heap x ox C (some oD))(Z:ExcK K C)(hf:findObj K C (some oD) name=some (.value v))(hh:handedIn v=true)
  (hq:Q v { s with toks:=s.toks+1 }):wpAny (model prog w) A (getAttr (.ref x) name b) Q E s:=by
 obtain ⟨h,g,d,t,os⟩:=s
 have hx:=I.at_
 have hc:=I.cls
 have L0:=I.type (M:=model prog w)
 have L1:=looks_findIn (M:=model prog w) X Z.ga
 have L2:=looks_findIn (M:=model prog w) X Z.gt
 have f3:=F.attr_ValueError.ga.bind (.ref x)
 have y2:(Value.builtin "BaseException.__getattribute__" == Value.builtin "object.__getattribute__")=false:=by decide +kernel
 have y1:(onTheHeap (Value.ref C) && Value.builtin "BaseException.__getattribute__" == Value.builtin "object.__getattribute__")=false:=by rw[y2];rfl
 have y3:(b && onTheHeap (Value.builtin "BaseException.__getattribute__"))=false:=by rw[show onTheHeap (Value.builtin "BaseException.__getattribute__")=false from rfl,Bool.and_false]
 have hO:=handedOut_of hh
 unfold getAttr getAttrBy
 refine wpAny_bind (wpAny_mkText (wpAny_holding (wpAny_bind (L0.at (wpAny_bind (L1.at ?_))))))
 dsimp only
 rw[if_neg (by rw[y1];decide)]
 have hcg:∀nv:Value,callGetattribute (.ref x) nv (.builtin "BaseException.__getattribute__") b=boundAndCalled (.builtin "BaseException.__getattribute__") (.ref x) nv:=fun nv=>by
  unfold callGetattribute
  rw[if_neg (by rw[y3];decide)]
 unfold getAttrByItsOwn hookBefore
 rw[hcg]
 repeat (any_goals (first | assumption | with_reducible refine Looks.at (by assumption) ?_ | wp_step))
 refine codeAny_call_builtin F.attr_ValueError.ga.plain F.entry_bexc_ga (jB X hx hc Z.be (zed X I hf ?_))
 repeat (any_goals (first | assumption | wp_step))
end
end L2
namespace L2
open PySem PySem.Spec PySem.Calls PyProof.Rows PySem.W
theorem zee {X:Cx}{i:Nat}{n f:Str}{C D e fI:Addr}{oe:Obj}{p pos:Pos}(hN:X.N[i]?=some n)(hn:X.env.scope.names.lookup n=some .local)(hd1:(n == ("__debug__" : Str))=false)(hd2:(n == ("__classdict__" : Str))=false)(Z:ExcK X.K C)(O:OwnN X.K C fI f)
  (hc:oe.cls=.ref C) (hnc:notCls oe=true) (hdi:oe.dict=some D) (hb:attributeBase (.Name n p) f X.env (eval (.Name n p) X.env)=eval (.Name n p) X.env:=by rfl) :
  PE X (.Attribute (.Name n p) f pos) (fun σ H Q=>σ[i]?=some (some (V.ref e))/\H e=some (exO oe)/\∃fs v,H D=some (.xd fs)/\fs.lookup f=some v/\Q v H):=by
 intro pins s σ H Q I h
 obtain ⟨hσ,hH,fs,v,hD,hl,q⟩:=h
 have pv:PE X (.Name n p) (zaV i):=wG hN (.inl hn) hd1 hd2
 refine zdX hb (thn (pv pins s σ H (fun x H1=>x=.ref e/\H1=H) I ⟨.ref e,hσ,rfl,rfl⟩) fun u s1 ⟨x,H1,I1,rx,ex,eH⟩=>?_)
 subst ex eH
 obtain rfl:u=Value.ref e:=rx
 have hx:s1.heap.get? e=some oe:=(I1.hok e _ hH).1
 obtain ⟨mA,hns,r⟩:=I1.hok D _ hD
 obtain ⟨u,hu,ru⟩:=RelO.some_of (v:=v) (o:=mA f) (by rw[<- hl];exact r f)
 obtain ⟨od,ho,hlk⟩:=jq hns
 obtain ⟨cd,k1,k2,_⟩:=O.cd
 have hh:hasDictIn X.K C=true:=by unfold hasDictIn;rw[k1];exact k2
 refine zcw I1.kIn ⟨hx,hc,hnc,by rw[hdi];exact ho⟩ Z (findObj_own hh O.no rfl (by rw[hlk,hu])) (za3 ru) ⟨v,H1,I1.tok _,ru,q⟩
noncomputable def qF (x n ny f:Str)(es:List Expr)(ta tb:Str)(p1 p2 p3 p4 p5 p6 p7 p8 p9 pa pb pc pd pe pf pg ph pi pj pk pl pm:Pos)(k1 k2 k3 k4 k5 k6:Nat):List Stmt :=
 [.Assign [.Name x p1] (.Tuple [.Constant (.str ta) k1 p2,.Constant .none k2 p3] k3 p4) p5,
  .If (.BoolOp .And [.Call (.Name "isinstance" p6) [.Name n p7,.Name ny p8] [] p9,.UnaryOp .Not (.Call (.Name "isinstance" pa) [.Name n pb,.Tuple es k4 pc] [] pd) pe] pf)
    [.Assign [.Name x pg] (.Tuple [.Constant (.str tb) k5 ph,.Attribute (.Name n pi) f pj] k6 pk) pl] [] pm]
theorem zbn {X:Cx}{x n ny f:Str}{es:List Expr}{ta tb:Str}{ts:List Addr}{i j:Nat}{C Y D' e fI:Addr}{oe:Obj}{σ:St}{H:Hp}{D:Ends}{fs:List (Str×V)}{v:V}{p1 p2 p3 p4 p5 p6 p7 p8 p9 pa pb pc pd pe pf pg ph pi pj pk pl pm:Pos}{k1 k2 k3 k4 k5 k6:Nat}
  (hk:ExcK X.K C) (O:OwnN X.K C fI f) (h1:kitOne X.K (.ref C) (.ref Y)=some true) (hany:kitAny X.K (.ref C) (ts.map Value.ref)=some false) (hc:oe.cls=.ref C) (hnc:notCls oe=true) (hdi:oe.dict=some D') (hts:IsNms X.env X.mg es ts) (hz:ts.length<=1000)
  (hY:Gl X ny) (hmY:X.mg ny=some (.ref Y)) (hdY:(ny == ("__debug__" : Str))=false) (hI:Gl X "isinstance") (hmI:X.mg "isinstance" = none)
  (hNd:X.N.Nodup) (hj:X.N[j]?=some x) (hx:X.env.scope.names.lookup x=some .local) (hij:i≠j) (hN:X.N[i]?=some n) (hn:X.env.scope.names.lookup n=some .local) (hd1:(n == ("__debug__" : Str))=false) (hd2:(n == ("__classdict__" : Str))=false)
  (hv:σ[i]?=some (some (V.ref e))) (hH:H e=some (exO oe)) (hD:H D'=some (.xd fs)) (hl:fs.lookup f=some v) (hla:attributeBase (.Name n pi) f X.env (eval (.Name n pi) X.env)=eval (.Name n pi) X.env)
  (q:∀q1 q2 q3 ts',H q1=none->upd H q1 (.tup [.str ta,.non]) q2=none->upd (upd H q1 (.tup [.str ta,.non])) q2 (.tup ts') q3=none->D.nx ((σ.set j (some (.ref q1))).set j (some (.ref q3))) (upd (upd (upd H q1 (.tup [.str ta,.non])) q2 (.tup ts')) q3 (.tup [.str tb,v]))) :
  ∃tt,PSs X (qF x n ny f es ta tb p1 p2 p3 p4 p5 p6 p7 p8 p9 pa pb pc pd pe pf pg ph pi pj pk pl pm k1 k2 k3 k4 k5 k6) tt/\tt D σ H:=by
 have cR:=zcr (X:=X) (x:=e) hk hc
 have bI:bootBuiltins "isinstance" = some (.builtin "isinstance"):=by rfl
 have hnm:∀ {p:Pos},PE X (.Name n p) (zaV i):=fun {p}=>wG hN (.inl hn) hd1 hd2
 have c1:PE X (.Call (.Name "isinstance" p6) [.Name n p7,.Name ny p8] [] p9) _:=yM cR hI hmI bI (zy hnm (zy (jN (v:=.ref Y) hY hmY rfl hdY) yA))
 have c2:PE X (.Call (.Name "isinstance" pa) [.Name n pb,.Tuple es k4 pc] [] pd) _:=yM cR hI hmI bI (zy hnm (zy (kF (zfL hts)) yA))
 have t1:PE X (.Tuple [.Constant (.str ta) k1 p2,.Constant .none k2 p3] k3 p4) _:=kF (zy ql (zy qk yA))
 have t3:PE X (.Tuple [.Constant (.str tb) k5 ph,.Attribute (.Name n pi) f pj] k6 pk) _:=kF (zy ql (zy (zee (e:=e) (D:=D') hN hn hd1 hd2 hk O hc hnc hdi hla) yA))
 have s1:=jO (X:=X) (pos':=p1) (pos:=p5) hNd hj (.inl hx) t1 (hf:=.inr hx)
 have s3:=jO (X:=X) (pos':=pg) (pos:=pl) hNd hj (.inl hx) t3 (hf:=.inr hx)
 have s2:=zai (pos:=pm) (zbW (pos:=pf) (qm c1) (zah (zbX (pos:=pe) (qm c2)))).pt (xP s3) v9
 refine ⟨_,xH s1 (xP s2),?_⟩
 have sz:(ts.map V.ref).length<=sizeLine:=by
  rw[List.length_map]
  exact Nat.le_of_lt (za7 hz)
 refine ⟨show 2<=sizeLine by decide,fun q1 h1'=>?_⟩
 have hH1:upd H q1 (.tup [.str ta,.non]) e=some (exO oe):=by rw[zd (zl hH h1')];exact hH
 have hD1:upd H q1 (.tup [.str ta,.non]) D'=some (.xd fs):=by rw[zd (zl hD h1')];exact hD
 have hv1:(σ.set j (some (V.ref q1)))[i]?=some (some (V.ref e)):=by rw[List.getElem?_set_ne (Ne.symm hij)];exact hv
 refine ⟨.ref e,hv1,hH1,.inl ⟨.ref Y,.ref Y,true,rfl,rfl,fun _ z=>z,h1,true,rfl,?_⟩⟩
 refine ⟨.ref e,hv1,zfK ⟨sz,fun q2 h2=>⟨by rw[zd (zl hH1 h2)];exact hH1,.inr ⟨q2,ts.map V.ref,false,rfl,zg,fun us hu=>by rw[zaq hu];exact hany,false,rfl,?_⟩⟩⟩⟩
 have hH2:upd (upd H q1 (.tup [.str ta,.non])) q2 (.tup (ts.map V.ref)) e=some (exO oe):=by rw[zd (zl hH1 h2)];exact hH1
 have hD2:upd (upd H q1 (.tup [.str ta,.non])) q2 (.tup (ts.map V.ref)) D'=some (.xd fs):=by rw[zd (zl hD1 h2)];exact hD1
 exact ⟨hv1,hH2,fs,v,hD2,hl,show 2<=sizeLine by decide,fun q3 h3=>q q1 q2 q3 _ h1' h2 h3⟩
theorem gL {X:Cx}{pins:List (Addr×Obj)}{σ:St}{H1 H2:Hp}{s1 s2:Shared}{C G e D':Addr}{o:Obj}{zz:Value}{B:Heap}{gn n:Str}{i:Nat}{np pos:Pos}{b₀:Stmt}{suite:List Stmt}{D:Ends}(hst:X.stack=X.env::X.outer)(hfr:X.env.frame=some X.env.locals)(I:Inv X pins σ H1 s1)
  (os:s2.os=s1.os) (bare:AllBare s2.gens) (un:Un (frs X.stack) [] H1 H2 s1.heap s2.heap) (hok:HOk X.prog X.w H2 s2.heap) (fl:Fly B X.stack e o zz .none s2.heap) (hoc:o.cls=.ref C) (hod:o.dict=some D') (hB:Held (frs X.stack) H2 s1.heap s2.heap B)
  (cC:wS X.base C (.ref G)) (cG:wS X.base G (.type "BaseException")) (hg:Gl X gn) (hm:X.mg gn=some (.ref G)) (hdb:(gn == ("__debug__" : Str))=false)
  (hN:X.N.Nodup) (hi:X.N[i]?=some n) (hn:X.env.scope.names.lookup n=some .local) (hex:X.ex=[])
  (hsuite:∀ (oe:Obj) (E':Value->Shared->Prop),oe.cls=.ref C->notCls oe=true->oe.dict=some D'->H2 e=none->∃tt,PSs (X.heldT e E') (b₀::suite) tt/\tt { nx:=fun σ' H'=>D.nx (σ'.set i none) H',rt:=D.rt } (σ.set i (some (.ref e))) (upd H2 e (exO oe))) :
  wpAny (model X.prog X.w) X.A (noteFrame (.ref e) X.env) (fun _ s₂=>wpAny (model X.prog X.w) X.A (setFlight (.ref e) none)
   (fun _ s₃=>wpAny (model X.prog X.w) X.A (handleBy (.ref e) X.env [.ExceptHandler (some (.Name gn np)) (some n) (b₀::suite) pos]) (SP X pins D) X.xe s₃) X.xe s₂) X.xe s2:=by
 have frames:X.A.frames=some (X.env::X.outer):=by rw[<- hst];exact I.ok.frames
 have fz:=zbf I.stack I.stkFree un
 have inv:∀ {h5:Heap},B.StaysIn h5->s2.heap.UpToSlots h5->Inv X pins σ H2 { s2 with heap:=h5 }:=fun {h5} st up =>
  I.call' (s':={ s2 with heap:=h5 }) (ch:=[]) os (zec I.stack I.stkFree un hB st up) (gJ hok fz hB st) bare (fun b z=>absurd z (by simp))
 rw[hst] at fl
 refine zcv frames hfr fl fun h4 hd4 up4=>?_
 refine kN hd4 fun h5 fl5 up5=>?_
 have I5:=inv fl5.st (up4.trans up5)
 obtain ⟨xs5,_,_,_,he5,_⟩:=fl5.ob
 obtain ⟨nm,q,N,bs,bm,hdct,sn,sub,ab,col,dd,k0,k1,k2,k3,k5,ni,hC,hCG⟩:=cC
 obtain ⟨nm',q',N',bs',bm',hdct',sn',sub',ab',col',dd',j0,j1,j2,j3,j5,ni',hG,hGB⟩:=cG
 refine wpAny_handleBy_cons (codeAny_handlers_test ?_) (by intro z;cases z)
 refine Calls.Name_function_global I.ok.kind hg (Calls.loadGlobal_global (by rw[I.ok.glob];exact I5.mod.glob.keeps I5.bk) hm ?_) hdb
 refine zcp (I5.bk _ _ hC) (I5.bk _ _ hG) he5 hoc hGB hCG (codeAny_handlers_suite_as ?_)
 refine kN fl5 fun h6 fl6 up6=>?_
 have I6:=inv fl6.st ((up4.trans up5).trans up6)
 obtain ⟨ws,_,_,_,he6,_⟩:=fl6.ob
 have hBe:B.get? e=none:=fl6.no
 have hHe:H2 e=none:=by
  cases z:H2 e with
  | none=>rfl
  | some u =>
   obtain ⟨o,ho⟩:=(hok e u z).ob
   have:=hB e o ho (.inl (by rw[z];simp)) (fun hm=>by rw[fz e hm] at z;cases z)
   rw[hBe] at this;cases this
 have hen:∀b∈frs X.stack,b≠e:=fun b hb z=>by
  subst z
  obtain ⟨_,o,ho,hnf⟩:=I6.stack.mem hb
  rw[he6] at ho
  cases ho
  exact hnf ws rfl
 have hL:e≠X.env.locals:=fun z=>hen X.env.locals (by rw[hst,kL hfr];exact List.mem_cons_self) z.symm
 have hS1:s1.heap.get? e=none:=by
  cases z:s1.heap.get? e with
  | none=>rfl
  | some o1 =>
   obtain ⟨o2,h2⟩:=un.there e o1 z (by simp)
   have:=hB e o2 h2 (.inr ⟨o1,z⟩) (fun hm=>hen e hm rfl)
   rw[hBe] at this;cases this
 have hS0:X.s₀.heap.get? e=none:=by
  cases z:X.s₀.heap.get? e with
  | none=>rfl
  | some o1 =>
   obtain ⟨o2,h2⟩:=I.base.there e o1 z (by rw[hex];simp)
   rw[hS1] at h2;cases h2
 have hCe:∀x c,X.env.cells.lookup x=some c->c≠e:=fun x c z q=>by
  subst q
  obtain ⟨v,hv⟩:=I.cell x c z
  obtain ⟨o,ho,_⟩:=hv
  rw[hS1] at ho;cases ho
 have hPe:∀p∈X.pn++pins,p.1≠e:=fun p hp q=>by
  have:=(I.pin p hp).1
  rw[q,hS1] at this;cases this
 refine kC (I6.track he6 hHe hS0 hL hCe hPe) hN hi (.inl hn) (v:=.ref e) rfl (fun s7 I7=>?_) (.inr hn)
 obtain ⟨tt,hp,ht⟩:=hsuite { o with data:=.fields ws } _ hoc rfl hod hHe
 refine wpAny_mono (hp pins s7 _ _ _ I7.heldT ht) (fun f s8 h8=>?_) (fun x s8 hx=>hx)
 cases f with
 | brk=>obtain ⟨_,_,_,z⟩:=h8;exact z.elim
 | cont=>obtain ⟨_,_,_,z⟩:=h8;exact z.elim
 | ret u =>
  obtain ⟨v,σ',H',I8,rv,qq⟩:=h8
  have I8':=ziE I.ok I8
  obtain ⟨m,hm8,_⟩:=I8'.loc
  refine wpAny_nameGoes hn hm8 (by rw[I.ok.kind];rfl) fun h' m' hn' hs'=>?_
  exact ⟨v,_,H',I8'.lost hn' hs',rv,qq⟩
 | next =>
  obtain ⟨σ',H',I8,qq⟩:=h8
  have I8':=ziE I.ok I8
  obtain ⟨m,hm8,hl8⟩:=I8'.loc
  refine wpAny_nameGoes_keeps hn hm8 (by rw[I.ok.kind];rfl) fun h' v' hn' hs'=>?_
  exact ⟨_,H',I8'.gone hN hi hl8 hn' hs',qq⟩
theorem zbo {X:Cx}{CX:CXT}{k:Nat}{f:Addr}{fd:FuncData}{ps:List Str}{sp:Sp}{t:TA}{fnm:Str}{e0:Expr}{es:List Expr}{p q:Pos}{R:VK}{E:XK}{Eh:Value->Shared->Prop}{pins:List (Addr×Obj)}{s:Shared}{σ:St}{H:Hp}
  (F:FnOk X.prog X.w X.K X.mg X.base CX k f fd ps sp) (hr:Room k X.A) (hgf:Gl X fnm) (hmf:X.mg fnm=some (.ref f)) (hkf:PySem.W.keepIn X.K (.ref f)=true) (hb:Binds X.K fd ps []) (hdf:(fnm == ("__debug__" : Str))=false) (ha:PA (X.wish Eh) (e0::es) t)
  (he:starEach (e0::es) X.env=(false,eval e0 X.env)::starEach es X.env) (hpl:(backTo q (starEach es X.env)).any (·.1)=false) (I:Inv X pins σ H s) (h:t σ H fun vs H1=>sp vs H1 R E)
  (hx:∀ (H1:Hp) (s1:Shared) (ev:Value) (s':Shared),Inv X pins σ H1 s1->CX X.stack H1 s1 E ev s'->Eh ev s'):wpAny (model X.prog X.w) X.A (eval (.Call (.Name fnm p) (e0::es) [] q) X.env) (EP X pins σ R) Eh s:=by
 refine wpAny_Call_Name_kw (v8 I hgf hmf ?_ hdf)
 refine PySem.W.callWith_K (h₀:=X.base) I.ok.mod.kin hkf (thn (ha q pins s σ H _ (I.wish Eh) h) fun us s1 ⟨vs,H1,I1,r,hsp⟩=>⟨I1.kIn,?_⟩) he hpl
 have J:Inv X pins σ H1 s1:=I1.unwish
 have hl:us.length=ps.length:=by rw[<- r.length];exact F.len _ _ _ _ hsp
 have hbb:BindsTo s1 fd ⟨us,[]⟩ (ps.zip us):=by
  have z:=hb s1 us J.kIn (by rw[List.append_nil];exact hl)
  rw[List.append_nil] at z
  exact z
 refine wpAny_call (codeAny_mono (F.run X.A X.stack s1 H1 ⟨us,[]⟩ us vs _ _ hr J.env0 hbb r hsp) fun res s' hq=>?_)
 cases res with
 | error ev=>exact hx H1 s1 ev s' J hq
 | ok fl =>
  cases fl with
  | ret u=>exact J.after hq
  | next=>exact False.elim hq
  | brk=>exact False.elim hq
  | cont=>exact False.elim hq
theorem zef {X:Cx}{k i:Nat}{f:Addr}{fd:FuncData}{ps:List Str}{sp:Sp}{t:TA}{fnm gn n:Str}{e0:Expr}{es:List Expr}{G:Addr}{b₀:Stmt}{suite:List Stmt}{p q p' np hp pos:Pos}
  (hst:X.stack=X.env::X.outer) (hfr:X.env.frame=some X.env.locals) (hex:X.ex=[]) (F:FnOk X.prog X.w X.K X.mg X.base (CXs X.prog X.w) k f fd ps sp) (hr:Room k X.A) (hgf:Gl X fnm) (hmf:X.mg fnm=some (.ref f)) (hkf:PySem.W.keepIn X.K (.ref f)=true) (hb:Binds X.K fd ps [])
  (hdf:(fnm == ("__debug__" : Str))=false) (ha:∀E,PA (X.wish E) (e0::es) t) (hG:wS X.base G (.type "BaseException")) (hgG:Gl X gn) (hmG:X.mg gn=some (.ref G)) (hdG:(gn == ("__debug__" : Str))=false)
  (hN:X.N.Nodup) (hi:X.N[i]?=some n) (hn:X.env.scope.names.lookup n=some .local)
  (he:starEach (e0::es) X.env=(false,eval e0 X.env)::starEach es X.env:=by rfl) (hpl:(backTo q (starEach es X.env)).any (·.1)=false:=by rfl) (hs:swapsWith (.Call (.Name fnm p) (e0::es) [] q) none p'.line X.env=pure false:=by rfl) :
  PS X (.Try [.Expr (.Call (.Name fnm p) (e0::es) [] q) p'] [.ExceptHandler (some (.Name gn np)) (some n) (b₀::suite) hp] [] [] pos)
   (fun D σ H=>t σ H fun vs H1=>sp vs H1 (fun _ H2=>D.nx σ H2) fun cls dx H2=>∃C D',cls=.ref C/\dx=some D'/\wS X.base C (.ref G)/\∀ (e:Addr) (oe:Obj) (E':Value->Shared->Prop),oe.cls=.ref C->notCls oe=true->oe.dict=some D'->H2 e=none ->
    ∃tt,PSs (X.heldT e E') (b₀::suite) tt/\tt { nx:=fun σ' H'=>D.nx (σ'.set i none) H',rt:=D.rt } (σ.set i (some (.ref e))) (upd H2 e (exO oe))):=by
 intro pins s σ H D I h
 refine wpAny_Try_except (wpAny_execs_cons (wpAny_Expr_any (wpAny_mono (zbo (Eh:=fun ev s'=>_) F hr hgf hmf hkf hb hdf (ha _) he hpl I h fun H1 s1 ev s' J hq=>?_) (fun u s1 z=>?_) fun _ _ y=>y) I.quiet hs))
 .obtain ⟨C,e,D',o,zz,B,H2,rfl,os,bare,un,hok,fl,hoc,hod,hB,C',D2,eC,eD,hk,hD⟩:=hq
  cases eC
  cases eD
  exact gL (D:=D) hst hfr J os bare un hok fl hoc hod hB hk hG hgG hmG hdG hN hi hn hex fun oe E' hc hnc hdi hz=>hD e oe E' hc hnc hdi hz
 .obtain ⟨v,H2,I2,r,qn⟩:=z
  exact wpAny_execs_nil (wpAny_execs_nil ⟨σ,H2,I2,qn⟩)
end L2
namespace L2
open PySem PySem.Spec PyProof.Rows
end L2
namespace Mini
inductive Wd where
 | non | bl (b:Bool) | int (i:Int) | str (s:List Nat) | tup (xs:List Wd) | rol (xs:List Wd) | ref (l:Nat)
deriving Inhabited
set_option genInjectivity false in
inductive Ob where
 | lst (xs:List Wd) | dct (kvs:List (Wd×Wd))
deriving Inhabited
abbrev Me:=List Ob
abbrev En:=List (Option Wd)
set_option genInjectivity false in
inductive Rz where
 | ok (w:Wd) (m:Me) | exc (c:Nat) (w:Wd) (m:Me) | no
deriving Inhabited
set_option genInjectivity false in
inductive Rs where
 | next (e:En) (m:Me) | ret (w:Wd) (m:Me) | brk (e:En) (m:Me) | cont (e:En) (m:Me)
 | exc (c:Nat) (w:Wd) (e:En) (m:Me) | no
deriving Inhabited
inductive Bo where | add | sub | mul | fdiv | mod | pow
deriving DecidableEq
inductive Co where | eq | ne | lt | le | gt | ge | isN | notN | isin | notin
deriving DecidableEq
inductive Tg where | int | bool | list | tuple | str | dict
deriving DecidableEq
inductive Blf where | len | int | bool | list | tuple | sum | all | abs | min2 | max2 | minS | maxS
deriving DecidableEq
inductive Mth where | append | extend | pop | reverse | clear | insert
deriving DecidableEq
inductive Kd where | zip | enum
deriving DecidableEq
set_option genInjectivity false in
inductive Ex where
 | var (i:Nat) | lit (w:Wd)
 | bin (op:Bo) (a b:Ex) | neg (a:Ex) | not (a:Ex) | and (a b:Ex) | or (a b:Ex)
 | cmp (op:Co) (a b:Ex) | chain (p q:Co) (a b c:Ex) | ife (c a b:Ex)
 | unit | pair (a b:Ex)
 | call (k:Nat) (args:Ex) | blt (b:Blf) (args:Ex) | isi (t:Tg) (a:Ex)
 | lst (args:Ex) | tup (args:Ex) | dict0
 | idx (a b:Ex) | slL (a lo:Ex) | slH (a hi:Ex) | slB (a lo hi:Ex)
 | meth (n:Mth) (o args:Ex)
 | rng (a b c:Ex)
 | comp (elt it cond:Ex)
 | lrng (a:Ex)
 | compP (k:Kd) (elt a b cond:Ex)
deriving Inhabited
set_option genInjectivity false in
inductive Sm where
 | skip | seq (a b:Sm)
 | asg (i:Nat) (e:Ex) | asgS (o i e:Ex) | swapS (o i p j a b:Ex) | aug (i:Nat) (op:Bo) (e:Ex) | augS (o i:Ex) (op:Bo) (e:Ex)
 | ite (c:Ex) (a b:Sm) | forv (i:Nat) (it:Ex) (body:Sm) | fort (i j:Nat) (it:Ex) (body:Sm) | while (c:Ex) (body:Sm)
 | ret (e:Ex) | retN | expr (e:Ex) | brk | cont | never
 | forA (i j:Nat) (c:Int)
 | forZ (i j:Nat) (a b:Ex) (body:Sm)
 | forC (i j:Nat)
 | forS (i j k:Nat) (c:Int)
 | appPop (j a x:Nat) (e:Ex)
 | unp3 (i j k:Nat) (e:Ex)
 | popV (i j:Nat)
 | forE (i j:Nat) (a:Ex) (body:Sm)
 | swapI (j:Nat) (i k a b:Ex)
 | popI (j:Nat) (e:Ex) (a b:Sm)
deriving Inhabited
noncomputable def lim:Nat:=100000
noncomputable def big:Int:=18446744073709551616
noncomputable def small (i:Int):Bool:=decide (-big < i) && decide (i < big)
noncomputable def eqL (p:Wd->Wd->Option Bool):List Wd->List Wd->Option Bool
 | x::xs,y::ys=>match p x y with
  | some a=>(eqL p xs ys).map (a && ·)
  | none=>none
 | _,_=>some true
noncomputable def b2i (b:Bool):Int:=if b then 1 else 0
noncomputable def isLst (m:Me)(l:Nat):Bool:=match m[l]? with
 | some (.lst _)=>true
 | _=>false
noncomputable def zcx:Wd->Bool
 | .rol _=>false
 | _=>true
noncomputable def eqW (m:Me):Nat->Wd->Wd->Option Bool
 | 0,_,_=>none
 | k+1,x,y=>match x,y with
  | .tup a,.tup b=>(eqL (eqW m k) a b).map (· && decide (a.length=b.length))
  | .ref a,.ref b=>if a=b then (if isLst m a then some true else none) else match m[a]?,m[b]? with
   | some (.lst xs),some (.lst ys)=>if xs.length=ys.length then eqL (eqW m k) xs ys else some false
   | _,_=>none
  | .ref a,y=>if isLst m a && zcx y then some false else none
  | x,.ref b=>if isLst m b && zcx x then some false else none
  | .rol _,_=>none
  | _,.rol _=>none
  | .non,.non=>some true
  | .bl a,.bl b=>some (a == b)
  | .int a,.int b=>some (decide (a=b))
  | .bl a,.int b=>some (decide (b2i a=b))
  | .int a,.bl b=>some (decide (a=b2i b))
  | .str a,.str b=>some (decide (a=b))
  | _,_=>some false
noncomputable def yD:Nat:=12
noncomputable def inL (p:Wd->Wd->Option Bool)(x:Wd):List Wd->Option Bool
 | []=>some false
 | y::ys=>match p y x with
  | some a=>(inL p x ys).map (a || ·)
  | none=>none
noncomputable def ix (n:Nat)(i:Int):Option Nat :=
 if 0<=i then (if i < n then some i.toNat else none) else if -(n:Int)<=i then some (i+n).toNat else none
noncomputable def alloc (m:Me)(xs:List Wd):Rz:=if xs.length<=lim then .ok (.ref m.length) (m++[.lst xs]) else .no
noncomputable def zE (m:Me)(l:Nat):Option (List Wd):=match m[l]? with
 | some (.lst xs)=>some xs
 | _=>none
noncomputable def xu (m:Me):Wd->Option (List Wd)
 | .tup xs=>some xs
 | .rol xs=>some xs
 | .ref l=>zE m l
 | _=>none
noncomputable def bop (op:Bo)(x y:Wd)(m:Me):Rz:=match x,y with
 | .int i,.int j=>match op with
  | .add=>.ok (.int (i+j)) m
  | .sub=>.ok (.int (i - j)) m
  | .mul=>if small i || small j then .ok (.int (i * j)) m else .no
  | .fdiv=>if 0 < j/\j < 1073741824 then .ok (.int (i / j)) m else .no
  | .mod=>if 0 < j then .ok (.int (i % j)) m else .no
  | .pow=>if 0<=j/\j<=1000000/\small i=true then .ok (.int (i ^ j.toNat)) m else .no
 | .ref a,.ref b=>match op,m[a]?,m[b]? with
  | .add,some (.lst xs),some (.lst ys)=>alloc m (xs++ys)
  | _,_,_=>.no
 | .ref a,.int k=>match op,m[a]? with
  | .mul,some (.lst xs)=>if -lim<=k/\k<=lim then alloc m (List.replicate k.toNat xs).flatten else .no
  | _,_=>.no
 | .tup xs,.tup ys=>match op with
  | .add=>if xs.length+ys.length<=lim/\xs.isEmpty=false then .ok (.tup (xs++ys)) m else .no
  | _=>.no
 | _,_=>.no
noncomputable def ofB (o:Option Bool)(m:Me):Rz:=match o with
 | some b=>.ok (.bl b) m
 | none=>.no
noncomputable def kO (r:Int->Int->Bool)(x y:Wd)(m:Me):Rz:=match x,y with
 | .int i,.int j=>.ok (.bl (r i j)) m
 | _,_=>.no
noncomputable def cop (op:Co)(x y:Wd)(m:Me):Rz:=match op with
 | .eq=>ofB (eqW m yD x y) m
 | .ne=>ofB ((eqW m yD x y).map (!·)) m
 | .isN=>match y,x with
  | .non,.non=>.ok (.bl true) m
  | .non,_=>.ok (.bl false) m
  | _,_=>.no
 | .notN=>match y,x with
  | .non,.non=>.ok (.bl false) m
  | .non,_=>.ok (.bl true) m
  | _,_=>.no
 | .isin=>match xu m y with
  | some ys=>ofB (inL (eqW m yD) x ys) m
  | none=>.no
 | .notin=>match xu m y with
  | some ys=>ofB ((inL (eqW m yD) x ys).map (!·)) m
  | none=>.no
 | .lt=>kO (fun i j=>decide (i < j)) x y m
 | .le=>kO (fun i j=>decide (i<=j)) x y m
 | .gt=>kO (fun i j=>decide (j < i)) x y m
 | .ge=>kO (fun i j=>decide (j<=i)) x y m
noncomputable def isT (t:Tg)(x:Wd)(m:Me):Option Bool:=match t,x with
 | .int,.int _=>some true
 | .int,.bl _=>some true
 | .bool,.bl _=>some true
 | .str,.str _=>some true
 | .tuple,.tup _=>some true
 | .list,.rol _=>some true
 | t,.ref l=>match m[l]? with
  | some (.lst _)=>some (decide (t=.list))
  | some (.dct _)=>some (decide (t=.dict))
  | none=>none
 | _,_=>some false
noncomputable def sIx (n d:Nat):Option Int->Nat
 | none=>d
 | some v=>if v < 0 then (v+(n:Int)).toNat else min v.toNat n
noncomputable def zbp:List Wd->Option Bool
 | []=>some true
 | .bl b::r=>(zbp r).map (b && ·)
 | _=>none
noncomputable def zeg (m:Me):Wd->Option (List Wd)
 | .rol xs=>some xs
 | .ref l=>zE m l
 | _=>none
noncomputable def wD (b:Blf)(ws:List Wd)(m:Me):Rz:=match b with
 | .len=>match ws with
  | [x]=>match xu m x with
   | some xs=>.ok (.int xs.length) m
   | none=>.no
  | _=>.no
 | .int=>match ws with
  | [.int i]=>.ok (.int i) m
  | [.bl b]=>.ok (.int (b2i b)) m
  | _=>.no
 | .list=>match ws with
  | [x]=>match xu m x with
   | some xs=>alloc m xs
   | none=>.no
  | _=>.no
 | .tuple=>match ws with
  | [x]=>match xu m x with
   | some xs=>.ok (.tup xs) m
   | none=>.no
  | _=>.no
 | .sum=>.no
 | .all=>match ws with
  | [x]=>match (zeg m x).bind zbp with
   | some i=>.ok (.bl i) m
   | none=>.no
  | _=>.no
 | .abs=>.no
 | .max2=>match ws with
  | [.int i,.int j]=>.ok (.int (if j > i then j else i)) m
  | _=>.no
 | .min2=>match ws with
  | [.int i,.int j]=>.ok (.int (if j < i then j else i)) m
  | _=>.no
 | _=>.no
noncomputable def mtR (n:Mth)(o:Wd)(ws:List Wd)(m:Me):Rz:=match o with
 | .ref l=>match m[l]? with
  | some (.lst xs)=>match n,ws with
   | .append,[y]=>if xs.length < lim then .ok .non (m.set l (.lst (xs++[y]))) else .no
   | .pop,[]=>match xs[xs.length - 1]? with
    | some y=>.ok y (m.set l (.lst xs.dropLast))
    | none=>.no
   | .reverse,[]=>.ok .non (m.set l (.lst xs.reverse))
   | _,_=>.no
  | _=>.no
 | _=>.no
noncomputable def wU (o i v:Wd)(m:Me):Rz:=match o,i with
 | .ref l,.int k=>match m[l]? with
  | some (.lst xs)=>match ix xs.length k with
   | some j=>.ok .non (m.set l (.lst (xs.set j v)))
   | none=>.no
  | _=>.no
 | _,_=>.no
noncomputable def vB (x y:Wd)(m:Me):Rz:=match y with
 | .int i=>match xu m x with
  | some xs=>match (ix xs.length i).bind fun j=>xs[j]? with
   | some v=>.ok v m
   | none=>.no
  | none=>.no
 | _=>.no
noncomputable def slR (x:Wd)(lo hi:Option Int)(m:Me):Rz:=match zeg m x with
 | some xs=>alloc m ((xs.drop (sIx xs.length 0 lo)).take (sIx xs.length xs.length hi - sIx xs.length 0 lo))
 | none=>.no
noncomputable def gM (lo st:Int):Nat->List Wd
 | 0=>[]
 | n+1=>.int lo::gM (lo+st) st n
noncomputable def x6 (a b c:Int):Nat:=if c=1 then (b - a).toNat else if c=-1 then (a - b).toNat else 0
noncomputable def qG (a b c:Wd)(m:Me):Rz:=match a,b,c with
 | .int a,.int b,.int c=>if -lim<=a/\a<=lim/\-lim<=b/\b<=lim/\(c=1\/c=-1) then .ok (.tup (gM a c (x6 a b c))) m else .no
 | _,_,_=>.no
noncomputable def Rz.bind (r:Rz)(f:Wd->Me->Rz):Rz:=match r with
 | .ok w m=>f w m
 | r=>r
noncomputable def y6 (c e:Wd->Me->Rz):List Wd->List Wd->Me->Rz
 | [],acc,m=>alloc m acc
 | x::xs,acc,m=>(c x m).bind fun b m1=>match b with
  | .bl true=>(e x m1).bind fun y m2=>if acc.length < lim then y6 c e xs (acc++[y]) m2 else .no
  | .bl false=>y6 c e xs acc m1
  | _=>.no
noncomputable def y7 (c e:Wd->Me->Rz)(l:Nat):Nat->Nat->List Wd->Me->Rz
 | 0,_,_,_=>.no
 | k+1,i,acc,m=>match zE m l with
  | none=>.no
  | some xs=>match xs[i]? with
   | none=>alloc m acc
   | some x=>(c x m).bind fun b m1=>match b with
    | .bl true=>(e x m1).bind fun y m2=>if acc.length < lim then y7 c e l k (i+1) (acc++[y]) m2 else .no
    | .bl false=>y7 c e l k (i+1) acc m1
    | _=>.no
noncomputable def yg (k:Kd)(x y:Wd)(i:Nat)(m:Me):Option (Option (Wd×Wd)):=match k,x,y with
 | .zip,.ref la,.ref lb=>match zE m la,zE m lb with
  | some xs,some ys=>some (match xs[i]?,ys[i]? with
   | some x,some y=>some (x,y)
   | _,_=>none)
  | _,_=>none
 | .enum,.ref la,.int s=>match zE m la with
  | some xs=>some (xs[i]?.map fun x=>(.int (s+(i:Int)),x))
  | none=>none
 | _,_,_=>none
noncomputable def yU (c e:Wd->Wd->Me->Rz)(g:Nat->Me->Option (Option (Wd×Wd))):Nat->Nat->List Wd->Me->Rz
 | 0,_,_,_=>.no
 | k+1,i,acc,m=>match g i m with
  | none=>.no
  | some none=>alloc m acc
  | some (some (x,y))=>(c x y m).bind fun b m1=>match b with
   | .bl true=>(e x y m1).bind fun z m2=>if acc.length < lim then yU c e g k (i+1) (acc++[z]) m2 else .no
   | .bl false=>yU c e g k (i+1) acc m1
   | _=>.no
noncomputable def zp:Wd->List Wd
 | .tup xs=>xs
 | _=>[]
noncomputable def evE (cl:Nat->List Wd->Me->Rz):Ex->En->Me->Rz
 | .var i,env,m=>match env[i]? with
  | some (some w)=>.ok w m
  | _=>.no
 | .lit w,_,m=>.ok w m
 | .bin op a b,env,m=>(evE cl a env m).bind fun x m1=>(evE cl b env m1).bind fun y m2=>bop op x y m2
 | .neg a,env,m=>(evE cl a env m).bind fun x m1=>match x with
  | .int i=>.ok (.int (-i)) m1
  | _=>.no
 | .not a,env,m=>(evE cl a env m).bind fun x m1=>match x with
  | .bl b=>.ok (.bl (!b)) m1
  | _=>.no
 | .and a b,env,m=>(evE cl a env m).bind fun x m1=>match x with
  | .bl true=>evE cl b env m1
  | .bl false=>.ok (.bl false) m1
  | _=>.no
 | .or a b,env,m=>(evE cl a env m).bind fun x m1=>match x with
  | .bl false=>evE cl b env m1
  | .bl true=>.ok (.bl true) m1
  | _=>.no
 | .cmp op a b,env,m=>(evE cl a env m).bind fun x m1=>(evE cl b env m1).bind fun y m2=>cop op x y m2
 | .chain p q a b c,env,m=>(evE cl a env m).bind fun x m1=>(evE cl b env m1).bind fun y m2=>(cop p x y m2).bind fun z m3=>match z with
  | .bl true=>(evE cl c env m3).bind fun u m4=>cop q y u m4
  | .bl false=>.ok (.bl false) m3
  | _=>.no
 | .ife c a b,env,m=>(evE cl c env m).bind fun x m1=>match x with
  | .bl true=>evE cl a env m1
  | .bl false=>evE cl b env m1
  | _=>.no
 | .unit,_,m=>.ok (.tup []) m
 | .pair a b,env,m=>(evE cl a env m).bind fun x m1=>(evE cl b env m1).bind fun y m2=>.ok (.tup (x::zp y)) m2
 | .call k a,env,m=>(evE cl a env m).bind fun x m1=>cl k (zp x) m1
 | .blt b a,env,m=>(evE cl a env m).bind fun x m1=>wD b (zp x) m1
 | .isi t a,env,m=>(evE cl a env m).bind fun x m1=>ofB (isT t x m1) m1
 | .lst a,env,m=>(evE cl a env m).bind fun x m1=>alloc m1 (zp x)
 | .tup a,env,m=>(evE cl a env m).bind fun x m1=>if (zp x).length<=lim then .ok (.tup (zp x)) m1 else .no
 | .dict0,_,m=>.ok (.ref m.length) (m++[.dct []])
 | .idx a b,env,m=>(evE cl a env m).bind fun x m1=>(evE cl b env m1).bind fun y m2=>vB x y m2
 | .slL a lo,env,m=>(evE cl a env m).bind fun x m1=>(evE cl lo env m1).bind fun y m2=>match y with
  | .int i=>slR x (some i) none m2
  | _=>.no
 | .slH _ _,_,_=>.no
 | .slB _ _ _,_,_=>.no
 | .meth n o a,env,m=>(evE cl o env m).bind fun x m1=>(evE cl a env m1).bind fun y m2=>mtR n x (zp y) m2
 | .rng a b c,env,m=>(evE cl a env m).bind fun x m1=>(evE cl b env m1).bind fun y m2=>(evE cl c env m2).bind fun z m3=>qG x y z m3
 | .comp elt it cond,env,m=>(evE cl it env m).bind fun x m1=>match x with
  | .tup xs=>y6 (fun x m=>evE cl cond (env++[some x]) m) (fun x m=>evE cl elt (env++[some x]) m) xs [] m1
  | .rol xs=>y6 (fun x m=>evE cl cond (env++[some x]) m) (fun x m=>evE cl elt (env++[some x]) m) xs [] m1
  | .ref l=>y7 (fun x m=>evE cl cond (env++[some x]) m) (fun x m=>evE cl elt (env++[some x]) m) l (lim+1) 0 [] m1
  | _=>.no
 | .compP k elt a b cond,env,m=>(evE cl a env m).bind fun x m1=>(evE cl b env m1).bind fun y m2 =>
  yU (fun u v m=>evE cl cond (env++[some u]++[some v]) m) (fun u v m=>evE cl elt (env++[some u]++[some v]) m) (yg k x y) (lim+1) 0 [] m2
 | .lrng a,env,m=>(evE cl a env m).bind fun x m1=>match x with
  | .int j=>if -lim<=j/\j<=lim then alloc m1 (gM 0 1 j.toNat) else .no
  | _=>.no
noncomputable def wF (body:Wd->En->Me->Rs):List Wd->En->Me->Rs
 | [],env,m=>.next env m
 | x::xs,env,m=>match body x env m with
  | .next e1 m1=>wF body xs e1 m1
  | .cont e1 m1=>wF body xs e1 m1
  | .brk e1 m1=>.next e1 m1
  | r=>r
noncomputable def xY (body:Wd->En->Me->Rs)(l:Nat):Nat->Nat->En->Me->Rs
 | 0,_,_,_=>.no
 | k+1,i,env,m=>match zE m l with
  | none=>.no
  | some xs=>match xs[i]? with
   | none=>.next env m
   | some x=>match body x env m with
    | .next e1 m1=>xY body l k (i+1) e1 m1
    | .cont e1 m1=>xY body l k (i+1) e1 m1
    | .brk e1 m1=>.next e1 m1
    | r=>r
noncomputable def zas (body:Wd->En->Me->Rs)(g:Nat->Me->Option (Option (Wd×Wd))):Nat->Nat->En->Me->Rs
 | 0,_,_,_=>.no
 | k+1,i,env,m=>match g i m with
  | none=>.no
  | some none=>.next env m
  | some (some (x,y))=>match body (.tup [x,y]) env m with
   | .next e1 m1=>zas body g k (i+1) e1 m1
   | .cont e1 m1=>zas body g k (i+1) e1 m1
   | .brk e1 m1=>.next e1 m1
   | r=>r
noncomputable def zcy (c:En->Me->Rz)(body:En->Me->Rs):Nat->En->Me->Rs
 | 0,_,_=>.no
 | k+1,env,m=>match c env m with
  | .ok (.bl true) m1=>match body env m1 with
   | .next e1 m2=>zcy c body k e1 m2
   | .cont e1 m2=>zcy c body k e1 m2
   | .brk e1 m2=>.next e1 m2
   | r=>r
  | .ok (.bl false) m1=>.next env m1
  | .exc c w m1=>.exc c w env m1
  | _=>.no
noncomputable def Rz.bindS (r:Rz)(env:En)(f:Wd->Me->Rs):Rs:=match r with
 | .ok w m=>f w m
 | .exc c w m=>.exc c w env m
 | .no=>.no
noncomputable def jm (body:Wd->En->Me->Rs)(w:Wd)(env:En)(m:Me):Rs:=match w with
 | .tup xs=>wF body xs env m
 | .rol xs=>wF body xs env m
 | .ref l=>xY body l (lim+1) 0 env m
 | _=>.no
noncomputable def st2 (i j:Nat):Wd->En->Option En:=fun w env=>match w with
 | .tup [a,b]=>some ((env.set i (some a)).set j (some b))
 | _=>none
noncomputable def st3 (i j k:Nat)(w:Wd)(m:Me)(env:En):Option En:=match xu m w with
 | some [a,b,c]=>some (((env.set i (some a)).set j (some b)).set k (some c))
 | _=>none
noncomputable def yN (st:Wd->En->Option En)(b:En->Me->Rs):Wd->En->Me->Rs:=fun w env m=>match st w env with
 | some env'=>b env' m
 | none=>.no
noncomputable def zg7 (op:Bo)(x y:Wd)(m:Me)(env:En)(f:Wd->Me->Rs):Rs:=match x,y with
 | .int _,.int _=>(bop op x y m).bindS env f
 | _,_=>.no
noncomputable def exS (cl:Nat->List Wd->Me->Rz):Sm->En->Me->Rs
 | .skip,env,m=>.next env m
 | .seq a b,env,m=>match exS cl a env m with
  | .next e1 m1=>exS cl b e1 m1
  | r=>r
 | .asg i e,env,m=>(evE cl e env m).bindS env fun w m1=>.next (env.set i (some w)) m1
 | .asgS o i e,env,m=>(evE cl e env m).bindS env fun w m1=>(evE cl o env m1).bindS env fun x m2=>(evE cl i env m2).bindS env fun y m3=>(wU x y w m3).bindS env fun _ m4=>.next env m4
 | .swapS o i p j a b,env,m=>(evE cl a env m).bindS env fun u m0=>(evE cl b env m0).bindS env fun w m1 =>
   (evE cl o env m1).bindS env fun x m2=>(evE cl i env m2).bindS env fun y m3=>(wU x y u m3).bindS env fun _ m4 =>
   (evE cl p env m4).bindS env fun x m5=>(evE cl j env m5).bindS env fun y m6=>(wU x y w m6).bindS env fun _ m7=>.next env m7
 | .aug i op e,env,m=>match env[i]? with
  | some (some x)=>(evE cl e env m).bindS env fun y m1=>zg7 op x y m1 env fun z m2=>.next (env.set i (some z)) m2
  | _=>.no
 | .augS o i op e,env,m=>(evE cl o env m).bindS env fun x m1=>match x with
  | .ref l=>(evE cl i env m1).bindS env fun y m2=>(vB (.ref l) y m2).bindS env fun u m3=>(evE cl e env m3).bindS env fun v m4=>zg7 op u v m4 env fun z m5=>(wU (.ref l) y z m5).bindS env fun _ m6=>.next env m6
  | _=>.no
 | .ite c a b,env,m=>(evE cl c env m).bindS env fun x m1=>match x with
  | .bl true=>exS cl a env m1
  | .bl false=>exS cl b env m1
  | _=>.no
 | .forv i it body,env,m=>(evE cl it env m).bindS env fun w m1=>jm (fun x e m=>exS cl body (e.set i (some x)) m) w env m1
 | .fort i j it body,env,m=>(evE cl it env m).bindS env fun w m1=>jm (yN (st2 i j) (exS cl body)) w env m1
 | .while c body,env,m=>zcy (evE cl c) (exS cl body) 1000000 env m
 | .ret e,env,m=>(evE cl e env m).bindS env fun w m1=>.ret w m1
 | .retN,_,m=>.ret .non m
 | .expr e,env,m=>(evE cl e env m).bindS env fun _ m1=>.next env m1
 | .forA i j c,env,m=>(evE cl (.var j) env m).bindS env fun w m1=>jm (fun x e m=>(evE cl (.meth .append (.var i) (.pair (.lit (.int c)) .unit)) (e.set i (some x)) m).bindS (e.set i (some x)) fun _ m1=>.next (e.set i (some x)) m1) w env m1
 | .forZ i j a b body,env,m=>(evE cl a env m).bindS env fun x m1=>(evE cl b env m1).bindS env fun y m2=>zas (yN (st2 i j) (exS cl body)) (yg .zip x y) (lim+1) 0 env m2
 | .forS i j k c,env,m=>(evE cl (.var k) env m).bindS env fun w m1=>jm (fun x e m=>match (evE cl (.var i) (e.set i (some x)) m).bindS (e.set i (some x)) (fun w m1=>jm (fun x e m=>(evE cl (.meth .append (.var j) (.pair (.lit (.int c)) .unit)) (e.set j (some x)) m).bindS (e.set j (some x)) fun _ m1=>.next (e.set j (some x)) m1) w (e.set i (some x)) m1) with
  | .next e1 m1=>(evE cl (.meth .append (.var i) (.pair (.lst .unit) .unit)) e1 m1).bindS e1 fun _ m2=>.next e1 m2
  | r=>r) w env m1
 | .forC i j,env,m=>(evE cl (.var j) env m).bindS env fun w m1=>jm (fun x e m=>(evE cl (.meth .clear (.var i) .unit) (e.set i (some x)) m).bindS (e.set i (some x)) fun _ m1=>.next (e.set i (some x)) m1) w env m1
 | .forE i j a body,env,m=>(evE cl a env m).bindS env fun x m1=>zas (yN (st2 i j) (exS cl body)) (yg .enum x (.int 0)) (lim+1) 0 env m1
 | .swapI v i j a b,env,m=>(evE cl a env m).bindS env fun u m0=>(evE cl b env m0).bindS env fun w m1 =>
   (evE cl (.var v) env m1).bindS env fun x m2=>(evE cl i env m2).bindS env fun y m3=>(wU x y u m3).bindS env fun _ m4 =>
   (evE cl (.var v) env m4).bindS env fun x m5=>(evE cl j env m5).bindS env fun y m6=>(wU x y w m6).bindS env fun _ m7=>.next env m7
 | .popV i j,env,m=>(evE cl (.meth .pop (.var j) .unit) env m).bindS env fun w m1=>.next (env.set i (some w)) m1
 | .popI j e a b,env,m=>(evE cl (.cmp .ne (.meth .pop (.var j) .unit) e) env m).bindS env fun x m1=>match x with
  | .bl true=>exS cl a env m1
  | .bl false=>exS cl b env m1
  | _=>.no
 | .appPop j a x e,env,m=>(evE cl (.meth .append (.var j) (.pair (.bin .add (.var a) (.bin .mod (.meth .pop (.var x) (.pair (.lit (.int 0)) .unit)) e)) .unit)) env m).bindS env fun _ m1=>.next env m1
 | .unp3 i j k e,env,m=>(evE cl e env m).bindS env fun w m1=>match st3 i j k w m1 env with
  | some e1=>.next e1 m1
  | none=>.no
 | .brk,env,m=>.brk env m
 | .cont,env,m=>.cont env m
 | .never,_,_=>.no
set_option genInjectivity false in
structure Fn where
 ar:Nat
 sz:Nat
 body:Sm
deriving Inhabited
noncomputable def yF (fn:Fn)(ws:List Wd):En:=ws.map some++List.replicate (fn.sz - ws.length) none
noncomputable def xy (cl:Nat->List Wd->Me->Rz)(fn:Fn)(ws:List Wd)(m:Me):Rz :=
 if ws.length=fn.ar then match exS cl fn.body (yF fn ws) m with
  | .next _ m1=>.ok .non m1
  | .ret w m1=>.ok w m1
  | .exc c w _ m1=>.exc c w m1
  | _=>.no
 else .no
noncomputable def yt (T:List Fn):Nat->Nat->List Wd->Me->Rz
 | 0,_,_,_=>.no
 | d+1,k,ws,m=>match T[k]? with
  | some fn=>xy (yt T d) fn ws m
  | none=>.no
end Mini
namespace Mini
open PySem PySem.Spec PyProof.Rows L2
abbrev St:=L2.St
def KL (K:PySem.W.Frag)(a:Addr)(xs:List V):Prop :=
 ∃ (o:Obj) (its:Array Value) (n:Nat),K.lookup a=some o/\o.cls=.type "list" /\ o.dict=none/\o.data=.seq its n/\its.size<=sizeLine/\Vals xs its.toList
def SqF (K:PySem.W.Frag)(H:Hp)(a:Addr)(vs:List V):Prop:=(∃o,H a=some (.frz o (.lst vs)))\/KL K a vs
theorem SqF.sq {K:PySem.W.Frag}{H:Hp}{a:Addr}{vs:List V}(h:SqF K H a vs):SqL K H a vs:=by
 rcases h with h | h
 .exact .inl (.inr h)
 .exact .inr h
mutual
noncomputable def Rep (K:PySem.W.Frag)(as:List Addr)(H:Hp):Wd->V->Prop
 | .non,v=>v=.non
 | .bl b,v=>v=.bl b
 | .int i,v=>v=.int i
 | .str s,v=>v=.str ⟨s.toArray⟩
 | .tup xs,v=>∃a vs,v=.ref a/\SqT K H a vs/\RepL K as H xs vs
 | .rol xs,v=>∃a vs,v=.ref a/\SqF K H a vs/\RepL K as H xs vs
 | .ref l,v=>∃a,as[l]?=some a/\v=.ref a
noncomputable def RepL (K:PySem.W.Frag)(as:List Addr)(H:Hp):List Wd->List V->Prop
 | [],vs=>vs=[]
 | x::xs,vs=>∃v r,vs=v::r/\Rep K as H x v/\RepL K as H xs r
end
def RepO (K:PySem.W.Frag)(as:List Addr)(H:Hp):Ob->Addr->Prop
 | .lst ws,a=>∃vs,H a=some (.lst vs)/\RepL K as H ws vs
 | .dct _,_=>False
structure Sim (K:PySem.W.Frag)(as:List Addr)(m:Me)(H:Hp):Prop where
 len:as.length=m.length
 nd:as.Nodup
 obj:∀ (l:Nat) (a:Addr) (o:Ob),as[l]?=some a->m[l]?=some o->RepO K as H o a
structure Step (as:List Addr)(H:Hp)(as':List Addr)(H':Hp):Prop where
 pre:∃t,as'=as++t
 frame:∀b o,H b=some o->b∉as->H' b=some o
 fresh:∀a∈as',a∈as\/H a=none
section
variable {K:PySem.W.Frag}{as as' as2:List Addr}{H H' H2:Hp}{m m':Me}
theorem Step.refl:Step as H as H:=⟨⟨[],by simp⟩,fun _ _ h _=>h,fun _ h=>.inl h⟩
theorem Step.get (T:Step as H as' H'){l:Nat}{a:Addr}(h:as[l]?=some a):as'[l]?=some a:=by
 obtain ⟨t,rfl⟩:=T.pre
 rw[List.getElem?_append_left (List.getElem?_eq_some_iff.mp h).1]
 exact h
theorem Step.out (T:Step as H as' H'){b:Addr}{o:HO}(h:H b=some o)(hb:b∉as):b∉as':=fun z=>by
 rcases T.fresh b z with q | q
 .exact hb q
 .rw[h] at q;cases q
theorem Step.trans (T:Step as H as' H')(U:Step as' H' as2 H2):Step as H as2 H2:=by
 refine ⟨?_,fun b o h hb=>U.frame b o (T.frame b o h hb) (T.out h hb),fun a ha=>?_⟩
 .obtain ⟨t,rfl⟩:=T.pre
  obtain ⟨u,rfl⟩:=U.pre
  exact ⟨t++u,by simp⟩
 .rcases U.fresh a ha with q | q
  .exact T.fresh a q
  .by_cases z:a∈as
   .exact .inl z
   .refine .inr ?_
    cases e:H a with
    | none=>rfl
    | some o=>rw[T.frame a o e z] at q;cases q
theorem Sim.get (S:Sim K as m H){l:Nat}{o:Ob}(h:m[l]?=some o):∃a,as[l]?=some a/\RepO K as H o a:=by
 have hl:l < as.length:=by rw[S.len];exact (List.getElem?_eq_some_iff.mp h).1
 exact ⟨as[l],by simp[hl],S.obj l _ o (by simp[hl]) h⟩
theorem Sim.isLst (S:Sim K as m H){a:Addr}(h:a∈as):∃us,H a=some (.lst us):=by
 obtain ⟨l,hl,rfl⟩:=List.mem_iff_getElem.mp h
 have hm:l < m.length:=by rw[<- S.len];exact hl
 have q:=S.obj l as[l] m[l] (by simp[hl]) (by simp[hm])
 cases e:m[l] with
 | lst ws =>
  rw[e] at q
  obtain ⟨vs,h1,_⟩:=q
  exact ⟨vs,h1⟩
 | dct kvs=>rw[e] at q;exact q.elim
theorem zcz (nt:∀a∈as,∃us,H a=some (.lst us))(T:Step as H as' H'){a:Addr}{vs:List V}(h:SqT K H a vs):SqT K H' a vs:=by
 rcases h with h | h
 .have hn:a∉as:=fun z=>by
   obtain ⟨us,e⟩:=nt a z
   rcases h with h | ⟨o,h⟩ <;> rw[e] at h <;> cases h
  rcases h with h | ⟨o,h⟩
  .exact .inl (.inl (T.frame _ _ h hn))
  .exact .inl (.inr ⟨o,T.frame _ _ h hn⟩)
 .exact .inr h
theorem zcA (nt:∀a∈as,∃us,H a=some (.lst us))(T:Step as H as' H'){a:Addr}{vs:List V}(h:SqF K H a vs):SqF K H' a vs:=by
 rcases h with ⟨o,h⟩ | h
 .have hn:a∉as:=fun z=>by
   obtain ⟨us,e⟩:=nt a z
   rw[e] at h;cases h
  exact .inl ⟨o,T.frame _ _ h hn⟩
 .exact .inr h
structure Kp (K:PySem.W.Frag)(H H':Hp):Prop where
 t:∀a vs,SqT K H a vs->SqT K H' a vs
 f:∀a vs,SqF K H a vs->SqF K H' a vs
theorem Sim.kp (S:Sim K as m H)(T:Step as H as' H'):Kp K H H':=⟨fun _ _ h=>zcz (fun _ z=>S.isLst z) T h,fun _ _ h=>zcA (fun _ z=>S.isLst z) T h⟩
theorem Kp.upd {D:Addr}{ys:List V}{o:HO}(h:H D=some (.lst ys)):Kp K H (L2.upd H D o):=by
 refine ⟨fun a vs q=>?_,fun a vs q=>?_⟩
 .rcases q with (q | ⟨x,q⟩) | q
  .exact .inl (.inl (by rw[zd (by rintro rfl;rw[h] at q;cases q)];exact q))
  .exact .inl (.inr ⟨x,by rw[zd (by rintro rfl;rw[h] at q;cases q)];exact q⟩)
  .exact .inr q
 .rcases q with ⟨x,q⟩ | q
  .exact .inl ⟨x,by rw[zd (by rintro rfl;rw[h] at q;cases q)];exact q⟩
  .exact .inr q
mutual
theorem kP (k:Kp K H H')(g:∀ (l:Nat) (a:Addr),as[l]?=some a->as'[l]?=some a):∀ (w:Wd) (v:V),Rep K as H w v->Rep K as' H' w v
 | .non,_,h=>by rw[Rep] at h ⊢;exact h
 | .bl _,_,h=>by rw[Rep] at h ⊢;exact h
 | .int _,_,h=>by rw[Rep] at h ⊢;exact h
 | .str _,_,h=>by rw[Rep] at h ⊢;exact h
 | .tup xs,v,h=>by
  rw[Rep] at h ⊢
  obtain ⟨a,vs,e,q,r⟩:=h
  exact ⟨a,vs,e,k.t _ _ q,repL_mono k g xs vs r⟩
 | .rol xs,v,h=>by
  rw[Rep] at h ⊢
  obtain ⟨a,vs,e,q,r⟩:=h
  exact ⟨a,vs,e,k.f _ _ q,repL_mono k g xs vs r⟩
 | .ref l,v,h=>by
  rw[Rep] at h ⊢
  obtain ⟨a,q,e⟩:=h
  exact ⟨a,g _ _ q,e⟩
theorem repL_mono (k:Kp K H H')(g:∀ (l:Nat) (a:Addr),as[l]?=some a->as'[l]?=some a):∀ (ws:List Wd) (vs:List V),RepL K as H ws vs->RepL K as' H' ws vs
 | [],_,h=>by rw[RepL] at h ⊢;exact h
 | x::xs,vs,h=>by
  rw[RepL] at h ⊢
  obtain ⟨v,r,e,q,t⟩:=h
  exact ⟨v,r,e,kP k g x v q,repL_mono k g xs r t⟩
end
theorem Rep.mono {w:Wd}{v:V}(h:Rep K as H w v)(S:Sim K as m H)(T:Step as H as' H'):Rep K as' H' w v:=kP (S.kp T) (fun _ _ e=>T.get e) w v h
theorem RepL.mono {ws:List Wd}{vs:List V}(h:RepL K as H ws vs)(S:Sim K as m H)(T:Step as H as' H'):RepL K as' H' ws vs:=repL_mono (S.kp T) (fun _ _ e=>T.get e) ws vs h
theorem RepL.kp {ws:List Wd}{vs:List V}(h:RepL K as H ws vs)(k:Kp K H H'):RepL K as H' ws vs:=repL_mono k (fun _ _ e=>e) ws vs h
theorem Rep.kp {w:Wd}{v:V}(h:Rep K as H w v)(k:Kp K H H'):Rep K as H' w v:=kP k (fun _ _ e=>e) w v h
theorem rep_non {v:V}:Rep K as H .non v↔v=.non:=by rw[Rep]
theorem rep_bl {b:Bool}{v:V}:Rep K as H (.bl b) v↔v=.bl b:=by rw[Rep]
theorem rep_int {i:Int}{v:V}:Rep K as H (.int i) v↔v=.int i:=by rw[Rep]
theorem rep_str {s:List Nat}{v:V}:Rep K as H (.str s) v↔v=.str ⟨s.toArray⟩:=by rw[Rep]
theorem rep_tup {xs:List Wd}{v:V}:Rep K as H (.tup xs) v↔∃a vs,v=.ref a/\SqT K H a vs/\RepL K as H xs vs:=by rw[Rep]
theorem rep_rol {xs:List Wd}{v:V}:Rep K as H (.rol xs) v↔∃a vs,v=.ref a/\SqF K H a vs/\RepL K as H xs vs:=by rw[Rep]
theorem rep_ref {l:Nat}{v:V}:Rep K as H (.ref l) v↔∃a,as[l]?=some a/\v=.ref a:=by rw[Rep]
theorem repL_nil {vs:List V}:RepL K as H [] vs↔vs=[]:=by rw[RepL]
theorem repL_cons {x:Wd}{xs:List Wd}{vs:List V}:RepL K as H (x::xs) vs↔∃v r,vs=v::r/\Rep K as H x v/\RepL K as H xs r:=by rw[RepL]
theorem RepL.length:∀ {xs:List Wd}{vs:List V},RepL K as H xs vs->xs.length=vs.length
 | [],vs,h=>by rw[repL_nil.mp h];rfl
 | x::xs,vs,h=>by
  obtain ⟨v,r,rfl,_,t⟩:=repL_cons.mp h
  simp[RepL.length t]
theorem RepL.get:∀ {xs:List Wd}{vs:List V}{i:Nat}{x:Wd},RepL K as H xs vs->xs[i]?=some x->∃v,vs[i]?=some v/\Rep K as H x v
 | [],_,_,_,_,e=>by simp at e
 | x::xs,vs,0,y,h,e=>by
  obtain ⟨v,r,rfl,q,t⟩:=repL_cons.mp h
  simp at e;subst e
  exact ⟨v,rfl,q⟩
 | x::xs,vs,i+1,y,h,e=>by
  obtain ⟨v,r,rfl,q,t⟩:=repL_cons.mp h
  obtain ⟨u,h1,h2⟩:=RepL.get (i:=i) (x:=y) t (by simpa using e)
  exact ⟨u,by simpa using h1,h2⟩
theorem RepL.back:∀ {xs:List Wd}{vs:List V}{i:Nat}{v:V},RepL K as H xs vs->vs[i]?=some v->∃x,xs[i]?=some x/\Rep K as H x v:=fun {xs vs i v} h e=>by
 have hi:i < xs.length:=by rw[h.length];exact (List.getElem?_eq_some_iff.mp e).1
 obtain ⟨u,h1,h2⟩:=h.get (i:=i) (x:=xs[i]) (by simp[hi])
 rw[e] at h1;cases h1
 exact ⟨xs[i],by simp[hi],h2⟩
theorem RepL.append:∀ {xs ys:List Wd}{vs us:List V},RepL K as H xs vs->RepL K as H ys us->RepL K as H (xs++ys) (vs++us)
 | [],ys,vs,us,h,h'=>by rw[repL_nil.mp h];exact h'
 | x::xs,ys,vs,us,h,h'=>by
  obtain ⟨v,r,rfl,q,t⟩:=repL_cons.mp h
  exact repL_cons.mpr ⟨v,r++us,rfl,q,t.append h'⟩
theorem RepL.one {x:Wd}{v:V}(h:Rep K as H x v):RepL K as H [x] [v]:=repL_cons.mpr ⟨v,[],rfl,h,repL_nil.mpr rfl⟩
theorem RepL.set:∀ {xs:List Wd}{vs:List V}{x:Wd}{v:V}(i:Nat),RepL K as H xs vs->Rep K as H x v->RepL K as H (xs.set i x) (vs.set i v)
 | [],vs,_,_,_,h,_=>by rw[repL_nil.mp h];exact repL_nil.mpr rfl
 | y::xs,vs,x,v,0,h,hx=>by
  obtain ⟨u,r,rfl,q,t⟩:=repL_cons.mp h
  exact repL_cons.mpr ⟨v,r,rfl,hx,t⟩
 | y::xs,vs,x,v,i+1,h,hx=>by
  obtain ⟨u,r,rfl,q,t⟩:=repL_cons.mp h
  exact repL_cons.mpr ⟨u,r.set i v,rfl,q,t.set i hx⟩
theorem RepL.take:∀ {xs:List Wd}{vs:List V}(n:Nat),RepL K as H xs vs->RepL K as H (xs.take n) (vs.take n)
 | _,_,0,_=>repL_nil.mpr rfl
 | [],vs,n+1,h=>by rw[repL_nil.mp h];exact repL_nil.mpr rfl
 | x::xs,vs,n+1,h=>by
  obtain ⟨v,r,rfl,q,t⟩:=repL_cons.mp h
  exact repL_cons.mpr ⟨v,r.take n,rfl,q,t.take n⟩
theorem RepL.drop:∀ {xs:List Wd}{vs:List V}(n:Nat),RepL K as H xs vs->RepL K as H (xs.drop n) (vs.drop n)
 | _,_,0,h=>h
 | [],vs,n+1,h=>by rw[repL_nil.mp h];exact repL_nil.mpr rfl
 | x::xs,vs,n+1,h=>by
  obtain ⟨v,r,rfl,q,t⟩:=repL_cons.mp h
  exact t.drop n
theorem RepL.reverse:∀ {xs:List Wd}{vs:List V},RepL K as H xs vs->RepL K as H xs.reverse vs.reverse
 | [],vs,h=>by rw[repL_nil.mp h];exact repL_nil.mpr rfl
 | x::xs,vs,h=>by
  obtain ⟨v,r,rfl,q,t⟩:=repL_cons.mp h
  rw[List.reverse_cons,List.reverse_cons]
  exact t.reverse.append (.one q)
theorem RepL.dropLast:∀ {xs:List Wd}{vs:List V},RepL K as H xs vs->RepL K as H xs.dropLast vs.dropLast:=fun {xs vs} h=>by
 rw[List.dropLast_eq_take,List.dropLast_eq_take,h.length]
 exact h.take _
theorem RepL.rep {xs:List Wd}{vs:List V}(h:RepL K as H xs vs):∀k:Nat,RepL K as H (List.replicate k xs).flatten (List.replicate k vs).flatten
 | 0=>repL_nil.mpr rfl
 | k+1=>by
  rw[List.replicate_succ,List.replicate_succ,List.flatten_cons,List.flatten_cons]
  exact h.append (RepL.rep h k)
structure EnvRep (K:PySem.W.Frag)(as:List Addr)(H:Hp)(env:En)(σ:St):Prop where
 len:env.length=σ.length
 get:∀ (i:Nat) (w:Wd),env[i]?=some (some w)->∃v,σ[i]?=some (some v)/\Rep K as H w v
theorem EnvRep.mono {env:En}{σ:St}(G:EnvRep K as H env σ)(S:Sim K as m H)(T:Step as H as' H'):EnvRep K as' H' env σ :=
 ⟨G.len,fun i w e=>let ⟨v,h1,h2⟩:=G.get i w e;⟨v,h1,h2.mono S T⟩⟩
theorem EnvRep.kp {env:En}{σ:St}(G:EnvRep K as H env σ)(k:Kp K H H'):EnvRep K as H' env σ :=
 ⟨G.len,fun i w e=>let ⟨v,h1,h2⟩:=G.get i w e;⟨v,h1,h2.kp k⟩⟩
theorem EnvRep.set {env:En}{σ:St}(G:EnvRep K as H env σ){w:Wd}{v:V}(h:Rep K as H w v)(i:Nat):EnvRep K as H (env.set i (some w)) (σ.set i (some v)):=by
 refine ⟨by simp[G.len],fun j x e=>?_⟩
 by_cases hj:j=i
 .subst hj
  have hl:j < env.length:=by
   have:=(List.getElem?_eq_some_iff.mp e).1
   simpa using this
  rw[List.getElem?_set_self hl] at e
  cases e
  exact ⟨v,List.getElem?_set_self (by rw[<- G.len];exact hl),h⟩
 .rw[List.getElem?_set_ne (Ne.symm hj)] at e
  obtain ⟨u,h1,h2⟩:=G.get j x e
  exact ⟨u,by rw[List.getElem?_set_ne (Ne.symm hj)];exact h1,h2⟩
theorem EnvRep.push {env:En}{σ:St}(G:EnvRep K as H env σ){w:Wd}{v:V}(h:Rep K as H w v):EnvRep K as H (env++[some w]) (σ++[some v]):=by
 refine ⟨by simp[G.len],fun j x e=>?_⟩
 by_cases hj:j < env.length
 .rw[List.getElem?_append_left hj] at e
  obtain ⟨u,h1,h2⟩:=G.get j x e
  exact ⟨u,by rw[List.getElem?_append_left (by rw[<- G.len];exact hj)];exact h1,h2⟩
 .rw[List.getElem?_append_right (by lia)] at e
  have hz:j - env.length=0:=by
   cases hq:j - env.length with
   | zero=>rfl
   | succ k=>rw[hq] at e;simp at e
  rw[hz] at e
  simp at e
  subst e
  refine ⟨v,?_,h⟩
  rw[List.getElem?_append_right (by rw[<- G.len];lia),<- G.len,hz]
  rfl
def Post (K:PySem.W.Frag)(as:List Addr)(H:Hp)(Q:VK)(r:Rz):Prop:=match r with
 | .ok w m'=>∀as' H' v,Step as H as' H'->Sim K as' m' H'->Rep K as' H' w v->Q v H'
 | _=>False
theorem Post.step {Q:VK}{r:Rz}(h:Post K as H Q r)(T:Step as H as' H'):Post K as' H' Q r:=by
 cases r with
 | ok w m'=>exact fun as2 H2 v U S R=>h as2 H2 v (T.trans U) S R
 | exc c w m'=>exact h
 | no=>exact h
theorem Post.bind {Q Q1:VK}{r:Rz}{f:Wd->Me->Rz}(h:Post K as H Q (r.bind f))
  (k:∀w m' as' H' v,Step as H as' H'->Sim K as' m' H'->Rep K as' H' w v->Post K as' H' Q (f w m')->Q1 v H'):Post K as H Q1 r:=by
 cases r with
 | ok w m'=>exact fun as2 H2 v U S R=>k w m' as2 H2 v U S R (Post.step (r:=f w m') h U)
 | exc c w m'=>exact h
 | no=>exact h
theorem ziy {Q Q1:VK}{r:Rz}{f:Wd->Me->Rz}(h:Post K as H Q (r.bind f))(T:Step as H as' H')
  (k:∀w m2 as2 H2 v,Step as' H' as2 H2->Sim K as2 m2 H2->Rep K as2 H2 w v->Post K as H Q (f w m2)->Q1 v H2):Post K as' H' Q1 r:=by
 cases r with
 | ok w m'=>exact fun as2 H2 v U S R=>k w m' as2 H2 v U S R h
 | exc c w m'=>exact h
 | no=>exact h
def tOf (K:PySem.W.Frag)(g:En->Me->Rz):TE:=fun σ H Q=>∃as env m,Sim K as m H/\EnvRep K as H env σ/\Post K as H Q (g env m)
def xt (K:PySem.W.Frag)(g:En->Me->Rz):TT:=fun σ H Q=>tOf K g σ H fun v H'=>∃b,v=.bl b/\Q b H'
theorem Post.ok {Q:VK}{w:Wd}{v:V}(h:Post K as H Q (.ok w m))(S:Sim K as m H)(R:Rep K as H w v):Q v H:=h as H v .refl S R
end
theorem PE.imp {X:Cx}{e:Expr}{t t':TE}(h:PE X e t)(k:∀σ H Q,t' σ H Q->t σ H Q):PE X e t':=fun pins s σ H Q I q=>h pins s σ H Q I (k σ H Q q)
theorem PT.imp {X:Cx}{e:Expr}{t t':TT}(h:PT X e t)(k:∀σ H Q,t' σ H Q->t σ H Q):PT X e t':=fun pins s σ H Q I q=>h pins s σ H Q I (k σ H Q q)
theorem PA.imp {X:Cx}{es:List Expr}{t t':TA}(h:PA X es t)(k:∀σ H Q,t' σ H Q->t σ H Q):PA X es t':=fun pos pins s σ H Q I q=>h pos pins s σ H Q I (k σ H Q q)
theorem PS.imp {X:Cx}{st:Stmt}{t t':TS}(h:PS X st t)(k:∀D σ H,t' D σ H->t D σ H):PS X st t':=fun pins s σ H D I q=>h pins s σ H D I (k D σ H q)
theorem PSs.imp {X:Cx}{st:List Stmt}{t t':TS}(h:PSs X st t)(k:∀D σ H,t' D σ H->t D σ H):PSs X st t':=fun pins s σ H D I q=>h pins s σ H D I (k D σ H q)
section
variable {K:PySem.W.Frag}{as:List Addr}{H H':Hp}{m:Me}{Q:VK}{a p:Addr}{l:Nat}{ws xs:List Wd}{vs us:List V}
theorem yY:lim<=sizeLine:=by rw[sizeLine_eq];decide
theorem Sim.new (S:Sim K as m H)(hp:H p=none):p∉as:=fun z=>by
 obtain ⟨us,e⟩:=S.isLst z
 rw[hp] at e;cases e
theorem Sim.alloc (S:Sim K as m H)(hp:H p=none)(R:RepL K as H ws vs):Step as H (as++[p]) (upd H p (.lst vs))/\Sim K (as++[p]) (m++[.lst ws]) (upd H p (.lst vs)):=by
 have hn:=S.new hp
 have T:Step as H (as++[p]) (upd H p (.lst vs)):=⟨⟨[p],rfl⟩,fun b o h _=>by rw[zd (zl h hp)];exact h,fun b hb=>by
  rcases List.mem_append.mp hb with z | z
  .exact .inl z
  .exact .inr (by rw[List.mem_singleton.mp z];exact hp)⟩
 refine ⟨T,⟨by simp[S.len],?_,fun l b o h1 h2=>?_⟩⟩
 .refine List.nodup_append.mpr ⟨S.nd,by simp,fun x hx y hy=>?_⟩
  rw[List.mem_singleton.mp hy]
  rintro rfl
  exact hn hx
 .by_cases hl:l < as.length
  .rw[List.getElem?_append_left hl] at h1
   rw[List.getElem?_append_left (by rw[<- S.len];exact hl)] at h2
   have q:=S.obj l b o h1 h2
   cases o with
   | lst ys =>
    obtain ⟨zs,e,r⟩:=q
    exact ⟨zs,by rw[zd (zl e hp)];exact e,r.mono S T⟩
   | dct kvs=>exact q.elim
  .rw[List.getElem?_append_right (by lia)] at h1
   rw[List.getElem?_append_right (by rw[<- S.len];lia)] at h2
   have hz:l - as.length=0:=by
    cases hq:l - as.length with
    | zero=>rfl
    | succ k=>rw[hq] at h1;simp at h1
   rw[hz] at h1
   rw[<- S.len,hz] at h2
   simp at h1 h2
   subst h1;subst h2
   exact ⟨vs,zg,R.mono S T⟩
theorem Sim.set (S:Sim K as m H)(ha:as[l]?=some a)(hm:m[l]?=some (.lst xs))(R:RepL K as H ws vs):Step as H as (upd H a (.lst vs))/\Sim K as (m.set l (.lst ws)) (upd H a (.lst vs)):=by
 have hin:a∈as:=List.mem_of_getElem? ha
 have T:Step as H as (upd H a (.lst vs)):=⟨⟨[],by simp⟩,fun b o h hb=>by
  rw[zd (by rintro rfl;exact hb hin)];exact h,fun b hb=>.inl hb⟩
 refine ⟨T,⟨by simp[S.len],S.nd,fun k b o h1 h2=>?_⟩⟩
 by_cases hk:k=l
 .subst hk
  rw[ha] at h1;cases h1
  rw[List.getElem?_set_self (List.getElem?_eq_some_iff.mp hm).1] at h2
  cases h2
  exact ⟨vs,zg,R.mono S T⟩
 .rw[List.getElem?_set_ne (Ne.symm hk)] at h2
  have q:=S.obj k b o h1 h2
  have hb:b≠a:=by
   rintro rfl
   obtain ⟨i1,e1⟩:=List.getElem?_eq_some_iff.mp h1
   obtain ⟨i2,e2⟩:=List.getElem?_eq_some_iff.mp ha
   exact hk ((List.getElem_inj S.nd).mp (e1.trans e2.symm))
  cases o with
  | lst ys =>
   obtain ⟨zs,e,r⟩:=q
   exact ⟨zs,by rw[zd hb];exact e,r.mono S T⟩
  | dct kvs=>exact q.elim
theorem Sim.keep (S:Sim K as m H)(T:Step as H as H')(hk:∀a∈as,∀o,H a=some o->H' a=some o):Sim K as m H':=by
 refine ⟨S.len,S.nd,fun l b o h1 h2=>?_⟩
 have q:=S.obj l b o h1 h2
 cases o with
 | lst ys =>
  obtain ⟨zs,e,r⟩:=q
  exact ⟨zs,hk b (List.mem_of_getElem? h1) _ e,r.mono S T⟩
 | dct kvs=>exact q.elim
theorem Sim.tup (S:Sim K as m H)(hp:H p=none)(R:RepL K as H ws vs):Step as H as (upd H p (.tup vs))/\Sim K as m (upd H p (.tup vs))/\Rep K as (upd H p (.tup vs)) (.tup ws) (.ref p):=by
 have T:Step as H as (upd H p (.tup vs)):=⟨⟨[],by simp⟩,fun b o h _=>by rw[zd (zl h hp)];exact h,fun b hb=>.inl hb⟩
 exact ⟨T,S.keep T fun b _ o e=>by rw[zd (zl e hp)];exact e,rep_tup.mpr ⟨p,vs,rfl,SqT.of zg,R.mono S T⟩⟩
theorem xJ (S:Sim K as m H)(R:RepL K as H ws vs)(h:Post K as H Q (alloc m ws)):vs.length<=lim/\∀p,H p=none->Q (.ref p) (upd H p (.lst vs)):=by
 unfold Mini.alloc at h
 by_cases hl:ws.length<=lim
 .rw[if_pos hl] at h
  refine ⟨by rw[<- R.length];exact hl,fun p hp=>?_⟩
  obtain ⟨T,S'⟩:=S.alloc hp R
  refine h _ _ _ T S' (rep_ref.mpr ⟨p,?_,rfl⟩)
  rw[<- S.len,List.getElem?_append_right (Nat.le_refl _)]
  simp
 .rw[if_neg hl] at h;exact h.elim
theorem yn (S:Sim K as m H)(hm:m[l]?=some (.lst xs)):∃a vs,as[l]?=some a/\H a=some (.lst vs)/\RepL K as H xs vs:=by
 obtain ⟨a,ha,vs,e,r⟩:=S.get hm
 exact ⟨a,vs,ha,e,r⟩
theorem zR {xs:List Wd}(h:zE m l=some xs):m[l]?=some (.lst xs):=by
 unfold zE at h
 cases e:m[l]? with
 | none=>rw[e] at h;cases h
 | some o=>cases o with
  | lst ys=>rw[e] at h;cases h;rfl
  | dct kvs=>rw[e] at h;cases h
theorem vC (S:Sim K as m H){w:Wd}{v:V}(R:Rep K as H w v)(h:xu m w=some xs):∃p vs,v=.ref p/\(SqL K H p vs\/SqT K H p vs)/\RepL K as H xs vs:=by
 cases w with
 | tup ys =>
  cases h
  obtain ⟨b,vs,rfl,q,r⟩:=rep_tup.mp R
  exact ⟨b,vs,rfl,.inr q,r⟩
 | rol ys =>
  cases h
  obtain ⟨b,vs,rfl,q,r⟩:=rep_rol.mp R
  exact ⟨b,vs,rfl,.inl q.sq,r⟩
 | ref l =>
  obtain ⟨b,hb,rfl⟩:=rep_ref.mp R
  obtain ⟨a,vs,ha,e,r⟩:=yn S (zR h)
  rw[hb] at ha;cases ha
  exact ⟨b,vs,rfl,.inl (SqL.of e),r⟩
 | non=>cases h
 | bl b=>cases h
 | int i=>cases h
 | str s=>cases h
noncomputable def opK:Bo->Operator
 | .add=>.Add | .sub=>.Sub | .mul=>.Mult | .fdiv=>.FloorDiv | .mod=>.Mod | .pow=>.Pow
def rB (K:PySem.W.Frag):Bo->R2
 | .add=>fun x y H Q=>rI0 (fun i j=>.int (i+j)) x y H Q\/(zgZ x y H Q\/ze9 K x y H Q)
 | .sub=>rI0 fun i j=>.int (i - j)
 | .mul=>fun x y H Q=>rI CMul (fun i j=>.int (i * j)) x y H Q\/zg0 x y H Q
 | .fdiv=>rI zgL fun i j=>.int (i / j)
 | .mod=>rI (fun _ j=>0 < j) fun i j=>.int (i % j)
 | .pow=>rI zgM fun i j=>.int (i ^ j.toNat)
theorem zg8 {X:Cx}(op:Bo):OpR X (binaryOp (opK op)) (rB X.K op):=by
 cases op with
 | add=>exact op_add.or (op_cat.or zd3)
 | sub=>exact zfw
 | mul=>exact op_mul.or zfI
 | fdiv=>exact zdS
 | mod=>exact zfx
 | pow=>exact zfy
theorem vD {i:Int}(h:small i=true):-(2 ^ 64) < i/\i < 2 ^ 64:=by
 unfold small big at h
 rw[Bool.and_eq_true,decide_eq_true_iff,decide_eq_true_iff] at h
 lia
set_option tactic.hygienic true in
theorem zfN {op:Bo}{x y:Wd}{v u:V}(S:Sim K as m H)(Rx:Rep K as H x v)(Ry:Rep K as H y u)(h:Post K as H Q (bop op x y m)):rB K op v u H Q:=by
 unfold bop at h
 split at h
 .rename_i i j
  obtain rfl:=rep_int.mp Rx
  obtain rfl:=rep_int.mp Ry
  cases op with
  | add=>exact .inl ⟨i,j,rfl,rfl,h.ok S (rep_int.mpr rfl)⟩
  | sub=>exact ⟨i,j,rfl,rfl,h.ok S (rep_int.mpr rfl)⟩
  | mul =>
   simp only[] at h
   split at h
   .rename_i hs
    refine .inl ⟨i,j,rfl,rfl,?_,h.ok S (rep_int.mpr rfl)⟩
    rcases Bool.or_eq_true_iff.mp hs with q | q
    .exact .inl (vD q)
    .exact .inr (vD q)
   .exact h.elim
  | fdiv =>
   simp only[] at h
   split at h
   .rename_i hs
    exact ⟨i,j,rfl,rfl,hs,h.ok S (rep_int.mpr rfl)⟩
   .exact h.elim
  | mod =>
   simp only[] at h
   split at h
   .rename_i hs
    exact ⟨i,j,rfl,rfl,hs,h.ok S (rep_int.mpr rfl)⟩
   .exact h.elim
  | pow =>
   simp only[] at h
   split at h
   .rename_i hs
    obtain ⟨h1,h2,h3⟩:=hs
    have h4:=vD h3
    exact ⟨i,j,rfl,rfl,⟨h1,h2,by lia⟩,h.ok S (rep_int.mpr rfl)⟩
   .exact h.elim
 .rename_i a b
  obtain ⟨pa,ha,rfl⟩:=rep_ref.mp Rx
  obtain ⟨pb,hb,rfl⟩:=rep_ref.mp Ry
  split at h
  .rename_i xs ys e1 e2
   obtain ⟨pa',va,ha',ea,ra⟩:=yn S e1
   rw[ha] at ha';cases ha'
   obtain ⟨pb',vb,hb',eb,rb⟩:=yn S e2
   rw[hb] at hb';cases hb'
   obtain ⟨hl,q⟩:=xJ S (ra.append rb) h
   rw[List.length_append] at hl
   exact .inr (.inl ⟨pa,pb,va,vb,rfl,rfl,ea,eb,Nat.le_trans hl yY,q⟩)
  .exact h.elim
 .rename_i a k
  obtain ⟨pa,ha,rfl⟩:=rep_ref.mp Rx
  obtain rfl:=rep_int.mp Ry
  split at h
  .rename_i xs e1
   obtain ⟨pa',va,ha',ea,ra⟩:=yn S e1
   rw[ha] at ha';cases ha'
   split at h
   .rename_i hk
    obtain ⟨hl,q⟩:=xJ S (ra.rep k.toNat) h
    rw[zan] at hl
    have hlim:(lim:Int)=100000:=rfl
    exact .inr ⟨pa,k,va,rfl,rfl,ea,by lia,by lia,by rw[Nat.mul_comm];exact Nat.le_trans hl yY,q⟩
   .exact h.elim
  .exact h.elim
 .rename_i xs ys
  split at h
  .split at h
   .rename_i hc
    obtain ⟨pa,va,rfl,qa,ra⟩:=rep_tup.mp Rx
    obtain ⟨pb,vb,rfl,qb,rb⟩:=rep_tup.mp Ry
    have la:=ra.length
    have lb:=rb.length
    refine .inr (.inr ⟨pa,pb,va,vb,rfl,rfl,qa,qb,?_,?_,fun e=>?_,fun e p hp=>?_⟩)
    .rintro rfl
     cases xs with
     | nil=>simp at hc
     | cons x xs=>simp at la
    .rw[<- la,<- lb];exact Nat.le_trans hc.1 yY
    .subst e
     obtain rfl:ys=[]:=by
      cases ys with
      | nil=>rfl
      | cons y ys=>simp at lb
     refine h.ok S (rep_tup.mpr ⟨pa,va,rfl,qa,?_⟩)
     rw[List.append_nil];exact ra
    .obtain ⟨T,S',R'⟩:=S.tup hp (ra.append rb)
     exact h _ _ _ T S' R'
   .exact h.elim
  .exact h.elim
 .exact h.elim
end
end Mini
namespace Mini
open PySem PySem.Spec PyProof.Rows L2
open PySem.SeqAt
section
variable {X:Cx}{pins:List (Addr×Obj)}{σ:St}{s:Shared}{as:List Addr}{H:Hp}{m:Me}
theorem wV {a:Addr}{xs ys:List V}(I:Inv X pins σ H s)(h1:SqT X.K H a xs)(h2:SqL X.K H a ys):False:=by
 obtain ⟨its,_,p,_⟩:=I.tuple h1
 obtain ⟨its',_,q,_⟩:=I.list h2
 exact ne_of_list_tuple q.isList (show s.heap.IsTuple a its.toArray from p) rfl
theorem jD {a:Addr}{xs:List V}{u:HO}(I:Inv X pins σ H s)(h1:KL X.K a xs)(h2:H a=some u):False:=by
 obtain ⟨o,_,_,hk,_⟩:=h1
 have:=(I.bs a o (I.ok.mod.kin a o hk)).2
 rw[this] at h2;cases h2
mutual
theorem wW (I:Inv X pins σ H s)(S:Sim X.K as m H):∀ (w w':Wd) (v:V),Rep X.K as H w v->Rep X.K as H w' v->w=w'
 | .non,w',v,h,h'=>by
  obtain rfl:=rep_non.mp h
  cases w' with
  | non=>rfl
  | bl b=>cases rep_bl.mp h'
  | int i=>cases rep_int.mp h'
  | str x=>cases rep_str.mp h'
  | tup xs=>obtain ⟨_,_,e,_⟩:=rep_tup.mp h';cases e
  | rol xs=>obtain ⟨_,_,e,_⟩:=rep_rol.mp h';cases e
  | ref l=>obtain ⟨_,_,e⟩:=rep_ref.mp h';cases e
 | .bl c,w',v,h,h'=>by
  obtain rfl:=rep_bl.mp h
  cases w' with
  | non=>cases rep_non.mp h'
  | bl b=>cases rep_bl.mp h';rfl
  | int i=>cases rep_int.mp h'
  | str x=>cases rep_str.mp h'
  | tup xs=>obtain ⟨_,_,e,_⟩:=rep_tup.mp h';cases e
  | rol xs=>obtain ⟨_,_,e,_⟩:=rep_rol.mp h';cases e
  | ref l=>obtain ⟨_,_,e⟩:=rep_ref.mp h';cases e
 | .int c,w',v,h,h'=>by
  obtain rfl:=rep_int.mp h
  cases w' with
  | non=>cases rep_non.mp h'
  | bl b=>cases rep_bl.mp h'
  | int i=>cases rep_int.mp h';rfl
  | str x=>cases rep_str.mp h'
  | tup xs=>obtain ⟨_,_,e,_⟩:=rep_tup.mp h';cases e
  | rol xs=>obtain ⟨_,_,e,_⟩:=rep_rol.mp h';cases e
  | ref l=>obtain ⟨_,_,e⟩:=rep_ref.mp h';cases e
 | .str c,w',v,h,h'=>by
  obtain rfl:=rep_str.mp h
  cases w' with
  | non=>cases rep_non.mp h'
  | bl b=>cases rep_bl.mp h'
  | int i=>cases rep_int.mp h'
  | str x =>
   have e:=rep_str.mp h'
   injection e with e
   injection e with e
   have:c=x:=by simpa using congrArg Array.toList e
   rw[this]
  | tup xs=>obtain ⟨_,_,e,_⟩:=rep_tup.mp h';cases e
  | rol xs=>obtain ⟨_,_,e,_⟩:=rep_rol.mp h';cases e
  | ref l=>obtain ⟨_,_,e⟩:=rep_ref.mp h';cases e
 | .tup xs,w',v,h,h'=>by
  obtain ⟨a,vs,rfl,q,r⟩:=rep_tup.mp h
  cases w' with
  | non=>cases rep_non.mp h'
  | bl b=>cases rep_bl.mp h'
  | int i=>cases rep_int.mp h'
  | str x=>cases rep_str.mp h'
  | tup ys =>
   obtain ⟨b,us,e,q',r'⟩:=rep_tup.mp h'
   cases e
   obtain rfl:=I.tuple_inj q q'
   rw[repL_inj I S xs ys vs r r']
  | rol ys =>
   obtain ⟨b,us,e,q',r'⟩:=rep_rol.mp h'
   cases e
   exact (wV I q q'.sq).elim
  | ref l =>
   obtain ⟨b,hb,e⟩:=rep_ref.mp h'
   cases e
   obtain ⟨us,e2⟩:=S.isLst (List.mem_of_getElem? hb)
   exact (wV I q (SqL.of e2)).elim
 | .rol xs,w',v,h,h'=>by
  obtain ⟨a,vs,rfl,q,r⟩:=rep_rol.mp h
  cases w' with
  | non=>cases rep_non.mp h'
  | bl b=>cases rep_bl.mp h'
  | int i=>cases rep_int.mp h'
  | str x=>cases rep_str.mp h'
  | tup ys =>
   obtain ⟨b,us,e,q',r'⟩:=rep_tup.mp h'
   cases e
   exact (wV I q' q.sq).elim
  | rol ys =>
   obtain ⟨b,us,e,q',r'⟩:=rep_rol.mp h'
   cases e
   obtain rfl:=I.list_inj q.sq q'.sq
   rw[repL_inj I S xs ys vs r r']
  | ref l =>
   obtain ⟨b,hb,e⟩:=rep_ref.mp h'
   cases e
   obtain ⟨us,e2⟩:=S.isLst (List.mem_of_getElem? hb)
   rcases q with ⟨o,q⟩ | q
   .rw[e2] at q;cases q
   .exact (jD I q e2).elim
 | .ref l,w',v,h,h'=>by
  obtain ⟨a,ha,rfl⟩:=rep_ref.mp h
  obtain ⟨us,e2⟩:=S.isLst (List.mem_of_getElem? ha)
  cases w' with
  | non=>cases rep_non.mp h'
  | bl b=>cases rep_bl.mp h'
  | int i=>cases rep_int.mp h'
  | str x=>cases rep_str.mp h'
  | tup ys =>
   obtain ⟨b,us,e,q',r'⟩:=rep_tup.mp h'
   cases e
   exact (wV I q' (SqL.of e2)).elim
  | rol ys =>
   obtain ⟨b,us,e,q',r'⟩:=rep_rol.mp h'
   cases e
   rcases q' with ⟨o,q'⟩ | q'
   .rw[e2] at q';cases q'
   .exact (jD I q' e2).elim
  | ref l' =>
   obtain ⟨b,hb,e⟩:=rep_ref.mp h'
   cases e
   obtain ⟨i1,e1⟩:=List.getElem?_eq_some_iff.mp ha
   obtain ⟨i2,e2⟩:=List.getElem?_eq_some_iff.mp hb
   rw[(List.getElem_inj S.nd).mp (e1.trans e2.symm)]
theorem repL_inj (I:Inv X pins σ H s)(S:Sim X.K as m H):∀ (xs ys:List Wd) (vs:List V),RepL X.K as H xs vs->RepL X.K as H ys vs->xs=ys
 | [],ys,vs,h,h'=>by
  obtain rfl:=repL_nil.mp h
  cases ys with
  | nil=>rfl
  | cons y ys=>obtain ⟨_,_,e,_⟩:=repL_cons.mp h';cases e
 | x::xs,ys,vs,h,h'=>by
  obtain ⟨v,r,rfl,q,t⟩:=repL_cons.mp h
  cases ys with
  | nil=>cases repL_nil.mp h'
  | cons y ys =>
   obtain ⟨v',r',e,q',t'⟩:=repL_cons.mp h'
   cases e
   rw[wW I S x y v q q',repL_inj I S xs ys r t t']
end
theorem jX {p:Wd->Wd->Option Bool}:∀ {xs ys:List Wd}{r:Bool},eqL p xs ys=some r ->
  ∃f:Nat->Bool,(∀j x y,xs[j]?=some x->ys[j]?=some y->p x y=some (f j))/\r=(List.range (min xs.length ys.length)).all f
 | [],ys,r,h=>by
  unfold eqL at h
  cases h
  exact ⟨fun _=>true,fun j x y e=>by simp at e,by simp⟩
 | _::_,[],r,h=>by
  unfold eqL at h
  cases h
  exact ⟨fun _=>true,fun j x y _ e=>by simp at e,by simp⟩
 | x::xs,y::ys,r,h=>by
  unfold eqL at h
  cases hp:p x y with
  | none=>rw[hp] at h;cases h
  | some b =>
   rw[hp] at h
   simp only[] at h
   cases hr:eqL p xs ys with
   | none=>rw[hr] at h;cases h
   | some r' =>
    rw[hr] at h
    cases h
    obtain ⟨f,hf,e⟩:=jX (xs:=xs) (ys:=ys) hr
    refine ⟨fun j=>match j with | 0=>b | j+1=>f j,fun j x' y' e1 e2=>?_,?_⟩
    .cases j with
     | zero=>simp at e1 e2;subst e1;subst e2;exact hp
     | succ j=>exact hf j x' y' (by simpa using e1) (by simpa using e2)
    .rw[List.length_cons,List.length_cons,Nat.succ_min_succ,List.range_succ_eq_map,List.all_cons,List.all_map,e]
     rfl
theorem gN:∀ (k:Nat) (w:Wd) (r:Bool),eqW m k w w=some r->r=true
 | 0,w,r,h=>by cases h
 | k+1,w,r,h=>by
  cases w with
  | non=>cases h;rfl
  | bl b=>cases h;simp
  | int i=>cases h;simp
  | str x=>cases h;simp
  | tup xs =>
   replace h:(eqL (eqW m k) xs xs).map (· && decide (xs.length=xs.length))=some r:=h
   cases hr:eqL (eqW m k) xs xs with
   | none=>rw[hr] at h;cases h
   | some r' =>
    rw[hr] at h
    simp only[Option.map_some,decide_true,Bool.and_true] at h
    cases h
    obtain ⟨f,hf,rfl⟩:=jX hr
    rw[List.all_eq_true]
    intro j hj
    have hj':j < xs.length:=by simpa using hj
    exact gN k xs[j] (f j) (hf j xs[j] xs[j] (by simp[hj']) (by simp[hj']))
  | rol xs=>cases h
  | ref l =>
   replace h:(if l=l then (if isLst m l then some true else none) else match m[l]?,m[l]? with
    | some (.lst xs),some (.lst ys)=>if xs.length=ys.length then eqL (eqW m k) xs ys else some false
    | _,_=>none)=some r:=h
   simp only[if_true] at h
   split at h
   .cases h;rfl
   .cases h
structure Eqs (A:Around)(s:Shared)(u u':Value)(r:Bool):Prop where
 it:EqAt A s u u' r
 eq:RcAt A s u u' r
 ne:RcNeAt A s u u' (!r)
theorem isLst_of (S:Sim X.K as m H)(I:Inv X pins σ H s){l:Nat}{v:V}{u:Value}(h:isLst m l=true)(R:Rep X.K as H (.ref l) v)(ru:RelV v u):∃b its,u=.ref b/\s.heap.IsList b its:=by
 unfold isLst at h
 cases e:m[l]? with
 | none=>rw[e] at h;cases h
 | some o =>
  cases o with
  | dct kvs=>rw[e] at h;cases h
  | lst xs =>
   obtain ⟨b,hb,rfl⟩:=rep_ref.mp R
   obtain ⟨a,vs,ha,ea,ra⟩:=yn S e
   rw[hb] at ha;cases ha
   obtain rfl:u=.ref b:=ru
   obtain ⟨its,_,p,_⟩:=I.list (SqL.of ea)
   exact ⟨b,_,rfl,p.isList⟩
theorem wJ (I:Inv X pins σ H s){xs:List Wd}{v:V}{u:Value}(R:Rep X.K as H (.tup xs) v)(ru:RelV v u):∃b vs its,v=.ref b/\u=.ref b/\RepL X.K as H xs vs/\Vals vs its/\s.heap.IsTuple b its.toArray:=by
 obtain ⟨b,vs,rfl,q,r⟩:=rep_tup.mp R
 obtain rfl:u=.ref b:=ru
 obtain ⟨its,rv,p,_⟩:=I.tuple q
 exact ⟨b,vs,its,rfl,rfl,r,rv,p⟩
set_option tactic.hygienic true in
theorem zat (I:Inv X pins σ H s)(S:Sim X.K as m H):∀ (k:Nat) (A:Around) (w w':Wd) (v v':V) (u u':Value) (r:Bool),A.units+k < cLine->eqW m k w w'=some r ->
  Rep X.K as H w v->Rep X.K as H w' v'->RelV v u->RelV v' u'->Eqs A s u u' r
 | 0,_,_,_,_,_,_,_,_,_,h,_,_,_,_=>by cases h
 | k+1,A,w,w',v,v',u,u',r,hu,h,R,R',ru,ru'=>by
  have hu0:A.units < cLine:=by lia
  have hu1:A.in1.units+k < cLine:=by show A.units+1+k < cLine;lia
  -- items,pair by pair
  have pairs:∀ {xs ys:List Wd}{vs us:List V}{its its':List Value}{r:Bool},RepL X.K as H xs vs->RepL X.K as H ys us->Vals vs its->Vals us its'->eqL (eqW m k) xs ys=some r ->
    ∃f:Nat->Bool,(∀j (h1:j < its.toArray.size) (h2:j < its'.toArray.size),EqAt A.in1 s its.toArray[j] its'.toArray[j] (f j))/\r=(List.range (min its.toArray.size its'.toArray.size)).all f/\its.toArray.size=xs.length/\its'.toArray.size=ys.length:=by
   intro xs ys vs us its its' r r1 r2 rv rv' he
   obtain ⟨f,hf,e⟩:=jX he
   have l1:=r1.length
   have l2:=r2.length
   have l3:=rv.length
   have l4:=rv'.length
   have s1:its.toArray.size=xs.length:=by simp;lia
   have s2:its'.toArray.size=ys.length:=by simp;lia
   refine ⟨f,fun j h1 h2=>?_,by rw[e,s1,s2],s1,s2⟩
   have hj:j < xs.length:=by lia
   have hj2:j < ys.length:=by lia
   obtain ⟨v1,e1,q1⟩:=r1.get (i:=j) (x:=xs[j]) (by simp[hj])
   obtain ⟨v2,e2,q2⟩:=r2.get (i:=j) (x:=ys[j]) (by simp[hj2])
   obtain ⟨u1,e3,q3⟩:=rv.get e1
   obtain ⟨u2,e4,q4⟩:=rv'.get e2
   have z:=zat I S k A.in1 xs[j] ys[j] v1 v2 u1 u2 (f j) hu1 (hf j _ _ (by simp[hj]) (by simp[hj2])) q1 q2 q3 q4
   obtain ⟨_,e5⟩:=List.getElem?_eq_some_iff.mp e3
   obtain ⟨_,e6⟩:=List.getElem?_eq_some_iff.mp e4
   have g1:its.toArray[j]=u1:=by simpa using e5
   have g2:its'.toArray[j]=u2:=by simpa using e6
   rw[g1,g2]
   exact z.it
  cases w with
  | tup xs =>
   obtain ⟨b,vs,its,rfl,rfl,r1,rv,p⟩:=wJ I R ru
   cases w' with
   | tup ys =>
    obtain ⟨b',vs',its',rfl,rfl,r1',rv',p'⟩:=wJ I R' ru'
    have rc:RcAt A s (.ref b) (.ref b') r/\RcNeAt A s (.ref b) (.ref b') (!r):=by
     replace h:(eqL (eqW m k) xs ys).map (· && decide (xs.length=ys.length))=some r:=h
     cases hr:eqL (eqW m k) xs ys with
     | none=>rw[hr] at h;cases h
     | some r' =>
      rw[hr] at h
      simp only[Option.map_some] at h
      cases h
      obtain ⟨f,hf,e,z1,z2⟩:=pairs r1 r1' rv rv' hr
      have e2:((List.range (min its.toArray.size its'.toArray.size)).all f && its.toArray.size == its'.toArray.size)=(r' && decide (xs.length=ys.length)):=by
       rw[e,z1,z2]
       congr 1
      exact ⟨e2▸RcAt.tuples p p' hu0 hf,e2▸RcNeAt.tuples p p' hu0 hf⟩
    refine ⟨?_,rc.1,rc.2⟩
    by_cases hb:b=b'
    .subst hb
     have e:=wW I S _ _ _ R R'
     rw[<- e] at h
     obtain rfl:=gN _ _ _ h
     exact EqAt.same _
    .exact EqAt.of_refs hb rc.1
   | ref l =>
    replace h:(if isLst m l && true then some false else none)=some r:=h
    split at h
    .rename_i hl
     cases h
     obtain ⟨b',its',rfl,q⟩:=isLst_of S I (Bool.and_eq_true_iff.mp hl).1 R' ru'
     exact ⟨EqAt.tuple_list p q hu0,RcAt.tuple_list p q hu0,RcNeAt.tuple_list p q hu0⟩
    .cases h
   | rol ys=>cases h
   | non =>
    cases h
    obtain rfl:=rep_non.mp R'
    obtain rfl:u'=.none:=ru'
    exact ⟨EqAt.tuple_none p hu0,RcAt.tuple_none p hu0,RcNeAt.tuple_none p hu0⟩
   | bl c =>
    cases h
    obtain rfl:=rep_bl.mp R'
    obtain rfl:u'=.bool c:=ru'
    exact ⟨EqAt.tuple_bool c p hu0,RcAt.tuple_bool c p hu0,RcNeAt.tuple_bool c p hu0⟩
   | int i =>
    cases h
    obtain rfl:=rep_int.mp R'
    obtain ⟨t,rfl⟩:=ru'
    exact ⟨EqAt.tuple_int i t p hu0,RcAt.tuple_int i t p hu0,RcNeAt.tuple_int i t p hu0⟩
   | str x =>
    cases h
    obtain rfl:=rep_str.mp R'
    obtain ⟨t,rfl⟩:=ru'
    exact ⟨EqAt.tuple_str _ t p hu0,RcAt.tuple_str _ t p hu0,RcNeAt.tuple_str _ t p hu0⟩
  | ref l =>
   cases w' with
   | ref l' =>
    obtain ⟨b,hb,rfl⟩:=rep_ref.mp R
    obtain ⟨b',hb',rfl⟩:=rep_ref.mp R'
    obtain rfl:u=.ref b:=ru
    obtain rfl:u'=.ref b':=ru'
    replace h:(if l=l' then (if isLst m l then some true else none) else match m[l]?,m[l']? with
     | some (.lst xs),some (.lst ys)=>if xs.length=ys.length then eqL (eqW m k) xs ys else some false
     | _,_=>none)=some r:=h
    by_cases hll:l=l'
    .subst hll
     rw[hb] at hb';cases hb'
     rw[if_pos rfl] at h
     split at h
     .rename_i hil
      cases h
      obtain ⟨c,its,ec,q⟩:=isLst_of S I hil R (u:=.ref b) rfl
      cases ec
      have al:(List.range its.size).all (fun _=>true)=true:=by simp
      have e1:=RcAt.lists (A:=A) (e:=fun _=>true) q q rfl hu0 (fun j h1 h2=>EqAt.same _)
      have e2:=RcNeAt.lists (A:=A) (e:=fun _=>true) q q rfl hu0 (fun j h1 h2=>EqAt.same _)
      rw[al] at e1 e2
      exact ⟨EqAt.same _,e1,e2⟩
     .cases h
    .rw[if_neg hll] at h
     have hbb:b≠b':=by
      rintro rfl
      obtain ⟨i1,e1⟩:=List.getElem?_eq_some_iff.mp hb
      obtain ⟨i2,e2⟩:=List.getElem?_eq_some_iff.mp hb'
      exact hll ((List.getElem_inj S.nd).mp (e1.trans e2.symm))
     split at h
     .rename_i xs ys m1 m2
      obtain ⟨a1,vs,h1,g1,r1⟩:=yn S m1
      rw[hb] at h1;cases h1
      obtain ⟨a2,us,h2,g2,r2⟩:=yn S m2
      rw[hb'] at h2;cases h2
      obtain ⟨its,rv,p,_⟩:=I.list (SqL.of g1)
      obtain ⟨its',rv',p',_⟩:=I.list (SqL.of g2)
      split at h
      .rename_i hl
       obtain ⟨f,hf,e,z1,z2⟩:=pairs r1 r2 rv rv' h
       have hsz:its.toArray.size=its'.toArray.size:=by rw[z1,z2,hl]
       rw[<- hsz,Nat.min_self] at e
       have e1:=RcAt.lists p.isList p'.isList hsz hu0 hf
       have e2:=RcNeAt.lists p.isList p'.isList hsz hu0 hf
       rw[<- e] at e1 e2
       exact ⟨EqAt.of_refs hbb e1,e1,e2⟩
      .rename_i hl
       cases h
       have l1:=r1.length
       have l2:=r2.length
       have l3:=rv.length
       have l4:=rv'.length
       have hsz:(its.toArray.size != its'.toArray.size)=true:=by
        simp
        lia
       have e1:=RcAt.lists_lengths (A:=A) p.isList p'.isList hsz hu0
       exact ⟨EqAt.of_refs hbb e1,e1,RcNeAt.lists_lengths p.isList p'.isList hsz hu0⟩
     .cases h
   | tup ys =>
    replace h:(if isLst m l && true then some false else none)=some r:=h
    split at h
    .rename_i hl
     cases h
     obtain ⟨b,its,rfl,q⟩:=isLst_of S I (Bool.and_eq_true_iff.mp hl).1 R ru
     obtain ⟨b',vs',its',rfl,rfl,r1',rv',p'⟩:=wJ I R' ru'
     exact ⟨EqAt.list_tuple q p' hu0,RcAt.list_tuple q p' hu0,RcNeAt.list_tuple q p' hu0⟩
    .cases h
   | rol ys =>
    replace h:(if isLst m l && false then some false else none)=some r:=h
    simp only[Bool.and_false,Bool.false_eq_true,if_false] at h
    cases h
   | non =>
    replace h:(if isLst m l && true then some false else none)=some r:=h
    split at h
    .rename_i hl
     cases h
     obtain ⟨b,its,rfl,q⟩:=isLst_of S I (Bool.and_eq_true_iff.mp hl).1 R ru
     obtain rfl:=rep_non.mp R'
     obtain rfl:u'=.none:=ru'
     exact ⟨EqAt.list_none q hu0,RcAt.list_none q hu0,RcNeAt.list_none q hu0⟩
    .cases h
   | bl c =>
    replace h:(if isLst m l && true then some false else none)=some r:=h
    split at h
    .rename_i hl
     cases h
     obtain ⟨b,its,rfl,q⟩:=isLst_of S I (Bool.and_eq_true_iff.mp hl).1 R ru
     obtain rfl:=rep_bl.mp R'
     obtain rfl:u'=.bool c:=ru'
     exact ⟨EqAt.list_bool c q hu0,RcAt.list_bool c q hu0,RcNeAt.list_bool c q hu0⟩
    .cases h
   | int i =>
    replace h:(if isLst m l && true then some false else none)=some r:=h
    split at h
    .rename_i hl
     cases h
     obtain ⟨b,its,rfl,q⟩:=isLst_of S I (Bool.and_eq_true_iff.mp hl).1 R ru
     obtain rfl:=rep_int.mp R'
     obtain ⟨t,rfl⟩:=ru'
     exact ⟨EqAt.list_int i t q hu0,RcAt.list_int i t q hu0,RcNeAt.list_int i t q hu0⟩
    .cases h
   | str x =>
    replace h:(if isLst m l && true then some false else none)=some r:=h
    split at h
    .rename_i hl
     cases h
     obtain ⟨b,its,rfl,q⟩:=isLst_of S I (Bool.and_eq_true_iff.mp hl).1 R ru
     obtain rfl:=rep_str.mp R'
     obtain ⟨t,rfl⟩:=ru'
     exact ⟨EqAt.list_str _ t q hu0,RcAt.list_str _ t q hu0,RcNeAt.list_str _ t q hu0⟩
    .cases h
  | rol xs =>
   cases w' <;> first | cases h | (replace h:(if isLst m _ && false then some false else none)=some r:=h;simp at h)
  | non =>
   obtain rfl:=rep_non.mp R
   obtain rfl:u=.none:=ru
   cases w' with
   | rol ys=>cases h
   | ref l =>
    replace h:(if isLst m l && true then some false else none)=some r:=h
    split at h
    .rename_i hl
     cases h
     obtain ⟨b,its,rfl,q⟩:=isLst_of S I (Bool.and_eq_true_iff.mp hl).1 R' ru'
     exact ⟨EqAt.none_list q hu0,RcAt.none_list q hu0,RcNeAt.none_list q hu0⟩
    .cases h
   | tup ys =>
    cases h
    obtain ⟨b',vs',its',rfl,rfl,r1',rv',p'⟩:=wJ I R' ru'
    exact ⟨EqAt.none_tuple p' hu0,RcAt.none_tuple p' hu0,RcNeAt.none_tuple p' hu0⟩
   | non =>
    cases h
    obtain rfl:=rep_non.mp R'
    obtain rfl:u'=.none:=ru'
    exact ⟨EqAt.same _,RcAt.none_none,RcNeAt.none_none⟩
   | bl c =>
    cases h
    obtain rfl:=rep_bl.mp R'
    obtain rfl:u'=.bool c:=ru'
    exact ⟨EqAt.none_bool c,RcAt.none_bool c,RcNeAt.none_bool c⟩
   | int i =>
    cases h
    obtain rfl:=rep_int.mp R'
    obtain ⟨t,rfl⟩:=ru'
    exact ⟨EqAt.none_int i t,RcAt.none_int i t,RcNeAt.none_int i t⟩
   | str x =>
    cases h
    obtain rfl:=rep_str.mp R'
    obtain ⟨t,rfl⟩:=ru'
    exact ⟨EqAt.none_str _ t,RcAt.none_str _ t,RcNeAt.none_str _ t⟩
  | bl c =>
   obtain rfl:=rep_bl.mp R
   obtain rfl:u=.bool c:=ru
   cases w' with
   | rol ys=>cases h
   | ref l =>
    replace h:(if isLst m l && true then some false else none)=some r:=h
    split at h
    .rename_i hl
     cases h
     obtain ⟨b,its,rfl,q⟩:=isLst_of S I (Bool.and_eq_true_iff.mp hl).1 R' ru'
     exact ⟨EqAt.bool_list c q hu0,RcAt.bool_list c q hu0,RcNeAt.bool_list c q hu0⟩
    .cases h
   | tup ys =>
    cases h
    obtain ⟨b',vs',its',rfl,rfl,r1',rv',p'⟩:=wJ I R' ru'
    exact ⟨EqAt.bool_tuple c p' hu0,RcAt.bool_tuple c p' hu0,RcNeAt.bool_tuple c p' hu0⟩
   | non =>
    cases h
    obtain rfl:=rep_non.mp R'
    obtain rfl:u'=.none:=ru'
    exact ⟨EqAt.bool_none c,RcAt.bool_none c,RcNeAt.bool_none c⟩
   | bl d =>
    cases h
    obtain rfl:=rep_bl.mp R'
    obtain rfl:u'=.bool d:=ru'
    exact ⟨EqAt.bool_bool c d,RcAt.bool_bool c d,RcNeAt.bool_bool c d⟩
   | int i =>
    cases h
    obtain rfl:=rep_int.mp R'
    obtain ⟨t,rfl⟩:=ru'
    have e:decide (b2i c=i)=((if c then (1:Int) else 0) == i):=by
     show decide ((if c then (1:Int) else 0)=i)=_
     rw[Bool.beq_eq_decide_eq]
    rw[e]
    exact ⟨EqAt.bool_int c i t,RcAt.bool_int c i t,RcNeAt.bool_int c i t⟩
   | str x =>
    cases h
    obtain rfl:=rep_str.mp R'
    obtain ⟨t,rfl⟩:=ru'
    exact ⟨EqAt.bool_str c _ t,RcAt.bool_str c _ t,RcNeAt.bool_str c _ t⟩
  | int i =>
   obtain rfl:=rep_int.mp R
   obtain ⟨t,rfl⟩:=ru
   cases w' with
   | rol ys=>cases h
   | ref l =>
    replace h:(if isLst m l && true then some false else none)=some r:=h
    split at h
    .rename_i hl
     cases h
     obtain ⟨b,its,rfl,q⟩:=isLst_of S I (Bool.and_eq_true_iff.mp hl).1 R' ru'
     exact ⟨EqAt.int_list i t q hu0,RcAt.int_list i t q hu0,RcNeAt.int_list i t q hu0⟩
    .cases h
   | tup ys =>
    cases h
    obtain ⟨b',vs',its',rfl,rfl,r1',rv',p'⟩:=wJ I R' ru'
    exact ⟨EqAt.int_tuple i t p' hu0,RcAt.int_tuple i t p' hu0,RcNeAt.int_tuple i t p' hu0⟩
   | non =>
    cases h
    obtain rfl:=rep_non.mp R'
    obtain rfl:u'=.none:=ru'
    exact ⟨EqAt.int_none i t,RcAt.int_none i t,RcNeAt.int_none i t⟩
   | bl d =>
    cases h
    obtain rfl:=rep_bl.mp R'
    obtain rfl:u'=.bool d:=ru'
    have e:decide (i=b2i d)=(i == (if d then (1:Int) else 0)):=by
     show decide (i=(if d then (1:Int) else 0))=_
     rw[Bool.beq_eq_decide_eq]
    rw[e]
    exact ⟨EqAt.int_bool i t d,RcAt.int_bool i t d,RcNeAt.int_bool i t d⟩
   | int j =>
    cases h
    obtain rfl:=rep_int.mp R'
    obtain ⟨t',rfl⟩:=ru'
    have e:decide (i=j)=(i == j):=by rw[Bool.beq_eq_decide_eq]
    rw[e]
    exact ⟨EqAt.int_int i t j t',RcAt.int_int i t j t',RcNeAt.int_int i t j t'⟩
   | str x =>
    cases h
    obtain rfl:=rep_str.mp R'
    obtain ⟨t',rfl⟩:=ru'
    exact ⟨EqAt.int_str i t _ t',RcAt.int_str i t _ t',RcNeAt.int_str i t _ t'⟩
  | str x =>
   obtain rfl:=rep_str.mp R
   obtain ⟨t,rfl⟩:=ru
   cases w' with
   | rol ys=>cases h
   | ref l =>
    replace h:(if isLst m l && true then some false else none)=some r:=h
    split at h
    .rename_i hl
     cases h
     obtain ⟨b,its,rfl,q⟩:=isLst_of S I (Bool.and_eq_true_iff.mp hl).1 R' ru'
     exact ⟨EqAt.str_list _ t q hu0,RcAt.str_list _ t q hu0,RcNeAt.str_list _ t q hu0⟩
    .cases h
   | tup ys =>
    cases h
    obtain ⟨b',vs',its',rfl,rfl,r1',rv',p'⟩:=wJ I R' ru'
    exact ⟨EqAt.str_tuple _ t p' hu0,RcAt.str_tuple _ t p' hu0,RcNeAt.str_tuple _ t p' hu0⟩
   | non =>
    cases h
    obtain rfl:=rep_non.mp R'
    obtain rfl:u'=.none:=ru'
    exact ⟨EqAt.str_none _ t,RcAt.str_none _ t,RcNeAt.str_none _ t⟩
   | bl d =>
    cases h
    obtain rfl:=rep_bl.mp R'
    obtain rfl:u'=.bool d:=ru'
    exact ⟨EqAt.str_bool _ t d,RcAt.str_bool _ t d,RcNeAt.str_bool _ t d⟩
   | int j =>
    cases h
    obtain rfl:=rep_int.mp R'
    obtain ⟨t',rfl⟩:=ru'
    exact ⟨EqAt.str_int _ t j t',RcAt.str_int _ t j t',RcNeAt.str_int _ t j t'⟩
   | str y =>
    cases h
    obtain rfl:=rep_str.mp R'
    obtain ⟨t',rfl⟩:=ru'
    have e:decide (x=y)=((⟨x.toArray⟩:Str) == ⟨y.toArray⟩):=by
     by_cases hxy:x=y
     .subst hxy;simp
     .have:¬(⟨x.toArray⟩:Str)=⟨y.toArray⟩:=fun z=>by
       injection z with z
       exact hxy (by simpa using congrArg Array.toList z)
      rw[decide_eq_false hxy]
      exact (beq_eq_false_iff_ne.mpr this).symm
    rw[e]
    exact ⟨EqAt.str_str _ t _ t',RcAt.str_str _ t _ t',RcNeAt.str_str _ t _ t'⟩
end
noncomputable def cK:Co->CmpOp
 | .eq=>.Eq | .ne=>.NotEq | .lt=>.Lt | .le=>.LtE | .gt=>.Gt | .ge=>.GtE | .isN=>.Is | .notN=>.IsNot | .isin=>.In | .notin=>.NotIn
def rC (K:PySem.W.Frag)(op:Co):R2:=fun x y H Q=>∃as m w w',Sim K as m H/\Rep K as H w x/\Rep K as H w' y/\Post K as H Q (cop op w w' m)
section
variable {X:Cx}
theorem kQ {K:PySem.W.Frag}{as:List Addr}{H:Hp}{m:Me}{Q:VK}{o:Option Bool}(S:Sim K as m H)(h:Post K as H Q (ofB o m)):∃b,o=some b/\Q (.bl b) H:=by
 cases o with
 | none=>exact h.elim
 | some b=>exact ⟨b,rfl,h.ok S (rep_bl.mpr rfl)⟩
theorem zau {p:Wd->Wd->Option Bool}{x:Wd}:∀ {ys:List Wd}{r:Bool},inL p x ys=some r ->
  ∃f:Wd->Bool,(∀y∈ys,p y x=some (f y))/\r=ys.any f
 | [],r,h=>by cases h;exact ⟨fun _=>false,fun y hy=>by simp at hy,rfl⟩
 | y::ys,r,h=>by
  unfold inL at h
  cases hp:p y x with
  | none=>rw[hp] at h;cases h
  | some b =>
   rw[hp] at h
   simp only[] at h
   cases hr:inL p x ys with
   | none=>rw[hr] at h;cases h
   | some r' =>
    rw[hr] at h
    cases h
    obtain ⟨f,hf,rfl⟩:=zau hr
    classical
    refine ⟨fun z=>(p z x).getD false,fun z hz=>?_,?_⟩
    .rcases List.mem_cons.mp hz with rfl | hz
     .simp only[hp,Option.getD_some]
     .simp only[hf z hz,Option.getD_some]
    .rw[List.any_cons,hp]
     congr 1
     refine Bool.eq_iff_iff.mpr ?_
     rw[List.any_eq_true,List.any_eq_true]
     constructor
     .rintro ⟨z,hz,e⟩
      exact ⟨z,hz,by rw[hf z hz];exact e⟩
     .rintro ⟨z,hz,e⟩
      rw[hf z hz] at e
      exact ⟨z,hz,e⟩
theorem wX {pins:List (Addr×Obj)}{σ:St}{s:Shared}{as:List Addr}{H:Hp}{m:Me}{A:Around}(I:Inv X pins σ H s)(S:Sim X.K as m H)(hu:A.units+yD < cLine){w:Wd}{v:V}{u:Value}{ys:List Wd}{vs:List V}{its:List Value}{r:Bool}
  (R:Rep X.K as H w v) (ru:RelV v u) (ry:RepL X.K as H ys vs) (rv:Vals vs its) (h:inL (eqW m yD) w ys=some r) :
  ∃e:Value->Bool,(∀y,y∈its.toArray->EqAt A s y u (e y))/\its.toArray.any e=r:=by
 obtain ⟨f,hf,rfl⟩:=zau h
 classical
 -- the plain value of an item
 have pick:∀y,y∈its->∃z,z∈ys/\∃vz,Rep X.K as H z vz/\RelV vz y:=fun y hy=>by
  obtain ⟨j,hj,rfl⟩:=List.mem_iff_getElem.mp hy
  have l1:=ry.length
  have l2:=rv.length
  have hj1:j < vs.length:=by lia
  obtain ⟨u1,e1,q1⟩:=rv.get (i:=j) (x:=vs[j]) (by simp[hj1])
  obtain ⟨z,e2,q2⟩:=ry.back (i:=j) (v:=vs[j]) (by simp[hj1])
  obtain ⟨_,e3⟩:=List.getElem?_eq_some_iff.mp e1
  exact ⟨z,List.mem_of_getElem? e2,vs[j],q2,by rw[e3];exact q1⟩
 let e:Value->Bool:=fun y=>if hy:y∈its then f (Classical.choose (pick y hy)) else false
 have he:∀y (hy:y∈its) z vz,z∈ys->Rep X.K as H z vz->RelV vz y->e y=f z:=fun y hy z vz hz hr hq=>by
  obtain ⟨h1,vz',h2,h3⟩:=Classical.choose_spec (pick y hy)
  have:e y=f (Classical.choose (pick y hy)):=dif_pos hy
  rw[this]
  have hv:vz'=vz:=h3.inj hq
  subst hv
  rw[wW I S _ _ _ h2 hr]
 refine ⟨e,fun y hy=>?_,?_⟩
 .have hy':y∈its:=by simpa using hy
  obtain ⟨z,hz,vz,q1,q2⟩:=pick y hy'
  rw[he y hy' z vz hz q1 q2]
  exact (zat I S yD A z w vz v y u (f z) hu (hf z hz) q1 R q2 ru).it
 .refine Bool.eq_iff_iff.mpr ?_
  rw[List.any_toArray,List.any_eq_true,List.any_eq_true]
  constructor
  .rintro ⟨y,hy,ey⟩
   obtain ⟨z,hz,vz,q1,q2⟩:=pick y hy
   rw[he y hy z vz hz q1 q2] at ey
   exact ⟨z,hz,ey⟩
  .rintro ⟨z,hz,ez⟩
   obtain ⟨j,hj,rfl⟩:=List.mem_iff_getElem.mp hz
   obtain ⟨v1,e1,q1⟩:=ry.get (i:=j) (x:=ys[j]) (by simp[hj])
   obtain ⟨u1,e2,q2⟩:=rv.get e1
   have hy:u1∈its:=List.mem_of_getElem? e2
   exact ⟨u1,hy,by rw[he u1 hy ys[j] v1 (List.getElem_mem hj) q1 q2];exact ez⟩
set_option tactic.hygienic true in
theorem jE (hu:X.A.units+64 < cLine)(op:Co):OpR X (compareOp (cK op)) (rC X.K op):=by
 intro pins s σ H x y v u Q I rx ry h
 obtain ⟨as,m,w,w',S,R,R',q⟩:=h
 have hd:yD=12:=rfl
 have fin:∀ {b:Bool},Q (.bl b) H->EP X pins σ Q (.bool b) s:=fun {b} q=>⟨.bl b,H,I,rfl,q⟩
 have cmpI:∀ {r:Int->Int->Bool},Post X.K as H Q (kO r w w' m)->∃i j,x=.int i/\y=.int j/\Q (.bl (r i j)) H:=fun {r} q=>by
  unfold kO at q
  cases w with
  | int i =>
   cases w' with
   | int j=>exact ⟨i,j,rep_int.mp R,rep_int.mp R',q.ok S (rep_bl.mpr rfl)⟩
   | _=>exact q.elim
  | _=>exact q.elim
 cases op with
 | eq =>
  obtain ⟨b,hb,q⟩:=kQ S q
  exact (zat I S yD X.A w w' x y v u b (by lia) hb R R' rx ry).eq X.prog X.w X.xe _ (fin q)
 | ne =>
  obtain ⟨b,hb,q⟩:=kQ S q
  obtain ⟨c,hc,rfl⟩:=Option.map_eq_some_iff.mp hb
  exact (zat I S yD X.A w w' x y v u c (by lia) hc R R' rx ry).ne X.prog X.w X.xe _ (fin q)
 | isin =>
  simp only[cop] at q
  split at q
  .rename_i ys hs
   obtain ⟨b,hb,q⟩:=kQ S q
   obtain ⟨p,vs,rfl,hq,r⟩:=vC S R' hs
   obtain rfl:u=.ref p:=ry
   rcases hq with hq | hq
   .obtain ⟨its,rv,pl,_⟩:=I.list hq
    obtain ⟨e,he,rfl⟩:=wX (A:=X.A.in1) I S (by show X.A.units+1+yD < cLine;lia) R rx r rv hb
    exact in_listAt e pl.isList he (fin q)
   .obtain ⟨its,rv,pl,_⟩:=I.tuple hq
    obtain ⟨e,he,rfl⟩:=wX (A:=X.A.in1) I S (by show X.A.units+1+yD < cLine;lia) R rx r rv hb
    exact in_tupleAt e (show s.heap.IsTuple p its.toArray from pl) he (fin q)
  .exact q.elim
 | notin =>
  simp only[cop] at q
  split at q
  .rename_i ys hs
   obtain ⟨b,hb,q⟩:=kQ S q
   obtain ⟨c,hc,rfl⟩:=Option.map_eq_some_iff.mp hb
   obtain ⟨p,vs,rfl,hq,r⟩:=vC S R' hs
   obtain rfl:u=.ref p:=ry
   rcases hq with hq | hq
   .obtain ⟨its,rv,pl,_⟩:=I.list hq
    obtain ⟨e,he,rfl⟩:=wX (A:=X.A.in1) I S (by show X.A.units+1+yD < cLine;lia) R rx r rv hc
    exact notIn_listAt e pl.isList he (fin q)
   .obtain ⟨its,rv,pl,_⟩:=I.tuple hq
    obtain ⟨e,he,rfl⟩:=wX (A:=X.A.in1) I S (by show X.A.units+1+yD < cLine;lia) R rx r rv hc
    exact notIn_tupleAt e (show s.heap.IsTuple p its.toArray from pl) he (fin q)
  .exact q.elim
 | isN =>
  refine zfA pins s σ H x y v u Q I rx ry ?_
  simp only[cop] at q
  split at q
  .exact ⟨rep_non.mp R',by rw[rep_non.mp R];exact q.ok S (rep_bl.mpr rfl)⟩
  .rename_i hne
   refine ⟨rep_non.mp R',?_⟩
   have:x≠.non:=fun z=>by
    subst z
    exact hne (wW I S _ _ _ R (rep_non.mpr rfl))
   rw[decide_eq_false this]
   exact q.ok S (rep_bl.mpr rfl)
  .exact q.elim
 | notN =>
  refine zdT pins s σ H x y v u Q I rx ry ?_
  simp only[cop] at q
  split at q
  .exact ⟨rep_non.mp R',by rw[rep_non.mp R];exact q.ok S (rep_bl.mpr rfl)⟩
  .rename_i hne
   refine ⟨rep_non.mp R',?_⟩
   have:x≠.non:=fun z=>by
    subst z
    exact hne (wW I S _ _ _ R (rep_non.mpr rfl))
   rw[decide_eq_false this]
   exact q.ok S (rep_bl.mpr rfl)
  .exact q.elim
 | lt=>exact zgN pins s σ H x y v u Q I rx ry (cmpI q)
 | le=>exact zgO pins s σ H x y v u Q I rx ry (cmpI q)
 | gt=>exact zgP pins s σ H x y v u Q I rx ry (cmpI (r:=fun i j=>decide (j < i)) q)
 | ge=>exact zgQ pins s σ H x y v u Q I rx ry (cmpI (r:=fun i j=>decide (j<=i)) q)
end
end Mini
namespace Mini
open PySem PySem.Spec PyProof.Rows L2
section
variable {K:PySem.W.Frag}{as:List Addr}{H H':Hp}{m m':Me}{Q:VK}{X:Cx}
noncomputable def zfO:Blf->Option (Str×Value)
 | .len=>some ("len",.builtin "len")
 | .int=>some ("int",.type "int")
 | .list=>some ("list",.type "list")
 | .tuple=>some ("tuple",.type "tuple")
 | .abs=>some ("abs",.builtin "abs")
 | .max2=>some ("max",.builtin "max")
 | .min2=>some ("min",.builtin "min")
 | .sum=>some ("sum",.builtin "sum")
 | .all=>some ("all",.builtin "all")
 | _=>none
def rBl (K:PySem.W.Frag)(b:Blf):List V->Hp->VK->Prop:=fun vs H Q=>∃as m ws,Sim K as m H/\RepL K as H ws vs/\Post K as H Q (wD b ws m)
theorem we {x:Wd}{vs:List V}(h:RepL K as H [x] vs):∃v,vs=[v]/\Rep K as H x v:=by
 obtain ⟨v,r,rfl,q,t⟩:=repL_cons.mp h
 obtain rfl:=repL_nil.mp t
 exact ⟨v,rfl,q⟩
theorem zcB {x y:Wd}{vs:List V}(h:RepL K as H [x,y] vs):∃v u,vs=[v,u]/\Rep K as H x v/\Rep K as H y u:=by
 obtain ⟨v,r,rfl,q,t⟩:=repL_cons.mp h
 obtain ⟨u,rfl,q'⟩:=we t
 exact ⟨v,u,rfl,q,q'⟩
theorem zg9 {w:Wd}{v:V}{xs:List Wd}(S:Sim K as m H)(R:Rep K as H w v)(h:zeg m w=some xs):∃p vs,v=.ref p/\SqL K H p vs/\RepL K as H xs vs:=by
 cases w with
 | rol ys =>
  cases h
  obtain ⟨a,vs,rfl,hq,rr⟩:=rep_rol.mp R
  exact ⟨a,vs,rfl,hq.sq,rr⟩
 | ref l =>
  obtain ⟨b,hb,rfl⟩:=rep_ref.mp R
  obtain ⟨a,vs,ha,e,r⟩:=yn S (zR h)
  rw[hb] at ha
  cases ha
  exact ⟨b,vs,rfl,SqL.of e,r⟩
 | _=>cases h
theorem zav:∀ {xs:List Wd}{vs:List V}{i:Bool},RepL K as H xs vs->zbp xs=some i->∃bs:List Bool,vs=bs.map V.bl/\bs.all id=i
 | [],vs,i,R,h=>by cases h;exact ⟨[],repL_nil.mp R,rfl⟩
 | x::xs,vs,i,R,h=>by
  obtain ⟨v,r,rfl,q,t⟩:=repL_cons.mp R
  cases x with
  | bl j =>
   simp only[zbp,Option.map_eq_some_iff] at h
   obtain ⟨k,hk,rfl⟩:=h
   obtain ⟨ns,rfl,rfl⟩:=zav t hk
   obtain rfl:=rep_bl.mp q
   exact ⟨j::ns,rfl,by simp⟩
  | _=>cases h
set_option tactic.hygienic true in
theorem zcC (hc:X.calm=true){b:Blf}{nm:Str}{f:Value}(hb:zfO b=some (nm,f)):CallR X f (rBl X.K b):=by
 intro pins s σ H xs us Q I r h
 obtain ⟨as,m,ws,S,R,q⟩:=h
 cases b with
 | len =>
  cases hb
  refine jR pins s σ H xs us Q I r ?_
  simp only[wD] at q
  split at q <;> try exact q.elim
  .rename_i x
   split at q
   .rename_i ys hs
    obtain ⟨v,rfl,q1⟩:=we R
    obtain ⟨p,vs,rfl,hq,rr⟩:=vC S q1 hs
    refine ⟨p,vs,rfl,hq,?_⟩
    rw[<- rr.length]
    exact q.ok S (rep_int.mpr rfl)
   .exact q.elim
 | int =>
  cases hb
  refine za2 pins s σ H xs us Q I r ?_
  simp only[wD] at q
  split at q <;> try exact q.elim
  .rename_i i
   obtain ⟨v,rfl,q1⟩:=we R
   obtain rfl:=rep_int.mp q1
   exact .inl ⟨i,rfl,q.ok S (rep_int.mpr rfl)⟩
  .rename_i i
   obtain ⟨v,rfl,q1⟩:=we R
   obtain rfl:=rep_bl.mp q1
   exact .inr ⟨i,rfl,q.ok S (rep_int.mpr rfl)⟩
 | list =>
  cases hb
  refine jS pins s σ H xs us Q I r ?_
  simp only[wD] at q
  split at q <;> try exact q.elim
  .rename_i x
   split at q
   .rename_i ys hs
    obtain ⟨v,rfl,q1⟩:=we R
    obtain ⟨p,vs,rfl,hq,rr⟩:=vC S q1 hs
    exact ⟨p,vs,rfl,hq,(xJ S rr q).2⟩
   .exact q.elim
 | tuple =>
  cases hb
  refine jl pins s σ H xs us Q I r ?_
  simp only[wD] at q
  split at q <;> try exact q.elim
  .rename_i x
   split at q
   .rename_i ys hs
    obtain ⟨v,rfl,q1⟩:=we R
    obtain ⟨p,vs,rfl,hq,rr⟩:=vC S q1 hs
    refine ⟨p,vs,rfl,?_⟩
    rcases hq with hq | hq
    .refine .inl ⟨hq,fun l hl=>?_⟩
     obtain ⟨T,S',R'⟩:=S.tup hl rr
     exact q _ _ _ T S' R'
    .exact .inr ⟨hq,q.ok S (rep_tup.mpr ⟨p,vs,rfl,hq,rr⟩)⟩
   .exact q.elim
 | abs=>exact q.elim
 | sum=>exact q.elim
 | all =>
  cases hb
  refine gF hc pins s σ H xs us Q I r ?_
  simp only[wD] at q
  split at q <;> try exact q.elim
  .rename_i x
   split at q
   .rename_i i hs
    obtain ⟨ys,h1,h2⟩:=Option.bind_eq_some_iff.mp hs
    obtain ⟨v,rfl,q1⟩:=we R
    obtain ⟨p,vs,rfl,hq,rr⟩:=zg9 S q1 h1
    obtain ⟨ns,rfl,rfl⟩:=zav rr h2
    exact ⟨p,ns,rfl,hq,q.ok S (rep_bl.mpr rfl)⟩
   .exact q.elim
 | max2 =>
  cases hb
  refine za0 hc pins s σ H xs us Q I r ?_
  simp only[wD] at q
  split at q <;> try exact q.elim
  .rename_i i j
   obtain ⟨v,u,rfl,q1,q2⟩:=zcB R
   obtain rfl:=rep_int.mp q1
   obtain rfl:=rep_int.mp q2
   exact ⟨i,j,rfl,q.ok S (rep_int.mpr rfl)⟩
 | min2 =>
  cases hb
  refine za1 hc pins s σ H xs us Q I r ?_
  simp only[wD] at q
  split at q <;> try exact q.elim
  .rename_i i j
   obtain ⟨v,u,rfl,q1,q2⟩:=zcB R
   obtain rfl:=rep_int.mp q1
   obtain rfl:=rep_int.mp q2
   exact ⟨i,j,rfl,q.ok S (rep_int.mpr rfl)⟩
 | _=>cases hb
set_option tactic.hygienic true in
theorem zfP {x y:Wd}{v u:V}(S:Sim K as m H)(R:Rep K as H x v)(R':Rep K as H y u)(h:Post K as H Q (vB x y m)):rIx K v u H Q:=by
 unfold vB at h
 split at h
 .rename_i i
  obtain rfl:=rep_int.mp R'
  split at h
  .rename_i xs hs
   split at h
   .rename_i w hw
    obtain ⟨p,vs,rfl,hq,rr⟩:=vC S R hs
    have e:∃z,atI vs i=some z/\Rep K as H w z:=by
     obtain ⟨j,hj,hx⟩:=Option.bind_eq_some_iff.mp hw
     obtain ⟨z,hz,rz⟩:=rr.get hx
     refine ⟨z,?_,rz⟩
     unfold atI
     have hj':ixN vs.length i=some j:=by rw[<- rr.length];exact hj
     rw[hj']
     exact hz
    obtain ⟨z,hz,rz⟩:=e
    rcases hq with hq | hq
    .exact .inl ⟨p,vs,i,z,rfl,rfl,hq,hz,h.ok S rz⟩
    .exact .inr (.inl ⟨p,vs,i,z,rfl,rfl,hq,hz,h.ok S rz⟩)
   .exact h.elim
  .exact h.elim
 .exact h.elim
set_option tactic.hygienic true in
theorem zfQ {o i w:Wd}{vo vi v:V}{Q:Hp->Prop}(S:Sim K as m H)(R:Rep K as H o vo)(R':Rep K as H i vi)(R2:Rep K as H w v)
  (h:∀m',wU o i w m=.ok .non m'->∀H',Step as H as H'->Sim K as m' H'->Q H') (hne:∃m',wU o i w m=.ok .non m'):gC vo vi v H Q:=by
 obtain ⟨m',hm'⟩:=hne
 have h:=h m' hm'
 unfold wU at hm'
 split at hm'
 .rename_i l k
  split at hm'
  .rename_i xs hl
   split at hm'
   .rename_i j hj
    cases hm'
    obtain ⟨a,ha,rfl⟩:=rep_ref.mp R
    obtain rfl:=rep_int.mp R'
    obtain ⟨b,vs,hb,e,rr⟩:=yn S hl
    rw[ha] at hb;cases hb
    obtain ⟨T,S'⟩:=S.set ha hl (rr.set j R2)
    refine ⟨a,vs,k,j,rfl,rfl,e,?_,h _ T S'⟩
    rw[<- rr.length]
    exact hj
   .cases hm'
  .cases hm'
 .cases hm'
noncomputable def mtV:Mth->Str×String
 | .append=>("append", "list.append") | .extend=>("extend", "list.extend") | .pop=>("pop", "list.pop") | .reverse=>("reverse", "list.reverse") | .clear=>("clear", "list.clear") | .insert=>("insert", "list.insert")
def rMt (K:PySem.W.Frag)(n:Mth):V->List V->Hp->VK->Prop:=fun v vs H Q=>∃as m w ws,Sim K as m H/\Rep K as H w v/\RepL K as H ws vs/\Post K as H Q (mtR n w ws m)
set_option tactic.hygienic true in
theorem zcD (n:Mth):MtR X (mtV n).2 (rMt X.K n):=by
 intro pins s σ H v vs u us Q I r rs h
 obtain ⟨as,m,w,ws,S,R,Rs,q⟩:=h
 unfold mtR at q
 split at q
 .rename_i l
  split at q
  .rename_i xs hl
   obtain ⟨a,ha,rfl⟩:=rep_ref.mp R
   obtain ⟨b,zs,hb,e,rr⟩:=yn S hl
   rw[ha] at hb;cases hb
   have hz:zs.length<=sizeLine:=(I.lstM e).1
   split at q
   .rename_i y
    split at q
    .rename_i hlt
     obtain ⟨z,rfl,rz⟩:=we Rs
     obtain ⟨T,S'⟩:=S.set ha hl (rr.append (.one rz))
     exact jy pins s σ H _ _ u us Q I r rs ⟨a,zs,z,rfl,rfl,e,by rw[<- rr.length];exact Nat.lt_of_lt_of_le hlt yY,q _ _ _ T S' (rep_non.mpr rfl)⟩
    .exact q.elim
   .split at q
    .rename_i y hy
     obtain rfl:=repL_nil.mp Rs
     obtain ⟨z,hz',rz⟩:=rr.get hy
     obtain ⟨T,S'⟩:=S.set ha hl rr.dropLast
     exact zfH pins s σ H _ _ u us Q I r rs ⟨a,zs,z,rfl,rfl,e,by rw[<- rr.length];exact hz',q _ _ _ T S' (rz.mono S T)⟩
    .exact q.elim
   .obtain rfl:=repL_nil.mp Rs
    obtain ⟨T,S'⟩:=S.set ha hl rr.reverse
    exact qy pins s σ H _ _ u us Q I r rs ⟨a,zs,rfl,rfl,e,q _ _ _ T S' (rep_non.mpr rfl)⟩
   .exact q.elim
  .exact q.elim
 .exact q.elim
noncomputable def tgT:Tg->String
 | .int => "int" | .bool => "bool" | .list => "list" | .tuple => "tuple" | .str => "str" | .dict => "dict"
theorem zeh (K:PySem.W.Frag)(t:Tg):
  PySem.W.kitOne K (.type "NoneType") (.type (tgT t))=some false/\PySem.W.kitOne K (.type "bool") (.type (tgT t))=some (decide (t=.bool\/t=.int))/\PySem.W.kitOne K (.type "int") (.type (tgT t))=some (decide (t=.int)) /\
  PySem.W.kitOne K (.type "str") (.type (tgT t))=some (decide (t=.str))/\PySem.W.kitOne K (.type "list") (.type (tgT t))=some (decide (t=.list))/\PySem.W.kitOne K (.type "tuple") (.type (tgT t))=some (decide (t=.tuple)):=by
 cases t <;> refine ⟨?_,?_,?_,?_,?_,?_⟩ <;> kernel_rfl
def rIsi (K:PySem.W.Frag)(t:Tg):List V->Hp->VK->Prop:=fun vs H Q=>∃as m w v,vs=[v,.ty (tgT t)]/\Sim K as m H/\Rep K as H w v/\Post K as H Q (ofB (isT t w m) m)
theorem zcE (t:Tg):CallR X (.builtin "isinstance") (rIsi X.K t):=by
 intro pins s σ H xs us Q I r h
 obtain ⟨as,m,w,v,rfl,S,R,q⟩:=h
 obtain ⟨b,hb,q⟩:=kQ S q
 obtain ⟨u,u',rfl,ru,ru'⟩:=zb7 r
 obtain rfl:u'=.type (tgT t):=ru'
 obtain ⟨k1,k2,k3,k4,k5,k6⟩:=zeh X.K t
 have fin:∀tk,EP X pins σ Q (.bool b) { s with toks:=tk }:=fun tk=>⟨.bl b,H,I.tok tk,rfl,q⟩
 cases w with
 | non =>
  obtain rfl:=rep_non.mp R
  have e:b=false:=by cases t <;> (cases hb;rfl)
  subst e
  exact xI I ru .non k1 fin
 | bl c =>
  obtain rfl:=rep_bl.mp R
  have e:b=decide (t=.bool\/t=.int):=by cases t <;> (cases hb;rfl)
  subst e
  exact xI I ru (.bl c) k2 fin
 | int i =>
  obtain rfl:=rep_int.mp R
  have e:b=decide (t=.int):=by cases t <;> (cases hb;rfl)
  subst e
  exact xI I ru (.int i) k3 fin
 | str x =>
  obtain rfl:=rep_str.mp R
  have e:b=decide (t=.str):=by cases t <;> (cases hb;rfl)
  subst e
  exact xI I ru (.str _) k4 fin
 | tup ys =>
  obtain ⟨a,vs,rfl,hq,rr⟩:=rep_tup.mp R
  have e:b=decide (t=.tuple):=by cases t <;> (cases hb;rfl)
  subst e
  obtain rfl:u=.ref a:=ru
  obtain ⟨its,_,⟨o,h1,h2,_⟩,_⟩:=I.tuple hq
  exact PySem.W.kia_one PySem.W.kitx_tuple I.kIn ⟨o,h1,h2⟩ k6 (fun z=>nomatch z) fin
 | rol ys =>
  obtain ⟨a,vs,rfl,hq,rr⟩:=rep_rol.mp R
  have e:b=decide (t=.list):=by cases t <;> (cases hb;rfl)
  subst e
  obtain rfl:u=.ref a:=ru
  obtain ⟨its,_,p,_⟩:=I.list hq.sq
  obtain ⟨o,n,h1,h2,_⟩:=p
  exact PySem.W.kia_one PySem.W.kitx_list I.kIn ⟨o,h1,h2⟩ k5 (fun z=>nomatch z) fin
 | ref l =>
  obtain ⟨a,ha,rfl⟩:=rep_ref.mp R
  obtain ⟨us,e2⟩:=S.isLst (List.mem_of_getElem? ha)
  have hl:∃ys,m[l]?=some (.lst ys):=by
   have hl:l < m.length:=by rw[<- S.len];exact (List.getElem?_eq_some_iff.mp ha).1
   have z:=S.obj l a m[l] ha (by simp[hl])
   cases e:m[l] with
   | lst ys=>exact ⟨ys,by rw[<- e];simp[hl]⟩
   | dct kvs=>rw[e] at z;exact z.elim
  obtain ⟨ys,hl⟩:=hl
  have e:b=decide (t=.list):=by
   have hb':(match m[l]? with | some (.lst _)=>some (decide (t=.list)) | some (.dct _)=>some (decide (t=.dict)) | none=>none)=some b:=by cases t <;> exact hb
   rw[hl] at hb'
   cases hb';rfl
  subst e
  exact xI I ru (.lst e2) k5 fin
end
structure SeqIt (J:It)(vs:List V)(ok:Hp->Prop):Prop where
 go:∀i H,ok H->i < vs.length->J.go i H
 yld:∀i H x H',ok H->i < vs.length->J.yld i H x H'->H'=H/\vs[i]?=some x
 stop:∀i H,ok H->vs.length<=i->J.stop i H
def zaw (K:PySem.W.Frag)(as:List Addr)(H:Hp)(J:It)(xs:List Wd):Prop :=
 ∃vs ok,SeqIt J vs ok/\ok H/\RepL K as H xs vs/\∀H1 H2,Kp K H1 H2->ok H1->ok H2
def zha (K:PySem.W.Frag)(as:List Addr)(H:Hp)(w:Wd)(J:It):Prop:=match w with
 | .tup xs=>zaw K as H J xs
 | .rol xs=>zaw K as H J xs
 | .ref l=>∃a,as[l]?=some a/\J=Itl K a
 | _=>True
def PostI (K:PySem.W.Frag)(as:List Addr)(H:Hp)(R:It->Hp->Prop)(r:Rz):Prop:=match r with
 | .ok w m'=>(xu m' w).isSome=true/\∀as' H' J,Step as H as' H'->Sim K as' m' H'->zha K as' H' w J->R J H'
 | _=>False
def iOf (K:PySem.W.Frag)(g:En->Me->Rz):TI:=fun σ H R=>∃as env m,Sim K as m H/\EnvRep K as H env σ/\PostI K as H R (g env m)
theorem PI.or {X:Cx}{tg e:Expr}{a b:TI}(h1:PI X tg e a)(h2:PI X tg e b):PI X tg e (fun σ H R=>a σ H R\/b σ H R):=fun pins s σ H R I h=>by
 rcases h with h | h
 .exact h1 pins s σ H R I h
 .exact h2 pins s σ H R I h
theorem PI.imp {X:Cx}{tg e:Expr}{a b:TI}(h:PI X tg e a)(k:∀σ H R,b σ H R->a σ H R):PI X tg e b:=fun pins s σ H R I q=>h pins s σ H R I (k σ H R q)
theorem vW {X:Cx}{tg x:Expr}{g:En->Me->Rz}(h:PE X x (tOf X.K g)):PI X tg x (iOf X.K g):=by
 refine PI.imp (PI.or (zdQ h) (zft h)) fun σ H R q=>?_
 obtain ⟨as,env,m,S,G,P⟩:=q
 cases hr:g env m with
 | no=>rw[hr] at P;exact P.elim
 | exc c w m'=>rw[hr] at P;exact P.elim
 | ok w m' =>
  rw[hr] at P
  obtain ⟨hs,P⟩:=P
  obtain ⟨xs,hs⟩:=Option.isSome_iff_exists.mp hs
  cases w with
  | tup ys =>
   refine .inr ⟨as,env,m,S,G,?_⟩
   rw[hr]
   intro as' H' v T S' R'
   obtain ⟨a,vs,rfl,hq,rr⟩:=rep_tup.mp R'
   refine ⟨a,rfl,⟨vs,hq⟩,P as' H' _ T S' ⟨vs,fun H=>SqT X.K H a vs,⟨fun i H h hi=>⟨vs,vs[i],h,by simp[hi]⟩,fun i H x H' h hi q=>⟨q.1,q.2 vs h⟩,fun i H h hi=>⟨vs,h,hi⟩⟩,hq,rr,fun H1 H2 k h=>k.t _ _ h⟩⟩
  | rol ys =>
   refine .inl ⟨as,env,m,S,G,?_⟩
   rw[hr]
   intro as' H' v T S' R'
   obtain ⟨a,vs,rfl,hq,rr⟩:=rep_rol.mp R'
   refine ⟨a,rfl,⟨vs,hq.sq⟩,P as' H' _ T S' ⟨vs,fun H=>SqF X.K H a vs,⟨fun i H h hi=>⟨vs,vs[i],h.sq,by simp[hi]⟩,fun i H x H' h hi q=>⟨q.1,q.2 vs h.sq⟩,fun i H h hi=>⟨vs,h.sq,hi⟩⟩,hq,rr,fun H1 H2 k h=>k.f _ _ h⟩⟩
  | ref l =>
   refine .inl ⟨as,env,m,S,G,?_⟩
   rw[hr]
   intro as' H' v T S' R'
   obtain ⟨a,ha,rfl⟩:=rep_ref.mp R'
   obtain ⟨us,e⟩:=S'.isLst (List.mem_of_getElem? ha)
   exact ⟨a,rfl,⟨us,SqL.of e⟩,P as' H' _ T S' ⟨a,ha,rfl⟩⟩
  | non=>cases hs
  | bl b=>cases hs
  | int i=>cases hs
  | str x=>cases hs
theorem wY {K:PySem.W.Frag}{as:List Addr}{H:Hp}(st:Int):∀ (n:Nat) (lo:Int),RepL K as H (gM lo st n) ((List.range n).map fun (i:Nat)=>V.int (lo+st * (i:Int)))
 | 0,lo=>repL_nil.mpr rfl
 | n+1,lo=>by
  rw[List.range_succ_eq_map,List.map_cons,List.map_map]
  refine repL_cons.mpr ⟨_,_,rfl,rep_int.mpr (by simp),?_⟩
  have e:((fun (i:Nat)=>V.int (lo+st * (i:Int))) ∘ Nat.succ)=fun (i:Nat)=>V.int (lo+st+st * (i:Int)):=by
   funext i
   show V.int (lo+st * ((i.succ:Nat):Int))=_
   congr 1
   rw[Nat.succ_eq_add_one,Int.natCast_add,Int.mul_add]
   lia
  rw[e]
  exact wY st n (lo+st)
theorem zbq {K:PySem.W.Frag}(lo:Int)(n:Nat):SeqIt (Itr lo n) ((List.range n).map fun (i:Nat)=>V.int (lo+1 * (i:Int))) (fun _=>True):=by
 refine ⟨fun i H _ hi=>?_,fun i H x H' _ hi q=>?_,fun i H _ hi=>?_⟩
 .show i < n
  simpa using hi
 .obtain ⟨e,rfl⟩:=q
  refine ⟨e,?_⟩
  have hi':i < n:=by simpa using hi
  rw[List.getElem?_map,List.getElem?_range hi']
  simp
 .show n<=i
  simpa using hi
set_option genInjectivity false in
structure Ctx where
 fns:List Str
 cons:List (Str×Int)
set_option genInjectivity false in
inductive Nd where
 | e (x:Expr) | a (xs:List Expr)
noncomputable def glB (sc:Scope)(x:Str):Bool:=decide (sc.names.lookup x=some .globalImplicit)
noncomputable def qH (sc:Scope)(x:Str):Bool:=decide (sc.names.lookup x=some .local) || (decide (sc.names.lookup x=some .cell) || decide (sc.names.lookup x=some .free))
noncomputable def zv (x:Str):Bool:=!(x == ("__debug__" : Str)) && !(x == ("__classdict__" : Str)) && !(x == ("__name__" : Str))
noncomputable def zn:Expr->Bool
 | .Starred _ _=>false
 | _=>true
noncomputable def xi:Expr->Bool
 | .Set _ _ _=>false
 | _=>true
noncomputable def yO:Expr->Bool
 | .Slice _ _ _ _=>false
 | _=>true
noncomputable def wZ:Expr->Bool
 | .Call _ _ _ _=>false
 | _=>true
noncomputable def zr:Ex->Bool
 | .rng _ _ _=>true
 | _=>false
noncomputable def w5:Ex->Bool
 | .ife _ _ _=>true
 | _=>false
noncomputable def w6 (scope sc:Scope):Scope :=
 { scope with names:=scope.names.map fun (n,k)=>if (k == .free && sc.kind == .function && sc.names.lookup n == some .cell) then (n,.cell) else (n,k) }
noncomputable def vE (sc:Scope)(N:List Str)(scope:Scope)(xs:List Str):Bool :=
 decide (scope.kind=.function) && (xs.all (fun x=>decide (scope.names.lookup x=some .local) || decide (scope.names.lookup x=some .cell)) &&
 (scope.names.all (fun y=>!(decide (y.2=.local)) || decide (scope.names.lookup y.1=some .local)) &&
 (scope.names.all (fun y=>!(decide (y.2=.free)) || (decide (sc.names.lookup y.1=some .cell) || decide (sc.names.lookup y.1=some .free))) &&
 (scope.names.all (fun y=>!(decide (y.2=.cell)) || !(decide (scope.names.lookup y.1=some .free))) &&
 (N.all (fun y=>decide (y∈xs) || (!(decide (scope.names.lookup y=some .local)) && !(decide (scope.names.lookup y=some .cell)))) &&
 (decide (xh N xs).Nodup && xs.all (fun x=>decide (scope.names.lookup (dum x)=none))))))))
theorem xK {X:Cx}{scope:Scope}{xs:List Str}(h:vE X.env.scope X.N scope xs=true):BlockOk X scope xs:=by
 unfold vE at h
 simp only[Bool.and_eq_true,Bool.or_eq_true,decide_eq_true_eq,List.all_eq_true,Bool.not_eq_true',decide_eq_false_iff_not] at h
 obtain ⟨h1,h2,h3,h4,h5,h6,h7,h8⟩:=h
 refine ⟨h1,h2,fun y hy e=>?_,fun y hy e=>?_,fun y hy e=>?_,fun y hy e=>?_,h7,h8⟩
 .rcases h3 y hy with z | z
  .exact absurd e z
  .exact z
 .rcases h4 y hy with z | z
  .exact absurd e z
  .exact z
 .rcases h6 y hy with z | z
  .exact absurd z e
  .exact z
 .rcases h5 y hy with z | z
  .exact absurd e z
  .exact z
def v6 (K:PySem.W.Frag)(g:List Wd->Me->Rz):Sp:=fun vs H Q _=>∃as m ws,Sim K as m H/\RepL K as H ws vs/\Post K as H Q (g ws m)
noncomputable def zu:List Str:=["len", "int", "bool", "list", "tuple", "abs", "max", "min", "isinstance", "range", "str", "dict", "sum", "all", "zip", "enumerate"]
structure CtxOk (C:Ctx)(X:Cx)(cl:Nat->List Wd->Me->Rz)(d:Nat):Prop where
 room:Room d X.A
 calm:X.calm=true
 fn:∀ (k:Nat) (nm:Str),C.fns[k]?=some nm->∃f fd ps,X.mg nm=some (.ref f)/\PySem.W.keepIn X.K (.ref f)=true/\Binds X.K fd ps []/\FnOk X.prog X.w X.K X.mg X.base CX0 d f fd ps (v6 X.K (cl k))
 con:∀ (nm:Str) (i:Int),C.cons.lookup nm=some i->∃t,X.mg nm=some (.int i t)
 blt:∀nm∈zu,X.mg nm=none
theorem CtxOk.comp {C:Ctx}{X Xc:Cx}{cl:Nat->List Wd->Me->Rz}{d:Nat}{scope:Scope}{x:List Str}(h:CtxOk C X cl d)(c:CompOf X scope x Xc):CtxOk C Xc cl d:=by
 refine ⟨by rw[c.A];exact h.room,c.calm,fun k nm e=>?_,fun nm i e=>?_,fun nm e=>?_⟩
 .obtain ⟨f,fd,ps,h1,h2,h3,h4⟩:=h.fn k nm e
  exact ⟨f,fd,ps,by rw[c.mg];exact h1,by rw[c.K];exact h2,by rw[c.K];exact h3,by rw[c.prog,c.w,c.K,c.mg,c.base];exact h4⟩
 .rw[c.mg];exact h.con nm i e
 .rw[c.mg];exact h.blt nm e
def PostA (K:PySem.W.Frag)(as:List Addr)(H:Hp)(Q:List V->Hp->Prop)(r:Rz):Prop:=match r with
 | .ok w m'=>∀as' H' vs,Step as H as' H'->Sim K as' m' H'->RepL K as' H' (zp w) vs->Q vs H'
 | _=>False
def v7 (K:PySem.W.Frag)(g:En->Me->Rz):TA:=fun σ H Q=>∃as env m,Sim K as m H/\EnvRep K as H env σ/\PostA K as H Q (g env m)
theorem PostA.bind {K:PySem.W.Frag}{as:List Addr}{H:Hp}{Q:VK}{Q1:List V->Hp->Prop}{r:Rz}{f:Wd->Me->Rz}(h:Post K as H Q (r.bind f))
  (k:∀w m' as' H' vs,Step as H as' H'->Sim K as' m' H'->RepL K as' H' (zp w) vs->Post K as' H' Q (f w m')->Q1 vs H'):PostA K as H Q1 r:=by
 cases r with
 | ok w m'=>exact fun as2 H2 v U S R=>k w m' as2 H2 v U S R (Post.step (r:=f w m') h U)
 | exc c w m'=>exact h
 | no=>exact h
def Snd (cl:Nat->List Wd->Me->Rz)(X:Cx)(e:Ex):Nd->Prop
 | .e x=>(zr e=false->PE X x (tOf X.K (evE cl e))/\(w5 e=false->PT X x (xt X.K (evE cl e)))/\(∀op vs pos,x=.BoolOp op vs pos->PW X x (xt X.K (evE cl e))))/\∀tg,PI X tg x (iOf X.K (evE cl e))
 | .a xs=>PA X xs (v7 X.K (evE cl e))
theorem Snd.of {cl:Nat->List Wd->Me->Rz}{X:Cx}{e:Ex}{x:Expr}(h:PE X x (tOf X.K (evE cl e)))(ht:∀whole,isTrue x X.env whole=(do let v <- whole;standAt x.pos;holding [v] (truthy v)):=by intro _;rfl)
  (hb:∀op vs pos,x≠.BoolOp op vs pos:=by intros;intro z;cases z):Snd cl X e (.e x) :=
 ⟨fun _=>⟨h,fun _=>qm h ht,fun op vs pos z=>absurd z (hb op vs pos)⟩,fun tg=>vW h⟩
theorem zi {e:Expr}{es:List Expr}{env:Env}(h:zn e=true):starEach (e::es) env=(false,eval e env)::starEach es env:=by
 cases e <;> first | rfl | cases h
theorem yh {pos:Pos}{env:Env}:∀ {es:List Expr},es.all zn=true->(backTo pos (starEach es env)).any (·.1)=false
 | [],_=>rfl
 | e::es,h=>by
  rw[List.all_cons,Bool.and_eq_true] at h
  rw[zi h.1]
  show (false || (backTo pos (starEach es env)).any (·.1))=false
  rw[yh h.2];rfl
section
variable {cl:Nat->List Wd->Me->Rz}{X:Cx}{a b c:Ex}{x y:Expr}{pos:Pos}
theorem zfR {op:Bo}(ha:PE X x (tOf X.K (evE cl a)))(hb:PE X y (tOf X.K (evE cl b))):PE X (.BinOp x (opK op) y pos) (tOf X.K (evE cl (.bin op a b))):=by
 refine PE.imp (zgI (zg8 op) ha hb) fun σ H Q h=>?_
 obtain ⟨as,env,m,S,G,P⟩:=h
 refine ⟨as,env,m,S,G,Post.bind P fun x m1 as1 H1 v T1 S1 R1 P1=>?_⟩
 refine ⟨as1,env,m1,S1,G.mono S T1,Post.bind P1 fun y m2 as2 H2 u T2 S2 R2 P2=>?_⟩
 exact zfN S2 (R1.mono S1 T2) R2 P2
theorem zfS (ha:PE X x (tOf X.K (evE cl a))):PE X (.UnaryOp .USub x pos) (tOf X.K (evE cl (.neg a))):=by
 refine PE.imp (zgJ zfz ha) fun σ H Q h=>?_
 obtain ⟨as,env,m,S,G,P⟩:=h
 refine ⟨as,env,m,S,G,Post.bind P fun x m1 as1 H1 v T1 S1 R1 P1=>?_⟩
 cases x with
 | int i =>
  obtain rfl:=rep_int.mp R1
  exact ⟨i,rfl,P1.ok S1 (rep_int.mpr rfl)⟩
 | _=>exact P1.elim
theorem zcF (ha:PE X x (tOf X.K (evE cl a))):PE X (.UnaryOp .Not x pos) (tOf X.K (evE cl (.not a))):=by
 refine PE.imp (zfn ha) fun σ H Q h=>?_
 obtain ⟨as,env,m,S,G,P⟩:=h
 refine ⟨as,env,m,S,G,Post.bind P fun x m1 as1 H1 v T1 S1 R1 P1=>?_⟩
 cases x with
 | bl k =>
  obtain rfl:=rep_bl.mp R1
  exact ⟨k,rfl,P1.ok S1 (rep_bl.mpr rfl)⟩
 | _=>exact P1.elim
theorem zfT (ha:PT X x (xt X.K (evE cl a))):PT X (.UnaryOp .Not x pos) (xt X.K (evE cl (.not a))):=by
 refine PT.imp (zbX ha) fun σ H Q h=>?_
 obtain ⟨as,env,m,S,G,P⟩:=h
 refine ⟨as,env,m,S,G,Post.bind P fun x m1 as1 H1 v T1 S1 R1 P1=>?_⟩
 cases x with
 | bl k =>
  obtain rfl:=rep_bl.mp R1
  obtain ⟨b,e,q⟩:=P1.ok S1 (rep_bl.mpr rfl)
  cases e
  exact ⟨k,rfl,q⟩
 | _=>exact P1.elim
theorem gO {K:PySem.W.Frag}{σ:St}{H:Hp}{Q:VK}(h:tOf K (evE cl (.and a b)) σ H Q):tOf K (evE cl a) σ H fun x H1=>∃k,x=.bl k/\if k=true then tOf K (evE cl b) σ H1 Q else Q (.bl false) H1:=by
 obtain ⟨as,env,m,S,G,P⟩:=h
 refine ⟨as,env,m,S,G,Post.bind P fun x m1 as1 H1 v T1 S1 R1 P1=>?_⟩
 cases x with
 | bl k =>
  obtain rfl:=rep_bl.mp R1
  refine ⟨k,rfl,?_⟩
  cases k with
  | true=>exact gD ⟨as1,env,m1,S1,G.mono S T1,P1⟩
  | false=>exact jT (P1.ok S1 (rep_bl.mpr rfl))
 | _=>exact P1.elim
theorem zax {K:PySem.W.Frag}{σ:St}{H:Hp}{Q:VK}(h:tOf K (evE cl (.or a b)) σ H Q):tOf K (evE cl a) σ H fun x H1=>∃k,x=.bl k/\if k=true then Q (.bl true) H1 else tOf K (evE cl b) σ H1 Q:=by
 obtain ⟨as,env,m,S,G,P⟩:=h
 refine ⟨as,env,m,S,G,Post.bind P fun x m1 as1 H1 v T1 S1 R1 P1=>?_⟩
 cases x with
 | bl k =>
  obtain rfl:=rep_bl.mp R1
  refine ⟨k,rfl,?_⟩
  cases k with
  | false=>exact jT ⟨as1,env,m1,S1,G.mono S T1,P1⟩
  | true=>exact gD (P1.ok S1 (rep_bl.mpr rfl))
 | _=>exact P1.elim
theorem gP {K:PySem.W.Frag}{g:En->Me->Rz}{σ:St}{H:Hp}{Q Q':VK}(h:tOf K g σ H Q)(k:∀v H,Q v H->Q' v H):tOf K g σ H Q':=by
 obtain ⟨as,env,m,S,G,P⟩:=h
 refine ⟨as,env,m,S,G,?_⟩
 cases hr:g env m with
 | ok w m'=>rw[hr] at P;exact fun as' H' v T S' R=>k _ _ (P as' H' v T S' R)
 | exc c w m'=>rw[hr] at P;exact P
 | no=>rw[hr] at P;exact P
theorem zcG {r:List Expr}(ha:PE X x (tOf X.K (evE cl a)))(hb:PE X (.BoolOp .And (y::r) pos) (tOf X.K (evE cl b))):PE X (.BoolOp .And (x::y::r) pos) (tOf X.K (evE cl (.and a b))) :=
 PE.imp (zfm ha hb) fun σ H Q h=>gO h
theorem zhb {r:List Expr}(ha:PE X x (tOf X.K (evE cl a)))(hb:PE X (.BoolOp .Or (y::r) pos) (tOf X.K (evE cl b))):PE X (.BoolOp .Or (x::y::r) pos) (tOf X.K (evE cl (.or a b))) :=
 PE.imp (zgz ha hb) fun σ H Q h=>zax h
theorem PW.imp {e:Expr}{t t':TT}(h:PW X e t)(k:∀σ H Q,t' σ H Q->t σ H Q):PW X e t':=fun whole pins s σ H Q I q=>h whole pins s σ H Q I (k σ H Q q)
theorem zcH {r:List Expr}(ha:PT X x (xt X.K (evE cl a)))(hb:PW X (.BoolOp .And (y::r) pos) (xt X.K (evE cl b))):PW X (.BoolOp .And (x::y::r) pos) (xt X.K (evE cl (.and a b))) :=
 PW.imp (zbW ha hb) fun σ H Q h=>by
  refine gP (gO h) fun v H1 q=>?_
  obtain ⟨k,e,q⟩:=q
  refine ⟨k,e,?_⟩
  cases k with
  | true=>rw[if_pos rfl] at q ⊢;exact q
  | false =>
   rw[if_neg Bool.false_ne_true] at q ⊢
   obtain ⟨b',e',q⟩:=q
   cases e'
   exact q
theorem zhc {r:List Expr}(ha:PT X x (xt X.K (evE cl a)))(hb:PW X (.BoolOp .Or (y::r) pos) (xt X.K (evE cl b))):PW X (.BoolOp .Or (x::y::r) pos) (xt X.K (evE cl (.or a b))) :=
 PW.imp (zgw ha hb) fun σ H Q h=>by
  refine gP (zax h) fun v H1 q=>?_
  obtain ⟨k,e,q⟩:=q
  refine ⟨k,e,?_⟩
  cases k with
  | false=>rw[if_neg Bool.false_ne_true] at q ⊢;exact q
  | true =>
   rw[if_pos rfl] at q ⊢
   obtain ⟨b',e',q⟩:=q
   cases e'
   exact q
theorem marks {op:CmpOp}{e:Expr}(h:xi e=true):behindInMarks op e=false:=by
 cases e <;> first | rfl | cases h
theorem gQ {K:PySem.W.Frag}{op:Co}{σ:St}{H:Hp}{Q:VK}(h:tOf K (evE cl (.cmp op a b)) σ H Q):tOp (rC K op) (tOf K (evE cl a)) (tOf K (evE cl b)) σ H Q:=by
 obtain ⟨as,env,m,S,G,P⟩:=h
 refine ⟨as,env,m,S,G,Post.bind P fun x m1 as1 H1 v T1 S1 R1 P1=>?_⟩
 refine ⟨as1,env,m1,S1,G.mono S T1,Post.bind P1 fun y m2 as2 H2 u T2 S2 R2 P2=>?_⟩
 exact ⟨as2,m2,x,y,S2,R1.mono S1 T2,R2,P2⟩
theorem zcI {op:Co}(hu:X.A.units+64 < cLine)(ha:PE X x (tOf X.K (evE cl a)))(hb:PE X y (tOf X.K (evE cl b)))(hs:xi y=true):PE X (.Compare x [cK op] [y] pos) (tOf X.K (evE cl (.cmp op a b))) :=
 PE.imp (zdU (jE hu op) ha hb (marks hs)) fun σ H Q h=>gQ h
theorem zfU {op:Co}(hu:X.A.units+64 < cLine)(ha:PE X x (tOf X.K (evE cl a)))(hb:PE X y (tOf X.K (evE cl b)))(hs:xi y=true):PT X (.Compare x [cK op] [y] pos) (xt X.K (evE cl (.cmp op a b))) :=
 PT.imp (zdV (jE hu op) ha hb (marks hs)) fun σ H Q h=>gQ h
end
section
variable {cl:Nat->List Wd->Me->Rz}{X:Cx}{a b c:Ex}{x y z:Expr}{pos:Pos}
theorem kR {K:PySem.W.Frag}{p q:Co}{σ:St}{H:Hp}{Q:VK}(h:tOf K (evE cl (.chain p q a b c)) σ H Q):qs (rC K p) (rC K q) (tOf K (evE cl a)) (tOf K (evE cl b)) (tOf K (evE cl c)) σ H Q:=by
 obtain ⟨as,env,m,S,G,P⟩:=h
 refine ⟨as,env,m,S,G,Post.bind P fun x m1 as1 H1 v T1 S1 R1 P1=>?_⟩
 refine ⟨as1,env,m1,S1,G.mono S T1,Post.bind P1 fun y m2 as2 H2 u T2 S2 R2 P2=>?_⟩
 refine ⟨as2,m2,x,y,S2,R1.mono S1 T2,R2,Post.bind P2 fun z m3 as3 H3 w T3 S3 R3 P3=>?_⟩
 cases z with
 | bl k =>
  obtain rfl:=rep_bl.mp R3
  refine ⟨k,rfl,?_⟩
  cases k with
  | false=>exact jT (P3.ok S3 (rep_bl.mpr rfl))
  | true =>
   refine gD ⟨as3,env,m3,S3,((G.mono S T1).mono S1 T2).mono S2 T3,Post.bind P3 fun t m4 as4 H4 r T4 S4 R4 P4=>?_⟩
   exact ⟨as4,m4,y,t,S4,(R2.mono S2 T3).mono S3 T4,R4,P4⟩
 | _=>exact P3.elim
theorem zcJ {o o':CmpOp}(h:xi z=true):lastMarks [o,o'] [y,z]=false:=by
 show behindInMarks o' z=false
 exact marks h
theorem gR {p q:Co}(hu:X.A.units+64 < cLine)(ha:PE X x (tOf X.K (evE cl a)))(hb:PE X y (tOf X.K (evE cl b)))(hc:PE X z (tOf X.K (evE cl c)))(hs:xi z=true):
  PE X (.Compare x [cK p,cK q] [y,z] pos) (tOf X.K (evE cl (.chain p q a b c))) :=
 PE.imp (zb5 (jE hu p) (jE hu q) ha hb hc (zcJ hs)) fun σ H Q h=>kR h
theorem zcK {p q:Co}(hu:X.A.units+64 < cLine)(ha:PE X x (tOf X.K (evE cl a)))(hb:PE X y (tOf X.K (evE cl b)))(hc:PE X z (tOf X.K (evE cl c)))(hs:xi z=true):
  PT X (.Compare x [cK p,cK q] [y,z] pos) (xt X.K (evE cl (.chain p q a b c))) :=
 PT.imp (zb6 (jE hu p) (jE hu q) ha hb hc (zcJ hs)) fun σ H Q h=>kR h
theorem zcL {K:PySem.W.Frag}{σ:St}{H:Hp}{Q:VK}(h:tOf K (evE cl (.ife c a b)) σ H Q):tIf (xt K (evE cl c)) (tOf K (evE cl a)) (tOf K (evE cl b)) σ H Q:=by
 obtain ⟨as,env,m,S,G,P⟩:=h
 refine ⟨as,env,m,S,G,Post.bind P fun x m1 as1 H1 v T1 S1 R1 P1=>?_⟩
 cases x with
 | bl k =>
  obtain rfl:=rep_bl.mp R1
  refine ⟨k,rfl,?_⟩
  cases k with
  | true=>exact gD ⟨as1,env,m1,S1,G.mono S T1,P1⟩
  | false=>exact jT ⟨as1,env,m1,S1,G.mono S T1,P1⟩
 | _=>exact P1.elim
theorem zfV (hc:PT X z (xt X.K (evE cl c)))(ha:PE X x (tOf X.K (evE cl a)))(hb:PE X y (tOf X.K (evE cl b))):PE X (.IfExp z x y pos) (tOf X.K (evE cl (.ife c a b))) :=
 PE.imp (zbZ hc ha hb) fun σ H Q h=>zcL h
theorem zei:PA X [] (v7 X.K (evE cl .unit)):=PA.imp yA fun σ H Q h=>by
 obtain ⟨as,env,m,S,G,P⟩:=h
 exact P as H [] .refl S (repL_nil.mpr rfl)
theorem zej {xs:List Expr}(ha:PE X x (tOf X.K (evE cl a)))(hb:PA X xs (v7 X.K (evE cl b)))(hs:zn x=true):PA X (x::xs) (v7 X.K (evE cl (.pair a b))):=by
 refine PA.imp (zy ha hb (zi hs)) fun σ H Q h=>?_
 obtain ⟨as,env,m,S,G,P⟩:=h
 refine ⟨as,env,m,S,G,?_⟩
 have P':PostA X.K as H Q ((evE cl a env m).bind fun x m1=>(evE cl b env m1).bind fun y m2=>.ok (.tup (x::zp y)) m2):=P
 cases hr:evE cl a env m with
 | no=>rw[hr] at P';exact P'
 | exc c w m'=>rw[hr] at P';exact P'
 | ok w m1 =>
  rw[hr] at P'
  intro as1 H1 v T1 S1 R1
  refine ⟨as1,env,m1,S1,G.mono S T1,?_⟩
  simp only[Rz.bind] at P'
  cases hr2:evE cl b env m1 with
  | no=>rw[hr2] at P';exact P'
  | exc c w' m'=>rw[hr2] at P';exact P'
  | ok w' m2 =>
   rw[hr2] at P'
   intro as2 H2 vs T2 S2 R2
   exact P' as2 H2 (v::vs) (T1.trans T2) S2 (repL_cons.mpr ⟨v,vs,rfl,R1.mono S1 T2,R2⟩)
theorem zek {C:Ctx}{d k:Nat}{nm:Str}{p:Pos}{xs:List Expr}(hC:CtxOk C X cl d)(hk:C.fns[k]?=some nm)(hg:X.env.scope.names.lookup nm=some .globalImplicit)(hn:zv nm=true)
  (hs:(x::xs).all zn=true) (ha:PA X (x::xs) (v7 X.K (evE cl a))):PE X (.Call (.Name nm p) (x::xs) [] pos) (tOf X.K (evE cl (.call k a))):=by
 obtain ⟨f,fd,ps,h1,h2,h3,h4⟩:=hC.fn k nm hk
 have hs':=hs
 rw[List.all_cons,Bool.and_eq_true] at hs'
 have hdb:(nm == ("__debug__" : Str))=false:=by
  unfold zv at hn
  simp only[Bool.and_eq_true,Bool.not_eq_true'] at hn
  exact hn.1.1
 refine PE.imp (zdY h4 hC.room hg h1 h2 h3 .nil (zg1 (X:=X)) ha hdb (zi hs'.1) (yh hs'.2)) fun σ H Q h=>?_
 obtain ⟨as,env,m,S,G,P⟩:=h
 refine ⟨as,env,m,S,G,PostA.bind P fun w m1 as1 H1 vs T1 S1 R1 P1=>?_⟩
 refine ⟨as1,m1,zp w,S1,?_,P1⟩
 rw[List.append_nil]
 exact R1
theorem vF {nm:Str}(hn:zv nm=true):(nm == ("__debug__" : Str))=false/\(nm == ("__classdict__" : Str))=false/\nm ≠ "__name__" := by
 unfold zv at hn
 simp only[Bool.and_eq_true,Bool.not_eq_true'] at hn
 exact ⟨hn.1.1,hn.1.2,by simpa using hn.2⟩
theorem zfW {C:Ctx}{d:Nat}{bf:Blf}{nm:Str}{f:Value}{p:Pos}{xs:List Expr}(hC:CtxOk C X cl d)(hb:zfO bf=some (nm,f))(hg:X.env.scope.names.lookup nm=some .globalImplicit)(hn:zv nm=true)
  (hs:(x::xs).all zn=true) (ha:PA X (x::xs) (v7 X.K (evE cl a))):PE X (.Call (.Name nm p) (x::xs) [] pos) (tOf X.K (evE cl (.blt bf a))):=by
 obtain ⟨n1,n2,n3⟩:=vF hn
 have hs':=hs
 rw[List.all_cons,Bool.and_eq_true] at hs'
 have hc:=zcC hC.calm hb
 have go:PE X (.Call (.Name nm p) (x::xs) [] pos) (tCB (rBl X.K bf) (v7 X.K (evE cl a))):=by
  cases bf with
  | len=>cases hb;exact yM hc hg (hC.blt _ (by simp[zu])) PySem.boot_len ha n3 n1 (zi hs'.1) (yh hs'.2)
  | int=>cases hb;exact vx hc hg (hC.blt _ (by simp[zu])) PyProof.Rows.boot_int ha n3 n1 (zi hs'.1) (yh hs'.2)
  | list=>cases hb;exact vx hc hg (hC.blt _ (by simp[zu])) PyProof.Rows.boot_list ha n3 n1 (zi hs'.1) (yh hs'.2)
  | tuple=>cases hb;exact vx hc hg (hC.blt _ (by simp[zu])) PyProof.Rows.boot_tuple ha n3 n1 (zi hs'.1) (yh hs'.2)
  | abs=>cases hb;exact yM hc hg (hC.blt _ (by simp[zu])) PyProof.Rows.boot_abs ha n3 n1 (zi hs'.1) (yh hs'.2)
  | max2=>cases hb;exact yM hc hg (hC.blt _ (by simp[zu])) PyProof.Rows.boot_max ha n3 n1 (zi hs'.1) (yh hs'.2)
  | sum=>cases hb;exact yM hc hg (hC.blt _ (by simp[zu])) PyProof.Rows.boot_sum ha n3 n1 (zi hs'.1) (yh hs'.2)
  | all=>cases hb;exact yM hc hg (hC.blt _ (by simp[zu])) PyProof.Rows.boot_all ha n3 n1 (zi hs'.1) (yh hs'.2)
  | min2=>cases hb;exact yM hc hg (hC.blt _ (by simp[zu])) PyProof.Rows.boot_min ha n3 n1 (zi hs'.1) (yh hs'.2)
  | _=>cases hb
 refine PE.imp go fun σ H Q h=>?_
 obtain ⟨as,env,m,S,G,P⟩:=h
 refine ⟨as,env,m,S,G,PostA.bind P fun w m1 as1 H1 vs T1 S1 R1 P1=>?_⟩
 exact ⟨as1,m1,zp w,S1,R1,P1⟩
theorem zel (t:Tg):bootBuiltins (Str.ofString (tgT t))=some (.type (tgT t)):=by
 cases t <;> decide +kernel
theorem zfX {C:Ctx}{d:Nat}{t:Tg}{p p':Pos}(hC:CtxOk C X cl d)(hg:X.env.scope.names.lookup ("isinstance" : Str)=some .globalImplicit)(hg':X.env.scope.names.lookup (Str.ofString (tgT t))=some .globalImplicit)
  (hs:zn x=true) (ha:PE X x (tOf X.K (evE cl a))):PE X (.Call (.Name "isinstance" p) [x,.Name (Str.ofString (tgT t)) p'] [] pos) (tOf X.K (evE cl (.isi t a))):=by
 have hm:X.mg (Str.ofString (tgT t))=none:=hC.blt _ (by cases t <;> decide +kernel)
 have hty:PE X (.Name (Str.ofString (tgT t)) p') (tC (.ty (tgT t))):=zdN hg' hm (zel t) rfl (by cases t <;> decide +kernel) (by cases t <;> decide +kernel)
 refine PE.imp (yM (zcE t) hg (hC.blt _ (by simp[zu])) PyProof.Rows.boot_isinstance (zy ha (zy hty yA) (zi hs)) (by decide +kernel) (by decide +kernel) (zi hs) rfl) fun σ H Q h=>?_
 obtain ⟨as,env,m,S,G,P⟩:=h
 refine ⟨as,env,m,S,G,Post.bind P fun w m1 as1 H1 v T1 S1 R1 P1=>?_⟩
 exact ⟨as1,m1,w,v,rfl,S1,R1,P1⟩
theorem zfY {xs:List Expr}(ha:PA X xs (v7 X.K (evE cl a))):PE X (.List xs pos) (tOf X.K (evE cl (.lst a))):=by
 refine PE.imp (zfB ha) fun σ H Q h=>?_
 obtain ⟨as,env,m,S,G,P⟩:=h
 refine ⟨as,env,m,S,G,PostA.bind P fun w m1 as1 H1 vs T1 S1 R1 P1=>?_⟩
 obtain ⟨h1,h2⟩:=xJ S1 R1 P1
 exact ⟨Nat.le_trans h1 yY,h2⟩
theorem zfZ {xs:List Expr}{k:Nat}(ha:PA X xs (v7 X.K (evE cl a))):PE X (.Tuple xs k pos) (tOf X.K (evE cl (.tup a))):=by
 refine PE.imp (kF ha) fun σ H Q h=>?_
 obtain ⟨as,env,m,S,G,P⟩:=h
 refine ⟨as,env,m,S,G,PostA.bind P fun w m1 as1 H1 vs T1 S1 R1 P1=>?_⟩
 split at P1
 .rename_i hl
  refine ⟨by rw[<- R1.length];exact Nat.le_trans hl yY,fun p hp=>?_⟩
  obtain ⟨T,S',R'⟩:=S1.tup hp R1
  exact P1 _ _ _ T S' R'
 .exact P1.elim
theorem zf0 (ha:PE X x (tOf X.K (evE cl a)))(hb:PE X y (tOf X.K (evE cl b)))(hs:yO y=true):PE X (.Subscript x y pos) (tOf X.K (evE cl (.idx a b))):=by
 have hp:zam y:=fun o i=>by cases y <;> first | rfl | cases hs
 refine PE.imp (zgT zfF ha hb hp) fun σ H Q h=>?_
 obtain ⟨as,env,m,S,G,P⟩:=h
 refine ⟨as,env,m,S,G,Post.bind P fun x m1 as1 H1 v T1 S1 R1 P1=>?_⟩
 refine ⟨as1,env,m1,S1,G.mono S T1,Post.bind P1 fun y m2 as2 H2 u T2 S2 R2 P2=>?_⟩
 exact zfP S2 (R1.mono S1 T2) R2 P2
end
section
variable {cl:Nat->List Wd->Me->Rz}{X:Cx}{a b c:Ex}{x y z:Expr}{pos:Pos}
set_option tactic.hygienic true in
theorem zhd {K:PySem.W.Frag}{as:List Addr}{H:Hp}{m:Me}{Q:VK}{w:Wd}{v:V}{lo hi:Option Int}(S:Sim K as m H)(R:Rep K as H w v)(h:Post K as H Q (slR w lo hi m)):zgX K v lo hi H Q:=by
 have hs:∀ (n d:Nat) (o:Option Int),sIx n d o=HT.sIx n d o:=fun n d o=>by cases o <;> rfl
 unfold slR at h
 split at h
 .rename_i xs hx
  have hsq:xu m w=some xs:=by
   cases w with
   | rol ys=>exact hx
   | ref l=>exact hx
   | _=>cases hx
  have key:∃p vs,v=.ref p/\SqL K H p vs/\RepL K as H xs vs:=by
   cases w with
   | rol ys =>
    cases hx
    obtain ⟨p,vs,rfl,q,r⟩:=rep_rol.mp R
    exact ⟨p,vs,rfl,q.sq,r⟩
   | ref l =>
    obtain ⟨p,hp,rfl⟩:=rep_ref.mp R
    obtain ⟨p',vs,hp',e,r⟩:=yn S (zR hx)
    rw[hp] at hp';cases hp'
    exact ⟨p,vs,rfl,SqL.of e,r⟩
   | _=>cases hx
  obtain ⟨p,vs,rfl,q,r⟩:=key
  refine ⟨p,vs,rfl,q,?_⟩
  have e:(vs.drop (sIx xs.length 0 lo)).take (sIx xs.length xs.length hi - sIx xs.length 0 lo)=za4 vs lo hi:=by
   unfold za4
   rw[r.length,hs,hs]
  rw[<- e]
  exact (xJ S ((r.drop _).take _) h).2
 .exact h.elim
theorem zf1 {p2:Pos}(ha:PE X x (tOf X.K (evE cl a)))(hb:PE X y (tOf X.K (evE cl b))):PE X (.Subscript x (.Slice (some y) none none p2) pos) (tOf X.K (evE cl (.slL a b))):=by
 refine PE.imp (zb9 zd4 ha (zd2 hb) zd1) fun σ H Q h=>?_
 obtain ⟨as,env,m,S,G,P⟩:=h
 refine ⟨as,env,m,S,G,Post.bind P fun x m1 as1 H1 v T1 S1 R1 P1=>?_⟩
 refine ⟨as1,env,m1,S1,G.mono S T1,Post.bind P1 fun y m2 as2 H2 u T2 S2 R2 P2=>?_⟩
 cases y with
 | int i=>exact ⟨i,rep_int.mp R2,zhd S2 (R1.mono S1 T2) P2⟩
 | _=>exact P2.elim
theorem base_of {e:Expr}{f:Str}{env:Env}(h:wZ e=true):attributeBase e f env (eval e env)=eval e env:=by
 cases e <;> first | rfl | cases h
theorem zf2 {cp:Pos}{env:Env}{ys:List Expr}(h:ys.all zn=true)(hl:ys.length < 29):
  ((backTo cp (starEach ys env)).all (fun x=>!x.1) && (backToKw cp (keywordEach [] env)).all (fun x=>x.1.isSome)
   && decide (ys.length+([]:List Keyword).length+(if ([]:List Keyword).isEmpty then 0 else 1) < 30))=true:=by
 have all:∀ {es:List Expr},es.all zn=true->(backTo cp (starEach es env)).all (fun x=>!x.1)=true:=by
  intro es
  induction es with
  | nil=>intro _;rfl
  | cons e es ih =>
   intro h
   rw[List.all_cons,Bool.and_eq_true] at h
   rw[zi h.1]
   show (true && (backTo cp (starEach es env)).all (fun x=>!x.1))=true
   rw[ih h.2];rfl
 rw[all h]
 have e2:(backToKw cp (keywordEach [] env)).all (fun x=>x.1.isSome)=true:=rfl
 rw[e2]
 have e3:decide (ys.length+([]:List Keyword).length+(if ([]:List Keyword).isEmpty then 0 else 1) < 30)=true:=by
  apply decide_eq_true
  show ys.length+0+0 < 30
  lia
 rw[e3];rfl
theorem gS (k:Mth):Slot "list" (mtV k).1 (mtV k).2/\typeOf (.builtin (mtV k).2)=pure (.type "method_descriptor"):=by
 cases k with
 | append=>exact ⟨PySem.F.slot_list_append,PySem.F.type_list_append⟩
 | extend=>exact ⟨PySem.F.slot_list_extend,PySem.F.type_list_extend⟩
 | pop=>exact ⟨PySem.F.slot_list_pop,PySem.F.type_list_pop⟩
 | reverse=>exact ⟨PySem.F.slot_list_reverse,PySem.F.type_list_reverse⟩
 | clear=>exact ⟨PySem.F.slot_list_clear,PySem.F.type_list_clear⟩
 | insert=>exact ⟨PySem.F.slot_list_insert,PySem.F.type_list_insert⟩
theorem zcM {k:Mth}{w:Wd}{ws:List Wd}{m:Me}(h:mtR k w ws m≠.no):∃l,w=.ref l:=by
 cases w with
 | ref l=>exact ⟨l,rfl⟩
 | _=>exact absurd rfl h
theorem zcN {K:PySem.W.Frag}{as:List Addr}{H:Hp}{m:Me}{w:Wd}{v:V}(S:Sim K as m H)(R:Rep K as H w v)(hw:∃l,w=.ref l):tyV K "list" v H:=by
 obtain ⟨l,rfl⟩:=hw
 obtain ⟨p,hp,rfl⟩:=rep_ref.mp R
 obtain ⟨us,e⟩:=S.isLst (List.mem_of_getElem? hp)
 exact .inl ⟨rfl,us,SqL.of e⟩
theorem zcO {k:Mth}{ap:Pos}(ho:PE X x (tOf X.K (evE cl a)))(hx:wZ x=true)(hl:(ap.endLine == pos.line)=true):
  PE X (.Call (.Attribute x (mtV k).1 ap) [] [] pos) (tOf X.K (evE cl (.meth k a .unit))):=by
 obtain ⟨f1,f2⟩:=gS k
 refine PE.imp (zfG PySem.F.plainAttrs_list f1 f2 (zcD k) ho (base_of hx) hl) fun σ H Q h=>?_
 obtain ⟨as,env,m,S,G,P⟩:=h
 refine ⟨as,env,m,S,G,Post.bind P fun w m1 as1 H1 v T1 S1 R1 P1=>?_⟩
 have P2:Post X.K as1 H1 Q (mtR k w [] m1):=P1
 refine ⟨zcN S1 R1 (zcM (k:=k) (ws:=[]) (m:=m1) fun z=>?_),as1,m1,w,[],S1,R1,repL_nil.mpr rfl,P2⟩
 rw[z] at P2
 exact P2
theorem zem {k:Mth}{ap:Pos}{ys:List Expr}(ho:PE X x (tOf X.K (evE cl a)))(ha:PA X (y::ys) (v7 X.K (evE cl b)))(hx:wZ x=true)(hl:(ap.endLine == pos.line)=true)(hn:(y::ys).length < 29)(hs:(y::ys).all zn=true):
  PE X (.Call (.Attribute x (mtV k).1 ap) (y::ys) [] pos) (tOf X.K (evE cl (.meth k a b))):=by
 obtain ⟨f1,f2⟩:=gS k
 have isref:∀ {as:List Addr}{H:Hp}{Q:VK}{w:Wd}{env:En}{m:Me},Post X.K as H Q ((evE cl b env m).bind fun y m2=>mtR k w (zp y) m2)->∃l,w=.ref l:=fun {as H Q w env m} P=>by
  cases hr:evE cl b env m with
  | no=>rw[hr] at P;exact P.elim
  | exc c w' m'=>rw[hr] at P;exact P.elim
  | ok w' m' =>
   rw[hr] at P
   refine zcM (k:=k) (ws:=zp w') (m:=m') fun z=>?_
   have P':Post X.K as H Q (mtR k w (zp w') m'):=P
   rw[z] at P'
   exact P'
 have hs':=hs
 rw[List.all_cons,Bool.and_eq_true] at hs'
 refine PE.imp (zgY PySem.F.plainAttrs_list f1 f2 (zcD k) ho ha (base_of hx) (zf2 hs hn) hl (zi hs'.1) (yh hs'.2)) fun σ H Q h=>?_
 obtain ⟨as,env,m,S,G,P⟩:=h
 refine ⟨as,env,m,S,G,Post.bind P fun w m1 as1 H1 v T1 S1 R1 P1=>⟨zcN S1 R1 (isref P1),?_⟩⟩
 refine ⟨as1,env,m1,S1,G.mono S T1,PostA.bind P1 fun w2 m2 as2 H2 vs T2 S2 R2 P2=>?_⟩
 exact ⟨as2,m2,w,zp w2,S2,R1.mono S1 T2,R2,P2⟩
theorem gT {K:PySem.W.Frag}{as:List Addr}{H:Hp}{m:Me}{R:It->Hp->Prop}{i j:Int}(S:Sim K as m H)(h:PostI K as H R (qG (.int i) (.int j) (.int 1) m)):(-(2 ^ 62)<=i/\i < 2 ^ 62/\-(2 ^ 62)<=j/\j < 2 ^ 62)/\R (Itr i (j - i).toNat) H:=by
 have h':PostI K as H R (if -lim<=i/\i<=lim/\-lim<=j/\j<=lim/\((1:Int)=1\/(1:Int)=-1) then .ok (.tup (gM i 1 (x6 i j 1))) m else .no):=h
 by_cases hc:-(lim:Int)<=i/\i<=lim/\-(lim:Int)<=j/\j<=lim/\((1:Int)=1\/(1:Int)=-1)
 .rw[if_pos hc] at h'
  have hlim:(lim:Int)=100000:=rfl
  refine ⟨by lia,h'.2 as H _ .refl S ?_⟩
  have e:x6 i j 1=(j - i).toNat:=if_pos rfl
  rw[e]
  exact ⟨_,fun _=>True,zbq i (j - i).toNat (K:=K),trivial,wY 1 (j - i).toNat i,fun _ _ _ _=>trivial⟩
 .rw[if_neg hc] at h';exact h'.elim
theorem PostI.bind {K:PySem.W.Frag}{as:List Addr}{H:Hp}{R:It->Hp->Prop}{Q1:VK}{r:Rz}{f:Wd->Me->Rz}(h:PostI K as H R (r.bind f))
  (k:∀w m' as' H' v,Step as H as' H'->Sim K as' m' H'->Rep K as' H' w v->PostI K as' H' R (f w m')->Q1 v H'):Post K as H Q1 r:=by
 cases r with
 | ok w m' =>
  intro as2 H2 v U S Rr
  refine k w m' as2 H2 v U S Rr ?_
  have h':PostI K as H R (f w m'):=h
  cases hr:f w m' with
  | ok w2 m2=>rw[hr] at h';exact ⟨h'.1,fun as3 H3 J U3 S3 q=>h'.2 as3 H3 J (U.trans U3) S3 q⟩
  | exc c w2 m2=>rw[hr] at h';exact h'
  | no=>rw[hr] at h';exact h'
 | exc c w m'=>exact h
 | no=>exact h
theorem zen {C:Ctx}{d:Nat}{p:Pos}{tg:Expr}(hC:CtxOk C X cl d)(hg:X.env.scope.names.lookup ("range" : Str)=some .globalImplicit)(hs:zn x=true)(hb:PE X x (tOf X.K (evE cl b))):
  PI X tg (.Call (.Name "range" p) [x] [] pos) (iOf X.K (evE cl (.rng (.lit (.int 0)) b (.lit (.int 1))))):=by
 refine PI.imp (zaX hg (hC.blt _ (by simp[zu])) (zy hb yA (zi hs)) (zi hs)) fun σ H R h=>?_
 obtain ⟨as,env,m,S,G,P⟩:=h
 have P':PostI X.K as H R ((evE cl b env m).bind fun y m2=>qG (.int 0) y (.int 1) m2):=P
 refine ⟨as,env,m,S,G,PostI.bind P' fun w m1 as1 H1 v T1 S1 R1 P1=>?_⟩
 cases w with
 | int j =>
  obtain rfl:=rep_int.mp R1
  obtain ⟨⟨_,_,h1,h2⟩,q⟩:=gT S1 P1
  refine ⟨j,rfl,h1,h2,?_⟩
  simpa using q
 | _=>exact P1.elim
theorem zeo {C:Ctx}{d:Nat}{p:Pos}{tg:Expr}(hC:CtxOk C X cl d)(hg:X.env.scope.names.lookup ("range" : Str)=some .globalImplicit)(hs:zn x=true)(hs':zn y=true)(ha:PE X x (tOf X.K (evE cl a)))(hb:PE X y (tOf X.K (evE cl b))):
  PI X tg (.Call (.Name "range" p) [x,y] [] pos) (iOf X.K (evE cl (.rng a b (.lit (.int 1))))):=by
 refine PI.imp (zaY hg (hC.blt _ (by simp[zu])) (zy ha (zy hb yA (zi hs')) (zi hs)) (by rw[zi hs,zi hs'];rfl) (zi hs')) fun σ H R h=>?_
 obtain ⟨as,env,m,S,G,P⟩:=h
 have P':PostI X.K as H R ((evE cl a env m).bind fun x m1=>(evE cl b env m1).bind fun y m2=>qG x y (.int 1) m2):=P
 refine ⟨as,env,m,S,G,PostI.bind P' fun w m1 as1 H1 v T1 S1 R1 P1=>?_⟩
 refine ⟨as1,env,m1,S1,G.mono S T1,PostI.bind P1 fun w2 m2 as2 H2 u T2 S2 R2 P2=>?_⟩
 cases w with
 | int i =>
  cases w2 with
  | int j =>
   obtain rfl:=rep_int.mp R1
   obtain rfl:=rep_int.mp R2
   obtain ⟨hb,q⟩:=gT S2 P2
   exact ⟨i,j,rfl,hb,q⟩
  | _=>exact P2.elim
 | _=>cases w2 <;> exact P2.elim
theorem qI {K:PySem.W.Frag}(lo st:Int)(n:Nat):SeqIt (zd7 lo st n) ((List.range n).map fun (i:Nat)=>V.int (lo+st * (i:Int))) (fun _=>True):=by
 refine ⟨fun i H _ hi=>?_,fun i H x H' _ hi q=>?_,fun i H _ hi=>?_⟩
 .show i < n;simpa using hi
 .obtain ⟨e1,e2⟩:=q
  have hi':i < n:=by simpa using hi
  refine ⟨e1,?_⟩
  rw[e2]
  simp[hi',Int.mul_comm]
 .show n<=i;simpa using hi
theorem zbr {K:PySem.W.Frag}{as:List Addr}{H:Hp}{m:Me}{R:It->Hp->Prop}{i j k:Int}(S:Sim K as m H)(h:PostI K as H R (qG (.int i) (.int j) (.int k) m)):(-(2 ^ 30)<=i/\i < 2 ^ 30/\-(2 ^ 30)<=j/\j < 2 ^ 30)/\(k=1\/k=-1)/\R (zd7 i k (kJ i j k)) H:=by
 have h':PostI K as H R (if -lim<=i/\i<=lim/\-lim<=j/\j<=lim/\(k=1\/k=-1) then .ok (.tup (gM i k (x6 i j k))) m else .no):=h
 by_cases hc:-(lim:Int)<=i/\i<=lim/\-(lim:Int)<=j/\j<=lim/\(k=1\/k=-1)
 .rw[if_pos hc] at h'
  have hlim:(lim:Int)=100000:=rfl
  refine ⟨by lia,hc.2.2.2.2,h'.2 as H _ .refl S ?_⟩
  have e:x6 i j k=kJ i j k:=by
   unfold x6 kJ
   rcases hc.2.2.2.2 with rfl | rfl
   .rfl
   .rfl
  rw[e]
  exact ⟨_,fun _=>True,qI i k (kJ i j k) (K:=K),trivial,wY k (kJ i j k) i,fun _ _ _ _=>trivial⟩
 .rw[if_neg hc] at h';exact h'.elim
theorem zep {C:Ctx}{d:Nat}{p:Pos}{tg:Expr}(hC:CtxOk C X cl d)(hg:X.env.scope.names.lookup ("range" : Str)=some .globalImplicit)(hs:zn x=true)(hs':zn y=true)(hs2:zn z=true)(ha:PE X x (tOf X.K (evE cl a)))(hb:PE X y (tOf X.K (evE cl b)))(hc:PE X z (tOf X.K (evE cl c))):
  PI X tg (.Call (.Name "range" p) [x,y,z] [] pos) (iOf X.K (evE cl (.rng a b c))):=by
 refine PI.imp (zbb hg (hC.blt _ (by simp[zu])) (zy ha (zy hb (zy hc yA (zi hs2)) (zi hs')) (zi hs)) (by rw[zi hs,zi hs',zi hs2];rfl) (by rw[zi hs',zi hs2];rfl)) fun σ H R h=>?_
 obtain ⟨as,env,m,S,G,P⟩:=h
 refine ⟨as,env,m,S,G,PostI.bind P fun w m1 as1 H1 v T1 S1 R1 P1=>?_⟩
 refine ⟨as1,env,m1,S1,G.mono S T1,PostI.bind P1 fun w2 m2 as2 H2 u T2 S2 R2 P2=>?_⟩
 refine ⟨as2,env,m2,S2,(G.mono S T1).mono S1 T2,PostI.bind P2 fun w3 m3 as3 H3 u3 T3 S3 R3 P3=>?_⟩
 cases w with
 | int i =>
  cases w2 with
  | int j =>
   cases w3 with
   | int k =>
    obtain rfl:=rep_int.mp R1
    obtain rfl:=rep_int.mp R2
    obtain rfl:=rep_int.mp R3
    obtain ⟨h1,h2,q⟩:=zbr S3 P3
    exact ⟨i,j,k,rfl,h1,h2,q⟩
   | _=>exact P3.elim
  | _=>cases w3 <;> exact P3.elim
 | _=>cases w2 <;> cases w3 <;> exact P3.elim
theorem zeq {C:Ctx}{d:Nat}{p p' pos':Pos}(hC:CtxOk C X cl d)(hgl:X.env.scope.names.lookup ("list" : Str)=some .globalImplicit)(hg:X.env.scope.names.lookup ("range" : Str)=some .globalImplicit)(hs:zn x=true)(ha:PE X x (tOf X.K (evE cl a))):
  PE X (.Call (.Name "list" p) [.Call (.Name "range" p') [x] [] pos'] [] pos) (tOf X.K (evE cl (.lrng a))):=by
 refine PE.imp (zd8 hC.calm hgl (hC.blt _ (by simp[zu])) hg (hC.blt _ (by simp[zu])) (zy ha yA (zi hs)) (zi hs)) fun σ H Q h=>?_
 obtain ⟨as,env,m,S,G,P⟩:=h
 refine ⟨as,env,m,S,G,Post.bind P fun w m1 as1 H1 v T1 S1 R1 P1=>?_⟩
 cases w with
 | int j =>
  obtain rfl:=rep_int.mp R1
  have hlim:(lim:Int)=100000:=rfl
  have P1':Post X.K as1 H1 Q (if -(lim:Int)<=j/\j<=lim then alloc m1 (gM 0 1 j.toNat) else .no):=P1
  by_cases hc:-(lim:Int)<=j/\j<=lim
  .rw[if_pos hc] at P1'
   obtain ⟨h1,h2⟩:=xJ S1 (wY 1 j.toNat 0) P1'
   have hz:j.toNat<=sizeLine:=Nat.le_trans (by have:lim=100000:=rfl;lia) yY
   exact ⟨j,rfl,by lia,by lia,hz,h2⟩
  .rw[if_neg hc] at P1';exact P1'.elim
 | _=>exact P1.elim
end
section
variable {cl:Nat->List Wd->Me->Rz}{K:PySem.W.Frag}
theorem Sim.updD {as:List Addr}{m:Me}{H:Hp}{D:Addr}{ys:List V}{o:HO}(S:Sim K as m H)(hD:H D=some (.lst ys))(hn:D∉as):Sim K as m (upd H D o):=by
 refine ⟨S.len,S.nd,fun l b ob h1 h2=>?_⟩
 have q:=S.obj l b ob h1 h2
 have hb:b≠D:=by rintro rfl;exact hn (List.mem_of_getElem? h1)
 cases ob with
 | lst zs =>
  obtain ⟨us,e,r⟩:=q
  exact ⟨us,by rw[zd hb];exact e,r.kp (Kp.upd hD)⟩
 | dct kvs=>exact q.elim
theorem Sim.join {as:List Addr}{m:Me}{H:Hp}{D:Addr}{ys:List V}{acc:List Wd}(S:Sim K as m H)(hD:H D=some (.lst ys))(hn:D∉as)(R:RepL K as H acc ys):Sim K (as++[D]) (m++[.lst acc]) H:=by
 have g:∀ (l:Nat) (a:Addr),as[l]?=some a->(as++[D])[l]?=some a:=fun l a e=>by
  rw[List.getElem?_append_left (List.getElem?_eq_some_iff.mp e).1];exact e
 have kp:Kp K H H:=⟨fun _ _ h=>h,fun _ _ h=>h⟩
 refine ⟨by simp[S.len],?_,fun l b o h1 h2=>?_⟩
 .refine List.nodup_append.mpr ⟨S.nd,by simp,fun x hx y hy=>?_⟩
  rw[List.mem_singleton.mp hy]
  rintro rfl
  exact hn hx
 .by_cases hl:l < as.length
  .rw[List.getElem?_append_left hl] at h1
   rw[List.getElem?_append_left (by rw[<- S.len];exact hl)] at h2
   have q:=S.obj l b o h1 h2
   cases o with
   | lst zs =>
    obtain ⟨us,e,r⟩:=q
    exact ⟨us,e,repL_mono kp g _ _ r⟩
   | dct kvs=>exact q.elim
  .rw[List.getElem?_append_right (by lia)] at h1
   rw[List.getElem?_append_right (by rw[<- S.len];lia)] at h2
   have hz:l - as.length=0:=by
    cases hq:l - as.length with
    | zero=>rfl
    | succ k=>rw[hq] at h1;simp at h1
   rw[hz] at h1
   rw[<- S.len,hz] at h2
   simp at h1 h2
   subst h1;subst h2
   exact ⟨ys,hD,repL_mono kp g _ _ R⟩
theorem Step.updD {as as':List Addr}{H H':Hp}{D:Addr}{o:HO}(T:Step as H as' H')(hD:H D=none):Step as H as' (upd H' D o) :=
 ⟨T.pre,fun b ob h hb=>by rw[zd (zl h hD)];exact T.frame b ob h hb,T.fresh⟩
theorem Step.join {as as':List Addr}{H H':Hp}{D:Addr}(T:Step as H as' H')(hD:H D=none):Step as H (as'++[D]) H':=by
 refine ⟨?_,T.frame,fun a ha=>?_⟩
 .obtain ⟨t,rfl⟩:=T.pre
  exact ⟨t++[D],by simp⟩
 .rcases List.mem_append.mp ha with z | z
  .exact T.fresh a z
  .rw[List.mem_singleton.mp z];exact .inr hD
theorem wK {as as':List Addr}{m:Me}{H H':Hp}{D:Addr}{ys:List V}{acc:List Wd}{Q:VK}(S:Sim K as' m H')(T:Step as H as' H')(h0:H D=none)(hD:H' D=some (.lst ys))(hn:D∉as')(R:RepL K as' H' acc ys)
  (h:Post K as H Q (alloc m acc)):Q (.ref D) H':=by
 unfold Mini.alloc at h
 split at h
 .refine h (as'++[D]) H' (.ref D) (T.join h0) (S.join hD hn R) (rep_ref.mpr ⟨D,?_,rfl⟩)
  rw[<- S.len,List.getElem?_append_right (Nat.le_refl _)]
  simp
 .exact h.elim
structure Mid (K:PySem.W.Frag)(as:List Addr)(H:Hp)(D:Addr)(env:En)(σ:St)(as':List Addr)(m':Me)(acc:List Wd)(ys:List V)(H':Hp):Prop where
 T:Step as H as' H'
 S:Sim K as' m' H'
 hD:H' D=some (.lst ys)
 n:D∉as'
 R:RepL K as' H' acc ys
 G:EnvRep K as' H' env σ
theorem Mid.go {as:List Addr}{H:Hp}{D:Addr}{env:En}{σ:St}{as' as2:List Addr}{m' m2:Me}{acc:List Wd}{ys:List V}{H' H2:Hp}(M:Mid K as H D env σ as' m' acc ys H')(U:Step as' H' as2 H2)(S2:Sim K as2 m2 H2):Mid K as H D env σ as2 m2 acc ys H2 :=
 ⟨M.T.trans U,S2,U.frame _ _ M.hD M.n,U.out M.hD M.n,M.R.mono M.S U,M.G.mono M.S U⟩
theorem Mid.push {as:List Addr}{H:Hp}{D:Addr}{env:En}{σ:St}{as':List Addr}{m':Me}{acc:List Wd}{ys:List V}{H':Hp}{w:Wd}{v:V}(M:Mid K as H D env σ as' m' acc ys H')(h0:H D=none)(R:Rep K as' H' w v):
  Mid K as H D env σ as' m' (acc++[w]) (ys++[v]) (upd H' D (.lst (ys++[v]))):=by
 have kp:Kp K H' (upd H' D (.lst (ys++[v]))):=Kp.upd M.hD
 exact ⟨M.T.updD h0,M.S.updD M.hD M.n,zg,M.n,(M.R.append (.one R)).kp kp,M.G.kp kp⟩
theorem vG {elt cond:Ex}{tc:TT}(htc:∀σ H Q,xt K (evE cl cond) σ H Q->tc σ H Q){as1 as':List Addr}{H1 H':Hp}{D:Addr}{env ex:En}{σ sx:St}{m':Me}{acc:List Wd}{ys:List V}{Q:VK}{next:List Wd->Me->Rz}{N:List V->Hp->Prop}
  (h0:H1 D=none) (M:Mid K as1 H1 D env σ as' m' acc ys H') (G:EnvRep K as' H' (env++ex) (σ++sx))
  (Pt:Post K as1 H1 Q ((evE cl cond (env++ex) m').bind fun b m1=>match b with
     | .bl true=>(evE cl elt (env++ex) m1).bind fun y m2=>if acc.length < lim then next (acc++[y]) m2 else .no
     | .bl false=>next acc m1
     | _=>.no))
  (hN:∀as2 m2 acc' ys' H2,Kp K H' H2->(∀ (l:Nat) (a:Addr),as'[l]?=some a->as2[l]?=some a)->Mid K as1 H1 D env σ as2 m2 acc' ys' H2->Post K as1 H1 Q (next acc' m2)->N ys' H2) :
  tc (σ++sx) H' fun b H2=>if b=true then tOf K (evE cl elt) (σ++sx) H2 fun y H3=>H3 D=some (.lst ys)/\ys.length < sizeLine/\N (ys++[y]) (upd H3 D (.lst (ys++[y]))) else N ys H2:=by
 refine htc _ _ _ ⟨as',env++ex,m',M.S,G,ziy Pt M.T fun wb m2 as2 H2 vb T2 S2 R2 P2=>?_⟩
 have M2:=M.go T2 S2
 cases wb with
 | bl k =>
  obtain rfl:=rep_bl.mp R2
  refine ⟨k,rfl,?_⟩
  cases k with
  | false=>exact jT (hN as2 m2 acc ys H2 (M.S.kp T2) (fun _ _ e=>T2.get e) M2 P2)
  | true =>
   refine gD ⟨as2,env++ex,m2,S2,G.mono M.S T2,ziy P2 M2.T fun wy m3 as3 H3 vy T3 S3 R3 P3=>?_⟩
   have M3:=M2.go T3 S3
   have P3':Post K as1 H1 Q (if acc.length < lim then next (acc++[wy]) m3 else .no):=P3
   by_cases hl:acc.length < lim
   .rw[if_pos hl] at P3'
    refine ⟨M3.hD,by rw[<- M3.R.length];exact Nat.lt_of_lt_of_le hl yY,hN as3 m3 (acc++[wy]) (ys++[vy]) _ ?_ (fun _ _ e=>T3.get (T2.get e)) (M3.push h0 R3) P3'⟩
    have k1:=M.S.kp T2
    have k2:=S2.kp T3
    have k3:Kp K H3 (upd H3 D (.lst (ys++[vy]))):=Kp.upd M3.hD
    exact ⟨fun a vs q=>k3.t _ _ (k2.t _ _ (k1.t _ _ q)),fun a vs q=>k3.f _ _ (k2.f _ _ (k1.f _ _ q))⟩
   .rw[if_neg hl] at P3';exact P3'.elim
 | _=>exact P2.elim
theorem Mid.start {as as1:List Addr}{H H1:Hp}{D:Addr}{env:En}{σ:St}{m1:Me}(S1:Sim K as1 m1 H1)(G1:EnvRep K as1 H1 env σ)(hD:H1 D=none):Mid K as1 H1 D env σ as1 m1 [] [] (upd H1 D (.lst [])):=by
 have T:Step as1 H1 as1 (upd H1 D (.lst [])):=Step.updD .refl hD
 exact ⟨T,S1.keep T fun b _ o e=>by rw[zd (zl e hD)];exact e,zg,S1.new hD,repL_nil.mpr rfl,G1.mono S1 T⟩
def qJ (K:PySem.W.Frag)(as:List Addr)(J:It)(g:Nat->Me->Option (Option (Wd×Wd))):Prop :=
 ∀ (as':List Addr) (m':Me) (H':Hp),(∀ (l:Nat) (a:Addr),as[l]?=some a->as'[l]?=some a)->Sim K as' m' H'->∀i,
  (g i m'=some none->J.stop i H')/\∀x y,g i m'=some (some (x,y))->J.go i H'/\∀v H'',J.yld i H' v H''->∃x' y',Yp H' v H'' x' y'/\Rep K as' H' x x'/\Rep K as' H' y y'
theorem kS {elt cond:Ex}{tc:TT}(htc:∀σ H Q,xt K (evE cl cond) σ H Q->tc σ H Q){as1:List Addr}{H1:Hp}{env:En}{σ:St}{m1:Me}{J:It}{g:Nat->Me->Option (Option (Wd×Wd))}{Q:VK}(hJ:qJ K as1 J g)(S1:Sim K as1 m1 H1)(G1:EnvRep K as1 H1 env σ)
  (P:Post K as1 H1 Q (yU (fun u v m=>evE cl cond (env++[some u]++[some v]) m) (fun u v m=>evE cl elt (env++[some u]++[some v]) m) g (lim+1) 0 [] m1)) :
  ∀D,H1 D=none->∃W:Nat->Nat->List V->Hp->Prop,(∃m,W 0 m [] (upd H1 D (.lst [])))/\∀i m ys H,W i m ys H ->
   (J.stop i H/\Q (.ref D) H)\/(J.go i H/\∀v H',J.yld i H v H'->∃vs,un2 K v H' vs/\tc (σ++vs.map some) H' fun b H2=>if b=true then tOf K (evE cl elt) (σ++vs.map some) H2 fun y H3=>H3 D=some (.lst ys)/\ys.length < sizeLine/\∃m',m' < m/\W (i+1) m' (ys++[y]) (upd H3 D (.lst (ys++[y])))
    else ∃m',m' < m/\W (i+1) m' ys H2):=by
 intro D hD
 refine ⟨fun i n ys H'=>∃as' m' acc,(∀ (l:Nat) (a:Addr),as1[l]?=some a->as'[l]?=some a)/\Mid K as1 H1 D env σ as' m' acc ys H' /\
  Post K as1 H1 Q (yU (fun u v m=>evE cl cond (env++[some u]++[some v]) m) (fun u v m=>evE cl elt (env++[some u]++[some v]) m) g n i acc m'),⟨lim+1,as1,m1,[],fun _ _ e=>e,Mid.start (as:=as1) (H:=H1) S1 G1 hD,P⟩,?_⟩
 rintro i n ys H' ⟨as',m',acc,hl,M,Pi⟩
 cases n with
 | zero=>exact Pi.elim
 | succ n =>
  unfold yU at Pi
  obtain ⟨q1,q2⟩:=hJ as' m' H' hl M.S i
  cases e:g i m' with
  | none=>rw[e] at Pi;exact Pi.elim
  | some o =>
   rw[e] at Pi
   cases o with
   | none=>exact .inl ⟨q1 e,wK M.S M.T hD M.hD M.n M.R Pi⟩
   | some p =>
    obtain ⟨x,y⟩:=p
    simp only[] at Pi
    obtain ⟨go,yl⟩:=q2 x y e
    refine .inr ⟨go,fun v H'' hy=>?_⟩
    obtain ⟨x',y',⟨T,hT,rfl,rfl⟩,Rx,Ry⟩:=yl v H'' hy
    refine ⟨[x',y'],⟨T,rfl,SqT.of zg,rfl⟩,?_⟩
    have U:Step as' H' as' (upd H' T (.tup [x',y'])):=Step.updD .refl hT
    have S2:Sim K as' m' (upd H' T (.tup [x',y'])):=M.S.keep U fun b _ o e=>by rw[zd (zl e hT)];exact e
    have M2:=M.go U S2
    have G2:EnvRep K as' (upd H' T (.tup [x',y'])) (env++[some x,some y]) (σ++[x',y'].map some):=by
     have:=(M2.G.push (Rx.mono M.S U)).push (Ry.mono M.S U)
     simpa using this
    refine vG htc (ex:=[some x,some y]) (next:=fun acc m=>yU (fun u v m=>evE cl cond (env++[some u]++[some v]) m) (fun u v m=>evE cl elt (env++[some u]++[some v]) m) g n (i+1) acc m)
     (N:=fun zs H2=>∃n',n' < n+1/\∃as' m' acc,(∀ (l:Nat) (a:Addr),as1[l]?=some a->as'[l]?=some a)/\Mid K as1 H1 D env σ as' m' acc zs H2/\Post K as1 H1 Q (yU (fun u v m=>evE cl cond (env++[some u]++[some v]) m) (fun u v m=>evE cl elt (env++[some u]++[some v]) m) g n' (i+1) acc m')) hD M2 G2 (by rw[show env++[some x]++[some y]=env++[some x,some y] from by simp] at Pi;exact Pi) ?_
    intro as2 m2 acc' ys' H2 kp gg M3 P3
    exact ⟨n,Nat.lt_succ_self _,as2,m2,acc',fun l a e=>gg _ _ (hl l a e),M3,P3⟩
theorem qK {as:List Addr}{la lb:Nat}{a b:Addr}(ha:as[la]?=some a)(hb:as[lb]?=some b):qJ K as (Itz K a b) (yg .zip (.ref la) (.ref lb)):=by
 intro as' m' H' hl S i
 simp only[yg]
 cases e1:zE m' la with
 | none=>exact ⟨fun z=>by simp at z,fun x y z=>by simp at z⟩
 | some xs =>
  cases e2:zE m' lb with
  | none=>exact ⟨fun z=>by simp at z,fun x y z=>by simp at z⟩
  | some ys =>
   obtain ⟨a',us,ha',eH,RL⟩:=yn S (zR e1)
   rw[hl _ _ ha] at ha';cases ha'
   obtain ⟨b',vs,hb',eH2,RL2⟩:=yn S (zR e2)
   rw[hl _ _ hb] at hb';cases hb'
   simp only
   cases ex:xs[i]? with
   | none =>
    refine ⟨fun _=>⟨us,vs,SqL.of eH,SqL.of eH2,.inl ?_⟩,fun x y z=>by simp at z⟩
    rw[<- RL.length];exact List.getElem?_eq_none_iff.mp ex
   | some x =>
    cases ey:ys[i]? with
    | none =>
     refine ⟨fun _=>⟨us,vs,SqL.of eH,SqL.of eH2,.inr ?_⟩,fun x y z=>by simp at z⟩
     rw[<- RL2.length];exact List.getElem?_eq_none_iff.mp ey
    | some y =>
     refine ⟨fun z=>by simp at z,fun x2 y2 z=>?_⟩
     simp only[Option.some.injEq,Prod.mk.injEq] at z
     obtain ⟨rfl,rfl⟩:=z
     obtain ⟨u0,hu0,Ru⟩:=RL.get ex
     obtain ⟨v0,hv0,Rv⟩:=RL2.get ey
     refine ⟨⟨us,vs,u0,v0,SqL.of eH,SqL.of eH2,hu0,hv0⟩,fun v H'' hy=>?_⟩
     obtain ⟨p,q,yp,k1,k2⟩:=hy
     have:=k1 us (SqL.of eH)
     rw[hu0] at this;cases this
     have:=k2 vs (SqL.of eH2)
     rw[hv0] at this;cases this
     exact ⟨_,_,yp,Ru,Rv⟩
theorem gU {as:List Addr}{la c:Nat}{a:Addr}(ha:as[la]?=some a):qJ K as (Ite K c a) (yg .enum (.ref la) (.int (c:Int))):=by
 intro as' m' H' hl S i
 simp only[yg]
 cases e1:zE m' la with
 | none=>exact ⟨fun z=>by simp at z,fun x y z=>by simp at z⟩
 | some xs =>
  obtain ⟨a',us,ha',eH,RL⟩:=yn S (zR e1)
  rw[hl _ _ ha] at ha';cases ha'
  simp only
  cases ex:xs[i]? with
  | none =>
   refine ⟨fun _=>⟨us,SqL.of eH,?_⟩,fun x y z=>by simp at z⟩
   rw[<- RL.length];exact List.getElem?_eq_none_iff.mp ex
  | some x =>
   refine ⟨fun z=>by simp at z,fun x2 y2 z=>?_⟩
   simp only[Option.map_some,Option.some.injEq,Prod.mk.injEq] at z
   obtain ⟨rfl,rfl⟩:=z
   obtain ⟨u0,hu0,Ru⟩:=RL.get ex
   refine ⟨⟨us,u0,SqL.of eH,hu0⟩,fun v H'' hy=>?_⟩
   obtain ⟨p,yp,k1⟩:=hy
   have:=k1 us (SqL.of eH)
   rw[hu0] at this;cases this
   exact ⟨_,_,yp,rep_int.mpr (by congr 1;lia),Ru⟩
theorem bind_ok {w:Wd}{m:Me}{f:Wd->Me->Rz}:(Rz.ok w m).bind f=f w m:=rfl
theorem kT {c e:Wd->Wd->Me->Rz}{g:Nat->Me->Option (Option (Wd×Wd))}{k i:Nat}{acc:List Wd}{m:Me}(h:g i m=none):yU c e g (k+1) i acc m=.no:=by
 unfold yU
 rw[h]
set_option tactic.hygienic true in
theorem qL {w w2:Wd}{i:Nat}{m:Me}{o:Option (Wd×Wd)}(e:yg .zip w w2 i m=some o):∃la lb xs ys,w=.ref la/\w2=.ref lb/\zE m la=some xs/\zE m lb=some ys:=by
 unfold yg at e
 split at e
 .next la lb _ =>
  split at e
  .next xs ys e1 e2=>exact ⟨la,lb,xs,ys,rfl,rfl,e1,e2⟩
  .cases e
 .next h=>cases h
 .cases e
set_option tactic.hygienic true in
theorem gW {w w2:Wd}{i:Nat}{m:Me}{o:Option (Wd×Wd)}(e:yg .enum w w2 i m=some o):∃la xs,w=.ref la/\zE m la=some xs:=by
 unfold yg at e
 split at e
 .next h=>cases h
 .next la s _ =>
  split at e
  .next xs e1=>exact ⟨la,xs,rfl,e1⟩
  .cases e
 .cases e
theorem qM {elt a b cond:Ex}{tc:TT}(htc:∀σ H Q,xt K (evE cl cond) σ H Q->tc σ H Q){σ:St}{H:Hp}{Q:VK}(h:tOf K (evE cl (.compP .zip elt a b cond)) σ H Q):
  jA (un2 K) (zg4 K (jr (tOf K (evE cl a)) (jr (tOf K (evE cl b)) zb8))) tc (tOf K (evE cl elt)) σ H Q:=by
 obtain ⟨as,env,m,S,G,P⟩:=h
 have P':Post K as H Q ((evE cl a env m).bind fun x m1=>(evE cl b env m1).bind fun y m2 =>
  yU (fun u v m=>evE cl cond (env++[some u]++[some v]) m) (fun u v m=>evE cl elt (env++[some u]++[some v]) m) (yg .zip x y) (lim+1) 0 [] m2):=P
 refine ⟨as,env,m,S,G,ziy P' .refl fun w m1 as1 H1 v T1 S1 R1 P1=>?_⟩
 refine ⟨as1,env,m1,S1,G.mono S T1,ziy P1 T1 fun w2 m2 as2 H2 v2 T2 S2 R2 P2=>?_⟩
 have P3:=Post.step P2 (T1.trans T2)
 have G2:=(G.mono S T1).mono S1 T2
 have look:∃la lb xs ys,w=.ref la/\w2=.ref lb/\zE m2 la=some xs/\zE m2 lb=some ys:=by
  cases e:yg .zip w w2 0 m2 with
  | none=>rw[kT e] at P3;exact P3.elim
  | some o=>exact qL e
 obtain ⟨la,lb,xs,ys,rfl,rfl,e1,e2⟩:=look
 obtain ⟨a1,ha1,rfl⟩:=rep_ref.mp R1
 obtain ⟨b1,hb1,rfl⟩:=rep_ref.mp R2
 have ha2:=T2.get ha1
 obtain ⟨a',us,ha',eH,RL⟩:=yn S2 (zR e1)
 rw[ha2] at ha';cases ha'
 obtain ⟨b',vs,hb',eH2,RL2⟩:=yn S2 (zR e2)
 rw[hb1] at hb';cases hb'
 exact ⟨a1,b1,us,vs,rfl,SqL.of eH,SqL.of eH2,kS htc (qK ha2 hb1) S2 G2 P3⟩
theorem qN {c:Nat}{z:Int}(hz:z=(c:Int)){elt a cond:Ex}{tc:TT}(htc:∀σ H Q,xt K (evE cl cond) σ H Q->tc σ H Q){σ:St}{H:Hp}{Q:VK}(h:tOf K (evE cl (.compP .enum elt a (.lit (.int z)) cond)) σ H Q):
  jA (un2 K) (zfa K c (jr (tOf K (evE cl a)) zb8)) tc (tOf K (evE cl elt)) σ H Q:=by
 subst hz
 obtain ⟨as,env,m,S,G,P⟩:=h
 have hl:∀m1,evE cl (.lit (.int (c:Int))) env m1=.ok (.int (c:Int)) m1:=fun _=>rfl
 have P':Post K as H Q ((evE cl a env m).bind fun x m1=>(evE cl (.lit (.int (c:Int))) env m1).bind fun y m2 =>
  yU (fun u v m=>evE cl cond (env++[some u]++[some v]) m) (fun u v m=>evE cl elt (env++[some u]++[some v]) m) (yg .enum x y) (lim+1) 0 [] m2):=P
 refine ⟨as,env,m,S,G,ziy P' .refl fun w m1 as1 H1 v T1 S1 R1 P1=>?_⟩
 rw[hl,bind_ok] at P1
 have P3:=Post.step P1 T1
 have look:∃la xs,w=.ref la/\zE m1 la=some xs:=by
  cases e:yg .enum w (.int (c:Int)) 0 m1 with
  | none=>rw[kT e] at P3;exact P3.elim
  | some o=>exact gW e
 obtain ⟨la,xs,rfl,e1⟩:=look
 obtain ⟨a1,ha1,rfl⟩:=rep_ref.mp R1
 obtain ⟨a',us,ha',eH,RL⟩:=yn S1 (zR e1)
 rw[ha1] at ha';cases ha'
 exact ⟨a1,us,rfl,SqL.of eH,kS htc (gU ha1) S1 (G.mono S T1) P3⟩
theorem jF {elt it cond:Ex}{tc:TT}(htc:∀σ H Q,xt K (evE cl cond) σ H Q->tc σ H Q){σ:St}{H:Hp}{Q:VK}(h:tOf K (evE cl (.comp elt it cond)) σ H Q):
  jA un1 (iOf K (evE cl it)) tc (tOf K (evE cl elt)) σ H Q:=by
 obtain ⟨as,env,m,S,G,P⟩:=h
 refine ⟨as,env,m,S,G,?_⟩
 have P':Post K as H Q ((evE cl it env m).bind fun x m1=>match x with
  | .tup xs=>y6 (fun x m=>evE cl cond (env++[some x]) m) (fun x m=>evE cl elt (env++[some x]) m) xs [] m1
  | .rol xs=>y6 (fun x m=>evE cl cond (env++[some x]) m) (fun x m=>evE cl elt (env++[some x]) m) xs [] m1
  | .ref l=>y7 (fun x m=>evE cl cond (env++[some x]) m) (fun x m=>evE cl elt (env++[some x]) m) l (lim+1) 0 [] m1
  | _=>.no):=P
 clear P
 cases hr:evE cl it env m with
 | no=>rw[hr] at P';exact P'
 | exc c w m'=>rw[hr] at P';exact P'
 | ok w m1 =>
  rw[hr] at P'
  have start:∀ {as1:List Addr}{H1:Hp}{D:Addr},Step as H as1 H1->Sim K as1 m1 H1->H1 D=none->Mid K as1 H1 D env σ as1 m1 [] [] (upd H1 D (.lst [])):=fun {as1 H1 D} T1 S1 hD=>Mid.start (as:=as) (H:=H) S1 (G.mono S T1) hD
  -- over items that stay
  have seqs:∀ (xs:List Wd),Post K as H Q (y6 (fun x m=>evE cl cond (env++[some x]) m) (fun x m=>evE cl elt (env++[some x]) m) xs [] m1) ->
    ∀as1 H1 J,Step as H as1 H1->Sim K as1 m1 H1->zaw K as1 H1 J xs->∀D,H1 D=none->∃W:Nat->Nat->List V->Hp->Prop,(∃m,W 0 m [] (upd H1 D (.lst [])))/\∀i m ys H,W i m ys H ->
     (J.stop i H/\Q (.ref D) H)\/(J.go i H/\∀v H',J.yld i H v H'->∃vs,un1 v H' vs/\tc (σ++vs.map some) H' fun b H2=>if b=true then tOf K (evE cl elt) (σ++vs.map some) H2 fun y H3=>H3 D=some (.lst ys)/\ys.length < sizeLine/\∃m',m' < m/\W (i+1) m' (ys++[y]) (upd H3 D (.lst (ys++[y])))
      else ∃m',m' < m/\W (i+1) m' ys H2):=by
   intro xs Pc as1 H1 J T1 S1 hI D hD
   obtain ⟨vs,ok,hJ,ok1,RL,stab⟩:=hI
   have Pc1:=Post.step Pc T1
   have hlen:=RL.length
   refine ⟨fun i n ys H'=>∃as' m' acc,i<=xs.length/\n=xs.length - i/\Mid K as1 H1 D env σ as' m' acc ys H'/\ok H'/\RepL K as' H' xs vs /\
    Post K as1 H1 Q (y6 (fun x m=>evE cl cond (env++[some x]) m) (fun x m=>evE cl elt (env++[some x]) m) (xs.drop i) acc m'),
    ⟨xs.length,as1,m1,[],Nat.zero_le _,rfl,start T1 S1 hD,stab _ _ (S1.kp (start T1 S1 hD).T) ok1,RL.mono S1 (start T1 S1 hD).T,Pc1⟩,?_⟩
   rintro i n ys H' ⟨as',m',acc,hi,rfl,M,okH,RL',Pi⟩
   by_cases hlt:i < xs.length
   .refine .inr ⟨hJ.go i H' okH (by rw[<- hlen];exact hlt),fun v H'' hy=>?_⟩
    obtain ⟨rfl,hv⟩:=hJ.yld i H' v H'' okH (by rw[<- hlen];exact hlt) hy
    obtain ⟨v',hv',Rx⟩:=RL'.get (i:=i) (x:=xs[i]) (by simp[hlt])
    rw[hv] at hv';cases hv'
    rw[List.drop_eq_getElem_cons hlt] at Pi
    refine ⟨[v],rfl,vG htc (sx:=[some v]) (next:=fun acc m=>y6 (fun x m=>evE cl cond (env++[some x]) m) (fun x m=>evE cl elt (env++[some x]) m) (xs.drop (i+1)) acc m) (N:=fun zs H2=>∃n',n' < xs.length - i/\∃as' m' acc,i+1<=xs.length/\n'=xs.length - (i+1)/\Mid K as1 H1 D env σ as' m' acc zs H2/\ok H2/\RepL K as' H2 xs vs/\Post K as1 H1 Q (y6 (fun x m=>evE cl cond (env++[some x]) m) (fun x m=>evE cl elt (env++[some x]) m) (xs.drop (i+1)) acc m')) hD M (M.G.push Rx) Pi ?_⟩
    intro as2 m2 acc' ys' H2 kp g M2 P2
    exact ⟨xs.length - (i+1),by lia,as2,m2,acc',hlt,rfl,M2,stab _ _ kp okH,repL_mono kp g _ _ RL',P2⟩
   .have e:i=xs.length:=by lia
    subst e
    rw[List.drop_length] at Pi
    exact .inl ⟨hJ.stop _ H' okH (by lia),wK M.S M.T hD M.hD M.n M.R Pi⟩
  cases w with
  | tup xs=>exact ⟨rfl,fun as1 H1 J T1 S1 hI=>seqs xs P' as1 H1 J T1 S1 hI⟩
  | rol xs=>exact ⟨rfl,fun as1 H1 J T1 S1 hI=>seqs xs P' as1 H1 J T1 S1 hI⟩
  | ref l =>
   have P2:Post K as H Q (y7 (fun x m=>evE cl cond (env++[some x]) m) (fun x m=>evE cl elt (env++[some x]) m) l (lim+1) 0 [] m1):=P'
   refine ⟨?_,fun as1 H1 J T1 S1 hI D hD=>?_⟩
   .show (zE m1 l).isSome=true
    cases e:zE m1 l with
    | some xs=>rfl
    | none =>
     unfold y7 at P2
     rw[e] at P2
     exact P2.elim
   .obtain ⟨a,ha,rfl⟩:=hI
    have Pc1:=Post.step P2 T1
    refine ⟨fun i n ys H'=>∃as' m' acc,as'[l]?=some a/\Mid K as1 H1 D env σ as' m' acc ys H' /\
     Post K as1 H1 Q (y7 (fun x m=>evE cl cond (env++[some x]) m) (fun x m=>evE cl elt (env++[some x]) m) l n i acc m'),⟨lim+1,as1,m1,[],ha,start T1 S1 hD,Pc1⟩,?_⟩
    rintro i n ys H' ⟨as',m',acc,hl,M,Pi⟩
    cases n with
    | zero=>exact Pi.elim
    | succ n =>
     unfold y7 at Pi
     cases e:zE m' l with
     | none=>rw[e] at Pi;exact Pi.elim
     | some xs =>
      rw[e] at Pi
      simp only[] at Pi
      obtain ⟨a',vs,ha',eH,RL⟩:=yn M.S (zR e)
      rw[hl] at ha';cases ha'
      cases ex:xs[i]? with
      | none =>
       rw[ex] at Pi
       have hle:vs.length<=i:=by rw[<- RL.length];exact List.getElem?_eq_none_iff.mp ex
       exact .inl ⟨⟨vs,SqL.of eH,hle⟩,wK M.S M.T hD M.hD M.n M.R Pi⟩
      | some x =>
       rw[ex] at Pi
       obtain ⟨v0,hv0,Rx⟩:=RL.get ex
       refine .inr ⟨⟨vs,v0,SqL.of eH,hv0⟩,fun v H'' hy=>?_⟩
       obtain ⟨rfl,hy⟩:=hy
       have:=hy vs (SqL.of eH)
       rw[hv0] at this;cases this
       refine ⟨[v0],rfl,vG htc (sx:=[some v0]) (next:=fun acc m=>y7 (fun x m=>evE cl cond (env++[some x]) m) (fun x m=>evE cl elt (env++[some x]) m) l n (i+1) acc m) (N:=fun zs H2=>∃n',n' < n+1/\∃as' m' acc,as'[l]?=some a/\Mid K as1 H1 D env σ as' m' acc zs H2/\Post K as1 H1 Q (y7 (fun x m=>evE cl cond (env++[some x]) m) (fun x m=>evE cl elt (env++[some x]) m) l n' (i+1) acc m')) hD M (M.G.push Rx) Pi ?_⟩
       intro as2 m2 acc' ys' H2 kp g M2 P2
       exact ⟨n,Nat.lt_succ_self _,as2,m2,acc',g _ _ hl,M2,P2⟩
  | non=>exact P'.elim
  | bl k=>exact P'.elim
  | int i=>exact P'.elim
  | str s=>exact P'.elim
end
section
variable {cl:Nat->List Wd->Me->Rz}
theorem Snd.pe {X:Cx}{e:Ex}{x:Expr}(h:Snd cl X e (.e x))(hr:zr e=false):PE X x (tOf X.K (evE cl e)):=(h.1 hr).1
theorem Snd.pt {X:Cx}{e:Ex}{x:Expr}(h:Snd cl X e (.e x))(hr:zr e=false)(hi:w5 e=false):PT X x (xt X.K (evE cl e)):=(h.1 hr).2.1 hi
theorem Snd.pw {X:Cx}{e:Ex}{op:BoolOp}{vs:List Expr}{pos:Pos}(h:Snd cl X e (.e (.BoolOp op vs pos)))(hr:zr e=false):PW X (.BoolOp op vs pos) (xt X.K (evE cl e)):=(h.1 hr).2.2 op vs pos rfl
theorem Snd.pa {X:Cx}{e:Ex}{xs:List Expr}(h:Snd cl X e (.a xs)):PA X xs (v7 X.K (evE cl e)):=h
theorem zcP {sc:Scope}{x:Str}(h:qH sc x=true):Vis sc x:=by
 unfold qH at h
 simp only[Bool.or_eq_true,decide_eq_true_eq] at h
 exact h
theorem yP {sc:Scope}{x:Str}(h:glB sc x=true):sc.names.lookup x=some .globalImplicit:=of_decide_eq_true h
theorem w9 {K:PySem.W.Frag}{w:Wd}{v:V}(hv:∀as H,Rep K as H w v):∀σ H Q,tOf K (evE cl (.lit w)) σ H Q->tC v σ H Q:=fun σ H Q h=>by
 obtain ⟨as,env,m,S,G,P⟩:=h
 exact Post.ok (m:=m) P S (hv as H)
def IsE (C:Ctx)(sc:Scope)(N:List Str)(e:Ex)(n:Nd):Prop:=∀ (cl:Nat → List Wd → Me → Rz) (d:Nat) (X:Cx),CtxOk C X cl d → X.env.scope=sc → X.N=N → Snd cl X e n
theorem yH {C:Ctx}{d:Nat}{sc:Scope}{N:List Str}{e:Ex}{n:Nd}(h:IsE C sc N e n):∀X:Cx,CtxOk C X cl d->X.env.scope=sc->X.N=N->Snd cl X e n:=h cl d
theorem IsE.«var» {C:Ctx}{sc:Scope}{N:List Str}{i:Nat}{x:Str}{p:Pos}(h1:N[i]?=some x)(h2:qH sc x=true)(h3:zv x=true):IsE C sc N (.var i) (.e (.Name x p)):=by
 intro cl d
 intro X hC es eN
 subst es;subst eN
 obtain ⟨n1,n2,_⟩:=vF h3
 refine Snd.of (PE.imp (wG h1 (zcP h2) n1 n2) fun σ H Q q=>?_)
 obtain ⟨as,env,m,S,G,P⟩:=q
 cases hw:env[i]? with
 | none=>have P':Post X.K as H Q (match env[i]? with | some (some w)=>.ok w m | _=>.no):=P;rw[hw] at P';exact P'.elim
 | some o =>
  cases o with
  | none=>have P':Post X.K as H Q (match env[i]? with | some (some w)=>.ok w m | _=>.no):=P;rw[hw] at P';exact P'.elim
  | some w =>
   have P':Post X.K as H Q (match env[i]? with | some (some w)=>.ok w m | _=>.no):=P
   rw[hw] at P'
   obtain ⟨v,hv,R⟩:=G.get i w hw
   exact ⟨v,hv,Post.ok (m:=m) P' S R⟩
theorem IsE.«non» {C:Ctx}{sc:Scope}{N:List Str}{k}{p:Pos}:IsE C sc N (.lit .non) (.e (.Constant .none k p)):=by
 intro cl d
 intro X hC es eN;exact Snd.of (PE.imp qk (w9 fun _ _=>rep_non.mpr rfl))
theorem IsE.«bl» {C:Ctx}{sc:Scope}{N:List Str}{b:Bool}{k}{p:Pos}:IsE C sc N (.lit (.bl b)) (.e (.Constant (.bool b) k p)):=by
 intro cl d
 intro X hC es eN;exact Snd.of (PE.imp zgv (w9 fun _ _=>rep_bl.mpr rfl))
theorem IsE.«int» {C:Ctx}{sc:Scope}{N:List Str}{i:Int}{k}{p:Pos}:IsE C sc N (.lit (.int i)) (.e (.Constant (.int i) k p)):=by
 intro cl d
 intro X hC es eN;exact Snd.of (PE.imp zbV (w9 fun _ _=>rep_int.mpr rfl))
theorem IsE.«str» {C:Ctx}{sc:Scope}{N:List Str}{s:Str}{t:List Nat}{k}{p:Pos}(h:s.cps.toList=t):IsE C sc N (.lit (.str t)) (.e (.Constant (.str s) k p)):=by
 intro cl d
 intro X hC es eN;subst h;exact Snd.of (PE.imp ql (w9 fun _ _=>rep_str.mpr (by simp)))
theorem IsE.«con» {C:Ctx}{sc:Scope}{N:List Str}{x:Str}{i:Int}{p:Pos}(h1:glB sc x=true)(h2:C.cons.lookup x=some i)(h3:zv x=true):IsE C sc N (.lit (.int i)) (.e (.Name x p)):=by
 intro cl d
 intro X hC es eN
 subst es
 obtain ⟨n1,n2,_⟩:=vF h3
 obtain ⟨t,ht⟩:=hC.con x i h2
 exact Snd.of (PE.imp (jN (yP h1) ht (v:=.int i) ⟨t,rfl⟩ n1) (w9 fun _ _=>rep_int.mpr rfl))
theorem IsE.«bin» {C:Ctx}{sc:Scope}{N:List Str}{op:Bo}{a b:Ex}{x y:Expr}{p:Pos}(ra:zr a=false)(ha:IsE C sc N a (.e x))(rb:zr b=false)(hb:IsE C sc N b (.e y)):IsE C sc N (.bin op a b) (.e (.BinOp x (opK op) y p)):=by
 intro cl d
 have iha:=ha cl d
 have ihb:=hb cl d
 intro X hC es eN;exact Snd.of (zfR ((iha X hC es eN).pe ra) ((ihb X hC es eN).pe rb))
theorem IsE.«neg» {C:Ctx}{sc:Scope}{N:List Str}{a:Ex}{x:Expr}{p:Pos}(ra:zr a=false)(ha:IsE C sc N a (.e x)):IsE C sc N (.neg a) (.e (.UnaryOp .USub x p)):=by
 intro cl d
 have iha:=ha cl d
 intro X hC es eN;exact Snd.of (zfS ((iha X hC es eN).pe ra))
theorem IsE.«not» {C:Ctx}{sc:Scope}{N:List Str}{a:Ex}{x:Expr}{p:Pos}(ra:zr a=false)(ia:w5 a=false)(ha:IsE C sc N a (.e x)):IsE C sc N (.not a) (.e (.UnaryOp .Not x p)):=by
 intro cl d
 have iha:=ha cl d
 intro X hC es eN
 have s1:=iha X hC es eN
 exact ⟨fun _=>⟨zcF (s1.pe ra),fun _=>zfT (s1.pt ra ia),fun op vs pos z=>by cases z⟩,fun tg=>vW (zcF (s1.pe ra))⟩
theorem IsE.«and2» {C:Ctx}{sc:Scope}{N:List Str}{a b:Ex}{x y:Expr}{p:Pos}(ra:zr a=false)(ia:w5 a=false)(ha:IsE C sc N a (.e x))(rb:zr b=false)(ib:w5 b=false)(hb:IsE C sc N b (.e y)):IsE C sc N (.and a b) (.e (.BoolOp .And [x,y] p)):=by
 intro cl d
 have iha:=ha cl d
 have ihb:=hb cl d
 intro X hC es eN
 have sa:=iha X hC es eN
 have sb:=ihb X hC es eN
 have e:=fun (p:Pos)=>zcG (pos:=p) (sa.pe ra) (zbY (sb.pe rb))
 have w:=fun (p:Pos)=>zcH (pos:=p) (sa.pt ra ia) (zah (sb.pt rb ib))
 exact ⟨fun _=>⟨e _,fun _=>(w _).pt,fun op vs pos z=>by cases z;exact w _⟩,fun tg=>vW (e _)⟩
theorem IsE.«andN» {C:Ctx}{sc:Scope}{N:List Str}{a b:Ex}{x y z:Expr}{r:List Expr}{p:Pos}(ra:zr a=false)(ia:w5 a=false)(ha:IsE C sc N a (.e x))(rb:zr b=false)(hb:IsE C sc N b (.e (.BoolOp .And (y::z::r) p))):IsE C sc N (.and a b) (.e (.BoolOp .And (x::y::z::r) p)):=by
 intro cl d
 have iha:=ha cl d
 have ihb:=hb cl d
 intro X hC es eN
 have sa:=iha X hC es eN
 have sb:=ihb X hC es eN
 have e:=zcG (sa.pe ra) (sb.pe rb)
 have w:=zcH (sa.pt ra ia) (sb.pw rb)
 exact ⟨fun _=>⟨e,fun _=>w.pt,fun op vs pos z=>by cases z;exact w⟩,fun tg=>vW e⟩
theorem IsE.«or2» {C:Ctx}{sc:Scope}{N:List Str}{a b:Ex}{x y:Expr}{p:Pos}(ra:zr a=false)(ia:w5 a=false)(ha:IsE C sc N a (.e x))(rb:zr b=false)(ib:w5 b=false)(hb:IsE C sc N b (.e y)):IsE C sc N (.or a b) (.e (.BoolOp .Or [x,y] p)):=by
 intro cl d
 have iha:=ha cl d
 have ihb:=hb cl d
 intro X hC es eN
 have sa:=iha X hC es eN
 have sb:=ihb X hC es eN
 have e:=fun (p:Pos)=>zhb (pos:=p) (sa.pe ra) (zbY (sb.pe rb))
 have w:=fun (p:Pos)=>zhc (pos:=p) (sa.pt ra ia) (zfl (sb.pt rb ib))
 exact ⟨fun _=>⟨e _,fun _=>(w _).pt,fun op vs pos z=>by cases z;exact w _⟩,fun tg=>vW (e _)⟩
theorem IsE.«cmp» {C:Ctx}{sc:Scope}{N:List Str}{op:Co}{a b:Ex}{x y:Expr}{p:Pos}(hs:xi y=true)(ra:zr a=false)(ha:IsE C sc N a (.e x))(rb:zr b=false)(hb:IsE C sc N b (.e y)):IsE C sc N (.cmp op a b) (.e (.Compare x [cK op] [y] p)):=by
 intro cl d
 have iha:=ha cl d
 have ihb:=hb cl d
 intro X hC es eN
 have ea:=(iha X hC es eN).pe ra
 have eb:=(ihb X hC es eN).pe rb
 exact ⟨fun _=>⟨zcI hC.room.units ea eb hs,fun _=>zfU hC.room.units ea eb hs,fun op vs pos z=>by cases z⟩,fun tg=>vW (zcI hC.room.units ea eb hs)⟩
theorem IsE.«chain» {C:Ctx}{sc:Scope}{N:List Str}{o q:Co}{a b c:Ex}{x y z:Expr}{p:Pos}(hs:xi z=true)(ra:zr a=false)(ha:IsE C sc N a (.e x))(rb:zr b=false)(hb:IsE C sc N b (.e y))(rc:zr c=false)(hc:IsE C sc N c (.e z)):IsE C sc N (.chain o q a b c) (.e (.Compare x [cK o,cK q] [y,z] p)):=by
 intro cl d
 have iha:=ha cl d
 have ihb:=hb cl d
 have ihc:=hc cl d
 intro X hC es eN
 have ea:=(iha X hC es eN).pe ra
 have eb:=(ihb X hC es eN).pe rb
 have ec:=(ihc X hC es eN).pe rc
 exact ⟨fun _=>⟨gR hC.room.units ea eb ec hs,fun _=>zcK hC.room.units ea eb ec hs,fun op vs pos z=>by cases z⟩,fun tg=>vW (gR hC.room.units ea eb ec hs)⟩
theorem IsE.«ife» {C:Ctx}{sc:Scope}{N:List Str}{a b c:Ex}{x y z:Expr}{p:Pos}(rc:zr c=false)(ic:w5 c=false)(hc:IsE C sc N c (.e x))(ra:zr a=false)(ha:IsE C sc N a (.e y))(rb:zr b=false)(hb:IsE C sc N b (.e z)):IsE C sc N (.ife c a b) (.e (.IfExp x y z p)):=by
 intro cl d
 have ihc:=hc cl d
 have iha:=ha cl d
 have ihb:=hb cl d
 intro X hC es eN
 have e:=fun (p:Pos)=>zfV (pos:=p) ((ihc X hC es eN).pt rc ic) ((iha X hC es eN).pe ra) ((ihb X hC es eN).pe rb)
 exact ⟨fun _=>⟨e _,fun z=>(by cases z),fun op vs pos z=>(by cases z)⟩,fun tg=>vW (e _)⟩
theorem IsE.«unit» {C:Ctx}{sc:Scope}{N:List Str}:IsE C sc N .unit (.a []):=by
 intro cl d
 intro X hC es eN;exact zei
theorem IsE.«pair» {C:Ctx}{sc:Scope}{N:List Str}{a b:Ex}{x:Expr}{xs:List Expr}(hs:zn x=true)(ra:zr a=false)(ha:IsE C sc N a (.e x))(hb:IsE C sc N b (.a xs)):IsE C sc N (.pair a b) (.a (x::xs)):=by
 intro cl d
 have iha:=ha cl d
 have ihb:=hb cl d
 intro X hC es eN;exact zej ((iha X hC es eN).pe ra) (ihb X hC es eN).pa hs
theorem IsE.«call» {C:Ctx}{sc:Scope}{N:List Str}{k:Nat}{a:Ex}{f:Str}{y:Expr}{ys:List Expr}{p p':Pos}(h1:C.fns[k]?=some f)(h2:glB sc f=true)(h3:zv f=true)(hs:(y::ys).all zn=true)(ha:IsE C sc N a (.a (y::ys))):IsE C sc N (.call k a) (.e (.Call (.Name f p) (y::ys) [] p')):=by
 intro cl d
 have iha:=ha cl d
 intro X hC es eN;subst es;exact Snd.of (zek hC h1 (yP h2) h3 hs (iha X hC rfl eN).pa)
theorem IsE.«blt» {C:Ctx}{sc:Scope}{N:List Str}{b:Blf}{a:Ex}{nm:Str}{f:Value}{y:Expr}{ys:List Expr}{p p':Pos}(h1:zfO b=some (nm,f))(h2:glB sc nm=true)(h3:zv nm=true)(hs:(y::ys).all zn=true)(ha:IsE C sc N a (.a (y::ys))):IsE C sc N (.blt b a) (.e (.Call (.Name nm p) (y::ys) [] p')):=by
 intro cl d
 have iha:=ha cl d
 intro X hC es eN;subst es;exact Snd.of (zfW hC h1 (yP h2) h3 hs (iha X hC rfl eN).pa)
theorem IsE.«isi» {C:Ctx}{sc:Scope}{N:List Str}{t:Tg}{a:Ex}{y:Expr}{p p' p'':Pos}(h1:glB sc "isinstance" = true)(h2:glB sc (Str.ofString (tgT t))=true)(hs:zn y=true)(ra:zr a=false)(ha:IsE C sc N a (.e y)):IsE C sc N (.isi t a) (.e (.Call (.Name "isinstance" p) [y,.Name (Str.ofString (tgT t)) p'] [] p'')):=by
 intro cl d
 have iha:=ha cl d
 intro X hC es eN;subst es;exact Snd.of (zfX hC (yP h1) (yP h2) hs ((iha X hC rfl eN).pe ra))
theorem IsE.«lst» {C:Ctx}{sc:Scope}{N:List Str}{a:Ex}{xs:List Expr}{p:Pos}(ha:IsE C sc N a (.a xs)):IsE C sc N (.lst a) (.e (.List xs p)):=by
 intro cl d
 have iha:=ha cl d
 intro X hC es eN;exact Snd.of (zfY (iha X hC es eN).pa)
theorem IsE.«tup» {C:Ctx}{sc:Scope}{N:List Str}{a:Ex}{xs:List Expr}{k}{p:Pos}(ha:IsE C sc N a (.a xs)):IsE C sc N (.tup a) (.e (.Tuple xs k p)):=by
 intro cl d
 have iha:=ha cl d
 intro X hC es eN;exact Snd.of (zfZ (iha X hC es eN).pa)
theorem IsE.«idx» {C:Ctx}{sc:Scope}{N:List Str}{a b:Ex}{x y:Expr}{p:Pos}(hs:yO y=true)(ra:zr a=false)(ha:IsE C sc N a (.e x))(rb:zr b=false)(hb:IsE C sc N b (.e y)):IsE C sc N (.idx a b) (.e (.Subscript x y p)):=by
 intro cl d
 have iha:=ha cl d
 have ihb:=hb cl d
 intro X hC es eN;exact Snd.of (zf0 ((iha X hC es eN).pe ra) ((ihb X hC es eN).pe rb) hs)
theorem IsE.«slL» {C:Ctx}{sc:Scope}{N:List Str}{a b:Ex}{x y:Expr}{p p':Pos}(ra:zr a=false)(ha:IsE C sc N a (.e x))(rb:zr b=false)(hb:IsE C sc N b (.e y)):IsE C sc N (.slL a b) (.e (.Subscript x (.Slice (some y) none none p') p)):=by
 intro cl d
 have iha:=ha cl d
 have ihb:=hb cl d
 intro X hC es eN;exact Snd.of (zf1 ((iha X hC es eN).pe ra) ((ihb X hC es eN).pe rb))
theorem IsE.«meth0» {C:Ctx}{sc:Scope}{N:List Str}{k:Mth}{o:Ex}{x:Expr}{ap cp:Pos}(hx:wZ x=true)(hl:(ap.endLine == cp.line)=true)(ro:zr o=false)(ho:IsE C sc N o (.e x)):IsE C sc N (.meth k o .unit) (.e (.Call (.Attribute x (mtV k).1 ap) [] [] cp)):=by
 intro cl d
 have iho:=ho cl d
 intro X hC es eN;exact Snd.of (zcO ((iho X hC es eN).pe ro) hx hl)
theorem IsE.«meth» {C:Ctx}{sc:Scope}{N:List Str}{k:Mth}{o a:Ex}{x y:Expr}{ys:List Expr}{ap cp:Pos}(hx:wZ x=true)(hl:(ap.endLine == cp.line)=true)(hn:(y::ys).length < 29)(hs:(y::ys).all zn=true)(ro:zr o=false)(ho:IsE C sc N o (.e x))(ha:IsE C sc N a (.a (y::ys))):IsE C sc N (.meth k o a) (.e (.Call (.Attribute x (mtV k).1 ap) (y::ys) [] cp)):=by
 intro cl d
 have iho:=ho cl d
 have iha:=ha cl d
 intro X hC es eN;exact Snd.of (zem ((iho X hC es eN).pe ro) (iha X hC es eN).pa hx hl hn hs)
theorem IsE.«rng1» {C:Ctx}{sc:Scope}{N:List Str}{b:Ex}{y:Expr}{p p':Pos}(hg:glB sc "range" = true)(hs:zn y=true)(rb:zr b=false)(hb:IsE C sc N b (.e y)):IsE C sc N (.rng (.lit (.int 0)) b (.lit (.int 1))) (.e (.Call (.Name "range" p) [y] [] p')):=by
 intro cl d
 have ihb:=hb cl d
 intro X hC es eN;subst es;exact ⟨fun z=>(by cases z),fun tg=>zen hC (yP hg) hs ((ihb X hC rfl eN).pe rb)⟩
theorem IsE.«rng2» {C:Ctx}{sc:Scope}{N:List Str}{a b:Ex}{x y:Expr}{p p':Pos}(hg:glB sc "range" = true)(hs:zn x=true)(hs':zn y=true)(ra:zr a=false)(ha:IsE C sc N a (.e x))(rb:zr b=false)(hb:IsE C sc N b (.e y)):IsE C sc N (.rng a b (.lit (.int 1))) (.e (.Call (.Name "range" p) [x,y] [] p')):=by
 intro cl d
 have iha:=ha cl d
 have ihb:=hb cl d
 intro X hC es eN;subst es;exact ⟨fun z=>(by cases z),fun tg=>zeo hC (yP hg) hs hs' ((iha X hC rfl eN).pe ra) ((ihb X hC rfl eN).pe rb)⟩
theorem IsE.«rng3» {C:Ctx}{sc:Scope}{N:List Str}{a b c:Ex}{x y z:Expr}{p p':Pos}(hg:glB sc "range" = true)(hs:zn x=true)(hs':zn y=true)(hs2:zn z=true)(ra:zr a=false)(ha:IsE C sc N a (.e x))(rb:zr b=false)(hb:IsE C sc N b (.e y))(rc:zr c=false)(hc:IsE C sc N c (.e z)):IsE C sc N (.rng a b c) (.e (.Call (.Name "range" p) [x,y,z] [] p')):=by
 intro cl d
 have iha:=ha cl d
 have ihb:=hb cl d
 have ihc:=hc cl d
 intro X hC es eN;subst es;exact ⟨fun z=>(by cases z),fun tg=>zep hC (yP hg) hs hs' hs2 ((iha X hC rfl eN).pe ra) ((ihb X hC rfl eN).pe rb) ((ihc X hC rfl eN).pe rc)⟩
theorem IsE.«lrng» {C:Ctx}{sc:Scope}{N:List Str}{a:Ex}{y:Expr}{p p' q q':Pos}(hl:glB sc "list" = true)(hg:glB sc "range" = true)(hs:zn y=true)(ra:zr a=false)(ha:IsE C sc N a (.e y)):IsE C sc N (.lrng a) (.e (.Call (.Name "list" p) [.Call (.Name "range" q) [y] [] q'] [] p')):=by
 intro cl d
 have iha:=ha cl d
 intro X hC es eN;subst es;exact Snd.of (zeq hC (yP hl) (yP hg) hs ((iha X hC rfl eN).pe ra))
theorem IsE.«comp0» {C:Ctx}{sc scope:Scope}{N:List Str}{elt it:Ex}{x i:Expr}{y:Str}{p p':Pos}(hs:xi i=true)(hB:vE sc N scope [y]=true)(hi:IsE C sc N it (.e i))(re:zr elt=false)(he:IsE C (w6 scope sc) (xh N [y]) elt (.e x)):IsE C sc N (.comp elt it (.lit (.bl true))) (.e (.ListComp x [⟨.Name y p,i,[],0⟩] scope p')):=by
 intro cl d
 have ihi:=hi cl d
 have ihe:=he cl d
 intro X hC es eN
 subst es;subst eN
 have B:=xK hB
 have hI:=(ihi X hC rfl rfl).2 (.Name y p)
 have hset:∀v,foldedSetIterable i X.env v=pure v:=fun v=>by cases i <;> first | rfl | cases hs
 have body:∀Xc,CompOf X scope [y] Xc->PE Xc x (tOf X.K (evE cl elt)):=fun Xc c=>by
  have q:=(ihe Xc (hC.comp c) c.sc c.N).pe re
  rw[c.K] at q
  exact q
 refine Snd.of (PE.imp (jV B hC.calm (zao B) hI (fun Xc c=>⟨kg,body Xc c⟩) hset) fun σ H Q q=>jF (fun σ H Q q=>?_) q)
 obtain ⟨as,env,m,S,G,P⟩:=q
 obtain ⟨b,e,q⟩:=Post.ok (m:=m) P S (rep_bl.mpr rfl)
 cases e
 exact q
theorem IsE.«compZ0» {C:Ctx}{sc scope:Scope}{N:List Str}{elt a b:Ex}{x i j:Expr}{y z:Str}{p p' q q' q2 pt:Pos}{kt:Nat}(hg:glB sc "zip" = true)(hB:vE sc N scope [y,z]=true)(hs:zn i=true)(hs':zn j=true)(ra:zr a=false)(ha:IsE C sc N a (.e i))(rb:zr b=false)(hb:IsE C sc N b (.e j))(re:zr elt=false)(he:IsE C (w6 scope sc) (xh N [y,z]) elt (.e x)):
   IsE C sc N (.compP .zip elt a b (.lit (.bl true))) (.e (.ListComp x [⟨.Tuple [.Name y p,.Name z q] kt pt,.Call (.Name "zip" q') [i,j] [] q2,[],0⟩] scope p')):=by
 intro cl d
 have iha:=ha cl d
 have ihb:=hb cl d
 have ihe:=he cl d
 intro X hC es eN
 subst es;subst eN
 have B:=xK hB
 have hI:PI X (.Tuple [.Name y p,.Name z q] kt pt) (.Call (.Name "zip" q') [i,j] [] q2) _:=zfJ (yP hg) (hC.blt _ (by simp[zu])) (zy ((iha X hC rfl rfl).pe ra) (zy ((ihb X hC rfl rfl).pe rb) yA (zi hs')) (zi hs)) (by rw[zi hs,zi hs'];rfl) (zi hs')
 have body:∀Xc,CompOf X scope [y,z] Xc->PE Xc x (tOf X.K (evE cl elt)):=fun Xc c=>by
  have q:=(ihe Xc (hC.comp c) c.sc c.N).pe re
  rw[c.K] at q
  exact q
 refine Snd.of (PE.imp (jV B hC.calm (zap hC.calm B) hI (fun Xc c=>⟨kg,body Xc c⟩) (fun _=>rfl)) fun σ H Q q=>qM (fun σ H Q q=>?_) q)
 obtain ⟨as,env,m,S,G,P⟩:=q
 obtain ⟨b,e,q⟩:=Post.ok (m:=m) P S (rep_bl.mpr rfl)
 cases e
 exact q
theorem IsE.«compES» {C:Ctx}{sc scope:Scope}{N:List Str}{elt a:Ex}{x i:Expr}{y z:Str}{p p' q q' q2 pt kp cp:Pos}{kt:Nat}{ck}(hg:glB sc "enumerate" = true)(hB:vE sc N scope [y,z]=true)(hs:zn i=true)(ra:zr a=false)(ha:IsE C sc N a (.e i))(re:zr elt=false)(he:IsE C (w6 scope sc) (xh N [y,z]) elt (.e x)):
   IsE C sc N (.compP .enum elt a (.lit (.int 1)) (.lit (.bl true))) (.e (.ListComp x [⟨.Tuple [.Name y p,.Name z q] kt pt,.Call (.Name "enumerate" q') [i] [⟨some "start",.Constant (.int 1) ck cp,kp⟩] q2,[],0⟩] scope p')):=by
 intro cl d
 have iha:=ha cl d
 have ihe:=he cl d
 intro X hC es eN
 subst es;subst eN
 have B:=xK hB
 have hI:PI X (.Tuple [.Name y p,.Name z q] kt pt) (.Call (.Name "enumerate" q') [i] [⟨some "start",.Constant (.int 1) ck cp,kp⟩] q2) _:=zcl (yP hg) (hC.blt _ (by simp[zu])) (zy ((iha X hC rfl rfl).pe ra) yA (zi hs)) (zi hs)
 have body:∀Xc,CompOf X scope [y,z] Xc->PE Xc x (tOf X.K (evE cl elt)):=fun Xc c=>by
  have q:=(ihe Xc (hC.comp c) c.sc c.N).pe re
  rw[c.K] at q
  exact q
 refine Snd.of (PE.imp (jV B hC.calm (zap hC.calm B) hI (fun Xc c=>⟨kg,body Xc c⟩) (fun _=>rfl)) fun σ H Q q=>qN (c:=1) rfl (fun σ H Q q=>?_) q)
 obtain ⟨as,env,m,S,G,P⟩:=q
 obtain ⟨b,e,q⟩:=Post.ok (m:=m) P S (rep_bl.mpr rfl)
 cases e
 exact q
end
theorem zf3 {o i p j a b:Expr}{p1 p2 p3 p4:Pos}{k k':Nat}{env:Env}:swappedStores [.Tuple [.Subscript o i p1,.Subscript p j p2] k p3] (.Tuple [a,b] k' p4) env=pure none:=by
 unfold swappedStores
 simp only[]
 split
 .rfl
 .split
  .rfl
  .rfl
theorem zf4 {o i v:Expr}{p1:Pos}{env:Env}:swappedStores [.Subscript o i p1] v env=pure none:=rfl
theorem zay {v tg:Expr}{line:Nat}{env:Env}(h:∀x p,tg≠.Name x p):swapsWithSole [tg] v line env=pure false:=by
 cases v <;> first | rfl | (cases tg <;> first | rfl | exact absurd rfl (h _ _))
noncomputable def jY:Expr->Bool
 | .ListComp _ _ _ _=>true
 | .SetComp _ _ _ _=>true
 | .DictComp _ _ _ _ _=>true
 | _=>false
theorem qO {v:Expr}{t:Option Expr}{line:Nat}{env:Env}(h:jY v=false):swapsWith v t line env=pure false:=by
 cases v <;> first | rfl | cases h
def PostS (K:PySem.W.Frag)(as:List Addr)(H:Hp)(D:Ends)(r:Rs):Prop:=match r with
 | .next e m'=>∀as' H' σ',Step as H as' H'->Sim K as' m' H'->EnvRep K as' H' e σ'->D.nx σ' H'
 | .brk e m'=>∀as' H' σ',Step as H as' H'->Sim K as' m' H'->EnvRep K as' H' e σ'->D.bk σ' H'
 | .cont e m'=>∀as' H' σ',Step as H as' H'->Sim K as' m' H'->EnvRep K as' H' e σ'->D.ct σ' H'
 | .ret w m'=>∀as' H' v,Step as H as' H'->Sim K as' m' H'->Rep K as' H' w v->D.rt v H'
 | _=>False
def y8 (K:PySem.W.Frag)(g:En->Me->Rs):TS:=fun D σ H=>∃as env m,Sim K as m H/\EnvRep K as H env σ/\PostS K as H D (g env m)
section
variable {K:PySem.W.Frag}{as as':List Addr}{H H':Hp}{m:Me}{D:Ends}
theorem PostS.step {r:Rs}(h:PostS K as H D r)(T:Step as H as' H'):PostS K as' H' D r:=by
 cases r with
 | next e m'=>exact fun as2 H2 σ' U S G=>h as2 H2 σ' (T.trans U) S G
 | brk e m'=>exact fun as2 H2 σ' U S G=>h as2 H2 σ' (T.trans U) S G
 | cont e m'=>exact fun as2 H2 σ' U S G=>h as2 H2 σ' (T.trans U) S G
 | ret w m'=>exact fun as2 H2 v U S R=>h as2 H2 v (T.trans U) S R
 | exc c w e m'=>exact h
 | no=>exact h
theorem PostS.bind {Q1:VK}{r:Rz}{env:En}{f:Wd->Me->Rs}(h:PostS K as H D (r.bindS env f))
  (k:∀w m' as' H' v,Step as H as' H'->Sim K as' m' H'->Rep K as' H' w v->PostS K as' H' D (f w m')->Q1 v H'):Post K as H Q1 r:=by
 cases r with
 | ok w m'=>exact fun as2 H2 v U S R=>k w m' as2 H2 v U S R (PostS.step (r:=f w m') h U)
 | exc c w m'=>exact h
 | no=>exact h
theorem PostS.bindI {R1:It->Hp->Prop}{r:Rz}{env:En}{f:Wd->Me->Rs}(h:PostS K as H D (r.bindS env f))
  (k:∀w m',PostS K as H D (f w m')->(xu m' w).isSome=true/\∀as' H' J,Step as H as' H'->Sim K as' m' H'->zha K as' H' w J->R1 J H'):PostI K as H R1 r:=by
 cases r with
 | ok w m'=>exact k w m' h
 | exc c w m'=>exact h
 | no=>exact h
theorem PostS.next {env:En}{σ:St}(h:PostS K as H D (.next env m))(S:Sim K as m H)(G:EnvRep K as H env σ):D.nx σ H:=h as H σ .refl S G
end
section
variable {cl:Nat->List Wd->Me->Rz}{X:Cx}{e o i:Ex}{x y z:Expr}{pos:Pos}
theorem zer:PSs X [] (y8 X.K (exS cl .skip)):=PSs.imp v9 fun D σ H h=>by
 obtain ⟨as,env,m,S,G,P⟩:=h
 exact PostS.next (m:=m) P S G
theorem zcQ {a b:Sm}{st:Stmt}{sts:List Stmt}(ha:PS X st (y8 X.K (exS cl a)))(hb:PSs X sts (y8 X.K (exS cl b))):PSs X (st::sts) (y8 X.K (exS cl (.seq a b))) :=
 PSs.imp (xH ha hb) fun D σ H h=>by
  obtain ⟨as,env,m,S,G,P⟩:=h
  refine ⟨as,env,m,S,G,?_⟩
  have P':PostS X.K as H D (match exS cl a env m with | .next e1 m1=>exS cl b e1 m1 | r=>r):=P
  cases hr:exS cl a env m with
  | next e1 m1 =>
   rw[hr] at P'
   exact fun as' H' σ' T S' G'=>⟨as',e1,m1,S',G',PostS.step P' T⟩
  | brk e1 m1=>rw[hr] at P';exact P'
  | cont e1 m1=>rw[hr] at P';exact P'
  | ret w m1=>rw[hr] at P';exact P'
  | exc c w e1 m1=>rw[hr] at P';exact P'
  | no=>rw[hr] at P';exact P'
theorem kU {K:PySem.W.Frag}{i:Nat}{e:Ex}{D:Ends}{σ:St}{H:Hp}(h:y8 K (exS cl (.asg i e)) D σ H):zdP (tOf K (evE cl e)) (vV i) D σ H:=by
 obtain ⟨as,env,m,S,G,P⟩:=h
 refine ⟨as,env,m,S,G,PostS.bind P fun w m1 as1 H1 v T1 S1 R1 P1=>?_⟩
 exact PostS.next (m:=m1) P1 S1 ((G.mono S T1).set R1 i)
theorem zf5 (he:PE X x (tOf X.K (evE cl e))):PS X (.Return (some x) pos) (y8 X.K (exS cl (.ret e))):=PS.imp (zb0 he) fun D σ H h=>by
 obtain ⟨as,env,m,S,G,P⟩:=h
 refine ⟨as,env,m,S,G,PostS.bind P fun w m1 as1 H1 v T1 S1 R1 P1=>?_⟩
 exact P1 as1 H1 v .refl S1 R1
theorem zes (he:PE X x (tOf X.K (evE cl e)))(hc:jY x=false):PS X (.Expr x pos) (y8 X.K (exS cl (.expr e))):=PS.imp (zdO he (qO hc)) fun D σ H h=>by
 obtain ⟨as,env,m,S,G,P⟩:=h
 refine ⟨as,env,m,S,G,PostS.bind P fun w m1 as1 H1 v T1 S1 R1 P1=>?_⟩
 exact PostS.next (m:=m1) P1 S1 (G.mono S T1)
theorem zcR {st:Stmt}:PS X st (y8 X.K (exS cl .never)):=PS.imp zb1 fun D σ H h=>by
 obtain ⟨as,env,m,S,G,P⟩:=h
 exact P
theorem zhe {a b:Sm}{xs ys:List Stmt}(hc:PT X x (xt X.K (evE cl e)))(ha:PSs X xs (y8 X.K (exS cl a)))(hb:PSs X ys (y8 X.K (exS cl b))):PS X (.If x xs ys pos) (y8 X.K (exS cl (.ite e a b))) :=
 PS.imp (zai hc ha hb) fun D σ H h=>by
  obtain ⟨as,env,m,S,G,P⟩:=h
  refine ⟨as,env,m,S,G,PostS.bind P fun w m1 as1 H1 v T1 S1 R1 P1=>?_⟩
  cases w with
  | bl k =>
   obtain rfl:=rep_bl.mp R1
   refine ⟨k,rfl,?_⟩
   cases k with
   | true=>exact gD ⟨as1,env,m1,S1,G.mono S T1,P1⟩
   | false=>exact jT ⟨as1,env,m1,S1,G.mono S T1,P1⟩
  | _=>exact P1.elim
theorem kW {K:PySem.W.Frag}{as:List Addr}{H:Hp}{m:Me}{D:Ends}{env:En}{o i w:Wd}{vo vi v:V}{Q:Hp->Prop}{f:Wd->Me->Rs}(S:Sim K as m H)(Ro:Rep K as H o vo)(Ri:Rep K as H i vi)(Rw:Rep K as H w v)
  (h:PostS K as H D ((wU o i w m).bindS env f)) (k:∀m' H',Step as H as H'->Sim K as m' H'->PostS K as H' D (f .non m')->Q H'):gC vo vi v H Q:=by
 have key:∀r,wU o i w m=r->(∃m',r=.ok .non m')\/r=.no:=fun r e=>by
  unfold wU at e
  split at e
  .split at e
   .split at e
    .exact .inl ⟨_,e.symm⟩
    .exact .inr e.symm
   .exact .inr e.symm
  .exact .inr e.symm
 rcases key _ rfl with ⟨m',e⟩ | e
 .refine zfQ S Ro Ri Rw (fun m2 e2 H' T S'=>?_) ⟨m',e⟩
  rw[e] at e2;cases e2
  rw[e] at h
  exact k m' H' T S' (PostS.step (r:=f .non m') h T)
 .rw[e] at h;exact h.elim
theorem wL {o i:Expr}{p:Pos}{env:Env}(hs:yO i=true):∀v,assign (.Subscript o i p) env v=(do
   let ov <- holding [v] (eval o env)
   let iv <- holding [v,ov] (eval i env)
   standAt p
   holding [v,ov,iv] (setItem ov iv v)
   release [v,ov,iv] []):=fun v=>by
 cases i <;> first | rfl | cases hs
theorem zet {p1:Pos}(ho:PE X x (tOf X.K (evE cl o)))(hi:PE X y (tOf X.K (evE cl i)))(he:PE X z (tOf X.K (evE cl e)))(hs:yO y=true):PS X (.Assign [.Subscript x y p1] z pos) (y8 X.K (exS cl (.asgS o i e))) :=
 PS.imp (zb3 he (qo ho hi kG (wL hs)) (zay (by intros;intro q;cases q)) zf4) fun D σ H h=>by
  obtain ⟨as,env,m,S,G,P⟩:=h
  refine ⟨as,env,m,S,G,PostS.bind P fun w m1 as1 H1 v T1 S1 R1 P1=>?_⟩
  refine ⟨as1,env,m1,S1,G.mono S T1,PostS.bind P1 fun wo m2 as2 H2 vo T2 S2 R2 P2=>?_⟩
  refine ⟨as2,env,m2,S2,(G.mono S T1).mono S1 T2,PostS.bind P2 fun wi m3 as3 H3 vi T3 S3 R3 P3=>?_⟩
  refine kW S3 (R2.mono S2 T3) R3 ((R1.mono S1 T2).mono S2 T3) P3 fun m4 H4 T4 S4 P4=>?_
  exact PostS.next (m:=m4) P4 S4 ((((G.mono S T1).mono S1 T2).mono S2 T3).mono S3 T4)
end
section
variable {cl:Nat->List Wd->Me->Rz}{X:Cx}{o i p j a b:Ex}{x y z u v w:Expr}{pos:Pos}
theorem zcS {p1 p2 p3 p4:Pos}{k k':Nat}(hc:X.calm=true)(ho:PE X x (tOf X.K (evE cl o)))(hi:PE X y (tOf X.K (evE cl i)))(hp:PE X z (tOf X.K (evE cl p)))(hj:PE X u (tOf X.K (evE cl j)))
  (ha:PE X v (tOf X.K (evE cl a))) (hb:PE X w (tOf X.K (evE cl b))) (hs:yO y=true) (hs':yO u=true) (h1:zn v=true) (h2:zn w=true) :
  PS X (.Assign [.Tuple [.Subscript x y p1,.Subscript z u p2] k p3] (.Tuple [v,w] k' p4) pos) (y8 X.K (exS cl (.swapS o i p j a b))):=by
 have hG:PG X (.Tuple [.Subscript x y p1,.Subscript z u p2] k p3) (zfr X.K 2 (gx (zfs (tOf X.K (evE cl o)) (tOf X.K (evE cl i)) gC) (gx (zfs (tOf X.K (evE cl p)) (tOf X.K (evE cl j)) gC) zfq))) :=
  zb2 hc (wP (qo ho hi kG (wL hs)) (wP (qo hp hj kG (wL hs')) zaj))
 refine PS.imp (zb3 (kF (zy ha (zy hb yA (zi h2)) (zi h1))) hG (zay (by intros;intro q;cases q)) zf3) fun D σ H h=>?_
 obtain ⟨as,env,m,S,G,P⟩:=h
 refine ⟨as,env,m,S,G,PostS.bind P fun wa m0 as0 H0 va T0 S0 R0 P0=>?_⟩
 have G0:=G.mono S T0
 refine ⟨as0,env,m0,S0,G0,PostS.bind P0 fun wb m1 as1 H1 vb T1 S1 R1 P1=>⟨by show 2<=sizeLine;rw[sizeLine_eq];decide,fun q hq=>?_⟩⟩
 have Ra:=R0.mono S0 T1
 obtain ⟨Tt,St',Rt⟩:=S1.tup (ws:=[wa,wb]) (vs:=[va,vb]) hq (repL_cons.mpr ⟨va,[vb],rfl,Ra,.one R1⟩)
 have G1:=(G0.mono S0 T1).mono S1 Tt
 refine ⟨q,[va,vb],rfl,SqT.of zg,rfl,va,[vb],rfl,?_⟩
 have P1':=PostS.step P1 Tt
 refine ⟨as1,env,m1,St',G1,PostS.bind P1' fun wo m2 as2 H2 vo T2 S2 R2 P2=>?_⟩
 refine ⟨as2,env,m2,S2,G1.mono St' T2,PostS.bind P2 fun wi m3 as3 H3 vi T3 S3 R3 P3=>?_⟩
 have Ra3:=((Ra.mono S1 Tt).mono St' T2).mono S2 T3
 refine kW S3 (R2.mono S2 T3) R3 Ra3 P3 fun m4 H4 T4 S4 P4=>?_
 have G4:=((G1.mono St' T2).mono S2 T3).mono S3 T4
 refine ⟨vb,[],rfl,?_⟩
 refine ⟨as3,env,m4,S4,G4,PostS.bind P4 fun wp m5 as5 H5 vp T5 S5 R5 P5=>?_⟩
 refine ⟨as5,env,m5,S5,G4.mono S4 T5,PostS.bind P5 fun wj m6 as6 H6 vj T6 S6 R6 P6=>?_⟩
 have Rb6:=(((((R1.mono S1 Tt).mono St' T2).mono S2 T3).mono S3 T4).mono S4 T5).mono S5 T6
 refine kW S6 (R5.mono S5 T6) R6 Rb6 P6 fun m7 H7 T7 S7 P7=>?_
 exact ⟨rfl,PostS.next (m:=m7) P7 S7 (((G4.mono S4 T5).mono S5 T6).mono S6 T7)⟩
end
section
variable {K:PySem.W.Frag}
structure TgtOk (K:PySem.W.Frag)(g:TG)(st:Wd->En->Option En):Prop where
 ok:∀ {as:List Addr}{H:Hp}{m:Me}{env env':En}{σ:St}{w:Wd}{v:V}{Q:L2.St->Hp->Prop},Sim K as m H->EnvRep K as H env σ->Rep K as H w v->st w env=some env'->(∀σ',EnvRep K as H env' σ'->Q σ' H)->g v σ H Q
theorem zcT (i:Nat):TgtOk K (vV i) (fun w env=>some (env.set i (some w))) :=
 ⟨fun S G R e k=>by cases e;exact k _ (G.set R i)⟩
theorem gX {g:TG}{st:Wd->En->Option En}{b:En->Me->Rs}(hg:TgtOk K g st){D:Ends}{as1 as':List Addr}{H1 H':Hp}{m':Me}{env':En}{σ':St}{x:Wd}{v:V}{next:En->Me->Rs}{N:L2.St->Hp->Prop}(T:Step as1 H1 as' H')(S':Sim K as' m' H')(G':EnvRep K as' H' env' σ')(Rx:Rep K as' H' x v)
  (Pt:PostS K as1 H1 D (match yN st b x env' m' with
    | .next e1 m1=>next e1 m1
    | .cont e1 m1=>next e1 m1
    | .brk e1 m1=>.next e1 m1
    | r=>r))
  (hN:∀as2 m2 e2 σ2 H2,Step as' H' as2 H2->Sim K as2 m2 H2->EnvRep K as2 H2 e2 σ2->PostS K as1 H1 D (next e2 m2)->N σ2 H2) :
  g v σ' H' fun σ2 H2=>y8 K b { D with nx:=N,ct:=N,bk:=D.nx } σ2 H2:=by
 unfold yN at Pt
 cases hs:st x env' with
 | none=>rw[hs] at Pt;exact Pt.elim
 | some e2 =>
  rw[hs] at Pt
  simp only[] at Pt
  refine hg.ok S' G' Rx hs fun σ2 G2=>⟨as',e2,m',S',G2,?_⟩
  cases hr:b e2 m' with
  | next e3 m3=>rw[hr] at Pt;exact fun as3 H3 σ3 U S3 G3=>hN as3 m3 e3 σ3 H3 U S3 G3 Pt
  | cont e3 m3=>rw[hr] at Pt;exact fun as3 H3 σ3 U S3 G3=>hN as3 m3 e3 σ3 H3 U S3 G3 Pt
  | brk e3 m3=>rw[hr] at Pt;exact fun as3 H3 σ3 U S3 G3=>Pt as3 H3 σ3 (T.trans U) S3 G3
  | ret w' m3=>rw[hr] at Pt;exact fun as3 H3 v3 U S3 R3=>Pt as3 H3 v3 (T.trans U) S3 R3
  | exc c w' e3 m3=>rw[hr] at Pt;exact Pt.elim
  | no=>rw[hr] at Pt;exact Pt.elim
theorem zcU {it:En->Me->Rz}{g:TG}{st:Wd->En->Option En}{b:En->Me->Rs}(hg:TgtOk K g st){D:Ends}{σ:St}{H:Hp}
  (h:y8 K (fun env m=>(it env m).bindS env fun w m1=>jm (yN st b) w env m1) D σ H):zgH (iOf K it) g (y8 K b) D σ H:=by
 obtain ⟨as,env,m,S,G,P⟩:=h
 refine ⟨as,env,m,S,G,PostS.bindI P fun w m1 P1=>?_⟩
 have seqs:∀ (xs:List Wd),PostS K as H D (wF (yN st b) xs env m1)->∀as1 H1 J,Step as H as1 H1->Sim K as1 m1 H1->zaw K as1 H1 J xs ->
   ∃W:Nat->Nat->L2.St->Hp->Prop,(∃m,W 0 m σ H1)/\∀i m σ H,W i m σ H ->
    (J.stop i H/\D.nx σ H)\/(J.go i H/\∃N:L2.St->Hp->Prop,(∀σ' H',N σ' H'->∃m',m' < m/\W (i+1) m' σ' H')/\∀x H',J.yld i H x H'->g x σ H' fun σ2 H2=>y8 K b { D with nx:=N,ct:=N,bk:=D.nx } σ2 H2):=by
  intro xs Pc as1 H1 J T1 S1 hI
  obtain ⟨vs,ok,hJ,ok1,RL,stab⟩:=hI
  have hlen:=RL.length
  have Pc1:=PostS.step Pc T1
  refine ⟨fun i n σ' H'=>∃as' m' env',i<=xs.length/\n=xs.length - i/\Step as1 H1 as' H'/\Sim K as' m' H'/\EnvRep K as' H' env' σ'/\ok H'/\RepL K as' H' xs vs/\PostS K as1 H1 D (wF (yN st b) (xs.drop i) env' m'),
   ⟨xs.length,as1,m1,env,Nat.zero_le _,rfl,.refl,S1,G.mono S T1,ok1,RL,Pc1⟩,?_⟩
  rintro i n σ' H' ⟨as',m',env',hi,rfl,T',S',G',okH,RL',Pi⟩
  by_cases hlt:i < xs.length
  .refine .inr ⟨hJ.go i H' okH (by rw[<- hlen];exact hlt),fun σ2 H2=>∃as2 m2 env2,i+1<=xs.length/\Step as1 H1 as2 H2/\Sim K as2 m2 H2/\EnvRep K as2 H2 env2 σ2/\ok H2/\RepL K as2 H2 xs vs/\PostS K as1 H1 D (wF (yN st b) (xs.drop (i+1)) env2 m2),?_,fun v H'' hy=>?_⟩
   .rintro σ2 H2 ⟨as2,m2,env2,q⟩
    exact ⟨xs.length - (i+1),by lia,as2,m2,env2,q.1,rfl,q.2⟩
   .obtain ⟨rfl,hv⟩:=hJ.yld i H' v H'' okH (by rw[<- hlen];exact hlt) hy
    obtain ⟨v',hv',Rx⟩:=RL'.get (i:=i) (x:=xs[i]) (by simp[hlt])
    rw[hv] at hv';cases hv'
    rw[List.drop_eq_getElem_cons hlt] at Pi
    refine gX hg (next:=fun e m=>wF (yN st b) (xs.drop (i+1)) e m) T' S' G' Rx Pi ?_
    intro as2 m2 e2 σ2 H2 U S2 G2 P2
    exact ⟨as2,m2,e2,hlt,T'.trans U,S2,G2,stab _ _ (S'.kp U) okH,RL'.mono S' U,P2⟩
  .have e:i=xs.length:=by lia
   subst e
   rw[List.drop_length] at Pi
   exact .inl ⟨hJ.stop _ H' okH (by lia),Pi as' H' σ' T' S' G'⟩
 cases w with
 | tup xs=>exact ⟨rfl,fun as1 H1 J T1 S1 hI=>seqs xs P1 as1 H1 J T1 S1 hI⟩
 | rol xs=>exact ⟨rfl,fun as1 H1 J T1 S1 hI=>seqs xs P1 as1 H1 J T1 S1 hI⟩
 | ref l =>
  have P2:PostS K as H D (xY (yN st b) l (lim+1) 0 env m1):=P1
  refine ⟨?_,fun as1 H1 J T1 S1 hI=>?_⟩
  .show (zE m1 l).isSome=true
   cases e:zE m1 l with
   | some xs=>rfl
   | none =>
    unfold xY at P2
    rw[e] at P2
    exact P2.elim
  .obtain ⟨a,ha,rfl⟩:=hI
   have Pc1:=PostS.step P2 T1
   refine ⟨fun i n σ' H'=>∃as' m' env',as'[l]?=some a/\Step as1 H1 as' H'/\Sim K as' m' H'/\EnvRep K as' H' env' σ'/\PostS K as1 H1 D (xY (yN st b) l n i env' m'),⟨lim+1,as1,m1,env,ha,.refl,S1,G.mono S T1,Pc1⟩,?_⟩
   rintro i n σ' H' ⟨as',m',env',hl,T',S',G',Pi⟩
   cases n with
   | zero=>exact Pi.elim
   | succ n =>
    unfold xY at Pi
    cases e:zE m' l with
    | none=>rw[e] at Pi;exact Pi.elim
    | some xs =>
     rw[e] at Pi
     simp only[] at Pi
     obtain ⟨a',vs,ha',eH,RL⟩:=yn S' (zR e)
     rw[hl] at ha';cases ha'
     cases ex:xs[i]? with
     | none =>
      rw[ex] at Pi
      have hle:vs.length<=i:=by rw[<- RL.length];exact List.getElem?_eq_none_iff.mp ex
      exact .inl ⟨⟨vs,SqL.of eH,hle⟩,Pi as' H' σ' T' S' G'⟩
     | some x =>
      rw[ex] at Pi
      obtain ⟨v0,hv0,Rx⟩:=RL.get ex
      refine .inr ⟨⟨vs,v0,SqL.of eH,hv0⟩,fun σ2 H2=>∃as2 m2 env2,as2[l]?=some a/\Step as1 H1 as2 H2/\Sim K as2 m2 H2/\EnvRep K as2 H2 env2 σ2/\PostS K as1 H1 D (xY (yN st b) l n (i+1) env2 m2),?_,fun v H'' hy=>?_⟩
      .rintro σ2 H2 q
       exact ⟨n,Nat.lt_succ_self _,q⟩
      .obtain ⟨rfl,hy⟩:=hy
       have:=hy vs (SqL.of eH)
       rw[hv0] at this;cases this
       refine gX hg (next:=fun e m=>xY (yN st b) l n (i+1) e m) T' S' G' Rx Pi ?_
       intro as2 m2 e2 σ2 H2 U S2 G2 P2
       exact ⟨as2,m2,e2,U.get hl,T'.trans U,S2,G2,P2⟩
 | non=>exact P1.elim
 | bl k=>exact P1.elim
 | int i=>exact P1.elim
 | str s=>exact P1.elim
end
set_option genInjectivity false in
inductive Ns where
 | s (st:Stmt) | b (sts:List Stmt)
noncomputable def zcV (sc:Scope)(x:Str):Bool:=decide (sc.names.lookup x=some .local) || decide (sc.names.lookup x=some .cell)
def zhf (cl:Nat->List Wd->Me->Rz)(X:Cx)(s:Sm):Ns->Prop
 | .s st=>PS X st (y8 X.K (exS cl s))
 | .b sts=>PSs X sts (y8 X.K (exS cl s))
structure StOk (X:Cx):Prop where
 nd:X.N.Nodup
 fn:∀x,X.fn x=true
 hp:PassesOwn (model X.prog X.w) X.A X.env X.xe
section
variable {cl:Nat->List Wd->Me->Rz}
theorem qP {sc:Scope}{x:Str}(h:zcV sc x=true):Loc sc x:=by
 unfold zcV at h
 simp only[Bool.or_eq_true,decide_eq_true_eq] at h
 exact h
theorem zeu {X:Cx}{i:Nat}{ce:Ex}{nm:Str}{xs:List Str}{x w tg:Expr}{g:TG}{un:V->Hp->List V->Prop}{wi:TI}{fs:List Expr}{scope:Scope}{tc:TT}{te:TE}{p1 pos pos':Pos}(hc:X.calm=true)(hX:StOk X)(hi:X.N[i]?=some nm)(hl:Loc X.env.scope nm)(B:BlockOk X scope xs)(hT:Tgt X scope xs tg g un)(hI:PI X tg w wi)
  (body:∀Xc,CompOf X scope xs Xc->PTs Xc fs tc/\PE Xc x te) (hset:∀v,foldedSetIterable w X.env v=pure v) (hbind:∀σ H Q,tOf X.K (evE cl ce) σ H Q->jA un wi tc te σ H Q)
  (he:PE X (.ListComp x [⟨tg,w,fs,0⟩] scope pos') (tOf X.K (evE cl ce))) :
  PS X (.Assign [.Name nm p1] (.ListComp x [⟨tg,w,fs,0⟩] scope pos') pos) (y8 X.K (exS cl (.asg i ce))):=by
 have hsw:∃b:Bool,swapsWith (.ListComp x [⟨tg,w,fs,0⟩] scope pos') (some (.Name nm p1)) pos.line X.env=pure b:=⟨_,rfl⟩
 obtain ⟨b,hb⟩:=hsw
 cases b with
 | false=>exact PS.imp (jO hX.nd hi hl he hb (.inl (hX.fn nm))) fun D σ H q=>kU q
 | true =>
  refine PS.imp (qC B hc hT hI body hX.nd hi hl (.inl (hX.fn nm)) hb hset) fun D σ H q=>?_
  exact hbind _ _ _ (kU q)
def IsS (C:Ctx)(sc:Scope)(N:List Str)(s:Sm)(n:Ns):Prop:=∀ (cl:Nat → List Wd → Me → Rz) (d:Nat) (X:Cx),CtxOk C X cl d → StOk X → X.env.scope=sc → X.N=N → zhf cl X s n
theorem jZ {C:Ctx}{d:Nat}{X:Cx}(hC:CtxOk C X cl d)(hX:StOk X){s:Sm}{n:Ns}(h:IsS C X.env.scope X.N s n):zhf cl X s n:=h cl d X hC hX rfl rfl
theorem IsS.«skip0» {C:Ctx}{sc:Scope}{N:List Str}:IsS C sc N .skip (.b []):=by
 intro cl d X hC hX es eN;subst es;subst eN
 exact zer
theorem IsS.«one» {C:Ctx}{sc:Scope}{N:List Str}{s:Sm}{st:Stmt}(h:IsS C sc N s (.s st)):IsS C sc N s (.b [st]):=by
 intro cl d X hC hX es eN;subst es;subst eN
 have ih:=h cl d X hC hX rfl rfl
 exact xP ih
theorem IsS.«seq» {C:Ctx}{sc:Scope}{N:List Str}{a b:Sm}{st st':Stmt}{r:List Stmt}(ha:IsS C sc N a (.s st))(hb:IsS C sc N b (.b (st'::r))):IsS C sc N (.seq a b) (.b (st::st'::r)):=by
 intro cl d X hC hX es eN;subst es;subst eN
 have iha:=ha cl d X hC hX rfl rfl
 have ihb:=hb cl d X hC hX rfl rfl
 exact zcQ iha ihb
theorem IsS.«asg» {C:Ctx}{sc:Scope}{N:List Str}{i:Nat}{e:Ex}{x:Str}{v:Expr}{p p':Pos}(hc:jY v=false)(h1:N[i]?=some x)(h2:zcV sc x=true)(hr:zr e=false)(he:IsE C sc N e (.e v)):IsS C sc N (.asg i e) (.s (.Assign [.Name x p] v p')):=by
 intro cl d X hC hX es eN;subst es;subst eN
 exact PS.imp (jO hX.nd h1 (qP h2) ((yH he X hC rfl rfl).pe hr) (qO hc) (.inl (hX.fn _))) fun D σ H q=>kU q
theorem IsS.«asgC0» {C:Ctx}{sc:Scope}{N:List Str}{i:Nat}{elt it:Ex}{x y:Str}{z w:Expr}{scope:Scope}{p p' q q':Pos}(h1:N[i]?=some x)(h2:zcV sc x=true)(hs:xi w=true)(hB:vE sc N scope [y]=true)(hi:IsE C sc N it (.e w))(re:zr elt=false)(he:IsE C (w6 scope sc) (xh N [y]) elt (.e z)):
   IsS C sc N (.asg i (.comp elt it (.lit (.bl true)))) (.s (.Assign [.Name x p] (.ListComp z [⟨.Name y q,w,[],0⟩] scope q') p')):=by
 intro cl d X hC hX es eN;subst es;subst eN
 have hset:∀v,foldedSetIterable w X.env v=pure v:=fun v=>by cases w <;> first | rfl | cases hs
 refine zeu (fs:=[]) (tc:=_) hC.calm hX h1 (qP h2) (xK hB) (zao (xK hB)) ((yH hi X hC rfl rfl).2 _) (te:=tOf X.K (evE cl elt)) (fun Xc c=>⟨kg,?_⟩) hset (fun σ H Q q=>jF (fun σ H Q q=>?_) q) ((yH (IsE.comp0 hs hB hi re he) X hC rfl rfl).pe rfl)
 .have q:=(yH he Xc (hC.comp c) c.sc c.N).pe re
  rw[c.K] at q
  exact q
 .obtain ⟨as,env,m,S,G,P⟩:=q
  obtain ⟨b,e,q⟩:=Post.ok (m:=m) P S (rep_bl.mpr rfl)
  cases e
  exact q
theorem IsS.«asgS» {C:Ctx}{sc:Scope}{N:List Str}{o i e:Ex}{x y z:Expr}{p p':Pos}(hs:yO y=true)(ro:zr o=false)(ho:IsE C sc N o (.e x))(ri:zr i=false)(hi:IsE C sc N i (.e y))(re:zr e=false)(he:IsE C sc N e (.e z)):IsS C sc N (.asgS o i e) (.s (.Assign [.Subscript x y p] z p')):=by
 intro cl d X hC hX es eN;subst es;subst eN
 exact zet ((yH ho X hC rfl rfl).pe ro) ((yH hi X hC rfl rfl).pe ri) ((yH he X hC rfl rfl).pe re) hs
theorem IsS.«swapS» {C:Ctx}{sc:Scope}{N:List Str}{o i p j a b:Ex}{x y z u v w:Expr}{k1 k2}{p1 p2 p3 p4 p5:Pos}(s1:yO y=true)(s2:yO u=true)(s3:zn v=true)(s4:zn w=true)(r1:zr o=false)(c1:IsE C sc N o (.e x))(r2:zr i=false)(c2:IsE C sc N i (.e y))(r3:zr p=false)(c3:IsE C sc N p (.e z))(r4:zr j=false)(c4:IsE C sc N j (.e u))(r5:zr a=false)(c5:IsE C sc N a (.e v))(r6:zr b=false)(c6:IsE C sc N b (.e w)):
   IsS C sc N (.swapS o i p j a b) (.s (.Assign [.Tuple [.Subscript x y p1,.Subscript z u p2] k1 p3] (.Tuple [v,w] k2 p4) p5)):=by
 intro cl d X hC hX es eN;subst es;subst eN
 exact zcS hC.calm ((yH c1 X hC rfl rfl).pe r1) ((yH c2 X hC rfl rfl).pe r2) ((yH c3 X hC rfl rfl).pe r3) ((yH c4 X hC rfl rfl).pe r4) ((yH c5 X hC rfl rfl).pe r5) ((yH c6 X hC rfl rfl).pe r6) s1 s2 s3 s4
theorem IsS.«ite» {C:Ctx}{sc:Scope}{N:List Str}{c:Ex}{a b:Sm}{x:Expr}{xs ys:List Stmt}{p:Pos}(rc:zr c=false)(ic:w5 c=false)(hc:IsE C sc N c (.e x))(ha:IsS C sc N a (.b xs))(hb:IsS C sc N b (.b ys)):IsS C sc N (.ite c a b) (.s (.If x xs ys p)):=by
 intro cl d X hC hX es eN;subst es;subst eN
 have iha:=ha cl d X hC hX rfl rfl
 have ihb:=hb cl d X hC hX rfl rfl
 exact zhe ((yH hc X hC rfl rfl).pt rc ic) iha ihb
theorem IsS.«forv» {C:Ctx}{sc:Scope}{N:List Str}{i:Nat}{it:Ex}{body:Sm}{x:Str}{y:Expr}{sts:List Stmt}{p p':Pos}(h1:N[i]?=some x)(h2:zcV sc x=true)(hs:xi y=true)(hi:IsE C sc N it (.e y))(hb:IsS C sc N body (.b sts)):IsS C sc N (.forv i it body) (.s (.For (.Name x p) y sts [] p')):=by
 intro cl d X hC hX es eN;subst es;subst eN
 have ihb:=hb cl d X hC hX rfl rfl
 have hset:∀v,foldedSetIterable y X.env v=pure v:=fun v=>by cases y <;> first | rfl | cases hs
 refine PS.imp (zfu hX.hp hC.calm ((yH hi X hC rfl rfl).2 _) (ke hX.nd h1 (qP h2) (.inl (hX.fn _))) ihb hset) fun D σ H q=>?_
 exact zcU (zcT i) q
theorem IsS.«ret» {C:Ctx}{sc:Scope}{N:List Str}{e:Ex}{x:Expr}{p:Pos}(hr:zr e=false)(he:IsE C sc N e (.e x)):IsS C sc N (.ret e) (.s (.Return (some x) p)):=by
 intro cl d X hC hX es eN;subst es;subst eN
 exact zf5 ((yH he X hC rfl rfl).pe hr)
theorem IsS.«expr» {C:Ctx}{sc:Scope}{N:List Str}{e:Ex}{x:Expr}{p:Pos}(hc:jY x=false)(hr:zr e=false)(he:IsE C sc N e (.e x)):IsS C sc N (.expr e) (.s (.Expr x p)):=by
 intro cl d X hC hX es eN;subst es;subst eN
 exact zes ((yH he X hC rfl rfl).pe hr) hc
theorem IsS.«never» {C:Ctx}{sc:Scope}{N:List Str}{st:Stmt}:IsS C sc N .never (.s st):=by
 intro cl d X hC hX es eN;subst es;subst eN
 exact zcR
end
set_option genInjectivity false in
structure Dfn where
 nm:Str
 st:Stmt
 N:List Str
 ps:List Str
 fn:Fn
noncomputable def xz (N ps:List Str)(sc:Scope):Bool :=
 decide (sc.kind=.function) && (decide (sc.isCoroutine=false) && (decide (sc.isGenerator=false) && (decide N.Nodup && (decide (N.take ps.length=ps) &&
  (ps.all (fun x=>decide (sc.names.lookup x=some .local) || decide (sc.names.lookup x=some .cell)) && sc.names.all (fun y=>!(decide (y.2=.free))))))))
theorem wx {N ps:List Str}{sc:Scope}(h:xz N ps sc=true):FnScope N ps sc:=by
 unfold xz at h
 simp only[Bool.and_eq_true,Bool.or_eq_true,decide_eq_true_eq,List.all_eq_true,Bool.not_eq_true',decide_eq_false_iff_not] at h
 obtain ⟨h1,h2,h3,h4,h5,h6,h7⟩:=h
 exact ⟨h1,h2,h3,h4,h5,h6,h7⟩
structure OkD (C:Ctx)(d:Dfn):Prop where
 sc:xz d.N d.ps (zo d.st)=true
 ar:d.ps.length=d.fn.ar
 sz:d.N.length=d.fn.sz
 body:IsS C (zo d.st) d.N d.fn.body (.b (zW d.st))
section
variable {P:Program}{w:World}{K:PySem.W.Frag}{mg:Str->Option Value}{base:Heap}{C:Ctx}{cl:Nat->List Wd->Me->Rz}
theorem vH {as:List Addr}{H:Hp}{fn:Fn}{N:List Str}{ws:List Wd}{vs:List V}(R:RepL K as H ws vs)(hl:ws.length=fn.ar)(hN:N.length=fn.sz):EnvRep K as H (yF fn ws) (L2.start N vs):=by
 have hv:=R.length
 refine ⟨by simp[yF,L2.start,hN,hv],fun i w e=>?_⟩
 unfold yF at e
 by_cases hi:i < ws.length
 .rw[List.getElem?_append_left (by simpa using hi),List.getElem?_map] at e
  cases hx:ws[i]? with
  | none=>rw[hx] at e;cases e
  | some x =>
   rw[hx] at e
   cases e
   obtain ⟨v,h1,h2⟩:=R.get hx
   refine ⟨v,?_,h2⟩
   unfold L2.start
   rw[List.getElem?_append_left (by simp;lia),List.getElem?_map,h1]
   rfl
 .rw[List.getElem?_append_right (by simpa using hi),List.getElem?_replicate] at e
  split at e <;> cases e
theorem zcW {d:Dfn}{f:Addr}{fd:FuncData}{k:Nat}(F:Fun K d.nm d.nm d.st f fd)(hd:OkD C d)
  (hfn:∀ (i:Nat) (nm:Str),C.fns[i]?=some nm->∃f fd ps,mg nm=some (.ref f)/\PySem.W.keepIn K (.ref f)=true/\Binds K fd ps []/\FnOk P w K mg base CX0 k f fd ps (v6 K (cl i)))
  (hcon:∀ (nm:Str) (i:Int),C.cons.lookup nm=some i->∃t,mg nm=some (.int i t)) (hblt:∀nm∈zu,mg nm=none) :
  FnOk P w K mg base CX0 (k+1) f fd d.ps (v6 K (xy cl d.fn)):=by
 obtain ⟨h1,h2,h3,h4⟩:=hd
 have Sc:=wx h1
 have arity:∀ {as:List Addr}{H:Hp}{Q:VK}{ws:List Wd}{m:Me},Post K as H Q (xy cl d.fn ws m)->ws.length=d.fn.ar:=fun {as H Q ws m} h=>by
  unfold xy at h
  split at h
  .assumption
  .exact h.elim
 refine F.ok Sc (fun vs H Q E h=>?_) (fun cdv A outer s H vs Q E hr h=>?_)
 .obtain ⟨as,m,ws,S,R,q⟩:=h
  rw[<- R.length,arity q,h2]
 .obtain ⟨as,m,ws,S,R,q⟩:=h
  have ha:=arity q
  have hC:CtxOk C (wQ CX0 P w K mg base d.N d.nm (zo d.st) f cdv A outer s H E).nox cl k:=⟨hr,rfl,hfn,hcon,hblt⟩
  have hX:StOk (wQ CX0 P w K mg base d.N d.nm (zo d.st) f cdv A outer s H E).nox:=⟨Sc.nd,fun _=>rfl,PassesOwn.never⟩
  refine ⟨_,jZ hC hX h4,as,yF d.fn ws,m,S,vH R ha h3,?_⟩
  unfold xy at q
  rw[if_pos ha] at q
  cases hr:exS cl d.fn.body (yF d.fn ws) m with
  | next e m1=>rw[hr] at q;exact fun as' H' σ' T S' G=>q as' H' .non T S' (rep_non.mpr rfl)
  | ret w m1=>rw[hr] at q;exact fun as' H' v T S' R'=>q as' H' v T S' R'
  | brk e m1=>rw[hr] at q;exact q.elim
  | cont e m1=>rw[hr] at q;exact q.elim
  | exc c w e m1=>rw[hr] at q;exact q.elim
  | no=>rw[hr] at q;exact q.elim
def zZ (K:PySem.W.Frag)(mg:Str->Option Value)(d:Dfn):Prop:=∃f fd,Fun K d.nm d.nm d.st f fd/\mg d.nm=some (.ref f)
def Bnd (d:Dfn):Prop:=∀ (kV doc pm:Value) (an:Option Addr) (cdv ct:Value) (us:List Value),us.length=d.ps.length->bindArgs (PySem.W.fnOf d.nm d.nm (xR d.st) (zW d.st) (zo d.st) .none kV doc pm an cdv ct) ⟨us,[]⟩=pure (d.ps.zip us)
end
theorem zcX {K:PySem.W.Frag}{D:List Dfn}{k i:Nat}{H:Hp}{a:Addr}{ns:List Int}{E:XK}(hO:zcd H)(hS:SqL K H a (ns.map V.int))(h:∃m,yt (D.map (·.fn)) k i [.rol (ns.map Wd.int)] []=.ok (.bl true) m):
  v6 K (yt (D.map (·.fn)) k i) [.ref a] H (fun v _=>v=.bl true) E:=by
 obtain ⟨m,h⟩:=h
 refine ⟨[],[],[.rol (ns.map Wd.int)],⟨rfl,List.nodup_nil,fun l a o e=>by simp at e⟩,repL_cons.mpr ⟨.ref a,[],rfl,rep_rol.mpr ⟨a,ns.map V.int,rfl,?_,?_⟩,repL_nil.mpr rfl⟩,?_⟩
 .rcases hS with (hS | ⟨o,hS⟩) | hS
  .rcases hO a with z | ⟨o,xs,z⟩
   .rw[z] at hS;cases hS
   .rw[z] at hS;cases hS
  .exact .inl ⟨o,hS⟩
  .exact .inr hS
 .have all:∀l:List Int,RepL K [] H (l.map Wd.int) (l.map V.int):=by
   intro l
   induction l with
   | nil=>exact repL_nil.mpr rfl
   | cons n l ih=>exact repL_cons.mpr ⟨_,_,rfl,rep_int.mpr rfl,ih⟩
  exact all ns
 .rw[h]
  exact fun as' H' v T S R=>rep_bl.mp R
theorem IsE.v {C:Ctx}{sc:Scope}{N:List Str}{i:Nat}{x:Str}{p:Pos}(h1:N[i]?=some x:=by rfl)(h2:qH sc x=true:=by kernel_rfl)(h3:zv x=true:=by kernel_rfl):IsE C sc N (.var i) (.e (.Name x p)):=.var h1 h2 h3
theorem us1 {P:List Value->Prop}(h:∀a,P [a]):∀us:List Value,us.length=1->P us
 | [a],_=>h a
theorem usS {n:Nat}{P:List Value->Prop}(h:∀a (us:List Value),us.length=n->P (a::us)):∀us:List Value,us.length=n+1->P us
 | a::us,e=>h a us (Nat.succ.inj e)
theorem us2 {P:List Value->Prop}(h:∀a b,P [a,b]):∀us:List Value,us.length=2->P us:=usS fun a=>us1 (P:=fun us=>P (a::us)) (h a)
theorem us3 {P:List Value->Prop}(h:∀a b c,P [a,b,c]):∀us:List Value,us.length=3->P us:=usS fun a=>us2 (P:=fun us=>P (a::us)) (h a)
set_option genInjectivity false in
structure Xc where
 g:Str
 rs:List Str
 os:List Str
noncomputable def Xc.xs (Q:Xc):List Str:=Q.rs++Q.os
theorem Xc.at {Q:Xc}{c:Nat}{x:Str}(h:Q.rs[c]?=some x):Q.xs[c]?=some x:=by
 unfold Xc.xs
 rw[List.getElem?_append_left (List.getElem?_eq_some_iff.mp h).1]
 exact h
noncomputable def vmB:List Value:=[.type "ValueError",.type "Exception",.type "BaseException",.type "object"]
structure XOk (K:PySem.W.Frag)(mg:Str->Option Value)(Q:Xc)(G:Addr):Prop where
 g:mg Q.g=some (.ref G)
 ge:PySem.W.excIn K G vmB "ValueError.__new__" = true
 gb:PySem.W.mroIn K G (.type "BaseException")=some true
 v:mg "ValueError" = none
 y:∀ (c:Nat) (x:Str),Q.xs[c]?=some x->∃A,mg x=some (.ref A)
 x:∀ (c:Nat) (x:Str),Q.rs[c]?=some x->∃A,mg x=some (.ref A)/\PySem.W.excIn K A vmB "ValueError.__new__" = true/\ExcK K A/\PySem.W.mroIn K A (.ref G)=some true/\PySem.W.kitOne K (.ref A) (.type "ValueError")=some true /\
  ∀ (c':Nat) (x':Str) (A':Addr),Q.xs[c']?=some x'->mg x'=some (.ref A')->PySem.W.kitOne K (.ref A) (.ref A')=some (decide (c=c'))
noncomputable def nsB (sc:Scope)(Q:Xc):List Expr->List Nat->Bool
 | [],[]=>true
 | .Name x _::es,c::cs=>glB sc x && (zv x && (decide (Q.xs[c]?=some x) && nsB sc Q es cs))
 | _,_=>false
noncomputable def zf6:Sm->Bool
 | .expr _=>true
 | .asg _ _=>true
 | _=>false
inductive IsX (C:Ctx)(Q:Xc)(xn:List (Nat×Str))(sc:Scope)(N:List Str):Sm->List Stmt->Prop
 | ite {c:Ex}{y:Expr}{x msg:Str}{j k:Nat}{np cp p p1 p2:Pos}{rest:List Stmt}(rc:zr c=false) (ic:w5 c=false) (hc:IsE C sc N c (.e y)) (hx:Q.rs[j]?=some x) (hg:glB sc x=true) (ok:zv x=true) :
   IsX C Q xn sc N (.ite c (.ret (.lit (.int j))) .never) (.If y [.Raise (some (.Call (.Name x np) [.Constant (.str msg) k p1] [] cp)) none p2] [] p::rest)
 | jT {c:Ex}{y:Expr}{x msg v:Str}{i j k:Nat}{b:Int}{np cp p p1 p2 p3 p4 p5:Pos}{rest:List Stmt}(rc:zr c=false) (ic:w5 c=false) (hc:IsE C sc N c (.e y)) (hx:Q.rs[j]?=some x) (hg:glB sc x=true) (ok:zv x=true) (hi:N[i]?=some v) (hv:qH sc v=true) (ov:zv v=true)
   (hb:decide (b.natAbs.log2 < 1920)=true) (hz1:decide ((Str.empty++msg).length<=sizeLine)=true) (hz2:decide ((Str.empty++msg++(toString b:Str)).length<=sizeLine)=true) :
   IsX C Q xn sc N (.ite c (.ite (.cmp .eq (.bin .sub (.var i) (.lit (.int b))) (.lit (.int 0))) (.ret (.lit (.int j))) .never) .never) (.If y [.Raise (some (.Call (.Name x np) [.JoinedStr [.Constant (.str msg) k p1,.FormattedValue (.Name v p3) (-1) none p4] p5] [] cp)) none p2] [] p::rest)
 | seqS {a b:Sm}{st st':Stmt}{r:List Stmt}(hn:zf6 a=true) (ha:IsS C sc N a (.s st)) (hb:IsX C Q xn sc N b (st'::r)):IsX C Q xn sc N (.seq a b) (st::st'::r)
 | call {k:Nat}{a:Ex}{nm:Str}{y:Expr}{ys:List Expr}{p p' p2:Pos}{rest:List Stmt}(hk:xn.lookup k=some nm) (hg:glB sc nm=true) (ok:zv nm=true) (hs:(y::ys).all zn=true) (ha:IsE C sc N a (.a (y::ys))) :
   IsX C Q xn sc N (.ret (.call k a)) (.Expr (.Call (.Name nm p) (y::ys) [] p') p2::rest)
theorem CtxOk.wish {C:Ctx}{X:Cx}{cl:Nat->List Wd->Me->Rz}{d:Nat}(h:CtxOk C X cl d)(E:Value->Shared->Prop):CtxOk C (X.wish E) cl d:=⟨h.room,h.calm,h.fn,h.con,h.blt⟩
theorem xZ {x:Str}(h:zv x=true):(x == ("__debug__" : Str))=false/\(x == ("__classdict__" : Str))=false:=by
 unfold zv at h
 simp only[Bool.and_eq_true,Bool.not_eq_true'] at h
 exact ⟨h.1.1,h.1.2⟩
section
variable {C:Ctx}{Q:Xc}{xn:List (Nat×Str)}{X:Cx}
theorem zcY {X:Cx}{st:Stmt}{t:TS}(h:PS X.nox st t):PS X st t:=fun pins s σ H D I hw =>
 wpAny_mono (h pins s σ H D (I.wish _) hw) (fun _ _ q=>q.unwish) fun _ _ z=>False.elim z
inductive IsT (C:Ctx)(Q:Xc)(xn:List (Nat×Str))(sc:Scope)(N:List Str):Sm->List Stmt->Prop
 | mk {k y i:Nat}{a:Ex}{nm n ny:Str}{e0:Expr}{es ns:List Expr}{cs:List Nat}{rest:List Stmt}{p q p' np hp pos p1 p2 p3 p4 p5 p6 p7 p8 p9 pa pb pc pd pe pf pg ph:Pos}{k1 k2:Nat}
   (hk:xn.lookup k=some nm) (hg:glB sc nm=true) (ok:zv nm=true) (hs:(e0::es).all zn=true) (ha:IsE C sc N a (.a (e0::es))) (gg:glB sc Q.g=true) (og:zv Q.g=true) (hi:N[i]?=some n) (hn:decide (sc.names.lookup n=some .local)=true) (on:zv n=true)
   (hns:nsB sc Q ns cs=true) (hcs:cs.contains y=false) (hz:cs.length<=1000) (hy:Q.rs[y]?=some ny) (gy:glB sc ny=true) (oy:zv ny=true) (gI:glB sc "isinstance" = true) (gV:glB sc "ValueError" = true) :
   IsT C Q xn sc N (.ret (.cmp .eq (.call k a) (.lit (.int y)))) (.Try [.Expr (.Call (.Name nm p) (e0::es) [] q) p'] [.ExceptHandler (some (.Name Q.g np)) (some n) (zcq n ny ns p1 p2 p3 p4 p5 p6 p7 p8 p9 pa pb pc pd pe pf pg ph k1 k2) hp] [] [] pos::rest)
end
structure OkT (C:Ctx)(Q:Xc)(xn:List (Nat×Str))(d:Dfn):Prop where
 sc:xz d.N d.ps (zo d.st)=true
 ar:d.ps.length=d.fn.ar
 sz:d.N.length=d.fn.sz
 body:IsT C Q xn (zo d.st) d.N d.fn.body (zW d.st)
structure OkX (C:Ctx)(Q:Xc)(xn:List (Nat×Str))(d:Dfn):Prop where
 sc:xz d.N d.ps (zo d.st)=true
 ar:d.ps.length=d.fn.ar
 sz:d.N.length=d.fn.sz
 body:IsX C Q xn (zo d.st) d.N d.fn.body (zW d.st)
section
variable {K:PySem.W.Frag}{cl:Nat->List Wd->Me->Rz}
theorem arity {as:List Addr}{H:Hp}{R:VK}{fn:Fn}{ws:List Wd}{m:Me}(h:Post K as H R (xy cl fn ws m)):ws.length=fn.ar:=by
 unfold xy at h
 split at h
 .assumption
 .exact h.elim
end
noncomputable def lvlR (i:Nat):Sm:=.ret (.and (.cmp .eq (.idx (.var i) (.lit (.int 0))) (.idx (.var i) (.lit (.int 1)))) (.and (.cmp .eq (.idx (.var i) (.lit (.int 0))) (.idx (.var i) (.lit (.int 2)))) (.cmp .eq (.idx (.var i) (.lit (.int 0))) (.idx (.var i) (.lit (.int 3))))))
noncomputable def lvlM (i:Nat):Sm:=.seq (.expr (.blt .sum (.pair (.var i) .unit))) (.ite (.cmp .eq (.blt .len (.pair (.var i) .unit)) (.lit (.int 4))) (lvlR i) .never)
inductive IsM (C:Ctx)(sc:Scope)(N:List Str):Sm->List Stmt->Prop
 | mk {s:Sm}{st:Stmt}{i:Nat}{x:Str}{p1 p2 p3 p4 p5 p6 p7 p8:Pos}(hs:IsS C sc N s (.s st)) (hi:N[i]?=some x) (hv:qH sc x=true) (ho:zv x=true) (g1:glB sc "min" = true) (g2:glB sc "max" = true) :
   IsM C sc N (.seq s (lvlM i)) [st,.Return (some (.Compare (.Call (.Name "min" p1) [.Name x p2] [] p3) [.Eq] [.Call (.Name "max" p4) [.Name x p5] [] p6] p7)) p8]
structure OkM (C:Ctx)(d:Dfn):Prop where
 sc:xz d.N d.ps (zo d.st)=true
 ar:d.ps.length=d.fn.ar
 sz:d.N.length=d.fn.sz
 body:IsM C (zo d.st) d.N d.fn.body (zW d.st)
noncomputable def gY:List Nat->Ex
 | []=>.unit
 | u::r=>.pair (.var u) (gY r)
theorem PostAS.bind {K:PySem.W.Frag}{as:List Addr}{H:Hp}{D:Ends}{Q1:List V->Hp->Prop}{r:Rz}{g:Wd->Me->Rz}{env:En}{f:Wd->Me->Rs}(h:PostS K as H D ((r.bind g).bindS env f))
  (k:∀w m' as' H' vs,Step as H as' H'->Sim K as' m' H'->RepL K as' H' (zp w) vs->PostS K as' H' D ((g w m').bindS env f)->Q1 vs H'):PostA K as H Q1 r:=by
 cases r with
 | ok w m'=>exact fun as2 H2 v U S R=>k w m' as2 H2 v U S R (PostS.step (r:=(g w m').bindS env f) h U)
 | exc c w m'=>exact h
 | no=>exact h
theorem ve {K:PySem.W.Frag}{as:List Addr}{m:Me}{H:Hp}{p:Addr}(S:Sim K as m H)(hp:H p=none)(o:HO):Step as H as (upd H p o)/\Sim K as m (upd H p o):=by
 have T:Step as H as (upd H p o):=⟨⟨[],by simp⟩,fun b o' h _=>by rw[zd (zl h hp)];exact h,fun b hb=>.inl hb⟩
 refine ⟨T,S.keep T fun b _ o' e=>?_⟩
 rw[zd (zl e hp)]
 exact e
inductive IsK (Q:Xc)(sc:Scope)(n:Str)(y:Nat):List Stmt->Prop
 | mk {ny:Str}{ns:List Expr}{cs:List Nat}{p1 p2 p3 p4 p5 p6 p7 p8 p9 pa pb pc pd pe pf pg ph:Pos}{k1 k2:Nat}(hn:decide (sc.names.lookup n=some .local)=true) (on:zv n=true) (hns:nsB sc Q ns cs=true) (hcs:cs.contains y=false) (hz:cs.length<=1000) (hy:Q.rs[y]?=some ny) (gy:glB sc ny=true) (oy:zv ny=true)
   (gI:glB sc "isinstance" = true) (gV:glB sc "ValueError" = true):IsK Q sc n y (zcq n ny ns p1 p2 p3 p4 p5 p6 p7 p8 p9 pa pb pc pd pe pf pg ph k1 k2)
structure OkK (Q:Xc)(d:Dfn)(n:Str)(y:Nat):Prop where
 sc:xz d.N d.ps (zo d.st)=true
 ps:d.ps=[n]
 N:d.N=[n]
 body:IsK Q (zo d.st) n y (zW d.st)
inductive IsW (C:Ctx)(Q:Xc)(xn:List (Nat×Str))(kn:Str)(y:Nat)(sc:Scope)(N:List Str):Sm->List Stmt->Prop
 | mk {k1 k2 i j:Nat}{us1 us2:List Nat}{nm1 nm2 x n:Str}{e1 e2:Expr}{es1 es2:List Expr}{st:Stmt}{rest:List Stmt}{p q p' np hp pos q1 q2 q3 q4 q5 r p2 r' np2 hp2 pos2 u1 u2 u3 u4 u5 u6:Pos}
   (h0:IsS C sc N (.asg j (.lit (.bl false))) (.s st)) (hk1:xn.lookup k1=some nm1) (g1:glB sc nm1=true) (o1:zv nm1=true) (s1:(e1::es1).all zn=true) (a1:IsE C sc N (gY us1) (.a (e1::es1)))
   (hk2:xn.lookup k2=some nm2) (g2:glB sc nm2=true) (o2:zv nm2=true) (s2:(e2::es2).all zn=true) (a2:IsE C sc N (gY us2) (.a (e2::es2))) (ni:us2.contains i=false)
   (gg:glB sc Q.g=true) (og:zv Q.g=true) (hi:N[i]?=some n) (hn:decide (sc.names.lookup n=some .local)=true) (on:zv n=true)
   (hj:N[j]?=some x) (hx:decide (sc.names.lookup x=some .local)=true) (ox:zv x=true) (hij:decide (i=j)=false) (gk:glB sc kn=true) (ok:zv kn=true) :
   IsW C Q xn kn y sc N (.seq (.asg j (.lit (.bl false))) (.seq (.asg j (.cmp .eq (.call k1 (gY us1)) (.lit (.int y)))) (.ret (.and (.cmp .eq (.call k2 (gY us2)) (.lit (.int y))) (.var j)))))
    (st::.Try [.Expr (.Call (.Name nm1 p) (e1::es1) [] q) p'] [.ExceptHandler (some (.Name Q.g np)) (some n) [.Assign [.Name x q1] (.Call (.Name kn q2) [.Name n q3] [] q4) q5] hp] [] [] pos ::
     .Try [.Expr (.Call (.Name nm2 r) (e2::es2) [] p2) r'] [.ExceptHandler (some (.Name Q.g np2)) (some n) [.Return (some (.BoolOp .And [.Name x u1,.Call (.Name kn u2) [.Name n u3] [] u4] u5)) u6] hp2] [] [] pos2::rest)
structure OkW (C:Ctx)(Q:Xc)(xn:List (Nat×Str))(kd:Dfn)(y:Nat)(d:Dfn):Prop where
 sc:xz d.N d.ps (zo d.st)=true
 ar:d.ps.length=d.fn.ar
 sz:d.N.length=d.fn.sz
 body:IsW C Q xn kd.nm y (zo d.st) d.N d.fn.body (zW d.st)
noncomputable def PostY (K:PySem.W.Frag)(as:List Addr)(H:Hp)(R:VK)(E:VK)(r:Rs):Prop:=match r with
 | .ret (.tup []) m'=>∀as' H' v,Step as H as' H'->Sim K as' m' H'->R v H'
 | .ret (.tup [w]) m'=>∀as' H' v,Step as H as' H'->Sim K as' m' H'->Rep K as' H' w v->E v H'
 | _=>False
def zcZ (K:PySem.W.Frag)(as:List Addr)(H:Hp)(R:VK)(E:VK)(r:Rz):Prop:=match r with
 | .ok (.tup []) m'=>∀as' H' v,Step as H as' H'->Sim K as' m' H'->R v H'
 | .ok (.tup [w]) m'=>∀as' H' v,Step as H as' H'->Sim K as' m' H'->Rep K as' H' w v->E v H'
 | _=>False
def eY (A:Addr)(n:Str)(E:XK):VK:=fun v H=>∀D',H D'=none->E (.ref A) (some D') (upd H D' (.xd [(n,v)]))
def spS (K:PySem.W.Frag)(A:Addr)(n:Str)(g:List Wd->Me->Rz):Sp:=fun vs H R E=>∃as m ws,Sim K as m H/\RepL K as H ws vs/\zcZ K as H R (eY A n E) (g ws m)
theorem zf7 {K:PySem.W.Frag}{as:List Addr}{H:Hp}{R E:VK}{w:Wd}{m:Me}(h:zcZ K as H R E (.ok w m)):PostY K as H R E (.ret w m):=by
 cases w with
 | tup xs =>
  cases xs with
  | nil=>exact h
  | cons a l =>
   cases l with
   | nil=>exact h
   | cons b l=>exact h.elim
 | _=>exact h.elim
theorem PostY.step {K:PySem.W.Frag}{as as':List Addr}{H H':Hp}{R E:VK}{r:Rs}(h:PostY K as H R E r)(T:Step as H as' H'):PostY K as' H' R E r:=by
 unfold PostY at h ⊢
 split at h
 .exact fun as2 H2 v U S=>h as2 H2 v (T.trans U) S
 .exact fun as2 H2 v U S Rp=>h as2 H2 v (T.trans U) S Rp
 .exact h.elim
inductive IsY (C:Ctx)(x:Str)(sc:Scope)(N:List Str):Sm->List Stmt->Prop
 | mk {c c2 e1 e2:Ex}{y y2:Expr}{st1 st4:Stmt}{i k1:Nat}{sp:Str}{np cp p p1 p2 np' cp' p' p1' p2':Pos}(rc:zr c=false) (ic:w5 c=false) (hc:IsE C sc N c (.e y)) (h1:IsS C sc N (.asg i e1) (.s st1)) (rc2:zr c2=false) (ic2:w5 c2=false) (hc2:IsE C sc N c2 (.e y2))
   (h4:IsS C sc N (.ret e2) (.s st4)) (hi:N[i]?=some sp) (hv:qH sc sp=true) (ov:zv sp=true) (hg:glB sc x=true) (ok:zv x=true) :
   IsY C x sc N (.seq (.ite c (.ret (.tup (.pair (.lit .non) .unit))) .skip) (.seq (.asg i e1) (.seq (.ite c2 (.ret (.tup (.pair (.var i) .unit))) .skip) (.seq (.expr e2) (.ret (.tup .unit))))))
    [.If y [.Raise (some (.Call (.Name x np) [.Constant .none k1 p1] [] cp)) none p2] [] p,st1,.If y2 [.Raise (some (.Call (.Name x np') [.Name sp p1'] [] cp')) none p2'] [] p',st4]
section
variable {C:Ctx}{X:Cx}{cl:Nat->List Wd->Me->Rz}{d:Nat}{x n a0:Str}{A fI:Addr}{st:Stmt}{E:XK}
theorem gZ {env:En}{m:Me}{e:Ex}:exS cl (.ret (.tup (.pair e .unit))) env m=(evE cl e env m).bindS env fun w m1=>.ret (.tup [w]) m1:=by
 show ((((evE cl e env m).bind fun x m1=>(Rz.ok (.tup []) m1).bind fun y m2=>.ok (.tup (x::zp y)) m2).bind fun x m1=>if (zp x).length<=lim then .ok (.tup (zp x)) m1 else .no).bindS env fun w m1=>.ret w m1)=_
 cases evE cl e env m with
 | ok w m1=>rfl
 | exc c w m1=>rfl
 | no=>rfl
theorem zf8 (hC:CtxOk C X cl d)(hX:StOk X.nox)(hm:X.mg x=some (.ref A))(O:InitOk X.K A fI n a0 st)(hr:jW X n E){s:Sm}{sts:List Stmt}(h:IsY C x X.env.scope X.N s sts):
  PSs X sts (fun D σ H=>∃as env m,Sim X.K as m H/\EnvRep X.K as H env σ/\PostY X.K as H D.rt (eY A n E) (exS cl s env m)):=by
 cases h with
 | @mk c c2 e1 e2 y y2 st1 st4 i k1 sp np cp p p1 p2 np' cp' p' p1' p2' rc ic hc h1 rc2 ic2 hc2 h4 hi hv ov hg ok =>
  have r1:=jC (X:=X) (E:=E) (np:=np) (cpos:=cp) (pos:=p2) hm O hC.room hC.calm (yP hg) hr (zy (qk (X:=X) (j:=k1) (pos:=p1)) yA) (xZ ok).1
  have r2:=jC (X:=X) (E:=E) (np:=np') (cpos:=cp') (pos:=p2') hm O hC.room hC.calm (yP hg) hr (zy (wG (X:=X) (pos:=p1') hi (zcP hv) (xZ ov).1 (xZ ov).2) yA) (xZ ok).1
  have i1:=zai (pos:=p) ((yH hc X hC rfl rfl).pt rc ic) (xP r1) (v9 (X:=X))
  have i2:=zai (pos:=p') ((yH hc2 X hC rfl rfl).pt rc2 ic2) (xP r2) (v9 (X:=X))
  have q1:PS X st1 (y8 X.K (exS cl (.asg i e1))):=zcY (jZ (hC.wish _) hX h1)
  have q4:PS X st4 (y8 X.K (exS cl (.ret e2))):=zcY (jZ (hC.wish _) hX h4)
  intro pins s0 σ H D I q
  refine xH i1 (xH q1 (xH i2 (xP q4))) pins s0 σ H D I ?_
  obtain ⟨as,env,m,S,G',P⟩:=q
  refine ⟨as,env,m,S,G',?_⟩
  have P0:PostY X.K as H D.rt (eY A n E) (match (evE cl c env m).bindS env (fun x m1=>match x with
    | .bl true=>exS cl (.ret (.tup (.pair (.lit .non) .unit))) env m1
    | .bl false=>.next env m1
    | _=>.no) with
   | .next e m1=>exS cl (.seq (.asg i e1) (.seq (.ite c2 (.ret (.tup (.pair (.var i) .unit))) .skip) (.seq (.expr e2) (.ret (.tup .unit))))) e m1
   | r=>r):=P
  cases hev:evE cl c env m with
  | exc _ _ _=>rw[hev] at P0;exact P0.elim
  | no=>rw[hev] at P0;exact P0.elim
  | ok w m1 =>
   rw[hev] at P0
   intro as1 H1 v T1 S1 R1
   cases w with
   | bl b =>
    obtain rfl:=rep_bl.mp R1
    refine ⟨b,rfl,?_⟩
    cases b with
    | true =>
     refine gD ⟨.non,rfl,fun D' hD'=>?_⟩
     have P1:PostY X.K as H D.rt (eY A n E) (.ret (.tup [.non]) m1):=P0
     exact P1 as1 H1 .non T1 S1 (rep_non.mpr rfl) D' hD'
    | false =>
     refine jT ?_
     have P1:PostY X.K as H D.rt (eY A n E) (match (evE cl e1 env m1).bindS env (fun w m2=>.next (env.set i (some w)) m2) with
      | .next e m2=>exS cl (.seq (.ite c2 (.ret (.tup (.pair (.var i) .unit))) .skip) (.seq (.expr e2) (.ret (.tup .unit)))) e m2
      | r=>r):=P0
     refine ⟨as1,env,m1,S1,G'.mono S T1,?_⟩
     show PostS X.K as1 H1 _ ((evE cl e1 env m1).bindS env (fun w m2=>.next (env.set i (some w)) m2))
     cases hev1:evE cl e1 env m1 with
     | exc _ _ _=>rw[hev1] at P1;exact P1.elim
     | no=>rw[hev1] at P1;exact P1.elim
     | ok w1 m2 =>
      rw[hev1] at P1
      intro as2 H2 σ2 T2 S2 G2
      refine ⟨as2,env.set i (some w1),m2,S2,G2,?_⟩
      have P2:PostY X.K as H D.rt (eY A n E) (match (evE cl c2 (env.set i (some w1)) m2).bindS (env.set i (some w1)) (fun x m3=>match x with
        | .bl true=>exS cl (.ret (.tup (.pair (.var i) .unit))) (env.set i (some w1)) m3
        | .bl false=>.next (env.set i (some w1)) m3
        | _=>.no) with
       | .next e m3=>exS cl (.seq (.expr e2) (.ret (.tup .unit))) e m3
       | r=>r):=P1
      cases hev2:evE cl c2 (env.set i (some w1)) m2 with
      | exc _ _ _=>rw[hev2] at P2;exact P2.elim
      | no=>rw[hev2] at P2;exact P2.elim
      | ok w2 m3 =>
       rw[hev2] at P2
       intro as3 H3 v3 T3 S3 R3
       cases w2 with
       | bl b2 =>
        obtain rfl:=rep_bl.mp R3
        refine ⟨b2,rfl,?_⟩
        have T123:=(T1.trans T2).trans T3
        have G3:=G2.mono S2 T3
        cases b2 with
        | true =>
         have P3:PostY X.K as H D.rt (eY A n E) (match exS cl (.ret (.tup (.pair (.var i) .unit))) (env.set i (some w1)) m3 with
          | .next e m3=>exS cl (.seq (.expr e2) (.ret (.tup .unit))) e m3
          | r=>r):=P2
         rw[gZ] at P3
         have P4:PostY X.K as H D.rt (eY A n E) (match (match (env.set i (some w1))[i]? with | some (some w)=>Rz.ok w m3 | _=>.no).bindS (env.set i (some w1)) (fun w m1=>.ret (.tup [w]) m1) with
          | .next e m3=>exS cl (.seq (.expr e2) (.ret (.tup .unit))) e m3
          | r=>r):=P3
         cases hw:(env.set i (some w1))[i]? with
         | none=>rw[hw] at P4;exact P4.elim
         | some o =>
          cases o with
          | none=>rw[hw] at P4;exact P4.elim
          | some w =>
           rw[hw] at P4
           obtain ⟨v4,hv4,R4⟩:=G3.get i _ hw
           refine gD ⟨v4,hv4,v4,rfl,fun D' hD'=>?_⟩
           exact P4 as3 H3 v4 T123 S3 R4 D' hD'
        | false =>
         refine jT ⟨as3,env.set i (some w1),m3,S3,G3,?_⟩
         have P3:PostY X.K as H D.rt (eY A n E) (match (evE cl e2 (env.set i (some w1)) m3).bindS (env.set i (some w1)) (fun _ m4=>.next (env.set i (some w1)) m4) with
          | .next e m4=>exS cl (.ret (.tup .unit)) e m4
          | r=>r):=P2
         show PostS X.K as3 H3 _ ((evE cl e2 (env.set i (some w1)) m3).bindS (env.set i (some w1)) (fun w m4=>.ret w m4))
         cases hev3:evE cl e2 (env.set i (some w1)) m3 with
         | exc _ _ _=>rw[hev3] at P3;exact P3.elim
         | no=>rw[hev3] at P3;exact P3.elim
         | ok w4 m4 =>
          rw[hev3] at P3
          have P4:PostY X.K as H D.rt (eY A n E) (.ret (.tup []) m4):=P3
          exact fun as4 H4 v4 T4 S4 _=>P4 as4 H4 v4 (T123.trans T4) S4
       | _=>exact P2.elim
   | _=>exact P0.elim
end
structure OkY (C:Ctx)(x:Str)(d:Dfn):Prop where
 sc:xz d.N d.ps (zo d.st)=true
 ar:d.ps.length=d.fn.ar
 sz:d.N.length=d.fn.sz
 body:IsY C x (zo d.st) d.N d.fn.body (zW d.st)
section
variable {P:Program}{w:World}{K:PySem.W.Frag}{mg:Str->Option Value}{base:Heap}{C:Ctx}{cl:Nat->List Wd->Me->Rz}{x n a0:Str}{A fI:Addr}{st:Stmt}
theorem zc0 {as:List Addr}{H:Hp}{R E:VK}{fn:Fn}{ws:List Wd}{m:Me}(h:zcZ K as H R E (xy cl fn ws m)):ws.length=fn.ar:=by
 unfold xy at h
 split at h
 .assumption
 .exact h.elim
theorem valY {sc:Scope}{N:List Str}{s:Sm}{sts:List Stmt}(h:IsY C x sc N s sts)(env:En)(m:Me):match exS cl s env m with
  | .ret v _=>v=.tup []\/∃w,v=.tup [w]
  | .next _ _=>False
  | _=>True:=by
 cases h with
 | @mk c c2 e1 e2 y y2 st1 st4 i k1 sp np cp p p1 p2 np' cp' p' p1' p2' rc ic hc h1 rc2 ic2 hc2 h4 hi hv ov hg ok =>
  show match (match (evE cl c env m).bindS env (fun x m1=>match x with
    | .bl true=>exS cl (.ret (.tup (.pair (.lit .non) .unit))) env m1
    | .bl false=>.next env m1
    | _=>.no) with
   | .next e m1=>exS cl (.seq (.asg i e1) (.seq (.ite c2 (.ret (.tup (.pair (.var i) .unit))) .skip) (.seq (.expr e2) (.ret (.tup .unit))))) e m1
   | r=>r) with
   | .ret v _=>v=.tup []\/∃w,v=.tup [w]
   | .next _ _=>False
   | _=>True
  cases evE cl c env m with
  | exc _ _ _=>trivial
  | no=>trivial
  | ok w m1 =>
   cases w with
   | bl b =>
    cases b with
    | true=>exact .inr ⟨_,rfl⟩
    | false =>
     show match (match (evE cl e1 env m1).bindS env (fun w m2=>.next (env.set i (some w)) m2) with
      | .next e m2=>exS cl (.seq (.ite c2 (.ret (.tup (.pair (.var i) .unit))) .skip) (.seq (.expr e2) (.ret (.tup .unit)))) e m2
      | r=>r) with
      | .ret v _=>v=.tup []\/∃w,v=.tup [w]
      | .next _ _=>False
      | _=>True
     cases evE cl e1 env m1 with
     | exc _ _ _=>trivial
     | no=>trivial
     | ok w1 m2 =>
      show match (match (evE cl c2 (env.set i (some w1)) m2).bindS (env.set i (some w1)) (fun x m3=>match x with
        | .bl true=>exS cl (.ret (.tup (.pair (.var i) .unit))) (env.set i (some w1)) m3
        | .bl false=>.next (env.set i (some w1)) m3
        | _=>.no) with
       | .next e m3=>exS cl (.seq (.expr e2) (.ret (.tup .unit))) e m3
       | r=>r) with
       | .ret v _=>v=.tup []\/∃w,v=.tup [w]
       | .next _ _=>False
       | _=>True
      cases evE cl c2 (env.set i (some w1)) m2 with
      | exc _ _ _=>trivial
      | no=>trivial
      | ok w2 m3 =>
       cases w2 with
       | bl b2 =>
        cases b2 with
        | true =>
         show match (match exS cl (.ret (.tup (.pair (.var i) .unit))) (env.set i (some w1)) m3 with
          | .next e m3=>exS cl (.seq (.expr e2) (.ret (.tup .unit))) e m3
          | r=>r) with
          | .ret v _=>v=.tup []\/∃w,v=.tup [w]
          | .next _ _=>False
          | _=>True
         rw[gZ]
         cases evE cl (.var i) (env.set i (some w1)) m3 with
         | ok w m4=>exact .inr ⟨_,rfl⟩
         | exc _ _ _=>trivial
         | no=>trivial
        | false =>
         show match (match (evE cl e2 (env.set i (some w1)) m3).bindS (env.set i (some w1)) (fun _ m4=>.next (env.set i (some w1)) m4) with
          | .next e m4=>exS cl (.ret (.tup .unit)) e m4
          | r=>r) with
          | .ret v _=>v=.tup []\/∃w,v=.tup [w]
          | .next _ _=>False
          | _=>True
         cases evE cl e2 (env.set i (some w1)) m3 with
         | ok w m4=>exact .inl rfl
         | exc _ _ _=>trivial
         | no=>trivial
       | _=>trivial
   | _=>trivial
theorem runY {d:Dfn}(hd:OkY C x d)(ws:List Wd)(m:Me)(v:Wd)(m':Me)(h:xy cl d.fn ws m=.ok v m'):v=.tup []\/∃w,v=.tup [w]:=by
 have z:=valY (cl:=cl) hd.body (yF d.fn ws) m
 unfold xy at h
 split at h
 .cases e:exS cl d.fn.body (yF d.fn ws) m with
  | ret w m1=>rw[e] at h z;cases h;exact z
  | next _ _=>rw[e] at z;exact z.elim
  | brk _ _=>rw[e] at h;cases h
  | cont _ _=>rw[e] at h;cases h
  | exc _ _ _ _=>rw[e] at h;cases h
  | no=>rw[e] at h;cases h
 .cases h
theorem zbs {d:Dfn}{f:Addr}{fd:FuncData}{k:Nat}(F:Fun K d.nm d.nm d.st f fd)(hd:OkY C x d)(hm:mg x=some (.ref A))(O:InitOk K A fI n a0 st)
  (hfn:∀ (i:Nat) (nm:Str),C.fns[i]?=some nm->∃f fd ps,mg nm=some (.ref f)/\PySem.W.keepIn K (.ref f)=true/\Binds K fd ps []/\FnOk P w K mg base CX0 k f fd ps (v6 K (cl i)))
  (hcon:∀ (nm:Str) (i:Int),C.cons.lookup nm=some i->∃t,mg nm=some (.int i t)) (hblt:∀nm∈zu,mg nm=none) :
  FnOk P w K mg base (CXs P w) (k+1) f fd d.ps (spS K A n (xy cl d.fn)):=by
 obtain ⟨h1,h2,h3,h4⟩:=hd
 have Sc:=wx h1
 obtain ⟨oc,od,kV,doc,pm,an,cdv,ct,osl,rfl,lk,hcd⟩:=F.ex
 refine ze8 lk hcd Sc (fun vs H Q' E h=>?_) fun A' outer s H vs Q' E hr h=>?_
 .obtain ⟨as,m,ws,S,R,q⟩:=h
  rw[<- R.length,zc0 q,h2]
 .obtain ⟨as,m,ws,S,R,q⟩:=h
  have ha:=zc0 q
  have hC:CtxOk C (wQ (CXs P w) P w K mg base d.N d.nm (zo d.st) f cdv A' outer s H E) cl k:=⟨hr,rfl,hfn,hcon,hblt⟩
  refine ⟨_,zf8 hC ⟨Sc.nd,fun _=>rfl,PassesOwn.never⟩ hm O zbm h4,as,yF d.fn ws,m,S,vH R ha h3,?_⟩
  unfold xy at q
  rw[if_pos ha] at q
  cases hr:exS cl d.fn.body (yF d.fn ws) m with
  | next e m1=>rw[hr] at q;exact q.elim
  | ret w m1=>rw[hr] at q;exact zf7 q
  | brk e m1=>rw[hr] at q;exact q.elim
  | cont e m1=>rw[hr] at q;exact q.elim
  | exc c w e m1=>rw[hr] at q;exact q.elim
  | no=>rw[hr] at q;exact q.elim
end
structure SOk (K:PySem.W.Frag)(mg:Str->Option Value)(Q:Xc)(G A:Addr):Prop where
 g:mg Q.g=some (.ref G)
 ge:x9 K G=true
 gb:PySem.W.mroIn K G (.type "BaseException")=some true
 x:∃nx,Q.rs=[nx]/\mg nx=some (.ref A)
 xe:ExcK K A
 xm:PySem.W.mroIn K A (.ref G)=some true
 xk:PySem.W.kitOne K (.ref A) (.ref A)=some true
 o:∀ (c:Nat) (x:Str),Q.os[c]?=some x->∃B,mg x=some (.ref B)/\PySem.W.kitOne K (.ref A) (.ref B)=some false
noncomputable def nsO (sc:Scope)(os:List Str):List Expr->Bool
 | []=>true
 | .Name x _::es=>glB sc x && (zv x && (os.contains x && nsO sc os es))
 | _=>false
set_option tactic.hygienic true in
theorem zhg {X:Cx}{Q:Xc}{G A:Addr}(hO:SOk X.K X.mg Q G A):∀ {ns:List Expr},nsO X.env.scope Q.os ns=true->∃ts,IsNms X.env X.mg ns ts/\ts.length=ns.length/\PySem.W.kitAny X.K (.ref A) (ts.map Value.ref)=some false
 | [],_=>⟨[],.nil,rfl,rfl⟩
 | e::es,h=>by
  unfold nsO at h
  split at h
  .rename_i q;cases q
  .rename_i x p es' q
   cases q
   simp only[Bool.and_eq_true] at h
   obtain ⟨h1,h2,h3,h4⟩:=h
   obtain ⟨c,hc⟩:=List.getElem?_of_mem (List.contains_iff_mem.mp h3)
   obtain ⟨B,mB,kB⟩:=hO.o c x hc
   obtain ⟨ts,a1,a2,a3⟩:=zhg hO h4
   refine ⟨B::ts,.cons (yP h1) mB (xZ h2).1 a1,by simp[a2],?_⟩
   show (match PySem.W.kitOne X.K (.ref A) (.ref B) with | some true=>some true | some false=>PySem.W.kitAny X.K (.ref A) (ts.map Value.ref) | none=>none)=some false
   rw[kB]
   exact a3
  .cases h
inductive IsR (C:Ctx)(Q:Xc)(kx:Nat)(nm f:Str)(sc:Scope)(N:List Str):Sm->List Stmt->Prop
 | mk {i j:Nat}{a e0:Ex}{x n ny ta tb:Str}{lb:List Nat}{a0:Expr}{es ns:List Expr}{st:Stmt}{p q p' np hp pos r1 r2 p1 p2 p3 p4 p5 p6 p7 p8 p9 pa pb pc pd pe pf pg ph pi pj pk pl pm:Pos}{k1 k2 k3 k4 k5 k6:Nat}
   (h0:IsS C sc N (.asg j e0) (.s st)) (hg:glB sc nm=true) (ok:zv nm=true) (hs:(a0::es).all zn=true) (ha:IsE C sc N a (.a (a0::es))) (gg:glB sc Q.g=true) (og:zv Q.g=true) (hi:N[i]?=some n) (hn:decide (sc.names.lookup n=some .local)=true) (on:zv n=true)
   (hj:N[j]?=some x) (hx:decide (sc.names.lookup x=some .local)=true) (ox:zv x=true) (hij:decide (i=j)=false) (hns:nsO sc Q.os ns=true) (hz:ns.length<=1000) (hy:Q.rs=[ny]) (gy:glB sc ny=true) (oy:zv ny=true) (gI:glB sc "isinstance" = true) (e2:tb.cps.toList=lb) :
   IsR C Q kx nm f sc N (.seq (.asg j e0) (.seq (.asg i (.call kx a)) (.ite (.cmp .eq (.blt .len (.pair (.var i) .unit)) (.lit (.int 0))) (.ret (.var j)) (.ret (.tup (.pair (.lit (.str lb)) (.pair (.idx (.var i) (.lit (.int 0))) .unit)))))))
    (st::[.Try [.Expr (.Call (.Name nm p) (a0::es) [] q) p'] [.ExceptHandler (some (.Name Q.g np)) (some n) (qF x n ny f ns ta tb p1 p2 p3 p4 p5 p6 p7 p8 p9 pa pb pc pd pe pf pg ph pi pj pk pl pm k1 k2 k3 k4 k5 k6) hp] [] [] pos,.Return (some (.Name x r1)) r2])
section
variable {C:Ctx}{Q:Xc}{X:Cx}{cl:Nat->List Wd->Me->Rz}{d kx:Nat}{G A fI:Addr}{nm f:Str}
theorem zc1 {env:En}{m:Me}{e e':Ex}:exS cl (.ret (.tup (.pair e (.pair e' .unit)))) env m=(evE cl e env m).bindS env fun u m1=>(evE cl e' env m1).bindS env fun w m2=>.ret (.tup [u,w]) m2:=by
 show ((((evE cl e env m).bind fun x m1=>((evE cl e' env m1).bind fun x m1=>(Rz.ok (.tup []) m1).bind fun y m2=>.ok (.tup (x::zp y)) m2).bind fun y m2=>.ok (.tup (x::zp y)) m2).bind fun x m1=>if (zp x).length<=lim then .ok (.tup (zp x)) m1 else .no).bindS env fun w m1=>.ret w m1)=_
 cases evE cl e env m with
 | ok w m1 =>
  show ((((evE cl e' env m1).bind fun x m1=>(Rz.ok (.tup []) m1).bind fun y m2=>.ok (.tup (x::zp y)) m2).bind fun y m2=>.ok (.tup (w::zp y)) m2).bind fun x m1=>if (zp x).length<=lim then .ok (.tup (zp x)) m1 else .no).bindS env (fun w m1=>.ret w m1)=((evE cl e' env m1).bindS env fun w' m2=>.ret (.tup [w,w']) m2)
  cases evE cl e' env m1 with
  | ok w' m2=>rfl
  | exc c w m1=>rfl
  | no=>rfl
 | exc c w m1=>rfl
 | no=>rfl
theorem zf9 (hC:CtxOk C X cl d)(hX:StOk X)(hst:X.stack=X.env::X.outer)(hfr:X.env.frame=some X.env.locals)(hex:X.ex=[])(hO:SOk X.K X.mg Q G A)(kb:X.K.In X.base)(On:OwnN X.K A fI f)(eA:x9 X.K A=true)
  (hF:∃fa fd ps,X.mg nm=some (.ref fa)/\PySem.W.keepIn X.K (.ref fa)=true/\Binds X.K fd ps []/\FnOk X.prog X.w X.K X.mg X.base (CXs X.prog X.w) d fa fd ps (spS X.K A f (cl kx))) (val:∀ws m v m',cl kx ws m=.ok v m'->v=.tup []\/∃w,v=.tup [w]) (hN:X.N.Nodup) {s:Sm}{sts:List Stmt}(h:IsR C Q kx nm f X.env.scope X.N s sts):PSs X sts (y8 X.K (exS cl s)):=by
 cases h with
 | @mk i j a e0 x n ny ta tb lb a0 es ns st p q p' np hp pos r1 r2 p1 p2 p3 p4 p5 p6 p7 p8 p9 pa pb pc pd pe pf pg ph pi pj pk pl pm k1 k2 k3 k4 k5 k6 h0 hg ok hs ha gg og hi hn on hj hx ox hij hns hz hy gy oy gI e2 =>
  have hij':i≠j:=of_decide_eq_false hij
  obtain ⟨fa,fd,ps,f1,f2,f3,f4⟩:=hF
  have hs':=hs
  rw[List.all_cons,Bool.and_eq_true] at hs'
  have hn':=of_decide_eq_true hn
  have hx':=of_decide_eq_true hx
  obtain ⟨ts,u1,u2,u3⟩:=zhg hO hns
  obtain ⟨ny',hrs,mY⟩:=hO.x
  rw[hy] at hrs
  cases hrs
  have hGB:wS X.base G (.type "BaseException"):=(zfM kb hO.ge).2 _ hO.gb
  have hAG:wS X.base A (.ref G):=(zfM kb eA).2 _ hO.xm
  refine zcQ (jZ hC hX h0) (show PSs X _ (y8 X.K (exS cl (.seq (.asg i (.call kx a)) (.ite (.cmp .eq (.blt .len (.pair (.var i) .unit)) (.lit (.int 0))) (.ret (.var j)) (.ret (.tup (.pair (.lit (.str lb)) (.pair (.idx (.var i) (.lit (.int 0))) .unit)))))))) from ?_)
  have pT:PS X (.Try [.Expr (.Call (.Name nm p) (a0::es) [] q) p'] [.ExceptHandler (some (.Name Q.g np)) (some n) (qF x n ny f ns ta tb p1 p2 p3 p4 p5 p6 p7 p8 p9 pa pb pc pd pe pf pg ph pi pj pk pl pm k1 k2 k3 k4 k5 k6) hp] [] [] pos) _:=zef (X:=X) (G:=G) (p:=p) (q:=q) (p':=p') (np:=np) (hp:=hp) (pos:=pos)
   hst hfr hex f4 hC.room (yP hg) f1 f2 f3 (xZ ok).1 (t:=v7 X.K (evE cl a)) (fun E=>yH ha (X.wish E) (hC.wish E) rfl rfl) hGB (yP gg) hO.g (xZ og).1 hN hi hn' (zi hs'.1) (yh hs'.2) (qO (by rfl))
  have pR:PS X (.Return (some (.Name x r1)) r2) (zgC (zaV j)):=zb0 (wG hj (.inl hx') (xZ ox).1 (xZ ox).2)
  intro pins s σ H D I qq
  refine xH pT (xP pR) pins s σ H D I ?_
  have hiσ:i < σ.length:=by rw[I.len];exact (List.getElem?_eq_some_iff.mp hi).1
  have hjσ:j < σ.length:=by rw[I.len];exact (List.getElem?_eq_some_iff.mp hj).1
  obtain ⟨as,env,m,S,G',P⟩:=qq
  have P0:PostS X.K as H D (match ((evE cl a env m).bind fun w m1=>cl kx (zp w) m1).bindS env (fun w m1=>.next (env.set i (some w)) m1) with
   | .next e m1=>exS cl (.ite (.cmp .eq (.blt .len (.pair (.var i) .unit)) (.lit (.int 0))) (.ret (.var j)) (.ret (.tup (.pair (.lit (.str lb)) (.pair (.idx (.var i) (.lit (.int 0))) .unit))))) e m1
   | r=>r):=P
  refine ⟨as,env,m,S,G',?_⟩
  cases hev:evE cl a env m with
  | exc _ _ _=>rw[hev] at P0;exact P0.elim
  | no=>rw[hev] at P0;exact P0.elim
  | ok wa m1 =>
   rw[hev] at P0
   intro as1 H1 vs T1 S1 R1
   refine ⟨as1,m1,zp wa,S1,R1,?_⟩
   have P1:PostS X.K as H D (match (cl kx (zp wa) m1).bindS env (fun w m1=>.next (env.set i (some w)) m1) with
    | .next e m1=>exS cl (.ite (.cmp .eq (.blt .len (.pair (.var i) .unit)) (.lit (.int 0))) (.ret (.var j)) (.ret (.tup (.pair (.lit (.str lb)) (.pair (.idx (.var i) (.lit (.int 0))) .unit))))) e m1
    | r=>r):=P0
   cases hcl:cl kx (zp wa) m1 with
   | exc c w' m2=>rw[hcl] at P1;exact P1.elim
   | no=>rw[hcl] at P1;exact P1.elim
   | ok u m2 =>
    rw[hcl] at P1
    have P2:PostS X.K as H D (exS cl (.ite (.cmp .eq (.blt .len (.pair (.var i) .unit)) (.lit (.int 0))) (.ret (.var j)) (.ret (.tup (.pair (.lit (.str lb)) (.pair (.idx (.var i) (.lit (.int 0))) .unit))))) (env.set i (some u)) m2):=P1
    have hie:i < env.length:=by rw[G'.len];exact hiσ
    have hi2:(env.set i (some u))[i]?=some (some u):=List.getElem?_set_self hie
    have ec:∀xs,u=.tup xs->evE cl (.cmp .eq (.blt .len (.pair (.var i) .unit)) (.lit (.int 0))) (env.set i (some u)) m2=.ok (.bl (decide ((xs.length:Int)=0))) m2:=fun xs e=>by
     show ((((match (env.set i (some u))[i]? with | some (some w)=>Rz.ok w m2 | _=>.no).bind fun x m1=>(Rz.ok (.tup []) m1).bind fun y m2=>.ok (.tup (x::zp y)) m2).bind fun x m1=>wD .len (zp x) m1).bind fun x m1=>(Rz.ok (.int 0) m1).bind fun y m2=>cop .eq x y m2)=_
     rw[hi2,e]
     rfl
    have P3:PostS X.K as H D ((evE cl (.cmp .eq (.blt .len (.pair (.var i) .unit)) (.lit (.int 0))) (env.set i (some u)) m2).bindS (env.set i (some u)) fun b m3=>match b with
     | .bl true=>exS cl (.ret (.var j)) (env.set i (some u)) m3
     | .bl false=>exS cl (.ret (.tup (.pair (.lit (.str lb)) (.pair (.idx (.var i) (.lit (.int 0))) .unit)))) (env.set i (some u)) m3
     | _=>.no):=P2
    rcases val _ _ _ _ hcl with rfl | ⟨w,rfl⟩
    .rw[ec [] rfl] at P3
     intro as2 H2 v2 T2 S2
     have P4:PostS X.K as H D ((match (env.set i (some (.tup [])))[j]? with | some (some w)=>Rz.ok w m2 | _=>.no).bindS (env.set i (some (.tup []))) fun w m1=>.ret w m1):=P3
     rw[List.getElem?_set_ne hij'] at P4
     cases hw:env[j]? with
     | none=>rw[hw] at P4;exact P4.elim
     | some o =>
      cases o with
      | none=>rw[hw] at P4;exact P4.elim
      | some w =>
       rw[hw] at P4
       obtain ⟨v4,hv4,R4⟩:=(G'.mono S (T1.trans T2)).get j _ hw
       exact ⟨v4,hv4,P4 as2 H2 v4 (T1.trans T2) S2 R4⟩
    .rw[ec [w] rfl] at P3
     intro as2 H2 v2 T2 S2 R2 D' hD'
     have P4:PostS X.K as H D (exS cl (.ret (.tup (.pair (.lit (.str lb)) (.pair (.idx (.var i) (.lit (.int 0))) .unit)))) (env.set i (some (.tup [w]))) m2):=P3
     have ee:exS cl (.ret (.tup (.pair (.lit (.str lb)) (.pair (.idx (.var i) (.lit (.int 0))) .unit)))) (env.set i (some (.tup [w]))) m2=.ret (.tup [.str lb,w]) m2:=by
      have e3:evE cl (.idx (.var i) (.lit (.int 0))) (env.set i (some (.tup [w]))) m2=.ok w m2:=by
       show ((match (env.set i (some (.tup [w])))[i]? with | some (some w)=>Rz.ok w m2 | _=>.no).bind fun x m1=>(Rz.ok (.int 0) m1).bind fun y m2=>vB x y m2)=_
       rw[hi2]
       rfl
      rw[zc1]
      show ((evE cl (.idx (.var i) (.lit (.int 0))) (env.set i (some (.tup [w]))) m2).bindS (env.set i (some (.tup [w]))) fun w m2=>.ret (.tup [.str lb,w]) m2)=_
      rw[e3]
      rfl
     rw[ee] at P4
     refine ⟨A,D',rfl,rfl,hAG,fun e oe E' hoe hnc hdi hHe=>?_⟩
     have hv:(σ.set i (some (V.ref e)))[i]?=some (some (V.ref e)):=List.getElem?_set_self hiσ
     have hDe:D'≠e:=fun z=>by rw[z,zg] at hHe;cases hHe
     have hxd:upd (upd H2 D' (.xd [(f,v2)])) e (exO oe) D'=some (.xd [(f,v2)]):=by rw[zd hDe];exact zg
     refine zbn (X:=X.heldT e E') (C:=A) (Y:=A) (e:=e) (fs:=[(f,v2)]) (v:=v2) hO.xe On hO.xk u3 hoe hnc hdi u1 (by rw[u2];exact hz) (yP gy) mY (xZ oy).1 (yP gI) (hC.blt _ (by simp[zu])) hN hj hx' hij' hi hn' (xZ on).1 (xZ on).2 hv zg hxd (by simp) rfl fun q1 q2 q3 ts' h1 h2 h3=>?_
     obtain ⟨Ta,Sa⟩:=ve S2 hD' (.xd [(f,v2)])
     obtain ⟨Tb,Sb⟩:=ve Sa hHe (exO oe)
     obtain ⟨Tc,Sc⟩:=ve Sb h1 (.tup [.str ta,.non])
     obtain ⟨Td,Sd⟩:=ve Sc h2 (.tup ts')
     obtain ⟨Te,Se⟩:=ve Sd h3 (.tup [.str tb,v2])
     have TT:=((Ta.trans Tb).trans Tc).trans (Td.trans Te)
     refine ⟨.ref q3,?_,P4 as2 _ (.ref q3) ((T1.trans T2).trans TT) Se ?_⟩
     .rw[List.getElem?_set_ne hij',List.getElem?_set_self (by rw[List.length_set,List.length_set];exact hjσ)]
     .refine ⟨q3,[.str tb,v2],rfl,SqT.of zg,?_⟩
      have R3:Rep X.K as2 _ w v2:=R2.mono S2 TT
      refine ⟨_,_,rfl,rep_str.mpr (by subst e2;simp),_,_,rfl,R3,rfl⟩
end
structure OkR (C:Ctx)(Q:Xc)(kx:Nat)(nm f:Str)(d:Dfn):Prop where
 sc:xz d.N d.ps (zo d.st)=true
 ar:d.ps.length=d.fn.ar
 sz:d.N.length=d.fn.sz
 body:IsR C Q kx nm f (zo d.st) d.N d.fn.body (zW d.st)
section
variable {P:Program}{w:World}{K:PySem.W.Frag}{mg:Str->Option Value}{base:Heap}{C:Ctx}{Q:Xc}{cl:Nat->List Wd->Me->Rz}{kx:Nat}{nm f:Str}{G A fI:Addr}
theorem zbt {d:Dfn}{fa:Addr}{fd:FuncData}{k:Nat}(F:Fun K d.nm d.nm d.st fa fd)(hd:OkR C Q kx nm f d)(kb:K.In base)(hO:SOk K mg Q G A)(On:OwnN K A fI f)(eA:x9 K A=true)
  (hF:∃fa fd ps,mg nm=some (.ref fa)/\PySem.W.keepIn K (.ref fa)=true/\Binds K fd ps []/\FnOk P w K mg base (CXs P w) k fa fd ps (spS K A f (cl kx))) (val:∀ws m v m',cl kx ws m=.ok v m'->v=.tup []\/∃w,v=.tup [w])
  (hfn:∀ (i:Nat) (nm:Str),C.fns[i]?=some nm->∃f fd ps,mg nm=some (.ref f)/\PySem.W.keepIn K (.ref f)=true/\Binds K fd ps []/\FnOk P w K mg base CX0 k f fd ps (v6 K (cl i)))
  (hcon:∀ (nm:Str) (i:Int),C.cons.lookup nm=some i->∃t,mg nm=some (.int i t)) (hblt:∀nm∈zu,mg nm=none) :
  FnOk P w K mg base CX0 (k+1) fa fd d.ps (v6 K (xy cl d.fn)):=by
 obtain ⟨h1,h2,h3,h4⟩:=hd
 have Sc:=wx h1
 refine F.ok Sc (fun vs H Q' E h=>?_) (fun cdv A' outer s H vs Q' E hr h=>?_)
 .obtain ⟨as,m,ws,S,R,q⟩:=h
  rw[<- R.length,arity q,h2]
 .obtain ⟨as,m,ws,S,R,q⟩:=h
  have ha:=arity q
  have hC:CtxOk C (wQ CX0 P w K mg base d.N d.nm (zo d.st) fa cdv A' outer s H E).nox cl k:=⟨hr,rfl,hfn,hcon,hblt⟩
  refine ⟨_,zf9 hC ?hX rfl rfl rfl hO kb On eA hF val Sc.nd h4,as,yF d.fn ws,m,S,vH R ha h3,?_⟩
  case hX=>exact ⟨Sc.nd,fun _=>rfl,PassesOwn.never⟩
  unfold xy at q
  rw[if_pos ha] at q
  cases hr:exS cl d.fn.body (yF d.fn ws) m with
  | next e m1=>rw[hr] at q;exact fun as' H' σ' T S' G'=>q as' H' .non T S' (rep_non.mpr rfl)
  | ret w m1=>rw[hr] at q;exact fun as' H' v T S' R'=>q as' H' v T S' R'
  | brk e m1=>rw[hr] at q;exact q.elim
  | cont e m1=>rw[hr] at q;exact q.elim
  | exc c w e m1=>rw[hr] at q;exact q.elim
  | no=>rw[hr] at q;exact q.elim
end
section
variable {P:Program}{w:World}{K:PySem.W.Frag}{mg:Str->Option Value}{base:Heap}{C:Ctx}{Q:Xc}{x n a0:Str}{G A fI:Addr}{st:Stmt}
theorem zc2 {D:List Dfn}{xd:Dfn}(hC:C.fns=D.map (·.nm))(hD:∀d∈D,OkD C d\/OkR C Q D.length xd.nm n d)(hX:OkY C x xd)(hB:∀d∈D,Bnd d)(hBX:Bnd xd)(hK:∀d∈D,zZ K mg d)(hKX:zZ K mg xd)
  (kb:K.In base) (hO:SOk K mg Q G A) (hm:mg x=some (.ref A)) (O:InitOk K A fI n a0 st) (hcon:∀ (nm:Str) (i:Int),C.cons.lookup nm=some i->∃t,mg nm=some (.int i t)) (hblt:∀nm∈zu,mg nm=none) :
  ∀k:Nat,(∀ (i:Nat) (d:Dfn),D[i]?=some d->∀f fd,Fun K d.nm d.nm d.st f fd->FnOk P w K mg base CX0 k f fd d.ps (v6 K (yt (D.map (·.fn)++[xd.fn]) k i))) /\
   (∃f fd ps,mg xd.nm=some (.ref f)/\PySem.W.keepIn K (.ref f)=true/\Binds K fd ps []/\FnOk P w K mg base (CXs P w) k f fd ps (spS K A n (yt (D.map (·.fn)++[xd.fn]) k D.length))) /\
   ∀ws m v m',yt (D.map (·.fn)++[xd.fn]) k D.length ws m=.ok v m'->v=.tup []\/∃w,v=.tup [w]
 | 0=>by
  have no:∀ {i:Nat}{vs:List V}{H:Hp}{R:VK}{E:XK},¬ v6 K (yt (D.map (·.fn)++[xd.fn]) 0 i) vs H R E:=fun {i vs H R E} h=>by
   obtain ⟨as,m,ws,S,R,q⟩:=h
   exact q
  have noS:∀ {i:Nat}{vs:List V}{H:Hp}{R:VK}{E:XK},¬ spS K A n (yt (D.map (·.fn)++[xd.fn]) 0 i) vs H R E:=fun {i vs H R E} h=>by
   obtain ⟨as,m,ws,S,R,q⟩:=h
   exact q
  refine ⟨fun i d hi f fd F=>⟨fun vs H R E h=>(no h).elim,fun A outer s H args us vs R E _ _ _ _ h=>(no h).elim⟩,?_,fun ws m v m' h=>by cases h⟩
  obtain ⟨f,fd,F,hm⟩:=hKX
  exact ⟨f,fd,xd.ps,hm,F.kp,F.binds hBX,⟨fun vs H R E h=>(noS h).elim,fun A outer s H args us vs R E _ _ _ _ h=>(noS h).elim⟩⟩
 | k+1=>by
  obtain ⟨ih,ihX,ihV⟩:=zc2 hC hD hX hB hBX hK hKX kb hO hm O hcon hblt k
  have hfn:∀ (j:Nat) (nm:Str),C.fns[j]?=some nm->∃f fd ps,mg nm=some (.ref f)/\PySem.W.keepIn K (.ref f)=true/\Binds K fd ps []/\FnOk P w K mg base CX0 k f fd ps (v6 K (yt (D.map (·.fn)++[xd.fn]) k j)):=fun j nm hj=>by
   rw[hC,List.getElem?_map] at hj
   cases hx:D[j]? with
   | none=>rw[hx] at hj;cases hj
   | some d' =>
    rw[hx] at hj
    cases hj
    obtain ⟨f',fd',F',m'⟩:=hK d' (List.mem_of_getElem? hx)
    exact ⟨f',fd',d'.ps,m',F'.kp,F'.binds (hB d' (List.mem_of_getElem? hx)),ih j d' hx f' fd' F'⟩
  have at1:∀ {i:Nat}{d:Dfn},D[i]?=some d->yt (D.map (·.fn)++[xd.fn]) (k+1) i=xy (yt (D.map (·.fn)++[xd.fn]) k) d.fn:=fun {i d} hi=>by
   funext ws m
   have z:(D.map Dfn.fn++[xd.fn])[i]?=some d.fn:=by
    rw[List.getElem?_append_left (by rw[List.length_map];exact (List.getElem?_eq_some_iff.mp hi).1),List.getElem?_map,hi]
    rfl
   show (match ((D.map Dfn.fn)++[xd.fn]:List Fn)[i]? with
    | some fn=>xy (yt (D.map Dfn.fn++[xd.fn]) k) fn ws m
    | none=>.no)=_
   rw[z]
  have at2:yt (D.map (·.fn)++[xd.fn]) (k+1) D.length=xy (yt (D.map (·.fn)++[xd.fn]) k) xd.fn:=by
   funext ws m
   have z:(D.map Dfn.fn++[xd.fn])[D.length]?=some xd.fn:=by
    rw[List.getElem?_append_right (by rw[List.length_map];exact Nat.le_refl _),List.length_map,Nat.sub_self]
    rfl
   show (match ((D.map Dfn.fn)++[xd.fn]:List Fn)[D.length]? with
    | some fn=>xy (yt (D.map Dfn.fn++[xd.fn]) k) fn ws m
    | none=>.no)=_
   rw[z]
  refine ⟨fun i d hi f fd F=>?_,?_,?_⟩
  .rw[at1 hi]
   rcases hD d (List.mem_of_getElem? hi) with h | h
   .exact zcW F h hfn hcon hblt
   .exact zbt F h kb hO O.own O.cls ihX ihV hfn hcon hblt
  .obtain ⟨f,fd,F,m'⟩:=hKX
   rw[at2]
   exact ⟨f,fd,xd.ps,m',F.kp,F.binds hBX,zbs F hX hm O hfn hcon hblt⟩
  .rw[at2]
   exact runY hX
end
theorem zbu {K:PySem.W.Frag}{T:List Fn}{k i:Nat}{H:Hp}{a:Addr}{ns:List Int}{E:XK}(hO:zcd H)(hS:SqL K H a (ns.map V.int))(h:∃m,yt T k i [.rol (ns.map Wd.int)] []=.ok (.bl true) m):
  v6 K (yt T k i) [.ref a] H (fun v _=>v=.bl true) E:=by
 have e:∀l:List Fn,(l.map fun f=>(⟨"",.Pass ⟨0,0,0,0⟩,[],[],f⟩:Dfn)).map (·.fn)=l:=fun l=>by
  induction l with
  | nil=>rfl
  | cons f l ih=>show f::_=_;rw[ih]
 have z:=zcX (D:=T.map fun f=>(⟨"",.Pass ⟨0,0,0,0⟩,[],[],f⟩:Dfn)) (k:=k) (i:=i) (E:=E) hO hS
 rw[e] at z
 exact z h
theorem zhh {l:PySem.W.OpenLaw}{q:Program}{loose:List Str}{XP:(Str->Option Value)->Heap->Prop}{YP:World->Heap->Prop}{d:DefRec}{Kp:Params->PySem.W.Frag}{D:List Dfn}{xd:Dfn}{C:Ctx}{Q:Xc}{xc nn a0:Str}{st:Stmt}{k i:Nat}{dl:Dfn}{x:Str}{n:Nat}
  (hn:l.most=some n) (hn2:n<=sizeLine) (hdf:d.params.defaults=[]) (hr:Room k callerA) (hY:∀ (w:World) (h:Heap),YP w h->(Kp w.params).In h)
  (hC:C.fns=D.map (·.nm)) (hD:∀d∈D,OkD C d\/OkR C Q D.length xd.nm nn d) (hX:OkY C xc xd) (hB:∀d∈D,Bnd d) (hBX:Bnd xd) (hi:D[i]?=some dl) (hx:dl.ps=[x]) (hnm:d.name=dl.nm)
  (F:∀ (w:World) (mg:Str->Option Value) (fa:Addr) (h:Heap),(Kp w.params).In h->h.Ns mainGlobals mg->mg d.name=some (.ref fa) ->
   ((∀e∈D,zZ (Kp w.params) mg e)/\(∀ (nm:Str) (i:Int),C.cons.lookup nm=some i->∃t,mg nm=some (.int i t))/\∀nm∈zu,mg nm=none)/\zZ (Kp w.params) mg xd/\∃G A fI,SOk (Kp w.params) mg Q G A/\mg xc=some (.ref A)/\InitOk (Kp w.params) A fI nn a0 st)
  (hpure:∀ns:List Int,ns.length<=n->∃m,yt (D.map (·.fn)++[xd.fn]) k i [.rol (ns.map Wd.int)] []=.ok (.bl true) m) :
  PySem.W.WalkO q loose XP YP l.row.toRowW d [] (fun f vs=>PySem.call f vs):=by
 refine L2.zd6 (n:=n) (k:=k) (x:=x) (CX:=fun _=>CX0) (sp:=fun w=>v6 (Kp w.params) (yt (D.map (·.fn)++[xd.fn]) k i)) hn hn2 hdf hr hY ?_ (fun w H a ns hl hO hS=>zbu hO hS (hpure ns hl)) fun _ _ _ _ _ z=>z
 intro w mg fa h KX Gn hmg
 obtain ⟨⟨h1,h2,h3⟩,h4,G,A,fI,h5,h6,h7⟩:=F w mg fa h KX Gn hmg
 obtain ⟨f,fd,Ff,hm⟩:=h1 dl (List.mem_of_getElem? hi)
 rw[hnm,hm] at hmg
 cases hmg
 refine ⟨fd,fun s u=>?_,fun base kb nb=>?_⟩
 .obtain ⟨oc,od,kV,doc,pm,an,cdv,ct,osl,rfl,lk,hcd⟩:=Ff.ex
  have z:=hB dl (List.mem_of_getElem? hi) kV doc pm an cdv ct [u] (by rw[hx];rfl)
  rw[hx] at z
  exact .of_eq z
 .rw[<- hx]
  exact (zc2 hC hD hX hB hBX h1 h4 kb h5 h6 h7 h2 h3 k).1 i dl hi fa fd Ff
theorem zhi {q:Program}{loose:List Str}{XP:(Str->Option Value)->Heap->Prop}{r:PySem.W.RowW}{d:DefRec}{kwd:List (Str×Expr)}{run:Value->List Value->Sem Value}{K:Params->PySem.W.Frag}{as:List Addr}{n t:Nat}(e:∀P,as=(K P).map (·.1))
  (h:PySem.W.WalkO q loose XP (fun w h=>(K w.params).In h) r d kwd run):PySem.W.WalkX q loose XP (PySem.W.X.obsZ as) (PySem.W.X.valZ K n t) r d kwd run :=
 fun w s₀ s₁ mg mb G y a o pm cd doc dV kV h1 h2 h3 h4 h5 h6 args vals as' L p1 p2 p3 p4 p5=>h w s₀ s₁ mg mb G (PySem.W.InK.keeps (K:=K) w _ _ (PySem.W.X.z_facts e y).2.1 L.keeps) a o pm cd doc dV kV h1 h2 h3 h4 h5 h6 args vals as' p1 p2 p3 p4 p5
end Mini
namespace R28
open PySem L2 Mini
noncomputable def top (i:Nat):Stmt:=PySem.Challenge.pw_loopgyre_k28_no_triangles.main.body.getD i (.Pass ⟨0,0,0,0⟩)
noncomputable def ist:Stmt:=match top 2 with
 | .ClassDef _ _ _ b _ _ _ _ _ _ _=>b.getD 0 (.Pass ⟨0,0,0,0⟩)
 | s=>s
noncomputable def f0:Fn:=⟨1,1,(.ret (.and (.isi .int (.var 0)) (.not (.isi .bool (.var 0)))))⟩
noncomputable abbrev d0:Dfn:=⟨"is_whole",top 7,["thing"],["thing"],f0⟩
noncomputable def f1:Fn:=⟨2,2,(.ret (.and (.call 0 (.pair (.var 0) .unit)) (.chain .le .le (.lit (.int 1)) (.var 0) (.var 1))))⟩
noncomputable abbrev d1:Dfn:=⟨"is_size_to",top 8,["thing", "most"],["thing", "most"],f1⟩
noncomputable def f2:Fn:=⟨1,1,(.ret (.call 1 (.pair (.var 0) (.pair (.lit (.int 12)) .unit))))⟩
noncomputable abbrev d2:Dfn:=⟨"is_size",top 9,["thing"],["thing"],f2⟩
noncomputable def f3:Fn:=⟨2,2,(.ret (.and (.isi .list (.var 0)) (.and (.cmp .eq (.blt .len (.pair (.var 0) .unit)) (.var 1)) (.blt .all (.pair (.comp (.call 0 (.pair (.var 2) .unit)) (.var 0) (.lit (.bl true))) .unit)))))⟩
noncomputable abbrev d3:Dfn:=⟨"is_number_row",top 10,["thing", "length"],["thing", "length"],f3⟩
noncomputable def f4:Fn:=⟨3,3,(.ret (.and (.call 3 (.pair (.var 0) (.pair (.var 1) .unit))) (.blt .all (.pair (.comp (.chain .le .lt (.lit (.int 0)) (.var 3) (.var 2)) (.var 0) (.lit (.bl true))) .unit))))⟩
noncomputable abbrev d4:Dfn:=⟨"is_row_below",top 11,["thing", "length", "bound"],["thing", "length", "bound"],f4⟩
noncomputable def f5:Fn:=⟨1,1,(.seq (.ite (.or (.not (.isi .list (.var 0))) (.not (.call 2 (.pair (.blt .len (.pair (.var 0) .unit)) .unit)))) (.ret (.lit (.bl false))) .skip) (.ret (.blt .all (.pair (.compP .enum (.call 4 (.pair (.var 2) (.pair (.var 1) (.pair (.blt .len (.pair (.var 0) .unit)) .unit)))) (.var 0) (.lit (.int 1)) (.lit (.bl true))) .unit))))⟩
noncomputable abbrev d5:Dfn:=⟨"is_column_triangle",top 13,["thing"],["thing"],f5⟩
noncomputable def f6:Fn:=⟨3,5,(.seq (.asg 3 (.idx (.var 0) (.bin .sub (.var 1) (.lit (.int 1))))) (.seq (.ite (.and (.cmp .gt (.var 2) (.lit (.int 0))) (.cmp .le (.idx (.var 3) (.var 2)) (.idx (.var 3) (.bin .sub (.var 2) (.lit (.int 1)))))) (.ret (.lit (.bl true))) .skip) (.seq (.ite (.cmp .eq (.var 1) (.blt .len (.pair (.var 0) .unit))) (.ret (.lit (.bl false))) .skip) (.seq (.asg 4 (.idx (.var 0) (.var 1))) (.ret (.or (.cmp .lt (.idx (.var 3) (.var 2)) (.idx (.var 4) (.var 2))) (.cmp .gt (.idx (.var 3) (.var 2)) (.idx (.var 4) (.bin .add (.var 2) (.lit (.int 1)))))))))))⟩
noncomputable abbrev d6:Dfn:=⟨"is_faulty_spot",top 14,["triangle", "k", "m", "row", "behind"],["triangle", "k", "m"],f6⟩
noncomputable def f7:Fn:=⟨1,3,(.seq (.forv 1 (.rng (.lit (.int 1)) (.bin .add (.blt .len (.pair (.var 0) .unit)) (.lit (.int 1))) (.lit (.int 1))) (.forv 2 (.rng (.lit (.int 0)) (.var 1) (.lit (.int 1))) (.ite (.call 6 (.pair (.var 0) (.pair (.var 1) (.pair (.var 2) .unit)))) (.ret (.tup (.pair (.var 1) (.pair (.var 2) .unit)))) .skip))) (.ret (.lit .non)))⟩
noncomputable abbrev d7:Dfn:=⟨"first_faulty_spot",top 15,["triangle", "k", "m"],["triangle"],f7⟩
noncomputable def f8:Fn:=⟨2,2,(.ret (.comp (.ife (.cmp .isin (.var 2) (.var 0)) (.lit (.int 1)) (.lit (.int 0))) (.rng (.lit (.int 0)) (.var 1) (.lit (.int 1))) (.lit (.bl true))))⟩
noncomputable abbrev d8:Dfn:=⟨"column_marks",top 16,["row", "n"],["row", "n"],f8⟩
noncomputable def f9:Fn:=⟨1,6,(.seq (.asg 1 (.blt .len (.pair (.var 0) .unit))) (.seq (.asg 2 (.lst .unit)) (.seq (.asg 3 (.bin .mul (.lst (.pair (.lit (.int 0)) .unit)) (.var 1))) (.seq (.forv 4 (.var 0) (.seq (.asg 5 (.call 8 (.pair (.var 4) (.pair (.var 1) .unit)))) (.seq (.expr (.meth .append (.var 2) (.pair (.compP .zip (.bin .sub (.var 6) (.var 7)) (.var 5) (.var 3) (.lit (.bl true))) .unit))) (.asg 3 (.var 5))))) (.ret (.var 2))))))⟩
noncomputable abbrev d9:Dfn:=⟨"signs_of_rows",top 17,["triangle", "n", "state", "before", "row", "marks"],["triangle"],f9⟩
noncomputable def f10:Fn:=⟨1,2,(.seq (.ite (.not (.call 5 (.pair (.var 0) .unit))) .never .skip) (.seq (.asg 1 (.call 7 (.pair (.var 0) .unit))) (.seq (.ite (.cmp .notN (.var 1) (.lit .non)) .never .skip) (.ret (.call 9 (.pair (.var 0) .unit))))))⟩
noncomputable abbrev d10:Dfn:=⟨"state_of_triangle",top 18,["thing", "spot"],["thing"],f10⟩
noncomputable def f11:Fn:=⟨2,2,(.seq (.ite (.cmp .lt (.var 1) (.blt .len (.pair (.var 0) .unit))) (.ret (.idx (.var 0) (.var 1))) .skip) (.ret (.bin .add (.bin .mul (.lit (.int 2)) (.var 1)) (.lit (.int 1)))))⟩
noncomputable abbrev d11:Dfn:=⟨"_law_cell_at",top 20,["_law_script", "_law_k"],["_law_script", "_law_k"],f11⟩
noncomputable def f12:Fn:=⟨2,2,(.ret (.bin .add (.bin .mul (.bin .add (.bin .mod (.var 0) (.bin .pow (.lit (.int 10)) (.lit (.int 60)))) (.bin .mul (.var 1) (.var 1))) (.lit (.int 6364136223846793013))) (.bin .mul (.bin .add (.var 1) (.lit (.int 1))) (.lit (.int 1442695040888963407)))))⟩
noncomputable abbrev d12:Dfn:=⟨"_law_mixed",top 21,["_law_cell", "_law_k"],["_law_cell", "_law_k"],f12⟩
noncomputable def f13:Fn:=⟨1,1,(.seq (.ite (.cmp .eq (.bin .mod (.var 0) (.lit (.int 8))) (.lit (.int 5))) (.ret (.bin .add (.lit (.int 1)) (.bin .mod (.bin .fdiv (.var 0) (.lit (.int 8))) (.lit (.int 12))))) .skip) (.ret (.bin .add (.lit (.int 1)) (.bin .mod (.bin .fdiv (.var 0) (.lit (.int 8))) (.lit (.int 6))))))⟩
noncomputable abbrev d13:Dfn:=⟨"_law_size_by",top 22,["_law_head"],["_law_head"],f13⟩
noncomputable def f14:Fn:=⟨2,10,(.seq (.asg 2 (.lst (.pair (.lrng (.var 0)) .unit))) (.seq (.asg 3 (.var 1)) (.seq (.forv 4 (.rng (.bin .sub (.var 0) (.lit (.int 1))) (.lit (.int 0)) (.neg (.lit (.int 1)))) (.seq (.asg 5 (.lst .unit)) (.seq (.forv 6 (.rng (.lit (.int 0)) (.var 4) (.lit (.int 1))) (.seq (.asg 7 (.idx (.idx (.var 2) (.neg (.lit (.int 1)))) (.var 6))) (.seq (.ite (.and (.cmp .gt (.var 6) (.lit (.int 0))) (.cmp .ge (.idx (.var 5) (.bin .sub (.var 6) (.lit (.int 1)))) (.var 7))) (.asg 7 (.bin .add (.idx (.var 5) (.bin .sub (.var 6) (.lit (.int 1)))) (.lit (.int 1)))) .skip) (.seq (.asg 8 (.bin .add (.bin .sub (.idx (.idx (.var 2) (.neg (.lit (.int 1)))) (.bin .add (.var 6) (.lit (.int 1)))) (.var 7)) (.lit (.int 1)))) (.seq (.asg 9 (.var 3)) (.seq (.ite (.cmp .lt (.var 1) (.bin .pow (.lit (.int 10)) (.lit (.int 18)))) (.asg 9 (.bin .fdiv (.call 12 (.pair (.var 1) (.pair (.bin .add (.bin .mul (.lit (.int 13)) (.var 4)) (.var 6)) .unit))) (.lit (.int 97)))) .skip) (.seq (.asg 3 (.bin .fdiv (.var 3) (.var 8))) (.expr (.meth .append (.var 5) (.pair (.bin .add (.var 7) (.bin .mod (.var 9) (.var 8))) .unit)))))))))) (.expr (.meth .append (.var 2) (.pair (.var 5) .unit)))))) (.seq (.expr (.meth .reverse (.var 2) .unit)) (.ret (.var 2))))))⟩
noncomputable abbrev d14:Dfn:=⟨"_law_triangle_by",top 23,["_law_n", "_law_cell", "_law_rows", "_law_rest", "_law_k", "_law_row", "_law_m", "_law_low", "_law_many", "_law_number"],["_law_n", "_law_cell"],f14⟩
def f15:Fn:=⟨1,1,(.ret (.and (.isi .int (.var 0)) (.not (.isi .bool (.var 0)))))⟩
noncomputable abbrev d15:Dfn:=⟨"_law_whole",top 24,["_law_told"],["_law_told"],f15⟩
noncomputable def f16:Fn:=⟨2,9,(.seq (.asg 2 (.comp (.blt .list (.pair (.var 9) .unit)) (.var 0) (.lit (.bl true)))) (.seq (.asg 3 (.blt .len (.pair (.var 2) .unit))) (.seq (.asg 4 (.bin .mod (.bin .fdiv (.var 1) (.lit (.int 16))) (.var 3))) (.seq (.asg 5 (.bin .mod (.bin .fdiv (.var 1) (.lit (.int 200))) (.bin .add (.var 4) (.lit (.int 1))))) (.seq (.asg 6 (.bin .mod (.var 1) (.lit (.int 16)))) (.seq (.ite (.cmp .lt (.var 6) (.lit (.int 4))) (.asgS (.idx (.var 2) (.var 4)) (.var 5) (.bin .add (.idx (.idx (.var 2) (.var 4)) (.var 5)) (.idx (.lst (.pair (.lit (.int 1)) (.pair (.neg (.lit (.int 1))) (.pair (.lit (.int 2)) (.pair (.neg (.lit (.int 2))) .unit))))) (.var 6)))) (.ite (.cmp .lt (.var 6) (.lit (.int 6))) (.asgS (.idx (.var 2) (.var 4)) (.var 5) (.bin .mod (.bin .fdiv (.var 1) (.lit (.int 3000))) (.var 3))) (.ite (.cmp .lt (.var 6) (.lit (.int 8))) (.seq (.asg 7 (.bin .mod (.bin .fdiv (.var 1) (.lit (.int 3000))) (.bin .add (.var 4) (.lit (.int 1))))) (.seq (.asg 8 (.idx (.var 2) (.var 4))) (.swapS (.var 8) (.var 5) (.var 8) (.var 7) (.idx (.var 8) (.var 7)) (.idx (.var 8) (.var 5))))) (.ite (.cmp .eq (.var 6) (.lit (.int 8))) (.seq (.asg 7 (.bin .mod (.bin .fdiv (.var 1) (.lit (.int 3000))) (.var 3))) (.swapS (.var 2) (.var 4) (.var 2) (.var 7) (.idx (.var 2) (.var 7)) (.idx (.var 2) (.var 4)))) (.ite (.cmp .eq (.var 6) (.lit (.int 9))) (.asgS (.idx (.var 2) (.var 4)) (.var 5) (.idx (.lst (.pair (.lit (.bl true)) (.pair (.lit (.bl false)) (.pair (.lit .non) (.pair (.lit (.str [49])) (.pair (.lst (.pair (.lit (.int 1)) .unit)) (.pair (.tup (.pair (.lit (.int 1)) .unit)) (.pair (.neg (.lit (.int 1))) (.pair (.var 3) (.pair (.bin .pow (.lit (.int 10)) (.lit (.int 29))) .unit)))))))))) (.bin .mod (.bin .fdiv (.var 1) (.lit (.int 3000))) (.lit (.int 9))))) (.ite (.cmp .eq (.var 6) (.lit (.int 10))) (.asgS (.var 2) (.var 4) (.idx (.lst (.pair (.blt .tuple (.pair (.idx (.var 2) (.var 4)) .unit)) (.pair (.lit .non) (.pair (.lit (.str [48])) (.pair (.lit (.int 1)) (.pair (.bin .add (.idx (.var 2) (.var 4)) (.lst (.pair (.lit (.int 0)) .unit))) (.pair (.slL (.idx (.var 2) (.var 4)) (.lit (.int 1))) .unit))))))) (.bin .mod (.bin .fdiv (.var 1) (.lit (.int 3000))) (.lit (.int 6))))) (.ite (.cmp .eq (.var 6) (.lit (.int 11))) (.asg 2 (.idx (.lst (.pair (.blt .tuple (.pair (.var 2) .unit)) (.pair (.lit .non) (.pair (.lit (.str [48])) (.pair (.lit (.int 1)) (.pair (.lst .unit) (.pair (.bin .add (.var 2) (.lst (.pair (.idx (.var 2) (.neg (.lit (.int 1)))) .unit))) (.pair (.slL (.var 2) (.lit (.int 1))) (.pair (.lst (.pair (.var 2) .unit)) .unit))))))))) (.bin .mod (.bin .fdiv (.var 1) (.lit (.int 3000))) (.lit (.int 8))))) (.ite (.cmp .eq (.var 6) (.lit (.int 12))) (.asg 2 (.comp (.lrng (.bin .add (.var 9) (.lit (.int 1)))) (.rng (.lit (.int 0)) (.lit (.int 13)) (.lit (.int 1))) (.lit (.bl true)))) (.ite (.cmp .eq (.var 6) (.lit (.int 13))) (.expr (.meth .reverse (.var 2) .unit)) (.ite (.cmp .eq (.var 6) (.lit (.int 14))) (.asgS (.var 2) (.var 4) (.comp (.var 5) (.rng (.lit (.int 0)) (.bin .add (.var 4) (.lit (.int 1))) (.lit (.int 1))) (.lit (.bl true)))) .skip)))))))))) (.ret (.var 2))))))))⟩
noncomputable abbrev d16:Dfn:=⟨"_law_odd_by",top 25,["_law_rows", "_law_cell", "_law_made", "_law_n", "_law_r", "_law_c", "_law_sort", "_law_spot", "_law_row"],["_law_rows", "_law_cell"],f16⟩
noncomputable def f17:Fn:=⟨1,3,(.seq (.ite (.or (.not (.isi .list (.var 0))) (.not (.chain .lt .lt (.lit (.int 0)) (.blt .len (.pair (.var 0) .unit)) (.lit (.int 13))))) (.ret (.lit (.bl false))) .skip) (.seq (.forv 1 (.rng (.lit (.int 0)) (.blt .len (.pair (.var 0) .unit)) (.lit (.int 1))) (.seq (.ite (.or (.not (.isi .list (.idx (.var 0) (.var 1)))) (.cmp .ne (.blt .len (.pair (.idx (.var 0) (.var 1)) .unit)) (.bin .add (.var 1) (.lit (.int 1))))) (.ret (.lit (.bl false))) .skip) (.forv 2 (.idx (.var 0) (.var 1)) (.ite (.or (.not (.call 15 (.pair (.var 2) .unit))) (.not (.chain .le .lt (.lit (.int 0)) (.var 2) (.blt .len (.pair (.var 0) .unit))))) (.ret (.lit (.bl false))) .skip)))) (.ret (.lit (.bl true)))))⟩
noncomputable abbrev d17:Dfn:=⟨"_law_is_form",top 26,["_law_thing", "_law_k", "_law_number"],["_law_thing"],f17⟩
noncomputable def f18:Fn:=⟨1,4,(.seq (.forv 1 (.rng (.lit (.int 0)) (.blt .len (.pair (.var 0) .unit)) (.lit (.int 1))) (.forv 2 (.rng (.lit (.int 0)) (.bin .add (.var 1) (.lit (.int 1))) (.lit (.int 1))) (.seq (.asg 3 (.idx (.idx (.var 0) (.var 1)) (.var 2))) (.seq (.ite (.and (.cmp .gt (.var 2) (.lit (.int 0))) (.cmp .le (.var 3) (.idx (.idx (.var 0) (.var 1)) (.bin .sub (.var 2) (.lit (.int 1)))))) (.ret (.tup (.pair (.bin .add (.var 1) (.lit (.int 1))) (.pair (.var 2) .unit)))) .skip) (.ite (.cmp .lt (.var 1) (.bin .sub (.blt .len (.pair (.var 0) .unit)) (.lit (.int 1)))) (.ite (.or (.cmp .lt (.var 3) (.idx (.idx (.var 0) (.bin .add (.var 1) (.lit (.int 1)))) (.var 2))) (.cmp .gt (.var 3) (.idx (.idx (.var 0) (.bin .add (.var 1) (.lit (.int 1)))) (.bin .add (.var 2) (.lit (.int 1)))))) (.ret (.tup (.pair (.bin .add (.var 1) (.lit (.int 1))) (.pair (.var 2) .unit)))) .skip) .skip))))) (.ret (.lit .non)))⟩
noncomputable abbrev d18:Dfn:=⟨"_law_fault",top 27,["_law_thing", "_law_k", "_law_m", "_law_number"],["_law_thing"],f18⟩
noncomputable def f19:Fn:=⟨1,3,(.seq (.asg 1 (.tup (.pair (.lit (.str [115,116,97,116,101])) .unit))) (.seq (.asg 2 (.call 21 (.pair (.var 0) .unit))) (.ite (.cmp .eq (.blt .len (.pair (.var 2) .unit)) (.lit (.int 0))) (.ret (.var 1)) (.ret (.tup (.pair (.lit (.str [102,97,117,108,116])) (.pair (.idx (.var 2) (.lit (.int 0))) .unit)))))))⟩
noncomputable abbrev d19:Dfn:=⟨"_law_refused",top 28,["_law_thing", "_law_told", "e"],["_law_thing"],f19⟩
noncomputable def f20:Fn:=⟨1,5,(.seq (.asg 1 (.call 13 (.pair (.call 11 (.pair (.var 0) (.pair (.lit (.int 0)) .unit))) .unit))) (.seq (.asg 2 (.call 16 (.pair (.call 14 (.pair (.var 1) (.pair (.call 11 (.pair (.var 0) (.pair (.lit (.int 1)) .unit))) .unit))) (.pair (.call 11 (.pair (.var 0) (.pair (.lit (.int 2)) .unit))) .unit)))) (.seq (.asg 3 (.call 16 (.pair (.call 14 (.pair (.var 1) (.pair (.call 11 (.pair (.var 0) (.pair (.lit (.int 1)) .unit))) .unit))) (.pair (.call 11 (.pair (.var 0) (.pair (.lit (.int 2)) .unit))) .unit)))) (.seq (.asg 4 (.tup (.pair (.lit (.str [102,97,117,108,116])) (.pair (.lit .non) .unit)))) (.seq (.ite (.call 17 (.pair (.var 2) .unit)) (.seq (.asg 4 (.tup (.pair (.lit (.str [102,97,117,108,116])) (.pair (.call 18 (.pair (.var 2) .unit)) .unit)))) (.ite (.cmp .isN (.idx (.var 4) (.lit (.int 1))) (.lit .non)) (.asg 4 (.tup (.pair (.lit (.str [115,116,97,116,101])) .unit))) .skip)) .skip) (.ret (.and (.cmp .eq (.call 19 (.pair (.var 2) .unit)) (.var 4)) (.and (.cmp .eq (.call 19 (.pair (.var 2) .unit)) (.var 4)) (.cmp .eq (.var 2) (.var 3))))))))))⟩
noncomputable abbrev d20:Dfn:=⟨"law",top 29,["_law_script", "_law_n", "_law_odd", "_law_kept", "_law_due"],["_law_script"],f20⟩
noncomputable def D:List Dfn:=[d0,d1,d2,d3,d4,d5,d6,d7,d8,d9,d10,d11,d12,d13,d14,d15,d16,d17,d18,d19,d20]
noncomputable def C:Mini.Ctx:=⟨["is_whole", "is_size_to", "is_size", "is_number_row", "is_row_below", "is_column_triangle", "is_faulty_spot", "first_faulty_spot", "column_marks", "signs_of_rows", "state_of_triangle", "_law_cell_at", "_law_mixed", "_law_size_by", "_law_triangle_by", "_law_whole", "_law_odd_by", "_law_is_form", "_law_fault", "_law_refused", "law"],[("GREATEST_SIZE",12)]⟩
noncomputable def x0:Fn:=⟨1,2,(.seq (.ite (.not (.call 5 (.pair (.var 0) .unit))) (.ret (.tup (.pair (.lit .non) .unit))) .skip) (.seq (.asg 1 (.call 7 (.pair (.var 0) .unit))) (.seq (.ite (.cmp .notN (.var 1) (.lit .non)) (.ret (.tup (.pair (.var 1) .unit))) .skip) (.seq (.expr (.call 9 (.pair (.var 0) .unit))) (.ret (.tup .unit))))))⟩
noncomputable abbrev xd0:Dfn:=⟨"state_of_triangle",top 18,["thing", "spot"],["thing"],x0⟩
noncomputable def Q:Xc:=⟨"GyreError",["NoState"],["NoSize", "NoText"]⟩
theorem okY:OkY C "NoState" xd0:=⟨by decide +kernel,rfl,rfl,IsY.mk (i:=1) rfl rfl (.not rfl rfl (.call rfl (by kernel_rfl) (by kernel_rfl) rfl (.pair rfl rfl .v .unit))) (.asg rfl rfl (by kernel_rfl) rfl (.call rfl (by kernel_rfl) (by kernel_rfl) rfl (.pair rfl rfl .v .unit))) rfl rfl (.cmp rfl rfl .v rfl .non) (.ret rfl (.call rfl (by kernel_rfl) (by kernel_rfl) rfl (.pair rfl rfl .v .unit))) rfl (by kernel_rfl) (by kernel_rfl) (by kernel_rfl) (by kernel_rfl)⟩
theorem ok0:OkD C d0:=⟨by decide +kernel,rfl,rfl,(.one (.ret rfl (.and2 rfl rfl (.isi (by kernel_rfl) (by kernel_rfl) rfl rfl .v) rfl rfl (.not rfl rfl (.isi (by kernel_rfl) (by kernel_rfl) rfl rfl .v)))))⟩
theorem ok1:OkD C d1:=⟨by decide +kernel,rfl,rfl,(.one (.ret rfl (.and2 rfl rfl (.call rfl (by kernel_rfl) (by kernel_rfl) rfl (.pair rfl rfl .v .unit)) rfl rfl (.chain rfl rfl .int rfl .v rfl .v))))⟩
theorem ok2:OkD C d2:=⟨by decide +kernel,rfl,rfl,(.one (.ret rfl (.call rfl (by kernel_rfl) (by kernel_rfl) rfl (.pair rfl rfl .v (.pair rfl rfl (.con (by kernel_rfl) (by kernel_rfl) (by kernel_rfl)) .unit)))))⟩
theorem ok3:OkD C d3:=⟨by decide +kernel,rfl,rfl,(.one (.ret rfl (.andN rfl rfl (.isi (by kernel_rfl) (by kernel_rfl) rfl rfl .v) rfl (.and2 rfl rfl (.cmp rfl rfl (.blt rfl (by kernel_rfl) (by kernel_rfl) rfl (.pair rfl rfl .v .unit)) rfl .v) rfl rfl (.blt rfl (by kernel_rfl) (by kernel_rfl) rfl (.pair rfl rfl (.comp0 rfl (by kernel_rfl) .v rfl (.call rfl (by kernel_rfl) (by kernel_rfl) rfl (.pair rfl rfl .v .unit))) .unit))))))⟩
theorem ok4:OkD C d4:=⟨by decide +kernel,rfl,rfl,(.one (.ret rfl (.and2 rfl rfl (.call rfl (by kernel_rfl) (by kernel_rfl) rfl (.pair rfl rfl .v (.pair rfl rfl .v .unit))) rfl rfl (.blt rfl (by kernel_rfl) (by kernel_rfl) rfl (.pair rfl rfl (.comp0 rfl (by kernel_rfl) .v rfl (.chain rfl rfl .int rfl .v rfl .v)) .unit)))))⟩
theorem ok5:OkD C d5:=⟨by decide +kernel,rfl,rfl,(.seq (.ite rfl rfl (.or2 rfl rfl (.not rfl rfl (.isi (by kernel_rfl) (by kernel_rfl) rfl rfl .v)) rfl rfl (.not rfl rfl (.call rfl (by kernel_rfl) (by kernel_rfl) rfl (.pair rfl rfl (.blt rfl (by kernel_rfl) (by kernel_rfl) rfl (.pair rfl rfl .v .unit)) .unit)))) (.one (.ret rfl .bl)) .skip0) (.one (.ret rfl (.blt rfl (by kernel_rfl) (by kernel_rfl) rfl (.pair rfl rfl (.compES (by kernel_rfl) (by kernel_rfl) rfl rfl .v rfl (.call rfl (by kernel_rfl) (by kernel_rfl) rfl (.pair rfl rfl .v (.pair rfl rfl .v (.pair rfl rfl (.blt rfl (by kernel_rfl) (by kernel_rfl) rfl (.pair rfl rfl .v .unit)) .unit))))) .unit)))))⟩
theorem ok6:OkD C d6:=⟨by decide +kernel,rfl,rfl,(.seq (.asg rfl rfl (by kernel_rfl) rfl (.idx rfl rfl .v rfl (.bin rfl .v rfl .int))) (.seq (.ite rfl rfl (.and2 rfl rfl (.cmp rfl rfl .v rfl .int) rfl rfl (.cmp rfl rfl (.idx rfl rfl .v rfl .v) rfl (.idx rfl rfl .v rfl (.bin rfl .v rfl .int)))) (.one (.ret rfl .bl)) .skip0) (.seq (.ite rfl rfl (.cmp rfl rfl .v rfl (.blt rfl (by kernel_rfl) (by kernel_rfl) rfl (.pair rfl rfl .v .unit))) (.one (.ret rfl .bl)) .skip0) (.seq (.asg rfl rfl (by kernel_rfl) rfl (.idx rfl rfl .v rfl .v)) (.one (.ret rfl (.or2 rfl rfl (.cmp rfl rfl (.idx rfl rfl .v rfl .v) rfl (.idx rfl rfl .v rfl .v)) rfl rfl (.cmp rfl rfl (.idx rfl rfl .v rfl .v) rfl (.idx rfl rfl .v rfl (.bin rfl .v rfl .int))))))))))⟩
theorem ok7:OkD C d7:=⟨by decide +kernel,rfl,rfl,(.seq (.forv rfl (by kernel_rfl) rfl (.rng2 (by kernel_rfl) rfl rfl rfl .int rfl (.bin rfl (.blt rfl (by kernel_rfl) (by kernel_rfl) rfl (.pair rfl rfl .v .unit)) rfl .int)) (.one (.forv rfl (by kernel_rfl) rfl (.rng1 (by kernel_rfl) rfl rfl .v) (.one (.ite rfl rfl (.call rfl (by kernel_rfl) (by kernel_rfl) rfl (.pair rfl rfl .v (.pair rfl rfl .v (.pair rfl rfl .v .unit)))) (.one (.ret rfl (.tup (.pair rfl rfl .v (.pair rfl rfl .v .unit))))) .skip0))))) (.one (.ret rfl .non)))⟩
theorem ok8:OkD C d8:=⟨by decide +kernel,rfl,rfl,(.one (.ret rfl (.comp0 rfl (by kernel_rfl) (.rng1 (by kernel_rfl) rfl rfl .v) rfl (.ife rfl rfl (.cmp rfl rfl .v rfl .v) rfl .int rfl .int))))⟩
theorem ok9:OkD C d9:=⟨by decide +kernel,rfl,rfl,(.seq (.asg rfl rfl (by kernel_rfl) rfl (.blt rfl (by kernel_rfl) (by kernel_rfl) rfl (.pair rfl rfl .v .unit))) (.seq (.asg rfl rfl (by kernel_rfl) rfl (.lst .unit)) (.seq (.asg rfl rfl (by kernel_rfl) rfl (.bin rfl (.lst (.pair rfl rfl .int .unit)) rfl .v)) (.seq (.forv rfl (by kernel_rfl) rfl .v (.seq (.asg rfl rfl (by kernel_rfl) rfl (.call rfl (by kernel_rfl) (by kernel_rfl) rfl (.pair rfl rfl .v (.pair rfl rfl .v .unit)))) (.seq (.expr rfl rfl (.meth rfl rfl (by decide) rfl rfl .v (.pair rfl rfl (.compZ0 (by kernel_rfl) (by kernel_rfl) rfl rfl rfl .v rfl .v rfl (.bin rfl .v rfl .v)) .unit))) (.one (.asg rfl rfl (by kernel_rfl) rfl .v))))) (.one (.ret rfl .v))))))⟩
theorem ok10:OkD C d10:=⟨by decide +kernel,rfl,rfl,(.seq (.ite rfl rfl (.not rfl rfl (.call rfl (by kernel_rfl) (by kernel_rfl) rfl (.pair rfl rfl .v .unit))) (.one .never) .skip0) (.seq (.asg rfl rfl (by kernel_rfl) rfl (.call rfl (by kernel_rfl) (by kernel_rfl) rfl (.pair rfl rfl .v .unit))) (.seq (.ite rfl rfl (.cmp rfl rfl .v rfl .non) (.one .never) .skip0) (.one (.ret rfl (.call rfl (by kernel_rfl) (by kernel_rfl) rfl (.pair rfl rfl .v .unit)))))))⟩
theorem ok11:OkD C d11:=⟨by decide +kernel,rfl,rfl,(.seq (.ite rfl rfl (.cmp rfl rfl .v rfl (.blt rfl (by kernel_rfl) (by kernel_rfl) rfl (.pair rfl rfl .v .unit))) (.one (.ret rfl (.idx rfl rfl .v rfl .v))) .skip0) (.one (.ret rfl (.bin rfl (.bin rfl .int rfl .v) rfl .int))))⟩
theorem ok12:OkD C d12:=⟨by decide +kernel,rfl,rfl,(.one (.ret rfl (.bin rfl (.bin rfl (.bin rfl (.bin rfl .v rfl (.bin rfl .int rfl .int)) rfl (.bin rfl .v rfl .v)) rfl .int) rfl (.bin rfl (.bin rfl .v rfl .int) rfl .int))))⟩
theorem ok13:OkD C d13:=⟨by decide +kernel,rfl,rfl,(.seq (.ite rfl rfl (.cmp rfl rfl (.bin rfl .v rfl .int) rfl .int) (.one (.ret rfl (.bin rfl .int rfl (.bin rfl (.bin rfl .v rfl .int) rfl .int)))) .skip0) (.one (.ret rfl (.bin rfl .int rfl (.bin rfl (.bin rfl .v rfl .int) rfl .int)))))⟩
theorem ok14:OkD C d14:=⟨by decide +kernel,rfl,rfl,(.seq (.asg rfl rfl (by kernel_rfl) rfl (.lst (.pair rfl rfl (.lrng (by kernel_rfl) (by kernel_rfl) rfl rfl .v) .unit))) (.seq (.asg rfl rfl (by kernel_rfl) rfl .v) (.seq (.forv rfl (by kernel_rfl) rfl (.rng3 (by kernel_rfl) rfl rfl rfl rfl (.bin rfl .v rfl .int) rfl .int rfl (.neg rfl .int)) (.seq (.asg rfl rfl (by kernel_rfl) rfl (.lst .unit)) (.seq (.forv rfl (by kernel_rfl) rfl (.rng1 (by kernel_rfl) rfl rfl .v) (.seq (.asg rfl rfl (by kernel_rfl) rfl (.idx rfl rfl (.idx rfl rfl .v rfl (.neg rfl .int)) rfl .v)) (.seq (.ite rfl rfl (.and2 rfl rfl (.cmp rfl rfl .v rfl .int) rfl rfl (.cmp rfl rfl (.idx rfl rfl .v rfl (.bin rfl .v rfl .int)) rfl .v)) (.one (.asg rfl rfl (by kernel_rfl) rfl (.bin rfl (.idx rfl rfl .v rfl (.bin rfl .v rfl .int)) rfl .int))) .skip0) (.seq (.asg rfl rfl (by kernel_rfl) rfl (.bin rfl (.bin rfl (.idx rfl rfl (.idx rfl rfl .v rfl (.neg rfl .int)) rfl (.bin rfl .v rfl .int)) rfl .v) rfl .int)) (.seq (.asg rfl rfl (by kernel_rfl) rfl .v) (.seq (.ite rfl rfl (.cmp rfl rfl .v rfl (.bin rfl .int rfl .int)) (.one (.asg rfl rfl (by kernel_rfl) rfl (.bin rfl (.call rfl (by kernel_rfl) (by kernel_rfl) rfl (.pair rfl rfl .v (.pair rfl rfl (.bin rfl (.bin rfl .int rfl .v) rfl .v) .unit))) rfl .int))) .skip0) (.seq (.asg rfl rfl (by kernel_rfl) rfl (.bin rfl .v rfl .v)) (.one (.expr rfl rfl (.meth rfl rfl (by decide) rfl rfl .v (.pair rfl rfl (.bin rfl .v rfl (.bin rfl .v rfl .v)) .unit))))))))))) (.one (.expr rfl rfl (.meth rfl rfl (by decide) rfl rfl .v (.pair rfl rfl .v .unit))))))) (.seq (.expr rfl rfl (.meth0 rfl rfl rfl .v)) (.one (.ret rfl .v))))))⟩
theorem ok15:OkD C d15:=⟨by decide +kernel,rfl,rfl,(.one (.ret rfl (.and2 rfl rfl (.isi (by kernel_rfl) (by kernel_rfl) rfl rfl .v) rfl rfl (.not rfl rfl (.isi (by kernel_rfl) (by kernel_rfl) rfl rfl .v)))))⟩
theorem ok16:OkD C d16:=⟨by decide +kernel,rfl,rfl,(.seq (.asgC0 rfl (by kernel_rfl) rfl (by kernel_rfl) .v rfl (.blt rfl (by kernel_rfl) (by kernel_rfl) rfl (.pair rfl rfl .v .unit))) (.seq (.asg rfl rfl (by kernel_rfl) rfl (.blt rfl (by kernel_rfl) (by kernel_rfl) rfl (.pair rfl rfl .v .unit))) (.seq (.asg rfl rfl (by kernel_rfl) rfl (.bin rfl (.bin rfl .v rfl .int) rfl .v)) (.seq (.asg rfl rfl (by kernel_rfl) rfl (.bin rfl (.bin rfl .v rfl .int) rfl (.bin rfl .v rfl .int))) (.seq (.asg rfl rfl (by kernel_rfl) rfl (.bin rfl .v rfl .int)) (.seq (.ite rfl rfl (.cmp rfl rfl .v rfl .int) (.one (.asgS rfl rfl (.idx rfl rfl .v rfl .v) rfl .v rfl (.bin rfl (.idx rfl rfl (.idx rfl rfl .v rfl .v) rfl .v) rfl (.idx rfl rfl (.lst (.pair rfl rfl .int (.pair rfl rfl (.neg rfl .int) (.pair rfl rfl .int (.pair rfl rfl (.neg rfl .int) .unit))))) rfl .v)))) (.one (.ite rfl rfl (.cmp rfl rfl .v rfl .int) (.one (.asgS rfl rfl (.idx rfl rfl .v rfl .v) rfl .v rfl (.bin rfl (.bin rfl .v rfl .int) rfl .v))) (.one (.ite rfl rfl (.cmp rfl rfl .v rfl .int) (.seq (.asg rfl rfl (by kernel_rfl) rfl (.bin rfl (.bin rfl .v rfl .int) rfl (.bin rfl .v rfl .int))) (.seq (.asg rfl rfl (by kernel_rfl) rfl (.idx rfl rfl .v rfl .v)) (.one (.swapS rfl rfl rfl rfl rfl .v rfl .v rfl .v rfl .v rfl (.idx rfl rfl .v rfl .v) rfl (.idx rfl rfl .v rfl .v))))) (.one (.ite rfl rfl (.cmp rfl rfl .v rfl .int) (.seq (.asg rfl rfl (by kernel_rfl) rfl (.bin rfl (.bin rfl .v rfl .int) rfl .v)) (.one (.swapS rfl rfl rfl rfl rfl .v rfl .v rfl .v rfl .v rfl (.idx rfl rfl .v rfl .v) rfl (.idx rfl rfl .v rfl .v)))) (.one (.ite rfl rfl (.cmp rfl rfl .v rfl .int) (.one (.asgS rfl rfl (.idx rfl rfl .v rfl .v) rfl .v rfl (.idx rfl rfl (.lst (.pair rfl rfl .bl (.pair rfl rfl .bl (.pair rfl rfl .non (.pair rfl rfl (.str (by kernel_rfl)) (.pair rfl rfl (.lst (.pair rfl rfl .int .unit)) (.pair rfl rfl (.tup (.pair rfl rfl .int .unit)) (.pair rfl rfl (.neg rfl .int) (.pair rfl rfl .v (.pair rfl rfl (.bin rfl .int rfl .int) .unit)))))))))) rfl (.bin rfl (.bin rfl .v rfl .int) rfl .int)))) (.one (.ite rfl rfl (.cmp rfl rfl .v rfl .int) (.one (.asgS rfl rfl .v rfl .v rfl (.idx rfl rfl (.lst (.pair rfl rfl (.blt rfl (by kernel_rfl) (by kernel_rfl) rfl (.pair rfl rfl (.idx rfl rfl .v rfl .v) .unit)) (.pair rfl rfl .non (.pair rfl rfl (.str (by kernel_rfl)) (.pair rfl rfl .int (.pair rfl rfl (.bin rfl (.idx rfl rfl .v rfl .v) rfl (.lst (.pair rfl rfl .int .unit))) (.pair rfl rfl (.slL rfl (.idx rfl rfl .v rfl .v) rfl .int) .unit))))))) rfl (.bin rfl (.bin rfl .v rfl .int) rfl .int)))) (.one (.ite rfl rfl (.cmp rfl rfl .v rfl .int) (.one (.asg rfl rfl (by kernel_rfl) rfl (.idx rfl rfl (.lst (.pair rfl rfl (.blt rfl (by kernel_rfl) (by kernel_rfl) rfl (.pair rfl rfl .v .unit)) (.pair rfl rfl .non (.pair rfl rfl (.str (by kernel_rfl)) (.pair rfl rfl .int (.pair rfl rfl (.lst .unit) (.pair rfl rfl (.bin rfl .v rfl (.lst (.pair rfl rfl (.idx rfl rfl .v rfl (.neg rfl .int)) .unit))) (.pair rfl rfl (.slL rfl .v rfl .int) (.pair rfl rfl (.lst (.pair rfl rfl .v .unit)) .unit))))))))) rfl (.bin rfl (.bin rfl .v rfl .int) rfl .int)))) (.one (.ite rfl rfl (.cmp rfl rfl .v rfl .int) (.one (.asgC0 rfl (by kernel_rfl) rfl (by kernel_rfl) (.rng1 (by kernel_rfl) rfl rfl .int) rfl (.lrng (by kernel_rfl) (by kernel_rfl) rfl rfl (.bin rfl .v rfl .int)))) (.one (.ite rfl rfl (.cmp rfl rfl .v rfl .int) (.one (.expr rfl rfl (.meth0 rfl rfl rfl .v))) (.one (.ite rfl rfl (.cmp rfl rfl .v rfl .int) (.one (.asgS rfl rfl .v rfl .v rfl (.comp0 rfl (by kernel_rfl) (.rng1 (by kernel_rfl) rfl rfl (.bin rfl .v rfl .int)) rfl .v))) .skip0))))))))))))))))))) (.one (.ret rfl .v))))))))⟩
theorem ok17:OkD C d17:=⟨by decide +kernel,rfl,rfl,(.seq (.ite rfl rfl (.or2 rfl rfl (.not rfl rfl (.isi (by kernel_rfl) (by kernel_rfl) rfl rfl .v)) rfl rfl (.not rfl rfl (.chain rfl rfl .int rfl (.blt rfl (by kernel_rfl) (by kernel_rfl) rfl (.pair rfl rfl .v .unit)) rfl .int))) (.one (.ret rfl .bl)) .skip0) (.seq (.forv rfl (by kernel_rfl) rfl (.rng1 (by kernel_rfl) rfl rfl (.blt rfl (by kernel_rfl) (by kernel_rfl) rfl (.pair rfl rfl .v .unit))) (.seq (.ite rfl rfl (.or2 rfl rfl (.not rfl rfl (.isi (by kernel_rfl) (by kernel_rfl) rfl rfl (.idx rfl rfl .v rfl .v))) rfl rfl (.cmp rfl rfl (.blt rfl (by kernel_rfl) (by kernel_rfl) rfl (.pair rfl rfl (.idx rfl rfl .v rfl .v) .unit)) rfl (.bin rfl .v rfl .int))) (.one (.ret rfl .bl)) .skip0) (.one (.forv rfl (by kernel_rfl) rfl (.idx rfl rfl .v rfl .v) (.one (.ite rfl rfl (.or2 rfl rfl (.not rfl rfl (.call rfl (by kernel_rfl) (by kernel_rfl) rfl (.pair rfl rfl .v .unit))) rfl rfl (.not rfl rfl (.chain rfl rfl .int rfl .v rfl (.blt rfl (by kernel_rfl) (by kernel_rfl) rfl (.pair rfl rfl .v .unit))))) (.one (.ret rfl .bl)) .skip0)))))) (.one (.ret rfl .bl))))⟩
theorem ok18:OkD C d18:=⟨by decide +kernel,rfl,rfl,(.seq (.forv rfl (by kernel_rfl) rfl (.rng1 (by kernel_rfl) rfl rfl (.blt rfl (by kernel_rfl) (by kernel_rfl) rfl (.pair rfl rfl .v .unit))) (.one (.forv rfl (by kernel_rfl) rfl (.rng1 (by kernel_rfl) rfl rfl (.bin rfl .v rfl .int)) (.seq (.asg rfl rfl (by kernel_rfl) rfl (.idx rfl rfl (.idx rfl rfl .v rfl .v) rfl .v)) (.seq (.ite rfl rfl (.and2 rfl rfl (.cmp rfl rfl .v rfl .int) rfl rfl (.cmp rfl rfl .v rfl (.idx rfl rfl (.idx rfl rfl .v rfl .v) rfl (.bin rfl .v rfl .int)))) (.one (.ret rfl (.tup (.pair rfl rfl (.bin rfl .v rfl .int) (.pair rfl rfl .v .unit))))) .skip0) (.one (.ite rfl rfl (.cmp rfl rfl .v rfl (.bin rfl (.blt rfl (by kernel_rfl) (by kernel_rfl) rfl (.pair rfl rfl .v .unit)) rfl .int)) (.one (.ite rfl rfl (.or2 rfl rfl (.cmp rfl rfl .v rfl (.idx rfl rfl (.idx rfl rfl .v rfl (.bin rfl .v rfl .int)) rfl .v)) rfl rfl (.cmp rfl rfl .v rfl (.idx rfl rfl (.idx rfl rfl .v rfl (.bin rfl .v rfl .int)) rfl (.bin rfl .v rfl .int)))) (.one (.ret rfl (.tup (.pair rfl rfl (.bin rfl .v rfl .int) (.pair rfl rfl .v .unit))))) .skip0)) .skip0))))))) (.one (.ret rfl .non)))⟩
theorem ok19:OkR C Q 21 "state_of_triangle" "spot" d19:=⟨by decide +kernel,rfl,rfl,IsR.mk (i:=2) (j:=1) (.asg rfl rfl (by kernel_rfl) rfl (.tup (.pair rfl rfl (.str (by kernel_rfl)) .unit))) (by kernel_rfl) (by kernel_rfl) rfl (.pair rfl rfl .v .unit) (by kernel_rfl) (by kernel_rfl) rfl (by kernel_rfl) (by kernel_rfl) rfl (by kernel_rfl) (by kernel_rfl) rfl (by kernel_rfl) (by decide) rfl (by kernel_rfl) (by kernel_rfl) (by kernel_rfl) rfl⟩
theorem ok20:OkD C d20:=⟨by decide +kernel,rfl,rfl,(.seq (.asg rfl rfl (by kernel_rfl) rfl (.call rfl (by kernel_rfl) (by kernel_rfl) rfl (.pair rfl rfl (.call rfl (by kernel_rfl) (by kernel_rfl) rfl (.pair rfl rfl .v (.pair rfl rfl .int .unit))) .unit))) (.seq (.asg rfl rfl (by kernel_rfl) rfl (.call rfl (by kernel_rfl) (by kernel_rfl) rfl (.pair rfl rfl (.call rfl (by kernel_rfl) (by kernel_rfl) rfl (.pair rfl rfl .v (.pair rfl rfl (.call rfl (by kernel_rfl) (by kernel_rfl) rfl (.pair rfl rfl .v (.pair rfl rfl .int .unit))) .unit))) (.pair rfl rfl (.call rfl (by kernel_rfl) (by kernel_rfl) rfl (.pair rfl rfl .v (.pair rfl rfl .int .unit))) .unit)))) (.seq (.asg rfl rfl (by kernel_rfl) rfl (.call rfl (by kernel_rfl) (by kernel_rfl) rfl (.pair rfl rfl (.call rfl (by kernel_rfl) (by kernel_rfl) rfl (.pair rfl rfl .v (.pair rfl rfl (.call rfl (by kernel_rfl) (by kernel_rfl) rfl (.pair rfl rfl .v (.pair rfl rfl .int .unit))) .unit))) (.pair rfl rfl (.call rfl (by kernel_rfl) (by kernel_rfl) rfl (.pair rfl rfl .v (.pair rfl rfl .int .unit))) .unit)))) (.seq (.asg rfl rfl (by kernel_rfl) rfl (.tup (.pair rfl rfl (.str (by kernel_rfl)) (.pair rfl rfl .non .unit)))) (.seq (.ite rfl rfl (.call rfl (by kernel_rfl) (by kernel_rfl) rfl (.pair rfl rfl .v .unit)) (.seq (.asg rfl rfl (by kernel_rfl) rfl (.tup (.pair rfl rfl (.str (by kernel_rfl)) (.pair rfl rfl (.call rfl (by kernel_rfl) (by kernel_rfl) rfl (.pair rfl rfl .v .unit)) .unit)))) (.one (.ite rfl rfl (.cmp rfl rfl (.idx rfl rfl .v rfl .int) rfl .non) (.one (.asg rfl rfl (by kernel_rfl) rfl (.tup (.pair rfl rfl (.str (by kernel_rfl)) .unit)))) .skip0))) .skip0) (.one (.ret rfl (.andN rfl rfl (.cmp rfl rfl (.call rfl (by kernel_rfl) (by kernel_rfl) rfl (.pair rfl rfl .v .unit)) rfl .v) rfl (.and2 rfl rfl (.cmp rfl rfl (.call rfl (by kernel_rfl) (by kernel_rfl) rfl (.pair rfl rfl .v .unit)) rfl .v) rfl rfl (.cmp rfl rfl .v rfl .v))))))))))⟩
theorem zhj:∀d∈D,OkD C d\/OkR C Q D.length xd0.nm "spot" d:=by
 intro d hd
 unfold D at hd
 rcases List.mem_cons.mp hd with rfl | hd
 .exact .inl ok0
 rcases List.mem_cons.mp hd with rfl | hd
 .exact .inl ok1
 rcases List.mem_cons.mp hd with rfl | hd
 .exact .inl ok2
 rcases List.mem_cons.mp hd with rfl | hd
 .exact .inl ok3
 rcases List.mem_cons.mp hd with rfl | hd
 .exact .inl ok4
 rcases List.mem_cons.mp hd with rfl | hd
 .exact .inl ok5
 rcases List.mem_cons.mp hd with rfl | hd
 .exact .inl ok6
 rcases List.mem_cons.mp hd with rfl | hd
 .exact .inl ok7
 rcases List.mem_cons.mp hd with rfl | hd
 .exact .inl ok8
 rcases List.mem_cons.mp hd with rfl | hd
 .exact .inl ok9
 rcases List.mem_cons.mp hd with rfl | hd
 .exact .inl ok10
 rcases List.mem_cons.mp hd with rfl | hd
 .exact .inl ok11
 rcases List.mem_cons.mp hd with rfl | hd
 .exact .inl ok12
 rcases List.mem_cons.mp hd with rfl | hd
 .exact .inl ok13
 rcases List.mem_cons.mp hd with rfl | hd
 .exact .inl ok14
 rcases List.mem_cons.mp hd with rfl | hd
 .exact .inl ok15
 rcases List.mem_cons.mp hd with rfl | hd
 .exact .inl ok16
 rcases List.mem_cons.mp hd with rfl | hd
 .exact .inl ok17
 rcases List.mem_cons.mp hd with rfl | hd
 .exact .inl ok18
 rcases List.mem_cons.mp hd with rfl | hd
 .exact .inr ok19
 rcases List.mem_cons.mp hd with rfl | hd
 .exact .inl ok20
 .cases hd
theorem bx0:Bnd xd0:=fun _ _ _ _ _ _=>us1 (fun _=>rfl)
theorem b0:Bnd d0:=fun _ _ _ _ _ _=>us1 (fun _=>rfl)
theorem b1:Bnd d1:=fun _ _ _ _ _ _=>us2 (fun _ _=>rfl)
theorem b2:Bnd d2:=fun _ _ _ _ _ _=>us1 (fun _=>rfl)
theorem b3:Bnd d3:=fun _ _ _ _ _ _=>us2 (fun _ _=>rfl)
theorem b4:Bnd d4:=fun _ _ _ _ _ _=>us3 (fun _ _ _=>rfl)
theorem b5:Bnd d5:=fun _ _ _ _ _ _=>us1 (fun _=>rfl)
theorem b6:Bnd d6:=fun _ _ _ _ _ _=>us3 (fun _ _ _=>rfl)
theorem b7:Bnd d7:=fun _ _ _ _ _ _=>us1 (fun _=>rfl)
theorem b8:Bnd d8:=fun _ _ _ _ _ _=>us2 (fun _ _=>rfl)
theorem b9:Bnd d9:=fun _ _ _ _ _ _=>us1 (fun _=>rfl)
theorem b10:Bnd d10:=fun _ _ _ _ _ _=>us1 (fun _=>rfl)
theorem b11:Bnd d11:=fun _ _ _ _ _ _=>us2 (fun _ _=>rfl)
theorem b12:Bnd d12:=fun _ _ _ _ _ _=>us2 (fun _ _=>rfl)
theorem b13:Bnd d13:=fun _ _ _ _ _ _=>us1 (fun _=>rfl)
theorem b14:Bnd d14:=fun _ _ _ _ _ _=>us2 (fun _ _=>rfl)
theorem b15:Bnd d15:=fun _ _ _ _ _ _=>us1 (fun _=>rfl)
theorem b16:Bnd d16:=fun _ _ _ _ _ _=>us2 (fun _ _=>rfl)
theorem b17:Bnd d17:=fun _ _ _ _ _ _=>us1 (fun _=>rfl)
theorem b18:Bnd d18:=fun _ _ _ _ _ _=>us1 (fun _=>rfl)
theorem b19:Bnd d19:=fun _ _ _ _ _ _=>us1 (fun _=>rfl)
theorem b20:Bnd d20:=fun _ _ _ _ _ _=>us1 (fun _=>rfl)
theorem bnd:∀d∈D,Bnd d:=by
 intro d hd
 unfold D at hd
 rcases List.mem_cons.mp hd with rfl | hd
 .exact b0
 rcases List.mem_cons.mp hd with rfl | hd
 .exact b1
 rcases List.mem_cons.mp hd with rfl | hd
 .exact b2
 rcases List.mem_cons.mp hd with rfl | hd
 .exact b3
 rcases List.mem_cons.mp hd with rfl | hd
 .exact b4
 rcases List.mem_cons.mp hd with rfl | hd
 .exact b5
 rcases List.mem_cons.mp hd with rfl | hd
 .exact b6
 rcases List.mem_cons.mp hd with rfl | hd
 .exact b7
 rcases List.mem_cons.mp hd with rfl | hd
 .exact b8
 rcases List.mem_cons.mp hd with rfl | hd
 .exact b9
 rcases List.mem_cons.mp hd with rfl | hd
 .exact b10
 rcases List.mem_cons.mp hd with rfl | hd
 .exact b11
 rcases List.mem_cons.mp hd with rfl | hd
 .exact b12
 rcases List.mem_cons.mp hd with rfl | hd
 .exact b13
 rcases List.mem_cons.mp hd with rfl | hd
 .exact b14
 rcases List.mem_cons.mp hd with rfl | hd
 .exact b15
 rcases List.mem_cons.mp hd with rfl | hd
 .exact b16
 rcases List.mem_cons.mp hd with rfl | hd
 .exact b17
 rcases List.mem_cons.mp hd with rfl | hd
 .exact b18
 rcases List.mem_cons.mp hd with rfl | hd
 .exact b19
 rcases List.mem_cons.mp hd with rfl | hd
 .exact b20
 .cases hd
theorem zk {K:PySem.W.Frag}(z0:PySem.W.nsIn K mainGlobals "len" = some none)(z1:PySem.W.nsIn K mainGlobals "int" = some none)(z2:PySem.W.nsIn K mainGlobals "bool" = some none)(z3:PySem.W.nsIn K mainGlobals "list" = some none)(z4:PySem.W.nsIn K mainGlobals "tuple" = some none)(z5:PySem.W.nsIn K mainGlobals "abs" = some none)(z6:PySem.W.nsIn K mainGlobals "max" = some none)(z7:PySem.W.nsIn K mainGlobals "min" = some none)(z8:PySem.W.nsIn K mainGlobals "isinstance" = some none)(z9:PySem.W.nsIn K mainGlobals "range" = some none)(z10:PySem.W.nsIn K mainGlobals "str" = some none)(z11:PySem.W.nsIn K mainGlobals "dict" = some none)(z12:PySem.W.nsIn K mainGlobals "sum" = some none)(z13:PySem.W.nsIn K mainGlobals "all" = some none)(z14:PySem.W.nsIn K mainGlobals "zip" = some none)(z15:PySem.W.nsIn K mainGlobals "enumerate" = some none):∀nm∈zu,PySem.W.nsIn K mainGlobals nm=some none:=by
 unfold zu
 simp only[List.forall_mem_cons]
 exact ⟨z0,z1,z2,z3,z4,z5,z6,z7,z8,z9,z10,z11,z12,z13,z14,z15,fun _ q=>(List.not_mem_nil q).elim⟩
theorem dk {K:PySem.W.Frag}{h:Heap}{mg:Str->Option Value}(X:K.In h)(G:h.Ns mainGlobals mg){d:Dfn}{a:Addr}{od an:Option Addr}{sl:Array (Option Value)}{oc kV dc pm cd ct:Value}(g:PySem.W.nsIn K mainGlobals d.nm=some (some (.ref a)))
  (l:K.lookup a=some ⟨oc,od,.func (PySem.W.fnOf d.nm d.nm (xR d.st) (zW d.st) (zo d.st) .none kV dc pm an cd ct),sl⟩) (c:PySem.W.codeIn K cd d.nm=true) (k:PySem.W.keepIn K (.ref a)=true):zZ K mg d:=⟨a,_,qz l c k,PySem.W.mg_of X G g⟩
theorem io {K:PySem.W.Frag}{A fI:Addr}{cc:ClassData}{od an:Option Addr}{sl:Array (Option Value)}{oc kV dc pm cd ct:Value}(i1:x9 K A=true)(i2:PySem.W.clsIn K A=some cc)(i3:cc.hasDict=true)(i4:∀self,refuseLoop self "__setattr__" cc.mro=pure ())(i5:PySem.W.findIn K (.ref A) "__setattr__" = some (some (.builtin "object.__setattr__")))(i6:PySem.W.mroIn K A (.type "object")=some true)
  (i7:PySem.W.findIn K (.ref A) "spot" = some none) (i8:PySem.W.findIn K (.ref A) "__init__" = some (some (.ref fI))) (i9:PySem.W.typeIn K (.ref fI)=some (.type "function")) (l:K.lookup fI=some ⟨oc,od,.func (PySem.W.fnOf "__init__" "NoState.__init__" (xR ist) (zW ist) (zo ist) .none kV dc pm an cd ct),sl⟩) (c:PySem.W.codeIn K cd "NoState.__init__" = true) (k:PySem.W.keepIn K (.ref fI)=true):InitOk K A fI "spot" "self" ist :=
 ⟨i1,⟨⟨cc,i2,i3,i4⟩,i5,i6,i7,i8,i9⟩,⟨_,_,qz l c k,(qz l c k).binds fun _ _ _ _ _ _=>us2 (fun _ _=>rfl)⟩,wx (by decide +kernel),⟨_,_,_,_,rfl,fun _=>rfl⟩,by kernel_rfl,by kernel_rfl,⟨by decide,by decide⟩,⟨by decide,by decide⟩⟩
theorem mk {K:PySem.W.Frag}{h:Heap}{mg:Str->Option Value}(X:K.In h)(G:h.Ns mainGlobals mg){cG u0 fI o0 o1:Addr}{t0:Tok}
  (h0:zZ K mg d0) (h1:zZ K mg d1) (h2:zZ K mg d2) (h3:zZ K mg d3) (h4:zZ K mg d4) (h5:zZ K mg d5) (h6:zZ K mg d6) (h7:zZ K mg d7) (h8:zZ K mg d8) (h9:zZ K mg d9) (h10:zZ K mg d10) (h11:zZ K mg d11) (h12:zZ K mg d12) (h13:zZ K mg d13) (h14:zZ K mg d14) (h15:zZ K mg d15) (h16:zZ K mg d16) (h17:zZ K mg d17) (h18:zZ K mg d18) (h19:zZ K mg d19) (h20:zZ K mg d20)
  (e0:PySem.W.nsIn K mainGlobals "GREATEST_SIZE" = some (some (.int 12 t0)))
  (z:∀nm∈zu,PySem.W.nsIn K mainGlobals nm=some none)
  (xG:PySem.W.nsIn K mainGlobals "GyreError" = some (some (.ref cG)))
  (xg0:PySem.W.nsIn K mainGlobals "NoState" = some (some (.ref u0)))
  (xo0:PySem.W.nsIn K mainGlobals "NoSize" = some (some (.ref o0)))
  (xo1:PySem.W.nsIn K mainGlobals "NoText" = some (some (.ref o1)))
  (xE:x9 K cG=true)
  (xM:PySem.W.mroIn K cG (.type "BaseException")=some true)
  (ya:PySem.W.findIn K (.ref u0) "__getattribute__" = some (some (.builtin "BaseException.__getattribute__")))
  (yb:PySem.W.findIn K (.ref u0) "__getattr__" = some none)
  (yc:PySem.W.mroIn K u0 (.type "BaseException")=some true)
  (yd:PySem.W.findIn K (.ref u0) "__class__" = some (some (.builtin "object.__class__")))
  (ye:PySem.W.mroIn K u0 (.type "object")=some true)
  (ym:PySem.W.mroIn K u0 (.ref cG)=some true)
  (yk:PySem.W.kitOne K (.ref u0) (.ref u0)=some true)
  (yk0:PySem.W.kitOne K (.ref u0) (.ref o0)=some false)
  (yk1:PySem.W.kitOne K (.ref u0) (.ref o1)=some false)
  (i0:InitOk K u0 fI "spot" "self" ist)
  : ((∀e∈D,zZ K mg e)/\(∀ (nm:Str) (i:Int),C.cons.lookup nm=some i->∃t,mg nm=some (.int i t))/\∀nm∈zu,mg nm=none)/\zZ K mg xd0/\∃G A fI,SOk K mg Q G A/\mg "NoState" = some (.ref A)/\InitOk K A fI "spot" "self" ist:=by
 refine ⟨⟨fun d hd=>?_,fun nm i hi=>?_,fun nm hn=>PySem.W.mg_none_of X G (z nm hn)⟩,h10,cG,u0,fI,⟨PySem.W.mg_of X G xG,xE,xM,⟨_,rfl,PySem.W.mg_of X G xg0⟩,⟨ya,yb,yc,yd,ye⟩,ym,yk,fun c x hx=>?_⟩,PySem.W.mg_of X G xg0,i0⟩
 .unfold D at hd
  rcases List.mem_cons.mp hd with rfl | hd
  .exact h0
  rcases List.mem_cons.mp hd with rfl | hd
  .exact h1
  rcases List.mem_cons.mp hd with rfl | hd
  .exact h2
  rcases List.mem_cons.mp hd with rfl | hd
  .exact h3
  rcases List.mem_cons.mp hd with rfl | hd
  .exact h4
  rcases List.mem_cons.mp hd with rfl | hd
  .exact h5
  rcases List.mem_cons.mp hd with rfl | hd
  .exact h6
  rcases List.mem_cons.mp hd with rfl | hd
  .exact h7
  rcases List.mem_cons.mp hd with rfl | hd
  .exact h8
  rcases List.mem_cons.mp hd with rfl | hd
  .exact h9
  rcases List.mem_cons.mp hd with rfl | hd
  .exact h10
  rcases List.mem_cons.mp hd with rfl | hd
  .exact h11
  rcases List.mem_cons.mp hd with rfl | hd
  .exact h12
  rcases List.mem_cons.mp hd with rfl | hd
  .exact h13
  rcases List.mem_cons.mp hd with rfl | hd
  .exact h14
  rcases List.mem_cons.mp hd with rfl | hd
  .exact h15
  rcases List.mem_cons.mp hd with rfl | hd
  .exact h16
  rcases List.mem_cons.mp hd with rfl | hd
  .exact h17
  rcases List.mem_cons.mp hd with rfl | hd
  .exact h18
  rcases List.mem_cons.mp hd with rfl | hd
  .exact h19
  rcases List.mem_cons.mp hd with rfl | hd
  .exact h20
  .cases hd
 .unfold C at hi
  rw[List.lookup_cons] at hi
  cases q0:nm == ("GREATEST_SIZE" : Str) with
  | true =>
   rw[q0] at hi;cases hi
   rw[beq_iff_eq.mp q0]
   exact ⟨t0,PySem.W.mg_of X G e0⟩
  | false =>
  rw[q0] at hi
  cases hi
 .have hx':(["NoSize", "NoText"]:List Str)[c]?=some x:=hx
  match c,hx' with
  | 0,h=>cases h;exact ⟨o0,PySem.W.mg_of X G xo0,yk0⟩
  | 1,h=>cases h;exact ⟨o1,PySem.W.mg_of X G xo1,yk1⟩
  | _+2,h=>cases h
end R28
namespace Mini
namespace Vl
inductive Dat where
 | non | bl (b:Bool) | int (i:Int) | str (s:List Nat) | tup (xs:List Dat) | lst (xs:List Dat) | scr (ns:List Int)
deriving Inhabited
inductive Lv where | no | top | full
deriving DecidableEq,Inhabited
abbrev DEn:=List (Option Dat)
inductive Rd where | ok (d:Dat) | exc (c:Nat) (d:Dat) | no
deriving Inhabited
noncomputable def Rd.bind (r:Rd)(f:Dat->Rd):Rd:=match r with
 | .ok d=>f d
 | .exc c d=>.exc c d
 | .no=>.no
mutual
noncomputable def flat:Dat->Bool
 | .lst _=>false
 | .tup xs=>flatL xs
 | .non=>true
 | .bl _=>true
 | .int _=>true
 | .str _=>true
 | .scr _=>true
noncomputable def flatL:List Dat->Bool
 | []=>true
 | d::ds=>flat d && flatL ds
end
mutual
noncomputable def zK:Nat->Dat->Bool
 | 0,_=>false
 | _+1,.scr _=>false
 | k+1,.tup xs=>eqOkL k xs
 | k+1,.lst xs=>eqOkL k xs
 | _+1,.non=>true
 | _+1,.bl _=>true
 | _+1,.int _=>true
 | _+1,.str _=>true
noncomputable def eqOkL:Nat->List Dat->Bool
 | _,[]=>true
 | k,d::ds=>zK k d && eqOkL k ds
end
mutual
noncomputable def deq:Dat->Dat->Bool
 | .tup a,.tup b=>deqL a b
 | .lst a,.lst b=>deqL a b
 | .non,.non=>true
 | .bl a,.bl b=>a == b
 | .int a,.int b=>decide (a=b)
 | .bl a,.int b=>decide (b2i a=b)
 | .int a,.bl b=>decide (a=b2i b)
 | .str a,.str b=>decide (a=b)
 | _,_=>false
noncomputable def deqL:List Dat->List Dat->Bool
 | [],[]=>true
 | x::xs,y::ys=>deq x y && deqL xs ys
 | _,_=>false
end
noncomputable def xS:Dat->Option (List Dat)
 | .tup xs=>some xs
 | .lst xs=>some xs
 | .scr ns=>some (ns.map .int)
 | _=>none
noncomputable def lsD:Dat->Option (List Dat)
 | .lst xs=>some xs
 | .scr ns=>some (ns.map .int)
 | _=>none
noncomputable def yr (xs:List Dat):Rd:=if xs.length<=lim then .ok (.lst xs) else .no
noncomputable def zC (op:Bo)(x y:Dat):Rd:=match x,y with
 | .int i,.int j=>match op with
  | .add=>.ok (.int (i+j))
  | .sub=>.ok (.int (i - j))
  | .mul=>if small i || small j then .ok (.int (i * j)) else .no
  | .fdiv=>if 0 < j/\j < 1073741824 then .ok (.int (i / j)) else .no
  | .mod=>if 0 < j then .ok (.int (i % j)) else .no
  | .pow=>if 0<=j/\j<=1000000/\small i=true then .ok (.int (i ^ j.toNat)) else .no
 | .lst xs,.lst ys=>match op with
  | .add=>yr (xs++ys)
  | _=>.no
 | .lst xs,.int k=>match op with
  | .mul=>if -lim<=k/\k<=lim then yr (List.replicate k.toNat xs).flatten else .no
  | _=>.no
 | .tup xs,.tup ys=>match op with
  | .add=>if xs.length+ys.length<=lim/\xs.isEmpty=false then .ok (.tup (xs++ys)) else .no
  | _=>.no
 | _,_=>.no
noncomputable def eqD (x y:Dat):Option Bool:=if zK yD x && zK yD y then some (deq x y) else none
noncomputable def inD (x:Dat)(ys:List Dat):Option Bool:=if zK yD x && eqOkL yD ys then some (ys.any fun y=>deq y x) else none
noncomputable def g0:Option Bool->Rd
 | some b=>.ok (.bl b)
 | none=>.no
noncomputable def zc3 (r:Int->Int->Bool)(x y:Dat):Rd:=match x,y with
 | .int i,.int j=>.ok (.bl (r i j))
 | _,_=>.no
noncomputable def y9 (op:Co)(x y:Dat):Rd:=match op with
 | .eq=>g0 (eqD x y)
 | .ne=>g0 ((eqD x y).map (!·))
 | .isN=>match y,x with
  | .non,.non=>.ok (.bl true)
  | .non,_=>.ok (.bl false)
  | _,_=>.no
 | .notN=>match y,x with
  | .non,.non=>.ok (.bl false)
  | .non,_=>.ok (.bl true)
  | _,_=>.no
 | .isin=>match xS y with
  | some ys=>g0 (inD x ys)
  | none=>.no
 | .notin=>match xS y with
  | some ys=>g0 ((inD x ys).map (!·))
  | none=>.no
 | .lt=>zc3 (fun i j=>decide (i < j)) x y
 | .le=>zc3 (fun i j=>decide (i<=j)) x y
 | .gt=>zc3 (fun i j=>decide (j < i)) x y
 | .ge=>zc3 (fun i j=>decide (j<=i)) x y
noncomputable def isD (t:Tg)(x:Dat):Bool:=match t with
 | .int=>match x with
  | .int _=>true
  | .bl _=>true
  | _=>false
 | .bool=>match x with
  | .bl _=>true
  | _=>false
 | .str=>match x with
  | .str _=>true
  | _=>false
 | .tuple=>match x with
  | .tup _=>true
  | _=>false
 | .list=>match x with
  | .scr _=>true
  | .lst _=>true
  | _=>false
 | .dict=>false
noncomputable def jn:List Dat->Option Bool
 | []=>some true
 | .bl b::r=>(jn r).map (b && ·)
 | _=>none
noncomputable def yT (b:Blf)(ws:List Dat):Rd:=match b with
 | .len=>match ws with
  | [x]=>match xS x with
   | some xs=>.ok (.int xs.length)
   | none=>.no
  | _=>.no
 | .int=>match ws with
  | [.int i]=>.ok (.int i)
  | [.bl b]=>.ok (.int (b2i b))
  | _=>.no
 | .list=>match ws with
  | [x]=>match xS x with
   | some xs=>yr xs
   | none=>.no
  | _=>.no
 | .tuple=>match ws with
  | [x]=>match xS x with
   | some xs=>.ok (.tup xs)
   | none=>.no
  | _=>.no
 | .sum=>.no
 | .all=>match ws with
  | [x]=>match (lsD x).bind jn with
   | some i=>.ok (.bl i)
   | none=>.no
  | _=>.no
 | .abs=>.no
 | .max2=>match ws with
  | [.int i,.int j]=>.ok (.int (if j > i then j else i))
  | _=>.no
 | .min2=>match ws with
  | [.int i,.int j]=>.ok (.int (if j < i then j else i))
  | _=>.no
 | _=>.no
noncomputable def yo (x y:Dat):Rd:=match y with
 | .int i=>match xS x with
  | some xs=>match (ix xs.length i).bind fun j=>xs[j]? with
   | some v=>.ok v
   | none=>.no
  | none=>.no
 | _=>.no
noncomputable def slD (x:Dat)(lo hi:Option Int):Rd:=match lsD x with
 | some xs=>yr ((xs.drop (sIx xs.length 0 lo)).take (sIx xs.length xs.length hi - sIx xs.length 0 lo))
 | none=>.no
noncomputable def zL (lo st:Int)(n:Nat):List Dat:=(List.range n).map fun (i:Nat)=>.int (lo+st * (i:Int))
noncomputable def wM (a b c:Dat):Rd:=match a,b,c with
 | .int a,.int b,.int c=>if -lim<=a/\a<=lim/\-lim<=b/\b<=lim/\(c=1\/c=-1) then .ok (.tup (zL a c (x6 a b c))) else .no
 | _,_,_=>.no
noncomputable def zS {α:Type}(c e:α->Rd):List α->List Dat->Rd
 | [],acc=>yr acc
 | x::xs,acc=>(c x).bind fun b=>match b with
  | .bl true=>(e x).bind fun y=>if acc.length < lim then zS c e xs (acc++[y]) else .no
  | .bl false=>zS c e xs acc
  | _=>.no
noncomputable def itD (d:Dat):Option (List Dat):=match d with
 | .tup xs=>some xs
 | .scr ns=>some (ns.map .int)
 | .lst xs=>if xs.length<=lim then some xs else none
 | _=>none
noncomputable def xA (k:Kd)(x y:Dat):Option (List (Dat×Dat)):=match k,x,y with
 | .zip,.lst xs,.lst ys=>if xs.length<=lim/\ys.length<=lim then some (xs.zip ys) else none
 | .enum,.lst xs,.int s=>if xs.length<=lim then some ((zL s 1 xs.length).zip xs) else none
 | _,_,_=>none
noncomputable def zO:Dat->List Dat
 | .tup xs=>xs
 | _=>[]
noncomputable def litD:Wd->Option Dat
 | .non=>some .non
 | .bl b=>some (.bl b)
 | .int i=>some (.int i)
 | .str s=>some (.str s)
 | _=>none
noncomputable def evD (cl:Nat->List Dat->Rd):Ex->DEn->Rd
 | .var i,de=>match de[i]? with
  | some (some d)=>.ok d
  | _=>.no
 | .lit w,_=>match litD w with
  | some d=>.ok d
  | none=>.no
 | .bin op a b,de=>(evD cl a de).bind fun x=>(evD cl b de).bind fun y=>zC op x y
 | .neg a,de=>(evD cl a de).bind fun x=>match x with
  | .int i=>.ok (.int (-i))
  | _=>.no
 | .not a,de=>(evD cl a de).bind fun x=>match x with
  | .bl b=>.ok (.bl (!b))
  | _=>.no
 | .and a b,de=>(evD cl a de).bind fun x=>match x with
  | .bl true=>evD cl b de
  | .bl false=>.ok (.bl false)
  | _=>.no
 | .or a b,de=>(evD cl a de).bind fun x=>match x with
  | .bl false=>evD cl b de
  | .bl true=>.ok (.bl true)
  | _=>.no
 | .cmp op a b,de=>(evD cl a de).bind fun x=>(evD cl b de).bind fun y=>y9 op x y
 | .chain p q a b c,de=>(evD cl a de).bind fun x=>(evD cl b de).bind fun y=>(y9 p x y).bind fun z=>match z with
  | .bl true=>(evD cl c de).bind fun u=>y9 q y u
  | .bl false=>.ok (.bl false)
  | _=>.no
 | .ife c a b,de=>(evD cl c de).bind fun x=>match x with
  | .bl true=>evD cl a de
  | .bl false=>evD cl b de
  | _=>.no
 | .unit,_=>.ok (.tup [])
 | .pair a b,de=>(evD cl a de).bind fun x=>(evD cl b de).bind fun y=>.ok (.tup (x::zO y))
 | .call k a,de=>(evD cl a de).bind fun x=>cl k (zO x)
 | .blt b a,de=>(evD cl a de).bind fun x=>yT b (zO x)
 | .isi t a,de=>(evD cl a de).bind fun x=>.ok (.bl (isD t x))
 | .lst a,de=>(evD cl a de).bind fun x=>yr (zO x)
 | .tup a,de=>(evD cl a de).bind fun x=>if (zO x).length<=lim then .ok (.tup (zO x)) else .no
 | .dict0,_=>.no
 | .idx a b,de=>(evD cl a de).bind fun x=>(evD cl b de).bind fun y=>yo x y
 | .slL a lo,de=>(evD cl a de).bind fun x=>(evD cl lo de).bind fun y=>match y with
  | .int i=>slD x (some i) none
  | _=>.no
 | .slH _ _,_=>.no
 | .slB _ _ _,_=>.no
 | .meth _ _ _,_=>.no
 | .rng a b c,de=>(evD cl a de).bind fun x=>(evD cl b de).bind fun y=>(evD cl c de).bind fun z=>wM x y z
 | .comp elt it cond,de=>(evD cl it de).bind fun x=>match itD x with
  | some xs=>zS (fun x=>evD cl cond (de++[some x])) (fun x=>evD cl elt (de++[some x])) xs []
  | none=>.no
 | .compP k elt a b cond,de=>(evD cl a de).bind fun x=>(evD cl b de).bind fun y=>match xA k x y with
  | some ps=>zS (fun p=>evD cl cond (de++[some p.1]++[some p.2])) (fun p=>evD cl elt (de++[some p.1]++[some p.2])) ps []
  | none=>.no
 | .lrng a,de=>(evD cl a de).bind fun x=>match x with
  | .int j=>if -lim<=j/\j<=lim then yr (zL 0 1 j.toNat) else .no
  | _=>.no
theorem kX {cl:Nat->List Wd->Me->Rz}{i:Nat}{env:En}{w:Wd}(h:env[i]?=some (some w))(m:Me):evE cl (.var i) env m=.ok w m:=by
 show (match env[i]? with | some (some w)=>Rz.ok w m | _=>.no)=_
 rw[h]
theorem xj {cl:Nat->List Dat->Rd}{i:Nat}{de:DEn}{d:Dat}(h:de[i]?=some (some d)):evD cl (.var i) de=.ok d:=by
 show (match de[i]? with | some (some d)=>Rd.ok d | _=>.no)=_
 rw[h]
theorem yZ {cl:Nat->List Dat->Rd}{i:Nat}{de:DEn}(h:de[i]?=none\/de[i]?=some none):evD cl (.var i) de=.no:=by
 show (match de[i]? with | some (some d)=>Rd.ok d | _=>.no)=_
 rcases h with h | h <;> rw[h]
theorem zaz {cl:Nat->List Dat->Rd}{i:Nat}{de:DEn}{d:Dat}(h:evD cl (.var i) de=.ok d):de[i]?=some (some d):=by
 cases z:de[i]? with
 | none=>rw[yZ (.inl z)] at h;cases h
 | some o =>
  cases o with
  | none=>rw[yZ (.inr z)] at h;cases h
  | some e=>rw[xj z] at h;cases h;rfl
mutual
noncomputable def Rep (R:Nat->Prop)(m:Me):Dat->Wd->Prop
 | .non,w=>w=.non
 | .bl b,w=>w=.bl b
 | .int i,w=>w=.int i
 | .str s,w=>w=.str s
 | .scr ns,w=>w=.rol (ns.map Wd.int)
 | .tup ds,w=>∃xs,w=.tup xs/\RepL R m ds xs
 | .lst ds,w=>∃l xs,w=.ref l/\R l/\m[l]?=some (.lst xs)/\RepL R m ds xs
noncomputable def RepL (R:Nat->Prop)(m:Me):List Dat->List Wd->Prop
 | [],xs=>xs=[]
 | d::ds,xs=>∃x r,xs=x::r/\Rep R m d x/\RepL R m ds r
end
def Le (m m':Me):Prop:=∀ (l:Nat) o,m[l]?=some o->m'[l]?=some o
theorem Le.refl (m:Me):Le m m:=fun _ _ h=>h
theorem Le.trans {a b c:Me}(h:Le a b)(k:Le b c):Le a c:=fun l o z=>k l o (h l o z)
theorem Le.app (m x:Me):Le m (m++x):=fun l o z=>by
 obtain ⟨hl,_⟩:=List.getElem?_eq_some_iff.mp z
 rw[List.getElem?_append_left hl];exact z
theorem Le.len {a b:Me}(h:Le a b):a.length<=b.length:=by
 rcases Nat.lt_or_ge b.length a.length with z | z
 .have:=h b.length a[b.length] (List.getElem?_eq_getElem z)
  have:=(List.getElem?_eq_some_iff.mp this).1
  lia
 .exact z
def Rf (R:Nat->Prop)(n:Nat):Nat->Prop:=fun l=>R l\/n<=l
mutual
theorem Rep.frame {R R':Nat->Prop}{m m':Me}(h:∀ (l:Nat) o,R l->m[l]?=some o->R' l/\m'[l]?=some o):∀ (d:Dat) (w:Wd),Rep R m d w->Rep R' m' d w
 | .non,w,q=>by unfold Rep at q ⊢;exact q
 | .bl b,w,q=>by unfold Rep at q ⊢;exact q
 | .int b,w,q=>by unfold Rep at q ⊢;exact q
 | .str b,w,q=>by unfold Rep at q ⊢;exact q
 | .scr b,w,q=>by unfold Rep at q ⊢;exact q
 | .tup ds,w,q=>by
  unfold Rep at q ⊢
  obtain ⟨xs,rfl,q⟩:=q
  exact ⟨xs,rfl,RepL.frame h ds xs q⟩
 | .lst ds,w,q=>by
  unfold Rep at q ⊢
  obtain ⟨l,xs,rfl,r,z,q⟩:=q
  exact ⟨l,xs,rfl,(h l _ r z).1,(h l _ r z).2,RepL.frame h ds xs q⟩
theorem RepL.frame {R R':Nat->Prop}{m m':Me}(h:∀ (l:Nat) o,R l->m[l]?=some o->R' l/\m'[l]?=some o):∀ (ds:List Dat) (xs:List Wd),RepL R m ds xs->RepL R' m' ds xs
 | [],xs,q=>by unfold RepL at q ⊢;exact q
 | d::ds,xs,q=>by
  unfold RepL at q ⊢
  obtain ⟨x,r,rfl,a,b⟩:=q
  exact ⟨x,r,rfl,Rep.frame h d x a,RepL.frame h ds r b⟩
end
theorem Rep.up {R:Nat->Prop}{m m':Me}{d:Dat}{w:Wd}(n:Nat)(h:Le m m')(q:Rep R m d w):Rep (Rf R n) m' d w :=
 Rep.frame (fun l o r z=>⟨.inl r,h l o z⟩) d w q
theorem RepL.up {R:Nat->Prop}{m m':Me}{d:List Dat}{w:List Wd}(n:Nat)(h:Le m m')(q:RepL R m d w):RepL (Rf R n) m' d w :=
 RepL.frame (fun l o r z=>⟨.inl r,h l o z⟩) d w q
theorem repL_iff {R:Nat->Prop}{m:Me}:∀ {ds:List Dat}{xs:List Wd},RepL R m ds xs↔ds.length=xs.length/\∀ (i:Nat) d x,ds[i]?=some d->xs[i]?=some x->Rep R m d x
 | [],xs=>by
  unfold RepL
  constructor
  .rintro rfl;exact ⟨rfl,by simp⟩
  .rintro ⟨h,_⟩;exact List.eq_nil_of_length_eq_zero h.symm
 | d::ds,xs=>by
  unfold RepL
  constructor
  .rintro ⟨x,r,rfl,a,b⟩
   obtain ⟨hl,hb⟩:=repL_iff.mp b
   refine ⟨by simp[hl],fun i e y h1 h2=>?_⟩
   cases i with
   | zero=>simp at h1 h2;subst h1;subst h2;exact a
   | succ i=>simp at h1 h2;exact hb i e y h1 h2
  .rintro ⟨hl,h⟩
   cases xs with
   | nil=>cases hl
   | cons x r =>
    refine ⟨x,r,rfl,h 0 d x rfl rfl,repL_iff.mpr ⟨by simpa using hl,fun i e y h1 h2=>h (i+1) e y (by simpa using h1) (by simpa using h2)⟩⟩
theorem RepL.len {R:Nat->Prop}{m:Me}{ds:List Dat}{xs:List Wd}(h:RepL R m ds xs):ds.length=xs.length:=(repL_iff.mp h).1
theorem RepL.get {R:Nat->Prop}{m:Me}{ds:List Dat}{xs:List Wd}(h:RepL R m ds xs){i:Nat}{d:Dat}(z:ds[i]?=some d):∃x,xs[i]?=some x/\Rep R m d x:=by
 obtain ⟨hl,h⟩:=repL_iff.mp h
 obtain ⟨hi,_⟩:=List.getElem?_eq_some_iff.mp z
 exact ⟨xs[i],List.getElem?_eq_getElem (by lia),h i d _ z (List.getElem?_eq_getElem (by lia))⟩
theorem RepL.nil {R:Nat->Prop}{m:Me}:RepL R m [] []:=by unfold RepL;rfl
theorem RepL.cons {R:Nat->Prop}{m:Me}{d:Dat}{x:Wd}{ds:List Dat}{xs:List Wd}(a:Rep R m d x)(b:RepL R m ds xs):RepL R m (d::ds) (x::xs):=by
 unfold RepL;exact ⟨x,xs,rfl,a,b⟩
theorem RepL.cons_inv {R:Nat->Prop}{m:Me}{d:Dat}{ds:List Dat}{xs:List Wd}(h:RepL R m (d::ds) xs):∃x r,xs=x::r/\Rep R m d x/\RepL R m ds r:=by
 unfold RepL at h;exact h
theorem RepL.nil_inv {R:Nat->Prop}{m:Me}{xs:List Wd}(h:RepL R m [] xs):xs=[]:=by unfold RepL at h;exact h
theorem RepL.app {R:Nat->Prop}{m:Me}:∀ {ds es:List Dat}{xs ys:List Wd},RepL R m ds xs->RepL R m es ys->RepL R m (ds++es) (xs++ys)
 | [],es,xs,ys,a,b=>by rw[a.nil_inv];exact b
 | d::ds,es,xs,ys,a,b=>by
  obtain ⟨x,r,rfl,p,q⟩:=a.cons_inv
  exact .cons p (RepL.app q b)
theorem RepL.drop {R:Nat->Prop}{m:Me}(n:Nat){ds:List Dat}{xs:List Wd}(h:RepL R m ds xs):RepL R m (ds.drop n) (xs.drop n):=by
 obtain ⟨hl,h⟩:=repL_iff.mp h
 refine repL_iff.mpr ⟨by simp[hl],fun i d x a b=>h (n+i) d x (by simpa using a) (by simpa using b)⟩
theorem RepL.take {R:Nat->Prop}{m:Me}(n:Nat){ds:List Dat}{xs:List Wd}(h:RepL R m ds xs):RepL R m (ds.take n) (xs.take n):=by
 obtain ⟨hl,h⟩:=repL_iff.mp h
 refine repL_iff.mpr ⟨by simp[hl],fun i d x a b=>?_⟩
 rw[List.getElem?_take] at a b
 split at a
 .next z=>rw[if_pos z] at b;exact h i d x a b
 .cases a
theorem RepL.rev {R:Nat->Prop}{m:Me}:∀ {ds:List Dat}{xs:List Wd},RepL R m ds xs->RepL R m ds.reverse xs.reverse
 | [],xs,a=>by rw[a.nil_inv];exact .nil
 | d::ds,xs,a=>by
  obtain ⟨x,r,rfl,p,q⟩:=a.cons_inv
  rw[List.reverse_cons,List.reverse_cons]
  exact RepL.app (RepL.rev q) (.cons p .nil)
theorem RepL.set {R:Nat->Prop}{m:Me}{ds:List Dat}{xs:List Wd}(h:RepL R m ds xs)(j:Nat){d:Dat}{x:Wd}(z:Rep R m d x):RepL R m (ds.set j d) (xs.set j x):=by
 obtain ⟨hl,h⟩:=repL_iff.mp h
 refine repL_iff.mpr ⟨by simp[hl],fun i e y a b=>?_⟩
 rw[List.getElem?_set] at a b
 by_cases q:j=i
 .rw[if_pos q] at a b
  split at a
  .split at b
   .cases a;cases b;exact z
   .cases b
  .cases a
 .rw[if_neg q] at a b;exact h i e y a b
theorem RepL.rep {R:Nat->Prop}{m:Me}{ds:List Dat}{xs:List Wd}(h:RepL R m ds xs):∀k:Nat,RepL R m (List.replicate k ds).flatten (List.replicate k xs).flatten
 | 0=>.nil
 | k+1=>by
  rw[List.replicate_succ,List.replicate_succ,List.flatten_cons,List.flatten_cons]
  exact RepL.app h (RepL.rep h k)
theorem ziD {R:Nat->Prop}{m:Me}:∀ (l:List Int),RepL R m (l.map Dat.int) (l.map Wd.int)
 | []=>.nil
 | i::l=>.cons (by unfold Rep;rfl) (ziD l)
theorem rep_int {R:Nat->Prop}{m:Me}{i:Int}{w:Wd}:Rep R m (.int i) w↔w=.int i:=by unfold Rep;exact Iff.rfl
theorem rep_bl {R:Nat->Prop}{m:Me}{i:Bool}{w:Wd}:Rep R m (.bl i) w↔w=.bl i:=by unfold Rep;exact Iff.rfl
theorem rep_non {R:Nat->Prop}{m:Me}{w:Wd}:Rep R m .non w↔w=.non:=by unfold Rep;exact Iff.rfl
theorem rep_str {R:Nat->Prop}{m:Me}{s:List Nat}{w:Wd}:Rep R m (.str s) w↔w=.str s:=by unfold Rep;exact Iff.rfl
theorem rep_scr {R:Nat->Prop}{m:Me}{s:List Int}{w:Wd}:Rep R m (.scr s) w↔w=.rol (s.map Wd.int):=by unfold Rep;exact Iff.rfl
theorem rep_tup {R:Nat->Prop}{m:Me}{ds:List Dat}{w:Wd}:Rep R m (.tup ds) w↔∃xs,w=.tup xs/\RepL R m ds xs:=by
 constructor
 .intro h;unfold Rep at h;exact h
 .intro h;unfold Rep;exact h
theorem rep_lst {R:Nat->Prop}{m:Me}{ds:List Dat}{w:Wd}:Rep R m (.lst ds) w↔∃l xs,w=.ref l/\R l/\m[l]?=some (.lst xs)/\RepL R m ds xs:=by
 constructor
 .intro h;unfold Rep at h;exact h
 .intro h;unfold Rep;exact h
def SimE (R:Nat->Prop)(m:Me)(r:Rz)(rd:Rd):Prop:=match rd with
 | .ok d=>∃w m',r=.ok w m'/\Le m m'/\Rep (Rf R m.length) m' d w
 | .exc c d=>∃w m',r=.exc c w m'/\Le m m'/\Rep (Rf R m.length) m' d w
 | .no=>True
theorem SimE.lift {R:Nat->Prop}{m m1:Me}{r:Rz}{rd:Rd}(h:Le m m1)(q:SimE (Rf R m.length) m1 r rd):SimE R m r rd:=by
 have hl:=h.len
 have fr:∀ (m':Me) (d:Dat) (w:Wd),Rep (Rf (Rf R m.length) m1.length) m' d w->Rep (Rf R m.length) m' d w:=fun m' d w=>Rep.frame (fun l o z k=>⟨by rcases z with (z | z) | z;exact .inl z;exact .inr z;exact .inr (by lia),k⟩) d w
 cases rd with
 | ok d=>obtain ⟨w,m',rfl,k,z⟩:=q;exact ⟨w,m',rfl,h.trans k,fr _ _ _ z⟩
 | exc c d=>obtain ⟨w,m',rfl,k,z⟩:=q;exact ⟨w,m',rfl,h.trans k,fr _ _ _ z⟩
 | no=>trivial
theorem SimE.bind {R:Nat->Prop}{m:Me}{r:Rz}{rd:Rd}{f:Wd->Me->Rz}{g:Dat->Rd}(h:SimE R m r rd)
  (k:∀d w m',Le m m'->Rep (Rf R m.length) m' d w->SimE (Rf R m.length) m' (f w m') (g d)):SimE R m (r.bind f) (rd.bind g):=by
 cases rd with
 | ok d=>obtain ⟨w,m',rfl,l,z⟩:=h;exact SimE.lift l (k d w m' l z)
 | exc c d=>obtain ⟨w,m',rfl,l,z⟩:=h;exact ⟨w,m',rfl,l,z⟩
 | no=>trivial
theorem ziF {R:Nat->Prop}{m:Me}{d:Dat}{w:Wd}(h:Rep R m d w):SimE R m (.ok w m) (.ok d) :=
 ⟨w,m,rfl,Le.refl m,h.up _ (Le.refl m)⟩
theorem SimE.no {R:Nat->Prop}{m:Me}{r:Rz}:SimE R m r .no:=trivial
theorem SimE.new {R:Nat->Prop}{m:Me}{ds:List Dat}{xs:List Wd}(h:RepL R m ds xs):SimE R m (alloc m xs) (yr ds):=by
 unfold yr alloc
 rw[h.len]
 by_cases z:xs.length<=lim
 .rw[if_pos z,if_pos z]
  exact ⟨_,_,rfl,Le.app m _,rep_lst.mpr ⟨_,xs,rfl,.inr (Nat.le_refl _),by simp,h.up _ (Le.app m _)⟩⟩
 .rw[if_neg z,if_neg z];exact SimE.no
theorem xT {R:Nat->Prop}{m:Me}{d:Dat}{w:Wd}{ds:List Dat}(h:Rep R m d w)(z:xS d=some ds):∃xs,xu m w=some xs/\RepL R m ds xs:=by
 cases d with
 | tup es=>obtain ⟨xs,rfl,q⟩:=rep_tup.mp h;cases z;exact ⟨xs,rfl,q⟩
 | lst es =>
  obtain ⟨l,xs,rfl,_,e,q⟩:=rep_lst.mp h;cases z
  exact ⟨xs,by show zE m l=_;unfold zE;rw[e],q⟩
 | scr ns=>rw[rep_scr.mp h];cases z;exact ⟨_,rfl,ziD ns⟩
 | _=>cases z
theorem qQ {R:Nat->Prop}{m:Me}{d:Dat}{w:Wd}{ds:List Dat}(h:Rep R m d w)(z:lsD d=some ds):∃xs,zeg m w=some xs/\RepL R m ds xs:=by
 cases d with
 | lst es =>
  obtain ⟨l,xs,rfl,_,e,q⟩:=rep_lst.mp h;cases z
  exact ⟨xs,by show zE m l=_;unfold zE;rw[e],q⟩
 | scr ns=>rw[rep_scr.mp h];cases z;exact ⟨_,rfl,ziD ns⟩
 | _=>cases z
theorem g4:∀ {a b:List Int},a.map Wd.int=b.map Wd.int->a=b
 | [],[],_=>rfl
 | [],_::_,h=>by cases h
 | _::_,[],h=>by cases h
 | x::a,y::b,h=>by
  simp only[List.map_cons,List.cons.injEq,Wd.int.injEq] at h
  rw[h.1,g4 h.2]
mutual
theorem Rep.det {R R':Nat->Prop}{m:Me}:∀ (d e:Dat) (w:Wd),Rep R m d w->Rep R' m e w->d=e
 | .non,e,w,q,z=>by rw[rep_non.mp q] at z;cases e <;> unfold Rep at z <;> first | rfl | (exfalso;simp at z)
 | .bl b,e,w,q,z=>by rw[rep_bl.mp q] at z;cases e <;> unfold Rep at z <;> first | (injection z with z;rw[z]) | (exfalso;simp at z)
 | .int b,e,w,q,z=>by rw[rep_int.mp q] at z;cases e <;> unfold Rep at z <;> first | (injection z with z;rw[z]) | (exfalso;simp at z)
 | .str b,e,w,q,z=>by rw[rep_str.mp q] at z;cases e <;> unfold Rep at z <;> first | (injection z with z;rw[z]) | (exfalso;simp at z)
 | .scr b,e,w,q,z=>by rw[rep_scr.mp q] at z;cases e <;> unfold Rep at z <;> first | (injection z with z;rw[g4 z]) | (exfalso;simp at z)
 | .tup ds,e,w,q,z=>by
  obtain ⟨xs,rfl,q1⟩:=rep_tup.mp q
  cases e with
  | tup es=>obtain ⟨ys,e,z1⟩:=rep_tup.mp z;cases e;rw[RepL.det ds es xs q1 z1]
  | _=>exfalso;unfold Rep at z;simp at z
 | .lst ds,e,w,q,z=>by
  obtain ⟨l,xs,rfl,_,hm,q1⟩:=rep_lst.mp q
  cases e with
  | lst es=>obtain ⟨l',ys,e,_,hn,z1⟩:=rep_lst.mp z;cases e;rw[hm] at hn;cases hn;rw[RepL.det ds es xs q1 z1]
  | _=>exfalso;unfold Rep at z;simp at z
theorem RepL.det {R R':Nat->Prop}{m:Me}:∀ (ds es:List Dat) (xs:List Wd),RepL R m ds xs->RepL R' m es xs->ds=es
 | [],es,xs,q,z=>by
  rw[q.nil_inv] at z
  cases es with
  | nil=>rfl
  | cons e es=>obtain ⟨_,_,h,_⟩:=z.cons_inv;cases h
 | d::ds,es,xs,q,z=>by
  obtain ⟨x,r,rfl,a,b⟩:=q.cons_inv
  cases es with
  | nil=>cases z.nil_inv
  | cons e es =>
   obtain ⟨_,_,h,a',b'⟩:=z.cons_inv
   cases h
   rw[Rep.det d e x a a',RepL.det ds es r b b']
end
theorem zfb (d:Dat):zK 0 d=false:=by cases d <;> rfl
mutual
theorem kY:∀ (k:Nat) (d:Dat),zK k d=true->deq d d=true
 | 0,d,h=>by rw[zfb] at h;cases h
 | k+1,.non,h=>rfl
 | k+1,.bl b,h=>by show (b == b)=true;simp
 | k+1,.int b,h=>by show decide (b=b)=true;simp
 | k+1,.str b,h=>by show decide (b=b)=true;simp
 | k+1,.scr b,h=>absurd (show false=true from h) (by decide)
 | k+1,.tup ds,h=>deqL_refl k ds h
 | k+1,.lst ds,h=>deqL_refl k ds h
theorem deqL_refl:∀ (k:Nat) (ds:List Dat),eqOkL k ds=true->deqL ds ds=true
 | k,[],h=>rfl
 | k,d::ds,h=>by
  replace h:(zK k d && eqOkL k ds)=true:=h
  show (deq d d && deqL ds ds)=true
  rw[Bool.and_eq_true] at h ⊢
  exact ⟨kY k d h.1,deqL_refl k ds h.2⟩
end
theorem j6 {R:Nat->Prop}{m:Me}{k:Nat}(ih:∀ (d e:Dat) (x y:Wd),zK k d=true->zK k e=true->Rep R m d x->Rep R m e y->eqW m k x y=some (deq d e)):
  ∀ (ds es:List Dat) (xs ys:List Wd),eqOkL k ds=true->eqOkL k es=true->RepL R m ds xs->RepL R m es ys->∃q,eqL (eqW m k) xs ys=some q/\(q && decide (xs.length=ys.length))=deqL ds es
 | [],es,xs,ys,h1,h2,a,b=>by
  rw[a.nil_inv]
  cases es with
  | nil=>rw[b.nil_inv];exact ⟨true,rfl,rfl⟩
  | cons e es=>obtain ⟨y,r,rfl,_,_⟩:=b.cons_inv;exact ⟨true,rfl,rfl⟩
 | d::ds,es,xs,ys,h1,h2,a,b=>by
  obtain ⟨x,r,rfl,p,q⟩:=a.cons_inv
  cases es with
  | nil=>rw[b.nil_inv];exact ⟨true,rfl,rfl⟩
  | cons e es =>
   obtain ⟨y,s,rfl,p',q'⟩:=b.cons_inv
   replace h1:(zK k d && eqOkL k ds)=true:=h1
   replace h2:(zK k e && eqOkL k es)=true:=h2
   rw[Bool.and_eq_true] at h1 h2
   obtain ⟨t,ht,hb⟩:=j6 ih ds es r s h1.2 h2.2 q q'
   refine ⟨deq d e && t,?_,?_⟩
   .unfold eqL
    rw[ih d e x y h1.1 h2.1 p p',ht]
    rfl
   .show (deq d e && t && decide (r.length+1=s.length+1))=(deq d e && deqL ds es)
    simp only[<- hb,Nat.succ_inj,Bool.and_assoc]
theorem isLst_of {m:Me}{l:Nat}{xs:List Wd}(h:m[l]?=some (.lst xs)):isLst m l=true:=by unfold isLst;rw[h]
theorem yX {m:Me}{l:Nat}{xs:List Wd}(h:m[l]?=some (.lst xs)):(if isLst m l && true then some false else none)=some false:=by rw[isLst_of h];rfl
theorem qR {R:Nat->Prop}{m:Me}:∀ (k:Nat) (d e:Dat) (x y:Wd),zK k d=true->zK k e=true->Rep R m d x->Rep R m e y->eqW m k x y=some (deq d e)
 | 0,d,e,x,y,h,_,_,_=>by rw[zfb] at h;cases h
 | k+1,d,e,x,y,h1,h2,a,b=>by
  have ih:=qR (R:=R) (m:=m) k
  cases d with
  | scr ns=>exact absurd (show false=true from h1) (by decide)
  | tup ds =>
   obtain ⟨xs,rfl,a1⟩:=rep_tup.mp a
   cases e with
   | scr ns=>exact absurd (show false=true from h2) (by decide)
   | tup es =>
    obtain ⟨ys,rfl,b1⟩:=rep_tup.mp b
    obtain ⟨q,h,e⟩:=j6 ih ds es xs ys h1 h2 a1 b1
    show (eqL (eqW m k) xs ys).map (· && decide (xs.length=ys.length))=some (deqL ds es)
    rw[h,<- e];rfl
   | lst es =>
    obtain ⟨l,ys,rfl,_,hm,b⟩:=rep_lst.mp b
    exact yX hm
   | non=>rw[rep_non.mp b];rfl
   | bl _=>rw[rep_bl.mp b];rfl
   | int _=>rw[rep_int.mp b];rfl
   | str _=>rw[rep_str.mp b];rfl
  | lst ds =>
   have a0:=a
   obtain ⟨l,xs,rfl,_,hm,a⟩:=rep_lst.mp a
   cases e with
   | scr ns=>exact absurd (show false=true from h2) (by decide)
   | lst es =>
    have b0:=b
    obtain ⟨l',ys,rfl,_,hn,b⟩:=rep_lst.mp b
    show (if l=l' then (if isLst m l then some true else none) else match m[l]?,m[l']? with
     | some (.lst xs),some (.lst ys)=>if xs.length=ys.length then eqL (eqW m k) xs ys else some false
     | _,_=>none)=_
    by_cases q:l=l'
    .subst q
     rw[if_pos rfl,if_pos (isLst_of hm)]
     rw[Rep.det _ _ _ a0 b0] at *
     rw[kY (k+1) _ h2]
    .rw[if_neg q,hm,hn]
     obtain ⟨q,h,e⟩:=j6 ih ds es xs ys h1 h2 a b
     show (if xs.length=ys.length then eqL (eqW m k) xs ys else some false)=some (deqL ds es)
     by_cases z:xs.length=ys.length
     .simp only[z,if_true,h,<- e];simp
     .simp only[z,if_false,<- e];simp
   | tup es=>obtain ⟨ys,rfl,b⟩:=rep_tup.mp b;exact yX hm
   | non=>rw[rep_non.mp b];exact yX hm
   | bl _=>rw[rep_bl.mp b];exact yX hm
   | int _=>rw[rep_int.mp b];exact yX hm
   | str _=>rw[rep_str.mp b];exact yX hm
  | non =>
   rw[rep_non.mp a]
   cases e with
   | scr ns=>exact absurd (show false=true from h2) (by decide)
   | lst es=>obtain ⟨l',ys,rfl,_,hn,b⟩:=rep_lst.mp b;exact yX hn
   | tup es=>obtain ⟨ys,rfl,b⟩:=rep_tup.mp b;rfl
   | non=>rw[rep_non.mp b];rfl
   | bl _=>rw[rep_bl.mp b];rfl
   | int _=>rw[rep_int.mp b];rfl
   | str _=>rw[rep_str.mp b];rfl
  | bl _ =>
   rw[rep_bl.mp a]
   cases e with
   | scr ns=>exact absurd (show false=true from h2) (by decide)
   | lst es=>obtain ⟨l',ys,rfl,_,hn,b⟩:=rep_lst.mp b;exact yX hn
   | tup es=>obtain ⟨ys,rfl,b⟩:=rep_tup.mp b;rfl
   | non=>rw[rep_non.mp b];rfl
   | bl _=>rw[rep_bl.mp b];rfl
   | int _=>rw[rep_int.mp b];rfl
   | str _=>rw[rep_str.mp b];rfl
  | int _ =>
   rw[rep_int.mp a]
   cases e with
   | scr ns=>exact absurd (show false=true from h2) (by decide)
   | lst es=>obtain ⟨l',ys,rfl,_,hn,b⟩:=rep_lst.mp b;exact yX hn
   | tup es=>obtain ⟨ys,rfl,b⟩:=rep_tup.mp b;rfl
   | non=>rw[rep_non.mp b];rfl
   | bl _=>rw[rep_bl.mp b];rfl
   | int _=>rw[rep_int.mp b];rfl
   | str _=>rw[rep_str.mp b];rfl
  | str _ =>
   rw[rep_str.mp a]
   cases e with
   | scr ns=>exact absurd (show false=true from h2) (by decide)
   | lst es=>obtain ⟨l',ys,rfl,_,hn,b⟩:=rep_lst.mp b;exact yX hn
   | tup es=>obtain ⟨ys,rfl,b⟩:=rep_tup.mp b;rfl
   | non=>rw[rep_non.mp b];rfl
   | bl _=>rw[rep_bl.mp b];rfl
   | int _=>rw[rep_int.mp b];rfl
   | str _=>rw[rep_str.mp b];rfl
theorem zaA {R:Nat->Prop}{m:Me}{d e:Dat}{x y:Wd}{q:Bool}(h:eqD d e=some q)(a:Rep R m d x)(b:Rep R m e y):eqW m yD x y=some q:=by
 unfold eqD at h
 split at h
 .next z=>simp only[Bool.and_eq_true] at z;cases h;exact qR yD d e x y z.1 z.2 a b
 .cases h
theorem zaB {R:Nat->Prop}{m:Me}{d:Dat}{x:Wd}(h:zK yD d=true)(a:Rep R m d x):∀ (es:List Dat) (ys:List Wd),eqOkL yD es=true->RepL R m es ys->inL (eqW m yD) x ys=some (es.any fun e=>deq e d)
 | [],ys,_,b=>by rw[b.nil_inv];rfl
 | e::es,ys,z,b=>by
  obtain ⟨y,r,rfl,p,q⟩:=b.cons_inv
  replace z:(zK yD e && eqOkL yD es)=true:=z
  rw[Bool.and_eq_true] at z
  show (match eqW m yD y x with
   | some a=>(inL (eqW m yD) x r).map (a || ·)
   | none=>none)=_
  rw[qR yD e d y x z.1 h p a,zaB h a es r z.2 q];rfl
theorem zaC {R:Nat->Prop}{m:Me}{d:Dat}{x:Wd}{es:List Dat}{ys:List Wd}{q:Bool}(h:inD d es=some q)(a:Rep R m d x)(b:RepL R m es ys):inL (eqW m yD) x ys=some q:=by
 unfold inD at h
 split at h
 .next z=>simp only[Bool.and_eq_true] at z;cases h;exact zaB z.1 a es ys z.2 b
 .cases h
theorem SimE.int {R:Nat->Prop}{m:Me}{i:Int}:SimE R m (.ok (.int i) m) (.ok (.int i)):=ziF (rep_int.mpr rfl)
theorem SimE.bl {R:Nat->Prop}{m:Me}{i:Bool}:SimE R m (.ok (.bl i) m) (.ok (.bl i)):=ziF (rep_bl.mpr rfl)
theorem zaD {R:Nat->Prop}{m:Me}{d e:Dat}{x y:Wd}(op:Bo)(a:Rep R m d x)(b:Rep R m e y):SimE R m (bop op x y m) (zC op d e):=by
 cases d with
 | int i =>
  rw[rep_int.mp a]
  cases e with
  | int j =>
   rw[rep_int.mp b]
   cases op <;> simp only[bop,zC]
   .exact SimE.int
   .exact SimE.int
   .by_cases z:(small i || small j)=true
    .rw[if_pos z,if_pos z];exact SimE.int
    .rw[if_neg z,if_neg z];exact SimE.no
   .by_cases z:0 < j/\j < 1073741824
    .rw[if_pos z,if_pos z];exact SimE.int
    .rw[if_neg z,if_neg z];exact SimE.no
   .by_cases z:0 < j
    .rw[if_pos z,if_pos z];exact SimE.int
    .rw[if_neg z,if_neg z];exact SimE.no
   .by_cases z:0<=j/\j<=1000000/\small i=true
    .rw[if_pos z,if_pos z];exact SimE.int
    .rw[if_neg z,if_neg z];exact SimE.no
  | _=>exact SimE.no
 | lst ds =>
  obtain ⟨l,xs,rfl,_,hm,a1⟩:=rep_lst.mp a
  cases e with
  | lst es =>
   obtain ⟨l',ys,rfl,_,hn,b1⟩:=rep_lst.mp b
   cases op <;> first | exact SimE.no | skip
   simp only[bop,zC,hm,hn]
   exact SimE.new (a1.app b1)
  | int k =>
   rw[rep_int.mp b]
   cases op <;> first | exact SimE.no | skip
   simp only[bop,zC,hm]
   by_cases z:-(lim:Int)<=k/\k<=(lim:Int)
   .rw[if_pos z,if_pos z];exact SimE.new (a1.rep _)
   .rw[if_neg z,if_neg z];exact SimE.no
  | _=>exact SimE.no
 | tup ds =>
  obtain ⟨xs,rfl,a1⟩:=rep_tup.mp a
  cases e with
  | tup es =>
   obtain ⟨ys,rfl,b1⟩:=rep_tup.mp b
   cases op <;> first | exact SimE.no | skip
   simp only[bop,zC]
   have h1:=a1.len
   have h2:=b1.len
   have h3:ds.isEmpty=xs.isEmpty:=by cases ds <;> cases xs <;> simp_all
   rw[h1,h2,h3]
   by_cases z:xs.length+ys.length<=lim/\xs.isEmpty=false
   .rw[if_pos z,if_pos z];exact ziF (rep_tup.mpr ⟨_,rfl,a1.app b1⟩)
   .rw[if_neg z,if_neg z];exact SimE.no
  | _=>exact SimE.no
 | _=>exact SimE.no
theorem kh {R:Nat->Prop}{m:Me}{d e:Dat}{x y:Wd}(r:Int->Int->Bool)(a:Rep R m d x)(b:Rep R m e y):SimE R m (kO r x y m) (zc3 r d e):=by
 cases d with
 | int i =>
  rw[rep_int.mp a]
  cases e with
  | int j=>rw[rep_int.mp b];exact SimE.bl
  | _=>exact SimE.no
 | _=>exact SimE.no
theorem zaE {R:Nat->Prop}{m:Me}{p:Option Bool}{q:Option Bool}(h:∀b,q=some b->p=some b):SimE R m (ofB p m) (g0 q):=by
 cases q with
 | none=>exact SimE.no
 | some b=>rw[h b rfl];exact SimE.bl
theorem g5 {R:Nat->Prop}{m:Me}{p:Option Bool}{q:Option Bool}(h:∀b,q=some b->p=some b):SimE R m (ofB (p.map (!·)) m) (g0 (q.map (!·))):=by
 cases q with
 | none=>exact SimE.no
 | some b=>rw[h b rfl];exact SimE.bl
theorem zev {R:Nat->Prop}{m:Me}{d e:Dat}{x y:Wd}(a:Rep R m d x)(b:Rep R m e y):SimE R m (cop .isN x y m) (y9 .isN d e):=by
 cases e with
 | non =>
  rw[rep_non.mp b]
  cases d with
  | non=>rw[rep_non.mp a];exact SimE.bl
  | bl _=>rw[rep_bl.mp a];exact SimE.bl
  | int _=>rw[rep_int.mp a];exact SimE.bl
  | str _=>rw[rep_str.mp a];exact SimE.bl
  | scr _=>rw[rep_scr.mp a];exact SimE.bl
  | tup _=>obtain ⟨xs,rfl,_⟩:=rep_tup.mp a;exact SimE.bl
  | lst _=>obtain ⟨l,xs,rfl,_⟩:=rep_lst.mp a;exact SimE.bl
 | _=>exact SimE.no
theorem zc4 {R:Nat->Prop}{m:Me}{d e:Dat}{x y:Wd}(a:Rep R m d x)(b:Rep R m e y):SimE R m (cop .notN x y m) (y9 .notN d e):=by
 cases e with
 | non =>
  rw[rep_non.mp b]
  cases d with
  | non=>rw[rep_non.mp a];exact SimE.bl
  | bl _=>rw[rep_bl.mp a];exact SimE.bl
  | int _=>rw[rep_int.mp a];exact SimE.bl
  | str _=>rw[rep_str.mp a];exact SimE.bl
  | scr _=>rw[rep_scr.mp a];exact SimE.bl
  | tup _=>obtain ⟨xs,rfl,_⟩:=rep_tup.mp a;exact SimE.bl
  | lst _=>obtain ⟨l,xs,rfl,_⟩:=rep_lst.mp a;exact SimE.bl
 | _=>exact SimE.no
theorem j7 {R:Nat->Prop}{m:Me}{d e:Dat}{x y:Wd}(op:Co)(a:Rep R m d x)(b:Rep R m e y):SimE R m (cop op x y m) (y9 op d e):=by
 cases op with
 | eq=>exact zaE fun q h=>zaA h a b
 | ne=>exact g5 fun q h=>zaA h a b
 | isN=>exact zev a b
 | notN=>exact zc4 a b
 | isin =>
  simp only[cop,y9]
  cases z:xS e with
  | none=>exact SimE.no
  | some es =>
   obtain ⟨ys,h,q⟩:=xT b z
   rw[h];exact zaE fun t h=>zaC h a q
 | notin =>
  simp only[cop,y9]
  cases z:xS e with
  | none=>exact SimE.no
  | some es =>
   obtain ⟨ys,h,q⟩:=xT b z
   rw[h];exact g5 fun t h=>zaC h a q
 | lt=>exact kh _ a b
 | le=>exact kh _ a b
 | gt=>exact kh _ a b
 | ge=>exact kh _ a b
theorem zew {R:Nat->Prop}{m:Me}{d:Dat}{x:Wd}(t:Tg)(a:Rep R m d x):SimE R m (ofB (isT t x m) m) (.ok (.bl (isD t d))):=by
 have h:isT t x m=some (isD t d):=by
  cases d with
  | non=>rw[rep_non.mp a];cases t <;> rfl
  | bl _=>rw[rep_bl.mp a];cases t <;> rfl
  | int _=>rw[rep_int.mp a];cases t <;> rfl
  | str _=>rw[rep_str.mp a];cases t <;> rfl
  | scr _=>rw[rep_scr.mp a];cases t <;> rfl
  | tup _=>obtain ⟨xs,rfl,_⟩:=rep_tup.mp a;cases t <;> rfl
  | lst _=>obtain ⟨l,xs,rfl,_,hm,_⟩:=rep_lst.mp a;cases t <;> (show (match m[l]? with | some (.lst _)=>_ | some (.dct _)=>_ | none=>_)=_;rw[hm];rfl)
 rw[h];exact SimE.bl
theorem zaF {R:Nat->Prop}{m:Me}:∀ {ds:List Dat}{xs:List Wd}{i:Bool},RepL R m ds xs->jn ds=some i->zbp xs=some i
 | [],xs,i,a,h=>by rw[a.nil_inv];exact h
 | d::ds,xs,i,a,h=>by
  obtain ⟨x,r,rfl,p,q⟩:=a.cons_inv
  cases d with
  | bl j =>
   rw[rep_bl.mp p]
   simp only[jn,Option.map_eq_some_iff] at h
   obtain ⟨k,hk,rfl⟩:=h
   simp only[zbp,zaF q hk,Option.map_some]
  | _=>simp[jn] at h
theorem zex {R:Nat->Prop}{m:Me}{ds:List Dat}{xs:List Wd}(b:Blf)(a:RepL R m ds xs):SimE R m (wD b xs m) (yT b ds):=by
 have one:∀ {d:Dat}{xs:List Wd},RepL R m [d] xs->∃x,xs=[x]/\Rep R m d x:=by
  intro d xs h
  obtain ⟨x,r,rfl,p,q⟩:=h.cons_inv
  rw[q.nil_inv];exact ⟨x,rfl,p⟩
 cases b with
 | len =>
  simp only[yT]
  split
  .obtain ⟨x,rfl,p⟩:=one a
   split
   .next z=>obtain ⟨ys,h,q⟩:=xT p z;simp only[wD,h,q.len];exact SimE.int
   .exact SimE.no
  .exact SimE.no
 | int =>
  simp only[yT]
  split
  .obtain ⟨x,rfl,p⟩:=one a;rw[rep_int.mp p];exact SimE.int
  .obtain ⟨x,rfl,p⟩:=one a;rw[rep_bl.mp p];exact SimE.int
  .exact SimE.no
 | list =>
  simp only[yT]
  split
  .obtain ⟨x,rfl,p⟩:=one a
   split
   .next z=>obtain ⟨ys,h,q⟩:=xT p z;simp only[wD,h];exact SimE.new q
   .exact SimE.no
  .exact SimE.no
 | tuple =>
  simp only[yT]
  split
  .obtain ⟨x,rfl,p⟩:=one a
   split
   .next z=>obtain ⟨ys,h,q⟩:=xT p z;simp only[wD,h];exact ziF (rep_tup.mpr ⟨_,rfl,q⟩)
   .exact SimE.no
  .exact SimE.no
 | sum=>exact SimE.no
 | all =>
  simp only[yT]
  split
  .obtain ⟨x,rfl,p⟩:=one a
   split
   .next z =>
    obtain ⟨es,z1,z2⟩:=Option.bind_eq_some_iff.mp z
    obtain ⟨ys,h,q⟩:=qQ p z1;simp only[wD,h,Option.bind_some,zaF q z2];exact SimE.bl
   .exact SimE.no
  .exact SimE.no
 | abs=>exact SimE.no
 | max2 =>
  simp only[yT]
  split
  .obtain ⟨x,r,rfl,p,q⟩:=a.cons_inv
   obtain ⟨y,rfl,q1⟩:=one q
   rw[rep_int.mp p,rep_int.mp q1];exact SimE.int
  .exact SimE.no
 | min2 =>
  simp only[yT]
  split
  .obtain ⟨x,r,rfl,p,q⟩:=a.cons_inv
   obtain ⟨y,rfl,q1⟩:=one q
   rw[rep_int.mp p,rep_int.mp q1];exact SimE.int
  .exact SimE.no
 | bool=>exact SimE.no
 | minS=>exact SimE.no
 | maxS=>exact SimE.no
theorem zey {R:Nat->Prop}{m:Me}{d e:Dat}{x y:Wd}(a:Rep R m d x)(b:Rep R m e y):SimE R m (vB x y m) (yo d e):=by
 cases e with
 | int i =>
  rw[rep_int.mp b]
  simp only[yo,vB]
  cases z:xS d with
  | none=>exact SimE.no
  | some ds =>
   obtain ⟨xs,h,q⟩:=xT a z
   simp only[h]
   cases z:(ix ds.length i).bind fun j=>ds[j]? with
   | none=>exact SimE.no
   | some v =>
    obtain ⟨j,h1,h2⟩:=Option.bind_eq_some_iff.mp z
    obtain ⟨x,h3,p⟩:=q.get h2
    rw[q.len] at h1
    simp only[h1,Option.bind_some,h3]
    exact ziF p
 | _=>exact SimE.no
theorem zga {R:Nat->Prop}{m:Me}{d:Dat}{x:Wd}(lo hi:Option Int)(a:Rep R m d x):SimE R m (slR x lo hi m) (slD d lo hi):=by
 simp only[slD,slR]
 cases z:lsD d with
 | none=>exact SimE.no
 | some ds =>
  obtain ⟨xs,h,q⟩:=qQ a z
  simp only[h,q.len]
  exact SimE.new ((q.drop _).take _)
theorem vf {R:Nat->Prop}{m:Me}(st:Int):∀ (n:Nat) (lo:Int),RepL R m (zL lo st n) (gM lo st n)
 | 0,lo=>.nil
 | n+1,lo=>by
  have h:zL lo st (n+1)=.int lo::zL (lo+st) st n:=by
   unfold zL
   rw[List.range_succ_eq_map,List.map_cons,List.map_map]
   congr 1
   .simp
   .apply List.map_congr_left
    intro i _
    show Dat.int _=Dat.int _
    congr 1
    rw[show ((Nat.succ i:Nat):Int)=(i:Int)+1 from rfl,Int.mul_add,Int.mul_one]
    lia
  rw[h]
  exact .cons (rep_int.mpr rfl) (vf st n _)
theorem zez {R:Nat->Prop}{m:Me}{d e f:Dat}{x y z:Wd}(a:Rep R m d x)(b:Rep R m e y)(c:Rep R m f z):SimE R m (qG x y z m) (wM d e f):=by
 cases d with
 | int i =>
  cases e with
  | int j =>
   cases f with
   | int k =>
    rw[rep_int.mp a,rep_int.mp b,rep_int.mp c]
    simp only[qG,wM]
    split
    .exact ziF (rep_tup.mpr ⟨_,rfl,vf k _ i⟩)
    .exact SimE.no
   | _=>exact SimE.no
  | _=>exact SimE.no
 | _=>exact SimE.no
theorem wz {c e:Wd->Me->Rz}{cd ed:Dat->Rd}{R:Nat->Prop}{m0:Me}
  (hc:∀ (R':Nat->Prop) m d x,(∀l,R l->R' l)->Le m0 m->Rep R' m d x->SimE R' m (c x m) (cd d)) (he:∀ (R':Nat->Prop) m d x,(∀l,R l->R' l)->Le m0 m->Rep R' m d x->SimE R' m (e x m) (ed d)) :
  ∀ (ds:List Dat) (xs:List Wd) (acc:List Dat) (acx:List Wd) (R':Nat->Prop) (m:Me),(∀l,R l->R' l)->Le m0 m->RepL R' m ds xs->RepL R' m acc acx->SimE R' m (y6 c e xs acx m) (zS cd ed ds acc)
 | [],xs,acc,acx,R',m,hR,hm,a,b=>by
  rw[a.nil_inv]
  unfold y6 zS
  exact SimE.new b
 | d::ds,xs,acc,acx,R',m,hR,hm,a,b=>by
  obtain ⟨x,r,rfl,p,q⟩:=a.cons_inv
  unfold y6 zS
  refine (hc R' m d x hR hm p).bind fun t w m1 l1 k1=>?_
  cases t with
  | bl t =>
   rw[rep_bl.mp k1]
   cases t with
   | true =>
    refine (he _ m1 d x (fun l z=>.inl (hR l z)) (hm.trans l1) (p.up _ l1)).bind fun t w m2 l2 k2=>?_
    simp only[b.len]
    by_cases z:acx.length < lim
    .rw[if_pos z,if_pos z]
     exact wz hc he ds r _ _ _ m2 (fun l z=>.inl (.inl (hR l z))) ((hm.trans l1).trans l2) ((q.up _ l1).up _ l2) (((b.up _ l1).up _ l2).app (.cons k2 .nil))
    .rw[if_neg z,if_neg z];exact SimE.no
   | false=>exact wz hc he ds r _ _ _ m1 (fun l z=>.inl (hR l z)) (hm.trans l1) (q.up _ l1) (b.up _ l1)
  | _=>exact SimE.no
theorem vI {c e:Wd->Me->Rz}{cd ed:Dat->Rd}{R:Nat->Prop}{m0:Me}{l:Nat}{xs0:List Wd}(hl:m0[l]?=some (.lst xs0))
  (hc:∀ (R':Nat->Prop) m d x,(∀l,R l->R' l)->Le m0 m->Rep R' m d x->SimE R' m (c x m) (cd d)) (he:∀ (R':Nat->Prop) m d x,(∀l,R l->R' l)->Le m0 m->Rep R' m d x->SimE R' m (e x m) (ed d)) :
  ∀ (ds:List Dat) (i k:Nat) (acc:List Dat) (acx:List Wd) (R':Nat->Prop) (m:Me),(∀l,R l->R' l)->Le m0 m->RepL R' m ds (xs0.drop i)->i+ds.length=xs0.length->ds.length < k->RepL R' m acc acx->SimE R' m (y7 c e l k i acx m) (zS cd ed ds acc)
 | [],i,0,acc,acx,R',m,hR,hm,a,hi,hk,b=>by simp at hk
 | d::ds,i,0,acc,acx,R',m,hR,hm,a,hi,hk,b=>by simp at hk
 | [],i,k+1,acc,acx,R',m,hR,hm,a,hi,hk,b=>by
  unfold y7 zS zE
  rw[hm l _ hl]
  simp only
  rw[List.getElem?_eq_none (by simp at hi;lia)]
  exact SimE.new b
 | d::ds,i,k+1,acc,acx,R',m,hR,hm,a,hi,hk,b=>by
  obtain ⟨x,r,e0,p,q⟩:=a.cons_inv
  have hx:xs0[i]?=some x:=by
   have:(xs0.drop i)[0]?=some x:=by rw[e0];rfl
   simpa using this
  have hr:r=xs0.drop (i+1):=by
   have:(xs0.drop i).drop 1=r:=by rw[e0];rfl
   rw[<- this,List.drop_drop]
  rw[hr] at q
  have hi':i+1+ds.length=xs0.length:=by simp at hi;lia
  have hk':ds.length < k:=by simp at hk;lia
  unfold y7 zS zE
  rw[hm l _ hl]
  simp only
  rw[hx]
  simp only
  refine (hc R' m d x hR hm p).bind fun t w m1 l1 k1=>?_
  cases t with
  | bl t =>
   rw[rep_bl.mp k1]
   cases t with
   | true =>
    refine (he _ m1 d x (fun l z=>.inl (hR l z)) (hm.trans l1) (p.up _ l1)).bind fun t w m2 l2 k2=>?_
    simp only[b.len]
    by_cases z:acx.length < lim
    .rw[if_pos z,if_pos z]
     exact vI hl hc he ds (i+1) k _ _ _ m2 (fun l z=>.inl (.inl (hR l z))) ((hm.trans l1).trans l2) ((q.up _ l1).up _ l2) hi' hk' (((b.up _ l1).up _ l2).app (.cons k2 .nil))
    .rw[if_neg z,if_neg z];exact SimE.no
   | false=>exact vI hl hc he ds (i+1) k _ _ _ m1 (fun l z=>.inl (hR l z)) (hm.trans l1) (q.up _ l1) hi' hk' (b.up _ l1)
  | _=>exact SimE.no
def zc5 (R:Nat->Prop)(m0:Me)(ps:List (Dat×Dat))(g:Nat->Me->Option (Option (Wd×Wd))):Prop :=
 ∀m,Le m0 m->(∀i p,ps[i]?=some p->∃a b,g i m=some (some (a,b))/\Rep R m p.1 a/\Rep R m p.2 b)/\∀i,ps.length<=i->g i m=some none
theorem j8 {α β:Type}:∀ {xs:List α}{ys:List β}{i:Nat}{p:α×β},(xs.zip ys)[i]?=some p->xs[i]?=some p.1/\ys[i]?=some p.2
 | [],_,i,p,h=>by simp at h
 | _::_,[],i,p,h=>by simp at h
 | x::xs,y::ys,0,p,h=>by simp at h;subst h;exact ⟨rfl,rfl⟩
 | x::xs,y::ys,i+1,p,h=>by
  have h':(xs.zip ys)[i]?=some p:=by simpa using h
  simpa using j8 h'
set_option tactic.hygienic true in
theorem jG {R:Nat->Prop}{m0:Me}{k:Kd}{x y:Dat}{a b:Wd}{ps:List (Dat×Dat)}(e:xA k x y=some ps)(hx:Rep R m0 x a)(hy:Rep R m0 y b):zc5 R m0 ps (yg k a b)/\ps.length<=lim:=by
 unfold xA at e
 split at e
 .obtain ⟨l,xs,rfl,_,e1,k1⟩:=rep_lst.mp hx
  obtain ⟨l',ys,rfl,_,e2,k2⟩:=rep_lst.mp hy
  split at e
  .next z =>
   cases e
   refine ⟨fun m h=>⟨fun i p q=>?_,fun i q=>?_⟩,by simp;lia⟩
   .obtain ⟨z1,z2⟩:=j8 q
    obtain ⟨a,a1,a2⟩:=k1.get z1
    obtain ⟨b,b1,b2⟩:=k2.get z2
    refine ⟨a,b,?_,Rep.frame (fun l o r z=>⟨r,h l o z⟩) _ _ a2,Rep.frame (fun l o r z=>⟨r,h l o z⟩) _ _ b2⟩
    simp only[yg,zE]
    rw[h _ _ e1,h _ _ e2]
    simp only[a1,b1]
   .simp only[yg,zE]
    rw[h _ _ e1,h _ _ e2]
    have l1:=k1.len
    have l2:=k2.len
    simp only[List.length_zip] at q
    simp only
    rcases Nat.le_total xs.length ys.length with z3 | z3
    .rw[List.getElem?_eq_none (by lia)]
    .rw[List.getElem?_eq_none (l:=ys) (by lia)]
     cases xs[i]? <;> rfl
  .cases e
 .rename_i xs0 st
  obtain ⟨l,xs,rfl,_,e1,k1⟩:=rep_lst.mp hx
  rw[rep_int.mp hy]
  split at e
  .next z =>
   cases e
   have l1:=k1.len
   refine ⟨fun m h=>⟨fun i p q=>?_,fun i q=>?_⟩,by simp[zL];lia⟩
   .obtain ⟨z1,z2⟩:=j8 q
    obtain ⟨a,a1,a2⟩:=k1.get z2
    have hp:p.1=.int (st+(i:Int)):=by
     simp only[zL,List.getElem?_map] at z1
     cases hr:(List.range xs0.length)[i]? with
     | none=>rw[hr] at z1;cases z1
     | some j =>
      rw[hr] at z1
      have:=List.getElem?_eq_some_iff.mp hr
      obtain ⟨_,hj⟩:=this
      simp only[List.getElem_range] at hj
      subst hj
      simp only[Option.map_some,Option.some.injEq,Int.one_mul] at z1
      exact z1.symm
    refine ⟨.int (st+(i:Int)),a,?_,by rw[hp];exact rep_int.mpr rfl,Rep.frame (fun l o r z=>⟨r,h l o z⟩) _ _ a2⟩
    simp only[yg,zE]
    rw[h _ _ e1]
    simp only[a1,Option.map_some]
   .simp only[yg,zE]
    rw[h _ _ e1]
    simp only[zL,List.length_zip,List.length_map,List.length_range] at q
    simp only
    rw[List.getElem?_eq_none (by lia)]
    rfl
  .cases e
 .cases e
theorem vJ {c e:Wd->Wd->Me->Rz}{cd ed:Dat×Dat->Rd}{R:Nat->Prop}{m0:Me}{ps:List (Dat×Dat)}{g:Nat->Me->Option (Option (Wd×Wd))}(hg:zc5 R m0 ps g)
  (hc:∀ (R':Nat->Prop) m p a b,(∀l,R l->R' l)->Le m0 m->Rep R' m p.1 a->Rep R' m p.2 b->SimE R' m (c a b m) (cd p)) (he:∀ (R':Nat->Prop) m p a b,(∀l,R l->R' l)->Le m0 m->Rep R' m p.1 a->Rep R' m p.2 b->SimE R' m (e a b m) (ed p)) :
  ∀ (ds:List (Dat×Dat)) (i k:Nat) (acc:List Dat) (acx:List Wd) (R':Nat->Prop) (m:Me),(∀l,R l->R' l)->Le m0 m->ds=ps.drop i->i+ds.length=ps.length->ds.length < k->RepL R' m acc acx->SimE R' m (yU c e g k i acx m) (zS cd ed ds acc)
 | [],i,0,acc,acx,R',m,hR,hm,a,hi,hk,b=>by simp at hk
 | d::ds,i,0,acc,acx,R',m,hR,hm,a,hi,hk,b=>by simp at hk
 | [],i,k+1,acc,acx,R',m,hR,hm,a,hi,hk,b=>by
  unfold yU zS
  rw[(hg m hm).2 i (by simp at hi;lia)]
  exact SimE.new b
 | d::ds,i,k+1,acc,acx,R',m,hR,hm,a,hi,hk,b=>by
  have hx:ps[i]?=some d:=by
   have:(ps.drop i)[0]?=some d:=by rw[<- a];rfl
   simpa using this
  have hr:ds=ps.drop (i+1):=by
   have:(ps.drop i).drop 1=ds:=by rw[<- a];rfl
   rw[<- this,List.drop_drop]
  have hi':i+1+ds.length=ps.length:=by simp at hi;lia
  have hk':ds.length < k:=by simp at hk;lia
  obtain ⟨u,v,e0,p,q⟩:=(hg m hm).1 i d hx
  have up:∀ {d:Dat}{w:Wd},Rep R m d w->Rep R' m d w:=fun z=>Rep.frame (fun l o r z=>⟨hR l r,z⟩) _ _ z
  unfold yU zS
  rw[e0]
  simp only
  refine (hc R' m d u v hR hm (up p) (up q)).bind fun t w m1 l1 k1=>?_
  cases t with
  | bl t =>
   rw[rep_bl.mp k1]
   cases t with
   | true =>
    refine (he _ m1 d u v (fun l z=>.inl (hR l z)) (hm.trans l1) ((up p).up _ l1) ((up q).up _ l1)).bind fun t w m2 l2 k2=>?_
    simp only[b.len]
    by_cases z:acx.length < lim
    .rw[if_pos z,if_pos z]
     exact vJ hg hc he ds (i+1) k _ _ _ m2 (fun l z=>.inl (.inl (hR l z))) ((hm.trans l1).trans l2) hr hi' hk' (((b.up _ l1).up _ l2).app (.cons k2 .nil))
    .rw[if_neg z,if_neg z];exact SimE.no
   | false=>exact vJ hg hc he ds (i+1) k _ _ _ m1 (fun l z=>.inl (hR l z)) (hm.trans l1) hr hi' hk' (b.up _ l1)
  | _=>exact SimE.no
noncomputable def zm:Ex->List Nat
 | .var i=>[i]
 | .lit _=>[]
 | .bin _ a b=>zm a++zm b
 | .neg a=>zm a
 | .not a=>zm a
 | .and a b=>zm a++zm b
 | .or a b=>zm a++zm b
 | .cmp _ a b=>zm a++zm b
 | .chain _ _ a b c=>zm a++(zm b++zm c)
 | .ife c a b=>zm c++(zm a++zm b)
 | .unit=>[]
 | .pair a b=>zm a++zm b
 | .call _ a=>zm a
 | .blt _ a=>zm a
 | .isi _ a=>zm a
 | .lst a=>zm a
 | .tup a=>zm a
 | .dict0=>[]
 | .idx a b=>zm a++zm b
 | .slL a b=>zm a++zm b
 | .slH a b=>zm a++zm b
 | .slB a b c=>zm a++(zm b++zm c)
 | .meth _ a b=>zm a++zm b
 | .rng a b c=>zm a++(zm b++zm c)
 | .comp e i c=>zm i++(zm e++zm c)
 | .lrng a=>zm a
 | .compP _ e a b c=>zm a++(zm b++(zm e++zm c))
@[simp] theorem zhk (i:Nat):zm (.var i)=[i]:=rfl
@[simp] theorem zhl (w:Wd):zm (.lit w)=[]:=rfl
@[simp] theorem zhm (a b:Ex):zm (.idx a b)=zm a++zm b:=rfl
@[simp] theorem zhn (a:Ex):zm (.tup a)=zm a:=rfl
@[simp] theorem zgo (a b:Ex):zm (.pair a b)=zm a++zm b:=rfl
@[simp] theorem zgp  : zm (.unit)=[]:=rfl
@[simp] theorem zho (op:Bo)(a b:Ex):zm (.bin op a b)=zm a++zm b:=rfl
@[simp] theorem zgq (k:Nat)(a:Ex):zm (.call k a)=zm a:=rfl
@[simp] theorem zhp (a:Ex):zm (.neg a)=zm a:=rfl
@[simp] theorem zhq (a:Ex):zm (.lst a)=zm a:=rfl
def EnvR (R:Nat->Prop)(m:Me)(vs:List Nat)(de:DEn)(env:En):Prop :=
 de.length=env.length/\∀i∈vs,∀d,de[i]?=some (some d)->∃w,env[i]?=some (some w)/\Rep R m d w
theorem EnvR.up {R R':Nat->Prop}{m m':Me}{vs:List Nat}{de:DEn}{env:En}(hR:∀l,R l->R' l)(h:Le m m')(q:EnvR R m vs de env):EnvR R' m' vs de env :=
 ⟨q.1,fun i hi d z=>by
  obtain ⟨w,a,b⟩:=q.2 i hi d z
  exact ⟨w,a,Rep.frame (fun l o r k=>⟨hR l r,h l o k⟩) d w b⟩⟩
theorem EnvR.sub {R:Nat->Prop}{m:Me}{vs us:List Nat}{de:DEn}{env:En}(h:∀i∈us,i∈vs)(q:EnvR R m vs de env):EnvR R m us de env :=
 ⟨q.1,fun i hi=>q.2 i (h i hi)⟩
theorem EnvR.left {R:Nat->Prop}{m:Me}{us vs:List Nat}{de:DEn}{env:En}(q:EnvR R m (us++vs) de env):EnvR R m us de env:=q.sub fun _ h=>List.mem_append_left _ h
theorem EnvR.right {R:Nat->Prop}{m:Me}{us vs:List Nat}{de:DEn}{env:En}(q:EnvR R m (us++vs) de env):EnvR R m vs de env:=q.sub fun _ h=>List.mem_append_right _ h
theorem EnvR.push {R:Nat->Prop}{m:Me}{vs:List Nat}{de:DEn}{env:En}{d:Dat}{w:Wd}(q:EnvR R m vs de env)(h:Rep R m d w):EnvR R m vs (de++[some d]) (env++[some w]):=by
 refine ⟨by simp[q.1],fun i hi e z=>?_⟩
 rw[List.getElem?_append] at z
 split at z
 .next k =>
  obtain ⟨w,a,b⟩:=q.2 i hi e z
  exact ⟨w,by rw[List.getElem?_append_left (by rw[<- q.1];exact k)];exact a,b⟩
 .next k =>
  rw[List.getElem?_append_right (by rw[<- q.1];lia),<- q.1]
  have:i - de.length=0:=by
   rcases Nat.eq_zero_or_pos (i - de.length) with z0 | z0
   .exact z0
   .rw[List.getElem?_eq_none (by simp;lia)] at z;cases z
  rw[this] at z ⊢
  cases z
  exact ⟨w,rfl,h⟩
def CallR (cl:Nat->List Wd->Me->Rz)(cd:Nat->List Dat->Rd):Prop:=∀ (k:Nat) (ds:List Dat) (ws:List Wd) (R:Nat->Prop) (m:Me),RepL R m ds ws->SimE R m (cl k ws m) (cd k ds)
theorem yE {R:Nat->Prop}{m:Me}{d:Dat}{w:Wd}(h:Rep R m d w):RepL R m (zO d) (zp w):=by
 cases d with
 | tup ds=>obtain ⟨xs,rfl,q⟩:=rep_tup.mp h;exact q
 | non=>rw[rep_non.mp h];exact .nil
 | bl _=>rw[rep_bl.mp h];exact .nil
 | int _=>rw[rep_int.mp h];exact .nil
 | str _=>rw[rep_str.mp h];exact .nil
 | scr _=>rw[rep_scr.mp h];exact .nil
 | lst _=>obtain ⟨l,xs,rfl,_⟩:=rep_lst.mp h;exact .nil
theorem zf {cl:Nat->List Wd->Me->Rz}{cd:Nat->List Dat->Rd}(H:CallR cl cd):∀ (e:Ex) (R:Nat->Prop) (m:Me) (de:DEn) (env:En),EnvR R m (zm e) de env->SimE R m (evE cl e env m) (evD cd e de)
 | .var i,R,m,de,env,q=>by
  cases z:de[i]? with
  | none=>rw[yZ (.inl z)];exact SimE.no
  | some o =>
   cases o with
   | none=>rw[yZ (.inr z)];exact SimE.no
   | some d =>
    obtain ⟨w,a,b⟩:=q.2 i (List.mem_singleton.mpr rfl) d z
    rw[xj z,kX a];exact ziF b
 | .lit w,R,m,de,env,q=>by
  cases w <;> first | exact SimE.no | (exact ziF (by unfold Rep;rfl))
 | .bin op a b,R,m,de,env,q=>by
  refine (zf H a R m de env q.left).bind fun d w m1 l1 k1=>?_
  refine (zf H b _ m1 de env (q.right.up (fun _=>.inl) l1)).bind fun d2 w2 m2 l2 k2=>?_
  exact zaD op (k1.up _ l2) k2
 | .neg a,R,m,de,env,q=>by
  refine (zf H a R m de env q).bind fun d w m1 l1 k1=>?_
  cases d with
  | int i=>rw[rep_int.mp k1];exact SimE.int
  | _=>exact SimE.no
 | .not a,R,m,de,env,q=>by
  refine (zf H a R m de env q).bind fun d w m1 l1 k1=>?_
  cases d with
  | bl i=>rw[rep_bl.mp k1];exact SimE.bl
  | _=>exact SimE.no
 | .and a b,R,m,de,env,q=>by
  refine (zf H a R m de env q.left).bind fun d w m1 l1 k1=>?_
  cases d with
  | bl i =>
   rw[rep_bl.mp k1]
   cases i with
   | true=>exact zf H b _ m1 de env (q.right.up (fun _=>.inl) l1)
   | false=>exact SimE.bl
  | _=>exact SimE.no
 | .or a b,R,m,de,env,q=>by
  refine (zf H a R m de env q.left).bind fun d w m1 l1 k1=>?_
  cases d with
  | bl i =>
   rw[rep_bl.mp k1]
   cases i with
   | false=>exact zf H b _ m1 de env (q.right.up (fun _=>.inl) l1)
   | true=>exact SimE.bl
  | _=>exact SimE.no
 | .cmp op a b,R,m,de,env,q=>by
  refine (zf H a R m de env q.left).bind fun d w m1 l1 k1=>?_
  refine (zf H b _ m1 de env (q.right.up (fun _=>.inl) l1)).bind fun d2 w2 m2 l2 k2=>?_
  exact j7 op (k1.up _ l2) k2
 | .chain o p a b c,R,m,de,env,q=>by
  refine (zf H a R m de env q.left).bind fun d w m1 l1 k1=>?_
  refine (zf H b _ m1 de env (q.right.left.up (fun _=>.inl) l1)).bind fun d2 w2 m2 l2 k2=>?_
  refine (j7 o (k1.up _ l2) k2).bind fun d3 w3 m3 l3 k3=>?_
  cases d3 with
  | bl i =>
   rw[rep_bl.mp k3]
   cases i with
   | false=>exact SimE.bl
   | true =>
    refine (zf H c _ m3 de env (q.right.right.up (fun _ h=>.inl (.inl (.inl h))) ((l1.trans l2).trans l3))).bind fun d4 w4 m4 l4 k4=>?_
    exact j7 p ((k2.up _ l3).up _ l4) k4
  | _=>exact SimE.no
 | .ife c a b,R,m,de,env,q=>by
  refine (zf H c R m de env q.left).bind fun d w m1 l1 k1=>?_
  cases d with
  | bl i =>
   rw[rep_bl.mp k1]
   cases i with
   | true=>exact zf H a _ m1 de env (q.right.left.up (fun _=>.inl) l1)
   | false=>exact zf H b _ m1 de env (q.right.right.up (fun _=>.inl) l1)
  | _=>exact SimE.no
 | .unit,R,m,de,env,q=>by
  exact ziF (rep_tup.mpr ⟨[],rfl,.nil⟩)
 | .pair a b,R,m,de,env,q=>by
  refine (zf H a R m de env q.left).bind fun d w m1 l1 k1=>?_
  refine (zf H b _ m1 de env (q.right.up (fun _=>.inl) l1)).bind fun d2 w2 m2 l2 k2=>?_
  exact ziF (rep_tup.mpr ⟨_,rfl,.cons (k1.up _ l2) (yE k2)⟩)
 | .call k a,R,m,de,env,q=>by
  refine (zf H a R m de env q).bind fun d w m1 l1 k1=>?_
  exact H k _ _ _ m1 (yE k1)
 | .blt b a,R,m,de,env,q=>by
  refine (zf H a R m de env q).bind fun d w m1 l1 k1=>?_
  exact zex b (yE k1)
 | .isi t a,R,m,de,env,q=>by
  refine (zf H a R m de env q).bind fun d w m1 l1 k1=>?_
  exact zew t k1
 | .lst a,R,m,de,env,q=>by
  refine (zf H a R m de env q).bind fun d w m1 l1 k1=>?_
  exact SimE.new (yE k1)
 | .tup a,R,m,de,env,q=>by
  refine (zf H a R m de env q).bind fun d w m1 l1 k1=>?_
  have k2:=yE k1
  simp only[k2.len]
  split
  .exact ziF (rep_tup.mpr ⟨_,rfl,k2⟩)
  .exact SimE.no
 | .dict0,R,m,de,env,q=>by
  exact SimE.no
 | .idx a b,R,m,de,env,q=>by
  refine (zf H a R m de env q.left).bind fun d w m1 l1 k1=>?_
  refine (zf H b _ m1 de env (q.right.up (fun _=>.inl) l1)).bind fun d2 w2 m2 l2 k2=>?_
  exact zey (k1.up _ l2) k2
 | .slL a b,R,m,de,env,q=>by
  refine (zf H a R m de env q.left).bind fun d w m1 l1 k1=>?_
  refine (zf H b _ m1 de env (q.right.up (fun _=>.inl) l1)).bind fun d2 w2 m2 l2 k2=>?_
  cases d2 with
  | int i=>rw[rep_int.mp k2];exact zga _ _ (k1.up _ l2)
  | _=>exact SimE.no
 | .slH _ _,R,m,de,env,q=>SimE.no
 | .slB _ _ _,R,m,de,env,q=>SimE.no
 | .meth _ _ _,R,m,de,env,q=>by
  exact SimE.no
 | .rng a b c,R,m,de,env,q=>by
  refine (zf H a R m de env q.left).bind fun d w m1 l1 k1=>?_
  refine (zf H b _ m1 de env (q.right.left.up (fun _=>.inl) l1)).bind fun d2 w2 m2 l2 k2=>?_
  refine (zf H c _ m2 de env (q.right.right.up (fun _ h=>.inl (.inl h)) (l1.trans l2))).bind fun d3 w3 m3 l3 k3=>?_
  exact zez ((k1.up _ l2).up _ l3) (k2.up _ l3) k3
 | .lrng a,R,m,de,env,q=>by
  refine (zf H a R m de env q).bind fun d w m1 l1 k1=>?_
  cases d with
  | int j =>
   rw[rep_int.mp k1]
   simp only
   split
   .exact SimE.new (vf 1 _ 0)
   .exact SimE.no
  | _=>exact SimE.no
 | .comp elt it cond,R,m,de,env,q=>by
  refine (zf H it R m de env q.left).bind fun d w m1 l1 k1=>?_
  have hc:∀ (R':Nat->Prop) m' d x,(∀l,Rf R m.length l->R' l)->Le m1 m'->Rep R' m' d x->SimE R' m' (evE cl cond (env++[some x]) m') (evD cd cond (de++[some d])) :=
   fun R' m' d x hR l k=>zf H cond R' m' _ _ ((q.right.right.up (fun l h=>hR l (.inl h)) (l1.trans l)).push k)
  have he:∀ (R':Nat->Prop) m' d x,(∀l,Rf R m.length l->R' l)->Le m1 m'->Rep R' m' d x->SimE R' m' (evE cl elt (env++[some x]) m') (evD cd elt (de++[some d])) :=
   fun R' m' d x hR l k=>zf H elt R' m' _ _ ((q.right.left.up (fun l h=>hR l (.inl h)) (l1.trans l)).push k)
  cases d with
  | tup ds =>
   obtain ⟨xs,rfl,k2⟩:=rep_tup.mp k1
   exact wz hc he ds xs [] [] _ m1 (fun _ h=>h) (Le.refl _) k2 .nil
  | scr ns =>
   rw[rep_scr.mp k1]
   exact wz hc he (ns.map .int) (ns.map .int) [] [] _ m1 (fun _ h=>h) (Le.refl _) (ziD ns) .nil
  | lst ds =>
   obtain ⟨l,xs,rfl,_,hm,k2⟩:=rep_lst.mp k1
   simp only[itD]
   by_cases z:ds.length<=lim
   .rw[if_pos z]
    have hl:=k2.len
    exact vI hm hc he ds 0 (lim+1) [] [] _ m1 (fun _ h=>h) (Le.refl _) (by simpa using k2) (by lia) (by lia) .nil
   .rw[if_neg z];exact SimE.no
  | _=>exact SimE.no
 | .compP k elt a b cond,R,m,de,env,q=>by
  refine (zf H a R m de env q.left).bind fun d w m1 l1 k1=>?_
  refine (zf H b _ m1 de env (q.right.left.up (fun l h=>.inl h) l1)).bind fun d' w' m2 l2 k2=>?_
  have hc:∀ (R':Nat->Prop) m' (p:Dat×Dat) x y,(∀l,Rf (Rf R m.length) m1.length l->R' l)->Le m2 m'->Rep R' m' p.1 x->Rep R' m' p.2 y->SimE R' m' (evE cl cond (env++[some x]++[some y]) m') (evD cd cond (de++[some p.1]++[some p.2])) :=
   fun R' m' d x y hR l k k'=>zf H cond R' m' _ _ (((q.right.right.right.up (fun l h=>hR l (.inl (.inl h))) ((l1.trans l2).trans l)).push k).push k')
  have he:∀ (R':Nat->Prop) m' (p:Dat×Dat) x y,(∀l,Rf (Rf R m.length) m1.length l->R' l)->Le m2 m'->Rep R' m' p.1 x->Rep R' m' p.2 y->SimE R' m' (evE cl elt (env++[some x]++[some y]) m') (evD cd elt (de++[some p.1]++[some p.2])) :=
   fun R' m' d x y hR l k k'=>zf H elt R' m' _ _ (((q.right.right.left.up (fun l h=>hR l (.inl (.inl h))) ((l1.trans l2).trans l)).push k).push k')
  cases e:xA k d d' with
  | none=>exact SimE.no
  | some ps =>
   obtain ⟨pr,hl⟩:=jG e (k1.up _ l2) k2
   exact vJ pr hc he ps 0 (lim+1) [] [] _ m2 (fun _ h=>h) (Le.refl _) (by simp) (by simp) (by lia) .nil
mutual
noncomputable def Own (m:Me):Dat->Wd->List Nat->Prop
 | .non,w,A=>w=.non/\A=[]
 | .bl b,w,A=>w=.bl b/\A=[]
 | .int i,w,A=>w=.int i/\A=[]
 | .str s,w,A=>w=.str s/\A=[]
 | .scr ns,w,A=>w=.rol (ns.map Wd.int)/\A=[]
 | .tup ds,w,A=>∃xs,w=.tup xs/\OwnL m ds xs A
 | .lst ds,w,A=>∃l xs B,w=.ref l/\A=l::B/\m[l]?=some (.lst xs)/\OwnL m ds xs B
noncomputable def OwnL (m:Me):List Dat->List Wd->List Nat->Prop
 | [],xs,A=>xs=[]/\A=[]
 | d::ds,xs,A=>∃x r B C,xs=x::r/\A=B++C/\Own m d x B/\OwnL m ds r C
end
theorem own_lst {m:Me}{ds:List Dat}{w:Wd}{A:List Nat}:Own m (.lst ds) w A↔∃l xs B,w=.ref l/\A=l::B/\m[l]?=some (.lst xs)/\OwnL m ds xs B:=by
 constructor
 .intro h;unfold Own at h;exact h
 .intro h;unfold Own;exact h
theorem own_tup {m:Me}{ds:List Dat}{w:Wd}{A:List Nat}:Own m (.tup ds) w A↔∃xs,w=.tup xs/\OwnL m ds xs A:=by
 constructor
 .intro h;unfold Own at h;exact h
 .intro h;unfold Own;exact h
theorem OwnL.cons_inv {m:Me}{d:Dat}{ds:List Dat}{xs:List Wd}{A:List Nat}(h:OwnL m (d::ds) xs A):∃x r B C,xs=x::r/\A=B++C/\Own m d x B/\OwnL m ds r C:=by unfold OwnL at h;exact h
theorem OwnL.nil_inv {m:Me}{xs:List Wd}{A:List Nat}(h:OwnL m [] xs A):xs=[]/\A=[]:=by unfold OwnL at h;exact h
theorem OwnL.nil {m:Me}:OwnL m [] [] []:=by unfold OwnL;exact ⟨rfl,rfl⟩
theorem OwnL.cons {m:Me}{d:Dat}{ds:List Dat}{x:Wd}{xs:List Wd}{B C:List Nat}(a:Own m d x B)(b:OwnL m ds xs C):OwnL m (d::ds) (x::xs) (B++C):=by
 unfold OwnL;exact ⟨x,xs,B,C,rfl,rfl,a,b⟩
theorem OwnL.app {m:Me}:∀ {ds es:List Dat}{xs ys:List Wd}{A B:List Nat},OwnL m ds xs A->OwnL m es ys B->OwnL m (ds++es) (xs++ys) (A++B)
 | [],es,xs,ys,A,B,a,b=>by rw[a.nil_inv.1,a.nil_inv.2];exact b
 | d::ds,es,xs,ys,A,B,a,b=>by
  obtain ⟨x,r,P,Q,rfl,rfl,p,q⟩:=a.cons_inv
  rw[List.append_assoc]
  exact .cons p (OwnL.app q b)
mutual
theorem Own.frame {m m':Me}:∀ (d:Dat) (w:Wd) (A:List Nat),(∀l∈A,∀o,m[l]?=some o->m'[l]?=some o)->Own m d w A->Own m' d w A
 | .non,w,A,h,q=>by unfold Own at q ⊢;exact q
 | .bl _,w,A,h,q=>by unfold Own at q ⊢;exact q
 | .int _,w,A,h,q=>by unfold Own at q ⊢;exact q
 | .str _,w,A,h,q=>by unfold Own at q ⊢;exact q
 | .scr _,w,A,h,q=>by unfold Own at q ⊢;exact q
 | .tup ds,w,A,h,q=>by
  obtain ⟨xs,rfl,q1⟩:=own_tup.mp q
  exact own_tup.mpr ⟨xs,rfl,OwnL.frame ds xs A h q1⟩
 | .lst ds,w,A,h,q=>by
  obtain ⟨l,xs,B,rfl,rfl,hm,q1⟩:=own_lst.mp q
  exact own_lst.mpr ⟨l,xs,B,rfl,rfl,h l List.mem_cons_self _ hm,OwnL.frame ds xs B (fun l hl=>h l (List.mem_cons_of_mem _ hl)) q1⟩
theorem OwnL.frame {m m':Me}:∀ (ds:List Dat) (xs:List Wd) (A:List Nat),(∀l∈A,∀o,m[l]?=some o->m'[l]?=some o)->OwnL m ds xs A->OwnL m' ds xs A
 | [],xs,A,h,q=>by rw[q.nil_inv.1,q.nil_inv.2];exact .nil
 | d::ds,xs,A,h,q=>by
  obtain ⟨x,r,B,C,rfl,rfl,a,b⟩:=q.cons_inv
  exact .cons (Own.frame d x B (fun l hl=>h l (List.mem_append_left _ hl)) a) (OwnL.frame ds r C (fun l hl=>h l (List.mem_append_right _ hl)) b)
end
mutual
theorem Own.rep {m:Me}{R:Nat->Prop}:∀ (d:Dat) (w:Wd) (A:List Nat),(∀l∈A,R l)->Own m d w A->Rep R m d w
 | .non,w,A,h,q=>by unfold Own at q;exact rep_non.mpr q.1
 | .bl _,w,A,h,q=>by unfold Own at q;exact rep_bl.mpr q.1
 | .int _,w,A,h,q=>by unfold Own at q;exact rep_int.mpr q.1
 | .str _,w,A,h,q=>by unfold Own at q;exact rep_str.mpr q.1
 | .scr _,w,A,h,q=>by unfold Own at q;exact rep_scr.mpr q.1
 | .tup ds,w,A,h,q=>by
  obtain ⟨xs,rfl,q1⟩:=own_tup.mp q
  exact rep_tup.mpr ⟨xs,rfl,OwnL.rep ds xs A h q1⟩
 | .lst ds,w,A,h,q=>by
  obtain ⟨l,xs,B,rfl,rfl,hm,q1⟩:=own_lst.mp q
  exact rep_lst.mpr ⟨l,xs,rfl,h l List.mem_cons_self,hm,OwnL.rep ds xs B (fun l hl=>h l (List.mem_cons_of_mem _ hl)) q1⟩
theorem OwnL.rep {m:Me}{R:Nat->Prop}:∀ (ds:List Dat) (xs:List Wd) (A:List Nat),(∀l∈A,R l)->OwnL m ds xs A->RepL R m ds xs
 | [],xs,A,h,q=>by rw[q.nil_inv.1];exact .nil
 | d::ds,xs,A,h,q=>by
  obtain ⟨x,r,B,C,rfl,rfl,a,b⟩:=q.cons_inv
  exact .cons (Own.rep d x B (fun l hl=>h l (List.mem_append_left _ hl)) a) (OwnL.rep ds r C (fun l hl=>h l (List.mem_append_right _ hl)) b)
end
mutual
theorem Own.lt {m:Me}:∀ (d:Dat) (w:Wd) (A:List Nat),Own m d w A->∀l∈A,l < m.length
 | .non,w,A,q=>by unfold Own at q;rw[q.2];simp
 | .bl _,w,A,q=>by unfold Own at q;rw[q.2];simp
 | .int _,w,A,q=>by unfold Own at q;rw[q.2];simp
 | .str _,w,A,q=>by unfold Own at q;rw[q.2];simp
 | .scr _,w,A,q=>by unfold Own at q;rw[q.2];simp
 | .tup ds,w,A,q=>by
  obtain ⟨xs,rfl,q1⟩:=own_tup.mp q
  exact OwnL.lt ds xs A q1
 | .lst ds,w,A,q=>by
  obtain ⟨l,xs,B,rfl,rfl,hm,q1⟩:=own_lst.mp q
  intro k hk
  rcases List.mem_cons.mp hk with rfl | hk
  .exact (List.getElem?_eq_some_iff.mp hm).1
  .exact OwnL.lt ds xs B q1 k hk
theorem OwnL.lt {m:Me}:∀ (ds:List Dat) (xs:List Wd) (A:List Nat),OwnL m ds xs A->∀l∈A,l < m.length
 | [],xs,A,q=>by rw[q.nil_inv.2];simp
 | d::ds,xs,A,q=>by
  obtain ⟨x,r,B,C,rfl,rfl,a,b⟩:=q.cons_inv
  intro k hk
  rcases List.mem_append.mp hk with hk | hk
  .exact Own.lt d x B a k hk
  .exact OwnL.lt ds r C b k hk
end
mutual
theorem Rep.flat {R:Nat->Prop}{m m':Me}:∀ (d:Dat) (w:Wd),flat d=true->Rep R m d w->Own m' d w []
 | .non,w,h,q=>by unfold Own;exact ⟨rep_non.mp q,rfl⟩
 | .bl _,w,h,q=>by unfold Own;exact ⟨rep_bl.mp q,rfl⟩
 | .int _,w,h,q=>by unfold Own;exact ⟨rep_int.mp q,rfl⟩
 | .str _,w,h,q=>by unfold Own;exact ⟨rep_str.mp q,rfl⟩
 | .scr _,w,h,q=>by unfold Own;exact ⟨rep_scr.mp q,rfl⟩
 | .tup ds,w,h,q=>by
  obtain ⟨xs,rfl,q1⟩:=rep_tup.mp q
  exact own_tup.mpr ⟨xs,rfl,RepL.flat ds xs (by unfold Vl.flat at h;exact h) q1⟩
 | .lst ds,w,h,q=>by unfold Vl.flat at h;cases h
theorem RepL.flat {R:Nat->Prop}{m m':Me}:∀ (ds:List Dat) (xs:List Wd),flatL ds=true->RepL R m ds xs->OwnL m' ds xs []
 | [],xs,h,q=>by rw[q.nil_inv];exact .nil
 | d::ds,xs,h,q=>by
  obtain ⟨x,r,rfl,a,b⟩:=q.cons_inv
  unfold flatL at h
  rw[Bool.and_eq_true] at h
  exact OwnL.cons (B:=[]) (C:=[]) (Rep.flat d x h.1 a) (RepL.flat ds r h.2 b)
end
def RepO (R:Nat->Prop)(m:Me)(lv:Lv)(d:Dat)(w:Wd)(A:List Nat):Prop:=match lv with
 | .no=>Rep R m d w/\A=[]
 | .top=>∃ds l xs,d=.lst ds/\w=.ref l/\A=[l]/\m[l]?=some (.lst xs)/\RepL R m ds xs
 | .full=>Own m d w A
theorem RepO.rep {R R':Nat->Prop}{m:Me}{lv:Lv}{d:Dat}{w:Wd}{A:List Nat}(h:∀l,R l->R' l)(k:∀l∈A,R' l)(q:RepO R m lv d w A):Rep R' m d w:=by
 cases lv with
 | no=>exact Rep.frame (fun l o r z=>⟨h l r,z⟩) d w q.1
 | top =>
  obtain ⟨ds,l,xs,rfl,rfl,rfl,hm,a⟩:=q
  exact rep_lst.mpr ⟨l,xs,rfl,k l (by simp),hm,RepL.frame (fun l o r z=>⟨h l r,z⟩) ds xs a⟩
 | full=>exact Own.rep d w A k q
theorem RepO.frame {R R':Nat->Prop}{m m':Me}{lv:Lv}{d:Dat}{w:Wd}{A:List Nat}(h:∀ (l:Nat) o,R l->m[l]?=some o->R' l/\m'[l]?=some o)(k:∀l∈A,∀o,m[l]?=some o->m'[l]?=some o)(q:RepO R m lv d w A):RepO R' m' lv d w A:=by
 cases lv with
 | no=>exact ⟨Rep.frame h d w q.1,q.2⟩
 | top =>
  obtain ⟨ds,l,xs,rfl,rfl,rfl,hm,a⟩:=q
  exact ⟨ds,l,xs,rfl,rfl,rfl,k l (by simp) _ hm,RepL.frame h ds xs a⟩
 | full=>exact Own.frame d w A k q
theorem RepO.lt {R:Nat->Prop}{m:Me}{lv:Lv}{d:Dat}{w:Wd}{A:List Nat}(q:RepO R m lv d w A):∀l∈A,l < m.length:=by
 cases lv with
 | no=>rw[q.2];simp
 | top =>
  obtain ⟨ds,l,xs,rfl,rfl,rfl,hm,a⟩:=q
  intro k hk
  rw[List.mem_singleton.mp hk]
  exact (List.getElem?_eq_some_iff.mp hm).1
 | full=>exact Own.lt d w A q
noncomputable def lvE (lev:Nat->Lv):Ex->Dat->Lv
 | .comp elt _ _,d=>if flat d then .full else match d with
  | .lst ds=>if ds.all (fun x=>lvE lev elt x == .full) then .full else .top
  | _=>.no
 | .compP _ elt _ _ _,d=>if flat d then .full else match d with
  | .lst ds=>if ds.all (fun x=>lvE lev elt x == .full) then .full else .top
  | _=>.no
 | .lst a,d=>if flat d then .full else match d with
  | .lst ds=>if lvE lev a (.tup ds) == .full then .full else .top
  | _=>.no
 | .tup a,d=>lvE lev a d
 | .pair a b,d=>if flat d then .full else match d with
  | .tup (x::ds)=>if lvE lev a x == .full && lvE lev b (.tup ds) == .full then .full else .no
  | _=>.no
 | .call k _,d=>if flat d then .full else lev k
 | .blt .list _,d=>if flat d then .full else match d with
  | .lst ds=>if flatL ds then .full else .top
  | _=>.no
 | .lrng _,d=>if flat d then .full else match d with
  | .lst ds=>if flatL ds then .full else .top
  | _=>.no
 | .slL _ _,d=>if flat d then .full else match d with
  | .lst ds=>if flatL ds then .full else .top
  | _=>.no
 | .slH _ _,d=>if flat d then .full else match d with
  | .lst ds=>if flatL ds then .full else .top
  | _=>.no
 | .slB _ _ _,d=>if flat d then .full else match d with
  | .lst ds=>if flatL ds then .full else .top
  | _=>.no
 | .bin _ _ _,d=>if flat d then .full else match d with
  | .lst ds=>if flatL ds then .full else .top
  | _=>.no
 | _,d=>if flat d then .full else .no
@[simp] theorem ki (lev:Nat->Lv)(e i c:Ex)(d:Dat):lvE lev (.comp e i c) d=if flat d then .full else match d with
  | .lst ds=>if ds.all (fun x=>lvE lev e x == .full) then .full else .top
  | _=>.no:=rfl
@[simp] theorem kZ (lev:Nat->Lv)(k:Kd)(e a b c:Ex)(d:Dat):lvE lev (.compP k e a b c) d=if flat d then .full else match d with
  | .lst ds=>if ds.all (fun x=>lvE lev e x == .full) then .full else .top
  | _=>.no:=rfl
@[simp] theorem zh4 (lev:Nat->Lv)(a:Ex)(d:Dat):lvE lev (.lst a) d=if flat d then .full else match d with
  | .lst ds=>if lvE lev a (.tup ds) == .full then .full else .top
  | _=>.no:=rfl
@[simp] theorem zh5 (lev:Nat->Lv)(a:Ex)(d:Dat):lvE lev (.tup a) d=lvE lev a d:=rfl
@[simp] theorem zaG (lev:Nat->Lv)(a b:Ex)(d:Dat):lvE lev (.pair a b) d=if flat d then .full else match d with
  | .tup (x::ds)=>if lvE lev a x == .full && lvE lev b (.tup ds) == .full then .full else .no
  | _=>.no:=rfl
@[simp] theorem zhL (lev:Nat->Lv)(k:Nat)(a:Ex)(d:Dat):lvE lev (.call k a) d=if flat d then .full else lev k:=rfl
@[simp] theorem zhM (lev:Nat->Lv)(a:Ex)(d:Dat):lvE lev (.blt .list a) d=if flat d then .full else match d with
  | .lst ds=>if flatL ds then .full else .top
  | _=>.no:=rfl
@[simp] theorem zhN (lev:Nat->Lv)(a:Ex)(d:Dat):lvE lev (.lrng a) d=if flat d then .full else match d with
  | .lst ds=>if flatL ds then .full else .top
  | _=>.no:=rfl
@[simp] theorem zh6 (lev:Nat->Lv)(a b:Ex)(d:Dat):lvE lev (.slL a b) d=if flat d then .full else match d with
  | .lst ds=>if flatL ds then .full else .top
  | _=>.no:=rfl
@[simp] theorem zh7 (lev:Nat->Lv)(a b:Ex)(d:Dat):lvE lev (.slH a b) d=if flat d then .full else match d with
  | .lst ds=>if flatL ds then .full else .top
  | _=>.no:=rfl
@[simp] theorem zh8 (lev:Nat->Lv)(a b c:Ex)(d:Dat):lvE lev (.slB a b c) d=if flat d then .full else match d with
  | .lst ds=>if flatL ds then .full else .top
  | _=>.no:=rfl
@[simp] theorem zh9 (lev:Nat->Lv)(op:Bo)(a b:Ex)(d:Dat):lvE lev (.bin op a b) d=if flat d then .full else match d with
  | .lst ds=>if flatL ds then .full else .top
  | _=>.no:=rfl
@[simp] theorem zia (lev:Nat->Lv)(i:Nat)(d:Dat):lvE lev (.var i) d=if flat d then .full else .no:=rfl
@[simp] theorem zib (lev:Nat->Lv)(w:Wd)(d:Dat):lvE lev (.lit w) d=if flat d then .full else .no:=rfl
@[simp] theorem zic (lev:Nat->Lv)(a b:Ex)(d:Dat):lvE lev (.idx a b) d=if flat d then .full else .no:=rfl
@[simp] theorem zid (lev:Nat->Lv)(a:Ex)(d:Dat):lvE lev (.neg a) d=if flat d then .full else .no:=rfl
@[simp] theorem zie (lev:Nat->Lv)(a:Ex)(d:Dat):lvE lev (.not a) d=if flat d then .full else .no:=rfl
@[simp] theorem zif (lev:Nat->Lv)(a b:Ex)(d:Dat):lvE lev (.and a b) d=if flat d then .full else .no:=rfl
@[simp] theorem lv_or (lev:Nat->Lv)(a b:Ex)(d:Dat):lvE lev (.or a b) d=if flat d then .full else .no:=rfl
@[simp] theorem zig (lev:Nat->Lv)(op:Co)(a b:Ex)(d:Dat):lvE lev (.cmp op a b) d=if flat d then .full else .no:=rfl
@[simp] theorem zih (lev:Nat->Lv)(c a b:Ex)(d:Dat):lvE lev (.ife c a b) d=if flat d then .full else .no:=rfl
@[simp] theorem zhO (lev:Nat->Lv)(d:Dat):lvE lev (.unit) d=if flat d then .full else .no:=rfl
@[simp] theorem zii (lev:Nat->Lv)(t:Tg)(a:Ex)(d:Dat):lvE lev (.isi t a) d=if flat d then .full else .no:=rfl
@[simp] theorem zij (lev:Nat->Lv)(a b c:Ex)(d:Dat):lvE lev (.rng a b c) d=if flat d then .full else .no:=rfl
@[simp] theorem zhP (lev:Nat->Lv)(a:Ex)(d:Dat):lvE lev (.blt .len a) d=if flat d then .full else .no:=rfl
@[simp] theorem zhQ (lev:Nat->Lv)(a:Ex)(d:Dat):lvE lev (.blt .int a) d=if flat d then .full else .no:=rfl
@[simp] theorem zhr (lev:Nat->Lv)(a:Ex)(d:Dat):lvE lev (.blt .bool a) d=if flat d then .full else .no:=rfl
@[simp] theorem zgr (lev:Nat->Lv)(a:Ex)(d:Dat):lvE lev (.blt .tuple a) d=if flat d then .full else .no:=rfl
@[simp] theorem zhR (lev:Nat->Lv)(a:Ex)(d:Dat):lvE lev (.blt .sum a) d=if flat d then .full else .no:=rfl
@[simp] theorem zhS (lev:Nat->Lv)(a:Ex)(d:Dat):lvE lev (.blt .all a) d=if flat d then .full else .no:=rfl
@[simp] theorem zhT (lev:Nat->Lv)(a:Ex)(d:Dat):lvE lev (.blt .abs a) d=if flat d then .full else .no:=rfl
@[simp] theorem zhs (lev:Nat->Lv)(a:Ex)(d:Dat):lvE lev (.blt .min2 a) d=if flat d then .full else .no:=rfl
@[simp] theorem zht (lev:Nat->Lv)(a:Ex)(d:Dat):lvE lev (.blt .max2 a) d=if flat d then .full else .no:=rfl
def SimO (R:Nat->Prop)(m:Me)(lv:Dat->Lv)(r:Rz)(rd:Rd):Prop:=match rd with
 | .ok d=>∃w m' A,r=.ok w m'/\Le m m'/\RepO (fun l=>Rf R m.length l/\l∉A) m' (lv d) d w A/\A.Nodup/\∀a∈A,m.length<=a
 | .exc c d=>∃w m',r=.exc c w m'/\Le m m'/\Rep (Rf R m.length) m' d w
 | .no=>True
noncomputable def wf (lev:Nat->Lv)(k:Nat)(d:Dat):Lv:=if flat d then .full else lev k
def CallO (lev:Nat->Lv)(cl:Nat->List Wd->Me->Rz)(cd:Nat->List Dat->Rd):Prop:=∀ (k:Nat) (ds:List Dat) (ws:List Wd) (R:Nat->Prop) (m:Me),RepL R m ds ws->SimO R m (wf lev k) (cl k ws m) (cd k ds)
theorem SimO.sim {R:Nat->Prop}{m:Me}{lv:Dat->Lv}{r:Rz}{rd:Rd}(h:SimO R m lv r rd):SimE R m r rd:=by
 cases rd with
 | ok d =>
  obtain ⟨w,m',A,rfl,l,q,_,hA⟩:=h
  exact ⟨w,m',rfl,l,q.rep (fun _ z=>z.1) (fun a z=>.inr (hA a z))⟩
 | exc c d=>exact h
 | no=>trivial
theorem CallO.r {lev:Nat->Lv}{cl:Nat->List Wd->Me->Rz}{cd:Nat->List Dat->Rd}(H:CallO lev cl cd):CallR cl cd:=fun k ds ws R m q=>(H k ds ws R m q).sim
theorem SimE.own {R:Nat->Prop}{m:Me}{r:Rz}{rd:Rd}{lv:Dat->Lv}(h:SimE R m r rd)(hl:∀d,lv d=if flat d then .full else .no):SimO R m lv r rd:=by
 cases rd with
 | ok d =>
  obtain ⟨w,m',rfl,l,q⟩:=h
  refine ⟨w,m',[],rfl,l,?_,List.nodup_nil,by simp⟩
  rw[hl]
  split
  .next z=>exact q.flat d w z
  .exact ⟨Rep.frame (fun l o r z=>⟨⟨r,by simp⟩,z⟩) d w q,rfl⟩
 | exc c d=>exact h
 | no=>trivial
theorem SimO.lift {R:Nat->Prop}{m m1:Me}{r:Rz}{rd:Rd}{lv:Dat->Lv}(h:Le m m1)(q:SimO (Rf R m.length) m1 lv r rd):SimO R m lv r rd:=by
 have hl:=h.len
 cases rd with
 | ok d =>
  obtain ⟨w,m',A,rfl,k,z,nd,hA⟩:=q
  exact ⟨w,m',A,rfl,h.trans k,z.frame (fun l o r z=>⟨⟨by rcases r.1 with (r | r) | r;exact .inl r;exact .inr r;exact .inr (by lia),r.2⟩,z⟩) (fun _ _ _ z=>z),nd,fun a ha=>by have:=hA a ha;lia⟩
 | exc c d=>exact SimE.lift (rd:=.exc c d) h q
 | no=>trivial
theorem SimE.bindO {R:Nat->Prop}{m:Me}{r:Rz}{rd:Rd}{f:Wd->Me->Rz}{g:Dat->Rd}{lv:Dat->Lv}(h:SimE R m r rd)
  (k:∀d w m',Le m m'->Rep (Rf R m.length) m' d w->SimO (Rf R m.length) m' lv (f w m') (g d)):SimO R m lv (r.bind f) (rd.bind g):=by
 cases rd with
 | ok d=>obtain ⟨w,m',rfl,l,z⟩:=h;exact SimO.lift l (k d w m' l z)
 | exc c d=>obtain ⟨w,m',rfl,l,z⟩:=h;exact ⟨w,m',rfl,l,z⟩
 | no=>trivial
theorem SimO.no {R:Nat->Prop}{m:Me}{r:Rz}{lv:Dat->Lv}:SimO R m lv r .no:=trivial
theorem SimO.new {R:Nat->Prop}{m:Me}{ds:List Dat}{xs:List Wd}{lv:Dat->Lv}(h:RepL R m ds xs)(hl:∀es,lv (.lst es)=if flatL es then .full else .top):SimO R m lv (alloc m xs) (yr ds):=by
 unfold yr alloc
 rw[h.len]
 by_cases z:xs.length<=lim
 .rw[if_pos z,if_pos z]
  refine ⟨_,_,[m.length],rfl,Le.app m _,?_,by simp,by simp⟩
  rw[hl]
  split
  .next f=>exact own_lst.mpr ⟨_,xs,[],rfl,rfl,by simp,h.flat ds xs f⟩
  .refine ⟨ds,_,xs,rfl,rfl,rfl,by simp,RepL.frame (fun l o r z=>⟨⟨.inl r,?_⟩,Le.app m _ l o z⟩) ds xs h⟩
   have:=(List.getElem?_eq_some_iff.mp z).1
   simp;lia
 .rw[if_neg z,if_neg z];exact SimO.no
theorem ziz {R:Nat->Prop}{m0 m:Me}{ds:List Dat}{xs:List Wd}{A:List Nat}{lv:Dat->Lv}(hm:Le m0 m)(h:OwnL m ds xs A)(nd:A.Nodup)(hA:∀a∈A,m0.length<=a)(hl:lv (.lst ds)=.full)(hlen:ds.length=xs.length):SimO R m0 lv (alloc m xs) (yr ds):=by
 unfold yr alloc
 rw[hlen]
 have hlt:=h.lt
 by_cases z:xs.length<=lim
 .rw[if_pos z,if_pos z]
  refine ⟨_,_,m.length::A,rfl,hm.trans (Le.app m _),?_,List.nodup_cons.mpr ⟨fun q=>by have:=hlt _ q;lia,nd⟩,?_⟩
  .rw[hl]
   exact own_lst.mpr ⟨_,xs,A,rfl,rfl,by simp,OwnL.frame ds xs A (fun l hl o q=>Le.app m _ l o q) h⟩
  .intro a ha
   rcases List.mem_cons.mp ha with rfl | ha
   .exact hm.len
   .exact hA a ha
 .rw[if_neg z,if_neg z];exact SimO.no
theorem OwnL.len {m:Me}:∀ {ds:List Dat}{xs:List Wd}{A:List Nat},OwnL m ds xs A->ds.length=xs.length
 | [],xs,A,q=>by rw[q.nil_inv.1];rfl
 | d::ds,xs,A,q=>by
  obtain ⟨x,r,B,C,rfl,rfl,a,b⟩:=q.cons_inv
  simp[OwnL.len b]
def CompO (R:Nat->Prop)(m:Me)(lv:Dat->Lv)(r:Rz)(rd:Rd):Prop:=match rd with
 | .ok d=>∃out m2 outx,d=.lst out/\out.length<=lim/\r=alloc m2 outx/\Le m m2/\RepL (Rf R m.length) m2 out outx/\((∀y∈out,lv y=.full)->∃A,OwnL m2 out outx A/\A.Nodup/\∀a∈A,m.length<=a)
 | .exc c d=>∃w m',r=.exc c w m'/\Le m m'/\Rep (Rf R m.length) m' d w
 | .no=>True
def AccO (m0 m:Me)(lv:Dat->Lv)(acc:List Dat)(acx:List Wd):Prop:=(∀y∈acc,lv y=.full)->∃A,OwnL m acc acx A/\A.Nodup/\∀a∈A,m0.length<=a
theorem AccO.up {m0 m m':Me}{lv:Dat->Lv}{acc:List Dat}{acx:List Wd}(h:Le m m')(q:AccO m0 m lv acc acx):AccO m0 m' lv acc acx:=fun z=>by
 obtain ⟨A,a,b,c⟩:=q z
 exact ⟨A,OwnL.frame acc acx A (fun l _ o k=>h l o k) a,b,c⟩
theorem AccO.push {m0 m m':Me}{lv:Dat->Lv}{acc:List Dat}{acx:List Wd}{d:Dat}{w:Wd}{B:List Nat}(hm:Le m0 m)(h:Le m m')(q:AccO m0 m lv acc acx)(z:lv d=.full->Own m' d w B)(nd:B.Nodup)(hB:∀b∈B,m.length<=b):AccO m0 m' lv (acc++[d]) (acx++[w]):=fun f=>by
 obtain ⟨A,a,b,c⟩:=q fun y hy=>f y (List.mem_append_left _ hy)
 refine ⟨A++(B++[]),(OwnL.frame acc acx A (fun l _ o k=>h l o k) a).app (.cons (z (f d (by simp))) .nil),?_,?_⟩
 .rw[List.append_nil]
  refine List.nodup_append.mpr ⟨b,nd,fun x hx y hy e=>?_⟩
  have:=OwnL.lt acc acx A a x hx
  have:=hB y hy
  lia
 .intro x hx
  rw[List.append_nil] at hx
  rcases List.mem_append.mp hx with hx | hx
  .exact c x hx
  .have:=hB x hx
   have:=hm.len
   lia
theorem wA {c e:Wd->Me->Rz}{cd ed:Dat->Rd}{R:Nat->Prop}{m0:Me}{lv:Dat->Lv}
  (hc:∀ (R':Nat->Prop) m d x,(∀l,R l->R' l)->Le m0 m->Rep R' m d x->SimE R' m (c x m) (cd d)) (he:∀ (R':Nat->Prop) m d x,(∀l,R l->R' l)->Le m0 m->Rep R' m d x->SimO R' m lv (e x m) (ed d)) :
  ∀ (ds:List Dat) (xs:List Wd) (acc:List Dat) (acx:List Wd) (m:Me),Le m0 m->RepL (Rf R m0.length) m ds xs->RepL (Rf R m0.length) m acc acx->AccO m0 m lv acc acx->CompO R m0 lv (y6 c e xs acx m) (zS cd ed ds acc)
 | [],xs,acc,acx,m,hm,a,b,f=>by
  rw[a.nil_inv]
  unfold y6 zS yr
  by_cases z:acc.length<=lim
  .rw[if_pos z];exact ⟨acc,m,acx,rfl,z,rfl,hm,b,f⟩
  .rw[if_neg z];trivial
 | d::ds,xs,acc,acx,m,hm,a,b,f=>by
  obtain ⟨x,r,rfl,p,q⟩:=a.cons_inv
  have hl:=hm.len
  have sh:∀ {n:Nat}{m':Me}{d:Dat}{w:Wd},m0.length<=n->Rep (Rf (Rf R m0.length) n) m' d w->Rep (Rf R m0.length) m' d w:=fun hn k=>Rep.frame (fun l o r z=>⟨by rcases r with (r | r) | r;exact .inl r;exact .inr r;exact .inr (by lia),z⟩) _ _ k
  unfold y6 zS
  have h1:=hc _ m d x (fun l z=>.inl z) hm p
  cases e1:cd d with
  | no=>trivial
  | exc k t=>rw[e1] at h1;obtain ⟨w,m',h1,l1,k1⟩:=h1;rw[h1];exact ⟨w,m',rfl,hm.trans l1,sh hl k1⟩
  | ok t =>
   rw[e1] at h1
   obtain ⟨w,m1,h1,l1,k1⟩:=h1
   rw[h1]
   simp only[Rz.bind,Rd.bind]
   cases t with
   | bl t =>
    rw[rep_bl.mp k1]
    have fr:∀ {ds:List Dat}{xs:List Wd},RepL (Rf R m0.length) m ds xs->RepL (Rf R m0.length) m1 ds xs:=fun k=>RepL.frame (fun l o r z=>⟨r,l1 l o z⟩) _ _ k
    cases t with
    | false=>exact wA hc he ds r acc acx m1 (hm.trans l1) (fr q) (fr b) (f.up l1)
    | true =>
     have h2:=he _ m1 d x (fun l z=>.inl z) (hm.trans l1) (Rep.frame (fun l o r z=>⟨r,l1 l o z⟩) _ _ p)
     have hl1:=(hm.trans l1).len
     simp only
     cases e2:ed d with
     | no=>trivial
     | exc k t=>rw[e2] at h2;obtain ⟨w,m',h2,l2,k2⟩:=h2;rw[h2];exact ⟨w,m',rfl,(hm.trans l1).trans l2,sh hl1 k2⟩
     | ok y =>
      rw[e2] at h2
      have h3:=h2.sim
      obtain ⟨w,m2,B,h2,l2,k2,nd,hB⟩:=h2
      obtain ⟨w',m2',h3,_,k3⟩:=h3
      rw[h2] at h3 ⊢
      cases h3
      simp only[Rz.bind,Rd.bind,b.len]
      split
      .refine wA hc he ds r _ _ m2 ((hm.trans l1).trans l2) (RepL.frame (fun l o r z=>⟨r,l2 l o z⟩) _ _ (fr q)) ((RepL.frame (fun l o r z=>⟨r,l2 l o z⟩) _ _ (fr b)).app (.cons (sh hl1 k3) .nil)) ((f.up l1).push (hm.trans l1) l2 ?_ nd hB)
       intro z
       rw[z] at k2
       exact k2
      .trivial
   | _=>trivial
theorem vK {c e:Wd->Me->Rz}{cd ed:Dat->Rd}{R:Nat->Prop}{m0:Me}{lv:Dat->Lv}{l:Nat}{xs0:List Wd}(hx0:m0[l]?=some (.lst xs0))
  (hc:∀ (R':Nat->Prop) m d x,(∀l,R l->R' l)->Le m0 m->Rep R' m d x->SimE R' m (c x m) (cd d)) (he:∀ (R':Nat->Prop) m d x,(∀l,R l->R' l)->Le m0 m->Rep R' m d x->SimO R' m lv (e x m) (ed d)) :
  ∀ (ds:List Dat) (i k:Nat) (acc:List Dat) (acx:List Wd) (m:Me),Le m0 m->RepL (Rf R m0.length) m ds (xs0.drop i)->i+ds.length=xs0.length->ds.length < k->RepL (Rf R m0.length) m acc acx->AccO m0 m lv acc acx->CompO R m0 lv (y7 c e l k i acx m) (zS cd ed ds acc)
 | [],i,0,acc,acx,m,hm,a,hi,hk,b,f=>by simp at hk
 | d::ds,i,0,acc,acx,m,hm,a,hi,hk,b,f=>by simp at hk
 | [],i,k+1,acc,acx,m,hm,a,hi,hk,b,f=>by
  unfold y7 zS zE yr
  rw[hm l _ hx0]
  simp only
  rw[List.getElem?_eq_none (by simp at hi;lia)]
  by_cases z:acc.length<=lim
  .rw[if_pos z];exact ⟨acc,m,acx,rfl,z,rfl,hm,b,f⟩
  .rw[if_neg z];trivial
 | d::ds,i,k+1,acc,acx,m,hm,a,hi,hk,b,f=>by
  obtain ⟨x,r,e0,p,q⟩:=a.cons_inv
  have hx:xs0[i]?=some x:=by
   have:(xs0.drop i)[0]?=some x:=by rw[e0];rfl
   simpa using this
  have hr:r=xs0.drop (i+1):=by
   have:(xs0.drop i).drop 1=r:=by rw[e0];rfl
   rw[<- this,List.drop_drop]
  rw[hr] at q
  have hi':i+1+ds.length=xs0.length:=by simp at hi;lia
  have hk':ds.length < k:=by simp at hk;lia
  have hl:=hm.len
  have sh:∀ {n:Nat}{m':Me}{d:Dat}{w:Wd},m0.length<=n->Rep (Rf (Rf R m0.length) n) m' d w->Rep (Rf R m0.length) m' d w:=fun hn k=>Rep.frame (fun l o r z=>⟨by rcases r with (r | r) | r;exact .inl r;exact .inr r;exact .inr (by lia),z⟩) _ _ k
  unfold y7 zS zE
  rw[hm l _ hx0]
  simp only
  rw[hx]
  simp only
  have h1:=hc _ m d x (fun l z=>.inl z) hm p
  cases e1:cd d with
  | no=>trivial
  | exc k t=>rw[e1] at h1;obtain ⟨w,m',h1,l1,k1⟩:=h1;rw[h1];exact ⟨w,m',rfl,hm.trans l1,sh hl k1⟩
  | ok t =>
   rw[e1] at h1
   obtain ⟨w,m1,h1,l1,k1⟩:=h1
   rw[h1]
   simp only[Rz.bind,Rd.bind]
   cases t with
   | bl t =>
    rw[rep_bl.mp k1]
    have fr:∀ {ds:List Dat}{xs:List Wd},RepL (Rf R m0.length) m ds xs->RepL (Rf R m0.length) m1 ds xs:=fun k=>RepL.frame (fun l o r z=>⟨r,l1 l o z⟩) _ _ k
    cases t with
    | false=>exact vK hx0 hc he ds (i+1) k acc acx m1 (hm.trans l1) (fr q) hi' hk' (fr b) (f.up l1)
    | true =>
     have h2:=he _ m1 d x (fun l z=>.inl z) (hm.trans l1) (Rep.frame (fun l o r z=>⟨r,l1 l o z⟩) _ _ p)
     have hl1:=(hm.trans l1).len
     simp only
     cases e2:ed d with
     | no=>trivial
     | exc k t=>rw[e2] at h2;obtain ⟨w,m',h2,l2,k2⟩:=h2;rw[h2];exact ⟨w,m',rfl,(hm.trans l1).trans l2,sh hl1 k2⟩
     | ok y =>
      rw[e2] at h2
      have h3:=h2.sim
      obtain ⟨w,m2,B,h2,l2,k2,nd,hB⟩:=h2
      obtain ⟨w',m2',h3,_,k3⟩:=h3
      rw[h2] at h3 ⊢
      cases h3
      simp only[Rz.bind,Rd.bind,b.len]
      split
      .refine vK hx0 hc he ds (i+1) k _ _ m2 ((hm.trans l1).trans l2) (RepL.frame (fun l o r z=>⟨r,l2 l o z⟩) _ _ (fr q)) hi' hk' ((RepL.frame (fun l o r z=>⟨r,l2 l o z⟩) _ _ (fr b)).app (.cons (sh hl1 k3) .nil)) ((f.up l1).push (hm.trans l1) l2 ?_ nd hB)
       intro z
       rw[z] at k2
       exact k2
      .trivial
   | _=>trivial
theorem vL {c e:Wd->Wd->Me->Rz}{cd ed:Dat×Dat->Rd}{R:Nat->Prop}{m0:Me}{lv:Dat->Lv}{ps:List (Dat×Dat)}{g:Nat->Me->Option (Option (Wd×Wd))}(hg:zc5 (Rf R m0.length) m0 ps g)
  (hc:∀ (R':Nat->Prop) m p a b,(∀l,R l->R' l)->Le m0 m->Rep R' m p.1 a->Rep R' m p.2 b->SimE R' m (c a b m) (cd p)) (he:∀ (R':Nat->Prop) m p a b,(∀l,R l->R' l)->Le m0 m->Rep R' m p.1 a->Rep R' m p.2 b->SimO R' m lv (e a b m) (ed p)) :
  ∀ (ds:List (Dat×Dat)) (i k:Nat) (acc:List Dat) (acx:List Wd) (m:Me),Le m0 m->ds=ps.drop i->i+ds.length=ps.length->ds.length < k->RepL (Rf R m0.length) m acc acx->AccO m0 m lv acc acx->CompO R m0 lv (yU c e g k i acx m) (zS cd ed ds acc)
 | [],i,0,acc,acx,m,hm,a,hi,hk,b,f=>by simp at hk
 | d::ds,i,0,acc,acx,m,hm,a,hi,hk,b,f=>by simp at hk
 | [],i,k+1,acc,acx,m,hm,a,hi,hk,b,f=>by
  unfold yU zS yr
  rw[(hg m hm).2 i (by simp at hi;lia)]
  simp only
  by_cases z:acc.length<=lim
  .rw[if_pos z];exact ⟨acc,m,acx,rfl,z,rfl,hm,b,f⟩
  .rw[if_neg z];trivial
 | d::ds,i,k+1,acc,acx,m,hm,a,hi,hk,b,f=>by
  have hx:ps[i]?=some d:=by
   have:(ps.drop i)[0]?=some d:=by rw[<- a];rfl
   simpa using this
  have hr:ds=ps.drop (i+1):=by
   have:(ps.drop i).drop 1=ds:=by rw[<- a];rfl
   rw[<- this,List.drop_drop]
  have hi':i+1+ds.length=ps.length:=by simp at hi;lia
  have hk':ds.length < k:=by simp at hk;lia
  obtain ⟨u,v,e0,p,q⟩:=(hg m hm).1 i d hx
  have hl:=hm.len
  have sh:∀ {n:Nat}{m':Me}{d:Dat}{w:Wd},m0.length<=n->Rep (Rf (Rf R m0.length) n) m' d w->Rep (Rf R m0.length) m' d w:=fun hn k=>Rep.frame (fun l o r z=>⟨by rcases r with (r | r) | r;exact .inl r;exact .inr r;exact .inr (by lia),z⟩) _ _ k
  unfold yU zS
  rw[e0]
  simp only
  have h1:=hc _ m d u v (fun l z=>.inl z) hm p q
  cases e1:cd d with
  | no=>trivial
  | exc k t=>rw[e1] at h1;obtain ⟨w,m',h1,l1,k1⟩:=h1;rw[h1];exact ⟨w,m',rfl,hm.trans l1,sh hl k1⟩
  | ok t =>
   rw[e1] at h1
   obtain ⟨w,m1,h1,l1,k1⟩:=h1
   rw[h1]
   simp only[Rz.bind,Rd.bind]
   cases t with
   | bl t =>
    rw[rep_bl.mp k1]
    have fr:∀ {ds:List Dat}{xs:List Wd},RepL (Rf R m0.length) m ds xs->RepL (Rf R m0.length) m1 ds xs:=fun k=>RepL.frame (fun l o r z=>⟨r,l1 l o z⟩) _ _ k
    cases t with
    | false=>exact vL hg hc he ds (i+1) k acc acx m1 (hm.trans l1) hr hi' hk' (fr b) (f.up l1)
    | true =>
     have h2:=he _ m1 d u v (fun l z=>.inl z) (hm.trans l1) (Rep.frame (fun l o r z=>⟨r,l1 l o z⟩) _ _ p) (Rep.frame (fun l o r z=>⟨r,l1 l o z⟩) _ _ q)
     have hl1:=(hm.trans l1).len
     simp only
     cases e2:ed d with
     | no=>trivial
     | exc k t=>rw[e2] at h2;obtain ⟨w,m',h2,l2,k2⟩:=h2;rw[h2];exact ⟨w,m',rfl,(hm.trans l1).trans l2,sh hl1 k2⟩
     | ok y =>
      rw[e2] at h2
      have h3:=h2.sim
      obtain ⟨w,m2,B,h2,l2,k2,nd,hB⟩:=h2
      obtain ⟨w',m2',h3,_,k3⟩:=h3
      rw[h2] at h3 ⊢
      cases h3
      simp only[Rz.bind,Rd.bind,b.len]
      split
      .refine vL hg hc he ds (i+1) k _ _ m2 ((hm.trans l1).trans l2) hr hi' hk' ((RepL.frame (fun l o r z=>⟨r,l2 l o z⟩) _ _ (fr b)).app (.cons (sh hl1 k3) .nil)) ((f.up l1).push (hm.trans l1) l2 ?_ nd hB)
       intro z
       rw[z] at k2
       exact k2
      .trivial
   | _=>trivial
theorem CompO.sim {R:Nat->Prop}{m:Me}{lv lw:Dat->Lv}{r:Rz}{rd:Rd}(h:CompO R m lv r rd)(hl:∀ds,lw (.lst ds)=if ds.all (fun x=>lv x == .full) then .full else .top):SimO R m lw r rd:=by
 cases rd with
 | no=>trivial
 | exc c d=>exact h
 | ok d =>
  obtain ⟨out,m2,outx,rfl,hlen,rfl,l2,k2,own⟩:=h
  have e:=k2.len
  cases z:out.all (fun x=>lv x == .full) with
  | true =>
   obtain ⟨A,a,b,c⟩:=own fun y hy=>by simpa using List.all_eq_true.mp z y hy
   have:=ziz (R:=R) (lv:=lw) l2 a b c (by rw[hl,z];rfl) e
   unfold yr at this
   rw[if_pos hlen] at this
   exact this
  | false =>
   unfold alloc
   rw[<- e,if_pos hlen]
   have ll:=l2.len
   refine ⟨_,_,[m2.length],rfl,l2.trans (Le.app m2 _),?_,by simp,by simp;exact ll⟩
   rw[hl,z]
   refine ⟨out,_,outx,rfl,rfl,rfl,by simp,RepL.frame (fun l o r z=>⟨⟨r,?_⟩,Le.app m2 _ l o z⟩) out outx k2⟩
   have:=(List.getElem?_eq_some_iff.mp z).1
   simp;lia
theorem xl (lev:Nat->Lv):∀ (e:Ex) (d:Dat),flat d=true->lvE lev e d=.full
 | .tup a,d,h=>xl lev a d h
 | .comp _ _ _,d,h=>if_pos h
 | .compP _ _ _ _ _,d,h=>if_pos h
 | .lst _,d,h=>if_pos h
 | .pair _ _,d,h=>if_pos h
 | .call _ _,d,h=>if_pos h
 | .blt b _,d,h=>by cases b <;> exact if_pos h
 | .slL _ _,d,h=>if_pos h
 | .lrng _,d,h=>if_pos h
 | .slH _ _,d,h=>if_pos h
 | .slB _ _ _,d,h=>if_pos h
 | .bin _ _ _,d,h=>if_pos h
 | .var _,d,h=>if_pos h
 | .lit _,d,h=>if_pos h
 | .neg _,d,h=>if_pos h
 | .not _,d,h=>if_pos h
 | .and _ _,d,h=>if_pos h
 | .or _ _,d,h=>if_pos h
 | .cmp _ _ _,d,h=>if_pos h
 | .chain _ _ _ _ _,d,h=>if_pos h
 | .ife _ _ _,d,h=>if_pos h
 | .unit,d,h=>if_pos h
 | .isi _ _,d,h=>if_pos h
 | .dict0,d,h=>if_pos h
 | .idx _ _,d,h=>if_pos h
 | .meth _ _ _,d,h=>if_pos h
 | .rng _ _ _,d,h=>if_pos h
theorem SimO.newTop {R:Nat->Prop}{m0 m:Me}{ds:List Dat}{xs:List Wd}{lv:Dat->Lv}(hm:Le m0 m)(h:RepL (Rf R m0.length) m ds xs)(hl:lv (.lst ds)=.top):SimO R m0 lv (alloc m xs) (yr ds):=by
 unfold yr alloc
 rw[h.len]
 by_cases z:xs.length<=lim
 .rw[if_pos z,if_pos z]
  refine ⟨_,_,[m.length],rfl,hm.trans (Le.app m _),?_,by simp,by simp;exact hm.len⟩
  rw[hl]
  refine ⟨ds,_,xs,rfl,rfl,rfl,by simp,RepL.frame (fun l o r z=>⟨⟨r,?_⟩,Le.app m _ l o z⟩) ds xs h⟩
  have:=(List.getElem?_eq_some_iff.mp z).1
  simp;lia
 .rw[if_neg z,if_neg z];exact SimO.no
theorem zeA {R:Nat->Prop}{m:Me}{d e:Dat}{x y:Wd}{lv:Dat->Lv}(op:Bo)(hl:∀d,lv d=if flat d then .full else match d with | .lst ds=>if flatL ds then .full else .top | _=>.no)(a:Rep R m d x)(b:Rep R m e y):SimO R m lv (bop op x y m) (zC op d e):=by
 have hn:∀es,lv (.lst es)=if flatL es then .full else .top:=fun es=>by rw[hl];simp[flat]
 have hs:=zaD op a b
 cases d with
 | lst ds =>
  obtain ⟨l,xs,rfl,_,hm,a1⟩:=rep_lst.mp a
  cases e with
  | lst es =>
   obtain ⟨l',ys,rfl,_,hk,b1⟩:=rep_lst.mp b
   cases op <;> first | exact SimO.no | skip
   simp only[bop,zC,hm,hk]
   exact SimO.new (a1.app b1) hn
  | int k =>
   rw[rep_int.mp b]
   cases op <;> first | exact SimO.no | skip
   simp only[bop,zC,hm]
   by_cases z:-(lim:Int)<=k/\k<=(lim:Int)
   .rw[if_pos z,if_pos z];exact SimO.new (a1.rep _) hn
   .rw[if_neg z,if_neg z];exact SimO.no
  | _=>exact SimO.no
 | int i =>
  cases e with
  | int j =>
   have hi:∀r:Rd,SimE R m (bop op x y m) r->(∀d,r=.ok d->flat d=true)->SimO R m lv (bop op x y m) r:=by
    intro r h f
    cases r with
    | ok d =>
     obtain ⟨w,m',h,l,k⟩:=h
     refine ⟨w,m',[],h,l,?_,List.nodup_nil,by simp⟩
     rw[hl,if_pos (f d rfl)]
     exact k.flat d w (f d rfl)
    | exc c d=>exact h
    | no=>trivial
   refine hi _ hs fun d h=>?_
   cases op <;> simp only[zC] at h
   .cases h;rfl
   .cases h;rfl
   all_goals (split at h <;> (cases h;try rfl))
  | _=>exact SimO.no
 | tup ds =>
  obtain ⟨xs,rfl,a1⟩:=rep_tup.mp a
  cases e with
  | tup es =>
   obtain ⟨ys,rfl,b1⟩:=rep_tup.mp b
   cases op <;> first | exact SimO.no | skip
   simp only[zC] at hs ⊢
   split at hs
   .next z =>
    rw[if_pos z]
    obtain ⟨w,m',h,l,k⟩:=hs
    refine ⟨w,m',[],h,l,?_,List.nodup_nil,by simp⟩
    rw[hl]
    split
    .next f=>exact k.flat _ w f
    .exact ⟨Rep.frame (fun l o r z=>⟨⟨r,by simp⟩,z⟩) _ w k,rfl⟩
   .next z=>rw[if_neg z];exact SimO.no
  | _=>exact SimO.no
 | _=>exact SimO.no
set_option tactic.hygienic true in
theorem xB {lev:Nat->Lv}{cl:Nat->List Wd->Me->Rz}{cd:Nat->List Dat->Rd}(H:CallO lev cl cd):∀ (e:Ex) (R:Nat->Prop) (m:Me) (de:DEn) (env:En),EnvR R m (zm e) de env->SimO R m (lvE lev e) (evE cl e env m) (evD cd e de)
 | .call k a,R,m,de,env,q=>by
  have e:lvE lev (.call k a)=wf lev k:=by funext d;simp[wf]
  rw[e]
  refine (zf H.r a R m de env q).bindO fun d w m1 l1 k1=>?_
  exact H k _ _ _ m1 (yE k1)
 | .bin op a b,R,m,de,env,q=>by
  refine (zf H.r a R m de env q.left).bindO fun d w m1 l1 k1=>?_
  refine (zf H.r b _ m1 de env (q.right.up (fun _=>.inl) l1)).bindO fun d2 w2 m2 l2 k2=>?_
  exact zeA op (fun d=>by cases d <;> rfl) (k1.up _ l2) k2
 | .lrng a,R,m,de,env,q=>by
  refine (zf H.r a R m de env q).bindO fun d w m1 l1 k1=>?_
  cases d with
  | int j =>
   rw[rep_int.mp k1]
   simp only
   split
   .exact SimO.new (vf 1 _ 0) (fun es=>by simp[flat])
   .exact SimO.no
  | _=>exact SimO.no
 | .slL a b,R,m,de,env,q=>by
  refine (zf H.r a R m de env q.left).bindO fun d w m1 l1 k1=>?_
  refine (zf H.r b _ m1 de env (q.right.up (fun _=>.inl) l1)).bindO fun d2 w2 m2 l2 k2=>?_
  cases d2 with
  | int i =>
   rw[rep_int.mp k2]
   simp only[slD,slR]
   cases z:lsD d with
   | none=>exact SimO.no
   | some ds =>
    obtain ⟨xs,h,q⟩:=qQ (k1.up m1.length l2) z
    simp only[h,q.len]
    exact SimO.new ((q.drop _).take _) (fun es=>by simp[flat])
  | _=>exact SimO.no
 | .slH _ _,R,m,de,env,q=>SimO.no
 | .slB _ _ _,R,m,de,env,q=>SimO.no
 | .blt b a,R,m,de,env,q=>by
  by_cases hb:b=.list
  .subst hb
   refine (zf H.r a R m de env q).bindO fun d w m1 l1 k1=>?_
   have k2:=yE k1
   simp only[yT]
   split
   .next x hx =>
    rw[hx] at k2
    obtain ⟨x',r,e0,p,q0⟩:=k2.cons_inv
    rw[e0,q0.nil_inv]
    split
    .next z=>obtain ⟨ys,h,q⟩:=xT p z;simp only[wD,h];exact SimO.new q (fun es=>by simp[flat])
    .exact SimO.no
   .exact SimO.no
  .exact (zf H.r (.blt b a) R m de env q).own fun d=>by cases b <;> first | exact absurd rfl hb | rfl
 | .lst a,R,m,de,env,q=>by
  have ih:=xB H a R m de env q
  show SimO R m _ ((evE cl a env m).bind fun x m1=>alloc m1 (zp x)) ((evD cd a de).bind fun x=>yr (zO x))
  cases ea:evD cd a de with
  | no=>trivial
  | exc c d=>rw[ea] at ih;obtain ⟨w,m',h,l,k⟩:=ih;rw[h];exact ⟨w,m',rfl,l,k⟩
  | ok d =>
   rw[ea] at ih
   have hs:=ih.sim
   obtain ⟨w,m1,A,h,l,k,nd,hA⟩:=ih
   obtain ⟨w',m1',h',_,ks⟩:=hs
   rw[h] at h';cases h'
   rw[h]
   simp only[Rz.bind,Rd.bind]
   have ka:=yE ks
   cases z:lvE lev a (.tup (zO d)) == .full with
   | false=>exact SimO.newTop l ka (by simp[flat,z])
   | true =>
    have z':lvE lev a (.tup (zO d))=.full:=by simpa using z
    have own:∃B,OwnL m1 (zO d) (zp w) B/\B.Nodup/\∀b∈B,m.length<=b:=by
     cases d with
     | tup ds =>
      rw[show lvE lev a (.tup ds)=.full from z'] at k
      obtain ⟨xs,rfl,k1⟩:=own_tup.mp k
      exact ⟨A,k1,nd,hA⟩
     | _=>refine ⟨[],?_,List.nodup_nil,by simp⟩;exact ka.flat _ _ rfl
    obtain ⟨B,o,nb,hB⟩:=own
    exact ziz l o nb hB (by simp[flat,z]) ka.len
 | .tup a,R,m,de,env,q=>by
  have ih:=xB H a R m de env q
  have el:lvE lev (.tup a)=lvE lev a:=by funext d;simp
  rw[el]
  show SimO R m _ ((evE cl a env m).bind fun x m1=>if (zp x).length<=lim then .ok (.tup (zp x)) m1 else .no) ((evD cd a de).bind fun x=>if (zO x).length<=lim then .ok (.tup (zO x)) else .no)
  cases ea:evD cd a de with
  | no=>trivial
  | exc c d=>rw[ea] at ih;obtain ⟨w,m',h,l,k⟩:=ih;rw[h];exact ⟨w,m',rfl,l,k⟩
  | ok d =>
   rw[ea] at ih
   have hs:=ih.sim
   obtain ⟨w,m1,A,h,l,k,nd,hA⟩:=ih
   obtain ⟨w',m1',h',_,ks⟩:=hs
   rw[h] at h';cases h'
   rw[h]
   have ka:=yE ks
   simp only[Rz.bind,Rd.bind,ka.len]
   split
   .cases d with
    | tup ds =>
     obtain ⟨xs,rfl,_⟩:=rep_tup.mp ks
     exact ⟨_,m1,A,rfl,l,k,nd,hA⟩
    | _ =>
     refine ⟨_,m1,[],rfl,l,?_,List.nodup_nil,by simp⟩
     rw[xl lev a _ (by rfl)]
     exact own_tup.mpr ⟨_,rfl,ka.flat _ _ rfl⟩
   .trivial
 | .pair a b,R,m,de,env,q=>by
  have iha:=xB H a R m de env q.left
  show SimO R m _ ((evE cl a env m).bind fun x m1=>(evE cl b env m1).bind fun y m2=>.ok (.tup (x::zp y)) m2) ((evD cd a de).bind fun x=>(evD cd b de).bind fun y=>.ok (.tup (x::zO y)))
  cases ea:evD cd a de with
  | no=>trivial
  | exc c d=>rw[ea] at iha;obtain ⟨w,m',h,l,k⟩:=iha;rw[h];exact ⟨w,m',rfl,l,k⟩
  | ok d =>
   rw[ea] at iha
   have hs:=iha.sim
   obtain ⟨w,m1,A,h,l,k,nd,hA⟩:=iha
   obtain ⟨w',m1',h',_,ks⟩:=hs
   rw[h] at h';cases h'
   rw[h]
   simp only[Rz.bind,Rd.bind]
   have ihb:=xB H b _ m1 de env (q.right.up (R':=Rf R m.length) (fun _=>.inl) l)
   cases eb:evD cd b de with
   | no=>trivial
   | exc c d=>rw[eb] at ihb;obtain ⟨w,m',h,l2,k⟩:=ihb;rw[h];exact SimE.lift (rd:=.exc c d) l ⟨w,m',rfl,l2,k⟩
   | ok d2 =>
    rw[eb] at ihb
    have hs2:=ihb.sim
    obtain ⟨w2,m2,A2,h2,l2,k2,nd2,hA2⟩:=ihb
    obtain ⟨w2',m2',h2',_,ks2⟩:=hs2
    rw[h2] at h2';cases h2'
    rw[h2]
    simp only
    have ka:=yE ks2
    have hl1:=l.len
    cases z:(lvE lev a d == .full && lvE lev b (.tup (zO d2)) == .full) with
    | false =>
     have:SimE R m (.ok (.tup (w::zp w2)) m2) (.ok (.tup (d::zO d2))) :=
      SimE.lift l (SimE.lift l2 (ziF (rep_tup.mpr ⟨_,rfl,.cons (ks.up _ l2) ka⟩)))
     obtain ⟨w3,m3,h3,l3,k3⟩:=this
     refine ⟨w3,m3,[],h3,l3,?_,List.nodup_nil,by simp⟩
     by_cases f:flat (.tup (d::zO d2))=true
     .rw[xl lev _ _ f];exact k3.flat _ w3 f
     .have:lvE lev (.pair a b) (.tup (d::zO d2))=.no:=by
       rw[zaG,if_neg f];simp only[z];rfl
      rw[this]
      exact ⟨Rep.frame (fun l o r z=>⟨⟨r,by simp⟩,z⟩) _ w3 k3,rfl⟩
    | true =>
     rw[Bool.and_eq_true] at z
     have z1:lvE lev a d=.full:=by simpa using z.1
     have z2:lvE lev b (.tup (zO d2))=.full:=by simpa using z.2
     rw[z1] at k
     have own:∃B,OwnL m2 (zO d2) (zp w2) B/\B.Nodup/\∀b∈B,m1.length<=b:=by
      cases d2 with
      | tup ds =>
       rw[show lvE lev b (.tup ds)=.full from z2] at k2
       obtain ⟨xs,rfl,k3⟩:=own_tup.mp k2
       exact ⟨A2,k3,nd2,hA2⟩
      | _=>refine ⟨[],?_,List.nodup_nil,by simp⟩;exact ka.flat _ _ rfl
     obtain ⟨B,o,nb,hB⟩:=own
     refine ⟨_,m2,A++B,rfl,l.trans l2,?_,?_,?_⟩
     .have:lvE lev (.pair a b) (.tup (d::zO d2))=.full:=by
       rw[zaG];simp only[z1,z2];simp
      rw[this]
      exact own_tup.mpr ⟨_,rfl,.cons (Own.frame d w A (fun x _ o q=>l2 x o q) k) o⟩
     .refine List.nodup_append.mpr ⟨nd,nb,fun x hx y hy e=>?_⟩
      have:=Own.lt d w A k x hx
      have:=hB y hy
      lia
     .intro x hx
      rcases List.mem_append.mp hx with hx | hx
      .exact hA x hx
      .have:=hB x hx;lia
 | .comp elt it cond,R,m,de,env,q=>by
  refine (zf H.r it R m de env q.left).bindO fun d w m1 l1 k1=>?_
  have hc:∀ (R':Nat->Prop) m' d x,(∀l,Rf R m.length l->R' l)->Le m1 m'->Rep R' m' d x->SimE R' m' (evE cl cond (env++[some x]) m') (evD cd cond (de++[some d])) :=
   fun R' m' d x hR l k=>zf H.r cond R' m' _ _ ((q.right.right.up (fun l h=>hR l (.inl h)) (l1.trans l)).push k)
  have he:∀ (R':Nat->Prop) m' d x,(∀l,Rf R m.length l->R' l)->Le m1 m'->Rep R' m' d x->SimO R' m' (lvE lev elt) (evE cl elt (env++[some x]) m') (evD cd elt (de++[some d])) :=
   fun R' m' d x hR l k=>xB H elt R' m' _ _ ((q.right.left.up (fun l h=>hR l (.inl h)) (l1.trans l)).push k)
  have hl:∀ds,lvE lev (.comp elt it cond) (.lst ds)=if ds.all (fun x=>lvE lev elt x == .full) then .full else .top:=fun ds=>by simp[flat]
  have acc0:AccO m1 m1 (lvE lev elt) [] []:=fun _=>⟨[],.nil,List.nodup_nil,by simp⟩
  cases d with
  | tup ds =>
   obtain ⟨xs,rfl,k2⟩:=rep_tup.mp k1
   exact (wA hc he ds xs [] [] m1 (Le.refl _) (k2.up _ (Le.refl _)) .nil acc0).sim hl
  | scr ns =>
   rw[rep_scr.mp k1]
   exact (wA hc he (ns.map .int) (ns.map .int) [] [] m1 (Le.refl _) (ziD ns) .nil acc0).sim hl
  | lst ds =>
   obtain ⟨l,xs,rfl,_,hm,k2⟩:=rep_lst.mp k1
   simp only[itD]
   by_cases z:ds.length<=lim
   .rw[if_pos z]
    have hl':=k2.len
    exact (vK hm hc he ds 0 (lim+1) [] [] m1 (Le.refl _) (by simpa using (k2.up _ (Le.refl _))) (by lia) (by lia) .nil acc0).sim hl
   .rw[if_neg z];exact SimO.no
  | _=>exact SimO.no
 | .compP k elt a b cond,R,m,de,env,q=>by
  refine (zf H.r a R m de env q.left).bindO fun d w m1 l1 k1=>?_
  refine (zf H.r b _ m1 de env (q.right.left.up (fun l h=>.inl h) l1)).bindO fun d' w' m2 l2 k2=>?_
  have hc:∀ (R':Nat->Prop) m' (p:Dat×Dat) x y,(∀l,Rf (Rf R m.length) m1.length l->R' l)->Le m2 m'->Rep R' m' p.1 x->Rep R' m' p.2 y->SimE R' m' (evE cl cond (env++[some x]++[some y]) m') (evD cd cond (de++[some p.1]++[some p.2])) :=
   fun R' m' d x y hR l k k'=>zf H.r cond R' m' _ _ (((q.right.right.right.up (fun l h=>hR l (.inl (.inl h))) ((l1.trans l2).trans l)).push k).push k')
  have he:∀ (R':Nat->Prop) m' (p:Dat×Dat) x y,(∀l,Rf (Rf R m.length) m1.length l->R' l)->Le m2 m'->Rep R' m' p.1 x->Rep R' m' p.2 y->SimO R' m' (lvE lev elt) (evE cl elt (env++[some x]++[some y]) m') (evD cd elt (de++[some p.1]++[some p.2])) :=
   fun R' m' d x y hR l k k'=>xB H elt R' m' _ _ (((q.right.right.left.up (fun l h=>hR l (.inl (.inl h))) ((l1.trans l2).trans l)).push k).push k')
  have hl:∀ds,lvE lev (.compP k elt a b cond) (.lst ds)=if ds.all (fun x=>lvE lev elt x == .full) then .full else .top:=fun ds=>by simp[flat]
  have acc0:AccO m2 m2 (lvE lev elt) [] []:=fun _=>⟨[],.nil,List.nodup_nil,by simp⟩
  cases e:xA k d d' with
  | none=>exact SimO.no
  | some ps =>
   obtain ⟨pr,hln⟩:=jG e ((k1.up _ l2).up m2.length (Le.refl _)) (k2.up m2.length (Le.refl _))
   exact (vL pr hc he ps 0 (lim+1) [] [] m2 (Le.refl _) (by simp) (by simp) (by lia) .nil acc0).sim hl
 | .var i,R,m,de,env,q=>(zf H.r _ R m de env q).own fun d=>rfl
 | .lit w,R,m,de,env,q=>(zf H.r _ R m de env q).own fun d=>rfl
 | .neg a,R,m,de,env,q=>(zf H.r _ R m de env q).own fun d=>rfl
 | .not a,R,m,de,env,q=>(zf H.r _ R m de env q).own fun d=>rfl
 | .and a b,R,m,de,env,q=>(zf H.r _ R m de env q).own fun d=>rfl
 | .or a b,R,m,de,env,q=>(zf H.r _ R m de env q).own fun d=>rfl
 | .cmp op a b,R,m,de,env,q=>(zf H.r _ R m de env q).own fun d=>rfl
 | .chain o p a b c,R,m,de,env,q=>(zf H.r _ R m de env q).own fun d=>rfl
 | .ife c a b,R,m,de,env,q=>(zf H.r _ R m de env q).own fun d=>rfl
 | .unit,R,m,de,env,q=>(zf H.r _ R m de env q).own fun d=>rfl
 | .isi t a,R,m,de,env,q=>(zf H.r _ R m de env q).own fun d=>rfl
 | .dict0,R,m,de,env,q=>(zf H.r _ R m de env q).own fun d=>rfl
 | .idx a b,R,m,de,env,q=>(zf H.r _ R m de env q).own fun d=>rfl
 | .meth _ _ _,R,m,de,env,q=>(zf H.r _ R m de env q).own fun d=>rfl
 | .rng a b c,R,m,de,env,q=>(zf H.r _ R m de env q).own fun d=>rfl
set_option genInjectivity false in
inductive Rsd where
 | next (de:DEn) (lv:List Lv) | ret (d:Dat) (l:Lv) | brk (de:DEn) (lv:List Lv) | cont (de:DEn) (lv:List Lv) | exc (c:Nat) (d:Dat) | no
deriving Inhabited
noncomputable def Rd.bindS (r:Rd)(f:Dat->Rsd):Rsd:=match r with
 | .ok d=>f d
 | .exc c d=>.exc c d
 | .no=>.no
noncomputable def Rd.okS (r:Rd)(f:Dat->Rsd):Rsd:=match r with
 | .ok d=>f d
 | _=>.no
noncomputable def downs:List Nat->List Lv->List Lv
 | [],lv=>lv
 | i::vs,lv=>downs vs (lv.set i .no)
noncomputable def topD (de:DEn)(j:Nat)(lv:List Lv):List Lv:=match de[j]?,lv[j]? with
 | some (some (.lst _)),some .full=>lv.set j .top
 | some (some (.lst _)),some .top=>lv.set j .top
 | _,_=>lv.set j .no
noncomputable def xC (e:Ex)(de:DEn)(lv:List Lv):List Lv:=match e with
 | .idx (.var j) b=>topD de j (downs (zm b) lv)
 | e=>downs (zm e) lv
mutual
noncomputable def dep:Dat->Nat
 | .lst xs=>depL xs+1
 | .tup xs=>depL xs+1
 | .non=>0
 | .bl _=>0
 | .int _=>0
 | .str _=>0
 | .scr _=>0
noncomputable def depL:List Dat->Nat
 | []=>0
 | d::ds=>max (dep d) (depL ds)
end
noncomputable def zP (lv:List Lv)(j:Nat):Bool:=match lv[j]? with
 | some .top=>true
 | some .full=>true
 | _=>false
noncomputable def xo (lev:Nat->Lv)(e:Ex)(d:Dat)(j:Nat)(de:DEn)(lv:List Lv):Option (DEn×List Lv) :=
 if zP lv j=false then none
 else if lvE lev e d=.full then some (de,lv)
 else if j∈zm e then none
 else match e with
  | .var i=>if lv[i]?=some .full/\lv[j]?=some .full then some (de.set i none,lv) else some (de,(downs [i] lv).set j .top)
  | e=>some (de,(xC e de lv).set j .top)
noncomputable def yj {α:Type}(body:α->DEn->List Lv->Rsd):List α->DEn->List Lv->Rsd
 | [],de,lv=>.next de lv
 | x::xs,de,lv=>match body x de lv with
  | .next d1 l1=>yj body xs d1 l1
  | .cont d1 l1=>yj body xs d1 l1
  | .brk d1 l1=>.next d1 l1
  | r=>r
noncomputable def lvF (d:Dat):Lv:=if flat d then .full else .no
noncomputable def lvR (lev:Nat->Lv)(e:Ex)(d:Dat)(lv:List Lv):Lv:=if flat d then .full else match e with
 | .var i=>(lv[i]?).getD .no
 | .tup (.pair (.var a) (.pair (.var b) .unit))=>if a≠b/\lv[a]?=some .full/\lv[b]?=some .full then .full else .no
 | e=>lvE lev e d
noncomputable def xD (de:DEn)(j:Nat):Option (List Dat):=match de[j]? with
 | some (some (.lst ds))=>some ds
 | _=>none
noncomputable def vg (lev:Nat->Lv)(i:Nat)(e:Ex)(d:Dat)(de:DEn)(lv:List Lv):Rsd :=
 if lvE lev e d=.full then .next (de.set i (some d)) (lv.set i .full) else .next (de.set i (some d)) ((xC e de lv).set i (lvE lev e d))
noncomputable def zc6 (lev:Nat->Lv)(j:Nat)(k:Dat)(e:Ex)(d:Dat)(de:DEn)(lv:List Lv):Rsd:=match k,xD de j with
 | .int k,some ds=>match ix ds.length k with
  | some p=>match xo lev e d j de lv with
   | some (de1,lv1)=>.next (de1.set j (some (.lst (ds.set p d)))) lv1
   | none=>if zP lv j && decide (dep d < dep (.lst ds)) && (flat d == false) then .next (de.set j (some (.lst (ds.set p d)))) ((downs (zm e) lv).set j .top) else .no
  | none=>.no
 | _,_=>.no
noncomputable def vM (j:Nat)(r:Dat)(de:DEn)(lv:List Lv)(f:List Dat->Option (List Dat)):Option DEn:=match r,xD de j with
 | .int k,some ds=>match (ix ds.length k).bind fun p=>(ds[p]?).bind fun d=>match d with
   | .lst es=>(f es).map fun es1=>ds.set p (.lst es1)
   | _=>none with
  | some ds1=>if lv[j]?=some .full then some (de.set j (some (.lst ds1))) else none
  | none=>none
 | _,_=>none
noncomputable def toS (o:Option DEn)(lv:List Lv):Rsd:=match o with
 | some de=>.next de lv
 | none=>.no
noncomputable def vX (k d:Dat)(es:List Dat):Option (List Dat):=match k with
 | .int k=>(ix es.length k).map fun p=>es.set p d
 | _=>none
noncomputable def zI (s t:Sm):Option (Nat×Nat×Ex×Ex×Ex×Ex×Ex):=match t with
 | .swapS (.var i1) p (.var i2) q (.idx (.var i3) c) (.idx (.var i4) d)=>match s with
  | .asg i (.idx (.var j) r)=>if i1=i/\i2=i/\i3=i/\i4=i/\i≠j then some (i,j,r,p,q,c,d) else none
  | _=>none
 | _=>none
noncomputable def g6 (p q c d:Dat)(es:List Dat):Option (List Dat):=match p,q,c,d with
 | .int p,.int q,.int c,.int d=>match ix es.length p,ix es.length q,(ix es.length c).bind fun k=>es[k]?,(ix es.length d).bind fun k=>es[k]? with
  | some p,some q,some x,some y=>if flat x && flat y then some ((es.set p x).set q y) else none
  | _,_,_,_=>none
 | _,_,_,_=>none
noncomputable def swD (cl:Nat->List Dat->Rd)(t:Nat×Nat×Ex×Ex×Ex×Ex×Ex)(de:DEn)(lv:List Lv):Rsd:=match t with
 | (i,j,r,p,q,c,d)=>(evD cl r de).okS fun rv=>(evD cl (.idx (.var j) r) de).okS fun row =>
    (evD cl c (de.set i (some row))).okS fun c=>(evD cl d (de.set i (some row))).okS fun d=>(evD cl p (de.set i (some row))).okS fun p=>(evD cl q ((de.set j none).set i none)).okS fun q =>
     if i < de.length then toS ((vM j rv de lv (g6 p q c d)).map fun de1=>de1.set i none) (lv.set i .full) else .no
noncomputable def g7 (cl:Nat->List Dat->Rd)(o i p k a b:Ex)(de:DEn)(lv:List Lv):Rsd:=match o,p,a,b with
  | .var j,.var j2,.idx (.var j3) a,.idx (.var j4) b=>if j=j2/\j=j3/\j=j4/\zP lv j=true then
    (evD cl a de).okS fun a=>(evD cl b de).okS fun b=>(evD cl i de).okS fun i=>(evD cl k (de.set j none)).okS fun k=>match xD de j,i,k,a,b with
     | some ds,.int i,.int k,.int a,.int b=>match ix ds.length i,ix ds.length k,(ix ds.length a).bind fun p=>ds[p]?,(ix ds.length b).bind fun p=>ds[p]? with
      | some p,some q,some x,some y=>.next (de.set j (some (.lst ((ds.set p x).set q y)))) (lv.set j .top)
      | _,_,_,_=>.no
     | _,_,_,_,_=>.no
    else .no
  | _,_,_,_=>.no
noncomputable def zhu (lev:Nat->Lv)(cl:Nat->List Dat->Rd)(e:Ex)(de:DEn)(lv:List Lv):Rsd:=match e with
  | .meth .append (.var j) (.pair e .unit)=>(evD cl e de).okS fun d=>match xD de j with
   | some ds=>if ds.length < lim then match xo lev e d j de lv with
    | some (de1,lv1)=>.next (de1.set j (some (.lst (ds++[d])))) lv1
    | none=>.no
    else .no
   | none=>.no
  | .meth .reverse (.var j) .unit=>match xD de j with
   | some ds=>if zP lv j then .next (de.set j (some (.lst ds.reverse))) lv else .no
   | none=>.no
  | .meth _ _ _=>.no
  | e=>(evD cl e de).bindS fun _=>.next de lv
noncomputable def exD (lev:Nat->Lv)(cl:Nat->List Dat->Rd):Sm->DEn->List Lv->Rsd
 | .skip,de,lv=>.next de lv
 | .seq a b,de,lv=>match zI a b with
  | some t=>swD cl t de lv
  | none=>match exD lev cl a de lv with
   | .next d1 l1=>exD lev cl b d1 l1
   | r=>r
 | .asg i e,de,lv=>(evD cl e de).bindS fun d=>vg lev i e d de lv
 | .asgS o k e,de,lv=>match o with
  | .var j=>(evD cl e de).okS fun d=>(evD cl k de).okS fun k=>zc6 lev j k e d de lv
  | .idx (.var j) r=>(evD cl e de).okS fun d=>(evD cl r de).okS fun r=>(evD cl k de).okS fun k =>
    if lvE lev e d=.full then toS (vM j r de lv (vX k d)) lv
    else if j∈zm e then .no else toS (vM j r de lv (vX k d)) ((xC e de lv).set j .top)
  | _=>.no
 | .swapS o i p k a b,de,lv=>g7 cl o i p k a b de lv
 | .aug _ _ _,_,_=>.no
 | .augS _ _ _ _,_,_=>.no
 | .ite c a b,de,lv=>(evD cl c de).bindS fun x=>match x with
  | .bl true=>exD lev cl a de lv
  | .bl false=>exD lev cl b de lv
  | _=>.no
 | .forv i it body,de,lv=>(evD cl it de).bindS fun d=>match itD d with
  | some xs=>yj (fun x de lv=>exD lev cl body (de.set i (some x)) (lv.set i (lvF x))) xs de (if flat d then lv else xC it de lv)
  | none=>.no
 | .fort _ _ _ _,_,_=>.no
 | .while _ _,_,_=>.no
 | .ret e,de,lv=>(evD cl e de).bindS fun d=>.ret d (lvR lev e d lv)
 | .retN,_,_=>.no
 | .expr e,de,lv=>zhu lev cl e de lv
 | .forA _ _ _,_,_=>.no
 | .forZ _ _ _ _ _,_,_=>.no
 | .forS _ _ _ _,_,_=>.no
 | .forC _ _,_,_=>.no
 | .appPop _ _ _ _,_,_=>.no
 | .forE _ _ _ _,_,_=>.no
 | .swapI _ _ _ _ _,_,_=>.no
 | .popV _ _,_,_=>.no
 | .popI _ _ _ _,_,_=>.no
 | .unp3 _ _ _ _,_,_=>.no
 | .brk,_,_=>.no
 | .cont,_,_=>.no
 | .never,_,_=>.no
theorem kj {lev:Nat->Lv}{cl:Nat->List Dat->Rd}{a b:Sm}{de:DEn}{lv:List Lv}:exD lev cl (.seq a b) de lv=match zI a b with
  | some t=>swD cl t de lv
  | none=>match exD lev cl a de lv with
   | .next d1 l1=>exD lev cl b d1 l1
   | r=>r:=rfl
noncomputable def zT (fn:Fn)(ds:List Dat):DEn:=ds.map some++List.replicate (fn.sz - ds.length) none
noncomputable def zY (fn:Fn)(ds:List Dat):List Lv:=ds.map lvF++List.replicate (fn.sz - ds.length) .full
noncomputable def zbv:Lv->Lv->Bool
 | _,.no=>true
 | .full,.full=>true
 | .top,.top=>true
 | _,_=>false
noncomputable def zJ (l:Lv):Rsd->Rd
 | .next _ _=>.ok .non
 | .ret d k=>if flat d || zbv k l then .ok d else .no
 | .exc c d=>.exc c d
 | _=>.no
noncomputable def zH (lev:Nat->Lv)(cl:Nat->List Dat->Rd)(k:Nat)(fn:Fn)(ds:List Dat):Rd :=
 if ds.length=fn.ar then zJ (lev k) (exD lev cl fn.body (zT fn ds) (zY fn ds)) else .no
noncomputable def k7 (lev:Nat->Lv)(T:List Fn):Nat->Nat->List Dat->Rd
 | 0,_,_=>.no
 | d+1,k,ds=>match T[k]? with
  | some fn=>zH lev (k7 lev T d) k fn ds
  | none=>.no
def yK (RR:Nat->Prop)(A:Nat->List Nat):Nat->Prop:=fun l=>RR l/\∀i,l∉A i
structure Inv (lo:Nat)(RR:Nat->Prop)(m:Me)(de:DEn)(lv:List Lv)(env:En)(A:Nat->List Nat):Prop where
 len:de.length=env.length
 lvl:lv.length=de.length
 rr:∀l,lo<=l->RR l
 lom:lo<=m.length
 slot:∀i d l,de[i]?=some (some d)->lv[i]?=some l->∃w,env[i]?=some (some w)/\RepO (yK RR A) m l d w (A i)
 nd:∀i,(A i).Nodup
 dj:∀i j a,a∈A i->a∈A j->i=j
 bd:∀i a,a∈A i->lo<=a/\a < m.length
def Keep (A:Nat->List Nat)(m:Me)(A':Nat->List Nat)(m':Me):Prop:=(∀ (l:Nat) o,(∀i,l∉A i)->m[l]?=some o->(∀i,l∉A' i)/\m'[l]?=some o)/\m.length<=m'.length
theorem Keep.refl (A:Nat->List Nat)(m:Me):Keep A m A m:=⟨fun _ _ h k=>⟨h,k⟩,Nat.le_refl _⟩
theorem Keep.trans {A B C:Nat->List Nat}{m m1 m2:Me}(h:Keep A m B m1)(k:Keep B m1 C m2):Keep A m C m2 :=
 ⟨fun l o a b=>k.1 l o (h.1 l o a b).1 (h.1 l o a b).2,Nat.le_trans h.2 k.2⟩
theorem Keep.rep {A A':Nat->List Nat}{m m':Me}{RR:Nat->Prop}{d:Dat}{w:Wd}(h:Keep A m A' m')(q:Rep (yK RR A) m d w):Rep (yK RR A') m' d w :=
 Rep.frame (fun l o r z=>⟨⟨r.1,(h.1 l o r.2 z).1⟩,(h.1 l o r.2 z).2⟩) d w q
theorem Keep.repL {A A':Nat->List Nat}{m m':Me}{RR:Nat->Prop}{d:List Dat}{w:List Wd}(h:Keep A m A' m')(q:RepL (yK RR A) m d w):RepL (yK RR A') m' d w :=
 RepL.frame (fun l o r z=>⟨⟨r.1,(h.1 l o r.2 z).1⟩,(h.1 l o r.2 z).2⟩) d w q
theorem Inv.getlv {lo:Nat}{RR:Nat->Prop}{m:Me}{de:DEn}{lv:List Lv}{env:En}{A:Nat->List Nat}(I:Inv lo RR m de lv env A){i:Nat}{o:Option Dat}(h:de[i]?=some o):∃l,lv[i]?=some l:=by
 obtain ⟨hi,_⟩:=List.getElem?_eq_some_iff.mp h
 exact ⟨_,List.getElem?_eq_getElem (by rw[I.lvl];exact hi)⟩
theorem Inv.envR {lo:Nat}{RR:Nat->Prop}{m:Me}{de:DEn}{lv:List Lv}{env:En}{A:Nat->List Nat}(I:Inv lo RR m de lv env A)(vs:List Nat):EnvR RR m vs de env :=
 ⟨I.len,fun i _ d h=>by
  obtain ⟨l,hl⟩:=I.getlv h
  obtain ⟨w,a,b⟩:=I.slot i d l h hl
  exact ⟨w,a,b.rep (fun _ z=>z.1) (fun a ha=>I.rr a (I.bd i a ha).1)⟩⟩
theorem Inv.ext {lo:Nat}{RR:Nat->Prop}{m m':Me}{de:DEn}{lv:List Lv}{env:En}{A:Nat->List Nat}(I:Inv lo RR m de lv env A)(h:Le m m'):Inv lo RR m' de lv env A :=
 ⟨I.len,I.lvl,I.rr,Nat.le_trans I.lom h.len,fun i d l a b=>by
  obtain ⟨w,p,q⟩:=I.slot i d l a b
  exact ⟨w,p,q.frame (fun l o r z=>⟨r,h l o z⟩) (fun l _ o z=>h l o z)⟩,I.nd,I.dj,fun i a ha=>⟨(I.bd i a ha).1,Nat.lt_of_lt_of_le (I.bd i a ha).2 h.len⟩⟩
theorem j9 {A:Nat->List Nat}{m m':Me}(h:Le m m'):Keep A m A m':=⟨fun l o a b=>⟨a,h l o b⟩,h.len⟩
noncomputable def upd (A:Nat->List Nat)(i:Nat)(B:List Nat):Nat->List Nat:=fun k=>if k=i then B else A k
theorem zg {A:Nat->List Nat}{i:Nat}{B:List Nat}:upd A i B i=B:=by simp[upd]
theorem zd {A:Nat->List Nat}{i k:Nat}{B:List Nat}(h:k≠i):upd A i B k=A k:=by simp[upd,h]
theorem Inv.store {lo:Nat}{RR:Nat->Prop}{m m':Me}{de:DEn}{lv:List Lv}{env:En}{A:Nat->List Nat}(I:Inv lo RR m de lv env A)(h:Le m m')(i:Nat){d:Dat}{l:Lv}{w:Wd}{B:List Nat}
  (q:RepO (fun l=>(yK RR A l\/m.length<=l)/\l∉B) m' l d w B) (nd:B.Nodup) (hB:∀b∈B,m.length<=b) :
  Inv lo RR m' (de.set i (some d)) (lv.set i l) (env.set i (some w)) (upd A i B)/\Keep A m (upd A i B) m':=by
 have hlt:=q.lt
 have fr:∀ (x:Nat) (o:Ob),(∀k,x∉A k)->m[x]?=some o->∀k,x∉upd A i B k:=by
  intro x o hx hm k
  by_cases e:k=i
  .subst e;rw[zg];intro hb
   have:=hB x hb
   have:=(List.getElem?_eq_some_iff.mp hm).1
   lia
  .rw[zd e];exact hx k
 refine ⟨⟨by simp[I.len],by simp[I.lvl],I.rr,Nat.le_trans I.lom h.len,?_,?_,?_,?_⟩,⟨fun x o hx hm=>⟨fr x o hx hm,h x o hm⟩,h.len⟩⟩
 .intro k e l' h1 h2
  by_cases z:k=i
  .rw[z] at h1 h2 ⊢
   rw[List.getElem?_set] at h1 h2
   rw[if_pos rfl] at h1 h2
   split at h1
   .split at h2
    .next q1 q2 =>
     cases h1;cases h2
     refine ⟨w,by rw[List.getElem?_set,if_pos rfl,if_pos (by rw[<- I.len];exact q1)],?_⟩
     rw[zg]
     refine q.frame (fun x o r hm=>⟨⟨?_,fun k=>?_⟩,hm⟩) (fun _ _ _ z=>z)
     .rcases r.1 with r1 | r1
      .exact r1.1
      .exact I.rr x (Nat.le_trans I.lom r1)
     .by_cases e:k=i
      .subst e;rw[zg];exact r.2
      .rw[zd e]
       rcases r.1 with r1 | r1
       .exact r1.2 k
       .intro ha;have:=(I.bd k x ha).2;lia
    .cases h2
   .cases h1
  .rw[List.getElem?_set_ne (Ne.symm z)] at h1 h2
   obtain ⟨w',a,b⟩:=I.slot k e l' h1 h2
   refine ⟨w',by rw[List.getElem?_set_ne (Ne.symm z)];exact a,?_⟩
   rw[zd z]
   exact b.frame (fun x o r hm=>⟨⟨r.1,fr x o r.2 hm⟩,h x o hm⟩) (fun x _ o hm=>h x o hm)
 .intro k
  by_cases e:k=i
  .subst e;rw[zg];exact nd
  .rw[zd e];exact I.nd k
 .intro k j a ha hb
  by_cases e:k=i
  .subst e;rw[zg] at ha
   by_cases f:j=k
   .exact f.symm
   .rw[zd f] at hb
    have:=hB a ha
    have:=(I.bd j a hb).2
    lia
  .rw[zd e] at ha
   by_cases f:j=i
   .subst f;rw[zg] at hb
    have:=hB a hb
    have:=(I.bd k a ha).2
    lia
   .rw[zd f] at hb;exact I.dj k j a ha hb
 .intro k a ha
  by_cases e:k=i
  .subst e;rw[zg] at ha
   exact ⟨Nat.le_trans I.lom (hB a ha),hlt a ha⟩
  .rw[zd e] at ha
   exact ⟨(I.bd k a ha).1,Nat.lt_of_lt_of_le (I.bd k a ha).2 h.len⟩
theorem Inv.weak {lo:Nat}{RR:Nat->Prop}{m:Me}{de:DEn}{lv:List Lv}{env:En}{A:Nat->List Nat}(I:Inv lo RR m de lv env A)(i:Nat){l:Lv}{B:List Nat}
  (hB:∀b∈B,b∈A i) (nd:B.Nodup) (q:∀d w,de[i]?=some (some d)->env[i]?=some (some w)->RepO (yK RR (upd A i B)) m l d w B) :
  Inv lo RR m de (lv.set i l) env (upd A i B)/\Keep A m (upd A i B) m:=by
 have fr:∀x,(∀k,x∉A k)->∀k,x∉upd A i B k:=by
  intro x hx k
  by_cases e:k=i
  .subst e;rw[zg];intro hb;exact hx _ (hB x hb)
  .rw[zd e];exact hx k
 have sub:∀k a,a∈upd A i B k->a∈A k:=by
  intro k a ha
  by_cases e:k=i
  .subst e;rw[zg] at ha;exact hB a ha
  .rw[zd e] at ha;exact ha
 refine ⟨⟨I.len,by simp[I.lvl],I.rr,I.lom,?_,?_,fun k j a ha hb=>I.dj k j a (sub k a ha) (sub j a hb),fun k a ha=>I.bd k a (sub k a ha)⟩,⟨fun x o hx hm=>⟨fr x hx,hm⟩,Nat.le_refl _⟩⟩
 .intro k e l' h1 h2
  by_cases z:k=i
  .subst z
   rw[List.getElem?_set,if_pos rfl] at h2
   split at h2
   .cases h2
    obtain ⟨l0,hl0⟩:=I.getlv h1
    obtain ⟨w,a,_⟩:=I.slot k e l0 h1 hl0
    refine ⟨w,a,?_⟩
    rw[zg]
    exact q e w h1 a
   .cases h2
  .rw[List.getElem?_set_ne (Ne.symm z)] at h2
   obtain ⟨w',a,b⟩:=I.slot k e l' h1 h2
   refine ⟨w',a,?_⟩
   rw[zd z]
   exact b.frame (fun x o r hm=>⟨⟨r.1,fr x r.2⟩,hm⟩) (fun x _ o hm=>hm)
 .intro k
  by_cases e:k=i
  .subst e;rw[zg];exact nd
  .rw[zd e];exact I.nd k
theorem Inv.down {lo:Nat}{RR:Nat->Prop}{m:Me}{de:DEn}{lv:List Lv}{env:En}{A:Nat->List Nat}(I:Inv lo RR m de lv env A)(i:Nat):
  Inv lo RR m de (lv.set i .no) env (upd A i [])/\Keep A m (upd A i []) m:=by
 refine I.weak i (by simp) List.nodup_nil fun d w h1 h2=>⟨?_,rfl⟩
 obtain ⟨l,hl⟩:=I.getlv h1
 obtain ⟨w',a,b⟩:=I.slot i d l h1 hl
 rw[h2] at a;cases a
 refine b.rep (fun x r=>⟨r.1,fun k=>?_⟩) (fun x hx=>⟨I.rr x (I.bd i x hx).1,fun k=>?_⟩)
 .by_cases e:k=i
  .subst e;rw[zg];simp
  .rw[zd e];exact r.2 k
 .by_cases e:k=i
  .subst e;rw[zg];simp
  .rw[zd e];intro ha;exact e (I.dj k i x ha hx)
theorem yV:∀ (vs:List Nat) (lv:List Lv) (k:Nat),(downs vs lv)[k]?=if k∈vs/\k < lv.length then some .no else lv[k]?
 | [],lv,k=>by simp[downs]
 | i::vs,lv,k=>by
  unfold downs
  rw[yV vs (lv.set i .no) k]
  rw[List.length_set,List.getElem?_set]
  by_cases a:k∈vs/\k < lv.length
  .rw[if_pos a,if_pos ⟨List.mem_cons_of_mem _ a.1,a.2⟩]
  .rw[if_neg a]
   by_cases e:i=k
   .subst e
    by_cases b:i < lv.length
    .simp[b]
    .simp[b]
   .rw[if_neg e]
    by_cases c:k∈vs
    .have:¬ k < lv.length:=fun z=>a ⟨c,z⟩
     rw[if_neg (fun z=>this z.2)]
    .rw[if_neg (fun z=>by rcases List.mem_cons.mp z.1 with z1 | z1;exact e z1.symm;exact c z1)]
theorem Inv.downs {lo:Nat}{RR:Nat->Prop}{m:Me}{de:DEn}{env:En}:∀ (vs:List Nat) {lv:List Lv}{A:Nat->List Nat},Inv lo RR m de lv env A ->
  ∃A',Inv lo RR m de (downs vs lv) env A'/\Keep A m A' m/\(∀i∈vs,A' i=[])/\(∀i,A' i=A i\/A' i=[])/\∀i,i∉vs->A' i=A i
 | [],lv,A,I=>⟨A,I,Keep.refl A m,by simp,fun i=>.inl rfl,fun _ _=>rfl⟩
 | j::vs,lv,A,I=>by
  obtain ⟨I1,K1⟩:=I.down j
  obtain ⟨A',I2,K2,h1,h2,h3⟩:=Inv.downs vs I1
  refine ⟨A',I2,K1.trans K2,fun i hi=>?_,fun i=>?_,fun i hi=>?_⟩
  .by_cases q:i∈vs
   .exact h1 i q
   .rw[h3 i q]
    rcases List.mem_cons.mp hi with rfl | hi
    .exact zg
    .exact absurd hi q
  .rcases h2 i with z | z
   .rw[z]
    by_cases e:i=j
    .subst e;right;exact zg
    .left;exact zd e
   .exact .inr z
  .have:i≠j:=fun e=>hi (by rw[e];simp)
   rw[h3 i (fun z=>hi (List.mem_cons_of_mem _ z)),zd this]
theorem Inv.top {lo:Nat}{RR:Nat->Prop}{m:Me}{de:DEn}{lv:List Lv}{env:En}{A:Nat->List Nat}(I:Inv lo RR m de lv env A)(j:Nat){ds:List Dat}(hd:de[j]?=some (some (.lst ds)))(hj:zP lv j=true):
  ∃l xs A',Inv lo RR m de (lv.set j .top) env A'/\Keep A m A' m/\A' j=[l]/\(∀i,i≠j->A' i=A i)/\env[j]?=some (some (.ref l))/\m[l]?=some (.lst xs)/\RepL (yK RR A') m ds xs/\l∈A j:=by
 unfold zP at hj
 obtain ⟨lj,hl⟩:=I.getlv hd
 obtain ⟨w,a,b⟩:=I.slot j _ lj hd hl
 rw[hl] at hj
 have key:∃l xs,w=.ref l/\l∈A j/\m[l]?=some (.lst xs)/\RepL (yK RR (upd A j [l])) m ds xs:=by
  cases lj with
  | no=>simp at hj
  | top =>
   obtain ⟨es,l,xs,e,rfl,hA,hm,r⟩:=b
   cases e
   refine ⟨l,xs,rfl,by rw[hA];simp,hm,RepL.frame (fun x o r z=>⟨⟨r.1,fun k=>?_⟩,z⟩) _ _ r⟩
   by_cases e:k=j
   .subst e;rw[zg,<- hA];exact r.2 k
   .rw[zd e];exact r.2 k
  | full =>
   obtain ⟨l,xs,B,rfl,hA,hm,r⟩:=own_lst.mp b
   refine ⟨l,xs,rfl,by rw[hA];simp,hm,OwnL.rep ds xs B (fun x hx=>⟨I.rr x (I.bd j x (by rw[hA];exact List.mem_cons_of_mem _ hx)).1,fun k=>?_⟩) r⟩
   have nd:=I.nd j
   rw[hA] at nd
   by_cases e:k=j
   .subst e;rw[zg];intro z;rw[List.mem_singleton.mp z] at hx;exact (List.nodup_cons.mp nd).1 hx
   .rw[zd e];intro z;exact e (I.dj k j x z (by rw[hA];exact List.mem_cons_of_mem _ hx))
 obtain ⟨l,xs,rfl,hA,hm,r⟩:=key
 obtain ⟨I',K⟩:=I.weak j (l:=.top) (B:=[l]) (by intro b hb;rw[List.mem_singleton.mp hb];exact hA) (by simp) fun d w h1 h2=>by
  rw[hd] at h1;cases h1
  rw[a] at h2;cases h2
  exact ⟨ds,l,xs,rfl,rfl,rfl,hm,r⟩
 exact ⟨l,xs,_,I',K,zg,fun i hi=>zd hi,a,hm,r,hA⟩
theorem zB {m:Me}{l x:Nat}{o:Ob}(h:l≠x):(m.set l o)[x]?=m[x]?:=List.getElem?_set_ne h
theorem zM {m:Me}{l:Nat}{o p:Ob}(h:m[l]?=some p):(m.set l o)[l]?=some o:=by
 rw[List.getElem?_set,if_pos rfl,if_pos (List.getElem?_eq_some_iff.mp h).1]
theorem Inv.put {lo:Nat}{RR:Nat->Prop}{m m1:Me}{de:DEn}{lv:List Lv}{env:En}{A:Nat->List Nat}(I:Inv lo RR m de lv env A)(le:Le m m1){j l:Nat}{xs ys:List Wd}(hl:l∈A j)(A1:Nat->List Nat)
  (h3:∀k a,a∈A1 k->(∃k',a∈A k')\/m.length<=a) (nd1:∀k,(A1 k).Nodup) (dj1:∀i k a,a∈A1 i->a∈A1 k->i=k) (bd1:∀k a,a∈A1 k->lo<=a/\a < m1.length)
  {de1:DEn}{lv1:List Lv}(len1:de1.length=de.length) (lvl1:lv1.length=lv.length)
  (live:∀k d lk,k≠j->de1[k]?=some (some d)->lv1[k]?=some lk->de[k]?=some (some d)/\lv[k]?=some lk/\A1 k=A k)
  (sj:∀d lj,de1[j]?=some (some d)->lv1[j]?=some lj->∃w,env[j]?=some (some w)/\RepO (yK RR A1) (m1.set l (.lst ys)) lj d w (A1 j)) :
  Inv lo RR (m1.set l (.lst ys)) de1 lv1 env A1/\Keep A m A1 (m1.set l (.lst ys)):=by
 have fr:∀ (x:Nat) (o:Ob),(∀k,x∉A k)->m[x]?=some o->(∀k,x∉A1 k)/\(m1.set l (.lst ys))[x]?=some o:=by
  intro x o hx hm
  refine ⟨fun k ha=>?_,?_⟩
  .rcases h3 k x ha with ⟨k',z⟩ | z
   .exact hx k' z
   .have:=(List.getElem?_eq_some_iff.mp hm).1;lia
  .rw[zB (l:=l) (x:=x) (fun e=>hx j (by rw[<- e];exact hl))];exact le x o hm
 refine ⟨⟨len1.trans I.len,by rw[lvl1,I.lvl,len1],I.rr,by rw[List.length_set];exact Nat.le_trans I.lom le.len,?_,nd1,dj1,fun k a ha=>by rw[List.length_set];exact bd1 k a ha⟩,⟨fun x o hx hm=>fr x o hx hm,by rw[List.length_set];exact le.len⟩⟩
 intro k d lk h1 h2
 by_cases e:k=j
 .subst e;exact sj d lk h1 h2
 .obtain ⟨a,b,c⟩:=live k d lk e h1 h2
  obtain ⟨w,p,q⟩:=I.slot k d lk a b
  refine ⟨w,p,?_⟩
  rw[c]
  refine q.frame (fun x o r hm=>⟨⟨r.1,(fr x o r.2 hm).1⟩,(fr x o r.2 hm).2⟩) (fun x hx o hm=>?_)
  rw[zB (l:=l) (x:=x) (fun z=>e (I.dj k j x hx (by rw[<- z];exact hl)))]
  exact le x o hm
def zhv (m m1:Me)(ds:List Dat)(xs:List Wd)(ds':List Dat)(ys:List Wd):Prop :=
 ∀B,B.Nodup->OwnL m ds xs B->∃B',OwnL m1 ds' ys B'/\B'.Nodup/\∀b∈B',b∈B\/m.length<=b
def ChgT (RR:Nat->Prop)(A:Nat->List Nat)(m m1:Me)(ds:List Dat)(xs:List Wd)(ds':List Dat)(ys:List Wd):Prop :=
 RepL (yK RR A) m ds xs->RepL (fun x=>yK RR A x\/m.length<=x) m1 ds' ys
def Chg (RR:Nat->Prop)(A:Nat->List Nat)(m m1:Me)(ds:List Dat)(xs:List Wd)(ds':List Dat)(ys:List Wd):Prop :=
 (∀B,B.Nodup->OwnL m ds xs B->∃B',OwnL m1 ds' ys B'/\B'.Nodup/\∀b∈B',b∈B\/m.length<=b)/\(RepL (yK RR A) m ds xs->RepL (fun x=>yK RR A x\/m.length<=x) m1 ds' ys)
theorem Inv.mut {lo:Nat}{RR:Nat->Prop}{m:Me}{de:DEn}{lv:List Lv}{env:En}{A:Nat->List Nat}(I:Inv lo RR m de lv env A){j:Nat}{ds:List Dat}(hd:de[j]?=some (some (.lst ds)))(hj:zP lv j=true):
  ∃l xs,env[j]?=some (some (.ref l))/\m[l]?=some (.lst xs)/\RepL RR m ds xs/\∀ (m1:Me) (ds':List Dat) (ys:List Wd),Le m m1->(lv[j]?=some .full->zhv m m1 ds xs ds' ys)->(lv[j]?=some .top->ChgT RR A m m1 ds xs ds' ys) ->
   ∃A1,Inv lo RR (m1.set l (.lst ys)) (de.set j (some (.lst ds'))) lv env A1/\Keep A m A1 (m1.set l (.lst ys)):=by
 unfold zP at hj
 obtain ⟨lj,hl⟩:=I.getlv hd
 obtain ⟨w,a,b⟩:=I.slot j _ lj hd hl
 rw[hl] at hj
 have hjl:j < de.length:=(List.getElem?_eq_some_iff.mp hd).1
 have live:∀ (A1:Nat->List Nat),(∀k,k≠j->A1 k=A k)->∀ (ds':List Dat) k d lk,k≠j->(de.set j (some (.lst ds')))[k]?=some (some d)->lv[k]?=some lk->de[k]?=some (some d)/\lv[k]?=some lk/\A1 k=A k:=by
  intro A1 h ds' k d lk e h1 h2
  rw[List.getElem?_set_ne (Ne.symm e)] at h1
  exact ⟨h1,h2,h k e⟩
 cases lj with
 | no=>simp at hj
 | top =>
  obtain ⟨es,l,xs,e,rfl,hA,hm,r⟩:=b
  cases e
  refine ⟨l,xs,a,hm,RepL.frame (fun _ _ r z=>⟨r.1,z⟩) _ _ r,fun m1 ds' ys le _ c=>⟨A,?_⟩⟩
  have hlm:=(List.getElem?_eq_some_iff.mp hm).1
  refine I.put le (j:=j) (l:=l) (xs:=xs) (by rw[hA];simp) A (fun k a ha=>.inl ⟨k,ha⟩) I.nd I.dj (fun k a ha=>⟨(I.bd k a ha).1,Nat.lt_of_lt_of_le (I.bd k a ha).2 le.len⟩) (by simp) rfl (live A (fun _ _=>rfl) ds') ?_
  intro d lj h1 h2
  rw[List.getElem?_set,if_pos rfl,if_pos hjl] at h1
  cases h1
  rw[hl] at h2;cases h2
  refine ⟨_,a,ds',l,ys,rfl,rfl,hA,zM (le l _ hm),RepL.frame (fun x o r z=>?_) _ _ (c hl r)⟩
  rcases r with r | r
  .exact ⟨r,by rw[zB (l:=l) (x:=x) (fun e=>r.2 j (by rw[hA,e];simp))];exact z⟩
  .exact ⟨⟨I.rr x (Nat.le_trans I.lom r),fun k hk=>by have:=(I.bd k x hk).2;lia⟩,by rw[zB (l:=l) (x:=x) (by lia)];exact z⟩
 | full =>
  obtain ⟨l,xs,B,rfl,hA,hm,r⟩:=own_lst.mp b
  have hlm:=(List.getElem?_eq_some_iff.mp hm).1
  have nd:=I.nd j
  rw[hA] at nd
  refine ⟨l,xs,a,hm,OwnL.rep ds xs B (fun x hx=>I.rr x (I.bd j x (by rw[hA];exact List.mem_cons_of_mem _ hx)).1) r,fun m1 ds' ys le c _=>?_⟩
  obtain ⟨B',o,nb,hB⟩:=c hl B (List.nodup_cons.mp nd).2 r
  have hlB:l∉B':=fun z=>by
   rcases hB l z with z | z
   .exact (List.nodup_cons.mp nd).1 z
   .lia
  have sub:∀x∈l::B',x∈A j\/m.length<=x:=by
   intro x hx
   rcases List.mem_cons.mp hx with rfl | hx
   .left;rw[hA];simp
   .rcases hB x hx with z | z
    .left;rw[hA];exact List.mem_cons_of_mem _ z
    .exact .inr z
  refine ⟨upd A j (l::B'),?_⟩
  refine I.put le (j:=j) (l:=l) (xs:=xs) (by rw[hA];simp) _ ?_ ?_ ?_ ?_ (by simp) rfl (live _ (fun k hk=>zd hk) ds') ?_
  .intro k x hx
   by_cases e:k=j
   .subst e;rw[zg] at hx
    rcases sub x hx with z | z
    .exact .inl ⟨k,z⟩
    .exact .inr z
   .rw[zd e] at hx;exact .inl ⟨k,hx⟩
  .intro k
   by_cases e:k=j
   .subst e;rw[zg];exact List.nodup_cons.mpr ⟨hlB,nb⟩
   .rw[zd e];exact I.nd k
  .intro i k x h1 h2
   by_cases e:i=j
   .by_cases f:k=j
    .rw[e,f]
    .rw[e,zg] at h1;rw[zd f] at h2
     rcases sub x h1 with z | z
     .rw[e];exact I.dj j k x z h2
     .have:=(I.bd k x h2).2;lia
   .rw[zd e] at h1
    by_cases f:k=j
    .rw[f,zg] at h2
     rcases sub x h2 with z | z
     .rw[f];exact I.dj i j x h1 z
     .have:=(I.bd i x h1).2;lia
    .rw[zd f] at h2;exact I.dj i k x h1 h2
  .intro k x hx
   by_cases e:k=j
   .rw[e,zg] at hx
    rcases List.mem_cons.mp hx with rfl | hx
    .exact ⟨(I.bd j _ (by rw[hA];simp)).1,Nat.lt_of_lt_of_le hlm le.len⟩
    .refine ⟨?_,OwnL.lt ds' ys B' o x hx⟩
     rcases hB x hx with z | z
     .exact (I.bd j x (by rw[hA];exact List.mem_cons_of_mem _ z)).1
     .exact Nat.le_trans I.lom z
   .rw[zd e] at hx
    exact ⟨(I.bd k x hx).1,Nat.lt_of_lt_of_le (I.bd k x hx).2 le.len⟩
  .intro d lj h1 h2
   rw[List.getElem?_set,if_pos rfl,if_pos hjl] at h1
   cases h1
   rw[hl] at h2;cases h2
   refine ⟨_,a,?_⟩
   rw[zg]
   exact own_lst.mpr ⟨l,ys,B',rfl,rfl,zM (le l _ hm),OwnL.frame ds' ys B' (fun x hx o z=>by rw[zB (l:=l) (x:=x) (fun e=>hlB (by rw[e];exact hx))];exact z) o⟩
theorem OwnL.item {m:Me}:∀ {ds:List Dat}{xs:List Wd}{A:List Nat}{p:Nat}{d:Dat},OwnL m ds xs A->ds[p]?=some d->∃x B,(xs[p]?=some x/\Own m d x B)/\∀b∈B,b∈A
 | [],xs,A,p,d,h,z=>by simp at z
 | e::ds,xs,A,0,d,h,z=>by
  obtain ⟨x,r,B,C,rfl,rfl,a,b⟩:=h.cons_inv
  simp at z;subst z
  exact ⟨x,B,⟨rfl,a⟩,fun b hb=>List.mem_append_left _ hb⟩
 | e::ds,xs,A,p+1,d,h,z=>by
  obtain ⟨x,r,B,C,rfl,rfl,a,b⟩:=h.cons_inv
  obtain ⟨y,D,h1,h2⟩:=OwnL.item b (by simpa using z)
  exact ⟨y,D,by simpa using h1,fun b hb=>List.mem_append_right _ (h2 b hb)⟩
theorem OwnL.split {m:Me}:∀ {ds:List Dat}{xs:List Wd}{A:List Nat}{p:Nat}{d:Dat},OwnL m ds xs A->ds[p]?=some d ->
  ∃x B1 Bp B2,xs[p]?=some x/\A=B1++(Bp++B2)/\Own m d x Bp/\(∀ (i:Nat) e y,i≠p->ds[i]?=some e->xs[i]?=some y->∃Bi,Own m e y Bi/\∀b∈Bi,b∈B1\/b∈B2)/\∀ (m':Me) (d':Dat) (x':Wd) (B':List Nat),(∀l,l∈B1\/l∈B2->∀o,m[l]?=some o->m'[l]?=some o)->Own m' d' x' B'->OwnL m' (ds.set p d') (xs.set p x') (B1++(B'++B2))
 | [],xs,A,p,d,h,z=>by simp at z
 | e::ds,xs,A,0,d,h,z=>by
  obtain ⟨x,r,B,C,rfl,rfl,a,b⟩:=h.cons_inv
  simp at z;subst z
  refine ⟨x,[],B,C,rfl,rfl,a,fun i e y hi h1 h2=>?_,fun m' d' x' B' fr o=>?_⟩
  .cases i with
   | zero=>exact absurd rfl hi
   | succ i =>
    simp at h1 h2
    obtain ⟨y',Bi,o,hB⟩:=OwnL.item b h1
    rw[h2] at o;obtain ⟨o1,o2⟩:=o;cases o1
    exact ⟨Bi,o2,fun z hz=>.inr (hB z hz)⟩
  show OwnL m' (d'::ds) (x'::r) (B'++C)
  exact OwnL.cons o (OwnL.frame ds r C (fun l hl=>fr l (.inr hl)) b)
 | e::ds,xs,A,p+1,d,h,z=>by
  obtain ⟨x,r,B,C,rfl,rfl,a,b⟩:=h.cons_inv
  obtain ⟨y,B1,Bp,B2,h1,rfl,h3,h5,h4⟩:=OwnL.split b (by simpa using z)
  refine ⟨y,B++B1,Bp,B2,by simpa using h1,by simp[List.append_assoc],h3,fun i e' y' hi g1 g2=>?_,fun m' d' x' B' fr o=>?_⟩
  .cases i with
   | zero=>simp at g1 g2;subst g1;subst g2;exact ⟨B,a,fun z hz=>.inl (List.mem_append_left _ hz)⟩
   | succ i =>
    simp at g1 g2
    obtain ⟨Bi,o,hB⟩:=h5 i e' y' (by lia) g1 g2
    exact ⟨Bi,o,fun z hz=>by rcases hB z hz with q | q;exact .inl (List.mem_append_right _ q);exact .inr q⟩
  rw[List.append_assoc]
  exact OwnL.cons (Own.frame e x B (fun l hl=>fr l (.inl (List.mem_append_left _ hl))) a) (h4 m' d' x' B' (fun l hl=>fr l (by rcases hl with hl | hl;exact .inl (List.mem_append_right _ hl);exact .inr hl)) o)
theorem zeB {RR:Nat->Prop}{A:Nat->List Nat}{m m1:Me}{ds:List Dat}{xs:List Wd}{d:Dat}{w:Wd}{B0:List Nat}(le:Le m m1)(o:Own m1 d w B0)(nd:B0.Nodup)(hB:∀b∈B0,m.length<=b):Chg RR A m m1 ds xs (ds++[d]) (xs++[w]):=by
 refine ⟨fun B nb q=>⟨B++(B0++[]),(OwnL.frame ds xs B (fun l _ o z=>le l o z) q).app (.cons o .nil),?_,?_⟩,fun q=>?_⟩
 .rw[List.append_nil]
  refine List.nodup_append.mpr ⟨nb,nd,fun x hx y hy e=>?_⟩
  have:=OwnL.lt ds xs B q x hx
  have:=hB y hy
  lia
 .intro b hb
  rw[List.append_nil] at hb
  rcases List.mem_append.mp hb with z | z
  .exact .inl z
  .exact .inr (hB b z)
 .exact (RepL.frame (fun l o r z=>⟨.inl r,le l o z⟩) _ _ q).app (.cons (Own.rep d w B0 (fun b hb=>.inr (hB b hb)) o) .nil)
theorem kl {RR:Nat->Prop}{A:Nat->List Nat}{m m1:Me}{ds:List Dat}{xs:List Wd}{d:Dat}{w:Wd}{B0:List Nat}(p:Nat)(le:Le m m1)(o:Own m1 d w B0)(nd:B0.Nodup)(hB:∀b∈B0,m.length<=b):Chg RR A m m1 ds xs (ds.set p d) (xs.set p w):=by
 refine ⟨fun B nb q=>?_,fun q=>?_⟩
 .cases hp:ds[p]? with
  | none =>
   have h1:ds.length<=p:=List.getElem?_eq_none_iff.mp hp
   rw[List.set_eq_of_length_le h1,List.set_eq_of_length_le (by rw[<- q.len];exact h1)]
   exact ⟨B,OwnL.frame ds xs B (fun l _ o z=>le l o z) q,nb,fun b hb=>.inl hb⟩
  | some e =>
   obtain ⟨y,B1,Bp,B2,h1,rfl,h3,_,h4⟩:=OwnL.split q hp
   refine ⟨B1++(B0++B2),h4 m1 d w B0 (fun l _ o z=>le l o z) o,?_,?_⟩
   .have hlt:=OwnL.lt ds xs _ q
    rw[List.nodup_append] at nb ⊢
    obtain ⟨n1,n2,n3⟩:=nb
    rw[List.nodup_append] at n2 ⊢
    obtain ⟨n4,n5,n6⟩:=n2
    refine ⟨n1,⟨nd,n5,fun x hx y hy e=>?_⟩,fun x hx y hy e=>?_⟩
    .have:=hB x hx
     have:=hlt y (by simp[hy])
     lia
    .rcases List.mem_append.mp hy with hy | hy
     .have:=hB y hy
      have:=hlt x (by simp[hx])
      lia
     .exact n3 x hx y (List.mem_append_right _ hy) e
   .intro b hb
    simp only[List.mem_append] at hb ⊢
    rcases hb with z | z | z
    .exact .inl (.inl z)
    .exact .inr (hB b z)
    .exact .inl (.inr (.inr z))
 .exact (RepL.frame (fun l o r z=>⟨.inl r,le l o z⟩) _ _ q).set p (Own.rep d w B0 (fun b hb=>.inr (hB b hb)) o)
theorem OwnL.rev {m:Me}:∀ {ds:List Dat}{xs:List Wd}{A:List Nat},A.Nodup->OwnL m ds xs A->∃B,OwnL m ds.reverse xs.reverse B/\B.Nodup/\∀b∈B,b∈A
 | [],xs,A,nd,h=>by rw[h.nil_inv.1];exact ⟨[],.nil,List.nodup_nil,by simp⟩
 | d::ds,xs,A,nd,h=>by
  obtain ⟨x,r,B,C,rfl,rfl,a,b⟩:=h.cons_inv
  obtain ⟨n1,n2,n3⟩:=List.nodup_append.mp nd
  obtain ⟨D,o,nD,hD⟩:=OwnL.rev n2 b
  rw[List.reverse_cons,List.reverse_cons]
  refine ⟨D++(B++[]),o.app (.cons a .nil),?_,?_⟩
  .rw[List.append_nil]
   exact List.nodup_append.mpr ⟨nD,n1,fun x hx y hy e=>n3 y hy x (hD x hx) e.symm⟩
  .intro b hb
   simp only[List.append_nil,List.mem_append] at hb ⊢
   rcases hb with z | z
   .exact .inr (hD b z)
   .exact .inl z
theorem chg_rev {RR:Nat->Prop}{A:Nat->List Nat}{m:Me}{ds:List Dat}{xs:List Wd}:Chg RR A m m ds xs ds.reverse xs.reverse:=by
 refine ⟨fun B nb q=>?_,fun q=>(RepL.frame (fun l o r z=>⟨.inl r,z⟩) _ _ q).rev⟩
 obtain ⟨D,o,nD,hD⟩:=OwnL.rev nb q
 exact ⟨D,o,nD,fun b hb=>.inl (hD b hb)⟩
theorem Inv.mutIn {lo:Nat}{RR:Nat->Prop}{m:Me}{de:DEn}{lv:List Lv}{env:En}{A:Nat->List Nat}(I:Inv lo RR m de lv env A){j p:Nat}{ds es:List Dat}(hd:de[j]?=some (some (.lst ds)))(hf:lv[j]?=some .full)(hp:ds[p]?=some (.lst es)):
  ∃l xs l2 us,env[j]?=some (some (.ref l))/\m[l]?=some (.lst xs)/\xs[p]?=some (.ref l2)/\m[l2]?=some (.lst us)/\ds.length=xs.length/\RepL RR m es us /\
   (∀ (m1:Me) (es':List Dat) (vs:List Wd),Le m m1->zhv m m1 es us es' vs ->
    ∃A1,Inv lo RR (m1.set l2 (.lst vs)) (de.set j (some (.lst (ds.set p (.lst es'))))) lv env A1/\Keep A m A1 (m1.set l2 (.lst vs))) /\
   (∀ (m1:Me) (q:Nat) (d:Dat) (w:Wd),Le m m1->Rep (fun x=>yK RR A x\/m.length<=x) m1 d w ->
    ∃A1,Inv lo RR (m1.set l2 (.lst (us.set q w))) (de.set j (some (.lst (ds.set p (.lst (es.set q d)))))) (lv.set j .top) env A1/\Keep A m A1 (m1.set l2 (.lst (us.set q w)))):=by
 obtain ⟨w,a,b⟩:=I.slot j _ .full hd hf
 obtain ⟨l,xs,B,rfl,hA,hm,r⟩:=own_lst.mp b
 obtain ⟨x,B1,Bp,B2,h1,hB,h3,h5,h4⟩:=r.split hp
 obtain ⟨l2,us,Bq,rfl,rfl,hm2,r2⟩:=own_lst.mp h3
 have hjl:j < de.length:=(List.getElem?_eq_some_iff.mp hd).1
 have nd:=I.nd j
 rw[hA,hB] at nd
 have hlm:=(List.getElem?_eq_some_iff.mp hm).1
 have hlm2:=(List.getElem?_eq_some_iff.mp hm2).1
 obtain ⟨n0,n1⟩:=List.nodup_cons.mp nd
 obtain ⟨n2,n3,n4⟩:=List.nodup_append.mp n1
 obtain ⟨n5,n6,n7⟩:=List.nodup_append.mp n3
 obtain ⟨n8,n9⟩:=List.nodup_cons.mp n5
 have inA:∀ {x},x=l\/x∈B1\/x=l2\/x∈Bq\/x∈B2->x∈A j:=by
  intro x hx;rw[hA,hB];simp only[List.mem_cons,List.mem_append]
  rcases hx with z | z | z | z | z
  .exact .inl z
  .exact .inr (.inl z)
  .exact .inr (.inr (.inl (.inl z)))
  .exact .inr (.inr (.inl (.inr z)))
  .exact .inr (.inr (.inr z))
 have l2B1:l2∉B1:=fun z=>n4 l2 z l2 (by simp) rfl
 have l2B2:l2∉B2:=fun z=>n7 l2 (by simp) l2 z rfl
 have hll:l≠l2:=fun e=>n0 (by rw[e];simp)
 have live:∀ (A1:Nat->List Nat) (lv1:List Lv),(∀k,k≠j->A1 k=A k)->(∀k,k≠j->lv1[k]?=lv[k]?)->∀ (ds':List Dat) k d lk,k≠j->(de.set j (some (.lst ds')))[k]?=some (some d)->lv1[k]?=some lk->de[k]?=some (some d)/\lv[k]?=some lk/\A1 k=A k:=by
  intro A1 lv1 h hlv ds' k d lk e h1 h2
  rw[List.getElem?_set_ne (Ne.symm e)] at h1
  rw[hlv k e] at h2
  exact ⟨h1,h2,h k e⟩
 refine ⟨l,xs,l2,us,a,hm,h1,hm2,r.len,OwnL.rep es us Bq (fun x hx=>I.rr x (I.bd j x (inA (.inr (.inr (.inr (.inl hx)))))).1) r2,?_,?_⟩
 .intro m1 es' vs le c
  obtain ⟨Bq',o,nb,hBq⟩:=c Bq n9 r2
  have hlt:=OwnL.lt es' vs Bq' o
  have l2q:l2∉Bq':=fun z=>by
   rcases hBq l2 z with z | z
   .exact n8 z
   .lia
  have sub:∀x∈l::(B1++((l2::Bq')++B2)),x∈A j\/m.length<=x:=by
   intro x hx
   simp only[List.mem_cons,List.mem_append] at hx
   rcases hx with z | z | (z | z) | z
   .exact .inl (inA (.inl z))
   .exact .inl (inA (.inr (.inl z)))
   .exact .inl (inA (.inr (.inr (.inl z))))
   .rcases hBq x z with z | z
    .exact .inl (inA (.inr (.inr (.inr (.inl z)))))
    .exact .inr z
   .exact .inl (inA (.inr (.inr (.inr (.inr z)))))
  have nd1:(l::(B1++((l2::Bq')++B2))).Nodup:=by
   refine List.nodup_cons.mpr ⟨?_,List.nodup_append.mpr ⟨n2,List.nodup_append.mpr ⟨List.nodup_cons.mpr ⟨l2q,nb⟩,n6,?_⟩,?_⟩⟩
   .intro z
    simp only[List.mem_cons,List.mem_append] at z n0
    rcases z with z | (z | z) | z
    .exact n0 (.inl z)
    .exact hll z
    .rcases hBq l z with z | z
     .exact n0 (.inr (.inl (.inr z)))
     .lia
    .exact n0 (.inr (.inr z))
   .intro x hx y hy e
    subst e
    rcases List.mem_cons.mp hx with z | z
    .subst z;exact l2B2 hy
    .rcases hBq x z with z | z
     .exact n7 x (List.mem_cons_of_mem _ z) x hy rfl
     .have:=(I.bd j x (inA (.inr (.inr (.inr (.inr hy)))))).2;lia
   .intro x hx y hy e
    subst e
    simp only[List.mem_cons,List.mem_append] at hy
    rcases hy with (z | z) | z
    .subst z;exact l2B1 hx
    .rcases hBq x z with z | z
     .exact n4 x hx x (by simp[z]) rfl
     .have:=(I.bd j x (inA (.inr (.inl hx)))).2;lia
    .exact n4 x hx x (by simp[z]) rfl
  refine ⟨upd A j (l::(B1++((l2::Bq')++B2))),?_⟩
  refine I.put le (j:=j) (l:=l2) (xs:=us) (inA (.inr (.inr (.inl rfl)))) _ ?_ ?_ ?_ ?_ (by simp) rfl (live _ lv (fun k hk=>zd hk) (fun _ _=>rfl) _) ?_
  .intro k x hx
   by_cases e:k=j
   .rw[e,zg] at hx
    rcases sub x hx with z | z
    .exact .inl ⟨j,z⟩
    .exact .inr z
   .rw[zd e] at hx;exact .inl ⟨k,hx⟩
  .intro k
   by_cases e:k=j
   .rw[e,zg];exact nd1
   .rw[zd e];exact I.nd k
  .intro i k x h1 h2
   by_cases e:i=j
   .by_cases f:k=j
    .rw[e,f]
    .rw[e,zg] at h1;rw[zd f] at h2
     rcases sub x h1 with z | z
     .rw[e];exact I.dj j k x z h2
     .have:=(I.bd k x h2).2;lia
   .rw[zd e] at h1
    by_cases f:k=j
    .rw[f,zg] at h2
     rcases sub x h2 with z | z
     .rw[f];exact I.dj i j x h1 z
     .have:=(I.bd i x h1).2;lia
    .rw[zd f] at h2;exact I.dj i k x h1 h2
  .intro k x hx
   have ll:=le.len
   by_cases e:k=j
   .rw[e,zg] at hx
    rcases sub x hx with z | z
    .exact ⟨(I.bd j x z).1,Nat.lt_of_lt_of_le (I.bd j x z).2 ll⟩
    .refine ⟨Nat.le_trans I.lom z,?_⟩
     simp only[List.mem_cons,List.mem_append] at hx
     rcases hx with q | q | (q | q) | q
     .lia
     .have:=(I.bd j x (inA (.inr (.inl q)))).2;lia
     .lia
     .exact hlt x q
     .have:=(I.bd j x (inA (.inr (.inr (.inr (.inr q)))))).2;lia
   .rw[zd e] at hx
    exact ⟨(I.bd k x hx).1,Nat.lt_of_lt_of_le (I.bd k x hx).2 ll⟩
  .intro d lj g1 g2
   rw[List.getElem?_set,if_pos rfl,if_pos hjl] at g1
   cases g1
   rw[hf] at g2;cases g2
   refine ⟨_,a,?_⟩
   rw[zg]
   refine own_lst.mpr ⟨l,xs,B1++((l2::Bq')++B2),rfl,rfl,?_,?_⟩
   .rw[zB (l:=l2) (x:=l) (Ne.symm hll)];exact le l _ hm
   .have:=h4 (m1.set l2 (.lst vs)) (.lst es') (.ref l2) (l2::Bq') ?_ (own_lst.mpr ⟨l2,vs,Bq',rfl,rfl,zM (le l2 _ hm2),OwnL.frame es' vs Bq' (fun x hx o z=>by rw[zB (l:=l2) (x:=x) (fun e=>l2q (by rw[e];exact hx))];exact z) o⟩)
    .rw[show xs.set p (.ref l2)=xs from by
      obtain ⟨hpx,e⟩:=List.getElem?_eq_some_iff.mp h1
      rw[<- e];exact List.set_getElem_self hpx] at this
     exact this
    .intro x hx o z
     rw[zB (l:=l2) (x:=x) (fun e=>by rcases hx with hx | hx;exact l2B1 (by rw[e];exact hx);exact l2B2 (by rw[e];exact hx))]
     exact le x o z
 .intro m1 q d w le rw0
  have ll:=le.len
  have sub:∀k x,x∈upd A j [l] k->x∈A k:=by
   intro k x hx
   by_cases e:k=j
   .rw[e,zg] at hx;rw[e,List.mem_singleton.mp hx];exact inA (.inl rfl)
   .rw[zd e] at hx;exact hx
  refine ⟨upd A j [l],?_⟩
  refine I.put le (j:=j) (l:=l2) (xs:=us) (inA (.inr (.inr (.inl rfl)))) _ (fun k x hx=>.inl ⟨k,sub k x hx⟩) ?_ (fun i k x g1 g2=>I.dj i k x (sub i x g1) (sub k x g2)) (fun k x hx=>⟨(I.bd k x (sub k x hx)).1,Nat.lt_of_lt_of_le (I.bd k x (sub k x hx)).2 ll⟩) (by simp) (by simp) (live _ (lv.set j .top) (fun k hk=>zd hk) (fun k hk=>List.getElem?_set_ne (Ne.symm hk)) _) ?_
  .intro k
   by_cases e:k=j
   .rw[e,zg];simp
   .rw[zd e];exact I.nd k
  .intro d' lj g1 g2
   rw[List.getElem?_set,if_pos rfl,if_pos hjl] at g1
   cases g1
   rw[List.getElem?_set,if_pos rfl,if_pos (by rw[I.lvl];exact hjl)] at g2
   cases g2
   refine ⟨_,a,ds.set p (.lst (es.set q d)),l,xs,rfl,rfl,zg,?_,?_⟩
   .rw[zB (l:=l2) (x:=l) (Ne.symm hll)];exact le l _ hm
   have fr:∀x,x∈B1\/x∈B2\/x∈Bq\/x=l2->yK RR (upd A j [l]) x:=by
    intro x hx
    have hxA:x∈A j:=inA (by rcases hx with z | z | z | z;exact .inr (.inl z);exact .inr (.inr (.inr (.inr z)));exact .inr (.inr (.inr (.inl z)));exact .inr (.inr (.inl z)))
    refine ⟨I.rr x (I.bd j x hxA).1,fun k hk=>?_⟩
    by_cases e:k=j
    .rw[e,zg] at hk
     have e2:=List.mem_singleton.mp hk
     subst e2
     rcases hx with z | z | z | z
     .exact n0 (by simp[z])
     .exact n0 (by simp[z])
     .exact n0 (by simp[z])
     .exact hll z
    .rw[zd e] at hk;exact e (I.dj k j x hk hxA)
   refine repL_iff.mpr ⟨by simp[r.len],fun i e y g1 g2=>?_⟩
   by_cases ei:i=p
   .rw[ei] at g1 g2
    rw[h1] at g2;cases g2
    rw[List.getElem?_set,if_pos rfl,if_pos (List.getElem?_eq_some_iff.mp hp).1] at g1
    cases g1
    refine rep_lst.mpr ⟨l2,us.set q w,rfl,fr l2 (.inr (.inr (.inr rfl))),zM (le l2 _ hm2),?_⟩
    refine RepL.set (RepL.frame (R:=fun x=>x∈Bq) (m:=m) (fun x o hx z=>⟨fr x (.inr (.inr (.inl hx))),?_⟩) _ _ (OwnL.rep es us Bq (fun _ h=>h) r2)) q ?_
    .rw[zB (l:=l2) (x:=x) (fun e=>n8 (by rw[e];exact hx))];exact le x o z
    .refine Rep.frame (fun x o hx z=>?_) _ _ rw0
     have ne:l2≠x:=by
      rcases hx with hx | hx
      .intro e;exact hx.2 j (by rw[<- e];exact inA (.inr (.inr (.inl rfl))))
      .lia
     refine ⟨?_,by rw[zB (l:=l2) (x:=x) ne];exact z⟩
     rcases hx with hx | hx
     .exact ⟨hx.1,fun k hk=>hx.2 k (sub k x hk)⟩
     .exact ⟨I.rr x (Nat.le_trans I.lom hx),fun k hk=>by have:=(I.bd k x (sub k x hk)).2;lia⟩
   .rw[List.getElem?_set_ne (Ne.symm ei)] at g1
    obtain ⟨Bi,o,hBi⟩:=h5 i e y ei g1 g2
    refine Rep.frame (R:=fun x=>x∈Bi) (m:=m) (fun x o hx z=>?_) _ _ (Own.rep e y Bi (fun _ h=>h) o)
    rcases hBi x hx with z1 | z1
    .exact ⟨fr x (.inl z1),by rw[zB (l:=l2) (x:=x) (fun e=>l2B1 (by rw[e];exact z1))];exact le x _ z⟩
    .exact ⟨fr x (.inr (.inl z1)),by rw[zB (l:=l2) (x:=x) (fun e=>l2B2 (by rw[e];exact z1))];exact le x _ z⟩
theorem zc7 {R:Nat->Prop}{m:Me}{ds:List Dat}{xs:List Wd}{l:Nat}{e:Dat}{y:Wd}(h:RepL R m ds xs)(hm:m[l]?=some (.lst xs))(b:Rep R m e y):SimE R m (vB (.ref l) y m) (yo (.lst ds) e):=by
 cases e with
 | int i =>
  rw[rep_int.mp b]
  simp only[yo,vB,xS,xu,zE,hm]
  cases z:(ix ds.length i).bind fun j=>ds[j]? with
  | none=>exact SimE.no
  | some v =>
   obtain ⟨j,h1,h2⟩:=Option.bind_eq_some_iff.mp z
   obtain ⟨x,h3,p⟩:=h.get h2
   rw[h.len] at h1
   simp only[h1,Option.bind_some,h3]
   exact ziF p
 | _=>exact SimE.no
theorem gc {lo:Nat}{RR:Nat->Prop}{m:Me}{de:DEn}{lv:List Lv}{env:En}{A:Nat->List Nat}(I:Inv lo RR m de lv env A){vs:List Nat}(h:∀i∈vs,∀l,lv[i]?=some l->l=.no):EnvR (yK RR A) m vs de env :=
 ⟨I.len,fun i hi d hd=>by
  obtain ⟨l,hl⟩:=I.getlv hd
  obtain ⟨w,a,b⟩:=I.slot i d l hd hl
  rw[h i hi l hl] at b
  exact ⟨w,a,b.1⟩⟩
theorem vN:∀ (vs:List Nat) (lv:List Lv),(downs vs lv).length=lv.length
 | [],lv=>rfl
 | i::vs,lv=>by unfold downs;rw[vN vs];simp
theorem zaH (de:DEn)(j:Nat)(lv:List Lv){k:Nat}(h:k≠j):(topD de j lv)[k]?=lv[k]?:=by
 unfold topD;split <;> exact List.getElem?_set_ne (Ne.symm h)
set_option tactic.hygienic true in
theorem zaI (e:Ex)(de:DEn)(lv:List Lv){k:Nat}(h:k∉zm e):(xC e de lv)[k]?=lv[k]?:=by
 have gen:∀vs,k∉vs->(downs vs lv)[k]?=lv[k]?:=fun vs h=>by rw[yV,if_neg (fun z=>h z.1)]
 unfold xC
 split
 .next j b =>
  replace h:k∉j::zm b:=h
  rw[List.mem_cons,not_or] at h
  rw[zaH _ _ _ h.1,gen _ h.2]
 .exact gen _ h
set_option tactic.hygienic true in
theorem Inv.topD {lo:Nat}{RR:Nat->Prop}{m:Me}{de:DEn}{lv:List Lv}{env:En}{A:Nat->List Nat}(I:Inv lo RR m de lv env A)(j:Nat):
  ∃A',Inv lo RR m de (topD de j lv) env A'/\Keep A m A' m/\(∀i,i≠j->A' i=A i)/\((∃ds l xs,de[j]?=some (some (.lst ds))/\A' j=[l]/\env[j]?=some (some (.ref l))/\m[l]?=some (.lst xs)/\RepL (yK RR A') m ds xs)\/((Vl.topD de j lv)[j]?=some .no\/lv.length<=j)):=by
 by_cases h:(∃ds,de[j]?=some (some (.lst ds)))/\zP lv j=true
 .obtain ⟨⟨ds,hd⟩,ho⟩:=h
  obtain ⟨l,xs,A',I',K,h1,h2,h3,h4,h5,_⟩:=I.top j hd ho
  have:Vl.topD de j lv=lv.set j .top:=by
   unfold Vl.topD;rw[hd]
   unfold zP at ho
   cases z:lv[j]? with
   | none=>rw[z] at ho;simp at ho
   | some l=>rw[z] at ho;cases l <;> simp at ho ⊢
  rw[this]
  exact ⟨A',I',K,h2,.inl ⟨ds,l,xs,hd,h1,h3,h4,h5⟩⟩
 .obtain ⟨I',K⟩:=I.down j
  have:Vl.topD de j lv=lv.set j .no:=by
   unfold Vl.topD
   split
   .next ds hd hl=>exact absurd ⟨⟨ds,hd⟩,by unfold zP;rw[hl]⟩ h
   .next ds hd hl=>exact absurd ⟨⟨ds,hd⟩,by unfold zP;rw[hl]⟩ h
   .rfl
  rw[this]
  refine ⟨_,I',K,fun i hi=>zd hi,.inr ?_⟩
  by_cases z:j < lv.length
  .left;rw[List.getElem?_set,if_pos rfl,if_pos z]
  .right;lia
theorem Inv.relEv {lev:Nat->Lv}{cl:Nat->List Wd->Me->Rz}{cd:Nat->List Dat->Rd}(H:CallO lev cl cd){lo:Nat}{RR:Nat->Prop}{m:Me}{de:DEn}{lv:List Lv}{env:En}{A:Nat->List Nat}(I:Inv lo RR m de lv env A)(e:Ex):
  ∃A',Inv lo RR m de (xC e de lv) env A'/\Keep A m A' m/\(∀k,k∉zm e->A' k=A k)/\SimO (yK RR A') m (lvE lev e) (evE cl e env m) (evD cd e de):=by
 have gen:xC e de lv=Vl.downs (zm e) lv->∃A',Inv lo RR m de (xC e de lv) env A'/\Keep A m A' m/\(∀k,k∉zm e->A' k=A k)/\SimO (yK RR A') m (lvE lev e) (evE cl e env m) (evD cd e de):=by
  intro h
  rw[h]
  obtain ⟨A',I',K,h1,_,h3⟩:=Inv.downs (zm e) I
  refine ⟨A',I',K,h3,xB H e _ m de env (gc I' fun i hi l hl=>?_)⟩
  rw[yV] at hl
  split at hl
  .cases hl;rfl
  .next z=>rw[List.getElem?_eq_none (by have:¬ i < lv.length:=fun q=>z ⟨hi,q⟩;lia)] at hl;cases hl
 cases e with
 | idx a b =>
  cases a with
  | var j =>
   show ∃A',Inv lo RR m de (Vl.topD de j (Vl.downs (zm b) lv)) env A'/\_
   obtain ⟨A1,I1,K1,h1,h2,h3⟩:=Inv.downs (zm b) I
   obtain ⟨A2,I2,K2,g1,g2⟩:=I1.topD j
   have hne:∀k,k∉zm (.idx (.var j) b)->A2 k=A k:=by
    intro k hk
    replace hk:k∉j::zm b:=hk
    rw[List.mem_cons,not_or] at hk
    rw[g1 k hk.1,h3 k hk.2]
   refine ⟨A2,I2,K1.trans K2,hne,?_⟩
   have lvno:∀i,i∈zm b->i≠j->∀l,(Vl.topD de j (Vl.downs (zm b) lv))[i]?=some l->l=.no:=by
    intro i hi hij l hl
    rw[zaH _ _ _ hij,yV] at hl
    split at hl
    .cases hl;rfl
    .next z=>rw[List.getElem?_eq_none (by have:¬ i < lv.length:=fun q=>z ⟨hi,q⟩;lia)] at hl;cases hl
   rcases g2 with ⟨ds,l,xs,hd,hA,he,hm,hr⟩ | g2
   .have hjb:j∉zm b:=fun z=>by
     have h0:=h1 j z
     have hx:l∈A1 j:=by
      have i1:=I1
      by_cases q:l∈A1 j
      .exact q
      .exfalso
       have:=(K2.1 l _ (fun k hk=>?_) hm).1 j
       .rw[hA] at this;exact this (by simp)
       .by_cases ek:k=j
        .rw[ek] at hk;exact q hk
        .have e1:=g1 k ek
         rw[<- e1] at hk
         exact ek (I2.dj k j l hk (by rw[hA];simp))
     rw[h0] at hx
     cases hx
    refine SimE.own ?_ (fun d=>rfl)
    show SimE _ m ((evE cl (.var j) env m).bind fun x m1=>(evE cl b env m1).bind fun y m2=>vB x y m2) ((evD cd (.var j) de).bind fun x=>(evD cd b de).bind fun y=>yo x y)
    have e1:evE cl (.var j) env m=.ok (.ref l) m:=kX he m
    have e2:evD cd (.var j) de=.ok (.lst ds):=xj hd
    rw[e1,e2]
    simp only[Rz.bind,Rd.bind]
    refine (zf H.r b _ m de env (gc I2 fun i hi=>lvno i hi (fun e=>hjb (by rw[<- e];exact hi)))).bind fun d2 w2 m2 l2 k2=>?_
    exact zc7 (hr.up _ l2) (l2 l _ hm) k2
   .refine xB H _ _ m de env (gc I2 fun i hi l hl=>?_)
    replace hi:i∈j::zm b:=hi
    rw[List.mem_cons] at hi
    by_cases e:i=j
    .rw[e] at hl
     rcases g2 with g2 | g2
     .rw[g2] at hl;cases hl;rfl
     .have:(Vl.topD de j (Vl.downs (zm b) lv)).length=(Vl.downs (zm b) lv).length:=by rw[I2.lvl,I1.lvl]
      rw[List.getElem?_eq_none (by lia)] at hl;cases hl
    .rcases hi with z | z
     .exact absurd z e
     .exact lvno i z e l hl
  | _=>exact gen rfl
 | _=>exact gen rfl
def SimS (lo:Nat)(RR:Nat->Prop)(A:Nat->List Nat)(m:Me)(r:Rs)(rd:Rsd):Prop:=match rd with
 | .next de lv=>∃env m' A',r=.next env m'/\Inv lo RR m' de lv env A'/\Keep A m A' m'
 | .brk de lv=>∃env m' A',r=.brk env m'/\Inv lo RR m' de lv env A'/\Keep A m A' m'
 | .cont de lv=>∃env m' A',r=.cont env m'/\Inv lo RR m' de lv env A'/\Keep A m A' m'
 | .ret d l=>∃w m' B,r=.ret w m'/\((∀ (x:Nat) o,(∀i,x∉A i)->m[x]?=some o->m'[x]?=some o)/\m.length<=m'.length)/\RepO (fun x=>RR x/\x∉B) m' l d w B/\B.Nodup/\∀b∈B,lo<=b
 | .exc c d=>∃w e m',r=.exc c w e m'/\((∀ (x:Nat) o,(∀i,x∉A i)->m[x]?=some o->m'[x]?=some o)/\m.length<=m'.length)/\Rep RR m' d w
 | .no=>True
theorem SimS.keep {lo:Nat}{RR:Nat->Prop}{A A1:Nat->List Nat}{m m1:Me}{r:Rs}{rd:Rsd}(K:Keep A m A1 m1)(h:SimS lo RR A1 m1 r rd):SimS lo RR A m r rd:=by
 cases rd with
 | next de lv=>obtain ⟨e,m',A',h,I,k⟩:=h;exact ⟨e,m',A',h,I,K.trans k⟩
 | brk de lv=>obtain ⟨e,m',A',h,I,k⟩:=h;exact ⟨e,m',A',h,I,K.trans k⟩
 | cont de lv=>obtain ⟨e,m',A',h,I,k⟩:=h;exact ⟨e,m',A',h,I,K.trans k⟩
 | ret d l=>obtain ⟨w,m',B,h,k,z⟩:=h;exact ⟨w,m',B,h,⟨fun x o a b=>k.1 x o (K.1 x o a b).1 (K.1 x o a b).2,Nat.le_trans K.2 k.2⟩,z⟩
 | exc c d=>obtain ⟨w,e,m',h,k,z⟩:=h;exact ⟨w,e,m',h,⟨fun x o a b=>k.1 x o (K.1 x o a b).1 (K.1 x o a b).2,Nat.le_trans K.2 k.2⟩,z⟩
 | no=>trivial
theorem Inv.rf {lo:Nat}{RR:Nat->Prop}{m m':Me}{de:DEn}{lv:List Lv}{env:En}{A:Nat->List Nat}(I:Inv lo RR m de lv env A){d:Dat}{w:Wd}(h:Rep (Rf RR m.length) m' d w):Rep RR m' d w :=
 Rep.frame (fun x o r z=>⟨by rcases r with r | r;exact r;exact I.rr x (Nat.le_trans I.lom r),z⟩) d w h
theorem Inv.bindE {cl:Nat->List Wd->Me->Rz}{cd:Nat->List Dat->Rd}(H:CallR cl cd){lo:Nat}{RR:Nat->Prop}{m:Me}{de:DEn}{lv:List Lv}{env:En}{A:Nat->List Nat}(I:Inv lo RR m de lv env A)(e:Ex){f:Wd->Me->Rs}{g:Dat->Rsd}
  (k:∀d w m1,evD cd e de=.ok d->evE cl e env m=.ok w m1->Le m m1->Rep RR m1 d w->SimS lo RR A m1 (f w m1) (g d)):SimS lo RR A m ((evE cl e env m).bindS env f) ((evD cd e de).bindS g):=by
 have h:=zf H e RR m de env (I.envR _)
 cases z:evD cd e de with
 | no=>trivial
 | exc c d =>
  rw[z] at h
  obtain ⟨w,m',h,l,r⟩:=h
  rw[h]
  exact ⟨w,env,m',rfl,⟨fun x o _ b=>l x o b,l.len⟩,I.rf r⟩
 | ok d =>
  rw[z] at h
  obtain ⟨w,m',h,l,r⟩:=h
  have:=k d w m' z h l (I.rf r)
  rw[h]
  exact SimS.keep (j9 l) this
theorem Inv.own {lev:Nat->Lv}{cl:Nat->List Wd->Me->Rz}{cd:Nat->List Dat->Rd}(H:CallO lev cl cd){lo:Nat}{RR:Nat->Prop}{m m1:Me}{de:DEn}{lv:List Lv}{env:En}{A:Nat->List Nat}(I:Inv lo RR m de lv env A){e:Ex}{d:Dat}{w:Wd}(h1:evD cd e de=.ok d)(h2:evE cl e env m=.ok w m1):
  ∃B,RepO (fun x=>RR x/\x∉B) m1 (lvE lev e d) d w B/\B.Nodup/\∀b∈B,m.length<=b:=by
 have h:=xB H e RR m de env (I.envR _)
 rw[h1] at h
 obtain ⟨w',m',B,h3,l,r,nd,hB⟩:=h
 rw[h2] at h3;cases h3
 exact ⟨B,r.frame (fun x o r z=>⟨⟨by rcases r.1 with r | r;exact r;exact I.rr x (Nat.le_trans I.lom r),r.2⟩,z⟩) (fun _ _ _ z=>z),nd,hB⟩
section
variable {lev:Nat->Lv}{cl:Nat->List Wd->Me->Rz}{cd:Nat->List Dat->Rd}{lo:Nat}{RR:Nat->Prop}{m:Me}{de:DEn}{lv:List Lv}{env:En}{A:Nat->List Nat}
theorem vh {j:Nat}{ds:List Dat}(h:xD de j=some ds):de[j]?=some (some (.lst ds)):=by
 unfold xD at h
 split at h
 .next z=>cases h;exact z
 .cases h
set_option tactic.hygienic true in
theorem gd {j:Nat}{r:Dat}{f:List Dat->Option (List Dat)}{de1:DEn}(h:vM j r de lv f=some de1):
  ∃k ds p es es1,r=.int k/\de[j]?=some (some (.lst ds))/\ix ds.length k=some p/\ds[p]?=some (.lst es)/\f es=some es1/\lv[j]?=some .full/\de1=de.set j (some (.lst (ds.set p (.lst es1)))):=by
 unfold vM at h
 split at h
 .next k ds h1 =>
  split at h
  .next ds1 h2 =>
   split at h
   .next h3 =>
    cases h
    obtain ⟨p,h4,h5⟩:=Option.bind_eq_some_iff.mp h2
    obtain ⟨d,h6,h7⟩:=Option.bind_eq_some_iff.mp h5
    split at h7
    .next es =>
     obtain ⟨es1,h8,h9⟩:=Option.map_eq_some_iff.mp h7
     exact ⟨k,ds,p,es,es1,rfl,vh h1,h4,h6,h8,h3,by rw[h9]⟩
    .cases h7
   .cases h
  .cases h
 .cases h
theorem k8 {m:Me}{l p:Nat}{xs:List Wd}{k:Int}{w:Wd}(hm:m[l]?=some (.lst xs))(hk:ix xs.length k=some p)(hp:xs[p]?=some w):vB (.ref l) (.int k) m=.ok w m:=by
 simp[vB,xu,zE,hm,hk,hp]
theorem xp {j:Nat}{w:Wd}(h:env[j]?=some (some w))(m:Me):evE cl (.var j) env m=.ok w m:=by
 exact kX h m
theorem zeC (H:CallO lev cl cd)(I:Inv lo RR m de lv env A)(i:Nat)(e:Ex):SimS lo RR A m (exS cl (.asg i e) env m) (exD lev cd (.asg i e) de lv):=by
 have h:SimS lo RR A m ((evE cl e env m).bindS env fun w m1=>.next (env.set i (some w)) m1) ((evD cd e de).bindS fun d=>vg lev i e d de lv):=by
  cases z:evD cd e de with
  | no=>trivial
  | exc c d =>
   have:=I.bindE H.r e (f:=fun w m1=>.next (env.set i (some w)) m1) (g:=fun d=>.no) (fun _ _ _ _ _ _ _=>trivial)
   rw[z] at this;exact this
  | ok d =>
   show SimS lo RR A m _ (vg lev i e d de lv)
   unfold vg
   by_cases f:lvE lev e d=.full
   .rw[if_pos f]
    have h:=xB H e RR m de env (I.envR _)
    rw[z] at h
    obtain ⟨w,m1,B,h2,l,r,nd,hB⟩:=h
    rw[h2]
    rw[f] at r
    obtain ⟨I',K⟩:=I.store l i (l:=.full) (d:=d) (w:=w) (B:=B) r nd hB
    exact ⟨_,_,_,rfl,I',K⟩
   .rw[if_neg f]
    obtain ⟨A1,I1,K1,_,h⟩:=I.relEv H e
    rw[z] at h
    obtain ⟨w,m1,B,h2,l,r,nd,hB⟩:=h
    rw[h2]
    obtain ⟨I',K⟩:=I1.store l i (l:=lvE lev e d) (d:=d) (w:=w) (B:=B) r nd hB
    exact ⟨_,_,_,rfl,I',K1.trans K⟩
 exact h
theorem g8 (H:CallO lev cl cd)(I:Inv lo RR m de lv env A){e:Ex}{d:Dat}{w:Wd}{m1:Me}{j:Nat}{ds:List Dat}{de1:DEn}{lv1:List Lv}(hd:de[j]?=some (some (.lst ds)))(h1:evD cd e de=.ok d)(h2:evE cl e env m=.ok w m1)(l1:Le m m1){m2:Me}(l2:Le m1 m2)
  (g:xo lev e d j de lv=some (de1,lv1)) (F:List Dat->Dat->List Dat) (G:List Wd->Wd->List Wd)
  (cF:∀ (m m1:Me) (A:Nat->List Nat) (ds:List Dat) (xs:List Wd) (d:Dat) (w:Wd) (B0:List Nat),Le m m1->Own m1 d w B0->B0.Nodup->(∀b∈B0,m.length<=b)->Chg RR A m m1 ds xs (F ds d) (G xs w))
  (cM:∀ (m:Me) (ds:List Dat) (xs:List Wd) (d:Dat) (w:Wd) (B B0:List Nat),(B++B0).Nodup->OwnL m ds xs B->Own m d w B0->∃B',OwnL m (F ds d) (G xs w) B'/\B'.Nodup/\∀b∈B',b∈B\/b∈B0)
  (cT:∀ (R:Nat->Prop) (m:Me) (ds:List Dat) (xs:List Wd) (d:Dat) (w:Wd),RepL R m ds xs->Rep R m d w->RepL R m (F ds d) (G xs w)) :
  ∃l xs,env[j]?=some (some (.ref l))/\m2[l]?=some (.lst xs)/\ds.length=xs.length/\∃A',Inv lo RR (m2.set l (.lst (G xs w))) (de1.set j (some (.lst (F ds d)))) lv1 env A'/\Keep A m A' (m2.set l (.lst (G xs w))):=by
 have l12:=l1.trans l2
 unfold xo at g
 split at g
 .cases g
 .next ho =>
  have ho:zP lv j=true:=by simpa using ho
  split at g
  .next f =>
   cases g
   obtain ⟨B,r,nd,hB⟩:=I.own H h1 h2
   rw[f] at r
   obtain ⟨l,xs,he,hm,hr,put⟩:=I.mut hd ho
   have r':Own m2 d w B:=Own.frame d w B (fun x _ o z=>l2 x o z) r
   refine ⟨l,xs,he,l12 l _ hm,hr.len,put m2 _ _ l12 (fun _=>(cF m m2 A ds xs d w B l12 r' nd hB).1) (fun _=>(cF m m2 A ds xs d w B l12 r' nd hB).2)⟩
  .next f =>
   split at g
   .cases g
   .next hj =>
    have share:lv1=(xC e de lv).set j .top->de1=de->∃l xs,env[j]?=some (some (.ref l))/\m2[l]?=some (.lst xs)/\ds.length=xs.length/\∃A',Inv lo RR (m2.set l (.lst (G xs w))) (de1.set j (some (.lst (F ds d)))) lv1 env A'/\Keep A m A' (m2.set l (.lst (G xs w))):=by
     rintro rfl rfl
     obtain ⟨A1,I1,K1,hA1,h⟩:=I.relEv H e
     rw[h1] at h
     have ho1:zP (xC e de1 lv) j=true:=by unfold zP;rw[zaI e _ _ hj];exact ho
     obtain ⟨l,xs,A2,I2,K2,g1,g2,he,hm,hr,hlA⟩:=I1.top j hd ho1
     have hs:=h.sim
     obtain ⟨w',m',h3,_,rw0⟩:=hs
     rw[h2] at h3;cases h3
     have hjl:j < (xC e de1 lv).length:=by rw[I1.lvl];exact (List.getElem?_eq_some_iff.mp hd).1
     have ho2:zP ((xC e de1 lv).set j .top) j=true:=by unfold zP;rw[List.getElem?_set,if_pos rfl,if_pos hjl]
     have hlv:((xC e de1 lv).set j .top)[j]?=some .top:=by rw[List.getElem?_set,if_pos rfl,if_pos hjl]
     obtain ⟨l',xs',he',hm',_,put⟩:=I2.mut hd ho2
     rw[he] at he';cases he'
     rw[hm] at hm';cases hm'
     obtain ⟨A3,I3,K3⟩:=put m2 (F ds d) (G xs w) l12 (fun z=>by rw[hlv] at z;cases z) (fun _ q=>by
      refine cT _ m2 ds xs d w (RepL.frame (fun x o r z=>⟨.inl r,l12 x o z⟩) _ _ q) (Rep.frame (fun x o r z=>⟨?_,l2 x o z⟩) _ _ rw0)
      rcases r with r | r
      .left
       refine ⟨r.1,fun k hk=>?_⟩
       by_cases ek:k=j
       .rw[ek,g1] at hk
        rw[List.mem_singleton.mp hk] at r
        exact r.2 j hlA
       .rw[g2 k ek] at hk;exact r.2 k hk
      .exact .inr r)
     exact ⟨l,xs,he,l12 l _ hm,hr.len,A3,I3,(K1.trans K2).trans K3⟩
    split at g
    .next i =>
     split at g
     .next hfull =>
      cases g
      have hij:i≠j:=fun e=>hj (by rw[e];exact List.mem_singleton.mpr rfl)
      -- the move
      have hdi:de[i]?=some (some d):=by
       exact zaz h1
      obtain ⟨wi,hei,ri⟩:=I.slot i d .full hdi hfull.1
      have:evE cl (.var i) env m=.ok wi m:=xp hei m
      rw[this] at h2;cases h2
      obtain ⟨wj,hej,rj⟩:=I.slot j _ .full hd hfull.2
      obtain ⟨l,xs,B,rfl,hA,hm,r⟩:=own_lst.mp rj
      have hlm:=(List.getElem?_eq_some_iff.mp hm).1
      have nd:=I.nd j
      rw[hA] at nd
      obtain ⟨n0,n1⟩:=List.nodup_cons.mp nd
      have nBi:(B++A i).Nodup:=List.nodup_append.mpr ⟨n1,I.nd i,fun x hx y hy e=>by
       subst e
       exact hij (I.dj i j x hy (by rw[hA];exact List.mem_cons_of_mem _ hx))⟩
      obtain ⟨B',o,nB',hB'⟩:=cM m ds xs d w B (A i) nBi r ri
      have lB':l∉B':=fun z=>by
       rcases hB' l z with q | q
       .exact n0 q
       .exact hij (I.dj i j l q (by rw[hA];simp))
      have sub:∀x∈l::B',x∈A j\/x∈A i:=by
       intro x hx
       rcases List.mem_cons.mp hx with rfl | hx
       .left;rw[hA];simp
       .rcases hB' x hx with q | q
        .left;rw[hA];exact List.mem_cons_of_mem _ q
        .exact .inr q
      have hjl:j < de.length:=(List.getElem?_eq_some_iff.mp hd).1
      have hil:i < de.length:=(List.getElem?_eq_some_iff.mp hdi).1
      have ui:upd (upd A i []) j (l::B') i=[]:=by rw[zd hij,zg]
      have uo:∀k,k≠i->k≠j->upd (upd A i []) j (l::B') k=A k:=fun k a b=>by rw[zd b,zd a]
      have ll2:=l2.len
      refine ⟨l,xs,hej,l2 l _ hm,r.len,upd (upd A i []) j (l::B'),?_⟩
      refine I.put l2 (j:=j) (l:=l) (xs:=xs) (by rw[hA];simp) _ ?_ ?_ ?_ ?_ (by simp) rfl ?_ ?_
      .intro k x hx
       left
       by_cases e:k=j
       .rw[e,zg] at hx
        rcases sub x hx with q | q
        .exact ⟨j,q⟩
        .exact ⟨i,q⟩
       .by_cases f:k=i
        .rw[f,ui] at hx;cases hx
        .rw[uo k f e] at hx;exact ⟨k,hx⟩
      .intro k
       by_cases e:k=j
       .rw[e,zg];exact List.nodup_cons.mpr ⟨lB',nB'⟩
       .by_cases f:k=i
        .rw[f,ui];simp
        .rw[uo k f e];exact I.nd k
      .have main:∀k x,k≠j->x∈l::B'->x∈upd (upd A i []) j (l::B') k->False:=by
        intro k x e hx hk
        by_cases f:k=i
        .rw[f,ui] at hk;cases hk
        .rw[uo k f e] at hk
         rcases sub x hx with q | q
         .exact e (I.dj k j x hk q)
         .exact f (I.dj k i x hk q)
       intro a b x ha hb
       by_cases e:a=j
       .by_cases f:b=j
        .rw[e,f]
        .rw[e,zg] at ha;exact (main b x f ha hb).elim
       .by_cases f:b=j
        .rw[f,zg] at hb;exact (main a x e hb ha).elim
        .by_cases g:a=i
         .rw[g,ui] at ha;cases ha
         .by_cases h:b=i
          .rw[h,ui] at hb;cases hb
          .rw[uo a g e] at ha;rw[uo b h f] at hb;exact I.dj a b x ha hb
      .intro k x hx
       by_cases e:k=j
       .rw[e,zg] at hx
        rcases sub x hx with q | q
        .exact ⟨(I.bd j x q).1,Nat.lt_of_lt_of_le (I.bd j x q).2 ll2⟩
        .exact ⟨(I.bd i x q).1,Nat.lt_of_lt_of_le (I.bd i x q).2 ll2⟩
       .by_cases f:k=i
        .rw[f,ui] at hx;cases hx
        .rw[uo k f e] at hx;exact ⟨(I.bd k x hx).1,Nat.lt_of_lt_of_le (I.bd k x hx).2 ll2⟩
      .intro k d' lk e g1 g2
       rw[List.getElem?_set_ne (Ne.symm e)] at g1
       by_cases f:k=i
       .rw[f,List.getElem?_set,if_pos rfl,if_pos hil] at g1;cases g1
       .rw[List.getElem?_set_ne (Ne.symm f)] at g1
        exact ⟨g1,g2,uo k f e⟩
      .intro d' lj g1 g2
       rw[List.getElem?_set,if_pos rfl,if_pos (by simpa using hjl)] at g1
       cases g1
       rw[hfull.2] at g2;cases g2
       refine ⟨_,hej,?_⟩
       rw[zg]
       exact own_lst.mpr ⟨l,_,B',rfl,rfl,zM (l2 l _ hm),OwnL.frame _ _ B' (fun x hx o z=>by rw[zB (l:=l) (x:=x) (fun e=>lB' (by rw[e];exact hx))];exact l2 x o z) o⟩
     .cases g;exact share rfl rfl
    .cases g;exact share rfl rfl
end
section
variable {lev:Nat->Lv}{cl:Nat->List Wd->Me->Rz}{cd:Nat->List Dat->Rd}{lo:Nat}{RR:Nat->Prop}{m:Me}{de:DEn}{lv:List Lv}{env:En}{A:Nat->List Nat}
theorem zgb {n:Mth}{o e:Ex}{x w:Wd}{m1 m2:Me}(h1:evE cl o env m=.ok x m1)(h2:evE cl e env m1=.ok w m2):evE cl (.meth n o (.pair e .unit)) env m=mtR n x [w] m2:=by
 show (evE cl o env m).bind (fun x m1=>((evE cl e env m1).bind fun a m2=>.ok (.tup [a]) m2).bind fun y m2=>mtR n x (zp y) m2)=_
 rw[h1]
 show (((evE cl e env m1).bind fun a m2=>.ok (.tup [a]) m2).bind fun y m2=>mtR n x (zp y) m2)=_
 rw[h2]
 rfl
theorem zeD {n:Mth}{o:Ex}{x:Wd}{m1:Me}(h1:evE cl o env m=.ok x m1):evE cl (.meth n o .unit) env m=mtR n x [] m1:=by
 show (evE cl o env m).bind (fun x m1=>mtR n x [] m1)=_
 rw[h1]
 rfl
theorem zeE {m:Me}{ds:List Dat}{xs:List Wd}{d:Dat}{w:Wd}{B B0:List Nat}(n:(B++B0).Nodup)(a:OwnL m ds xs B)(b:Own m d w B0):∃B',OwnL m (ds++[d]) (xs++[w]) B'/\B'.Nodup/\∀b∈B',b∈B\/b∈B0 :=
 ⟨B++(B0++[]),a.app (.cons b .nil),by simpa using n,fun x hx=>by simpa using hx⟩
theorem zeF {m:Me}{ds:List Dat}{xs:List Wd}{d:Dat}{w:Wd}{B B0:List Nat}(p:Nat)(n:(B++B0).Nodup)(a:OwnL m ds xs B)(b:Own m d w B0):∃B',OwnL m (ds.set p d) (xs.set p w) B'/\B'.Nodup/\∀b∈B',b∈B\/b∈B0:=by
 cases hp:ds[p]? with
 | none =>
  have h1:ds.length<=p:=List.getElem?_eq_none_iff.mp hp
  rw[List.set_eq_of_length_le h1,List.set_eq_of_length_le (by rw[<- a.len];exact h1)]
  exact ⟨B,a,(List.nodup_append.mp n).1,fun b hb=>.inl hb⟩
 | some e =>
  obtain ⟨y,B1,Bp,B2,h1,rfl,h3,_,h4⟩:=OwnL.split a hp
  refine ⟨B1++(B0++B2),h4 m d w B0 (fun l _ o z=>z) b,?_,?_⟩
  .obtain ⟨q1,q2,q3⟩:=List.nodup_append.mp n
   obtain ⟨n1,n2,n3⟩:=List.nodup_append.mp q1
   obtain ⟨n4,n5,n6⟩:=List.nodup_append.mp n2
   refine List.nodup_append.mpr ⟨n1,List.nodup_append.mpr ⟨q2,n5,fun x hx y hy e=>q3 y (by simp[hy]) x hx e.symm⟩,fun x hx y hy e=>?_⟩
   rcases List.mem_append.mp hy with hy | hy
   .exact q3 x (by simp[hx]) y hy e
   .exact n3 x hx y (by simp[hy]) e
  .intro x hx
   simp only[List.mem_append] at hx ⊢
   rcases hx with z | z | z
   .exact .inl (.inl z)
   .exact .inr z
   .exact .inl (.inr (.inr z))
theorem SimS.okS {r:Rs}{rd:Rd}{g:Dat->Rsd}(h:∀d,rd=.ok d->SimS lo RR A m r (g d)):SimS lo RR A m r (rd.okS g):=by
 cases rd with
 | ok d=>exact h d rfl
 | _=>trivial
theorem Inv.ok (H:CallR cl cd)(I:Inv lo RR m de lv env A){e:Ex}{d:Dat}(h:evD cd e de=.ok d){m1:Me}(l:Le m m1):∃w m2,evE cl e env m1=.ok w m2/\Le m1 m2/\Rep RR m2 d w:=by
 have q:=zf H e RR m1 de env ((I.ext l).envR _)
 rw[h] at q
 obtain ⟨w,m2,a,b,c⟩:=q
 exact ⟨w,m2,a,b,(I.ext l).rf c⟩
set_option tactic.hygienic true in
theorem zc8 (H:CallO lev cl cd)(I:Inv lo RR m de lv env A)(j:Nat)(e:Ex):SimS lo RR A m (exS cl (.expr (.meth .append (.var j) (.pair e .unit))) env m) (exD lev cd (.expr (.meth .append (.var j) (.pair e .unit))) de lv):=by
 show SimS _ _ _ _ ((evE cl _ env m).bindS env _) _
 refine SimS.okS fun d h1=>?_
 split
 .next ds hl =>
  split
  .next hlim =>
   split
   .next de1 lv1 g =>
    obtain ⟨w,m1,h2,l1,r1⟩:=I.ok H.r h1 (Le.refl m)
    obtain ⟨l,xs,he,hm,hlen,A',I',K⟩:=g8 H I (vh hl) h1 h2 l1 (Le.refl m1) g (fun ds d=>ds++[d]) (fun xs w=>xs++[w])
     (fun _ _ _ _ _ _ _ _ le o nd hB=>zeB le o nd hB) (fun _ _ _ _ _ _ _ n a b=>zeE n a b) (fun _ _ _ _ _ _ a b=>a.app (.cons b .nil))
    rw[zgb (xp he m) h2]
    have:mtR .append (.ref l) [w] m1=.ok .non (m1.set l (.lst (xs++[w]))):=by
     simp only[mtR,hm];rw[if_pos (by lia)]
    rw[this]
    exact ⟨_,_,A',rfl,I',K⟩
   .trivial
  .trivial
 .trivial
set_option tactic.hygienic true in
theorem zc9 (I:Inv lo RR m de lv env A)(j:Nat):SimS lo RR A m (exS cl (.expr (.meth .reverse (.var j) .unit)) env m) (exD lev cd (.expr (.meth .reverse (.var j) .unit)) de lv):=by
 show SimS _ _ _ _ ((evE cl _ env m).bindS env _) (match xD de j with
   | some ds=>if zP lv j then .next (de.set j (some (.lst ds.reverse))) lv else .no
   | none=>.no)
 split
 .next ds hl =>
  split
  .next ho =>
   obtain ⟨l,xs,he,hm,hr,put⟩:=I.mut (vh hl) ho
   obtain ⟨A',I',K⟩:=put m ds.reverse xs.reverse (Le.refl m) (fun _=>(chg_rev (RR:=RR) (A:=A)).1) (fun _=>chg_rev.2)
   rw[zeD (xp he m)]
   have:mtR .reverse (.ref l) [] m=.ok .non (m.set l (.lst xs.reverse)):=by simp only[mtR,hm]
   rw[this]
   exact ⟨_,_,A',rfl,I',K⟩
  .trivial
 .trivial
theorem row_at (H:CallR cl cd)(I:Inv lo RR m de lv env A){j p:Nat}{r:Ex}{k:Int}{ds:List Dat}{l l2:Nat}{xs:List Wd}(hr:evD cd r de=.ok (.int k))(hp:ix ds.length k=some p)(he:env[j]?=some (some (.ref l)))(hm:m[l]?=some (.lst xs))(hlen:ds.length=xs.length)(hx:xs[p]?=some (.ref l2)){m0:Me}(l0:Le m m0):
  ∃m1,evE cl (.idx (.var j) r) env m0=.ok (.ref l2) m1/\Le m0 m1:=by
 obtain ⟨w,m1,h2,l1,r1⟩:=I.ok H hr l0
 rw[rep_int.mp r1] at h2
 refine ⟨m1,?_,l1⟩
 show (evE cl (.var j) env m0).bind (fun x m1=>(evE cl r env m1).bind fun y m2=>vB x y m2)=_
 rw[xp he m0]
 simp only[Rz.bind,h2]
 exact k8 (l1 l _ (l0 l _ hm)) (by rw[<- hlen];exact hp) hx
theorem gf {r:Rs}{o:Option DEn}{lv1:List Lv}(h:∀de1,o=some de1->SimS lo RR A m r (.next de1 lv1)):SimS lo RR A m r (toS o lv1):=by
 cases o with
 | none=>trivial
 | some d=>exact h d rfl
end
section
variable {lev:Nat->Lv}{cl:Nat->List Wd->Me->Rz}{cd:Nat->List Dat->Rd}{lo:Nat}{RR:Nat->Prop}{m:Me}{de:DEn}{lv:List Lv}{env:En}{A:Nat->List Nat}
mutual
theorem Rep.avoid {R R':Nat->Prop}{m:Me}{D:Dat}{l:Nat}(hD:Rep R' m D (.ref l)):∀ (d:Dat) (w:Wd),dep d < dep D->Rep R m d w->Rep (fun x=>R x/\x≠l) m d w
 | .non,w,h,q=>rep_non.mpr (rep_non.mp q)
 | .bl _,w,h,q=>rep_bl.mpr (rep_bl.mp q)
 | .int _,w,h,q=>rep_int.mpr (rep_int.mp q)
 | .str _,w,h,q=>rep_str.mpr (rep_str.mp q)
 | .scr _,w,h,q=>rep_scr.mpr (rep_scr.mp q)
 | .tup ds,w,h,q=>by
  obtain ⟨xs,rfl,q1⟩:=rep_tup.mp q
  exact rep_tup.mpr ⟨xs,rfl,RepL.avoid hD ds xs (by rw[show dep (.tup ds)=depL ds+1 from by simp[dep]] at h;lia) q1⟩
 | .lst ds,w,h,q=>by
  obtain ⟨k,xs,rfl,r,hm,q1⟩:=rep_lst.mp q
  refine rep_lst.mpr ⟨k,xs,rfl,⟨r,fun e=>?_⟩,hm,RepL.avoid hD ds xs (by rw[show dep (.lst ds)=depL ds+1 from by simp[dep]] at h;lia) q1⟩
  subst e
  have:=Rep.det _ _ _ q hD
  rw[this] at h
  lia
theorem RepL.avoid {R R':Nat->Prop}{m:Me}{D:Dat}{l:Nat}(hD:Rep R' m D (.ref l)):∀ (ds:List Dat) (xs:List Wd),depL ds < dep D->RepL R m ds xs->RepL (fun x=>R x/\x≠l) m ds xs
 | [],xs,h,q=>by rw[q.nil_inv];exact .nil
 | d::ds,xs,h,q=>by
  obtain ⟨x,r,rfl,a,b⟩:=q.cons_inv
  unfold depL at h
  exact .cons (Rep.avoid hD d x (by lia) a) (RepL.avoid hD ds r (by lia) b)
end
theorem wg {m:Me}{l p:Nat}{xs:List Wd}{k:Int}{w:Wd}(hm:m[l]?=some (.lst xs))(hk:ix xs.length k=some p):wU (.ref l) (.int k) w m=.ok .non (m.set l (.lst (xs.set p w))):=by
 simp[wU,hm,hk]
set_option tactic.hygienic true in
theorem zda (H:CallO lev cl cd)(I:Inv lo RR m de lv env A)(j:Nat)(k e:Ex):SimS lo RR A m (exS cl (.asgS (.var j) k e) env m) (exD lev cd (.asgS (.var j) k e) de lv):=by
 show SimS _ _ _ _ ((evE cl e env m).bindS env _) _
 refine SimS.okS fun d h1=>SimS.okS fun kv hk=>?_
 unfold zc6
 split
 .next k' ds hl =>
  have hd:=vh hl
  split
  .next p hp =>
   obtain ⟨w,m1,h2,l1,r1⟩:=I.ok H.r h1 (Le.refl m)
   obtain ⟨wk,m2,h3,l2,r3⟩:=I.ok H.r hk l1
   rw[rep_int.mp r3] at h3
   split
   .next de1 lv1 g =>
    obtain ⟨l,xs,he,hm,hlen,A',I',K⟩:=g8 H I hd h1 h2 l1 l2 g (fun ds d=>ds.set p d) (fun xs w=>xs.set p w)
     (fun _ _ _ _ _ _ _ _ le o nd hB=>kl p le o nd hB) (fun _ _ _ _ _ _ _ n a b=>zeF p n a b) (fun _ _ _ _ _ _ a b=>a.set p b)
    simp only[h2,Rz.bindS,xp he m1,h3,wg hm (by rw[<- hlen];exact hp)]
    exact ⟨_,_,A',rfl,I',K⟩
   .next g =>
    split
    .next c =>
     simp only[Bool.and_eq_true,decide_eq_true_eq] at c
     obtain ⟨⟨ho,hdep⟩,_⟩:=c
     obtain ⟨l,xs,A0,I0,K0,g1,g2,he,hm,hr,hlA⟩:=I.top j hd ho
     obtain ⟨A1,I1,K1,q1,q2,q3⟩:=Inv.downs ((zm e).filter (·≠j)) I0
     have hA1j:A1 j=[l]:=by rw[q3 j (by simp),g1]
     have elv:downs ((zm e).filter (·≠j)) (lv.set j .top)=(downs (zm e) lv).set j .top:=by
      apply List.ext_getElem?
      intro i
      rw[yV,List.getElem?_set]
      by_cases ei:j=i
      .subst ei
       rw[if_neg (by simp),if_pos rfl,List.getElem?_set,if_pos rfl,vN]
      .rw[if_neg ei,List.getElem?_set_ne ei,yV,List.length_set]
       have:(i∈(zm e).filter (·≠j))↔i∈zm e:=by simp[List.mem_filter];intro _;exact fun z=>ei z.symm
       simp only[this]
     rw[elv] at I1
     have lno:∀i∈zm e,i≠j->∀x,((downs (zm e) lv).set j .top)[i]?=some x->x=.no:=by
      intro i hi hij x hx
      rw[List.getElem?_set_ne (Ne.symm hij),yV] at hx
      split at hx
      .cases hx;rfl
      .next z=>rw[List.getElem?_eq_none (by have:¬ i < lv.length:=fun q=>z ⟨hi,q⟩;lia)] at hx;cases hx
     have hr1:RepL (yK RR A1) m ds xs:=(K1.repL hr)
     have env1:EnvR (fun x=>yK RR A1 x\/x=l) m (zm e) de env:=by
      refine ⟨I1.len,fun i hi d' hd'=>?_⟩
      by_cases ei:i=j
      .subst ei
       rw[hd] at hd';cases hd'
       exact ⟨_,he,rep_lst.mpr ⟨l,xs,rfl,.inr rfl,hm,RepL.frame (fun x o r z=>⟨.inl r,z⟩) _ _ hr1⟩⟩
      .obtain ⟨li,hli⟩:=I1.getlv hd'
       obtain ⟨w',a,b⟩:=I1.slot i d' li hd' hli
       rw[lno i hi ei li hli] at b
       exact ⟨w',a,Rep.frame (fun x o r z=>⟨.inl r,z⟩) _ _ b.1⟩
     have hs:=zf H.r e _ m de env env1
     rw[h1] at hs
     obtain ⟨w',m1',h2',_,rw1⟩:=hs
     rw[h2] at h2';cases h2'
     have rwa:=Rep.avoid (D:=.lst ds) (l:=l) (R':=fun _=>True) (m:=m1) (rep_lst.mpr ⟨l,xs,rfl,trivial,l1 l _ hm,RepL.frame (fun x o r z=>⟨trivial,l1 x o z⟩) _ _ hr1⟩) d w hdep rw1
     have hlm:=(List.getElem?_eq_some_iff.mp hm).1
     have hjl:j < lv.length:=by rw[I.lvl];exact (List.getElem?_eq_some_iff.mp hd).1
     have hlv:((downs (zm e) lv).set j .top)[j]?=some .top:=by rw[List.getElem?_set,if_pos rfl,if_pos (by rw[vN];exact hjl)]
     obtain ⟨l',xs',he',hm',hrr,put⟩:=I1.mut hd (by unfold zP;rw[hlv])
     rw[he] at he';cases he'
     rw[hm] at hm';cases hm'
     obtain ⟨A3,I3,K3⟩:=put m2 (ds.set p d) (xs.set p w) (l1.trans l2) (fun z=>by rw[hlv] at z;cases z) (fun _ q=>by
      refine RepL.set (RepL.frame (fun x o r z=>⟨.inl r,(l1.trans l2) x o z⟩) _ _ q) p (Rep.frame (fun x o r z=>⟨?_,l2 x o z⟩) _ _ rwa)
      rcases r.1 with (r1 | r1) | r1
      .exact .inl r1
      .exact absurd r1 r.2
      .exact .inr r1)
     simp only[h2,Rz.bindS,xp he m1,h3,wg (l2 l _ (l1 l _ hm)) (by rw[<- hr.len];exact hp)]
     exact ⟨_,_,A3,rfl,I3,(K0.trans K1).trans K3⟩
    .trivial
  .trivial
 .trivial
set_option tactic.hygienic true in
theorem g9 {k d:Dat}{es es1:List Dat}(h:vX k d es=some es1):∃i p,k=.int i/\ix es.length i=some p/\es1=es.set p d:=by
 unfold vX at h
 split at h
 .next i=>obtain ⟨p,a,b⟩:=Option.map_eq_some_iff.mp h;exact ⟨i,p,rfl,a,b.symm⟩
 .cases h
theorem zdb (H:CallO lev cl cd)(I:Inv lo RR m de lv env A)(j:Nat)(r k e:Ex):SimS lo RR A m (exS cl (.asgS (.idx (.var j) r) k e) env m) (exD lev cd (.asgS (.idx (.var j) r) k e) de lv):=by
 show SimS _ _ _ _ ((evE cl e env m).bindS env _) _
 refine SimS.okS fun d h1=>SimS.okS fun rv hr=>SimS.okS fun kv hk=>?_
 obtain ⟨w,m1,h2,l1,r1⟩:=I.ok H.r h1 (Le.refl m)
 split
 .next f =>
  refine gf fun de1 h=>?_
  obtain ⟨rk,ds,p,es,es1,rfl,hd,hp,hps,hf,hlv,rfl⟩:=gd h
  obtain ⟨i,q,rfl,hq,rfl⟩:=g9 hf
  obtain ⟨l,xs,l2,us,he,hm,hx,hm2,hlen,hrep,put,_⟩:=I.mutIn hd hlv hps
  obtain ⟨m2,h3,l2'⟩:=row_at H.r I hr hp he hm hlen hx l1
  obtain ⟨wk,m3,h4,l3,r4⟩:=I.ok H.r hk (l1.trans l2')
  rw[rep_int.mp r4] at h4
  obtain ⟨B,ro,nd,hB⟩:=I.own H h1 h2
  rw[f] at ro
  have l123:=(l1.trans l2').trans l3
  have ro':Own m3 d w B:=Own.frame d w B (fun x _ o z=>l3 x o (l2' x o z)) ro
  have ch:Chg RR A m m3 es us (es.set q d) (us.set q w):=kl q l123 ro' nd hB
  obtain ⟨A',I',K⟩:=put m3 _ _ l123 ch.1
  simp only[h2,Rz.bindS,h3,h4,wg (l123 _ _ hm2) (by rw[<- hrep.len];exact hq)]
  exact ⟨_,_,A',rfl,I',K⟩
 .next f =>
  split
  .trivial
  .next hj =>
   refine gf fun de1 h=>?_
   obtain ⟨rk,ds,p,es,es1,rfl,hd,hp,hps,hf,hlv,rfl⟩:=gd h
   obtain ⟨i,q,rfl,hq,rfl⟩:=g9 hf
   obtain ⟨A1,I1,K1,_,hso⟩:=I.relEv H e
   rw[h1] at hso
   obtain ⟨w',m1',h2',_,rw1⟩:=hso.sim
   rw[h2] at h2';cases h2'
   obtain ⟨l,xs,l2,us,he,hm,hx,hm2,hlen,hrep,_,put⟩:=I1.mutIn hd (by rw[zaI e _ _ hj];exact hlv) hps
   obtain ⟨m2,h3,l2'⟩:=row_at H.r I hr hp he hm hlen hx l1
   obtain ⟨wk,m3,h4,l3,r4⟩:=I.ok H.r hk (l1.trans l2')
   rw[rep_int.mp r4] at h4
   have l123:=(l1.trans l2').trans l3
   obtain ⟨A',I',K⟩:=put m3 q d w l123 (Rep.frame (fun x o r z=>⟨r,l3 x o (l2' x o z)⟩) _ _ rw1)
   simp only[h2,Rz.bindS,h3,h4,wg (l123 _ _ hm2) (by rw[<- hrep.len];exact hq)]
   exact ⟨_,_,A',rfl,I',K1.trans K⟩
end
section
variable {lev:Nat->Lv}{cl:Nat->List Wd->Me->Rz}{cd:Nat->List Dat->Rd}{lo:Nat}{RR:Nat->Prop}{m:Me}{de:DEn}{lv:List Lv}{env:En}{A:Nat->List Nat}
theorem EnvR.kill {R:Nat->Prop}{m:Me}{vs:List Nat}{de:DEn}{env:En}{j:Nat}{o:Option Dat}(h:EnvR R m vs (de.set j o) env):EnvR R m vs (de.set j none) env:=by
 refine ⟨by simpa using h.1,fun i hi d hd=>?_⟩
 by_cases e:j=i
 .subst e;rw[List.getElem?_set,if_pos rfl] at hd
  split at hd
  .cases hd
  .cases hd
 .rw[List.getElem?_set_ne e] at hd
  exact h.2 i hi d (by rw[List.getElem?_set_ne e];exact hd)
theorem k9 (H:CallR cl cd){R:Nat->Prop}{m:Me}{de:DEn}{env:En}{e:Ex}{d:Dat}(q:EnvR R m (zm e) de env)(h:evD cd e de=.ok d)(hR:∀l,m.length<=l->R l):∃w m2,evE cl e env m=.ok w m2/\Le m m2/\Rep R m2 d w:=by
 have q:=zf H e R m de env q
 rw[h] at q
 obtain ⟨w,m2,a,b,c⟩:=q
 exact ⟨w,m2,a,b,Rep.frame (fun x o r z=>⟨by rcases r with r | r;exact r;exact hR x r,z⟩) d w c⟩
set_option tactic.hygienic true in
theorem zdc (H:CallO lev cl cd)(I:Inv lo RR m de lv env A)(o i p k a b:Ex):SimS lo RR A m (exS cl (.swapS o i p k a b) env m) (exD lev cd (.swapS o i p k a b) de lv):=by
 show SimS _ _ _ _ _ (g7 cd o i p k a b de lv)
 unfold g7
 split
 .next j j2 j3 a j4 b =>
  split
  .next c =>
   obtain ⟨rfl,rfl,rfl,ho⟩:=c
   refine SimS.okS fun av ha=>SimS.okS fun bv hb=>SimS.okS fun iv hi=>SimS.okS fun kv hk=>?_
   split
   .next ds i' k' a' b' hl =>
    split
    .next p q x y hp hq hx hy =>
     have hd:=vh hl
     obtain ⟨l,xs,A0,I0,K0,g1,g2,he,hm,hr,hlA⟩:=I.top j hd ho
     obtain ⟨pa,hpa,hxa⟩:=Option.bind_eq_some_iff.mp hx
     obtain ⟨pb,hpb,hyb⟩:=Option.bind_eq_some_iff.mp hy
     obtain ⟨u,hu,ru⟩:=hr.get hxa
     obtain ⟨w,hw,rw0⟩:=hr.get hyb
     have hlen:=hr.len
     obtain ⟨wa,m1,e1,l1,r1⟩:=I.ok H.r ha (Le.refl m)
     rw[rep_int.mp r1] at e1
     obtain ⟨wb,m2,e2,l2,r2⟩:=I.ok H.r hb l1
     rw[rep_int.mp r2] at e2
     have l12:=l1.trans l2
     obtain ⟨wi,m3,e3,l3,r3⟩:=I.ok H.r hi l12
     rw[rep_int.mp r3] at e3
     have l123:=l12.trans l3
     have hjl:j < lv.length:=by rw[I.lvl];exact (List.getElem?_eq_some_iff.mp hd).1
     have hjd:j < de.length:=(List.getElem?_eq_some_iff.mp hd).1
     have hlv:(lv.set j .top)[j]?=some .top:=by rw[List.getElem?_set,if_pos rfl,if_pos hjl]
     have ho1:zP (lv.set j .top) j=true:=by unfold zP;rw[hlv]
     obtain ⟨l',xs',he',hm',_,put⟩:=I0.mut hd ho1
     rw[he] at he';cases he'
     rw[hm] at hm';cases hm'
     obtain ⟨A1,I1,K1⟩:=put m3 (ds.set p x) (xs.set p u) l123 (fun z=>by rw[hlv] at z;cases z) (fun _ q=>(RepL.frame (fun x o r z=>⟨.inl r,l123 x o z⟩) _ _ q).set p (Rep.frame (fun x o r z=>⟨.inl r,l123 x o z⟩) _ _ ru))
     have hk':evD cd k ((de.set j (some (.lst (ds.set p x)))).set j none)=.ok (.int k'):=by rw[List.set_set];exact hk
     obtain ⟨wk,m4,e4,l4,r4⟩:=k9 H.r ((I1.envR (zm k)).kill (j:=j) (de:=de)) hk (fun x hx=>I1.rr x (Nat.le_trans I1.lom hx))
     rw[rep_int.mp r4] at e4
     have hd1:(de.set j (some (.lst (ds.set p x))))[j]?=some (some (.lst (ds.set p x))):=by rw[List.getElem?_set,if_pos rfl,if_pos hjd]
     obtain ⟨l',xs',he',hm',hr',put1⟩:=I1.mut hd1 ho1
     rw[he] at he';cases he'
     rw[zM (l123 l _ hm)] at hm';cases hm'
     have rw1:Rep (yK RR A1) (m3.set l (.lst (xs.set p u))) y w:=K1.rep rw0
     obtain ⟨A2,I2,K2⟩:=put1 m4 ((ds.set p x).set q y) ((xs.set p u).set q w) l4 (fun z=>by rw[hlv] at z;cases z) (fun _ z=>(RepL.frame (fun x o r z=>⟨.inl r,l4 x o z⟩) _ _ z).set q (Rep.frame (fun x o r z=>⟨.inl r,l4 x o z⟩) _ _ rw1))
     rw[List.set_set] at I2
     have va:evE cl (.idx (.var j) a) env m=.ok u m1:=by
      show (evE cl (.var j) env m).bind _=_;rw[xp he m];simp only[Rz.bind,e1];exact k8 (l1 l _ hm) (by rw[<- hlen];exact hpa) hu
     have vb:evE cl (.idx (.var j) b) env m1=.ok w m2:=by
      show (evE cl (.var j) env m1).bind _=_;rw[xp he m1];simp only[Rz.bind,e2];exact k8 (l12 l _ hm) (by rw[<- hlen];exact hpb) hw
     show SimS _ _ _ _ ((evE cl (.idx (.var j) a) env m).bindS env _) _
     simp only[va,vb,Rz.bindS,xp he,e3,wg (l123 l _ hm) (show ix xs.length i'=some p by rw[<- hlen];exact hp),e4,wg (l4 l _ (zM (l123 l _ hm))) (show ix (xs.set p u).length k'=some q by rw[List.length_set,<- hlen];exact hq)]
     exact ⟨_,_,A2,rfl,I2,(K0.trans K1).trans K2⟩
    .trivial
   .trivial
  .trivial
 .trivial
theorem Inv.forget (I:Inv lo RR m de lv env A)(i:Nat)(w:Wd):Inv lo RR m (de.set i none) (lv.set i .full) (env.set i (some w)) A:=by
 refine ⟨by simp[I.len],by simp[I.lvl],I.rr,I.lom,fun k d l h1 h2=>?_,I.nd,I.dj,I.bd⟩
 by_cases e:i=k
 .subst e;rw[List.getElem?_set,if_pos rfl] at h1
  split at h1
  .cases h1
  .cases h1
 .rw[List.getElem?_set_ne e] at h1 h2
  obtain ⟨w',a,b⟩:=I.slot k d l h1 h2
  exact ⟨w',by rw[List.getElem?_set_ne e];exact a,b⟩
set_option tactic.hygienic true in
theorem zeG {p q c d:Dat}{es es1:List Dat}(h:g6 p q c d es=some es1):∃p' q' c' d' p1 q1 c1 d1 x y,p=.int p'/\q=.int q'/\c=.int c'/\d=.int d'/\ix es.length p'=some p1/\ix es.length q'=some q1/\ix es.length c'=some c1/\es[c1]?=some x/\ix es.length d'=some d1/\es[d1]?=some y/\flat x=true/\flat y=true/\es1=(es.set p1 x).set q1 y:=by
 unfold g6 at h
 split at h
 .next p' q' c' d' =>
  split at h
  .next p1 q1 x y h1 h2 h3 h4 =>
   split at h
   .next f =>
    cases h
    rw[Bool.and_eq_true] at f
    obtain ⟨c1,a,b⟩:=Option.bind_eq_some_iff.mp h3
    obtain ⟨d1,a',b'⟩:=Option.bind_eq_some_iff.mp h4
    exact ⟨p',q',c',d',p1,q1,c1,d1,x,y,rfl,rfl,rfl,rfl,h1,h2,a,b,a',b',f.1,f.2,rfl⟩
   .cases h
  .cases h
 .cases h
theorem zbw {s t:Sm}{i j:Nat}{r p q c d:Ex}(h:zI s t=some (i,j,r,p,q,c,d)):s=.asg i (.idx (.var j) r)/\t=.swapS (.var i) p (.var i) q (.idx (.var i) c) (.idx (.var i) d)/\i≠j:=by
 unfold zI at h
 split at h
 .split at h
  .split at h
   .next z=>obtain ⟨rfl,rfl,rfl,rfl,z⟩:=z;cases h;exact ⟨rfl,rfl,z⟩
   .cases h
  .cases h
 .cases h
theorem zdd (H:CallO lev cl cd)(I:Inv lo RR m de lv env A){i j:Nat}{r p q c d:Ex}(hij:i≠j):
  SimS lo RR A m (exS cl (.seq (.asg i (.idx (.var j) r)) (.swapS (.var i) p (.var i) q (.idx (.var i) c) (.idx (.var i) d))) env m)
   ((evD cd r de).okS fun rv=>(evD cd (.idx (.var j) r) de).okS fun row=>(evD cd c (de.set i (some row))).okS fun c=>(evD cd d (de.set i (some row))).okS fun d=>(evD cd p (de.set i (some row))).okS fun p=>(evD cd q ((de.set j none).set i none)).okS fun q =>
     if i < de.length then toS ((vM j rv de lv (g6 p q c d)).map fun de1=>de1.set i none) (lv.set i .full) else .no):=by
 refine SimS.okS fun rv hr=>SimS.okS fun row hrow=>SimS.okS fun cv hc=>SimS.okS fun dv hdv=>SimS.okS fun pv hpv=>SimS.okS fun qv hqv=>?_
 split
 case isFalse=>trivial
 case isTrue hi0 =>
 refine gf fun de1 h=>?_
 obtain ⟨de2,h0,rfl⟩:=Option.map_eq_some_iff.mp h
 obtain ⟨rk,ds,p0,es,es1,rfl,hd,hp0,hps,hf,hlv,rfl⟩:=gd h0
 obtain ⟨p',q',c',d',p1,q1,c1,d1,x,y,rfl,rfl,rfl,rfl,hp1,hq1,hc1,hx,hd1,hy,fx,fy,rfl⟩:=zeG hf
 obtain ⟨l,xs,l2,us,he,hm,hxs,hm2,hlen,hrep,put,_⟩:=I.mutIn hd hlv hps
 obtain ⟨m1,e1,l1⟩:=row_at H.r I hr hp0 he hm hlen hxs (Le.refl m)
 have hrow':row=.lst es:=by
  have:evD cd (.idx (.var j) r) de=.ok (.lst es):=by
   show (evD cd (.var j) de).bind (fun x=>(evD cd r de).bind fun y=>yo x y)=_
   rw[xj hd,hr]
   simp[Rd.bind,yo,xS,hp0,hps]
  rw[this] at hrow;cases hrow;rfl
 subst hrow'
 have envI:∀ (m':Me),Le m m'->∀vs,EnvR RR m' vs (de.set i (some (.lst es))) (env.set i (some (.ref l2))):=by
  intro m' lm vs
  refine ⟨by simp[I.len],fun k _ d hk=>?_⟩
  by_cases e:i=k
  .subst e
   rw[List.getElem?_set,if_pos rfl,if_pos hi0] at hk
   cases hk
   refine ⟨.ref l2,by rw[List.getElem?_set,if_pos rfl,if_pos (by rw[<- I.len];exact hi0)],rep_lst.mpr ⟨l2,us,rfl,?_,lm l2 _ hm2,RepL.frame (fun x o r z=>⟨r,lm x o z⟩) _ _ hrep⟩⟩
   have hh:=zf H.r (.idx (.var j) r) RR m de env (I.envR _)
   rw[hrow] at hh
   obtain ⟨w',m',h',_,rr⟩:=hh
   rw[e1] at h';cases h'
   obtain ⟨_,_,ee,hR,_⟩:=rep_lst.mp (I.rf rr)
   cases ee;exact hR
  .rw[List.getElem?_set_ne e] at hk ⊢
   exact ((I.ext lm).envR vs).2 k (by assumption) d hk
 have hR:∀ {m':Me},Le m m'->∀x,m'.length<=x->RR x:=fun lm x hx=>I.rr x (Nat.le_trans I.lom (Nat.le_trans lm.len hx))
 have hil:i < env.length\/env.length<=i:=Nat.lt_or_ge _ _
 obtain ⟨wc,m2,e2,k2,r2⟩:=k9 H.r (envI m1 l1 _) hc (hR l1)
 rw[rep_int.mp r2] at e2
 have l12:=l1.trans k2
 obtain ⟨wd,m3,e3,k3,r3⟩:=k9 H.r (envI m2 l12 _) hdv (hR l12)
 rw[rep_int.mp r3] at e3
 have l123:=l12.trans k3
 obtain ⟨wp,m4,e4,k4,r4⟩:=k9 H.r (envI m3 l123 _) hpv (hR l123)
 rw[rep_int.mp r4] at e4
 have l1234:=l123.trans k4
 obtain ⟨u,hu,ru⟩:=hrep.get hx
 obtain ⟨w,hw,rw0⟩:=hrep.get hy
 have ch:Chg RR A m m4 es us (es.set p1 x) (us.set p1 u):=kl p1 l1234 (B0:=[]) (ru.flat x u fx) List.nodup_nil (by simp)
 obtain ⟨A1,I1,K1⟩:=put m4 _ _ l1234 ch.1
 have hjd:j < de.length:=(List.getElem?_eq_some_iff.mp hd).1
 have hpd:p0 < ds.length:=(List.getElem?_eq_some_iff.mp hps).1
 have hd1':(de.set j (some (.lst (ds.set p0 (.lst (es.set p1 x))))))[j]?=some (some (.lst (ds.set p0 (.lst (es.set p1 x))))):=by rw[List.getElem?_set,if_pos rfl,if_pos hjd]
 have hps1:(ds.set p0 (.lst (es.set p1 x)))[p0]?=some (.lst (es.set p1 x)):=by rw[List.getElem?_set,if_pos rfl,if_pos hpd]
 obtain ⟨l',xs',l2',us',he',hm',hxs',hm2',_,hrep',put1,_⟩:=I1.mutIn hd1' hlv hps1
 have hll:l≠l2:=by
  intro e;rw[<- e,hm] at hm2
  cases hm2
  have:=Rep.det (R:=RR) (R':=RR) (m:=m) (.lst ds) (.lst es) (.ref l) ?_ ?_
  .cases this
   have hh:=I.slot j _ .full hd hlv
   obtain ⟨w',a',b'⟩:=hh
   obtain ⟨l3,xs3,B,rfl,hA,hm3,r3⟩:=own_lst.mp b'
   rw[he] at a';cases a'
   rw[hm] at hm3;cases hm3
   obtain ⟨y',B',⟨g1,g2⟩,g3⟩:=OwnL.item r3 hps
   rw[hxs] at g1;cases g1
   obtain ⟨l4,xs4,B4,e4',rfl,_,_⟩:=own_lst.mp g2
   cases e4'
   have nd:=I.nd j
   rw[hA] at nd
   exact (List.nodup_cons.mp nd).1 (g3 _ (by rw[e];simp))
  .obtain ⟨w',a',b'⟩:=(I.envR [j]).2 j (by simp) _ hd
   rw[he] at a';cases a';exact b'
  .have:Rep RR m (.lst es) (.ref l2):=by
    obtain ⟨w',a',b'⟩:=(I.envR [j]).2 j (by simp) _ hd
    rw[he] at a';cases a'
    obtain ⟨_,_,ee,_,hmm,rr⟩:=rep_lst.mp b'
    cases ee;rw[hm] at hmm;cases hmm
    obtain ⟨z,z1,z2⟩:=rr.get hps
    rw[hxs] at z1;cases z1;exact z2
   rw[<- e] at this;exact this
 rw[he] at he';cases he'
 rw[zB (Ne.symm hll),l1234 l _ hm] at hm';cases hm'
 rw[hxs] at hxs';cases hxs'
 rw[zM (l1234 l2 _ hm2)] at hm2';cases hm2'
 have I1f:=I1.forget i (.ref l2)
 have hqe:EnvR RR (m4.set l2 (.lst (us.set p1 u))) (zm q) ((de.set j none).set i none) (env.set i (some (.ref l2))):=by
  refine ⟨by simp[I.len],fun k hk dd hdd=>?_⟩
  by_cases e:i=k
  .subst e;rw[List.getElem?_set,if_pos rfl] at hdd;split at hdd <;> cases hdd
  .rw[List.getElem?_set_ne e] at hdd
   by_cases e':j=k
   .subst e';rw[List.getElem?_set,if_pos rfl] at hdd;split at hdd <;> cases hdd
   .rw[List.getElem?_set_ne e'] at hdd
    refine (I1f.envR (zm q)).2 k hk dd ?_
    rw[List.getElem?_set_ne e,List.getElem?_set_ne e'];exact hdd
 obtain ⟨wq,m5,e5,k5,r5⟩:=k9 H.r hqe hqv (fun x hx=>I1.rr x (Nat.le_trans I1.lom hx))
 rw[rep_int.mp r5] at e5
 have ch2:Chg RR A1 (m4.set l2 (.lst (us.set p1 u))) m5 (es.set p1 x) (us.set p1 u) ((es.set p1 x).set q1 y) ((us.set p1 u).set q1 w):=kl q1 k5 (B0:=[]) (rw0.flat y w fy) List.nodup_nil (by simp)
 obtain ⟨A2,I2,K2⟩:=put1 m5 _ _ k5 ch2.1
 rw[List.set_set,List.set_set] at I2
 have I3:=I2.forget i (.ref l2)
 have hlenu:=hrep.len
 have s1:exS cl (.asg i (.idx (.var j) r)) env m=.next (env.set i (some (.ref l2))) m1:=by
  show (evE cl (.idx (.var j) r) env m).bindS env _=_
  rw[e1];rfl
 show SimS _ _ _ _ (match exS cl (.asg i (.idx (.var j) r)) env m with
  | .next e1 m1=>exS cl (.swapS (.var i) p (.var i) q (.idx (.var i) c) (.idx (.var i) d)) e1 m1
  | r=>r) _
 rw[s1]
 simp only
 have hi:i < env.length:=by rw[<- I.len];exact hi0
 have hv:(env.set i (some (.ref l2)))[i]?=some (some (.ref l2)):=by rw[List.getElem?_set,if_pos rfl,if_pos hi]
 have vc:evE cl (.idx (.var i) c) (env.set i (some (.ref l2))) m1=.ok u m2:=by
  show (evE cl (.var i) _ m1).bind _=_;rw[xp hv m1];simp only[Rz.bind,e2];exact k8 (l12 l2 _ hm2) (by rw[<- hlenu];exact hc1) hu
 have vd:evE cl (.idx (.var i) d) (env.set i (some (.ref l2))) m2=.ok w m3:=by
  show (evE cl (.var i) _ m2).bind _=_;rw[xp hv m2];simp only[Rz.bind,e3];exact k8 (l123 l2 _ hm2) (by rw[<- hlenu];exact hd1) hw
 show SimS _ _ _ _ ((evE cl (.idx (.var i) c) (env.set i (some (.ref l2))) m1).bindS (env.set i (some (.ref l2))) _) _
 simp only[vc,vd,Rz.bindS,xp hv,e4,wg (l1234 l2 _ hm2) (show ix us.length p'=some p1 by rw[<- hlenu];exact hp1),e5,wg (k5 l2 _ (zM (l1234 l2 _ hm2))) (show ix (us.set p1 u).length q'=some q1 by rw[List.length_set,<- hlenu];exact hq1)]
 exact ⟨_,_,A2,rfl,I3,K1.trans K2⟩
end
section
variable {lev:Nat->Lv}{cl:Nat->List Wd->Me->Rz}{cd:Nat->List Dat->Rd}{lo:Nat}{RR:Nat->Prop}
theorem Inv.bindSlot {m:Me}{de:DEn}{lv:List Lv}{env:En}{A:Nat->List Nat}(I:Inv lo RR m de lv env A)(i:Nat){d:Dat}{w:Wd}(h:Rep (yK RR A) m d w):Inv lo RR m (de.set i (some d)) (lv.set i (lvF d)) (env.set i (some w)) (upd A i [])/\Keep A m (upd A i []) m:=by
 refine I.store (Le.refl m) i (B:=[]) ?_ List.nodup_nil (by simp)
 unfold lvF
 split
 .next f=>exact h.flat d w f
 .exact ⟨Rep.frame (fun x o r z=>⟨⟨.inl r,by simp⟩,z⟩) _ _ h,rfl⟩
theorem wB {bw:Wd->En->Me->Rs}{bd:Dat->DEn->List Lv->Rsd}(hb:∀x w m de lv env A,Inv lo RR m de lv env A->Rep (yK RR A) m x w->SimS lo RR A m (bw w env m) (bd x de lv)):
  ∀ (ds:List Dat) (xs:List Wd) (m:Me) (de:DEn) (lv:List Lv) (env:En) (A:Nat->List Nat),Inv lo RR m de lv env A->RepL (yK RR A) m ds xs->SimS lo RR A m (wF bw xs env m) (yj bd ds de lv)
 | [],xs,m,de,lv,env,A,I,r=>by
  rw[r.nil_inv]
  exact ⟨env,m,A,rfl,I,Keep.refl A m⟩
 | d::ds,xs,m,de,lv,env,A,I,r=>by
  obtain ⟨x,xs,rfl,a,b⟩:=r.cons_inv
  have h:=hb d x m de lv env A I a
  unfold wF yj
  cases z:bd d de lv with
  | next d1 l1 =>
   rw[z] at h
   obtain ⟨e1,m1,A1,h1,I1,K1⟩:=h
   rw[h1]
   exact SimS.keep K1 (wB hb ds xs m1 d1 l1 e1 A1 I1 (K1.repL b))
  | cont d1 l1 =>
   rw[z] at h
   obtain ⟨e1,m1,A1,h1,I1,K1⟩:=h
   rw[h1]
   exact SimS.keep K1 (wB hb ds xs m1 d1 l1 e1 A1 I1 (K1.repL b))
  | brk d1 l1 =>
   rw[z] at h
   obtain ⟨e1,m1,A1,h1,I1,K1⟩:=h
   rw[h1]
   exact ⟨e1,m1,A1,rfl,I1,K1⟩
  | ret d l =>
   rw[z] at h
   obtain ⟨w,m1,B,h1,k⟩:=h
   rw[h1]
   exact ⟨w,m1,B,rfl,k⟩
  | exc c d =>
   rw[z] at h
   obtain ⟨w,e,m1,h1,k⟩:=h
   rw[h1]
   exact ⟨w,e,m1,rfl,k⟩
  | no=>trivial
theorem vO {bw:Wd->En->Me->Rs}{bd:Dat->DEn->List Lv->Rsd}(hb:∀x w m de lv env A,Inv lo RR m de lv env A->Rep (yK RR A) m x w->SimS lo RR A m (bw w env m) (bd x de lv)){l:Nat}{xs0:List Wd}:
  ∀ (ds:List Dat) (i k:Nat) (m:Me) (de:DEn) (lv:List Lv) (env:En) (A:Nat->List Nat),Inv lo RR m de lv env A->(∀k,l∉A k)->m[l]?=some (.lst xs0)->RepL (yK RR A) m ds (xs0.drop i)->i+ds.length=xs0.length->ds.length < k->SimS lo RR A m (xY bw l k i env m) (yj bd ds de lv)
 | [],i,0,m,de,lv,env,A,I,hl,hm,r,hi,hk=>by simp at hk
 | d::ds,i,0,m,de,lv,env,A,I,hl,hm,r,hi,hk=>by simp at hk
 | [],i,k+1,m,de,lv,env,A,I,hl,hm,r,hi,hk=>by
  unfold xY yj zE
  rw[hm]
  simp only
  rw[List.getElem?_eq_none (by simp at hi;lia)]
  exact ⟨env,m,A,rfl,I,Keep.refl A m⟩
 | d::ds,i,k+1,m,de,lv,env,A,I,hl,hm,r,hi,hk=>by
  obtain ⟨x,q,e0,a,b⟩:=r.cons_inv
  have hx:xs0[i]?=some x:=by
   have:(xs0.drop i)[0]?=some x:=by rw[e0];rfl
   simpa using this
  have hr:q=xs0.drop (i+1):=by
   have:(xs0.drop i).drop 1=q:=by rw[e0];rfl
   rw[<- this,List.drop_drop]
  rw[hr] at b
  have hi':i+1+ds.length=xs0.length:=by simp at hi;lia
  have hk':ds.length < k:=by simp at hk;lia
  have h:=hb d x m de lv env A I a
  unfold xY yj zE
  rw[hm]
  simp only
  rw[hx]
  simp only
  cases z:bd d de lv with
  | next d1 l1 =>
   rw[z] at h
   obtain ⟨e1,m1,A1,h1,I1,K1⟩:=h
   rw[h1]
   exact SimS.keep K1 (vO hb ds (i+1) k m1 d1 l1 e1 A1 I1 (K1.1 l _ hl hm).1 (K1.1 l _ hl hm).2 (K1.repL b) hi' hk')
  | cont d1 l1 =>
   rw[z] at h
   obtain ⟨e1,m1,A1,h1,I1,K1⟩:=h
   rw[h1]
   exact SimS.keep K1 (vO hb ds (i+1) k m1 d1 l1 e1 A1 I1 (K1.1 l _ hl hm).1 (K1.1 l _ hl hm).2 (K1.repL b) hi' hk')
  | brk d1 l1 =>
   rw[z] at h
   obtain ⟨e1,m1,A1,h1,I1,K1⟩:=h
   rw[h1]
   exact ⟨e1,m1,A1,rfl,I1,K1⟩
  | ret d l =>
   rw[z] at h
   obtain ⟨w,m1,B,h1,k⟩:=h
   rw[h1]
   exact ⟨w,m1,B,rfl,k⟩
  | exc c d =>
   rw[z] at h
   obtain ⟨w,e,m1,h1,k⟩:=h
   rw[h1]
   exact ⟨w,e,m1,rfl,k⟩
  | no=>trivial
theorem zeH {bw:Wd->En->Me->Rs}{bd:Dat->DEn->List Lv->Rsd}(H:CallO lev cl cd)(hb:∀x w m de lv env A,Inv lo RR m de lv env A->Rep (yK RR A) m x w->SimS lo RR A m (bw w env m) (bd x de lv)){m:Me}{de:DEn}{lv:List Lv}{env:En}{A:Nat->List Nat}(I:Inv lo RR m de lv env A)(it:Ex):
  SimS lo RR A m ((evE cl it env m).bindS env fun w m1=>jm bw w env m1) ((evD cd it de).bindS fun d=>match itD d with
   | some xs=>yj bd xs de (if flat d then lv else xC it de lv)
   | none=>.no):=by
 have run:∀ (d:Dat) (w:Wd) (m1:Me) (xs:List Dat) (lv1:List Lv) (A1:Nat->List Nat),itD d=some xs->Inv lo RR m1 de lv1 env A1->Rep (yK RR A1) m1 d w->SimS lo RR A1 m1 (jm bw w env m1) (yj bd xs de lv1):=by
  intro d w m1 xs lv1 A1 hi I1 r
  cases d with
  | tup ds=>cases hi;obtain ⟨ys,rfl,r1⟩:=rep_tup.mp r;exact wB hb _ _ _ _ _ _ _ I1 r1
  | scr ns=>cases hi;rw[rep_scr.mp r];exact wB hb _ _ _ _ _ _ _ I1 (ziD ns)
  | lst ds =>
   simp only[itD] at hi
   split at hi
   .next z =>
    cases hi
    obtain ⟨l,ys,rfl,hR,hm,r1⟩:=rep_lst.mp r
    have:=r1.len
    exact vO hb _ 0 (lim+1) m1 de lv1 env A1 I1 hR.2 hm (by simpa using r1) (by lia) (by lia)
   .cases hi
  | _=>cases hi
 cases z:evD cd it de with
 | no=>trivial
 | exc c d =>
  have:=I.bindE H.r it (f:=fun w m1=>jm bw w env m1) (g:=fun d=>.no) (fun _ _ _ _ _ _ _=>trivial)
  rw[z] at this;exact this
 | ok d =>
  show SimS lo RR A m _ (match itD d with
   | some xs=>yj bd xs de (if flat d then lv else xC it de lv)
   | none=>.no)
  cases hi:itD d with
  | none=>trivial
  | some xs =>
   simp only
   split
   .next f =>
    obtain ⟨w,m1,h2,l1,r1⟩:=I.ok H.r z (Le.refl m)
    rw[h2]
    exact SimS.keep (j9 l1) (run d w m1 xs lv A hi (I.ext l1) (Own.rep d w [] (by simp) (r1.flat d w f)))
   .obtain ⟨A1,I1,K1,_,h⟩:=I.relEv H it
    rw[z] at h
    obtain ⟨w,m1,h2,l1,r1⟩:=h.sim
    rw[h2]
    refine SimS.keep (K1.trans (j9 l1)) (run d w m1 xs _ A1 hi (I1.ext l1) (Rep.frame (fun x o r z=>⟨?_,z⟩) _ _ r1))
    rcases r with r | r
    .exact r
    .exact ⟨I.rr x (Nat.le_trans I.lom r),fun k hk=>by have:=(I1.bd k x hk).2;lia⟩
set_option tactic.hygienic true in
theorem zeI (H:CallO lev cl cd){m:Me}{de:DEn}{lv:List Lv}{env:En}{A:Nat->List Nat}(I:Inv lo RR m de lv env A)(e:Ex):SimS lo RR A m (exS cl (.ret e) env m) (exD lev cd (.ret e) de lv):=by
 show SimS _ _ _ _ ((evE cl e env m).bindS env _) ((evD cd e de).bindS _)
 cases z:evD cd e de with
 | no=>trivial
 | exc c d =>
  have:=I.bindE H.r e (f:=fun w m1=>.ret w m1) (g:=fun d=>.no) (fun _ _ _ _ _ _ _=>trivial)
  rw[z] at this;exact this
 | ok d =>
  obtain ⟨w,m1,h2,l1,r1⟩:=I.ok H.r z (Le.refl m)
  rw[h2]
  show SimS lo RR A m (.ret w m1) (.ret d (lvR lev e d lv))
  have kp:(∀ (x:Nat) o,(∀i,x∉A i)->m[x]?=some o->m1[x]?=some o)/\m.length<=m1.length:=⟨fun x o _ b=>l1 x o b,l1.len⟩
  have no:RepO (fun x=>RR x/\x∉([]:List Nat)) m1 .no d w []:=⟨Rep.frame (fun x o r z=>⟨⟨r,by simp⟩,z⟩) _ _ r1,rfl⟩
  by_cases f:flat d=true
  .refine ⟨w,m1,[],rfl,kp,?_,List.nodup_nil,by simp⟩
   unfold lvR;rw[if_pos f]
   exact r1.flat d w f
  .unfold lvR
   rw[if_neg f]
   split
   .next i =>
    have hdi:de[i]?=some (some d):=by
     exact zaz z
    obtain ⟨l,hl⟩:=I.getlv hdi
    obtain ⟨w',he,ro⟩:=I.slot i d l hdi hl
    rw[xp he m] at h2;cases h2
    rw[hl]
    refine ⟨_,_,A i,rfl,kp,?_,I.nd i,fun b hb=>(I.bd i b hb).1⟩
    exact ro.frame (fun x o r z=>⟨⟨r.1,r.2 i⟩,z⟩) (fun _ _ _ z=>z)
   .next a b =>
    split
    .next c =>
     obtain ⟨hab,ha,hb⟩:=c
     have:∃da db,de[a]?=some (some da)/\de[b]?=some (some db)/\d=.tup [da,db]:=by
      have hz:evD cd (.tup (.pair (.var a) (.pair (.var b) .unit))) de=((evD cd (.var a) de).bind fun x=>((evD cd (.var b) de).bind fun y=>.ok (.tup [y])).bind fun y=>.ok (.tup (x::zO y))).bind fun x=>if (zO x).length<=lim then .ok (.tup (zO x)) else .no:=rfl
      rw[hz] at z
      cases q1:de[a]? with
      | none=>rw[yZ (.inl q1)] at z;cases z
      | some o=>cases o with
       | none=>rw[yZ (.inr q1)] at z;cases z
       | some da =>
        rw[xj q1] at z
        cases q2:de[b]? with
        | none=>rw[yZ (.inl q2)] at z;cases z
        | some o=>cases o with
         | none=>rw[yZ (.inr q2)] at z;cases z
         | some db =>
          rw[xj q2] at z
          simp[Rd.bind,zO,lim] at z
          exact ⟨da,db,rfl,rfl,z.symm⟩
     obtain ⟨da,db,h3,h4,rfl⟩:=this
     obtain ⟨wa,ea,oa⟩:=I.slot a da .full h3 ha
     obtain ⟨wb,eb,ob⟩:=I.slot b db .full h4 hb
     have hw:evE cl (.tup (.pair (.var a) (.pair (.var b) .unit))) env m=.ok (.tup [wa,wb]) m:=by
      show (((evE cl (.var a) env m).bind fun x m1=>((evE cl (.var b) env m1).bind fun y m2=>.ok (.tup [y]) m2).bind fun y m2=>.ok (.tup (x::zp y)) m2).bind fun x m1=>if (zp x).length<=lim then .ok (.tup (zp x)) m1 else .no)=_
      rw[xp ea m]
      simp only[Rz.bind]
      rw[xp eb m]
      simp[zp,lim]
     rw[hw] at h2;cases h2
     refine ⟨_,_,A a++(A b++[]),rfl,kp,own_tup.mpr ⟨_,rfl,.cons oa (.cons ob .nil)⟩,?_,?_⟩
     .rw[List.append_nil]
      exact List.nodup_append.mpr ⟨I.nd a,I.nd b,fun x hx y hy e=>hab (I.dj a b x hx (by rw[e];exact hy))⟩
     .intro x hx
      rw[List.append_nil] at hx
      rcases List.mem_append.mp hx with q | q
      .exact (I.bd a x q).1
      .exact (I.bd b x q).1
    .exact ⟨w,m1,[],rfl,kp,no,List.nodup_nil,by simp⟩
   .obtain ⟨B,ro,nd,hB⟩:=I.own H z h2
    exact ⟨w,m1,B,rfl,kp,ro,nd,fun b hb=>Nat.le_trans I.lom (hB b hb)⟩
set_option tactic.hygienic true in
theorem vP (H:CallO lev cl cd):∀ (s:Sm) (m:Me) (de:DEn) (lv:List Lv) (env:En) (A:Nat->List Nat),Inv lo RR m de lv env A->SimS lo RR A m (exS cl s env m) (exD lev cd s de lv)
 | .skip,m,de,lv,env,A,I=>by show SimS _ _ _ _ (.next env m) (.next de lv);exact ⟨env,m,A,rfl,I,Keep.refl A m⟩
 | .seq a b,m,de,lv,env,A,I=>by
  cases hv:zI a b with
  | some t =>
   obtain ⟨i,j,r,p,q,c,d⟩:=t
   obtain ⟨rfl,rfl,hij⟩:=zbw hv
   have:=zdd H I (i:=i) (j:=j) (r:=r) (p:=p) (q:=q) (c:=c) (d:=d) hij
   rw[kj,hv]
   exact this
  | none =>
   have h:=vP H a m de lv env A I
   rw[kj,hv]
   show SimS _ _ _ _ (match exS cl a env m with
    | .next e1 m1=>exS cl b e1 m1
    | r=>r) _
   cases z:exD lev cd a de lv with
   | next d1 l1 =>
    rw[z] at h
    obtain ⟨e1,m1,A1,h1,I1,K1⟩:=h
    rw[h1]
    exact SimS.keep K1 (vP H b m1 d1 l1 e1 A1 I1)
   | cont d1 l1 =>
    rw[z] at h
    obtain ⟨e1,m1,A1,h1,I1,K1⟩:=h
    rw[h1]
    exact ⟨e1,m1,A1,rfl,I1,K1⟩
   | brk d1 l1 =>
    rw[z] at h
    obtain ⟨e1,m1,A1,h1,I1,K1⟩:=h
    rw[h1]
    exact ⟨e1,m1,A1,rfl,I1,K1⟩
   | ret d l =>
    rw[z] at h
    obtain ⟨w,m1,B,h1,k⟩:=h
    rw[h1]
    exact ⟨w,m1,B,rfl,k⟩
   | exc c d =>
    rw[z] at h
    obtain ⟨w,e,m1,h1,k⟩:=h
    rw[h1]
    exact ⟨w,e,m1,rfl,k⟩
   | no=>trivial
 | .asg i e,m,de,lv,env,A,I=>zeC H I i e
 | .asgS o k e,m,de,lv,env,A,I=>by
  cases o with
  | var j=>exact zda H I j k e
  | idx a r =>
   cases a with
   | var j=>exact zdb H I j r k e
   | _=>exact trivial
  | _=>exact trivial
 | .swapS o i p k a b,m,de,lv,env,A,I=>zdc H I o i p k a b
 | .aug _ _ _,m,de,lv,env,A,I=>trivial
 | .augS _ _ _ _,m,de,lv,env,A,I=>trivial
 | .ite c a b,m,de,lv,env,A,I=>by
  refine I.bindE H.r c fun d w m1 _ _ l1 r1=>?_
  cases d with
  | bl t =>
   rw[rep_bl.mp r1]
   cases t with
   | true=>exact vP H a m1 de lv env A (I.ext l1)
   | false=>exact vP H b m1 de lv env A (I.ext l1)
  | _=>trivial
 | .forv i it body,m,de,lv,env,A,I=>by
  refine zeH H (fun x w m de lv env A I r=>?_) I it
  obtain ⟨I1,K1⟩:=I.bindSlot i r
  exact SimS.keep K1 (vP H body _ _ _ _ _ I1)
 | .fort _ _ _ _,m,de,lv,env,A,I=>trivial
 | .forA _ _ _,m,de,lv,env,A,I=>trivial
 | .forC _ _,m,de,lv,env,A,I=>trivial
 | .forS _ _ _ _,m,de,lv,env,A,I=>trivial
 | .forE _ _ _ _,m,de,lv,env,A,I=>trivial
 | .swapI _ _ _ _ _,m,de,lv,env,A,I=>trivial
 | .popV _ _,m,de,lv,env,A,I=>trivial
 | .popI _ _ _ _,m,de,lv,env,A,I=>trivial
 | .appPop _ _ _ _,m,de,lv,env,A,I=>trivial
 | .unp3 _ _ _ _,m,de,lv,env,A,I=>trivial
 | .forZ _ _ _ _ _,m,de,lv,env,A,I=>trivial
 | .while _ _,m,de,lv,env,A,I=>trivial
 | .ret e,m,de,lv,env,A,I=>zeI H I e
 | .retN,m,de,lv,env,A,I=>trivial
 | .expr e,m,de,lv,env,A,I=>by
  have dflt:SimS lo RR A m (exS cl (.expr e) env m) ((evD cd e de).bindS fun _=>.next de lv):=by
   exact I.bindE H.r e fun d w m1 _ _ l1 _=>⟨env,m1,A,rfl,I.ext l1,Keep.refl A m1⟩
  cases e with
  | meth n o a=>
   cases n with
   | append=>
    cases o with
    | var j=>
     cases a with
     | pair e u=>cases u with
      | unit=>exact zc8 H I j e
      | _=>exact trivial
     | _=>exact trivial
    | _=>exact trivial
   | reverse=>
    cases o with
    | var j=>
     cases a with
     | unit=>exact zc9 (cl:=cl) (cd:=cd) (lev:=lev) I j
     | _=>exact trivial
    | _=>exact trivial
   | _=>exact trivial
  | _=>exact dflt
 | .brk,m,de,lv,env,A,I=>trivial
 | .cont,m,de,lv,env,A,I=>trivial
 | .never,m,de,lv,env,A,I=>by exact trivial
end
theorem jH {α β:Type}(f:α->β)(z:β)(xs:List α)(n i:Nat):(xs.map f++List.replicate n z)[i]?=if i < xs.length then (xs[i]?).map f else if i < xs.length+n then some z else none:=by
 rw[List.getElem?_append,List.length_map]
 split
 .rw[List.getElem?_map]
 .rw[List.getElem?_replicate]
  by_cases h:i - xs.length < n
  .rw[if_pos h,if_pos (by lia)]
  .rw[if_neg h,if_neg (by lia)]
theorem zbx {R:Nat->Prop}{m:Me}{ds:List Dat}{ws:List Wd}(fn:Fn)(h:RepL R m ds ws):Inv m.length (Rf R m.length) m (zT fn ds) (zY fn ds) (yF fn ws) (fun _=>[]):=by
 have hl:=h.len
 refine ⟨?_,?_,fun l hl=>.inr hl,Nat.le_refl _,?_,fun _=>List.nodup_nil,(fun _ _ _ h=>by cases h),(fun _ _ h=>by cases h)⟩
 .simp[zT,yF,hl]
 .simp[zT,zY]
 .intro i d l h1 h2
  unfold zT at h1
  unfold zY at h2
  rw[jH] at h1 h2
  by_cases hi:i < ds.length
  .rw[if_pos hi] at h1 h2
   obtain ⟨d',e1,e2⟩:=Option.map_eq_some_iff.mp h1
   cases e2
   rw[e1] at h2
   cases h2
   obtain ⟨w,hw,r⟩:=h.get e1
   refine ⟨w,?_,?_⟩
   .unfold yF;rw[jH,if_pos (by lia),hw];rfl
   .unfold lvF
    split
    .next f=>exact r.flat d w f
    .exact ⟨Rep.frame (fun x o r z=>⟨⟨.inl r,fun _ h=>by cases h⟩,z⟩) _ _ r,rfl⟩
  .rw[if_neg hi] at h1
   split at h1 <;> cases h1
theorem zeJ {lev:Nat->Lv}{cl:Nat->List Wd->Me->Rz}{cd:Nat->List Dat->Rd}(H:CallO lev cl cd)(k:Nat)(fn:Fn)(ds:List Dat)(ws:List Wd)(R:Nat->Prop)(m:Me)(h:RepL R m ds ws):SimO R m (wf lev k) (xy cl fn ws m) (zH lev cd k fn ds):=by
 unfold xy zH
 rw[h.len]
 split
 .have s:=vP H fn.body m _ _ _ _ (zbx fn h)
  cases z:exD lev cd fn.body (zT fn ds) (zY fn ds) with
  | next d1 l1 =>
   rw[z] at s
   obtain ⟨e1,m1,A1,h1,I1,K1⟩:=s
   rw[h1]
   refine ⟨.non,m1,[],rfl,fun l o q=>(K1.1 l o (fun _ h=>by cases h) q).2,?_,List.nodup_nil,by simp⟩
   unfold wf RepO Own
   simp[flat]
  | ret d l =>
   rw[z] at s
   obtain ⟨w,m1,B,h1,⟨kp,_⟩,ro,nd,hB⟩:=s
   rw[h1]
   have le:Le m m1:=fun l o q=>kp l o (fun _ h=>by cases h) q
   show SimO R m (wf lev k) (.ok w m1) (if flat d || zbv l (lev k) then .ok d else .no)
   split
   .next c =>
    by_cases f:flat d=true
    .refine ⟨w,m1,[],rfl,le,?_,List.nodup_nil,by simp⟩
     unfold wf;rw[if_pos f]
     exact (ro.rep (R':=fun _=>True) (fun _ _=>trivial) (fun _ _=>trivial)).flat d w f
    .have g:zbv l (lev k)=true:=by simpa [f] using c
     unfold SimO wf
     simp only[if_neg f]
     cases e:lev k with
     | no =>
      refine ⟨w,m1,[],rfl,le,⟨?_,rfl⟩,List.nodup_nil,by simp⟩
      exact ro.rep (fun x r=>⟨r.1,by simp⟩) (fun b hb=>⟨.inr (hB b hb),by simp⟩)
     | top =>
      rw[e] at g
      cases l with
      | top=>exact ⟨w,m1,B,rfl,le,ro,nd,hB⟩
      | no=>cases g
      | full=>cases g
     | full =>
      rw[e] at g
      cases l with
      | full=>exact ⟨w,m1,B,rfl,le,ro,nd,hB⟩
      | no=>cases g
      | top=>cases g
   .trivial
  | exc c d =>
   rw[z] at s
   obtain ⟨w,e,m1,h1,⟨kp,_⟩,r⟩:=s
   rw[h1]
   exact ⟨w,m1,rfl,fun l o q=>kp l o (fun _ h=>by cases h) q,r⟩
  | brk _ _=>trivial
  | cont _ _=>trivial
  | no=>trivial
 .trivial
theorem qc (lev:Nat->Lv)(T:List Fn):∀d:Nat,CallO lev (yt T d) (k7 lev T d)
 | 0=>fun k ds ws R m h=>trivial
 | d+1=>fun k ds ws R m h=>by
  unfold yt k7
  cases T[k]? with
  | none=>trivial
  | some fn=>exact zeJ (qc lev T d) k fn ds ws R m h
theorem zeK (lev:Nat->Lv)(T:List Fn)(d i:Nat)(ns:List Int)(h:k7 lev T d i [.scr ns]=.ok (.bl true)):∃m,yt T d i [.rol (ns.map Wd.int)] []=.ok (.bl true) m:=by
 have s:=qc lev T d i [.scr ns] [.rol (ns.map Wd.int)] (fun _=>True) [] (.cons (rep_scr.mpr rfl) .nil)
 rw[h] at s
 obtain ⟨w,m',h1,_,r⟩:=s.sim
 rw[rep_bl.mp r] at h1
 exact ⟨m',h1⟩
section
variable (lev:Nat->Lv)(cl:Nat->List Dat->Rd)(de:DEn)(lv:List Lv)
@[simp] theorem ziB (d:Dat)(f:Dat->Rd):(Rd.ok d).bind f=f d:=rfl
@[simp] theorem ziw (d:Dat)(f:Dat->Rsd):(Rd.ok d).bindS f=f d:=rfl
@[simp] theorem ziA (d:Dat)(f:Dat->Rsd):(Rd.ok d).okS f=f d:=rfl
@[simp] theorem ze (i:Int):evD cl (.lit (.int i)) de=.ok (.int i):=rfl
@[simp] theorem zby (i:Bool):evD cl (.lit (.bl i)) de=.ok (.bl i):=rfl
@[simp] theorem yW:evD cl (.lit .non) de=.ok .non:=rfl
@[simp] theorem xU (s:List Nat):evD cl (.lit (.str s)) de=.ok (.str s):=rfl
@[simp] theorem zA (op:Bo)(a b:Ex):evD cl (.bin op a b) de=(evD cl a de).bind fun x=>(evD cl b de).bind fun y=>zC op x y:=rfl
@[simp] theorem yu (op:Co)(a b:Ex):evD cl (.cmp op a b) de=(evD cl a de).bind fun x=>(evD cl b de).bind fun y=>y9 op x y:=rfl
@[simp] theorem zq:evD cl .unit de=.ok (.tup []):=rfl
@[simp] theorem zt (a b:Ex):evD cl (.pair a b) de=(evD cl a de).bind fun x=>(evD cl b de).bind fun y=>.ok (.tup (x::zO y)):=rfl
@[simp] theorem zX (k:Nat)(a:Ex):evD cl (.call k a) de=(evD cl a de).bind fun x=>cl k (zO x):=rfl
@[simp] theorem yB (b:Blf)(a:Ex):evD cl (.blt b a) de=(evD cl a de).bind fun x=>yT b (zO x):=rfl
@[simp] theorem qS (t:Tg)(a:Ex):evD cl (.isi t a) de=(evD cl a de).bind fun x=>.ok (.bl (isD t x)):=rfl
@[simp] theorem zU (a b:Ex):evD cl (.idx a b) de=(evD cl a de).bind fun x=>(evD cl b de).bind fun y=>yo x y:=rfl
@[simp] theorem wl (a:Ex):evD cl (.lst a) de=(evD cl a de).bind fun x=>yr (zO x):=rfl
@[simp] theorem zde (a:Ex):evD cl (.tup a) de=(evD cl a de).bind fun x=>if (zO x).length<=lim then .ok (.tup (zO x)) else .no:=rfl
@[simp] theorem xF (a b c:Ex):evD cl (.rng a b c) de=(evD cl a de).bind fun x=>(evD cl b de).bind fun y=>(evD cl c de).bind fun z=>wM x y z:=rfl
theorem zdf (i:Nat)(d:Dat)(h:de[i]?=some (some d)):evD cl (.var i) de=.ok d:=xj h
@[simp] theorem za (d:Dat)(r:DEn):evD cl (.var 0) (some d::r)=.ok d:=rfl
@[simp] theorem zb (i:Nat)(d:Option Dat)(r:DEn):evD cl (.var (i+1)) (d::r)=evD cl (.var i) r:=rfl
@[simp] theorem wm (a:Ex):evD cl (.neg a) de=(evD cl a de).bind fun x=>match x with
  | .int i=>.ok (.int (-i))
  | _=>.no:=rfl
@[simp] theorem gh (a:Ex):evD cl (.not a) de=(evD cl a de).bind fun x=>match x with
  | .bl b=>.ok (.bl (!b))
  | _=>.no:=rfl
@[simp] theorem vQ (a b:Ex):evD cl (.and a b) de=(evD cl a de).bind fun x=>match x with
  | .bl true=>evD cl b de
  | .bl false=>.ok (.bl false)
  | _=>.no:=rfl
@[simp] theorem qd (a b:Ex):evD cl (.or a b) de=(evD cl a de).bind fun x=>match x with
  | .bl false=>evD cl b de
  | .bl true=>.ok (.bl true)
  | _=>.no:=rfl
@[simp] theorem qe (p q:Co)(a b c:Ex):evD cl (.chain p q a b c) de=(evD cl a de).bind fun x=>(evD cl b de).bind fun y=>(y9 p x y).bind fun z=>match z with
  | .bl true=>(evD cl c de).bind fun u=>y9 q y u
  | .bl false=>.ok (.bl false)
  | _=>.no:=rfl
@[simp] theorem zgc (c a b:Ex):evD cl (.ife c a b) de=(evD cl c de).bind fun x=>match x with
  | .bl true=>evD cl a de
  | .bl false=>evD cl b de
  | _=>.no:=rfl
@[simp] theorem zdg (a lo:Ex):evD cl (.slL a lo) de=(evD cl a de).bind fun x=>(evD cl lo de).bind fun y=>match y with
  | .int i=>slD x (some i) none
  | _=>.no:=rfl
@[simp] theorem zaJ (a:Ex):evD cl (.lrng a) de=(evD cl a de).bind fun x=>match x with
  | .int j=>if -lim<=j/\j<=lim then yr (zL 0 1 j.toNat) else .no
  | _=>.no:=rfl
theorem wC (elt it cond:Ex):evD cl (.comp elt it cond) de=(evD cl it de).bind fun x=>match itD x with
  | some xs=>zS (fun x=>evD cl cond (de++[some x])) (fun x=>evD cl elt (de++[some x])) xs []
  | none=>.no:=rfl
theorem qf (k:Kd)(elt a b cond:Ex):evD cl (.compP k elt a b cond) de=(evD cl a de).bind fun x=>(evD cl b de).bind fun y=>match xA k x y with
  | some ps=>zS (fun p=>evD cl cond (de++[some p.1]++[some p.2])) (fun p=>evD cl elt (de++[some p.1]++[some p.2])) ps []
  | none=>.no:=rfl
@[simp] theorem zik (a b:Int):deq (.int a) (.int b)=decide (a=b):=rfl
@[simp] theorem zil (a b:Bool):deq (.bl a) (.bl b)=(a == b):=rfl
@[simp] theorem zim (a b:List Nat):deq (.str a) (.str b)=decide (a=b):=rfl
@[simp] theorem zin (a b:List Dat):deq (.tup a) (.tup b)=deqL a b:=rfl
@[simp] theorem zio (a b:List Dat):deq (.lst a) (.lst b)=deqL a b:=rfl
@[simp] theorem zhw (k:Nat)(a:Int):zK (k+1) (.int a)=true:=rfl
@[simp] theorem zhU (k:Nat)(a:Bool):zK (k+1) (.bl a)=true:=rfl
@[simp] theorem zhx (k:Nat)(a:List Nat):zK (k+1) (.str a)=true:=rfl
@[simp] theorem zhy (k:Nat):zK (k+1) .non=true:=rfl
@[simp] theorem ja (k:Nat)(a:List Dat):zK (k+1) (.tup a)=eqOkL k a:=rfl
@[simp] theorem jb (k:Nat)(a:List Dat):zK (k+1) (.lst a)=eqOkL k a:=rfl
@[simp] theorem zgs (k:Nat):eqOkL k []=true:=rfl
@[simp] theorem zgd (k:Nat)(d:Dat)(a:List Dat):eqOkL k (d::a)=(zK k d && eqOkL k a):=rfl
theorem yI (k:Nat):∀ (a:List Dat),eqOkL k a=a.all (zK k)
 | []=>by simp
 | d::a=>by simp[yI k a]
@[simp] theorem zhV:yD=11+1:=rfl
@[simp] theorem jI (i j:Int):y9 .lt (.int i) (.int j)=.ok (.bl (decide (i < j))):=rfl
@[simp] theorem zdh (i j:Int):y9 .le (.int i) (.int j)=.ok (.bl (decide (i<=j))):=rfl
@[simp] theorem jJ (i j:Int):y9 .gt (.int i) (.int j)=.ok (.bl (decide (j < i))):=rfl
@[simp] theorem zfc (i j:Int):y9 .ge (.int i) (.int j)=.ok (.bl (decide (j<=i))):=rfl
@[simp] theorem zfd (i j:Int):y9 .eq (.int i) (.int j)=.ok (.bl (decide (i=j))):=rfl
@[simp] theorem zhz (i j:Int):y9 .ne (.int i) (.int j)=.ok (.bl (!decide (i=j))):=rfl
@[simp] theorem ziq (i j:Bool):y9 .eq (.bl i) (.bl j)=.ok (.bl (i == j)):=rfl
@[simp] theorem zir (i j:Bool):y9 .ne (.bl i) (.bl j)=.ok (.bl (!(i == j))):=rfl
@[simp] theorem yw (i j:Int):zC .add (.int i) (.int j)=.ok (.int (i+j)):=rfl
@[simp] theorem wn (i j:Int):zC .sub (.int i) (.int j)=.ok (.int (i - j)):=rfl
theorem gi (i j:Int)(h:small i=true):zC .mul (.int i) (.int j)=.ok (.int (i * j)):=by simp[zC,h]
theorem zaK (i j:Int)(h:small j=true):zC .mul (.int i) (.int j)=.ok (.int (i * j)):=by simp[zC,h]
theorem yQ (i j:Int)(h:0 < j)(k:j < 1073741824):zC .fdiv (.int i) (.int j)=.ok (.int (i / j)):=by simp[zC,h,k]
theorem yR (i j:Int)(h:0 < j):zC .mod (.int i) (.int j)=.ok (.int (i % j)):=by simp[zC,h]
theorem qT (i j:Int)(h:0<=j/\j<=1000000/\small i=true):zC .pow (.int i) (.int j)=.ok (.int (i ^ j.toNat)):=by simp only[zC];rw[if_pos h]
theorem zdi {i:Int}(h:-18446744073709551616 < i)(k:i < 18446744073709551616):small i=true:=by unfold small big;simp[h,k]
@[simp] theorem zj (xs:List Dat):zO (.tup xs)=xs:=rfl
@[simp] theorem vk (xs:List Dat):yT .len [.lst xs]=.ok (.int xs.length):=rfl
@[simp] theorem zeL (xs:List Dat):yT .len [.tup xs]=.ok (.int xs.length):=rfl
@[simp] theorem zhW (ns:List Int):yT .len [.scr ns]=.ok (.int ns.length):=by simp[yT,xS]
@[simp] theorem zis (b:Bool):yT .int [.bl b]=.ok (.int (b2i b)):=rfl
theorem yG {xs:List Dat}(h:xs.length<=lim):yr xs=.ok (.lst xs):=by unfold yr;rw[if_pos h]
theorem y0 {n i:Nat}(h:i < n):ix n (i:Int)=some i:=by unfold ix;rw[if_pos (by lia),if_pos (by lia)];simp
theorem zeM {n:Nat}(h:0 < n):ix n (-1)=some (n - 1):=by unfold ix;rw[if_neg (by lia),if_pos (by lia)];congr 1;lia
theorem ko {xs:List Dat}{i:Nat}{d:Dat}(h:xs[i]?=some d):yo (.lst xs) (.int (i:Int))=.ok d:=by
 have:=(List.getElem?_eq_some_iff.mp h).1
 simp[yo,xS,y0 this,h]
theorem zaL {xs:List Dat}{i:Nat}{d:Dat}(h:xs[i]?=some d):yo (.tup xs) (.int (i:Int))=.ok d:=by
 have:=(List.getElem?_eq_some_iff.mp h).1
 simp[yo,xS,y0 this,h]
theorem zdj {xs:List Dat}{k:Int}{d:Dat}(hk:0<=k)(h:xs[k.toNat]?=some d):yo (.lst xs) (.int k)=.ok d:=by
 have:=ko h
 rwa [show ((k.toNat:Nat):Int)=k by lia] at this
theorem jK {xs:List Dat}{d:Dat}(h:xs[xs.length - 1]?=some d):yo (.lst xs) (.int (-1))=.ok d:=by
 have:=(List.getElem?_eq_some_iff.mp h).1
 simp[yo,xS,zeM (show 0 < xs.length by lia),h]
theorem xq {a b c:Int}(h:-lim<=a/\a<=lim/\-lim<=b/\b<=lim/\(c=1\/c=-1)):wM (.int a) (.int b) (.int c)=.ok (.tup (zL a c (x6 a b c))):=by
 simp only[wM];rw[if_pos h]
@[simp] theorem wr (a c:Int)(n:Nat):(zL a c n).length=n:=by simp[zL]
theorem xL (a c:Int)(n i:Nat)(h:i < n):(zL a c n)[i]?=some (.int (a+c * (i:Int))):=by
 simp[zL,h]
@[simp] theorem xg (a c:Int):∀ (n:Nat),flatL (zL a c n)=true:=by
 intro n
 unfold zL
 generalize List.range n=l
 induction l with
 | nil=>rfl
 | cons x l ih=>simp[flatL,flat,ih]
@[simp] theorem xN (xs:List Dat):flat (.tup xs)=flatL xs:=by rw[flat]
@[simp] theorem wt (xs:List Dat):flat (.lst xs)=false:=by rw[flat]
@[simp] theorem qg (i:Int):flat (.int i)=true:=by rw[flat]
@[simp] theorem zhX (i:Bool):flat (.bl i)=true:=by rw[flat]
@[simp] theorem zhA:flat .non=true:=by rw[flat]
@[simp] theorem zhB (s:List Nat):flat (.str s)=true:=by rw[flat]
@[simp] theorem zhC (s:List Int):flat (.scr s)=true:=by rw[flat]
@[simp] theorem zgt:flatL []=true:=by rw[flatL]
@[simp] theorem zge (d:Dat)(ds:List Dat):flatL (d::ds)=(flat d && flatL ds):=by rw[flatL]
@[simp] theorem zgf (l:List Int):flatL (l.map Dat.int)=true:=by
 induction l with
 | nil=>rfl
 | cons x l ih=>simp[ih]
@[simp] theorem xV (xs:List Dat):itD (.tup xs)=some xs:=rfl
@[simp] theorem zit (xs:List Int):itD (.scr xs)=some (xs.map .int):=rfl
theorem jc {xs:List Dat}(h:xs.length<=lim):itD (.lst xs)=some xs:=by simp[itD,h]
@[simp] theorem yy:exD lev cl .skip de lv=.next de lv:=rfl
@[simp] theorem xW (e:Ex):exD lev cl (.ret e) de lv=(evD cl e de).bindS fun d=>.ret d (lvR lev e d lv):=rfl
@[simp] theorem zw (i:Nat)(e:Ex):exD lev cl (.asg i e) de lv=(evD cl e de).bindS fun d=>vg lev i e d de lv:=rfl
@[simp] theorem yq (c:Ex)(a b:Sm):exD lev cl (.ite c a b) de lv=(evD cl c de).bindS fun x=>match x with
  | .bl true=>exD lev cl a de lv
  | .bl false=>exD lev cl b de lv
  | _=>.no:=rfl
theorem zF {lev:Nat->Lv}{i:Nat}{e:Ex}{d:Dat}{de:DEn}{lv:List Lv}(h:flat d=true):vg lev i e d de lv=.next (de.set i (some d)) (lv.set i .full):=by
 unfold vg;rw[if_pos (xl lev e d h)]
theorem xr {lev:Nat->Lv}{i:Nat}{e:Ex}{d:Dat}{de:DEn}{lv:List Lv}(h:lvE lev e d=.full):vg lev i e d de lv=.next (de.set i (some d)) (lv.set i .full):=by
 unfold vg;rw[if_pos h]
theorem jd {α:Type}{c e:α->Rd}{g:α->Dat}:∀ (xs:List α) (acc:List Dat),(∀x∈xs,c x=.ok (.bl true))->(∀x∈xs,e x=.ok (g x))->acc.length+xs.length<=lim->zS c e xs acc=.ok (.lst (acc++xs.map g))
 | [],acc,_,_,h=>by unfold zS;rw[yG (by simpa using h)];simp
 | x::xs,acc,hc,he,h=>by
  unfold zS
  simp only[List.length_cons] at h
  rw[hc x (by simp)]
  simp only[ziB]
  rw[he x (by simp)]
  simp only[ziB]
  rw[if_pos (by lia),jd xs (acc++[g x]) (fun y hy=>hc y (by simp[hy])) (fun y hy=>he y (by simp[hy])) (by simp;lia)]
  simp
theorem vR {α:Type}{body:α->DEn->List Lv->Rsd}(P:Nat->DEn->List Lv->Prop)(xs:List α){de:DEn}{lv:List Lv}(h0:P 0 de lv)
  (hs:∀ (i:Nat) x de lv,xs[i]?=some x->P i de lv->∃de' lv',body x de lv=.next de' lv'/\P (i+1) de' lv'):∃de' lv',yj body xs de lv=.next de' lv'/\P xs.length de' lv':=by
 induction xs generalizing P de lv with
 | nil=>exact ⟨de,lv,rfl,h0⟩
 | cons x xs ih =>
  obtain ⟨d1,l1,e1,p1⟩:=hs 0 x de lv rfl h0
  unfold yj
  rw[e1]
  exact ih (fun i=>P (i+1)) p1 (fun i y de lv hy hp=>hs (i+1) y de lv (by simpa using hy) hp)
theorem vm {body:Dat->DEn->List Lv->Rsd}(P:Nat->DEn->List Lv->Prop)(Q:Dat->Lv->Prop)(xs:List Dat){de:DEn}{lv:List Lv}(h0:P 0 de lv)
  (hs:∀ (i:Nat) x de lv,xs[i]?=some x->P i de lv->(∃de' lv',body x de lv=.next de' lv'/\P (i+1) de' lv')\/∃d l,body x de lv=.ret d l/\Q d l) :
  (∃de' lv',yj body xs de lv=.next de' lv'/\P xs.length de' lv')\/∃d l,yj body xs de lv=.ret d l/\Q d l:=by
 induction xs generalizing P de lv with
 | nil=>exact .inl ⟨de,lv,rfl,h0⟩
 | cons x xs ih =>
  rcases hs 0 x de lv rfl h0 with ⟨d1,l1,e1,p1⟩ | ⟨d,l,e1,q⟩
  .unfold yj
   rw[e1]
   exact ih (fun i=>P (i+1)) p1 (fun i y de lv hy hp=>hs (i+1) y de lv (by simpa using hy) hp)
  .right
   unfold yj
   rw[e1]
   exact ⟨d,l,rfl,q⟩
end
namespace Lib
section
variable {lev:Nat->Lv}{cl:Nat->List Dat->Rd}{k:Nat}
noncomputable def isInt:Dat->Bool
 | .int _=>true
 | _=>false
def gj:Fn:=⟨1,1,(.ret (.and (.isi .int (.var 0)) (.not (.isi .bool (.var 0)))))⟩
theorem jL (d:Dat):zH lev cl k gj [d]=.ok (.bl (isInt d)):=by
 cases d <;> simp[zH,gj,zT,zY,zJ,isD,isInt,lvR]
theorem qU (p:Dat->Bool):∀xs:List Dat,jn (xs.map fun x=>.bl (p x))=some (xs.all p)
 | []=>rfl
 | x::xs=>by
  simp only[List.map_cons,List.all_cons,jn,qU p xs,Option.map_some]
noncomputable def wu:Dat->Bool
 | .scr _=>false
 | _=>true
end
end Lib
section
variable (lev:Nat->Lv)(cl:Nat->List Dat->Rd)(de:DEn)(lv:List Lv)
@[simp] theorem gl (j:Nat)(e:Ex):exD lev cl (.expr (.meth .append (.var j) (.pair e .unit))) de lv=(evD cl e de).okS fun d=>match xD de j with
   | some ds=>if ds.length < lim then match xo lev e d j de lv with
    | some (de1,lv1)=>.next (de1.set j (some (.lst (ds++[d])))) lv1
    | none=>.no
    else .no
   | none=>.no:=rfl
@[simp] theorem zaM (j:Nat):exD lev cl (.expr (.meth .reverse (.var j) .unit)) de lv=match xD de j with
   | some ds=>if zP lv j then .next (de.set j (some (.lst ds.reverse))) lv else .no
   | none=>.no:=rfl
theorem wv (i:Nat)(it:Ex)(body:Sm):exD lev cl (.forv i it body) de lv=(evD cl it de).bindS fun d=>match itD d with
  | some xs=>yj (fun x de lv=>exD lev cl body (de.set i (some x)) (lv.set i (lvF x))) xs de (if flat d then lv else xC it de lv)
  | none=>.no:=rfl
noncomputable def Rsd.then (r:Rsd)(f:DEn->List Lv->Rsd):Rsd:=match r with
 | .next d l=>f d l
 | r=>r
@[simp] theorem zh (d:DEn)(l:List Lv)(f:DEn->List Lv->Rsd):(Rsd.next d l).then f=f d l:=rfl
@[simp] theorem zhD (d:Dat)(l:Lv)(f:DEn->List Lv->Rsd):(Rsd.ret d l).then f=.ret d l:=rfl
theorem zD {a b:Sm}(h:zI a b=none):exD lev cl (.seq a b) de lv=(exD lev cl a de lv).then (exD lev cl b):=by
 rw[kj,h];cases exD lev cl a de lv <;> rfl
theorem zdk (a:Sm)(c d:Sm):zI a (.seq c d)=none:=rfl
@[simp] theorem zG (a:Sm)(c d:Sm):exD lev cl (.seq a (.seq c d)) de lv=(exD lev cl a de lv).then (exD lev cl (.seq c d)):=zD lev cl de lv (zdk a c d)
theorem zdl (a:Sm)(e:Ex):zI a (.ret e)=none:=rfl
@[simp] theorem xX (a:Sm)(e:Ex):exD lev cl (.seq a (.ret e)) de lv=(exD lev cl a de lv).then (exD lev cl (.ret e)):=zD lev cl de lv (zdl a e)
theorem zbz (a:Sm): zI a .retN=none:=rfl
@[simp] theorem zhY (a:Sm): exD lev cl (.seq a .retN) de lv=(exD lev cl a de lv).then (exD lev cl .retN):=zD lev cl de lv (zbz a)
theorem zdm (a:Sm)(c:Ex)(x y:Sm):zI a (.ite c x y)=none:=rfl
@[simp] theorem gm (a:Sm)(c:Ex)(x y:Sm):exD lev cl (.seq a (.ite c x y)) de lv=(exD lev cl a de lv).then (exD lev cl (.ite c x y)):=zD lev cl de lv (zdm a c x y)
theorem zbA (a:Sm)(i:Nat)(e:Ex)(x:Sm):zI a (.forv i e x)=none:=rfl
@[simp] theorem zeN (a:Sm)(i:Nat)(e:Ex)(x:Sm):exD lev cl (.seq a (.forv i e x)) de lv=(exD lev cl a de lv).then (exD lev cl (.forv i e x)):=zD lev cl de lv (zbA a i e x)
theorem zbB (a:Sm)(i j:Nat)(e:Ex)(x:Sm):zI a (.fort i j e x)=none:=rfl
@[simp] theorem zhZ (a:Sm)(i j:Nat)(e:Ex)(x:Sm):exD lev cl (.seq a (.fort i j e x)) de lv=(exD lev cl a de lv).then (exD lev cl (.fort i j e x)):=zD lev cl de lv (zbB a i j e x)
theorem qV (a:Sm)(e:Ex)(x:Sm):zI a (.while e x)=none:=rfl
@[simp] theorem zhE (a:Sm)(e:Ex)(x:Sm):exD lev cl (.seq a (.while e x)) de lv=(exD lev cl a de lv).then (exD lev cl (.while e x)):=zD lev cl de lv (qV a e x)
theorem zdn (a:Sm)(i:Nat)(e:Ex):zI a (.asg i e)=none:=rfl
@[simp] theorem zgg (a:Sm)(i:Nat)(e:Ex):exD lev cl (.seq a (.asg i e)) de lv=(exD lev cl a de lv).then (exD lev cl (.asg i e)):=zD lev cl de lv (zdn a i e)
theorem zbC (a:Sm)(o i e:Ex):zI a (.asgS o i e)=none:=rfl
@[simp] theorem zh0 (a:Sm)(o i e:Ex):exD lev cl (.seq a (.asgS o i e)) de lv=(exD lev cl a de lv).then (exD lev cl (.asgS o i e)):=zD lev cl de lv (zbC a o i e)
theorem zdo (a:Sm)(i:Nat)(op:Bo)(e:Ex):zI a (.aug i op e)=none:=rfl
@[simp] theorem ziu (a:Sm)(i:Nat)(op:Bo)(e:Ex):exD lev cl (.seq a (.aug i op e)) de lv=(exD lev cl a de lv).then (exD lev cl (.aug i op e)):=zD lev cl de lv (zdo a i op e)
theorem zbD (a:Sm)(o i:Ex)(op:Bo)(e:Ex):zI a (.augS o i op e)=none:=rfl
@[simp] theorem zh1 (a:Sm)(o i:Ex)(op:Bo)(e:Ex):exD lev cl (.seq a (.augS o i op e)) de lv=(exD lev cl a de lv).then (exD lev cl (.augS o i op e)):=zD lev cl de lv (zbD a o i op e)
theorem zbE (a:Sm)(e:Ex):zI a (.expr e)=none:=rfl
@[simp] theorem zaN (a:Sm)(e:Ex):exD lev cl (.seq a (.expr e)) de lv=(exD lev cl a de lv).then (exD lev cl (.expr e)):=zD lev cl de lv (zbE a e)
theorem zbF (a:Sm): zI a .skip=none:=rfl
@[simp] theorem zh2 (a:Sm): exD lev cl (.seq a .skip) de lv=(exD lev cl a de lv).then (exD lev cl .skip):=zD lev cl de lv (zbF a)
theorem zdp (a:Sm): zI a .brk=none:=rfl
@[simp] theorem ziv (a:Sm): exD lev cl (.seq a .brk) de lv=(exD lev cl a de lv).then (exD lev cl .brk):=zD lev cl de lv (zdp a)
theorem zbG (a:Sm): zI a .cont=none:=rfl
@[simp] theorem zh3 (a:Sm): exD lev cl (.seq a .cont) de lv=(exD lev cl a de lv).then (exD lev cl .cont):=zD lev cl de lv (zbG a)
theorem qW (a:Sm): zI a .never=none:=rfl
@[simp] theorem zhF (a:Sm): exD lev cl (.seq a .never) de lv=(exD lev cl a de lv).then (exD lev cl .never):=zD lev cl de lv (qW a)
end
namespace Lib
section
noncomputable def row (r:List Int):Dat:=.lst (r.map .int)
noncomputable def tab (R:List (List Int)):Dat:=.lst (R.map row)
noncomputable def wfT (d:Dat):Bool:=match d with
 | .lst xs=>xs.all wu
 | .scr _=>false
 | _=>true
end
end Lib
namespace Lib
section
noncomputable def S (R:List (List Int))(r c:Nat):Int:=((R.take r).map (fun x=>x.getD c 0)).sum
theorem kq {R:List (List Int)}{r:Nat}{x:List Int}(h:R[r]?=some x):yo (tab R) (.int (r:Int))=.ok (row x):=ko (by simp[h])
theorem vn {x:List Int}{c:Nat}{v:Int}(h:x[c]?=some v):yo (row x) (.int (c:Int))=.ok (.int v):=ko (by simp[h])
end
end Lib
namespace Lib
section
variable {lev:Nat->Lv}{cl:Nat->List Dat->Rd}{k:Nat}
noncomputable def zaO:Fn:=⟨2,2,(.seq (.ite (.cmp .lt (.var 1) (.blt .len (.pair (.var 0) .unit))) (.ret (.idx (.var 0) (.var 1))) .skip) (.ret (.bin .add (.bin .mul (.lit (.int 2)) (.var 1)) (.lit (.int 1)))))⟩
theorem zdq (ns:List Int)(i:Nat):∃c:Int,zH lev cl k zaO [.scr ns,.int i]=.ok (.int c):=by
 by_cases h:i < ns.length
 .refine ⟨ns[i],?_⟩
  have h1:yo (.scr ns) (.int (i:Int))=.ok (.int ns[i]):=by simp[yo,xS,y0 h,h]
  simp[zH,zaO,zT,zY,zJ,lvR,h,h1]
 .refine ⟨2 * i+1,?_⟩
  simp[zH,zaO,zT,zY,zJ,lvR,h,gi 2 i (by decide)]
noncomputable def zgh:Fn:=⟨2,2,(.ret (.bin .add (.bin .mul (.bin .add (.bin .mod (.var 0) (.bin .pow (.lit (.int 10)) (.lit (.int 60)))) (.bin .mul (.var 1) (.var 1))) (.lit (.int 6364136223846793013))) (.bin .mul (.bin .add (.var 1) (.lit (.int 1))) (.lit (.int 1442695040888963407)))))⟩
theorem zeO (c j:Int)(h:0<=j)(h':j<=100000):∃v:Int,zH lev cl k zgh [.int c,.int j]=.ok (.int v):=by
 refine ⟨(c % 10 ^ 60+j * j) * 6364136223846793013+(j+1) * 1442695040888963407,?_⟩
 have e1:zC .pow (.int 10) (.int 60)=.ok (.int (10 ^ 60)):=qT 10 60 ⟨by decide,by decide,by decide⟩
 have e2:zC .mod (.int c) (.int (10 ^ 60))=.ok (.int (c % 10 ^ 60)):=yR _ _ (by decide)
 have e3:zC .mul (.int j) (.int j)=.ok (.int (j * j)):=gi _ _ (zdi (by lia) (by lia))
 have e4:∀x:Int,zC .mul (.int x) (.int 6364136223846793013)=.ok (.int (x * 6364136223846793013)):=fun x=>zaK _ _ (by decide)
 have e5:∀x:Int,zC .mul (.int x) (.int 1442695040888963407)=.ok (.int (x * 1442695040888963407)):=fun x=>zaK _ _ (by decide)
 simp only[zH,zgh,zT,zY,zJ,lvR,xW,zA,za,zb,ze,ziB,List.map_cons,List.map_nil,List.cons_append,List.nil_append,e1,e2,e3,e4,e5,yw,ziw,qg]
 simp
noncomputable def kr:Fn:=⟨1,1,(.seq (.ite (.cmp .eq (.bin .mod (.var 0) (.lit (.int 8))) (.lit (.int 5))) (.ret (.bin .add (.lit (.int 1)) (.bin .mod (.bin .fdiv (.var 0) (.lit (.int 8))) (.lit (.int 12))))) .skip) (.ret (.bin .add (.lit (.int 1)) (.bin .mod (.bin .fdiv (.var 0) (.lit (.int 8))) (.lit (.int 6))))))⟩
theorem qX (c:Int):∃n:Nat,1<=n/\n<=12/\zH lev cl k kr [.int c]=.ok (.int n):=by
 have e1:zC .mod (.int c) (.int 8)=.ok (.int (c % 8)):=yR _ _ (by decide)
 have e2:zC .fdiv (.int c) (.int 8)=.ok (.int (c / 8)):=yQ _ _ (by decide) (by decide)
 have e3:∀x:Int,zC .mod (.int x) (.int 12)=.ok (.int (x % 12)):=fun x=>yR _ _ (by decide)
 have e4:∀x:Int,zC .mod (.int x) (.int 6)=.ok (.int (x % 6)):=fun x=>yR _ _ (by decide)
 by_cases h:c % 8=5
 .refine ⟨(1+c / 8 % 12).toNat,by lia,by lia,?_⟩
  have:(((1+c / 8 % 12).toNat:Nat):Int)=1+c / 8 % 12:=by lia
  simp[zH,kr,zT,zY,zJ,lvR,e1,e2,e3,e4,h,this]
 .refine ⟨(1+c / 8 % 6).toNat,by lia,by lia,?_⟩
  have:(((1+c / 8 % 6).toNat:Nat):Int)=1+c / 8 % 6:=by lia
  simp[zH,kr,zT,zY,zJ,lvR,e1,e2,e3,e4,h,this]
def Inc (x:List Int):Prop:=∀i,i+1 < x.length->x.getD i 0 < x.getD (i+1) 0
def zeP (big sm:List Int):Prop:=big.length=sm.length+1/\∀i,i < sm.length->big.getD i 0<=sm.getD i 0/\sm.getD i 0<=big.getD (i+1) 0
noncomputable def qY (km:Nat):Sm:=(.seq (.asg 7 (.idx (.idx (.var 2) (.neg (.lit (.int 1)))) (.var 6))) (.seq (.ite (.and (.cmp .gt (.var 6) (.lit (.int 0))) (.cmp .ge (.idx (.var 5) (.bin .sub (.var 6) (.lit (.int 1)))) (.var 7))) (.asg 7 (.bin .add (.idx (.var 5) (.bin .sub (.var 6) (.lit (.int 1)))) (.lit (.int 1)))) .skip) (.seq (.asg 8 (.bin .add (.bin .sub (.idx (.idx (.var 2) (.neg (.lit (.int 1)))) (.bin .add (.var 6) (.lit (.int 1)))) (.var 7)) (.lit (.int 1)))) (.seq (.asg 9 (.var 3)) (.seq (.ite (.cmp .lt (.var 1) (.bin .pow (.lit (.int 10)) (.lit (.int 18)))) (.asg 9 (.bin .fdiv (.call km (.pair (.var 1) (.pair (.bin .add (.bin .mul (.lit (.int 13)) (.var 4)) (.var 6)) .unit))) (.lit (.int 97)))) .skip) (.seq (.asg 3 (.bin .fdiv (.var 3) (.var 8))) (.expr (.meth .append (.var 5) (.pair (.bin .add (.var 7) (.bin .mod (.var 9) (.var 8))) .unit)))))))))
noncomputable abbrev vq:List Lv:=[.full,.full,.full,.full,.full,.full,.full,.full,.full,.full]
theorem zeQ {x:List Int}{i:Nat}{v:Int}(h:x[i]?=some v):x.getD i 0=v:=by rw[List.getD_eq_getElem?_getD,h];rfl
theorem vS {x:List Int}{i:Nat}(h:i < x.length):x[i]?=some (x.getD i 0):=by
 rw[List.getD_eq_getElem?_getD,List.getElem?_eq_getElem h];rfl
theorem zdr {km:Nat}(hm:∀c j:Int,0<=j->j<=100000->∃v:Int,cl km [.int c,.int j]=.ok (.int v)){n cell rest:Int}{rows:List Dat}{last acc:List Int}{kk m:Nat}{o7 o8 o9:Option Dat}
  (hl:rows[rows.length - 1]?=some (row last)) (hlast:Inc last) (hm1:m+1 < last.length) (hacc:acc.length=m) (hp:∀i,i < m->acc.getD i 0<=last.getD (i+1) 0) (hk:kk<=1000) (hmk:m<=1000) (hb:∀i,i < last.length->0<=last.getD i 0/\last.getD i 0<=1000) :
  ∃v rest':Int,∃p7 p8 p9,exD lev cl (qY km) [some (.int n),some (.int cell),some (.lst rows),some (.int rest),some (.int kk),some (row acc),some (.int m),o7,o8,o9] vq =
   .next [some (.int n),some (.int cell),some (.lst rows),some (.int rest'),some (.int kk),some (row (acc++[v])),some (.int m),p7,p8,p9] vq /\
   last.getD m 0<=v/\v<=last.getD (m+1) 0/\(0 < m->acc.getD (m - 1) 0 < v):=by
 have h1:yo (.lst rows) (.int (-1))=.ok (row last):=jK hl
 have h2:yo (row last) (.int (m:Int))=.ok (.int (last.getD m 0)):=vn (vS (by lia))
 have h3:yo (row last) (.int ((m:Int)+1))=.ok (.int (last.getD (m+1) 0)):=vn (c:=m+1) (vS hm1)
 have hb1:=hb m (by lia)
 have hb2:=hb (m+1) hm1
 have hinc:=hlast m hm1
 have h10:zC .pow (.int 10) (.int 18)=.ok (.int (10 ^ 18)):=qT 10 18 ⟨by decide,by decide,by decide⟩
 -- the lower bound
 have low:∃low:Int,last.getD m 0<=low/\low<=last.getD (m+1) 0/\(0 < m->acc.getD (m - 1) 0 < low) /\
   (exD lev cl (.asg 7 (.idx (.idx (.var 2) (.neg (.lit (.int 1)))) (.var 6))) [some (.int n),some (.int cell),some (.lst rows),some (.int rest),some (.int kk),some (row acc),some (.int m),o7,o8,o9] vq).then (exD lev cl (.ite (.and (.cmp .gt (.var 6) (.lit (.int 0))) (.cmp .ge (.idx (.var 5) (.bin .sub (.var 6) (.lit (.int 1)))) (.var 7))) (.asg 7 (.bin .add (.idx (.var 5) (.bin .sub (.var 6) (.lit (.int 1)))) (.lit (.int 1)))) .skip)) =
   .next [some (.int n),some (.int cell),some (.lst rows),some (.int rest),some (.int kk),some (row acc),some (.int m),some (.int low),o8,o9] vq:=by
  by_cases z:m=0
  .refine ⟨last.getD m 0,Int.le_refl _,by lia,fun h=>by lia,?_⟩
   subst z
   simp only[zw,zU,wm,zb,za,ze,ziB,h1,h2,ziw]
   rw[zF (by simp)]
   simp
  .have hp1:=hp (m - 1) (by lia)
   rw[show m - 1+1=m by lia] at hp1
   have h4:yo (row acc) (.int ((m:Int) - 1))=.ok (.int (acc.getD (m - 1) 0)):=by
    have:=vn (x:=acc) (c:=m - 1) (vS (by lia))
    rwa [show ((m - 1:Nat):Int)=(m:Int) - 1 by lia] at this
   by_cases q:last.getD m 0<=acc.getD (m - 1) 0
   .refine ⟨acc.getD (m - 1) 0+1,by lia,by lia,fun h=>by lia,?_⟩
    simp only[zw,zU,wm,zb,za,ze,ziB,h1,h2,ziw]
    rw[zF (by simp)]
    simp only[zh,List.set_cons_succ,List.set_cons_zero,yq,vQ,yu,zU,zA,zb,za,ze,ziB,jJ,zfc,wn,yw,h4,show (0:Int) < (m:Int) from by lia,decide_true,q,ziw,zw]
    rw[zF (by simp)]
    simp
   .refine ⟨last.getD m 0,Int.le_refl _,by lia,fun h=>by lia,?_⟩
    simp only[zw,zU,wm,zb,za,ze,ziB,h1,h2,ziw]
    rw[zF (by simp)]
    simp only[zh,List.set_cons_succ,List.set_cons_zero,yq,vQ,yu,zU,zA,zb,za,ze,ziB,jJ,zfc,wn,yw,h4,show (0:Int) < (m:Int) from by lia,decide_true,q,ziw,decide_false,yy]
 obtain ⟨low,l1,l2,l3,hlow⟩:=low
 -- the number
 have num:∃num:Int,exD lev cl (.ite (.cmp .lt (.var 1) (.bin .pow (.lit (.int 10)) (.lit (.int 18)))) (.asg 9 (.bin .fdiv (.call km (.pair (.var 1) (.pair (.bin .add (.bin .mul (.lit (.int 13)) (.var 4)) (.var 6)) .unit))) (.lit (.int 97)))) .skip) [some (.int n),some (.int cell),some (.lst rows),some (.int rest),some (.int kk),some (row acc),some (.int m),some (.int low),some (.int (last.getD (m+1) 0 - low+1)),some (.int rest)] vq=.next [some (.int n),some (.int cell),some (.lst rows),some (.int rest),some (.int kk),some (row acc),some (.int m),some (.int low),some (.int (last.getD (m+1) 0 - low+1)),some (.int num)] vq:=by
  obtain ⟨v,hv⟩:=hm cell (13 * kk+m) (by lia) (by lia)
  have e13:zC .mul (.int 13) (.int kk)=.ok (.int (13 * kk)):=gi _ _ (by decide)
  have e97:zC .fdiv (.int v) (.int 97)=.ok (.int (v / 97)):=yQ _ _ (by decide) (by decide)
  by_cases q:cell < 10 ^ 18
  .refine ⟨v / 97,?_⟩
   simp only[yq,yu,zb,za,zA,ze,ziB,h10,jI,q,decide_true,ziw,zw,zX,zt,zq,zj,e13,yw,hv,e97]
   rw[zF (by simp)]
   simp
  .refine ⟨rest,?_⟩
   simp only[yq,yu,zb,za,zA,ze,ziB,h10,jI,q,decide_false,ziw,yy]
 obtain ⟨num,hnum⟩:=num
 have many:(0:Int) < last.getD (m+1) 0 - low+1:=by lia
 have e1:zC .fdiv (.int rest) (.int (last.getD (m+1) 0 - low+1))=.ok (.int (rest / (last.getD (m+1) 0 - low+1))):=yQ _ _ many (by lia)
 have e2:zC .mod (.int num) (.int (last.getD (m+1) 0 - low+1))=.ok (.int (num % (last.getD (m+1) 0 - low+1))):=yR _ _ many
 have q1:=Int.emod_nonneg num (b:=last.getD (m+1) 0 - low+1) (by lia)
 have q2:=Int.emod_lt_of_pos num many
 refine ⟨low+num % (last.getD (m+1) 0 - low+1),rest / (last.getD (m+1) 0 - low+1),some (.int low),some (.int (last.getD (m+1) 0 - low+1)),some (.int num),?_,by lia,by lia,fun h=>by have:=l3 h;lia⟩
 unfold qY
 rw[zG]
 have assoc:∀ (r:Rsd) (f g:DEn->List Lv->Rsd),(r.then f).then g=r.then fun d l=>(f d l).then g:=by
  intro r f g;cases r <;> rfl
 rw[show (exD lev cl (.seq (.ite (.and (.cmp .gt (.var 6) (.lit (.int 0))) (.cmp .ge (.idx (.var 5) (.bin .sub (.var 6) (.lit (.int 1)))) (.var 7))) (.asg 7 (.bin .add (.idx (.var 5) (.bin .sub (.var 6) (.lit (.int 1)))) (.lit (.int 1)))) .skip) (.seq (.asg 8 (.bin .add (.bin .sub (.idx (.idx (.var 2) (.neg (.lit (.int 1)))) (.bin .add (.var 6) (.lit (.int 1)))) (.var 7)) (.lit (.int 1)))) (.seq (.asg 9 (.var 3)) (.seq (.ite (.cmp .lt (.var 1) (.bin .pow (.lit (.int 10)) (.lit (.int 18)))) (.asg 9 (.bin .fdiv (.call km (.pair (.var 1) (.pair (.bin .add (.bin .mul (.lit (.int 13)) (.var 4)) (.var 6)) .unit))) (.lit (.int 97)))) .skip) (.seq (.asg 3 (.bin .fdiv (.var 3) (.var 8))) (.expr (.meth .append (.var 5) (.pair (.bin .add (.var 7) (.bin .mod (.var 9) (.var 8))) .unit)))))))))
  = fun d l=>(exD lev cl (.ite (.and (.cmp .gt (.var 6) (.lit (.int 0))) (.cmp .ge (.idx (.var 5) (.bin .sub (.var 6) (.lit (.int 1)))) (.var 7))) (.asg 7 (.bin .add (.idx (.var 5) (.bin .sub (.var 6) (.lit (.int 1)))) (.lit (.int 1)))) .skip) d l).then (exD lev cl (.seq (.asg 8 (.bin .add (.bin .sub (.idx (.idx (.var 2) (.neg (.lit (.int 1)))) (.bin .add (.var 6) (.lit (.int 1)))) (.var 7)) (.lit (.int 1)))) (.seq (.asg 9 (.var 3)) (.seq (.ite (.cmp .lt (.var 1) (.bin .pow (.lit (.int 10)) (.lit (.int 18)))) (.asg 9 (.bin .fdiv (.call km (.pair (.var 1) (.pair (.bin .add (.bin .mul (.lit (.int 13)) (.var 4)) (.var 6)) .unit))) (.lit (.int 97)))) .skip) (.seq (.asg 3 (.bin .fdiv (.var 3) (.var 8))) (.expr (.meth .append (.var 5) (.pair (.bin .add (.var 7) (.bin .mod (.var 9) (.var 8))) .unit)))))))) from by funext d l;rw[zG]]
 rw[<- assoc,hlow,zh,zG]
 simp only[zw,zA,zU,wm,zb,za,ze,ziB,h1,yw,h3,wn,ziw]
 rw[zF (by simp),zh,zG]
 simp only[List.set_cons_succ,List.set_cons_zero,zw,zb,za,ziw]
 rw[zF (by simp),zh,zG]
 simp only[List.set_cons_succ,List.set_cons_zero]
 rw[hnum,zh,zaN]
 simp only[zw,zA,zb,za,ziB,e1,ziw]
 rw[zF (by simp),zh]
 simp only[List.set_cons_succ,List.set_cons_zero]
 rw[gl]
 simp only[zA,zb,za,ziB,e2,yw,ziA]
 have hlim:acc.length < lim:=by rw[hacc];unfold lim;lia
 simp[xD,row,hlim,xo,zP]
end
end Lib
namespace Lib
section
variable {lev:Nat->Lv}{cl:Nat->List Dat->Rd}{k:Nat}
theorem xw {x:List Int}{v:Int}{i:Nat}(h:i < x.length):(x++[v]).getD i 0=x.getD i 0:=by
 simp[List.getD_eq_getElem?_getD,List.getElem?_append_left h]
theorem vY {x:List Int}{v:Int}:(x++[v]).getD x.length 0=v:=by
 simp[List.getD_eq_getElem?_getD]
theorem gp {x:List (List Int)}{v:List Int}{i:Nat}(h:i < x.length):(x++[v]).getD i []=x.getD i []:=by
 simp[List.getD_eq_getElem?_getD,List.getElem?_append_left h]
theorem xa {x:List (List Int)}{v:List Int}:(x++[v]).getD x.length []=v:=by
 simp[List.getD_eq_getElem?_getD]
theorem Inc.app {x:List Int}{v:Int}(h:Inc x)(hv:0 < x.length->x.getD (x.length - 1) 0 < v):Inc (x++[v]):=by
 intro i hi
 simp only[List.length_append,List.length_cons,List.length_nil] at hi
 by_cases z:i+1 < x.length
 .rw[xw (by lia),xw z];exact h i z
 .have e:i+1=x.length:=by lia
  rw[xw (by lia),e,vY]
  have:=hv (by lia)
  rwa [show x.length - 1=i by lia] at this
theorem zeR {km:Nat}(hm:∀c j:Int,0<=j->j<=100000->∃v:Int,cl km [.int c,.int j]=.ok (.int v)){n cell rest:Int}{rows:List Dat}{last:List Int}{kk:Nat}{o6 o7 o8 o9:Option Dat}
  (hl:rows[rows.length - 1]?=some (row last)) (hlast:Inc last) (hlen:last.length=kk+1) (hk:kk<=1000) (hb:∀i,i < last.length->0<=last.getD i 0/\last.getD i 0<=1000) :
  ∃acc rest' p6 p7 p8 p9,yj (fun x de lv=>exD lev cl (qY km) (de.set 6 (some x)) (lv.set 6 (lvF x))) (zL 0 1 kk) [some (.int n),some (.int cell),some (.lst rows),some (.int rest),some (.int kk),some (row []),o6,o7,o8,o9] vq =
   .next [some (.int n),some (.int cell),some (.lst rows),some (.int rest'),some (.int kk),some (row acc),p6,p7,p8,p9] vq/\Inc acc/\zeP last acc:=by
 have main:=vR (body:=fun x de lv=>exD lev cl (qY km) (de.set 6 (some x)) (lv.set 6 (lvF x)))
  (fun m de lv=>∃ (acc:List Int) (rest':Int) (p6 p7 p8 p9:Option Dat),de=[some (.int n),some (.int cell),some (.lst rows),some (.int rest'),some (.int kk),some (row acc),p6,p7,p8,p9]/\lv=vq/\acc.length=m/\Inc acc/\∀i,i < m->last.getD i 0<=acc.getD i 0/\acc.getD i 0<=last.getD (i+1) 0)
  (zL 0 1 kk) (de:=[some (.int n),some (.int cell),some (.lst rows),some (.int rest),some (.int kk),some (row []),o6,o7,o8,o9]) (lv:=vq)
  ⟨[],rest,o6,o7,o8,o9,rfl,rfl,rfl,fun i hi=>by simp at hi,fun i hi=>by lia⟩ ?_
 .obtain ⟨de',lv',e,acc,rest',p6,p7,p8,p9,rfl,rfl,h1,h2,h3⟩:=main
  rw[wr] at h1 h3
  exact ⟨acc,rest',p6,p7,p8,p9,e,h2,by lia,fun i hi=>h3 i (by lia)⟩
 .rintro m x de lv hx ⟨acc,rest',p6,p7,p8,p9,rfl,rfl,h1,h2,h3⟩
  have hmk:m < kk:=by
   have:=(List.getElem?_eq_some_iff.mp hx).1
   simpa using this
  rw[xL _ _ _ _ hmk] at hx
  cases hx
  have e1:(0:Int)+1 * (m:Int)=(m:Int):=by lia
  obtain ⟨v,rest2,q7,q8,q9,e,b1,b2,b3⟩:=zdr (lev:=lev) (n:=n) (cell:=cell) (rest:=rest') (kk:=kk) (m:=m) (o7:=p7) (o8:=p8) (o9:=p9) hm hl hlast (by lia) h1 (fun i hi=>(h3 i hi).2) hk (by lia) hb
  refine ⟨_,_,?_,acc++[v],rest2,some (.int m),q7,q8,q9,rfl,rfl,by simp[h1],h2.app (fun h=>?_),fun i hi=>?_⟩
  .simp only[e1,List.set_cons_succ,List.set_cons_zero,show lvF (.int (m:Int))=.full from by simp[lvF]]
   exact e
  .rw[h1] at h ⊢;exact b3 h
  .by_cases z:i < m
   .rw[xw (by lia)];exact h3 i z
   .have:i=acc.length:=by lia
    subst this
    rw[vY,h1];exact ⟨b1,b2⟩
noncomputable def yC (n:Nat):List Int:=(List.range n).map fun (i:Nat)=>(i:Int)
theorem qZ (n:Nat):Dat.lst (zL 0 1 n)=row (yC n):=by
 unfold row yC zL
 rw[List.map_map]
 congr 1
 apply List.map_congr_left
 intro i _
 simp
structure TriL (n:Nat)(L:List (List Int)):Prop where
 first:L.getD 0 []=yC n
 len:∀j,j < L.length->(L.getD j []).length+j=n
 inc:∀j,j < L.length->Inc (L.getD j [])
 bd:∀j,j < L.length->∀i,i < (L.getD j []).length->0<=(L.getD j []).getD i 0/\(L.getD j []).getD i 0 < n
 lace:∀j,j+1 < L.length->zeP (L.getD j []) (L.getD (j+1) [])
theorem wN {n i:Nat}(h:i < n):(yC n).getD i 0=i:=zeQ (by simp[yC,h])
theorem TriL.one (n:Nat):TriL n [yC n]:=by
 refine ⟨rfl,?_,?_,?_,?_⟩
 .intro j hj;simp at hj;subst hj;simp[yC]
 .intro j hj i hi;simp at hj;subst hj
  simp only[List.getD_cons_zero] at hi ⊢
  have:i+1 < n:=by simpa [yC] using hi
  rw[wN (by lia),wN this];lia
 .intro j hj i hi;simp at hj;subst hj
  simp only[List.getD_cons_zero] at hi ⊢
  have:i < n:=by simpa [yC] using hi
  rw[wN this];lia
 .intro j hj;simp at hj
theorem TriL.app {n:Nat}{L:List (List Int)}{x:List Int}(h:TriL n L)(hL:0 < L.length)(hi:Inc x)(hl:zeP (L.getD (L.length - 1) []) x):TriL n (L++[x]):=by
 have e:=h.len (L.length - 1) (by lia)
 have lt:∀ {j},j < L.length->(L++[x]).getD j []=L.getD j []:=fun hj=>gp hj
 refine ⟨by rw[lt hL];exact h.first,?_,?_,?_,?_⟩
 .intro j hj
  by_cases z:j < L.length
  .rw[lt z];exact h.len j z
  .have:j=L.length:=by simp at hj;lia
   subst this
   rw[xa]
   have:=hl.1
   lia
 .intro j hj
  by_cases z:j < L.length
  .rw[lt z];exact h.inc j z
  .have:j=L.length:=by simp at hj;lia
   subst this
   rw[xa];exact hi
 .intro j hj i hi'
  by_cases z:j < L.length
  .rw[lt z] at hi' ⊢;exact h.bd j z i hi'
  .have:j=L.length:=by simp at hj;lia
   subst this
   rw[xa] at hi' ⊢
   have h1:=hl.2 i hi'
   have h2:=h.bd (L.length - 1) (by lia) i (by have:=hl.1;lia)
   have h3:=h.bd (L.length - 1) (by lia) (i+1) (by have:=hl.1;lia)
   lia
 .intro j hj
  simp only[List.length_append,List.length_cons,List.length_nil] at hj
  by_cases z:j+1 < L.length
  .rw[lt (by lia),lt z];exact h.lace j z
  .have e2:j+1=L.length:=by lia
   rw[lt (by lia),e2,xa]
   rwa [show L.length - 1=j by lia] at hl
noncomputable def zhG (km:Nat):Fn:=⟨2,10,(.seq (.asg 2 (.lst (.pair (.lrng (.var 0)) .unit))) (.seq (.asg 3 (.var 1)) (.seq (.forv 4 (.rng (.bin .sub (.var 0) (.lit (.int 1))) (.lit (.int 0)) (.neg (.lit (.int 1)))) (.seq (.asg 5 (.lst .unit)) (.seq (.forv 6 (.rng (.lit (.int 0)) (.var 4) (.lit (.int 1))) (qY km)) (.expr (.meth .append (.var 2) (.pair (.var 5) .unit)))))) (.seq (.expr (.meth .reverse (.var 2) .unit)) (.ret (.var 2))))))⟩
theorem zbH {km:Nat}(hm:∀c j:Int,0<=j->j<=100000->∃v:Int,cl km [.int c,.int j]=.ok (.int v)){n:Nat}(hn:1<=n)(hn':n<=100)(cell:Int):
  ∃L rest p4 p6 p7 p8 p9,L.length=n/\TriL n L/\yj (fun x de lv=>exD lev cl (.seq (.asg 5 (.lst .unit)) (.seq (.forv 6 (.rng (.lit (.int 0)) (.var 4) (.lit (.int 1))) (qY km)) (.expr (.meth .append (.var 2) (.pair (.var 5) .unit))))) (de.set 4 (some x)) (lv.set 4 (lvF x))) (zL ((n:Int) - 1) (-1) (n - 1)) [some (.int n),some (.int cell),some (tab [yC n]),some (.int cell),none,none,none,none,none,none] vq =
   .next [some (.int n),some (.int cell),some (tab L),some (.int rest),p4,none,p6,p7,p8,p9] vq:=by
 have main:=vR (body:=fun x de lv=>exD lev cl (.seq (.asg 5 (.lst .unit)) (.seq (.forv 6 (.rng (.lit (.int 0)) (.var 4) (.lit (.int 1))) (qY km)) (.expr (.meth .append (.var 2) (.pair (.var 5) .unit))))) (de.set 4 (some x)) (lv.set 4 (lvF x)))
  (fun i de lv=>∃ (L:List (List Int)) (rest:Int) (p4 p6 p7 p8 p9:Option Dat),de=[some (.int n),some (.int cell),some (tab L),some (.int rest),p4,none,p6,p7,p8,p9]/\lv=vq/\L.length=i+1/\TriL n L)
  (zL ((n:Int) - 1) (-1) (n - 1)) (de:=[some (.int n),some (.int cell),some (tab [yC n]),some (.int cell),none,none,none,none,none,none]) (lv:=vq)
  ⟨[yC n],cell,none,none,none,none,none,rfl,rfl,rfl,TriL.one n⟩ ?_
 .obtain ⟨de',lv',e,L,rest,p4,p6,p7,p8,p9,rfl,rfl,h1,h2⟩:=main
  rw[wr] at h1
  exact ⟨L,rest,p4,p6,p7,p8,p9,by lia,h2,e⟩
 .rintro i x de lv hx ⟨L,rest,p4,p6,p7,p8,p9,rfl,rfl,h1,h2⟩
  have hi:i < n - 1:=by
   have:=(List.getElem?_eq_some_iff.mp hx).1
   simpa using this
  rw[xL _ _ _ _ hi] at hx
  cases hx
  have e1:(n:Int) - 1+-1 * (i:Int)=((n - 1 - i:Nat):Int):=by lia
  have hlast:=h2.len i (by lia)
  have hnew:yr []=.ok (row []):=rfl
  have hrng:wM (.int 0) (.int ((n - 1 - i:Nat):Int)) (.int 1)=.ok (.tup (zL 0 1 (n - 1 - i))):=by
   rw[xq (by unfold lim;lia)]
   simp[x6]
  have hgl:(L.map row)[(L.map row).length - 1]?=some (row (L.getD i [])):=by
   rw[List.length_map,h1,List.getElem?_map,List.getD_eq_getElem?_getD,show i+1 - 1=i by lia,List.getElem?_eq_getElem (by lia)]
   rfl
  obtain ⟨acc,rest',q6,q7,q8,q9,e,hinc,hlace⟩:=zeR (lev:=lev) (n:=(n:Int)) (cell:=cell) (rest:=rest) (rows:=L.map row) (last:=L.getD i []) (kk:=n - 1 - i) (o6:=p6) (o7:=p7) (o8:=p8) (o9:=p9) hm hgl (h2.inc i (by lia)) (by lia) (by lia) (fun j hj=>by have:=h2.bd i (by lia) j hj;lia)
  refine ⟨_,_,?_,L++[acc],rest',some (.int ((n - 1 - i:Nat):Int)),q6,q7,q8,q9,rfl,rfl,by simp[h1],h2.app (by lia) hinc (by rw[show L.length - 1=i by lia];exact hlace)⟩
  simp only[e1,List.set_cons_succ,List.set_cons_zero,show lvF (.int ((n - 1 - i:Nat):Int))=.full from by simp[lvF]]
  rw[zG]
  simp only[zw,wl,zq,ziB,zj,hnew,ziw]
  rw[xr (by simp[row])]
  simp only[zh,List.set_cons_succ,List.set_cons_zero]
  rw[zaN,wv]
  simp only[xF,ze,zb,za,ziB,hrng,ziw,xV,xN,xg,if_true]
  rw[show (some (tab L):Option Dat)=some (.lst (L.map row)) from rfl,e,zh,gl]
  simp only[zb,za,ziA]
  have hlim:L.length < lim:=by unfold lim;lia
  simp[xD,hlim,xo,zP,row,tab]
theorem zeS {km:Nat}(hm:∀c j:Int,0<=j->j<=100000->∃v:Int,cl km [.int c,.int j]=.ok (.int v)){n:Nat}(hn:1<=n)(hn':n<=100)(cell:Int)(hlev:lev k=.no\/lev k=.full):
  ∃L,L.length=n/\TriL n L/\zH lev cl k (zhG km) [.int n,.int cell]=.ok (tab L.reverse):=by
 obtain ⟨L,rest,p4,p6,p7,p8,p9,h1,h2,e⟩:=zbH (lev:=lev) hm hn hn' cell
 refine ⟨L,h1,h2,?_⟩
 have hrng0:wM (.int 0) (.int n) (.int 1)=.ok (.tup (zL 0 1 n)):=by
  rw[xq (by unfold lim;lia)]
  simp[x6]
 have hrng:wM (.int ((n:Int) - 1)) (.int 0) (.int (-1))=.ok (.tup (zL ((n:Int) - 1) (-1) (n - 1))):=by
  rw[xq (by unfold lim;lia)]
  simp[x6]
 have hl:evD cl (.lrng (.var 0)) [some (.int n),some (.int cell),none,none,none,none,none,none,none,none]=.ok (row (yC n)):=by
  simp only[zaJ,za,ziB]
  rw[if_pos (by unfold lim;lia),yG (by simp;unfold lim;lia),<- qZ]
  simp
 have hnew:yr [row (yC n)]=.ok (tab [yC n]):=by rw[yG (by simp[lim])];rfl
 unfold zH
 rw[if_pos (by rfl)]
 show zJ (lev k) (exD lev cl (.seq _ (.seq _ (.seq _ (.seq _ _)))) [some (.int n),some (.int cell),none,none,none,none,none,none,none,none] [lvF (.int n),lvF (.int cell),.full,.full,.full,.full,.full,.full,.full,.full])=_
 simp only[show ∀i:Int,lvF (.int i)=.full from fun i=>by simp[lvF]]
 rw[zG]
 simp only[zw,wl,zt,zq,hl,ziB,zj,hnew,ziw]
 rw[xr (by simp[tab,row])]
 simp only[zh,List.set_cons_succ,List.set_cons_zero]
 rw[zG]
 simp only[zw,zb,za,ziw]
 rw[zF (by simp)]
 simp only[zh,List.set_cons_succ,List.set_cons_zero]
 rw[zG,wv]
 simp only[xF,zA,wm,ze,za,ziB,wn,hrng,ziw,xV,xN,xg,if_true]
 rw[e,zh,xX,zaM]
 have hg:zbv .full (lev k)=true:=by rcases hlev with h | h <;> rw[h] <;> rfl
 simp[xD,zP,tab,zJ,lvR,hg]
end
end Lib
namespace Lib
section
theorem xO {β:Type}{c e:β->Rd}{α:Type}(f:α->β)(g:α->Dat):∀ (xs:List α) (acc:List Dat),(∀x∈xs,c (f x)=.ok (.bl true))->(∀x∈xs,e (f x)=.ok (g x))->acc.length+xs.length<=lim->zS c e (xs.map f) acc=.ok (.lst (acc++xs.map g))
 | [],acc,_,_,h=>by unfold zS;rw[List.map_nil];simp only;rw[yG (by simpa using h)];simp
 | x::xs,acc,hc,he,h=>by
  rw[List.map_cons]
  unfold zS
  simp only[List.length_cons] at h
  rw[hc x (by simp)]
  simp only[ziB]
  rw[he x (by simp)]
  simp only[ziB]
  rw[if_pos (by lia),xO f g xs (acc++[g x]) (fun y hy=>hc y (by simp[hy])) (fun y hy=>he y (by simp[hy])) (by simp;lia)]
  simp
theorem je {c e:Dat->Rd}(a s:Int)(n:Nat)(g:Nat->Dat)(hc:∀i,i < n->c (.int (a+s * (i:Int)))=.ok (.bl true))(he:∀i,i < n->e (.int (a+s * (i:Int)))=.ok (g i))(h:n<=lim):zS c e (zL a s n) []=.ok (.lst ((List.range n).map g)):=by
 unfold zL
 rw[xO (fun (i:Nat)=>Dat.int (a+s * (i:Int))) g (List.range n) [] (fun i hi=>hc i (by simpa using hi)) (fun i hi=>he i (by simpa using hi)) (by simpa using h)]
 simp
noncomputable def mem (x:List Int)(c:Int):Bool:=x.any (fun v=>decide (v=c))
theorem zds (x:List Int)(c:Int):y9 .isin (.int c) (row x)=.ok (.bl (mem x c)):=by
 have h:eqOkL yD (x.map Dat.int)=true:=by
  rw[yI];simp
 have h2:(x.map Dat.int).any (fun y=>deq y (.int c))=mem x c:=by
  simp only[mem,List.any_map]
  congr 1
 simp only[y9,row,xS,inD]
 rw[h,h2]
 simp[g0]
noncomputable def vt (n:Nat)(x y:List Int):List Int:=(List.range n).map fun (c:Nat)=>b2i (mem x c) - b2i (mem y c)
noncomputable def wO (X:List (List Int))(i:Nat):List Int:=if i=0 then [] else X.getD (i - 1) []
noncomputable def sg (X:List (List Int)):List (List Int):=(List.range X.length).map fun i=>vt X.length (X.getD i []) (wO X i)
end
end Lib
namespace Lib
structure Tri (n:Nat)(X:List (List Int)):Prop where
 len:X.length=n
 rlen:∀j,j < n->(X.getD j []).length=j+1
 inc:∀j,j < n->Inc (X.getD j [])
 bd:∀j,j < n->∀i,i < j+1->0<=(X.getD j []).getD i 0/\(X.getD j []).getD i 0 < n
 lace:∀j,j+1 < n->zeP (X.getD (j+1) []) (X.getD j [])
 last:X.getD (n - 1) []=yC n
theorem Tri.of {n:Nat}{L:List (List Int)}(hn:1<=n)(h:TriL n L)(hl:L.length=n):Tri n L.reverse:=by
 have g:∀j,j < n->L.reverse.getD j []=L.getD (n - 1 - j) []:=by
  intro j hj
  rw[List.getD_eq_getElem?_getD,List.getD_eq_getElem?_getD,List.getElem?_reverse (by lia),hl]
 refine ⟨by simp[hl],fun j hj=>?_,fun j hj=>?_,fun j hj i hi=>?_,fun j hj=>?_,?_⟩
 .rw[g j hj];have:=h.len (n - 1 - j) (by lia);lia
 .rw[g j hj];exact h.inc _ (by lia)
 .rw[g j hj];have:=h.len (n - 1 - j) (by lia);exact h.bd _ (by lia) i (by lia)
 .rw[g (j+1) hj,g j (by lia)]
  have:=h.lace (n - 1 - (j+1)) (by lia)
  rwa [show n - 1 - (j+1)+1=n - 1 - j by lia] at this
 .rw[g (n - 1) (by lia),show n - 1 - (n - 1)=0 by lia];exact h.first
theorem Inc.lt {x:List Int}(h:Inc x):∀ {i j:Nat},i < j->j < x.length->x.getD i 0 < x.getD j 0:=by
 intro i j hij
 induction j with
 | zero=>lia
 | succ j ih =>
  intro hj
  have h1:=h j hj
  by_cases z:i=j
  .subst z;exact h1
  .have:=ih (by lia) (by lia);lia
noncomputable def low (x:List Int)(c:Nat):Int:=(x.map fun (v:Int)=>b2i (decide (v < (c:Int)))).sum
theorem zgi {X:List (List Int)}{r:Nat}(h:r < X.length):(sg X)[r]?=some (vt X.length (X.getD r []) (wO X r)):=by simp[sg,h]
end Lib
namespace Lib
section
variable {lev:Nat->Lv}
theorem zdt {α β:Type}{xs:List α}{ys:List β}{i:Nat}{a:α}{b:β}(h:xs[i]?=some a)(h2:ys[i]?=some b):(xs.zip ys)[i]?=some (a,b):=List.getElem?_zip_eq_some.mpr ⟨h,h2⟩
noncomputable def zdu (R:List (List Int))(i:Nat):List Int:=(List.range R.length).map fun c=>S R i c
theorem zaa (R:List (List Int)):Dat.lst (List.replicate R.length [Dat.int 0]).flatten=row (zdu R 0):=by
 have:(List.replicate R.length [Dat.int 0]).flatten=List.replicate R.length (Dat.int 0):=by
  generalize R.length=n
  induction n with
  | zero=>rfl
  | succ n ih=>rw[List.replicate_succ,List.flatten_cons,ih,List.replicate_succ];rfl
 rw[this]
 unfold row zdu
 congr 1
 rw[List.map_map]
 refine List.ext_getElem? fun i=>?_
 by_cases h:i < R.length
 .simp[h,S]
 .simp[h]
theorem zeT (a b:List Int):xA .zip (row a) (row b)=if a.length<=lim/\b.length<=lim then some ((a.zip b).map fun p=>(Dat.int p.1,Dat.int p.2)) else none:=by
 simp only[xA,row,List.length_map]
 rw[List.zip_map]
 rfl
theorem jf (e:Ex)(x:List Int)(he:∀i:Int,lvE lev e (.int i)=.full):(x.map Dat.int).all (fun d=>lvE lev e d == .full)=true:=by
 rw[List.all_map,List.all_eq_true]
 intro v _
 simp[he]
end
end Lib
namespace Lib
section
theorem deqL_refl:∀ (x:List Int),deqL (x.map Dat.int) (x.map Dat.int)=true
 | []=>rfl
 | v::x=>by simp[deqL,deqL_refl x]
end
end Lib
namespace Lib
end Lib
namespace Lib
section
variable {lev:Nat->Lv}
noncomputable def zfe (kn:Nat):Fn:=⟨3,3,(.ret (.and (.call kn (.pair (.var 0) (.pair (.var 1) .unit))) (.blt .all (.pair (.comp (.chain .le .lt (.lit (.int 0)) (.var 3) (.var 2)) (.var 0) (.lit (.bl true))) .unit))))⟩
noncomputable def zaP (kz kc:Nat):Fn:=⟨1,1,(.seq (.ite (.or (.not (.isi .list (.var 0))) (.not (.call kz (.pair (.blt .len (.pair (.var 0) .unit)) .unit)))) (.ret (.lit (.bl false))) .skip) (.ret (.blt .all (.pair (.compP .enum (.call kc (.pair (.var 2) (.pair (.var 1) (.pair (.blt .len (.pair (.var 0) .unit)) .unit)))) (.var 0) (.lit (.int 1)) (.lit (.bl true))) .unit))))⟩
noncomputable def zdv:Sm:=(.seq (.asg 3 (.idx (.var 0) (.bin .sub (.var 1) (.lit (.int 1))))) (.seq (.ite (.and (.cmp .gt (.var 2) (.lit (.int 0))) (.cmp .le (.idx (.var 3) (.var 2)) (.idx (.var 3) (.bin .sub (.var 2) (.lit (.int 1)))))) (.ret (.lit (.bl true))) .skip) (.seq (.ite (.cmp .eq (.var 1) (.blt .len (.pair (.var 0) .unit))) (.ret (.lit (.bl false))) .skip) (.seq (.asg 4 (.idx (.var 0) (.var 1))) (.ret (.or (.cmp .lt (.idx (.var 3) (.var 2)) (.idx (.var 4) (.var 2))) (.cmp .gt (.idx (.var 3) (.var 2)) (.idx (.var 4) (.bin .add (.var 2) (.lit (.int 1)))))))))))
noncomputable def zff:Fn:=⟨3,5,zdv⟩
theorem zdw {i:Nat}{e:Ex}{d:Dat}{de:DEn}{lv:List Lv}:∃lv',vg lev i e d de lv=.next (de.set i (some d)) lv':=by
 unfold vg
 split <;> exact ⟨_,rfl⟩
end
end Lib
namespace Lib
section
variable {lev:Nat->Lv}{cl:Nat->List Dat->Rd}{k:Nat}
noncomputable def zbI (kp:Nat):Sm:=(.ite (.call kp (.pair (.var 0) (.pair (.var 1) (.pair (.var 2) .unit)))) (.ret (.tup (.pair (.var 1) (.pair (.var 2) .unit)))) .skip)
noncomputable def zab (kp:Nat):Fn:=⟨1,3,(.seq (.forv 1 (.rng (.lit (.int 1)) (.bin .add (.blt .len (.pair (.var 0) .unit)) (.lit (.int 1))) (.lit (.int 1))) (.forv 2 (.rng (.lit (.int 0)) (.var 1) (.lit (.int 1))) (zbI kp))) (.ret (.lit .non)))⟩
noncomputable def marks (n:Nat)(x:List Int):List Int:=(List.range n).map fun (c:Nat)=>b2i (mem x c)
noncomputable def zdx:Fn:=⟨2,2,(.ret (.comp (.ife (.cmp .isin (.var 2) (.var 0)) (.lit (.int 1)) (.lit (.int 0))) (.rng (.lit (.int 0)) (.var 1) (.lit (.int 1))) (.lit (.bl true))))⟩
theorem zbJ (x:List Int){n:Nat}(hn:n<=100)(hk:lev k≠.top):zH lev cl k zdx [row x,.int n]=.ok (row (marks n x)):=by
 have hrng:wM (.int 0) (.int (n:Int)) (.int 1)=.ok (.tup (zL 0 1 n)):=by
  rw[xq (by unfold lim;lia)]
  simp[x6]
 have hev:evD cl (.comp (.ife (.cmp .isin (.var 2) (.var 0)) (.lit (.int 1)) (.lit (.int 0))) (.rng (.lit (.int 0)) (.var 1) (.lit (.int 1))) (.lit (.bl true))) [some (row x),some (.int n)]=.ok (row (marks n x)):=by
  rw[wC]
  simp only[xF,ze,za,zb,ziB,hrng,xV]
  rw[je 0 1 n (fun c=>.int (b2i (mem x c))) (fun c _=>by simp) (fun c _=>?_) (by unfold lim;lia)]
  .simp only[row,marks,List.map_map];rfl
  .rw[show (0+1 * (c:Int))=(c:Int) by lia]
   simp only[List.cons_append,List.nil_append,zgc,yu,za,zb,ziB,zds]
   cases mem x c <;> simp[b2i]
 have hlv:lvE lev (.comp (.ife (.cmp .isin (.var 2) (.var 0)) (.lit (.int 1)) (.lit (.int 0))) (.rng (.lit (.int 0)) (.var 1) (.lit (.int 1))) (.lit (.bl true))) (row (marks n x))=.full:=by
  unfold row
  first | rw[ki] | rw[kZ]
  simp only[wt,Bool.false_eq_true,if_false]
  rw[if_pos (jf _ _ fun i=>by simp)]
 unfold zH
 rw[if_pos (by rfl)]
 show zJ (lev k) (exD lev cl (.ret _) [some (row x),some (.int n)] _)=_
 rw[xW,hev]
 simp only[ziw,lvR,zJ]
 rw[show flat (row (marks n x))=false from by simp[row]]
 simp only[Bool.false_eq_true,if_false,hlv,Bool.false_or]
 cases e:lev k <;> first | rfl | exact absurd e hk
noncomputable def zbK:Ex:=(.compP .zip (.bin .sub (.var 6) (.var 7)) (.var 5) (.var 3) (.lit (.bl true)))
noncomputable def zeU (km:Nat):Sm:=(.seq (.asg 5 (.call km (.pair (.var 4) (.pair (.var 1) .unit)))) (.seq (.expr (.meth .append (.var 2) (.pair zbK .unit))) (.asg 3 (.var 5))))
noncomputable def zhH (km:Nat):Fn:=⟨1,6,(.seq (.asg 1 (.blt .len (.pair (.var 0) .unit))) (.seq (.asg 2 (.lst .unit)) (.seq (.asg 3 (.bin .mul (.lst (.pair (.lit (.int 0)) .unit)) (.var 1))) (.seq (.forv 4 (.var 0) (zeU km)) (.ret (.var 2))))))⟩
theorem zbL (n:Nat)(x y:List Int):((marks n x).zip (marks n y)).map (fun p=>p.1 - p.2)=vt n x y:=by
 unfold marks vt
 refine List.ext_getElem? fun i=>?_
 by_cases hi:i < n
 .rw[List.getElem?_map,zdt (a:=b2i (mem x i)) (b:=b2i (mem y i)) (by simp[hi]) (by simp[hi])]
  simp[hi]
 .rw[List.getElem?_eq_none (by simp;lia),List.getElem?_eq_none (by simp;lia)]
theorem zdy {km:Nat}{n:Nat}(hn:n<=100)(hm:∀x:List Int,cl km [row x,.int n]=.ok (row (marks n x)))(hlev:lev km=.full){A:List (List Int)}(hA:A.length < lim)(x y:List Int)(d0 o5:Option Dat)(l0 l3 l4 l5:Lv):
  exD lev cl (zeU km) [d0,some (.int n),some (tab A),some (row (marks n y)),some (row x),o5] [l0,.full,.full,l3,l4,l5]=.next [d0,some (.int n),some (tab (A++[vt n x y])),some (row (marks n x)),some (row x),some (row (marks n x))] [l0,.full,.full,.no,l4,.no]:=by
 have hl:(marks n x).length=n:=by simp[marks]
 have hl2:(marks n y).length=n:=by simp[marks]
 have hev:evD cl zbK [d0,some (.int n),some (tab A),some (row (marks n y)),some (row x),some (row (marks n x))]=.ok (row (vt n x y)):=by
  unfold zbK
  rw[qf]
  simp only[za,zb,ziB,zeT]
  rw[if_pos (by rw[hl,hl2];unfold lim;lia)]
  simp only
  rw[xO (fun (p:Int×Int)=>(Dat.int p.1,Dat.int p.2)) (fun p=>.int (p.1 - p.2)) _ [] (fun p _=>by simp) (fun p _=>by simp) (by rw[List.length_zip,hl,hl2];simp;unfold lim;lia)]
  rw[<- zbL n x y]
  simp[row]
 have hlv:lvE lev zbK (row (vt n x y))=.full:=by
  unfold row zbK
  first | rw[ki] | rw[kZ]
  simp only[wt,Bool.false_eq_true,if_false]
  rw[if_pos (jf _ _ fun i=>by simp)]
 unfold zeU
 rw[zG,zw]
 simp only[zX,zt,zq,za,zb,ziB,zj,hm,ziw]
 rw[xr (by simp[row,hlev])]
 simp only[zh,List.set_cons_succ,List.set_cons_zero]
 rw[zgg,gl,hev]
 simp only[ziA]
 have hls:xD [d0,some (.int n),some (tab A),some (row (marks n y)),some (row x),some (row (marks n x))] 2=some (A.map row):=rfl
 rw[hls]
 simp only[List.length_map]
 rw[if_pos hA]
 have hg:xo lev zbK (row (vt n x y)) 2 [d0,some (.int n),some (tab A),some (row (marks n y)),some (row x),some (row (marks n x))] [l0,.full,.full,l3,l4,.full]=some ([d0,some (.int n),some (tab A),some (row (marks n y)),some (row x),some (row (marks n x))],[l0,.full,.full,l3,l4,.full]):=by
  unfold xo
  rw[if_neg (by simp[zP]),if_pos hlv]
 rw[hg]
 simp only[zh,List.set_cons_succ,List.set_cons_zero,zw,za,zb,ziw]
 unfold vg
 rw[if_neg (by simp[row])]
 simp[xC,downs,row,tab]
theorem zbM (n:Nat):Dat.lst (List.replicate n [Dat.int 0]).flatten=row (marks n []):=by
 have h:=zaa (List.replicate n [])
 rw[List.length_replicate] at h
 rw[h]
 congr 1
 unfold zdu marks
 rw[List.length_replicate]
 refine List.map_congr_left fun c _=>?_
 simp[S,mem,b2i]
theorem zeV {km:Nat}{X:List (List Int)}(hn:X.length<=100)(hm:∀x:List Int,cl km [row x,.int X.length]=.ok (row (marks X.length x)))(hlev:lev km=.full)(hk:lev k≠.top):zH lev cl k (zhH km) [tab X]=.ok (tab (sg X)):=by
 have hlen:yT .len [tab X]=.ok (.int X.length):=by simp[tab]
 have main:=vR (body:=fun d de lv=>exD lev cl (zeU km) (de.set 4 (some d)) (lv.set 4 (lvF d)))
  (fun i de lv=>∃ (o4 o5:Option Dat) (l3 l4 l5:Lv),de=[some (tab X),some (.int X.length),some (tab ((sg X).take i)),some (row (marks X.length (wO X i))),o4,o5]/\lv=[.no,.full,.full,l3,l4,l5])
  (X.map row) (de:=[some (tab X),some (.int X.length),some (tab []),some (row (marks X.length [])),none,none]) (lv:=[.no,.full,.full,.full,.full,.full])
  ⟨none,none,.full,.full,.full,rfl,rfl⟩ ?_
 .obtain ⟨de',lv',e,o4,o5,l3,l4,l5,rfl,rfl⟩:=main
  unfold zH
  rw[if_pos (by rfl)]
  show zJ (lev k) (exD lev cl (.seq _ (.seq _ (.seq _ (.seq _ _)))) [some (tab X),none,none,none,none,none] [lvF (tab X),.full,.full,.full,.full,.full])=_
  rw[show lvF (tab X)=.no from by simp[lvF,tab],zG]
  simp only[zw,yB,zt,zq,za,ziB,zj,hlen,ziw]
  rw[xr (by simp)]
  simp only[zh,List.set_cons_succ,List.set_cons_zero]
  rw[zG]
  have hnew:yr []=.ok (tab []):=rfl
  simp only[zw,wl,zq,ziB,zj,hnew,ziw]
  rw[xr (by simp[tab])]
  simp only[zh,List.set_cons_succ,List.set_cons_zero]
  rw[zG]
  have hmul:zC .mul (.lst [.int 0]) (.int X.length)=.ok (row (marks X.length [])):=by
   simp only[zC]
   rw[if_pos (by unfold lim;lia),Int.toNat_natCast,<- zbM,yG]
   simp;unfold lim;lia
  simp only[zw,zA,wl,zt,zq,ze,za,zb,ziB,zj]
  rw[yG (by simp;unfold lim;lia)]
  simp only[ziB,hmul,ziw]
  rw[xr (by simp[row])]
  simp only[zh,List.set_cons_succ,List.set_cons_zero]
  rw[xX,wv]
  have hit:itD (tab X)=some (X.map row):=jc (by simp;unfold lim;lia)
  have hfl:flat (tab X)=false:=by simp[tab]
  simp only[za,ziw,hit,hfl]
  have hrel:(if false=true then [Lv.no,Lv.full,Lv.full,Lv.full,Lv.full,Lv.full] else xC (.var 0) [some (tab X),some (.int X.length),some (tab []),some (row (marks X.length [])),none,none] [Lv.no,Lv.full,Lv.full,Lv.full,Lv.full,Lv.full])=[.no,.full,.full,.full,.full,.full]:=rfl
  rw[hrel,e,zh]
  rw[List.length_map,List.take_of_length_le (by simp[sg])]
  simp only[xW,za,zb,ziw,lvR,zJ,show flat (tab (sg X))=false from by simp[tab],Bool.false_eq_true,if_false,Bool.false_or]
  show (if zbv Lv.full (lev k)=true then _ else _)=_
  cases e:lev k <;> first | rfl | exact absurd e hk
 .rintro i d de lv hd ⟨o4,o5,l3,l4,l5,rfl,rfl⟩
  have hi:i < X.length:=by
   have:=(List.getElem?_eq_some_iff.mp hd).1
   simpa using this
  have hdi:d=row (X.getD i []):=by
   rw[List.getElem?_map,List.getElem?_eq_getElem hi] at hd
   cases hd
   rw[List.getD_eq_getElem?_getD,List.getElem?_eq_getElem hi];rfl
  subst hdi
  simp only[List.set_cons_succ,List.set_cons_zero,show lvF (row (X.getD i []))=.no from by simp[lvF,row]]
  refine ⟨_,_,zdy hn hm hlev (by simp[sg];unfold lim;lia) (X.getD i []) (wO X i) _ _ _ _ _ _,some (row (X.getD i [])),some (row (marks X.length (X.getD i []))),.no,.no,.no,?_,rfl⟩
  have e2:(sg X).take (i+1)=(sg X).take i++[vt X.length (X.getD i []) (wO X i)]:=by
   rw[List.take_add_one,zgi hi,Option.toList_some]
  have hp:wO X (i+1)=X.getD i []:=by simp[wO]
  rw[e2,hp]
end
end Lib
namespace Lib
section
variable {lev:Nat->Lv}{cl:Nat->List Dat->Rd}{k:Nat}
noncomputable def nOk (n:Int)(d:Dat):Bool:=match d with
 | .lst xs=>decide ((xs.length:Int)=n) && xs.all isInt
 | _=>false
noncomputable def qh (kw:Nat):Fn:=⟨2,2,(.ret (.and (.isi .list (.var 0)) (.and (.cmp .eq (.blt .len (.pair (.var 0) .unit)) (.var 1)) (.blt .all (.pair (.comp (.call kw (.pair (.var 2) .unit)) (.var 0) (.lit (.bl true))) .unit)))))⟩
theorem zbN {kw:Nat}(hw:∀d,cl kw [d]=.ok (.bl (isInt d)))(d:Dat)(n:Int)(hd:wu d=true)(hn:n<=100):zH lev cl k (qh kw) [d,.int n]=.ok (.bl (nOk n d)):=by
 cases d with
 | scr _=>cases hd
 | lst xs =>
  by_cases h:(xs.length:Int)=n
  .have hl:xs.length<=lim:=by unfold lim;lia
   simp[zH,qh,zT,zY,zJ,lvR,isD,h,wC,jc hl,nOk]
   rw[jd (g:=fun x=>.bl (isInt x)) xs [] (by simp) (by simp[hw]) (by simpa using hl)]
   simp[yT,lsD,qU]
  .simp[zH,qh,zT,zY,zJ,lvR,isD,h,nOk]
 | _=>simp[zH,qh,zT,zY,zJ,lvR,isD,nOk]
end
end Lib
namespace Lib
section
theorem zdz {p:Dat->Bool}{xs:List Dat}{i:Nat}{x:Dat}(h:xs[i]?=some x)(a:(xs.take i).all p=true)(b:p x=true):(xs.take (i+1)).all p=true:=by
 rw[List.take_add_one,h,List.all_append,a];simp[b]
theorem zbO {p:Dat->Bool}{xs:List Dat}{i:Nat}{x:Dat}(h:xs[i]?=some x)(b:p x=false):xs.all p=false:=by
 rw[List.all_eq_false]
 exact ⟨x,List.mem_of_getElem? h,by simp[b]⟩
theorem zgj (R:List (List Int)):wfT (tab R)=true:=by
 simp only[wfT,tab]
 rw[List.all_map,List.all_eq_true]
 intro r _
 rfl
end
end Lib
namespace Lib
section
variable {lev:Nat->Lv}{cl:Nat->List Dat->Rd}{k:Nat}
noncomputable def x3 (n:Int)(d:Dat):Bool:=match d with
 | .int v=>decide (0<=v) && decide (v < n)
 | _=>false
noncomputable def bOk (n m:Int)(d:Dat):Bool:=match d with
 | .lst xs=>decide ((xs.length:Int)=m) && xs.all (x3 n)
 | _=>false
theorem zhI {n m:Int}{d:Dat}(h:bOk n m d=true):nOk m d=true:=by
 cases d with
 | lst xs =>
  simp only[bOk,Bool.and_eq_true] at h
  simp only[nOk,Bool.and_eq_true]
  refine ⟨h.1,List.all_eq_true.mpr fun x hx=>?_⟩
  have:=List.all_eq_true.mp h.2 x hx
  cases x <;> first | rfl | cases this
 | _=>cases h
theorem zbP {kn:Nat}(hn:∀ (d:Dat) (m:Int),wu d=true->m<=100->cl kn [d,.int m]=.ok (.bl (nOk m d)))(d:Dat)(m n:Int)(hd:wu d=true)(hm:m<=100):zH lev cl k (zfe kn) [d,.int m,.int n]=.ok (.bl (bOk n m d)):=by
 have h0:=hn d m hd hm
 unfold zH
 rw[if_pos (by rfl)]
 show zJ (lev k) (exD lev cl (.ret _) [some d,some (.int m),some (.int n)] _)=_
 simp only[xW,vQ,zX,zt,zq,za,zb,ziB,zj,h0]
 cases e:nOk m d with
 | false =>
  have:bOk n m d=false:=by
   cases q:bOk n m d with
   | false=>rfl
   | true=>rw[zhI q] at e;cases e
  rw[this]
  simp[zJ]
 | true =>
  cases d with
  | lst xs =>
   simp only[nOk,Bool.and_eq_true,decide_eq_true_eq] at e
   have hl:xs.length<=lim:=by unfold lim;lia
   have hc:evD cl (.comp (.chain .le .lt (.lit (.int 0)) (.var 3) (.var 2)) (.var 0) (.lit (.bl true))) [some (.lst xs),some (.int m),some (.int n)]=.ok (.lst (xs.map fun x=>.bl (x3 n x))):=by
    rw[wC]
    simp only[za,ziB,jc hl]
    rw[jd (g:=fun x=>.bl (x3 n x)) xs [] (fun v _=>by simp) (fun v hv=>?_) (by simpa using hl)]
    .simp
    .have:=List.all_eq_true.mp e.2 v hv
     cases v with
     | int v =>
      simp only[List.cons_append,List.nil_append,qe,ze,za,zb,ziB,zdh,x3]
      by_cases q:0<=v <;> simp[q]
     | _=>cases this
   simp only[yB,zt,zq,hc,ziB,zj]
   simp[yT,lsD,qU,zJ,bOk,e.1]
  | _=>cases e
noncomputable def yz (d:Dat):Bool:=match d with
 | .lst xs=>decide (1<=(xs.length:Int)/\(xs.length:Int)<=12) && (List.range xs.length).all fun i=>bOk xs.length ((i:Int)+1) (xs.getD i .non)
 | _=>false
theorem zdA (xs:List Dat)(h:xs.length<=lim):xA .enum (.lst xs) (.int 1)=some ((List.range xs.length).map fun (i:Nat)=>(Dat.int ((i:Int)+1),xs.getD i .non)):=by
 simp only[xA]
 rw[if_pos h]
 congr 1
 refine List.ext_getElem? fun i=>?_
 by_cases hi:i < xs.length
 .rw[zdt (a:=Dat.int ((i:Int)+1)) (b:=xs.getD i .non) (by rw[xL _ _ _ _ hi,Int.one_mul,Int.add_comm]) (by rw[List.getD_eq_getElem?_getD,List.getElem?_eq_getElem hi];rfl)]
  simp[hi]
 .rw[List.getElem?_eq_none (by simp;lia),List.getElem?_eq_none (by simp;lia)]
theorem zaQ {α:Type}(p:α->Bool):∀xs:List α,jn (xs.map fun x=>Dat.bl (p x))=some (xs.all p)
 | []=>rfl
 | x::xs=>by simp only[List.map_cons,List.all_cons,jn,zaQ p xs,Option.map_some]
theorem jg {xs:List Dat}(h:xs.all wu=true)(i:Nat):wu (xs.getD i .non)=true:=by
 rw[List.getD_eq_getElem?_getD]
 cases e:xs[i]? with
 | none=>rfl
 | some x=>exact List.all_eq_true.mp h x (List.mem_of_getElem? e)
theorem zbQ {kz kc:Nat}(hz:∀n:Int,cl kz [.int n]=.ok (.bl (decide (1<=n/\n<=12))))(hc:∀ (d:Dat) (m n:Int),wu d=true->m<=100->cl kc [d,.int m,.int n]=.ok (.bl (bOk n m d)))(d:Dat)(hd:wfT d=true):zH lev cl k (zaP kz kc) [d]=.ok (.bl (yz d)):=by
 cases d with
 | scr _=>cases hd
 | lst xs =>
  by_cases h:1<=(xs.length:Int)/\(xs.length:Int)<=12
  .have hl:xs.length<=lim:=by unfold lim;lia
   have hcm:evD cl (.compP .enum (.call kc (.pair (.var 2) (.pair (.var 1) (.pair (.blt .len (.pair (.var 0) .unit)) .unit)))) (.var 0) (.lit (.int 1)) (.lit (.bl true))) [some (.lst xs)]=.ok (.lst ((List.range xs.length).map fun (i:Nat)=>.bl (bOk xs.length ((i:Int)+1) (xs.getD i .non)))):=by
    rw[qf]
    simp only[za,ze,ziB]
    rw[zdA xs hl]
    simp only
    rw[xO (fun (i:Nat)=>(Dat.int ((i:Int)+1),xs.getD i .non)) (fun (i:Nat)=>.bl (bOk xs.length ((i:Int)+1) (xs.getD i .non))) _ [] (fun i _=>by simp) (fun i hi=>?_) (by simp;unfold lim;lia)]
    .simp
    .have hi':i < xs.length:=by simpa using hi
     simp only[List.cons_append,List.nil_append,zX,zt,zq,yB,zb,za,ziB,zj,vk]
     exact hc _ _ _ (jg hd i) (by lia)
   unfold zH
   rw[if_pos (by rfl)]
   show zJ (lev k) (exD lev cl (.seq _ (.ret _)) [some (.lst xs)] _)=_
   rw[xX]
   simp only[yq,qd,gh,qS,zX,yB,zt,zq,za,ziB,zj,show isD .list (.lst xs)=true from rfl,Bool.not_true,vk,hz,decide_eq_true h,ziw,yy,zh,xW,hcm]
   have hb:yT .all [.lst ((List.range xs.length).map fun (i:Nat)=>.bl (bOk xs.length ((i:Int)+1) (xs.getD i .non)))]=.ok (.bl ((List.range xs.length).all fun i=>bOk xs.length ((i:Int)+1) (xs.getD i .non))):=by
    show (match (some _:Option (List Dat)).bind jn with | some i=>Rd.ok (.bl i) | none=>.no)=_
    rw[Option.bind_some,zaQ]
   rw[hb]
   simp only[ziw,yz,decide_eq_true h,Bool.true_and]
   simp[zJ]
  .simp[zH,zaP,zT,zY,zJ,lvR,isD,h,yz,hz]
 | _=>simp[zH,zaP,zT,zY,zJ,lvR,isD,yz]
noncomputable def tfI (kw:Nat):Sm:=(.ite (.or (.not (.call kw (.pair (.var 2) .unit))) (.not (.chain .le .lt (.lit (.int 0)) (.var 2) (.blt .len (.pair (.var 0) .unit))))) (.ret (.lit (.bl false))) .skip)
noncomputable def tfO (kw:Nat):Sm:=(.seq (.ite (.or (.not (.isi .list (.idx (.var 0) (.var 1)))) (.cmp .ne (.blt .len (.pair (.idx (.var 0) (.var 1)) .unit)) (.bin .add (.var 1) (.lit (.int 1))))) (.ret (.lit (.bl false))) .skip) (.forv 2 (.idx (.var 0) (.var 1)) (tfI kw)))
noncomputable def vT (kw:Nat):Fn:=⟨1,3,(.seq (.ite (.or (.not (.isi .list (.var 0))) (.not (.chain .lt .lt (.lit (.int 0)) (.blt .len (.pair (.var 0) .unit)) (.lit (.int 13))))) (.ret (.lit (.bl false))) .skip) (.seq (.forv 1 (.rng (.lit (.int 0)) (.blt .len (.pair (.var 0) .unit)) (.lit (.int 1))) (tfO kw)) (.ret (.lit (.bl true)))))⟩
theorem zeW {kw:Nat}(hw:∀d,cl kw [d]=.ok (.bl (isInt d)))(xs:List Dat)(b:Option Dat)(x:Dat)(lv:List Lv):exD lev cl (tfI kw) [some (.lst xs),b,some x] lv=if x3 xs.length x then .next [some (.lst xs),b,some x] lv else .ret (.bl false) .full:=by
 unfold tfI
 cases x with
 | int i =>
  by_cases h:0<=i <;> by_cases h':i < xs.length <;> simp[hw,isInt,x3,h,h',lvR]
 | _=>simp[hw,isInt,x3,lvR]
theorem zeX {kw:Nat}(hw:∀d,cl kw [d]=.ok (.bl (isInt d)))(xs:List Dat)(hd:xs.all wu=true)(hn:xs.length<=12){i:Nat}(hi:i < xs.length)(o:Option Dat)(lv:List Lv):
  (bOk xs.length ((i:Int)+1) (xs.getD i .non)=true/\∃o' lv',exD lev cl (tfO kw) [some (.lst xs),some (.int i),o] lv=.next [some (.lst xs),some (.int i),o'] lv')\/(bOk xs.length ((i:Int)+1) (xs.getD i .non)=false/\exD lev cl (tfO kw) [some (.lst xs),some (.int i),o] lv=.ret (.bl false) .full):=by
 have hx:wu (xs.getD i .non)=true:=jg hd i
 have hg:yo (.lst xs) (.int (i:Int))=.ok (xs.getD i .non):=ko (by rw[List.getD_eq_getElem?_getD,List.getElem?_eq_getElem hi];rfl)
 generalize xs.getD i .non=x at hx hg
 cases x with
 | scr _=>cases hx
 | lst ys =>
  by_cases hl:(ys.length:Int)=(i:Int)+1
  .have hlim:ys.length<=lim:=by unfold lim;lia
   have pre:∃lv1,exD lev cl (tfO kw) [some (.lst xs),some (.int i),o] lv=yj (fun x de lv=>exD lev cl (tfI kw) (de.set 2 (some x)) (lv.set 2 (lvF x))) ys [some (.lst xs),some (.int i),o] lv1:=by
    refine ⟨xC (.idx (.var 0) (.var 1)) [some (.lst xs),some (.int i),o] lv,?_⟩
    unfold tfO
    rw[zeN]
    simp only[yq,qd,gh,qS,zU,zb,za,ziB,hg,show isD .list (.lst ys)=true from rfl,yu,yB,zt,zq,zj,vk,zA,ze,yw,zhz,hl,decide_true,Bool.not_true,ziw,yy,zh]
    rw[wv]
    simp only[zU,zb,za,ziB,hg,ziw,jc hlim,wt,Bool.false_eq_true,if_false]
   obtain ⟨lv1,pre⟩:=pre
   rw[pre]
   have main:=vm (body:=fun x de lv=>exD lev cl (tfI kw) (de.set 2 (some x)) (lv.set 2 (lvF x)))
    (fun j de _=>(∃o',de=[some (.lst xs),some (.int i),o'])/\(ys.take j).all (x3 xs.length)=true)
    (fun d l=>d=.bl false/\l=.full/\ys.all (x3 xs.length)=false) ys (de:=[some (.lst xs),some (.int i),o]) (lv:=lv1) ⟨⟨o,rfl⟩,by simp⟩ ?_
   .rcases main with ⟨de',lv',e,⟨o',rfl⟩,h⟩ | ⟨d,l,e,rfl,rfl,h⟩
    .left
     rw[List.take_length] at h
     exact ⟨by simp[bOk,hl,h],o',lv',e⟩
    .right
     exact ⟨by simp[bOk,hl,h],e⟩
   .rintro j x de lv hj ⟨⟨o',rfl⟩,h⟩
    simp only[List.set_cons_succ,List.set_cons_zero]
    rw[zeW hw]
    cases hs:x3 xs.length x with
    | true=>left;exact ⟨_,_,if_pos rfl,⟨some x,rfl⟩,zdz hj h hs⟩
    | false=>right;exact ⟨_,_,if_neg (by simp),rfl,rfl,zbO hj hs⟩
  .right
   refine ⟨by simp[bOk,hl],?_⟩
   unfold tfO
   simp[isD,hl,lvR,hg]
 | _=>right;refine ⟨by simp[bOk],?_⟩;unfold tfO;simp[isD,lvR,hg]
theorem zbR {kw:Nat}(hw:∀d,cl kw [d]=.ok (.bl (isInt d)))(d:Dat)(hd:wfT d=true):zH lev cl k (vT kw) [d]=.ok (.bl (yz d)):=by
 cases d with
 | scr _=>cases hd
 | lst xs =>
  by_cases hn:1<=(xs.length:Int)/\(xs.length:Int)<=12
  .have hrng:wM (.int 0) (.int xs.length) (.int 1)=.ok (.tup (zL 0 1 xs.length)):=by
    rw[xq (by unfold lim;lia)]
    simp[x6]
   have main:=vm (body:=fun x de lv=>exD lev cl (tfO kw) (de.set 1 (some x)) (lv.set 1 (lvF x)))
    (fun i de _=>(∃o1 o2,de=[some (.lst xs),o1,o2])/\∀j,j < i->bOk xs.length ((j:Int)+1) (xs.getD j .non)=true)
    (fun d l=>d=.bl false/\l=.full/\∃j,j < xs.length/\bOk xs.length ((j:Int)+1) (xs.getD j .non)=false) (zL 0 1 xs.length) (de:=[some (.lst xs),none,none]) (lv:=[.no,.full,.full]) ⟨⟨none,none,rfl⟩,by intro j h;lia⟩ ?_
   .have pre:zH lev cl k (vT kw) [.lst xs]=zJ (lev k) ((yj (fun x de lv=>exD lev cl (tfO kw) (de.set 1 (some x)) (lv.set 1 (lvF x))) (zL 0 1 xs.length) [some (.lst xs),none,none] [.no,.full,.full]).then (exD lev cl (.ret (.lit (.bl true))))):=by
     unfold zH
     rw[if_pos (by rfl)]
     congr 1
     show exD lev cl (.seq _ (.seq _ _)) [some (.lst xs),none,none] [lvF (.lst xs),.full,.full]=_
     rw[show lvF (.lst xs)=.no from by simp[lvF],zG]
     simp only[yq,qd,gh,qS,za,ziB,isD,qe,ze,yB,zt,zq,zj,vk,jI,show (0:Int) < (xs.length:Int) from by lia,show (xs.length:Int) < 13 from by lia,decide_true,Bool.not_true,ziw,yy,zh]
     rw[xX,wv]
     simp only[xF,ze,yB,zt,zq,za,ziB,zj,vk,hrng,ziw,xV,xN,xg,if_true]
    rw[pre]
    rcases main with ⟨de',lv',e,⟨o1,o2,rfl⟩,h⟩ | ⟨d,l,e,rfl,rfl,j,hj,h⟩
    .rw[e]
     rw[wr] at h
     have:yz (.lst xs)=true:=by
      simp only[yz,decide_eq_true hn,Bool.true_and]
      exact List.all_eq_true.mpr fun j hj=>h j (by simpa using hj)
     rw[this]
     simp[zJ,lvR]
    .rw[e]
     have:yz (.lst xs)=false:=by
      simp only[yz,decide_eq_true hn,Bool.true_and]
      rw[List.all_eq_false]
      exact ⟨j,by simpa using hj,by rw[h];simp⟩
     rw[this]
     simp[zJ]
   .rintro i x de lv hi ⟨⟨o1,o2,rfl⟩,h⟩
    have hi':i < xs.length:=by
     have:=(List.getElem?_eq_some_iff.mp hi).1
     simpa using this
    rw[xL _ _ _ _ hi'] at hi
    cases hi
    simp only[List.set_cons_succ,List.set_cons_zero]
    rw[show (0:Int)+1 * (i:Int)=(i:Int) by lia]
    rcases zeX (lev:=lev) hw xs hd (by lia) hi' o2 (lv.set 1 (lvF (.int i))) with ⟨hr,o',lv',e⟩ | ⟨hr,e⟩
    .left
     refine ⟨_,_,e,⟨_,_,rfl⟩,fun j hj=>?_⟩
     by_cases q:j=i
     .subst q;exact hr
     .exact h j (by lia)
    .right;exact ⟨_,_,e,rfl,rfl,i,hi',hr⟩
  .by_cases h0:0 < (xs.length:Int)
   .have h1:¬(xs.length:Int) < 13:=by lia
    have h2:¬(xs.length < 13):=by lia
    have h3:0 < xs.length:=by lia
    simp[zH,vT,zT,zY,zJ,lvR,isD,h0,h1,h2,h3,yz,hn]
   .have h3:¬ 0 < xs.length:=by lia
    simp[zH,vT,zT,zY,zJ,lvR,isD,h0,h3,yz,hn]
 | _=>simp[zH,vT,zT,zY,zJ,lvR,isD,yz]
structure TrF (R:List (List Int)):Prop where
 n1:1<=R.length
 n2:R.length<=12
 rl:∀j,j < R.length->(R.getD j []).length=j+1
theorem zeY {n m:Int}{d:Dat}(h:bOk n m d=true):∃r:List Int,d=row r/\(r.length:Int)=m:=by
 cases d with
 | lst xs =>
  simp only[bOk,Bool.and_eq_true,decide_eq_true_eq] at h
  have intsOk:∀ys:List Dat,ys.all (x3 n)=true->∃r:List Int,ys=r.map .int:=by
   intro ys
   induction ys with
   | nil=>intro _;exact ⟨[],rfl⟩
   | cons y ys ih =>
    intro h
    simp only[List.all_cons,Bool.and_eq_true] at h
    obtain ⟨r,e⟩:=ih h.2
    cases y with
    | int v=>exact ⟨v::r,by simp[e]⟩
    | _=>simp[x3] at h
  obtain ⟨r,e⟩:=intsOk xs h.2
  exact ⟨r,by rw[e];rfl,by rw[<- h.1,e];simp⟩
 | _=>cases h
theorem zeZ {d:Dat}(h:yz d=true):∃R,d=tab R/\TrF R:=by
 cases d with
 | lst xs =>
  simp only[yz,Bool.and_eq_true,decide_eq_true_eq] at h
  obtain ⟨⟨h1,h2⟩,h3⟩:=h
  have g:∀i,i < xs.length->∃r:List Int,xs.getD i .non=row r/\r.length=i+1:=fun i hi=>by
   obtain ⟨r,a,b⟩:=zeY (List.all_eq_true.mp h3 i (by simpa using hi))
   exact ⟨r,a,by lia⟩
  have all:∀ (n:Nat) (ys:List Dat),(∀i,i < ys.length->∃r:List Int,ys.getD i .non=row r/\r.length=n+i+1)->∃R:List (List Int),ys=R.map row/\∀i,i < R.length->(R.getD i []).length=n+i+1:=by
   intro n ys
   induction ys generalizing n with
   | nil=>intro _;exact ⟨[],rfl,by simp⟩
   | cons y ys ih =>
    intro h
    obtain ⟨r,a,b⟩:=h 0 (by simp)
    obtain ⟨R,c,e⟩:=ih (n+1) fun i hi=>by
     obtain ⟨r,a,b⟩:=h (i+1) (by simpa using hi)
     exact ⟨r,by simpa using a,by lia⟩
    refine ⟨r::R,?_,fun i hi=>?_⟩
    .have a':y=row r:=by simpa using a
     rw[a',c];rfl
    .cases i with
     | zero=>simpa using b
     | succ i=>have:=e i (by simpa using hi);simp only[List.getD_cons_succ];lia
  obtain ⟨R,e1,e2⟩:=all 0 xs fun i hi=>by
   obtain ⟨r,a,b⟩:=g i hi
   exact ⟨r,a,by lia⟩
  have hl:R.length=xs.length:=by rw[e1];simp
  exact ⟨R,by rw[e1];rfl,by lia,by lia,fun j hj=>by have:=e2 j hj;lia⟩
 | _=>simp[yz] at h
end
end Lib
namespace Lib
section
variable {lev:Nat->Lv}{cl:Nat->List Dat->Rd}{k:Nat}
noncomputable abbrev tA (R:List (List Int))(i m:Nat):Int:=(R.getD i []).getD m 0
noncomputable def bT (R:List (List Int))(i m:Nat):Bool:=(decide (0 < m) && decide (tA R i m<=tA R i (m - 1))) || (decide (i+1 < R.length) && (decide (tA R i m < tA R (i+1) m) || decide (tA R (i+1) (m+1) < tA R i m)))
def FaultT (R:List (List Int))(d:Dat):Prop:=(d=.non/\∀i m,i < R.length->m<=i->bT R i m=false) \/
 ∃i m:Nat,i < R.length/\m<=i/\d=.tup [.int ((i:Int)+1),.int m]/\bT R i m=true/\(∀i' m',i' < i->m'<=i'->bT R i' m'=false)/\∀m',m' < m->bT R i m'=false
theorem FaultT.one {R:List (List Int)}{d e:Dat}(a:FaultT R d)(b:FaultT R e):d=e:=by
 rcases a with ⟨rfl,a⟩ | ⟨i,m,hi,hm,rfl,a1,a2,a3⟩
 .rcases b with ⟨rfl,b⟩ | ⟨i,m,hi,hm,rfl,b1,_,_⟩
  .rfl
  .rw[a i m hi hm] at b1;cases b1
 .rcases b with ⟨rfl,b⟩ | ⟨i',m',hi',hm',rfl,b1,b2,b3⟩
  .rw[b i m hi hm] at a1;cases a1
  .have e1:i=i':=by
    rcases Nat.lt_trichotomy i i' with q | q | q
    .rw[b2 i m q hm] at a1;cases a1
    .exact q
    .rw[a2 i' m' q hm'] at b1;cases b1
   subst e1
   have e2:m=m':=by
    rcases Nat.lt_trichotomy m m' with q | q | q
    .rw[b3 m q] at a1;cases a1
    .exact q
    .rw[a3 m' q] at b1;cases b1
   subst e2
   rfl
theorem row_at {x:List Int}{c:Nat}(hc:c < x.length):yo (row x) (.int (c:Int))=.ok (.int (x.getD c 0)):=vn (vS hc)
theorem jh {R:List (List Int)}{i:Nat}(h:i < R.length):yo (tab R) (.int (i:Int))=.ok (row (R.getD i [])):=kq (by rw[List.getD_eq_getElem?_getD,List.getElem?_eq_getElem h];rfl)
theorem zbS {R:List (List Int)}(h:TrF R){i m:Nat}(hi:i < R.length)(hm:m<=i):zH lev cl k zff [tab R,.int ((i:Int)+1),.int m]=.ok (.bl (bT R i m)):=by
 have hlen:yT .len [tab R]=.ok (.int R.length):=by simp[tab]
 have hr:=h.rl i hi
 unfold zH
 rw[if_pos (by rfl)]
 show zJ (lev k) (exD lev cl zdv [some (tab R),some (.int ((i:Int)+1)),some (.int m),none,none] [lvF (tab R),lvF (.int ((i:Int)+1)),lvF (.int m),.full,.full])=_
 unfold zdv
 rw[zG,zw]
 simp only[zU,zA,ze,za,zb,ziB,wn,show (i:Int)+1 - 1=(i:Int) by lia,jh hi,ziw]
 obtain ⟨l1,e1⟩:=zdw (lev:=lev) (i:=3) (e:=.idx (.var 0) (.bin .sub (.var 1) (.lit (.int 1)))) (d:=row (R.getD i [])) (de:=[some (tab R),some (.int ((i:Int)+1)),some (.int m),none,none]) (lv:=[lvF (tab R),lvF (.int ((i:Int)+1)),lvF (.int m),.full,.full])
 rw[e1]
 simp only[zh,List.set_cons_succ,List.set_cons_zero]
 rw[zG]
 have c1:evD cl (.and (.cmp .gt (.var 2) (.lit (.int 0))) (.cmp .le (.idx (.var 3) (.var 2)) (.idx (.var 3) (.bin .sub (.var 2) (.lit (.int 1)))))) [some (tab R),some (.int ((i:Int)+1)),some (.int m),some (row (R.getD i [])),none]=.ok (.bl (decide (0 < m) && decide (tA R i m<=tA R i (m - 1)))):=by
  simp only[vQ,yu,za,zb,ze,ziB,jJ]
  by_cases hm0:m=0
  .subst hm0;rfl
  .rw[decide_eq_true (show (0:Int) < m by lia),decide_eq_true (show 0 < m by lia)]
   simp only[zU,zA,za,zb,ze,ziB,wn]
   rw[show (m:Int) - 1=((m - 1:Nat):Int) by lia,row_at (by lia),row_at (by lia)]
   simp only[ziB,zdh,Bool.true_and]
 rw[yq,c1]
 unfold bT
 cases decide (0 < m) && decide (tA R i m<=tA R i (m - 1)) with
 | true=>simp[zJ,lvR]
 | false =>
  simp only[ziw,yy,zh,Bool.false_or]
  rw[zG,yq]
  simp only[yu,yB,zt,zq,za,zb,ziB,zj,hlen,zfd]
  by_cases hl:i+1=R.length
  .rw[decide_eq_true (show (i:Int)+1=R.length by lia),decide_eq_false (show ¬ i+1 < R.length by lia)]
   simp[zJ,lvR]
  .rw[decide_eq_false (show ¬(i:Int)+1=R.length by lia),decide_eq_true (show i+1 < R.length by lia)]
   simp only[ziw,yy,zh,Bool.true_and]
   have hj:=h.rl (i+1) (by lia)
   rw[xX,zw]
   simp only[zU,za,zb,ziB,show (i:Int)+1=((i+1:Nat):Int) by lia,jh (show i+1 < R.length by lia),ziw]
   obtain ⟨l2,e2⟩:=zdw (lev:=lev) (i:=4) (e:=.idx (.var 0) (.var 1)) (d:=row (R.getD (i+1) [])) (de:=[some (tab R),some (.int ((i+1:Nat):Int)),some (.int m),some (row (R.getD i [])),none]) (lv:=l1)
   rw[e2]
   simp only[zh,List.set_cons_succ,List.set_cons_zero,xW]
   simp only[qd,yu,zU,zA,ze,za,zb,ziB,yw,show (m:Int)+1=((m+1:Nat):Int) by lia]
   rw[row_at (x:=R.getD i []) (by lia),row_at (x:=R.getD (i+1) []) (by lia),row_at (x:=R.getD (i+1) []) (by lia)]
   simp only[ziB,jI,jJ]
   cases decide (tA R i m < tA R (i+1) m) <;> simp[zJ]
theorem zfg {R:List (List Int)}(h:TrF R){B:Sm}{a:Int}(sz:Nat){E:Ex}{fr:Option Dat->Option Dat->List (Option Dat)->DEn}(hfr:∀o1 o2 r,fr o1 o2 r=some (tab R)::o1::o2::r)
  (hE:∀ (i:Nat) o2 r,i < R.length->evD cl E (fr (some (.int (a+i))) o2 r)=.ok (.tup (zL 0 1 (i+1))))
  (hB:∀ (i m:Nat) r lv,r.length=sz->i < R.length->m<=i->(bT R i m=false/\∃r' lv',r'.length=sz/\exD lev cl B (fr (some (.int (a+i))) (some (.int m)) r) lv=.next (fr (some (.int (a+i))) (some (.int m)) r') lv')\/(bT R i m=true/\exD lev cl B (fr (some (.int (a+i))) (some (.int m)) r) lv=.ret (.tup [.int ((i:Int)+1),.int m]) .full))
  (r0:List (Option Dat)) (h0:r0.length=sz) (lv0:List Lv) :
  (∃o1 o2 r lv',yj (fun x de lv=>exD lev cl (.forv 2 E B) (de.set 1 (some x)) (lv.set 1 (lvF x))) (zL a 1 R.length) (fr none none r0) lv0=.next (fr o1 o2 r) lv'/\FaultT R .non) \/
  ∃d,yj (fun x de lv=>exD lev cl (.forv 2 E B) (de.set 1 (some x)) (lv.set 1 (lvF x))) (zL a 1 R.length) (fr none none r0) lv0=.ret d .full/\FaultT R d/\flat d=true/\∃p q:Int,d=.tup [.int p,.int q]:=by
 have main:=vm (body:=fun x de lv=>exD lev cl (.forv 2 E B) (de.set 1 (some x)) (lv.set 1 (lvF x)))
  (fun i de _=>(∃o1 o2 r,r.length=sz/\de=fr o1 o2 r)/\∀i' m',i' < i->m'<=i'->bT R i' m'=false)
  (fun d l=>l=.full/\∃i m:Nat,i < R.length/\m<=i/\d=.tup [.int ((i:Int)+1),.int m]/\bT R i m=true/\(∀i' m',i' < i->m'<=i'->bT R i' m'=false)/\∀m',m' < m->bT R i m'=false)
  (zL a 1 R.length) (de:=fr none none r0) (lv:=lv0) ⟨⟨none,none,r0,h0,rfl⟩,by intro i' m' h;lia⟩ ?_
 .rcases main with ⟨de',lv',e,⟨o1,o2,r,_,rfl⟩,hb⟩ | ⟨d,l,e,rfl,i,m,hi,hm,rfl,b1,b2,b3⟩
  .rw[wr] at hb
   exact .inl ⟨o1,o2,r,lv',e,.inl ⟨rfl,fun i m hi hm=>hb i m hi hm⟩⟩
  .exact .inr ⟨_,e,.inr ⟨i,m,hi,hm,rfl,b1,b2,b3⟩,by simp,_,_,rfl⟩
 .rintro i x de lv hx ⟨⟨o1,o2,r,hr,rfl⟩,hb⟩
  have hi:i < R.length:=by
   have:=(List.getElem?_eq_some_iff.mp hx).1
   simpa using this
  rw[xL _ _ _ _ hi,Int.one_mul] at hx
  cases hx
  have s1:(fr o1 o2 r).set 1 (some (.int (a+i)))=fr (some (.int (a+i))) o2 r:=by rw[hfr,hfr];rfl
  have inner:=vm (body:=fun x de lv=>exD lev cl B (de.set 2 (some x)) (lv.set 2 (lvF x)))
   (fun m de _=>(∃o2 r,r.length=sz/\de=fr (some (.int (a+i))) o2 r)/\∀m',m' < m->bT R i m'=false)
   (fun d l=>l=.full/\∃m:Nat,m<=i/\d=.tup [.int ((i:Int)+1),.int m]/\bT R i m=true/\∀m',m' < m->bT R i m'=false)
   (zL 0 1 (i+1)) (de:=fr (some (.int (a+i))) o2 r) (lv:=lv.set 1 (lvF (.int (a+i)))) ⟨⟨o2,r,hr,rfl⟩,by intro m' h;lia⟩ ?_
  .show (∃de' lv',exD lev cl (.forv 2 E B) ((fr o1 o2 r).set 1 (some (.int (a+i)))) (lv.set 1 (lvF (.int (a+i))))=.next de' lv'/\_)\/∃d l,exD lev cl (.forv 2 E B) ((fr o1 o2 r).set 1 (some (.int (a+i)))) (lv.set 1 (lvF (.int (a+i))))=.ret d l/\_
   rw[s1,wv,hE i o2 r hi]
   simp only[ziw,xV,xN,xg,if_true]
   rcases inner with ⟨de',lv',e,⟨p2,r',hr',rfl⟩,hb'⟩ | ⟨d,l,e,rfl,m,hm,rfl,hb',hp⟩
   .left
    rw[wr] at hb'
    refine ⟨_,_,e,⟨_,_,r',hr',rfl⟩,fun i' m' h1 h2=>?_⟩
    by_cases z:i'=i
    .subst z;exact hb' m' (by lia)
    .exact hb i' m' (by lia) h2
   .right
    exact ⟨_,_,e,rfl,i,m,hi,hm,rfl,hb',hb,hp⟩
  .rintro m x de lv hx ⟨⟨p2,r',hr',rfl⟩,hb'⟩
   have hm:m < i+1:=by
    have:=(List.getElem?_eq_some_iff.mp hx).1
    simpa using this
   rw[xL _ _ _ _ hm,Int.one_mul,Int.zero_add] at hx
   cases hx
   have s2:(fr (some (.int (a+i))) p2 r').set 2 (some (.int (m:Int)))=fr (some (.int (a+i))) (some (.int m)) r':=by rw[hfr,hfr];rfl
   show (∃de' lv',exD lev cl B ((fr (some (.int (a+i))) p2 r').set 2 (some (.int (m:Int)))) (lv.set 2 (lvF (.int (m:Int))))=.next de' lv'/\_)\/∃d l,exD lev cl B ((fr (some (.int (a+i))) p2 r').set 2 (some (.int (m:Int)))) (lv.set 2 (lvF (.int (m:Int))))=.ret d l/\_
   rw[s2]
   rcases hB i m r' (lv.set 2 (lvF (.int (m:Int)))) hr' hi (by lia) with ⟨q,r2,lv2,hr2,e⟩ | ⟨q,e⟩
   .left
    refine ⟨_,_,e,⟨_,r2,hr2,rfl⟩,fun m' h'=>?_⟩
    by_cases z:m'=m
    .subst z;exact q
    .exact hb' m' (by lia)
   .right;exact ⟨_,_,e,rfl,m,by lia,rfl,q,hb'⟩
theorem zac {kp:Nat}{R:List (List Int)}(h:TrF R)(hp:∀i m:Nat,i < R.length->m<=i->cl kp [tab R,.int ((i:Int)+1),.int m]=.ok (.bl (bT R i m))):∃d,zH lev cl k (zab kp) [tab R]=.ok d/\FaultT R d/\(d=.non\/∃p q:Int,d=.tup [.int p,.int q]):=by
 have n2:=h.n2
 have hlen:yT .len [tab R]=.ok (.int R.length):=by simp[tab]
 have hrng:wM (.int 1) (.int ((R.length:Int)+1)) (.int 1)=.ok (.tup (zL 1 1 R.length)):=by
  rw[xq (by unfold lim;lia)]
  simp[x6]
 have pre:zH lev cl k (zab kp) [tab R]=zJ (lev k) ((yj (fun x de lv=>exD lev cl (.forv 2 (.rng (.lit (.int 0)) (.var 1) (.lit (.int 1))) (zbI kp)) (de.set 1 (some x)) (lv.set 1 (lvF x))) (zL 1 1 R.length) [some (tab R),none,none] [lvF (tab R),.full,.full]).then (exD lev cl (.ret (.lit .non)))):=by
  unfold zH
  rw[if_pos (by rfl)]
  show zJ (lev k) (exD lev cl (.seq _ (.ret _)) [some (tab R),none,none] [lvF (tab R),.full,.full])=_
  rw[xX,wv]
  simp only[xF,ze,zA,yB,zt,zq,za,ziB,zj,hlen,yw,hrng,ziw,xV,xN,xg,if_true]
 rw[pre]
 have hE:∀ (i:Nat) (o2:Option Dat) (r:List (Option Dat)),i < R.length->evD cl (.rng (.lit (.int 0)) (.var 1) (.lit (.int 1))) (some (tab R)::some (.int (1+(i:Int)))::o2::r)=.ok (.tup (zL 0 1 (i+1))):=fun i o2 r hi=>by
  simp only[xF,ze,za,zb,ziB]
  rw[xq (by unfold lim;lia)]
  simp only[x6,if_true,Int.sub_zero]
  have e:((1:Int)+(i:Int)).toNat=i+1:=by lia
  simp only[e]
 have hB:∀ (i m:Nat) (r:List (Option Dat)) (lv:List Lv),r.length=0->i < R.length->m<=i->(bT R i m=false/\∃ (r':List (Option Dat)) (lv':List Lv),r'.length=0/\exD lev cl (zbI kp) (some (tab R)::some (.int (1+(i:Int)))::some (.int m)::r) lv=.next (some (tab R)::some (.int (1+(i:Int)))::some (.int m)::r') lv')\/(bT R i m=true/\exD lev cl (zbI kp) (some (tab R)::some (.int (1+(i:Int)))::some (.int m)::r) lv=.ret (.tup [.int ((i:Int)+1),.int m]) .full):=fun i m r lv hr hi hm=>by
  unfold zbI
  have hc:=hp i m hi hm
  rw[Int.add_comm (i:Int) 1] at hc
  simp only[yq,zX,zt,zq,za,zb,ziB,zj,hc,ziw]
  cases bT R i m with
  | false=>left;exact ⟨rfl,r,lv,hr,rfl⟩
  | true =>
   right
   refine ⟨rfl,?_⟩
   rw[Int.add_comm (i:Int) 1]
   simp[lvR,lim]
 rcases zfg (lev:=lev) (cl:=cl) h (B:=zbI kp) (a:=1) 0 (E:=.rng (.lit (.int 0)) (.var 1) (.lit (.int 1))) (fr:=fun o1 o2 r=>some (tab R)::o1::o2::r) (fun _ _ _=>rfl) hE hB [] rfl [lvF (tab R),.full,.full] with ⟨o1,o2,r,lv',e,f⟩ | ⟨d,e,f,fl,p,q,rfl⟩
 .rw[e]
  exact ⟨.non,by simp[zJ,lvR],f,.inl rfl⟩
 .rw[e]
  exact ⟨_,by simp[zJ],f,.inr ⟨p,q,rfl⟩⟩
noncomputable def ltB:Sm:=(.seq (.asg 3 (.idx (.idx (.var 0) (.var 1)) (.var 2))) (.seq (.ite (.and (.cmp .gt (.var 2) (.lit (.int 0))) (.cmp .le (.var 3) (.idx (.idx (.var 0) (.var 1)) (.bin .sub (.var 2) (.lit (.int 1)))))) (.ret (.tup (.pair (.bin .add (.var 1) (.lit (.int 1))) (.pair (.var 2) .unit)))) .skip) (.ite (.cmp .lt (.var 1) (.bin .sub (.blt .len (.pair (.var 0) .unit)) (.lit (.int 1)))) (.ite (.or (.cmp .lt (.var 3) (.idx (.idx (.var 0) (.bin .add (.var 1) (.lit (.int 1)))) (.var 2))) (.cmp .gt (.var 3) (.idx (.idx (.var 0) (.bin .add (.var 1) (.lit (.int 1)))) (.bin .add (.var 2) (.lit (.int 1)))))) (.ret (.tup (.pair (.bin .add (.var 1) (.lit (.int 1))) (.pair (.var 2) .unit)))) .skip) .skip)))
noncomputable def zgk:Fn:=⟨1,4,(.seq (.forv 1 (.rng (.lit (.int 0)) (.blt .len (.pair (.var 0) .unit)) (.lit (.int 1))) (.forv 2 (.rng (.lit (.int 0)) (.bin .add (.var 1) (.lit (.int 1))) (.lit (.int 1))) ltB)) (.ret (.lit .non)))⟩
theorem ze0 {R:List (List Int)}(h:TrF R){i m:Nat}(hi:i < R.length)(hm:m<=i)(o3:Option Dat)(lv:List Lv):
  (bT R i m=false/\∃o3' lv',exD lev cl ltB [some (tab R),some (.int i),some (.int m),o3] lv=.next [some (tab R),some (.int i),some (.int m),o3'] lv')\/(bT R i m=true/\exD lev cl ltB [some (tab R),some (.int i),some (.int m),o3] lv=.ret (.tup [.int ((i:Int)+1),.int m]) .full):=by
 have hlen:yT .len [tab R]=.ok (.int R.length):=by simp[tab]
 have hr:=h.rl i hi
 have n2:=h.n2
 unfold ltB
 rw[zG,zw]
 simp only[zU,za,zb,ziB,jh hi,row_at (show m < (R.getD i []).length by lia),ziw]
 rw[zF (by simp)]
 simp only[zh,List.set_cons_succ,List.set_cons_zero]
 rw[gm]
 have c1:evD cl (.and (.cmp .gt (.var 2) (.lit (.int 0))) (.cmp .le (.var 3) (.idx (.idx (.var 0) (.var 1)) (.bin .sub (.var 2) (.lit (.int 1)))))) [some (tab R),some (.int i),some (.int m),some (.int (tA R i m))]=.ok (.bl (decide (0 < m) && decide (tA R i m<=tA R i (m - 1)))):=by
  simp only[vQ,yu,za,zb,ze,ziB,jJ]
  by_cases hm0:m=0
  .subst hm0;rfl
  .rw[decide_eq_true (show (0:Int) < m by lia),decide_eq_true (show 0 < m by lia)]
   simp only[zU,zA,za,zb,ze,ziB,wn,jh hi]
   rw[show (m:Int) - 1=((m - 1:Nat):Int) by lia,row_at (by lia)]
   simp only[ziB,zdh,Bool.true_and]
 rw[yq,c1]
 unfold bT
 cases decide (0 < m) && decide (tA R i m<=tA R i (m - 1)) with
 | true =>
  right
  refine ⟨by simp,?_⟩
  simp[lvR,lim]
 | false =>
  simp only[ziw,yy,zh,Bool.false_or]
  rw[yq]
  simp only[yu,zA,yB,zt,zq,za,zb,ze,ziB,zj,hlen,wn,jI]
  by_cases hl:i+1 < R.length
  .rw[decide_eq_true (show (i:Int) < (R.length:Int) - 1 by lia),decide_eq_true hl]
   have hj:=h.rl (i+1) hl
   simp only[ziw,Bool.true_and]
   rw[yq]
   have t1:yo (tab R) (.int ((i:Int)+1))=.ok (row (R.getD (i+1) [])):=jh hl
   have r1:yo (row (R.getD (i+1) [])) (.int ((m:Int)+1))=.ok (.int (tA R (i+1) (m+1))):=row_at (c:=m+1) (by lia)
   have r2:yo (row (R.getD (i+1) [])) (.int (m:Int))=.ok (.int (tA R (i+1) m)):=row_at (by lia)
   simp only[qd,yu,zU,zA,ze,za,zb,ziB,yw,t1,r1,r2,jI,jJ]
   cases decide (tA R i m < tA R (i+1) m) with
   | true =>
    right
    refine ⟨rfl,?_⟩
    simp[lvR,lim]
   | false =>
    cases decide (tA R (i+1) (m+1) < tA R i m) with
    | true =>
     right
     refine ⟨rfl,?_⟩
     simp[lvR,lim]
    | false =>
     left
     exact ⟨rfl,some (.int (tA R i m)),lv.set 3 .full,rfl⟩
  .rw[decide_eq_false (show ¬(i:Int) < (R.length:Int) - 1 by lia),decide_eq_false hl]
   left
   exact ⟨by simp,some (.int (tA R i m)),lv.set 3 .full,by simp⟩
theorem ze1 {R:List (List Int)}(h:TrF R):∃d,zH lev cl k zgk [tab R]=.ok d/\FaultT R d:=by
 have n2:=h.n2
 have hlen:yT .len [tab R]=.ok (.int R.length):=by simp[tab]
 have hrng:wM (.int 0) (.int R.length) (.int 1)=.ok (.tup (zL 0 1 R.length)):=by
  rw[xq (by unfold lim;lia)]
  simp[x6]
 have pre:zH lev cl k zgk [tab R]=zJ (lev k) ((yj (fun x de lv=>exD lev cl (.forv 2 (.rng (.lit (.int 0)) (.bin .add (.var 1) (.lit (.int 1))) (.lit (.int 1))) ltB) (de.set 1 (some x)) (lv.set 1 (lvF x))) (zL 0 1 R.length) [some (tab R),none,none,none] [lvF (tab R),.full,.full,.full]).then (exD lev cl (.ret (.lit .non)))):=by
  unfold zH
  rw[if_pos (by rfl)]
  congr 1
  show exD lev cl (.seq _ (.ret _)) [some (tab R),none,none,none] [lvF (tab R),.full,.full,.full]=_
  rw[xX,wv]
  simp only[xF,ze,zA,yB,zt,zq,za,ziB,zj,hlen,yw,hrng,ziw,xV,xN,xg,if_true]
 rw[pre]
 have hE:∀ (i:Nat) (o2:Option Dat) (r:List (Option Dat)),i < R.length->evD cl (.rng (.lit (.int 0)) (.bin .add (.var 1) (.lit (.int 1))) (.lit (.int 1))) (some (tab R)::some (.int (0+(i:Int)))::o2::r)=.ok (.tup (zL 0 1 (i+1))):=fun i o2 r hi=>by
  simp only[xF,ze,zA,za,zb,ziB,yw]
  rw[xq (by unfold lim;lia)]
  simp only[x6,if_true,Int.sub_zero]
  rw[show ((0:Int)+(i:Int)+1).toNat=i+1 by lia]
 have hB:∀ (i m:Nat) (r:List (Option Dat)) (lv:List Lv),r.length=1->i < R.length->m<=i->(bT R i m=false/\∃ (r':List (Option Dat)) (lv':List Lv),r'.length=1/\exD lev cl ltB (some (tab R)::some (.int (0+(i:Int)))::some (.int m)::r) lv=.next (some (tab R)::some (.int (0+(i:Int)))::some (.int m)::r') lv')\/(bT R i m=true/\exD lev cl ltB (some (tab R)::some (.int (0+(i:Int)))::some (.int m)::r) lv=.ret (.tup [.int ((i:Int)+1),.int m]) .full):=fun i m r lv hr hi hm=>by
  obtain ⟨o3,rfl⟩:∃o3,r=[o3]:=by
   cases r with
   | nil=>simp at hr
   | cons a r=>cases r with
    | nil=>exact ⟨a,rfl⟩
    | cons b r=>simp at hr
  rw[Int.zero_add]
  rcases ze0 (lev:=lev) (cl:=cl) h hi hm o3 lv with ⟨q,o,lv',e⟩ | ⟨q,e⟩
  .exact .inl ⟨q,[o],lv',rfl,e⟩
  .exact .inr ⟨q,e⟩
 rcases zfg (lev:=lev) (cl:=cl) h (B:=ltB) (a:=0) 1 (E:=.rng (.lit (.int 0)) (.bin .add (.var 1) (.lit (.int 1))) (.lit (.int 1))) (fr:=fun o1 o2 r=>some (tab R)::o1::o2::r) (fun _ _ _=>rfl) hE hB [none] rfl [lvF (tab R),.full,.full,.full] with ⟨o1,o2,r,lv',e,f⟩ | ⟨d,e,f,fl,p,q,rfl⟩
 .rw[e]
  exact ⟨.non,by simp[zJ,lvR],f⟩
 .rw[e]
  exact ⟨_,by simp[zJ],f⟩
end
end Lib
section
variable (lev:Nat->Lv)(cl:Nat->List Dat->Rd)(de:DEn)(lv:List Lv)
theorem zaR (j:Nat)(k e:Ex):exD lev cl (.asgS (.var j) k e) de lv=(evD cl e de).okS fun d=>(evD cl k de).okS fun k=>zc6 lev j k e d de lv:=rfl
theorem gq (j:Nat)(r k e:Ex):exD lev cl (.asgS (.idx (.var j) r) k e) de lv=(evD cl e de).okS fun d=>(evD cl r de).okS fun r=>(evD cl k de).okS fun k =>
    if lvE lev e d=.full then toS (vM j r de lv (vX k d)) lv
    else if j∈zm e then .no else toS (vM j r de lv (vX k d)) ((xC e de lv).set j .top):=rfl
theorem ze2 (j:Nat)(i k a b:Ex):exD lev cl (.swapS (.var j) i (.var j) k (.idx (.var j) a) (.idx (.var j) b)) de lv=if zP lv j=true then
    (evD cl a de).okS fun a=>(evD cl b de).okS fun b=>(evD cl i de).okS fun i=>(evD cl k (de.set j none)).okS fun k=>match xD de j,i,k,a,b with
     | some ds,.int i,.int k,.int a,.int b=>match ix ds.length i,ix ds.length k,(ix ds.length a).bind fun p=>ds[p]?,(ix ds.length b).bind fun p=>ds[p]? with
      | some p,some q,some x,some y=>.next (de.set j (some (.lst ((ds.set p x).set q y)))) (lv.set j .top)
      | _,_,_,_=>.no
     | _,_,_,_,_=>.no
    else .no:=by
 show g7 cl _ _ _ _ _ _ de lv=_
 simp[g7] <;> rfl
theorem ze3 {i j:Nat}(h:i≠j)(r p q c d:Ex):exD lev cl (.seq (.asg i (.idx (.var j) r)) (.swapS (.var i) p (.var i) q (.idx (.var i) c) (.idx (.var i) d))) de lv=(evD cl r de).okS fun rv=>(evD cl (.idx (.var j) r) de).okS fun row =>
    (evD cl c (de.set i (some row))).okS fun c=>(evD cl d (de.set i (some row))).okS fun d=>(evD cl p (de.set i (some row))).okS fun p=>(evD cl q ((de.set j none).set i none)).okS fun q =>
     if i < de.length then toS ((vM j rv de lv (g6 p q c d)).map fun de1=>de1.set i none) (lv.set i .full) else .no:=by
 rw[kj]
 have:zI (.asg i (.idx (.var j) r)) (.swapS (.var i) p (.var i) q (.idx (.var i) c) (.idx (.var i) d))=some (i,j,r,p,q,c,d):=by simp[zI,h]
 rw[this] <;> rfl
theorem zaS {j p:Nat}{k:Int}{ds es es1:List Dat}{f:List Dat->Option (List Dat)}{de:DEn}{lv:List Lv}(hd:de[j]?=some (some (.lst ds)))(hk:ix ds.length k=some p)(hp:ds[p]?=some (.lst es))(hf:f es=some es1)(hl:lv[j]?=some .full):vM j (.int k) de lv f=some (de.set j (some (.lst (ds.set p (.lst es1))))):=by
 have h1:xD de j=some ds:=by unfold xD;rw[hd]
 unfold vM
 simp only[h1,hk,Option.bind_some,hp,hf,Option.map_some]
 rw[if_pos hl]
end
namespace Lib
section
variable {lev:Nat->Lv}{cl:Nat->List Dat->Rd}
theorem xb {α:Type}{xs:List α}{i:Nat}{y x:α}(h:x∈xs.set i y):x=y\/x∈xs:=(List.mem_or_eq_of_mem_set h).symm
theorem vU:∀ (j:Nat) (d:Dat),zK j d=true->zK (j+1) d=true:=by
 intro j
 induction j with
 | zero=>intro d h;simp[zK] at h
 | succ j ih =>
  intro d h
  cases d with
  | tup xs=>rw[ja] at h ⊢;rw[yI] at h ⊢;exact List.all_eq_true.mpr fun x hx=>ih x (List.all_eq_true.mp h x hx)
  | lst xs=>rw[jb] at h ⊢;rw[yI] at h ⊢;exact List.all_eq_true.mpr fun x hx=>ih x (List.all_eq_true.mp h x hx)
  | scr _=>simp[zK] at h
  | _=>simp
theorem zQ {j:Nat}{xs:List Dat}(h:∀x∈xs,zK j x=true):zK (j+1) (.lst xs)=true:=by
 rw[jb,yI];exact List.all_eq_true.mpr h
theorem yi (j:Nat)(x:List Int):zK (j+2) (row x)=true:=by
 refine zQ fun y hy=>?_
 obtain ⟨v,_,rfl⟩:=List.mem_map.mp hy
 simp
theorem vv (j:Nat)(R:List (List Int)):zK (j+3) (tab R)=true:=by
 refine zQ fun y hy=>?_
 obtain ⟨v,_,rfl⟩:=List.mem_map.mp hy
 exact yi j v
theorem zhJ {d:Dat}(h:zK 12 d=true):wfT d=true:=by
 cases d with
 | scr _=>simp[zK] at h
 | lst xs =>
  rw[jb,yI] at h
  simp only[wfT]
  refine List.all_eq_true.mpr fun x hx=>?_
  have:=List.all_eq_true.mp h x hx
  cases x with
  | scr _=>simp[zK] at this
  | _=>rfl
 | _=>rfl
noncomputable abbrev yL (R:List (List Int))(cell:Int)(r c s:Nat):DEn:=[some (tab R),some (.int cell),some (tab R),some (.int R.length),some (.int r),some (.int c),some (.int s),none,none]
noncomputable abbrev fl9:List Lv:=[.no,.full,.full,.full,.full,.full,.full,.full,.full]
def ze4 (r:Rsd):Prop:=match r with
 | .next de' _=>∃d,de'[2]?=some (some d)/\zK 12 d=true
 | _=>False
def yJ (lev:Nat->Lv)(cl:Nat->List Dat->Rd)(sm:Sm)(de:DEn):Prop:=ze4 (exD lev cl sm de fl9)
theorem ku {i:Nat}{e:Ex}{d:Dat}{de:DEn}{lv:List Lv}:∃lv',vg lev i e d de lv=.next (de.set i (some d)) lv':=by
 unfold vg
 split
 .exact ⟨_,rfl⟩
 .exact ⟨_,rfl⟩
theorem qi {e:Ex}{d:Dat}{R:List (List Int)}{r c s:Nat}{cell:Int}(h:evD cl e (yL R cell r c s)=.ok d)(g:zK 12 d=true):yJ lev cl (.asg 2 e) (yL R cell r c s):=by
 unfold yJ
 rw[zw,h]
 simp only[ziw]
 obtain ⟨lv',e'⟩:=ku (lev:=lev) (i:=2) (e:=e) (d:=d) (de:=yL R cell r c s) (lv:=fl9)
 rw[e']
 exact ⟨d,rfl,g⟩
theorem zdB {V:List Dat}{cell:Int}(q:Int){m:Nat}(hm:V.length=m)(h0:0 < m)(hm2:m < 1000)(g:∀d∈V,zK 10 d=true):∃d:Dat,yo (.lst V) (.int (cell / q % (m:Int)))=.ok d/\d∈V:=by
 have p1:=Int.emod_nonneg (cell / q) (b:=(m:Int)) (by lia)
 have p2:=Int.emod_lt_of_pos (cell / q) (b:=(m:Int)) (by lia)
 have hlt:(cell / q % (m:Int)).toNat < V.length:=by lia
 exact ⟨V[(cell / q % (m:Int)).toNat],zdj p1 (List.getElem?_eq_getElem hlt),List.getElem_mem hlt⟩
theorem ji:∀x:List Int,depL (x.map Dat.int)=0
 | []=>by simp[depL]
 | v::x=>by simp[depL,dep,ji x]
theorem zdC {R:List (List Int)}(h:1<=R.length):depL (R.map row)=1:=by
 have one:∀x:List Int,dep (row x)=1:=fun x=>by simp[row,dep,ji]
 induction R with
 | nil=>simp at h
 | cons x R ih =>
  simp only[List.map_cons,depL,one]
  cases R with
  | nil=>simp[depL]
  | cons y R=>rw[ih (by simp)];rfl
theorem x4 {c:Ex}{a b:Sm}{de:DEn}{lv:List Lv}(h:evD cl c de=.ok (.bl true)):exD lev cl (.ite c a b) de lv=exD lev cl a de lv:=by rw[yq,h];rfl
theorem x5 {c:Ex}{a b:Sm}{de:DEn}{lv:List Lv}(h:evD cl c de=.ok (.bl false)):exD lev cl (.ite c a b) de lv=exD lev cl b de lv:=by rw[yq,h];rfl
theorem zdD {R:List (List Int)}(hn:R.length<=100)(hr:∀r∈R,r.length<=100)(de:DEn)(i j:Nat)(hj:de.length=j)(hd:evD cl (.var i) de=.ok (tab R)):evD cl (.comp (.blt .list (.pair (.var j) .unit)) (.var i) (.lit (.bl true))) de=.ok (tab R):=by
 have hlim:(R.map row).length<=lim:=by simp;unfold lim;lia
 rw[wC,hd]
 simp only[ziB,tab,jc hlim]
 rw[xO row row R [] (fun x _=>by simp) (fun x hx=>?_) (by simpa using hlim)]
 .simp
 .have:evD cl (.var j) (de++[some (row x)])=.ok (row x):=zdf cl _ _ _ (by rw[<- hj];simp)
  simp only[yB,zt,zq,this,ziB,zj]
  have:=hr x hx
  simp only[yT,row,xS]
  rw[yG (by simp;unfold lim;lia)]
theorem ze5 {R:List (List Int)}(lev:Nat->Lv)(i j:Nat):lvE lev (.comp (.blt .list (.pair (.var j) .unit)) (.var i) (.lit (.bl true))) (tab R)=.full:=by
 have:(R.map row).all (fun x=>lvE lev (.blt .list (.pair (.var j) .unit)) x == .full)=true:=by
  rw[List.all_map,List.all_eq_true]
  intro x _
  simp[row]
 unfold tab
 first | rw[ki] | rw[kZ]
 simp only[wt,Bool.false_eq_true,if_false]
 rw[if_pos this]
theorem vw (a:Int){n:Nat}(h:0 < n):∃q:Nat,q < n/\a % (n:Int)=q:=by
 have p1:=Int.emod_nonneg a (b:=(n:Int)) (by lia)
 have p2:=Int.emod_lt_of_pos a (b:=(n:Int)) (by lia)
 exact ⟨(a % (n:Int)).toNat,by lia,by lia⟩
theorem ky {R:List (List Int)}{r c:Nat}{d:Dat}(hd:zK 10 d=true){x:List Int}:zK 12 (.lst ((R.map row).set r (.lst ((x.map Dat.int).set c d))))=true:=by
 refine zQ fun y hy=>?_
 rcases xb hy with rfl | hy
 .refine zQ fun z hz=>?_
  rcases xb hz with rfl | hz
  .exact hd
  .obtain ⟨v,_,rfl⟩:=List.mem_map.mp hz;simp
 .obtain ⟨v,_,rfl⟩:=List.mem_map.mp hy;exact yi 9 v
end
end Lib
namespace Lib
section
variable {lev:Nat->Lv}{cl:Nat->List Dat->Rd}{k:Nat}
structure TOdd (R:List (List Int))(r c:Nat):Prop where
 t:TrF R
 hr:r < R.length
 hc:c<=r
theorem TOdd.n1 {R:List (List Int)}{r c:Nat}(h:TOdd R r c):1<=R.length:=h.t.n1
theorem TOdd.n2 {R:List (List Int)}{r c:Nat}(h:TOdd R r c):R.length<=12:=h.t.n2
theorem TOdd.get {R:List (List Int)}{r c:Nat}(h:TOdd R r c):∃x v,R[r]?=some x/\x[c]?=some v/\x.length=r+1:=by
 have hl:=h.t.rl r h.hr
 have hc:=h.hc
 have gr:R[r]?=some (R.getD r []):=by rw[List.getD_eq_getElem?_getD,List.getElem?_eq_getElem h.hr];rfl
 exact ⟨R.getD r [],(R.getD r []).getD c 0,gr,vS (by lia),hl⟩
theorem zad {R:List (List Int)}{r c s:Nat}(h:TOdd R r c)(cell:Int){x:List Int}(hx:R[r]?=some x)(hl:x.length=r+1)(f:Dat):vM 2 (.int (r:Int)) (yL R cell r c s) fl9 (vX (.int (c:Int)) f)=some ((yL R cell r c s).set 2 (some (.lst ((R.map row).set r (.lst ((x.map Dat.int).set c f)))))) :=
 zaS (ds:=R.map row) (es:=x.map Dat.int) (p:=r) rfl (by rw[List.length_map];exact y0 h.hr) (by rw[List.getElem?_map,hx];rfl) (by unfold vX;simp only;rw[List.length_map,y0 (by have:=h.hc;lia)];rfl) rfl
theorem to0 {R:List (List Int)}{r c s:Nat}(h:TOdd R r c)(cell:Int)(hs:s < 4):
  yJ lev cl (.asgS (.idx (.var 2) (.var 4)) (.var 5) (.bin .add (.idx (.idx (.var 2) (.var 4)) (.var 5)) (.idx (.lst (.pair (.lit (.int 1)) (.pair (.neg (.lit (.int 1))) (.pair (.lit (.int 2)) (.pair (.neg (.lit (.int 2))) .unit))))) (.var 6)))) (yL R cell r c s):=by
 obtain ⟨x,v,hx,hv,hl⟩:=h.get
 have h1:=kq hx
 have h2:=vn hv
 have h3:yr [Dat.int 1,.int (-1),.int 2,.int (-2)]=.ok (.lst [.int 1,.int (-1),.int 2,.int (-2)]):=rfl
 obtain ⟨u,hu⟩:∃u:Int,yo (.lst [.int 1,.int (-1),.int 2,.int (-2)]) (.int (s:Int))=.ok (.int u):=by
  have:s=0\/s=1\/s=2\/s=3:=by lia
  rcases this with rfl | rfl | rfl | rfl
  .exact ⟨1,rfl⟩
  .exact ⟨-1,rfl⟩
  .exact ⟨2,rfl⟩
  .exact ⟨-2,rfl⟩
 unfold yJ
 rw[gq]
 simp only[zU,wl,zt,zq,ze,wm,zA,zb,za,ziB,zj,h1,h2,h3,hu,yw,ziA]
 rw[if_pos (xl _ _ _ (by simp)),zad h cell hx hl]
 exact ⟨_,rfl,ky (d:=.int (v+u)) (by simp)⟩
theorem to4 {R:List (List Int)}{r c s:Nat}(h:TOdd R r c)(cell:Int):yJ lev cl (.asgS (.idx (.var 2) (.var 4)) (.var 5) (.bin .mod (.bin .fdiv (.var 1) (.lit (.int 3000))) (.var 3))) (yL R cell r c s):=by
 obtain ⟨x,v,hx,hv,hl⟩:=h.get
 have e1:zC .fdiv (.int cell) (.int 3000)=.ok (.int (cell / 3000)):=yQ _ _ (by decide) (by decide)
 have e2:zC .mod (.int (cell / 3000)) (.int R.length)=.ok (.int (cell / 3000 % R.length)):=yR _ _ (by have:=h.n1;lia)
 unfold yJ
 rw[gq]
 simp only[zA,ze,zb,za,ziB,e1,e2,ziA]
 rw[if_pos (xl _ _ _ (by simp)),zad h cell hx hl]
 exact ⟨_,rfl,ky (d:=.int (cell / 3000 % R.length)) (by simp)⟩
theorem to6 {R:List (List Int)}{r c s:Nat}(h:TOdd R r c)(cell:Int):
  yJ lev cl (.seq (.asg 7 (.bin .mod (.bin .fdiv (.var 1) (.lit (.int 3000))) (.bin .add (.var 4) (.lit (.int 1))))) (.seq (.asg 8 (.idx (.var 2) (.var 4))) (.swapS (.var 8) (.var 5) (.var 8) (.var 7) (.idx (.var 8) (.var 7)) (.idx (.var 8) (.var 5))))) (yL R cell r c s):=by
 obtain ⟨x,v,hx,hv,hl⟩:=h.get
 have h1:=kq hx
 have e1:zC .fdiv (.int cell) (.int 3000)=.ok (.int (cell / 3000)):=yQ _ _ (by decide) (by decide)
 obtain ⟨q,hq,eq⟩:=vw (cell / 3000) (show 0 < r+1 by lia)
 have e2:zC .mod (.int (cell / 3000)) (.int ((r:Int)+1))=.ok (.int q):=by
  rw[yR _ _ (by lia),<- eq]
  rfl
 have hs:g6 (.int (c:Int)) (.int (q:Int)) (.int (q:Int)) (.int (c:Int)) (x.map Dat.int)=some (((x.map Dat.int).set c (.int (x.getD q 0))).set q (.int v)):=by
  have a1:(x.map Dat.int)[q]?=some (.int (x.getD q 0)):=by rw[List.getElem?_map,vS (by lia)];rfl
  have a2:(x.map Dat.int)[c]?=some (.int v):=by rw[List.getElem?_map,hv];rfl
  simp only[g6,List.length_map,y0 (show c < x.length by have:=h.hc;lia),y0 (show q < x.length by lia),Option.bind_some,a1,a2,qg,Bool.and_self,if_true]
 have h5:∀de:DEn,de[2]?=some (some (tab R))->vM 2 (.int (r:Int)) de fl9 (g6 (.int (c:Int)) (.int (q:Int)) (.int (q:Int)) (.int (c:Int)))=some (de.set 2 (some (.lst ((R.map row).set r (.lst (((x.map Dat.int).set c (.int (x.getD q 0))).set q (.int v))))))):=fun de hde =>
  zaS (ds:=R.map row) (es:=x.map Dat.int) (p:=r) hde (by rw[List.length_map];exact y0 h.hr) (by rw[List.getElem?_map,hx];rfl) hs rfl
 have good:zK 12 (.lst ((R.map row).set r (.lst (((x.map Dat.int).set c (.int (x.getD q 0))).set q (.int v)))))=true:=by
  refine zQ fun y hy=>?_
  rcases xb hy with rfl | hy
  .refine zQ fun z hz=>?_
   rcases xb hz with rfl | hz
   .simp
   .rcases xb hz with rfl | hz
    .simp
    .obtain ⟨v,_,rfl⟩:=List.mem_map.mp hz;simp
  .obtain ⟨v,_,rfl⟩:=List.mem_map.mp hy;exact yi 9 v
 unfold yJ
 rw[zG]
 simp only[zw,zA,zb,za,ze,ziB,e1,yw,e2,ziw]
 rw[zF (by simp)]
 simp only[zh,List.set_cons_succ,List.set_cons_zero]
 rw[ze3 lev cl _ _ (by decide)]
 simp only[zU,zb,za,ziB,h1,ziA,List.set_cons_succ,List.set_cons_zero]
 rw[h5 _ rfl]
 exact ⟨_,rfl,good⟩
theorem to8 {R:List (List Int)}{r c s:Nat}(h:TOdd R r c)(cell:Int):
  yJ lev cl (.seq (.asg 7 (.bin .mod (.bin .fdiv (.var 1) (.lit (.int 3000))) (.var 3))) (.swapS (.var 2) (.var 4) (.var 2) (.var 7) (.idx (.var 2) (.var 7)) (.idx (.var 2) (.var 4)))) (yL R cell r c s):=by
 obtain ⟨x,v,hx,hv,hl⟩:=h.get
 have e1:zC .fdiv (.int cell) (.int 3000)=.ok (.int (cell / 3000)):=yQ _ _ (by decide) (by decide)
 obtain ⟨q,hq,eq⟩:=vw (cell / 3000) (show 0 < R.length from h.n1)
 have e2:zC .mod (.int (cell / 3000)) (.int R.length)=.ok (.int q):=by rw[yR _ _ (by have:=h.n1;lia),eq]
 have a1:(R.map row)[r]?=some (row x):=by rw[List.getElem?_map,hx];rfl
 have a2:(R.map row)[q]?=some (row (R.getD q [])):=by rw[List.getElem?_map,List.getD_eq_getElem?_getD,List.getElem?_eq_getElem hq];rfl
 have good:zK 12 (.lst (((R.map row).set r (row (R.getD q []))).set q (row x)))=true:=by
  refine zQ fun z hz=>?_
  rcases xb hz with rfl | hz
  .exact yi 9 x
  .rcases xb hz with rfl | hz
   .exact yi 9 _
   .obtain ⟨v,_,rfl⟩:=List.mem_map.mp hz;exact yi 9 v
 unfold yJ
 rw[zD _ _ _ _ (by rfl)]
 simp only[zw,zA,zb,za,ze,ziB,e1,e2,ziw]
 rw[zF (by simp)]
 simp only[zh,List.set_cons_succ,List.set_cons_zero]
 rw[ze2,if_pos (show zP fl9 2=true from rfl)]
 simp only[zb,za,ziA,List.set_cons_succ,List.set_cons_zero]
 rw[show xD [some (tab R),some (.int cell),some (tab R),some (.int R.length),some (.int r),some (.int c),some (.int s),some (.int q),none] 2=some (R.map row) from rfl]
 simp only[List.length_map,y0 h.hr,y0 hq,Option.bind_some,a1,a2]
 exact ⟨_,rfl,good⟩
theorem to9 {R:List (List Int)}{r c s:Nat}(h:TOdd R r c)(cell:Int):
  yJ lev cl (.asgS (.idx (.var 2) (.var 4)) (.var 5) (.idx (.lst (.pair (.lit (.bl true)) (.pair (.lit (.bl false)) (.pair (.lit .non) (.pair (.lit (.str [49])) (.pair (.lst (.pair (.lit (.int 1)) .unit)) (.pair (.tup (.pair (.lit (.int 1)) .unit)) (.pair (.neg (.lit (.int 1))) (.pair (.var 3) (.pair (.bin .pow (.lit (.int 10)) (.lit (.int 29))) .unit)))))))))) (.bin .mod (.bin .fdiv (.var 1) (.lit (.int 3000))) (.lit (.int 9))))) (yL R cell r c s):=by
 obtain ⟨x,v,hx,hv,hl⟩:=h.get
 have e1:zC .fdiv (.int cell) (.int 3000)=.ok (.int (cell / 3000)):=yQ _ _ (by decide) (by decide)
 have e2:zC .mod (.int (cell / 3000)) (.int 9)=.ok (.int (cell / 3000 % 9)):=yR _ _ (by decide)
 have e3:zC .pow (.int 10) (.int 29)=.ok (.int (10 ^ 29)):=qT 10 29 ⟨by decide,by decide,by decide⟩
 have e4:yr [Dat.int 1]=.ok (.lst [.int 1]):=rfl
 have e5:yr [Dat.bl true,.bl false,.non,.str [49],.lst [.int 1],.tup [.int 1],.int (-1),.int R.length,.int (10 ^ 29)]=.ok (.lst [Dat.bl true,.bl false,.non,.str [49],.lst [.int 1],.tup [.int 1],.int (-1),.int R.length,.int (10 ^ 29)]):=yG (by simp[lim])
 have e6:(1:Nat)<=lim:=by unfold lim;lia
 have gV:∀d∈[Dat.bl true,.bl false,.non,.str [49],.lst [.int 1],.tup [.int 1],.int (-1),.int R.length,.int (10 ^ 29)],zK 10 d=true:=by
  intro d hd
  simp only[List.mem_cons,List.not_mem_nil,or_false] at hd
  rcases hd with rfl | rfl | rfl | rfl | rfl | rfl | rfl | rfl | rfl <;> simp
 obtain ⟨d,hd,hdV⟩:=zdB (cell:=cell) 3000 (m:=9) (V:=[Dat.bl true,.bl false,.non,.str [49],.lst [.int 1],.tup [.int 1],.int (-1),.int R.length,.int (10 ^ 29)]) rfl (by decide) (by decide) gV
 unfold yJ
 rw[gq]
 have hd':yo (.lst [Dat.bl true,.bl false,.non,.str [49],.lst [.int 1],.tup [.int 1],.int (-1),.int R.length,.int (10 ^ 29)]) (.int (cell / 3000 % 9))=.ok d:=hd
 simp only[zU,wl,zde,zt,zq,ze,zby,yW,xU,wm,zA,zb,za,ziB,zj,e1,e2,e3,e4,List.length_cons,List.length_nil,Nat.zero_add,e6,if_true,e5,hd',ziA,zad h cell hx hl]
 split
 .exact ⟨_,rfl,ky (gV d hdV)⟩
 .rw[if_neg (by simp)]
  exact ⟨_,rfl,ky (gV d hdV)⟩
theorem to10 {R:List (List Int)}{r c s:Nat}(h:TOdd R r c)(cell:Int):
  yJ lev cl (.asgS (.var 2) (.var 4) (.idx (.lst (.pair (.blt .tuple (.pair (.idx (.var 2) (.var 4)) .unit)) (.pair (.lit .non) (.pair (.lit (.str [48])) (.pair (.lit (.int 1)) (.pair (.bin .add (.idx (.var 2) (.var 4)) (.lst (.pair (.lit (.int 0)) .unit))) (.pair (.slL (.idx (.var 2) (.var 4)) (.lit (.int 1))) .unit))))))) (.bin .mod (.bin .fdiv (.var 1) (.lit (.int 3000))) (.lit (.int 6))))) (yL R cell r c s):=by
 obtain ⟨x,v,hx,hv,hxl⟩:=h.get
 have hn2:=h.n2
 have hr:=h.hr
 have h1:=kq hx
 have e1:zC .fdiv (.int cell) (.int 3000)=.ok (.int (cell / 3000)):=yQ _ _ (by decide) (by decide)
 have e2:zC .mod (.int (cell / 3000)) (.int 6)=.ok (.int (cell / 3000 % 6)):=yR _ _ (by decide)
 have e3:yT .tuple [row x]=.ok (.tup (x.map .int)):=rfl
 have e4:yr [Dat.int 0]=.ok (.lst [.int 0]):=rfl
 have e5:zC .add (row x) (.lst [.int 0])=.ok (row (x++[0])):=by
  simp only[zC,row]
  rw[yG (by simp;unfold lim;lia)]
  simp
 have e6:∃y:List Int,slD (row x) (some 1) none=.ok (row y):=by
  refine ⟨(x.drop (sIx (x.map Dat.int).length 0 (some 1))).take (sIx (x.map Dat.int).length (x.map Dat.int).length none - sIx (x.map Dat.int).length 0 (some 1)),?_⟩
  simp only[slD,row,lsD]
  rw[yG (by simp;unfold lim;lia)]
  simp[List.map_take,List.map_drop]
 obtain ⟨y,e6⟩:=e6
 have e7:yr [Dat.tup (x.map .int),.non,.str [48],.int 1,row (x++[0]),row y]=.ok (.lst [Dat.tup (x.map .int),.non,.str [48],.int 1,row (x++[0]),row y]):=yG (by simp[lim])
 have gV:∀d∈[Dat.tup (x.map .int),.non,.str [48],.int 1,row (x++[0]),row y],zK 10 d=true/\(flat d=true\/∃z,d=row z):=by
  intro d hd
  simp only[List.mem_cons,List.not_mem_nil,or_false] at hd
  rcases hd with rfl | rfl | rfl | rfl | rfl | rfl
  .refine ⟨?_,.inl (by simp)⟩
   rw[ja,yI]
   refine List.all_eq_true.mpr fun z hz=>?_
   obtain ⟨w,_,rfl⟩:=List.mem_map.mp hz;simp
  .exact ⟨by simp,.inl (by simp)⟩
  .exact ⟨by simp,.inl (by simp)⟩
  .exact ⟨by simp,.inl (by simp)⟩
  .exact ⟨yi 8 _,.inr ⟨_,rfl⟩⟩
  .exact ⟨yi 8 _,.inr ⟨_,rfl⟩⟩
 obtain ⟨d,hd,hdV⟩:=zdB (cell:=cell) 3000 (m:=6) (V:=[Dat.tup (x.map .int),.non,.str [48],.int 1,row (x++[0]),row y]) rfl (by decide) (by decide) (fun d hd=>(gV d hd).1)
 have hd':yo (.lst [Dat.tup (x.map .int),.non,.str [48],.int 1,row (x++[0]),row y]) (.int (cell / 3000 % 6))=.ok d:=hd
 have good:zK 12 (.lst ((R.map row).set r d))=true:=by
  refine zQ fun z hz=>?_
  rcases xb hz with rfl | hz
  .exact vU 10 _ (gV _ hdV).1
  .obtain ⟨w,_,rfl⟩:=List.mem_map.mp hz;exact yi 9 w
 unfold yJ
 rw[zaR]
 simp only[zU,wl,zt,zq,yB,zdg,ze,yW,xU,zA,zb,za,ziB,zj,h1,e1,e2,e3,e4,e5,e6,e7,hd',ziA]
 unfold zc6
 rw[show xD (yL R cell r c s) 2=some (R.map row) from rfl]
 simp only[List.length_map,y0 h.hr]
 rcases (gV d hdV).2 with f | ⟨z,rfl⟩
 .have hg:∀e:Ex,xo lev e d 2 (yL R cell r c s) fl9=some (yL R cell r c s,fl9):=by
   intro e
   unfold xo
   rw[if_neg (by simp[zP]),if_pos (xl lev e d f)]
  rw[hg]
  exact ⟨_,rfl,good⟩
 .have hg:∀a b:Ex,2∈zm (.idx a b)->lvE lev (.idx a b) (row z)≠.full->xo lev (.idx a b) (row z) 2 (yL R cell r c s) fl9=none:=by
   intro a b hb hne
   unfold xo
   rw[if_neg (by simp[zP]),if_neg hne,if_pos hb]
  rw[hg _ _ (by simp) (by simp[row])]
  have hdep:dep (row z) < dep (.lst (R.map row)):=by
   simp[dep,row,ji,zdC h.n1]
  simp only[show zP fl9 2=true from rfl,hdep,decide_true,show flat (row z)=false from by simp[row],beq_self_eq_true,Bool.and_self,if_true]
  exact ⟨_,rfl,good⟩
theorem to11 {R:List (List Int)}{r c s:Nat}(h:TOdd R r c)(cell:Int):
  yJ lev cl (.asg 2 (.idx (.lst (.pair (.blt .tuple (.pair (.var 2) .unit)) (.pair (.lit .non) (.pair (.lit (.str [48])) (.pair (.lit (.int 1)) (.pair (.lst .unit) (.pair (.bin .add (.var 2) (.lst (.pair (.idx (.var 2) (.neg (.lit (.int 1)))) .unit))) (.pair (.slL (.var 2) (.lit (.int 1))) (.pair (.lst (.pair (.var 2) .unit)) .unit))))))))) (.bin .mod (.bin .fdiv (.var 1) (.lit (.int 3000))) (.lit (.int 8))))) (yL R cell r c s):=by
 have hn1:=h.n1
 have hn2:=h.n2
 have e1:zC .fdiv (.int cell) (.int 3000)=.ok (.int (cell / 3000)):=yQ _ _ (by decide) (by decide)
 have e2:zC .mod (.int (cell / 3000)) (.int 8)=.ok (.int (cell / 3000 % 8)):=yR _ _ (by decide)
 have e3:yT .tuple [tab R]=.ok (.tup (R.map row)):=rfl
 have e5:yo (tab R) (.int (-1))=.ok (row (R.getD (R.length - 1) [])):=jK (by rw[List.length_map,List.getElem?_map,List.getD_eq_getElem?_getD,List.getElem?_eq_getElem (by lia)];rfl)
 generalize R.getD (R.length - 1) []=z at e5
 have e6:yr [row z]=.ok (.lst [row z]):=rfl
 have e7:zC .add (tab R) (.lst [row z])=.ok (tab (R++[z])):=by
  simp only[zC,tab]
  rw[yG (by simp;unfold lim;lia)]
  simp
 have e8:∃Y:List (List Int),slD (tab R) (some 1) none=.ok (tab Y):=by
  refine ⟨(R.drop (sIx (R.map row).length 0 (some 1))).take (sIx (R.map row).length (R.map row).length none - sIx (R.map row).length 0 (some 1)),?_⟩
  simp only[slD,tab,lsD]
  rw[yG (by simp;unfold lim;lia)]
  simp[List.map_take,List.map_drop]
 obtain ⟨Y,e8⟩:=e8
 have e9:yr [tab R]=.ok (.lst [tab R]):=rfl
 have e0:yr []=.ok (.lst []):=rfl
 have eA:yr [Dat.tup (R.map row),.non,.str [48],.int 1,.lst [],tab (R++[z]),tab Y,.lst [tab R]]=.ok (.lst [Dat.tup (R.map row),.non,.str [48],.int 1,.lst [],tab (R++[z]),tab Y,.lst [tab R]]):=yG (by simp[lim])
 have gV:∀d∈[Dat.tup (R.map row),.non,.str [48],.int 1,.lst [],tab (R++[z]),tab Y,.lst [tab R]],zK 10 d=true:=by
  intro d hd
  simp only[List.mem_cons,List.not_mem_nil,or_false] at hd
  rcases hd with rfl | rfl | rfl | rfl | rfl | rfl | rfl | rfl
  .rw[ja,yI]
   refine List.all_eq_true.mpr fun z hz=>?_
   obtain ⟨w,_,rfl⟩:=List.mem_map.mp hz;exact yi 7 w
  .simp
  .simp
  .simp
  .simp
  .exact vv 7 _
  .exact vv 7 _
  .exact zQ fun z hz=>by rw[List.mem_singleton.mp hz];exact vv 6 _
 obtain ⟨d,hd,hdV⟩:=zdB (cell:=cell) 3000 (m:=8) (V:=[Dat.tup (R.map row),.non,.str [48],.int 1,.lst [],tab (R++[z]),tab Y,.lst [tab R]]) rfl (by decide) (by decide) gV
 have hd':yo (.lst [Dat.tup (R.map row),.non,.str [48],.int 1,.lst [],tab (R++[z]),tab Y,.lst [tab R]]) (.int (cell / 3000 % 8))=.ok d:=hd
 refine qi (d:=d) ?_ (vU 11 _ (vU 10 _ (gV d hdV)))
 simp only[zU,wl,zt,zq,yB,zdg,wm,ze,yW,xU,zA,zb,za,ziB,zj,e1,e2,e3,e5,e6,e7,e8,e9,e0,eA,hd']
theorem to12 {R:List (List Int)}{r c s:Nat}(h:TOdd R r c)(cell:Int):yJ lev cl (.asg 2 (.comp (.lrng (.bin .add (.var 9) (.lit (.int 1)))) (.rng (.lit (.int 0)) (.lit (.int 13)) (.lit (.int 1))) (.lit (.bl true)))) (yL R cell r c s):=by
 have hrng:wM (.int 0) (.int 13) (.int 1)=.ok (.tup (zL 0 1 13)):=by
  rw[xq (by unfold lim;lia)]
  rfl
 have hlim:13<=lim:=by unfold lim;lia
 refine qi (d:=.lst ((List.range 13).map fun (i:Nat)=>.lst (zL 0 1 (i+1)))) ?_ ?_
 .rw[wC]
  simp only[xF,ze,ziB,hrng,xV]
  refine je 0 1 13 (fun (i:Nat)=>.lst (zL 0 1 (i+1))) (fun i hi=>by simp) (fun i hi=>?_) hlim
  simp only[List.cons_append,List.nil_append,zaJ,zA,ze,zb,za,ziB,yw]
  rw[if_pos (by unfold lim;lia),show ((0:Int)+1 * (i:Int)+1).toNat=i+1 by lia,yG (by simp;unfold lim;lia)]
 .refine zQ fun y hy=>?_
  obtain ⟨i,_,rfl⟩:=List.mem_map.mp hy
  refine zQ fun z hz=>?_
  unfold zL at hz
  obtain ⟨j,_,rfl⟩:=List.mem_map.mp hz
  simp
theorem to13 {R:List (List Int)}{r c s:Nat}(cell:Int):yJ lev cl (.expr (.meth .reverse (.var 2) .unit)) (yL R cell r c s):=by
 unfold yJ
 rw[zaM]
 rw[show xD (yL R cell r c s) 2=some (R.map row) from rfl]
 refine ⟨.lst (R.map row).reverse,rfl,?_⟩
 refine zQ fun z hz=>?_
 rw[List.mem_reverse] at hz
 obtain ⟨v,_,rfl⟩:=List.mem_map.mp hz;exact yi 9 v
theorem to14 {R:List (List Int)}{r c s:Nat}(h:TOdd R r c)(cell:Int):∃rr,rr=exD lev cl (.asgS (.var 2) (.var 4) (.comp (.var 5) (.rng (.lit (.int 0)) (.bin .add (.var 4) (.lit (.int 1))) (.lit (.int 1))) (.lit (.bl true)))) (yL R cell r c s) fl9/\ze4 rr:=by
 refine ⟨_,rfl,?_⟩
 have hn2:=h.n2
 have hr:=h.hr
 have hrng:wM (.int 0) (.int ((r:Int)+1)) (.int 1)=.ok (.tup (zL 0 1 (r+1))):=by
  rw[xq (by unfold lim;lia)]
  simp only[x6,if_true,Int.sub_zero]
  rfl
 have hev:evD cl (.comp (.var 5) (.rng (.lit (.int 0)) (.bin .add (.var 4) (.lit (.int 1))) (.lit (.int 1))) (.lit (.bl true))) (yL R cell r c s)=.ok (row ((List.range (r+1)).map fun _=>(c:Int))):=by
  rw[wC]
  simp only[xF,zA,ze,zb,za,ziB,yw,hrng,xV]
  rw[je 0 1 (r+1) (fun _=>.int c) (fun i hi=>by simp) (fun i hi=>by simp) (by unfold lim;lia)]
  simp[row]
 rw[zaR,hev]
 simp only[zb,za,ziA]
 unfold zc6
 rw[show xD (yL R cell r c s) 2=some (R.map row) from rfl]
 simp only[List.length_map,y0 h.hr]
 have hlv:lvE lev (.comp (.var 5) (.rng (.lit (.int 0)) (.bin .add (.var 4) (.lit (.int 1))) (.lit (.int 1))) (.lit (.bl true))) (row ((List.range (r+1)).map fun _=>(c:Int)))=.full:=by
  unfold row
  rw[ki]
  simp only[wt,Bool.false_eq_true,if_false]
  rw[if_pos (jf _ _ fun i=>by simp)]
 have hg:xo lev (.comp (.var 5) (.rng (.lit (.int 0)) (.bin .add (.var 4) (.lit (.int 1))) (.lit (.int 1))) (.lit (.bl true))) (row ((List.range (r+1)).map fun _=>(c:Int))) 2 (yL R cell r c s) fl9=some (yL R cell r c s,fl9):=by
  unfold xo
  rw[if_neg (by simp[zP]),if_pos hlv]
 rw[hg]
 refine ⟨_,rfl,?_⟩
 refine zQ fun z hz=>?_
 rcases xb hz with rfl | hz
 .exact yi 9 _
 .obtain ⟨w,_,rfl⟩:=List.mem_map.mp hz;exact yi 9 w
noncomputable def toB:Sm:=(.ite (.cmp .lt (.var 6) (.lit (.int 4))) (.asgS (.idx (.var 2) (.var 4)) (.var 5) (.bin .add (.idx (.idx (.var 2) (.var 4)) (.var 5)) (.idx (.lst (.pair (.lit (.int 1)) (.pair (.neg (.lit (.int 1))) (.pair (.lit (.int 2)) (.pair (.neg (.lit (.int 2))) .unit))))) (.var 6)))) (.ite (.cmp .lt (.var 6) (.lit (.int 6))) (.asgS (.idx (.var 2) (.var 4)) (.var 5) (.bin .mod (.bin .fdiv (.var 1) (.lit (.int 3000))) (.var 3))) (.ite (.cmp .lt (.var 6) (.lit (.int 8))) (.seq (.asg 7 (.bin .mod (.bin .fdiv (.var 1) (.lit (.int 3000))) (.bin .add (.var 4) (.lit (.int 1))))) (.seq (.asg 8 (.idx (.var 2) (.var 4))) (.swapS (.var 8) (.var 5) (.var 8) (.var 7) (.idx (.var 8) (.var 7)) (.idx (.var 8) (.var 5))))) (.ite (.cmp .eq (.var 6) (.lit (.int 8))) (.seq (.asg 7 (.bin .mod (.bin .fdiv (.var 1) (.lit (.int 3000))) (.var 3))) (.swapS (.var 2) (.var 4) (.var 2) (.var 7) (.idx (.var 2) (.var 7)) (.idx (.var 2) (.var 4)))) (.ite (.cmp .eq (.var 6) (.lit (.int 9))) (.asgS (.idx (.var 2) (.var 4)) (.var 5) (.idx (.lst (.pair (.lit (.bl true)) (.pair (.lit (.bl false)) (.pair (.lit .non) (.pair (.lit (.str [49])) (.pair (.lst (.pair (.lit (.int 1)) .unit)) (.pair (.tup (.pair (.lit (.int 1)) .unit)) (.pair (.neg (.lit (.int 1))) (.pair (.var 3) (.pair (.bin .pow (.lit (.int 10)) (.lit (.int 29))) .unit)))))))))) (.bin .mod (.bin .fdiv (.var 1) (.lit (.int 3000))) (.lit (.int 9))))) (.ite (.cmp .eq (.var 6) (.lit (.int 10))) (.asgS (.var 2) (.var 4) (.idx (.lst (.pair (.blt .tuple (.pair (.idx (.var 2) (.var 4)) .unit)) (.pair (.lit .non) (.pair (.lit (.str [48])) (.pair (.lit (.int 1)) (.pair (.bin .add (.idx (.var 2) (.var 4)) (.lst (.pair (.lit (.int 0)) .unit))) (.pair (.slL (.idx (.var 2) (.var 4)) (.lit (.int 1))) .unit))))))) (.bin .mod (.bin .fdiv (.var 1) (.lit (.int 3000))) (.lit (.int 6))))) (.ite (.cmp .eq (.var 6) (.lit (.int 11))) (.asg 2 (.idx (.lst (.pair (.blt .tuple (.pair (.var 2) .unit)) (.pair (.lit .non) (.pair (.lit (.str [48])) (.pair (.lit (.int 1)) (.pair (.lst .unit) (.pair (.bin .add (.var 2) (.lst (.pair (.idx (.var 2) (.neg (.lit (.int 1)))) .unit))) (.pair (.slL (.var 2) (.lit (.int 1))) (.pair (.lst (.pair (.var 2) .unit)) .unit))))))))) (.bin .mod (.bin .fdiv (.var 1) (.lit (.int 3000))) (.lit (.int 8))))) (.ite (.cmp .eq (.var 6) (.lit (.int 12))) (.asg 2 (.comp (.lrng (.bin .add (.var 9) (.lit (.int 1)))) (.rng (.lit (.int 0)) (.lit (.int 13)) (.lit (.int 1))) (.lit (.bl true)))) (.ite (.cmp .eq (.var 6) (.lit (.int 13))) (.expr (.meth .reverse (.var 2) .unit)) (.ite (.cmp .eq (.var 6) (.lit (.int 14))) (.asgS (.var 2) (.var 4) (.comp (.var 5) (.rng (.lit (.int 0)) (.bin .add (.var 4) (.lit (.int 1))) (.lit (.int 1))) (.lit (.bl true)))) .skip))))))))))
noncomputable def zdE:Fn:=⟨2,9,(.seq (.asg 2 (.comp (.blt .list (.pair (.var 9) .unit)) (.var 0) (.lit (.bl true)))) (.seq (.asg 3 (.blt .len (.pair (.var 2) .unit))) (.seq (.asg 4 (.bin .mod (.bin .fdiv (.var 1) (.lit (.int 16))) (.var 3))) (.seq (.asg 5 (.bin .mod (.bin .fdiv (.var 1) (.lit (.int 200))) (.bin .add (.var 4) (.lit (.int 1))))) (.seq (.asg 6 (.bin .mod (.var 1) (.lit (.int 16)))) (.seq toB (.ret (.var 2))))))))⟩
theorem zgl {R:List (List Int)}{r c s:Nat}(h:TOdd R r c)(hs:s < 16)(cell:Int):yJ lev cl toB (yL R cell r c s):=by
 have lt:∀n:Int,evD cl (.cmp .lt (.var 6) (.lit (.int n))) (yL R cell r c s)=.ok (.bl (decide ((s:Int) < n))):=fun n=>by simp
 have eq:∀n:Int,evD cl (.cmp .eq (.var 6) (.lit (.int n))) (yL R cell r c s)=.ok (.bl (decide ((s:Int)=n))):=fun n=>by simp
 obtain ⟨rr,er,z14⟩:=to14 (lev:=lev) (cl:=cl) (s:=s) h cell
 unfold yJ toB
 by_cases q0:(s:Int) < 4
 .rw[x4 (by rw[lt,decide_eq_true q0])];exact to0 h cell (by lia)
 rw[x5 (by rw[lt,decide_eq_false q0])]
 by_cases q1:(s:Int) < 6
 .rw[x4 (by rw[lt,decide_eq_true q1])];exact to4 h cell
 rw[x5 (by rw[lt,decide_eq_false q1])]
 by_cases q2:(s:Int) < 8
 .rw[x4 (by rw[lt,decide_eq_true q2])];exact to6 h cell
 rw[x5 (by rw[lt,decide_eq_false q2])]
 by_cases q4:(s:Int)=8
 .rw[x4 (by rw[eq,decide_eq_true q4])];exact to8 h cell
 rw[x5 (by rw[eq,decide_eq_false q4])]
 by_cases q5:(s:Int)=9
 .rw[x4 (by rw[eq,decide_eq_true q5])];exact to9 h cell
 rw[x5 (by rw[eq,decide_eq_false q5])]
 by_cases q6:(s:Int)=10
 .rw[x4 (by rw[eq,decide_eq_true q6])];exact to10 h cell
 rw[x5 (by rw[eq,decide_eq_false q6])]
 by_cases q7:(s:Int)=11
 .rw[x4 (by rw[eq,decide_eq_true q7])];exact to11 h cell
 rw[x5 (by rw[eq,decide_eq_false q7])]
 by_cases q8:(s:Int)=12
 .rw[x4 (by rw[eq,decide_eq_true q8])];exact to12 h cell
 rw[x5 (by rw[eq,decide_eq_false q8])]
 by_cases q9:(s:Int)=13
 .rw[x4 (by rw[eq,decide_eq_true q9])];exact to13 cell
 rw[x5 (by rw[eq,decide_eq_false q9])]
 by_cases qA:(s:Int)=14
 .rw[x4 (by rw[eq,decide_eq_true qA])]
  rw[<- er];exact z14
 rw[x5 (by rw[eq,decide_eq_false qA]),yy]
 exact ⟨tab R,rfl,vv 9 R⟩
theorem zdF {R:List (List Int)}(t:TrF R)(cell:Int)(hlev:lev k=.no):∃d,zH lev cl k zdE [tab R,.int cell]=.ok d/\zK 12 d=true:=by
 have n1:=t.n1
 have n2:=t.n2
 obtain ⟨r,hr,er⟩:=vw (cell / 16) (show 0 < R.length from n1)
 obtain ⟨c,hc,ec⟩:=vw (cell / 200) (show 0 < r+1 by lia)
 obtain ⟨s,hs,es⟩:∃s:Nat,s < 16/\cell % 16=s:=⟨(cell % 16).toNat,by lia,by lia⟩
 have e1:zC .fdiv (.int cell) (.int 16)=.ok (.int (cell / 16)):=yQ _ _ (by decide) (by decide)
 have e2:zC .mod (.int (cell / 16)) (.int R.length)=.ok (.int r):=by rw[yR _ _ (by lia),er]
 have e3:zC .fdiv (.int cell) (.int 200)=.ok (.int (cell / 200)):=yQ _ _ (by decide) (by decide)
 have e4:zC .mod (.int (cell / 200)) (.int ((r:Int)+1))=.ok (.int c):=by
  rw[yR _ _ (by lia),<- ec]
  rfl
 have e5:zC .mod (.int cell) (.int 16)=.ok (.int s):=by rw[yR _ _ (by decide),es]
 have hl1:yT .len [tab R]=.ok (.int R.length):=by simp[tab]
 have hrl:∀x∈R,x.length<=100:=fun x hx=>by
  obtain ⟨i,hi,rfl⟩:=List.mem_iff_getElem.mp hx
  have:=t.rl i hi
  rw[List.getD_eq_getElem?_getD,List.getElem?_eq_getElem hi] at this
  simp only[Option.getD_some] at this
  lia
 have hcopy:=zdD (cl:=cl) (R:=R) (by lia) hrl [some (tab R),some (.int cell),none,none,none,none,none,none,none] 0 9 rfl (by simp)
 have main:ze4 (exD lev cl toB (yL R cell r c s) fl9):=zgl ⟨t,hr,by lia⟩ hs cell
 have pre:zH lev cl k zdE [tab R,.int cell]=zJ (lev k) ((exD lev cl toB (yL R cell r c s) fl9).then (exD lev cl (.ret (.var 2)))):=by
  unfold zH
  rw[if_pos (by rfl)]
  show zJ (lev k) (exD lev cl (.seq _ (.seq _ (.seq _ (.seq _ (.seq _ (.seq _ _)))))) [some (tab R),some (.int cell),none,none,none,none,none,none,none] [lvF (tab R),lvF (.int cell),.full,.full,.full,.full,.full,.full,.full])=_
  rw[show lvF (tab R)=.no from by simp[lvF,tab],show lvF (.int cell)=.full from by simp[lvF],zG]
  simp only[zw,hcopy,ziw]
  rw[xr (ze5 lev 0 9)]
  simp only[zh,List.set_cons_succ,List.set_cons_zero]
  rw[zG]
  simp only[zw,yB,zt,zq,zb,za,ziB,zj,hl1,ziw]
  rw[zF (by simp)]
  simp only[zh,List.set_cons_succ,List.set_cons_zero]
  rw[zG]
  simp only[zw,zA,zb,za,ze,ziB,e1,e2,ziw]
  rw[zF (by simp)]
  simp only[zh,List.set_cons_succ,List.set_cons_zero]
  rw[zG]
  simp only[zw,zA,zb,za,ze,ziB,e3,yw,e4,ziw]
  rw[zF (by simp)]
  simp only[zh,List.set_cons_succ,List.set_cons_zero]
  rw[zG]
  simp only[zw,zA,zb,za,ze,ziB,e5,ziw]
  rw[zF (by simp)]
  simp only[zh,List.set_cons_succ,List.set_cons_zero]
  rw[xX]
 rw[pre]
 cases hx:exD lev cl toB (yL R cell r c s) fl9 with
 | next de' lv' =>
  rw[hx] at main
  obtain ⟨d,h1,h2⟩:=main
  refine ⟨d,?_,h2⟩
  rw[zh,xW,zdf cl de' 2 d h1]
  simp[zJ,hlev,zbv]
 | _=>rw[hx] at main;exact absurd main (by simp[ze4])
end
end Lib
namespace Lib
section
variable {lev:Nat->Lv}{cl:Nat->List Dat->Rd}{k:Nat}
noncomputable def gs (kw:Nat):Fn:=⟨2,2,(.ret (.and (.call kw (.pair (.var 0) .unit)) (.chain .le .le (.lit (.int 1)) (.var 0) (.var 1))))⟩
theorem zae {kw:Nat}(hw:∀d,cl kw [d]=.ok (.bl (isInt d)))(n m:Int):zH lev cl k (gs kw) [.int n,.int m]=.ok (.bl (decide (1<=n/\n<=m))):=by
 by_cases h:1<=n <;> simp[zH,gs,zT,zY,zJ,lvR,hw,isInt,h]
noncomputable def zaf (ks:Nat):Fn:=⟨1,1,(.ret (.call ks (.pair (.var 0) (.pair (.lit (.int 12)) .unit))))⟩
theorem zbT {ks:Nat}{n:Int}{b:Bool}(hs:cl ks [.int n,.int 12]=.ok (.bl b)):zH lev cl k (zaf ks) [.int n]=.ok (.bl b):=by
 simp[zH,zaf,zT,zY,zJ,lvR,hs]
end
end Lib
namespace Lib
section
variable {lev:Nat->Lv}{cl:Nat->List Dat->Rd}{k:Nat}
noncomputable def fY (kc kf ks:Nat):Fn:=⟨1,2,(.seq (.ite (.not (.call kc (.pair (.var 0) .unit))) (.ret (.tup (.pair (.lit .non) .unit))) .skip) (.seq (.asg 1 (.call kf (.pair (.var 0) .unit))) (.seq (.ite (.cmp .notN (.var 1) (.lit .non)) (.ret (.tup (.pair (.var 1) .unit))) .skip) (.seq (.expr (.call ks (.pair (.var 0) .unit))) (.ret (.tup .unit))))))⟩
noncomputable def yS:Dat:=.str [115,116,97,116,101]
noncomputable def zN:Dat:=.str [102,97,117,108,116]
noncomputable def zdG (kx:Nat):Fn:=⟨1,3,(.seq (.asg 1 (.tup (.pair (.lit (.str [115,116,97,116,101])) .unit))) (.seq (.asg 2 (.call kx (.pair (.var 0) .unit))) (.ite (.cmp .eq (.blt .len (.pair (.var 2) .unit)) (.lit (.int 0))) (.ret (.var 1)) (.ret (.tup (.pair (.lit (.str [102,97,117,108,116])) (.pair (.idx (.var 2) (.lit (.int 0))) .unit)))))))⟩
noncomputable def zaT (f:Dat):Dat:=match f with
 | .non=>.tup []
 | f=>.tup [f]
noncomputable def zdH (ss:List Dat):Dat:=match ss with
 | []=>.tup [yS]
 | s::_=>.tup [zN,s]
theorem jj {a:Ex}{de:DEn}{xs:List Dat}(h:evD cl a de=.ok (.tup xs))(hl:xs.length<=1000):evD cl (.tup a) de=.ok (.tup xs):=by
 have hl':xs.length<=lim:=by unfold lim;lia
 rw[zde,h]
 show (if xs.length<=lim then Rd.ok (.tup xs) else .no)=_
 rw[if_pos hl']
theorem zdI {kc kf ks:Nat}{d:Dat}(hc:cl kc [d]=.ok (.bl false)):zH lev cl k (fY kc kf ks) [d]=.ok (.tup [.non]):=by
 unfold zH
 rw[if_pos (by rfl)]
 show zJ (lev k) (exD lev cl (.seq _ (.seq _ (.seq _ (.seq _ _)))) [some d,none] [lvF d,.full])=_
 rw[zG]
 simp[hc,zJ,lim]
theorem zhK {kc kf ks:Nat}{d f:Dat}(hc:cl kc [d]=.ok (.bl true))(hf:cl kf [d]=.ok f)(ff:flat f=true)(hs:∃z,cl ks [d]=.ok z):zH lev cl k (fY kc kf ks) [d]=.ok (zaT f):=by
 obtain ⟨z,hs⟩:=hs
 unfold zH
 rw[if_pos (by rfl)]
 show zJ (lev k) (exD lev cl (.seq _ (.seq _ (.seq _ (.seq _ _)))) [some d,none] [lvF d,.full])=_
 rw[zG]
 simp only[yq,gh,zX,zt,zq,za,ziB,zj,hc,Bool.not_true,ziw,yy,zh]
 rw[zG]
 simp only[zw,zX,zt,zq,za,ziB,zj,hf,ziw]
 rw[zF ff]
 simp only[zh,List.set_cons_succ,List.set_cons_zero]
 rw[zG]
 simp only[yq,yu,yW,za,zb,ziB]
 cases f with
 | non =>
  simp only[show y9 .notN .non .non=.ok (.bl false) from rfl,ziw,yy,zh]
  rw[xX]
  have he:exD lev cl (.expr (.call ks (.pair (.var 0) .unit))) [some d,some .non] [lvF d,.full]=.next [some d,some .non] [lvF d,.full]:=by
   show ((evD cl (.call ks (.pair (.var 0) .unit)) [some d,some .non]).bindS fun _=>Rsd.next _ _)=_
   simp only[zX,zt,zq,za,ziB,zj,hs,ziw]
  rw[he,zh]
  simp[zJ,zaT]
 | lst xs=>simp at ff
 | _=>simp[y9,zJ,lim,zaT] <;> simp_all
theorem gu {kx:Nat}{d:Dat}{ss:List Dat}(hx:cl kx [d]=.ok (.tup ss))(hs:ss=[]\/∃s,ss=[s]/\flat s=true):zH lev cl k (zdG kx) [d]=.ok (zdH ss):=by
 unfold zH
 rw[if_pos (by rfl)]
 show zJ (lev k) (exD lev cl (.seq _ (.seq _ _)) [some d,none,none] [lvF d,.full,.full])=_
 rw[zG]
 have e1:evD cl (.tup (.pair (.lit (.str [115,116,97,116,101])) .unit)) [some d,none,none]=.ok (.tup [yS]):=jj (xs:=[yS]) (by simp[yS]) (by simp)
 rw[zw,e1]
 simp only[ziw]
 rw[zF (by simp[yS])]
 simp only[zh,List.set_cons_succ,List.set_cons_zero]
 rw[gm]
 have fl:flat (.tup ss)=true:=by
  rcases hs with rfl | ⟨s,rfl,f⟩ <;> simp_all
 simp only[zw,zX,zt,zq,za,ziB,zj,hx,ziw]
 rw[zF fl]
 simp only[zh,List.set_cons_succ,List.set_cons_zero]
 rcases hs with rfl | ⟨s,rfl,f⟩
 .simp[zJ,yS,zdH]
 .have i0:yo (.tup [s]) (.int 0)=.ok s:=zaL (i:=0) rfl
  rw[yq]
  simp only[yu,yB,zt,zq,za,zb,ze,ziB,zj,zeL,List.length_cons,List.length_nil,zfd]
  rw[decide_eq_false (by decide)]
  have e2:evD cl (.tup (.pair (.lit (.str [102,97,117,108,116])) (.pair (.idx (.var 2) (.lit (.int 0))) .unit))) [some d,some (.tup [yS]),some (.tup [s])]=.ok (.tup [zN,s]):=jj (xs:=[zN,s]) (by simp[zN,i0]) (by simp)
  simp only[ziw,xW,e2]
  simp[zJ,zN,f,zdH]
theorem qj {d:Dat}(h:zK 12 d=true):y9 .eq d d=.ok (.bl true):=by
 show g0 (eqD d d)=_
 unfold eqD
 rw[show zK yD d=true from h,kY 12 d h]
 rfl
end
end Lib
end Vl
end Mini
namespace R28
open Mini
noncomputable def T:List Fn:=[f0,f1,f2,f3,f4,f5,f6,f7,f8,f9,f10,f11,f12,f13,f14,f15,f16,f17,f18,f19,f20,x0]
open Vl Vl.Lib
noncomputable def y4:Nat->Lv:=fun k=>if k=8 then .full else .no
noncomputable abbrev CD (d:Nat):=k7 y4 T d
theorem yx {d k:Nat}{f:Fn}(h:T[k]?=some f)(ds:List Dat):CD (d+1) k ds=zH y4 (CD d) k f ds:=by
 show k7 y4 T (d+1) k ds=_
 unfold k7
 rw[h]
theorem nt (k:Nat):y4 k≠.top:=by
 unfold y4
 split <;> exact fun h=>by cases h
theorem H0 (d:Nat)(x:Dat):CD (d+1) 0 [x]=.ok (.bl (isInt x)):=by rw[yx (f:=gj) rfl];exact jL x
theorem H15 (d:Nat)(x:Dat):CD (d+1) 15 [x]=.ok (.bl (isInt x)):=by rw[yx (f:=gj) rfl];exact jL x
theorem H1 (d:Nat)(n m:Int):CD (d+2) 1 [.int n,.int m]=.ok (.bl (decide (1<=n/\n<=m))):=by rw[yx (f:=gs 0) rfl];exact zae (H0 d) n m
theorem H2 (d:Nat)(n:Int):CD (d+3) 2 [.int n]=.ok (.bl (decide (1<=n/\n<=12))):=by rw[yx (f:=zaf 1) rfl];exact zbT (H1 d n 12)
theorem H3 (d:Nat)(x:Dat)(n:Int)(h:wu x=true)(hn:n<=100):CD (d+2) 3 [x,.int n]=.ok (.bl (nOk n x)):=by rw[yx (f:=qh 0) rfl];exact zbN (H0 d) x n h hn
theorem H4 (d:Nat)(x:Dat)(m n:Int)(h:wu x=true)(hm:m<=100):CD (d+3) 4 [x,.int m,.int n]=.ok (.bl (bOk n m x)):=by rw[yx (f:=zfe 3) rfl];exact zbP (H3 d) x m n h hm
theorem H5 (d:Nat)(x:Dat)(h:wfT x=true):CD (d+4) 5 [x]=.ok (.bl (yz x)):=by rw[yx (f:=zaP 2 4) rfl];exact zbQ (H2 d) (H4 d) x h
theorem H6 (d:Nat){R:List (List Int)}(h:TrF R)(i m:Nat)(hi:i < R.length)(hm:m<=i):CD (d+1) 6 [tab R,.int ((i:Int)+1),.int m]=.ok (.bl (bT R i m)):=by rw[yx (f:=zff) rfl];exact zbS h hi hm
theorem H7 (d:Nat){R:List (List Int)}(h:TrF R):∃f,CD (d+2) 7 [tab R]=.ok f/\FaultT R f/\(f=.non\/∃p q:Int,f=.tup [.int p,.int q]):=by rw[yx (f:=zab 6) rfl];exact zac h (H6 d h)
theorem H8 (d:Nat){n:Nat}(hn:n<=100)(x:List Int):CD (d+1) 8 [row x,.int n]=.ok (row (marks n x)):=by rw[yx (f:=zdx) rfl];exact zbJ x hn (nt _)
theorem H9 (d:Nat){X:List (List Int)}(hn:X.length<=100):CD (d+2) 9 [tab X]=.ok (tab (sg X)):=by rw[yx (f:=zhH 8) rfl];exact zeV hn (H8 d hn) rfl (nt _)
theorem H21n (d:Nat)(x:Dat)(h:wfT x=true)(ht:yz x=false):CD (d+5) 21 [x]=.ok (.tup [.non]):=by
 rw[yx (f:=fY 5 7 9) rfl]
 exact zdI (by rw[H5 d x h,ht])
theorem H21 (d:Nat){R:List (List Int)}(h:TrF R)(ht:yz (tab R)=true):∃f,CD (d+5) 21 [tab R]=.ok (zaT f)/\FaultT R f/\(f=.non\/∃p q:Int,f=.tup [.int p,.int q]):=by
 obtain ⟨f,e,a,b⟩:=H7 (d+2) h
 refine ⟨f,?_,a,b⟩
 rw[yx (f:=fY 5 7 9) rfl]
 have n2:=h.n2
 exact zhK (by rw[H5 d _ (zgj R),ht]) e (by rcases b with rfl | ⟨p,q,rfl⟩ <;> simp) ⟨_,H9 (d+2) (by lia)⟩
theorem H19n (d:Nat)(x:Dat)(h:wfT x=true)(ht:yz x=false):CD (d+6) 19 [x]=.ok (.tup [zN,.non]):=by
 rw[yx (f:=zdG 21) rfl]
 exact gu (H21n d x h ht) (.inr ⟨_,rfl,by simp⟩)
theorem H19 (d:Nat){R:List (List Int)}(h:TrF R)(ht:yz (tab R)=true):∃f,CD (d+6) 19 [tab R]=.ok (match f with | .non=>.tup [yS] | f=>.tup [zN,f])/\FaultT R f/\(f=.non\/∃p q:Int,f=.tup [.int p,.int q]):=by
 obtain ⟨f,e,a,b⟩:=H21 d h ht
 refine ⟨f,?_,a,b⟩
 rw[yx (f:=zdG 21) rfl]
 rcases b with rfl | ⟨p,q,rfl⟩
 .exact gu e (.inl rfl)
 .exact gu e (.inr ⟨_,rfl,by simp⟩)
theorem H10 (d:Nat)(ns:List Int)(i:Nat):∃c:Int,CD (d+1) 11 [.scr ns,.int i]=.ok (.int c):=by rw[yx (f:=zaO) rfl];exact zdq ns i
theorem H11 (d:Nat)(c j:Int)(h:0<=j)(h':j<=100000):∃v:Int,CD (d+1) 12 [.int c,.int j]=.ok (.int v):=by rw[yx (f:=zgh) rfl];exact zeO c j h h'
theorem H12 (d:Nat)(c:Int):∃n:Nat,1<=n/\n<=12/\CD (d+1) 13 [.int c]=.ok (.int n):=by rw[yx (f:=kr) rfl];exact qX c
theorem H13 (d:Nat){n:Nat}(hn:1<=n)(hn':n<=12)(cell:Int):∃X,Tri n X/\CD (d+2) 14 [.int n,.int cell]=.ok (tab X):=by
 rw[yx (f:=zhG 12) rfl]
 obtain ⟨L,h1,h2,e⟩:=zeS (lev:=y4) (k:=14) (H11 d) hn (by lia) cell (.inl rfl)
 exact ⟨L.reverse,Tri.of hn h2 h1,e⟩
theorem H16 (d:Nat){R:List (List Int)}(t:TrF R)(cell:Int):∃y,CD (d+1) 16 [tab R,.int cell]=.ok y/\zK 12 y=true:=by rw[yx (f:=zdE) rfl];exact zdF t cell rfl
theorem H17 (d:Nat)(x:Dat)(h:wfT x=true):CD (d+2) 17 [x]=.ok (.bl (yz x)):=by rw[yx (f:=vT 15) rfl];exact zbR (H15 d) x h
theorem H18 (d:Nat){R:List (List Int)}(t:TrF R):∃f,CD (d+1) 18 [tab R]=.ok f/\FaultT R f:=by rw[yx (f:=zgk) rfl];exact ze1 t
def gv (r:Rsd):Prop:=∃l,r=.ret (.bl true) l
theorem gw {cl:Nat->List Dat->Rd}{i:Nat}{e:Ex}{d:Dat}{X:Sm}{de:DEn}{lv:List Lv}(h:evD cl e de=.ok d)(hv:zI (.asg i e) X=none)(k:∀lv',gv (exD y4 cl X (de.set i (some d)) lv')):gv (exD y4 cl (.seq (.asg i e) X) de lv):=by
 rw[zD y4 cl de lv hv,zw,h]
 obtain ⟨lv',e'⟩:=ku (lev:=y4) (i:=i) (e:=e) (d:=d) (de:=de) (lv:=lv)
 simp only[ziw,e',zh]
 exact k lv'
theorem zdJ (c:Ex)(a b X:Sm):zI (.ite c a b) X=none:=by
 first | rfl | (unfold zI;split <;> rfl)
theorem zgm {cl:Nat->List Dat->Rd}{c:Ex}{a X:Sm}{de:DEn}{lv:List Lv}(h:evD cl c de=.ok (.bl false))(k:gv (exD y4 cl X de lv)):gv (exD y4 cl (.seq (.ite c a .skip) X) de lv):=by
 rw[zD y4 cl de lv (zdJ _ _ _ _),x5 h,yy,zh];exact k
theorem zdK {cl:Nat->List Dat->Rd}{c:Ex}{a X:Sm}{de de':DEn}{lv lv':List Lv}(h:evD cl c de=.ok (.bl true))(ha:exD y4 cl a de lv=.next de' lv')(k:gv (exD y4 cl X de' lv')):gv (exD y4 cl (.seq (.ite c a .skip) X) de lv):=by
 rw[zD y4 cl de lv (zdJ _ _ _ _),x4 h,ha,zh];exact k
theorem zgn {cl:Nat->List Dat->Rd}{e:Ex}{de:DEn}{lv:List Lv}(h:evD cl e de=.ok (.bl true)):gv (exD y4 cl (.ret e) de lv):=by
 rw[xW,h];exact ⟨_,rfl⟩
theorem fin {cl:Nat->List Dat->Rd}{a b y due:Dat}(hr:cl 19 [y]=.ok due)(hd:zK 12 due=true)(hy:zK 12 y=true){lv:List Lv}:gv (exD y4 cl (.ret (.and (.cmp .eq (.call 19 (.pair (.var 2) .unit)) (.var 4)) (.and (.cmp .eq (.call 19 (.pair (.var 2) .unit)) (.var 4)) (.cmp .eq (.var 2) (.var 3))))) [some a,some b,some y,some y,some due] lv):=by
 refine zgn ?_
 simp only[vQ,yu,zX,zt,zq,za,zb,ziB,zj,hr,qj hd,qj hy]
set_option tactic.hygienic true in
theorem zdL (ns:List Int):CD 7 20 [.scr ns]=.ok (.bl true):=by
 rw[yx (d:=6) (f:=f20) rfl]
 obtain ⟨c0,h80⟩:=H10 5 ns 0
 obtain ⟨c1,h81⟩:=H10 5 ns 1
 obtain ⟨c2,h82⟩:=H10 5 ns 2
 obtain ⟨n,hn1,hn2,h10⟩:=H12 5 c0
 obtain ⟨X,hX,h11⟩:=H13 4 hn1 hn2 c1
 have hXl:=hX.len
 have tX:TrF X:=⟨by lia,by lia,fun j hj=>hX.rlen j (by lia)⟩
 obtain ⟨y,h15,hy⟩:=H16 5 tX c2
 have hwf:=zhJ hy
 have h80':CD 6 11 [.scr ns,.int 0]=.ok (.int c0):=h80
 have h81':CD 6 11 [.scr ns,.int 1]=.ok (.int c1):=h81
 have h82':CD 6 11 [.scr ns,.int 2]=.ok (.int c2):=h82
 suffices hs:gv (exD y4 (CD 6) f20.body [some (.scr ns),none,none,none,none] [lvF (.scr ns),.full,.full,.full,.full]) by
  obtain ⟨l,hs⟩:=hs
  unfold zH
  rw[if_pos (by rfl)]
  show zJ _ (exD y4 (CD 6) f20.body [some (.scr ns),none,none,none,none] [lvF (.scr ns),.full,.full,.full,.full])=_
  rw[hs]
  simp[zJ]
 unfold f20
 refine gw (d:=.int n) (by simp only[zX,zt,zq,za,ze,ziB,zj,h80',h10]) rfl fun l1=>?_
 refine gw (d:=y) (by simp only[List.set_cons_succ,List.set_cons_zero,zX,zt,zq,za,zb,ze,ziB,zj,h81',h82',h11,h15]) rfl fun l2=>?_
 refine gw (d:=y) (by simp only[List.set_cons_succ,List.set_cons_zero,zX,zt,zq,za,zb,ze,ziB,zj,h81',h82',h11,h15]) rfl fun l3=>?_
 refine gw (d:=.tup [zN,.non]) (jj (xs:=[zN,.non]) (by simp[zN]) (by simp)) rfl fun l4=>?_
 simp only[List.set_cons_succ,List.set_cons_zero]
 have h17:=H17 4 y hwf
 cases hty:yz y with
 | false =>
  refine zgm (by simp only[zX,zt,zq,za,zb,ziB,zj,h17,hty]) ?_
  exact fin (H19n 0 y hwf hty) (by simp[zN]) hy
 | true =>
  obtain ⟨R,rfl,tR⟩:=zeZ hty
  obtain ⟨g,h18,hg⟩:=H18 5 tR
  obtain ⟨f,h19,hf,shape⟩:=H19 0 tR hty
  obtain rfl:=FaultT.one hf hg
  have hc:evD (CD 6) (.call 17 (.pair (.var 2) .unit)) [some (.scr ns),some (.int n),some (tab R),some (tab R),some (.tup [zN,.non])]=.ok (.bl true):=by
   simp only[zX,zt,zq,za,zb,ziB,zj,h17,hty]
  have ha:∃l5,exD y4 (CD 6) (.asg 4 (.tup (.pair (.lit (.str [102,97,117,108,116])) (.pair (.call 18 (.pair (.var 2) .unit)) .unit)))) [some (.scr ns),some (.int n),some (tab R),some (tab R),some (.tup [zN,.non])] l4=.next [some (.scr ns),some (.int n),some (tab R),some (tab R),some (.tup [zN,f])] l5:=by
   have e:evD (CD 6) (.tup (.pair (.lit (.str [102,97,117,108,116])) (.pair (.call 18 (.pair (.var 2) .unit)) .unit))) [some (.scr ns),some (.int n),some (tab R),some (tab R),some (.tup [zN,.non])]=.ok (.tup [zN,f]):=jj (xs:=[zN,f]) (by simp only[zt,xU,zX,zq,za,zb,ziB,zj,h18];rfl) (by simp)
   obtain ⟨lv',e'⟩:=ku (lev:=y4) (i:=4) (e:=.tup (.pair (.lit (.str [102,97,117,108,116])) (.pair (.call 18 (.pair (.var 2) .unit)) .unit))) (d:=.tup [zN,f]) (de:=[some (.scr ns),some (.int n),some (tab R),some (tab R),some (.tup [zN,.non])]) (lv:=l4)
   refine ⟨lv',?_⟩
   rw[zw,e]
   simp only[ziw,e',List.set_cons_succ,List.set_cons_zero]
  obtain ⟨l5,ha⟩:=ha
  have i1:yo (.tup [zN,f]) (.int 1)=.ok f:=zaL (i:=1) rfl
  rcases shape with rfl | ⟨p,q,rfl⟩
  .have e:evD (CD 6) (.tup (.pair (.lit (.str [115,116,97,116,101])) .unit)) [some (.scr ns),some (.int n),some (tab R),some (tab R),some (.tup [zN,.non])]=.ok (.tup [yS]):=jj (xs:=[yS]) (by simp[yS]) (by simp)
   obtain ⟨lv',e'⟩:=ku (lev:=y4) (i:=4) (e:=.tup (.pair (.lit (.str [115,116,97,116,101])) .unit)) (d:=.tup [yS]) (de:=[some (.scr ns),some (.int n),some (tab R),some (tab R),some (.tup [zN,.non])]) (lv:=l5)
   refine zdK hc (de':=[some (.scr ns),some (.int n),some (tab R),some (tab R),some (.tup [yS])]) (lv':=lv') ?_ (fin h19 (by simp[yS]) hy)
   rw[gm,ha,zh]
   rw[x4 (by simp only[yu,zU,za,zb,ze,yW,ziB,i1];rfl),zw,e]
   simp only[ziw,e',List.set_cons_succ,List.set_cons_zero]
  .refine zdK hc (de':=[some (.scr ns),some (.int n),some (tab R),some (tab R),some (.tup [zN,.tup [.int p,.int q]])]) (lv':=l5) ?_ (fin h19 (by simp[zN]) hy)
   rw[gm,ha,zh]
   rw[x5 (by simp only[yu,zU,za,zb,ze,yW,ziB,i1];rfl),yy]
theorem pure (ns:List Int)(_:ns.length<=63):∃m,yt (D.map (·.fn)++[xd0.fn]) 7 20 [.rol (ns.map Wd.int)] []=.ok (.bl true) m:=zeK y4 T 7 20 ns (zdL ns)
end R28
open PySem PySem.W PyProof.Rows
set_option maxRecDepth 100000 in
theorem PySem.Challenge.cw_loopgyre_k28_no_triangles_holds : PySem.Challenge.rw_loopgyre_k28_no_triangles.Holds := by
 w_on;o_law;z_head;(case hw=>w_witness2)
 k_fill
 refine Mini.zhi (fun _=>rfl) ?_
 refine Mini.zhh (l:=PySem.Challenge.rw_loopgyre_k28_no_triangles) (D:=R28.D) (xd:=R28.xd0) (C:=R28.C) (Q:=R28.Q) (xc := "NoState") (nn := "spot") (a0 := "self") (st:=R28.ist) (k:=7) (i:=20) (dl:=R28.d20) (x := "_law_script") (n:=63) rfl (by decide) rfl ⟨rfl,by decide,by decide⟩ (fun w h Y=>Y) rfl R28.zhj R28.okY R28.bnd R28.bx0 rfl rfl rfl ?F R28.pure
 case F =>
  intro w mg fa h KX G hmg
  refine' R28.mk KX G ?_ ?_ ?_ ?_ ?_ ?_ ?_ ?_ ?_ ?_ ?_ ?_ ?_ ?_ ?_ ?_ ?_ ?_ ?_ ?_ ?_ ?xqe0 ?xqz ?xqxG ?xqxg0 ?xqxo0 ?xqxo1 ?xqxE ?xqxM ?xqya ?xqyb ?xqyc ?xqyd ?xqye ?xqym ?xqyk ?xqyk0 ?xqyk1 ?xqi0
  all_goals try ((refine' R28.dk KX G ?g ?l ?c ?k);(case g=>k_is);(case l=>k_is);(case c=>k_is);(case k=>k_is))
  (case xqz=>refine R28.zk ?_ ?_ ?_ ?_ ?_ ?_ ?_ ?_ ?_ ?_ ?_ ?_ ?_ ?_ ?_ ?_ <;> k_is)
  (case xqe0=>k_is)
  (case xqxG=>k_is)
  (case xqxg0=>k_is)
  (case xqxo0=>k_is)
  (case xqxo1=>k_is)
  (case xqxE=>kernel_rfl)
  (case xqxM=>k_is)
  (case xqya=>k_is)
  (case xqyb=>k_is)
  (case xqyc=>k_is)
  (case xqyd=>k_is)
  (case xqye=>k_is)
  (case xqym=>k_is)
  (case xqyk=>kit_is)
  (case xqyk0=>kit_is)
  (case xqyk1=>kit_is)
  (case xqi0=>refine' R28.io ?i1 ?i2 ?i3 ?i4 ?i5 ?i6 ?i7 ?i8 ?i9 ?l ?c ?k;(case i2=>k_is);(case i1=>kernel_rfl);(case i3=>kernel_rfl);(case i4=>intro self;kernel_rfl);(case i5=>k_is);(case i6=>k_is);(case i7=>k_is);(case i8=>k_is);(case i9=>k_is);(case l=>k_is);(case c=>k_is);(case k=>k_is))
