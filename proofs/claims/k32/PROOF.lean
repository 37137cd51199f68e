import PyProof.Rows.All
import Wide.All
import OpenK.AllK
import Wide.FinOn
import Lean
import PyProof.EqAt
import PyProof.EqKinds
import PyProof.NeKinds
import PyProof.TupleCall
import OpenK.KOwn
import PyProof.WalkInts
import KE.KIsAll
import KE.RegKIsAll
import PyProof.ExcAttrAll.ValueError
import OpenK.KMake
import PyProof.ExcInit
import PySem.Challenge.RW_loopgyre_k32_squares_turned
set_option Elab.async false
set_option linter.all false
set_option maxRecDepth 100000
set_option genSizeOf false
set_option maxHeartbeats 0
set_option tactic.hygienic false
set_option bootstrap.genMatcherCode false
set_option compiler.extract_closed false
set_option backward.eqns.nonrecursive false
set_option backward.eqns.deepRecursiveSplit false
noncomputable section
theorem cps {G:Prop}(h:∀P:Prop,(G->P)->P):G:=h G id
namespace L2
open PySem PySem.Spec PyProof.Rows
noncomputable abbrev Key:=Sum Int Str
noncomputable def zeN:Key->Value->Bool
 | .inl k,v=>Value.isInt k v
 | .inr x,v=>Value.isStrOf x v
noncomputable def keyH (w:World):Key->Int
 | .inl k=>hashInt k
 | .inr x=>hashStr w x
theorem ya:∀ {k:Key}{v:Value},zeN k v=true->(∃i t,k=Sum.inl i/\v=Value.int i t)\/(∃x t,k=Sum.inr x/\v=Value.str x t)
 | .inl i,v,h=>by
  obtain ⟨t,e⟩:=Value.isInt_shape (k:=i) (v:=v) h
  exact .inl ⟨i,t,rfl,e⟩
 | .inr x,v,h=>by
  obtain ⟨t,e⟩:=Value.isStrOf_shape (x:=x) (v:=v) h
  exact .inr ⟨x,t,rfl,e⟩
theorem ze8 (a b:Int):decide ((Sum.inl a:Key)=Sum.inl b)=(a == b):=by
 by_cases e:a=b
 .subst e;simp
 .have h:¬(Sum.inl a:Key)=Sum.inl b:=fun q=>e (Sum.inl.inj q)
  rw[decide_eq_false h]
  exact (beq_eq_false_iff_ne.mpr e).symm
theorem ze9 (a b:Str):decide ((Sum.inr a:Key)=Sum.inr b)=decide (a=b):=by
 by_cases e:a=b
 .subst e;simp
 .have h:¬(Sum.inr a:Key)=Sum.inr b:=fun q=>e (Sum.inr.inj q)
  rw[decide_eq_false h,decide_eq_false e]
theorem zfa (a:Int)(b:Str):decide ((Sum.inl a:Key)=Sum.inr b)=false:=decide_eq_false (fun q=>nomatch q)
theorem zfb (a:Str)(b:Int):decide ((Sum.inr a:Key)=Sum.inl b)=false:=decide_eq_false (fun q=>nomatch q)
noncomputable def qR (prog:Program)(w:World):PySem.KeyKind prog w Key where
 is:=zeN
 hash:=keyH w
 inj:=fun v a b ha hb=>by
  rcases ya ha with ⟨i,t,rfl,rfl⟩ | ⟨x,t,rfl,rfl⟩
  .rcases ya hb with ⟨j,u,rfl,e⟩ | ⟨y,u,rfl,e⟩
   .injection e with e1 _;rw[e1]
   .exact nomatch e
  .rcases ya hb with ⟨j,u,rfl,e⟩ | ⟨y,u,rfl,e⟩
   .exact nomatch e
   .injection e with e1 _;rw[e1]
 byValue:=fun k v h=>by
  rcases ya h with ⟨i,t,rfl,rfl⟩ | ⟨x,t,rfl,rfl⟩ <;> rfl
 pyHash:=fun hv h=>by
  rcases ya hv with ⟨i,t,rfl,rfl⟩ | ⟨x,t,rfl,rfl⟩
  .exact wpAny_pyHash_int h
  .exact wpAny_pyHash_str h
 eqBool:=fun hu hv h=>by
  rcases ya hu with ⟨i,t,rfl,rfl⟩ | ⟨x,t,rfl,rfl⟩
  .rcases ya hv with ⟨j,u,rfl,rfl⟩ | ⟨y,u,rfl,rfl⟩
   .rw[ze8] at h;exact wpAny_eqBool_int h
   .rw[zfa] at h;exact SeqAt.EqAt.int_str i t y u _ _ _ _ h
  .rcases ya hv with ⟨j,u,rfl,rfl⟩ | ⟨y,u,rfl,rfl⟩
   .rw[zfb] at h;exact SeqAt.EqAt.str_int x t j u _ _ _ _ h
   .rw[ze9] at h;exact wpAny_eqBool_str h
 «strs»:=fun k x t v h=>by
  rcases ya h with ⟨i,u,rfl,e⟩ | ⟨y,u,rfl,e⟩
  .exact nomatch e
  .injection e with e1 _
   subst e1
   cases v <;> rfl
set_option genInjectivity false in
inductive V where
 | non | bl (b:Bool) | int (i:Int) | str (x:Str) | byt (b:Array UInt8) | flt (b:UInt64) | ref (a:Addr) | ty (n:String)
 deriving DecidableEq
noncomputable def RelV:V->Value->Prop
 | .non,u=>u=Value.none
 | .bl b,u=>u=Value.bool b
 | .int i,u=>∃t,u=Value.int i t
 | .str x,u=>∃t,u=Value.str x t
 | .byt b,u=>∃t,u=Value.bytes b t
 | .flt b,u=>∃t,u=Value.float b t
 | .ref a,u=>u=Value.ref a
 | .ty n,u=>u=Value.type n
noncomputable abbrev Vals:List V->List Value->Prop:=Paired RelV
theorem Vals.length {xs:List V}{us:List Value}(r:Vals xs us):xs.length=us.length:=Paired.length r
theorem Vals.get:∀ {xs:List V}{us:List Value}{i:Nat}{x:V},Vals xs us->xs[i]?=some x->∃u,us[i]?=some u/\RelV x u
 | _,_,_,_,.nil,e=>by simp at e
 | _,_,0,_,.cons r _,e=>by simp at e;subst e;exact ⟨_,rfl,r⟩
 | _,_,i+1,x,.cons _ t,e=>by
  obtain ⟨u,h1,h2⟩:=Vals.get (i:=i) (x:=x) t (by simpa using e)
  exact ⟨u,by simpa using h1,h2⟩
theorem Vals.set {x:V}{u:Value}(r:RelV x u):∀ {xs:List V}{us:List Value}(i:Nat),Vals xs us->Vals (xs.set i x) (us.set i u)
 | _,_,_,.nil=>.nil
 | _,_,0,.cons _ t=>.cons r t
 | _,_,i+1,.cons q t=>.cons q (Vals.set r i t)
theorem Vals.append:∀ {xs ys:List V}{us ws:List Value},Vals xs us->Vals ys ws->Vals (xs++ys) (us++ws)
 | _,_,_,_,.nil,s=>s
 | _,_,_,_,.cons r t,s=>.cons r (Vals.append t s)
noncomputable def zfc:Option V->Option Value->Prop
 | some v,some u=>RelV v u
 | none,none=>True
 | _,_=>False
noncomputable def KV {κ:Type}:List (κ×V)->List (κ×Value)->Prop:=Paired fun (p:κ×V) (q:κ×Value)=>p.1=q.1/\RelV p.2 q.2
noncomputable def kV:Key->V
 | .inl i=>.int i
 | .inr x=>.str x
set_option genInjectivity false in
inductive HO where
 /-- a list -/
 | lst (xs:List V)
 /-- a tuple (never changes) -/
 | tup (xs:List V)
 /-- a dict whose keys are ints and texts;one whose keys are tuples of ints and texts (the empty one is both) -/
 | dK (kvs:List (Key×V)) | dT (kvs:List (List Key×V))
 /-- a set of ints: its members,its size -/
 | set (S:Int->Bool) (n:Nat)
 /-- an instance of the class at C,its dict at dx,its attributes -/
 | ins (C dx:Addr) (fs:List (Str×V))
 /-- the dict of the instance at x -/
 | own (x:Addr)
 /-- the dict of an exception -/
 | xd (fs:List (Str×V))
 /-- a bound method,f of x -/
 | met (f x:Addr)
 /-- a range object lo,lo+1,.. below hi -/
 | rng (lo hi:Int)
 /-- a thing that is known to the object (the script;a dict while a loop walks it): read,never written while it is so -/
 | frz (o:Obj) (u:HO)
 /-- a code object's table -/
 | tbl (ps:Array Value)
 /-- any other thing,by what is true of its one object (a def of one's own: SetO a S n:=HO.ext fun h=>..) -/
 | ext (φ:Heap->Prop)
noncomputable abbrev Hp:=Addr->Option HO
noncomputable def upd (H:Hp)(a:Addr)(o:HO):Hp:=fun b=>if b=a then some o else H b
theorem zp {H:Hp}{a:Addr}{o:HO}:upd H a o a=some o:=by unfold upd;rw[if_pos rfl]
theorem zo {H:Hp}{a b:Addr}{o:HO}(h:b≠a):upd H a o b=H b:=by unfold upd;rw[if_neg h]
theorem zC {H:Hp}{a b:Addr}{o:HO}(h:H a=some o)(h':H b=none):a≠b:=by
 intro e;subst e;rw[h] at h';cases h'
section
variable (P:Program)(w:World)
noncomputable def ObjOk (H:Hp)(h:Heap)(a:Addr):HO->Prop
 | .lst xs=>xs.length<=sizeLine/\∃ (its:List Value) (n:Nat),Vals xs its/\h.get? a=some { cls:=.type "list",data:=.seq its.toArray n }
 | .tup xs=>xs.length<=sizeLine/\∃its:List Value,Vals xs its/\IsTup h a its.toArray
 | .dK kvs=>kvs.length<=sizeLine/\(a == sysModules)=false/\∃vs,KV kvs vs/\h.DictOf (qR P w) a vs
 | .dT kvs=>kvs.length<=sizeLine/\(a == sysModules)=false/\∃xs:List (List Key×Addr×Value),
   Paired (fun (p:List Key×V) (q:List Key×Addr×Value)=>p.1=q.1/\H q.2.1=some (.tup (p.1.map kV))/\RelV p.2 q.2.2) kvs xs /\
   ∃o es ep,h.get? a=some o/\o.ExactDict/\o.data=.dict es ep/\es.toList=xs.map (entryOfKey (tupleKind (qR P w)))/\(xs.map (·.1)).Nodup
 | .set S n=>h.SetOf (intKind P w) a S n
 | .ins C dx fs=>H dx=some (.own a)/\fs.length<=1000/\dx≠a/\h.get? a=some (PySem.W.instObj C dx) /\
   ∃mA,h.Ns1 dx mA/\(∀f,zfc (fs.lookup f) (mA f))/\PySem.Within mA (fs.map (·.1))
 | .own _=>∃o,h.get? a=some o
 | .xd fs=>∃mA,h.Ns1 a mA/\∀f,zfc (fs.lookup f) (mA f)
 | .rng lo hi=>∃t u v,h.get? a=some { cls:=.type "range",data:=.fields #[.int lo t,.int hi u,.int 1 v] }
 | .frz o u=>h.get? a=some o/\ObjOk H h a u
 | .tbl ps=>h.get? a=some { cls:=.none,data:=.fields ps }
 | .met f x=>h.get? a=some (PySem.W.methodObj (.ref f) (.ref x))
 | .ext φ=>φ h/\(∃o,h.get? a=some o)/\∀h1 h2:Heap,φ h1->(∀o,h1.get? a=some o->h2.get? a=some o)->φ h2
noncomputable def HOk (H:Hp)(h:Heap):Prop:=∀a o,H a=some o->ObjOk P w H h a o
end
section
variable {P:Program}{w:World}{H H':Hp}{h h':Heap}{a:Addr}{o:HO}
theorem ObjOk.lt (x:ObjOk P w H h a o):a < h.objs.size:=by
 cases o with
 | lst xs=>obtain ⟨_,_,_,_,e⟩:=x;exact Heap.lt_size e
 | tup xs=>obtain ⟨_,_,_,p⟩:=x;exact p.lt
 | dK kvs=>obtain ⟨_,_,_,_,o,_,_,e,_⟩:=x;exact Heap.lt_size e
 | dT kvs=>obtain ⟨_,_,_,_,o,_,_,e,_⟩:=x;exact Heap.lt_size e
 | set S n=>obtain ⟨o,_,_,_,e,_⟩:=x;exact Heap.lt_size e
 | ins C dx fs=>obtain ⟨_,_,_,e,_⟩:=x;exact Heap.lt_size e
 | own y=>obtain ⟨_,e⟩:=x;exact Heap.lt_size e
 | xd fs=>obtain ⟨_,⟨_,_,_,e,_⟩,_⟩:=x;exact Heap.lt_size e
 | rng lo hi=>obtain ⟨_,_,_,e⟩:=x;exact Heap.lt_size e
 | frz ob u=>obtain ⟨e,_⟩:=x;exact Heap.lt_size e
 | tbl ps=>exact Heap.lt_size (show h.get? a=some _ from x)
 | met f y=>exact Heap.lt_size (show h.get? a=some _ from x)
 | ext φ=>obtain ⟨_,⟨_,e⟩,_⟩:=x;exact Heap.lt_size e
theorem zid {α β:Type}{F G:α->β->Prop}:∀ {l₁:List α}{l₂:List β},Paired F l₁ l₂->(∀a b,F a b->G a b)->Paired G l₁ l₂
 | _,_,.nil,_=>.nil
 | _,_,.cons r t,f=>.cons (f _ _ r) (zid t f)
theorem ObjOk.stay (x:ObjOk P w H h a o)(k:∀b u,(b=a\/H b=some (.own a))->h.get? b=some u->h'.get? b=some u)
  (ho:∀b,H b=some (.own a)->H' b=some (.own a)) (ht:∀b xs,H b=some (.tup xs)->H' b=some (.tup xs)):ObjOk P w H' h' a o:=by
 induction o with
 | lst xs=>obtain ⟨z,its,n,r,e⟩:=x;exact ⟨z,its,n,r,k _ _ (.inl rfl) e⟩
 | tup xs=>obtain ⟨z,its,r,ob,e,c⟩:=x;exact ⟨z,its,r,ob,k _ _ (.inl rfl) e,c⟩
 | dK kvs=>obtain ⟨z,y,vs,r,ob,es,ep,e,c⟩:=x;exact ⟨z,y,vs,r,ob,es,ep,k _ _ (.inl rfl) e,c⟩
 | dT kvs =>
  obtain ⟨z,y,xs,r,ob,es,ep,e,c⟩:=x
  exact ⟨z,y,xs,zid r fun p q z=>⟨z.1,ht _ _ z.2.1,z.2.2⟩,ob,es,ep,k _ _ (.inl rfl) e,c⟩
 | set S n=>obtain ⟨ob,es,ep,t,e,c⟩:=x;exact ⟨ob,es,ep,t,k _ _ (.inl rfl) e,c⟩
 | ins C dx fs =>
  obtain ⟨d,z,ne,e,mA,⟨od,es,ep,e2,c⟩,r⟩:=x
  exact ⟨ho _ d,z,ne,k _ _ (.inl rfl) e,mA,⟨od,es,ep,k _ _ (.inr d) e2,c⟩,r⟩
 | own y=>obtain ⟨ob,e⟩:=x;exact ⟨ob,k _ _ (.inl rfl) e⟩
 | xd fs=>obtain ⟨mA,⟨od,es,ep,e,c⟩,r⟩:=x;exact ⟨mA,⟨od,es,ep,k _ _ (.inl rfl) e,c⟩,r⟩
 | rng lo hi=>obtain ⟨t,u,v,e⟩:=x;exact ⟨t,u,v,k _ _ (.inl rfl) e⟩
 | frz ob u ih=>obtain ⟨e,q⟩:=x;exact ⟨k _ _ (.inl rfl) e,ih q⟩
 | tbl ps =>
  have e:h.get? a=some { cls:=.none,data:=.fields ps }:=x
  show h'.get? a=some { cls:=.none,data:=.fields ps }
  exact k a _ (.inl rfl) e
 | met f y =>
  have e:h.get? a=some (PySem.W.methodObj (.ref f) (.ref y)):=x
  show h'.get? a=some (PySem.W.methodObj (.ref f) (.ref y))
  exact k a _ (.inl rfl) e
 | ext φ=>obtain ⟨p,⟨o,e⟩,st⟩:=x;exact ⟨st _ _ p fun o q=>k _ _ (.inl rfl) q,⟨o,k _ _ (.inl rfl) e⟩,st⟩
theorem HOk.lt (x:HOk P w H h)(e:H a=some o):a < h.objs.size:=(x a o e).lt
theorem HOk.fresh (x:HOk P w H h)(e:h.objs.size<=a):H a=none:=by
 cases q:H a with
 | none=>rfl
 | some u=>exact absurd (Nat.lt_of_lt_of_le (x.lt q) e) (Nat.lt_irrefl _)
theorem HOk.kept (x:HOk P w H h)(k:∀b u,h.get? b=some u->h'.get? b=some u):HOk P w H h':=fun a o e =>
 (x a o e).stay (fun b u _ q=>k b u q) (fun _ q=>q) fun _ _ q=>q
theorem HOk.laid (x:HOk P w H h)(k:∀b u,h.get? b=some u->h'.get? b=some u)(hp:h.objs.size<=a)(new:ObjOk P w (upd H a o) h' a o):HOk P w (upd H a o) h':=fun b u e=>by
 have hn:=x.fresh hp
 by_cases hb:b=a
 .subst hb;rw[zp] at e;cases e;exact new
 .rw[zo hb] at e
  exact (x b u e).stay (fun c v _ q=>k c v q) (fun c q=>by rw[zo (zC q hn)];exact q) fun c xs q=>by rw[zo (zC q hn)];exact q
end
noncomputable def Rd (H:Hp)(a:Addr)(u:HO):Prop:=H a=some u\/∃o,H a=some (.frz o u)
theorem Rd.ok {P:Program}{w:World}{H:Hp}{h:Heap}{a:Addr}{u:HO}(r:Rd H a u)(x:HOk P w H h):ObjOk P w H h a u:=by
 rcases r with r | ⟨o,r⟩
 .exact x a u r
 .obtain ⟨_,q⟩:=x a _ r
  exact q
noncomputable def Mut:Option HO->Prop
 | some (.lst _)=>True
 | some (.dK _)=>True
 | some (.dT _)=>True
 | some (.set _ _)=>True
 | some (.ins _ _ _)=>True
 | some (.ext _)=>True
 | _=>False
section
variable {P:Program}{w:World}{H:Hp}{h h':Heap}{x e:Addr}{o':HO}
theorem HOk.write (ok:HOk P w H h)(mu:Mut (H x))(he:e=x\/H e=some (.own x))(k:∀b u,b≠e->h.get? b=some u->h'.get? b=some u)(heo:∃u,h'.get? e=some u)
  (new:ObjOk P w (upd H x o') h' x o'):HOk P w (upd H x o') h':=fun b u q=>by
 have nown:∀c y,H c=some (.own y)->c≠x:=fun c y r z=>by subst z;rw[r] at mu;exact mu
 have ntup:∀c xs,H c=some (.tup xs)->c≠x:=fun c xs r z=>by subst z;rw[r] at mu;exact mu
 by_cases hb:b=x
 .subst hb;rw[zp] at q;cases q;exact new
 .rw[zo hb] at q
  by_cases hbe:b=e
  .have q':H b=some (.own x):=by
    rcases he with z | z
    .exact absurd (hbe.trans z) hb
    .rw[hbe];exact z
   rw[q] at q';cases q'
   obtain ⟨v,hv⟩:=heo
   exact ⟨v,by rw[hbe];exact hv⟩
  .refine (ok b u q).stay (fun c v hc r=>k c v ?_ r) (fun c r=>by rw[zo (nown c b r)];exact r) fun c xs r=>by rw[zo (ntup c xs r)];exact r
   rcases hc with rfl | hc
   .exact hbe
   .rintro rfl
    rcases he with z | z
    .exact nown c b hc z
    .rw[hc] at z;cases z;exact hb rfl
end
structure Un (fs ex:List Addr)(H H':Hp)(h h':Heap):Prop where
 keep:∀b o,h.get? b=some o->H b=none->b∉fs->b∉ex->h'.get? b=some o
 slot:∀b o,h.get? b=some o->H b=none->b∈fs->b∉ex->∃sl,h'.get? b=some { o with slots:=sl }
 free:∀b o,h.get? b=some o->H b=none->b∉ex->H' b=none
 there:∀b o,h.get? b=some o->b∉ex->∃o',h'.get? b=some o'
 tups:∀b xs,H b=some (.tup xs)->H' b=some (.tup xs)
 frzs:∀b o u,H b=some (.frz o u)->H' b=some (.frz o u)
 tbls:∀b ps,H b=some (.tbl ps)->∃more,H' b=some (.tbl (ps++more))
section
variable {fs ex:List Addr}{H H1:Hp}{h h1 h':Heap}{a x e:Addr}{o:HO}
theorem Un.any (u:Un fs ex H H1 h h1){b:Addr}{ob:Obj}(q:h.get? b=some ob)(n:H b=none)(hx:b∉ex):∃sl,h1.get? b=some { ob with slots:=sl }:=by
 by_cases hb:b∈fs
 .exact u.slot b ob q n hb hx
 .exact ⟨ob.slots,u.keep b ob q n hb hx⟩
theorem Un.kept (k:∀b u,h.get? b=some u->h'.get? b=some u):Un fs ex H H h h' :=
 ⟨fun b ob q _ _ _=>k b ob q,fun b ob q _ _ _=>⟨ob.slots,k b ob q⟩,fun _ _ _ n _=>n,fun b ob q _=>⟨ob,k b ob q⟩,fun _ _ q=>q,fun _ _ _ q=>q,fun _ ps q=>⟨#[],by rw[q];simp⟩⟩
theorem Un.refl:Un fs ex H H h h:=Un.kept fun _ _ q=>q
theorem Un.laid (k:∀b u,h.get? b=some u->h'.get? b=some u)(hp:h.objs.size<=a)(hn:H a=none):Un fs ex H (upd H a o) h h' where
 keep:=fun b u q _ _ _=>k b u q
 slot:=fun b u q _ _ _=>⟨u.slots,k b u q⟩
 free:=fun b u q n _=>by rw[zo (Nat.ne_of_lt (Nat.lt_of_lt_of_le (Heap.lt_size q) hp))];exact n
 there:=fun b u q _=>⟨u,k b u q⟩
 tups:=fun b xs q=>by rw[zo (zC q hn)];exact q
 frzs:=fun b u xs q=>by rw[zo (zC q hn)];exact q
 tbls:=fun b ps q=>⟨#[],by rw[zo (zC q hn),q];simp⟩
theorem Un.write (mu:Mut (H x))(he:e=x\/H e=some (.own x))(k:∀b u,b≠e->h.get? b=some u->h'.get? b=some u)(heo:∃u,h'.get? e=some u):Un fs ex H (upd H x o) h h':=by
 have hx:∀b,H b=none->b≠x:=fun b n z=>by subst z;rw[n] at mu;exact mu
 have hb:∀b,H b=none->b≠e:=fun b n z=>by
  subst z
  rcases he with r | r
  .exact hx b n r
  .rw[n] at r;cases r
 have hm:∀b u,H b=some u->¬ Mut (some u)->b≠x:=fun b u q nm z=>by subst z;rw[q] at mu;exact nm mu
 refine ⟨fun b u q n _ _=>k b u (hb b n) q,fun b u q n _ _=>⟨u.slots,k b u (hb b n) q⟩,fun b u q n _=>by rw[zo (hx b n)];exact n,fun b u q _=>?_,
  fun b xs q=>by rw[zo (hm b _ q fun z=>z)];exact q,fun b u xs q=>by rw[zo (hm b _ q fun z=>z)];exact q,fun b ps q=>⟨#[],by rw[zo (hm b _ q fun z=>z),q];simp⟩⟩
 by_cases hbe:b=e
 .subst hbe;exact heo
 .exact ⟨u,k b u hbe q⟩
end
noncomputable def trk (h:Heap)(H:Hp):List Addr:=(List.range h.objs.size).filter fun a=>(H a).isSome
noncomputable def jm (h:Heap)(H:Hp):Heap:=PySem.W.hideAll h (trk h H)
theorem zaC (h:Heap)(H:Hp):(jm h H).objs.size=h.objs.size:=PySem.W.hideAll_size _ _
theorem zbp {h:Heap}{H:Hp}{b:Addr}{o:Obj}(e:h.get? b=some o)(n:H b=none):(jm h H).get? b=some o :=
 PySem.W.hideAll_get _ e fun hm=>by
  have q:(H b).isSome=true:=(List.mem_filter.mp hm).2
  rw[n] at q;simp at q
theorem zdo {h:Heap}{H:Hp}{b:Addr}{o:Obj}(e:(jm h H).get? b=some o):h.get? b=some o/\H b=none:=by
 have e':h.get? b=some o:=PySem.W.of_hideAll (trk h H) e
 refine ⟨e',?_⟩
 cases q:H b with
 | none=>rfl
 | some x =>
  have hm:b∈trk h H:=List.mem_filter.mpr ⟨List.mem_range.mpr (Heap.lt_size e'),by simp[q]⟩
  have z:(jm h H).get? b=none:=PySem.W.hideAll_none (trk h H) hm
  rw[z] at e;cases e
structure Mod (K:PySem.W.Frag)(mg:Str->Option Value)(base:Heap):Prop where
 kin:K.In base
 glob:base.Ns mainGlobals mg
 blt:∃mb,base.Ns builtinsNs mb/\∀x:Str,x ≠ "__name__" -> mb x=bootBuiltins x
 nolimit:base.NoLimit
set_option genInjectivity false in
structure Cx where
 prog:Program
 w:World
 K:PySem.W.Frag
 mg:Str->Option Value
 base:Heap
 A:Around
 N:List Str
 s₀:Shared
 H₀:Hp
 env:Env
 outer:List Env
 stack:List Env
 ex:List Addr
 fn:Str->Bool
 calm:Bool
 pn:List (Addr×Obj)
 xe:Value->Shared->Prop
noncomputable def frs (l:List Env):List Addr:=l.filterMap (·.frame)
noncomputable abbrev Cx.fs (X:Cx):List Addr:=frs X.outer
noncomputable def Vis (sc:Scope)(x:Str):Prop:=sc.names.lookup x=some .local\/sc.names.lookup x=some .cell\/sc.names.lookup x=some .free
noncomputable def Loc (sc:Scope)(x:Str):Prop:=sc.names.lookup x=some .local\/sc.names.lookup x=some .cell
noncomputable def zgq (env:Env)(h:Heap)(m:Str->Option Value)(x:Str)(u:Value):Prop :=
 (env.kindOf x=some .local/\m x=some u)\/((env.kindOf x=some .cell\/env.kindOf x=some .free)/\∃c,env.cells.lookup x=some c/\h.IsCell c (some u))
structure Cx.Ok (X:Cx):Prop where
 mod:Mod X.K X.mg X.base
 kind:X.env.scope.kind=.function
 glob:X.env.globals=mainGlobals
 blt:X.env.builtins=builtinsNs
 above:X.s₀.heap.objs.size<=X.env.locals
 inj:∀x y c,X.env.cells.lookup x=some c->X.env.cells.lookup y=some c->x=y
 has:∀x,(X.env.kindOf x=some .cell\/X.env.kindOf x=some .free)->∃c,X.env.cells.lookup x=some c
 cab:∀x c,X.fn x=true->X.env.cells.lookup x=some c->X.s₀.heap.objs.size<=c
 hd:X.calm=true->X.A.handled=none
 frames:X.A.frames=some X.stack
 stk:X.stack=X.outer\/(X.stack=X.env::X.outer/\X.env.frame=some X.env.locals)
 exf:∀b∈X.ex,b≠X.env.locals/\∀x c,X.env.cells.lookup x=some c->c≠b
 bs:∀b o,X.base.get? b=some o->X.s₀.heap.get? b=some o/\X.H₀ b=none
 bsz:X.base.objs.size<=X.s₀.heap.objs.size
 noex:∀b o,X.base.get? b=some o->b∉X.ex
 exfs:∀b∈X.ex,b∉X.fs
 funs:X.s₀.heap.FunFrames X.base X.outer
 frf:∀b∈X.fs,X.H₀ b=none
structure Inv (X:Cx)(pins:List (Addr×Obj))(σ:List (Option V))(H:Hp)(s:Shared):Prop where
 ok:X.Ok
 os:s.os=X.s₀.os
 bare:AllBare s.gens
 base:Un X.fs X.ex X.H₀ H X.s₀.heap s.heap
 loc:∃m,s.heap.Ns X.env.locals m/\∀ (i:Nat) (x:Str) (v:V),X.N[i]?=some x->σ[i]?=some (some v)->Vis X.env.scope x->∃u,RelV v u/\zgq X.env s.heap m x u
 cell:∀x c,X.env.cells.lookup x=some c->∃v,s.heap.IsCell c v
 free:H X.env.locals=none
 freeC:∀x c,X.env.cells.lookup x=some c->H c=none
 pin:∀p∈X.pn++pins,s.heap.get? p.1=some p.2/\H p.1=none/\p.1≠X.env.locals/\p.1∉X.fs/\∀v,p.2.data≠.cell v
 hok:HOk X.prog X.w H s.heap
 len:σ.length=X.N.length
section
variable {X:Cx}{pins:List (Addr×Obj)}{σ:List (Option V)}{H H':Hp}{s:Shared}{h':Heap}
theorem Cx.Ok.nofr (ok:X.Ok){b:Addr}{o:Obj}(e:X.base.get? b=some o):b∉X.fs:=fun hb=>by
 have:=(ok.funs.mem hb).1
 rw[e] at this;cases this
theorem Inv.bs (I:Inv X pins σ H s):∀b o,X.base.get? b=some o->s.heap.get? b=some o/\H b=none:=fun b o e =>
 ⟨I.base.keep b o (I.ok.bs b o e).1 (I.ok.bs b o e).2 (I.ok.nofr e) (I.ok.noex b o e),I.base.free b o (I.ok.bs b o e).1 (I.ok.bs b o e).2 (I.ok.noex b o e)⟩
theorem Inv.bk (I:Inv X pins σ H s):∀b o,X.base.get? b=some o->s.heap.get? b=some o:=fun b o e=>(I.bs b o e).1
theorem Inv.mod (I:Inv X pins σ H s):Mod X.K X.mg X.base:=I.ok.mod
theorem Inv.kIn (I:Inv X pins σ H s):X.K.In s.heap:=I.ok.mod.kin.keeps I.bk
theorem Inv.lt (I:Inv X pins σ H s):X.env.locals < s.heap.objs.size:=let ⟨_,hn,_⟩:=I.loc;hn.lt
theorem Inv.sz (I:Inv X pins σ H s):X.s₀.heap.objs.size<=s.heap.objs.size:=Nat.le_trans I.ok.above (Nat.le_of_lt I.lt)
theorem Inv.nofs (I:Inv X pins σ H s){a:Addr}(h:s.heap.objs.size<=a):a∉X.fs:=fun hb=>by
 obtain ⟨_,o,ho,_⟩:=I.ok.funs.mem hb
 exact absurd (Nat.lt_of_lt_of_le (Heap.lt_size ho) (Nat.le_trans I.sz h)) (Nat.lt_irrefl _)
theorem Inv.cne (I:Inv X pins σ H s):∀x c,X.env.cells.lookup x=some c->c≠X.env.locals:=fun x c e z=>by
 obtain ⟨v,o,ho,hd⟩:=I.cell x c e
 obtain ⟨m,⟨o',es,ep,ho',hd',_⟩,_⟩:=I.loc
 rw[z,ho'] at ho;cases ho;rw[hd'] at hd;cases hd
theorem Inv.funs (I:Inv X pins σ H s):s.heap.FunFrames X.base X.outer:=by
 have all:∀ (l:List Env),(∀b∈frs l,b∈X.fs)->X.s₀.heap.FunFrames X.base l->s.heap.FunFrames X.base l:=by
  intro l
  induction l with
  | nil=>intro _ _;trivial
  | cons env r ih =>
   intro hs hl
   refine cps fun zP zk=>?_
   obtain ⟨hk,⟨L,o,hf,hn,ho,hd⟩,hr⟩:=hl
   have hL:L∈X.fs:=hs L (by unfold frs;rw[List.filterMap_cons,hf];exact List.mem_cons_self)
   obtain ⟨sl,e⟩:=I.base.slot L o ho (I.ok.frf L hL) hL fun z=>I.ok.exfs L z hL
   refine zk ?_
   exact ⟨hk,⟨L,_,hf,hn,e,hd⟩,ih (fun b hb=>hs b (by unfold frs;rw[List.filterMap_cons,hf];exact List.mem_cons_of_mem _ hb)) hr⟩
 exact all X.outer (fun _ hb=>hb) I.ok.funs
theorem Inv.stack (I:Inv X pins σ H s):s.heap.FunFrames X.base X.stack:=by
 rcases I.ok.stk with e | ⟨e,hf⟩
 .rw[e];exact I.funs
 .rw[e]
  obtain ⟨m,hn,_⟩:=I.loc
  refine .cons (by rw[I.ok.kind];decide) hf hn ?_ I.funs
  exact Heap.get?_none_of_le (Nat.le_trans I.ok.bsz I.ok.above)
theorem Inv.stkSub (I:Inv X pins σ H s):∀b∈frs X.stack,b∈X.env.locals::X.fs:=fun b hb=>by
 rcases I.ok.stk with e | ⟨e,hf⟩
 .rw[e] at hb;exact List.mem_cons_of_mem _ hb
 .rw[e] at hb
  unfold frs at hb
  rw[List.filterMap_cons,hf] at hb
  exact hb
theorem Inv.stkFree (I:Inv X pins σ H s):∀b∈frs X.stack,H b=none:=fun b hb=>by
 rcases List.mem_cons.mp (I.stkSub b hb) with e | hb
 .rw[e];exact I.free
 .obtain ⟨_,o,ho,_⟩:=I.ok.funs.mem hb
  exact I.base.free b o ho (I.ok.frf b hb) fun z=>I.ok.exfs b z hb
theorem Inv.step {g':Array GenState}{t':Nat}{d':Drawn}{ch:List Addr}(I:Inv X pins σ H s)
  (hch:∀b∈ch,(b∈X.ex\/X.s₀.heap.objs.size<=b)/\b≠X.env.locals/\(∀x c,X.env.cells.lookup x=some c->c≠b)/\∀p∈X.pn++pins,p.1≠b)
  (keep:∀b o,b≠X.env.locals->b∉X.fs->b∉ch->s.heap.get? b=some o->H b=none->h'.get? b=some o)
  (slot:∀b o,b≠X.env.locals->b∈X.fs->b∉ch->s.heap.get? b=some o->H b=none->∃sl,h'.get? b=some { o with slots:=sl }) (free:∀b o,b∉ch->s.heap.get? b=some o->H b=none->H' b=none)
  (there:∀b o,b∉ch->s.heap.get? b=some o->∃o',h'.get? b=some o')
  (tups:∀b xs,H b=some (.tup xs)->H' b=some (.tup xs)) (frzs:∀b o u,H b=some (.frz o u)->H' b=some (.frz o u)) (tbls:∀b ps,H b=some (.tbl ps)->∃more,H' b=some (.tbl (ps++more)))
  (ns:∀m,s.heap.Ns X.env.locals m->h'.Ns X.env.locals m) (hok:HOk X.prog X.w H' h') (hg:AllBare g') :
  Inv X pins σ H' { s with heap:=h',gens:=g',drawn:=d',toks:=t' }:=by
 have neL:∀b o,X.s₀.heap.get? b=some o->b≠X.env.locals:=fun b o e=>Nat.ne_of_lt (Nat.lt_of_lt_of_le (Heap.lt_size e) I.ok.above)
 have neC:∀b o,X.s₀.heap.get? b=some o->b∉X.ex->b∉ch:=fun b o e hx hb=>by
  rcases (hch b hb).1 with z | z
  .exact hx z
  .exact absurd (Nat.lt_of_lt_of_le (Heap.lt_size e) z) (Nat.lt_irrefl _)
 have cellK:∀x c,X.env.cells.lookup x=some c->∀v,s.heap.IsCell c v->h'.IsCell c v:=fun x c e v ⟨o,ho,hd⟩=>by
  have nch:c∉ch:=fun z=>(hch c z).2.2.1 x c e rfl
  by_cases hc:c∈X.fs
  .obtain ⟨sl,q⟩:=slot c o (I.cne x c e) hc nch ho (I.freeC x c e)
   exact ⟨_,q,hd⟩
  .exact ⟨o,keep c o (I.cne x c e) hc nch ho (I.freeC x c e),hd⟩
 refine ⟨I.ok,I.os,hg,⟨fun b o e n hb hx=>?_,fun b o e n hb hx=>?_,fun b o e n hx=>?_,fun b o e hx=>?_,fun b xs e=>tups b xs (I.base.tups b xs e),fun b o xs e=>frzs b o xs (I.base.frzs b o xs e),fun b ps e=>?_⟩,?_,fun x c e=>?_,?_,fun x c e=>?_,fun p hp=>?_,hok,I.len⟩
 .exact keep b o (neL b o e) hb (neC b o e hx) (I.base.keep b o e n hb hx) (I.base.free b o e n hx)
 .obtain ⟨sl,e1⟩:=I.base.slot b o e n hb hx
  obtain ⟨sl',e2⟩:=slot b _ (neL b o e) hb (neC b o e hx) e1 (I.base.free b o e n hx)
  exact ⟨sl',e2⟩
 .obtain ⟨o',e1⟩:=I.base.there b o e hx
  exact free b o' (neC b o e hx) e1 (I.base.free b o e n hx)
 .obtain ⟨o',e1⟩:=I.base.there b o e hx
  exact there b o' (neC b o e hx) e1
 .obtain ⟨m1,e1⟩:=I.base.tbls b ps e
  obtain ⟨m2,e2⟩:=tbls b _ e1
  exact ⟨m1++m2,by rw[e2,Array.append_assoc]⟩
 .obtain ⟨m,hn,hl⟩:=I.loc
  refine ⟨m,ns m hn,fun i x v e1 e2 e3=>?_⟩
  obtain ⟨u,r,l⟩:=hl i x v e1 e2 e3
  refine ⟨u,r,?_⟩
  rcases l with l | ⟨k,c,e,z⟩
  .exact .inl l
  .exact .inr ⟨k,c,e,cellK x c e _ z⟩
 .obtain ⟨v,z⟩:=I.cell x c e
  exact ⟨v,cellK x c e v z⟩
 .obtain ⟨m,⟨o,_,_,ho,_⟩,_⟩:=I.loc
  exact free _ o (fun z=>(hch _ z).2.1 rfl) ho I.free
 .obtain ⟨v,o,ho,hd⟩:=I.cell x c e
  exact free c o (fun z=>(hch c z).2.2.1 x c e rfl) ho (I.freeC x c e)
 .obtain ⟨e,n,ne,nf,d⟩:=I.pin p hp
  have nch:p.1∉ch:=fun z=>(hch p.1 z).2.2.2 p hp rfl
  exact ⟨keep p.1 p.2 ne nf nch e n,free p.1 p.2 nch e n,ne,nf,d⟩
theorem Inv.un {t':Nat}(I:Inv X pins σ H s)(u:Un X.fs [] H H' s.heap h')(hok:HOk X.prog X.w H' h'):Inv X pins σ H' { s with heap:=h',toks:=t' }:=by
 obtain ⟨m,⟨o,es,ep,ho,r⟩,_⟩:=id I.loc
 obtain ⟨sl,hL⟩:=u.any ho I.free (by simp)
 exact I.step (g':=s.gens) (d':=s.drawn) (ch:=[]) (fun _ z=>nomatch z) (fun b o _ hb _ e n=>u.keep b o e n hb (by simp)) (fun b o _ hb _ e n=>u.slot b o e n hb (by simp)) (fun b o _ e n=>u.free b o e n (by simp)) (fun b o _ e=>u.there b o e (by simp)) u.tups u.frzs u.tbls (fun m' hm=>by
  obtain ⟨o',es',ep',ho',r'⟩:=hm
  rw[ho] at ho';cases ho'
  exact ⟨_,es',ep',hL,r'⟩) hok I.bare
theorem Inv.call {g':Array GenState}{t':Nat}{d':Drawn}{ch:List Addr}(I:Inv X pins σ H s)(u:Un (frs X.stack) ch H H' s.heap h')(hok:HOk X.prog X.w H' h')(hg:AllBare g')
  (hch:∀b∈ch,(b∈X.ex\/X.s₀.heap.objs.size<=b)/\b≠X.env.locals/\(∀x c,X.env.cells.lookup x=some c->c≠b)/\∀p∈X.pn++pins,p.1≠b) :
  Inv X pins σ H' { s with heap:=h',gens:=g',drawn:=d',toks:=t' }:=by
 obtain ⟨m,⟨o,es,ep,ho,r⟩,_⟩:=id I.loc
 obtain ⟨sl,hL⟩:=u.any ho I.free fun z=>(hch _ z).2.1 rfl
 exact I.step (ch:=ch) hch (fun b o hL hb hc e n=>u.keep b o e n (fun z=>(List.mem_cons.mp (I.stkSub b z)).elim hL hb) hc) (fun b o _ _ hc e n=>u.any e n hc) (fun b o hc e n=>u.free b o e n hc) (fun b o hc e=>u.there b o e hc) u.tups u.frzs u.tbls (fun m' hm=>by
  obtain ⟨o',es',ep',ho',r'⟩:=hm
  rw[ho] at ho';cases ho'
  exact ⟨_,es',ep',hL,r'⟩) hok hg
theorem Inv.turned {t':Nat}{it:Addr}(I:Inv X pins σ H s)(k:∀b o,b≠it->s.heap.get? b=some o->h'.get? b=some o)(hn:H it=none)(hL:it≠X.env.locals)
  (h1:it∈X.ex\/X.s₀.heap.objs.size<=it) (h2:∀x c,X.env.cells.lookup x=some c->c≠it) (h3:∀p∈X.pn++pins,p.1≠it):Inv X pins σ H { s with heap:=h',toks:=t' }:=by
 have nit:∀b u,H b=some u->b≠it:=fun b u e z=>by rw[z,hn] at e;cases e
 refine I.step (g':=s.gens) (d':=s.drawn) (ch:=[it]) (fun b hb=>?_) (fun b o _ _ hc e _=>k b o (fun z=>hc (by simp[z])) e) (fun b o _ _ hc e _=>⟨o.slots,k b o (fun z=>hc (by simp[z])) e⟩) (fun _ _ _ _ n=>n)
  (fun b o hc e=>⟨o,k b o (fun z=>hc (by simp[z])) e⟩) (fun _ _ e=>e) (fun _ _ _ e=>e) (fun b ps e=>⟨#[],by rw[e];simp⟩) (fun m hm=>?_) (fun b u e=>?_) I.bare
 .have e:b=it:=by simpa using hb
  subst e
  exact ⟨h1,hL,h2,h3⟩
 .obtain ⟨o,es,ep,ho,r⟩:=hm
  exact ⟨o,es,ep,k _ o (Ne.symm hL) ho,r⟩
 .refine (I.hok b u e).stay (fun c v hc q=>k c v ?_ q) (fun _ q=>q) fun _ _ q=>q
  rcases hc with z | z
  .rw[z];exact nit b u e
  .exact nit c _ z
theorem Inv.tok (I:Inv X pins σ H s)(t:Nat):Inv X pins σ H { s with toks:=t }:=I.un (h':=s.heap) (t':=t) Un.refl I.hok
theorem Inv.kept {t':Nat}(I:Inv X pins σ H s)(k:∀b u,s.heap.get? b=some u->h'.get? b=some u):Inv X pins σ H { s with heap:=h',toks:=t' }:=I.un (Un.kept k) (I.hok.kept k)
theorem Inv.laid {a:Addr}{o:HO}{t':Nat}(I:Inv X pins σ H s)(k:∀b u,s.heap.get? b=some u->h'.get? b=some u)(hp:s.heap.objs.size<=a)(new:ObjOk X.prog X.w (upd H a o) h' a o):
  Inv X pins σ (upd H a o) { s with heap:=h',toks:=t' }:=I.un (Un.laid k hp (I.hok.fresh hp)) (I.hok.laid k hp new)
theorem Inv.write {x e:Addr}{o:HO}{t':Nat}(I:Inv X pins σ H s)(mu:Mut (H x))(he:e=x\/H e=some (.own x))(k:∀b u,b≠e->s.heap.get? b=some u->h'.get? b=some u)(heo:∃u,h'.get? e=some u)
  (new:ObjOk X.prog X.w (upd H x o) h' x o):Inv X pins σ (upd H x o) { s with heap:=h',toks:=t' }:=I.un (Un.write mu he k heo) (I.hok.write mu he k heo new)
theorem Inv.pins_of {pins':List (Addr×Obj)}(I:Inv X pins σ H s)(h:∀p∈pins',s.heap.get? p.1=some p.2/\H p.1=none/\p.1≠X.env.locals/\p.1∉X.fs/\∀v,p.2.data≠.cell v):Inv X pins' σ H s :=
 ⟨I.ok,I.os,I.bare,I.base,I.loc,I.cell,I.free,I.freeC,fun p hp=>(List.mem_append.mp hp).elim (fun z=>I.pin p (List.mem_append_left _ z)) (h p),I.hok,I.len⟩
theorem vX {N:List Str}(hN:N.Nodup){i j:Nat}{x:Str}(a:N[i]?=some x)(b:N[j]?=some x):i=j:=by
 obtain ⟨h1,e1⟩:=List.getElem?_eq_some_iff.mp a
 obtain ⟨h2,e2⟩:=List.getElem?_eq_some_iff.mp b
 exact (List.getElem_inj hN).mp (e1.trans e2.symm)
theorem kU {M:Model}{A:Around}{E:Value->Shared->Prop}{i:Nat}{x:Str}{v:V}{u:Value}{Q:Unit->Shared->Prop}(I:Inv X pins σ H s)(hN:X.N.Nodup)(hi:X.N[i]?=some x)(hx:Loc X.env.scope x)(r:RelV v u)
  (h:∀s',Inv X pins (σ.set i (some v)) H s'->(∃a,Heap.SameBut a s.heap s'.heap/\(a=X.env.locals\/X.env.cells.lookup x=some a))->Q () s') (hf:X.fn x=true\/X.env.scope.names.lookup x=some .local:=by first | exact .inl rfl | exact .inr rfl | assumption):wpAny M A (storeName X.env x u) Q E s:=by
 obtain ⟨m,hn,hl⟩:=id I.loc
 have hcls:(X.env.scope.kind == .class || (X.env.scope.kind == .module && X.env.locals != X.env.globals))=false:=by rw[I.ok.kind];rfl
 have hiσ:i < σ.length:=by rw[I.len];exact (List.getElem?_eq_some_iff.mp hi).1
 have cne:=I.cne
 have tracked:∀ {a:Addr}{h':Heap},(∃o,s.heap.get? a=some o/\H a=none)->Heap.SameBut a s.heap h'->HOk X.prog X.w H h':=fun {a h'} ha hs b ob e=>by
  obtain ⟨_,_,hfree⟩:=ha
  refine (I.hok b ob e).stay (fun c w' hc q=>(hs.2 c ?_).trans q) (fun _ q=>q) fun _ _ q=>q
  rintro rfl
  rcases hc with rfl | hc
  .rw[hfree] at e;cases e
  .rw[hfree] at hc;cases hc
 rcases hx with hk | hk
 .refine wpAny_storeName_local hk hn (fun h' hn' hs=>?_) hcls
  obtain ⟨oL,_,_,hoL,_⟩:=id hn
  refine h _ ⟨I.ok,I.os,I.bare,⟨fun b o e n hb hx=>?_,fun b o e n hb hx=>?_,I.base.free,fun b o e hx=>?_,I.base.tups,I.base.frzs,I.base.tbls⟩,⟨_,hn',fun j y v' e1 e2 e3=>?_⟩,fun y c e=>?_,I.free,I.freeC,fun p hp=>?_,tracked ⟨oL,hoL,I.free⟩ hs,by simpa using I.len⟩ ⟨_,hs,.inl rfl⟩
  .exact (hs.2 b (Nat.ne_of_lt (Nat.lt_of_lt_of_le (Heap.lt_size e) I.ok.above))).trans (I.base.keep b o e n hb hx)
  .obtain ⟨sl,e1⟩:=I.base.slot b o e n hb hx
   exact ⟨sl,(hs.2 b (Nat.ne_of_lt (Nat.lt_of_lt_of_le (Heap.lt_size e) I.ok.above))).trans e1⟩
  .obtain ⟨o',e1⟩:=I.base.there b o e hx
   exact ⟨o',(hs.2 b (Nat.ne_of_lt (Nat.lt_of_lt_of_le (Heap.lt_size e) I.ok.above))).trans e1⟩
  .by_cases hj:j=i
   .subst hj
    rw[hi] at e1;cases e1
    rw[List.getElem?_set_self hiσ] at e2
    cases e2
    exact ⟨u,r,.inl ⟨hk,by simp⟩⟩
   .rw[List.getElem?_set_ne (Ne.symm hj)] at e2
    obtain ⟨u',r',q⟩:=hl j y v' e1 e2 e3
    refine ⟨u',r',?_⟩
    rcases q with ⟨k,e⟩ | ⟨k,c,e,z⟩
    .refine .inl ⟨k,?_⟩
     have:y≠x:=fun e=>hj (vX hN e1 (e▸hi))
     simp[this,e]
    .exact .inr ⟨k,c,e,z.sameBut hs (cne y c e)⟩
  .obtain ⟨w',z⟩:=I.cell y c e
   exact ⟨w',z.sameBut hs (cne y c e)⟩
  .obtain ⟨e,n,ne,nf,d⟩:=I.pin p hp
   exact ⟨(hs.2 p.1 ne).trans e,n,ne,nf,d⟩
 .have hfn:X.fn x=true:=by
   rcases hf with z | z
   .exact z
   .rw[z] at hk;cases hk
  obtain ⟨c,hc⟩:=I.ok.has x (.inl hk)
  obtain ⟨w',z⟩:=I.cell x c hc
  refine wpAny_storeName_cell I.ok.kind hk hc z (fun h' hc' hs=>?_)
  obtain ⟨oc,hoc,hocd⟩:=id z
  refine h { s with heap:=h' } ⟨I.ok,I.os,I.bare,⟨fun b o e n hb hx=>?_,fun b o e n hb hx=>?_,I.base.free,fun b o e hx=>?_,I.base.tups,I.base.frzs,I.base.tbls⟩,⟨m,hn.sameBut hs (Ne.symm (cne x c hc)),fun j y v' e1 e2 e3=>?_⟩,fun y c' e=>?_,I.free,I.freeC,fun p hp=>?_,tracked ⟨oc,hoc,I.freeC x c hc⟩ hs,by simpa using I.len⟩ ⟨c,hs,.inr hc⟩
  .exact (hs.2 b (Nat.ne_of_lt (Nat.lt_of_lt_of_le (Heap.lt_size e) (I.ok.cab x c hfn hc)))).trans (I.base.keep b o e n hb hx)
  .obtain ⟨sl,e1⟩:=I.base.slot b o e n hb hx
   exact ⟨sl,(hs.2 b (Nat.ne_of_lt (Nat.lt_of_lt_of_le (Heap.lt_size e) (I.ok.cab x c hfn hc)))).trans e1⟩
  .obtain ⟨o',e1⟩:=I.base.there b o e hx
   exact ⟨o',(hs.2 b (Nat.ne_of_lt (Nat.lt_of_lt_of_le (Heap.lt_size e) (I.ok.cab x c hfn hc)))).trans e1⟩
  .by_cases hj:j=i
   .subst hj
    rw[hi] at e1;cases e1
    rw[List.getElem?_set_self hiσ] at e2
    cases e2
    exact ⟨u,r,.inr ⟨.inl hk,c,hc,hc'⟩⟩
   .rw[List.getElem?_set_ne (Ne.symm hj)] at e2
    obtain ⟨u',r',q⟩:=hl j y v' e1 e2 e3
    refine ⟨u',r',?_⟩
    rcases q with q | ⟨k,c',e,z'⟩
    .exact .inl q
    .refine .inr ⟨k,c',e,z'.sameBut hs ?_⟩
     rintro rfl
     exact hj (vX hN e1 (I.ok.inj _ _ _ e hc▸hi))
  .by_cases hcc:c'=c
   .subst hcc;exact ⟨_,hc'⟩
   .obtain ⟨w2,z2⟩:=I.cell y c' e
    exact ⟨w2,z2.sameBut hs hcc⟩
  .obtain ⟨e,n,ne,nf,d⟩:=I.pin p hp
   refine ⟨(hs.2 p.1 ?_).trans e,n,ne,nf,d⟩
   intro q
   rw[q,hoc] at e
   have q':oc=p.2:=Option.some.inj e
   exact d w' (by rw[<- q'];exact hocd)
theorem vY {M:Model}{A:Around}{E:Value->Shared->Prop}{i:Nat}{x:Str}{v:V}{u:Value}{Q:Unit->Shared->Prop}(I:Inv X pins σ H s)(hN:X.N.Nodup)(hi:X.N[i]?=some x)(hx:Loc X.env.scope x)(r:RelV v u)
  (h:∀s',Inv X pins (σ.set i (some v)) H s'->Q () s') (hf:X.fn x=true\/X.env.scope.names.lookup x=some .local:=by first | exact .inl rfl | exact .inr rfl | assumption):wpAny M A (storeName X.env x u) Q E s :=
 kU I hN hi hx r (fun s' I' _=>h s' I') hf
theorem Inv.call' {s':Shared}{ch:List Addr}(I:Inv X pins σ H s)(ho:s'.os=s.os)(u:Un (frs X.stack) ch H H' s.heap s'.heap)(hok:HOk X.prog X.w H' s'.heap)(hg:AllBare s'.gens)
  (hch:∀b∈ch,(b∈X.ex\/X.s₀.heap.objs.size<=b)/\b≠X.env.locals/\(∀x c,X.env.cells.lookup x=some c->c≠b)/\∀p∈X.pn++pins,p.1≠b):Inv X pins σ H' s':=by
 obtain ⟨h',g',d',t',o'⟩:=s'
 have e:o'=s.os:=ho
 subst e
 exact I.call (g':=g') (t':=t') (d':=d') u hok hg hch
end
noncomputable abbrev XK:=Value->Option Addr->Hp->Prop
noncomputable abbrev St:=List (Option V)
noncomputable abbrev VK:=V->Hp->Prop
noncomputable abbrev TE:=St->Hp->VK->Prop
noncomputable abbrev TT:=St->Hp->(Bool->Hp->Prop)->Prop
noncomputable abbrev TA:=St->Hp->(List V->Hp->Prop)->Prop
set_option genInjectivity false in
structure Ends where
 nx:St->Hp->Prop
 rt:VK
 bk:St->Hp->Prop:=fun _ _=>False
 ct:St->Hp->Prop:=fun _ _=>False
noncomputable abbrev TS:=Ends->St->Hp->Prop
noncomputable def EP (X:Cx)(pins:List (Addr×Obj))(σ:St)(Q:VK)(u:Value)(s':Shared):Prop:=∃v H',Inv X pins σ H' s'/\RelV v u/\Q v H'
noncomputable def TP (X:Cx)(pins:List (Addr×Obj))(σ:St)(Q:Bool->Hp->Prop)(b:Bool)(s':Shared):Prop:=∃H',Inv X pins σ H' s'/\Q b H'
noncomputable def AP (X:Cx)(pins:List (Addr×Obj))(σ:St)(Q:List V->Hp->Prop)(us:List Value)(s':Shared):Prop:=∃vs H',Inv X pins σ H' s'/\Vals vs us/\Q vs H'
noncomputable def SP (X:Cx)(pins:List (Addr×Obj))(D:Ends)(f:Flow)(s':Shared):Prop :=
 match f with
 | .next=>∃σ' H',Inv X pins σ' H' s'/\D.nx σ' H'
 | .brk=>∃σ' H',Inv X pins σ' H' s'/\D.bk σ' H'
 | .cont=>∃σ' H',Inv X pins σ' H' s'/\D.ct σ' H'
 | .ret u=>∃v σ' H',Inv X pins σ' H' s'/\RelV v u/\D.rt v H'
noncomputable def PE (X:Cx)(e:Expr)(t:TE):Prop :=
 ∀ (pins:List (Addr×Obj)) (s:Shared) (σ:St) (H:Hp) (Q:VK),Inv X pins σ H s->t σ H Q->wpAny (model X.prog X.w) X.A (eval e X.env) (EP X pins σ Q) X.xe s
noncomputable def PT (X:Cx)(e:Expr)(t:TT):Prop :=
 ∀ (pins:List (Addr×Obj)) (s:Shared) (σ:St) (H:Hp) (Q:Bool->Hp->Prop),Inv X pins σ H s->t σ H Q->wpAny (model X.prog X.w) X.A (isTrue e X.env (eval e X.env)) (TP X pins σ Q) X.xe s
noncomputable def PW (X:Cx)(e:Expr)(t:TT):Prop :=
 ∀ (whole:Sem Value) (pins:List (Addr×Obj)) (s:Shared) (σ:St) (H:Hp) (Q:Bool->Hp->Prop),Inv X pins σ H s->t σ H Q->wpAny (model X.prog X.w) X.A (isTrue e X.env whole) (TP X pins σ Q) X.xe s
theorem PW.pt {X:Cx}{e:Expr}{t:TT}(h:PW X e t):PT X e t:=h _
noncomputable def PA (X:Cx)(es:List Expr)(t:TA):Prop :=
 ∀ (pos:Pos) (pins:List (Addr×Obj)) (s:Shared) (σ:St) (H:Hp) (Q:List V->Hp->Prop),Inv X pins σ H s->t σ H Q->wpAny (model X.prog X.w) X.A (spliced (backTo pos (starEach es X.env))) (AP X pins σ Q) X.xe s
noncomputable def PS (X:Cx)(st:Stmt)(t:TS):Prop :=
 ∀ (pins:List (Addr×Obj)) (s:Shared) (σ:St) (H:Hp) (D:Ends),Inv X pins σ H s->t D σ H->wpAny (model X.prog X.w) X.A (exec st X.env) (SP X pins D) X.xe s
noncomputable def PSs (X:Cx)(st:List Stmt)(t:TS):Prop :=
 ∀ (pins:List (Addr×Obj)) (s:Shared) (σ:St) (H:Hp) (D:Ends),Inv X pins σ H s->t D σ H->wpAny (model X.prog X.w) X.A (execs st X.env) (SP X pins D) X.xe s
theorem thn {α:Type}{t:Sem α}{Q Q':α->Shared->Prop}{M:Model}{A:Around}{E:Value->Shared->Prop}{s:Shared}(h:wpAny M A t Q E s)(hQ:∀a s,Q a s->Q' a s):wpAny M A t Q' E s:=wpAny_mono h hQ fun _ _ x=>x
section
variable {X:Cx}
theorem bin {a b:Expr}{ta tb:TE}(ha:PE X a ta)(hb:PE X b tb){pins:List (Addr×Obj)}{s:Shared}{σ:St}{H:Hp}{R:V->V->Hp->Prop}(I:Inv X pins σ H s)(h:ta σ H fun x H1=>tb σ H1 fun y H2=>R x y H2)
  {α:Type}{Q:α->Shared->Prop}{f:Value->Value->Sem α}
  (hf:∀v u s2 x y H2,Inv X pins σ H2 s2->RelV x v->RelV y u->R x y H2->wpAny (model X.prog X.w) X.A (f v u) Q X.xe s2) :
  wpAny (model X.prog X.w) X.A (eval a X.env) (fun v s₁=>wpAny (model X.prog X.w) X.A (eval b X.env) (fun u s₂=>wpAny (model X.prog X.w) X.A (f v u) Q X.xe s₂) X.xe s₁) X.xe s:=by
 refine thn (ha pins s σ H _ I h) fun v s1 ⟨x,H1,I1,r1,q1⟩=>?_
 refine thn (hb pins s1 σ H1 _ I1 q1) fun u s2 ⟨y,H2,I2,r2,q2⟩=>?_
 exact hf v u s2 x y H2 I2 r1 r2 q2
noncomputable def zdp (i:Nat):TE:=fun σ H Q=>∃v,σ[i]?=some (some v)/\Q v H
noncomputable def tC (v:V):TE:=fun _ H Q=>Q v H
theorem vZ {i:Nat}{x:Str}{pos:Pos}(hN:X.N[i]?=some x)(hv:Vis X.env.scope x)(hd:(x == ("__debug__" : Str))=false:=by decide)(hcd:(x == ("__classdict__" : Str))=false:=by decide):PE X (.Name x pos) (zdp i):=by
 intro pins s σ H Q I h
 refine cps fun zP zk=>?_
 obtain ⟨v,e,h⟩:=h
 obtain ⟨m,hn,hl⟩:=I.loc
 obtain ⟨u,r,l⟩:=hl i x v hN e hv
 refine zk ?_
 have fin:EP X pins σ Q u s:=⟨v,H,I,r,h⟩
 rcases l with ⟨hk,hm⟩ | ⟨hk,c,hc,hcell⟩
 .exact wpAny_Name (wpAny_loadName_local I.ok.kind hk hn hm fin) hd
 .rcases hk with hk | hk
  .exact wpAny_Name (wpAny_loadName_cell I.ok.kind hk hc hcell fin) hd
  .exact wpAny_Name (wpAny_loadName_free I.ok.kind hk hc hcell fin hcd) hd
theorem zbq {i j pos}:PE X (.Constant (.int i) j pos) (tC (.int i)):=fun _ _ _ H _ I h=>wpAny_Constant_int ⟨.int i,H,I.tok _,⟨_,rfl⟩,h⟩
theorem zgr {b j pos}:PE X (.Constant (.bool b) j pos) (tC (.bl b)):=fun _ _ _ H _ I h=>Constant_bool ⟨.bl b,H,I,rfl,h⟩
theorem wd {x j pos}:PE X (.Constant (.str x) j pos) (tC (.str x)):=fun _ _ _ H _ I h=>Calls.Constant_str ⟨.str x,H,I.tok _,⟨_,rfl⟩,h⟩
noncomputable def Gl (X:Cx)(x:Str):Prop:=X.env.kindOf x=some .globalImplicit
theorem vR {E:Value->Shared->Prop}{pins:List (Addr×Obj)}{s:Shared}{σ:St}{H:Hp}{x:Str}{u:Value}{pos:Pos}{Q:Value->Shared->Prop}(I:Inv X pins σ H s)(hg:Gl X x)(hm:X.mg x=some u)(h:Q u s)
  (hd:(x == ("__debug__" : Str))=false:=by decide):wpAny (model X.prog X.w) X.A (eval (.Name x pos) X.env) Q E s :=
 Calls.Name_function_global I.ok.kind hg (Calls.loadGlobal_global (by rw[I.ok.glob];exact I.mod.glob.keeps I.bk) hm h) hd
theorem we {E:Value->Shared->Prop}{pins:List (Addr×Obj)}{s:Shared}{σ:St}{H:Hp}{x:Str}{u:Value}{pos:Pos}{Q:Value->Shared->Prop}(I:Inv X pins σ H s)(hg:Gl X x)(hm:X.mg x=none)(hv:bootBuiltins x=some u)(h:Q u s)
  (hn:x ≠ "__name__" := by decide) (hd:(x == ("__debug__" : Str))=false:=by decide):wpAny (model X.prog X.w) X.A (eval (.Name x pos) X.env) Q E s:=by
 obtain ⟨mb,h1,h2⟩:=I.mod.blt
 exact Calls.Name_function_global I.ok.kind hg (Calls.loadGlobal_builtin (by rw[I.ok.glob];exact I.mod.glob.keeps I.bk) hm (by rw[I.ok.blt];exact h1.keeps I.bk) ((h2 x hn).trans hv) h) hd
theorem jn {x:Str}{v:V}{u:Value}{pos:Pos}(hg:Gl X x)(hm:X.mg x=some u)(r:RelV v u)(hd:(x == ("__debug__" : Str))=false:=by decide):PE X (.Name x pos) (tC v) :=
 fun _ _ _ H _ I h=>vR I hg hm ⟨v,H,I,r,h⟩ hd
theorem qS {x:Str}{v:V}{u:Value}{pos:Pos}(hg:Gl X x)(hm:X.mg x=none)(hv:bootBuiltins x=some u)(r:RelV v u)(hn:x ≠ "__name__" := by decide)(hd:(x == ("__debug__" : Str))=false:=by decide):PE X (.Name x pos) (tC v) :=
 fun _ _ _ H _ I h=>we I hg hm hv ⟨v,H,I,r,h⟩ hn hd
noncomputable def t2I (ta tb:TE)(k:Int->Int->Hp->Prop):St->Hp->Prop:=fun σ H=>ta σ H fun x H1=>tb σ H1 fun y H2=>∃i j,x=.int i/\y=.int j/\k i j H2
variable {a b:Expr}{ta tb:TE}{pos:Pos}
noncomputable def PC (X:Cx)(op:CmpOp)(a b:Expr)(t:TE):Prop :=
 ∀ (pins:List (Addr×Obj)) (s:Shared) (σ:St) (H:Hp) (Q:VK),Inv X pins σ H s->t σ H Q ->
  wpAny (model X.prog X.w) X.A (eval a X.env) (fun v s₁=>wpAny (model X.prog X.w) X.A (eval b X.env) (fun u s₂=>wpAny (model X.prog X.w) X.A (compareOp op v u) (EP X pins σ Q) X.xe s₂) X.xe s₁) X.xe s
theorem zbr (b:Expr){op:CmpOp}(h:op≠.In)(h2:op≠.NotIn):behindInMarks op b=false:=by
 have e1:(op == CmpOp.In)=false:=by cases op <;> first | rfl | exact absurd rfl h
 have e2:(op == CmpOp.NotIn)=false:=by cases op <;> first | rfl | exact absurd rfl h2
 cases b <;> simp[behindInMarks,e1,e2]
noncomputable def zgs (p:Int->Int->Bool)(ta tb:TE):TE:=fun σ H Q=>t2I ta tb (fun i j H2=>Q (.bl (p i j)) H2) σ H
noncomputable abbrev tEqI:TE->TE->TE:=zgs fun i j=>decide (i=j)
theorem zfd {op:CmpOp}{p:Int->Int->Bool}(ha:PE X a ta)(hb:PE X b tb)
  (rule:∀ (i j:Int) (t u:Tok) (Q:Value->Shared->Prop) (s:Shared),Q (.bool (p i j)) s->wpAny (model X.prog X.w) X.A (compareOp op (.int i t) (.int j u)) Q X.xe s):PC X op a b (zgs p ta tb):=by
 intro pins s σ H Q I h
 refine bin ha hb I h fun v u s2 x y H2 I2 rx ry q=>?_
 obtain ⟨i,j,rfl,rfl,q⟩:=q
 obtain ⟨t,rfl⟩:=rx
 obtain ⟨t',rfl⟩:=ry
 exact rule i j t t' _ s2 ⟨.bl _,H2,I2,rfl,q⟩
theorem zfe (ha:PE X a ta)(hb:PE X b tb):PC X .Eq a b (tEqI ta tb):=zfd ha hb fun _ _ _ _ _ _ h=>eq_int (by rw[Bool.beq_eq_decide_eq];exact h)
noncomputable def tB (t:TE):TT:=fun σ H Q=>t σ H fun x H1=>∃c,x=.bl c/\Q c H1
theorem zff {op:CmpOp}{t:TE}(h:PC X op a b t)(h1:behindInMarks op b=false:=by first | exact zbr _ (by decide) (by decide) | rfl):PE X (.Compare a [op] [b] pos) t:=fun pins s σ H Q I hw=>wpAny_Compare1 (h pins s σ H Q I hw) h1
theorem gR {e:Expr}{t:TE}(h:PE X e t)(he:∀whole,isTrue e X.env whole=(do let v <- whole;standAt e.pos;holding [v] (truthy v)):=by intro _;rfl):PT X e (tB t):=by
 intro pins s σ H Q I hw
 refine isTrue_plain (thn (h pins s σ H _ I hw) fun v s1 ⟨x,H1,I1,r1,q1⟩=>?_) (he _)
 obtain ⟨d,rfl,q⟩:=q1
 cases r1
 exact wpAny_truthy_bool ⟨H1,I1,q⟩
variable {tA tB':TT}{rest:List Expr}
noncomputable def tAnd (t u:TT):TT:=fun σ H Q=>t σ H fun c H1=>if c=true then u σ H1 Q else Q false H1
noncomputable def tOr (t u:TT):TT:=fun σ H Q=>t σ H fun c H1=>if c=true then Q true H1 else u σ H1 Q
noncomputable def tNot (t:TT):TT:=fun σ H Q=>t σ H fun c H1=>Q (!c) H1
theorem zdq (ha:PT X a tA):PW X (.BoolOp .And [a] pos) tA:=by
 intro wh pins s σ H Q I h
 refine isTrue_and (thn (ha pins s σ H Q I h) fun c s1 e=>?_)
 cases c with
 | true=>exact isTrue_and_nil e
 | false=>exact e
theorem zbs (ha:PT X a tA):PW X (.BoolOp .Or [a] pos) tA:=by
 intro wh pins s σ H Q I h
 refine isTrue_or (thn (ha pins s σ H Q I h) fun c s1 e=>?_)
 cases c with
 | false=>exact isTrue_or_nil e
 | true=>exact e
theorem zfg (ha:PT X a tA)(hb:PW X (.BoolOp .And (b::rest) pos) tB'):PW X (.BoolOp .And (a::b::rest) pos) (tAnd tA tB'):=by
 intro wh pins s σ H Q I h
 refine isTrue_and (thn (ha pins s σ H _ I h) fun c s1 ⟨H1,I1,q1⟩=>?_)
 cases c with
 | true=>exact hb wh pins s1 σ H1 Q I1 q1
 | false=>exact ⟨H1,I1,q1⟩
theorem zeO (ha:PT X a tA)(hb:PW X (.BoolOp .Or (b::rest) pos) tB'):PW X (.BoolOp .Or (a::b::rest) pos) (tOr tA tB'):=by
 intro wh pins s σ H Q I h
 refine isTrue_or (thn (ha pins s σ H _ I h) fun c s1 ⟨H1,I1,q1⟩=>?_)
 cases c with
 | true=>exact ⟨H1,I1,q1⟩
 | false=>exact hb wh pins s1 σ H1 Q I1 q1
theorem zbt (ha:PT X a tA):PT X (.UnaryOp .Not a pos) (tNot tA):=by
 intro pins s σ H Q I h
 exact isTrue_not (ha pins s σ H (fun c H1=>Q (!c) H1) I h)
noncomputable def zgt (ta tb:TE):TE:=fun σ H Q=>ta σ H fun x H1=>∃c,x=.bl c/\if c=true then tb σ H1 Q else Q (.bl false) H1
noncomputable def tOrV (ta tb:TE):TE:=fun σ H Q=>ta σ H fun x H1=>∃c,x=.bl c/\if c=true then Q (.bl true) H1 else tb σ H1 Q
noncomputable def zgu (ta:TE):TE:=fun σ H Q=>ta σ H fun x H1=>∃c,x=.bl c/\Q (.bl (!c)) H1
theorem zbu {op}{t:TE}(h:PE X a t):PE X (.BoolOp op [a] pos) t:=fun pins s σ H Q I hw=>BoolOp_one (h pins s σ H Q I hw)
theorem zfh (ha:PE X a ta)(hb:PE X (.BoolOp .And (b::rest) pos) tb):PE X (.BoolOp .And (a::b::rest) pos) (zgt ta tb):=by
 intro pins s σ H Q I h
 refine BoolOp_and (thn (ha pins s σ H _ I h) fun v s1 ⟨x,H1,I1,r1,q1⟩=>?_)
 obtain ⟨c,rfl,q1⟩:=q1
 cases r1
 refine wpAny_truthy_bool ?_
 cases c with
 | true=>exact hb pins s1 σ H1 Q I1 q1
 | false=>exact ⟨.bl false,H1,I1,rfl,q1⟩
theorem zgv (ha:PE X a ta)(hb:PE X (.BoolOp .Or (b::rest) pos) tb):PE X (.BoolOp .Or (a::b::rest) pos) (tOrV ta tb):=by
 intro pins s σ H Q I h
 refine BoolOp_or (thn (ha pins s σ H _ I h) fun v s1 ⟨x,H1,I1,r1,q1⟩=>?_)
 obtain ⟨c,rfl,q1⟩:=q1
 cases r1
 refine wpAny_truthy_bool ?_
 cases c with
 | false=>exact hb pins s1 σ H1 Q I1 q1
 | true=>exact ⟨.bl true,H1,I1,rfl,q1⟩
theorem zfi (ha:PE X a ta):PE X (.UnaryOp .Not a pos) (zgu ta):=by
 intro pins s σ H Q I h
 refine UnaryOp_ (thn (ha pins s σ H _ I h) fun v s1 ⟨x,H1,I1,r1,q1⟩=>?_)
 obtain ⟨c,rfl,q1⟩:=q1
 cases r1
 exact not_of (wpAny_truthy_bool ⟨.bl (!c),H1,I1,rfl,q1⟩)
end
noncomputable def SqL (K:PySem.W.Frag)(H:Hp)(a:Addr)(xs:List V):Prop :=
 Rd H a (.lst xs) \/
  ∃ (o:Obj) (its:Array Value) (n:Nat),K.lookup a=some o/\o.cls=.type "list" /\ o.dict=none/\o.data=.seq its n/\its.size<=sizeLine/\Vals xs its.toList
noncomputable def SqT (K:PySem.W.Frag)(H:Hp)(a:Addr)(xs:List V):Prop :=
 Rd H a (.tup xs) \/
  ∃ (o:Obj) (its:Array Value) (n:Nat),K.lookup a=some o/\o.cls=.type "tuple" /\ o.data=.seq its n/\its.size<=sizeLine/\Vals xs its.toList
noncomputable def absV:Value->Option V
 | .none=>some .non
 | .bool b=>some (.bl b)
 | .int i _=>some (.int i)
 | .str x _=>some (.str x)
 | .bytes b _=>some (.byt b)
 | .float b _=>some (.flt b)
 | .ref a=>some (.ref a)
 | .type n=>some (.ty n)
 | _=>none
theorem RelV.abs {x:V}{u:Value}(r:RelV x u):absV u=some x:=by
 cases x with
 | non=>cases r;rfl
 | bl _=>cases r;rfl
 | int _=>obtain ⟨t,rfl⟩:=r;rfl
 | str _=>obtain ⟨t,rfl⟩:=r;rfl
 | byt _=>obtain ⟨t,rfl⟩:=r;rfl
 | flt _=>obtain ⟨t,rfl⟩:=r;rfl
 | ref _=>cases r;rfl
 | ty _=>cases r;rfl
theorem RelV.inj {x y:V}{u:Value}(r:RelV x u)(q:RelV y u):x=y:=Option.some.inj (r.abs.symm.trans q.abs)
theorem Vals.inj {xs ys:List V}{us:List Value}(h:Vals xs us)(h':Vals ys us):xs=ys:=by
 induction h generalizing ys with
 | nil=>cases h';rfl
 | cons r t ih =>
  cases h' with
  | cons r' t'=>rw[r.inj r',ih t']
section
variable {X:Cx}{pins:List (Addr×Obj)}{σ:St}{H:Hp}{s:Shared}{a:Addr}{xs ys:List V}
theorem SqL.of {K:PySem.W.Frag}(h:H a=some (.lst xs)):SqL K H a xs:=.inl (.inl h)
theorem SqT.of {K:PySem.W.Frag}(h:H a=some (.tup xs)):SqT K H a xs:=.inl (.inl h)
theorem Inv.list (I:Inv X pins σ H s)(h:SqL X.K H a xs):∃its:List Value,Vals xs its/\PlainL s.heap a its.toArray/\xs.length<=sizeLine:=by
 rcases h with h | ⟨o,its,n,hk,hc,hd,hs,hz,r⟩
 .obtain ⟨z,its,n,r,e⟩:=h.ok I.hok
  exact ⟨its,r,⟨_,n,e,rfl,rfl,rfl⟩,z⟩
 .refine ⟨its.toList,r,⟨o,n,I.kIn a o hk,hc,hd,by simpa using hs⟩,?_⟩
  have e:=r.length
  simp only[Array.length_toList] at e
  lia
theorem Inv.tuple (I:Inv X pins σ H s)(h:SqT X.K H a xs):∃its:List Value,Vals xs its/\IsTup s.heap a its.toArray/\xs.length<=sizeLine:=by
 rcases h with h | ⟨o,its,n,hk,hc,hs,hz,r⟩
 .obtain ⟨z,its,r,p⟩:=h.ok I.hok
  exact ⟨its,r,p,z⟩
 .refine ⟨its.toList,r,⟨o,I.kIn a o hk,hc,n,by simpa using hs⟩,?_⟩
  have e:=r.length
  simp only[Array.length_toList] at e
  lia
theorem Inv.list_inj (I:Inv X pins σ H s)(h:SqL X.K H a xs)(h':SqL X.K H a ys):xs=ys:=by
 obtain ⟨its,r,⟨o,n,e,_,_,d⟩,_⟩:=I.list h
 obtain ⟨its',r',⟨o',n',e',_,_,d'⟩,_⟩:=I.list h'
 rw[e] at e';cases e'
 rw[d] at d'
 injection d' with d1 _
 have:its=its':=by simpa using congrArg Array.toList d1
 subst this
 exact r.inj r'
theorem Inv.tuple_inj (I:Inv X pins σ H s)(h:SqT X.K H a xs)(h':SqT X.K H a ys):xs=ys:=by
 obtain ⟨its,r,⟨o,e,_,n,d⟩,_⟩:=I.tuple h
 obtain ⟨its',r',⟨o',e',_,n',d'⟩,_⟩:=I.tuple h'
 rw[e] at e';cases e'
 rw[d] at d'
 injection d' with d1 _
 have:its=its':=by simpa using congrArg Array.toList d1
 subst this
 exact r.inj r'
end
noncomputable abbrev Cx.wish (X:Cx)(E:Value->Shared->Prop):Cx:={ X with xe:=E }
noncomputable abbrev Cx.nox (X:Cx):Cx:=X.wish fun _ _=>False
theorem Cx.Ok.wish {X:Cx}(ok:X.Ok)(E:Value->Shared->Prop):(X.wish E).Ok :=
 ⟨ok.mod,ok.kind,ok.glob,ok.blt,ok.above,ok.inj,ok.has,ok.cab,ok.hd,ok.frames,ok.stk,ok.exf,ok.bs,ok.bsz,ok.noex,ok.exfs,ok.funs,ok.frf⟩
theorem Cx.Ok.unwish {X:Cx}{E:Value->Shared->Prop}(ok:(X.wish E).Ok):X.Ok :=
 ⟨ok.mod,ok.kind,ok.glob,ok.blt,ok.above,ok.inj,ok.has,ok.cab,ok.hd,ok.frames,ok.stk,ok.exf,ok.bs,ok.bsz,ok.noex,ok.exfs,ok.funs,ok.frf⟩
section
variable {X:Cx}{pins:List (Addr×Obj)}{σ:St}{H:Hp}{s:Shared}{E:Value->Shared->Prop}
theorem Inv.wish (I:Inv X pins σ H s)(E:Value->Shared->Prop):Inv (X.wish E) pins σ H s:=⟨I.ok.wish E,I.os,I.bare,I.base,I.loc,I.cell,I.free,I.freeC,I.pin,I.hok,I.len⟩
theorem Inv.unwish (I:Inv (X.wish E) pins σ H s):Inv X pins σ H s:=⟨I.ok.unwish,I.os,I.bare,I.base,I.loc,I.cell,I.free,I.freeC,I.pin,I.hok,I.len⟩
theorem SP.unwish {D:Ends}{f:Flow}{s':Shared}(h:SP (X.wish E) pins D f s'):SP X pins D f s':=by
 cases f with
 | next=>obtain ⟨σ',H',I,q⟩:=h;exact ⟨σ',H',I.unwish,q⟩
 | brk=>obtain ⟨σ',H',I,q⟩:=h;exact ⟨σ',H',I.unwish,q⟩
 | cont=>obtain ⟨σ',H',I,q⟩:=h;exact ⟨σ',H',I.unwish,q⟩
 | ret u=>obtain ⟨v,σ',H',I,r,q⟩:=h;exact ⟨v,σ',H',I.unwish,r,q⟩
theorem PSs.nox {st:List Stmt}{t:TS}(h:PSs X.nox st t):PSs X st t:=fun pins s σ H D I hw =>
 wpAny_mono (h pins s σ H D (I.wish _) hw) (fun _ _ q=>q.unwish) fun _ _ z=>False.elim z
end
section
variable {X:Cx}{st:Stmt}{rest:List Stmt}{t u:TS}{e:Expr}{te:TE}{pos:Pos}
noncomputable def zgw:TS:=fun D σ H=>D.nx σ H
noncomputable def tSeq (t u:TS):TS:=fun D σ H=>t { D with nx:=u D } σ H
theorem qT:PSs X [] zgw:=fun _ _ σ H _ I h=>wpAny_execs_nil ⟨σ,H,I,h⟩
theorem xJ (h1:PS X st t)(h2:PSs X rest u):PSs X (st::rest) (tSeq t u):=by
 intro pins s σ H D I h
 refine wpAny_execs_cons (thn (h1 pins s σ H { D with nx:=u D } I h) fun f s1 q=>?_)
 cases f with
 | next =>
  obtain ⟨σ',H',I',q⟩:=q
  exact h2 pins s1 σ' H' D I' q
 | ret v=>exact q
 | brk=>exact q
 | cont=>exact q
theorem xW (h1:PS X st t):PSs X [st] t:=by
 intro pins s σ H D I h
 refine wpAny_execs_cons (thn (h1 pins s σ H D I h) fun f s1 q=>?_)
 cases f with
 | next=>exact wpAny_execs_nil q
 | ret v=>exact q
 | brk=>exact q
 | cont=>exact q
theorem Inv.quiet {pins:List (Addr×Obj)}{σ:St}{H:Hp}{s:Shared}(I:Inv X pins σ H s):interactive X.env=false:=by simp[interactive,I.ok.kind]
noncomputable def zgx (te:TE):TS:=fun D σ H=>te σ H fun _ H1=>D.nx σ H1
theorem zdr (he:PE X e te)(hs:swapsWith e none pos.line X.env=pure false:=by rfl):PS X (.Expr e pos) (zgx te):=by
 intro pins s σ H D I h
 exact wpAny_Expr_any (thn (he pins s σ H _ I h) fun v s1 ⟨x,H1,I1,r1,q1⟩=>⟨σ,H1,I1,q1⟩) I.quiet hs
noncomputable def zgy (te:TE):TS:=fun D σ H=>te σ H D.rt
theorem jo (he:PE X e te):PS X (.Return (some e) pos) (zgy te):=by
 intro pins s σ H D I h
 exact wpAny_Return_some (thn (he pins s σ H _ I h) fun v s1 ⟨x,H1,I1,r1,q1⟩=>⟨x,σ,H1,I1,r1,q1⟩)
noncomputable def tIfS (c:TT)(t u:TS):TS:=fun D σ H=>c σ H fun b H1=>if b=true then t D σ H1 else u D σ H1
theorem qU {c:Expr}{a b:List Stmt}{tc:TT}(hc:PT X c tc)(ha:PSs X a t)(hb:PSs X b u):PS X (.If c a b pos) (tIfS tc t u):=by
 intro pins s σ H D I h
 refine wpAny_If (thn (hc pins s σ H _ I h) fun d s1 ⟨H1,I1,q1⟩=>?_)
 cases d with
 | true=>exact ha pins s1 σ H1 D I1 q1
 | false=>exact hb pins s1 σ H1 D I1 q1
noncomputable def zbv:TS:=fun _ _ _=>False
theorem zbw:PS X st zbv:=fun _ _ _ _ _ _ h=>h.elim
theorem wq {sts:List Stmt}:PSs X sts zbv:=fun _ _ _ _ _ _ h=>h.elim
end
noncomputable abbrev TG:=V->St->Hp->(St->Hp->Prop)->Prop
noncomputable abbrev TGs:=List V->St->Hp->(St->Hp->Prop)->Prop
noncomputable def PG (X:Cx)(target:Expr)(t:TG):Prop :=
 ∀ (pins:List (Addr×Obj)) (s:Shared) (σ:St) (H:Hp) (v:V) (u:Value) (Q:St->Hp->Prop),Inv X pins σ H s->RelV v u->t v σ H Q ->
  wpAny (model X.prog X.w) X.A (assign target X.env u) (fun _ s'=>∃σ' H',Inv X pins σ' H' s'/\Q σ' H') X.xe s
noncomputable def PGs (X:Cx)(ts:List Expr)(t:TGs):Prop :=
 ∀ (pins:List (Addr×Obj)) (s:Shared) (σ:St) (H:Hp) (vs:List V) (us:List Value) (Q:St->Hp->Prop),Inv X pins σ H s->Vals vs us->t vs σ H Q ->
  wpAny (model X.prog X.w) X.A (assignInOrder ((assignEach ts X.env).map (·.2)) us) (fun _ s'=>∃σ' H',Inv X pins σ' H' s'/\Q σ' H') X.xe s
noncomputable abbrev zfj:=V->V->V->Hp->(Hp->Prop)->Prop
noncomputable def zgz (X:Cx)(t:zfj):Prop :=
 ∀ (pins:List (Addr×Obj)) (s:Shared) (σ:St) (H:Hp) (o i v:V) (ov iv u:Value) (Q:Hp->Prop),Inv X pins σ H s->RelV o ov->RelV i iv->RelV v u->t o i v H Q ->
  wpAny (model X.prog X.w) X.A (setItem ov iv u) (fun _ s'=>∃H',Inv X pins σ H' s'/\Q H') X.xe s
section
variable {X:Cx}{pos:Pos}
noncomputable def wI (i:Nat):TG:=fun v σ H Q=>Q (σ.set i (some v)) H
theorem wr {i:Nat}{x:Str}(hN:X.N.Nodup)(hi:X.N[i]?=some x)(hx:Loc X.env.scope x)(hf:X.fn x=true\/X.env.scope.names.lookup x=some .local:=by first | exact .inl rfl | exact .inr rfl | assumption):PG X (.Name x pos) (wI i):=by
 intro pins s σ H v u Q I r h
 exact wpAny_assign_Name (vY I hN hi hx r (fun s' I'=>⟨_,H,I',h⟩) hf)
noncomputable def zfk:TGs:=fun vs σ H Q=>vs=[]/\Q σ H
noncomputable def jW (t:TG)(u:TGs):TGs:=fun vs σ H Q=>∃v r,vs=v::r/\t v σ H fun σ' H'=>u r σ' H' Q
theorem qV:PGs X [] zfk:=by
 intro pins s σ H vs us Q I r h
 obtain ⟨e,h⟩:=h
 subst e
 cases r
 exact assignInOrder_nil ⟨σ,H,I,h⟩
theorem wY {e:Expr}{es:List Expr}{t:TG}{u:TGs}(h1:PG X e t)(h2:PGs X es u)
  (hs:(assignEach (e::es) X.env).map (·.2)=assign e X.env::(assignEach es X.env).map (·.2):=by rfl):PGs X (e::es) (jW t u):=by
 intro pins s σ H vs us Q I r h
 obtain ⟨v,vr,e1,h⟩:=h
 subst e1
 cases r with
 | cons r rr =>
  rw[hs]
  refine assignInOrder_cons (thn (h1 pins s σ H _ _ _ I r h) fun _ s1 ⟨σ1,H1,I1,q1⟩=>?_)
  exact h2 pins s1 σ1 H1 _ _ Q I1 rr q1
noncomputable def zfl (K:PySem.W.Frag)(n:Nat)(t:TGs):TG:=fun v σ H Q=>∃a xs,v=.ref a/\SqT K H a xs/\xs.length=n/\t xs σ H Q
theorem zbx {es:List Expr}{k:Nat}{t:TGs}{n:Nat}(hc:X.calm=true)(h:PGs X es t)
  (hn:(assignEach es X.env).length=n:=by rfl) (hst:(assignEach es X.env).findIdx? (·.1)=none:=by rfl):PG X (.Tuple es k pos) (zfl X.K n t):=by
 intro pins s σ H v u Q I r hw
 refine cps fun zP zk=>?_
 obtain ⟨a,xs,e1,hq,hl,hw⟩:=hw
 subst e1
 cases r
 obtain ⟨its,rv,ht,hz⟩:=I.tuple hq
 refine zk ?_
 refine assign_Tuple_tuple (I.ok.hd hc) ht (by simp[hn,<- hl,rv.length]) hst fun h' hx=>?_
 have I1:Inv X pins σ H { s with heap:=h' }:=I.kept (t':=s.toks) fun b o e=>hx b o (Nat.ne_of_lt (Heap.lt_size e)) e
 exact h pins _ σ H xs _ Q I1 (by simpa using rv) hw
noncomputable def gSub (to ti:TE)(t:zfj):TG:=fun v σ H Q=>to σ H fun o H1=>ti σ H1 fun i H2=>t o i v H2 fun H3=>Q σ H3
theorem zfm {o i:Expr}{to ti:TE}{t:zfj}(ho:PE X o to)(hi:PE X i ti)(hs:zgz X t)
  (ha:∀v,assign (.Subscript o i pos) X.env v=(do
   let ov <- holding [v] (eval o X.env)
   let iv <- holding [v,ov] (eval i X.env)
   standAt pos
   holding [v,ov,iv] (setItem ov iv v)
   release [v,ov,iv] []):=by intro _;rfl):PG X (.Subscript o i pos) (gSub to ti t):=by
 intro pins s σ H v u Q I r h
 rw[ha]
 refine wpAny_bind (wpAny_holding (thn (ho pins s σ H _ I h) fun ov s1 ⟨x,H1,I1,r1,q1⟩=>?_))
 refine wpAny_bind (wpAny_holding (thn (hi pins s1 σ H1 _ I1 q1) fun iv s2 ⟨y,H2,I2,r2,q2⟩=>?_))
 refine wpAny_bind (wpAny_standAt (wpAny_bind (wpAny_holding (thn (hs pins s2 σ H2 x y v ov iv u _ I2 r1 r2 r q2) fun _ s3 ⟨H3,I3,q3⟩=>?_))))
 exact wpAny_release ⟨σ,H3,I3,q3⟩
noncomputable def zds (te:TE)(g:TG):TS:=fun D σ H=>te σ H fun x H1=>g x σ H1 D.nx
theorem zfn {tg e:Expr}{te:TE}{g:TG}(he:PE X e te)(hg:PG X tg g)(hs:swapsWithSole [tg] e pos.line X.env=pure false:=by rfl)(hw:swappedStores [tg] e X.env=pure none:=by rfl)
  (h1:(assignEach [tg] X.env).map (·.2)=[assign tg X.env]:=by rfl):PS X (.Assign [tg] e pos) (zds te g):=by
 intro pins s σ H D I h
 refine wpAny_Assign_stores (thn (he pins s σ H _ I h) fun v s1 ⟨x,H1,I1,r1,q1⟩=>?_) hs hw
 rw[h1]
 exact thn (hg pins s1 σ H1 x v _ I1 r1 q1) fun _ s2 q=>q
theorem gS {i:Nat}{x:Str}{e:Expr}{te:TE}{pos':Pos}(hN:X.N.Nodup)(hi:X.N[i]?=some x)(hx:Loc X.env.scope x)(he:PE X e te)(hs:swapsWith e (some (.Name x pos')) pos.line X.env=pure false:=by rfl)(hf:X.fn x=true\/X.env.scope.names.lookup x=some .local:=by first | exact .inl rfl | exact .inr rfl | assumption):
  PS X (.Assign [.Name x pos'] e pos) (zds te (wI i)):=by
 intro pins s σ H D I h
 refine wpAny_Assign_Name (thn (he pins s σ H _ I h) fun v s1 ⟨y,H1,I1,r1,q1⟩=>?_) hs
 exact vY I1 hN hi hx r1 (fun s2 I2=>⟨_,H1,I2,q1⟩) hf
end
section
variable {X:Cx}{pos:Pos}
noncomputable def zby (c:TT)(tb:TS):TS:=fun D σ H=>∃W:Nat->St->Hp->Prop,(∃m,W m σ H)/\∀m σ H,W m σ H ->
 c σ H fun b H1=>if b=true then ∃N:St->Hp->Prop,(∀σ' H',N σ' H'->∃m',m' < m/\W m' σ' H')/\tb { D with nx:=N,ct:=N,bk:=D.nx } σ H1 else D.nx σ H1
theorem zbz {c:Expr}{body:List Stmt}{tc:TT}{tb:TS}(hp:PassesOwn (model X.prog X.w) X.A X.env X.xe)(hc:PT X c tc)(hb:PSs X body tb):PS X (.While c body [] pos) (zby tc tb):=by
 intro pins s σ H D I h
 obtain ⟨W,⟨m0,w0⟩,turn⟩:=h
 refine wpAny_While (codeAny_whileLoop (fun n s'=>∃σ' H',Inv X pins σ' H' s'/\W n σ' H') ?_ m0 ⟨σ,H,I,w0⟩)
 rintro n s1 ⟨σ1,H1,I1,w1⟩
 refine wpAny_passesOwn hp (thn (hc pins s1 σ1 H1 _ I1 (turn n σ1 H1 w1)) fun b s2 ⟨H2,I2,q2⟩=>?_)
 cases b with
 | true =>
  obtain ⟨N,hN,q2⟩:=q2
  rw[if_pos rfl]
  refine wpAny_passesOwn hp (thn (hb pins s2 σ1 H2 _ I2 q2) fun f s3 q3=>?_)
  cases f with
  | next =>
   refine cps fun zP zk=>?_
   obtain ⟨σ3,H3,I3,n3⟩:=q3
   obtain ⟨m',hm,w3⟩:=hN σ3 H3 n3
   refine zk ?_
   exact ⟨m',hm,σ3,H3,I3,w3⟩
  | cont =>
   refine cps fun zP zj=>?_
   obtain ⟨σ3,H3,I3,n3⟩:=q3
   obtain ⟨m',hm,w3⟩:=hN σ3 H3 n3
   refine zj ?_
   exact ⟨m',hm,σ3,H3,I3,w3⟩
  | brk=>exact q3
  | ret v=>exact q3
 | false =>
  rw[if_neg Bool.false_ne_true]
  exact wpAny_execs_nil ⟨σ1,H2,I2,q2⟩
end
set_option genInjectivity false in
structure It where
 go:Nat->Hp->Prop
 yld:Nat->Hp->V->Hp->Prop
 stop:Nat->Hp->Prop
noncomputable def vO (X:Cx)(pins:List (Addr×Obj))(H:Hp)(b:Addr):Prop :=
 H b=none/\b≠X.env.locals/\b∉X.fs/\(b∈X.ex\/X.s₀.heap.objs.size<=b)/\(∀x c,X.env.cells.lookup x=some c->c≠b)/\∀p∈X.pn++pins,p.1≠b
theorem Inv.fpOk {X:Cx}{pins:List (Addr×Obj)}{σ:St}{H H':Hp}{s:Shared}{b:Addr}(I:Inv X pins σ H s)(hb:s.heap.objs.size<=b)(hn:H' b=none):vO X pins H' b:=by
 refine ⟨hn,Nat.ne_of_gt (Nat.lt_of_lt_of_le I.lt hb),I.nofs hb,.inr (Nat.le_trans I.sz hb),fun x c e z=>?_,fun p hp z=>?_⟩
 .obtain ⟨v,q⟩:=I.cell x c e
  exact absurd (Nat.lt_of_lt_of_le q.lt (by rw[z];exact hb)) (Nat.lt_irrefl _)
 .exact absurd (Nat.lt_of_lt_of_le (Heap.lt_size (I.pin p hp).1) (by rw[z];exact hb)) (Nat.lt_irrefl _)
structure Turn (P:Program)(w:World)(K:PySem.W.Frag)(tg:Expr)(J:It)(fp:List Addr)(it:Addr)(tn:Nat->Heap->Prop):Prop where
 mem:it∈fp
 obj:∀i h,tn i h->∀b∈fp,∃o,h.get? b=some o/\∀v,o.data≠.cell v
 keep:∀i h h',tn i h->(∀b∈fp,∀o,h.get? b=some o->h'.get? b=some o)->tn i h'
 item:∀ (X:Cx),X.prog=P->X.w=w->X.K=K->X.calm=true->∀ (i:Nat) (pins:List (Addr×Obj)) (s:Shared) (σ:St) (H:Hp) (E:Value->Shared->Prop),Inv X pins σ H s->(∀b∈fp,vO X pins H b)->tn i s.heap->J.go i H ->
  wpAny (model P w) X.A (pyNext (.ref it)) (fun r s1=>∃u,r=some u /\
   wpAny (model P w) X.A (letOwnedTupleGo tg (.ref it) u) (fun _ s2=>∃x H',Inv X pins σ H' s2/\RelV x u/\J.yld i H x H'/\tn (i+1) s2.heap/\∀b∈fp,H' b=none) E s1) E s
 done:∀ (X:Cx),X.prog=P->X.w=w->X.K=K->X.calm=true->∀ (i:Nat) (pins:List (Addr×Obj)) (s:Shared) (σ:St) (H:Hp) (E:Value->Shared->Prop),Inv X pins σ H s->(∀b∈fp,vO X pins H b)->tn i s.heap->J.stop i H ->
  wpAny (model P w) X.A (pyNext (.ref it)) (fun r s1=>r=none/\Inv X pins σ H s1) E s
 self:∀ (A:Around) (i:Nat) (s:Shared) (Q:Value->Shared->Prop) (E:Value->Shared->Prop),tn i s.heap->Q (.ref it) s->wpAny (model P w) A (pyIter (.ref it)) Q E s
noncomputable abbrev TI:=St->Hp->(It->Hp->Prop)->Prop
noncomputable def PIE (X:Cx)(pins:List (Addr×Obj))(σ:St)(tg:Expr)(R:It->Hp->Prop)(itv:Value)(s2:Shared):Prop :=
 ∃ (it:Addr) (fp:List Addr) (tn:Nat->Heap->Prop) (J:It) (H':Hp),itv=.ref it/\Inv X pins σ H' s2/\Turn X.prog X.w X.K tg J fp it tn/\tn 0 s2.heap/\(∀b∈fp,vO X pins H' b)/\R J H'
noncomputable def PI (X:Cx)(tg iter:Expr)(wi:TI):Prop :=
 ∀ (pins:List (Addr×Obj)) (s:Shared) (σ:St) (H:Hp) (R:It->Hp->Prop),Inv X pins σ H s->wi σ H R ->
  wpAny (model X.prog X.w) X.A (eval iter X.env) (fun v s1=>wpAny (model X.prog X.w) X.A (pyIter v) (PIE X pins σ tg R) X.xe s1) X.xe s
theorem zbA {M:Model}{A:Around}{E:Value->Shared->Prop}{s:Shared}{tg:Expr}{it:Addr}{u:Value}{o:Obj}{n:String}{vs:Array Value}{Q:Unit->Shared->Prop}(ho:s.heap.get? it=some o)(hc:o.cls=.type n)(hd:o.data=.fields vs)
  (hn:["enumerate", "zip", "dict_itemiterator", "dict_reverseitemiterator", "odict_iterator", "itertools.zip_longest", "itertools.pairwise"].contains n=false) (hQ:Q () s):wpAny M A (letOwnedTupleGo tg (.ref it) u) Q E s:=by
 unfold letOwnedTupleGo
 cases tg <;> first
  | exact wpAny_pure hQ
  | (cases u <;> first
    | exact wpAny_pure hQ
    | (refine wpAny_bind (wpAny_load ho ?_)
       rw[hc,hd]
       show wpAny M A (if (["enumerate", "zip", "dict_itemiterator", "dict_reverseitemiterator", "odict_iterator", "itertools.zip_longest", "itertools.pairwise"].contains n && vs[0]? == some (rawInt _))=true then _ else _) Q E s
       rw[if_neg (by intro h;rw[hn,Bool.false_and] at h;cases h)]
       exact wpAny_pure hQ))
noncomputable def Itl (K:PySem.W.Frag)(a:Addr):It :=
 ⟨fun i H=>∃xs x,SqL K H a xs/\xs[i]?=some x,fun i H x H'=>H'=H/\∀xs,SqL K H a xs->xs[i]?=some x,fun i H=>∃xs,SqL K H a xs/\xs.length<=i⟩
noncomputable def Itt (K:PySem.W.Frag)(a:Addr):It :=
 ⟨fun i H=>∃xs x,SqT K H a xs/\xs[i]?=some x,fun i H x H'=>H'=H/\∀xs,SqT K H a xs->xs[i]?=some x,fun i H=>∃xs,SqT K H a xs/\xs.length<=i⟩
noncomputable def Itr (lo:Int)(n:Nat):It:=⟨fun i _=>i < n,fun i H x H'=>H'=H/\x=.int (lo+i),fun i _=>n<=i⟩
theorem zaD {P:Program}{w:World}{K:PySem.W.Frag}{tg:Expr}(a it:Addr):Turn P w K tg (Itl K a) [it] it (fun i h=>h.IsListIter it a i) where
 mem:=by simp
 obj:=fun i h st b hb=>by
  have e:b=it:=by simpa using hb
  subst e
  obtain ⟨o,e,c,d⟩:=st
  exact ⟨o,e,fun v z=>by rw[d] at z;cases z⟩
 keep:=fun i h h' st k=>st.at fun o e=>k it (by simp) o e
 item:=by
  intro X hP hw hK hc i pins s σ H E I hf st hg
  subst hP hw hK
  refine cps fun zP zk=>?_
  obtain ⟨xs,x,hq,hx⟩:=hg
  obtain ⟨its,rv,p,hz⟩:=I.list hq
  obtain ⟨u,hu,ru⟩:=rv.get hx
  obtain ⟨f0,f1,f2,f3,f4,f5⟩:=hf it (by simp)
  refine zk ?_
  refine wpAny_pyNext_list_item st p.isList (x:=u) (by simpa using hu) fun h' st' sb=>?_
  have I1:Inv X pins σ H { s with heap:=h' }:=I.turned (t':=s.toks) (fun b o hb e=>(sb.2 b hb).trans e) f0 f1 f3 f4 f5
  obtain ⟨o,e,c,d⟩:=id st'
  exact ⟨u,rfl,zbA (s:={ s with heap:=h' }) e c d (by decide) ⟨x,H,I1,ru,⟨rfl,fun ys hy=>by rw[I.list_inj hy hq];exact hx⟩,st',fun b hb=>(hf b hb).1⟩⟩
 done:=by
  intro X hP hw hK hc i pins s σ H E I hf st hg
  subst hP hw hK
  refine cps fun zP zj=>?_
  obtain ⟨xs,hq,hx⟩:=hg
  obtain ⟨its,rv,p,hz⟩:=I.list hq
  obtain ⟨f0,f1,f2,f3,f4,f5⟩:=hf it (by simp)
  refine zj ?_
  have hl:=rv.length
  exact wpAny_pyNext_list_end (I.ok.hd hc) st p.isList (by simp;lia) fun h' eb=>⟨rfl,I.turned (t':=s.toks) (fun b o hb e=>eb b o hb e) f0 f1 f3 f4 f5⟩
 self:=fun _ _ _ _ _ st h=>wpAny_pyIter_listiter st h
theorem gU {P:Program}{w:World}{K:PySem.W.Frag}{tg:Expr}(a it:Addr):Turn P w K tg (Itt K a) [it] it (fun i h=>h.IsTupleIter it a i) where
 mem:=by simp
 obj:=fun i h st b hb=>by
  have e:b=it:=by simpa using hb
  subst e
  obtain ⟨o,e,c,d⟩:=st
  exact ⟨o,e,fun v z=>by rw[d] at z;cases z⟩
 keep:=fun i h h' st k=>st.at fun o e=>k it (by simp) o e
 item:=by
  intro X hP hw hK hc i pins s σ H E I hf st hg
  subst hP hw hK
  refine cps fun zP zk=>?_
  obtain ⟨xs,x,hq,hx⟩:=hg
  obtain ⟨its,rv,p,hz⟩:=I.tuple hq
  obtain ⟨u,hu,ru⟩:=rv.get hx
  obtain ⟨f0,f1,f2,f3,f4,f5⟩:=hf it (by simp)
  refine zk ?_
  refine wpAny_pyNext_tuple_item st (show s.heap.IsTuple a its.toArray from p) (x:=u) (by simpa using hu) fun h' st' sb=>?_
  have I1:Inv X pins σ H { s with heap:=h' }:=I.turned (t':=s.toks) (fun b o hb e=>(sb.2 b hb).trans e) f0 f1 f3 f4 f5
  obtain ⟨o,e,c,d⟩:=id st'
  exact ⟨u,rfl,zbA (s:={ s with heap:=h' }) e c d (by decide) ⟨x,H,I1,ru,⟨rfl,fun ys hy=>by rw[I.tuple_inj hy hq];exact hx⟩,st',fun b hb=>(hf b hb).1⟩⟩
 done:=by
  intro X hP hw hK hc i pins s σ H E I hf st hg
  subst hP hw hK
  refine cps fun zP zj=>?_
  obtain ⟨xs,hq,hx⟩:=hg
  obtain ⟨its,rv,p,hz⟩:=I.tuple hq
  obtain ⟨f0,f1,f2,f3,f4,f5⟩:=hf it (by simp)
  refine zj ?_
  have hl:=rv.length
  exact wpAny_pyNext_tuple_end (I.ok.hd hc) st (show s.heap.IsTuple a its.toArray from p) (by simp;lia) fun h' eb=>⟨rfl,I.turned (t':=s.toks) (fun b o hb e=>eb b o hb e) f0 f1 f3 f4 f5⟩
 self:=fun _ _ _ _ _ st h=>wpAny_pyIter_tupleiter st h
theorem gW {P:Program}{w:World}{K:PySem.W.Frag}{tg:Expr}(it:Addr)(lo:Int)(n:Nat):Turn P w K tg (Itr lo n) [it] it (fun i h=>IsRangeIter h it (lo+(i:Nat) * 1) ((n:Int) - (i:Nat)) 1) where
 mem:=by simp
 obj:=fun i h st b hb=>by
  have e:b=it:=by simpa using hb
  subst e
  exact ⟨_,st,fun v z=>by
   have z':Data.fields _=Data.cell v:=z
   cases z'⟩
 keep:=fun i h h' st k=>k it (by simp) _ st
 item:=by
  intro X hP hw hK hc i pins s σ H E I hf st hg
  subst hP hw hK
  refine cps fun zP zk=>?_
  obtain ⟨f0,f1,f2,f3,f4,f5⟩:=hf it (by simp)
  refine zk ?_
  have W:=Walks.range (prog:=X.prog) (w:=X.w) (I.ok.hd hc) it lo 1 n
  refine W.item i s _ _ hg st fun v h' tk hv st' kk=>?_
  obtain ⟨t,rfl⟩:=hv
  have I1:Inv X pins σ H { s with heap:=h',toks:=tk }:=I.turned (fun b o hb e=>kk b o (by simpa using hb) e) f0 f1 f3 f4 f5
  refine ⟨_,rfl,zbA (s:={ s with heap:=h',toks:=tk }) (n := "range_iterator") st' rfl rfl (by decide) ⟨.int (lo+i),H,I1,⟨t,?_⟩,⟨rfl,rfl⟩,st',fun b hb=>(hf b hb).1⟩⟩
  rw[Int.mul_one]
 done:=by
  intro X hP hw hK hc i pins s σ H E I hf st hg
  subst hP hw hK
  refine cps fun zP zj=>?_
  obtain ⟨f0,f1,f2,f3,f4,f5⟩:=hf it (by simp)
  refine zj ?_
  exact wpAny_pyNext_range_end (I.ok.hd hc) st (by have:n<=i:=hg;lia) fun h' eb=>⟨rfl,I.turned (t':=s.toks) (fun b o hb e=>eb b o hb e) f0 f1 f3 f4 f5⟩
 self:=fun _ _ _ _ _ st h=>wpAny_pyIter_rangeiter st h
section
variable {X:Cx}{tg:Expr}
noncomputable def zgA (K:PySem.W.Frag)(tl:TE):TI:=fun σ H R=>tl σ H fun x H1=>∃a,x=.ref a/\(∃xs,SqL K H1 a xs)/\R (Itl K a) H1
noncomputable def iTup (K:PySem.W.Frag)(tl:TE):TI:=fun σ H R=>tl σ H fun x H1=>∃a,x=.ref a/\(∃xs,SqT K H1 a xs)/\R (Itt K a) H1
theorem zdt {l:Expr}{tl:TE}(hl:PE X l tl):PI X tg l (zgA X.K tl):=by
 intro pins s σ H R I h
 refine thn (hl pins s σ H _ I h) fun v s1 ⟨x,H1,I1,r1,q1⟩=>?_
 refine cps fun zP zk=>?_
 obtain ⟨a,e,⟨xs,hq⟩,q⟩:=q1
 subst e
 cases r1
 obtain ⟨its,rv,p,hz⟩:=I1.list hq
 refine zk ?_
 refine wpAny_pyIter_list p.isList ?_
 refine ⟨s1.heap.objs.size,[s1.heap.objs.size],_,_,H1,rfl,I1.kept (t':=s1.toks) fun b o e=>Heap.get?_push_of_some _ e,zaD a _,⟨_,Heap.get?_push_size _ rfl,rfl,rfl⟩,fun b hb=>?_,q⟩
 have e:b=s1.heap.objs.size:=by simpa using hb
 subst e
 exact I1.fpOk (Nat.le_refl _) (I1.hok.fresh (Nat.le_refl _))
theorem zfo {l:Expr}{tl:TE}(hl:PE X l tl):PI X tg l (iTup X.K tl):=by
 intro pins s σ H R I h
 refine thn (hl pins s σ H _ I h) fun v s1 ⟨x,H1,I1,r1,q1⟩=>?_
 obtain ⟨a,e,⟨xs,hq⟩,q⟩:=q1
 subst e
 cases r1
 obtain ⟨its,rv,p,hz⟩:=I1.tuple hq
 refine wpAny_pyIter_tuple (show s1.heap.IsTuple a its.toArray from p) ?_
 refine ⟨s1.heap.objs.size,[s1.heap.objs.size],_,_,H1,rfl,I1.kept (t':=s1.toks) fun b o e=>Heap.get?_push_of_some _ e,gU a _,⟨_,Heap.get?_push_size _ rfl,rfl,rfl⟩,fun b hb=>?_,q⟩
 have e:b=s1.heap.objs.size:=by simpa using hb
 subst e
 exact I1.fpOk (Nat.le_refl _) (I1.hok.fresh (Nat.le_refl _))
theorem zbB {pins:List (Addr×Obj)}{σ:St}{H:Hp}{s:Shared}{R:It->Hp->Prop}{E:Value->Shared->Prop}{lo hi:Int}{t u v:Tok}{tk:Nat}(I:Inv X pins σ H s)(h1:-(2 ^ 62)<=lo)(h2:lo < 2 ^ 62)(h3:-(2 ^ 62)<=hi)(h4:hi < 2 ^ 62)
  (q:R (Itr lo (hi - lo).toNat) H):wpAny (model X.prog X.w) X.A (pyIter (.ref s.heap.objs.size)) (PIE X pins σ tg R) E { s with heap:=s.heap.push { cls:=.type "range",data:=.fields #[.int lo t,.int hi u,.int 1 v] },toks:=tk }:=by
 refine wpAny_pyIter_range (IsRange.new ..) (small_one h1 h2 h3 h4) ?_
 have I1:Inv X pins σ H { s with heap:=s.heap.push { cls:=.type "range",data:=.fields #[.int lo t,.int hi u,.int 1 v] },toks:=tk }:=I.kept fun b o e=>Heap.get?_push_of_some _ e
 refine ⟨(s.heap.push { cls:=.type "range",data:=.fields #[.int lo t,.int hi u,.int 1 v] }).objs.size,[(s.heap.push { cls:=.type "range",data:=.fields #[.int lo t,.int hi u,.int 1 v] }).objs.size],_,_,H,rfl,
  I1.kept (t':=tk) fun b o e=>Heap.get?_push_of_some _ e,gW _ lo (hi - lo).toNat,?_,fun b hb=>?_,q⟩
 .have e1:lo+((0:Nat):Int) * 1=lo:=by simp
  have e2:(((hi - lo).toNat:Nat):Int) - ((0:Nat):Int)=Builtin.Range.rangeSize lo hi 1:=by rw[rangeSize_one];split <;> lia
  show IsRangeIter _ _ (lo+((0:Nat):Int) * 1) ((((hi - lo).toNat:Nat):Int) - ((0:Nat):Int)) 1
  rw[e1,e2]
  exact Heap.get?_push_size _ rfl
 .have e:b=(s.heap.push { cls:=.type "range",data:=.fields #[.int lo t,.int hi u,.int 1 v] }).objs.size:=by simpa using hb
  subst e
  exact I1.fpOk (Nat.le_refl _) (I1.hok.fresh (Nat.le_refl _))
noncomputable def zgB (ta:TA):TI:=fun σ H R=>ta σ H fun vs H1=>∃j:Int,vs=[.int j]/\-(2 ^ 62)<=j/\j < 2 ^ 62/\R (Itr 0 j.toNat) H1
theorem zaE {a:Expr}{ta:TA}{p pos:Pos}(hg:Gl X "range")(hm:X.mg "range" = none)(ha:PA X [a] ta)(hs:starEach [a] X.env=[(false,eval a X.env)]:=by rfl):PI X tg (.Call (.Name "range" p) [a] [] pos) (zgB ta):=by
 intro pins s σ H R I h
 refine Call_ (we I hg hm boot_range (PyProof.Rows.callWith_type1 (thn (ha pos pins s σ H _ I h) fun us s1 ⟨vs,H1,I1,r1,q1⟩=>?_) hs rfl))
 obtain ⟨j,e,q1,q2,q⟩:=q1
 subst e
 cases r1 with
 | cons r rr =>
  cases rr
  obtain ⟨t,rfl⟩:=r
  exact call_range_1 (zbB I1 (by lia) (by lia) q1 q2 (by simpa using q))
noncomputable def zgC (wi:TI)(g:TG)(tb:TS):TS:=fun D σ H=>wi σ H fun J H1=>∃W:Nat->Nat->St->Hp->Prop,(∃m,W 0 m σ H1)/\∀i m σ H,W i m σ H ->
 (J.stop i H/\D.nx σ H)\/(J.go i H/\∃N:St->Hp->Prop,(∀σ' H',N σ' H'->∃m',m' < m/\W (i+1) m' σ' H')/\∀x H',J.yld i H x H'->g x σ H' fun σ2 H2=>tb { D with nx:=N,ct:=N,bk:=D.nx } σ2 H2)
noncomputable def v4 (fp:List Addr)(h:Heap):List (Addr×Obj):=fp.filterMap fun b=>(h.get? b).map fun o=>(b,o)
theorem xX {fp:List Addr}{h:Heap}{b:Addr}{o:Obj}(hb:b∈fp)(e:h.get? b=some o):(b,o)∈v4 fp h:=List.mem_filterMap.mpr ⟨b,hb,by rw[e];rfl⟩
theorem zaF {fp:List Addr}{h:Heap}{p:Addr×Obj}(hp:p∈v4 fp h):p.1∈fp/\h.get? p.1=some p.2:=by
 obtain ⟨b,hb,e⟩:=List.mem_filterMap.mp hp
 cases q:h.get? b with
 | none=>rw[q] at e;cases e
 | some o =>
  rw[q] at e
  have e':(b,o)=p:=Option.some.inj e
  subst e'
  exact ⟨hb,q⟩
theorem Inv.pinned {pins:List (Addr×Obj)}{σ:St}{H:Hp}{s:Shared}{fp:List Addr}(I:Inv X pins σ H s)(hf:∀b∈fp,vO X pins H b)(ho:∀b∈fp,∃o,s.heap.get? b=some o/\∀v,o.data≠.cell v):Inv X (pins++v4 fp s.heap) σ H s :=
 I.pins_of fun p hp=>(List.mem_append.mp hp).elim (fun z=>I.pin p (List.mem_append_right _ z)) fun z=>by
  refine cps fun zP zk=>?_
  obtain ⟨hb,e⟩:=zaF z
  obtain ⟨f0,f1,f2,_⟩:=hf p.1 hb
  obtain ⟨o,e',d⟩:=ho p.1 hb
  refine zk ?_
  rw[e] at e';cases e'
  exact ⟨e,f0,f1,f2,d⟩
theorem Inv.unpinned {pins pl:List (Addr×Obj)}{σ:St}{H:Hp}{s:Shared}(I:Inv X (pins++pl) σ H s):Inv X pins σ H s:=I.pins_of fun p hp=>I.pin p (List.mem_append_right _ (List.mem_append_left _ hp))
theorem zbC {iter:Expr}{body:List Stmt}{wi:TI}{g:TG}{tb:TS}{pos:Pos}(hp:PassesOwn (model X.prog X.w) X.A X.env X.xe)(hc:X.calm=true)(hi:PI X tg iter wi)(hg:PG X tg g)(hb:PSs X body tb)
  (hs:∀x,foldedSetIterable iter X.env x=pure x:=by intro _;rfl):PS X (.For tg iter body [] pos) (zgC wi g tb):=by
 intro pins s σ H D I h
 refine wpAny_For (thn (hi pins s σ H _ I h) fun v s1 h1=>thn h1 fun itv s2 h2=>?_) hs
 refine cps fun zP zk=>?_
 obtain ⟨it,fp,tn,J,H2,e,I2,T,st2,f2,W,⟨m0,w0⟩,turn⟩:=h2
 refine zk ?_
 subst e
 -- what stays true of the iterator's objects through the loop
 have stat:∀ {H':Hp},(∀b∈fp,H' b=none)->∀b∈fp,vO X pins H' b:=fun hn b hb=>⟨hn b hb,(f2 b hb).2⟩
 refine codeAny_forLoop_any (fun n s'=>∃i σ' H',Inv X pins σ' H' s'/\tn i s'.heap/\(∀b∈fp,H' b=none)/\W i n σ' H') ?_ m0 ⟨0,σ,H2,I2,st2,fun b hb=>(f2 b hb).1,w0⟩
 intro n s3 zz
 refine cps fun zP zj=>?_
 obtain ⟨i,σ3,H3,I3,st3,fr3,w3⟩:=zz
 refine zj ?_
 rcases turn i n σ3 H3 w3 with ⟨stop,qn⟩ | ⟨go,N,hN,step⟩
 .refine wpAny_passesOwn hp (thn (T.done X rfl rfl rfl hc i pins s3 σ3 H3 X.xe I3 (stat fr3) st3 stop) fun r s4 ⟨hr,I4⟩=>?_)
  subst hr
  exact wpAny_execs_nil ⟨σ3,H3,I4,qn⟩
 .refine wpAny_passesOwn hp (thn (T.item X rfl rfl rfl hc i pins s3 σ3 H3 X.xe I3 (stat fr3) st3 go) fun r s4 ⟨u,hr,h4⟩=>?_)
  subst hr
  refine wpAny_passesOwn hp (thn h4 fun _ s5 ⟨x,H5,I5,r5,y5,st5,fr5⟩=>?_)
  have I5':=I5.pinned (stat fr5) (T.obj _ _ st5)
  refine wpAny_passesOwn hp (thn (hg _ s5 σ3 H5 x u _ I5' r5 (step x H5 y5)) fun _ s6 ⟨σ6,H6,I6,q6⟩=>?_)
  refine wpAny_passesOwn hp (thn (hb _ s6 σ6 H6 _ I6 q6) fun f s7 q7=>?_)
  have again:∀ {σ7:St}{H7:Hp},Inv X (pins++v4 fp s5.heap) σ7 H7 s7->N σ7 H7->∃m,m < n/\∃i σ' H',Inv X pins σ' H' s7/\tn i s7.heap/\(∀b∈fp,H' b=none)/\W i m σ' H':=fun {σ7 H7} I7 n7=>by
   obtain ⟨m',hm,w7⟩:=hN σ7 H7 n7
   refine ⟨m',hm,i+1,σ7,H7,I7.unpinned,T.keep _ _ _ st5 fun b hb o e=>(I7.pin (b,o) (List.mem_append_right _ (List.mem_append_right _ (xX hb e)))).1,fun b hb=>?_,w7⟩
   obtain ⟨o,e,d⟩:=T.obj _ _ st5 b hb
   exact (I7.pin (b,o) (List.mem_append_right _ (List.mem_append_right _ (xX hb e)))).2.1
  cases f with
  | next=>obtain ⟨σ7,H7,I7,n7⟩:=q7;exact again I7 n7
  | cont=>obtain ⟨σ7,H7,I7,n7⟩:=q7;exact again I7 n7
  | brk=>obtain ⟨σ7,H7,I7,q7⟩:=q7;exact ⟨σ7,H7,I7.unpinned,q7⟩
  | ret v=>obtain ⟨x7,σ7,H7,I7,r7,q7⟩:=q7;exact ⟨x7,σ7,H7,I7.unpinned,r7,q7⟩
end
noncomputable abbrev R2:=V->V->Hp->VK->Prop
noncomputable def OpR (X:Cx)(f:Value->Value->Sem Value)(r:R2):Prop :=
 ∀ (pins:List (Addr×Obj)) (s:Shared) (σ:St) (H:Hp) (x y:V) (v u:Value) (Q:VK),Inv X pins σ H s->RelV x v->RelV y u->r x y H Q ->
  wpAny (model X.prog X.w) X.A (f v u) (EP X pins σ Q) X.xe s
noncomputable def UnR (X:Cx)(f:Value->Sem Value)(r:V->Hp->VK->Prop):Prop :=
 ∀ (pins:List (Addr×Obj)) (s:Shared) (σ:St) (H:Hp) (x:V) (v:Value) (Q:VK),Inv X pins σ H s->RelV x v->r x H Q ->
  wpAny (model X.prog X.w) X.A (f v) (EP X pins σ Q) X.xe s
noncomputable def CallR (X:Cx)(f:Value)(r:List V->Hp->VK->Prop):Prop :=
 ∀ (pins:List (Addr×Obj)) (s:Shared) (σ:St) (H:Hp) (xs:List V) (us:List Value) (Q:VK),Inv X pins σ H s->Vals xs us->r xs H Q ->
  wpAny (model X.prog X.w) X.A (call f us) (EP X pins σ Q) X.xe s
noncomputable def tOp (r:R2)(ta tb:TE):TE:=fun σ H Q=>ta σ H fun x H1=>tb σ H1 fun y H2=>r x y H2 Q
noncomputable def tUn (r:V->Hp->VK->Prop)(ta:TE):TE:=fun σ H Q=>ta σ H fun x H1=>r x H1 Q
noncomputable def rI (C:Int->Int->Prop)(g:Int->Int->V):R2:=fun x y H Q=>∃i j,x=.int i/\y=.int j/\C i j/\Q (g i j) H
noncomputable def rI0 (g:Int->Int->V):R2:=fun x y H Q=>∃i j,x=.int i/\y=.int j/\Q (g i j) H
noncomputable def rU (g:Int->V):V->Hp->VK->Prop:=fun x H Q=>∃i,x=.int i/\Q (g i) H
section
variable {X:Cx}{a b:Expr}{ta tb:TE}{pos:Pos}
theorem zfp (ha:PE X a ta)(hb:PE X b tb){pins:List (Addr×Obj)}{s:Shared}{σ:St}{H:Hp}{R:V->V->Hp->Prop}(I:Inv X pins σ H s)
  (h:ta σ H fun x H1=>tb σ H1 fun y H2=>R x y H2) {Q:Value->Shared->Prop}{f:Value->Value->Sem Value}
  (hf:∀v u s2 x y H2,Inv X pins σ H2 s2->RelV x v->RelV y u->R x y H2->wpAny (model X.prog X.w) X.A (f v u) Q X.xe s2) :
  wpAny (model X.prog X.w) X.A (eval a X.env) (fun v s₁=>wpAny (model X.prog X.w) X.A (eval b X.env) (fun u s₂=>wpAny (model X.prog X.w) X.A (f v u) Q X.xe s₂) X.xe s₁) X.xe s:=by
 refine thn (ha pins s σ H _ I h) fun v s1 ⟨x,H1,I1,r1,q1⟩=>?_
 refine thn (hb pins s1 σ H1 _ I1 q1) fun u s2 ⟨y,H2,I2,r2,q2⟩=>?_
 exact hf v u s2 x y H2 I2 r1 r2 q2
theorem zbD {op:Operator}{r:R2}(ho:OpR X (binaryOp op) r)(ha:PE X a ta)(hb:PE X b tb):PE X (.BinOp a op b pos) (tOp r ta tb):=by
 intro pins s σ H Q I h
 exact wpAny_BinOp (zfp ha hb I h fun v u s2 x y H2 I2 rx ry q=>ho pins s2 σ H2 x y v u Q I2 rx ry q)
theorem zgD {op:UnaryOp}{r:V->Hp->VK->Prop}(ho:UnR X (unaryOp op) r)(ha:PE X a ta):PE X (.UnaryOp op a pos) (tUn r ta):=by
 intro pins s σ H Q I h
 exact UnaryOp_ (thn (ha pins s σ H _ I h) fun v s1 ⟨x,H1,I1,r1,q1⟩=>ho pins s1 σ H1 x v Q I1 r1 q1)
theorem opI {f:Value->Value->Sem Value}{C:Int->Int->Prop}{g:Int->Int->Int}
  (rule:∀ (i j:Int) (t u:Tok) (s:Shared) (Q:Value->Shared->Prop) (E:Value->Shared->Prop),C i j->Q (.int (g i j) s.toks) { s with toks:=s.toks+1 }->wpAny (model X.prog X.w) X.A (f (.int i t) (.int j u)) Q E s) :
  OpR X f (rI C fun i j=>.int (g i j)):=by
 intro pins s σ H x y v u Q I rx ry h
 obtain ⟨i,j,rfl,rfl,hc,q⟩:=h
 obtain ⟨t,rfl⟩:=rx
 obtain ⟨t',rfl⟩:=ry
 exact rule i j t t' s _ _ hc ⟨.int (g i j),H,I.tok _,⟨_,rfl⟩,q⟩
theorem zgE {f:Value->Value->Sem Value}{g:Int->Int->Int}
  (rule:∀ (i j:Int) (t u:Tok) (s:Shared) (Q:Value->Shared->Prop) (E:Value->Shared->Prop),Q (.int (g i j) s.toks) { s with toks:=s.toks+1 }->wpAny (model X.prog X.w) X.A (f (.int i t) (.int j u)) Q E s) :
  OpR X f (rI0 fun i j=>.int (g i j)):=by
 intro pins s σ H x y v u Q I rx ry h
 obtain ⟨i,j,rfl,rfl,q⟩:=h
 obtain ⟨t,rfl⟩:=rx
 obtain ⟨t',rfl⟩:=ry
 exact rule i j t t' s _ _ ⟨.int (g i j),H,I.tok _,⟨_,rfl⟩,q⟩
theorem zdu {f:Value->Value->Sem Value}{g:Int->Int->Bool}
  (rule:∀ (i j:Int) (t u:Tok) (s:Shared) (Q:Value->Shared->Prop) (E:Value->Shared->Prop),Q (.bool (g i j)) s->wpAny (model X.prog X.w) X.A (f (.int i t) (.int j u)) Q E s) :
  OpR X f (rI0 fun i j=>.bl (g i j)):=by
 intro pins s σ H x y v u Q I rx ry h
 obtain ⟨i,j,rfl,rfl,q⟩:=h
 obtain ⟨t,rfl⟩:=rx
 obtain ⟨t',rfl⟩:=ry
 exact rule i j t t' s _ _ ⟨.bl (g i j),H,I,rfl,q⟩
noncomputable def zgF (i j:Int):Prop:=0 < j/\j < 1073741824
noncomputable def zgG (i j:Int):Prop:=0<=j/\j<=1000000/\i.natAbs < 2 ^ 64
noncomputable def CMul (i j:Int):Prop:=(-(2 ^ 64) < i/\i < 2 ^ 64)\/(-(2 ^ 64) < j/\j < 2 ^ 64)
theorem CMul.ok {i j:Int}(h:CMul i j):IntMulOk i j:=by
 rcases h with ⟨h1,h2⟩ | ⟨h1,h2⟩
 .exact .of_left (intBits_le_64 h1 h2)
 .exact .of_right (intBits_le_64 h1 h2)
theorem op_add:OpR X (binaryOp .Add) (rI0 fun i j=>.int (i+j)):=zgE fun _ _ _ _ _ _ _ q=>add_int q
theorem zfq:OpR X (binaryOp .Sub) (rI0 fun i j=>.int (i - j)):=zgE fun _ _ _ _ _ _ _ q=>sub_int q
theorem op_mul:OpR X (binaryOp .Mult) (rI CMul fun i j=>.int (i * j)):=opI fun _ _ _ _ _ _ _ hc q=>mul_int q hc.ok
theorem zdv:OpR X (binaryOp .FloorDiv) (rI zgF fun i j=>.int (i / j)):=opI fun i j _ _ _ _ _ hc q=>by
 have h1:(0:Int) < j:=hc.1
 have h2:j < 1073741824:=hc.2
 exact floordiv_int (by lia) (by rw[Int.fdiv_eq_ediv_of_nonneg i (by lia)];exact q) (.inl (PyProof.noPylong_small (by lia)))
theorem zfr:OpR X (binaryOp .Mod) (rI (fun _ j=>0 < j) fun i j=>.int (i % j)):=opI fun i j _ _ _ _ _ hc q=>by
 have h1:(0:Int) < j:=hc
 exact mod_int' (by lia) (by rw[Int.fmod_eq_emod_of_nonneg i (by lia)];exact q)
theorem zfs:OpR X (binaryOp .Pow) (rI zgG fun i j=>.int (i ^ j.toNat)):=opI fun _ _ _ _ _ _ _ hc q=>pow_int_small hc.1 hc.2.1 hc.2.2 q
theorem unI {f:Value->Sem Value}{g:Int->Int}
  (rule:∀ (i:Int) (t:Tok) (s:Shared) (Q:Value->Shared->Prop) (E:Value->Shared->Prop),Q (.int (g i) s.toks) { s with toks:=s.toks+1 }->wpAny (model X.prog X.w) X.A (f (.int i t)) Q E s) :
  UnR X f (rU fun i=>.int (g i)):=by
 intro pins s σ H x v Q I rx h
 obtain ⟨i,rfl,q⟩:=h
 obtain ⟨t,rfl⟩:=rx
 exact rule i t s _ _ ⟨.int (g i),H,I.tok _,⟨_,rfl⟩,q⟩
theorem zft:UnR X (unaryOp .USub) (rU fun i=>.int (-i)):=unI fun _ _ _ _ _ q=>neg_int q
end
section
variable {X:Cx}{a b c:Expr}{ta tb tc:TE}{pos:Pos}
theorem zbE {pins:List (Addr×Obj)}{σ:St}{H:Hp}{s:Shared}{Q:VK}{k k':Bool}(I:Inv X pins σ H s)(q:Q (.bl k) H)(e:k=k'):EP X pins σ Q (.bool k') s:=by
 subst e
 exact ⟨.bl k,H,I,rfl,q⟩
theorem zgH:OpR X (compareOp .Lt) (rI0 fun i j=>.bl (decide (i < j))):=zdu fun _ _ _ _ _ _ _ q=>lt_int q
theorem op_le:OpR X (compareOp .LtE) (rI0 fun i j=>.bl (decide (i<=j))):=zdu fun _ _ _ _ _ _ _ q=>le_int q
theorem op_gt:OpR X (compareOp .Gt) (rI0 fun i j=>.bl (decide (j < i))):=zdu fun _ _ _ _ _ _ _ q=>gt_int q
theorem op_ge:OpR X (compareOp .GtE) (rI0 fun i j=>.bl (decide (j<=i))):=zdu fun _ _ _ _ _ _ _ q=>ge_int q
theorem zhM:OpR X (compareOp .Is) (fun x y H Q=>y=.non/\Q (.bl (decide (x=.non))) H):=by
 intro pins s σ H x y v u Q I rx ry h
 obtain ⟨rfl,q⟩:=h
 cases ry
 refine is_none_gen (zbE I q ?_)
 cases x <;> first
  | (cases rx;rfl)
  | (obtain ⟨t,rfl⟩:=rx;rfl)
theorem zhx:OpR X (compareOp .IsNot) (fun x y H Q=>y=.non/\Q (.bl (!decide (x=.non))) H):=by
 intro pins s σ H x y v u Q I rx ry h
 obtain ⟨rfl,q⟩:=h
 cases ry
 refine isnot_none_gen (zbE I q ?_)
 cases x <;> first
  | (cases rx;rfl)
  | (obtain ⟨t,rfl⟩:=rx;rfl)
theorem OpR.or {f:Value->Value->Sem Value}{r r':R2}(h:OpR X f r)(h':OpR X f r'):OpR X f (fun x y H Q=>r x y H Q\/r' x y H Q):=by
 intro pins s σ H x y v u Q I rx ry q
 rcases q with q | q
 .exact h pins s σ H x y v u Q I rx ry q
 .exact h' pins s σ H x y v u Q I rx ry q
theorem zdw {op:CmpOp}{r:R2}(ho:OpR X (compareOp op) r)(ha:PE X a ta)(hb:PE X b tb)(hm:behindInMarks op b=false):PE X (.Compare a [op] [b] pos) (tOp r ta tb):=by
 intro pins s σ H Q I h
 exact wpAny_Compare1 (zfp ha hb I h fun v u s2 x y H2 I2 rx ry q=>ho pins s2 σ H2 x y v u Q I2 rx ry q) hm
noncomputable def zeP (t:TE):TT:=fun σ H Q=>t σ H fun x H'=>∃k,x=.bl k/\Q k H'
theorem zdx {op:CmpOp}{r:R2}(ho:OpR X (compareOp op) r)(ha:PE X a ta)(hb:PE X b tb)(hm:behindInMarks op b=false):PT X (.Compare a [op] [b] pos) (zeP (tOp r ta tb)):=by
 intro pins s σ H Q I h
 refine wpAny_isTrue_Compare1 (thn (ha pins s σ H _ I h) fun v s1 ⟨x,H1,I1,r1,q1⟩=>thn (hb pins s1 σ H1 _ I1 q1) fun u s2 ⟨y,H2,I2,r2,q2⟩ =>
  thn (ho pins s2 σ H2 x y v u _ I2 r1 r2 q2) fun c s3 ⟨z,H3,I3,r3,k,e,q3⟩=>?_) hm
 subst e
 cases r3
 exact wpAny_truthy_bool ⟨H3,I3,q3⟩
noncomputable def gX (r r':R2)(ta tb tc:TE):TE:=fun σ H Q=>ta σ H fun x H1=>tb σ H1 fun y H2=>r x y H2 fun z H3=>∃k,z=.bl k /\
 (if k=true then tc σ H3 fun w' H4=>r' y w' H4 Q else Q (.bl false) H3)
theorem zbF {op op':CmpOp}{r r':R2}(ho:OpR X (compareOp op) r)(ho':OpR X (compareOp op') r')(ha:PE X a ta)(hb:PE X b tb)(hc:PE X c tc)
  (hm:lastMarks [op,op'] [b,c]=false:=by with_unfolding_all rfl):PE X (.Compare a [op,op'] [b,c] pos) (gX r r' ta tb tc):=by
 intro pins s σ H Q I h
 refine Compare_chain (thn (ha pins s σ H _ I h) fun v s1 ⟨x,H1,I1,r1,q1⟩=>chain_link (thn (hb pins s1 σ H1 _ I1 q1) fun u s2 ⟨y,H2,I2,r2,q2⟩ =>
  thn (ho pins s2 σ H2 x y v u _ I2 r1 r2 q2) fun d s3 ⟨z,H3,I3,r3,k,e,q3⟩=>?_)) hm
 subst e
 cases r3
 refine wpAny_truthy_bool ?_
 cases k with
 | false=>exact ite_ff ⟨.bl false,H3,I3,rfl,q3⟩
 | true=>exact ite_tt (chain_last (thn (hc pins s3 σ H3 _ I3 q3) fun w' s4 ⟨z',H4,I4,r4,q4⟩=>ho' pins s4 σ H4 y z' u w' Q I4 r2 r4 q4))
theorem zbG {op op':CmpOp}{r r':R2}(ho:OpR X (compareOp op) r)(ho':OpR X (compareOp op') r')(ha:PE X a ta)(hb:PE X b tb)(hc:PE X c tc)
  (hm:lastMarks [op,op'] [b,c]=false:=by with_unfolding_all rfl):PT X (.Compare a [op,op'] [b,c] pos) (zeP (gX r r' ta tb tc)):=by
 intro pins s σ H Q I h
 refine isTrue_chain (thn (ha pins s σ H _ I h) fun v s1 ⟨x,H1,I1,r1,q1⟩=>test_link (thn (hb pins s1 σ H1 _ I1 q1) fun u s2 ⟨y,H2,I2,r2,q2⟩ =>
  thn (ho pins s2 σ H2 x y v u _ I2 r1 r2 q2) fun d s3 ⟨z,H3,I3,r3,k,e,q3⟩=>?_)) hm
 subst e
 cases r3
 refine wpAny_truthy_bool ?_
 cases k with
 | false =>
  obtain ⟨k',e',q'⟩:=q3
  cases e'
  exact ite_ff ⟨H3,I3,q'⟩
 | true =>
  refine ite_tt (test_last (thn (hc pins s3 σ H3 _ I3 q3) fun w' s4 ⟨z',H4,I4,r4,q4⟩=>thn (ho' pins s4 σ H4 y z' u w' _ I4 r2 r4 q4) fun d' s5 ⟨z2,H5,I5,r5,k2,e2,q5⟩=>?_))
  subst e2
  cases r5
  exact wpAny_truthy_bool ⟨H5,I5,q5⟩
theorem v5:(sizeLine:Nat) < 2 ^ 63:=by rw[sizeLine_eq];decide
theorem v6 {x:V}{us:List Value}(r:Vals [x] us):∃u,us=[u]/\RelV x u:=by
 cases r with
 | cons r1 r2=>cases r2;exact ⟨_,rfl,r1⟩
theorem zbH {x y:V}{us:List Value}(r:Vals [x,y] us):∃u w',us=[u,w']/\RelV x u/\RelV y w':=by
 cases r with
 | cons r1 r2 =>
  cases r2 with
  | cons r3 r4=>cases r4;exact ⟨_,_,rfl,r1,r3⟩
theorem zgk (hc:X.calm=true):CallR X (.builtin "max") (fun xs H Q=>∃i j,xs=[.int i,.int j]/\Q (.int (if j > i then j else i)) H):=by
 intro pins s σ H xs us Q I r h
 refine cps fun zP zk=>?_
 obtain ⟨i,j,rfl,q⟩:=h
 obtain ⟨u,w',rfl,⟨t,rfl⟩,⟨t',rfl⟩⟩:=zbH r
 refine zk ?_
 refine max_two_ints (I.ok.hd hc) fun h' tk k=>⟨_,H,I.kept k,?_,q⟩
 by_cases hj:j > i
 .rw[if_pos hj,if_pos hj];exact ⟨_,rfl⟩
 .rw[if_neg hj,if_neg hj];exact ⟨_,rfl⟩
theorem zaG (hc:X.calm=true):CallR X (.builtin "min") (fun xs H Q=>∃i j,xs=[.int i,.int j]/\Q (.int (if j < i then j else i)) H):=by
 intro pins s σ H xs us Q I r h
 obtain ⟨i,j,rfl,q⟩:=h
 obtain ⟨u,w',rfl,⟨t,rfl⟩,⟨t',rfl⟩⟩:=zbH r
 refine min_two_ints (I.ok.hd hc) fun h' tk k=>⟨_,H,I.kept k,?_,q⟩
 by_cases hj:j < i
 .rw[if_pos hj,if_pos hj];exact ⟨_,rfl⟩
 .rw[if_neg hj,if_neg hj];exact ⟨_,rfl⟩
theorem vn:CallR X (.type "int") (fun xs H Q=>(∃i,xs=[.int i]/\Q (.int i) H)\/∃k,xs=[.bl k]/\Q (.int (if k then 1 else 0)) H):=by
 intro pins s σ H xs us Q I r h
 rcases h with ⟨i,rfl,q⟩ | ⟨k,rfl,q⟩
 .obtain ⟨u,rfl,t,rfl⟩:=v6 r
  exact call_int_int ⟨.int i,H,I,⟨_,rfl⟩,q⟩
 .obtain ⟨u,rfl,r1⟩:=v6 r
  cases r1
  exact call_int_bool ⟨.int (if k then 1 else 0),H,I.tok _,⟨_,rfl⟩,q⟩
end
structure ObjM (h:Heap)(x dx C:Addr)(mA:Str->Option Value):Prop where
 obj:h.get? x=some (PySem.W.instObj C dx)
 ns:h.Ns1 dx mA
 ne:dx≠x
set_option tactic.hygienic true in
theorem zaH {h:Heap}{dx:Addr}{mA:Str->Option Value}(n:h.Ns1 dx mA):∃od,h.get? dx=some od/\∀name,PySem.W.lookIn name od=some (mA name):=by
 refine cps fun zP zk=>?_
 obtain ⟨o,es,ep,ho,hd,hk,_,hm⟩:=n
 refine zk ?_
 refine ⟨o,ho,fun name=>?_⟩
 have e:=hm name
 unfold nsFind findBy at e
 rw[<- Array.find?_toList] at e
 unfold PySem.W.lookIn
 rw[hd]
 dsimp only
 split
 .rename_i y q
  rw[q] at e
  exact congrArg some e
 .rename_i q
  rw[q] at e
  have a:es.toList.any (·.refKey)=false:=by
   rw[List.any_eq_false]
   intro y hy
   obtain ⟨z,t,hkey⟩:=hk y (Array.mem_toList_iff.mp hy)
   simp[DictEntry.refKey,hkey]
  have a':¬ es.toList.any (·.refKey)=true:=by rw[a];exact Bool.false_ne_true
  rw[if_neg a']
  exact congrArg some e
theorem ObjM.look {h:Heap}{x dx C:Addr}{mA:Str->Option Value}(I:ObjM h x dx C mA):∃od,PySem.W.InstAt h x (PySem.W.instObj C dx) C (some od)/\∀name,PySem.W.lookIn name od=some (mA name) :=
 let ⟨od,ho,hl⟩:=zaH I.ns
 ⟨od,⟨I.obj,rfl,rfl,ho⟩,hl⟩
section
variable {P:Program}{w:World}{H:Hp}{h:Heap}{a C dx:Addr}{fs:List (Str×V)}
theorem zdy (hok:HOk P w H h)(e:H a=some (.ins C dx fs)):∃mA,ObjM h a dx C mA/\(∀f,zfc (fs.lookup f) (mA f))/\PySem.Within mA (fs.map (·.1))/\fs.length<=1000/\H dx=some (.own a):=by
 refine cps fun zP zk=>?_
 obtain ⟨d,z,ne,ob,mA,n,r,q⟩:=(show ObjOk P w H h a (.ins C dx fs) from hok a _ e)
 refine zk ?_
 exact ⟨mA,⟨ob,n,ne⟩,r,q,z,d⟩
end
structure Cls (K:PySem.W.Frag)(C:Addr):Prop where
 pg:PySem.W.plainGet K C Str.empty=true
 hd:PySem.W.hasDictIn K C=true
 po:PySem.W.plainOver K C=true
 sa:PySem.W.findIn K (.ref C) "__setattr__" = some (some (.builtin "object.__setattr__"))
theorem Cls.get {K:PySem.W.Frag}{C:Addr}(c:Cls K C)(f:Str):PySem.W.plainGet K C f=true:=c.pg
section
variable {X:Cx}{pins:List (Addr×Obj)}{σ:St}{H:Hp}{s:Shared}{A:Around}{E:Value->Shared->Prop}{Q:Value->Shared->Prop}{c:Value}{b:Bool}
inductive TyOf (K:PySem.W.Frag)(H:Hp):V->Value->Prop where
 | non:TyOf K H .non (.type "NoneType")
 | bl (x:Bool):TyOf K H (.bl x) (.type "bool")
 | int (i:Int):TyOf K H (.int i) (.type "int")
 | str (x:Str):TyOf K H (.str x) (.type "str")
 | flt (x:UInt64):TyOf K H (.flt x) (.type "float")
 | lst {a:Addr}{xs:List V}(e:H a=some (.lst xs)):TyOf K H (.ref a) (.type "list")
 | frz {a:Addr}{o:Obj}{xs:List V}(e:H a=some (.frz o (.lst xs))):TyOf K H (.ref a) (.type "list")
 | tup {a:Addr}{xs:List V}(e:H a=some (.tup xs)):TyOf K H (.ref a) (.type "tuple")
 | dK {a:Addr}{kvs:List (Key×V)}(e:H a=some (.dK kvs)):TyOf K H (.ref a) (.type "dict")
 | dT {a:Addr}{kvs:List (List Key×V)}(e:H a=some (.dT kvs)):TyOf K H (.ref a) (.type "dict")
 | ins {a C dx:Addr}{fs:List (Str×V)}(e:H a=some (.ins C dx fs)) (cl:Cls K C) (ha:PySem.W.findIn K (.ref C) "__class__" = some (some (.builtin "object.__class__")))
   (hn:PySem.W.specialIn K (.builtin "object.__class__") "__get__" = some (some (.builtin "getset_descriptor.__get__"))) (htk:PySem.W.takesIn K (.builtin "object.__class__")=some true)
   (hm:PySem.W.mroIn K C (.type "object")=some true):TyOf K H (.ref a) (.ref C)
theorem xK {x:V}{u t:Value}(I:Inv X pins σ H s)(rx:RelV x u)(ty:TyOf X.K H x t)(e:PySem.W.kitOne X.K t c=some b)(h:∀tk,Q (.bool b) { s with toks:=tk }):
  wpAny (model X.prog X.w) A (call (.builtin "isinstance") [u,c]) Q E s:=by
 cases ty with
 | non=>cases (show u=Value.none from rx);exact PySem.W.kia_one PySem.W.kitx_none I.kIn True.intro e (fun z=>nomatch z) h
 | bl y=>cases (show u=Value.bool y from rx);exact PySem.W.kia_one PySem.W.kitx_bool I.kIn True.intro e (fun z=>nomatch z) h
 | int i=>obtain ⟨t,q⟩:=(show ∃t,u=Value.int i t from rx);cases q;exact PySem.W.kia_one PySem.W.kitx_int I.kIn True.intro e (fun z=>nomatch z) h
 | str y=>obtain ⟨t,q⟩:=(show ∃t,u=Value.str y t from rx);cases q;exact PySem.W.kia_one PySem.W.kitx_str I.kIn True.intro e (fun z=>nomatch z) h
 | flt y=>obtain ⟨t,q⟩:=(show ∃t,u=Value.float y t from rx);cases q;exact PySem.W.kia_one PySem.W.kitx_float I.kIn True.intro e (fun z=>nomatch z) h
 | @lst a xs ea =>
  cases (show u=Value.ref a from rx)
  refine cps fun zP zk=>?_
  obtain ⟨_,_,n,_,h1⟩:=(show ObjOk X.prog X.w H s.heap a (.lst xs) from I.hok a _ ea)
  refine zk ?_
  exact PySem.W.kia_one PySem.W.kitx_list I.kIn ⟨_,h1,rfl⟩ e (fun z=>nomatch z) h
 | @frz a ob xs ea =>
  cases (show u=Value.ref a from rx)
  refine cps fun zP zj=>?_
  obtain ⟨_,_,_,n,_,h1⟩:=(show ObjOk X.prog X.w H s.heap a (.frz ob (.lst xs)) from I.hok a _ ea)
  refine zj ?_
  exact PySem.W.kia_one PySem.W.kitx_list I.kIn ⟨_,h1,rfl⟩ e (fun z=>nomatch z) h
 | @tup a xs ea =>
  cases (show u=Value.ref a from rx)
  refine cps fun zP zi=>?_
  obtain ⟨_,_,_,p⟩:=(show ObjOk X.prog X.w H s.heap a (.tup xs) from I.hok a _ ea)
  obtain ⟨o,h1,h2,_⟩:=p
  refine zi ?_
  exact PySem.W.kia_one PySem.W.kitx_tuple I.kIn ⟨o,h1,h2⟩ e (fun z=>nomatch z) h
 | @dK a kvs ea =>
  cases (show u=Value.ref a from rx)
  refine cps fun zP zh=>?_
  obtain ⟨_,_,vs,_,p⟩:=(show ObjOk X.prog X.w H s.heap a (.dK kvs) from I.hok a _ ea)
  obtain ⟨o,es,ep,h1,h2,_⟩:=p
  refine zh ?_
  exact PySem.W.kia_one PySem.W.kitx_dict I.kIn ⟨o,h1,h2.1⟩ e (fun z=>nomatch z) h
 | @dT a kvs ea =>
  cases (show u=Value.ref a from rx)
  refine cps fun zP zg=>?_
  obtain ⟨_,_,xs,_,o,es,ep,h1,h2,_⟩:=(show ObjOk X.prog X.w H s.heap a (.dT kvs) from I.hok a _ ea)
  refine zg ?_
  exact PySem.W.kia_one PySem.W.kitx_dict I.kIn ⟨o,h1,h2.1⟩ e (fun z=>nomatch z) h
 | @ins a C dx fs ea cl ha hn htk hm =>
  cases (show u=Value.ref a from rx)
  refine cps fun zP zf=>?_
  obtain ⟨mA,O,_⟩:=zdy I.hok ea
  obtain ⟨od,J,_⟩:=O.look
  refine zf ?_
  exact PySem.W.kia_one (PySem.W.kitx_own (cl.get _) cl.hd ha hn htk hm) I.kIn J e (fun z=>nomatch z) h
end
structure Room (k:Nat)(A:Around):Prop where
 hd:A.handled=none
 dp:A.depth+3 * k+5 < recursionLimit
 un:A.units+16 * k+200 < cLine
theorem Room.deeper {k:Nat}{A:Around}(r:Room (k+1) A)(env:Env):Room k (A.deeper env) :=
 ⟨r.hd,by have:=r.dp;show A.depth+1+3 * k+5 < _;lia,by have:=r.un;show A.units+3+16 * k+200 < _;lia⟩
theorem Room.depth {k:Nat}{A:Around}(r:Room k A):A.depth < recursionLimit:=by have:=r.dp;lia
theorem Room.units {k:Nat}{A:Around}(r:Room k A):A.units+64 < cLine:=by have:=r.un;lia
noncomputable def zdz:TA:=fun _ H Q=>Q [] H
noncomputable def jX (ta:TE)(tr:TA):TA:=fun σ H Q=>ta σ H fun x H1=>tr σ H1 fun xs H2=>Q (x::xs) H2
section
variable {X:Cx}{e:Expr}{es:List Expr}{te:TE}{t:TA}{pos:Pos}
theorem yk:PA X [] zdz:=fun _ _ _ _ H Q I h=>Calls.spliced_nil ⟨[],H,I,.nil,h⟩
theorem zD (ha:PE X e te)(hr:PA X es t)(hs:starEach (e::es) X.env=(false,eval e X.env)::starEach es X.env:=by rfl):PA X (e::es) (jX te t):=by
 intro pos pins s σ H Q I h
 rw[hs]
 show wpAny _ _ (spliced ((false,eval e X.env)::backTo pos (starEach es X.env))) _ _ s
 refine Calls.spliced_cons (thn (ha pins s σ H _ I h) fun u s1 ⟨x,H1,I1,r1,q1⟩=>?_)
 exact thn (hr pos pins s1 σ H1 _ I1 q1) fun us s2 ⟨xs,H2,I2,r2,q2⟩=>⟨x::xs,H2,I2,.cons r1 r2,q2⟩
noncomputable def tTup (t:TA):TE:=fun σ H Q=>t σ H fun xs H1=>xs.length<=sizeLine/\∀p,H1 p=none->Q (.ref p) (upd H1 p (.tup xs))
noncomputable def tLst (t:TA):TE:=fun σ H Q=>t σ H fun xs H1=>xs.length<=sizeLine/\∀p,H1 p=none->Q (.ref p) (upd H1 p (.lst xs))
theorem zbI {x1}(h:PA X es t):PE X (.Tuple es x1 pos) (tTup t):=by
 intro pins s σ H Q I hq
 refine wpAny_Tuple_spliced (thn (h pos pins s σ H _ I hq) fun us s1 ⟨xs,H1,I1,r,z,q⟩=>⟨by rw[<- r.length];exact z,?_⟩)
 have hf:H1 s1.heap.objs.size=none:=I1.hok.fresh (Nat.le_refl _)
 refine ⟨.ref s1.heap.objs.size,upd H1 s1.heap.objs.size (.tup xs),I1.laid (t':=s1.toks) (fun b u e=>Heap.get?_push_of_some _ e) (Nat.le_refl _) ?_,rfl,q _ hf⟩
 exact ⟨z,us,r,⟨_,Heap.get?_push_size _ rfl,rfl,_,rfl⟩⟩
theorem zbJ (h:PA X es t):PE X (.List es pos) (tLst t):=by
 intro pins s σ H Q I hq
 refine wpAny_List_spliced (thn (h pos pins s σ H _ I hq) fun us s1 ⟨xs,H1,I1,r,z,q⟩=>⟨by rw[<- r.length];exact z,?_⟩)
 have hf:H1 s1.heap.objs.size=none:=I1.hok.fresh (Nat.le_refl _)
 refine ⟨.ref s1.heap.objs.size,upd H1 s1.heap.objs.size (.lst xs),I1.laid (t':=s1.toks) (fun b u e=>Heap.get?_push_of_some _ e) (Nat.le_refl _) ?_,rfl,q _ hf⟩
 exact ⟨z,us,0,r,Heap.get?_push_size _ rfl⟩
end
noncomputable abbrev Sp:=List V->Hp->VK->XK->Prop
noncomputable abbrev CXT:=List Env->Hp->Shared->XK->Value->Shared->Prop
structure Env0 (P:Program)(w:World)(K:PySem.W.Frag)(mg:Str->Option Value)(base:Heap)(A:Around)(outer:List Env)(s:Shared)(H:Hp):Prop where
 frames:A.frames=some outer
 mod:Mod K mg base
 bs:∀b o,base.get? b=some o->s.heap.get? b=some o/\H b=none
 bsz:base.objs.size<=s.heap.objs.size
 funs:s.heap.FunFrames base outer
 frf:∀b∈frs outer,H b=none
 hok:HOk P w H s.heap
 bare:AllBare s.gens
noncomputable def CE (outer:List Env)(P:Program)(w:World)(H:Hp)(s:Shared)(Q:VK)(u:Value)(s':Shared):Prop :=
 ∃v H',s'.os=s.os/\AllBare s'.gens/\Un (frs outer) [] H H' s.heap s'.heap/\HOk P w H' s'.heap/\RelV v u/\Q v H'
noncomputable def CR (CX:CXT)(outer:List Env)(P:Program)(w:World)(H:Hp)(s:Shared)(Q:VK)(E:XK)(r:Result)(s':Shared):Prop :=
 match r with
 | .ok (.ret u)=>CE outer P w H s Q u s'
 | .ok _=>False
 | .error e=>CX outer H s E e s'
structure FnOk (P:Program)(w:World)(K:PySem.W.Frag)(mg:Str->Option Value)(base:Heap)(CX:CXT)(k:Nat)(f:Addr)(fd:FuncData)(ps:List Str)(sp:Sp):Prop where
 len:∀vs H Q E,sp vs H Q E->vs.length=ps.length
 run:∀ (A:Around) (outer:List Env) (s:Shared) (H:Hp) (args:Args) (us:List Value) (vs:List V) (Q:VK) (E:XK),Room k A->Env0 P w K mg base A outer s H->BindsTo s fd args (ps.zip us)->Vals vs us->sp vs H Q E ->
  codeAny (model P w) A (.call (.ref f) args) (CR CX outer P w H s Q E) s
section
variable {X:Cx}{pins:List (Addr×Obj)}{σ:St}{H:Hp}{s s':Shared}
theorem Inv.env0 (I:Inv X pins σ H s):Env0 X.prog X.w X.K X.mg X.base X.A X.stack s H :=
 ⟨I.ok.frames,I.ok.mod,I.bs,Nat.le_trans I.ok.bsz I.sz,I.stack,I.stkFree,I.hok,I.bare⟩
theorem Inv.after {Q:VK}{u:Value}(I:Inv X pins σ H s)(h:CE X.stack X.prog X.w H s Q u s'):EP X pins σ Q u s':=by
 obtain ⟨v,H',os,bare,un,hok,r,q⟩:=h
 obtain ⟨hh,g,d,t,os'⟩:=s'
 obtain rfl:os'=s.os:=os
 exact ⟨v,H',I.call (h':=hh) (g':=g) (d':=d) (t':=t) (ch:=[]) un hok bare (fun b z=>absurd z (by simp)),r,q⟩
end
noncomputable def zgI (sp:Sp)(dvs:List V)(E:XK)(t:TA):TE:=fun σ H Q=>t σ H fun vs H1=>sp (vs++dvs) H1 Q E
noncomputable def Binds (K:PySem.W.Frag)(fd:FuncData)(ps:List Str)(ds:List Value):Prop :=
 ∀ (s:Shared) (us:List Value),K.In s.heap->(us++ds).length=ps.length->BindsTo s fd ⟨us,[]⟩ (ps.zip (us++ds))
theorem Binds.all {K:PySem.W.Frag}{fd:FuncData}{ps:List Str}(h:∀us:List Value,us.length=ps.length->bindArgs fd ⟨us,[]⟩=pure (ps.zip us)):Binds K fd ps []:=fun s us _ hl=>by
 rw[List.append_nil] at hl ⊢
 exact .of_eq (h us hl)
noncomputable def v7 (CX:CXT)(X:Cx)(E:XK):Prop:=∀ (pins:List (Addr×Obj)) (σ:St) (H:Hp) (s:Shared) (e:Value) (s':Shared),Inv X pins σ H s->CX X.stack H s E e s'->X.xe e s'
section
variable {X:Cx}{CX:CXT}{k:Nat}{f:Addr}{fd:FuncData}{ps:List Str}{sp:Sp}{dvs:List V}{ds:List Value}{E:XK}{x:Str}{p pos:Pos}{e:Expr}{es:List Expr}{t:TA}
theorem zfu {pins:List (Addr×Obj)}{σ:St}{H:Hp}{s:Shared}{Q:VK}{us:List Value}{vs:List V}(F:FnOk X.prog X.w X.K X.mg X.base CX k f fd ps sp)(hr:Room k X.A)(hb:Binds X.K fd ps ds)(hd:Vals dvs ds)(hx:v7 CX X E)
  (I:Inv X pins σ H s) (r:Vals vs us) (h:sp (vs++dvs) H Q E):wpAny (model X.prog X.w) X.A (call (.ref f) us) (EP X pins σ Q) X.xe s:=by
 have r2:Vals (vs++dvs) (us++ds):=r.append hd
 have hl:(us++ds).length=ps.length:=by rw[<- r2.length];exact F.len _ _ _ _ h
 refine wpAny_call (codeAny_mono (F.run X.A X.stack s H ⟨us,[]⟩ (us++ds) (vs++dvs) Q E hr I.env0 (hb s us I.kIn hl) r2 h) fun r s' hq=>?_)
 cases r with
 | error e=>exact hx pins σ H s e s' I hq
 | ok fl =>
  cases fl with
  | ret u=>exact I.after hq
  | next=>exact False.elim hq
  | brk=>exact False.elim hq
  | cont=>exact False.elim hq
theorem zdA (F:FnOk X.prog X.w X.K X.mg X.base CX k f fd ps sp)(hr:Room k X.A)(hg:Gl X x)(hm:X.mg x=some (.ref f))(hk:PySem.W.keepIn X.K (.ref f)=true)(hb:Binds X.K fd ps ds)(hd:Vals dvs ds)(hx:v7 CX X E)
  (ha:PA X (e::es) t) (hdb:(x == ("__debug__" : Str))=false:=by decide) (he:starEach (e::es) X.env=(false,eval e X.env)::starEach es X.env:=by rfl) (hpl:(backTo pos (starEach es X.env)).any (·.1)=false:=by rfl) :
  PE X (.Call (.Name x p) (e::es) [] pos) (zgI sp dvs E t):=by
 intro pins s σ H Q I h
 refine wpAny_Call_Name_kw (vR I hg hm ?_ hdb)
 refine PySem.W.callWith_K (h₀:=X.base) I.ok.mod.kin hk (thn (ha pos pins s σ H _ I h) fun us s1 ⟨vs,H1,I1,r,q⟩=>⟨I1.kIn,?_⟩) he hpl
 exact zfu F hr hb hd hx I1 r q
end
structure FnScope (N P:List Str)(sc:Scope):Prop where
 kind:sc.kind=.function
 co:sc.isCoroutine=false
 gen:sc.isGenerator=false
 nd:N.Nodup
 pre:N.take P.length=P
 par:∀x∈P,sc.names.lookup x=some .local\/sc.names.lookup x=some .cell
 nofree:∀y∈sc.names,y.2≠.free
theorem kW {kindOf:Str->Option NameKind}{x:Str}:∀ {binds:List (Str×Value)}{m:Str->Option Value},(∀v,(x,v)∉binds)->bindL kindOf binds m x=m x
 | [],_,_=>rfl
 | (n,v)::r,m,h=>by
  unfold bindL
  rw[kW fun w hw=>h w (List.mem_cons_of_mem _ hw)]
  split
  .have:x≠n:=by rintro rfl;exact h v List.mem_cons_self
   simp[this]
  .rfl
theorem kX {kindOf:Str->Option NameKind}{x:Str}:∀ {binds:List (Str×Value)}{m:Str->Option Value},(∀v,(x,v)∉binds)->bindC kindOf binds m x=m x
 | [],_,_=>rfl
 | (n,v)::r,m,h=>by
  unfold bindC
  rw[kX fun w hw=>h w (List.mem_cons_of_mem _ hw)]
  split
  .rfl
  .have:x≠n:=by rintro rfl;exact h v List.mem_cons_self
   simp[this]
theorem kY {kindOf:Str->Option NameKind}{x:Str}{v:Value}:∀ {P:List Str}{vs:List Value}{i:Nat}{m:Str->Option Value},P.Nodup->P[i]?=some x->vs[i]?=some v->kindOf x=some .local ->
  bindL kindOf (P.zip vs) m x=some v
 | [],_,_,_,_,h,_,_=>by simp at h
 | _::_,[],_,_,_,_,h,_=>by simp at h
 | p::P,w::vs,0,m,nd,h1,h2,hk=>by
  simp at h1 h2;subst h1;subst h2
  show bindL kindOf ((p,w)::P.zip vs) m p=_
  unfold bindL
  rw[kW fun v hv=>(List.nodup_cons.mp nd).1 (List.of_mem_zip hv).1,if_pos hk]
  simp
 | p::P,w::vs,i+1,m,nd,h1,h2,hk=>by
  show bindL kindOf ((p,w)::P.zip vs) m x=_
  unfold bindL
  exact kY (i:=i) (List.nodup_cons.mp nd).2 (by simpa using h1) (by simpa using h2) hk
theorem kZ {kindOf:Str->Option NameKind}{x:Str}{v:Value}:∀ {P:List Str}{vs:List Value}{i:Nat}{m:Str->Option Value},P.Nodup->P[i]?=some x->vs[i]?=some v->kindOf x≠some .local ->
  bindC kindOf (P.zip vs) m x=some v
 | [],_,_,_,_,h,_,_=>by simp at h
 | _::_,[],_,_,_,_,h,_=>by simp at h
 | p::P,w::vs,0,m,nd,h1,h2,hk=>by
  simp at h1 h2;subst h1;subst h2
  show bindC kindOf ((p,w)::P.zip vs) m p=_
  unfold bindC
  rw[kX fun v hv=>(List.nodup_cons.mp nd).1 (List.of_mem_zip hv).1,if_neg hk]
  simp
 | p::P,w::vs,i+1,m,nd,h1,h2,hk=>by
  show bindC kindOf ((p,w)::P.zip vs) m x=_
  unfold bindC
  exact kZ (i:=i) (List.nodup_cons.mp nd).2 (by simpa using h1) (by simpa using h2) hk
noncomputable def start (N:List Str)(vs:List V):St:=vs.map some++List.replicate (N.length - vs.length) none
noncomputable def wZ (CX:CXT)(P:Program)(w:World)(K:PySem.W.Frag)(mg:Str->Option Value)(base:Heap)(N:List Str)(qual:Str)(scope:Scope)(f:Addr)(cd:Value)(A:Around)(outer:List Env)(s:Shared)(H:Hp)(E:XK):Cx where
 prog:=P
 w:=w
 K:=K
 mg:=mg
 base:=base
 A:=A.deeper (envOfC qual scope s.heap.objs.size f cd)
 N:=N
 s₀:=s
 H₀:=H
 env:=envOfC qual scope s.heap.objs.size f cd
 outer:=outer
 stack:=envOfC qual scope s.heap.objs.size f cd::outer
 ex:=[]
 calm:=true
 fn:=fun _=>true
 pn:=[]
 xe:=fun e s'=>wpAny (model P w) (A.deeper (envOfC qual scope s.heap.objs.size f cd)) (leaving (envOfC qual scope s.heap.objs.size f cd) e) (fun _ s''=>CX outer H s E e s'') (fun e' s''=>CX outer H s E e' s'') s'
theorem jY {sc:Scope}{n:Nat}{x:Str}(h:sc.names.lookup x=some .cell):∃c,(cellsFrom n sc.names []).lookup x=some c:=by
 have q:=PySem.W.cellsFrom_some sc.names n [] (.inl h)
 exact Option.isSome_iff_exists.mp q
theorem zaI {CX:CXT}{P:Program}{w:World}{K:PySem.W.Frag}{mg:Str->Option Value}{base:Heap}{N ps:List Str}{qual:Str}{scope:Scope}{f:Addr}{cd:Value}{A:Around}{outer:List Env}{s s1:Shared}{H:Hp}{E:XK}{us:List Value}{vs:List V}
  (S:FnScope N ps scope) (hd:A.handled=none) (e0:Env0 P w K mg base A outer s H) (hl:vs.length=ps.length) (r:Vals vs us)
  (x:InCallC s s.heap.objs.size (bindL (envOfC qual scope s.heap.objs.size f cd).kindOf (ps.zip us) fun _=>none) (cellsFrom (s.heap.objs.size+1) scope.names []) (bindC (envOfC qual scope s.heap.objs.size f cd).kindOf (ps.zip us) fun _=>none) s1) :
  Inv (wZ CX P w K mg base N qual scope f cd A outer s H E) [] (start N vs) H s1:=by
 have hpl:ps.length<=N.length:=by have:=congrArg List.length S.pre;rw[List.length_take] at this;lia
 obtain ⟨h1,tk,rfl,hk⟩:=x.done
 have noA:∀b:Addr,b∉(wZ CX P w K mg base N qual scope f cd A outer s H E).ex:=fun b z=>absurd (show b∈([]:List Addr) from z) (by simp)
 refine ⟨⟨e0.mod,S.kind,rfl,rfl,Nat.le_refl _,fun y z c h1 h2=>?_,fun y hy=>?_,fun y c _ h=>?_,fun _=>hd,Around.frames_deeper e0.frames,.inr ⟨rfl,rfl⟩,fun b z=>absurd z (noA b),e0.bs,e0.bsz,fun b _ _=>noA b,fun b z=>absurd z (noA b),e0.funs,e0.frf⟩,
  rfl,e0.bare,Un.kept hk,⟨_,x.toInCall.ns,fun i y v h1 h2 h3=>?_⟩,fun y c h=>⟨_,x.cell y c h⟩,e0.hok.fresh (Nat.le_refl _),fun y c h=>?_,fun p hp=>absurd (show p∈([]:List (Addr×Obj)) from hp) (by simp),e0.hok.kept hk,?_⟩
 .exact name_of_addr x.apart (PySem.mem_of_lookup h1) (PySem.mem_of_lookup h2)
 .have hy:scope.names.lookup y=some .cell\/scope.names.lookup y=some .free:=hy
  rcases hy with hy | hy
  .exact jY hy
  .exact absurd rfl (S.nofree _ (PySem.mem_of_lookup hy))
 .exact Nat.le_of_lt (x.above y c (PySem.mem_of_lookup h))
 .have hi:i < vs.length:=by
   unfold start at h2
   by_cases hi:i < vs.length
   .exact hi
   .rw[List.getElem?_append_right (by simpa using hi)] at h2
    rw[List.getElem?_replicate] at h2
    split at h2 <;> cases h2
  have ha:vs[i]?=some v:=by
   unfold start at h2
   rw[List.getElem?_append_left (by simpa using hi),List.getElem?_map] at h2
   cases e:vs[i]? with
   | none=>rw[e] at h2;cases h2
   | some a=>rw[e] at h2;cases h2;rfl
  obtain ⟨u,hu,rv⟩:=r.get ha
  have hp:ps[i]?=some y:=by
   rw[<- S.pre,List.getElem?_take_of_lt (by lia)];exact h1
  have ndP:ps.Nodup:=by rw[<- S.pre];exact S.nd.sublist (List.take_sublist _ _)
  refine ⟨u,rv,?_⟩
  rcases S.par y (List.mem_of_getElem? hp) with k | k
  .exact .inl ⟨k,kY ndP hp hu k⟩
  .obtain ⟨c,e⟩:=jY (n:=s.heap.objs.size+1) k
   refine .inr ⟨.inl k,c,e,?_⟩
   have q:=x.cell y c e
   rw[kZ ndP hp hu (by show scope.names.lookup y≠_;rw[k];decide)] at q
   exact q
 .exact e0.hok.fresh (Nat.le_of_lt (x.above y c (PySem.mem_of_lookup h)))
 .unfold start
  show _=N.length
  rw[List.length_append,List.length_map,List.length_replicate]
  lia
theorem zeQ {CX:CXT}{P:Program}{w:World}{K:PySem.W.Frag}{mg:Str->Option Value}{base:Heap}{k:Nat}{f:Addr}{name qual:Str}{params:Arguments}{body:List Stmt}{scope:Scope}{dV kV doc pm cdv ct oc:Value}{an od:Option Addr}
  {osl:Array (Option Value)}{N ps:List Str}{sp:Sp}(lk:K.lookup f=some ⟨oc,od,.func (PySem.W.fnOf name qual params body scope dV kV doc pm an cdv ct),osl⟩) (hcd:PySem.W.codeIn K cdv qual=true) (S:FnScope N ps scope)
  (len:∀vs H Q E,sp vs H Q E->vs.length=ps.length)
  (hbody:∀ (A:Around) (outer:List Env) (s:Shared) (H:Hp) (vs:List V) (Q:VK) (E:XK),Room k (A.deeper (envOfC qual scope s.heap.objs.size f cdv))->sp vs H Q E ->
   ∃t,PSs (wZ CX P w K mg base N qual scope f cdv A outer s H E) body t/\t { nx:=fun _ H'=>Q .non H',rt:=Q } (start N vs) H) :
  FnOk P w K mg base CX (k+1) f (PySem.W.fnOf name qual params body scope dV kV doc pm an cdv ct) ps sp:=by
 refine ⟨len,fun A outer s H args us vs Q E hr e0 hb r hsp=>?_⟩
 have hl:=len _ _ _ _ hsp
 have KX:K.In s.heap:=e0.mod.kin.keeps fun b o e=>(e0.bs b o e).1
 have lim:s.heap.NoLimit:=e0.mod.nolimit.keeps fun b o e=>(e0.bs b o e).1
 have hkind:∀y∈ps.zip us,scope.names.lookup y.1=some .local\/(scope.names.lookup y.1=some .cell/\((cellsFrom (s.heap.objs.size+1) scope.names []).lookup y.1).isSome=true):=fun ⟨n,v⟩ hy=>by
  rcases S.par n (List.of_mem_zip hy).1 with q | q
  .exact .inl q
  .exact .inr ⟨q,PySem.W.cellsFrom_some _ _ _ (.inl q)⟩
 refine codeAny_call_function hr.depth (KX _ _ lk) rfl S.co S.gen rfl (PySem.W.codeRec_of KX hcd) (hb _ _ _ _ ?_)
 refine wpAny_newFunctionEnv_cells S.kind hkind fun env he s1 x=>?_
 subst he
 refine ⟨lim.keeps x.toInCall.keep,codeAny_func ?_⟩
 obtain ⟨t,ht,hq⟩:=hbody A outer s H vs Q E (hr.deeper _) hsp
 have I:Inv (wZ CX P w K mg base N qual scope f cdv A outer s H E) [] (start N vs) H s1:=zaI S hr.hd e0 hl r x
 refine wpAny_mono (ht [] s1 (start N vs) H _ I hq) (fun fl s' hs=>?_) fun e s' hs=>hs
 have fin:∀ {σ':St}{H':Hp}{v:V}{u:Value},Inv (wZ CX P w K mg base N qual scope f cdv A outer s H E) [] σ' H' s'->RelV v u->Q v H'->CE outer P w H s Q u s' :=
  fun {σ' H' v u} J rv q=>⟨v,H',J.os,J.bare,J.base,J.hok,rv,q⟩
 cases fl with
 | ret u =>
  obtain ⟨v,σ',H',J,rv,q⟩:=hs
  exact fin J rv q
 | next =>
  obtain ⟨σ',H',J,q⟩:=hs
  exact fin (v:=V.non) (u:=Value.none) J rfl q
 | brk =>
  obtain ⟨_,_,_,q⟩:=hs
  exact False.elim q
 | cont =>
  obtain ⟨_,_,_,q⟩:=hs
  exact False.elim q
section
variable {X:Cx}{x:Str}{p pos:Pos}{e:Expr}{es:List Expr}{t:TA}{id T:String}{r:List V->Hp->VK->Prop}
noncomputable def tCB (r:List V->Hp->VK->Prop)(t:TA):TE:=fun σ H Q=>t σ H fun vs H1=>r vs H1 Q
theorem yB (hc:CallR X (.builtin id) r)(hg:Gl X x)(hm:X.mg x=none)(hv:bootBuiltins x=some (.builtin id))(ha:PA X (e::es) t)(hn:x ≠ "__name__" := by decide)(hdb:(x == ("__debug__" : Str))=false:=by decide)
  (he:starEach (e::es) X.env=(false,eval e X.env)::starEach es X.env:=by rfl) (hpl:(backTo pos (starEach es X.env)).any (·.1)=false:=by rfl):PE X (.Call (.Name x p) (e::es) [] pos) (tCB r t):=by
 intro pins s σ H Q I h
 refine wpAny_Call_Name_kw (we I hg hm hv ?_ hn hdb)
 exact PyProof.Rows.callWith_builtin1 (thn (ha pos pins s σ H _ I h) fun us s1 ⟨vs,H1,I1,r1,q1⟩=>hc pins s1 σ H1 vs us Q I1 r1 q1) he hpl
theorem wt (hc:CallR X (.type T) r)(hg:Gl X x)(hm:X.mg x=none)(hv:bootBuiltins x=some (.type T))(ha:PA X (e::es) t)(hn:x ≠ "__name__" := by decide)(hdb:(x == ("__debug__" : Str))=false:=by decide)
  (he:starEach (e::es) X.env=(false,eval e X.env)::starEach es X.env:=by rfl) (hpl:(backTo pos (starEach es X.env)).any (·.1)=false:=by rfl):PE X (.Call (.Name x p) (e::es) [] pos) (tCB r t):=by
 intro pins s σ H Q I h
 refine wpAny_Call_Name_kw (we I hg hm hv ?_ hn hdb)
 exact PyProof.Rows.callWith_type1 (thn (ha pos pins s σ H _ I h) fun us s1 ⟨vs,H1,I1,r1,q1⟩=>hc pins s1 σ H1 vs us Q I1 r1 q1) he hpl
end
end L2
namespace HT
open PySem PyProof.Rows
section
variable {prog:Program}{w:World}{A:Around}{E:Value->Shared->Prop}{s:Shared}
theorem cat_tup {t b:Addr}{vs ws:List Value}{Q:Value->Shared->Prop}(ht:IsTup s.heap t vs.toArray)(hb:IsTup s.heap b ws.toArray)(hv:vs≠[])
  (h1:ws=[]->Q (.ref t) s) (h2:ws≠[]->Q (.ref s.heap.objs.size) { s with heap:=s.heap.push { cls:=.type "tuple",data:=.seq (vs++ws).toArray } })
  (hsz:vs.length+ws.length<=sizeLine):wpAny (model prog w) A (binaryOp .Add (.ref t) (.ref b)) Q E s:=by
 refine cps fun zP zk=>?_
 obtain ⟨⟨cls,dd,data,sl⟩,ho,hc,n,hd⟩:=id ht
 obtain ⟨⟨cls2,dd2,data2,sl2⟩,ho2,hc2,n2,hd2⟩:=id hb
 refine zk ?_
 simp only at hc hd hc2 hd2
 subst hc hd hc2 hd2
 have e:vs.toArray++ws.toArray=(vs++ws).toArray:=by simp
 by_cases hw:ws=[]
 .exact concat_meets ⟨_,ho,rfl⟩ ⟨_,ho2,rfl⟩ noFill_tuple_add seq_tuple_add PySem.F.slot_tuple_add PySem.F.entry_tuple_add (PySem.F.args_tuple_add_2 _ _)
   (tuple_addW1 t b vs.toArray ws.toArray n n2 dd dd2 sl sl2 (by simpa using hv) (by simp[hw])) ⟨ho,ho2,h1 hw⟩
 .refine concat_meets ⟨_,ho,rfl⟩ ⟨_,ho2,rfl⟩ noFill_tuple_add seq_tuple_add PySem.F.slot_tuple_add PySem.F.entry_tuple_add (PySem.F.args_tuple_add_2 _ _)
   (tuple_addW2 t b vs.toArray ws.toArray n n2 dd dd2 sl sl2 (by simpa using hv) (by simpa using hw) (by rw[List.size_toArray,List.size_toArray];exact hsz)) ⟨ho,ho2,?_⟩
  rw[e]
  exact h2 hw
noncomputable def sIx (n d:Nat):Option Int->Nat
 | none=>d
 | some v=>if v < 0 then (v+(n:Int)).toNat else min v.toNat n
end
end HT
namespace L2
open PySem PySem.Spec PyProof.Rows
noncomputable abbrev TO:=St->Hp->(Option Int->Hp->Prop)->Prop
section
variable {X:Cx}{p2:Pos}
noncomputable def zeR (K:PySem.W.Frag):R2:=fun x y H Q=>∃a b xs ys,x=.ref a/\y=.ref b/\SqT K H a xs/\SqT K H b ys/\xs≠[]/\xs.length+ys.length<=sizeLine /\
 (ys=[]->Q (.ref a) H)/\(ys≠[]->∀p,H p=none->Q (.ref p) (upd H p (.tup (xs++ys))))
theorem Vals.nil_iff {xs:List V}{us:List Value}(r:Vals xs us):us=[]↔xs=[]:=by
 cases r with
 | nil=>simp
 | cons _ _=>simp
theorem zdB:OpR X (binaryOp .Add) (zeR X.K):=by
 intro pins s σ H x y v u Q I rx ry h
 obtain ⟨a,b,xs,ys,rfl,rfl,ha,hb,hx,hz,q1,q2⟩:=h
 cases rx
 cases ry
 obtain ⟨its,r1,p1,_⟩:=I.tuple ha
 obtain ⟨its2,r2,p2,_⟩:=I.tuple hb
 refine HT.cat_tup p1 p2 (fun z=>hx (r1.nil_iff.mp z)) (fun z=>⟨.ref a,H,I,rfl,q1 (r2.nil_iff.mp z)⟩) (fun z=>?_) (by rw[<- r1.length,<- r2.length];exact hz)
 refine ⟨.ref s.heap.objs.size,_,I.laid (t':=s.toks) (o:=.tup (xs++ys)) (fun b ob q=>Heap.get?_push_of_some _ q) (Nat.le_refl _) ?_,rfl,q2 (fun w=>z (r2.nil_iff.mpr w)) _ (I.hok.fresh (Nat.le_refl _))⟩
 exact ⟨by rw[List.length_append];exact hz,_,r1.append r2,IsTup.new _ _⟩
end
noncomputable def ixN (n:Nat)(i:Int):Option Nat:=if 0<=i then (if i < n then some i.toNat else none) else if -(n:Int)<=i then some (i+n).toNat else none
noncomputable def atI {α:Type}(xs:List α)(i:Int):Option α:=(ixN xs.length i).bind fun j=>xs[j]?
theorem qW {n:Nat}{i:Int}{j:Nat}(h:ixN n i=some j):seqIndex? i n=some j/\j < n/\-(n:Int)<=i/\i < n:=by
 unfold ixN at h
 by_cases h0:0<=i
 .rw[if_pos h0] at h
  by_cases h1:i < n
  .rw[if_pos h1] at h
   have e:i.toNat=j:=Option.some.inj h
   exact ⟨by rw[seqIndex_of h0 h1,e],by lia,by lia,h1⟩
  .rw[if_neg h1] at h;cases h
 .rw[if_neg h0] at h
  by_cases h1:-(n:Int)<=i
  .rw[if_pos h1] at h
   have e:(i+n).toNat=j:=Option.some.inj h
   exact ⟨by rw[seqIndex_neg (by lia) h1,e],by lia,h1,by lia⟩
  .rw[if_neg h1] at h;cases h
theorem jp {α:Type}{xs:List α}{i:Int}{v:α}(h:atI xs i=some v):∃j,seqIndex? i xs.length=some j/\xs[j]?=some v/\j < xs.length/\-(xs.length:Int)<=i/\i < xs.length:=by
 unfold atI at h
 cases e:ixN xs.length i with
 | none=>rw[e] at h;cases h
 | some j =>
  rw[e] at h
  obtain ⟨h1,h2,h3,h4⟩:=qW e
  exact ⟨j,h1,h,h2,h3,h4⟩
noncomputable def qX (b:Expr):Prop:=∀o i,subscripted b false o i=operate [o,i] (getItem o i)
noncomputable def IxR (X:Cx)(r:R2):Prop :=
 ∀ (value slice:Expr) (pins:List (Addr×Obj)) (s:Shared) (σ:St) (H:Hp) (x y:V) (v u:Value) (Q:VK),Inv X pins σ H s->RelV x v->RelV y u->r x y H Q ->
  subscripted slice false v u=operate [v,u] (getItem v u)->wpAny (model X.prog X.w) X.A (subscriptTail value slice v u) (EP X pins σ Q) X.xe s
noncomputable def MtR (X:Cx)(id:String)(r:V->List V->Hp->VK->Prop):Prop :=
 ∀ (pins:List (Addr×Obj)) (s:Shared) (σ:St) (H:Hp) (x:V) (xs:List V) (v:Value) (us:List Value) (Q:VK),Inv X pins σ H s->RelV x v->Vals xs us->r x xs H Q ->
  wpAny (model X.prog X.w) X.A (call (.builtin id) (v::us)) (EP X pins σ Q) X.xe s
section
variable {X:Cx}{a b:Expr}{ta tb:TE}{pos:Pos}
theorem IxR.or {r r':R2}(h:IxR X r)(h':IxR X r'):IxR X (fun x y H Q=>r x y H Q\/r' x y H Q):=by
 intro value slice pins s σ H x y v u Q I rx ry q hs
 rcases q with q | q
 .exact h value slice pins s σ H x y v u Q I rx ry q hs
 .exact h' value slice pins s σ H x y v u Q I rx ry q hs
theorem zeS {r:R2}(hr:IxR X r)(ha:PE X a ta)(hb:PE X b tb)(hs:qX b):PE X (.Subscript a b pos) (tOp r ta tb):=by
 intro pins s σ H Q I h
 exact Subscript_ (zfp ha hb I h fun v u s2 x y H2 I2 rx ry q=>hr a b pins s2 σ H2 x y v u Q I2 rx ry q (hs _ _))
noncomputable def zgJ (K:PySem.W.Frag):R2:=fun x y H Q=>∃p xs i v,x=.ref p/\y=.int i/\SqL K H p xs/\atI xs i=some v/\Q v H
noncomputable def zgK (K:PySem.W.Frag):R2:=fun x y H Q=>∃p xs i v,x=.ref p/\y=.int i/\SqT K H p xs/\atI xs i=some v/\Q v H
noncomputable def zgL:R2:=fun x y H Q=>∃z i c,x=.str z/\y=.int i/\z.length<=sizeLine/\atI z.cps.toList i=some c/\Q (.str ⟨#[c]⟩) H
theorem ix_list:IxR X (zgJ X.K):=by
 intro value slice pins s σ H x y v u Q I rx ry h hs
 refine cps fun zP zk=>?_
 obtain ⟨p,xs,i,z,rfl,rfl,hq,he,q⟩:=h
 cases rx
 obtain ⟨t,rfl⟩:=ry
 obtain ⟨its,r,pl,hz⟩:=I.list hq
 obtain ⟨j,h1,h2,h3,h4,h5⟩:=jp he
 obtain ⟨w,ew,rw'⟩:=r.get h2
 refine zk ?_
 have hl:=r.length
 have hn:=v5
 have fin:EP X pins σ Q w s:=⟨z,H,I,rw',q⟩
 by_cases h0:0<=i
 .have hj:i.toNat=j:=by
   rw[seqIndex_of h0 h5] at h1
   exact Option.some.inj h1
  exact item_listR pl.isList h0 (by lia) (by rw[hj];simpa using ew) fin hs
 .have hj:(i+(its.toArray.size:Int)).toNat=j:=by
   rw[seqIndex_neg (by lia) h4] at h1
   rw[List.size_toArray,<- hl]
   exact Option.some.inj h1
  exact subscriptTail_builtinR (x:=w) pl.isList.typeIs slot_list_getitem.lookup
   (wpAny_getItem_list_neg (Q:=fun r s'=>r=w/\EP X pins σ Q r s') pl.isList (by lia) (by rw[List.size_toArray] <;> lia) (by lia) (by rw[hj];simpa using ew) ⟨rfl,fin⟩) hs
theorem ix_tup:IxR X (zgK X.K):=by
 intro value slice pins s σ H x y v u Q I rx ry h hs
 obtain ⟨p,xs,i,z,rfl,rfl,hq,he,q⟩:=h
 cases rx
 obtain ⟨t,rfl⟩:=ry
 obtain ⟨its,r,pl,hz⟩:=I.tuple hq
 obtain ⟨j,h1,h2,h3,h4,h5⟩:=jp he
 obtain ⟨w,ew,rw'⟩:=r.get h2
 have hl:=r.length
 have hn:=v5
 have fin:EP X pins σ Q w s:=⟨z,H,I,rw',q⟩
 exact subscriptTail_builtinR (x:=w) pl.typeIs slot_tuple_getitem.lookup
  (getItem_tuple (j:=j) (Q:=fun r s'=>r=w/\EP X pins σ Q r s') pl (by lia) (by lia) (by rw[List.size_toArray,<- hl];exact h1) (by simpa using ew) ⟨rfl,fin⟩) hs
theorem zfv:IxR X zgL:=by
 intro value slice pins s σ H x y v u Q I rx ry h hs
 refine cps fun zP zk=>?_
 obtain ⟨z,i,c,rfl,rfl,hz,he,q⟩:=h
 obtain ⟨t,rfl⟩:=rx
 obtain ⟨t',rfl⟩:=ry
 obtain ⟨j,h1,h2,h3,h4,h5⟩:=jp he
 refine zk ?_
 have hl:z.cps.toList.length=z.length:=by simp[Str.length]
 rw[hl] at h1 h4 h5
 have hn:=v5
 exact tail_any (typeIs_str s z t) slot_str_getitem.lookup (getItem_str (c:=c) (by
  have e1:decide (i < -(2 ^ 63:Int))=false:=decide_eq_false (by lia)
  have e2:decide (i ≥ 2 ^ 63)=false:=decide_eq_false (by lia)
  rw[e1,e2,Bool.or_false]) (by rw[h1];simpa using h2) ⟨.str ⟨#[c]⟩,H,I.tok _,⟨_,rfl⟩,q⟩) hs
noncomputable def rIx (K:PySem.W.Frag):R2:=fun x y H Q=>zgJ K x y H Q\/zgK K x y H Q\/zgL x y H Q
theorem zfw:IxR X (rIx X.K):=ix_list.or (ix_tup.or zfv)
theorem gY (its:List Value)(n j:Nat)(u:Value):Obj.mapSeq (·.setIfInBounds j u) { cls:=.type "list",data:=.seq its.toArray n }={ cls:=.type "list",data:=.seq (its.set j u).toArray n }:=by
 simp[Obj.mapSeq]
theorem Inv.lst {pins:List (Addr×Obj)}{σ:St}{H:Hp}{s:Shared}{p:Addr}{xs:List V}(I:Inv X pins σ H s)(h:H p=some (.lst xs)):
  ∃ (its:List Value) (n:Nat),Vals xs its/\s.heap.get? p=some { cls:=.type "list",data:=.seq its.toArray n }/\xs.length<=sizeLine:=by
 refine cps fun zP zk=>?_
 obtain ⟨z,its,n,r,e⟩:=I.hok p _ h
 refine zk ?_
 exact ⟨its,n,r,e,z⟩
theorem Inv.lstUpd {pins:List (Addr×Obj)}{σ:St}{H:Hp}{s:Shared}{p:Addr}{xs ys:List V}{its its':List Value}{n n':Nat}{f:Obj->Obj}(I:Inv X pins σ H s)(h:H p=some (.lst xs))
  (ho:s.heap.get? p=some { cls:=.type "list",data:=.seq its.toArray n }) (hf:f { cls:=.type "list",data:=.seq its.toArray n }={ cls:=.type "list",data:=.seq its'.toArray n' }) (r:Vals ys its') (hz:ys.length<=sizeLine) (t:Nat) :
  Inv X pins σ (upd H p (.lst ys)) { s with heap:=s.heap.update p f,toks:=t }:=by
 have e:(s.heap.update p f).get? p=some { cls:=.type "list",data:=.seq its'.toArray n' }:=by
  rw[Heap.get?_update_self f ho (by rw[hf] <;> rfl),hf]
 refine I.write (x:=p) (e:=p) (by rw[h];trivial) (.inl rfl) (fun b u hb q=>(Heap.get?_update_other _ _ (Ne.symm hb)).trans q) ⟨_,e⟩ ?_
 exact ⟨hz,its',n',r,e⟩
noncomputable def zbK:V->V->V->Hp->(Hp->Prop)->Prop:=fun o i v H Q=>∃p xs k j,o=.ref p/\i=.int k/\H p=some (.lst xs)/\ixN xs.length k=some j/\Q (upd H p (.lst (xs.set j v)))
theorem zbL:zgz X zbK:=by
 intro pins s σ H o i v ov iv u Q I ro ri rv h
 refine cps fun zP zk=>?_
 obtain ⟨p,xs,k,j,rfl,rfl,hp,hj,q⟩:=h
 cases ro
 obtain ⟨t,rfl⟩:=ri
 obtain ⟨its,n,r,ho,hz⟩:=I.lst hp
 obtain ⟨h1,h2,h3,h4⟩:=qW hj
 refine zk ?_
 have hl:=r.length
 have hn:=v5
 have I':Inv X pins σ (upd H p (.lst (xs.set j v))) { s with heap:=s.heap.update p (Obj.mapSeq (·.setIfInBounds j u)) } :=
  I.lstUpd hp ho (gY its n j u) (r.set rv j) (by rw[List.length_set];exact hz) s.toks
 by_cases h0:0<=k
 .have hk:k.toNat=j:=by
   rw[seqIndex_of h0 h4] at h1
   exact Option.some.inj h1
  exact PySem.W.ki_setAt ho h0 (by lia) (by rw[List.size_toArray,<- hl];exact h4) (by rw[hk];exact ⟨_,I',q⟩)
 .have hk:(k+(its.toArray.size:Int)).toNat=j:=by
   rw[seqIndex_neg (by lia) h3] at h1
   rw[List.size_toArray,<- hl]
   exact Option.some.inj h1
  exact PySem.W.ki_setBack ho (by lia) (by rw[List.size_toArray,<- hl];exact h3) (by lia) (by rw[hk];exact ⟨_,I',q⟩)
theorem jq:CallR X (.builtin "len") (fun xs H Q=>∃p ys,xs=[.ref p]/\(SqL X.K H p ys\/SqT X.K H p ys)/\Q (.int ys.length) H):=by
 intro pins s σ H xs us Q I r h
 obtain ⟨p,ys,rfl,hq,q⟩:=h
 obtain ⟨u,rfl,rx⟩:=v6 r
 cases rx
 have hn:=v5
 rcases hq with hq | hq
 .obtain ⟨its,r',pl,hz⟩:=I.list hq
  have hlen:=r'.length
  exact Calls.call_len_list pl.isList (by simp only[List.size_toArray] <;> lia) ⟨.int ys.length,H,I.tok _,⟨s.toks+1,by rw[List.size_toArray,hlen]⟩,q⟩
 .obtain ⟨its,r',pl,hz⟩:=I.tuple hq
  have hlen:=r'.length
  exact len_tuple pl (by simp only[List.size_toArray] <;> lia) ⟨.int ys.length,H,I.tok _,⟨s.toks+1,by rw[List.size_toArray,hlen]⟩,q⟩
theorem jr:CallR X (.type "list") (fun xs H Q=>∃p ys,xs=[.ref p]/\(SqL X.K H p ys\/SqT X.K H p ys)/\∀l,H l=none->Q (.ref l) (upd H l (.lst ys))):=by
 intro pins s σ H xs us Q I r h
 refine cps fun zP zk=>?_
 obtain ⟨p,ys,rfl,hq,q⟩:=h
 obtain ⟨u,rfl,rx⟩:=v6 r
 refine zk ?_
 cases rx
 have fin:∀ (its:List Value),Vals ys its->ys.length<=sizeLine->∀ (h':Heap) (c':Nat),(∀b o',s.heap.get? b=some o'->h'.get? b=some o') ->
   h'.get? s.heap.objs.size=some { cls:=.type "list",dict:=none,data:=.seq its.toArray c',slots:=#[] }->EP X pins σ Q (.ref s.heap.objs.size) { s with heap:=h' }:=fun its r' hz h' c' kp e =>
  ⟨.ref s.heap.objs.size,_,I.laid (t':=s.toks) kp (Nat.le_refl _) (show ObjOk X.prog X.w _ h' _ (.lst ys) from ⟨hz,its,c',r',e⟩),rfl,q _ (I.hok.fresh (Nat.le_refl _))⟩
 rcases hq with hq | hq
 .refine cps fun zP zj=>?_
  obtain ⟨its,r',pl,hz⟩:=I.list hq
  have hlen:=r'.length
  obtain ⟨o,ho,hc,n,hd⟩:=pl.isList
  refine zj ?_
  exact call_list_seq p (.inl rfl) ho hc hd (fun h' c' kp e=>fin its r' hz h' c' kp e) (by simp only[List.size_toArray] <;> lia)
 .refine cps fun zP zi=>?_
  obtain ⟨its,r',pl,hz⟩:=I.tuple hq
  have hlen:=r'.length
  obtain ⟨o,ho,hc,n,hd⟩:=pl
  refine zi ?_
  exact call_list_seq p (.inr rfl) ho hc hd (fun h' c' kp e=>fin its r' hz h' c' kp e) (by simp only[List.size_toArray] <;> lia)
noncomputable def tyV (K:PySem.W.Frag)(T:String)(x:V)(H:Hp):Prop:=match x with
 | .str _=>T = "str"
 | .int _=>T = "int"
 | .ref p=>(T = "list" /\ ∃xs,SqL K H p xs)\/(T = "tuple" /\ ∃o,K.lookup p=some o/\o.cls=.type "tuple" /\ o.dict=none) \/
   (T = "dict" /\ ((∃kvs,H p=some (.dK kvs))\/∃kvs,H p=some (.dT kvs)))\/(T = "set" /\ ∃S n,H p=some (.set S n))
 | _=>False
theorem zbM {pins:List (Addr×Obj)}{σ:St}{H:Hp}{s:Shared}{T:String}{x:V}{v:Value}(I:Inv X pins σ H s)(r:RelV x v)(ty:tyV X.K T x H):
  s.TypeIs v T/\∀a,v=.ref a->∃ob,s.heap.get? a=some ob/\ob.dict=none:=by
 cases x with
 | str z =>
  obtain ⟨t,rfl⟩:=r
  cases (show T = "str" from ty)
  exact ⟨typeIs_str s z t,fun _ e=>nomatch e⟩
 | int i =>
  obtain ⟨t,rfl⟩:=r
  cases (show T = "int" from ty)
  exact ⟨typeIs_int s i t,fun _ e=>nomatch e⟩
 | ref p =>
  cases r
  rcases ty with ⟨rfl,xs,hq⟩ | ⟨rfl,o,hk,hc,hd⟩ | ⟨rfl,hk⟩ | ⟨rfl,S,n,hk⟩
  .obtain ⟨its,_,pl,_⟩:=I.list hq
   refine ⟨pl.isList.typeIs,fun a e=>?_⟩
   cases e
   refine cps fun zP zk=>?_
   obtain ⟨o,n,e,c,hd,_⟩:=pl
   refine zk ?_
   exact ⟨o,e,hd⟩
  .refine ⟨⟨o,I.kIn p o hk,hc⟩,fun a e=>?_⟩
   cases e
   exact ⟨o,I.kIn _ o hk,hd⟩
  .have z:∃o,s.heap.get? p=some o/\o.ExactDict:=by
    rcases hk with ⟨kvs,hk⟩ | ⟨kvs,hk⟩
    .refine cps fun zP zj=>?_
     obtain ⟨_,_,_,_,o,_,_,e,ex,_⟩:=I.hok p _ hk
     refine zj ?_
     exact ⟨o,e,ex⟩
    .refine cps fun zP zi=>?_
     obtain ⟨_,_,_,_,o,_,_,e,ex,_⟩:=I.hok p _ hk
     refine zi ?_
     exact ⟨o,e,ex⟩
   obtain ⟨o,e,ex⟩:=z
   refine ⟨⟨o,e,ex.1⟩,fun a e2=>?_⟩
   cases e2
   exact ⟨o,e,ex.2.1⟩
  .refine cps fun zP zh=>?_
   obtain ⟨o,_,_,_,e,ex,_⟩:=I.hok p _ hk
   refine zh ?_
   refine ⟨⟨o,e,ex.1⟩,fun a e2=>?_⟩
   cases e2
   exact ⟨o,e,ex.2.1⟩
 | _=>exact False.elim ty
noncomputable def tBM0 (K:PySem.W.Frag)(T:String)(r:V->List V->Hp->VK->Prop)(to:TE):TE:=fun σ H Q=>to σ H fun x H1=>tyV K T x H1/\r x [] H1 Q
noncomputable def tBM (K:PySem.W.Frag)(T:String)(r:V->List V->Hp->VK->Prop)(to:TE)(t:TA):TE:=fun σ H Q=>to σ H fun x H1=>tyV K T x H1/\t σ H1 fun xs H2=>r x xs H2 Q
variable {o e:Expr}{es:List Expr}{to:TE}{t:TA}{name:Str}{apos cpos:Pos}{T id:String}{r:V->List V->Hp->VK->Prop}
theorem zfx (pa:PlainAttrs T)(slot:Slot T name id)(hty:typeOf (.builtin id)=pure (.type "method_descriptor"))(hm:MtR X id r)(ho:PE X o to)
  (hbase:attributeBase o name X.env (eval o X.env)=eval o X.env:=by rfl) (hline:(apos.endLine == cpos.line)=true:=by rfl):PE X (.Call (.Attribute o name apos) [] [] cpos) (tBM0 X.K T r to):=by
 intro pins s σ H Q I h
 refine wpAny_Call_method0_late hbase hline (thn (ho pins s σ H _ I h) fun v s1 ⟨x,H1,I1,r1,ty,q1⟩=>?_)
 obtain ⟨h1,h2⟩:=zbM I1 r1 ty
 exact ⟨T,id,pa,slot,hty,h1,h2,Calls.callWith_builtin rfl (PySem.evalArgs_none (hm pins s1 σ H1 x [] v [] Q I1 r1 .nil q1))⟩
theorem zgM (pa:PlainAttrs T)(slot:Slot T name id)(hty:typeOf (.builtin id)=pure (.type "method_descriptor"))(hm:MtR X id r)(ho:PE X o to)(ha:PA X (e::es) t)
  (hbase:attributeBase o name X.env (eval o X.env)=eval o X.env:=by rfl)
  (hfew:((backTo cpos (starEach (e::es) X.env)).all (fun x=>!x.1) && (backToKw cpos (keywordEach [] X.env)).all (fun x=>x.1.isSome)
   && decide ((e::es).length+([]:List Keyword).length+(if ([]:List Keyword).isEmpty then 0 else 1) < 30))=true:=by rfl)
  (hline:(apos.endLine == cpos.line)=true:=by rfl) (hs:starEach (e::es) X.env=(false,eval e X.env)::starEach es X.env:=by rfl) (hplain:(backTo cpos (starEach es X.env)).any (·.1)=false:=by rfl) :
  PE X (.Call (.Attribute o name apos) (e::es) [] cpos) (tBM X.K T r to t):=by
 intro pins s σ H Q I h
 refine wpAny_Call_method_late hbase hfew hline rfl (thn (ho pins s σ H _ I h) fun v s1 ⟨x,H1,I1,r1,ty,q1⟩=>?_)
 obtain ⟨h1,h2⟩:=zbM I1 r1 ty
 refine ⟨T,id,pa,slot,hty,h1,h2,?_⟩
 have hA:=ha cpos pins s1 σ H1 _ I1 q1
 rw[hs] at hA ⊢
 refine Calls.callWith_builtin (by show (false || (backTo cpos (starEach es X.env)).any (·.1))=false;rw[hplain] <;> rfl) (Calls.evalArgs_plain ?_)
 exact thn hA fun us s2 ⟨vs,H2,I2,r2,q2⟩=>hm pins s2 σ H2 x vs v us Q I2 r1 r2 q2
end
noncomputable def MtM (X:Cx)(id:String)(r:V->List V->Hp->VK->Prop):Prop :=
 ∀ (pins:List (Addr×Obj)) (s:Shared) (σ:St) (H:Hp) (x:V) (xs:List V) (v:Value) (us:List Value) (Q:VK),Inv X pins σ H s->RelV x v->Vals xs us->r x xs H Q ->
  wpAny (model X.prog X.w) X.A (call (.builtin id) (v::us)) (EP X pins σ Q) X.xe s
theorem Vals.one {x:V}{us:List Value}(h:Vals [x] us):∃u,us=[u]/\RelV x u:=by
 cases h with
 | cons r t=>cases t;exact ⟨_,rfl,r⟩
theorem Vals.zero:∀ {us:List Value},Vals [] us->us=[]
 | _,.nil=>rfl
theorem Vals.dropLast {xs:List V}{us:List Value}(h:Vals xs us):Vals xs.dropLast us.dropLast:=by
 induction h with
 | nil=>exact .nil
 | cons r t ih =>
  cases t with
  | nil=>exact .nil
  | cons q t'=>exact .cons r ih
theorem Vals.reverse {xs:List V}{us:List Value}(h:Vals xs us):Vals xs.reverse us.reverse:=by
 induction h with
 | nil=>exact .nil
 | cons r t ih=>rw[List.reverse_cons,List.reverse_cons];exact Vals.append ih (.cons r .nil)
theorem Vals.rep {xs:List V}{us:List Value}(h:Vals xs us):∀k:Nat,Vals (List.replicate k xs).flatten (List.replicate k us).flatten
 | 0=>.nil
 | k+1=>by
  rw[List.replicate_succ,List.replicate_succ,List.flatten_cons,List.flatten_cons]
  exact Vals.append h (Vals.rep h k)
theorem gZ {α:Type}(l:List α):l.eraseIdx (l.length - 1)=l.dropLast:=by
 induction l with
 | nil=>rfl
 | cons a r ih =>
  cases r with
  | nil=>rfl
  | cons b r =>
   have e:(a::b::r).length - 1=((b::r).length - 1)+1:=by
    have h1:(a::b::r).length=r.length+2:=rfl
    have h2:(b::r).length=r.length+1:=rfl
    lia
   rw[e,List.eraseIdx_cons_succ,ih]
   all_goals rfl
theorem k7 (its:List Value):∀ (k:Nat) (acc:List Value),
  List.foldl (fun x1 x2=>x1++x2) acc.toArray (List.replicate k its.toArray)=(acc++(List.replicate k its).flatten).toArray
 | 0,acc=>by simp
 | k+1,acc=>by
  have e:acc.toArray++its.toArray=(acc++its).toArray:=by simp
  have e2:(acc++its)++(List.replicate k its).flatten=acc++(List.replicate (k+1) its).flatten:=by
   rw[List.replicate_succ,List.flatten_cons,List.append_assoc]
  rw[<- e2,<- k7 its k (acc++its),<- e,List.replicate_succ,List.foldl_cons]
section
variable {X:Cx}{pins:List (Addr×Obj)}{σ:St}{H:Hp}{s:Shared}{l:Addr}{xs ys:List V}
theorem Inv.lset {its its':List Value}{n:Nat}{f:Array Value->Array Value}{t':Nat}(I:Inv X pins σ H s)(hH:H l=some (.lst xs))
  (e:s.heap.get? l=some { cls:=.type "list",data:=.seq its.toArray n }) (hf:f its.toArray=its'.toArray) (hv:Vals ys its') (hz:ys.length<=sizeLine) :
  Inv X pins σ (upd H l (.lst ys)) { s with heap:=s.heap.update l (Obj.mapSeq f),toks:=t' }:=by
 have q:=PySem.IsL.update e f
 rw[hf] at q
 refine I.write (x:=l) (e:=l) (by rw[hH];exact trivial) (.inl rfl) (fun b' u hb hu=>(Heap.get?_update_other s.heap (Obj.mapSeq f) (Ne.symm hb)).trans hu) ⟨_,q⟩ ?_
 exact ⟨hz,its',_,hv,q⟩
theorem Inv.lnew {its:List Value}{t':Nat}(I:Inv X pins σ H s)(hv:Vals ys its)(hz:ys.length<=sizeLine):
  Inv X pins σ (upd H s.heap.objs.size (.lst ys)) { s with heap:=s.heap.push { cls:=.type "list",data:=.seq its.toArray },toks:=t' } :=
 I.laid (fun _ _ q=>Heap.get?_push_of_some _ q) (Nat.le_refl _) ⟨hz,its,0,hv,Heap.get?_push_size _ rfl⟩
theorem Inv.fresh (I:Inv X pins σ H s):H s.heap.objs.size=none:=I.hok.fresh (Nat.le_refl _)
theorem Inv.lstM (I:Inv X pins σ H s)(hH:H l=some (.lst xs)):xs.length<=sizeLine/\∃ (its:List Value) (n:Nat),Vals xs its/\xs.length=its.length/\s.heap.get? l=some { cls:=.type "list",data:=.seq its.toArray n }:=by
 refine cps fun zP zk=>?_
 obtain ⟨z,its,n,r,e⟩:=I.hok l _ hH
 refine zk ?_
 exact ⟨z,its,n,r,r.length,e⟩
theorem zbN {n:Nat}(h:n<=sizeLine):Builtin.List.listTooLong n=false:=by
 unfold Builtin.List.listTooLong
 exact decide_eq_false (by lia)
end
section
variable {X:Cx}
noncomputable def zdC:V->List V->Hp->VK->Prop:=fun x vs H Q=>∃l xs y,x=.ref l/\vs=[y]/\H l=some (.lst xs)/\xs.length < sizeLine/\Q .non (upd H l (.lst (xs++[y])))
theorem k8:MtM X "list.append" zdC:=by
 intro pins s σ H x vs v us Q I rx rv h
 refine cps fun zP zk=>?_
 obtain ⟨l,xs,y,rfl,rfl,hH,hz,q⟩:=h
 cases rx
 obtain ⟨u,rfl,ru⟩:=rv.one
 obtain ⟨z,its,n,r,hl,e⟩:=I.lstM hH
 refine zk ?_
 refine call_meets F.slot_list_append ⟨_,e,rfl⟩ F.entry_list_append (F.args_list_append_2 _ _) (PySem.list_append l its.toArray n u (by rw[List.size_toArray];lia)) ⟨e,?_⟩
 refine ⟨.non,_,I.lset (its':=its++[u]) hH e (by simp) (r.append (.cons ru .nil)) ?_,rfl,q⟩
 rw[List.length_append,List.length_singleton]
 lia
noncomputable def rPop:V->List V->Hp->VK->Prop:=fun x vs H Q=>∃l xs y,x=.ref l/\vs=[]/\H l=some (.lst xs)/\xs[xs.length - 1]?=some y/\Q y (upd H l (.lst xs.dropLast))
theorem zfy:MtM X "list.pop" rPop:=by
 intro pins s σ H x vs v us Q I rx rv h
 refine cps fun zP zk=>?_
 obtain ⟨l,xs,y,rfl,rfl,hH,hy,q⟩:=h
 cases rx
 have hus:=rv.zero
 subst hus
 obtain ⟨z,its,n,r,hl,e⟩:=I.lstM hH
 obtain ⟨u,hu,ru⟩:=r.get hy
 refine zk ?_
 have hy':its.toArray[its.toArray.size - 1]?=some u:=by
  show its.toArray[its.length - 1]?=some u
  rw[<- Array.getElem?_toList,<- hl]
  exact hu
 refine call_meets F.slot_list_pop ⟨_,e,rfl⟩ F.entry_list_pop (F.args_list_pop_1 _) (MeetsSeq.list_pop_last l its.toArray n u hy' (by rw[List.size_toArray];lia)) ⟨e,?_⟩
 refine ⟨y,_,I.lset (its':=its.dropLast) hH e ?_ r.dropLast ?_,ru,q⟩
 .show its.toArray.eraseIdxIfInBounds (its.toArray.size - 1)=its.dropLast.toArray
  rw[List.size_toArray,List.eraseIdxIfInBounds_toArray,gZ]
 .rw[List.length_dropLast]
  lia
noncomputable def zbO:V->List V->Hp->VK->Prop:=fun x vs H Q=>∃l xs,x=.ref l/\vs=[]/\H l=some (.lst xs)/\Q .non (upd H l (.lst xs.reverse))
theorem g5:MtM X "list.reverse" zbO:=by
 intro pins s σ H x vs v us Q I rx rv h
 refine cps fun zP zk=>?_
 obtain ⟨l,xs,rfl,rfl,hH,q⟩:=h
 cases rx
 have hus:=rv.zero
 subst hus
 obtain ⟨z,its,n,r,hl,e⟩:=I.lstM hH
 refine zk ?_
 refine call_meets F.slot_list_reverse ⟨_,e,rfl⟩ F.entry_list_reverse (F.args_list_reverse_1 _) (AutoSeq1.list_reverse_list_0 l its.toArray n (by rw[List.size_toArray];lia)) ⟨e,?_⟩
 refine ⟨.non,_,I.lset (its':=its.reverse) hH e (by simp) r.reverse ?_,rfl,q⟩
 rw[List.length_reverse]
 lia
noncomputable def zgN:R2:=fun x y H Q=>∃l b xs zs,x=.ref l/\y=.ref b/\H l=some (.lst xs)/\H b=some (.lst zs)/\xs.length+zs.length<=sizeLine/\∀p,H p=none->Q (.ref p) (upd H p (.lst (xs++zs)))
theorem op_cat:OpR X (binaryOp .Add) zgN:=by
 intro pins s σ H x y v u Q I rx ry h
 refine cps fun zP zk=>?_
 obtain ⟨l,b,xs,zs,rfl,rfl,hH,hB,hz,q⟩:=h
 cases rx
 cases ry
 obtain ⟨z,its,n,r,hl,e⟩:=I.lstM hH
 obtain ⟨z2,its2,n2,r2,hl2,e2⟩:=I.lstM hB
 refine zk ?_
 refine PySem.P.add_list e e2 ?_ (by rw[List.size_toArray,List.size_toArray];lia)
 have ea:its.toArray++its2.toArray=(its++its2).toArray:=by simp
 rw[ea]
 exact ⟨.ref _,_,I.lnew (t':=s.toks) (r.append r2) (by rw[List.length_append];lia),rfl,q _ I.fresh⟩
noncomputable def zgO:R2:=fun x y H Q=>∃l k xs,x=.ref l/\y=.int k/\H l=some (.lst xs)/\-(2 ^ 63)<=k/\k < 2 ^ 63/\xs.length * k.toNat<=sizeLine /\
 ∀p,H p=none->Q (.ref p) (upd H p (.lst (List.replicate k.toNat xs).flatten))
theorem qY {α:Type}(xs:List α)(k:Nat):(List.replicate k xs).flatten.length=k * xs.length:=by
 induction k with
 | zero=>simp
 | succ k ih=>rw[List.replicate_succ,List.flatten_cons,List.length_append,ih,Nat.succ_mul,Nat.add_comm]
theorem zfz:OpR X (binaryOp .Mult) zgO:=by
 intro pins s σ H x y v u Q I rx ry h
 refine cps fun zP zk=>?_
 obtain ⟨l,k,xs,rfl,rfl,hH,h1,h2,hz,q⟩:=h
 cases rx
 obtain ⟨t,rfl⟩:=ry
 obtain ⟨z,its,n,r,hl,e⟩:=I.lstM hH
 refine zk ?_
 have hlen:its.toArray.size * k.toNat<=sizeLine:=by rw[List.size_toArray,<- hl];exact hz
 have hcap:¬ its.toArray.size * k.toNat > (2 ^ 63 - 1) / 8:=by
  have:(sizeLine:Nat)<=(2 ^ 63 - 1) / 8:=by decide
  lia
 have hfit:¬(!Builtin.List.listFitsIndex k)=true:=by
  rw[fitsIndex_both h1 h2]
  exact Bool.false_ne_true
 have hlong:¬ Builtin.List.listTooLong (its.toArray.size * k.toNat)=true:=by
  rw[zbN hlen]
  exact Bool.false_ne_true
 have hnew:List.foldl (fun x1 x2=>x1++x2) #[] (List.replicate (if its.toArray.isEmpty=true then 0 else k.toNat) its.toArray)=(List.replicate k.toNat its).flatten.toArray:=by
  have f0:∀m:Nat,List.foldl (fun x1 x2=>x1++x2) #[] (List.replicate m its.toArray)=(List.replicate m its).flatten.toArray:=fun m=>by
   have:=k7 its m []
   rw[List.nil_append] at this
   exact this
  rw[f0]
  cases its with
  | nil=>simp
  | cons a r'=>rw[if_neg (by simp)]
 refine wpAny_binaryOp_repeat_ref (T := "list") (U := "int") (by decide) ⟨_,e,rfl⟩ (fun s'=>typeIs_int s' k t) noFill_list_mul F.fills_int_mul F.slot_int_rmul repeat_list F.slot_int_index.lookup
  (call_meets F.slot_int_rmul (typeIs_int s k t) F.entry_int_rmul (F.args_int_rmul_2 _ _) (int___rmul___int_list k t l its.toArray n)
   ⟨e,rfl,⟨_,e,rfl⟩,call_meets F.slot_list_mul ⟨_,e,rfl⟩ F.entry_list_mul (F.args_list_mul_2 _ _) (AutoListH.list___mul___list_int_3 l its.toArray n k t hfit hcap hlong) ⟨e,?_⟩⟩)
 rw[hnew]
 exact ⟨.ref _,_,I.lnew (t':=s.toks) (r.rep k.toNat) (by rw[qY,Nat.mul_comm];exact hz),rfl,q _ I.fresh⟩
end
end L2
namespace Att
open PySem PySem.W PySem.Calls PyProof.Rows
theorem vP {P:Params}{h:Heap}:∀ (ns:List Int) (vs:List Value),WellAll P h vs (ns.map WData.int)->IntsAre vs ns:=by
 intro ns
 induction ns with
 | nil =>
  intro vs w
  rw[List.map_nil] at w
  cases w
  exact .nil
 | cons n ns ih =>
  intro vs w
  rw[List.map_cons] at w
  cases w with
  | cons a b =>
   cases a
   exact .cons _ _ (ih _ b)
theorem zaJ {l:OpenLaw}{n:Nat}(hn:l.most=some n){P:Params}{h:Heap}{args:List WData}{vals:List Value}
  (hpre:l.row.toRowW.claim.pre args=true) (hwl:WellAll P h vals args) :
  ∃a vs ns,vals=[Value.ref a]/\args=[WData.list (ns.map WData.int)]/\h.get? a=some { cls:=.type "list",data:=.seq vs.toArray }/\IntsAre vs ns/\ns.length<=n:=by
 have hsh:WShape.hasAll [] args [.list .int]=true:=(pre_splitW hpre).1
 have hc:l.pre.holds [] { args:=args }=true:=(pre_splitW hpre).2
 obtain ⟨d,r,rfl,h1,h2⟩:=hasAllW_cons hsh
 obtain rfl:=hasAllW_nil h2
 obtain ⟨xs,rfl,h3⟩:=hasW_list h1
 obtain ⟨ns,rfl⟩:=items_int h3
 have hlen:ns.length<=n:=by
  unfold OpenLaw.pre at hc
  have h4:(WTm.not (.lt (.lit (.int (n:Int))) (.len (.arg 0)))).holds [] { args:=[.list (ns.map .int)] }=true:=by
   have h4:=(holds_andW hc).1
   rw[hn] at h4
   exact h4
  have h5:=condW_of h4 (w_not (w_lt w_lit (w_len_list (w_arg rfl))))
  rw[List.length_map] at h5
  refine Nat.le_of_not_lt fun q=>?_
  have q':(n:Int) < ((ns.length:Nat):Int):=by lia
  first
   | (rw[decide_eq_true q'] at h5;exact absurd h5 (by decide))
   | (simp at h5;lia)
 cases hwl with
 | cons w1 w2 =>
  cases w2
  cases w1 with
  | list ho hall=>exact ⟨_,_,ns,rfl,rfl,ho,vP ns _ hall,hlen⟩
theorem zaK (l:OpenLaw)(args:List WData):l.row.toRowW.claim.post args (.bool true) args=true :=
 postW_of (r:=l.row.toRowW) (X:=(true == true))
  (show WShape.has [] (.bool true) .bool=true by first | rfl | decide | simp[WShape.has,WShape.arms,WShape.armsAll])
  (show (WTm.eq .res (.lit (.bool true))).value [] { args:=args,res:=some (.bool true),after:=args }=some (.bool (true == true)) from w_eq_bool (w_res rfl) w_lit) rfl
theorem attach_call {l:OpenLaw}{n:Nat}{q:Program}{loose:List Str}{XP:(Str->Option Value)->Heap->Prop}{YP:World->Heap->Prop}{d:DefRec}
  (hn:l.most=some n) (hdf:d.params.defaults=[])
  (call:∀ (w:World) (s₀ s₁:Shared) (mg mb:Str->Option Value) (fa:Addr) (o:Obj) (pm cd doc:Value) (a:Addr) (vs:List Value) (ns:List Int),
   Ground q loose [] XP w s₀ mg mb s₁.heap->YP w s₁.heap ->
   s₁.heap.get? fa=some o->o.data=.func (docDef d.name d.params d.body d.scope pm cd doc)->s₁.heap.CodeRec cd d.name->mg d.name=some (.ref fa) ->
   s₁.heap.get? a=some { cls:=.type "list",data:=.seq vs.toArray }->IntsAre vs ns->ns.length<=n->s₁.gens=#[] ->
   codeAny (model l.prog w) callerA (.call (.ref fa) ⟨[.ref a],[]⟩) (fun r s'=>r=.ok (.ret (.bool true))/\OldK s₁.heap s'.heap/\s'.os=s₁.os/\AllBare s'.gens) s₁) :
  WalkO q loose XP YP l.row.toRowW d [] (fun f vs=>PySem.call f vs):=by
 intro w s₀ s₁ mg mb G Y fa o pm cd doc dV kV ho hd hcd hD hmg hg args vals as hpre hlay hrd hwl hlo
 obtain rfl:dV=.none:=Dflts.none hD hdf
 obtain rfl:kV=.none:=Dflts.noKw hD
 obtain ⟨a,vs,ns,rfl,rfl,hobj,hints,hlen⟩:=zaJ hn hpre hwl
 refine enter_call (codeAny_mono (call w s₀ s₁ mg mb fa o pm cd doc a vs ns G Y ho (fd_plain hd) hcd hmg hobj hints hlen hg) fun r s' hq=>?_)
 obtain ⟨rfl,h2,h3,h4⟩:=hq
 exact ⟨.inl ⟨.bool true,.bool true,[],rfl,fun _=>rfl,.bool true,zaK l _,fun _=>⟨List.Pairwise.nil,fun _ hm=>(nomatch hm)⟩⟩,h2,h3,h4⟩
end Att
namespace L2
open PySem PySem.Spec PyProof.Rows
theorem k9:∀ {vs:List Value}{ns:List Int},IntsAre vs ns->Vals (ns.map V.int) vs
 | _,_,.nil=>.nil
 | _,_,.cons n t h=>.cons ⟨t,rfl⟩ (k9 h)
noncomputable def zbP (H:Hp):Prop:=∀b,H b=none\/∃o xs,H b=some (.frz o (.lst xs))
theorem zbQ {P:Program}{w:World}{K:PySem.W.Frag}{mg mb:Str->Option Value}{CX:CXT}{k:Nat}{fa a:Addr}{fd:FuncData}{x:Str}{sp:Sp}{s₁:Shared}{vs:List Value}{ns:List Int}
  (KX:K.In s₁.heap) (hns:s₁.heap.Ns mainGlobals mg) (hb:s₁.heap.Ns builtinsNs mb) (hbb:∀x:Str,x ≠ "__name__" -> mb x=bootBuiltins x) (hlim:s₁.heap.NoLimit) (hg:s₁.gens=#[])
  (ha:s₁.heap.get? a=some { cls:=.type "list",data:=.seq vs.toArray }) (hi:IntsAre vs ns) (hl:ns.length<=sizeLine) (hr:Room k callerA)
  (F:∀base:Heap,K.In base->base.Ns mainGlobals mg->FnOk P w K mg base CX k fa fd [x] sp) (hbind:∀ (s:Shared) (u:Value),BindsTo s fd ⟨[u],[]⟩ [(x,u)])
  (hsp:∀H:Hp,zbP H->SqL K H a (ns.map V.int)->sp [.ref a] H (fun v _=>v=.bl true) fun _ _ _=>False)
  (hCX:∀H e s',CX [] H s₁ (fun _ _ _=>False) e s'->False) :
  codeAny (model P w) callerA (.call (.ref fa) ⟨[.ref a],[]⟩) (fun r s'=>r=.ok (.ret (.bool true))/\OldK s₁.heap s'.heap/\s'.os=s₁.os/\AllBare s'.gens) s₁:=by
 have rv:=k9 hi
 have lenV:=hi.length
 -- from an abstract heap in which nothing but the script may be tracked
 have core:∀H:Hp,zbP H->SqL K H a (ns.map V.int)->HOk P w H s₁.heap->(∀b,H b≠none->b=a)->(H a≠none->K.lookup a=none) ->
   codeAny (model P w) callerA (.call (.ref fa) ⟨[.ref a],[]⟩) (fun r s'=>r=.ok (.ret (.bool true))/\OldK s₁.heap s'.heap/\s'.os=s₁.os/\AllBare s'.gens) s₁:=by
  intro H hO hS hok hA hK
  have base_of:∀ {b:Addr}{o:Obj},s₁.heap.get? b=some o->H b=none->(jm s₁.heap H).get? b=some o:=fun e n=>zbp e n
  have noA:∀ {b:Addr}{o:Obj}{es:Array DictEntry}{ep:Nat},s₁.heap.get? b=some o->o.data=.dict es ep->H b=none:=fun {b o es ep} e d=>by
   cases q:H b with
   | none=>rfl
   | some u =>
    have e':b=a:=hA b (by rw[q];simp)
    subst e'
    rw[ha] at e;cases e
    have d':Data.seq vs.toArray _=Data.dict es ep:=d
    cases d'
  have nsK:∀ {b:Addr}{m:Str->Option Value},s₁.heap.Ns b m->(jm s₁.heap H).Ns b m:=fun {b m} ⟨o,es,ep,e,d,r⟩=>⟨o,es,ep,base_of e (noA e d),d,r⟩
  have hKb:K.In (jm s₁.heap H):=fun b o e=>base_of (KX b o e) (by
   cases q:H b with
   | none=>rfl
   | some u =>
    have e':b=a:=hA b (by rw[q];simp)
    subst e'
    rw[hK (by rw[q];simp)] at e;cases e)
  have hM:Mod K mg (jm s₁.heap H):=⟨hKb,nsK hns,⟨mb,nsK hb,hbb⟩,let ⟨mc,h1,h2⟩:=hlim;⟨mc,nsK h1,h2⟩⟩
  have e0:Env0 P w K mg (jm s₁.heap H) callerA [] s₁ H:=⟨rfl,hM,fun b o e=>zdo e,Nat.le_of_eq (zaC _ _),trivial,fun b hb=>absurd (show b∈([]:List Addr) from hb) (by simp),hok,.of_eq hg⟩
  refine codeAny_mono ((F _ hKb (nsK hns)).run callerA [] s₁ H ⟨[.ref a],[]⟩ [.ref a] [.ref a] _ _ hr e0 (hbind s₁ (.ref a)) (.cons rfl .nil) (hsp H hO hS)) fun r s' h=>?_
  cases r with
  | error e=>exact (hCX H e s' h).elim
  | ok fl =>
   cases fl with
   | next=>exact False.elim h
   | brk=>exact False.elim h
   | cont=>exact False.elim h
   | ret u =>
    refine cps fun zP zk=>?_
    obtain ⟨v,H',os,bare,un,hok',r',q⟩:=h
    refine zk ?_
    have q':v=.bl true:=q
    subst q'
    obtain rfl:u=Value.bool true:=r'
    refine ⟨rfl,OldK.of_keep fun b o e=>?_,os,bare⟩
    cases q:H b with
    | none=>exact un.keep b o e q (by intro z;exact absurd (show b∈([]:List Addr) from z) (by simp)) (by simp)
    | some u =>
     rcases hO b with z | ⟨ob,xs,z⟩
     .rw[q] at z;cases z
     .have z2:=un.frzs b ob _ z
      refine cps fun zP zj=>?_
      obtain ⟨e1,_⟩:=hok b _ z
      obtain ⟨e2,_⟩:=hok' b _ z2
      refine zj ?_
      rw[e] at e1;cases e1
      exact e2
 cases hk:K.lookup a with
 | some o =>
  -- the script is one of the module's own objects
  have e:=KX a o hk
  rw[ha] at e
  cases e
  refine core (fun _=>none) (fun _=>.inl rfl) (.inr ⟨_,vs.toArray,_,hk,rfl,rfl,rfl,by rw[List.size_toArray,lenV];exact hl,by simpa using rv⟩) (fun b u z=>by have z':(none:Option HO)=some u:=z;cases z') (fun b z=>absurd rfl z) fun z=>absurd rfl z
 | none =>
  refine core (fun b=>if b=a then some (.frz { cls:=.type "list",data:=.seq vs.toArray } (.lst (ns.map V.int))) else none) (fun b=>?_) (.inl (.inr ⟨{ cls:=.type "list",data:=.seq vs.toArray },if_pos rfl⟩)) (fun b u z=>?_) (fun b z=>?_) fun _=>hk
  .by_cases hb:b=a
   .exact .inr ⟨_,_,if_pos hb⟩
   .exact .inl (if_neg hb)
  .by_cases hb:b=a
   .have z':=(if_pos hb).symm.trans z
    cases z'
    subst hb
    exact ⟨ha,by rw[List.length_map];exact hl,vs,_,rv,ha⟩
   .have z':=(if_neg hb).symm.trans z
    cases z'
  .by_cases hb:b=a
   .exact hb
   .exact absurd (if_neg hb) z
theorem zdD {l:PySem.W.OpenLaw}{n k:Nat}{q:Program}{loose:List Str}{XP:(Str->Option Value)->Heap->Prop}{YP:World->Heap->Prop}{d:DefRec}{K:Params->PySem.W.Frag}{CX:World->CXT}{sp:World->Sp}{x:Str}
  (hn:l.most=some n) (hn2:n<=sizeLine) (hdf:d.params.defaults=[]) (hr:Room k callerA)
  (hY:∀ (w:World) (h:Heap),YP w h->(K w.params).In h)
  (F:∀ (w:World) (mg:Str->Option Value) (fa:Addr) (h:Heap),(K w.params).In h->h.Ns mainGlobals mg->mg d.name=some (.ref fa) ->
   ∃fd:FuncData,(∀ (s:Shared) (u:Value),BindsTo s fd ⟨[u],[]⟩ [(x,u)]) /\
    ∀base:Heap,(K w.params).In base->base.Ns mainGlobals mg->FnOk l.prog w (K w.params) mg base (CX w) k fa fd [x] (sp w))
  (hsp:∀ (w:World) (H:Hp) (a:Addr) (ns:List Int),ns.length<=n->zbP H->SqL (K w.params) H a (ns.map V.int)->sp w [.ref a] H (fun v _=>v=.bl true) fun _ _ _=>False)
  (hCX:∀ (w:World) (H:Hp) (s:Shared) (e:Value) (s':Shared),CX w [] H s (fun _ _ _=>False) e s'->False) :
  PySem.W.WalkO q loose XP YP l.row.toRowW d [] (fun f vs=>PySem.call f vs):=by
 refine Att.attach_call hn hdf fun w s₀ s₁ mg mb fa o pm cd doc a vs ns G Y ho hd hcd hmg hobj hints hlen hg=>?_
 have KX:=hY w _ Y
 obtain ⟨fd,hb,hF⟩:=F w mg fa _ KX G.T.g hmg
 exact zbQ KX G.T.g G.T.b G.T.builtins G.T.nolimit hg hobj hints (Nat.le_trans hlen hn2) hr hF hb (fun H hO hS=>hsp w H a ns hlen hO hS) fun H e s'=>hCX w H s₁ e s'
noncomputable def wu (s:Stmt):Arguments:=match s with
 | .FunctionDef _ a _ _ _ _ _ _ _ _=>a
 | _=>{ posonlyargs:=[],args:=[],vararg:=none,kwonlyargs:=[],kw_defaults:=[],kwarg:=none,defaults:=[] }
noncomputable def yI (s:Stmt):List Stmt:=match s with
 | .FunctionDef _ _ b _ _ _ _ _ _ _=>b
 | _=>[]
noncomputable def zE (s:Stmt):Scope:=match s with
 | .FunctionDef _ _ _ _ _ _ sc _ _ _=>sc
 | _=>{ kind:=.function,names:=[],isGenerator:=false,isCoroutine:=false }
noncomputable abbrev CX0:CXT:=fun _ _ _ _ _ _=>False
noncomputable abbrev E0:XK:=fun _ _ _=>False
theorem zgP {X:Cx}:v7 CX0 X E0:=fun _ _ _ _ _ _ _ h=>h.elim
structure Fun (K:PySem.W.Frag)(x qual:Str)(st:Stmt)(f:Addr)(fd:FuncData):Prop where
 ex:∃ (oc:Value) (od:Option Addr) (kV doc pm:Value) (an:Option Addr) (cdv ct:Value) (osl:Array (Option Value)),
  fd=PySem.W.fnOf x qual (wu st) (yI st) (zE st) .none kV doc pm an cdv ct/\K.lookup f=some ⟨oc,od,.func fd,osl⟩/\PySem.W.codeIn K cdv qual=true
 kp:PySem.W.keepIn K (.ref f)=true
section
variable {P:Program}{w:World}{K:PySem.W.Frag}{mg:Str->Option Value}{base:Heap}
theorem Fun.ok {x qual:Str}{st:Stmt}{f:Addr}{fd:FuncData}{N ps:List Str}{k:Nat}{sp:Sp}(F:Fun K x qual st f fd)(S:FnScope N ps (zE st))(len:∀vs H Q E,sp vs H Q E->vs.length=ps.length)
  (hbody:∀ (cdv:Value) (A:Around) (outer:List Env) (s:Shared) (H:Hp) (vs:List V) (Q:VK) (E:XK),Room k (A.deeper (envOfC qual (zE st) s.heap.objs.size f cdv))->sp vs H Q E ->
   ∃t,PSs (wZ CX0 P w K mg base N qual (zE st) f cdv A outer s H E).nox (yI st) t/\t { nx:=fun _ H'=>Q .non H',rt:=Q } (start N vs) H):FnOk P w K mg base CX0 (k+1) f fd ps sp:=by
 refine cps fun zP zk=>?_
 obtain ⟨oc,od,kV,doc,pm,an,cdv,ct,osl,rfl,lk,hcd⟩:=F.ex
 refine zk ?_
 refine zeQ lk hcd S len fun A outer s H vs Q E hr hsp=>?_
 obtain ⟨t,h,q⟩:=hbody cdv A outer s H vs Q E hr hsp
 exact ⟨t,h.nox,q⟩
theorem Fun.binds {x qual:Str}{st:Stmt}{f:Addr}{fd:FuncData}{ps:List Str}(F:Fun K x qual st f fd)
  (h:∀ (kV doc pm:Value) (an:Option Addr) (cdv ct:Value) (us:List Value),us.length=ps.length->bindArgs (PySem.W.fnOf x qual (wu st) (yI st) (zE st) .none kV doc pm an cdv ct) ⟨us,[]⟩=pure (ps.zip us)):Binds K fd ps []:=by
 refine cps fun zP zk=>?_
 obtain ⟨oc,od,kV,doc,pm,an,cdv,ct,osl,rfl,lk,hcd⟩:=F.ex
 refine zk ?_
 exact .all (h kV doc pm an cdv ct)
theorem zfA {x qual:Str}{st:Stmt}{f:Addr}{oc:Value}{od an:Option Addr}{osl:Array (Option Value)}{kV doc pm cdv ct:Value}(l:K.lookup f=some ⟨oc,od,.func (PySem.W.fnOf x qual (wu st) (yI st) (zE st) .none kV doc pm an cdv ct),osl⟩)
  (c:PySem.W.codeIn K cdv qual=true) (k:PySem.W.keepIn K (.ref f)=true):Fun K x qual st f (PySem.W.fnOf x qual (wu st) (yI st) (zE st) .none kV doc pm an cdv ct):=⟨⟨oc,od,kV,doc,pm,an,cdv,ct,osl,rfl,l,c⟩,k⟩
end
theorem zaL {n:Nat}(h:n<=1000):n < sizeLine:=Nat.lt_of_le_of_lt h (by decide)
theorem js {A B:Prop}(h:B):if false=true then A else B:=by
 rw[if_neg Bool.false_ne_true]
 exact h
theorem jZ {A B:Prop}(h:A):if true=true then A else B:=by
 rw[if_pos rfl]
 exact h
noncomputable def wM (env:Env):List (Str×NameKind)->List (Str×Addr)->List (Str×Addr)
 | [],acc=>acc
 | (n,k)::r,acc=>if k == .free then wM env r ((n,(env.cells.lookup n).getD 0)::acc) else wM env r acc
theorem w5 {env:Env}(f:Str×NameKind->List (Str×Addr)->Sem (ForInStep (List (Str×Addr))))
  (hf:∀n k cs,f (n,k) cs=if k == .free then (do let a <- cellOf env n;pure (.yield ((n,a)::cs))) else pure (.yield cs)) :
  ∀ (names:List (Str×NameKind)) (acc:List (Str×Addr)),(∀y∈names,y.2=.free->∃c,env.cells.lookup y.1=some c)->forIn names acc f=pure (wM env names acc)
 | [],acc,_=>by rw[List.forIn_nil];rfl
 | (n,k)::r,acc,h=>by
  have ih:=w5 f hf r
  rw[List.forIn_cons,hf]
  unfold wM
  cases hk:k == NameKind.free with
  | true =>
   obtain ⟨c,hc⟩:=h (n,k) List.mem_cons_self (by simpa using hk)
   have hc':env.cells.lookup n=some c:=hc
   have e1:cellOf env n=pure c:=by unfold cellOf;rw[hc']
   simp only[if_true,e1,hc',Option.getD_some,pure_bind]
   exact ih _ fun y hy=>h y (List.mem_cons_of_mem _ hy)
  | false =>
   simp only[Bool.false_eq_true,if_false,pure_bind]
   exact ih _ fun y hy=>h y (List.mem_cons_of_mem _ hy)
theorem v8 {scope:Scope}{env:Env}(h:∀y∈scope.names,y.2=.free->∃c,env.cells.lookup y.1=some c):closureFor scope env=pure (wM env scope.names []):=by
 unfold closureFor
 simp only[]
 rw[w5 (env:=env) _ (fun n k cs=>by cases hk:k == NameKind.free <;> simp[hk]) scope.names [] h]
 rfl
theorem wv {env:Env}{y:Str}{c:Addr}:∀ {names:List (Str×NameKind)}{acc:List (Str×Addr)},(∀z∈names,z.2=.free->∃c,env.cells.lookup z.1=some c)->(wM env names acc).lookup y=some c ->
  acc.lookup y=some c\/((y,NameKind.free)∈names/\env.cells.lookup y=some c)
 | [],acc,_,e=>.inl e
 | (n,k)::r,acc,h,e=>by
  unfold wM at e
  have h':∀z∈r,z.2=.free->∃c,env.cells.lookup z.1=some c:=fun z hz=>h z (List.mem_cons_of_mem _ hz)
  cases hk:k == NameKind.free with
  | true =>
   have hk':k=.free:=by simpa using hk
   subst hk'
   rw[hk,if_pos rfl] at e
   rcases wv h' e with q | ⟨q1,q2⟩
   .rw[List.lookup_cons] at q
    cases hy:y == n with
    | true =>
     rw[hy] at q
     have:y=n:=by simpa using hy
     subst this
     obtain ⟨c',hc'⟩:=h (y,.free) List.mem_cons_self rfl
     have hc'':env.cells.lookup y=some c':=hc'
     rw[hc''] at q
     refine .inr ⟨List.mem_cons_self,?_⟩
     rw[hc''];exact q
    | false=>rw[hy] at q;exact .inl q
   .exact .inr ⟨List.mem_cons_of_mem _ q1,q2⟩
  | false =>
   rw[hk,if_neg (by simp)] at e
   rcases wv h' e with q | ⟨q1,q2⟩
   .exact .inl q
   .exact .inr ⟨List.mem_cons_of_mem _ q1,q2⟩
theorem vp {env:Env}{y:Str}:∀ {names:List (Str×NameKind)}{acc:List (Str×Addr)},((y,NameKind.free)∈names\/(acc.lookup y).isSome=true)->((wM env names acc).lookup y).isSome=true
 | [],acc,h=>by
  rcases h with h | h
  .cases h
  .exact h
 | (n,k)::r,acc,h=>by
  unfold wM
  cases hk:k == NameKind.free with
  | true =>
   rw[if_pos rfl]
   refine vp ?_
   rcases h with h | h
   .rcases List.mem_cons.mp h with e | e
    .cases e
     exact .inr (by rw[List.lookup_cons];simp)
    .exact .inl e
   .refine .inr ?_
    rw[List.lookup_cons]
    split
    .rfl
    .exact h
  | false =>
   rw[if_neg (by simp)]
   refine vp ?_
   rcases h with h | h
   .rcases List.mem_cons.mp h with e | e
    .cases e;cases hk
    .exact .inl e
   .exact .inr h
theorem zbR {y:Str}{c:Addr}:∀ {names:List (Str×NameKind)}{h:Heap}{acc:List (Str×Addr)},(cellsFrom h.objs.size names acc).lookup y=some c ->
  acc.lookup y=some c\/(h.objs.size<=c/\(pushCells h names).IsCell c none/\(y,NameKind.cell)∈names)
 | [],h,acc,e=>.inl e
 | (n,k)::r,h,acc,e=>by
  unfold cellsFrom at e
  cases hk:k == NameKind.cell with
  | true =>
   have hk':k=.cell:=by simpa using hk
   subst hk'
   rw[hk,if_pos rfl] at e
   have ih:=zbR (y:=y) (c:=c) (names:=r) (h:=h.push { cls:=.type "cell",data:=.cell none }) (acc:=(n,h.objs.size)::acc)
   rw[Heap.size_push] at ih
   have hp:pushCells h ((n,NameKind.cell)::r)=pushCells (h.push { cls:=.type "cell",data:=.cell none }) r:=by
    exact if_pos hk
   rcases ih e with q | ⟨q1,q2,q3⟩
   .rw[List.lookup_cons] at q
    cases hy:y == n with
    | true =>
     rw[hy] at q
     cases q
     have hyn:y=n:=by simpa using hy
     subst hyn
     refine .inr ⟨Nat.le_refl _,?_,List.mem_cons_self⟩
     rw[hp]
     exact ⟨_,pushCells_keeps _ _ _ _ (Heap.get?_push_size _ rfl),rfl⟩
    | false=>rw[hy] at q;exact .inl q
   .exact .inr ⟨Nat.le_trans (Nat.le_succ _) q1,by rw[hp];exact q2,List.mem_cons_of_mem _ q3⟩
  | false =>
   rw[hk,if_neg (by simp)] at e
   have hp:pushCells h ((n,k)::r)=pushCells h r:=by
    show (if (k == NameKind.cell)=true then _ else _)=_
    rw[hk,if_neg (by simp)]
   rcases zbR e with q | ⟨q1,q2,q3⟩
   .exact .inl q
   .exact .inr ⟨q1,by rw[hp];exact q2,List.mem_cons_of_mem _ q3⟩
theorem zbS {y:Str}{c:Addr}{lo:Nat}:∀ {names:List (Str×NameKind)}{n:Nat}{acc:List (Str×Addr)},((y,NameKind.cell)∈names\/∀c,acc.lookup y=some c->lo<=c)->lo<=n->(cellsFrom n names acc).lookup y=some c->lo<=c
 | [],n,acc,h,_,e=>by
  rcases h with h | h
  .cases h
  .exact h c e
 | (m,k)::r,n,acc,h,hn,e=>by
  unfold cellsFrom at e
  cases hk:k == NameKind.cell with
  | true =>
   rw[hk,if_pos rfl] at e
   refine zbS ?_ (Nat.le_trans hn (Nat.le_succ _)) e
   by_cases hy:y=m
   .subst hy
    refine .inr fun c hc=>?_
    rw[List.lookup_cons,beq_self_eq_true] at hc
    cases hc
    exact hn
   .rcases h with h | h
    .rcases List.mem_cons.mp h with z | z
     .cases z;exact absurd rfl hy
     .exact .inl z
    .refine .inr fun c hc=>?_
     rw[List.lookup_cons] at hc
     have:(y == m)=false:=by simpa using hy
     rw[this] at hc
     exact h c hc
  | false =>
   rw[hk,if_neg (by simp)] at e
   refine zbS ?_ hn e
   rcases h with h | h
   .rcases List.mem_cons.mp h with z | z
    .cases z;cases hk
    .exact .inl z
   .exact .inr h
theorem g6:∀ {names:List (Str×NameKind)}{n:Nat}{acc:List (Str×Addr)},(∀y z c,acc.lookup y=some c->acc.lookup z=some c->y=z)->(∀y c,acc.lookup y=some c->c < n) ->
  ∀y z c,(cellsFrom n names acc).lookup y=some c->(cellsFrom n names acc).lookup z=some c->y=z
 | [],n,acc,hi,_=>hi
 | (m,k)::r,n,acc,hi,hl=>by
  unfold cellsFrom
  cases hk:k == NameKind.cell with
  | true =>
   rw[if_pos rfl]
   refine g6 (fun y z c e1 e2=>?_) fun y c e=>?_
   .rw[List.lookup_cons] at e1 e2
    cases hy:y == m <;> cases hz:z == m <;> rw[hy] at e1 <;> rw[hz] at e2
    .exact hi y z c e1 e2
    .cases e2;exact absurd (hl y _ e1) (Nat.lt_irrefl _)
    .cases e1;exact absurd (hl z _ e2) (Nat.lt_irrefl _)
    .exact (by simpa using hy:y=m).trans (by simpa using hz:z=m).symm
   .rw[List.lookup_cons] at e
    cases hy:y == m <;> rw[hy] at e
    .exact Nat.lt_succ_of_lt (hl y c e)
    .cases e;exact Nat.lt_succ_self _
  | false =>
   rw[if_neg (by simp)]
   exact g6 hi hl
theorem j6 {M:Model}{A:Around}{E:Value->Shared->Prop}{s:Shared}{scope:Scope}{globals:Addr}{cl:List (Str×Addr)}{qual:Str}{outer:Env}{Q:Env->Shared->Prop}
  (hQ:Q { scope:=scope,locals:=s.heap.objs.size,globals:=globals,cells:=cellsFrom (s.heap.objs.size+1) scope.names cl,qual:=qual,func:=none,code:=outer.code,frame:=outer.frame,builtins:=outer.builtins }
   { s with heap:=pushCells (s.heap.push { cls:=.type "dict",data:=.dict #[] }) scope.names }) :
  wpAny M A (newFunctionEnv scope globals cl [] qual none .none (some outer)) Q E s:=by
 simp only[newFunctionEnv,Option.isSome_some,if_true]
 refine wpAny_bind (wpAny_alloc ?_)
 refine wpAny_bind (wpAny_layCells _ (fun name kind cells=>by cases hkc:kind == NameKind.cell <;> simp[hkc]) _ _ _ _ ?_)
 rw[show ({ s with heap:=s.heap.push { cls:=.type "dict",data:=.dict #[] } }:Shared).heap.objs.size=s.heap.objs.size+1 from Heap.size_push ..]
 simp only[List.forIn_nil]
 exact wpAny_bind (wpAny_pure (wpAny_pure hQ))
theorem yg {scope:Scope}{env:Env}{y:Str}:(relabel scope env).names.lookup y=(scope.names.lookup y).map fun k=>if (k == NameKind.free && env.scope.kind == .function && env.kindOf y == some .cell) then NameKind.cell else k:=by
 have all:∀l:List (Str×NameKind),(l.map fun (n,k)=>if (k == NameKind.free && env.scope.kind == .function && env.kindOf n == some .cell) then (n,NameKind.cell) else (n,k)).lookup y=(l.lookup y).map fun k=>if (k == NameKind.free && env.scope.kind == .function && env.kindOf y == some .cell) then NameKind.cell else k:=by
  intro l
  induction l with
  | nil=>rfl
  | cons p r ih =>
   obtain ⟨n,k⟩:=p
   rw[List.map_cons,List.lookup_cons]
   by_cases hc:(k == NameKind.free && env.scope.kind == .function && env.kindOf n == some .cell)=true
   .simp only[hc,if_true,List.lookup_cons]
    cases hy:y == n with
    | true =>
     have:y=n:=by simpa using hy
     subst this
     simp only[Option.map_some,hc,if_true]
    | false=>exact ih
   .simp only[if_neg hc,List.lookup_cons]
    cases hy:y == n with
    | true =>
     have:y=n:=by simpa using hy
     subst this
     simp only[Option.map_some,if_neg hc]
    | false=>exact ih
 exact all scope.names
noncomputable def dum (x:Str):Str:=⟨x.cps.push 0⟩
noncomputable def xj (N xs:List Str):List Str:=(N.map fun y=>if y∈xs then dum y else y)++xs
theorem zaM (N xs:List Str):(xj N xs).length=N.length+xs.length:=by simp[xj]
theorem wN (N xs:List Str)(j:Nat):(xj N xs)[N.length+j]?=xs[j]?:=by
 unfold xj
 rw[List.getElem?_append_right (by simp)]
 simp
theorem zaN {N xs:List Str}{y:Str}{i:Nat}(hi:i < N.length)(h:(xj N xs)[i]?=some y):(∃x∈xs,y=dum x)\/(N[i]?=some y/\y∉xs):=by
 unfold xj at h
 rw[List.getElem?_append_left (by simpa using hi),List.getElem?_map] at h
 obtain ⟨z,hz⟩:∃z,N[i]?=some z:=⟨N[i],by simp[hi]⟩
 rw[hz] at h
 by_cases e:z∈xs
 .simp only[Option.map_some,if_pos e] at h
  exact .inl ⟨z,e,(Option.some.inj h).symm⟩
 .simp only[Option.map_some,if_neg e] at h
  have e2:z=y:=Option.some.inj h
  subst e2
  exact .inr ⟨hz,e⟩
structure CompOf (X:Cx)(scope:Scope)(xs:List Str)(Xc:Cx):Prop where
 prog:Xc.prog=X.prog
 w:Xc.w=X.w
 K:Xc.K=X.K
 mg:Xc.mg=X.mg
 base:Xc.base=X.base
 A:Xc.A=X.A
 N:Xc.N=xj X.N xs
 sc:Xc.env.scope=relabel scope X.env
 calm:Xc.calm=true
 stack:Xc.stack=X.stack
noncomputable def PTs (X:Cx)(ifs:List Expr)(t:TT):Prop :=
 ∀ (pins:List (Addr×Obj)) (s:Shared) (σ:St) (H:Hp) (Q:Bool->Hp->Prop),Inv X pins σ H s->t σ H Q ->
  wpAny (model X.prog X.w) X.A (forIn ifs true fun c r=>if r=true then do let ok <- isTrue c X.env (eval c X.env);pure (ForInStep.yield ok) else pure (ForInStep.yield r)) (TP X pins σ Q) X.xe s
theorem vS {X:Cx}:PTs X [] (fun _ H Q=>Q true H):=fun _ _ _ H _ I h=>wpAny_tests_nil ⟨H,I,h⟩
structure BlockOk (X:Cx)(scope:Scope)(xs:List Str):Prop where
 kind:scope.kind=.function
 own:∀x∈xs,scope.names.lookup x=some .local\/scope.names.lookup x=some .cell
 locs:∀y∈scope.names,y.2=.local->scope.names.lookup y.1=some .local
 free:∀y∈scope.names,y.2=.free->X.env.scope.names.lookup y.1=some .cell\/X.env.scope.names.lookup y.1=some .free
 alone:∀y∈X.N,y∉xs->scope.names.lookup y≠some .local/\scope.names.lookup y≠some .cell
 one:∀y∈scope.names,y.2=.cell->scope.names.lookup y.1≠some .free
 nd:(xj X.N xs).Nodup
 dumN:∀x∈xs,scope.names.lookup (dum x)=none
theorem jt {prog:Program}{w:World}{A:Around}{R:Result->Shared->Prop}{s:Shared}{elt target iter:Expr}{ifs:List Expr}{scope:Scope}{pos:Pos}{it acc:Value}{env:Env}(I:Nat->Shared->Prop)
  (turn:∀n s,I n s->wpAny (model prog w) A (pyNext it) (fun r s₁=>match r with
   | none=>R (.ok .next) s₁
   | some v=>wpAny (model prog w) A (letOwnedTupleGo target it v) (fun _ s₁'=>wpAny (model prog w) A (assign target env v) (fun _ s₂ =>
     wpAny (model prog w) A (forIn ifs true fun c r=>if r=true then do let ok <- isTrue c env (eval c env);pure (ForInStep.yield ok) else pure (ForInStep.yield r)) (fun ok s₃ =>
      if ok=true then wpAny (model prog w) A (eval elt env) (fun x s₄ =>
       wpAny (model prog w) A (call (.builtin "list.append") [acc,x]) (fun _ s₅=>∃m,m < n/\I m s₅) (notedBy (model prog w) A env fun e s'=>R (.error e) s') s₄) (notedBy (model prog w) A env fun e s'=>R (.error e) s') s₃
      else ∃m,m < n/\I m s₃) (notedBy (model prog w) A env fun e s'=>R (.error e) s') s₂) (notedBy (model prog w) A env fun e s'=>R (.error e) s') s₁') (notedBy (model prog w) A env fun e s'=>R (.error e) s') s₁) (notedBy (model prog w) A env fun e s'=>R (.error e) s') s)
  (n:Nat) (h:I n s):codeAny (model prog w) A (.compLoop (.ListComp elt [⟨target,iter,ifs,0⟩] scope pos) 0 it acc env) R s:=by
 refine codeAny_loop rfl I (fun n s hI=>?_) n h
 show wpAny _ A ((compTurn (.ListComp elt [⟨target,iter,ifs,0⟩] scope pos) 0 it acc env).onRaise (fun x=>do noteFrame x env;theTreesLotGoes x)) _ _ s
 refine wpAny_noted ?_
 rw[compTurn_list]
 refine wpAny_bind (wpAny_standAt (wpAny_bind (wpAny_mono (turn n s hI) (fun r s₁ h₁=>?_) fun _ _ h'=>h')))
 cases r with
 | none=>exact wpAny_pure h₁
 | some v =>
  refine wpAny_bind (wpAny_mono h₁ (fun _ s₁' h₁'=>?_) fun _ _ h'=>h')
  refine wpAny_bind (wpAny_mono h₁' (fun _ s₂ h₂=>wpAny_bind (wpAny_mono h₂ (fun ok s₃ h₃=>?_) fun _ _ h'=>h')) fun _ _ h'=>h')
  cases ok with
  | false=>exact wpAny_pure ⟨rfl,h₃⟩
  | true =>
   exact wpAny_bind (wpAny_bind (wpAny_mono h₃ (fun x s₄ h₄=>wpAny_bind (wpAny_mono h₄ (fun _ s₅ h₅=>wpAny_pure (wpAny_pure ⟨rfl,h₅⟩)) fun _ _ h'=>h')) fun _ _ h'=>h'))
noncomputable def ja (un:V->Hp->List V->Prop)(wi:TI)(tc:TT)(te:TE):TE:=fun σ H Q=>wi σ H fun J H1=>∀D,H1 D=none->∃W:Nat->Nat->List V->Hp->Prop,(∃m,W 0 m [] (upd H1 D (.lst [])))/\∀i m ys H,W i m ys H ->
 (J.stop i H/\Q (.ref D) H)\/(J.go i H/\∀v H',J.yld i H v H'->∃vs,un v H' vs/\tc (σ++vs.map some) H' fun b H2=>if b=true then te (σ++vs.map some) H2 fun y H3=>H3 D=some (.lst ys)/\ys.length < sizeLine/\∃m',m' < m/\W (i+1) m' (ys++[y]) (upd H3 D (.lst (ys++[y])))
  else ∃m',m' < m/\W (i+1) m' ys H2)
theorem v9 {X:Cx}{elt iter tg:Expr}{xs:List Str}{g:TG}{un:V->Hp->List V->Prop}{ifs:List Expr}{scope:Scope}{pos:Pos}{tc:TT}{te:TE}{pins:List (Addr×Obj)}{σ:St}{s:Shared}{H:Hp}{Q:Value->Shared->Prop}{use:Option (Value->Sem Unit)}
  {D it:Addr}{fp:List Addr}{tn:Nat->Heap->Prop}{J:It}(B:BlockOk X scope xs) (hc:X.calm=true)
  (hpg:∀Xc,CompOf X scope xs Xc->(∀x∈xs,Loc Xc.env.scope x/\(Xc.fn x=true\/Xc.env.scope.names.lookup x=some .local))->PG Xc tg g)
  (hun:∀v H vs os,os.length=xs.length->un v H vs->vs.length=xs.length/\g v (σ++os) H fun σ2 H2=>σ2=σ++vs.map some/\H2=H)
  (hbody:∀Xc,CompOf X scope xs Xc->PTs Xc ifs tc/\PE Xc elt te)
  (I:Inv X pins σ H s) (T:Turn X.prog X.w X.K tg J fp it tn) (st:tn 0 s.heap) (hfp:∀b∈fp,vO X pins H b)
  (W:Nat->Nat->List V->Hp->Prop) (m0:Nat) (w0:W 0 m0 [] H)
  (turn:∀i m ys H,W i m ys H->(J.stop i H/\∀s' m' C,Inv X pins σ H s'->s'.heap.Ns C m'->s.heap.objs.size<=C->H C=none->compPost (model X.prog X.w) X.A X.xe use Q (.ref D) C (.ok .next) s') \/
   (J.go i H/\∀v H',J.yld i H v H'->∃vs,un v H' vs/\tc (σ++vs.map some) H' fun b H2=>if b=true then te (σ++vs.map some) H2 fun y H3=>H3 D=some (.lst ys)/\ys.length < sizeLine/\∃m',m' < m/\W (i+1) m' (ys++[y]) (upd H3 D (.lst (ys++[y])))
    else ∃m',m' < m/\W (i+1) m' ys H2)) :
  wpAny (model X.prog X.w) X.A (newFunctionEnv scope X.env.globals (wM X.env scope.names []) [] X.env.qual none .none (some X.env)) (fun cenv s₄ =>
   codeAny (model X.prog X.w) X.A (.compStart (.ListComp elt [⟨tg,iter,ifs,0⟩] scope pos) 0 (.ref it) (.ref D) { cenv with scope:=relabel scope X.env }) (compPost (model X.prog X.w) X.A X.xe use Q (.ref D) cenv.locals) s₄) X.xe s:=by
 refine j6 ?_
 have hcl:∀y∈scope.names,y.2=.free->∃c,X.env.cells.lookup y.1=some c:=fun y hy hf=>by
  rcases B.free y hy hf with q | q
  .exact I.ok.has y.1 (.inl q)
  .exact I.ok.has y.1 (.inr q)
 -- the block's own parts
 generalize hC:s.heap.objs.size=C
 generalize hcs:cellsFrom (C+1) scope.names (wM X.env scope.names [])=cs
 generalize hh4:pushCells (s.heap.push { cls:=.type "dict",data:=.dict #[] }) scope.names=h4
 have szP:(s.heap.push { cls:=.type "dict",data:=.dict #[] }).objs.size=C+1:=by rw[Heap.size_push,hC]
 have keep4:∀b o,s.heap.get? b=some o->h4.get? b=some o:=fun b o e=>hh4▸pushCells_keeps _ _ _ _ (Heap.get?_push_of_some _ e)
 have nsC:h4.Ns C (fun _=>none):=by
  have q:=(Heap.Ns.new s.heap (.type "dict")).keeps (pushCells_keeps scope.names (s.heap.push { cls:=.type "dict",data:=.dict #[] }))
  rw[hC,hh4] at q
  exact q
 -- a cell of the block: one of its own,or one of those around
 have csIn:∀y c,cs.lookup y=some c->((y,NameKind.free)∈scope.names/\X.env.cells.lookup y=some c)\/(C+1<=c/\h4.IsCell c none/\(y,NameKind.cell)∈scope.names):=fun y c e=>by
  have q:=zbR (y:=y) (c:=c) (names:=scope.names) (h:=s.heap.push { cls:=.type "dict",data:=.dict #[] }) (acc:=wM X.env scope.names [])
  rw[szP,hcs,hh4] at q
  rcases q e with q | q
  .rcases wv hcl q with z | z
   .cases z
   .exact .inl z
  .exact .inr q
 have oldC:∀y c,X.env.cells.lookup y=some c->c < C:=fun y c e=>by
  obtain ⟨v,q⟩:=I.cell y c e
  rw[<- hC];exact q.lt
 have fpC:∀b∈fp,b < C:=fun b hb=>by
  obtain ⟨o,e,_⟩:=T.obj _ _ st b hb
  rw[<- hC];exact Heap.lt_size e
 let cenv:Env:={ scope:=relabel scope X.env,locals:=C,globals:=X.env.globals,cells:=cs,qual:=X.env.qual,func:=none,code:=X.env.code,frame:=X.env.frame,builtins:=X.env.builtins }
 let RR:Result->Shared->Prop:=compPost (model X.prog X.w) X.A X.xe use Q (.ref D) C
 let Xc:Cx:={ X with N:=xj X.N xs,s₀:=s,H₀:=H,env:=cenv,outer:=X.stack,stack:=X.stack,ex:=fp,fn:=fun y=>decide (scope.names.lookup y=some .cell),calm:=true,pn:=[],xe:=notedBy (model X.prog X.w) X.A cenv fun e s'=>RR (.error e) s' }
 have hXc:CompOf X scope xs Xc:=⟨rfl,rfl,rfl,rfl,rfl,rfl,rfl,rfl,rfl,rfl⟩
 obtain ⟨hT,hE⟩:=hbody Xc hXc
 have ok:Xc.Ok:=by
  refine ⟨I.ok.mod,B.kind,I.ok.glob,I.ok.blt,Nat.le_of_eq hC,?_,fun y hy=>?_,fun y c hf e=>?_,fun _=>I.ok.hd hc,I.ok.frames,.inl rfl,fun b hb=>⟨Nat.ne_of_lt (fpC b hb),fun y c e=>?_⟩,I.bs,Nat.le_trans I.ok.bsz I.sz,fun b o e hb=>?_,fun b hb hf=>?_,I.stack,I.stkFree⟩
  .show ∀y z c,cs.lookup y=some c->cs.lookup z=some c->y=z
   rw[<- hcs]
   refine g6 (fun y z c e1 e2=>?_) fun y c e=>?_
   .rcases wv hcl e1 with q | q
    .cases q
    .rcases wv hcl e2 with q' | q'
     .cases q'
     .exact I.ok.inj y z c q.2 q'.2
   .rcases wv hcl e with q | q
    .cases q
    .exact Nat.lt_succ_of_lt (oldC y c q.2)
  .have hy':(relabel scope X.env).names.lookup y=some .cell\/(relabel scope X.env).names.lookup y=some .free:=hy
   rw[yg] at hy'
   show ∃c,cs.lookup y=some c
   rw[<- hcs]
   refine Option.isSome_iff_exists.mp (PySem.W.cellsFrom_some _ _ _ ?_)
   cases hk:scope.names.lookup y with
   | none=>rw[hk] at hy';rcases hy' with z | z <;> cases z
   | some k =>
    rw[hk] at hy'
    have kk:k=.cell\/k=.free:=by
     simp only[Option.map_some] at hy'
     by_cases hcnd:(k == NameKind.free && X.env.scope.kind == .function && X.env.kindOf y == some .cell)=true
     .refine .inr ?_
      have:=(Bool.and_eq_true_iff.mp (Bool.and_eq_true_iff.mp hcnd).1).1
      simpa using this
     .rw[if_neg hcnd] at hy'
      rcases hy' with z | z
      .exact .inl (Option.some.inj z)
      .exact .inr (Option.some.inj z)
    rcases kk with rfl | rfl
    .exact .inl rfl
    .exact .inr (vp (.inl (PySem.mem_of_lookup hk)))
  .show s.heap.objs.size<=c
   rw[hC]
   have e':cs.lookup y=some c:=e
   rw[<- hcs] at e'
   exact Nat.le_trans (Nat.le_succ _) (zbS (lo:=C+1) (.inl (PySem.mem_of_lookup (of_decide_eq_true hf))) (Nat.le_refl _) e')
  .show c≠b
   rintro rfl
   rcases csIn y c e with ⟨_,z⟩ | ⟨z,_,_⟩
   .exact (hfp c hb).2.2.2.2.1 y c z rfl
   .exact absurd (Nat.lt_of_lt_of_le (fpC c hb) (Nat.le_trans (Nat.le_succ _) z)) (Nat.lt_irrefl _)
  .rcases (hfp b hb).2.2.2.1 with z | z
   .exact I.ok.noex b o e z
   .exact absurd (Nat.lt_of_lt_of_le (Heap.lt_size (I.ok.bs b o e).1) z) (Nat.lt_irrefl _)
  .rcases List.mem_cons.mp (I.stkSub b hf) with z | z
   .exact (hfp b hb).2.1 z
   .exact (hfp b hb).2.2.1 z
 have frC:H C=none:=I.hok.fresh (Nat.le_of_eq hC)
 have frN:∀c,C<=c->H c=none:=fun c hc'=>I.hok.fresh (by rw[hC];exact hc')
 have hσ:σ.length=X.N.length:=I.len
 have I4:Inv Xc [] (σ++xs.map fun _=>none) H { s with heap:=h4 }:=by
  refine ⟨ok,rfl,I.bare,Un.kept keep4,⟨_,nsC,fun i y v e1 e2 e3=>?_⟩,fun y c e=>?_,frC,fun y c e=>?_,fun p hp=>absurd (show p∈([]:List (Addr×Obj)) from hp) (by simp),I.hok.kept keep4,?_⟩
  .have hi:i < σ.length:=by
    by_cases hi:i < σ.length
    .exact hi
    .rw[List.getElem?_append_right (by lia),List.getElem?_map] at e2
     cases hz:xs[i - σ.length]? with
     | none=>rw[hz] at e2;simp at e2
     | some k=>rw[hz] at e2;simp at e2
   rw[List.getElem?_append_left hi] at e2
   have vis:scope.names.lookup y=some .local\/scope.names.lookup y=some .cell\/scope.names.lookup y=some .free:=by
    have e3':Vis (relabel scope X.env) y:=e3
    unfold Vis at e3'
    rw[yg] at e3'
    cases hk:scope.names.lookup y with
    | none=>rw[hk] at e3';rcases e3' with z | z | z <;> cases z
    | some k =>
     rw[hk] at e3'
     simp only[Option.map_some] at e3'
     by_cases hcnd:(k == NameKind.free && X.env.scope.kind == .function && X.env.kindOf y == some .cell)=true
     .have:=(Bool.and_eq_true_iff.mp (Bool.and_eq_true_iff.mp hcnd).1).1
      exact .inr (.inr (by rw[show k=.free by simpa using this]))
     .rw[if_neg hcnd] at e3'
      exact e3'
   rcases zaN (by rw[<- hσ];exact hi) e1 with z | ⟨z,zx⟩
   .obtain ⟨x,hx,z⟩:=z
    subst z
    rw[B.dumN x hx] at vis
    rcases vis with q | q | q <;> cases q
   .have hfree:scope.names.lookup y=some .free:=by
     rcases vis with q | q | q
     .exact absurd q (B.alone y (List.mem_of_getElem? z) zx).1
     .exact absurd q (B.alone y (List.mem_of_getElem? z) zx).2
     .exact q
    have kout:=B.free _ (PySem.mem_of_lookup hfree) rfl
    refine cps fun zP zk=>?_
    obtain ⟨m,hn,hl⟩:=I.loc
    obtain ⟨u,r,l⟩:=hl i y v z e2 (kout.elim (fun q=>.inr (.inl q)) fun q=>.inr (.inr q))
    refine zk ?_
    refine ⟨u,r,?_⟩
    rcases l with ⟨k,_⟩ | ⟨_,c,ec,zc⟩
    .have k':X.env.scope.names.lookup y=some .local:=k
     rcases kout with q | q <;> rw[k'] at q <;> cases q
    .have hsome:∃c',cs.lookup y=some c':=ok.has y (by
      show (relabel scope X.env).names.lookup y=some .cell\/(relabel scope X.env).names.lookup y=some .free
      rw[yg,hfree]
      simp only[Option.map_some]
      split
      .exact .inl rfl
      .exact .inr rfl)
     obtain ⟨c',ec'⟩:=hsome
     refine .inr ⟨?_,c',ec',?_⟩
     .show (relabel scope X.env).names.lookup y=some .cell\/(relabel scope X.env).names.lookup y=some .free
      rw[yg,hfree]
      simp only[Option.map_some]
      split
      .exact .inl rfl
      .exact .inr rfl
     .rcases csIn y c' ec' with ⟨_,q⟩ | ⟨_,_,q⟩
      .rw[ec] at q;cases q
       exact zc.keeps keep4
      .exact absurd hfree (B.one (y,.cell) q rfl)
  .rcases csIn y c e with ⟨_,q⟩ | ⟨_,q,_⟩
   .obtain ⟨v,z⟩:=I.cell y c q
    exact ⟨v,z.keeps keep4⟩
   .exact ⟨_,q⟩
  .rcases csIn y c e with ⟨_,q⟩ | ⟨q,_,_⟩
   .exact I.freeC y c q
   .exact frN c (by lia)
  .show (σ++xs.map fun _=>none).length=(xj X.N xs).length
   rw[zaM,List.length_append,hσ,List.length_map]
 -- the loop
 have hLoc:∀x∈xs,Loc Xc.env.scope x/\(Xc.fn x=true\/Xc.env.scope.names.lookup x=some .local):=fun x hx=>by
  constructor
  .show (relabel scope X.env).names.lookup x=some .local\/(relabel scope X.env).names.lookup x=some .cell
   rw[yg]
   rcases B.own x hx with q | q <;> rw[q]
   .exact .inl rfl
   .exact .inr rfl
  .rcases B.own x hx with q | q
   .refine .inr ?_
    show (relabel scope X.env).names.lookup x=some .local
    rw[yg,q];rfl
   .exact .inl (decide_eq_true q)
 have hg:PG Xc tg g:=hpg Xc hXc hLoc
 have fpX:∀ {H':Hp},(∀b∈fp,H' b=none)->∀b∈fp,vO Xc [] H' b:=fun hn b hb =>
  ⟨hn b hb,Nat.ne_of_lt (fpC b hb),fun z=>ok.exfs b hb z,.inl hb,fun y c e=>(ok.exf b hb).2 y c e,fun p hp=>absurd (show p∈([]:List (Addr×Obj)) from hp) (by simp)⟩
 have loop:codeAny (model X.prog X.w) X.A (.compLoop (.ListComp elt [⟨tg,iter,ifs,0⟩] scope pos) 0 (.ref it) (.ref D) cenv) RR { s with heap:=h4 }:=by
  refine jt (fun n s'=>∃i os ys H',os.length=xs.length/\Inv Xc [] (σ++os) H' s'/\tn i s'.heap/\(∀b∈fp,H' b=none)/\W i n ys H') ?_ m0 ⟨0,_,[],H,List.length_map _,I4,T.keep _ _ _ st fun b _ o e=>keep4 b o e,fun b hb=>(hfp b hb).1,w0⟩
  intro n s3 zz
  refine cps fun zP zj=>?_
  obtain ⟨i,os,ys,H3,hos,I3,st3,fr3,w3⟩:=zz
  refine zj ?_
  rcases turn i n ys H3 w3 with ⟨stop,fin⟩ | ⟨go,step⟩
  .refine thn (T.done Xc rfl rfl rfl rfl i [] s3 (σ++os) H3 Xc.xe I3 (fpX fr3) st3 stop) fun r s4 ⟨hr,I4⟩=>?_
   subst hr
   obtain ⟨m,hn,_⟩:=id I4.loc
   refine fin s4 m C ?_ hn (Nat.le_of_eq hC) I4.free
   exact I.call' (ch:=fp) I4.os I4.base I4.hok I4.bare fun b hb=>⟨(hfp b hb).2.2.2.1,(hfp b hb).2.1,(hfp b hb).2.2.2.2.1,(hfp b hb).2.2.2.2.2⟩
  .refine thn (T.item Xc rfl rfl rfl rfl i [] s3 (σ++os) H3 Xc.xe I3 (fpX fr3) st3 go) fun r s4 ⟨u,hr,h4'⟩=>?_
   subst hr
   refine thn h4' fun _ s5 ⟨v,H5,I5,r5,y5,st5,fr5⟩=>?_
   have I5':=I5.pinned (fpX fr5) (T.obj _ _ st5)
   refine cps fun zP zi=>?_
   obtain ⟨vs,hvs,step5⟩:=step v H5 y5
   obtain ⟨hvl,hset⟩:=hun v H5 vs os hos hvs
   refine zi ?_
   refine thn (hg _ s5 (σ++os) H5 v u (fun σ2 H2=>σ2=σ++vs.map some/\H2=H5) I5' r5 hset) fun _ s6 ⟨σ6,H6,I6,e6,e6'⟩=>?_
   subst e6;subst e6'
   have back:∀ {H7:Hp}{s7:Shared},Inv Xc ([]++v4 fp s5.heap) (σ++vs.map some) H7 s7->tn (i+1) s7.heap/\(∀b∈fp,H7 b=none)/\Inv Xc [] (σ++vs.map some) H7 s7:=fun {H7 s7} I7=>by
    refine ⟨T.keep _ _ _ st5 fun b hb ob e=>(I7.pin (b,ob) (List.mem_append_right _ (List.mem_append_right _ (xX hb e)))).1,fun b hb=>?_,I7.unpinned⟩
    obtain ⟨ob,e,_⟩:=T.obj _ _ st5 b hb
    exact (I7.pin (b,ob) (List.mem_append_right _ (List.mem_append_right _ (xX hb e)))).2.1
   refine thn (hT _ s6 (σ++vs.map some) H6 _ I6 step5) fun b s7 ⟨H7,I7,q7⟩=>?_
   cases b with
   | false =>
    rw[if_neg Bool.false_ne_true] at q7 ⊢
    refine cps fun zP zh=>?_
    obtain ⟨m',hm,w7⟩:=q7
    obtain ⟨t1,t2,t3⟩:=back I7
    refine zh ?_
    exact ⟨m',hm,i+1,_,ys,H7,(by rw[List.length_map];exact hvl),t3,t1,t2,w7⟩
   | true =>
    rw[if_pos rfl] at q7 ⊢
    refine thn (hE _ s7 (σ++vs.map some) H7 _ I7 q7) fun yv s8 ⟨y,H8,I8,r8,hD8,hl8,m',hm,w8⟩=>?_
    refine thn (k8 (X:=Xc) _ s8 (σ++vs.map some) H8 (.ref D) [y] (.ref D) [yv] (fun _ H9=>H9=upd H8 D (.lst (ys++[y]))) I8 rfl (.cons r8 .nil) ⟨D,ys,y,rfl,rfl,hD8,hl8,rfl⟩) fun _ s9 ⟨_,H9,I9,_,e9⟩=>?_
    subst e9
    obtain ⟨t1,t2,t3⟩:=back I9
    exact ⟨m',hm,i+1,_,ys++[y],_,(by rw[List.length_map];exact hvl),t3,t1,t2,w8⟩
 refine codeAny_compStart_list loop ?_
 exact T.self X.A 0 _ _ _ (T.keep _ _ _ st fun b _ o e=>keep4 b o e) loop
section
variable {X:Cx}{elt iter tg:Expr}{xs:List Str}{y:Str}{g:TG}{un:V->Hp->List V->Prop}{py:Pos}{ifs:List Expr}{scope:Scope}{pos spos:Pos}{wi:TI}{tc:TT}{te:TE}
theorem Inv.aside {pins:List (Addr×Obj)}{σ:St}{H:Hp}{s:Shared}{C lo:Addr}{h':Heap}(I:Inv X pins σ H s)(hlo:lo<=C)(hL:X.env.locals < lo)(hcell:∀y c,X.env.cells.lookup y=some c->c < lo)(hpin:∀p∈X.pn++pins,p.1 < lo)
  (hn:H C=none) (hs:Heap.SameBut C s.heap h'):Inv X pins σ H { s with heap:=h' } :=
 I.turned (it:=C) (t':=s.toks) (fun b o hb e=>(hs.2 b hb).trans e) hn (Nat.ne_of_gt (Nat.lt_of_lt_of_le hL hlo)) (.inr (Nat.le_trans I.ok.above (Nat.le_trans (Nat.le_of_lt hL) hlo)))
  (fun y c e=>Nat.ne_of_lt (Nat.lt_of_lt_of_le (hcell y c e) hlo)) fun p hp=>Nat.ne_of_lt (Nat.lt_of_lt_of_le (hpin p hp) hlo)
theorem Inv.below {pins:List (Addr×Obj)}{σ:St}{H:Hp}{s:Shared}(I:Inv X pins σ H s):X.env.locals < s.heap.objs.size/\(∀y c,X.env.cells.lookup y=some c->c < s.heap.objs.size)/\∀p∈X.pn++pins,p.1 < s.heap.objs.size :=
 ⟨I.lt,fun y c e=>let ⟨_,z⟩:=I.cell y c e;z.lt,fun p hp=>Heap.lt_size (I.pin p hp).1⟩
theorem wJ (B:BlockOk X scope xs)(ok:X.Ok):closureFor scope X.env=pure (wM X.env scope.names []) :=
 v8 fun y hy hf=>(B.free y hy hf).elim (fun q=>ok.has y.1 (.inl q)) fun q=>ok.has y.1 (.inr q)
structure Tgt (X:Cx)(scope:Scope)(xs:List Str)(tg:Expr)(g:TG)(un:V->Hp->List V->Prop):Prop where
 pg:∀Xc,CompOf X scope xs Xc->(∀x∈xs,Loc Xc.env.scope x/\(Xc.fn x=true\/Xc.env.scope.names.lookup x=some .local))->PG Xc tg g
 un:∀v H vs os (σ:St),σ.length=X.N.length->os.length=xs.length->un v H vs->vs.length=xs.length/\g v (σ++os) H fun σ2 H2=>σ2=σ++vs.map some/\H2=H
noncomputable def un1 (v:V)(_:Hp)(vs:List V):Prop:=vs=[v]
theorem zbT {α:Type}{l:List α}(h:l.length=1):∃a,l=[a]:=by
 cases l with
 | nil=>cases h
 | cons a t =>
  cases t with
  | nil=>exact ⟨a,rfl⟩
  | cons b t=>cases h
theorem zbU {α:Type}{l:List α}(h:l.length=2):∃a b,l=[a,b]:=by
 cases l with
 | nil=>cases h
 | cons a t =>
  obtain ⟨b,rfl⟩:=zbT (Nat.succ.inj h)
  exact ⟨a,b,rfl⟩
theorem zdE {x:Str}{px:Pos}(B:BlockOk X scope [x]):Tgt X scope [x] (.Name x px) (wI X.N.length) un1:=by
 refine ⟨fun Xc c h=>?_,fun v H vs os σ hσ ho hv=>?_⟩
 .exact wr (by rw[c.N];exact B.nd) (by rw[c.N];exact wN X.N [x] 0) (h x (by simp)).1 (h x (by simp)).2
 .cases hv
  refine ⟨rfl,?_,rfl⟩
  obtain ⟨o,rfl⟩:=zbT ho
  rw[<- hσ,List.set_append_right _ _ (Nat.le_refl _)]
  simp
noncomputable def un2 (K:PySem.W.Frag)(v:V)(H:Hp)(vs:List V):Prop:=∃a,v=.ref a/\SqT K H a vs/\vs.length=2
theorem ju {x y:Str}{px py:Pos}{k:Nat}{pt:Pos}(hc:X.calm=true)(B:BlockOk X scope [x,y]):Tgt X scope [x,y] (.Tuple [.Name x px,.Name y py] k pt) (zfl X.K 2 (jW (wI X.N.length) (jW (wI (X.N.length+1)) zfk))) (un2 X.K):=by
 refine ⟨fun Xc c h=>?_,fun v H vs os σ hσ ho hv=>?_⟩
 .have nd:Xc.N.Nodup:=by rw[c.N];exact B.nd
  rw[<- c.K]
  exact zbx c.calm (wY (wr nd (by rw[c.N];exact wN X.N [x,y] 0) (h x (by simp)).1 (h x (by simp)).2) (wY (wr nd (by rw[c.N];exact wN X.N [x,y] 1) (h y (by simp)).1 (h y (by simp)).2) qV))
 .obtain ⟨a,e1,e2,e3⟩:=hv
  obtain ⟨u,w,rfl⟩:=zbU e3
  obtain ⟨o,p,rfl⟩:=zbU ho
  refine ⟨rfl,a,[u,w],e1,e2,rfl,u,[w],rfl,w,[],rfl,rfl,?_,rfl⟩
  rw[<- hσ,List.set_append_right _ _ (Nat.le_refl _),List.set_append_right _ _ (by lia)]
  simp
theorem jv (B:BlockOk X scope xs)(hc:X.calm=true)(hT:Tgt X scope xs tg g un)(hi:PI X tg iter wi)(hbody:∀Xc,CompOf X scope xs Xc->PTs Xc ifs tc/\PE Xc elt te)
  (hs:∀v,foldedSetIterable iter X.env v=pure v:=by intro _;rfl):PE X (.ListComp elt [⟨tg,iter,ifs,0⟩] scope pos) (ja un wi tc te):=by
 intro pins s σ H Q I h
 rw[eval_ListComp]
 refine wpAny_comprehension_free (use:=none) (cl:=wM X.env scope.names []) rfl hs (wJ B I.ok) B.kind B.locs ?_
 refine thn (hi pins s σ H _ I h) fun xv s1 h1=>thn h1 fun itv s2 h2=>?_
 refine cps fun zP zk=>?_
 obtain ⟨it,fp,tn,J,H2,e,I2,T,st2,f2,q2⟩:=h2
 refine zk ?_
 subst e
 refine wpAny_newObj_type ?_
 have I3:=I2.lnew (its:=[]) (ys:=[]) (t':=s2.toks) .nil (Nat.zero_le _)
 refine cps fun zP zj=>?_
 obtain ⟨W,⟨m0,w0⟩,turn⟩:=q2 s2.heap.objs.size (I2.hok.fresh (Nat.le_refl _))
 have fp3:∀b∈fp,vO X pins (upd H2 s2.heap.objs.size (.lst [])) b:=fun b hb=>by
  obtain ⟨o,e,_⟩:=T.obj _ _ st2 b hb
  exact ⟨by rw[zo (Nat.ne_of_lt (Heap.lt_size e))];exact (f2 b hb).1,(f2 b hb).2⟩
 obtain ⟨b1,b2,b3⟩:=I3.below
 refine zj ?_
 refine v9 B hc hT.pg (fun v H vs os h1 h2=>hT.un v H vs os σ I.len h1 h2) hbody I3 T (T.keep _ _ _ st2 fun b _ o e=>Heap.get?_push_of_some _ e) fp3 W m0 w0 fun i m ys H4 w=>?_
 rcases turn i m ys H4 w with ⟨stop,q⟩ | r
 .exact .inl ⟨stop,fun s' m' C I' hn hC hCn=>⟨m',hn,fun h' hsb=>⟨.ref s2.heap.objs.size,H4,I'.aside hC b1 b2 b3 hCn hsb,rfl,q⟩⟩⟩
 .exact .inr r
theorem g7 {i:Nat}(B:BlockOk X scope xs)(hc:X.calm=true)(hT:Tgt X scope xs tg g un)(hi:PI X tg iter wi)(hbody:∀Xc,CompOf X scope xs Xc->PTs Xc ifs tc/\PE Xc elt te)
  (hN:X.N.Nodup) (hy:X.N[i]?=some y) (hx:Loc X.env.scope y) (hf:X.fn y=true\/X.env.scope.names.lookup y=some .local)
  (hsw:swapsWith (.ListComp elt [⟨tg,iter,ifs,0⟩] scope pos) (some (.Name y py)) spos.line X.env=pure true)
  (hs:∀v,foldedSetIterable iter X.env v=pure v:=by intro _;rfl):PS X (.Assign [.Name y py] (.ListComp elt [⟨tg,iter,ifs,0⟩] scope pos) spos) (zds (ja un wi tc te) (wI i)):=by
 intro pins s σ H D I h
 rw[exec_Assign_Name_used _ _ _ _ hsw]
 refine wpAny_bind (wpAny_standAt (wpAny_bind ?_))
 show wpAny _ X.A (do let _ <- comprehension (.ListComp elt [⟨tg,iter,ifs,0⟩] scope pos) scope X.env _ (newList []) false (eval iter X.env) (some (assign (.Name y py) X.env))) _ _ s
 refine wpAny_bind (wpAny_mono (wpAny_comprehension_free (use:=some (assign (.Name y py) X.env)) (cl:=wM X.env scope.names []) (Q:=fun _ s'=>SP X pins D .next s') rfl hs (wJ B I.ok) B.kind B.locs ?_)
  (fun _ s' hq=>wpAny_pure (wpAny_pure hq)) fun _ _ e=>e)
 refine thn (hi pins s σ H _ I h) fun xv s1 h1=>thn h1 fun itv s2 h2=>?_
 refine cps fun zP zk=>?_
 obtain ⟨it,fp,tn,J,H2,e,I2,T,st2,f2,q2⟩:=h2
 refine zk ?_
 subst e
 refine wpAny_newObj_type ?_
 have I3:=I2.lnew (its:=[]) (ys:=[]) (t':=s2.toks) .nil (Nat.zero_le _)
 refine cps fun zP zj=>?_
 obtain ⟨W,⟨m0,w0⟩,turn⟩:=q2 s2.heap.objs.size (I2.hok.fresh (Nat.le_refl _))
 have fp3:∀b∈fp,vO X pins (upd H2 s2.heap.objs.size (.lst [])) b:=fun b hb=>by
  obtain ⟨o,e,_⟩:=T.obj _ _ st2 b hb
  exact ⟨by rw[zo (Nat.ne_of_lt (Heap.lt_size e))];exact (f2 b hb).1,(f2 b hb).2⟩
 obtain ⟨b1,b2,b3⟩:=I3.below
 refine zj ?_
 refine v9 B hc hT.pg (fun v H vs os h1 h2=>hT.un v H vs os σ I.len h1 h2) hbody I3 T (T.keep _ _ _ st2 fun b _ o e=>Heap.get?_push_of_some _ e) fp3 W m0 w0 fun i' m ys H4 w=>?_
 rcases turn i' m ys H4 w with ⟨stop,q⟩ | r
 .refine .inl ⟨stop,fun s' m' C I' hn hC hCn=>?_⟩
  refine wpAny_assign_Name (kU I' hN hy hx (v:=.ref s2.heap.objs.size) rfl (fun s'' I'' ⟨a,sb,ha⟩=>?_) hf)
  have hCa:C≠a:=by
   rcases ha with rfl | ha
   .exact Nat.ne_of_gt (Nat.lt_of_lt_of_le b1 hC)
   .exact Nat.ne_of_gt (Nat.lt_of_lt_of_le (b2 _ _ ha) hC)
  exact ⟨m',hn.sameBut sb hCa,fun h' hsb=>⟨_,H4,I''.aside hC b1 b2 b3 hCn hsb,q⟩⟩
 .exact .inr r
end
section
variable {X:Cx}
theorem Vals.at {xs:List V}{us:List Value}(h:Vals xs us){i:Nat}{u:Value}(e:us[i]?=some u):∃x,xs[i]?=some x/\RelV x u:=by
 have hl:=h.length
 have hi:=(List.getElem?_eq_some_iff.mp e).1
 have hx:xs[i]?=some xs[i]:=List.getElem?_eq_getElem (by lia)
 obtain ⟨u',h1,h2⟩:=h.get hx
 rw[e] at h1;cases h1
 exact ⟨_,hx,h2⟩
theorem vJ (ns:List Int):∀n,n<=ns.length->preSum (fun i=>ns.getD i 0) n=(ns.take n).sum
 | 0,_=>by simp[preSum]
 | n+1,h=>by
  have e:ns[n]?=some (ns.getD n 0):=by rw[List.getD_eq_getElem?_getD,List.getElem?_eq_getElem (by lia)];rfl
  rw[preSum,vJ ns n (by lia),List.take_add_one,e,List.sum_append]
  simp
theorem j7 (hc:X.calm=true):CallR X (.builtin "sum") (fun xs H Q=>∃ (p:Addr) (ns:List Int),xs=[.ref p]/\SqL X.K H p (ns.map V.int)/\Q (.int ns.sum) H):=by
 intro pins s σ H xs us Q I r h
 refine cps fun zP zk=>?_
 obtain ⟨p,ns,rfl,hq,q⟩:=h
 obtain ⟨u,rfl,rx⟩:=v6 r
 cases rx
 obtain ⟨its,r',pl,hz⟩:=I.list hq
 have hlen:=r'.length
 have hp:∃o,s.heap.get? p=some o:=by obtain ⟨o,ho,_⟩:=pl.isList;exact ⟨o,ho⟩
 obtain ⟨o,ho⟩:=hp
 refine zk ?_
 have hlt:=Heap.lt_size ho
 refine call_sum_walkG (wpAny_pyIter_list pl.isList ?_)
 refine ⟨s.heap.objs.size,_,_,_,_,_,fun i=>ns.getD i 0,rfl,Walks.list (A:=X.A.in1) (I.ok.hd hc) s.heap.objs.size p (Nat.ne_of_lt hlt) its.toArray,⟨⟨_,Heap.get?_push_size _ rfl,rfl,rfl⟩,pl.isList.at fun o e=>Heap.get?_push_of_some _ e⟩,?_,?_,fun h' tk t' hk=>?_⟩
 .intro b hb
  have h1:s.heap.objs.size < (s.heap.push { cls:=.type "list_iterator",data:=.fields #[.ref p,.int 0 0] }).objs.size:=Heap.lt_size (Heap.get?_push_size _ rfl)
  have:b=s.heap.objs.size\/b=p:=by simpa using hb
  rcases this with rfl | rfl
  .exact h1
  .exact Nat.lt_trans hlt h1
 .intro i v hv
  have hv':its[i]?=some v:=by simpa using hv
  obtain ⟨y,hy,ry⟩:=r'.at hv'
  rw[List.getElem?_map] at hy
  cases hb:ns[i]? with
  | none=>rw[hb] at hy;cases hy
  | some b =>
   rw[hb] at hy;cases hy
   obtain ⟨t,rfl⟩:=(ry:∃t,v=.int b t)
   have e:ns.getD i 0=b:=by rw[List.getD_eq_getElem?_getD,hb];rfl
   exact ⟨t,by show Value.int b t=Value.int (ns.getD i 0) t;rw[e]⟩
 .have e:its.toArray.size=ns.length:=by simp at hlen ⊢;lia
  rw[e,vJ ns ns.length (Nat.le_refl _),List.take_length]
  exact ⟨.int ns.sum,H,I.kept (t':=tk) fun b o e=>hk b o (fun hb=>by
   have:b=s.heap.objs.size:=by simpa using hb
   exact absurd (Heap.lt_size e) (by rw[this];exact Nat.lt_irrefl _)) (Heap.get?_push_of_some _ e),⟨t',rfl⟩,q⟩
noncomputable def zgQ (ta:TA):TE:=fun σ H Q=>ta σ H fun vs H1=>∃j:Int,vs=[.int j]/\-(2 ^ 30)<=j/\j < 2 ^ 24/\j.toNat<=sizeLine/\∀l,H1 l=none->Q (.ref l) (upd H1 l (.lst ((List.range j.toNat).map fun (i:Nat)=>V.int ((0:Int)+1 * (i:Int)))))
theorem zdF {a:Expr}{ta:TA}{p p' pos pos':Pos}(hc:X.calm=true)(hgl:Gl X "list")(hml:X.mg "list" = none)(hg:Gl X "range")(hm:X.mg "range" = none)(ha:PA X [a] ta)(hs:starEach [a] X.env=[(false,eval a X.env)]:=by rfl):
  PE X (.Call (.Name "list" p) [.Call (.Name "range" p') [a] [] pos'] [] pos) (zgQ ta):=by
 intro pins s σ H Q I h
 refine wpAny_Call_Name_kw (we I hgl hml PyProof.Rows.boot_list ?_ (by decide) (by decide))
 refine PyProof.Rows.callWith_type1 ?_ rfl rfl
 refine Calls.spliced_cons ?_
 refine Call_ (we I hg hm boot_range (PyProof.Rows.callWith_type1 (thn (ha pos' pins s σ H _ I h) fun us s1 ⟨vs,H1,I1,r1,q1⟩=>?_) hs rfl))
 obtain ⟨j,e,q1,q2,q3,q⟩:=q1
 subst e
 cases r1 with
 | cons r rr =>
  cases rr
  obtain ⟨t,rfl⟩:=r
  refine call_range_1 (Calls.spliced_nil ?_)
  have hn:Builtin.Range.rangeSize 0 j 1=(j.toNat:Int):=by rw[rangeSize_one];split <;> lia
  refine call_list_range (n:=j.toNat) (I1.ok.hd hc) (IsRange.new ..) (small_one (by lia) (by lia) (by lia) (by lia)) hn (by lia) fun h' tk acc' c' kp e hacc=>?_
  have I2:Inv X pins σ H1 { s1 with heap:=s1.heap.push { cls:=.type "range",data:=.fields #[.int 0 s1.toks,.int j t,.int 1 (s1.toks+1)] },toks:=s1.toks+1+1 }:=I1.kept fun b o e=>Heap.get?_push_of_some _ e
  have hv:Vals ((List.range j.toNat).map fun (i:Nat)=>V.int ((0:Int)+1 * (i:Int))) acc'.toList:=by
   have gen:∀ (us:List Value) (n:Nat),us.length=n->∀m:Nat,(∀i v,us[i]?=some v->∃t,v=Value.int ((0:Int)+((m+i:Nat):Int) * 1) t)->Vals ((List.range' m n).map fun (i:Nat)=>V.int ((0:Int)+1 * (i:Int))) us:=by
    intro us
    induction us with
    | nil=>intro n hn m _;simp at hn;subst hn;exact .nil
    | cons u us ih =>
     intro n hn m hu
     cases n with
     | zero=>simp at hn
     | succ n =>
      rw[List.range'_succ,List.map_cons]
      obtain ⟨t,rfl⟩:=hu 0 u rfl
      refine .cons ⟨t,?_⟩ (ih n (by simpa using hn) (m+1) fun i v hv=>?_)
      .congr 1;simp
      .obtain ⟨t,e⟩:=hu (i+1) v (by simpa using hv)
       exact ⟨t,by rw[e];congr 2;congr 1;lia⟩
   have:=gen acc'.toList j.toNat (by rw[Array.length_toList];exact hacc.1) 0 (fun i v hv=>by
    obtain ⟨t,e⟩:=hacc.2 i v (by simpa using hv)
    exact ⟨t,by rw[e];simp⟩)
   rw[<- List.range_eq_range'] at this
   exact this
  refine ⟨.ref _,_,I2.laid (t':=tk) kp (Nat.le_refl _) (show ObjOk X.prog X.w _ h' _ (.lst ((List.range j.toNat).map fun (i:Nat)=>V.int ((0:Int)+1 * (i:Int)))) from ⟨by simpa using q3,acc'.toList,c',hv,by simpa using e⟩),rfl,q _ (I2.hok.fresh (Nat.le_refl _))⟩
end
section
variable {X:Cx}{pins:List (Addr×Obj)}{σ:St}{H:Hp}{s:Shared}{h':Heap}
theorem zij {t':Nat}{ch:List Addr}{T:Addr}{xs:List V}{its:List Value}(I:Inv X pins σ H s)(hf:∀b∈ch,vO X pins H b)(k:∀b o,b∉ch->s.heap.get? b=some o->h'.get? b=some o)
  (hT:s.heap.objs.size<=T) (hz:xs.length<=sizeLine) (hv:Vals xs its) (ht:IsTup h' T its.toArray):Inv X pins σ (upd H T (.tup xs)) { s with heap:=h',toks:=t' }:=by
 have hn:H T=none:=I.hok.fresh hT
 have nit:∀b u,H b=some u->b∉ch:=fun b u e z=>by rw[(hf b z).1] at e;cases e
 have up:∀b u,H b=some u->upd H T (.tup xs) b=some u:=fun b u e=>by rw[zo (zC e hn)];exact e
 refine I.step (g':=s.gens) (d':=s.drawn) (ch:=ch) (fun b hb=>?_) (fun b o _ _ hc e _=>k b o hc e) (fun b o _ _ hc e _=>⟨o.slots,k b o hc e⟩) (fun b o hc e n=>?_)
  (fun b o hc e=>⟨o,k b o hc e⟩) (fun b _ e=>up b _ e) (fun b _ _ e=>up b _ e) (fun b ps e=>⟨#[],by rw[up b _ e];simp⟩) (fun m hm=>?_) (fun b u e=>?_) I.bare
 .obtain ⟨f0,f1,f2,f3,f4,f5⟩:=hf b hb
  exact ⟨f3,f1,f4,f5⟩
 .rw[zo (Nat.ne_of_lt (Nat.lt_of_lt_of_le (Heap.lt_size e) hT))];exact n
 .obtain ⟨o,es,ep,ho,r⟩:=hm
  exact ⟨o,es,ep,k _ o (fun z=>(hf _ z).2.1 rfl) ho,r⟩
 .by_cases hb:b=T
  .subst hb
   rw[zp] at e;cases e
   exact ⟨hz,its,hv,ht⟩
  .rw[zo hb] at e
   refine (I.hok b u e).stay (fun c v hc q=>k c v ?_ q) (fun c q=>up c _ q) fun c _ q=>up c _ q
   rcases hc with z | z
   .rw[z];exact nit b u e
   .exact nit c _ z
theorem Inv.turnedL {t':Nat}{ch:List Addr}(I:Inv X pins σ H s)(hf:∀b∈ch,vO X pins H b)(k:∀b o,b∉ch->s.heap.get? b=some o->h'.get? b=some o):Inv X pins σ H { s with heap:=h',toks:=t' }:=by
 have nit:∀b u,H b=some u->b∉ch:=fun b u e z=>by rw[(hf b z).1] at e;cases e
 refine I.step (g':=s.gens) (d':=s.drawn) (ch:=ch) (fun b hb=>?_) (fun b o _ _ hc e _=>k b o hc e) (fun b o _ _ hc e _=>⟨o.slots,k b o hc e⟩) (fun b o hc e n=>n)
  (fun b o hc e=>⟨o,k b o hc e⟩) (fun b _ e=>e) (fun b _ _ e=>e) (fun b ps e=>⟨#[],by rw[e];simp⟩) (fun m hm=>?_) (fun b u e=>?_) I.bare
 .obtain ⟨f0,f1,f2,f3,f4,f5⟩:=hf b hb
  exact ⟨f3,f1,f4,f5⟩
 .obtain ⟨o,es,ep,ho,r⟩:=hm
  exact ⟨o,es,ep,k _ o (fun z=>(hf _ z).2.1 rfl) ho,r⟩
 .refine (I.hok b u e).stay (fun c v hc q=>k c v ?_ q) (fun c q=>q) fun c _ q=>q
  rcases hc with z | z
  .rw[z];exact nit b u e
  .exact nit c _ z
end
noncomputable def Yp (H:Hp)(v:V)(H':Hp)(x y:V):Prop:=∃T,H T=none/\v=.ref T/\H'=upd H T (.tup [x,y])
noncomputable def Itz (K:PySem.W.Frag)(l1 l2:Addr):It :=
 ⟨fun i H=>∃xs ys x y,SqL K H l1 xs/\SqL K H l2 ys/\xs[i]?=some x/\ys[i]?=some y,
  fun i H v H'=>∃x y,Yp H v H' x y/\(∀xs,SqL K H l1 xs->xs[i]?=some x)/\∀ys,SqL K H l2 ys->ys[i]?=some y,
  fun i H=>∃xs ys,SqL K H l1 xs/\SqL K H l2 ys/\(xs.length<=i\/ys.length<=i)⟩
noncomputable def Ite (K:PySem.W.Frag)(c:Nat)(l:Addr):It :=
 ⟨fun i H=>∃xs x,SqL K H l xs/\xs[i]?=some x,
  fun i H v H'=>∃x,Yp H v H' (.int ((i+c:Nat):Int)) x/\∀xs,SqL K H l xs->xs[i]?=some x,
  fun i H=>∃xs,SqL K H l xs/\xs.length<=i⟩
theorem zaO {prog:Program}{w:World}{A:Around}(hh:A.handled=none)(it l:Addr)(hne:l≠it)(items:Array Value)(c:Nat):
  Draws prog w A it [it,l] (items.size+c) (fun i x=>∃j,i=j+c/\items[j]?=some x) (fun i h=>∃j,i=j+c/\h.IsListIter it l j/\h.IsList l items):=by
 have D:=Draws.list (prog:=prog) (w:=w) hh it l hne items
 refine ⟨fun i h st=>?_,fun i h h' st k=>?_,fun i s Q E hi st hQ=>?_,fun s Q E st hE=>?_⟩
 .obtain ⟨j,_,h1,h2⟩:=st
  exact D.live j h ⟨h1,h2⟩
 .obtain ⟨j,e,h1,h2⟩:=st
  obtain ⟨q1,q2⟩:=D.frame j h h' ⟨h1,h2⟩ k
  exact ⟨j,e,q1,q2⟩
 .obtain ⟨j,rfl,h1,h2⟩:=st
  refine D.item j s Q E (by lia) ⟨h1,h2⟩ fun x h' tk p q sb=>hQ x h' tk ⟨j,rfl,p⟩ ⟨j+1,by lia,q.1,q.2⟩ sb
 .obtain ⟨j,e,h1,h2⟩:=st
  have e':j=items.size:=by lia
  subst e'
  exact D.done s Q E ⟨h1,h2⟩ hE
theorem zbV {prog:Program}{w:World}{A:Around}(hh:A.handled=none)(it l:Addr)(items:Array Value){i:Nat}(hi:items[i]?=none):
  Draws prog w A it [it,l] 0 (fun _ _=>True) (fun k h=>k=0/\h.IsListIter it l i/\h.IsList l items):=by
 refine ⟨fun k h st=>?_,fun k h h' st q=>?_,fun k s Q E hk st hQ=>absurd hk (Nat.not_lt_zero _),fun s Q E st hE=>?_⟩
 .obtain ⟨o,ho,_⟩:=st.2.1
  exact ⟨o,ho⟩
 .exact ⟨st.1,st.2.1.at fun o e=>q it (by simp) o e,st.2.2.at fun o e=>q l (by simp) o e⟩
 .exact wpAny_nextOf_list_end hh st.2.1 st.2.2 hi hE
theorem zbW {P:Program}{w:World}{K:PySem.W.Frag}{elts:List Expr}{k:Nat}{pt:Pos}(z TI TO i1 i2 l1 l2:Addr)(D:ZipApart z TI TO i1 i2 l1 l2):
  Turn P w K (.Tuple elts k pt) (Itz K l1 l2) [z,TI,TO,i1,i2] z (fun i h=>IsZip h z TI TO .none/\IsPair h TI (.ref i1) (.ref i2)/\(∃a b,IsPair h TO a b)/\h.IsListIter i1 l1 i/\h.IsListIter i2 l2 i) where
 mem:=by simp
 obj:=fun i h st b hb=>by
  refine cps fun zP zk=>?_
  obtain ⟨hz,hTI,⟨a,c,hTO⟩,⟨o1,e1,c1,d1⟩,o2,e2,c2,d2⟩:=st
  refine zk ?_
  simp only[List.mem_cons,List.not_mem_nil,or_false] at hb
  rcases hb with rfl | rfl | rfl | rfl | rfl
  .exact ⟨_,hz,fun v z=>by cases z⟩
  .exact ⟨_,hTI,fun v z=>by cases z⟩
  .exact ⟨_,hTO,fun v z=>by cases z⟩
  .exact ⟨_,e1,fun v z=>by rw[d1] at z;cases z⟩
  .exact ⟨_,e2,fun v z=>by rw[d2] at z;cases z⟩
 keep:=fun i h h' st k=>by
  refine cps fun zP zj=>?_
  obtain ⟨hz,hTI,⟨a,c,hTO⟩,h1,h2⟩:=st
  refine zj ?_
  exact ⟨k z (by simp) _ hz,k TI (by simp) _ hTI,⟨a,c,k TO (by simp) _ hTO⟩,h1.at fun o e=>k i1 (by simp) o e,h2.at fun o e=>k i2 (by simp) o e⟩
 item:=by
  intro X hP hw hK hc i pins s σ H E I hf st hg
  subst hP hw hK
  refine cps fun zP zi=>?_
  obtain ⟨xs,ys,x,y,hq1,hq2,hx,hy⟩:=hg
  obtain ⟨its1,rv1,p1,_⟩:=I.list hq1
  obtain ⟨its2,rv2,p2,_⟩:=I.list hq2
  obtain ⟨u,hu,ru⟩:=rv1.get hx
  obtain ⟨v,hv,rv⟩:=rv2.get hy
  obtain ⟨hz,hTI,⟨a,b,hTO⟩,h1,h2⟩:=st
  refine zi ?_
  refine wpAny_pyNext_zip_item D hz hTI hTO h1 h2 p1.isList p2.isList (x:=u) (y:=v) (by simpa using hu) (by simpa using hv) fun h' a1 a2 a3 a4 a5 a6 hk=>?_
  refine ⟨_,rfl,wpAny_letOwnedTupleGo_zip (s:={ s with heap:=h' }) a1 fun h'' hz' hs'=>?_⟩
  have sT:z < s.heap.objs.size:=Heap.lt_size hz
  have kk:∀b o,b∉[z,TI,TO,i1,i2]->s.heap.get? b=some o->h''.get? b=some o:=fun b o hb e =>
   (hs'.2 b fun q=>hb (by simp[q])).trans (hk b o (fun q=>hb (by simp[q])) (fun q=>hb (by simp[q])) (fun q=>hb (by simp[q])) (fun q=>hb (by simp[q])) e)
  refine ⟨.ref s.heap.objs.size,upd H s.heap.objs.size (.tup [x,y]),?_,rfl,⟨x,y,⟨_,I.hok.fresh (Nat.le_refl _),rfl,rfl⟩,fun zs hz=>by rw[I.list_inj hz hq1];exact hx,fun zs hz=>by rw[I.list_inj hz hq2];exact hy⟩,?_,?_⟩
  .have I1:Inv X pins σ (upd H s.heap.objs.size (.tup [x,y])) { s with heap:=h'',toks:=s.toks }:=zij (s:=s) (its:=[u,v]) I hf kk (Nat.le_refl _) (show (2:Nat)<=sizeLine by decide) (.cons ru (.cons rv .nil)) ⟨_,(hs'.2 _ (Nat.ne_of_gt sT)).trans a5,rfl,_,rfl⟩
   exact I1
  .refine ⟨hz',?_,⟨u,v,?_⟩,?_,?_⟩
   .exact (hs'.2 TI D.TIz).trans (hk TI _ D.TIz D.TITO D.TIi1 D.TIi2 hTI)
   .exact (hs'.2 TO D.TOz).trans a2
   .exact a3.at fun o e=>(hs'.2 i1 D.i1z).trans e
   .exact a4.at fun o e=>(hs'.2 i2 D.i2z).trans e
  .intro b hb
   have hlt:b < s.heap.objs.size:=by
    simp only[List.mem_cons,List.not_mem_nil,or_false] at hb
    refine cps fun zP zh=>?_
    obtain ⟨_,e1,_⟩:=h1
    obtain ⟨_,e2,_⟩:=h2
    refine zh ?_
    rcases hb with rfl | rfl | rfl | rfl | rfl
    .exact sT
    .exact Heap.lt_size hTI
    .exact Heap.lt_size hTO
    .exact Heap.lt_size e1
    .exact Heap.lt_size e2
   rw[zo (Nat.ne_of_lt hlt)]
   exact (hf b hb).1
 done:=by
  intro X hP hw hK hc i pins s σ H E I hf st hg
  subst hP hw hK
  refine cps fun zP zg=>?_
  obtain ⟨xs,ys,hq1,hq2,hx⟩:=hg
  obtain ⟨its1,rv1,p1,_⟩:=I.list hq1
  obtain ⟨its2,rv2,p2,_⟩:=I.list hq2
  obtain ⟨hz,hTI,⟨a,b,hTO⟩,h1,h2⟩:=st
  refine zg ?_
  have l1:=rv1.length
  have l2:=rv2.length
  refine wpAny_pyNext_zip_end (I.ok.hd hc) D hz hTI hTO h1 h2 p1.isList p2.isList ?_ fun h' hk=>⟨rfl,?_⟩
  .rcases hx with hx | hx
   .exact .inl (by simp;lia)
   .exact .inr (by simp;lia)
  .exact I.turnedL (t':=s.toks) hf fun b o hb e=>hk b o (fun q=>hb (by simp[q])) (fun q=>hb (by simp[q])) (fun q=>hb (by simp[q])) (fun q=>hb (by simp[q])) e
 self:=fun _ _ _ _ _ st h=>wpAny_pyIter_zip st.1 h
theorem zaP {P:Program}{w:World}{K:PySem.W.Frag}{elts:List Expr}{k:Nat}{pt:Pos}(c:Nat)(e it l:Addr)(hei:e≠it)(hle:l≠e)(hli:l≠it):
  Turn P w K (.Tuple elts k pt) (Ite K c l) [e,it] e (fun i h=>(∃old,IsEnum h e it ((i+c:Nat):Int) old)/\h.IsListIter it l i) where
 mem:=by simp
 obj:=fun i h st b hb=>by
  refine cps fun zP zk=>?_
  obtain ⟨⟨old,he⟩,o1,e1,c1,d1⟩:=st
  refine zk ?_
  simp only[List.mem_cons,List.not_mem_nil,or_false] at hb
  rcases hb with rfl | rfl
  .exact ⟨_,he,fun v z=>by cases z⟩
  .exact ⟨_,e1,fun v z=>by rw[d1] at z;cases z⟩
 keep:=fun i h h' st k=>by
  obtain ⟨⟨old,he⟩,h1⟩:=st
  exact ⟨⟨old,k e (by simp) _ he⟩,h1.at fun o q=>k it (by simp) o q⟩
 item:=by
  intro X hP hw hK hc i pins s σ H E I hf st hg
  subst hP hw hK
  refine cps fun zP zj=>?_
  obtain ⟨xs,x,hq1,hx⟩:=hg
  obtain ⟨its1,rv1,p1,_⟩:=I.list hq1
  obtain ⟨u,hu,ru⟩:=rv1.get hx
  obtain ⟨⟨old,he⟩,h1⟩:=st
  refine zj ?_
  have hil:i < its1.length:=(List.getElem?_eq_some_iff.mp hu).1
  have D:=zaO (prog:=X.prog) (w:=X.w) (A:=X.A.in1) (I.ok.hd hc) it l hli its1.toArray c
  refine wpAny_pyNext_enum_itemD D he ⟨i,rfl,h1,p1.isList⟩ (by simp;lia) hei (by simp[hei,Ne.symm hle]) fun x' h' tk px a1 st' a3 a4 hk=>?_
  refine cps fun zP zi=>?_
  obtain ⟨j,ej,hj⟩:=px
  have ej':i=j:=by lia
  subst ej'
  have hxu:x'=u:=by
   have:its1[i]?=some x':=by simpa using hj
   rw[hu] at this;cases this;rfl
  subst hxu
  obtain ⟨j',ej',a2,_⟩:=st'
  refine zi ?_
  have e2:j'=i+1:=by lia
  subst e2
  refine ⟨_,rfl,wpAny_letOwnedTupleGo_enum (s:={ s with heap:=h',toks:=tk+1 }) a1 fun h'' he' hs'=>?_⟩
  have sT:e < s.heap.objs.size:=Heap.lt_size he
  have kk:∀b o,b∉[e,it]->s.heap.get? b=some o->h''.get? b=some o:=fun b o hb q =>
   (hs'.2 b fun z=>hb (by simp[z])).trans (hk b o (fun z=>hb (by simp[z])) (fun z=>hb (by simp[z])) q)
  refine ⟨.ref s.heap.objs.size,upd H s.heap.objs.size (.tup [.int ((i+c:Nat):Int),x]),?_,rfl,⟨x,⟨_,I.hok.fresh (Nat.le_refl _),rfl,rfl⟩,fun zs hz=>by rw[I.list_inj hz hq1];exact hx⟩,?_,?_⟩
  .have I1:Inv X pins σ (upd H s.heap.objs.size (.tup [.int ((i+c:Nat):Int),x])) { s with heap:=h'',toks:=tk+1 }:=zij (s:=s) (its:=[.int ((i+c:Nat):Int) tk,x']) I hf kk (Nat.le_refl _) (show (2:Nat)<=sizeLine by decide) (.cons ⟨_,rfl⟩ (.cons ru .nil)) ⟨_,(hs'.2 _ (Nat.ne_of_gt sT)).trans a3,rfl,_,rfl⟩
   exact I1
  .refine ⟨⟨x',?_⟩,a2.at fun o q=>(hs'.2 it hei.symm).trans q⟩
   have:((i+1+c:Nat):Int)=((i+c:Nat):Int)+1:=by lia
   rw[this]
   exact he'
  .intro b hb
   have hlt:b < s.heap.objs.size:=by
    simp only[List.mem_cons,List.not_mem_nil,or_false] at hb
    obtain ⟨_,e1,_⟩:=h1
    rcases hb with rfl | rfl
    .exact sT
    .exact Heap.lt_size e1
   rw[zo (Nat.ne_of_lt hlt)]
   exact (hf b hb).1
 done:=by
  intro X hP hw hK hc i pins s σ H E I hf st hg
  subst hP hw hK
  refine cps fun zP zh=>?_
  obtain ⟨xs,hq1,hx⟩:=hg
  obtain ⟨its1,rv1,p1,_⟩:=I.list hq1
  obtain ⟨⟨old,he⟩,h1⟩:=st
  refine zh ?_
  have l1:=rv1.length
  have D:=zbV (prog:=X.prog) (w:=X.w) (A:=X.A.in1) (I.ok.hd hc) it l its1.toArray (i:=i) (by simp;lia)
  refine wpAny_pyNext_enum_endD D he ⟨rfl,h1,p1.isList⟩ fun h' hk=>⟨rfl,?_⟩
  exact I.turnedL (t':=s.toks) hf fun b o hb q=>hk b o (fun z=>hb (by simp[z])) q
 self:=fun _ _ _ _ _ st h=>by
  obtain ⟨⟨old,he⟩,_⟩:=st
  exact wpAny_pyIter_enum he h
section
variable {X:Cx}{elts:List Expr}{k:Nat}{pt:Pos}
noncomputable def zgR (K:PySem.W.Frag)(ta:TA):TI:=fun σ H R=>ta σ H fun vs H1=>∃l1 l2 xs ys,vs=[.ref l1,.ref l2]/\SqL K H1 l1 xs/\SqL K H1 l2 ys/\R (Itz K l1 l2) H1
noncomputable def zeT (K:PySem.W.Frag)(c:Nat)(ta:TA):TI:=fun σ H R=>ta σ H fun vs H1=>∃l xs,vs=[.ref l]/\SqL K H1 l xs/\R (Ite K c l) H1
theorem zbX {a b:Expr}{ta:TA}{p pos:Pos}(hg:Gl X "zip")(hm:X.mg "zip" = none)(ha:PA X [a,b] ta)(hs:starEach [a,b] X.env=[(false,eval a X.env),(false,eval b X.env)]:=by rfl)(hs2:starEach [b] X.env=[(false,eval b X.env)]:=by rfl):
  PI X (.Tuple elts k pt) (.Call (.Name "zip" p) [a,b] [] pos) (zgR X.K ta):=by
 intro pins s σ H R I h
 refine Call_ (we I hg hm PyProof.Rows.boot_zip (PyProof.Rows.callWith_type1 (thn (ha pos pins s σ H _ I h) fun us s1 ⟨vs,H1,I1,r1,q1⟩=>?_) (by rw[hs,hs2]) (by rw[hs2];rfl)))
 obtain ⟨l1,l2,xs,ys,e,g1,g2,q⟩:=q1
 subst e
 cases r1 with
 | cons r rr =>
  cases rr with
  | cons r' rr =>
   cases rr
   cases r
   cases r'
   obtain ⟨its1,rv1,p1,_⟩:=I1.list g1
   obtain ⟨its2,rv2,p2,_⟩:=I1.list g2
   have t1:l1 < s1.heap.objs.size:=by obtain ⟨o,e,_⟩:=p1.isList;exact Heap.lt_size e
   have t2:l2 < s1.heap.objs.size:=by obtain ⟨o,e,_⟩:=p2.isList;exact Heap.lt_size e
   refine call_zip_2 p1.isList p2.isList fun h' hz hTI hTO hi1 hi2 hsz hk=>?_
   refine wpAny_pyIter_zip (s:={ s1 with heap:=h' }) hz ?_
   refine ⟨_,_,_,_,H1,rfl,I1.kept (t':=s1.toks) hk,zbW (s1.heap.objs.size+4) (s1.heap.objs.size+2) (s1.heap.objs.size+3) s1.heap.objs.size (s1.heap.objs.size+1) l1 l2 ?_,⟨hz,hTI,⟨_,_,hTO⟩,hi1,hi2⟩,fun b hb=>?_,q⟩
   .exact zipApart_new t1 t2
   .have hb':s1.heap.objs.size<=b:=by
     simp only[List.mem_cons,List.not_mem_nil,or_false] at hb
     rcases hb with rfl | rfl | rfl | rfl | rfl
     .exact Nat.le_add_right _ _
     .exact Nat.le_add_right _ _
     .exact Nat.le_add_right _ _
     .exact Nat.le_refl _
     .exact Nat.le_add_right _ _
    exact I1.fpOk hb' (I1.hok.fresh hb')
theorem zdG {a:Expr}{ta:TA}{p pos:Pos}(hg:Gl X "enumerate")(hm:X.mg "enumerate" = none)(ha:PA X [a] ta)(hs:starEach [a] X.env=[(false,eval a X.env)]:=by rfl):
  PI X (.Tuple elts k pt) (.Call (.Name "enumerate" p) [a] [] pos) (zeT X.K 0 ta):=by
 intro pins s σ H R I h
 refine Call_ (we I hg hm PyProof.Rows.boot_enumerate (PyProof.Rows.callWith_type1 (thn (ha pos pins s σ H _ I h) fun us s1 ⟨vs,H1,I1,r1,q1⟩=>?_) hs rfl))
 obtain ⟨l,xs,e,g1,q⟩:=q1
 subst e
 cases r1 with
 | cons r rr =>
  cases rr
  cases r
  obtain ⟨its1,rv1,p1,_⟩:=I1.list g1
  have t1:l < s1.heap.objs.size:=by obtain ⟨o,e,_⟩:=p1.isList;exact Heap.lt_size e
  refine call_enumerate_list p1.isList fun h' he hi hsz hk=>?_
  refine wpAny_pyIter_enum (s:={ s1 with heap:=h' }) he ?_
  refine ⟨_,_,_,_,H1,rfl,I1.kept (t':=s1.toks) hk,zaP 0 (s1.heap.objs.size+1) s1.heap.objs.size l (Nat.succ_ne_self _) (Nat.ne_of_lt (Nat.lt_succ_of_lt t1)) (Nat.ne_of_lt t1),⟨⟨_,he⟩,hi⟩,fun b hb=>?_,q⟩
  have hb':s1.heap.objs.size<=b:=by
   simp only[List.mem_cons,List.not_mem_nil,or_false] at hb
   rcases hb with rfl | rfl
   .exact Nat.le_add_right _ _
   .exact Nat.le_refl _
  exact I1.fpOk hb' (I1.hok.fresh hb')
end
end L2
namespace L2
open PySem PySem.Spec PyProof.Rows
open AutoSeq1 (wpAny_loadPart')
end L2
namespace L2
open PySem PySem.Spec PyProof.Rows
noncomputable def Held (fs:List Addr)(H':Hp)(h h' B:Heap):Prop:=∀b o,h'.get? b=some o->(H' b≠none\/∃o₀,h.get? b=some o₀)->b∉fs->B.get? b=some o
noncomputable def CXr (P:Program)(w:World):CXT:=fun outer H s E ev s'=>∃ (C e t:Addr) (B:Heap) (H':Hp),ev=.ref e/\s'.os=s.os/\AllBare s'.gens/\Un (frs outer) [] H H' s.heap s'.heap/\HOk P w H' s'.heap /\
 Heap.FlyingW B outer e (.ref C) (.ref t) s'.heap/\Held (frs outer) H' s.heap s'.heap B/\E (.ref C) none H'
theorem zbY {env:Env}{l:List Env}{L:Addr}(hf:env.frame=some L):frs (env::l)=L::frs l:=by
 unfold frs
 rw[List.filterMap_cons,hf]
theorem jb {fs:List Addr}{H H':Hp}{h h' base:Heap}{l:List Env}(hl:h.FunFrames base l)(hn:∀b∈frs l,H b=none)(u:Un fs [] H H' h h'):∀b∈frs l,H' b=none:=fun b hb=>by
 obtain ⟨_,o,ho,_⟩:=hl.mem hb
 exact u.free b o ho (hn b hb) (by simp)
theorem ObjOk.ob {P:Program}{w:World}{H:Hp}{h:Heap}{a:Addr}{o:HO}(x:ObjOk P w H h a o):∃u,h.get? a=some u:=by
 cases o with
 | lst xs=>obtain ⟨_,_,_,_,e⟩:=x;exact ⟨_,e⟩
 | tup xs=>obtain ⟨_,_,_,o,e,_⟩:=x;exact ⟨_,e⟩
 | dK kvs=>obtain ⟨_,_,_,_,o,_,_,e,_⟩:=x;exact ⟨_,e⟩
 | dT kvs=>obtain ⟨_,_,_,_,o,_,_,e,_⟩:=x;exact ⟨_,e⟩
 | set S n=>obtain ⟨o,_,_,_,e,_⟩:=x;exact ⟨_,e⟩
 | ins C dx fs=>obtain ⟨_,_,_,e,_⟩:=x;exact ⟨_,e⟩
 | own y=>exact x
 | xd fs=>obtain ⟨_,⟨_,_,_,e,_⟩,_⟩:=x;exact ⟨_,e⟩
 | rng lo hi=>obtain ⟨_,_,_,e⟩:=x;exact ⟨_,e⟩
 | frz ob u=>exact ⟨_,x.1⟩
 | tbl ps=>exact ⟨_,show h.get? a=some _ from x⟩
 | met f y=>exact ⟨_,show h.get? a=some _ from x⟩
 | ext φ=>exact x.2.1
section
variable {P:Program}{w:World}{H':Hp}{h1 h2 B:Heap}
theorem kc {fs:List Addr}{h:Heap}(ok:HOk P w H' h1)(hfs:∀b∈fs,H' b=none)(hB:Held fs H' h h1 B)(st:B.StaysIn h2):HOk P w H' h2:=fun a o e =>
 (ok a o e).stay (fun b u hb q=>st b u (hB b u q (.inl (by
  rcases hb with rfl | hb
  .rw[e];simp
  .rw[hb];simp)) fun hm=>by
   have:=hfs b hm
   rcases hb with rfl | hb
   .rw[e] at this;cases this
   .rw[hb] at this;cases this)) (fun _ q=>q) fun _ _ q=>q
theorem Held.next {fs:List Addr}{h:Heap}(ok:HOk P w H' h1)(hB:Held fs H' h h1 B)(st:B.StaysIn h2)(th:∀b o,h.get? b=some o->∃o',h1.get? b=some o'):Held fs H' h h2 B:=fun b o e hq hn=>by
 have ex:∃o',h1.get? b=some o':=by
  rcases hq with z | ⟨o₀,z⟩
  .cases q:H' b with
   | none=>exact absurd q z
   | some u =>
    exact (ok b u q).ob
  .exact th b o₀ z
 obtain ⟨o',e1⟩:=ex
 have e2:=hB b o' e1 hq hn
 have e3:=st b o' e2
 rw[e] at e3
 cases e3
 exact e2
end
theorem qZ {outer:List Env}{L:Addr}{H₀ H H':Hp}{h₀ h h1 h2 B base:Heap}(hL:h₀.objs.size<=L)(hfo:h₀.FunFrames base outer)(hf0:∀b∈frs outer,H₀ b=none)
  (u0:Un (frs outer) [] H₀ H h₀ h) (u1:Un (L::frs outer) [] H H' h h1) (hB:Held (L::frs outer) H' h h1 B) (st:B.StaysIn h2) (up:h1.UpToSlots h2):Un (frs outer) [] H₀ H' h₀ h2:=by
 have no:∀b:Addr,b∉([]:List Addr):=fun b=>by simp
 have nL:∀ {b:Addr}{o:Obj},h₀.get? b=some o->b≠L:=fun {b o} e z=>by
  subst z
  exact absurd (Nat.lt_of_lt_of_le (Heap.lt_size e) hL) (Nat.lt_irrefl _)
 have kp:∀b o,h₀.get? b=some o->H₀ b=none->b∉frs outer->h2.get? b=some o:=fun b o e n hb=>by
  have e1:=u0.keep b o e n hb (no b)
  have hb':b∉L::frs outer:=fun hm=>(List.mem_cons.mp hm).elim (nL e) hb
  have e2:=u1.keep b o e1 (u0.free b o e n (no b)) hb' (no b)
  exact st b o (hB b o e2 (.inr ⟨o,e1⟩) hb')
 have sl:∀b o,h₀.get? b=some o->H₀ b=none->b∈frs outer->∃sl,h2.get? b=some { o with slots:=sl }:=fun b o e n hb=>by
  refine cps fun zP zk=>?_
  obtain ⟨s1,e1⟩:=u0.slot b o e n hb (no b)
  obtain ⟨s2,e2⟩:=u1.slot b _ e1 (u0.free b o e n (no b)) (List.mem_cons_of_mem _ hb) (no b)
  obtain ⟨_,o',ho',hd⟩:=hfo.mem hb
  rw[e] at ho'
  cases ho'
  obtain ⟨s3,e3⟩:=up b _ e2 hd
  refine zk ?_
  exact ⟨s3,e3⟩
 refine ⟨fun b o e n hb _=>kp b o e n hb,fun b o e n hb _=>sl b o e n hb,fun b o e n _=>?_,fun b o e _=>?_,fun b xs q=>u1.tups b xs (u0.tups b xs q),fun b o u q=>u1.frzs b o u (u0.frzs b o u q),fun b ps q=>?_⟩
 .obtain ⟨o1,e1⟩:=u0.there b o e (no b)
  exact u1.free b o1 e1 (u0.free b o e n (no b)) (no b)
 .by_cases hb:b∈frs outer
  .obtain ⟨s1,e1⟩:=sl b o e (hf0 b hb) hb
   exact ⟨_,e1⟩
  .obtain ⟨o1,e1⟩:=u0.there b o e (no b)
   obtain ⟨o2,e2⟩:=u1.there b o1 e1 (no b)
   have hb':b∉L::frs outer:=fun hm=>(List.mem_cons.mp hm).elim (nL e) hb
   exact ⟨o2,st b o2 (hB b o2 e2 (.inr ⟨o1,e1⟩) hb')⟩
 .obtain ⟨m1,e1⟩:=u0.tbls b ps q
  obtain ⟨m2,e2⟩:=u1.tbls b _ e1
  exact ⟨m1++m2,by rw[e2,Array.append_assoc]⟩
section
variable {P:Program}{w:World}{K:PySem.W.Frag}{mg:Str->Option Value}{base:Heap}{N:List Str}{qual:Str}{scope:Scope}{f:Addr}{cd:Value}{A:Around}{outer:List Env}{s:Shared}{H:Hp}{E:XK}
theorem jc {fs:List Addr}{L:Addr}{H₀ H H':Hp}{h₀ h h1 h2 B:Heap}(hL:h₀.objs.size<=L)(hLn:H' L=none)(u0:Un fs [] H₀ H h₀ h)(ok:HOk P w H' h1)(th:∀b o,h.get? b=some o->∃o',h1.get? b=some o')
  (hB:Held (L::fs) H' h h1 B) (st:B.StaysIn h2):Held fs H' h₀ h2 B:=fun b o e hq hn=>by
 have hb':b∉L::fs:=fun hm=>(List.mem_cons.mp hm).elim (fun z=>by
  subst z
  rcases hq with q | ⟨o₀,q⟩
  .exact q hLn
  .exact absurd (Nat.lt_of_lt_of_le (Heap.lt_size q) hL) (Nat.lt_irrefl _)) hn
 refine Held.next ok hB st th b o e (hq.imp id fun ⟨o₀,q⟩=>?_) hb'
 exact u0.there b o₀ q (by simp)
theorem zdH:v7 (CXr P w) (wZ (CXr P w) P w K mg base N qual scope f cd A outer s H E) E:=by
 intro pins σ H1 s1 ev s2 I h
 obtain ⟨C,e,t,B,H2,rfl,os,bare,un,hok,fl,hB,hE⟩:=h
 have hfr:(envOfC qual scope s.heap.objs.size f cd).frame=some s.heap.objs.size:=rfl
 have un':Un (s.heap.objs.size::frs outer) [] H1 H2 s1.heap s2.heap:=un
 have hB':Held (s.heap.objs.size::frs outer) H2 s1.heap s2.heap B:=hB
 have fz:=jb I.stack I.stkFree un
 refine wpAny_leaves_onW I.ok.frames hfr fl fun h' fl' up=>?_
 refine ⟨C,e,t,B,H2,rfl,os.trans I.os,bare,?_,?_,fl',?_,hE⟩
 .exact qZ (Nat.le_refl _) I.ok.funs I.ok.frf I.base un' hB' fl'.1 up
 .exact kc hok fz hB fl'.1
 .exact jc (Nat.le_refl _) (fz _ (by show _∈s.heap.objs.size::frs outer;exact List.mem_cons_self)) I.base hok (fun b o q=>un.there b o q (by simp)) hB' fl'.1
end
noncomputable def g8 (X:Cx)(E:XK):Prop:=∀ (pins:List (Addr×Obj)) (σ:St) (H:Hp) (s:Shared) (h':Heap) (e C:Addr) (vs:List Value),Inv X pins σ H s->Heap.MadeExcOf s.heap h' e (.ref C) vs->E (.ref C) none H->X.xe (.ref e) { s with heap:=h' }
section
variable {P:Program}{w:World}{K:PySem.W.Frag}{mg:Str->Option Value}{base:Heap}{N:List Str}{qual:Str}{scope:Scope}{f:Addr}{cd:Value}{A:Around}{outer:List Env}{s:Shared}{H:Hp}{E:XK}
theorem zbZ:g8 (wZ (CXr P w) P w K mg base N qual scope f cd A outer s H E) E:=by
 intro pins σ H1 s1 h' e C vs I mk hE
 have hfr:(envOfC qual scope s.heap.objs.size f cd).frame=some s.heap.objs.size:=rfl
 have hin:∀env∈(envOfC qual scope s.heap.objs.size f cd::outer),∀b,env.frame=some b->b∈frs (envOfC qual scope s.heap.objs.size f cd::outer):=fun env he b hb=>List.mem_filterMap.mpr ⟨env,he,hb⟩
 have hst:s1.heap.FunFrames base (envOfC qual scope s.heap.objs.size f cd::outer):=I.stack
 have hfz:∀b∈frs (envOfC qual scope s.heap.objs.size f cd::outer),H1 b=none:=I.stkFree
 have hB:Held (s.heap.objs.size::frs outer) H1 s1.heap s1.heap (PySem.W.hideAll s1.heap (frs (envOfC qual scope s.heap.objs.size f cd::outer))):=fun b o q _ hn=>PySem.W.hideAll_get _ q hn
 refine wpAny_leaves_madeW (h:=s1.heap) I.ok.frames hfr (fun b o q=>PySem.W.of_hideAll _ q) (PySem.W.funFrames_hide hst hin) mk fun h2 t fl _ _ up=>?_
 have up':s1.heap.UpToSlots h2:=(Heap.UpToSlots.of_keeps mk.keeps).trans up
 refine ⟨C,e,t,_,H1,rfl,I.os,I.bare,?_,?_,fl,?_,hE⟩
 .exact qZ (Nat.le_refl _) I.ok.funs I.ok.frf I.base Un.refl hB fl.1 up'
 .exact kc I.hok hfz hB fl.1
 .exact jc (Nat.le_refl _) (hfz _ (by show _∈s.heap.objs.size::frs outer;exact List.mem_cons_self)) I.base I.hok (fun b o q=>⟨o,q⟩) hB fl.1
end
noncomputable def zfB (C:Addr)(E:XK)(t:TA):TS:=fun D σ H=>t σ H fun vs H1=>vs.length<=sizeLine/\E (.ref C) none H1
section
variable {X:Cx}{x:Str}{C:Addr}{bm:List Value}{Bn newId initId:String}{E:XK}{t:TA}{np cpos pos:Pos}{e₀:Expr}{rest:List Expr}
theorem j8 (O:OwnCls x C bm newId X.mg X.base)(FB:ExcBaseFacts Bn newId initId bm)(hc:X.calm=true)(hg:Gl X x)(hx:g8 X E)(ha:PA X (e₀::rest) t)(hdb:(x == ("__debug__" : Str))=false:=by decide)
  (he:starEach (e₀::rest) X.env=(false,eval e₀ X.env)::starEach rest X.env:=by rfl) (hpl:(backTo cpos (starEach rest X.env)).any (·.1)=false:=by rfl) :
  PS X (.Raise (some (.Call (.Name x np) (e₀::rest) [] cpos)) none pos) (zfB C E t):=by
 intro pins s σ H D I h
 refine cps fun zP zk=>?_
 obtain ⟨tl,N,nm,q,bs,hdct,sn,sub,ab,col,dd,k0,k1,k2,k3,k5,mN,hC,hN,hni,T⟩:=O.obj
 refine zk ?_
 refine wpAny_Raise_call_subT (k0:=k0) (k1:=k1) (k2:=k2) (k3:=k3) (k5:=k5) (dd:=dd) (col:=col) (ab:=ab) (sub:=sub) (sn:=sn) (hdct:=hdct) (bs:=bs) (q:=q) (nm:=nm) (C:=C) (N:=N) (bm:=tl) (mN:=mN) FB (T.hasType FB.hasBase) (I.ok.hd hc) (by rw[he];exact hpl) hni (vR I hg O.bound ⟨rfl,?_⟩ hdb)
 have h1:=ha cpos pins s σ H _ I h
 rw[he] at h1 ⊢
 refine Calls.evalArgs_plain (wpAny_mono h1 (fun us s2 h2=>?_) fun _ _ y=>y)
 refine cps fun zP zj=>?_
 obtain ⟨vs,H1,I1,r,hz,hE⟩:=h2
 refine zj ?_
 exact ⟨rfl,by rw[<- r.length];exact hz,I1.bk _ _ hC,hN.keeps I1.bk,T.keeps I1.bk,fun h' e mk=>hx pins σ H1 s2 h' e C us I1 mk hE⟩
end
end L2
namespace L2
open PySem PySem.Spec PySem.Calls PyProof.Rows PySem.W Builtin Builtin.ObjectAttr Builtin.Getset_descriptor
section
variable {prog:Program}{w:World}{A:Around}{E:Value->Shared->Prop}{K:PySem.W.Frag}{x C:Addr}{ox:Obj}{h:Heap}{g:Array GenState}{d:Drawn}{t:Nat}{os:OsState}
theorem ke (M:Model)(hx:h.get? x=some ox)(hc:ox.cls=.ref C):Looks M h (typeOf (.ref x)) (.ref C):=hc▸(Looks.ld hx).andThen .now
theorem zdI {R:Result->Shared->Prop}{tp:Value}(X:K.In h)(hx:h.get? x=some ox)(hc:ox.cls=.ref C)(hm:mroIn K C (.type "object")=some true)(hq:R (.ok (.ret (.ref C))) ⟨h,g,d,t,os⟩):
  codeAny (model prog w) A (.call (.builtin "getset_descriptor.__get__") ⟨[.builtin "object.__class__",.ref x,tp],[]⟩) R ⟨h,g,d,t,os⟩:=by
 have L0:=ke (model prog w) hx hc
 have L1:=looks_mroIn (M:=model prog w) X hm
 refine codeAny_call_builtin KF.slot_gs.plain KF.entry_gs ?_
 refine KF.slot_gs.check _ _ _ _ _ _ _ _ KF.type_class (KF.args_gs _ _ _) ?_
 unfold Builtin.«getset_descriptor.__get__» descrGet
 rw[dga_obj]
 refine wpAny_bind (wpAny_pure ?_)
 unfold descrGetter descrCheckInstance descrNameAndClass isInstance
 simp only[KF.owner_class]
 repeat lk
 have z1:Code.quiet (.builtin "object.__class__" ⟨[.ref x],[]⟩)=true:=Code.quiet_builtin _ (by decide +kernel)
 refine ⟨z1,?_⟩
 refine codeAny_builtin KF.entry_class ?_
 unfold Builtin.«object.__class__» shownTypeOf
 repeat lk
 exact hq
theorem zaQ {tk:Tok}{Q:Fin->Shared->Prop}(X:K.In h)(hx:h.get? x=some ox)(hc:ox.cls=.ref C)(hcl:findIn K (.ref C) "__class__" = some (some (.builtin "object.__class__")))(hm:mroIn K C (.type "object")=some true)
  (hq:Q (.done (.ret (.ref C))) ⟨h,g,d,t,os⟩):wpAny (model prog w) A (Builtin.«object.__getattribute__» ⟨[.ref x,.str "__class__" tk],[]⟩) Q E ⟨h,g,d,t,os⟩:=by
 have L0:=ke (model prog w) hx hc
 have L1:=looks_findIn (M:=model prog w) X hcl
 have hT5:(⟨h,g,d,t,os⟩:Shared).TypeIs (.builtin "object.__class__") "getset_descriptor" := F.typeOf_object_class
 have f5:=F.typeOf_object_class
 have f6:=F.slot_gs_get.lookup
 have f7:=F.slot_gs_set.lookup
 unfold Builtin.«object.__getattribute__»
 repeat (any_goals (first | assumption | (with_reducible refine wpAny_loadPart_at hx ?_;rw[hc]) | with_reducible refine Looks.at (by assumption) ?_ | wp_step))
 refine zdI X hx hc hm ?_
 repeat (any_goals (first | assumption | wp_step))
theorem zaR {nameV:Value}{Q:Unit->Shared->Prop}(X:K.In h)(hx:h.get? x=some ox)(hc:ox.cls=.ref C)(hb:mroIn K C (.type "BaseException")=some true)(hq:Q () ⟨h,g,d,t,os⟩):
  wpAny (model prog w) A (checkBuiltinCall "BaseException.__getattribute__" ⟨[.ref x,nameV],[]⟩) Q E ⟨h,g,d,t,os⟩:=by
 have L0:=ke (model prog w) hx hc
 have L1:=looks_mroIn (M:=model prog w) X hb
 have z1:builtinKind "BaseException.__getattribute__" = some .slot:=by decide +kernel
 have z2:splitId "BaseException.__getattribute__" = some ("BaseException", "__getattribute__"):=by decide +kernel
 have z3:=F.args_bexc_ga (.ref x) nameV
 simp only[checkBuiltinCall,z1,z2]
 refine wpAny_bind ?_
 unfold isInstance
 repeat (first | with_reducible refine Looks.at (by assumption) ?_ | wp_step)
 exact hq
theorem zb0 {tk:Tok}{R:Result->Shared->Prop}(X:K.In h)(hx:h.get? x=some ox)(hc:ox.cls=.ref C)(hb:mroIn K C (.type "BaseException")=some true)(hcl:findIn K (.ref C) "__class__" = some (some (.builtin "object.__class__")))(hm:mroIn K C (.type "object")=some true)
  (hq:R (.ok (.ret (.ref C))) ⟨h,g,d,t,os⟩):codeAny (model prog w) A (.call (.builtin "BaseException.__getattribute__") ⟨[.ref x,.str "__class__" tk],[]⟩) R ⟨h,g,d,t,os⟩ :=
 codeAny_call_builtin F.attr_ValueError.ga.plain F.entry_bexc_ga (zaR X hx hc hb (zaQ X hx hc hcl hm hq))
theorem zdJ {s:Shared}{Q:Option Value->Shared->Prop}(X:K.In s.heap)(hx:s.heap.get? x=some ox)(hc:ox.cls=.ref C)(hga:findIn K (.ref C) "__getattribute__" = some (some (.builtin "BaseException.__getattribute__")))(hgt:findIn K (.ref C) "__getattr__" = some none)
  (hb:mroIn K C (.type "BaseException")=some true) (hcl:findIn K (.ref C) "__class__" = some (some (.builtin "object.__class__"))) (hm:mroIn K C (.type "object")=some true)
  (hq:Q (some (.ref C)) { s with toks:=s.toks+1 }):wpAny (model prog w) A (getAttr? (.ref x) "__class__") Q E s:=by
 obtain ⟨h,g,d,t,os⟩:=s
 have L0:=ke (model prog w) hx hc
 have L1:=looks_findIn (M:=model prog w) X hga
 have L2:=looks_findIn (M:=model prog w) X hgt
 have f3:=F.attr_ValueError.ga.bind (.ref x)
 have y2:(Value.builtin "BaseException.__getattribute__" == Value.builtin "object.__getattribute__")=false:=by decide +kernel
 have y1:(onTheHeap (Value.ref C) && Value.builtin "BaseException.__getattribute__" == Value.builtin "object.__getattribute__")=false:=by rw[y2];rfl
 unfold getAttr? getAttrBy? getAttrBy
 refine wpAny_bind (wpAny_mkText (wpAny_bind (wpAny_attempt (wpAny_holding (wpAny_bind (L0.at (wpAny_bind (L1.at ?_))))))))
 dsimp only
 rw[if_neg (by rw[y1];decide)]
 unfold getAttrByItsOwn hookBefore callGetattribute
 repeat (any_goals (first | assumption | with_reducible refine Looks.at (by assumption) ?_ | wp_step))
 refine zb0 (h:=h) X hx hc hb hcl hm ?_
 repeat (any_goals (first | assumption | wp_step))
end
end L2
namespace L2
open PySem PySem.Spec PySem.Calls PyProof.Rows PySem.W
structure ExcK (K:PySem.W.Frag)(C:Addr):Prop where
 ga:findIn K (.ref C) "__getattribute__" = some (some (.builtin "BaseException.__getattribute__"))
 gt:findIn K (.ref C) "__getattr__" = some none
 be:mroIn K C (.type "BaseException")=some true
 cl:findIn K (.ref C) "__class__" = some (some (.builtin "object.__class__"))
 mo:mroIn K C (.type "object")=some true
set_option tactic.hygienic true in
theorem zb1 {K:PySem.W.Frag}{C:Addr}(h:(clsIn K C).isSome=true):∃c d cd sl,K.lookup C=some ⟨c,d,.cls cd,sl⟩:=by
 unfold clsIn at h
 split at h
 .rename_i c d cd sl ho
  exact ⟨c,d,cd,sl,ho⟩
 .cases h
theorem ExcK.ci {K:PySem.W.Frag}{C:Addr}(Z:ExcK K C):(clsIn K C).isSome=true:=by
 obtain ⟨cd,a,_⟩:=Option.bind_eq_some_iff.mp Z.be
 rw[a]
 rfl
theorem j9 {K:PySem.W.Frag}{x C:Addr}{ox:Obj}(Z:ExcK K C)(hc:ox.cls=.ref C):KitX K (.ref x) (.ref C) (fun h=>h.get? x=some ox) where
 ty:=fun M h _ p=>ke M p hc
 it:=fun M h X _=>by
  obtain ⟨c,d,cd,sl,ho⟩:=zb1 Z.ci
  intro A' Q' E' s' k q
  unfold isType loadHead
  refine wpAny_bind (wpAny_loadPart (k _ _ (X _ _ ho)) ?_)
  exact wpAny_pure q
 ne:=fun h tp dd its n sl X htp=>by
  obtain ⟨c,d,cd,sl',ho⟩:=zb1 Z.ci
  refine Bool.eq_false_iff.mpr fun q=>?_
  cases Value.ref.inj (beq_iff_eq.mp q)
  have z:=(X _ _ ho).symm.trans htp
  cases z
 ca:=fun X p k=>zdJ X p hc Z.ga Z.gt Z.be Z.cl Z.mo k
noncomputable def rIsX (K:PySem.W.Frag)(x C:Addr):List V->Hp->VK->Prop:=fun vs H Q =>
 (∃c u b,vs=[.ref x,c]/\RelV c u/\(∀u',RelV c u'->u'=u)/\kitOne K (.ref C) u=some b/\Q (.bl b) H) \/
 (∃tp ts b,vs=[.ref x,.ref tp]/\H tp=some (.tup ts)/\(∀us,Vals ts us->kitAny K (.ref C) us=some b)/\Q (.bl b) H)
theorem zb2 {v w:V}{us:List Value}(r:Vals [v,w] us):∃a b,us=[a,b]/\RelV v a/\RelV w b:=by
 cases r with
 | cons p q =>
  cases q with
  | cons p' q' =>
   cases q' with
   | nil=>exact ⟨_,_,rfl,p,p'⟩
theorem zdK {l:List Env}{H H':Hp}{h h1 h2 B base:Heap}(hl:h.FunFrames base l)(hn:∀b∈frs l,H b=none)(u:Un (frs l) [] H H' h h1)(hB:Held (frs l) H' h h1 B)(st:B.StaysIn h2)(up:h1.UpToSlots h2):Un (frs l) [] H H' h h2:=by
 have no:∀b:Addr,b∉([]:List Addr):=fun b=>by simp
 have sl:∀b o,h.get? b=some o->b∈frs l->∃sl,h2.get? b=some { o with slots:=sl }:=fun b o e hb=>by
  refine cps fun zP zk=>?_
  obtain ⟨s1,e1⟩:=u.slot b o e (hn b hb) hb (no b)
  obtain ⟨_,o',ho',hd⟩:=hl.mem hb
  rw[e] at ho'
  cases ho'
  obtain ⟨s2,e2⟩:=up b _ e1 hd
  refine zk ?_
  exact ⟨s2,e2⟩
 refine ⟨fun b o e n hb _=>?_,fun b o e n hb _=>sl b o e hb,u.free,fun b o e _=>?_,u.tups,u.frzs,u.tbls⟩
 .have e1:=u.keep b o e n hb (no b)
  exact st b o (hB b o e1 (.inr ⟨o,e⟩) hb)
 .by_cases hb:b∈frs l
  .obtain ⟨s1,e1⟩:=sl b o e hb
   exact ⟨_,e1⟩
  .obtain ⟨o1,e1⟩:=u.there b o e (no b)
   exact ⟨o1,st b o1 (hB b o1 e1 (.inr ⟨o,e⟩) hb)⟩
section
variable {M:Model}{A:Around}{E:Value->Shared->Prop}{bs bs' bm bm':List Value}{nm nm' q q':Str}{C G N N':Addr}{hdct hdct':Bool}{sn sn':List Str}{sub sub':List Value}{ab ab':Bool}{col col':Option Bool}{dd dd':Option Addr}{k0 k1 k2 k3 k5 j0 j1 j2 j3 j5:Option Value}{newId newId':String}
theorem zb3 {h:Heap}{g:Array GenState}{d:Drawn}{t:Nat}{os:OsState}{e:Addr}{oe:Obj}{Q:Bool->Shared->Prop}
  (hC:h.get? C=some (excClassObj nm q C N bs bm hdct sn sub ab col dd k0 k1 k2 k3 k5 newId)) (hG:h.get? G=some (excClassObj nm' q' G N' bs' bm' hdct' sn' sub' ab' col' dd' j0 j1 j2 j3 j5 newId')) (he:h.get? e=some oe) (hcls:oe.cls=.ref C)
  (y1:(Value.ref G::bm').contains (.type "BaseException")=true) (y2:(Value.ref C::bm).contains (.ref G)=true) (hq:Q true ⟨h,g,d,t,os⟩):wpAny M A (excMatches (.ref e) (.ref G)) Q E ⟨h,g,d,t,os⟩:=by
 have f:=tc_notTuple
 unfold excMatches
 repeat (first | (with_reducible refine wpAny_loadPart_at he ?_;rw[hcls]) | with_reducible refine wpAny_loadPart_at hG ?_ | (with_reducible refine wpAny_isSubtype_exc hG ?_;rw[y1]) | (with_reducible refine wpAny_isSubtype_exc hC ?_;rw[y2]) | wp_step)
 exact hq
end
section
variable {X:Cx}{pins:List (Addr×Obj)}{σ:St}{H:Hp}{s:Shared}
theorem Inv.lost {h':Heap}{m':Str->Option Value}{t':Nat}(I:Inv X pins σ H s)(hn:h'.Ns X.env.locals m')(hs:Heap.SameBut X.env.locals s.heap h'):Inv X pins (List.replicate X.N.length none) H { s with heap:=h',toks:=t' }:=by
 have lo:∀ {b:Addr}{o:Obj},X.s₀.heap.get? b=some o->b≠X.env.locals:=fun {b o} e z=>by
  subst z
  exact absurd (Nat.lt_of_lt_of_le (Heap.lt_size e) I.ok.above) (Nat.lt_irrefl _)
 refine ⟨I.ok,I.os,I.bare,⟨fun b o e n hb hx=>?_,fun b o e n hb hx=>?_,I.base.free,fun b o e hx=>?_,I.base.tups,I.base.frzs,I.base.tbls⟩,⟨m',hn,fun j y v e1 e2 _=>?_⟩,fun y c e=>?_,I.free,I.freeC,fun p hp=>?_,fun b ob e=>?_,by simp⟩
 .rw[hs.2 b (lo e)];exact I.base.keep b o e n hb hx
 .obtain ⟨sl,e1⟩:=I.base.slot b o e n hb hx
  exact ⟨sl,by rw[hs.2 b (lo e)];exact e1⟩
 .obtain ⟨o',e1⟩:=I.base.there b o e hx
  exact ⟨o',by rw[hs.2 b (lo e)];exact e1⟩
 .rw[List.getElem?_replicate] at e2
  split at e2 <;> cases e2
 .obtain ⟨w',z⟩:=I.cell y c e
  exact ⟨w',z.sameBut hs (I.cne y c e)⟩
 .obtain ⟨e,n,ne,nf,d⟩:=I.pin p hp
  exact ⟨by rw[hs.2 p.1 ne];exact e,n,ne,nf,d⟩
 .have hL:=I.free
  refine (I.hok b ob e).stay (fun c w' hc q=>?_) (fun _ q=>q) fun _ _ q=>q
  rw[hs.2 c (fun z=>by
   subst z
   rcases hc with z | z
   .rw[<- z,hL] at e;cases e
   .rw[hL] at z;cases z)]
  exact q
end
noncomputable def jd (h:Heap)(C:Addr)(v:Value):Prop:=∃nm q N bs bm hdct sn sub ab col dd k0 k1 k2 k3 k5 newId,h.get? C=some (excClassObj nm q C N bs bm hdct sn sub ab col dd k0 k1 k2 k3 k5 newId)/\(Value.ref C::bm).contains v=true
noncomputable def tNm:List Addr->TA
 | []=>zdz
 | a::r=>jX (tC (.ref a)) (tNm r)
theorem zfC {as:List Addr}{σ:St}{H:Hp}{Q:List V->Hp->Prop}(h:Q (as.map V.ref) H):tNm as σ H Q:=by
 induction as generalizing Q with
 | nil=>exact h
 | cons a r ih=>exact ih (Q:=fun xs H2=>Q (.ref a::xs) H2) h
theorem zaa:∀ {as:List Addr}{us:List Value},Vals (as.map V.ref) us->us=as.map Value.ref
 | [],_,.nil=>rfl
 | a::r,_,.cons p q=>by
  obtain rfl:_=Value.ref a:=p
  rw[zaa q]
  rfl
inductive IsNms (env:Env)(mg:Str->Option Value):List Expr->List Addr->Prop
 | nil:IsNms env mg [] []
 | cons {x:Str}{p:Pos}{es:List Expr}{a:Addr}{as:List Addr}(hg:env.kindOf x=some .globalImplicit) (hm:mg x=some (.ref a)) (hd:(x == ("__debug__" : Str))=false) (h:IsNms env mg es as):IsNms env mg (.Name x p::es) (a::as)
theorem zfD {X:Cx}{es:List Expr}{as:List Addr}(h:IsNms X.env X.mg es as):PA X es (tNm as):=by
 induction h with
 | nil=>exact yk
 | cons hg hm hd _ ih=>exact zD (jn (v:=.ref _) hg hm rfl hd) ih rfl
theorem gc {X:Cx}{k:Nat}{f:Addr}{fd:FuncData}{ps:List Str}{sp:Sp}{t:TA}{fnm:Str}{e0:Expr}{es:List Expr}{p q:Pos}{E:XK}{Eh:Value->Shared->Prop}{Q:Value->Shared->Prop}{pins:List (Addr×Obj)}{s:Shared}{σ:St}{H:Hp}
  (F:FnOk X.prog X.w X.K X.mg X.base (CXr X.prog X.w) k f fd ps sp) (hr:Room k X.A) (hgf:Gl X fnm) (hmf:X.mg fnm=some (.ref f)) (hkf:PySem.W.keepIn X.K (.ref f)=true) (hb:Binds X.K fd ps []) (hdf:(fnm == ("__debug__" : Str))=false) (ha:PA (X.wish Eh) (e0::es) t)
  (he:starEach (e0::es) X.env=(false,eval e0 X.env)::starEach es X.env) (hpl:(backTo q (starEach es X.env)).any (·.1)=false) (I:Inv X pins σ H s) (h:t σ H fun vs H1=>sp vs H1 (fun _ _=>False) E)
  (hx:∀ (H1:Hp) (s1:Shared) (ev:Value) (s':Shared),Inv X pins σ H1 s1->CXr X.prog X.w X.stack H1 s1 E ev s'->Eh ev s'):wpAny (model X.prog X.w) X.A (eval (.Call (.Name fnm p) (e0::es) [] q) X.env) Q Eh s:=by
 refine wpAny_Call_Name_kw (vR I hgf hmf ?_ hdf)
 refine PySem.W.callWith_K (h₀:=X.base) I.ok.mod.kin hkf (thn (ha q pins s σ H _ (I.wish Eh) h) fun us s1 ⟨vs,H1,I1,r,hsp⟩=>⟨I1.kIn,?_⟩) he hpl
 have J:Inv X pins σ H1 s1:=I1.unwish
 have hl:us.length=ps.length:=by rw[<- r.length];exact F.len _ _ _ _ hsp
 have hbb:BindsTo s1 fd ⟨us,[]⟩ (ps.zip us):=by
  have z:=hb s1 us J.kIn (by rw[List.append_nil];exact hl)
  rw[List.append_nil] at z
  exact z
 refine wpAny_call (codeAny_mono (F.run X.A X.stack s1 H1 ⟨us,[]⟩ us vs _ _ hr J.env0 hbb r hsp) fun res s' hq=>?_)
 cases res with
 | error ev=>exact hx H1 s1 ev s' J hq
 | ok fl =>
  cases fl with
  | ret u=>obtain ⟨_,_,_,_,_,_,_,z⟩:=hq;exact z.elim
  | next=>exact False.elim hq
  | brk=>exact False.elim hq
  | cont=>exact False.elim hq
theorem Inv.gone {X:Cx}{pins:List (Addr×Obj)}{σ:St}{H:Hp}{s:Shared}{h':Heap}{m:Str->Option Value}{v:Option Value}{t' i:Nat}{n:Str}(I:Inv X pins σ H s)(hN:X.N.Nodup)(hi:X.N[i]?=some n)
  (hl:∀ (i:Nat) (x:Str) (v:V),X.N[i]?=some x->σ[i]?=some (some v)->Vis X.env.scope x->∃u,RelV v u/\zgq X.env s.heap m x u) (hn:h'.Ns X.env.locals (fun x=>if x=n then v else m x)) (hs:Heap.SameBut X.env.locals s.heap h'):Inv X pins (σ.set i none) H { s with heap:=h',toks:=t' }:=by
 have lo:∀ {b:Addr}{o:Obj},X.s₀.heap.get? b=some o->b≠X.env.locals:=fun {b o} e z=>by
  subst z
  exact absurd (Nat.lt_of_lt_of_le (Heap.lt_size e) I.ok.above) (Nat.lt_irrefl _)
 refine ⟨I.ok,I.os,I.bare,⟨fun b o e n hb hx=>?_,fun b o e n hb hx=>?_,I.base.free,fun b o e hx=>?_,I.base.tups,I.base.frzs,I.base.tbls⟩,⟨_,hn,fun j y w e1 e2 e3=>?_⟩,fun y c e=>?_,I.free,I.freeC,fun p hp=>?_,fun b ob e=>?_,by rw[List.length_set];exact I.len⟩
 .rw[hs.2 b (lo e)];exact I.base.keep b o e n hb hx
 .obtain ⟨sl,e1⟩:=I.base.slot b o e n hb hx
  exact ⟨sl,by rw[hs.2 b (lo e)];exact e1⟩
 .obtain ⟨o',e1⟩:=I.base.there b o e hx
  exact ⟨o',by rw[hs.2 b (lo e)];exact e1⟩
 .have hj:j≠i:=by
   rintro rfl
   rw[List.getElem?_set] at e2
   split at e2
   .split at e2 <;> cases e2
   .rename_i z;exact z rfl
  rw[List.getElem?_set_ne (Ne.symm hj)] at e2
  obtain ⟨u,r,q⟩:=hl j y w e1 e2 e3
  refine ⟨u,r,?_⟩
  rcases q with ⟨k,e⟩ | ⟨k,c,e,z⟩
  .refine .inl ⟨k,?_⟩
   have:y≠n:=fun e=>hj (vX hN e1 (e▸hi))
   show (if y=n then v else m y)=some u
   rw[if_neg this];exact e
  .exact .inr ⟨k,c,e,z.sameBut hs (I.cne y c e)⟩
 .obtain ⟨w',z⟩:=I.cell y c e
  exact ⟨w',z.sameBut hs (I.cne y c e)⟩
 .obtain ⟨e,n,ne,nf,d⟩:=I.pin p hp
  exact ⟨by rw[hs.2 p.1 ne];exact e,n,ne,nf,d⟩
 .have hL:=I.free
  refine (I.hok b ob e).stay (fun c w' hc q=>?_) (fun _ q=>q) fun _ _ q=>q
  rw[hs.2 c (fun z=>by
   subst z
   rcases hc with z | z
   .rw[<- z,hL] at e;cases e
   .rw[hL] at z;cases z)]
  exact q
noncomputable def exO (oe:Obj):HO:=.frz oe (.ext fun _=>True)
theorem Inv.track {X:Cx}{pins:List (Addr×Obj)}{σ:St}{H:Hp}{s:Shared}{e:Addr}{oe:Obj}(I:Inv X pins σ H s)(he:s.heap.get? e=some oe)(hn:H e=none)(h0:X.s₀.heap.get? e=none)(hl:e≠X.env.locals)
  (hc:∀x c,X.env.cells.lookup x=some c->c≠e) (hp:∀p∈X.pn++pins,p.1≠e):Inv X pins σ (upd H e (exO oe)) s:=by
 have up:∀ {b:Addr}{o:HO},H b=some o->upd H e (exO oe) b=some o:=fun {b o} z=>by
  rw[zo (zC z hn)];exact z
 refine ⟨I.ok,I.os,I.bare,⟨I.base.keep,I.base.slot,fun b o e1 e2 e3=>?_,I.base.there,fun b xs z=>up (I.base.tups b xs z),fun b o u z=>up (I.base.frzs b o u z),fun b ps z=>?_⟩,I.loc,I.cell,?_,fun x c z=>?_,fun p z=>?_,fun a o z=>?_,I.len⟩
 .rw[zo (fun z=>by rw[z,h0] at e1;cases e1)]
  exact I.base.free b o e1 e2 e3
 .obtain ⟨more,q⟩:=I.base.tbls b ps z
  exact ⟨more,up q⟩
 .rw[zo (Ne.symm hl)];exact I.free
 .rw[zo (hc x c z)];exact I.freeC x c z
 .obtain ⟨a1,a2,a3⟩:=I.pin p z
  exact ⟨a1,by rw[zo (hp p z)];exact a2,a3⟩
 .by_cases q:a=e
  .subst q
   rw[zp] at z
   cases z
   exact ⟨he,trivial,⟨oe,he⟩,fun _ _ _ _=>trivial⟩
  .rw[zo q] at z
   exact (I.hok a o z).stay (fun _ _ _ q=>q) (fun _ q=>up q) fun _ _ q=>up q
noncomputable abbrev Cx.heldT (X:Cx)(e:Addr)(E:Value->Shared->Prop):Cx:={ X with A:=X.A.mark (some (.ref e)),calm:=false,xe:=E }
section
variable {X:Cx}{pins:List (Addr×Obj)}{σ:St}{H:Hp}{s:Shared}{e:Addr}{E:Value->Shared->Prop}
theorem Inv.heldT (I:Inv X pins σ H s):Inv (X.heldT e E) pins σ H s :=
 ⟨⟨I.ok.mod,I.ok.kind,I.ok.glob,I.ok.blt,I.ok.above,I.ok.inj,I.ok.has,I.ok.cab,(fun z=>by cases z),I.ok.frames,I.ok.stk,I.ok.exf,I.ok.bs,I.ok.bsz,I.ok.noex,I.ok.exfs,I.ok.funs,I.ok.frf⟩,I.os,I.bare,I.base,I.loc,I.cell,I.free,I.freeC,I.pin,I.hok,I.len⟩
theorem zie (ok:X.Ok)(I:Inv (X.heldT e E) pins σ H s):Inv X pins σ H s :=
 ⟨ok,I.os,I.bare,I.base,I.loc,I.cell,I.free,I.freeC,I.pin,I.hok,I.len⟩
end
theorem g9 {X:Cx}{pins:List (Addr×Obj)}{σ:St}{H1 H2:Hp}{s1 s2:Shared}{C G e t:Addr}{B:Heap}{gn n:Str}{i:Nat}{np pos:Pos}{b₀:Stmt}{suite:List Stmt}{D:Ends}(hst:X.stack=X.env::X.outer)(hfr:X.env.frame=some X.env.locals)(I:Inv X pins σ H1 s1)
  (os:s2.os=s1.os) (bare:AllBare s2.gens) (un:Un (frs X.stack) [] H1 H2 s1.heap s2.heap) (hok:HOk X.prog X.w H2 s2.heap) (fl:Heap.FlyingW B X.stack e (.ref C) (.ref t) s2.heap) (hB:Held (frs X.stack) H2 s1.heap s2.heap B)
  (cC:jd X.base C (.ref G)) (cG:jd X.base G (.type "BaseException")) (hg:Gl X gn) (hm:X.mg gn=some (.ref G)) (hdb:(gn == ("__debug__" : Str))=false)
  (hN:X.N.Nodup) (hi:X.N[i]?=some n) (hn:X.env.scope.names.lookup n=some .local) (hex:X.ex=[])
  (hsuite:∀ (oe:Obj) (E':Value->Shared->Prop),oe.cls=.ref C->H2 e=none->∃tt,PSs (X.heldT e E') (b₀::suite) tt/\tt { nx:=fun σ' H'=>D.nx (σ'.set i none) H',rt:=D.rt } (σ.set i (some (.ref e))) (upd H2 e (exO oe))) :
  wpAny (model X.prog X.w) X.A (noteFrame (.ref e) X.env) (fun _ s₂=>wpAny (model X.prog X.w) X.A (setFlight (.ref e) none)
   (fun _ s₃=>wpAny (model X.prog X.w) X.A (handleBy (.ref e) X.env [.ExceptHandler (some (.Name gn np)) (some n) (b₀::suite) pos]) (SP X pins D) X.xe s₃) X.xe s₂) X.xe s2:=by
 have frames:X.A.frames=some (X.env::X.outer):=by rw[<- hst];exact I.ok.frames
 have fz:=jb I.stack I.stkFree un
 have inv:∀ {h5:Heap},B.StaysIn h5->s2.heap.UpToSlots h5->Inv X pins σ H2 { s2 with heap:=h5 }:=fun {h5} st up =>
  I.call' (s':={ s2 with heap:=h5 }) (ch:=[]) os (zdK I.stack I.stkFree un hB st up) (kc hok fz hB st) bare (fun b z=>absurd z (by simp))
 rw[hst] at fl
 refine wpAny_looks_onW frames hfr fl fun h4 hd4 up4=>?_
 refine wpAny_landsW hd4 fun h5 fl5 up5=>?_
 have I5:=inv fl5.1 (up4.trans up5)
 refine cps fun zP zk=>?_
 obtain ⟨oe5,he5,hc5⟩:=fl5.there
 obtain ⟨nm,q,N,bs,bm,hdct,sn,sub,ab,col,dd,k0,k1,k2,k3,k5,ni,hC,hCG⟩:=cC
 obtain ⟨nm',q',N',bs',bm',hdct',sn',sub',ab',col',dd',j0,j1,j2,j3,j5,ni',hG,hGB⟩:=cG
 refine zk ?_
 refine wpAny_handleBy_cons (codeAny_handlers_test ?_) (by intro z;cases z)
 refine Calls.Name_function_global I.ok.kind hg (Calls.loadGlobal_global (by rw[I.ok.glob];exact I5.mod.glob.keeps I5.bk) hm ?_) hdb
 refine zb3 (I5.bk _ _ hC) (I5.bk _ _ hG) he5 hc5 hGB hCG (codeAny_handlers_suite_as ?_)
 refine lands_againW fl5 fun h6 fl6 up6=>?_
 have I6:=inv fl6.1 ((up4.trans up5).trans up6)
 obtain ⟨oe,ws,he6,hc6,hd6,_⟩:=fl6.first
 have hBe:B.get? e=none:=fl6.2.1
 have hHe:H2 e=none:=by
  cases z:H2 e with
  | none=>rfl
  | some u =>
   obtain ⟨o,ho⟩:=(hok e u z).ob
   have:=hB e o ho (.inl (by rw[z];simp)) (fun hm=>by rw[fz e hm] at z;cases z)
   rw[hBe] at this;cases this
 have hen:∀b∈frs X.stack,b≠e:=fun b hb z=>by
  subst z
  obtain ⟨_,o,ho,hnf⟩:=I6.stack.mem hb
  rw[he6] at ho
  cases ho
  exact hnf ws hd6
 have hL:e≠X.env.locals:=fun z=>hen X.env.locals (by rw[hst,zbY hfr];exact List.mem_cons_self) z.symm
 have hS1:s1.heap.get? e=none:=by
  cases z:s1.heap.get? e with
  | none=>rfl
  | some o1 =>
   obtain ⟨o2,h2⟩:=un.there e o1 z (by simp)
   have:=hB e o2 h2 (.inr ⟨o1,z⟩) (fun hm=>hen e hm rfl)
   rw[hBe] at this;cases this
 have hS0:X.s₀.heap.get? e=none:=by
  cases z:X.s₀.heap.get? e with
  | none=>rfl
  | some o1 =>
   obtain ⟨o2,h2⟩:=I.base.there e o1 z (by rw[hex];simp)
   rw[hS1] at h2;cases h2
 have hCe:∀x c,X.env.cells.lookup x=some c->c≠e:=fun x c z q=>by
  subst q
  obtain ⟨v,hv⟩:=I.cell x c z
  obtain ⟨o,ho,_⟩:=hv
  rw[hS1] at ho;cases ho
 have hPe:∀p∈X.pn++pins,p.1≠e:=fun p hp q=>by
  have:=(I.pin p hp).1
  rw[q,hS1] at this;cases this
 refine vY (I6.track he6 hHe hS0 hL hCe hPe) hN hi (.inl hn) (v:=.ref e) rfl (fun s7 I7=>?_) (.inr hn)
 obtain ⟨tt,hp,ht⟩:=hsuite oe _ hc6 hHe
 refine wpAny_mono (hp pins s7 _ _ _ I7.heldT ht) (fun f s8 h8=>?_) (fun x s8 hx=>hx)
 cases f with
 | brk=>obtain ⟨_,_,_,z⟩:=h8;exact z.elim
 | cont=>obtain ⟨_,_,_,z⟩:=h8;exact z.elim
 | ret u =>
  obtain ⟨v,σ',H',I8,rv,qq⟩:=h8
  have I8':=zie I.ok I8
  obtain ⟨m,hm8,_⟩:=I8'.loc
  refine wpAny_nameGoes hn hm8 (by rw[I.ok.kind];rfl) fun h' m' hn' hs'=>?_
  exact ⟨v,_,H',I8'.lost hn' hs',rv,qq⟩
 | next =>
  obtain ⟨σ',H',I8,qq⟩:=h8
  have I8':=zie I.ok I8
  obtain ⟨m,hm8,hl8⟩:=I8'.loc
  refine wpAny_nameGoes_keeps hn hm8 (by rw[I.ok.kind];rfl) fun h' v' hn' hs'=>?_
  exact ⟨_,H',I8'.gone hN hi hl8 hn' hs',qq⟩
theorem zdL {X:Cx}{k i:Nat}{f:Addr}{fd:FuncData}{ps:List Str}{sp:Sp}{t:TA}{fnm gn n:Str}{e0:Expr}{es:List Expr}{G:Addr}{b₀:Stmt}{suite:List Stmt}{p q p' np hp pos:Pos}
  (hst:X.stack=X.env::X.outer) (hfr:X.env.frame=some X.env.locals) (hex:X.ex=[]) (F:FnOk X.prog X.w X.K X.mg X.base (CXr X.prog X.w) k f fd ps sp) (hr:Room k X.A) (hgf:Gl X fnm) (hmf:X.mg fnm=some (.ref f)) (hkf:PySem.W.keepIn X.K (.ref f)=true) (hb:Binds X.K fd ps [])
  (hdf:(fnm == ("__debug__" : Str))=false) (ha:∀E,PA (X.wish E) (e0::es) t) (hG:jd X.base G (.type "BaseException")) (hgG:Gl X gn) (hmG:X.mg gn=some (.ref G)) (hdG:(gn == ("__debug__" : Str))=false)
  (hN:X.N.Nodup) (hi:X.N[i]?=some n) (hn:X.env.scope.names.lookup n=some .local)
  (he:starEach (e0::es) X.env=(false,eval e0 X.env)::starEach es X.env:=by rfl) (hpl:(backTo q (starEach es X.env)).any (·.1)=false:=by rfl) (hs:swapsWith (.Call (.Name fnm p) (e0::es) [] q) none p'.line X.env=pure false:=by rfl) :
  PS X (.Try [.Expr (.Call (.Name fnm p) (e0::es) [] q) p'] [.ExceptHandler (some (.Name gn np)) (some n) (b₀::suite) hp] [] [] pos)
   (fun D σ H=>t σ H fun vs H1=>sp vs H1 (fun _ _=>False) fun cls _ H2=>∃C,cls=.ref C/\jd X.base C (.ref G)/\∀ (e:Addr) (oe:Obj) (E':Value->Shared->Prop),oe.cls=.ref C->H2 e=none ->
    ∃tt,PSs (X.heldT e E') (b₀::suite) tt/\tt { nx:=fun σ' H'=>D.nx (σ'.set i none) H',rt:=D.rt } (σ.set i (some (.ref e))) (upd H2 e (exO oe))):=by
 intro pins s σ H D I h
 refine wpAny_Try_except (wpAny_execs_cons (wpAny_Expr_any (gc F hr hgf hmf hkf hb hdf (ha _) he hpl I h fun H1 s1 ev s' J hq=>?_) I.quiet hs))
 refine cps fun zP zk=>?_
 obtain ⟨C,e,tt,B,H2,rfl,os,bare,un,hok,fl,hB,C',eC,hk,hD⟩:=hq
 refine zk ?_
 cases eC
 exact g9 (D:=D) hst hfr J os bare un hok fl hB hk hG hgG hmG hdG hN hi hn hex fun oe E' hc hz=>hD e oe E' hc hz
theorem zb4 {X:Cx}{x C:Addr}{ox:Obj}(Z:ExcK X.K C)(hc:ox.cls=.ref C):CallR X (.builtin "isinstance") (fun vs H Q=>H x=some (exO ox)/\rIsX X.K x C vs H Q):=by
 intro pins s σ H xs us Q I r ⟨hH,h⟩
 have hx:s.heap.get? x=some ox:=(I.hok x _ hH).1
 rcases h with ⟨c,u,b,rfl,ru,uq,k,q⟩ | ⟨tp,ts,b,rfl,ht,k,q⟩
 .obtain ⟨a,a',rfl,ra,ra'⟩:=zb2 r
  obtain rfl:a=.ref x:=ra
  obtain rfl:=uq a' ra'
  exact kia_one (j9 Z hc) I.kIn hx k (fun z=>nomatch z) fun tk=>⟨.bl b,H,I.tok tk,rfl,q⟩
 .obtain ⟨a,a',rfl,ra,ra'⟩:=zb2 r
  obtain rfl:a=.ref x:=ra
  obtain rfl:a'=.ref tp:=ra'
  refine cps fun zP zk=>?_
  obtain ⟨z,its,rv,⟨oc,od,dat,sl⟩,ho,h1,n,hd⟩:=I.hok tp _ ht
  refine zk ?_
  obtain rfl:oc=.type "tuple" := h1
  obtain rfl:dat=.seq its.toArray n:=hd
  exact kia_tup (j9 Z hc) I.kIn hx ho (k its rv) (fun z=>nomatch z) fun tk=>⟨.bl b,H,I.tok tk,rfl,q⟩
noncomputable def qo (x n ny nz:Str)(es:List Expr)(t0 t1 t2 t3 te:Str)(p1 p2 p3 p4 p5 p6 p7 p8 p9 pa pb pc pd q1 q2 q3 q4 q5 q6 q7 q8 q9 qa qb qc qd qe qf qg qh qi qj qk ql qm qn:Pos)(k1 k2 j0 j1 j2 j3 j4:Nat):List Stmt :=
 [.If (.BoolOp .Or [.Call (.Name "isinstance" p1) [.Name n p2,.Tuple es k1 p3] [] p4,.UnaryOp .Not (.Call (.Name "isinstance" p5) [.Name n p6,.Name "ValueError" p7] [] p8) p9] pa) [.Return (some (.Constant (.str te) k2 pb)) pc] [] pd,
  .Assign [.Name x q1] (.Subscript (.List [.Constant (.str t0) j0 q2,.Constant (.str t1) j1 q3,.Constant (.str t2) j2 q4,.Constant (.str t3) j3 q5] q6)
    (.BinOp (.Call (.Name "int" q7) [.Call (.Name "isinstance" q8) [.Name n q9,.Name ny qa] [] qb] [] qc) .Add (.BinOp (.Constant (.int 2) j4 qd) .Mult (.Call (.Name "int" qe) [.Call (.Name "isinstance" qf) [.Name n qg,.Name nz qh] [] qi] [] qj) qk) ql) qm) qn]
theorem zaS {X:Cx}{x n ny nz:Str}{es:List Expr}{t0 t1 t2 t3 te:Str}{ts:List Addr}{i j:Nat}{C Y Z e:Addr}{oe:Obj}{σ:St}{H:Hp}{D:Ends}{b1 b2:Bool}{v:V}{p1 p2 p3 p4 p5 p6 p7 p8 p9 pa pb pc pd q1 q2 q3 q4 q5 q6 q7 q8 q9 qa qb qc qd qe qf qg qh qi qj qk ql qm qn:Pos}{k1 k2 j0 j1 j2 j3 j4:Nat}
  (hk:ExcK X.K C) (hva:kitOne X.K (.ref C) (.type "ValueError")=some true) (hany:kitAny X.K (.ref C) (ts.map Value.ref)=some false) (h1:kitOne X.K (.ref C) (.ref Y)=some b1) (h2:kitOne X.K (.ref C) (.ref Z)=some b2) (hc:oe.cls=.ref C) (hts:IsNms X.env X.mg es ts) (hz:ts.length<=1000)
  (hY:Gl X ny) (hmY:X.mg ny=some (.ref Y)) (hdY:(ny == ("__debug__" : Str))=false) (hZ:Gl X nz) (hmZ:X.mg nz=some (.ref Z)) (hdZ:(nz == ("__debug__" : Str))=false) (hI:Gl X "isinstance") (hmI:X.mg "isinstance" = none) (hV:Gl X "ValueError") (hmV:X.mg "ValueError" = none) (hT:Gl X "int") (hmT:X.mg "int" = none)
  (hNd:X.N.Nodup) (hj:X.N[j]?=some x) (hx:X.env.scope.names.lookup x=some .local) (hN:X.N[i]?=some n) (hn:X.env.scope.names.lookup n=some .local) (hd1:(n == ("__debug__" : Str))=false) (hd2:(n == ("__classdict__" : Str))=false) (hv:σ[i]?=some (some (V.ref e))) (hH:H e=some (exO oe))
  (txt:atI [V.str t0,.str t1,.str t2,.str t3] ((if b1 then 1 else 0)+2 * (if b2 then 1 else 0))=some v)
  (q:∀p ts' l,H p=none->upd H p (.tup ts') l=none->D.nx (σ.set j (some v)) (upd (upd H p (.tup ts')) l (.lst [V.str t0,.str t1,.str t2,.str t3]))) :
  ∃tt,PSs X (qo x n ny nz es t0 t1 t2 t3 te p1 p2 p3 p4 p5 p6 p7 p8 p9 pa pb pc pd q1 q2 q3 q4 q5 q6 q7 q8 q9 qa qb qc qd qe qf qg qh qi qj qk ql qm qn k1 k2 j0 j1 j2 j3 j4) tt/\tt D σ H:=by
 have cR:=zb4 (X:=X) (x:=e) hk hc
 have bI:bootBuiltins "isinstance" = some (.builtin "isinstance"):=by rfl
 have bV:bootBuiltins "ValueError" = some (.type "ValueError"):=by rfl
 have bT:bootBuiltins "int" = some (.type "int"):=by rfl
 have hnm:∀ {p:Pos},PE X (.Name n p) (zdp i):=fun {p}=>vZ hN (.inl hn) hd1 hd2
 have c1:PE X (.Call (.Name "isinstance" p1) [.Name n p2,.Tuple es k1 p3] [] p4) _:=yB cR hI hmI bI (zD hnm (zD (zbI (zfD hts)) yk))
 have c2:PE X (.Call (.Name "isinstance" p5) [.Name n p6,.Name "ValueError" p7] [] p8) _:=yB cR hI hmI bI (zD hnm (zD (qS (v:=.ty "ValueError") hV hmV bV rfl) yk))
 have c3:PE X (.Call (.Name "isinstance" q8) [.Name n q9,.Name ny qa] [] qb) _:=yB cR hI hmI bI (zD hnm (zD (jn (v:=.ref Y) hY hmY rfl hdY) yk))
 have c4:PE X (.Call (.Name "isinstance" qf) [.Name n qg,.Name nz qh] [] qi) _:=yB cR hI hmI bI (zD hnm (zD (jn (v:=.ref Z) hZ hmZ rfl hdZ) yk))
 have d1:PE X (.Call (.Name "int" q7) [.Call (.Name "isinstance" q8) [.Name n q9,.Name ny qa] [] qb] [] qc) _:=wt vn hT hmT bT (zD c3 yk)
 have d2:PE X (.Call (.Name "int" qe) [.Call (.Name "isinstance" qf) [.Name n qg,.Name nz qh] [] qi] [] qj) _:=wt vn hT hmT bT (zD c4 yk)
 have f1:=zbD (pos:=ql) op_add d1 (zbD (pos:=qk) op_mul (zbq (X:=X) (i:=2) (j:=j4) (pos:=qd)) d2)
 have l1:PE X (.List [.Constant (.str t0) j0 q2,.Constant (.str t1) j1 q3,.Constant (.str t2) j2 q4,.Constant (.str t3) j3 q5] q6) _:=zbJ (zD wd (zD wd (zD wd (zD wd yk))))
 have g1:=zeS (pos:=qm) ix_list l1 f1 (fun _ _=>rfl)
 have s1:=qU (pos:=pd) (zeO (pos:=pa) (gR c1) (zbs (zbt (pos:=p9) (gR c2)))).pt (xW (jo (pos:=pc) (wd (X:=X) (x:=te) (j:=k2) (pos:=pb)))) qT
 have s2:=gS (X:=X) (pos':=q1) (pos:=qn) hNd hj (.inl hx) g1 (hf:=.inr hx)
 refine ⟨_,xJ s1 (xW s2),?_⟩
 have sz:(ts.map V.ref).length<=sizeLine:=by
  rw[List.length_map]
  exact Nat.le_of_lt (zaL hz)
 refine ⟨.ref e,hv,zfC ⟨sz,fun p hp'=>⟨by rw[zo (zC hH hp')];exact hH,.inr ⟨p,ts.map V.ref,false,rfl,zp,fun us hu=>by rw[zaa hu];exact hany,false,rfl,?_⟩⟩⟩⟩
 have hH':upd H p (.tup (ts.map V.ref)) e=some (exO oe):=by rw[zo (zC hH hp')];exact hH
 refine ⟨.ref e,hv,hH',.inl ⟨.ty "ValueError",.type "ValueError",true,rfl,rfl,fun _ z=>z,hva,true,rfl,?_⟩⟩
 refine ⟨show 4<=sizeLine by decide,fun l hl=>?_⟩
 have hH2:upd (upd H p (.tup (ts.map V.ref))) l (.lst [V.str t0,.str t1,.str t2,.str t3]) e=some (exO oe):=by rw[zo (zC hH' hl)];exact hH'
 refine ⟨.ref e,hv,hH2,.inl ⟨.ref Y,.ref Y,b1,rfl,rfl,fun _ z=>z,h1,.inr ⟨b1,rfl,?_⟩⟩⟩
 refine ⟨.ref e,hv,hH2,.inl ⟨.ref Z,.ref Z,b2,rfl,rfl,fun _ z=>z,h2,.inr ⟨b2,rfl,?_⟩⟩⟩
 refine ⟨2,(if b2 then 1 else 0),rfl,rfl,?_,?_⟩
 .exact .inl ⟨by decide,by decide⟩
 refine ⟨(if b1 then 1 else 0),2 * (if b2 then 1 else 0),rfl,rfl,?_⟩
 exact ⟨l,_,_,v,rfl,rfl,SqL.of zp,txt,q p _ l hp' hl⟩
end L2
namespace L2
open PySem PySem.Spec PySem.Calls PyProof.Rows
theorem zdM {X:Cx}{msg v:Str}{i k:Nat}{b:Int}{p1 p3 p4 p5:Pos}(hi:X.N[i]?=some v)(hv:Vis X.env.scope v)(hd:(v == ("__debug__" : Str))=false)(hcd:(v == ("__classdict__" : Str))=false)(hb:b.natAbs.log2 < 1920)(hz1:(Str.empty++msg).length<=sizeLine)(hz2:(Str.empty++msg++(toString b:Str)).length<=sizeLine):
  PE X (.JoinedStr [.Constant (.str msg) k p1,.FormattedValue (.Name v p3) (-1) none p4] p5) (fun σ H Q=>σ[i]?=some (some (.int b))/\∀z,Q (.str z) H):=by
 intro pins s σ H Q I ⟨hσ,h⟩
 refine JoinedStr_many (joinParts_cons ?_)
 refine thn (wd (X:=X) (x:=msg) (j:=k) (pos:=p1) pins s σ H (fun w H'=>w=.str msg/\H'=H) I ⟨rfl,rfl⟩) fun u s1 ⟨x,H1,I1,r1,q1⟩=>?_
 obtain ⟨rfl,rfl⟩:=q1
 obtain ⟨t,rfl⟩:=r1
 refine ⟨hz1,joinParts_cons (FormattedValue_plain ?_)⟩
 refine thn (vZ (X:=X) hi hv hd hcd pins s1 σ H1 (fun w H'=>w=.int b/\H'=H1) I1 ⟨.int b,hσ,rfl,rfl⟩) fun u s2 ⟨x,H2,I2,r2,q2⟩=>?_
 obtain ⟨rfl,rfl⟩:=q2
 obtain ⟨t2,rfl⟩:=r2
 refine wpAny_formatField_int hb ?_
 refine ⟨hz2,joinParts_nil ?_ hz2⟩
 exact ⟨.str _,H2,(I2.tok _).tok _,⟨_,rfl⟩,h _⟩
end L2
namespace L2
open PySem PySem.Spec PyProof.Rows
noncomputable def xL (ns:List Int):Int:=ns.getD (argBest (fun i j=>decide (ns.getD i 0 > ns.getD j 0)) (ns.length - 1)) 0
noncomputable def xN (ns:List Int):Int:=ns.getD (argBest (fun i j=>decide (ns.getD i 0 < ns.getD j 0)) (ns.length - 1)) 0
theorem wO (bt:Nat->Nat->Bool):∀k,argBest bt k<=k
 | 0=>Nat.le_refl _
 | k+1=>by
  unfold argBest
  split
  .exact Nat.le_refl _
  .exact Nat.le_succ_of_le (wO bt k)
theorem kf (val:Nat->Int):∀k i,i<=k->val i<=val (argBest (fun i j=>decide (val i > val j)) k)
 | 0,i,h=>by
  obtain rfl:i=0:=by lia
  exact Int.le_refl _
 | k+1,i,h=>by
  have ih:=kf val k
  unfold argBest
  split
  .rename_i z
   have z':=of_decide_eq_true z
   by_cases e:i=k+1
   .rw[e];exact Int.le_refl _
   .have:=ih i (by lia)
    lia
  .rename_i z
   have z':¬ val (k+1) > val (argBest (fun i j=>decide (val i > val j)) k):=fun y=>z (decide_eq_true y)
   by_cases e:i=k+1
   .rw[e];lia
   .exact ih i (by lia)
theorem ki (val:Nat->Int):∀k i,i<=k->val (argBest (fun i j=>decide (val i < val j)) k)<=val i
 | 0,i,h=>by
  obtain rfl:i=0:=by lia
  exact Int.le_refl _
 | k+1,i,h=>by
  have ih:=ki val k
  unfold argBest
  split
  .rename_i z
   have z':=of_decide_eq_true z
   by_cases e:i=k+1
   .rw[e];exact Int.le_refl _
   .have:=ih i (by lia)
    lia
  .rename_i z
   have z':¬ val (k+1) < val (argBest (fun i j=>decide (val i < val j)) k):=fun y=>z (decide_eq_true y)
   by_cases e:i=k+1
   .rw[e];lia
   .exact ih i (by lia)
section
variable {X:Cx}
theorem gd (hc:X.calm=true):CallR X (.builtin "max") (fun xs H Q=>∃ (p:Addr) (ns:List Int),xs=[.ref p]/\SqL X.K H p (ns.map V.int)/\0 < ns.length/\Q (.int (xL ns)) H):=by
 intro pins s σ H xs us Q I r h
 refine cps fun zP zk=>?_
 obtain ⟨p,ns,rfl,hq,h0,q⟩:=h
 obtain ⟨u,rfl,rx⟩:=v6 r
 cases rx
 obtain ⟨its,r',pl,hz⟩:=I.list hq
 have hlen:=r'.length
 rw[List.length_map] at hlen
 obtain ⟨o,ho,_⟩:=id pl.isList
 refine zk ?_
 have hlt:=Heap.lt_size ho
 have e0:its.toArray.size=ns.length:=by simp;lia
 have val:∀ (i:Nat) (v:Value),its.toArray[i]?=some v->∃t,v=.int (ns.getD i 0) t:=fun i v hv=>by
  have hv':its[i]?=some v:=by simpa using hv
  obtain ⟨y,hy,ry⟩:=r'.at hv'
  rw[List.getElem?_map] at hy
  cases hb:ns[i]? with
  | none=>rw[hb] at hy;cases hy
  | some b =>
   rw[hb] at hy;cases hy
   obtain ⟨t,rfl⟩:=(ry:∃t,v=.int b t)
   exact ⟨t,by rw[List.getD_eq_getElem?_getD,hb];rfl⟩
 refine call_max_walk (wpAny_pyIter_list pl.isList ?_)
 refine ⟨s.heap.objs.size,_,_,_,_,_,_,rfl,Walks.list (A:=X.A.in1) (I.ok.hd hc) s.heap.objs.size p (Nat.ne_of_lt hlt) its.toArray,⟨⟨_,Heap.get?_push_size _ rfl,rfl,rfl⟩,pl.isList.at fun o e=>Heap.get?_push_of_some _ e⟩,?_,by rw[e0];exact h0,CmpOf.ints_gt (fun i=>ns.getD i 0) val,fun v h' tk hv hk=>?_⟩
 .intro b hb
  have h1:s.heap.objs.size < (s.heap.push { cls:=.type "list_iterator",data:=.fields #[.ref p,.int 0 0] }).objs.size:=Heap.lt_size (Heap.get?_push_size _ rfl)
  have:b=s.heap.objs.size\/b=p:=by simpa using hb
  rcases this with rfl | rfl
  .exact h1
  .exact Nat.lt_trans hlt h1
 .rw[e0] at hv
  obtain ⟨t,rfl⟩:=val _ v hv
  exact ⟨.int (xL ns),H,I.kept (t':=tk) fun b o e=>hk b o (fun hb=>by
   have:b=s.heap.objs.size:=by simpa using hb
   exact absurd (Heap.lt_size e) (by rw[this];exact Nat.lt_irrefl _)) (Heap.get?_push_of_some _ e),⟨t,rfl⟩,q⟩
theorem gf (hc:X.calm=true):CallR X (.builtin "min") (fun xs H Q=>∃ (p:Addr) (ns:List Int),xs=[.ref p]/\SqL X.K H p (ns.map V.int)/\0 < ns.length/\Q (.int (xN ns)) H):=by
 intro pins s σ H xs us Q I r h
 refine cps fun zP zk=>?_
 obtain ⟨p,ns,rfl,hq,h0,q⟩:=h
 obtain ⟨u,rfl,rx⟩:=v6 r
 cases rx
 obtain ⟨its,r',pl,hz⟩:=I.list hq
 have hlen:=r'.length
 rw[List.length_map] at hlen
 obtain ⟨o,ho,_⟩:=id pl.isList
 refine zk ?_
 have hlt:=Heap.lt_size ho
 have e0:its.toArray.size=ns.length:=by simp;lia
 have val:∀ (i:Nat) (v:Value),its.toArray[i]?=some v->∃t,v=.int (ns.getD i 0) t:=fun i v hv=>by
  have hv':its[i]?=some v:=by simpa using hv
  obtain ⟨y,hy,ry⟩:=r'.at hv'
  rw[List.getElem?_map] at hy
  cases hb:ns[i]? with
  | none=>rw[hb] at hy;cases hy
  | some b =>
   rw[hb] at hy;cases hy
   obtain ⟨t,rfl⟩:=(ry:∃t,v=.int b t)
   exact ⟨t,by rw[List.getD_eq_getElem?_getD,hb];rfl⟩
 refine call_min_walk (wpAny_pyIter_list pl.isList ?_)
 refine ⟨s.heap.objs.size,_,_,_,_,_,_,rfl,Walks.list (A:=X.A.in1) (I.ok.hd hc) s.heap.objs.size p (Nat.ne_of_lt hlt) its.toArray,⟨⟨_,Heap.get?_push_size _ rfl,rfl,rfl⟩,pl.isList.at fun o e=>Heap.get?_push_of_some _ e⟩,?_,by rw[e0];exact h0,CmpOf.ints_lt (fun i=>ns.getD i 0) val,fun v h' tk hv hk=>?_⟩
 .intro b hb
  have h1:s.heap.objs.size < (s.heap.push { cls:=.type "list_iterator",data:=.fields #[.ref p,.int 0 0] }).objs.size:=Heap.lt_size (Heap.get?_push_size _ rfl)
  have:b=s.heap.objs.size\/b=p:=by simpa using hb
  rcases this with rfl | rfl
  .exact h1
  .exact Nat.lt_trans hlt h1
 .rw[e0] at hv
  obtain ⟨t,rfl⟩:=val _ v hv
  exact ⟨.int (xN ns),H,I.kept (t':=tk) fun b o e=>hk b o (fun hb=>by
   have:b=s.heap.objs.size:=by simpa using hb
   exact absurd (Heap.lt_size e) (by rw[this];exact Nat.lt_irrefl _)) (Heap.get?_push_of_some _ e),⟨t,rfl⟩,q⟩
theorem zdN (a b c d:Int):decide (xN [a,b,c,d]=xL [a,b,c,d])=(decide (a=b) && (decide (a=c) && decide (a=d))):=by
 have g:=kf (fun i=>[a,b,c,d].getD i 0) 3
 have l:=ki (fun i=>[a,b,c,d].getD i 0) 3
 have g0:a<=xL [a,b,c,d]:=g 0 (by decide)
 have g1:b<=xL [a,b,c,d]:=g 1 (by decide)
 have g2:c<=xL [a,b,c,d]:=g 2 (by decide)
 have g3:d<=xL [a,b,c,d]:=g 3 (by decide)
 have l0:xN [a,b,c,d]<=a:=l 0 (by decide)
 have l1:xN [a,b,c,d]<=b:=l 1 (by decide)
 have l2:xN [a,b,c,d]<=c:=l 2 (by decide)
 have l3:xN [a,b,c,d]<=d:=l 3 (by decide)
 have mem:∀k:Nat,k<=3->[a,b,c,d].getD k 0=a\/[a,b,c,d].getD k 0=b\/[a,b,c,d].getD k 0=c\/[a,b,c,d].getD k 0=d:=fun k hk=>by
  match k,hk with
  | 0,_=>exact .inl rfl
  | 1,_=>exact .inr (.inl rfl)
  | 2,_=>exact .inr (.inr (.inl rfl))
  | 3,_=>exact .inr (.inr (.inr rfl))
 have mg:xL [a,b,c,d]=a\/xL [a,b,c,d]=b\/xL [a,b,c,d]=c\/xL [a,b,c,d]=d:=mem _ (wO _ 3)
 have ml:xN [a,b,c,d]=a\/xN [a,b,c,d]=b\/xN [a,b,c,d]=c\/xN [a,b,c,d]=d:=mem _ (wO _ 3)
 generalize xL [a,b,c,d]=x at *
 generalize xN [a,b,c,d]=y at *
 rw[Bool.eq_iff_iff]
 simp only[Bool.and_eq_true,decide_eq_true_eq]
 constructor
 .intro h
  refine ⟨?_,?_,?_⟩ <;> lia
 .rintro ⟨h1,h2,h3⟩
  lia
end
end L2
namespace Mini
inductive Wd where
 | non | bl (b:Bool) | int (i:Int) | str (s:List Nat) | tup (xs:List Wd) | rol (xs:List Wd) | ref (l:Nat)
deriving Inhabited
set_option genInjectivity false in
inductive Ob where
 | lst (xs:List Wd) | dct (kvs:List (Wd×Wd))
deriving Inhabited
noncomputable abbrev Me:=List Ob
noncomputable abbrev En:=List (Option Wd)
set_option genInjectivity false in
inductive Rz where
 | ok (w:Wd) (m:Me) | exc (c:Nat) (w:Wd) (m:Me) | no
deriving Inhabited
set_option genInjectivity false in
inductive Rs where
 | next (e:En) (m:Me) | ret (w:Wd) (m:Me) | brk (e:En) (m:Me) | cont (e:En) (m:Me)
 | exc (c:Nat) (w:Wd) (e:En) (m:Me) | no
deriving Inhabited
inductive Bo where | add | sub | mul | fdiv | mod | pow
deriving DecidableEq
inductive Co where | eq | ne | lt | isin
deriving DecidableEq
inductive Tg where | int | bool | list | tuple | str | dict
deriving DecidableEq
inductive Blf where | len | int | bool | list | sum | min2
deriving DecidableEq
inductive Mth where | append | pop | reverse | clear
deriving DecidableEq
inductive Kd where | zip | enum
deriving DecidableEq
set_option genInjectivity false in
inductive Ex where
 | var (i:Nat) | lit (w:Wd)
 | bin (op:Bo) (a b:Ex) | neg (a:Ex) | not (a:Ex) | and (a b:Ex) | or (a b:Ex)
 | cmp (op:Co) (a b:Ex) | chain (p q:Co) (a b c:Ex)
 | unit | pair (a b:Ex)
 | call (k:Nat) (args:Ex) | blt (b:Blf) (args:Ex) | isi (t:Tg) (a:Ex)
 | lst (args:Ex) | tup (args:Ex)
 | idx (a b:Ex)
 | meth (n:Mth) (o args:Ex)
 | rng (a b c:Ex)
 | comp (elt it cond:Ex)
 | lrng (a:Ex)
 | compP (k:Kd) (elt a b cond:Ex)
deriving Inhabited
set_option genInjectivity false in
inductive Sm where
 | skip | seq (a b:Sm)
 | asg (i:Nat) (e:Ex) | asgS (o i e:Ex)
 | ite (c:Ex) (a b:Sm) | forv (i:Nat) (it:Ex) (body:Sm) | fort (i j:Nat) (it:Ex) (body:Sm) | while (c:Ex) (body:Sm)
 | ret (e:Ex)  | expr (e:Ex)   | never
deriving Inhabited
noncomputable def lim:Nat:=100000
noncomputable def big:Int:=18446744073709551616
noncomputable def yC (i:Int):Bool:=decide (-big < i) && decide (i < big)
noncomputable def eqL (p:Wd->Wd->Option Bool):List Wd->List Wd->Option Bool
 | x::xs,y::ys=>match p x y with
  | some a=>(eqL p xs ys).map (a && ·)
  | none=>none
 | _,_=>some true
noncomputable def b2i (b:Bool):Int:=if b then 1 else 0
noncomputable def isLst (m:Me)(l:Nat):Bool:=match m[l]? with
 | some (.lst _)=>true
 | _=>false
noncomputable def zb5:Wd->Bool
 | .rol _=>false
 | _=>true
noncomputable def eqW (m:Me):Nat->Wd->Wd->Option Bool
 | 0,_,_=>none
 | k+1,x,y=>match x,y with
  | .tup a,.tup b=>(eqL (eqW m k) a b).map (· && decide (a.length=b.length))
  | .ref a,.ref b=>if a=b then (if isLst m a then some true else none) else match m[a]?,m[b]? with
   | some (.lst xs),some (.lst ys)=>if xs.length=ys.length then eqL (eqW m k) xs ys else some false
   | _,_=>none
  | .ref a,y=>if isLst m a && zb5 y then some false else none
  | x,.ref b=>if isLst m b && zb5 x then some false else none
  | .rol _,_=>none
  | _,.rol _=>none
  | .non,.non=>some true
  | .bl a,.bl b=>some (a == b)
  | .int a,.int b=>some (decide (a=b))
  | .bl a,.int b=>some (decide (b2i a=b))
  | .int a,.bl b=>some (decide (a=b2i b))
  | .str a,.str b=>some (decide (a=b))
  | _,_=>some false
noncomputable def yH:Nat:=12
noncomputable def inL (p:Wd->Wd->Option Bool)(x:Wd):List Wd->Option Bool
 | []=>some false
 | y::ys=>match p y x with
  | some a=>(inL p x ys).map (a || ·)
  | none=>none
noncomputable def ix (n:Nat)(i:Int):Option Nat :=
 if 0<=i then (if i < n then some i.toNat else none) else if -(n:Int)<=i then some (i+n).toNat else none
noncomputable def alloc (m:Me)(xs:List Wd):Rz:=if xs.length<=lim then .ok (.ref m.length) (m++[.lst xs]) else .no
noncomputable def zN (m:Me)(l:Nat):Option (List Wd):=match m[l]? with
 | some (.lst xs)=>some xs
 | _=>none
noncomputable def xb (m:Me):Wd->Option (List Wd)
 | .tup xs=>some xs
 | .rol xs=>some xs
 | .ref l=>zN m l
 | _=>none
noncomputable def bop (op:Bo)(x y:Wd)(m:Me):Rz:=match x,y with
 | .int i,.int j=>match op with
  | .add=>.ok (.int (i+j)) m
  | .sub=>.ok (.int (i - j)) m
  | .mul=>if yC i || yC j then .ok (.int (i * j)) m else .no
  | .fdiv=>if 0 < j/\j < 1073741824 then .ok (.int (i / j)) m else .no
  | .mod=>if 0 < j then .ok (.int (i % j)) m else .no
  | .pow=>if 0<=j/\j<=1000000/\yC i=true then .ok (.int (i ^ j.toNat)) m else .no
 | .ref a,.ref b=>match op,m[a]?,m[b]? with
  | .add,some (.lst xs),some (.lst ys)=>alloc m (xs++ys)
  | _,_,_=>.no
 | .ref a,.int k=>match op,m[a]? with
  | .mul,some (.lst xs)=>if -lim<=k/\k<=lim then alloc m (List.replicate k.toNat xs).flatten else .no
  | _,_=>.no
 | .tup xs,.tup ys=>match op with
  | .add=>if xs.length+ys.length<=lim/\xs.isEmpty=false then .ok (.tup (xs++ys)) m else .no
  | _=>.no
 | _,_=>.no
noncomputable def ofB (o:Option Bool)(m:Me):Rz:=match o with
 | some b=>.ok (.bl b) m
 | none=>.no
noncomputable def zab (r:Int->Int->Bool)(x y:Wd)(m:Me):Rz:=match x,y with
 | .int i,.int j=>.ok (.bl (r i j)) m
 | _,_=>.no
noncomputable def cop (op:Co)(x y:Wd)(m:Me):Rz:=match op with
 | .eq=>ofB (eqW m yH x y) m
 | .ne=>ofB ((eqW m yH x y).map (!·)) m
 | .isin=>match xb m y with
  | some ys=>ofB (inL (eqW m yH) x ys) m
  | none=>.no
 | .lt=>zab (fun i j=>decide (i < j)) x y m
noncomputable def isT (t:Tg)(x:Wd)(m:Me):Option Bool:=match t,x with
 | .int,.int _=>some true
 | .int,.bl _=>some true
 | .bool,.bl _=>some true
 | .str,.str _=>some true
 | .tuple,.tup _=>some true
 | .list,.rol _=>some true
 | t,.ref l=>match m[l]? with
  | some (.lst _)=>some (decide (t=.list))
  | some (.dct _)=>some (decide (t=.dict))
  | none=>none
 | _,_=>some false
noncomputable def sIx (n d:Nat):Option Int->Nat
 | none=>d
 | some v=>if v < 0 then (v+(n:Int)).toNat else min v.toNat n
noncomputable def vq:List Wd->Option Int
 | []=>some 0
 | .int i::r=>(vq r).map (i+·)
 | _=>none
noncomputable def gh (m:Me):Wd->Option (List Wd)
 | .rol xs=>some xs
 | .ref l=>zN m l
 | _=>none
noncomputable def wP (b:Blf)(ws:List Wd)(m:Me):Rz:=match b with
 | .len=>match ws with
  | [x]=>match xb m x with
   | some xs=>.ok (.int xs.length) m
   | none=>.no
  | _=>.no
 | .int=>match ws with
  | [.int i]=>.ok (.int i) m
  | [.bl b]=>.ok (.int (b2i b)) m
  | _=>.no
 | .list=>match ws with
  | [x]=>match xb m x with
   | some xs=>alloc m xs
   | none=>.no
  | _=>.no
 | .sum=>match ws with
  | [x]=>match (gh m x).bind vq with
   | some i=>.ok (.int i) m
   | none=>.no
  | _=>.no
 | .min2=>match ws with
  | [.int i,.int j]=>.ok (.int (if j < i then j else i)) m
  | _=>.no
 | _=>.no
noncomputable def mtR (n:Mth)(o:Wd)(ws:List Wd)(m:Me):Rz:=match o with
 | .ref l=>match m[l]? with
  | some (.lst xs)=>match n,ws with
   | .append,[y]=>if xs.length < lim then .ok .non (m.set l (.lst (xs++[y]))) else .no
   | .pop,[]=>match xs[xs.length - 1]? with
    | some y=>.ok y (m.set l (.lst xs.dropLast))
    | none=>.no
   | .reverse,[]=>.ok .non (m.set l (.lst xs.reverse))
   | _,_=>.no
  | _=>.no
 | _=>.no
noncomputable def jw (o i v:Wd)(m:Me):Rz:=match o,i with
 | .ref l,.int k=>match m[l]? with
  | some (.lst xs)=>match ix xs.length k with
   | some j=>.ok .non (m.set l (.lst (xs.set j v)))
   | none=>.no
  | _=>.no
 | _,_=>.no
noncomputable def w6 (x y:Wd)(m:Me):Rz:=match y with
 | .int i=>match xb m x with
  | some xs=>match (ix xs.length i).bind fun j=>xs[j]? with
   | some v=>.ok v m
   | none=>.no
  | none=>.no
 | _=>.no
noncomputable def qp (lo st:Int):Nat->List Wd
 | 0=>[]
 | n+1=>.int lo::qp (lo+st) st n
noncomputable def kT (a b c:Int):Nat:=if c=1 then (b - a).toNat else if c=-1 then (a - b).toNat else 0
noncomputable def zb6 (a b c:Wd)(m:Me):Rz:=match a,b,c with
 | .int a,.int b,.int c=>if -lim<=a/\a<=lim/\-lim<=b/\b<=lim/\(c=1\/c=-1) then .ok (.tup (qp a c (kT a b c))) m else .no
 | _,_,_=>.no
noncomputable def Rz.bind (r:Rz)(f:Wd->Me->Rz):Rz:=match r with
 | .ok w m=>f w m
 | r=>r
noncomputable def xc (c e:Wd->Me->Rz):List Wd->List Wd->Me->Rz
 | [],acc,m=>alloc m acc
 | x::xs,acc,m=>(c x m).bind fun b m1=>match b with
  | .bl true=>(e x m1).bind fun y m2=>if acc.length < lim then xc c e xs (acc++[y]) m2 else .no
  | .bl false=>xc c e xs acc m1
  | _=>.no
noncomputable def xf (c e:Wd->Me->Rz)(l:Nat):Nat->Nat->List Wd->Me->Rz
 | 0,_,_,_=>.no
 | k+1,i,acc,m=>match zN m l with
  | none=>.no
  | some xs=>match xs[i]? with
   | none=>alloc m acc
   | some x=>(c x m).bind fun b m1=>match b with
    | .bl true=>(e x m1).bind fun y m2=>if acc.length < lim then xf c e l k (i+1) (acc++[y]) m2 else .no
    | .bl false=>xf c e l k (i+1) acc m1
    | _=>.no
noncomputable def yo (k:Kd)(x y:Wd)(i:Nat)(m:Me):Option (Option (Wd×Wd)):=match k,x,y with
 | .zip,.ref la,.ref lb=>match zN m la,zN m lb with
  | some xs,some ys=>some (match xs[i]?,ys[i]? with
   | some x,some y=>some (x,y)
   | _,_=>none)
  | _,_=>none
 | .enum,.ref la,.int s=>match zN m la with
  | some xs=>some (xs[i]?.map fun x=>(.int (s+(i:Int)),x))
  | none=>none
 | _,_,_=>none
noncomputable def yP (c e:Wd->Wd->Me->Rz)(g:Nat->Me->Option (Option (Wd×Wd))):Nat->Nat->List Wd->Me->Rz
 | 0,_,_,_=>.no
 | k+1,i,acc,m=>match g i m with
  | none=>.no
  | some none=>alloc m acc
  | some (some (x,y))=>(c x y m).bind fun b m1=>match b with
   | .bl true=>(e x y m1).bind fun z m2=>if acc.length < lim then yP c e g k (i+1) (acc++[z]) m2 else .no
   | .bl false=>yP c e g k (i+1) acc m1
   | _=>.no
noncomputable def zv:Wd->List Wd
 | .tup xs=>xs
 | _=>[]
noncomputable def evE (cl:Nat->List Wd->Me->Rz):Ex->En->Me->Rz
 | .var i,env,m=>match env[i]? with
  | some (some w)=>.ok w m
  | _=>.no
 | .lit w,_,m=>.ok w m
 | .bin op a b,env,m=>(evE cl a env m).bind fun x m1=>(evE cl b env m1).bind fun y m2=>bop op x y m2
 | .neg a,env,m=>(evE cl a env m).bind fun x m1=>match x with
  | .int i=>.ok (.int (-i)) m1
  | _=>.no
 | .not a,env,m=>(evE cl a env m).bind fun x m1=>match x with
  | .bl b=>.ok (.bl (!b)) m1
  | _=>.no
 | .and a b,env,m=>(evE cl a env m).bind fun x m1=>match x with
  | .bl true=>evE cl b env m1
  | .bl false=>.ok (.bl false) m1
  | _=>.no
 | .or a b,env,m=>(evE cl a env m).bind fun x m1=>match x with
  | .bl false=>evE cl b env m1
  | .bl true=>.ok (.bl true) m1
  | _=>.no
 | .cmp op a b,env,m=>(evE cl a env m).bind fun x m1=>(evE cl b env m1).bind fun y m2=>cop op x y m2
 | .chain p q a b c,env,m=>(evE cl a env m).bind fun x m1=>(evE cl b env m1).bind fun y m2=>(cop p x y m2).bind fun z m3=>match z with
  | .bl true=>(evE cl c env m3).bind fun u m4=>cop q y u m4
  | .bl false=>.ok (.bl false) m3
  | _=>.no
 | .unit,_,m=>.ok (.tup []) m
 | .pair a b,env,m=>(evE cl a env m).bind fun x m1=>(evE cl b env m1).bind fun y m2=>.ok (.tup (x::zv y)) m2
 | .call k a,env,m=>(evE cl a env m).bind fun x m1=>cl k (zv x) m1
 | .blt b a,env,m=>(evE cl a env m).bind fun x m1=>wP b (zv x) m1
 | .isi t a,env,m=>(evE cl a env m).bind fun x m1=>ofB (isT t x m1) m1
 | .lst a,env,m=>(evE cl a env m).bind fun x m1=>alloc m1 (zv x)
 | .tup a,env,m=>(evE cl a env m).bind fun x m1=>if (zv x).length<=lim then .ok (.tup (zv x)) m1 else .no
 | .idx a b,env,m=>(evE cl a env m).bind fun x m1=>(evE cl b env m1).bind fun y m2=>w6 x y m2
 | .meth n o a,env,m=>(evE cl o env m).bind fun x m1=>(evE cl a env m1).bind fun y m2=>mtR n x (zv y) m2
 | .rng a b c,env,m=>(evE cl a env m).bind fun x m1=>(evE cl b env m1).bind fun y m2=>(evE cl c env m2).bind fun z m3=>zb6 x y z m3
 | .comp elt it cond,env,m=>(evE cl it env m).bind fun x m1=>match x with
  | .tup xs=>xc (fun x m=>evE cl cond (env++[some x]) m) (fun x m=>evE cl elt (env++[some x]) m) xs [] m1
  | .rol xs=>xc (fun x m=>evE cl cond (env++[some x]) m) (fun x m=>evE cl elt (env++[some x]) m) xs [] m1
  | .ref l=>xf (fun x m=>evE cl cond (env++[some x]) m) (fun x m=>evE cl elt (env++[some x]) m) l (lim+1) 0 [] m1
  | _=>.no
 | .compP k elt a b cond,env,m=>(evE cl a env m).bind fun x m1=>(evE cl b env m1).bind fun y m2 =>
  yP (fun u v m=>evE cl cond (env++[some u]++[some v]) m) (fun u v m=>evE cl elt (env++[some u]++[some v]) m) (yo k x y) (lim+1) 0 [] m2
 | .lrng a,env,m=>(evE cl a env m).bind fun x m1=>match x with
  | .int j=>if -lim<=j/\j<=lim then alloc m1 (qp 0 1 j.toNat) else .no
  | _=>.no
noncomputable def wK (body:Wd->En->Me->Rs):List Wd->En->Me->Rs
 | [],env,m=>.next env m
 | x::xs,env,m=>match body x env m with
  | .next e1 m1=>wK body xs e1 m1
  | .cont e1 m1=>wK body xs e1 m1
  | .brk e1 m1=>.next e1 m1
  | r=>r
noncomputable def x9 (body:Wd->En->Me->Rs)(l:Nat):Nat->Nat->En->Me->Rs
 | 0,_,_,_=>.no
 | k+1,i,env,m=>match zN m l with
  | none=>.no
  | some xs=>match xs[i]? with
   | none=>.next env m
   | some x=>match body x env m with
    | .next e1 m1=>x9 body l k (i+1) e1 m1
    | .cont e1 m1=>x9 body l k (i+1) e1 m1
    | .brk e1 m1=>.next e1 m1
    | r=>r
noncomputable def zeU (body:Wd->En->Me->Rs)(g:Nat->Me->Option (Option (Wd×Wd))):Nat->Nat->En->Me->Rs
 | 0,_,_,_=>.no
 | k+1,i,env,m=>match g i m with
  | none=>.no
  | some none=>.next env m
  | some (some (x,y))=>match body (.tup [x,y]) env m with
   | .next e1 m1=>zeU body g k (i+1) e1 m1
   | .cont e1 m1=>zeU body g k (i+1) e1 m1
   | .brk e1 m1=>.next e1 m1
   | r=>r
noncomputable def vK (c:En->Me->Rz)(body:En->Me->Rs):Nat->En->Me->Rs
 | 0,_,_=>.no
 | k+1,env,m=>match c env m with
  | .ok (.bl true) m1=>match body env m1 with
   | .next e1 m2=>vK c body k e1 m2
   | .cont e1 m2=>vK c body k e1 m2
   | .brk e1 m2=>.next e1 m2
   | r=>r
  | .ok (.bl false) m1=>.next env m1
  | .exc c w m1=>.exc c w env m1
  | _=>.no
noncomputable def Rz.bindS (r:Rz)(env:En)(f:Wd->Me->Rs):Rs:=match r with
 | .ok w m=>f w m
 | .exc c w m=>.exc c w env m
 | .no=>.no
noncomputable def zaT (body:Wd->En->Me->Rs)(w:Wd)(env:En)(m:Me):Rs:=match w with
 | .tup xs=>wK body xs env m
 | .rol xs=>wK body xs env m
 | .ref l=>x9 body l (lim+1) 0 env m
 | _=>.no
noncomputable def st2 (i j:Nat):Wd->En->Option En:=fun w env=>match w with
 | .tup [a,b]=>some ((env.set i (some a)).set j (some b))
 | _=>none
noncomputable def st3 (i j k:Nat)(w:Wd)(m:Me)(env:En):Option En:=match xb m w with
 | some [a,b,c]=>some (((env.set i (some a)).set j (some b)).set k (some c))
 | _=>none
noncomputable def y6 (st:Wd->En->Option En)(b:En->Me->Rs):Wd->En->Me->Rs:=fun w env m=>match st w env with
 | some env'=>b env' m
 | none=>.no
noncomputable def augI (op:Bo)(x y:Wd)(m:Me)(env:En)(f:Wd->Me->Rs):Rs:=match x,y with
 | .int _,.int _=>(bop op x y m).bindS env f
 | _,_=>.no
noncomputable def exS (cl:Nat->List Wd->Me->Rz):Sm->En->Me->Rs
 | .skip,env,m=>.next env m
 | .seq a b,env,m=>match exS cl a env m with
  | .next e1 m1=>exS cl b e1 m1
  | r=>r
 | .asg i e,env,m=>(evE cl e env m).bindS env fun w m1=>.next (env.set i (some w)) m1
 | .asgS o i e,env,m=>(evE cl e env m).bindS env fun w m1=>(evE cl o env m1).bindS env fun x m2=>(evE cl i env m2).bindS env fun y m3=>(jw x y w m3).bindS env fun _ m4=>.next env m4
 | .ite c a b,env,m=>(evE cl c env m).bindS env fun x m1=>match x with
  | .bl true=>exS cl a env m1
  | .bl false=>exS cl b env m1
  | _=>.no
 | .forv i it body,env,m=>(evE cl it env m).bindS env fun w m1=>zaT (fun x e m=>exS cl body (e.set i (some x)) m) w env m1
 | .fort i j it body,env,m=>(evE cl it env m).bindS env fun w m1=>zaT (y6 (st2 i j) (exS cl body)) w env m1
 | .while c body,env,m=>vK (evE cl c) (exS cl body) 1000000 env m
 | .ret e,env,m=>(evE cl e env m).bindS env fun w m1=>.ret w m1
 | .expr e,env,m=>(evE cl e env m).bindS env fun _ m1=>.next env m1
 | .never,_,_=>.no
set_option genInjectivity false in
structure Fn where
 ar:Nat
 sz:Nat
 body:Sm
deriving Inhabited
noncomputable def yw (fn:Fn)(ws:List Wd):En:=ws.map some++List.replicate (fn.sz - ws.length) none
noncomputable def xy (cl:Nat->List Wd->Me->Rz)(fn:Fn)(ws:List Wd)(m:Me):Rz :=
 if ws.length=fn.ar then match exS cl fn.body (yw fn ws) m with
  | .next _ m1=>.ok .non m1
  | .ret w m1=>.ok w m1
  | .exc c w _ m1=>.exc c w m1
  | _=>.no
 else .no
noncomputable def yD (T:List Fn):Nat->Nat->List Wd->Me->Rz
 | 0,_,_,_=>.no
 | d+1,k,ws,m=>match T[k]? with
  | some fn=>xy (yD T d) fn ws m
  | none=>.no
end Mini
namespace Mini
open PySem PySem.Spec PyProof.Rows L2
noncomputable abbrev St:=L2.St
noncomputable def KL (K:PySem.W.Frag)(a:Addr)(xs:List V):Prop :=
 ∃ (o:Obj) (its:Array Value) (n:Nat),K.lookup a=some o/\o.cls=.type "list" /\ o.dict=none/\o.data=.seq its n/\its.size<=sizeLine/\Vals xs its.toList
noncomputable def SqF (K:PySem.W.Frag)(H:Hp)(a:Addr)(vs:List V):Prop:=(∃o,H a=some (.frz o (.lst vs)))\/KL K a vs
theorem SqF.sq {K:PySem.W.Frag}{H:Hp}{a:Addr}{vs:List V}(h:SqF K H a vs):SqL K H a vs:=by
 rcases h with h | h
 .exact .inl (.inr h)
 .exact .inr h
mutual
noncomputable def Rep (K:PySem.W.Frag)(as:List Addr)(H:Hp):Wd->V->Prop
 | .non,v=>v=.non
 | .bl b,v=>v=.bl b
 | .int i,v=>v=.int i
 | .str s,v=>v=.str ⟨s.toArray⟩
 | .tup xs,v=>∃a vs,v=.ref a/\SqT K H a vs/\RepL K as H xs vs
 | .rol xs,v=>∃a vs,v=.ref a/\SqF K H a vs/\RepL K as H xs vs
 | .ref l,v=>∃a,as[l]?=some a/\v=.ref a
noncomputable def RepL (K:PySem.W.Frag)(as:List Addr)(H:Hp):List Wd->List V->Prop
 | [],vs=>vs=[]
 | x::xs,vs=>∃v r,vs=v::r/\Rep K as H x v/\RepL K as H xs r
end
noncomputable def RepO (K:PySem.W.Frag)(as:List Addr)(H:Hp):Ob->Addr->Prop
 | .lst ws,a=>∃vs,H a=some (.lst vs)/\RepL K as H ws vs
 | .dct _,_=>False
structure Sim (K:PySem.W.Frag)(as:List Addr)(m:Me)(H:Hp):Prop where
 len:as.length=m.length
 nd:as.Nodup
 obj:∀ (l:Nat) (a:Addr) (o:Ob),as[l]?=some a->m[l]?=some o->RepO K as H o a
structure Step (as:List Addr)(H:Hp)(as':List Addr)(H':Hp):Prop where
 pre:∃t,as'=as++t
 frame:∀b o,H b=some o->b∉as->H' b=some o
 fresh:∀a∈as',a∈as\/H a=none
section
variable {K:PySem.W.Frag}{as as' as2:List Addr}{H H' H2:Hp}{m m':Me}
theorem Step.refl:Step as H as H:=⟨⟨[],by simp⟩,fun _ _ h _=>h,fun _ h=>.inl h⟩
theorem Step.get (T:Step as H as' H'){l:Nat}{a:Addr}(h:as[l]?=some a):as'[l]?=some a:=by
 obtain ⟨t,rfl⟩:=T.pre
 rw[List.getElem?_append_left (List.getElem?_eq_some_iff.mp h).1]
 exact h
theorem Step.out (T:Step as H as' H'){b:Addr}{o:HO}(h:H b=some o)(hb:b∉as):b∉as':=fun z=>by
 rcases T.fresh b z with q | q
 .exact hb q
 .rw[h] at q;cases q
theorem Step.trans (T:Step as H as' H')(U:Step as' H' as2 H2):Step as H as2 H2:=by
 refine ⟨?_,fun b o h hb=>U.frame b o (T.frame b o h hb) (T.out h hb),fun a ha=>?_⟩
 .obtain ⟨t,rfl⟩:=T.pre
  obtain ⟨u,rfl⟩:=U.pre
  exact ⟨t++u,by simp⟩
 .rcases U.fresh a ha with q | q
  .exact T.fresh a q
  .by_cases z:a∈as
   .exact .inl z
   .refine .inr ?_
    cases e:H a with
    | none=>rfl
    | some o=>rw[T.frame a o e z] at q;cases q
theorem Sim.get (S:Sim K as m H){l:Nat}{o:Ob}(h:m[l]?=some o):∃a,as[l]?=some a/\RepO K as H o a:=by
 have hl:l < as.length:=by rw[S.len];exact (List.getElem?_eq_some_iff.mp h).1
 exact ⟨as[l],by simp[hl],S.obj l _ o (by simp[hl]) h⟩
theorem Sim.isLst (S:Sim K as m H){a:Addr}(h:a∈as):∃us,H a=some (.lst us):=by
 obtain ⟨l,hl,rfl⟩:=List.mem_iff_getElem.mp h
 have hm:l < m.length:=by rw[<- S.len];exact hl
 have q:=S.obj l as[l] m[l] (by simp[hl]) (by simp[hm])
 cases e:m[l] with
 | lst ws =>
  rw[e] at q
  obtain ⟨vs,h1,_⟩:=q
  exact ⟨vs,h1⟩
 | dct kvs=>rw[e] at q;exact q.elim
theorem zb7 (nt:∀a∈as,∃us,H a=some (.lst us))(T:Step as H as' H'){a:Addr}{vs:List V}(h:SqT K H a vs):SqT K H' a vs:=by
 rcases h with h | h
 .have hn:a∉as:=fun z=>by
   obtain ⟨us,e⟩:=nt a z
   rcases h with h | ⟨o,h⟩ <;> rw[e] at h <;> cases h
  rcases h with h | ⟨o,h⟩
  .exact .inl (.inl (T.frame _ _ h hn))
  .exact .inl (.inr ⟨o,T.frame _ _ h hn⟩)
 .exact .inr h
theorem zb8 (nt:∀a∈as,∃us,H a=some (.lst us))(T:Step as H as' H'){a:Addr}{vs:List V}(h:SqF K H a vs):SqF K H' a vs:=by
 rcases h with ⟨o,h⟩ | h
 .have hn:a∉as:=fun z=>by
   obtain ⟨us,e⟩:=nt a z
   rw[e] at h;cases h
  exact .inl ⟨o,T.frame _ _ h hn⟩
 .exact .inr h
structure Kp (K:PySem.W.Frag)(H H':Hp):Prop where
 t:∀a vs,SqT K H a vs->SqT K H' a vs
 f:∀a vs,SqF K H a vs->SqF K H' a vs
theorem Sim.kp (S:Sim K as m H)(T:Step as H as' H'):Kp K H H':=⟨fun _ _ h=>zb7 (fun _ z=>S.isLst z) T h,fun _ _ h=>zb8 (fun _ z=>S.isLst z) T h⟩
theorem Kp.upd {D:Addr}{ys:List V}{o:HO}(h:H D=some (.lst ys)):Kp K H (L2.upd H D o):=by
 refine ⟨fun a vs q=>?_,fun a vs q=>?_⟩
 .rcases q with (q | ⟨x,q⟩) | q
  .exact .inl (.inl (by rw[zo (by rintro rfl;rw[h] at q;cases q)];exact q))
  .exact .inl (.inr ⟨x,by rw[zo (by rintro rfl;rw[h] at q;cases q)];exact q⟩)
  .exact .inr q
 .rcases q with ⟨x,q⟩ | q
  .exact .inl ⟨x,by rw[zo (by rintro rfl;rw[h] at q;cases q)];exact q⟩
  .exact .inr q
mutual
theorem kj (k:Kp K H H')(g:∀ (l:Nat) (a:Addr),as[l]?=some a->as'[l]?=some a):∀ (w:Wd) (v:V),Rep K as H w v->Rep K as' H' w v
 | .non,_,h=>by rw[Rep] at h ⊢;exact h
 | .bl _,_,h=>by rw[Rep] at h ⊢;exact h
 | .int _,_,h=>by rw[Rep] at h ⊢;exact h
 | .str _,_,h=>by rw[Rep] at h ⊢;exact h
 | .tup xs,v,h=>by
  rw[Rep] at h ⊢
  obtain ⟨a,vs,e,q,r⟩:=h
  exact ⟨a,vs,e,k.t _ _ q,repL_mono k g xs vs r⟩
 | .rol xs,v,h=>by
  rw[Rep] at h ⊢
  obtain ⟨a,vs,e,q,r⟩:=h
  exact ⟨a,vs,e,k.f _ _ q,repL_mono k g xs vs r⟩
 | .ref l,v,h=>by
  rw[Rep] at h ⊢
  obtain ⟨a,q,e⟩:=h
  exact ⟨a,g _ _ q,e⟩
theorem repL_mono (k:Kp K H H')(g:∀ (l:Nat) (a:Addr),as[l]?=some a->as'[l]?=some a):∀ (ws:List Wd) (vs:List V),RepL K as H ws vs->RepL K as' H' ws vs
 | [],_,h=>by rw[RepL] at h ⊢;exact h
 | x::xs,vs,h=>by
  rw[RepL] at h ⊢
  refine cps fun zP zk=>?_
  obtain ⟨v,r,e,q,t⟩:=h
  refine zk ?_
  exact ⟨v,r,e,kj k g x v q,repL_mono k g xs r t⟩
end
theorem Rep.mono {w:Wd}{v:V}(h:Rep K as H w v)(S:Sim K as m H)(T:Step as H as' H'):Rep K as' H' w v:=kj (S.kp T) (fun _ _ e=>T.get e) w v h
theorem RepL.mono {ws:List Wd}{vs:List V}(h:RepL K as H ws vs)(S:Sim K as m H)(T:Step as H as' H'):RepL K as' H' ws vs:=repL_mono (S.kp T) (fun _ _ e=>T.get e) ws vs h
theorem RepL.kp {ws:List Wd}{vs:List V}(h:RepL K as H ws vs)(k:Kp K H H'):RepL K as H' ws vs:=repL_mono k (fun _ _ e=>e) ws vs h
theorem Rep.kp {w:Wd}{v:V}(h:Rep K as H w v)(k:Kp K H H'):Rep K as H' w v:=kj k (fun _ _ e=>e) w v h
theorem rep_non {v:V}:Rep K as H .non v↔v=.non:=by rw[Rep]
theorem rep_bl {b:Bool}{v:V}:Rep K as H (.bl b) v↔v=.bl b:=by rw[Rep]
theorem rep_int {i:Int}{v:V}:Rep K as H (.int i) v↔v=.int i:=by rw[Rep]
theorem rep_str {s:List Nat}{v:V}:Rep K as H (.str s) v↔v=.str ⟨s.toArray⟩:=by rw[Rep]
theorem rep_tup {xs:List Wd}{v:V}:Rep K as H (.tup xs) v↔∃a vs,v=.ref a/\SqT K H a vs/\RepL K as H xs vs:=by rw[Rep]
theorem rep_rol {xs:List Wd}{v:V}:Rep K as H (.rol xs) v↔∃a vs,v=.ref a/\SqF K H a vs/\RepL K as H xs vs:=by rw[Rep]
theorem rep_ref {l:Nat}{v:V}:Rep K as H (.ref l) v↔∃a,as[l]?=some a/\v=.ref a:=by rw[Rep]
theorem repL_nil {vs:List V}:RepL K as H [] vs↔vs=[]:=by rw[RepL]
theorem repL_cons {x:Wd}{xs:List Wd}{vs:List V}:RepL K as H (x::xs) vs↔∃v r,vs=v::r/\Rep K as H x v/\RepL K as H xs r:=by rw[RepL]
theorem RepL.length:∀ {xs:List Wd}{vs:List V},RepL K as H xs vs->xs.length=vs.length
 | [],vs,h=>by rw[repL_nil.mp h];rfl
 | x::xs,vs,h=>by
  obtain ⟨v,r,rfl,_,t⟩:=repL_cons.mp h
  simp[RepL.length t]
theorem RepL.get:∀ {xs:List Wd}{vs:List V}{i:Nat}{x:Wd},RepL K as H xs vs->xs[i]?=some x->∃v,vs[i]?=some v/\Rep K as H x v
 | [],_,_,_,_,e=>by simp at e
 | x::xs,vs,0,y,h,e=>by
  obtain ⟨v,r,rfl,q,t⟩:=repL_cons.mp h
  simp at e;subst e
  exact ⟨v,rfl,q⟩
 | x::xs,vs,i+1,y,h,e=>by
  obtain ⟨v,r,rfl,q,t⟩:=repL_cons.mp h
  obtain ⟨u,h1,h2⟩:=RepL.get (i:=i) (x:=y) t (by simpa using e)
  exact ⟨u,by simpa using h1,h2⟩
theorem RepL.back:∀ {xs:List Wd}{vs:List V}{i:Nat}{v:V},RepL K as H xs vs->vs[i]?=some v->∃x,xs[i]?=some x/\Rep K as H x v:=fun {xs vs i v} h e=>by
 have hi:i < xs.length:=by rw[h.length];exact (List.getElem?_eq_some_iff.mp e).1
 obtain ⟨u,h1,h2⟩:=h.get (i:=i) (x:=xs[i]) (by simp[hi])
 rw[e] at h1;cases h1
 exact ⟨xs[i],by simp[hi],h2⟩
theorem RepL.append:∀ {xs ys:List Wd}{vs us:List V},RepL K as H xs vs->RepL K as H ys us->RepL K as H (xs++ys) (vs++us)
 | [],ys,vs,us,h,h'=>by rw[repL_nil.mp h];exact h'
 | x::xs,ys,vs,us,h,h'=>by
  obtain ⟨v,r,rfl,q,t⟩:=repL_cons.mp h
  exact repL_cons.mpr ⟨v,r++us,rfl,q,t.append h'⟩
theorem RepL.one {x:Wd}{v:V}(h:Rep K as H x v):RepL K as H [x] [v]:=repL_cons.mpr ⟨v,[],rfl,h,repL_nil.mpr rfl⟩
theorem RepL.set:∀ {xs:List Wd}{vs:List V}{x:Wd}{v:V}(i:Nat),RepL K as H xs vs->Rep K as H x v->RepL K as H (xs.set i x) (vs.set i v)
 | [],vs,_,_,_,h,_=>by rw[repL_nil.mp h];exact repL_nil.mpr rfl
 | y::xs,vs,x,v,0,h,hx=>by
  obtain ⟨u,r,rfl,q,t⟩:=repL_cons.mp h
  exact repL_cons.mpr ⟨v,r,rfl,hx,t⟩
 | y::xs,vs,x,v,i+1,h,hx=>by
  obtain ⟨u,r,rfl,q,t⟩:=repL_cons.mp h
  exact repL_cons.mpr ⟨u,r.set i v,rfl,q,t.set i hx⟩
theorem RepL.take:∀ {xs:List Wd}{vs:List V}(n:Nat),RepL K as H xs vs->RepL K as H (xs.take n) (vs.take n)
 | _,_,0,_=>repL_nil.mpr rfl
 | [],vs,n+1,h=>by rw[repL_nil.mp h];exact repL_nil.mpr rfl
 | x::xs,vs,n+1,h=>by
  obtain ⟨v,r,rfl,q,t⟩:=repL_cons.mp h
  exact repL_cons.mpr ⟨v,r.take n,rfl,q,t.take n⟩
theorem RepL.reverse:∀ {xs:List Wd}{vs:List V},RepL K as H xs vs->RepL K as H xs.reverse vs.reverse
 | [],vs,h=>by rw[repL_nil.mp h];exact repL_nil.mpr rfl
 | x::xs,vs,h=>by
  obtain ⟨v,r,rfl,q,t⟩:=repL_cons.mp h
  rw[List.reverse_cons,List.reverse_cons]
  exact t.reverse.append (.one q)
theorem RepL.dropLast:∀ {xs:List Wd}{vs:List V},RepL K as H xs vs->RepL K as H xs.dropLast vs.dropLast:=fun {xs vs} h=>by
 rw[List.dropLast_eq_take,List.dropLast_eq_take,h.length]
 exact h.take _
theorem RepL.rep {xs:List Wd}{vs:List V}(h:RepL K as H xs vs):∀k:Nat,RepL K as H (List.replicate k xs).flatten (List.replicate k vs).flatten
 | 0=>repL_nil.mpr rfl
 | k+1=>by
  rw[List.replicate_succ,List.replicate_succ,List.flatten_cons,List.flatten_cons]
  exact h.append (RepL.rep h k)
structure EnvRep (K:PySem.W.Frag)(as:List Addr)(H:Hp)(env:En)(σ:St):Prop where
 len:env.length=σ.length
 get:∀ (i:Nat) (w:Wd),env[i]?=some (some w)->∃v,σ[i]?=some (some v)/\Rep K as H w v
theorem EnvRep.mono {env:En}{σ:St}(G:EnvRep K as H env σ)(S:Sim K as m H)(T:Step as H as' H'):EnvRep K as' H' env σ :=
 ⟨G.len,fun i w e=>let ⟨v,h1,h2⟩:=G.get i w e;⟨v,h1,h2.mono S T⟩⟩
theorem EnvRep.kp {env:En}{σ:St}(G:EnvRep K as H env σ)(k:Kp K H H'):EnvRep K as H' env σ :=
 ⟨G.len,fun i w e=>let ⟨v,h1,h2⟩:=G.get i w e;⟨v,h1,h2.kp k⟩⟩
theorem EnvRep.set {env:En}{σ:St}(G:EnvRep K as H env σ){w:Wd}{v:V}(h:Rep K as H w v)(i:Nat):EnvRep K as H (env.set i (some w)) (σ.set i (some v)):=by
 refine ⟨by simp[G.len],fun j x e=>?_⟩
 by_cases hj:j=i
 .subst hj
  have hl:j < env.length:=by
   have:=(List.getElem?_eq_some_iff.mp e).1
   simpa using this
  rw[List.getElem?_set_self hl] at e
  cases e
  exact ⟨v,List.getElem?_set_self (by rw[<- G.len];exact hl),h⟩
 .rw[List.getElem?_set_ne (Ne.symm hj)] at e
  obtain ⟨u,h1,h2⟩:=G.get j x e
  exact ⟨u,by rw[List.getElem?_set_ne (Ne.symm hj)];exact h1,h2⟩
theorem EnvRep.push {env:En}{σ:St}(G:EnvRep K as H env σ){w:Wd}{v:V}(h:Rep K as H w v):EnvRep K as H (env++[some w]) (σ++[some v]):=by
 refine ⟨by simp[G.len],fun j x e=>?_⟩
 by_cases hj:j < env.length
 .rw[List.getElem?_append_left hj] at e
  obtain ⟨u,h1,h2⟩:=G.get j x e
  exact ⟨u,by rw[List.getElem?_append_left (by rw[<- G.len];exact hj)];exact h1,h2⟩
 .rw[List.getElem?_append_right (by lia)] at e
  have hz:j - env.length=0:=by
   cases hq:j - env.length with
   | zero=>rfl
   | succ k=>rw[hq] at e;simp at e
  rw[hz] at e
  simp at e
  subst e
  refine ⟨v,?_,h⟩
  rw[List.getElem?_append_right (by rw[<- G.len];lia),<- G.len,hz]
  rfl
noncomputable def Post (K:PySem.W.Frag)(as:List Addr)(H:Hp)(Q:VK)(r:Rz):Prop:=match r with
 | .ok w m'=>∀as' H' v,Step as H as' H'->Sim K as' m' H'->Rep K as' H' w v->Q v H'
 | _=>False
theorem Post.step {Q:VK}{r:Rz}(h:Post K as H Q r)(T:Step as H as' H'):Post K as' H' Q r:=by
 cases r with
 | ok w m'=>exact fun as2 H2 v U S R=>h as2 H2 v (T.trans U) S R
 | exc c w m'=>exact h
 | no=>exact h
theorem Post.bind {Q Q1:VK}{r:Rz}{f:Wd->Me->Rz}(h:Post K as H Q (r.bind f))
  (k:∀w m' as' H' v,Step as H as' H'->Sim K as' m' H'->Rep K as' H' w v->Post K as' H' Q (f w m')->Q1 v H'):Post K as H Q1 r:=by
 cases r with
 | ok w m'=>exact fun as2 H2 v U S R=>k w m' as2 H2 v U S R (Post.step (r:=f w m') h U)
 | exc c w m'=>exact h
 | no=>exact h
theorem zib {Q Q1:VK}{r:Rz}{f:Wd->Me->Rz}(h:Post K as H Q (r.bind f))(T:Step as H as' H')
  (k:∀w m2 as2 H2 v,Step as' H' as2 H2->Sim K as2 m2 H2->Rep K as2 H2 w v->Post K as H Q (f w m2)->Q1 v H2):Post K as' H' Q1 r:=by
 cases r with
 | ok w m'=>exact fun as2 H2 v U S R=>k w m' as2 H2 v U S R h
 | exc c w m'=>exact h
 | no=>exact h
noncomputable def tOf (K:PySem.W.Frag)(g:En->Me->Rz):TE:=fun σ H Q=>∃as env m,Sim K as m H/\EnvRep K as H env σ/\Post K as H Q (g env m)
noncomputable def xz (K:PySem.W.Frag)(g:En->Me->Rz):TT:=fun σ H Q=>tOf K g σ H fun v H'=>∃b,v=.bl b/\Q b H'
theorem Post.ok {Q:VK}{w:Wd}{v:V}(h:Post K as H Q (.ok w m))(S:Sim K as m H)(R:Rep K as H w v):Q v H:=h as H v .refl S R
end
theorem PE.imp {X:Cx}{e:Expr}{t t':TE}(h:PE X e t)(k:∀σ H Q,t' σ H Q->t σ H Q):PE X e t':=fun pins s σ H Q I q=>h pins s σ H Q I (k σ H Q q)
theorem PT.imp {X:Cx}{e:Expr}{t t':TT}(h:PT X e t)(k:∀σ H Q,t' σ H Q->t σ H Q):PT X e t':=fun pins s σ H Q I q=>h pins s σ H Q I (k σ H Q q)
theorem PA.imp {X:Cx}{es:List Expr}{t t':TA}(h:PA X es t)(k:∀σ H Q,t' σ H Q->t σ H Q):PA X es t':=fun pos pins s σ H Q I q=>h pos pins s σ H Q I (k σ H Q q)
theorem PS.imp {X:Cx}{st:Stmt}{t t':TS}(h:PS X st t)(k:∀D σ H,t' D σ H->t D σ H):PS X st t':=fun pins s σ H D I q=>h pins s σ H D I (k D σ H q)
theorem PSs.imp {X:Cx}{st:List Stmt}{t t':TS}(h:PSs X st t)(k:∀D σ H,t' D σ H->t D σ H):PSs X st t':=fun pins s σ H D I q=>h pins s σ H D I (k D σ H q)
section
variable {K:PySem.W.Frag}{as:List Addr}{H H':Hp}{m:Me}{Q:VK}{a p:Addr}{l:Nat}{ws xs:List Wd}{vs us:List V}
theorem yY:lim<=sizeLine:=by rw[sizeLine_eq];decide
theorem Sim.new (S:Sim K as m H)(hp:H p=none):p∉as:=fun z=>by
 obtain ⟨us,e⟩:=S.isLst z
 rw[hp] at e;cases e
theorem Sim.alloc (S:Sim K as m H)(hp:H p=none)(R:RepL K as H ws vs):Step as H (as++[p]) (upd H p (.lst vs))/\Sim K (as++[p]) (m++[.lst ws]) (upd H p (.lst vs)):=by
 have hn:=S.new hp
 have T:Step as H (as++[p]) (upd H p (.lst vs)):=⟨⟨[p],rfl⟩,fun b o h _=>by rw[zo (zC h hp)];exact h,fun b hb=>by
  rcases List.mem_append.mp hb with z | z
  .exact .inl z
  .exact .inr (by rw[List.mem_singleton.mp z];exact hp)⟩
 refine ⟨T,⟨by simp[S.len],?_,fun l b o h1 h2=>?_⟩⟩
 .refine List.nodup_append.mpr ⟨S.nd,by simp,fun x hx y hy=>?_⟩
  rw[List.mem_singleton.mp hy]
  rintro rfl
  exact hn hx
 .by_cases hl:l < as.length
  .rw[List.getElem?_append_left hl] at h1
   rw[List.getElem?_append_left (by rw[<- S.len];exact hl)] at h2
   have q:=S.obj l b o h1 h2
   cases o with
   | lst ys =>
    obtain ⟨zs,e,r⟩:=q
    exact ⟨zs,by rw[zo (zC e hp)];exact e,r.mono S T⟩
   | dct kvs=>exact q.elim
  .rw[List.getElem?_append_right (by lia)] at h1
   rw[List.getElem?_append_right (by rw[<- S.len];lia)] at h2
   have hz:l - as.length=0:=by
    cases hq:l - as.length with
    | zero=>rfl
    | succ k=>rw[hq] at h1;simp at h1
   rw[hz] at h1
   rw[<- S.len,hz] at h2
   simp at h1 h2
   subst h1;subst h2
   exact ⟨vs,zp,R.mono S T⟩
theorem Sim.set (S:Sim K as m H)(ha:as[l]?=some a)(hm:m[l]?=some (.lst xs))(R:RepL K as H ws vs):Step as H as (upd H a (.lst vs))/\Sim K as (m.set l (.lst ws)) (upd H a (.lst vs)):=by
 have hin:a∈as:=List.mem_of_getElem? ha
 have T:Step as H as (upd H a (.lst vs)):=⟨⟨[],by simp⟩,fun b o h hb=>by
  rw[zo (by rintro rfl;exact hb hin)];exact h,fun b hb=>.inl hb⟩
 refine ⟨T,⟨by simp[S.len],S.nd,fun k b o h1 h2=>?_⟩⟩
 by_cases hk:k=l
 .subst hk
  rw[ha] at h1;cases h1
  rw[List.getElem?_set_self (List.getElem?_eq_some_iff.mp hm).1] at h2
  cases h2
  exact ⟨vs,zp,R.mono S T⟩
 .rw[List.getElem?_set_ne (Ne.symm hk)] at h2
  have q:=S.obj k b o h1 h2
  have hb:b≠a:=by
   rintro rfl
   obtain ⟨i1,e1⟩:=List.getElem?_eq_some_iff.mp h1
   obtain ⟨i2,e2⟩:=List.getElem?_eq_some_iff.mp ha
   exact hk ((List.getElem_inj S.nd).mp (e1.trans e2.symm))
  cases o with
  | lst ys =>
   obtain ⟨zs,e,r⟩:=q
   exact ⟨zs,by rw[zo hb];exact e,r.mono S T⟩
  | dct kvs=>exact q.elim
theorem Sim.keep (S:Sim K as m H)(T:Step as H as H')(hk:∀a∈as,∀o,H a=some o->H' a=some o):Sim K as m H':=by
 refine ⟨S.len,S.nd,fun l b o h1 h2=>?_⟩
 have q:=S.obj l b o h1 h2
 cases o with
 | lst ys =>
  obtain ⟨zs,e,r⟩:=q
  exact ⟨zs,hk b (List.mem_of_getElem? h1) _ e,r.mono S T⟩
 | dct kvs=>exact q.elim
theorem Sim.tup (S:Sim K as m H)(hp:H p=none)(R:RepL K as H ws vs):Step as H as (upd H p (.tup vs))/\Sim K as m (upd H p (.tup vs))/\Rep K as (upd H p (.tup vs)) (.tup ws) (.ref p):=by
 have T:Step as H as (upd H p (.tup vs)):=⟨⟨[],by simp⟩,fun b o h _=>by rw[zo (zC h hp)];exact h,fun b hb=>.inl hb⟩
 exact ⟨T,S.keep T fun b _ o e=>by rw[zo (zC e hp)];exact e,rep_tup.mpr ⟨p,vs,rfl,SqT.of zp,R.mono S T⟩⟩
theorem wf (S:Sim K as m H)(R:RepL K as H ws vs)(h:Post K as H Q (alloc m ws)):vs.length<=lim/\∀p,H p=none->Q (.ref p) (upd H p (.lst vs)):=by
 unfold Mini.alloc at h
 by_cases hl:ws.length<=lim
 .rw[if_pos hl] at h
  refine ⟨by rw[<- R.length];exact hl,fun p hp=>?_⟩
  obtain ⟨T,S'⟩:=S.alloc hp R
  refine h _ _ _ T S' (rep_ref.mpr ⟨p,?_,rfl⟩)
  rw[<- S.len,List.getElem?_append_right (Nat.le_refl _)]
  simp
 .rw[if_neg hl] at h;exact h.elim
theorem yq (S:Sim K as m H)(hm:m[l]?=some (.lst xs)):∃a vs,as[l]?=some a/\H a=some (.lst vs)/\RepL K as H xs vs:=by
 refine cps fun zP zk=>?_
 obtain ⟨a,ha,vs,e,r⟩:=S.get hm
 refine zk ?_
 exact ⟨a,vs,ha,e,r⟩
theorem yc {xs:List Wd}(h:zN m l=some xs):m[l]?=some (.lst xs):=by
 unfold zN at h
 cases e:m[l]? with
 | none=>rw[e] at h;cases h
 | some o=>cases o with
  | lst ys=>rw[e] at h;cases h;rfl
  | dct kvs=>rw[e] at h;cases h
theorem jx (S:Sim K as m H){w:Wd}{v:V}(R:Rep K as H w v)(h:xb m w=some xs):∃p vs,v=.ref p/\(SqL K H p vs\/SqT K H p vs)/\RepL K as H xs vs:=by
 cases w with
 | tup ys =>
  cases h
  obtain ⟨b,vs,rfl,q,r⟩:=rep_tup.mp R
  exact ⟨b,vs,rfl,.inr q,r⟩
 | rol ys =>
  cases h
  obtain ⟨b,vs,rfl,q,r⟩:=rep_rol.mp R
  exact ⟨b,vs,rfl,.inl q.sq,r⟩
 | ref l =>
  obtain ⟨b,hb,rfl⟩:=rep_ref.mp R
  obtain ⟨a,vs,ha,e,r⟩:=yq S (yc h)
  rw[hb] at ha;cases ha
  exact ⟨b,vs,rfl,.inl (SqL.of e),r⟩
 | non=>cases h
 | bl b=>cases h
 | int i=>cases h
 | str s=>cases h
noncomputable def opK:Bo->Operator
 | .add=>.Add | .sub=>.Sub | .mul=>.Mult | .fdiv=>.FloorDiv | .mod=>.Mod | .pow=>.Pow
noncomputable def rB (K:PySem.W.Frag):Bo->R2
 | .add=>fun x y H Q=>rI0 (fun i j=>.int (i+j)) x y H Q\/(zgN x y H Q\/zeR K x y H Q)
 | .sub=>rI0 fun i j=>.int (i - j)
 | .mul=>fun x y H Q=>rI CMul (fun i j=>.int (i * j)) x y H Q\/zgO x y H Q
 | .fdiv=>rI zgF fun i j=>.int (i / j)
 | .mod=>rI (fun _ j=>0 < j) fun i j=>.int (i % j)
 | .pow=>rI zgG fun i j=>.int (i ^ j.toNat)
theorem zgS {X:Cx}(op:Bo):OpR X (binaryOp (opK op)) (rB X.K op):=by
 cases op with
 | add=>exact op_add.or (op_cat.or zdB)
 | sub=>exact zfq
 | mul=>exact op_mul.or zfz
 | fdiv=>exact zdv
 | mod=>exact zfr
 | pow=>exact zfs
theorem vt {i:Int}(h:yC i=true):-(2 ^ 64) < i/\i < 2 ^ 64:=by
 unfold yC big at h
 rw[Bool.and_eq_true,decide_eq_true_iff,decide_eq_true_iff] at h
 lia
theorem ww {c:Prop}[Decidable c]{r:Rz}(h:Post K as H Q (if c then r else .no)):c/\Post K as H Q r:=by
 by_cases hc:c
 .rw[if_pos hc] at h;exact ⟨hc,h⟩
 .rw[if_neg hc] at h;exact h.elim
theorem zdO {a b:Nat}(h:Post K as H Q (bop .add (.ref a) (.ref b) m)):∃xs ys,m[a]?=some (.lst xs)/\m[b]?=some (.lst ys)/\Post K as H Q (alloc m (xs++ys)):=by
 unfold bop at h
 dsimp only at h
 generalize m[a]?=p at h ⊢
 generalize m[b]?=q at h ⊢
 cases p with
 | none=>exact h.elim
 | some o =>
  cases o with
  | dct kvs=>exact h.elim
  | lst xs =>
   cases q with
   | none=>exact h.elim
   | some o =>
    cases o with
    | dct kvs=>exact h.elim
    | lst ys=>exact ⟨xs,ys,rfl,rfl,h⟩
theorem zdP {a:Nat}{k:Int}(h:Post K as H Q (bop .mul (.ref a) (.int k) m)):∃xs,m[a]?=some (.lst xs)/\Post K as H Q (if -lim<=k/\k<=lim then alloc m (List.replicate k.toNat xs).flatten else .no):=by
 unfold bop at h
 dsimp only at h
 generalize m[a]?=p at h ⊢
 cases p with
 | none=>exact h.elim
 | some o =>
  cases o with
  | dct kvs=>exact h.elim
  | lst xs=>exact ⟨xs,rfl,h⟩
set_option tactic.hygienic true in
theorem zfE {op:Bo}{x y:Wd}{v u:V}(S:Sim K as m H)(Rx:Rep K as H x v)(Ry:Rep K as H y u)(h:Post K as H Q (bop op x y m)):rB K op v u H Q:=by
 cases x with
 | int i =>
  cases y with
  | int j =>
   obtain rfl:=rep_int.mp Rx
   obtain rfl:=rep_int.mp Ry
   cases op with
   | add=>exact .inl ⟨i,j,rfl,rfl,h.ok S (rep_int.mpr rfl)⟩
   | sub=>exact ⟨i,j,rfl,rfl,h.ok S (rep_int.mpr rfl)⟩
   | mul =>
    obtain ⟨hs,h⟩:=ww h
    refine .inl ⟨i,j,rfl,rfl,?_,h.ok S (rep_int.mpr rfl)⟩
    rcases Bool.or_eq_true_iff.mp hs with q | q
    .exact .inl (vt q)
    .exact .inr (vt q)
   | fdiv =>
    obtain ⟨hs,h⟩:=ww h
    exact ⟨i,j,rfl,rfl,hs,h.ok S (rep_int.mpr rfl)⟩
   | mod =>
    obtain ⟨hs,h⟩:=ww h
    exact ⟨i,j,rfl,rfl,hs,h.ok S (rep_int.mpr rfl)⟩
   | pow =>
    obtain ⟨⟨h1,h2,h3⟩,h⟩:=ww h
    have h4:=vt h3
    exact ⟨i,j,rfl,rfl,⟨h1,h2,by lia⟩,h.ok S (rep_int.mpr rfl)⟩
  | _=>exact h.elim
 | ref a =>
  obtain ⟨pa,ha,rfl⟩:=rep_ref.mp Rx
  cases y with
  | ref b =>
   obtain ⟨pb,hb,rfl⟩:=rep_ref.mp Ry
   cases op with
   | add =>
    refine cps fun zP zk=>?_
    obtain ⟨xs,ys,e1,e2,h⟩:=zdO h
    obtain ⟨pa',va,ha',ea,ra⟩:=yq S e1
    rw[ha] at ha';cases ha'
    obtain ⟨pb',vb,hb',eb,rb⟩:=yq S e2
    rw[hb] at hb';cases hb'
    obtain ⟨hl,q⟩:=wf S (ra.append rb) h
    refine zk ?_
    rw[List.length_append] at hl
    exact .inr (.inl ⟨pa,pb,va,vb,rfl,rfl,ea,eb,Nat.le_trans hl yY,q⟩)
   | _=>exact h.elim
  | int k =>
   obtain rfl:=rep_int.mp Ry
   cases op with
   | mul =>
    refine cps fun zP zj=>?_
    obtain ⟨xs,e1,h⟩:=zdP h
    obtain ⟨hk,h⟩:=ww h
    obtain ⟨pa',va,ha',ea,ra⟩:=yq S e1
    rw[ha] at ha';cases ha'
    obtain ⟨hl,q⟩:=wf S (ra.rep k.toNat) h
    refine zj ?_
    rw[qY] at hl
    have hlim:(lim:Int)=100000:=rfl
    exact .inr ⟨pa,k,va,rfl,rfl,ea,by lia,by lia,by rw[Nat.mul_comm];exact Nat.le_trans hl yY,q⟩
   | _=>exact h.elim
  | _=>exact h.elim
 | tup xs =>
  cases y with
  | tup ys =>
   cases op with
   | add =>
    refine cps fun zP zi=>?_
    obtain ⟨hc,h⟩:=ww h
    obtain ⟨pa,va,rfl,qa,ra⟩:=rep_tup.mp Rx
    obtain ⟨pb,vb,rfl,qb,rb⟩:=rep_tup.mp Ry
    refine zi ?_
    have la:=ra.length
    have lb:=rb.length
    refine .inr (.inr ⟨pa,pb,va,vb,rfl,rfl,qa,qb,?_,?_,fun e=>?_,fun e p hp=>?_⟩)
    .rintro rfl
     cases xs with
     | nil=>simp at hc
     | cons x xs=>simp at la
    .rw[<- la,<- lb];exact Nat.le_trans hc.1 yY
    .subst e
     obtain rfl:ys=[]:=by
      cases ys with
      | nil=>rfl
      | cons y ys=>simp at lb
     refine h.ok S (rep_tup.mpr ⟨pa,va,rfl,qa,?_⟩)
     rw[List.append_nil];exact ra
    .obtain ⟨T,S',R'⟩:=S.tup hp (ra.append rb)
     exact h _ _ _ T S' R'
   | _=>exact h.elim
  | _=>exact h.elim
 | _=>exact h.elim
end
end Mini
namespace Mini
open PySem PySem.Spec PyProof.Rows L2
open PySem.SeqAt
section
variable {X:Cx}{pins:List (Addr×Obj)}{σ:St}{s:Shared}{as:List Addr}{H:Hp}{m:Me}
theorem w9 {a:Addr}{xs ys:List V}(I:Inv X pins σ H s)(h1:SqT X.K H a xs)(h2:SqL X.K H a ys):False:=by
 obtain ⟨its,_,p,_⟩:=I.tuple h1
 obtain ⟨its',_,q,_⟩:=I.list h2
 exact ne_of_list_tuple q.isList (show s.heap.IsTuple a its.toArray from p) rfl
theorem je {a:Addr}{xs:List V}{u:HO}(I:Inv X pins σ H s)(h1:KL X.K a xs)(h2:H a=some u):False:=by
 obtain ⟨o,_,_,hk,_⟩:=h1
 have:=(I.bs a o (I.ok.mod.kin a o hk)).2
 rw[this] at h2;cases h2
mutual
theorem jy (I:Inv X pins σ H s)(S:Sim X.K as m H):∀ (w w':Wd) (v:V),Rep X.K as H w v->Rep X.K as H w' v->w=w'
 | .non,w',v,h,h'=>by
  obtain rfl:=rep_non.mp h
  cases w' with
  | non=>rfl
  | bl b=>cases rep_bl.mp h'
  | int i=>cases rep_int.mp h'
  | str x=>cases rep_str.mp h'
  | tup xs=>obtain ⟨_,_,e,_⟩:=rep_tup.mp h';cases e
  | rol xs=>obtain ⟨_,_,e,_⟩:=rep_rol.mp h';cases e
  | ref l=>obtain ⟨_,_,e⟩:=rep_ref.mp h';cases e
 | .bl c,w',v,h,h'=>by
  obtain rfl:=rep_bl.mp h
  cases w' with
  | non=>cases rep_non.mp h'
  | bl b=>cases rep_bl.mp h';rfl
  | int i=>cases rep_int.mp h'
  | str x=>cases rep_str.mp h'
  | tup xs=>obtain ⟨_,_,e,_⟩:=rep_tup.mp h';cases e
  | rol xs=>obtain ⟨_,_,e,_⟩:=rep_rol.mp h';cases e
  | ref l=>obtain ⟨_,_,e⟩:=rep_ref.mp h';cases e
 | .int c,w',v,h,h'=>by
  obtain rfl:=rep_int.mp h
  cases w' with
  | non=>cases rep_non.mp h'
  | bl b=>cases rep_bl.mp h'
  | int i=>cases rep_int.mp h';rfl
  | str x=>cases rep_str.mp h'
  | tup xs=>obtain ⟨_,_,e,_⟩:=rep_tup.mp h';cases e
  | rol xs=>obtain ⟨_,_,e,_⟩:=rep_rol.mp h';cases e
  | ref l=>obtain ⟨_,_,e⟩:=rep_ref.mp h';cases e
 | .str c,w',v,h,h'=>by
  obtain rfl:=rep_str.mp h
  cases w' with
  | non=>cases rep_non.mp h'
  | bl b=>cases rep_bl.mp h'
  | int i=>cases rep_int.mp h'
  | str x =>
   have e:=rep_str.mp h'
   injection e with e
   injection e with e
   have:c=x:=by simpa using congrArg Array.toList e
   rw[this]
  | tup xs=>obtain ⟨_,_,e,_⟩:=rep_tup.mp h';cases e
  | rol xs=>obtain ⟨_,_,e,_⟩:=rep_rol.mp h';cases e
  | ref l=>obtain ⟨_,_,e⟩:=rep_ref.mp h';cases e
 | .tup xs,w',v,h,h'=>by
  obtain ⟨a,vs,rfl,q,r⟩:=rep_tup.mp h
  cases w' with
  | non=>cases rep_non.mp h'
  | bl b=>cases rep_bl.mp h'
  | int i=>cases rep_int.mp h'
  | str x=>cases rep_str.mp h'
  | tup ys =>
   obtain ⟨b,us,e,q',r'⟩:=rep_tup.mp h'
   cases e
   obtain rfl:=I.tuple_inj q q'
   rw[repL_inj I S xs ys vs r r']
  | rol ys =>
   obtain ⟨b,us,e,q',r'⟩:=rep_rol.mp h'
   cases e
   exact (w9 I q q'.sq).elim
  | ref l =>
   obtain ⟨b,hb,e⟩:=rep_ref.mp h'
   cases e
   obtain ⟨us,e2⟩:=S.isLst (List.mem_of_getElem? hb)
   exact (w9 I q (SqL.of e2)).elim
 | .rol xs,w',v,h,h'=>by
  obtain ⟨a,vs,rfl,q,r⟩:=rep_rol.mp h
  cases w' with
  | non=>cases rep_non.mp h'
  | bl b=>cases rep_bl.mp h'
  | int i=>cases rep_int.mp h'
  | str x=>cases rep_str.mp h'
  | tup ys =>
   obtain ⟨b,us,e,q',r'⟩:=rep_tup.mp h'
   cases e
   exact (w9 I q' q.sq).elim
  | rol ys =>
   obtain ⟨b,us,e,q',r'⟩:=rep_rol.mp h'
   cases e
   obtain rfl:=I.list_inj q.sq q'.sq
   rw[repL_inj I S xs ys vs r r']
  | ref l =>
   obtain ⟨b,hb,e⟩:=rep_ref.mp h'
   cases e
   obtain ⟨us,e2⟩:=S.isLst (List.mem_of_getElem? hb)
   rcases q with ⟨o,q⟩ | q
   .rw[e2] at q;cases q
   .exact (je I q e2).elim
 | .ref l,w',v,h,h'=>by
  obtain ⟨a,ha,rfl⟩:=rep_ref.mp h
  obtain ⟨us,e2⟩:=S.isLst (List.mem_of_getElem? ha)
  cases w' with
  | non=>cases rep_non.mp h'
  | bl b=>cases rep_bl.mp h'
  | int i=>cases rep_int.mp h'
  | str x=>cases rep_str.mp h'
  | tup ys =>
   obtain ⟨b,us,e,q',r'⟩:=rep_tup.mp h'
   cases e
   exact (w9 I q' (SqL.of e2)).elim
  | rol ys =>
   obtain ⟨b,us,e,q',r'⟩:=rep_rol.mp h'
   cases e
   rcases q' with ⟨o,q'⟩ | q'
   .rw[e2] at q';cases q'
   .exact (je I q' e2).elim
  | ref l' =>
   refine cps fun zP zk=>?_
   obtain ⟨b,hb,e⟩:=rep_ref.mp h'
   cases e
   obtain ⟨i1,e1⟩:=List.getElem?_eq_some_iff.mp ha
   obtain ⟨i2,e2⟩:=List.getElem?_eq_some_iff.mp hb
   refine zk ?_
   rw[(List.getElem_inj S.nd).mp (e1.trans e2.symm)]
theorem repL_inj (I:Inv X pins σ H s)(S:Sim X.K as m H):∀ (xs ys:List Wd) (vs:List V),RepL X.K as H xs vs->RepL X.K as H ys vs->xs=ys
 | [],ys,vs,h,h'=>by
  obtain rfl:=repL_nil.mp h
  cases ys with
  | nil=>rfl
  | cons y ys=>obtain ⟨_,_,e,_⟩:=repL_cons.mp h';cases e
 | x::xs,ys,vs,h,h'=>by
  obtain ⟨v,r,rfl,q,t⟩:=repL_cons.mp h
  cases ys with
  | nil=>cases repL_nil.mp h'
  | cons y ys =>
   obtain ⟨v',r',e,q',t'⟩:=repL_cons.mp h'
   cases e
   rw[jy I S x y v q q',repL_inj I S xs ys r t t']
end
theorem jz {p:Wd->Wd->Option Bool}:∀ {xs ys:List Wd}{r:Bool},eqL p xs ys=some r ->
  ∃f:Nat->Bool,(∀j x y,xs[j]?=some x->ys[j]?=some y->p x y=some (f j))/\r=(List.range (min xs.length ys.length)).all f
 | [],ys,r,h=>by
  unfold eqL at h
  cases h
  exact ⟨fun _=>true,fun j x y e=>by simp at e,by simp⟩
 | _::_,[],r,h=>by
  unfold eqL at h
  cases h
  exact ⟨fun _=>true,fun j x y _ e=>by simp at e,by simp⟩
 | x::xs,y::ys,r,h=>by
  unfold eqL at h
  cases hp:p x y with
  | none=>rw[hp] at h;cases h
  | some b =>
   rw[hp] at h
   simp only[] at h
   cases hr:eqL p xs ys with
   | none=>rw[hr] at h;cases h
   | some r' =>
    rw[hr] at h
    cases h
    obtain ⟨f,hf,e⟩:=jz (xs:=xs) (ys:=ys) hr
    refine ⟨fun j=>match j with | 0=>b | j+1=>f j,fun j x' y' e1 e2=>?_,?_⟩
    .cases j with
     | zero=>simp at e1 e2;subst e1;subst e2;exact hp
     | succ j=>exact hf j x' y' (by simpa using e1) (by simpa using e2)
    .rw[List.length_cons,List.length_cons,Nat.succ_min_succ,List.range_succ_eq_map,List.all_cons,List.all_map,e]
     rfl
theorem gi:∀ (k:Nat) (w:Wd) (r:Bool),eqW m k w w=some r->r=true
 | 0,w,r,h=>by cases h
 | k+1,w,r,h=>by
  cases w with
  | non=>cases h;rfl
  | bl b=>cases h;simp
  | int i=>cases h;simp
  | str x=>cases h;simp
  | tup xs =>
   replace h:(eqL (eqW m k) xs xs).map (· && decide (xs.length=xs.length))=some r:=h
   cases hr:eqL (eqW m k) xs xs with
   | none=>rw[hr] at h;cases h
   | some r' =>
    rw[hr] at h
    simp only[Option.map_some,decide_true,Bool.and_true] at h
    cases h
    obtain ⟨f,hf,rfl⟩:=jz hr
    rw[List.all_eq_true]
    intro j hj
    have hj':j < xs.length:=by simpa using hj
    exact gi k xs[j] (f j) (hf j xs[j] xs[j] (by simp[hj']) (by simp[hj']))
  | rol xs=>cases h
  | ref l =>
   replace h:(if l=l then (if isLst m l then some true else none) else match m[l]?,m[l]? with
    | some (.lst xs),some (.lst ys)=>if xs.length=ys.length then eqL (eqW m k) xs ys else some false
    | _,_=>none)=some r:=h
   simp only[if_true] at h
   split at h
   .cases h;rfl
   .cases h
structure Eqs (A:Around)(s:Shared)(u u':Value)(r:Bool):Prop where
 it:EqAt A s u u' r
 eq:RcAt A s u u' r
 ne:RcNeAt A s u u' (!r)
theorem isLst_of (S:Sim X.K as m H)(I:Inv X pins σ H s){l:Nat}{v:V}{u:Value}(h:isLst m l=true)(R:Rep X.K as H (.ref l) v)(ru:RelV v u):∃b its,u=.ref b/\s.heap.IsList b its:=by
 unfold isLst at h
 cases e:m[l]? with
 | none=>rw[e] at h;cases h
 | some o =>
  cases o with
  | dct kvs=>rw[e] at h;cases h
  | lst xs =>
   refine cps fun zP zk=>?_
   obtain ⟨b,hb,rfl⟩:=rep_ref.mp R
   obtain ⟨a,vs,ha,ea,ra⟩:=yq S e
   refine zk ?_
   rw[hb] at ha;cases ha
   obtain rfl:u=.ref b:=ru
   refine cps fun zP zj=>?_
   obtain ⟨its,_,p,_⟩:=I.list (SqL.of ea)
   refine zj ?_
   exact ⟨b,_,rfl,p.isList⟩
theorem wQ (I:Inv X pins σ H s){xs:List Wd}{v:V}{u:Value}(R:Rep X.K as H (.tup xs) v)(ru:RelV v u):∃b vs its,v=.ref b/\u=.ref b/\RepL X.K as H xs vs/\Vals vs its/\s.heap.IsTuple b its.toArray:=by
 obtain ⟨b,vs,rfl,q,r⟩:=rep_tup.mp R
 obtain rfl:u=.ref b:=ru
 obtain ⟨its,rv,p,_⟩:=I.tuple q
 exact ⟨b,vs,its,rfl,rfl,r,rv,p⟩
set_option tactic.hygienic true in
theorem zac (I:Inv X pins σ H s)(S:Sim X.K as m H):∀ (k:Nat) (A:Around) (w w':Wd) (v v':V) (u u':Value) (r:Bool),A.units+k < cLine->eqW m k w w'=some r ->
  Rep X.K as H w v->Rep X.K as H w' v'->RelV v u->RelV v' u'->Eqs A s u u' r
 | 0,_,_,_,_,_,_,_,_,_,h,_,_,_,_=>by cases h
 | k+1,A,w,w',v,v',u,u',r,hu,h,R,R',ru,ru'=>by
  have hu0:A.units < cLine:=by lia
  have hu1:A.in1.units+k < cLine:=by show A.units+1+k < cLine;lia
  -- items,pair by pair
  have pairs:∀ {xs ys:List Wd}{vs us:List V}{its its':List Value}{r:Bool},RepL X.K as H xs vs->RepL X.K as H ys us->Vals vs its->Vals us its'->eqL (eqW m k) xs ys=some r ->
    ∃f:Nat->Bool,(∀j (h1:j < its.toArray.size) (h2:j < its'.toArray.size),EqAt A.in1 s its.toArray[j] its'.toArray[j] (f j))/\r=(List.range (min its.toArray.size its'.toArray.size)).all f/\its.toArray.size=xs.length/\its'.toArray.size=ys.length:=by
   intro xs ys vs us its its' r r1 r2 rv rv' he
   obtain ⟨f,hf,e⟩:=jz he
   have l1:=r1.length
   have l2:=r2.length
   have l3:=rv.length
   have l4:=rv'.length
   have s1:its.toArray.size=xs.length:=by simp;lia
   have s2:its'.toArray.size=ys.length:=by simp;lia
   refine ⟨f,fun j h1 h2=>?_,by rw[e,s1,s2],s1,s2⟩
   have hj:j < xs.length:=by lia
   have hj2:j < ys.length:=by lia
   refine cps fun zP zk=>?_
   obtain ⟨v1,e1,q1⟩:=r1.get (i:=j) (x:=xs[j]) (by simp[hj])
   obtain ⟨v2,e2,q2⟩:=r2.get (i:=j) (x:=ys[j]) (by simp[hj2])
   obtain ⟨u1,e3,q3⟩:=rv.get e1
   obtain ⟨u2,e4,q4⟩:=rv'.get e2
   have z:=zac I S k A.in1 xs[j] ys[j] v1 v2 u1 u2 (f j) hu1 (hf j _ _ (by simp[hj]) (by simp[hj2])) q1 q2 q3 q4
   obtain ⟨_,e5⟩:=List.getElem?_eq_some_iff.mp e3
   obtain ⟨_,e6⟩:=List.getElem?_eq_some_iff.mp e4
   refine zk ?_
   have g1:its.toArray[j]=u1:=by simpa using e5
   have g2:its'.toArray[j]=u2:=by simpa using e6
   rw[g1,g2]
   exact z.it
  cases w with
  | tup xs =>
   obtain ⟨b,vs,its,rfl,rfl,r1,rv,p⟩:=wQ I R ru
   cases w' with
   | tup ys =>
    obtain ⟨b',vs',its',rfl,rfl,r1',rv',p'⟩:=wQ I R' ru'
    have rc:RcAt A s (.ref b) (.ref b') r/\RcNeAt A s (.ref b) (.ref b') (!r):=by
     replace h:(eqL (eqW m k) xs ys).map (· && decide (xs.length=ys.length))=some r:=h
     cases hr:eqL (eqW m k) xs ys with
     | none=>rw[hr] at h;cases h
     | some r' =>
      rw[hr] at h
      simp only[Option.map_some] at h
      cases h
      obtain ⟨f,hf,e,z1,z2⟩:=pairs r1 r1' rv rv' hr
      have e2:((List.range (min its.toArray.size its'.toArray.size)).all f && its.toArray.size == its'.toArray.size)=(r' && decide (xs.length=ys.length)):=by
       rw[e,z1,z2]
       congr 1
      exact ⟨e2▸RcAt.tuples p p' hu0 hf,e2▸RcNeAt.tuples p p' hu0 hf⟩
    refine ⟨?_,rc.1,rc.2⟩
    by_cases hb:b=b'
    .subst hb
     have e:=jy I S _ _ _ R R'
     rw[<- e] at h
     obtain rfl:=gi _ _ _ h
     exact EqAt.same _
    .exact EqAt.of_refs hb rc.1
   | ref l =>
    replace h:(if isLst m l && true then some false else none)=some r:=h
    split at h
    .rename_i hl
     cases h
     obtain ⟨b',its',rfl,q⟩:=isLst_of S I (Bool.and_eq_true_iff.mp hl).1 R' ru'
     exact ⟨EqAt.tuple_list p q hu0,RcAt.tuple_list p q hu0,RcNeAt.tuple_list p q hu0⟩
    .cases h
   | rol ys=>cases h
   | non =>
    cases h
    obtain rfl:=rep_non.mp R'
    obtain rfl:u'=.none:=ru'
    exact ⟨EqAt.tuple_none p hu0,RcAt.tuple_none p hu0,RcNeAt.tuple_none p hu0⟩
   | bl c =>
    cases h
    obtain rfl:=rep_bl.mp R'
    obtain rfl:u'=.bool c:=ru'
    exact ⟨EqAt.tuple_bool c p hu0,RcAt.tuple_bool c p hu0,RcNeAt.tuple_bool c p hu0⟩
   | int i =>
    cases h
    obtain rfl:=rep_int.mp R'
    obtain ⟨t,rfl⟩:=ru'
    exact ⟨EqAt.tuple_int i t p hu0,RcAt.tuple_int i t p hu0,RcNeAt.tuple_int i t p hu0⟩
   | str x =>
    cases h
    obtain rfl:=rep_str.mp R'
    obtain ⟨t,rfl⟩:=ru'
    exact ⟨EqAt.tuple_str _ t p hu0,RcAt.tuple_str _ t p hu0,RcNeAt.tuple_str _ t p hu0⟩
  | ref l =>
   cases w' with
   | ref l' =>
    obtain ⟨b,hb,rfl⟩:=rep_ref.mp R
    obtain ⟨b',hb',rfl⟩:=rep_ref.mp R'
    obtain rfl:u=.ref b:=ru
    obtain rfl:u'=.ref b':=ru'
    replace h:(if l=l' then (if isLst m l then some true else none) else match m[l]?,m[l']? with
     | some (.lst xs),some (.lst ys)=>if xs.length=ys.length then eqL (eqW m k) xs ys else some false
     | _,_=>none)=some r:=h
    by_cases hll:l=l'
    .subst hll
     rw[hb] at hb';cases hb'
     rw[if_pos rfl] at h
     split at h
     .rename_i hil
      cases h
      obtain ⟨c,its,ec,q⟩:=isLst_of S I hil R (u:=.ref b) rfl
      cases ec
      have al:(List.range its.size).all (fun _=>true)=true:=by simp
      have e1:=RcAt.lists (A:=A) (e:=fun _=>true) q q rfl hu0 (fun j h1 h2=>EqAt.same _)
      have e2:=RcNeAt.lists (A:=A) (e:=fun _=>true) q q rfl hu0 (fun j h1 h2=>EqAt.same _)
      rw[al] at e1 e2
      exact ⟨EqAt.same _,e1,e2⟩
     .cases h
    .rw[if_neg hll] at h
     have hbb:b≠b':=by
      rintro rfl
      obtain ⟨i1,e1⟩:=List.getElem?_eq_some_iff.mp hb
      obtain ⟨i2,e2⟩:=List.getElem?_eq_some_iff.mp hb'
      exact hll ((List.getElem_inj S.nd).mp (e1.trans e2.symm))
     split at h
     .rename_i xs ys m1 m2
      refine cps fun zP zj=>?_
      obtain ⟨a1,vs,h1,g1,r1⟩:=yq S m1
      rw[hb] at h1;cases h1
      obtain ⟨a2,us,h2,g2,r2⟩:=yq S m2
      rw[hb'] at h2;cases h2
      obtain ⟨its,rv,p,_⟩:=I.list (SqL.of g1)
      obtain ⟨its',rv',p',_⟩:=I.list (SqL.of g2)
      refine zj ?_
      split at h
      .rename_i hl
       obtain ⟨f,hf,e,z1,z2⟩:=pairs r1 r2 rv rv' h
       have hsz:its.toArray.size=its'.toArray.size:=by rw[z1,z2,hl]
       rw[<- hsz,Nat.min_self] at e
       have e1:=RcAt.lists p.isList p'.isList hsz hu0 hf
       have e2:=RcNeAt.lists p.isList p'.isList hsz hu0 hf
       rw[<- e] at e1 e2
       exact ⟨EqAt.of_refs hbb e1,e1,e2⟩
      .rename_i hl
       cases h
       have l1:=r1.length
       have l2:=r2.length
       have l3:=rv.length
       have l4:=rv'.length
       have hsz:(its.toArray.size != its'.toArray.size)=true:=by
        simp
        lia
       have e1:=RcAt.lists_lengths (A:=A) p.isList p'.isList hsz hu0
       exact ⟨EqAt.of_refs hbb e1,e1,RcNeAt.lists_lengths p.isList p'.isList hsz hu0⟩
     .cases h
   | tup ys =>
    replace h:(if isLst m l && true then some false else none)=some r:=h
    split at h
    .rename_i hl
     cases h
     refine cps fun zP zi=>?_
     obtain ⟨b,its,rfl,q⟩:=isLst_of S I (Bool.and_eq_true_iff.mp hl).1 R ru
     obtain ⟨b',vs',its',rfl,rfl,r1',rv',p'⟩:=wQ I R' ru'
     refine zi ?_
     exact ⟨EqAt.list_tuple q p' hu0,RcAt.list_tuple q p' hu0,RcNeAt.list_tuple q p' hu0⟩
    .cases h
   | rol ys =>
    replace h:(if isLst m l && false then some false else none)=some r:=h
    simp only[Bool.and_false,Bool.false_eq_true,if_false] at h
    cases h
   | non =>
    replace h:(if isLst m l && true then some false else none)=some r:=h
    split at h
    .rename_i hl
     cases h
     obtain ⟨b,its,rfl,q⟩:=isLst_of S I (Bool.and_eq_true_iff.mp hl).1 R ru
     obtain rfl:=rep_non.mp R'
     obtain rfl:u'=.none:=ru'
     exact ⟨EqAt.list_none q hu0,RcAt.list_none q hu0,RcNeAt.list_none q hu0⟩
    .cases h
   | bl c =>
    replace h:(if isLst m l && true then some false else none)=some r:=h
    split at h
    .rename_i hl
     cases h
     obtain ⟨b,its,rfl,q⟩:=isLst_of S I (Bool.and_eq_true_iff.mp hl).1 R ru
     obtain rfl:=rep_bl.mp R'
     obtain rfl:u'=.bool c:=ru'
     exact ⟨EqAt.list_bool c q hu0,RcAt.list_bool c q hu0,RcNeAt.list_bool c q hu0⟩
    .cases h
   | int i =>
    replace h:(if isLst m l && true then some false else none)=some r:=h
    split at h
    .rename_i hl
     cases h
     obtain ⟨b,its,rfl,q⟩:=isLst_of S I (Bool.and_eq_true_iff.mp hl).1 R ru
     obtain rfl:=rep_int.mp R'
     obtain ⟨t,rfl⟩:=ru'
     exact ⟨EqAt.list_int i t q hu0,RcAt.list_int i t q hu0,RcNeAt.list_int i t q hu0⟩
    .cases h
   | str x =>
    replace h:(if isLst m l && true then some false else none)=some r:=h
    split at h
    .rename_i hl
     cases h
     obtain ⟨b,its,rfl,q⟩:=isLst_of S I (Bool.and_eq_true_iff.mp hl).1 R ru
     obtain rfl:=rep_str.mp R'
     obtain ⟨t,rfl⟩:=ru'
     exact ⟨EqAt.list_str _ t q hu0,RcAt.list_str _ t q hu0,RcNeAt.list_str _ t q hu0⟩
    .cases h
  | rol xs =>
   cases w' <;> first | cases h | (replace h:(if isLst m _ && false then some false else none)=some r:=h;simp at h)
  | non =>
   obtain rfl:=rep_non.mp R
   obtain rfl:u=.none:=ru
   cases w' with
   | rol ys=>cases h
   | ref l =>
    replace h:(if isLst m l && true then some false else none)=some r:=h
    split at h
    .rename_i hl
     cases h
     obtain ⟨b,its,rfl,q⟩:=isLst_of S I (Bool.and_eq_true_iff.mp hl).1 R' ru'
     exact ⟨EqAt.none_list q hu0,RcAt.none_list q hu0,RcNeAt.none_list q hu0⟩
    .cases h
   | tup ys =>
    cases h
    obtain ⟨b',vs',its',rfl,rfl,r1',rv',p'⟩:=wQ I R' ru'
    exact ⟨EqAt.none_tuple p' hu0,RcAt.none_tuple p' hu0,RcNeAt.none_tuple p' hu0⟩
   | non =>
    cases h
    obtain rfl:=rep_non.mp R'
    obtain rfl:u'=.none:=ru'
    exact ⟨EqAt.same _,RcAt.none_none,RcNeAt.none_none⟩
   | bl c =>
    cases h
    obtain rfl:=rep_bl.mp R'
    obtain rfl:u'=.bool c:=ru'
    exact ⟨EqAt.none_bool c,RcAt.none_bool c,RcNeAt.none_bool c⟩
   | int i =>
    cases h
    obtain rfl:=rep_int.mp R'
    obtain ⟨t,rfl⟩:=ru'
    exact ⟨EqAt.none_int i t,RcAt.none_int i t,RcNeAt.none_int i t⟩
   | str x =>
    cases h
    obtain rfl:=rep_str.mp R'
    obtain ⟨t,rfl⟩:=ru'
    exact ⟨EqAt.none_str _ t,RcAt.none_str _ t,RcNeAt.none_str _ t⟩
  | bl c =>
   obtain rfl:=rep_bl.mp R
   obtain rfl:u=.bool c:=ru
   cases w' with
   | rol ys=>cases h
   | ref l =>
    replace h:(if isLst m l && true then some false else none)=some r:=h
    split at h
    .rename_i hl
     cases h
     obtain ⟨b,its,rfl,q⟩:=isLst_of S I (Bool.and_eq_true_iff.mp hl).1 R' ru'
     exact ⟨EqAt.bool_list c q hu0,RcAt.bool_list c q hu0,RcNeAt.bool_list c q hu0⟩
    .cases h
   | tup ys =>
    cases h
    obtain ⟨b',vs',its',rfl,rfl,r1',rv',p'⟩:=wQ I R' ru'
    exact ⟨EqAt.bool_tuple c p' hu0,RcAt.bool_tuple c p' hu0,RcNeAt.bool_tuple c p' hu0⟩
   | non =>
    cases h
    obtain rfl:=rep_non.mp R'
    obtain rfl:u'=.none:=ru'
    exact ⟨EqAt.bool_none c,RcAt.bool_none c,RcNeAt.bool_none c⟩
   | bl d =>
    cases h
    obtain rfl:=rep_bl.mp R'
    obtain rfl:u'=.bool d:=ru'
    exact ⟨EqAt.bool_bool c d,RcAt.bool_bool c d,RcNeAt.bool_bool c d⟩
   | int i =>
    cases h
    obtain rfl:=rep_int.mp R'
    obtain ⟨t,rfl⟩:=ru'
    have e:decide (b2i c=i)=((if c then (1:Int) else 0) == i):=by
     show decide ((if c then (1:Int) else 0)=i)=_
     rw[Bool.beq_eq_decide_eq]
    rw[e]
    exact ⟨EqAt.bool_int c i t,RcAt.bool_int c i t,RcNeAt.bool_int c i t⟩
   | str x =>
    cases h
    obtain rfl:=rep_str.mp R'
    obtain ⟨t,rfl⟩:=ru'
    exact ⟨EqAt.bool_str c _ t,RcAt.bool_str c _ t,RcNeAt.bool_str c _ t⟩
  | int i =>
   obtain rfl:=rep_int.mp R
   obtain ⟨t,rfl⟩:=ru
   cases w' with
   | rol ys=>cases h
   | ref l =>
    replace h:(if isLst m l && true then some false else none)=some r:=h
    split at h
    .rename_i hl
     cases h
     obtain ⟨b,its,rfl,q⟩:=isLst_of S I (Bool.and_eq_true_iff.mp hl).1 R' ru'
     exact ⟨EqAt.int_list i t q hu0,RcAt.int_list i t q hu0,RcNeAt.int_list i t q hu0⟩
    .cases h
   | tup ys =>
    cases h
    obtain ⟨b',vs',its',rfl,rfl,r1',rv',p'⟩:=wQ I R' ru'
    exact ⟨EqAt.int_tuple i t p' hu0,RcAt.int_tuple i t p' hu0,RcNeAt.int_tuple i t p' hu0⟩
   | non =>
    cases h
    obtain rfl:=rep_non.mp R'
    obtain rfl:u'=.none:=ru'
    exact ⟨EqAt.int_none i t,RcAt.int_none i t,RcNeAt.int_none i t⟩
   | bl d =>
    cases h
    obtain rfl:=rep_bl.mp R'
    obtain rfl:u'=.bool d:=ru'
    have e:decide (i=b2i d)=(i == (if d then (1:Int) else 0)):=by
     show decide (i=(if d then (1:Int) else 0))=_
     rw[Bool.beq_eq_decide_eq]
    rw[e]
    exact ⟨EqAt.int_bool i t d,RcAt.int_bool i t d,RcNeAt.int_bool i t d⟩
   | int j =>
    cases h
    obtain rfl:=rep_int.mp R'
    obtain ⟨t',rfl⟩:=ru'
    have e:decide (i=j)=(i == j):=by rw[Bool.beq_eq_decide_eq]
    rw[e]
    exact ⟨EqAt.int_int i t j t',RcAt.int_int i t j t',RcNeAt.int_int i t j t'⟩
   | str x =>
    cases h
    obtain rfl:=rep_str.mp R'
    obtain ⟨t',rfl⟩:=ru'
    exact ⟨EqAt.int_str i t _ t',RcAt.int_str i t _ t',RcNeAt.int_str i t _ t'⟩
  | str x =>
   obtain rfl:=rep_str.mp R
   obtain ⟨t,rfl⟩:=ru
   cases w' with
   | rol ys=>cases h
   | ref l =>
    replace h:(if isLst m l && true then some false else none)=some r:=h
    split at h
    .rename_i hl
     cases h
     obtain ⟨b,its,rfl,q⟩:=isLst_of S I (Bool.and_eq_true_iff.mp hl).1 R' ru'
     exact ⟨EqAt.str_list _ t q hu0,RcAt.str_list _ t q hu0,RcNeAt.str_list _ t q hu0⟩
    .cases h
   | tup ys =>
    cases h
    obtain ⟨b',vs',its',rfl,rfl,r1',rv',p'⟩:=wQ I R' ru'
    exact ⟨EqAt.str_tuple _ t p' hu0,RcAt.str_tuple _ t p' hu0,RcNeAt.str_tuple _ t p' hu0⟩
   | non =>
    cases h
    obtain rfl:=rep_non.mp R'
    obtain rfl:u'=.none:=ru'
    exact ⟨EqAt.str_none _ t,RcAt.str_none _ t,RcNeAt.str_none _ t⟩
   | bl d =>
    cases h
    obtain rfl:=rep_bl.mp R'
    obtain rfl:u'=.bool d:=ru'
    exact ⟨EqAt.str_bool _ t d,RcAt.str_bool _ t d,RcNeAt.str_bool _ t d⟩
   | int j =>
    cases h
    obtain rfl:=rep_int.mp R'
    obtain ⟨t',rfl⟩:=ru'
    exact ⟨EqAt.str_int _ t j t',RcAt.str_int _ t j t',RcNeAt.str_int _ t j t'⟩
   | str y =>
    cases h
    obtain rfl:=rep_str.mp R'
    obtain ⟨t',rfl⟩:=ru'
    have e:decide (x=y)=((⟨x.toArray⟩:Str) == ⟨y.toArray⟩):=by
     by_cases hxy:x=y
     .subst hxy;simp
     .have:¬(⟨x.toArray⟩:Str)=⟨y.toArray⟩:=fun z=>by
       injection z with z
       exact hxy (by simpa using congrArg Array.toList z)
      rw[decide_eq_false hxy]
      exact (beq_eq_false_iff_ne.mpr this).symm
    rw[e]
    exact ⟨EqAt.str_str _ t _ t',RcAt.str_str _ t _ t',RcNeAt.str_str _ t _ t'⟩
end
noncomputable def cK:Co->CmpOp
 | .eq=>.Eq | .ne=>.NotEq | .lt=>.Lt | .isin=>.In 
noncomputable def rC (K:PySem.W.Frag)(op:Co):R2:=fun x y H Q=>∃as m w w',Sim K as m H/\Rep K as H w x/\Rep K as H w' y/\Post K as H Q (cop op w w' m)
section
variable {X:Cx}
theorem jA {K:PySem.W.Frag}{as:List Addr}{H:Hp}{m:Me}{Q:VK}{o:Option Bool}(S:Sim K as m H)(h:Post K as H Q (ofB o m)):∃b,o=some b/\Q (.bl b) H:=by
 cases o with
 | none=>exact h.elim
 | some b=>exact ⟨b,rfl,h.ok S (rep_bl.mpr rfl)⟩
theorem zad {p:Wd->Wd->Option Bool}{x:Wd}:∀ {ys:List Wd}{r:Bool},inL p x ys=some r ->
  ∃f:Wd->Bool,(∀y∈ys,p y x=some (f y))/\r=ys.any f
 | [],r,h=>by cases h;exact ⟨fun _=>false,fun y hy=>by simp at hy,rfl⟩
 | y::ys,r,h=>by
  unfold inL at h
  cases hp:p y x with
  | none=>rw[hp] at h;cases h
  | some b =>
   rw[hp] at h
   simp only[] at h
   cases hr:inL p x ys with
   | none=>rw[hr] at h;cases h
   | some r' =>
    rw[hr] at h
    cases h
    obtain ⟨f,hf,rfl⟩:=zad hr
    classical
    refine ⟨fun z=>(p z x).getD false,fun z hz=>?_,?_⟩
    .rcases List.mem_cons.mp hz with rfl | hz
     .simp only[hp,Option.getD_some]
     .simp only[hf z hz,Option.getD_some]
    .rw[List.any_cons,hp]
     congr 1
     refine Bool.eq_iff_iff.mpr ?_
     rw[List.any_eq_true,List.any_eq_true]
     constructor
     .rintro ⟨z,hz,e⟩
      exact ⟨z,hz,by rw[hf z hz];exact e⟩
     .rintro ⟨z,hz,e⟩
      rw[hf z hz] at e
      exact ⟨z,hz,e⟩
theorem gj {pins:List (Addr×Obj)}{σ:St}{s:Shared}{as:List Addr}{H:Hp}{m:Me}{A:Around}(I:Inv X pins σ H s)(S:Sim X.K as m H)(hu:A.units+yH < cLine){w:Wd}{v:V}{u:Value}{ys:List Wd}{vs:List V}{its:List Value}{r:Bool}
  (R:Rep X.K as H w v) (ru:RelV v u) (ry:RepL X.K as H ys vs) (rv:Vals vs its) (h:inL (eqW m yH) w ys=some r) :
  ∃e:Value->Bool,(∀y,y∈its.toArray->EqAt A s y u (e y))/\its.toArray.any e=r:=by
 obtain ⟨f,hf,rfl⟩:=zad h
 classical
 -- the plain value of an item
 have pick:∀y,y∈its->∃z,z∈ys/\∃vz,Rep X.K as H z vz/\RelV vz y:=fun y hy=>by
  refine cps fun zP zk=>?_
  obtain ⟨j,hj,rfl⟩:=List.mem_iff_getElem.mp hy
  have l1:=ry.length
  have l2:=rv.length
  have hj1:j < vs.length:=by lia
  obtain ⟨u1,e1,q1⟩:=rv.get (i:=j) (x:=vs[j]) (by simp[hj1])
  obtain ⟨z,e2,q2⟩:=ry.back (i:=j) (v:=vs[j]) (by simp[hj1])
  obtain ⟨_,e3⟩:=List.getElem?_eq_some_iff.mp e1
  refine zk ?_
  exact ⟨z,List.mem_of_getElem? e2,vs[j],q2,by rw[e3];exact q1⟩
 let e:Value->Bool:=fun y=>if hy:y∈its then f (Classical.choose (pick y hy)) else false
 have he:∀y (hy:y∈its) z vz,z∈ys->Rep X.K as H z vz->RelV vz y->e y=f z:=fun y hy z vz hz hr hq=>by
  refine cps fun zP zj=>?_
  obtain ⟨h1,vz',h2,h3⟩:=Classical.choose_spec (pick y hy)
  refine zj ?_
  have:e y=f (Classical.choose (pick y hy)):=dif_pos hy
  rw[this]
  have hv:vz'=vz:=h3.inj hq
  subst hv
  rw[jy I S _ _ _ h2 hr]
 refine ⟨e,fun y hy=>?_,?_⟩
 .have hy':y∈its:=by simpa using hy
  refine cps fun zP zi=>?_
  obtain ⟨z,hz,vz,q1,q2⟩:=pick y hy'
  refine zi ?_
  rw[he y hy' z vz hz q1 q2]
  exact (zac I S yH A z w vz v y u (f z) hu (hf z hz) q1 R q2 ru).it
 .refine Bool.eq_iff_iff.mpr ?_
  rw[List.any_toArray,List.any_eq_true,List.any_eq_true]
  constructor
  .rintro ⟨y,hy,ey⟩
   refine cps fun zP zh=>?_
   obtain ⟨z,hz,vz,q1,q2⟩:=pick y hy
   refine zh ?_
   rw[he y hy z vz hz q1 q2] at ey
   exact ⟨z,hz,ey⟩
  .rintro ⟨z,hz,ez⟩
   refine cps fun zP zg=>?_
   obtain ⟨j,hj,rfl⟩:=List.mem_iff_getElem.mp hz
   obtain ⟨v1,e1,q1⟩:=ry.get (i:=j) (x:=ys[j]) (by simp[hj])
   obtain ⟨u1,e2,q2⟩:=rv.get e1
   refine zg ?_
   have hy:u1∈its:=List.mem_of_getElem? e2
   exact ⟨u1,hy,by rw[he u1 hy ys[j] v1 (List.getElem_mem hj) q1 q2];exact ez⟩
set_option tactic.hygienic true in
theorem jf (hu:X.A.units+64 < cLine)(op:Co):OpR X (compareOp (cK op)) (rC X.K op):=by
 intro pins s σ H x y v u Q I rx ry h
 refine cps fun zP zk=>?_
 obtain ⟨as,m,w,w',S,R,R',q⟩:=h
 refine zk ?_
 have hd:yH=12:=rfl
 have fin:∀ {b:Bool},Q (.bl b) H->EP X pins σ Q (.bool b) s:=fun {b} q=>⟨.bl b,H,I,rfl,q⟩
 have cmpI:∀ {r:Int->Int->Bool},Post X.K as H Q (zab r w w' m)->∃i j,x=.int i/\y=.int j/\Q (.bl (r i j)) H:=fun {r} q=>by
  unfold zab at q
  cases w with
  | int i =>
   cases w' with
   | int j=>exact ⟨i,j,rep_int.mp R,rep_int.mp R',q.ok S (rep_bl.mpr rfl)⟩
   | _=>exact q.elim
  | _=>exact q.elim
 cases op with
 | eq =>
  obtain ⟨b,hb,q⟩:=jA S q
  exact (zac I S yH X.A w w' x y v u b (by lia) hb R R' rx ry).eq X.prog X.w X.xe _ (fin q)
 | ne =>
  refine cps fun zP zj=>?_
  obtain ⟨b,hb,q⟩:=jA S q
  obtain ⟨c,hc,rfl⟩:=Option.map_eq_some_iff.mp hb
  refine zj ?_
  exact (zac I S yH X.A w w' x y v u c (by lia) hc R R' rx ry).ne X.prog X.w X.xe _ (fin q)
 | isin =>
  simp only[cop] at q
  split at q
  .rename_i ys hs
   refine cps fun zP zi=>?_
   obtain ⟨b,hb,q⟩:=jA S q
   obtain ⟨p,vs,rfl,hq,r⟩:=jx S R' hs
   refine zi ?_
   obtain rfl:u=.ref p:=ry
   rcases hq with hq | hq
   .refine cps fun zP zh=>?_
    obtain ⟨its,rv,pl,_⟩:=I.list hq
    obtain ⟨e,he,rfl⟩:=gj (A:=X.A.in1) I S (by show X.A.units+1+yH < cLine;lia) R rx r rv hb
    refine zh ?_
    exact in_listAt e pl.isList he (fin q)
   .refine cps fun zP zg=>?_
    obtain ⟨its,rv,pl,_⟩:=I.tuple hq
    obtain ⟨e,he,rfl⟩:=gj (A:=X.A.in1) I S (by show X.A.units+1+yH < cLine;lia) R rx r rv hb
    refine zg ?_
    exact in_tupleAt e (show s.heap.IsTuple p its.toArray from pl) he (fin q)
  .exact q.elim
 | lt=>exact zgH pins s σ H x y v u Q I rx ry (cmpI q)
end
end Mini
namespace Mini
open PySem PySem.Spec PyProof.Rows L2
section
variable {K:PySem.W.Frag}{as:List Addr}{H H':Hp}{m m':Me}{Q:VK}{X:Cx}
noncomputable def zfF:Blf->Option (Str×Value)
 | .len=>some ("len",.builtin "len")
 | .int=>some ("int",.type "int")
 | .list=>some ("list",.type "list")
 | .min2=>some ("min",.builtin "min")
 | .sum=>some ("sum",.builtin "sum")
 | _=>none
noncomputable def rBl (K:PySem.W.Frag)(b:Blf):List V->Hp->VK->Prop:=fun vs H Q=>∃as m ws,Sim K as m H/\RepL K as H ws vs/\Post K as H Q (wP b ws m)
theorem wR {x:Wd}{vs:List V}(h:RepL K as H [x] vs):∃v,vs=[v]/\Rep K as H x v:=by
 obtain ⟨v,r,rfl,q,t⟩:=repL_cons.mp h
 obtain rfl:=repL_nil.mp t
 exact ⟨v,rfl,q⟩
theorem zb9 {x y:Wd}{vs:List V}(h:RepL K as H [x,y] vs):∃v u,vs=[v,u]/\Rep K as H x v/\Rep K as H y u:=by
 obtain ⟨v,r,rfl,q,t⟩:=repL_cons.mp h
 obtain ⟨u,rfl,q'⟩:=wR t
 exact ⟨v,u,rfl,q,q'⟩
theorem zeV {w:Wd}{v:V}{xs:List Wd}(S:Sim K as m H)(R:Rep K as H w v)(h:gh m w=some xs):∃p vs,v=.ref p/\SqL K H p vs/\RepL K as H xs vs:=by
 cases w with
 | rol ys =>
  cases h
  obtain ⟨a,vs,rfl,hq,rr⟩:=rep_rol.mp R
  exact ⟨a,vs,rfl,hq.sq,rr⟩
 | ref l =>
  obtain ⟨b,hb,rfl⟩:=rep_ref.mp R
  obtain ⟨a,vs,ha,e,r⟩:=yq S (yc h)
  rw[hb] at ha
  cases ha
  exact ⟨b,vs,rfl,SqL.of e,r⟩
 | _=>cases h
theorem zae:∀ {xs:List Wd}{vs:List V}{i:Int},RepL K as H xs vs->vq xs=some i->∃ns:List Int,vs=ns.map V.int/\ns.sum=i
 | [],vs,i,R,h=>by cases h;exact ⟨[],repL_nil.mp R,rfl⟩
 | x::xs,vs,i,R,h=>by
  obtain ⟨v,r,rfl,q,t⟩:=repL_cons.mp R
  cases x with
  | int j =>
   simp only[vq,Option.map_eq_some_iff] at h
   refine cps fun zP zk=>?_
   obtain ⟨k,hk,rfl⟩:=h
   obtain ⟨ns,rfl,rfl⟩:=zae t hk
   refine zk ?_
   obtain rfl:=rep_int.mp q
   exact ⟨j::ns,rfl,by simp⟩
  | _=>cases h
theorem zaf {o:Option (List Wd)}{f:(List Wd)->Rz}(h:Post K as H Q (match o with | some a=>f a | none=>.no)):∃a,o=some a/\Post K as H Q (f a):=by
 cases o with
 | none=>exact h.elim
 | some a=>exact ⟨a,rfl,h⟩
theorem zdQ {o:Option Int}{f:Int->Rz}(h:Post K as H Q (match o with | some a=>f a | none=>.no)):∃a,o=some a/\Post K as H Q (f a):=by
 cases o with
 | none=>exact h.elim
 | some a=>exact ⟨a,rfl,h⟩
set_option tactic.hygienic true in
theorem zca (hc:X.calm=true){b:Blf}{nm:Str}{f:Value}(hb:zfF b=some (nm,f)):CallR X f (rBl X.K b):=by
 intro pins s σ H xs us Q I r h
 obtain ⟨as,m,ws,S,R,q⟩:=h
 cases b with
 | len =>
  cases hb
  refine jq pins s σ H xs us Q I r ?_
  rcases ws with _ | ⟨x,_ | ⟨_,_⟩⟩
  .exact q.elim
  .refine cps fun zP zk=>?_
   obtain ⟨ys,hs,q⟩:=zaf (o:=xb m x) (f:=fun ys=>.ok (.int ys.length) m) q
   obtain ⟨v,rfl,q1⟩:=wR R
   obtain ⟨p,vs,rfl,hq,rr⟩:=jx S q1 hs
   refine zk ?_
   refine ⟨p,vs,rfl,hq,?_⟩
   rw[<- rr.length]
   exact q.ok S (rep_int.mpr rfl)
  .exact q.elim
 | int =>
  cases hb
  refine vn pins s σ H xs us Q I r ?_
  cases ws with
  | nil=>exact q.elim
  | cons x ws =>
   cases x with
   | int i =>
    cases ws with
    | nil =>
     obtain ⟨v,rfl,q1⟩:=wR R
     obtain rfl:=rep_int.mp q1
     exact .inl ⟨i,rfl,q.ok S (rep_int.mpr rfl)⟩
    | cons _ _=>exact q.elim
   | bl i =>
    cases ws with
    | nil =>
     obtain ⟨v,rfl,q1⟩:=wR R
     obtain rfl:=rep_bl.mp q1
     exact .inr ⟨i,rfl,q.ok S (rep_int.mpr rfl)⟩
    | cons _ _=>exact q.elim
   | _=>exact q.elim
 | list =>
  cases hb
  refine jr pins s σ H xs us Q I r ?_
  rcases ws with _ | ⟨x,_ | ⟨_,_⟩⟩
  .exact q.elim
  .refine cps fun zP zj=>?_
   obtain ⟨ys,hs,q⟩:=zaf (o:=xb m x) (f:=fun ys=>alloc m ys) q
   obtain ⟨v,rfl,q1⟩:=wR R
   obtain ⟨p,vs,rfl,hq,rr⟩:=jx S q1 hs
   refine zj ?_
   exact ⟨p,vs,rfl,hq,(wf S rr q).2⟩
  .exact q.elim
 | sum =>
  cases hb
  refine j7 hc pins s σ H xs us Q I r ?_
  rcases ws with _ | ⟨x,_ | ⟨_,_⟩⟩
  .exact q.elim
  .refine cps fun zP zi=>?_
   obtain ⟨i,hs,q⟩:=zdQ (o:=(gh m x).bind vq) (f:=fun i=>.ok (.int i) m) q
   obtain ⟨ys,h1,h2⟩:=Option.bind_eq_some_iff.mp hs
   obtain ⟨v,rfl,q1⟩:=wR R
   obtain ⟨p,vs,rfl,hq,rr⟩:=zeV S q1 h1
   obtain ⟨ns,rfl,rfl⟩:=zae rr h2
   refine zi ?_
   exact ⟨p,ns,rfl,hq,q.ok S (rep_int.mpr rfl)⟩
  .exact q.elim
 | min2 =>
  cases hb
  refine zaG hc pins s σ H xs us Q I r ?_
  cases ws with
  | nil=>exact q.elim
  | cons x ws =>
   cases x with
   | int i =>
    cases ws with
    | nil=>exact q.elim
    | cons y ws =>
     cases y with
     | int j =>
      cases ws with
      | nil =>
       obtain ⟨v,u,rfl,q1,q2⟩:=zb9 R
       obtain rfl:=rep_int.mp q1
       obtain rfl:=rep_int.mp q2
       exact ⟨i,j,rfl,q.ok S (rep_int.mpr rfl)⟩
      | cons _ _=>exact q.elim
     | _=>exact q.elim
   | _=>exact q.elim
 | _=>cases hb
set_option tactic.hygienic true in
theorem zfG {x y:Wd}{v u:V}(S:Sim K as m H)(R:Rep K as H x v)(R':Rep K as H y u)(h:Post K as H Q (w6 x y m)):rIx K v u H Q:=by
 unfold w6 at h
 split at h
 .rename_i i
  obtain rfl:=rep_int.mp R'
  split at h
  .rename_i xs hs
   split at h
   .rename_i w hw
    obtain ⟨p,vs,rfl,hq,rr⟩:=jx S R hs
    have e:∃z,atI vs i=some z/\Rep K as H w z:=by
     obtain ⟨j,hj,hx⟩:=Option.bind_eq_some_iff.mp hw
     obtain ⟨z,hz,rz⟩:=rr.get hx
     refine ⟨z,?_,rz⟩
     unfold atI
     have hj':ixN vs.length i=some j:=by rw[<- rr.length];exact hj
     rw[hj']
     exact hz
    obtain ⟨z,hz,rz⟩:=e
    rcases hq with hq | hq
    .exact .inl ⟨p,vs,i,z,rfl,rfl,hq,hz,h.ok S rz⟩
    .exact .inr (.inl ⟨p,vs,i,z,rfl,rfl,hq,hz,h.ok S rz⟩)
   .exact h.elim
  .exact h.elim
 .exact h.elim
set_option tactic.hygienic true in
theorem zfH {o i w:Wd}{vo vi v:V}{Q:Hp->Prop}(S:Sim K as m H)(R:Rep K as H o vo)(R':Rep K as H i vi)(R2:Rep K as H w v)
  (h:∀m',jw o i w m=.ok .non m'->∀H',Step as H as H'->Sim K as m' H'->Q H') (hne:∃m',jw o i w m=.ok .non m'):zbK vo vi v H Q:=by
 obtain ⟨m',hm'⟩:=hne
 have h:=h m' hm'
 unfold jw at hm'
 split at hm'
 .rename_i l k
  split at hm'
  .rename_i xs hl
   split at hm'
   .rename_i j hj
    cases hm'
    refine cps fun zP zk=>?_
    obtain ⟨a,ha,rfl⟩:=rep_ref.mp R
    obtain rfl:=rep_int.mp R'
    obtain ⟨b,vs,hb,e,rr⟩:=yq S hl
    rw[ha] at hb;cases hb
    obtain ⟨T,S'⟩:=S.set ha hl (rr.set j R2)
    refine zk ?_
    refine ⟨a,vs,k,j,rfl,rfl,e,?_,h _ T S'⟩
    rw[<- rr.length]
    exact hj
   .cases hm'
  .cases hm'
 .cases hm'
noncomputable def mtV:Mth->Str×String
 | .append=>("append", "list.append") | .pop=>("pop", "list.pop") | .reverse=>("reverse", "list.reverse") | .clear=>("clear", "list.clear") 
noncomputable def rMt (K:PySem.W.Frag)(n:Mth):V->List V->Hp->VK->Prop:=fun v vs H Q=>∃as m w ws,Sim K as m H/\Rep K as H w v/\RepL K as H ws vs/\Post K as H Q (mtR n w ws m)
set_option tactic.hygienic true in
theorem zcb (n:Mth):MtR X (mtV n).2 (rMt X.K n):=by
 intro pins s σ H v vs u us Q I r rs h
 refine cps fun zP zk=>?_
 obtain ⟨as,m,w,ws,S,R,Rs,q⟩:=h
 refine zk ?_
 unfold mtR at q
 split at q
 .rename_i l
  split at q
  .rename_i xs hl
   refine cps fun zP zj=>?_
   obtain ⟨a,ha,rfl⟩:=rep_ref.mp R
   obtain ⟨b,zs,hb,e,rr⟩:=yq S hl
   refine zj ?_
   rw[ha] at hb;cases hb
   have hz:zs.length<=sizeLine:=(I.lstM e).1
   split at q
   .rename_i y
    split at q
    .rename_i hlt
     obtain ⟨z,rfl,rz⟩:=wR Rs
     obtain ⟨T,S'⟩:=S.set ha hl (rr.append (.one rz))
     exact k8 pins s σ H _ _ u us Q I r rs ⟨a,zs,z,rfl,rfl,e,by rw[<- rr.length];exact Nat.lt_of_lt_of_le hlt yY,q _ _ _ T S' (rep_non.mpr rfl)⟩
    .exact q.elim
   .split at q
    .rename_i y hy
     obtain rfl:=repL_nil.mp Rs
     obtain ⟨z,hz',rz⟩:=rr.get hy
     obtain ⟨T,S'⟩:=S.set ha hl rr.dropLast
     exact zfy pins s σ H _ _ u us Q I r rs ⟨a,zs,z,rfl,rfl,e,by rw[<- rr.length];exact hz',q _ _ _ T S' (rz.mono S T)⟩
    .exact q.elim
   .obtain rfl:=repL_nil.mp Rs
    obtain ⟨T,S'⟩:=S.set ha hl rr.reverse
    exact g5 pins s σ H _ _ u us Q I r rs ⟨a,zs,rfl,rfl,e,q _ _ _ T S' (rep_non.mpr rfl)⟩
   .exact q.elim
  .exact q.elim
 .exact q.elim
noncomputable def tgT:Tg->String
 | .int => "int" | .bool => "bool" | .list => "list" | .tuple => "tuple" | .str => "str" | .dict => "dict"
theorem zdR (K:PySem.W.Frag)(t:Tg):
  PySem.W.kitOne K (.type "NoneType") (.type (tgT t))=some false/\PySem.W.kitOne K (.type "bool") (.type (tgT t))=some (decide (t=.bool\/t=.int))/\PySem.W.kitOne K (.type "int") (.type (tgT t))=some (decide (t=.int)) /\
  PySem.W.kitOne K (.type "str") (.type (tgT t))=some (decide (t=.str))/\PySem.W.kitOne K (.type "list") (.type (tgT t))=some (decide (t=.list))/\PySem.W.kitOne K (.type "tuple") (.type (tgT t))=some (decide (t=.tuple)):=by
 cases t <;> refine ⟨?_,?_,?_,?_,?_,?_⟩ <;> kernel_rfl
noncomputable def rIsi (K:PySem.W.Frag)(t:Tg):List V->Hp->VK->Prop:=fun vs H Q=>∃as m w v,vs=[v,.ty (tgT t)]/\Sim K as m H/\Rep K as H w v/\Post K as H Q (ofB (isT t w m) m)
theorem zfI (m:Me)(t:Tg):isT t .non m=some false/\(∀c,isT t (.bl c) m=some (decide (t=.bool\/t=.int)))/\(∀i,isT t (.int i) m=some (decide (t=.int)))/\(∀x,isT t (.str x) m=some (decide (t=.str)))/\(∀ys,isT t (.tup ys) m=some (decide (t=.tuple)))/\(∀ys,isT t (.rol ys) m=some (decide (t=.list)))/\∀l ys,m[l]?=some (.lst ys)->isT t (.ref l) m=some (decide (t=.list)):=by
 refine ⟨?_,fun c=>?_,fun i=>?_,fun x=>?_,fun ys=>?_,fun ys=>?_,fun l ys h=>?_⟩
 rotate_right
 .have e:isT t (.ref l) m=(match m[l]? with | some (.lst _)=>some (decide (t=.list)) | some (.dct _)=>some (decide (t=.dict)) | none=>none):=by cases t <;> rfl
  rw[e,h]
 all_goals cases t <;> rfl
theorem zcc (t:Tg):CallR X (.builtin "isinstance") (rIsi X.K t):=by
 intro pins s σ H xs us Q I r h
 refine cps fun zP zk=>?_
 obtain ⟨as,m,w,v,rfl,S,R,q⟩:=h
 obtain ⟨b,hb,q⟩:=jA S q
 obtain ⟨u,u',rfl,ru,ru'⟩:=zbH r
 refine zk ?_
 obtain rfl:u'=.type (tgT t):=ru'
 refine cps fun zP zj=>?_
 obtain ⟨k1,k2,k3,k4,k5,k6⟩:=zdR X.K t
 obtain ⟨z1,z2,z3,z4,z5,z6,z7⟩:=zfI m t
 refine zj ?_
 have fin:∀tk,EP X pins σ Q (.bool b) { s with toks:=tk }:=fun tk=>⟨.bl b,H,I.tok tk,rfl,q⟩
 cases w with
 | non =>
  obtain rfl:=rep_non.mp R
  have e:b=false:=Option.some.inj (hb.symm.trans z1)
  subst e
  exact xK I ru .non k1 fin
 | bl c =>
  obtain rfl:=rep_bl.mp R
  have e:b=decide (t=.bool\/t=.int):=Option.some.inj (hb.symm.trans (z2 _))
  subst e
  exact xK I ru (.bl c) k2 fin
 | int i =>
  obtain rfl:=rep_int.mp R
  have e:b=decide (t=.int):=Option.some.inj (hb.symm.trans (z3 _))
  subst e
  exact xK I ru (.int i) k3 fin
 | str x =>
  obtain rfl:=rep_str.mp R
  have e:b=decide (t=.str):=Option.some.inj (hb.symm.trans (z4 _))
  subst e
  exact xK I ru (.str _) k4 fin
 | tup ys =>
  obtain ⟨a,vs,rfl,hq,rr⟩:=rep_tup.mp R
  have e:b=decide (t=.tuple):=Option.some.inj (hb.symm.trans (z5 _))
  subst e
  obtain rfl:u=.ref a:=ru
  refine cps fun zP zi=>?_
  obtain ⟨its,_,⟨o,h1,h2,_⟩,_⟩:=I.tuple hq
  refine zi ?_
  exact PySem.W.kia_one PySem.W.kitx_tuple I.kIn ⟨o,h1,h2⟩ k6 (fun z=>nomatch z) fin
 | rol ys =>
  obtain ⟨a,vs,rfl,hq,rr⟩:=rep_rol.mp R
  have e:b=decide (t=.list):=Option.some.inj (hb.symm.trans (z6 _))
  subst e
  obtain rfl:u=.ref a:=ru
  refine cps fun zP zh=>?_
  obtain ⟨its,_,p,_⟩:=I.list hq.sq
  obtain ⟨o,n,h1,h2,_⟩:=p
  refine zh ?_
  exact PySem.W.kia_one PySem.W.kitx_list I.kIn ⟨o,h1,h2⟩ k5 (fun z=>nomatch z) fin
 | ref l =>
  refine cps fun zP zg=>?_
  obtain ⟨a,ha,rfl⟩:=rep_ref.mp R
  obtain ⟨us,e2⟩:=S.isLst (List.mem_of_getElem? ha)
  have hl:∃ys,m[l]?=some (.lst ys):=by
   have hl:l < m.length:=by rw[<- S.len];exact (List.getElem?_eq_some_iff.mp ha).1
   have z:=S.obj l a m[l] ha (by simp[hl])
   cases e:m[l] with
   | lst ys=>exact ⟨ys,by rw[<- e];simp[hl]⟩
   | dct kvs=>rw[e] at z;exact z.elim
  obtain ⟨ys,hl⟩:=hl
  refine zg ?_
  have e:b=decide (t=.list):=Option.some.inj (hb.symm.trans (z7 _ _ hl))
  subst e
  exact xK I ru (.lst e2) k5 fin
end
structure SeqIt (J:It)(vs:List V)(ok:Hp->Prop):Prop where
 go:∀i H,ok H->i < vs.length->J.go i H
 yld:∀i H x H',ok H->i < vs.length->J.yld i H x H'->H'=H/\vs[i]?=some x
 stop:∀i H,ok H->vs.length<=i->J.stop i H
noncomputable def zag (K:PySem.W.Frag)(as:List Addr)(H:Hp)(J:It)(xs:List Wd):Prop :=
 ∃vs ok,SeqIt J vs ok/\ok H/\RepL K as H xs vs/\∀H1 H2,Kp K H1 H2->ok H1->ok H2
noncomputable def zgT (K:PySem.W.Frag)(as:List Addr)(H:Hp)(w:Wd)(J:It):Prop:=match w with
 | .tup xs=>zag K as H J xs
 | .rol xs=>zag K as H J xs
 | .ref l=>∃a,as[l]?=some a/\J=Itl K a
 | _=>True
noncomputable def PostI (K:PySem.W.Frag)(as:List Addr)(H:Hp)(R:It->Hp->Prop)(r:Rz):Prop:=match r with
 | .ok w m'=>(xb m' w).isSome=true/\∀as' H' J,Step as H as' H'->Sim K as' m' H'->zgT K as' H' w J->R J H'
 | _=>False
noncomputable def iOf (K:PySem.W.Frag)(g:En->Me->Rz):TI:=fun σ H R=>∃as env m,Sim K as m H/\EnvRep K as H env σ/\PostI K as H R (g env m)
theorem PI.or {X:Cx}{tg e:Expr}{a b:TI}(h1:PI X tg e a)(h2:PI X tg e b):PI X tg e (fun σ H R=>a σ H R\/b σ H R):=fun pins s σ H R I h=>by
 rcases h with h | h
 .exact h1 pins s σ H R I h
 .exact h2 pins s σ H R I h
theorem PI.imp {X:Cx}{tg e:Expr}{a b:TI}(h:PI X tg e a)(k:∀σ H R,b σ H R->a σ H R):PI X tg e b:=fun pins s σ H R I q=>h pins s σ H R I (k σ H R q)
theorem ko {X:Cx}{tg x:Expr}{g:En->Me->Rz}(h:PE X x (tOf X.K g)):PI X tg x (iOf X.K g):=by
 refine PI.imp (PI.or (zdt h) (zfo h)) fun σ H R q=>?_
 refine cps fun zP zk=>?_
 obtain ⟨as,env,m,S,G,P⟩:=q
 refine zk ?_
 cases hr:g env m with
 | no=>rw[hr] at P;exact P.elim
 | exc c w m'=>rw[hr] at P;exact P.elim
 | ok w m' =>
  rw[hr] at P
  obtain ⟨hs,P⟩:=P
  obtain ⟨xs,hs⟩:=Option.isSome_iff_exists.mp hs
  cases w with
  | tup ys =>
   refine .inr ⟨as,env,m,S,G,?_⟩
   rw[hr]
   intro as' H' v T S' R'
   obtain ⟨a,vs,rfl,hq,rr⟩:=rep_tup.mp R'
   refine ⟨a,rfl,⟨vs,hq⟩,P as' H' _ T S' ⟨vs,fun H=>SqT X.K H a vs,⟨fun i H h hi=>⟨vs,vs[i],h,by simp[hi]⟩,fun i H x H' h hi q=>⟨q.1,q.2 vs h⟩,fun i H h hi=>⟨vs,h,hi⟩⟩,hq,rr,fun H1 H2 k h=>k.t _ _ h⟩⟩
  | rol ys =>
   refine .inl ⟨as,env,m,S,G,?_⟩
   rw[hr]
   intro as' H' v T S' R'
   obtain ⟨a,vs,rfl,hq,rr⟩:=rep_rol.mp R'
   refine ⟨a,rfl,⟨vs,hq.sq⟩,P as' H' _ T S' ⟨vs,fun H=>SqF X.K H a vs,⟨fun i H h hi=>⟨vs,vs[i],h.sq,by simp[hi]⟩,fun i H x H' h hi q=>⟨q.1,q.2 vs h.sq⟩,fun i H h hi=>⟨vs,h.sq,hi⟩⟩,hq,rr,fun H1 H2 k h=>k.f _ _ h⟩⟩
  | ref l =>
   refine .inl ⟨as,env,m,S,G,?_⟩
   rw[hr]
   intro as' H' v T S' R'
   obtain ⟨a,ha,rfl⟩:=rep_ref.mp R'
   obtain ⟨us,e⟩:=S'.isLst (List.mem_of_getElem? ha)
   exact ⟨a,rfl,⟨us,SqL.of e⟩,P as' H' _ T S' ⟨a,ha,rfl⟩⟩
  | non=>cases hs
  | bl b=>cases hs
  | int i=>cases hs
  | str x=>cases hs
theorem kq {K:PySem.W.Frag}{as:List Addr}{H:Hp}(st:Int):∀ (n:Nat) (lo:Int),RepL K as H (qp lo st n) ((List.range n).map fun (i:Nat)=>V.int (lo+st * (i:Int)))
 | 0,lo=>repL_nil.mpr rfl
 | n+1,lo=>by
  rw[List.range_succ_eq_map,List.map_cons,List.map_map]
  refine repL_cons.mpr ⟨_,_,rfl,rep_int.mpr (by simp),?_⟩
  have e:((fun (i:Nat)=>V.int (lo+st * (i:Int))) ∘ Nat.succ)=fun (i:Nat)=>V.int (lo+st+st * (i:Int)):=by
   funext i
   show V.int (lo+st * ((i.succ:Nat):Int))=_
   congr 1
   rw[Nat.succ_eq_add_one,Int.natCast_add,Int.mul_add]
   lia
  rw[e]
  exact kq st n (lo+st)
theorem zaU {K:PySem.W.Frag}(lo:Int)(n:Nat):SeqIt (Itr lo n) ((List.range n).map fun (i:Nat)=>V.int (lo+1 * (i:Int))) (fun _=>True):=by
 refine ⟨fun i H _ hi=>?_,fun i H x H' _ hi q=>?_,fun i H _ hi=>?_⟩
 .show i < n
  simpa using hi
 .obtain ⟨e,rfl⟩:=q
  refine ⟨e,?_⟩
  have hi':i < n:=by simpa using hi
  rw[List.getElem?_map,List.getElem?_range hi']
  simp
 .show n<=i
  simpa using hi
set_option genInjectivity false in
structure Ctx where
 fns:List Str
 cons:List (Str×Int)
set_option genInjectivity false in
inductive Nd where
 | e (x:Expr) | a (xs:List Expr)
noncomputable def glB (sc:Scope)(x:Str):Bool:=decide (sc.names.lookup x=some .globalImplicit)
noncomputable def qr (sc:Scope)(x:Str):Bool:=decide (sc.names.lookup x=some .local) || (decide (sc.names.lookup x=some .cell) || decide (sc.names.lookup x=some .free))
noncomputable def zV (x:Str):Bool:=!(x == ("__debug__" : Str)) && !(x == ("__classdict__" : Str)) && !(x == ("__name__" : Str))
noncomputable def zL:Expr->Bool
 | .Starred _ _=>false
 | _=>true
noncomputable def y7:Expr->Bool
 | .Set _ _ _=>false
 | _=>true
noncomputable def wg:Expr->Bool
 | .Slice _ _ _ _=>false
 | _=>true
noncomputable def vc:Expr->Bool
 | .Call _ _ _ _=>false
 | _=>true
noncomputable def zG:Ex->Bool
 | .rng _ _ _=>true
 | _=>false
noncomputable def vQ:Ex->Bool
 | _=>false
noncomputable def vd (scope sc:Scope):Scope :=
 { scope with names:=scope.names.map fun (n,k)=>if (k == .free && sc.kind == .function && sc.names.lookup n == some .cell) then (n,.cell) else (n,k) }
noncomputable def vu (sc:Scope)(N:List Str)(scope:Scope)(xs:List Str):Bool :=
 decide (scope.kind=.function) && (xs.all (fun x=>decide (scope.names.lookup x=some .local) || decide (scope.names.lookup x=some .cell)) &&
 (scope.names.all (fun y=>!(decide (y.2=.local)) || decide (scope.names.lookup y.1=some .local)) &&
 (scope.names.all (fun y=>!(decide (y.2=.free)) || (decide (sc.names.lookup y.1=some .cell) || decide (sc.names.lookup y.1=some .free))) &&
 (scope.names.all (fun y=>!(decide (y.2=.cell)) || !(decide (scope.names.lookup y.1=some .free))) &&
 (N.all (fun y=>decide (y∈xs) || (!(decide (scope.names.lookup y=some .local)) && !(decide (scope.names.lookup y=some .cell)))) &&
 (decide (xj N xs).Nodup && xs.all (fun x=>decide (scope.names.lookup (dum x)=none))))))))
theorem xO {X:Cx}{scope:Scope}{xs:List Str}(h:vu X.env.scope X.N scope xs=true):BlockOk X scope xs:=by
 unfold vu at h
 simp only[Bool.and_eq_true,Bool.or_eq_true,decide_eq_true_eq,List.all_eq_true,Bool.not_eq_true',decide_eq_false_iff_not] at h
 obtain ⟨h1,h2,h3,h4,h5,h6,h7,h8⟩:=h
 refine ⟨h1,h2,fun y hy e=>?_,fun y hy e=>?_,fun y hy e=>?_,fun y hy e=>?_,h7,h8⟩
 .rcases h3 y hy with z | z
  .exact absurd e z
  .exact z
 .rcases h4 y hy with z | z
  .exact absurd e z
  .exact z
 .rcases h6 y hy with z | z
  .exact absurd z e
  .exact z
 .rcases h5 y hy with z | z
  .exact absurd e z
  .exact z
noncomputable def wS (K:PySem.W.Frag)(g:List Wd->Me->Rz):Sp:=fun vs H Q _=>∃as m ws,Sim K as m H/\RepL K as H ws vs/\Post K as H Q (g ws m)
noncomputable def zB:List Str:=["len", "int", "bool", "list", "tuple", "abs", "max", "min", "isinstance", "range", "str", "dict", "sum", "all", "zip", "enumerate"]
structure CtxOk (C:Ctx)(X:Cx)(cl:Nat->List Wd->Me->Rz)(d:Nat):Prop where
 room:Room d X.A
 calm:X.calm=true
 fn:∀ (k:Nat) (nm:Str),C.fns[k]?=some nm->∃f fd ps,X.mg nm=some (.ref f)/\PySem.W.keepIn X.K (.ref f)=true/\Binds X.K fd ps []/\FnOk X.prog X.w X.K X.mg X.base CX0 d f fd ps (wS X.K (cl k))
 con:∀ (nm:Str) (i:Int),C.cons.lookup nm=some i->∃t,X.mg nm=some (.int i t)
 blt:∀nm∈zB,X.mg nm=none
theorem CtxOk.comp {C:Ctx}{X Xc:Cx}{cl:Nat->List Wd->Me->Rz}{d:Nat}{scope:Scope}{x:List Str}(h:CtxOk C X cl d)(c:CompOf X scope x Xc):CtxOk C Xc cl d:=by
 refine ⟨by rw[c.A];exact h.room,c.calm,fun k nm e=>?_,fun nm i e=>?_,fun nm e=>?_⟩
 .refine cps fun zP zk=>?_
  obtain ⟨f,fd,ps,h1,h2,h3,h4⟩:=h.fn k nm e
  refine zk ?_
  exact ⟨f,fd,ps,by rw[c.mg];exact h1,by rw[c.K];exact h2,by rw[c.K];exact h3,by rw[c.prog,c.w,c.K,c.mg,c.base];exact h4⟩
 .rw[c.mg];exact h.con nm i e
 .rw[c.mg];exact h.blt nm e
noncomputable def PostA (K:PySem.W.Frag)(as:List Addr)(H:Hp)(Q:List V->Hp->Prop)(r:Rz):Prop:=match r with
 | .ok w m'=>∀as' H' vs,Step as H as' H'->Sim K as' m' H'->RepL K as' H' (zv w) vs->Q vs H'
 | _=>False
noncomputable def vv (K:PySem.W.Frag)(g:En->Me->Rz):TA:=fun σ H Q=>∃as env m,Sim K as m H/\EnvRep K as H env σ/\PostA K as H Q (g env m)
theorem PostA.bind {K:PySem.W.Frag}{as:List Addr}{H:Hp}{Q:VK}{Q1:List V->Hp->Prop}{r:Rz}{f:Wd->Me->Rz}(h:Post K as H Q (r.bind f))
  (k:∀w m' as' H' vs,Step as H as' H'->Sim K as' m' H'->RepL K as' H' (zv w) vs->Post K as' H' Q (f w m')->Q1 vs H'):PostA K as H Q1 r:=by
 cases r with
 | ok w m'=>exact fun as2 H2 v U S R=>k w m' as2 H2 v U S R (Post.step (r:=f w m') h U)
 | exc c w m'=>exact h
 | no=>exact h
noncomputable def Snd (cl:Nat->List Wd->Me->Rz)(X:Cx)(e:Ex):Nd->Prop
 | .e x=>(zG e=false->PE X x (tOf X.K (evE cl e))/\(vQ e=false->PT X x (xz X.K (evE cl e)))/\(∀op vs pos,x=.BoolOp op vs pos->PW X x (xz X.K (evE cl e))))/\∀tg,PI X tg x (iOf X.K (evE cl e))
 | .a xs=>PA X xs (vv X.K (evE cl e))
theorem Snd.of {cl:Nat->List Wd->Me->Rz}{X:Cx}{e:Ex}{x:Expr}(h:PE X x (tOf X.K (evE cl e)))(ht:∀whole,isTrue x X.env whole=(do let v <- whole;standAt x.pos;holding [v] (truthy v)):=by intro _;rfl)
  (hb:∀op vs pos,x≠.BoolOp op vs pos:=by intros;intro z;cases z):Snd cl X e (.e x) :=
 ⟨fun _=>⟨h,fun _=>gR h ht,fun op vs pos z=>absurd z (hb op vs pos)⟩,fun tg=>ko h⟩
theorem zu {e:Expr}{es:List Expr}{env:Env}(h:zL e=true):starEach (e::es) env=(false,eval e env)::starEach es env:=by
 cases e <;> first | rfl | cases h
theorem yE {pos:Pos}{env:Env}:∀ {es:List Expr},es.all zL=true->(backTo pos (starEach es env)).any (·.1)=false
 | [],_=>rfl
 | e::es,h=>by
  rw[List.all_cons,Bool.and_eq_true] at h
  rw[zu h.1]
  show (false || (backTo pos (starEach es env)).any (·.1))=false
  rw[yE h.2];rfl
section
variable {cl:Nat->List Wd->Me->Rz}{X:Cx}{a b c:Ex}{x y:Expr}{pos:Pos}
theorem zfJ {op:Bo}(ha:PE X x (tOf X.K (evE cl a)))(hb:PE X y (tOf X.K (evE cl b))):PE X (.BinOp x (opK op) y pos) (tOf X.K (evE cl (.bin op a b))):=by
 refine PE.imp (zbD (zgS op) ha hb) fun σ H Q h=>?_
 obtain ⟨as,env,m,S,G,P⟩:=h
 refine ⟨as,env,m,S,G,Post.bind P fun x m1 as1 H1 v T1 S1 R1 P1=>?_⟩
 refine ⟨as1,env,m1,S1,G.mono S T1,Post.bind P1 fun y m2 as2 H2 u T2 S2 R2 P2=>?_⟩
 exact zfE S2 (R1.mono S1 T2) R2 P2
theorem zfK (ha:PE X x (tOf X.K (evE cl a))):PE X (.UnaryOp .USub x pos) (tOf X.K (evE cl (.neg a))):=by
 refine PE.imp (zgD zft ha) fun σ H Q h=>?_
 obtain ⟨as,env,m,S,G,P⟩:=h
 refine ⟨as,env,m,S,G,Post.bind P fun x m1 as1 H1 v T1 S1 R1 P1=>?_⟩
 cases x with
 | int i =>
  obtain rfl:=rep_int.mp R1
  exact ⟨i,rfl,P1.ok S1 (rep_int.mpr rfl)⟩
 | _=>exact P1.elim
theorem zcd (ha:PE X x (tOf X.K (evE cl a))):PE X (.UnaryOp .Not x pos) (tOf X.K (evE cl (.not a))):=by
 refine PE.imp (zfi ha) fun σ H Q h=>?_
 obtain ⟨as,env,m,S,G,P⟩:=h
 refine ⟨as,env,m,S,G,Post.bind P fun x m1 as1 H1 v T1 S1 R1 P1=>?_⟩
 cases x with
 | bl k =>
  obtain rfl:=rep_bl.mp R1
  exact ⟨k,rfl,P1.ok S1 (rep_bl.mpr rfl)⟩
 | _=>exact P1.elim
theorem zfL (ha:PT X x (xz X.K (evE cl a))):PT X (.UnaryOp .Not x pos) (xz X.K (evE cl (.not a))):=by
 refine PT.imp (zbt ha) fun σ H Q h=>?_
 obtain ⟨as,env,m,S,G,P⟩:=h
 refine ⟨as,env,m,S,G,Post.bind P fun x m1 as1 H1 v T1 S1 R1 P1=>?_⟩
 cases x with
 | bl k =>
  obtain rfl:=rep_bl.mp R1
  obtain ⟨b,e,q⟩:=P1.ok S1 (rep_bl.mpr rfl)
  cases e
  exact ⟨k,rfl,q⟩
 | _=>exact P1.elim
theorem gk {K:PySem.W.Frag}{σ:St}{H:Hp}{Q:VK}(h:tOf K (evE cl (.and a b)) σ H Q):tOf K (evE cl a) σ H fun x H1=>∃k,x=.bl k/\if k=true then tOf K (evE cl b) σ H1 Q else Q (.bl false) H1:=by
 refine cps fun zP zk=>?_
 obtain ⟨as,env,m,S,G,P⟩:=h
 refine zk ?_
 refine ⟨as,env,m,S,G,Post.bind P fun x m1 as1 H1 v T1 S1 R1 P1=>?_⟩
 cases x with
 | bl k =>
  obtain rfl:=rep_bl.mp R1
  refine ⟨k,rfl,?_⟩
  cases k with
  | true=>exact jZ ⟨as1,env,m1,S1,G.mono S T1,P1⟩
  | false=>exact js (P1.ok S1 (rep_bl.mpr rfl))
 | _=>exact P1.elim
theorem zah {K:PySem.W.Frag}{σ:St}{H:Hp}{Q:VK}(h:tOf K (evE cl (.or a b)) σ H Q):tOf K (evE cl a) σ H fun x H1=>∃k,x=.bl k/\if k=true then Q (.bl true) H1 else tOf K (evE cl b) σ H1 Q:=by
 refine cps fun zP zk=>?_
 obtain ⟨as,env,m,S,G,P⟩:=h
 refine zk ?_
 refine ⟨as,env,m,S,G,Post.bind P fun x m1 as1 H1 v T1 S1 R1 P1=>?_⟩
 cases x with
 | bl k =>
  obtain rfl:=rep_bl.mp R1
  refine ⟨k,rfl,?_⟩
  cases k with
  | false=>exact js ⟨as1,env,m1,S1,G.mono S T1,P1⟩
  | true=>exact jZ (P1.ok S1 (rep_bl.mpr rfl))
 | _=>exact P1.elim
theorem gl {K:PySem.W.Frag}{g:En->Me->Rz}{σ:St}{H:Hp}{Q Q':VK}(h:tOf K g σ H Q)(k:∀v H,Q v H->Q' v H):tOf K g σ H Q':=by
 obtain ⟨as,env,m,S,G,P⟩:=h
 refine ⟨as,env,m,S,G,?_⟩
 cases hr:g env m with
 | ok w m'=>rw[hr] at P;exact fun as' H' v T S' R=>k _ _ (P as' H' v T S' R)
 | exc c w m'=>rw[hr] at P;exact P
 | no=>rw[hr] at P;exact P
theorem zce {r:List Expr}(ha:PE X x (tOf X.K (evE cl a)))(hb:PE X (.BoolOp .And (y::r) pos) (tOf X.K (evE cl b))):PE X (.BoolOp .And (x::y::r) pos) (tOf X.K (evE cl (.and a b))) :=
 PE.imp (zfh ha hb) fun σ H Q h=>gk h
theorem zgU {r:List Expr}(ha:PE X x (tOf X.K (evE cl a)))(hb:PE X (.BoolOp .Or (y::r) pos) (tOf X.K (evE cl b))):PE X (.BoolOp .Or (x::y::r) pos) (tOf X.K (evE cl (.or a b))) :=
 PE.imp (zgv ha hb) fun σ H Q h=>zah h
theorem PW.imp {e:Expr}{t t':TT}(h:PW X e t)(k:∀σ H Q,t' σ H Q->t σ H Q):PW X e t':=fun whole pins s σ H Q I q=>h whole pins s σ H Q I (k σ H Q q)
theorem zcf {r:List Expr}(ha:PT X x (xz X.K (evE cl a)))(hb:PW X (.BoolOp .And (y::r) pos) (xz X.K (evE cl b))):PW X (.BoolOp .And (x::y::r) pos) (xz X.K (evE cl (.and a b))) :=
 PW.imp (zfg ha hb) fun σ H Q h=>by
  refine gl (gk h) fun v H1 q=>?_
  obtain ⟨k,e,q⟩:=q
  refine ⟨k,e,?_⟩
  cases k with
  | true=>rw[if_pos rfl] at q ⊢;exact q
  | false =>
   rw[if_neg Bool.false_ne_true] at q ⊢
   obtain ⟨b',e',q⟩:=q
   cases e'
   exact q
theorem zgV {r:List Expr}(ha:PT X x (xz X.K (evE cl a)))(hb:PW X (.BoolOp .Or (y::r) pos) (xz X.K (evE cl b))):PW X (.BoolOp .Or (x::y::r) pos) (xz X.K (evE cl (.or a b))) :=
 PW.imp (zeO ha hb) fun σ H Q h=>by
  refine gl (zah h) fun v H1 q=>?_
  obtain ⟨k,e,q⟩:=q
  refine ⟨k,e,?_⟩
  cases k with
  | false=>rw[if_neg Bool.false_ne_true] at q ⊢;exact q
  | true =>
   rw[if_pos rfl] at q ⊢
   obtain ⟨b',e',q⟩:=q
   cases e'
   exact q
theorem zcg {op:CmpOp}{e:Expr}(h:y7 e=true):behindInMarks op e=false:=by
 cases e <;> first | rfl | cases h
theorem gm {K:PySem.W.Frag}{op:Co}{σ:St}{H:Hp}{Q:VK}(h:tOf K (evE cl (.cmp op a b)) σ H Q):tOp (rC K op) (tOf K (evE cl a)) (tOf K (evE cl b)) σ H Q:=by
 refine cps fun zP zk=>?_
 obtain ⟨as,env,m,S,G,P⟩:=h
 refine zk ?_
 refine ⟨as,env,m,S,G,Post.bind P fun x m1 as1 H1 v T1 S1 R1 P1=>?_⟩
 refine ⟨as1,env,m1,S1,G.mono S T1,Post.bind P1 fun y m2 as2 H2 u T2 S2 R2 P2=>?_⟩
 exact ⟨as2,m2,x,y,S2,R1.mono S1 T2,R2,P2⟩
theorem zch {op:Co}(hu:X.A.units+64 < cLine)(ha:PE X x (tOf X.K (evE cl a)))(hb:PE X y (tOf X.K (evE cl b)))(hs:y7 y=true):PE X (.Compare x [cK op] [y] pos) (tOf X.K (evE cl (.cmp op a b))) :=
 PE.imp (zdw (jf hu op) ha hb (zcg hs)) fun σ H Q h=>gm h
theorem zfM {op:Co}(hu:X.A.units+64 < cLine)(ha:PE X x (tOf X.K (evE cl a)))(hb:PE X y (tOf X.K (evE cl b)))(hs:y7 y=true):PT X (.Compare x [cK op] [y] pos) (xz X.K (evE cl (.cmp op a b))) :=
 PT.imp (zdx (jf hu op) ha hb (zcg hs)) fun σ H Q h=>gm h
end
section
variable {cl:Nat->List Wd->Me->Rz}{X:Cx}{a b c:Ex}{x y z:Expr}{pos:Pos}
theorem kr {K:PySem.W.Frag}{p q:Co}{σ:St}{H:Hp}{Q:VK}(h:tOf K (evE cl (.chain p q a b c)) σ H Q):gX (rC K p) (rC K q) (tOf K (evE cl a)) (tOf K (evE cl b)) (tOf K (evE cl c)) σ H Q:=by
 refine cps fun zP zk=>?_
 obtain ⟨as,env,m,S,G,P⟩:=h
 refine zk ?_
 refine ⟨as,env,m,S,G,Post.bind P fun x m1 as1 H1 v T1 S1 R1 P1=>?_⟩
 refine ⟨as1,env,m1,S1,G.mono S T1,Post.bind P1 fun y m2 as2 H2 u T2 S2 R2 P2=>?_⟩
 refine ⟨as2,m2,x,y,S2,R1.mono S1 T2,R2,Post.bind P2 fun z m3 as3 H3 w T3 S3 R3 P3=>?_⟩
 cases z with
 | bl k =>
  obtain rfl:=rep_bl.mp R3
  refine ⟨k,rfl,?_⟩
  cases k with
  | false=>exact js (P3.ok S3 (rep_bl.mpr rfl))
  | true =>
   refine jZ ⟨as3,env,m3,S3,((G.mono S T1).mono S1 T2).mono S2 T3,Post.bind P3 fun t m4 as4 H4 r T4 S4 R4 P4=>?_⟩
   exact ⟨as4,m4,y,t,S4,(R2.mono S2 T3).mono S3 T4,R4,P4⟩
 | _=>exact P3.elim
theorem zci {o o':CmpOp}(h:y7 z=true):lastMarks [o,o'] [y,z]=false:=by
 show behindInMarks o' z=false
 exact zcg h
theorem gp {p q:Co}(hu:X.A.units+64 < cLine)(ha:PE X x (tOf X.K (evE cl a)))(hb:PE X y (tOf X.K (evE cl b)))(hc:PE X z (tOf X.K (evE cl c)))(hs:y7 z=true):
  PE X (.Compare x [cK p,cK q] [y,z] pos) (tOf X.K (evE cl (.chain p q a b c))) :=
 PE.imp (zbF (jf hu p) (jf hu q) ha hb hc (zci hs)) fun σ H Q h=>kr h
theorem zcj {p q:Co}(hu:X.A.units+64 < cLine)(ha:PE X x (tOf X.K (evE cl a)))(hb:PE X y (tOf X.K (evE cl b)))(hc:PE X z (tOf X.K (evE cl c)))(hs:y7 z=true):
  PT X (.Compare x [cK p,cK q] [y,z] pos) (xz X.K (evE cl (.chain p q a b c))) :=
 PT.imp (zbG (jf hu p) (jf hu q) ha hb hc (zci hs)) fun σ H Q h=>kr h
theorem zdS:PA X [] (vv X.K (evE cl .unit)):=PA.imp yk fun σ H Q h=>by
 obtain ⟨as,env,m,S,G,P⟩:=h
 exact P as H [] .refl S (repL_nil.mpr rfl)
theorem zdT {xs:List Expr}(ha:PE X x (tOf X.K (evE cl a)))(hb:PA X xs (vv X.K (evE cl b)))(hs:zL x=true):PA X (x::xs) (vv X.K (evE cl (.pair a b))):=by
 refine PA.imp (zD ha hb (zu hs)) fun σ H Q h=>?_
 obtain ⟨as,env,m,S,G,P⟩:=h
 refine ⟨as,env,m,S,G,?_⟩
 have P':PostA X.K as H Q ((evE cl a env m).bind fun x m1=>(evE cl b env m1).bind fun y m2=>.ok (.tup (x::zv y)) m2):=P
 cases hr:evE cl a env m with
 | no=>rw[hr] at P';exact P'
 | exc c w m'=>rw[hr] at P';exact P'
 | ok w m1 =>
  rw[hr] at P'
  intro as1 H1 v T1 S1 R1
  refine ⟨as1,env,m1,S1,G.mono S T1,?_⟩
  simp only[Rz.bind] at P'
  cases hr2:evE cl b env m1 with
  | no=>rw[hr2] at P';exact P'
  | exc c w' m'=>rw[hr2] at P';exact P'
  | ok w' m2 =>
   rw[hr2] at P'
   intro as2 H2 vs T2 S2 R2
   exact P' as2 H2 (v::vs) (T1.trans T2) S2 (repL_cons.mpr ⟨v,vs,rfl,R1.mono S1 T2,R2⟩)
theorem zdU {C:Ctx}{d k:Nat}{nm:Str}{p:Pos}{xs:List Expr}(hC:CtxOk C X cl d)(hk:C.fns[k]?=some nm)(hg:X.env.scope.names.lookup nm=some .globalImplicit)(hn:zV nm=true)
  (hs:(x::xs).all zL=true) (ha:PA X (x::xs) (vv X.K (evE cl a))):PE X (.Call (.Name nm p) (x::xs) [] pos) (tOf X.K (evE cl (.call k a))):=by
 refine cps fun zP zk=>?_
 obtain ⟨f,fd,ps,h1,h2,h3,h4⟩:=hC.fn k nm hk
 refine zk ?_
 have hs':=hs
 rw[List.all_cons,Bool.and_eq_true] at hs'
 have hdb:(nm == ("__debug__" : Str))=false:=by
  unfold zV at hn
  simp only[Bool.and_eq_true,Bool.not_eq_true'] at hn
  exact hn.1.1
 refine PE.imp (zdA h4 hC.room hg h1 h2 h3 .nil (zgP (X:=X)) ha hdb (zu hs'.1) (yE hs'.2)) fun σ H Q h=>?_
 refine cps fun zP zj=>?_
 obtain ⟨as,env,m,S,G,P⟩:=h
 refine zj ?_
 refine ⟨as,env,m,S,G,PostA.bind P fun w m1 as1 H1 vs T1 S1 R1 P1=>?_⟩
 refine ⟨as1,m1,zv w,S1,?_,P1⟩
 rw[List.append_nil]
 exact R1
theorem jg {nm:Str}(hn:zV nm=true):(nm == ("__debug__" : Str))=false/\(nm == ("__classdict__" : Str))=false/\nm ≠ "__name__" := by
 unfold zV at hn
 simp only[Bool.and_eq_true,Bool.not_eq_true'] at hn
 exact ⟨hn.1.1,hn.1.2,by simpa using hn.2⟩
theorem zfN {C:Ctx}{d:Nat}{bf:Blf}{nm:Str}{f:Value}{p:Pos}{xs:List Expr}(hC:CtxOk C X cl d)(hb:zfF bf=some (nm,f))(hg:X.env.scope.names.lookup nm=some .globalImplicit)(hn:zV nm=true)
  (hs:(x::xs).all zL=true) (ha:PA X (x::xs) (vv X.K (evE cl a))):PE X (.Call (.Name nm p) (x::xs) [] pos) (tOf X.K (evE cl (.blt bf a))):=by
 obtain ⟨n1,n2,n3⟩:=jg hn
 have hs':=hs
 rw[List.all_cons,Bool.and_eq_true] at hs'
 have hc:=zca hC.calm hb
 have go:PE X (.Call (.Name nm p) (x::xs) [] pos) (tCB (rBl X.K bf) (vv X.K (evE cl a))):=by
  cases bf with
  | len=>cases hb;exact yB hc hg (hC.blt _ (by simp[zB])) PySem.boot_len ha n3 n1 (zu hs'.1) (yE hs'.2)
  | int=>cases hb;exact wt hc hg (hC.blt _ (by simp[zB])) PyProof.Rows.boot_int ha n3 n1 (zu hs'.1) (yE hs'.2)
  | list=>cases hb;exact wt hc hg (hC.blt _ (by simp[zB])) PyProof.Rows.boot_list ha n3 n1 (zu hs'.1) (yE hs'.2)
  | sum=>cases hb;exact yB hc hg (hC.blt _ (by simp[zB])) PyProof.Rows.boot_sum ha n3 n1 (zu hs'.1) (yE hs'.2)
  | min2=>cases hb;exact yB hc hg (hC.blt _ (by simp[zB])) PyProof.Rows.boot_min ha n3 n1 (zu hs'.1) (yE hs'.2)
  | _=>cases hb
 refine PE.imp go fun σ H Q h=>?_
 obtain ⟨as,env,m,S,G,P⟩:=h
 refine ⟨as,env,m,S,G,PostA.bind P fun w m1 as1 H1 vs T1 S1 R1 P1=>?_⟩
 exact ⟨as1,m1,zv w,S1,R1,P1⟩
theorem zdV (t:Tg):bootBuiltins (Str.ofString (tgT t))=some (.type (tgT t)):=by
 cases t <;> decide +kernel
theorem zfO {C:Ctx}{d:Nat}{t:Tg}{p p':Pos}(hC:CtxOk C X cl d)(hg:X.env.scope.names.lookup ("isinstance" : Str)=some .globalImplicit)(hg':X.env.scope.names.lookup (Str.ofString (tgT t))=some .globalImplicit)
  (hs:zL x=true) (ha:PE X x (tOf X.K (evE cl a))):PE X (.Call (.Name "isinstance" p) [x,.Name (Str.ofString (tgT t)) p'] [] pos) (tOf X.K (evE cl (.isi t a))):=by
 have hm:X.mg (Str.ofString (tgT t))=none:=hC.blt _ (by cases t <;> decide +kernel)
 have hty:PE X (.Name (Str.ofString (tgT t)) p') (tC (.ty (tgT t))):=qS hg' hm (zdV t) rfl (by cases t <;> decide +kernel) (by cases t <;> decide +kernel)
 refine PE.imp (yB (zcc t) hg (hC.blt _ (by simp[zB])) PyProof.Rows.boot_isinstance (zD ha (zD hty yk) (zu hs)) (by decide +kernel) (by decide +kernel) (zu hs) rfl) fun σ H Q h=>?_
 refine cps fun zP zk=>?_
 obtain ⟨as,env,m,S,G,P⟩:=h
 refine zk ?_
 refine ⟨as,env,m,S,G,Post.bind P fun w m1 as1 H1 v T1 S1 R1 P1=>?_⟩
 exact ⟨as1,m1,w,v,rfl,S1,R1,P1⟩
theorem zfP {xs:List Expr}(ha:PA X xs (vv X.K (evE cl a))):PE X (.List xs pos) (tOf X.K (evE cl (.lst a))):=by
 refine PE.imp (zbJ ha) fun σ H Q h=>?_
 obtain ⟨as,env,m,S,G,P⟩:=h
 refine ⟨as,env,m,S,G,PostA.bind P fun w m1 as1 H1 vs T1 S1 R1 P1=>?_⟩
 obtain ⟨h1,h2⟩:=wf S1 R1 P1
 exact ⟨Nat.le_trans h1 yY,h2⟩
theorem zfQ {xs:List Expr}{k:Nat}(ha:PA X xs (vv X.K (evE cl a))):PE X (.Tuple xs k pos) (tOf X.K (evE cl (.tup a))):=by
 refine PE.imp (zbI ha) fun σ H Q h=>?_
 obtain ⟨as,env,m,S,G,P⟩:=h
 refine ⟨as,env,m,S,G,PostA.bind P fun w m1 as1 H1 vs T1 S1 R1 P1=>?_⟩
 split at P1
 .rename_i hl
  refine ⟨by rw[<- R1.length];exact Nat.le_trans hl yY,fun p hp=>?_⟩
  obtain ⟨T,S',R'⟩:=S1.tup hp R1
  exact P1 _ _ _ T S' R'
 .exact P1.elim
theorem zfR (ha:PE X x (tOf X.K (evE cl a)))(hb:PE X y (tOf X.K (evE cl b)))(hs:wg y=true):PE X (.Subscript x y pos) (tOf X.K (evE cl (.idx a b))):=by
 have hp:qX y:=fun o i=>by cases y <;> first | rfl | cases hs
 refine PE.imp (zeS zfw ha hb hp) fun σ H Q h=>?_
 obtain ⟨as,env,m,S,G,P⟩:=h
 refine ⟨as,env,m,S,G,Post.bind P fun x m1 as1 H1 v T1 S1 R1 P1=>?_⟩
 refine ⟨as1,env,m1,S1,G.mono S T1,Post.bind P1 fun y m2 as2 H2 u T2 S2 R2 P2=>?_⟩
 exact zfG S2 (R1.mono S1 T2) R2 P2
end
section
variable {cl:Nat->List Wd->Me->Rz}{X:Cx}{a b c:Ex}{x y z:Expr}{pos:Pos}
theorem base_of {e:Expr}{f:Str}{env:Env}(h:vc e=true):attributeBase e f env (eval e env)=eval e env:=by
 cases e <;> first | rfl | cases h
theorem zfS {cp:Pos}{env:Env}{ys:List Expr}(h:ys.all zL=true)(hl:ys.length < 29):
  ((backTo cp (starEach ys env)).all (fun x=>!x.1) && (backToKw cp (keywordEach [] env)).all (fun x=>x.1.isSome)
   && decide (ys.length+([]:List Keyword).length+(if ([]:List Keyword).isEmpty then 0 else 1) < 30))=true:=by
 have all:∀ {es:List Expr},es.all zL=true->(backTo cp (starEach es env)).all (fun x=>!x.1)=true:=by
  intro es
  induction es with
  | nil=>intro _;rfl
  | cons e es ih =>
   intro h
   rw[List.all_cons,Bool.and_eq_true] at h
   rw[zu h.1]
   show (true && (backTo cp (starEach es env)).all (fun x=>!x.1))=true
   rw[ih h.2];rfl
 rw[all h]
 have e2:(backToKw cp (keywordEach [] env)).all (fun x=>x.1.isSome)=true:=rfl
 rw[e2]
 have e3:decide (ys.length+([]:List Keyword).length+(if ([]:List Keyword).isEmpty then 0 else 1) < 30)=true:=by
  apply decide_eq_true
  show ys.length+0+0 < 30
  lia
 rw[e3];rfl
theorem gq (k:Mth):Slot "list" (mtV k).1 (mtV k).2/\typeOf (.builtin (mtV k).2)=pure (.type "method_descriptor"):=by
 cases k with
 | append=>exact ⟨PySem.F.slot_list_append,PySem.F.type_list_append⟩
 | pop=>exact ⟨PySem.F.slot_list_pop,PySem.F.type_list_pop⟩
 | reverse=>exact ⟨PySem.F.slot_list_reverse,PySem.F.type_list_reverse⟩
 | clear=>exact ⟨PySem.F.slot_list_clear,PySem.F.type_list_clear⟩
theorem zck {k:Mth}{w:Wd}{ws:List Wd}{m:Me}(h:mtR k w ws m≠.no):∃l,w=.ref l:=by
 cases w with
 | ref l=>exact ⟨l,rfl⟩
 | _=>exact absurd rfl h
theorem zcl {K:PySem.W.Frag}{as:List Addr}{H:Hp}{m:Me}{w:Wd}{v:V}(S:Sim K as m H)(R:Rep K as H w v)(hw:∃l,w=.ref l):tyV K "list" v H:=by
 obtain ⟨l,rfl⟩:=hw
 obtain ⟨p,hp,rfl⟩:=rep_ref.mp R
 obtain ⟨us,e⟩:=S.isLst (List.mem_of_getElem? hp)
 exact .inl ⟨rfl,us,SqL.of e⟩
theorem zcm {k:Mth}{ap:Pos}(ho:PE X x (tOf X.K (evE cl a)))(hx:vc x=true)(hl:(ap.endLine == pos.line)=true):
  PE X (.Call (.Attribute x (mtV k).1 ap) [] [] pos) (tOf X.K (evE cl (.meth k a .unit))):=by
 obtain ⟨f1,f2⟩:=gq k
 refine PE.imp (zfx PySem.F.plainAttrs_list f1 f2 (zcb k) ho (base_of hx) hl) fun σ H Q h=>?_
 obtain ⟨as,env,m,S,G,P⟩:=h
 refine ⟨as,env,m,S,G,Post.bind P fun w m1 as1 H1 v T1 S1 R1 P1=>?_⟩
 have P2:Post X.K as1 H1 Q (mtR k w [] m1):=P1
 refine ⟨zcl S1 R1 (zck (k:=k) (ws:=[]) (m:=m1) fun z=>?_),as1,m1,w,[],S1,R1,repL_nil.mpr rfl,P2⟩
 rw[z] at P2
 exact P2
theorem zdW {k:Mth}{ap:Pos}{ys:List Expr}(ho:PE X x (tOf X.K (evE cl a)))(ha:PA X (y::ys) (vv X.K (evE cl b)))(hx:vc x=true)(hl:(ap.endLine == pos.line)=true)(hn:(y::ys).length < 29)(hs:(y::ys).all zL=true):
  PE X (.Call (.Attribute x (mtV k).1 ap) (y::ys) [] pos) (tOf X.K (evE cl (.meth k a b))):=by
 obtain ⟨f1,f2⟩:=gq k
 have isref:∀ {as:List Addr}{H:Hp}{Q:VK}{w:Wd}{env:En}{m:Me},Post X.K as H Q ((evE cl b env m).bind fun y m2=>mtR k w (zv y) m2)->∃l,w=.ref l:=fun {as H Q w env m} P=>by
  cases hr:evE cl b env m with
  | no=>rw[hr] at P;exact P.elim
  | exc c w' m'=>rw[hr] at P;exact P.elim
  | ok w' m' =>
   rw[hr] at P
   refine zck (k:=k) (ws:=zv w') (m:=m') fun z=>?_
   have P':Post X.K as H Q (mtR k w (zv w') m'):=P
   rw[z] at P'
   exact P'
 have hs':=hs
 rw[List.all_cons,Bool.and_eq_true] at hs'
 refine PE.imp (zgM PySem.F.plainAttrs_list f1 f2 (zcb k) ho ha (base_of hx) (zfS hs hn) hl (zu hs'.1) (yE hs'.2)) fun σ H Q h=>?_
 refine cps fun zP zk=>?_
 obtain ⟨as,env,m,S,G,P⟩:=h
 refine zk ?_
 refine ⟨as,env,m,S,G,Post.bind P fun w m1 as1 H1 v T1 S1 R1 P1=>⟨zcl S1 R1 (isref P1),?_⟩⟩
 refine ⟨as1,env,m1,S1,G.mono S T1,PostA.bind P1 fun w2 m2 as2 H2 vs T2 S2 R2 P2=>?_⟩
 exact ⟨as2,m2,w,zv w2,S2,R1.mono S1 T2,R2,P2⟩
theorem zcn {K:PySem.W.Frag}{as:List Addr}{H:Hp}{m:Me}{R:It->Hp->Prop}{i j:Int}(S:Sim K as m H)(h:PostI K as H R (zb6 (.int i) (.int j) (.int 1) m)):(-(2 ^ 62)<=i/\i < 2 ^ 62/\-(2 ^ 62)<=j/\j < 2 ^ 62)/\R (Itr i (j - i).toNat) H:=by
 have h':PostI K as H R (if -lim<=i/\i<=lim/\-lim<=j/\j<=lim/\((1:Int)=1\/(1:Int)=-1) then .ok (.tup (qp i 1 (kT i j 1))) m else .no):=h
 by_cases hc:-(lim:Int)<=i/\i<=lim/\-(lim:Int)<=j/\j<=lim/\((1:Int)=1\/(1:Int)=-1)
 .rw[if_pos hc] at h'
  have hlim:(lim:Int)=100000:=rfl
  refine ⟨by lia,h'.2 as H _ .refl S ?_⟩
  have e:kT i j 1=(j - i).toNat:=if_pos rfl
  rw[e]
  exact ⟨_,fun _=>True,zaU i (j - i).toNat (K:=K),trivial,kq 1 (j - i).toNat i,fun _ _ _ _=>trivial⟩
 .rw[if_neg hc] at h';exact h'.elim
theorem PostI.bind {K:PySem.W.Frag}{as:List Addr}{H:Hp}{R:It->Hp->Prop}{Q1:VK}{r:Rz}{f:Wd->Me->Rz}(h:PostI K as H R (r.bind f))
  (k:∀w m' as' H' v,Step as H as' H'->Sim K as' m' H'->Rep K as' H' w v->PostI K as' H' R (f w m')->Q1 v H'):Post K as H Q1 r:=by
 cases r with
 | ok w m' =>
  intro as2 H2 v U S Rr
  refine k w m' as2 H2 v U S Rr ?_
  have h':PostI K as H R (f w m'):=h
  cases hr:f w m' with
  | ok w2 m2=>rw[hr] at h';exact ⟨h'.1,fun as3 H3 J U3 S3 q=>h'.2 as3 H3 J (U.trans U3) S3 q⟩
  | exc c w2 m2=>rw[hr] at h';exact h'
  | no=>rw[hr] at h';exact h'
 | exc c w m'=>exact h
 | no=>exact h
theorem zdX {C:Ctx}{d:Nat}{p:Pos}{tg:Expr}(hC:CtxOk C X cl d)(hg:X.env.scope.names.lookup ("range" : Str)=some .globalImplicit)(hs:zL x=true)(hb:PE X x (tOf X.K (evE cl b))):
  PI X tg (.Call (.Name "range" p) [x] [] pos) (iOf X.K (evE cl (.rng (.lit (.int 0)) b (.lit (.int 1))))):=by
 refine PI.imp (zaE hg (hC.blt _ (by simp[zB])) (zD hb yk (zu hs)) (zu hs)) fun σ H R h=>?_
 refine cps fun zP zk=>?_
 obtain ⟨as,env,m,S,G,P⟩:=h
 refine zk ?_
 have P':PostI X.K as H R ((evE cl b env m).bind fun y m2=>zb6 (.int 0) y (.int 1) m2):=P
 refine ⟨as,env,m,S,G,PostI.bind P' fun w m1 as1 H1 v T1 S1 R1 P1=>?_⟩
 cases w with
 | int j =>
  obtain rfl:=rep_int.mp R1
  refine cps fun zP zj=>?_
  obtain ⟨⟨_,_,h1,h2⟩,q⟩:=zcn S1 P1
  refine zj ?_
  refine ⟨j,rfl,h1,h2,?_⟩
  simpa using q
 | _=>exact P1.elim
theorem zdY {C:Ctx}{d:Nat}{p p' pos':Pos}(hC:CtxOk C X cl d)(hgl:X.env.scope.names.lookup ("list" : Str)=some .globalImplicit)(hg:X.env.scope.names.lookup ("range" : Str)=some .globalImplicit)(hs:zL x=true)(ha:PE X x (tOf X.K (evE cl a))):
  PE X (.Call (.Name "list" p) [.Call (.Name "range" p') [x] [] pos'] [] pos) (tOf X.K (evE cl (.lrng a))):=by
 refine PE.imp (zdF hC.calm hgl (hC.blt _ (by simp[zB])) hg (hC.blt _ (by simp[zB])) (zD ha yk (zu hs)) (zu hs)) fun σ H Q h=>?_
 obtain ⟨as,env,m,S,G,P⟩:=h
 refine ⟨as,env,m,S,G,Post.bind P fun w m1 as1 H1 v T1 S1 R1 P1=>?_⟩
 cases w with
 | int j =>
  obtain rfl:=rep_int.mp R1
  have hlim:(lim:Int)=100000:=rfl
  have P1':Post X.K as1 H1 Q (if -(lim:Int)<=j/\j<=lim then alloc m1 (qp 0 1 j.toNat) else .no):=P1
  by_cases hc:-(lim:Int)<=j/\j<=lim
  .rw[if_pos hc] at P1'
   obtain ⟨h1,h2⟩:=wf S1 (kq 1 j.toNat 0) P1'
   have hz:j.toNat<=sizeLine:=Nat.le_trans (by have:lim=100000:=rfl;lia) yY
   exact ⟨j,rfl,by lia,by lia,hz,h2⟩
  .rw[if_neg hc] at P1';exact P1'.elim
 | _=>exact P1.elim
end
section
variable {cl:Nat->List Wd->Me->Rz}{K:PySem.W.Frag}
theorem Sim.updD {as:List Addr}{m:Me}{H:Hp}{D:Addr}{ys:List V}{o:HO}(S:Sim K as m H)(hD:H D=some (.lst ys))(hn:D∉as):Sim K as m (upd H D o):=by
 refine ⟨S.len,S.nd,fun l b ob h1 h2=>?_⟩
 have q:=S.obj l b ob h1 h2
 have hb:b≠D:=by rintro rfl;exact hn (List.mem_of_getElem? h1)
 cases ob with
 | lst zs =>
  obtain ⟨us,e,r⟩:=q
  exact ⟨us,by rw[zo hb];exact e,r.kp (Kp.upd hD)⟩
 | dct kvs=>exact q.elim
theorem Sim.join {as:List Addr}{m:Me}{H:Hp}{D:Addr}{ys:List V}{acc:List Wd}(S:Sim K as m H)(hD:H D=some (.lst ys))(hn:D∉as)(R:RepL K as H acc ys):Sim K (as++[D]) (m++[.lst acc]) H:=by
 have g:∀ (l:Nat) (a:Addr),as[l]?=some a->(as++[D])[l]?=some a:=fun l a e=>by
  rw[List.getElem?_append_left (List.getElem?_eq_some_iff.mp e).1];exact e
 have kp:Kp K H H:=⟨fun _ _ h=>h,fun _ _ h=>h⟩
 refine ⟨by simp[S.len],?_,fun l b o h1 h2=>?_⟩
 .refine List.nodup_append.mpr ⟨S.nd,by simp,fun x hx y hy=>?_⟩
  rw[List.mem_singleton.mp hy]
  rintro rfl
  exact hn hx
 .by_cases hl:l < as.length
  .rw[List.getElem?_append_left hl] at h1
   rw[List.getElem?_append_left (by rw[<- S.len];exact hl)] at h2
   have q:=S.obj l b o h1 h2
   cases o with
   | lst zs =>
    obtain ⟨us,e,r⟩:=q
    exact ⟨us,e,repL_mono kp g _ _ r⟩
   | dct kvs=>exact q.elim
  .rw[List.getElem?_append_right (by lia)] at h1
   rw[List.getElem?_append_right (by rw[<- S.len];lia)] at h2
   have hz:l - as.length=0:=by
    cases hq:l - as.length with
    | zero=>rfl
    | succ k=>rw[hq] at h1;simp at h1
   rw[hz] at h1
   rw[<- S.len,hz] at h2
   simp at h1 h2
   subst h1;subst h2
   exact ⟨ys,hD,repL_mono kp g _ _ R⟩
theorem Step.updD {as as':List Addr}{H H':Hp}{D:Addr}{o:HO}(T:Step as H as' H')(hD:H D=none):Step as H as' (upd H' D o) :=
 ⟨T.pre,fun b ob h hb=>by rw[zo (zC h hD)];exact T.frame b ob h hb,T.fresh⟩
theorem Step.join {as as':List Addr}{H H':Hp}{D:Addr}(T:Step as H as' H')(hD:H D=none):Step as H (as'++[D]) H':=by
 refine ⟨?_,T.frame,fun a ha=>?_⟩
 .obtain ⟨t,rfl⟩:=T.pre
  exact ⟨t++[D],by simp⟩
 .rcases List.mem_append.mp ha with z | z
  .exact T.fresh a z
  .rw[List.mem_singleton.mp z];exact .inr hD
theorem wT {as as':List Addr}{m:Me}{H H':Hp}{D:Addr}{ys:List V}{acc:List Wd}{Q:VK}(S:Sim K as' m H')(T:Step as H as' H')(h0:H D=none)(hD:H' D=some (.lst ys))(hn:D∉as')(R:RepL K as' H' acc ys)
  (h:Post K as H Q (alloc m acc)):Q (.ref D) H':=by
 unfold Mini.alloc at h
 split at h
 .refine h (as'++[D]) H' (.ref D) (T.join h0) (S.join hD hn R) (rep_ref.mpr ⟨D,?_,rfl⟩)
  rw[<- S.len,List.getElem?_append_right (Nat.le_refl _)]
  simp
 .exact h.elim
structure Mid (K:PySem.W.Frag)(as:List Addr)(H:Hp)(D:Addr)(env:En)(σ:St)(as':List Addr)(m':Me)(acc:List Wd)(ys:List V)(H':Hp):Prop where
 T:Step as H as' H'
 S:Sim K as' m' H'
 hD:H' D=some (.lst ys)
 n:D∉as'
 R:RepL K as' H' acc ys
 G:EnvRep K as' H' env σ
theorem Mid.go {as:List Addr}{H:Hp}{D:Addr}{env:En}{σ:St}{as' as2:List Addr}{m' m2:Me}{acc:List Wd}{ys:List V}{H' H2:Hp}(M:Mid K as H D env σ as' m' acc ys H')(U:Step as' H' as2 H2)(S2:Sim K as2 m2 H2):Mid K as H D env σ as2 m2 acc ys H2 :=
 ⟨M.T.trans U,S2,U.frame _ _ M.hD M.n,U.out M.hD M.n,M.R.mono M.S U,M.G.mono M.S U⟩
theorem Mid.push {as:List Addr}{H:Hp}{D:Addr}{env:En}{σ:St}{as':List Addr}{m':Me}{acc:List Wd}{ys:List V}{H':Hp}{w:Wd}{v:V}(M:Mid K as H D env σ as' m' acc ys H')(h0:H D=none)(R:Rep K as' H' w v):
  Mid K as H D env σ as' m' (acc++[w]) (ys++[v]) (upd H' D (.lst (ys++[v]))):=by
 have kp:Kp K H' (upd H' D (.lst (ys++[v]))):=Kp.upd M.hD
 exact ⟨M.T.updD h0,M.S.updD M.hD M.n,zp,M.n,(M.R.append (.one R)).kp kp,M.G.kp kp⟩
theorem vw {elt cond:Ex}{tc:TT}(htc:∀σ H Q,xz K (evE cl cond) σ H Q->tc σ H Q){as1 as':List Addr}{H1 H':Hp}{D:Addr}{env ex:En}{σ sx:St}{m':Me}{acc:List Wd}{ys:List V}{Q:VK}{next:List Wd->Me->Rz}{N:List V->Hp->Prop}
  (h0:H1 D=none) (M:Mid K as1 H1 D env σ as' m' acc ys H') (G:EnvRep K as' H' (env++ex) (σ++sx))
  (Pt:Post K as1 H1 Q ((evE cl cond (env++ex) m').bind fun b m1=>match b with
     | .bl true=>(evE cl elt (env++ex) m1).bind fun y m2=>if acc.length < lim then next (acc++[y]) m2 else .no
     | .bl false=>next acc m1
     | _=>.no))
  (hN:∀as2 m2 acc' ys' H2,Kp K H' H2->(∀ (l:Nat) (a:Addr),as'[l]?=some a->as2[l]?=some a)->Mid K as1 H1 D env σ as2 m2 acc' ys' H2->Post K as1 H1 Q (next acc' m2)->N ys' H2) :
  tc (σ++sx) H' fun b H2=>if b=true then tOf K (evE cl elt) (σ++sx) H2 fun y H3=>H3 D=some (.lst ys)/\ys.length < sizeLine/\N (ys++[y]) (upd H3 D (.lst (ys++[y]))) else N ys H2:=by
 refine htc _ _ _ ⟨as',env++ex,m',M.S,G,zib Pt M.T fun wb m2 as2 H2 vb T2 S2 R2 P2=>?_⟩
 have M2:=M.go T2 S2
 cases wb with
 | bl k =>
  obtain rfl:=rep_bl.mp R2
  refine ⟨k,rfl,?_⟩
  cases k with
  | false=>exact js (hN as2 m2 acc ys H2 (M.S.kp T2) (fun _ _ e=>T2.get e) M2 P2)
  | true =>
   refine jZ ⟨as2,env++ex,m2,S2,G.mono M.S T2,zib P2 M2.T fun wy m3 as3 H3 vy T3 S3 R3 P3=>?_⟩
   have M3:=M2.go T3 S3
   have P3':Post K as1 H1 Q (if acc.length < lim then next (acc++[wy]) m3 else .no):=P3
   by_cases hl:acc.length < lim
   .rw[if_pos hl] at P3'
    refine ⟨M3.hD,by rw[<- M3.R.length];exact Nat.lt_of_lt_of_le hl yY,hN as3 m3 (acc++[wy]) (ys++[vy]) _ ?_ (fun _ _ e=>T3.get (T2.get e)) (M3.push h0 R3) P3'⟩
    have k1:=M.S.kp T2
    have k2:=S2.kp T3
    have k3:Kp K H3 (upd H3 D (.lst (ys++[vy]))):=Kp.upd M3.hD
    exact ⟨fun a vs q=>k3.t _ _ (k2.t _ _ (k1.t _ _ q)),fun a vs q=>k3.f _ _ (k2.f _ _ (k1.f _ _ q))⟩
   .rw[if_neg hl] at P3';exact P3'.elim
 | _=>exact P2.elim
theorem Mid.start {as as1:List Addr}{H H1:Hp}{D:Addr}{env:En}{σ:St}{m1:Me}(S1:Sim K as1 m1 H1)(G1:EnvRep K as1 H1 env σ)(hD:H1 D=none):Mid K as1 H1 D env σ as1 m1 [] [] (upd H1 D (.lst [])):=by
 have T:Step as1 H1 as1 (upd H1 D (.lst [])):=Step.updD .refl hD
 exact ⟨T,S1.keep T fun b _ o e=>by rw[zo (zC e hD)];exact e,zp,S1.new hD,repL_nil.mpr rfl,G1.mono S1 T⟩
noncomputable def qs (K:PySem.W.Frag)(as:List Addr)(J:It)(g:Nat->Me->Option (Option (Wd×Wd))):Prop :=
 ∀ (as':List Addr) (m':Me) (H':Hp),(∀ (l:Nat) (a:Addr),as[l]?=some a->as'[l]?=some a)->Sim K as' m' H'->∀i,
  (g i m'=some none->J.stop i H')/\∀x y,g i m'=some (some (x,y))->J.go i H'/\∀v H'',J.yld i H' v H''->∃x' y',Yp H' v H'' x' y'/\Rep K as' H' x x'/\Rep K as' H' y y'
theorem ku {elt cond:Ex}{tc:TT}(htc:∀σ H Q,xz K (evE cl cond) σ H Q->tc σ H Q){as1:List Addr}{H1:Hp}{env:En}{σ:St}{m1:Me}{J:It}{g:Nat->Me->Option (Option (Wd×Wd))}{Q:VK}(hJ:qs K as1 J g)(S1:Sim K as1 m1 H1)(G1:EnvRep K as1 H1 env σ)
  (P:Post K as1 H1 Q (yP (fun u v m=>evE cl cond (env++[some u]++[some v]) m) (fun u v m=>evE cl elt (env++[some u]++[some v]) m) g (lim+1) 0 [] m1)) :
  ∀D,H1 D=none->∃W:Nat->Nat->List V->Hp->Prop,(∃m,W 0 m [] (upd H1 D (.lst [])))/\∀i m ys H,W i m ys H ->
   (J.stop i H/\Q (.ref D) H)\/(J.go i H/\∀v H',J.yld i H v H'->∃vs,un2 K v H' vs/\tc (σ++vs.map some) H' fun b H2=>if b=true then tOf K (evE cl elt) (σ++vs.map some) H2 fun y H3=>H3 D=some (.lst ys)/\ys.length < sizeLine/\∃m',m' < m/\W (i+1) m' (ys++[y]) (upd H3 D (.lst (ys++[y])))
    else ∃m',m' < m/\W (i+1) m' ys H2):=by
 intro D hD
 refine ⟨fun i n ys H'=>∃as' m' acc,(∀ (l:Nat) (a:Addr),as1[l]?=some a->as'[l]?=some a)/\Mid K as1 H1 D env σ as' m' acc ys H' /\
  Post K as1 H1 Q (yP (fun u v m=>evE cl cond (env++[some u]++[some v]) m) (fun u v m=>evE cl elt (env++[some u]++[some v]) m) g n i acc m'),⟨lim+1,as1,m1,[],fun _ _ e=>e,Mid.start (as:=as1) (H:=H1) S1 G1 hD,P⟩,?_⟩
 intro i n ys H' zz
 refine cps fun zP zk=>?_
 obtain ⟨as',m',acc,hl,M,Pi⟩:=zz
 refine zk ?_
 cases n with
 | zero=>exact Pi.elim
 | succ n =>
  unfold yP at Pi
  obtain ⟨q1,q2⟩:=hJ as' m' H' hl M.S i
  cases e:g i m' with
  | none=>rw[e] at Pi;exact Pi.elim
  | some o =>
   rw[e] at Pi
   cases o with
   | none=>exact .inl ⟨q1 e,wT M.S M.T hD M.hD M.n M.R Pi⟩
   | some p =>
    refine cps fun zP zj=>?_
    obtain ⟨x,y⟩:=p
    simp only[] at Pi
    obtain ⟨go,yl⟩:=q2 x y e
    refine zj ?_
    refine .inr ⟨go,fun v H'' hy=>?_⟩
    refine cps fun zP zi=>?_
    obtain ⟨x',y',⟨T,hT,rfl,rfl⟩,Rx,Ry⟩:=yl v H'' hy
    refine zi ?_
    refine ⟨[x',y'],⟨T,rfl,SqT.of zp,rfl⟩,?_⟩
    have U:Step as' H' as' (upd H' T (.tup [x',y'])):=Step.updD .refl hT
    have S2:Sim K as' m' (upd H' T (.tup [x',y'])):=M.S.keep U fun b _ o e=>by rw[zo (zC e hT)];exact e
    have M2:=M.go U S2
    have G2:EnvRep K as' (upd H' T (.tup [x',y'])) (env++[some x,some y]) (σ++[x',y'].map some):=by
     have:=(M2.G.push (Rx.mono M.S U)).push (Ry.mono M.S U)
     simpa using this
    refine vw htc (ex:=[some x,some y]) (next:=fun acc m=>yP (fun u v m=>evE cl cond (env++[some u]++[some v]) m) (fun u v m=>evE cl elt (env++[some u]++[some v]) m) g n (i+1) acc m)
     (N:=fun zs H2=>∃n',n' < n+1/\∃as' m' acc,(∀ (l:Nat) (a:Addr),as1[l]?=some a->as'[l]?=some a)/\Mid K as1 H1 D env σ as' m' acc zs H2/\Post K as1 H1 Q (yP (fun u v m=>evE cl cond (env++[some u]++[some v]) m) (fun u v m=>evE cl elt (env++[some u]++[some v]) m) g n' (i+1) acc m')) hD M2 G2 (by rw[show env++[some x]++[some y]=env++[some x,some y] from by simp] at Pi;exact Pi) ?_
    intro as2 m2 acc' ys' H2 kp gg M3 P3
    exact ⟨n,Nat.lt_succ_self _,as2,m2,acc',fun l a e=>gg _ _ (hl l a e),M3,P3⟩
theorem qt {as:List Addr}{la lb:Nat}{a b:Addr}(ha:as[la]?=some a)(hb:as[lb]?=some b):qs K as (Itz K a b) (yo .zip (.ref la) (.ref lb)):=by
 intro as' m' H' hl S i
 simp only[yo]
 cases e1:zN m' la with
 | none=>exact ⟨fun z=>by simp at z,fun x y z=>by simp at z⟩
 | some xs =>
  cases e2:zN m' lb with
  | none=>exact ⟨fun z=>by simp at z,fun x y z=>by simp at z⟩
  | some ys =>
   refine cps fun zP zk=>?_
   obtain ⟨a',us,ha',eH,RL⟩:=yq S (yc e1)
   rw[hl _ _ ha] at ha';cases ha'
   obtain ⟨b',vs,hb',eH2,RL2⟩:=yq S (yc e2)
   refine zk ?_
   rw[hl _ _ hb] at hb';cases hb'
   simp only
   cases ex:xs[i]? with
   | none =>
    refine ⟨fun _=>⟨us,vs,SqL.of eH,SqL.of eH2,.inl ?_⟩,fun x y z=>by simp at z⟩
    rw[<- RL.length];exact List.getElem?_eq_none_iff.mp ex
   | some x =>
    cases ey:ys[i]? with
    | none =>
     refine ⟨fun _=>⟨us,vs,SqL.of eH,SqL.of eH2,.inr ?_⟩,fun x y z=>by simp at z⟩
     rw[<- RL2.length];exact List.getElem?_eq_none_iff.mp ey
    | some y =>
     refine ⟨fun z=>by simp at z,fun x2 y2 z=>?_⟩
     simp only[Option.some.injEq,Prod.mk.injEq] at z
     refine cps fun zP zj=>?_
     obtain ⟨rfl,rfl⟩:=z
     obtain ⟨u0,hu0,Ru⟩:=RL.get ex
     obtain ⟨v0,hv0,Rv⟩:=RL2.get ey
     refine zj ?_
     refine ⟨⟨us,vs,u0,v0,SqL.of eH,SqL.of eH2,hu0,hv0⟩,fun v H'' hy=>?_⟩
     refine cps fun zP zi=>?_
     obtain ⟨p,q,yp,k1,k2⟩:=hy
     refine zi ?_
     have:=k1 us (SqL.of eH)
     rw[hu0] at this;cases this
     have:=k2 vs (SqL.of eH2)
     rw[hv0] at this;cases this
     exact ⟨_,_,yp,Ru,Rv⟩
theorem gr {as:List Addr}{la c:Nat}{a:Addr}(ha:as[la]?=some a):qs K as (Ite K c a) (yo .enum (.ref la) (.int (c:Int))):=by
 intro as' m' H' hl S i
 simp only[yo]
 cases e1:zN m' la with
 | none=>exact ⟨fun z=>by simp at z,fun x y z=>by simp at z⟩
 | some xs =>
  refine cps fun zP zk=>?_
  obtain ⟨a',us,ha',eH,RL⟩:=yq S (yc e1)
  refine zk ?_
  rw[hl _ _ ha] at ha';cases ha'
  simp only
  cases ex:xs[i]? with
  | none =>
   refine ⟨fun _=>⟨us,SqL.of eH,?_⟩,fun x y z=>by simp at z⟩
   rw[<- RL.length];exact List.getElem?_eq_none_iff.mp ex
  | some x =>
   refine ⟨fun z=>by simp at z,fun x2 y2 z=>?_⟩
   simp only[Option.map_some,Option.some.injEq,Prod.mk.injEq] at z
   refine cps fun zP zj=>?_
   obtain ⟨rfl,rfl⟩:=z
   obtain ⟨u0,hu0,Ru⟩:=RL.get ex
   refine zj ?_
   refine ⟨⟨us,u0,SqL.of eH,hu0⟩,fun v H'' hy=>?_⟩
   obtain ⟨p,yp,k1⟩:=hy
   have:=k1 us (SqL.of eH)
   rw[hu0] at this;cases this
   exact ⟨_,_,yp,rep_int.mpr (by congr 1;lia),Ru⟩
theorem bind_ok {w:Wd}{m:Me}{f:Wd->Me->Rz}:(Rz.ok w m).bind f=f w m:=rfl
theorem ky {c e:Wd->Wd->Me->Rz}{g:Nat->Me->Option (Option (Wd×Wd))}{k i:Nat}{acc:List Wd}{m:Me}(h:g i m=none):yP c e g (k+1) i acc m=.no:=by
 unfold yP
 rw[h]
set_option tactic.hygienic true in
theorem qu {w w2:Wd}{i:Nat}{m:Me}{o:Option (Wd×Wd)}(e:yo .zip w w2 i m=some o):∃la lb xs ys,w=.ref la/\w2=.ref lb/\zN m la=some xs/\zN m lb=some ys:=by
 unfold yo at e
 split at e
 .next la lb _ =>
  split at e
  .next xs ys e1 e2=>exact ⟨la,lb,xs,ys,rfl,rfl,e1,e2⟩
  .cases e
 .next h=>cases h
 .cases e
set_option tactic.hygienic true in
theorem gs {w w2:Wd}{i:Nat}{m:Me}{o:Option (Wd×Wd)}(e:yo .enum w w2 i m=some o):∃la xs,w=.ref la/\zN m la=some xs:=by
 unfold yo at e
 split at e
 .next h=>cases h
 .next la s _ =>
  split at e
  .next xs e1=>exact ⟨la,xs,rfl,e1⟩
  .cases e
 .cases e
theorem kz {elt a b cond:Ex}{tc:TT}(htc:∀σ H Q,xz K (evE cl cond) σ H Q->tc σ H Q){σ:St}{H:Hp}{Q:VK}(h:tOf K (evE cl (.compP .zip elt a b cond)) σ H Q):
  ja (un2 K) (zgR K (jX (tOf K (evE cl a)) (jX (tOf K (evE cl b)) zdz))) tc (tOf K (evE cl elt)) σ H Q:=by
 refine cps fun zP zk=>?_
 obtain ⟨as,env,m,S,G,P⟩:=h
 refine zk ?_
 have P':Post K as H Q ((evE cl a env m).bind fun x m1=>(evE cl b env m1).bind fun y m2 =>
  yP (fun u v m=>evE cl cond (env++[some u]++[some v]) m) (fun u v m=>evE cl elt (env++[some u]++[some v]) m) (yo .zip x y) (lim+1) 0 [] m2):=P
 refine ⟨as,env,m,S,G,zib P' .refl fun w m1 as1 H1 v T1 S1 R1 P1=>?_⟩
 refine ⟨as1,env,m1,S1,G.mono S T1,zib P1 T1 fun w2 m2 as2 H2 v2 T2 S2 R2 P2=>?_⟩
 have P3:=Post.step P2 (T1.trans T2)
 have G2:=(G.mono S T1).mono S1 T2
 have look:∃la lb xs ys,w=.ref la/\w2=.ref lb/\zN m2 la=some xs/\zN m2 lb=some ys:=by
  cases e:yo .zip w w2 0 m2 with
  | none=>rw[ky e] at P3;exact P3.elim
  | some o=>exact qu e
 refine cps fun zP zj=>?_
 obtain ⟨la,lb,xs,ys,rfl,rfl,e1,e2⟩:=look
 obtain ⟨a1,ha1,rfl⟩:=rep_ref.mp R1
 obtain ⟨b1,hb1,rfl⟩:=rep_ref.mp R2
 have ha2:=T2.get ha1
 obtain ⟨a',us,ha',eH,RL⟩:=yq S2 (yc e1)
 rw[ha2] at ha';cases ha'
 obtain ⟨b',vs,hb',eH2,RL2⟩:=yq S2 (yc e2)
 refine zj ?_
 rw[hb1] at hb';cases hb'
 exact ⟨a1,b1,us,vs,rfl,SqL.of eH,SqL.of eH2,ku htc (qt ha2 hb1) S2 G2 P3⟩
theorem qv {c:Nat}{z:Int}(hz:z=(c:Int)){elt a cond:Ex}{tc:TT}(htc:∀σ H Q,xz K (evE cl cond) σ H Q->tc σ H Q){σ:St}{H:Hp}{Q:VK}(h:tOf K (evE cl (.compP .enum elt a (.lit (.int z)) cond)) σ H Q):
  ja (un2 K) (zeT K c (jX (tOf K (evE cl a)) zdz)) tc (tOf K (evE cl elt)) σ H Q:=by
 subst hz
 refine cps fun zP zk=>?_
 obtain ⟨as,env,m,S,G,P⟩:=h
 refine zk ?_
 have hl:∀m1,evE cl (.lit (.int (c:Int))) env m1=.ok (.int (c:Int)) m1:=fun _=>rfl
 have P':Post K as H Q ((evE cl a env m).bind fun x m1=>(evE cl (.lit (.int (c:Int))) env m1).bind fun y m2 =>
  yP (fun u v m=>evE cl cond (env++[some u]++[some v]) m) (fun u v m=>evE cl elt (env++[some u]++[some v]) m) (yo .enum x y) (lim+1) 0 [] m2):=P
 refine ⟨as,env,m,S,G,zib P' .refl fun w m1 as1 H1 v T1 S1 R1 P1=>?_⟩
 rw[hl,bind_ok] at P1
 have P3:=Post.step P1 T1
 have look:∃la xs,w=.ref la/\zN m1 la=some xs:=by
  cases e:yo .enum w (.int (c:Int)) 0 m1 with
  | none=>rw[ky e] at P3;exact P3.elim
  | some o=>exact gs e
 refine cps fun zP zj=>?_
 obtain ⟨la,xs,rfl,e1⟩:=look
 obtain ⟨a1,ha1,rfl⟩:=rep_ref.mp R1
 obtain ⟨a',us,ha',eH,RL⟩:=yq S1 (yc e1)
 refine zj ?_
 rw[ha1] at ha';cases ha'
 exact ⟨a1,us,rfl,SqL.of eH,ku htc (gr ha1) S1 (G.mono S T1) P3⟩
theorem zaV {elt it cond:Ex}{tc:TT}(htc:∀σ H Q,xz K (evE cl cond) σ H Q->tc σ H Q){σ:St}{H:Hp}{Q:VK}(h:tOf K (evE cl (.comp elt it cond)) σ H Q):
  ja un1 (iOf K (evE cl it)) tc (tOf K (evE cl elt)) σ H Q:=by
 refine cps fun zP zk=>?_
 obtain ⟨as,env,m,S,G,P⟩:=h
 refine zk ?_
 refine ⟨as,env,m,S,G,?_⟩
 have P':Post K as H Q ((evE cl it env m).bind fun x m1=>match x with
  | .tup xs=>xc (fun x m=>evE cl cond (env++[some x]) m) (fun x m=>evE cl elt (env++[some x]) m) xs [] m1
  | .rol xs=>xc (fun x m=>evE cl cond (env++[some x]) m) (fun x m=>evE cl elt (env++[some x]) m) xs [] m1
  | .ref l=>xf (fun x m=>evE cl cond (env++[some x]) m) (fun x m=>evE cl elt (env++[some x]) m) l (lim+1) 0 [] m1
  | _=>.no):=P
 clear P
 cases hr:evE cl it env m with
 | no=>rw[hr] at P';exact P'
 | exc c w m'=>rw[hr] at P';exact P'
 | ok w m1 =>
  rw[hr] at P'
  have start:∀ {as1:List Addr}{H1:Hp}{D:Addr},Step as H as1 H1->Sim K as1 m1 H1->H1 D=none->Mid K as1 H1 D env σ as1 m1 [] [] (upd H1 D (.lst [])):=fun {as1 H1 D} T1 S1 hD=>Mid.start (as:=as) (H:=H) S1 (G.mono S T1) hD
  -- over items that stay
  have seqs:∀ (xs:List Wd),Post K as H Q (xc (fun x m=>evE cl cond (env++[some x]) m) (fun x m=>evE cl elt (env++[some x]) m) xs [] m1) ->
    ∀as1 H1 J,Step as H as1 H1->Sim K as1 m1 H1->zag K as1 H1 J xs->∀D,H1 D=none->∃W:Nat->Nat->List V->Hp->Prop,(∃m,W 0 m [] (upd H1 D (.lst [])))/\∀i m ys H,W i m ys H ->
     (J.stop i H/\Q (.ref D) H)\/(J.go i H/\∀v H',J.yld i H v H'->∃vs,un1 v H' vs/\tc (σ++vs.map some) H' fun b H2=>if b=true then tOf K (evE cl elt) (σ++vs.map some) H2 fun y H3=>H3 D=some (.lst ys)/\ys.length < sizeLine/\∃m',m' < m/\W (i+1) m' (ys++[y]) (upd H3 D (.lst (ys++[y])))
      else ∃m',m' < m/\W (i+1) m' ys H2):=by
   intro xs Pc as1 H1 J T1 S1 hI D hD
   refine cps fun zP zj=>?_
   obtain ⟨vs,ok,hJ,ok1,RL,stab⟩:=hI
   refine zj ?_
   have Pc1:=Post.step Pc T1
   have hlen:=RL.length
   refine ⟨fun i n ys H'=>∃as' m' acc,i<=xs.length/\n=xs.length - i/\Mid K as1 H1 D env σ as' m' acc ys H'/\ok H'/\RepL K as' H' xs vs /\
    Post K as1 H1 Q (xc (fun x m=>evE cl cond (env++[some x]) m) (fun x m=>evE cl elt (env++[some x]) m) (xs.drop i) acc m'),
    ⟨xs.length,as1,m1,[],Nat.zero_le _,rfl,start T1 S1 hD,stab _ _ (S1.kp (start T1 S1 hD).T) ok1,RL.mono S1 (start T1 S1 hD).T,Pc1⟩,?_⟩
   intro i n ys H' zz
   refine cps fun zP zi=>?_
   obtain ⟨as',m',acc,hi,rfl,M,okH,RL',Pi⟩:=zz
   refine zi ?_
   by_cases hlt:i < xs.length
   .refine .inr ⟨hJ.go i H' okH (by rw[<- hlen];exact hlt),fun v H'' hy=>?_⟩
    refine cps fun zP zh=>?_
    obtain ⟨rfl,hv⟩:=hJ.yld i H' v H'' okH (by rw[<- hlen];exact hlt) hy
    obtain ⟨v',hv',Rx⟩:=RL'.get (i:=i) (x:=xs[i]) (by simp[hlt])
    refine zh ?_
    rw[hv] at hv';cases hv'
    rw[List.drop_eq_getElem_cons hlt] at Pi
    refine ⟨[v],rfl,vw htc (sx:=[some v]) (next:=fun acc m=>xc (fun x m=>evE cl cond (env++[some x]) m) (fun x m=>evE cl elt (env++[some x]) m) (xs.drop (i+1)) acc m) (N:=fun zs H2=>∃n',n' < xs.length - i/\∃as' m' acc,i+1<=xs.length/\n'=xs.length - (i+1)/\Mid K as1 H1 D env σ as' m' acc zs H2/\ok H2/\RepL K as' H2 xs vs/\Post K as1 H1 Q (xc (fun x m=>evE cl cond (env++[some x]) m) (fun x m=>evE cl elt (env++[some x]) m) (xs.drop (i+1)) acc m')) hD M (M.G.push Rx) Pi ?_⟩
    intro as2 m2 acc' ys' H2 kp g M2 P2
    exact ⟨xs.length - (i+1),by lia,as2,m2,acc',hlt,rfl,M2,stab _ _ kp okH,repL_mono kp g _ _ RL',P2⟩
   .have e:i=xs.length:=by lia
    subst e
    rw[List.drop_length] at Pi
    exact .inl ⟨hJ.stop _ H' okH (by lia),wT M.S M.T hD M.hD M.n M.R Pi⟩
  cases w with
  | tup xs=>exact ⟨rfl,fun as1 H1 J T1 S1 hI=>seqs xs P' as1 H1 J T1 S1 hI⟩
  | rol xs=>exact ⟨rfl,fun as1 H1 J T1 S1 hI=>seqs xs P' as1 H1 J T1 S1 hI⟩
  | ref l =>
   have P2:Post K as H Q (xf (fun x m=>evE cl cond (env++[some x]) m) (fun x m=>evE cl elt (env++[some x]) m) l (lim+1) 0 [] m1):=P'
   refine ⟨?_,fun as1 H1 J T1 S1 hI D hD=>?_⟩
   .show (zN m1 l).isSome=true
    cases e:zN m1 l with
    | some xs=>rfl
    | none =>
     unfold xf at P2
     rw[e] at P2
     exact P2.elim
   .obtain ⟨a,ha,rfl⟩:=hI
    have Pc1:=Post.step P2 T1
    refine ⟨fun i n ys H'=>∃as' m' acc,as'[l]?=some a/\Mid K as1 H1 D env σ as' m' acc ys H' /\
     Post K as1 H1 Q (xf (fun x m=>evE cl cond (env++[some x]) m) (fun x m=>evE cl elt (env++[some x]) m) l n i acc m'),⟨lim+1,as1,m1,[],ha,start T1 S1 hD,Pc1⟩,?_⟩
    intro i n ys H' zz
    refine cps fun zP zg=>?_
    obtain ⟨as',m',acc,hl,M,Pi⟩:=zz
    refine zg ?_
    cases n with
    | zero=>exact Pi.elim
    | succ n =>
     unfold xf at Pi
     cases e:zN m' l with
     | none=>rw[e] at Pi;exact Pi.elim
     | some xs =>
      rw[e] at Pi
      simp only[] at Pi
      refine cps fun zP zf=>?_
      obtain ⟨a',vs,ha',eH,RL⟩:=yq M.S (yc e)
      refine zf ?_
      rw[hl] at ha';cases ha'
      cases ex:xs[i]? with
      | none =>
       rw[ex] at Pi
       have hle:vs.length<=i:=by rw[<- RL.length];exact List.getElem?_eq_none_iff.mp ex
       exact .inl ⟨⟨vs,SqL.of eH,hle⟩,wT M.S M.T hD M.hD M.n M.R Pi⟩
      | some x =>
       rw[ex] at Pi
       obtain ⟨v0,hv0,Rx⟩:=RL.get ex
       refine .inr ⟨⟨vs,v0,SqL.of eH,hv0⟩,fun v H'' hy=>?_⟩
       obtain ⟨rfl,hy⟩:=hy
       have:=hy vs (SqL.of eH)
       rw[hv0] at this;cases this
       refine ⟨[v0],rfl,vw htc (sx:=[some v0]) (next:=fun acc m=>xf (fun x m=>evE cl cond (env++[some x]) m) (fun x m=>evE cl elt (env++[some x]) m) l n (i+1) acc m) (N:=fun zs H2=>∃n',n' < n+1/\∃as' m' acc,as'[l]?=some a/\Mid K as1 H1 D env σ as' m' acc zs H2/\Post K as1 H1 Q (xf (fun x m=>evE cl cond (env++[some x]) m) (fun x m=>evE cl elt (env++[some x]) m) l n' (i+1) acc m')) hD M (M.G.push Rx) Pi ?_⟩
       intro as2 m2 acc' ys' H2 kp g M2 P2
       exact ⟨n,Nat.lt_succ_self _,as2,m2,acc',g _ _ hl,M2,P2⟩
  | non=>exact P'.elim
  | bl k=>exact P'.elim
  | int i=>exact P'.elim
  | str s=>exact P'.elim
end
section
variable {cl:Nat->List Wd->Me->Rz}
theorem Snd.pe {X:Cx}{e:Ex}{x:Expr}(h:Snd cl X e (.e x))(hr:zG e=false):PE X x (tOf X.K (evE cl e)):=(h.1 hr).1
theorem Snd.pt {X:Cx}{e:Ex}{x:Expr}(h:Snd cl X e (.e x))(hr:zG e=false)(hi:vQ e=false):PT X x (xz X.K (evE cl e)):=(h.1 hr).2.1 hi
theorem Snd.pw {X:Cx}{e:Ex}{op:BoolOp}{vs:List Expr}{pos:Pos}(h:Snd cl X e (.e (.BoolOp op vs pos)))(hr:zG e=false):PW X (.BoolOp op vs pos) (xz X.K (evE cl e)):=(h.1 hr).2.2 op vs pos rfl
theorem Snd.pa {X:Cx}{e:Ex}{xs:List Expr}(h:Snd cl X e (.a xs)):PA X xs (vv X.K (evE cl e)):=h
theorem qw {sc:Scope}{x:Str}(h:qr sc x=true):Vis sc x:=by
 unfold qr at h
 simp only[Bool.or_eq_true,decide_eq_true_eq] at h
 exact h
theorem yx {sc:Scope}{x:Str}(h:glB sc x=true):sc.names.lookup x=some .globalImplicit:=of_decide_eq_true h
theorem jB {K:PySem.W.Frag}{w:Wd}{v:V}(hv:∀as H,Rep K as H w v):∀σ H Q,tOf K (evE cl (.lit w)) σ H Q->tC v σ H Q:=fun σ H Q h=>by
 obtain ⟨as,env,m,S,G,P⟩:=h
 exact Post.ok (m:=m) P S (hv as H)
theorem vx {env:Env}{y:Expr}(hs:y7 y=true):∀v,foldedSetIterable y env v=pure v:=fun v=>by
 cases y <;> first | rfl | cases hs
noncomputable def IsE (C:Ctx)(sc:Scope)(N:List Str)(e:Ex)(n:Nd):Prop:=∀ (cl:Nat → List Wd → Me → Rz) (d:Nat) (X:Cx),CtxOk C X cl d → X.env.scope=sc → X.N=N → Snd cl X e n
theorem yQ {C:Ctx}{d:Nat}{sc:Scope}{N:List Str}{e:Ex}{n:Nd}(h:IsE C sc N e n):∀X:Cx,CtxOk C X cl d->X.env.scope=sc->X.N=N->Snd cl X e n:=h cl d
theorem IsE.«var» {C:Ctx}{sc:Scope}{N:List Str}{i:Nat}{x:Str}{p:Pos}(h1:N[i]?=some x)(h2:qr sc x=true)(h3:zV x=true):IsE C sc N (.var i) (.e (.Name x p)):=by
 intro cl d
 intro X hC es eN
 subst es;subst eN
 obtain ⟨n1,n2,_⟩:=jg h3
 refine Snd.of (PE.imp (vZ h1 (qw h2) n1 n2) fun σ H Q q=>?_)
 obtain ⟨as,env,m,S,G,P⟩:=q
 cases hw:env[i]? with
 | none=>have P':Post X.K as H Q (match env[i]? with | some (some w)=>.ok w m | _=>.no):=P;rw[hw] at P';exact P'.elim
 | some o =>
  cases o with
  | none=>have P':Post X.K as H Q (match env[i]? with | some (some w)=>.ok w m | _=>.no):=P;rw[hw] at P';exact P'.elim
  | some w =>
   have P':Post X.K as H Q (match env[i]? with | some (some w)=>.ok w m | _=>.no):=P
   rw[hw] at P'
   obtain ⟨v,hv,R⟩:=G.get i w hw
   exact ⟨v,hv,Post.ok (m:=m) P' S R⟩
theorem IsE.«bl» {C:Ctx}{sc:Scope}{N:List Str}{b:Bool}{k}{p:Pos}:IsE C sc N (.lit (.bl b)) (.e (.Constant (.bool b) k p)):=by
 intro cl d
 intro X hC es eN;exact Snd.of (PE.imp zgr (jB fun _ _=>rep_bl.mpr rfl))
theorem IsE.«int» {C:Ctx}{sc:Scope}{N:List Str}{i:Int}{k}{p:Pos}:IsE C sc N (.lit (.int i)) (.e (.Constant (.int i) k p)):=by
 intro cl d
 intro X hC es eN;exact Snd.of (PE.imp zbq (jB fun _ _=>rep_int.mpr rfl))
theorem IsE.«str» {C:Ctx}{sc:Scope}{N:List Str}{s:Str}{t:List Nat}{k}{p:Pos}(h:s.cps.toList=t):IsE C sc N (.lit (.str t)) (.e (.Constant (.str s) k p)):=by
 intro cl d
 intro X hC es eN;subst h;exact Snd.of (PE.imp wd (jB fun _ _=>rep_str.mpr (by simp)))
theorem IsE.«bin» {C:Ctx}{sc:Scope}{N:List Str}{op:Bo}{a b:Ex}{x y:Expr}{p:Pos}(ra:zG a=false)(ha:IsE C sc N a (.e x))(rb:zG b=false)(hb:IsE C sc N b (.e y)):IsE C sc N (.bin op a b) (.e (.BinOp x (opK op) y p)):=by
 intro cl d
 have iha:=ha cl d
 have ihb:=hb cl d
 intro X hC es eN;exact Snd.of (zfJ ((iha X hC es eN).pe ra) ((ihb X hC es eN).pe rb))
theorem IsE.«neg» {C:Ctx}{sc:Scope}{N:List Str}{a:Ex}{x:Expr}{p:Pos}(ra:zG a=false)(ha:IsE C sc N a (.e x)):IsE C sc N (.neg a) (.e (.UnaryOp .USub x p)):=by
 intro cl d
 have iha:=ha cl d
 intro X hC es eN;exact Snd.of (zfK ((iha X hC es eN).pe ra))
theorem IsE.«not» {C:Ctx}{sc:Scope}{N:List Str}{a:Ex}{x:Expr}{p:Pos}(ra:zG a=false)(ia:vQ a=false)(ha:IsE C sc N a (.e x)):IsE C sc N (.not a) (.e (.UnaryOp .Not x p)):=by
 intro cl d
 have iha:=ha cl d
 intro X hC es eN
 have s1:=iha X hC es eN
 exact ⟨fun _=>⟨zcd (s1.pe ra),fun _=>zfL (s1.pt ra ia),fun op vs pos z=>by cases z⟩,fun tg=>ko (zcd (s1.pe ra))⟩
theorem IsE.«and2» {C:Ctx}{sc:Scope}{N:List Str}{a b:Ex}{x y:Expr}{p:Pos}(ra:zG a=false)(ia:vQ a=false)(ha:IsE C sc N a (.e x))(rb:zG b=false)(ib:vQ b=false)(hb:IsE C sc N b (.e y)):IsE C sc N (.and a b) (.e (.BoolOp .And [x,y] p)):=by
 intro cl d
 have iha:=ha cl d
 have ihb:=hb cl d
 intro X hC es eN
 have sa:=iha X hC es eN
 have sb:=ihb X hC es eN
 have e:=fun (p:Pos)=>zce (pos:=p) (sa.pe ra) (zbu (sb.pe rb))
 have w:=fun (p:Pos)=>zcf (pos:=p) (sa.pt ra ia) (zdq (sb.pt rb ib))
 exact ⟨fun _=>⟨e _,fun _=>(w _).pt,fun op vs pos z=>by cases z;exact w _⟩,fun tg=>ko (e _)⟩
theorem IsE.«andN» {C:Ctx}{sc:Scope}{N:List Str}{a b:Ex}{x y z:Expr}{r:List Expr}{p:Pos}(ra:zG a=false)(ia:vQ a=false)(ha:IsE C sc N a (.e x))(rb:zG b=false)(hb:IsE C sc N b (.e (.BoolOp .And (y::z::r) p))):IsE C sc N (.and a b) (.e (.BoolOp .And (x::y::z::r) p)):=by
 intro cl d
 have iha:=ha cl d
 have ihb:=hb cl d
 intro X hC es eN
 have sa:=iha X hC es eN
 have sb:=ihb X hC es eN
 have e:=zce (sa.pe ra) (sb.pe rb)
 have w:=zcf (sa.pt ra ia) (sb.pw rb)
 exact ⟨fun _=>⟨e,fun _=>w.pt,fun op vs pos z=>by cases z;exact w⟩,fun tg=>ko e⟩
theorem IsE.«or2» {C:Ctx}{sc:Scope}{N:List Str}{a b:Ex}{x y:Expr}{p:Pos}(ra:zG a=false)(ia:vQ a=false)(ha:IsE C sc N a (.e x))(rb:zG b=false)(ib:vQ b=false)(hb:IsE C sc N b (.e y)):IsE C sc N (.or a b) (.e (.BoolOp .Or [x,y] p)):=by
 intro cl d
 have iha:=ha cl d
 have ihb:=hb cl d
 intro X hC es eN
 have sa:=iha X hC es eN
 have sb:=ihb X hC es eN
 have e:=fun (p:Pos)=>zgU (pos:=p) (sa.pe ra) (zbu (sb.pe rb))
 have w:=fun (p:Pos)=>zgV (pos:=p) (sa.pt ra ia) (zbs (sb.pt rb ib))
 exact ⟨fun _=>⟨e _,fun _=>(w _).pt,fun op vs pos z=>by cases z;exact w _⟩,fun tg=>ko (e _)⟩
theorem IsE.«cmp» {C:Ctx}{sc:Scope}{N:List Str}{op:Co}{a b:Ex}{x y:Expr}{p:Pos}(hs:y7 y=true)(ra:zG a=false)(ha:IsE C sc N a (.e x))(rb:zG b=false)(hb:IsE C sc N b (.e y)):IsE C sc N (.cmp op a b) (.e (.Compare x [cK op] [y] p)):=by
 intro cl d
 have iha:=ha cl d
 have ihb:=hb cl d
 intro X hC es eN
 have ea:=(iha X hC es eN).pe ra
 have eb:=(ihb X hC es eN).pe rb
 exact ⟨fun _=>⟨zch hC.room.units ea eb hs,fun _=>zfM hC.room.units ea eb hs,fun op vs pos z=>by cases z⟩,fun tg=>ko (zch hC.room.units ea eb hs)⟩
theorem IsE.«chain» {C:Ctx}{sc:Scope}{N:List Str}{o q:Co}{a b c:Ex}{x y z:Expr}{p:Pos}(hs:y7 z=true)(ra:zG a=false)(ha:IsE C sc N a (.e x))(rb:zG b=false)(hb:IsE C sc N b (.e y))(rc:zG c=false)(hc:IsE C sc N c (.e z)):IsE C sc N (.chain o q a b c) (.e (.Compare x [cK o,cK q] [y,z] p)):=by
 intro cl d
 have iha:=ha cl d
 have ihb:=hb cl d
 have ihc:=hc cl d
 intro X hC es eN
 have ea:=(iha X hC es eN).pe ra
 have eb:=(ihb X hC es eN).pe rb
 have ec:=(ihc X hC es eN).pe rc
 exact ⟨fun _=>⟨gp hC.room.units ea eb ec hs,fun _=>zcj hC.room.units ea eb ec hs,fun op vs pos z=>by cases z⟩,fun tg=>ko (gp hC.room.units ea eb ec hs)⟩
theorem IsE.«unit» {C:Ctx}{sc:Scope}{N:List Str}:IsE C sc N .unit (.a []):=by
 intro cl d
 intro X hC es eN;exact zdS
theorem IsE.«pair» {C:Ctx}{sc:Scope}{N:List Str}{a b:Ex}{x:Expr}{xs:List Expr}(hs:zL x=true)(ra:zG a=false)(ha:IsE C sc N a (.e x))(hb:IsE C sc N b (.a xs)):IsE C sc N (.pair a b) (.a (x::xs)):=by
 intro cl d
 have iha:=ha cl d
 have ihb:=hb cl d
 intro X hC es eN;exact zdT ((iha X hC es eN).pe ra) (ihb X hC es eN).pa hs
theorem IsE.«call» {C:Ctx}{sc:Scope}{N:List Str}{k:Nat}{a:Ex}{f:Str}{y:Expr}{ys:List Expr}{p p':Pos}(h1:C.fns[k]?=some f)(h2:glB sc f=true)(h3:zV f=true)(hs:(y::ys).all zL=true)(ha:IsE C sc N a (.a (y::ys))):IsE C sc N (.call k a) (.e (.Call (.Name f p) (y::ys) [] p')):=by
 intro cl d
 have iha:=ha cl d
 intro X hC es eN;subst es;exact Snd.of (zdU hC h1 (yx h2) h3 hs (iha X hC rfl eN).pa)
theorem IsE.«blt» {C:Ctx}{sc:Scope}{N:List Str}{b:Blf}{a:Ex}{nm:Str}{f:Value}{y:Expr}{ys:List Expr}{p p':Pos}(h1:zfF b=some (nm,f))(h2:glB sc nm=true)(h3:zV nm=true)(hs:(y::ys).all zL=true)(ha:IsE C sc N a (.a (y::ys))):IsE C sc N (.blt b a) (.e (.Call (.Name nm p) (y::ys) [] p')):=by
 intro cl d
 have iha:=ha cl d
 intro X hC es eN;subst es;exact Snd.of (zfN hC h1 (yx h2) h3 hs (iha X hC rfl eN).pa)
theorem IsE.«isi» {C:Ctx}{sc:Scope}{N:List Str}{t:Tg}{a:Ex}{y:Expr}{p p' p'':Pos}(h1:glB sc "isinstance" = true)(h2:glB sc (Str.ofString (tgT t))=true)(hs:zL y=true)(ra:zG a=false)(ha:IsE C sc N a (.e y)):IsE C sc N (.isi t a) (.e (.Call (.Name "isinstance" p) [y,.Name (Str.ofString (tgT t)) p'] [] p'')):=by
 intro cl d
 have iha:=ha cl d
 intro X hC es eN;subst es;exact Snd.of (zfO hC (yx h1) (yx h2) hs ((iha X hC rfl eN).pe ra))
theorem IsE.«lst» {C:Ctx}{sc:Scope}{N:List Str}{a:Ex}{xs:List Expr}{p:Pos}(ha:IsE C sc N a (.a xs)):IsE C sc N (.lst a) (.e (.List xs p)):=by
 intro cl d
 have iha:=ha cl d
 intro X hC es eN;exact Snd.of (zfP (iha X hC es eN).pa)
theorem IsE.«tup» {C:Ctx}{sc:Scope}{N:List Str}{a:Ex}{xs:List Expr}{k}{p:Pos}(ha:IsE C sc N a (.a xs)):IsE C sc N (.tup a) (.e (.Tuple xs k p)):=by
 intro cl d
 have iha:=ha cl d
 intro X hC es eN;exact Snd.of (zfQ (iha X hC es eN).pa)
theorem IsE.«idx» {C:Ctx}{sc:Scope}{N:List Str}{a b:Ex}{x y:Expr}{p:Pos}(hs:wg y=true)(ra:zG a=false)(ha:IsE C sc N a (.e x))(rb:zG b=false)(hb:IsE C sc N b (.e y)):IsE C sc N (.idx a b) (.e (.Subscript x y p)):=by
 intro cl d
 have iha:=ha cl d
 have ihb:=hb cl d
 intro X hC es eN;exact Snd.of (zfR ((iha X hC es eN).pe ra) ((ihb X hC es eN).pe rb) hs)
theorem IsE.«meth0» {C:Ctx}{sc:Scope}{N:List Str}{k:Mth}{o:Ex}{x:Expr}{ap cp:Pos}(hx:vc x=true)(hl:(ap.endLine == cp.line)=true)(ro:zG o=false)(ho:IsE C sc N o (.e x)):IsE C sc N (.meth k o .unit) (.e (.Call (.Attribute x (mtV k).1 ap) [] [] cp)):=by
 intro cl d
 have iho:=ho cl d
 intro X hC es eN;exact Snd.of (zcm ((iho X hC es eN).pe ro) hx hl)
theorem IsE.«meth» {C:Ctx}{sc:Scope}{N:List Str}{k:Mth}{o a:Ex}{x y:Expr}{ys:List Expr}{ap cp:Pos}(hx:vc x=true)(hl:(ap.endLine == cp.line)=true)(hn:(y::ys).length < 29)(hs:(y::ys).all zL=true)(ro:zG o=false)(ho:IsE C sc N o (.e x))(ha:IsE C sc N a (.a (y::ys))):IsE C sc N (.meth k o a) (.e (.Call (.Attribute x (mtV k).1 ap) (y::ys) [] cp)):=by
 intro cl d
 have iho:=ho cl d
 have iha:=ha cl d
 intro X hC es eN;exact Snd.of (zdW ((iho X hC es eN).pe ro) (iha X hC es eN).pa hx hl hn hs)
theorem IsE.«rng1» {C:Ctx}{sc:Scope}{N:List Str}{b:Ex}{y:Expr}{p p':Pos}(hg:glB sc "range" = true)(hs:zL y=true)(rb:zG b=false)(hb:IsE C sc N b (.e y)):IsE C sc N (.rng (.lit (.int 0)) b (.lit (.int 1))) (.e (.Call (.Name "range" p) [y] [] p')):=by
 intro cl d
 have ihb:=hb cl d
 intro X hC es eN;subst es;exact ⟨fun z=>(by cases z),fun tg=>zdX hC (yx hg) hs ((ihb X hC rfl eN).pe rb)⟩
theorem IsE.«lrng» {C:Ctx}{sc:Scope}{N:List Str}{a:Ex}{y:Expr}{p p' q q':Pos}(hl:glB sc "list" = true)(hg:glB sc "range" = true)(hs:zL y=true)(ra:zG a=false)(ha:IsE C sc N a (.e y)):IsE C sc N (.lrng a) (.e (.Call (.Name "list" p) [.Call (.Name "range" q) [y] [] q'] [] p')):=by
 intro cl d
 have iha:=ha cl d
 intro X hC es eN;subst es;exact Snd.of (zdY hC (yx hl) (yx hg) hs ((iha X hC rfl eN).pe ra))
theorem IsE.«comp0» {C:Ctx}{sc scope:Scope}{N:List Str}{elt it:Ex}{x i:Expr}{y:Str}{p p':Pos}(hs:y7 i=true)(hB:vu sc N scope [y]=true)(hi:IsE C sc N it (.e i))(re:zG elt=false)(he:IsE C (vd scope sc) (xj N [y]) elt (.e x)):IsE C sc N (.comp elt it (.lit (.bl true))) (.e (.ListComp x [⟨.Name y p,i,[],0⟩] scope p')):=by
 intro cl d
 have ihi:=hi cl d
 have ihe:=he cl d
 intro X hC es eN
 subst es;subst eN
 have B:=xO hB
 have hI:=(ihi X hC rfl rfl).2 (.Name y p)
 have hset:∀v,foldedSetIterable i X.env v=pure v:=vx hs
 have body:∀Xc,CompOf X scope [y] Xc->PE Xc x (tOf X.K (evE cl elt)):=fun Xc c=>by
  have q:=(ihe Xc (hC.comp c) c.sc c.N).pe re
  rw[c.K] at q
  exact q
 refine Snd.of (PE.imp (jv B hC.calm (zdE B) hI (fun Xc c=>⟨vS,body Xc c⟩) hset) fun σ H Q q=>zaV (fun σ H Q q=>?_) q)
 obtain ⟨as,env,m,S,G,P⟩:=q
 obtain ⟨b,e,q⟩:=Post.ok (m:=m) P S (rep_bl.mpr rfl)
 cases e
 exact q
theorem IsE.«compZ0» {C:Ctx}{sc scope:Scope}{N:List Str}{elt a b:Ex}{x i j:Expr}{y z:Str}{p p' q q' q2 pt:Pos}{kt:Nat}(hg:glB sc "zip" = true)(hB:vu sc N scope [y,z]=true)(hs:zL i=true)(hs':zL j=true)(ra:zG a=false)(ha:IsE C sc N a (.e i))(rb:zG b=false)(hb:IsE C sc N b (.e j))(re:zG elt=false)(he:IsE C (vd scope sc) (xj N [y,z]) elt (.e x)):
   IsE C sc N (.compP .zip elt a b (.lit (.bl true))) (.e (.ListComp x [⟨.Tuple [.Name y p,.Name z q] kt pt,.Call (.Name "zip" q') [i,j] [] q2,[],0⟩] scope p')):=by
 intro cl d
 have iha:=ha cl d
 have ihb:=hb cl d
 have ihe:=he cl d
 intro X hC es eN
 subst es;subst eN
 have B:=xO hB
 have hI:PI X (.Tuple [.Name y p,.Name z q] kt pt) (.Call (.Name "zip" q') [i,j] [] q2) _:=zbX (yx hg) (hC.blt _ (by simp[zB])) (zD ((iha X hC rfl rfl).pe ra) (zD ((ihb X hC rfl rfl).pe rb) yk (zu hs')) (zu hs)) (by rw[zu hs,zu hs'];rfl) (zu hs')
 have body:∀Xc,CompOf X scope [y,z] Xc->PE Xc x (tOf X.K (evE cl elt)):=fun Xc c=>by
  have q:=(ihe Xc (hC.comp c) c.sc c.N).pe re
  rw[c.K] at q
  exact q
 refine Snd.of (PE.imp (jv B hC.calm (ju hC.calm B) hI (fun Xc c=>⟨vS,body Xc c⟩) (fun _=>rfl)) fun σ H Q q=>kz (fun σ H Q q=>?_) q)
 obtain ⟨as,env,m,S,G,P⟩:=q
 obtain ⟨b,e,q⟩:=Post.ok (m:=m) P S (rep_bl.mpr rfl)
 cases e
 exact q
theorem IsE.«compE0» {C:Ctx}{sc scope:Scope}{N:List Str}{elt a:Ex}{x i:Expr}{y z:Str}{p p' q q' q2 pt:Pos}{kt:Nat}(hg:glB sc "enumerate" = true)(hB:vu sc N scope [y,z]=true)(hs:zL i=true)(ra:zG a=false)(ha:IsE C sc N a (.e i))(re:zG elt=false)(he:IsE C (vd scope sc) (xj N [y,z]) elt (.e x)):
   IsE C sc N (.compP .enum elt a (.lit (.int 0)) (.lit (.bl true))) (.e (.ListComp x [⟨.Tuple [.Name y p,.Name z q] kt pt,.Call (.Name "enumerate" q') [i] [] q2,[],0⟩] scope p')):=by
 intro cl d
 have iha:=ha cl d
 have ihe:=he cl d
 intro X hC es eN
 subst es;subst eN
 have B:=xO hB
 have hI:PI X (.Tuple [.Name y p,.Name z q] kt pt) (.Call (.Name "enumerate" q') [i] [] q2) _:=zdG (yx hg) (hC.blt _ (by simp[zB])) (zD ((iha X hC rfl rfl).pe ra) yk (zu hs)) (zu hs)
 have body:∀Xc,CompOf X scope [y,z] Xc->PE Xc x (tOf X.K (evE cl elt)):=fun Xc c=>by
  have q:=(ihe Xc (hC.comp c) c.sc c.N).pe re
  rw[c.K] at q
  exact q
 refine Snd.of (PE.imp (jv B hC.calm (ju hC.calm B) hI (fun Xc c=>⟨vS,body Xc c⟩) (fun _=>rfl)) fun σ H Q q=>qv (c:=0) rfl (fun σ H Q q=>?_) q)
 obtain ⟨as,env,m,S,G,P⟩:=q
 obtain ⟨b,e,q⟩:=Post.ok (m:=m) P S (rep_bl.mpr rfl)
 cases e
 exact q
end
theorem zfT {o i v:Expr}{p1:Pos}{env:Env}:swappedStores [.Subscript o i p1] v env=pure none:=rfl
theorem zdZ {v tg:Expr}{line:Nat}{env:Env}(h:∀x p,tg≠.Name x p):swapsWithSole [tg] v line env=pure false:=by
 cases v <;> first | rfl | (cases tg <;> first | rfl | exact absurd rfl (h _ _))
noncomputable def jC:Expr->Bool
 | .ListComp _ _ _ _=>true
 | .SetComp _ _ _ _=>true
 | .DictComp _ _ _ _ _=>true
 | _=>false
theorem jD {v:Expr}{t:Option Expr}{line:Nat}{env:Env}(h:jC v=false):swapsWith v t line env=pure false:=by
 cases v <;> first | rfl | cases h
noncomputable def PostS (K:PySem.W.Frag)(as:List Addr)(H:Hp)(D:Ends)(r:Rs):Prop:=match r with
 | .next e m'=>∀as' H' σ',Step as H as' H'->Sim K as' m' H'->EnvRep K as' H' e σ'->D.nx σ' H'
 | .brk e m'=>∀as' H' σ',Step as H as' H'->Sim K as' m' H'->EnvRep K as' H' e σ'->D.bk σ' H'
 | .cont e m'=>∀as' H' σ',Step as H as' H'->Sim K as' m' H'->EnvRep K as' H' e σ'->D.ct σ' H'
 | .ret w m'=>∀as' H' v,Step as H as' H'->Sim K as' m' H'->Rep K as' H' w v->D.rt v H'
 | _=>False
noncomputable def yR (K:PySem.W.Frag)(g:En->Me->Rs):TS:=fun D σ H=>∃as env m,Sim K as m H/\EnvRep K as H env σ/\PostS K as H D (g env m)
section
variable {K:PySem.W.Frag}{as as':List Addr}{H H':Hp}{m:Me}{D:Ends}
theorem PostS.step {r:Rs}(h:PostS K as H D r)(T:Step as H as' H'):PostS K as' H' D r:=by
 cases r with
 | next e m'=>exact fun as2 H2 σ' U S G=>h as2 H2 σ' (T.trans U) S G
 | brk e m'=>exact fun as2 H2 σ' U S G=>h as2 H2 σ' (T.trans U) S G
 | cont e m'=>exact fun as2 H2 σ' U S G=>h as2 H2 σ' (T.trans U) S G
 | ret w m'=>exact fun as2 H2 v U S R=>h as2 H2 v (T.trans U) S R
 | exc c w e m'=>exact h
 | no=>exact h
theorem PostS.bind {Q1:VK}{r:Rz}{env:En}{f:Wd->Me->Rs}(h:PostS K as H D (r.bindS env f))
  (k:∀w m' as' H' v,Step as H as' H'->Sim K as' m' H'->Rep K as' H' w v->PostS K as' H' D (f w m')->Q1 v H'):Post K as H Q1 r:=by
 cases r with
 | ok w m'=>exact fun as2 H2 v U S R=>k w m' as2 H2 v U S R (PostS.step (r:=f w m') h U)
 | exc c w m'=>exact h
 | no=>exact h
theorem PostS.bindI {R1:It->Hp->Prop}{r:Rz}{env:En}{f:Wd->Me->Rs}(h:PostS K as H D (r.bindS env f))
  (k:∀w m',PostS K as H D (f w m')->(xb m' w).isSome=true/\∀as' H' J,Step as H as' H'->Sim K as' m' H'->zgT K as' H' w J->R1 J H'):PostI K as H R1 r:=by
 cases r with
 | ok w m'=>exact k w m' h
 | exc c w m'=>exact h
 | no=>exact h
theorem PostS.next {env:En}{σ:St}(h:PostS K as H D (.next env m))(S:Sim K as m H)(G:EnvRep K as H env σ):D.nx σ H:=h as H σ .refl S G
end
section
variable {cl:Nat->List Wd->Me->Rz}{X:Cx}{e o i:Ex}{x y z:Expr}{pos:Pos}
theorem zd0:PSs X [] (yR X.K (exS cl .skip)):=PSs.imp qT fun D σ H h=>by
 obtain ⟨as,env,m,S,G,P⟩:=h
 exact PostS.next (m:=m) P S G
theorem qx {a b:Sm}{st:Stmt}{sts:List Stmt}(ha:PS X st (yR X.K (exS cl a)))(hb:PSs X sts (yR X.K (exS cl b))):PSs X (st::sts) (yR X.K (exS cl (.seq a b))) :=
 PSs.imp (xJ ha hb) fun D σ H h=>by
  refine cps fun zP zk=>?_
  obtain ⟨as,env,m,S,G,P⟩:=h
  refine zk ?_
  refine ⟨as,env,m,S,G,?_⟩
  have P':PostS X.K as H D (match exS cl a env m with | .next e1 m1=>exS cl b e1 m1 | r=>r):=P
  cases hr:exS cl a env m with
  | next e1 m1 =>
   rw[hr] at P'
   exact fun as' H' σ' T S' G'=>⟨as',e1,m1,S',G',PostS.step P' T⟩
  | brk e1 m1=>rw[hr] at P';exact P'
  | cont e1 m1=>rw[hr] at P';exact P'
  | ret w m1=>rw[hr] at P';exact P'
  | exc c w e1 m1=>rw[hr] at P';exact P'
  | no=>rw[hr] at P';exact P'
theorem kA {K:PySem.W.Frag}{i:Nat}{e:Ex}{D:Ends}{σ:St}{H:Hp}(h:yR K (exS cl (.asg i e)) D σ H):zds (tOf K (evE cl e)) (wI i) D σ H:=by
 refine cps fun zP zk=>?_
 obtain ⟨as,env,m,S,G,P⟩:=h
 refine zk ?_
 refine ⟨as,env,m,S,G,PostS.bind P fun w m1 as1 H1 v T1 S1 R1 P1=>?_⟩
 exact PostS.next (m:=m1) P1 S1 ((G.mono S T1).set R1 i)
theorem zfU (he:PE X x (tOf X.K (evE cl e))):PS X (.Return (some x) pos) (yR X.K (exS cl (.ret e))):=PS.imp (jo he) fun D σ H h=>by
 obtain ⟨as,env,m,S,G,P⟩:=h
 refine ⟨as,env,m,S,G,PostS.bind P fun w m1 as1 H1 v T1 S1 R1 P1=>?_⟩
 exact P1 as1 H1 v .refl S1 R1
theorem zd1 (he:PE X x (tOf X.K (evE cl e)))(hc:jC x=false):PS X (.Expr x pos) (yR X.K (exS cl (.expr e))):=PS.imp (zdr he (jD hc)) fun D σ H h=>by
 obtain ⟨as,env,m,S,G,P⟩:=h
 refine ⟨as,env,m,S,G,PostS.bind P fun w m1 as1 H1 v T1 S1 R1 P1=>?_⟩
 exact PostS.next (m:=m1) P1 S1 (G.mono S T1)
theorem zco {st:Stmt}:PS X st (yR X.K (exS cl .never)):=PS.imp zbw fun D σ H h=>by
 obtain ⟨as,env,m,S,G,P⟩:=h
 exact P
theorem zgW {a b:Sm}{xs ys:List Stmt}(hc:PT X x (xz X.K (evE cl e)))(ha:PSs X xs (yR X.K (exS cl a)))(hb:PSs X ys (yR X.K (exS cl b))):PS X (.If x xs ys pos) (yR X.K (exS cl (.ite e a b))) :=
 PS.imp (qU hc ha hb) fun D σ H h=>by
  refine cps fun zP zk=>?_
  obtain ⟨as,env,m,S,G,P⟩:=h
  refine zk ?_
  refine ⟨as,env,m,S,G,PostS.bind P fun w m1 as1 H1 v T1 S1 R1 P1=>?_⟩
  cases w with
  | bl k =>
   obtain rfl:=rep_bl.mp R1
   refine ⟨k,rfl,?_⟩
   cases k with
   | true=>exact jZ ⟨as1,env,m1,S1,G.mono S T1,P1⟩
   | false=>exact js ⟨as1,env,m1,S1,G.mono S T1,P1⟩
  | _=>exact P1.elim
theorem zcp {K:PySem.W.Frag}{as:List Addr}{H:Hp}{m:Me}{D:Ends}{env:En}{o i w:Wd}{vo vi v:V}{Q:Hp->Prop}{f:Wd->Me->Rs}(S:Sim K as m H)(Ro:Rep K as H o vo)(Ri:Rep K as H i vi)(Rw:Rep K as H w v)
  (h:PostS K as H D ((jw o i w m).bindS env f)) (k:∀m' H',Step as H as H'->Sim K as m' H'->PostS K as H' D (f .non m')->Q H'):zbK vo vi v H Q:=by
 have key:∀r,jw o i w m=r->(∃m',r=.ok .non m')\/r=.no:=fun r e=>by
  unfold jw at e
  split at e
  .split at e
   .split at e
    .exact .inl ⟨_,e.symm⟩
    .exact .inr e.symm
   .exact .inr e.symm
  .exact .inr e.symm
 rcases key _ rfl with ⟨m',e⟩ | e
 .refine zfH S Ro Ri Rw (fun m2 e2 H' T S'=>?_) ⟨m',e⟩
  rw[e] at e2;cases e2
  rw[e] at h
  exact k m' H' T S' (PostS.step (r:=f .non m') h T)
 .rw[e] at h;exact h.elim
theorem qy {o i:Expr}{p:Pos}{env:Env}(hs:wg i=true):∀v,assign (.Subscript o i p) env v=(do
   let ov <- holding [v] (eval o env)
   let iv <- holding [v,ov] (eval i env)
   standAt p
   holding [v,ov,iv] (setItem ov iv v)
   release [v,ov,iv] []):=fun v=>by
 cases i <;> first | rfl | cases hs
theorem zd2 {p1:Pos}(ho:PE X x (tOf X.K (evE cl o)))(hi:PE X y (tOf X.K (evE cl i)))(he:PE X z (tOf X.K (evE cl e)))(hs:wg y=true):PS X (.Assign [.Subscript x y p1] z pos) (yR X.K (exS cl (.asgS o i e))) :=
 PS.imp (zfn he (zfm ho hi zbL (qy hs)) (zdZ (by intros;intro q;cases q)) zfT) fun D σ H h=>by
  refine cps fun zP zk=>?_
  obtain ⟨as,env,m,S,G,P⟩:=h
  refine zk ?_
  refine ⟨as,env,m,S,G,PostS.bind P fun w m1 as1 H1 v T1 S1 R1 P1=>?_⟩
  refine ⟨as1,env,m1,S1,G.mono S T1,PostS.bind P1 fun wo m2 as2 H2 vo T2 S2 R2 P2=>?_⟩
  refine ⟨as2,env,m2,S2,(G.mono S T1).mono S1 T2,PostS.bind P2 fun wi m3 as3 H3 vi T3 S3 R3 P3=>?_⟩
  refine zcp S3 (R2.mono S2 T3) R3 ((R1.mono S1 T2).mono S2 T3) P3 fun m4 H4 T4 S4 P4=>?_
  exact PostS.next (m:=m4) P4 S4 ((((G.mono S T1).mono S1 T2).mono S2 T3).mono S3 T4)
end
section
variable {cl:Nat->List Wd->Me->Rz}{K:PySem.W.Frag}
structure TgtOk (K:PySem.W.Frag)(g:TG)(st:Wd->En->Option En):Prop where
 ok:∀ {as:List Addr}{H:Hp}{m:Me}{env env':En}{σ:St}{w:Wd}{v:V}{Q:L2.St->Hp->Prop},Sim K as m H->EnvRep K as H env σ->Rep K as H w v->st w env=some env'->(∀σ',EnvRep K as H env' σ'->Q σ' H)->g v σ H Q
theorem zcq (i:Nat):TgtOk K (wI i) (fun w env=>some (env.set i (some w))) :=
 ⟨fun S G R e k=>by cases e;exact k _ (G.set R i)⟩
set_option tactic.hygienic true in
theorem zcr (i j:Nat):TgtOk K (zfl K 2 (jW (wI i) (jW (wI j) zfk))) (st2 i j):=by
 refine ⟨fun {as H m env env' σ w v Q} S G R e k=>?_⟩
 unfold st2 at e
 split at e
 .rename_i a b
  cases e
  refine cps fun zP zk=>?_
  obtain ⟨p,vs,rfl,hq,rr⟩:=rep_tup.mp R
  obtain ⟨va,vb,rfl,ra,rb⟩:=zb9 rr
  refine zk ?_
  exact ⟨p,[va,vb],rfl,hq,rfl,va,[vb],rfl,vb,[],rfl,rfl,k _ ((G.set ra i).set rb j)⟩
 .cases e
theorem gu {g:TG}{st:Wd->En->Option En}{b:En->Me->Rs}(hg:TgtOk K g st){D:Ends}{as1 as':List Addr}{H1 H':Hp}{m':Me}{env':En}{σ':St}{x:Wd}{v:V}{next:En->Me->Rs}{N:L2.St->Hp->Prop}(T:Step as1 H1 as' H')(S':Sim K as' m' H')(G':EnvRep K as' H' env' σ')(Rx:Rep K as' H' x v)
  (Pt:PostS K as1 H1 D (match y6 st b x env' m' with
    | .next e1 m1=>next e1 m1
    | .cont e1 m1=>next e1 m1
    | .brk e1 m1=>.next e1 m1
    | r=>r))
  (hN:∀as2 m2 e2 σ2 H2,Step as' H' as2 H2->Sim K as2 m2 H2->EnvRep K as2 H2 e2 σ2->PostS K as1 H1 D (next e2 m2)->N σ2 H2) :
  g v σ' H' fun σ2 H2=>yR K b { D with nx:=N,ct:=N,bk:=D.nx } σ2 H2:=by
 unfold y6 at Pt
 cases hs:st x env' with
 | none=>rw[hs] at Pt;exact Pt.elim
 | some e2 =>
  rw[hs] at Pt
  simp only[] at Pt
  refine hg.ok S' G' Rx hs fun σ2 G2=>⟨as',e2,m',S',G2,?_⟩
  cases hr:b e2 m' with
  | next e3 m3=>rw[hr] at Pt;exact fun as3 H3 σ3 U S3 G3=>hN as3 m3 e3 σ3 H3 U S3 G3 Pt
  | cont e3 m3=>rw[hr] at Pt;exact fun as3 H3 σ3 U S3 G3=>hN as3 m3 e3 σ3 H3 U S3 G3 Pt
  | brk e3 m3=>rw[hr] at Pt;exact fun as3 H3 σ3 U S3 G3=>Pt as3 H3 σ3 (T.trans U) S3 G3
  | ret w' m3=>rw[hr] at Pt;exact fun as3 H3 v3 U S3 R3=>Pt as3 H3 v3 (T.trans U) S3 R3
  | exc c w' e3 m3=>rw[hr] at Pt;exact Pt.elim
  | no=>rw[hr] at Pt;exact Pt.elim
theorem gv {it:En->Me->Rz}{g:TG}{st:Wd->En->Option En}{b:En->Me->Rs}(hg:TgtOk K g st){D:Ends}{σ:St}{H:Hp}
  (h:yR K (fun env m=>(it env m).bindS env fun w m1=>zaT (y6 st b) w env m1) D σ H):zgC (iOf K it) g (yR K b) D σ H:=by
 refine cps fun zP zk=>?_
 obtain ⟨as,env,m,S,G,P⟩:=h
 refine zk ?_
 refine ⟨as,env,m,S,G,PostS.bindI P fun w m1 P1=>?_⟩
 have seqs:∀ (xs:List Wd),PostS K as H D (wK (y6 st b) xs env m1)->∀as1 H1 J,Step as H as1 H1->Sim K as1 m1 H1->zag K as1 H1 J xs ->
   ∃W:Nat->Nat->L2.St->Hp->Prop,(∃m,W 0 m σ H1)/\∀i m σ H,W i m σ H ->
    (J.stop i H/\D.nx σ H)\/(J.go i H/\∃N:L2.St->Hp->Prop,(∀σ' H',N σ' H'->∃m',m' < m/\W (i+1) m' σ' H')/\∀x H',J.yld i H x H'->g x σ H' fun σ2 H2=>yR K b { D with nx:=N,ct:=N,bk:=D.nx } σ2 H2):=by
  intro xs Pc as1 H1 J T1 S1 hI
  refine cps fun zP zj=>?_
  obtain ⟨vs,ok,hJ,ok1,RL,stab⟩:=hI
  refine zj ?_
  have hlen:=RL.length
  have Pc1:=PostS.step Pc T1
  refine ⟨fun i n σ' H'=>∃as' m' env',i<=xs.length/\n=xs.length - i/\Step as1 H1 as' H'/\Sim K as' m' H'/\EnvRep K as' H' env' σ'/\ok H'/\RepL K as' H' xs vs/\PostS K as1 H1 D (wK (y6 st b) (xs.drop i) env' m'),
   ⟨xs.length,as1,m1,env,Nat.zero_le _,rfl,.refl,S1,G.mono S T1,ok1,RL,Pc1⟩,?_⟩
  intro i n σ' H' zz
  refine cps fun zP zi=>?_
  obtain ⟨as',m',env',hi,rfl,T',S',G',okH,RL',Pi⟩:=zz
  refine zi ?_
  by_cases hlt:i < xs.length
  .refine .inr ⟨hJ.go i H' okH (by rw[<- hlen];exact hlt),fun σ2 H2=>∃as2 m2 env2,i+1<=xs.length/\Step as1 H1 as2 H2/\Sim K as2 m2 H2/\EnvRep K as2 H2 env2 σ2/\ok H2/\RepL K as2 H2 xs vs/\PostS K as1 H1 D (wK (y6 st b) (xs.drop (i+1)) env2 m2),?_,fun v H'' hy=>?_⟩
   .rintro σ2 H2 ⟨as2,m2,env2,q⟩
    exact ⟨xs.length - (i+1),by lia,as2,m2,env2,q.1,rfl,q.2⟩
   .refine cps fun zP zh=>?_
    obtain ⟨rfl,hv⟩:=hJ.yld i H' v H'' okH (by rw[<- hlen];exact hlt) hy
    obtain ⟨v',hv',Rx⟩:=RL'.get (i:=i) (x:=xs[i]) (by simp[hlt])
    refine zh ?_
    rw[hv] at hv';cases hv'
    rw[List.drop_eq_getElem_cons hlt] at Pi
    refine gu hg (next:=fun e m=>wK (y6 st b) (xs.drop (i+1)) e m) T' S' G' Rx Pi ?_
    intro as2 m2 e2 σ2 H2 U S2 G2 P2
    exact ⟨as2,m2,e2,hlt,T'.trans U,S2,G2,stab _ _ (S'.kp U) okH,RL'.mono S' U,P2⟩
  .have e:i=xs.length:=by lia
   subst e
   rw[List.drop_length] at Pi
   exact .inl ⟨hJ.stop _ H' okH (by lia),Pi as' H' σ' T' S' G'⟩
 cases w with
 | tup xs=>exact ⟨rfl,fun as1 H1 J T1 S1 hI=>seqs xs P1 as1 H1 J T1 S1 hI⟩
 | rol xs=>exact ⟨rfl,fun as1 H1 J T1 S1 hI=>seqs xs P1 as1 H1 J T1 S1 hI⟩
 | ref l =>
  have P2:PostS K as H D (x9 (y6 st b) l (lim+1) 0 env m1):=P1
  refine ⟨?_,fun as1 H1 J T1 S1 hI=>?_⟩
  .show (zN m1 l).isSome=true
   cases e:zN m1 l with
   | some xs=>rfl
   | none =>
    unfold x9 at P2
    rw[e] at P2
    exact P2.elim
  .obtain ⟨a,ha,rfl⟩:=hI
   have Pc1:=PostS.step P2 T1
   refine ⟨fun i n σ' H'=>∃as' m' env',as'[l]?=some a/\Step as1 H1 as' H'/\Sim K as' m' H'/\EnvRep K as' H' env' σ'/\PostS K as1 H1 D (x9 (y6 st b) l n i env' m'),⟨lim+1,as1,m1,env,ha,.refl,S1,G.mono S T1,Pc1⟩,?_⟩
   intro i n σ' H' zz
   refine cps fun zP zg=>?_
   obtain ⟨as',m',env',hl,T',S',G',Pi⟩:=zz
   refine zg ?_
   cases n with
   | zero=>exact Pi.elim
   | succ n =>
    unfold x9 at Pi
    cases e:zN m' l with
    | none=>rw[e] at Pi;exact Pi.elim
    | some xs =>
     rw[e] at Pi
     simp only[] at Pi
     refine cps fun zP zf=>?_
     obtain ⟨a',vs,ha',eH,RL⟩:=yq S' (yc e)
     refine zf ?_
     rw[hl] at ha';cases ha'
     cases ex:xs[i]? with
     | none =>
      rw[ex] at Pi
      have hle:vs.length<=i:=by rw[<- RL.length];exact List.getElem?_eq_none_iff.mp ex
      exact .inl ⟨⟨vs,SqL.of eH,hle⟩,Pi as' H' σ' T' S' G'⟩
     | some x =>
      rw[ex] at Pi
      obtain ⟨v0,hv0,Rx⟩:=RL.get ex
      refine .inr ⟨⟨vs,v0,SqL.of eH,hv0⟩,fun σ2 H2=>∃as2 m2 env2,as2[l]?=some a/\Step as1 H1 as2 H2/\Sim K as2 m2 H2/\EnvRep K as2 H2 env2 σ2/\PostS K as1 H1 D (x9 (y6 st b) l n (i+1) env2 m2),?_,fun v H'' hy=>?_⟩
      .rintro σ2 H2 q
       exact ⟨n,Nat.lt_succ_self _,q⟩
      .obtain ⟨rfl,hy⟩:=hy
       have:=hy vs (SqL.of eH)
       rw[hv0] at this;cases this
       refine gu hg (next:=fun e m=>x9 (y6 st b) l n (i+1) e m) T' S' G' Rx Pi ?_
       intro as2 m2 e2 σ2 H2 U S2 G2 P2
       exact ⟨as2,m2,e2,U.get hl,T'.trans U,S2,G2,P2⟩
 | non=>exact P1.elim
 | bl k=>exact P1.elim
 | int i=>exact P1.elim
 | str s=>exact P1.elim
theorem qz {c:Ex}{b:Sm}{D:Ends}{σ:St}{H:Hp}(h:yR K (exS cl (.while c b)) D σ H):zby (xz K (evE cl c)) (yR K (exS cl b)) D σ H:=by
 refine cps fun zP zk=>?_
 obtain ⟨as,env,m,S,G,P⟩:=h
 refine zk ?_
 refine ⟨fun n σ' H'=>∃as' m' env',Step as H as' H'/\Sim K as' m' H'/\EnvRep K as' H' env' σ'/\PostS K as H D (vK (evE cl c) (exS cl b) n env' m'),⟨1000000,as,m,env,.refl,S,G,P⟩,?_⟩
 intro n σ' H' zz
 refine cps fun zP zj=>?_
 obtain ⟨as',m',env',T',S',G',Pi⟩:=zz
 refine zj ?_
 cases n with
 | zero=>exact Pi.elim
 | succ n =>
  unfold vK at Pi
  refine ⟨as',env',m',S',G',?_⟩
  cases hr:evE cl c env' m' with
  | no=>rw[hr] at Pi;exact Pi.elim
  | exc k w m1=>rw[hr] at Pi;exact Pi.elim
  | ok w m1 =>
   rw[hr] at Pi
   intro as1 H1 v T1 S1 R1
   cases w with
   | bl k =>
    obtain rfl:=rep_bl.mp R1
    refine ⟨k,rfl,?_⟩
    cases k with
    | false=>exact js (Pi as1 H1 σ' (T'.trans T1) S1 (G'.mono S' T1))
    | true =>
     refine jZ ⟨fun σ2 H2=>∃as2 m2 env2,Step as H as2 H2/\Sim K as2 m2 H2/\EnvRep K as2 H2 env2 σ2/\PostS K as H D (vK (evE cl c) (exS cl b) n env2 m2),fun σ2 H2 q=>⟨n,Nat.lt_succ_self _,q⟩,as1,env',m1,S1,G'.mono S' T1,?_⟩
     simp only[] at Pi
     have T2:=T'.trans T1
     cases hb:exS cl b env' m1 with
     | next e3 m3=>rw[hb] at Pi;exact fun as3 H3 σ3 U S3 G3=>⟨as3,m3,e3,T2.trans U,S3,G3,Pi⟩
     | cont e3 m3=>rw[hb] at Pi;exact fun as3 H3 σ3 U S3 G3=>⟨as3,m3,e3,T2.trans U,S3,G3,Pi⟩
     | brk e3 m3=>rw[hb] at Pi;exact fun as3 H3 σ3 U S3 G3=>Pi as3 H3 σ3 (T2.trans U) S3 G3
     | ret w' m3=>rw[hb] at Pi;exact fun as3 H3 v3 U S3 R3=>Pi as3 H3 v3 (T2.trans U) S3 R3
     | exc k w' e3 m3=>rw[hb] at Pi;exact Pi.elim
     | no=>rw[hb] at Pi;exact Pi.elim
   | _=>exact Pi.elim
end
set_option genInjectivity false in
inductive Ns where
 | s (st:Stmt) | b (sts:List Stmt)
noncomputable def qA (sc:Scope)(x:Str):Bool:=decide (sc.names.lookup x=some .local) || decide (sc.names.lookup x=some .cell)
noncomputable def zgX (cl:Nat->List Wd->Me->Rz)(X:Cx)(s:Sm):Ns->Prop
 | .s st=>PS X st (yR X.K (exS cl s))
 | .b sts=>PSs X sts (yR X.K (exS cl s))
structure StOk (X:Cx):Prop where
 nd:X.N.Nodup
 fn:∀x,X.fn x=true
 hp:PassesOwn (model X.prog X.w) X.A X.env X.xe
section
variable {cl:Nat->List Wd->Me->Rz}
theorem kB {sc:Scope}{x:Str}(h:qA sc x=true):Loc sc x:=by
 unfold qA at h
 simp only[Bool.or_eq_true,decide_eq_true_eq] at h
 exact h
theorem zd3 {X:Cx}{i:Nat}{ce:Ex}{nm:Str}{xs:List Str}{x w tg:Expr}{g:TG}{un:V->Hp->List V->Prop}{wi:TI}{fs:List Expr}{scope:Scope}{tc:TT}{te:TE}{p1 pos pos':Pos}(hc:X.calm=true)(hX:StOk X)(hi:X.N[i]?=some nm)(hl:Loc X.env.scope nm)(B:BlockOk X scope xs)(hT:Tgt X scope xs tg g un)(hI:PI X tg w wi)
  (body:∀Xc,CompOf X scope xs Xc->PTs Xc fs tc/\PE Xc x te) (hset:∀v,foldedSetIterable w X.env v=pure v) (hbind:∀σ H Q,tOf X.K (evE cl ce) σ H Q->ja un wi tc te σ H Q)
  (he:PE X (.ListComp x [⟨tg,w,fs,0⟩] scope pos') (tOf X.K (evE cl ce))) :
  PS X (.Assign [.Name nm p1] (.ListComp x [⟨tg,w,fs,0⟩] scope pos') pos) (yR X.K (exS cl (.asg i ce))):=by
 have hsw:∃b:Bool,swapsWith (.ListComp x [⟨tg,w,fs,0⟩] scope pos') (some (.Name nm p1)) pos.line X.env=pure b:=⟨_,rfl⟩
 obtain ⟨b,hb⟩:=hsw
 cases b with
 | false=>exact PS.imp (gS hX.nd hi hl he hb (.inl (hX.fn nm))) fun D σ H q=>kA q
 | true =>
  refine PS.imp (g7 B hc hT hI body hX.nd hi hl (.inl (hX.fn nm)) hb hset) fun D σ H q=>?_
  exact hbind _ _ _ (kA q)
noncomputable def IsS (C:Ctx)(sc:Scope)(N:List Str)(s:Sm)(n:Ns):Prop:=∀ (cl:Nat → List Wd → Me → Rz) (d:Nat) (X:Cx),CtxOk C X cl d → StOk X → X.env.scope=sc → X.N=N → zgX cl X s n
theorem jE {C:Ctx}{d:Nat}{X:Cx}(hC:CtxOk C X cl d)(hX:StOk X){s:Sm}{n:Ns}(h:IsS C X.env.scope X.N s n):zgX cl X s n:=h cl d X hC hX rfl rfl
theorem IsS.«skip0» {C:Ctx}{sc:Scope}{N:List Str}:IsS C sc N .skip (.b []):=by
 intro cl d X hC hX es eN;subst es;subst eN
 exact zd0
theorem IsS.«one» {C:Ctx}{sc:Scope}{N:List Str}{s:Sm}{st:Stmt}(h:IsS C sc N s (.s st)):IsS C sc N s (.b [st]):=by
 intro cl d X hC hX es eN;subst es;subst eN
 have ih:=h cl d X hC hX rfl rfl
 exact xW ih
theorem IsS.«seq» {C:Ctx}{sc:Scope}{N:List Str}{a b:Sm}{st st':Stmt}{r:List Stmt}(ha:IsS C sc N a (.s st))(hb:IsS C sc N b (.b (st'::r))):IsS C sc N (.seq a b) (.b (st::st'::r)):=by
 intro cl d X hC hX es eN;subst es;subst eN
 have iha:=ha cl d X hC hX rfl rfl
 have ihb:=hb cl d X hC hX rfl rfl
 exact qx iha ihb
theorem IsS.«asg» {C:Ctx}{sc:Scope}{N:List Str}{i:Nat}{e:Ex}{x:Str}{v:Expr}{p p':Pos}(hc:jC v=false)(h1:N[i]?=some x)(h2:qA sc x=true)(hr:zG e=false)(he:IsE C sc N e (.e v)):IsS C sc N (.asg i e) (.s (.Assign [.Name x p] v p')):=by
 intro cl d X hC hX es eN;subst es;subst eN
 exact PS.imp (gS hX.nd h1 (kB h2) ((yQ he X hC rfl rfl).pe hr) (jD hc) (.inl (hX.fn _))) fun D σ H q=>kA q
theorem IsS.«asgCZ0» {C:Ctx}{sc:Scope}{N:List Str}{i:Nat}{elt a b:Ex}{x y y':Str}{z w w':Expr}{scope:Scope}{p p' q q' q2 q3 q4 pt:Pos}{kt:Nat}(h1:N[i]?=some x)(h2:qA sc x=true)(hg:glB sc "zip" = true)(hB:vu sc N scope [y,y']=true)(hs:zL w=true)(hs':zL w'=true)(ra:zG a=false)(ha:IsE C sc N a (.e w))(rb:zG b=false)(hb:IsE C sc N b (.e w'))(re:zG elt=false)(he:IsE C (vd scope sc) (xj N [y,y']) elt (.e z)):
   IsS C sc N (.asg i (.compP .zip elt a b (.lit (.bl true)))) (.s (.Assign [.Name x p] (.ListComp z [⟨.Tuple [.Name y q,.Name y' q2] kt pt,.Call (.Name "zip" q3) [w,w'] [] q4,[],0⟩] scope q') p')):=by
 intro cl d X hC hX es eN;subst es;subst eN
 refine zd3 (fs:=[]) (tc:=_) hC.calm hX h1 (kB h2) (xO hB) (ju hC.calm (xO hB)) (zbX (yx hg) (hC.blt _ (by simp[zB])) (zD ((yQ ha X hC rfl rfl).pe ra) (zD ((yQ hb X hC rfl rfl).pe rb) yk (zu hs')) (zu hs)) (by rw[zu hs,zu hs'];rfl) (zu hs')) (te:=tOf X.K (evE cl elt)) (fun Xc c=>⟨vS,?_⟩) (fun _=>rfl) (fun σ H Q q=>kz (fun σ H Q q=>?_) q) ((yQ (IsE.compZ0 hg hB hs hs' ra ha rb hb re he) X hC rfl rfl).pe rfl)
 .have q:=(yQ he Xc (hC.comp c) c.sc c.N).pe re
  rw[c.K] at q
  exact q
 .obtain ⟨as,env,m,S,G,P⟩:=q
  obtain ⟨b,e,q⟩:=Post.ok (m:=m) P S (rep_bl.mpr rfl)
  cases e
  exact q
theorem IsS.«asgS» {C:Ctx}{sc:Scope}{N:List Str}{o i e:Ex}{x y z:Expr}{p p':Pos}(hs:wg y=true)(ro:zG o=false)(ho:IsE C sc N o (.e x))(ri:zG i=false)(hi:IsE C sc N i (.e y))(re:zG e=false)(he:IsE C sc N e (.e z)):IsS C sc N (.asgS o i e) (.s (.Assign [.Subscript x y p] z p')):=by
 intro cl d X hC hX es eN;subst es;subst eN
 exact zd2 ((yQ ho X hC rfl rfl).pe ro) ((yQ hi X hC rfl rfl).pe ri) ((yQ he X hC rfl rfl).pe re) hs
theorem IsS.«ite» {C:Ctx}{sc:Scope}{N:List Str}{c:Ex}{a b:Sm}{x:Expr}{xs ys:List Stmt}{p:Pos}(rc:zG c=false)(ic:vQ c=false)(hc:IsE C sc N c (.e x))(ha:IsS C sc N a (.b xs))(hb:IsS C sc N b (.b ys)):IsS C sc N (.ite c a b) (.s (.If x xs ys p)):=by
 intro cl d X hC hX es eN;subst es;subst eN
 have iha:=ha cl d X hC hX rfl rfl
 have ihb:=hb cl d X hC hX rfl rfl
 exact zgW ((yQ hc X hC rfl rfl).pt rc ic) iha ihb
theorem IsS.«forv» {C:Ctx}{sc:Scope}{N:List Str}{i:Nat}{it:Ex}{body:Sm}{x:Str}{y:Expr}{sts:List Stmt}{p p':Pos}(h1:N[i]?=some x)(h2:qA sc x=true)(hs:y7 y=true)(hi:IsE C sc N it (.e y))(hb:IsS C sc N body (.b sts)):IsS C sc N (.forv i it body) (.s (.For (.Name x p) y sts [] p')):=by
 intro cl d X hC hX es eN;subst es;subst eN
 have ihb:=hb cl d X hC hX rfl rfl
 have hset:∀v,foldedSetIterable y X.env v=pure v:=vx hs
 refine PS.imp (zbC hX.hp hC.calm ((yQ hi X hC rfl rfl).2 _) (wr hX.nd h1 (kB h2) (.inl (hX.fn _))) ihb hset) fun D σ H q=>?_
 exact gv (zcq i) q
theorem IsS.«fort» {C:Ctx}{sc:Scope}{N:List Str}{i j:Nat}{it:Ex}{body:Sm}{x x':Str}{y:Expr}{sts:List Stmt}{k}{p p' p2 p3:Pos}(h1:N[i]?=some x)(h2:qA sc x=true)(h3:N[j]?=some x')(h4:qA sc x'=true)(hs:y7 y=true)(hi:IsE C sc N it (.e y))(hb:IsS C sc N body (.b sts)):IsS C sc N (.fort i j it body) (.s (.For (.Tuple [.Name x p,.Name x' p2] k p3) y sts [] p')):=by
 intro cl d X hC hX es eN;subst es;subst eN
 have ihb:=hb cl d X hC hX rfl rfl
 have hset:∀v,foldedSetIterable y X.env v=pure v:=vx hs
 refine PS.imp (zbC hX.hp hC.calm ((yQ hi X hC rfl rfl).2 _) (zbx hC.calm (wY (wr hX.nd h1 (kB h2) (.inl (hX.fn _))) (wY (wr hX.nd h3 (kB h4) (.inl (hX.fn _))) qV))) ihb hset) fun D σ H q=>?_
 exact gv (zcr i j) q
theorem IsS.«while» {C:Ctx}{sc:Scope}{N:List Str}{c:Ex}{body:Sm}{x:Expr}{sts:List Stmt}{p:Pos}(rc:zG c=false)(ic:vQ c=false)(hc:IsE C sc N c (.e x))(hb:IsS C sc N body (.b sts)):IsS C sc N (.while c body) (.s (.While x sts [] p)):=by
 intro cl d X hC hX es eN;subst es;subst eN
 have ihb:=hb cl d X hC hX rfl rfl
 exact PS.imp (zbz hX.hp ((yQ hc X hC rfl rfl).pt rc ic) ihb) fun D σ H q=>qz q
theorem IsS.«ret» {C:Ctx}{sc:Scope}{N:List Str}{e:Ex}{x:Expr}{p:Pos}(hr:zG e=false)(he:IsE C sc N e (.e x)):IsS C sc N (.ret e) (.s (.Return (some x) p)):=by
 intro cl d X hC hX es eN;subst es;subst eN
 exact zfU ((yQ he X hC rfl rfl).pe hr)
theorem IsS.«expr» {C:Ctx}{sc:Scope}{N:List Str}{e:Ex}{x:Expr}{p:Pos}(hc:jC x=false)(hr:zG e=false)(he:IsE C sc N e (.e x)):IsS C sc N (.expr e) (.s (.Expr x p)):=by
 intro cl d X hC hX es eN;subst es;subst eN
 exact zd1 ((yQ he X hC rfl rfl).pe hr) hc
theorem IsS.«never» {C:Ctx}{sc:Scope}{N:List Str}{st:Stmt}:IsS C sc N .never (.s st):=by
 intro cl d X hC hX es eN;subst es;subst eN
 exact zco
end
set_option genInjectivity false in
structure Dfn where
 nm:Str
 st:Stmt
 N:List Str
 ps:List Str
 fn:Fn
noncomputable def vA (N ps:List Str)(sc:Scope):Bool :=
 decide (sc.kind=.function) && (decide (sc.isCoroutine=false) && (decide (sc.isGenerator=false) && (decide N.Nodup && (decide (N.take ps.length=ps) &&
  (ps.all (fun x=>decide (sc.names.lookup x=some .local) || decide (sc.names.lookup x=some .cell)) && sc.names.all (fun y=>!(decide (y.2=.free))))))))
theorem wx {N ps:List Str}{sc:Scope}(h:vA N ps sc=true):FnScope N ps sc:=by
 unfold vA at h
 simp only[Bool.and_eq_true,Bool.or_eq_true,decide_eq_true_eq,List.all_eq_true,Bool.not_eq_true',decide_eq_false_iff_not] at h
 obtain ⟨h1,h2,h3,h4,h5,h6,h7⟩:=h
 exact ⟨h1,h2,h3,h4,h5,h6,h7⟩
structure OkD (C:Ctx)(d:Dfn):Prop where
 sc:vA d.N d.ps (zE d.st)=true
 ar:d.ps.length=d.fn.ar
 sz:d.N.length=d.fn.sz
 body:IsS C (zE d.st) d.N d.fn.body (.b (yI d.st))
section
variable {P:Program}{w:World}{K:PySem.W.Frag}{mg:Str->Option Value}{base:Heap}{C:Ctx}{cl:Nat->List Wd->Me->Rz}
theorem wz {as:List Addr}{H:Hp}{fn:Fn}{N:List Str}{ws:List Wd}{vs:List V}(R:RepL K as H ws vs)(hl:ws.length=fn.ar)(hN:N.length=fn.sz):EnvRep K as H (yw fn ws) (L2.start N vs):=by
 have hv:=R.length
 refine ⟨by simp[yw,L2.start,hN,hv],fun i w e=>?_⟩
 unfold yw at e
 by_cases hi:i < ws.length
 .rw[List.getElem?_append_left (by simpa using hi),List.getElem?_map] at e
  cases hx:ws[i]? with
  | none=>rw[hx] at e;cases e
  | some x =>
   rw[hx] at e
   cases e
   obtain ⟨v,h1,h2⟩:=R.get hx
   refine ⟨v,?_,h2⟩
   unfold L2.start
   rw[List.getElem?_append_left (by simp;lia),List.getElem?_map,h1]
   rfl
 .rw[List.getElem?_append_right (by simpa using hi),List.getElem?_replicate] at e
  split at e <;> cases e
theorem zcs {d:Dfn}{f:Addr}{fd:FuncData}{k:Nat}(F:Fun K d.nm d.nm d.st f fd)(hd:OkD C d)
  (hfn:∀ (i:Nat) (nm:Str),C.fns[i]?=some nm->∃f fd ps,mg nm=some (.ref f)/\PySem.W.keepIn K (.ref f)=true/\Binds K fd ps []/\FnOk P w K mg base CX0 k f fd ps (wS K (cl i)))
  (hcon:∀ (nm:Str) (i:Int),C.cons.lookup nm=some i->∃t,mg nm=some (.int i t)) (hblt:∀nm∈zB,mg nm=none) :
  FnOk P w K mg base CX0 (k+1) f fd d.ps (wS K (xy cl d.fn)):=by
 obtain ⟨h1,h2,h3,h4⟩:=hd
 have Sc:=wx h1
 have arity:∀ {as:List Addr}{H:Hp}{Q:VK}{ws:List Wd}{m:Me},Post K as H Q (xy cl d.fn ws m)->ws.length=d.fn.ar:=fun {as H Q ws m} h=>by
  unfold xy at h
  split at h
  .assumption
  .exact h.elim
 refine F.ok Sc (fun vs H Q E h=>?_) (fun cdv A outer s H vs Q E hr h=>?_)
 .refine cps fun zP zk=>?_
  obtain ⟨as,m,ws,S,R,q⟩:=h
  refine zk ?_
  rw[<- R.length,arity q,h2]
 .refine cps fun zP zj=>?_
  obtain ⟨as,m,ws,S,R,q⟩:=h
  refine zj ?_
  have ha:=arity q
  have hC:CtxOk C (wZ CX0 P w K mg base d.N d.nm (zE d.st) f cdv A outer s H E).nox cl k:=⟨hr,rfl,hfn,hcon,hblt⟩
  have hX:StOk (wZ CX0 P w K mg base d.N d.nm (zE d.st) f cdv A outer s H E).nox:=⟨Sc.nd,fun _=>rfl,PassesOwn.never⟩
  refine ⟨_,jE hC hX h4,as,yw d.fn ws,m,S,wz R ha h3,?_⟩
  unfold xy at q
  rw[if_pos ha] at q
  cases hr:exS cl d.fn.body (yw d.fn ws) m with
  | next e m1=>rw[hr] at q;exact fun as' H' σ' T S' G=>q as' H' .non T S' (rep_non.mpr rfl)
  | ret w m1=>rw[hr] at q;exact fun as' H' v T S' R'=>q as' H' v T S' R'
  | brk e m1=>rw[hr] at q;exact q.elim
  | cont e m1=>rw[hr] at q;exact q.elim
  | exc c w e m1=>rw[hr] at q;exact q.elim
  | no=>rw[hr] at q;exact q.elim
noncomputable def zW (K:PySem.W.Frag)(mg:Str->Option Value)(d:Dfn):Prop:=∃f fd,Fun K d.nm d.nm d.st f fd/\mg d.nm=some (.ref f)
noncomputable def Bnd (d:Dfn):Prop:=∀ (kV doc pm:Value) (an:Option Addr) (cdv ct:Value) (us:List Value),us.length=d.ps.length->bindArgs (PySem.W.fnOf d.nm d.nm (wu d.st) (yI d.st) (zE d.st) .none kV doc pm an cdv ct) ⟨us,[]⟩=pure (d.ps.zip us)
end
theorem zct {K:PySem.W.Frag}{D:List Dfn}{k i:Nat}{H:Hp}{a:Addr}{ns:List Int}{E:XK}(hO:zbP H)(hS:SqL K H a (ns.map V.int))(h:∃m,yD (D.map (·.fn)) k i [.rol (ns.map Wd.int)] []=.ok (.bl true) m):
  wS K (yD (D.map (·.fn)) k i) [.ref a] H (fun v _=>v=.bl true) E:=by
 obtain ⟨m,h⟩:=h
 refine ⟨[],[],[.rol (ns.map Wd.int)],⟨rfl,List.nodup_nil,fun l a o e=>by simp at e⟩,repL_cons.mpr ⟨.ref a,[],rfl,rep_rol.mpr ⟨a,ns.map V.int,rfl,?_,?_⟩,repL_nil.mpr rfl⟩,?_⟩
 .rcases hS with (hS | ⟨o,hS⟩) | hS
  .rcases hO a with z | ⟨o,xs,z⟩
   .rw[z] at hS;cases hS
   .rw[z] at hS;cases hS
  .exact .inl ⟨o,hS⟩
  .exact .inr hS
 .have all:∀l:List Int,RepL K [] H (l.map Wd.int) (l.map V.int):=by
   intro l
   induction l with
   | nil=>exact repL_nil.mpr rfl
   | cons n l ih=>exact repL_cons.mpr ⟨_,_,rfl,rep_int.mpr rfl,ih⟩
  exact all ns
 .rw[h]
  exact fun as' H' v T S R=>rep_bl.mp R
theorem IsE.v {C:Ctx}{sc:Scope}{N:List Str}{i:Nat}{x:Str}{p:Pos}(h1:N[i]?=some x:=by rfl)(h2:qr sc x=true:=by kernel_rfl)(h3:zV x=true:=by kernel_rfl):IsE C sc N (.var i) (.e (.Name x p)):=.var h1 h2 h3
theorem usS {n:Nat}{P:List Value->Prop}(h:∀a (us:List Value),us.length=n->P (a::us)):∀us:List Value,us.length=n+1->P us
 | a::us,e=>h a us (Nat.succ.inj e)
theorem us1 {P:List Value->Prop}(h:∀a,P [a]):∀us:List Value,us.length=1->P us:=usS fun a us e=>by
 cases us with
 | nil=>exact h a
 | cons b t=>cases e
theorem us2 {P:List Value->Prop}(h:∀a b,P [a,b]):∀us:List Value,us.length=2->P us:=usS fun a=>us1 (P:=fun us=>P (a::us)) (h a)
theorem us3 {P:List Value->Prop}(h:∀a b c,P [a,b,c]):∀us:List Value,us.length=3->P us:=usS fun a=>us2 (P:=fun us=>P (a::us)) (h a)
theorem us4 {P:List Value->Prop}(h:∀a b c d,P [a,b,c,d]):∀us:List Value,us.length=4->P us:=usS fun a=>us3 (P:=fun us=>P (a::us)) (h a)
set_option genInjectivity false in
structure Xc where
 g:Str
 rs:List Str
 os:List Str
noncomputable def Xc.xs (Q:Xc):List Str:=Q.rs++Q.os
theorem Xc.at {Q:Xc}{c:Nat}{x:Str}(h:Q.rs[c]?=some x):Q.xs[c]?=some x:=by
 unfold Xc.xs
 rw[List.getElem?_append_left (List.getElem?_eq_some_iff.mp h).1]
 exact h
noncomputable def vmB:List Value:=[.type "ValueError",.type "Exception",.type "BaseException",.type "object"]
set_option tactic.hygienic true in
theorem zcu {K:PySem.W.Frag}{h:Heap}{C:Addr}{v:Value}(X:K.In h)(q:PySem.W.excIn K C vmB "ValueError.__new__" = true):(∀ (x:Str) (mg:Str->Option Value),mg x=some (.ref C)->OwnCls x C vmB "ValueError.__new__" mg h)/\(PySem.W.mroIn K C v=some true->jd h C v):=by
 unfold PySem.W.excIn at q
 split at q
 .rename_i dd cd sl ho
  split at q
  .rename_i C' bm k0 k1 k2 k3 n k5 hm hs
   simp only[Bool.and_eq_true,beq_iff_eq,Bool.not_eq_true'] at q
   refine cps fun zP zk=>?_
   obtain ⟨⟨⟨⟨⟨rfl,rfl⟩,q1⟩,q2⟩,q3⟩,q4⟩:=q
   have eo:=X _ _ ho
   have em:PySem.W.mroIn K C' v=some (cd.mro.contains v):=by
    unfold PySem.W.mroIn PySem.W.clsIn
    rw[ho]
    simp only[Option.bind_some]
    rw[hm]
    rfl
   obtain ⟨a1,a2,a3,a4,a5,a6,a7,a8,a9,b1,b2⟩:=cd
   refine zk ?_
   dsimp only at hm q1 q3 q4 em
   subst hm q1
   have es:sl=#[k0,k1,k2,k3,some (.builtin "ValueError.__new__"),k5]:=by
    obtain ⟨l⟩:=sl
    simp only at hs
    rw[hs]
   subst es
   have T:=PySem.W.tail_of_in X q2
   refine ⟨fun x mg hb=>⟨hb,bm,a4,a1,a5,a2,a6,a7,a8,a9,b1,dd,k0,k1,k2,k3,k5,_,eo,.of_isNs (PySem.W.isNs_of_in X q3),PySem.W.nsMap_none_of_in X q3 q4,T⟩,fun z=>?_⟩
   rw[em] at z
   exact ⟨a1,a5,a4,a2,bm,a6,a7,a8,a9,b1,dd,k0,k1,k2,k3,k5,_,eo,Option.some.inj z⟩
  .cases q
 .cases q
structure XOk (K:PySem.W.Frag)(mg:Str->Option Value)(Q:Xc)(G:Addr):Prop where
 g:mg Q.g=some (.ref G)
 ge:PySem.W.excIn K G vmB "ValueError.__new__" = true
 gb:PySem.W.mroIn K G (.type "BaseException")=some true
 v:mg "ValueError" = none
 y:∀ (c:Nat) (x:Str),Q.xs[c]?=some x->∃A,mg x=some (.ref A)
 x:∀ (c:Nat) (x:Str),Q.rs[c]?=some x->∃A,mg x=some (.ref A)/\PySem.W.excIn K A vmB "ValueError.__new__" = true/\ExcK K A/\PySem.W.mroIn K A (.ref G)=some true/\PySem.W.kitOne K (.ref A) (.type "ValueError")=some true /\
  ∀ (c':Nat) (x':Str) (A':Addr),Q.xs[c']?=some x'->mg x'=some (.ref A')->PySem.W.kitOne K (.ref A) (.ref A')=some (decide (c=c'))
noncomputable def RX (mg:Str->Option Value)(Q:Xc)(E:XK):VK:=fun v H=>∃ (c:Nat) (x:Str) (A:Addr),v=.int c/\Q.rs[c]?=some x/\mg x=some (.ref A)/\E (.ref A) none H
noncomputable def spX (K:PySem.W.Frag)(mg:Str->Option Value)(Q:Xc)(g:List Wd->Me->Rz):Sp:=fun vs H _ E=>wS K g vs H (RX mg Q E) E0
noncomputable def nsB (sc:Scope)(Q:Xc):List Expr->List Nat->Bool
 | [],[]=>true
 | .Name x _::es,c::cs=>glB sc x && (zV x && (decide (Q.xs[c]?=some x) && nsB sc Q es cs))
 | _,_=>false
noncomputable def zcv:Sm->Bool
 | .expr _=>true
 | .asg _ _=>true
 | _=>false
theorem jh {cl:Nat->List Wd->Me->Rz}{a:Sm}(h:zcv a=true)(env:En)(m:Me):(∃e1 m1,exS cl a env m=.next e1 m1)\/(∃c w e1 m1,exS cl a env m=.exc c w e1 m1)\/exS cl a env m=.no:=by
 cases a with
 | expr e =>
  show (∃e1 m1,(evE cl e env m).bindS env _=.next e1 m1)\/(∃c w e1 m1,(evE cl e env m).bindS env _=.exc c w e1 m1)\/(evE cl e env m).bindS env _=.no
  cases evE cl e env m with
  | ok w m1=>exact .inl ⟨_,_,rfl⟩
  | exc c w m1=>exact .inr (.inl ⟨_,_,_,_,rfl⟩)
  | no=>exact .inr (.inr rfl)
 | asg i e =>
  show (∃e1 m1,(evE cl e env m).bindS env _=.next e1 m1)\/(∃c w e1 m1,(evE cl e env m).bindS env _=.exc c w e1 m1)\/(evE cl e env m).bindS env _=.no
  cases evE cl e env m with
  | ok w m1=>exact .inl ⟨_,_,rfl⟩
  | exc c w m1=>exact .inr (.inl ⟨_,_,_,_,rfl⟩)
  | no=>exact .inr (.inr rfl)
 | _=>cases h
inductive IsX (C:Ctx)(Q:Xc)(xn:List (Nat×Str))(sc:Scope)(N:List Str):Sm->List Stmt->Prop
 | ite {c:Ex}{y:Expr}{x msg:Str}{j k:Nat}{np cp p p1 p2:Pos}{rest:List Stmt}(rc:zG c=false) (ic:vQ c=false) (hc:IsE C sc N c (.e y)) (hx:Q.rs[j]?=some x) (hg:glB sc x=true) (ok:zV x=true) :
   IsX C Q xn sc N (.ite c (.ret (.lit (.int j))) .never) (.If y [.Raise (some (.Call (.Name x np) [.Constant (.str msg) k p1] [] cp)) none p2] [] p::rest)
 | js {c:Ex}{y:Expr}{x msg v:Str}{i j k:Nat}{b:Int}{np cp p p1 p2 p3 p4 p5:Pos}{rest:List Stmt}(rc:zG c=false) (ic:vQ c=false) (hc:IsE C sc N c (.e y)) (hx:Q.rs[j]?=some x) (hg:glB sc x=true) (ok:zV x=true) (hi:N[i]?=some v) (hv:qr sc v=true) (ov:zV v=true)
   (hb:decide (b.natAbs.log2 < 1920)=true) (hz1:decide ((Str.empty++msg).length<=sizeLine)=true) (hz2:decide ((Str.empty++msg++(toString b:Str)).length<=sizeLine)=true) :
   IsX C Q xn sc N (.ite c (.ite (.cmp .eq (.bin .sub (.var i) (.lit (.int b))) (.lit (.int 0))) (.ret (.lit (.int j))) .never) .never) (.If y [.Raise (some (.Call (.Name x np) [.JoinedStr [.Constant (.str msg) k p1,.FormattedValue (.Name v p3) (-1) none p4] p5] [] cp)) none p2] [] p::rest)
 | seqS {a b:Sm}{st st':Stmt}{r:List Stmt}(hn:zcv a=true) (ha:IsS C sc N a (.s st)) (hb:IsX C Q xn sc N b (st'::r)):IsX C Q xn sc N (.seq a b) (st::st'::r)
 | call {k:Nat}{a:Ex}{nm:Str}{y:Expr}{ys:List Expr}{p p' p2:Pos}{rest:List Stmt}(hk:xn.lookup k=some nm) (hg:glB sc nm=true) (ok:zV nm=true) (hs:(y::ys).all zL=true) (ha:IsE C sc N a (.a (y::ys))) :
   IsX C Q xn sc N (.ret (.call k a)) (.Expr (.Call (.Name nm p) (y::ys) [] p') p2::rest)
theorem CtxOk.wish {C:Ctx}{X:Cx}{cl:Nat->List Wd->Me->Rz}{d:Nat}(h:CtxOk C X cl d)(E:Value->Shared->Prop):CtxOk C (X.wish E) cl d:=⟨h.room,h.calm,h.fn,h.con,h.blt⟩
theorem xg {x:Str}(h:zV x=true):(x == ("__debug__" : Str))=false/\(x == ("__classdict__" : Str))=false:=by
 unfold zV at h
 simp only[Bool.and_eq_true,Bool.not_eq_true'] at h
 exact ⟨h.1.1,h.1.2⟩
noncomputable def XFn (P:Program)(w:World)(K:PySem.W.Frag)(mg:Str->Option Value)(base:Heap)(Q:Xc)(xn:List (Nat×Str))(cl:Nat->List Wd->Me->Rz)(d:Nat):Prop:=∀ (k:Nat) (nm:Str),xn.lookup k=some nm ->
 (∃f fd ps,mg nm=some (.ref f)/\PySem.W.keepIn K (.ref f)=true/\Binds K fd ps []/\FnOk P w K mg base (CXr P w) d f fd ps (spX K mg Q (cl k))) /\
 ∀ws m v m',cl k ws m=.ok v m'->∃ (c:Nat) (x:Str),v=.int c/\Q.rs[c]?=some x
section
variable {C:Ctx}{Q:Xc}{xn:List (Nat×Str)}{cl:Nat->List Wd->Me->Rz}{d:Nat}{X:Cx}{G:Addr}
theorem zfV {X:Cx}{st:Stmt}{t:TS}(h:PS X.nox st t):PS X st t:=fun pins s σ H D I hw =>
 wpAny_mono (h pins s σ H D (I.wish _) hw) (fun _ _ q=>q.unwish) fun _ _ z=>False.elim z
theorem zfW {E:XK}(hC:CtxOk C X cl d)(hX:StOk X.nox)(hO:XOk X.K X.mg Q G)(hx:∀x A,X.mg x=some (.ref A)->PySem.W.excIn X.K A vmB "ValueError.__new__" = true->OwnCls x A vmB "ValueError.__new__" X.mg X.base)(hp:v7 (CXr X.prog X.w) X E)(hr:g8 X E)
  (hF:XFn X.prog X.w X.K X.mg X.base Q xn cl d) {s:Sm}{sts:List Stmt}(h:IsX C Q xn X.env.scope X.N s sts):PSs X sts (fun _ σ H=>yR X.K (exS cl s) { nx:=fun _ _=>False,rt:=RX X.mg Q E } σ H):=by
 induction h with
 | @ite c y x msg j k np cp p p1 p2 rest rc ic hc hxs hg ok =>
  obtain ⟨A,hm,hA,hz⟩:=hO.x j x hxs
  have pR:=j8 (X:=X) (E:=E) (np:=np) (cpos:=cp) (pos:=p2) (hx x A hm hA) F.excBase_ValueError hC.calm (yx hg) hr (zD (wd (x:=msg) (j:=k) (pos:=p1)) yk) (xg ok).1
  have pI:=qU (pos:=p) ((yQ hc X hC rfl rfl).pt rc ic) (xW pR) (wq (X:=X) (sts:=[]))
  intro pins s σ H D I q
  refine xJ pI (wq (X:=X) (sts:=rest)) pins s σ H D I ?_
  refine cps fun zP zk=>?_
  obtain ⟨as,env,m,S,G',P⟩:=q
  refine zk ?_
  refine ⟨as,env,m,S,G',PostS.bind P fun w m1 as1 H1 v T1 S1 R1 P1=>?_⟩
  cases w with
  | bl b =>
   obtain rfl:=rep_bl.mp R1
   refine ⟨b,rfl,?_⟩
   cases b with
   | true =>
    refine jZ ⟨show 1<=sizeLine by decide,?_⟩
    refine cps fun zP zj=>?_
    obtain ⟨c',x',A',e1,e2,e3,e4⟩:=P1 as1 H1 (.int j) .refl S1 (rep_int.mpr rfl)
    refine zj ?_
    have e5:(j:Int)=c':=by injection e1
    have e6:j=c':=by lia
    subst e6
    rw[hxs] at e2
    cases e2
    rw[hm] at e3
    cases e3
    exact e4
   | false=>exact P1.elim
  | _=>exact P1.elim
 | @js c y x msg v i j k b np cp p p1 p2 p3 p4 p5 rest rc ic hc hxs hg ok hi hv ov hb hz1 hz2 =>
  obtain ⟨A,hm,hA,hz⟩:=hO.x j x hxs
  have pR:=j8 (X:=X) (E:=E) (np:=np) (cpos:=cp) (pos:=p2) (hx x A hm hA) F.excBase_ValueError hC.calm (yx hg) hr (zD (zdM (msg:=msg) (k:=k) (p1:=p1) (p3:=p3) (p4:=p4) (p5:=p5) hi (qw hv) (xg ov).1 (xg ov).2 (of_decide_eq_true hb) (of_decide_eq_true hz1) (of_decide_eq_true hz2)) yk) (xg ok).1
  have pI:=qU (pos:=p) ((yQ hc X hC rfl rfl).pt rc ic) (xW pR) (wq (X:=X) (sts:=[]))
  intro pins s σ H D I q
  refine xJ pI (wq (X:=X) (sts:=rest)) pins s σ H D I ?_
  refine cps fun zP zi=>?_
  obtain ⟨as,env,m,S,G',P⟩:=q
  refine zi ?_
  refine ⟨as,env,m,S,G',PostS.bind P fun w m1 as1 H1 v' T1 S1 R1 P1=>?_⟩
  cases w with
  | bl bb =>
   obtain rfl:=rep_bl.mp R1
   refine ⟨bb,rfl,?_⟩
   cases bb with
   | false=>exact P1.elim
   | true =>
    have P2:PostS X.K as1 H1 { nx:=fun _ _=>False,rt:=RX X.mg Q E } ((((match env[i]? with | some (some w)=>Rz.ok w m1 | _=>.no).bind fun x m2=>(Rz.ok (.int b) m2).bind fun y m3=>bop .sub x y m3).bind fun x m2=>(Rz.ok (.int 0) m2).bind fun y m3=>cop .eq x y m3).bindS env fun x m2=>match x with
     | .bl true=>exS cl (.ret (.lit (.int j))) env m2
     | .bl false=>exS cl .never env m2
     | _=>.no):=P1
    cases hw:env[i]? with
    | none=>rw[hw] at P2;exact P2.elim
    | some o =>
     cases o with
     | none=>rw[hw] at P2;exact P2.elim
     | some w =>
      rw[hw] at P2
      cases w with
      | int a =>
       have P3:PostS X.K as1 H1 { nx:=fun _ _=>False,rt:=RX X.mg Q E } (match Wd.bl (decide (a - b=0)) with
        | .bl true=>exS cl (.ret (.lit (.int j))) env m1
        | .bl false=>exS cl .never env m1
        | _=>.no):=P2
       obtain ⟨v2,hv2,R2⟩:=(G'.mono S T1).get i _ hw
       obtain rfl:=rep_int.mp R2
       cases z:decide (a - b=0) with
       | false=>rw[z] at P3;exact P3.elim
       | true =>
        rw[z] at P3
        have ab:a=b:=by have:=of_decide_eq_true z;lia
        subst ab
        refine jZ ⟨hv2,fun z'=>⟨show 1<=sizeLine by decide,?_⟩⟩
        have P4:PostS X.K as1 H1 { nx:=fun _ _=>False,rt:=RX X.mg Q E } (.ret (.int j) m1):=P3
        refine cps fun zP zh=>?_
        obtain ⟨c',x',A',e1,e2,e3,e4⟩:=P4 as1 H1 (.int j) .refl S1 (rep_int.mpr rfl)
        refine zh ?_
        have e5:(j:Int)=c':=by injection e1
        have e6:j=c':=by lia
        subst e6
        rw[hxs] at e2
        cases e2
        rw[hm] at e3
        cases e3
        exact e4
      | _=>exact P2.elim
  | _=>exact P1.elim
 | @seqS a b st st' r hn ha hb ih =>
  have p1:PS X st (yR X.K (exS cl a)):=zfV (jE (hC.wish _) hX ha)
  intro pins s σ H D I q
  refine xJ p1 ih pins s σ H D I ?_
  refine cps fun zP zg=>?_
  obtain ⟨as,env,m,S,G',P⟩:=q
  refine zg ?_
  refine ⟨as,env,m,S,G',?_⟩
  have P':PostS X.K as H { nx:=fun _ _=>False,rt:=RX X.mg Q E } (match exS cl a env m with
   | .next e1 m1=>exS cl b e1 m1
   | r=>r):=P
  rcases jh (cl:=cl) hn env m with ⟨e1,m1,e⟩ | ⟨c,w,e1,m1,e⟩ | e
  .rw[e] at P' ⊢
   exact fun as' H' σ' T S' G2=>⟨as',e1,m1,S',G2,PostS.step (r:=exS cl b e1 m1) P' T⟩
  .rw[e] at P';exact P'.elim
  .rw[e] at P';exact P'.elim
 | @call k a nm y ys p p' p2 rest hk hg ok hs ha =>
  refine cps fun zP zf=>?_
  obtain ⟨⟨f,fd,ps,h1,h2,h3,h4⟩,_⟩:=hF k nm hk
  refine zf ?_
  have hs':=hs
  rw[List.all_cons,Bool.and_eq_true] at hs'
  intro pins s σ H D I q
  have pa:PA (X.wish X.xe) (y::ys) (vv X.K (evE cl a)):=yQ ha X hC rfl rfl
  have go:wpAny (model X.prog X.w) X.A (eval (.Call (.Name nm p) (y::ys) [] p') X.env) (fun _ s1=>SP X pins { nx:=fun _ _=>False,rt:=D.rt } .next s1) X.xe s:=by
   refine gc (E:=E) h4 hC.room (yx hg) h1 h2 h3 (xg ok).1 pa (zu hs'.1) (yE hs'.2) I ?_ fun H1 s1 ev s' J z=>hp pins σ H1 s1 ev s' J z
   refine cps fun zP ze=>?_
   obtain ⟨as,env,m,S,G',P⟩:=q
   refine ze ?_
   have P0:Post X.K as H (RX X.mg Q E) ((evE cl a env m).bind fun w m1=>cl k (zv w) m1):=PostS.bind (r:=(evE cl a env m).bind fun w m1=>cl k (zv w) m1) P fun w m1 as1 H1 v T1 S1 R1 P1=>P1 as1 H1 v .refl S1 R1
   exact ⟨as,env,m,S,G',PostA.bind P0 fun w m1 as1 H1 vs T1 S1 R1 P1=>⟨as1,m1,zv w,S1,R1,P1⟩⟩
  refine wpAny_execs_cons (wpAny_Expr_any (wpAny_mono go (fun v s1 z=>?_) fun _ _ z=>z) I.quiet (jD (by rfl)))
  obtain ⟨_,_,_,z⟩:=z
  exact z.elim
theorem zcw (hO:XOk X.K X.mg Q G):∀ {ns:List Expr}{cs:List Nat},nsB X.env.scope Q ns cs=true->∃ts,IsNms X.env X.mg ns ts/\ts.length=cs.length /\
  ∀ (c:Nat) (A:Addr),(∀ (c':Nat) (x':Str) (A':Addr),Q.xs[c']?=some x'->X.mg x'=some (.ref A')->PySem.W.kitOne X.K (.ref A) (.ref A')=some (decide (c=c')))->PySem.W.kitAny X.K (.ref A) (ts.map Value.ref)=some (cs.any fun c'=>decide (c=c'))
 | [],[],_=>⟨[],.nil,rfl,fun c A _=>rfl⟩
 | [],_::_,h=>by cases h
 | e::es,[],h=>by cases e <;> cases h
 | e::es,c1::cs,h=>by
  cases e with
  | Name x p =>
   replace h:(glB X.env.scope x && (zV x && (decide (Q.xs[c1]?=some x) && nsB X.env.scope Q es cs)))=true:=h
   simp only[Bool.and_eq_true,decide_eq_true_eq] at h
   refine cps fun zP zk=>?_
   obtain ⟨h1,h2,h3,h4⟩:=h
   obtain ⟨ts,t1,t2,t3⟩:=zcw hO h4
   obtain ⟨A,hm⟩:=hO.y c1 x h3
   refine zk ?_
   refine ⟨A::ts,.cons (yx h1) hm (xg h2).1 t1,by simp[t2],fun c B hB=>?_⟩
   show (match PySem.W.kitOne X.K (.ref B) (.ref A) with
    | some true=>some true
    | some false=>PySem.W.kitAny X.K (.ref B) (ts.map Value.ref)
    | none=>none)=_
   rw[hB c1 x A h3 hm,t3 c B hB]
   by_cases z:c=c1
   .simp[z]
   .simp[z]
  | _=>cases h
end
structure OkX (C:Ctx)(Q:Xc)(xn:List (Nat×Str))(d:Dfn):Prop where
 sc:vA d.N d.ps (zE d.st)=true
 ar:d.ps.length=d.fn.ar
 sz:d.N.length=d.fn.sz
 body:IsX C Q xn (zE d.st) d.N d.fn.body (yI d.st)
section
variable {P:Program}{w:World}{K:PySem.W.Frag}{mg:Str->Option Value}{base:Heap}{C:Ctx}{cl:Nat->List Wd->Me->Rz}{Q:Xc}{xn:List (Nat×Str)}{G:Addr}
theorem arity {as:List Addr}{H:Hp}{R:VK}{fn:Fn}{ws:List Wd}{m:Me}(h:Post K as H R (xy cl fn ws m)):ws.length=fn.ar:=by
 unfold xy at h
 split at h
 .assumption
 .exact h.elim
theorem zaW {d:Dfn}{f:Addr}{fd:FuncData}{k:Nat}(F:Fun K d.nm d.nm d.st f fd)(hd:OkX C Q xn d)(kb:K.In base)(hO:XOk K mg Q G)(hF:XFn P w K mg base Q xn cl k)
  (hfn:∀ (i:Nat) (nm:Str),C.fns[i]?=some nm->∃f fd ps,mg nm=some (.ref f)/\PySem.W.keepIn K (.ref f)=true/\Binds K fd ps []/\FnOk P w K mg base CX0 k f fd ps (wS K (cl i)))
  (hcon:∀ (nm:Str) (i:Int),C.cons.lookup nm=some i->∃t,mg nm=some (.int i t)) (hblt:∀nm∈zB,mg nm=none) :
  FnOk P w K mg base (CXr P w) (k+1) f fd d.ps (spX K mg Q (xy cl d.fn)):=by
 refine cps fun zP zk=>?_
 obtain ⟨h1,h2,h3,h4⟩:=hd
 have Sc:=wx h1
 obtain ⟨oc,od,kV,doc,pm,an,cdv,ct,osl,rfl,lk,hcd⟩:=F.ex
 refine zk ?_
 refine zeQ lk hcd Sc (fun vs H Q' E h=>?_) fun A outer s H vs Q' E hr h=>?_
 .refine cps fun zP zj=>?_
  obtain ⟨as,m,ws,S,R,q⟩:=h
  refine zj ?_
  rw[<- R.length,arity q,h2]
 .refine cps fun zP zi=>?_
  obtain ⟨as,m,ws,S,R,q⟩:=h
  refine zi ?_
  have ha:=arity q
  have hC:CtxOk C (wZ (CXr P w) P w K mg base d.N d.nm (zE d.st) f cdv A outer s H E) cl k:=⟨hr,rfl,hfn,hcon,hblt⟩
  refine ⟨_,zfW hC ⟨Sc.nd,fun _=>rfl,PassesOwn.never⟩ hO (fun x A z1 z2=>(zcu (v:=.none) kb z2).1 x mg z1) zdH zbZ hF h4,as,yw d.fn ws,m,S,wz R ha h3,?_⟩
  unfold xy at q
  rw[if_pos ha] at q
  cases hr:exS cl d.fn.body (yw d.fn ws) m with
  | next e m1 =>
   rw[hr] at q
   intro as' H' σ' T S' G'
   obtain ⟨_,_,_,z,_⟩:=q as' H' .non T S' (rep_non.mpr rfl)
   cases z
  | ret w m1=>rw[hr] at q;exact fun as' H' v T S' R'=>q as' H' v T S' R'
  | brk e m1=>rw[hr] at q;exact q.elim
  | cont e m1=>rw[hr] at q;exact q.elim
  | exc c w e m1=>rw[hr] at q;exact q.elim
  | no=>rw[hr] at q;exact q.elim
theorem valX {sc:Scope}{N:List Str}{s:Sm}{sts:List Stmt}(h:IsX C Q xn sc N s sts)(hv:∀ (k:Nat) (nm:Str),xn.lookup k=some nm->∀ws m v m',cl k ws m=.ok v m'->∃ (c:Nat) (x:Str),v=.int c/\Q.rs[c]?=some x)(env:En)(m:Me):
  match exS cl s env m with
  | .ret v _=>∃ (c:Nat) (x:Str),v=.int c/\Q.rs[c]?=some x
  | .next _ _=>False
  | _=>True:=by
 induction h generalizing env m with
 | @ite c y x msg j k np cp p p1 p2 rest rc ic hc hxs hg ok =>
  show match (evE cl c env m).bindS env (fun x m1=>match x with
   | .bl true=>exS cl (.ret (.lit (.int j))) env m1
   | .bl false=>exS cl .never env m1
   | _=>.no) with
   | .ret v _=>_
   | .next _ _=>False
   | _=>True
  cases evE cl c env m with
  | ok w m1 =>
   cases w with
   | bl b =>
    cases b with
    | true=>exact ⟨j,x,rfl,hxs⟩
    | false=>trivial
   | _=>trivial
  | exc _ _ _=>trivial
  | no=>trivial
 | @js c y x msg v i j k b np cp p p1 p2 p3 p4 p5 rest rc ic hc hxs hg ok hi hv ov hb hz1 hz2 =>
  show match (evE cl c env m).bindS env (fun x m1=>match x with
   | .bl true=>exS cl (.ite (.cmp .eq (.bin .sub (.var i) (.lit (.int b))) (.lit (.int 0))) (.ret (.lit (.int j))) .never) env m1
   | .bl false=>exS cl .never env m1
   | _=>.no) with
   | .ret v _=>_
   | .next _ _=>False
   | _=>True
  cases evE cl c env m with
  | ok w m1 =>
   cases w with
   | bl b' =>
    cases b' with
    | true =>
     show match (evE cl (.cmp .eq (.bin .sub (.var i) (.lit (.int b))) (.lit (.int 0))) env m1).bindS env (fun x m2=>match x with
      | .bl true=>exS cl (.ret (.lit (.int j))) env m2
      | .bl false=>exS cl .never env m2
      | _=>.no) with
      | .ret v _=>_
      | .next _ _=>False
      | _=>True
     cases evE cl (.cmp .eq (.bin .sub (.var i) (.lit (.int b))) (.lit (.int 0))) env m1 with
     | ok w m2 =>
      cases w with
      | bl b'' =>
       cases b'' with
       | true=>exact ⟨j,x,rfl,hxs⟩
       | false=>trivial
      | _=>trivial
     | exc _ _ _=>trivial
     | no=>trivial
    | false=>trivial
   | _=>trivial
  | exc _ _ _=>trivial
  | no=>trivial
 | @seqS a b st st' r hn ha hb ih =>
  show match (match exS cl a env m with
   | .next e1 m1=>exS cl b e1 m1
   | r=>r) with
   | .ret v _=>_
   | .next _ _=>False
   | _=>True
  rcases jh (cl:=cl) hn env m with ⟨e1,m1,e⟩ | ⟨c,w,e1,m1,e⟩ | e
  .rw[e];exact ih e1 m1
  .rw[e];trivial
  .rw[e];trivial
 | @call k a nm y ys p p' p2 rest hk hg ok hs ha =>
  show match ((evE cl a env m).bind fun w m1=>cl k (zv w) m1).bindS env (fun w m1=>.ret w m1) with
   | .ret v _=>_
   | .next _ _=>False
   | _=>True
  cases evE cl a env m with
  | ok w m1 =>
   show match (cl k (zv w) m1).bindS env (fun w m1=>.ret w m1) with
    | .ret v _=>_
    | .next _ _=>False
    | _=>True
   cases e:cl k (zv w) m1 with
   | ok v m2=>exact hv k nm hk _ _ _ _ e
   | exc _ _ _=>trivial
   | no=>trivial
  | exc _ _ _=>trivial
  | no=>trivial
theorem runX {d:Dfn}(hd:OkX C Q xn d)(hv:∀ (k:Nat) (nm:Str),xn.lookup k=some nm->∀ws m v m',cl k ws m=.ok v m'->∃ (c:Nat) (x:Str),v=.int c/\Q.rs[c]?=some x)(ws:List Wd)(m:Me)(v:Wd)(m':Me)(h:xy cl d.fn ws m=.ok v m'):
  ∃ (c:Nat) (x:Str),v=.int c/\Q.rs[c]?=some x:=by
 have z:=valX hd.body hv (yw d.fn ws) m
 unfold xy at h
 split at h
 .cases e:exS cl d.fn.body (yw d.fn ws) m with
  | ret w m1=>rw[e] at h z;cases h;exact z
  | next _ _=>rw[e] at z;exact z.elim
  | brk _ _=>rw[e] at h;cases h
  | cont _ _=>rw[e] at h;cases h
  | exc _ _ _ _=>rw[e] at h;cases h
  | no=>rw[e] at h;cases h
 .cases h
end
noncomputable def gw (i:Nat):Sm:=.ret (.and (.cmp .eq (.idx (.var i) (.lit (.int 0))) (.idx (.var i) (.lit (.int 1)))) (.and (.cmp .eq (.idx (.var i) (.lit (.int 0))) (.idx (.var i) (.lit (.int 2)))) (.cmp .eq (.idx (.var i) (.lit (.int 0))) (.idx (.var i) (.lit (.int 3))))))
noncomputable def zaX (i:Nat):Sm:=.seq (.expr (.blt .sum (.pair (.var i) .unit))) (.ite (.cmp .eq (.blt .len (.pair (.var i) .unit)) (.lit (.int 4))) (gw i) .never)
noncomputable def zfX (a b c d:Int):Bool:=decide (a=b) && (decide (a=c) && decide (a=d))
section
variable {cl:Nat->List Wd->Me->Rz}{env:En}{m:Me}{i:Nat}
theorem zfY {w:Wd}{xs:List Wd}(h:gh m w=some xs):xb m w=some xs:=by
 cases w with
 | rol ys=>exact h
 | ref l=>exact h
 | _=>cases h
theorem zaY {xs:List Wd}{t:Int}(h:vq xs=some t)(hl:xs.length=4):∃a b c d:Int,xs=[.int a,.int b,.int c,.int d]:=by
 have hd:∀ {x:Wd}{r:List Wd}{t:Int},vq (x::r)=some t->∃j k,x=.int j/\vq r=some k:=fun {x r t} h=>by
  cases x with
  | int j =>
   simp only[vq,Option.map_eq_some_iff] at h
   obtain ⟨k,hk,_⟩:=h
   exact ⟨j,k,rfl,hk⟩
  | _=>cases h
 match xs,hl,h with
 | [x0,x1,x2,x3],_,h =>
  refine cps fun zP zk=>?_
  obtain ⟨a,_,e0,h0⟩:=hd h
  obtain ⟨b,_,e1,h1⟩:=hd h0
  obtain ⟨c,_,e2,h2⟩:=hd h1
  obtain ⟨d,_,e3,h3⟩:=hd h2
  refine zk ?_
  exact ⟨a,b,c,d,by rw[e0,e1,e2,e3]⟩
theorem zcx {w:Wd}{a b c d:Int}(hw:env[i]?=some (some w))(hs:xb m w=some [.int a,.int b,.int c,.int d]):exS cl (gw i) env m=.ret (.bl (zfX a b c d)) m:=by
 have ev:∀m,evE cl (.var i) env m=.ok w m:=fun m=>by
  show (match env[i]? with | some (some w)=>Rz.ok w m | _=>.no)=_
  rw[hw]
 have ix:∀ (k:Nat) (x:Int),[Wd.int a,.int b,.int c,.int d][k]?=some (.int x)->evE cl (.idx (.var i) (.lit (.int k))) env m=.ok (.int x) m:=fun k x hx=>by
  show (evE cl (.var i) env m).bind (fun x m1=>(Rz.ok (.int k) m1).bind fun y m2=>w6 x y m2)=_
  rw[ev]
  show w6 w (.int k) m=_
  unfold w6
  rw[hs]
  have hk:k < 4:=by
   have:=(List.getElem?_eq_some_iff.mp hx).1
   simpa using this
  have e:ix 4 (k:Int)=some k:=by
   unfold Mini.ix
   rw[if_pos (by lia),if_pos (by lia)]
   simp
  show (match (ix 4 (k:Int)).bind fun j=>[Wd.int a,.int b,.int c,.int d][j]? with
   | some v=>Rz.ok v m
   | none=>.no)=_
  rw[e,Option.bind_some,hx]
 have c1:∀ (x y:Int),cop .eq (.int x) (.int y) m=.ok (.bl (decide (x=y))) m:=fun _ _=>rfl
 have e01:evE cl (.cmp .eq (.idx (.var i) (.lit (.int 0))) (.idx (.var i) (.lit (.int 1)))) env m=.ok (.bl (decide (a=b))) m:=by
  show (evE cl (.idx (.var i) (.lit (.int (0:Nat)))) env m).bind (fun x m1=>(evE cl (.idx (.var i) (.lit (.int (1:Nat)))) env m1).bind fun y m2=>cop .eq x y m2)=_
  rw[ix 0 a rfl]
  show (evE cl (.idx (.var i) (.lit (.int (1:Nat)))) env m).bind (fun y m2=>cop .eq (.int a) y m2)=_
  rw[ix 1 b rfl]
  exact c1 a b
 have e02:evE cl (.cmp .eq (.idx (.var i) (.lit (.int 0))) (.idx (.var i) (.lit (.int 2)))) env m=.ok (.bl (decide (a=c))) m:=by
  show (evE cl (.idx (.var i) (.lit (.int (0:Nat)))) env m).bind (fun x m1=>(evE cl (.idx (.var i) (.lit (.int (2:Nat)))) env m1).bind fun y m2=>cop .eq x y m2)=_
  rw[ix 0 a rfl]
  show (evE cl (.idx (.var i) (.lit (.int (2:Nat)))) env m).bind (fun y m2=>cop .eq (.int a) y m2)=_
  rw[ix 2 c rfl]
  exact c1 a c
 have e03:evE cl (.cmp .eq (.idx (.var i) (.lit (.int 0))) (.idx (.var i) (.lit (.int 3)))) env m=.ok (.bl (decide (a=d))) m:=by
  show (evE cl (.idx (.var i) (.lit (.int (0:Nat)))) env m).bind (fun x m1=>(evE cl (.idx (.var i) (.lit (.int (3:Nat)))) env m1).bind fun y m2=>cop .eq x y m2)=_
  rw[ix 0 a rfl]
  show (evE cl (.idx (.var i) (.lit (.int (3:Nat)))) env m).bind (fun y m2=>cop .eq (.int a) y m2)=_
  rw[ix 3 d rfl]
  exact c1 a d
 have an:∀ (p q:Ex) (x y:Bool),evE cl p env m=.ok (.bl x) m->evE cl q env m=.ok (.bl y) m->evE cl (.and p q) env m=.ok (.bl (x && y)) m:=fun p q x y h1 h2=>by
  show (evE cl p env m).bind (fun x m1=>match x with
   | .bl true=>evE cl q env m1
   | .bl false=>.ok (.bl false) m1
   | _=>.no)=_
  rw[h1]
  cases x with
  | true=>exact h2
  | false=>rfl
 show (evE cl (.and _ (.and _ _)) env m).bindS env (fun w m1=>.ret w m1)=_
 rw[an _ _ _ _ e01 (an _ _ _ _ e02 e03)]
 rfl
theorem zcy {K:PySem.W.Frag}{as:List Addr}{H:Hp}{D:Ends}(P:PostS K as H D (exS cl (zaX i) env m)):∃w a b c d,env[i]?=some (some w)/\gh m w=some [.int a,.int b,.int c,.int d]/\PostS K as H D (.ret (.bl (zfX a b c d)) m):=by
 cases hw:env[i]? with
 | none =>
  have e:exS cl (zaX i) env m=.no:=by
   show (match ((((match env[i]? with | some (some w)=>Rz.ok w m | _=>.no)).bind fun x m1=>(Rz.ok (.tup []) m1).bind fun y m2=>.ok (.tup (x::zv y)) m2).bind fun x m1=>wP .sum (zv x) m1).bindS env fun _ m1=>.next env m1 with
    | .next e1 m1=>exS cl _ e1 m1
    | r=>r)=_
   rw[hw]
   rfl
  rw[e] at P
  exact P.elim
 | some o =>
  cases o with
  | none =>
   have e:exS cl (zaX i) env m=.no:=by
    show (match ((((match env[i]? with | some (some w)=>Rz.ok w m | _=>.no)).bind fun x m1=>(Rz.ok (.tup []) m1).bind fun y m2=>.ok (.tup (x::zv y)) m2).bind fun x m1=>wP .sum (zv x) m1).bindS env fun _ m1=>.next env m1 with
     | .next e1 m1=>exS cl _ e1 m1
     | r=>r)=_
    rw[hw]
    rfl
   rw[e] at P
   exact P.elim
  | some w =>
   have e:exS cl (zaX i) env m=(match (wP .sum [w] m).bindS env fun _ m1=>.next env m1 with
     | .next e1 m1=>exS cl (.ite (.cmp .eq (.blt .len (.pair (.var i) .unit)) (.lit (.int 4))) (gw i) .never) e1 m1
     | r=>r):=by
    show (match ((((match env[i]? with | some (some w)=>Rz.ok w m | _=>.no)).bind fun x m1=>(Rz.ok (.tup []) m1).bind fun y m2=>.ok (.tup (x::zv y)) m2).bind fun x m1=>wP .sum (zv x) m1).bindS env fun _ m1=>.next env m1 with
     | .next e1 m1=>exS cl _ e1 m1
     | r=>r)=_
    rw[hw]
    rfl
   rw[e] at P
   have eb:wP .sum [w] m=(match (gh m w).bind vq with
    | some i=>.ok (.int i) m
    | none=>.no):=rfl
   rw[eb] at P
   cases hl:(gh m w).bind vq with
   | none=>rw[hl] at P;exact P.elim
   | some t =>
    rw[hl] at P
    obtain ⟨xs,h1,h2⟩:=Option.bind_eq_some_iff.mp hl
    have hs:=zfY h1
    have P1:PostS K as H D (exS cl (.ite (.cmp .eq (.blt .len (.pair (.var i) .unit)) (.lit (.int 4))) (gw i) .never) env m):=P
    have el:evE cl (.cmp .eq (.blt .len (.pair (.var i) .unit)) (.lit (.int 4))) env m=.ok (.bl (decide ((xs.length:Int)=4))) m:=by
     show (((((match env[i]? with | some (some w)=>Rz.ok w m | _=>.no)).bind fun x m1=>(Rz.ok (.tup []) m1).bind fun y m2=>.ok (.tup (x::zv y)) m2).bind fun x m1=>wP .len (zv x) m1).bind fun x m1=>(Rz.ok (.int 4) m1).bind fun y m2=>cop .eq x y m2)=_
     rw[hw]
     have e2:wP .len [w] m=.ok (.int xs.length) m:=by
      show (match xb m w with
       | some xs=>Rz.ok (.int xs.length) m
       | none=>.no)=_
      rw[hs]
     show (wP .len [w] m).bind (fun x m1=>(Rz.ok (.int 4) m1).bind fun y m2=>cop .eq x y m2)=_
     rw[e2]
     rfl
    have e3:exS cl (.ite (.cmp .eq (.blt .len (.pair (.var i) .unit)) (.lit (.int 4))) (gw i) .never) env m=(match decide ((xs.length:Int)=4) with
     | true=>exS cl (gw i) env m
     | false=>.no):=by
     show (evE cl (.cmp .eq (.blt .len (.pair (.var i) .unit)) (.lit (.int 4))) env m).bindS env (fun x m1=>match x with
      | .bl true=>exS cl (gw i) env m1
      | .bl false=>exS cl .never env m1
      | _=>.no)=_
     rw[el]
     cases decide ((xs.length:Int)=4) <;> rfl
    rw[e3] at P1
    cases z:decide ((xs.length:Int)=4) with
    | false=>rw[z] at P1;exact P1.elim
    | true =>
     rw[z] at P1
     have hl4:xs.length=4:=by
      have:=of_decide_eq_true z
      lia
     refine cps fun zP zk=>?_
     obtain ⟨a,b,c,d,rfl⟩:=zaY h2 hl4
     refine zk ?_
     refine ⟨w,a,b,c,d,rfl,h1,?_⟩
     have P2:PostS K as H D (exS cl (gw i) env m):=P1
     rw[zcx hw hs] at P2
     exact P2
end
theorem zfZ {cl:Nat->List Wd->Me->Rz}{X:Cx}{C:Ctx}{d i:Nat}{x:Str}{p1 p2 p3 p4 p5 p6 p7 p8:Pos}(hC:CtxOk C X cl d)(hi:X.N[i]?=some x)(hv:qr X.env.scope x=true)(ho:zV x=true)(g1:glB X.env.scope "min" = true)(g2:glB X.env.scope "max" = true):
  PS X (.Return (some (.Compare (.Call (.Name "min" p1) [.Name x p2] [] p3) [.Eq] [.Call (.Name "max" p4) [.Name x p5] [] p6] p7)) p8) (yR X.K (exS cl (zaX i))):=by
 have pv:∀ {p:Pos},PE X (.Name x p) (zdp i):=fun {p}=>vZ hi (qw hv) (xg ho).1 (xg ho).2
 have b1:bootBuiltins "min" = some (.builtin "min"):=by rfl
 have b2:bootBuiltins "max" = some (.builtin "max"):=by rfl
 have c1:PE X (.Call (.Name "min" p1) [.Name x p2] [] p3) _:=yB (gf hC.calm) (yx g1) (hC.blt _ (by simp[zB])) b1 (zD pv yk)
 have c2:PE X (.Call (.Name "max" p4) [.Name x p5] [] p6) _:=yB (gd hC.calm) (yx g2) (hC.blt _ (by simp[zB])) b2 (zD pv yk)
 refine PS.imp (jo (pos:=p8) (zff (pos:=p7) (zfe c1 c2))) fun D σ H h=>?_
 refine cps fun zP zk=>?_
 obtain ⟨as,env,m,S,G,P⟩:=h
 obtain ⟨w,a,b,c,e,hw,hl,P⟩:=zcy P
 obtain ⟨v,hv',R⟩:=G.2 i w hw
 obtain ⟨q,vs,rfl,hq,rr⟩:=zeV S R hl
 obtain ⟨u0,r0,rfl,k0,rr⟩:=repL_cons.mp rr
 obtain ⟨u1,r1,rfl,k1,rr⟩:=repL_cons.mp rr
 obtain ⟨u2,r2,rfl,k2,rr⟩:=repL_cons.mp rr
 obtain ⟨u3,r3,rfl,k3,rr⟩:=repL_cons.mp rr
 refine zk ?_
 obtain rfl:=repL_nil.mp rr
 obtain rfl:=rep_int.mp k0
 obtain rfl:=rep_int.mp k1
 obtain rfl:=rep_int.mp k2
 obtain rfl:=rep_int.mp k3
 have fin:D.rt (.bl (zfX a b c e)) H:=P as H _ .refl S (rep_bl.mpr rfl)
 refine ⟨.ref q,hv',q,[a,b,c,e],rfl,hq,by simp,.ref q,hv',q,[a,b,c,e],rfl,hq,by simp,_,_,rfl,rfl,?_⟩
 show D.rt (.bl (decide (xN [a,b,c,e]=xL [a,b,c,e]))) H
 rw[zdN]
 exact fin
inductive IsM (C:Ctx)(sc:Scope)(N:List Str):Sm->List Stmt->Prop
 | mk {s:Sm}{st:Stmt}{i:Nat}{x:Str}{p1 p2 p3 p4 p5 p6 p7 p8:Pos}(hs:IsS C sc N s (.s st)) (hi:N[i]?=some x) (hv:qr sc x=true) (ho:zV x=true) (g1:glB sc "min" = true) (g2:glB sc "max" = true) :
   IsM C sc N (.seq s (zaX i)) [st,.Return (some (.Compare (.Call (.Name "min" p1) [.Name x p2] [] p3) [.Eq] [.Call (.Name "max" p4) [.Name x p5] [] p6] p7)) p8]
structure OkM (C:Ctx)(d:Dfn):Prop where
 sc:vA d.N d.ps (zE d.st)=true
 ar:d.ps.length=d.fn.ar
 sz:d.N.length=d.fn.sz
 body:IsM C (zE d.st) d.N d.fn.body (yI d.st)
theorem zf0 {cl:Nat->List Wd->Me->Rz}{X:Cx}{C:Ctx}{d:Nat}(hC:CtxOk C X cl d)(hX:StOk X){s:Sm}{sts:List Stmt}(h:IsM C X.env.scope X.N s sts):PSs X sts (yR X.K (exS cl s)):=by
 cases h with
 | mk hs hi hv ho g1 g2=>exact qx (jE hC hX hs) (xW (zfZ hC hi hv ho g1 g2))
section
variable {P:Program}{w:World}{K:PySem.W.Frag}{mg:Str->Option Value}{base:Heap}{C:Ctx}{cl:Nat->List Wd->Me->Rz}
theorem zaZ {d:Dfn}{f:Addr}{fd:FuncData}{k:Nat}(F:Fun K d.nm d.nm d.st f fd)(hd:OkM C d)
  (hfn:∀ (i:Nat) (nm:Str),C.fns[i]?=some nm->∃f fd ps,mg nm=some (.ref f)/\PySem.W.keepIn K (.ref f)=true/\Binds K fd ps []/\FnOk P w K mg base CX0 k f fd ps (wS K (cl i)))
  (hcon:∀ (nm:Str) (i:Int),C.cons.lookup nm=some i->∃t,mg nm=some (.int i t)) (hblt:∀nm∈zB,mg nm=none) :
  FnOk P w K mg base CX0 (k+1) f fd d.ps (wS K (xy cl d.fn)):=by
 obtain ⟨h1,h2,h3,h4⟩:=hd
 have Sc:=wx h1
 refine F.ok Sc (fun vs H Q' E h=>?_) (fun cdv A outer s H vs Q' E hr h=>?_)
 .refine cps fun zP zk=>?_
  obtain ⟨as,m,ws,S,R,q⟩:=h
  refine zk ?_
  rw[<- R.length,arity q,h2]
 .refine cps fun zP zj=>?_
  obtain ⟨as,m,ws,S,R,q⟩:=h
  refine zj ?_
  have ha:=arity q
  have hC:CtxOk C (wZ CX0 P w K mg base d.N d.nm (zE d.st) f cdv A outer s H E).nox cl k:=⟨hr,rfl,hfn,hcon,hblt⟩
  have hX:StOk (wZ CX0 P w K mg base d.N d.nm (zE d.st) f cdv A outer s H E).nox:=⟨Sc.nd,fun _=>rfl,PassesOwn.never⟩
  refine ⟨_,zf0 hC hX h4,as,yw d.fn ws,m,S,wz R ha h3,?_⟩
  unfold xy at q
  rw[if_pos ha] at q
  cases hr:exS cl d.fn.body (yw d.fn ws) m with
  | next e m1=>rw[hr] at q;exact fun as' H' σ' T S' G'=>q as' H' .non T S' (rep_non.mpr rfl)
  | ret w m1=>rw[hr] at q;exact fun as' H' v T S' R'=>q as' H' v T S' R'
  | brk e m1=>rw[hr] at q;exact q.elim
  | cont e m1=>rw[hr] at q;exact q.elim
  | exc c w e m1=>rw[hr] at q;exact q.elim
  | no=>rw[hr] at q;exact q.elim
end
theorem PostAS.bind {K:PySem.W.Frag}{as:List Addr}{H:Hp}{D:Ends}{Q1:List V->Hp->Prop}{r:Rz}{g:Wd->Me->Rz}{env:En}{f:Wd->Me->Rs}(h:PostS K as H D ((r.bind g).bindS env f))
  (k:∀w m' as' H' vs,Step as H as' H'->Sim K as' m' H'->RepL K as' H' (zv w) vs->PostS K as' H' D ((g w m').bindS env f)->Q1 vs H'):PostA K as H Q1 r:=by
 cases r with
 | ok w m'=>exact fun as2 H2 v U S R=>k w m' as2 H2 v U S R (PostS.step (r:=(g w m').bindS env f) h U)
 | exc c w m'=>exact h
 | no=>exact h
theorem jF {K:PySem.W.Frag}{as:List Addr}{m:Me}{H:Hp}{p:Addr}(S:Sim K as m H)(hp:H p=none)(o:HO):Step as H as (upd H p o)/\Sim K as m (upd H p o):=by
 have T:Step as H as (upd H p o):=⟨⟨[],by simp⟩,fun b o' h _=>by rw[zo (zC h hp)];exact h,fun b hb=>.inl hb⟩
 refine ⟨T,S.keep T fun b _ o' e=>?_⟩
 rw[zo (zC e hp)]
 exact e
section
variable {y:Nat}
theorem eqB {c y:Nat}:decide ((c:Int)=(y:Int))=decide (c=y):=by
 by_cases z:c=y
 .simp[z]
 .have:¬(c:Int)=(y:Int):=by lia
  simp[z,this]
end
inductive IsV (C:Ctx)(Q:Xc)(xn:List (Nat×Str))(sc:Scope)(N:List Str):Sm->List Stmt->Prop
 | mk {k y z i j:Nat}{a:Ex}{nm x n ny nz t0 t1 t2 t3 te:Str}{l0 l1 l2:List Nat}{e0:Expr}{es ns:List Expr}{cs:List Nat}{st:Stmt}{p q p' np hp pos r1 r2 p1 p2 p3 p4 p5 p6 p7 p8 p9 pa pb pc pd q1 q2 q3 q4 q5 q6 q7 q8 q9 qa qb qc qd qe qf qg qh qi qj qk ql qm qn:Pos}{k1 k2 j0 j1 j2 j3 j4:Nat}
   (h0:IsS C sc N (.asg j (.lit (.str l0))) (.s st)) (hk:xn.lookup k=some nm) (hg:glB sc nm=true) (ok:zV nm=true) (hs:(e0::es).all zL=true) (ha:IsE C sc N a (.a (e0::es))) (gg:glB sc Q.g=true) (og:zV Q.g=true) (hi:N[i]?=some n) (hn:decide (sc.names.lookup n=some .local)=true) (on:zV n=true)
   (hj:N[j]?=some x) (hx:decide (sc.names.lookup x=some .local)=true) (ox:zV x=true) (hij:decide (i=j)=false) (hns:nsB sc Q ns cs=true) (hcy:cs.contains y=false) (hcz:cs.contains z=false) (hz:cs.length<=1000) (hrs:Q.rs.length=2) (hyz:y+z=1)
   (hy:Q.rs[y]?=some ny) (gy:glB sc ny=true) (oy:zV ny=true) (hz':Q.rs[z]?=some nz) (gz:glB sc nz=true) (oz:zV nz=true) (gI:glB sc "isinstance" = true) (gV:glB sc "ValueError" = true) (gT:glB sc "int" = true) (e1:t1.cps.toList=l1) (e2:t2.cps.toList=l2) :
   IsV C Q xn sc N (.seq (.asg j (.lit (.str l0))) (.ite (.cmp .eq (.call k a) (.lit (.int y))) (.ret (.lit (.str l1))) (.ret (.lit (.str l2)))))
    (st::[.Try [.Expr (.Call (.Name nm p) (e0::es) [] q) p'] [.ExceptHandler (some (.Name Q.g np)) (some n) (qo x n ny nz ns t0 t1 t2 t3 te p1 p2 p3 p4 p5 p6 p7 p8 p9 pa pb pc pd q1 q2 q3 q4 q5 q6 q7 q8 q9 qa qb qc qd qe qf qg qh qi qj qk ql qm qn k1 k2 j0 j1 j2 j3 j4) hp] [] [] pos,.Return (some (.Name x r1)) r2])
section
variable {C:Ctx}{Q:Xc}{xn:List (Nat×Str)}{X:Cx}{cl:Nat->List Wd->Me->Rz}{d:Nat}{G:Addr}
theorem zf1 (hC:CtxOk C X cl d)(hX:StOk X)(hst:X.stack=X.env::X.outer)(hfr:X.env.frame=some X.env.locals)(hex:X.ex=[])(hO:XOk X.K X.mg Q G)(hb:∀A v,PySem.W.excIn X.K A vmB "ValueError.__new__" = true->PySem.W.mroIn X.K A v=some true->jd X.base A v)
  (hF:XFn X.prog X.w X.K X.mg X.base Q xn cl d) (hN:X.N.Nodup) {s:Sm}{sts:List Stmt}(h:IsV C Q xn X.env.scope X.N s sts):PSs X sts (yR X.K (exS cl s)):=by
 cases h with
 | @mk k y z i j a nm x n ny nz t0 t1 t2 t3 te l0 l1 l2 e0 es ns cs st p q p' np hp pos r1 r2 p1 p2 p3 p4 p5 p6 p7 p8 p9 pa pb pc pd q1 q2 q3 q4 q5 q6 q7 q8 q9 qa qb qc qd qe qf qg qh qi qj qk ql qm qn k1 k2 j0 j1 j2 j3 j4 h0 hk hg ok hs ha gg og hi hn on hj hx ox hij hns hcy hcz hz hrs hyz hy gy oy hz' gz oz gI gV gT e1 e2 =>
  have hij':i≠j:=of_decide_eq_false hij
  refine qx (jE hC hX h0) (show PSs X _ (yR X.K (exS cl (.ite (.cmp .eq (.call k a) (.lit (.int y))) (.ret (.lit (.str l1))) (.ret (.lit (.str l2)))))) from ?_)
  refine cps fun zP zk=>?_
  obtain ⟨⟨f,fd,ps,f1,f2,f3,f4⟩,val⟩:=hF k nm hk
  have hs':=hs
  rw[List.all_cons,Bool.and_eq_true] at hs'
  have hn':=of_decide_eq_true hn
  have hx':=of_decide_eq_true hx
  obtain ⟨ts,u1,u2,u3⟩:=zcw hO hns
  obtain ⟨Y,mY,_,_,_,_,_⟩:=hO.x y ny hy
  obtain ⟨Z,mZ,_,_,_,_,_⟩:=hO.x z nz hz'
  refine zk ?_
  have pT:PS X (.Try [.Expr (.Call (.Name nm p) (e0::es) [] q) p'] [.ExceptHandler (some (.Name Q.g np)) (some n) (qo x n ny nz ns t0 t1 t2 t3 te p1 p2 p3 p4 p5 p6 p7 p8 p9 pa pb pc pd q1 q2 q3 q4 q5 q6 q7 q8 q9 qa qb qc qd qe qf qg qh qi qj qk ql qm qn k1 k2 j0 j1 j2 j3 j4) hp] [] [] pos) _:=zdL (X:=X) (G:=G) (p:=p) (q:=q) (p':=p') (np:=np) (hp:=hp) (pos:=pos)
   hst hfr hex f4 hC.room (yx hg) f1 f2 f3 (xg ok).1 (t:=vv X.K (evE cl a)) (fun E=>yQ ha (X.wish E) (hC.wish E) rfl rfl) (hb G _ hO.ge hO.gb) (yx gg) hO.g (xg og).1 hN hi hn' (zu hs'.1) (yE hs'.2) (jD (by rfl))
  have pR:PS X (.Return (some (.Name x r1)) r2) (zgy (zdp j)):=jo (vZ hj (.inl hx') (xg ox).1 (xg ox).2)
  intro pins s σ H D I qq
  refine xJ pT (xW pR) pins s σ H D I ?_
  have hiσ:i < σ.length:=by rw[I.len];exact (List.getElem?_eq_some_iff.mp hi).1
  have hjσ:j < σ.length:=by rw[I.len];exact (List.getElem?_eq_some_iff.mp hj).1
  refine cps fun zP zj=>?_
  obtain ⟨as,env,m,S,G',P⟩:=qq
  refine zj ?_
  have ex1:exS cl (.ite (.cmp .eq (.call k a) (.lit (.int y))) (.ret (.lit (.str l1))) (.ret (.lit (.str l2)))) env m =
    ((evE cl a env m).bind fun w m1=>(cl k (zv w) m1).bind fun u m2=>cop .eq u (.int y) m2).bindS env fun b m3=>match b with
     | .bl true=>exS cl (.ret (.lit (.str l1))) env m3
     | .bl false=>exS cl (.ret (.lit (.str l2))) env m3
     | _=>.no:=by
   show ((((evE cl a env m).bind fun x m1=>cl k (zv x) m1).bind fun u m2=>((Rz.ok (.int y) m2).bind fun v m3=>cop .eq u v m3)).bindS env _)=_
   cases evE cl a env m <;> rfl
  rw[ex1] at P
  refine ⟨as,env,m,S,G',PostAS.bind P fun w m1 as1 H1 vs T1 S1 R1 P1=>⟨as1,m1,zv w,S1,R1,?_⟩⟩
  cases hcl:cl k (zv w) m1 with
  | exc c w' m2=>rw[hcl] at P1;exact P1.elim
  | no=>rw[hcl] at P1;exact P1.elim
  | ok u m2 =>
   rw[hcl] at P1
   obtain ⟨c,x',rfl,hxs⟩:=val _ _ _ _ hcl
   intro as2 H2 v T2 S2 R2
   obtain rfl:=rep_int.mp R2
   refine cps fun zP zi=>?_
   obtain ⟨A,hmA,hAe,hAk,hAm,hAv,hAo⟩:=hO.x c x' hxs
   refine zi ?_
   have P2:PostS X.K as1 H1 D (match Wd.bl (decide ((c:Int)=(y:Int))) with
     | .bl true=>exS cl (.ret (.lit (.str l1))) env m2
     | .bl false=>exS cl (.ret (.lit (.str l2))) env m2
     | _=>.no):=P1
   rw[eqB] at P2
   have hc2:c < 2:=by rw[<- hrs];exact (List.getElem?_eq_some_iff.mp hxs).1
   have hany:(cs.any fun c'=>decide (c=c'))=false:=by
    rw[List.any_eq_false]
    intro c' hc'
    have a1:=hcy
    have a2:=hcz
    rw[List.contains_eq_any_beq,List.any_eq_false] at a1 a2
    have b1:=a1 c' hc'
    have b2:=a2 c' hc'
    simp only[beq_iff_eq] at b1 b2
    simp only[decide_eq_true_eq]
    lia
   refine ⟨c,x',A,rfl,hxs,hmA,A,rfl,hb A _ hAe hAm,fun e oe E' hoe hHe=>?_⟩
   have hv:(σ.set i (some (V.ref e)))[i]?=some (some (V.ref e)):=List.getElem?_set_self hiσ
   have fin:∀ (t:Str) (H':Hp),Step as2 H2 as2 H'->Sim X.K as2 m2 H'->(if c=y then t1 else t2)=t->D.rt (.str t) H':=fun t H' T S' et=>by
    subst et
    by_cases q1:c=y
    .rw[if_pos q1]
     rw[decide_eq_true q1] at P2
     have P3:PostS X.K as1 H1 D (.ret (.str l1) m2):=P2
     exact P3 _ _ _ (T2.trans T) S' (rep_str.mpr (by subst e1;simp))
    .rw[if_neg q1]
     rw[decide_eq_false q1] at P2
     have P3:PostS X.K as1 H1 D (.ret (.str l2) m2):=P2
     exact P3 _ _ _ (T2.trans T) S' (rep_str.mpr (by subst e2;simp))
   refine zaS (X:=X.heldT e E') (C:=A) (Y:=Y) (Z:=Z) (b1:=decide (c=y)) (b2:=decide (c=z)) (v:=.str (if c=y then t1 else t2)) hAk hAv (by rw[u3 c A hAo,hany]) (hAo y ny Y (Xc.at hy) mY) (hAo z nz Z (Xc.at hz') mZ) hoe u1 (by rw[u2];exact hz)
    (yx gy) mY (xg oy).1 (yx gz) mZ (xg oz).1 (yx gI) (hC.blt _ (by simp[zB])) (yx gV) hO.v (yx gT) (hC.blt _ (by simp[zB])) hN hj hx' hi hn' (xg on).1 (xg on).2 hv zp ?_ fun pt ts' l hpt hl=>?_
   .by_cases q1:c=y
    .have q2:¬ c=z:=by lia
     simp only[q1,if_pos]
     have q3:¬ y=z:=by lia
     simp[q3]
     rfl
    .have q2:c=z:=by lia
     have q3:¬ z=y:=by lia
     simp[q2,q3]
     rfl
   .refine cps fun zP zh=>?_
    obtain ⟨T3,S3⟩:=jF S2 hHe (exO oe)
    obtain ⟨T4,S4⟩:=jF S3 hpt (.tup ts')
    obtain ⟨T5,S5⟩:=jF S4 hl (.lst [V.str t0,.str t1,.str t2,.str t3])
    refine zh ?_
    refine ⟨.str (if c=y then t1 else t2),?_,fin _ _ (T3.trans (T4.trans T5)) S5 rfl⟩
    rw[List.getElem?_set_ne hij',List.getElem?_set_self (by rw[List.length_set];exact hjσ)]
end
structure OkV (C:Ctx)(Q:Xc)(xn:List (Nat×Str))(d:Dfn):Prop where
 sc:vA d.N d.ps (zE d.st)=true
 ar:d.ps.length=d.fn.ar
 sz:d.N.length=d.fn.sz
 body:IsV C Q xn (zE d.st) d.N d.fn.body (yI d.st)
section
variable {P:Program}{w:World}{K:PySem.W.Frag}{mg:Str->Option Value}{base:Heap}{C:Ctx}{cl:Nat->List Wd->Me->Rz}{Q:Xc}{xn:List (Nat×Str)}{G:Addr}
theorem za0 {d:Dfn}{f:Addr}{fd:FuncData}{k:Nat}(F:Fun K d.nm d.nm d.st f fd)(hd:OkV C Q xn d)(kb:K.In base)(hO:XOk K mg Q G)(hF:XFn P w K mg base Q xn cl k)
  (hfn:∀ (i:Nat) (nm:Str),C.fns[i]?=some nm->∃f fd ps,mg nm=some (.ref f)/\PySem.W.keepIn K (.ref f)=true/\Binds K fd ps []/\FnOk P w K mg base CX0 k f fd ps (wS K (cl i)))
  (hcon:∀ (nm:Str) (i:Int),C.cons.lookup nm=some i->∃t,mg nm=some (.int i t)) (hblt:∀nm∈zB,mg nm=none) :
  FnOk P w K mg base CX0 (k+1) f fd d.ps (wS K (xy cl d.fn)):=by
 obtain ⟨h1,h2,h3,h4⟩:=hd
 have Sc:=wx h1
 refine F.ok Sc (fun vs H Q' E h=>?_) (fun cdv A outer s H vs Q' E hr h=>?_)
 .refine cps fun zP zk=>?_
  obtain ⟨as,m,ws,S,R,q⟩:=h
  refine zk ?_
  rw[<- R.length,arity q,h2]
 .refine cps fun zP zj=>?_
  obtain ⟨as,m,ws,S,R,q⟩:=h
  refine zj ?_
  have ha:=arity q
  have hC:CtxOk C (wZ CX0 P w K mg base d.N d.nm (zE d.st) f cdv A outer s H E).nox cl k:=⟨hr,rfl,hfn,hcon,hblt⟩
  refine ⟨_,zf1 hC ?hX rfl rfl rfl hO (fun A v z1 z2=>(zcu kb z1).2 z2) hF Sc.nd h4,as,yw d.fn ws,m,S,wz R ha h3,?_⟩
  case hX=>exact ⟨Sc.nd,fun _=>rfl,PassesOwn.never⟩
  unfold xy at q
  rw[if_pos ha] at q
  cases hr:exS cl d.fn.body (yw d.fn ws) m with
  | next e m1=>rw[hr] at q;exact fun as' H' σ' T S' G'=>q as' H' .non T S' (rep_non.mpr rfl)
  | ret w m1=>rw[hr] at q;exact fun as' H' v T S' R'=>q as' H' v T S' R'
  | brk e m1=>rw[hr] at q;exact q.elim
  | cont e m1=>rw[hr] at q;exact q.elim
  | exc c w e m1=>rw[hr] at q;exact q.elim
  | no=>rw[hr] at q;exact q.elim
end
noncomputable def zcz:Nat->List Dfn->List (Nat×Str)
 | _,[]=>[]
 | n,d::r=>(n,d.nm)::zcz (n+1) r
theorem jG:∀ {XD:List Dfn}{n k:Nat}{nm:Str},(zcz n XD).lookup k=some nm->∃j d,XD[j]?=some d/\d.nm=nm/\k=n+j
 | [],_,_,_,h=>by cases h
 | d::r,n,k,nm,h=>by
  unfold zcz at h
  rw[List.lookup_cons] at h
  cases e:k == n with
  | true =>
   rw[e] at h
   cases h
   exact ⟨0,d,rfl,rfl,by simpa using e⟩
  | false =>
   rw[e] at h
   refine cps fun zP zk=>?_
   obtain ⟨j,d',h1,h2,h3⟩:=jG h
   refine zk ?_
   exact ⟨j+1,d',h1,h2,by lia⟩
section
variable {P:Program}{w:World}{K:PySem.W.Frag}{mg:Str->Option Value}{base:Heap}{C:Ctx}{Q:Xc}{xn:List (Nat×Str)}{G:Addr}
theorem zcA {D XD:List Dfn}(hC:C.fns=D.map (·.nm))(hxn:xn=zcz D.length XD)(hD:∀d∈D,OkD C d\/OkV C Q xn d\/OkM C d)(hX:∀d∈XD,OkX C Q xn d)(hB:∀d∈D,Bnd d)(hBX:∀d∈XD,Bnd d)(hK:∀d∈D,zW K mg d)(hKX:∀d∈XD,zW K mg d)
  (kb:K.In base) (hO:XOk K mg Q G) (hcon:∀ (nm:Str) (i:Int),C.cons.lookup nm=some i->∃t,mg nm=some (.int i t)) (hblt:∀nm∈zB,mg nm=none) :
  ∀k:Nat,(∀ (i:Nat) (d:Dfn),D[i]?=some d->∀f fd,Fun K d.nm d.nm d.st f fd->FnOk P w K mg base CX0 k f fd d.ps (wS K (yD (D.map (·.fn)++XD.map (·.fn)) k i)))/\XFn P w K mg base Q xn (yD (D.map (·.fn)++XD.map (·.fn)) k) k
 | 0=>by
  have no:∀ {i:Nat}{vs:List V}{H:Hp}{R:VK}{E:XK},¬ wS K (yD (D.map (·.fn)++XD.map (·.fn)) 0 i) vs H R E:=fun {i vs H R E} h=>by
   refine cps fun zP zk=>?_
   obtain ⟨as,m,ws,S,R,q⟩:=h
   refine zk ?_
   exact q
  refine ⟨fun i d hi f fd F=>⟨fun vs H R E h=>(no h).elim,fun A outer s H args us vs R E _ _ _ _ h=>(no h).elim⟩,fun k nm hk=>⟨?_,fun ws m v m' h=>by cases h⟩⟩
  rw[hxn] at hk
  refine cps fun zP zj=>?_
  obtain ⟨j,d,h1,rfl,rfl⟩:=jG hk
  obtain ⟨f,fd,F,hm⟩:=hKX d (List.mem_of_getElem? h1)
  refine zj ?_
  exact ⟨f,fd,d.ps,hm,F.kp,F.binds (hBX d (List.mem_of_getElem? h1)),⟨fun vs H R E h=>(no h).elim,fun A outer s H args us vs R E _ _ _ _ h=>(no h).elim⟩⟩
 | k+1=>by
  obtain ⟨ih,ihX⟩:=zcA hC hxn hD hX hB hBX hK hKX kb hO hcon hblt k
  have hfn:∀ (j:Nat) (nm:Str),C.fns[j]?=some nm->∃f fd ps,mg nm=some (.ref f)/\PySem.W.keepIn K (.ref f)=true/\Binds K fd ps []/\FnOk P w K mg base CX0 k f fd ps (wS K (yD (D.map (·.fn)++XD.map (·.fn)) k j)):=fun j nm hj=>by
   rw[hC,List.getElem?_map] at hj
   cases hx:D[j]? with
   | none=>rw[hx] at hj;cases hj
   | some d' =>
    rw[hx] at hj
    cases hj
    refine cps fun zP zi=>?_
    obtain ⟨f',fd',F',m'⟩:=hK d' (List.mem_of_getElem? hx)
    refine zi ?_
    exact ⟨f',fd',d'.ps,m',F'.kp,F'.binds (hB d' (List.mem_of_getElem? hx)),ih j d' hx f' fd' F'⟩
  have at1:∀ {i:Nat}{d:Dfn},D[i]?=some d->yD (D.map (·.fn)++XD.map (·.fn)) (k+1) i=xy (yD (D.map (·.fn)++XD.map (·.fn)) k) d.fn:=fun {i d} hi=>by
   funext ws m
   have z:(D.map Dfn.fn++XD.map Dfn.fn)[i]?=some d.fn:=by
    rw[List.getElem?_append_left (by rw[List.length_map];exact (List.getElem?_eq_some_iff.mp hi).1),List.getElem?_map,hi]
    rfl
   show (match ((D.map Dfn.fn)++(XD.map Dfn.fn):List Fn)[i]? with
    | some fn=>xy (yD (D.map Dfn.fn++XD.map Dfn.fn) k) fn ws m
    | none=>.no)=_
   rw[z]
  have at2:∀ {j:Nat}{d:Dfn},XD[j]?=some d->yD (D.map (·.fn)++XD.map (·.fn)) (k+1) (D.length+j)=xy (yD (D.map (·.fn)++XD.map (·.fn)) k) d.fn:=fun {j d} hi=>by
   funext ws m
   have z:(D.map Dfn.fn++XD.map Dfn.fn)[D.length+j]?=some d.fn:=by
    rw[List.getElem?_append_right (by rw[List.length_map];lia),List.length_map,Nat.add_sub_cancel_left,List.getElem?_map,hi]
    rfl
   show (match ((D.map Dfn.fn)++(XD.map Dfn.fn):List Fn)[D.length+j]? with
    | some fn=>xy (yD (D.map Dfn.fn++XD.map Dfn.fn) k) fn ws m
    | none=>.no)=_
   rw[z]
  refine ⟨fun i d hi f fd F=>?_,fun i nm hk=>?_⟩
  .rw[at1 hi]
   rcases hD d (List.mem_of_getElem? hi) with h | h | h
   .exact zcs F h hfn hcon hblt
   .exact za0 F h kb hO ihX hfn hcon hblt
   .exact zaZ F h hfn hcon hblt
  .rw[hxn] at hk
   refine cps fun zP zh=>?_
   obtain ⟨j,d,h1,rfl,rfl⟩:=jG hk
   have hm:=List.mem_of_getElem? h1
   obtain ⟨f,fd,F,m'⟩:=hKX d hm
   refine zh ?_
   rw[at2 h1]
   exact ⟨⟨f,fd,d.ps,m',F.kp,F.binds (hBX d hm),zaW F (hX d hm) kb hO ihX hfn hcon hblt⟩,runX (hX d hm) fun k nm hk=>(ihX k nm hk).2⟩
end
theorem za1 {K:PySem.W.Frag}{T:List Fn}{k i:Nat}{H:Hp}{a:Addr}{ns:List Int}{E:XK}(hO:zbP H)(hS:SqL K H a (ns.map V.int))(h:∃m,yD T k i [.rol (ns.map Wd.int)] []=.ok (.bl true) m):
  wS K (yD T k i) [.ref a] H (fun v _=>v=.bl true) E:=by
 have e:∀l:List Fn,(l.map fun f=>(⟨"",.Pass ⟨0,0,0,0⟩,[],[],f⟩:Dfn)).map (·.fn)=l:=fun l=>by
  induction l with
  | nil=>rfl
  | cons f l ih=>show f::_=_;rw[ih]
 have z:=zct (D:=T.map fun f=>(⟨"",.Pass ⟨0,0,0,0⟩,[],[],f⟩:Dfn)) (k:=k) (i:=i) (E:=E) hO hS
 rw[e] at z
 exact z h
theorem zgY {l:PySem.W.OpenLaw}{q:Program}{loose:List Str}{XP:(Str->Option Value)->Heap->Prop}{YP:World->Heap->Prop}{d:DefRec}{Kp:Params->PySem.W.Frag}{D XD:List Dfn}{C:Ctx}{Q:Xc}{xn:List (Nat×Str)}{k i:Nat}{dl:Dfn}{x:Str}{n:Nat}
  (hn:l.most=some n) (hn2:n<=sizeLine) (hdf:d.params.defaults=[]) (hr:Room k callerA) (hY:∀ (w:World) (h:Heap),YP w h->(Kp w.params).In h)
  (hC:C.fns=D.map (·.nm)) (hxn:xn=zcz D.length XD) (hD:∀d∈D,OkD C d\/OkV C Q xn d\/OkM C d) (hX:∀d∈XD,OkX C Q xn d) (hB:∀d∈D,Bnd d) (hBX:∀d∈XD,Bnd d) (hi:D[i]?=some dl) (hx:dl.ps=[x]) (hnm:d.name=dl.nm)
  (F:∀ (w:World) (mg:Str->Option Value) (fa:Addr) (h:Heap),(Kp w.params).In h->h.Ns mainGlobals mg->mg d.name=some (.ref fa) ->
   ((∀e∈D,zW (Kp w.params) mg e)/\(∀ (nm:Str) (i:Int),C.cons.lookup nm=some i->∃t,mg nm=some (.int i t))/\∀nm∈zB,mg nm=none)/\(∀e∈XD,zW (Kp w.params) mg e)/\∃G,XOk (Kp w.params) mg Q G)
  (hpure:∀ns:List Int,ns.length<=n->∃m,yD (D.map (·.fn)++XD.map (·.fn)) k i [.rol (ns.map Wd.int)] []=.ok (.bl true) m) :
  PySem.W.WalkO q loose XP YP l.row.toRowW d [] (fun f vs=>PySem.call f vs):=by
 refine L2.zdD (n:=n) (k:=k) (x:=x) (CX:=fun _=>CX0) (sp:=fun w=>wS (Kp w.params) (yD (D.map (·.fn)++XD.map (·.fn)) k i)) hn hn2 hdf hr hY ?_ (fun w H a ns hl hO hS=>za1 hO hS (hpure ns hl)) fun _ _ _ _ _ z=>z
 intro w mg fa h KX Gn hmg
 refine cps fun zP zk=>?_
 obtain ⟨⟨h1,h2,h3⟩,h4,G,h5⟩:=F w mg fa h KX Gn hmg
 obtain ⟨f,fd,Ff,hm⟩:=h1 dl (List.mem_of_getElem? hi)
 refine zk ?_
 rw[hnm,hm] at hmg
 cases hmg
 refine ⟨fd,fun s u=>?_,fun base kb nb=>?_⟩
 .refine cps fun zP zj=>?_
  obtain ⟨oc,od,kV,doc,pm,an,cdv,ct,osl,rfl,lk,hcd⟩:=Ff.ex
  refine zj ?_
  have z:=hB dl (List.mem_of_getElem? hi) kV doc pm an cdv ct [u] (by rw[hx];rfl)
  rw[hx] at z
  exact .of_eq z
 .rw[<- hx]
  exact (zcA hC hxn hD hX hB hBX h1 h4 kb h5 h2 h3 k).1 i dl hi fa fd Ff
theorem zgZ {q:Program}{loose:List Str}{XP:(Str->Option Value)->Heap->Prop}{r:PySem.W.RowW}{d:DefRec}{kwd:List (Str×Expr)}{run:Value->List Value->Sem Value}{K:Params->PySem.W.Frag}{as:List Addr}{n t:Nat}(e:∀P,as=(K P).map (·.1))
  (h:PySem.W.WalkO q loose XP (fun w h=>(K w.params).In h) r d kwd run):PySem.W.WalkX q loose XP (PySem.W.X.obsZ as) (PySem.W.X.valZ K n t) r d kwd run :=
 fun w s₀ s₁ mg mb G y a o pm cd doc dV kV h1 h2 h3 h4 h5 h6 args vals as' L p1 p2 p3 p4 p5=>h w s₀ s₁ mg mb G (PySem.W.InK.keeps (K:=K) w _ _ (PySem.W.X.z_facts e y).2.1 L.keeps) a o pm cd doc dV kV h1 h2 h3 h4 h5 h6 args vals as' p1 p2 p3 p4 p5
end Mini
namespace R32
open PySem L2 Mini
noncomputable def top (i:Nat):Stmt:=PySem.Challenge.pw_loopgyre_k32_squares_turned.main.body.getD i (.Pass ⟨0,0,0,0⟩)
noncomputable def f0:Fn:=⟨1,1,(.ret (.and (.isi .int (.var 0)) (.not (.isi .bool (.var 0)))))⟩
noncomputable abbrev d0:Dfn:=⟨"is_whole",top 11,["thing"],["thing"],f0⟩
noncomputable def f1:Fn:=⟨3,3,(.ret (.and (.call 0 (.pair (.var 1) .unit)) (.and (.call 0 (.pair (.var 2) .unit)) (.and (.chain .lt .lt (.lit (.int 0)) (.var 1) (.var 0)) (.chain .lt .lt (.lit (.int 0)) (.var 2) (.var 0))))))⟩
noncomputable abbrev d1:Dfn:=⟨"is_square",top 13,["n", "i", "j"],["n", "i", "j"],f1⟩
noncomputable def f2:Fn:=⟨1,4,(.seq (.asg 1 (.bin .mul (.lst (.pair (.lit (.int 0)) .unit)) (.blt .len (.pair (.var 0) .unit)))) (.seq (.asg 2 (.lst (.pair (.var 1) .unit))) (.seq (.forv 3 (.var 0) (.seq (.asg 1 (.compP .zip (.bin .add (.var 4) (.var 5)) (.var 1) (.var 3) (.lit (.bl true)))) (.expr (.meth .append (.var 2) (.pair (.var 1) .unit))))) (.ret (.var 2)))))⟩
noncomputable abbrev d2:Dfn:=⟨"column_sums",top 15,["state", "sums", "told", "row"],["state"],f2⟩
noncomputable def f3:Fn:=⟨2,4,(.seq (.asg 2 (.lst (.pair (.var 0) .unit))) (.seq (.forv 3 (.var 1) (.expr (.meth .append (.var 2) (.pair (.bin .sub (.bin .add (.idx (.var 2) (.neg (.lit (.int 1)))) (.lit (.int 1))) (.bin .mul (.lit (.int 2)) (.var 3))) .unit)))) (.ret (.var 2))))⟩
noncomputable abbrev d3:Dfn:=⟨"height_row",top 17,["i", "sums", "row", "total"],["i", "sums"],f3⟩
noncomputable def f4:Fn:=⟨1,1,(.ret (.compP .enum (.call 3 (.pair (.var 1) (.pair (.var 2) .unit))) (.call 2 (.pair (.var 0) .unit)) (.lit (.int 0)) (.lit (.bl true))))⟩
noncomputable abbrev d4:Dfn:=⟨"heights_of",top 18,["state"],["state"],f4⟩
noncomputable def f5:Fn:=⟨3,3,(.ret (.bin .fdiv (.bin .sub (.bin .sub (.bin .add (.idx (.idx (.var 0) (.var 1)) (.bin .add (.var 2) (.lit (.int 1)))) (.idx (.idx (.var 0) (.bin .add (.var 1) (.lit (.int 1)))) (.var 2))) (.idx (.idx (.var 0) (.var 1)) (.var 2))) (.idx (.idx (.var 0) (.bin .add (.var 1) (.lit (.int 1)))) (.bin .add (.var 2) (.lit (.int 1))))) (.lit (.int 2))))⟩
noncomputable abbrev d5:Dfn:=⟨"sign_amid",top 19,["table", "r", "c"],["table", "r", "c"],f5⟩
noncomputable def f6:Fn:=⟨2,2,(.ret (.comp (.call 5 (.pair (.var 0) (.pair (.var 1) (.pair (.var 2) .unit)))) (.rng (.lit (.int 0)) (.bin .sub (.blt .len (.pair (.var 0) .unit)) (.lit (.int 1))) (.lit (.int 1))) (.lit (.bl true))))⟩
noncomputable abbrev d6:Dfn:=⟨"signs_of_row",top 20,["table", "r"],["table", "r"],f6⟩
noncomputable def f7:Fn:=⟨1,1,(.ret (.comp (.call 6 (.pair (.var 0) (.pair (.var 1) .unit))) (.rng (.lit (.int 0)) (.bin .sub (.blt .len (.pair (.var 0) .unit)) (.lit (.int 1))) (.lit (.int 1))) (.lit (.bl true))))⟩
noncomputable abbrev d7:Dfn:=⟨"signs_of_heights",top 21,["table"],["table"],f7⟩
noncomputable def f8:Fn:=⟨3,3,(.ite (.not (.call 1 (.pair (.blt .len (.pair (.var 0) .unit)) (.pair (.var 1) (.pair (.var 2) .unit))))) .never .skip)⟩
noncomputable abbrev d8:Dfn:=⟨"need_square",top 23,["state", "i", "j"],["state", "i", "j"],f8⟩
noncomputable def f9:Fn:=⟨3,4,(.seq (.asg 3 (.idx (.idx (.var 0) (.bin .sub (.var 1) (.lit (.int 1)))) (.var 2))) (.ret (.and (.cmp .eq (.idx (.idx (.var 0) (.bin .add (.var 1) (.lit (.int 1)))) (.var 2)) (.var 3)) (.and (.cmp .eq (.idx (.idx (.var 0) (.var 1)) (.bin .sub (.var 2) (.lit (.int 1)))) (.var 3)) (.cmp .eq (.idx (.idx (.var 0) (.var 1)) (.bin .add (.var 2) (.lit (.int 1)))) (.var 3))))))⟩
noncomputable abbrev d9:Dfn:=⟨"is_level_round",top 24,["table", "i", "j", "height"],["table", "i", "j"],f9⟩
noncomputable def f10:Fn:=⟨3,3,(.ret (.bin .sub (.bin .mul (.lit (.int 2)) (.idx (.idx (.var 0) (.bin .sub (.var 1) (.lit (.int 1)))) (.var 2))) (.idx (.idx (.var 0) (.var 1)) (.var 2))))⟩
noncomputable abbrev d10:Dfn:=⟨"height_turned",top 25,["table", "i", "j"],["table", "i", "j"],f10⟩
noncomputable def f11:Fn:=⟨3,4,(.seq (.expr (.call 8 (.pair (.var 0) (.pair (.var 1) (.pair (.var 2) .unit))))) (.seq (.asg 3 (.call 4 (.pair (.var 0) .unit))) (.seq (.ite (.not (.call 9 (.pair (.var 3) (.pair (.var 1) (.pair (.var 2) .unit))))) .never .skip) (.seq (.asgS (.idx (.var 3) (.var 1)) (.var 2) (.call 10 (.pair (.var 3) (.pair (.var 1) (.pair (.var 2) .unit))))) (.ret (.call 7 (.pair (.var 3) .unit)))))))⟩
noncomputable abbrev d11:Dfn:=⟨"turned",top 26,["state", "i", "j", "table"],["state", "i", "j"],f11⟩
noncomputable def f12:Fn:=⟨2,2,(.seq (.ite (.cmp .lt (.var 1) (.blt .len (.pair (.var 0) .unit))) (.ret (.idx (.var 0) (.var 1))) .skip) (.ret (.lit (.int 0))))⟩
noncomputable abbrev d12:Dfn:=⟨"_law_cell_at",top 28,["_law_script", "_law_k"],["_law_script", "_law_k"],f12⟩
noncomputable def f13:Fn:=⟨2,3,(.seq (.asg 2 (.bin .mod (.bin .mul (.bin .add (.bin .add (.bin .mod (.var 0) (.bin .pow (.lit (.int 10)) (.lit (.int 40)))) (.bin .mul (.var 1) (.var 1))) (.lit (.int 17))) (.bin .add (.lit (.int 30103)) (.bin .mul (.lit (.int 2)) (.var 1)))) (.lit (.int 86028121)))) (.ret (.bin .fdiv (.bin .mod (.bin .mul (.var 2) (.var 2)) (.lit (.int 86028157))) (.lit (.int 7)))))⟩
noncomputable abbrev d13:Dfn:=⟨"_law_mixed",top 29,["_law_cell", "_law_k", "_law_one"],["_law_cell", "_law_k"],f13⟩
noncomputable def f14:Fn:=⟨1,1,(.seq (.ite (.cmp .eq (.bin .mod (.var 0) (.lit (.int 8))) (.lit (.int 5))) (.ret (.bin .add (.lit (.int 1)) (.bin .mod (.bin .fdiv (.var 0) (.lit (.int 8))) (.lit (.int 12))))) .skip) (.ret (.bin .add (.lit (.int 1)) (.bin .mod (.bin .fdiv (.var 0) (.lit (.int 8))) (.lit (.int 6))))))⟩
noncomputable abbrev d14:Dfn:=⟨"_law_size",top 30,["_law_cell"],["_law_cell"],f14⟩
noncomputable def f15:Fn:=⟨2,12,(.seq (.asg 2 (.lst (.pair (.lrng (.var 1)) .unit))) (.seq (.asg 3 (.var 0)) (.seq (.asg 4 (.lit (.int 0))) (.seq (.while (.cmp .lt (.blt .len (.pair (.var 2) .unit)) (.var 1)) (.seq (.asg 5 (.idx (.var 2) (.neg (.lit (.int 1))))) (.seq (.asg 6 (.lst .unit)) (.seq (.forv 7 (.rng (.lit (.int 0)) (.bin .sub (.blt .len (.pair (.var 5) .unit)) (.lit (.int 1))) (.lit (.int 1))) (.seq (.asg 8 (.bin .add (.idx (.var 5) (.var 7)) (.blt .int (.pair (.and (.cmp .ne (.var 6) (.lst .unit)) (.cmp .eq (.idx (.var 6) (.neg (.lit (.int 1)))) (.idx (.var 5) (.var 7)))) .unit)))) (.seq (.asg 9 (.var 3)) (.seq (.ite (.or (.cmp .lt (.var 0) (.bin .pow (.lit (.int 10)) (.lit (.int 18)))) (.cmp .eq (.var 3) (.lit (.int 0)))) (.asg 9 (.call 13 (.pair (.var 0) (.pair (.var 4) .unit)))) .skip) (.seq (.expr (.meth .append (.var 6) (.pair (.bin .add (.var 8) (.bin .mod (.var 9) (.bin .add (.bin .sub (.idx (.var 5) (.bin .add (.var 7) (.lit (.int 1)))) (.var 8)) (.lit (.int 1))))) .unit))) (.seq (.asg 3 (.bin .fdiv (.var 3) (.bin .add (.bin .sub (.idx (.var 5) (.bin .add (.var 7) (.lit (.int 1)))) (.var 8)) (.lit (.int 1))))) (.asg 4 (.bin .add (.var 4) (.lit (.int 1)))))))))) (.expr (.meth .append (.var 2) (.pair (.var 6) .unit))))))) (.seq (.expr (.meth .reverse (.var 2) .unit)) (.seq (.asg 10 (.lst .unit)) (.seq (.asg 11 (.lst .unit)) (.seq (.forv 6 (.var 2) (.seq (.expr (.meth .append (.var 10) (.pair (.comp (.bin .sub (.blt .int (.pair (.cmp .isin (.var 12) (.var 6)) .unit)) (.blt .int (.pair (.cmp .isin (.var 12) (.var 11)) .unit))) (.rng (.lit (.int 0)) (.var 1) (.lit (.int 1))) (.lit (.bl true))) .unit))) (.asg 11 (.var 6)))) (.ret (.var 10))))))))))⟩
noncomputable abbrev d15:Dfn:=⟨"_law_drawn",top 31,["_law_cell", "_law_n", "_law_rows", "_law_rest", "_law_turn", "_law_below", "_law_row", "_law_m", "_law_low", "_law_digit", "_law_signs", "_law_ahead"],["_law_cell", "_law_n"],f15⟩
noncomputable def f16:Fn:=⟨1,6,(.seq (.asg 1 (.lst (.pair (.lrng (.bin .add (.blt .len (.pair (.var 0) .unit)) (.lit (.int 1)))) .unit))) (.seq (.forv 2 (.rng (.lit (.int 0)) (.blt .len (.pair (.var 0) .unit)) (.lit (.int 1))) (.seq (.asg 3 (.lst (.pair (.bin .add (.var 2) (.lit (.int 1))) .unit))) (.seq (.asg 4 (.lit (.int 0))) (.seq (.forv 5 (.rng (.lit (.int 0)) (.blt .len (.pair (.var 0) .unit)) (.lit (.int 1))) (.seq (.asg 4 (.bin .add (.var 4) (.idx (.idx (.var 0) (.var 2)) (.var 5)))) (.expr (.meth .append (.var 3) (.pair (.bin .sub (.bin .add (.idx (.idx (.var 1) (.var 2)) (.bin .add (.var 5) (.lit (.int 1)))) (.lit (.int 1))) (.bin .mul (.lit (.int 2)) (.var 4))) .unit))))) (.expr (.meth .append (.var 1) (.pair (.var 3) .unit))))))) (.ret (.var 1))))⟩
noncomputable abbrev d16:Dfn:=⟨"_law_heights",top 32,["_law_signs", "_law_made", "_law_r", "_law_row", "_law_total", "_law_c"],["_law_signs"],f16⟩
noncomputable def f17:Fn:=⟨3,4,(.seq (.asg 3 (.lst (.pair (.idx (.idx (.var 0) (.bin .sub (.var 1) (.lit (.int 1)))) (.var 2)) (.pair (.idx (.idx (.var 0) (.bin .add (.var 1) (.lit (.int 1)))) (.var 2)) (.pair (.idx (.idx (.var 0) (.var 1)) (.bin .sub (.var 2) (.lit (.int 1)))) (.pair (.idx (.idx (.var 0) (.var 1)) (.bin .add (.var 2) (.lit (.int 1)))) .unit)))))) (.seq (.expr (.blt .sum (.pair (.var 3) .unit))) (.ite (.cmp .eq (.blt .len (.pair (.var 3) .unit)) (.lit (.int 4))) (.ret (.and (.cmp .eq (.idx (.var 3) (.lit (.int 0))) (.idx (.var 3) (.lit (.int 1)))) (.and (.cmp .eq (.idx (.var 3) (.lit (.int 0))) (.idx (.var 3) (.lit (.int 2)))) (.cmp .eq (.idx (.var 3) (.lit (.int 0))) (.idx (.var 3) (.lit (.int 3))))))) .never)))⟩
noncomputable abbrev d17:Dfn:=⟨"_law_level",top 33,["_law_heights_here", "_law_i", "_law_j", "_law_beside"],["_law_heights_here", "_law_i", "_law_j"],f17⟩
noncomputable def f18:Fn:=⟨1,1,(.ret (.comp (.blt .list (.pair (.var 1) .unit)) (.var 0) (.lit (.bl true))))⟩
noncomputable abbrev d18:Dfn:=⟨"_law_copy",top 34,["_law_rows"],["_law_rows"],f18⟩
noncomputable def f19:Fn:=⟨2,4,(.seq (.ite (.or (.not (.isi .list (.var 0))) (.cmp .ne (.var 0) (.var 1))) (.ret (.lit (.bl false))) .skip) (.seq (.forv 2 (.var 0) (.seq (.ite (.not (.isi .list (.var 2))) (.ret (.lit (.bl false))) .skip) (.forv 3 (.var 2) (.ite (.or (.not (.isi .int (.var 3))) (.isi .bool (.var 3))) (.ret (.lit (.bl false))) .skip)))) (.ret (.lit (.bl true)))))⟩
noncomputable abbrev d19:Dfn:=⟨"_law_like",top 35,["_law_found", "_law_due", "_law_row", "_law_sign"],["_law_found", "_law_due"],f19⟩
noncomputable def f20:Fn:=⟨1,8,(.seq (.asg 1 (.lst .unit)) (.seq (.forv 2 (.rng (.lit (.int 0)) (.bin .sub (.blt .len (.pair (.var 0) .unit)) (.lit (.int 1))) (.lit (.int 1))) (.seq (.asg 3 (.idx (.var 0) (.var 2))) (.seq (.asg 4 (.idx (.var 0) (.bin .add (.var 2) (.lit (.int 1))))) (.seq (.asg 5 (.lst .unit)) (.seq (.forv 6 (.rng (.lit (.int 0)) (.bin .sub (.blt .len (.pair (.var 3) .unit)) (.lit (.int 1))) (.lit (.int 1))) (.seq (.asg 7 (.bin .add (.idx (.var 3) (.bin .add (.var 6) (.lit (.int 1)))) (.idx (.var 4) (.var 6)))) (.expr (.meth .append (.var 5) (.pair (.bin .fdiv (.bin .sub (.bin .sub (.var 7) (.idx (.var 3) (.var 6))) (.idx (.var 4) (.bin .add (.var 6) (.lit (.int 1))))) (.lit (.int 2))) .unit))))) (.expr (.meth .append (.var 1) (.pair (.var 5) .unit)))))))) (.ret (.var 1))))⟩
noncomputable abbrev d20:Dfn:=⟨"_law_signs_of",top 36,["_law_heights_here", "_law_signs", "_law_r", "_law_above", "_law_below", "_law_row", "_law_c", "_law_more"],["_law_heights_here"],f20⟩
noncomputable def f21:Fn:=⟨3,5,(.seq (.asg 3 (.lit (.str []))) (.ite (.cmp .eq (.call 26 (.pair (.var 0) (.pair (.var 1) (.pair (.var 2) .unit)))) (.lit (.int 1))) (.ret (.lit (.str [116,117,114,110]))) (.ret (.lit (.str [115,113,117,97,114,101])))))⟩
noncomputable abbrev d21:Dfn:=⟨"_law_refused",top 37,["_law_signs", "_law_i", "_law_j", "_law_told", "e"],["_law_signs", "_law_i", "_law_j"],f21⟩
noncomputable def f22:Fn:=⟨4,8,(.seq (.ite (.not (.call 17 (.pair (.var 1) (.pair (.var 2) (.pair (.var 3) .unit))))) (.ret (.cmp .eq (.call 24 (.pair (.var 0) (.pair (.var 2) (.pair (.var 3) .unit)))) (.lit (.str [116,117,114,110])))) .skip) (.seq (.asg 4 (.call 18 (.pair (.var 1) .unit))) (.seq (.asgS (.idx (.var 4) (.var 2)) (.var 3) (.bin .sub (.bin .mul (.lit (.int 2)) (.idx (.idx (.var 4) (.bin .sub (.var 2) (.lit (.int 1)))) (.var 3))) (.idx (.idx (.var 4) (.var 2)) (.var 3)))) (.seq (.asg 5 (.call 11 (.pair (.var 0) (.pair (.var 2) (.pair (.var 3) .unit))))) (.seq (.ite (.not (.call 19 (.pair (.var 5) (.pair (.call 20 (.pair (.var 4) .unit)) .unit)))) (.ret (.lit (.bl false))) .skip) (.seq (.asg 6 (.call 18 (.pair (.var 5) .unit))) (.seq (.asg 7 (.call 11 (.pair (.var 6) (.pair (.var 2) (.pair (.var 3) .unit))))) (.seq (.asgS (.idx (.var 5) (.lit (.int 0))) (.lit (.int 0)) (.lit (.int 5))) (.seq (.expr (.meth .pop (.var 5) .unit)) (.ret (.and (.call 19 (.pair (.var 7) (.pair (.var 0) .unit))) (.call 19 (.pair (.call 11 (.pair (.var 0) (.pair (.var 2) (.pair (.var 3) .unit)))) (.pair (.var 6) .unit))))))))))))))⟩
noncomputable abbrev d22:Dfn:=⟨"_law_right",top 38,["_law_signs", "_law_heights_here", "_law_i", "_law_j", "_law_due", "_law_found", "_law_handed", "_law_back"],["_law_signs", "_law_heights_here", "_law_i", "_law_j"],f22⟩
noncomputable def f23:Fn:=⟨1,10,(.seq (.asg 1 (.call 14 (.pair (.call 12 (.pair (.var 0) (.pair (.lit (.int 0)) .unit))) .unit))) (.seq (.asg 2 (.call 15 (.pair (.call 12 (.pair (.var 0) (.pair (.lit (.int 1)) .unit))) (.pair (.var 1) .unit)))) (.seq (.asg 3 (.call 16 (.pair (.var 2) .unit))) (.seq (.asg 4 (.call 18 (.pair (.var 2) .unit))) (.seq (.fort 5 6 (.lst (.pair (.tup (.pair (.lit (.int 0)) (.pair (.lit (.int 1)) .unit))) (.pair (.tup (.pair (.lit (.int 1)) (.pair (.lit (.int 0)) .unit))) (.pair (.tup (.pair (.var 1) (.pair (.lit (.int 1)) .unit))) (.pair (.tup (.pair (.lit (.int 1)) (.pair (.var 1) .unit))) (.pair (.tup (.pair (.neg (.lit (.int 1))) (.pair (.lit (.int 1)) .unit))) (.pair (.tup (.pair (.lit (.int 1)) (.pair (.bin .sub (.neg (.lit (.int 1))) (.bin .mod (.call 12 (.pair (.var 0) (.pair (.lit (.int 3)) .unit))) (.bin .pow (.lit (.int 10)) (.lit (.int 29))))) .unit))) .unit))))))) (.ite (.cmp .ne (.call 21 (.pair (.var 4) (.pair (.var 5) (.pair (.var 6) .unit)))) (.lit (.str [115,113,117,97,114,101]))) (.ret (.lit (.bl false))) .skip)) (.seq (.asg 7 (.bin .mul (.bin .sub (.var 1) (.lit (.int 1))) (.bin .sub (.var 1) (.lit (.int 1))))) (.seq (.forv 8 (.rng (.lit (.int 0)) (.blt .min2 (.pair (.var 7) (.pair (.lit (.int 10)) .unit))) (.lit (.int 1))) (.seq (.asg 9 (.bin .mod (.bin .add (.call 12 (.pair (.var 0) (.pair (.lit (.int 2)) .unit))) (.var 8)) (.var 7))) (.seq (.asg 5 (.bin .add (.lit (.int 1)) (.bin .fdiv (.var 9) (.bin .sub (.var 1) (.lit (.int 1)))))) (.seq (.asg 6 (.bin .add (.lit (.int 1)) (.bin .mod (.var 9) (.bin .sub (.var 1) (.lit (.int 1)))))) (.ite (.or (.not (.call 22 (.pair (.var 4) (.pair (.var 3) (.pair (.var 5) (.pair (.var 6) .unit)))))) (.cmp .ne (.var 4) (.var 2))) (.ret (.lit (.bl false))) .skip))))) (.ret (.lit (.bl true))))))))))⟩
noncomputable abbrev d23:Dfn:=⟨"law",top 39,["_law_script", "_law_n", "_law_signs", "_law_heights_here", "_law_handed", "_law_i", "_law_j", "_law_many", "_law_k", "_law_spot"],["_law_script"],f23⟩
noncomputable def f24:Fn:=⟨3,5,(.seq (.asg 3 (.lit (.str []))) (.ite (.cmp .eq (.call 27 (.pair (.var 0) (.pair (.var 1) (.pair (.var 2) .unit)))) (.lit (.int 1))) (.ret (.lit (.str [116,117,114,110]))) (.ret (.lit (.str [115,113,117,97,114,101])))))⟩
noncomputable abbrev d24:Dfn:=⟨"_law_refused",top 37,["_law_signs", "_law_i", "_law_j", "_law_told", "e"],["_law_signs", "_law_i", "_law_j"],f24⟩
noncomputable def D:List Dfn:=[d0,d1,d2,d3,d4,d5,d6,d7,d8,d9,d10,d11,d12,d13,d14,d15,d16,d17,d18,d19,d20,d21,d22,d23,d24]
noncomputable def C:Mini.Ctx:=⟨["is_whole", "is_square", "column_sums", "height_row", "heights_of", "sign_amid", "signs_of_row", "signs_of_heights", "need_square", "is_level_round", "height_turned", "turned", "_law_cell_at", "_law_mixed", "_law_size", "_law_drawn", "_law_heights", "_law_level", "_law_copy", "_law_like", "_law_signs_of", "_law_refused", "_law_right", "law", "_law_refused"],[]⟩
noncomputable def x0:Fn:=⟨3,3,(.ite (.not (.call 1 (.pair (.blt .len (.pair (.var 0) .unit)) (.pair (.var 1) (.pair (.var 2) .unit))))) (.ret (.lit (.int 0))) .never)⟩
noncomputable abbrev xd0:Dfn:=⟨"need_square",top 23,["state", "i", "j"],["state", "i", "j"],x0⟩
noncomputable def x1:Fn:=⟨3,4,(.ret (.call 25 (.pair (.var 0) (.pair (.var 1) (.pair (.var 2) .unit)))))⟩
noncomputable abbrev xd1:Dfn:=⟨"turned",top 26,["state", "i", "j", "table"],["state", "i", "j"],x1⟩
noncomputable def x2:Fn:=⟨3,4,(.seq (.expr (.call 8 (.pair (.var 0) (.pair (.var 1) (.pair (.var 2) .unit))))) (.seq (.asg 3 (.call 4 (.pair (.var 0) .unit))) (.ite (.not (.call 9 (.pair (.var 3) (.pair (.var 1) (.pair (.var 2) .unit))))) (.ret (.lit (.int 1))) .never)))⟩
noncomputable abbrev xd2:Dfn:=⟨"turned",top 26,["state", "i", "j", "table"],["state", "i", "j"],x2⟩
noncomputable def XD:List Dfn:=[xd0,xd1,xd2]
noncomputable def XN:List (Nat×Str):=[(25, "need_square"),(26, "turned"),(27, "turned")]
noncomputable def Q:Xc:=⟨"GyreError",["NoSquare", "NoTurn"],["NoName", "NoText", "NoRoad", "NoSize", "NoState", "Unlike"]⟩
theorem okx0:OkX C Q XN xd0:=⟨by decide +kernel,rfl,rfl,IsX.ite (j:=0) rfl rfl (.not rfl rfl (.call rfl (by kernel_rfl) (by kernel_rfl) rfl (.pair rfl rfl (.blt rfl (by kernel_rfl) (by kernel_rfl) rfl (.pair rfl rfl .v .unit)) (.pair rfl rfl .v (.pair rfl rfl .v .unit))))) rfl (by kernel_rfl) (by kernel_rfl)⟩
theorem okx1:OkX C Q XN xd1:=⟨by decide +kernel,rfl,rfl,IsX.call rfl (by kernel_rfl) (by kernel_rfl) rfl (.pair rfl rfl .v (.pair rfl rfl .v (.pair rfl rfl .v .unit)))⟩
theorem okx2:OkX C Q XN xd2:=⟨by decide +kernel,rfl,rfl,IsX.seqS rfl (.expr rfl rfl (.call rfl (by kernel_rfl) (by kernel_rfl) rfl (.pair rfl rfl .v (.pair rfl rfl .v (.pair rfl rfl .v .unit))))) (IsX.seqS rfl (.asg rfl rfl (by kernel_rfl) rfl (.call rfl (by kernel_rfl) (by kernel_rfl) rfl (.pair rfl rfl .v .unit))) (IsX.ite (j:=1) rfl rfl (.not rfl rfl (.call rfl (by kernel_rfl) (by kernel_rfl) rfl (.pair rfl rfl .v (.pair rfl rfl .v (.pair rfl rfl .v .unit))))) rfl (by kernel_rfl) (by kernel_rfl)))⟩
theorem ok0:OkD C d0:=⟨by decide +kernel,rfl,rfl,(.one (.ret rfl (.and2 rfl rfl (.isi (by kernel_rfl) (by kernel_rfl) rfl rfl .v) rfl rfl (.not rfl rfl (.isi (by kernel_rfl) (by kernel_rfl) rfl rfl .v)))))⟩
theorem ok1:OkD C d1:=⟨by decide +kernel,rfl,rfl,(.one (.ret rfl (.andN rfl rfl (.call rfl (by kernel_rfl) (by kernel_rfl) rfl (.pair rfl rfl .v .unit)) rfl (.andN rfl rfl (.call rfl (by kernel_rfl) (by kernel_rfl) rfl (.pair rfl rfl .v .unit)) rfl (.and2 rfl rfl (.chain rfl rfl .int rfl .v rfl .v) rfl rfl (.chain rfl rfl .int rfl .v rfl .v))))))⟩
theorem ok2:OkD C d2:=⟨by decide +kernel,rfl,rfl,(.seq (.asg rfl rfl (by kernel_rfl) rfl (.bin rfl (.lst (.pair rfl rfl .int .unit)) rfl (.blt rfl (by kernel_rfl) (by kernel_rfl) rfl (.pair rfl rfl .v .unit)))) (.seq (.asg rfl rfl (by kernel_rfl) rfl (.lst (.pair rfl rfl .v .unit))) (.seq (.forv rfl (by kernel_rfl) rfl .v (.seq (.asgCZ0 rfl (by kernel_rfl) (by kernel_rfl) (by kernel_rfl) rfl rfl rfl .v rfl .v rfl (.bin rfl .v rfl .v)) (.one (.expr rfl rfl (.meth rfl rfl (by decide) rfl rfl .v (.pair rfl rfl .v .unit)))))) (.one (.ret rfl .v)))))⟩
theorem ok3:OkD C d3:=⟨by decide +kernel,rfl,rfl,(.seq (.asg rfl rfl (by kernel_rfl) rfl (.lst (.pair rfl rfl .v .unit))) (.seq (.forv rfl (by kernel_rfl) rfl .v (.one (.expr rfl rfl (.meth rfl rfl (by decide) rfl rfl .v (.pair rfl rfl (.bin rfl (.bin rfl (.idx rfl rfl .v rfl (.neg rfl .int)) rfl .int) rfl (.bin rfl .int rfl .v)) .unit))))) (.one (.ret rfl .v))))⟩
theorem ok4:OkD C d4:=⟨by decide +kernel,rfl,rfl,(.one (.ret rfl (.compE0 (by kernel_rfl) (by kernel_rfl) rfl rfl (.call rfl (by kernel_rfl) (by kernel_rfl) rfl (.pair rfl rfl .v .unit)) rfl (.call rfl (by kernel_rfl) (by kernel_rfl) rfl (.pair rfl rfl .v (.pair rfl rfl .v .unit))))))⟩
theorem ok5:OkD C d5:=⟨by decide +kernel,rfl,rfl,(.one (.ret rfl (.bin rfl (.bin rfl (.bin rfl (.bin rfl (.idx rfl rfl (.idx rfl rfl .v rfl .v) rfl (.bin rfl .v rfl .int)) rfl (.idx rfl rfl (.idx rfl rfl .v rfl (.bin rfl .v rfl .int)) rfl .v)) rfl (.idx rfl rfl (.idx rfl rfl .v rfl .v) rfl .v)) rfl (.idx rfl rfl (.idx rfl rfl .v rfl (.bin rfl .v rfl .int)) rfl (.bin rfl .v rfl .int))) rfl .int)))⟩
theorem ok6:OkD C d6:=⟨by decide +kernel,rfl,rfl,(.one (.ret rfl (.comp0 rfl (by kernel_rfl) (.rng1 (by kernel_rfl) rfl rfl (.bin rfl (.blt rfl (by kernel_rfl) (by kernel_rfl) rfl (.pair rfl rfl .v .unit)) rfl .int)) rfl (.call rfl (by kernel_rfl) (by kernel_rfl) rfl (.pair rfl rfl .v (.pair rfl rfl .v (.pair rfl rfl .v .unit)))))))⟩
theorem ok7:OkD C d7:=⟨by decide +kernel,rfl,rfl,(.one (.ret rfl (.comp0 rfl (by kernel_rfl) (.rng1 (by kernel_rfl) rfl rfl (.bin rfl (.blt rfl (by kernel_rfl) (by kernel_rfl) rfl (.pair rfl rfl .v .unit)) rfl .int)) rfl (.call rfl (by kernel_rfl) (by kernel_rfl) rfl (.pair rfl rfl .v (.pair rfl rfl .v .unit))))))⟩
theorem ok8:OkD C d8:=⟨by decide +kernel,rfl,rfl,(.one (.ite rfl rfl (.not rfl rfl (.call rfl (by kernel_rfl) (by kernel_rfl) rfl (.pair rfl rfl (.blt rfl (by kernel_rfl) (by kernel_rfl) rfl (.pair rfl rfl .v .unit)) (.pair rfl rfl .v (.pair rfl rfl .v .unit))))) (.one .never) .skip0))⟩
theorem ok9:OkD C d9:=⟨by decide +kernel,rfl,rfl,(.seq (.asg rfl rfl (by kernel_rfl) rfl (.idx rfl rfl (.idx rfl rfl .v rfl (.bin rfl .v rfl .int)) rfl .v)) (.one (.ret rfl (.andN rfl rfl (.cmp rfl rfl (.idx rfl rfl (.idx rfl rfl .v rfl (.bin rfl .v rfl .int)) rfl .v) rfl .v) rfl (.and2 rfl rfl (.cmp rfl rfl (.idx rfl rfl (.idx rfl rfl .v rfl .v) rfl (.bin rfl .v rfl .int)) rfl .v) rfl rfl (.cmp rfl rfl (.idx rfl rfl (.idx rfl rfl .v rfl .v) rfl (.bin rfl .v rfl .int)) rfl .v))))))⟩
theorem ok10:OkD C d10:=⟨by decide +kernel,rfl,rfl,(.one (.ret rfl (.bin rfl (.bin rfl .int rfl (.idx rfl rfl (.idx rfl rfl .v rfl (.bin rfl .v rfl .int)) rfl .v)) rfl (.idx rfl rfl (.idx rfl rfl .v rfl .v) rfl .v))))⟩
theorem ok11:OkD C d11:=⟨by decide +kernel,rfl,rfl,(.seq (.expr rfl rfl (.call rfl (by kernel_rfl) (by kernel_rfl) rfl (.pair rfl rfl .v (.pair rfl rfl .v (.pair rfl rfl .v .unit))))) (.seq (.asg rfl rfl (by kernel_rfl) rfl (.call rfl (by kernel_rfl) (by kernel_rfl) rfl (.pair rfl rfl .v .unit))) (.seq (.ite rfl rfl (.not rfl rfl (.call rfl (by kernel_rfl) (by kernel_rfl) rfl (.pair rfl rfl .v (.pair rfl rfl .v (.pair rfl rfl .v .unit))))) (.one .never) .skip0) (.seq (.asgS rfl rfl (.idx rfl rfl .v rfl .v) rfl .v rfl (.call rfl (by kernel_rfl) (by kernel_rfl) rfl (.pair rfl rfl .v (.pair rfl rfl .v (.pair rfl rfl .v .unit))))) (.one (.ret rfl (.call rfl (by kernel_rfl) (by kernel_rfl) rfl (.pair rfl rfl .v .unit))))))))⟩
theorem ok12:OkD C d12:=⟨by decide +kernel,rfl,rfl,(.seq (.ite rfl rfl (.cmp rfl rfl .v rfl (.blt rfl (by kernel_rfl) (by kernel_rfl) rfl (.pair rfl rfl .v .unit))) (.one (.ret rfl (.idx rfl rfl .v rfl .v))) .skip0) (.one (.ret rfl .int)))⟩
theorem ok13:OkD C d13:=⟨by decide +kernel,rfl,rfl,(.seq (.asg rfl rfl (by kernel_rfl) rfl (.bin rfl (.bin rfl (.bin rfl (.bin rfl (.bin rfl .v rfl (.bin rfl .int rfl .int)) rfl (.bin rfl .v rfl .v)) rfl .int) rfl (.bin rfl .int rfl (.bin rfl .int rfl .v))) rfl .int)) (.one (.ret rfl (.bin rfl (.bin rfl (.bin rfl .v rfl .v) rfl .int) rfl .int))))⟩
theorem ok14:OkD C d14:=⟨by decide +kernel,rfl,rfl,(.seq (.ite rfl rfl (.cmp rfl rfl (.bin rfl .v rfl .int) rfl .int) (.one (.ret rfl (.bin rfl .int rfl (.bin rfl (.bin rfl .v rfl .int) rfl .int)))) .skip0) (.one (.ret rfl (.bin rfl .int rfl (.bin rfl (.bin rfl .v rfl .int) rfl .int)))))⟩
theorem ok15:OkD C d15:=⟨by decide +kernel,rfl,rfl,(.seq (.asg rfl rfl (by kernel_rfl) rfl (.lst (.pair rfl rfl (.lrng (by kernel_rfl) (by kernel_rfl) rfl rfl .v) .unit))) (.seq (.asg rfl rfl (by kernel_rfl) rfl .v) (.seq (.asg rfl rfl (by kernel_rfl) rfl .int) (.seq (IsS.«while» rfl rfl (.cmp rfl rfl (.blt rfl (by kernel_rfl) (by kernel_rfl) rfl (.pair rfl rfl .v .unit)) rfl .v) (.seq (.asg rfl rfl (by kernel_rfl) rfl (.idx rfl rfl .v rfl (.neg rfl .int))) (.seq (.asg rfl rfl (by kernel_rfl) rfl (.lst .unit)) (.seq (.forv rfl (by kernel_rfl) rfl (.rng1 (by kernel_rfl) rfl rfl (.bin rfl (.blt rfl (by kernel_rfl) (by kernel_rfl) rfl (.pair rfl rfl .v .unit)) rfl .int)) (.seq (.asg rfl rfl (by kernel_rfl) rfl (.bin rfl (.idx rfl rfl .v rfl .v) rfl (.blt rfl (by kernel_rfl) (by kernel_rfl) rfl (.pair rfl rfl (.and2 rfl rfl (.cmp rfl rfl .v rfl (.lst .unit)) rfl rfl (.cmp rfl rfl (.idx rfl rfl .v rfl (.neg rfl .int)) rfl (.idx rfl rfl .v rfl .v))) .unit)))) (.seq (.asg rfl rfl (by kernel_rfl) rfl .v) (.seq (.ite rfl rfl (.or2 rfl rfl (.cmp rfl rfl .v rfl (.bin rfl .int rfl .int)) rfl rfl (.cmp rfl rfl .v rfl .int)) (.one (.asg rfl rfl (by kernel_rfl) rfl (.call rfl (by kernel_rfl) (by kernel_rfl) rfl (.pair rfl rfl .v (.pair rfl rfl .v .unit))))) .skip0) (.seq (.expr rfl rfl (.meth rfl rfl (by decide) rfl rfl .v (.pair rfl rfl (.bin rfl .v rfl (.bin rfl .v rfl (.bin rfl (.bin rfl (.idx rfl rfl .v rfl (.bin rfl .v rfl .int)) rfl .v) rfl .int))) .unit))) (.seq (.asg rfl rfl (by kernel_rfl) rfl (.bin rfl .v rfl (.bin rfl (.bin rfl (.idx rfl rfl .v rfl (.bin rfl .v rfl .int)) rfl .v) rfl .int))) (.one (.asg rfl rfl (by kernel_rfl) rfl (.bin rfl .v rfl .int))))))))) (.one (.expr rfl rfl (.meth rfl rfl (by decide) rfl rfl .v (.pair rfl rfl .v .unit)))))))) (.seq (.expr rfl rfl (.meth0 rfl rfl rfl .v)) (.seq (.asg rfl rfl (by kernel_rfl) rfl (.lst .unit)) (.seq (.asg rfl rfl (by kernel_rfl) rfl (.lst .unit)) (.seq (.forv rfl (by kernel_rfl) rfl .v (.seq (.expr rfl rfl (.meth rfl rfl (by decide) rfl rfl .v (.pair rfl rfl (.comp0 rfl (by kernel_rfl) (.rng1 (by kernel_rfl) rfl rfl .v) rfl (.bin rfl (.blt rfl (by kernel_rfl) (by kernel_rfl) rfl (.pair rfl rfl (.cmp rfl rfl .v rfl .v) .unit)) rfl (.blt rfl (by kernel_rfl) (by kernel_rfl) rfl (.pair rfl rfl (.cmp rfl rfl .v rfl .v) .unit)))) .unit))) (.one (.asg rfl rfl (by kernel_rfl) rfl .v)))) (.one (.ret rfl .v))))))))))⟩
theorem ok16:OkD C d16:=⟨by decide +kernel,rfl,rfl,(.seq (.asg rfl rfl (by kernel_rfl) rfl (.lst (.pair rfl rfl (.lrng (by kernel_rfl) (by kernel_rfl) rfl rfl (.bin rfl (.blt rfl (by kernel_rfl) (by kernel_rfl) rfl (.pair rfl rfl .v .unit)) rfl .int)) .unit))) (.seq (.forv rfl (by kernel_rfl) rfl (.rng1 (by kernel_rfl) rfl rfl (.blt rfl (by kernel_rfl) (by kernel_rfl) rfl (.pair rfl rfl .v .unit))) (.seq (.asg rfl rfl (by kernel_rfl) rfl (.lst (.pair rfl rfl (.bin rfl .v rfl .int) .unit))) (.seq (.asg rfl rfl (by kernel_rfl) rfl .int) (.seq (.forv rfl (by kernel_rfl) rfl (.rng1 (by kernel_rfl) rfl rfl (.blt rfl (by kernel_rfl) (by kernel_rfl) rfl (.pair rfl rfl .v .unit))) (.seq (.asg rfl rfl (by kernel_rfl) rfl (.bin rfl .v rfl (.idx rfl rfl (.idx rfl rfl .v rfl .v) rfl .v))) (.one (.expr rfl rfl (.meth rfl rfl (by decide) rfl rfl .v (.pair rfl rfl (.bin rfl (.bin rfl (.idx rfl rfl (.idx rfl rfl .v rfl .v) rfl (.bin rfl .v rfl .int)) rfl .int) rfl (.bin rfl .int rfl .v)) .unit)))))) (.one (.expr rfl rfl (.meth rfl rfl (by decide) rfl rfl .v (.pair rfl rfl .v .unit)))))))) (.one (.ret rfl .v))))⟩
theorem ok17:OkM C d17:=⟨by decide +kernel,rfl,rfl,IsM.mk (i:=3) (.asg rfl rfl (by kernel_rfl) rfl (.lst (.pair rfl rfl (.idx rfl rfl (.idx rfl rfl .v rfl (.bin rfl .v rfl .int)) rfl .v) (.pair rfl rfl (.idx rfl rfl (.idx rfl rfl .v rfl (.bin rfl .v rfl .int)) rfl .v) (.pair rfl rfl (.idx rfl rfl (.idx rfl rfl .v rfl .v) rfl (.bin rfl .v rfl .int)) (.pair rfl rfl (.idx rfl rfl (.idx rfl rfl .v rfl .v) rfl (.bin rfl .v rfl .int)) .unit)))))) rfl (by kernel_rfl) (by kernel_rfl) (by kernel_rfl) (by kernel_rfl)⟩
theorem ok18:OkD C d18:=⟨by decide +kernel,rfl,rfl,(.one (.ret rfl (.comp0 rfl (by kernel_rfl) .v rfl (.blt rfl (by kernel_rfl) (by kernel_rfl) rfl (.pair rfl rfl .v .unit)))))⟩
theorem ok19:OkD C d19:=⟨by decide +kernel,rfl,rfl,(.seq (.ite rfl rfl (.or2 rfl rfl (.not rfl rfl (.isi (by kernel_rfl) (by kernel_rfl) rfl rfl .v)) rfl rfl (.cmp rfl rfl .v rfl .v)) (.one (.ret rfl .bl)) .skip0) (.seq (.forv rfl (by kernel_rfl) rfl .v (.seq (.ite rfl rfl (.not rfl rfl (.isi (by kernel_rfl) (by kernel_rfl) rfl rfl .v)) (.one (.ret rfl .bl)) .skip0) (.one (.forv rfl (by kernel_rfl) rfl .v (.one (.ite rfl rfl (.or2 rfl rfl (.not rfl rfl (.isi (by kernel_rfl) (by kernel_rfl) rfl rfl .v)) rfl rfl (.isi (by kernel_rfl) (by kernel_rfl) rfl rfl .v)) (.one (.ret rfl .bl)) .skip0)))))) (.one (.ret rfl .bl))))⟩
theorem ok20:OkD C d20:=⟨by decide +kernel,rfl,rfl,(.seq (.asg rfl rfl (by kernel_rfl) rfl (.lst .unit)) (.seq (.forv rfl (by kernel_rfl) rfl (.rng1 (by kernel_rfl) rfl rfl (.bin rfl (.blt rfl (by kernel_rfl) (by kernel_rfl) rfl (.pair rfl rfl .v .unit)) rfl .int)) (.seq (.asg rfl rfl (by kernel_rfl) rfl (.idx rfl rfl .v rfl .v)) (.seq (.asg rfl rfl (by kernel_rfl) rfl (.idx rfl rfl .v rfl (.bin rfl .v rfl .int))) (.seq (.asg rfl rfl (by kernel_rfl) rfl (.lst .unit)) (.seq (.forv rfl (by kernel_rfl) rfl (.rng1 (by kernel_rfl) rfl rfl (.bin rfl (.blt rfl (by kernel_rfl) (by kernel_rfl) rfl (.pair rfl rfl .v .unit)) rfl .int)) (.seq (.asg rfl rfl (by kernel_rfl) rfl (.bin rfl (.idx rfl rfl .v rfl (.bin rfl .v rfl .int)) rfl (.idx rfl rfl .v rfl .v))) (.one (.expr rfl rfl (.meth rfl rfl (by decide) rfl rfl .v (.pair rfl rfl (.bin rfl (.bin rfl (.bin rfl .v rfl (.idx rfl rfl .v rfl .v)) rfl (.idx rfl rfl .v rfl (.bin rfl .v rfl .int))) rfl .int) .unit)))))) (.one (.expr rfl rfl (.meth rfl rfl (by decide) rfl rfl .v (.pair rfl rfl .v .unit))))))))) (.one (.ret rfl .v))))⟩
theorem ok21:OkV C Q XN d21:=⟨by decide +kernel,rfl,rfl,IsV.mk (y:=1) (z:=0) (i:=4) (j:=3) (cs:=[2,3,4,5,6,7]) (.asg rfl rfl (by kernel_rfl) rfl (.str (by kernel_rfl))) rfl (by kernel_rfl) (by kernel_rfl) rfl (.pair rfl rfl .v (.pair rfl rfl .v (.pair rfl rfl .v .unit))) (by kernel_rfl) (by kernel_rfl) rfl (by kernel_rfl) (by kernel_rfl) rfl (by kernel_rfl) (by kernel_rfl) rfl (by kernel_rfl) rfl rfl (by decide) rfl rfl rfl (by kernel_rfl) (by kernel_rfl) rfl (by kernel_rfl) (by kernel_rfl) (by kernel_rfl) (by kernel_rfl) (by kernel_rfl) rfl rfl⟩
theorem ok22:OkD C d22:=⟨by decide +kernel,rfl,rfl,(.seq (.ite rfl rfl (.not rfl rfl (.call rfl (by kernel_rfl) (by kernel_rfl) rfl (.pair rfl rfl .v (.pair rfl rfl .v (.pair rfl rfl .v .unit))))) (.one (.ret rfl (.cmp rfl rfl (.call rfl (by kernel_rfl) (by kernel_rfl) rfl (.pair rfl rfl .v (.pair rfl rfl .v (.pair rfl rfl .v .unit)))) rfl (.str (by kernel_rfl))))) .skip0) (.seq (.asg rfl rfl (by kernel_rfl) rfl (.call rfl (by kernel_rfl) (by kernel_rfl) rfl (.pair rfl rfl .v .unit))) (.seq (.asgS rfl rfl (.idx rfl rfl .v rfl .v) rfl .v rfl (.bin rfl (.bin rfl .int rfl (.idx rfl rfl (.idx rfl rfl .v rfl (.bin rfl .v rfl .int)) rfl .v)) rfl (.idx rfl rfl (.idx rfl rfl .v rfl .v) rfl .v))) (.seq (.asg rfl rfl (by kernel_rfl) rfl (.call rfl (by kernel_rfl) (by kernel_rfl) rfl (.pair rfl rfl .v (.pair rfl rfl .v (.pair rfl rfl .v .unit))))) (.seq (.ite rfl rfl (.not rfl rfl (.call rfl (by kernel_rfl) (by kernel_rfl) rfl (.pair rfl rfl .v (.pair rfl rfl (.call rfl (by kernel_rfl) (by kernel_rfl) rfl (.pair rfl rfl .v .unit)) .unit)))) (.one (.ret rfl .bl)) .skip0) (.seq (.asg rfl rfl (by kernel_rfl) rfl (.call rfl (by kernel_rfl) (by kernel_rfl) rfl (.pair rfl rfl .v .unit))) (.seq (.asg rfl rfl (by kernel_rfl) rfl (.call rfl (by kernel_rfl) (by kernel_rfl) rfl (.pair rfl rfl .v (.pair rfl rfl .v (.pair rfl rfl .v .unit))))) (.seq (.asgS rfl rfl (.idx rfl rfl .v rfl .int) rfl .int rfl .int) (.seq (.expr rfl rfl (.meth0 rfl rfl rfl .v)) (.one (.ret rfl (.and2 rfl rfl (.call rfl (by kernel_rfl) (by kernel_rfl) rfl (.pair rfl rfl .v (.pair rfl rfl .v .unit))) rfl rfl (.call rfl (by kernel_rfl) (by kernel_rfl) rfl (.pair rfl rfl (.call rfl (by kernel_rfl) (by kernel_rfl) rfl (.pair rfl rfl .v (.pair rfl rfl .v (.pair rfl rfl .v .unit)))) (.pair rfl rfl .v .unit)))))))))))))))⟩
theorem ok23:OkD C d23:=⟨by decide +kernel,rfl,rfl,(.seq (.asg rfl rfl (by kernel_rfl) rfl (.call rfl (by kernel_rfl) (by kernel_rfl) rfl (.pair rfl rfl (.call rfl (by kernel_rfl) (by kernel_rfl) rfl (.pair rfl rfl .v (.pair rfl rfl .int .unit))) .unit))) (.seq (.asg rfl rfl (by kernel_rfl) rfl (.call rfl (by kernel_rfl) (by kernel_rfl) rfl (.pair rfl rfl (.call rfl (by kernel_rfl) (by kernel_rfl) rfl (.pair rfl rfl .v (.pair rfl rfl .int .unit))) (.pair rfl rfl .v .unit)))) (.seq (.asg rfl rfl (by kernel_rfl) rfl (.call rfl (by kernel_rfl) (by kernel_rfl) rfl (.pair rfl rfl .v .unit))) (.seq (.asg rfl rfl (by kernel_rfl) rfl (.call rfl (by kernel_rfl) (by kernel_rfl) rfl (.pair rfl rfl .v .unit))) (.seq (.fort rfl (by kernel_rfl) rfl (by kernel_rfl) rfl (.lst (.pair rfl rfl (.tup (.pair rfl rfl .int (.pair rfl rfl .int .unit))) (.pair rfl rfl (.tup (.pair rfl rfl .int (.pair rfl rfl .int .unit))) (.pair rfl rfl (.tup (.pair rfl rfl .v (.pair rfl rfl .int .unit))) (.pair rfl rfl (.tup (.pair rfl rfl .int (.pair rfl rfl .v .unit))) (.pair rfl rfl (.tup (.pair rfl rfl (.neg rfl .int) (.pair rfl rfl .int .unit))) (.pair rfl rfl (.tup (.pair rfl rfl .int (.pair rfl rfl (.bin rfl (.neg rfl .int) rfl (.bin rfl (.call rfl (by kernel_rfl) (by kernel_rfl) rfl (.pair rfl rfl .v (.pair rfl rfl .int .unit))) rfl (.bin rfl .int rfl .int))) .unit))) .unit))))))) (.one (.ite rfl rfl (.cmp rfl rfl (.call rfl (by kernel_rfl) (by kernel_rfl) rfl (.pair rfl rfl .v (.pair rfl rfl .v (.pair rfl rfl .v .unit)))) rfl (.str (by kernel_rfl))) (.one (.ret rfl .bl)) .skip0))) (.seq (.asg rfl rfl (by kernel_rfl) rfl (.bin rfl (.bin rfl .v rfl .int) rfl (.bin rfl .v rfl .int))) (.seq (.forv rfl (by kernel_rfl) rfl (.rng1 (by kernel_rfl) rfl rfl (.blt rfl (by kernel_rfl) (by kernel_rfl) rfl (.pair rfl rfl .v (.pair rfl rfl .int .unit)))) (.seq (.asg rfl rfl (by kernel_rfl) rfl (.bin rfl (.bin rfl (.call rfl (by kernel_rfl) (by kernel_rfl) rfl (.pair rfl rfl .v (.pair rfl rfl .int .unit))) rfl .v) rfl .v)) (.seq (.asg rfl rfl (by kernel_rfl) rfl (.bin rfl .int rfl (.bin rfl .v rfl (.bin rfl .v rfl .int)))) (.seq (.asg rfl rfl (by kernel_rfl) rfl (.bin rfl .int rfl (.bin rfl .v rfl (.bin rfl .v rfl .int)))) (.one (.ite rfl rfl (.or2 rfl rfl (.not rfl rfl (.call rfl (by kernel_rfl) (by kernel_rfl) rfl (.pair rfl rfl .v (.pair rfl rfl .v (.pair rfl rfl .v (.pair rfl rfl .v .unit)))))) rfl rfl (.cmp rfl rfl .v rfl .v)) (.one (.ret rfl .bl)) .skip0)))))) (.one (.ret rfl .bl)))))))))⟩
theorem ok24:OkV C Q XN d24:=⟨by decide +kernel,rfl,rfl,IsV.mk (y:=1) (z:=0) (i:=4) (j:=3) (cs:=[2,3,4,5,6,7]) (.asg rfl rfl (by kernel_rfl) rfl (.str (by kernel_rfl))) rfl (by kernel_rfl) (by kernel_rfl) rfl (.pair rfl rfl .v (.pair rfl rfl .v (.pair rfl rfl .v .unit))) (by kernel_rfl) (by kernel_rfl) rfl (by kernel_rfl) (by kernel_rfl) rfl (by kernel_rfl) (by kernel_rfl) rfl (by kernel_rfl) rfl rfl (by decide) rfl rfl rfl (by kernel_rfl) (by kernel_rfl) rfl (by kernel_rfl) (by kernel_rfl) (by kernel_rfl) (by kernel_rfl) (by kernel_rfl) rfl rfl⟩
theorem zg0:∀d∈D,OkD C d\/OkV C Q XN d\/OkM C d:=by
 intro d hd
 unfold D at hd
 rcases List.mem_cons.mp hd with rfl | hd
 .exact .inl (ok0)
 rcases List.mem_cons.mp hd with rfl | hd
 .exact .inl (ok1)
 rcases List.mem_cons.mp hd with rfl | hd
 .exact .inl (ok2)
 rcases List.mem_cons.mp hd with rfl | hd
 .exact .inl (ok3)
 rcases List.mem_cons.mp hd with rfl | hd
 .exact .inl (ok4)
 rcases List.mem_cons.mp hd with rfl | hd
 .exact .inl (ok5)
 rcases List.mem_cons.mp hd with rfl | hd
 .exact .inl (ok6)
 rcases List.mem_cons.mp hd with rfl | hd
 .exact .inl (ok7)
 rcases List.mem_cons.mp hd with rfl | hd
 .exact .inl (ok8)
 rcases List.mem_cons.mp hd with rfl | hd
 .exact .inl (ok9)
 rcases List.mem_cons.mp hd with rfl | hd
 .exact .inl (ok10)
 rcases List.mem_cons.mp hd with rfl | hd
 .exact .inl (ok11)
 rcases List.mem_cons.mp hd with rfl | hd
 .exact .inl (ok12)
 rcases List.mem_cons.mp hd with rfl | hd
 .exact .inl (ok13)
 rcases List.mem_cons.mp hd with rfl | hd
 .exact .inl (ok14)
 rcases List.mem_cons.mp hd with rfl | hd
 .exact .inl (ok15)
 rcases List.mem_cons.mp hd with rfl | hd
 .exact .inl (ok16)
 rcases List.mem_cons.mp hd with rfl | hd
 .exact .inr (.inr ok17)
 rcases List.mem_cons.mp hd with rfl | hd
 .exact .inl (ok18)
 rcases List.mem_cons.mp hd with rfl | hd
 .exact .inl (ok19)
 rcases List.mem_cons.mp hd with rfl | hd
 .exact .inl (ok20)
 rcases List.mem_cons.mp hd with rfl | hd
 .exact .inr (.inl ok21)
 rcases List.mem_cons.mp hd with rfl | hd
 .exact .inl (ok22)
 rcases List.mem_cons.mp hd with rfl | hd
 .exact .inl (ok23)
 rcases List.mem_cons.mp hd with rfl | hd
 .exact .inr (.inl ok24)
 .cases hd
theorem okX:∀d∈XD,OkX C Q XN d:=by
 intro d hd
 unfold XD at hd
 rcases List.mem_cons.mp hd with rfl | hd
 .exact okx0
 rcases List.mem_cons.mp hd with rfl | hd
 .exact okx1
 rcases List.mem_cons.mp hd with rfl | hd
 .exact okx2
 .cases hd
theorem bx0:Bnd xd0:=fun _ _ _ _ _ _=>us3 (fun _ _ _=>rfl)
theorem bx1:Bnd xd1:=fun _ _ _ _ _ _=>us3 (fun _ _ _=>rfl)
theorem bx2:Bnd xd2:=fun _ _ _ _ _ _=>us3 (fun _ _ _=>rfl)
theorem bndX:∀d∈XD,Bnd d:=by
 intro d hd
 unfold XD at hd
 rcases List.mem_cons.mp hd with rfl | hd
 .exact bx0
 rcases List.mem_cons.mp hd with rfl | hd
 .exact bx1
 rcases List.mem_cons.mp hd with rfl | hd
 .exact bx2
 .cases hd
theorem b0:Bnd d0:=fun _ _ _ _ _ _=>us1 (fun _=>rfl)
theorem b1:Bnd d1:=fun _ _ _ _ _ _=>us3 (fun _ _ _=>rfl)
theorem b2:Bnd d2:=fun _ _ _ _ _ _=>us1 (fun _=>rfl)
theorem b3:Bnd d3:=fun _ _ _ _ _ _=>us2 (fun _ _=>rfl)
theorem b4:Bnd d4:=fun _ _ _ _ _ _=>us1 (fun _=>rfl)
theorem b5:Bnd d5:=fun _ _ _ _ _ _=>us3 (fun _ _ _=>rfl)
theorem b6:Bnd d6:=fun _ _ _ _ _ _=>us2 (fun _ _=>rfl)
theorem b7:Bnd d7:=fun _ _ _ _ _ _=>us1 (fun _=>rfl)
theorem b8:Bnd d8:=fun _ _ _ _ _ _=>us3 (fun _ _ _=>rfl)
theorem b9:Bnd d9:=fun _ _ _ _ _ _=>us3 (fun _ _ _=>rfl)
theorem b10:Bnd d10:=fun _ _ _ _ _ _=>us3 (fun _ _ _=>rfl)
theorem b11:Bnd d11:=fun _ _ _ _ _ _=>us3 (fun _ _ _=>rfl)
theorem b12:Bnd d12:=fun _ _ _ _ _ _=>us2 (fun _ _=>rfl)
theorem b13:Bnd d13:=fun _ _ _ _ _ _=>us2 (fun _ _=>rfl)
theorem b14:Bnd d14:=fun _ _ _ _ _ _=>us1 (fun _=>rfl)
theorem b15:Bnd d15:=fun _ _ _ _ _ _=>us2 (fun _ _=>rfl)
theorem b16:Bnd d16:=fun _ _ _ _ _ _=>us1 (fun _=>rfl)
theorem b17:Bnd d17:=fun _ _ _ _ _ _=>us3 (fun _ _ _=>rfl)
theorem b18:Bnd d18:=fun _ _ _ _ _ _=>us1 (fun _=>rfl)
theorem b19:Bnd d19:=fun _ _ _ _ _ _=>us2 (fun _ _=>rfl)
theorem b20:Bnd d20:=fun _ _ _ _ _ _=>us1 (fun _=>rfl)
theorem b21:Bnd d21:=fun _ _ _ _ _ _=>us3 (fun _ _ _=>rfl)
theorem b22:Bnd d22:=fun _ _ _ _ _ _=>us4 (fun _ _ _ _=>rfl)
theorem b23:Bnd d23:=fun _ _ _ _ _ _=>us1 (fun _=>rfl)
theorem b24:Bnd d24:=fun _ _ _ _ _ _=>us3 (fun _ _ _=>rfl)
theorem bnd:∀d∈D,Bnd d:=by
 intro d hd
 unfold D at hd
 rcases List.mem_cons.mp hd with rfl | hd
 .exact b0
 rcases List.mem_cons.mp hd with rfl | hd
 .exact b1
 rcases List.mem_cons.mp hd with rfl | hd
 .exact b2
 rcases List.mem_cons.mp hd with rfl | hd
 .exact b3
 rcases List.mem_cons.mp hd with rfl | hd
 .exact b4
 rcases List.mem_cons.mp hd with rfl | hd
 .exact b5
 rcases List.mem_cons.mp hd with rfl | hd
 .exact b6
 rcases List.mem_cons.mp hd with rfl | hd
 .exact b7
 rcases List.mem_cons.mp hd with rfl | hd
 .exact b8
 rcases List.mem_cons.mp hd with rfl | hd
 .exact b9
 rcases List.mem_cons.mp hd with rfl | hd
 .exact b10
 rcases List.mem_cons.mp hd with rfl | hd
 .exact b11
 rcases List.mem_cons.mp hd with rfl | hd
 .exact b12
 rcases List.mem_cons.mp hd with rfl | hd
 .exact b13
 rcases List.mem_cons.mp hd with rfl | hd
 .exact b14
 rcases List.mem_cons.mp hd with rfl | hd
 .exact b15
 rcases List.mem_cons.mp hd with rfl | hd
 .exact b16
 rcases List.mem_cons.mp hd with rfl | hd
 .exact b17
 rcases List.mem_cons.mp hd with rfl | hd
 .exact b18
 rcases List.mem_cons.mp hd with rfl | hd
 .exact b19
 rcases List.mem_cons.mp hd with rfl | hd
 .exact b20
 rcases List.mem_cons.mp hd with rfl | hd
 .exact b21
 rcases List.mem_cons.mp hd with rfl | hd
 .exact b22
 rcases List.mem_cons.mp hd with rfl | hd
 .exact b23
 rcases List.mem_cons.mp hd with rfl | hd
 .exact b24
 .cases hd
theorem zk {K:PySem.W.Frag}(z0:PySem.W.nsIn K mainGlobals "len" = some none)(z1:PySem.W.nsIn K mainGlobals "int" = some none)(z2:PySem.W.nsIn K mainGlobals "bool" = some none)(z3:PySem.W.nsIn K mainGlobals "list" = some none)(z4:PySem.W.nsIn K mainGlobals "tuple" = some none)(z5:PySem.W.nsIn K mainGlobals "abs" = some none)(z6:PySem.W.nsIn K mainGlobals "max" = some none)(z7:PySem.W.nsIn K mainGlobals "min" = some none)(z8:PySem.W.nsIn K mainGlobals "isinstance" = some none)(z9:PySem.W.nsIn K mainGlobals "range" = some none)(z10:PySem.W.nsIn K mainGlobals "str" = some none)(z11:PySem.W.nsIn K mainGlobals "dict" = some none)(z12:PySem.W.nsIn K mainGlobals "sum" = some none)(z13:PySem.W.nsIn K mainGlobals "all" = some none)(z14:PySem.W.nsIn K mainGlobals "zip" = some none)(z15:PySem.W.nsIn K mainGlobals "enumerate" = some none):∀nm∈zB,PySem.W.nsIn K mainGlobals nm=some none:=by
 unfold zB
 simp only[List.forall_mem_cons]
 exact ⟨z0,z1,z2,z3,z4,z5,z6,z7,z8,z9,z10,z11,z12,z13,z14,z15,fun _ q=>(List.not_mem_nil q).elim⟩
theorem dk {K:PySem.W.Frag}{h:Heap}{mg:Str->Option Value}(X:K.In h)(G:h.Ns mainGlobals mg){d:Dfn}{a:Addr}{od an:Option Addr}{sl:Array (Option Value)}{oc kV dc pm cd ct:Value}(g:PySem.W.nsIn K mainGlobals d.nm=some (some (.ref a)))
  (l:K.lookup a=some ⟨oc,od,.func (PySem.W.fnOf d.nm d.nm (wu d.st) (yI d.st) (zE d.st) .none kV dc pm an cd ct),sl⟩) (c:PySem.W.codeIn K cd d.nm=true) (k:PySem.W.keepIn K (.ref a)=true):zW K mg d:=⟨a,_,zfA l c k,PySem.W.mg_of X G g⟩
theorem mk {K:PySem.W.Frag}{h:Heap}{mg:Str->Option Value}(X:K.In h)(G:h.Ns mainGlobals mg){cG u0 u1 u2 u3 u4 u5 u6 u7:Addr}
  (h0:zW K mg d0) (h1:zW K mg d1) (h2:zW K mg d2) (h3:zW K mg d3) (h4:zW K mg d4) (h5:zW K mg d5) (h6:zW K mg d6) (h7:zW K mg d7) (h8:zW K mg d8) (h9:zW K mg d9) (h10:zW K mg d10) (h11:zW K mg d11) (h12:zW K mg d12) (h13:zW K mg d13) (h14:zW K mg d14) (h15:zW K mg d15) (h16:zW K mg d16) (h17:zW K mg d17) (h18:zW K mg d18) (h19:zW K mg d19) (h20:zW K mg d20) (h21:zW K mg d21) (h22:zW K mg d22) (h23:zW K mg d23) (h24:zW K mg d24)
  (z:∀nm∈zB,PySem.W.nsIn K mainGlobals nm=some none)
  (xG:PySem.W.nsIn K mainGlobals "GyreError" = some (some (.ref cG)))
  (xg0:PySem.W.nsIn K mainGlobals "NoSquare" = some (some (.ref u0)))
  (xg1:PySem.W.nsIn K mainGlobals "NoTurn" = some (some (.ref u1)))
  (xg2:PySem.W.nsIn K mainGlobals "NoName" = some (some (.ref u2)))
  (xg3:PySem.W.nsIn K mainGlobals "NoText" = some (some (.ref u3)))
  (xg4:PySem.W.nsIn K mainGlobals "NoRoad" = some (some (.ref u4)))
  (xg5:PySem.W.nsIn K mainGlobals "NoSize" = some (some (.ref u5)))
  (xg6:PySem.W.nsIn K mainGlobals "NoState" = some (some (.ref u6)))
  (xg7:PySem.W.nsIn K mainGlobals "Unlike" = some (some (.ref u7)))
  (xE:PySem.W.excIn K cG [.type "ValueError",.type "Exception",.type "BaseException",.type "object"] "ValueError.__new__" = true)
  (xM:PySem.W.mroIn K cG (.type "BaseException")=some true)
  (xV:PySem.W.nsIn K mainGlobals "ValueError" = some none)
  (xe0:PySem.W.excIn K u0 [.type "ValueError",.type "Exception",.type "BaseException",.type "object"] "ValueError.__new__" = true)
  (xa0:PySem.W.findIn K (.ref u0) "__getattribute__" = some (some (.builtin "BaseException.__getattribute__")))
  (xb0:PySem.W.findIn K (.ref u0) "__getattr__" = some none)
  (xc0:PySem.W.mroIn K u0 (.type "BaseException")=some true)
  (xd0:PySem.W.findIn K (.ref u0) "__class__" = some (some (.builtin "object.__class__")))
  (xo0:PySem.W.mroIn K u0 (.type "object")=some true)
  (xm0:PySem.W.mroIn K u0 (.ref cG)=some true)
  (xv0:PySem.W.kitOne K (.ref u0) (.type "ValueError")=some true)
  (xk0_0:PySem.W.kitOne K (.ref u0) (.ref u0)=some true)
  (xk0_1:PySem.W.kitOne K (.ref u0) (.ref u1)=some false)
  (xk0_2:PySem.W.kitOne K (.ref u0) (.ref u2)=some false)
  (xk0_3:PySem.W.kitOne K (.ref u0) (.ref u3)=some false)
  (xk0_4:PySem.W.kitOne K (.ref u0) (.ref u4)=some false)
  (xk0_5:PySem.W.kitOne K (.ref u0) (.ref u5)=some false)
  (xk0_6:PySem.W.kitOne K (.ref u0) (.ref u6)=some false)
  (xk0_7:PySem.W.kitOne K (.ref u0) (.ref u7)=some false)
  (xe1:PySem.W.excIn K u1 [.type "ValueError",.type "Exception",.type "BaseException",.type "object"] "ValueError.__new__" = true)
  (xa1:PySem.W.findIn K (.ref u1) "__getattribute__" = some (some (.builtin "BaseException.__getattribute__")))
  (xb1:PySem.W.findIn K (.ref u1) "__getattr__" = some none)
  (xc1:PySem.W.mroIn K u1 (.type "BaseException")=some true)
  (xd1:PySem.W.findIn K (.ref u1) "__class__" = some (some (.builtin "object.__class__")))
  (xo1:PySem.W.mroIn K u1 (.type "object")=some true)
  (xm1:PySem.W.mroIn K u1 (.ref cG)=some true)
  (xv1:PySem.W.kitOne K (.ref u1) (.type "ValueError")=some true)
  (xk1_0:PySem.W.kitOne K (.ref u1) (.ref u0)=some false)
  (xk1_1:PySem.W.kitOne K (.ref u1) (.ref u1)=some true)
  (xk1_2:PySem.W.kitOne K (.ref u1) (.ref u2)=some false)
  (xk1_3:PySem.W.kitOne K (.ref u1) (.ref u3)=some false)
  (xk1_4:PySem.W.kitOne K (.ref u1) (.ref u4)=some false)
  (xk1_5:PySem.W.kitOne K (.ref u1) (.ref u5)=some false)
  (xk1_6:PySem.W.kitOne K (.ref u1) (.ref u6)=some false)
  (xk1_7:PySem.W.kitOne K (.ref u1) (.ref u7)=some false)
  : ((∀e∈D,zW K mg e)/\(∀ (nm:Str) (i:Int),C.cons.lookup nm=some i->∃t,mg nm=some (.int i t))/\∀nm∈zB,mg nm=none)/\(∀e∈XD,zW K mg e)/\∃G,XOk K mg Q G:=by
 refine ⟨⟨fun d hd=>?_,fun nm i hi=>?_,fun nm hn=>?_⟩,fun d hd=>?_,cG,PySem.W.mg_of X G xG,xE,xM,PySem.W.mg_none_of X G xV,fun c x hx=>?_,fun c x hx=>?_⟩
 .unfold D at hd
  rcases List.mem_cons.mp hd with rfl | hd
  .exact h0
  rcases List.mem_cons.mp hd with rfl | hd
  .exact h1
  rcases List.mem_cons.mp hd with rfl | hd
  .exact h2
  rcases List.mem_cons.mp hd with rfl | hd
  .exact h3
  rcases List.mem_cons.mp hd with rfl | hd
  .exact h4
  rcases List.mem_cons.mp hd with rfl | hd
  .exact h5
  rcases List.mem_cons.mp hd with rfl | hd
  .exact h6
  rcases List.mem_cons.mp hd with rfl | hd
  .exact h7
  rcases List.mem_cons.mp hd with rfl | hd
  .exact h8
  rcases List.mem_cons.mp hd with rfl | hd
  .exact h9
  rcases List.mem_cons.mp hd with rfl | hd
  .exact h10
  rcases List.mem_cons.mp hd with rfl | hd
  .exact h11
  rcases List.mem_cons.mp hd with rfl | hd
  .exact h12
  rcases List.mem_cons.mp hd with rfl | hd
  .exact h13
  rcases List.mem_cons.mp hd with rfl | hd
  .exact h14
  rcases List.mem_cons.mp hd with rfl | hd
  .exact h15
  rcases List.mem_cons.mp hd with rfl | hd
  .exact h16
  rcases List.mem_cons.mp hd with rfl | hd
  .exact h17
  rcases List.mem_cons.mp hd with rfl | hd
  .exact h18
  rcases List.mem_cons.mp hd with rfl | hd
  .exact h19
  rcases List.mem_cons.mp hd with rfl | hd
  .exact h20
  rcases List.mem_cons.mp hd with rfl | hd
  .exact h21
  rcases List.mem_cons.mp hd with rfl | hd
  .exact h22
  rcases List.mem_cons.mp hd with rfl | hd
  .exact h23
  rcases List.mem_cons.mp hd with rfl | hd
  .exact h24
  .cases hd
 .cases hi
 .exact PySem.W.mg_none_of X G (z nm hn)
 .unfold XD at hd
  rcases List.mem_cons.mp hd with rfl | hd
  .exact h8
  rcases List.mem_cons.mp hd with rfl | hd
  .exact h11
  rcases List.mem_cons.mp hd with rfl | hd
  .exact h11
  .cases hd
 .have hx':(["NoSquare", "NoTurn", "NoName", "NoText", "NoRoad", "NoSize", "NoState", "Unlike"]:List Str)[c]?=some x:=hx
  match c,hx' with
  | 0,h=>cases h;exact ⟨u0,PySem.W.mg_of X G xg0⟩
  | 1,h=>cases h;exact ⟨u1,PySem.W.mg_of X G xg1⟩
  | 2,h=>cases h;exact ⟨u2,PySem.W.mg_of X G xg2⟩
  | 3,h=>cases h;exact ⟨u3,PySem.W.mg_of X G xg3⟩
  | 4,h=>cases h;exact ⟨u4,PySem.W.mg_of X G xg4⟩
  | 5,h=>cases h;exact ⟨u5,PySem.W.mg_of X G xg5⟩
  | 6,h=>cases h;exact ⟨u6,PySem.W.mg_of X G xg6⟩
  | 7,h=>cases h;exact ⟨u7,PySem.W.mg_of X G xg7⟩
  | _+8,h=>cases h
 .have hx':(["NoSquare", "NoTurn"]:List Str)[c]?=some x:=hx
  match c,hx' with
  | 0,h =>
   cases h
   refine ⟨u0,PySem.W.mg_of X G xg0,xe0,⟨xa0,xb0,xc0,xd0,xo0⟩,xm0,xv0,fun c' x' A' h1 h2=>?_⟩
   have h3:(["NoSquare", "NoTurn", "NoName", "NoText", "NoRoad", "NoSize", "NoState", "Unlike"]:List Str)[c']?=some x':=h1
   match c',h3 with
   | 0,h3=>cases h3;rw[PySem.W.mg_of X G xg0] at h2;cases h2;exact xk0_0
   | 1,h3=>cases h3;rw[PySem.W.mg_of X G xg1] at h2;cases h2;exact xk0_1
   | 2,h3=>cases h3;rw[PySem.W.mg_of X G xg2] at h2;cases h2;exact xk0_2
   | 3,h3=>cases h3;rw[PySem.W.mg_of X G xg3] at h2;cases h2;exact xk0_3
   | 4,h3=>cases h3;rw[PySem.W.mg_of X G xg4] at h2;cases h2;exact xk0_4
   | 5,h3=>cases h3;rw[PySem.W.mg_of X G xg5] at h2;cases h2;exact xk0_5
   | 6,h3=>cases h3;rw[PySem.W.mg_of X G xg6] at h2;cases h2;exact xk0_6
   | 7,h3=>cases h3;rw[PySem.W.mg_of X G xg7] at h2;cases h2;exact xk0_7
   | _+8,h3=>cases h3
  | 1,h =>
   cases h
   refine ⟨u1,PySem.W.mg_of X G xg1,xe1,⟨xa1,xb1,xc1,xd1,xo1⟩,xm1,xv1,fun c' x' A' h1 h2=>?_⟩
   have h3:(["NoSquare", "NoTurn", "NoName", "NoText", "NoRoad", "NoSize", "NoState", "Unlike"]:List Str)[c']?=some x':=h1
   match c',h3 with
   | 0,h3=>cases h3;rw[PySem.W.mg_of X G xg0] at h2;cases h2;exact xk1_0
   | 1,h3=>cases h3;rw[PySem.W.mg_of X G xg1] at h2;cases h2;exact xk1_1
   | 2,h3=>cases h3;rw[PySem.W.mg_of X G xg2] at h2;cases h2;exact xk1_2
   | 3,h3=>cases h3;rw[PySem.W.mg_of X G xg3] at h2;cases h2;exact xk1_3
   | 4,h3=>cases h3;rw[PySem.W.mg_of X G xg4] at h2;cases h2;exact xk1_4
   | 5,h3=>cases h3;rw[PySem.W.mg_of X G xg5] at h2;cases h2;exact xk1_5
   | 6,h3=>cases h3;rw[PySem.W.mg_of X G xg6] at h2;cases h2;exact xk1_6
   | 7,h3=>cases h3;rw[PySem.W.mg_of X G xg7] at h2;cases h2;exact xk1_7
   | _+8,h3=>cases h3
  | _+2,h=>cases h
end R32
namespace Mini
namespace Vl
inductive Dat where
 | non | bl (b:Bool) | int (i:Int) | str (s:List Nat) | tup (xs:List Dat) | lst (xs:List Dat) | scr (ns:List Int)
deriving Inhabited
inductive Lv where | no | top | full
deriving DecidableEq,Inhabited
noncomputable abbrev DEn:=List (Option Dat)
inductive Rd where | ok (d:Dat) | exc (c:Nat) (d:Dat) | no
deriving Inhabited
noncomputable def Rd.bind (r:Rd)(f:Dat->Rd):Rd:=match r with
 | .ok d=>f d
 | .exc c d=>.exc c d
 | .no=>.no
mutual
noncomputable def flat:Dat->Bool
 | .lst _=>false
 | .tup xs=>flatL xs
 | .non=>true
 | .bl _=>true
 | .int _=>true
 | .str _=>true
 | .scr _=>true
noncomputable def flatL:List Dat->Bool
 | []=>true
 | d::ds=>flat d && flatL ds
end
mutual
noncomputable def yS:Nat->Dat->Bool
 | 0,_=>false
 | _+1,.scr _=>false
 | k+1,.tup xs=>eqOkL k xs
 | k+1,.lst xs=>eqOkL k xs
 | _+1,.non=>true
 | _+1,.bl _=>true
 | _+1,.int _=>true
 | _+1,.str _=>true
noncomputable def eqOkL:Nat->List Dat->Bool
 | _,[]=>true
 | k,d::ds=>yS k d && eqOkL k ds
end
mutual
noncomputable def deq:Dat->Dat->Bool
 | .tup a,.tup b=>deqL a b
 | .lst a,.lst b=>deqL a b
 | .non,.non=>true
 | .bl a,.bl b=>a == b
 | .int a,.int b=>decide (a=b)
 | .bl a,.int b=>decide (b2i a=b)
 | .int a,.bl b=>decide (a=b2i b)
 | .str a,.str b=>decide (a=b)
 | _,_=>false
noncomputable def deqL:List Dat->List Dat->Bool
 | [],[]=>true
 | x::xs,y::ys=>deq x y && deqL xs ys
 | _,_=>false
end
noncomputable def wc:Dat->Option (List Dat)
 | .tup xs=>some xs
 | .lst xs=>some xs
 | .scr ns=>some (ns.map .int)
 | _=>none
noncomputable def lsD:Dat->Option (List Dat)
 | .lst xs=>some xs
 | .scr ns=>some (ns.map .int)
 | _=>none
noncomputable def yA (xs:List Dat):Rd:=if xs.length<=lim then .ok (.lst xs) else .no
noncomputable def yb (op:Bo)(x y:Dat):Rd:=match x,y with
 | .int i,.int j=>match op with
  | .add=>.ok (.int (i+j))
  | .sub=>.ok (.int (i - j))
  | .mul=>if yC i || yC j then .ok (.int (i * j)) else .no
  | .fdiv=>if 0 < j/\j < 1073741824 then .ok (.int (i / j)) else .no
  | .mod=>if 0 < j then .ok (.int (i % j)) else .no
  | .pow=>if 0<=j/\j<=1000000/\yC i=true then .ok (.int (i ^ j.toNat)) else .no
 | .lst xs,.lst ys=>match op with
  | .add=>yA (xs++ys)
  | _=>.no
 | .lst xs,.int k=>match op with
  | .mul=>if -lim<=k/\k<=lim then yA (List.replicate k.toNat xs).flatten else .no
  | _=>.no
 | .tup xs,.tup ys=>match op with
  | .add=>if xs.length+ys.length<=lim/\xs.isEmpty=false then .ok (.tup (xs++ys)) else .no
  | _=>.no
 | _,_=>.no
noncomputable def eqD (x y:Dat):Option Bool:=if yS yH x && yS yH y then some (deq x y) else none
noncomputable def inD (x:Dat)(ys:List Dat):Option Bool:=if yS yH x && eqOkL yH ys then some (ys.any fun y=>deq y x) else none
noncomputable def za2:Option Bool->Rd
 | some b=>.ok (.bl b)
 | none=>.no
noncomputable def zg1 (r:Int->Int->Bool)(x y:Dat):Rd:=match x,y with
 | .int i,.int j=>.ok (.bl (r i j))
 | _,_=>.no
noncomputable def xh (op:Co)(x y:Dat):Rd:=match op with
 | .eq=>za2 (eqD x y)
 | .ne=>za2 ((eqD x y).map (!·))
 | .isin=>match wc y with
  | some ys=>za2 (inD x ys)
  | none=>.no
 | .lt=>zg1 (fun i j=>decide (i < j)) x y
noncomputable def isD (t:Tg)(x:Dat):Bool:=match t with
 | .int=>match x with
  | .int _=>true
  | .bl _=>true
  | _=>false
 | .bool=>match x with
  | .bl _=>true
  | _=>false
 | .str=>match x with
  | .str _=>true
  | _=>false
 | .tuple=>match x with
  | .tup _=>true
  | _=>false
 | .list=>match x with
  | .scr _=>true
  | .lst _=>true
  | _=>false
 | .dict=>false
noncomputable def jH:List Dat->Option Int
 | []=>some 0
 | .int i::r=>(jH r).map (i+·)
 | _=>none
noncomputable def y8 (b:Blf)(ws:List Dat):Rd:=match b with
 | .len=>match ws with
  | [x]=>match wc x with
   | some xs=>.ok (.int xs.length)
   | none=>.no
  | _=>.no
 | .int=>match ws with
  | [.int i]=>.ok (.int i)
  | [.bl b]=>.ok (.int (b2i b))
  | _=>.no
 | .list=>match ws with
  | [x]=>match wc x with
   | some xs=>yA xs
   | none=>.no
  | _=>.no
 | .sum=>match ws with
  | [x]=>match (lsD x).bind jH with
   | some i=>.ok (.int i)
   | none=>.no
  | _=>.no
 | .min2=>match ws with
  | [.int i,.int j]=>.ok (.int (if j < i then j else i))
  | _=>.no
 | _=>.no
noncomputable def yt (x y:Dat):Rd:=match y with
 | .int i=>match wc x with
  | some xs=>match (ix xs.length i).bind fun j=>xs[j]? with
   | some v=>.ok v
   | none=>.no
  | none=>.no
 | _=>.no
noncomputable def yu (lo st:Int)(n:Nat):List Dat:=(List.range n).map fun (i:Nat)=>.int (lo+st * (i:Int))
noncomputable def kC (a b c:Dat):Rd:=match a,b,c with
 | .int a,.int b,.int c=>if -lim<=a/\a<=lim/\-lim<=b/\b<=lim/\(c=1\/c=-1) then .ok (.tup (yu a c (kT a b c))) else .no
 | _,_,_=>.no
noncomputable def ye {α:Type}(c e:α->Rd):List α->List Dat->Rd
 | [],acc=>yA acc
 | x::xs,acc=>(c x).bind fun b=>match b with
  | .bl true=>(e x).bind fun y=>if acc.length < lim then ye c e xs (acc++[y]) else .no
  | .bl false=>ye c e xs acc
  | _=>.no
noncomputable def itD (d:Dat):Option (List Dat):=match d with
 | .tup xs=>some xs
 | .scr ns=>some (ns.map .int)
 | .lst xs=>if xs.length<=lim then some xs else none
 | _=>none
noncomputable def xA (k:Kd)(x y:Dat):Option (List (Dat×Dat)):=match k,x,y with
 | .zip,.lst xs,.lst ys=>if xs.length<=lim/\ys.length<=lim then some (xs.zip ys) else none
 | .enum,.lst xs,.int s=>if xs.length<=lim then some ((yu s 1 xs.length).zip xs) else none
 | _,_,_=>none
noncomputable def zT:Dat->List Dat
 | .tup xs=>xs
 | _=>[]
noncomputable def litD:Wd->Option Dat
 | .non=>some .non
 | .bl b=>some (.bl b)
 | .int i=>some (.int i)
 | .str s=>some (.str s)
 | _=>none
noncomputable def evD (cl:Nat->List Dat->Rd):Ex->DEn->Rd
 | .var i,de=>match de[i]? with
  | some (some d)=>.ok d
  | _=>.no
 | .lit w,_=>match litD w with
  | some d=>.ok d
  | none=>.no
 | .bin op a b,de=>(evD cl a de).bind fun x=>(evD cl b de).bind fun y=>yb op x y
 | .neg a,de=>(evD cl a de).bind fun x=>match x with
  | .int i=>.ok (.int (-i))
  | _=>.no
 | .not a,de=>(evD cl a de).bind fun x=>match x with
  | .bl b=>.ok (.bl (!b))
  | _=>.no
 | .and a b,de=>(evD cl a de).bind fun x=>match x with
  | .bl true=>evD cl b de
  | .bl false=>.ok (.bl false)
  | _=>.no
 | .or a b,de=>(evD cl a de).bind fun x=>match x with
  | .bl false=>evD cl b de
  | .bl true=>.ok (.bl true)
  | _=>.no
 | .cmp op a b,de=>(evD cl a de).bind fun x=>(evD cl b de).bind fun y=>xh op x y
 | .chain p q a b c,de=>(evD cl a de).bind fun x=>(evD cl b de).bind fun y=>(xh p x y).bind fun z=>match z with
  | .bl true=>(evD cl c de).bind fun u=>xh q y u
  | .bl false=>.ok (.bl false)
  | _=>.no
 | .unit,_=>.ok (.tup [])
 | .pair a b,de=>(evD cl a de).bind fun x=>(evD cl b de).bind fun y=>.ok (.tup (x::zT y))
 | .call k a,de=>(evD cl a de).bind fun x=>cl k (zT x)
 | .blt b a,de=>(evD cl a de).bind fun x=>y8 b (zT x)
 | .isi t a,de=>(evD cl a de).bind fun x=>.ok (.bl (isD t x))
 | .lst a,de=>(evD cl a de).bind fun x=>yA (zT x)
 | .tup a,de=>(evD cl a de).bind fun x=>if (zT x).length<=lim then .ok (.tup (zT x)) else .no
 | .idx a b,de=>(evD cl a de).bind fun x=>(evD cl b de).bind fun y=>yt x y
 | .meth _ _ _,_=>.no
 | .rng a b c,de=>(evD cl a de).bind fun x=>(evD cl b de).bind fun y=>(evD cl c de).bind fun z=>kC x y z
 | .comp elt it cond,de=>(evD cl it de).bind fun x=>match itD x with
  | some xs=>ye (fun x=>evD cl cond (de++[some x])) (fun x=>evD cl elt (de++[some x])) xs []
  | none=>.no
 | .compP k elt a b cond,de=>(evD cl a de).bind fun x=>(evD cl b de).bind fun y=>match xA k x y with
  | some ps=>ye (fun p=>evD cl cond (de++[some p.1]++[some p.2])) (fun p=>evD cl elt (de++[some p.1]++[some p.2])) ps []
  | none=>.no
 | .lrng a,de=>(evD cl a de).bind fun x=>match x with
  | .int j=>if -lim<=j/\j<=lim then yA (yu 0 1 j.toNat) else .no
  | _=>.no
theorem kD {cl:Nat->List Wd->Me->Rz}{i:Nat}{env:En}{w:Wd}(h:env[i]?=some (some w))(m:Me):evE cl (.var i) env m=.ok w m:=by
 show (match env[i]? with | some (some w)=>Rz.ok w m | _=>.no)=_
 rw[h]
theorem xk {cl:Nat->List Dat->Rd}{i:Nat}{de:DEn}{d:Dat}(h:de[i]?=some (some d)):evD cl (.var i) de=.ok d:=by
 show (match de[i]? with | some (some d)=>Rd.ok d | _=>.no)=_
 rw[h]
theorem yZ {cl:Nat->List Dat->Rd}{i:Nat}{de:DEn}(h:de[i]?=none\/de[i]?=some none):evD cl (.var i) de=.no:=by
 show (match de[i]? with | some (some d)=>Rd.ok d | _=>.no)=_
 rcases h with h | h <;> rw[h]
theorem zai {cl:Nat->List Dat->Rd}{i:Nat}{de:DEn}{d:Dat}(h:evD cl (.var i) de=.ok d):de[i]?=some (some d):=by
 cases z:de[i]? with
 | none=>rw[yZ (.inl z)] at h;cases h
 | some o =>
  cases o with
  | none=>rw[yZ (.inr z)] at h;cases h
  | some e=>rw[xk z] at h;cases h;rfl
mutual
noncomputable def Rep (R:Nat->Prop)(m:Me):Dat->Wd->Prop
 | .non,w=>w=.non
 | .bl b,w=>w=.bl b
 | .int i,w=>w=.int i
 | .str s,w=>w=.str s
 | .scr ns,w=>w=.rol (ns.map Wd.int)
 | .tup ds,w=>∃xs,w=.tup xs/\RepL R m ds xs
 | .lst ds,w=>∃l xs,w=.ref l/\R l/\m[l]?=some (.lst xs)/\RepL R m ds xs
noncomputable def RepL (R:Nat->Prop)(m:Me):List Dat->List Wd->Prop
 | [],xs=>xs=[]
 | d::ds,xs=>∃x r,xs=x::r/\Rep R m d x/\RepL R m ds r
end
noncomputable def Le (m m':Me):Prop:=∀ (l:Nat) o,m[l]?=some o->m'[l]?=some o
theorem Le.refl (m:Me):Le m m:=fun _ _ h=>h
theorem Le.trans {a b c:Me}(h:Le a b)(k:Le b c):Le a c:=fun l o z=>k l o (h l o z)
theorem Le.app (m x:Me):Le m (m++x):=fun l o z=>by
 obtain ⟨hl,_⟩:=List.getElem?_eq_some_iff.mp z
 rw[List.getElem?_append_left hl];exact z
theorem Le.len {a b:Me}(h:Le a b):a.length<=b.length:=by
 rcases Nat.lt_or_ge b.length a.length with z | z
 .have:=h b.length a[b.length] (List.getElem?_eq_getElem z)
  have:=(List.getElem?_eq_some_iff.mp this).1
  lia
 .exact z
noncomputable def Rf (R:Nat->Prop)(n:Nat):Nat->Prop:=fun l=>R l\/n<=l
mutual
theorem Rep.frame {R R':Nat->Prop}{m m':Me}(h:∀ (l:Nat) o,R l->m[l]?=some o->R' l/\m'[l]?=some o):∀ (d:Dat) (w:Wd),Rep R m d w->Rep R' m' d w
 | .non,w,q=>by unfold Rep at q ⊢;exact q
 | .bl b,w,q=>by unfold Rep at q ⊢;exact q
 | .int b,w,q=>by unfold Rep at q ⊢;exact q
 | .str b,w,q=>by unfold Rep at q ⊢;exact q
 | .scr b,w,q=>by unfold Rep at q ⊢;exact q
 | .tup ds,w,q=>by
  unfold Rep at q ⊢
  obtain ⟨xs,rfl,q⟩:=q
  exact ⟨xs,rfl,RepL.frame h ds xs q⟩
 | .lst ds,w,q=>by
  unfold Rep at q ⊢
  obtain ⟨l,xs,rfl,r,z,q⟩:=q
  exact ⟨l,xs,rfl,(h l _ r z).1,(h l _ r z).2,RepL.frame h ds xs q⟩
theorem RepL.frame {R R':Nat->Prop}{m m':Me}(h:∀ (l:Nat) o,R l->m[l]?=some o->R' l/\m'[l]?=some o):∀ (ds:List Dat) (xs:List Wd),RepL R m ds xs->RepL R' m' ds xs
 | [],xs,q=>by unfold RepL at q ⊢;exact q
 | d::ds,xs,q=>by
  unfold RepL at q ⊢
  refine cps fun zP zk=>?_
  obtain ⟨x,r,rfl,a,b⟩:=q
  refine zk ?_
  exact ⟨x,r,rfl,Rep.frame h d x a,RepL.frame h ds r b⟩
end
theorem Rep.up {R:Nat->Prop}{m m':Me}{d:Dat}{w:Wd}(n:Nat)(h:Le m m')(q:Rep R m d w):Rep (Rf R n) m' d w :=
 Rep.frame (fun l o r z=>⟨.inl r,h l o z⟩) d w q
theorem RepL.up {R:Nat->Prop}{m m':Me}{d:List Dat}{w:List Wd}(n:Nat)(h:Le m m')(q:RepL R m d w):RepL (Rf R n) m' d w :=
 RepL.frame (fun l o r z=>⟨.inl r,h l o z⟩) d w q
theorem repL_iff {R:Nat->Prop}{m:Me}:∀ {ds:List Dat}{xs:List Wd},RepL R m ds xs↔ds.length=xs.length/\∀ (i:Nat) d x,ds[i]?=some d->xs[i]?=some x->Rep R m d x
 | [],xs=>by
  unfold RepL
  constructor
  .rintro rfl;exact ⟨rfl,by simp⟩
  .rintro ⟨h,_⟩;exact List.eq_nil_of_length_eq_zero h.symm
 | d::ds,xs=>by
  unfold RepL
  constructor
  .intro zz
   obtain ⟨x,r,rfl,a,b⟩:=zz
   obtain ⟨hl,hb⟩:=repL_iff.mp b
   refine ⟨by simp[hl],fun i e y h1 h2=>?_⟩
   cases i with
   | zero=>simp at h1 h2;subst h1;subst h2;exact a
   | succ i=>simp at h1 h2;exact hb i e y h1 h2
  .rintro ⟨hl,h⟩
   cases xs with
   | nil=>cases hl
   | cons x r =>
    refine ⟨x,r,rfl,h 0 d x rfl rfl,repL_iff.mpr ⟨by simpa using hl,fun i e y h1 h2=>h (i+1) e y (by simpa using h1) (by simpa using h2)⟩⟩
theorem RepL.len {R:Nat->Prop}{m:Me}{ds:List Dat}{xs:List Wd}(h:RepL R m ds xs):ds.length=xs.length:=(repL_iff.mp h).1
theorem RepL.get {R:Nat->Prop}{m:Me}{ds:List Dat}{xs:List Wd}(h:RepL R m ds xs){i:Nat}{d:Dat}(z:ds[i]?=some d):∃x,xs[i]?=some x/\Rep R m d x:=by
 obtain ⟨hl,h⟩:=repL_iff.mp h
 obtain ⟨hi,_⟩:=List.getElem?_eq_some_iff.mp z
 exact ⟨xs[i],List.getElem?_eq_getElem (by lia),h i d _ z (List.getElem?_eq_getElem (by lia))⟩
theorem RepL.nil {R:Nat->Prop}{m:Me}:RepL R m [] []:=by unfold RepL;rfl
theorem RepL.cons {R:Nat->Prop}{m:Me}{d:Dat}{x:Wd}{ds:List Dat}{xs:List Wd}(a:Rep R m d x)(b:RepL R m ds xs):RepL R m (d::ds) (x::xs):=by
 unfold RepL;exact ⟨x,xs,rfl,a,b⟩
theorem RepL.cons_inv {R:Nat->Prop}{m:Me}{d:Dat}{ds:List Dat}{xs:List Wd}(h:RepL R m (d::ds) xs):∃x r,xs=x::r/\Rep R m d x/\RepL R m ds r:=by
 unfold RepL at h;exact h
theorem RepL.nil_inv {R:Nat->Prop}{m:Me}{xs:List Wd}(h:RepL R m [] xs):xs=[]:=by unfold RepL at h;exact h
theorem RepL.app {R:Nat->Prop}{m:Me}:∀ {ds es:List Dat}{xs ys:List Wd},RepL R m ds xs->RepL R m es ys->RepL R m (ds++es) (xs++ys)
 | [],es,xs,ys,a,b=>by rw[a.nil_inv];exact b
 | d::ds,es,xs,ys,a,b=>by
  obtain ⟨x,r,rfl,p,q⟩:=a.cons_inv
  exact .cons p (RepL.app q b)
theorem RepL.take {R:Nat->Prop}{m:Me}(n:Nat){ds:List Dat}{xs:List Wd}(h:RepL R m ds xs):RepL R m (ds.take n) (xs.take n):=by
 obtain ⟨hl,h⟩:=repL_iff.mp h
 refine repL_iff.mpr ⟨by simp[hl],fun i d x a b=>?_⟩
 rw[List.getElem?_take] at a b
 split at a
 .next z=>rw[if_pos z] at b;exact h i d x a b
 .cases a
theorem RepL.rev {R:Nat->Prop}{m:Me}:∀ {ds:List Dat}{xs:List Wd},RepL R m ds xs->RepL R m ds.reverse xs.reverse
 | [],xs,a=>by rw[a.nil_inv];exact .nil
 | d::ds,xs,a=>by
  obtain ⟨x,r,rfl,p,q⟩:=a.cons_inv
  rw[List.reverse_cons,List.reverse_cons]
  exact RepL.app (RepL.rev q) (.cons p .nil)
theorem RepL.set {R:Nat->Prop}{m:Me}{ds:List Dat}{xs:List Wd}(h:RepL R m ds xs)(j:Nat){d:Dat}{x:Wd}(z:Rep R m d x):RepL R m (ds.set j d) (xs.set j x):=by
 obtain ⟨hl,h⟩:=repL_iff.mp h
 refine repL_iff.mpr ⟨by simp[hl],fun i e y a b=>?_⟩
 rw[List.getElem?_set] at a b
 by_cases q:j=i
 .rw[if_pos q] at a b
  split at a
  .split at b
   .cases a;cases b;exact z
   .cases b
  .cases a
 .rw[if_neg q] at a b;exact h i e y a b
theorem RepL.rep {R:Nat->Prop}{m:Me}{ds:List Dat}{xs:List Wd}(h:RepL R m ds xs):∀k:Nat,RepL R m (List.replicate k ds).flatten (List.replicate k xs).flatten
 | 0=>.nil
 | k+1=>by
  rw[List.replicate_succ,List.replicate_succ,List.flatten_cons,List.flatten_cons]
  exact RepL.app h (RepL.rep h k)
theorem zig {R:Nat->Prop}{m:Me}:∀ (l:List Int),RepL R m (l.map Dat.int) (l.map Wd.int)
 | []=>.nil
 | i::l=>.cons (by unfold Rep;rfl) (zig l)
theorem rep_int {R:Nat->Prop}{m:Me}{i:Int}{w:Wd}:Rep R m (.int i) w↔w=.int i:=by unfold Rep;exact Iff.rfl
theorem rep_bl {R:Nat->Prop}{m:Me}{i:Bool}{w:Wd}:Rep R m (.bl i) w↔w=.bl i:=by unfold Rep;exact Iff.rfl
theorem rep_non {R:Nat->Prop}{m:Me}{w:Wd}:Rep R m .non w↔w=.non:=by unfold Rep;exact Iff.rfl
theorem rep_str {R:Nat->Prop}{m:Me}{s:List Nat}{w:Wd}:Rep R m (.str s) w↔w=.str s:=by unfold Rep;exact Iff.rfl
theorem rep_scr {R:Nat->Prop}{m:Me}{s:List Int}{w:Wd}:Rep R m (.scr s) w↔w=.rol (s.map Wd.int):=by unfold Rep;exact Iff.rfl
theorem rep_tup {R:Nat->Prop}{m:Me}{ds:List Dat}{w:Wd}:Rep R m (.tup ds) w↔∃xs,w=.tup xs/\RepL R m ds xs:=by
 constructor
 .intro h;unfold Rep at h;exact h
 .intro h;unfold Rep;exact h
theorem rep_lst {R:Nat->Prop}{m:Me}{ds:List Dat}{w:Wd}:Rep R m (.lst ds) w↔∃l xs,w=.ref l/\R l/\m[l]?=some (.lst xs)/\RepL R m ds xs:=by
 constructor
 .intro h;unfold Rep at h;exact h
 .intro h;unfold Rep;exact h
noncomputable def SimE (R:Nat->Prop)(m:Me)(r:Rz)(rd:Rd):Prop:=match rd with
 | .ok d=>∃w m',r=.ok w m'/\Le m m'/\Rep (Rf R m.length) m' d w
 | .exc c d=>∃w m',r=.exc c w m'/\Le m m'/\Rep (Rf R m.length) m' d w
 | .no=>True
theorem SimE.lift {R:Nat->Prop}{m m1:Me}{r:Rz}{rd:Rd}(h:Le m m1)(q:SimE (Rf R m.length) m1 r rd):SimE R m r rd:=by
 have hl:=h.len
 have fr:∀ (m':Me) (d:Dat) (w:Wd),Rep (Rf (Rf R m.length) m1.length) m' d w->Rep (Rf R m.length) m' d w:=fun m' d w=>Rep.frame (fun l o z k=>⟨by rcases z with (z | z) | z;exact .inl z;exact .inr z;exact .inr (by lia),k⟩) d w
 cases rd with
 | ok d=>obtain ⟨w,m',rfl,k,z⟩:=q;exact ⟨w,m',rfl,h.trans k,fr _ _ _ z⟩
 | exc c d=>obtain ⟨w,m',rfl,k,z⟩:=q;exact ⟨w,m',rfl,h.trans k,fr _ _ _ z⟩
 | no=>trivial
theorem SimE.bind {R:Nat->Prop}{m:Me}{r:Rz}{rd:Rd}{f:Wd->Me->Rz}{g:Dat->Rd}(h:SimE R m r rd)
  (k:∀d w m',Le m m'->Rep (Rf R m.length) m' d w->SimE (Rf R m.length) m' (f w m') (g d)):SimE R m (r.bind f) (rd.bind g):=by
 cases rd with
 | ok d=>obtain ⟨w,m',rfl,l,z⟩:=h;exact SimE.lift l (k d w m' l z)
 | exc c d=>obtain ⟨w,m',rfl,l,z⟩:=h;exact ⟨w,m',rfl,l,z⟩
 | no=>trivial
theorem zh9 {R:Nat->Prop}{m:Me}{d:Dat}{w:Wd}(h:Rep R m d w):SimE R m (.ok w m) (.ok d) :=
 ⟨w,m,rfl,Le.refl m,h.up _ (Le.refl m)⟩
theorem SimE.no {R:Nat->Prop}{m:Me}{r:Rz}:SimE R m r .no:=trivial
theorem SimE.new {R:Nat->Prop}{m:Me}{ds:List Dat}{xs:List Wd}(h:RepL R m ds xs):SimE R m (alloc m xs) (yA ds):=by
 unfold yA alloc
 rw[h.len]
 by_cases z:xs.length<=lim
 .rw[if_pos z,if_pos z]
  exact ⟨_,_,rfl,Le.app m _,rep_lst.mpr ⟨_,xs,rfl,.inr (Nat.le_refl _),by simp,h.up _ (Le.app m _)⟩⟩
 .rw[if_neg z,if_neg z];exact SimE.no
theorem ve {R:Nat->Prop}{m:Me}{d:Dat}{w:Wd}{ds:List Dat}(h:Rep R m d w)(z:wc d=some ds):∃xs,xb m w=some xs/\RepL R m ds xs:=by
 cases d with
 | tup es=>obtain ⟨xs,rfl,q⟩:=rep_tup.mp h;cases z;exact ⟨xs,rfl,q⟩
 | lst es =>
  refine cps fun zP zk=>?_
  obtain ⟨l,xs,rfl,_,e,q⟩:=rep_lst.mp h;cases z
  refine zk ?_
  exact ⟨xs,by show zN m l=_;unfold zN;rw[e],q⟩
 | scr ns=>rw[rep_scr.mp h];cases z;exact ⟨_,rfl,zig ns⟩
 | _=>cases z
theorem zf2 {R:Nat->Prop}{m:Me}{d:Dat}{w:Wd}{ds:List Dat}(h:Rep R m d w)(z:lsD d=some ds):∃xs,gh m w=some xs/\RepL R m ds xs:=by
 cases d with
 | lst es =>
  refine cps fun zP zk=>?_
  obtain ⟨l,xs,rfl,_,e,q⟩:=rep_lst.mp h;cases z
  refine zk ?_
  exact ⟨xs,by show zN m l=_;unfold zN;rw[e],q⟩
 | scr ns=>rw[rep_scr.mp h];cases z;exact ⟨_,rfl,zig ns⟩
 | _=>cases z
theorem gx:∀ {a b:List Int},a.map Wd.int=b.map Wd.int->a=b
 | [],[],_=>rfl
 | [],_::_,h=>by cases h
 | _::_,[],h=>by cases h
 | x::a,y::b,h=>by
  simp only[List.map_cons,List.cons.injEq,Wd.int.injEq] at h
  rw[h.1,gx h.2]
mutual
theorem Rep.det {R R':Nat->Prop}{m:Me}:∀ (d e:Dat) (w:Wd),Rep R m d w->Rep R' m e w->d=e
 | .non,e,w,q,z=>by rw[rep_non.mp q] at z;cases e <;> unfold Rep at z <;> first | rfl | (exfalso;simp at z)
 | .bl b,e,w,q,z=>by rw[rep_bl.mp q] at z;cases e <;> unfold Rep at z <;> first | (injection z with z;rw[z]) | (exfalso;simp at z)
 | .int b,e,w,q,z=>by rw[rep_int.mp q] at z;cases e <;> unfold Rep at z <;> first | (injection z with z;rw[z]) | (exfalso;simp at z)
 | .str b,e,w,q,z=>by rw[rep_str.mp q] at z;cases e <;> unfold Rep at z <;> first | (injection z with z;rw[z]) | (exfalso;simp at z)
 | .scr b,e,w,q,z=>by rw[rep_scr.mp q] at z;cases e <;> unfold Rep at z <;> first | (injection z with z;rw[gx z]) | (exfalso;simp at z)
 | .tup ds,e,w,q,z=>by
  obtain ⟨xs,rfl,q1⟩:=rep_tup.mp q
  cases e with
  | tup es=>obtain ⟨ys,e,z1⟩:=rep_tup.mp z;cases e;rw[RepL.det ds es xs q1 z1]
  | _=>exfalso;unfold Rep at z;simp at z
 | .lst ds,e,w,q,z=>by
  obtain ⟨l,xs,rfl,_,hm,q1⟩:=rep_lst.mp q
  cases e with
  | lst es=>obtain ⟨l',ys,e,_,hn,z1⟩:=rep_lst.mp z;cases e;rw[hm] at hn;cases hn;rw[RepL.det ds es xs q1 z1]
  | _=>exfalso;unfold Rep at z;simp at z
theorem RepL.det {R R':Nat->Prop}{m:Me}:∀ (ds es:List Dat) (xs:List Wd),RepL R m ds xs->RepL R' m es xs->ds=es
 | [],es,xs,q,z=>by
  rw[q.nil_inv] at z
  cases es with
  | nil=>rfl
  | cons e es=>obtain ⟨_,_,h,_⟩:=z.cons_inv;cases h
 | d::ds,es,xs,q,z=>by
  obtain ⟨x,r,rfl,a,b⟩:=q.cons_inv
  cases es with
  | nil=>cases z.nil_inv
  | cons e es =>
   obtain ⟨_,_,h,a',b'⟩:=z.cons_inv
   cases h
   rw[Rep.det d e x a a',RepL.det ds es r b b']
end
theorem zeW (d:Dat):yS 0 d=false:=by cases d <;> rfl
mutual
theorem gA:∀ (k:Nat) (d:Dat),yS k d=true->deq d d=true
 | 0,d,h=>by rw[zeW] at h;cases h
 | k+1,.non,h=>rfl
 | k+1,.bl b,h=>by show (b == b)=true;simp
 | k+1,.int b,h=>by show decide (b=b)=true;simp
 | k+1,.str b,h=>by show decide (b=b)=true;simp
 | k+1,.scr b,h=>absurd (show false=true from h) (by decide)
 | k+1,.tup ds,h=>deqL_refl k ds h
 | k+1,.lst ds,h=>deqL_refl k ds h
theorem deqL_refl:∀ (k:Nat) (ds:List Dat),eqOkL k ds=true->deqL ds ds=true
 | k,[],h=>rfl
 | k,d::ds,h=>by
  replace h:(yS k d && eqOkL k ds)=true:=h
  show (deq d d && deqL ds ds)=true
  rw[Bool.and_eq_true] at h ⊢
  exact ⟨gA k d h.1,deqL_refl k ds h.2⟩
end
theorem jI {R:Nat->Prop}{m:Me}{k:Nat}(ih:∀ (d e:Dat) (x y:Wd),yS k d=true->yS k e=true->Rep R m d x->Rep R m e y->eqW m k x y=some (deq d e)):
  ∀ (ds es:List Dat) (xs ys:List Wd),eqOkL k ds=true->eqOkL k es=true->RepL R m ds xs->RepL R m es ys->∃q,eqL (eqW m k) xs ys=some q/\(q && decide (xs.length=ys.length))=deqL ds es
 | [],es,xs,ys,h1,h2,a,b=>by
  rw[a.nil_inv]
  cases es with
  | nil=>rw[b.nil_inv];exact ⟨true,rfl,rfl⟩
  | cons e es=>obtain ⟨y,r,rfl,_,_⟩:=b.cons_inv;exact ⟨true,rfl,rfl⟩
 | d::ds,es,xs,ys,h1,h2,a,b=>by
  obtain ⟨x,r,rfl,p,q⟩:=a.cons_inv
  cases es with
  | nil=>rw[b.nil_inv];exact ⟨true,rfl,rfl⟩
  | cons e es =>
   refine cps fun zP zk=>?_
   obtain ⟨y,s,rfl,p',q'⟩:=b.cons_inv
   replace h1:(yS k d && eqOkL k ds)=true:=h1
   replace h2:(yS k e && eqOkL k es)=true:=h2
   rw[Bool.and_eq_true] at h1 h2
   obtain ⟨t,ht,hb⟩:=jI ih ds es r s h1.2 h2.2 q q'
   refine zk ?_
   refine ⟨deq d e && t,?_,?_⟩
   .unfold eqL
    rw[ih d e x y h1.1 h2.1 p p',ht]
    rfl
   .show (deq d e && t && decide (r.length+1=s.length+1))=(deq d e && deqL ds es)
    simp only[<- hb,Nat.succ_inj,Bool.and_assoc]
theorem isLst_of {m:Me}{l:Nat}{xs:List Wd}(h:m[l]?=some (.lst xs)):isLst m l=true:=by unfold isLst;rw[h]
theorem yW {m:Me}{l:Nat}{xs:List Wd}(h:m[l]?=some (.lst xs)):(if isLst m l && true then some false else none)=some false:=by rw[isLst_of h];rfl
theorem qB {R:Nat->Prop}{m:Me}:∀ (k:Nat) (d e:Dat) (x y:Wd),yS k d=true->yS k e=true->Rep R m d x->Rep R m e y->eqW m k x y=some (deq d e)
 | 0,d,e,x,y,h,_,_,_=>by rw[zeW] at h;cases h
 | k+1,d,e,x,y,h1,h2,a,b=>by
  have ih:=qB (R:=R) (m:=m) k
  cases d with
  | scr ns=>exact absurd (show false=true from h1) (by decide)
  | tup ds =>
   obtain ⟨xs,rfl,a1⟩:=rep_tup.mp a
   cases e with
   | scr ns=>exact absurd (show false=true from h2) (by decide)
   | tup es =>
    obtain ⟨ys,rfl,b1⟩:=rep_tup.mp b
    obtain ⟨q,h,e⟩:=jI ih ds es xs ys h1 h2 a1 b1
    show (eqL (eqW m k) xs ys).map (· && decide (xs.length=ys.length))=some (deqL ds es)
    rw[h,<- e];rfl
   | lst es =>
    obtain ⟨l,ys,rfl,_,hm,b⟩:=rep_lst.mp b
    exact yW hm
   | non=>rw[rep_non.mp b];rfl
   | bl _=>rw[rep_bl.mp b];rfl
   | int _=>rw[rep_int.mp b];rfl
   | str _=>rw[rep_str.mp b];rfl
  | lst ds =>
   have a0:=a
   obtain ⟨l,xs,rfl,_,hm,a⟩:=rep_lst.mp a
   cases e with
   | scr ns=>exact absurd (show false=true from h2) (by decide)
   | lst es =>
    have b0:=b
    obtain ⟨l',ys,rfl,_,hn,b⟩:=rep_lst.mp b
    show (if l=l' then (if isLst m l then some true else none) else match m[l]?,m[l']? with
     | some (.lst xs),some (.lst ys)=>if xs.length=ys.length then eqL (eqW m k) xs ys else some false
     | _,_=>none)=_
    by_cases q:l=l'
    .subst q
     rw[if_pos rfl,if_pos (isLst_of hm)]
     rw[Rep.det _ _ _ a0 b0] at *
     rw[gA (k+1) _ h2]
    .rw[if_neg q,hm,hn]
     obtain ⟨q,h,e⟩:=jI ih ds es xs ys h1 h2 a b
     show (if xs.length=ys.length then eqL (eqW m k) xs ys else some false)=some (deqL ds es)
     by_cases z:xs.length=ys.length
     .simp only[z,if_true,h,<- e];simp
     .simp only[z,if_false,<- e];simp
   | tup es=>obtain ⟨ys,rfl,b⟩:=rep_tup.mp b;exact yW hm
   | non=>rw[rep_non.mp b];exact yW hm
   | bl _=>rw[rep_bl.mp b];exact yW hm
   | int _=>rw[rep_int.mp b];exact yW hm
   | str _=>rw[rep_str.mp b];exact yW hm
  | non =>
   rw[rep_non.mp a]
   cases e with
   | scr ns=>exact absurd (show false=true from h2) (by decide)
   | lst es=>obtain ⟨l',ys,rfl,_,hn,b⟩:=rep_lst.mp b;exact yW hn
   | tup es=>obtain ⟨ys,rfl,b⟩:=rep_tup.mp b;rfl
   | non=>rw[rep_non.mp b];rfl
   | bl _=>rw[rep_bl.mp b];rfl
   | int _=>rw[rep_int.mp b];rfl
   | str _=>rw[rep_str.mp b];rfl
  | bl _ =>
   rw[rep_bl.mp a]
   cases e with
   | scr ns=>exact absurd (show false=true from h2) (by decide)
   | lst es=>obtain ⟨l',ys,rfl,_,hn,b⟩:=rep_lst.mp b;exact yW hn
   | tup es=>obtain ⟨ys,rfl,b⟩:=rep_tup.mp b;rfl
   | non=>rw[rep_non.mp b];rfl
   | bl _=>rw[rep_bl.mp b];rfl
   | int _=>rw[rep_int.mp b];rfl
   | str _=>rw[rep_str.mp b];rfl
  | int _ =>
   rw[rep_int.mp a]
   cases e with
   | scr ns=>exact absurd (show false=true from h2) (by decide)
   | lst es=>obtain ⟨l',ys,rfl,_,hn,b⟩:=rep_lst.mp b;exact yW hn
   | tup es=>obtain ⟨ys,rfl,b⟩:=rep_tup.mp b;rfl
   | non=>rw[rep_non.mp b];rfl
   | bl _=>rw[rep_bl.mp b];rfl
   | int _=>rw[rep_int.mp b];rfl
   | str _=>rw[rep_str.mp b];rfl
  | str _ =>
   rw[rep_str.mp a]
   cases e with
   | scr ns=>exact absurd (show false=true from h2) (by decide)
   | lst es=>obtain ⟨l',ys,rfl,_,hn,b⟩:=rep_lst.mp b;exact yW hn
   | tup es=>obtain ⟨ys,rfl,b⟩:=rep_tup.mp b;rfl
   | non=>rw[rep_non.mp b];rfl
   | bl _=>rw[rep_bl.mp b];rfl
   | int _=>rw[rep_int.mp b];rfl
   | str _=>rw[rep_str.mp b];rfl
theorem zaj {R:Nat->Prop}{m:Me}{d e:Dat}{x y:Wd}{q:Bool}(h:eqD d e=some q)(a:Rep R m d x)(b:Rep R m e y):eqW m yH x y=some q:=by
 unfold eqD at h
 split at h
 .next z=>simp only[Bool.and_eq_true] at z;cases h;exact qB yH d e x y z.1 z.2 a b
 .cases h
theorem zak {R:Nat->Prop}{m:Me}{d:Dat}{x:Wd}(h:yS yH d=true)(a:Rep R m d x):∀ (es:List Dat) (ys:List Wd),eqOkL yH es=true->RepL R m es ys->inL (eqW m yH) x ys=some (es.any fun e=>deq e d)
 | [],ys,_,b=>by rw[b.nil_inv];rfl
 | e::es,ys,z,b=>by
  obtain ⟨y,r,rfl,p,q⟩:=b.cons_inv
  replace z:(yS yH e && eqOkL yH es)=true:=z
  rw[Bool.and_eq_true] at z
  show (match eqW m yH y x with
   | some a=>(inL (eqW m yH) x r).map (a || ·)
   | none=>none)=_
  rw[qB yH e d y x z.1 h p a,zak h a es r z.2 q];rfl
theorem zd4 {R:Nat->Prop}{m:Me}{d:Dat}{x:Wd}{es:List Dat}{ys:List Wd}{q:Bool}(h:inD d es=some q)(a:Rep R m d x)(b:RepL R m es ys):inL (eqW m yH) x ys=some q:=by
 unfold inD at h
 split at h
 .next z=>simp only[Bool.and_eq_true] at z;cases h;exact zak z.1 a es ys z.2 b
 .cases h
theorem SimE.int {R:Nat->Prop}{m:Me}{i:Int}:SimE R m (.ok (.int i) m) (.ok (.int i)):=zh9 (rep_int.mpr rfl)
theorem SimE.bl {R:Nat->Prop}{m:Me}{i:Bool}:SimE R m (.ok (.bl i) m) (.ok (.bl i)):=zh9 (rep_bl.mpr rfl)
theorem zal {R:Nat->Prop}{m:Me}{d e:Dat}{x y:Wd}(op:Bo)(a:Rep R m d x)(b:Rep R m e y):SimE R m (bop op x y m) (yb op d e):=by
 cases d with
 | int i =>
  rw[rep_int.mp a]
  cases e with
  | int j =>
   rw[rep_int.mp b]
   cases op <;> simp only[bop,yb]
   .exact SimE.int
   .exact SimE.int
   .by_cases z:(yC i || yC j)=true
    .rw[if_pos z,if_pos z];exact SimE.int
    .rw[if_neg z,if_neg z];exact SimE.no
   .by_cases z:0 < j/\j < 1073741824
    .rw[if_pos z,if_pos z];exact SimE.int
    .rw[if_neg z,if_neg z];exact SimE.no
   .by_cases z:0 < j
    .rw[if_pos z,if_pos z];exact SimE.int
    .rw[if_neg z,if_neg z];exact SimE.no
   .by_cases z:0<=j/\j<=1000000/\yC i=true
    .rw[if_pos z,if_pos z];exact SimE.int
    .rw[if_neg z,if_neg z];exact SimE.no
  | _=>exact SimE.no
 | lst ds =>
  obtain ⟨l,xs,rfl,_,hm,a1⟩:=rep_lst.mp a
  cases e with
  | lst es =>
   obtain ⟨l',ys,rfl,_,hn,b1⟩:=rep_lst.mp b
   cases op <;> first | exact SimE.no | skip
   simp only[bop,yb,hm,hn]
   exact SimE.new (a1.app b1)
  | int k =>
   rw[rep_int.mp b]
   cases op <;> first | exact SimE.no | skip
   simp only[bop,yb,hm]
   by_cases z:-(lim:Int)<=k/\k<=(lim:Int)
   .rw[if_pos z,if_pos z];exact SimE.new (a1.rep _)
   .rw[if_neg z,if_neg z];exact SimE.no
  | _=>exact SimE.no
 | tup ds =>
  obtain ⟨xs,rfl,a1⟩:=rep_tup.mp a
  cases e with
  | tup es =>
   obtain ⟨ys,rfl,b1⟩:=rep_tup.mp b
   cases op <;> first | exact SimE.no | skip
   simp only[bop,yb]
   have h1:=a1.len
   have h2:=b1.len
   have h3:ds.isEmpty=xs.isEmpty:=by cases ds <;> cases xs <;> simp_all
   rw[h1,h2,h3]
   by_cases z:xs.length+ys.length<=lim/\xs.isEmpty=false
   .rw[if_pos z,if_pos z];exact zh9 (rep_tup.mpr ⟨_,rfl,a1.app b1⟩)
   .rw[if_neg z,if_neg z];exact SimE.no
  | _=>exact SimE.no
 | _=>exact SimE.no
theorem zd5 {R:Nat->Prop}{m:Me}{d e:Dat}{x y:Wd}(r:Int->Int->Bool)(a:Rep R m d x)(b:Rep R m e y):SimE R m (zab r x y m) (zg1 r d e):=by
 cases d with
 | int i =>
  rw[rep_int.mp a]
  cases e with
  | int j=>rw[rep_int.mp b];exact SimE.bl
  | _=>exact SimE.no
 | _=>exact SimE.no
theorem zam {R:Nat->Prop}{m:Me}{p:Option Bool}{q:Option Bool}(h:∀b,q=some b->p=some b):SimE R m (ofB p m) (za2 q):=by
 cases q with
 | none=>exact SimE.no
 | some b=>rw[h b rfl];exact SimE.bl
theorem zcB {R:Nat->Prop}{m:Me}{p:Option Bool}{q:Option Bool}(h:∀b,q=some b->p=some b):SimE R m (ofB (p.map (!·)) m) (za2 (q.map (!·))):=by
 cases q with
 | none=>exact SimE.no
 | some b=>rw[h b rfl];exact SimE.bl
theorem jJ {R:Nat->Prop}{m:Me}{d e:Dat}{x y:Wd}(op:Co)(a:Rep R m d x)(b:Rep R m e y):SimE R m (cop op x y m) (xh op d e):=by
 cases op with
 | eq=>exact zam fun q h=>zaj h a b
 | ne=>exact zcB fun q h=>zaj h a b
 | isin =>
  simp only[cop,xh]
  cases z:wc e with
  | none=>exact SimE.no
  | some es =>
   obtain ⟨ys,h,q⟩:=ve b z
   rw[h];exact zam fun t h=>zd4 h a q
 | lt=>exact zd5 _ a b
theorem zd6 {R:Nat->Prop}{m:Me}{d:Dat}{x:Wd}(t:Tg)(a:Rep R m d x):SimE R m (ofB (isT t x m) m) (.ok (.bl (isD t d))):=by
 have h:isT t x m=some (isD t d):=by
  cases d with
  | non=>rw[rep_non.mp a];cases t <;> rfl
  | bl _=>rw[rep_bl.mp a];cases t <;> rfl
  | int _=>rw[rep_int.mp a];cases t <;> rfl
  | str _=>rw[rep_str.mp a];cases t <;> rfl
  | scr _=>rw[rep_scr.mp a];cases t <;> rfl
  | tup _=>obtain ⟨xs,rfl,_⟩:=rep_tup.mp a;cases t <;> rfl
  | lst _=>obtain ⟨l,xs,rfl,_,hm,_⟩:=rep_lst.mp a;cases t <;> (show (match m[l]? with | some (.lst _)=>_ | some (.dct _)=>_ | none=>_)=_;rw[hm];rfl)
 rw[h];exact SimE.bl
theorem zan {R:Nat->Prop}{m:Me}:∀ {ds:List Dat}{xs:List Wd}{i:Int},RepL R m ds xs->jH ds=some i->vq xs=some i
 | [],xs,i,a,h=>by rw[a.nil_inv];exact h
 | d::ds,xs,i,a,h=>by
  obtain ⟨x,r,rfl,p,q⟩:=a.cons_inv
  cases d with
  | int j =>
   rw[rep_int.mp p]
   simp only[jH,Option.map_eq_some_iff] at h
   obtain ⟨k,hk,rfl⟩:=h
   simp only[vq,zan q hk,Option.map_some]
  | _=>simp[jH] at h
theorem zd7 {R:Nat->Prop}{m:Me}{ds:List Dat}{xs:List Wd}(b:Blf)(a:RepL R m ds xs):SimE R m (wP b xs m) (y8 b ds):=by
 have one:∀ {d:Dat}{xs:List Wd},RepL R m [d] xs->∃x,xs=[x]/\Rep R m d x:=by
  intro d xs h
  obtain ⟨x,r,rfl,p,q⟩:=h.cons_inv
  rw[q.nil_inv];exact ⟨x,rfl,p⟩
 cases b with
 | len =>
  cases ds with
  | nil=>exact SimE.no
  | cons d ds =>
   cases ds with
   | cons _ _=>exact SimE.no
   | nil =>
    obtain ⟨x,rfl,p⟩:=one a
    show SimE R m _ (match wc d with | some i=>.ok (.int i.length) | none=>.no)
    cases z:wc d with
    | none=>exact SimE.no
    | some i =>
     obtain ⟨ys,h,q⟩:=ve p z;simp only[wP,h,q.len];exact SimE.int
 | int =>
  cases ds with
  | nil=>exact SimE.no
  | cons d ds =>
   cases d with
   | int i =>
    cases ds with
    | cons _ _=>exact SimE.no
    | nil=>obtain ⟨x,rfl,p⟩:=one a;rw[rep_int.mp p];exact SimE.int
   | bl i =>
    cases ds with
    | cons _ _=>exact SimE.no
    | nil=>obtain ⟨x,rfl,p⟩:=one a;rw[rep_bl.mp p];exact SimE.int
   | _=>exact SimE.no
 | list =>
  cases ds with
  | nil=>exact SimE.no
  | cons d ds =>
   cases ds with
   | cons _ _=>exact SimE.no
   | nil =>
    obtain ⟨x,rfl,p⟩:=one a
    show SimE R m _ (match wc d with | some i=>yA i | none=>.no)
    cases z:wc d with
    | none=>exact SimE.no
    | some i =>
     obtain ⟨ys,h,q⟩:=ve p z;simp only[wP,h];exact SimE.new q
 | sum =>
  cases ds with
  | nil=>exact SimE.no
  | cons d ds =>
   cases ds with
   | cons _ _=>exact SimE.no
   | nil =>
    obtain ⟨x,rfl,p⟩:=one a
    show SimE R m _ (match (lsD d).bind jH with | some i=>.ok (.int i) | none=>.no)
    cases z:(lsD d).bind jH with
    | none=>exact SimE.no
    | some i =>
     obtain ⟨es,z1,z2⟩:=Option.bind_eq_some_iff.mp z
     obtain ⟨ys,h,q⟩:=zf2 p z1;simp only[wP,h,Option.bind_some,zan q z2];exact SimE.int
 | min2 =>
  cases ds with
  | nil=>exact SimE.no
  | cons d ds =>
   cases d with
   | int i =>
    cases ds with
    | nil=>exact SimE.no
    | cons e ds =>
     cases e with
     | int j =>
      cases ds with
      | cons _ _=>exact SimE.no
      | nil =>
       obtain ⟨x,r,rfl,p,q⟩:=a.cons_inv
       obtain ⟨y,rfl,q1⟩:=one q
       rw[rep_int.mp p,rep_int.mp q1];exact SimE.int
     | _=>exact SimE.no
   | _=>exact SimE.no
 | bool=>exact SimE.no
theorem zd8 {R:Nat->Prop}{m:Me}{d e:Dat}{x y:Wd}(a:Rep R m d x)(b:Rep R m e y):SimE R m (w6 x y m) (yt d e):=by
 cases e with
 | int i =>
  rw[rep_int.mp b]
  simp only[yt,w6]
  cases z:wc d with
  | none=>exact SimE.no
  | some ds =>
   obtain ⟨xs,h,q⟩:=ve a z
   simp only[h]
   cases z:(ix ds.length i).bind fun j=>ds[j]? with
   | none=>exact SimE.no
   | some v =>
    refine cps fun zP zk=>?_
    obtain ⟨j,h1,h2⟩:=Option.bind_eq_some_iff.mp z
    obtain ⟨x,h3,p⟩:=q.get h2
    refine zk ?_
    rw[q.len] at h1
    simp only[h1,Option.bind_some,h3]
    exact zh9 p
 | _=>exact SimE.no
theorem vf {R:Nat->Prop}{m:Me}(st:Int):∀ (n:Nat) (lo:Int),RepL R m (yu lo st n) (qp lo st n)
 | 0,lo=>.nil
 | n+1,lo=>by
  have h:yu lo st (n+1)=.int lo::yu (lo+st) st n:=by
   unfold yu
   rw[List.range_succ_eq_map,List.map_cons,List.map_map]
   congr 1
   .simp
   .apply List.map_congr_left
    intro i _
    show Dat.int _=Dat.int _
    congr 1
    rw[show ((Nat.succ i:Nat):Int)=(i:Int)+1 from rfl,Int.mul_add,Int.mul_one]
    lia
  rw[h]
  exact .cons (rep_int.mpr rfl) (vf st n _)
theorem zd9 {R:Nat->Prop}{m:Me}{d e f:Dat}{x y z:Wd}(a:Rep R m d x)(b:Rep R m e y)(c:Rep R m f z):SimE R m (zb6 x y z m) (kC d e f):=by
 cases d with
 | int i =>
  cases e with
  | int j =>
   cases f with
   | int k =>
    rw[rep_int.mp a,rep_int.mp b,rep_int.mp c]
    simp only[zb6,kC]
    split
    .exact zh9 (rep_tup.mpr ⟨_,rfl,vf k _ i⟩)
    .exact SimE.no
   | _=>exact SimE.no
  | _=>exact SimE.no
 | _=>exact SimE.no
theorem wA {c e:Wd->Me->Rz}{cd ed:Dat->Rd}{R:Nat->Prop}{m0:Me}
  (hc:∀ (R':Nat->Prop) m d x,(∀l,R l->R' l)->Le m0 m->Rep R' m d x->SimE R' m (c x m) (cd d)) (he:∀ (R':Nat->Prop) m d x,(∀l,R l->R' l)->Le m0 m->Rep R' m d x->SimE R' m (e x m) (ed d)) :
  ∀ (ds:List Dat) (xs:List Wd) (acc:List Dat) (acx:List Wd) (R':Nat->Prop) (m:Me),(∀l,R l->R' l)->Le m0 m->RepL R' m ds xs->RepL R' m acc acx->SimE R' m (xc c e xs acx m) (ye cd ed ds acc)
 | [],xs,acc,acx,R',m,hR,hm,a,b=>by
  rw[a.nil_inv]
  unfold xc ye
  exact SimE.new b
 | d::ds,xs,acc,acx,R',m,hR,hm,a,b=>by
  obtain ⟨x,r,rfl,p,q⟩:=a.cons_inv
  unfold xc ye
  refine (hc R' m d x hR hm p).bind fun t w m1 l1 k1=>?_
  cases t with
  | bl t =>
   rw[rep_bl.mp k1]
   cases t with
   | true =>
    refine (he _ m1 d x (fun l z=>.inl (hR l z)) (hm.trans l1) (p.up _ l1)).bind fun t w m2 l2 k2=>?_
    simp only[b.len]
    by_cases z:acx.length < lim
    .rw[if_pos z,if_pos z]
     exact wA hc he ds r _ _ _ m2 (fun l z=>.inl (.inl (hR l z))) ((hm.trans l1).trans l2) ((q.up _ l1).up _ l2) (((b.up _ l1).up _ l2).app (.cons k2 .nil))
    .rw[if_neg z,if_neg z];exact SimE.no
   | false=>exact wA hc he ds r _ _ _ m1 (fun l z=>.inl (hR l z)) (hm.trans l1) (q.up _ l1) (b.up _ l1)
  | _=>exact SimE.no
theorem vB {c e:Wd->Me->Rz}{cd ed:Dat->Rd}{R:Nat->Prop}{m0:Me}{l:Nat}{xs0:List Wd}(hl:m0[l]?=some (.lst xs0))
  (hc:∀ (R':Nat->Prop) m d x,(∀l,R l->R' l)->Le m0 m->Rep R' m d x->SimE R' m (c x m) (cd d)) (he:∀ (R':Nat->Prop) m d x,(∀l,R l->R' l)->Le m0 m->Rep R' m d x->SimE R' m (e x m) (ed d)) :
  ∀ (ds:List Dat) (i k:Nat) (acc:List Dat) (acx:List Wd) (R':Nat->Prop) (m:Me),(∀l,R l->R' l)->Le m0 m->RepL R' m ds (xs0.drop i)->i+ds.length=xs0.length->ds.length < k->RepL R' m acc acx->SimE R' m (xf c e l k i acx m) (ye cd ed ds acc)
 | [],i,0,acc,acx,R',m,hR,hm,a,hi,hk,b=>by simp at hk
 | d::ds,i,0,acc,acx,R',m,hR,hm,a,hi,hk,b=>by simp at hk
 | [],i,k+1,acc,acx,R',m,hR,hm,a,hi,hk,b=>by
  unfold xf ye zN
  rw[hm l _ hl]
  simp only
  rw[List.getElem?_eq_none (by simp at hi;lia)]
  exact SimE.new b
 | d::ds,i,k+1,acc,acx,R',m,hR,hm,a,hi,hk,b=>by
  obtain ⟨x,r,e0,p,q⟩:=a.cons_inv
  have hx:xs0[i]?=some x:=by
   have:(xs0.drop i)[0]?=some x:=by rw[e0];rfl
   simpa using this
  have hr:r=xs0.drop (i+1):=by
   have:(xs0.drop i).drop 1=r:=by rw[e0];rfl
   rw[<- this,List.drop_drop]
  rw[hr] at q
  have hi':i+1+ds.length=xs0.length:=by simp at hi;lia
  have hk':ds.length < k:=by simp at hk;lia
  unfold xf ye zN
  rw[hm l _ hl]
  simp only
  rw[hx]
  simp only
  refine (hc R' m d x hR hm p).bind fun t w m1 l1 k1=>?_
  cases t with
  | bl t =>
   rw[rep_bl.mp k1]
   cases t with
   | true =>
    refine (he _ m1 d x (fun l z=>.inl (hR l z)) (hm.trans l1) (p.up _ l1)).bind fun t w m2 l2 k2=>?_
    simp only[b.len]
    by_cases z:acx.length < lim
    .rw[if_pos z,if_pos z]
     exact vB hl hc he ds (i+1) k _ _ _ m2 (fun l z=>.inl (.inl (hR l z))) ((hm.trans l1).trans l2) ((q.up _ l1).up _ l2) hi' hk' (((b.up _ l1).up _ l2).app (.cons k2 .nil))
    .rw[if_neg z,if_neg z];exact SimE.no
   | false=>exact vB hl hc he ds (i+1) k _ _ _ m1 (fun l z=>.inl (hR l z)) (hm.trans l1) (q.up _ l1) hi' hk' (b.up _ l1)
  | _=>exact SimE.no
noncomputable def zcC (R:Nat->Prop)(m0:Me)(ps:List (Dat×Dat))(g:Nat->Me->Option (Option (Wd×Wd))):Prop :=
 ∀m,Le m0 m->(∀i p,ps[i]?=some p->∃a b,g i m=some (some (a,b))/\Rep R m p.1 a/\Rep R m p.2 b)/\∀i,ps.length<=i->g i m=some none
theorem jK {α β:Type}:∀ {xs:List α}{ys:List β}{i:Nat}{p:α×β},(xs.zip ys)[i]?=some p->xs[i]?=some p.1/\ys[i]?=some p.2
 | [],_,i,p,h=>by simp at h
 | _::_,[],i,p,h=>by simp at h
 | x::xs,y::ys,0,p,h=>by simp at h;subst h;exact ⟨rfl,rfl⟩
 | x::xs,y::ys,i+1,p,h=>by
  have h':(xs.zip ys)[i]?=some p:=by simpa using h
  simpa using jK h'
set_option tactic.hygienic true in
theorem ji {R:Nat->Prop}{m0:Me}{k:Kd}{x y:Dat}{a b:Wd}{ps:List (Dat×Dat)}(e:xA k x y=some ps)(hx:Rep R m0 x a)(hy:Rep R m0 y b):zcC R m0 ps (yo k a b)/\ps.length<=lim:=by
 unfold xA at e
 split at e
 .refine cps fun zP zk=>?_
  obtain ⟨l,xs,rfl,_,e1,k1⟩:=rep_lst.mp hx
  obtain ⟨l',ys,rfl,_,e2,k2⟩:=rep_lst.mp hy
  refine zk ?_
  split at e
  .next z =>
   cases e
   refine ⟨fun m h=>⟨fun i p q=>?_,fun i q=>?_⟩,by simp;lia⟩
   .refine cps fun zP zj=>?_
    obtain ⟨z1,z2⟩:=jK q
    obtain ⟨a,a1,a2⟩:=k1.get z1
    obtain ⟨b,b1,b2⟩:=k2.get z2
    refine zj ?_
    refine ⟨a,b,?_,Rep.frame (fun l o r z=>⟨r,h l o z⟩) _ _ a2,Rep.frame (fun l o r z=>⟨r,h l o z⟩) _ _ b2⟩
    simp only[yo,zN]
    rw[h _ _ e1,h _ _ e2]
    simp only[a1,b1]
   .simp only[yo,zN]
    rw[h _ _ e1,h _ _ e2]
    have l1:=k1.len
    have l2:=k2.len
    simp only[List.length_zip] at q
    simp only
    rcases Nat.le_total xs.length ys.length with z3 | z3
    .rw[List.getElem?_eq_none (by lia)]
    .rw[List.getElem?_eq_none (l:=ys) (by lia)]
     cases xs[i]? <;> rfl
  .cases e
 .rename_i xs0 st
  refine cps fun zP zi=>?_
  obtain ⟨l,xs,rfl,_,e1,k1⟩:=rep_lst.mp hx
  refine zi ?_
  rw[rep_int.mp hy]
  split at e
  .next z =>
   cases e
   have l1:=k1.len
   refine ⟨fun m h=>⟨fun i p q=>?_,fun i q=>?_⟩,by simp[yu];lia⟩
   .refine cps fun zP zh=>?_
    obtain ⟨z1,z2⟩:=jK q
    obtain ⟨a,a1,a2⟩:=k1.get z2
    refine zh ?_
    have hp:p.1=.int (st+(i:Int)):=by
     simp only[yu,List.getElem?_map] at z1
     cases hr:(List.range xs0.length)[i]? with
     | none=>rw[hr] at z1;cases z1
     | some j =>
      rw[hr] at z1
      have:=List.getElem?_eq_some_iff.mp hr
      obtain ⟨_,hj⟩:=this
      simp only[List.getElem_range] at hj
      subst hj
      simp only[Option.map_some,Option.some.injEq,Int.one_mul] at z1
      exact z1.symm
    refine ⟨.int (st+(i:Int)),a,?_,by rw[hp];exact rep_int.mpr rfl,Rep.frame (fun l o r z=>⟨r,h l o z⟩) _ _ a2⟩
    simp only[yo,zN]
    rw[h _ _ e1]
    simp only[a1,Option.map_some]
   .simp only[yo,zN]
    rw[h _ _ e1]
    simp only[yu,List.length_zip,List.length_map,List.length_range] at q
    simp only
    rw[List.getElem?_eq_none (by lia)]
    rfl
  .cases e
 .cases e
theorem vC {c e:Wd->Wd->Me->Rz}{cd ed:Dat×Dat->Rd}{R:Nat->Prop}{m0:Me}{ps:List (Dat×Dat)}{g:Nat->Me->Option (Option (Wd×Wd))}(hg:zcC R m0 ps g)
  (hc:∀ (R':Nat->Prop) m p a b,(∀l,R l->R' l)->Le m0 m->Rep R' m p.1 a->Rep R' m p.2 b->SimE R' m (c a b m) (cd p)) (he:∀ (R':Nat->Prop) m p a b,(∀l,R l->R' l)->Le m0 m->Rep R' m p.1 a->Rep R' m p.2 b->SimE R' m (e a b m) (ed p)) :
  ∀ (ds:List (Dat×Dat)) (i k:Nat) (acc:List Dat) (acx:List Wd) (R':Nat->Prop) (m:Me),(∀l,R l->R' l)->Le m0 m->ds=ps.drop i->i+ds.length=ps.length->ds.length < k->RepL R' m acc acx->SimE R' m (yP c e g k i acx m) (ye cd ed ds acc)
 | [],i,0,acc,acx,R',m,hR,hm,a,hi,hk,b=>by simp at hk
 | d::ds,i,0,acc,acx,R',m,hR,hm,a,hi,hk,b=>by simp at hk
 | [],i,k+1,acc,acx,R',m,hR,hm,a,hi,hk,b=>by
  unfold yP ye
  rw[(hg m hm).2 i (by simp at hi;lia)]
  exact SimE.new b
 | d::ds,i,k+1,acc,acx,R',m,hR,hm,a,hi,hk,b=>by
  have hx:ps[i]?=some d:=by
   have:(ps.drop i)[0]?=some d:=by rw[<- a];rfl
   simpa using this
  have hr:ds=ps.drop (i+1):=by
   have:(ps.drop i).drop 1=ds:=by rw[<- a];rfl
   rw[<- this,List.drop_drop]
  have hi':i+1+ds.length=ps.length:=by simp at hi;lia
  have hk':ds.length < k:=by simp at hk;lia
  refine cps fun zP zk=>?_
  obtain ⟨u,v,e0,p,q⟩:=(hg m hm).1 i d hx
  refine zk ?_
  have up:∀ {d:Dat}{w:Wd},Rep R m d w->Rep R' m d w:=fun z=>Rep.frame (fun l o r z=>⟨hR l r,z⟩) _ _ z
  unfold yP ye
  rw[e0]
  simp only
  refine (hc R' m d u v hR hm (up p) (up q)).bind fun t w m1 l1 k1=>?_
  cases t with
  | bl t =>
   rw[rep_bl.mp k1]
   cases t with
   | true =>
    refine (he _ m1 d u v (fun l z=>.inl (hR l z)) (hm.trans l1) ((up p).up _ l1) ((up q).up _ l1)).bind fun t w m2 l2 k2=>?_
    simp only[b.len]
    by_cases z:acx.length < lim
    .rw[if_pos z,if_pos z]
     exact vC hg hc he ds (i+1) k _ _ _ m2 (fun l z=>.inl (.inl (hR l z))) ((hm.trans l1).trans l2) hr hi' hk' (((b.up _ l1).up _ l2).app (.cons k2 .nil))
    .rw[if_neg z,if_neg z];exact SimE.no
   | false=>exact vC hg hc he ds (i+1) k _ _ _ m1 (fun l z=>.inl (hR l z)) (hm.trans l1) hr hi' hk' (b.up _ l1)
  | _=>exact SimE.no
noncomputable def zw:Ex->List Nat
 | .var i=>[i]
 | .lit _=>[]
 | .bin _ a b=>zw a++zw b
 | .neg a=>zw a
 | .not a=>zw a
 | .and a b=>zw a++zw b
 | .or a b=>zw a++zw b
 | .cmp _ a b=>zw a++zw b
 | .chain _ _ a b c=>zw a++(zw b++zw c)
 | .unit=>[]
 | .pair a b=>zw a++zw b
 | .call _ a=>zw a
 | .blt _ a=>zw a
 | .isi _ a=>zw a
 | .lst a=>zw a
 | .tup a=>zw a
 | .idx a b=>zw a++zw b
 | .meth _ a b=>zw a++zw b
 | .rng a b c=>zw a++(zw b++zw c)
 | .comp e i c=>zw i++(zw e++zw c)
 | .lrng a=>zw a
 | .compP _ e a b c=>zw a++(zw b++(zw e++zw c))
@[simp] theorem zg2 (i:Nat):zw (.var i)=[i]:=rfl
@[simp] theorem zg3 (w:Wd):zw (.lit w)=[]:=rfl
@[simp] theorem zg4 (a b:Ex):zw (.idx a b)=zw a++zw b:=rfl
@[simp] theorem zg5 (a:Ex):zw (.tup a)=zw a:=rfl
@[simp] theorem zgl (a b:Ex):zw (.pair a b)=zw a++zw b:=rfl
@[simp] theorem zgm  : zw (.unit)=[]:=rfl
@[simp] theorem zg6 (op:Bo)(a b:Ex):zw (.bin op a b)=zw a++zw b:=rfl
@[simp] theorem zgn (k:Nat)(a:Ex):zw (.call k a)=zw a:=rfl
@[simp] theorem zg7 (a:Ex):zw (.neg a)=zw a:=rfl
@[simp] theorem zg8 (a:Ex):zw (.lst a)=zw a:=rfl
noncomputable def EnvR (R:Nat->Prop)(m:Me)(vs:List Nat)(de:DEn)(env:En):Prop :=
 de.length=env.length/\∀i∈vs,∀d,de[i]?=some (some d)->∃w,env[i]?=some (some w)/\Rep R m d w
theorem EnvR.up {R R':Nat->Prop}{m m':Me}{vs:List Nat}{de:DEn}{env:En}(hR:∀l,R l->R' l)(h:Le m m')(q:EnvR R m vs de env):EnvR R' m' vs de env :=
 ⟨q.1,fun i hi d z=>by
  obtain ⟨w,a,b⟩:=q.2 i hi d z
  exact ⟨w,a,Rep.frame (fun l o r k=>⟨hR l r,h l o k⟩) d w b⟩⟩
theorem EnvR.sub {R:Nat->Prop}{m:Me}{vs us:List Nat}{de:DEn}{env:En}(h:∀i∈us,i∈vs)(q:EnvR R m vs de env):EnvR R m us de env :=
 ⟨q.1,fun i hi=>q.2 i (h i hi)⟩
theorem EnvR.left {R:Nat->Prop}{m:Me}{us vs:List Nat}{de:DEn}{env:En}(q:EnvR R m (us++vs) de env):EnvR R m us de env:=q.sub fun _ h=>List.mem_append_left _ h
theorem EnvR.right {R:Nat->Prop}{m:Me}{us vs:List Nat}{de:DEn}{env:En}(q:EnvR R m (us++vs) de env):EnvR R m vs de env:=q.sub fun _ h=>List.mem_append_right _ h
theorem EnvR.push {R:Nat->Prop}{m:Me}{vs:List Nat}{de:DEn}{env:En}{d:Dat}{w:Wd}(q:EnvR R m vs de env)(h:Rep R m d w):EnvR R m vs (de++[some d]) (env++[some w]):=by
 refine ⟨by simp[q.1],fun i hi e z=>?_⟩
 rw[List.getElem?_append] at z
 split at z
 .next k =>
  obtain ⟨w,a,b⟩:=q.2 i hi e z
  exact ⟨w,by rw[List.getElem?_append_left (by rw[<- q.1];exact k)];exact a,b⟩
 .next k =>
  rw[List.getElem?_append_right (by rw[<- q.1];lia),<- q.1]
  have:i - de.length=0:=by
   rcases Nat.eq_zero_or_pos (i - de.length) with z0 | z0
   .exact z0
   .rw[List.getElem?_eq_none (by simp;lia)] at z;cases z
  rw[this] at z ⊢
  cases z
  exact ⟨w,rfl,h⟩
noncomputable def CallR (cl:Nat->List Wd->Me->Rz)(cd:Nat->List Dat->Rd):Prop:=∀ (k:Nat) (ds:List Dat) (ws:List Wd) (R:Nat->Prop) (m:Me),RepL R m ds ws->SimE R m (cl k ws m) (cd k ds)
theorem yF {R:Nat->Prop}{m:Me}{d:Dat}{w:Wd}(h:Rep R m d w):RepL R m (zT d) (zv w):=by
 cases d with
 | tup ds=>obtain ⟨xs,rfl,q⟩:=rep_tup.mp h;exact q
 | non=>rw[rep_non.mp h];exact .nil
 | bl _=>rw[rep_bl.mp h];exact .nil
 | int _=>rw[rep_int.mp h];exact .nil
 | str _=>rw[rep_str.mp h];exact .nil
 | scr _=>rw[rep_scr.mp h];exact .nil
 | lst _=>obtain ⟨l,xs,rfl,_⟩:=rep_lst.mp h;exact .nil
theorem zq {cl:Nat->List Wd->Me->Rz}{cd:Nat->List Dat->Rd}(H:CallR cl cd):∀ (e:Ex) (R:Nat->Prop) (m:Me) (de:DEn) (env:En),EnvR R m (zw e) de env->SimE R m (evE cl e env m) (evD cd e de)
 | .var i,R,m,de,env,q=>by
  cases z:de[i]? with
  | none=>rw[yZ (.inl z)];exact SimE.no
  | some o =>
   cases o with
   | none=>rw[yZ (.inr z)];exact SimE.no
   | some d =>
    obtain ⟨w,a,b⟩:=q.2 i (List.mem_singleton.mpr rfl) d z
    rw[xk z,kD a];exact zh9 b
 | .lit w,R,m,de,env,q=>by
  cases w <;> first | exact SimE.no | (exact zh9 (by unfold Rep;rfl))
 | .bin op a b,R,m,de,env,q=>by
  refine (zq H a R m de env q.left).bind fun d w m1 l1 k1=>?_
  refine (zq H b _ m1 de env (q.right.up (fun _=>.inl) l1)).bind fun d2 w2 m2 l2 k2=>?_
  exact zal op (k1.up _ l2) k2
 | .neg a,R,m,de,env,q=>by
  refine (zq H a R m de env q).bind fun d w m1 l1 k1=>?_
  cases d with
  | int i=>rw[rep_int.mp k1];exact SimE.int
  | _=>exact SimE.no
 | .not a,R,m,de,env,q=>by
  refine (zq H a R m de env q).bind fun d w m1 l1 k1=>?_
  cases d with
  | bl i=>rw[rep_bl.mp k1];exact SimE.bl
  | _=>exact SimE.no
 | .and a b,R,m,de,env,q=>by
  refine (zq H a R m de env q.left).bind fun d w m1 l1 k1=>?_
  cases d with
  | bl i =>
   rw[rep_bl.mp k1]
   cases i with
   | true=>exact zq H b _ m1 de env (q.right.up (fun _=>.inl) l1)
   | false=>exact SimE.bl
  | _=>exact SimE.no
 | .or a b,R,m,de,env,q=>by
  refine (zq H a R m de env q.left).bind fun d w m1 l1 k1=>?_
  cases d with
  | bl i =>
   rw[rep_bl.mp k1]
   cases i with
   | false=>exact zq H b _ m1 de env (q.right.up (fun _=>.inl) l1)
   | true=>exact SimE.bl
  | _=>exact SimE.no
 | .cmp op a b,R,m,de,env,q=>by
  refine (zq H a R m de env q.left).bind fun d w m1 l1 k1=>?_
  refine (zq H b _ m1 de env (q.right.up (fun _=>.inl) l1)).bind fun d2 w2 m2 l2 k2=>?_
  exact jJ op (k1.up _ l2) k2
 | .chain o p a b c,R,m,de,env,q=>by
  refine (zq H a R m de env q.left).bind fun d w m1 l1 k1=>?_
  refine (zq H b _ m1 de env (q.right.left.up (fun _=>.inl) l1)).bind fun d2 w2 m2 l2 k2=>?_
  refine (jJ o (k1.up _ l2) k2).bind fun d3 w3 m3 l3 k3=>?_
  cases d3 with
  | bl i =>
   rw[rep_bl.mp k3]
   cases i with
   | false=>exact SimE.bl
   | true =>
    refine (zq H c _ m3 de env (q.right.right.up (fun _ h=>.inl (.inl (.inl h))) ((l1.trans l2).trans l3))).bind fun d4 w4 m4 l4 k4=>?_
    exact jJ p ((k2.up _ l3).up _ l4) k4
  | _=>exact SimE.no
 | .unit,R,m,de,env,q=>by
  exact zh9 (rep_tup.mpr ⟨[],rfl,.nil⟩)
 | .pair a b,R,m,de,env,q=>by
  refine (zq H a R m de env q.left).bind fun d w m1 l1 k1=>?_
  refine (zq H b _ m1 de env (q.right.up (fun _=>.inl) l1)).bind fun d2 w2 m2 l2 k2=>?_
  exact zh9 (rep_tup.mpr ⟨_,rfl,.cons (k1.up _ l2) (yF k2)⟩)
 | .call k a,R,m,de,env,q=>by
  refine (zq H a R m de env q).bind fun d w m1 l1 k1=>?_
  exact H k _ _ _ m1 (yF k1)
 | .blt b a,R,m,de,env,q=>by
  refine (zq H a R m de env q).bind fun d w m1 l1 k1=>?_
  exact zd7 b (yF k1)
 | .isi t a,R,m,de,env,q=>by
  refine (zq H a R m de env q).bind fun d w m1 l1 k1=>?_
  exact zd6 t k1
 | .lst a,R,m,de,env,q=>by
  refine (zq H a R m de env q).bind fun d w m1 l1 k1=>?_
  exact SimE.new (yF k1)
 | .tup a,R,m,de,env,q=>by
  refine (zq H a R m de env q).bind fun d w m1 l1 k1=>?_
  have k2:=yF k1
  simp only[k2.len]
  split
  .exact zh9 (rep_tup.mpr ⟨_,rfl,k2⟩)
  .exact SimE.no
 | .idx a b,R,m,de,env,q=>by
  refine (zq H a R m de env q.left).bind fun d w m1 l1 k1=>?_
  refine (zq H b _ m1 de env (q.right.up (fun _=>.inl) l1)).bind fun d2 w2 m2 l2 k2=>?_
  exact zd8 (k1.up _ l2) k2
 | .meth _ _ _,R,m,de,env,q=>by
  exact SimE.no
 | .rng a b c,R,m,de,env,q=>by
  refine (zq H a R m de env q.left).bind fun d w m1 l1 k1=>?_
  refine (zq H b _ m1 de env (q.right.left.up (fun _=>.inl) l1)).bind fun d2 w2 m2 l2 k2=>?_
  refine (zq H c _ m2 de env (q.right.right.up (fun _ h=>.inl (.inl h)) (l1.trans l2))).bind fun d3 w3 m3 l3 k3=>?_
  exact zd9 ((k1.up _ l2).up _ l3) (k2.up _ l3) k3
 | .lrng a,R,m,de,env,q=>by
  refine (zq H a R m de env q).bind fun d w m1 l1 k1=>?_
  cases d with
  | int j =>
   rw[rep_int.mp k1]
   simp only
   split
   .exact SimE.new (vf 1 _ 0)
   .exact SimE.no
  | _=>exact SimE.no
 | .comp elt it cond,R,m,de,env,q=>by
  refine (zq H it R m de env q.left).bind fun d w m1 l1 k1=>?_
  have hc:∀ (R':Nat->Prop) m' d x,(∀l,Rf R m.length l->R' l)->Le m1 m'->Rep R' m' d x->SimE R' m' (evE cl cond (env++[some x]) m') (evD cd cond (de++[some d])) :=
   fun R' m' d x hR l k=>zq H cond R' m' _ _ ((q.right.right.up (fun l h=>hR l (.inl h)) (l1.trans l)).push k)
  have he:∀ (R':Nat->Prop) m' d x,(∀l,Rf R m.length l->R' l)->Le m1 m'->Rep R' m' d x->SimE R' m' (evE cl elt (env++[some x]) m') (evD cd elt (de++[some d])) :=
   fun R' m' d x hR l k=>zq H elt R' m' _ _ ((q.right.left.up (fun l h=>hR l (.inl h)) (l1.trans l)).push k)
  cases d with
  | tup ds =>
   obtain ⟨xs,rfl,k2⟩:=rep_tup.mp k1
   exact wA hc he ds xs [] [] _ m1 (fun _ h=>h) (Le.refl _) k2 .nil
  | scr ns =>
   rw[rep_scr.mp k1]
   exact wA hc he (ns.map .int) (ns.map .int) [] [] _ m1 (fun _ h=>h) (Le.refl _) (zig ns) .nil
  | lst ds =>
   obtain ⟨l,xs,rfl,_,hm,k2⟩:=rep_lst.mp k1
   simp only[itD]
   by_cases z:ds.length<=lim
   .rw[if_pos z]
    have hl:=k2.len
    exact vB hm hc he ds 0 (lim+1) [] [] _ m1 (fun _ h=>h) (Le.refl _) (by simpa using k2) (by lia) (by lia) .nil
   .rw[if_neg z];exact SimE.no
  | _=>exact SimE.no
 | .compP k elt a b cond,R,m,de,env,q=>by
  refine (zq H a R m de env q.left).bind fun d w m1 l1 k1=>?_
  refine (zq H b _ m1 de env (q.right.left.up (fun l h=>.inl h) l1)).bind fun d' w' m2 l2 k2=>?_
  have hc:∀ (R':Nat->Prop) m' (p:Dat×Dat) x y,(∀l,Rf (Rf R m.length) m1.length l->R' l)->Le m2 m'->Rep R' m' p.1 x->Rep R' m' p.2 y->SimE R' m' (evE cl cond (env++[some x]++[some y]) m') (evD cd cond (de++[some p.1]++[some p.2])) :=
   fun R' m' d x y hR l k k'=>zq H cond R' m' _ _ (((q.right.right.right.up (fun l h=>hR l (.inl (.inl h))) ((l1.trans l2).trans l)).push k).push k')
  have he:∀ (R':Nat->Prop) m' (p:Dat×Dat) x y,(∀l,Rf (Rf R m.length) m1.length l->R' l)->Le m2 m'->Rep R' m' p.1 x->Rep R' m' p.2 y->SimE R' m' (evE cl elt (env++[some x]++[some y]) m') (evD cd elt (de++[some p.1]++[some p.2])) :=
   fun R' m' d x y hR l k k'=>zq H elt R' m' _ _ (((q.right.right.left.up (fun l h=>hR l (.inl (.inl h))) ((l1.trans l2).trans l)).push k).push k')
  cases e:xA k d d' with
  | none=>exact SimE.no
  | some ps =>
   obtain ⟨pr,hl⟩:=ji e (k1.up _ l2) k2
   exact vC pr hc he ps 0 (lim+1) [] [] _ m2 (fun _ h=>h) (Le.refl _) (by simp) (by simp) (by lia) .nil
mutual
noncomputable def Own (m:Me):Dat->Wd->List Nat->Prop
 | .non,w,A=>w=.non/\A=[]
 | .bl b,w,A=>w=.bl b/\A=[]
 | .int i,w,A=>w=.int i/\A=[]
 | .str s,w,A=>w=.str s/\A=[]
 | .scr ns,w,A=>w=.rol (ns.map Wd.int)/\A=[]
 | .tup ds,w,A=>∃xs,w=.tup xs/\OwnL m ds xs A
 | .lst ds,w,A=>∃l xs B,w=.ref l/\A=l::B/\m[l]?=some (.lst xs)/\OwnL m ds xs B
noncomputable def OwnL (m:Me):List Dat->List Wd->List Nat->Prop
 | [],xs,A=>xs=[]/\A=[]
 | d::ds,xs,A=>∃x r B C,xs=x::r/\A=B++C/\Own m d x B/\OwnL m ds r C
end
theorem own_lst {m:Me}{ds:List Dat}{w:Wd}{A:List Nat}:Own m (.lst ds) w A↔∃l xs B,w=.ref l/\A=l::B/\m[l]?=some (.lst xs)/\OwnL m ds xs B:=by
 constructor
 .intro h;unfold Own at h;exact h
 .intro h;unfold Own;exact h
theorem own_tup {m:Me}{ds:List Dat}{w:Wd}{A:List Nat}:Own m (.tup ds) w A↔∃xs,w=.tup xs/\OwnL m ds xs A:=by
 constructor
 .intro h;unfold Own at h;exact h
 .intro h;unfold Own;exact h
theorem OwnL.cons_inv {m:Me}{d:Dat}{ds:List Dat}{xs:List Wd}{A:List Nat}(h:OwnL m (d::ds) xs A):∃x r B C,xs=x::r/\A=B++C/\Own m d x B/\OwnL m ds r C:=by unfold OwnL at h;exact h
theorem OwnL.nil_inv {m:Me}{xs:List Wd}{A:List Nat}(h:OwnL m [] xs A):xs=[]/\A=[]:=by unfold OwnL at h;exact h
theorem OwnL.nil {m:Me}:OwnL m [] [] []:=by unfold OwnL;exact ⟨rfl,rfl⟩
theorem OwnL.cons {m:Me}{d:Dat}{ds:List Dat}{x:Wd}{xs:List Wd}{B C:List Nat}(a:Own m d x B)(b:OwnL m ds xs C):OwnL m (d::ds) (x::xs) (B++C):=by
 unfold OwnL;exact ⟨x,xs,B,C,rfl,rfl,a,b⟩
theorem OwnL.app {m:Me}:∀ {ds es:List Dat}{xs ys:List Wd}{A B:List Nat},OwnL m ds xs A->OwnL m es ys B->OwnL m (ds++es) (xs++ys) (A++B)
 | [],es,xs,ys,A,B,a,b=>by rw[a.nil_inv.1,a.nil_inv.2];exact b
 | d::ds,es,xs,ys,A,B,a,b=>by
  refine cps fun zP zk=>?_
  obtain ⟨x,r,P,Q,rfl,rfl,p,q⟩:=a.cons_inv
  refine zk ?_
  rw[List.append_assoc]
  exact .cons p (OwnL.app q b)
mutual
theorem Own.frame {m m':Me}:∀ (d:Dat) (w:Wd) (A:List Nat),(∀l∈A,∀o,m[l]?=some o->m'[l]?=some o)->Own m d w A->Own m' d w A
 | .non,w,A,h,q=>by unfold Own at q ⊢;exact q
 | .bl _,w,A,h,q=>by unfold Own at q ⊢;exact q
 | .int _,w,A,h,q=>by unfold Own at q ⊢;exact q
 | .str _,w,A,h,q=>by unfold Own at q ⊢;exact q
 | .scr _,w,A,h,q=>by unfold Own at q ⊢;exact q
 | .tup ds,w,A,h,q=>by
  obtain ⟨xs,rfl,q1⟩:=own_tup.mp q
  exact own_tup.mpr ⟨xs,rfl,OwnL.frame ds xs A h q1⟩
 | .lst ds,w,A,h,q=>by
  obtain ⟨l,xs,B,rfl,rfl,hm,q1⟩:=own_lst.mp q
  exact own_lst.mpr ⟨l,xs,B,rfl,rfl,h l List.mem_cons_self _ hm,OwnL.frame ds xs B (fun l hl=>h l (List.mem_cons_of_mem _ hl)) q1⟩
theorem OwnL.frame {m m':Me}:∀ (ds:List Dat) (xs:List Wd) (A:List Nat),(∀l∈A,∀o,m[l]?=some o->m'[l]?=some o)->OwnL m ds xs A->OwnL m' ds xs A
 | [],xs,A,h,q=>by rw[q.nil_inv.1,q.nil_inv.2];exact .nil
 | d::ds,xs,A,h,q=>by
  obtain ⟨x,r,B,C,rfl,rfl,a,b⟩:=q.cons_inv
  exact .cons (Own.frame d x B (fun l hl=>h l (List.mem_append_left _ hl)) a) (OwnL.frame ds r C (fun l hl=>h l (List.mem_append_right _ hl)) b)
end
mutual
theorem Own.rep {m:Me}{R:Nat->Prop}:∀ (d:Dat) (w:Wd) (A:List Nat),(∀l∈A,R l)->Own m d w A->Rep R m d w
 | .non,w,A,h,q=>by unfold Own at q;exact rep_non.mpr q.1
 | .bl _,w,A,h,q=>by unfold Own at q;exact rep_bl.mpr q.1
 | .int _,w,A,h,q=>by unfold Own at q;exact rep_int.mpr q.1
 | .str _,w,A,h,q=>by unfold Own at q;exact rep_str.mpr q.1
 | .scr _,w,A,h,q=>by unfold Own at q;exact rep_scr.mpr q.1
 | .tup ds,w,A,h,q=>by
  obtain ⟨xs,rfl,q1⟩:=own_tup.mp q
  exact rep_tup.mpr ⟨xs,rfl,OwnL.rep ds xs A h q1⟩
 | .lst ds,w,A,h,q=>by
  obtain ⟨l,xs,B,rfl,rfl,hm,q1⟩:=own_lst.mp q
  exact rep_lst.mpr ⟨l,xs,rfl,h l List.mem_cons_self,hm,OwnL.rep ds xs B (fun l hl=>h l (List.mem_cons_of_mem _ hl)) q1⟩
theorem OwnL.rep {m:Me}{R:Nat->Prop}:∀ (ds:List Dat) (xs:List Wd) (A:List Nat),(∀l∈A,R l)->OwnL m ds xs A->RepL R m ds xs
 | [],xs,A,h,q=>by rw[q.nil_inv.1];exact .nil
 | d::ds,xs,A,h,q=>by
  obtain ⟨x,r,B,C,rfl,rfl,a,b⟩:=q.cons_inv
  exact .cons (Own.rep d x B (fun l hl=>h l (List.mem_append_left _ hl)) a) (OwnL.rep ds r C (fun l hl=>h l (List.mem_append_right _ hl)) b)
end
mutual
theorem Own.lt {m:Me}:∀ (d:Dat) (w:Wd) (A:List Nat),Own m d w A->∀l∈A,l < m.length
 | .non,w,A,q=>by unfold Own at q;rw[q.2];simp
 | .bl _,w,A,q=>by unfold Own at q;rw[q.2];simp
 | .int _,w,A,q=>by unfold Own at q;rw[q.2];simp
 | .str _,w,A,q=>by unfold Own at q;rw[q.2];simp
 | .scr _,w,A,q=>by unfold Own at q;rw[q.2];simp
 | .tup ds,w,A,q=>by
  obtain ⟨xs,rfl,q1⟩:=own_tup.mp q
  exact OwnL.lt ds xs A q1
 | .lst ds,w,A,q=>by
  obtain ⟨l,xs,B,rfl,rfl,hm,q1⟩:=own_lst.mp q
  intro k hk
  rcases List.mem_cons.mp hk with rfl | hk
  .exact (List.getElem?_eq_some_iff.mp hm).1
  .exact OwnL.lt ds xs B q1 k hk
theorem OwnL.lt {m:Me}:∀ (ds:List Dat) (xs:List Wd) (A:List Nat),OwnL m ds xs A->∀l∈A,l < m.length
 | [],xs,A,q=>by rw[q.nil_inv.2];simp
 | d::ds,xs,A,q=>by
  obtain ⟨x,r,B,C,rfl,rfl,a,b⟩:=q.cons_inv
  intro k hk
  rcases List.mem_append.mp hk with hk | hk
  .exact Own.lt d x B a k hk
  .exact OwnL.lt ds r C b k hk
end
mutual
theorem Rep.flat {R:Nat->Prop}{m m':Me}:∀ (d:Dat) (w:Wd),flat d=true->Rep R m d w->Own m' d w []
 | .non,w,h,q=>by unfold Own;exact ⟨rep_non.mp q,rfl⟩
 | .bl _,w,h,q=>by unfold Own;exact ⟨rep_bl.mp q,rfl⟩
 | .int _,w,h,q=>by unfold Own;exact ⟨rep_int.mp q,rfl⟩
 | .str _,w,h,q=>by unfold Own;exact ⟨rep_str.mp q,rfl⟩
 | .scr _,w,h,q=>by unfold Own;exact ⟨rep_scr.mp q,rfl⟩
 | .tup ds,w,h,q=>by
  obtain ⟨xs,rfl,q1⟩:=rep_tup.mp q
  exact own_tup.mpr ⟨xs,rfl,RepL.flat ds xs (by unfold Vl.flat at h;exact h) q1⟩
 | .lst ds,w,h,q=>by unfold Vl.flat at h;cases h
theorem RepL.flat {R:Nat->Prop}{m m':Me}:∀ (ds:List Dat) (xs:List Wd),flatL ds=true->RepL R m ds xs->OwnL m' ds xs []
 | [],xs,h,q=>by rw[q.nil_inv];exact .nil
 | d::ds,xs,h,q=>by
  obtain ⟨x,r,rfl,a,b⟩:=q.cons_inv
  unfold flatL at h
  rw[Bool.and_eq_true] at h
  exact OwnL.cons (B:=[]) (C:=[]) (Rep.flat d x h.1 a) (RepL.flat ds r h.2 b)
end
noncomputable def RepO (R:Nat->Prop)(m:Me)(lv:Lv)(d:Dat)(w:Wd)(A:List Nat):Prop:=match lv with
 | .no=>Rep R m d w/\A=[]
 | .top=>∃ds l xs,d=.lst ds/\w=.ref l/\A=[l]/\m[l]?=some (.lst xs)/\RepL R m ds xs
 | .full=>Own m d w A
theorem RepO.rep {R R':Nat->Prop}{m:Me}{lv:Lv}{d:Dat}{w:Wd}{A:List Nat}(h:∀l,R l->R' l)(k:∀l∈A,R' l)(q:RepO R m lv d w A):Rep R' m d w:=by
 cases lv with
 | no=>exact Rep.frame (fun l o r z=>⟨h l r,z⟩) d w q.1
 | top =>
  obtain ⟨ds,l,xs,rfl,rfl,rfl,hm,a⟩:=q
  exact rep_lst.mpr ⟨l,xs,rfl,k l (by simp),hm,RepL.frame (fun l o r z=>⟨h l r,z⟩) ds xs a⟩
 | full=>exact Own.rep d w A k q
theorem RepO.frame {R R':Nat->Prop}{m m':Me}{lv:Lv}{d:Dat}{w:Wd}{A:List Nat}(h:∀ (l:Nat) o,R l->m[l]?=some o->R' l/\m'[l]?=some o)(k:∀l∈A,∀o,m[l]?=some o->m'[l]?=some o)(q:RepO R m lv d w A):RepO R' m' lv d w A:=by
 cases lv with
 | no=>exact ⟨Rep.frame h d w q.1,q.2⟩
 | top =>
  obtain ⟨ds,l,xs,rfl,rfl,rfl,hm,a⟩:=q
  exact ⟨ds,l,xs,rfl,rfl,rfl,k l (by simp) _ hm,RepL.frame h ds xs a⟩
 | full=>exact Own.frame d w A k q
theorem RepO.lt {R:Nat->Prop}{m:Me}{lv:Lv}{d:Dat}{w:Wd}{A:List Nat}(q:RepO R m lv d w A):∀l∈A,l < m.length:=by
 cases lv with
 | no=>rw[q.2];simp
 | top =>
  obtain ⟨ds,l,xs,rfl,rfl,rfl,hm,a⟩:=q
  intro k hk
  rw[List.mem_singleton.mp hk]
  exact (List.getElem?_eq_some_iff.mp hm).1
 | full=>exact Own.lt d w A q
noncomputable def lvE (lev:Nat->Lv):Ex->Dat->Lv
 | .comp elt _ _,d=>if flat d then .full else match d with
  | .lst ds=>if ds.all (fun x=>lvE lev elt x == .full) then .full else .top
  | _=>.no
 | .compP _ elt _ _ _,d=>if flat d then .full else match d with
  | .lst ds=>if ds.all (fun x=>lvE lev elt x == .full) then .full else .top
  | _=>.no
 | .lst a,d=>if flat d then .full else match d with
  | .lst ds=>if lvE lev a (.tup ds) == .full then .full else .top
  | _=>.no
 | .tup a,d=>lvE lev a d
 | .pair a b,d=>if flat d then .full else match d with
  | .tup (x::ds)=>if lvE lev a x == .full && lvE lev b (.tup ds) == .full then .full else .no
  | _=>.no
 | .call k _,d=>if flat d then .full else lev k
 | .blt .list _,d=>if flat d then .full else match d with
  | .lst ds=>if flatL ds then .full else .top
  | _=>.no
 | .lrng _,d=>if flat d then .full else match d with
  | .lst ds=>if flatL ds then .full else .top
  | _=>.no
 | .bin _ _ _,d=>if flat d then .full else match d with
  | .lst ds=>if flatL ds then .full else .top
  | _=>.no
 | _,d=>if flat d then .full else .no
@[simp] theorem wB (lev:Nat->Lv)(e i c:Ex)(d:Dat):lvE lev (.comp e i c) d=if flat d then .full else match d with
  | .lst ds=>if ds.all (fun x=>lvE lev e x == .full) then .full else .top
  | _=>.no:=rfl
@[simp] theorem xP (lev:Nat->Lv)(k:Kd)(e a b c:Ex)(d:Dat):lvE lev (.compP k e a b c) d=if flat d then .full else match d with
  | .lst ds=>if ds.all (fun x=>lvE lev e x == .full) then .full else .top
  | _=>.no:=rfl
@[simp] theorem zhN (lev:Nat->Lv)(a:Ex)(d:Dat):lvE lev (.lst a) d=if flat d then .full else match d with
  | .lst ds=>if lvE lev a (.tup ds) == .full then .full else .top
  | _=>.no:=rfl
@[simp] theorem zhO (lev:Nat->Lv)(a:Ex)(d:Dat):lvE lev (.tup a) d=lvE lev a d:=rfl
@[simp] theorem zao (lev:Nat->Lv)(a b:Ex)(d:Dat):lvE lev (.pair a b) d=if flat d then .full else match d with
  | .tup (x::ds)=>if lvE lev a x == .full && lvE lev b (.tup ds) == .full then .full else .no
  | _=>.no:=rfl
@[simp] theorem zhy (lev:Nat->Lv)(k:Nat)(a:Ex)(d:Dat):lvE lev (.call k a) d=if flat d then .full else lev k:=rfl
@[simp] theorem zhz (lev:Nat->Lv)(a:Ex)(d:Dat):lvE lev (.blt .list a) d=if flat d then .full else match d with
  | .lst ds=>if flatL ds then .full else .top
  | _=>.no:=rfl
@[simp] theorem zhA (lev:Nat->Lv)(a:Ex)(d:Dat):lvE lev (.lrng a) d=if flat d then .full else match d with
  | .lst ds=>if flatL ds then .full else .top
  | _=>.no:=rfl
@[simp] theorem zhP (lev:Nat->Lv)(op:Bo)(a b:Ex)(d:Dat):lvE lev (.bin op a b) d=if flat d then .full else match d with
  | .lst ds=>if flatL ds then .full else .top
  | _=>.no:=rfl
@[simp] theorem zhQ (lev:Nat->Lv)(i:Nat)(d:Dat):lvE lev (.var i) d=if flat d then .full else .no:=rfl
@[simp] theorem zhR (lev:Nat->Lv)(w:Wd)(d:Dat):lvE lev (.lit w) d=if flat d then .full else .no:=rfl
@[simp] theorem zhS (lev:Nat->Lv)(a b:Ex)(d:Dat):lvE lev (.idx a b) d=if flat d then .full else .no:=rfl
@[simp] theorem zhT (lev:Nat->Lv)(a:Ex)(d:Dat):lvE lev (.neg a) d=if flat d then .full else .no:=rfl
@[simp] theorem zhU (lev:Nat->Lv)(a:Ex)(d:Dat):lvE lev (.not a) d=if flat d then .full else .no:=rfl
@[simp] theorem zhV (lev:Nat->Lv)(a b:Ex)(d:Dat):lvE lev (.and a b) d=if flat d then .full else .no:=rfl
@[simp] theorem lv_or (lev:Nat->Lv)(a b:Ex)(d:Dat):lvE lev (.or a b) d=if flat d then .full else .no:=rfl
@[simp] theorem zhW (lev:Nat->Lv)(op:Co)(a b:Ex)(d:Dat):lvE lev (.cmp op a b) d=if flat d then .full else .no:=rfl
@[simp] theorem zhB (lev:Nat->Lv)(d:Dat):lvE lev (.unit) d=if flat d then .full else .no:=rfl
@[simp] theorem zhX (lev:Nat->Lv)(t:Tg)(a:Ex)(d:Dat):lvE lev (.isi t a) d=if flat d then .full else .no:=rfl
@[simp] theorem zhY (lev:Nat->Lv)(a b c:Ex)(d:Dat):lvE lev (.rng a b c) d=if flat d then .full else .no:=rfl
@[simp] theorem zhC (lev:Nat->Lv)(a:Ex)(d:Dat):lvE lev (.blt .len a) d=if flat d then .full else .no:=rfl
@[simp] theorem zhD (lev:Nat->Lv)(a:Ex)(d:Dat):lvE lev (.blt .int a) d=if flat d then .full else .no:=rfl
@[simp] theorem zg9 (lev:Nat->Lv)(a:Ex)(d:Dat):lvE lev (.blt .bool a) d=if flat d then .full else .no:=rfl
@[simp] theorem zhE (lev:Nat->Lv)(a:Ex)(d:Dat):lvE lev (.blt .sum a) d=if flat d then .full else .no:=rfl
@[simp] theorem zha (lev:Nat->Lv)(a:Ex)(d:Dat):lvE lev (.blt .min2 a) d=if flat d then .full else .no:=rfl
noncomputable def SimO (R:Nat->Prop)(m:Me)(lv:Dat->Lv)(r:Rz)(rd:Rd):Prop:=match rd with
 | .ok d=>∃w m' A,r=.ok w m'/\Le m m'/\RepO (fun l=>Rf R m.length l/\l∉A) m' (lv d) d w A/\A.Nodup/\∀a∈A,m.length<=a
 | .exc c d=>∃w m',r=.exc c w m'/\Le m m'/\Rep (Rf R m.length) m' d w
 | .no=>True
noncomputable def wl (lev:Nat->Lv)(k:Nat)(d:Dat):Lv:=if flat d then .full else lev k
noncomputable def CallO (lev:Nat->Lv)(cl:Nat->List Wd->Me->Rz)(cd:Nat->List Dat->Rd):Prop:=∀ (k:Nat) (ds:List Dat) (ws:List Wd) (R:Nat->Prop) (m:Me),RepL R m ds ws->SimO R m (wl lev k) (cl k ws m) (cd k ds)
theorem SimO.sim {R:Nat->Prop}{m:Me}{lv:Dat->Lv}{r:Rz}{rd:Rd}(h:SimO R m lv r rd):SimE R m r rd:=by
 cases rd with
 | ok d =>
  obtain ⟨w,m',A,rfl,l,q,_,hA⟩:=h
  exact ⟨w,m',rfl,l,q.rep (fun _ z=>z.1) (fun a z=>.inr (hA a z))⟩
 | exc c d=>exact h
 | no=>trivial
theorem CallO.r {lev:Nat->Lv}{cl:Nat->List Wd->Me->Rz}{cd:Nat->List Dat->Rd}(H:CallO lev cl cd):CallR cl cd:=fun k ds ws R m q=>(H k ds ws R m q).sim
theorem SimE.own {R:Nat->Prop}{m:Me}{r:Rz}{rd:Rd}{lv:Dat->Lv}(h:SimE R m r rd)(hl:∀d,lv d=if flat d then .full else .no):SimO R m lv r rd:=by
 cases rd with
 | ok d =>
  obtain ⟨w,m',rfl,l,q⟩:=h
  refine ⟨w,m',[],rfl,l,?_,List.nodup_nil,by simp⟩
  rw[hl]
  split
  .next z=>exact q.flat d w z
  .exact ⟨Rep.frame (fun l o r z=>⟨⟨r,by simp⟩,z⟩) d w q,rfl⟩
 | exc c d=>exact h
 | no=>trivial
theorem SimO.lift {R:Nat->Prop}{m m1:Me}{r:Rz}{rd:Rd}{lv:Dat->Lv}(h:Le m m1)(q:SimO (Rf R m.length) m1 lv r rd):SimO R m lv r rd:=by
 have hl:=h.len
 cases rd with
 | ok d =>
  obtain ⟨w,m',A,rfl,k,z,nd,hA⟩:=q
  exact ⟨w,m',A,rfl,h.trans k,z.frame (fun l o r z=>⟨⟨by rcases r.1 with (r | r) | r;exact .inl r;exact .inr r;exact .inr (by lia),r.2⟩,z⟩) (fun _ _ _ z=>z),nd,fun a ha=>by have:=hA a ha;lia⟩
 | exc c d=>exact SimE.lift (rd:=.exc c d) h q
 | no=>trivial
theorem SimE.bindO {R:Nat->Prop}{m:Me}{r:Rz}{rd:Rd}{f:Wd->Me->Rz}{g:Dat->Rd}{lv:Dat->Lv}(h:SimE R m r rd)
  (k:∀d w m',Le m m'->Rep (Rf R m.length) m' d w->SimO (Rf R m.length) m' lv (f w m') (g d)):SimO R m lv (r.bind f) (rd.bind g):=by
 cases rd with
 | ok d=>obtain ⟨w,m',rfl,l,z⟩:=h;exact SimO.lift l (k d w m' l z)
 | exc c d=>obtain ⟨w,m',rfl,l,z⟩:=h;exact ⟨w,m',rfl,l,z⟩
 | no=>trivial
theorem SimO.no {R:Nat->Prop}{m:Me}{r:Rz}{lv:Dat->Lv}:SimO R m lv r .no:=trivial
theorem SimO.new {R:Nat->Prop}{m:Me}{ds:List Dat}{xs:List Wd}{lv:Dat->Lv}(h:RepL R m ds xs)(hl:∀es,lv (.lst es)=if flatL es then .full else .top):SimO R m lv (alloc m xs) (yA ds):=by
 unfold yA alloc
 rw[h.len]
 by_cases z:xs.length<=lim
 .rw[if_pos z,if_pos z]
  refine ⟨_,_,[m.length],rfl,Le.app m _,?_,by simp,by simp⟩
  rw[hl]
  split
  .next f=>exact own_lst.mpr ⟨_,xs,[],rfl,rfl,by simp,h.flat ds xs f⟩
  .refine ⟨ds,_,xs,rfl,rfl,rfl,by simp,RepL.frame (fun l o r z=>⟨⟨.inl r,?_⟩,Le.app m _ l o z⟩) ds xs h⟩
   have:=(List.getElem?_eq_some_iff.mp z).1
   simp;lia
 .rw[if_neg z,if_neg z];exact SimO.no
theorem zia {R:Nat->Prop}{m0 m:Me}{ds:List Dat}{xs:List Wd}{A:List Nat}{lv:Dat->Lv}(hm:Le m0 m)(h:OwnL m ds xs A)(nd:A.Nodup)(hA:∀a∈A,m0.length<=a)(hl:lv (.lst ds)=.full)(hlen:ds.length=xs.length):SimO R m0 lv (alloc m xs) (yA ds):=by
 unfold yA alloc
 rw[hlen]
 have hlt:=h.lt
 by_cases z:xs.length<=lim
 .rw[if_pos z,if_pos z]
  refine ⟨_,_,m.length::A,rfl,hm.trans (Le.app m _),?_,List.nodup_cons.mpr ⟨fun q=>by have:=hlt _ q;lia,nd⟩,?_⟩
  .rw[hl]
   exact own_lst.mpr ⟨_,xs,A,rfl,rfl,by simp,OwnL.frame ds xs A (fun l hl o q=>Le.app m _ l o q) h⟩
  .intro a ha
   rcases List.mem_cons.mp ha with rfl | ha
   .exact hm.len
   .exact hA a ha
 .rw[if_neg z,if_neg z];exact SimO.no
theorem OwnL.len {m:Me}:∀ {ds:List Dat}{xs:List Wd}{A:List Nat},OwnL m ds xs A->ds.length=xs.length
 | [],xs,A,q=>by rw[q.nil_inv.1];rfl
 | d::ds,xs,A,q=>by
  obtain ⟨x,r,B,C,rfl,rfl,a,b⟩:=q.cons_inv
  simp[OwnL.len b]
noncomputable def CompO (R:Nat->Prop)(m:Me)(lv:Dat->Lv)(r:Rz)(rd:Rd):Prop:=match rd with
 | .ok d=>∃out m2 outx,d=.lst out/\out.length<=lim/\r=alloc m2 outx/\Le m m2/\RepL (Rf R m.length) m2 out outx/\((∀y∈out,lv y=.full)->∃A,OwnL m2 out outx A/\A.Nodup/\∀a∈A,m.length<=a)
 | .exc c d=>∃w m',r=.exc c w m'/\Le m m'/\Rep (Rf R m.length) m' d w
 | .no=>True
noncomputable def AccO (m0 m:Me)(lv:Dat->Lv)(acc:List Dat)(acx:List Wd):Prop:=(∀y∈acc,lv y=.full)->∃A,OwnL m acc acx A/\A.Nodup/\∀a∈A,m0.length<=a
theorem AccO.up {m0 m m':Me}{lv:Dat->Lv}{acc:List Dat}{acx:List Wd}(h:Le m m')(q:AccO m0 m lv acc acx):AccO m0 m' lv acc acx:=fun z=>by
 obtain ⟨A,a,b,c⟩:=q z
 exact ⟨A,OwnL.frame acc acx A (fun l _ o k=>h l o k) a,b,c⟩
theorem AccO.push {m0 m m':Me}{lv:Dat->Lv}{acc:List Dat}{acx:List Wd}{d:Dat}{w:Wd}{B:List Nat}(hm:Le m0 m)(h:Le m m')(q:AccO m0 m lv acc acx)(z:lv d=.full->Own m' d w B)(nd:B.Nodup)(hB:∀b∈B,m.length<=b):AccO m0 m' lv (acc++[d]) (acx++[w]):=fun f=>by
 obtain ⟨A,a,b,c⟩:=q fun y hy=>f y (List.mem_append_left _ hy)
 refine ⟨A++(B++[]),(OwnL.frame acc acx A (fun l _ o k=>h l o k) a).app (.cons (z (f d (by simp))) .nil),?_,?_⟩
 .rw[List.append_nil]
  refine List.nodup_append.mpr ⟨b,nd,fun x hx y hy e=>?_⟩
  have:=OwnL.lt acc acx A a x hx
  have:=hB y hy
  lia
 .intro x hx
  rw[List.append_nil] at hx
  rcases List.mem_append.mp hx with hx | hx
  .exact c x hx
  .have:=hB x hx
   have:=hm.len
   lia
theorem wC {c e:Wd->Me->Rz}{cd ed:Dat->Rd}{R:Nat->Prop}{m0:Me}{lv:Dat->Lv}
  (hc:∀ (R':Nat->Prop) m d x,(∀l,R l->R' l)->Le m0 m->Rep R' m d x->SimE R' m (c x m) (cd d)) (he:∀ (R':Nat->Prop) m d x,(∀l,R l->R' l)->Le m0 m->Rep R' m d x->SimO R' m lv (e x m) (ed d)) :
  ∀ (ds:List Dat) (xs:List Wd) (acc:List Dat) (acx:List Wd) (m:Me),Le m0 m->RepL (Rf R m0.length) m ds xs->RepL (Rf R m0.length) m acc acx->AccO m0 m lv acc acx->CompO R m0 lv (xc c e xs acx m) (ye cd ed ds acc)
 | [],xs,acc,acx,m,hm,a,b,f=>by
  rw[a.nil_inv]
  unfold xc ye yA
  by_cases z:acc.length<=lim
  .rw[if_pos z];exact ⟨acc,m,acx,rfl,z,rfl,hm,b,f⟩
  .rw[if_neg z];trivial
 | d::ds,xs,acc,acx,m,hm,a,b,f=>by
  obtain ⟨x,r,rfl,p,q⟩:=a.cons_inv
  have hl:=hm.len
  have sh:∀ {n:Nat}{m':Me}{d:Dat}{w:Wd},m0.length<=n->Rep (Rf (Rf R m0.length) n) m' d w->Rep (Rf R m0.length) m' d w:=fun hn k=>Rep.frame (fun l o r z=>⟨by rcases r with (r | r) | r;exact .inl r;exact .inr r;exact .inr (by lia),z⟩) _ _ k
  unfold xc ye
  have h1:=hc _ m d x (fun l z=>.inl z) hm p
  cases e1:cd d with
  | no=>trivial
  | exc k t=>rw[e1] at h1;obtain ⟨w,m',h1,l1,k1⟩:=h1;rw[h1];exact ⟨w,m',rfl,hm.trans l1,sh hl k1⟩
  | ok t =>
   rw[e1] at h1
   obtain ⟨w,m1,h1,l1,k1⟩:=h1
   rw[h1]
   simp only[Rz.bind,Rd.bind]
   cases t with
   | bl t =>
    rw[rep_bl.mp k1]
    have fr:∀ {ds:List Dat}{xs:List Wd},RepL (Rf R m0.length) m ds xs->RepL (Rf R m0.length) m1 ds xs:=fun k=>RepL.frame (fun l o r z=>⟨r,l1 l o z⟩) _ _ k
    cases t with
    | false=>exact wC hc he ds r acc acx m1 (hm.trans l1) (fr q) (fr b) (f.up l1)
    | true =>
     have h2:=he _ m1 d x (fun l z=>.inl z) (hm.trans l1) (Rep.frame (fun l o r z=>⟨r,l1 l o z⟩) _ _ p)
     have hl1:=(hm.trans l1).len
     simp only
     cases e2:ed d with
     | no=>trivial
     | exc k t=>rw[e2] at h2;obtain ⟨w,m',h2,l2,k2⟩:=h2;rw[h2];exact ⟨w,m',rfl,(hm.trans l1).trans l2,sh hl1 k2⟩
     | ok y =>
      rw[e2] at h2
      have h3:=h2.sim
      refine cps fun zP zk=>?_
      obtain ⟨w,m2,B,h2,l2,k2,nd,hB⟩:=h2
      obtain ⟨w',m2',h3,_,k3⟩:=h3
      refine zk ?_
      rw[h2] at h3 ⊢
      cases h3
      simp only[Rz.bind,Rd.bind,b.len]
      split
      .refine wC hc he ds r _ _ m2 ((hm.trans l1).trans l2) (RepL.frame (fun l o r z=>⟨r,l2 l o z⟩) _ _ (fr q)) ((RepL.frame (fun l o r z=>⟨r,l2 l o z⟩) _ _ (fr b)).app (.cons (sh hl1 k3) .nil)) ((f.up l1).push (hm.trans l1) l2 ?_ nd hB)
       intro z
       rw[z] at k2
       exact k2
      .trivial
   | _=>trivial
theorem vD {c e:Wd->Me->Rz}{cd ed:Dat->Rd}{R:Nat->Prop}{m0:Me}{lv:Dat->Lv}{l:Nat}{xs0:List Wd}(hx0:m0[l]?=some (.lst xs0))
  (hc:∀ (R':Nat->Prop) m d x,(∀l,R l->R' l)->Le m0 m->Rep R' m d x->SimE R' m (c x m) (cd d)) (he:∀ (R':Nat->Prop) m d x,(∀l,R l->R' l)->Le m0 m->Rep R' m d x->SimO R' m lv (e x m) (ed d)) :
  ∀ (ds:List Dat) (i k:Nat) (acc:List Dat) (acx:List Wd) (m:Me),Le m0 m->RepL (Rf R m0.length) m ds (xs0.drop i)->i+ds.length=xs0.length->ds.length < k->RepL (Rf R m0.length) m acc acx->AccO m0 m lv acc acx->CompO R m0 lv (xf c e l k i acx m) (ye cd ed ds acc)
 | [],i,0,acc,acx,m,hm,a,hi,hk,b,f=>by simp at hk
 | d::ds,i,0,acc,acx,m,hm,a,hi,hk,b,f=>by simp at hk
 | [],i,k+1,acc,acx,m,hm,a,hi,hk,b,f=>by
  unfold xf ye zN yA
  rw[hm l _ hx0]
  simp only
  rw[List.getElem?_eq_none (by simp at hi;lia)]
  by_cases z:acc.length<=lim
  .rw[if_pos z];exact ⟨acc,m,acx,rfl,z,rfl,hm,b,f⟩
  .rw[if_neg z];trivial
 | d::ds,i,k+1,acc,acx,m,hm,a,hi,hk,b,f=>by
  obtain ⟨x,r,e0,p,q⟩:=a.cons_inv
  have hx:xs0[i]?=some x:=by
   have:(xs0.drop i)[0]?=some x:=by rw[e0];rfl
   simpa using this
  have hr:r=xs0.drop (i+1):=by
   have:(xs0.drop i).drop 1=r:=by rw[e0];rfl
   rw[<- this,List.drop_drop]
  rw[hr] at q
  have hi':i+1+ds.length=xs0.length:=by simp at hi;lia
  have hk':ds.length < k:=by simp at hk;lia
  have hl:=hm.len
  have sh:∀ {n:Nat}{m':Me}{d:Dat}{w:Wd},m0.length<=n->Rep (Rf (Rf R m0.length) n) m' d w->Rep (Rf R m0.length) m' d w:=fun hn k=>Rep.frame (fun l o r z=>⟨by rcases r with (r | r) | r;exact .inl r;exact .inr r;exact .inr (by lia),z⟩) _ _ k
  unfold xf ye zN
  rw[hm l _ hx0]
  simp only
  rw[hx]
  simp only
  have h1:=hc _ m d x (fun l z=>.inl z) hm p
  cases e1:cd d with
  | no=>trivial
  | exc k t=>rw[e1] at h1;obtain ⟨w,m',h1,l1,k1⟩:=h1;rw[h1];exact ⟨w,m',rfl,hm.trans l1,sh hl k1⟩
  | ok t =>
   rw[e1] at h1
   obtain ⟨w,m1,h1,l1,k1⟩:=h1
   rw[h1]
   simp only[Rz.bind,Rd.bind]
   cases t with
   | bl t =>
    rw[rep_bl.mp k1]
    have fr:∀ {ds:List Dat}{xs:List Wd},RepL (Rf R m0.length) m ds xs->RepL (Rf R m0.length) m1 ds xs:=fun k=>RepL.frame (fun l o r z=>⟨r,l1 l o z⟩) _ _ k
    cases t with
    | false=>exact vD hx0 hc he ds (i+1) k acc acx m1 (hm.trans l1) (fr q) hi' hk' (fr b) (f.up l1)
    | true =>
     have h2:=he _ m1 d x (fun l z=>.inl z) (hm.trans l1) (Rep.frame (fun l o r z=>⟨r,l1 l o z⟩) _ _ p)
     have hl1:=(hm.trans l1).len
     simp only
     cases e2:ed d with
     | no=>trivial
     | exc k t=>rw[e2] at h2;obtain ⟨w,m',h2,l2,k2⟩:=h2;rw[h2];exact ⟨w,m',rfl,(hm.trans l1).trans l2,sh hl1 k2⟩
     | ok y =>
      rw[e2] at h2
      have h3:=h2.sim
      refine cps fun zP zk=>?_
      obtain ⟨w,m2,B,h2,l2,k2,nd,hB⟩:=h2
      obtain ⟨w',m2',h3,_,k3⟩:=h3
      refine zk ?_
      rw[h2] at h3 ⊢
      cases h3
      simp only[Rz.bind,Rd.bind,b.len]
      split
      .refine vD hx0 hc he ds (i+1) k _ _ m2 ((hm.trans l1).trans l2) (RepL.frame (fun l o r z=>⟨r,l2 l o z⟩) _ _ (fr q)) hi' hk' ((RepL.frame (fun l o r z=>⟨r,l2 l o z⟩) _ _ (fr b)).app (.cons (sh hl1 k3) .nil)) ((f.up l1).push (hm.trans l1) l2 ?_ nd hB)
       intro z
       rw[z] at k2
       exact k2
      .trivial
   | _=>trivial
theorem vE {c e:Wd->Wd->Me->Rz}{cd ed:Dat×Dat->Rd}{R:Nat->Prop}{m0:Me}{lv:Dat->Lv}{ps:List (Dat×Dat)}{g:Nat->Me->Option (Option (Wd×Wd))}(hg:zcC (Rf R m0.length) m0 ps g)
  (hc:∀ (R':Nat->Prop) m p a b,(∀l,R l->R' l)->Le m0 m->Rep R' m p.1 a->Rep R' m p.2 b->SimE R' m (c a b m) (cd p)) (he:∀ (R':Nat->Prop) m p a b,(∀l,R l->R' l)->Le m0 m->Rep R' m p.1 a->Rep R' m p.2 b->SimO R' m lv (e a b m) (ed p)) :
  ∀ (ds:List (Dat×Dat)) (i k:Nat) (acc:List Dat) (acx:List Wd) (m:Me),Le m0 m->ds=ps.drop i->i+ds.length=ps.length->ds.length < k->RepL (Rf R m0.length) m acc acx->AccO m0 m lv acc acx->CompO R m0 lv (yP c e g k i acx m) (ye cd ed ds acc)
 | [],i,0,acc,acx,m,hm,a,hi,hk,b,f=>by simp at hk
 | d::ds,i,0,acc,acx,m,hm,a,hi,hk,b,f=>by simp at hk
 | [],i,k+1,acc,acx,m,hm,a,hi,hk,b,f=>by
  unfold yP ye yA
  rw[(hg m hm).2 i (by simp at hi;lia)]
  simp only
  by_cases z:acc.length<=lim
  .rw[if_pos z];exact ⟨acc,m,acx,rfl,z,rfl,hm,b,f⟩
  .rw[if_neg z];trivial
 | d::ds,i,k+1,acc,acx,m,hm,a,hi,hk,b,f=>by
  have hx:ps[i]?=some d:=by
   have:(ps.drop i)[0]?=some d:=by rw[<- a];rfl
   simpa using this
  have hr:ds=ps.drop (i+1):=by
   have:(ps.drop i).drop 1=ds:=by rw[<- a];rfl
   rw[<- this,List.drop_drop]
  have hi':i+1+ds.length=ps.length:=by simp at hi;lia
  have hk':ds.length < k:=by simp at hk;lia
  obtain ⟨u,v,e0,p,q⟩:=(hg m hm).1 i d hx
  have hl:=hm.len
  have sh:∀ {n:Nat}{m':Me}{d:Dat}{w:Wd},m0.length<=n->Rep (Rf (Rf R m0.length) n) m' d w->Rep (Rf R m0.length) m' d w:=fun hn k=>Rep.frame (fun l o r z=>⟨by rcases r with (r | r) | r;exact .inl r;exact .inr r;exact .inr (by lia),z⟩) _ _ k
  unfold yP ye
  rw[e0]
  simp only
  have h1:=hc _ m d u v (fun l z=>.inl z) hm p q
  cases e1:cd d with
  | no=>trivial
  | exc k t=>rw[e1] at h1;obtain ⟨w,m',h1,l1,k1⟩:=h1;rw[h1];exact ⟨w,m',rfl,hm.trans l1,sh hl k1⟩
  | ok t =>
   rw[e1] at h1
   obtain ⟨w,m1,h1,l1,k1⟩:=h1
   rw[h1]
   simp only[Rz.bind,Rd.bind]
   cases t with
   | bl t =>
    rw[rep_bl.mp k1]
    have fr:∀ {ds:List Dat}{xs:List Wd},RepL (Rf R m0.length) m ds xs->RepL (Rf R m0.length) m1 ds xs:=fun k=>RepL.frame (fun l o r z=>⟨r,l1 l o z⟩) _ _ k
    cases t with
    | false=>exact vE hg hc he ds (i+1) k acc acx m1 (hm.trans l1) hr hi' hk' (fr b) (f.up l1)
    | true =>
     have h2:=he _ m1 d u v (fun l z=>.inl z) (hm.trans l1) (Rep.frame (fun l o r z=>⟨r,l1 l o z⟩) _ _ p) (Rep.frame (fun l o r z=>⟨r,l1 l o z⟩) _ _ q)
     have hl1:=(hm.trans l1).len
     simp only
     cases e2:ed d with
     | no=>trivial
     | exc k t=>rw[e2] at h2;obtain ⟨w,m',h2,l2,k2⟩:=h2;rw[h2];exact ⟨w,m',rfl,(hm.trans l1).trans l2,sh hl1 k2⟩
     | ok y =>
      rw[e2] at h2
      have h3:=h2.sim
      refine cps fun zP zk=>?_
      obtain ⟨w,m2,B,h2,l2,k2,nd,hB⟩:=h2
      obtain ⟨w',m2',h3,_,k3⟩:=h3
      refine zk ?_
      rw[h2] at h3 ⊢
      cases h3
      simp only[Rz.bind,Rd.bind,b.len]
      split
      .refine vE hg hc he ds (i+1) k _ _ m2 ((hm.trans l1).trans l2) hr hi' hk' ((RepL.frame (fun l o r z=>⟨r,l2 l o z⟩) _ _ (fr b)).app (.cons (sh hl1 k3) .nil)) ((f.up l1).push (hm.trans l1) l2 ?_ nd hB)
       intro z
       rw[z] at k2
       exact k2
      .trivial
   | _=>trivial
theorem CompO.sim {R:Nat->Prop}{m:Me}{lv lw:Dat->Lv}{r:Rz}{rd:Rd}(h:CompO R m lv r rd)(hl:∀ds,lw (.lst ds)=if ds.all (fun x=>lv x == .full) then .full else .top):SimO R m lw r rd:=by
 cases rd with
 | no=>trivial
 | exc c d=>exact h
 | ok d =>
  obtain ⟨out,m2,outx,rfl,hlen,rfl,l2,k2,own⟩:=h
  have e:=k2.len
  cases z:out.all (fun x=>lv x == .full) with
  | true =>
   obtain ⟨A,a,b,c⟩:=own fun y hy=>by simpa using List.all_eq_true.mp z y hy
   have:=zia (R:=R) (lv:=lw) l2 a b c (by rw[hl,z];rfl) e
   unfold yA at this
   rw[if_pos hlen] at this
   exact this
  | false =>
   unfold alloc
   rw[<- e,if_pos hlen]
   have ll:=l2.len
   refine ⟨_,_,[m2.length],rfl,l2.trans (Le.app m2 _),?_,by simp,by simp;exact ll⟩
   rw[hl,z]
   refine ⟨out,_,outx,rfl,rfl,rfl,by simp,RepL.frame (fun l o r z=>⟨⟨r,?_⟩,Le.app m2 _ l o z⟩) out outx k2⟩
   have:=(List.getElem?_eq_some_iff.mp z).1
   simp;lia
theorem yy (lev:Nat->Lv):∀ (e:Ex) (d:Dat),flat d=true->lvE lev e d=.full
 | .tup a,d,h=>yy lev a d h
 | .comp _ _ _,d,h=>if_pos h
 | .compP _ _ _ _ _,d,h=>if_pos h
 | .lst _,d,h=>if_pos h
 | .pair _ _,d,h=>if_pos h
 | .call _ _,d,h=>if_pos h
 | .blt b _,d,h=>by cases b <;> exact if_pos h
 | .lrng _,d,h=>if_pos h
 | .bin _ _ _,d,h=>if_pos h
 | .var _,d,h=>if_pos h
 | .lit _,d,h=>if_pos h
 | .neg _,d,h=>if_pos h
 | .not _,d,h=>if_pos h
 | .and _ _,d,h=>if_pos h
 | .or _ _,d,h=>if_pos h
 | .cmp _ _ _,d,h=>if_pos h
 | .chain _ _ _ _ _,d,h=>if_pos h
 | .unit,d,h=>if_pos h
 | .isi _ _,d,h=>if_pos h
 | .idx _ _,d,h=>if_pos h
 | .meth _ _ _,d,h=>if_pos h
 | .rng _ _ _,d,h=>if_pos h
theorem SimO.newTop {R:Nat->Prop}{m0 m:Me}{ds:List Dat}{xs:List Wd}{lv:Dat->Lv}(hm:Le m0 m)(h:RepL (Rf R m0.length) m ds xs)(hl:lv (.lst ds)=.top):SimO R m0 lv (alloc m xs) (yA ds):=by
 unfold yA alloc
 rw[h.len]
 by_cases z:xs.length<=lim
 .rw[if_pos z,if_pos z]
  refine ⟨_,_,[m.length],rfl,hm.trans (Le.app m _),?_,by simp,by simp;exact hm.len⟩
  rw[hl]
  refine ⟨ds,_,xs,rfl,rfl,rfl,by simp,RepL.frame (fun l o r z=>⟨⟨r,?_⟩,Le.app m _ l o z⟩) ds xs h⟩
  have:=(List.getElem?_eq_some_iff.mp z).1
  simp;lia
 .rw[if_neg z,if_neg z];exact SimO.no
theorem zea {R:Nat->Prop}{m:Me}{d e:Dat}{x y:Wd}{lv:Dat->Lv}(op:Bo)(hl:∀d,lv d=if flat d then .full else match d with | .lst ds=>if flatL ds then .full else .top | _=>.no)(a:Rep R m d x)(b:Rep R m e y):SimO R m lv (bop op x y m) (yb op d e):=by
 have hn:∀es,lv (.lst es)=if flatL es then .full else .top:=fun es=>by rw[hl];simp[flat]
 have hs:=zal op a b
 cases d with
 | lst ds =>
  obtain ⟨l,xs,rfl,_,hm,a1⟩:=rep_lst.mp a
  cases e with
  | lst es =>
   obtain ⟨l',ys,rfl,_,hk,b1⟩:=rep_lst.mp b
   cases op <;> first | exact SimO.no | skip
   simp only[bop,yb,hm,hk]
   exact SimO.new (a1.app b1) hn
  | int k =>
   rw[rep_int.mp b]
   cases op <;> first | exact SimO.no | skip
   simp only[bop,yb,hm]
   by_cases z:-(lim:Int)<=k/\k<=(lim:Int)
   .rw[if_pos z,if_pos z];exact SimO.new (a1.rep _) hn
   .rw[if_neg z,if_neg z];exact SimO.no
  | _=>exact SimO.no
 | int i =>
  cases e with
  | int j =>
   have hi:∀r:Rd,SimE R m (bop op x y m) r->(∀d,r=.ok d->flat d=true)->SimO R m lv (bop op x y m) r:=by
    intro r h f
    cases r with
    | ok d =>
     obtain ⟨w,m',h,l,k⟩:=h
     refine ⟨w,m',[],h,l,?_,List.nodup_nil,by simp⟩
     rw[hl,if_pos (f d rfl)]
     exact k.flat d w (f d rfl)
    | exc c d=>exact h
    | no=>trivial
   refine hi _ hs fun d h=>?_
   cases op <;> simp only[yb] at h
   .cases h;rfl
   .cases h;rfl
   all_goals (split at h <;> (cases h;try rfl))
  | _=>exact SimO.no
 | tup ds =>
  obtain ⟨xs,rfl,a1⟩:=rep_tup.mp a
  cases e with
  | tup es =>
   obtain ⟨ys,rfl,b1⟩:=rep_tup.mp b
   cases op <;> first | exact SimO.no | skip
   simp only[yb] at hs ⊢
   split at hs
   .next z =>
    rw[if_pos z]
    obtain ⟨w,m',h,l,k⟩:=hs
    refine ⟨w,m',[],h,l,?_,List.nodup_nil,by simp⟩
    rw[hl]
    split
    .next f=>exact k.flat _ w f
    .exact ⟨Rep.frame (fun l o r z=>⟨⟨r,by simp⟩,z⟩) _ w k,rfl⟩
   .next z=>rw[if_neg z];exact SimO.no
  | _=>exact SimO.no
 | _=>exact SimO.no
set_option tactic.hygienic true in
theorem xB {lev:Nat->Lv}{cl:Nat->List Wd->Me->Rz}{cd:Nat->List Dat->Rd}(H:CallO lev cl cd):∀ (e:Ex) (R:Nat->Prop) (m:Me) (de:DEn) (env:En),EnvR R m (zw e) de env->SimO R m (lvE lev e) (evE cl e env m) (evD cd e de)
 | .call k a,R,m,de,env,q=>by
  have e:lvE lev (.call k a)=wl lev k:=by funext d;simp[wl]
  rw[e]
  refine (zq H.r a R m de env q).bindO fun d w m1 l1 k1=>?_
  exact H k _ _ _ m1 (yF k1)
 | .bin op a b,R,m,de,env,q=>by
  refine (zq H.r a R m de env q.left).bindO fun d w m1 l1 k1=>?_
  refine (zq H.r b _ m1 de env (q.right.up (fun _=>.inl) l1)).bindO fun d2 w2 m2 l2 k2=>?_
  exact zea op (fun d=>by cases d <;> rfl) (k1.up _ l2) k2
 | .lrng a,R,m,de,env,q=>by
  refine (zq H.r a R m de env q).bindO fun d w m1 l1 k1=>?_
  cases d with
  | int j =>
   rw[rep_int.mp k1]
   simp only
   split
   .exact SimO.new (vf 1 _ 0) (fun es=>by simp[flat])
   .exact SimO.no
  | _=>exact SimO.no
 | .blt b a,R,m,de,env,q=>by
  by_cases hb:b=.list
  .subst hb
   refine (zq H.r a R m de env q).bindO fun d w m1 l1 k1=>?_
   have k2:=yF k1
   simp only[y8]
   split
   .next x hx =>
    rw[hx] at k2
    refine cps fun zP zk=>?_
    obtain ⟨x',r,e0,p,q0⟩:=k2.cons_inv
    refine zk ?_
    rw[e0,q0.nil_inv]
    split
    .next z=>obtain ⟨ys,h,q⟩:=ve p z;simp only[wP,h];exact SimO.new q (fun es=>by simp[flat])
    .exact SimO.no
   .exact SimO.no
  .exact (zq H.r (.blt b a) R m de env q).own fun d=>by cases b <;> first | exact absurd rfl hb | rfl
 | .lst a,R,m,de,env,q=>by
  have ih:=xB H a R m de env q
  show SimO R m _ ((evE cl a env m).bind fun x m1=>alloc m1 (zv x)) ((evD cd a de).bind fun x=>yA (zT x))
  cases ea:evD cd a de with
  | no=>trivial
  | exc c d=>rw[ea] at ih;obtain ⟨w,m',h,l,k⟩:=ih;rw[h];exact ⟨w,m',rfl,l,k⟩
  | ok d =>
   rw[ea] at ih
   have hs:=ih.sim
   refine cps fun zP zj=>?_
   obtain ⟨w,m1,A,h,l,k,nd,hA⟩:=ih
   obtain ⟨w',m1',h',_,ks⟩:=hs
   refine zj ?_
   rw[h] at h';cases h'
   rw[h]
   simp only[Rz.bind,Rd.bind]
   have ka:=yF ks
   cases z:lvE lev a (.tup (zT d)) == .full with
   | false=>exact SimO.newTop l ka (by simp[flat,z])
   | true =>
    have z':lvE lev a (.tup (zT d))=.full:=by simpa using z
    have own:∃B,OwnL m1 (zT d) (zv w) B/\B.Nodup/\∀b∈B,m.length<=b:=by
     cases d with
     | tup ds =>
      rw[show lvE lev a (.tup ds)=.full from z'] at k
      obtain ⟨xs,rfl,k1⟩:=own_tup.mp k
      exact ⟨A,k1,nd,hA⟩
     | _=>refine ⟨[],?_,List.nodup_nil,by simp⟩;exact ka.flat _ _ rfl
    refine cps fun zP zi=>?_
    obtain ⟨B,o,nb,hB⟩:=own
    refine zi ?_
    exact zia l o nb hB (by simp[flat,z]) ka.len
 | .tup a,R,m,de,env,q=>by
  have ih:=xB H a R m de env q
  have el:lvE lev (.tup a)=lvE lev a:=by funext d;simp
  rw[el]
  show SimO R m _ ((evE cl a env m).bind fun x m1=>if (zv x).length<=lim then .ok (.tup (zv x)) m1 else .no) ((evD cd a de).bind fun x=>if (zT x).length<=lim then .ok (.tup (zT x)) else .no)
  cases ea:evD cd a de with
  | no=>trivial
  | exc c d=>rw[ea] at ih;obtain ⟨w,m',h,l,k⟩:=ih;rw[h];exact ⟨w,m',rfl,l,k⟩
  | ok d =>
   rw[ea] at ih
   have hs:=ih.sim
   refine cps fun zP zh=>?_
   obtain ⟨w,m1,A,h,l,k,nd,hA⟩:=ih
   obtain ⟨w',m1',h',_,ks⟩:=hs
   refine zh ?_
   rw[h] at h';cases h'
   rw[h]
   have ka:=yF ks
   simp only[Rz.bind,Rd.bind,ka.len]
   split
   .cases d with
    | tup ds =>
     obtain ⟨xs,rfl,_⟩:=rep_tup.mp ks
     exact ⟨_,m1,A,rfl,l,k,nd,hA⟩
    | _ =>
     refine ⟨_,m1,[],rfl,l,?_,List.nodup_nil,by simp⟩
     rw[yy lev a _ (by rfl)]
     exact own_tup.mpr ⟨_,rfl,ka.flat _ _ rfl⟩
   .trivial
 | .pair a b,R,m,de,env,q=>by
  have iha:=xB H a R m de env q.left
  show SimO R m _ ((evE cl a env m).bind fun x m1=>(evE cl b env m1).bind fun y m2=>.ok (.tup (x::zv y)) m2) ((evD cd a de).bind fun x=>(evD cd b de).bind fun y=>.ok (.tup (x::zT y)))
  cases ea:evD cd a de with
  | no=>trivial
  | exc c d=>rw[ea] at iha;obtain ⟨w,m',h,l,k⟩:=iha;rw[h];exact ⟨w,m',rfl,l,k⟩
  | ok d =>
   rw[ea] at iha
   have hs:=iha.sim
   refine cps fun zP zg=>?_
   obtain ⟨w,m1,A,h,l,k,nd,hA⟩:=iha
   obtain ⟨w',m1',h',_,ks⟩:=hs
   refine zg ?_
   rw[h] at h';cases h'
   rw[h]
   simp only[Rz.bind,Rd.bind]
   have ihb:=xB H b _ m1 de env (q.right.up (R':=Rf R m.length) (fun _=>.inl) l)
   cases eb:evD cd b de with
   | no=>trivial
   | exc c d=>rw[eb] at ihb;obtain ⟨w,m',h,l2,k⟩:=ihb;rw[h];exact SimE.lift (rd:=.exc c d) l ⟨w,m',rfl,l2,k⟩
   | ok d2 =>
    rw[eb] at ihb
    have hs2:=ihb.sim
    refine cps fun zP zf=>?_
    obtain ⟨w2,m2,A2,h2,l2,k2,nd2,hA2⟩:=ihb
    obtain ⟨w2',m2',h2',_,ks2⟩:=hs2
    refine zf ?_
    rw[h2] at h2';cases h2'
    rw[h2]
    simp only
    have ka:=yF ks2
    have hl1:=l.len
    cases z:(lvE lev a d == .full && lvE lev b (.tup (zT d2)) == .full) with
    | false =>
     have:SimE R m (.ok (.tup (w::zv w2)) m2) (.ok (.tup (d::zT d2))) :=
      SimE.lift l (SimE.lift l2 (zh9 (rep_tup.mpr ⟨_,rfl,.cons (ks.up _ l2) ka⟩)))
     refine cps fun zP ze=>?_
     obtain ⟨w3,m3,h3,l3,k3⟩:=this
     refine ze ?_
     refine ⟨w3,m3,[],h3,l3,?_,List.nodup_nil,by simp⟩
     by_cases f:flat (.tup (d::zT d2))=true
     .rw[yy lev _ _ f];exact k3.flat _ w3 f
     .have:lvE lev (.pair a b) (.tup (d::zT d2))=.no:=by
       rw[zao,if_neg f];simp only[z];rfl
      rw[this]
      exact ⟨Rep.frame (fun l o r z=>⟨⟨r,by simp⟩,z⟩) _ w3 k3,rfl⟩
    | true =>
     rw[Bool.and_eq_true] at z
     have z1:lvE lev a d=.full:=by simpa using z.1
     have z2:lvE lev b (.tup (zT d2))=.full:=by simpa using z.2
     rw[z1] at k
     have own:∃B,OwnL m2 (zT d2) (zv w2) B/\B.Nodup/\∀b∈B,m1.length<=b:=by
      cases d2 with
      | tup ds =>
       rw[show lvE lev b (.tup ds)=.full from z2] at k2
       obtain ⟨xs,rfl,k3⟩:=own_tup.mp k2
       exact ⟨A2,k3,nd2,hA2⟩
      | _=>refine ⟨[],?_,List.nodup_nil,by simp⟩;exact ka.flat _ _ rfl
     refine cps fun zP zd=>?_
     obtain ⟨B,o,nb,hB⟩:=own
     refine zd ?_
     refine ⟨_,m2,A++B,rfl,l.trans l2,?_,?_,?_⟩
     .have:lvE lev (.pair a b) (.tup (d::zT d2))=.full:=by
       rw[zao];simp only[z1,z2];simp
      rw[this]
      exact own_tup.mpr ⟨_,rfl,.cons (Own.frame d w A (fun x _ o q=>l2 x o q) k) o⟩
     .refine List.nodup_append.mpr ⟨nd,nb,fun x hx y hy e=>?_⟩
      have:=Own.lt d w A k x hx
      have:=hB y hy
      lia
     .intro x hx
      rcases List.mem_append.mp hx with hx | hx
      .exact hA x hx
      .have:=hB x hx;lia
 | .comp elt it cond,R,m,de,env,q=>by
  refine (zq H.r it R m de env q.left).bindO fun d w m1 l1 k1=>?_
  have hc:∀ (R':Nat->Prop) m' d x,(∀l,Rf R m.length l->R' l)->Le m1 m'->Rep R' m' d x->SimE R' m' (evE cl cond (env++[some x]) m') (evD cd cond (de++[some d])) :=
   fun R' m' d x hR l k=>zq H.r cond R' m' _ _ ((q.right.right.up (fun l h=>hR l (.inl h)) (l1.trans l)).push k)
  have he:∀ (R':Nat->Prop) m' d x,(∀l,Rf R m.length l->R' l)->Le m1 m'->Rep R' m' d x->SimO R' m' (lvE lev elt) (evE cl elt (env++[some x]) m') (evD cd elt (de++[some d])) :=
   fun R' m' d x hR l k=>xB H elt R' m' _ _ ((q.right.left.up (fun l h=>hR l (.inl h)) (l1.trans l)).push k)
  have hl:∀ds,lvE lev (.comp elt it cond) (.lst ds)=if ds.all (fun x=>lvE lev elt x == .full) then .full else .top:=fun ds=>by simp[flat]
  have acc0:AccO m1 m1 (lvE lev elt) [] []:=fun _=>⟨[],.nil,List.nodup_nil,by simp⟩
  cases d with
  | tup ds =>
   obtain ⟨xs,rfl,k2⟩:=rep_tup.mp k1
   exact (wC hc he ds xs [] [] m1 (Le.refl _) (k2.up _ (Le.refl _)) .nil acc0).sim hl
  | scr ns =>
   rw[rep_scr.mp k1]
   exact (wC hc he (ns.map .int) (ns.map .int) [] [] m1 (Le.refl _) (zig ns) .nil acc0).sim hl
  | lst ds =>
   refine cps fun zP zc=>?_
   obtain ⟨l,xs,rfl,_,hm,k2⟩:=rep_lst.mp k1
   refine zc ?_
   simp only[itD]
   by_cases z:ds.length<=lim
   .rw[if_pos z]
    have hl':=k2.len
    exact (vD hm hc he ds 0 (lim+1) [] [] m1 (Le.refl _) (by simpa using (k2.up _ (Le.refl _))) (by lia) (by lia) .nil acc0).sim hl
   .rw[if_neg z];exact SimO.no
  | _=>exact SimO.no
 | .compP k elt a b cond,R,m,de,env,q=>by
  refine (zq H.r a R m de env q.left).bindO fun d w m1 l1 k1=>?_
  refine (zq H.r b _ m1 de env (q.right.left.up (fun l h=>.inl h) l1)).bindO fun d' w' m2 l2 k2=>?_
  have hc:∀ (R':Nat->Prop) m' (p:Dat×Dat) x y,(∀l,Rf (Rf R m.length) m1.length l->R' l)->Le m2 m'->Rep R' m' p.1 x->Rep R' m' p.2 y->SimE R' m' (evE cl cond (env++[some x]++[some y]) m') (evD cd cond (de++[some p.1]++[some p.2])) :=
   fun R' m' d x y hR l k k'=>zq H.r cond R' m' _ _ (((q.right.right.right.up (fun l h=>hR l (.inl (.inl h))) ((l1.trans l2).trans l)).push k).push k')
  have he:∀ (R':Nat->Prop) m' (p:Dat×Dat) x y,(∀l,Rf (Rf R m.length) m1.length l->R' l)->Le m2 m'->Rep R' m' p.1 x->Rep R' m' p.2 y->SimO R' m' (lvE lev elt) (evE cl elt (env++[some x]++[some y]) m') (evD cd elt (de++[some p.1]++[some p.2])) :=
   fun R' m' d x y hR l k k'=>xB H elt R' m' _ _ (((q.right.right.left.up (fun l h=>hR l (.inl (.inl h))) ((l1.trans l2).trans l)).push k).push k')
  have hl:∀ds,lvE lev (.compP k elt a b cond) (.lst ds)=if ds.all (fun x=>lvE lev elt x == .full) then .full else .top:=fun ds=>by simp[flat]
  have acc0:AccO m2 m2 (lvE lev elt) [] []:=fun _=>⟨[],.nil,List.nodup_nil,by simp⟩
  cases e:xA k d d' with
  | none=>exact SimO.no
  | some ps =>
   obtain ⟨pr,hln⟩:=ji e ((k1.up _ l2).up m2.length (Le.refl _)) (k2.up m2.length (Le.refl _))
   exact (vE pr hc he ps 0 (lim+1) [] [] m2 (Le.refl _) (by simp) (by simp) (by lia) .nil acc0).sim hl
 | .var i,R,m,de,env,q=>(zq H.r _ R m de env q).own fun d=>rfl
 | .lit w,R,m,de,env,q=>(zq H.r _ R m de env q).own fun d=>rfl
 | .neg a,R,m,de,env,q=>(zq H.r _ R m de env q).own fun d=>rfl
 | .not a,R,m,de,env,q=>(zq H.r _ R m de env q).own fun d=>rfl
 | .and a b,R,m,de,env,q=>(zq H.r _ R m de env q).own fun d=>rfl
 | .or a b,R,m,de,env,q=>(zq H.r _ R m de env q).own fun d=>rfl
 | .cmp op a b,R,m,de,env,q=>(zq H.r _ R m de env q).own fun d=>rfl
 | .chain o p a b c,R,m,de,env,q=>(zq H.r _ R m de env q).own fun d=>rfl
 | .unit,R,m,de,env,q=>(zq H.r _ R m de env q).own fun d=>rfl
 | .isi t a,R,m,de,env,q=>(zq H.r _ R m de env q).own fun d=>rfl
 | .idx a b,R,m,de,env,q=>(zq H.r _ R m de env q).own fun d=>rfl
 | .meth _ _ _,R,m,de,env,q=>(zq H.r _ R m de env q).own fun d=>rfl
 | .rng a b c,R,m,de,env,q=>(zq H.r _ R m de env q).own fun d=>rfl
set_option genInjectivity false in
inductive Rsd where
 | next (de:DEn) (lv:List Lv) | ret (d:Dat) (l:Lv) | brk (de:DEn) (lv:List Lv) | cont (de:DEn) (lv:List Lv) | exc (c:Nat) (d:Dat) | no
deriving Inhabited
noncomputable def Rd.bindS (r:Rd)(f:Dat->Rsd):Rsd:=match r with
 | .ok d=>f d
 | .exc c d=>.exc c d
 | .no=>.no
noncomputable def Rd.okS (r:Rd)(f:Dat->Rsd):Rsd:=match r with
 | .ok d=>f d
 | _=>.no
noncomputable def downs:List Nat->List Lv->List Lv
 | [],lv=>lv
 | i::vs,lv=>downs vs (lv.set i .no)
noncomputable def topD (de:DEn)(j:Nat)(lv:List Lv):List Lv:=match de[j]?,lv[j]? with
 | some (some (.lst _)),some .full=>lv.set j .top
 | some (some (.lst _)),some .top=>lv.set j .top
 | _,_=>lv.set j .no
noncomputable def y9 (e:Ex)(de:DEn)(lv:List Lv):List Lv:=match e with
 | .idx (.var j) b=>topD de j (downs (zw b) lv)
 | e=>downs (zw e) lv
mutual
noncomputable def dep:Dat->Nat
 | .lst xs=>depL xs+1
 | .tup xs=>depL xs+1
 | .non=>0
 | .bl _=>0
 | .int _=>0
 | .str _=>0
 | .scr _=>0
noncomputable def depL:List Dat->Nat
 | []=>0
 | d::ds=>max (dep d) (depL ds)
end
noncomputable def zX (lv:List Lv)(j:Nat):Bool:=match lv[j]? with
 | some .top=>true
 | some .full=>true
 | _=>false
noncomputable def y0 (lev:Nat->Lv)(e:Ex)(d:Dat)(j:Nat)(de:DEn)(lv:List Lv):Option (DEn×List Lv) :=
 if zX lv j=false then none
 else if lvE lev e d=.full then some (de,lv)
 else if j∈zw e then none
 else match e with
  | .var i=>if lv[i]?=some .full/\lv[j]?=some .full then some (de.set i none,lv) else some (de,(downs [i] lv).set j .top)
  | e=>some (de,(y9 e de lv).set j .top)
noncomputable def yJ {α:Type}(body:α->DEn->List Lv->Rsd):List α->DEn->List Lv->Rsd
 | [],de,lv=>.next de lv
 | x::xs,de,lv=>match body x de lv with
  | .next d1 l1=>yJ body xs d1 l1
  | .cont d1 l1=>yJ body xs d1 l1
  | .brk d1 l1=>.next d1 l1
  | r=>r
noncomputable def xY (c:DEn->Rd)(body:DEn->List Lv->Rsd):Nat->DEn->List Lv->Rsd
 | 0,_,_=>.no
 | k+1,de,lv=>match c de with
  | .ok (.bl true)=>match body de lv with
   | .next d1 l1=>xY c body k d1 l1
   | .cont d1 l1=>xY c body k d1 l1
   | .brk d1 l1=>.next d1 l1
   | r=>r
  | .ok (.bl false)=>.next de lv
  | .exc c d=>.exc c d
  | _=>.no
noncomputable def lvF (d:Dat):Lv:=if flat d then .full else .no
noncomputable def lvR (lev:Nat->Lv)(e:Ex)(d:Dat)(lv:List Lv):Lv:=if flat d then .full else match e with
 | .var i=>(lv[i]?).getD .no
 | .tup (.pair (.var a) (.pair (.var b) .unit))=>if a≠b/\lv[a]?=some .full/\lv[b]?=some .full then .full else .no
 | e=>lvE lev e d
noncomputable def xa (de:DEn)(j:Nat):Option (List Dat):=match de[j]? with
 | some (some (.lst ds))=>some ds
 | _=>none
noncomputable def wH (lev:Nat->Lv)(i:Nat)(e:Ex)(d:Dat)(de:DEn)(lv:List Lv):Rsd :=
 if lvE lev e d=.full then .next (de.set i (some d)) (lv.set i .full) else .next (de.set i (some d)) ((y9 e de lv).set i (lvE lev e d))
noncomputable def zhb (lev:Nat->Lv)(j:Nat)(k:Dat)(e:Ex)(d:Dat)(de:DEn)(lv:List Lv):Rsd:=match k,xa de j with
 | .int k,some ds=>match ix ds.length k with
  | some p=>match y0 lev e d j de lv with
   | some (de1,lv1)=>.next (de1.set j (some (.lst (ds.set p d)))) lv1
   | none=>if zX lv j && decide (dep d < dep (.lst ds)) && (flat d == false) then .next (de.set j (some (.lst (ds.set p d)))) ((downs (zw e) lv).set j .top) else .no
  | none=>.no
 | _,_=>.no
noncomputable def gB (j:Nat)(r:Dat)(de:DEn)(lv:List Lv)(f:List Dat->Option (List Dat)):Option DEn:=match r,xa de j with
 | .int k,some ds=>match (ix ds.length k).bind fun p=>(ds[p]?).bind fun d=>match d with
   | .lst es=>(f es).map fun es1=>ds.set p (.lst es1)
   | _=>none with
  | some ds1=>if lv[j]?=some .full then some (de.set j (some (.lst ds1))) else none
  | none=>none
 | _,_=>none
noncomputable def toS (o:Option DEn)(lv:List Lv):Rsd:=match o with
 | some de=>.next de lv
 | none=>.no
noncomputable def kE (k d:Dat)(es:List Dat):Option (List Dat):=match k with
 | .int k=>(ix es.length k).map fun p=>es.set p d
 | _=>none
noncomputable def yr (s t:Sm):Option (Nat×Nat×Ex×Ex×Ex×Ex×Ex):=match t with
 | _=>none
noncomputable def zhc (lev:Nat->Lv)(cl:Nat->List Dat->Rd)(e:Ex)(de:DEn)(lv:List Lv):Rsd:=match e with
  | .meth .append (.var j) (.pair e .unit)=>(evD cl e de).okS fun d=>match xa de j with
   | some ds=>if ds.length < lim then match y0 lev e d j de lv with
    | some (de1,lv1)=>.next (de1.set j (some (.lst (ds++[d])))) lv1
    | none=>.no
    else .no
   | none=>.no
  | .meth .reverse (.var j) .unit=>match xa de j with
   | some ds=>if zX lv j then .next (de.set j (some (.lst ds.reverse))) lv else .no
   | none=>.no
  | .meth .pop (.var j) .unit=>match xa de j with
   | some ds=>if zX lv j && decide (ds.length≠0) then .next (de.set j (some (.lst ds.dropLast))) lv else .no
   | none=>.no
  | .meth _ _ _=>.no
  | e=>(evD cl e de).bindS fun _=>.next de lv
noncomputable def exD (lev:Nat->Lv)(cl:Nat->List Dat->Rd):Sm->DEn->List Lv->Rsd
 | .skip,de,lv=>.next de lv
 | .seq a b,de,lv=>match yr a b with
  | some _=>.no
  | none=>match exD lev cl a de lv with
   | .next d1 l1=>exD lev cl b d1 l1
   | r=>r
 | .asg i e,de,lv=>(evD cl e de).bindS fun d=>wH lev i e d de lv
 | .asgS o k e,de,lv=>match o with
  | .var j=>(evD cl e de).okS fun d=>(evD cl k de).okS fun k=>zhb lev j k e d de lv
  | .idx (.var j) r=>(evD cl e de).okS fun d=>(evD cl r de).okS fun r=>(evD cl k de).okS fun k =>
    if lvE lev e d=.full then toS (gB j r de lv (kE k d)) lv
    else if j∈zw e then .no else toS (gB j r de lv (kE k d)) ((y9 e de lv).set j .top)
  | _=>.no
 | .ite c a b,de,lv=>(evD cl c de).bindS fun x=>match x with
  | .bl true=>exD lev cl a de lv
  | .bl false=>exD lev cl b de lv
  | _=>.no
 | .forv i it body,de,lv=>(evD cl it de).bindS fun d=>match itD d with
  | some xs=>yJ (fun x de lv=>exD lev cl body (de.set i (some x)) (lv.set i (lvF x))) xs de (if flat d then lv else y9 it de lv)
  | none=>.no
 | .fort i j it body,de,lv=>(evD cl it de).bindS fun d=>match itD d with
  | some xs=>yJ (fun x de lv=>match x with
    | .tup [a,b]=>exD lev cl body ((de.set i (some a)).set j (some b)) ((lv.set i (lvF a)).set j (lvF b))
    | _=>.no) xs de (if flat d then lv else y9 it de lv)
  | none=>.no
 | .while c body,de,lv=>xY (evD cl c) (exD lev cl body) 1000000 de lv
 | .ret e,de,lv=>(evD cl e de).bindS fun d=>.ret d (lvR lev e d lv)
 | .expr e,de,lv=>zhc lev cl e de lv
 | .never,_,_=>.no
theorem jL {lev:Nat->Lv}{cl:Nat->List Dat->Rd}{a b:Sm}{de:DEn}{lv:List Lv}:exD lev cl (.seq a b) de lv=match yr a b with
  | some _=>.no
  | none=>match exD lev cl a de lv with
   | .next d1 l1=>exD lev cl b d1 l1
   | r=>r:=rfl
noncomputable def xl (fn:Fn)(ds:List Dat):DEn:=ds.map some++List.replicate (fn.sz - ds.length) none
noncomputable def yT (fn:Fn)(ds:List Dat):List Lv:=ds.map lvF++List.replicate (fn.sz - ds.length) .full
noncomputable def za3:Lv->Lv->Bool
 | _,.no=>true
 | .full,.full=>true
 | .top,.top=>true
 | _,_=>false
noncomputable def zS (l:Lv):Rsd->Rd
 | .next _ _=>.ok .non
 | .ret d k=>if flat d || za3 k l then .ok d else .no
 | .exc c d=>.exc c d
 | _=>.no
noncomputable def zQ (lev:Nat->Lv)(cl:Nat->List Dat->Rd)(k:Nat)(fn:Fn)(ds:List Dat):Rd :=
 if ds.length=fn.ar then zS (lev k) (exD lev cl fn.body (xl fn ds) (yT fn ds)) else .no
noncomputable def kF (lev:Nat->Lv)(T:List Fn):Nat->Nat->List Dat->Rd
 | 0,_,_=>.no
 | d+1,k,ds=>match T[k]? with
  | some fn=>zQ lev (kF lev T d) k fn ds
  | none=>.no
noncomputable def yK (RR:Nat->Prop)(A:Nat->List Nat):Nat->Prop:=fun l=>RR l/\∀i,l∉A i
structure Inv (lo:Nat)(RR:Nat->Prop)(m:Me)(de:DEn)(lv:List Lv)(env:En)(A:Nat->List Nat):Prop where
 len:de.length=env.length
 lvl:lv.length=de.length
 rr:∀l,lo<=l->RR l
 lom:lo<=m.length
 slot:∀i d l,de[i]?=some (some d)->lv[i]?=some l->∃w,env[i]?=some (some w)/\RepO (yK RR A) m l d w (A i)
 nd:∀i,(A i).Nodup
 dj:∀i j a,a∈A i->a∈A j->i=j
 bd:∀i a,a∈A i->lo<=a/\a < m.length
noncomputable def Keep (A:Nat->List Nat)(m:Me)(A':Nat->List Nat)(m':Me):Prop:=(∀ (l:Nat) o,(∀i,l∉A i)->m[l]?=some o->(∀i,l∉A' i)/\m'[l]?=some o)/\m.length<=m'.length
theorem Keep.refl (A:Nat->List Nat)(m:Me):Keep A m A m:=⟨fun _ _ h k=>⟨h,k⟩,Nat.le_refl _⟩
theorem Keep.trans {A B C:Nat->List Nat}{m m1 m2:Me}(h:Keep A m B m1)(k:Keep B m1 C m2):Keep A m C m2 :=
 ⟨fun l o a b=>k.1 l o (h.1 l o a b).1 (h.1 l o a b).2,Nat.le_trans h.2 k.2⟩
theorem Keep.rep {A A':Nat->List Nat}{m m':Me}{RR:Nat->Prop}{d:Dat}{w:Wd}(h:Keep A m A' m')(q:Rep (yK RR A) m d w):Rep (yK RR A') m' d w :=
 Rep.frame (fun l o r z=>⟨⟨r.1,(h.1 l o r.2 z).1⟩,(h.1 l o r.2 z).2⟩) d w q
theorem Keep.repL {A A':Nat->List Nat}{m m':Me}{RR:Nat->Prop}{d:List Dat}{w:List Wd}(h:Keep A m A' m')(q:RepL (yK RR A) m d w):RepL (yK RR A') m' d w :=
 RepL.frame (fun l o r z=>⟨⟨r.1,(h.1 l o r.2 z).1⟩,(h.1 l o r.2 z).2⟩) d w q
theorem Inv.getlv {lo:Nat}{RR:Nat->Prop}{m:Me}{de:DEn}{lv:List Lv}{env:En}{A:Nat->List Nat}(I:Inv lo RR m de lv env A){i:Nat}{o:Option Dat}(h:de[i]?=some o):∃l,lv[i]?=some l:=by
 obtain ⟨hi,_⟩:=List.getElem?_eq_some_iff.mp h
 exact ⟨_,List.getElem?_eq_getElem (by rw[I.lvl];exact hi)⟩
theorem Inv.envR {lo:Nat}{RR:Nat->Prop}{m:Me}{de:DEn}{lv:List Lv}{env:En}{A:Nat->List Nat}(I:Inv lo RR m de lv env A)(vs:List Nat):EnvR RR m vs de env :=
 ⟨I.len,fun i _ d h=>by
  obtain ⟨l,hl⟩:=I.getlv h
  obtain ⟨w,a,b⟩:=I.slot i d l h hl
  exact ⟨w,a,b.rep (fun _ z=>z.1) (fun a ha=>I.rr a (I.bd i a ha).1)⟩⟩
theorem Inv.ext {lo:Nat}{RR:Nat->Prop}{m m':Me}{de:DEn}{lv:List Lv}{env:En}{A:Nat->List Nat}(I:Inv lo RR m de lv env A)(h:Le m m'):Inv lo RR m' de lv env A :=
 ⟨I.len,I.lvl,I.rr,Nat.le_trans I.lom h.len,fun i d l a b=>by
  obtain ⟨w,p,q⟩:=I.slot i d l a b
  exact ⟨w,p,q.frame (fun l o r z=>⟨r,h l o z⟩) (fun l _ o z=>h l o z)⟩,I.nd,I.dj,fun i a ha=>⟨(I.bd i a ha).1,Nat.lt_of_lt_of_le (I.bd i a ha).2 h.len⟩⟩
theorem vg {A:Nat->List Nat}{m m':Me}(h:Le m m'):Keep A m A m':=⟨fun l o a b=>⟨a,h l o b⟩,h.len⟩
noncomputable def upd (A:Nat->List Nat)(i:Nat)(B:List Nat):Nat->List Nat:=fun k=>if k=i then B else A k
theorem zp {A:Nat->List Nat}{i:Nat}{B:List Nat}:upd A i B i=B:=by simp[upd]
theorem zo {A:Nat->List Nat}{i k:Nat}{B:List Nat}(h:k≠i):upd A i B k=A k:=by simp[upd,h]
theorem Inv.store {lo:Nat}{RR:Nat->Prop}{m m':Me}{de:DEn}{lv:List Lv}{env:En}{A:Nat->List Nat}(I:Inv lo RR m de lv env A)(h:Le m m')(i:Nat){d:Dat}{l:Lv}{w:Wd}{B:List Nat}
  (q:RepO (fun l=>(yK RR A l\/m.length<=l)/\l∉B) m' l d w B) (nd:B.Nodup) (hB:∀b∈B,m.length<=b) :
  Inv lo RR m' (de.set i (some d)) (lv.set i l) (env.set i (some w)) (upd A i B)/\Keep A m (upd A i B) m':=by
 have hlt:=q.lt
 have fr:∀ (x:Nat) (o:Ob),(∀k,x∉A k)->m[x]?=some o->∀k,x∉upd A i B k:=by
  intro x o hx hm k
  by_cases e:k=i
  .subst e;rw[zp];intro hb
   have:=hB x hb
   have:=(List.getElem?_eq_some_iff.mp hm).1
   lia
  .rw[zo e];exact hx k
 refine ⟨⟨by simp[I.len],by simp[I.lvl],I.rr,Nat.le_trans I.lom h.len,?_,?_,?_,?_⟩,⟨fun x o hx hm=>⟨fr x o hx hm,h x o hm⟩,h.len⟩⟩
 .intro k e l' h1 h2
  by_cases z:k=i
  .rw[z] at h1 h2 ⊢
   rw[List.getElem?_set] at h1 h2
   rw[if_pos rfl] at h1 h2
   split at h1
   .split at h2
    .next q1 q2 =>
     cases h1;cases h2
     refine ⟨w,by rw[List.getElem?_set,if_pos rfl,if_pos (by rw[<- I.len];exact q1)],?_⟩
     rw[zp]
     refine q.frame (fun x o r hm=>⟨⟨?_,fun k=>?_⟩,hm⟩) (fun _ _ _ z=>z)
     .rcases r.1 with r1 | r1
      .exact r1.1
      .exact I.rr x (Nat.le_trans I.lom r1)
     .by_cases e:k=i
      .subst e;rw[zp];exact r.2
      .rw[zo e]
       rcases r.1 with r1 | r1
       .exact r1.2 k
       .intro ha;have:=(I.bd k x ha).2;lia
    .cases h2
   .cases h1
  .rw[List.getElem?_set_ne (Ne.symm z)] at h1 h2
   obtain ⟨w',a,b⟩:=I.slot k e l' h1 h2
   refine ⟨w',by rw[List.getElem?_set_ne (Ne.symm z)];exact a,?_⟩
   rw[zo z]
   exact b.frame (fun x o r hm=>⟨⟨r.1,fr x o r.2 hm⟩,h x o hm⟩) (fun x _ o hm=>h x o hm)
 .intro k
  by_cases e:k=i
  .subst e;rw[zp];exact nd
  .rw[zo e];exact I.nd k
 .intro k j a ha hb
  by_cases e:k=i
  .subst e;rw[zp] at ha
   by_cases f:j=k
   .exact f.symm
   .rw[zo f] at hb
    have:=hB a ha
    have:=(I.bd j a hb).2
    lia
  .rw[zo e] at ha
   by_cases f:j=i
   .subst f;rw[zp] at hb
    have:=hB a hb
    have:=(I.bd k a ha).2
    lia
   .rw[zo f] at hb;exact I.dj k j a ha hb
 .intro k a ha
  by_cases e:k=i
  .subst e;rw[zp] at ha
   exact ⟨Nat.le_trans I.lom (hB a ha),hlt a ha⟩
  .rw[zo e] at ha
   exact ⟨(I.bd k a ha).1,Nat.lt_of_lt_of_le (I.bd k a ha).2 h.len⟩
theorem Inv.weak {lo:Nat}{RR:Nat->Prop}{m:Me}{de:DEn}{lv:List Lv}{env:En}{A:Nat->List Nat}(I:Inv lo RR m de lv env A)(i:Nat){l:Lv}{B:List Nat}
  (hB:∀b∈B,b∈A i) (nd:B.Nodup) (q:∀d w,de[i]?=some (some d)->env[i]?=some (some w)->RepO (yK RR (upd A i B)) m l d w B) :
  Inv lo RR m de (lv.set i l) env (upd A i B)/\Keep A m (upd A i B) m:=by
 have fr:∀x,(∀k,x∉A k)->∀k,x∉upd A i B k:=by
  intro x hx k
  by_cases e:k=i
  .subst e;rw[zp];intro hb;exact hx _ (hB x hb)
  .rw[zo e];exact hx k
 have sub:∀k a,a∈upd A i B k->a∈A k:=by
  intro k a ha
  by_cases e:k=i
  .subst e;rw[zp] at ha;exact hB a ha
  .rw[zo e] at ha;exact ha
 refine ⟨⟨I.len,by simp[I.lvl],I.rr,I.lom,?_,?_,fun k j a ha hb=>I.dj k j a (sub k a ha) (sub j a hb),fun k a ha=>I.bd k a (sub k a ha)⟩,⟨fun x o hx hm=>⟨fr x hx,hm⟩,Nat.le_refl _⟩⟩
 .intro k e l' h1 h2
  by_cases z:k=i
  .subst z
   rw[List.getElem?_set,if_pos rfl] at h2
   split at h2
   .cases h2
    obtain ⟨l0,hl0⟩:=I.getlv h1
    obtain ⟨w,a,_⟩:=I.slot k e l0 h1 hl0
    refine ⟨w,a,?_⟩
    rw[zp]
    exact q e w h1 a
   .cases h2
  .rw[List.getElem?_set_ne (Ne.symm z)] at h2
   obtain ⟨w',a,b⟩:=I.slot k e l' h1 h2
   refine ⟨w',a,?_⟩
   rw[zo z]
   exact b.frame (fun x o r hm=>⟨⟨r.1,fr x r.2⟩,hm⟩) (fun x _ o hm=>hm)
 .intro k
  by_cases e:k=i
  .subst e;rw[zp];exact nd
  .rw[zo e];exact I.nd k
theorem Inv.down {lo:Nat}{RR:Nat->Prop}{m:Me}{de:DEn}{lv:List Lv}{env:En}{A:Nat->List Nat}(I:Inv lo RR m de lv env A)(i:Nat):
  Inv lo RR m de (lv.set i .no) env (upd A i [])/\Keep A m (upd A i []) m:=by
 refine I.weak i (by simp) List.nodup_nil fun d w h1 h2=>⟨?_,rfl⟩
 obtain ⟨l,hl⟩:=I.getlv h1
 obtain ⟨w',a,b⟩:=I.slot i d l h1 hl
 rw[h2] at a;cases a
 refine b.rep (fun x r=>⟨r.1,fun k=>?_⟩) (fun x hx=>⟨I.rr x (I.bd i x hx).1,fun k=>?_⟩)
 .by_cases e:k=i
  .subst e;rw[zp];simp
  .rw[zo e];exact r.2 k
 .by_cases e:k=i
  .subst e;rw[zp];simp
  .rw[zo e];intro ha;exact e (I.dj k i x ha hx)
theorem yU:∀ (vs:List Nat) (lv:List Lv) (k:Nat),(downs vs lv)[k]?=if k∈vs/\k < lv.length then some .no else lv[k]?
 | [],lv,k=>by simp[downs]
 | i::vs,lv,k=>by
  unfold downs
  rw[yU vs (lv.set i .no) k]
  rw[List.length_set,List.getElem?_set]
  by_cases a:k∈vs/\k < lv.length
  .rw[if_pos a,if_pos ⟨List.mem_cons_of_mem _ a.1,a.2⟩]
  .rw[if_neg a]
   by_cases e:i=k
   .subst e
    by_cases b:i < lv.length
    .simp[b]
    .simp[b]
   .rw[if_neg e]
    by_cases c:k∈vs
    .have:¬ k < lv.length:=fun z=>a ⟨c,z⟩
     rw[if_neg (fun z=>this z.2)]
    .rw[if_neg (fun z=>by rcases List.mem_cons.mp z.1 with z1 | z1;exact e z1.symm;exact c z1)]
theorem Inv.downs {lo:Nat}{RR:Nat->Prop}{m:Me}{de:DEn}{env:En}:∀ (vs:List Nat) {lv:List Lv}{A:Nat->List Nat},Inv lo RR m de lv env A ->
  ∃A',Inv lo RR m de (downs vs lv) env A'/\Keep A m A' m/\(∀i∈vs,A' i=[])/\(∀i,A' i=A i\/A' i=[])/\∀i,i∉vs->A' i=A i
 | [],lv,A,I=>⟨A,I,Keep.refl A m,by simp,fun i=>.inl rfl,fun _ _=>rfl⟩
 | j::vs,lv,A,I=>by
  obtain ⟨I1,K1⟩:=I.down j
  obtain ⟨A',I2,K2,h1,h2,h3⟩:=Inv.downs vs I1
  refine ⟨A',I2,K1.trans K2,fun i hi=>?_,fun i=>?_,fun i hi=>?_⟩
  .by_cases q:i∈vs
   .exact h1 i q
   .rw[h3 i q]
    rcases List.mem_cons.mp hi with rfl | hi
    .exact zp
    .exact absurd hi q
  .rcases h2 i with z | z
   .rw[z]
    by_cases e:i=j
    .subst e;right;exact zp
    .left;exact zo e
   .exact .inr z
  .have:i≠j:=fun e=>hi (by rw[e];simp)
   rw[h3 i (fun z=>hi (List.mem_cons_of_mem _ z)),zo this]
theorem Inv.top {lo:Nat}{RR:Nat->Prop}{m:Me}{de:DEn}{lv:List Lv}{env:En}{A:Nat->List Nat}(I:Inv lo RR m de lv env A)(j:Nat){ds:List Dat}(hd:de[j]?=some (some (.lst ds)))(hj:zX lv j=true):
  ∃l xs A',Inv lo RR m de (lv.set j .top) env A'/\Keep A m A' m/\A' j=[l]/\(∀i,i≠j->A' i=A i)/\env[j]?=some (some (.ref l))/\m[l]?=some (.lst xs)/\RepL (yK RR A') m ds xs/\l∈A j:=by
 unfold zX at hj
 refine cps fun zP zk=>?_
 obtain ⟨lj,hl⟩:=I.getlv hd
 obtain ⟨w,a,b⟩:=I.slot j _ lj hd hl
 rw[hl] at hj
 have key:∃l xs,w=.ref l/\l∈A j/\m[l]?=some (.lst xs)/\RepL (yK RR (upd A j [l])) m ds xs:=by
  cases lj with
  | no=>simp at hj
  | top =>
   obtain ⟨es,l,xs,e,rfl,hA,hm,r⟩:=b
   cases e
   refine ⟨l,xs,rfl,by rw[hA];simp,hm,RepL.frame (fun x o r z=>⟨⟨r.1,fun k=>?_⟩,z⟩) _ _ r⟩
   by_cases e:k=j
   .subst e;rw[zp,<- hA];exact r.2 k
   .rw[zo e];exact r.2 k
  | full =>
   obtain ⟨l,xs,B,rfl,hA,hm,r⟩:=own_lst.mp b
   refine ⟨l,xs,rfl,by rw[hA];simp,hm,OwnL.rep ds xs B (fun x hx=>⟨I.rr x (I.bd j x (by rw[hA];exact List.mem_cons_of_mem _ hx)).1,fun k=>?_⟩) r⟩
   have nd:=I.nd j
   rw[hA] at nd
   by_cases e:k=j
   .subst e;rw[zp];intro z;rw[List.mem_singleton.mp z] at hx;exact (List.nodup_cons.mp nd).1 hx
   .rw[zo e];intro z;exact e (I.dj k j x z (by rw[hA];exact List.mem_cons_of_mem _ hx))
 obtain ⟨l,xs,rfl,hA,hm,r⟩:=key
 obtain ⟨I',K⟩:=I.weak j (l:=.top) (B:=[l]) (by intro b hb;rw[List.mem_singleton.mp hb];exact hA) (by simp) fun d w h1 h2=>by
  rw[hd] at h1;cases h1
  rw[a] at h2;cases h2
  exact ⟨ds,l,xs,rfl,rfl,rfl,hm,r⟩
 refine zk ?_
 exact ⟨l,xs,_,I',K,zp,fun i hi=>zo hi,a,hm,r,hA⟩
theorem zO {m:Me}{l x:Nat}{o:Ob}(h:l≠x):(m.set l o)[x]?=m[x]?:=List.getElem?_set_ne h
theorem yL {m:Me}{l:Nat}{o p:Ob}(h:m[l]?=some p):(m.set l o)[l]?=some o:=by
 rw[List.getElem?_set,if_pos rfl,if_pos (List.getElem?_eq_some_iff.mp h).1]
theorem Inv.put {lo:Nat}{RR:Nat->Prop}{m m1:Me}{de:DEn}{lv:List Lv}{env:En}{A:Nat->List Nat}(I:Inv lo RR m de lv env A)(le:Le m m1){j l:Nat}{xs ys:List Wd}(hl:l∈A j)(A1:Nat->List Nat)
  (h3:∀k a,a∈A1 k->(∃k',a∈A k')\/m.length<=a) (nd1:∀k,(A1 k).Nodup) (dj1:∀i k a,a∈A1 i->a∈A1 k->i=k) (bd1:∀k a,a∈A1 k->lo<=a/\a < m1.length)
  {de1:DEn}{lv1:List Lv}(len1:de1.length=de.length) (lvl1:lv1.length=lv.length)
  (live:∀k d lk,k≠j->de1[k]?=some (some d)->lv1[k]?=some lk->de[k]?=some (some d)/\lv[k]?=some lk/\A1 k=A k)
  (sj:∀d lj,de1[j]?=some (some d)->lv1[j]?=some lj->∃w,env[j]?=some (some w)/\RepO (yK RR A1) (m1.set l (.lst ys)) lj d w (A1 j)) :
  Inv lo RR (m1.set l (.lst ys)) de1 lv1 env A1/\Keep A m A1 (m1.set l (.lst ys)):=by
 have fr:∀ (x:Nat) (o:Ob),(∀k,x∉A k)->m[x]?=some o->(∀k,x∉A1 k)/\(m1.set l (.lst ys))[x]?=some o:=by
  intro x o hx hm
  refine ⟨fun k ha=>?_,?_⟩
  .rcases h3 k x ha with ⟨k',z⟩ | z
   .exact hx k' z
   .have:=(List.getElem?_eq_some_iff.mp hm).1;lia
  .rw[zO (l:=l) (x:=x) (fun e=>hx j (by rw[<- e];exact hl))];exact le x o hm
 refine ⟨⟨len1.trans I.len,by rw[lvl1,I.lvl,len1],I.rr,by rw[List.length_set];exact Nat.le_trans I.lom le.len,?_,nd1,dj1,fun k a ha=>by rw[List.length_set];exact bd1 k a ha⟩,⟨fun x o hx hm=>fr x o hx hm,by rw[List.length_set];exact le.len⟩⟩
 intro k d lk h1 h2
 by_cases e:k=j
 .subst e;exact sj d lk h1 h2
 .obtain ⟨a,b,c⟩:=live k d lk e h1 h2
  obtain ⟨w,p,q⟩:=I.slot k d lk a b
  refine ⟨w,p,?_⟩
  rw[c]
  refine q.frame (fun x o r hm=>⟨⟨r.1,(fr x o r.2 hm).1⟩,(fr x o r.2 hm).2⟩) (fun x hx o hm=>?_)
  rw[zO (l:=l) (x:=x) (fun z=>e (I.dj k j x hx (by rw[<- z];exact hl)))]
  exact le x o hm
noncomputable def zhd (m m1:Me)(ds:List Dat)(xs:List Wd)(ds':List Dat)(ys:List Wd):Prop :=
 ∀B,B.Nodup->OwnL m ds xs B->∃B',OwnL m1 ds' ys B'/\B'.Nodup/\∀b∈B',b∈B\/m.length<=b
noncomputable def ChgT (RR:Nat->Prop)(A:Nat->List Nat)(m m1:Me)(ds:List Dat)(xs:List Wd)(ds':List Dat)(ys:List Wd):Prop :=
 RepL (yK RR A) m ds xs->RepL (fun x=>yK RR A x\/m.length<=x) m1 ds' ys
noncomputable def Chg (RR:Nat->Prop)(A:Nat->List Nat)(m m1:Me)(ds:List Dat)(xs:List Wd)(ds':List Dat)(ys:List Wd):Prop :=
 (∀B,B.Nodup->OwnL m ds xs B->∃B',OwnL m1 ds' ys B'/\B'.Nodup/\∀b∈B',b∈B\/m.length<=b)/\(RepL (yK RR A) m ds xs->RepL (fun x=>yK RR A x\/m.length<=x) m1 ds' ys)
theorem Inv.mut {lo:Nat}{RR:Nat->Prop}{m:Me}{de:DEn}{lv:List Lv}{env:En}{A:Nat->List Nat}(I:Inv lo RR m de lv env A){j:Nat}{ds:List Dat}(hd:de[j]?=some (some (.lst ds)))(hj:zX lv j=true):
  ∃l xs,env[j]?=some (some (.ref l))/\m[l]?=some (.lst xs)/\RepL RR m ds xs/\∀ (m1:Me) (ds':List Dat) (ys:List Wd),Le m m1->(lv[j]?=some .full->zhd m m1 ds xs ds' ys)->(lv[j]?=some .top->ChgT RR A m m1 ds xs ds' ys) ->
   ∃A1,Inv lo RR (m1.set l (.lst ys)) (de.set j (some (.lst ds'))) lv env A1/\Keep A m A1 (m1.set l (.lst ys)):=by
 unfold zX at hj
 obtain ⟨lj,hl⟩:=I.getlv hd
 obtain ⟨w,a,b⟩:=I.slot j _ lj hd hl
 rw[hl] at hj
 have hjl:j < de.length:=(List.getElem?_eq_some_iff.mp hd).1
 have live:∀ (A1:Nat->List Nat),(∀k,k≠j->A1 k=A k)->∀ (ds':List Dat) k d lk,k≠j->(de.set j (some (.lst ds')))[k]?=some (some d)->lv[k]?=some lk->de[k]?=some (some d)/\lv[k]?=some lk/\A1 k=A k:=by
  intro A1 h ds' k d lk e h1 h2
  rw[List.getElem?_set_ne (Ne.symm e)] at h1
  exact ⟨h1,h2,h k e⟩
 cases lj with
 | no=>simp at hj
 | top =>
  refine cps fun zP zk=>?_
  obtain ⟨es,l,xs,e,rfl,hA,hm,r⟩:=b
  refine zk ?_
  cases e
  refine ⟨l,xs,a,hm,RepL.frame (fun _ _ r z=>⟨r.1,z⟩) _ _ r,fun m1 ds' ys le _ c=>⟨A,?_⟩⟩
  have hlm:=(List.getElem?_eq_some_iff.mp hm).1
  refine I.put le (j:=j) (l:=l) (xs:=xs) (by rw[hA];simp) A (fun k a ha=>.inl ⟨k,ha⟩) I.nd I.dj (fun k a ha=>⟨(I.bd k a ha).1,Nat.lt_of_lt_of_le (I.bd k a ha).2 le.len⟩) (by simp) rfl (live A (fun _ _=>rfl) ds') ?_
  intro d lj h1 h2
  rw[List.getElem?_set,if_pos rfl,if_pos hjl] at h1
  cases h1
  rw[hl] at h2;cases h2
  refine ⟨_,a,ds',l,ys,rfl,rfl,hA,yL (le l _ hm),RepL.frame (fun x o r z=>?_) _ _ (c hl r)⟩
  rcases r with r | r
  .exact ⟨r,by rw[zO (l:=l) (x:=x) (fun e=>r.2 j (by rw[hA,e];simp))];exact z⟩
  .exact ⟨⟨I.rr x (Nat.le_trans I.lom r),fun k hk=>by have:=(I.bd k x hk).2;lia⟩,by rw[zO (l:=l) (x:=x) (by lia)];exact z⟩
 | full =>
  refine cps fun zP zj=>?_
  obtain ⟨l,xs,B,rfl,hA,hm,r⟩:=own_lst.mp b
  refine zj ?_
  have hlm:=(List.getElem?_eq_some_iff.mp hm).1
  have nd:=I.nd j
  rw[hA] at nd
  refine ⟨l,xs,a,hm,OwnL.rep ds xs B (fun x hx=>I.rr x (I.bd j x (by rw[hA];exact List.mem_cons_of_mem _ hx)).1) r,fun m1 ds' ys le c _=>?_⟩
  obtain ⟨B',o,nb,hB⟩:=c hl B (List.nodup_cons.mp nd).2 r
  have hlB:l∉B':=fun z=>by
   rcases hB l z with z | z
   .exact (List.nodup_cons.mp nd).1 z
   .lia
  have sub:∀x∈l::B',x∈A j\/m.length<=x:=by
   intro x hx
   rcases List.mem_cons.mp hx with rfl | hx
   .left;rw[hA];simp
   .rcases hB x hx with z | z
    .left;rw[hA];exact List.mem_cons_of_mem _ z
    .exact .inr z
  refine ⟨upd A j (l::B'),?_⟩
  refine I.put le (j:=j) (l:=l) (xs:=xs) (by rw[hA];simp) _ ?_ ?_ ?_ ?_ (by simp) rfl (live _ (fun k hk=>zo hk) ds') ?_
  .intro k x hx
   by_cases e:k=j
   .subst e;rw[zp] at hx
    rcases sub x hx with z | z
    .exact .inl ⟨k,z⟩
    .exact .inr z
   .rw[zo e] at hx;exact .inl ⟨k,hx⟩
  .intro k
   by_cases e:k=j
   .subst e;rw[zp];exact List.nodup_cons.mpr ⟨hlB,nb⟩
   .rw[zo e];exact I.nd k
  .intro i k x h1 h2
   by_cases e:i=j
   .by_cases f:k=j
    .rw[e,f]
    .rw[e,zp] at h1;rw[zo f] at h2
     rcases sub x h1 with z | z
     .rw[e];exact I.dj j k x z h2
     .have:=(I.bd k x h2).2;lia
   .rw[zo e] at h1
    by_cases f:k=j
    .rw[f,zp] at h2
     rcases sub x h2 with z | z
     .rw[f];exact I.dj i j x h1 z
     .have:=(I.bd i x h1).2;lia
    .rw[zo f] at h2;exact I.dj i k x h1 h2
  .intro k x hx
   by_cases e:k=j
   .rw[e,zp] at hx
    rcases List.mem_cons.mp hx with rfl | hx
    .exact ⟨(I.bd j _ (by rw[hA];simp)).1,Nat.lt_of_lt_of_le hlm le.len⟩
    .refine ⟨?_,OwnL.lt ds' ys B' o x hx⟩
     rcases hB x hx with z | z
     .exact (I.bd j x (by rw[hA];exact List.mem_cons_of_mem _ z)).1
     .exact Nat.le_trans I.lom z
   .rw[zo e] at hx
    exact ⟨(I.bd k x hx).1,Nat.lt_of_lt_of_le (I.bd k x hx).2 le.len⟩
  .intro d lj h1 h2
   rw[List.getElem?_set,if_pos rfl,if_pos hjl] at h1
   cases h1
   rw[hl] at h2;cases h2
   refine ⟨_,a,?_⟩
   rw[zp]
   exact own_lst.mpr ⟨l,ys,B',rfl,rfl,yL (le l _ hm),OwnL.frame ds' ys B' (fun x hx o z=>by rw[zO (l:=l) (x:=x) (fun e=>hlB (by rw[e];exact hx))];exact z) o⟩
theorem OwnL.item {m:Me}:∀ {ds:List Dat}{xs:List Wd}{A:List Nat}{p:Nat}{d:Dat},OwnL m ds xs A->ds[p]?=some d->∃x B,(xs[p]?=some x/\Own m d x B)/\∀b∈B,b∈A
 | [],xs,A,p,d,h,z=>by simp at z
 | e::ds,xs,A,0,d,h,z=>by
  obtain ⟨x,r,B,C,rfl,rfl,a,b⟩:=h.cons_inv
  simp at z;subst z
  exact ⟨x,B,⟨rfl,a⟩,fun b hb=>List.mem_append_left _ hb⟩
 | e::ds,xs,A,p+1,d,h,z=>by
  refine cps fun zP zk=>?_
  obtain ⟨x,r,B,C,rfl,rfl,a,b⟩:=h.cons_inv
  obtain ⟨y,D,h1,h2⟩:=OwnL.item b (by simpa using z)
  refine zk ?_
  exact ⟨y,D,by simpa using h1,fun b hb=>List.mem_append_right _ (h2 b hb)⟩
theorem OwnL.split {m:Me}:∀ {ds:List Dat}{xs:List Wd}{A:List Nat}{p:Nat}{d:Dat},OwnL m ds xs A->ds[p]?=some d ->
  ∃x B1 Bp B2,xs[p]?=some x/\A=B1++(Bp++B2)/\Own m d x Bp/\(∀ (i:Nat) e y,i≠p->ds[i]?=some e->xs[i]?=some y->∃Bi,Own m e y Bi/\∀b∈Bi,b∈B1\/b∈B2)/\∀ (m':Me) (d':Dat) (x':Wd) (B':List Nat),(∀l,l∈B1\/l∈B2->∀o,m[l]?=some o->m'[l]?=some o)->Own m' d' x' B'->OwnL m' (ds.set p d') (xs.set p x') (B1++(B'++B2))
 | [],xs,A,p,d,h,z=>by simp at z
 | e::ds,xs,A,0,d,h,z=>by
  refine cps fun zP zk=>?_
  obtain ⟨x,r,B,C,rfl,rfl,a,b⟩:=h.cons_inv
  refine zk ?_
  simp at z;subst z
  refine ⟨x,[],B,C,rfl,rfl,a,fun i e y hi h1 h2=>?_,fun m' d' x' B' fr o=>?_⟩
  .cases i with
   | zero=>exact absurd rfl hi
   | succ i =>
    simp at h1 h2
    refine cps fun zP zj=>?_
    obtain ⟨y',Bi,o,hB⟩:=OwnL.item b h1
    refine zj ?_
    rw[h2] at o;obtain ⟨o1,o2⟩:=o;cases o1
    exact ⟨Bi,o2,fun z hz=>.inr (hB z hz)⟩
  show OwnL m' (d'::ds) (x'::r) (B'++C)
  exact OwnL.cons o (OwnL.frame ds r C (fun l hl=>fr l (.inr hl)) b)
 | e::ds,xs,A,p+1,d,h,z=>by
  refine cps fun zP zi=>?_
  obtain ⟨x,r,B,C,rfl,rfl,a,b⟩:=h.cons_inv
  obtain ⟨y,B1,Bp,B2,h1,rfl,h3,h5,h4⟩:=OwnL.split b (by simpa using z)
  refine zi ?_
  refine ⟨y,B++B1,Bp,B2,by simpa using h1,by simp[List.append_assoc],h3,fun i e' y' hi g1 g2=>?_,fun m' d' x' B' fr o=>?_⟩
  .cases i with
   | zero=>simp at g1 g2;subst g1;subst g2;exact ⟨B,a,fun z hz=>.inl (List.mem_append_left _ hz)⟩
   | succ i =>
    simp at g1 g2
    obtain ⟨Bi,o,hB⟩:=h5 i e' y' (by lia) g1 g2
    exact ⟨Bi,o,fun z hz=>by rcases hB z hz with q | q;exact .inl (List.mem_append_right _ q);exact .inr q⟩
  rw[List.append_assoc]
  exact OwnL.cons (Own.frame e x B (fun l hl=>fr l (.inl (List.mem_append_left _ hl))) a) (h4 m' d' x' B' (fun l hl=>fr l (by rcases hl with hl | hl;exact .inl (List.mem_append_right _ hl);exact .inr hl)) o)
theorem zeb {RR:Nat->Prop}{A:Nat->List Nat}{m m1:Me}{ds:List Dat}{xs:List Wd}{d:Dat}{w:Wd}{B0:List Nat}(le:Le m m1)(o:Own m1 d w B0)(nd:B0.Nodup)(hB:∀b∈B0,m.length<=b):Chg RR A m m1 ds xs (ds++[d]) (xs++[w]):=by
 refine ⟨fun B nb q=>⟨B++(B0++[]),(OwnL.frame ds xs B (fun l _ o z=>le l o z) q).app (.cons o .nil),?_,?_⟩,fun q=>?_⟩
 .rw[List.append_nil]
  refine List.nodup_append.mpr ⟨nb,nd,fun x hx y hy e=>?_⟩
  have:=OwnL.lt ds xs B q x hx
  have:=hB y hy
  lia
 .intro b hb
  rw[List.append_nil] at hb
  rcases List.mem_append.mp hb with z | z
  .exact .inl z
  .exact .inr (hB b z)
 .exact (RepL.frame (fun l o r z=>⟨.inl r,le l o z⟩) _ _ q).app (.cons (Own.rep d w B0 (fun b hb=>.inr (hB b hb)) o) .nil)
theorem zap {RR:Nat->Prop}{A:Nat->List Nat}{m m1:Me}{ds:List Dat}{xs:List Wd}{d:Dat}{w:Wd}{B0:List Nat}(p:Nat)(le:Le m m1)(o:Own m1 d w B0)(nd:B0.Nodup)(hB:∀b∈B0,m.length<=b):Chg RR A m m1 ds xs (ds.set p d) (xs.set p w):=by
 refine ⟨fun B nb q=>?_,fun q=>?_⟩
 .cases hp:ds[p]? with
  | none =>
   have h1:ds.length<=p:=List.getElem?_eq_none_iff.mp hp
   rw[List.set_eq_of_length_le h1,List.set_eq_of_length_le (by rw[<- q.len];exact h1)]
   exact ⟨B,OwnL.frame ds xs B (fun l _ o z=>le l o z) q,nb,fun b hb=>.inl hb⟩
  | some e =>
   refine cps fun zP zk=>?_
   obtain ⟨y,B1,Bp,B2,h1,rfl,h3,_,h4⟩:=OwnL.split q hp
   refine zk ?_
   refine ⟨B1++(B0++B2),h4 m1 d w B0 (fun l _ o z=>le l o z) o,?_,?_⟩
   .have hlt:=OwnL.lt ds xs _ q
    rw[List.nodup_append] at nb ⊢
    obtain ⟨n1,n2,n3⟩:=nb
    rw[List.nodup_append] at n2 ⊢
    obtain ⟨n4,n5,n6⟩:=n2
    refine ⟨n1,⟨nd,n5,fun x hx y hy e=>?_⟩,fun x hx y hy e=>?_⟩
    .have:=hB x hx
     have:=hlt y (by simp[hy])
     lia
    .rcases List.mem_append.mp hy with hy | hy
     .have:=hB y hy
      have:=hlt x (by simp[hx])
      lia
     .exact n3 x hx y (List.mem_append_right _ hy) e
   .intro b hb
    simp only[List.mem_append] at hb ⊢
    rcases hb with z | z | z
    .exact .inl (.inl z)
    .exact .inr (hB b z)
    .exact .inl (.inr (.inr z))
 .exact (RepL.frame (fun l o r z=>⟨.inl r,le l o z⟩) _ _ q).set p (Own.rep d w B0 (fun b hb=>.inr (hB b hb)) o)
theorem OwnL.rev {m:Me}:∀ {ds:List Dat}{xs:List Wd}{A:List Nat},A.Nodup->OwnL m ds xs A->∃B,OwnL m ds.reverse xs.reverse B/\B.Nodup/\∀b∈B,b∈A
 | [],xs,A,nd,h=>by rw[h.nil_inv.1];exact ⟨[],.nil,List.nodup_nil,by simp⟩
 | d::ds,xs,A,nd,h=>by
  refine cps fun zP zk=>?_
  obtain ⟨x,r,B,C,rfl,rfl,a,b⟩:=h.cons_inv
  obtain ⟨n1,n2,n3⟩:=List.nodup_append.mp nd
  obtain ⟨D,o,nD,hD⟩:=OwnL.rev n2 b
  refine zk ?_
  rw[List.reverse_cons,List.reverse_cons]
  refine ⟨D++(B++[]),o.app (.cons a .nil),?_,?_⟩
  .rw[List.append_nil]
   exact List.nodup_append.mpr ⟨nD,n1,fun x hx y hy e=>n3 y hy x (hD x hx) e.symm⟩
  .intro b hb
   simp only[List.append_nil,List.mem_append] at hb ⊢
   rcases hb with z | z
   .exact .inr (hD b z)
   .exact .inl z
theorem chg_rev {RR:Nat->Prop}{A:Nat->List Nat}{m:Me}{ds:List Dat}{xs:List Wd}:Chg RR A m m ds xs ds.reverse xs.reverse:=by
 refine ⟨fun B nb q=>?_,fun q=>(RepL.frame (fun l o r z=>⟨.inl r,z⟩) _ _ q).rev⟩
 obtain ⟨D,o,nD,hD⟩:=OwnL.rev nb q
 exact ⟨D,o,nD,fun b hb=>.inl (hD b hb)⟩
theorem zif {m:Me}:∀ {ds:List Dat}{xs:List Wd}{A:List Nat},A.Nodup->OwnL m ds xs A->∃B,OwnL m ds.dropLast xs.dropLast B/\B.Nodup/\∀b∈B,b∈A
 | [],xs,A,nd,h=>by rw[h.nil_inv.1];exact ⟨[],.nil,List.nodup_nil,by simp⟩
 | [d],xs,A,nd,h=>by
  refine cps fun zP zk=>?_
  obtain ⟨x,r,B,C,rfl,rfl,a,b⟩:=h.cons_inv
  refine zk ?_
  rw[b.nil_inv.1];exact ⟨[],.nil,List.nodup_nil,by simp⟩
 | d::e::ds,xs,A,nd,h=>by
  refine cps fun zP zj=>?_
  obtain ⟨x,r,B,C,rfl,rfl,a,b⟩:=h.cons_inv
  obtain ⟨n1,n2,n3⟩:=List.nodup_append.mp nd
  obtain ⟨D,o,nD,hD⟩:=zif n2 b
  obtain ⟨y,r',B',C',rfl,rfl,a',b'⟩:=b.cons_inv
  refine zj ?_
  refine ⟨B++D,.cons a o,List.nodup_append.mpr ⟨n1,nD,fun x hx y hy e=>n3 x hx y (hD y hy) e⟩,fun b hb=>?_⟩
  rcases List.mem_append.mp hb with z | z
  .exact List.mem_append_left _ z
  .exact List.mem_append_right _ (hD b z)
theorem gC {RR:Nat->Prop}{A:Nat->List Nat}{m:Me}{ds:List Dat}{xs:List Wd}:Chg RR A m m ds xs ds.dropLast xs.dropLast:=by
 refine ⟨fun B nb q=>?_,fun q=>?_⟩
 .obtain ⟨D,o,nD,hD⟩:=zif nb q
  exact ⟨D,o,nD,fun b hb=>.inl (hD b hb)⟩
 .rw[List.dropLast_eq_take,List.dropLast_eq_take,<- q.len]
  exact (RepL.frame (fun l o r z=>⟨.inl r,z⟩) _ _ q).take _
theorem Inv.mutIn {lo:Nat}{RR:Nat->Prop}{m:Me}{de:DEn}{lv:List Lv}{env:En}{A:Nat->List Nat}(I:Inv lo RR m de lv env A){j p:Nat}{ds es:List Dat}(hd:de[j]?=some (some (.lst ds)))(hf:lv[j]?=some .full)(hp:ds[p]?=some (.lst es)):
  ∃l xs l2 us,env[j]?=some (some (.ref l))/\m[l]?=some (.lst xs)/\xs[p]?=some (.ref l2)/\m[l2]?=some (.lst us)/\ds.length=xs.length/\RepL RR m es us /\
   (∀ (m1:Me) (es':List Dat) (vs:List Wd),Le m m1->zhd m m1 es us es' vs ->
    ∃A1,Inv lo RR (m1.set l2 (.lst vs)) (de.set j (some (.lst (ds.set p (.lst es'))))) lv env A1/\Keep A m A1 (m1.set l2 (.lst vs))) /\
   (∀ (m1:Me) (q:Nat) (d:Dat) (w:Wd),Le m m1->Rep (fun x=>yK RR A x\/m.length<=x) m1 d w ->
    ∃A1,Inv lo RR (m1.set l2 (.lst (us.set q w))) (de.set j (some (.lst (ds.set p (.lst (es.set q d)))))) (lv.set j .top) env A1/\Keep A m A1 (m1.set l2 (.lst (us.set q w)))):=by
 refine cps fun zP zk=>?_
 obtain ⟨w,a,b⟩:=I.slot j _ .full hd hf
 obtain ⟨l,xs,B,rfl,hA,hm,r⟩:=own_lst.mp b
 obtain ⟨x,B1,Bp,B2,h1,hB,h3,h5,h4⟩:=r.split hp
 obtain ⟨l2,us,Bq,rfl,rfl,hm2,r2⟩:=own_lst.mp h3
 have hjl:j < de.length:=(List.getElem?_eq_some_iff.mp hd).1
 have nd:=I.nd j
 rw[hA,hB] at nd
 have hlm:=(List.getElem?_eq_some_iff.mp hm).1
 have hlm2:=(List.getElem?_eq_some_iff.mp hm2).1
 obtain ⟨n0,n1⟩:=List.nodup_cons.mp nd
 obtain ⟨n2,n3,n4⟩:=List.nodup_append.mp n1
 obtain ⟨n5,n6,n7⟩:=List.nodup_append.mp n3
 obtain ⟨n8,n9⟩:=List.nodup_cons.mp n5
 refine zk ?_
 have inA:∀ {x},x=l\/x∈B1\/x=l2\/x∈Bq\/x∈B2->x∈A j:=by
  intro x hx;rw[hA,hB];simp only[List.mem_cons,List.mem_append]
  rcases hx with z | z | z | z | z
  .exact .inl z
  .exact .inr (.inl z)
  .exact .inr (.inr (.inl (.inl z)))
  .exact .inr (.inr (.inl (.inr z)))
  .exact .inr (.inr (.inr z))
 have l2B1:l2∉B1:=fun z=>n4 l2 z l2 (by simp) rfl
 have l2B2:l2∉B2:=fun z=>n7 l2 (by simp) l2 z rfl
 have hll:l≠l2:=fun e=>n0 (by rw[e];simp)
 have live:∀ (A1:Nat->List Nat) (lv1:List Lv),(∀k,k≠j->A1 k=A k)->(∀k,k≠j->lv1[k]?=lv[k]?)->∀ (ds':List Dat) k d lk,k≠j->(de.set j (some (.lst ds')))[k]?=some (some d)->lv1[k]?=some lk->de[k]?=some (some d)/\lv[k]?=some lk/\A1 k=A k:=by
  intro A1 lv1 h hlv ds' k d lk e h1 h2
  rw[List.getElem?_set_ne (Ne.symm e)] at h1
  rw[hlv k e] at h2
  exact ⟨h1,h2,h k e⟩
 refine ⟨l,xs,l2,us,a,hm,h1,hm2,r.len,OwnL.rep es us Bq (fun x hx=>I.rr x (I.bd j x (inA (.inr (.inr (.inr (.inl hx)))))).1) r2,?_,?_⟩
 .intro m1 es' vs le c
  obtain ⟨Bq',o,nb,hBq⟩:=c Bq n9 r2
  have hlt:=OwnL.lt es' vs Bq' o
  have l2q:l2∉Bq':=fun z=>by
   rcases hBq l2 z with z | z
   .exact n8 z
   .lia
  have sub:∀x∈l::(B1++((l2::Bq')++B2)),x∈A j\/m.length<=x:=by
   intro x hx
   simp only[List.mem_cons,List.mem_append] at hx
   rcases hx with z | z | (z | z) | z
   .exact .inl (inA (.inl z))
   .exact .inl (inA (.inr (.inl z)))
   .exact .inl (inA (.inr (.inr (.inl z))))
   .rcases hBq x z with z | z
    .exact .inl (inA (.inr (.inr (.inr (.inl z)))))
    .exact .inr z
   .exact .inl (inA (.inr (.inr (.inr (.inr z)))))
  have nd1:(l::(B1++((l2::Bq')++B2))).Nodup:=by
   refine List.nodup_cons.mpr ⟨?_,List.nodup_append.mpr ⟨n2,List.nodup_append.mpr ⟨List.nodup_cons.mpr ⟨l2q,nb⟩,n6,?_⟩,?_⟩⟩
   .intro z
    simp only[List.mem_cons,List.mem_append] at z n0
    rcases z with z | (z | z) | z
    .exact n0 (.inl z)
    .exact hll z
    .rcases hBq l z with z | z
     .exact n0 (.inr (.inl (.inr z)))
     .lia
    .exact n0 (.inr (.inr z))
   .intro x hx y hy e
    subst e
    rcases List.mem_cons.mp hx with z | z
    .subst z;exact l2B2 hy
    .rcases hBq x z with z | z
     .exact n7 x (List.mem_cons_of_mem _ z) x hy rfl
     .have:=(I.bd j x (inA (.inr (.inr (.inr (.inr hy)))))).2;lia
   .intro x hx y hy e
    subst e
    simp only[List.mem_cons,List.mem_append] at hy
    rcases hy with (z | z) | z
    .subst z;exact l2B1 hx
    .rcases hBq x z with z | z
     .exact n4 x hx x (by simp[z]) rfl
     .have:=(I.bd j x (inA (.inr (.inl hx)))).2;lia
    .exact n4 x hx x (by simp[z]) rfl
  refine ⟨upd A j (l::(B1++((l2::Bq')++B2))),?_⟩
  refine I.put le (j:=j) (l:=l2) (xs:=us) (inA (.inr (.inr (.inl rfl)))) _ ?_ ?_ ?_ ?_ (by simp) rfl (live _ lv (fun k hk=>zo hk) (fun _ _=>rfl) _) ?_
  .intro k x hx
   by_cases e:k=j
   .rw[e,zp] at hx
    rcases sub x hx with z | z
    .exact .inl ⟨j,z⟩
    .exact .inr z
   .rw[zo e] at hx;exact .inl ⟨k,hx⟩
  .intro k
   by_cases e:k=j
   .rw[e,zp];exact nd1
   .rw[zo e];exact I.nd k
  .intro i k x h1 h2
   by_cases e:i=j
   .by_cases f:k=j
    .rw[e,f]
    .rw[e,zp] at h1;rw[zo f] at h2
     rcases sub x h1 with z | z
     .rw[e];exact I.dj j k x z h2
     .have:=(I.bd k x h2).2;lia
   .rw[zo e] at h1
    by_cases f:k=j
    .rw[f,zp] at h2
     rcases sub x h2 with z | z
     .rw[f];exact I.dj i j x h1 z
     .have:=(I.bd i x h1).2;lia
    .rw[zo f] at h2;exact I.dj i k x h1 h2
  .intro k x hx
   have ll:=le.len
   by_cases e:k=j
   .rw[e,zp] at hx
    rcases sub x hx with z | z
    .exact ⟨(I.bd j x z).1,Nat.lt_of_lt_of_le (I.bd j x z).2 ll⟩
    .refine ⟨Nat.le_trans I.lom z,?_⟩
     simp only[List.mem_cons,List.mem_append] at hx
     rcases hx with q | q | (q | q) | q
     .lia
     .have:=(I.bd j x (inA (.inr (.inl q)))).2;lia
     .lia
     .exact hlt x q
     .have:=(I.bd j x (inA (.inr (.inr (.inr (.inr q)))))).2;lia
   .rw[zo e] at hx
    exact ⟨(I.bd k x hx).1,Nat.lt_of_lt_of_le (I.bd k x hx).2 ll⟩
  .intro d lj g1 g2
   rw[List.getElem?_set,if_pos rfl,if_pos hjl] at g1
   cases g1
   rw[hf] at g2;cases g2
   refine ⟨_,a,?_⟩
   rw[zp]
   refine own_lst.mpr ⟨l,xs,B1++((l2::Bq')++B2),rfl,rfl,?_,?_⟩
   .rw[zO (l:=l2) (x:=l) (Ne.symm hll)];exact le l _ hm
   .have:=h4 (m1.set l2 (.lst vs)) (.lst es') (.ref l2) (l2::Bq') ?_ (own_lst.mpr ⟨l2,vs,Bq',rfl,rfl,yL (le l2 _ hm2),OwnL.frame es' vs Bq' (fun x hx o z=>by rw[zO (l:=l2) (x:=x) (fun e=>l2q (by rw[e];exact hx))];exact z) o⟩)
    .rw[show xs.set p (.ref l2)=xs from by
      obtain ⟨hpx,e⟩:=List.getElem?_eq_some_iff.mp h1
      rw[<- e];exact List.set_getElem_self hpx] at this
     exact this
    .intro x hx o z
     rw[zO (l:=l2) (x:=x) (fun e=>by rcases hx with hx | hx;exact l2B1 (by rw[e];exact hx);exact l2B2 (by rw[e];exact hx))]
     exact le x o z
 .intro m1 q d w le rw0
  have ll:=le.len
  have sub:∀k x,x∈upd A j [l] k->x∈A k:=by
   intro k x hx
   by_cases e:k=j
   .rw[e,zp] at hx;rw[e,List.mem_singleton.mp hx];exact inA (.inl rfl)
   .rw[zo e] at hx;exact hx
  refine ⟨upd A j [l],?_⟩
  refine I.put le (j:=j) (l:=l2) (xs:=us) (inA (.inr (.inr (.inl rfl)))) _ (fun k x hx=>.inl ⟨k,sub k x hx⟩) ?_ (fun i k x g1 g2=>I.dj i k x (sub i x g1) (sub k x g2)) (fun k x hx=>⟨(I.bd k x (sub k x hx)).1,Nat.lt_of_lt_of_le (I.bd k x (sub k x hx)).2 ll⟩) (by simp) (by simp) (live _ (lv.set j .top) (fun k hk=>zo hk) (fun k hk=>List.getElem?_set_ne (Ne.symm hk)) _) ?_
  .intro k
   by_cases e:k=j
   .rw[e,zp];simp
   .rw[zo e];exact I.nd k
  .intro d' lj g1 g2
   rw[List.getElem?_set,if_pos rfl,if_pos hjl] at g1
   cases g1
   rw[List.getElem?_set,if_pos rfl,if_pos (by rw[I.lvl];exact hjl)] at g2
   cases g2
   refine ⟨_,a,ds.set p (.lst (es.set q d)),l,xs,rfl,rfl,zp,?_,?_⟩
   .rw[zO (l:=l2) (x:=l) (Ne.symm hll)];exact le l _ hm
   have fr:∀x,x∈B1\/x∈B2\/x∈Bq\/x=l2->yK RR (upd A j [l]) x:=by
    intro x hx
    have hxA:x∈A j:=inA (by rcases hx with z | z | z | z;exact .inr (.inl z);exact .inr (.inr (.inr (.inr z)));exact .inr (.inr (.inr (.inl z)));exact .inr (.inr (.inl z)))
    refine ⟨I.rr x (I.bd j x hxA).1,fun k hk=>?_⟩
    by_cases e:k=j
    .rw[e,zp] at hk
     have e2:=List.mem_singleton.mp hk
     subst e2
     rcases hx with z | z | z | z
     .exact n0 (by simp[z])
     .exact n0 (by simp[z])
     .exact n0 (by simp[z])
     .exact hll z
    .rw[zo e] at hk;exact e (I.dj k j x hk hxA)
   refine repL_iff.mpr ⟨by simp[r.len],fun i e y g1 g2=>?_⟩
   by_cases ei:i=p
   .rw[ei] at g1 g2
    rw[h1] at g2;cases g2
    rw[List.getElem?_set,if_pos rfl,if_pos (List.getElem?_eq_some_iff.mp hp).1] at g1
    cases g1
    refine rep_lst.mpr ⟨l2,us.set q w,rfl,fr l2 (.inr (.inr (.inr rfl))),yL (le l2 _ hm2),?_⟩
    refine RepL.set (RepL.frame (R:=fun x=>x∈Bq) (m:=m) (fun x o hx z=>⟨fr x (.inr (.inr (.inl hx))),?_⟩) _ _ (OwnL.rep es us Bq (fun _ h=>h) r2)) q ?_
    .rw[zO (l:=l2) (x:=x) (fun e=>n8 (by rw[e];exact hx))];exact le x o z
    .refine Rep.frame (fun x o hx z=>?_) _ _ rw0
     have ne:l2≠x:=by
      rcases hx with hx | hx
      .intro e;exact hx.2 j (by rw[<- e];exact inA (.inr (.inr (.inl rfl))))
      .lia
     refine ⟨?_,by rw[zO (l:=l2) (x:=x) ne];exact z⟩
     rcases hx with hx | hx
     .exact ⟨hx.1,fun k hk=>hx.2 k (sub k x hk)⟩
     .exact ⟨I.rr x (Nat.le_trans I.lom hx),fun k hk=>by have:=(I.bd k x (sub k x hk)).2;lia⟩
   .rw[List.getElem?_set_ne (Ne.symm ei)] at g1
    obtain ⟨Bi,o,hBi⟩:=h5 i e y ei g1 g2
    refine Rep.frame (R:=fun x=>x∈Bi) (m:=m) (fun x o hx z=>?_) _ _ (Own.rep e y Bi (fun _ h=>h) o)
    rcases hBi x hx with z1 | z1
    .exact ⟨fr x (.inl z1),by rw[zO (l:=l2) (x:=x) (fun e=>l2B1 (by rw[e];exact z1))];exact le x _ z⟩
    .exact ⟨fr x (.inr (.inl z1)),by rw[zO (l:=l2) (x:=x) (fun e=>l2B2 (by rw[e];exact z1))];exact le x _ z⟩
theorem zcD {R:Nat->Prop}{m:Me}{ds:List Dat}{xs:List Wd}{l:Nat}{e:Dat}{y:Wd}(h:RepL R m ds xs)(hm:m[l]?=some (.lst xs))(b:Rep R m e y):SimE R m (w6 (.ref l) y m) (yt (.lst ds) e):=by
 cases e with
 | int i =>
  rw[rep_int.mp b]
  simp only[yt,w6,wc,xb,zN,hm]
  cases z:(ix ds.length i).bind fun j=>ds[j]? with
  | none=>exact SimE.no
  | some v =>
   refine cps fun zP zk=>?_
   obtain ⟨j,h1,h2⟩:=Option.bind_eq_some_iff.mp z
   obtain ⟨x,h3,p⟩:=h.get h2
   refine zk ?_
   rw[h.len] at h1
   simp only[h1,Option.bind_some,h3]
   exact zh9 p
 | _=>exact SimE.no
theorem jM {lo:Nat}{RR:Nat->Prop}{m:Me}{de:DEn}{lv:List Lv}{env:En}{A:Nat->List Nat}(I:Inv lo RR m de lv env A){vs:List Nat}(h:∀i∈vs,∀l,lv[i]?=some l->l=.no):EnvR (yK RR A) m vs de env :=
 ⟨I.len,fun i hi d hd=>by
  obtain ⟨l,hl⟩:=I.getlv hd
  obtain ⟨w,a,b⟩:=I.slot i d l hd hl
  rw[h i hi l hl] at b
  exact ⟨w,a,b.1⟩⟩
theorem downs_len:∀ (vs:List Nat) (lv:List Lv),(downs vs lv).length=lv.length
 | [],lv=>rfl
 | i::vs,lv=>by unfold downs;rw[downs_len vs];simp
theorem zaq (de:DEn)(j:Nat)(lv:List Lv){k:Nat}(h:k≠j):(topD de j lv)[k]?=lv[k]?:=by
 have q:∃l,topD de j lv=lv.set j l:=by
  unfold topD
  generalize de[j]?=p
  generalize lv[j]?=q
  cases p with
  | none=>exact ⟨_,rfl⟩
  | some o =>
   cases o with
   | none=>exact ⟨_,rfl⟩
   | some d =>
    cases d with
    | lst ds =>
     cases q with
     | none=>exact ⟨_,rfl⟩
     | some l=>cases l <;> exact ⟨_,rfl⟩
    | _=>exact ⟨_,rfl⟩
 obtain ⟨l,e⟩:=q
 rw[e];exact List.getElem?_set_ne (Ne.symm h)
set_option tactic.hygienic true in
theorem zar (e:Ex)(de:DEn)(lv:List Lv){k:Nat}(h:k∉zw e):(y9 e de lv)[k]?=lv[k]?:=by
 have gen:∀vs,k∉vs->(downs vs lv)[k]?=lv[k]?:=fun vs h=>by rw[yU,if_neg (fun z=>h z.1)]
 cases e with
 | idx o b =>
  cases o with
  | var j =>
   replace h:k∉j::zw b:=h
   rw[List.mem_cons,not_or] at h
   show (topD de j (downs (zw b) lv))[k]?=_
   rw[zaq _ _ _ h.1,gen _ h.2]
  | _=>exact gen _ h
 | _=>exact gen _ h
set_option tactic.hygienic true in
theorem Inv.topD {lo:Nat}{RR:Nat->Prop}{m:Me}{de:DEn}{lv:List Lv}{env:En}{A:Nat->List Nat}(I:Inv lo RR m de lv env A)(j:Nat):
  ∃A',Inv lo RR m de (topD de j lv) env A'/\Keep A m A' m/\(∀i,i≠j->A' i=A i)/\((∃ds l xs,de[j]?=some (some (.lst ds))/\A' j=[l]/\env[j]?=some (some (.ref l))/\m[l]?=some (.lst xs)/\RepL (yK RR A') m ds xs)\/((Vl.topD de j lv)[j]?=some .no\/lv.length<=j)):=by
 by_cases h:(∃ds,de[j]?=some (some (.lst ds)))/\zX lv j=true
 .refine cps fun zP zk=>?_
  obtain ⟨⟨ds,hd⟩,ho⟩:=h
  obtain ⟨l,xs,A',I',K,h1,h2,h3,h4,h5,_⟩:=I.top j hd ho
  refine zk ?_
  have:Vl.topD de j lv=lv.set j .top:=by
   unfold Vl.topD;rw[hd]
   unfold zX at ho
   cases z:lv[j]? with
   | none=>rw[z] at ho;simp at ho
   | some l=>rw[z] at ho;cases l <;> simp at ho ⊢
  rw[this]
  exact ⟨A',I',K,h2,.inl ⟨ds,l,xs,hd,h1,h3,h4,h5⟩⟩
 .obtain ⟨I',K⟩:=I.down j
  have:Vl.topD de j lv=lv.set j .no:=by
   unfold Vl.topD
   split
   .next ds hd hl=>exact absurd ⟨⟨ds,hd⟩,by unfold zX;rw[hl]⟩ h
   .next ds hd hl=>exact absurd ⟨⟨ds,hd⟩,by unfold zX;rw[hl]⟩ h
   .rfl
  rw[this]
  refine ⟨_,I',K,fun i hi=>zo hi,.inr ?_⟩
  by_cases z:j < lv.length
  .left;rw[List.getElem?_set,if_pos rfl,if_pos z]
  .right;lia
theorem Inv.relEv {lev:Nat->Lv}{cl:Nat->List Wd->Me->Rz}{cd:Nat->List Dat->Rd}(H:CallO lev cl cd){lo:Nat}{RR:Nat->Prop}{m:Me}{de:DEn}{lv:List Lv}{env:En}{A:Nat->List Nat}(I:Inv lo RR m de lv env A)(e:Ex):
  ∃A',Inv lo RR m de (y9 e de lv) env A'/\Keep A m A' m/\(∀k,k∉zw e->A' k=A k)/\SimO (yK RR A') m (lvE lev e) (evE cl e env m) (evD cd e de):=by
 have gen:y9 e de lv=Vl.downs (zw e) lv->∃A',Inv lo RR m de (y9 e de lv) env A'/\Keep A m A' m/\(∀k,k∉zw e->A' k=A k)/\SimO (yK RR A') m (lvE lev e) (evE cl e env m) (evD cd e de):=by
  intro h
  rw[h]
  refine cps fun zP zk=>?_
  obtain ⟨A',I',K,h1,_,h3⟩:=Inv.downs (zw e) I
  refine zk ?_
  refine ⟨A',I',K,h3,xB H e _ m de env (jM I' fun i hi l hl=>?_)⟩
  rw[yU] at hl
  split at hl
  .cases hl;rfl
  .next z=>rw[List.getElem?_eq_none (by have:¬ i < lv.length:=fun q=>z ⟨hi,q⟩;lia)] at hl;cases hl
 cases e with
 | idx a b =>
  cases a with
  | var j =>
   show ∃A',Inv lo RR m de (Vl.topD de j (Vl.downs (zw b) lv)) env A'/\_
   refine cps fun zP zj=>?_
   obtain ⟨A1,I1,K1,h1,h2,h3⟩:=Inv.downs (zw b) I
   obtain ⟨A2,I2,K2,g1,g2⟩:=I1.topD j
   refine zj ?_
   have hne:∀k,k∉zw (.idx (.var j) b)->A2 k=A k:=by
    intro k hk
    replace hk:k∉j::zw b:=hk
    rw[List.mem_cons,not_or] at hk
    rw[g1 k hk.1,h3 k hk.2]
   refine ⟨A2,I2,K1.trans K2,hne,?_⟩
   have lvno:∀i,i∈zw b->i≠j->∀l,(Vl.topD de j (Vl.downs (zw b) lv))[i]?=some l->l=.no:=by
    intro i hi hij l hl
    rw[zaq _ _ _ hij,yU] at hl
    split at hl
    .cases hl;rfl
    .next z=>rw[List.getElem?_eq_none (by have:¬ i < lv.length:=fun q=>z ⟨hi,q⟩;lia)] at hl;cases hl
   rcases g2 with ⟨ds,l,xs,hd,hA,he,hm,hr⟩ | g2
   .have hjb:j∉zw b:=fun z=>by
     have h0:=h1 j z
     have hx:l∈A1 j:=by
      have i1:=I1
      by_cases q:l∈A1 j
      .exact q
      .exfalso
       have:=(K2.1 l _ (fun k hk=>?_) hm).1 j
       .rw[hA] at this;exact this (by simp)
       .by_cases ek:k=j
        .rw[ek] at hk;exact q hk
        .have e1:=g1 k ek
         rw[<- e1] at hk
         exact ek (I2.dj k j l hk (by rw[hA];simp))
     rw[h0] at hx
     cases hx
    refine SimE.own ?_ (fun d=>rfl)
    show SimE _ m ((evE cl (.var j) env m).bind fun x m1=>(evE cl b env m1).bind fun y m2=>w6 x y m2) ((evD cd (.var j) de).bind fun x=>(evD cd b de).bind fun y=>yt x y)
    have e1:evE cl (.var j) env m=.ok (.ref l) m:=kD he m
    have e2:evD cd (.var j) de=.ok (.lst ds):=xk hd
    rw[e1,e2]
    simp only[Rz.bind,Rd.bind]
    refine (zq H.r b _ m de env (jM I2 fun i hi=>lvno i hi (fun e=>hjb (by rw[<- e];exact hi)))).bind fun d2 w2 m2 l2 k2=>?_
    exact zcD (hr.up _ l2) (l2 l _ hm) k2
   .refine xB H _ _ m de env (jM I2 fun i hi l hl=>?_)
    replace hi:i∈j::zw b:=hi
    rw[List.mem_cons] at hi
    by_cases e:i=j
    .rw[e] at hl
     rcases g2 with g2 | g2
     .rw[g2] at hl;cases hl;rfl
     .have:(Vl.topD de j (Vl.downs (zw b) lv)).length=(Vl.downs (zw b) lv).length:=by rw[I2.lvl,I1.lvl]
      rw[List.getElem?_eq_none (by lia)] at hl;cases hl
    .rcases hi with z | z
     .exact absurd z e
     .exact lvno i z e l hl
  | _=>exact gen rfl
 | _=>exact gen rfl
noncomputable def SimS (lo:Nat)(RR:Nat->Prop)(A:Nat->List Nat)(m:Me)(r:Rs)(rd:Rsd):Prop:=match rd with
 | .next de lv=>∃env m' A',r=.next env m'/\Inv lo RR m' de lv env A'/\Keep A m A' m'
 | .brk de lv=>∃env m' A',r=.brk env m'/\Inv lo RR m' de lv env A'/\Keep A m A' m'
 | .cont de lv=>∃env m' A',r=.cont env m'/\Inv lo RR m' de lv env A'/\Keep A m A' m'
 | .ret d l=>∃w m' B,r=.ret w m'/\((∀ (x:Nat) o,(∀i,x∉A i)->m[x]?=some o->m'[x]?=some o)/\m.length<=m'.length)/\RepO (fun x=>RR x/\x∉B) m' l d w B/\B.Nodup/\∀b∈B,lo<=b
 | .exc c d=>∃w e m',r=.exc c w e m'/\((∀ (x:Nat) o,(∀i,x∉A i)->m[x]?=some o->m'[x]?=some o)/\m.length<=m'.length)/\Rep RR m' d w
 | .no=>True
theorem SimS.keep {lo:Nat}{RR:Nat->Prop}{A A1:Nat->List Nat}{m m1:Me}{r:Rs}{rd:Rsd}(K:Keep A m A1 m1)(h:SimS lo RR A1 m1 r rd):SimS lo RR A m r rd:=by
 cases rd with
 | next de lv=>obtain ⟨e,m',A',h,I,k⟩:=h;exact ⟨e,m',A',h,I,K.trans k⟩
 | brk de lv=>obtain ⟨e,m',A',h,I,k⟩:=h;exact ⟨e,m',A',h,I,K.trans k⟩
 | cont de lv=>obtain ⟨e,m',A',h,I,k⟩:=h;exact ⟨e,m',A',h,I,K.trans k⟩
 | ret d l=>obtain ⟨w,m',B,h,k,z⟩:=h;exact ⟨w,m',B,h,⟨fun x o a b=>k.1 x o (K.1 x o a b).1 (K.1 x o a b).2,Nat.le_trans K.2 k.2⟩,z⟩
 | exc c d=>obtain ⟨w,e,m',h,k,z⟩:=h;exact ⟨w,e,m',h,⟨fun x o a b=>k.1 x o (K.1 x o a b).1 (K.1 x o a b).2,Nat.le_trans K.2 k.2⟩,z⟩
 | no=>trivial
theorem Inv.rf {lo:Nat}{RR:Nat->Prop}{m m':Me}{de:DEn}{lv:List Lv}{env:En}{A:Nat->List Nat}(I:Inv lo RR m de lv env A){d:Dat}{w:Wd}(h:Rep (Rf RR m.length) m' d w):Rep RR m' d w :=
 Rep.frame (fun x o r z=>⟨by rcases r with r | r;exact r;exact I.rr x (Nat.le_trans I.lom r),z⟩) d w h
theorem Inv.bindE {cl:Nat->List Wd->Me->Rz}{cd:Nat->List Dat->Rd}(H:CallR cl cd){lo:Nat}{RR:Nat->Prop}{m:Me}{de:DEn}{lv:List Lv}{env:En}{A:Nat->List Nat}(I:Inv lo RR m de lv env A)(e:Ex){f:Wd->Me->Rs}{g:Dat->Rsd}
  (k:∀d w m1,evD cd e de=.ok d->evE cl e env m=.ok w m1->Le m m1->Rep RR m1 d w->SimS lo RR A m1 (f w m1) (g d)):SimS lo RR A m ((evE cl e env m).bindS env f) ((evD cd e de).bindS g):=by
 have h:=zq H e RR m de env (I.envR _)
 cases z:evD cd e de with
 | no=>trivial
 | exc c d =>
  rw[z] at h
  refine cps fun zP zk=>?_
  obtain ⟨w,m',h,l,r⟩:=h
  refine zk ?_
  rw[h]
  exact ⟨w,env,m',rfl,⟨fun x o _ b=>l x o b,l.len⟩,I.rf r⟩
 | ok d =>
  rw[z] at h
  refine cps fun zP zj=>?_
  obtain ⟨w,m',h,l,r⟩:=h
  refine zj ?_
  have:=k d w m' z h l (I.rf r)
  rw[h]
  exact SimS.keep (vg l) this
theorem Inv.own {lev:Nat->Lv}{cl:Nat->List Wd->Me->Rz}{cd:Nat->List Dat->Rd}(H:CallO lev cl cd){lo:Nat}{RR:Nat->Prop}{m m1:Me}{de:DEn}{lv:List Lv}{env:En}{A:Nat->List Nat}(I:Inv lo RR m de lv env A){e:Ex}{d:Dat}{w:Wd}(h1:evD cd e de=.ok d)(h2:evE cl e env m=.ok w m1):
  ∃B,RepO (fun x=>RR x/\x∉B) m1 (lvE lev e d) d w B/\B.Nodup/\∀b∈B,m.length<=b:=by
 have h:=xB H e RR m de env (I.envR _)
 rw[h1] at h
 refine cps fun zP zk=>?_
 obtain ⟨w',m',B,h3,l,r,nd,hB⟩:=h
 refine zk ?_
 rw[h2] at h3;cases h3
 exact ⟨B,r.frame (fun x o r z=>⟨⟨by rcases r.1 with r | r;exact r;exact I.rr x (Nat.le_trans I.lom r),r.2⟩,z⟩) (fun _ _ _ z=>z),nd,hB⟩
section
variable {lev:Nat->Lv}{cl:Nat->List Wd->Me->Rz}{cd:Nat->List Dat->Rd}{lo:Nat}{RR:Nat->Prop}{m:Me}{de:DEn}{lv:List Lv}{env:En}{A:Nat->List Nat}
theorem vh {j:Nat}{ds:List Dat}(h:xa de j=some ds):de[j]?=some (some (.lst ds)):=by
 unfold xa at h
 split at h
 .next z=>cases h;exact z
 .cases h
set_option tactic.hygienic true in
theorem zas {j:Nat}{r:Dat}{f:List Dat->Option (List Dat)}{de1:DEn}(h:gB j r de lv f=some de1):
  ∃k ds p es es1,r=.int k/\de[j]?=some (some (.lst ds))/\ix ds.length k=some p/\ds[p]?=some (.lst es)/\f es=some es1/\lv[j]?=some .full/\de1=de.set j (some (.lst (ds.set p (.lst es1)))):=by
 unfold gB at h
 split at h
 .next k ds h1 =>
  split at h
  .next ds1 h2 =>
   split at h
   .next h3 =>
    cases h
    refine cps fun zP zk=>?_
    obtain ⟨p,h4,h5⟩:=Option.bind_eq_some_iff.mp h2
    obtain ⟨d,h6,h7⟩:=Option.bind_eq_some_iff.mp h5
    refine zk ?_
    split at h7
    .next es =>
     obtain ⟨es1,h8,h9⟩:=Option.map_eq_some_iff.mp h7
     exact ⟨k,ds,p,es,es1,rfl,vh h1,h4,h6,h8,h3,by rw[h9]⟩
    .cases h7
   .cases h
  .cases h
 .cases h
theorem zf3 {m:Me}{l p:Nat}{xs:List Wd}{k:Int}{w:Wd}(hm:m[l]?=some (.lst xs))(hk:ix xs.length k=some p)(hp:xs[p]?=some w):w6 (.ref l) (.int k) m=.ok w m:=by
 simp[w6,xb,zN,hm,hk,hp]
theorem wL {j:Nat}{w:Wd}(h:env[j]?=some (some w))(m:Me):evE cl (.var j) env m=.ok w m:=by
 exact kD h m
theorem zec (H:CallO lev cl cd)(I:Inv lo RR m de lv env A)(i:Nat)(e:Ex):SimS lo RR A m (exS cl (.asg i e) env m) (exD lev cd (.asg i e) de lv):=by
 have h:SimS lo RR A m ((evE cl e env m).bindS env fun w m1=>.next (env.set i (some w)) m1) ((evD cd e de).bindS fun d=>wH lev i e d de lv):=by
  cases z:evD cd e de with
  | no=>trivial
  | exc c d =>
   have:=I.bindE H.r e (f:=fun w m1=>.next (env.set i (some w)) m1) (g:=fun d=>.no) (fun _ _ _ _ _ _ _=>trivial)
   rw[z] at this;exact this
  | ok d =>
   show SimS lo RR A m _ (wH lev i e d de lv)
   unfold wH
   by_cases f:lvE lev e d=.full
   .rw[if_pos f]
    have h:=xB H e RR m de env (I.envR _)
    rw[z] at h
    refine cps fun zP zk=>?_
    obtain ⟨w,m1,B,h2,l,r,nd,hB⟩:=h
    refine zk ?_
    rw[h2]
    rw[f] at r
    obtain ⟨I',K⟩:=I.store l i (l:=.full) (d:=d) (w:=w) (B:=B) r nd hB
    exact ⟨_,_,_,rfl,I',K⟩
   .rw[if_neg f]
    refine cps fun zP zj=>?_
    obtain ⟨A1,I1,K1,_,h⟩:=I.relEv H e
    rw[z] at h
    obtain ⟨w,m1,B,h2,l,r,nd,hB⟩:=h
    refine zj ?_
    rw[h2]
    obtain ⟨I',K⟩:=I1.store l i (l:=lvE lev e d) (d:=d) (w:=w) (B:=B) r nd hB
    exact ⟨_,_,_,rfl,I',K1.trans K⟩
 exact h
theorem gD (H:CallO lev cl cd)(I:Inv lo RR m de lv env A){e:Ex}{d:Dat}{w:Wd}{m1:Me}{j:Nat}{ds:List Dat}{de1:DEn}{lv1:List Lv}(hd:de[j]?=some (some (.lst ds)))(h1:evD cd e de=.ok d)(h2:evE cl e env m=.ok w m1)(l1:Le m m1){m2:Me}(l2:Le m1 m2)
  (g:y0 lev e d j de lv=some (de1,lv1)) (F:List Dat->Dat->List Dat) (G:List Wd->Wd->List Wd)
  (cF:∀ (m m1:Me) (A:Nat->List Nat) (ds:List Dat) (xs:List Wd) (d:Dat) (w:Wd) (B0:List Nat),Le m m1->Own m1 d w B0->B0.Nodup->(∀b∈B0,m.length<=b)->Chg RR A m m1 ds xs (F ds d) (G xs w))
  (cM:∀ (m:Me) (ds:List Dat) (xs:List Wd) (d:Dat) (w:Wd) (B B0:List Nat),(B++B0).Nodup->OwnL m ds xs B->Own m d w B0->∃B',OwnL m (F ds d) (G xs w) B'/\B'.Nodup/\∀b∈B',b∈B\/b∈B0)
  (cT:∀ (R:Nat->Prop) (m:Me) (ds:List Dat) (xs:List Wd) (d:Dat) (w:Wd),RepL R m ds xs->Rep R m d w->RepL R m (F ds d) (G xs w)) :
  ∃l xs,env[j]?=some (some (.ref l))/\m2[l]?=some (.lst xs)/\ds.length=xs.length/\∃A',Inv lo RR (m2.set l (.lst (G xs w))) (de1.set j (some (.lst (F ds d)))) lv1 env A'/\Keep A m A' (m2.set l (.lst (G xs w))):=by
 have l12:=l1.trans l2
 unfold y0 at g
 split at g
 .cases g
 .next ho =>
  have ho:zX lv j=true:=by simpa using ho
  split at g
  .next f =>
   cases g
   refine cps fun zP zk=>?_
   obtain ⟨B,r,nd,hB⟩:=I.own H h1 h2
   rw[f] at r
   obtain ⟨l,xs,he,hm,hr,put⟩:=I.mut hd ho
   refine zk ?_
   have r':Own m2 d w B:=Own.frame d w B (fun x _ o z=>l2 x o z) r
   refine ⟨l,xs,he,l12 l _ hm,hr.len,put m2 _ _ l12 (fun _=>(cF m m2 A ds xs d w B l12 r' nd hB).1) (fun _=>(cF m m2 A ds xs d w B l12 r' nd hB).2)⟩
  .next f =>
   split at g
   .cases g
   .next hj =>
    have share:lv1=(y9 e de lv).set j .top->de1=de->∃l xs,env[j]?=some (some (.ref l))/\m2[l]?=some (.lst xs)/\ds.length=xs.length/\∃A',Inv lo RR (m2.set l (.lst (G xs w))) (de1.set j (some (.lst (F ds d)))) lv1 env A'/\Keep A m A' (m2.set l (.lst (G xs w))):=by
     rintro rfl rfl
     refine cps fun zP zj=>?_
     obtain ⟨A1,I1,K1,hA1,h⟩:=I.relEv H e
     rw[h1] at h
     have ho1:zX (y9 e de1 lv) j=true:=by unfold zX;rw[zar e _ _ hj];exact ho
     obtain ⟨l,xs,A2,I2,K2,g1,g2,he,hm,hr,hlA⟩:=I1.top j hd ho1
     have hs:=h.sim
     obtain ⟨w',m',h3,_,rw0⟩:=hs
     rw[h2] at h3;cases h3
     have hjl:j < (y9 e de1 lv).length:=by rw[I1.lvl];exact (List.getElem?_eq_some_iff.mp hd).1
     have ho2:zX ((y9 e de1 lv).set j .top) j=true:=by unfold zX;rw[List.getElem?_set,if_pos rfl,if_pos hjl]
     have hlv:((y9 e de1 lv).set j .top)[j]?=some .top:=by rw[List.getElem?_set,if_pos rfl,if_pos hjl]
     obtain ⟨l',xs',he',hm',_,put⟩:=I2.mut hd ho2
     rw[he] at he';cases he'
     rw[hm] at hm';cases hm'
     obtain ⟨A3,I3,K3⟩:=put m2 (F ds d) (G xs w) l12 (fun z=>by rw[hlv] at z;cases z) (fun _ q=>by
      refine cT _ m2 ds xs d w (RepL.frame (fun x o r z=>⟨.inl r,l12 x o z⟩) _ _ q) (Rep.frame (fun x o r z=>⟨?_,l2 x o z⟩) _ _ rw0)
      rcases r with r | r
      .left
       refine ⟨r.1,fun k hk=>?_⟩
       by_cases ek:k=j
       .rw[ek,g1] at hk
        rw[List.mem_singleton.mp hk] at r
        exact r.2 j hlA
       .rw[g2 k ek] at hk;exact r.2 k hk
      .exact .inr r)
     refine zj ?_
     exact ⟨l,xs,he,l12 l _ hm,hr.len,A3,I3,(K1.trans K2).trans K3⟩
    split at g
    .next i =>
     split at g
     .next hfull =>
      cases g
      have hij:i≠j:=fun e=>hj (by rw[e];exact List.mem_singleton.mpr rfl)
      -- the move
      have hdi:de[i]?=some (some d):=by
       exact zai h1
      refine cps fun zP zi=>?_
      obtain ⟨wi,hei,ri⟩:=I.slot i d .full hdi hfull.1
      have:evE cl (.var i) env m=.ok wi m:=wL hei m
      rw[this] at h2;cases h2
      obtain ⟨wj,hej,rj⟩:=I.slot j _ .full hd hfull.2
      obtain ⟨l,xs,B,rfl,hA,hm,r⟩:=own_lst.mp rj
      have hlm:=(List.getElem?_eq_some_iff.mp hm).1
      have nd:=I.nd j
      rw[hA] at nd
      obtain ⟨n0,n1⟩:=List.nodup_cons.mp nd
      have nBi:(B++A i).Nodup:=List.nodup_append.mpr ⟨n1,I.nd i,fun x hx y hy e=>by
       subst e
       exact hij (I.dj i j x hy (by rw[hA];exact List.mem_cons_of_mem _ hx))⟩
      obtain ⟨B',o,nB',hB'⟩:=cM m ds xs d w B (A i) nBi r ri
      refine zi ?_
      have lB':l∉B':=fun z=>by
       rcases hB' l z with q | q
       .exact n0 q
       .exact hij (I.dj i j l q (by rw[hA];simp))
      have sub:∀x∈l::B',x∈A j\/x∈A i:=by
       intro x hx
       rcases List.mem_cons.mp hx with rfl | hx
       .left;rw[hA];simp
       .rcases hB' x hx with q | q
        .left;rw[hA];exact List.mem_cons_of_mem _ q
        .exact .inr q
      have hjl:j < de.length:=(List.getElem?_eq_some_iff.mp hd).1
      have hil:i < de.length:=(List.getElem?_eq_some_iff.mp hdi).1
      have ui:upd (upd A i []) j (l::B') i=[]:=by rw[zo hij,zp]
      have uo:∀k,k≠i->k≠j->upd (upd A i []) j (l::B') k=A k:=fun k a b=>by rw[zo b,zo a]
      have ll2:=l2.len
      refine ⟨l,xs,hej,l2 l _ hm,r.len,upd (upd A i []) j (l::B'),?_⟩
      refine I.put l2 (j:=j) (l:=l) (xs:=xs) (by rw[hA];simp) _ ?_ ?_ ?_ ?_ (by simp) rfl ?_ ?_
      .intro k x hx
       left
       by_cases e:k=j
       .rw[e,zp] at hx
        rcases sub x hx with q | q
        .exact ⟨j,q⟩
        .exact ⟨i,q⟩
       .by_cases f:k=i
        .rw[f,ui] at hx;cases hx
        .rw[uo k f e] at hx;exact ⟨k,hx⟩
      .intro k
       by_cases e:k=j
       .rw[e,zp];exact List.nodup_cons.mpr ⟨lB',nB'⟩
       .by_cases f:k=i
        .rw[f,ui];simp
        .rw[uo k f e];exact I.nd k
      .have main:∀k x,k≠j->x∈l::B'->x∈upd (upd A i []) j (l::B') k->False:=by
        intro k x e hx hk
        by_cases f:k=i
        .rw[f,ui] at hk;cases hk
        .rw[uo k f e] at hk
         rcases sub x hx with q | q
         .exact e (I.dj k j x hk q)
         .exact f (I.dj k i x hk q)
       intro a b x ha hb
       by_cases e:a=j
       .by_cases f:b=j
        .rw[e,f]
        .rw[e,zp] at ha;exact (main b x f ha hb).elim
       .by_cases f:b=j
        .rw[f,zp] at hb;exact (main a x e hb ha).elim
        .by_cases g:a=i
         .rw[g,ui] at ha;cases ha
         .by_cases h:b=i
          .rw[h,ui] at hb;cases hb
          .rw[uo a g e] at ha;rw[uo b h f] at hb;exact I.dj a b x ha hb
      .intro k x hx
       by_cases e:k=j
       .rw[e,zp] at hx
        rcases sub x hx with q | q
        .exact ⟨(I.bd j x q).1,Nat.lt_of_lt_of_le (I.bd j x q).2 ll2⟩
        .exact ⟨(I.bd i x q).1,Nat.lt_of_lt_of_le (I.bd i x q).2 ll2⟩
       .by_cases f:k=i
        .rw[f,ui] at hx;cases hx
        .rw[uo k f e] at hx;exact ⟨(I.bd k x hx).1,Nat.lt_of_lt_of_le (I.bd k x hx).2 ll2⟩
      .intro k d' lk e g1 g2
       rw[List.getElem?_set_ne (Ne.symm e)] at g1
       by_cases f:k=i
       .rw[f,List.getElem?_set,if_pos rfl,if_pos hil] at g1;cases g1
       .rw[List.getElem?_set_ne (Ne.symm f)] at g1
        exact ⟨g1,g2,uo k f e⟩
      .intro d' lj g1 g2
       rw[List.getElem?_set,if_pos rfl,if_pos (by simpa using hjl)] at g1
       cases g1
       rw[hfull.2] at g2;cases g2
       refine ⟨_,hej,?_⟩
       rw[zp]
       exact own_lst.mpr ⟨l,_,B',rfl,rfl,yL (l2 l _ hm),OwnL.frame _ _ B' (fun x hx o z=>by rw[zO (l:=l) (x:=x) (fun e=>lB' (by rw[e];exact hx))];exact l2 x o z) o⟩
     .cases g;exact share rfl rfl
    .cases g;exact share rfl rfl
end
section
variable {lev:Nat->Lv}{cl:Nat->List Wd->Me->Rz}{cd:Nat->List Dat->Rd}{lo:Nat}{RR:Nat->Prop}{m:Me}{de:DEn}{lv:List Lv}{env:En}{A:Nat->List Nat}
theorem zf4 {n:Mth}{o e:Ex}{x w:Wd}{m1 m2:Me}(h1:evE cl o env m=.ok x m1)(h2:evE cl e env m1=.ok w m2):evE cl (.meth n o (.pair e .unit)) env m=mtR n x [w] m2:=by
 show (evE cl o env m).bind (fun x m1=>((evE cl e env m1).bind fun a m2=>.ok (.tup [a]) m2).bind fun y m2=>mtR n x (zv y) m2)=_
 rw[h1]
 show (((evE cl e env m1).bind fun a m2=>.ok (.tup [a]) m2).bind fun y m2=>mtR n x (zv y) m2)=_
 rw[h2]
 rfl
theorem zat {n:Mth}{o:Ex}{x:Wd}{m1:Me}(h1:evE cl o env m=.ok x m1):evE cl (.meth n o .unit) env m=mtR n x [] m1:=by
 show (evE cl o env m).bind (fun x m1=>mtR n x [] m1)=_
 rw[h1]
 rfl
theorem zed {m:Me}{ds:List Dat}{xs:List Wd}{d:Dat}{w:Wd}{B B0:List Nat}(n:(B++B0).Nodup)(a:OwnL m ds xs B)(b:Own m d w B0):∃B',OwnL m (ds++[d]) (xs++[w]) B'/\B'.Nodup/\∀b∈B',b∈B\/b∈B0 :=
 ⟨B++(B0++[]),a.app (.cons b .nil),by simpa using n,fun x hx=>by simpa using hx⟩
theorem zee {m:Me}{ds:List Dat}{xs:List Wd}{d:Dat}{w:Wd}{B B0:List Nat}(p:Nat)(n:(B++B0).Nodup)(a:OwnL m ds xs B)(b:Own m d w B0):∃B',OwnL m (ds.set p d) (xs.set p w) B'/\B'.Nodup/\∀b∈B',b∈B\/b∈B0:=by
 cases hp:ds[p]? with
 | none =>
  have h1:ds.length<=p:=List.getElem?_eq_none_iff.mp hp
  rw[List.set_eq_of_length_le h1,List.set_eq_of_length_le (by rw[<- a.len];exact h1)]
  exact ⟨B,a,(List.nodup_append.mp n).1,fun b hb=>.inl hb⟩
 | some e =>
  refine cps fun zP zk=>?_
  obtain ⟨y,B1,Bp,B2,h1,rfl,h3,_,h4⟩:=OwnL.split a hp
  refine zk ?_
  refine ⟨B1++(B0++B2),h4 m d w B0 (fun l _ o z=>z) b,?_,?_⟩
  .refine cps fun zP zj=>?_
   obtain ⟨q1,q2,q3⟩:=List.nodup_append.mp n
   obtain ⟨n1,n2,n3⟩:=List.nodup_append.mp q1
   obtain ⟨n4,n5,n6⟩:=List.nodup_append.mp n2
   refine zj ?_
   refine List.nodup_append.mpr ⟨n1,List.nodup_append.mpr ⟨q2,n5,fun x hx y hy e=>q3 y (by simp[hy]) x hx e.symm⟩,fun x hx y hy e=>?_⟩
   rcases List.mem_append.mp hy with hy | hy
   .exact q3 x (by simp[hx]) y hy e
   .exact n3 x hx y (by simp[hy]) e
  .intro x hx
   simp only[List.mem_append] at hx ⊢
   rcases hx with z | z | z
   .exact .inl (.inl z)
   .exact .inr z
   .exact .inl (.inr (.inr z))
theorem SimS.okS {r:Rs}{rd:Rd}{g:Dat->Rsd}(h:∀d,rd=.ok d->SimS lo RR A m r (g d)):SimS lo RR A m r (rd.okS g):=by
 cases rd with
 | ok d=>exact h d rfl
 | _=>trivial
theorem Inv.ok (H:CallR cl cd)(I:Inv lo RR m de lv env A){e:Ex}{d:Dat}(h:evD cd e de=.ok d){m1:Me}(l:Le m m1):∃w m2,evE cl e env m1=.ok w m2/\Le m1 m2/\Rep RR m2 d w:=by
 have q:=zq H e RR m1 de env ((I.ext l).envR _)
 rw[h] at q
 obtain ⟨w,m2,a,b,c⟩:=q
 exact ⟨w,m2,a,b,(I.ext l).rf c⟩
set_option tactic.hygienic true in
theorem zcE (H:CallO lev cl cd)(I:Inv lo RR m de lv env A)(j:Nat)(e:Ex):SimS lo RR A m (exS cl (.expr (.meth .append (.var j) (.pair e .unit))) env m) (exD lev cd (.expr (.meth .append (.var j) (.pair e .unit))) de lv):=by
 show SimS _ _ _ _ ((evE cl _ env m).bindS env _) _
 refine SimS.okS fun d h1=>?_
 split
 .next ds hl =>
  split
  .next hlim =>
   split
   .next de1 lv1 g =>
    refine cps fun zP zk=>?_
    obtain ⟨w,m1,h2,l1,r1⟩:=I.ok H.r h1 (Le.refl m)
    obtain ⟨l,xs,he,hm,hlen,A',I',K⟩:=gD H I (vh hl) h1 h2 l1 (Le.refl m1) g (fun ds d=>ds++[d]) (fun xs w=>xs++[w])
     (fun _ _ _ _ _ _ _ _ le o nd hB=>zeb le o nd hB) (fun _ _ _ _ _ _ _ n a b=>zed n a b) (fun _ _ _ _ _ _ a b=>a.app (.cons b .nil))
    refine zk ?_
    rw[zf4 (wL he m) h2]
    have:mtR .append (.ref l) [w] m1=.ok .non (m1.set l (.lst (xs++[w]))):=by
     simp only[mtR,hm];rw[if_pos (by lia)]
    rw[this]
    exact ⟨_,_,A',rfl,I',K⟩
   .trivial
  .trivial
 .trivial
set_option tactic.hygienic true in
theorem zcF (I:Inv lo RR m de lv env A)(j:Nat):SimS lo RR A m (exS cl (.expr (.meth .reverse (.var j) .unit)) env m) (exD lev cd (.expr (.meth .reverse (.var j) .unit)) de lv):=by
 show SimS _ _ _ _ ((evE cl _ env m).bindS env _) (match xa de j with
   | some ds=>if zX lv j then .next (de.set j (some (.lst ds.reverse))) lv else .no
   | none=>.no)
 split
 .next ds hl =>
  split
  .next ho =>
   refine cps fun zP zk=>?_
   obtain ⟨l,xs,he,hm,hr,put⟩:=I.mut (vh hl) ho
   obtain ⟨A',I',K⟩:=put m ds.reverse xs.reverse (Le.refl m) (fun _=>(chg_rev (RR:=RR) (A:=A)).1) (fun _=>chg_rev.2)
   refine zk ?_
   rw[zat (wL he m)]
   have:mtR .reverse (.ref l) [] m=.ok .non (m.set l (.lst xs.reverse)):=by simp only[mtR,hm]
   rw[this]
   exact ⟨_,_,A',rfl,I',K⟩
  .trivial
 .trivial
theorem zcG (H:CallR cl cd)(I:Inv lo RR m de lv env A){j p:Nat}{r:Ex}{k:Int}{ds:List Dat}{l l2:Nat}{xs:List Wd}(hr:evD cd r de=.ok (.int k))(hp:ix ds.length k=some p)(he:env[j]?=some (some (.ref l)))(hm:m[l]?=some (.lst xs))(hlen:ds.length=xs.length)(hx:xs[p]?=some (.ref l2)){m0:Me}(l0:Le m m0):
  ∃m1,evE cl (.idx (.var j) r) env m0=.ok (.ref l2) m1/\Le m0 m1:=by
 refine cps fun zP zk=>?_
 obtain ⟨w,m1,h2,l1,r1⟩:=I.ok H hr l0
 refine zk ?_
 rw[rep_int.mp r1] at h2
 refine ⟨m1,?_,l1⟩
 show (evE cl (.var j) env m0).bind (fun x m1=>(evE cl r env m1).bind fun y m2=>w6 x y m2)=_
 rw[wL he m0]
 simp only[Rz.bind,h2]
 exact zf3 (l1 l _ (l0 l _ hm)) (by rw[<- hlen];exact hp) hx
theorem zau {r:Rs}{o:Option DEn}{lv1:List Lv}(h:∀de1,o=some de1->SimS lo RR A m r (.next de1 lv1)):SimS lo RR A m r (toS o lv1):=by
 cases o with
 | none=>trivial
 | some d=>exact h d rfl
end
section
variable {lev:Nat->Lv}{cl:Nat->List Wd->Me->Rz}{cd:Nat->List Dat->Rd}{lo:Nat}{RR:Nat->Prop}{m:Me}{de:DEn}{lv:List Lv}{env:En}{A:Nat->List Nat}
mutual
theorem Rep.avoid {R R':Nat->Prop}{m:Me}{D:Dat}{l:Nat}(hD:Rep R' m D (.ref l)):∀ (d:Dat) (w:Wd),dep d < dep D->Rep R m d w->Rep (fun x=>R x/\x≠l) m d w
 | .non,w,h,q=>rep_non.mpr (rep_non.mp q)
 | .bl _,w,h,q=>rep_bl.mpr (rep_bl.mp q)
 | .int _,w,h,q=>rep_int.mpr (rep_int.mp q)
 | .str _,w,h,q=>rep_str.mpr (rep_str.mp q)
 | .scr _,w,h,q=>rep_scr.mpr (rep_scr.mp q)
 | .tup ds,w,h,q=>by
  obtain ⟨xs,rfl,q1⟩:=rep_tup.mp q
  exact rep_tup.mpr ⟨xs,rfl,RepL.avoid hD ds xs (by rw[show dep (.tup ds)=depL ds+1 from by simp[dep]] at h;lia) q1⟩
 | .lst ds,w,h,q=>by
  obtain ⟨k,xs,rfl,r,hm,q1⟩:=rep_lst.mp q
  refine rep_lst.mpr ⟨k,xs,rfl,⟨r,fun e=>?_⟩,hm,RepL.avoid hD ds xs (by rw[show dep (.lst ds)=depL ds+1 from by simp[dep]] at h;lia) q1⟩
  subst e
  have:=Rep.det _ _ _ q hD
  rw[this] at h
  lia
theorem RepL.avoid {R R':Nat->Prop}{m:Me}{D:Dat}{l:Nat}(hD:Rep R' m D (.ref l)):∀ (ds:List Dat) (xs:List Wd),depL ds < dep D->RepL R m ds xs->RepL (fun x=>R x/\x≠l) m ds xs
 | [],xs,h,q=>by rw[q.nil_inv];exact .nil
 | d::ds,xs,h,q=>by
  obtain ⟨x,r,rfl,a,b⟩:=q.cons_inv
  unfold depL at h
  exact .cons (Rep.avoid hD d x (by lia) a) (RepL.avoid hD ds r (by lia) b)
end
theorem jN {m:Me}{l p:Nat}{xs:List Wd}{k:Int}{w:Wd}(hm:m[l]?=some (.lst xs))(hk:ix xs.length k=some p):jw (.ref l) (.int k) w m=.ok .non (m.set l (.lst (xs.set p w))):=by
 simp[jw,hm,hk]
set_option tactic.hygienic true in
theorem zcH (H:CallO lev cl cd)(I:Inv lo RR m de lv env A)(j:Nat)(k e:Ex):SimS lo RR A m (exS cl (.asgS (.var j) k e) env m) (exD lev cd (.asgS (.var j) k e) de lv):=by
 show SimS _ _ _ _ ((evE cl e env m).bindS env _) _
 refine SimS.okS fun d h1=>SimS.okS fun kv hk=>?_
 unfold zhb
 split
 .next k' ds hl =>
  have hd:=vh hl
  split
  .next p hp =>
   refine cps fun zP zk=>?_
   obtain ⟨w,m1,h2,l1,r1⟩:=I.ok H.r h1 (Le.refl m)
   obtain ⟨wk,m2,h3,l2,r3⟩:=I.ok H.r hk l1
   refine zk ?_
   rw[rep_int.mp r3] at h3
   split
   .next de1 lv1 g =>
    refine cps fun zP zj=>?_
    obtain ⟨l,xs,he,hm,hlen,A',I',K⟩:=gD H I hd h1 h2 l1 l2 g (fun ds d=>ds.set p d) (fun xs w=>xs.set p w)
     (fun _ _ _ _ _ _ _ _ le o nd hB=>zap p le o nd hB) (fun _ _ _ _ _ _ _ n a b=>zee p n a b) (fun _ _ _ _ _ _ a b=>a.set p b)
    refine zj ?_
    simp only[h2,Rz.bindS,wL he m1,h3,jN hm (by rw[<- hlen];exact hp)]
    exact ⟨_,_,A',rfl,I',K⟩
   .next g =>
    split
    .next c =>
     simp only[Bool.and_eq_true,decide_eq_true_eq] at c
     refine cps fun zP zi=>?_
     obtain ⟨⟨ho,hdep⟩,_⟩:=c
     obtain ⟨l,xs,A0,I0,K0,g1,g2,he,hm,hr,hlA⟩:=I.top j hd ho
     obtain ⟨A1,I1,K1,q1,q2,q3⟩:=Inv.downs ((zw e).filter (·≠j)) I0
     have hA1j:A1 j=[l]:=by rw[q3 j (by simp),g1]
     have elv:downs ((zw e).filter (·≠j)) (lv.set j .top)=(downs (zw e) lv).set j .top:=by
      apply List.ext_getElem?
      intro i
      rw[yU,List.getElem?_set]
      by_cases ei:j=i
      .subst ei
       rw[if_neg (by simp),if_pos rfl,List.getElem?_set,if_pos rfl,downs_len]
      .rw[if_neg ei,List.getElem?_set_ne ei,yU,List.length_set]
       have:(i∈(zw e).filter (·≠j))↔i∈zw e:=by simp[List.mem_filter];intro _;exact fun z=>ei z.symm
       simp only[this]
     rw[elv] at I1
     have lno:∀i∈zw e,i≠j->∀x,((downs (zw e) lv).set j .top)[i]?=some x->x=.no:=by
      intro i hi hij x hx
      rw[List.getElem?_set_ne (Ne.symm hij),yU] at hx
      split at hx
      .cases hx;rfl
      .next z=>rw[List.getElem?_eq_none (by have:¬ i < lv.length:=fun q=>z ⟨hi,q⟩;lia)] at hx;cases hx
     have hr1:RepL (yK RR A1) m ds xs:=(K1.repL hr)
     have env1:EnvR (fun x=>yK RR A1 x\/x=l) m (zw e) de env:=by
      refine ⟨I1.len,fun i hi d' hd'=>?_⟩
      by_cases ei:i=j
      .subst ei
       rw[hd] at hd';cases hd'
       exact ⟨_,he,rep_lst.mpr ⟨l,xs,rfl,.inr rfl,hm,RepL.frame (fun x o r z=>⟨.inl r,z⟩) _ _ hr1⟩⟩
      .refine cps fun zP zh=>?_
       obtain ⟨li,hli⟩:=I1.getlv hd'
       obtain ⟨w',a,b⟩:=I1.slot i d' li hd' hli
       refine zh ?_
       rw[lno i hi ei li hli] at b
       exact ⟨w',a,Rep.frame (fun x o r z=>⟨.inl r,z⟩) _ _ b.1⟩
     have hs:=zq H.r e _ m de env env1
     rw[h1] at hs
     obtain ⟨w',m1',h2',_,rw1⟩:=hs
     rw[h2] at h2';cases h2'
     have rwa:=Rep.avoid (D:=.lst ds) (l:=l) (R':=fun _=>True) (m:=m1) (rep_lst.mpr ⟨l,xs,rfl,trivial,l1 l _ hm,RepL.frame (fun x o r z=>⟨trivial,l1 x o z⟩) _ _ hr1⟩) d w hdep rw1
     have hlm:=(List.getElem?_eq_some_iff.mp hm).1
     have hjl:j < lv.length:=by rw[I.lvl];exact (List.getElem?_eq_some_iff.mp hd).1
     have hlv:((downs (zw e) lv).set j .top)[j]?=some .top:=by rw[List.getElem?_set,if_pos rfl,if_pos (by rw[downs_len];exact hjl)]
     obtain ⟨l',xs',he',hm',hrr,put⟩:=I1.mut hd (by unfold zX;rw[hlv])
     rw[he] at he';cases he'
     rw[hm] at hm';cases hm'
     obtain ⟨A3,I3,K3⟩:=put m2 (ds.set p d) (xs.set p w) (l1.trans l2) (fun z=>by rw[hlv] at z;cases z) (fun _ q=>by
      refine RepL.set (RepL.frame (fun x o r z=>⟨.inl r,(l1.trans l2) x o z⟩) _ _ q) p (Rep.frame (fun x o r z=>⟨?_,l2 x o z⟩) _ _ rwa)
      rcases r.1 with (r1 | r1) | r1
      .exact .inl r1
      .exact absurd r1 r.2
      .exact .inr r1)
     refine zi ?_
     simp only[h2,Rz.bindS,wL he m1,h3,jN (l2 l _ (l1 l _ hm)) (by rw[<- hr.len];exact hp)]
     exact ⟨_,_,A3,rfl,I3,(K0.trans K1).trans K3⟩
    .trivial
  .trivial
 .trivial
set_option tactic.hygienic true in
theorem gE {k d:Dat}{es es1:List Dat}(h:kE k d es=some es1):∃i p,k=.int i/\ix es.length i=some p/\es1=es.set p d:=by
 unfold kE at h
 split at h
 .next i=>obtain ⟨p,a,b⟩:=Option.map_eq_some_iff.mp h;exact ⟨i,p,rfl,a,b.symm⟩
 .cases h
theorem zcI (H:CallO lev cl cd)(I:Inv lo RR m de lv env A)(j:Nat)(r k e:Ex):SimS lo RR A m (exS cl (.asgS (.idx (.var j) r) k e) env m) (exD lev cd (.asgS (.idx (.var j) r) k e) de lv):=by
 show SimS _ _ _ _ ((evE cl e env m).bindS env _) _
 refine SimS.okS fun d h1=>SimS.okS fun rv hr=>SimS.okS fun kv hk=>?_
 obtain ⟨w,m1,h2,l1,r1⟩:=I.ok H.r h1 (Le.refl m)
 split
 .next f =>
  refine zau fun de1 h=>?_
  refine cps fun zP zk=>?_
  obtain ⟨rk,ds,p,es,es1,rfl,hd,hp,hps,hf,hlv,rfl⟩:=zas h
  obtain ⟨i,q,rfl,hq,rfl⟩:=gE hf
  obtain ⟨l,xs,l2,us,he,hm,hx,hm2,hlen,hrep,put,_⟩:=I.mutIn hd hlv hps
  obtain ⟨m2,h3,l2'⟩:=zcG H.r I hr hp he hm hlen hx l1
  obtain ⟨wk,m3,h4,l3,r4⟩:=I.ok H.r hk (l1.trans l2')
  rw[rep_int.mp r4] at h4
  obtain ⟨B,ro,nd,hB⟩:=I.own H h1 h2
  rw[f] at ro
  have l123:=(l1.trans l2').trans l3
  have ro':Own m3 d w B:=Own.frame d w B (fun x _ o z=>l3 x o (l2' x o z)) ro
  have ch:Chg RR A m m3 es us (es.set q d) (us.set q w):=zap q l123 ro' nd hB
  obtain ⟨A',I',K⟩:=put m3 _ _ l123 ch.1
  refine zk ?_
  simp only[h2,Rz.bindS,h3,h4,jN (l123 _ _ hm2) (by rw[<- hrep.len];exact hq)]
  exact ⟨_,_,A',rfl,I',K⟩
 .next f =>
  split
  .trivial
  .next hj =>
   refine zau fun de1 h=>?_
   refine cps fun zP zj=>?_
   obtain ⟨rk,ds,p,es,es1,rfl,hd,hp,hps,hf,hlv,rfl⟩:=zas h
   obtain ⟨i,q,rfl,hq,rfl⟩:=gE hf
   obtain ⟨A1,I1,K1,_,hso⟩:=I.relEv H e
   rw[h1] at hso
   obtain ⟨w',m1',h2',_,rw1⟩:=hso.sim
   rw[h2] at h2';cases h2'
   obtain ⟨l,xs,l2,us,he,hm,hx,hm2,hlen,hrep,_,put⟩:=I1.mutIn hd (by rw[zar e _ _ hj];exact hlv) hps
   obtain ⟨m2,h3,l2'⟩:=zcG H.r I hr hp he hm hlen hx l1
   obtain ⟨wk,m3,h4,l3,r4⟩:=I.ok H.r hk (l1.trans l2')
   rw[rep_int.mp r4] at h4
   have l123:=(l1.trans l2').trans l3
   obtain ⟨A',I',K⟩:=put m3 q d w l123 (Rep.frame (fun x o r z=>⟨r,l3 x o (l2' x o z)⟩) _ _ rw1)
   refine zj ?_
   simp only[h2,Rz.bindS,h3,h4,jN (l123 _ _ hm2) (by rw[<- hrep.len];exact hq)]
   exact ⟨_,_,A',rfl,I',K1.trans K⟩
end
section
variable {lev:Nat->Lv}{cl:Nat->List Wd->Me->Rz}{cd:Nat->List Dat->Rd}{lo:Nat}{RR:Nat->Prop}
theorem Inv.bindSlot {m:Me}{de:DEn}{lv:List Lv}{env:En}{A:Nat->List Nat}(I:Inv lo RR m de lv env A)(i:Nat){d:Dat}{w:Wd}(h:Rep (yK RR A) m d w):Inv lo RR m (de.set i (some d)) (lv.set i (lvF d)) (env.set i (some w)) (upd A i [])/\Keep A m (upd A i []) m:=by
 refine I.store (Le.refl m) i (B:=[]) ?_ List.nodup_nil (by simp)
 unfold lvF
 split
 .next f=>exact h.flat d w f
 .exact ⟨Rep.frame (fun x o r z=>⟨⟨.inl r,by simp⟩,z⟩) _ _ h,rfl⟩
theorem wD {bw:Wd->En->Me->Rs}{bd:Dat->DEn->List Lv->Rsd}(hb:∀x w m de lv env A,Inv lo RR m de lv env A->Rep (yK RR A) m x w->SimS lo RR A m (bw w env m) (bd x de lv)):
  ∀ (ds:List Dat) (xs:List Wd) (m:Me) (de:DEn) (lv:List Lv) (env:En) (A:Nat->List Nat),Inv lo RR m de lv env A->RepL (yK RR A) m ds xs->SimS lo RR A m (wK bw xs env m) (yJ bd ds de lv)
 | [],xs,m,de,lv,env,A,I,r=>by
  rw[r.nil_inv]
  exact ⟨env,m,A,rfl,I,Keep.refl A m⟩
 | d::ds,xs,m,de,lv,env,A,I,r=>by
  refine cps fun zP zk=>?_
  obtain ⟨x,xs,rfl,a,b⟩:=r.cons_inv
  refine zk ?_
  have h:=hb d x m de lv env A I a
  unfold wK yJ
  cases z:bd d de lv with
  | next d1 l1 =>
   rw[z] at h
   refine cps fun zP zj=>?_
   obtain ⟨e1,m1,A1,h1,I1,K1⟩:=h
   refine zj ?_
   rw[h1]
   exact SimS.keep K1 (wD hb ds xs m1 d1 l1 e1 A1 I1 (K1.repL b))
  | cont d1 l1 =>
   rw[z] at h
   refine cps fun zP zi=>?_
   obtain ⟨e1,m1,A1,h1,I1,K1⟩:=h
   refine zi ?_
   rw[h1]
   exact SimS.keep K1 (wD hb ds xs m1 d1 l1 e1 A1 I1 (K1.repL b))
  | brk d1 l1 =>
   rw[z] at h
   refine cps fun zP zh=>?_
   obtain ⟨e1,m1,A1,h1,I1,K1⟩:=h
   refine zh ?_
   rw[h1]
   exact ⟨e1,m1,A1,rfl,I1,K1⟩
  | ret d l =>
   rw[z] at h
   refine cps fun zP zg=>?_
   obtain ⟨w,m1,B,h1,k⟩:=h
   refine zg ?_
   rw[h1]
   exact ⟨w,m1,B,rfl,k⟩
  | exc c d =>
   rw[z] at h
   refine cps fun zP zf=>?_
   obtain ⟨w,e,m1,h1,k⟩:=h
   refine zf ?_
   rw[h1]
   exact ⟨w,e,m1,rfl,k⟩
  | no=>trivial
theorem vF {bw:Wd->En->Me->Rs}{bd:Dat->DEn->List Lv->Rsd}(hb:∀x w m de lv env A,Inv lo RR m de lv env A->Rep (yK RR A) m x w->SimS lo RR A m (bw w env m) (bd x de lv)){l:Nat}{xs0:List Wd}:
  ∀ (ds:List Dat) (i k:Nat) (m:Me) (de:DEn) (lv:List Lv) (env:En) (A:Nat->List Nat),Inv lo RR m de lv env A->(∀k,l∉A k)->m[l]?=some (.lst xs0)->RepL (yK RR A) m ds (xs0.drop i)->i+ds.length=xs0.length->ds.length < k->SimS lo RR A m (x9 bw l k i env m) (yJ bd ds de lv)
 | [],i,0,m,de,lv,env,A,I,hl,hm,r,hi,hk=>by simp at hk
 | d::ds,i,0,m,de,lv,env,A,I,hl,hm,r,hi,hk=>by simp at hk
 | [],i,k+1,m,de,lv,env,A,I,hl,hm,r,hi,hk=>by
  unfold x9 yJ zN
  rw[hm]
  simp only
  rw[List.getElem?_eq_none (by simp at hi;lia)]
  exact ⟨env,m,A,rfl,I,Keep.refl A m⟩
 | d::ds,i,k+1,m,de,lv,env,A,I,hl,hm,r,hi,hk=>by
  refine cps fun zP zk=>?_
  obtain ⟨x,q,e0,a,b⟩:=r.cons_inv
  refine zk ?_
  have hx:xs0[i]?=some x:=by
   have:(xs0.drop i)[0]?=some x:=by rw[e0];rfl
   simpa using this
  have hr:q=xs0.drop (i+1):=by
   have:(xs0.drop i).drop 1=q:=by rw[e0];rfl
   rw[<- this,List.drop_drop]
  rw[hr] at b
  have hi':i+1+ds.length=xs0.length:=by simp at hi;lia
  have hk':ds.length < k:=by simp at hk;lia
  have h:=hb d x m de lv env A I a
  unfold x9 yJ zN
  rw[hm]
  simp only
  rw[hx]
  simp only
  cases z:bd d de lv with
  | next d1 l1 =>
   rw[z] at h
   refine cps fun zP zj=>?_
   obtain ⟨e1,m1,A1,h1,I1,K1⟩:=h
   refine zj ?_
   rw[h1]
   exact SimS.keep K1 (vF hb ds (i+1) k m1 d1 l1 e1 A1 I1 (K1.1 l _ hl hm).1 (K1.1 l _ hl hm).2 (K1.repL b) hi' hk')
  | cont d1 l1 =>
   rw[z] at h
   refine cps fun zP zi=>?_
   obtain ⟨e1,m1,A1,h1,I1,K1⟩:=h
   refine zi ?_
   rw[h1]
   exact SimS.keep K1 (vF hb ds (i+1) k m1 d1 l1 e1 A1 I1 (K1.1 l _ hl hm).1 (K1.1 l _ hl hm).2 (K1.repL b) hi' hk')
  | brk d1 l1 =>
   rw[z] at h
   refine cps fun zP zh=>?_
   obtain ⟨e1,m1,A1,h1,I1,K1⟩:=h
   refine zh ?_
   rw[h1]
   exact ⟨e1,m1,A1,rfl,I1,K1⟩
  | ret d l =>
   rw[z] at h
   refine cps fun zP zg=>?_
   obtain ⟨w,m1,B,h1,k⟩:=h
   refine zg ?_
   rw[h1]
   exact ⟨w,m1,B,rfl,k⟩
  | exc c d =>
   rw[z] at h
   refine cps fun zP zf=>?_
   obtain ⟨w,e,m1,h1,k⟩:=h
   refine zf ?_
   rw[h1]
   exact ⟨w,e,m1,rfl,k⟩
  | no=>trivial
theorem zav {bw:Wd->En->Me->Rs}{bd:Dat->DEn->List Lv->Rsd}(H:CallO lev cl cd)(hb:∀x w m de lv env A,Inv lo RR m de lv env A->Rep (yK RR A) m x w->SimS lo RR A m (bw w env m) (bd x de lv)){m:Me}{de:DEn}{lv:List Lv}{env:En}{A:Nat->List Nat}(I:Inv lo RR m de lv env A)(it:Ex):
  SimS lo RR A m ((evE cl it env m).bindS env fun w m1=>zaT bw w env m1) ((evD cd it de).bindS fun d=>match itD d with
   | some xs=>yJ bd xs de (if flat d then lv else y9 it de lv)
   | none=>.no):=by
 have run:∀ (d:Dat) (w:Wd) (m1:Me) (xs:List Dat) (lv1:List Lv) (A1:Nat->List Nat),itD d=some xs->Inv lo RR m1 de lv1 env A1->Rep (yK RR A1) m1 d w->SimS lo RR A1 m1 (zaT bw w env m1) (yJ bd xs de lv1):=by
  intro d w m1 xs lv1 A1 hi I1 r
  cases d with
  | tup ds=>cases hi;obtain ⟨ys,rfl,r1⟩:=rep_tup.mp r;exact wD hb _ _ _ _ _ _ _ I1 r1
  | scr ns=>cases hi;rw[rep_scr.mp r];exact wD hb _ _ _ _ _ _ _ I1 (zig ns)
  | lst ds =>
   simp only[itD] at hi
   split at hi
   .next z =>
    cases hi
    refine cps fun zP zk=>?_
    obtain ⟨l,ys,rfl,hR,hm,r1⟩:=rep_lst.mp r
    refine zk ?_
    have:=r1.len
    exact vF hb _ 0 (lim+1) m1 de lv1 env A1 I1 hR.2 hm (by simpa using r1) (by lia) (by lia)
   .cases hi
  | _=>cases hi
 cases z:evD cd it de with
 | no=>trivial
 | exc c d =>
  have:=I.bindE H.r it (f:=fun w m1=>zaT bw w env m1) (g:=fun d=>.no) (fun _ _ _ _ _ _ _=>trivial)
  rw[z] at this;exact this
 | ok d =>
  show SimS lo RR A m _ (match itD d with
   | some xs=>yJ bd xs de (if flat d then lv else y9 it de lv)
   | none=>.no)
  cases hi:itD d with
  | none=>trivial
  | some xs =>
   simp only
   split
   .next f =>
    refine cps fun zP zj=>?_
    obtain ⟨w,m1,h2,l1,r1⟩:=I.ok H.r z (Le.refl m)
    refine zj ?_
    rw[h2]
    exact SimS.keep (vg l1) (run d w m1 xs lv A hi (I.ext l1) (Own.rep d w [] (by simp) (r1.flat d w f)))
   .refine cps fun zP zi=>?_
    obtain ⟨A1,I1,K1,_,h⟩:=I.relEv H it
    rw[z] at h
    obtain ⟨w,m1,h2,l1,r1⟩:=h.sim
    refine zi ?_
    rw[h2]
    refine SimS.keep (K1.trans (vg l1)) (run d w m1 xs _ A1 hi (I1.ext l1) (Rep.frame (fun x o r z=>⟨?_,z⟩) _ _ r1))
    rcases r with r | r
    .exact r
    .exact ⟨I.rr x (Nat.le_trans I.lom r),fun k hk=>by have:=(I1.bd k x hk).2;lia⟩
theorem vG {cw:En->Me->Rz}{bw:En->Me->Rs}{c:DEn->Rd}{bd:DEn->List Lv->Rsd}(hc:∀m de lv env A,Inv lo RR m de lv env A->match c de with | .ok d=>∃w m1,cw env m=.ok w m1/\Le m m1/\Rep RR m1 d w | .exc k d=>∃w m1,cw env m=.exc k w m1/\Le m m1/\Rep RR m1 d w | .no=>True)
  (hb:∀m de lv env A,Inv lo RR m de lv env A->SimS lo RR A m (bw env m) (bd de lv)):∀ (k:Nat) (m:Me) (de:DEn) (lv:List Lv) (env:En) (A:Nat->List Nat),Inv lo RR m de lv env A->SimS lo RR A m (vK cw bw k env m) (xY c bd k de lv)
 | 0,m,de,lv,env,A,I=>trivial
 | k+1,m,de,lv,env,A,I=>by
  have h:=hc m de lv env A I
  unfold vK xY
  cases z:c de with
  | no=>trivial
  | exc j d =>
   rw[z] at h
   obtain ⟨w,m1,h1,l1,r1⟩:=h
   rw[h1]
   exact ⟨w,env,m1,rfl,⟨fun x o _ b=>l1 x o b,l1.len⟩,r1⟩
  | ok d =>
   rw[z] at h
   obtain ⟨w,m1,h1,l1,r1⟩:=h
   rw[h1]
   cases d with
   | bl b =>
    rw[rep_bl.mp r1]
    cases b with
    | false=>exact ⟨env,m1,A,rfl,I.ext l1,vg l1⟩
    | true =>
     have h2:=hb m1 de lv env A (I.ext l1)
     refine SimS.keep (vg l1) ?_
     simp only
     cases z2:bd de lv with
     | next d1 l2 =>
      rw[z2] at h2
      obtain ⟨e1,m2,A1,h3,I1,K1⟩:=h2
      rw[h3]
      exact SimS.keep K1 (vG hc hb k m2 d1 l2 e1 A1 I1)
     | cont d1 l2 =>
      rw[z2] at h2
      obtain ⟨e1,m2,A1,h3,I1,K1⟩:=h2
      rw[h3]
      exact SimS.keep K1 (vG hc hb k m2 d1 l2 e1 A1 I1)
     | brk d1 l2 =>
      rw[z2] at h2
      obtain ⟨e1,m2,A1,h3,I1,K1⟩:=h2
      rw[h3]
      exact ⟨e1,m2,A1,rfl,I1,K1⟩
     | ret d l =>
      rw[z2] at h2
      obtain ⟨w,m2,B,h3,k⟩:=h2
      rw[h3]
      exact ⟨w,m2,B,rfl,k⟩
     | exc c d =>
      rw[z2] at h2
      obtain ⟨w,e,m2,h3,k⟩:=h2
      rw[h3]
      exact ⟨w,e,m2,rfl,k⟩
     | no=>trivial
   | _=>trivial
set_option tactic.hygienic true in
theorem zcJ {m:Me}{de:DEn}{lv:List Lv}{env:En}{A:Nat->List Nat}(I:Inv lo RR m de lv env A)(j:Nat):SimS lo RR A m (exS cl (.expr (.meth .pop (.var j) .unit)) env m) (exD lev cd (.expr (.meth .pop (.var j) .unit)) de lv):=by
 show SimS _ _ _ _ ((evE cl _ env m).bindS env _) (match xa de j with
   | some ds=>if zX lv j && decide (ds.length≠0) then .next (de.set j (some (.lst ds.dropLast))) lv else .no
   | none=>.no)
 split
 .next ds hl =>
  split
  .next ho =>
   simp only[Bool.and_eq_true,decide_eq_true_eq] at ho
   obtain ⟨l,xs,he,hm,hr,put⟩:=I.mut (vh hl) ho.1
   obtain ⟨A',I',K⟩:=put m ds.dropLast xs.dropLast (Le.refl m) (fun _=>(gC (RR:=RR) (A:=A)).1) (fun _=>(gC (RR:=RR) (A:=A)).2)
   have e1:=hr.len
   obtain ⟨y,hy⟩:∃y,xs[xs.length - 1]?=some y:=⟨xs[xs.length - 1]'(by lia),List.getElem?_eq_getElem (by lia)⟩
   rw[zat (wL he m)]
   have:mtR .pop (.ref l) [] m=.ok y (m.set l (.lst xs.dropLast)):=by
    simp only[mtR,hm]
    rw[hy]
   rw[this]
   exact ⟨_,_,A',rfl,I',K⟩
  .trivial
 .trivial
set_option tactic.hygienic true in
theorem zef (H:CallO lev cl cd){m:Me}{de:DEn}{lv:List Lv}{env:En}{A:Nat->List Nat}(I:Inv lo RR m de lv env A)(e:Ex):SimS lo RR A m (exS cl (.ret e) env m) (exD lev cd (.ret e) de lv):=by
 show SimS _ _ _ _ ((evE cl e env m).bindS env _) ((evD cd e de).bindS _)
 cases z:evD cd e de with
 | no=>trivial
 | exc c d =>
  have:=I.bindE H.r e (f:=fun w m1=>.ret w m1) (g:=fun d=>.no) (fun _ _ _ _ _ _ _=>trivial)
  rw[z] at this;exact this
 | ok d =>
  obtain ⟨w,m1,h2,l1,r1⟩:=I.ok H.r z (Le.refl m)
  rw[h2]
  show SimS lo RR A m (.ret w m1) (.ret d (lvR lev e d lv))
  have kp:(∀ (x:Nat) o,(∀i,x∉A i)->m[x]?=some o->m1[x]?=some o)/\m.length<=m1.length:=⟨fun x o _ b=>l1 x o b,l1.len⟩
  have no:RepO (fun x=>RR x/\x∉([]:List Nat)) m1 .no d w []:=⟨Rep.frame (fun x o r z=>⟨⟨r,by simp⟩,z⟩) _ _ r1,rfl⟩
  by_cases f:flat d=true
  .refine ⟨w,m1,[],rfl,kp,?_,List.nodup_nil,by simp⟩
   unfold lvR;rw[if_pos f]
   exact r1.flat d w f
  .unfold lvR
   rw[if_neg f]
   split
   .next i =>
    have hdi:de[i]?=some (some d):=by
     exact zai z
    obtain ⟨l,hl⟩:=I.getlv hdi
    obtain ⟨w',he,ro⟩:=I.slot i d l hdi hl
    rw[wL he m] at h2;cases h2
    rw[hl]
    refine ⟨_,_,A i,rfl,kp,?_,I.nd i,fun b hb=>(I.bd i b hb).1⟩
    exact ro.frame (fun x o r z=>⟨⟨r.1,r.2 i⟩,z⟩) (fun _ _ _ z=>z)
   .next a b =>
    split
    .next c =>
     obtain ⟨hab,ha,hb⟩:=c
     have:∃da db,de[a]?=some (some da)/\de[b]?=some (some db)/\d=.tup [da,db]:=by
      have hz:evD cd (.tup (.pair (.var a) (.pair (.var b) .unit))) de=((evD cd (.var a) de).bind fun x=>((evD cd (.var b) de).bind fun y=>.ok (.tup [y])).bind fun y=>.ok (.tup (x::zT y))).bind fun x=>if (zT x).length<=lim then .ok (.tup (zT x)) else .no:=rfl
      rw[hz] at z
      cases q1:de[a]? with
      | none=>rw[yZ (.inl q1)] at z;cases z
      | some o=>cases o with
       | none=>rw[yZ (.inr q1)] at z;cases z
       | some da =>
        rw[xk q1] at z
        cases q2:de[b]? with
        | none=>rw[yZ (.inl q2)] at z;cases z
        | some o=>cases o with
         | none=>rw[yZ (.inr q2)] at z;cases z
         | some db =>
          rw[xk q2] at z
          simp[Rd.bind,zT,lim] at z
          exact ⟨da,db,rfl,rfl,z.symm⟩
     obtain ⟨da,db,h3,h4,rfl⟩:=this
     obtain ⟨wa,ea,oa⟩:=I.slot a da .full h3 ha
     obtain ⟨wb,eb,ob⟩:=I.slot b db .full h4 hb
     have hw:evE cl (.tup (.pair (.var a) (.pair (.var b) .unit))) env m=.ok (.tup [wa,wb]) m:=by
      show (((evE cl (.var a) env m).bind fun x m1=>((evE cl (.var b) env m1).bind fun y m2=>.ok (.tup [y]) m2).bind fun y m2=>.ok (.tup (x::zv y)) m2).bind fun x m1=>if (zv x).length<=lim then .ok (.tup (zv x)) m1 else .no)=_
      rw[wL ea m]
      simp only[Rz.bind]
      rw[wL eb m]
      simp[zv,lim]
     rw[hw] at h2;cases h2
     refine ⟨_,_,A a++(A b++[]),rfl,kp,own_tup.mpr ⟨_,rfl,.cons oa (.cons ob .nil)⟩,?_,?_⟩
     .rw[List.append_nil]
      exact List.nodup_append.mpr ⟨I.nd a,I.nd b,fun x hx y hy e=>hab (I.dj a b x hx (by rw[e];exact hy))⟩
     .intro x hx
      rw[List.append_nil] at hx
      rcases List.mem_append.mp hx with q | q
      .exact (I.bd a x q).1
      .exact (I.bd b x q).1
    .exact ⟨w,m1,[],rfl,kp,no,List.nodup_nil,by simp⟩
   .obtain ⟨B,ro,nd,hB⟩:=I.own H z h2
    exact ⟨w,m1,B,rfl,kp,ro,nd,fun b hb=>Nat.le_trans I.lom (hB b hb)⟩
set_option tactic.hygienic true in
theorem wm (H:CallO lev cl cd):∀ (s:Sm) (m:Me) (de:DEn) (lv:List Lv) (env:En) (A:Nat->List Nat),Inv lo RR m de lv env A->SimS lo RR A m (exS cl s env m) (exD lev cd s de lv)
 | .skip,m,de,lv,env,A,I=>by show SimS _ _ _ _ (.next env m) (.next de lv);exact ⟨env,m,A,rfl,I,Keep.refl A m⟩
 | .seq a b,m,de,lv,env,A,I=>by
  cases hv:yr a b with
  | some t=>rw[jL,hv];exact trivial
  | none =>
   have h:=wm H a m de lv env A I
   rw[jL,hv]
   show SimS _ _ _ _ (match exS cl a env m with
    | .next e1 m1=>exS cl b e1 m1
    | r=>r) _
   cases z:exD lev cd a de lv with
   | next d1 l1 =>
    rw[z] at h
    refine cps fun zP zk=>?_
    obtain ⟨e1,m1,A1,h1,I1,K1⟩:=h
    refine zk ?_
    rw[h1]
    exact SimS.keep K1 (wm H b m1 d1 l1 e1 A1 I1)
   | cont d1 l1 =>
    rw[z] at h
    refine cps fun zP zj=>?_
    obtain ⟨e1,m1,A1,h1,I1,K1⟩:=h
    refine zj ?_
    rw[h1]
    exact ⟨e1,m1,A1,rfl,I1,K1⟩
   | brk d1 l1 =>
    rw[z] at h
    refine cps fun zP zi=>?_
    obtain ⟨e1,m1,A1,h1,I1,K1⟩:=h
    refine zi ?_
    rw[h1]
    exact ⟨e1,m1,A1,rfl,I1,K1⟩
   | ret d l =>
    rw[z] at h
    obtain ⟨w,m1,B,h1,k⟩:=h
    rw[h1]
    exact ⟨w,m1,B,rfl,k⟩
   | exc c d =>
    rw[z] at h
    obtain ⟨w,e,m1,h1,k⟩:=h
    rw[h1]
    exact ⟨w,e,m1,rfl,k⟩
   | no=>trivial
 | .asg i e,m,de,lv,env,A,I=>zec H I i e
 | .asgS o k e,m,de,lv,env,A,I=>by
  cases o with
  | var j=>exact zcH H I j k e
  | idx a r =>
   cases a with
   | var j=>exact zcI H I j r k e
   | _=>exact trivial
  | _=>exact trivial
 | .ite c a b,m,de,lv,env,A,I=>by
  refine I.bindE H.r c fun d w m1 _ _ l1 r1=>?_
  cases d with
  | bl t =>
   rw[rep_bl.mp r1]
   cases t with
   | true=>exact wm H a m1 de lv env A (I.ext l1)
   | false=>exact wm H b m1 de lv env A (I.ext l1)
  | _=>trivial
 | .forv i it body,m,de,lv,env,A,I=>by
  refine zav H (fun x w m de lv env A I r=>?_) I it
  obtain ⟨I1,K1⟩:=I.bindSlot i r
  exact SimS.keep K1 (wm H body _ _ _ _ _ I1)
 | .fort i j it body,m,de,lv,env,A,I=>by
  refine zav H (fun x w m de lv env A I r=>?_) I it
  split
  .next a b =>
   refine cps fun zP zh=>?_
   obtain ⟨xs,rfl,r1⟩:=rep_tup.mp r
   obtain ⟨x,r2,rfl,ra,rb⟩:=r1.cons_inv
   obtain ⟨y,r3,rfl,rb,rn⟩:=rb.cons_inv
   refine zh ?_
   rw[rn.nil_inv]
   obtain ⟨I1,K1⟩:=I.bindSlot i ra
   obtain ⟨I2,K2⟩:=I1.bindSlot j (K1.rep rb)
   exact SimS.keep (K1.trans K2) (wm H body _ _ _ _ _ I2)
  .trivial
 | .while c body,m,de,lv,env,A,I=>by
  refine vG (fun m de lv env A I=>?_) (fun m de lv env A I=>wm H body m de lv env A I) _ m de lv env A I
  have h:=zq H.r c RR m de env (I.envR _)
  cases z:evD cd c de with
  | no=>trivial
  | ok d=>rw[z] at h;obtain ⟨w,m1,h1,l1,r1⟩:=h;exact ⟨w,m1,h1,l1,I.rf r1⟩
  | exc k d=>rw[z] at h;obtain ⟨w,m1,h1,l1,r1⟩:=h;exact ⟨w,m1,h1,l1,I.rf r1⟩
 | .ret e,m,de,lv,env,A,I=>zef H I e
 | .expr e,m,de,lv,env,A,I=>by
  have dflt:SimS lo RR A m (exS cl (.expr e) env m) ((evD cd e de).bindS fun _=>.next de lv):=by
   exact I.bindE H.r e fun d w m1 _ _ l1 _=>⟨env,m1,A,rfl,I.ext l1,Keep.refl A m1⟩
  cases e with
  | meth n o a=>
   cases n with
   | append=>
    cases o with
    | var j=>
     cases a with
     | pair e u=>cases u with
      | unit=>exact zcE H I j e
      | _=>exact trivial
     | _=>exact trivial
    | _=>exact trivial
   | reverse=>
    cases o with
    | var j=>
     cases a with
     | unit=>exact zcF (cl:=cl) (cd:=cd) (lev:=lev) I j
     | _=>exact trivial
    | _=>exact trivial
   | pop=>
    cases o with
    | var j=>
     cases a with
     | unit=>exact zcJ (cl:=cl) (cd:=cd) (lev:=lev) I j
     | _=>exact trivial
    | _=>exact trivial
   | _=>exact trivial
  | _=>exact dflt
 | .never,m,de,lv,env,A,I=>by exact trivial
end
theorem jj {α β:Type}(f:α->β)(z:β)(xs:List α)(n i:Nat):(xs.map f++List.replicate n z)[i]?=if i < xs.length then (xs[i]?).map f else if i < xs.length+n then some z else none:=by
 rw[List.getElem?_append,List.length_map]
 split
 .rw[List.getElem?_map]
 .rw[List.getElem?_replicate]
  by_cases h:i - xs.length < n
  .rw[if_pos h,if_pos (by lia)]
  .rw[if_neg h,if_neg (by lia)]
theorem za4 {R:Nat->Prop}{m:Me}{ds:List Dat}{ws:List Wd}(fn:Fn)(h:RepL R m ds ws):Inv m.length (Rf R m.length) m (xl fn ds) (yT fn ds) (yw fn ws) (fun _=>[]):=by
 have hl:=h.len
 refine ⟨?_,?_,fun l hl=>.inr hl,Nat.le_refl _,?_,fun _=>List.nodup_nil,(fun _ _ _ h=>by cases h),(fun _ _ h=>by cases h)⟩
 .simp[xl,yw,hl]
 .simp[xl,yT]
 .intro i d l h1 h2
  unfold xl at h1
  unfold yT at h2
  rw[jj] at h1 h2
  by_cases hi:i < ds.length
  .rw[if_pos hi] at h1 h2
   refine cps fun zP zk=>?_
   obtain ⟨d',e1,e2⟩:=Option.map_eq_some_iff.mp h1
   cases e2
   rw[e1] at h2
   cases h2
   obtain ⟨w,hw,r⟩:=h.get e1
   refine zk ?_
   refine ⟨w,?_,?_⟩
   .unfold yw;rw[jj,if_pos (by lia),hw];rfl
   .unfold lvF
    split
    .next f=>exact r.flat d w f
    .exact ⟨Rep.frame (fun x o r z=>⟨⟨.inl r,fun _ h=>by cases h⟩,z⟩) _ _ r,rfl⟩
  .rw[if_neg hi] at h1
   split at h1 <;> cases h1
theorem zeg {lev:Nat->Lv}{cl:Nat->List Wd->Me->Rz}{cd:Nat->List Dat->Rd}(H:CallO lev cl cd)(k:Nat)(fn:Fn)(ds:List Dat)(ws:List Wd)(R:Nat->Prop)(m:Me)(h:RepL R m ds ws):SimO R m (wl lev k) (xy cl fn ws m) (zQ lev cd k fn ds):=by
 unfold xy zQ
 rw[h.len]
 split
 .have s:=wm H fn.body m _ _ _ _ (za4 fn h)
  cases z:exD lev cd fn.body (xl fn ds) (yT fn ds) with
  | next d1 l1 =>
   rw[z] at s
   refine cps fun zP zk=>?_
   obtain ⟨e1,m1,A1,h1,I1,K1⟩:=s
   refine zk ?_
   rw[h1]
   refine ⟨.non,m1,[],rfl,fun l o q=>(K1.1 l o (fun _ h=>by cases h) q).2,?_,List.nodup_nil,by simp⟩
   unfold wl RepO Own
   simp[flat]
  | ret d l =>
   rw[z] at s
   refine cps fun zP zj=>?_
   obtain ⟨w,m1,B,h1,⟨kp,_⟩,ro,nd,hB⟩:=s
   refine zj ?_
   rw[h1]
   have le:Le m m1:=fun l o q=>kp l o (fun _ h=>by cases h) q
   show SimO R m (wl lev k) (.ok w m1) (if flat d || za3 l (lev k) then .ok d else .no)
   split
   .next c =>
    by_cases f:flat d=true
    .refine ⟨w,m1,[],rfl,le,?_,List.nodup_nil,by simp⟩
     unfold wl;rw[if_pos f]
     exact (ro.rep (R':=fun _=>True) (fun _ _=>trivial) (fun _ _=>trivial)).flat d w f
    .have g:za3 l (lev k)=true:=by simpa [f] using c
     unfold SimO wl
     simp only[if_neg f]
     cases e:lev k with
     | no =>
      refine ⟨w,m1,[],rfl,le,⟨?_,rfl⟩,List.nodup_nil,by simp⟩
      exact ro.rep (fun x r=>⟨r.1,by simp⟩) (fun b hb=>⟨.inr (hB b hb),by simp⟩)
     | top =>
      rw[e] at g
      cases l with
      | top=>exact ⟨w,m1,B,rfl,le,ro,nd,hB⟩
      | no=>cases g
      | full=>cases g
     | full =>
      rw[e] at g
      cases l with
      | full=>exact ⟨w,m1,B,rfl,le,ro,nd,hB⟩
      | no=>cases g
      | top=>cases g
   .trivial
  | exc c d =>
   rw[z] at s
   refine cps fun zP zi=>?_
   obtain ⟨w,e,m1,h1,⟨kp,_⟩,r⟩:=s
   refine zi ?_
   rw[h1]
   exact ⟨w,m1,rfl,fun l o q=>kp l o (fun _ h=>by cases h) q,r⟩
  | brk _ _=>trivial
  | cont _ _=>trivial
  | no=>trivial
 .trivial
theorem gF (lev:Nat->Lv)(T:List Fn):∀d:Nat,CallO lev (yD T d) (kF lev T d)
 | 0=>fun k ds ws R m h=>trivial
 | d+1=>fun k ds ws R m h=>by
  unfold yD kF
  cases T[k]? with
  | none=>trivial
  | some fn=>exact zeg (gF lev T d) k fn ds ws R m h
theorem zeh (lev:Nat->Lv)(T:List Fn)(d i:Nat)(ns:List Int)(h:kF lev T d i [.scr ns]=.ok (.bl true)):∃m,yD T d i [.rol (ns.map Wd.int)] []=.ok (.bl true) m:=by
 have s:=gF lev T d i [.scr ns] [.rol (ns.map Wd.int)] (fun _=>True) [] (.cons (rep_scr.mpr rfl) .nil)
 rw[h] at s
 obtain ⟨w,m',h1,_,r⟩:=s.sim
 rw[rep_bl.mp r] at h1
 exact ⟨m',h1⟩
section
variable (lev:Nat->Lv)(cl:Nat->List Dat->Rd)(de:DEn)(lv:List Lv)
@[simp] theorem zii (d:Dat)(f:Dat->Rd):(Rd.ok d).bind f=f d:=rfl
@[simp] theorem zih (d:Dat)(f:Dat->Rsd):(Rd.ok d).bindS f=f d:=rfl
@[simp] theorem zic (d:Dat)(f:Dat->Rsd):(Rd.ok d).okS f=f d:=rfl
@[simp] theorem zl (i:Int):evD cl (.lit (.int i)) de=.ok (.int i):=rfl
@[simp] theorem jk (i:Bool):evD cl (.lit (.bl i)) de=.ok (.bl i):=rfl
@[simp] theorem zf5:evD cl (.lit .non) de=.ok .non:=rfl
@[simp] theorem xm (s:List Nat):evD cl (.lit (.str s)) de=.ok (.str s):=rfl
@[simp] theorem zH (op:Bo)(a b:Ex):evD cl (.bin op a b) de=(evD cl a de).bind fun x=>(evD cl b de).bind fun y=>yb op x y:=rfl
@[simp] theorem yV (op:Co)(a b:Ex):evD cl (.cmp op a b) de=(evD cl a de).bind fun x=>(evD cl b de).bind fun y=>xh op x y:=rfl
@[simp] theorem zr:evD cl .unit de=.ok (.tup []):=rfl
@[simp] theorem zt (a b:Ex):evD cl (.pair a b) de=(evD cl a de).bind fun x=>(evD cl b de).bind fun y=>.ok (.tup (x::zT y)):=rfl
@[simp] theorem zA (k:Nat)(a:Ex):evD cl (.call k a) de=(evD cl a de).bind fun x=>cl k (zT x):=rfl
@[simp] theorem yz (b:Blf)(a:Ex):evD cl (.blt b a) de=(evD cl a de).bind fun x=>y8 b (zT x):=rfl
@[simp] theorem qC (t:Tg)(a:Ex):evD cl (.isi t a) de=(evD cl a de).bind fun x=>.ok (.bl (isD t x)):=rfl
@[simp] theorem ym (a b:Ex):evD cl (.idx a b) de=(evD cl a de).bind fun x=>(evD cl b de).bind fun y=>yt x y:=rfl
@[simp] theorem yM (a:Ex):evD cl (.lst a) de=(evD cl a de).bind fun x=>yA (zT x):=rfl
@[simp] theorem zhZ (a:Ex):evD cl (.tup a) de=(evD cl a de).bind fun x=>if (zT x).length<=lim then .ok (.tup (zT x)) else .no:=rfl
@[simp] theorem xZ (a b c:Ex):evD cl (.rng a b c) de=(evD cl a de).bind fun x=>(evD cl b de).bind fun y=>(evD cl c de).bind fun z=>kC x y z:=rfl
@[simp] theorem zb (d:Dat)(r:DEn):evD cl (.var 0) (some d::r)=.ok d:=rfl
@[simp] theorem za (i:Nat)(d:Option Dat)(r:DEn):evD cl (.var (i+1)) (d::r)=evD cl (.var i) r:=rfl
@[simp] theorem jO (a:Ex):evD cl (.neg a) de=(evD cl a de).bind fun x=>match x with
  | .int i=>.ok (.int (-i))
  | _=>.no:=rfl
@[simp] theorem xC (a:Ex):evD cl (.not a) de=(evD cl a de).bind fun x=>match x with
  | .bl b=>.ok (.bl (!b))
  | _=>.no:=rfl
@[simp] theorem kG (a b:Ex):evD cl (.and a b) de=(evD cl a de).bind fun x=>match x with
  | .bl true=>evD cl b de
  | .bl false=>.ok (.bl false)
  | _=>.no:=rfl
@[simp] theorem zaw (a b:Ex):evD cl (.or a b) de=(evD cl a de).bind fun x=>match x with
  | .bl false=>evD cl b de
  | .bl true=>.ok (.bl true)
  | _=>.no:=rfl
@[simp] theorem zcK (p q:Co)(a b c:Ex):evD cl (.chain p q a b c) de=(evD cl a de).bind fun x=>(evD cl b de).bind fun y=>(xh p x y).bind fun z=>match z with
  | .bl true=>(evD cl c de).bind fun u=>xh q y u
  | .bl false=>.ok (.bl false)
  | _=>.no:=rfl
@[simp] theorem zax (a:Ex):evD cl (.lrng a) de=(evD cl a de).bind fun x=>match x with
  | .int j=>if -lim<=j/\j<=lim then yA (yu 0 1 j.toNat) else .no
  | _=>.no:=rfl
theorem vT (elt it cond:Ex):evD cl (.comp elt it cond) de=(evD cl it de).bind fun x=>match itD x with
  | some xs=>ye (fun x=>evD cl cond (de++[some x])) (fun x=>evD cl elt (de++[some x])) xs []
  | none=>.no:=rfl
theorem gG (k:Kd)(elt a b cond:Ex):evD cl (.compP k elt a b cond) de=(evD cl a de).bind fun x=>(evD cl b de).bind fun y=>match xA k x y with
  | some ps=>ye (fun p=>evD cl cond (de++[some p.1]++[some p.2])) (fun p=>evD cl elt (de++[some p.1]++[some p.2])) ps []
  | none=>.no:=rfl
@[simp] theorem zh0 (a b:Int):deq (.int a) (.int b)=decide (a=b):=rfl
@[simp] theorem zh1 (a b:Bool):deq (.bl a) (.bl b)=(a == b):=rfl
@[simp] theorem zh2 (a b:List Nat):deq (.str a) (.str b)=decide (a=b):=rfl
@[simp] theorem zh3 (a b:List Dat):deq (.tup a) (.tup b)=deqL a b:=rfl
@[simp] theorem zcL (a b:List Dat):deq (.lst a) (.lst b)=deqL a b:=rfl
@[simp] theorem zhe (k:Nat)(a:Int):yS (k+1) (.int a)=true:=rfl
@[simp] theorem zhF (k:Nat)(a:Bool):yS (k+1) (.bl a)=true:=rfl
@[simp] theorem zhf (k:Nat)(a:List Nat):yS (k+1) (.str a)=true:=rfl
@[simp] theorem zhg (k:Nat):yS (k+1) .non=true:=rfl
@[simp] theorem zhh (k:Nat)(a:List Dat):yS (k+1) (.tup a)=eqOkL k a:=rfl
@[simp] theorem kH (k:Nat)(a:List Dat):yS (k+1) (.lst a)=eqOkL k a:=rfl
@[simp] theorem zgo (k:Nat):eqOkL k []=true:=rfl
@[simp] theorem zf6 (k:Nat)(d:Dat)(a:List Dat):eqOkL k (d::a)=(yS k d && eqOkL k a):=rfl
theorem xQ (k:Nat):∀ (a:List Dat),eqOkL k a=a.all (yS k)
 | []=>by simp
 | d::a=>by simp[xQ k a]
@[simp] theorem zay:yH=11+1:=rfl
@[simp] theorem zcM (i j:Int):xh .lt (.int i) (.int j)=.ok (.bl (decide (i < j))):=rfl
@[simp] theorem vL (i j:Int):xh .eq (.int i) (.int j)=.ok (.bl (decide (i=j))):=rfl
@[simp] theorem co_ne (i j:Int):xh .ne (.int i) (.int j)=.ok (.bl (!decide (i=j))):=rfl
@[simp] theorem zh4 (i j:Bool):xh .eq (.bl i) (.bl j)=.ok (.bl (i == j)):=rfl
@[simp] theorem zh5 (i j:Bool):xh .ne (.bl i) (.bl j)=.ok (.bl (!(i == j))):=rfl
@[simp] theorem yh (i j:Int):yb .add (.int i) (.int j)=.ok (.int (i+j)):=rfl
@[simp] theorem yi (i j:Int):yb .sub (.int i) (.int j)=.ok (.int (i - j)):=rfl
theorem xt (i j:Int)(h:yC i=true):yb .mul (.int i) (.int j)=.ok (.int (i * j)):=by simp[yb,h]
theorem zei (i j:Int)(h:yC j=true):yb .mul (.int i) (.int j)=.ok (.int (i * j)):=by simp[yb,h]
theorem wE (i j:Int)(h:0 < j)(k:j < 1073741824):yb .fdiv (.int i) (.int j)=.ok (.int (i / j)):=by simp[yb,h,k]
theorem xD (i j:Int)(h:0 < j):yb .mod (.int i) (.int j)=.ok (.int (i % j)):=by simp[yb,h]
theorem qD (i j:Int)(h:0<=j/\j<=1000000/\yC i=true):yb .pow (.int i) (.int j)=.ok (.int (i ^ j.toNat)):=by simp only[yb];rw[if_pos h]
theorem kI {i:Int}(h:-18446744073709551616 < i)(k:i < 18446744073709551616):yC i=true:=by unfold yC big;simp[h,k]
@[simp] theorem zn (xs:List Dat):zT (.tup xs)=xs:=rfl
@[simp] theorem zej (xs:List Dat):y8 .len [.lst xs]=.ok (.int xs.length):=rfl
@[simp] theorem zhG (xs:List Dat):y8 .len [.tup xs]=.ok (.int xs.length):=rfl
@[simp] theorem zhH (ns:List Int):y8 .len [.scr ns]=.ok (.int ns.length):=by simp[y8,wc]
@[simp] theorem zh6 (b:Bool):y8 .int [.bl b]=.ok (.int (b2i b)):=rfl
theorem xF {xs:List Dat}(h:xs.length<=lim):yA xs=.ok (.lst xs):=by unfold yA;rw[if_pos h]
theorem jP {n i:Nat}(h:i < n):ix n (i:Int)=some i:=by unfold ix;rw[if_pos (by lia),if_pos (by lia)];simp
theorem zek {n:Nat}(h:0 < n):ix n (-1)=some (n - 1):=by unfold ix;rw[if_neg (by lia),if_pos (by lia)];congr 1;lia
theorem xu {xs:List Dat}{i:Nat}{d:Dat}(h:xs[i]?=some d):yt (.lst xs) (.int (i:Int))=.ok d:=by
 have:=(List.getElem?_eq_some_iff.mp h).1
 simp[yt,wc,jP this,h]
theorem vH {xs:List Dat}{d:Dat}(h:xs[xs.length - 1]?=some d):yt (.lst xs) (.int (-1))=.ok d:=by
 have:=(List.getElem?_eq_some_iff.mp h).1
 simp[yt,wc,zek (show 0 < xs.length by lia),h]
theorem kJ {a b c:Int}(h:-lim<=a/\a<=lim/\-lim<=b/\b<=lim/\(c=1\/c=-1)):kC (.int a) (.int b) (.int c)=.ok (.tup (yu a c (kT a b c))):=by
 simp only[kC];rw[if_pos h]
@[simp] theorem wn (a c:Int)(n:Nat):(yu a c n).length=n:=by simp[yu]
theorem xo (a c:Int)(n i:Nat)(h:i < n):(yu a c n)[i]?=some (.int (a+c * (i:Int))):=by
 simp[yu,h]
@[simp] theorem xR (a c:Int):∀ (n:Nat),flatL (yu a c n)=true:=by
 intro n
 unfold yu
 generalize List.range n=l
 induction l with
 | nil=>rfl
 | cons x l ih=>simp[flatL,flat,ih]
@[simp] theorem wp (xs:List Dat):flat (.tup xs)=flatL xs:=by rw[flat]
@[simp] theorem xS (xs:List Dat):flat (.lst xs)=false:=by rw[flat]
@[simp] theorem gH (i:Int):flat (.int i)=true:=by rw[flat]
@[simp] theorem zhI (i:Bool):flat (.bl i)=true:=by rw[flat]
@[simp] theorem zhi:flat .non=true:=by rw[flat]
@[simp] theorem zhj (s:List Nat):flat (.str s)=true:=by rw[flat]
@[simp] theorem zhk (s:List Int):flat (.scr s)=true:=by rw[flat]
@[simp] theorem zgp:flatL []=true:=by rw[flatL]
@[simp] theorem zf7 (d:Dat)(ds:List Dat):flatL (d::ds)=(flat d && flatL ds):=by rw[flatL]
@[simp] theorem zf8 (l:List Int):flatL (l.map Dat.int)=true:=by
 induction l with
 | nil=>rfl
 | cons x l ih=>simp[ih]
@[simp] theorem x4 (xs:List Dat):itD (.tup xs)=some xs:=rfl
@[simp] theorem zh7 (xs:List Int):itD (.scr xs)=some (xs.map .int):=rfl
theorem wU {xs:List Dat}(h:xs.length<=lim):itD (.lst xs)=some xs:=by simp[itD,h]
@[simp] theorem yX:exD lev cl .skip de lv=.next de lv:=rfl
@[simp] theorem zY (e:Ex):exD lev cl (.ret e) de lv=(evD cl e de).bindS fun d=>.ret d (lvR lev e d lv):=rfl
@[simp] theorem zI (i:Nat)(e:Ex):exD lev cl (.asg i e) de lv=(evD cl e de).bindS fun d=>wH lev i e d de lv:=rfl
@[simp] theorem yN (c:Ex)(a b:Sm):exD lev cl (.ite c a b) de lv=(evD cl c de).bindS fun x=>match x with
  | .bl true=>exD lev cl a de lv
  | .bl false=>exD lev cl b de lv
  | _=>.no:=rfl
theorem yn {lev:Nat->Lv}{i:Nat}{e:Ex}{d:Dat}{de:DEn}{lv:List Lv}(h:flat d=true):wH lev i e d de lv=.next (de.set i (some d)) (lv.set i .full):=by
 unfold wH;rw[if_pos (yy lev e d h)]
theorem yj {lev:Nat->Lv}{i:Nat}{e:Ex}{d:Dat}{de:DEn}{lv:List Lv}(h:lvE lev e d=.full):wH lev i e d de lv=.next (de.set i (some d)) (lv.set i .full):=by
 unfold wH;rw[if_pos h]
theorem zZ {α:Type}{body:α->DEn->List Lv->Rsd}(P:Nat->DEn->List Lv->Prop)(xs:List α){de:DEn}{lv:List Lv}(h0:P 0 de lv)
  (hs:∀ (i:Nat) x de lv,xs[i]?=some x->P i de lv->∃de' lv',body x de lv=.next de' lv'/\P (i+1) de' lv'):∃de' lv',yJ body xs de lv=.next de' lv'/\P xs.length de' lv':=by
 induction xs generalizing P de lv with
 | nil=>exact ⟨de,lv,rfl,h0⟩
 | cons x xs ih =>
  obtain ⟨d1,l1,e1,p1⟩:=hs 0 x de lv rfl h0
  unfold yJ
  rw[e1]
  exact ih (fun i=>P (i+1)) p1 (fun i y de lv hy hp=>hs (i+1) y de lv (by simpa using hy) hp)
end
namespace Lib
section
variable {lev:Nat->Lv}{cl:Nat->List Dat->Rd}{k:Nat}
noncomputable def isInt:Dat->Bool
 | .int _=>true
 | _=>false
noncomputable def qE:Fn:=⟨1,1,(.ret (.and (.isi .int (.var 0)) (.not (.isi .bool (.var 0)))))⟩
theorem za5 (d:Dat):zQ lev cl k qE [d]=.ok (.bl (isInt d)):=by
 cases d <;> simp[zQ,qE,xl,yT,zS,isD,isInt,lvR]
end
end Lib
section
variable (lev:Nat->Lv)(cl:Nat->List Dat->Rd)(de:DEn)(lv:List Lv)
@[simp] theorem xw (j:Nat)(e:Ex):exD lev cl (.expr (.meth .append (.var j) (.pair e .unit))) de lv=(evD cl e de).okS fun d=>match xa de j with
   | some ds=>if ds.length < lim then match y0 lev e d j de lv with
    | some (de1,lv1)=>.next (de1.set j (some (.lst (ds++[d])))) lv1
    | none=>.no
    else .no
   | none=>.no:=rfl
@[simp] theorem zel (j:Nat):exD lev cl (.expr (.meth .reverse (.var j) .unit)) de lv=match xa de j with
   | some ds=>if zX lv j then .next (de.set j (some (.lst ds.reverse))) lv else .no
   | none=>.no:=rfl
theorem xp (i:Nat)(it:Ex)(body:Sm):exD lev cl (.forv i it body) de lv=(evD cl it de).bindS fun d=>match itD d with
  | some xs=>yJ (fun x de lv=>exD lev cl body (de.set i (some x)) (lv.set i (lvF x))) xs de (if flat d then lv else y9 it de lv)
  | none=>.no:=rfl
theorem zem (i j:Nat)(it:Ex)(body:Sm):exD lev cl (.fort i j it body) de lv=(evD cl it de).bindS fun d=>match itD d with
  | some xs=>yJ (fun x de lv=>match x with
    | .tup [a,b]=>exD lev cl body ((de.set i (some a)).set j (some b)) ((lv.set i (lvF a)).set j (lvF b))
    | _=>.no) xs de (if flat d then lv else y9 it de lv)
  | none=>.no:=rfl
noncomputable def Rsd.then (r:Rsd)(f:DEn->List Lv->Rsd):Rsd:=match r with
 | .next d l=>f d l
 | r=>r
@[simp] theorem zm (d:DEn)(l:List Lv)(f:DEn->List Lv->Rsd):(Rsd.next d l).then f=f d l:=rfl
@[simp] theorem gJ (d:Dat)(l:Lv)(f:DEn->List Lv->Rsd):(Rsd.ret d l).then f=.ret d l:=rfl
theorem zU {a b:Sm}(h:yr a b=none):exD lev cl (.seq a b) de lv=(exD lev cl a de lv).then (exD lev cl b):=by
 rw[jL,h];cases exD lev cl a de lv <;> rfl
theorem zcN (a:Sm)(c d:Sm):yr a (.seq c d)=none:=rfl
@[simp] theorem zJ (a:Sm)(c d:Sm):exD lev cl (.seq a (.seq c d)) de lv=(exD lev cl a de lv).then (exD lev cl (.seq c d)):=zU lev cl de lv (zcN a c d)
theorem zcO (a:Sm)(e:Ex):yr a (.ret e)=none:=rfl
@[simp] theorem xH (a:Sm)(e:Ex):exD lev cl (.seq a (.ret e)) de lv=(exD lev cl a de lv).then (exD lev cl (.ret e)):=zU lev cl de lv (zcO a e)
theorem zcP (a:Sm)(c:Ex)(x y:Sm):yr a (.ite c x y)=none:=rfl
@[simp] theorem zh8 (a:Sm)(c:Ex)(x y:Sm):exD lev cl (.seq a (.ite c x y)) de lv=(exD lev cl a de lv).then (exD lev cl (.ite c x y)):=zU lev cl de lv (zcP a c x y)
theorem za6 (a:Sm)(i:Nat)(e:Ex)(x:Sm):yr a (.forv i e x)=none:=rfl
@[simp] theorem zen (a:Sm)(i:Nat)(e:Ex)(x:Sm):exD lev cl (.seq a (.forv i e x)) de lv=(exD lev cl a de lv).then (exD lev cl (.forv i e x)):=zU lev cl de lv (za6 a i e x)
theorem za7 (a:Sm)(i j:Nat)(e:Ex)(x:Sm):yr a (.fort i j e x)=none:=rfl
@[simp] theorem zhJ (a:Sm)(i j:Nat)(e:Ex)(x:Sm):exD lev cl (.seq a (.fort i j e x)) de lv=(exD lev cl a de lv).then (exD lev cl (.fort i j e x)):=zU lev cl de lv (za7 a i j e x)
theorem qF (a:Sm)(e:Ex)(x:Sm):yr a (.while e x)=none:=rfl
@[simp] theorem zhl (a:Sm)(e:Ex)(x:Sm):exD lev cl (.seq a (.while e x)) de lv=(exD lev cl a de lv).then (exD lev cl (.while e x)):=zU lev cl de lv (qF a e x)
theorem zcQ (a:Sm)(i:Nat)(e:Ex):yr a (.asg i e)=none:=rfl
@[simp] theorem zcR (a:Sm)(i:Nat)(e:Ex):exD lev cl (.seq a (.asg i e)) de lv=(exD lev cl a de lv).then (exD lev cl (.asg i e)):=zU lev cl de lv (zcQ a i e)
theorem za8 (a:Sm)(o i e:Ex):yr a (.asgS o i e)=none:=rfl
@[simp] theorem zhK (a:Sm)(o i e:Ex):exD lev cl (.seq a (.asgS o i e)) de lv=(exD lev cl a de lv).then (exD lev cl (.asgS o i e)):=zU lev cl de lv (za8 a o i e)
theorem za9 (a:Sm)(e:Ex):yr a (.expr e)=none:=rfl
@[simp] theorem wF (a:Sm)(e:Ex):exD lev cl (.seq a (.expr e)) de lv=(exD lev cl a de lv).then (exD lev cl (.expr e)):=zU lev cl de lv (za9 a e)
theorem zba (a:Sm): yr a .skip=none:=rfl
@[simp] theorem zhL (a:Sm): exD lev cl (.seq a .skip) de lv=(exD lev cl a de lv).then (exD lev cl .skip):=zU lev cl de lv (zba a)
theorem qG (a:Sm): yr a .never=none:=rfl
@[simp] theorem zhm (a:Sm): exD lev cl (.seq a .never) de lv=(exD lev cl a de lv).then (exD lev cl .never):=zU lev cl de lv (qG a)
end
namespace Lib
section
noncomputable def row (r:List Int):Dat:=.lst (r.map .int)
noncomputable def tab (R:List (List Int)):Dat:=.lst (R.map row)
noncomputable def vM (t:Int)(b:Bool):Bool:=if b then !decide (t=1) else !(decide (t=0) || decide (t=1))
end
end Lib
namespace Lib
section
noncomputable def S (R:List (List Int))(r c:Nat):Int:=((R.take r).map (fun x=>x.getD c 0)).sum
noncomputable def ac (R:List (List Int))(r c:Nat):Int:=((R.getD r []).take c).sum
noncomputable def bad (R:List (List Int))(r c:Nat):Bool:=vM (ac R r (c+1)) (decide ((c:Int)=(R.length:Int) - 1)) || vM (S R (r+1) c) (decide ((r:Int)=(R.length:Int) - 1))
noncomputable def Sq (R:List (List Int)):Prop:=∀r∈R,r.length=R.length
theorem vj {R:List (List Int)}{r:Nat}{x:List Int}(h:R[r]?=some x):yt (tab R) (.int (r:Int))=.ok (row x):=xu (by simp[h])
theorem x5 {x:List Int}{c:Nat}{v:Int}(h:x[c]?=some v):yt (row x) (.int (c:Int))=.ok (.int v):=xu (by simp[h])
theorem qH (R:List (List Int))(r c:Nat)(x:List Int)(h:R[r]?=some x):S R (r+1) c=S R r c+x.getD c 0:=by
 unfold S
 rw[List.take_add_one,h]
 simp
end
end Lib
namespace Lib
section
variable {lev:Nat->Lv}{cl:Nat->List Dat->Rd}{k:Nat}
noncomputable def vU:Fn:=⟨1,1,(.seq (.ite (.cmp .eq (.bin .mod (.var 0) (.lit (.int 8))) (.lit (.int 5))) (.ret (.bin .add (.lit (.int 1)) (.bin .mod (.bin .fdiv (.var 0) (.lit (.int 8))) (.lit (.int 12))))) .skip) (.ret (.bin .add (.lit (.int 1)) (.bin .mod (.bin .fdiv (.var 0) (.lit (.int 8))) (.lit (.int 6))))))⟩
theorem qI (c:Int):∃n:Nat,1<=n/\n<=12/\zQ lev cl k vU [.int c]=.ok (.int n):=by
 have e1:yb .mod (.int c) (.int 8)=.ok (.int (c % 8)):=xD _ _ (by decide)
 have e2:yb .fdiv (.int c) (.int 8)=.ok (.int (c / 8)):=wE _ _ (by decide) (by decide)
 have e3:∀x:Int,yb .mod (.int x) (.int 12)=.ok (.int (x % 12)):=fun x=>xD _ _ (by decide)
 have e4:∀x:Int,yb .mod (.int x) (.int 6)=.ok (.int (x % 6)):=fun x=>xD _ _ (by decide)
 by_cases h:c % 8=5
 .refine ⟨(1+c / 8 % 12).toNat,by lia,by lia,?_⟩
  have:(((1+c / 8 % 12).toNat:Nat):Int)=1+c / 8 % 12:=by lia
  simp[zQ,vU,xl,yT,zS,lvR,e1,e2,e3,e4,h,this]
 .refine ⟨(1+c / 8 % 6).toNat,by lia,by lia,?_⟩
  have:(((1+c / 8 % 6).toNat:Nat):Int)=1+c / 8 % 6:=by lia
  simp[zQ,vU,xl,yT,zS,lvR,e1,e2,e3,e4,h,this]
noncomputable def Inc (x:List Int):Prop:=∀i,i+1 < x.length->x.getD i 0 < x.getD (i+1) 0
noncomputable def zcS (big sm:List Int):Prop:=big.length=sm.length+1/\∀i,i < sm.length->big.getD i 0<=sm.getD i 0/\sm.getD i 0<=big.getD (i+1) 0
theorem vk {x:List Int}{i:Nat}{v:Int}(h:x[i]?=some v):x.getD i 0=v:=by rw[List.getD_eq_getElem?_getD,h];rfl
theorem wV {x:List Int}{i:Nat}(h:i < x.length):x[i]?=some (x.getD i 0):=by
 rw[List.getD_eq_getElem?_getD,List.getElem?_eq_getElem h];rfl
end
end Lib
namespace Lib
section
theorem xx {x:List Int}{v:Int}{i:Nat}(h:i < x.length):(x++[v]).getD i 0=x.getD i 0:=by
 simp[List.getD_eq_getElem?_getD,List.getElem?_append_left h]
theorem vN {x:List Int}{v:Int}:(x++[v]).getD x.length 0=v:=by
 simp[List.getD_eq_getElem?_getD]
theorem jQ {x:List (List Int)}{v:List Int}{i:Nat}(h:i < x.length):(x++[v]).getD i []=x.getD i []:=by
 simp[List.getD_eq_getElem?_getD,List.getElem?_append_left h]
theorem xi {x:List (List Int)}{v:List Int}:(x++[v]).getD x.length []=v:=by
 simp[List.getD_eq_getElem?_getD]
theorem Inc.app {x:List Int}{v:Int}(h:Inc x)(hv:0 < x.length->x.getD (x.length - 1) 0 < v):Inc (x++[v]):=by
 intro i hi
 simp only[List.length_append,List.length_cons,List.length_nil] at hi
 by_cases z:i+1 < x.length
 .rw[xx (by lia),xx z];exact h i z
 .have e:i+1=x.length:=by lia
  rw[xx (by lia),e,vN]
  have:=hv (by lia)
  rwa [show x.length - 1=i by lia] at this
noncomputable def yd (n:Nat):List Int:=(List.range n).map fun (i:Nat)=>(i:Int)
theorem kK (n:Nat):Dat.lst (yu 0 1 n)=row (yd n):=by
 unfold row yd yu
 rw[List.map_map]
 congr 1
 apply List.map_congr_left
 intro i _
 simp
structure TriL (n:Nat)(L:List (List Int)):Prop where
 first:L.getD 0 []=yd n
 len:∀j,j < L.length->(L.getD j []).length+j=n
 inc:∀j,j < L.length->Inc (L.getD j [])
 bd:∀j,j < L.length->∀i,i < (L.getD j []).length->0<=(L.getD j []).getD i 0/\(L.getD j []).getD i 0 < n
 lace:∀j,j+1 < L.length->zcS (L.getD j []) (L.getD (j+1) [])
theorem wW {n i:Nat}(h:i < n):(yd n).getD i 0=i:=vk (by simp[yd,h])
theorem TriL.one (n:Nat):TriL n [yd n]:=by
 refine ⟨rfl,?_,?_,?_,?_⟩
 .intro j hj;simp at hj;subst hj;simp[yd]
 .intro j hj i hi;simp at hj;subst hj
  simp only[List.getD_cons_zero] at hi ⊢
  have:i+1 < n:=by simpa [yd] using hi
  rw[wW (by lia),wW this];lia
 .intro j hj i hi;simp at hj;subst hj
  simp only[List.getD_cons_zero] at hi ⊢
  have:i < n:=by simpa [yd] using hi
  rw[wW this];lia
 .intro j hj;simp at hj
theorem TriL.app {n:Nat}{L:List (List Int)}{x:List Int}(h:TriL n L)(hL:0 < L.length)(hi:Inc x)(hl:zcS (L.getD (L.length - 1) []) x):TriL n (L++[x]):=by
 have e:=h.len (L.length - 1) (by lia)
 have lt:∀ {j},j < L.length->(L++[x]).getD j []=L.getD j []:=fun hj=>jQ hj
 refine ⟨by rw[lt hL];exact h.first,?_,?_,?_,?_⟩
 .intro j hj
  by_cases z:j < L.length
  .rw[lt z];exact h.len j z
  .have:j=L.length:=by simp at hj;lia
   subst this
   rw[xi]
   have:=hl.1
   lia
 .intro j hj
  by_cases z:j < L.length
  .rw[lt z];exact h.inc j z
  .have:j=L.length:=by simp at hj;lia
   subst this
   rw[xi];exact hi
 .intro j hj i hi'
  by_cases z:j < L.length
  .rw[lt z] at hi' ⊢;exact h.bd j z i hi'
  .have:j=L.length:=by simp at hj;lia
   subst this
   rw[xi] at hi' ⊢
   have h1:=hl.2 i hi'
   have h2:=h.bd (L.length - 1) (by lia) i (by have:=hl.1;lia)
   have h3:=h.bd (L.length - 1) (by lia) (i+1) (by have:=hl.1;lia)
   lia
 .intro j hj
  simp only[List.length_append,List.length_cons,List.length_nil] at hj
  by_cases z:j+1 < L.length
  .rw[lt (by lia),lt z];exact h.lace j z
  .have e2:j+1=L.length:=by lia
   rw[lt (by lia),e2,xi]
   rwa [show L.length - 1=j by lia] at hl
end
end Lib
namespace Lib
section
theorem xT {β:Type}{c e:β->Rd}{α:Type}(f:α->β)(g:α->Dat):∀ (xs:List α) (acc:List Dat),(∀x∈xs,c (f x)=.ok (.bl true))->(∀x∈xs,e (f x)=.ok (g x))->acc.length+xs.length<=lim->ye c e (xs.map f) acc=.ok (.lst (acc++xs.map g))
 | [],acc,_,_,h=>by unfold ye;rw[List.map_nil];simp only;rw[xF (by simpa using h)];simp
 | x::xs,acc,hc,he,h=>by
  rw[List.map_cons]
  unfold ye
  simp only[List.length_cons] at h
  rw[hc x (by simp)]
  simp only[zii]
  rw[he x (by simp)]
  simp only[zii]
  rw[if_pos (by lia),xT f g xs (acc++[g x]) (fun y hy=>hc y (by simp[hy])) (fun y hy=>he y (by simp[hy])) (by simp;lia)]
  simp
theorem kL {c e:Dat->Rd}(a s:Int)(n:Nat)(g:Nat->Dat)(hc:∀i,i < n->c (.int (a+s * (i:Int)))=.ok (.bl true))(he:∀i,i < n->e (.int (a+s * (i:Int)))=.ok (g i))(h:n<=lim):ye c e (yu a s n) []=.ok (.lst ((List.range n).map g)):=by
 unfold yu
 rw[xT (fun (i:Nat)=>Dat.int (a+s * (i:Int))) g (List.range n) [] (fun i hi=>hc i (by simpa using hi)) (fun i hi=>he i (by simpa using hi)) (by simpa using h)]
 simp
noncomputable def mem (x:List Int)(c:Int):Bool:=x.any (fun v=>decide (v=c))
theorem zcT (x:List Int)(c:Int):xh .isin (.int c) (row x)=.ok (.bl (mem x c)):=by
 have h:eqOkL yH (x.map Dat.int)=true:=by
  rw[xQ];simp
 have h2:(x.map Dat.int).any (fun y=>deq y (.int c))=mem x c:=by
  simp only[mem,List.any_map]
  congr 1
 simp only[xh,row,wc,inD]
 rw[h,h2]
 simp[za2]
noncomputable def y3 (n:Nat)(x y:List Int):List Int:=(List.range n).map fun (c:Nat)=>b2i (mem x c) - b2i (mem y c)
noncomputable def zM (X:List (List Int))(i:Nat):List Int:=if i=0 then [] else X.getD (i - 1) []
noncomputable def sg (X:List (List Int)):List (List Int):=(List.range X.length).map fun i=>y3 X.length (X.getD i []) (zM X i)
end
end Lib
namespace Lib
structure Tri (n:Nat)(X:List (List Int)):Prop where
 len:X.length=n
 rlen:∀j,j < n->(X.getD j []).length=j+1
 inc:∀j,j < n->Inc (X.getD j [])
 bd:∀j,j < n->∀i,i < j+1->0<=(X.getD j []).getD i 0/\(X.getD j []).getD i 0 < n
 lace:∀j,j+1 < n->zcS (X.getD (j+1) []) (X.getD j [])
 last:X.getD (n - 1) []=yd n
theorem Tri.of {n:Nat}{L:List (List Int)}(hn:1<=n)(h:TriL n L)(hl:L.length=n):Tri n L.reverse:=by
 have g:∀j,j < n->L.reverse.getD j []=L.getD (n - 1 - j) []:=by
  intro j hj
  rw[List.getD_eq_getElem?_getD,List.getD_eq_getElem?_getD,List.getElem?_reverse (by lia),hl]
 refine ⟨by simp[hl],fun j hj=>?_,fun j hj=>?_,fun j hj i hi=>?_,fun j hj=>?_,?_⟩
 .rw[g j hj];have:=h.len (n - 1 - j) (by lia);lia
 .rw[g j hj];exact h.inc _ (by lia)
 .rw[g j hj];have:=h.len (n - 1 - j) (by lia);exact h.bd _ (by lia) i (by lia)
 .rw[g (j+1) hj,g j (by lia)]
  have:=h.lace (n - 1 - (j+1)) (by lia)
  rwa [show n - 1 - (j+1)+1=n - 1 - j by lia] at this
 .rw[g (n - 1) (by lia),show n - 1 - (n - 1)=0 by lia];exact h.first
theorem Inc.lt {x:List Int}(h:Inc x):∀ {i j:Nat},i < j->j < x.length->x.getD i 0 < x.getD j 0:=by
 intro i j hij
 induction j with
 | zero=>lia
 | succ j ih =>
  intro hj
  have h1:=h j hj
  by_cases z:i=j
  .subst z;exact h1
  .have:=ih (by lia) (by lia);lia
theorem Inc.nodup {x:List Int}(h:Inc x):x.Nodup:=by
 rw[List.Nodup,List.pairwise_iff_getElem]
 intro i j hi hj hij e
 have:=h.lt hij hj
 rw[vk (List.getElem?_eq_getElem hi),vk (List.getElem?_eq_getElem hj)] at this
 lia
theorem zeo {x:List Int}{v:Int}(h:v∈x):∃i,i < x.length/\x.getD i 0=v:=by
 obtain ⟨i,hi,e⟩:=List.getElem_of_mem h
 exact ⟨i,hi,vk (by rw[List.getElem?_eq_getElem hi,e])⟩
noncomputable def cnt (x:List Int)(c:Nat):Int:=((List.range c).map fun (j:Nat)=>b2i (mem x j)).sum
noncomputable def low (x:List Int)(c:Nat):Int:=(x.map fun (v:Int)=>b2i (decide (v < (c:Int)))).sum
theorem kM (x:List Int)(c:Nat):cnt x (c+1)=cnt x c+b2i (mem x c):=by
 simp[cnt,List.range_succ]
theorem zcU (x:List Int)(nd:x.Nodup)(c:Nat):low x (c+1)=low x c+b2i (mem x c):=by
 induction x with
 | nil=>simp[low,mem,b2i]
 | cons v x ih =>
  obtain ⟨hv,nd⟩:=List.nodup_cons.mp nd
  have ih:=ih nd
  have e1:low (v::x) (c+1)=b2i (decide (v < (c+1:Nat)))+low x (c+1):=by simp[low]
  have e2:low (v::x) c=b2i (decide (v < c))+low x c:=by simp[low]
  have e3:mem (v::x) c=(decide (v=c) || mem x c):=by simp[mem]
  rw[e1,e2,e3,ih]
  by_cases h:v=c
  .have:mem x c=false:=by
    rw[mem,List.any_eq_false]
    intro w hw
    simp only[decide_eq_true_eq]
    intro e
    exact hv (by rw[h,<- e];exact hw)
   rw[this]
   simp[h,b2i]
   lia
  .have:decide (v < (c+1:Nat))=decide (v < c):=by
    by_cases q:v < c
    .simp[q];lia
    .simp[q];lia
   rw[this]
   simp[h]
   lia
theorem zcV {x:List Int}(h:∀v∈x,0<=v):low x 0=0:=by
 induction x with
 | nil=>rfl
 | cons v x ih =>
  have e:low (v::x) 0=b2i (decide (v < (0:Nat)))+low x 0:=by simp[low]
  rw[e,ih (fun w hw=>h w (by simp[hw]))]
  have:=h v (by simp)
  have:¬ v < ((0:Nat):Int):=by simp;lia
  rw[decide_eq_false this]
  rfl
theorem vV {x:List Int}(nd:x.Nodup)(h:∀v∈x,0<=v):∀c,cnt x c=low x c
 | 0=>by rw[zcV h];rfl
 | c+1=>by rw[kM,zcU x nd,vV nd h c]
theorem kN {x:List Int}{n:Nat}(h:∀v∈x,v < n):low x n=x.length:=by
 induction x with
 | nil=>rfl
 | cons v x ih =>
  have e:low (v::x) n=b2i (decide (v < n))+low x n:=by simp[low]
  rw[e,ih (fun w hw=>h w (by simp[hw])),decide_eq_true (h v (by simp))]
  simp[b2i];lia
theorem qJ {c:Nat}:∀ (sm big:List Int),sm.length<=big.length->(∀i,i < sm.length->big.getD i 0<=sm.getD i 0)->low sm c<=low big c
 | [],big,_,_=>by
  have:∀x:List Int,0<=low x c:=by
   intro x
   induction x with
   | nil=>exact Int.le_refl _
   | cons v x ih =>
    have e:low (v::x) c=b2i (decide (v < c))+low x c:=by simp[low]
    rw[e];unfold b2i;split <;> lia
  exact this big
 | s::sm,[],h,_=>by simp at h
 | s::sm,b::big,h,q=>by
  have e1:low (s::sm) c=b2i (decide (s < c))+low sm c:=by simp[low]
  have e2:low (b::big) c=b2i (decide (b < c))+low big c:=by simp[low]
  have h0:=q 0 (by simp)
  simp only[List.getD_cons_zero] at h0
  have ih:=qJ (c:=c) sm big (by simpa using h) (fun i hi=>by simpa using q (i+1) (by simpa using hi))
  rw[e1,e2]
  have:b2i (decide (s < c))<=b2i (decide (b < c)):=by
   by_cases z:s < c
   .rw[decide_eq_true z,decide_eq_true (by lia)];exact Int.le_refl _
   .rw[decide_eq_false z];unfold b2i;simp;split <;> lia
  lia
theorem zcW {big sm:List Int}{c:Nat}(h:zcS big sm):low sm c<=low big c/\low big c<=low sm c+1:=by
 obtain ⟨hl,h⟩:=h
 refine ⟨qJ sm big (by lia) (fun i hi=>(h i hi).1),?_⟩
 cases big with
 | nil=>simp at hl
 | cons b bs =>
  have e2:low (b::bs) c=b2i (decide (b < c))+low bs c:=by simp[low]
  have:=qJ (c:=c) bs sm (by simp at hl;lia) (fun i hi=>by have:=(h i (by simp at hl;lia)).2;simpa using this)
  rw[e2]
  have:b2i (decide (b < c))<=1:=by unfold b2i;split <;> lia
  lia
theorem jR (X:List (List Int)):(sg X).length=X.length:=by simp[sg]
theorem zcX {X:List (List Int)}{r:Nat}(h:r < X.length):(sg X)[r]?=some (y3 X.length (X.getD r []) (zM X r)):=by simp[sg,h]
theorem zbb (n:Nat)(x y:List Int):(y3 n x y).length=n:=by simp[y3]
theorem zbc {n c:Nat}(x y:List Int)(h:c < n):(y3 n x y).getD c 0=b2i (mem x c) - b2i (mem y c):=vk (by simp[y3,h])
theorem zbd {n:Nat}(x y:List Int):∀ {c:Nat},c<=n->((y3 n x y).take c).sum=cnt x c - cnt y c:=by
 intro c hc
 induction c with
 | zero=>simp[cnt]
 | succ c ih =>
  rw[List.take_add_one,kM,kM,List.sum_append,ih (by lia)]
  have:(y3 n x y)[c]?=some (b2i (mem x c) - b2i (mem y c)):=by simp[y3,show c < n by lia]
  rw[this]
  simp
  lia
theorem zhn (X:List (List Int)):Sq (sg X):=by
 intro r hr
 simp only[sg,List.mem_map] at hr
 obtain ⟨i,_,rfl⟩:=hr
 rw[zbb,jR]
theorem sg_S (X:List (List Int)){c:Nat}(hc:c < X.length):∀ {r:Nat},r<=X.length->S (sg X) r c=b2i (mem (zM X r) c):=by
 intro r
 induction r with
 | zero=>intro _;simp[S,zM,mem,b2i]
 | succ r ih =>
  intro hr
  rw[qH (sg X) r c _ (zcX (by lia)),ih (by lia),zbc _ _ hc]
  have:zM X (r+1)=X.getD r []:=by simp[zM]
  rw[this];lia
theorem qK {n c:Nat}(h:c < n):mem (yd n) c=true:=by
 rw[mem,List.any_eq_true]
 exact ⟨c,List.mem_map.mpr ⟨c,by simpa using h,rfl⟩,by simp⟩
theorem zf9 {n:Nat}{X:List (List Int)}(h:Tri n X){r c:Nat}(hr:r < n)(hc:c < n):bad (sg X) r c=false:=by
 have hX:=h.len
 have b01:∀b:Bool,b2i b=0\/b2i b=1:=by intro b;cases b <;> simp[b2i]
 have hbd:∀j,j < n->∀v∈X.getD j [],0<=v/\v < n:=by
  intro j hj v hv
  obtain ⟨i,hi,rfl⟩:=zeo hv
  rw[h.rlen j hj] at hi
  exact h.bd j hj i hi
 have hac:ac (sg X) r (c+1)=low (X.getD r []) (c+1) - low (zM X r) (c+1):=by
  unfold ac
  rw[List.getD_eq_getElem?_getD,zcX (by lia)]
  show ((y3 X.length (X.getD r []) (zM X r)).take (c+1)).sum=_
  rw[zbd _ _ (by lia),vV (h.inc r hr).nodup (fun v hv=>(hbd r hr v hv).1)]
  congr 1
  unfold zM
  split
  .exact vV List.nodup_nil (by simp) _
  .exact vV (h.inc _ (by lia)).nodup (fun v hv=>(hbd _ (by lia) v hv).1) _
 have hrange:(ac (sg X) r (c+1)=0\/ac (sg X) r (c+1)=1)/\(c=n - 1->ac (sg X) r (c+1)=1):=by
  rw[hac]
  by_cases z:r=0
  .subst z
   have e:zM X 0=[]:=rfl
   have e0:low (zM X 0) (c+1)=0:=rfl
   have hl:(X.getD 0 []).length=1:=h.rlen 0 hr
   have:low (X.getD 0 []) (c+1)=0\/low (X.getD 0 []) (c+1)=1:=by
    cases hx:X.getD 0 [] with
    | nil=>rw[hx] at hl;cases hl
    | cons v x =>
     rw[hx] at hl
     have:x=[]:=List.eq_nil_of_length_eq_zero (by simpa using hl)
     subst this
     have:=b01 (decide (v < ((c+1:Nat):Int)))
     simpa [low] using this
   refine ⟨by lia,fun ec=>?_⟩
   have hf:low (X.getD 0 []) (c+1)=(X.getD 0 []).length:=kN (fun v hv=>by have:=(hbd 0 hr v hv).2;lia)
   rw[hf,hl,e0];rfl
  .have e:zM X r=X.getD (r - 1) []:=by simp[zM,z]
   have hla:=h.lace (r - 1) (by lia)
   rw[show r - 1+1=r by lia] at hla
   have:=zcW (c:=c+1) hla
   rw[e]
   refine ⟨by lia,fun ec=>?_⟩
   have hf:low (X.getD r []) (c+1)=(X.getD r []).length:=kN (fun v hv=>by have:=(hbd r hr v hv).2;lia)
   have hg:low (X.getD (r - 1) []) (c+1)=(X.getD (r - 1) []).length:=kN (fun v hv=>by have:=(hbd (r - 1) (by lia) v hv).2;lia)
   rw[hf,hg,h.rlen r hr,h.rlen (r - 1) (by lia)];lia
 have hS:S (sg X) (r+1) c=b2i (mem (X.getD r []) c):=by
  rw[sg_S X (by lia) (by lia)]
  simp[zM]
 have hSr:(S (sg X) (r+1) c=0\/S (sg X) (r+1) c=1)/\(r=n - 1->S (sg X) (r+1) c=1):=by
  rw[hS]
  refine ⟨b01 _,fun e=>?_⟩
  rw[e,h.last,qK hc];rfl
 have off:∀ (t:Int) (b:Bool),(t=0\/t=1)->(b=true->t=1)->vM t b=false:=by
  intro t b h1 h2
  cases b with
  | true=>simp[vM,h2 rfl]
  | false=>rcases h1 with h | h <;> simp[vM,h]
 unfold bad
 rw[Bool.or_eq_false_iff]
 refine ⟨off _ _ hrange.1 fun e=>hrange.2 ?_,off _ _ hSr.1 fun e=>hSr.2 ?_⟩
 .simp only[decide_eq_true_eq,jR] at e;lia
 .simp only[decide_eq_true_eq,jR] at e;lia
end Lib
namespace Lib
section
variable {lev:Nat->Lv}{cl:Nat->List Dat->Rd}{k:Nat}
theorem qL {α β:Type}{xs:List α}{ys:List β}{i:Nat}{a:α}{b:β}(h:xs[i]?=some a)(h2:ys[i]?=some b):(xs.zip ys)[i]?=some (a,b):=List.getElem?_zip_eq_some.mpr ⟨h,h2⟩
noncomputable def zK (R:List (List Int))(i:Nat):List Int:=(List.range R.length).map fun c=>S R i c
noncomputable def sums (R:List (List Int)):List (List Int):=(List.range (R.length+1)).map (zK R)
theorem qM (R:List (List Int)):Dat.lst (List.replicate R.length [Dat.int 0]).flatten=row (zK R 0):=by
 have:(List.replicate R.length [Dat.int 0]).flatten=List.replicate R.length (Dat.int 0):=by
  generalize R.length=n
  induction n with
  | zero=>rfl
  | succ n ih=>rw[List.replicate_succ,List.flatten_cons,ih,List.replicate_succ];rfl
 rw[this]
 unfold row zK
 congr 1
 rw[List.map_map]
 refine List.ext_getElem? fun i=>?_
 by_cases h:i < R.length
 .simp[h,S]
 .simp[h]
theorem zep (a b:List Int):xA .zip (row a) (row b)=if a.length<=lim/\b.length<=lim then some ((a.zip b).map fun p=>(Dat.int p.1,Dat.int p.2)) else none:=by
 simp only[xA,row,List.length_map]
 rw[List.zip_map]
 rfl
theorem jl {R:List (List Int)}(h:Sq R){i:Nat}(hi:i < R.length):((zK R i).zip (R.getD i [])).map (fun p=>p.1+p.2)=zK R (i+1):=by
 obtain ⟨x,hx⟩:∃x,R[i]?=some x:=⟨R[i],by simp[hi]⟩
 have hg:R.getD i []=x:=by rw[List.getD_eq_getElem?_getD,hx];rfl
 have hl:x.length=R.length:=h x (List.mem_of_getElem? hx)
 rw[hg]
 refine List.ext_getElem? fun c=>?_
 by_cases hc:c < R.length
 .have e1:(zK R i)[c]?=some (S R i c):=by simp[zK,hc]
  have e2:x[c]?=some (x.getD c 0):=wV (by lia)
  have e3:(zK R (i+1))[c]?=some (S R (i+1) c):=by simp[zK,hc]
  rw[e3,qH R i c x hx,List.getElem?_map,qL e1 e2]
  rfl
 .rw[List.getElem?_eq_none (by simp[zK];lia),List.getElem?_eq_none (by simp[zK];lia)]
noncomputable def zaz:Sm:=(.seq (.asg 1 (.compP .zip (.bin .add (.var 4) (.var 5)) (.var 1) (.var 3) (.lit (.bl true)))) (.expr (.meth .append (.var 2) (.pair (.var 1) .unit))))
noncomputable def zeX:Fn:=⟨1,4,(.seq (.asg 1 (.bin .mul (.lst (.pair (.lit (.int 0)) .unit)) (.blt .len (.pair (.var 0) .unit)))) (.seq (.asg 2 (.lst (.pair (.var 1) .unit))) (.seq (.forv 3 (.var 0) zaz) (.ret (.var 2)))))⟩
theorem kO (e:Ex)(x:List Int)(he:∀i:Int,lvE lev e (.int i)=.full):(x.map Dat.int).all (fun d=>lvE lev e d == .full)=true:=by
 rw[List.all_map,List.all_eq_true]
 intro v _
 simp[he]
theorem zbe {R:List (List Int)}(h:Sq R)(hn:R.length<=100){i:Nat}(hi:i < R.length){A:List (List Int)}(hA:A.length < lim){l1:Lv}:
  exD lev cl zaz [some (tab R),some (row (zK R i)),some (tab A),some (row (R.getD i []))] [.no,l1,.top,.no]=.next [some (tab R),some (row (zK R (i+1))),some (tab (A++[zK R (i+1)])),some (row (R.getD i []))] [.no,.no,.top,.no]:=by
 have hx:(R.getD i []).length=R.length:=by
  have hg:R.getD i []=R[i]:=by rw[List.getD_eq_getElem?_getD,List.getElem?_eq_getElem hi];rfl
  rw[hg]
  exact h _ (List.getElem_mem hi)
 have hev:evD cl (.compP .zip (.bin .add (.var 4) (.var 5)) (.var 1) (.var 3) (.lit (.bl true))) [some (tab R),some (row (zK R i)),some (tab A),some (row (R.getD i []))]=.ok (row (zK R (i+1))):=by
  rw[gG]
  simp only[zb,za,zii,zep]
  rw[if_pos (by rw[hx];simp[zK];unfold lim;lia)]
  simp only
  rw[xT (fun (p:Int×Int)=>(Dat.int p.1,Dat.int p.2)) (fun p=>.int (p.1+p.2)) _ [] (fun p _=>by simp) (fun p _=>by simp) (by rw[List.length_zip,hx];simp[zK];unfold lim;lia)]
  rw[<- jl h hi]
  simp[row]
 have hlv:lvE lev (.compP .zip (.bin .add (.var 4) (.var 5)) (.var 1) (.var 3) (.lit (.bl true))) (row (zK R (i+1)))=.full:=by
  unfold row
  first | rw[wB] | rw[xP]
  simp only[xS,Bool.false_eq_true,if_false]
  rw[if_pos (kO _ _ fun i=>by simp)]
 unfold zaz
 rw[wF,zI,hev]
 simp only[zih]
 rw[yj hlv]
 simp only[zm,List.set_cons_succ,List.set_cons_zero]
 rw[xw]
 simp only[zb,za,zic]
 have hls:xa [some (tab R),some (row (zK R (i+1))),some (tab A),some (row (R.getD i []))] 2=some (A.map row):=rfl
 rw[hls]
 simp only[List.length_map]
 rw[if_pos hA]
 simp[y0,zX,row,downs,tab]
theorem zcY {R:List (List Int)}(h:Sq R)(hn:R.length<=100)(hlev:lev k=.no):zQ lev cl k zeX [tab R]=.ok (tab (sums R)):=by
 have main:=zZ (body:=fun x de lv=>exD lev cl zaz (de.set 3 (some x)) (lv.set 3 (lvF x)))
  (fun i de lv=>∃ (p3:Option Dat) (l1 l3:Lv),de=[some (tab R),some (row (zK R i)),some (tab ((sums R).take (i+1))),p3]/\lv=[.no,l1,.top,l3])
  (R.map row) (de:=[some (tab R),some (row (zK R 0)),some (tab [zK R 0]),none]) (lv:=[.no,.no,.top,.full])
  ⟨none,.no,.full,by simp[sums,List.range_succ_eq_map],rfl⟩ ?_
 .refine cps fun zP zk=>?_
  obtain ⟨de',lv',e,p3,l1,l3,rfl,rfl⟩:=main
  refine zk ?_
  unfold zQ
  rw[if_pos (by rfl)]
  show zS (lev k) (exD lev cl (.seq _ (.seq _ (.seq _ _))) [some (tab R),none,none,none] [lvF (tab R),.full,.full,.full])=_
  rw[show lvF (tab R)=.no from by simp[lvF,tab],zJ]
  have hlen:y8 .len [tab R]=.ok (.int R.length):=by simp[tab]
  have hmul:yb .mul (.lst [.int 0]) (.int R.length)=.ok (row (zK R 0)):=by
   simp only[yb]
   rw[if_pos (by unfold lim;lia),Int.toNat_natCast,<- qM,xF]
   simp;unfold lim;lia
  simp only[zI,zH,yM,zt,zr,zl,yz,zb,zii,zn,hlen]
  rw[xF (by simp;unfold lim;lia)]
  simp only[zii,hmul,zih]
  rw[yj (by simp[row])]
  simp only[zm,List.set_cons_succ,List.set_cons_zero]
  rw[zJ]
  simp only[zI,yM,zt,zr,zb,za,zii,zn]
  rw[xF (by simp;unfold lim;lia)]
  have ha:wH lev 2 (.lst (.pair (.var 1) .unit)) (.lst [row (zK R 0)]) [some (tab R),some (row (zK R 0)),none,none] [.no,.full,.full,.full]=.next [some (tab R),some (row (zK R 0)),some (tab [zK R 0]),none] [.no,.no,.top,.full]:=by
   simp[wH,row,y9,downs,tab]
  simp only[zih,ha,zm]
  rw[xH,xp]
  have hit:itD (tab R)=some (R.map row):=wU (by simp;unfold lim;lia)
  have hfl:flat (tab R)=false:=by simp[tab]
  simp only[zb,zih,hit,hfl]
  have hrel:(if false=true then [Lv.no,Lv.no,Lv.top,Lv.full] else y9 (.var 0) [some (tab R),some (row (zK R 0)),some (tab [zK R 0]),none] [Lv.no,Lv.no,Lv.top,Lv.full])=[.no,.no,.top,.full]:=rfl
  rw[hrel,e,zm]
  rw[List.length_map,List.take_of_length_le (by simp[sums])]
  simp[zS,lvR,hlev,za3,tab]
 .intro i x de lv hx zz
  obtain ⟨p3,l1,l3,rfl,rfl⟩:=zz
  have hi:i < R.length:=by
   have:=(List.getElem?_eq_some_iff.mp hx).1
   simpa using this
  have hxi:x=row (R.getD i []):=by
   rw[List.getElem?_map,List.getElem?_eq_getElem hi] at hx
   cases hx
   rw[List.getD_eq_getElem?_getD,List.getElem?_eq_getElem hi];rfl
  subst hxi
  refine ⟨_,_,?_,some (row (R.getD i [])),.no,.no,rfl,rfl⟩
  simp only[List.set_cons_succ,List.set_cons_zero,show lvF (row (R.getD i []))=.no from by simp[lvF,row]]
  rw[zbe h hn hi (by simp[sums];unfold lim;lia)]
  have e2:(sums R).take (i+1+1)=(sums R).take (i+1)++[zK R (i+1)]:=by
   rw[List.take_add_one]
   congr 1
   simp[sums,hi]
  rw[e2]
end
end Lib
namespace Lib
section
theorem deqL_refl:∀ (x:List Int),deqL (x.map Dat.int) (x.map Dat.int)=true
 | []=>rfl
 | v::x=>by simp[deqL,deqL_refl x]
theorem gK:∀ (A:List (List Int)),deqL (A.map row) (A.map row)=true
 | []=>rfl
 | v::x=>by simp[deqL,gK x,row,deqL_refl]
theorem zbf (A:List (List Int)):yS yH (tab A)=true:=by
 have h:∀x,yS 11 (row x)=true:=fun x=>by
  show yS (10+1) (row x)=true
  simp only[row,kH]
  rw[xQ,List.all_map];simp
 simp only[tab,zay,kH]
 rw[xQ,List.all_map,List.all_eq_true]
 intro x _
 exact h x
theorem zcZ (A:List (List Int)):xh .ne (tab A) (tab A)=.ok (.bl false):=by
 simp only[xh,eqD,zbf A,Bool.and_self,if_true]
 simp only[tab,zcL,gK]
 rfl
theorem gL:∀ (x:List Int),jH (x.map Dat.int)=some x.sum
 | []=>rfl
 | v::x=>by simp[jH,gL x]
end
end Lib
namespace Lib
section
variable {lev:Nat->Lv}{cl:Nat->List Dat->Rd}
theorem zc0 (c:Ex)(body:Sm)(de:DEn)(lv:List Lv):exD lev cl (.while c body) de lv=xY (evD cl c) (exD lev cl body) 1000000 de lv:=rfl
theorem qN {c:DEn->Rd}{body:DEn->List Lv->Rsd}(P:Nat->DEn->List Lv->Prop)(N:Nat)(hs:∀t de lv,t < N->P t de lv->c de=.ok (.bl true)/\∃de' lv',body de lv=.next de' lv'/\P (t+1) de' lv')(he:∀de lv,P N de lv->c de=.ok (.bl false)):
  ∀ (n t fuel:Nat) (de:DEn) (lv:List Lv),t+n=N->n < fuel->P t de lv->∃de' lv',xY c body fuel de lv=.next de' lv'/\P N de' lv':=by
 intro n
 induction n with
 | zero =>
  intro t fuel de lv h1 h2 p
  obtain ⟨f,rfl⟩:∃f,fuel=f+1:=⟨fuel - 1,by lia⟩
  have:t=N:=by lia
  subst this
  refine ⟨de,lv,?_,p⟩
  unfold xY
  rw[he de lv p]
 | succ n ih =>
  intro t fuel de lv h1 h2 p
  obtain ⟨f,rfl⟩:∃f,fuel=f+1:=⟨fuel - 1,by lia⟩
  refine cps fun zP zk=>?_
  obtain ⟨hc,d1,l1,hb,p1⟩:=hs t de lv (by lia) p
  obtain ⟨d2,l2,e,p2⟩:=ih (t+1) f d1 l1 (by lia) (by lia) p1
  refine zk ?_
  refine ⟨d2,l2,?_,p2⟩
  unfold xY
  rw[hc]
  simp only
  rw[hb]
  exact e
end
end Lib
namespace Lib
section
theorem zga (x:List Int):xh .ne (row x) (row [])=.ok (.bl (!decide (x=[]))):=by
 have h:∀y,yS yH (row y)=true:=fun y=>by
  simp only[row,zay,kH]
  rw[xQ];simp
 simp only[xh,eqD,h,Bool.and_self,if_true]
 simp only[row,zcL,List.map_nil]
 cases x with
 | nil=>rfl
 | cons v x=>simp[deqL];rfl
end
end Lib
namespace Lib
section
variable {lev:Nat->Lv}{cl:Nat->List Dat->Rd}{k:Nat}
noncomputable def jS:Fn:=⟨2,2,(.seq (.ite (.cmp .lt (.var 1) (.blt .len (.pair (.var 0) .unit))) (.ret (.idx (.var 0) (.var 1))) .skip) (.ret (.lit (.int 0))))⟩
theorem zbg (ns:List Int)(i:Nat):∃c:Int,zQ lev cl k jS [.scr ns,.int i]=.ok (.int c):=by
 by_cases h:i < ns.length
 .refine ⟨ns[i],?_⟩
  have h1:yt (.scr ns) (.int (i:Int))=.ok (.int ns[i]):=by simp[yt,wc,jP h,h]
  simp[zQ,jS,xl,yT,zS,lvR,h,h1]
 .refine ⟨0,?_⟩
  simp[zQ,jS,xl,yT,zS,lvR,h]
noncomputable def zeY:Fn:=⟨2,3,(.seq (.asg 2 (.bin .mod (.bin .mul (.bin .add (.bin .add (.bin .mod (.var 0) (.bin .pow (.lit (.int 10)) (.lit (.int 40)))) (.bin .mul (.var 1) (.var 1))) (.lit (.int 17))) (.bin .add (.lit (.int 30103)) (.bin .mul (.lit (.int 2)) (.var 1)))) (.lit (.int 86028121)))) (.ret (.bin .fdiv (.bin .mod (.bin .mul (.var 2) (.var 2)) (.lit (.int 86028157))) (.lit (.int 7)))))⟩
theorem zc1 (c j:Int)(h:0<=j)(h':j<=100000):∃v:Int,zQ lev cl k zeY [.int c,.int j]=.ok (.int v):=by
 have e1:yb .pow (.int 10) (.int 40)=.ok (.int (10 ^ 40)):=qD 10 40 ⟨by decide,by decide,by decide⟩
 have e2:yb .mod (.int c) (.int (10 ^ 40))=.ok (.int (c % 10 ^ 40)):=xD _ _ (by decide)
 generalize (10:Int) ^ 40=P at *
 have e3:yb .mul (.int j) (.int j)=.ok (.int (j * j)):=xt _ _ (kI (by lia) (by lia))
 have e4:∀x:Int,yb .mul (.int x) (.int (30103+2 * j))=.ok (.int (x * (30103+2 * j))):=fun x=>zei _ _ (kI (by lia) (by lia))
 have e5:yb .mul (.int 2) (.int j)=.ok (.int (2 * j)):=xt _ _ (by decide)
 have e6:∀x:Int,yb .mod (.int x) (.int 86028121)=.ok (.int (x % 86028121)):=fun x=>xD _ _ (by decide)
 have e7:∀x:Int,yb .mod (.int x) (.int 86028157)=.ok (.int (x % 86028157)):=fun x=>xD _ _ (by decide)
 have e8:∀x:Int,yb .fdiv (.int x) (.int 7)=.ok (.int (x / 7)):=fun x=>wE _ _ (by decide) (by decide)
 have e9:∀y:Int,yb .mul (.int (y % 86028121)) (.int (y % 86028121))=.ok (.int (y % 86028121 * (y % 86028121))):=fun y=>xt _ _ (kI (by lia) (by lia))
 generalize hy:(c % P+j * j+17) * (30103+2 * j)=y
 refine ⟨y % 86028121 * (y % 86028121) % 86028157 / 7,?_⟩
 unfold zQ
 rw[if_pos (by rfl)]
 show zS (lev k) (exD lev cl (.seq (.asg 2 _) (.ret _)) [some (.int c),some (.int j),none] _)=_
 rw[xH]
 simp only[zI,zH,zb,za,zl,zii,e1,e2,e3,e5,yh,e4,hy,e6,zih]
 rw[yn (by simp)]
 simp only[zm,List.set_cons_succ,List.set_cons_zero,zY,zH,zb,za,zl,zii,e9,e7,e8,zih]
 simp[zS]
noncomputable def drL:Ex:=(.bin .add (.idx (.var 5) (.var 7)) (.blt .int (.pair (.and (.cmp .ne (.var 6) (.lst .unit)) (.cmp .eq (.idx (.var 6) (.neg (.lit (.int 1)))) (.idx (.var 5) (.var 7)))) .unit)))
noncomputable def drW:Ex:=(.bin .add (.bin .sub (.idx (.var 5) (.bin .add (.var 7) (.lit (.int 1)))) (.var 8)) (.lit (.int 1)))
noncomputable def drI (km:Nat):Sm:=(.seq (.asg 8 drL) (.seq (.asg 9 (.var 3)) (.seq (.ite (.or (.cmp .lt (.var 0) (.bin .pow (.lit (.int 10)) (.lit (.int 18)))) (.cmp .eq (.var 3) (.lit (.int 0)))) (.asg 9 (.call km (.pair (.var 0) (.pair (.var 4) .unit)))) .skip) (.seq (.expr (.meth .append (.var 6) (.pair (.bin .add (.var 8) (.bin .mod (.var 9) drW)) .unit))) (.seq (.asg 3 (.bin .fdiv (.var 3) drW)) (.asg 4 (.bin .add (.var 4) (.lit (.int 1)))))))))
noncomputable def vl (l2 l5:Lv):List Lv:=[.full,.full,l2,.full,.full,l5,.full,.full,.full,.full,.full,.full]
theorem zgb {a b f g h o8 o9 o10 o11:Option Dat}{last acc:List Int}{m:Nat}(hm:m+1 < last.length)(hl:Inc last)(ha:acc.length=m)(hb:∀i,i < m->acc.getD i 0<=last.getD (i+1) 0)(hg:∀i,i < m->last.getD i 0<=acc.getD i 0):
  ∃low:Int,last.getD m 0<=low/\low<=last.getD (m+1) 0/\(0 < m->acc.getD (m - 1) 0 < low)/\evD cl drL [a,b,f,g,h,some (row last),some (row acc),some (.int m),o8,o9,o10,o11]=.ok (.int low):=by
 have g1:yt (row last) (.int (m:Int))=.ok (.int (last.getD m 0)):=x5 (wV (by lia))
 have hi:=hl m hm
 have hnew:yA []=.ok (row []):=rfl
 unfold drL
 simp only[zH,ym,yz,zt,zr,kG,yV,yM,jO,zl,za,zb,zii,zn,hnew,g1]
 rw[zga]
 by_cases z:acc=[]
 .subst z
  refine ⟨last.getD m 0,by lia,by lia,fun h=>by simp at ha;lia,?_⟩
  simp[y8,b2i]
 .have hm0:0 < m:=by cases acc with
   | nil=>exact absurd rfl z
   | cons _ _=>simp at ha;lia
  have g3:yt (row acc) (.int (-1))=.ok (.int (acc.getD (m - 1) 0)):=by
   refine vH ?_
   rw[List.length_map,ha,List.getElem?_map,wV (by lia)]
   rfl
  have h1:=hb (m - 1) (by lia)
  rw[show m - 1+1=m by lia] at h1
  simp only[z,decide_false,Bool.not_false,zii,g3,vL,g1]
  by_cases q:acc.getD (m - 1) 0=last.getD m 0
  .refine ⟨last.getD m 0+1,by lia,by lia,fun _=>by lia,?_⟩
   rw[decide_eq_true q];simp[y8,b2i]
  .refine ⟨last.getD m 0,by lia,by lia,fun _=>by lia,?_⟩
   rw[decide_eq_false q];simp[y8,b2i]
theorem zeq {km:Nat}(hmx:∀c j:Int,0<=j->j<=100000->∃v:Int,cl km [.int c,.int j]=.ok (.int v)){cell rest turn:Int}{n:Dat}{rows:List Dat}{last acc:List Int}{m:Nat}{o8 o9 o10 o11:Option Dat}{l2 l5:Lv}(ht:0<=turn/\turn<=100000)
  (hm:m+1 < last.length) (hl:Inc last) (ha:acc.length=m) (hb:∀i,i < m->acc.getD i 0<=last.getD (i+1) 0) (hg:∀i,i < m->last.getD i 0<=acc.getD i 0) (hlim:last.length<=100) (hbd:∀i,i < last.length->0<=last.getD i 0/\last.getD i 0<=1000) :
  ∃ (w rest':Int) (p8 p9:Option Dat),exD lev cl (drI km) [some (.int cell),some n,some (.lst rows),some (.int rest),some (.int turn),some (row last),some (row acc),some (.int m),o8,o9,o10,o11] (vl l2 l5)=.next [some (.int cell),some n,some (.lst rows),some (.int rest'),some (.int (turn+1)),some (row last),some (row (acc++[w])),some (.int m),p8,p9,o10,o11] (vl l2 l5)
   /\ last.getD m 0<=w/\w<=last.getD (m+1) 0/\(0 < m->acc.getD (m - 1) 0 < w):=by
 refine cps fun zP zk=>?_
 obtain ⟨low,l1,l2',l3,hlow⟩:=zgb (cl:=cl) (a:=some (.int cell)) (b:=some n) (f:=some (.lst rows)) (g:=some (.int rest)) (h:=some (.int turn)) (o8:=o8) (o9:=o9) (o10:=o10) (o11:=o11) hm hl ha hb hg
 refine zk ?_
 have g2:yt (row last) (.int ((m:Int)+1))=.ok (.int (last.getD (m+1) 0)):=x5 (c:=m+1) (wV hm)
 have h10:yb .pow (.int 10) (.int 18)=.ok (.int (10 ^ 18)):=qD 10 18 ⟨by decide,by decide,by decide⟩
 generalize (10:Int) ^ 18=P at h10
 have b1:=hbd m (by lia)
 have b2:=hbd (m+1) hm
 have pos:0 < last.getD (m+1) 0 - low+1:=by lia
 have num:∃num:Int,exD lev cl (.ite (.or (.cmp .lt (.var 0) (.bin .pow (.lit (.int 10)) (.lit (.int 18)))) (.cmp .eq (.var 3) (.lit (.int 0)))) (.asg 9 (.call km (.pair (.var 0) (.pair (.var 4) .unit)))) .skip) [some (.int cell),some n,some (.lst rows),some (.int rest),some (.int turn),some (row last),some (row acc),some (.int m),some (.int low),some (.int rest),o10,o11] (vl l2 l5)=.next [some (.int cell),some n,some (.lst rows),some (.int rest),some (.int turn),some (row last),some (row acc),some (.int m),some (.int low),some (.int num),o10,o11] (vl l2 l5):=by
  refine cps fun zP zj=>?_
  obtain ⟨v,hv⟩:=hmx cell turn ht.1 ht.2
  have hc:∃b:Bool,evD cl (.or (.cmp .lt (.var 0) (.bin .pow (.lit (.int 10)) (.lit (.int 18)))) (.cmp .eq (.var 3) (.lit (.int 0)))) [some (.int cell),some n,some (.lst rows),some (.int rest),some (.int turn),some (row last),some (row acc),some (.int m),some (.int low),some (.int rest),o10,o11]=.ok (.bl b):=by
   simp only[zaw,yV,zH,zl,za,zb,zii,h10,zcM,vL]
   by_cases q:cell < P
   .exact ⟨true,by simp[q]⟩
   .exact ⟨decide (rest=0),by simp[q]⟩
  obtain ⟨b,hc⟩:=hc
  refine zj ?_
  rw[yN,hc]
  simp only[zih]
  cases b with
  | true =>
   refine ⟨v,?_⟩
   simp only[zI,zA,zt,zr,za,zb,zii,zn,hv,zih]
   rw[yn (by simp)]
   rfl
  | false=>exact ⟨rest,by simp only[yX]⟩
 obtain ⟨num,hnum⟩:=num
 have q1:=Int.emod_nonneg num (b:=last.getD (m+1) 0 - low+1) (by lia)
 have q2:=Int.emod_lt_of_pos num pos
 have hw:∀ (o3 o4 o6 o9:Option Dat),evD cl drW [some (.int cell),some n,some (.lst rows),o3,o4,some (row last),o6,some (.int m),some (.int low),o9,o10,o11]=.ok (.int (last.getD (m+1) 0 - low+1)):=fun o3 o4 o6 o9=>by
  unfold drW
  simp only[zH,ym,zl,za,zb,zii,yh,g2,yi]
 have hmod:yb .mod (.int num) (.int (last.getD (m+1) 0 - low+1))=.ok (.int (num % (last.getD (m+1) 0 - low+1))):=xD _ _ pos
 have hdiv:yb .fdiv (.int rest) (.int (last.getD (m+1) 0 - low+1))=.ok (.int (rest / (last.getD (m+1) 0 - low+1))):=wE _ _ pos (by lia)
 refine ⟨low+num % (last.getD (m+1) 0 - low+1),rest / (last.getD (m+1) 0 - low+1),some (.int low),some (.int num),?_,by lia,by lia,fun h=>by have:=l3 h;lia⟩
 unfold drI
 rw[zJ,zI,hlow]
 simp only[zih]
 rw[yn (by simp)]
 simp only[zm,vl,List.set_cons_succ,List.set_cons_zero]
 rw[zJ,zI]
 simp only[za,zb,zih]
 rw[yn (by simp)]
 simp only[zm,List.set_cons_succ,List.set_cons_zero]
 rw[zJ]
 have hnum':=hnum
 unfold vl at hnum'
 rw[hnum',zm,zJ,xw]
 simp only[zH,za,zb,hw,zii,hmod,yh,zic]
 rw[show xa [some (.int cell),some n,some (.lst rows),some (.int rest),some (.int turn),some (row last),some (row acc),some (.int m),some (.int low),some (.int num),o10,o11] 6=some (acc.map Dat.int) from rfl]
 simp only[List.length_map]
 rw[if_pos (by unfold lim;lia)]
 have hgv:y0 lev (.bin .add (.var 8) (.bin .mod (.var 9) drW)) (.int (low+num % (last.getD (m+1) 0 - low+1))) 6 [some (.int cell),some n,some (.lst rows),some (.int rest),some (.int turn),some (row last),some (row acc),some (.int m),some (.int low),some (.int num),o10,o11] [.full,.full,l2,.full,.full,l5,.full,.full,.full,.full,.full,.full]=some ([some (.int cell),some n,some (.lst rows),some (.int rest),some (.int turn),some (row last),some (row acc),some (.int m),some (.int low),some (.int num),o10,o11],[.full,.full,l2,.full,.full,l5,.full,.full,.full,.full,.full,.full]):=by
  unfold y0
  rw[if_neg (by simp[zX]),if_pos (yy lev _ _ (by simp))]
 rw[hgv]
 simp only[zm,List.set_cons_succ,List.set_cons_zero]
 rw[zcR,zI]
 simp only[zH,za,zb,hw,zii,hdiv,zih]
 rw[yn (by simp)]
 simp only[zm,List.set_cons_succ,List.set_cons_zero,zI,zH,za,zb,zl,zii,yh,zih]
 rw[yn (by simp)]
 simp[row]
end
end Lib
namespace Lib
section
variable {lev:Nat->Lv}{cl:Nat->List Dat->Rd}{k:Nat}
theorem zgc {km:Nat}(hmx:∀c j:Int,0<=j->j<=100000->∃v:Int,cl km [.int c,.int j]=.ok (.int v)){cell rest turn:Int}{n:Dat}{rows:List Dat}{last:List Int}{kk:Nat}{o7 o8 o9 o10 o11:Option Dat}{l2 l5:Lv}(ht:0<=turn/\turn+kk<=100000)
  (hlen:last.length=kk+1) (hl:Inc last) (hlim:last.length<=100) (hbd:∀i,i < last.length->0<=last.getD i 0/\last.getD i 0<=1000) :
  ∃ (acc:List Int) (rest':Int) (p7 p8 p9:Option Dat),yJ (fun x de lv=>exD lev cl (drI km) (de.set 7 (some x)) (lv.set 7 (lvF x))) (yu 0 1 kk) [some (.int cell),some n,some (.lst rows),some (.int rest),some (.int turn),some (row last),some (row []),o7,o8,o9,o10,o11] (vl l2 l5) =
   .next [some (.int cell),some n,some (.lst rows),some (.int rest'),some (.int (turn+kk)),some (row last),some (row acc),p7,p8,p9,o10,o11] (vl l2 l5)/\Inc acc/\zcS last acc:=by
 have main:=zZ (body:=fun x de lv=>exD lev cl (drI km) (de.set 7 (some x)) (lv.set 7 (lvF x)))
  (fun m de lv=>∃ (acc:List Int) (rest':Int) (p7 p8 p9:Option Dat),de=[some (.int cell),some n,some (.lst rows),some (.int rest'),some (.int (turn+m)),some (row last),some (row acc),p7,p8,p9,o10,o11]/\lv=vl l2 l5/\acc.length=m/\Inc acc/\(∀i,i < m->last.getD i 0<=acc.getD i 0/\acc.getD i 0<=last.getD (i+1) 0))
  (yu 0 1 kk) (de:=[some (.int cell),some n,some (.lst rows),some (.int rest),some (.int turn),some (row last),some (row []),o7,o8,o9,o10,o11]) (lv:=vl l2 l5)
  ⟨[],rest,o7,o8,o9,by simp,rfl,rfl,fun i hi=>by simp at hi,fun i hi=>by lia⟩ ?_
 .refine cps fun zP zk=>?_
  obtain ⟨de',lv',e,acc,rest',p7,p8,p9,rfl,rfl,h1,h2,h3⟩:=main
  refine zk ?_
  rw[wn] at h1 h3 e
  exact ⟨acc,rest',p7,p8,p9,e,h2,⟨by lia,fun i hi=>h3 i (by lia)⟩⟩
 .intro m x de lv hx' zz
  refine cps fun zP zj=>?_
  obtain ⟨acc,rest',p7,p8,p9,rfl,rfl,h1,h2,h3⟩:=zz
  have hmk:m < kk:=by
   have:=(List.getElem?_eq_some_iff.mp hx').1
   simpa using this
  rw[xo _ _ _ _ hmk] at hx'
  cases hx'
  have e1:(0:Int)+1 * (m:Int)=(m:Int):=by lia
  obtain ⟨w,rest2,q8,q9,e,b1,b2,b3⟩:=zeq (lev:=lev) (cl:=cl) (cell:=cell) (rest:=rest') (turn:=turn+m) (n:=n) (rows:=rows) (last:=last) (acc:=acc) (m:=m) (o8:=p8) (o9:=p9) (o10:=o10) (o11:=o11) (l2:=l2) (l5:=l5) hmx (by lia) (by lia) hl h1 (fun i hi=>(h3 i hi).2) (fun i hi=>(h3 i hi).1) hlim hbd
  refine zj ?_
  refine ⟨_,_,?_,acc++[w],rest2,some (.int m),q8,q9,rfl,rfl,by simp[h1],h2.app (fun h=>?_),fun i hi=>?_⟩
  .simp only[e1,vl,List.set_cons_succ,List.set_cons_zero,show lvF (.int (m:Int))=.full from by simp[lvF]]
   rw[show turn+((m+1:Nat):Int)=turn+m+1 by lia]
   exact e
  .rw[h1] at h ⊢;exact b3 h
  .by_cases z:i < m
   .rw[xx (by lia)];exact h3 i z
   .have:i=acc.length:=by lia
    subst this
    rw[vN,h1];exact ⟨b1,b2⟩
noncomputable def drB (km:Nat):Sm:=(.seq (.asg 5 (.idx (.var 2) (.neg (.lit (.int 1))))) (.seq (.asg 6 (.lst .unit)) (.seq (.forv 7 (.rng (.lit (.int 0)) (.bin .sub (.blt .len (.pair (.var 5) .unit)) (.lit (.int 1))) (.lit (.int 1))) (drI km)) (.expr (.meth .append (.var 2) (.pair (.var 6) .unit))))))
noncomputable def drC:Ex:=(.cmp .lt (.blt .len (.pair (.var 2) .unit)) (.var 1))
noncomputable def DP (cell:Int)(n t:Nat)(de:DEn)(lv:List Lv):Prop:=∃ (L:List (List Int)) (rest turn:Int) (o5 o6 o7 o8 o9:Option Dat) (l2 l5 l6:Lv),de=[some (.int cell),some (.int n),some (tab L),some (.int rest),some (.int turn),o5,o6,o7,o8,o9,none,none]/\lv=[.full,.full,l2,.full,.full,l5,l6,.full,.full,.full,.full,.full]/\(l2=.full\/l2=.top)/\L.length=t+1/\TriL n L/\0<=turn/\turn<=100 * t
theorem zc2 {cell:Int}{n t:Nat}{de:DEn}{lv:List Lv}(h:DP cell n t de lv):evD cl drC de=.ok (.bl (decide (t+1 < n))):=by
 refine cps fun zP zk=>?_
 obtain ⟨L,rest,turn,o5,o6,o7,o8,o9,l2,l5,l6,rfl,rfl,hl2,h1,h2,h3⟩:=h
 refine zk ?_
 have hlen:y8 .len [tab L]=.ok (.int L.length):=by simp[tab]
 unfold drC
 simp only[yV,yz,zt,zr,za,zb,zii,zn,hlen,zcM]
 rw[show decide ((L.length:Int) < (n:Int))=decide (t+1 < n) from decide_eq_decide.mpr (by lia)]
theorem zgd {km:Nat}(hmx:∀c j:Int,0<=j->j<=100000->∃v:Int,cl km [.int c,.int j]=.ok (.int v)){cell:Int}{n t:Nat}{de:DEn}{lv:List Lv}(hn:n<=12)(ht:t+1 < n)(h:DP cell n t de lv):∃de' lv',exD lev cl (drB km) de lv=.next de' lv'/\DP cell n (t+1) de' lv':=by
 refine cps fun zP zk=>?_
 obtain ⟨L,rest,turn,o5,o6,o7,o8,o9,l2,l5,l6,rfl,rfl,hl2,h1,h2,h3,h4⟩:=h
 have hd:yt (tab L) (.int (-1))=.ok (row (L.getD t [])):=by
  refine vH ?_
  rw[List.length_map,h1,List.getElem?_map,List.getD_eq_getElem?_getD,show t+1 - 1=t by lia,List.getElem?_eq_getElem (by lia)]
  rfl
 have hl:=h2.len t (by lia)
 have hlen:y8 .len [row (L.getD t [])]=.ok (.int ((L.getD t []).length:Nat)):=by simp[row]
 have hnew:yA []=.ok (row []):=rfl
 have hrng:kC (.int 0) (.int (((L.getD t []).length:Nat) - 1:Int)) (.int 1)=.ok (.tup (yu 0 1 (n - 1 - t))):=by
  rw[show (((L.getD t []).length:Nat) - 1:Int)=((n - 1 - t:Nat):Int) by lia,kJ (by unfold lim;lia)]
  simp[kT]
 obtain ⟨acc,rest',p7,p8,p9,e,hinc,hlace⟩:=zgc (lev:=lev) (cl:=cl) (km:=km) hmx (cell:=cell) (rest:=rest) (turn:=turn) (n:=.int n) (rows:=L.map row) (last:=L.getD t []) (kk:=n - 1 - t) (o7:=o7) (o8:=o8) (o9:=o9) (o10:=none) (o11:=none) (l2:=.top) (l5:=.no) (by lia) (by lia) (h2.inc t (by lia)) (by lia) (fun j hj=>by have:=h2.bd t (by lia) j hj;lia)
 refine zk ?_
 refine ⟨[some (.int cell),some (.int n),some (tab (L++[acc])),some (.int rest'),some (.int (turn+(n - 1 - t:Nat))),some (row (L.getD t [])),some (row acc),p7,p8,p9,none,none],[.full,.full,.top,.full,.full,.no,.no,.full,.full,.full,.full,.full],?_,L++[acc],rest',_,_,_,_,_,_,.top,.no,.no,rfl,rfl,Or.inr rfl,by simp[h1],h2.app (by lia) hinc (by rw[show L.length - 1=t by lia];exact hlace),by lia,by lia⟩
 unfold drB
 rw[zJ]
 simp only[zI,ym,jO,za,zb,zl,zii,hd,zih]
 rw[show wH lev 5 (.idx (.var 2) (.neg (.lit (.int 1)))) (row (L.getD t [])) [some (.int cell),some (.int n),some (tab L),some (.int rest),some (.int turn),o5,o6,o7,o8,o9,none,none] [.full,.full,l2,.full,.full,l5,l6,.full,.full,.full,.full,.full]=.next [some (.int cell),some (.int n),some (tab L),some (.int rest),some (.int turn),some (row (L.getD t [])),o6,o7,o8,o9,none,none] [.full,.full,.top,.full,.full,.no,l6,.full,.full,.full,.full,.full] from by
  rcases hl2 with rfl | rfl <;> rfl]
 simp only[zm]
 rw[zJ]
 simp only[zI,yM,zr,zii,zn,hnew,zih]
 rw[yj (by simp[row])]
 simp only[zm,List.set_cons_succ,List.set_cons_zero]
 rw[wF,xp]
 simp only[xZ,zH,yz,zt,zr,zn,zl,za,zb,zii,hlen,yi,hrng,zih,x4,wp,xR,if_true]
 rw[show [Lv.full,Lv.full,Lv.top,Lv.full,Lv.full,Lv.no,Lv.full,Lv.full,Lv.full,Lv.full,Lv.full,Lv.full]=vl .top .no from rfl,show (some (tab L):Option Dat)=some (.lst (L.map row)) from rfl,e,zm,xw]
 simp only[za,zb,zic,xa,List.getElem?_cons_succ,List.getElem?_cons_zero]
 rw[if_pos (by rw[List.length_map,h1];unfold lim;lia)]
 have hg:y0 lev (.var 6) (row acc) 2 [some (.int cell),some (.int n),some (.lst (L.map row)),some (.int rest'),some (.int (turn+(n - 1 - t:Nat))),some (row (L.getD t [])),some (row acc),p7,p8,p9,none,none] (vl .top .no)=some ([some (.int cell),some (.int n),some (.lst (L.map row)),some (.int rest'),some (.int (turn+(n - 1 - t:Nat))),some (row (L.getD t [])),some (row acc),p7,p8,p9,none,none],[.full,.full,.top,.full,.full,.no,.no,.full,.full,.full,.full,.full]):=by
  simp[y0,zX,vl,row,downs]
 rw[hg]
 simp[tab]
noncomputable def drE:Ex:=(.comp (.bin .sub (.blt .int (.pair (.cmp .isin (.var 12) (.var 6)) .unit)) (.blt .int (.pair (.cmp .isin (.var 12) (.var 11)) .unit))) (.rng (.lit (.int 0)) (.var 1) (.lit (.int 1))) (.lit (.bl true)))
noncomputable def drS:Sm:=(.seq (.expr (.meth .append (.var 10) (.pair drE .unit))) (.asg 11 (.var 6)))
theorem zer {X:List (List Int)}(hX:X.length<=100){i:Nat}(hi:i < X.length){n:Int}(hn:n=X.length){a d2 d3 d4 d5 d7 d8 d9:Option Dat}{l2 l5 l11:Lv}:
  exD lev cl drS [a,some (.int n),d2,d3,d4,d5,some (row (X.getD i [])),d7,d8,d9,some (tab ((sg X).take i)),some (row (zM X i))] [.full,.full,l2,.full,.full,l5,.no,.full,.full,.full,.full,l11]=.next [a,some (.int n),d2,d3,d4,d5,some (row (X.getD i [])),d7,d8,d9,some (tab ((sg X).take (i+1))),some (row (zM X (i+1)))] [.full,.full,l2,.full,.full,l5,.no,.full,.full,.full,.full,.no]:=by
 subst hn
 have hrng:kC (.int 0) (.int X.length) (.int 1)=.ok (.tup (yu 0 1 X.length)):=by
  rw[kJ (by unfold lim;lia)]
  simp[kT]
 have hcomp:evD cl drE [a,some (.int X.length),d2,d3,d4,d5,some (row (X.getD i [])),d7,d8,d9,some (tab ((sg X).take i)),some (row (zM X i))]=.ok (row (y3 X.length (X.getD i []) (zM X i))):=by
  unfold drE
  rw[vT]
  simp only[xZ,zl,za,zb,zii,hrng,x4]
  rw[kL 0 1 X.length (fun c=>.int (b2i (mem (X.getD i []) c) - b2i (mem (zM X i) c)))]
  .simp[row,y3]
  .intro j hj;simp
  .intro j hj
   simp[zcT]
  .unfold lim;lia
 have hlim:((sg X).take i).length < lim:=by simp[sg];unfold lim;lia
 have e2:(sg X).take (i+1)=(sg X).take i++[y3 X.length (X.getD i []) (zM X i)]:=by
  rw[List.take_add_one]
  congr 1
  simp[sg,hi]
 have hall:lvE lev drE (row (y3 X.length (X.getD i []) (zM X i)))=.full:=by
  unfold row drE
  first | rw[wB] | rw[xP]
  simp only[xS,Bool.false_eq_true,if_false]
  rw[if_pos (kO _ _ fun i=>by simp)]
 unfold drS
 rw[zcR,xw,hcomp]
 simp only[zic]
 rw[show xa [a,some (.int X.length),d2,d3,d4,d5,some (row (X.getD i [])),d7,d8,d9,some (tab ((sg X).take i)),some (row (zM X i))] 10=some (((sg X).take i).map row) from rfl]
 simp only[List.length_map]
 rw[if_pos hlim]
 have hg:y0 lev drE (row (y3 X.length (X.getD i []) (zM X i))) 10 [a,some (.int X.length),d2,d3,d4,d5,some (row (X.getD i [])),d7,d8,d9,some (tab ((sg X).take i)),some (row (zM X i))] [.full,.full,l2,.full,.full,l5,.no,.full,.full,.full,.full,l11]=some ([a,some (.int X.length),d2,d3,d4,d5,some (row (X.getD i [])),d7,d8,d9,some (tab ((sg X).take i)),some (row (zM X i))],[.full,.full,l2,.full,.full,l5,.no,.full,.full,.full,.full,l11]):=by
  unfold y0
  rw[if_neg (by simp[zX]),if_pos hall]
 rw[hg]
 simp only[zm,List.set_cons_succ,List.set_cons_zero,zI,za,zb,zih]
 rw[e2]
 rw[show zM X (i+1)=X.getD i [] from by simp[zM]]
 rw[show (tab (List.take i (sg X)++[y3 X.length (X.getD i []) (zM X i)]))=.lst ((List.take i (sg X)).map row++[row (y3 X.length (X.getD i []) (zM X i))]) from by simp[tab]]
 rfl
noncomputable def zc3 (km:Nat):Fn:=⟨2,12,(.seq (.asg 2 (.lst (.pair (.lrng (.var 1)) .unit))) (.seq (.asg 3 (.var 0)) (.seq (.asg 4 (.lit (.int 0))) (.seq (.while drC (drB km)) (.seq (.expr (.meth .reverse (.var 2) .unit)) (.seq (.asg 10 (.lst .unit)) (.seq (.asg 11 (.lst .unit)) (.seq (.forv 6 (.var 2) drS) (.ret (.var 10))))))))))⟩
theorem zbh {km:Nat}(hmx:∀c j:Int,0<=j->j<=100000->∃v:Int,cl km [.int c,.int j]=.ok (.int v)){n:Nat}(hn:1<=n)(hn':n<=12)(cell:Int)(hlev:lev k=.no\/lev k=.full):
  ∃X,Tri n X/\zQ lev cl k (zc3 km) [.int cell,.int n]=.ok (tab (sg X)):=by
 have hl:evD cl (.lrng (.var 1)) [some (.int cell),some (.int n),none,none,none,none,none,none,none,none,none,none]=.ok (row (yd n)):=by
  simp only[zax,za,zb,zii]
  rw[if_pos (by unfold lim;lia),xF (by simp;unfold lim;lia),<- kK]
  simp
 have hnew:yA [row (yd n)]=.ok (tab [yd n]):=by rw[xF (by simp[lim])];rfl
 have hnew0:yA []=.ok (row []):=rfl
 refine cps fun zP zk=>?_
 obtain ⟨de',lv',e,L,rest,turn,o5,o6,o7,o8,o9,l2,l5,l6,rfl,rfl,hl2,h1,h2,h3⟩:=qN (c:=evD cl drC) (body:=exD lev cl (drB km)) (DP cell n) (n - 1)
  (fun t de lv ht p=>⟨by rw[zc2 p];simp;lia,zgd hmx (by lia) (by lia) p⟩)
  (fun de lv p=>by rw[zc2 p];simp;lia) (n - 1) 0 1000000 [some (.int cell),some (.int n),some (tab [yd n]),some (.int cell),some (.int 0),none,none,none,none,none,none,none] [.full,.full,.full,.full,.full,.full,.full,.full,.full,.full,.full,.full]
  (by lia) (by lia) ⟨[yd n],cell,0,none,none,none,none,none,.full,.full,.full,rfl,rfl,Or.inl rfl,rfl,TriL.one n,by lia,by lia⟩
 refine zk ?_
 have hX:Tri n L.reverse:=Tri.of hn h2 (by lia)
 have hXl:=hX.len
 refine ⟨L.reverse,hX,?_⟩
 generalize hXe:L.reverse=X at *
 have main:=zZ (body:=fun x de lv=>exD lev cl drS (de.set 6 (some x)) (lv.set 6 (lvF x)))
  (fun i de lv=>∃ (p6:Option Dat) (m6 m11 m2:Lv),de=[some (.int cell),some (.int n),some (tab X),some (.int rest),some (.int turn),o5,p6,o7,o8,o9,some (tab ((sg X).take i)),some (row (zM X i))]/\lv=[.full,.full,m2,.full,.full,l5,m6,.full,.full,.full,.full,m11])
  (X.map row) (de:=[some (.int cell),some (.int n),some (tab X),some (.int rest),some (.int turn),o5,o6,o7,o8,o9,some (tab []),some (row [])]) (lv:=[.full,.full,.no,.full,.full,l5,l6,.full,.full,.full,.full,.full])
  ⟨o6,l6,.full,.no,rfl,rfl⟩ ?_
 .refine cps fun zP zj=>?_
  obtain ⟨de',lv',e3,p6,m6,m11,m2,rfl,rfl⟩:=main
  refine zj ?_
  unfold zQ
  rw[if_pos (by rfl)]
  show zS (lev k) (exD lev cl (.seq _ (.seq _ (.seq _ (.seq _ (.seq _ (.seq _ (.seq _ (.seq _ _)))))))) [some (.int cell),some (.int n),none,none,none,none,none,none,none,none,none,none] [lvF (.int cell),lvF (.int n),.full,.full,.full,.full,.full,.full,.full,.full,.full,.full])=_
  simp only[show ∀i:Int,lvF (.int i)=.full from fun i=>by simp[lvF]]
  rw[zJ]
  simp only[zI,yM,zt,zr,hl,zii,zn,hnew,zih]
  rw[yj (by simp[tab,row])]
  simp only[zm,List.set_cons_succ,List.set_cons_zero]
  rw[zJ]
  simp only[zI,za,zb,zih]
  rw[yn (by simp)]
  simp only[zm,List.set_cons_succ,List.set_cons_zero]
  rw[zJ]
  simp only[zI,zl,zih]
  rw[yn (by simp)]
  simp only[zm,List.set_cons_succ,List.set_cons_zero]
  rw[zJ,zc0,e,zm,zJ,zel]
  rw[show xa [some (.int cell),some (.int n),some (tab L),some (.int rest),some (.int turn),o5,o6,o7,o8,o9,none,none] 2=some (L.map row) from rfl]
  simp only[]
  rw[if_pos (by rcases hl2 with rfl | rfl <;> rfl),<- List.map_reverse,hXe]
  simp only[zm,List.set_cons_succ,List.set_cons_zero]
  rw[zJ]
  simp only[zI,yM,zr,zii,zn,hnew0,zih]
  rw[yj (by simp[row])]
  simp only[zm,List.set_cons_succ,List.set_cons_zero]
  rw[zJ]
  simp only[zI,yM,zr,zii,zn,hnew0,zih]
  rw[yj (by simp[row])]
  simp only[zm,List.set_cons_succ,List.set_cons_zero]
  rw[xH,xp]
  have hit:itD (tab X)=some (X.map row):=wU (by simp;unfold lim;lia)
  have hfl:flat (tab X)=false:=by simp[tab]
  rw[show (Dat.lst (X.map row))=tab X from rfl]
  simp only[za,zb,zih,hit,hfl]
  have hrel:(if false=true then [Lv.full,Lv.full,l2,Lv.full,Lv.full,l5,l6,Lv.full,Lv.full,Lv.full,Lv.full,Lv.full] else y9 (.var 2) [some (.int cell),some (.int n),some (tab X),some (.int rest),some (.int turn),o5,o6,o7,o8,o9,some (row []),some (row [])] [Lv.full,Lv.full,l2,Lv.full,Lv.full,l5,l6,Lv.full,Lv.full,Lv.full,Lv.full,Lv.full])=[.full,.full,.no,.full,.full,l5,l6,.full,.full,.full,.full,.full]:=rfl
  rw[hrel]
  have e3':=e3
  rw[show (some (tab []):Option Dat)=some (row []) from rfl] at e3'
  rw[e3',zm]
  have hg:za3 .full (lev k)=true:=by rcases hlev with h | h <;> rw[h] <;> rfl
  rw[List.length_map,List.take_of_length_le (by simp[sg])]
  simp[zS,lvR,hg,tab]
 .intro i x de lv hx zz
  refine cps fun zP zi=>?_
  obtain ⟨p6,m6,m11,m2,rfl,rfl⟩:=zz
  refine zi ?_
  have hi:i < X.length:=by
   have:=(List.getElem?_eq_some_iff.mp hx).1
   simpa using this
  have hxi:x=row (X.getD i []):=by
   rw[List.getElem?_map,List.getElem?_eq_getElem hi] at hx
   cases hx
   rw[List.getD_eq_getElem?_getD,List.getElem?_eq_getElem hi];rfl
  subst hxi
  refine ⟨_,_,?_,some (row (X.getD i [])),.no,.no,m2,rfl,rfl⟩
  simp only[List.set_cons_succ,List.set_cons_zero,show lvF (row (X.getD i []))=.no from by simp[lvF,row]]
  exact zer (by lia) hi (by lia)
end
end Lib
namespace Lib
section
variable {lev:Nat->Lv}{cl:Nat->List Dat->Rd}{k:Nat}
noncomputable def qO (i:Int)(x:List Int)(j:Nat):Int:=i+j - 2 * (x.take j).sum
noncomputable def xI (i:Int)(x:List Int):List Int:=(List.range (x.length+1)).map (qO i x)
theorem gM {i:Int}{x:List Int}{j:Nat}(h:j<=x.length):(xI i x)[j]?=some (qO i x j):=by
 simp only[xI,List.getElem?_map]
 rw[List.getElem?_range (by lia)];rfl
theorem xU {x:List Int}{t:Nat}{v:Int}(h:x[t]?=some v):(x.take (t+1)).sum=(x.take t).sum+v:=by
 rw[List.take_add_one,h,List.sum_append];simp
noncomputable def zc4:Sm:=(.expr (.meth .append (.var 2) (.pair (.bin .sub (.bin .add (.idx (.var 2) (.neg (.lit (.int 1)))) (.lit (.int 1))) (.bin .mul (.lit (.int 2)) (.var 3))) .unit)))
noncomputable def zeZ:Fn:=⟨2,4,(.seq (.asg 2 (.lst (.pair (.var 0) .unit))) (.seq (.forv 3 (.var 1) zc4) (.ret (.var 2))))⟩
theorem zc5 (i:Int)(x:List Int)(hx:x.length<=100)(hk:lev k≠.top):zQ lev cl k zeZ [.int i,row x]=.ok (row (xI i x)):=by
 have main:=zZ (body:=fun d de lv=>exD lev cl zc4 (de.set 3 (some d)) (lv.set 3 (lvF d)))
  (fun t de lv=>∃ (p3:Option Dat) (l3:Lv),de=[some (.int i),some (row x),some (row ((xI i x).take (t+1))),p3]/\lv=[.full,.no,.full,l3])
  (x.map Dat.int) (de:=[some (.int i),some (row x),some (row [i]),none]) (lv:=[.full,.no,.full,.full])
  ⟨none,.full,by simp[xI,List.range_succ_eq_map,qO],rfl⟩ ?_
 .refine cps fun zP zk=>?_
  obtain ⟨de',lv',e,p3,l3,rfl,rfl⟩:=main
  refine zk ?_
  unfold zQ
  rw[if_pos (by rfl)]
  show zS (lev k) (exD lev cl (.seq _ (.seq _ _)) [some (.int i),some (row x),none,none] [lvF (.int i),lvF (row x),.full,.full])=_
  rw[show lvF (row x)=.no from by simp[lvF,row],show lvF (.int i)=.full from by simp[lvF],zJ]
  simp only[zI,yM,zt,zr,zb,zii,zn]
  rw[xF (by simp;unfold lim;lia)]
  simp only[zih]
  rw[yj (by simp)]
  simp only[zm,List.set_cons_succ,List.set_cons_zero]
  rw[xH,xp]
  have hit:itD (row x)=some (x.map Dat.int):=wU (by simp;unfold lim;lia)
  have hfl:flat (row x)=false:=by simp[row]
  simp only[zb,za,zih,hit,hfl]
  have hrel:(if false=true then [Lv.full,Lv.no,Lv.full,Lv.full] else y9 (.var 1) [some (.int i),some (row x),some (.lst [.int i]),none] [Lv.full,Lv.no,Lv.full,Lv.full])=[.full,.no,.full,.full]:=rfl
  rw[hrel,show (some (.lst [.int i]):Option Dat)=some (row [i]) from rfl,e,zm]
  rw[List.length_map,List.take_of_length_le (by simp[xI])]
  simp only[zY,zb,za,zih,lvR,zS,show flat (row (xI i x))=false from by simp[row],Bool.false_eq_true,if_false,Bool.false_or]
  show (if za3 Lv.full (lev k)=true then _ else _)=_
  cases e:lev k <;> first | rfl | exact absurd e hk
 .rintro t d de lv hd ⟨p3,l3,rfl,rfl⟩
  have ht:t < x.length:=by
   have:=(List.getElem?_eq_some_iff.mp hd).1
   simpa using this
  have hxt:x[t]?=some x[t]:=List.getElem?_eq_getElem ht
  rw[List.getElem?_map,hxt] at hd
  cases hd
  have hlen:((xI i x).take (t+1)).length=t+1:=by simp[xI];lia
  have hlast:yt (row ((xI i x).take (t+1))) (.int (-1))=.ok (.int (qO i x t)):=by
   refine vH ?_
   rw[List.length_map,hlen,List.getElem?_map,List.getElem?_take,if_pos (by lia),show t+1 - 1=t by lia,gM (by lia)]
   rfl
  have e2:(xI i x).take (t+1+1)=(xI i x).take (t+1)++[qO i x t+1 - 2 * x[t]]:=by
   rw[List.take_add_one,gM (by lia),Option.toList_some]
   have:=xU hxt
   unfold qO
   rw[this]
   congr 2
   lia
  refine ⟨_,_,?_,some (.int x[t]),lvF (.int x[t]),rfl,rfl⟩
  unfold zc4
  simp only[List.set_cons_succ,List.set_cons_zero]
  rw[xw]
  simp only[zH,ym,jO,zl,zb,za,zii,hlast,yh,xt 2 _ (show yC 2=true by decide),yi,zic]
  have hls:xa [some (.int i),some (row x),some (row ((xI i x).take (t+1))),some (.int x[t])] 2=some (((xI i x).take (t+1)).map Dat.int):=rfl
  rw[hls]
  simp only[List.length_map,hlen]
  rw[if_pos (by unfold lim;lia)]
  simp[y0,zX,e2,row]
noncomputable def HT (R:List (List Int)):List (List Int):=(List.range (R.length+1)).map fun (i:Nat)=>xI i (zK R i)
theorem zc6 (s:Int)(A:List (List Int))(h:A.length<=lim):xA .enum (tab A) (.int s)=some ((List.range A.length).map fun (i:Nat)=>(Dat.int (s+i),row (A.getD i []))):=by
 simp only[xA,tab,List.length_map]
 rw[if_pos h]
 congr 1
 refine List.ext_getElem? fun i=>?_
 by_cases hi:i < A.length
 .rw[qL (a:=Dat.int (s+i)) (b:=row (A.getD i [])) (by rw[xo _ _ _ _ hi,Int.one_mul]) (by rw[List.getElem?_map,List.getD_eq_getElem?_getD,List.getElem?_eq_getElem hi];rfl)]
  simp[hi]
 .rw[List.getElem?_eq_none (by simp;lia),List.getElem?_eq_none (by simp;lia)]
noncomputable def gN (ks kh:Nat):Fn:=⟨1,1,(.ret (.compP .enum (.call kh (.pair (.var 1) (.pair (.var 2) .unit))) (.call ks (.pair (.var 0) .unit)) (.lit (.int 0)) (.lit (.bl true))))⟩
theorem gO {ks kh:Nat}{R:List (List Int)}(hs:cl ks [tab R]=.ok (tab (sums R)))(hh:∀ (i:Int) x,x.length<=100->cl kh [.int i,row x]=.ok (row (xI i x)))(hn:R.length<=100)(hlev:lev kh=.full)(hk:lev k≠.top):zQ lev cl k (gN ks kh) [tab R]=.ok (tab (HT R)):=by
 have hl:(sums R).length=R.length+1:=by simp[sums]
 have hev:evD cl (.compP .enum (.call kh (.pair (.var 1) (.pair (.var 2) .unit))) (.call ks (.pair (.var 0) .unit)) (.lit (.int 0)) (.lit (.bl true))) [some (tab R)]=.ok (tab (HT R)):=by
  rw[gG]
  simp only[zA,zt,zr,zb,zl,zii,zn,hs]
  rw[zc6 0 (sums R) (by rw[hl];unfold lim;lia),hl]
  simp only
  rw[xT (fun (i:Nat)=>(Dat.int (0+(i:Int)),row ((sums R).getD i []))) (fun (i:Nat)=>row (xI i (zK R i))) _ [] (fun i _=>by simp) (fun i hi=>?_) (by simp;unfold lim;lia)]
  .simp only[List.nil_append,tab,HT,List.map_map];rfl
  .have hi':i < R.length+1:=by simpa using hi
   have e1:(sums R).getD i []=zK R i:=by
    rw[List.getD_eq_getElem?_getD]
    simp only[sums,List.getElem?_map]
    rw[List.getElem?_range hi'];rfl
   rw[e1,Int.zero_add]
   simp only[List.cons_append,List.nil_append,zA,zt,zr,za,zb,zii,zn]
   exact hh _ _ (by simpa [zK] using hn)
 have hlv:lvE lev (.compP .enum (.call kh (.pair (.var 1) (.pair (.var 2) .unit))) (.call ks (.pair (.var 0) .unit)) (.lit (.int 0)) (.lit (.bl true))) (tab (HT R))=.full:=by
  have:((HT R).map row).all (fun x=>lvE lev (.call kh (.pair (.var 1) (.pair (.var 2) .unit))) x == .full)=true:=by
   rw[List.all_map,List.all_eq_true]
   intro x _
   simp[row,hlev]
  unfold tab
  first | rw[wB] | rw[xP]
  simp only[xS,Bool.false_eq_true,if_false]
  rw[if_pos this]
 unfold zQ
 rw[if_pos (by rfl)]
 show zS (lev k) (exD lev cl (.ret _) [some (tab R)] [lvF (tab R)])=_
 rw[zY,hev]
 simp only[zih,lvR,zS]
 rw[show flat (tab (HT R))=false from by simp[tab]]
 simp only[Bool.false_eq_true,if_false,hlv,Bool.false_or]
 cases e:lev k <;> first | rfl | exact absurd e hk
end
end Lib
namespace Lib
section
noncomputable def PR (R:List (List Int))(i j:Nat):Int:=((List.range i).map fun r=>((R.getD r []).take j).sum).sum
theorem wG (R:List (List Int))(i j:Nat):PR R (i+1) j=PR R i j+((R.getD i []).take j).sum:=by
 unfold PR
 rw[List.range_succ,List.map_append,List.sum_append]
 simp
theorem x6 {R:List (List Int)}(h:Sq R):∀ (i j:Nat),i<=R.length->j<=R.length->((zK R i).take j).sum=PR R i j
 | 0,j,_,hj=>by
  have:∀ (n:Nat),((List.range n).map fun c=>S R 0 c)=List.replicate n 0:=fun n=>by
   induction n with
   | zero=>rfl
   | succ n ih=>rw[List.range_succ,List.map_append,ih,List.replicate_succ'];simp[S]
  unfold zK
  rw[this,List.take_replicate]
  have z:∀n:Nat,(List.replicate n (0:Int)).sum=0:=fun n=>by
   induction n with
   | zero=>rfl
   | succ n ih=>rw[List.replicate_succ,List.sum_cons,ih];rfl
  rw[z]
  rfl
 | i+1,j,hi,hj=>by
  rw[wG,<- x6 h i j (by lia) hj]
  have hx:(R.getD i []).length=R.length:=by
   rw[List.getD_eq_getElem?_getD,List.getElem?_eq_getElem (show i < R.length by lia)]
   exact h _ (List.getElem_mem _)
  rw[<- jl h (show i < R.length by lia)]
  have hl:(zK R i).length=R.length:=by simp[zK]
  generalize zK R i=a at hl ⊢
  generalize R.getD i []=b at hx ⊢
  induction j with
  | zero=>simp
  | succ j ih =>
   have ha:a[j]?=some a[j]:=List.getElem?_eq_getElem (by lia)
   have hb:b[j]?=some b[j]:=List.getElem?_eq_getElem (by lia)
   have hz:((a.zip b).map fun p=>p.1+p.2)[j]?=some (a[j]+b[j]):=by rw[List.getElem?_map,qL ha hb];rfl
   rw[xU hz,xU ha,xU hb,ih (by lia)]
   lia
noncomputable def zR (R:List (List Int))(i j:Nat):Int:=(i:Int)+j - 2 * PR R i j
noncomputable def LT (R:List (List Int)):List (List Int):=(List.range (R.length+1)).map fun (i:Nat)=>(List.range (R.length+1)).map (zR R i)
theorem ze0 {R:List (List Int)}(h:Sq R):LT R=HT R:=by
 unfold LT HT
 refine List.map_congr_left fun i hi=>?_
 have hi':i<=R.length:=by have:=List.mem_range.mp hi;lia
 unfold xI
 rw[show (zK R i).length=R.length by simp[zK]]
 refine List.map_congr_left fun j hj=>?_
 have hj':j<=R.length:=by have:=List.mem_range.mp hj;lia
 unfold zR qO
 rw[x6 h i j hi' hj']
theorem zes (x:List Int):y8 .sum [row x]=.ok (.int x.sum):=by
 simp only[y8,row,lsD,Option.bind_some,gL]
end
end Lib
namespace Lib
section
theorem zaA {t:Int}{b:Bool}(h:vM t b=false):(t=0\/t=1)/\(b=true->t=1):=by
 cases b with
 | true =>
  have h':t=1:=by simpa [vM] using h
  exact ⟨.inr h',fun _=>h'⟩
 | false =>
  refine ⟨?_,fun e=>by cases e⟩
  simp only[vM,Bool.false_eq_true,if_false,Bool.not_eq_false',Bool.or_eq_true,decide_eq_true_eq] at h
  exact h
structure Sums (R:List (List Int)):Prop where
 sq:Sq R
 row:∀r c,r < R.length->c<=R.length->((R.getD r []).take c).sum=0\/((R.getD r []).take c).sum=1
 rowE:∀r,r < R.length->((R.getD r []).take R.length).sum=1
 col:∀r c,r<=R.length->c < R.length->S R r c=0\/S R r c=1
 colE:∀c,c < R.length->S R R.length c=1
theorem Sums.of {R:List (List Int)}(sq:Sq R)(h:∀r c,r < R.length->c < R.length->bad R r c=false):Sums R:=by
 have q:∀r c,r < R.length->c < R.length->((ac R r (c+1)=0\/ac R r (c+1)=1)/\(c+1=R.length->ac R r (c+1)=1))/\(S R (r+1) c=0\/S R (r+1) c=1)/\(r+1=R.length->S R (r+1) c=1):=by
  intro r c hr hc
  have:=h r c hr hc
  unfold bad at this
  rw[Bool.or_eq_false_iff] at this
  obtain ⟨a1,a2⟩:=zaA this.1
  obtain ⟨b1,b2⟩:=zaA this.2
  exact ⟨⟨a1,fun e=>a2 (by simp;lia)⟩,b1,fun e=>b2 (by simp;lia)⟩
 refine ⟨sq,fun r c hr hc=>?_,fun r hr=>?_,fun r c hr hc=>?_,fun c hc=>?_⟩
 .cases c with
  | zero=>left;simp
  | succ c=>exact (q r c hr (by lia)).1.1
 .have:=(q r (R.length - 1) hr (by lia)).1.2 (by lia)
  unfold ac at this
  rwa [show R.length - 1+1=R.length by lia] at this
 .cases r with
  | zero=>left;simp[S]
  | succ r=>exact (q r c (by lia) hc).2.1
 .have:=(q (R.length - 1) c (by lia) hc).2.2 (by lia)
  rwa [show R.length - 1+1=R.length by lia] at this
theorem jT {R:List (List Int)}(h:Sq R){i j:Nat}(hi:i<=R.length)(hj:j < R.length):PR R i (j+1)=PR R i j+S R i j:=by
 rw[<- x6 h i (j+1) hi (by lia),<- x6 h i j hi (by lia)]
 exact xU (by simp[zK,hj])
theorem jU (R:List (List Int))(i:Nat):PR R i 0=0:=by
 induction i with
 | zero=>rfl
 | succ i ih=>rw[wG,ih];simp
theorem Sums.end {R:List (List Int)}(h:Sums R):∀i,i<=R.length->PR R i R.length=i/\PR R R.length i=i
 | 0,_=>⟨rfl,jU R _⟩
 | i+1,hi=>by
  obtain ⟨a,b⟩:=h.end i (by lia)
  refine ⟨?_,?_⟩
  .rw[wG,a,h.rowE i (by lia)];lia
  .rw[jT h.sq (Nat.le_refl _) (by lia),b,h.colE i (by lia)];lia
theorem Sums.rim {R:List (List Int)}(h:Sums R){t:Nat}(ht:t<=R.length):zR R 0 t=t/\zR R t 0=t/\zR R R.length t=(R.length:Int) - t/\zR R t R.length=(R.length:Int) - t:=by
 obtain ⟨a,b⟩:=h.end t ht
 have z:=jU R t
 have z0:PR R 0 t=0:=rfl
 unfold zR
 rw[a,b,z,z0]
 lia
theorem Sums.near {R:List (List Int)}(h:Sums R){t m:Nat}(ht:t<=R.length)(hm:m < R.length):(zR R t m - zR R t (m+1)=1\/zR R t m - zR R t (m+1)=-1)/\(zR R m t - zR R (m+1) t=1\/zR R m t - zR R (m+1) t=-1):=by
 have a:=jT h.sq ht hm
 have b:=wG R m t
 have c:=h.col t m ht hm
 have d:=h.row m t hm ht
 unfold zR
 rw[a,b]
 lia
end
end Lib
namespace Lib
section
noncomputable def bt:Int->List Int->Bool
 | due,[]=>decide (due=-1)
 | due,s::r=>if s=0 then bt due r else if s=due then bt (0 - due) r else false
end
end Lib
namespace Lib
end Lib
namespace Lib
structure HF (n:Nat)(G:Nat->Nat->Int):Prop where
 top:∀j,j<=n->G 0 j=j
 left:∀i,i<=n->G i 0=i
 low:∀j,j<=n->G n j=(n:Int) - j
 right:∀i,i<=n->G i n=(n:Int) - i
 across:∀i j,i<=n->j < n->G i (j+1) - G i j=1\/G i (j+1) - G i j=-1
 down:∀i j,i < n->j<=n->G (i+1) j - G i j=1\/G (i+1) j - G i j=-1
noncomputable def hrw (n:Nat)(G:Nat->Nat->Int)(i:Nat):List Int:=(List.range (n+1)).map (G i)
noncomputable def zy (n:Nat)(G:Nat->Nat->Int):List (List Int):=(List.range (n+1)).map (hrw n G)
noncomputable def amid (G:Nat->Nat->Int)(r c:Nat):Int:=(G r (c+1)+G (r+1) c - G r c - G (r+1) (c+1)) / 2
noncomputable def y4 (n:Nat)(G:Nat->Nat->Int)(r:Nat):List Int:=(List.range n).map (amid G r)
noncomputable def zF (n:Nat)(G:Nat->Nat->Int):List (List Int):=(List.range n).map (y4 n G)
theorem HF.par {n:Nat}{G:Nat->Nat->Int}(h:HF n G):∀i j,i<=n->j<=n->(G i j - i - j) % 2=0
 | i,0,hi,_=>by rw[h.left i hi];simp
 | i,j+1,hi,hj=>by
  have a:=h.par i j hi (by lia)
  have b:=h.across i j hi (by lia)
  lia
theorem HF.amid2 {n:Nat}{G:Nat->Nat->Int}(h:HF n G){r c:Nat}(hr:r < n)(hc:c < n):2 * amid G r c=G r (c+1)+G (r+1) c - G r c - G (r+1) (c+1):=by
 have p1:=h.par r c (by lia) (by lia)
 have p2:=h.par r (c+1) (by lia) (by lia)
 have p3:=h.par (r+1) c (by lia) (by lia)
 have p4:=h.par (r+1) (c+1) (by lia) (by lia)
 unfold amid
 lia
theorem yG (n:Nat)(G:Nat->Nat->Int):(zF n G).length=n:=by simp[zF]
theorem vm (n:Nat)(G:Nat->Nat->Int):Sq (zF n G):=by
 intro x hx
 simp only[zF,List.mem_map] at hx
 obtain ⟨r,_,rfl⟩:=hx
 simp[y4,zF]
theorem zc7 {n:Nat}{G:Nat->Nat->Int}{r:Nat}(h:r < n):(zF n G).getD r []=y4 n G r:=by
 rw[List.getD_eq_getElem?_getD]
 simp[zF,h]
theorem HF.rowsum {n:Nat}{G:Nat->Nat->Int}(h:HF n G){r:Nat}(hr:r < n):∀j,j<=n->2 * ((y4 n G r).take j).sum=G r j - G (r+1) j+1
 | 0,_=>by
  rw[h.left r (by lia),h.left (r+1) (by lia)]
  simp
  lia
 | j+1,hj=>by
  have ih:=h.rowsum hr j (by lia)
  have e:(y4 n G r)[j]?=some (amid G r j):=by simp[y4,show j < n by lia]
  rw[xU e]
  have:=h.amid2 hr (show j < n by lia)
  lia
theorem HF.sum {n:Nat}{G:Nat->Nat->Int}(h:HF n G){j:Nat}(hj:j<=n):∀i,i<=n->2 * PR (zF n G) i j=(i:Int)+j - G i j
 | 0,_=>by
  rw[h.top j hj]
  show 2 * (0:Int)=_
  lia
 | i+1,hi=>by
  have ih:=h.sum hj i (by lia)
  rw[wG,zc7 (by lia)]
  have:=h.rowsum (show i < n by lia) j hj
  lia
theorem HF.back {n:Nat}{G:Nat->Nat->Int}(h:HF n G):HT (zF n G)=zy n G:=by
 rw[<- ze0 (vm n G)]
 unfold LT zy
 rw[yG]
 refine List.map_congr_left fun i hi=>?_
 have hi':i<=n:=by have:=List.mem_range.mp hi;lia
 unfold hrw
 refine List.map_congr_left fun j hj=>?_
 have hj':j<=n:=by have:=List.mem_range.mp hj;lia
 have:=h.sum hj' i hi'
 unfold zR
 lia
theorem Sums.hf {R:List (List Int)}(h:Sums R):HF R.length (zR R):=by
 refine ⟨fun j hj=>(h.rim hj).1,fun i hi=>(h.rim hi).2.1,fun j hj=>(h.rim hj).2.2.1,fun i hi=>(h.rim hi).2.2.2,fun i j hi hj=>?_,fun i j hi hj=>?_⟩
 .have:=(h.near hi hj).1;lia
 .have:=(h.near hj hi).2;lia
theorem zet {R:List (List Int)}(h:Sq R):HT R=zy R.length (zR R):=by
 rw[<- ze0 h];rfl
theorem Sums.amid {R:List (List Int)}(h:Sums R):zF R.length (zR R)=R:=by
 refine List.ext_getElem? fun r=>?_
 by_cases hr:r < R.length
 .have hx:R[r]?=some R[r]:=List.getElem?_eq_getElem hr
  have hl:R[r].length=R.length:=h.sq _ (List.getElem_mem hr)
  rw[show (zF R.length (zR R))[r]?=some (y4 R.length (zR R) r) by simp[zF,hr],hx]
  congr 1
  refine List.ext_getElem? fun c=>?_
  by_cases hc:c < R.length
  .rw[show (y4 R.length (zR R) r)[c]?=some (Lib.amid (zR R) r c) by simp[y4,hc],wV (show c < R[r].length by lia)]
   congr 1
   have a:=h.hf.amid2 hr hc
   have b1:=jT h.sq (show r<=R.length by lia) hc
   have b2:=jT h.sq (show r+1<=R.length by lia) hc
   have b3:=qH R r c _ hx
   generalize Lib.amid (zR R) r c=g at a ⊢
   unfold zR at a
   lia
  .rw[List.getElem?_eq_none (by simp[y4];lia),List.getElem?_eq_none (by lia)]
 .rw[List.getElem?_eq_none (by simp[zF];lia),List.getElem?_eq_none (by lia)]
end Lib
namespace Lib
section
theorem gP (n:Nat)(G:Nat->Nat->Int):(zy n G).length=n+1:=by simp[zy]
theorem xq {n:Nat}{G:Nat->Nat->Int}{i:Nat}(h:i<=n):(zy n G)[i]?=some (hrw n G i):=by simp[zy,show i < n+1 by lia]
theorem x8 {n:Nat}{G:Nat->Nat->Int}{i j:Nat}(h:j<=n):(hrw n G i)[j]?=some (G i j):=by simp[hrw,show j < n+1 by lia]
theorem gat {n:Nat}{G:Nat->Nat->Int}{i j:Nat}(hi:i<=n)(hj:j<=n):(yt (tab (zy n G)) (.int i)).bind (fun x=>yt x (.int j))=.ok (.int (G i j)):=by
 rw[vj (xq hi)]
 exact x5 (x8 hj)
theorem kP {n:Nat}{G:Nat->Nat->Int}:y8 .len [tab (zy n G)]=.ok (.int ((n:Int)+1)):=by
 have:((tab (zy n G)))=.lst ((zy n G).map row):=rfl
 rw[this,zej,List.length_map,gP]
 rfl
end
end Lib
namespace Lib
end Lib
namespace Lib
section
variable {lev:Nat->Lv}{cl:Nat->List Dat->Rd}{k:Nat}
noncomputable def ze1:Fn:=⟨3,3,(.ret (.bin .fdiv (.bin .sub (.bin .sub (.bin .add (.idx (.idx (.var 0) (.var 1)) (.bin .add (.var 2) (.lit (.int 1)))) (.idx (.idx (.var 0) (.bin .add (.var 1) (.lit (.int 1)))) (.var 2))) (.idx (.idx (.var 0) (.var 1)) (.var 2))) (.idx (.idx (.var 0) (.bin .add (.var 1) (.lit (.int 1)))) (.bin .add (.var 2) (.lit (.int 1))))) (.lit (.int 2))))⟩
theorem zc8 {n:Nat}(G:Nat->Nat->Int){r c:Nat}(hr:r < n)(hc:c < n):zQ lev cl k ze1 [tab (zy n G),.int r,.int c]=.ok (.int (amid G r c)):=by
 have g1:=gat (G:=G) (show r<=n by lia) (show c+1<=n by lia)
 have g2:=gat (G:=G) (show r+1<=n by lia) (show c<=n by lia)
 have g3:=gat (G:=G) (show r<=n by lia) (show c<=n by lia)
 have g4:=gat (G:=G) (show r+1<=n by lia) (show c+1<=n by lia)
 unfold zQ
 rw[if_pos (by rfl)]
 show zS (lev k) (exD lev cl (.ret _) [some (tab (zy n G)),some (.int r),some (.int c)] _)=_
 simp only[zY,zH,ym,zl,zb,za,zii,yh,show (c:Int)+1=((c+1:Nat):Int) by lia,show (r:Int)+1=((r+1:Nat):Int) by lia]
 rw[g1,g2,g3,g4]
 simp only[zii,yh,yi,wE _ 2 (by decide) (by decide),zih,zS,gH,Bool.true_or,if_true]
 rfl
theorem vW {n:Nat}(hn:n<=12):kC (.int 0) (.int ((n:Int)+1 - 1)) (.int 1)=.ok (.tup (yu 0 1 n)):=by
 rw[show (n:Int)+1 - 1=n by lia,kJ (by unfold lim;lia)]
 simp[kT]
noncomputable def ze2 (ka:Nat):Fn:=⟨2,2,(.ret (.comp (.call ka (.pair (.var 0) (.pair (.var 1) (.pair (.var 2) .unit)))) (.rng (.lit (.int 0)) (.bin .sub (.blt .len (.pair (.var 0) .unit)) (.lit (.int 1))) (.lit (.int 1))) (.lit (.bl true))))⟩
theorem zc9 {ka:Nat}{n:Nat}(hn:n<=12){G:Nat->Nat->Int}{r:Nat}(ha:∀c,c < n->cl ka [tab (zy n G),.int r,.int (c:Nat)]=.ok (.int (amid G r c)))(hk:lev k≠.top):zQ lev cl k (ze2 ka) [tab (zy n G),.int r]=.ok (row (y4 n G r)):=by
 have hev:evD cl (.comp (.call ka (.pair (.var 0) (.pair (.var 1) (.pair (.var 2) .unit)))) (.rng (.lit (.int 0)) (.bin .sub (.blt .len (.pair (.var 0) .unit)) (.lit (.int 1))) (.lit (.int 1))) (.lit (.bl true))) [some (tab (zy n G)),some (.int r)]=.ok (row (y4 n G r)):=by
  rw[vT]
  simp only[xZ,zl,zH,yz,zt,zr,zb,za,zii,zn,kP,yi,vW hn,x4]
  rw[kL 0 1 n (fun c=>.int (amid G r c)) (fun c _=>by simp) (fun c hc=>?_) (by unfold lim;lia)]
  .simp only[row,y4,List.map_map];rfl
  .rw[show (0+1 * (c:Int))=(c:Int) by lia]
   simp only[List.cons_append,List.nil_append,zA,zt,zr,zb,za,zii,zn,ha c hc]
 have hlv:lvE lev (.comp (.call ka (.pair (.var 0) (.pair (.var 1) (.pair (.var 2) .unit)))) (.rng (.lit (.int 0)) (.bin .sub (.blt .len (.pair (.var 0) .unit)) (.lit (.int 1))) (.lit (.int 1))) (.lit (.bl true))) (row (y4 n G r))=.full:=by
  unfold row
  first | rw[wB] | rw[xP]
  simp only[xS,Bool.false_eq_true,if_false]
  rw[if_pos (kO _ _ fun i=>by simp)]
 unfold zQ
 rw[if_pos (by rfl)]
 show zS (lev k) (exD lev cl (.ret _) [some (tab (zy n G)),some (.int r)] _)=_
 rw[zY,hev]
 simp only[zih,lvR,zS]
 rw[show flat (row (y4 n G r))=false from by simp[row]]
 simp only[Bool.false_eq_true,if_false,hlv,Bool.false_or]
 cases e:lev k <;> first | rfl | exact absurd e hk
theorem zda {R:List (List Int)}(lev:Nat->Lv)(it:Ex)(j:Nat):lvE lev (.comp (.blt .list (.pair (.var j) .unit)) it (.lit (.bl true))) (tab R)=.full:=by
 have:(R.map row).all (fun x=>lvE lev (.blt .list (.pair (.var j) .unit)) x == .full)=true:=by
  rw[List.all_map,List.all_eq_true]
  intro x _
  simp[row]
 unfold tab
 first | rw[wB] | rw[xP]
 simp only[xS,Bool.false_eq_true,if_false]
 rw[if_pos this]
noncomputable def mn (a b:Int):Int:=if b < a then b else a
end
end Lib
namespace Lib
section
variable {lev:Nat->Lv}{cl:Nat->List Dat->Rd}{k:Nat}
noncomputable def zbi (ks:Nat):Ex:=(.comp (.call ks (.pair (.var 0) (.pair (.var 1) .unit))) (.rng (.lit (.int 0)) (.bin .sub (.blt .len (.pair (.var 0) .unit)) (.lit (.int 1))) (.lit (.int 1))) (.lit (.bl true)))
noncomputable def zho (ks:Nat):Fn:=⟨1,1,(.ret (zbi ks))⟩
theorem zeu {ks:Nat}{n:Nat}(hn:n<=12){G:Nat->Nat->Int}(hs:∀r,r < n->cl ks [tab (zy n G),.int (r:Nat)]=.ok (row (y4 n G r)))(hlev:lev ks=.full)(hk:lev k≠.top):zQ lev cl k (zho ks) [tab (zy n G)]=.ok (tab (zF n G)):=by
 have hev:evD cl (zbi ks) [some (tab (zy n G))]=.ok (tab (zF n G)):=by
  unfold zbi
  rw[vT]
  simp only[xZ,zl,zH,yz,zt,zr,zb,za,zii,zn,kP,yi,vW hn,x4]
  rw[kL 0 1 n (fun r=>row (y4 n G r)) (fun c _=>by simp) (fun c hc=>?_) (by unfold lim;lia)]
  .simp only[tab,zF,List.map_map];rfl
  .rw[show (0+1 * (c:Int))=(c:Int) by lia]
   simp only[List.cons_append,List.nil_append,zA,zt,zr,zb,za,zii,zn,hs c hc]
 have hlv:lvE lev (zbi ks) (tab (zF n G))=.full:=by
  have:((zF n G).map row).all (fun x=>lvE lev (.call ks (.pair (.var 0) (.pair (.var 1) .unit))) x == .full)=true:=by
   rw[List.all_map,List.all_eq_true]
   intro x _
   simp[row,hlev]
  unfold tab zbi
  first | rw[wB] | rw[xP]
  simp only[xS,Bool.false_eq_true,if_false]
  rw[if_pos this]
 unfold zQ
 rw[if_pos (by rfl)]
 show zS (lev k) (exD lev cl (.ret _) [some (tab (zy n G))] _)=_
 rw[zY,hev]
 have hl2:∀lv,lvR lev (zbi ks) (tab (zF n G)) lv=.full:=fun lv=>by
  unfold lvR
  rw[if_neg (by simp[tab])]
  exact hlv
 simp only[zih]
 rw[hl2]
 simp only[zS]
 rw[show flat (tab (zF n G))=false from by simp[tab],Bool.false_or]
 cases e:lev k <;> first | rfl | exact absurd e hk
end
end Lib
namespace Lib
section
variable {lev:Nat->Lv}{cl:Nat->List Dat->Rd}{k:Nat}
theorem ze3 {e:Ex}{v:Int}{x:List Int}{de:DEn}{lv:List Lv}{j:Nat}(hx:x.length < lim)(he:evD cl e de=.ok (.int v))(hd:de[j]?=some (some (row x)))(hj:lv[j]?=some .full):
  exD lev cl (.expr (.meth .append (.var j) (.pair e .unit))) de lv=.next (de.set j (some (row (x++[v])))) lv:=by
 rw[xw,he]
 simp only[zic]
 rw[show xa de j=some (x.map Dat.int) from by simp[xa,hd,row]]
 simp only[List.length_map]
 rw[if_pos hx]
 have hg:y0 lev e (.int v) j de lv=some (de,lv):=by
  unfold y0
  rw[if_neg (by simp[zX,hj]),if_pos (yy lev e _ (by simp))]
 rw[hg]
 simp[row]
theorem zbj (x:List Int){t:Nat}(h:t < x.length):(x.take (t+1)).sum=(x.take t).sum+x.getD t 0:=by
 rw[List.take_add_one,List.sum_append,wV h]
 simp
noncomputable def lhJ:Sm:=(.seq (.asg 4 (.bin .add (.var 4) (.idx (.idx (.var 0) (.var 2)) (.var 5)))) (.expr (.meth .append (.var 3) (.pair (.bin .sub (.bin .add (.idx (.idx (.var 1) (.var 2)) (.bin .add (.var 5) (.lit (.int 1)))) (.lit (.int 1))) (.bin .mul (.lit (.int 2)) (.var 4))) .unit))))
noncomputable def lhK:Sm:=(.seq (.asg 3 (.lst (.pair (.bin .add (.var 2) (.lit (.int 1))) .unit))) (.seq (.asg 4 (.lit (.int 0))) (.seq (.forv 5 (.rng (.lit (.int 0)) (.blt .len (.pair (.var 0) .unit)) (.lit (.int 1))) lhJ) (.expr (.meth .append (.var 1) (.pair (.var 3) .unit))))))
noncomputable def zhp:Fn:=⟨1,6,(.seq (.asg 1 (.lst (.pair (.lrng (.bin .add (.blt .len (.pair (.var 0) .unit)) (.lit (.int 1)))) .unit))) (.seq (.forv 2 (.rng (.lit (.int 0)) (.blt .len (.pair (.var 0) .unit)) (.lit (.int 1))) lhK) (.ret (.var 1))))⟩
noncomputable def lv6:List Lv:=[.no,.full,.full,.full,.full,.full]
theorem zbk (R:List (List Int))(r c:Nat):zR R (r+1) c=zR R r c+1 - 2 * ((R.getD r []).take c).sum:=by
 unfold zR
 rw[wG]
 lia
theorem zge (R:List (List Int))(j:Nat):zR R 0 j=j:=by simp[zR,PR]
theorem zgf (R:List (List Int))(i:Nat):zR R i 0=i:=by
 simp[zR,jU]
theorem zev {R:List (List Int)}(hs:Sq R)(hn:R.length<=12){r:Nat}(hr:r < R.length)(o4 o5:Option Dat):
  ∃p5,yJ (fun x de lv=>exD lev cl lhJ (de.set 5 (some x)) (lv.set 5 (lvF x))) (yu 0 1 R.length) [some (tab R),some (tab ((zy R.length (zR R)).take (r+1))),some (.int r),some (row ((hrw R.length (zR R) (r+1)).take 1)),some (.int 0),o5] lv6 =
   .next [some (tab R),some (tab ((zy R.length (zR R)).take (r+1))),some (.int r),some (row (hrw R.length (zR R) (r+1))),some (.int ((R.getD r []).take R.length).sum),p5] lv6:=by
 have hx:R[r]?=some (R.getD r []):=by rw[List.getD_eq_getElem?_getD,List.getElem?_eq_getElem hr];rfl
 have hxl:(R.getD r []).length=R.length:=hs _ (List.mem_of_getElem? hx)
 have main:=zZ (body:=fun x de lv=>exD lev cl lhJ (de.set 5 (some x)) (lv.set 5 (lvF x)))
  (fun t de lv=>∃p5,de=[some (tab R),some (tab ((zy R.length (zR R)).take (r+1))),some (.int r),some (row ((hrw R.length (zR R) (r+1)).take (t+1))),some (.int ((R.getD r []).take t).sum),p5]/\lv=lv6)
  (yu 0 1 R.length) (de:=[some (tab R),some (tab ((zy R.length (zR R)).take (r+1))),some (.int r),some (row ((hrw R.length (zR R) (r+1)).take 1)),some (.int 0),o5]) (lv:=lv6) ⟨o5,rfl,rfl⟩ ?_
 .refine cps fun zP zk=>?_
  obtain ⟨de',lv',e,p5,rfl,rfl⟩:=main
  refine zk ?_
  rw[wn,List.take_of_length_le (i:=R.length+1) (l:=hrw R.length (zR R) (r+1)) (by simp[hrw])] at e
  exact ⟨p5,e⟩
 .rintro t x de lv hx' ⟨p5,rfl,rfl⟩
  have ht:t < R.length:=by
   have:=(List.getElem?_eq_some_iff.mp hx').1
   simpa using this
  rw[xo _ _ _ _ ht] at hx'
  cases hx'
  have e1:(0:Int)+1 * (t:Int)=(t:Int):=by lia
  have g1:(yt (tab R) (.int (r:Int))).bind (fun x=>yt x (.int (t:Int)))=.ok (.int ((R.getD r []).getD t 0)):=by
   rw[vj hx]
   exact x5 (wV (by lia))
  have g2:(yt (tab ((zy R.length (zR R)).take (r+1))) (.int (r:Int))).bind (fun x=>yt x (.int ((t:Int)+1)))=.ok (.int (zR R r (t+1))):=by
   rw[vj (x:=hrw R.length (zR R) r) (by rw[List.getElem?_take_of_lt (by lia),xq (by lia)])]
   exact x5 (c:=t+1) (x8 (by lia))
  have h2:=xt 2 (((R.getD r []).take t).sum+(R.getD r []).getD t 0) (show yC 2=true by decide)
  refine ⟨_,_,?_,some (.int t),rfl,rfl⟩
  simp only[e1,lv6,List.set_cons_succ,List.set_cons_zero,show lvF (.int (t:Int))=.full from by simp[lvF]]
  unfold lhJ
  rw[wF,zI]
  simp only[zH,ym,za,zb,zii,g1,yh,zih]
  rw[yn (by simp)]
  simp only[zm,List.set_cons_succ,List.set_cons_zero]
  rw[ze3 (v:=zR R r (t+1)+1 - 2 * (((R.getD r []).take t).sum+(R.getD r []).getD t 0)) (x:=(hrw R.length (zR R) (r+1)).take (t+1)) (by rw[List.length_take];unfold lim;lia)
   (by simp only[zH,ym,zl,za,zb,zii,yh,yi,g2,h2]) rfl rfl]
  rw[<- zbj _ (by lia),<- zbk,List.take_add_one (i:=t+1),x8 (by lia),Option.toList_some]
  rfl
theorem zew {R:List (List Int)}(hs:Sq R)(hn:R.length<=12)(hk:lev k≠.top):zQ lev cl k zhp [tab R]=.ok (tab (zy R.length (zR R))):=by
 have hlen:y8 .len [tab R]=.ok (.int R.length):=by simp[tab]
 have hrng:kC (.int 0) (.int R.length) (.int 1)=.ok (.tup (yu 0 1 R.length)):=by
  rw[kJ (by unfold lim;lia)]
  simp[kT]
 have hl:∀ (o1 o2 o3 o4 o5:Option Dat),evD cl (.lrng (.bin .add (.blt .len (.pair (.var 0) .unit)) (.lit (.int 1)))) [some (tab R),o1,o2,o3,o4,o5]=.ok (row (yd (R.length+1))):=fun o1 o2 o3 o4 o5=>by
  simp only[zax,zH,yz,zt,zr,zl,zb,zii,zn,hlen,yh]
  rw[if_pos (by unfold lim;lia),show ((R.length:Int)+1).toNat=R.length+1 by lia,xF (by simp;unfold lim;lia),<- kK]
 have hnew:yA [row (yd (R.length+1))]=.ok (tab [yd (R.length+1)]):=by rw[xF (by simp[lim])];rfl
 have h0:[yd (R.length+1)]=(zy R.length (zR R)).take 1:=by
  rw[List.take_add_one,xq (by lia)]
  simp only[List.take_zero,List.nil_append,Option.toList_some]
  congr 1
  unfold yd hrw
  apply List.map_congr_left
  intro j _
  rw[zge]
 have main:=zZ (body:=fun x de lv=>exD lev cl lhK (de.set 2 (some x)) (lv.set 2 (lvF x)))
  (fun r de lv=>∃p2 p3 p4 p5,de=[some (tab R),some (tab ((zy R.length (zR R)).take (r+1))),p2,p3,p4,p5]/\lv=lv6)
  (yu 0 1 R.length) (de:=[some (tab R),some (tab ((zy R.length (zR R)).take 1)),none,none,none,none]) (lv:=lv6) ⟨none,none,none,none,rfl,rfl⟩ ?_
 .refine cps fun zP zk=>?_
  obtain ⟨de',lv',e,p2,p3,p4,p5,rfl,rfl⟩:=main
  refine zk ?_
  rw[wn,List.take_of_length_le (i:=R.length+1) (l:=zy R.length (zR R)) (by simp[zy])] at e
  unfold zQ
  rw[if_pos (by rfl)]
  show zS (lev k) (exD lev cl (.seq _ (.seq _ _)) [some (tab R),none,none,none,none,none] [lvF (tab R),.full,.full,.full,.full,.full])=_
  rw[show lvF (tab R)=.no from by simp[lvF,tab],zJ,zI]
  simp only[yM,zt,zr,hl,zii,zn,hnew,zih]
  rw[yj (by simp[tab,row])]
  simp only[zm,List.set_cons_succ,List.set_cons_zero]
  rw[xH,xp]
  simp only[xZ,zl,yz,zt,zr,zb,zii,zn,hlen,hrng,zih,x4,wp,xR,if_true]
  rw[h0]
  have e':=e
  unfold lv6 at e'
  rw[e',zm]
  simp only[zY,za,zb,zih,lvR,zS,show flat (tab (zy R.length (zR R)))=false from by simp[tab],Bool.false_eq_true,if_false,Bool.false_or]
  cases z:lev k <;> first | rfl | exact absurd z hk
 .intro r x de lv hx' zz
  refine cps fun zP zj=>?_
  obtain ⟨p2,p3,p4,p5,rfl,rfl⟩:=zz
  have hr:r < R.length:=by
   have:=(List.getElem?_eq_some_iff.mp hx').1
   simpa using this
  rw[xo _ _ _ _ hr] at hx'
  cases hx'
  have e1:(0:Int)+1 * (r:Int)=(r:Int):=by lia
  obtain ⟨q5,e⟩:=zev (lev:=lev) (cl:=cl) hs hn hr p4 p5
  refine zj ?_
  have h1:(hrw R.length (zR R) (r+1)).take 1=[(r:Int)+1]:=by
   rw[List.take_add_one,x8 (by lia),zgf]
   simp
  have hnew1:yA [.int ((r:Int)+1)]=.ok (row ((hrw R.length (zR R) (r+1)).take 1)):=by rw[h1];rfl
  refine ⟨_,_,?_,some (.int r),none,some (.int ((R.getD r []).take R.length).sum),q5,rfl,rfl⟩
  simp only[e1,lv6,List.set_cons_succ,List.set_cons_zero,show lvF (.int (r:Int))=.full from by simp[lvF]]
  unfold lhK
  rw[zJ,zI]
  simp only[yM,zt,zr,zH,zl,za,zb,zii,zn,yh,hnew1,zih]
  rw[yj (by rw[h1];simp[row])]
  simp only[zm,List.set_cons_succ,List.set_cons_zero]
  rw[zJ,zI]
  simp only[zl,zih]
  rw[yn (by simp)]
  simp only[zm,List.set_cons_succ,List.set_cons_zero]
  rw[wF,xp]
  simp only[xZ,zl,yz,zt,zr,zb,zii,zn,hlen,hrng,zih,x4,wp,xR,if_true]
  have e':=e
  unfold lv6 at e'
  rw[e',zm,xw]
  simp only[za,zb,zic]
  have hlim:min (r+1) (zy R.length (zR R)).length < lim:=by unfold lim;lia
  rw[List.take_add_one (i:=r+1),xq (by lia),Option.toList_some]
  simp[xa,hlim,y0,zX,row,tab]
end
end Lib
namespace Lib
section
variable {lev:Nat->Lv}{cl:Nat->List Dat->Rd}{k:Nat}
noncomputable def soJ:Sm:=(.seq (.asg 7 (.bin .add (.idx (.var 3) (.bin .add (.var 6) (.lit (.int 1)))) (.idx (.var 4) (.var 6)))) (.expr (.meth .append (.var 5) (.pair (.bin .fdiv (.bin .sub (.bin .sub (.var 7) (.idx (.var 3) (.var 6))) (.idx (.var 4) (.bin .add (.var 6) (.lit (.int 1))))) (.lit (.int 2))) .unit))))
noncomputable def soK:Sm:=(.seq (.asg 3 (.idx (.var 0) (.var 2))) (.seq (.asg 4 (.idx (.var 0) (.bin .add (.var 2) (.lit (.int 1))))) (.seq (.asg 5 (.lst .unit)) (.seq (.forv 6 (.rng (.lit (.int 0)) (.bin .sub (.blt .len (.pair (.var 3) .unit)) (.lit (.int 1))) (.lit (.int 1))) soJ) (.expr (.meth .append (.var 1) (.pair (.var 5) .unit)))))))
noncomputable def zhq:Fn:=⟨1,8,(.seq (.asg 1 (.lst .unit)) (.seq (.forv 2 (.rng (.lit (.int 0)) (.bin .sub (.blt .len (.pair (.var 0) .unit)) (.lit (.int 1))) (.lit (.int 1))) soK) (.ret (.var 1))))⟩
noncomputable def lw8:List Lv:=[.no,.full,.no,.no,.no,.full,.full,.full]
theorem zex {n:Nat}(hn:n<=12)(G:Nat->Nat->Int){r:Nat}(hr:r < n)(d0 d1 o6 o7:Option Dat):
  ∃p6 p7,yJ (fun x de lv=>exD lev cl soJ (de.set 6 (some x)) (lv.set 6 (lvF x))) (yu 0 1 n) [d0,d1,some (.int r),some (row (hrw n G r)),some (row (hrw n G (r+1))),some (row []),o6,o7] lw8 =
   .next [d0,d1,some (.int r),some (row (hrw n G r)),some (row (hrw n G (r+1))),some (row (y4 n G r)),p6,p7] lw8:=by
 have main:=zZ (body:=fun x de lv=>exD lev cl soJ (de.set 6 (some x)) (lv.set 6 (lvF x)))
  (fun t de lv=>∃p6 p7,de=[d0,d1,some (.int r),some (row (hrw n G r)),some (row (hrw n G (r+1))),some (row ((y4 n G r).take t)),p6,p7]/\lv=lw8)
  (yu 0 1 n) (de:=[d0,d1,some (.int r),some (row (hrw n G r)),some (row (hrw n G (r+1))),some (row []),o6,o7]) (lv:=lw8) ⟨o6,o7,rfl,rfl⟩ ?_
 .refine cps fun zP zk=>?_
  obtain ⟨de',lv',e,p6,p7,rfl,rfl⟩:=main
  refine zk ?_
  rw[wn,List.take_of_length_le (l:=y4 n G r) (i:=n) (by simp[y4])] at e
  exact ⟨p6,p7,e⟩
 .rintro t x de lv hx' ⟨p6,p7,rfl,rfl⟩
  have ht:t < n:=by
   have:=(List.getElem?_eq_some_iff.mp hx').1
   simpa using this
  rw[xo _ _ _ _ ht] at hx'
  cases hx'
  have e1:(0:Int)+1 * (t:Int)=(t:Int):=by lia
  have a1:∀i,yt (row (hrw n G i)) (.int (t:Int))=.ok (.int (G i t)):=fun i=>x5 (x8 (by lia))
  have a2:∀i,yt (row (hrw n G i)) (.int ((t:Int)+1))=.ok (.int (G i (t+1))):=fun i=>x5 (c:=t+1) (x8 (by lia))
  have h2:=wE (G r (t+1)+G (r+1) t - G r t - G (r+1) (t+1)) 2 (by decide) (by decide)
  refine ⟨_,_,?_,some (.int t),some (.int (G r (t+1)+G (r+1) t)),rfl,rfl⟩
  simp only[e1,lw8,List.set_cons_succ,List.set_cons_zero,show lvF (.int (t:Int))=.full from by simp[lvF]]
  unfold soJ
  rw[wF,zI]
  simp only[zH,ym,zl,za,zb,zii,a1,a2,yh,zih]
  rw[yn (by simp)]
  simp only[zm,List.set_cons_succ,List.set_cons_zero]
  rw[ze3 (v:=amid G r t) (x:=(y4 n G r).take t) (by rw[List.length_take];unfold lim;lia)
   (by simp only[zH,ym,zl,za,zb,zii,yh,yi,a1,a2,h2];rfl) rfl rfl]
  rw[List.take_add_one,show (y4 n G r)[t]?=some (amid G r t) from by simp[y4,ht],Option.toList_some]
  rfl
theorem zey {n:Nat}(hn:n<=12)(G:Nat->Nat->Int)(hk:lev k≠.top):zQ lev cl k zhq [tab (zy n G)]=.ok (tab (zF n G)):=by
 have hnew:yA []=.ok (row []):=rfl
 have xI:∀r,y8 .len [row (hrw n G r)]=.ok (.int ((n:Int)+1)):=fun r=>by simp[row,hrw]
 have main:=zZ (body:=fun x de lv=>exD lev cl soK (de.set 2 (some x)) (lv.set 2 (lvF x)))
  (fun r de lv=>∃p2 p3 p4 p6 p7 l2 l3 l4,de=[some (tab (zy n G)),some (tab ((zF n G).take r)),p2,p3,p4,none,p6,p7]/\lv=[.no,.full,l2,l3,l4,.full,.full,.full])
  (yu 0 1 n) (de:=[some (tab (zy n G)),some (tab []),none,none,none,none,none,none]) (lv:=[.no,.full,.full,.full,.full,.full,.full,.full]) ⟨none,none,none,none,none,.full,.full,.full,rfl,rfl⟩ ?_
 .refine cps fun zP zk=>?_
  obtain ⟨de',lv',e,p2,p3,p4,p6,p7,l2,l3,l4,rfl,rfl⟩:=main
  refine zk ?_
  rw[wn,List.take_of_length_le (l:=zF n G) (i:=n) (by simp[zF])] at e
  unfold zQ
  rw[if_pos (by rfl)]
  show zS (lev k) (exD lev cl (.seq _ (.seq _ _)) [some (tab (zy n G)),none,none,none,none,none,none,none] [lvF (tab (zy n G)),.full,.full,.full,.full,.full,.full,.full])=_
  rw[show lvF (tab (zy n G))=.no from by simp[lvF,tab],zJ,zI]
  simp only[yM,zr,zii,zn,hnew,zih]
  rw[yj (by simp[row])]
  simp only[zm,List.set_cons_succ,List.set_cons_zero]
  rw[xH,xp]
  simp only[xZ,zl,zH,yz,zt,zr,zb,zii,zn,kP,yi,vW hn,zih,x4,wp,xR,if_true]
  rw[show (some (row []):Option Dat)=some (tab []) from rfl,e,zm]
  simp only[zY,za,zb,zih,lvR,zS,show flat (tab (zF n G))=false from by simp[tab],Bool.false_eq_true,if_false,Bool.false_or]
  cases z:lev k <;> first | rfl | exact absurd z hk
 .intro r x de lv hx' zz
  refine cps fun zP zj=>?_
  obtain ⟨p2,p3,p4,p6,p7,l2,l3,l4,rfl,rfl⟩:=zz
  have hr:r < n:=by
   have:=(List.getElem?_eq_some_iff.mp hx').1
   simpa using this
  rw[xo _ _ _ _ hr] at hx'
  cases hx'
  have e1:(0:Int)+1 * (r:Int)=(r:Int):=by lia
  have b1:yt (tab (zy n G)) (.int (r:Int))=.ok (row (hrw n G r)):=vj (xq (by lia))
  have b2:yt (tab (zy n G)) (.int ((r:Int)+1))=.ok (row (hrw n G (r+1))):=vj (r:=r+1) (xq (by lia))
  obtain ⟨q6,q7,e⟩:=zex (lev:=lev) (cl:=cl) hn G hr (some (tab (zy n G))) (some (tab ((zF n G).take r))) p6 p7
  refine zj ?_
  refine ⟨_,_,?_,some (.int r),some (row (hrw n G r)),some (row (hrw n G (r+1))),q6,q7,.no,.no,.no,rfl,rfl⟩
  simp only[e1,List.set_cons_succ,List.set_cons_zero,show lvF (.int (r:Int))=.full from by simp[lvF]]
  unfold soK
  rw[zJ,zI]
  simp only[ym,za,zb,zii,b1,zih]
  rw[show wH lev 3 (.idx (.var 0) (.var 2)) (row (hrw n G r)) [some (tab (zy n G)),some (tab ((zF n G).take r)),some (.int r),p3,p4,none,p6,p7] [.no,.full,.full,l3,l4,.full,.full,.full]=.next [some (tab (zy n G)),some (tab ((zF n G).take r)),some (.int r),some (row (hrw n G r)),p4,none,p6,p7] [.no,.full,.no,.no,l4,.full,.full,.full] from rfl,zm]
  rw[zJ,zI]
  simp only[ym,zH,zl,za,zb,zii,yh,b2,zih]
  rw[show wH lev 4 (.idx (.var 0) (.bin .add (.var 2) (.lit (.int 1)))) (row (hrw n G (r+1))) [some (tab (zy n G)),some (tab ((zF n G).take r)),some (.int r),some (row (hrw n G r)),p4,none,p6,p7] [.no,.full,.no,.no,l4,.full,.full,.full]=.next [some (tab (zy n G)),some (tab ((zF n G).take r)),some (.int r),some (row (hrw n G r)),some (row (hrw n G (r+1))),none,p6,p7] [.no,.full,.no,.no,.no,.full,.full,.full] from rfl,zm]
  rw[zJ,zI]
  simp only[yM,zr,zii,zn,hnew,zih]
  rw[yj (by simp[row])]
  simp only[zm,List.set_cons_succ,List.set_cons_zero]
  rw[wF,xp]
  simp only[xZ,zl,zH,yz,zt,zr,za,zb,zii,zn,xI,yi,vW hn,zih,x4,wp,xR,if_true]
  have e':=e
  unfold lw8 at e'
  rw[e',zm,xw]
  simp only[za,zb,zic]
  have hlim:min r (zF n G).length < lim:=by unfold lim;lia
  rw[List.take_add_one,show (zF n G)[r]?=some (y4 n G r) from by simp[zF,hr],Option.toList_some]
  simp[xa,hlim,y0,zX,row,tab]
end
end Lib
namespace Lib
section
noncomputable def wX (q:Nat)(F:Nat->Nat->Int)(i:Nat):List Int:=(List.range q).map (F i)
noncomputable def vI (p q:Nat)(F:Nat->Nat->Int):List (List Int):=(List.range p).map (wX q F)
theorem zdb (p q:Nat)(F:Nat->Nat->Int):(vI p q F).length=p:=by simp[vI]
end
end Lib
namespace Lib
end Lib
namespace Lib
section
variable {cl:Nat->List Dat->Rd}{k:Nat}
noncomputable def ab (i:Int):Int:=if i < 0 then -i else i
theorem jV {l:Lv}(v:Int)(k:Lv):zS l (.ret (.int v) k)=.ok (.int v):=by simp[zS]
theorem qP {l:Lv}(v:Bool)(k:Lv):zS l (.ret (.bl v) k)=.ok (.bl v):=by simp[zS]
noncomputable def ze4:Fn:=⟨1,1,(.ret (.comp (.blt .list (.pair (.var 1) .unit)) (.var 0) (.lit (.bl true))))⟩
theorem zdc (x:List Int)(h:x.length<=lim):y8 .list [row x]=.ok (row x):=by
 show (match wc (row x) with
  | some xs=>yA xs
  | none=>.no)=_
 exact xF (by simpa using h)
theorem zez {R:List (List Int)}(h1:R.length<=lim)(h2:∀x∈R,x.length<=lim){j m:Nat}{de:DEn}(hj:de[j]?=some (some (tab R)))(hm:de.length=m):evD cl (.comp (.blt .list (.pair (.var m) .unit)) (.var j) (.lit (.bl true))) de=.ok (tab R):=by
 subst hm
 rw[vT]
 simp only[xk hj,zii]
 rw[show itD (tab R)=some (R.map row) from wU (by simpa using h1)]
 simp only[]
 rw[xT row row R [] (fun v _=>by simp) (fun x hx=>?_) (by simpa using h1)]
 .simp[tab]
 .have e:evD cl (.var de.length) (de++[some (row x)])=.ok (row x):=xk (by rw[List.getElem?_append_right (Nat.le_refl _)];simp)
  simp only[yz,zt,zr,e,zii,zn,zdc x (h2 x hx)]
theorem kQ (n:Nat)(G:Nat->Nat->Int):∀x∈zF n G,x.length=n:=fun x hx=>by
 have:=vm n G x hx
 rw[yG] at this
 exact this
end
end Lib
namespace Lib
section
variable {lev:Nat->Lv}{cl:Nat->List Dat->Rd}
theorem yO {i:Nat}{e:Ex}{d:Dat}{X:Sm}{de:DEn}(h:evD cl e de=.ok d)(hl:lvE lev e d=.full)(hv:yr (.asg i e) X=none)(lv:List Lv):exD lev cl (.seq (.asg i e) X) de lv=exD lev cl X (de.set i (some d)) (lv.set i .full):=by
 rw[zU lev cl de lv hv,zI,h]
 simp only[zih]
 rw[yj hl]
 simp only[zm]
end
end Lib
namespace Lib
section
noncomputable def tr (G:Nat->Nat->Int):Nat->Nat->Int:=fun i j=>G j i
end
end Lib
namespace Lib
section
variable {lev:Nat->Lv}{cl:Nat->List Dat->Rd}{k:Nat}
noncomputable def lkI:Sm:=(.ite (.or (.not (.isi .int (.var 3))) (.isi .bool (.var 3))) (.ret (.lit (.bl false))) .skip)
noncomputable def lkR:Sm:=(.seq (.ite (.not (.isi .list (.var 2))) (.ret (.lit (.bl false))) .skip) (.forv 3 (.var 2) lkI))
noncomputable def ze5:Fn:=⟨2,4,(.seq (.ite (.or (.not (.isi .list (.var 0))) (.cmp .ne (.var 0) (.var 1))) (.ret (.lit (.bl false))) .skip) (.seq (.forv 2 (.var 0) lkR) (.ret (.lit (.bl true)))))⟩
theorem zdd {A:List (List Int)}(hA:A.length<=100)(hr:∀x∈A,x.length<=100):zQ lev cl k ze5 [tab A,tab A]=.ok (.bl true):=by
 unfold zQ
 rw[if_pos (by rfl)]
 show zS (lev k) (exD lev cl (.seq (.ite _ (.ret (.lit (.bl false))) .skip) (.seq (.forv 2 (.var 0) lkR) (.ret (.lit (.bl true))))) [some (tab A),some (tab A),none,none] [lvF (tab A),lvF (tab A),.full,.full])=_
 rw[zJ]
 simp only[yN,zaw,xC,qC,yV,za,zb,zii,show isD .list (tab A)=true from rfl,Bool.not_true,zcZ,zih,yX,zm]
 have main:=zZ (body:=fun x de lv=>exD lev cl lkR (de.set 2 (some x)) (lv.set 2 (lvF x)))
  (fun _ de lv=>∃ (o2 o3:Option Dat),de=[some (tab A),some (tab A),o2,o3])
  (A.map row) (de:=[some (tab A),some (tab A),none,none]) (lv:=y9 (.var 0) [some (tab A),some (tab A),none,none] [lvF (tab A),lvF (tab A),.full,.full]) ⟨_,_,rfl⟩ ?_
 .refine cps fun zP zk=>?_
  obtain ⟨de',lv',e,o2,o3,rfl⟩:=main
  refine zk ?_
  rw[xH,xp]
  simp only[zb,zih]
  rw[show itD (tab A)=some (A.map row) from wU (by rw[List.length_map];unfold lim;lia)]
  simp only[show flat (tab A)=false from by simp[tab],Bool.false_eq_true,if_false]
  refine (congrArg (fun r=>zS (lev k) (Rsd.then r _)) e).trans ?_
  simp only[zm,zY,jk,zih]
  simp[zS]
 .rintro t x de lv hx ⟨o2,o3,rfl⟩
  rw[List.getElem?_map] at hx
  obtain ⟨r,hr1,rfl⟩:=Option.map_eq_some_iff.mp hx
  have hrl:=hr r (List.mem_of_getElem? hr1)
  simp only[List.set_cons_succ,List.set_cons_zero]
  unfold lkR
  rw[zen]
  simp only[yN,xC,qC,za,zb,zii,show isD .list (row r)=true from rfl,Bool.not_true,zih,yX,zm]
  have inner:=zZ (body:=fun x de lv=>exD lev cl lkI (de.set 3 (some x)) (lv.set 3 (lvF x)))
   (fun _ de lv=>∃ (o3:Option Dat),de=[some (tab A),some (tab A),some (row r),o3])
   (r.map Dat.int) (de:=[some (tab A),some (tab A),some (row r),o3]) (lv:=if flat (row r) then lv.set 2 (lvF (row r)) else y9 (.var 2) [some (tab A),some (tab A),some (row r),o3] (lv.set 2 (lvF (row r)))) ⟨_,rfl⟩ ?_
  .refine cps fun zP zj=>?_
   obtain ⟨de',lv',e,q3,rfl⟩:=inner
   refine zj ?_
   rw[xp]
   simp only[za,zb,zih]
   rw[show itD (row r)=some (r.map Dat.int) from wU (by rw[List.length_map];unfold lim;lia)]
   exact ⟨_,_,e,_,_,rfl⟩
  .rintro s y de lv hy ⟨q3,rfl⟩
   rw[List.getElem?_map] at hy
   obtain ⟨v,_,rfl⟩:=Option.map_eq_some_iff.mp hy
   simp only[List.set_cons_succ,List.set_cons_zero]
   unfold lkI
   simp only[yN,zaw,xC,qC,za,zb,zii,show isD .int (.int v)=true from rfl,show isD .bool (.int v)=false from rfl,Bool.not_true,zih,yX]
   exact ⟨_,_,rfl,_,rfl⟩
theorem downs_len:∀ (vs:List Nat) (lv:List Lv),(downs vs lv).length=lv.length
 | [],lv=>rfl
 | i::vs,lv=>by
  show (downs vs (lv.set i .no)).length=_
  rw[downs_len vs,List.length_set]
theorem zeA (j:Nat)(de:DEn)(lv:List Lv):exD lev cl (.expr (.meth .pop (.var j) .unit)) de lv=match xa de j with
  | some ds=>if zX lv j && decide (ds.length≠0) then .next (de.set j (some (.lst ds.dropLast))) lv else .no
  | none=>.no:=rfl
theorem zde {lv:List Lv}{j:Nat}(h:lv[j]?=some .full):zX lv j=true:=by
 unfold zX
 rw[h]
end
end Lib
namespace Lib
section
noncomputable def pm:Dat:=.tup [.int 1,.int (-1)]
end
end Lib
namespace Lib
end Lib
namespace Lib
section
noncomputable def ar (W:Nat->Nat->Int)(i j:Nat):Int:=if (decide (W i j=1) == decide (((i:Int)+j) % 2=1))=true then 1 else -1
end
end Lib
namespace Lib
end Lib
namespace Lib
section
noncomputable def wk (F:Nat->Nat->Int)(i j:Nat):Int:=if (decide (F i j=1) == decide (((i:Int)+j) % 2=1))=true then 1 else 0
end
end Lib
namespace Lib
section
variable {lev:Nat->Lv}{cl:Nat->List Dat->Rd}{k:Nat}
noncomputable def up (F:Nat->Nat->Int)(i j:Nat)(v:Int):Nat->Nat->Int:=fun a b=>if a=i/\b=j then v else F a b
theorem zdf {q:Nat}{F:Nat->Nat->Int}{i j:Nat}{v:Int}:(wX q F i).set j v=wX q (up F i j v) i:=by
 unfold wX
 apply List.ext_getElem?
 intro b
 by_cases hb:b < q
 .by_cases e:b=j
  .subst e
   rw[List.getElem?_set_self (by simpa using hb)]
   simp[hb,up]
  .rw[List.getElem?_set_ne (Ne.symm e)]
   simp[hb,up,e]
 .rw[List.getElem?_eq_none (by simpa using hb),List.getElem?_eq_none (by simpa using hb)]
theorem zeB {q:Nat}{F:Nat->Nat->Int}{a i j:Nat}{v:Int}(h:a≠i):wX q (up F i j v) a=wX q F a:=by
 unfold wX
 apply List.map_congr_left
 intro b _
 simp[up,h]
theorem zdg {p q:Nat}{F:Nat->Nat->Int}{i j:Nat}{v:Int}:(vI p q F).set i ((wX q F i).set j v)=vI p q (up F i j v):=by
 unfold vI
 apply List.ext_getElem?
 intro a
 by_cases ha:a < p
 .by_cases e:a=i
  .subst e
   rw[List.getElem?_set_self (by simpa using ha),zdf]
   simp[ha]
  .rw[List.getElem?_set_ne (Ne.symm e)]
   simp only[List.getElem?_map,List.getElem?_range ha,Option.map_some]
   rw[zeB e]
 .rw[List.getElem?_eq_none (by simpa using ha),List.getElem?_eq_none (by simpa using ha)]
theorem zeC (j:Nat)(r k e:Ex)(de:DEn)(lv:List Lv):exD lev cl (.asgS (.idx (.var j) r) k e) de lv=(evD cl e de).okS fun d=>(evD cl r de).okS fun r=>(evD cl k de).okS fun k =>
    if lvE lev e d=.full then toS (gB j r de lv (kE k d)) lv
    else if j∈zw e then .no else toS (gB j r de lv (kE k d)) ((y9 e de lv).set j .top):=rfl
theorem zeD {j p:Nat}{k:Int}{ds es es1:List Dat}{f:List Dat->Option (List Dat)}{de:DEn}{lv:List Lv}(hd:de[j]?=some (some (.lst ds)))(hk:ix ds.length k=some p)(hp:ds[p]?=some (.lst es))(hf:f es=some es1)(hl:lv[j]?=some .full):gB j (.int k) de lv f=some (de.set j (some (.lst (ds.set p (.lst es1))))):=by
 have h1:xa de j=some ds:=by unfold xa;rw[hd]
 unfold gB
 simp only[h1,hk,Option.bind_some,hp,hf,Option.map_some]
 rw[if_pos hl]
theorem zdh {j i c p q:Nat}{F:Nat->Nat->Int}{v:Int}{er ek e:Ex}{de:DEn}{lv:List Lv}(hd:de[j]?=some (some (tab (vI p q F))))(hl:lv[j]?=some .full)(hi:i < p)(hc:c < q)(h1:evD cl er de=.ok (.int i))(h2:evD cl ek de=.ok (.int c))(h3:evD cl e de=.ok (.int v)):
  exD lev cl (.asgS (.idx (.var j) er) ek e) de lv=.next (de.set j (some (tab (vI p q (up F i c v))))) lv:=by
 rw[zeC,h3,h1,h2]
 simp only[zic]
 rw[if_pos (yy lev e _ (by simp))]
 have hs:kE (.int (c:Int)) (.int v) ((wX q F i).map Dat.int)=some (((wX q F i).map Dat.int).set c (.int v)):=by
  show (ix ((wX q F i).map Dat.int).length (c:Int)).map (fun p=>((wX q F i).map Dat.int).set p (.int v))=_
  rw[jP (by simpa [wX] using hc)]
  rfl
 rw[zeD (ds:=(vI p q F).map row) (es:=(wX q F i).map Dat.int) (es1:=((wX q F i).map Dat.int).set c (.int v)) (p:=i) hd (jP (by simpa [vI] using hi)) (by simp[vI,hi,row]) hs hl]
 rw[<- zdg]
 simp[toS,tab,row,List.map_set]
noncomputable def ze6 (kw:Nat):Fn:=⟨3,3,(.ret (.and (.call kw (.pair (.var 1) .unit)) (.and (.call kw (.pair (.var 2) .unit)) (.and (.chain .lt .lt (.lit (.int 0)) (.var 1) (.var 0)) (.chain .lt .lt (.lit (.int 0)) (.var 2) (.var 0))))))⟩
theorem zdi {kw:Nat}(hw:∀d,cl kw [d]=.ok (.bl (isInt d)))(n i j:Int):zQ lev cl k (ze6 kw) [.int n,.int i,.int j]=.ok (.bl (decide (0 < i/\i < n/\0 < j/\j < n))):=by
 unfold zQ
 rw[if_pos (by rfl)]
 show zS (lev k) (exD lev cl (.ret _) [some (.int n),some (.int i),some (.int j)] _)=_
 simp only[zY,kG,zA,zt,zr,zcK,zl,za,zb,zii,zn,hw,isInt,zcM]
 by_cases a:0 < i <;> by_cases b:i < n <;> by_cases c:0 < j <;> by_cases d:j < n <;> simp[a,b,c,d,zS]
noncomputable def zaB (ks:Nat):Fn:=⟨3,3,(.ite (.not (.call ks (.pair (.blt .len (.pair (.var 0) .unit)) (.pair (.var 1) (.pair (.var 2) .unit))))) .never .skip)⟩
theorem qQ {ks:Nat}(hs:∀n i j:Int,cl ks [.int n,.int i,.int j]=.ok (.bl (decide (0 < i/\i < n/\0 < j/\j < n)))){R:List (List Int)}{i j:Int}(h:0 < i/\i < R.length/\0 < j/\j < R.length):zQ lev cl k (zaB ks) [tab R,.int i,.int j]=.ok .non:=by
 have hlen:y8 .len [tab R]=.ok (.int R.length):=by simp[tab]
 unfold zQ
 rw[if_pos (by rfl)]
 show zS (lev k) (exD lev cl (.ite _ _ _) [some (tab R),some (.int i),some (.int j)] _)=_
 simp only[yN,xC,zA,yz,zt,zr,za,zb,zii,zn,hlen,hs,decide_eq_true h,Bool.not_true,zih,yX]
 simp[zS]
noncomputable def lvl (G:Nat->Nat->Int)(i j:Nat):Bool:=decide (G (i+1) j=G (i - 1) j) && (decide (G i (j - 1)=G (i - 1) j) && decide (G i (j+1)=G (i - 1) j))
noncomputable def zhr:Fn:=⟨3,4,(.seq (.asg 3 (.idx (.idx (.var 0) (.bin .sub (.var 1) (.lit (.int 1)))) (.var 2))) (.ret (.and (.cmp .eq (.idx (.idx (.var 0) (.bin .add (.var 1) (.lit (.int 1)))) (.var 2)) (.var 3)) (.and (.cmp .eq (.idx (.idx (.var 0) (.var 1)) (.bin .sub (.var 2) (.lit (.int 1)))) (.var 3)) (.cmp .eq (.idx (.idx (.var 0) (.var 1)) (.bin .add (.var 2) (.lit (.int 1)))) (.var 3))))))⟩
theorem zeE {n:Nat}(G:Nat->Nat->Int){i j:Nat}(h1:0 < i)(h2:i < n)(h3:0 < j)(h4:j < n):zQ lev cl k zhr [tab (zy n G),.int i,.int j]=.ok (.bl (lvl G i j)):=by
 have g1:=gat (G:=G) (show i - 1<=n by lia) (show j<=n by lia)
 have g2:=gat (G:=G) (show i+1<=n by lia) (show j<=n by lia)
 have g3:=gat (G:=G) (show i<=n by lia) (show j - 1<=n by lia)
 have g4:=gat (G:=G) (show i<=n by lia) (show j+1<=n by lia)
 rw[show ((i - 1:Nat):Int)=(i:Int) - 1 by lia] at g1
 rw[show ((i+1:Nat):Int)=(i:Int)+1 by lia] at g2
 rw[show ((j - 1:Nat):Int)=(j:Int) - 1 by lia] at g3
 rw[show ((j+1:Nat):Int)=(j:Int)+1 by lia] at g4
 unfold zQ
 rw[if_pos (by rfl)]
 show zS (lev k) (exD lev cl (.seq (.asg 3 _) (.ret _)) [some (tab (zy n G)),some (.int i),some (.int j),none] _)=_
 rw[xH,zI]
 simp only[ym,zH,zl,za,zb,zii,yi,g1,zih]
 rw[yn (by simp)]
 simp only[zm,List.set_cons_succ,List.set_cons_zero,zY,kG,yV,ym,zH,zl,za,zb,zii,yi,yh,g2,g3,g4,vL]
 by_cases a:G (i+1) j=G (i - 1) j <;> by_cases b:G i (j - 1)=G (i - 1) j <;> simp[a,b,lvl,zS]
noncomputable def trn (G:Nat->Nat->Int)(i j:Nat):Nat->Nat->Int:=up G i j (2 * G (i - 1) j - G i j)
end
end Lib
namespace Lib
section
variable {lev:Nat->Lv}{cl:Nat->List Dat->Rd}{k:Nat}
noncomputable def zhs:Fn:=⟨3,3,(.ret (.bin .sub (.bin .mul (.lit (.int 2)) (.idx (.idx (.var 0) (.bin .sub (.var 1) (.lit (.int 1)))) (.var 2))) (.idx (.idx (.var 0) (.var 1)) (.var 2))))⟩
theorem zeF {n:Nat}(G:Nat->Nat->Int){i j:Nat}(h1:0 < i)(h2:i < n)(h4:j < n):zQ lev cl k zhs [tab (zy n G),.int i,.int j]=.ok (.int (2 * G (i - 1) j - G i j)):=by
 have g1:=gat (G:=G) (show i - 1<=n by lia) (show j<=n by lia)
 have g2:=gat (G:=G) (show i<=n by lia) (show j<=n by lia)
 rw[show ((i - 1:Nat):Int)=(i:Int) - 1 by lia] at g1
 unfold zQ
 rw[if_pos (by rfl)]
 show zS (lev k) (exD lev cl (.ret _) [some (tab (zy n G)),some (.int i),some (.int j)] [lvF (tab (zy n G)),lvF (.int i),lvF (.int j)])=_
 simp only[zY,zH,ym,zl,za,zb,zii,yi,g1,g2,xt 2 _ (show yC 2=true by decide),zih,zS,gH,Bool.true_or,if_true]
noncomputable def zdj (kn kh kl kt kg:Nat):Fn:=⟨3,4,(.seq (.expr (.call kn (.pair (.var 0) (.pair (.var 1) (.pair (.var 2) .unit))))) (.seq (.asg 3 (.call kh (.pair (.var 0) .unit))) (.seq (.ite (.not (.call kl (.pair (.var 3) (.pair (.var 1) (.pair (.var 2) .unit))))) .never .skip) (.seq (.asgS (.idx (.var 3) (.var 1)) (.var 2) (.call kt (.pair (.var 3) (.pair (.var 1) (.pair (.var 2) .unit))))) (.ret (.call kg (.pair (.var 3) .unit)))))))⟩
theorem zbl {kn kh kl kt kg:Nat}{n:Nat}{R B:List (List Int)}{G:Nat->Nat->Int}{i j:Nat}(h1:0 < i)(h2:i < n)(h3:0 < j)(h4:j < n)(hn:cl kn [tab R,.int i,.int j]=.ok .non)(hh:cl kh [tab R]=.ok (tab (zy n G)))(hl:cl kl [tab (zy n G),.int i,.int j]=.ok (.bl true))(ht:cl kt [tab (zy n G),.int i,.int j]=.ok (.int (2 * G (i - 1) j - G i j)))(hg:cl kg [tab (zy n (trn G i j))]=.ok (tab B))(lh:lev kh=.full)(lg:lev kg=.full)(hk:lev k=.full):
  zQ lev cl k (zdj kn kh kl kt kg) [tab R,.int i,.int j]=.ok (tab B):=by
 unfold zQ
 rw[if_pos (by rfl)]
 show zS (lev k) (exD lev cl (.seq (.expr (.call kn (.pair (.var 0) (.pair (.var 1) (.pair (.var 2) .unit))))) (.seq (.asg 3 _) (.seq (.ite _ _ _) (.seq (.asgS _ _ _) (.ret _))))) [some (tab R),some (.int i),some (.int j),none] [lvF (tab R),lvF (.int i),lvF (.int j),.full])=_
 rw[zJ]
 have e1:exD lev cl (.expr (.call kn (.pair (.var 0) (.pair (.var 1) (.pair (.var 2) .unit))))) [some (tab R),some (.int i),some (.int j),none] [lvF (tab R),lvF (.int i),lvF (.int j),.full]=.next [some (tab R),some (.int i),some (.int j),none] [lvF (tab R),lvF (.int i),lvF (.int j),.full]:=by
  show (evD cl (.call kn _) _).bindS _=_
  simp only[zA,zt,zr,za,zb,zii,zn,hn,zih]
 rw[e1,zm,zJ,zI]
 simp only[zA,zt,zr,za,zb,zii,zn,hh,zih]
 rw[yj (by simp[lh])]
 simp only[zm,List.set_cons_succ,List.set_cons_zero]
 rw[zJ]
 simp only[yN,xC,zA,zt,zr,za,zb,zii,zn,hl,Bool.not_true,zih,yX,zm]
 rw[xH,zdh (i:=i) (c:=j) (p:=n+1) (q:=n+1) (F:=G) (v:=2 * G (i - 1) j - G i j) rfl rfl (by lia) (by lia) (by simp only[za,zb]) (by simp only[za,zb])
  (by simp only[zA,zt,zr,za,zb,zii,zn];exact ht)]
 simp only[zm,List.set_cons_succ,List.set_cons_zero,zY,zA,zt,zr,za,zb,zii,zn]
 rw[show cl kg [tab (vI (n+1) (n+1) (up G i j (2 * G (i - 1) j - G i j)))]=.ok (tab B) from hg]
 simp only[zih]
 have hl2:∀lv,lvR lev (.call kg (.pair (.var 3) .unit)) (tab B) lv=.full:=fun lv=>by
  unfold lvR
  rw[if_neg (by simp[tab])]
  simp[lg]
 rw[hl2]
 simp only[zS]
 rw[show flat (tab B)=false from by simp[tab],Bool.false_or,hk]
 rfl
end
end Lib
namespace Lib
section
variable {lev:Nat->Lv}{cl:Nat->List Dat->Rd}{k:Nat}
noncomputable def xSq (ks:Nat):Fn:=⟨3,3,(.ite (.not (.call ks (.pair (.blt .len (.pair (.var 0) .unit)) (.pair (.var 1) (.pair (.var 2) .unit))))) (.ret (.lit (.int 0))) .never)⟩
theorem zeG {ks:Nat}(hs:∀n i j:Int,cl ks [.int n,.int i,.int j]=.ok (.bl (decide (0 < i/\i < n/\0 < j/\j < n)))){R:List (List Int)}{i j:Int}(h:¬(0 < i/\i < R.length/\0 < j/\j < R.length)):zQ lev cl k (xSq ks) [tab R,.int i,.int j]=.ok (.int 0):=by
 have h1:y8 .len [tab R]=.ok (.int R.length):=by simp[tab]
 have h2:decide (0 < i/\i < (R.length:Int)/\0 < j/\j < (R.length:Int))=false:=decide_eq_false h
 unfold zQ
 rw[if_pos (by rfl)]
 show zS (lev k) (exD lev cl (.ite _ _ _) [some (tab R),some (.int i),some (.int j)] _)=_
 simp only[yN,xC,zA,yz,zt,zr,za,zb,zii,zn,h1,hs,h2,Bool.not_false,zih,zY,zl]
 exact jV _ _
noncomputable def zbm:Ex:=(.lst (.pair (.idx (.idx (.var 0) (.bin .sub (.var 1) (.lit (.int 1)))) (.var 2)) (.pair (.idx (.idx (.var 0) (.bin .add (.var 1) (.lit (.int 1)))) (.var 2)) (.pair (.idx (.idx (.var 0) (.var 1)) (.bin .sub (.var 2) (.lit (.int 1)))) (.pair (.idx (.idx (.var 0) (.var 1)) (.bin .add (.var 2) (.lit (.int 1)))) .unit)))))
noncomputable def zgg:Fn:=⟨3,4,(.seq (.asg 3 zbm) (.seq (.expr (.blt .sum (.pair (.var 3) .unit))) (.ite (.cmp .eq (.blt .len (.pair (.var 3) .unit)) (.lit (.int 4))) (.ret (.and (.cmp .eq (.idx (.var 3) (.lit (.int 0))) (.idx (.var 3) (.lit (.int 1)))) (.and (.cmp .eq (.idx (.var 3) (.lit (.int 0))) (.idx (.var 3) (.lit (.int 2)))) (.cmp .eq (.idx (.var 3) (.lit (.int 0))) (.idx (.var 3) (.lit (.int 3))))))) .never)))⟩
theorem zeH {n:Nat}(G:Nat->Nat->Int){i j:Nat}(hi:i<=n)(hj:j<=n):yt (tab (zy n G)) (.int i)=.ok (row (hrw n G i))/\yt (row (hrw n G i)) (.int j)=.ok (.int (G i j)) :=
 ⟨xu (by rw[List.getElem?_map,xq hi];rfl),xu (by rw[List.getElem?_map,x8 hj];rfl)⟩
theorem zeI {n:Nat}(G:Nat->Nat->Int){i j:Nat}(h1:0 < i)(h2:i < n)(h3:0 < j)(h4:j < n):zQ lev cl k zgg [tab (zy n G),.int i,.int j]=.ok (.bl (lvl G i j)):=by
 have i1:((i:Int) - 1)=((i - 1:Nat):Int):=by lia
 have i2:((i:Int)+1)=((i+1:Nat):Int):=by lia
 have j1:((j:Int) - 1)=((j - 1:Nat):Int):=by lia
 have j2:((j:Int)+1)=((j+1:Nat):Int):=by lia
 refine cps fun zP zk=>?_
 obtain ⟨a1,a2⟩:=zeH (n:=n) G (i:=i - 1) (j:=j) (by lia) (by lia)
 obtain ⟨b1,b2⟩:=zeH (n:=n) G (i:=i+1) (j:=j) (by lia) (by lia)
 obtain ⟨c1,c2⟩:=zeH (n:=n) G (i:=i) (j:=j - 1) (by lia) (by lia)
 obtain ⟨d1,d2⟩:=zeH (n:=n) G (i:=i) (j:=j+1) (by lia) (by lia)
 refine zk ?_
 have hnew:∀a b c d:Int,yA [.int a,.int b,.int c,.int d]=.ok (row [a,b,c,d]):=fun _ _ _ _=>rfl
 have e4:evD cl zbm [some (tab (zy n G)),some (.int i),some (.int j),none]=.ok (row [G (i - 1) j,G (i+1) j,G i (j - 1),G i (j+1)]):=by
  unfold zbm
  simp only[yM,ym,zH,zt,zr,zl,za,zb,zii,zn,yi,yh,i1,i2,j1,j2,a1,a2,b1,b2,c1,c2,d1,d2,hnew]
 have x0:∀a b c d:Int,yt (row [a,b,c,d]) (.int 0)=.ok (.int a):=fun a b c d=>xu (i:=0) rfl
 have x1:∀a b c d:Int,yt (row [a,b,c,d]) (.int 1)=.ok (.int b):=fun a b c d=>xu (i:=1) rfl
 have x2:∀a b c d:Int,yt (row [a,b,c,d]) (.int 2)=.ok (.int c):=fun a b c d=>xu (i:=2) rfl
 have x3:∀a b c d:Int,yt (row [a,b,c,d]) (.int 3)=.ok (.int d):=fun a b c d=>xu (i:=3) rfl
 have hl:∀a b c d:Int,y8 .len [row [a,b,c,d]]=.ok (.int 4):=fun _ _ _ _=>rfl
 unfold zQ
 rw[if_pos (by rfl)]
 show zS (lev k) (exD lev cl (.seq (.asg 3 zbm) (.seq (.expr (.blt .sum (.pair (.var 3) .unit))) (.ite _ _ .never))) [some (tab (zy n G)),some (.int i),some (.int j),none] _)=_
 have st:∀ (X:Sm) (hv:yr (.asg 3 zbm) X=none) (lv:List Lv),∃lv',exD lev cl (.seq (.asg 3 zbm) X) [some (tab (zy n G)),some (.int i),some (.int j),none] lv=exD lev cl X [some (tab (zy n G)),some (.int i),some (.int j),some (row [G (i - 1) j,G (i+1) j,G i (j - 1),G i (j+1)])] lv':=fun X hv lv=>by
  rw[zU lev cl _ lv hv,zI,e4]
  simp only[zih]
  unfold wH
  split <;> exact ⟨_,rfl⟩
 obtain ⟨lv',e⟩:=st (.seq (.expr (.blt .sum (.pair (.var 3) .unit))) (.ite (.cmp .eq (.blt .len (.pair (.var 3) .unit)) (.lit (.int 4))) (.ret (.and (.cmp .eq (.idx (.var 3) (.lit (.int 0))) (.idx (.var 3) (.lit (.int 1)))) (.and (.cmp .eq (.idx (.var 3) (.lit (.int 0))) (.idx (.var 3) (.lit (.int 2)))) (.cmp .eq (.idx (.var 3) (.lit (.int 0))) (.idx (.var 3) (.lit (.int 3))))))) .never)) rfl (yT zgg [tab (zy n G),.int i,.int j])
 rw[e,zU lev cl _ lv' rfl]
 have e5:exD lev cl (.expr (.blt .sum (.pair (.var 3) .unit))) [some (tab (zy n G)),some (.int i),some (.int j),some (row [G (i - 1) j,G (i+1) j,G i (j - 1),G i (j+1)])] lv'=.next [some (tab (zy n G)),some (.int i),some (.int j),some (row [G (i - 1) j,G (i+1) j,G i (j - 1),G i (j+1)])] lv':=by
  have q:∀ (de:DEn) (lv:List Lv),exD lev cl (.expr (.blt .sum (.pair (.var 3) .unit))) de lv=(evD cl (.blt .sum (.pair (.var 3) .unit)) de).bindS fun _=>.next de lv:=fun _ _=>rfl
  rw[q]
  simp only[yz,zt,zr,za,zb,zii,zn,zes,zih]
 rw[e5,zm,yN]
 simp only[yV,yz,zt,zr,zl,za,zb,zii,zn,hl,vL,decide_true,zih,zY]
 have an:∀ (p q:Ex) (x y:Bool) (de:DEn),evD cl p de=.ok (.bl x)->evD cl q de=.ok (.bl y)->evD cl (.and p q) de=.ok (.bl (x && y)):=fun p q x y de h1 h2=>by
  rw[kG,h1]
  cases x with
  | true=>exact h2
  | false=>rfl
 rw[an _ _ (decide (G (i - 1) j=G (i+1) j)) (decide (G (i - 1) j=G i (j - 1)) && decide (G (i - 1) j=G i (j+1))) _ (by simp only[yV,ym,zl,za,zb,zii,x0,x1,vL])
  (an _ _ _ _ _ (by simp only[yV,ym,zl,za,zb,zii,x0,x2,vL]) (by simp only[yV,ym,zl,za,zb,zii,x0,x3,vL]))]
 simp only[zih]
 rw[qP]
 unfold lvl
 rw[show decide (G (i - 1) j=G (i+1) j)=decide (G (i+1) j=G (i - 1) j) from by congr 1;exact propext eq_comm,show decide (G (i - 1) j=G i (j - 1))=decide (G i (j - 1)=G (i - 1) j) from by congr 1;exact propext eq_comm,show decide (G (i - 1) j=G i (j+1))=decide (G i (j+1)=G (i - 1) j) from by congr 1;exact propext eq_comm]
end
end Lib
namespace Lib
section
theorem zeJ {G:Nat->Nat->Int}{i j:Nat}(h:lvl G i j=true):G (i+1) j=G (i - 1) j/\G i (j - 1)=G (i - 1) j/\G i (j+1)=G (i - 1) j:=by
 unfold lvl at h
 simpa [Bool.and_eq_true] using h
theorem zeK {F:Nat->Nat->Int}{i j:Nat}{v:Int}:up F i j v i j=v:=by simp[up]
theorem zdk {F:Nat->Nat->Int}{i j a b:Nat}{v:Int}(h:¬(a=i/\b=j)):up F i j v a b=F a b:=by simp[up,h]
theorem HF.trn {n:Nat}{G:Nat->Nat->Int}(h:HF n G){i j:Nat}(i1:0 < i)(i2:i < n)(j1:0 < j)(j2:j < n)(hl:lvl G i j=true):HF n (trn G i j):=by
 obtain ⟨q1,q2,q3⟩:=zeJ hl
 have na:∀a b,¬(a=i/\b=j)->Lib.trn G i j a b=G a b:=fun a b z=>zdk z
 have here:Lib.trn G i j i j=2 * G (i - 1) j - G i j:=zeK
 refine ⟨fun b hb=>?_,fun a ha=>?_,fun b hb=>?_,fun a ha=>?_,fun a b ha hb=>?_,fun a b ha hb=>?_⟩
 .rw[na _ _ (by lia)];exact h.top b hb
 .rw[na _ _ (by lia)];exact h.left a ha
 .rw[na _ _ (by lia)];exact h.low b hb
 .rw[na _ _ (by lia)];exact h.right a ha
 .by_cases z:a=i/\b=j
  .obtain ⟨rfl,rfl⟩:=z
   have:=h.across a b ha hb
   rw[here,na a (b+1) (by lia)]
   lia
  .by_cases z2:a=i/\b+1=j
   .obtain ⟨rfl,rfl⟩:=z2
    have:=h.across a b ha hb
    rw[here,na a b (by lia)]
    rw[show b+1 - 1=b by lia] at q2
    lia
   .rw[na _ _ z,na _ _ (by lia)];exact h.across a b ha hb
 .by_cases z:a=i/\b=j
  .obtain ⟨rfl,rfl⟩:=z
   have:=h.down a b ha hb
   rw[here,na (a+1) b (by lia)]
   lia
  .by_cases z2:a+1=i/\b=j
   .obtain ⟨rfl,rfl⟩:=z2
    have:=h.down a b ha hb
    rw[here,na a b (by lia)]
    rw[show a+1 - 1=a by lia]
    lia
   .rw[na _ _ z,na _ _ (by lia)];exact h.down a b ha hb
end
end Lib
namespace Lib
end Lib
namespace Lib
theorem zeL {G:Nat->Nat->Int}{i j:Nat}(h:0 < i):trn (trn G i j) i j=G:=by
 funext a b
 unfold trn up
 have h1:¬(i - 1=i/\j=j):=by lia
 simp only[and_self,if_true,if_neg h1]
 by_cases q:a=i/\b=j
 .obtain ⟨rfl,rfl⟩:=q
  simp only[and_self,if_true]
  lia
 .simp only[if_neg q]
theorem zeM {G:Nat->Nat->Int}{i j:Nat}(h:0 < i)(hj:0 < j):lvl (trn G i j) i j=lvl G i j:=by
 unfold lvl trn up
 have h1:¬(i+1=i/\j=j):=by lia
 have h2:¬(i - 1=i/\j=j):=by lia
 have h3:¬(i=i/\j - 1=j):=by lia
 have h4:¬(i=i/\j+1=j):=by lia
 rw[if_neg h1,if_neg h2,if_neg h3,if_neg h4]
section
variable {lev:Nat->Lv}{cl:Nat->List Dat->Rd}{k:Nat}
theorem zbn {R:List (List Int)}(h1:R.length<=lim)(h2:∀x∈R,x.length<=lim)(hk:lev k=.full):zQ lev cl k ze4 [tab R]=.ok (tab R):=by
 unfold zQ
 rw[if_pos (by rfl)]
 show zS (lev k) (exD lev cl (.ret _) [some (tab R)] _)=_
 rw[zY,zez (j:=0) (m:=1) h1 h2 (de:=[some (tab R)]) rfl rfl,hk]
 simp only[zih]
 have hl2:∀lv,lvR lev (.comp (.blt .list (.pair (.var 1) .unit)) (.var 0) (.lit (.bl true))) (tab R) lv=.full:=fun lv=>by
  unfold lvR
  rw[if_neg (by simp[tab])]
  exact zda lev _ 1
 rw[hl2]
 simp only[zS]
 rw[show flat (tab R)=false from by simp[tab],Bool.false_or]
 rfl
noncomputable def zht (kx:Nat):Fn:=⟨3,4,(.ret (.call kx (.pair (.var 0) (.pair (.var 1) (.pair (.var 2) .unit)))))⟩
theorem zdl {kx:Nat}{a b c:Dat}{v:Int}(h:cl kx [a,b,c]=.ok (.int v)):zQ lev cl k (zht kx) [a,b,c]=.ok (.int v):=by
 unfold zQ
 rw[if_pos (by rfl)]
 show zS (lev k) (exD lev cl (.ret _) [some a,some b,some c,none] _)=_
 rw[zY]
 simp only[zA,zt,zr,za,zb,zii,zn,h,zih]
 exact jV _ _
noncomputable def ze7 (kn kh kl:Nat):Fn:=⟨3,4,(.seq (.expr (.call kn (.pair (.var 0) (.pair (.var 1) (.pair (.var 2) .unit))))) (.seq (.asg 3 (.call kh (.pair (.var 0) .unit))) (.ite (.not (.call kl (.pair (.var 3) (.pair (.var 1) (.pair (.var 2) .unit))))) (.ret (.lit (.int 1))) .never)))⟩
theorem zbo {kn kh kl:Nat}{R T:List (List Int)}{i j:Int}(hn:cl kn [tab R,.int i,.int j]=.ok .non)(hh:cl kh [tab R]=.ok (tab T))(hl:cl kl [tab T,.int i,.int j]=.ok (.bl false))(lh:lev kh=.full):zQ lev cl k (ze7 kn kh kl) [tab R,.int i,.int j]=.ok (.int 1):=by
 unfold zQ
 rw[if_pos (by rfl)]
 show zS (lev k) (exD lev cl (.seq (.expr (.call kn (.pair (.var 0) (.pair (.var 1) (.pair (.var 2) .unit))))) (.seq (.asg 3 (.call kh (.pair (.var 0) .unit))) (.ite (.not (.call kl (.pair (.var 3) (.pair (.var 1) (.pair (.var 2) .unit))))) (.ret (.lit (.int 1))) .never))) [some (tab R),some (.int i),some (.int j),none] [lvF (tab R),lvF (.int i),lvF (.int j),.full])=_
 rw[zJ]
 have e1:exD lev cl (.expr (.call kn (.pair (.var 0) (.pair (.var 1) (.pair (.var 2) .unit))))) [some (tab R),some (.int i),some (.int j),none] [lvF (tab R),lvF (.int i),lvF (.int j),.full]=.next [some (tab R),some (.int i),some (.int j),none] [lvF (tab R),lvF (.int i),lvF (.int j),.full]:=by
  show (evD cl (.call kn _) _).bindS _=_
  simp only[zA,zt,zr,za,zb,zii,zn,hn,zih]
 rw[e1,zm]
 rw[yO (d:=tab T) (by simp only[zA,zt,zr,za,zb,zii,zn,hh]) (by simp[lh]) rfl]
 simp only[List.set_cons_succ,List.set_cons_zero]
 simp only[yN,xC,zA,zt,zr,za,zb,zii,zn,hl,Bool.not_false,zih,zY,zl]
 exact jV _ _
noncomputable def sT:List Nat:=[116,117,114,110]
noncomputable def sS:List Nat:=[115,113,117,97,114,101]
noncomputable def zdm (kx:Nat):Fn:=⟨3,5,(.seq (.asg 3 (.lit (.str []))) (.ite (.cmp .eq (.call kx (.pair (.var 0) (.pair (.var 1) (.pair (.var 2) .unit)))) (.lit (.int 1))) (.ret (.lit (.str [116,117,114,110]))) (.ret (.lit (.str [115,113,117,97,114,101])))))⟩
theorem gQ {kx:Nat}{a b c:Dat}{v:Int}(h:cl kx [a,b,c]=.ok (.int v)):zQ lev cl k (zdm kx) [a,b,c]=.ok (.str (if v=1 then sT else sS)):=by
 unfold zQ
 rw[if_pos (by rfl)]
 show zS (lev k) (exD lev cl (.seq (.asg 3 (.lit (.str []))) (.ite (.cmp .eq (.call kx (.pair (.var 0) (.pair (.var 1) (.pair (.var 2) .unit)))) (.lit (.int 1))) (.ret (.lit (.str [116,117,114,110]))) (.ret (.lit (.str [115,113,117,97,114,101]))))) [some a,some b,some c,none,none] _)=_
 rw[yO (d:=.str []) (by simp only[xm]) (yy lev _ _ rfl) rfl]
 simp only[List.set_cons_succ,List.set_cons_zero]
 rw[yN]
 simp only[yV,zA,zt,zr,za,zb,zl,zii,zn,h,vL,zih]
 by_cases q:v=1
 .simp only[decide_eq_true q,if_pos q,zY,xm,zih]
  simp[zS,sT]
 .simp only[decide_eq_false q,if_neg q,zY,xm,zih]
  simp[zS,sS]
end
end Lib
end Vl
end Mini
namespace R32
open Mini
noncomputable def T:List Fn:=[f0,f1,f2,f3,f4,f5,f6,f7,f8,f9,f10,f11,f12,f13,f14,f15,f16,f17,f18,f19,f20,f21,f22,f23,f24,x0,x1,x2]
open Vl Vl.Lib
noncomputable def xr:Nat->Lv:=fun k=>if k=2 then .no else .full
noncomputable abbrev CD (d:Nat):=kF xr T d
theorem yf {d k:Nat}{f:Fn}(h:T[k]?=some f)(ds:List Dat):CD (d+1) k ds=zQ xr (CD d) k f ds:=by
 show kF xr T (d+1) k ds=_
 unfold kF
 rw[h]
theorem nt (k:Nat):xr k≠.top:=fun h=>by
 unfold xr at h
 split at h <;> cases h
theorem H0 (d:Nat)(x:Dat):CD (d+1) 0 [x]=.ok (.bl (isInt x)):=by rw[yf (f:=qE) rfl];exact za5 x
theorem H1 (d:Nat)(n i j:Int):CD (d+2) 1 [.int n,.int i,.int j]=.ok (.bl (decide (0 < i/\i < n/\0 < j/\j < n))):=by rw[yf (f:=ze6 0) rfl];exact zdi (H0 d) n i j
theorem H2 (d:Nat){R:List (List Int)}(h:Sq R)(hn:R.length<=100):CD (d+1) 2 [tab R]=.ok (tab (sums R)):=by rw[yf (f:=zeX) rfl];exact zcY h hn rfl
theorem H3 (d:Nat)(i:Int)(x:List Int)(hx:x.length<=100):CD (d+1) 3 [.int i,row x]=.ok (row (xI i x)):=by rw[yf (f:=zeZ) rfl];exact zc5 i x hx (nt _)
theorem H4 (d:Nat){n:Nat}(hn:n<=12){G:Nat->Nat->Int}(h:HF n G):CD (d+2) 4 [tab (zF n G)]=.ok (tab (zy n G)):=by
 have hl:=yG n G
 rw[yf (f:=gN 2 3) rfl,<- h.back]
 exact gO (H2 d (vm n G) (by lia)) (H3 d) (by lia) rfl (nt _)
theorem H5 (d:Nat){n:Nat}(G:Nat->Nat->Int){r:Nat}(hr:r < n)(c:Nat)(hc:c < n):CD (d+1) 5 [tab (zy n G),.int r,.int c]=.ok (.int (amid G r c)):=by rw[yf (f:=ze1) rfl];exact zc8 G hr hc
theorem H6 (d:Nat){n:Nat}(hn:n<=12)(G:Nat->Nat->Int)(r:Nat)(hr:r < n):CD (d+2) 6 [tab (zy n G),.int r]=.ok (row (y4 n G r)):=by rw[yf (f:=ze2 5) rfl];exact zc9 hn (H5 d G hr) (nt _)
theorem H7 (d:Nat){n:Nat}(hn:n<=12)(G:Nat->Nat->Int):CD (d+3) 7 [tab (zy n G)]=.ok (tab (zF n G)):=by rw[yf (f:=zho 6) rfl];exact zeu hn (H6 d hn G) rfl (nt _)
theorem H8 (d:Nat){R:List (List Int)}{i j:Int}(h:0 < i/\i < R.length/\0 < j/\j < R.length):CD (d+3) 8 [tab R,.int i,.int j]=.ok .non:=by rw[yf (f:=zaB 1) rfl];exact qQ (H1 d) h
theorem H9 (d:Nat){n:Nat}(G:Nat->Nat->Int){i j:Nat}(h1:0 < i)(h2:i < n)(h3:0 < j)(h4:j < n):CD (d+1) 9 [tab (zy n G),.int i,.int j]=.ok (.bl (lvl G i j)):=by rw[yf (f:=zhr) rfl];exact zeE G h1 h2 h3 h4
theorem H10 (d:Nat){n:Nat}(G:Nat->Nat->Int){i j:Nat}(h1:0 < i)(h2:i < n)(h4:j < n):CD (d+1) 10 [tab (zy n G),.int i,.int j]=.ok (.int (2 * G (i - 1) j - G i j)):=by rw[yf (f:=zhs) rfl];exact zeF G h1 h2 h4
theorem H11 (d:Nat){n:Nat}(hn:n<=12){G:Nat->Nat->Int}(h:HF n G){i j:Nat}(h1:0 < i)(h2:i < n)(h3:0 < j)(h4:j < n)(hl:lvl G i j=true):CD (d+4) 11 [tab (zF n G),.int i,.int j]=.ok (tab (zF n (trn G i j))):=by
 rw[yf (f:=zdj 8 4 9 10 7) rfl]
 exact zbl h1 h2 h3 h4 (H8 d (by rw[yG];lia)) (H4 (d+1) hn h) (by rw[H9 (d+2) G h1 h2 h3 h4,hl]) (H10 (d+2) G h1 h2 h4) (H7 d hn _) rfl rfl rfl
theorem H12 (d:Nat)(ns:List Int)(i:Nat):∃c:Int,CD (d+1) 12 [.scr ns,.int i]=.ok (.int c):=by rw[yf (f:=jS) rfl];exact zbg ns i
theorem H13 (d:Nat)(c j:Int)(h:0<=j)(h':j<=100000):∃v:Int,CD (d+1) 13 [.int c,.int j]=.ok (.int v):=by rw[yf (f:=zeY) rfl];exact zc1 c j h h'
theorem H14 (d:Nat)(c:Int):∃n:Nat,1<=n/\n<=12/\CD (d+1) 14 [.int c]=.ok (.int n):=by rw[yf (f:=vU) rfl];exact qI c
theorem H15 (d:Nat){n:Nat}(hn:1<=n)(hn':n<=12)(cell:Int):∃G,HF n G/\CD (d+2) 15 [.int cell,.int n]=.ok (tab (zF n G)):=by
 rw[yf (f:=zc3 13) rfl]
 obtain ⟨X,hX,e⟩:=zbh (lev:=xr) (k:=15) (H13 d) hn hn' cell (.inr rfl)
 have hXl:=hX.len
 have hl:(sg X).length=n:=by rw[jR,hXl]
 have hS:Sums (sg X):=Sums.of (zhn X) fun r c a b=>zf9 hX (by lia) (by lia)
 generalize sg X=R at *
 subst hl
 exact ⟨zR R,hS.hf,by rw[hS.amid];exact e⟩
theorem H16 (d:Nat){n:Nat}(hn:n<=12){G:Nat->Nat->Int}(h:HF n G):CD (d+1) 16 [tab (zF n G)]=.ok (tab (zy n G)):=by
 have hl:=yG n G
 have e:CD (d+1) 16 [tab (zF n G)]=.ok (tab (zy (zF n G).length (zR (zF n G)))):=by rw[yf (f:=zhp) rfl];exact zew (vm n G) (by lia) (nt _)
 rw[<- zet (vm n G),h.back] at e
 exact e
theorem H17 (d:Nat){n:Nat}(G:Nat->Nat->Int){i j:Nat}(h1:0 < i)(h2:i < n)(h3:0 < j)(h4:j < n):CD (d+1) 17 [tab (zy n G),.int i,.int j]=.ok (.bl (lvl G i j)):=by rw[yf (f:=zgg) rfl];exact zeI G h1 h2 h3 h4
theorem H18 (d:Nat){R:List (List Int)}(h1:R.length<=100)(h2:∀x∈R,x.length<=100):CD (d+1) 18 [tab R]=.ok (tab R):=by
 rw[yf (f:=ze4) rfl]
 exact zbn (by unfold lim;lia) (fun x hx=>by have:=h2 x hx;unfold lim;lia) rfl
theorem H19 (d:Nat){n:Nat}(hn:n<=12)(G:Nat->Nat->Int):CD (d+1) 19 [tab (zF n G),tab (zF n G)]=.ok (.bl true):=by
 rw[yf (f:=ze5) rfl]
 exact zdd (by rw[yG];lia) fun x hx=>by rw[kQ n G x hx];lia
theorem H20 (d:Nat){n:Nat}(hn:n<=12)(G:Nat->Nat->Int):CD (d+1) 20 [tab (zy n G)]=.ok (tab (zF n G)):=by rw[yf (f:=zhq) rfl];exact zey hn G (nt _)
theorem H25 (d:Nat){R:List (List Int)}{i j:Int}(h:¬(0 < i/\i < R.length/\0 < j/\j < R.length)):CD (d+3) 25 [tab R,.int i,.int j]=.ok (.int 0):=by rw[yf (f:=xSq 1) rfl];exact zeG (H1 d) h
theorem H26 (d:Nat){R:List (List Int)}{i j:Int}(h:¬(0 < i/\i < R.length/\0 < j/\j < R.length)):CD (d+4) 26 [tab R,.int i,.int j]=.ok (.int 0):=by rw[yf (f:=zht 25) rfl];exact zdl (H25 d h)
theorem H21 (d:Nat){R:List (List Int)}{i j:Int}(h:¬(0 < i/\i < R.length/\0 < j/\j < R.length)):CD (d+5) 21 [tab R,.int i,.int j]=.ok (.str sS):=by
 rw[yf (f:=zdm 26) rfl]
 exact gQ (v:=0) (H26 d h)
theorem H27 (d:Nat){n:Nat}(hn:n<=12){G:Nat->Nat->Int}(h:HF n G){i j:Nat}(h1:0 < i)(h2:i < n)(h3:0 < j)(h4:j < n)(hl:lvl G i j=false):CD (d+4) 27 [tab (zF n G),.int i,.int j]=.ok (.int 1):=by
 rw[yf (f:=ze7 8 4 9) rfl]
 exact zbo (H8 d (by rw[yG];lia)) (H4 (d+1) hn h) (by rw[H9 (d+2) G h1 h2 h3 h4,hl]) rfl
theorem H24 (d:Nat){n:Nat}(hn:n<=12){G:Nat->Nat->Int}(h:HF n G){i j:Nat}(h1:0 < i)(h2:i < n)(h3:0 < j)(h4:j < n)(hl:lvl G i j=false):CD (d+5) 24 [tab (zF n G),.int i,.int j]=.ok (.str sT):=by
 rw[yf (f:=zdm 27) rfl]
 exact gQ (v:=1) (H27 d hn h h1 h2 h3 h4 hl)
theorem zhu (s:List Nat):xh .eq (.str s) (.str s)=.ok (.bl true):=by
 show Rd.ok (.bl (decide (s=s)))=_
 rw[decide_eq_true rfl]
theorem zhv (s:List Nat):xh .ne (.str s) (.str s)=.ok (.bl false):=by
 show Rd.ok (.bl (!decide (s=s)))=_
 rw[decide_eq_true rfl]
 rfl
theorem H22 (d:Nat){n:Nat}(hn:n<=12){G:Nat->Nat->Int}(h:HF n G){i j:Nat}(h1:0 < i)(h2:i < n)(h3:0 < j)(h4:j < n):CD (d+6) 22 [tab (zF n G),tab (zy n G),.int i,.int j]=.ok (.bl true):=by
 rw[yf (d:=d+5) (f:=f22) rfl]
 have lv:=(show CD (d+5) 17 [tab (zy n G),.int i,.int j]=_ from H17 (d+4) G h1 h2 h3 h4)
 unfold zQ
 rw[if_pos (by rfl)]
 show zS (xr 22) (exD xr (CD (d+5)) f22.body [some (tab (zF n G)),some (tab (zy n G)),some (.int i),some (.int j),none,none,none,none] [lvF (tab (zF n G)),lvF (tab (zy n G)),lvF (.int i),lvF (.int j),.full,.full,.full,.full])=_
 unfold f22
 rw[zJ,yN]
 simp only[xC,zA,zt,zr,zb,za,zii,zn,lv,zih]
 cases hl:lvl G i j with
 | false =>
  have rr:=(show CD (d+5) 24 [tab (zF n G),.int i,.int j]=_ from H24 d hn h h1 h2 h3 h4 hl)
  simp only[Bool.not_false,zY,yV,zA,zt,zr,zb,za,xm,zii,zn,rr,zih,gJ]
  rw[show xh .eq (.str sT) (.str [116,117,114,110])=.ok (.bl true) from zhu _]
  simp only[zih,gJ]
  exact qP _ _
 | true =>
  simp only[Bool.not_true,yX,zm]
  have hT:HF n (trn G i j):=h.trn h1 h2 h3 h4 hl
  have cp1:=(show CD (d+5) 18 [tab (zy n G)]=_ from H18 (d+4) (by rw[gP];lia) fun x hx=>by
   simp only[zy,List.mem_map] at hx
   obtain ⟨r,_,rfl⟩:=hx
   simp[hrw];lia)
  have cp2:=(show CD (d+5) 18 [tab (zF n (trn G i j))]=_ from H18 (d+4) (by rw[yG];lia) fun x hx=>by rw[kQ n _ x hx];lia)
  have t1:=(show CD (d+5) 11 [tab (zF n G),.int i,.int j]=_ from H11 (d+1) hn h h1 h2 h3 h4 hl)
  have t2:=(show CD (d+5) 11 [tab (zF n (trn G i j)),.int i,.int j]=_ from H11 (d+1) hn hT h1 h2 h3 h4 (by rw[zeM h1 h3];exact hl))
  rw[zeL h1] at t2
  have lk:=fun (A:Nat->Nat->Int)=>(show CD (d+5) 19 [tab (zF n A),tab (zF n A)]=_ from H19 (d+4) hn A)
  have sg:=fun (A:Nat->Nat->Int)=>(show CD (d+5) 20 [tab (zy n A)]=_ from H20 (d+4) hn A)
  have ei:(i:Int) - 1=((i - 1:Nat):Int):=by lia
  have w1:=gat (G:=G) (show i - 1<=n by lia) (show j<=n by lia)
  have w2:=gat (G:=G) (show i<=n by lia) (show j<=n by lia)
  rw[yO (d:=tab (zy n G)) (by simp only[zA,zt,zr,zb,za,zii,zn,cp1]) rfl rfl]
  simp only[List.set_cons_succ,List.set_cons_zero]
  rw[zJ,zdh (i:=i) (c:=j) (p:=n+1) (q:=n+1) (F:=G) (v:=2 * G (i - 1) j - G i j) rfl rfl (by lia) (by lia) (by simp only[za,zb]) (by simp only[za,zb])
   (by
    simp only[zH,ym,zl,za,zb,zii,yi,ei]
    rw[w1,w2]
    simp only[zii,xt 2 _ rfl,yi])]
  simp only[zm,List.set_cons_succ,List.set_cons_zero]
  rw[show tab (vI (n+1) (n+1) (up G i j (2 * G (i - 1) j - G i j)))=tab (zy n (trn G i j)) from rfl]
  rw[yO (d:=tab (zF n (trn G i j))) (by simp only[zA,zt,zr,zb,za,zii,zn,t1]) rfl rfl]
  simp only[List.set_cons_succ,List.set_cons_zero]
  rw[zJ,yN]
  simp only[xC,zA,zt,zr,zb,za,zii,zn,sg,lk,Bool.not_true,zih,yX,zm]
  rw[yO (d:=tab (zF n (trn G i j))) (by simp only[zA,zt,zr,zb,za,zii,zn,cp2]) rfl rfl]
  simp only[List.set_cons_succ,List.set_cons_zero]
  rw[yO (d:=tab (zF n G)) (by simp only[zA,zt,zr,zb,za,zii,zn,t2]) rfl rfl]
  simp only[List.set_cons_succ,List.set_cons_zero]
  rw[zJ,zdh (i:=0) (c:=0) (p:=n) (q:=n) (F:=amid (trn G i j)) (v:=5) rfl rfl (by lia) (by lia) (by simp only[zl];rfl) (by simp only[zl];rfl) (by simp only[zl])]
  simp only[zm,List.set_cons_succ,List.set_cons_zero]
  rw[xH,zeA]
  rw[show xa _ 5=some ((vI n n (up (amid (trn G i j)) 0 0 5)).map row) from rfl]
  simp only[zde (show ([lvF (tab (zF n G)),lvF (tab (zy n G)),lvF (.int i),lvF (.int j),Lv.full,.full,.full,.full]:List Lv)[5]?=some .full from rfl),Bool.true_and]
  rw[if_pos (decide_eq_true (by rw[List.length_map,zdb];lia))]
  simp only[zm,List.set_cons_succ,List.set_cons_zero,zY,kG,zA,zt,zr,zb,za,zii,zn,lk,t1,zih]
  exact qP _ _
noncomputable def zgh (r:Rsd):Prop:=∃l,r=.ret (.bl true) l
theorem kR {cl:Nat->List Dat->Rd}{i:Nat}{e:Ex}{d:Dat}{X:Sm}{de:DEn}(h:evD cl e de=.ok d)(hv:yr (.asg i e) X=none)(k:∀lv,zgh (exD xr cl X (de.set i (some d)) lv))(lv:List Lv):zgh (exD xr cl (.seq (.asg i e) X) de lv):=by
 rw[zU xr cl de lv hv,zI,h]
 simp only[zih]
 unfold wH
 split <;> (simp only[zm];exact k _)
noncomputable def lpB:Sm:=(.seq (.asg 9 (.bin .mod (.bin .add (.call 12 (.pair (.var 0) (.pair (.lit (.int 2)) .unit))) (.var 8)) (.var 7))) (.seq (.asg 5 (.bin .add (.lit (.int 1)) (.bin .fdiv (.var 9) (.bin .sub (.var 1) (.lit (.int 1)))))) (.seq (.asg 6 (.bin .add (.lit (.int 1)) (.bin .mod (.var 9) (.bin .sub (.var 1) (.lit (.int 1)))))) (.ite (.or (.not (.call 22 (.pair (.var 4) (.pair (.var 3) (.pair (.var 5) (.pair (.var 6) .unit)))))) (.cmp .ne (.var 4) (.var 2))) (.ret (.lit (.bl false))) .skip))))
noncomputable def rfB:Sm:=(.ite (.cmp .ne (.call 21 (.pair (.var 4) (.pair (.var 5) (.pair (.var 6) .unit)))) (.lit (.str [115,113,117,97,114,101]))) (.ret (.lit (.bl false))) .skip)
noncomputable def kS (ns:List Int)(n:Nat)(G:Nat->Nat->Int)(o5 o6 o7 o8 o9:Option Dat):DEn:=[some (.scr ns),some (.int n),some (tab (zF n G)),some (tab (zy n G)),some (tab (zF n G)),o5,o6,o7,o8,o9]
theorem zhw (A:List (List Int)):xh .ne (tab A) (tab A)=.ok (.bl false):=zcZ A
theorem zgi {cl:Nat->List Dat->Rd}(a b:Ex)(de:DEn):evD cl (.tup (.pair a (.pair b .unit))) de=(evD cl a de).bind fun x=>(evD cl b de).bind fun y=>.ok (.tup [x,y]):=by
 show (((evD cl a de).bind fun x=>(((evD cl b de).bind fun y=>.ok (.tup [y]))).bind fun y=>.ok (.tup (x::zT y))).bind fun x=>if (zT x).length<=lim then .ok (.tup (zT x)) else .no)=_
 cases evD cl a de with
 | ok x =>
  cases evD cl b de with
  | ok y=>exact if_pos (c:=2<=lim) (t:=Rd.ok (.tup [x,y])) (e:=Rd.no) (by unfold lim;decide)
  | _=>rfl
 | _=>rfl
theorem zgj (ns:List Int){c2:Int}(hc:CD 7 12 [.scr ns,.int 2]=.ok (.int c2)){n:Nat}(hn:n<=12){G:Nat->Nat->Int}(hG:HF n G)(h2:2<=n)(t:Int)(o5 o6 o9:Option Dat)(lv:List Lv):
  ∃q5 q6 q9 lv',exD xr (CD 7) lpB (kS ns n G o5 o6 (some (.int (((n:Int) - 1) * ((n:Int) - 1)))) (some (.int t)) o9) lv=.next (kS ns n G q5 q6 (some (.int (((n:Int) - 1) * ((n:Int) - 1)))) (some (.int t)) q9) lv':=by
 generalize hM:((n:Int) - 1) * ((n:Int) - 1)=M
 have q0:(0:Int) < (n:Int) - 1:=by lia
 have hM0:0 < M:=by rw[<- hM];exact Int.mul_pos q0 q0
 have s0:0<=(c2+t) % M:=Int.emod_nonneg _ (by lia)
 have s1:(c2+t) % M < M:=Int.emod_lt_of_pos _ hM0
 generalize hsp:(c2+t) % M=sp at s0 s1
 have d0:0<=sp / ((n:Int) - 1):=Int.ediv_nonneg s0 (by lia)
 have d1:sp / ((n:Int) - 1) < (n:Int) - 1:=Int.ediv_lt_of_lt_mul q0 (by rw[hM];exact s1)
 have m0:0<=sp % ((n:Int) - 1):=Int.emod_nonneg _ (by lia)
 have m1:sp % ((n:Int) - 1) < (n:Int) - 1:=Int.emod_lt_of_pos _ q0
 obtain ⟨i,hi⟩:∃i:Nat,1+sp / ((n:Int) - 1)=i:=⟨(1+sp / ((n:Int) - 1)).toNat,by lia⟩
 obtain ⟨j,hj⟩:∃j:Nat,1+sp % ((n:Int) - 1)=j:=⟨(1+sp % ((n:Int) - 1)).toNat,by lia⟩
 have rr:=(show CD 7 22 [tab (zF n G),tab (zy n G),.int i,.int j]=_ from H22 1 hn hG (show 0 < i by lia) (show i < n by lia) (show 0 < j by lia) (show j < n by lia))
 refine ⟨some (.int i),some (.int j),some (.int sp),((lv.set 9 .full).set 5 .full).set 6 .full,?_⟩
 unfold kS lpB
 rw[yO (d:=.int sp) (by simp only[zH,zA,zt,zr,zl,zb,za,zii,zn,hc,yh,xD _ M hM0,hsp]) (yy xr _ _ rfl) rfl]
 simp only[List.set_cons_succ,List.set_cons_zero]
 rw[yO (d:=.int i) (by simp only[zH,zl,zb,za,zii,yh,yi,wE sp _ q0 (by lia),hi]) (yy xr _ _ rfl) rfl]
 simp only[List.set_cons_succ,List.set_cons_zero]
 rw[yO (d:=.int j) (by simp only[zH,zl,zb,za,zii,yh,yi,xD sp _ q0,hj]) (yy xr _ _ rfl) rfl]
 simp only[List.set_cons_succ,List.set_cons_zero]
 rw[yN]
 simp only[zaw,xC,yV,zA,zt,zr,zb,za,zii,zn,rr,zhw,Bool.not_true,zih,yX]
set_option tactic.hygienic true in
theorem zdn (ns:List Int):CD 8 23 [.scr ns]=.ok (.bl true):=by
 rw[yf (d:=7) (f:=f23) rfl]
 obtain ⟨c0,h0⟩:=H12 6 ns 0
 obtain ⟨c1,h1⟩:=H12 6 ns 1
 obtain ⟨c2,h2⟩:=H12 6 ns 2
 obtain ⟨c3,h3⟩:=H12 6 ns 3
 have h0':CD 7 12 [.scr ns,.int 0]=.ok (.int c0):=h0
 have h1':CD 7 12 [.scr ns,.int 1]=.ok (.int c1):=h1
 have h2':CD 7 12 [.scr ns,.int 2]=.ok (.int c2):=h2
 have h3':CD 7 12 [.scr ns,.int 3]=.ok (.int c3):=h3
 obtain ⟨n,hn1,hn2,hz⟩:=H14 6 c0
 obtain ⟨G,hG,g1⟩:=H15 5 hn1 hn2 c1
 have hz':CD 7 14 [.int c0]=.ok (.int n):=hz
 have g1':CD 7 15 [.int c1,.int n]=.ok (tab (zF n G)):=g1
 have hh:=(show CD 7 16 [tab (zF n G)]=_ from H16 6 hn2 hG)
 have cp:=(show CD 7 18 [tab (zF n G)]=_ from H18 6 (by rw[yG];lia) fun x hx=>by rw[kQ n _ x hx];lia)
 suffices hs:∀lv,zgh (exD xr (CD 7) f23.body [some (.scr ns),none,none,none,none,none,none,none,none,none] lv) by
  obtain ⟨l,hs⟩:=hs (yT f23 [.scr ns])
  unfold zQ
  rw[if_pos (by rfl)]
  show zS _ (exD xr (CD 7) f23.body [some (.scr ns),none,none,none,none,none,none,none,none,none] (yT f23 [.scr ns]))=_
  rw[hs]
  simp[zS]
 intro lv
 unfold f23
 refine kR (d:=.int n) (by simp only[zA,zt,zr,zl,zb,zii,zn,h0',hz']) rfl (fun lv=>?_) lv
 simp only[List.set_cons_succ,List.set_cons_zero]
 refine kR (d:=tab (zF n G)) (by simp only[zA,zt,zr,zl,zb,za,zii,zn,h1',g1']) rfl (fun lv=>?_) lv
 simp only[List.set_cons_succ,List.set_cons_zero]
 refine kR (d:=tab (zy n G)) (by simp only[zA,zt,zr,zb,za,zii,zn,hh]) rfl (fun lv=>?_) lv
 simp only[List.set_cons_succ,List.set_cons_zero]
 refine kR (d:=tab (zF n G)) (by simp only[zA,zt,zr,zb,za,zii,zn,cp]) rfl (fun lv=>?_) lv
 simp only[List.set_cons_succ,List.set_cons_zero]
 obtain ⟨f,hf0,hf⟩:∃f:Int,0<=f/\yb .mod (.int c3) (.int (10 ^ 29))=.ok (.int f):=⟨c3 % 10 ^ 29,Int.emod_nonneg _ (by decide),xD _ _ (by decide)⟩
 have hp:yb .pow (.int 10) (.int 29)=.ok (.int (10 ^ 29)):=qD 10 29 (by decide)
 rw[zU xr (CD 7) _ lv rfl,zem]
 have l6:∀a b c d e f:Dat,yA [a,b,c,d,e,f]=.ok (.lst [a,b,c,d,e,f]):=fun _ _ _ _ _ _=>rfl
 simp only[yM,zgi,zt,zr,jO,zH,zA,zl,zb,za,zii,zn,h3',hp,hf,l6,yi,yh,zih]
 rw[wU (by simp[lim])]
 simp only[]
 have loop:=fun (xs:List Dat) (hx:∀x∈xs,∃a b:Int,x=.tup [.int a,.int b]/\¬(0 < a/\a < n/\0 < b/\b < n)) (lv:List Lv)=>zZ (body:=fun x de lv=>match x with
   | .tup [a,b]=>exD xr (CD 7) rfB ((de.set 5 (some a)).set 6 (some b)) ((lv.set 5 (lvF a)).set 6 (lvF b))
   | _=>.no)
  (fun _ de _=>∃o5 o6,de=kS ns n G o5 o6 none none none) xs (de:=kS ns n G none none none none none) (lv:=lv) ⟨none,none,rfl⟩ (by
   rintro t y de lv hy ⟨p5,p6,rfl⟩
   obtain ⟨a,b,rfl,hab⟩:=hx y (List.mem_of_getElem? hy)
   have rr:=(show CD 7 21 [tab (zF n G),.int a,.int b]=_ from H21 2 (by rw[yG];exact hab))
   refine ⟨kS ns n G (some (.int a)) (some (.int b)) none none none,(lv.set 5 (lvF (.int a))).set 6 (lvF (.int b)),?_,_,_,rfl⟩
   unfold kS rfB
   simp only[List.set_cons_succ,List.set_cons_zero,yN,yV,zA,zt,zr,xm,za,zb,zii,zn,rr]
   rw[show xh .ne (.str sS) (.str [115,113,117,97,114,101])=.ok (.bl false) from zhv _]
   simp only[zih,yX])
 unfold kS rfB at loop
 have all:∀x∈[Dat.tup [.int 0,.int 1],.tup [.int 1,.int 0],.tup [.int n,.int 1],.tup [.int 1,.int n],.tup [.int (-1),.int 1],.tup [.int 1,.int (-1 - f)]],∃a b:Int,x=.tup [.int a,.int b]/\¬(0 < a/\a < (n:Int)/\0 < b/\b < (n:Int)):=by
  intro x hx
  simp only[List.mem_cons,List.not_mem_nil,or_false] at hx
  rcases hx with rfl | rfl | rfl | rfl | rfl | rfl <;> exact ⟨_,_,rfl,by lia⟩
 obtain ⟨de2,lv2,e2,q5,q6,rfl⟩:=loop _ all _
 erw [e2]
 rw[zm]
 have sm:yC ((n:Int) - 1)=true:=by
  have:∃m:Nat,m<=11/\(n:Int) - 1=m:=⟨n - 1,by lia,by lia⟩
  obtain ⟨m,hm,e⟩:=this
  rw[e]
  have:∀m:Nat,m<=11->yC (m:Int)=true:=by decide
  exact this m hm
 refine kR (d:=.int (((n:Int) - 1) * ((n:Int) - 1))) (by simp only[zH,zl,zb,za,zii,yi,xt _ _ sm]) rfl (fun lv=>?_) lv2
 simp only[List.set_cons_succ,List.set_cons_zero]
 rw[zU xr (CD 7) _ lv rfl,xp]
 obtain ⟨m,hm,hm2⟩:∃m:Nat,mn (((n:Int) - 1) * ((n:Int) - 1)) 10=m/\(0 < m->2<=n)/\m<=10:=by
  have z:0<=((n:Int) - 1) * ((n:Int) - 1):=Int.mul_nonneg (by lia) (by lia)
  refine ⟨(mn (((n:Int) - 1) * ((n:Int) - 1)) 10).toNat,?_,fun h=>?_,?_⟩
  .unfold mn;generalize ((n:Int) - 1) * ((n:Int) - 1)=y at z ⊢;split <;> lia
  .rcases Nat.lt_or_ge n 2 with q | q
   .have:n=1:=by lia
    subst this
    simp[mn] at h
   .exact q
  .unfold mn;generalize ((n:Int) - 1) * ((n:Int) - 1)=y at z ⊢;split <;> lia
 have hr:kC (.int 0) (.int (m:Int)) (.int 1)=.ok (.tup (yu 0 1 m)):=by
  rw[kJ (by unfold lim;lia)]
  simp[kT]
 simp only[xZ,zl,yz,zt,zr,zb,za,zii,zn,show ∀a b:Int,y8 .min2 [.int a,.int b]=.ok (.int (mn a b)) from fun _ _=>rfl,hm,hr,zih,x4]
 have main:=fun lv=>zZ (body:=fun x de lv=>exD xr (CD 7) lpB (de.set 8 (some x)) (lv.set 8 (lvF x)))
  (fun _ de _=>∃o5 o6 o8 o9,de=kS ns n G o5 o6 (some (.int (((n:Int) - 1) * ((n:Int) - 1)))) o8 o9) (yu 0 1 m) (de:=kS ns n G q5 q6 (some (.int (((n:Int) - 1) * ((n:Int) - 1)))) none none) (lv:=lv) ⟨q5,q6,none,none,rfl⟩ (by
   intro t y de lv hy zz
   obtain ⟨p5,p6,p8,p9,rfl⟩:=zz
   have ht:t < m:=by
    have:=(List.getElem?_eq_some_iff.mp hy).1
    simpa using this
   rw[xo _ _ _ _ ht] at hy
   cases hy
   obtain ⟨r5,r6,r9,lv',e⟩:=zgj ns h2' hn2 hG (hm2.1 (by lia)) (0+1 * (t:Int)) p5 p6 p9 (lv.set 8 (lvF (.int (0+1 * (t:Int)))))
   exact ⟨_,lv',e,r5,r6,_,r9,rfl⟩)
 unfold kS lpB at main
 obtain ⟨de3,lv3,e3,u5,u6,u8,u9,rfl⟩:=main _
 rw[e3,zm,zY]
 simp only[jk,zih]
 exact ⟨_,rfl⟩
theorem pure (ns:List Int)(_:ns.length<=63):∃m,yD (D.map (·.fn)++XD.map (·.fn)) 8 23 [.rol (ns.map Wd.int)] []=.ok (.bl true) m:=zeh xr T 8 23 ns (zdn ns)
end R32
open PySem PySem.W PyProof.Rows
set_option maxRecDepth 100000 in
theorem PySem.Challenge.cw_loopgyre_k32_squares_turned_holds : PySem.Challenge.rw_loopgyre_k32_squares_turned.Holds := by
 w_on;o_law;z_head;(case hw=>w_witness2)
 k_fill
 refine Mini.zgZ (fun _=>rfl) ?_
 refine Mini.zgY (l:=PySem.Challenge.rw_loopgyre_k32_squares_turned) (D:=R32.D) (XD:=R32.XD) (C:=R32.C) (Q:=R32.Q) (xn:=R32.XN) (k:=8) (i:=23) (dl:=R32.d23) (x := "_law_script") (n:=63) rfl (by decide) rfl ⟨rfl,by decide,by decide⟩ (fun w h Y=>Y) rfl rfl R32.zg0 R32.okX R32.bnd R32.bndX rfl rfl rfl ?F R32.pure
 case F =>
  intro w mg fa h KX G hmg
  refine' R32.mk KX G ?_ ?_ ?_ ?_ ?_ ?_ ?_ ?_ ?_ ?_ ?_ ?_ ?_ ?_ ?_ ?_ ?_ ?_ ?_ ?_ ?_ ?_ ?_ ?_ ?_ ?xqz ?xqxG ?xqxg0 ?xqxg1 ?xqxg2 ?xqxg3 ?xqxg4 ?xqxg5 ?xqxg6 ?xqxg7 ?xqxE ?xqxM ?xqxV ?xqxe0 ?xqxa0 ?xqxb0 ?xqxc0 ?xqxd0 ?xqxo0 ?xqxm0 ?xqxv0 ?xqxk0_0 ?xqxk0_1 ?xqxk0_2 ?xqxk0_3 ?xqxk0_4 ?xqxk0_5 ?xqxk0_6 ?xqxk0_7 ?xqxe1 ?xqxa1 ?xqxb1 ?xqxc1 ?xqxd1 ?xqxo1 ?xqxm1 ?xqxv1 ?xqxk1_0 ?xqxk1_1 ?xqxk1_2 ?xqxk1_3 ?xqxk1_4 ?xqxk1_5 ?xqxk1_6 ?xqxk1_7
  all_goals try ((refine' R32.dk KX G ?g ?l ?c ?k);(case g=>k_is);(case l=>k_is);(case c=>k_is);(case k=>k_is))
  (case xqz=>refine R32.zk ?_ ?_ ?_ ?_ ?_ ?_ ?_ ?_ ?_ ?_ ?_ ?_ ?_ ?_ ?_ ?_ <;> k_is)
  (case xqxG=>k_is)
  (case xqxg0=>k_is)
  (case xqxg1=>k_is)
  (case xqxg2=>k_is)
  (case xqxg3=>k_is)
  (case xqxg4=>k_is)
  (case xqxg5=>k_is)
  (case xqxg6=>k_is)
  (case xqxg7=>k_is)
  (case xqxE=>k_exc)
  (case xqxM=>k_is)
  (case xqxV=>k_is)
  (case xqxe0=>k_exc)
  (case xqxa0=>k_is)
  (case xqxb0=>k_is)
  (case xqxc0=>k_is)
  (case xqxd0=>k_is)
  (case xqxo0=>k_is)
  (case xqxm0=>k_is)
  (case xqxv0=>kit_is)
  (case xqxk0_0=>kit_is)
  (case xqxk0_1=>kit_is)
  (case xqxk0_2=>kit_is)
  (case xqxk0_3=>kit_is)
  (case xqxk0_4=>kit_is)
  (case xqxk0_5=>kit_is)
  (case xqxk0_6=>kit_is)
  (case xqxk0_7=>kit_is)
  (case xqxe1=>k_exc)
  (case xqxa1=>k_is)
  (case xqxb1=>k_is)
  (case xqxc1=>k_is)
  (case xqxd1=>k_is)
  (case xqxo1=>k_is)
  (case xqxm1=>k_is)
  (case xqxv1=>kit_is)
  (case xqxk1_0=>kit_is)
  (case xqxk1_1=>kit_is)
  (case xqxk1_2=>kit_is)
  (case xqxk1_3=>kit_is)
  (case xqxk1_4=>kit_is)
  (case xqxk1_5=>kit_is)
  (case xqxk1_6=>kit_is)
  (case xqxk1_7=>kit_is)
