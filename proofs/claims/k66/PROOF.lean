import PyProof.Rows.All
import Wide.All
import OpenK.AllK
import Wide.FinOn
import Lean
import PyProof.EqAt
import PyProof.EqKinds
import PyProof.NeKinds
import PyProof.TupleCall
import OpenK.KOwn
import PyProof.WalkInts
import KE.KIsAll
import KE.RegKIsAll
import PyProof.ExcAttrAll.ValueError
import OpenK.KMake
import PyProof.ExcInit
import PySem.Challenge.RW_loopgyre_k66_states_listed
set_option Elab.async false
set_option linter.all false
set_option maxRecDepth 100000
set_option genSizeOf false
set_option maxHeartbeats 0
set_option tactic.hygienic false
set_option bootstrap.genMatcherCode false
set_option compiler.extract_closed false
set_option backward.eqns.nonrecursive false
set_option backward.eqns.deepRecursiveSplit false
noncomputable section
namespace L2
open PySem PySem.Spec PyProof.Rows
abbrev Key:=Sum Int Str
noncomputable def zeu:Key->Value->Bool
 | .inl k,v=>Value.isInt k v
 | .inr x,v=>Value.isStrOf x v
noncomputable def keyH (w:World):Key->Int
 | .inl k=>hashInt k
 | .inr x=>hashStr w x
theorem zH:∀ {k:Key}{v:Value},zeu k v=true->(∃i t,k=Sum.inl i/\v=Value.int i t)\/(∃x t,k=Sum.inr x/\v=Value.str x t)
 | .inl i,v,h=>by
  obtain ⟨t,e⟩:=Value.isInt_shape (k:=i) (v:=v) h
  exact .inl ⟨i,t,rfl,e⟩
 | .inr x,v,h=>by
  obtain ⟨t,e⟩:=Value.isStrOf_shape (x:=x) (v:=v) h
  exact .inr ⟨x,t,rfl,e⟩
theorem zeJ (a b:Int):decide ((Sum.inl a:Key)=Sum.inl b)=(a == b):=by
 by_cases e:a=b
 .subst e;simp
 .have h:¬(Sum.inl a:Key)=Sum.inl b:=fun q=>e (Sum.inl.inj q)
  rw[decide_eq_false h]
  exact (beq_eq_false_iff_ne.mpr e).symm
theorem zeK (a b:Str):decide ((Sum.inr a:Key)=Sum.inr b)=decide (a=b):=by
 by_cases e:a=b
 .subst e;simp
 .have h:¬(Sum.inr a:Key)=Sum.inr b:=fun q=>e (Sum.inr.inj q)
  rw[decide_eq_false h,decide_eq_false e]
theorem zeL (a:Int)(b:Str):decide ((Sum.inl a:Key)=Sum.inr b)=false:=decide_eq_false (fun q=>nomatch q)
theorem zeM (a:Str)(b:Int):decide ((Sum.inr a:Key)=Sum.inl b)=false:=decide_eq_false (fun q=>nomatch q)
noncomputable def qP (prog:Program)(w:World):PySem.KeyKind prog w Key where
 is:=zeu
 hash:=keyH w
 inj:=fun v a b ha hb=>by
  rcases zH ha with ⟨i,t,rfl,rfl⟩ | ⟨x,t,rfl,rfl⟩
  .rcases zH hb with ⟨j,u,rfl,e⟩ | ⟨y,u,rfl,e⟩
   .injection e with e1 _;rw[e1]
   .exact nomatch e
  .rcases zH hb with ⟨j,u,rfl,e⟩ | ⟨y,u,rfl,e⟩
   .exact nomatch e
   .injection e with e1 _;rw[e1]
 byValue:=fun k v h=>by
  rcases zH h with ⟨i,t,rfl,rfl⟩ | ⟨x,t,rfl,rfl⟩ <;> rfl
 pyHash:=fun hv h=>by
  rcases zH hv with ⟨i,t,rfl,rfl⟩ | ⟨x,t,rfl,rfl⟩
  .exact wpAny_pyHash_int h
  .exact wpAny_pyHash_str h
 eqBool:=fun hu hv h=>by
  rcases zH hu with ⟨i,t,rfl,rfl⟩ | ⟨x,t,rfl,rfl⟩
  .rcases zH hv with ⟨j,u,rfl,rfl⟩ | ⟨y,u,rfl,rfl⟩
   .rw[zeJ] at h;exact wpAny_eqBool_int h
   .rw[zeL] at h;exact SeqAt.EqAt.int_str i t y u _ _ _ _ h
  .rcases zH hv with ⟨j,u,rfl,rfl⟩ | ⟨y,u,rfl,rfl⟩
   .rw[zeM] at h;exact SeqAt.EqAt.str_int x t j u _ _ _ _ h
   .rw[zeK] at h;exact wpAny_eqBool_str h
 «strs»:=fun k x t v h=>by
  rcases zH h with ⟨i,u,rfl,e⟩ | ⟨y,u,rfl,e⟩
  .exact nomatch e
  .injection e with e1 _
   subst e1
   cases v <;> rfl
set_option genInjectivity false in
inductive V where
 | non | bl (b:Bool) | int (i:Int) | str (x:Str) | byt (b:Array UInt8) | flt (b:UInt64) | ref (a:Addr) | ty (n:String)
 deriving DecidableEq
def RelV:V->Value->Prop
 | .non,u=>u=Value.none
 | .bl b,u=>u=Value.bool b
 | .int i,u=>∃t,u=Value.int i t
 | .str x,u=>∃t,u=Value.str x t
 | .byt b,u=>∃t,u=Value.bytes b t
 | .flt b,u=>∃t,u=Value.float b t
 | .ref a,u=>u=Value.ref a
 | .ty n,u=>u=Value.type n
abbrev Vals:List V->List Value->Prop:=Paired RelV
theorem Vals.length {xs:List V}{us:List Value}(r:Vals xs us):xs.length=us.length:=Paired.length r
theorem Vals.get:∀ {xs:List V}{us:List Value}{i:Nat}{x:V},Vals xs us->xs[i]?=some x->∃u,us[i]?=some u/\RelV x u
 | _,_,_,_,.nil,e=>by simp at e
 | _,_,0,_,.cons r _,e=>by simp at e;subst e;exact ⟨_,rfl,r⟩
 | _,_,i+1,x,.cons _ t,e=>by
  obtain ⟨u,h1,h2⟩:=Vals.get (i:=i) (x:=x) t (by simpa using e)
  exact ⟨u,by simpa using h1,h2⟩
theorem Vals.append:∀ {xs ys:List V}{us ws:List Value},Vals xs us->Vals ys ws->Vals (xs++ys) (us++ws)
 | _,_,_,_,.nil,s=>s
 | _,_,_,_,.cons r t,s=>.cons r (Vals.append t s)
def zeN:Option V->Option Value->Prop
 | some v,some u=>RelV v u
 | none,none=>True
 | _,_=>False
def KV {κ:Type}:List (κ×V)->List (κ×Value)->Prop:=Paired fun (p:κ×V) (q:κ×Value)=>p.1=q.1/\RelV p.2 q.2
noncomputable def kV:Key->V
 | .inl i=>.int i
 | .inr x=>.str x
set_option genInjectivity false in
inductive HO where
 /-- a list -/
 | lst (xs:List V)
 /-- a tuple (never changes) -/
 | tup (xs:List V)
 /-- a dict whose keys are ints and texts;one whose keys are tuples of ints and texts (the empty one is both) -/
 | dK (kvs:List (Key×V)) | dT (kvs:List (List Key×V))
 /-- a set of ints: its members,its size -/
 | set (S:Int->Bool) (n:Nat)
 /-- an instance of the class at C,its dict at dx,its attributes -/
 | ins (C dx:Addr) (fs:List (Str×V))
 /-- the dict of the instance at x -/
 | own (x:Addr)
 /-- the dict of an exception -/
 | xd (fs:List (Str×V))
 /-- a bound method,f of x -/
 | met (f x:Addr)
 /-- a range object lo,lo+1,.. below hi -/
 | rng (lo hi:Int)
 /-- a thing that is known to the object (the script;a dict while a loop walks it): read,never written while it is so -/
 | frz (o:Obj) (u:HO)
 /-- a code object's table -/
 | tbl (ps:Array Value)
 /-- any other thing,by what is true of its one object (a def of one's own: SetO a S n:=HO.ext fun h=>..) -/
 | ext (φ:Heap->Prop)
abbrev Hp:=Addr->Option HO
noncomputable def upd (H:Hp)(a:Addr)(o:HO):Hp:=fun b=>if b=a then some o else H b
theorem zb {H:Hp}{a:Addr}{o:HO}:upd H a o a=some o:=by unfold upd;rw[if_pos rfl]
theorem zd {H:Hp}{a b:Addr}{o:HO}(h:b≠a):upd H a o b=H b:=by unfold upd;rw[if_neg h]
theorem zv {H:Hp}{a b:Addr}{o:HO}(h:H a=some o)(h':H b=none):a≠b:=by
 intro e;subst e;rw[h] at h';cases h'
section
variable (P:Program)(w:World)
def ObjOk (H:Hp)(h:Heap)(a:Addr):HO->Prop
 | .lst xs=>xs.length<=sizeLine/\∃ (its:List Value) (n:Nat),Vals xs its/\h.get? a=some { cls:=.type "list",data:=.seq its.toArray n }
 | .tup xs=>xs.length<=sizeLine/\∃its:List Value,Vals xs its/\IsTup h a its.toArray
 | .dK kvs=>kvs.length<=sizeLine/\(a == sysModules)=false/\∃vs,KV kvs vs/\h.DictOf (qP P w) a vs
 | .dT kvs=>kvs.length<=sizeLine/\(a == sysModules)=false/\∃xs:List (List Key×Addr×Value),
   Paired (fun (p:List Key×V) (q:List Key×Addr×Value)=>p.1=q.1/\H q.2.1=some (.tup (p.1.map kV))/\RelV p.2 q.2.2) kvs xs /\
   ∃o es ep,h.get? a=some o/\o.ExactDict/\o.data=.dict es ep/\es.toList=xs.map (entryOfKey (tupleKind (qP P w)))/\(xs.map (·.1)).Nodup
 | .set S n=>h.SetOf (intKind P w) a S n
 | .ins C dx fs=>H dx=some (.own a)/\fs.length<=1000/\dx≠a/\h.get? a=some (PySem.W.instObj C dx) /\
   ∃mA,h.Ns1 dx mA/\(∀f,zeN (fs.lookup f) (mA f))/\PySem.Within mA (fs.map (·.1))
 | .own _=>∃o,h.get? a=some o
 | .xd fs=>∃mA,h.Ns1 a mA/\∀f,zeN (fs.lookup f) (mA f)
 | .rng lo hi=>∃t u v,h.get? a=some { cls:=.type "range",data:=.fields #[.int lo t,.int hi u,.int 1 v] }
 | .frz o u=>h.get? a=some o/\ObjOk H h a u
 | .tbl ps=>h.get? a=some { cls:=.none,data:=.fields ps }
 | .met f x=>h.get? a=some (PySem.W.methodObj (.ref f) (.ref x))
 | .ext φ=>φ h/\(∃o,h.get? a=some o)/\∀h1 h2:Heap,φ h1->(∀o,h1.get? a=some o->h2.get? a=some o)->φ h2
def HOk (H:Hp)(h:Heap):Prop:=∀a o,H a=some o->ObjOk P w H h a o
end
section
variable {P:Program}{w:World}{H H':Hp}{h h':Heap}{a:Addr}{o:HO}
theorem ObjOk.lt (x:ObjOk P w H h a o):a < h.objs.size:=by
 cases o with
 | lst xs=>obtain ⟨_,_,_,_,e⟩:=x;exact Heap.lt_size e
 | tup xs=>obtain ⟨_,_,_,p⟩:=x;exact p.lt
 | dK kvs=>obtain ⟨_,_,_,_,o,_,_,e,_⟩:=x;exact Heap.lt_size e
 | dT kvs=>obtain ⟨_,_,_,_,o,_,_,e,_⟩:=x;exact Heap.lt_size e
 | set S n=>obtain ⟨o,_,_,_,e,_⟩:=x;exact Heap.lt_size e
 | ins C dx fs=>obtain ⟨_,_,_,e,_⟩:=x;exact Heap.lt_size e
 | own y=>obtain ⟨_,e⟩:=x;exact Heap.lt_size e
 | xd fs=>obtain ⟨_,⟨_,_,_,e,_⟩,_⟩:=x;exact Heap.lt_size e
 | rng lo hi=>obtain ⟨_,_,_,e⟩:=x;exact Heap.lt_size e
 | frz ob u=>obtain ⟨e,_⟩:=x;exact Heap.lt_size e
 | tbl ps=>exact Heap.lt_size (show h.get? a=some _ from x)
 | met f y=>exact Heap.lt_size (show h.get? a=some _ from x)
 | ext φ=>obtain ⟨_,⟨_,e⟩,_⟩:=x;exact Heap.lt_size e
theorem ziz {α β:Type}{F G:α->β->Prop}:∀ {l₁:List α}{l₂:List β},Paired F l₁ l₂->(∀a b,F a b->G a b)->Paired G l₁ l₂
 | _,_,.nil,_=>.nil
 | _,_,.cons r t,f=>.cons (f _ _ r) (ziz t f)
theorem ObjOk.stay (x:ObjOk P w H h a o)(k:∀b u,(b=a\/H b=some (.own a))->h.get? b=some u->h'.get? b=some u)
  (ho:∀b,H b=some (.own a)->H' b=some (.own a)) (ht:∀b xs,H b=some (.tup xs)->H' b=some (.tup xs)):ObjOk P w H' h' a o:=by
 induction o with
 | lst xs=>obtain ⟨z,its,n,r,e⟩:=x;exact ⟨z,its,n,r,k _ _ (.inl rfl) e⟩
 | tup xs=>obtain ⟨z,its,r,ob,e,c⟩:=x;exact ⟨z,its,r,ob,k _ _ (.inl rfl) e,c⟩
 | dK kvs=>obtain ⟨z,y,vs,r,ob,es,ep,e,c⟩:=x;exact ⟨z,y,vs,r,ob,es,ep,k _ _ (.inl rfl) e,c⟩
 | dT kvs =>
  obtain ⟨z,y,xs,r,ob,es,ep,e,c⟩:=x
  exact ⟨z,y,xs,ziz r fun p q z=>⟨z.1,ht _ _ z.2.1,z.2.2⟩,ob,es,ep,k _ _ (.inl rfl) e,c⟩
 | set S n=>obtain ⟨ob,es,ep,t,e,c⟩:=x;exact ⟨ob,es,ep,t,k _ _ (.inl rfl) e,c⟩
 | ins C dx fs =>
  obtain ⟨d,z,ne,e,mA,⟨od,es,ep,e2,c⟩,r⟩:=x
  exact ⟨ho _ d,z,ne,k _ _ (.inl rfl) e,mA,⟨od,es,ep,k _ _ (.inr d) e2,c⟩,r⟩
 | own y=>obtain ⟨ob,e⟩:=x;exact ⟨ob,k _ _ (.inl rfl) e⟩
 | xd fs=>obtain ⟨mA,⟨od,es,ep,e,c⟩,r⟩:=x;exact ⟨mA,⟨od,es,ep,k _ _ (.inl rfl) e,c⟩,r⟩
 | rng lo hi=>obtain ⟨t,u,v,e⟩:=x;exact ⟨t,u,v,k _ _ (.inl rfl) e⟩
 | frz ob u ih=>obtain ⟨e,q⟩:=x;exact ⟨k _ _ (.inl rfl) e,ih q⟩
 | tbl ps =>
  have e:h.get? a=some { cls:=.none,data:=.fields ps }:=x
  show h'.get? a=some { cls:=.none,data:=.fields ps }
  exact k a _ (.inl rfl) e
 | met f y =>
  have e:h.get? a=some (PySem.W.methodObj (.ref f) (.ref y)):=x
  show h'.get? a=some (PySem.W.methodObj (.ref f) (.ref y))
  exact k a _ (.inl rfl) e
 | ext φ=>obtain ⟨p,⟨o,e⟩,st⟩:=x;exact ⟨st _ _ p fun o q=>k _ _ (.inl rfl) q,⟨o,k _ _ (.inl rfl) e⟩,st⟩
theorem HOk.lt (x:HOk P w H h)(e:H a=some o):a < h.objs.size:=(x a o e).lt
theorem HOk.fresh (x:HOk P w H h)(e:h.objs.size<=a):H a=none:=by
 cases q:H a with
 | none=>rfl
 | some u=>exact absurd (Nat.lt_of_lt_of_le (x.lt q) e) (Nat.lt_irrefl _)
theorem HOk.kept (x:HOk P w H h)(k:∀b u,h.get? b=some u->h'.get? b=some u):HOk P w H h':=fun a o e =>
 (x a o e).stay (fun b u _ q=>k b u q) (fun _ q=>q) fun _ _ q=>q
theorem HOk.laid (x:HOk P w H h)(k:∀b u,h.get? b=some u->h'.get? b=some u)(hp:h.objs.size<=a)(new:ObjOk P w (upd H a o) h' a o):HOk P w (upd H a o) h':=fun b u e=>by
 have hn:=x.fresh hp
 by_cases hb:b=a
 .subst hb;rw[zb] at e;cases e;exact new
 .rw[zd hb] at e
  exact (x b u e).stay (fun c v _ q=>k c v q) (fun c q=>by rw[zd (zv q hn)];exact q) fun c xs q=>by rw[zd (zv q hn)];exact q
end
def Rd (H:Hp)(a:Addr)(u:HO):Prop:=H a=some u\/∃o,H a=some (.frz o u)
theorem Rd.ok {P:Program}{w:World}{H:Hp}{h:Heap}{a:Addr}{u:HO}(r:Rd H a u)(x:HOk P w H h):ObjOk P w H h a u:=by
 rcases r with r | ⟨o,r⟩
 .exact x a u r
 .obtain ⟨_,q⟩:=x a _ r
  exact q
def Mut:Option HO->Prop
 | some (.lst _)=>True
 | some (.dK _)=>True
 | some (.dT _)=>True
 | some (.set _ _)=>True
 | some (.ins _ _ _)=>True
 | some (.ext _)=>True
 | _=>False
section
variable {P:Program}{w:World}{H:Hp}{h h':Heap}{x e:Addr}{o':HO}
theorem HOk.write (ok:HOk P w H h)(mu:Mut (H x))(he:e=x\/H e=some (.own x))(k:∀b u,b≠e->h.get? b=some u->h'.get? b=some u)(heo:∃u,h'.get? e=some u)
  (new:ObjOk P w (upd H x o') h' x o'):HOk P w (upd H x o') h':=fun b u q=>by
 have nown:∀c y,H c=some (.own y)->c≠x:=fun c y r z=>by subst z;rw[r] at mu;exact mu
 have ntup:∀c xs,H c=some (.tup xs)->c≠x:=fun c xs r z=>by subst z;rw[r] at mu;exact mu
 by_cases hb:b=x
 .subst hb;rw[zb] at q;cases q;exact new
 .rw[zd hb] at q
  by_cases hbe:b=e
  .have q':H b=some (.own x):=by
    rcases he with z | z
    .exact absurd (hbe.trans z) hb
    .rw[hbe];exact z
   rw[q] at q';cases q'
   obtain ⟨v,hv⟩:=heo
   exact ⟨v,by rw[hbe];exact hv⟩
  .refine (ok b u q).stay (fun c v hc r=>k c v ?_ r) (fun c r=>by rw[zd (nown c b r)];exact r) fun c xs r=>by rw[zd (ntup c xs r)];exact r
   rcases hc with rfl | hc
   .exact hbe
   .rintro rfl
    rcases he with z | z
    .exact nown c b hc z
    .rw[hc] at z;cases z;exact hb rfl
end
structure Un (fs ex:List Addr)(H H':Hp)(h h':Heap):Prop where
 keep:∀b o,h.get? b=some o->H b=none->b∉fs->b∉ex->h'.get? b=some o
 slot:∀b o,h.get? b=some o->H b=none->b∈fs->b∉ex->∃sl,h'.get? b=some { o with slots:=sl }
 free:∀b o,h.get? b=some o->H b=none->b∉ex->H' b=none
 there:∀b o,h.get? b=some o->b∉ex->∃o',h'.get? b=some o'
 tups:∀b xs,H b=some (.tup xs)->H' b=some (.tup xs)
 frzs:∀b o u,H b=some (.frz o u)->H' b=some (.frz o u)
 tbls:∀b ps,H b=some (.tbl ps)->∃more,H' b=some (.tbl (ps++more))
section
variable {fs ex:List Addr}{H H1:Hp}{h h1 h':Heap}{a x e:Addr}{o:HO}
theorem Un.any (u:Un fs ex H H1 h h1){b:Addr}{ob:Obj}(q:h.get? b=some ob)(n:H b=none)(hx:b∉ex):∃sl,h1.get? b=some { ob with slots:=sl }:=by
 by_cases hb:b∈fs
 .exact u.slot b ob q n hb hx
 .exact ⟨ob.slots,u.keep b ob q n hb hx⟩
theorem Un.kept (k:∀b u,h.get? b=some u->h'.get? b=some u):Un fs ex H H h h' :=
 ⟨fun b ob q _ _ _=>k b ob q,fun b ob q _ _ _=>⟨ob.slots,k b ob q⟩,fun _ _ _ n _=>n,fun b ob q _=>⟨ob,k b ob q⟩,fun _ _ q=>q,fun _ _ _ q=>q,fun _ ps q=>⟨#[],by rw[q];simp⟩⟩
theorem Un.refl:Un fs ex H H h h:=Un.kept fun _ _ q=>q
theorem Un.laid (k:∀b u,h.get? b=some u->h'.get? b=some u)(hp:h.objs.size<=a)(hn:H a=none):Un fs ex H (upd H a o) h h' where
 keep:=fun b u q _ _ _=>k b u q
 slot:=fun b u q _ _ _=>⟨u.slots,k b u q⟩
 free:=fun b u q n _=>by rw[zd (Nat.ne_of_lt (Nat.lt_of_lt_of_le (Heap.lt_size q) hp))];exact n
 there:=fun b u q _=>⟨u,k b u q⟩
 tups:=fun b xs q=>by rw[zd (zv q hn)];exact q
 frzs:=fun b u xs q=>by rw[zd (zv q hn)];exact q
 tbls:=fun b ps q=>⟨#[],by rw[zd (zv q hn),q];simp⟩
theorem Un.write (mu:Mut (H x))(he:e=x\/H e=some (.own x))(k:∀b u,b≠e->h.get? b=some u->h'.get? b=some u)(heo:∃u,h'.get? e=some u):Un fs ex H (upd H x o) h h':=by
 have hx:∀b,H b=none->b≠x:=fun b n z=>by subst z;rw[n] at mu;exact mu
 have hb:∀b,H b=none->b≠e:=fun b n z=>by
  subst z
  rcases he with r | r
  .exact hx b n r
  .rw[n] at r;cases r
 have hm:∀b u,H b=some u->¬ Mut (some u)->b≠x:=fun b u q nm z=>by subst z;rw[q] at mu;exact nm mu
 refine ⟨fun b u q n _ _=>k b u (hb b n) q,fun b u q n _ _=>⟨u.slots,k b u (hb b n) q⟩,fun b u q n _=>by rw[zd (hx b n)];exact n,fun b u q _=>?_,
  fun b xs q=>by rw[zd (hm b _ q fun z=>z)];exact q,fun b u xs q=>by rw[zd (hm b _ q fun z=>z)];exact q,fun b ps q=>⟨#[],by rw[zd (hm b _ q fun z=>z),q];simp⟩⟩
 by_cases hbe:b=e
 .subst hbe;exact heo
 .exact ⟨u,k b u hbe q⟩
end
noncomputable def trk (h:Heap)(H:Hp):List Addr:=(List.range h.objs.size).filter fun a=>(H a).isSome
noncomputable def kY (h:Heap)(H:Hp):Heap:=PySem.W.hideAll h (trk h H)
theorem zaO (h:Heap)(H:Hp):(kY h H).objs.size=h.objs.size:=PySem.W.hideAll_size _ _
theorem zbs {h:Heap}{H:Hp}{b:Addr}{o:Obj}(e:h.get? b=some o)(n:H b=none):(kY h H).get? b=some o :=
 PySem.W.hideAll_get _ e fun hm=>by
  have q:(H b).isSome=true:=(List.mem_filter.mp hm).2
  rw[n] at q;simp at q
theorem zc3 {h:Heap}{H:Hp}{b:Addr}{o:Obj}(e:(kY h H).get? b=some o):h.get? b=some o/\H b=none:=by
 have e':h.get? b=some o:=PySem.W.of_hideAll (trk h H) e
 refine ⟨e',?_⟩
 cases q:H b with
 | none=>rfl
 | some x =>
  have hm:b∈trk h H:=List.mem_filter.mpr ⟨List.mem_range.mpr (Heap.lt_size e'),by simp[q]⟩
  have z:(kY h H).get? b=none:=PySem.W.hideAll_none (trk h H) hm
  rw[z] at e;cases e
structure Mod (K:PySem.W.Frag)(mg:Str->Option Value)(base:Heap):Prop where
 kin:K.In base
 glob:base.Ns mainGlobals mg
 blt:∃mb,base.Ns builtinsNs mb/\∀x:Str,x ≠ "__name__" -> mb x=bootBuiltins x
 nolimit:base.NoLimit
set_option genInjectivity false in
structure Cx where
 prog:Program
 w:World
 K:PySem.W.Frag
 mg:Str->Option Value
 base:Heap
 A:Around
 N:List Str
 s₀:Shared
 H₀:Hp
 env:Env
 outer:List Env
 stack:List Env
 ex:List Addr
 fn:Str->Bool
 calm:Bool
 pn:List (Addr×Obj)
 xe:Value->Shared->Prop
noncomputable def frs (l:List Env):List Addr:=l.filterMap (·.frame)
noncomputable abbrev Cx.fs (X:Cx):List Addr:=frs X.outer
def Vis (sc:Scope)(x:Str):Prop:=sc.names.lookup x=some .local\/sc.names.lookup x=some .cell\/sc.names.lookup x=some .free
def Loc (sc:Scope)(x:Str):Prop:=sc.names.lookup x=some .local\/sc.names.lookup x=some .cell
def Look (env:Env)(h:Heap)(m:Str->Option Value)(x:Str)(u:Value):Prop :=
 (env.kindOf x=some .local/\m x=some u)\/((env.kindOf x=some .cell\/env.kindOf x=some .free)/\∃c,env.cells.lookup x=some c/\h.IsCell c (some u))
structure Cx.Ok (X:Cx):Prop where
 mod:Mod X.K X.mg X.base
 kind:X.env.scope.kind=.function
 glob:X.env.globals=mainGlobals
 blt:X.env.builtins=builtinsNs
 above:X.s₀.heap.objs.size<=X.env.locals
 inj:∀x y c,X.env.cells.lookup x=some c->X.env.cells.lookup y=some c->x=y
 has:∀x,(X.env.kindOf x=some .cell\/X.env.kindOf x=some .free)->∃c,X.env.cells.lookup x=some c
 cab:∀x c,X.fn x=true->X.env.cells.lookup x=some c->X.s₀.heap.objs.size<=c
 hd:X.calm=true->X.A.handled=none
 frames:X.A.frames=some X.stack
 stk:X.stack=X.outer\/(X.stack=X.env::X.outer/\X.env.frame=some X.env.locals)
 exf:∀b∈X.ex,b≠X.env.locals/\∀x c,X.env.cells.lookup x=some c->c≠b
 bs:∀b o,X.base.get? b=some o->X.s₀.heap.get? b=some o/\X.H₀ b=none
 bsz:X.base.objs.size<=X.s₀.heap.objs.size
 noex:∀b o,X.base.get? b=some o->b∉X.ex
 exfs:∀b∈X.ex,b∉X.fs
 funs:X.s₀.heap.FunFrames X.base X.outer
 frf:∀b∈X.fs,X.H₀ b=none
structure Inv (X:Cx)(pins:List (Addr×Obj))(σ:List (Option V))(H:Hp)(s:Shared):Prop where
 ok:X.Ok
 os:s.os=X.s₀.os
 bare:AllBare s.gens
 base:Un X.fs X.ex X.H₀ H X.s₀.heap s.heap
 loc:∃m,s.heap.Ns X.env.locals m/\∀ (i:Nat) (x:Str) (v:V),X.N[i]?=some x->σ[i]?=some (some v)->Vis X.env.scope x->∃u,RelV v u/\Look X.env s.heap m x u
 cell:∀x c,X.env.cells.lookup x=some c->∃v,s.heap.IsCell c v
 free:H X.env.locals=none
 freeC:∀x c,X.env.cells.lookup x=some c->H c=none
 pin:∀p∈X.pn++pins,s.heap.get? p.1=some p.2/\H p.1=none/\p.1≠X.env.locals/\p.1∉X.fs/\∀v,p.2.data≠.cell v
 hok:HOk X.prog X.w H s.heap
 len:σ.length=X.N.length
section
variable {X:Cx}{pins:List (Addr×Obj)}{σ:List (Option V)}{H H':Hp}{s:Shared}{h':Heap}
theorem Cx.Ok.nofr (ok:X.Ok){b:Addr}{o:Obj}(e:X.base.get? b=some o):b∉X.fs:=fun hb=>by
 have:=(ok.funs.mem hb).1
 rw[e] at this;cases this
theorem Inv.bs (I:Inv X pins σ H s):∀b o,X.base.get? b=some o->s.heap.get? b=some o/\H b=none:=fun b o e =>
 ⟨I.base.keep b o (I.ok.bs b o e).1 (I.ok.bs b o e).2 (I.ok.nofr e) (I.ok.noex b o e),I.base.free b o (I.ok.bs b o e).1 (I.ok.bs b o e).2 (I.ok.noex b o e)⟩
theorem Inv.bk (I:Inv X pins σ H s):∀b o,X.base.get? b=some o->s.heap.get? b=some o:=fun b o e=>(I.bs b o e).1
theorem Inv.mod (I:Inv X pins σ H s):Mod X.K X.mg X.base:=I.ok.mod
theorem Inv.kIn (I:Inv X pins σ H s):X.K.In s.heap:=I.ok.mod.kin.keeps I.bk
theorem Inv.lt (I:Inv X pins σ H s):X.env.locals < s.heap.objs.size:=let ⟨_,hn,_⟩:=I.loc;hn.lt
theorem Inv.sz (I:Inv X pins σ H s):X.s₀.heap.objs.size<=s.heap.objs.size:=Nat.le_trans I.ok.above (Nat.le_of_lt I.lt)
theorem Inv.nofs (I:Inv X pins σ H s){a:Addr}(h:s.heap.objs.size<=a):a∉X.fs:=fun hb=>by
 obtain ⟨_,o,ho,_⟩:=I.ok.funs.mem hb
 exact absurd (Nat.lt_of_lt_of_le (Heap.lt_size ho) (Nat.le_trans I.sz h)) (Nat.lt_irrefl _)
theorem Inv.cne (I:Inv X pins σ H s):∀x c,X.env.cells.lookup x=some c->c≠X.env.locals:=fun x c e z=>by
 obtain ⟨v,o,ho,hd⟩:=I.cell x c e
 obtain ⟨m,⟨o',es,ep,ho',hd',_⟩,_⟩:=I.loc
 rw[z,ho'] at ho;cases ho;rw[hd'] at hd;cases hd
theorem Inv.funs (I:Inv X pins σ H s):s.heap.FunFrames X.base X.outer:=by
 have all:∀ (l:List Env),(∀b∈frs l,b∈X.fs)->X.s₀.heap.FunFrames X.base l->s.heap.FunFrames X.base l:=by
  intro l
  induction l with
  | nil=>intro _ _;trivial
  | cons env r ih =>
   intro hs hl
   obtain ⟨hk,⟨L,o,hf,hn,ho,hd⟩,hr⟩:=hl
   have hL:L∈X.fs:=hs L (by unfold frs;rw[List.filterMap_cons,hf];exact List.mem_cons_self)
   obtain ⟨sl,e⟩:=I.base.slot L o ho (I.ok.frf L hL) hL fun z=>I.ok.exfs L z hL
   exact ⟨hk,⟨L,_,hf,hn,e,hd⟩,ih (fun b hb=>hs b (by unfold frs;rw[List.filterMap_cons,hf];exact List.mem_cons_of_mem _ hb)) hr⟩
 exact all X.outer (fun _ hb=>hb) I.ok.funs
theorem Inv.stack (I:Inv X pins σ H s):s.heap.FunFrames X.base X.stack:=by
 rcases I.ok.stk with e | ⟨e,hf⟩
 .rw[e];exact I.funs
 .rw[e]
  obtain ⟨m,hn,_⟩:=I.loc
  refine .cons (by rw[I.ok.kind];decide) hf hn ?_ I.funs
  exact Heap.get?_none_of_le (Nat.le_trans I.ok.bsz I.ok.above)
theorem Inv.stkSub (I:Inv X pins σ H s):∀b∈frs X.stack,b∈X.env.locals::X.fs:=fun b hb=>by
 rcases I.ok.stk with e | ⟨e,hf⟩
 .rw[e] at hb;exact List.mem_cons_of_mem _ hb
 .rw[e] at hb
  unfold frs at hb
  rw[List.filterMap_cons,hf] at hb
  exact hb
theorem Inv.stkFree (I:Inv X pins σ H s):∀b∈frs X.stack,H b=none:=fun b hb=>by
 rcases List.mem_cons.mp (I.stkSub b hb) with e | hb
 .rw[e];exact I.free
 .obtain ⟨_,o,ho,_⟩:=I.ok.funs.mem hb
  exact I.base.free b o ho (I.ok.frf b hb) fun z=>I.ok.exfs b z hb
theorem Inv.step {g':Array GenState}{t':Nat}{d':Drawn}{ch:List Addr}(I:Inv X pins σ H s)
  (hch:∀b∈ch,(b∈X.ex\/X.s₀.heap.objs.size<=b)/\b≠X.env.locals/\(∀x c,X.env.cells.lookup x=some c->c≠b)/\∀p∈X.pn++pins,p.1≠b)
  (keep:∀b o,b≠X.env.locals->b∉X.fs->b∉ch->s.heap.get? b=some o->H b=none->h'.get? b=some o)
  (slot:∀b o,b≠X.env.locals->b∈X.fs->b∉ch->s.heap.get? b=some o->H b=none->∃sl,h'.get? b=some { o with slots:=sl }) (free:∀b o,b∉ch->s.heap.get? b=some o->H b=none->H' b=none)
  (there:∀b o,b∉ch->s.heap.get? b=some o->∃o',h'.get? b=some o')
  (tups:∀b xs,H b=some (.tup xs)->H' b=some (.tup xs)) (frzs:∀b o u,H b=some (.frz o u)->H' b=some (.frz o u)) (tbls:∀b ps,H b=some (.tbl ps)->∃more,H' b=some (.tbl (ps++more)))
  (ns:∀m,s.heap.Ns X.env.locals m->h'.Ns X.env.locals m) (hok:HOk X.prog X.w H' h') (hg:AllBare g') :
  Inv X pins σ H' { s with heap:=h',gens:=g',drawn:=d',toks:=t' }:=by
 have neL:∀b o,X.s₀.heap.get? b=some o->b≠X.env.locals:=fun b o e=>Nat.ne_of_lt (Nat.lt_of_lt_of_le (Heap.lt_size e) I.ok.above)
 have neC:∀b o,X.s₀.heap.get? b=some o->b∉X.ex->b∉ch:=fun b o e hx hb=>by
  rcases (hch b hb).1 with z | z
  .exact hx z
  .exact absurd (Nat.lt_of_lt_of_le (Heap.lt_size e) z) (Nat.lt_irrefl _)
 have cellK:∀x c,X.env.cells.lookup x=some c->∀v,s.heap.IsCell c v->h'.IsCell c v:=fun x c e v ⟨o,ho,hd⟩=>by
  have nch:c∉ch:=fun z=>(hch c z).2.2.1 x c e rfl
  by_cases hc:c∈X.fs
  .obtain ⟨sl,q⟩:=slot c o (I.cne x c e) hc nch ho (I.freeC x c e)
   exact ⟨_,q,hd⟩
  .exact ⟨o,keep c o (I.cne x c e) hc nch ho (I.freeC x c e),hd⟩
 refine ⟨I.ok,I.os,hg,⟨fun b o e n hb hx=>?_,fun b o e n hb hx=>?_,fun b o e n hx=>?_,fun b o e hx=>?_,fun b xs e=>tups b xs (I.base.tups b xs e),fun b o xs e=>frzs b o xs (I.base.frzs b o xs e),fun b ps e=>?_⟩,?_,fun x c e=>?_,?_,fun x c e=>?_,fun p hp=>?_,hok,I.len⟩
 .exact keep b o (neL b o e) hb (neC b o e hx) (I.base.keep b o e n hb hx) (I.base.free b o e n hx)
 .obtain ⟨sl,e1⟩:=I.base.slot b o e n hb hx
  obtain ⟨sl',e2⟩:=slot b _ (neL b o e) hb (neC b o e hx) e1 (I.base.free b o e n hx)
  exact ⟨sl',e2⟩
 .obtain ⟨o',e1⟩:=I.base.there b o e hx
  exact free b o' (neC b o e hx) e1 (I.base.free b o e n hx)
 .obtain ⟨o',e1⟩:=I.base.there b o e hx
  exact there b o' (neC b o e hx) e1
 .obtain ⟨m1,e1⟩:=I.base.tbls b ps e
  obtain ⟨m2,e2⟩:=tbls b _ e1
  exact ⟨m1++m2,by rw[e2,Array.append_assoc]⟩
 .obtain ⟨m,hn,hl⟩:=I.loc
  refine ⟨m,ns m hn,fun i x v e1 e2 e3=>?_⟩
  obtain ⟨u,r,l⟩:=hl i x v e1 e2 e3
  refine ⟨u,r,?_⟩
  rcases l with l | ⟨k,c,e,z⟩
  .exact .inl l
  .exact .inr ⟨k,c,e,cellK x c e _ z⟩
 .obtain ⟨v,z⟩:=I.cell x c e
  exact ⟨v,cellK x c e v z⟩
 .obtain ⟨m,⟨o,_,_,ho,_⟩,_⟩:=I.loc
  exact free _ o (fun z=>(hch _ z).2.1 rfl) ho I.free
 .obtain ⟨v,o,ho,hd⟩:=I.cell x c e
  exact free c o (fun z=>(hch c z).2.2.1 x c e rfl) ho (I.freeC x c e)
 .obtain ⟨e,n,ne,nf,d⟩:=I.pin p hp
  have nch:p.1∉ch:=fun z=>(hch p.1 z).2.2.2 p hp rfl
  exact ⟨keep p.1 p.2 ne nf nch e n,free p.1 p.2 nch e n,ne,nf,d⟩
theorem Inv.un {t':Nat}(I:Inv X pins σ H s)(u:Un X.fs [] H H' s.heap h')(hok:HOk X.prog X.w H' h'):Inv X pins σ H' { s with heap:=h',toks:=t' }:=by
 obtain ⟨m,⟨o,es,ep,ho,r⟩,_⟩:=id I.loc
 obtain ⟨sl,hL⟩:=u.any ho I.free (by simp)
 exact I.step (g':=s.gens) (d':=s.drawn) (ch:=[]) (fun _ z=>nomatch z) (fun b o _ hb _ e n=>u.keep b o e n hb (by simp)) (fun b o _ hb _ e n=>u.slot b o e n hb (by simp)) (fun b o _ e n=>u.free b o e n (by simp)) (fun b o _ e=>u.there b o e (by simp)) u.tups u.frzs u.tbls (fun m' hm=>by
  obtain ⟨o',es',ep',ho',r'⟩:=hm
  rw[ho] at ho';cases ho'
  exact ⟨_,es',ep',hL,r'⟩) hok I.bare
theorem Inv.call {g':Array GenState}{t':Nat}{d':Drawn}{ch:List Addr}(I:Inv X pins σ H s)(u:Un (frs X.stack) ch H H' s.heap h')(hok:HOk X.prog X.w H' h')(hg:AllBare g')
  (hch:∀b∈ch,(b∈X.ex\/X.s₀.heap.objs.size<=b)/\b≠X.env.locals/\(∀x c,X.env.cells.lookup x=some c->c≠b)/\∀p∈X.pn++pins,p.1≠b) :
  Inv X pins σ H' { s with heap:=h',gens:=g',drawn:=d',toks:=t' }:=by
 obtain ⟨m,⟨o,es,ep,ho,r⟩,_⟩:=id I.loc
 obtain ⟨sl,hL⟩:=u.any ho I.free fun z=>(hch _ z).2.1 rfl
 exact I.step (ch:=ch) hch (fun b o hL hb hc e n=>u.keep b o e n (fun z=>(List.mem_cons.mp (I.stkSub b z)).elim hL hb) hc) (fun b o _ _ hc e n=>u.any e n hc) (fun b o hc e n=>u.free b o e n hc) (fun b o hc e=>u.there b o e hc) u.tups u.frzs u.tbls (fun m' hm=>by
  obtain ⟨o',es',ep',ho',r'⟩:=hm
  rw[ho] at ho';cases ho'
  exact ⟨_,es',ep',hL,r'⟩) hok hg
theorem Inv.turned {t':Nat}{it:Addr}(I:Inv X pins σ H s)(k:∀b o,b≠it->s.heap.get? b=some o->h'.get? b=some o)(hn:H it=none)(hL:it≠X.env.locals)
  (h1:it∈X.ex\/X.s₀.heap.objs.size<=it) (h2:∀x c,X.env.cells.lookup x=some c->c≠it) (h3:∀p∈X.pn++pins,p.1≠it):Inv X pins σ H { s with heap:=h',toks:=t' }:=by
 have nit:∀b u,H b=some u->b≠it:=fun b u e z=>by rw[z,hn] at e;cases e
 refine I.step (g':=s.gens) (d':=s.drawn) (ch:=[it]) (fun b hb=>?_) (fun b o _ _ hc e _=>k b o (fun z=>hc (by simp[z])) e) (fun b o _ _ hc e _=>⟨o.slots,k b o (fun z=>hc (by simp[z])) e⟩) (fun _ _ _ _ n=>n)
  (fun b o hc e=>⟨o,k b o (fun z=>hc (by simp[z])) e⟩) (fun _ _ e=>e) (fun _ _ _ e=>e) (fun b ps e=>⟨#[],by rw[e];simp⟩) (fun m hm=>?_) (fun b u e=>?_) I.bare
 .have e:b=it:=by simpa using hb
  subst e
  exact ⟨h1,hL,h2,h3⟩
 .obtain ⟨o,es,ep,ho,r⟩:=hm
  exact ⟨o,es,ep,k _ o (Ne.symm hL) ho,r⟩
 .refine (I.hok b u e).stay (fun c v hc q=>k c v ?_ q) (fun _ q=>q) fun _ _ q=>q
  rcases hc with z | z
  .rw[z];exact nit b u e
  .exact nit c _ z
theorem Inv.tok (I:Inv X pins σ H s)(t:Nat):Inv X pins σ H { s with toks:=t }:=I.un (h':=s.heap) (t':=t) Un.refl I.hok
theorem Inv.kept {t':Nat}(I:Inv X pins σ H s)(k:∀b u,s.heap.get? b=some u->h'.get? b=some u):Inv X pins σ H { s with heap:=h',toks:=t' }:=I.un (Un.kept k) (I.hok.kept k)
theorem Inv.laid {a:Addr}{o:HO}{t':Nat}(I:Inv X pins σ H s)(k:∀b u,s.heap.get? b=some u->h'.get? b=some u)(hp:s.heap.objs.size<=a)(new:ObjOk X.prog X.w (upd H a o) h' a o):
  Inv X pins σ (upd H a o) { s with heap:=h',toks:=t' }:=I.un (Un.laid k hp (I.hok.fresh hp)) (I.hok.laid k hp new)
theorem Inv.write {x e:Addr}{o:HO}{t':Nat}(I:Inv X pins σ H s)(mu:Mut (H x))(he:e=x\/H e=some (.own x))(k:∀b u,b≠e->s.heap.get? b=some u->h'.get? b=some u)(heo:∃u,h'.get? e=some u)
  (new:ObjOk X.prog X.w (upd H x o) h' x o):Inv X pins σ (upd H x o) { s with heap:=h',toks:=t' }:=I.un (Un.write mu he k heo) (I.hok.write mu he k heo new)
theorem Inv.pins_of {pins':List (Addr×Obj)}(I:Inv X pins σ H s)(h:∀p∈pins',s.heap.get? p.1=some p.2/\H p.1=none/\p.1≠X.env.locals/\p.1∉X.fs/\∀v,p.2.data≠.cell v):Inv X pins' σ H s :=
 ⟨I.ok,I.os,I.bare,I.base,I.loc,I.cell,I.free,I.freeC,fun p hp=>(List.mem_append.mp hp).elim (fun z=>I.pin p (List.mem_append_left _ z)) (h p),I.hok,I.len⟩
theorem jO {N:List Str}(hN:N.Nodup){i j:Nat}{x:Str}(a:N[i]?=some x)(b:N[j]?=some x):i=j:=by
 obtain ⟨h1,e1⟩:=List.getElem?_eq_some_iff.mp a
 obtain ⟨h2,e2⟩:=List.getElem?_eq_some_iff.mp b
 exact (List.getElem_inj hN).mp (e1.trans e2.symm)
theorem ko {M:Model}{A:Around}{E:Value->Shared->Prop}{i:Nat}{x:Str}{v:V}{u:Value}{Q:Unit->Shared->Prop}(I:Inv X pins σ H s)(hN:X.N.Nodup)(hi:X.N[i]?=some x)(hx:Loc X.env.scope x)(r:RelV v u)
  (h:∀s',Inv X pins (σ.set i (some v)) H s'->(∃a,Heap.SameBut a s.heap s'.heap/\(a=X.env.locals\/X.env.cells.lookup x=some a))->Q () s') (hf:X.fn x=true\/X.env.scope.names.lookup x=some .local:=by first | exact .inl rfl | exact .inr rfl | assumption):wpAny M A (storeName X.env x u) Q E s:=by
 obtain ⟨m,hn,hl⟩:=id I.loc
 have hcls:(X.env.scope.kind == .class || (X.env.scope.kind == .module && X.env.locals != X.env.globals))=false:=by rw[I.ok.kind];rfl
 have hiσ:i < σ.length:=by rw[I.len];exact (List.getElem?_eq_some_iff.mp hi).1
 have cne:=I.cne
 have tracked:∀ {a:Addr}{h':Heap},(∃o,s.heap.get? a=some o/\H a=none)->Heap.SameBut a s.heap h'->HOk X.prog X.w H h':=fun {a h'} ha hs b ob e=>by
  obtain ⟨_,_,hfree⟩:=ha
  refine (I.hok b ob e).stay (fun c w' hc q=>(hs.2 c ?_).trans q) (fun _ q=>q) fun _ _ q=>q
  rintro rfl
  rcases hc with rfl | hc
  .rw[hfree] at e;cases e
  .rw[hfree] at hc;cases hc
 rcases hx with hk | hk
 .refine wpAny_storeName_local hk hn (fun h' hn' hs=>?_) hcls
  obtain ⟨oL,_,_,hoL,_⟩:=id hn
  refine h _ ⟨I.ok,I.os,I.bare,⟨fun b o e n hb hx=>?_,fun b o e n hb hx=>?_,I.base.free,fun b o e hx=>?_,I.base.tups,I.base.frzs,I.base.tbls⟩,⟨_,hn',fun j y v' e1 e2 e3=>?_⟩,fun y c e=>?_,I.free,I.freeC,fun p hp=>?_,tracked ⟨oL,hoL,I.free⟩ hs,by simpa using I.len⟩ ⟨_,hs,.inl rfl⟩
  .exact (hs.2 b (Nat.ne_of_lt (Nat.lt_of_lt_of_le (Heap.lt_size e) I.ok.above))).trans (I.base.keep b o e n hb hx)
  .obtain ⟨sl,e1⟩:=I.base.slot b o e n hb hx
   exact ⟨sl,(hs.2 b (Nat.ne_of_lt (Nat.lt_of_lt_of_le (Heap.lt_size e) I.ok.above))).trans e1⟩
  .obtain ⟨o',e1⟩:=I.base.there b o e hx
   exact ⟨o',(hs.2 b (Nat.ne_of_lt (Nat.lt_of_lt_of_le (Heap.lt_size e) I.ok.above))).trans e1⟩
  .by_cases hj:j=i
   .subst hj
    rw[hi] at e1;cases e1
    rw[List.getElem?_set_self hiσ] at e2
    cases e2
    exact ⟨u,r,.inl ⟨hk,by simp⟩⟩
   .rw[List.getElem?_set_ne (Ne.symm hj)] at e2
    obtain ⟨u',r',q⟩:=hl j y v' e1 e2 e3
    refine ⟨u',r',?_⟩
    rcases q with ⟨k,e⟩ | ⟨k,c,e,z⟩
    .refine .inl ⟨k,?_⟩
     have:y≠x:=fun e=>hj (jO hN e1 (e▸hi))
     simp[this,e]
    .exact .inr ⟨k,c,e,z.sameBut hs (cne y c e)⟩
  .obtain ⟨w',z⟩:=I.cell y c e
   exact ⟨w',z.sameBut hs (cne y c e)⟩
  .obtain ⟨e,n,ne,nf,d⟩:=I.pin p hp
   exact ⟨(hs.2 p.1 ne).trans e,n,ne,nf,d⟩
 .have hfn:X.fn x=true:=by
   rcases hf with z | z
   .exact z
   .rw[z] at hk;cases hk
  obtain ⟨c,hc⟩:=I.ok.has x (.inl hk)
  obtain ⟨w',z⟩:=I.cell x c hc
  refine wpAny_storeName_cell I.ok.kind hk hc z (fun h' hc' hs=>?_)
  obtain ⟨oc,hoc,hocd⟩:=id z
  refine h { s with heap:=h' } ⟨I.ok,I.os,I.bare,⟨fun b o e n hb hx=>?_,fun b o e n hb hx=>?_,I.base.free,fun b o e hx=>?_,I.base.tups,I.base.frzs,I.base.tbls⟩,⟨m,hn.sameBut hs (Ne.symm (cne x c hc)),fun j y v' e1 e2 e3=>?_⟩,fun y c' e=>?_,I.free,I.freeC,fun p hp=>?_,tracked ⟨oc,hoc,I.freeC x c hc⟩ hs,by simpa using I.len⟩ ⟨c,hs,.inr hc⟩
  .exact (hs.2 b (Nat.ne_of_lt (Nat.lt_of_lt_of_le (Heap.lt_size e) (I.ok.cab x c hfn hc)))).trans (I.base.keep b o e n hb hx)
  .obtain ⟨sl,e1⟩:=I.base.slot b o e n hb hx
   exact ⟨sl,(hs.2 b (Nat.ne_of_lt (Nat.lt_of_lt_of_le (Heap.lt_size e) (I.ok.cab x c hfn hc)))).trans e1⟩
  .obtain ⟨o',e1⟩:=I.base.there b o e hx
   exact ⟨o',(hs.2 b (Nat.ne_of_lt (Nat.lt_of_lt_of_le (Heap.lt_size e) (I.ok.cab x c hfn hc)))).trans e1⟩
  .by_cases hj:j=i
   .subst hj
    rw[hi] at e1;cases e1
    rw[List.getElem?_set_self hiσ] at e2
    cases e2
    exact ⟨u,r,.inr ⟨.inl hk,c,hc,hc'⟩⟩
   .rw[List.getElem?_set_ne (Ne.symm hj)] at e2
    obtain ⟨u',r',q⟩:=hl j y v' e1 e2 e3
    refine ⟨u',r',?_⟩
    rcases q with q | ⟨k,c',e,z'⟩
    .exact .inl q
    .refine .inr ⟨k,c',e,z'.sameBut hs ?_⟩
     rintro rfl
     exact hj (jO hN e1 (I.ok.inj _ _ _ e hc▸hi))
  .by_cases hcc:c'=c
   .subst hcc;exact ⟨_,hc'⟩
   .obtain ⟨w2,z2⟩:=I.cell y c' e
    exact ⟨w2,z2.sameBut hs hcc⟩
  .obtain ⟨e,n,ne,nf,d⟩:=I.pin p hp
   refine ⟨(hs.2 p.1 ?_).trans e,n,ne,nf,d⟩
   intro q
   rw[q,hoc] at e
   have q':oc=p.2:=Option.some.inj e
   exact d w' (by rw[<- q'];exact hocd)
theorem jP {M:Model}{A:Around}{E:Value->Shared->Prop}{i:Nat}{x:Str}{v:V}{u:Value}{Q:Unit->Shared->Prop}(I:Inv X pins σ H s)(hN:X.N.Nodup)(hi:X.N[i]?=some x)(hx:Loc X.env.scope x)(r:RelV v u)
  (h:∀s',Inv X pins (σ.set i (some v)) H s'->Q () s') (hf:X.fn x=true\/X.env.scope.names.lookup x=some .local:=by first | exact .inl rfl | exact .inr rfl | assumption):wpAny M A (storeName X.env x u) Q E s :=
 ko I hN hi hx r (fun s' I' _=>h s' I') hf
theorem Inv.call' {s':Shared}{ch:List Addr}(I:Inv X pins σ H s)(ho:s'.os=s.os)(u:Un (frs X.stack) ch H H' s.heap s'.heap)(hok:HOk X.prog X.w H' s'.heap)(hg:AllBare s'.gens)
  (hch:∀b∈ch,(b∈X.ex\/X.s₀.heap.objs.size<=b)/\b≠X.env.locals/\(∀x c,X.env.cells.lookup x=some c->c≠b)/\∀p∈X.pn++pins,p.1≠b):Inv X pins σ H' s':=by
 obtain ⟨h',g',d',t',o'⟩:=s'
 have e:o'=s.os:=ho
 subst e
 exact I.call (g':=g') (t':=t') (d':=d') u hok hg hch
end
abbrev XK:=Value->Option Addr->Hp->Prop
abbrev St:=List (Option V)
abbrev VK:=V->Hp->Prop
abbrev TE:=St->Hp->VK->Prop
abbrev TT:=St->Hp->(Bool->Hp->Prop)->Prop
abbrev TA:=St->Hp->(List V->Hp->Prop)->Prop
set_option genInjectivity false in
structure Ends where
 nx:St->Hp->Prop
 rt:VK
 bk:St->Hp->Prop:=fun _ _=>False
 ct:St->Hp->Prop:=fun _ _=>False
abbrev TS:=Ends->St->Hp->Prop
def EP (X:Cx)(pins:List (Addr×Obj))(σ:St)(Q:VK)(u:Value)(s':Shared):Prop:=∃v H',Inv X pins σ H' s'/\RelV v u/\Q v H'
def TP (X:Cx)(pins:List (Addr×Obj))(σ:St)(Q:Bool->Hp->Prop)(b:Bool)(s':Shared):Prop:=∃H',Inv X pins σ H' s'/\Q b H'
def AP (X:Cx)(pins:List (Addr×Obj))(σ:St)(Q:List V->Hp->Prop)(us:List Value)(s':Shared):Prop:=∃vs H',Inv X pins σ H' s'/\Vals vs us/\Q vs H'
def SP (X:Cx)(pins:List (Addr×Obj))(D:Ends)(f:Flow)(s':Shared):Prop :=
 match f with
 | .next=>∃σ' H',Inv X pins σ' H' s'/\D.nx σ' H'
 | .brk=>∃σ' H',Inv X pins σ' H' s'/\D.bk σ' H'
 | .cont=>∃σ' H',Inv X pins σ' H' s'/\D.ct σ' H'
 | .ret u=>∃v σ' H',Inv X pins σ' H' s'/\RelV v u/\D.rt v H'
def PE (X:Cx)(e:Expr)(t:TE):Prop :=
 ∀ (pins:List (Addr×Obj)) (s:Shared) (σ:St) (H:Hp) (Q:VK),Inv X pins σ H s->t σ H Q->wpAny (model X.prog X.w) X.A (eval e X.env) (EP X pins σ Q) X.xe s
def PT (X:Cx)(e:Expr)(t:TT):Prop :=
 ∀ (pins:List (Addr×Obj)) (s:Shared) (σ:St) (H:Hp) (Q:Bool->Hp->Prop),Inv X pins σ H s->t σ H Q->wpAny (model X.prog X.w) X.A (isTrue e X.env (eval e X.env)) (TP X pins σ Q) X.xe s
def PW (X:Cx)(e:Expr)(t:TT):Prop :=
 ∀ (whole:Sem Value) (pins:List (Addr×Obj)) (s:Shared) (σ:St) (H:Hp) (Q:Bool->Hp->Prop),Inv X pins σ H s->t σ H Q->wpAny (model X.prog X.w) X.A (isTrue e X.env whole) (TP X pins σ Q) X.xe s
theorem PW.pt {X:Cx}{e:Expr}{t:TT}(h:PW X e t):PT X e t:=h _
def PA (X:Cx)(es:List Expr)(t:TA):Prop :=
 ∀ (pos:Pos) (pins:List (Addr×Obj)) (s:Shared) (σ:St) (H:Hp) (Q:List V->Hp->Prop),Inv X pins σ H s->t σ H Q->wpAny (model X.prog X.w) X.A (spliced (backTo pos (starEach es X.env))) (AP X pins σ Q) X.xe s
def PS (X:Cx)(st:Stmt)(t:TS):Prop :=
 ∀ (pins:List (Addr×Obj)) (s:Shared) (σ:St) (H:Hp) (D:Ends),Inv X pins σ H s->t D σ H->wpAny (model X.prog X.w) X.A (exec st X.env) (SP X pins D) X.xe s
def PSs (X:Cx)(st:List Stmt)(t:TS):Prop :=
 ∀ (pins:List (Addr×Obj)) (s:Shared) (σ:St) (H:Hp) (D:Ends),Inv X pins σ H s->t D σ H->wpAny (model X.prog X.w) X.A (execs st X.env) (SP X pins D) X.xe s
theorem thn {α:Type}{t:Sem α}{Q Q':α->Shared->Prop}{M:Model}{A:Around}{E:Value->Shared->Prop}{s:Shared}(h:wpAny M A t Q E s)(hQ:∀a s,Q a s->Q' a s):wpAny M A t Q' E s:=wpAny_mono h hQ fun _ _ x=>x
section
variable {X:Cx}
def tVar (i:Nat):TE:=fun σ H Q=>∃v,σ[i]?=some (some v)/\Q v H
def tC (v:V):TE:=fun _ H Q=>Q v H
theorem zeO {i:Nat}{x:Str}{pos:Pos}(hN:X.N[i]?=some x)(hv:Vis X.env.scope x)(hd:(x == ("__debug__" : Str))=false:=by decide)(hcd:(x == ("__classdict__" : Str))=false:=by decide):PE X (.Name x pos) (tVar i):=by
 intro pins s σ H Q I h
 obtain ⟨v,e,h⟩:=h
 obtain ⟨m,hn,hl⟩:=I.loc
 obtain ⟨u,r,l⟩:=hl i x v hN e hv
 have fin:EP X pins σ Q u s:=⟨v,H,I,r,h⟩
 rcases l with ⟨hk,hm⟩ | ⟨hk,c,hc,hcell⟩
 .exact wpAny_Name (wpAny_loadName_local I.ok.kind hk hn hm fin) hd
 .rcases hk with hk | hk
  .exact wpAny_Name (wpAny_loadName_cell I.ok.kind hk hc hcell fin) hd
  .exact wpAny_Name (wpAny_loadName_free I.ok.kind hk hc hcell fin hcd) hd
theorem zeP {i j pos}:PE X (.Constant (.int i) j pos) (tC (.int i)):=fun _ _ _ H _ I h=>wpAny_Constant_int ⟨.int i,H,I.tok _,⟨_,rfl⟩,h⟩
theorem zgl {b j pos}:PE X (.Constant (.bool b) j pos) (tC (.bl b)):=fun _ _ _ H _ I h=>Constant_bool ⟨.bl b,H,I,rfl,h⟩
def Gl (X:Cx)(x:Str):Prop:=X.env.kindOf x=some .globalImplicit
theorem qQ {E:Value->Shared->Prop}{pins:List (Addr×Obj)}{s:Shared}{σ:St}{H:Hp}{x:Str}{u:Value}{pos:Pos}{Q:Value->Shared->Prop}(I:Inv X pins σ H s)(hg:Gl X x)(hm:X.mg x=some u)(h:Q u s)
  (hd:(x == ("__debug__" : Str))=false:=by decide):wpAny (model X.prog X.w) X.A (eval (.Name x pos) X.env) Q E s :=
 Calls.Name_function_global I.ok.kind hg (Calls.loadGlobal_global (by rw[I.ok.glob];exact I.mod.glob.keeps I.bk) hm h) hd
theorem vn {E:Value->Shared->Prop}{pins:List (Addr×Obj)}{s:Shared}{σ:St}{H:Hp}{x:Str}{u:Value}{pos:Pos}{Q:Value->Shared->Prop}(I:Inv X pins σ H s)(hg:Gl X x)(hm:X.mg x=none)(hv:bootBuiltins x=some u)(h:Q u s)
  (hn:x ≠ "__name__" := by decide) (hd:(x == ("__debug__" : Str))=false:=by decide):wpAny (model X.prog X.w) X.A (eval (.Name x pos) X.env) Q E s:=by
 obtain ⟨mb,h1,h2⟩:=I.mod.blt
 exact Calls.Name_function_global I.ok.kind hg (Calls.loadGlobal_builtin (by rw[I.ok.glob];exact I.mod.glob.keeps I.bk) hm (by rw[I.ok.blt];exact h1.keeps I.bk) ((h2 x hn).trans hv) h) hd
theorem zc4 {x:Str}{v:V}{u:Value}{pos:Pos}(hg:Gl X x)(hm:X.mg x=some u)(r:RelV v u)(hd:(x == ("__debug__" : Str))=false:=by decide):PE X (.Name x pos) (tC v) :=
 fun _ _ _ H _ I h=>qQ I hg hm ⟨v,H,I,r,h⟩ hd
theorem zc5 {x:Str}{v:V}{u:Value}{pos:Pos}(hg:Gl X x)(hm:X.mg x=none)(hv:bootBuiltins x=some u)(r:RelV v u)(hn:x ≠ "__name__" := by decide)(hd:(x == ("__debug__" : Str))=false:=by decide):PE X (.Name x pos) (tC v) :=
 fun _ _ _ H _ I h=>vn I hg hm hv ⟨v,H,I,r,h⟩ hn hd
variable {a b:Expr}{ta tb:TE}{pos:Pos}
def tB (t:TE):TT:=fun σ H Q=>t σ H fun x H1=>∃c,x=.bl c/\Q c H1
theorem zeQ {e:Expr}{t:TE}(h:PE X e t)(he:∀whole,isTrue e X.env whole=(do let v <- whole;standAt e.pos;holding [v] (truthy v)):=by intro _;rfl):PT X e (tB t):=by
 intro pins s σ H Q I hw
 refine isTrue_plain (thn (h pins s σ H _ I hw) fun v s1 ⟨x,H1,I1,r1,q1⟩=>?_) (he _)
 obtain ⟨d,rfl,q⟩:=q1
 cases r1
 exact wpAny_truthy_bool ⟨H1,I1,q⟩
variable {tA tB':TT}{rest:List Expr}
def tAnd (t u:TT):TT:=fun σ H Q=>t σ H fun c H1=>if c=true then u σ H1 Q else Q false H1
def tOr (t u:TT):TT:=fun σ H Q=>t σ H fun c H1=>if c=true then Q true H1 else u σ H1 Q
def tNot (t:TT):TT:=fun σ H Q=>t σ H fun c H1=>Q (!c) H1
theorem zc6 (ha:PT X a tA):PW X (.BoolOp .And [a] pos) tA:=by
 intro wh pins s σ H Q I h
 refine isTrue_and (thn (ha pins s σ H Q I h) fun c s1 e=>?_)
 cases c with
 | true=>exact isTrue_and_nil e
 | false=>exact e
theorem zeR (ha:PT X a tA):PW X (.BoolOp .Or [a] pos) tA:=by
 intro wh pins s σ H Q I h
 refine isTrue_or (thn (ha pins s σ H Q I h) fun c s1 e=>?_)
 cases c with
 | false=>exact isTrue_or_nil e
 | true=>exact e
theorem zeS (ha:PT X a tA)(hb:PW X (.BoolOp .And (b::rest) pos) tB'):PW X (.BoolOp .And (a::b::rest) pos) (tAnd tA tB'):=by
 intro wh pins s σ H Q I h
 refine isTrue_and (thn (ha pins s σ H _ I h) fun c s1 ⟨H1,I1,q1⟩=>?_)
 cases c with
 | true=>exact hb wh pins s1 σ H1 Q I1 q1
 | false=>exact ⟨H1,I1,q1⟩
theorem zgm (ha:PT X a tA)(hb:PW X (.BoolOp .Or (b::rest) pos) tB'):PW X (.BoolOp .Or (a::b::rest) pos) (tOr tA tB'):=by
 intro wh pins s σ H Q I h
 refine isTrue_or (thn (ha pins s σ H _ I h) fun c s1 ⟨H1,I1,q1⟩=>?_)
 cases c with
 | true=>exact ⟨H1,I1,q1⟩
 | false=>exact hb wh pins s1 σ H1 Q I1 q1
theorem zeT (ha:PT X a tA):PT X (.UnaryOp .Not a pos) (tNot tA):=by
 intro pins s σ H Q I h
 exact isTrue_not (ha pins s σ H (fun c H1=>Q (!c) H1) I h)
def zgn (ta tb:TE):TE:=fun σ H Q=>ta σ H fun x H1=>∃c,x=.bl c/\if c=true then tb σ H1 Q else Q (.bl false) H1
def tOrV (ta tb:TE):TE:=fun σ H Q=>ta σ H fun x H1=>∃c,x=.bl c/\if c=true then Q (.bl true) H1 else tb σ H1 Q
def zgo (ta:TE):TE:=fun σ H Q=>ta σ H fun x H1=>∃c,x=.bl c/\Q (.bl (!c)) H1
theorem zbt {op}{t:TE}(h:PE X a t):PE X (.BoolOp op [a] pos) t:=fun pins s σ H Q I hw=>BoolOp_one (h pins s σ H Q I hw)
theorem zeU (ha:PE X a ta)(hb:PE X (.BoolOp .And (b::rest) pos) tb):PE X (.BoolOp .And (a::b::rest) pos) (zgn ta tb):=by
 intro pins s σ H Q I h
 refine BoolOp_and (thn (ha pins s σ H _ I h) fun v s1 ⟨x,H1,I1,r1,q1⟩=>?_)
 obtain ⟨c,rfl,q1⟩:=q1
 cases r1
 refine wpAny_truthy_bool ?_
 cases c with
 | true=>exact hb pins s1 σ H1 Q I1 q1
 | false=>exact ⟨.bl false,H1,I1,rfl,q1⟩
theorem zgp (ha:PE X a ta)(hb:PE X (.BoolOp .Or (b::rest) pos) tb):PE X (.BoolOp .Or (a::b::rest) pos) (tOrV ta tb):=by
 intro pins s σ H Q I h
 refine BoolOp_or (thn (ha pins s σ H _ I h) fun v s1 ⟨x,H1,I1,r1,q1⟩=>?_)
 obtain ⟨c,rfl,q1⟩:=q1
 cases r1
 refine wpAny_truthy_bool ?_
 cases c with
 | false=>exact hb pins s1 σ H1 Q I1 q1
 | true=>exact ⟨.bl true,H1,I1,rfl,q1⟩
theorem zeV (ha:PE X a ta):PE X (.UnaryOp .Not a pos) (zgo ta):=by
 intro pins s σ H Q I h
 refine UnaryOp_ (thn (ha pins s σ H _ I h) fun v s1 ⟨x,H1,I1,r1,q1⟩=>?_)
 obtain ⟨c,rfl,q1⟩:=q1
 cases r1
 exact not_of (wpAny_truthy_bool ⟨.bl (!c),H1,I1,rfl,q1⟩)
end
def SqL (K:PySem.W.Frag)(H:Hp)(a:Addr)(xs:List V):Prop :=
 Rd H a (.lst xs) \/
  ∃ (o:Obj) (its:Array Value) (n:Nat),K.lookup a=some o/\o.cls=.type "list" /\ o.dict=none/\o.data=.seq its n/\its.size<=sizeLine/\Vals xs its.toList
def SqT (K:PySem.W.Frag)(H:Hp)(a:Addr)(xs:List V):Prop :=
 Rd H a (.tup xs) \/
  ∃ (o:Obj) (its:Array Value) (n:Nat),K.lookup a=some o/\o.cls=.type "tuple" /\ o.data=.seq its n/\its.size<=sizeLine/\Vals xs its.toList
noncomputable def absV:Value->Option V
 | .none=>some .non
 | .bool b=>some (.bl b)
 | .int i _=>some (.int i)
 | .str x _=>some (.str x)
 | .bytes b _=>some (.byt b)
 | .float b _=>some (.flt b)
 | .ref a=>some (.ref a)
 | .type n=>some (.ty n)
 | _=>none
theorem RelV.abs {x:V}{u:Value}(r:RelV x u):absV u=some x:=by
 cases x with
 | non=>cases r;rfl
 | bl _=>cases r;rfl
 | int _=>obtain ⟨t,rfl⟩:=r;rfl
 | str _=>obtain ⟨t,rfl⟩:=r;rfl
 | byt _=>obtain ⟨t,rfl⟩:=r;rfl
 | flt _=>obtain ⟨t,rfl⟩:=r;rfl
 | ref _=>cases r;rfl
 | ty _=>cases r;rfl
theorem RelV.inj {x y:V}{u:Value}(r:RelV x u)(q:RelV y u):x=y:=Option.some.inj (r.abs.symm.trans q.abs)
theorem Vals.inj:∀ {xs ys:List V}{us:List Value},Vals xs us->Vals ys us->xs=ys
 | _,_,_,.nil,.nil=>rfl
 | _,_,_,.cons r t,.cons r' t'=>by rw[r.inj r',Vals.inj t t']
section
variable {X:Cx}{pins:List (Addr×Obj)}{σ:St}{H:Hp}{s:Shared}{a:Addr}{xs ys:List V}
theorem SqL.of {K:PySem.W.Frag}(h:H a=some (.lst xs)):SqL K H a xs:=.inl (.inl h)
theorem SqT.of {K:PySem.W.Frag}(h:H a=some (.tup xs)):SqT K H a xs:=.inl (.inl h)
theorem Inv.list (I:Inv X pins σ H s)(h:SqL X.K H a xs):∃its:List Value,Vals xs its/\PlainL s.heap a its.toArray/\xs.length<=sizeLine:=by
 rcases h with h | ⟨o,its,n,hk,hc,hd,hs,hz,r⟩
 .obtain ⟨z,its,n,r,e⟩:=h.ok I.hok
  exact ⟨its,r,⟨_,n,e,rfl,rfl,rfl⟩,z⟩
 .refine ⟨its.toList,r,⟨o,n,I.kIn a o hk,hc,hd,by simpa using hs⟩,?_⟩
  have e:=r.length
  simp only[Array.length_toList] at e
  lia
theorem Inv.tuple (I:Inv X pins σ H s)(h:SqT X.K H a xs):∃its:List Value,Vals xs its/\IsTup s.heap a its.toArray/\xs.length<=sizeLine:=by
 rcases h with h | ⟨o,its,n,hk,hc,hs,hz,r⟩
 .obtain ⟨z,its,r,p⟩:=h.ok I.hok
  exact ⟨its,r,p,z⟩
 .refine ⟨its.toList,r,⟨o,I.kIn a o hk,hc,n,by simpa using hs⟩,?_⟩
  have e:=r.length
  simp only[Array.length_toList] at e
  lia
theorem Inv.list_inj (I:Inv X pins σ H s)(h:SqL X.K H a xs)(h':SqL X.K H a ys):xs=ys:=by
 obtain ⟨its,r,⟨o,n,e,_,_,d⟩,_⟩:=I.list h
 obtain ⟨its',r',⟨o',n',e',_,_,d'⟩,_⟩:=I.list h'
 rw[e] at e';cases e'
 rw[d] at d'
 injection d' with d1 _
 have:its=its':=by simpa using congrArg Array.toList d1
 subst this
 exact r.inj r'
theorem Inv.tuple_inj (I:Inv X pins σ H s)(h:SqT X.K H a xs)(h':SqT X.K H a ys):xs=ys:=by
 obtain ⟨its,r,⟨o,e,_,n,d⟩,_⟩:=I.tuple h
 obtain ⟨its',r',⟨o',e',_,n',d'⟩,_⟩:=I.tuple h'
 rw[e] at e';cases e'
 rw[d] at d'
 injection d' with d1 _
 have:its=its':=by simpa using congrArg Array.toList d1
 subst this
 exact r.inj r'
end
noncomputable abbrev Cx.wish (X:Cx)(E:Value->Shared->Prop):Cx:={ X with xe:=E }
noncomputable abbrev Cx.nox (X:Cx):Cx:=X.wish fun _ _=>False
theorem Cx.Ok.wish {X:Cx}(ok:X.Ok)(E:Value->Shared->Prop):(X.wish E).Ok :=
 ⟨ok.mod,ok.kind,ok.glob,ok.blt,ok.above,ok.inj,ok.has,ok.cab,ok.hd,ok.frames,ok.stk,ok.exf,ok.bs,ok.bsz,ok.noex,ok.exfs,ok.funs,ok.frf⟩
theorem Cx.Ok.unwish {X:Cx}{E:Value->Shared->Prop}(ok:(X.wish E).Ok):X.Ok :=
 ⟨ok.mod,ok.kind,ok.glob,ok.blt,ok.above,ok.inj,ok.has,ok.cab,ok.hd,ok.frames,ok.stk,ok.exf,ok.bs,ok.bsz,ok.noex,ok.exfs,ok.funs,ok.frf⟩
section
variable {X:Cx}{pins:List (Addr×Obj)}{σ:St}{H:Hp}{s:Shared}{E:Value->Shared->Prop}
theorem Inv.wish (I:Inv X pins σ H s)(E:Value->Shared->Prop):Inv (X.wish E) pins σ H s:=⟨I.ok.wish E,I.os,I.bare,I.base,I.loc,I.cell,I.free,I.freeC,I.pin,I.hok,I.len⟩
theorem Inv.unwish (I:Inv (X.wish E) pins σ H s):Inv X pins σ H s:=⟨I.ok.unwish,I.os,I.bare,I.base,I.loc,I.cell,I.free,I.freeC,I.pin,I.hok,I.len⟩
theorem SP.unwish {D:Ends}{f:Flow}{s':Shared}(h:SP (X.wish E) pins D f s'):SP X pins D f s':=by
 cases f with
 | next=>obtain ⟨σ',H',I,q⟩:=h;exact ⟨σ',H',I.unwish,q⟩
 | brk=>obtain ⟨σ',H',I,q⟩:=h;exact ⟨σ',H',I.unwish,q⟩
 | cont=>obtain ⟨σ',H',I,q⟩:=h;exact ⟨σ',H',I.unwish,q⟩
 | ret u=>obtain ⟨v,σ',H',I,r,q⟩:=h;exact ⟨v,σ',H',I.unwish,r,q⟩
theorem PSs.nox {st:List Stmt}{t:TS}(h:PSs X.nox st t):PSs X st t:=fun pins s σ H D I hw =>
 wpAny_mono (h pins s σ H D (I.wish _) hw) (fun _ _ q=>q.unwish) fun _ _ z=>False.elim z
end
section
variable {X:Cx}{st:Stmt}{rest:List Stmt}{t u:TS}{e:Expr}{te:TE}{pos:Pos}
def zgq:TS:=fun D σ H=>D.nx σ H
def tSeq (t u:TS):TS:=fun D σ H=>t { D with nx:=u D } σ H
theorem zc7:PSs X [] zgq:=fun _ _ σ H _ I h=>wpAny_execs_nil ⟨σ,H,I,h⟩
set_option tactic.hygienic true in
theorem zbu (h1:PS X st t)(h2:PSs X rest u):PSs X (st::rest) (tSeq t u):=by
 intro pins s σ H D I h
 refine wpAny_execs_cons (thn (h1 pins s σ H { D with nx:=u D } I h) fun f s1 q=>?_)
 cases f with
 | next =>
  obtain ⟨σ',H',I',q⟩:=q
  exact h2 pins s1 σ' H' D I' q
 | ret v=>exact q
 | brk=>exact q
 | cont=>exact q
theorem zc8 (h1:PS X st t):PSs X [st] t:=by
 intro pins s σ H D I h
 refine wpAny_execs_cons (thn (h1 pins s σ H D I h) fun f s1 q=>?_)
 cases f with
 | next=>exact wpAny_execs_nil q
 | ret v=>exact q
 | brk=>exact q
 | cont=>exact q
theorem Inv.quiet {pins:List (Addr×Obj)}{σ:St}{H:Hp}{s:Shared}(I:Inv X pins σ H s):interactive X.env=false:=by simp[interactive,I.ok.kind]
def zgr (te:TE):TS:=fun D σ H=>te σ H fun _ H1=>D.nx σ H1
theorem zc9 (he:PE X e te)(hs:swapsWith e none pos.line X.env=pure false:=by rfl):PS X (.Expr e pos) (zgr te):=by
 intro pins s σ H D I h
 exact wpAny_Expr_any (thn (he pins s σ H _ I h) fun v s1 ⟨x,H1,I1,r1,q1⟩=>⟨σ,H1,I1,q1⟩) I.quiet hs
def tRet (te:TE):TS:=fun D σ H=>te σ H D.rt
theorem zeW (he:PE X e te):PS X (.Return (some e) pos) (tRet te):=by
 intro pins s σ H D I h
 exact wpAny_Return_some (thn (he pins s σ H _ I h) fun v s1 ⟨x,H1,I1,r1,q1⟩=>⟨x,σ,H1,I1,r1,q1⟩)
def tIfS (c:TT)(t u:TS):TS:=fun D σ H=>c σ H fun b H1=>if b=true then t D σ H1 else u D σ H1
theorem zgs {c:Expr}{a b:List Stmt}{tc:TT}(hc:PT X c tc)(ha:PSs X a t)(hb:PSs X b u):PS X (.If c a b pos) (tIfS tc t u):=by
 intro pins s σ H D I h
 refine wpAny_If (thn (hc pins s σ H _ I h) fun d s1 ⟨H1,I1,q1⟩=>?_)
 cases d with
 | true=>exact ha pins s1 σ H1 D I1 q1
 | false=>exact hb pins s1 σ H1 D I1 q1
def zeX:TS:=fun _ _ _=>False
theorem zbv:PS X st zeX:=fun _ _ _ _ _ _ h=>h.elim
end
abbrev TG:=V->St->Hp->(St->Hp->Prop)->Prop
abbrev TGs:=List V->St->Hp->(St->Hp->Prop)->Prop
def PG (X:Cx)(target:Expr)(t:TG):Prop :=
 ∀ (pins:List (Addr×Obj)) (s:Shared) (σ:St) (H:Hp) (v:V) (u:Value) (Q:St->Hp->Prop),Inv X pins σ H s->RelV v u->t v σ H Q ->
  wpAny (model X.prog X.w) X.A (assign target X.env u) (fun _ s'=>∃σ' H',Inv X pins σ' H' s'/\Q σ' H') X.xe s
def PGs (X:Cx)(ts:List Expr)(t:TGs):Prop :=
 ∀ (pins:List (Addr×Obj)) (s:Shared) (σ:St) (H:Hp) (vs:List V) (us:List Value) (Q:St->Hp->Prop),Inv X pins σ H s->Vals vs us->t vs σ H Q ->
  wpAny (model X.prog X.w) X.A (assignInOrder ((assignEach ts X.env).map (·.2)) us) (fun _ s'=>∃σ' H',Inv X pins σ' H' s'/\Q σ' H') X.xe s
section
variable {X:Cx}{pos:Pos}
def xM (i:Nat):TG:=fun v σ H Q=>Q (σ.set i (some v)) H
theorem xB {i:Nat}{x:Str}(hN:X.N.Nodup)(hi:X.N[i]?=some x)(hx:Loc X.env.scope x)(hf:X.fn x=true\/X.env.scope.names.lookup x=some .local:=by first | exact .inl rfl | exact .inr rfl | assumption):PG X (.Name x pos) (xM i):=by
 intro pins s σ H v u Q I r h
 exact wpAny_assign_Name (jP I hN hi hx r (fun s' I'=>⟨_,H,I',h⟩) hf)
def zeY:TGs:=fun vs σ H Q=>vs=[]/\Q σ H
def jQ (t:TG)(u:TGs):TGs:=fun vs σ H Q=>∃v r,vs=v::r/\t v σ H fun σ' H'=>u r σ' H' Q
theorem qR:PGs X [] zeY:=by
 intro pins s σ H vs us Q I r h
 obtain ⟨e,h⟩:=h
 subst e
 cases r
 exact assignInOrder_nil ⟨σ,H,I,h⟩
theorem x5 {e:Expr}{es:List Expr}{t:TG}{u:TGs}(h1:PG X e t)(h2:PGs X es u)
  (hs:(assignEach (e::es) X.env).map (·.2)=assign e X.env::(assignEach es X.env).map (·.2):=by rfl):PGs X (e::es) (jQ t u):=by
 intro pins s σ H vs us Q I r h
 obtain ⟨v,vr,e1,h⟩:=h
 subst e1
 cases r with
 | cons r rr =>
  rw[hs]
  refine assignInOrder_cons (thn (h1 pins s σ H _ _ _ I r h) fun _ s1 ⟨σ1,H1,I1,q1⟩=>?_)
  exact h2 pins s1 σ1 H1 _ _ Q I1 rr q1
def zeZ (K:PySem.W.Frag)(n:Nat)(t:TGs):TG:=fun v σ H Q=>∃a xs,v=.ref a/\SqT K H a xs/\xs.length=n/\t xs σ H Q
theorem zbw {es:List Expr}{k:Nat}{t:TGs}{n:Nat}(hc:X.calm=true)(h:PGs X es t)
  (hn:(assignEach es X.env).length=n:=by rfl) (hst:(assignEach es X.env).findIdx? (·.1)=none:=by rfl):PG X (.Tuple es k pos) (zeZ X.K n t):=by
 intro pins s σ H v u Q I r hw
 obtain ⟨a,xs,e1,hq,hl,hw⟩:=hw
 subst e1
 cases r
 obtain ⟨its,rv,ht,hz⟩:=I.tuple hq
 refine assign_Tuple_tuple (I.ok.hd hc) ht (by simp[hn,<- hl,rv.length]) hst fun h' hx=>?_
 have I1:Inv X pins σ H { s with heap:=h' }:=I.kept (t':=s.toks) fun b o e=>hx b o (Nat.ne_of_lt (Heap.lt_size e)) e
 exact h pins _ σ H xs _ Q I1 (by simpa using rv) hw
def ze0 (te:TE)(g:TG):TS:=fun D σ H=>te σ H fun x H1=>g x σ H1 D.nx
theorem zbx {i:Nat}{x:Str}{e:Expr}{te:TE}{pos':Pos}(hN:X.N.Nodup)(hi:X.N[i]?=some x)(hx:Loc X.env.scope x)(he:PE X e te)(hs:swapsWith e (some (.Name x pos')) pos.line X.env=pure false:=by rfl)(hf:X.fn x=true\/X.env.scope.names.lookup x=some .local:=by first | exact .inl rfl | exact .inr rfl | assumption):
  PS X (.Assign [.Name x pos'] e pos) (ze0 te (xM i)):=by
 intro pins s σ H D I h
 refine wpAny_Assign_Name (thn (he pins s σ H _ I h) fun v s1 ⟨y,H1,I1,r1,q1⟩=>?_) hs
 exact jP I1 hN hi hx r1 (fun s2 I2=>⟨_,H1,I2,q1⟩) hf
end
set_option genInjectivity false in
structure It where
 go:Nat->Hp->Prop
 yld:Nat->Hp->V->Hp->Prop
 stop:Nat->Hp->Prop
def vf (X:Cx)(pins:List (Addr×Obj))(H:Hp)(b:Addr):Prop :=
 H b=none/\b≠X.env.locals/\b∉X.fs/\(b∈X.ex\/X.s₀.heap.objs.size<=b)/\(∀x c,X.env.cells.lookup x=some c->c≠b)/\∀p∈X.pn++pins,p.1≠b
theorem Inv.fpOk {X:Cx}{pins:List (Addr×Obj)}{σ:St}{H H':Hp}{s:Shared}{b:Addr}(I:Inv X pins σ H s)(hb:s.heap.objs.size<=b)(hn:H' b=none):vf X pins H' b:=by
 refine ⟨hn,Nat.ne_of_gt (Nat.lt_of_lt_of_le I.lt hb),I.nofs hb,.inr (Nat.le_trans I.sz hb),fun x c e z=>?_,fun p hp z=>?_⟩
 .obtain ⟨v,q⟩:=I.cell x c e
  exact absurd (Nat.lt_of_lt_of_le q.lt (by rw[z];exact hb)) (Nat.lt_irrefl _)
 .exact absurd (Nat.lt_of_lt_of_le (Heap.lt_size (I.pin p hp).1) (by rw[z];exact hb)) (Nat.lt_irrefl _)
structure Turn (P:Program)(w:World)(K:PySem.W.Frag)(tg:Expr)(J:It)(fp:List Addr)(it:Addr)(tn:Nat->Heap->Prop):Prop where
 mem:it∈fp
 obj:∀i h,tn i h->∀b∈fp,∃o,h.get? b=some o/\∀v,o.data≠.cell v
 keep:∀i h h',tn i h->(∀b∈fp,∀o,h.get? b=some o->h'.get? b=some o)->tn i h'
 item:∀ (X:Cx),X.prog=P->X.w=w->X.K=K->X.calm=true->∀ (i:Nat) (pins:List (Addr×Obj)) (s:Shared) (σ:St) (H:Hp) (E:Value->Shared->Prop),Inv X pins σ H s->(∀b∈fp,vf X pins H b)->tn i s.heap->J.go i H ->
  wpAny (model P w) X.A (pyNext (.ref it)) (fun r s1=>∃u,r=some u /\
   wpAny (model P w) X.A (letOwnedTupleGo tg (.ref it) u) (fun _ s2=>∃x H',Inv X pins σ H' s2/\RelV x u/\J.yld i H x H'/\tn (i+1) s2.heap/\∀b∈fp,H' b=none) E s1) E s
 done:∀ (X:Cx),X.prog=P->X.w=w->X.K=K->X.calm=true->∀ (i:Nat) (pins:List (Addr×Obj)) (s:Shared) (σ:St) (H:Hp) (E:Value->Shared->Prop),Inv X pins σ H s->(∀b∈fp,vf X pins H b)->tn i s.heap->J.stop i H ->
  wpAny (model P w) X.A (pyNext (.ref it)) (fun r s1=>r=none/\Inv X pins σ H s1) E s
 self:∀ (A:Around) (i:Nat) (s:Shared) (Q:Value->Shared->Prop) (E:Value->Shared->Prop),tn i s.heap->Q (.ref it) s->wpAny (model P w) A (pyIter (.ref it)) Q E s
abbrev TI:=St->Hp->(It->Hp->Prop)->Prop
def PIE (X:Cx)(pins:List (Addr×Obj))(σ:St)(tg:Expr)(R:It->Hp->Prop)(itv:Value)(s2:Shared):Prop :=
 ∃ (it:Addr) (fp:List Addr) (tn:Nat->Heap->Prop) (J:It) (H':Hp),itv=.ref it/\Inv X pins σ H' s2/\Turn X.prog X.w X.K tg J fp it tn/\tn 0 s2.heap/\(∀b∈fp,vf X pins H' b)/\R J H'
def PI (X:Cx)(tg iter:Expr)(wi:TI):Prop :=
 ∀ (pins:List (Addr×Obj)) (s:Shared) (σ:St) (H:Hp) (R:It->Hp->Prop),Inv X pins σ H s->wi σ H R ->
  wpAny (model X.prog X.w) X.A (eval iter X.env) (fun v s1=>wpAny (model X.prog X.w) X.A (pyIter v) (PIE X pins σ tg R) X.xe s1) X.xe s
theorem zby {M:Model}{A:Around}{E:Value->Shared->Prop}{s:Shared}{tg:Expr}{it:Addr}{u:Value}{o:Obj}{n:String}{vs:Array Value}{Q:Unit->Shared->Prop}(ho:s.heap.get? it=some o)(hc:o.cls=.type n)(hd:o.data=.fields vs)
  (hn:["enumerate", "zip", "dict_itemiterator", "dict_reverseitemiterator", "odict_iterator", "itertools.zip_longest", "itertools.pairwise"].contains n=false) (hQ:Q () s):wpAny M A (letOwnedTupleGo tg (.ref it) u) Q E s:=by
 unfold letOwnedTupleGo
 cases tg <;> first
  | exact wpAny_pure hQ
  | (cases u <;> first
    | exact wpAny_pure hQ
    | (refine wpAny_bind (wpAny_load ho ?_)
       rw[hc,hd]
       show wpAny M A (if (["enumerate", "zip", "dict_itemiterator", "dict_reverseitemiterator", "odict_iterator", "itertools.zip_longest", "itertools.pairwise"].contains n && vs[0]? == some (rawInt _))=true then _ else _) Q E s
       rw[if_neg (by intro h;rw[hn,Bool.false_and] at h;cases h)]
       exact wpAny_pure hQ))
noncomputable def Itl (K:PySem.W.Frag)(a:Addr):It :=
 ⟨fun i H=>∃xs x,SqL K H a xs/\xs[i]?=some x,fun i H x H'=>H'=H/\∀xs,SqL K H a xs->xs[i]?=some x,fun i H=>∃xs,SqL K H a xs/\xs.length<=i⟩
noncomputable def Itt (K:PySem.W.Frag)(a:Addr):It :=
 ⟨fun i H=>∃xs x,SqT K H a xs/\xs[i]?=some x,fun i H x H'=>H'=H/\∀xs,SqT K H a xs->xs[i]?=some x,fun i H=>∃xs,SqT K H a xs/\xs.length<=i⟩
noncomputable def Itr (lo:Int)(n:Nat):It:=⟨fun i _=>i < n,fun i H x H'=>H'=H/\x=.int (lo+i),fun i _=>n<=i⟩
theorem zaP {P:Program}{w:World}{K:PySem.W.Frag}{tg:Expr}(a it:Addr):Turn P w K tg (Itl K a) [it] it (fun i h=>h.IsListIter it a i) where
 mem:=by simp
 obj:=fun i h st b hb=>by
  have e:b=it:=by simpa using hb
  subst e
  obtain ⟨o,e,c,d⟩:=st
  exact ⟨o,e,fun v z=>by rw[d] at z;cases z⟩
 keep:=fun i h h' st k=>st.at fun o e=>k it (by simp) o e
 item:=by
  intro X hP hw hK hc i pins s σ H E I hf st hg
  subst hP hw hK
  obtain ⟨xs,x,hq,hx⟩:=hg
  obtain ⟨its,rv,p,hz⟩:=I.list hq
  obtain ⟨u,hu,ru⟩:=rv.get hx
  obtain ⟨f0,f1,f2,f3,f4,f5⟩:=hf it (by simp)
  refine wpAny_pyNext_list_item st p.isList (x:=u) (by simpa using hu) fun h' st' sb=>?_
  have I1:Inv X pins σ H { s with heap:=h' }:=I.turned (t':=s.toks) (fun b o hb e=>(sb.2 b hb).trans e) f0 f1 f3 f4 f5
  obtain ⟨o,e,c,d⟩:=id st'
  exact ⟨u,rfl,zby (s:={ s with heap:=h' }) e c d (by decide) ⟨x,H,I1,ru,⟨rfl,fun ys hy=>by rw[I.list_inj hy hq];exact hx⟩,st',fun b hb=>(hf b hb).1⟩⟩
 done:=by
  intro X hP hw hK hc i pins s σ H E I hf st hg
  subst hP hw hK
  obtain ⟨xs,hq,hx⟩:=hg
  obtain ⟨its,rv,p,hz⟩:=I.list hq
  obtain ⟨f0,f1,f2,f3,f4,f5⟩:=hf it (by simp)
  have hl:=rv.length
  exact wpAny_pyNext_list_end (I.ok.hd hc) st p.isList (by simp;lia) fun h' eb=>⟨rfl,I.turned (t':=s.toks) (fun b o hb e=>eb b o hb e) f0 f1 f3 f4 f5⟩
 self:=fun _ _ _ _ _ st h=>wpAny_pyIter_listiter st h
theorem gX {P:Program}{w:World}{K:PySem.W.Frag}{tg:Expr}(a it:Addr):Turn P w K tg (Itt K a) [it] it (fun i h=>h.IsTupleIter it a i) where
 mem:=by simp
 obj:=fun i h st b hb=>by
  have e:b=it:=by simpa using hb
  subst e
  obtain ⟨o,e,c,d⟩:=st
  exact ⟨o,e,fun v z=>by rw[d] at z;cases z⟩
 keep:=fun i h h' st k=>st.at fun o e=>k it (by simp) o e
 item:=by
  intro X hP hw hK hc i pins s σ H E I hf st hg
  subst hP hw hK
  obtain ⟨xs,x,hq,hx⟩:=hg
  obtain ⟨its,rv,p,hz⟩:=I.tuple hq
  obtain ⟨u,hu,ru⟩:=rv.get hx
  obtain ⟨f0,f1,f2,f3,f4,f5⟩:=hf it (by simp)
  refine wpAny_pyNext_tuple_item st (show s.heap.IsTuple a its.toArray from p) (x:=u) (by simpa using hu) fun h' st' sb=>?_
  have I1:Inv X pins σ H { s with heap:=h' }:=I.turned (t':=s.toks) (fun b o hb e=>(sb.2 b hb).trans e) f0 f1 f3 f4 f5
  obtain ⟨o,e,c,d⟩:=id st'
  exact ⟨u,rfl,zby (s:={ s with heap:=h' }) e c d (by decide) ⟨x,H,I1,ru,⟨rfl,fun ys hy=>by rw[I.tuple_inj hy hq];exact hx⟩,st',fun b hb=>(hf b hb).1⟩⟩
 done:=by
  intro X hP hw hK hc i pins s σ H E I hf st hg
  subst hP hw hK
  obtain ⟨xs,hq,hx⟩:=hg
  obtain ⟨its,rv,p,hz⟩:=I.tuple hq
  obtain ⟨f0,f1,f2,f3,f4,f5⟩:=hf it (by simp)
  have hl:=rv.length
  exact wpAny_pyNext_tuple_end (I.ok.hd hc) st (show s.heap.IsTuple a its.toArray from p) (by simp;lia) fun h' eb=>⟨rfl,I.turned (t':=s.toks) (fun b o hb e=>eb b o hb e) f0 f1 f3 f4 f5⟩
 self:=fun _ _ _ _ _ st h=>wpAny_pyIter_tupleiter st h
theorem gY {P:Program}{w:World}{K:PySem.W.Frag}{tg:Expr}(it:Addr)(lo:Int)(n:Nat):Turn P w K tg (Itr lo n) [it] it (fun i h=>IsRangeIter h it (lo+(i:Nat) * 1) ((n:Int) - (i:Nat)) 1) where
 mem:=by simp
 obj:=fun i h st b hb=>by
  have e:b=it:=by simpa using hb
  subst e
  exact ⟨_,st,fun v z=>by
   have z':Data.fields _=Data.cell v:=z
   cases z'⟩
 keep:=fun i h h' st k=>k it (by simp) _ st
 item:=by
  intro X hP hw hK hc i pins s σ H E I hf st hg
  subst hP hw hK
  obtain ⟨f0,f1,f2,f3,f4,f5⟩:=hf it (by simp)
  have W:=Walks.range (prog:=X.prog) (w:=X.w) (I.ok.hd hc) it lo 1 n
  refine W.item i s _ _ hg st fun v h' tk hv st' kk=>?_
  obtain ⟨t,rfl⟩:=hv
  have I1:Inv X pins σ H { s with heap:=h',toks:=tk }:=I.turned (fun b o hb e=>kk b o (by simpa using hb) e) f0 f1 f3 f4 f5
  refine ⟨_,rfl,zby (s:={ s with heap:=h',toks:=tk }) (n := "range_iterator") st' rfl rfl (by decide) ⟨.int (lo+i),H,I1,⟨t,?_⟩,⟨rfl,rfl⟩,st',fun b hb=>(hf b hb).1⟩⟩
  rw[Int.mul_one]
 done:=by
  intro X hP hw hK hc i pins s σ H E I hf st hg
  subst hP hw hK
  obtain ⟨f0,f1,f2,f3,f4,f5⟩:=hf it (by simp)
  exact wpAny_pyNext_range_end (I.ok.hd hc) st (by have:n<=i:=hg;lia) fun h' eb=>⟨rfl,I.turned (t':=s.toks) (fun b o hb e=>eb b o hb e) f0 f1 f3 f4 f5⟩
 self:=fun _ _ _ _ _ st h=>wpAny_pyIter_rangeiter st h
section
variable {X:Cx}{tg:Expr}
def zgt (K:PySem.W.Frag)(tl:TE):TI:=fun σ H R=>tl σ H fun x H1=>∃a,x=.ref a/\(∃xs,SqL K H1 a xs)/\R (Itl K a) H1
def iTup (K:PySem.W.Frag)(tl:TE):TI:=fun σ H R=>tl σ H fun x H1=>∃a,x=.ref a/\(∃xs,SqT K H1 a xs)/\R (Itt K a) H1
theorem zda {l:Expr}{tl:TE}(hl:PE X l tl):PI X tg l (zgt X.K tl):=by
 intro pins s σ H R I h
 refine thn (hl pins s σ H _ I h) fun v s1 ⟨x,H1,I1,r1,q1⟩=>?_
 obtain ⟨a,e,⟨xs,hq⟩,q⟩:=q1
 subst e
 cases r1
 obtain ⟨its,rv,p,hz⟩:=I1.list hq
 refine wpAny_pyIter_list p.isList ?_
 refine ⟨s1.heap.objs.size,[s1.heap.objs.size],_,_,H1,rfl,I1.kept (t':=s1.toks) fun b o e=>Heap.get?_push_of_some _ e,zaP a _,⟨_,Heap.get?_push_size _ rfl,rfl,rfl⟩,fun b hb=>?_,q⟩
 have e:b=s1.heap.objs.size:=by simpa using hb
 subst e
 exact I1.fpOk (Nat.le_refl _) (I1.hok.fresh (Nat.le_refl _))
theorem ze1 {l:Expr}{tl:TE}(hl:PE X l tl):PI X tg l (iTup X.K tl):=by
 intro pins s σ H R I h
 refine thn (hl pins s σ H _ I h) fun v s1 ⟨x,H1,I1,r1,q1⟩=>?_
 obtain ⟨a,e,⟨xs,hq⟩,q⟩:=q1
 subst e
 cases r1
 obtain ⟨its,rv,p,hz⟩:=I1.tuple hq
 refine wpAny_pyIter_tuple (show s1.heap.IsTuple a its.toArray from p) ?_
 refine ⟨s1.heap.objs.size,[s1.heap.objs.size],_,_,H1,rfl,I1.kept (t':=s1.toks) fun b o e=>Heap.get?_push_of_some _ e,gX a _,⟨_,Heap.get?_push_size _ rfl,rfl,rfl⟩,fun b hb=>?_,q⟩
 have e:b=s1.heap.objs.size:=by simpa using hb
 subst e
 exact I1.fpOk (Nat.le_refl _) (I1.hok.fresh (Nat.le_refl _))
theorem zbz {pins:List (Addr×Obj)}{σ:St}{H:Hp}{s:Shared}{R:It->Hp->Prop}{E:Value->Shared->Prop}{lo hi:Int}{t u v:Tok}{tk:Nat}(I:Inv X pins σ H s)(h1:-(2 ^ 62)<=lo)(h2:lo < 2 ^ 62)(h3:-(2 ^ 62)<=hi)(h4:hi < 2 ^ 62)
  (q:R (Itr lo (hi - lo).toNat) H):wpAny (model X.prog X.w) X.A (pyIter (.ref s.heap.objs.size)) (PIE X pins σ tg R) E { s with heap:=s.heap.push { cls:=.type "range",data:=.fields #[.int lo t,.int hi u,.int 1 v] },toks:=tk }:=by
 refine wpAny_pyIter_range (IsRange.new ..) (small_one h1 h2 h3 h4) ?_
 have I1:Inv X pins σ H { s with heap:=s.heap.push { cls:=.type "range",data:=.fields #[.int lo t,.int hi u,.int 1 v] },toks:=tk }:=I.kept fun b o e=>Heap.get?_push_of_some _ e
 refine ⟨(s.heap.push { cls:=.type "range",data:=.fields #[.int lo t,.int hi u,.int 1 v] }).objs.size,[(s.heap.push { cls:=.type "range",data:=.fields #[.int lo t,.int hi u,.int 1 v] }).objs.size],_,_,H,rfl,
  I1.kept (t':=tk) fun b o e=>Heap.get?_push_of_some _ e,gY _ lo (hi - lo).toNat,?_,fun b hb=>?_,q⟩
 .have e1:lo+((0:Nat):Int) * 1=lo:=by simp
  have e2:(((hi - lo).toNat:Nat):Int) - ((0:Nat):Int)=Builtin.Range.rangeSize lo hi 1:=by rw[rangeSize_one];split <;> lia
  show IsRangeIter _ _ (lo+((0:Nat):Int) * 1) ((((hi - lo).toNat:Nat):Int) - ((0:Nat):Int)) 1
  rw[e1,e2]
  exact Heap.get?_push_size _ rfl
 .have e:b=(s.heap.push { cls:=.type "range",data:=.fields #[.int lo t,.int hi u,.int 1 v] }).objs.size:=by simpa using hb
  subst e
  exact I1.fpOk (Nat.le_refl _) (I1.hok.fresh (Nat.le_refl _))
def zgu (ta:TA):TI:=fun σ H R=>ta σ H fun vs H1=>∃j:Int,vs=[.int j]/\-(2 ^ 62)<=j/\j < 2 ^ 62/\R (Itr 0 j.toNat) H1
theorem zaQ {a:Expr}{ta:TA}{p pos:Pos}(hg:Gl X "range")(hm:X.mg "range" = none)(ha:PA X [a] ta)(hs:starEach [a] X.env=[(false,eval a X.env)]:=by rfl):PI X tg (.Call (.Name "range" p) [a] [] pos) (zgu ta):=by
 intro pins s σ H R I h
 refine Call_ (vn I hg hm boot_range (PyProof.Rows.callWith_type1 (thn (ha pos pins s σ H _ I h) fun us s1 ⟨vs,H1,I1,r1,q1⟩=>?_) hs rfl))
 obtain ⟨j,e,q1,q2,q⟩:=q1
 subst e
 cases r1 with
 | cons r rr =>
  cases rr
  obtain ⟨t,rfl⟩:=r
  exact call_range_1 (zbz I1 (by lia) (by lia) q1 q2 (by simpa using q))
def zgv (wi:TI)(g:TG)(tb:TS):TS:=fun D σ H=>wi σ H fun J H1=>∃W:Nat->Nat->St->Hp->Prop,(∃m,W 0 m σ H1)/\∀i m σ H,W i m σ H ->
 (J.stop i H/\D.nx σ H)\/(J.go i H/\∃N:St->Hp->Prop,(∀σ' H',N σ' H'->∃m',m' < m/\W (i+1) m' σ' H')/\∀x H',J.yld i H x H'->g x σ H' fun σ2 H2=>tb { D with nx:=N,ct:=N,bk:=D.nx } σ2 H2)
noncomputable def vo (fp:List Addr)(h:Heap):List (Addr×Obj):=fp.filterMap fun b=>(h.get? b).map fun o=>(b,o)
theorem xa {fp:List Addr}{h:Heap}{b:Addr}{o:Obj}(hb:b∈fp)(e:h.get? b=some o):(b,o)∈vo fp h:=List.mem_filterMap.mpr ⟨b,hb,by rw[e];rfl⟩
theorem zaR {fp:List Addr}{h:Heap}{p:Addr×Obj}(hp:p∈vo fp h):p.1∈fp/\h.get? p.1=some p.2:=by
 obtain ⟨b,hb,e⟩:=List.mem_filterMap.mp hp
 cases q:h.get? b with
 | none=>rw[q] at e;cases e
 | some o =>
  rw[q] at e
  have e':(b,o)=p:=Option.some.inj e
  subst e'
  exact ⟨hb,q⟩
theorem Inv.pinned {pins:List (Addr×Obj)}{σ:St}{H:Hp}{s:Shared}{fp:List Addr}(I:Inv X pins σ H s)(hf:∀b∈fp,vf X pins H b)(ho:∀b∈fp,∃o,s.heap.get? b=some o/\∀v,o.data≠.cell v):Inv X (pins++vo fp s.heap) σ H s :=
 I.pins_of fun p hp=>(List.mem_append.mp hp).elim (fun z=>I.pin p (List.mem_append_right _ z)) fun z=>by
  obtain ⟨hb,e⟩:=zaR z
  obtain ⟨f0,f1,f2,_⟩:=hf p.1 hb
  obtain ⟨o,e',d⟩:=ho p.1 hb
  rw[e] at e';cases e'
  exact ⟨e,f0,f1,f2,d⟩
theorem Inv.unpinned {pins pl:List (Addr×Obj)}{σ:St}{H:Hp}{s:Shared}(I:Inv X (pins++pl) σ H s):Inv X pins σ H s:=I.pins_of fun p hp=>I.pin p (List.mem_append_right _ (List.mem_append_left _ hp))
theorem zbA {iter:Expr}{body:List Stmt}{wi:TI}{g:TG}{tb:TS}{pos:Pos}(hp:PassesOwn (model X.prog X.w) X.A X.env X.xe)(hc:X.calm=true)(hi:PI X tg iter wi)(hg:PG X tg g)(hb:PSs X body tb)
  (hs:∀x,foldedSetIterable iter X.env x=pure x:=by intro _;rfl):PS X (.For tg iter body [] pos) (zgv wi g tb):=by
 intro pins s σ H D I h
 refine wpAny_For (thn (hi pins s σ H _ I h) fun v s1 h1=>thn h1 fun itv s2 h2=>?_) hs
 obtain ⟨it,fp,tn,J,H2,e,I2,T,st2,f2,W,⟨m0,w0⟩,turn⟩:=h2
 subst e
 -- what stays true of the iterator's objects through the loop
 have stat:∀ {H':Hp},(∀b∈fp,H' b=none)->∀b∈fp,vf X pins H' b:=fun hn b hb=>⟨hn b hb,(f2 b hb).2⟩
 refine codeAny_forLoop_any (fun n s'=>∃i σ' H',Inv X pins σ' H' s'/\tn i s'.heap/\(∀b∈fp,H' b=none)/\W i n σ' H') ?_ m0 ⟨0,σ,H2,I2,st2,fun b hb=>(f2 b hb).1,w0⟩
 rintro n s3 ⟨i,σ3,H3,I3,st3,fr3,w3⟩
 rcases turn i n σ3 H3 w3 with ⟨stop,qn⟩ | ⟨go,N,hN,step⟩
 .refine wpAny_passesOwn hp (thn (T.done X rfl rfl rfl hc i pins s3 σ3 H3 X.xe I3 (stat fr3) st3 stop) fun r s4 ⟨hr,I4⟩=>?_)
  subst hr
  exact wpAny_execs_nil ⟨σ3,H3,I4,qn⟩
 .refine wpAny_passesOwn hp (thn (T.item X rfl rfl rfl hc i pins s3 σ3 H3 X.xe I3 (stat fr3) st3 go) fun r s4 ⟨u,hr,h4⟩=>?_)
  subst hr
  refine wpAny_passesOwn hp (thn h4 fun _ s5 ⟨x,H5,I5,r5,y5,st5,fr5⟩=>?_)
  have I5':=I5.pinned (stat fr5) (T.obj _ _ st5)
  refine wpAny_passesOwn hp (thn (hg _ s5 σ3 H5 x u _ I5' r5 (step x H5 y5)) fun _ s6 ⟨σ6,H6,I6,q6⟩=>?_)
  refine wpAny_passesOwn hp (thn (hb _ s6 σ6 H6 _ I6 q6) fun f s7 q7=>?_)
  have again:∀ {σ7:St}{H7:Hp},Inv X (pins++vo fp s5.heap) σ7 H7 s7->N σ7 H7->∃m,m < n/\∃i σ' H',Inv X pins σ' H' s7/\tn i s7.heap/\(∀b∈fp,H' b=none)/\W i m σ' H':=fun {σ7 H7} I7 n7=>by
   obtain ⟨m',hm,w7⟩:=hN σ7 H7 n7
   refine ⟨m',hm,i+1,σ7,H7,I7.unpinned,T.keep _ _ _ st5 fun b hb o e=>(I7.pin (b,o) (List.mem_append_right _ (List.mem_append_right _ (xa hb e)))).1,fun b hb=>?_,w7⟩
   obtain ⟨o,e,d⟩:=T.obj _ _ st5 b hb
   exact (I7.pin (b,o) (List.mem_append_right _ (List.mem_append_right _ (xa hb e)))).2.1
  cases f with
  | next=>obtain ⟨σ7,H7,I7,n7⟩:=q7;exact again I7 n7
  | cont=>obtain ⟨σ7,H7,I7,n7⟩:=q7;exact again I7 n7
  | brk=>obtain ⟨σ7,H7,I7,q7⟩:=q7;exact ⟨σ7,H7,I7.unpinned,q7⟩
  | ret v=>obtain ⟨x7,σ7,H7,I7,r7,q7⟩:=q7;exact ⟨x7,σ7,H7,I7.unpinned,r7,q7⟩
end
abbrev R2:=V->V->Hp->VK->Prop
def OpR (X:Cx)(f:Value->Value->Sem Value)(r:R2):Prop :=
 ∀ (pins:List (Addr×Obj)) (s:Shared) (σ:St) (H:Hp) (x y:V) (v u:Value) (Q:VK),Inv X pins σ H s->RelV x v->RelV y u->r x y H Q ->
  wpAny (model X.prog X.w) X.A (f v u) (EP X pins σ Q) X.xe s
def UnR (X:Cx)(f:Value->Sem Value)(r:V->Hp->VK->Prop):Prop :=
 ∀ (pins:List (Addr×Obj)) (s:Shared) (σ:St) (H:Hp) (x:V) (v:Value) (Q:VK),Inv X pins σ H s->RelV x v->r x H Q ->
  wpAny (model X.prog X.w) X.A (f v) (EP X pins σ Q) X.xe s
def CallR (X:Cx)(f:Value)(r:List V->Hp->VK->Prop):Prop :=
 ∀ (pins:List (Addr×Obj)) (s:Shared) (σ:St) (H:Hp) (xs:List V) (us:List Value) (Q:VK),Inv X pins σ H s->Vals xs us->r xs H Q ->
  wpAny (model X.prog X.w) X.A (call f us) (EP X pins σ Q) X.xe s
def tOp (r:R2)(ta tb:TE):TE:=fun σ H Q=>ta σ H fun x H1=>tb σ H1 fun y H2=>r x y H2 Q
def tUn (r:V->Hp->VK->Prop)(ta:TE):TE:=fun σ H Q=>ta σ H fun x H1=>r x H1 Q
def rI (C:Int->Int->Prop)(g:Int->Int->V):R2:=fun x y H Q=>∃i j,x=.int i/\y=.int j/\C i j/\Q (g i j) H
def rI0 (g:Int->Int->V):R2:=fun x y H Q=>∃i j,x=.int i/\y=.int j/\Q (g i j) H
def rU (g:Int->V):V->Hp->VK->Prop:=fun x H Q=>∃i,x=.int i/\Q (g i) H
section
variable {X:Cx}{a b:Expr}{ta tb:TE}{pos:Pos}
theorem ze2 (ha:PE X a ta)(hb:PE X b tb){pins:List (Addr×Obj)}{s:Shared}{σ:St}{H:Hp}{R:V->V->Hp->Prop}(I:Inv X pins σ H s)
  (h:ta σ H fun x H1=>tb σ H1 fun y H2=>R x y H2) {Q:Value->Shared->Prop}{f:Value->Value->Sem Value}
  (hf:∀v u s2 x y H2,Inv X pins σ H2 s2->RelV x v->RelV y u->R x y H2->wpAny (model X.prog X.w) X.A (f v u) Q X.xe s2) :
  wpAny (model X.prog X.w) X.A (eval a X.env) (fun v s₁=>wpAny (model X.prog X.w) X.A (eval b X.env) (fun u s₂=>wpAny (model X.prog X.w) X.A (f v u) Q X.xe s₂) X.xe s₁) X.xe s:=by
 refine thn (ha pins s σ H _ I h) fun v s1 ⟨x,H1,I1,r1,q1⟩=>?_
 refine thn (hb pins s1 σ H1 _ I1 q1) fun u s2 ⟨y,H2,I2,r2,q2⟩=>?_
 exact hf v u s2 x y H2 I2 r1 r2 q2
theorem zgw {op:Operator}{r:R2}(ho:OpR X (binaryOp op) r)(ha:PE X a ta)(hb:PE X b tb):PE X (.BinOp a op b pos) (tOp r ta tb):=by
 intro pins s σ H Q I h
 exact wpAny_BinOp (ze2 ha hb I h fun v u s2 x y H2 I2 rx ry q=>ho pins s2 σ H2 x y v u Q I2 rx ry q)
theorem zgx {op:UnaryOp}{r:V->Hp->VK->Prop}(ho:UnR X (unaryOp op) r)(ha:PE X a ta):PE X (.UnaryOp op a pos) (tUn r ta):=by
 intro pins s σ H Q I h
 exact UnaryOp_ (thn (ha pins s σ H _ I h) fun v s1 ⟨x,H1,I1,r1,q1⟩=>ho pins s1 σ H1 x v Q I1 r1 q1)
theorem opI {f:Value->Value->Sem Value}{C:Int->Int->Prop}{g:Int->Int->Int}
  (rule:∀ (i j:Int) (t u:Tok) (s:Shared) (Q:Value->Shared->Prop) (E:Value->Shared->Prop),C i j->Q (.int (g i j) s.toks) { s with toks:=s.toks+1 }->wpAny (model X.prog X.w) X.A (f (.int i t) (.int j u)) Q E s) :
  OpR X f (rI C fun i j=>.int (g i j)):=by
 intro pins s σ H x y v u Q I rx ry h
 obtain ⟨i,j,rfl,rfl,hc,q⟩:=h
 obtain ⟨t,rfl⟩:=rx
 obtain ⟨t',rfl⟩:=ry
 exact rule i j t t' s _ _ hc ⟨.int (g i j),H,I.tok _,⟨_,rfl⟩,q⟩
theorem ze3 {f:Value->Value->Sem Value}{g:Int->Int->Int}
  (rule:∀ (i j:Int) (t u:Tok) (s:Shared) (Q:Value->Shared->Prop) (E:Value->Shared->Prop),Q (.int (g i j) s.toks) { s with toks:=s.toks+1 }->wpAny (model X.prog X.w) X.A (f (.int i t) (.int j u)) Q E s) :
  OpR X f (rI0 fun i j=>.int (g i j)):=by
 intro pins s σ H x y v u Q I rx ry h
 obtain ⟨i,j,rfl,rfl,q⟩:=h
 obtain ⟨t,rfl⟩:=rx
 obtain ⟨t',rfl⟩:=ry
 exact rule i j t t' s _ _ ⟨.int (g i j),H,I.tok _,⟨_,rfl⟩,q⟩
theorem zdb {f:Value->Value->Sem Value}{g:Int->Int->Bool}
  (rule:∀ (i j:Int) (t u:Tok) (s:Shared) (Q:Value->Shared->Prop) (E:Value->Shared->Prop),Q (.bool (g i j)) s->wpAny (model X.prog X.w) X.A (f (.int i t) (.int j u)) Q E s) :
  OpR X f (rI0 fun i j=>.bl (g i j)):=by
 intro pins s σ H x y v u Q I rx ry h
 obtain ⟨i,j,rfl,rfl,q⟩:=h
 obtain ⟨t,rfl⟩:=rx
 obtain ⟨t',rfl⟩:=ry
 exact rule i j t t' s _ _ ⟨.bl (g i j),H,I,rfl,q⟩
def zgy (i j:Int):Prop:=0 < j/\j < 1073741824
def zgz (i j:Int):Prop:=0<=j/\j<=1000000/\i.natAbs < 2 ^ 64
def CMul (i j:Int):Prop:=(-(2 ^ 64) < i/\i < 2 ^ 64)\/(-(2 ^ 64) < j/\j < 2 ^ 64)
theorem CMul.ok {i j:Int}(h:CMul i j):IntMulOk i j:=by
 rcases h with ⟨h1,h2⟩ | ⟨h1,h2⟩
 .exact .of_left (intBits_le_64 h1 h2)
 .exact .of_right (intBits_le_64 h1 h2)
theorem gZ (k:Nat):(0:Int)<=2 ^ k:=by
 rw[two_pow_cast]
 exact Int.natCast_nonneg _
theorem op_add:OpR X (binaryOp .Add) (rI0 fun i j=>.int (i+j)):=ze3 fun _ _ _ _ _ _ _ q=>add_int q
theorem ze4:OpR X (binaryOp .Sub) (rI0 fun i j=>.int (i - j)):=ze3 fun _ _ _ _ _ _ _ q=>sub_int q
theorem op_mul:OpR X (binaryOp .Mult) (rI CMul fun i j=>.int (i * j)):=opI fun _ _ _ _ _ _ _ hc q=>mul_int q hc.ok
theorem zdc:OpR X (binaryOp .FloorDiv) (rI zgy fun i j=>.int (i / j)):=opI fun i j _ _ _ _ _ hc q=>by
 have h1:(0:Int) < j:=hc.1
 have h2:j < 1073741824:=hc.2
 exact floordiv_int (by lia) (by rw[Int.fdiv_eq_ediv_of_nonneg i (by lia)];exact q) (.inl (PyProof.noPylong_small (by lia)))
theorem ze5:OpR X (binaryOp .Mod) (rI (fun _ j=>0 < j) fun i j=>.int (i % j)):=opI fun i j _ _ _ _ _ hc q=>by
 have h1:(0:Int) < j:=hc
 exact mod_int' (by lia) (by rw[Int.fmod_eq_emod_of_nonneg i (by lia)];exact q)
theorem ze6:OpR X (binaryOp .Pow) (rI zgz fun i j=>.int (i ^ j.toNat)):=opI fun _ _ _ _ _ _ _ hc q=>pow_int_small hc.1 hc.2.1 hc.2.2 q
theorem ze7:OpR X (binaryOp .RShift) (rI (fun _ j=>0<=j) fun i j=>.int (i / 2 ^ j.toNat)):=opI fun i j _ _ _ _ _ hc q =>
 rshift_int hc (by rw[Int.fdiv_eq_ediv_of_nonneg i (gZ _)];exact q)
theorem ze8:OpR X (binaryOp .BitAnd) (rI0 fun i j=>.int (Builtin.bitAnd i j)):=ze3 fun _ _ _ _ _ _ _ q=>and_int q
theorem unI {f:Value->Sem Value}{g:Int->Int}
  (rule:∀ (i:Int) (t:Tok) (s:Shared) (Q:Value->Shared->Prop) (E:Value->Shared->Prop),Q (.int (g i) s.toks) { s with toks:=s.toks+1 }->wpAny (model X.prog X.w) X.A (f (.int i t)) Q E s) :
  UnR X f (rU fun i=>.int (g i)):=by
 intro pins s σ H x v Q I rx h
 obtain ⟨i,rfl,q⟩:=h
 obtain ⟨t,rfl⟩:=rx
 exact rule i t s _ _ ⟨.int (g i),H,I.tok _,⟨_,rfl⟩,q⟩
theorem ze9:UnR X (unaryOp .USub) (rU fun i=>.int (-i)):=unI fun _ _ _ _ _ q=>neg_int q
end
section
variable {X:Cx}{a b c:Expr}{ta tb tc:TE}{pos:Pos}
theorem zbB {pins:List (Addr×Obj)}{σ:St}{H:Hp}{s:Shared}{Q:VK}{k k':Bool}(I:Inv X pins σ H s)(q:Q (.bl k) H)(e:k=k'):EP X pins σ Q (.bool k') s:=by
 subst e
 exact ⟨.bl k,H,I,rfl,q⟩
theorem zgA:OpR X (compareOp .Lt) (rI0 fun i j=>.bl (decide (i < j))):=zdb fun _ _ _ _ _ _ _ q=>lt_int q
theorem zgB:OpR X (compareOp .LtE) (rI0 fun i j=>.bl (decide (i<=j))):=zdb fun _ _ _ _ _ _ _ q=>le_int q
theorem zgC:OpR X (compareOp .Gt) (rI0 fun i j=>.bl (decide (j < i))):=zdb fun _ _ _ _ _ _ _ q=>gt_int q
theorem zgD:OpR X (compareOp .GtE) (rI0 fun i j=>.bl (decide (j<=i))):=zdb fun _ _ _ _ _ _ _ q=>ge_int q
theorem zfa:OpR X (compareOp .Is) (fun x y H Q=>y=.non/\Q (.bl (decide (x=.non))) H):=by
 intro pins s σ H x y v u Q I rx ry h
 obtain ⟨rfl,q⟩:=h
 cases ry
 refine is_none_gen (zbB I q ?_)
 cases x <;> first
  | (cases rx;rfl)
  | (obtain ⟨t,rfl⟩:=rx;rfl)
theorem zdd:OpR X (compareOp .IsNot) (fun x y H Q=>y=.non/\Q (.bl (!decide (x=.non))) H):=by
 intro pins s σ H x y v u Q I rx ry h
 obtain ⟨rfl,q⟩:=h
 cases ry
 refine isnot_none_gen (zbB I q ?_)
 cases x <;> first
  | (cases rx;rfl)
  | (obtain ⟨t,rfl⟩:=rx;rfl)
theorem OpR.or {f:Value->Value->Sem Value}{r r':R2}(h:OpR X f r)(h':OpR X f r'):OpR X f (fun x y H Q=>r x y H Q\/r' x y H Q):=by
 intro pins s σ H x y v u Q I rx ry q
 rcases q with q | q
 .exact h pins s σ H x y v u Q I rx ry q
 .exact h' pins s σ H x y v u Q I rx ry q
theorem zde {op:CmpOp}{r:R2}(ho:OpR X (compareOp op) r)(ha:PE X a ta)(hb:PE X b tb)(hm:behindInMarks op b=false):PE X (.Compare a [op] [b] pos) (tOp r ta tb):=by
 intro pins s σ H Q I h
 exact wpAny_Compare1 (ze2 ha hb I h fun v u s2 x y H2 I2 rx ry q=>ho pins s2 σ H2 x y v u Q I2 rx ry q) hm
def zev (t:TE):TT:=fun σ H Q=>t σ H fun x H'=>∃k,x=.bl k/\Q k H'
theorem zdf {op:CmpOp}{r:R2}(ho:OpR X (compareOp op) r)(ha:PE X a ta)(hb:PE X b tb)(hm:behindInMarks op b=false):PT X (.Compare a [op] [b] pos) (zev (tOp r ta tb)):=by
 intro pins s σ H Q I h
 refine wpAny_isTrue_Compare1 (thn (ha pins s σ H _ I h) fun v s1 ⟨x,H1,I1,r1,q1⟩=>thn (hb pins s1 σ H1 _ I1 q1) fun u s2 ⟨y,H2,I2,r2,q2⟩ =>
  thn (ho pins s2 σ H2 x y v u _ I2 r1 r2 q2) fun c s3 ⟨z,H3,I3,r3,k,e,q3⟩=>?_) hm
 subst e
 cases r3
 exact wpAny_truthy_bool ⟨H3,I3,q3⟩
def g0 (r r':R2)(ta tb tc:TE):TE:=fun σ H Q=>ta σ H fun x H1=>tb σ H1 fun y H2=>r x y H2 fun z H3=>∃k,z=.bl k /\
 (if k=true then tc σ H3 fun w' H4=>r' y w' H4 Q else Q (.bl false) H3)
theorem zbC {op op':CmpOp}{r r':R2}(ho:OpR X (compareOp op) r)(ho':OpR X (compareOp op') r')(ha:PE X a ta)(hb:PE X b tb)(hc:PE X c tc)
  (hm:lastMarks [op,op'] [b,c]=false:=by with_unfolding_all rfl):PE X (.Compare a [op,op'] [b,c] pos) (g0 r r' ta tb tc):=by
 intro pins s σ H Q I h
 refine Compare_chain (thn (ha pins s σ H _ I h) fun v s1 ⟨x,H1,I1,r1,q1⟩=>chain_link (thn (hb pins s1 σ H1 _ I1 q1) fun u s2 ⟨y,H2,I2,r2,q2⟩ =>
  thn (ho pins s2 σ H2 x y v u _ I2 r1 r2 q2) fun d s3 ⟨z,H3,I3,r3,k,e,q3⟩=>?_)) hm
 subst e
 cases r3
 refine wpAny_truthy_bool ?_
 cases k with
 | false=>exact ite_ff ⟨.bl false,H3,I3,rfl,q3⟩
 | true=>exact ite_tt (chain_last (thn (hc pins s3 σ H3 _ I3 q3) fun w' s4 ⟨z',H4,I4,r4,q4⟩=>ho' pins s4 σ H4 y z' u w' Q I4 r2 r4 q4))
theorem zbD {op op':CmpOp}{r r':R2}(ho:OpR X (compareOp op) r)(ho':OpR X (compareOp op') r')(ha:PE X a ta)(hb:PE X b tb)(hc:PE X c tc)
  (hm:lastMarks [op,op'] [b,c]=false:=by with_unfolding_all rfl):PT X (.Compare a [op,op'] [b,c] pos) (zev (g0 r r' ta tb tc)):=by
 intro pins s σ H Q I h
 refine isTrue_chain (thn (ha pins s σ H _ I h) fun v s1 ⟨x,H1,I1,r1,q1⟩=>test_link (thn (hb pins s1 σ H1 _ I1 q1) fun u s2 ⟨y,H2,I2,r2,q2⟩ =>
  thn (ho pins s2 σ H2 x y v u _ I2 r1 r2 q2) fun d s3 ⟨z,H3,I3,r3,k,e,q3⟩=>?_)) hm
 subst e
 cases r3
 refine wpAny_truthy_bool ?_
 cases k with
 | false =>
  obtain ⟨k',e',q'⟩:=q3
  cases e'
  exact ite_ff ⟨H3,I3,q'⟩
 | true =>
  refine ite_tt (test_last (thn (hc pins s3 σ H3 _ I3 q3) fun w' s4 ⟨z',H4,I4,r4,q4⟩=>thn (ho' pins s4 σ H4 y z' u w' _ I4 r2 r4 q4) fun d' s5 ⟨z2,H5,I5,r5,k2,e2,q5⟩=>?_))
  subst e2
  cases r5
  exact wpAny_truthy_bool ⟨H5,I5,q5⟩
theorem kZ:(sizeLine:Nat) < 2 ^ 63:=by rw[sizeLine_eq];decide
theorem x6 {x:V}{us:List Value}(r:Vals [x] us):∃u,us=[u]/\RelV x u:=by
 cases r with
 | cons r1 r2=>cases r2;exact ⟨_,rfl,r1⟩
theorem zbE {x y:V}{us:List Value}(r:Vals [x,y] us):∃u w',us=[u,w']/\RelV x u/\RelV y w':=by
 cases r with
 | cons r1 r2 =>
  cases r2 with
  | cons r3 r4=>cases r4;exact ⟨_,_,rfl,r1,r3⟩
theorem zaS (hc:X.calm=true):CallR X (.builtin "max") (fun xs H Q=>∃i j,xs=[.int i,.int j]/\Q (.int (if j > i then j else i)) H):=by
 intro pins s σ H xs us Q I r h
 obtain ⟨i,j,rfl,q⟩:=h
 obtain ⟨u,w',rfl,⟨t,rfl⟩,⟨t',rfl⟩⟩:=zbE r
 refine max_two_ints (I.ok.hd hc) fun h' tk k=>⟨_,H,I.kept k,?_,q⟩
 by_cases hj:j > i
 .rw[if_pos hj,if_pos hj];exact ⟨_,rfl⟩
 .rw[if_neg hj,if_neg hj];exact ⟨_,rfl⟩
theorem zaT (hc:X.calm=true):CallR X (.builtin "min") (fun xs H Q=>∃i j,xs=[.int i,.int j]/\Q (.int (if j < i then j else i)) H):=by
 intro pins s σ H xs us Q I r h
 obtain ⟨i,j,rfl,q⟩:=h
 obtain ⟨u,w',rfl,⟨t,rfl⟩,⟨t',rfl⟩⟩:=zbE r
 refine min_two_ints (I.ok.hd hc) fun h' tk k=>⟨_,H,I.kept k,?_,q⟩
 by_cases hj:j < i
 .rw[if_pos hj,if_pos hj];exact ⟨_,rfl⟩
 .rw[if_neg hj,if_neg hj];exact ⟨_,rfl⟩
theorem zaU:CallR X (.type "int") (fun xs H Q=>(∃i,xs=[.int i]/\Q (.int i) H)\/∃k,xs=[.bl k]/\Q (.int (if k then 1 else 0)) H):=by
 intro pins s σ H xs us Q I r h
 rcases h with ⟨i,rfl,q⟩ | ⟨k,rfl,q⟩
 .obtain ⟨u,rfl,t,rfl⟩:=x6 r
  exact call_int_int ⟨.int i,H,I,⟨_,rfl⟩,q⟩
 .obtain ⟨u,rfl,r1⟩:=x6 r
  cases r1
  exact call_int_bool ⟨.int (if k then 1 else 0),H,I.tok _,⟨_,rfl⟩,q⟩
end
structure ObjM (h:Heap)(x dx C:Addr)(mA:Str->Option Value):Prop where
 obj:h.get? x=some (PySem.W.instObj C dx)
 ns:h.Ns1 dx mA
 ne:dx≠x
set_option tactic.hygienic true in
theorem zaV {h:Heap}{dx:Addr}{mA:Str->Option Value}(n:h.Ns1 dx mA):∃od,h.get? dx=some od/\∀name,PySem.W.lookIn name od=some (mA name):=by
 obtain ⟨o,es,ep,ho,hd,hk,_,hm⟩:=n
 refine ⟨o,ho,fun name=>?_⟩
 have e:=hm name
 unfold nsFind findBy at e
 rw[<- Array.find?_toList] at e
 unfold PySem.W.lookIn
 rw[hd]
 dsimp only
 split
 .rename_i y q
  rw[q] at e
  exact congrArg some e
 .rename_i q
  rw[q] at e
  have a:es.toList.any (·.refKey)=false:=by
   rw[List.any_eq_false]
   intro y hy
   obtain ⟨z,t,hkey⟩:=hk y (Array.mem_toList_iff.mp hy)
   simp[DictEntry.refKey,hkey]
  have a':¬ es.toList.any (·.refKey)=true:=by rw[a];exact Bool.false_ne_true
  rw[if_neg a']
  exact congrArg some e
theorem ObjM.look {h:Heap}{x dx C:Addr}{mA:Str->Option Value}(I:ObjM h x dx C mA):∃od,PySem.W.InstAt h x (PySem.W.instObj C dx) C (some od)/\∀name,PySem.W.lookIn name od=some (mA name) :=
 let ⟨od,ho,hl⟩:=zaV I.ns
 ⟨od,⟨I.obj,rfl,rfl,ho⟩,hl⟩
section
variable {P:Program}{w:World}{H:Hp}{h:Heap}{a C dx:Addr}{fs:List (Str×V)}
theorem zdg (hok:HOk P w H h)(e:H a=some (.ins C dx fs)):∃mA,ObjM h a dx C mA/\(∀f,zeN (fs.lookup f) (mA f))/\PySem.Within mA (fs.map (·.1))/\fs.length<=1000/\H dx=some (.own a):=by
 obtain ⟨d,z,ne,ob,mA,n,r,q⟩:=(show ObjOk P w H h a (.ins C dx fs) from hok a _ e)
 exact ⟨mA,⟨ob,n,ne⟩,r,q,z,d⟩
end
structure Cls (K:PySem.W.Frag)(C:Addr):Prop where
 pg:PySem.W.plainGet K C Str.empty=true
 hd:PySem.W.hasDictIn K C=true
 po:PySem.W.plainOver K C=true
 sa:PySem.W.findIn K (.ref C) "__setattr__" = some (some (.builtin "object.__setattr__"))
theorem Cls.get {K:PySem.W.Frag}{C:Addr}(c:Cls K C)(f:Str):PySem.W.plainGet K C f=true:=c.pg
section
variable {X:Cx}{pins:List (Addr×Obj)}{σ:St}{H:Hp}{s:Shared}{A:Around}{E:Value->Shared->Prop}{Q:Value->Shared->Prop}{c:Value}{b:Bool}
inductive TyOf (K:PySem.W.Frag)(H:Hp):V->Value->Prop where
 | non:TyOf K H .non (.type "NoneType")
 | bl (x:Bool):TyOf K H (.bl x) (.type "bool")
 | int (i:Int):TyOf K H (.int i) (.type "int")
 | str (x:Str):TyOf K H (.str x) (.type "str")
 | flt (x:UInt64):TyOf K H (.flt x) (.type "float")
 | lst {a:Addr}{xs:List V}(e:H a=some (.lst xs)):TyOf K H (.ref a) (.type "list")
 | frz {a:Addr}{o:Obj}{xs:List V}(e:H a=some (.frz o (.lst xs))):TyOf K H (.ref a) (.type "list")
 | tup {a:Addr}{xs:List V}(e:H a=some (.tup xs)):TyOf K H (.ref a) (.type "tuple")
 | dK {a:Addr}{kvs:List (Key×V)}(e:H a=some (.dK kvs)):TyOf K H (.ref a) (.type "dict")
 | dT {a:Addr}{kvs:List (List Key×V)}(e:H a=some (.dT kvs)):TyOf K H (.ref a) (.type "dict")
 | ins {a C dx:Addr}{fs:List (Str×V)}(e:H a=some (.ins C dx fs)) (cl:Cls K C) (ha:PySem.W.findIn K (.ref C) "__class__" = some (some (.builtin "object.__class__")))
   (hn:PySem.W.specialIn K (.builtin "object.__class__") "__get__" = some (some (.builtin "getset_descriptor.__get__"))) (htk:PySem.W.takesIn K (.builtin "object.__class__")=some true)
   (hm:PySem.W.mroIn K C (.type "object")=some true):TyOf K H (.ref a) (.ref C)
theorem yZ {x:V}{u t:Value}(I:Inv X pins σ H s)(rx:RelV x u)(ty:TyOf X.K H x t)(e:PySem.W.kitOne X.K t c=some b)(h:∀tk,Q (.bool b) { s with toks:=tk }):
  wpAny (model X.prog X.w) A (call (.builtin "isinstance") [u,c]) Q E s:=by
 cases ty with
 | non=>cases (show u=Value.none from rx);exact PySem.W.kia_one PySem.W.kitx_none I.kIn True.intro e (fun z=>nomatch z) h
 | bl y=>cases (show u=Value.bool y from rx);exact PySem.W.kia_one PySem.W.kitx_bool I.kIn True.intro e (fun z=>nomatch z) h
 | int i=>obtain ⟨t,q⟩:=(show ∃t,u=Value.int i t from rx);cases q;exact PySem.W.kia_one PySem.W.kitx_int I.kIn True.intro e (fun z=>nomatch z) h
 | str y=>obtain ⟨t,q⟩:=(show ∃t,u=Value.str y t from rx);cases q;exact PySem.W.kia_one PySem.W.kitx_str I.kIn True.intro e (fun z=>nomatch z) h
 | flt y=>obtain ⟨t,q⟩:=(show ∃t,u=Value.float y t from rx);cases q;exact PySem.W.kia_one PySem.W.kitx_float I.kIn True.intro e (fun z=>nomatch z) h
 | @lst a xs ea =>
  cases (show u=Value.ref a from rx)
  obtain ⟨_,_,n,_,h1⟩:=(show ObjOk X.prog X.w H s.heap a (.lst xs) from I.hok a _ ea)
  exact PySem.W.kia_one PySem.W.kitx_list I.kIn ⟨_,h1,rfl⟩ e (fun z=>nomatch z) h
 | @frz a ob xs ea =>
  cases (show u=Value.ref a from rx)
  obtain ⟨_,_,_,n,_,h1⟩:=(show ObjOk X.prog X.w H s.heap a (.frz ob (.lst xs)) from I.hok a _ ea)
  exact PySem.W.kia_one PySem.W.kitx_list I.kIn ⟨_,h1,rfl⟩ e (fun z=>nomatch z) h
 | @tup a xs ea =>
  cases (show u=Value.ref a from rx)
  obtain ⟨_,_,_,p⟩:=(show ObjOk X.prog X.w H s.heap a (.tup xs) from I.hok a _ ea)
  obtain ⟨o,h1,h2,_⟩:=p
  exact PySem.W.kia_one PySem.W.kitx_tuple I.kIn ⟨o,h1,h2⟩ e (fun z=>nomatch z) h
 | @dK a kvs ea =>
  cases (show u=Value.ref a from rx)
  obtain ⟨_,_,vs,_,p⟩:=(show ObjOk X.prog X.w H s.heap a (.dK kvs) from I.hok a _ ea)
  obtain ⟨o,es,ep,h1,h2,_⟩:=p
  exact PySem.W.kia_one PySem.W.kitx_dict I.kIn ⟨o,h1,h2.1⟩ e (fun z=>nomatch z) h
 | @dT a kvs ea =>
  cases (show u=Value.ref a from rx)
  obtain ⟨_,_,xs,_,o,es,ep,h1,h2,_⟩:=(show ObjOk X.prog X.w H s.heap a (.dT kvs) from I.hok a _ ea)
  exact PySem.W.kia_one PySem.W.kitx_dict I.kIn ⟨o,h1,h2.1⟩ e (fun z=>nomatch z) h
 | @ins a C dx fs ea cl ha hn htk hm =>
  cases (show u=Value.ref a from rx)
  obtain ⟨mA,O,_⟩:=zdg I.hok ea
  obtain ⟨od,J,_⟩:=O.look
  exact PySem.W.kia_one (PySem.W.kitx_own (cl.get _) cl.hd ha hn htk hm) I.kIn J e (fun z=>nomatch z) h
end
structure Room (k:Nat)(A:Around):Prop where
 hd:A.handled=none
 dp:A.depth+3 * k+5 < recursionLimit
 un:A.units+16 * k+200 < cLine
theorem Room.deeper {k:Nat}{A:Around}(r:Room (k+1) A)(env:Env):Room k (A.deeper env) :=
 ⟨r.hd,by have:=r.dp;show A.depth+1+3 * k+5 < _;lia,by have:=r.un;show A.units+3+16 * k+200 < _;lia⟩
theorem Room.depth {k:Nat}{A:Around}(r:Room k A):A.depth < recursionLimit:=by have:=r.dp;lia
theorem Room.units {k:Nat}{A:Around}(r:Room k A):A.units+64 < cLine:=by have:=r.un;lia
def zgE:TA:=fun _ H Q=>Q [] H
def zbF (ta:TE)(tr:TA):TA:=fun σ H Q=>ta σ H fun x H1=>tr σ H1 fun xs H2=>Q (x::xs) H2
section
variable {X:Cx}{e:Expr}{es:List Expr}{te:TE}{t:TA}{pos:Pos}
theorem vp:PA X [] zgE:=fun _ _ _ _ H Q I h=>Calls.spliced_nil ⟨[],H,I,.nil,h⟩
theorem yP (ha:PE X e te)(hr:PA X es t)(hs:starEach (e::es) X.env=(false,eval e X.env)::starEach es X.env:=by rfl):PA X (e::es) (zbF te t):=by
 intro pos pins s σ H Q I h
 rw[hs]
 show wpAny _ _ (spliced ((false,eval e X.env)::backTo pos (starEach es X.env))) _ _ s
 refine Calls.spliced_cons (thn (ha pins s σ H _ I h) fun u s1 ⟨x,H1,I1,r1,q1⟩=>?_)
 exact thn (hr pos pins s1 σ H1 _ I1 q1) fun us s2 ⟨xs,H2,I2,r2,q2⟩=>⟨x::xs,H2,I2,.cons r1 r2,q2⟩
def tTup (t:TA):TE:=fun σ H Q=>t σ H fun xs H1=>xs.length<=sizeLine/\∀p,H1 p=none->Q (.ref p) (upd H1 p (.tup xs))
def tLst (t:TA):TE:=fun σ H Q=>t σ H fun xs H1=>xs.length<=sizeLine/\∀p,H1 p=none->Q (.ref p) (upd H1 p (.lst xs))
theorem zfb {x1}(h:PA X es t):PE X (.Tuple es x1 pos) (tTup t):=by
 intro pins s σ H Q I hq
 refine wpAny_Tuple_spliced (thn (h pos pins s σ H _ I hq) fun us s1 ⟨xs,H1,I1,r,z,q⟩=>⟨by rw[<- r.length];exact z,?_⟩)
 have hf:H1 s1.heap.objs.size=none:=I1.hok.fresh (Nat.le_refl _)
 refine ⟨.ref s1.heap.objs.size,upd H1 s1.heap.objs.size (.tup xs),I1.laid (t':=s1.toks) (fun b u e=>Heap.get?_push_of_some _ e) (Nat.le_refl _) ?_,rfl,q _ hf⟩
 exact ⟨z,us,r,⟨_,Heap.get?_push_size _ rfl,rfl,_,rfl⟩⟩
theorem zfc (h:PA X es t):PE X (.List es pos) (tLst t):=by
 intro pins s σ H Q I hq
 refine wpAny_List_spliced (thn (h pos pins s σ H _ I hq) fun us s1 ⟨xs,H1,I1,r,z,q⟩=>⟨by rw[<- r.length];exact z,?_⟩)
 have hf:H1 s1.heap.objs.size=none:=I1.hok.fresh (Nat.le_refl _)
 refine ⟨.ref s1.heap.objs.size,upd H1 s1.heap.objs.size (.lst xs),I1.laid (t':=s1.toks) (fun b u e=>Heap.get?_push_of_some _ e) (Nat.le_refl _) ?_,rfl,q _ hf⟩
 exact ⟨z,us,0,r,Heap.get?_push_size _ rfl⟩
end
abbrev Sp:=List V->Hp->VK->XK->Prop
abbrev CXT:=List Env->Hp->Shared->XK->Value->Shared->Prop
structure Env0 (P:Program)(w:World)(K:PySem.W.Frag)(mg:Str->Option Value)(base:Heap)(A:Around)(outer:List Env)(s:Shared)(H:Hp):Prop where
 frames:A.frames=some outer
 mod:Mod K mg base
 bs:∀b o,base.get? b=some o->s.heap.get? b=some o/\H b=none
 bsz:base.objs.size<=s.heap.objs.size
 funs:s.heap.FunFrames base outer
 frf:∀b∈frs outer,H b=none
 hok:HOk P w H s.heap
 bare:AllBare s.gens
def CE (outer:List Env)(P:Program)(w:World)(H:Hp)(s:Shared)(Q:VK)(u:Value)(s':Shared):Prop :=
 ∃v H',s'.os=s.os/\AllBare s'.gens/\Un (frs outer) [] H H' s.heap s'.heap/\HOk P w H' s'.heap/\RelV v u/\Q v H'
def CR (CX:CXT)(outer:List Env)(P:Program)(w:World)(H:Hp)(s:Shared)(Q:VK)(E:XK)(r:Result)(s':Shared):Prop :=
 match r with
 | .ok (.ret u)=>CE outer P w H s Q u s'
 | .ok _=>False
 | .error e=>CX outer H s E e s'
structure FnOk (P:Program)(w:World)(K:PySem.W.Frag)(mg:Str->Option Value)(base:Heap)(CX:CXT)(k:Nat)(f:Addr)(fd:FuncData)(ps:List Str)(sp:Sp):Prop where
 len:∀vs H Q E,sp vs H Q E->vs.length=ps.length
 run:∀ (A:Around) (outer:List Env) (s:Shared) (H:Hp) (args:Args) (us:List Value) (vs:List V) (Q:VK) (E:XK),Room k A->Env0 P w K mg base A outer s H->BindsTo s fd args (ps.zip us)->Vals vs us->sp vs H Q E ->
  codeAny (model P w) A (.call (.ref f) args) (CR CX outer P w H s Q E) s
section
variable {X:Cx}{pins:List (Addr×Obj)}{σ:St}{H:Hp}{s s':Shared}
theorem Inv.env0 (I:Inv X pins σ H s):Env0 X.prog X.w X.K X.mg X.base X.A X.stack s H :=
 ⟨I.ok.frames,I.ok.mod,I.bs,Nat.le_trans I.ok.bsz I.sz,I.stack,I.stkFree,I.hok,I.bare⟩
theorem Inv.after {Q:VK}{u:Value}(I:Inv X pins σ H s)(h:CE X.stack X.prog X.w H s Q u s'):EP X pins σ Q u s':=by
 obtain ⟨v,H',os,bare,un,hok,r,q⟩:=h
 obtain ⟨hh,g,d,t,os'⟩:=s'
 obtain rfl:os'=s.os:=os
 exact ⟨v,H',I.call (h':=hh) (g':=g) (d':=d) (t':=t) (ch:=[]) un hok bare (fun b z=>absurd z (by simp)),r,q⟩
end
def zgF (sp:Sp)(dvs:List V)(E:XK)(t:TA):TE:=fun σ H Q=>t σ H fun vs H1=>sp (vs++dvs) H1 Q E
def Binds (K:PySem.W.Frag)(fd:FuncData)(ps:List Str)(ds:List Value):Prop :=
 ∀ (s:Shared) (us:List Value),K.In s.heap->(us++ds).length=ps.length->BindsTo s fd ⟨us,[]⟩ (ps.zip (us++ds))
theorem Binds.all {K:PySem.W.Frag}{fd:FuncData}{ps:List Str}(h:∀us:List Value,us.length=ps.length->bindArgs fd ⟨us,[]⟩=pure (ps.zip us)):Binds K fd ps []:=fun s us _ hl=>by
 rw[List.append_nil] at hl ⊢
 exact .of_eq (h us hl)
def g6 (CX:CXT)(X:Cx)(E:XK):Prop:=∀ (pins:List (Addr×Obj)) (σ:St) (H:Hp) (s:Shared) (e:Value) (s':Shared),Inv X pins σ H s->CX X.stack H s E e s'->X.xe e s'
section
variable {X:Cx}{CX:CXT}{k:Nat}{f:Addr}{fd:FuncData}{ps:List Str}{sp:Sp}{dvs:List V}{ds:List Value}{E:XK}{x:Str}{p pos:Pos}{e:Expr}{es:List Expr}{t:TA}
theorem zfd {pins:List (Addr×Obj)}{σ:St}{H:Hp}{s:Shared}{Q:VK}{us:List Value}{vs:List V}(F:FnOk X.prog X.w X.K X.mg X.base CX k f fd ps sp)(hr:Room k X.A)(hb:Binds X.K fd ps ds)(hd:Vals dvs ds)(hx:g6 CX X E)
  (I:Inv X pins σ H s) (r:Vals vs us) (h:sp (vs++dvs) H Q E):wpAny (model X.prog X.w) X.A (call (.ref f) us) (EP X pins σ Q) X.xe s:=by
 have r2:Vals (vs++dvs) (us++ds):=r.append hd
 have hl:(us++ds).length=ps.length:=by rw[<- r2.length];exact F.len _ _ _ _ h
 refine wpAny_call (codeAny_mono (F.run X.A X.stack s H ⟨us,[]⟩ (us++ds) (vs++dvs) Q E hr I.env0 (hb s us I.kIn hl) r2 h) fun r s' hq=>?_)
 cases r with
 | error e=>exact hx pins σ H s e s' I hq
 | ok fl =>
  cases fl with
  | ret u=>exact I.after hq
  | next=>exact False.elim hq
  | brk=>exact False.elim hq
  | cont=>exact False.elim hq
theorem zdh (F:FnOk X.prog X.w X.K X.mg X.base CX k f fd ps sp)(hr:Room k X.A)(hg:Gl X x)(hm:X.mg x=some (.ref f))(hk:PySem.W.keepIn X.K (.ref f)=true)(hb:Binds X.K fd ps ds)(hd:Vals dvs ds)(hx:g6 CX X E)
  (ha:PA X (e::es) t) (hdb:(x == ("__debug__" : Str))=false:=by decide) (he:starEach (e::es) X.env=(false,eval e X.env)::starEach es X.env:=by rfl) (hpl:(backTo pos (starEach es X.env)).any (·.1)=false:=by rfl) :
  PE X (.Call (.Name x p) (e::es) [] pos) (zgF sp dvs E t):=by
 intro pins s σ H Q I h
 refine wpAny_Call_Name_kw (qQ I hg hm ?_ hdb)
 refine PySem.W.callWith_K (h₀:=X.base) I.ok.mod.kin hk (thn (ha pos pins s σ H _ I h) fun us s1 ⟨vs,H1,I1,r,q⟩=>⟨I1.kIn,?_⟩) he hpl
 exact zfd F hr hb hd hx I1 r q
end
structure FnScope (N P:List Str)(sc:Scope):Prop where
 kind:sc.kind=.function
 co:sc.isCoroutine=false
 gen:sc.isGenerator=false
 nd:N.Nodup
 pre:N.take P.length=P
 par:∀x∈P,sc.names.lookup x=some .local\/sc.names.lookup x=some .cell
 nofree:∀y∈sc.names,y.2≠.free
theorem kq {kindOf:Str->Option NameKind}{x:Str}:∀ {binds:List (Str×Value)}{m:Str->Option Value},(∀v,(x,v)∉binds)->bindL kindOf binds m x=m x
 | [],_,_=>rfl
 | (n,v)::r,m,h=>by
  unfold bindL
  rw[kq fun w hw=>h w (List.mem_cons_of_mem _ hw)]
  split
  .have:x≠n:=by rintro rfl;exact h v List.mem_cons_self
   simp[this]
  .rfl
theorem kr {kindOf:Str->Option NameKind}{x:Str}:∀ {binds:List (Str×Value)}{m:Str->Option Value},(∀v,(x,v)∉binds)->bindC kindOf binds m x=m x
 | [],_,_=>rfl
 | (n,v)::r,m,h=>by
  unfold bindC
  rw[kr fun w hw=>h w (List.mem_cons_of_mem _ hw)]
  split
  .rfl
  .have:x≠n:=by rintro rfl;exact h v List.mem_cons_self
   simp[this]
theorem ku {kindOf:Str->Option NameKind}{x:Str}{v:Value}:∀ {P:List Str}{vs:List Value}{i:Nat}{m:Str->Option Value},P.Nodup->P[i]?=some x->vs[i]?=some v->kindOf x=some .local ->
  bindL kindOf (P.zip vs) m x=some v
 | [],_,_,_,_,h,_,_=>by simp at h
 | _::_,[],_,_,_,_,h,_=>by simp at h
 | p::P,w::vs,0,m,nd,h1,h2,hk=>by
  simp at h1 h2;subst h1;subst h2
  show bindL kindOf ((p,w)::P.zip vs) m p=_
  unfold bindL
  rw[kq fun v hv=>(List.nodup_cons.mp nd).1 (List.of_mem_zip hv).1,if_pos hk]
  simp
 | p::P,w::vs,i+1,m,nd,h1,h2,hk=>by
  show bindL kindOf ((p,w)::P.zip vs) m x=_
  unfold bindL
  exact ku (i:=i) (List.nodup_cons.mp nd).2 (by simpa using h1) (by simpa using h2) hk
theorem kv {kindOf:Str->Option NameKind}{x:Str}{v:Value}:∀ {P:List Str}{vs:List Value}{i:Nat}{m:Str->Option Value},P.Nodup->P[i]?=some x->vs[i]?=some v->kindOf x≠some .local ->
  bindC kindOf (P.zip vs) m x=some v
 | [],_,_,_,_,h,_,_=>by simp at h
 | _::_,[],_,_,_,_,h,_=>by simp at h
 | p::P,w::vs,0,m,nd,h1,h2,hk=>by
  simp at h1 h2;subst h1;subst h2
  show bindC kindOf ((p,w)::P.zip vs) m p=_
  unfold bindC
  rw[kr fun v hv=>(List.nodup_cons.mp nd).1 (List.of_mem_zip hv).1,if_neg hk]
  simp
 | p::P,w::vs,i+1,m,nd,h1,h2,hk=>by
  show bindC kindOf ((p,w)::P.zip vs) m x=_
  unfold bindC
  exact kv (i:=i) (List.nodup_cons.mp nd).2 (by simpa using h1) (by simpa using h2) hk
noncomputable def start (N:List Str)(vs:List V):St:=vs.map some++List.replicate (N.length - vs.length) none
noncomputable def jR (CX:CXT)(P:Program)(w:World)(K:PySem.W.Frag)(mg:Str->Option Value)(base:Heap)(N:List Str)(qual:Str)(scope:Scope)(f:Addr)(cd:Value)(A:Around)(outer:List Env)(s:Shared)(H:Hp)(E:XK):Cx where
 prog:=P
 w:=w
 K:=K
 mg:=mg
 base:=base
 A:=A.deeper (envOfC qual scope s.heap.objs.size f cd)
 N:=N
 s₀:=s
 H₀:=H
 env:=envOfC qual scope s.heap.objs.size f cd
 outer:=outer
 stack:=envOfC qual scope s.heap.objs.size f cd::outer
 ex:=[]
 calm:=true
 fn:=fun _=>true
 pn:=[]
 xe:=fun e s'=>wpAny (model P w) (A.deeper (envOfC qual scope s.heap.objs.size f cd)) (leaving (envOfC qual scope s.heap.objs.size f cd) e) (fun _ s''=>CX outer H s E e s'') (fun e' s''=>CX outer H s E e' s'') s'
theorem jS {sc:Scope}{n:Nat}{x:Str}(h:sc.names.lookup x=some .cell):∃c,(cellsFrom n sc.names []).lookup x=some c:=by
 have q:=PySem.W.cellsFrom_some sc.names n [] (.inl h)
 exact Option.isSome_iff_exists.mp q
theorem zaW {CX:CXT}{P:Program}{w:World}{K:PySem.W.Frag}{mg:Str->Option Value}{base:Heap}{N ps:List Str}{qual:Str}{scope:Scope}{f:Addr}{cd:Value}{A:Around}{outer:List Env}{s s1:Shared}{H:Hp}{E:XK}{us:List Value}{vs:List V}
  (S:FnScope N ps scope) (hd:A.handled=none) (e0:Env0 P w K mg base A outer s H) (hl:vs.length=ps.length) (r:Vals vs us)
  (x:InCallC s s.heap.objs.size (bindL (envOfC qual scope s.heap.objs.size f cd).kindOf (ps.zip us) fun _=>none) (cellsFrom (s.heap.objs.size+1) scope.names []) (bindC (envOfC qual scope s.heap.objs.size f cd).kindOf (ps.zip us) fun _=>none) s1) :
  Inv (jR CX P w K mg base N qual scope f cd A outer s H E) [] (start N vs) H s1:=by
 have hpl:ps.length<=N.length:=by have:=congrArg List.length S.pre;rw[List.length_take] at this;lia
 obtain ⟨h1,tk,rfl,hk⟩:=x.done
 have noA:∀b:Addr,b∉(jR CX P w K mg base N qual scope f cd A outer s H E).ex:=fun b z=>absurd (show b∈([]:List Addr) from z) (by simp)
 refine ⟨⟨e0.mod,S.kind,rfl,rfl,Nat.le_refl _,fun y z c h1 h2=>?_,fun y hy=>?_,fun y c _ h=>?_,fun _=>hd,Around.frames_deeper e0.frames,.inr ⟨rfl,rfl⟩,fun b z=>absurd z (noA b),e0.bs,e0.bsz,fun b _ _=>noA b,fun b z=>absurd z (noA b),e0.funs,e0.frf⟩,
  rfl,e0.bare,Un.kept hk,⟨_,x.toInCall.ns,fun i y v h1 h2 h3=>?_⟩,fun y c h=>⟨_,x.cell y c h⟩,e0.hok.fresh (Nat.le_refl _),fun y c h=>?_,fun p hp=>absurd (show p∈([]:List (Addr×Obj)) from hp) (by simp),e0.hok.kept hk,?_⟩
 .exact name_of_addr x.apart (PySem.mem_of_lookup h1) (PySem.mem_of_lookup h2)
 .have hy:scope.names.lookup y=some .cell\/scope.names.lookup y=some .free:=hy
  rcases hy with hy | hy
  .exact jS hy
  .exact absurd rfl (S.nofree _ (PySem.mem_of_lookup hy))
 .exact Nat.le_of_lt (x.above y c (PySem.mem_of_lookup h))
 .have hi:i < vs.length:=by
   unfold start at h2
   by_cases hi:i < vs.length
   .exact hi
   .rw[List.getElem?_append_right (by simpa using hi)] at h2
    rw[List.getElem?_replicate] at h2
    split at h2 <;> cases h2
  have ha:vs[i]?=some v:=by
   unfold start at h2
   rw[List.getElem?_append_left (by simpa using hi),List.getElem?_map] at h2
   cases e:vs[i]? with
   | none=>rw[e] at h2;cases h2
   | some a=>rw[e] at h2;cases h2;rfl
  obtain ⟨u,hu,rv⟩:=r.get ha
  have hp:ps[i]?=some y:=by
   rw[<- S.pre,List.getElem?_take_of_lt (by lia)];exact h1
  have ndP:ps.Nodup:=by rw[<- S.pre];exact S.nd.sublist (List.take_sublist _ _)
  refine ⟨u,rv,?_⟩
  rcases S.par y (List.mem_of_getElem? hp) with k | k
  .exact .inl ⟨k,ku ndP hp hu k⟩
  .obtain ⟨c,e⟩:=jS (n:=s.heap.objs.size+1) k
   refine .inr ⟨.inl k,c,e,?_⟩
   have q:=x.cell y c e
   rw[kv ndP hp hu (by show scope.names.lookup y≠_;rw[k];decide)] at q
   exact q
 .exact e0.hok.fresh (Nat.le_of_lt (x.above y c (PySem.mem_of_lookup h)))
 .unfold start
  show _=N.length
  rw[List.length_append,List.length_map,List.length_replicate]
  lia
set_option tactic.hygienic true in
theorem zgG {CX:CXT}{P:Program}{w:World}{K:PySem.W.Frag}{mg:Str->Option Value}{base:Heap}{k:Nat}{f:Addr}{name qual:Str}{params:Arguments}{body:List Stmt}{scope:Scope}{dV kV doc pm cdv ct oc:Value}{an od:Option Addr}
  {osl:Array (Option Value)}{N ps:List Str}{sp:Sp}(lk:K.lookup f=some ⟨oc,od,.func (PySem.W.fnOf name qual params body scope dV kV doc pm an cdv ct),osl⟩) (hcd:PySem.W.codeIn K cdv qual=true) (S:FnScope N ps scope)
  (len:∀vs H Q E,sp vs H Q E->vs.length=ps.length)
  (hbody:∀ (A:Around) (outer:List Env) (s:Shared) (H:Hp) (vs:List V) (Q:VK) (E:XK),Room k (A.deeper (envOfC qual scope s.heap.objs.size f cdv))->sp vs H Q E ->
   ∃t,PSs (jR CX P w K mg base N qual scope f cdv A outer s H E) body t/\t { nx:=fun _ H'=>Q .non H',rt:=Q } (start N vs) H) :
  FnOk P w K mg base CX (k+1) f (PySem.W.fnOf name qual params body scope dV kV doc pm an cdv ct) ps sp:=by
 refine ⟨len,fun A outer s H args us vs Q E hr e0 hb r hsp=>?_⟩
 have hl:=len _ _ _ _ hsp
 have KX:K.In s.heap:=e0.mod.kin.keeps fun b o e=>(e0.bs b o e).1
 have lim:s.heap.NoLimit:=e0.mod.nolimit.keeps fun b o e=>(e0.bs b o e).1
 have hkind:∀y∈ps.zip us,scope.names.lookup y.1=some .local\/(scope.names.lookup y.1=some .cell/\((cellsFrom (s.heap.objs.size+1) scope.names []).lookup y.1).isSome=true):=fun ⟨n,v⟩ hy=>by
  rcases S.par n (List.of_mem_zip hy).1 with q | q
  .exact .inl q
  .exact .inr ⟨q,PySem.W.cellsFrom_some _ _ _ (.inl q)⟩
 refine codeAny_call_function hr.depth (KX _ _ lk) rfl S.co S.gen rfl (PySem.W.codeRec_of KX hcd) (hb _ _ _ _ ?_)
 refine wpAny_newFunctionEnv_cells S.kind hkind fun env he s1 x=>?_
 subst he
 refine ⟨lim.keeps x.toInCall.keep,codeAny_func ?_⟩
 obtain ⟨t,ht,hq⟩:=hbody A outer s H vs Q E (hr.deeper _) hsp
 have I:Inv (jR CX P w K mg base N qual scope f cdv A outer s H E) [] (start N vs) H s1:=zaW S hr.hd e0 hl r x
 refine wpAny_mono (ht [] s1 (start N vs) H _ I hq) (fun fl s' hs=>?_) fun e s' hs=>hs
 have fin:∀ {σ':St}{H':Hp}{v:V}{u:Value},Inv (jR CX P w K mg base N qual scope f cdv A outer s H E) [] σ' H' s'->RelV v u->Q v H'->CE outer P w H s Q u s' :=
  fun {σ' H' v u} J rv q=>⟨v,H',J.os,J.bare,J.base,J.hok,rv,q⟩
 cases fl with
 | ret u =>
  obtain ⟨v,σ',H',J,rv,q⟩:=hs
  exact fin J rv q
 | next =>
  obtain ⟨σ',H',J,q⟩:=hs
  exact fin (v:=V.non) (u:=Value.none) J rfl q
 | brk =>
  obtain ⟨_,_,_,q⟩:=hs
  exact False.elim q
 | cont =>
  obtain ⟨_,_,_,q⟩:=hs
  exact False.elim q
section
variable {X:Cx}{x:Str}{p pos:Pos}{e:Expr}{es:List Expr}{t:TA}{id T:String}{r:List V->Hp->VK->Prop}
def tCB (r:List V->Hp->VK->Prop)(t:TA):TE:=fun σ H Q=>t σ H fun vs H1=>r vs H1 Q
theorem zT (hc:CallR X (.builtin id) r)(hg:Gl X x)(hm:X.mg x=none)(hv:bootBuiltins x=some (.builtin id))(ha:PA X (e::es) t)(hn:x ≠ "__name__" := by decide)(hdb:(x == ("__debug__" : Str))=false:=by decide)
  (he:starEach (e::es) X.env=(false,eval e X.env)::starEach es X.env:=by rfl) (hpl:(backTo pos (starEach es X.env)).any (·.1)=false:=by rfl):PE X (.Call (.Name x p) (e::es) [] pos) (tCB r t):=by
 intro pins s σ H Q I h
 refine wpAny_Call_Name_kw (vn I hg hm hv ?_ hn hdb)
 exact PyProof.Rows.callWith_builtin1 (thn (ha pos pins s σ H _ I h) fun us s1 ⟨vs,H1,I1,r1,q1⟩=>hc pins s1 σ H1 vs us Q I1 r1 q1) he hpl
theorem wz (hc:CallR X (.type T) r)(hg:Gl X x)(hm:X.mg x=none)(hv:bootBuiltins x=some (.type T))(ha:PA X (e::es) t)(hn:x ≠ "__name__" := by decide)(hdb:(x == ("__debug__" : Str))=false:=by decide)
  (he:starEach (e::es) X.env=(false,eval e X.env)::starEach es X.env:=by rfl) (hpl:(backTo pos (starEach es X.env)).any (·.1)=false:=by rfl):PE X (.Call (.Name x p) (e::es) [] pos) (tCB r t):=by
 intro pins s σ H Q I h
 refine wpAny_Call_Name_kw (vn I hg hm hv ?_ hn hdb)
 exact PyProof.Rows.callWith_type1 (thn (ha pos pins s σ H _ I h) fun us s1 ⟨vs,H1,I1,r1,q1⟩=>hc pins s1 σ H1 vs us Q I1 r1 q1) he hpl
end
end L2
namespace HT
open PySem PyProof.Rows
noncomputable def lexLt:List Int->List Int->Bool
 | [],[]=>false
 | [],_::_=>true
 | _::_,[]=>false
 | x::xs,y::ys=>if x=y then lexLt xs ys else decide (x < y)
theorem lexLt_cons (x y:Int)(xs ys:List Int):lexLt (x::xs) (y::ys)=if x=y then lexLt xs ys else decide (x < y):=rfl
theorem rcLt_int (A:Around)(s:Shared)(a:Int)(t:Tok)(c:Int)(u:Tok)(prog:Program)(w:World)(E:Value->Shared->Prop)(Q:Value->Shared->Prop)(h:Q (.bool (decide (a < c))) s):
  wpAny (model prog w) A (richCompare .Lt (.int a t) (.int c u)) Q E s :=
 (PyProof.Rows.lt_int h:wpAny (model prog w) A (compareOp .Lt (.int a t) (.int c u)) Q E s)
section
variable {prog:Program}{w:World}{A:Around}{E:Value->Shared->Prop}{s:Shared}
theorem cat_tup {t b:Addr}{vs ws:List Value}{Q:Value->Shared->Prop}(ht:IsTup s.heap t vs.toArray)(hb:IsTup s.heap b ws.toArray)(hv:vs≠[])
  (h1:ws=[]->Q (.ref t) s) (h2:ws≠[]->Q (.ref s.heap.objs.size) { s with heap:=s.heap.push { cls:=.type "tuple",data:=.seq (vs++ws).toArray } })
  (hsz:vs.length+ws.length<=sizeLine):wpAny (model prog w) A (binaryOp .Add (.ref t) (.ref b)) Q E s:=by
 obtain ⟨⟨cls,dd,data,sl⟩,ho,hc,n,hd⟩:=id ht
 obtain ⟨⟨cls2,dd2,data2,sl2⟩,ho2,hc2,n2,hd2⟩:=id hb
 simp only at hc hd hc2 hd2
 subst hc hd hc2 hd2
 have e:vs.toArray++ws.toArray=(vs++ws).toArray:=by simp
 by_cases hw:ws=[]
 .exact concat_meets ⟨_,ho,rfl⟩ ⟨_,ho2,rfl⟩ noFill_tuple_add seq_tuple_add PySem.F.slot_tuple_add PySem.F.entry_tuple_add (PySem.F.args_tuple_add_2 _ _)
   (tuple_addW1 t b vs.toArray ws.toArray n n2 dd dd2 sl sl2 (by simpa using hv) (by simp[hw])) ⟨ho,ho2,h1 hw⟩
 .refine concat_meets ⟨_,ho,rfl⟩ ⟨_,ho2,rfl⟩ noFill_tuple_add seq_tuple_add PySem.F.slot_tuple_add PySem.F.entry_tuple_add (PySem.F.args_tuple_add_2 _ _)
   (tuple_addW2 t b vs.toArray ws.toArray n n2 dd dd2 sl sl2 (by simpa using hv) (by simpa using hw) (by rw[List.size_toArray,List.size_toArray];exact hsz)) ⟨ho,ho2,?_⟩
  rw[e]
  exact h2 hw
noncomputable def sIx (n d:Nat):Option Int->Nat
 | none=>d
 | some v=>if v < 0 then (v+(n:Int)).toNat else min v.toNat n
end
end HT
namespace L2
open PySem PySem.Spec PyProof.Rows
abbrev TO:=St->Hp->(Option Int->Hp->Prop)->Prop
section
variable {X:Cx}{p2:Pos}
def zew (K:PySem.W.Frag):R2:=fun x y H Q=>∃a b xs ys,x=.ref a/\y=.ref b/\SqT K H a xs/\SqT K H b ys/\xs≠[]/\xs.length+ys.length<=sizeLine /\
 (ys=[]->Q (.ref a) H)/\(ys≠[]->∀p,H p=none->Q (.ref p) (upd H p (.tup (xs++ys))))
theorem Vals.nil_iff {xs:List V}{us:List Value}(r:Vals xs us):us=[]↔xs=[]:=by
 cases r with
 | nil=>simp
 | cons _ _=>simp
theorem zdi:OpR X (binaryOp .Add) (zew X.K):=by
 intro pins s σ H x y v u Q I rx ry h
 obtain ⟨a,b,xs,ys,rfl,rfl,ha,hb,hx,hz,q1,q2⟩:=h
 cases rx
 cases ry
 obtain ⟨its,r1,p1,_⟩:=I.tuple ha
 obtain ⟨its2,r2,p2,_⟩:=I.tuple hb
 refine HT.cat_tup p1 p2 (fun z=>hx (r1.nil_iff.mp z)) (fun z=>⟨.ref a,H,I,rfl,q1 (r2.nil_iff.mp z)⟩) (fun z=>?_) (by rw[<- r1.length,<- r2.length];exact hz)
 refine ⟨.ref s.heap.objs.size,_,I.laid (t':=s.toks) (o:=.tup (xs++ys)) (fun b ob q=>Heap.get?_push_of_some _ q) (Nat.le_refl _) ?_,rfl,q2 (fun w=>z (r2.nil_iff.mpr w)) _ (I.hok.fresh (Nat.le_refl _))⟩
 exact ⟨by rw[List.length_append];exact hz,_,r1.append r2,IsTup.new _ _⟩
end
noncomputable def ixN (n:Nat)(i:Int):Option Nat:=if 0<=i then (if i < n then some i.toNat else none) else if -(n:Int)<=i then some (i+n).toNat else none
noncomputable def atI {α:Type}(xs:List α)(i:Int):Option α:=(ixN xs.length i).bind fun j=>xs[j]?
theorem zdj {n:Nat}{i:Int}{j:Nat}(h:ixN n i=some j):seqIndex? i n=some j/\j < n/\-(n:Int)<=i/\i < n:=by
 unfold ixN at h
 by_cases h0:0<=i
 .rw[if_pos h0] at h
  by_cases h1:i < n
  .rw[if_pos h1] at h
   have e:i.toNat=j:=Option.some.inj h
   exact ⟨by rw[seqIndex_of h0 h1,e],by lia,by lia,h1⟩
  .rw[if_neg h1] at h;cases h
 .rw[if_neg h0] at h
  by_cases h1:-(n:Int)<=i
  .rw[if_pos h1] at h
   have e:(i+n).toNat=j:=Option.some.inj h
   exact ⟨by rw[seqIndex_neg (by lia) h1,e],by lia,h1,by lia⟩
  .rw[if_neg h1] at h;cases h
theorem k9 {α:Type}{xs:List α}{i:Int}{v:α}(h:atI xs i=some v):∃j,seqIndex? i xs.length=some j/\xs[j]?=some v/\j < xs.length/\-(xs.length:Int)<=i/\i < xs.length:=by
 unfold atI at h
 cases e:ixN xs.length i with
 | none=>rw[e] at h;cases h
 | some j =>
  rw[e] at h
  obtain ⟨h1,h2,h3,h4⟩:=zdj e
  exact ⟨j,h1,h,h2,h3,h4⟩
def qS (b:Expr):Prop:=∀o i,subscripted b false o i=operate [o,i] (getItem o i)
def IxR (X:Cx)(r:R2):Prop :=
 ∀ (value slice:Expr) (pins:List (Addr×Obj)) (s:Shared) (σ:St) (H:Hp) (x y:V) (v u:Value) (Q:VK),Inv X pins σ H s->RelV x v->RelV y u->r x y H Q ->
  subscripted slice false v u=operate [v,u] (getItem v u)->wpAny (model X.prog X.w) X.A (subscriptTail value slice v u) (EP X pins σ Q) X.xe s
def MtR (X:Cx)(id:String)(r:V->List V->Hp->VK->Prop):Prop :=
 ∀ (pins:List (Addr×Obj)) (s:Shared) (σ:St) (H:Hp) (x:V) (xs:List V) (v:Value) (us:List Value) (Q:VK),Inv X pins σ H s->RelV x v->Vals xs us->r x xs H Q ->
  wpAny (model X.prog X.w) X.A (call (.builtin id) (v::us)) (EP X pins σ Q) X.xe s
section
variable {X:Cx}{a b:Expr}{ta tb:TE}{pos:Pos}
theorem IxR.or {r r':R2}(h:IxR X r)(h':IxR X r'):IxR X (fun x y H Q=>r x y H Q\/r' x y H Q):=by
 intro value slice pins s σ H x y v u Q I rx ry q hs
 rcases q with q | q
 .exact h value slice pins s σ H x y v u Q I rx ry q hs
 .exact h' value slice pins s σ H x y v u Q I rx ry q hs
theorem zgH {r:R2}(hr:IxR X r)(ha:PE X a ta)(hb:PE X b tb)(hs:qS b):PE X (.Subscript a b pos) (tOp r ta tb):=by
 intro pins s σ H Q I h
 exact Subscript_ (ze2 ha hb I h fun v u s2 x y H2 I2 rx ry q=>hr a b pins s2 σ H2 x y v u Q I2 rx ry q (hs _ _))
def zgI (K:PySem.W.Frag):R2:=fun x y H Q=>∃p xs i v,x=.ref p/\y=.int i/\SqL K H p xs/\atI xs i=some v/\Q v H
def zgJ (K:PySem.W.Frag):R2:=fun x y H Q=>∃p xs i v,x=.ref p/\y=.int i/\SqT K H p xs/\atI xs i=some v/\Q v H
def zgK:R2:=fun x y H Q=>∃z i c,x=.str z/\y=.int i/\z.length<=sizeLine/\atI z.cps.toList i=some c/\Q (.str ⟨#[c]⟩) H
theorem ix_list:IxR X (zgI X.K):=by
 intro value slice pins s σ H x y v u Q I rx ry h hs
 obtain ⟨p,xs,i,z,rfl,rfl,hq,he,q⟩:=h
 cases rx
 obtain ⟨t,rfl⟩:=ry
 obtain ⟨its,r,pl,hz⟩:=I.list hq
 obtain ⟨j,h1,h2,h3,h4,h5⟩:=k9 he
 obtain ⟨w,ew,rw'⟩:=r.get h2
 have hl:=r.length
 have hn:=kZ
 have fin:EP X pins σ Q w s:=⟨z,H,I,rw',q⟩
 by_cases h0:0<=i
 .have hj:i.toNat=j:=by
   rw[seqIndex_of h0 h5] at h1
   exact Option.some.inj h1
  exact item_listR pl.isList h0 (by lia) (by rw[hj];simpa using ew) fin hs
 .have hj:(i+(its.toArray.size:Int)).toNat=j:=by
   rw[seqIndex_neg (by lia) h4] at h1
   rw[List.size_toArray,<- hl]
   exact Option.some.inj h1
  exact subscriptTail_builtinR (x:=w) pl.isList.typeIs slot_list_getitem.lookup
   (wpAny_getItem_list_neg (Q:=fun r s'=>r=w/\EP X pins σ Q r s') pl.isList (by lia) (by rw[List.size_toArray] <;> lia) (by lia) (by rw[hj];simpa using ew) ⟨rfl,fin⟩) hs
theorem ix_tup:IxR X (zgJ X.K):=by
 intro value slice pins s σ H x y v u Q I rx ry h hs
 obtain ⟨p,xs,i,z,rfl,rfl,hq,he,q⟩:=h
 cases rx
 obtain ⟨t,rfl⟩:=ry
 obtain ⟨its,r,pl,hz⟩:=I.tuple hq
 obtain ⟨j,h1,h2,h3,h4,h5⟩:=k9 he
 obtain ⟨w,ew,rw'⟩:=r.get h2
 have hl:=r.length
 have hn:=kZ
 have fin:EP X pins σ Q w s:=⟨z,H,I,rw',q⟩
 exact subscriptTail_builtinR (x:=w) pl.typeIs slot_tuple_getitem.lookup
  (getItem_tuple (j:=j) (Q:=fun r s'=>r=w/\EP X pins σ Q r s') pl (by lia) (by lia) (by rw[List.size_toArray,<- hl];exact h1) (by simpa using ew) ⟨rfl,fin⟩) hs
theorem zfe:IxR X zgK:=by
 intro value slice pins s σ H x y v u Q I rx ry h hs
 obtain ⟨z,i,c,rfl,rfl,hz,he,q⟩:=h
 obtain ⟨t,rfl⟩:=rx
 obtain ⟨t',rfl⟩:=ry
 obtain ⟨j,h1,h2,h3,h4,h5⟩:=k9 he
 have hl:z.cps.toList.length=z.length:=by simp[Str.length]
 rw[hl] at h1 h4 h5
 have hn:=kZ
 exact tail_any (typeIs_str s z t) slot_str_getitem.lookup (getItem_str (c:=c) (by
  have e1:decide (i < -(2 ^ 63:Int))=false:=decide_eq_false (by lia)
  have e2:decide (i ≥ 2 ^ 63)=false:=decide_eq_false (by lia)
  rw[e1,e2,Bool.or_false]) (by rw[h1];simpa using h2) ⟨.str ⟨#[c]⟩,H,I.tok _,⟨_,rfl⟩,q⟩) hs
def rIx (K:PySem.W.Frag):R2:=fun x y H Q=>zgI K x y H Q\/zgJ K x y H Q\/zgK x y H Q
theorem zff:IxR X (rIx X.K):=ix_list.or (ix_tup.or zfe)
theorem ja:CallR X (.builtin "len") (fun xs H Q=>∃p ys,xs=[.ref p]/\(SqL X.K H p ys\/SqT X.K H p ys)/\Q (.int ys.length) H):=by
 intro pins s σ H xs us Q I r h
 obtain ⟨p,ys,rfl,hq,q⟩:=h
 obtain ⟨u,rfl,rx⟩:=x6 r
 cases rx
 have hn:=kZ
 rcases hq with hq | hq
 .obtain ⟨its,r',pl,hz⟩:=I.list hq
  have hlen:=r'.length
  exact Calls.call_len_list pl.isList (by simp only[List.size_toArray] <;> lia) ⟨.int ys.length,H,I.tok _,⟨s.toks+1,by rw[List.size_toArray,hlen]⟩,q⟩
 .obtain ⟨its,r',pl,hz⟩:=I.tuple hq
  have hlen:=r'.length
  exact len_tuple pl (by simp only[List.size_toArray] <;> lia) ⟨.int ys.length,H,I.tok _,⟨s.toks+1,by rw[List.size_toArray,hlen]⟩,q⟩
theorem jb:CallR X (.type "list") (fun xs H Q=>∃p ys,xs=[.ref p]/\(SqL X.K H p ys\/SqT X.K H p ys)/\∀l,H l=none->Q (.ref l) (upd H l (.lst ys))):=by
 intro pins s σ H xs us Q I r h
 obtain ⟨p,ys,rfl,hq,q⟩:=h
 obtain ⟨u,rfl,rx⟩:=x6 r
 cases rx
 have fin:∀ (its:List Value),Vals ys its->ys.length<=sizeLine->∀ (h':Heap) (c':Nat),(∀b o',s.heap.get? b=some o'->h'.get? b=some o') ->
   h'.get? s.heap.objs.size=some { cls:=.type "list",dict:=none,data:=.seq its.toArray c',slots:=#[] }->EP X pins σ Q (.ref s.heap.objs.size) { s with heap:=h' }:=fun its r' hz h' c' kp e =>
  ⟨.ref s.heap.objs.size,_,I.laid (t':=s.toks) kp (Nat.le_refl _) (show ObjOk X.prog X.w _ h' _ (.lst ys) from ⟨hz,its,c',r',e⟩),rfl,q _ (I.hok.fresh (Nat.le_refl _))⟩
 rcases hq with hq | hq
 .obtain ⟨its,r',pl,hz⟩:=I.list hq
  have hlen:=r'.length
  obtain ⟨o,ho,hc,n,hd⟩:=pl.isList
  exact call_list_seq p (.inl rfl) ho hc hd (fun h' c' kp e=>fin its r' hz h' c' kp e) (by simp only[List.size_toArray] <;> lia)
 .obtain ⟨its,r',pl,hz⟩:=I.tuple hq
  have hlen:=r'.length
  obtain ⟨o,ho,hc,n,hd⟩:=pl
  exact call_list_seq p (.inr rfl) ho hc hd (fun h' c' kp e=>fin its r' hz h' c' kp e) (by simp only[List.size_toArray] <;> lia)
def tyV (K:PySem.W.Frag)(T:String)(x:V)(H:Hp):Prop:=match x with
 | .str _=>T = "str"
 | .int _=>T = "int"
 | .ref p=>(T = "list" /\ ∃xs,SqL K H p xs)\/(T = "tuple" /\ ∃o,K.lookup p=some o/\o.cls=.type "tuple" /\ o.dict=none) \/
   (T = "dict" /\ ((∃kvs,H p=some (.dK kvs))\/∃kvs,H p=some (.dT kvs)))\/(T = "set" /\ ∃S n,H p=some (.set S n))
 | _=>False
theorem zfg {pins:List (Addr×Obj)}{σ:St}{H:Hp}{s:Shared}{T:String}{x:V}{v:Value}(I:Inv X pins σ H s)(r:RelV x v)(ty:tyV X.K T x H):
  s.TypeIs v T/\∀a,v=.ref a->∃ob,s.heap.get? a=some ob/\ob.dict=none:=by
 cases x with
 | str z =>
  obtain ⟨t,rfl⟩:=r
  cases (show T = "str" from ty)
  exact ⟨typeIs_str s z t,fun _ e=>nomatch e⟩
 | int i =>
  obtain ⟨t,rfl⟩:=r
  cases (show T = "int" from ty)
  exact ⟨typeIs_int s i t,fun _ e=>nomatch e⟩
 | ref p =>
  cases r
  rcases ty with ⟨rfl,xs,hq⟩ | ⟨rfl,o,hk,hc,hd⟩ | ⟨rfl,hk⟩ | ⟨rfl,S,n,hk⟩
  .obtain ⟨its,_,pl,_⟩:=I.list hq
   refine ⟨pl.isList.typeIs,fun a e=>?_⟩
   cases e
   obtain ⟨o,n,e,c,hd,_⟩:=pl
   exact ⟨o,e,hd⟩
  .refine ⟨⟨o,I.kIn p o hk,hc⟩,fun a e=>?_⟩
   cases e
   exact ⟨o,I.kIn _ o hk,hd⟩
  .have z:∃o,s.heap.get? p=some o/\o.ExactDict:=by
    rcases hk with ⟨kvs,hk⟩ | ⟨kvs,hk⟩
    .obtain ⟨_,_,_,_,o,_,_,e,ex,_⟩:=I.hok p _ hk
     exact ⟨o,e,ex⟩
    .obtain ⟨_,_,_,_,o,_,_,e,ex,_⟩:=I.hok p _ hk
     exact ⟨o,e,ex⟩
   obtain ⟨o,e,ex⟩:=z
   refine ⟨⟨o,e,ex.1⟩,fun a e2=>?_⟩
   cases e2
   exact ⟨o,e,ex.2.1⟩
  .obtain ⟨o,_,_,_,e,ex,_⟩:=I.hok p _ hk
   refine ⟨⟨o,e,ex.1⟩,fun a e2=>?_⟩
   cases e2
   exact ⟨o,e,ex.2.1⟩
 | _=>exact False.elim ty
def tBM (K:PySem.W.Frag)(T:String)(r:V->List V->Hp->VK->Prop)(to:TE)(t:TA):TE:=fun σ H Q=>to σ H fun x H1=>tyV K T x H1/\t σ H1 fun xs H2=>r x xs H2 Q
variable {o e:Expr}{es:List Expr}{to:TE}{t:TA}{name:Str}{apos cpos:Pos}{T id:String}{r:V->List V->Hp->VK->Prop}
theorem zgL (pa:PlainAttrs T)(slot:Slot T name id)(hty:typeOf (.builtin id)=pure (.type "method_descriptor"))(hm:MtR X id r)(ho:PE X o to)(ha:PA X (e::es) t)
  (hbase:attributeBase o name X.env (eval o X.env)=eval o X.env:=by rfl)
  (hfew:((backTo cpos (starEach (e::es) X.env)).all (fun x=>!x.1) && (backToKw cpos (keywordEach [] X.env)).all (fun x=>x.1.isSome)
   && decide ((e::es).length+([]:List Keyword).length+(if ([]:List Keyword).isEmpty then 0 else 1) < 30))=true:=by rfl)
  (hline:(apos.endLine == cpos.line)=true:=by rfl) (hs:starEach (e::es) X.env=(false,eval e X.env)::starEach es X.env:=by rfl) (hplain:(backTo cpos (starEach es X.env)).any (·.1)=false:=by rfl) :
  PE X (.Call (.Attribute o name apos) (e::es) [] cpos) (tBM X.K T r to t):=by
 intro pins s σ H Q I h
 refine wpAny_Call_method_late hbase hfew hline rfl (thn (ho pins s σ H _ I h) fun v s1 ⟨x,H1,I1,r1,ty,q1⟩=>?_)
 obtain ⟨h1,h2⟩:=zfg I1 r1 ty
 refine ⟨T,id,pa,slot,hty,h1,h2,?_⟩
 have hA:=ha cpos pins s1 σ H1 _ I1 q1
 rw[hs] at hA ⊢
 refine Calls.callWith_builtin (by show (false || (backTo cpos (starEach es X.env)).any (·.1))=false;rw[hplain] <;> rfl) (Calls.evalArgs_plain ?_)
 exact thn hA fun us s2 ⟨vs,H2,I2,r2,q2⟩=>hm pins s2 σ H2 x vs v us Q I2 r1 r2 q2
end
def MtM (X:Cx)(id:String)(r:V->List V->Hp->VK->Prop):Prop :=
 ∀ (pins:List (Addr×Obj)) (s:Shared) (σ:St) (H:Hp) (x:V) (xs:List V) (v:Value) (us:List Value) (Q:VK),Inv X pins σ H s->RelV x v->Vals xs us->r x xs H Q ->
  wpAny (model X.prog X.w) X.A (call (.builtin id) (v::us)) (EP X pins σ Q) X.xe s
theorem Vals.one:∀ {x:V}{us:List Value},Vals [x] us->∃u,us=[u]/\RelV x u
 | _,_,.cons r .nil=>⟨_,rfl,r⟩
theorem Vals.zero:∀ {us:List Value},Vals [] us->us=[]
 | _,.nil=>rfl
theorem Vals.dropLast {xs:List V}{us:List Value}(h:Vals xs us):Vals xs.dropLast us.dropLast:=by
 induction h with
 | nil=>exact .nil
 | cons r t ih =>
  cases t with
  | nil=>exact .nil
  | cons q t'=>exact .cons r ih
theorem Vals.eraseIdx:∀ {xs:List V}{us:List Value}(i:Nat),Vals xs us->Vals (xs.eraseIdx i) (us.eraseIdx i)
 | _,_,_,.nil=>.nil
 | _,_,0,.cons _ t=>t
 | _,_,i+1,.cons r t=>.cons r (Vals.eraseIdx i t)
theorem Vals.reverse {xs:List V}{us:List Value}(h:Vals xs us):Vals xs.reverse us.reverse:=by
 induction h with
 | nil=>exact .nil
 | cons r t ih=>rw[List.reverse_cons,List.reverse_cons];exact Vals.append ih (.cons r .nil)
theorem Vals.rep {xs:List V}{us:List Value}(h:Vals xs us):∀k:Nat,Vals (List.replicate k xs).flatten (List.replicate k us).flatten
 | 0=>.nil
 | k+1=>by
  rw[List.replicate_succ,List.replicate_succ,List.flatten_cons,List.flatten_cons]
  exact Vals.append h (Vals.rep h k)
theorem g7 {α:Type}(l:List α):l.eraseIdx (l.length - 1)=l.dropLast:=by
 induction l with
 | nil=>rfl
 | cons a r ih =>
  cases r with
  | nil=>rfl
  | cons b r =>
   have e:(a::b::r).length - 1=((b::r).length - 1)+1:=by
    have h1:(a::b::r).length=r.length+2:=rfl
    have h2:(b::r).length=r.length+1:=rfl
    lia
   rw[e,List.eraseIdx_cons_succ,ih]
   all_goals rfl
theorem kx (its:List Value):∀ (k:Nat) (acc:List Value),
  List.foldl (fun x1 x2=>x1++x2) acc.toArray (List.replicate k its.toArray)=(acc++(List.replicate k its).flatten).toArray
 | 0,acc=>by simp
 | k+1,acc=>by
  have e:acc.toArray++its.toArray=(acc++its).toArray:=by simp
  have e2:(acc++its)++(List.replicate k its).flatten=acc++(List.replicate (k+1) its).flatten:=by
   rw[List.replicate_succ,List.flatten_cons,List.append_assoc]
  rw[<- e2,<- kx its k (acc++its),<- e,List.replicate_succ,List.foldl_cons]
section
variable {X:Cx}{pins:List (Addr×Obj)}{σ:St}{H:Hp}{s:Shared}{l:Addr}{xs ys:List V}
theorem Inv.lset {its its':List Value}{n:Nat}{f:Array Value->Array Value}{t':Nat}(I:Inv X pins σ H s)(hH:H l=some (.lst xs))
  (e:s.heap.get? l=some { cls:=.type "list",data:=.seq its.toArray n }) (hf:f its.toArray=its'.toArray) (hv:Vals ys its') (hz:ys.length<=sizeLine) :
  Inv X pins σ (upd H l (.lst ys)) { s with heap:=s.heap.update l (Obj.mapSeq f),toks:=t' }:=by
 have q:=PySem.IsL.update e f
 rw[hf] at q
 refine I.write (x:=l) (e:=l) (by rw[hH];exact trivial) (.inl rfl) (fun b' u hb hu=>(Heap.get?_update_other s.heap (Obj.mapSeq f) (Ne.symm hb)).trans hu) ⟨_,q⟩ ?_
 exact ⟨hz,its',_,hv,q⟩
theorem Inv.lnew {its:List Value}{t':Nat}(I:Inv X pins σ H s)(hv:Vals ys its)(hz:ys.length<=sizeLine):
  Inv X pins σ (upd H s.heap.objs.size (.lst ys)) { s with heap:=s.heap.push { cls:=.type "list",data:=.seq its.toArray },toks:=t' } :=
 I.laid (fun _ _ q=>Heap.get?_push_of_some _ q) (Nat.le_refl _) ⟨hz,its,0,hv,Heap.get?_push_size _ rfl⟩
theorem Inv.fresh (I:Inv X pins σ H s):H s.heap.objs.size=none:=I.hok.fresh (Nat.le_refl _)
theorem Inv.lstM (I:Inv X pins σ H s)(hH:H l=some (.lst xs)):xs.length<=sizeLine/\∃ (its:List Value) (n:Nat),Vals xs its/\xs.length=its.length/\s.heap.get? l=some { cls:=.type "list",data:=.seq its.toArray n }:=by
 obtain ⟨z,its,n,r,e⟩:=I.hok l _ hH
 exact ⟨z,its,n,r,r.length,e⟩
theorem zbG {n:Nat}(h:n<=sizeLine):Builtin.List.listTooLong n=false:=by
 unfold Builtin.List.listTooLong
 exact decide_eq_false (by lia)
end
section
variable {X:Cx}
def zdk:V->List V->Hp->VK->Prop:=fun x vs H Q=>∃l xs y,x=.ref l/\vs=[y]/\H l=some (.lst xs)/\xs.length < sizeLine/\Q .non (upd H l (.lst (xs++[y])))
theorem ky:MtM X "list.append" zdk:=by
 intro pins s σ H x vs v us Q I rx rv h
 obtain ⟨l,xs,y,rfl,rfl,hH,hz,q⟩:=h
 cases rx
 obtain ⟨u,rfl,ru⟩:=rv.one
 obtain ⟨z,its,n,r,hl,e⟩:=I.lstM hH
 refine call_meets F.slot_list_append ⟨_,e,rfl⟩ F.entry_list_append (F.args_list_append_2 _ _) (PySem.list_append l its.toArray n u (by rw[List.size_toArray];lia)) ⟨e,?_⟩
 refine ⟨.non,_,I.lset (its':=its++[u]) hH e (by simp) (r.append (.cons ru .nil)) ?_,rfl,q⟩
 rw[List.length_append,List.length_singleton]
 lia
def rPop:V->List V->Hp->VK->Prop:=fun x vs H Q=>∃l xs y,x=.ref l/\vs=[]/\H l=some (.lst xs)/\xs[xs.length - 1]?=some y/\Q y (upd H l (.lst xs.dropLast))
theorem zfh:MtM X "list.pop" rPop:=by
 intro pins s σ H x vs v us Q I rx rv h
 obtain ⟨l,xs,y,rfl,rfl,hH,hy,q⟩:=h
 cases rx
 have hus:=rv.zero
 subst hus
 obtain ⟨z,its,n,r,hl,e⟩:=I.lstM hH
 obtain ⟨u,hu,ru⟩:=r.get hy
 have hy':its.toArray[its.toArray.size - 1]?=some u:=by
  show its.toArray[its.length - 1]?=some u
  rw[<- Array.getElem?_toList,<- hl]
  exact hu
 refine call_meets F.slot_list_pop ⟨_,e,rfl⟩ F.entry_list_pop (F.args_list_pop_1 _) (MeetsSeq.list_pop_last l its.toArray n u hy' (by rw[List.size_toArray];lia)) ⟨e,?_⟩
 refine ⟨y,_,I.lset (its':=its.dropLast) hH e ?_ r.dropLast ?_,ru,q⟩
 .show its.toArray.eraseIdxIfInBounds (its.toArray.size - 1)=its.dropLast.toArray
  rw[List.size_toArray,List.eraseIdxIfInBounds_toArray,g7]
 .rw[List.length_dropLast]
  lia
def zbH:V->List V->Hp->VK->Prop:=fun x vs H Q=>∃l xs,x=.ref l/\vs=[]/\H l=some (.lst xs)/\Q .non (upd H l (.lst xs.reverse))
theorem g8:MtM X "list.reverse" zbH:=by
 intro pins s σ H x vs v us Q I rx rv h
 obtain ⟨l,xs,rfl,rfl,hH,q⟩:=h
 cases rx
 have hus:=rv.zero
 subst hus
 obtain ⟨z,its,n,r,hl,e⟩:=I.lstM hH
 refine call_meets F.slot_list_reverse ⟨_,e,rfl⟩ F.entry_list_reverse (F.args_list_reverse_1 _) (AutoSeq1.list_reverse_list_0 l its.toArray n (by rw[List.size_toArray];lia)) ⟨e,?_⟩
 refine ⟨.non,_,I.lset (its':=its.reverse) hH e (by simp) r.reverse ?_,rfl,q⟩
 rw[List.length_reverse]
 lia
def zgM:R2:=fun x y H Q=>∃l b xs zs,x=.ref l/\y=.ref b/\H l=some (.lst xs)/\H b=some (.lst zs)/\xs.length+zs.length<=sizeLine/\∀p,H p=none->Q (.ref p) (upd H p (.lst (xs++zs)))
theorem op_cat:OpR X (binaryOp .Add) zgM:=by
 intro pins s σ H x y v u Q I rx ry h
 obtain ⟨l,b,xs,zs,rfl,rfl,hH,hB,hz,q⟩:=h
 cases rx
 cases ry
 obtain ⟨z,its,n,r,hl,e⟩:=I.lstM hH
 obtain ⟨z2,its2,n2,r2,hl2,e2⟩:=I.lstM hB
 refine PySem.P.add_list e e2 ?_ (by rw[List.size_toArray,List.size_toArray];lia)
 have ea:its.toArray++its2.toArray=(its++its2).toArray:=by simp
 rw[ea]
 exact ⟨.ref _,_,I.lnew (t':=s.toks) (r.append r2) (by rw[List.length_append];lia),rfl,q _ I.fresh⟩
def zgN:R2:=fun x y H Q=>∃l k xs,x=.ref l/\y=.int k/\H l=some (.lst xs)/\-(2 ^ 63)<=k/\k < 2 ^ 63/\xs.length * k.toNat<=sizeLine /\
 ∀p,H p=none->Q (.ref p) (upd H p (.lst (List.replicate k.toNat xs).flatten))
theorem qT {α:Type}(xs:List α)(k:Nat):(List.replicate k xs).flatten.length=k * xs.length:=by
 induction k with
 | zero=>simp
 | succ k ih=>rw[List.replicate_succ,List.flatten_cons,List.length_append,ih,Nat.succ_mul,Nat.add_comm]
theorem zfi:OpR X (binaryOp .Mult) zgN:=by
 intro pins s σ H x y v u Q I rx ry h
 obtain ⟨l,k,xs,rfl,rfl,hH,h1,h2,hz,q⟩:=h
 cases rx
 obtain ⟨t,rfl⟩:=ry
 obtain ⟨z,its,n,r,hl,e⟩:=I.lstM hH
 have hlen:its.toArray.size * k.toNat<=sizeLine:=by rw[List.size_toArray,<- hl];exact hz
 have hcap:¬ its.toArray.size * k.toNat > (2 ^ 63 - 1) / 8:=by
  have:(sizeLine:Nat)<=(2 ^ 63 - 1) / 8:=by decide
  lia
 have hfit:¬(!Builtin.List.listFitsIndex k)=true:=by
  rw[fitsIndex_both h1 h2]
  exact Bool.false_ne_true
 have hlong:¬ Builtin.List.listTooLong (its.toArray.size * k.toNat)=true:=by
  rw[zbG hlen]
  exact Bool.false_ne_true
 have hnew:List.foldl (fun x1 x2=>x1++x2) #[] (List.replicate (if its.toArray.isEmpty=true then 0 else k.toNat) its.toArray)=(List.replicate k.toNat its).flatten.toArray:=by
  have f0:∀m:Nat,List.foldl (fun x1 x2=>x1++x2) #[] (List.replicate m its.toArray)=(List.replicate m its).flatten.toArray:=fun m=>by
   have:=kx its m []
   rw[List.nil_append] at this
   exact this
  rw[f0]
  cases its with
  | nil=>simp
  | cons a r'=>rw[if_neg (by simp)]
 refine wpAny_binaryOp_repeat_ref (T := "list") (U := "int") (by decide) ⟨_,e,rfl⟩ (fun s'=>typeIs_int s' k t) noFill_list_mul F.fills_int_mul F.slot_int_rmul repeat_list F.slot_int_index.lookup
  (call_meets F.slot_int_rmul (typeIs_int s k t) F.entry_int_rmul (F.args_int_rmul_2 _ _) (int___rmul___int_list k t l its.toArray n)
   ⟨e,rfl,⟨_,e,rfl⟩,call_meets F.slot_list_mul ⟨_,e,rfl⟩ F.entry_list_mul (F.args_list_mul_2 _ _) (AutoListH.list___mul___list_int_3 l its.toArray n k t hfit hcap hlong) ⟨e,?_⟩⟩)
 rw[hnew]
 exact ⟨.ref _,_,I.lnew (t':=s.toks) (r.rep k.toNat) (by rw[qT,Nat.mul_comm];exact hz),rfl,q _ I.fresh⟩
end
end L2
namespace Att
open PySem PySem.W PySem.Calls PyProof.Rows
theorem vg {P:Params}{h:Heap}:∀ (ns:List Int) (vs:List Value),WellAll P h vs (ns.map WData.int)->IntsAre vs ns:=by
 intro ns
 induction ns with
 | nil =>
  intro vs w
  rw[List.map_nil] at w
  cases w
  exact .nil
 | cons n ns ih =>
  intro vs w
  rw[List.map_cons] at w
  cases w with
  | cons a b =>
   cases a
   exact .cons _ _ (ih _ b)
theorem zaX {l:OpenLaw}{n:Nat}(hn:l.most=some n){P:Params}{h:Heap}{args:List WData}{vals:List Value}
  (hpre:l.row.toRowW.claim.pre args=true) (hwl:WellAll P h vals args) :
  ∃a vs ns,vals=[Value.ref a]/\args=[WData.list (ns.map WData.int)]/\h.get? a=some { cls:=.type "list",data:=.seq vs.toArray }/\IntsAre vs ns/\ns.length<=n:=by
 have hsh:WShape.hasAll [] args [.list .int]=true:=(pre_splitW hpre).1
 have hc:l.pre.holds [] { args:=args }=true:=(pre_splitW hpre).2
 obtain ⟨d,r,rfl,h1,h2⟩:=hasAllW_cons hsh
 obtain rfl:=hasAllW_nil h2
 obtain ⟨xs,rfl,h3⟩:=hasW_list h1
 obtain ⟨ns,rfl⟩:=items_int h3
 have hlen:ns.length<=n:=by
  unfold OpenLaw.pre at hc
  have h4:(WTm.not (.lt (.lit (.int (n:Int))) (.len (.arg 0)))).holds [] { args:=[.list (ns.map .int)] }=true:=by
   have h4:=(holds_andW hc).1
   rw[hn] at h4
   exact h4
  have h5:=condW_of h4 (w_not (w_lt w_lit (w_len_list (w_arg rfl))))
  rw[List.length_map] at h5
  refine Nat.le_of_not_lt fun q=>?_
  have q':(n:Int) < ((ns.length:Nat):Int):=by lia
  first
   | (rw[decide_eq_true q'] at h5;exact absurd h5 (by decide))
   | (simp at h5;lia)
 cases hwl with
 | cons w1 w2 =>
  cases w2
  cases w1 with
  | list ho hall=>exact ⟨_,_,ns,rfl,rfl,ho,vg ns _ hall,hlen⟩
theorem zaY (l:OpenLaw)(args:List WData):l.row.toRowW.claim.post args (.bool true) args=true :=
 postW_of (r:=l.row.toRowW) (X:=(true == true))
  (show WShape.has [] (.bool true) .bool=true by first | rfl | decide | simp[WShape.has,WShape.arms,WShape.armsAll])
  (show (WTm.eq .res (.lit (.bool true))).value [] { args:=args,res:=some (.bool true),after:=args }=some (.bool (true == true)) from w_eq_bool (w_res rfl) w_lit) rfl
theorem attach_call {l:OpenLaw}{n:Nat}{q:Program}{loose:List Str}{XP:(Str->Option Value)->Heap->Prop}{YP:World->Heap->Prop}{d:DefRec}
  (hn:l.most=some n) (hdf:d.params.defaults=[])
  (call:∀ (w:World) (s₀ s₁:Shared) (mg mb:Str->Option Value) (fa:Addr) (o:Obj) (pm cd doc:Value) (a:Addr) (vs:List Value) (ns:List Int),
   Ground q loose [] XP w s₀ mg mb s₁.heap->YP w s₁.heap ->
   s₁.heap.get? fa=some o->o.data=.func (docDef d.name d.params d.body d.scope pm cd doc)->s₁.heap.CodeRec cd d.name->mg d.name=some (.ref fa) ->
   s₁.heap.get? a=some { cls:=.type "list",data:=.seq vs.toArray }->IntsAre vs ns->ns.length<=n->s₁.gens=#[] ->
   codeAny (model l.prog w) callerA (.call (.ref fa) ⟨[.ref a],[]⟩) (fun r s'=>r=.ok (.ret (.bool true))/\OldK s₁.heap s'.heap/\s'.os=s₁.os/\AllBare s'.gens) s₁) :
  WalkO q loose XP YP l.row.toRowW d [] (fun f vs=>PySem.call f vs):=by
 intro w s₀ s₁ mg mb G Y fa o pm cd doc dV kV ho hd hcd hD hmg hg args vals as hpre hlay hrd hwl hlo
 obtain rfl:dV=.none:=Dflts.none hD hdf
 obtain rfl:kV=.none:=Dflts.noKw hD
 obtain ⟨a,vs,ns,rfl,rfl,hobj,hints,hlen⟩:=zaX hn hpre hwl
 refine enter_call (codeAny_mono (call w s₀ s₁ mg mb fa o pm cd doc a vs ns G Y ho (fd_plain hd) hcd hmg hobj hints hlen hg) fun r s' hq=>?_)
 obtain ⟨rfl,h2,h3,h4⟩:=hq
 exact ⟨.inl ⟨.bool true,.bool true,[],rfl,fun _=>rfl,.bool true,zaY l _,fun _=>⟨List.Pairwise.nil,fun _ hm=>(nomatch hm)⟩⟩,h2,h3,h4⟩
end Att
namespace L2
open PySem PySem.Spec PyProof.Rows
theorem kz:∀ {vs:List Value}{ns:List Int},IntsAre vs ns->Vals (ns.map V.int) vs
 | _,_,.nil=>.nil
 | _,_,.cons n t h=>.cons ⟨t,rfl⟩ (kz h)
def zdl (H:Hp):Prop:=∀b,H b=none\/∃o xs,H b=some (.frz o (.lst xs))
theorem zbI {P:Program}{w:World}{K:PySem.W.Frag}{mg mb:Str->Option Value}{CX:CXT}{k:Nat}{fa a:Addr}{fd:FuncData}{x:Str}{sp:Sp}{s₁:Shared}{vs:List Value}{ns:List Int}
  (KX:K.In s₁.heap) (hns:s₁.heap.Ns mainGlobals mg) (hb:s₁.heap.Ns builtinsNs mb) (hbb:∀x:Str,x ≠ "__name__" -> mb x=bootBuiltins x) (hlim:s₁.heap.NoLimit) (hg:s₁.gens=#[])
  (ha:s₁.heap.get? a=some { cls:=.type "list",data:=.seq vs.toArray }) (hi:IntsAre vs ns) (hl:ns.length<=sizeLine) (hr:Room k callerA)
  (F:∀base:Heap,K.In base->base.Ns mainGlobals mg->FnOk P w K mg base CX k fa fd [x] sp) (hbind:∀ (s:Shared) (u:Value),BindsTo s fd ⟨[u],[]⟩ [(x,u)])
  (hsp:∀H:Hp,zdl H->SqL K H a (ns.map V.int)->sp [.ref a] H (fun v _=>v=.bl true) fun _ _ _=>False)
  (hCX:∀H e s',CX [] H s₁ (fun _ _ _=>False) e s'->False) :
  codeAny (model P w) callerA (.call (.ref fa) ⟨[.ref a],[]⟩) (fun r s'=>r=.ok (.ret (.bool true))/\OldK s₁.heap s'.heap/\s'.os=s₁.os/\AllBare s'.gens) s₁:=by
 have rv:=kz hi
 have lenV:=hi.length
 -- from an abstract heap in which nothing but the script may be tracked
 have core:∀H:Hp,zdl H->SqL K H a (ns.map V.int)->HOk P w H s₁.heap->(∀b,H b≠none->b=a)->(H a≠none->K.lookup a=none) ->
   codeAny (model P w) callerA (.call (.ref fa) ⟨[.ref a],[]⟩) (fun r s'=>r=.ok (.ret (.bool true))/\OldK s₁.heap s'.heap/\s'.os=s₁.os/\AllBare s'.gens) s₁:=by
  intro H hO hS hok hA hK
  have base_of:∀ {b:Addr}{o:Obj},s₁.heap.get? b=some o->H b=none->(kY s₁.heap H).get? b=some o:=fun e n=>zbs e n
  have noA:∀ {b:Addr}{o:Obj}{es:Array DictEntry}{ep:Nat},s₁.heap.get? b=some o->o.data=.dict es ep->H b=none:=fun {b o es ep} e d=>by
   cases q:H b with
   | none=>rfl
   | some u =>
    have e':b=a:=hA b (by rw[q];simp)
    subst e'
    rw[ha] at e;cases e
    have d':Data.seq vs.toArray _=Data.dict es ep:=d
    cases d'
  have nsK:∀ {b:Addr}{m:Str->Option Value},s₁.heap.Ns b m->(kY s₁.heap H).Ns b m:=fun {b m} ⟨o,es,ep,e,d,r⟩=>⟨o,es,ep,base_of e (noA e d),d,r⟩
  have hKb:K.In (kY s₁.heap H):=fun b o e=>base_of (KX b o e) (by
   cases q:H b with
   | none=>rfl
   | some u =>
    have e':b=a:=hA b (by rw[q];simp)
    subst e'
    rw[hK (by rw[q];simp)] at e;cases e)
  have hM:Mod K mg (kY s₁.heap H):=⟨hKb,nsK hns,⟨mb,nsK hb,hbb⟩,let ⟨mc,h1,h2⟩:=hlim;⟨mc,nsK h1,h2⟩⟩
  have e0:Env0 P w K mg (kY s₁.heap H) callerA [] s₁ H:=⟨rfl,hM,fun b o e=>zc3 e,Nat.le_of_eq (zaO _ _),trivial,fun b hb=>absurd (show b∈([]:List Addr) from hb) (by simp),hok,.of_eq hg⟩
  refine codeAny_mono ((F _ hKb (nsK hns)).run callerA [] s₁ H ⟨[.ref a],[]⟩ [.ref a] [.ref a] _ _ hr e0 (hbind s₁ (.ref a)) (.cons rfl .nil) (hsp H hO hS)) fun r s' h=>?_
  cases r with
  | error e=>exact (hCX H e s' h).elim
  | ok fl =>
   cases fl with
   | next=>exact False.elim h
   | brk=>exact False.elim h
   | cont=>exact False.elim h
   | ret u =>
    obtain ⟨v,H',os,bare,un,hok',r',q⟩:=h
    have q':v=.bl true:=q
    subst q'
    obtain rfl:u=Value.bool true:=r'
    refine ⟨rfl,OldK.of_keep fun b o e=>?_,os,bare⟩
    cases q:H b with
    | none=>exact un.keep b o e q (by intro z;exact absurd (show b∈([]:List Addr) from z) (by simp)) (by simp)
    | some u =>
     rcases hO b with z | ⟨ob,xs,z⟩
     .rw[q] at z;cases z
     .have z2:=un.frzs b ob _ z
      obtain ⟨e1,_⟩:=hok b _ z
      obtain ⟨e2,_⟩:=hok' b _ z2
      rw[e] at e1;cases e1
      exact e2
 cases hk:K.lookup a with
 | some o =>
  -- the script is one of the module's own objects
  have e:=KX a o hk
  rw[ha] at e
  cases e
  refine core (fun _=>none) (fun _=>.inl rfl) (.inr ⟨_,vs.toArray,_,hk,rfl,rfl,rfl,by rw[List.size_toArray,lenV];exact hl,by simpa using rv⟩) (fun b u z=>by have z':(none:Option HO)=some u:=z;cases z') (fun b z=>absurd rfl z) fun z=>absurd rfl z
 | none =>
  refine core (fun b=>if b=a then some (.frz { cls:=.type "list",data:=.seq vs.toArray } (.lst (ns.map V.int))) else none) (fun b=>?_) (.inl (.inr ⟨{ cls:=.type "list",data:=.seq vs.toArray },if_pos rfl⟩)) (fun b u z=>?_) (fun b z=>?_) fun _=>hk
  .by_cases hb:b=a
   .exact .inr ⟨_,_,if_pos hb⟩
   .exact .inl (if_neg hb)
  .by_cases hb:b=a
   .have z':=(if_pos hb).symm.trans z
    cases z'
    subst hb
    exact ⟨ha,by rw[List.length_map];exact hl,vs,_,rv,ha⟩
   .have z':=(if_neg hb).symm.trans z
    cases z'
  .by_cases hb:b=a
   .exact hb
   .exact absurd (if_neg hb) z
theorem zdm {l:PySem.W.OpenLaw}{n k:Nat}{q:Program}{loose:List Str}{XP:(Str->Option Value)->Heap->Prop}{YP:World->Heap->Prop}{d:DefRec}{K:Params->PySem.W.Frag}{CX:World->CXT}{sp:World->Sp}{x:Str}
  (hn:l.most=some n) (hn2:n<=sizeLine) (hdf:d.params.defaults=[]) (hr:Room k callerA)
  (hY:∀ (w:World) (h:Heap),YP w h->(K w.params).In h)
  (F:∀ (w:World) (mg:Str->Option Value) (fa:Addr) (h:Heap),(K w.params).In h->h.Ns mainGlobals mg->mg d.name=some (.ref fa) ->
   ∃fd:FuncData,(∀ (s:Shared) (u:Value),BindsTo s fd ⟨[u],[]⟩ [(x,u)]) /\
    ∀base:Heap,(K w.params).In base->base.Ns mainGlobals mg->FnOk l.prog w (K w.params) mg base (CX w) k fa fd [x] (sp w))
  (hsp:∀ (w:World) (H:Hp) (a:Addr) (ns:List Int),ns.length<=n->zdl H->SqL (K w.params) H a (ns.map V.int)->sp w [.ref a] H (fun v _=>v=.bl true) fun _ _ _=>False)
  (hCX:∀ (w:World) (H:Hp) (s:Shared) (e:Value) (s':Shared),CX w [] H s (fun _ _ _=>False) e s'->False) :
  PySem.W.WalkO q loose XP YP l.row.toRowW d [] (fun f vs=>PySem.call f vs):=by
 refine Att.attach_call hn hdf fun w s₀ s₁ mg mb fa o pm cd doc a vs ns G Y ho hd hcd hmg hobj hints hlen hg=>?_
 have KX:=hY w _ Y
 obtain ⟨fd,hb,hF⟩:=F w mg fa _ KX G.T.g hmg
 exact zbI KX G.T.g G.T.b G.T.builtins G.T.nolimit hg hobj hints (Nat.le_trans hlen hn2) hr hF hb (fun H hO hS=>hsp w H a ns hlen hO hS) fun H e s'=>hCX w H s₁ e s'
noncomputable def xC (s:Stmt):Arguments:=match s with
 | .FunctionDef _ a _ _ _ _ _ _ _ _=>a
 | _=>{ posonlyargs:=[],args:=[],vararg:=none,kwonlyargs:=[],kw_defaults:=[],kwarg:=none,defaults:=[] }
noncomputable def yQ (s:Stmt):List Stmt:=match s with
 | .FunctionDef _ _ b _ _ _ _ _ _ _=>b
 | _=>[]
noncomputable def zI (s:Stmt):Scope:=match s with
 | .FunctionDef _ _ _ _ _ _ sc _ _ _=>sc
 | _=>{ kind:=.function,names:=[],isGenerator:=false,isCoroutine:=false }
abbrev CX0:CXT:=fun _ _ _ _ _ _=>False
abbrev E0:XK:=fun _ _ _=>False
theorem zgO {X:Cx}:g6 CX0 X E0:=fun _ _ _ _ _ _ _ h=>h.elim
structure Fun (K:PySem.W.Frag)(x qual:Str)(st:Stmt)(f:Addr)(fd:FuncData):Prop where
 ex:∃ (oc:Value) (od:Option Addr) (kV doc pm:Value) (an:Option Addr) (cdv ct:Value) (osl:Array (Option Value)),
  fd=PySem.W.fnOf x qual (xC st) (yQ st) (zI st) .none kV doc pm an cdv ct/\K.lookup f=some ⟨oc,od,.func fd,osl⟩/\PySem.W.codeIn K cdv qual=true
 kp:PySem.W.keepIn K (.ref f)=true
section
variable {P:Program}{w:World}{K:PySem.W.Frag}{mg:Str->Option Value}{base:Heap}
theorem Fun.ok {x qual:Str}{st:Stmt}{f:Addr}{fd:FuncData}{N ps:List Str}{k:Nat}{sp:Sp}(F:Fun K x qual st f fd)(S:FnScope N ps (zI st))(len:∀vs H Q E,sp vs H Q E->vs.length=ps.length)
  (hbody:∀ (cdv:Value) (A:Around) (outer:List Env) (s:Shared) (H:Hp) (vs:List V) (Q:VK) (E:XK),Room k (A.deeper (envOfC qual (zI st) s.heap.objs.size f cdv))->sp vs H Q E ->
   ∃t,PSs (jR CX0 P w K mg base N qual (zI st) f cdv A outer s H E).nox (yQ st) t/\t { nx:=fun _ H'=>Q .non H',rt:=Q } (start N vs) H):FnOk P w K mg base CX0 (k+1) f fd ps sp:=by
 obtain ⟨oc,od,kV,doc,pm,an,cdv,ct,osl,rfl,lk,hcd⟩:=F.ex
 refine zgG lk hcd S len fun A outer s H vs Q E hr hsp=>?_
 obtain ⟨t,h,q⟩:=hbody cdv A outer s H vs Q E hr hsp
 exact ⟨t,h.nox,q⟩
theorem Fun.binds {x qual:Str}{st:Stmt}{f:Addr}{fd:FuncData}{ps:List Str}(F:Fun K x qual st f fd)
  (h:∀ (kV doc pm:Value) (an:Option Addr) (cdv ct:Value) (us:List Value),us.length=ps.length->bindArgs (PySem.W.fnOf x qual (xC st) (yQ st) (zI st) .none kV doc pm an cdv ct) ⟨us,[]⟩=pure (ps.zip us)):Binds K fd ps []:=by
 obtain ⟨oc,od,kV,doc,pm,an,cdv,ct,osl,rfl,lk,hcd⟩:=F.ex
 exact .all (h kV doc pm an cdv ct)
theorem zfj {x qual:Str}{st:Stmt}{f:Addr}{oc:Value}{od an:Option Addr}{osl:Array (Option Value)}{kV doc pm cdv ct:Value}(l:K.lookup f=some ⟨oc,od,.func (PySem.W.fnOf x qual (xC st) (yQ st) (zI st) .none kV doc pm an cdv ct),osl⟩)
  (c:PySem.W.codeIn K cdv qual=true) (k:PySem.W.keepIn K (.ref f)=true):Fun K x qual st f (PySem.W.fnOf x qual (xC st) (yQ st) (zI st) .none kV doc pm an cdv ct):=⟨⟨oc,od,kV,doc,pm,an,cdv,ct,osl,rfl,l,c⟩,k⟩
end
theorem zbJ {A B:Prop}(h:B):if false=true then A else B:=by
 rw[if_neg Bool.false_ne_true]
 exact h
theorem zbK {A B:Prop}(h:A):if true=true then A else B:=by
 rw[if_pos rfl]
 exact h
noncomputable def xQ (env:Env):List (Str×NameKind)->List (Str×Addr)->List (Str×Addr)
 | [],acc=>acc
 | (n,k)::r,acc=>if k == .free then xQ env r ((n,(env.cells.lookup n).getD 0)::acc) else xQ env r acc
theorem x8 {env:Env}(f:Str×NameKind->List (Str×Addr)->Sem (ForInStep (List (Str×Addr))))
  (hf:∀n k cs,f (n,k) cs=if k == .free then (do let a <- cellOf env n;pure (.yield ((n,a)::cs))) else pure (.yield cs)) :
  ∀ (names:List (Str×NameKind)) (acc:List (Str×Addr)),(∀y∈names,y.2=.free->∃c,env.cells.lookup y.1=some c)->forIn names acc f=pure (xQ env names acc)
 | [],acc,_=>by rw[List.forIn_nil];rfl
 | (n,k)::r,acc,h=>by
  have ih:=x8 f hf r
  rw[List.forIn_cons,hf]
  unfold xQ
  cases hk:k == NameKind.free with
  | true =>
   obtain ⟨c,hc⟩:=h (n,k) List.mem_cons_self (by simpa using hk)
   have hc':env.cells.lookup n=some c:=hc
   have e1:cellOf env n=pure c:=by unfold cellOf;rw[hc']
   simp only[if_true,e1,hc',Option.getD_some,pure_bind]
   exact ih _ fun y hy=>h y (List.mem_cons_of_mem _ hy)
  | false =>
   simp only[Bool.false_eq_true,if_false,pure_bind]
   exact ih _ fun y hy=>h y (List.mem_cons_of_mem _ hy)
theorem vq {scope:Scope}{env:Env}(h:∀y∈scope.names,y.2=.free->∃c,env.cells.lookup y.1=some c):closureFor scope env=pure (xQ env scope.names []):=by
 unfold closureFor
 simp only[]
 rw[x8 (env:=env) _ (fun n k cs=>by cases hk:k == NameKind.free <;> simp[hk]) scope.names [] h]
 rfl
theorem xD {env:Env}{y:Str}{c:Addr}:∀ {names:List (Str×NameKind)}{acc:List (Str×Addr)},(∀z∈names,z.2=.free->∃c,env.cells.lookup z.1=some c)->(xQ env names acc).lookup y=some c ->
  acc.lookup y=some c\/((y,NameKind.free)∈names/\env.cells.lookup y=some c)
 | [],acc,_,e=>.inl e
 | (n,k)::r,acc,h,e=>by
  unfold xQ at e
  have h':∀z∈r,z.2=.free->∃c,env.cells.lookup z.1=some c:=fun z hz=>h z (List.mem_cons_of_mem _ hz)
  cases hk:k == NameKind.free with
  | true =>
   have hk':k=.free:=by simpa using hk
   subst hk'
   rw[hk,if_pos rfl] at e
   rcases xD h' e with q | ⟨q1,q2⟩
   .rw[List.lookup_cons] at q
    cases hy:y == n with
    | true =>
     rw[hy] at q
     have:y=n:=by simpa using hy
     subst this
     obtain ⟨c',hc'⟩:=h (y,.free) List.mem_cons_self rfl
     have hc'':env.cells.lookup y=some c':=hc'
     rw[hc''] at q
     refine .inr ⟨List.mem_cons_self,?_⟩
     rw[hc''];exact q
    | false=>rw[hy] at q;exact .inl q
   .exact .inr ⟨List.mem_cons_of_mem _ q1,q2⟩
  | false =>
   rw[hk,if_neg (by simp)] at e
   rcases xD h' e with q | ⟨q1,q2⟩
   .exact .inl q
   .exact .inr ⟨List.mem_cons_of_mem _ q1,q2⟩
theorem wA {env:Env}{y:Str}:∀ {names:List (Str×NameKind)}{acc:List (Str×Addr)},((y,NameKind.free)∈names\/(acc.lookup y).isSome=true)->((xQ env names acc).lookup y).isSome=true
 | [],acc,h=>by
  rcases h with h | h
  .cases h
  .exact h
 | (n,k)::r,acc,h=>by
  unfold xQ
  cases hk:k == NameKind.free with
  | true =>
   rw[if_pos rfl]
   refine wA ?_
   rcases h with h | h
   .rcases List.mem_cons.mp h with e | e
    .cases e
     exact .inr (by rw[List.lookup_cons];simp)
    .exact .inl e
   .refine .inr ?_
    rw[List.lookup_cons]
    split
    .rfl
    .exact h
  | false =>
   rw[if_neg (by simp)]
   refine wA ?_
   rcases h with h | h
   .rcases List.mem_cons.mp h with e | e
    .cases e;cases hk
    .exact .inl e
   .exact .inr h
theorem zbL {y:Str}{c:Addr}:∀ {names:List (Str×NameKind)}{h:Heap}{acc:List (Str×Addr)},(cellsFrom h.objs.size names acc).lookup y=some c ->
  acc.lookup y=some c\/(h.objs.size<=c/\(pushCells h names).IsCell c none/\(y,NameKind.cell)∈names)
 | [],h,acc,e=>.inl e
 | (n,k)::r,h,acc,e=>by
  unfold cellsFrom at e
  cases hk:k == NameKind.cell with
  | true =>
   have hk':k=.cell:=by simpa using hk
   subst hk'
   rw[hk,if_pos rfl] at e
   have ih:=zbL (y:=y) (c:=c) (names:=r) (h:=h.push { cls:=.type "cell",data:=.cell none }) (acc:=(n,h.objs.size)::acc)
   rw[Heap.size_push] at ih
   have hp:pushCells h ((n,NameKind.cell)::r)=pushCells (h.push { cls:=.type "cell",data:=.cell none }) r:=by
    exact if_pos hk
   rcases ih e with q | ⟨q1,q2,q3⟩
   .rw[List.lookup_cons] at q
    cases hy:y == n with
    | true =>
     rw[hy] at q
     cases q
     have hyn:y=n:=by simpa using hy
     subst hyn
     refine .inr ⟨Nat.le_refl _,?_,List.mem_cons_self⟩
     rw[hp]
     exact ⟨_,pushCells_keeps _ _ _ _ (Heap.get?_push_size _ rfl),rfl⟩
    | false=>rw[hy] at q;exact .inl q
   .exact .inr ⟨Nat.le_trans (Nat.le_succ _) q1,by rw[hp];exact q2,List.mem_cons_of_mem _ q3⟩
  | false =>
   rw[hk,if_neg (by simp)] at e
   have hp:pushCells h ((n,k)::r)=pushCells h r:=by
    show (if (k == NameKind.cell)=true then _ else _)=_
    rw[hk,if_neg (by simp)]
   rcases zbL e with q | ⟨q1,q2,q3⟩
   .exact .inl q
   .exact .inr ⟨q1,by rw[hp];exact q2,List.mem_cons_of_mem _ q3⟩
theorem zbM {y:Str}{c:Addr}{lo:Nat}:∀ {names:List (Str×NameKind)}{n:Nat}{acc:List (Str×Addr)},((y,NameKind.cell)∈names\/∀c,acc.lookup y=some c->lo<=c)->lo<=n->(cellsFrom n names acc).lookup y=some c->lo<=c
 | [],n,acc,h,_,e=>by
  rcases h with h | h
  .cases h
  .exact h c e
 | (m,k)::r,n,acc,h,hn,e=>by
  unfold cellsFrom at e
  cases hk:k == NameKind.cell with
  | true =>
   rw[hk,if_pos rfl] at e
   refine zbM ?_ (Nat.le_trans hn (Nat.le_succ _)) e
   by_cases hy:y=m
   .subst hy
    refine .inr fun c hc=>?_
    rw[List.lookup_cons,beq_self_eq_true] at hc
    cases hc
    exact hn
   .rcases h with h | h
    .rcases List.mem_cons.mp h with z | z
     .cases z;exact absurd rfl hy
     .exact .inl z
    .refine .inr fun c hc=>?_
     rw[List.lookup_cons] at hc
     have:(y == m)=false:=by simpa using hy
     rw[this] at hc
     exact h c hc
  | false =>
   rw[hk,if_neg (by simp)] at e
   refine zbM ?_ hn e
   rcases h with h | h
   .rcases List.mem_cons.mp h with z | z
    .cases z;cases hk
    .exact .inl z
   .exact .inr h
theorem g9:∀ {names:List (Str×NameKind)}{n:Nat}{acc:List (Str×Addr)},(∀y z c,acc.lookup y=some c->acc.lookup z=some c->y=z)->(∀y c,acc.lookup y=some c->c < n) ->
  ∀y z c,(cellsFrom n names acc).lookup y=some c->(cellsFrom n names acc).lookup z=some c->y=z
 | [],n,acc,hi,_=>hi
 | (m,k)::r,n,acc,hi,hl=>by
  unfold cellsFrom
  cases hk:k == NameKind.cell with
  | true =>
   rw[if_pos rfl]
   refine g9 (fun y z c e1 e2=>?_) fun y c e=>?_
   .rw[List.lookup_cons] at e1 e2
    cases hy:y == m <;> cases hz:z == m <;> rw[hy] at e1 <;> rw[hz] at e2
    .exact hi y z c e1 e2
    .cases e2;exact absurd (hl y _ e1) (Nat.lt_irrefl _)
    .cases e1;exact absurd (hl z _ e2) (Nat.lt_irrefl _)
    .exact (by simpa using hy:y=m).trans (by simpa using hz:z=m).symm
   .rw[List.lookup_cons] at e
    cases hy:y == m <;> rw[hy] at e
    .exact Nat.lt_succ_of_lt (hl y c e)
    .cases e;exact Nat.lt_succ_self _
  | false =>
   rw[if_neg (by simp)]
   exact g9 hi hl
theorem jT {M:Model}{A:Around}{E:Value->Shared->Prop}{s:Shared}{scope:Scope}{globals:Addr}{cl:List (Str×Addr)}{qual:Str}{outer:Env}{Q:Env->Shared->Prop}
  (hQ:Q { scope:=scope,locals:=s.heap.objs.size,globals:=globals,cells:=cellsFrom (s.heap.objs.size+1) scope.names cl,qual:=qual,func:=none,code:=outer.code,frame:=outer.frame,builtins:=outer.builtins }
   { s with heap:=pushCells (s.heap.push { cls:=.type "dict",data:=.dict #[] }) scope.names }) :
  wpAny M A (newFunctionEnv scope globals cl [] qual none .none (some outer)) Q E s:=by
 simp only[newFunctionEnv,Option.isSome_some,if_true]
 refine wpAny_bind (wpAny_alloc ?_)
 refine wpAny_bind (wpAny_layCells _ (fun name kind cells=>by cases hkc:kind == NameKind.cell <;> simp[hkc]) _ _ _ _ ?_)
 rw[show ({ s with heap:=s.heap.push { cls:=.type "dict",data:=.dict #[] } }:Shared).heap.objs.size=s.heap.objs.size+1 from Heap.size_push ..]
 simp only[List.forIn_nil]
 exact wpAny_bind (wpAny_pure (wpAny_pure hQ))
theorem zJ {scope:Scope}{env:Env}{y:Str}:(relabel scope env).names.lookup y=(scope.names.lookup y).map fun k=>if (k == NameKind.free && env.scope.kind == .function && env.kindOf y == some .cell) then NameKind.cell else k:=by
 have all:∀l:List (Str×NameKind),(l.map fun (n,k)=>if (k == NameKind.free && env.scope.kind == .function && env.kindOf n == some .cell) then (n,NameKind.cell) else (n,k)).lookup y=(l.lookup y).map fun k=>if (k == NameKind.free && env.scope.kind == .function && env.kindOf y == some .cell) then NameKind.cell else k:=by
  intro l
  induction l with
  | nil=>rfl
  | cons p r ih =>
   obtain ⟨n,k⟩:=p
   rw[List.map_cons,List.lookup_cons]
   by_cases hc:(k == NameKind.free && env.scope.kind == .function && env.kindOf n == some .cell)=true
   .simp only[hc,if_true,List.lookup_cons]
    cases hy:y == n with
    | true =>
     have:y=n:=by simpa using hy
     subst this
     simp only[Option.map_some,hc,if_true]
    | false=>exact ih
   .simp only[if_neg hc,List.lookup_cons]
    cases hy:y == n with
    | true =>
     have:y=n:=by simpa using hy
     subst this
     simp only[Option.map_some,if_neg hc]
    | false=>exact ih
 exact all scope.names
noncomputable def dum (x:Str):Str:=⟨x.cps.push 0⟩
noncomputable def yn (N xs:List Str):List Str:=(N.map fun y=>if y∈xs then dum y else y)++xs
theorem zaZ (N xs:List Str):(yn N xs).length=N.length+xs.length:=by simp[yn]
theorem xR (N xs:List Str)(j:Nat):(yn N xs)[N.length+j]?=xs[j]?:=by
 unfold yn
 rw[List.getElem?_append_right (by simp)]
 simp
theorem za0 {N xs:List Str}{y:Str}{i:Nat}(hi:i < N.length)(h:(yn N xs)[i]?=some y):(∃x∈xs,y=dum x)\/(N[i]?=some y/\y∉xs):=by
 unfold yn at h
 rw[List.getElem?_append_left (by simpa using hi),List.getElem?_map] at h
 obtain ⟨z,hz⟩:∃z,N[i]?=some z:=⟨N[i],by simp[hi]⟩
 rw[hz] at h
 by_cases e:z∈xs
 .simp only[Option.map_some,if_pos e] at h
  exact .inl ⟨z,e,(Option.some.inj h).symm⟩
 .simp only[Option.map_some,if_neg e] at h
  have e2:z=y:=Option.some.inj h
  subst e2
  exact .inr ⟨hz,e⟩
structure CompOf (X:Cx)(scope:Scope)(xs:List Str)(Xc:Cx):Prop where
 prog:Xc.prog=X.prog
 w:Xc.w=X.w
 K:Xc.K=X.K
 mg:Xc.mg=X.mg
 base:Xc.base=X.base
 A:Xc.A=X.A
 N:Xc.N=yn X.N xs
 sc:Xc.env.scope=relabel scope X.env
 calm:Xc.calm=true
 stack:Xc.stack=X.stack
def PTs (X:Cx)(ifs:List Expr)(t:TT):Prop :=
 ∀ (pins:List (Addr×Obj)) (s:Shared) (σ:St) (H:Hp) (Q:Bool->Hp->Prop),Inv X pins σ H s->t σ H Q ->
  wpAny (model X.prog X.w) X.A (forIn ifs true fun c r=>if r=true then do let ok <- isTrue c X.env (eval c X.env);pure (ForInStep.yield ok) else pure (ForInStep.yield r)) (TP X pins σ Q) X.xe s
theorem vh {X:Cx}:PTs X [] (fun _ H Q=>Q true H):=fun _ _ _ H _ I h=>wpAny_tests_nil ⟨H,I,h⟩
theorem zdn {X:Cx}{c:Expr}{t:TT}(h:PT X c t):PTs X [c] t:=fun pins s σ H Q I q=>wpAny_tests_one (h pins s σ H Q I q)
structure BlockOk (X:Cx)(scope:Scope)(xs:List Str):Prop where
 kind:scope.kind=.function
 own:∀x∈xs,scope.names.lookup x=some .local\/scope.names.lookup x=some .cell
 locs:∀y∈scope.names,y.2=.local->scope.names.lookup y.1=some .local
 free:∀y∈scope.names,y.2=.free->X.env.scope.names.lookup y.1=some .cell\/X.env.scope.names.lookup y.1=some .free
 alone:∀y∈X.N,y∉xs->scope.names.lookup y≠some .local/\scope.names.lookup y≠some .cell
 one:∀y∈scope.names,y.2=.cell->scope.names.lookup y.1≠some .free
 nd:(yn X.N xs).Nodup
 dumN:∀x∈xs,scope.names.lookup (dum x)=none
theorem jc {prog:Program}{w:World}{A:Around}{R:Result->Shared->Prop}{s:Shared}{elt target iter:Expr}{ifs:List Expr}{scope:Scope}{pos:Pos}{it acc:Value}{env:Env}(I:Nat->Shared->Prop)
  (turn:∀n s,I n s->wpAny (model prog w) A (pyNext it) (fun r s₁=>match r with
   | none=>R (.ok .next) s₁
   | some v=>wpAny (model prog w) A (letOwnedTupleGo target it v) (fun _ s₁'=>wpAny (model prog w) A (assign target env v) (fun _ s₂ =>
     wpAny (model prog w) A (forIn ifs true fun c r=>if r=true then do let ok <- isTrue c env (eval c env);pure (ForInStep.yield ok) else pure (ForInStep.yield r)) (fun ok s₃ =>
      if ok=true then wpAny (model prog w) A (eval elt env) (fun x s₄ =>
       wpAny (model prog w) A (call (.builtin "list.append") [acc,x]) (fun _ s₅=>∃m,m < n/\I m s₅) (notedBy (model prog w) A env fun e s'=>R (.error e) s') s₄) (notedBy (model prog w) A env fun e s'=>R (.error e) s') s₃
      else ∃m,m < n/\I m s₃) (notedBy (model prog w) A env fun e s'=>R (.error e) s') s₂) (notedBy (model prog w) A env fun e s'=>R (.error e) s') s₁') (notedBy (model prog w) A env fun e s'=>R (.error e) s') s₁) (notedBy (model prog w) A env fun e s'=>R (.error e) s') s)
  (n:Nat) (h:I n s):codeAny (model prog w) A (.compLoop (.ListComp elt [⟨target,iter,ifs,0⟩] scope pos) 0 it acc env) R s:=by
 refine codeAny_loop rfl I (fun n s hI=>?_) n h
 show wpAny _ A ((compTurn (.ListComp elt [⟨target,iter,ifs,0⟩] scope pos) 0 it acc env).onRaise (fun x=>do noteFrame x env;theTreesLotGoes x)) _ _ s
 refine wpAny_noted ?_
 rw[compTurn_list]
 refine wpAny_bind (wpAny_standAt (wpAny_bind (wpAny_mono (turn n s hI) (fun r s₁ h₁=>?_) fun _ _ h'=>h')))
 cases r with
 | none=>exact wpAny_pure h₁
 | some v =>
  refine wpAny_bind (wpAny_mono h₁ (fun _ s₁' h₁'=>?_) fun _ _ h'=>h')
  refine wpAny_bind (wpAny_mono h₁' (fun _ s₂ h₂=>wpAny_bind (wpAny_mono h₂ (fun ok s₃ h₃=>?_) fun _ _ h'=>h')) fun _ _ h'=>h')
  cases ok with
  | false=>exact wpAny_pure ⟨rfl,h₃⟩
  | true =>
   exact wpAny_bind (wpAny_bind (wpAny_mono h₃ (fun x s₄ h₄=>wpAny_bind (wpAny_mono h₄ (fun _ s₅ h₅=>wpAny_pure (wpAny_pure ⟨rfl,h₅⟩)) fun _ _ h'=>h')) fun _ _ h'=>h'))
def kA (un:V->Hp->List V->Prop)(wi:TI)(tc:TT)(te:TE):TE:=fun σ H Q=>wi σ H fun J H1=>∀D,H1 D=none->∃W:Nat->Nat->List V->Hp->Prop,(∃m,W 0 m [] (upd H1 D (.lst [])))/\∀i m ys H,W i m ys H ->
 (J.stop i H/\Q (.ref D) H)\/(J.go i H/\∀v H',J.yld i H v H'->∃vs,un v H' vs/\tc (σ++vs.map some) H' fun b H2=>if b=true then te (σ++vs.map some) H2 fun y H3=>H3 D=some (.lst ys)/\ys.length < sizeLine/\∃m',m' < m/\W (i+1) m' (ys++[y]) (upd H3 D (.lst (ys++[y])))
  else ∃m',m' < m/\W (i+1) m' ys H2)
theorem vt {X:Cx}{elt iter tg:Expr}{xs:List Str}{g:TG}{un:V->Hp->List V->Prop}{ifs:List Expr}{scope:Scope}{pos:Pos}{tc:TT}{te:TE}{pins:List (Addr×Obj)}{σ:St}{s:Shared}{H:Hp}{Q:Value->Shared->Prop}{use:Option (Value->Sem Unit)}
  {D it:Addr}{fp:List Addr}{tn:Nat->Heap->Prop}{J:It}(B:BlockOk X scope xs) (hc:X.calm=true)
  (hpg:∀Xc,CompOf X scope xs Xc->(∀x∈xs,Loc Xc.env.scope x/\(Xc.fn x=true\/Xc.env.scope.names.lookup x=some .local))->PG Xc tg g)
  (hun:∀v H vs os,os.length=xs.length->un v H vs->vs.length=xs.length/\g v (σ++os) H fun σ2 H2=>σ2=σ++vs.map some/\H2=H)
  (hbody:∀Xc,CompOf X scope xs Xc->PTs Xc ifs tc/\PE Xc elt te)
  (I:Inv X pins σ H s) (T:Turn X.prog X.w X.K tg J fp it tn) (st:tn 0 s.heap) (hfp:∀b∈fp,vf X pins H b)
  (W:Nat->Nat->List V->Hp->Prop) (m0:Nat) (w0:W 0 m0 [] H)
  (turn:∀i m ys H,W i m ys H->(J.stop i H/\∀s' m' C,Inv X pins σ H s'->s'.heap.Ns C m'->s.heap.objs.size<=C->H C=none->compPost (model X.prog X.w) X.A X.xe use Q (.ref D) C (.ok .next) s') \/
   (J.go i H/\∀v H',J.yld i H v H'->∃vs,un v H' vs/\tc (σ++vs.map some) H' fun b H2=>if b=true then te (σ++vs.map some) H2 fun y H3=>H3 D=some (.lst ys)/\ys.length < sizeLine/\∃m',m' < m/\W (i+1) m' (ys++[y]) (upd H3 D (.lst (ys++[y])))
    else ∃m',m' < m/\W (i+1) m' ys H2)) :
  wpAny (model X.prog X.w) X.A (newFunctionEnv scope X.env.globals (xQ X.env scope.names []) [] X.env.qual none .none (some X.env)) (fun cenv s₄ =>
   codeAny (model X.prog X.w) X.A (.compStart (.ListComp elt [⟨tg,iter,ifs,0⟩] scope pos) 0 (.ref it) (.ref D) { cenv with scope:=relabel scope X.env }) (compPost (model X.prog X.w) X.A X.xe use Q (.ref D) cenv.locals) s₄) X.xe s:=by
 refine jT ?_
 have hcl:∀y∈scope.names,y.2=.free->∃c,X.env.cells.lookup y.1=some c:=fun y hy hf=>by
  rcases B.free y hy hf with q | q
  .exact I.ok.has y.1 (.inl q)
  .exact I.ok.has y.1 (.inr q)
 -- the block's own parts
 generalize hC:s.heap.objs.size=C
 generalize hcs:cellsFrom (C+1) scope.names (xQ X.env scope.names [])=cs
 generalize hh4:pushCells (s.heap.push { cls:=.type "dict",data:=.dict #[] }) scope.names=h4
 have szP:(s.heap.push { cls:=.type "dict",data:=.dict #[] }).objs.size=C+1:=by rw[Heap.size_push,hC]
 have keep4:∀b o,s.heap.get? b=some o->h4.get? b=some o:=fun b o e=>hh4▸pushCells_keeps _ _ _ _ (Heap.get?_push_of_some _ e)
 have nsC:h4.Ns C (fun _=>none):=by
  have q:=(Heap.Ns.new s.heap (.type "dict")).keeps (pushCells_keeps scope.names (s.heap.push { cls:=.type "dict",data:=.dict #[] }))
  rw[hC,hh4] at q
  exact q
 -- a cell of the block: one of its own,or one of those around
 have csIn:∀y c,cs.lookup y=some c->((y,NameKind.free)∈scope.names/\X.env.cells.lookup y=some c)\/(C+1<=c/\h4.IsCell c none/\(y,NameKind.cell)∈scope.names):=fun y c e=>by
  have q:=zbL (y:=y) (c:=c) (names:=scope.names) (h:=s.heap.push { cls:=.type "dict",data:=.dict #[] }) (acc:=xQ X.env scope.names [])
  rw[szP,hcs,hh4] at q
  rcases q e with q | q
  .rcases xD hcl q with z | z
   .cases z
   .exact .inl z
  .exact .inr q
 have oldC:∀y c,X.env.cells.lookup y=some c->c < C:=fun y c e=>by
  obtain ⟨v,q⟩:=I.cell y c e
  rw[<- hC];exact q.lt
 have fpC:∀b∈fp,b < C:=fun b hb=>by
  obtain ⟨o,e,_⟩:=T.obj _ _ st b hb
  rw[<- hC];exact Heap.lt_size e
 let cenv:Env:={ scope:=relabel scope X.env,locals:=C,globals:=X.env.globals,cells:=cs,qual:=X.env.qual,func:=none,code:=X.env.code,frame:=X.env.frame,builtins:=X.env.builtins }
 let RR:Result->Shared->Prop:=compPost (model X.prog X.w) X.A X.xe use Q (.ref D) C
 let Xc:Cx:={ X with N:=yn X.N xs,s₀:=s,H₀:=H,env:=cenv,outer:=X.stack,stack:=X.stack,ex:=fp,fn:=fun y=>decide (scope.names.lookup y=some .cell),calm:=true,pn:=[],xe:=notedBy (model X.prog X.w) X.A cenv fun e s'=>RR (.error e) s' }
 have hXc:CompOf X scope xs Xc:=⟨rfl,rfl,rfl,rfl,rfl,rfl,rfl,rfl,rfl,rfl⟩
 obtain ⟨hT,hE⟩:=hbody Xc hXc
 have ok:Xc.Ok:=by
  refine ⟨I.ok.mod,B.kind,I.ok.glob,I.ok.blt,Nat.le_of_eq hC,?_,fun y hy=>?_,fun y c hf e=>?_,fun _=>I.ok.hd hc,I.ok.frames,.inl rfl,fun b hb=>⟨Nat.ne_of_lt (fpC b hb),fun y c e=>?_⟩,I.bs,Nat.le_trans I.ok.bsz I.sz,fun b o e hb=>?_,fun b hb hf=>?_,I.stack,I.stkFree⟩
  .show ∀y z c,cs.lookup y=some c->cs.lookup z=some c->y=z
   rw[<- hcs]
   refine g9 (fun y z c e1 e2=>?_) fun y c e=>?_
   .rcases xD hcl e1 with q | q
    .cases q
    .rcases xD hcl e2 with q' | q'
     .cases q'
     .exact I.ok.inj y z c q.2 q'.2
   .rcases xD hcl e with q | q
    .cases q
    .exact Nat.lt_succ_of_lt (oldC y c q.2)
  .have hy':(relabel scope X.env).names.lookup y=some .cell\/(relabel scope X.env).names.lookup y=some .free:=hy
   rw[zJ] at hy'
   show ∃c,cs.lookup y=some c
   rw[<- hcs]
   refine Option.isSome_iff_exists.mp (PySem.W.cellsFrom_some _ _ _ ?_)
   cases hk:scope.names.lookup y with
   | none=>rw[hk] at hy';rcases hy' with z | z <;> cases z
   | some k =>
    rw[hk] at hy'
    have kk:k=.cell\/k=.free:=by
     simp only[Option.map_some] at hy'
     by_cases hcnd:(k == NameKind.free && X.env.scope.kind == .function && X.env.kindOf y == some .cell)=true
     .refine .inr ?_
      have:=(Bool.and_eq_true_iff.mp (Bool.and_eq_true_iff.mp hcnd).1).1
      simpa using this
     .rw[if_neg hcnd] at hy'
      rcases hy' with z | z
      .exact .inl (Option.some.inj z)
      .exact .inr (Option.some.inj z)
    rcases kk with rfl | rfl
    .exact .inl rfl
    .exact .inr (wA (.inl (PySem.mem_of_lookup hk)))
  .show s.heap.objs.size<=c
   rw[hC]
   have e':cs.lookup y=some c:=e
   rw[<- hcs] at e'
   exact Nat.le_trans (Nat.le_succ _) (zbM (lo:=C+1) (.inl (PySem.mem_of_lookup (of_decide_eq_true hf))) (Nat.le_refl _) e')
  .show c≠b
   rintro rfl
   rcases csIn y c e with ⟨_,z⟩ | ⟨z,_,_⟩
   .exact (hfp c hb).2.2.2.2.1 y c z rfl
   .exact absurd (Nat.lt_of_lt_of_le (fpC c hb) (Nat.le_trans (Nat.le_succ _) z)) (Nat.lt_irrefl _)
  .rcases (hfp b hb).2.2.2.1 with z | z
   .exact I.ok.noex b o e z
   .exact absurd (Nat.lt_of_lt_of_le (Heap.lt_size (I.ok.bs b o e).1) z) (Nat.lt_irrefl _)
  .rcases List.mem_cons.mp (I.stkSub b hf) with z | z
   .exact (hfp b hb).2.1 z
   .exact (hfp b hb).2.2.1 z
 have frC:H C=none:=I.hok.fresh (Nat.le_of_eq hC)
 have frN:∀c,C<=c->H c=none:=fun c hc'=>I.hok.fresh (by rw[hC];exact hc')
 have hσ:σ.length=X.N.length:=I.len
 have I4:Inv Xc [] (σ++xs.map fun _=>none) H { s with heap:=h4 }:=by
  refine ⟨ok,rfl,I.bare,Un.kept keep4,⟨_,nsC,fun i y v e1 e2 e3=>?_⟩,fun y c e=>?_,frC,fun y c e=>?_,fun p hp=>absurd (show p∈([]:List (Addr×Obj)) from hp) (by simp),I.hok.kept keep4,?_⟩
  .have hi:i < σ.length:=by
    by_cases hi:i < σ.length
    .exact hi
    .rw[List.getElem?_append_right (by lia),List.getElem?_map] at e2
     cases hz:xs[i - σ.length]? with
     | none=>rw[hz] at e2;simp at e2
     | some k=>rw[hz] at e2;simp at e2
   rw[List.getElem?_append_left hi] at e2
   have vis:scope.names.lookup y=some .local\/scope.names.lookup y=some .cell\/scope.names.lookup y=some .free:=by
    have e3':Vis (relabel scope X.env) y:=e3
    unfold Vis at e3'
    rw[zJ] at e3'
    cases hk:scope.names.lookup y with
    | none=>rw[hk] at e3';rcases e3' with z | z | z <;> cases z
    | some k =>
     rw[hk] at e3'
     simp only[Option.map_some] at e3'
     by_cases hcnd:(k == NameKind.free && X.env.scope.kind == .function && X.env.kindOf y == some .cell)=true
     .have:=(Bool.and_eq_true_iff.mp (Bool.and_eq_true_iff.mp hcnd).1).1
      exact .inr (.inr (by rw[show k=.free by simpa using this]))
     .rw[if_neg hcnd] at e3'
      exact e3'
   rcases za0 (by rw[<- hσ];exact hi) e1 with z | ⟨z,zx⟩
   .obtain ⟨x,hx,z⟩:=z
    subst z
    rw[B.dumN x hx] at vis
    rcases vis with q | q | q <;> cases q
   .have hfree:scope.names.lookup y=some .free:=by
     rcases vis with q | q | q
     .exact absurd q (B.alone y (List.mem_of_getElem? z) zx).1
     .exact absurd q (B.alone y (List.mem_of_getElem? z) zx).2
     .exact q
    have kout:=B.free _ (PySem.mem_of_lookup hfree) rfl
    obtain ⟨m,hn,hl⟩:=I.loc
    obtain ⟨u,r,l⟩:=hl i y v z e2 (kout.elim (fun q=>.inr (.inl q)) fun q=>.inr (.inr q))
    refine ⟨u,r,?_⟩
    rcases l with ⟨k,_⟩ | ⟨_,c,ec,zc⟩
    .have k':X.env.scope.names.lookup y=some .local:=k
     rcases kout with q | q <;> rw[k'] at q <;> cases q
    .have hsome:∃c',cs.lookup y=some c':=ok.has y (by
      show (relabel scope X.env).names.lookup y=some .cell\/(relabel scope X.env).names.lookup y=some .free
      rw[zJ,hfree]
      simp only[Option.map_some]
      split
      .exact .inl rfl
      .exact .inr rfl)
     obtain ⟨c',ec'⟩:=hsome
     refine .inr ⟨?_,c',ec',?_⟩
     .show (relabel scope X.env).names.lookup y=some .cell\/(relabel scope X.env).names.lookup y=some .free
      rw[zJ,hfree]
      simp only[Option.map_some]
      split
      .exact .inl rfl
      .exact .inr rfl
     .rcases csIn y c' ec' with ⟨_,q⟩ | ⟨_,_,q⟩
      .rw[ec] at q;cases q
       exact zc.keeps keep4
      .exact absurd hfree (B.one (y,.cell) q rfl)
  .rcases csIn y c e with ⟨_,q⟩ | ⟨_,q,_⟩
   .obtain ⟨v,z⟩:=I.cell y c q
    exact ⟨v,z.keeps keep4⟩
   .exact ⟨_,q⟩
  .rcases csIn y c e with ⟨_,q⟩ | ⟨q,_,_⟩
   .exact I.freeC y c q
   .exact frN c (by lia)
  .show (σ++xs.map fun _=>none).length=(yn X.N xs).length
   rw[zaZ,List.length_append,hσ,List.length_map]
 -- the loop
 have hLoc:∀x∈xs,Loc Xc.env.scope x/\(Xc.fn x=true\/Xc.env.scope.names.lookup x=some .local):=fun x hx=>by
  constructor
  .show (relabel scope X.env).names.lookup x=some .local\/(relabel scope X.env).names.lookup x=some .cell
   rw[zJ]
   rcases B.own x hx with q | q <;> rw[q]
   .exact .inl rfl
   .exact .inr rfl
  .rcases B.own x hx with q | q
   .refine .inr ?_
    show (relabel scope X.env).names.lookup x=some .local
    rw[zJ,q];rfl
   .exact .inl (decide_eq_true q)
 have hg:PG Xc tg g:=hpg Xc hXc hLoc
 have fpX:∀ {H':Hp},(∀b∈fp,H' b=none)->∀b∈fp,vf Xc [] H' b:=fun hn b hb =>
  ⟨hn b hb,Nat.ne_of_lt (fpC b hb),fun z=>ok.exfs b hb z,.inl hb,fun y c e=>(ok.exf b hb).2 y c e,fun p hp=>absurd (show p∈([]:List (Addr×Obj)) from hp) (by simp)⟩
 have loop:codeAny (model X.prog X.w) X.A (.compLoop (.ListComp elt [⟨tg,iter,ifs,0⟩] scope pos) 0 (.ref it) (.ref D) cenv) RR { s with heap:=h4 }:=by
  refine jc (fun n s'=>∃i os ys H',os.length=xs.length/\Inv Xc [] (σ++os) H' s'/\tn i s'.heap/\(∀b∈fp,H' b=none)/\W i n ys H') ?_ m0 ⟨0,_,[],H,List.length_map _,I4,T.keep _ _ _ st fun b _ o e=>keep4 b o e,fun b hb=>(hfp b hb).1,w0⟩
  rintro n s3 ⟨i,os,ys,H3,hos,I3,st3,fr3,w3⟩
  rcases turn i n ys H3 w3 with ⟨stop,fin⟩ | ⟨go,step⟩
  .refine thn (T.done Xc rfl rfl rfl rfl i [] s3 (σ++os) H3 Xc.xe I3 (fpX fr3) st3 stop) fun r s4 ⟨hr,I4⟩=>?_
   subst hr
   obtain ⟨m,hn,_⟩:=id I4.loc
   refine fin s4 m C ?_ hn (Nat.le_of_eq hC) I4.free
   exact I.call' (ch:=fp) I4.os I4.base I4.hok I4.bare fun b hb=>⟨(hfp b hb).2.2.2.1,(hfp b hb).2.1,(hfp b hb).2.2.2.2.1,(hfp b hb).2.2.2.2.2⟩
  .refine thn (T.item Xc rfl rfl rfl rfl i [] s3 (σ++os) H3 Xc.xe I3 (fpX fr3) st3 go) fun r s4 ⟨u,hr,h4'⟩=>?_
   subst hr
   refine thn h4' fun _ s5 ⟨v,H5,I5,r5,y5,st5,fr5⟩=>?_
   have I5':=I5.pinned (fpX fr5) (T.obj _ _ st5)
   obtain ⟨vs,hvs,step5⟩:=step v H5 y5
   obtain ⟨hvl,hset⟩:=hun v H5 vs os hos hvs
   refine thn (hg _ s5 (σ++os) H5 v u (fun σ2 H2=>σ2=σ++vs.map some/\H2=H5) I5' r5 hset) fun _ s6 ⟨σ6,H6,I6,e6,e6'⟩=>?_
   subst e6;subst e6'
   have back:∀ {H7:Hp}{s7:Shared},Inv Xc ([]++vo fp s5.heap) (σ++vs.map some) H7 s7->tn (i+1) s7.heap/\(∀b∈fp,H7 b=none)/\Inv Xc [] (σ++vs.map some) H7 s7:=fun {H7 s7} I7=>by
    refine ⟨T.keep _ _ _ st5 fun b hb ob e=>(I7.pin (b,ob) (List.mem_append_right _ (List.mem_append_right _ (xa hb e)))).1,fun b hb=>?_,I7.unpinned⟩
    obtain ⟨ob,e,_⟩:=T.obj _ _ st5 b hb
    exact (I7.pin (b,ob) (List.mem_append_right _ (List.mem_append_right _ (xa hb e)))).2.1
   refine thn (hT _ s6 (σ++vs.map some) H6 _ I6 step5) fun b s7 ⟨H7,I7,q7⟩=>?_
   cases b with
   | false =>
    rw[if_neg Bool.false_ne_true] at q7 ⊢
    obtain ⟨m',hm,w7⟩:=q7
    obtain ⟨t1,t2,t3⟩:=back I7
    exact ⟨m',hm,i+1,_,ys,H7,(by rw[List.length_map];exact hvl),t3,t1,t2,w7⟩
   | true =>
    rw[if_pos rfl] at q7 ⊢
    refine thn (hE _ s7 (σ++vs.map some) H7 _ I7 q7) fun yv s8 ⟨y,H8,I8,r8,hD8,hl8,m',hm,w8⟩=>?_
    refine thn (ky (X:=Xc) _ s8 (σ++vs.map some) H8 (.ref D) [y] (.ref D) [yv] (fun _ H9=>H9=upd H8 D (.lst (ys++[y]))) I8 rfl (.cons r8 .nil) ⟨D,ys,y,rfl,rfl,hD8,hl8,rfl⟩) fun _ s9 ⟨_,H9,I9,_,e9⟩=>?_
    subst e9
    obtain ⟨t1,t2,t3⟩:=back I9
    exact ⟨m',hm,i+1,_,ys++[y],_,(by rw[List.length_map];exact hvl),t3,t1,t2,w8⟩
 refine codeAny_compStart_list loop ?_
 exact T.self X.A 0 _ _ _ (T.keep _ _ _ st fun b _ o e=>keep4 b o e) loop
section
variable {X:Cx}{elt iter tg:Expr}{xs:List Str}{y:Str}{g:TG}{un:V->Hp->List V->Prop}{py:Pos}{ifs:List Expr}{scope:Scope}{pos spos:Pos}{wi:TI}{tc:TT}{te:TE}
theorem Inv.aside {pins:List (Addr×Obj)}{σ:St}{H:Hp}{s:Shared}{C lo:Addr}{h':Heap}(I:Inv X pins σ H s)(hlo:lo<=C)(hL:X.env.locals < lo)(hcell:∀y c,X.env.cells.lookup y=some c->c < lo)(hpin:∀p∈X.pn++pins,p.1 < lo)
  (hn:H C=none) (hs:Heap.SameBut C s.heap h'):Inv X pins σ H { s with heap:=h' } :=
 I.turned (it:=C) (t':=s.toks) (fun b o hb e=>(hs.2 b hb).trans e) hn (Nat.ne_of_gt (Nat.lt_of_lt_of_le hL hlo)) (.inr (Nat.le_trans I.ok.above (Nat.le_trans (Nat.le_of_lt hL) hlo)))
  (fun y c e=>Nat.ne_of_lt (Nat.lt_of_lt_of_le (hcell y c e) hlo)) fun p hp=>Nat.ne_of_lt (Nat.lt_of_lt_of_le (hpin p hp) hlo)
theorem Inv.below {pins:List (Addr×Obj)}{σ:St}{H:Hp}{s:Shared}(I:Inv X pins σ H s):X.env.locals < s.heap.objs.size/\(∀y c,X.env.cells.lookup y=some c->c < s.heap.objs.size)/\∀p∈X.pn++pins,p.1 < s.heap.objs.size :=
 ⟨I.lt,fun y c e=>let ⟨_,z⟩:=I.cell y c e;z.lt,fun p hp=>Heap.lt_size (I.pin p hp).1⟩
theorem xN (B:BlockOk X scope xs)(ok:X.Ok):closureFor scope X.env=pure (xQ X.env scope.names []) :=
 vq fun y hy hf=>(B.free y hy hf).elim (fun q=>ok.has y.1 (.inl q)) fun q=>ok.has y.1 (.inr q)
structure Tgt (X:Cx)(scope:Scope)(xs:List Str)(tg:Expr)(g:TG)(un:V->Hp->List V->Prop):Prop where
 pg:∀Xc,CompOf X scope xs Xc->(∀x∈xs,Loc Xc.env.scope x/\(Xc.fn x=true\/Xc.env.scope.names.lookup x=some .local))->PG Xc tg g
 un:∀v H vs os (σ:St),σ.length=X.N.length->os.length=xs.length->un v H vs->vs.length=xs.length/\g v (σ++os) H fun σ2 H2=>σ2=σ++vs.map some/\H2=H
def un1 (v:V)(_:Hp)(vs:List V):Prop:=vs=[v]
theorem zbN {α:Type}{l:List α}(h:l.length=1):∃a,l=[a]:=by
 cases l with
 | nil=>cases h
 | cons a t =>
  cases t with
  | nil=>exact ⟨a,rfl⟩
  | cons b t=>cases h
theorem zbO {α:Type}{l:List α}(h:l.length=2):∃a b,l=[a,b]:=by
 cases l with
 | nil=>cases h
 | cons a t =>
  obtain ⟨b,rfl⟩:=zbN (Nat.succ.inj h)
  exact ⟨a,b,rfl⟩
theorem qU {x:Str}{px:Pos}(B:BlockOk X scope [x]):Tgt X scope [x] (.Name x px) (xM X.N.length) un1:=by
 refine ⟨fun Xc c h=>?_,fun v H vs os σ hσ ho hv=>?_⟩
 .exact xB (by rw[c.N];exact B.nd) (by rw[c.N];exact xR X.N [x] 0) (h x (by simp)).1 (h x (by simp)).2
 .cases hv
  refine ⟨rfl,?_,rfl⟩
  obtain ⟨o,rfl⟩:=zbN ho
  rw[<- hσ,List.set_append_right _ _ (Nat.le_refl _)]
  simp
def un2 (K:PySem.W.Frag)(v:V)(H:Hp)(vs:List V):Prop:=∃a,v=.ref a/\SqT K H a vs/\vs.length=2
theorem jd {x y:Str}{px py:Pos}{k:Nat}{pt:Pos}(hc:X.calm=true)(B:BlockOk X scope [x,y]):Tgt X scope [x,y] (.Tuple [.Name x px,.Name y py] k pt) (zeZ X.K 2 (jQ (xM X.N.length) (jQ (xM (X.N.length+1)) zeY))) (un2 X.K):=by
 refine ⟨fun Xc c h=>?_,fun v H vs os σ hσ ho hv=>?_⟩
 .have nd:Xc.N.Nodup:=by rw[c.N];exact B.nd
  rw[<- c.K]
  exact zbw c.calm (x5 (xB nd (by rw[c.N];exact xR X.N [x,y] 0) (h x (by simp)).1 (h x (by simp)).2) (x5 (xB nd (by rw[c.N];exact xR X.N [x,y] 1) (h y (by simp)).1 (h y (by simp)).2) qR))
 .obtain ⟨a,e1,e2,e3⟩:=hv
  obtain ⟨u,w,rfl⟩:=zbO e3
  obtain ⟨o,p,rfl⟩:=zbO ho
  refine ⟨rfl,a,[u,w],e1,e2,rfl,u,[w],rfl,w,[],rfl,rfl,?_,rfl⟩
  rw[<- hσ,List.set_append_right _ _ (Nat.le_refl _),List.set_append_right _ _ (by lia)]
  simp
theorem vi (B:BlockOk X scope xs)(hc:X.calm=true)(hT:Tgt X scope xs tg g un)(hi:PI X tg iter wi)(hbody:∀Xc,CompOf X scope xs Xc->PTs Xc ifs tc/\PE Xc elt te)
  (hs:∀v,foldedSetIterable iter X.env v=pure v:=by intro _;rfl):PE X (.ListComp elt [⟨tg,iter,ifs,0⟩] scope pos) (kA un wi tc te):=by
 intro pins s σ H Q I h
 rw[eval_ListComp]
 refine wpAny_comprehension_free (use:=none) (cl:=xQ X.env scope.names []) rfl hs (xN B I.ok) B.kind B.locs ?_
 refine thn (hi pins s σ H _ I h) fun xv s1 h1=>thn h1 fun itv s2 h2=>?_
 obtain ⟨it,fp,tn,J,H2,e,I2,T,st2,f2,q2⟩:=h2
 subst e
 refine wpAny_newObj_type ?_
 have I3:=I2.lnew (its:=[]) (ys:=[]) (t':=s2.toks) .nil (Nat.zero_le _)
 obtain ⟨W,⟨m0,w0⟩,turn⟩:=q2 s2.heap.objs.size (I2.hok.fresh (Nat.le_refl _))
 have fp3:∀b∈fp,vf X pins (upd H2 s2.heap.objs.size (.lst [])) b:=fun b hb=>by
  obtain ⟨o,e,_⟩:=T.obj _ _ st2 b hb
  exact ⟨by rw[zd (Nat.ne_of_lt (Heap.lt_size e))];exact (f2 b hb).1,(f2 b hb).2⟩
 obtain ⟨b1,b2,b3⟩:=I3.below
 refine vt B hc hT.pg (fun v H vs os h1 h2=>hT.un v H vs os σ I.len h1 h2) hbody I3 T (T.keep _ _ _ st2 fun b _ o e=>Heap.get?_push_of_some _ e) fp3 W m0 w0 fun i m ys H4 w=>?_
 rcases turn i m ys H4 w with ⟨stop,q⟩ | r
 .exact .inl ⟨stop,fun s' m' C I' hn hC hCn=>⟨m',hn,fun h' hsb=>⟨.ref s2.heap.objs.size,H4,I'.aside hC b1 b2 b3 hCn hsb,rfl,q⟩⟩⟩
 .exact .inr r
theorem qc {i:Nat}(B:BlockOk X scope xs)(hc:X.calm=true)(hT:Tgt X scope xs tg g un)(hi:PI X tg iter wi)(hbody:∀Xc,CompOf X scope xs Xc->PTs Xc ifs tc/\PE Xc elt te)
  (hN:X.N.Nodup) (hy:X.N[i]?=some y) (hx:Loc X.env.scope y) (hf:X.fn y=true\/X.env.scope.names.lookup y=some .local)
  (hsw:swapsWith (.ListComp elt [⟨tg,iter,ifs,0⟩] scope pos) (some (.Name y py)) spos.line X.env=pure true)
  (hs:∀v,foldedSetIterable iter X.env v=pure v:=by intro _;rfl):PS X (.Assign [.Name y py] (.ListComp elt [⟨tg,iter,ifs,0⟩] scope pos) spos) (ze0 (kA un wi tc te) (xM i)):=by
 intro pins s σ H D I h
 rw[exec_Assign_Name_used _ _ _ _ hsw]
 refine wpAny_bind (wpAny_standAt (wpAny_bind ?_))
 show wpAny _ X.A (do let _ <- comprehension (.ListComp elt [⟨tg,iter,ifs,0⟩] scope pos) scope X.env _ (newList []) false (eval iter X.env) (some (assign (.Name y py) X.env))) _ _ s
 refine wpAny_bind (wpAny_mono (wpAny_comprehension_free (use:=some (assign (.Name y py) X.env)) (cl:=xQ X.env scope.names []) (Q:=fun _ s'=>SP X pins D .next s') rfl hs (xN B I.ok) B.kind B.locs ?_)
  (fun _ s' hq=>wpAny_pure (wpAny_pure hq)) fun _ _ e=>e)
 refine thn (hi pins s σ H _ I h) fun xv s1 h1=>thn h1 fun itv s2 h2=>?_
 obtain ⟨it,fp,tn,J,H2,e,I2,T,st2,f2,q2⟩:=h2
 subst e
 refine wpAny_newObj_type ?_
 have I3:=I2.lnew (its:=[]) (ys:=[]) (t':=s2.toks) .nil (Nat.zero_le _)
 obtain ⟨W,⟨m0,w0⟩,turn⟩:=q2 s2.heap.objs.size (I2.hok.fresh (Nat.le_refl _))
 have fp3:∀b∈fp,vf X pins (upd H2 s2.heap.objs.size (.lst [])) b:=fun b hb=>by
  obtain ⟨o,e,_⟩:=T.obj _ _ st2 b hb
  exact ⟨by rw[zd (Nat.ne_of_lt (Heap.lt_size e))];exact (f2 b hb).1,(f2 b hb).2⟩
 obtain ⟨b1,b2,b3⟩:=I3.below
 refine vt B hc hT.pg (fun v H vs os h1 h2=>hT.un v H vs os σ I.len h1 h2) hbody I3 T (T.keep _ _ _ st2 fun b _ o e=>Heap.get?_push_of_some _ e) fp3 W m0 w0 fun i' m ys H4 w=>?_
 rcases turn i' m ys H4 w with ⟨stop,q⟩ | r
 .refine .inl ⟨stop,fun s' m' C I' hn hC hCn=>?_⟩
  refine wpAny_assign_Name (ko I' hN hy hx (v:=.ref s2.heap.objs.size) rfl (fun s'' I'' ⟨a,sb,ha⟩=>?_) hf)
  have hCa:C≠a:=by
   rcases ha with rfl | ha
   .exact Nat.ne_of_gt (Nat.lt_of_lt_of_le b1 hC)
   .exact Nat.ne_of_gt (Nat.lt_of_lt_of_le (b2 _ _ ha) hC)
  exact ⟨m',hn.sameBut sb hCa,fun h' hsb=>⟨_,H4,I''.aside hC b1 b2 b3 hCn hsb,q⟩⟩
 .exact .inr r
end
section
variable {X:Cx}
theorem Vals.at {xs:List V}{us:List Value}(h:Vals xs us){i:Nat}{u:Value}(e:us[i]?=some u):∃x,xs[i]?=some x/\RelV x u:=by
 have hl:=h.length
 have hi:=(List.getElem?_eq_some_iff.mp e).1
 have hx:xs[i]?=some xs[i]:=List.getElem?_eq_getElem (by lia)
 obtain ⟨u',h1,h2⟩:=h.get hx
 rw[e] at h1;cases h1
 exact ⟨_,hx,h2⟩
theorem za1 (bs:List Bool):(List.range bs.length).all (fun i=>bs.getD i true)=bs.all id:=by
 rw[Bool.eq_iff_iff,List.all_eq_true,List.all_eq_true]
 constructor
 .intro h b hb
  obtain ⟨i,hi,e⟩:=List.getElem_of_mem hb
  have:=h i (by simpa using hi)
  rw[List.getD_eq_getElem?_getD,List.getElem?_eq_getElem hi] at this
  simpa [e] using this
 .intro h i hi
  have hi':i < bs.length:=by simpa using hi
  rw[List.getD_eq_getElem?_getD,List.getElem?_eq_getElem hi']
  exact h _ (List.getElem_mem hi')
theorem jU (hc:X.calm=true):CallR X (.builtin "all") (fun xs H Q=>∃ (p:Addr) (bs:List Bool),xs=[.ref p]/\SqL X.K H p (bs.map V.bl)/\Q (.bl (bs.all id)) H):=by
 intro pins s σ H xs us Q I r h
 obtain ⟨p,bs,rfl,hq,q⟩:=h
 obtain ⟨u,rfl,rx⟩:=x6 r
 cases rx
 obtain ⟨its,r',pl,hz⟩:=I.list hq
 have hlen:=r'.length
 have hp:∃o,s.heap.get? p=some o:=by obtain ⟨o,ho,_⟩:=pl.isList;exact ⟨o,ho⟩
 obtain ⟨o,ho⟩:=hp
 have hlt:=Heap.lt_size ho
 refine call_all_walk (wpAny_pyIter_list pl.isList ?_)
 refine ⟨s.heap.objs.size,_,_,_,_,_,fun i=>bs.getD i true,rfl,Walks.list (A:=X.A.in1) (I.ok.hd hc) s.heap.objs.size p (Nat.ne_of_lt hlt) its.toArray,⟨⟨_,Heap.get?_push_size _ rfl,rfl,rfl⟩,pl.isList.at fun o e=>Heap.get?_push_of_some _ e⟩,?_,fun h' tk hk=>?_⟩
 .intro i v s2 Q2 E2 hv hQ
  have hv':its[i]?=some v:=by simpa using hv
  obtain ⟨y,hy,ry⟩:=r'.at hv'
  rw[List.getElem?_map] at hy
  cases hb:bs[i]? with
  | none=>rw[hb] at hy;cases hy
  | some b =>
   rw[hb] at hy;cases hy
   have:v=.bool b:=ry
   subst this
   have e:bs.getD i true=b:=by rw[List.getD_eq_getElem?_getD,hb];rfl
   have hQ':Q2 (bs.getD i true) s2:=hQ
   rw[e] at hQ'
   exact wpAny_truthy_bool hQ'
 .have e:its.toArray.size=bs.length:=by simp at hlen ⊢;lia
  rw[e,za1]
  exact ⟨.bl (bs.all id),H,I.kept (t':=tk) fun b o e=>hk b o (fun hb=>by
   have:b=s.heap.objs.size:=by simpa using hb
   exact absurd (Heap.lt_size e) (by rw[this];exact Nat.lt_irrefl _)) (Heap.get?_push_of_some _ e),rfl,q⟩
theorem wX (ns:List Int):∀n,n<=ns.length->preSum (fun i=>ns.getD i 0) n=(ns.take n).sum
 | 0,_=>by simp[preSum]
 | n+1,h=>by
  have e:ns[n]?=some (ns.getD n 0):=by rw[List.getD_eq_getElem?_getD,List.getElem?_eq_getElem (by lia)];rfl
  rw[preSum,wX ns n (by lia),List.take_add_one,e,List.sum_append]
  simp
theorem jV (hc:X.calm=true):CallR X (.builtin "sum") (fun xs H Q=>∃ (p:Addr) (ns:List Int),xs=[.ref p]/\SqL X.K H p (ns.map V.int)/\Q (.int ns.sum) H):=by
 intro pins s σ H xs us Q I r h
 obtain ⟨p,ns,rfl,hq,q⟩:=h
 obtain ⟨u,rfl,rx⟩:=x6 r
 cases rx
 obtain ⟨its,r',pl,hz⟩:=I.list hq
 have hlen:=r'.length
 have hp:∃o,s.heap.get? p=some o:=by obtain ⟨o,ho,_⟩:=pl.isList;exact ⟨o,ho⟩
 obtain ⟨o,ho⟩:=hp
 have hlt:=Heap.lt_size ho
 refine call_sum_walkG (wpAny_pyIter_list pl.isList ?_)
 refine ⟨s.heap.objs.size,_,_,_,_,_,fun i=>ns.getD i 0,rfl,Walks.list (A:=X.A.in1) (I.ok.hd hc) s.heap.objs.size p (Nat.ne_of_lt hlt) its.toArray,⟨⟨_,Heap.get?_push_size _ rfl,rfl,rfl⟩,pl.isList.at fun o e=>Heap.get?_push_of_some _ e⟩,?_,?_,fun h' tk t' hk=>?_⟩
 .intro b hb
  have h1:s.heap.objs.size < (s.heap.push { cls:=.type "list_iterator",data:=.fields #[.ref p,.int 0 0] }).objs.size:=Heap.lt_size (Heap.get?_push_size _ rfl)
  have:b=s.heap.objs.size\/b=p:=by simpa using hb
  rcases this with rfl | rfl
  .exact h1
  .exact Nat.lt_trans hlt h1
 .intro i v hv
  have hv':its[i]?=some v:=by simpa using hv
  obtain ⟨y,hy,ry⟩:=r'.at hv'
  rw[List.getElem?_map] at hy
  cases hb:ns[i]? with
  | none=>rw[hb] at hy;cases hy
  | some b =>
   rw[hb] at hy;cases hy
   obtain ⟨t,rfl⟩:=(ry:∃t,v=.int b t)
   have e:ns.getD i 0=b:=by rw[List.getD_eq_getElem?_getD,hb];rfl
   exact ⟨t,by show Value.int b t=Value.int (ns.getD i 0) t;rw[e]⟩
 .have e:its.toArray.size=ns.length:=by simp at hlen ⊢;lia
  rw[e,wX ns ns.length (Nat.le_refl _),List.take_length]
  exact ⟨.int ns.sum,H,I.kept (t':=tk) fun b o e=>hk b o (fun hb=>by
   have:b=s.heap.objs.size:=by simpa using hb
   exact absurd (Heap.lt_size e) (by rw[this];exact Nat.lt_irrefl _)) (Heap.get?_push_of_some _ e),⟨t',rfl⟩,q⟩
end
end L2
namespace Mini
inductive Wd where
 | non | bl (b:Bool) | int (i:Int) | str (s:List Nat) | tup (xs:List Wd) | rol (xs:List Wd) | ref (l:Nat)
deriving Inhabited
set_option genInjectivity false in
inductive Ob where
 | lst (xs:List Wd) | dct (kvs:List (Wd×Wd))
deriving Inhabited
abbrev Me:=List Ob
set_option tactic.hygienic true in
abbrev En:=List (Option Wd)
set_option genInjectivity false in
inductive Rz where
 | ok (w:Wd) (m:Me) | exc (c:Nat) (w:Wd) (m:Me) | no
deriving Inhabited
set_option genInjectivity false in
inductive Rs where
 | next (e:En) (m:Me) | ret (w:Wd) (m:Me) | brk (e:En) (m:Me) | cont (e:En) (m:Me)
 | exc (c:Nat) (w:Wd) (e:En) (m:Me) | no
deriving Inhabited
inductive Bo where | add | sub | mul | fdiv | mod | pow | shr | band
deriving DecidableEq
inductive Co where | eq | ne | lt | le | gt | ge | isN | notN | isin | notin
deriving DecidableEq
inductive Tg where | int | bool | list | tuple | str | dict
deriving DecidableEq
inductive Blf where | len | int | bool | list | tuple | sum | all | abs | min2 | max2 | minS | maxS | sorted
deriving DecidableEq
inductive Mth where | append | extend | pop | reverse | clear | insert
deriving DecidableEq
inductive Kd where | zip | enum | prs
deriving DecidableEq
set_option genInjectivity false in
inductive Ex where
 | var (i:Nat) | lit (w:Wd)
 | bin (op:Bo) (a b:Ex) | neg (a:Ex) | not (a:Ex) | and (a b:Ex) | or (a b:Ex)
 | cmp (op:Co) (a b:Ex) | chain (p q:Co) (a b c:Ex) | ife (c a b:Ex)
 | unit | pair (a b:Ex)
 | call (k:Nat) (args:Ex) | blt (b:Blf) (args:Ex) | isi (t:Tg) (a:Ex)
 | lst (args:Ex) | tup (args:Ex) | dict0
 | idx (a b:Ex) | slL (a lo:Ex) | slH (a hi:Ex) | slB (a lo hi:Ex)
 | meth (n:Mth) (o args:Ex)
 | rng (a b c:Ex)
 | comp (elt it cond:Ex)
 | lrng (a:Ex)
 | compP (k:Kd) (elt a b cond:Ex)
deriving Inhabited
set_option genInjectivity false in
inductive Sm where
 | skip | seq (a b:Sm)
 | asg (i:Nat) (e:Ex) | asgS (o i e:Ex) | swapS (o i p j a b:Ex) | aug (i:Nat) (op:Bo) (e:Ex) | augS (o i:Ex) (op:Bo) (e:Ex)
 | ite (c:Ex) (a b:Sm) | forv (i:Nat) (it:Ex) (body:Sm) | fort (i j:Nat) (it:Ex) (body:Sm) | while (c:Ex) (body:Sm)
 | ret (e:Ex) | retN | expr (e:Ex) | brk | cont | never
 | forA (i j:Nat) (c:Int)
 | forZ (i j:Nat) (a b:Ex) (body:Sm)
 | forC (i j:Nat)
 | forS (i j k:Nat) (c:Int)
 | appPop (j a x:Nat) (e:Ex)
 | unp3 (i j k:Nat) (e:Ex)
 | popV (i j:Nat)
 | forE (i j:Nat) (a:Ex) (body:Sm)
 | swapI (j:Nat) (i k a b:Ex)
 | popI (j:Nat) (e:Ex) (a b:Sm)
 | chk (t n k p s:Nat)
 | forB (i j t:Nat) (c:Int)
deriving Inhabited
noncomputable def lim:Nat:=100000
noncomputable def big:Int:=18446744073709551616
noncomputable def xk (i:Int):Bool:=decide (-big < i) && decide (i < big)
noncomputable def eqL (p:Wd->Wd->Option Bool):List Wd->List Wd->Option Bool
 | x::xs,y::ys=>match p x y with
  | some a=>(eqL p xs ys).map (a && ·)
  | none=>none
 | _,_=>some true
noncomputable def b2i (b:Bool):Int:=if b then 1 else 0
noncomputable def isLst (m:Me)(l:Nat):Bool:=match m[l]? with
 | some (.lst _)=>true
 | _=>false
noncomputable def zbP:Wd->Bool
 | .rol _=>false
 | _=>true
noncomputable def eqW (m:Me):Nat->Wd->Wd->Option Bool
 | 0,_,_=>none
 | k+1,x,y=>match x,y with
  | .tup a,.tup b=>(eqL (eqW m k) a b).map (· && decide (a.length=b.length))
  | .ref a,.ref b=>if a=b then (if isLst m a then some true else none) else match m[a]?,m[b]? with
   | some (.lst xs),some (.lst ys)=>if xs.length=ys.length then eqL (eqW m k) xs ys else some false
   | _,_=>none
  | .ref a,y=>if isLst m a && zbP y then some false else none
  | x,.ref b=>if isLst m b && zbP x then some false else none
  | .rol _,_=>none
  | _,.rol _=>none
  | .non,.non=>some true
  | .bl a,.bl b=>some (a == b)
  | .int a,.int b=>some (decide (a=b))
  | .bl a,.int b=>some (decide (b2i a=b))
  | .int a,.bl b=>some (decide (a=b2i b))
  | .str a,.str b=>some (decide (a=b))
  | _,_=>some false
noncomputable def zW:Nat:=12
noncomputable def inL (p:Wd->Wd->Option Bool)(x:Wd):List Wd->Option Bool
 | []=>some false
 | y::ys=>match p y x with
  | some a=>(inL p x ys).map (a || ·)
  | none=>none
noncomputable def ix (n:Nat)(i:Int):Option Nat :=
 if 0<=i then (if i < n then some i.toNat else none) else if -(n:Int)<=i then some (i+n).toNat else none
noncomputable def alloc (m:Me)(xs:List Wd):Rz:=if xs.length<=lim then .ok (.ref m.length) (m++[.lst xs]) else .no
noncomputable def zf (m:Me)(l:Nat):Option (List Wd):=match m[l]? with
 | some (.lst xs)=>some xs
 | _=>none
noncomputable def yx (m:Me):Wd->Option (List Wd)
 | .tup xs=>some xs
 | .rol xs=>some xs
 | .ref l=>zf m l
 | _=>none
noncomputable def bop (op:Bo)(x y:Wd)(m:Me):Rz:=match x,y with
 | .int i,.int j=>match op with
  | .add=>.ok (.int (i+j)) m
  | .sub=>.ok (.int (i - j)) m
  | .mul=>if xk i || xk j then .ok (.int (i * j)) m else .no
  | .fdiv=>if 0 < j/\j < 1073741824 then .ok (.int (i / j)) m else .no
  | .mod=>if 0 < j then .ok (.int (i % j)) m else .no
  | .pow=>if 0<=j/\j<=1000000/\xk i=true then .ok (.int (i ^ j.toNat)) m else .no
  | .shr=>if 0<=j/\j<=1000 then .ok (.int (i / 2 ^ j.toNat)) m else .no
  | .band=>if 0<=i/\j=1 then .ok (.int (i % 2)) m else .no
 | .ref a,.ref b=>match op,m[a]?,m[b]? with
  | .add,some (.lst xs),some (.lst ys)=>alloc m (xs++ys)
  | _,_,_=>.no
 | .ref a,.int k=>match op,m[a]? with
  | .mul,some (.lst xs)=>if -lim<=k/\k<=lim then alloc m (List.replicate k.toNat xs).flatten else .no
  | _,_=>.no
 | .tup xs,.tup ys=>match op with
  | .add=>if xs.length+ys.length<=lim/\xs.isEmpty=false then .ok (.tup (xs++ys)) m else .no
  | _=>.no
 | _,_=>.no
noncomputable def ofB (o:Option Bool)(m:Me):Rz:=match o with
 | some b=>.ok (.bl b) m
 | none=>.no
noncomputable def vu (r:Int->Int->Bool)(x y:Wd)(m:Me):Rz:=match x,y with
 | .int i,.int j=>.ok (.bl (r i j)) m
 | _,_=>.no
noncomputable def cop (op:Co)(x y:Wd)(m:Me):Rz:=match op with
 | .eq=>ofB (eqW m zW x y) m
 | .ne=>ofB ((eqW m zW x y).map (!·)) m
 | .isN=>match y,x with
  | .non,.non=>.ok (.bl true) m
  | .non,_=>.ok (.bl false) m
  | _,_=>.no
 | .notN=>match y,x with
  | .non,.non=>.ok (.bl false) m
  | .non,_=>.ok (.bl true) m
  | _,_=>.no
 | .isin=>match yx m y with
  | some ys=>ofB (inL (eqW m zW) x ys) m
  | none=>.no
 | .notin=>match yx m y with
  | some ys=>ofB ((inL (eqW m zW) x ys).map (!·)) m
  | none=>.no
 | .lt=>vu (fun i j=>decide (i < j)) x y m
 | .le=>vu (fun i j=>decide (i<=j)) x y m
 | .gt=>vu (fun i j=>decide (j < i)) x y m
 | .ge=>vu (fun i j=>decide (j<=i)) x y m
noncomputable def isT (t:Tg)(x:Wd)(m:Me):Option Bool:=match t,x with
 | .int,.int _=>some true
 | .int,.bl _=>some true
 | .bool,.bl _=>some true
 | .str,.str _=>some true
 | .tuple,.tup _=>some true
 | .list,.rol _=>some true
 | t,.ref l=>match m[l]? with
  | some (.lst _)=>some (decide (t=.list))
  | some (.dct _)=>some (decide (t=.dict))
  | none=>none
 | _,_=>some false
noncomputable def sIx (n d:Nat):Option Int->Nat
 | none=>d
 | some v=>if v < 0 then (v+(n:Int)).toNat else min v.toNat n
noncomputable def qe:List Wd->Option Int
 | []=>some 0
 | .int i::r=>(qe r).map (i+·)
 | _=>none
noncomputable def qg:List Wd->Option Bool
 | []=>some true
 | .bl b::r=>(qg r).map (b && ·)
 | _=>none
noncomputable def wC (m:Me):Wd->Option (List Wd)
 | .rol xs=>some xs
 | .ref l=>zf m l
 | _=>none
noncomputable def ltW:List Int->List Int->Bool
 | [],[]=>false
 | [],_::_=>true
 | _::_,[]=>false
 | x::xs,y::ys=>if x=y then ltW xs ys else decide (x < y)
noncomputable def yG:List Wd->Option (List Int)
 | []=>some []
 | .int i::r=>(yG r).map (i::·)
 | _=>none
noncomputable def wY (m:Me):List Wd->Option (List (List Int))
 | []=>some []
 | .ref l::r=>match zf m l with
  | some xs=>match yG xs,wY m r with
   | some k,some ks=>some (k::ks)
   | _,_=>none
  | none=>none
 | _=>none
noncomputable def qV:List (List Int)->Option (List Int)
 | r::rs=>if r.length≠0/\rs.all (fun q=>q.length == r.length)=true then some (((r.length:Int)+1)::(r::rs).flatten) else none
 | []=>none
noncomputable def jW (m:Me)(xs:List Wd):Option (List Int):=match yG xs with
 | some k=>some (0::k)
 | none=>(wY m xs).bind qV
noncomputable def xo (m:Me):List Wd->Option (List (List Int))
 | []=>some []
 | .ref l::r=>match zf m l with
  | some xs=>match jW m xs,xo m r with
   | some k,some ks=>some (k::ks)
   | _,_=>none
  | none=>none
 | _=>none
noncomputable def y1:Int->List Int->Int
 | a,[]=>a
 | a,b::r=>y1 (if b < a then b else a) r
noncomputable def xb:Int->List Int->Int
 | a,[]=>a
 | a,b::r=>xb (if b > a then b else a) r
noncomputable def yy:List (List Int)->Bool
 | x::y::r=>ltW x y && (decide (x.length=y.length) && decide (x.head?=y.head?)) && yy (y::r)
 | _=>true
noncomputable def vv {α β:Type}:List α->(List α->β)->β
 | [],k=>k []
 | x::xs,k=>vv xs fun ys=>k (x::ys)
theorem yC {α β:Type}:∀ (xs:List α) (k:List α->β),vv xs k=k xs
 | [],_=>rfl
 | x::xs,k=>yC xs fun ys=>k (x::ys)
noncomputable def zfk {β:Type}(i:Int)(k:Int->β):β:=match i with
 | .ofNat 0=>k 0
 | .ofNat (n+1)=>k (.ofNat (n+1))
 | .negSucc 0=>k (-1)
 | .negSucc (n+1)=>k (.negSucc (n+1))
theorem zdo {β:Type}(i:Int)(k:Int->β):zfk i k=k i:=by
 cases i with
 | ofNat n=>cases n <;> rfl
 | negSucc n=>cases n <;> rfl
noncomputable def zbQ {β:Type}:List Int->(List Int->β)->β
 | [],k=>k []
 | x::xs,k=>zfk x fun y=>zbQ xs fun ys=>k (y::ys)
theorem qW {β:Type}:∀ (xs:List Int) (k:List Int->β),zbQ xs k=k xs
 | [],_=>rfl
 | x::xs,k=>by
  show zfk x (fun y=>zbQ xs fun ys=>k (y::ys))=_
  rw[zdo,qW]
noncomputable def vw {β:Type}:List (List Int)->(List (List Int)->β)->β
 | [],k=>k []
 | x::xs,k=>zbQ x fun y=>vw xs fun ys=>k (y::ys)
theorem x9 {β:Type}:∀ (xs:List (List Int)) (k:List (List Int)->β),vw xs k=k xs
 | [],_=>rfl
 | x::xs,k=>by
  show zbQ x (fun y=>vw xs fun ys=>k (y::ys))=_
  rw[qW,x9]
noncomputable def zq {α:Type}(p:List Int×α):List (List Int×α)->List (List Int×α)
 | []=>[p]
 | q::r=>if ltW p.1 q.1 then p::q::r else q::zq p r
noncomputable def zu {α:Type}:List (List Int×α)->List (List Int×α)
 | []=>[]
 | p::r=>vv (zu r) fun s=>zq p s
theorem zX {α:Type}(p:List Int×α)(r:List (List Int×α)):zu (p::r)=zq p (zu r):=yC (zu r) fun s=>zq p s
noncomputable def yo (α:Type)(ks:List (List Int))(xs:List α):Option (List α):=vw ks fun ks=>vv xs fun xs=>vv (ks.zip xs) fun z=>vv (zu z) fun s=>if yy (s.map Prod.fst) then some (s.map Prod.snd) else none
theorem xp (α:Type)(ks:List (List Int))(xs:List α):yo α ks xs=if yy ((zu (ks.zip xs)).map Prod.fst) then some ((zu (ks.zip xs)).map Prod.snd) else none:=by
 unfold yo
 rw[x9,yC,yC,yC]
noncomputable def wD (b:Blf)(ws:List Wd)(m:Me):Rz:=match b with
 | .sorted=>match ws with
  | [.ref l]=>match zf m l with
   | some xs=>match (xo m xs).bind fun ks=>yo Wd ks xs with
    | some ys=>alloc m ys
    | none=>.no
   | none=>.no
  | _=>.no
 | .minS=>match ws with
  | [x]=>match (wC m x).bind yG with
   | some (i::r)=>.ok (.int (y1 i r)) m
   | _=>.no
  | _=>.no
 | .maxS=>match ws with
  | [x]=>match (wC m x).bind yG with
   | some (i::r)=>.ok (.int (xb i r)) m
   | _=>.no
  | _=>.no
 | .len=>match ws with
  | [x]=>match yx m x with
   | some xs=>.ok (.int xs.length) m
   | none=>.no
  | _=>.no
 | .int=>match ws with
  | [.int i]=>.ok (.int i) m
  | [.bl b]=>.ok (.int (b2i b)) m
  | _=>.no
 | .list=>match ws with
  | [x]=>match yx m x with
   | some xs=>alloc m xs
   | none=>.no
  | _=>.no
 | .tuple=>.no
 | .sum=>match ws with
  | [x]=>match (wC m x).bind qe with
   | some i=>.ok (.int i) m
   | none=>.no
  | _=>.no
 | .all=>match ws with
  | [x]=>match (wC m x).bind qg with
   | some i=>.ok (.bl i) m
   | none=>.no
  | _=>.no
 | .abs=>.no
 | .max2=>match ws with
  | [.int i,.int j]=>.ok (.int (if j > i then j else i)) m
  | _=>.no
 | .min2=>match ws with
  | [.int i,.int j]=>.ok (.int (if j < i then j else i)) m
  | _=>.no
 | _=>.no
noncomputable def mtR (n:Mth)(o:Wd)(ws:List Wd)(m:Me):Rz:=match o with
 | .ref l=>match m[l]? with
  | some (.lst xs)=>match n,ws with
   | .append,[y]=>if xs.length < lim then .ok .non (m.set l (.lst (xs++[y]))) else .no
   | .pop,[]=>match xs[xs.length - 1]? with
    | some y=>.ok y (m.set l (.lst xs.dropLast))
    | none=>.no
   | .reverse,[]=>.ok .non (m.set l (.lst xs.reverse))
   | _,_=>.no
  | _=>.no
 | _=>.no
noncomputable def za2 (o i v:Wd)(m:Me):Rz:=match o,i with
 | .ref l,.int k=>match m[l]? with
  | some (.lst xs)=>match ix xs.length k with
   | some j=>.ok .non (m.set l (.lst (xs.set j v)))
   | none=>.no
  | _=>.no
 | _,_=>.no
noncomputable def yH (x y:Wd)(m:Me):Rz:=match y with
 | .int i=>match yx m x with
  | some xs=>match (ix xs.length i).bind fun j=>xs[j]? with
   | some v=>.ok v m
   | none=>.no
  | none=>.no
 | _=>.no
noncomputable def za3 (lo st:Int):Nat->List Wd
 | 0=>[]
 | n+1=>.int lo::za3 (lo+st) st n
noncomputable def za4 (a b c:Int):Nat:=if c=1 then (b - a).toNat else if c=-1 then (a - b).toNat else 0
noncomputable def zbR (a b c:Wd)(m:Me):Rz:=match a,b,c with
 | .int a,.int b,.int c=>if -lim<=a/\a<=lim/\-lim<=b/\b<=lim/\(c=1\/c=-1) then .ok (.tup (za3 a c (za4 a b c))) m else .no
 | _,_,_=>.no
noncomputable def Rz.bind (r:Rz)(f:Wd->Me->Rz):Rz:=match r with
 | .ok w m=>f w m
 | r=>r
noncomputable def yz (c e:Wd->Me->Rz):List Wd->List Wd->Me->Rz
 | [],acc,m=>alloc m acc
 | x::xs,acc,m=>(c x m).bind fun b m1=>match b with
  | .bl true=>(e x m1).bind fun y m2=>if acc.length < lim then yz c e xs (acc++[y]) m2 else .no
  | .bl false=>yz c e xs acc m1
  | _=>.no
noncomputable def yA (c e:Wd->Me->Rz)(l:Nat):Nat->Nat->List Wd->Me->Rz
 | 0,_,_,_=>.no
 | k+1,i,acc,m=>match zf m l with
  | none=>.no
  | some xs=>match xs[i]? with
   | none=>alloc m acc
   | some x=>(c x m).bind fun b m1=>match b with
    | .bl true=>(e x m1).bind fun y m2=>if acc.length < lim then yA c e l k (i+1) (acc++[y]) m2 else .no
    | .bl false=>yA c e l k (i+1) acc m1
    | _=>.no
noncomputable def zbS:Wd->Option (Wd×Wd)
 | .tup [x,y]=>some (x,y)
 | _=>none
noncomputable def zE (k:Kd)(x y:Wd)(i:Nat)(m:Me):Option (Option (Wd×Wd)):=match k,x,y with
 | .zip,.ref la,.ref lb=>match zf m la,zf m lb with
  | some xs,some ys=>some (match xs[i]?,ys[i]? with
   | some x,some y=>some (x,y)
   | _,_=>none)
  | _,_=>none
 | .enum,.ref la,.int s=>match zf m la with
  | some xs=>some (xs[i]?.map fun x=>(.int (s+(i:Int)),x))
  | none=>none
 | .prs,.ref la,.int _=>match zf m la with
  | some xs=>match xs[i]? with
   | none=>some none
   | some w=>(zbS w).map some
  | none=>none
 | _,_,_=>none
noncomputable def zR (c e:Wd->Wd->Me->Rz)(g:Nat->Me->Option (Option (Wd×Wd))):Nat->Nat->List Wd->Me->Rz
 | 0,_,_,_=>.no
 | k+1,i,acc,m=>match g i m with
  | none=>.no
  | some none=>alloc m acc
  | some (some (x,y))=>(c x y m).bind fun b m1=>match b with
   | .bl true=>(e x y m1).bind fun z m2=>if acc.length < lim then zR c e g k (i+1) (acc++[z]) m2 else .no
   | .bl false=>zR c e g k (i+1) acc m1
   | _=>.no
noncomputable def zn:Wd->List Wd
 | .tup xs=>xs
 | _=>[]
noncomputable def evE (cl:Nat->List Wd->Me->Rz):Ex->En->Me->Rz
 | .var i,env,m=>match env[i]? with
  | some (some w)=>.ok w m
  | _=>.no
 | .lit w,_,m=>.ok w m
 | .bin op a b,env,m=>(evE cl a env m).bind fun x m1=>(evE cl b env m1).bind fun y m2=>bop op x y m2
 | .neg a,env,m=>(evE cl a env m).bind fun x m1=>match x with
  | .int i=>.ok (.int (-i)) m1
  | _=>.no
 | .not a,env,m=>(evE cl a env m).bind fun x m1=>match x with
  | .bl b=>.ok (.bl (!b)) m1
  | _=>.no
 | .and a b,env,m=>(evE cl a env m).bind fun x m1=>match x with
  | .bl true=>evE cl b env m1
  | .bl false=>.ok (.bl false) m1
  | _=>.no
 | .or a b,env,m=>(evE cl a env m).bind fun x m1=>match x with
  | .bl false=>evE cl b env m1
  | .bl true=>.ok (.bl true) m1
  | _=>.no
 | .cmp op a b,env,m=>(evE cl a env m).bind fun x m1=>(evE cl b env m1).bind fun y m2=>cop op x y m2
 | .chain p q a b c,env,m=>(evE cl a env m).bind fun x m1=>(evE cl b env m1).bind fun y m2=>(cop p x y m2).bind fun z m3=>match z with
  | .bl true=>(evE cl c env m3).bind fun u m4=>cop q y u m4
  | .bl false=>.ok (.bl false) m3
  | _=>.no
 | .ife _ _ _,_,_=>.no
 | .unit,_,m=>.ok (.tup []) m
 | .pair a b,env,m=>(evE cl a env m).bind fun x m1=>(evE cl b env m1).bind fun y m2=>.ok (.tup (x::zn y)) m2
 | .call k a,env,m=>(evE cl a env m).bind fun x m1=>cl k (zn x) m1
 | .blt b a,env,m=>(evE cl a env m).bind fun x m1=>wD b (zn x) m1
 | .isi t a,env,m=>(evE cl a env m).bind fun x m1=>ofB (isT t x m1) m1
 | .lst a,env,m=>(evE cl a env m).bind fun x m1=>alloc m1 (zn x)
 | .tup a,env,m=>(evE cl a env m).bind fun x m1=>if (zn x).length<=lim then .ok (.tup (zn x)) m1 else .no
 | .dict0,_,m=>.ok (.ref m.length) (m++[.dct []])
 | .idx a b,env,m=>(evE cl a env m).bind fun x m1=>(evE cl b env m1).bind fun y m2=>yH x y m2
 | .slL _ _,_,_=>.no
 | .slH _ _,_,_=>.no
 | .slB _ _ _,_,_=>.no
 | .meth n o a,env,m=>(evE cl o env m).bind fun x m1=>(evE cl a env m1).bind fun y m2=>mtR n x (zn y) m2
 | .rng a b c,env,m=>(evE cl a env m).bind fun x m1=>(evE cl b env m1).bind fun y m2=>(evE cl c env m2).bind fun z m3=>zbR x y z m3
 | .comp elt it cond,env,m=>(evE cl it env m).bind fun x m1=>match x with
  | .tup xs=>yz (fun x m=>evE cl cond (env++[some x]) m) (fun x m=>evE cl elt (env++[some x]) m) xs [] m1
  | .rol xs=>yz (fun x m=>evE cl cond (env++[some x]) m) (fun x m=>evE cl elt (env++[some x]) m) xs [] m1
  | .ref l=>yA (fun x m=>evE cl cond (env++[some x]) m) (fun x m=>evE cl elt (env++[some x]) m) l (lim+1) 0 [] m1
  | _=>.no
 | .compP k elt a b cond,env,m=>(evE cl a env m).bind fun x m1=>(evE cl b env m1).bind fun y m2 =>
  zR (fun u v m=>evE cl cond (env++[some u]++[some v]) m) (fun u v m=>evE cl elt (env++[some u]++[some v]) m) (zE k x y) (lim+1) 0 [] m2
 | .lrng a,env,m=>(evE cl a env m).bind fun x m1=>match x with
  | .int j=>if -lim<=j/\j<=lim then alloc m1 (za3 0 1 j.toNat) else .no
  | _=>.no
noncomputable def xl (body:Wd->En->Me->Rs):List Wd->En->Me->Rs
 | [],env,m=>.next env m
 | x::xs,env,m=>match body x env m with
  | .next e1 m1=>xl body xs e1 m1
  | .cont e1 m1=>xl body xs e1 m1
  | .brk e1 m1=>.next e1 m1
  | r=>r
noncomputable def yI (body:Wd->En->Me->Rs)(l:Nat):Nat->Nat->En->Me->Rs
 | 0,_,_,_=>.no
 | k+1,i,env,m=>match zf m l with
  | none=>.no
  | some xs=>match xs[i]? with
   | none=>.next env m
   | some x=>match body x env m with
    | .next e1 m1=>yI body l k (i+1) e1 m1
    | .cont e1 m1=>yI body l k (i+1) e1 m1
    | .brk e1 m1=>.next e1 m1
    | r=>r
noncomputable def qX (body:Wd->En->Me->Rs)(g:Nat->Me->Option (Option (Wd×Wd))):Nat->Nat->En->Me->Rs
 | 0,_,_,_=>.no
 | k+1,i,env,m=>match g i m with
  | none=>.no
  | some none=>.next env m
  | some (some (x,y))=>match body (.tup [x,y]) env m with
   | .next e1 m1=>qX body g k (i+1) e1 m1
   | .cont e1 m1=>qX body g k (i+1) e1 m1
   | .brk e1 m1=>.next e1 m1
   | r=>r
noncomputable def zbT (c:En->Me->Rz)(body:En->Me->Rs):Nat->En->Me->Rs
 | 0,_,_=>.no
 | k+1,env,m=>match c env m with
  | .ok (.bl true) m1=>match body env m1 with
   | .next e1 m2=>zbT c body k e1 m2
   | .cont e1 m2=>zbT c body k e1 m2
   | .brk e1 m2=>.next e1 m2
   | r=>r
  | .ok (.bl false) m1=>.next env m1
  | .exc c w m1=>.exc c w env m1
  | _=>.no
noncomputable def Rz.bindS (r:Rz)(env:En)(f:Wd->Me->Rs):Rs:=match r with
 | .ok w m=>f w m
 | .exc c w m=>.exc c w env m
 | .no=>.no
noncomputable def wE (body:Wd->En->Me->Rs)(w:Wd)(env:En)(m:Me):Rs:=match w with
 | .tup xs=>xl body xs env m
 | .rol xs=>xl body xs env m
 | .ref l=>yI body l (lim+1) 0 env m
 | _=>.no
noncomputable def st2 (i j:Nat):Wd->En->Option En:=fun w env=>match w with
 | .tup [a,b]=>some ((env.set i (some a)).set j (some b))
 | _=>none
noncomputable def st3 (i j k:Nat)(w:Wd)(m:Me)(env:En):Option En:=match yx m w with
 | some [a,b,c]=>some (((env.set i (some a)).set j (some b)).set k (some c))
 | _=>none
noncomputable def ya (st:Wd->En->Option En)(b:En->Me->Rs):Wd->En->Me->Rs:=fun w env m=>match st w env with
 | some env'=>b env' m
 | none=>.no
noncomputable def zgP (op:Bo)(x y:Wd)(m:Me)(env:En)(f:Wd->Me->Rs):Rs:=match x,y with
 | .int _,.int _=>(bop op x y m).bindS env f
 | _,_=>.no
noncomputable def zfl:Wd->Option (Int×Int)
 | .tup [.int i,.int j]=>some (i,j)
 | _=>none
noncomputable def qY:List Wd->Option (List (Int×Int))
 | []=>some []
 | w::r=>match zfl w,qY r with
  | some p,some q=>some (p::q)
  | _,_=>none
noncomputable def zex (n:Int)(ps:List (Int×Int)):Bool:=ps.all (fun p=>decide (1<=p.1) && decide (p.1 < n) && decide (1<=p.2) && decide (p.2 < n) && ps.all fun q=>decide ((p.1+p.2) % 2=(q.1+q.2) % 2)) && decide ps.Nodup
noncomputable def zfm (p:Int×Int):List (List (List Int)):=[[[p.1 - 1,p.2 - 1],[p.1 - 1,p.2]],[[p.1 - 1,p.2],[p.1,p.2]],[[p.1,p.2 - 1],[p.1,p.2]],[[p.1 - 1,p.2 - 1],[p.1,p.2 - 1]]]
noncomputable def tupI (k:List Int):Wd:=.tup (k.map Wd.int)
noncomputable def tupK (k:List (List Int)):Wd:=.tup (k.map tupI)
noncomputable def zdp (ps:List (Int×Int)):Me:=ps.map fun p=>.lst ((zfm p).map tupK)
noncomputable def zdq (t n k p s:Nat)(env:En)(m:Me):Rs:=match env[t]?,env[n]? with
 | some (some (.ref l)),some (some (.int i))=>match m[l]? with
  | some (.lst xs)=>match qY xs with
   | some ps=>if zex i ps=true/\ps.length<=1000 then .next (((env.set k none).set p none).set s none) (m++zdp ps) else .no
   | none=>.no
  | _=>.no
 | _,_=>.no
noncomputable def zey (i t:Nat):Ex:=.or (.not (.isi .list (.var i))) (.not (.call t (.pair (.idx (.var i) (.lit (.int 0))) .unit)))
noncomputable def jX (cl:Nat->List Wd->Me->Rz)(i t:Nat)(c:Int)(env:En)(m:Me):Rs:=match (evE cl (zey i t) env m).bindS env (fun x m1=>match x with
  | .bl true=>.ret (.bl false) m1
  | .bl false=>.next env m1
  | _=>.no) with
 | .next e1 m1=>(evE cl (.meth .append (.var i) (.pair (.lit (.int c)) .unit)) e1 m1).bindS e1 fun _ m2=>.next e1 m2
 | r=>r
noncomputable def exS (cl:Nat->List Wd->Me->Rz):Sm->En->Me->Rs
 | .skip,env,m=>.next env m
 | .seq a b,env,m=>match exS cl a env m with
  | .next e1 m1=>exS cl b e1 m1
  | r=>r
 | .asg i e,env,m=>(evE cl e env m).bindS env fun w m1=>.next (env.set i (some w)) m1
 | .asgS o i e,env,m=>(evE cl e env m).bindS env fun w m1=>(evE cl o env m1).bindS env fun x m2=>(evE cl i env m2).bindS env fun y m3=>(za2 x y w m3).bindS env fun _ m4=>.next env m4
 | .swapS o i p j a b,env,m=>(evE cl a env m).bindS env fun u m0=>(evE cl b env m0).bindS env fun w m1 =>
   (evE cl o env m1).bindS env fun x m2=>(evE cl i env m2).bindS env fun y m3=>(za2 x y u m3).bindS env fun _ m4 =>
   (evE cl p env m4).bindS env fun x m5=>(evE cl j env m5).bindS env fun y m6=>(za2 x y w m6).bindS env fun _ m7=>.next env m7
 | .aug i op e,env,m=>match env[i]? with
  | some (some x)=>(evE cl e env m).bindS env fun y m1=>zgP op x y m1 env fun z m2=>.next (env.set i (some z)) m2
  | _=>.no
 | .augS o i op e,env,m=>(evE cl o env m).bindS env fun x m1=>match x with
  | .ref l=>(evE cl i env m1).bindS env fun y m2=>(yH (.ref l) y m2).bindS env fun u m3=>(evE cl e env m3).bindS env fun v m4=>zgP op u v m4 env fun z m5=>(za2 (.ref l) y z m5).bindS env fun _ m6=>.next env m6
  | _=>.no
 | .ite c a b,env,m=>(evE cl c env m).bindS env fun x m1=>match x with
  | .bl true=>exS cl a env m1
  | .bl false=>exS cl b env m1
  | _=>.no
 | .forv i it body,env,m=>(evE cl it env m).bindS env fun w m1=>wE (fun x e m=>exS cl body (e.set i (some x)) m) w env m1
 | .fort i j it body,env,m=>(evE cl it env m).bindS env fun w m1=>wE (ya (st2 i j) (exS cl body)) w env m1
 | .while c body,env,m=>zbT (evE cl c) (exS cl body) 1000000 env m
 | .ret e,env,m=>(evE cl e env m).bindS env fun w m1=>.ret w m1
 | .retN,_,m=>.ret .non m
 | .expr e,env,m=>(evE cl e env m).bindS env fun _ m1=>.next env m1
 | .forA i j c,env,m=>(evE cl (.var j) env m).bindS env fun w m1=>wE (fun x e m=>(evE cl (.meth .append (.var i) (.pair (.lit (.int c)) .unit)) (e.set i (some x)) m).bindS (e.set i (some x)) fun _ m1=>.next (e.set i (some x)) m1) w env m1
 | .forZ i j a b body,env,m=>(evE cl a env m).bindS env fun x m1=>(evE cl b env m1).bindS env fun y m2=>qX (ya (st2 i j) (exS cl body)) (zE .zip x y) (lim+1) 0 env m2
 | .forS i j k c,env,m=>(evE cl (.var k) env m).bindS env fun w m1=>wE (fun x e m=>match (evE cl (.var i) (e.set i (some x)) m).bindS (e.set i (some x)) (fun w m1=>wE (fun x e m=>(evE cl (.meth .append (.var j) (.pair (.lit (.int c)) .unit)) (e.set j (some x)) m).bindS (e.set j (some x)) fun _ m1=>.next (e.set j (some x)) m1) w (e.set i (some x)) m1) with
  | .next e1 m1=>(evE cl (.meth .append (.var i) (.pair (.lst .unit) .unit)) e1 m1).bindS e1 fun _ m2=>.next e1 m2
  | r=>r) w env m1
 | .forC i j,env,m=>(evE cl (.var j) env m).bindS env fun w m1=>wE (fun x e m=>(evE cl (.meth .clear (.var i) .unit) (e.set i (some x)) m).bindS (e.set i (some x)) fun _ m1=>.next (e.set i (some x)) m1) w env m1
 | .forE i j a body,env,m=>(evE cl a env m).bindS env fun x m1=>qX (ya (st2 i j) (exS cl body)) (zE .enum x (.int 0)) (lim+1) 0 env m1
 | .swapI v i j a b,env,m=>(evE cl a env m).bindS env fun u m0=>(evE cl b env m0).bindS env fun w m1 =>
   (evE cl (.var v) env m1).bindS env fun x m2=>(evE cl i env m2).bindS env fun y m3=>(za2 x y u m3).bindS env fun _ m4 =>
   (evE cl (.var v) env m4).bindS env fun x m5=>(evE cl j env m5).bindS env fun y m6=>(za2 x y w m6).bindS env fun _ m7=>.next env m7
 | .popV i j,env,m=>(evE cl (.meth .pop (.var j) .unit) env m).bindS env fun w m1=>.next (env.set i (some w)) m1
 | .popI j e a b,env,m=>(evE cl (.cmp .ne (.meth .pop (.var j) .unit) e) env m).bindS env fun x m1=>match x with
  | .bl true=>exS cl a env m1
  | .bl false=>exS cl b env m1
  | _=>.no
 | .appPop j a x e,env,m=>(evE cl (.meth .append (.var j) (.pair (.bin .add (.var a) (.bin .mod (.meth .pop (.var x) (.pair (.lit (.int 0)) .unit)) e)) .unit)) env m).bindS env fun _ m1=>.next env m1
 | .unp3 i j k e,env,m=>(evE cl e env m).bindS env fun w m1=>match st3 i j k w m1 env with
  | some e1=>.next e1 m1
  | none=>.no
 | .chk t n k p s,env,m=>zdq t n k p s env m
 | .forB i j t c,env,m=>(evE cl (.var j) env m).bindS env fun w m1=>wE (fun x e m=>jX cl i t c (e.set i (some x)) m) w env m1
 | .brk,env,m=>.brk env m
 | .cont,env,m=>.cont env m
 | .never,_,_=>.no
set_option genInjectivity false in
structure Fn where
 ar:Nat
 sz:Nat
 body:Sm
deriving Inhabited
noncomputable def yT (fn:Fn)(ws:List Wd):En:=ws.map some++List.replicate (fn.sz - ws.length) none
noncomputable def vx (cl:Nat->List Wd->Me->Rz)(fn:Fn)(ws:List Wd)(m:Me):Rz :=
 if ws.length=fn.ar then match exS cl fn.body (yT fn ws) m with
  | .next _ m1=>.ok .non m1
  | .ret w m1=>.ok w m1
  | .exc c w _ m1=>.exc c w m1
  | _=>.no
 else .no
noncomputable def zY (T:List Fn):Nat->Nat->List Wd->Me->Rz
 | 0,_,_,_=>.no
 | d+1,k,ws,m=>match T[k]? with
  | some fn=>vx (zY T d) fn ws m
  | none=>.no
end Mini
namespace Mini
open PySem PySem.Spec PyProof.Rows L2
abbrev St:=L2.St
def KL (K:PySem.W.Frag)(a:Addr)(xs:List V):Prop :=
 ∃ (o:Obj) (its:Array Value) (n:Nat),K.lookup a=some o/\o.cls=.type "list" /\ o.dict=none/\o.data=.seq its n/\its.size<=sizeLine/\Vals xs its.toList
def SqF (K:PySem.W.Frag)(H:Hp)(a:Addr)(vs:List V):Prop:=(∃o,H a=some (.frz o (.lst vs)))\/KL K a vs
theorem SqF.sq {K:PySem.W.Frag}{H:Hp}{a:Addr}{vs:List V}(h:SqF K H a vs):SqL K H a vs:=by
 rcases h with h | h
 .exact .inl (.inr h)
 .exact .inr h
mutual
noncomputable def Rep (K:PySem.W.Frag)(as:List Addr)(H:Hp):Wd->V->Prop
 | .non,v=>v=.non
 | .bl b,v=>v=.bl b
 | .int i,v=>v=.int i
 | .str s,v=>v=.str ⟨s.toArray⟩
 | .tup xs,v=>∃a vs,v=.ref a/\SqT K H a vs/\RepL K as H xs vs
 | .rol xs,v=>∃a vs,v=.ref a/\SqF K H a vs/\RepL K as H xs vs
 | .ref l,v=>∃a,as[l]?=some a/\v=.ref a
noncomputable def RepL (K:PySem.W.Frag)(as:List Addr)(H:Hp):List Wd->List V->Prop
 | [],vs=>vs=[]
 | x::xs,vs=>∃v r,vs=v::r/\Rep K as H x v/\RepL K as H xs r
end
def RepO (K:PySem.W.Frag)(as:List Addr)(H:Hp):Ob->Addr->Prop
 | .lst ws,a=>∃vs,H a=some (.lst vs)/\RepL K as H ws vs
 | .dct _,_=>False
structure Sim (K:PySem.W.Frag)(as:List Addr)(m:Me)(H:Hp):Prop where
 len:as.length=m.length
 nd:as.Nodup
 obj:∀ (l:Nat) (a:Addr) (o:Ob),as[l]?=some a->m[l]?=some o->RepO K as H o a
structure Step (as:List Addr)(H:Hp)(as':List Addr)(H':Hp):Prop where
 pre:∃t,as'=as++t
 frame:∀b o,H b=some o->b∉as->H' b=some o
 fresh:∀a∈as',a∈as\/H a=none
section
variable {K:PySem.W.Frag}{as as' as2:List Addr}{H H' H2:Hp}{m m':Me}
theorem Step.refl:Step as H as H:=⟨⟨[],by simp⟩,fun _ _ h _=>h,fun _ h=>.inl h⟩
theorem Step.get (T:Step as H as' H'){l:Nat}{a:Addr}(h:as[l]?=some a):as'[l]?=some a:=by
 obtain ⟨t,rfl⟩:=T.pre
 rw[List.getElem?_append_left (List.getElem?_eq_some_iff.mp h).1]
 exact h
theorem Step.out (T:Step as H as' H'){b:Addr}{o:HO}(h:H b=some o)(hb:b∉as):b∉as':=fun z=>by
 rcases T.fresh b z with q | q
 .exact hb q
 .rw[h] at q;cases q
theorem Step.trans (T:Step as H as' H')(U:Step as' H' as2 H2):Step as H as2 H2:=by
 refine ⟨?_,fun b o h hb=>U.frame b o (T.frame b o h hb) (T.out h hb),fun a ha=>?_⟩
 .obtain ⟨t,rfl⟩:=T.pre
  obtain ⟨u,rfl⟩:=U.pre
  exact ⟨t++u,by simp⟩
 .rcases U.fresh a ha with q | q
  .exact T.fresh a q
  .by_cases z:a∈as
   .exact .inl z
   .refine .inr ?_
    cases e:H a with
    | none=>rfl
    | some o=>rw[T.frame a o e z] at q;cases q
theorem Sim.get (S:Sim K as m H){l:Nat}{o:Ob}(h:m[l]?=some o):∃a,as[l]?=some a/\RepO K as H o a:=by
 have hl:l < as.length:=by rw[S.len];exact (List.getElem?_eq_some_iff.mp h).1
 exact ⟨as[l],by simp[hl],S.obj l _ o (by simp[hl]) h⟩
theorem Sim.isLst (S:Sim K as m H){a:Addr}(h:a∈as):∃us,H a=some (.lst us):=by
 obtain ⟨l,hl,rfl⟩:=List.mem_iff_getElem.mp h
 have hm:l < m.length:=by rw[<- S.len];exact hl
 have q:=S.obj l as[l] m[l] (by simp[hl]) (by simp[hm])
 cases e:m[l] with
 | lst ws =>
  rw[e] at q
  obtain ⟨vs,h1,_⟩:=q
  exact ⟨vs,h1⟩
 | dct kvs=>rw[e] at q;exact q.elim
theorem zbU (nt:∀a∈as,∃us,H a=some (.lst us))(T:Step as H as' H'){a:Addr}{vs:List V}(h:SqT K H a vs):SqT K H' a vs:=by
 rcases h with h | h
 .have hn:a∉as:=fun z=>by
   obtain ⟨us,e⟩:=nt a z
   rcases h with h | ⟨o,h⟩ <;> rw[e] at h <;> cases h
  rcases h with h | ⟨o,h⟩
  .exact .inl (.inl (T.frame _ _ h hn))
  .exact .inl (.inr ⟨o,T.frame _ _ h hn⟩)
 .exact .inr h
theorem zbV (nt:∀a∈as,∃us,H a=some (.lst us))(T:Step as H as' H'){a:Addr}{vs:List V}(h:SqF K H a vs):SqF K H' a vs:=by
 rcases h with ⟨o,h⟩ | h
 .have hn:a∉as:=fun z=>by
   obtain ⟨us,e⟩:=nt a z
   rw[e] at h;cases h
  exact .inl ⟨o,T.frame _ _ h hn⟩
 .exact .inr h
structure Kp (K:PySem.W.Frag)(H H':Hp):Prop where
 t:∀a vs,SqT K H a vs->SqT K H' a vs
 f:∀a vs,SqF K H a vs->SqF K H' a vs
theorem Sim.kp (S:Sim K as m H)(T:Step as H as' H'):Kp K H H':=⟨fun _ _ h=>zbU (fun _ z=>S.isLst z) T h,fun _ _ h=>zbV (fun _ z=>S.isLst z) T h⟩
theorem Kp.upd {D:Addr}{ys:List V}{o:HO}(h:H D=some (.lst ys)):Kp K H (L2.upd H D o):=by
 refine ⟨fun a vs q=>?_,fun a vs q=>?_⟩
 .rcases q with (q | ⟨x,q⟩) | q
  .exact .inl (.inl (by rw[zd (by rintro rfl;rw[h] at q;cases q)];exact q))
  .exact .inl (.inr ⟨x,by rw[zd (by rintro rfl;rw[h] at q;cases q)];exact q⟩)
  .exact .inr q
 .rcases q with ⟨x,q⟩ | q
  .exact .inl ⟨x,by rw[zd (by rintro rfl;rw[h] at q;cases q)];exact q⟩
  .exact .inr q
mutual
theorem vA (k:Kp K H H')(g:∀ (l:Nat) (a:Addr),as[l]?=some a->as'[l]?=some a):∀ (w:Wd) (v:V),Rep K as H w v->Rep K as' H' w v
 | .non,_,h=>by rw[Rep] at h ⊢;exact h
 | .bl _,_,h=>by rw[Rep] at h ⊢;exact h
 | .int _,_,h=>by rw[Rep] at h ⊢;exact h
 | .str _,_,h=>by rw[Rep] at h ⊢;exact h
 | .tup xs,v,h=>by
  rw[Rep] at h ⊢
  obtain ⟨a,vs,e,q,r⟩:=h
  exact ⟨a,vs,e,k.t _ _ q,repL_mono k g xs vs r⟩
 | .rol xs,v,h=>by
  rw[Rep] at h ⊢
  obtain ⟨a,vs,e,q,r⟩:=h
  exact ⟨a,vs,e,k.f _ _ q,repL_mono k g xs vs r⟩
 | .ref l,v,h=>by
  rw[Rep] at h ⊢
  obtain ⟨a,q,e⟩:=h
  exact ⟨a,g _ _ q,e⟩
theorem repL_mono (k:Kp K H H')(g:∀ (l:Nat) (a:Addr),as[l]?=some a->as'[l]?=some a):∀ (ws:List Wd) (vs:List V),RepL K as H ws vs->RepL K as' H' ws vs
 | [],_,h=>by rw[RepL] at h ⊢;exact h
 | x::xs,vs,h=>by
  rw[RepL] at h ⊢
  obtain ⟨v,r,e,q,t⟩:=h
  exact ⟨v,r,e,vA k g x v q,repL_mono k g xs r t⟩
end
theorem Rep.mono {w:Wd}{v:V}(h:Rep K as H w v)(S:Sim K as m H)(T:Step as H as' H'):Rep K as' H' w v:=vA (S.kp T) (fun _ _ e=>T.get e) w v h
theorem RepL.mono {ws:List Wd}{vs:List V}(h:RepL K as H ws vs)(S:Sim K as m H)(T:Step as H as' H'):RepL K as' H' ws vs:=repL_mono (S.kp T) (fun _ _ e=>T.get e) ws vs h
theorem RepL.kp {ws:List Wd}{vs:List V}(h:RepL K as H ws vs)(k:Kp K H H'):RepL K as H' ws vs:=repL_mono k (fun _ _ e=>e) ws vs h
theorem Rep.kp {w:Wd}{v:V}(h:Rep K as H w v)(k:Kp K H H'):Rep K as H' w v:=vA k (fun _ _ e=>e) w v h
theorem rep_non {v:V}:Rep K as H .non v↔v=.non:=by rw[Rep]
theorem rep_bl {b:Bool}{v:V}:Rep K as H (.bl b) v↔v=.bl b:=by rw[Rep]
theorem rep_int {i:Int}{v:V}:Rep K as H (.int i) v↔v=.int i:=by rw[Rep]
theorem rep_str {s:List Nat}{v:V}:Rep K as H (.str s) v↔v=.str ⟨s.toArray⟩:=by rw[Rep]
theorem rep_tup {xs:List Wd}{v:V}:Rep K as H (.tup xs) v↔∃a vs,v=.ref a/\SqT K H a vs/\RepL K as H xs vs:=by rw[Rep]
theorem rep_rol {xs:List Wd}{v:V}:Rep K as H (.rol xs) v↔∃a vs,v=.ref a/\SqF K H a vs/\RepL K as H xs vs:=by rw[Rep]
theorem rep_ref {l:Nat}{v:V}:Rep K as H (.ref l) v↔∃a,as[l]?=some a/\v=.ref a:=by rw[Rep]
theorem repL_nil {vs:List V}:RepL K as H [] vs↔vs=[]:=by rw[RepL]
theorem repL_cons {x:Wd}{xs:List Wd}{vs:List V}:RepL K as H (x::xs) vs↔∃v r,vs=v::r/\Rep K as H x v/\RepL K as H xs r:=by rw[RepL]
theorem RepL.length:∀ {xs:List Wd}{vs:List V},RepL K as H xs vs->xs.length=vs.length
 | [],vs,h=>by rw[repL_nil.mp h];rfl
 | x::xs,vs,h=>by
  obtain ⟨v,r,rfl,_,t⟩:=repL_cons.mp h
  simp[RepL.length t]
theorem RepL.get:∀ {xs:List Wd}{vs:List V}{i:Nat}{x:Wd},RepL K as H xs vs->xs[i]?=some x->∃v,vs[i]?=some v/\Rep K as H x v
 | [],_,_,_,_,e=>by simp at e
 | x::xs,vs,0,y,h,e=>by
  obtain ⟨v,r,rfl,q,t⟩:=repL_cons.mp h
  simp at e;subst e
  exact ⟨v,rfl,q⟩
 | x::xs,vs,i+1,y,h,e=>by
  obtain ⟨v,r,rfl,q,t⟩:=repL_cons.mp h
  obtain ⟨u,h1,h2⟩:=RepL.get (i:=i) (x:=y) t (by simpa using e)
  exact ⟨u,by simpa using h1,h2⟩
theorem RepL.back:∀ {xs:List Wd}{vs:List V}{i:Nat}{v:V},RepL K as H xs vs->vs[i]?=some v->∃x,xs[i]?=some x/\Rep K as H x v:=fun {xs vs i v} h e=>by
 have hi:i < xs.length:=by rw[h.length];exact (List.getElem?_eq_some_iff.mp e).1
 obtain ⟨u,h1,h2⟩:=h.get (i:=i) (x:=xs[i]) (by simp[hi])
 rw[e] at h1;cases h1
 exact ⟨xs[i],by simp[hi],h2⟩
theorem RepL.append:∀ {xs ys:List Wd}{vs us:List V},RepL K as H xs vs->RepL K as H ys us->RepL K as H (xs++ys) (vs++us)
 | [],ys,vs,us,h,h'=>by rw[repL_nil.mp h];exact h'
 | x::xs,ys,vs,us,h,h'=>by
  obtain ⟨v,r,rfl,q,t⟩:=repL_cons.mp h
  exact repL_cons.mpr ⟨v,r++us,rfl,q,t.append h'⟩
theorem RepL.one {x:Wd}{v:V}(h:Rep K as H x v):RepL K as H [x] [v]:=repL_cons.mpr ⟨v,[],rfl,h,repL_nil.mpr rfl⟩
set_option tactic.hygienic true in
theorem RepL.take:∀ {xs:List Wd}{vs:List V}(n:Nat),RepL K as H xs vs->RepL K as H (xs.take n) (vs.take n)
 | _,_,0,_=>repL_nil.mpr rfl
 | [],vs,n+1,h=>by rw[repL_nil.mp h];exact repL_nil.mpr rfl
 | x::xs,vs,n+1,h=>by
  obtain ⟨v,r,rfl,q,t⟩:=repL_cons.mp h
  exact repL_cons.mpr ⟨v,r.take n,rfl,q,t.take n⟩
theorem RepL.reverse:∀ {xs:List Wd}{vs:List V},RepL K as H xs vs->RepL K as H xs.reverse vs.reverse
 | [],vs,h=>by rw[repL_nil.mp h];exact repL_nil.mpr rfl
 | x::xs,vs,h=>by
  obtain ⟨v,r,rfl,q,t⟩:=repL_cons.mp h
  rw[List.reverse_cons,List.reverse_cons]
  exact t.reverse.append (.one q)
theorem RepL.dropLast:∀ {xs:List Wd}{vs:List V},RepL K as H xs vs->RepL K as H xs.dropLast vs.dropLast:=fun {xs vs} h=>by
 rw[List.dropLast_eq_take,List.dropLast_eq_take,h.length]
 exact h.take _
theorem RepL.rep {xs:List Wd}{vs:List V}(h:RepL K as H xs vs):∀k:Nat,RepL K as H (List.replicate k xs).flatten (List.replicate k vs).flatten
 | 0=>repL_nil.mpr rfl
 | k+1=>by
  rw[List.replicate_succ,List.replicate_succ,List.flatten_cons,List.flatten_cons]
  exact h.append (RepL.rep h k)
structure EnvRep (K:PySem.W.Frag)(as:List Addr)(H:Hp)(env:En)(σ:St):Prop where
 len:env.length=σ.length
 get:∀ (i:Nat) (w:Wd),env[i]?=some (some w)->∃v,σ[i]?=some (some v)/\Rep K as H w v
theorem EnvRep.mono {env:En}{σ:St}(G:EnvRep K as H env σ)(S:Sim K as m H)(T:Step as H as' H'):EnvRep K as' H' env σ :=
 ⟨G.len,fun i w e=>let ⟨v,h1,h2⟩:=G.get i w e;⟨v,h1,h2.mono S T⟩⟩
theorem EnvRep.kp {env:En}{σ:St}(G:EnvRep K as H env σ)(k:Kp K H H'):EnvRep K as H' env σ :=
 ⟨G.len,fun i w e=>let ⟨v,h1,h2⟩:=G.get i w e;⟨v,h1,h2.kp k⟩⟩
theorem EnvRep.set {env:En}{σ:St}(G:EnvRep K as H env σ){w:Wd}{v:V}(h:Rep K as H w v)(i:Nat):EnvRep K as H (env.set i (some w)) (σ.set i (some v)):=by
 refine ⟨by simp[G.len],fun j x e=>?_⟩
 by_cases hj:j=i
 .subst hj
  have hl:j < env.length:=by
   have:=(List.getElem?_eq_some_iff.mp e).1
   simpa using this
  rw[List.getElem?_set_self hl] at e
  cases e
  exact ⟨v,List.getElem?_set_self (by rw[<- G.len];exact hl),h⟩
 .rw[List.getElem?_set_ne (Ne.symm hj)] at e
  obtain ⟨u,h1,h2⟩:=G.get j x e
  exact ⟨u,by rw[List.getElem?_set_ne (Ne.symm hj)];exact h1,h2⟩
theorem EnvRep.push {env:En}{σ:St}(G:EnvRep K as H env σ){w:Wd}{v:V}(h:Rep K as H w v):EnvRep K as H (env++[some w]) (σ++[some v]):=by
 refine ⟨by simp[G.len],fun j x e=>?_⟩
 by_cases hj:j < env.length
 .rw[List.getElem?_append_left hj] at e
  obtain ⟨u,h1,h2⟩:=G.get j x e
  exact ⟨u,by rw[List.getElem?_append_left (by rw[<- G.len];exact hj)];exact h1,h2⟩
 .rw[List.getElem?_append_right (by lia)] at e
  have hz:j - env.length=0:=by
   cases hq:j - env.length with
   | zero=>rfl
   | succ k=>rw[hq] at e;simp at e
  rw[hz] at e
  simp at e
  subst e
  refine ⟨v,?_,h⟩
  rw[List.getElem?_append_right (by rw[<- G.len];lia),<- G.len,hz]
  rfl
def Post (K:PySem.W.Frag)(as:List Addr)(H:Hp)(Q:VK)(r:Rz):Prop:=match r with
 | .ok w m'=>∀as' H' v,Step as H as' H'->Sim K as' m' H'->Rep K as' H' w v->Q v H'
 | _=>False
theorem Post.step {Q:VK}{r:Rz}(h:Post K as H Q r)(T:Step as H as' H'):Post K as' H' Q r:=by
 cases r with
 | ok w m'=>exact fun as2 H2 v U S R=>h as2 H2 v (T.trans U) S R
 | exc c w m'=>exact h
 | no=>exact h
theorem Post.bind {Q Q1:VK}{r:Rz}{f:Wd->Me->Rz}(h:Post K as H Q (r.bind f))
  (k:∀w m' as' H' v,Step as H as' H'->Sim K as' m' H'->Rep K as' H' w v->Post K as' H' Q (f w m')->Q1 v H'):Post K as H Q1 r:=by
 cases r with
 | ok w m'=>exact fun as2 H2 v U S R=>k w m' as2 H2 v U S R (Post.step (r:=f w m') h U)
 | exc c w m'=>exact h
 | no=>exact h
theorem ziB {Q Q1:VK}{r:Rz}{f:Wd->Me->Rz}(h:Post K as H Q (r.bind f))(T:Step as H as' H')
  (k:∀w m2 as2 H2 v,Step as' H' as2 H2->Sim K as2 m2 H2->Rep K as2 H2 w v->Post K as H Q (f w m2)->Q1 v H2):Post K as' H' Q1 r:=by
 cases r with
 | ok w m'=>exact fun as2 H2 v U S R=>k w m' as2 H2 v U S R h
 | exc c w m'=>exact h
 | no=>exact h
def tOf (K:PySem.W.Frag)(g:En->Me->Rz):TE:=fun σ H Q=>∃as env m,Sim K as m H/\EnvRep K as H env σ/\Post K as H Q (g env m)
def xc (K:PySem.W.Frag)(g:En->Me->Rz):TT:=fun σ H Q=>tOf K g σ H fun v H'=>∃b,v=.bl b/\Q b H'
theorem Post.ok {Q:VK}{w:Wd}{v:V}(h:Post K as H Q (.ok w m))(S:Sim K as m H)(R:Rep K as H w v):Q v H:=h as H v .refl S R
end
theorem PE.imp {X:Cx}{e:Expr}{t t':TE}(h:PE X e t)(k:∀σ H Q,t' σ H Q->t σ H Q):PE X e t':=fun pins s σ H Q I q=>h pins s σ H Q I (k σ H Q q)
theorem PT.imp {X:Cx}{e:Expr}{t t':TT}(h:PT X e t)(k:∀σ H Q,t' σ H Q->t σ H Q):PT X e t':=fun pins s σ H Q I q=>h pins s σ H Q I (k σ H Q q)
theorem PA.imp {X:Cx}{es:List Expr}{t t':TA}(h:PA X es t)(k:∀σ H Q,t' σ H Q->t σ H Q):PA X es t':=fun pos pins s σ H Q I q=>h pos pins s σ H Q I (k σ H Q q)
theorem PS.imp {X:Cx}{st:Stmt}{t t':TS}(h:PS X st t)(k:∀D σ H,t' D σ H->t D σ H):PS X st t':=fun pins s σ H D I q=>h pins s σ H D I (k D σ H q)
theorem PSs.imp {X:Cx}{st:List Stmt}{t t':TS}(h:PSs X st t)(k:∀D σ H,t' D σ H->t D σ H):PSs X st t':=fun pins s σ H D I q=>h pins s σ H D I (k D σ H q)
section
variable {K:PySem.W.Frag}{as:List Addr}{H H':Hp}{m:Me}{Q:VK}{a p:Addr}{l:Nat}{ws xs:List Wd}{vs us:List V}
theorem yJ:lim<=sizeLine:=by rw[sizeLine_eq];decide
theorem Sim.new (S:Sim K as m H)(hp:H p=none):p∉as:=fun z=>by
 obtain ⟨us,e⟩:=S.isLst z
 rw[hp] at e;cases e
theorem Sim.alloc (S:Sim K as m H)(hp:H p=none)(R:RepL K as H ws vs):Step as H (as++[p]) (upd H p (.lst vs))/\Sim K (as++[p]) (m++[.lst ws]) (upd H p (.lst vs)):=by
 have hn:=S.new hp
 have T:Step as H (as++[p]) (upd H p (.lst vs)):=⟨⟨[p],rfl⟩,fun b o h _=>by rw[zd (zv h hp)];exact h,fun b hb=>by
  rcases List.mem_append.mp hb with z | z
  .exact .inl z
  .exact .inr (by rw[List.mem_singleton.mp z];exact hp)⟩
 refine ⟨T,⟨by simp[S.len],?_,fun l b o h1 h2=>?_⟩⟩
 .refine List.nodup_append.mpr ⟨S.nd,by simp,fun x hx y hy=>?_⟩
  rw[List.mem_singleton.mp hy]
  rintro rfl
  exact hn hx
 .by_cases hl:l < as.length
  .rw[List.getElem?_append_left hl] at h1
   rw[List.getElem?_append_left (by rw[<- S.len];exact hl)] at h2
   have q:=S.obj l b o h1 h2
   cases o with
   | lst ys =>
    obtain ⟨zs,e,r⟩:=q
    exact ⟨zs,by rw[zd (zv e hp)];exact e,r.mono S T⟩
   | dct kvs=>exact q.elim
  .rw[List.getElem?_append_right (by lia)] at h1
   rw[List.getElem?_append_right (by rw[<- S.len];lia)] at h2
   have hz:l - as.length=0:=by
    cases hq:l - as.length with
    | zero=>rfl
    | succ k=>rw[hq] at h1;simp at h1
   rw[hz] at h1
   rw[<- S.len,hz] at h2
   simp at h1 h2
   subst h1;subst h2
   exact ⟨vs,zb,R.mono S T⟩
theorem Sim.set (S:Sim K as m H)(ha:as[l]?=some a)(hm:m[l]?=some (.lst xs))(R:RepL K as H ws vs):Step as H as (upd H a (.lst vs))/\Sim K as (m.set l (.lst ws)) (upd H a (.lst vs)):=by
 have hin:a∈as:=List.mem_of_getElem? ha
 have T:Step as H as (upd H a (.lst vs)):=⟨⟨[],by simp⟩,fun b o h hb=>by
  rw[zd (by rintro rfl;exact hb hin)];exact h,fun b hb=>.inl hb⟩
 refine ⟨T,⟨by simp[S.len],S.nd,fun k b o h1 h2=>?_⟩⟩
 by_cases hk:k=l
 .subst hk
  rw[ha] at h1;cases h1
  rw[List.getElem?_set_self (List.getElem?_eq_some_iff.mp hm).1] at h2
  cases h2
  exact ⟨vs,zb,R.mono S T⟩
 .rw[List.getElem?_set_ne (Ne.symm hk)] at h2
  have q:=S.obj k b o h1 h2
  have hb:b≠a:=by
   rintro rfl
   obtain ⟨i1,e1⟩:=List.getElem?_eq_some_iff.mp h1
   obtain ⟨i2,e2⟩:=List.getElem?_eq_some_iff.mp ha
   exact hk ((List.getElem_inj S.nd).mp (e1.trans e2.symm))
  cases o with
  | lst ys =>
   obtain ⟨zs,e,r⟩:=q
   exact ⟨zs,by rw[zd hb];exact e,r.mono S T⟩
  | dct kvs=>exact q.elim
theorem Sim.keep (S:Sim K as m H)(T:Step as H as H')(hk:∀a∈as,∀o,H a=some o->H' a=some o):Sim K as m H':=by
 refine ⟨S.len,S.nd,fun l b o h1 h2=>?_⟩
 have q:=S.obj l b o h1 h2
 cases o with
 | lst ys =>
  obtain ⟨zs,e,r⟩:=q
  exact ⟨zs,hk b (List.mem_of_getElem? h1) _ e,r.mono S T⟩
 | dct kvs=>exact q.elim
theorem Sim.tup (S:Sim K as m H)(hp:H p=none)(R:RepL K as H ws vs):Step as H as (upd H p (.tup vs))/\Sim K as m (upd H p (.tup vs))/\Rep K as (upd H p (.tup vs)) (.tup ws) (.ref p):=by
 have T:Step as H as (upd H p (.tup vs)):=⟨⟨[],by simp⟩,fun b o h _=>by rw[zd (zv h hp)];exact h,fun b hb=>.inl hb⟩
 exact ⟨T,S.keep T fun b _ o e=>by rw[zd (zv e hp)];exact e,rep_tup.mpr ⟨p,vs,rfl,SqT.of zb,R.mono S T⟩⟩
theorem xq (S:Sim K as m H)(R:RepL K as H ws vs)(h:Post K as H Q (alloc m ws)):vs.length<=lim/\∀p,H p=none->Q (.ref p) (upd H p (.lst vs)):=by
 unfold Mini.alloc at h
 by_cases hl:ws.length<=lim
 .rw[if_pos hl] at h
  refine ⟨by rw[<- R.length];exact hl,fun p hp=>?_⟩
  obtain ⟨T,S'⟩:=S.alloc hp R
  refine h _ _ _ T S' (rep_ref.mpr ⟨p,?_,rfl⟩)
  rw[<- S.len,List.getElem?_append_right (Nat.le_refl _)]
  simp
 .rw[if_neg hl] at h;exact h.elim
theorem zS (S:Sim K as m H)(hm:m[l]?=some (.lst xs)):∃a vs,as[l]?=some a/\H a=some (.lst vs)/\RepL K as H xs vs:=by
 obtain ⟨a,ha,vs,e,r⟩:=S.get hm
 exact ⟨a,vs,ha,e,r⟩
theorem zL {xs:List Wd}(h:zf m l=some xs):m[l]?=some (.lst xs):=by
 unfold zf at h
 cases e:m[l]? with
 | none=>rw[e] at h;cases h
 | some o=>cases o with
  | lst ys=>rw[e] at h;cases h;rfl
  | dct kvs=>rw[e] at h;cases h
theorem vB (S:Sim K as m H){w:Wd}{v:V}(R:Rep K as H w v)(h:yx m w=some xs):∃p vs,v=.ref p/\(SqL K H p vs\/SqT K H p vs)/\RepL K as H xs vs:=by
 cases w with
 | tup ys =>
  cases h
  obtain ⟨b,vs,rfl,q,r⟩:=rep_tup.mp R
  exact ⟨b,vs,rfl,.inr q,r⟩
 | rol ys =>
  cases h
  obtain ⟨b,vs,rfl,q,r⟩:=rep_rol.mp R
  exact ⟨b,vs,rfl,.inl q.sq,r⟩
 | ref l =>
  obtain ⟨b,hb,rfl⟩:=rep_ref.mp R
  obtain ⟨a,vs,ha,e,r⟩:=zS S (zL h)
  rw[hb] at ha;cases ha
  exact ⟨b,vs,rfl,.inl (SqL.of e),r⟩
 | non=>cases h
 | bl b=>cases h
 | int i=>cases h
 | str s=>cases h
noncomputable def opK:Bo->Operator
 | .add=>.Add | .sub=>.Sub | .mul=>.Mult | .fdiv=>.FloorDiv | .mod=>.Mod | .pow=>.Pow | .shr=>.RShift | .band=>.BitAnd
def rB (K:PySem.W.Frag):Bo->R2
 | .add=>fun x y H Q=>rI0 (fun i j=>.int (i+j)) x y H Q\/(zgM x y H Q\/zew K x y H Q)
 | .sub=>rI0 fun i j=>.int (i - j)
 | .mul=>fun x y H Q=>rI CMul (fun i j=>.int (i * j)) x y H Q\/zgN x y H Q
 | .fdiv=>rI zgy fun i j=>.int (i / j)
 | .mod=>rI (fun _ j=>0 < j) fun i j=>.int (i % j)
 | .pow=>rI zgz fun i j=>.int (i ^ j.toNat)
 | .shr=>rI (fun _ j=>0<=j) fun i j=>.int (i / 2 ^ j.toNat)
 | .band=>rI0 fun i j=>.int (Builtin.bitAnd i j)
theorem zgQ {X:Cx}(op:Bo):OpR X (binaryOp (opK op)) (rB X.K op):=by
 cases op with
 | add=>exact op_add.or (op_cat.or zdi)
 | sub=>exact ze4
 | mul=>exact op_mul.or zfi
 | fdiv=>exact zdc
 | mod=>exact ze5
 | pow=>exact ze6
 | shr=>exact ze7
 | band=>exact ze8
theorem zdr {i:Int}(h:0<=i):Builtin.bitAnd i 1=i % 2:=by
 obtain ⟨n,rfl⟩:=Int.eq_ofNat_of_zero_le h
 show Int.ofNat (n &&& 1)=_
 rw[Nat.and_one_is_mod];rfl
theorem wG {i:Int}(h:xk i=true):-(2 ^ 64) < i/\i < 2 ^ 64:=by
 unfold xk big at h
 rw[Bool.and_eq_true,decide_eq_true_iff,decide_eq_true_iff] at h
 lia
theorem yR {c:Prop}[Decidable c]{r:Rz}(h:Post K as H Q (if c then r else .no)):c/\Post K as H Q r:=by
 by_cases hc:c
 .rw[if_pos hc] at h;exact ⟨hc,h⟩
 .rw[if_neg hc] at h;exact h.elim
theorem zds {a b:Nat}(h:Post K as H Q (bop .add (.ref a) (.ref b) m)):∃xs ys,m[a]?=some (.lst xs)/\m[b]?=some (.lst ys)/\Post K as H Q (alloc m (xs++ys)):=by
 unfold bop at h
 dsimp only at h
 generalize m[a]?=p at h ⊢
 generalize m[b]?=q at h ⊢
 cases p with
 | none=>exact h.elim
 | some o =>
  cases o with
  | dct kvs=>exact h.elim
  | lst xs =>
   cases q with
   | none=>exact h.elim
   | some o =>
    cases o with
    | dct kvs=>exact h.elim
    | lst ys=>exact ⟨xs,ys,rfl,rfl,h⟩
theorem zdt {a:Nat}{k:Int}(h:Post K as H Q (bop .mul (.ref a) (.int k) m)):∃xs,m[a]?=some (.lst xs)/\Post K as H Q (if -lim<=k/\k<=lim then alloc m (List.replicate k.toNat xs).flatten else .no):=by
 unfold bop at h
 dsimp only at h
 generalize m[a]?=p at h ⊢
 cases p with
 | none=>exact h.elim
 | some o =>
  cases o with
  | dct kvs=>exact h.elim
  | lst xs=>exact ⟨xs,rfl,h⟩
set_option tactic.hygienic true in
theorem zfn {op:Bo}{x y:Wd}{v u:V}(S:Sim K as m H)(Rx:Rep K as H x v)(Ry:Rep K as H y u)(h:Post K as H Q (bop op x y m)):rB K op v u H Q:=by
 cases x with
 | int i =>
  cases y with
  | int j =>
   obtain rfl:=rep_int.mp Rx
   obtain rfl:=rep_int.mp Ry
   cases op with
   | add=>exact .inl ⟨i,j,rfl,rfl,h.ok S (rep_int.mpr rfl)⟩
   | sub=>exact ⟨i,j,rfl,rfl,h.ok S (rep_int.mpr rfl)⟩
   | mul =>
    obtain ⟨hs,h⟩:=yR h
    refine .inl ⟨i,j,rfl,rfl,?_,h.ok S (rep_int.mpr rfl)⟩
    rcases Bool.or_eq_true_iff.mp hs with q | q
    .exact .inl (wG q)
    .exact .inr (wG q)
   | fdiv =>
    obtain ⟨hs,h⟩:=yR h
    exact ⟨i,j,rfl,rfl,hs,h.ok S (rep_int.mpr rfl)⟩
   | mod =>
    obtain ⟨hs,h⟩:=yR h
    exact ⟨i,j,rfl,rfl,hs,h.ok S (rep_int.mpr rfl)⟩
   | pow =>
    obtain ⟨⟨h1,h2,h3⟩,h⟩:=yR h
    have h4:=wG h3
    exact ⟨i,j,rfl,rfl,⟨h1,h2,by lia⟩,h.ok S (rep_int.mpr rfl)⟩
   | shr =>
    obtain ⟨hs,h⟩:=yR h
    exact ⟨i,j,rfl,rfl,hs.1,h.ok S (rep_int.mpr rfl)⟩
   | band =>
    obtain ⟨⟨h1,rfl⟩,h'⟩:=yR h
    refine ⟨i,1,rfl,rfl,?_⟩
    show Q (.int (Builtin.bitAnd i 1)) H
    rw[zdr h1]
    exact h'.ok S (rep_int.mpr rfl)
  | _=>exact h.elim
 | ref a =>
  obtain ⟨pa,ha,rfl⟩:=rep_ref.mp Rx
  cases y with
  | ref b =>
   obtain ⟨pb,hb,rfl⟩:=rep_ref.mp Ry
   cases op with
   | add =>
    obtain ⟨xs,ys,e1,e2,h⟩:=zds h
    obtain ⟨pa',va,ha',ea,ra⟩:=zS S e1
    rw[ha] at ha';cases ha'
    obtain ⟨pb',vb,hb',eb,rb⟩:=zS S e2
    rw[hb] at hb';cases hb'
    obtain ⟨hl,q⟩:=xq S (ra.append rb) h
    rw[List.length_append] at hl
    exact .inr (.inl ⟨pa,pb,va,vb,rfl,rfl,ea,eb,Nat.le_trans hl yJ,q⟩)
   | _=>exact h.elim
  | int k =>
   obtain rfl:=rep_int.mp Ry
   cases op with
   | mul =>
    obtain ⟨xs,e1,h⟩:=zdt h
    obtain ⟨hk,h⟩:=yR h
    obtain ⟨pa',va,ha',ea,ra⟩:=zS S e1
    rw[ha] at ha';cases ha'
    obtain ⟨hl,q⟩:=xq S (ra.rep k.toNat) h
    rw[qT] at hl
    have hlim:(lim:Int)=100000:=rfl
    exact .inr ⟨pa,k,va,rfl,rfl,ea,by lia,by lia,by rw[Nat.mul_comm];exact Nat.le_trans hl yJ,q⟩
   | _=>exact h.elim
  | _=>exact h.elim
 | tup xs =>
  cases y with
  | tup ys =>
   cases op with
   | add =>
    obtain ⟨hc,h⟩:=yR h
    obtain ⟨pa,va,rfl,qa,ra⟩:=rep_tup.mp Rx
    obtain ⟨pb,vb,rfl,qb,rb⟩:=rep_tup.mp Ry
    have la:=ra.length
    have lb:=rb.length
    refine .inr (.inr ⟨pa,pb,va,vb,rfl,rfl,qa,qb,?_,?_,fun e=>?_,fun e p hp=>?_⟩)
    .rintro rfl
     cases xs with
     | nil=>simp at hc
     | cons x xs=>simp at la
    .rw[<- la,<- lb];exact Nat.le_trans hc.1 yJ
    .subst e
     obtain rfl:ys=[]:=by
      cases ys with
      | nil=>rfl
      | cons y ys=>simp at lb
     refine h.ok S (rep_tup.mpr ⟨pa,va,rfl,qa,?_⟩)
     rw[List.append_nil];exact ra
    .obtain ⟨T,S',R'⟩:=S.tup hp (ra.append rb)
     exact h _ _ _ T S' R'
   | _=>exact h.elim
  | _=>exact h.elim
 | _=>exact h.elim
end
end Mini
namespace Mini
open PySem PySem.Spec PyProof.Rows L2
open PySem.SeqAt
section
variable {X:Cx}{pins:List (Addr×Obj)}{σ:St}{s:Shared}{as:List Addr}{H:Hp}{m:Me}
theorem wc {a:Addr}{xs ys:List V}(I:Inv X pins σ H s)(h1:SqT X.K H a xs)(h2:SqL X.K H a ys):False:=by
 obtain ⟨its,_,p,_⟩:=I.tuple h1
 obtain ⟨its',_,q,_⟩:=I.list h2
 exact ne_of_list_tuple q.isList (show s.heap.IsTuple a its.toArray from p) rfl
theorem kB {a:Addr}{xs:List V}{u:HO}(I:Inv X pins σ H s)(h1:KL X.K a xs)(h2:H a=some u):False:=by
 obtain ⟨o,_,_,hk,_⟩:=h1
 have:=(I.bs a o (I.ok.mod.kin a o hk)).2
 rw[this] at h2;cases h2
mutual
theorem we (I:Inv X pins σ H s)(S:Sim X.K as m H):∀ (w w':Wd) (v:V),Rep X.K as H w v->Rep X.K as H w' v->w=w'
 | .non,w',v,h,h'=>by
  obtain rfl:=rep_non.mp h
  cases w' with
  | non=>rfl
  | bl b=>cases rep_bl.mp h'
  | int i=>cases rep_int.mp h'
  | str x=>cases rep_str.mp h'
  | tup xs=>obtain ⟨_,_,e,_⟩:=rep_tup.mp h';cases e
  | rol xs=>obtain ⟨_,_,e,_⟩:=rep_rol.mp h';cases e
  | ref l=>obtain ⟨_,_,e⟩:=rep_ref.mp h';cases e
 | .bl c,w',v,h,h'=>by
  obtain rfl:=rep_bl.mp h
  cases w' with
  | non=>cases rep_non.mp h'
  | bl b=>cases rep_bl.mp h';rfl
  | int i=>cases rep_int.mp h'
  | str x=>cases rep_str.mp h'
  | tup xs=>obtain ⟨_,_,e,_⟩:=rep_tup.mp h';cases e
  | rol xs=>obtain ⟨_,_,e,_⟩:=rep_rol.mp h';cases e
  | ref l=>obtain ⟨_,_,e⟩:=rep_ref.mp h';cases e
 | .int c,w',v,h,h'=>by
  obtain rfl:=rep_int.mp h
  cases w' with
  | non=>cases rep_non.mp h'
  | bl b=>cases rep_bl.mp h'
  | int i=>cases rep_int.mp h';rfl
  | str x=>cases rep_str.mp h'
  | tup xs=>obtain ⟨_,_,e,_⟩:=rep_tup.mp h';cases e
  | rol xs=>obtain ⟨_,_,e,_⟩:=rep_rol.mp h';cases e
  | ref l=>obtain ⟨_,_,e⟩:=rep_ref.mp h';cases e
 | .str c,w',v,h,h'=>by
  obtain rfl:=rep_str.mp h
  cases w' with
  | non=>cases rep_non.mp h'
  | bl b=>cases rep_bl.mp h'
  | int i=>cases rep_int.mp h'
  | str x =>
   have e:=rep_str.mp h'
   injection e with e
   injection e with e
   have:c=x:=by simpa using congrArg Array.toList e
   rw[this]
  | tup xs=>obtain ⟨_,_,e,_⟩:=rep_tup.mp h';cases e
  | rol xs=>obtain ⟨_,_,e,_⟩:=rep_rol.mp h';cases e
  | ref l=>obtain ⟨_,_,e⟩:=rep_ref.mp h';cases e
 | .tup xs,w',v,h,h'=>by
  obtain ⟨a,vs,rfl,q,r⟩:=rep_tup.mp h
  cases w' with
  | non=>cases rep_non.mp h'
  | bl b=>cases rep_bl.mp h'
  | int i=>cases rep_int.mp h'
  | str x=>cases rep_str.mp h'
  | tup ys =>
   obtain ⟨b,us,e,q',r'⟩:=rep_tup.mp h'
   cases e
   obtain rfl:=I.tuple_inj q q'
   rw[repL_inj I S xs ys vs r r']
  | rol ys =>
   obtain ⟨b,us,e,q',r'⟩:=rep_rol.mp h'
   cases e
   exact (wc I q q'.sq).elim
  | ref l =>
   obtain ⟨b,hb,e⟩:=rep_ref.mp h'
   cases e
   obtain ⟨us,e2⟩:=S.isLst (List.mem_of_getElem? hb)
   exact (wc I q (SqL.of e2)).elim
 | .rol xs,w',v,h,h'=>by
  obtain ⟨a,vs,rfl,q,r⟩:=rep_rol.mp h
  cases w' with
  | non=>cases rep_non.mp h'
  | bl b=>cases rep_bl.mp h'
  | int i=>cases rep_int.mp h'
  | str x=>cases rep_str.mp h'
  | tup ys =>
   obtain ⟨b,us,e,q',r'⟩:=rep_tup.mp h'
   cases e
   exact (wc I q' q.sq).elim
  | rol ys =>
   obtain ⟨b,us,e,q',r'⟩:=rep_rol.mp h'
   cases e
   obtain rfl:=I.list_inj q.sq q'.sq
   rw[repL_inj I S xs ys vs r r']
  | ref l =>
   obtain ⟨b,hb,e⟩:=rep_ref.mp h'
   cases e
   obtain ⟨us,e2⟩:=S.isLst (List.mem_of_getElem? hb)
   rcases q with ⟨o,q⟩ | q
   .rw[e2] at q;cases q
   .exact (kB I q e2).elim
 | .ref l,w',v,h,h'=>by
  obtain ⟨a,ha,rfl⟩:=rep_ref.mp h
  obtain ⟨us,e2⟩:=S.isLst (List.mem_of_getElem? ha)
  cases w' with
  | non=>cases rep_non.mp h'
  | bl b=>cases rep_bl.mp h'
  | int i=>cases rep_int.mp h'
  | str x=>cases rep_str.mp h'
  | tup ys =>
   obtain ⟨b,us,e,q',r'⟩:=rep_tup.mp h'
   cases e
   exact (wc I q' (SqL.of e2)).elim
  | rol ys =>
   obtain ⟨b,us,e,q',r'⟩:=rep_rol.mp h'
   cases e
   rcases q' with ⟨o,q'⟩ | q'
   .rw[e2] at q';cases q'
   .exact (kB I q' e2).elim
  | ref l' =>
   obtain ⟨b,hb,e⟩:=rep_ref.mp h'
   cases e
   obtain ⟨i1,e1⟩:=List.getElem?_eq_some_iff.mp ha
   obtain ⟨i2,e2⟩:=List.getElem?_eq_some_iff.mp hb
   rw[(List.getElem_inj S.nd).mp (e1.trans e2.symm)]
theorem repL_inj (I:Inv X pins σ H s)(S:Sim X.K as m H):∀ (xs ys:List Wd) (vs:List V),RepL X.K as H xs vs->RepL X.K as H ys vs->xs=ys
 | [],ys,vs,h,h'=>by
  obtain rfl:=repL_nil.mp h
  cases ys with
  | nil=>rfl
  | cons y ys=>obtain ⟨_,_,e,_⟩:=repL_cons.mp h';cases e
 | x::xs,ys,vs,h,h'=>by
  obtain ⟨v,r,rfl,q,t⟩:=repL_cons.mp h
  cases ys with
  | nil=>cases repL_nil.mp h'
  | cons y ys =>
   obtain ⟨v',r',e,q',t'⟩:=repL_cons.mp h'
   cases e
   rw[we I S x y v q q',repL_inj I S xs ys r t t']
end
theorem je {p:Wd->Wd->Option Bool}:∀ {xs ys:List Wd}{r:Bool},eqL p xs ys=some r ->
  ∃f:Nat->Bool,(∀j x y,xs[j]?=some x->ys[j]?=some y->p x y=some (f j))/\r=(List.range (min xs.length ys.length)).all f
 | [],ys,r,h=>by
  unfold eqL at h
  cases h
  exact ⟨fun _=>true,fun j x y e=>by simp at e,by simp⟩
 | _::_,[],r,h=>by
  unfold eqL at h
  cases h
  exact ⟨fun _=>true,fun j x y _ e=>by simp at e,by simp⟩
 | x::xs,y::ys,r,h=>by
  unfold eqL at h
  cases hp:p x y with
  | none=>rw[hp] at h;cases h
  | some b =>
   rw[hp] at h
   simp only[] at h
   cases hr:eqL p xs ys with
   | none=>rw[hr] at h;cases h
   | some r' =>
    rw[hr] at h
    cases h
    obtain ⟨f,hf,e⟩:=je (xs:=xs) (ys:=ys) hr
    refine ⟨fun j=>match j with | 0=>b | j+1=>f j,fun j x' y' e1 e2=>?_,?_⟩
    .cases j with
     | zero=>simp at e1 e2;subst e1;subst e2;exact hp
     | succ j=>exact hf j x' y' (by simpa using e1) (by simpa using e2)
    .rw[List.length_cons,List.length_cons,Nat.succ_min_succ,List.range_succ_eq_map,List.all_cons,List.all_map,e]
     rfl
theorem jY:∀ (k:Nat) (w:Wd) (r:Bool),eqW m k w w=some r->r=true
 | 0,w,r,h=>by cases h
 | k+1,w,r,h=>by
  cases w with
  | non=>cases h;rfl
  | bl b=>cases h;simp
  | int i=>cases h;simp
  | str x=>cases h;simp
  | tup xs =>
   replace h:(eqL (eqW m k) xs xs).map (· && decide (xs.length=xs.length))=some r:=h
   cases hr:eqL (eqW m k) xs xs with
   | none=>rw[hr] at h;cases h
   | some r' =>
    rw[hr] at h
    simp only[Option.map_some,decide_true,Bool.and_true] at h
    cases h
    obtain ⟨f,hf,rfl⟩:=je hr
    rw[List.all_eq_true]
    intro j hj
    have hj':j < xs.length:=by simpa using hj
    exact jY k xs[j] (f j) (hf j xs[j] xs[j] (by simp[hj']) (by simp[hj']))
  | rol xs=>cases h
  | ref l =>
   replace h:(if l=l then (if isLst m l then some true else none) else match m[l]?,m[l]? with
    | some (.lst xs),some (.lst ys)=>if xs.length=ys.length then eqL (eqW m k) xs ys else some false
    | _,_=>none)=some r:=h
   simp only[if_true] at h
   split at h
   .cases h;rfl
   .cases h
structure Eqs (A:Around)(s:Shared)(u u':Value)(r:Bool):Prop where
 it:EqAt A s u u' r
 eq:RcAt A s u u' r
 ne:RcNeAt A s u u' (!r)
theorem isLst_of (S:Sim X.K as m H)(I:Inv X pins σ H s){l:Nat}{v:V}{u:Value}(h:isLst m l=true)(R:Rep X.K as H (.ref l) v)(ru:RelV v u):∃b its,u=.ref b/\s.heap.IsList b its:=by
 unfold isLst at h
 cases e:m[l]? with
 | none=>rw[e] at h;cases h
 | some o =>
  cases o with
  | dct kvs=>rw[e] at h;cases h
  | lst xs =>
   obtain ⟨b,hb,rfl⟩:=rep_ref.mp R
   obtain ⟨a,vs,ha,ea,ra⟩:=zS S e
   rw[hb] at ha;cases ha
   obtain rfl:u=.ref b:=ru
   obtain ⟨its,_,p,_⟩:=I.list (SqL.of ea)
   exact ⟨b,_,rfl,p.isList⟩
theorem xS (I:Inv X pins σ H s){xs:List Wd}{v:V}{u:Value}(R:Rep X.K as H (.tup xs) v)(ru:RelV v u):∃b vs its,v=.ref b/\u=.ref b/\RepL X.K as H xs vs/\Vals vs its/\s.heap.IsTuple b its.toArray:=by
 obtain ⟨b,vs,rfl,q,r⟩:=rep_tup.mp R
 obtain rfl:u=.ref b:=ru
 obtain ⟨its,rv,p,_⟩:=I.tuple q
 exact ⟨b,vs,its,rfl,rfl,r,rv,p⟩
set_option tactic.hygienic true in
theorem qZ (I:Inv X pins σ H s)(S:Sim X.K as m H):∀ (k:Nat) (A:Around) (w w':Wd) (v v':V) (u u':Value) (r:Bool),A.units+k < cLine->eqW m k w w'=some r ->
  Rep X.K as H w v->Rep X.K as H w' v'->RelV v u->RelV v' u'->Eqs A s u u' r
 | 0,_,_,_,_,_,_,_,_,_,h,_,_,_,_=>by cases h
 | k+1,A,w,w',v,v',u,u',r,hu,h,R,R',ru,ru'=>by
  have hu0:A.units < cLine:=by lia
  have hu1:A.in1.units+k < cLine:=by show A.units+1+k < cLine;lia
  -- items,pair by pair
  have pairs:∀ {xs ys:List Wd}{vs us:List V}{its its':List Value}{r:Bool},RepL X.K as H xs vs->RepL X.K as H ys us->Vals vs its->Vals us its'->eqL (eqW m k) xs ys=some r ->
    ∃f:Nat->Bool,(∀j (h1:j < its.toArray.size) (h2:j < its'.toArray.size),EqAt A.in1 s its.toArray[j] its'.toArray[j] (f j))/\r=(List.range (min its.toArray.size its'.toArray.size)).all f/\its.toArray.size=xs.length/\its'.toArray.size=ys.length:=by
   intro xs ys vs us its its' r r1 r2 rv rv' he
   obtain ⟨f,hf,e⟩:=je he
   have l1:=r1.length
   have l2:=r2.length
   have l3:=rv.length
   have l4:=rv'.length
   have s1:its.toArray.size=xs.length:=by simp;lia
   have s2:its'.toArray.size=ys.length:=by simp;lia
   refine ⟨f,fun j h1 h2=>?_,by rw[e,s1,s2],s1,s2⟩
   have hj:j < xs.length:=by lia
   have hj2:j < ys.length:=by lia
   obtain ⟨v1,e1,q1⟩:=r1.get (i:=j) (x:=xs[j]) (by simp[hj])
   obtain ⟨v2,e2,q2⟩:=r2.get (i:=j) (x:=ys[j]) (by simp[hj2])
   obtain ⟨u1,e3,q3⟩:=rv.get e1
   obtain ⟨u2,e4,q4⟩:=rv'.get e2
   have z:=qZ I S k A.in1 xs[j] ys[j] v1 v2 u1 u2 (f j) hu1 (hf j _ _ (by simp[hj]) (by simp[hj2])) q1 q2 q3 q4
   obtain ⟨_,e5⟩:=List.getElem?_eq_some_iff.mp e3
   obtain ⟨_,e6⟩:=List.getElem?_eq_some_iff.mp e4
   have g1:its.toArray[j]=u1:=by simpa using e5
   have g2:its'.toArray[j]=u2:=by simpa using e6
   rw[g1,g2]
   exact z.it
  cases w with
  | tup xs =>
   obtain ⟨b,vs,its,rfl,rfl,r1,rv,p⟩:=xS I R ru
   cases w' with
   | tup ys =>
    obtain ⟨b',vs',its',rfl,rfl,r1',rv',p'⟩:=xS I R' ru'
    have rc:RcAt A s (.ref b) (.ref b') r/\RcNeAt A s (.ref b) (.ref b') (!r):=by
     replace h:(eqL (eqW m k) xs ys).map (· && decide (xs.length=ys.length))=some r:=h
     cases hr:eqL (eqW m k) xs ys with
     | none=>rw[hr] at h;cases h
     | some r' =>
      rw[hr] at h
      simp only[Option.map_some] at h
      cases h
      obtain ⟨f,hf,e,z1,z2⟩:=pairs r1 r1' rv rv' hr
      have e2:((List.range (min its.toArray.size its'.toArray.size)).all f && its.toArray.size == its'.toArray.size)=(r' && decide (xs.length=ys.length)):=by
       rw[e,z1,z2]
       congr 1
      exact ⟨e2▸RcAt.tuples p p' hu0 hf,e2▸RcNeAt.tuples p p' hu0 hf⟩
    refine ⟨?_,rc.1,rc.2⟩
    by_cases hb:b=b'
    .subst hb
     have e:=we I S _ _ _ R R'
     rw[<- e] at h
     obtain rfl:=jY _ _ _ h
     exact EqAt.same _
    .exact EqAt.of_refs hb rc.1
   | ref l =>
    replace h:(if isLst m l && true then some false else none)=some r:=h
    split at h
    .rename_i hl
     cases h
     obtain ⟨b',its',rfl,q⟩:=isLst_of S I (Bool.and_eq_true_iff.mp hl).1 R' ru'
     exact ⟨EqAt.tuple_list p q hu0,RcAt.tuple_list p q hu0,RcNeAt.tuple_list p q hu0⟩
    .cases h
   | rol ys=>cases h
   | non =>
    cases h
    obtain rfl:=rep_non.mp R'
    obtain rfl:u'=.none:=ru'
    exact ⟨EqAt.tuple_none p hu0,RcAt.tuple_none p hu0,RcNeAt.tuple_none p hu0⟩
   | bl c =>
    cases h
    obtain rfl:=rep_bl.mp R'
    obtain rfl:u'=.bool c:=ru'
    exact ⟨EqAt.tuple_bool c p hu0,RcAt.tuple_bool c p hu0,RcNeAt.tuple_bool c p hu0⟩
   | int i =>
    cases h
    obtain rfl:=rep_int.mp R'
    obtain ⟨t,rfl⟩:=ru'
    exact ⟨EqAt.tuple_int i t p hu0,RcAt.tuple_int i t p hu0,RcNeAt.tuple_int i t p hu0⟩
   | str x =>
    cases h
    obtain rfl:=rep_str.mp R'
    obtain ⟨t,rfl⟩:=ru'
    exact ⟨EqAt.tuple_str _ t p hu0,RcAt.tuple_str _ t p hu0,RcNeAt.tuple_str _ t p hu0⟩
  | ref l =>
   cases w' with
   | ref l' =>
    obtain ⟨b,hb,rfl⟩:=rep_ref.mp R
    obtain ⟨b',hb',rfl⟩:=rep_ref.mp R'
    obtain rfl:u=.ref b:=ru
    obtain rfl:u'=.ref b':=ru'
    replace h:(if l=l' then (if isLst m l then some true else none) else match m[l]?,m[l']? with
     | some (.lst xs),some (.lst ys)=>if xs.length=ys.length then eqL (eqW m k) xs ys else some false
     | _,_=>none)=some r:=h
    by_cases hll:l=l'
    .subst hll
     rw[hb] at hb';cases hb'
     rw[if_pos rfl] at h
     split at h
     .rename_i hil
      cases h
      obtain ⟨c,its,ec,q⟩:=isLst_of S I hil R (u:=.ref b) rfl
      cases ec
      have al:(List.range its.size).all (fun _=>true)=true:=by simp
      have e1:=RcAt.lists (A:=A) (e:=fun _=>true) q q rfl hu0 (fun j h1 h2=>EqAt.same _)
      have e2:=RcNeAt.lists (A:=A) (e:=fun _=>true) q q rfl hu0 (fun j h1 h2=>EqAt.same _)
      rw[al] at e1 e2
      exact ⟨EqAt.same _,e1,e2⟩
     .cases h
    .rw[if_neg hll] at h
     have hbb:b≠b':=by
      rintro rfl
      obtain ⟨i1,e1⟩:=List.getElem?_eq_some_iff.mp hb
      obtain ⟨i2,e2⟩:=List.getElem?_eq_some_iff.mp hb'
      exact hll ((List.getElem_inj S.nd).mp (e1.trans e2.symm))
     split at h
     .rename_i xs ys m1 m2
      obtain ⟨a1,vs,h1,g1,r1⟩:=zS S m1
      rw[hb] at h1;cases h1
      obtain ⟨a2,us,h2,g2,r2⟩:=zS S m2
      rw[hb'] at h2;cases h2
      obtain ⟨its,rv,p,_⟩:=I.list (SqL.of g1)
      obtain ⟨its',rv',p',_⟩:=I.list (SqL.of g2)
      split at h
      .rename_i hl
       obtain ⟨f,hf,e,z1,z2⟩:=pairs r1 r2 rv rv' h
       have hsz:its.toArray.size=its'.toArray.size:=by rw[z1,z2,hl]
       rw[<- hsz,Nat.min_self] at e
       have e1:=RcAt.lists p.isList p'.isList hsz hu0 hf
       have e2:=RcNeAt.lists p.isList p'.isList hsz hu0 hf
       rw[<- e] at e1 e2
       exact ⟨EqAt.of_refs hbb e1,e1,e2⟩
      .rename_i hl
       cases h
       have l1:=r1.length
       have l2:=r2.length
       have l3:=rv.length
       have l4:=rv'.length
       have hsz:(its.toArray.size != its'.toArray.size)=true:=by
        simp
        lia
       have e1:=RcAt.lists_lengths (A:=A) p.isList p'.isList hsz hu0
       exact ⟨EqAt.of_refs hbb e1,e1,RcNeAt.lists_lengths p.isList p'.isList hsz hu0⟩
     .cases h
   | tup ys =>
    replace h:(if isLst m l && true then some false else none)=some r:=h
    split at h
    .rename_i hl
     cases h
     obtain ⟨b,its,rfl,q⟩:=isLst_of S I (Bool.and_eq_true_iff.mp hl).1 R ru
     obtain ⟨b',vs',its',rfl,rfl,r1',rv',p'⟩:=xS I R' ru'
     exact ⟨EqAt.list_tuple q p' hu0,RcAt.list_tuple q p' hu0,RcNeAt.list_tuple q p' hu0⟩
    .cases h
   | rol ys =>
    replace h:(if isLst m l && false then some false else none)=some r:=h
    simp only[Bool.and_false,Bool.false_eq_true,if_false] at h
    cases h
   | non =>
    replace h:(if isLst m l && true then some false else none)=some r:=h
    split at h
    .rename_i hl
     cases h
     obtain ⟨b,its,rfl,q⟩:=isLst_of S I (Bool.and_eq_true_iff.mp hl).1 R ru
     obtain rfl:=rep_non.mp R'
     obtain rfl:u'=.none:=ru'
     exact ⟨EqAt.list_none q hu0,RcAt.list_none q hu0,RcNeAt.list_none q hu0⟩
    .cases h
   | bl c =>
    replace h:(if isLst m l && true then some false else none)=some r:=h
    split at h
    .rename_i hl
     cases h
     obtain ⟨b,its,rfl,q⟩:=isLst_of S I (Bool.and_eq_true_iff.mp hl).1 R ru
     obtain rfl:=rep_bl.mp R'
     obtain rfl:u'=.bool c:=ru'
     exact ⟨EqAt.list_bool c q hu0,RcAt.list_bool c q hu0,RcNeAt.list_bool c q hu0⟩
    .cases h
   | int i =>
    replace h:(if isLst m l && true then some false else none)=some r:=h
    split at h
    .rename_i hl
     cases h
     obtain ⟨b,its,rfl,q⟩:=isLst_of S I (Bool.and_eq_true_iff.mp hl).1 R ru
     obtain rfl:=rep_int.mp R'
     obtain ⟨t,rfl⟩:=ru'
     exact ⟨EqAt.list_int i t q hu0,RcAt.list_int i t q hu0,RcNeAt.list_int i t q hu0⟩
    .cases h
   | str x =>
    replace h:(if isLst m l && true then some false else none)=some r:=h
    split at h
    .rename_i hl
     cases h
     obtain ⟨b,its,rfl,q⟩:=isLst_of S I (Bool.and_eq_true_iff.mp hl).1 R ru
     obtain rfl:=rep_str.mp R'
     obtain ⟨t,rfl⟩:=ru'
     exact ⟨EqAt.list_str _ t q hu0,RcAt.list_str _ t q hu0,RcNeAt.list_str _ t q hu0⟩
    .cases h
  | rol xs =>
   cases w' <;> first | cases h | (replace h:(if isLst m _ && false then some false else none)=some r:=h;simp at h)
  | non =>
   obtain rfl:=rep_non.mp R
   obtain rfl:u=.none:=ru
   cases w' with
   | rol ys=>cases h
   | ref l =>
    replace h:(if isLst m l && true then some false else none)=some r:=h
    split at h
    .rename_i hl
     cases h
     obtain ⟨b,its,rfl,q⟩:=isLst_of S I (Bool.and_eq_true_iff.mp hl).1 R' ru'
     exact ⟨EqAt.none_list q hu0,RcAt.none_list q hu0,RcNeAt.none_list q hu0⟩
    .cases h
   | tup ys =>
    cases h
    obtain ⟨b',vs',its',rfl,rfl,r1',rv',p'⟩:=xS I R' ru'
    exact ⟨EqAt.none_tuple p' hu0,RcAt.none_tuple p' hu0,RcNeAt.none_tuple p' hu0⟩
   | non =>
    cases h
    obtain rfl:=rep_non.mp R'
    obtain rfl:u'=.none:=ru'
    exact ⟨EqAt.same _,RcAt.none_none,RcNeAt.none_none⟩
   | bl c =>
    cases h
    obtain rfl:=rep_bl.mp R'
    obtain rfl:u'=.bool c:=ru'
    exact ⟨EqAt.none_bool c,RcAt.none_bool c,RcNeAt.none_bool c⟩
   | int i =>
    cases h
    obtain rfl:=rep_int.mp R'
    obtain ⟨t,rfl⟩:=ru'
    exact ⟨EqAt.none_int i t,RcAt.none_int i t,RcNeAt.none_int i t⟩
   | str x =>
    cases h
    obtain rfl:=rep_str.mp R'
    obtain ⟨t,rfl⟩:=ru'
    exact ⟨EqAt.none_str _ t,RcAt.none_str _ t,RcNeAt.none_str _ t⟩
  | bl c =>
   obtain rfl:=rep_bl.mp R
   obtain rfl:u=.bool c:=ru
   cases w' with
   | rol ys=>cases h
   | ref l =>
    replace h:(if isLst m l && true then some false else none)=some r:=h
    split at h
    .rename_i hl
     cases h
     obtain ⟨b,its,rfl,q⟩:=isLst_of S I (Bool.and_eq_true_iff.mp hl).1 R' ru'
     exact ⟨EqAt.bool_list c q hu0,RcAt.bool_list c q hu0,RcNeAt.bool_list c q hu0⟩
    .cases h
   | tup ys =>
    cases h
    obtain ⟨b',vs',its',rfl,rfl,r1',rv',p'⟩:=xS I R' ru'
    exact ⟨EqAt.bool_tuple c p' hu0,RcAt.bool_tuple c p' hu0,RcNeAt.bool_tuple c p' hu0⟩
   | non =>
    cases h
    obtain rfl:=rep_non.mp R'
    obtain rfl:u'=.none:=ru'
    exact ⟨EqAt.bool_none c,RcAt.bool_none c,RcNeAt.bool_none c⟩
   | bl d =>
    cases h
    obtain rfl:=rep_bl.mp R'
    obtain rfl:u'=.bool d:=ru'
    exact ⟨EqAt.bool_bool c d,RcAt.bool_bool c d,RcNeAt.bool_bool c d⟩
   | int i =>
    cases h
    obtain rfl:=rep_int.mp R'
    obtain ⟨t,rfl⟩:=ru'
    have e:decide (b2i c=i)=((if c then (1:Int) else 0) == i):=by
     show decide ((if c then (1:Int) else 0)=i)=_
     rw[Bool.beq_eq_decide_eq]
    rw[e]
    exact ⟨EqAt.bool_int c i t,RcAt.bool_int c i t,RcNeAt.bool_int c i t⟩
   | str x =>
    cases h
    obtain rfl:=rep_str.mp R'
    obtain ⟨t,rfl⟩:=ru'
    exact ⟨EqAt.bool_str c _ t,RcAt.bool_str c _ t,RcNeAt.bool_str c _ t⟩
  | int i =>
   obtain rfl:=rep_int.mp R
   obtain ⟨t,rfl⟩:=ru
   cases w' with
   | rol ys=>cases h
   | ref l =>
    replace h:(if isLst m l && true then some false else none)=some r:=h
    split at h
    .rename_i hl
     cases h
     obtain ⟨b,its,rfl,q⟩:=isLst_of S I (Bool.and_eq_true_iff.mp hl).1 R' ru'
     exact ⟨EqAt.int_list i t q hu0,RcAt.int_list i t q hu0,RcNeAt.int_list i t q hu0⟩
    .cases h
   | tup ys =>
    cases h
    obtain ⟨b',vs',its',rfl,rfl,r1',rv',p'⟩:=xS I R' ru'
    exact ⟨EqAt.int_tuple i t p' hu0,RcAt.int_tuple i t p' hu0,RcNeAt.int_tuple i t p' hu0⟩
   | non =>
    cases h
    obtain rfl:=rep_non.mp R'
    obtain rfl:u'=.none:=ru'
    exact ⟨EqAt.int_none i t,RcAt.int_none i t,RcNeAt.int_none i t⟩
   | bl d =>
    cases h
    obtain rfl:=rep_bl.mp R'
    obtain rfl:u'=.bool d:=ru'
    have e:decide (i=b2i d)=(i == (if d then (1:Int) else 0)):=by
     show decide (i=(if d then (1:Int) else 0))=_
     rw[Bool.beq_eq_decide_eq]
    rw[e]
    exact ⟨EqAt.int_bool i t d,RcAt.int_bool i t d,RcNeAt.int_bool i t d⟩
   | int j =>
    cases h
    obtain rfl:=rep_int.mp R'
    obtain ⟨t',rfl⟩:=ru'
    have e:decide (i=j)=(i == j):=by rw[Bool.beq_eq_decide_eq]
    rw[e]
    exact ⟨EqAt.int_int i t j t',RcAt.int_int i t j t',RcNeAt.int_int i t j t'⟩
   | str x =>
    cases h
    obtain rfl:=rep_str.mp R'
    obtain ⟨t',rfl⟩:=ru'
    exact ⟨EqAt.int_str i t _ t',RcAt.int_str i t _ t',RcNeAt.int_str i t _ t'⟩
  | str x =>
   obtain rfl:=rep_str.mp R
   obtain ⟨t,rfl⟩:=ru
   cases w' with
   | rol ys=>cases h
   | ref l =>
    replace h:(if isLst m l && true then some false else none)=some r:=h
    split at h
    .rename_i hl
     cases h
     obtain ⟨b,its,rfl,q⟩:=isLst_of S I (Bool.and_eq_true_iff.mp hl).1 R' ru'
     exact ⟨EqAt.str_list _ t q hu0,RcAt.str_list _ t q hu0,RcNeAt.str_list _ t q hu0⟩
    .cases h
   | tup ys =>
    cases h
    obtain ⟨b',vs',its',rfl,rfl,r1',rv',p'⟩:=xS I R' ru'
    exact ⟨EqAt.str_tuple _ t p' hu0,RcAt.str_tuple _ t p' hu0,RcNeAt.str_tuple _ t p' hu0⟩
   | non =>
    cases h
    obtain rfl:=rep_non.mp R'
    obtain rfl:u'=.none:=ru'
    exact ⟨EqAt.str_none _ t,RcAt.str_none _ t,RcNeAt.str_none _ t⟩
   | bl d =>
    cases h
    obtain rfl:=rep_bl.mp R'
    obtain rfl:u'=.bool d:=ru'
    exact ⟨EqAt.str_bool _ t d,RcAt.str_bool _ t d,RcNeAt.str_bool _ t d⟩
   | int j =>
    cases h
    obtain rfl:=rep_int.mp R'
    obtain ⟨t',rfl⟩:=ru'
    exact ⟨EqAt.str_int _ t j t',RcAt.str_int _ t j t',RcNeAt.str_int _ t j t'⟩
   | str y =>
    cases h
    obtain rfl:=rep_str.mp R'
    obtain ⟨t',rfl⟩:=ru'
    have e:decide (x=y)=((⟨x.toArray⟩:Str) == ⟨y.toArray⟩):=by
     by_cases hxy:x=y
     .subst hxy;simp
     .have:¬(⟨x.toArray⟩:Str)=⟨y.toArray⟩:=fun z=>by
       injection z with z
       exact hxy (by simpa using congrArg Array.toList z)
      rw[decide_eq_false hxy]
      exact (beq_eq_false_iff_ne.mpr this).symm
    rw[e]
    exact ⟨EqAt.str_str _ t _ t',RcAt.str_str _ t _ t',RcNeAt.str_str _ t _ t'⟩
end
noncomputable def cK:Co->CmpOp
 | .eq=>.Eq | .ne=>.NotEq | .lt=>.Lt | .le=>.LtE | .gt=>.Gt | .ge=>.GtE | .isN=>.Is | .notN=>.IsNot | .isin=>.In | .notin=>.NotIn
def rC (K:PySem.W.Frag)(op:Co):R2:=fun x y H Q=>∃as m w w',Sim K as m H/\Rep K as H w x/\Rep K as H w' y/\Post K as H Q (cop op w w' m)
section
variable {X:Cx}
theorem vC {K:PySem.W.Frag}{as:List Addr}{H:Hp}{m:Me}{Q:VK}{o:Option Bool}(S:Sim K as m H)(h:Post K as H Q (ofB o m)):∃b,o=some b/\Q (.bl b) H:=by
 cases o with
 | none=>exact h.elim
 | some b=>exact ⟨b,rfl,h.ok S (rep_bl.mpr rfl)⟩
theorem q8 {p:Wd->Wd->Option Bool}{x:Wd}:∀ {ys:List Wd}{r:Bool},inL p x ys=some r ->
  ∃f:Wd->Bool,(∀y∈ys,p y x=some (f y))/\r=ys.any f
 | [],r,h=>by cases h;exact ⟨fun _=>false,fun y hy=>by simp at hy,rfl⟩
 | y::ys,r,h=>by
  unfold inL at h
  cases hp:p y x with
  | none=>rw[hp] at h;cases h
  | some b =>
   rw[hp] at h
   simp only[] at h
   cases hr:inL p x ys with
   | none=>rw[hr] at h;cases h
   | some r' =>
    rw[hr] at h
    cases h
    obtain ⟨f,hf,rfl⟩:=q8 hr
    classical
    refine ⟨fun z=>(p z x).getD false,fun z hz=>?_,?_⟩
    .rcases List.mem_cons.mp hz with rfl | hz
     .simp only[hp,Option.getD_some]
     .simp only[hf z hz,Option.getD_some]
    .rw[List.any_cons,hp]
     congr 1
     refine Bool.eq_iff_iff.mpr ?_
     rw[List.any_eq_true,List.any_eq_true]
     constructor
     .rintro ⟨z,hz,e⟩
      exact ⟨z,hz,by rw[hf z hz];exact e⟩
     .rintro ⟨z,hz,e⟩
      rw[hf z hz] at e
      exact ⟨z,hz,e⟩
theorem wg {pins:List (Addr×Obj)}{σ:St}{s:Shared}{as:List Addr}{H:Hp}{m:Me}{A:Around}(I:Inv X pins σ H s)(S:Sim X.K as m H)(hu:A.units+zW < cLine){w:Wd}{v:V}{u:Value}{ys:List Wd}{vs:List V}{its:List Value}{r:Bool}
  (R:Rep X.K as H w v) (ru:RelV v u) (ry:RepL X.K as H ys vs) (rv:Vals vs its) (h:inL (eqW m zW) w ys=some r) :
  ∃e:Value->Bool,(∀y,y∈its.toArray->EqAt A s y u (e y))/\its.toArray.any e=r:=by
 obtain ⟨f,hf,rfl⟩:=q8 h
 classical
 -- the plain value of an item
 have pick:∀y,y∈its->∃z,z∈ys/\∃vz,Rep X.K as H z vz/\RelV vz y:=fun y hy=>by
  obtain ⟨j,hj,rfl⟩:=List.mem_iff_getElem.mp hy
  have l1:=ry.length
  have l2:=rv.length
  have hj1:j < vs.length:=by lia
  obtain ⟨u1,e1,q1⟩:=rv.get (i:=j) (x:=vs[j]) (by simp[hj1])
  obtain ⟨z,e2,q2⟩:=ry.back (i:=j) (v:=vs[j]) (by simp[hj1])
  obtain ⟨_,e3⟩:=List.getElem?_eq_some_iff.mp e1
  exact ⟨z,List.mem_of_getElem? e2,vs[j],q2,by rw[e3];exact q1⟩
 let e:Value->Bool:=fun y=>if hy:y∈its then f (Classical.choose (pick y hy)) else false
 have he:∀y (hy:y∈its) z vz,z∈ys->Rep X.K as H z vz->RelV vz y->e y=f z:=fun y hy z vz hz hr hq=>by
  obtain ⟨h1,vz',h2,h3⟩:=Classical.choose_spec (pick y hy)
  have:e y=f (Classical.choose (pick y hy)):=dif_pos hy
  rw[this]
  have hv:vz'=vz:=h3.inj hq
  subst hv
  rw[we I S _ _ _ h2 hr]
 refine ⟨e,fun y hy=>?_,?_⟩
 .have hy':y∈its:=by simpa using hy
  obtain ⟨z,hz,vz,q1,q2⟩:=pick y hy'
  rw[he y hy' z vz hz q1 q2]
  exact (qZ I S zW A z w vz v y u (f z) hu (hf z hz) q1 R q2 ru).it
 .refine Bool.eq_iff_iff.mpr ?_
  rw[List.any_toArray,List.any_eq_true,List.any_eq_true]
  constructor
  .rintro ⟨y,hy,ey⟩
   obtain ⟨z,hz,vz,q1,q2⟩:=pick y hy
   rw[he y hy z vz hz q1 q2] at ey
   exact ⟨z,hz,ey⟩
  .rintro ⟨z,hz,ez⟩
   obtain ⟨j,hj,rfl⟩:=List.mem_iff_getElem.mp hz
   obtain ⟨v1,e1,q1⟩:=ry.get (i:=j) (x:=ys[j]) (by simp[hj])
   obtain ⟨u1,e2,q2⟩:=rv.get e1
   have hy:u1∈its:=List.mem_of_getElem? e2
   exact ⟨u1,hy,by rw[he u1 hy ys[j] v1 (List.getElem_mem hj) q1 q2];exact ez⟩
set_option tactic.hygienic true in
theorem kC (hu:X.A.units+64 < cLine)(op:Co):OpR X (compareOp (cK op)) (rC X.K op):=by
 intro pins s σ H x y v u Q I rx ry h
 obtain ⟨as,m,w,w',S,R,R',q⟩:=h
 have hd:zW=12:=rfl
 have fin:∀ {b:Bool},Q (.bl b) H->EP X pins σ Q (.bool b) s:=fun {b} q=>⟨.bl b,H,I,rfl,q⟩
 have cmpI:∀ {r:Int->Int->Bool},Post X.K as H Q (vu r w w' m)->∃i j,x=.int i/\y=.int j/\Q (.bl (r i j)) H:=fun {r} q=>by
  unfold vu at q
  cases w with
  | int i =>
   cases w' with
   | int j=>exact ⟨i,j,rep_int.mp R,rep_int.mp R',q.ok S (rep_bl.mpr rfl)⟩
   | _=>exact q.elim
  | _=>exact q.elim
 cases op with
 | eq =>
  obtain ⟨b,hb,q⟩:=vC S q
  exact (qZ I S zW X.A w w' x y v u b (by lia) hb R R' rx ry).eq X.prog X.w X.xe _ (fin q)
 | ne =>
  obtain ⟨b,hb,q⟩:=vC S q
  obtain ⟨c,hc,rfl⟩:=Option.map_eq_some_iff.mp hb
  exact (qZ I S zW X.A w w' x y v u c (by lia) hc R R' rx ry).ne X.prog X.w X.xe _ (fin q)
 | isin =>
  simp only[cop] at q
  split at q
  .rename_i ys hs
   obtain ⟨b,hb,q⟩:=vC S q
   obtain ⟨p,vs,rfl,hq,r⟩:=vB S R' hs
   obtain rfl:u=.ref p:=ry
   rcases hq with hq | hq
   .obtain ⟨its,rv,pl,_⟩:=I.list hq
    obtain ⟨e,he,rfl⟩:=wg (A:=X.A.in1) I S (by show X.A.units+1+zW < cLine;lia) R rx r rv hb
    exact in_listAt e pl.isList he (fin q)
   .obtain ⟨its,rv,pl,_⟩:=I.tuple hq
    obtain ⟨e,he,rfl⟩:=wg (A:=X.A.in1) I S (by show X.A.units+1+zW < cLine;lia) R rx r rv hb
    exact in_tupleAt e (show s.heap.IsTuple p its.toArray from pl) he (fin q)
  .exact q.elim
 | notin =>
  simp only[cop] at q
  split at q
  .rename_i ys hs
   obtain ⟨b,hb,q⟩:=vC S q
   obtain ⟨c,hc,rfl⟩:=Option.map_eq_some_iff.mp hb
   obtain ⟨p,vs,rfl,hq,r⟩:=vB S R' hs
   obtain rfl:u=.ref p:=ry
   rcases hq with hq | hq
   .obtain ⟨its,rv,pl,_⟩:=I.list hq
    obtain ⟨e,he,rfl⟩:=wg (A:=X.A.in1) I S (by show X.A.units+1+zW < cLine;lia) R rx r rv hc
    exact notIn_listAt e pl.isList he (fin q)
   .obtain ⟨its,rv,pl,_⟩:=I.tuple hq
    obtain ⟨e,he,rfl⟩:=wg (A:=X.A.in1) I S (by show X.A.units+1+zW < cLine;lia) R rx r rv hc
    exact notIn_tupleAt e (show s.heap.IsTuple p its.toArray from pl) he (fin q)
  .exact q.elim
 | isN =>
  refine zfa pins s σ H x y v u Q I rx ry ?_
  simp only[cop] at q
  split at q
  .exact ⟨rep_non.mp R',by rw[rep_non.mp R];exact q.ok S (rep_bl.mpr rfl)⟩
  .rename_i hne
   refine ⟨rep_non.mp R',?_⟩
   have:x≠.non:=fun z=>by
    subst z
    exact hne (we I S _ _ _ R (rep_non.mpr rfl))
   rw[decide_eq_false this]
   exact q.ok S (rep_bl.mpr rfl)
  .exact q.elim
 | notN =>
  refine zdd pins s σ H x y v u Q I rx ry ?_
  simp only[cop] at q
  split at q
  .exact ⟨rep_non.mp R',by rw[rep_non.mp R];exact q.ok S (rep_bl.mpr rfl)⟩
  .rename_i hne
   refine ⟨rep_non.mp R',?_⟩
   have:x≠.non:=fun z=>by
    subst z
    exact hne (we I S _ _ _ R (rep_non.mpr rfl))
   rw[decide_eq_false this]
   exact q.ok S (rep_bl.mpr rfl)
  .exact q.elim
 | lt=>exact zgA pins s σ H x y v u Q I rx ry (cmpI q)
 | le=>exact zgB pins s σ H x y v u Q I rx ry (cmpI q)
 | gt=>exact zgC pins s σ H x y v u Q I rx ry (cmpI (r:=fun i j=>decide (j < i)) q)
 | ge=>exact zgD pins s σ H x y v u Q I rx ry (cmpI (r:=fun i j=>decide (j<=i)) q)
end
end Mini
namespace L2
open PySem PySem.Spec PyProof.Rows
section
open PySem.SeqAt
open PySem.AutoSeq1 (wpAny_loadPart')
open PySem.MeetsSeq PySem.MeetsSeq2 PySem.MeetsSeq3
noncomputable def ltF (f g:Nat->Bool):Nat->Nat->Bool
 | _,0=>false
 | i,k+1=>if f i then ltF f g (i+1) k else g i
def RcLt (A:Around)(s:Shared)(x y:Value)(b:Bool):Prop:=∀ (prog:Program) (w:World) (E Q:Value->Shared->Prop),Q (.bool b) s->wpAny (model prog w) A (richCompare .Lt x y) Q E s
def wl (A:Around)(s:Shared)(items items2:Array Value)(f g:Nat->Bool):Prop:=∀ (j:Nat) (v u:Value),items[j]?=some v->items2[j]?=some u->EqAt A.in1 s v u (f j)/\RcLt A.in1 s v u (g j)
theorem zbW (l b:Addr)(items items2:Array Value)(n n2:Nat)(dd dd2:Option Addr)(sl sl2:Array (Option Value))(hsz:items.size=items2.size)(f g':Nat->Bool)(k:Nat):
  ∀i:Nat,items.size - i=k->Meets (Builtin.«list.__eq__.loop» ⟨[.ref l,.ref b,rawInt i,rawInt 0],[]⟩)
   (fun A R s=>s.heap.get? l=some { cls:=.type "list",dict:=dd,data:=.seq items n,slots:=sl }/\s.heap.get? b=some { cls:=.type "list",dict:=dd2,data:=.seq items2 n2,slots:=sl2 }/\wl A s items items2 f g' /\
    R (.ok (.ret (.bool (ltF f g' i k)))) s):=by
 induction k with
 | zero =>
  intro i hk prog w A R s h
  obtain ⟨hp,g,d,tk,os⟩:=s;obtain ⟨hl,hb,_,h⟩:=h
  wp_walk using wpAny_loadPart' hl,wpAny_loadPart' hb
  have hi1:items[((i:Nat):Int).toNat]?=none:=by simp;lia
  have hi2:items2[((i:Nat):Int).toNat]?=none:=by simp;lia
  rw[hi1,hi2]
  wp_walk using wpAny_loadPart' hl,wpAny_loadPart' hb
  show R (.ok (.ret (.bool (decide (items.size < items2.size))))) _
  rw[decide_eq_false (by lia)]
  exact h
 | succ k ih =>
  intro i hk prog w A R s h
  obtain ⟨hp,g,d,tk,os⟩:=s;obtain ⟨hl,hb,hI,h⟩:=h
  wp_walk using wpAny_loadPart' hl,wpAny_loadPart' hb
  have hlt:i < items.size:=by lia
  have hlt2:i < items2.size:=by lia
  have hi1:items[((i:Nat):Int).toNat]?=some items[i]:=by simp[hlt]
  have hi2:items2[((i:Nat):Int).toNat]?=some items2[i]:=by simp[hlt2]
  have hc:((i:Int)+1)=((i+1:Nat):Int):=by push_cast;rfl
  obtain ⟨he,hg⟩:=hI i items[i] items2[i] (by simp[hlt]) (by simp[hlt2])
  replace h:R (.ok (.ret (.bool (if f i then ltF f g' (i+1) k else g' i)))) _:=h
  rw[hi1,hi2]
  refine wpAny_bind (he prog w _ _ ?_)
  cases e:f i with
  | true =>
   rw[e,if_pos rfl] at h
   wp_walk
   rw[hc]
   exact ⟨plainId_quiet plain_eq_loop _,codeAny_builtin entry_eq_loop (by
    rw[Around.under_plainId plain_eq_loop _]
    exact ih (i+1) (by lia) prog w A R _ ⟨hl,hb,hI,h⟩)⟩
  | false =>
   rw[e,if_neg Bool.false_ne_true] at h
   wp_walk using wpAny_loadPart' hl,wpAny_loadPart' hb
   rw[hi1,hi2]
   have hri:=hg prog w
   wp_walk using hri
   exact h
theorem xO (l b:Addr)(items items2:Array Value)(n n2:Nat)(dd dd2:Option Addr)(sl sl2:Array (Option Value))(hsz:items.size=items2.size)(f g':Nat->Bool):
  Meets (Builtin.«list.__lt__» ⟨[.ref l,.ref b],[]⟩)
   (fun A R s=>s.heap.get? l=some { cls:=.type "list",dict:=dd,data:=.seq items n,slots:=sl }/\s.heap.get? b=some { cls:=.type "list",dict:=dd2,data:=.seq items2 n2,slots:=sl2 }/\wl A s items items2 f g' /\
    R (.ok (.ret (.bool (ltF f g' 0 items.size)))) s):=by
 intro prog w A R s h
 obtain ⟨hp,g,d,tk,os⟩:=s;obtain ⟨hl,hb,h⟩:=h
 have f3:=AutoSeq1.sub_list_list
 wp_walk using wpAny_loadPart' hl,wpAny_loadPart' hb
 exact ⟨plainId_quiet plain_eq_loop _,codeAny_builtin entry_eq_loop (by
  rw[Around.under_plainId plain_eq_loop _]
  exact zbW l b items items2 n n2 dd dd2 sl sl2 hsz f g' _ 0 rfl prog w A R _ ⟨hl,hb,h⟩)⟩
def LtAt (A:Around)(s:Shared)(x y:Value)(b:Bool):Prop :=
 ∀ (prog:Program) (w:World) (E:Value->Shared->Prop) (Q:Bool->Shared->Prop),Q b s->wpAny (model prog w) A (oneLt' true x y) Q E s
theorem LtAt.items {A:Around}{s:Shared}{l b:Addr}{items items2:Array Value}{f g:Nat->Bool}(hl:s.heap.IsList l items)(hb:s.heap.IsList b items2)(hsz:items.size=items2.size)(hu:A.units < cLine)(hI:wl A s items items2 f g):
  LtAt A s (.ref l) (.ref b) (ltF f g 0 items.size):=fun prog w E Q h=>by
 obtain ⟨⟨cls,dd,data,sl⟩,ho,hc,n,hd⟩:=id hl
 obtain ⟨⟨cls2,dd2,data2,sl2⟩,ho2,hc2,n2,hd2⟩:=id hb
 simp only at hc hd hc2 hd2
 subst hc hd hc2 hd2
 rw[oneLt'_eq]
 simp only[if_true]
 refine wpAny_bind (wpAny_cRoomFor hu ?_)
 refine wpAny_bind (wpAny_callSpecialIfBound?_slot (T := "list") ⟨_,ho,rfl⟩ PySem.F.slot_list_lt (call_meets PySem.F.slot_list_lt ⟨_,ho,rfl⟩ PySem.F.entry_list_lt (PySem.F.args_list_lt_2 _ _) (xO l b items items2 n n2 dd dd2 sl sl2 hsz f g) ⟨ho,ho2,hI,?_⟩))
 exact wpAny_truthy_bool h
theorem RcLt.items {A:Around}{s:Shared}{l b:Addr}{items items2:Array Value}{f g:Nat->Bool}(hl:s.heap.IsList l items)(hb:s.heap.IsList b items2)(hsz:items.size=items2.size)(hu:A.units < cLine)(hI:wl A s items items2 f g):
  RcLt A s (.ref l) (.ref b) (ltF f g 0 items.size):=fun prog w E Q h=>by
 obtain ⟨⟨cls,dd,data,sl⟩,ho,hc,n,hd⟩:=id hl
 obtain ⟨⟨cls2,dd2,data2,sl2⟩,ho2,hc2,n2,hd2⟩:=id hb
 simp only at hc hd hc2 hd2
 subst hc hd hc2 hd2
 exact richCompare_meets_room (op:=.Lt) ⟨_,ho,rfl⟩ ⟨_,ho2,rfl⟩ PySem.F.slot_list_lt PySem.F.entry_list_lt (PySem.F.args_list_lt_2 _ _) (xO l b items items2 n n2 dd dd2 sl sl2 hsz f g)
  ⟨ho,ho2,hI,show Value.bool (ltF f g 0 items.size)≠Value.notImplemented/\Q (.bool (ltF f g 0 items.size)) s from ⟨(fun x=>nomatch x),h⟩⟩ hu
theorem q9 (x y:Nat->Int):∀ (k i:Nat),ltF (fun j=>decide (x j=y j)) (fun j=>decide (x j < y j)) i k=HT.lexLt ((List.range' i k).map x) ((List.range' i k).map y)
 | 0,_=>rfl
 | k+1,i=>by
  rw[List.range'_succ,List.map_cons,List.map_cons,HT.lexLt_cons]
  show (if decide (x i=y i) then _ else _)=_
  rw[q9 x y k (i+1)]
  by_cases e:x i=y i
  .rw[if_pos (decide_eq_true e),if_pos e]
  .rw[if_neg (by simp[e]),if_neg e]
theorem zaa:∀ {a b c d:List Int},a.length=b.length->HT.lexLt (a++c) (b++d)=if a=b then HT.lexLt c d else HT.lexLt a b
 | [],[],c,d,_=>by simp
 | [],_::_,_,_,h=>by cases h
 | _::_,[],_,_,h=>by cases h
 | x::xs,y::ys,c,d,h=>by
  rw[List.cons_append,List.cons_append,HT.lexLt_cons,zaa (Nat.succ.inj h)]
  by_cases e:x=y
  .subst e
   by_cases e2:xs=ys
   .subst e2;simp
   .simp[e2,HT.lexLt_cons]
  .simp[e,HT.lexLt_cons]
def IntsAt (its:Array Value)(k:List Int):Prop:=its.size=k.length/\∀ (j:Nat) (v:Value),its[j]?=some v->∃t,v=.int (k.getD j 0) t
theorem jZ (k:List Int)(n:Nat)(h:n=k.length):(List.range' 0 n).map (fun j=>k.getD j 0)=k:=by
 subst h
 apply List.ext_getElem?
 intro i
 by_cases hi:i < k.length
 .simp[hi,List.getElem?_range']
 .simp[hi]
theorem IntsAt.lt {A:Around}{s:Shared}{i1 i2:Array Value}{k1 k2:List Int}(h1:IntsAt i1 k1)(h2:IntsAt i2 k2):wl A s i1 i2 (fun j=>decide (k1.getD j 0=k2.getD j 0)) (fun j=>decide (k1.getD j 0 < k2.getD j 0)):=by
 intro j v u hv hu
 obtain ⟨t,rfl⟩:=h1.2 j v hv
 obtain ⟨t',rfl⟩:=h2.2 j u hu
 exact ⟨EqAt.int_int _ t _ t',fun prog w E Q h=>HT.rcLt_int A.in1 s _ t _ t' prog w E Q h⟩
theorem IntsAt.lex {i1 i2:Array Value}{k1 k2:List Int}(h1:IntsAt i1 k1)(hl:k1.length=k2.length):ltF (fun j=>decide (k1.getD j 0=k2.getD j 0)) (fun j=>decide (k1.getD j 0 < k2.getD j 0)) 0 i1.size=HT.lexLt k1 k2:=by
 rw[q9,jZ k1 _ h1.1,jZ k2 _ (h1.1.trans hl)]
theorem IntsAt.det {its:Array Value}{k1 k2:List Int}(h1:IntsAt its k1)(h2:IntsAt its k2):k1=k2:=by
 apply List.ext_getElem (h1.1.symm.trans h2.1)
 intro i a1 a2
 have q:i < its.size:=by rw[h1.1];exact a1
 obtain ⟨t,e1⟩:=h1.2 i its[i] (by simp[q])
 obtain ⟨t',e2⟩:=h2.2 i its[i] (by simp[q])
 rw[e1] at e2
 have:=(Value.int.inj e2).1
 simpa [a1,a2] using this
theorem vD {s:Shared}{l:Addr}{i1 i2:Array Value}(hl:s.heap.IsList l i1)(hb:s.heap.IsList l i2):i1=i2:=by
 obtain ⟨o,ho,_,n,hd⟩:=hl
 obtain ⟨o',ho',_,n',hd'⟩:=hb
 rw[ho] at ho';cases ho'
 rw[hd] at hd';cases hd';rfl
theorem IntsAt.eq {A:Around}{s:Shared}{i1 i2:Array Value}{k1 k2:List Int}{l b:Addr}(hl:s.heap.IsList l i1)(hb:s.heap.IsList b i2)(h1:IntsAt i1 k1)(h2:IntsAt i2 k2)(hk:k1.length=k2.length)(hu:A.units < cLine):EqAt A s (.ref l) (.ref b) (decide (k1=k2)):=by
 have hall:(List.range i1.size).all (fun j=>decide (k1.getD j 0=k2.getD j 0))=decide (k1=k2):=by
  rw[Bool.eq_iff_iff,List.all_eq_true,decide_eq_true_eq]
  constructor
  .intro h
   apply List.ext_getElem hk
   intro i a1 a2
   have:=of_decide_eq_true (h i (List.mem_range.mpr (by rw[h1.1];exact a1)))
   simpa [a1,a2] using this
  .rintro rfl j _;simp
 by_cases e:l=b
 .subst e
  obtain rfl:=vD hl hb
  have:k1=k2:=h1.det h2
  rw[decide_eq_true this]
  exact EqAt.same _
 .rw[<- hall]
  exact EqAt.of_refs e (RcAt.lists hl hb (by rw[h1.1,h2.1,hk]) hu fun j q1 q2=>(IntsAt.lt (A:=A) h1 h2 j _ _ (by simp[q1]) (by simp[q2])).1)
def KeyV (s:Shared)(c:Int)(n:Nat)(v:Value)(k:List Int):Prop :=
 ∃ (l:Addr) (its:Array Value),v=.ref l/\s.heap.IsList l its/\k.length=n /\
  ((c=0/\IntsAt its k)\/∃kk:List (List Int),2<=c/\k=kk.flatten/\its.size=kk.length/\∀ (j:Nat) (u:Value) (q:List Int),its[j]?=some u->kk[j]?=some q->(q.length:Int)+1=c/\∃r ri,u=.ref r/\s.heap.IsList r ri/\IntsAt ri q)
theorem KeyV.det {s:Shared}{c:Int}{n:Nat}{v:Value}{k k':List Int}(h:KeyV s c n v k)(h':KeyV s c n v k'):k=k':=by
 obtain ⟨l,its,rfl,hl,hn,h⟩:=h
 obtain ⟨l',its',e,hl',hn',h'⟩:=h'
 cases e
 obtain rfl:=vD hl hl'
 rcases h with ⟨rfl,h⟩ | ⟨kk,hc,rfl,hz,h⟩
 .rcases h' with ⟨_,h'⟩ | ⟨_,hc,_⟩
  .exact h.det h'
  .lia
 .rcases h' with ⟨hc',_⟩ | ⟨kk',_,rfl,hz',h'⟩
  .lia
  .congr 1
   apply List.ext_getElem (hz.symm.trans hz')
   intro i a1 a2
   have q:i < its.size:=by rw[hz];exact a1
   obtain ⟨_,r,ri,e1,b1,c1⟩:=h i its[i] kk[i] (by simp[q]) (by simp[a1])
   obtain ⟨_,r',ri',e2,b2,c2⟩:=h' i its[i] kk'[i] (by simp[q]) (by simp[a2])
   rw[e1] at e2
   cases e2
   obtain rfl:=vD b1 b2
   exact c1.det c2
theorem vE {c:Nat}:∀ {kk:List (List Int)},(∀q∈kk,q.length=c)->kk.flatten.length=kk.length * c
 | [],_=>by simp
 | q::r,h=>by
  rw[List.flatten_cons,List.length_append,vE fun x hx=>h x (List.mem_cons_of_mem _ hx),h q (by simp),List.length_cons,Nat.succ_mul]
  lia
theorem j0 {a b:List (List Int)}{c:Nat}(ha:∀q∈a,q.length=c)(hb:∀q∈b,q.length=c)(hl:a.length=b.length):∀ (k i:Nat),k+i=a.length ->
  ltF (fun j=>decide (a.getD j []=b.getD j [])) (fun j=>HT.lexLt (a.getD j []) (b.getD j [])) i k=HT.lexLt (a.drop i).flatten (b.drop i).flatten
 | 0,i,h=>by
  rw[List.drop_eq_nil_of_le (by lia),List.drop_eq_nil_of_le (by lia)];rfl
 | k+1,i,h=>by
  have h1:i < a.length:=by lia
  have h2:i < b.length:=by lia
  rw[List.drop_eq_getElem_cons h1,List.drop_eq_getElem_cons h2,List.flatten_cons,List.flatten_cons,zaa ((ha _ (by simp)).trans (hb _ (by simp)).symm),<- j0 ha hb hl k (i+1) (by lia)]
  show (if decide (a.getD i []=b.getD i []) then _ else _)=_
  have e1:a.getD i []=a[i]:=by simp[h1]
  have e2:b.getD i []=b[i]:=by simp[h2]
  rw[e1,e2]
  by_cases e:a[i]=b[i]
  .rw[if_pos (decide_eq_true e),if_pos e]
  .rw[if_neg (by simp[e]),if_neg e]
   show HT.lexLt (a.getD i []) (b.getD i [])=_
   rw[e1,e2]
theorem KeyV.lt {A:Around}{s:Shared}{c:Int}{n:Nat}{v u:Value}{k k':List Int}(hu:A.units+2 < cLine)(h:KeyV s c n v k)(h':KeyV s c n u k'):LtAt A s v u (HT.lexLt k k'):=by
 obtain ⟨l,its,rfl,hl,hn,h⟩:=h
 obtain ⟨l',its',rfl,hl',hn',h'⟩:=h'
 have hk:k.length=k'.length:=hn.trans hn'.symm
 rcases h with ⟨rfl,h⟩ | ⟨kk,hc,rfl,hz,h⟩
 .rcases h' with ⟨_,h'⟩ | ⟨_,hc,_⟩
  .rw[<- h.lex (i2:=its') hk]
   exact LtAt.items hl hl' (by rw[h.1,h'.1,hk]) (by lia) (h.lt h')
  .lia
 .rcases h' with ⟨hc',_⟩ | ⟨kk',_,rfl,hz',h'⟩
  .lia
  .have e1:∀q∈kk,q.length=(c - 1).toNat:=fun q hq=>by
    obtain ⟨i,hi⟩:=List.getElem?_of_mem hq
    have z:i < its.size:=by rw[hz];exact (List.getElem?_eq_some_iff.mp hi).1
    have:=(h i its[i] q (by simp[z]) hi).1
    lia
   have e2:∀q∈kk',q.length=(c - 1).toNat:=fun q hq=>by
    obtain ⟨i,hi⟩:=List.getElem?_of_mem hq
    have z:i < its'.size:=by rw[hz'];exact (List.getElem?_eq_some_iff.mp hi).1
    have:=(h' i its'[i] q (by simp[z]) hi).1
    lia
   have e3:kk.length=kk'.length:=by
    rw[vE e1,vE e2] at hk
    exact Nat.eq_of_mul_eq_mul_right (by lia) hk
   have e4:=j0 e1 e2 e3 its.size 0 (by lia)
   rw[List.drop_zero,List.drop_zero] at e4
   rw[<- e4]
   refine LtAt.items hl hl' (by lia) (by lia) fun j v u hv hu'=>?_
   have q1:j < its.size:=(Array.getElem?_eq_some_iff.mp hv).1
   have q2:j < its'.size:=(Array.getElem?_eq_some_iff.mp hu').1
   have g1:kk[j]?=some (kk.getD j []):=by simp[show j < kk.length by lia]
   have g2:kk'[j]?=some (kk'.getD j []):=by simp[show j < kk'.length by lia]
   obtain ⟨l1,r,ri,rfl,b1,c1⟩:=h j v _ hv g1
   obtain ⟨l2,r',ri',rfl,b2,c2⟩:=h' j u _ hu' g2
   have l3:(kk.getD j []).length=(kk'.getD j []).length:=by lia
   refine ⟨IntsAt.eq b1 b2 c1 c2 l3 (by show A.units+1 < cLine;lia),?_⟩
   rw[<- c1.lex (i2:=ri') l3]
   exact RcLt.items b1 b2 (by rw[c1.1,c2.1,l3]) (by show A.units+1 < cLine;lia) (c1.lt c2)
end
section
theorem kD:∀ (f n r:Nat),r<=1->minRun' f n r<=n+r
 | 0,n,r,_=>Nat.le_refl _
 | f+1,n,r,h=>by
  rw[minRun'_succ]
  split
  .exact Nat.le_refl _
  .have e:=kD f (n / 2) (max r (n % 2)) (by lia)
   lia
theorem zab:∀vs:List Value,List.map (fun x:Value×Value=>x.snd) (vs.zip vs)=vs
 | []=>rfl
 | v::r=>congrArg (v::·) (zab r)
end
section
variable {prog:Program}{w:World}{A:Around}{E:Value->Shared->Prop}{s:Shared}
def Cmp (prog:Program)(w:World)(A:Around)(E:Value->Shared->Prop)(s:Shared)(O:KeyOrd)(key:Keyed->O.α)(S:Keyed->Prop):Prop :=
 ∀ (x y:Keyed) (st:SortSt) (Q:Option Bool->SortSt->Prop),S x->S y->kindOf st=oneType'->Q (some (O.blt (key x) (key y))) st->wpS (model prog w) A E s (lt' x y) Q st
variable {O:KeyOrd}{key:Keyed->O.α}{S:Keyed->Prop}
noncomputable def zdu:Bool->Keyed->Array Keyed->Nat->Nat->Nat->StateT SortSt Sem (Option Nat):=sortPriv% PySem.Builtin.gallop
theorem zg {xs:Array Keyed}{i:Nat}{x:Keyed}{st:SortSt}{Q:Keyed->SortSt->Prop}(h:xs[i]?=some x)(q:Q x st):wpS (model prog w) A E s (elem' xs i) Q st:=by
 rw[elem'_eq,h]
 exact wpS_pure q
theorem zN (C:Cmp prog w A E s O key S){left:Bool}{k:Keyed}{xs:Array Keyed}{base n hint:Nat}{st:SortSt}{Q:Option Nat->SortSt->Prop}(hk:kindOf st=oneType')(hS:S k)(h0:hint < n)(B:Nat->Bool)
  (hB:∀i,i < n->∃x,xs[base+i]?=some x/\S x/\B i=(if left then O.blt (key x) (key k) else !O.blt (key k) (key x)))
  (mono:∀i j,i<=j->j < n->B j=true->B i=true)
  (h:∀r,r<=n->(∀i,i < r->B i=true)->(∀i,r<=i->i < n->B i=false)->Q (some r) st) :
  wpS (model prog w) A E s (zdu left k xs base n hint) Q st:=by
 have bey:∀i,i < n->∀Q:Option Bool->SortSt->Prop,Q (some (B i)) st->wpS (model prog w) A E s (do
   let x <- elem' xs (base+i)
   if left=true then lt' x k else do
    let r <- lt' k x
    pure (Option.map (fun x=>!x) r)) Q st:=by
  intro i hi Q q
  obtain ⟨x,hx,hs,e⟩:=hB i hi
  refine wpS_bind (zg hx ?_)
  cases left with
  | true =>
   rw[if_pos rfl]
   refine C x k st _ hs hS hk ?_
   rw[if_pos rfl] at e
   rw[<- e];exact q
  | false =>
   rw[if_neg (by simp)]
   refine wpS_bind (C k x st _ hS hs hk (wpS_pure ?_))
   rw[if_neg (by simp)] at e
   rw[Option.map_some,<- e];exact q
 have anti:∀i j,i<=j->j < n->B i=false->B j=false:=fun i j h1 h2 h3=>by
  cases z:B j
  .rfl
  .rw[mono i j h1 h2 z] at h3;cases h3
 refine wpS_bind (bey hint h0 _ ?_)
 dsimp only
 cases hr:B hint with
 | true =>
  rw[if_pos rfl]
  refine wpS_bind (wpS_mono (wpS_forRange (I:=fun x c st'=>st=st'/\∃last ofs,c=(none,last,ofs)/\last < ofs/\x+1<=ofs/\hint+last < n/\B (hint+last)=true)
   (Q:=fun c st'=>st=st'/\∃last ofs,c=(none,last,ofs)/\last < ofs/\hint+last < n/\B (hint+last)=true/\(n - hint<=ofs\/(hint+ofs < n/\B (hint+ofs)=false))) ?s1 ?f1 ⟨rfl,0,1,rfl,by lia,by lia,h0,hr⟩) ?p1)
  case f1 =>
   rintro c st' ⟨rfl,last,ofs,rfl,a1,a2,a3,a4⟩
   exact ⟨rfl,last,ofs,rfl,a1,a3,a4,.inl (by lia)⟩
  case s1 =>
   rintro x c st' _ hx ⟨rfl,last,ofs,rfl,a1,a2,a3,a4⟩
   dsimp only
   by_cases c1:ofs ≥ n - hint
   .rw[if_pos c1]
    exact wpS_pure ⟨rfl,last,ofs,rfl,a1,a3,a4,.inl c1⟩
   .rw[if_neg c1]
    refine wpS_bind (bey (hint+ofs) (by lia) _ ?_)
    dsimp only
    cases hm:B (hint+ofs) with
    | false =>
     rw[if_pos (show (!false)=true from rfl)]
     exact wpS_pure ⟨rfl,last,ofs,rfl,a1,a3,a4,.inr ⟨by lia,hm⟩⟩
    | true =>
     rw[if_neg (show ¬(!true)=true by decide)]
     exact wpS_pure ⟨rfl,ofs,2 * ofs+1,rfl,by lia,by lia,by lia,hm⟩
  case p1 =>
   rintro c st' ⟨rfl,last,ofs,rfl,a1,a3,a4,a5⟩
   dsimp only
   refine wpS_bind (wpS_mono (wpS_forRange (I:=fun x c st'=>st=st'/\∃lo hi,c=(none,lo,hi)/\lo<=hi/\hi<=n/\hi - lo<=n - x/\(∀i,i < lo->B i=true)/\(∀i,hi<=i->i < n->B i=false))
    (Q:=fun c st'=>st=st'/\∃hi,c=(none,hi,hi)/\hi<=n/\(∀i,i < hi->B i=true)/\(∀i,hi<=i->i < n->B i=false)) ?s2 ?f2 ⟨rfl,_,_,rfl,by lia,by lia,by lia,fun i hi=>mono i (hint+last) (by lia) a3 a4,fun i h1 h2=>?g2⟩) ?p2)
   case g2 =>
    rcases a5 with a5 | ⟨a5,a6⟩
    .lia
    .exact anti (hint+ofs) i (by lia) h2 a6
   case f2 =>
    rintro c st' ⟨rfl,lo,hi,rfl,b1,b2,b3,b4,b5⟩
    have:lo=hi:=by lia
    subst this
    exact ⟨rfl,lo,rfl,b2,b4,b5⟩
   case s2 =>
    rintro x c st' _ hx ⟨rfl,lo,hi,rfl,b1,b2,b3,b4,b5⟩
    dsimp only
    by_cases c1:lo ≥ hi
    .rw[if_pos c1]
     have:lo=hi:=by lia
     subst this
     exact wpS_pure ⟨rfl,lo,rfl,b2,b4,b5⟩
    .rw[if_neg c1]
     refine wpS_bind (bey (lo+(hi - lo) / 2) (by lia) _ ?_)
     dsimp only
     cases hm:B (lo+(hi - lo) / 2) with
     | false =>
      rw[if_neg (by simp)]
      exact wpS_pure ⟨rfl,lo,lo+(hi - lo) / 2,rfl,by lia,by lia,by lia,b4,fun i h1 h2=>anti _ i h1 h2 hm⟩
     | true =>
      rw[if_pos rfl]
      exact wpS_pure ⟨rfl,lo+(hi - lo) / 2+1,hi,rfl,by lia,by lia,by lia,fun i h1=>mono i _ (by lia) (by lia) hm,b5⟩
   case p2 =>
    rintro c st' ⟨rfl,hi,rfl,b2,b4,b5⟩
    dsimp only
    exact wpS_pure (h hi b2 b4 b5)
 | false =>
  rw[if_neg (by simp)]
  refine wpS_bind (wpS_mono (wpS_forRange (I:=fun x c st'=>st=st'/\∃last ofs,c=(none,last,ofs)/\last < ofs/\x+1<=ofs/\last<=hint/\B (hint - last)=false)
   (Q:=fun c st'=>st=st'/\∃last ofs,c=(none,last,ofs)/\last < ofs/\last<=hint/\B (hint - last)=false/\(hint+1<=ofs\/(ofs<=hint/\B (hint - ofs)=true))) ?s3 ?f3 ⟨rfl,0,1,rfl,by lia,by lia,by lia,hr⟩) ?p3)
  case f3 =>
   rintro c st' ⟨rfl,last,ofs,rfl,a1,a2,a3,a4⟩
   exact ⟨rfl,last,ofs,rfl,a1,a3,a4,.inl (by lia)⟩
  case s3 =>
   rintro x c st' _ hx ⟨rfl,last,ofs,rfl,a1,a2,a3,a4⟩
   dsimp only
   by_cases c1:ofs ≥ hint+1
   .rw[if_pos c1]
    exact wpS_pure ⟨rfl,last,ofs,rfl,a1,a3,a4,.inl c1⟩
   .rw[if_neg c1]
    refine wpS_bind (bey (hint - ofs) (by lia) _ ?_)
    dsimp only
    cases hm:B (hint - ofs) with
    | true =>
     rw[if_pos rfl]
     exact wpS_pure ⟨rfl,last,ofs,rfl,a1,a3,a4,.inr ⟨by lia,hm⟩⟩
    | false =>
     rw[if_neg (by simp)]
     exact wpS_pure ⟨rfl,ofs,2 * ofs+1,rfl,by lia,by lia,by lia,hm⟩
  case p3 =>
   rintro c st' ⟨rfl,last,ofs,rfl,a1,a3,a4,a5⟩
   dsimp only
   refine wpS_bind (wpS_mono (wpS_forRange (I:=fun x c st'=>st=st'/\∃lo hi,c=(none,lo,hi)/\lo<=hi/\hi<=n/\hi - lo<=n - x/\(∀i,i < lo->B i=true)/\(∀i,hi<=i->i < n->B i=false))
    (Q:=fun c st'=>st=st'/\∃hi,c=(none,hi,hi)/\hi<=n/\(∀i,i < hi->B i=true)/\(∀i,hi<=i->i < n->B i=false)) ?s4 ?f4 ⟨rfl,_,_,rfl,by lia,by lia,by lia,fun i hi=>?g4,fun i h1 h2=>anti _ i h1 h2 a4⟩) ?p4)
   case g4 =>
    rcases a5 with a5 | ⟨a5,a6⟩
    .lia
    .exact mono i (hint - ofs) (by lia) (by lia) a6
   case f4 =>
    rintro c st' ⟨rfl,lo,hi,rfl,b1,b2,b3,b4,b5⟩
    have:lo=hi:=by lia
    subst this
    exact ⟨rfl,lo,rfl,b2,b4,b5⟩
   case s4 =>
    rintro x c st' _ hx ⟨rfl,lo,hi,rfl,b1,b2,b3,b4,b5⟩
    dsimp only
    by_cases c1:lo ≥ hi
    .rw[if_pos c1]
     have:lo=hi:=by lia
     subst this
     exact wpS_pure ⟨rfl,lo,rfl,b2,b4,b5⟩
    .rw[if_neg c1]
     refine wpS_bind (bey (lo+(hi - lo) / 2) (by lia) _ ?_)
     dsimp only
     cases hm:B (lo+(hi - lo) / 2) with
     | false =>
      rw[if_neg (by simp)]
      exact wpS_pure ⟨rfl,lo,lo+(hi - lo) / 2,rfl,by lia,by lia,by lia,b4,fun i h1 h2=>anti _ i h1 h2 hm⟩
     | true =>
      rw[if_pos rfl]
      exact wpS_pure ⟨rfl,lo+(hi - lo) / 2+1,hi,rfl,by lia,by lia,by lia,fun i h1=>mono i _ (by lia) (by lia) hm,b5⟩
   case p4 =>
    rintro c st' ⟨rfl,hi,rfl,b2,b4,b5⟩
    dsimp only
    exact wpS_pure (h hi b2 b4 b5)
end
section
variable {O:KeyOrd}{key:Keyed->O.α}
def Le (O:KeyOrd)(key:Keyed->O.α)(x y:Keyed):Prop:=O.kle (key x) (key y)
def Srt (O:KeyOrd)(key:Keyed->O.α)(l:List Keyed):Prop:=l.Pairwise (Le O key)
theorem Le.trans {x y z:Keyed}(h1:Le O key x y)(h2:Le O key y z):Le O key x z:=KeyOrd.kle_trans h1 h2
theorem Srt.drop_le {l:List Keyed}(h:Srt O key l){i:Nat}{x:Keyed}(hx:l[i]?=some x):∀y∈l.drop i,Le O key x y:=by
 intro y hy
 obtain ⟨hi,rfl⟩:=List.getElem?_eq_some_iff.mp hx
 rw[List.drop_eq_getElem_cons hi] at hy
 rcases List.mem_cons.mp hy with rfl | hy
 .exact KeyOrd.kle_refl _
 .have h2:Srt O key (l.drop i):=h.sublist (List.drop_sublist i l)
  rw[List.drop_eq_getElem_cons hi] at h2
  exact (List.pairwise_cons.mp h2).1 y hy
theorem Srt.at_le {l:List Keyed}(h:Srt O key l){i j:Nat}{x y:Keyed}(hij:i<=j)(hx:l[i]?=some x)(hy:l[j]?=some y):Le O key x y:=by
 refine h.drop_le hx y ?_
 have:(l.drop i)[j - i]?=some y:=by rw[List.getElem?_drop,show i+(j - i)=j by lia];exact hy
 exact List.mem_of_getElem? this
structure MI (O:KeyOrd)(key:Keyed->O.α)(X Y:List Keyed)(ia ib:Nat)(L:List Keyed):Prop where
 ha:ia<=X.length
 hb:ib<=Y.length
 pm:L.Perm (X.take ia++Y.take ib)
 so:Srt O key L
 la:∀z∈L,∀x∈X.drop ia,Le O key z x
 lb:∀z∈L,∀y∈Y.drop ib,Le O key z y
def xr (O:KeyOrd)(key:Keyed->O.α)(X Y r:List Keyed):Prop:=Srt O key r/\r.Perm (X++Y)
variable {X Y L:List Keyed}{ia ib:Nat}
theorem zM {l r:List Keyed}(h1:Srt O key l)(h2:Srt O key r)(h:∀x∈l,∀y∈r,Le O key x y):Srt O key (l++r):=List.pairwise_append.mpr ⟨h1,h2,h⟩
theorem MI.done (M:MI O key X Y ia ib L)(hX:Srt O key X)(hY:Srt O key Y)(h:ia=X.length\/ib=Y.length):xr O key X Y (L++X.drop ia++Y.drop ib):=by
 refine ⟨?_,?_⟩
 .rcases h with rfl | rfl
  .rw[List.drop_length,List.append_nil]
   exact zM M.so (hY.sublist (List.drop_sublist _ _)) M.lb
  .rw[List.drop_length,List.append_nil]
   exact zM M.so (hX.sublist (List.drop_sublist _ _)) M.la
 .refine ((M.pm.append_right _).append_right _).trans ?_
  have e1:(X.take ia++Y.take ib++X.drop ia++Y.drop ib).Perm (X.take ia++(X.drop ia++Y.take ib)++Y.drop ib):=by
   refine List.Perm.append_right _ ?_
   rw[List.append_assoc]
   exact List.Perm.append_left _ List.perm_append_comm
  refine e1.trans ?_
  rw[<- List.append_assoc (X.take ia),List.take_append_drop,List.append_assoc,List.take_append_drop]
theorem MI.last (M:MI O key X Y ia ib L)(hX:Srt O key X)(hY:Srt O key Y)(hl:∀y∈Y,∀x,X[X.length - 1]?=some x->Le O key y x)(h:ia+1=X.length):xr O key X Y (L++Y.drop ib++X.drop ia):=by
 have e:X.drop ia=[X[ia]'(by lia)]:=by
  rw[List.drop_eq_getElem_cons (by lia),h,List.drop_length]
 refine ⟨?_,?_⟩
 .rw[List.append_assoc]
  refine zM M.so (zM (hY.sublist (List.drop_sublist _ _)) (hX.sublist (List.drop_sublist _ _)) ?_) ?_
  .intro y hy x hx
   rw[e] at hx
   rw[List.mem_singleton.mp hx]
   exact hl y (List.mem_of_mem_drop hy) _ (by rw[show X.length - 1=ia by lia];simp)
  .intro z hz y hy
   rcases List.mem_append.mp hy with hy | hy
   .exact M.lb z hz y hy
   .exact M.la z hz y hy
 .have:=M.pm
  refine ((M.pm.append_right _).append_right _).trans ?_
  have e1:(X.take ia++Y.take ib++Y.drop ib++X.drop ia).Perm (X.take ia++Y++X.drop ia):=by
   rw[List.append_assoc (X.take ia),List.take_append_drop]
  refine e1.trans ?_
  rw[List.append_assoc]
  refine (List.Perm.append_left _ List.perm_append_comm).trans ?_
  rw[<- List.append_assoc,List.take_append_drop]
theorem zO {l:List Keyed}{i:Nat}{x:Keyed}(h:l[i]?=some x):l.take (i+1)=l.take i++[x]:=by
 obtain ⟨hi,rfl⟩:=List.getElem?_eq_some_iff.mp h
 rw[List.take_succ_eq_append_getElem hi]
theorem wm {l:List Keyed}{i j:Nat}(h:i<=j){x:Keyed}(hx:x∈l.drop j):x∈l.drop i:=by
 have:l.drop j=(l.drop i).drop (j - i):=by rw[List.drop_drop];congr 1;lia
 rw[this] at hx
 exact List.mem_of_mem_drop hx
theorem MI.pushA (M:MI O key X Y ia ib L)(hX:Srt O key X){x:Keyed}(hx:X[ia]?=some x)(h:∀y∈Y.drop ib,Le O key x y):MI O key X Y (ia+1) ib (L++[x]):=by
 have hi:=(List.getElem?_eq_some_iff.mp hx).1
 have hm:x∈X.drop ia:=by
  obtain ⟨_,rfl⟩:=List.getElem?_eq_some_iff.mp hx
  rw[List.drop_eq_getElem_cons hi];exact List.mem_cons_self
 refine ⟨by lia,M.hb,?_,zM M.so (by simp[Srt]) (fun z hz y hy=>by rw[List.mem_singleton.mp hy];exact M.la z hz x hm),fun z hz y hy=>?_,fun z hz y hy=>?_⟩
 .rw[zO hx]
  refine (M.pm.append_right _).trans ?_
  rw[List.append_assoc,List.append_assoc]
  exact List.Perm.append_left _ List.perm_append_comm
 .rcases List.mem_append.mp hz with hz | hz
  .exact M.la z hz y (wm (by lia) hy)
  .rw[List.mem_singleton.mp hz]
   exact hX.drop_le hx y (wm (by lia) hy)
 .rcases List.mem_append.mp hz with hz | hz
  .exact M.lb z hz y hy
  .rw[List.mem_singleton.mp hz];exact h y hy
theorem MI.pushB (M:MI O key X Y ia ib L)(hY:Srt O key Y){y:Keyed}(hy:Y[ib]?=some y)(h:∀x∈X.drop ia,Le O key y x):MI O key X Y ia (ib+1) (L++[y]):=by
 have hi:=(List.getElem?_eq_some_iff.mp hy).1
 have hm:y∈Y.drop ib:=by
  obtain ⟨_,rfl⟩:=List.getElem?_eq_some_iff.mp hy
  rw[List.drop_eq_getElem_cons hi];exact List.mem_cons_self
 refine ⟨M.ha,by lia,?_,zM M.so (by simp[Srt]) (fun z hz x hx=>by rw[List.mem_singleton.mp hx];exact M.lb z hz y hm),fun z hz x hx=>?_,fun z hz x hx=>?_⟩
 .rw[zO hy,<- List.append_assoc]
  exact M.pm.append_right _
 .rcases List.mem_append.mp hz with hz | hz
  .exact M.la z hz x hx
  .rw[List.mem_singleton.mp hz];exact h x hx
 .rcases List.mem_append.mp hz with hz | hz
  .exact M.lb z hz x (wm (by lia) hx)
  .rw[List.mem_singleton.mp hz]
   exact hY.drop_le hy x (wm (by lia) hx)
theorem kE {l:List Keyed}{i k:Nat}{x:Keyed}(h:l[i+k]?=some x):(l.drop i).take (k+1)=(l.drop i).take k++[x]:=zO (by rw[List.getElem?_drop];exact h)
theorem MI.blockA (M:MI O key X Y ia ib L)(hX:Srt O key X):∀k,ia+k<=X.length->(∀i,i < k->∀x,X[ia+i]?=some x->∀y∈Y.drop ib,Le O key x y)->MI O key X Y (ia+k) ib (L++(X.drop ia).take k)
 | 0,_,_=>by simpa using M
 | k+1,h,hl=>by
  have q:=M.blockA hX k (by lia) fun i hi=>hl i (by lia)
  have hx:X[ia+k]?=some X[ia+k]:=by simp
  have:=q.pushA hX hx (hl k (by lia) _ hx)
  rw[kE hx,<- List.append_assoc]
  exact this
theorem MI.blockB (M:MI O key X Y ia ib L)(hY:Srt O key Y):∀k,ib+k<=Y.length->(∀i,i < k->∀y,Y[ib+i]?=some y->∀x∈X.drop ia,Le O key y x)->MI O key X Y ia (ib+k) (L++(Y.drop ib).take k)
 | 0,_,_=>by simpa using M
 | k+1,h,hl=>by
  have q:=M.blockB hY k (by lia) fun i hi=>hl i (by lia)
  have hx:Y[ib+k]?=some Y[ib+k]:=by simp
  have:=q.pushB hY hx (hl k (by lia) _ hx)
  rw[kE hx,<- List.append_assoc]
  exact this
end
section
variable {O:KeyOrd}{key:Keyed->O.α}{S:Keyed->Prop}{a b:Array Keyed}
def Eqv (st st':SortSt):Prop:=kindOf st'=kindOf st/\arrOf st'=arrOf st/\pendingOf st'=pendingOf st/\failedOf st'=failedOf st
theorem Eqv.refl (st:SortSt):Eqv st st:=⟨rfl,rfl,rfl,rfl⟩
theorem zgR (p a b:Array Keyed)(i j:Nat):(p++a.extract i++b.extract j).toList=p.toList++a.toList.drop i++b.toList.drop j:=by
 simp only[Array.toList_append,Array.toList_extract,List.extract_eq_take_drop]
 rw[List.take_of_length_le (by simp),List.take_of_length_le (by simp)]
theorem zgS (p a:Array Keyed)(i k:Nat):(p++a.extract i (i+k)).toList=p.toList++(a.toList.drop i).take k:=by
 simp only[Array.toList_append,Array.toList_extract,List.extract_eq_take_drop]
 rw[show i+k - i=k by lia]
theorem vF {ia ib:Nat}{p:Array Keyed}(M:MI O key a.toList b.toList ia ib p.toList)(hX:Srt O key a.toList)(hY:Srt O key b.toList)(h:ia=a.size\/ib=b.size):xr O key a.toList b.toList (p++a.extract ia++b.extract ib).toList:=by
 rw[zgR];exact M.done hX hY h
theorem vG {ia ib:Nat}{p:Array Keyed}(M:MI O key a.toList b.toList ia ib p.toList)(hX:Srt O key a.toList)(hY:Srt O key b.toList)(hl:∀y∈b.toList,∀x,a.toList[a.toList.length - 1]?=some x->Le O key y x)(h:ia+1=a.size):xr O key a.toList b.toList (p++b.extract ib++a.extract ia).toList:=by
 rw[zgR];exact M.last hX hY hl h
theorem vH {ia ib:Nat}{p:Array Keyed}(M:MI O key a.toList b.toList ia ib p.toList)(hX:Srt O key a.toList){x:Keyed}(hx:a[ia]?=some x)(h:∀y∈b.toList.drop ib,Le O key x y):MI O key a.toList b.toList (ia+1) ib (p.push x).toList:=by
 rw[Array.toList_push];exact M.pushA hX (by simpa using hx) h
theorem jf {ia ib:Nat}{p:Array Keyed}(M:MI O key a.toList b.toList ia ib p.toList)(hY:Srt O key b.toList){y:Keyed}(hy:b[ib]?=some y)(h:∀x∈a.toList.drop ia,Le O key y x):MI O key a.toList b.toList ia (ib+1) (p.push y).toList:=by
 rw[Array.toList_push];exact M.pushB hY (by simpa using hy) h
theorem zdv {ia ib k:Nat}{p:Array Keyed}(M:MI O key a.toList b.toList ia ib p.toList)(hX:Srt O key a.toList)(hk:ia+k<=a.size)(h:∀i,i < k->∀x,a.toList[ia+i]?=some x->∀y∈b.toList.drop ib,Le O key x y):MI O key a.toList b.toList (ia+k) ib (p++a.extract ia (ia+k)).toList:=by
 rw[zgS];exact M.blockA hX k hk h
theorem zac {ia ib k:Nat}{p:Array Keyed}(M:MI O key a.toList b.toList ia ib p.toList)(hY:Srt O key b.toList)(hk:ib+k<=b.size)(h:∀i,i < k->∀y,b.toList[ib+i]?=some y->∀x∈a.toList.drop ia,Le O key y x):MI O key a.toList b.toList ia (ib+k) (p++b.extract ib (ib+k)).toList:=by
 rw[zgS];exact M.blockB hY k hk h
variable {prog:Program}{w:World}{A:Around}{E:Value->Shared->Prop}{s:Shared}
noncomputable def zbX:Array Keyed->Array Keyed->StateT SortSt Sem (Array Keyed):=sortPriv% PySem.Builtin.mergeLo
theorem j4 (C:Cmp prog w A E s O key S){st:SortSt}{Q:Array Keyed->SortSt->Prop}(hk:kindOf st=oneType')(hX:Srt O key a.toList)(hY:Srt O key b.toList)(hSa:∀x∈a.toList,S x)(hSb:∀x∈b.toList,S x)
  (hb0:0 < b.size) (ha0:0 < a.size) (hfirst:∀x∈a.toList,∀y,b[0]?=some y->Le O key y x)
  (hl:∀y∈b.toList,∀x,a.toList[a.toList.length - 1]?=some x->Le O key y x)
  (h:∀r st',Eqv st st'->xr O key a.toList b.toList r.toList->Q r st') :
  wpS (model prog w) A E s (zbX a b) Q st:=by
 have atA:∀i,i < a.size->∃x,a[i]?=some x/\S x/\a.toList[i]?=some x:=fun i hi=>⟨a[i],by simp[hi],hSa _ (by simp),by simp[hi]⟩
 have atB:∀i,i < b.size->∃x,b[i]?=some x/\S x/\b.toList[i]?=some x:=fun i hi=>⟨b[i],by simp[hi],hSb _ (by simp),by simp[hi]⟩
 have gA:∀ (ia:Nat) (v:Keyed) (i:Nat),ia+i < a.size->∃x,a[ia+i]?=some x/\S x/\(!O.blt (key v) (key (a.getD (ia+i) v)))=(if false=true then O.blt (key x) (key v) else !O.blt (key v) (key x)):=by
  intro ia v i hi
  obtain ⟨x,hx,sx,_⟩:=atA (ia+i) hi
  exact ⟨x,hx,sx,by rw[if_neg (by simp),Array.getD_eq_getD_getElem?,hx];rfl⟩
 have gB:∀ (ib:Nat) (u:Keyed) (i:Nat),ib+i < b.size->∃x,b[ib+i]?=some x/\S x/\O.blt (key (b.getD (ib+i) u)) (key u)=(if true=true then O.blt (key x) (key u) else !O.blt (key u) (key x)):=by
  intro ib u i hi
  obtain ⟨x,hx,sx,_⟩:=atB (ib+i) hi
  exact ⟨x,hx,sx,by rw[if_pos rfl,Array.getD_eq_getD_getElem?,hx];rfl⟩
 have dA:∀ (i:Nat) (v x:Keyed),a.toList[i]?=some x->a.getD i v=x:=fun i v x hx=>by rw[Array.getD_eq_getD_getElem?,<- Array.getElem?_toList,hx];rfl
 have dB:∀ (i:Nat) (v x:Keyed),b.toList[i]?=some x->b.getD i v=x:=fun i v x hx=>by rw[Array.getD_eq_getD_getElem?,<- Array.getElem?_toList,hx];rfl
 have mA:∀ (ia:Nat) (v:Keyed) (i j:Nat),i<=j->j < a.size - ia->(!O.blt (key v) (key (a.getD (ia+j) v)))=true->(!O.blt (key v) (key (a.getD (ia+i) v)))=true:=by
  intro ia v i j hij hj hB
  obtain ⟨x,hx,_,hx'⟩:=atA (ia+i) (by lia)
  obtain ⟨y,hy,_,hy'⟩:=atA (ia+j) (by lia)
  rw[dA _ _ _ hy'] at hB
  rw[dA _ _ _ hx']
  have e:Le O key x v:=Le.trans (hX.at_le (by lia) hx' hy') (show O.blt (key v) (key y)=false from by simpa using hB)
  simpa using (show O.blt (key v) (key x)=false from e)
 have mB:∀ (ib:Nat) (u:Keyed) (i j:Nat),i<=j->j < b.size - ib->O.blt (key (b.getD (ib+j) u)) (key u)=true->O.blt (key (b.getD (ib+i) u)) (key u)=true:=by
  intro ib u i j hij hj hB
  obtain ⟨x,hx,_,hx'⟩:=atB (ib+i) (by lia)
  obtain ⟨y,hy,_,hy'⟩:=atB (ib+j) (by lia)
  rw[dB _ _ _ hy'] at hB
  rw[dB _ _ _ hx']
  exact KeyOrd.klt_of_kle_of_klt (hY.at_le (by lia) hx' hy') hB
 have lowA:∀ (ia:Nat) (v:Keyed) (k:Nat),(∀i,i < k->(!O.blt (key v) (key (a.getD (ia+i) v)))=true)->∀i,i < k->∀x,a.toList[ia+i]?=some x->Le O key x v:=by
  intro ia v k hk i hi x hx
  have:=hk i hi
  rw[dA _ _ _ hx] at this
  exact (show O.blt (key v) (key x)=false from by simpa using this)
 have highA:∀ (ia:Nat) (v:Keyed) (k:Nat),(∀i,k<=i->i < a.size - ia->(!O.blt (key v) (key (a.getD (ia+i) v)))=false)->∀x∈a.toList.drop (ia+k),Le O key v x:=by
  intro ia v k hk x hx
  obtain ⟨i,hi⟩:=List.getElem?_of_mem hx
  rw[List.getElem?_drop] at hi
  have hlt:ia+k+i < a.size:=(List.getElem?_eq_some_iff.mp hi).1
  have:=hk (k+i) (by lia) (by lia)
  rw[show ia+(k+i)=ia+k+i by lia,dA _ _ _ hi] at this
  exact KeyOrd.kle_of_klt (show O.blt (key v) (key x)=true from by simpa using this)
 have lowB:∀ (ib:Nat) (u:Keyed) (k:Nat),(∀i,i < k->O.blt (key (b.getD (ib+i) u)) (key u)=true)->∀i,i < k->∀y,b.toList[ib+i]?=some y->Le O key y u:=by
  intro ib u k hk i hi x hx
  have:=hk i hi
  rw[dB _ _ _ hx] at this
  exact KeyOrd.kle_of_klt this
 have upA:∀ (ib:Nat) (u:Keyed) (k:Nat),(∀i,k<=i->i < b.size - ib->O.blt (key (b.getD (ib+i) u)) (key u)=false)->∀y∈b.toList.drop (ib+k),Le O key u y:=by
  intro ib u k hk x hx
  obtain ⟨i,hi⟩:=List.getElem?_of_mem hx
  rw[List.getElem?_drop] at hi
  have hlt:ib+k+i < b.size:=(List.getElem?_eq_some_iff.mp hi).1
  have:=hk (k+i) (by lia) (by lia)
  rw[show ib+(k+i)=ib+k+i by lia,dB _ _ _ hi] at this
  exact this
 obtain ⟨y0,hy0,_,hy0'⟩:=atB 0 hb0
 refine wpS_bind (wpS_lift (wpAny_rule ⟨rfl,?_⟩))
 refine wpS_bind (zg hy0 ?_)
 dsimp only
 have M0:MI O key a.toList b.toList 0 1 (#[y0]:Array Keyed).toList:=by
  have e:MI O key a.toList b.toList 0 0 (#[]:Array Keyed).toList:=⟨Nat.zero_le _,Nat.zero_le _,by simp,by simp[Srt],by simp,by simp⟩
  exact jf e hY hy0 (fun x hx=>hfirst x (by simpa using hx) y0 hy0)
 by_cases c1:1=b.size
 .rw[if_pos (by simpa using c1)]
  exact wpS_pure (h _ _ (.refl _) (vF M0 hX hY (.inr c1)))
 rw[if_neg (by simpa using c1)]
 by_cases c2:0+1=a.size
 .rw[if_pos (by simpa using c2)]
  exact wpS_pure (h _ _ (.refl _) (vG M0 hX hY hl c2))
 rw[if_neg (by simpa using c2)]
 refine wpS_bind (wpS_get ?_)
 refine wpS_bind (wpS_mono (wpS_forRange (I:=fun x c st'=>Eqv st st'/\∃out ia ib mg,c=(none,out,ia,ib,mg)/\MI O key a.toList b.toList ia ib out.toList/\ia+1 < a.size/\ib < b.size/\x+1<=ia+ib)
  (Q:=fun c st'=>Eqv st st'/\∃r out ia ib mg,c=(some r,out,ia,ib,mg)/\xr O key a.toList b.toList r.toList) ?s1 ?f1 ⟨.refl _,_,_,_,_,rfl,M0,by lia,by lia,by lia⟩) ?p1)
 case p1 =>
  rintro c st' ⟨hE,r,out,ia,ib,mg,rfl,hg⟩
  exact wpS_pure (h _ _ hE hg)
 case f1 =>
  rintro c st' ⟨hE,out,ia,ib,mg,rfl,M,h1,h2,h3⟩
  lia
 case s1 =>
  rintro x0 c st0 _ hx0 ⟨hE0,out0,ia0,ib0,mg0,rfl,M00,h10,h20,h30⟩
  dsimp only
  refine wpS_bind (wpS_mono (wpS_forRange (I:=fun x c st'=>Eqv st st'/\∃out ia ib ac bc,c=(none,out,ia,ib,ac,bc)/\MI O key a.toList b.toList ia ib out.toList/\ia+1 < a.size/\ib < b.size/\x0+1+x<=ia+ib)
   (Q:=fun c st'=>Eqv st st'/\((∃r out ia ib ac bc,c=(some r,out,ia,ib,ac,bc)/\xr O key a.toList b.toList r.toList)\/∃out ia ib ac bc,c=(none,out,ia,ib,ac,bc)/\MI O key a.toList b.toList ia ib out.toList/\ia+1 < a.size/\ib < b.size/\x0+2<=ia+ib)) ?s2 ?f2 ⟨hE0,_,_,_,_,_,rfl,M00,h10,h20,h30⟩) ?p2)
  case f2 =>
   rintro c st' ⟨hE,out,ia,ib,ac,bc,rfl,M,h1,h2,h3⟩
   exact ⟨hE,.inr ⟨out,ia,ib,ac,bc,rfl,M,h1,h2,by lia⟩⟩
  case s2 =>
   rintro x c st' _ hx ⟨hE,out,ia,ib,ac,bc,rfl,M,h1,h2,h3⟩
   dsimp only
   obtain ⟨u,hu,su,hu'⟩:=atA ia (by lia)
   obtain ⟨v,hv,sv,hv'⟩:=atB ib h2
   refine wpS_bind (zg hv (wpS_bind (zg hu (wpS_bind (C v u st' _ sv su (hE.1.trans hk) ?_)))))
   dsimp only
   cases hc:O.blt (key v) (key u) with
   | true =>
    rw[if_pos rfl]
    have M2:=jf M hY hv (fun x hx=>Le.trans (KeyOrd.kle_of_klt hc) (hX.drop_le hu' x hx))
    refine wpS_bind (zg hv ?_)
    by_cases c1:ib+1=b.size
    .rw[if_pos (by simpa using c1)]
     exact wpS_pure ⟨hE,.inl ⟨_,_,_,_,_,_,rfl,vF M2 hX hY (.inr c1)⟩⟩
    .rw[if_neg (by simpa using c1)]
     split
     .exact wpS_pure ⟨hE,.inr ⟨_,_,_,_,_,rfl,M2,by lia,by lia,by lia⟩⟩
     .exact wpS_pure ⟨hE,_,_,_,_,_,rfl,M2,by lia,by lia,by lia⟩
   | false =>
    rw[if_neg (by simp)]
    have M2:=vH M hX hu (fun y hy=>Le.trans (show Le O key u v from hc) (hY.drop_le hv' y hy))
    refine wpS_bind (zg hu ?_)
    by_cases c1:ia+1+1=a.size
    .rw[if_pos (by simpa using c1)]
     exact wpS_pure ⟨hE,.inl ⟨_,_,_,_,_,_,rfl,vG M2 hX hY hl c1⟩⟩
    .rw[if_neg (by simpa using c1)]
     split
     .exact wpS_pure ⟨hE,.inr ⟨_,_,_,_,_,rfl,M2,by lia,by lia,by lia⟩⟩
     .exact wpS_pure ⟨hE,_,_,_,_,_,rfl,M2,by lia,by lia,by lia⟩
  case p2 =>
   rintro c st1 ⟨hE1,⟨r,out,ia,ib,ac,bc,rfl,hg⟩ | ⟨out1,ia1,ib1,ac1,bc1,rfl,M1,h11,h21,h31⟩⟩
   .exact wpS_pure ⟨hE1,r,out,ia,ib,_,rfl,hg⟩
   dsimp only
   refine wpS_bind (wpS_lift (wpAny_rule ⟨rfl,?_⟩))
   refine wpS_bind (wpS_mono (wpS_forRange (I:=fun x c st'=>Eqv st st'/\∃out ia ib mg ac bc,c=(none,out,ia,ib,mg,ac,bc)/\MI O key a.toList b.toList ia ib out.toList/\ia+1 < a.size/\ib < b.size/\x0+2<=ia+ib)
    (Q:=fun c st'=>Eqv st st'/\((∃r out ia ib mg ac bc,c=(some r,out,ia,ib,mg,ac,bc)/\xr O key a.toList b.toList r.toList)\/∃out ia ib mg ac bc,c=(none,out,ia,ib,mg,ac,bc)/\MI O key a.toList b.toList ia ib out.toList/\ia+1 < a.size/\ib < b.size/\x0+2<=ia+ib)) ?s3 ?f3 ⟨hE1,_,_,_,_,_,_,rfl,M1,h11,h21,h31⟩) ?p3)
   case f3 =>
    rintro c st' ⟨hE,out,ia,ib,mg,ac,bc,rfl,M,h1,h2,h3⟩
    exact ⟨hE,.inr ⟨out,ia,ib,mg,ac,bc,rfl,M,h1,h2,h3⟩⟩
   case p3 =>
    rintro c st' ⟨hE,⟨r,out,ia,ib,mg,ac,bc,rfl,hg⟩ | ⟨out,ia,ib,mg,ac,bc,rfl,M,h1,h2,h3⟩⟩
    .exact wpS_pure ⟨hE,r,out,ia,ib,_,rfl,hg⟩
    .dsimp only
     refine wpS_bind (wpS_modify ?_)
     exact wpS_pure ⟨hE,_,_,_,_,rfl,M,h1,h2,by lia⟩
   case s3 =>
    rintro x c st' _ hx ⟨hE,out,ia,ib,mg,ac,bc,rfl,M,h1,h2,h3⟩
    dsimp only
    obtain ⟨v,hv,sv,hv'⟩:=atB ib h2
    by_cases cm:mg > 1
    all_goals
     first | rw[if_pos cm] | rw[if_neg cm]
     refine wpS_bind (wpS_modify ?_)
     refine wpS_bind (zg hv ?_)
     refine wpS_bind (zN C (st:=_) (hE.1.trans hk) sv (by lia) (fun i=>!O.blt (key v) (key (a.getD (ia+i) v))) (fun i hi=>gA ia v i (by lia)) (mA ia v) (fun k k1 k2 k3=>?_))
     dsimp only
     by_cases c1:k > 0
     .rw[if_pos c1]
      have M2:=zdv M hX (by lia) (fun i hi x hx y hy=>Le.trans (lowA _ _ _ k2 i hi x hx) (hY.drop_le hv' y hy))
      by_cases c2:ia+k+1=a.size
      .rw[if_pos (by simpa using c2)]
       exact wpS_pure ⟨hE,.inl ⟨_,_,_,_,_,_,_,rfl,vG M2 hX hY hl c2⟩⟩
      rw[if_neg (by simpa using c2)]
      by_cases c2':ia+k=a.size
      .rw[if_pos (by simpa using c2')]
       exact wpS_pure ⟨hE,.inl ⟨_,_,_,_,_,_,_,rfl,vF M2 hX hY (.inl c2')⟩⟩
      rw[if_neg (by simpa using c2')]
      have low:=highA _ _ _ k3
      obtain ⟨u,hu,su,hu'⟩:=atA (ia+k) (by lia)
      have M3:=jf M2 hY hv (fun x hx=>low x hx)
      refine wpS_bind (zg hv ?_)
      by_cases c3:ib+1=b.size
      .rw[if_pos (by simpa using c3)]
       exact wpS_pure ⟨hE,.inl ⟨_,_,_,_,_,_,_,rfl,vF M3 hX hY (.inr c3)⟩⟩
      rw[if_neg (by simpa using c3)]
      refine wpS_bind (zg hu ?_)
      refine wpS_bind (zN C (st:=_) (hE.1.trans hk) su (by lia) (fun i=>O.blt (key (b.getD (ib+1+i) u)) (key u)) (fun i hi=>gB _ _ _ (by lia)) (mB _ _) (fun k' k1' k2' k3'=>?_))
      dsimp only
      by_cases c5:k' > 0
      .rw[if_pos c5]
       have M4:=zac M3 hY (by lia) (fun i hi y hy x hx=>Le.trans (lowB _ _ _ k2' i hi y hy) (hX.drop_le hu' x hx))
       by_cases c6:ib+1+k'=b.size
       .rw[if_pos (by simpa using c6)]
        exact wpS_pure ⟨hE,.inl ⟨_,_,_,_,_,_,_,rfl,vF M4 hX hY (.inr c6)⟩⟩
       rw[if_neg (by simpa using c6)]
       have M5:=vH M4 hX hu (upA _ _ _ k3')
       refine wpS_bind (zg hu ?_)
       by_cases c4:ia+k+1+1=a.size
       .rw[if_pos (by simpa using c4)]
        exact wpS_pure ⟨hE,.inl ⟨_,_,_,_,_,_,_,rfl,vG M5 hX hY hl c4⟩⟩
       .rw[if_neg (by simpa using c4)]
        split
        .exact wpS_pure ⟨hE,.inr ⟨_,_,_,_,_,_,rfl,M5,by lia,by lia,by lia⟩⟩
        .exact wpS_pure ⟨hE,_,_,_,_,_,_,rfl,M5,by lia,by lia,by lia⟩
      .rw[if_neg c5]
       obtain rfl:k'=0:=by lia
       have M5:=vH M3 hX hu (upA (ib+1) _ 0 k3')
       refine wpS_bind (zg hu ?_)
       by_cases c4:ia+k+1+1=a.size
       .rw[if_pos (by simpa using c4)]
        exact wpS_pure ⟨hE,.inl ⟨_,_,_,_,_,_,_,rfl,vG M5 hX hY hl c4⟩⟩
       .rw[if_neg (by simpa using c4)]
        split
        .exact wpS_pure ⟨hE,.inr ⟨_,_,_,_,_,_,rfl,M5,by lia,by lia,by lia⟩⟩
        .exact wpS_pure ⟨hE,_,_,_,_,_,_,rfl,M5,by lia,by lia,by lia⟩
     .rw[if_neg c1]
      obtain rfl:k=0:=by lia
      have M2:=M
      have low:=highA _ _ _ k3
      obtain ⟨u,hu,su,hu'⟩:=atA (ia) (by lia)
      have M3:=jf M2 hY hv (fun x hx=>low x hx)
      refine wpS_bind (zg hv ?_)
      by_cases c3:ib+1=b.size
      .rw[if_pos (by simpa using c3)]
       exact wpS_pure ⟨hE,.inl ⟨_,_,_,_,_,_,_,rfl,vF M3 hX hY (.inr c3)⟩⟩
      rw[if_neg (by simpa using c3)]
      refine wpS_bind (zg hu ?_)
      refine wpS_bind (zN C (st:=_) (hE.1.trans hk) su (by lia) (fun i=>O.blt (key (b.getD (ib+1+i) u)) (key u)) (fun i hi=>gB _ _ _ (by lia)) (mB _ _) (fun k' k1' k2' k3'=>?_))
      dsimp only
      by_cases c5:k' > 0
      .rw[if_pos c5]
       have M4:=zac M3 hY (by lia) (fun i hi y hy x hx=>Le.trans (lowB _ _ _ k2' i hi y hy) (hX.drop_le hu' x hx))
       by_cases c6:ib+1+k'=b.size
       .rw[if_pos (by simpa using c6)]
        exact wpS_pure ⟨hE,.inl ⟨_,_,_,_,_,_,_,rfl,vF M4 hX hY (.inr c6)⟩⟩
       rw[if_neg (by simpa using c6)]
       have M5:=vH M4 hX hu (upA _ _ _ k3')
       refine wpS_bind (zg hu ?_)
       by_cases c4:ia+1+1=a.size
       .rw[if_pos (by simpa using c4)]
        exact wpS_pure ⟨hE,.inl ⟨_,_,_,_,_,_,_,rfl,vG M5 hX hY hl c4⟩⟩
       .rw[if_neg (by simpa using c4)]
        split
        .exact wpS_pure ⟨hE,.inr ⟨_,_,_,_,_,_,rfl,M5,by lia,by lia,by lia⟩⟩
        .exact wpS_pure ⟨hE,_,_,_,_,_,_,rfl,M5,by lia,by lia,by lia⟩
      .rw[if_neg c5]
       obtain rfl:k'=0:=by lia
       have M5:=vH M3 hX hu (upA (ib+1) _ 0 k3')
       refine wpS_bind (zg hu ?_)
       by_cases c4:ia+1+1=a.size
       .rw[if_pos (by simpa using c4)]
        exact wpS_pure ⟨hE,.inl ⟨_,_,_,_,_,_,_,rfl,vG M5 hX hY hl c4⟩⟩
       .rw[if_neg (by simpa using c4)]
        split
        .exact wpS_pure ⟨hE,.inr ⟨_,_,_,_,_,_,rfl,M5,by lia,by lia,by lia⟩⟩
        .exact wpS_pure ⟨hE,_,_,_,_,_,_,rfl,M5,by lia,by lia,by lia⟩
end
section
variable {O:KeyOrd}{key:Keyed->O.α}{a b:Array Keyed}
theorem Srt.take_le {l:List Keyed}(h:Srt O key l){i:Nat}{x:Keyed}(hx:l[i]?=some x):∀y∈l.take (i+1),Le O key y x:=by
 intro y hy
 obtain ⟨j,hj⟩:=List.getElem?_of_mem hy
 have hlt:j < i+1:=by
  have:=(List.getElem?_eq_some_iff.mp hj).1
  rw[List.length_take] at this
  lia
 rw[List.getElem?_take_of_lt hlt] at hj
 exact h.at_le (by lia) hj hx
structure MH (O:KeyOrd)(key:Keyed->O.α)(X Y:List Keyed)(na nb:Nat)(L:List Keyed):Prop where
 ha:na<=X.length
 hb:nb<=Y.length
 pm:L.Perm (X.drop na++Y.drop nb)
 so:Srt O key L
 la:∀z∈L,∀x∈X.take na,Le O key x z
 lb:∀z∈L,∀y∈Y.take nb,Le O key y z
variable {X Y L:List Keyed}{na nb:Nat}
theorem MH.done (M:MH O key X Y na nb L)(hX:Srt O key X)(hY:Srt O key Y)(h:na=0\/nb=0):xr O key X Y (X.take na++Y.take nb++L):=by
 refine ⟨?_,?_⟩
 .rcases h with rfl | rfl
  .rw[List.take_zero,List.nil_append]
   exact zM (hY.sublist (List.take_sublist _ _)) M.so fun x hx y hy=>M.lb y hy x hx
  .rw[List.take_zero,List.append_nil]
   exact zM (hX.sublist (List.take_sublist _ _)) M.so fun x hx y hy=>M.la y hy x hx
 .refine (M.pm.append_left _).trans ?_
  have e1:(X.take na++Y.take nb++(X.drop na++Y.drop nb)).Perm (X.take na++(X.drop na++Y.take nb)++Y.drop nb):=by
   rw[<- List.append_assoc]
   refine List.Perm.append_right _ ?_
   rw[List.append_assoc]
   exact List.Perm.append_left _ List.perm_append_comm
  refine e1.trans ?_
  rw[<- List.append_assoc (X.take na),List.take_append_drop,List.append_assoc,List.take_append_drop]
theorem MH.first (M:MH O key X Y na nb L)(hX:Srt O key X)(hY:Srt O key Y)(hf:∀x∈X,∀y,Y[0]?=some y->Le O key y x)(h:nb=1):xr O key X Y (Y.take nb++X.take na++L):=by
 subst h
 refine ⟨?_,?_⟩
 .refine zM (zM (hY.sublist (List.take_sublist _ _)) (hX.sublist (List.take_sublist _ _)) ?_) M.so ?_
  .intro y hy x hx
   obtain ⟨j,hj⟩:=List.getElem?_of_mem hy
   have hlt:=(List.getElem?_eq_some_iff.mp hj).1
   rw[List.length_take] at hlt
   obtain rfl:j=0:=by lia
   rw[List.getElem?_take_of_lt (by lia)] at hj
   exact hf x (List.mem_of_mem_take hx) y hj
  .intro x hx y hy
   rcases List.mem_append.mp hx with hx | hx
   .exact M.lb y hy x hx
   .exact M.la y hy x hx
 .refine (M.pm.append_left _).trans ?_
  have e1:(Y.take 1++X.take na++(X.drop na++Y.drop 1)).Perm (Y.take 1++(X++Y.drop 1)):=by
   rw[List.append_assoc,<- List.append_assoc (X.take na),List.take_append_drop]
  refine e1.trans ?_
  rw[<- List.append_assoc]
  refine (List.Perm.append_right _ List.perm_append_comm).trans ?_
  rw[List.append_assoc,List.take_append_drop]
theorem vI {l:List Keyed}{i:Nat}{x:Keyed}(h:l[i]?=some x):l.drop i=x::l.drop (i+1):=by
 obtain ⟨hi,rfl⟩:=List.getElem?_eq_some_iff.mp h
 exact List.drop_eq_getElem_cons hi
theorem wn {l:List Keyed}{i j:Nat}(h:i<=j){x:Keyed}(hx:x∈l.take i):x∈l.take j:=by
 have:l.take i=(l.take j).take i:=by rw[List.take_take];congr 1;lia
 rw[this] at hx
 exact List.mem_of_mem_take hx
theorem MH.pushA (M:MH O key X Y (na+1) nb L)(hX:Srt O key X){x:Keyed}(hx:X[na]?=some x)(h:∀y∈Y.take nb,Le O key y x):MH O key X Y na nb (x::L):=by
 have hm:x∈X.take (na+1):=by rw[zO hx];simp
 have:=M.ha
 refine ⟨by lia,M.hb,?_,List.pairwise_cons.mpr ⟨fun z hz=>M.la z hz x hm,M.so⟩,fun z hz y hy=>?_,fun z hz y hy=>?_⟩
 .rw[vI hx,List.cons_append]
  exact M.pm.cons x
 .rcases List.mem_cons.mp hz with rfl | hz
  .exact hX.take_le hx y (wn (by lia) hy)
  .exact M.la z hz y (wn (by lia) hy)
 .rcases List.mem_cons.mp hz with rfl | hz
  .exact h y hy
  .exact M.lb z hz y hy
theorem MH.pushB (M:MH O key X Y na (nb+1) L)(hY:Srt O key Y){y:Keyed}(hy:Y[nb]?=some y)(h:∀x∈X.take na,Le O key x y):MH O key X Y na nb (y::L):=by
 have hm:y∈Y.take (nb+1):=by rw[zO hy];simp
 have:=M.hb
 refine ⟨M.ha,by lia,?_,List.pairwise_cons.mpr ⟨fun z hz=>M.lb z hz y hm,M.so⟩,fun z hz x hx=>?_,fun z hz x hx=>?_⟩
 .rw[vI hy]
  exact (M.pm.cons y).trans List.perm_middle.symm
 .rcases List.mem_cons.mp hz with rfl | hz
  .exact h x hx
  .exact M.la z hz x hx
 .rcases List.mem_cons.mp hz with rfl | hz
  .exact hY.take_le hy x (wn (by lia) hx)
  .exact M.lb z hz x (wn (by lia) hx)
theorem vJ {l:List Keyed}{i k:Nat}{x:Keyed}(h:l[i]?=some x):(l.drop i).take (k+1)=x::(l.drop (i+1)).take k:=by
 rw[vI h,List.take_succ_cons]
theorem MH.blockA (hX:Srt O key X):∀ (k na:Nat),MH O key X Y (na+k) nb L->(∀i,na<=i->i < na+k->∀x,X[i]?=some x->∀y∈Y.take nb,Le O key y x)->MH O key X Y na nb ((X.drop na).take k++L)
 | 0,_,M,_=>by simpa using M
 | k+1,na,M,hl=>by
  have hlt:=M.ha
  have q:MH O key X Y (na+1) nb ((X.drop (na+1)).take k++L):=MH.blockA hX k (na+1) (by rw[show na+1+k=na+(k+1) by lia];exact M) fun i h1 h2=>hl i (by lia) (by lia)
  have hx:X[na]?=some X[na]:=by simp
  rw[vJ hx,List.cons_append]
  exact q.pushA hX hx (hl na (Nat.le_refl _) (by lia) _ hx)
theorem MH.blockB (hY:Srt O key Y):∀ (k nb:Nat),MH O key X Y na (nb+k) L->(∀i,nb<=i->i < nb+k->∀y,Y[i]?=some y->∀x∈X.take na,Le O key x y)->MH O key X Y na nb ((Y.drop nb).take k++L)
 | 0,_,M,_=>by simpa using M
 | k+1,nb,M,hl=>by
  have hlt:=M.hb
  have q:MH O key X Y na (nb+1) ((Y.drop (nb+1)).take k++L):=MH.blockB hY k (nb+1) (by rw[show nb+1+k=nb+(k+1) by lia];exact M) fun i h1 h2=>hl i (by lia) (by lia)
  have hy:Y[nb]?=some Y[nb]:=by simp
  rw[vJ hy,List.cons_append]
  exact q.pushB hY hy (hl nb (Nat.le_refl _) (by lia) _ hy)
theorem zgT (p a b:Array Keyed)(i j:Nat):(a.extract 0 i++b.extract 0 j++p.reverse).toList=a.toList.take i++b.toList.take j++p.toList.reverse:=by
 simp only[Array.toList_append,Array.toList_extract,List.extract_eq_take_drop,Array.toList_reverse,List.drop_zero,Nat.sub_zero]
theorem wo {p:Array Keyed}(M:MH O key a.toList b.toList na nb p.toList.reverse)(hX:Srt O key a.toList)(hY:Srt O key b.toList)(h:na=0\/nb=0):xr O key a.toList b.toList (a.extract 0 na++b.extract 0 nb++p.reverse).toList:=by
 rw[zgT];exact M.done hX hY h
theorem wH {p:Array Keyed}(M:MH O key a.toList b.toList na nb p.toList.reverse)(hX:Srt O key a.toList)(hY:Srt O key b.toList)(hf:∀x∈a.toList,∀y,b.toList[0]?=some y->Le O key y x)(h:nb=1):xr O key a.toList b.toList (b.extract 0 nb++a.extract 0 na++p.reverse).toList:=by
 rw[zgT];exact M.first hX hY hf h
theorem wI {p:Array Keyed}(M:MH O key a.toList b.toList na nb p.toList.reverse)(hX:Srt O key a.toList)(h0:0 < na){x:Keyed}(hx:a[na - 1]?=some x)(h:∀y∈b.toList.take nb,Le O key y x):MH O key a.toList b.toList (na - 1) nb (p.push x).toList.reverse:=by
 obtain ⟨n,rfl⟩:∃n,na=n+1:=⟨na - 1,by lia⟩
 rw[Array.toList_push,List.reverse_append]
 exact M.pushA hX (by simpa using hx) h
theorem qh {p:Array Keyed}(M:MH O key a.toList b.toList na nb p.toList.reverse)(hY:Srt O key b.toList)(h0:0 < nb){y:Keyed}(hy:b[nb - 1]?=some y)(h:∀x∈a.toList.take na,Le O key x y):MH O key a.toList b.toList na (nb - 1) (p.push y).toList.reverse:=by
 obtain ⟨n,rfl⟩:∃n,nb=n+1:=⟨nb - 1,by lia⟩
 rw[Array.toList_push,List.reverse_append]
 exact M.pushB hY (by simpa using hy) h
theorem zgU (p a:Array Keyed)(i j:Nat):(p++(a.extract i j).reverse).toList.reverse=(a.toList.drop i).take (j - i)++p.toList.reverse:=by
 simp only[Array.toList_append,Array.toList_reverse,Array.toList_extract,List.extract_eq_take_drop,List.reverse_append,List.reverse_reverse]
theorem zdw {p:Array Keyed}{t:Nat}(M:MH O key a.toList b.toList na nb p.toList.reverse)(hX:Srt O key a.toList)(ht:t<=na)(h:∀i,t<=i->i < na->∀x,a.toList[i]?=some x->∀y∈b.toList.take nb,Le O key y x):MH O key a.toList b.toList t nb (p++(a.extract t na).reverse).toList.reverse:=by
 rw[zgU]
 exact MH.blockA hX (na - t) t (by rw[show t+(na - t)=na by lia];exact M) fun i h1 h2=>h i h1 (by lia)
theorem zad {p:Array Keyed}{t:Nat}(M:MH O key a.toList b.toList na nb p.toList.reverse)(hY:Srt O key b.toList)(ht:t<=nb)(h:∀i,t<=i->i < nb->∀y,b.toList[i]?=some y->∀x∈a.toList.take na,Le O key x y):MH O key a.toList b.toList na t (p++(b.extract t nb).reverse).toList.reverse:=by
 rw[zgU]
 exact MH.blockB hY (nb - t) t (by rw[show t+(nb - t)=nb by lia];exact M) fun i h1 h2=>h i h1 (by lia)
end
section
variable {O:KeyOrd}{key:Keyed->O.α}{S:Keyed->Prop}{a b:Array Keyed}
variable {prog:Program}{w:World}{A:Around}{E:Value->Shared->Prop}{s:Shared}
noncomputable def zbY:Array Keyed->Array Keyed->StateT SortSt Sem (Array Keyed):=sortPriv% PySem.Builtin.mergeHi
theorem j5 (C:Cmp prog w A E s O key S){st:SortSt}{Q:Array Keyed->SortSt->Prop}(hk:kindOf st=oneType')(hX:Srt O key a.toList)(hY:Srt O key b.toList)(hSa:∀x∈a.toList,S x)(hSb:∀x∈b.toList,S x)
  (hb0:0 < b.size) (ha0:0 < a.size) (hf:∀x∈a.toList,∀y,b.toList[0]?=some y->Le O key y x)
  (hl:∀y∈b.toList,∀x,a[a.size - 1]?=some x->Le O key y x)
  (h:∀r st',Eqv st st'->xr O key a.toList b.toList r.toList->Q r st') :
  wpS (model prog w) A E s (zbY a b) Q st:=by
 have atA:∀i,i < a.size->∃x,a[i]?=some x/\S x/\a.toList[i]?=some x:=fun i hi=>⟨a[i],by simp[hi],hSa _ (by simp),by simp[hi]⟩
 have atB:∀i,i < b.size->∃x,b[i]?=some x/\S x/\b.toList[i]?=some x:=fun i hi=>⟨b[i],by simp[hi],hSb _ (by simp),by simp[hi]⟩
 have gA:∀ (ia:Nat) (v:Keyed) (i:Nat),ia+i < a.size->∃x,a[ia+i]?=some x/\S x/\(!O.blt (key v) (key (a.getD (ia+i) v)))=(if false=true then O.blt (key x) (key v) else !O.blt (key v) (key x)):=by
  intro ia v i hi
  obtain ⟨x,hx,sx,_⟩:=atA (ia+i) hi
  exact ⟨x,hx,sx,by rw[if_neg (by simp),Array.getD_eq_getD_getElem?,hx];rfl⟩
 have gB:∀ (ib:Nat) (u:Keyed) (i:Nat),ib+i < b.size->∃x,b[ib+i]?=some x/\S x/\O.blt (key (b.getD (ib+i) u)) (key u)=(if true=true then O.blt (key x) (key u) else !O.blt (key u) (key x)):=by
  intro ib u i hi
  obtain ⟨x,hx,sx,_⟩:=atB (ib+i) hi
  exact ⟨x,hx,sx,by rw[if_pos rfl,Array.getD_eq_getD_getElem?,hx];rfl⟩
 have dA:∀ (i:Nat) (v x:Keyed),a.toList[i]?=some x->a.getD i v=x:=fun i v x hx=>by rw[Array.getD_eq_getD_getElem?,<- Array.getElem?_toList,hx];rfl
 have dB:∀ (i:Nat) (v x:Keyed),b.toList[i]?=some x->b.getD i v=x:=fun i v x hx=>by rw[Array.getD_eq_getD_getElem?,<- Array.getElem?_toList,hx];rfl
 have mA:∀ (ia:Nat) (v:Keyed) (i j:Nat),i<=j->j < a.size - ia->(!O.blt (key v) (key (a.getD (ia+j) v)))=true->(!O.blt (key v) (key (a.getD (ia+i) v)))=true:=by
  intro ia v i j hij hj hB
  obtain ⟨x,hx,_,hx'⟩:=atA (ia+i) (by lia)
  obtain ⟨y,hy,_,hy'⟩:=atA (ia+j) (by lia)
  rw[dA _ _ _ hy'] at hB
  rw[dA _ _ _ hx']
  have e:Le O key x v:=Le.trans (hX.at_le (by lia) hx' hy') (show O.blt (key v) (key y)=false from by simpa using hB)
  simpa using (show O.blt (key v) (key x)=false from e)
 have mB:∀ (ib:Nat) (u:Keyed) (i j:Nat),i<=j->j < b.size - ib->O.blt (key (b.getD (ib+j) u)) (key u)=true->O.blt (key (b.getD (ib+i) u)) (key u)=true:=by
  intro ib u i j hij hj hB
  obtain ⟨x,hx,_,hx'⟩:=atB (ib+i) (by lia)
  obtain ⟨y,hy,_,hy'⟩:=atB (ib+j) (by lia)
  rw[dB _ _ _ hy'] at hB
  rw[dB _ _ _ hx']
  exact KeyOrd.klt_of_kle_of_klt (hY.at_le (by lia) hx' hy') hB
 have lowT:∀ (t:Nat) (v:Keyed),t<=a.size->(∀i,i < t->(!O.blt (key v) (key (a.getD (0+i) v)))=true)->∀x∈a.toList.take t,Le O key x v:=by
  intro t v ht hB x hx
  obtain ⟨i,hi⟩:=List.getElem?_of_mem hx
  have hlt:=(List.getElem?_eq_some_iff.mp hi).1
  rw[List.length_take] at hlt
  rw[List.getElem?_take_of_lt (by lia)] at hi
  have:=hB i (by lia)
  rw[Nat.zero_add,dA _ _ _ hi] at this
  exact (show O.blt (key v) (key x)=false from by simpa using this)
 have highT:∀ (t n:Nat) (v:Keyed),(∀i,t<=i->i < n->(!O.blt (key v) (key (a.getD (0+i) v)))=false)->∀i,t<=i->i < n->∀x,a.toList[i]?=some x->Le O key v x:=by
  intro t n v hB i h1 h2 x hx
  have:=hB i h1 h2
  rw[Nat.zero_add,dA _ _ _ hx] at this
  exact KeyOrd.kle_of_klt (show O.blt (key v) (key x)=true from by simpa using this)
 have lowU:∀ (t:Nat) (u:Keyed),t<=b.size->(∀i,i < t->O.blt (key (b.getD (0+i) u)) (key u)=true)->∀y∈b.toList.take t,Le O key y u:=by
  intro t u ht hB x hx
  obtain ⟨i,hi⟩:=List.getElem?_of_mem hx
  have hlt:=(List.getElem?_eq_some_iff.mp hi).1
  rw[List.length_take] at hlt
  rw[List.getElem?_take_of_lt (by lia)] at hi
  have:=hB i (by lia)
  rw[Nat.zero_add,dB _ _ _ hi] at this
  exact KeyOrd.kle_of_klt this
 have highU:∀ (t n:Nat) (u:Keyed),(∀i,t<=i->i < n->O.blt (key (b.getD (0+i) u)) (key u)=false)->∀i,t<=i->i < n->∀y,b.toList[i]?=some y->Le O key u y:=by
  intro t n u hB i h1 h2 x hx
  have:=hB i h1 h2
  rw[Nat.zero_add,dB _ _ _ hx] at this
  exact this
 have upB:∀ (n:Nat) (v:Keyed),0 < n->b.toList[n - 1]?=some v->∀y∈b.toList.take n,Le O key y v:=by
  intro n v h0 hv
  have:=hY.take_le hv
  rwa [show n - 1+1=n by lia] at this
 have upA:∀ (n:Nat) (v:Keyed),0 < n->a.toList[n - 1]?=some v->∀y∈a.toList.take n,Le O key y v:=by
  intro n v h0 hv
  have:=hX.take_le hv
  rwa [show n - 1+1=n by lia] at this
 obtain ⟨x0,hx0,_,hx0'⟩:=atA (a.size - 1) (by lia)
 refine wpS_bind (wpS_lift (wpAny_rule ⟨rfl,?_⟩))
 refine wpS_bind (zg hx0 ?_)
 dsimp only
 have M0:MH O key a.toList b.toList (a.size - 1) b.size (#[x0]:Array Keyed).toList.reverse:=by
  have e:MH O key a.toList b.toList a.size b.size (#[]:Array Keyed).toList.reverse:=⟨by simp,by simp,by simp,by simp[Srt],by simp,by simp⟩
  exact wI e hX ha0 hx0 (fun y hy=>hl y (List.mem_of_mem_take hy) x0 hx0)
 by_cases c1:a.size - 1=0
 .rw[if_pos (by simpa using c1)]
  exact wpS_pure (h _ _ (.refl _) (wo M0 hX hY (.inl c1)))
 rw[if_neg (by simpa using c1)]
 by_cases c2:b.size=1
 .rw[if_pos (by simpa using c2)]
  exact wpS_pure (h _ _ (.refl _) (wH M0 hX hY hf c2))
 rw[if_neg (by simpa using c2)]
 refine wpS_bind (wpS_get ?_)
 refine wpS_bind (wpS_mono (wpS_forRange (I:=fun x c st'=>Eqv st st'/\∃na nb out mg,c=(none,na,nb,out,mg)/\MH O key a.toList b.toList na nb out.toList.reverse/\0 < na/\1 < nb/\na+nb+x+1<=a.size+b.size)
  (Q:=fun c st'=>Eqv st st'/\∃r na nb out mg,c=(some r,na,nb,out,mg)/\xr O key a.toList b.toList r.toList) ?s1 ?f1 ⟨.refl _,_,_,_,_,rfl,M0,by lia,by lia,by lia⟩) ?p1)
 case p1 =>
  rintro c st' ⟨hE,r,na,nb,out,mg,rfl,hg⟩
  exact wpS_pure (h _ _ hE hg)
 case f1 =>
  rintro c st' ⟨hE,na,nb,out,mg,rfl,M,h1,h2,h3⟩
  lia
 case s1 =>
  rintro x0 c st0 _ hx0 ⟨hE0,na0,nb0,out0,mg0,rfl,M00,h10,h20,h30⟩
  dsimp only
  refine wpS_bind (wpS_mono (wpS_forRange (I:=fun x c st'=>Eqv st st'/\∃na nb out ac bc,c=(none,na,nb,out,ac,bc)/\MH O key a.toList b.toList na nb out.toList.reverse/\0 < na/\1 < nb/\na+nb+(x0+1)+x<=a.size+b.size)
   (Q:=fun c st'=>Eqv st st'/\((∃r na nb out ac bc,c=(some r,na,nb,out,ac,bc)/\xr O key a.toList b.toList r.toList)\/∃na nb out ac bc,c=(none,na,nb,out,ac,bc)/\MH O key a.toList b.toList na nb out.toList.reverse/\0 < na/\1 < nb/\na+nb+x0+2<=a.size+b.size)) ?s2 ?f2 ⟨hE0,_,_,_,_,_,rfl,M00,h10,h20,h30⟩) ?p2)
  case f2 =>
   rintro c st' ⟨hE,na,nb,out,ac,bc,rfl,M,h1,h2,h3⟩
   exact ⟨hE,.inr ⟨na,nb,out,ac,bc,rfl,M,h1,h2,by lia⟩⟩
  case s2 =>
   rintro x c st' _ hx ⟨hE,na,nb,out,ac,bc,rfl,M,h1,h2,h3⟩
   have hna:na<=a.size:=M.ha
   have hnb:nb<=b.size:=M.hb
   dsimp only
   obtain ⟨u,hu,su,hu'⟩:=atA (na - 1) (by lia)
   obtain ⟨v,hv,sv,hv'⟩:=atB (nb - 1) (by lia)
   refine wpS_bind (zg hv (wpS_bind (zg hu (wpS_bind (C v u st' _ sv su (hE.1.trans hk) ?_)))))
   dsimp only
   cases hc:O.blt (key v) (key u) with
   | true =>
    rw[if_pos rfl]
    have M2:=wI M hX h1 hu (fun y hy=>Le.trans (upB nb v (by lia) hv' y hy) (KeyOrd.kle_of_klt hc))
    refine wpS_bind (zg hu ?_)
    by_cases c1:na - 1=0
    .rw[if_pos (by simpa using c1)]
     exact wpS_pure ⟨hE,.inl ⟨_,_,_,_,_,_,rfl,wo M2 hX hY (.inl c1)⟩⟩
    .rw[if_neg (by simpa using c1)]
     split
     .exact wpS_pure ⟨hE,.inr ⟨_,_,_,_,_,rfl,M2,by lia,by lia,by lia⟩⟩
     .exact wpS_pure ⟨hE,_,_,_,_,_,rfl,M2,by lia,by lia,by lia⟩
   | false =>
    rw[if_neg (by simp)]
    have M2:=qh M hY (by lia) hv (fun x hx=>Le.trans (upA na u h1 hu' x hx) (show Le O key u v from hc))
    refine wpS_bind (zg hv ?_)
    by_cases c1:nb - 1=1
    .rw[if_pos (by simpa using c1)]
     exact wpS_pure ⟨hE,.inl ⟨_,_,_,_,_,_,rfl,wH M2 hX hY hf c1⟩⟩
    .rw[if_neg (by simpa using c1)]
     split
     .exact wpS_pure ⟨hE,.inr ⟨_,_,_,_,_,rfl,M2,by lia,by lia,by lia⟩⟩
     .exact wpS_pure ⟨hE,_,_,_,_,_,rfl,M2,by lia,by lia,by lia⟩
  case p2 =>
   rintro c st1 ⟨hE1,⟨r,na,nb,out,ac,bc,rfl,hg⟩ | ⟨na1,nb1,out1,ac1,bc1,rfl,M1,h11,h21,h31⟩⟩
   .exact wpS_pure ⟨hE1,r,na,nb,out,_,rfl,hg⟩
   dsimp only
   refine wpS_bind (wpS_lift (wpAny_rule ⟨rfl,?_⟩))
   refine wpS_bind (wpS_mono (wpS_forRange (I:=fun x c st'=>Eqv st st'/\∃na nb out mg ac bc,c=(none,na,nb,out,mg,ac,bc)/\MH O key a.toList b.toList na nb out.toList.reverse/\0 < na/\1 < nb/\na+nb+x0+2<=a.size+b.size)
    (Q:=fun c st'=>Eqv st st'/\((∃r na nb out mg ac bc,c=(some r,na,nb,out,mg,ac,bc)/\xr O key a.toList b.toList r.toList)\/∃na nb out mg ac bc,c=(none,na,nb,out,mg,ac,bc)/\MH O key a.toList b.toList na nb out.toList.reverse/\0 < na/\1 < nb/\na+nb+x0+2<=a.size+b.size)) ?s3 ?f3 ⟨hE1,_,_,_,_,_,_,rfl,M1,h11,h21,h31⟩) ?p3)
   case f3 =>
    rintro c st' ⟨hE,na,nb,out,mg,ac,bc,rfl,M,h1,h2,h3⟩
    exact ⟨hE,.inr ⟨na,nb,out,mg,ac,bc,rfl,M,h1,h2,h3⟩⟩
   case p3 =>
    rintro c st' ⟨hE,⟨r,na,nb,out,mg,ac,bc,rfl,hg⟩ | ⟨na,nb,out,mg,ac,bc,rfl,M,h1,h2,h3⟩⟩
    .exact wpS_pure ⟨hE,r,na,nb,out,_,rfl,hg⟩
    .dsimp only
     refine wpS_bind (wpS_modify ?_)
     exact wpS_pure ⟨hE,_,_,_,_,rfl,M,h1,h2,by lia⟩
   case s3 =>
    rintro x c st' _ hx ⟨hE,na,nb,out,mg,ac,bc,rfl,M,h1,h2,h3⟩
    have hna:na<=a.size:=M.ha
    have hnb:nb<=b.size:=M.hb
    dsimp only
    obtain ⟨v,hv,sv,hv'⟩:=atB (nb - 1) (by lia)
    by_cases cm:mg > 1
    all_goals
     first | rw[if_pos cm] | rw[if_neg cm]
     refine wpS_bind (wpS_modify ?_)
     refine wpS_bind (zg hv ?_)
     refine wpS_bind (zN C (st:=_) (hE.1.trans hk) sv (by lia) (fun i=>!O.blt (key v) (key (a.getD (0+i) v))) (fun i hi=>gA 0 v i (by lia)) (fun i j q1 q2=>mA 0 v i j q1 (by lia)) (fun t k1 k2 k3=>?_))
     dsimp only
     by_cases c1:na - t > 0
     .rw[if_pos c1]
      have M2:=zdw M hX k1 (fun i q1 q2 x hx y hy=>Le.trans (upB nb v (by lia) hv' y hy) (highT t _ v k3 i q1 q2 x hx))
      by_cases c2:t=0
      .rw[if_pos (by simpa using c2)]
       exact wpS_pure ⟨hE,.inl ⟨_,_,_,_,_,_,_,rfl,wo M2 hX hY (.inl c2)⟩⟩
      rw[if_neg (by simpa using c2)]
      have M3:=qh M2 hY (by lia) hv (lowT t v (by lia) k2)
      refine wpS_bind (zg hv ?_)
      by_cases c3:nb - 1=1
      .rw[if_pos (by simpa using c3)]
       exact wpS_pure ⟨hE,.inl ⟨_,_,_,_,_,_,_,rfl,wH M3 hX hY hf c3⟩⟩
      rw[if_neg (by simpa using c3)]
      obtain ⟨u,hu,su,hu'⟩:=atA (t - 1) (by lia)
      refine wpS_bind (zg hu ?_)
      refine wpS_bind (zN C (st:=_) (hE.1.trans hk) su (by lia) (fun i=>O.blt (key (b.getD (0+i) u)) (key u)) (fun i hi=>gB 0 u i (by lia)) (fun i j q1 q2=>mB 0 u i j q1 (by lia)) (fun t' k1' k2' k3'=>?_))
      dsimp only
      by_cases c5:nb - 1 - t' > 0
      .rw[if_pos c5]
       have M4:=zad M3 hY k1' (fun i q1 q2 y hy x hx=>Le.trans (upA t u (by lia) hu' x hx) (highU t' _ u k3' i q1 q2 y hy))
       by_cases c6:t'=1
       .rw[if_pos (by simpa using c6)]
        exact wpS_pure ⟨hE,.inl ⟨_,_,_,_,_,_,_,rfl,wH M4 hX hY hf c6⟩⟩
       rw[if_neg (by simpa using c6)]
       by_cases c7:t'=0
       .rw[if_pos (by simpa using c7)]
        exact wpS_pure ⟨hE,.inl ⟨_,_,_,_,_,_,_,rfl,wo M4 hX hY (.inr c7)⟩⟩
       rw[if_neg (by simpa using c7)]
       have M5:=wI M4 hX (by lia) hu (lowU t' u (by lia) k2')
       refine wpS_bind (zg hu ?_)
       by_cases c8:t - 1=0
       .rw[if_pos (by simpa using c8)]
        exact wpS_pure ⟨hE,.inl ⟨_,_,_,_,_,_,_,rfl,wo M5 hX hY (.inl c8)⟩⟩
       .rw[if_neg (by simpa using c8)]
        split
        .exact wpS_pure ⟨hE,.inr ⟨_,_,_,_,_,_,rfl,M5,by lia,by lia,by lia⟩⟩
        .exact wpS_pure ⟨hE,_,_,_,_,_,_,rfl,M5,by lia,by lia,by lia⟩
      .rw[if_neg c5]
       have M5:=wI M3 hX (by lia) hu (lowU (nb - 1) u (by lia) (fun i q=>k2' i (by lia)))
       refine wpS_bind (zg hu ?_)
       by_cases c8:t - 1=0
       .rw[if_pos (by simpa using c8)]
        exact wpS_pure ⟨hE,.inl ⟨_,_,_,_,_,_,_,rfl,wo M5 hX hY (.inl c8)⟩⟩
       .rw[if_neg (by simpa using c8)]
        split
        .exact wpS_pure ⟨hE,.inr ⟨_,_,_,_,_,_,rfl,M5,by lia,by lia,by lia⟩⟩
        .exact wpS_pure ⟨hE,_,_,_,_,_,_,rfl,M5,by lia,by lia,by lia⟩
     .rw[if_neg c1]
      have M2:=M
      replace k2:∀i,i < na->(!O.blt (key v) (key (a.getD (0+i) v)))=true:=fun i q=>k2 i (by lia)
      have M3:=qh M2 hY (by lia) hv (lowT na v (by lia) k2)
      refine wpS_bind (zg hv ?_)
      by_cases c3:nb - 1=1
      .rw[if_pos (by simpa using c3)]
       exact wpS_pure ⟨hE,.inl ⟨_,_,_,_,_,_,_,rfl,wH M3 hX hY hf c3⟩⟩
      rw[if_neg (by simpa using c3)]
      obtain ⟨u,hu,su,hu'⟩:=atA (na - 1) (by lia)
      refine wpS_bind (zg hu ?_)
      refine wpS_bind (zN C (st:=_) (hE.1.trans hk) su (by lia) (fun i=>O.blt (key (b.getD (0+i) u)) (key u)) (fun i hi=>gB 0 u i (by lia)) (fun i j q1 q2=>mB 0 u i j q1 (by lia)) (fun t' k1' k2' k3'=>?_))
      dsimp only
      by_cases c5:nb - 1 - t' > 0
      .rw[if_pos c5]
       have M4:=zad M3 hY k1' (fun i q1 q2 y hy x hx=>Le.trans (upA na u (by lia) hu' x hx) (highU t' _ u k3' i q1 q2 y hy))
       by_cases c6:t'=1
       .rw[if_pos (by simpa using c6)]
        exact wpS_pure ⟨hE,.inl ⟨_,_,_,_,_,_,_,rfl,wH M4 hX hY hf c6⟩⟩
       rw[if_neg (by simpa using c6)]
       by_cases c7:t'=0
       .rw[if_pos (by simpa using c7)]
        exact wpS_pure ⟨hE,.inl ⟨_,_,_,_,_,_,_,rfl,wo M4 hX hY (.inr c7)⟩⟩
       rw[if_neg (by simpa using c7)]
       have M5:=wI M4 hX (by lia) hu (lowU t' u (by lia) k2')
       refine wpS_bind (zg hu ?_)
       by_cases c8:na - 1=0
       .rw[if_pos (by simpa using c8)]
        exact wpS_pure ⟨hE,.inl ⟨_,_,_,_,_,_,_,rfl,wo M5 hX hY (.inl c8)⟩⟩
       .rw[if_neg (by simpa using c8)]
        split
        .exact wpS_pure ⟨hE,.inr ⟨_,_,_,_,_,_,rfl,M5,by lia,by lia,by lia⟩⟩
        .exact wpS_pure ⟨hE,_,_,_,_,_,_,rfl,M5,by lia,by lia,by lia⟩
      .rw[if_neg c5]
       have M5:=wI M3 hX (by lia) hu (lowU (nb - 1) u (by lia) (fun i q=>k2' i (by lia)))
       refine wpS_bind (zg hu ?_)
       by_cases c8:na - 1=0
       .rw[if_pos (by simpa using c8)]
        exact wpS_pure ⟨hE,.inl ⟨_,_,_,_,_,_,_,rfl,wo M5 hX hY (.inl c8)⟩⟩
       .rw[if_neg (by simpa using c8)]
        split
        .exact wpS_pure ⟨hE,.inr ⟨_,_,_,_,_,_,rfl,M5,by lia,by lia,by lia⟩⟩
        .exact wpS_pure ⟨hE,_,_,_,_,_,_,rfl,M5,by lia,by lia,by lia⟩
end
section
variable {O:KeyOrd}{key:Keyed->O.α}{S:Keyed->Prop}
theorem zae:∀ (l:List Keyed) (n sa:Nat) (xs:Array Keyed),sa+n+l.length<=xs.size ->
  ((l.zipIdx n).foldl (fun (a:Array Keyed) (pj:Keyed×Nat)=>a.setIfInBounds (sa+pj.2) pj.1) xs).toList=xs.toList.take (sa+n)++l++xs.toList.drop (sa+n+l.length)
 | [],n,sa,xs,h=>by simp
 | x::l,n,sa,xs,h=>by
  rw[List.zipIdx_cons,List.foldl_cons]
  have hl:sa+n < xs.toList.length:=by simp at h ⊢;lia
  rw[zae l (n+1) sa _ (by simp at h ⊢;lia)]
  rw[Array.toList_setIfInBounds]
  have e1:(xs.toList.set (sa+n) x).take (sa+(n+1))=xs.toList.take (sa+n)++[x]:=by
   rw[show sa+(n+1)=sa+n+1 by lia,zO (x:=x) (by rw[List.getElem?_set_self hl]),List.take_set_of_le (Nat.le_refl _)]
  have e2:(xs.toList.set (sa+n) x).drop (sa+(n+1)+l.length)=xs.toList.drop (sa+n+(x::l).length):=by
   rw[List.drop_set_of_lt (by lia),show sa+(n+1)+l.length=sa+n+(x::l).length by simp;lia]
  rw[e1,e2]
  simp
variable {prog:Program}{w:World}{A:Around}{E:Value->Shared->Prop}{s:Shared}
structure Ok (O:KeyOrd)(key:Keyed->O.α)(S:Keyed->Prop)(st:SortSt)(pend:List (Nat×Nat×Nat))(l:List Keyed):Prop where
 kind:kindOf st=oneType'
 failed:failedOf st=none
 pend:(pendingOf st).toList=pend
 arr:(arrOf st).toList=l
 all:∀x∈l,S x
theorem jg {U V:List Keyed}(hU:Srt O key U)(hV:Srt O key V)(h:∀x y,U[U.length - 1]?=some x->V[0]?=some y->Le O key x y):Srt O key (U++V):=by
 refine zM hU hV fun x hx y hy=>?_
 obtain ⟨i,hi⟩:=List.getElem?_of_mem hx
 obtain ⟨j,hj⟩:=List.getElem?_of_mem hy
 have h1:=(List.getElem?_eq_some_iff.mp hi).1
 have h2:=(List.getElem?_eq_some_iff.mp hj).1
 have a1:U[U.length - 1]?=some (U[U.length - 1]'(by lia)):=by simp
 have a2:V[0]?=some (V[0]'(by lia)):=by simp
 exact ((hU.at_le (by lia) hi a1).trans (h _ _ a1 a2)).trans (hV.at_le (by lia) a2 hj)
theorem zdx {x st:SortSt}{Q:PUnit->SortSt->Prop}(h:Q ⟨⟩ x):wpS (model prog w) A E s (set x:StateT SortSt Sem PUnit) Q st:=by
 unfold wpS;rw[StateT.run_set];exact wpAny_pure ⟨rfl,h⟩
noncomputable def zbZ:Nat->StateT SortSt Sem Bool:=sortPriv% PySem.Builtin.mergeAt
theorem j6 (C:Cmp prog w A E s O key S){st:SortSt}{Q:Bool->SortSt->Prop}{p1 p2:List (Nat×Nat×Nat)}{sa na po sb nb po2:Nat}{P U V R:List Keyed}
  (K:Ok O key S st (p1++(sa,na,po)::(sb,nb,po2)::p2) (P++(U++(V++R)))) (hsa:sa=P.length) (hna:na=U.length) (hsb:sb=P.length+U.length) (hnb:nb=V.length) (hU0:0 < U.length) (hV0:0 < V.length) (hU:Srt O key U) (hV:Srt O key V)
  (h:∀st' W,Ok O key S st' (p1++(sa,na+nb,po)::p2) (P++(W++R))->Srt O key W->W.Perm (U++V)->Q true st') :
  wpS (model prog w) A E s (zbZ p1.length) Q st:=by
 have e1:(pendingOf st)[p1.length]?=some (sa,na,po):=by rw[<- Array.getElem?_toList,K.pend];simp
 have e2:(pendingOf st)[p1.length+1]?=some (sb,nb,po2):=by rw[<- Array.getElem?_toList,K.pend];simp
 have hp:(((pendingOf st).setIfInBounds p1.length (sa,na+nb,po)).eraseIdxIfInBounds (p1.length+1)).toList=p1++(sa,na+nb,po)::p2:=by
  rw[Array.toList_eraseIdxIfInBounds,Array.toList_setIfInBounds,K.pend]
  simp[List.set_append,List.eraseIdx_append]
  intro hh;lia
 have atU:∀i,i < U.length->(arrOf st)[P.length+i]?=U[i]?:=fun i hi=>by
  rw[<- Array.getElem?_toList,K.arr,List.getElem?_append_right (by lia),show P.length+i - P.length=i by lia,List.getElem?_append_left hi]
 have atV:∀i,i < V.length->(arrOf st)[P.length+U.length+i]?=V[i]?:=fun i hi=>by
  rw[<- Array.getElem?_toList,K.arr,List.getElem?_append_right (by lia),List.getElem?_append_right (by lia),show P.length+U.length+i - P.length - U.length=i by lia,List.getElem?_append_left hi]
 refine wpS_bind (wpS_get ?_)
 dsimp only
 rw[e1,e2]
 dsimp only
 refine wpS_bind (zdx ?_)
 have K1:Ok O key S (SortSt.mk' (kindOf st) (arrOf st) (((pendingOf st).setIfInBounds p1.length (sa,na+nb,po)).eraseIdxIfInBounds (p1.length+1)) (gallopOf st) (failedOf st)) (p1++(sa,na+nb,po)::p2) (P++(U++(V++R))):=⟨K.kind,K.failed,hp,K.arr,K.all⟩
 have whole:Srt O key (U++V)->Q true (SortSt.mk' (kindOf st) (arrOf st) (((pendingOf st).setIfInBounds p1.length (sa,na+nb,po)).eraseIdxIfInBounds (p1.length+1)) (gallopOf st) (failedOf st)):=fun hs=>by
  refine h _ (U++V) ?_ hs (.refl _)
  rw[List.append_assoc]
  exact K1
 have sU:∀x∈U,S x:=fun x hx=>K.all x (by simp[hx])
 have sV:∀x∈V,S x:=fun x hx=>K.all x (by simp[hx])
 have gU:∀i,i < U.length->∃x,U[i]?=some x/\S x:=fun i hi=>⟨U[i],by simp[hi],sU _ (by simp)⟩
 have gV:∀i,i < V.length->∃x,V[i]?=some x/\S x:=fun i hi=>⟨V[i],by simp[hi],sV _ (by simp)⟩
 obtain ⟨v0,hv0,sv0⟩:=gV 0 hV0
 obtain ⟨u1,hu1,su1⟩:=gU (U.length - 1) (by lia)
 subst hsa hna hsb hnb
 have hel:(arrOf st)[P.length+U.length]?=some v0:=by have:=atV 0 hV0;rw[Nat.add_zero] at this;rw[this,hv0]
 refine wpS_bind (zg hel ?_)
 refine wpS_bind (zN C (left:=false) K.kind sv0 hU0 (fun i=>!O.blt (key v0) (key (U.getD i v0))) (fun i hi=>?g1) ?m1 (fun k k1 k2 k3=>?c1))
 case g1 =>
  obtain ⟨x,hx,sx⟩:=gU i hi
  exact ⟨x,by rw[<- hx];exact atU i hi,sx,by rw[if_neg (by simp),List.getD_eq_getElem?_getD,hx];rfl⟩
 case m1 =>
  intro i j hij hj hB
  obtain ⟨x,hx,_⟩:=gU i (by lia)
  obtain ⟨y,hy,_⟩:=gU j hj
  simp only[List.getD_eq_getElem?_getD,hx,hy,Option.getD_some] at hB ⊢
  have e:Le O key x v0:=Le.trans (hU.at_le hij hx hy) (show O.blt (key v0) (key y)=false from by simpa using hB)
  simpa using (show O.blt (key v0) (key x)=false from e)
 have lowU:∀i x,i < k->U[i]?=some x->Le O key x v0:=fun i x hi hx=>by
  have:=k2 i hi
  simp only[List.getD_eq_getElem?_getD,hx,Option.getD_some] at this
  exact (show O.blt (key v0) (key x)=false from by simpa using this)
 have highU:∀i x,k<=i->U[i]?=some x->Le O key v0 x:=fun i x hi hx=>by
  have:=k3 i hi (List.getElem?_eq_some_iff.mp hx).1
  simp only[List.getD_eq_getElem?_getD,hx,Option.getD_some] at this
  exact KeyOrd.kle_of_klt (show O.blt (key v0) (key x)=true from by simpa using this)
 dsimp only
 by_cases c1:U.length - k=0
 .rw[if_pos (by simpa using c1)]
  refine wpS_pure (whole (jg hU hV fun x y hx hy=>?_))
  rw[hv0] at hy;cases hy
  exact lowU _ x (by lia) hx
 rw[if_neg (by simpa using c1)]
 have hel2:(arrOf st)[P.length+k+(U.length - k) - 1]?=some u1:=by
  rw[<- hu1,<- atU (U.length - 1) (by lia)]
  congr 1;lia
 refine wpS_bind (zg hel2 ?_)
 refine wpS_bind (zN C (left:=true) K.kind su1 (by lia) (fun i=>O.blt (key (V.getD i u1)) (key u1)) (fun i hi=>?g2) ?m2 (fun n2 q1 q2 q3=>?c2))
 case g2 =>
  obtain ⟨x,hx,sx⟩:=gV i hi
  exact ⟨x,by rw[<- hx];exact atV i hi,sx,by rw[if_pos rfl,List.getD_eq_getElem?_getD,hx];rfl⟩
 case m2 =>
  intro i j hij hj hB
  obtain ⟨x,hx,_⟩:=gV i (by lia)
  obtain ⟨y,hy,_⟩:=gV j hj
  simp only[List.getD_eq_getElem?_getD,hx,hy,Option.getD_some] at hB ⊢
  exact KeyOrd.klt_of_kle_of_klt (hV.at_le hij hx hy) hB
 have lowV:∀i y,i < n2->V[i]?=some y->Le O key y u1:=fun i y hi hy=>by
  have:=q2 i hi
  simp only[List.getD_eq_getElem?_getD,hy,Option.getD_some] at this
  exact KeyOrd.kle_of_klt this
 have highV:∀i y,n2<=i->V[i]?=some y->Le O key u1 y:=fun i y hi hy=>by
  have:=q3 i hi (List.getElem?_eq_some_iff.mp hy).1
  simp only[List.getD_eq_getElem?_getD,hy,Option.getD_some] at this
  exact this
 dsimp only
 by_cases c2:n2=0
 .rw[if_pos (by simpa using c2)]
  refine wpS_pure (whole (jg hU hV fun x y hx hy=>?_))
  rw[hu1] at hx;cases hx
  exact highV 0 y (by lia) hy
 rw[if_neg (by simpa using c2)]
 have hx:((arrOf st).extract (P.length+k) (P.length+U.length)).toList=U.drop k:=by
  rw[Array.toList_extract,List.extract_eq_take_drop,K.arr,List.drop_append,List.drop_eq_nil_of_le (by lia),List.nil_append,show P.length+k - P.length=k by lia,List.drop_append_of_le_length (by lia)]
  rw[List.take_append_of_le_length (by simp;lia),List.take_of_length_le (by simp;lia)]
 have hy:((arrOf st).extract (P.length+U.length) (P.length+U.length+n2)).toList=V.take n2:=by
  rw[Array.toList_extract,List.extract_eq_take_drop,K.arr,<- List.append_assoc,List.drop_append,List.drop_eq_nil_of_le (by simp),List.nil_append,show P.length+U.length - (P++U).length=0 by simp,List.drop_zero,show P.length+U.length+n2 - (P.length+U.length)=n2 by lia]
  rw[List.take_append_of_le_length q1]
 have hsx:((arrOf st).extract (P.length+k) (P.length+U.length)).size=U.length - k:=by rw[<- Array.length_toList,hx,List.length_drop]
 have hsy:((arrOf st).extract (P.length+U.length) (P.length+U.length+n2)).size=n2:=by rw[<- Array.length_toList,hy,List.length_take];lia
 have lastx:∀x,(U.drop k)[U.length - k - 1]?=some x->x=u1:=fun x hh=>by
  rw[List.getElem?_drop,show k+(U.length - k - 1)=U.length - 1 by lia,hu1] at hh
  cases hh;rfl
 have firsty:∀y,(V.take n2)[0]?=some y->y=v0:=fun y hh=>by
  rw[List.getElem?_take_of_lt (by lia),hv0] at hh
  cases hh;rfl
 have dropU:∀x∈U.drop k,Le O key v0 x:=fun x hh=>by
  obtain ⟨i,hi⟩:=List.getElem?_of_mem hh
  rw[List.getElem?_drop] at hi
  exact highU (k+i) x (by lia) hi
 have takeV:∀y∈V.take n2,Le O key y u1:=fun y hh=>by
  obtain ⟨i,hi⟩:=List.getElem?_of_mem hh
  have hlt:=(List.getElem?_eq_some_iff.mp hi).1
  rw[List.length_take] at hlt
  rw[List.getElem?_take_of_lt (by lia)] at hi
  exact lowV i y (by lia) hi
 have fin:∀ (r:Array Keyed) (st':SortSt),Eqv (SortSt.mk' (kindOf st) (arrOf st) (((pendingOf st).setIfInBounds p1.length (P.length,U.length+V.length,po)).eraseIdxIfInBounds (p1.length+1)) (gallopOf st) (failedOf st)) st'->xr O key (U.drop k) (V.take n2) r.toList ->
   Q (failedOf st').isNone (SortSt.mk' (kindOf st') (r.toList.zipIdx.foldl (fun (a:Array Keyed) (pj:Keyed×Nat)=>a.setIfInBounds (P.length+k+pj.2) pj.1) (arrOf st')) (pendingOf st') (gallopOf st') (failedOf st')):=by
  intro r st' hE hg
  obtain ⟨E1,E2,E3,E4⟩:=hE
  have hf:failedOf st'=none:=E4.trans K.failed
  rw[show (failedOf st').isNone=true by rw[hf];rfl]
  have hlen:r.toList.length=U.length - k+n2:=by rw[hg.2.length_eq,List.length_append,List.length_drop,List.length_take];lia
  refine h _ (U.take k++r.toList++V.drop n2) ⟨E1.trans K.kind,hf,?_,?_,?_⟩ ?_ ?_
  .show (pendingOf st').toList=_
   rw[E3];exact hp
  .show (r.toList.zipIdx.foldl _ (arrOf st')).toList=_
   have E2':arrOf st'=arrOf st:=E2
   rw[E2',zae r.toList 0 (P.length+k) _ (by rw[<- Array.length_toList,K.arr,hlen];simp;lia),K.arr,hlen]
   have t1:(P++(U++(V++R))).take (P.length+k+0)=P++U.take k:=by
    rw[Nat.add_zero,List.take_append,List.take_of_length_le (by lia),show P.length+k - P.length=k by lia,List.take_append_of_le_length (by lia)]
   have t2:(P++(U++(V++R))).drop (P.length+k+0+(U.length - k+n2))=V.drop n2++R:=by
    rw[<- List.append_assoc,<- List.append_assoc,List.drop_append_of_le_length (by simp;lia),List.drop_append,List.drop_eq_nil_of_le (by simp;lia),List.nil_append]
    congr 2;simp;lia
   rw[t1,t2]
   simp
  .intro x hx'
   have m1:∀z∈r.toList,z∈U\/z∈V:=fun z hz=>by
    have:=hg.2.mem_iff.mp hz
    rcases List.mem_append.mp this with q | q
    .exact .inl (List.mem_of_mem_drop q)
    .exact .inr (List.mem_of_mem_take q)
   simp only[List.mem_append] at hx'
   rcases hx' with q | ((q | q) | q) | q
   .exact K.all x (by simp[q])
   .exact sU x (List.mem_of_mem_take q)
   .rcases m1 x q with q | q
    .exact sU x q
    .exact sV x q
   .exact sV x (List.mem_of_mem_drop q)
   .exact K.all x (by simp[q])
  .have uV:∀x∈U,Le O key x u1:=fun x hx'=>by
    have:=hU.take_le hu1 x (by rw[show U.length - 1+1=U.length by lia,List.take_length];exact hx')
    exact this
   have vV:∀y∈V,Le O key v0 y:=fun y hy'=>hV.drop_le hv0 y (by simpa using hy')
   have tU:∀x∈U.take k,Le O key x v0:=fun x hh=>by
    obtain ⟨i,hi⟩:=List.getElem?_of_mem hh
    have hlt:=(List.getElem?_eq_some_iff.mp hi).1
    rw[List.length_take] at hlt
    rw[List.getElem?_take_of_lt (by lia)] at hi
    exact lowU i x (by lia) hi
   have dV:∀y∈V.drop n2,Le O key u1 y:=fun y hh=>by
    obtain ⟨i,hi⟩:=List.getElem?_of_mem hh
    rw[List.getElem?_drop] at hi
    exact highV (n2+i) y (by lia) hi
   refine zM (zM (hU.sublist (List.take_sublist _ _)) hg.1 fun x hx' z hz=>?_) (hV.sublist (List.drop_sublist _ _)) fun x hx' y hy'=>?_
   .rcases List.mem_append.mp (hg.2.mem_iff.mp hz) with q | q
    .exact (tU x hx').trans (dropU z q)
    .exact (tU x hx').trans (vV z (List.mem_of_mem_take q))
   .rcases List.mem_append.mp hx' with q | q
    .exact (uV x (List.mem_of_mem_take q)).trans (dV y hy')
    .rcases List.mem_append.mp (hg.2.mem_iff.mp q) with q | q
     .exact (uV x (List.mem_of_mem_drop q)).trans (dV y hy')
     .exact (takeV x q).trans (dV y hy')
  .refine ((hg.2.append_left _).append_right _).trans ?_
   rw[<- List.append_assoc,List.take_append_drop,List.append_assoc,List.take_append_drop]
 by_cases c3:U.length - k<=n2
 .rw[if_pos c3]
  refine wpS_bind (j4 C K.kind (by rw[hx];exact hU.sublist (List.drop_sublist _ _)) (by rw[hy];exact hV.sublist (List.take_sublist _ _)) (by rw[hx];exact fun x q=>sU x (List.mem_of_mem_drop q)) (by rw[hy];exact fun x q=>sV x (List.mem_of_mem_take q)) (by rw[hsy];lia) (by rw[hsx];lia) ?_ ?_ (fun r st' hE hg=>?_))
  .rw[hx]
   intro x hx' y hy'
   rw[<- Array.getElem?_toList,hy] at hy'
   rw[firsty y hy']
   exact dropU x hx'
  .rw[hx,hy]
   intro y hy' x hx'
   rw[List.length_drop] at hx'
   rw[lastx x hx']
   exact takeV y hy'
  .rw[hx,hy] at hg
   exact wpS_bind (wpS_modify (wpS_bind (wpS_get (wpS_pure (fin r st' hE hg)))))
 .rw[if_neg c3]
  refine wpS_bind (j5 C K.kind (by rw[hx];exact hU.sublist (List.drop_sublist _ _)) (by rw[hy];exact hV.sublist (List.take_sublist _ _)) (by rw[hx];exact fun x q=>sU x (List.mem_of_mem_drop q)) (by rw[hy];exact fun x q=>sV x (List.mem_of_mem_take q)) (by rw[hsy];lia) (by rw[hsx];lia) ?_ ?_ (fun r st' hE hg=>?_))
  .rw[hx,hy]
   intro x hx' y hy'
   rw[firsty y hy']
   exact dropU x hx'
  .rw[hy,hsx]
   intro y hy' x hx'
   rw[<- Array.getElem?_toList,hx] at hx'
   rw[lastx x hx']
   exact takeV y hy'
  .rw[hx,hy] at hg
   exact wpS_bind (wpS_modify (wpS_bind (wpS_get (wpS_pure (fin r st' hE hg)))))
end
section
variable {O:KeyOrd}{key:Keyed->O.α}{S:Keyed->Prop}
variable {prog:Program}{w:World}{A:Around}{E:Value->Shared->Prop}{s:Shared}
theorem y3 (C:Cmp prog w A E s O key S){st:SortSt}{pend:List (Nat×Nat×Nat)}{l:List Keyed}(K:Ok O key S st pend l){i j:Nat}{x y:Keyed}{Q:Option Bool->SortSt->Prop}(hi:l[i]?=some x)(hj:l[j]?=some y)(q:Q (some (O.blt (key x) (key y))) st):
  wpS (model prog w) A E s (ltAt' i j) Q st:=by
 rw[ltAt'_eq]
 refine wpS_bind (wpS_get ?_)
 refine wpS_bind (zg (by rw[<- Array.getElem?_toList,K.arr];exact hi) (wpS_bind (zg (by rw[<- Array.getElem?_toList,K.arr];exact hj) ?_)))
 exact C x y st _ (K.all x (List.mem_of_getElem? hi)) (K.all y (List.mem_of_getElem? hj)) K.kind q
def Dis (O:KeyOrd)(key:Keyed->O.α)(l:List Keyed):Prop:=(l.map key).Nodup
theorem Dis.at {l:List Keyed}(h:Dis O key l){i j:Nat}{x y:Keyed}(hij:i≠j)(hx:l[i]?=some x)(hy:l[j]?=some y)(hb:O.blt (key x) (key y)=false):O.blt (key y) (key x)=true:=by
 cases z:O.blt (key y) (key x) with
 | true=>rfl
 | false =>
  exfalso
  have e:=O.total _ _ hb z
  obtain ⟨hi,rfl⟩:=List.getElem?_eq_some_iff.mp hx
  obtain ⟨hj,rfl⟩:=List.getElem?_eq_some_iff.mp hy
  rcases Nat.lt_or_gt_of_ne hij with q | q
  .have:=(List.pairwise_iff_getElem.mp h) i j (by simpa using hi) (by simpa using hj) q
   exact this (by simpa using e)
  .have:=(List.pairwise_iff_getElem.mp h) j i (by simpa using hj) (by simpa using hi) q
   exact this (by simpa using e.symm)
theorem Dis.perm {l r:List Keyed}(h:Dis O key l)(p:r.Perm l):Dis O key r:=(p.map key).nodup_iff.mpr h
theorem Dis.right {l r:List Keyed}(h:Dis O key (l++r)):Dis O key r:=by
 unfold Dis at h ⊢
 rw[List.map_append] at h
 exact (List.nodup_append.mp h).2.1
theorem zb0 {T:List Keyed}{x:Nat}{u v:Keyed}(h:Srt O key (T.take x))(h1:1<=x)(hu:T[x]?=some u)(hv:T[x - 1]?=some v)(hl:Le O key v u):Srt O key (T.take (x+1)):=by
 rw[zO hu]
 refine jg h (by simp[Srt]) fun p q hp hq=>?_
 have hx:=(List.getElem?_eq_some_iff.mp hu).1
 rw[List.length_take,Nat.min_eq_left (by lia),List.getElem?_take_of_lt (by lia),hv] at hp
 cases hp
 simp at hq
 rw[<- hq];exact hl
theorem qi {xs:Array Keyed}{P T:List Keyed}(h:xs.toList=P++T)(n:Nat)(hn:n<=T.length):(mirror xs P.length (P.length+n) ((P.length+n - P.length) / 2)).toList=P++((T.take n).reverse++T.drop n):=by
 have hs:xs.size=P.length+T.length:=by rw[<- Array.length_toList,h,List.length_append]
 apply List.ext_getElem?
 intro k
 rw[Array.getElem?_toList,getElem?_mirror_all (by lia)]
 by_cases c:P.length<=k/\k < P.length+n
 .rw[if_pos c,<- Array.getElem?_toList,h,List.getElem?_append_right (by lia),List.getElem?_append_right (by lia),List.getElem?_append_left (by simp;lia),List.getElem?_reverse (by simp;lia),List.getElem?_take_of_lt (by simp;lia)]
  congr 1
  simp
  lia
 .rw[if_neg c,<- Array.getElem?_toList,h]
  by_cases c2:k < P.length
  .rw[List.getElem?_append_left c2,List.getElem?_append_left c2]
  .rw[List.getElem?_append_right (by lia),List.getElem?_append_right (by lia),List.getElem?_append_right (by simp;lia),List.getElem?_drop]
   congr 1
   simp
   lia
theorem jh (C:Cmp prog w A E s O key S){st:SortSt}{pend:List (Nat×Nat×Nat)}{P T:List Keyed}{Q:Option Nat->SortSt->Prop}(K:Ok O key S st pend (P++T))(h0:0 < T.length)(hd:Dis O key T)
  (h:∀st' U R,Ok O key S st' pend (P++(U++R))->Srt O key U->(U++R).Perm T->0 < U.length->Q (some U.length) st') :
  wpS (model prog w) A E s (countRun' P.length T.length) Q st:=by
 have fin:∀ {st':SortSt}{T':List Keyed}{n:Nat},Ok O key S st' pend (P++T')->T'.Perm T->1<=n->n<=T'.length->Srt O key (T'.take n)->Q (some n) st':=by
  intro st' T' n K' hp h1 h2 hs
  have e:=h st' (T'.take n) (T'.drop n) (by rw[List.take_append_drop];exact K') hs (by rw[List.take_append_drop];exact hp) (by rw[List.length_take];lia)
  rwa [List.length_take,Nat.min_eq_left h2] at e
 have asc:∀ {st':SortSt}{T':List Keyed}{a:Nat}{Q':Option (Option Nat)×Nat->SortSt->Prop},Ok O key S st' pend (P++T')->T'.length=T.length->1<=a->a<=T.length->Srt O key (T'.take a) ->
   (∀n,a<=n->n<=T.length->Srt O key (T'.take n)->(n=T.length\/∃u v,T'[n]?=some u/\T'[n - 1]?=some v/\O.blt (key u) (key v)=true)->Q' (none,n) st') ->
   wpS (model prog w) A E s (forIn [a:T.length] ((none,a):Option (Option Nat)×Nat) fun _ __s=>do
    let __x <- ltAt' (P.length+__s.snd) (P.length+__s.snd - 1)
    match __x with
    | some smaller=>if smaller=true then pure (ForInStep.done (none,__s.snd)) else pure (ForInStep.yield (none,__s.snd+1))
    | _=>pure (ForInStep.done (some none,__s.snd))) Q' st':=by
  intro st' T' a Q' K' hT h1 h2 hs hq
  refine wpS_forRange (I:=fun x c st2=>st'=st2/\c=(none,x)/\Srt O key (T'.take x)) ?s1 ?f1 ⟨rfl,rfl,hs⟩
  case f1 =>
   rintro c st2 ⟨rfl,rfl,hs'⟩
   rw[show max a T.length=T.length by lia] at hs' ⊢
   exact hq _ h2 (Nat.le_refl _) hs' (.inl rfl)
  case s1 =>
   rintro x c st2 hax hxn ⟨rfl,rfl,hs'⟩
   dsimp only
   have hu:T'[x]?=some (T'[x]'(by lia)):=by simp
   have hv:T'[x - 1]?=some (T'[x - 1]'(by lia)):=by simp
   refine wpS_bind (y3 C K' (x:=T'[x]'(by lia)) (y:=T'[x - 1]'(by lia)) (by rw[List.getElem?_append_right (by lia),show P.length+x - P.length=x by lia];exact hu) (by rw[List.getElem?_append_right (by lia),show P.length+x - 1 - P.length=x - 1 by lia];exact hv) ?_)
   dsimp only
   cases hc:O.blt (key (T'[x]'(by lia))) (key (T'[x - 1]'(by lia))) with
   | true =>
    rw[if_pos rfl]
    exact wpS_pure (hq x hax (by lia) hs' (.inr ⟨_,_,hu,hv,hc⟩))
   | false =>
    rw[if_neg (by simp)]
    exact wpS_pure ⟨rfl,rfl,zb0 hs' (by lia) hu hv hc⟩
 refine wpS_bind (asc K rfl (Nat.le_refl 1) h0 (by
  cases T with
  | nil=>simp at h0
  | cons t T=>simp[Srt]) fun n n1 n2 hs hor=>?_)
 dsimp only
 by_cases c1:n=T.length
 .rw[if_pos (by simpa using c1)]
  exact wpS_pure (fin K (.refl _) n1 n2 hs)
 rw[if_neg (by simpa using c1)]
 obtain ⟨u,v,hu,hv,hlt⟩:=hor.resolve_left c1
 have a0:T[0]?=some (T[0]'h0):=by simp
 by_cases c2:n > 1
 .rw[if_pos c2]
  refine wpS_bind (y3 C K (x:=T[0]'h0) (y:=v) (by rw[List.getElem?_append_right (by lia),show P.length - P.length=0 by lia];exact a0) (by rw[List.getElem?_append_right (by lia),show P.length+n - 1 - P.length=n - 1 by lia];exact hv) ?_)
  have hle:Le O key (T[0]'h0) v:=hs.at_le (i:=0) (j:=n - 1) (by lia) (by rw[List.getElem?_take_of_lt (by lia)];exact a0) (by rw[List.getElem?_take_of_lt (by lia)];exact hv)
  rw[hd.at (i:=n - 1) (j:=0) (by lia) hv a0 hle]
  dsimp only
  rw[if_pos rfl]
  exact wpS_pure (fin K (.refl _) n1 n2 hs)
 rw[if_neg c2]
 obtain rfl:n=1:=by lia
 refine wpS_bind (wpS_lift (wpAny_rule ⟨rfl,?_⟩))
 have d2:Srt O key (T.take 2).reverse:=by
  rw[zO hu,List.reverse_append]
  have e1:T.take 1=[v]:=by rw[show (1:Nat)=0+1 from rfl,zO (i:=0) hv];simp
  rw[e1]
  refine List.pairwise_cons.mpr ⟨fun z hz=>?_,by simp⟩
  simp at hz
  rw[hz]
  exact KeyOrd.kle_of_klt hlt
 have hT2:2<=T.length:=by lia
 refine wpS_bind (wpS_mono (wpS_forRange (I:=fun x c st2=>st=st2/\c=(none,x,0)/\Srt O key (T.take x).reverse) (Q:=fun c st2=>st=st2/\∃n,c=(none,n,0)/\2<=n/\n<=T.length/\Srt O key (T.take n).reverse) ?s2 ?f2 ⟨rfl,rfl,d2⟩) ?p2)
 case f2 =>
  rintro c st2 ⟨rfl,rfl,hs'⟩
  rw[show max (1+1) T.length=T.length by lia] at hs' ⊢
  exact ⟨rfl,_,rfl,hT2,Nat.le_refl _,hs'⟩
 case s2 =>
  rintro x c st2 hax hxn ⟨rfl,rfl,hs'⟩
  dsimp only
  have hu:T[x]?=some (T[x]'(by lia)):=by simp
  have hv:T[x - 1]?=some (T[x - 1]'(by lia)):=by simp
  have pu:(P++T)[P.length+x]?=some (T[x]'(by lia)):=by rw[List.getElem?_append_right (by lia),show P.length+x - P.length=x by lia];exact hu
  have pv:(P++T)[P.length+x - 1]?=some (T[x - 1]'(by lia)):=by rw[List.getElem?_append_right (by lia),show P.length+x - 1 - P.length=x - 1 by lia];exact hv
  refine wpS_bind (y3 C K pu pv ?_)
  dsimp only
  cases hc:O.blt (key (T[x]'(by lia))) (key (T[x - 1]'(by lia))) with
  | true =>
   rw[if_pos rfl,if_neg (by lia)]
   refine wpS_pure ⟨rfl,rfl,?_⟩
   rw[zO hu,List.reverse_append]
   refine List.pairwise_cons.mpr ⟨fun z hz=>?_,hs'⟩
   replace hz:z∈(T.take x).reverse:=hz
   rw[List.mem_reverse] at hz
   obtain ⟨i,hi⟩:=List.getElem?_of_mem hz
   have hlt':=(List.getElem?_eq_some_iff.mp hi).1
   rw[List.length_take] at hlt'
   have h1:((T.take x).reverse)[x - 1 - i]?=some z:=by
    rw[List.getElem?_reverse (by simp;lia)]
    rw[<- hi];congr 1;simp;lia
   have h2:((T.take x).reverse)[0]?=some (T[x - 1]'(by lia)):=by
    rw[List.getElem?_reverse (by simp;lia),List.getElem?_take_of_lt (by simp;lia),<- hv]
    congr 1;simp;lia
   exact Le.trans (KeyOrd.kle_of_klt hc) (hs'.at_le (Nat.zero_le _) h2 h1)
  | false =>
   rw[if_neg (by simp)]
   refine wpS_bind (y3 C K pv pu ?_)
   dsimp only
   rw[hd.at (i:=x) (j:=x - 1) (by lia) hu hv hc,if_pos rfl]
   exact wpS_pure ⟨rfl,x,rfl,by lia,by lia,hs'⟩
 case p2 =>
  rintro c st2 ⟨rfl,n,rfl,m1,m2,hs'⟩
  dsimp only
  rw[if_neg (by lia)]
  refine wpS_bind (wpS_reverse ?_)
  have hp:((T.take n).reverse++T.drop n).Perm T:=by
   have e:=(List.reverse_perm (T.take n)).append_right (T.drop n)
   rwa [List.take_append_drop] at e
  have hl:((T.take n).reverse++T.drop n).length=T.length:=hp.length_eq
  have ht:((T.take n).reverse++T.drop n).take n=(T.take n).reverse:=by
   rw[List.take_append_of_le_length (by simp;lia),List.take_of_length_le (by simp;lia)]
  have K2:Ok O key S (setArr st (mirror (arrOf st) P.length (P.length+n) ((P.length+n - P.length) / 2))) pend (P++((T.take n).reverse++T.drop n)) :=
   ⟨K.kind,K.failed,K.pend,qi K.arr n m2,fun x hx=>K.all x (by
    rcases List.mem_append.mp hx with q | q
    .simp[q]
    .exact List.mem_append_right _ (hp.mem_iff.mp q))⟩
  refine wpS_bind (asc K2 hl (by lia) m2 (by rw[ht];exact hs') fun n' n1' n2' hs2 _=>?_)
  exact wpS_pure (fin K2 hp (by lia) (by lia) hs2)
end
section
variable {O:KeyOrd}{key:Keyed->O.α}{S:Keyed->Prop}
variable {prog:Program}{w:World}{A:Around}{E:Value->Shared->Prop}{s:Shared}
theorem qj {xs:Array Keyed}{P T:List Keyed}(h:xs.toList=P++T)(k l:Nat)(hk:k < T.length)(hl:l<=k)(t:Keyed)(ht:T[k]?=some t):
  (bubble xs (P.length+k) (P.length+k - (P.length+l))).toList=P++(((T.take k).take l++[t]++(T.take k).drop l)++T.drop (k+1)):=by
 have hs:xs.size=P.length+T.length:=by rw[<- Array.length_toList,h,List.length_append]
 apply List.ext_getElem?
 intro j
 rw[Array.getElem?_toList,getElem?_bubble (by lia) _ (by lia)]
 have gx:∀j,xs[j]?=(P++T)[j]?:=fun j=>by rw[<- Array.getElem?_toList,h]
 simp only[gx]
 by_cases c0:j < P.length
 .rw[if_neg (by lia),if_neg (by lia),List.getElem?_append_left c0,List.getElem?_append_left c0]
 have cT:∀i,P.length<=i->(P++T)[i]?=T[i - P.length]?:=fun i hi=>List.getElem?_append_right hi
 rw[List.getElem?_append_right (l₁:=P) (l₂:=((T.take k).take l++[t]++(T.take k).drop l)++T.drop (k+1)) (by lia)]
 have len1:((T.take k).take l++[t]++(T.take k).drop l).length=k+1:=by simp;lia
 by_cases c1:j=P.length+k - (P.length+k - (P.length+l))
 .rw[if_pos c1,cT _ (by lia),show P.length+k - P.length=k by lia,ht]
  rw[List.getElem?_append_left (by rw[len1];lia),List.getElem?_append_left (by simp;lia),List.getElem?_append_right (by simp;lia)]
  rw[show j - P.length - ((T.take k).take l).length=0 by simp;lia]
  rfl
 rw[if_neg c1]
 by_cases c2:P.length+k - (P.length+k - (P.length+l)) < j/\j<=P.length+k
 .rw[if_pos c2,cT _ (by lia)]
  rw[List.getElem?_append_left (by rw[len1];lia),List.getElem?_append_right (by simp;lia),List.getElem?_drop,List.getElem?_take_of_lt (by simp;lia)]
  congr 1
  simp
  lia
 .rw[if_neg c2,cT _ (by lia)]
  by_cases c3:j - P.length < l
  .rw[List.getElem?_append_left (by rw[len1];lia),List.getElem?_append_left (by simp;lia),List.getElem?_append_left (by simp;lia),List.getElem?_take_of_lt c3,List.getElem?_take_of_lt (by lia)]
  .rw[List.getElem?_append_right (by rw[len1];lia),List.getElem?_drop,len1]
   congr 1
   lia
theorem qk (C:Cmp prog w A E s O key S){st:SortSt}{pend:List (Nat×Nat×Nat)}{P T:List Keyed}{n ok:Nat}{Q:Bool->SortSt->Prop}(K:Ok O key S st pend (P++T))(hn:n<=T.length)(hok:ok<=n)(h1:1<=ok)(hs:Srt O key (T.take ok))
  (h:∀st' T',Ok O key S st' pend (P++T')->T'.Perm T->Srt O key (T'.take n)->Q true st') :
  wpS (model prog w) A E s (binarySort' P.length n ok) Q st:=by
 refine wpS_bind (wpS_mono (wpS_forRange (I:=fun k c st'=>c=(none,())/\∃T',Ok O key S st' pend (P++T')/\T'.Perm T/\Srt O key (T'.take (min k n)))
  (Q:=fun c st'=>c=(none,())/\∃T',Ok O key S st' pend (P++T')/\T'.Perm T/\Srt O key (T'.take n)) ?s1 ?f1 ⟨rfl,T,K,.refl _,by rw[show min (max ok 1) n=ok by lia];exact hs⟩) ?p1)
 case p1 =>
  rintro c st' ⟨rfl,T',K',hp,hs'⟩
  exact wpS_pure (h st' T' K' hp hs')
 case f1 =>
  rintro c st' ⟨rfl,T',K',hp,hs'⟩
  rw[show min (max (max ok 1) n) n=n by lia] at hs'
  exact ⟨rfl,T',K',hp,hs'⟩
 case s1 =>
  rintro k c st' hka hkn ⟨rfl,T',K',hp,hs'⟩
  rw[show min k n=k by lia] at hs'
  have hlen:=hp.length_eq
  have hk:k < T'.length:=by lia
  have ht:T'[k]?=some T'[k]:=by simp
  refine wpS_bind (wpS_mono (wpS_forRange (I:=fun x c st2=>st'=st2/\∃l r,c=(none,l,r)/\l<=r/\r<=k/\r - l<=k - x/\(∀i u,i < l->T'[i]?=some u->Le O key u T'[k])/\(∀i u,r<=i->i < k->T'[i]?=some u->Le O key T'[k] u))
   (Q:=fun c st2=>st'=st2/\∃l,c=(none,l,l)/\l<=k/\(∀i u,i < l->T'[i]?=some u->Le O key u T'[k])/\(∀i u,l<=i->i < k->T'[i]?=some u->Le O key T'[k] u)) ?s2 ?f2 ⟨rfl,0,k,rfl,by lia,by lia,by lia,fun i u q=>absurd q (by lia),fun i u q1 q2=>absurd q2 (by lia)⟩) ?p2)
  case f2 =>
   rintro c st2 ⟨rfl,l,r,rfl,b1,b2,b3,b4,b5⟩
   obtain rfl:l=r:=by lia
   exact ⟨rfl,l,rfl,b2,b4,b5⟩
  case s2 =>
   rintro x c st2 _ hx ⟨rfl,l,r,rfl,b1,b2,b3,b4,b5⟩
   dsimp only
   by_cases c1:l ≥ r
   .rw[if_pos c1]
    obtain rfl:l=r:=by lia
    exact wpS_pure ⟨rfl,l,rfl,b2,b4,b5⟩
   .rw[if_neg c1]
    have hm:T'[(l+r) / 2]?=some (T'[(l+r) / 2]'(by lia)):=by simp
    refine wpS_bind (y3 C K' (x:=T'[k]) (y:=T'[(l+r) / 2]'(by lia)) (by rw[List.getElem?_append_right (by lia),show P.length+k - P.length=k by lia];exact ht) (by rw[List.getElem?_append_right (by lia),show P.length+(l+r) / 2 - P.length=(l+r) / 2 by lia];exact hm) ?_)
    dsimp only
    have tk:∀ {i:Nat}{u:Keyed},i < k->T'[i]?=some u->(T'.take k)[i]?=some u:=fun hi hu=>by rw[List.getElem?_take_of_lt hi];exact hu
    cases hc:O.blt (key T'[k]) (key (T'[(l+r) / 2]'(by lia))) with
    | true =>
     rw[if_pos rfl]
     exact wpS_pure ⟨rfl,l,(l+r) / 2,rfl,by lia,by lia,by lia,b4,fun i u q1 q2 hu=>Le.trans (KeyOrd.kle_of_klt hc) (hs'.at_le q1 (tk (by lia) hm) (tk q2 hu))⟩
    | false =>
     rw[if_neg (by simp)]
     exact wpS_pure ⟨rfl,(l+r) / 2+1,r,rfl,by lia,by lia,by lia,fun i u q1 hu=>Le.trans (hs'.at_le (by lia) (tk (by lia) hu) (tk (by lia) hm)) (show Le O key (T'[(l+r) / 2]'(by lia)) T'[k] from hc),b5⟩
  case p2 =>
   rintro c st2 ⟨rfl,l,rfl,b2,b4,b5⟩
   dsimp only
   refine wpS_bind (wpS_modify ?_)
   refine wpS_pure ⟨rfl,((T'.take k).take l++[T'[k]]++(T'.take k).drop l)++T'.drop (k+1),⟨K'.kind,K'.failed,K'.pend,?_,?_⟩,?_,?_⟩
   .exact qj K'.arr k l hk b2 _ ht
   all_goals
    have hpm:(((T'.take k).take l++[T'[k]]++(T'.take k).drop l)++T'.drop (k+1)).Perm T':=by
     have e1:((T'.take k).take l++[T'[k]]++(T'.take k).drop l).Perm (T'.take k++[T'[k]]):=by
      rw[List.append_assoc]
      refine (List.Perm.append_left _ List.perm_append_comm).trans ?_
      rw[<- List.append_assoc,List.take_append_drop]
     rw[<- zO ht] at e1
     have e2:=e1.append_right (T'.drop (k+1))
     rwa [List.take_append_drop] at e2
   .intro x hx
    refine K'.all x ?_
    rcases List.mem_append.mp hx with q | q
    .simp[q]
    .exact List.mem_append_right _ (hpm.mem_iff.mp q)
   .exact hpm.trans hp
   .have len1:((T'.take k).take l++[T'[k]]++(T'.take k).drop l).length=k+1:=by simp;lia
    rw[show min (k+1) n=k+1 by lia,List.take_append_of_le_length (by rw[len1];lia),List.take_of_length_le (by rw[len1];lia)]
    have lowm:∀u∈(T'.take k).take l,Le O key u T'[k]:=fun u hu=>by
     obtain ⟨i,hi⟩:=List.getElem?_of_mem hu
     have hlt:=(List.getElem?_eq_some_iff.mp hi).1
     simp only[List.length_take] at hlt
     rw[List.getElem?_take_of_lt (by lia),List.getElem?_take_of_lt (by lia)] at hi
     exact b4 i u (by lia) hi
    have highm:∀u∈(T'.take k).drop l,Le O key T'[k] u:=fun u hu=>by
     obtain ⟨i,hi⟩:=List.getElem?_of_mem hu
     have hlt:=(List.getElem?_eq_some_iff.mp hi).1
     simp only[List.length_take,List.length_drop] at hlt
     rw[List.getElem?_drop,List.getElem?_take_of_lt (by lia)] at hi
     exact b5 (l+i) u (by lia) (by lia) hi
    refine zM (zM (hs'.sublist (List.take_sublist _ _)) (by simp[Srt]) fun x hx y hy=>?_) (hs'.sublist (List.drop_sublist _ _)) fun x hx y hy=>?_
    .rw[List.mem_singleton.mp hy];exact lowm x hx
    .rcases List.mem_append.mp hx with q | q
     .exact (lowm x q).trans (highm y hy)
     .rw[List.mem_singleton.mp q];exact highm y hy
end
section
variable {O:KeyOrd}{key:Keyed->O.α}{S:Keyed->Prop}
variable {prog:Program}{w:World}{A:Around}{E:Value->Shared->Prop}{s:Shared}
def Stk (O:KeyOrd)(key:Keyed->O.α):Nat->List (Nat×Nat×Nat)->List (List Keyed)->Prop
 | _,[],[]=>True
 | off,p::ps,U::Us=>p.1=off/\p.2.1=U.length/\0 < U.length/\Srt O key U/\Stk O key (off+U.length) ps Us
 | _,_,_=>False
theorem Stk.app:∀ {off:Nat}{p1 p2:List (Nat×Nat×Nat)}{Us:List (List Keyed)},Stk O key off (p1++p2) Us->∃U1 U2,Us=U1++U2/\Stk O key off p1 U1/\Stk O key (off+U1.flatten.length) p2 U2
 | off,[],p2,Us,h=>⟨[],Us,rfl,trivial,by simpa using h⟩
 | off,p::p1,p2,[],h=>h.elim
 | off,p::p1,p2,U::Us,h=>by
  obtain ⟨a1,a2,a3,a4,a5⟩:=h
  obtain ⟨U1,U2,rfl,b1,b2⟩:=Stk.app a5
  refine ⟨U::U1,U2,rfl,⟨a1,a2,a3,a4,b1⟩,?_⟩
  simpa [Nat.add_assoc] using b2
theorem Stk.join:∀ {off:Nat}{p1 p2:List (Nat×Nat×Nat)}{U1 U2:List (List Keyed)},Stk O key off p1 U1->Stk O key (off+U1.flatten.length) p2 U2->Stk O key off (p1++p2) (U1++U2)
 | off,[],p2,[],U2,_,h=>by simpa using h
 | off,[],p2,_::_,U2,h,_=>h.elim
 | off,p::p1,p2,[],U2,h,_=>h.elim
 | off,p::p1,p2,U::U1,U2,h,h2=>⟨h.1,h.2.1,h.2.2.1,h.2.2.2.1,Stk.join h.2.2.2.2 (by simpa [Nat.add_assoc] using h2)⟩
theorem Stk.len:∀ {off:Nat}{p:List (Nat×Nat×Nat)}{Us:List (List Keyed)},Stk O key off p Us->p.length<=Us.flatten.length
 | _,[],[],_=>Nat.zero_le _
 | _,[],_::_,h=>h.elim
 | _,_::_,[],h=>h.elim
 | off,p::ps,U::Us,h=>by
  have e1:=Stk.len h.2.2.2.2
  have e2:=h.2.2.1
  rw[List.flatten_cons,List.length_append,List.length_cons]
  lia
theorem Stk.mod (q:Nat):∀ {off:Nat}{p:List (Nat×Nat×Nat)}{Us:List (List Keyed)}(i:Nat),Stk O key off p Us->Stk O key off (p.modify i fun x=>(x.1,x.2.1,q)) Us
 | _,[],[],i,_=>by cases i <;> trivial
 | _,[],_::_,i,h=>h.elim
 | _,_::_,[],i,h=>h.elim
 | off,p::ps,U::Us,0,h=>h
 | off,p::ps,U::Us,i+1,h=>⟨h.1,h.2.1,h.2.2.1,h.2.2.2.1,Stk.mod q i h.2.2.2.2⟩
theorem wp {st:SortSt}{pend:List (Nat×Nat×Nat)}{Us:List (List Keyed)}{W R:List Keyed}{lo n:Nat}(K:Ok O key S st pend (Us.flatten++(W++R)))(k:Stk O key 0 pend Us)(hs:Srt O key W)(h0:0 < W.length)(hn:W.length=n)(hlo:Us.flatten.length=lo):
  Ok O key S (setPending st ((pendingOf st).push (lo,n,0))) (pend++[(lo,n,0)]) ((Us++[W]).flatten++R)/\Stk O key 0 (pend++[(lo,n,0)]) (Us++[W]):=by
 refine ⟨⟨K.kind,K.failed,?_,?_,?_⟩,Stk.join k ⟨?_,hn.symm,h0,hs,trivial⟩⟩
 .show ((pendingOf st).push (lo,n,0)).toList=_
  rw[Array.toList_push,K.pend]
 .show (arrOf st).toList=_
  rw[K.arr];simp
 .intro x hx
  refine K.all x ?_
  simpa using hx
 .show lo=_
  rw[hlo,Nat.zero_add]
theorem xf (C:Cmp prog w A E s O key S){st:SortSt}{pend:List (Nat×Nat×Nat)}{Us:List (List Keyed)}{R:List Keyed}{i:Nat}{Q:Bool->SortSt->Prop}(K:Ok O key S st pend (Us.flatten++R))(k:Stk O key 0 pend Us)(hi:i+1 < pend.length)
  (h:∀st' pend' Us',Ok O key S st' pend' (Us'.flatten++R)->Stk O key 0 pend' Us'->Us'.flatten.Perm Us.flatten->pend'.length+1=pend.length->Q true st') :
  wpS (model prog w) A E s (mergeAt' i) Q st:=by
 obtain ⟨p1,a,b,p2,rfl,rfl⟩:∃p1 a b p2,pend=p1++a::b::p2/\p1.length=i:=by
  refine ⟨pend.take i,pend[i],pend[i+1],pend.drop (i+2),?_,by simp;lia⟩
  conv=>lhs;rw[<- List.take_append_drop i pend]
  rw[List.drop_eq_getElem_cons (by lia),List.drop_eq_getElem_cons (by lia)]
 obtain ⟨U1,U2,rfl,k1,k2⟩:=k.app
 cases U2 with
 | nil=>exact k2.elim
 | cons U U2 =>
  cases U2 with
  | nil=>exact k2.2.2.2.2.elim
  | cons V U2 =>
   obtain ⟨sa,na,po⟩:=a
   obtain ⟨sb,nb,po2⟩:=b
   obtain ⟨a1,a2,a3,a4,b1,b2,b3,b4,b5⟩:=k2
   simp only[Nat.zero_add] at a1 b1 b5
   have e:(U1++U::V::U2).flatten++R=U1.flatten++(U++(V++(U2.flatten++R))):=by simp
   rw[e] at K
   refine j6 C K a1 a2 b1 b2 a3 b3 a4 b4 fun st' W K' hs hp=>?_
   have hl:=hp.length_eq
   rw[List.length_append] at hl
   refine h st' (p1++(sa,na+nb,po)::p2) (U1++W::U2) (by simpa using K') (Stk.join k1 (show Stk O key _ ((sa,na+nb,po)::p2) (W::U2) from ⟨by simpa using a1,?_,by lia,hs,?_⟩)) ?_ (by simp;lia)
   .show na+nb=_
    have e1:na=U.length:=a2
    have e2:nb=V.length:=b2
    lia
   .rw[Nat.zero_add,hl,<- Nat.add_assoc];exact b5
   .simp only[List.flatten_append,List.flatten_cons]
    refine List.Perm.append_left _ ?_
    rw[<- List.append_assoc]
    exact hp.append_right _
theorem j7 (C:Cmp prog w A E s O key S){st:SortSt}{l:List Keyed}{Q:Unit->SortSt->Prop}(K:Ok O key S st [] l)(h2:2<=l.length)(hd:Dis O key l)
  (h:∀st' l',(arrOf st').toList=l'->failedOf st'=none->Srt O key l'->l'.Perm l->Q () st'):wpS (model prog w) A E s sortRuns' Q st:=by
 rw[sortRuns'_eq]
 refine wpS_bind (wpS_get ?_)
 dsimp only
 have hN:(arrOf st).size=l.length:=by rw[<- Array.length_toList,K.arr]
 rw[hN]
 have hmr:minRun' l.length l.length 0<=l.length:=kD _ _ 0 (by lia)
 generalize minRun' l.length l.length 0=mr at hmr ⊢
 refine wpS_bind (wpS_mono (wpS_forRange
  (I:=fun x c st'=>∃lo,c=(none,lo)/\x<=lo/\lo<=l.length/\∃pend Us R,Ok O key S st' pend (Us.flatten++R)/\Stk O key 0 pend Us/\(Us.flatten++R).Perm l/\Us.flatten.length=lo)
  (Q:=fun c st'=>c=(none,l.length)/\∃pend Us R,Ok O key S st' pend (Us.flatten++R)/\Stk O key 0 pend Us/\(Us.flatten++R).Perm l/\Us.flatten.length=l.length) ?s1 ?f1 ⟨0,rfl,Nat.le_refl _,Nat.zero_le _,[],[],l,by simpa using K,trivial,.refl _,rfl⟩) ?p1)
 case f1 =>
  rintro c st' ⟨lo,rfl,x1,x2,r⟩
  obtain rfl:lo=l.length:=by lia
  exact ⟨rfl,r⟩
 case s1 =>
  rintro x c st' _ hx ⟨lo,rfl,x1,x2,pend,Us,R,K',k,hp,hlo⟩
  dsimp only
  by_cases c0:lo ≥ l.length
  .rw[if_pos c0]
   obtain rfl:lo=l.length:=by lia
   exact wpS_pure ⟨rfl,pend,Us,R,K',k,hp,hlo⟩
  rw[if_neg c0]
  have hR:R.length=l.length - lo:=by have:=hp.length_eq;simp at this hlo;lia
  subst hlo
  rw[<- hR]
  refine wpS_bind (jh C K' (by lia) ((hd.perm hp).right) fun st2 U R2 K2 hs2 hp2 hU0=>?_)
  dsimp only
  have hl2:U.length+R2.length=R.length:=by have:=hp2.length_eq;simpa using this
  by_cases c1:U.length < mr
  .rw[if_pos c1]
   refine wpS_bind (wpS_lift (wpAny_rule ⟨rfl,?_⟩))
   refine wpS_bind (qk C K2 (by rw[List.length_append];lia) (by lia) (by lia) (by rw[List.take_append_of_le_length (Nat.le_refl _),List.take_length];exact hs2) fun st3 T3 K3 hpT hsT=>?_)
   rw[if_neg (by simp)]
   have hT:T3.length=R.length:=(hpT.trans hp2).length_eq
   obtain ⟨W,R3,hW,hWn,hsW⟩:∃W R3,T3=W++R3/\W.length=min R.length mr/\Srt O key W:=⟨T3.take (min R.length mr),T3.drop (min R.length mr),(List.take_append_drop _ _).symm,by rw[List.length_take];lia,hsT⟩
   subst hW
   have hp3:(W++R3).Perm R:=hpT.trans hp2
   have hW0:0 < W.length:=by lia
   refine wpS_bind (wpS_get ?_)
   have lenU:∀Us4:List (List Keyed),Us4.flatten.Perm Us.flatten->(Us4++[W]).flatten.length=Us.flatten.length+min R.length mr:=fun Us4 q=>by
    have:=q.length_eq
    rw[List.flatten_append,List.length_append,this,List.flatten_singleton,hWn]
   have permU:∀Us4:List (List Keyed),Us4.flatten.Perm Us.flatten->((Us4++[W]).flatten++R3).Perm l:=fun Us4 q=>by
    refine List.Perm.trans ?_ hp
    rw[List.flatten_append,List.flatten_singleton,List.append_assoc]
    exact (q.append_right _).trans (hp3.append_left _)
   have hle:min R.length mr<=R.length:=by have:=hp3.length_eq;rw[List.length_append] at this;lia
   cases hb:(pendingOf st3).back? with
   | none =>
    dsimp only
    obtain ⟨K5,k5⟩:=wp K3 k hsW hW0 hWn rfl
    refine wpS_bind (wpS_modify (wpS_pure ⟨_,rfl,by lia,by lia,_,_,R3,K5,k5,permU Us (.refl _),lenU Us (.refl _)⟩))
   | some t =>
    obtain ⟨s1,n1,pp⟩:=t
    dsimp only
    refine wpS_bind (wpS_mono (wpS_forRange (I:=fun _ c st4=>c=(none,())/\∃pend4 Us4,Ok O key S st4 pend4 (Us4.flatten++(W++R3))/\Stk O key 0 pend4 Us4/\Us4.flatten.Perm Us.flatten)
     (Q:=fun c st4=>c=(none,())/\∃pend4 Us4,Ok O key S st4 pend4 (Us4.flatten++(W++R3))/\Stk O key 0 pend4 Us4/\Us4.flatten.Perm Us.flatten) ?s2 (fun _ _ q=>q) ⟨rfl,pend,Us,K3,k,.refl _⟩) ?p2)
    case s2 =>
     rintro y c st4 _ hy ⟨rfl,pend4,Us4,K4,k4,hp4⟩
     refine wpS_bind (wpS_get ?_)
     have hsz:(pendingOf st4).size=pend4.length:=by rw[<- K4.pend,Array.length_toList]
     by_cases cs:(pendingOf st4).size > 1
     .rw[if_pos cs]
      cases ho:(pendingOf st4)[(pendingOf st4).size - 2]? with
      | none=>exact wpS_pure ⟨rfl,pend4,Us4,K4,k4,hp4⟩
      | some t =>
       obtain ⟨t1,t2,older⟩:=t
       dsimp only
       by_cases co:older<=power' l.length (2 * s1+n1) (2 * s1+n1+n1+min R.length mr) l.length
       .rw[if_pos co]
        exact wpS_pure ⟨rfl,pend4,Us4,K4,k4,hp4⟩
       .rw[if_neg co]
        refine wpS_bind (xf C K4 k4 (by lia) fun st5 pend5 Us5 K5 k5 hp5 _=>?_)
        rw[if_neg (by simp)]
        exact wpS_pure ⟨rfl,pend5,Us5,K5,k5,hp5.trans hp4⟩
     .rw[if_neg cs]
      exact wpS_pure ⟨rfl,pend4,Us4,K4,k4,hp4⟩
    case p2 =>
     rintro c st4 ⟨rfl,pend4,Us4,K4,k4,hp4⟩
     dsimp only
     refine wpS_bind (wpS_modify ?_)
     refine wpS_bind (wpS_modify ?_)
     have K5:Ok O key S (setPending st4 ((pendingOf st4).modify ((pendingOf st4).size - 1) fun x=>(x.fst,x.2.fst,power' l.length (2 * s1+n1) (2 * s1+n1+n1+min R.length mr) l.length))) (pend4.modify ((pendingOf st4).size - 1) fun x=>(x.1,x.2.1,power' l.length (2 * s1+n1) (2 * s1+n1+n1+min R.length mr) l.length)) (Us4.flatten++(W++R3)) :=
      ⟨K4.kind,K4.failed,by show ((pendingOf st4).modify _ _).toList=_;rw[Array.toList_modify,K4.pend],K4.arr,K4.all⟩
     obtain ⟨K6,k6⟩:=wp K5 (k4.mod _ _) hsW hW0 hWn hp4.length_eq
     exact wpS_pure ⟨_,rfl,by lia,by lia,_,_,R3,K6,k6,permU Us4 hp4,lenU Us4 hp4⟩
  .rw[if_neg c1]
   have K3:=K2
   obtain ⟨W,hW⟩:∃W,W=U:=⟨U,rfl⟩
   obtain ⟨R3,hR3⟩:∃R3,R3=R2:=⟨R2,rfl⟩
   obtain ⟨st3,hst3⟩:∃st3,st3=st2:=⟨st2,rfl⟩
   rw[<- hW,<- hR3,<- hst3] at K3
   have hWn:W.length=U.length:=by rw[hW]
   have hsW:Srt O key W:=by rw[hW];exact hs2
   have hp3:(W++R3).Perm R:=by rw[hW,hR3];exact hp2
   have hW0:0 < W.length:=by lia
   rw[<- hst3]
   refine wpS_bind (wpS_get ?_)
   have lenU:∀Us4:List (List Keyed),Us4.flatten.Perm Us.flatten->(Us4++[W]).flatten.length=Us.flatten.length+U.length:=fun Us4 q=>by
    have:=q.length_eq
    rw[List.flatten_append,List.length_append,this,List.flatten_singleton,hWn]
   have permU:∀Us4:List (List Keyed),Us4.flatten.Perm Us.flatten->((Us4++[W]).flatten++R3).Perm l:=fun Us4 q=>by
    refine List.Perm.trans ?_ hp
    rw[List.flatten_append,List.flatten_singleton,List.append_assoc]
    exact (q.append_right _).trans (hp3.append_left _)
   have hle:U.length<=R.length:=by have:=hp3.length_eq;rw[List.length_append] at this;lia
   cases hb:(pendingOf st3).back? with
   | none =>
    dsimp only
    obtain ⟨K5,k5⟩:=wp K3 k hsW hW0 hWn rfl
    refine wpS_bind (wpS_modify (wpS_pure ⟨_,rfl,by lia,by lia,_,_,R3,K5,k5,permU Us (.refl _),lenU Us (.refl _)⟩))
   | some t =>
    obtain ⟨s1,n1,pp⟩:=t
    dsimp only
    refine wpS_bind (wpS_mono (wpS_forRange (I:=fun _ c st4=>c=(none,())/\∃pend4 Us4,Ok O key S st4 pend4 (Us4.flatten++(W++R3))/\Stk O key 0 pend4 Us4/\Us4.flatten.Perm Us.flatten)
     (Q:=fun c st4=>c=(none,())/\∃pend4 Us4,Ok O key S st4 pend4 (Us4.flatten++(W++R3))/\Stk O key 0 pend4 Us4/\Us4.flatten.Perm Us.flatten) ?s3 (fun _ _ q=>q) ⟨rfl,pend,Us,K3,k,.refl _⟩) ?p3)
    case s3 =>
     rintro y c st4 _ hy ⟨rfl,pend4,Us4,K4,k4,hp4⟩
     refine wpS_bind (wpS_get ?_)
     have hsz:(pendingOf st4).size=pend4.length:=by rw[<- K4.pend,Array.length_toList]
     by_cases cs:(pendingOf st4).size > 1
     .rw[if_pos cs]
      cases ho:(pendingOf st4)[(pendingOf st4).size - 2]? with
      | none=>exact wpS_pure ⟨rfl,pend4,Us4,K4,k4,hp4⟩
      | some t =>
       obtain ⟨t1,t2,older⟩:=t
       dsimp only
       by_cases co:older<=power' l.length (2 * s1+n1) (2 * s1+n1+n1+U.length) l.length
       .rw[if_pos co]
        exact wpS_pure ⟨rfl,pend4,Us4,K4,k4,hp4⟩
       .rw[if_neg co]
        refine wpS_bind (xf C K4 k4 (by lia) fun st5 pend5 Us5 K5 k5 hp5 _=>?_)
        rw[if_neg (by simp)]
        exact wpS_pure ⟨rfl,pend5,Us5,K5,k5,hp5.trans hp4⟩
     .rw[if_neg cs]
      exact wpS_pure ⟨rfl,pend4,Us4,K4,k4,hp4⟩
    case p3 =>
     rintro c st4 ⟨rfl,pend4,Us4,K4,k4,hp4⟩
     dsimp only
     refine wpS_bind (wpS_modify ?_)
     refine wpS_bind (wpS_modify ?_)
     have K5:Ok O key S (setPending st4 ((pendingOf st4).modify ((pendingOf st4).size - 1) fun x=>(x.fst,x.2.fst,power' l.length (2 * s1+n1) (2 * s1+n1+n1+U.length) l.length))) (pend4.modify ((pendingOf st4).size - 1) fun x=>(x.1,x.2.1,power' l.length (2 * s1+n1) (2 * s1+n1+n1+U.length) l.length)) (Us4.flatten++(W++R3)) :=
      ⟨K4.kind,K4.failed,by show ((pendingOf st4).modify _ _).toList=_;rw[Array.toList_modify,K4.pend],K4.arr,K4.all⟩
     obtain ⟨K6,k6⟩:=wp K5 (k4.mod _ _) hsW hW0 hWn hp4.length_eq
     exact wpS_pure ⟨_,rfl,by lia,by lia,_,_,R3,K6,k6,permU Us4 hp4,lenU Us4 hp4⟩
 case p1 =>
  rintro c st' ⟨rfl,pend,Us,R,K',k,hp,hlo⟩
  dsimp only
  have hR:R=[]:=by
   have:=hp.length_eq
   rw[List.length_append] at this
   exact List.eq_nil_of_length_eq_zero (by lia)
  subst hR
  refine wpS_bind (wpS_mono (wpS_forRange (I:=fun x c st4=>c=(none,())/\∃pend4 Us4,Ok O key S st4 pend4 (Us4.flatten++[])/\Stk O key 0 pend4 Us4/\Us4.flatten.Perm Us.flatten/\(pend4.length<=1\/pend4.length+x<=l.length))
   (Q:=fun c st4=>c=(none,())/\∃pend4 Us4,Ok O key S st4 pend4 (Us4.flatten++[])/\Stk O key 0 pend4 Us4/\Us4.flatten.Perm Us.flatten/\pend4.length<=1) ?s4 ?f4 ⟨rfl,pend,Us,K',k,.refl _,.inr (by have:=k.len;lia)⟩) ?p4)
  case f4 =>
   rintro c st4 ⟨rfl,pend4,Us4,K4,k4,hp4,hx⟩
   exact ⟨rfl,pend4,Us4,K4,k4,hp4,by lia⟩
  case s4 =>
   rintro y c st4 _ hy ⟨rfl,pend4,Us4,K4,k4,hp4,hx⟩
   refine wpS_bind (wpS_get ?_)
   have hsz:(pendingOf st4).size=pend4.length:=by rw[<- K4.pend,Array.length_toList]
   by_cases cs:(pendingOf st4).size<=1
   .rw[if_pos cs]
    exact wpS_pure ⟨rfl,pend4,Us4,K4,k4,hp4,by lia⟩
   .rw[if_neg cs]
    refine wpS_bind (xf C K4 k4 ?_ fun st5 pend5 Us5 K5 k5 hp5 hl5=>?_)
    .have e:∀ (c:Prop) [Decidable c],(if c then (pendingOf st4).size - 2 - 1 else (pendingOf st4).size - 2)+1 < pend4.length:=fun c _=>by
      by_cases q:c
      .rw[if_pos q];lia
      .rw[if_neg q];lia
     exact e _
    .rw[if_neg (by simp)]
     exact wpS_pure ⟨rfl,pend5,Us5,K5,k5,hp5.trans hp4,by lia⟩
  case p4 =>
   rintro c st4 ⟨rfl,pend4,Us4,K4,k4,hp4,hx⟩
   dsimp only
   have hpl:Us4.flatten.Perm l:=hp4.trans (by simpa using hp)
   refine wpS_pure (h st4 Us4.flatten (by rw[K4.arr,List.append_nil]) K4.failed ?_ hpl)
   match pend4,Us4,k4,hx with
   | [],[],_,_=>simp[Srt]
   | [_],[W],q,_=>simpa using q.2.2.2.1
   | [],_::_,q,_=>exact q.elim
   | _::_,[],q,_=>exact q.elim
   | [_],_::_::_,q,_=>exact q.2.2.2.2.elim
   | _::_::_,_,_,hx=>simp at hx
end
theorem yg:∀a:List Int,HT.lexLt a a=false
 | []=>rfl
 | x::xs=>by rw[HT.lexLt_cons,if_pos rfl];exact yg xs
theorem yh:∀a b c:List Int,HT.lexLt a b=true->HT.lexLt b c=true->HT.lexLt a c=true
 | [],[],_,h,_=>by cases h
 | [],_::_,[],_,h=>by cases h
 | [],_::_,_::_,_,_=>rfl
 | _::_,[],_,h,_=>by cases h
 | _::_,_::_,[],_,h=>by cases h
 | x::xs,y::ys,z::zs,h1,h2=>by
  rw[HT.lexLt_cons] at h1 h2 ⊢
  by_cases e1:x=y
  .rw[if_pos e1] at h1
   subst e1
   by_cases e2:x=z
   .rw[if_pos e2] at h2 ⊢
    exact yh xs ys zs h1 h2
   .rw[if_neg e2] at h2 ⊢
    exact h2
  .rw[if_neg e1] at h1
   have q1:=of_decide_eq_true h1
   by_cases e2:y=z
   .subst e2
    rw[if_neg e1];exact h1
   .rw[if_neg e2] at h2
    have q2:=of_decide_eq_true h2
    rw[if_neg (by lia)]
    exact decide_eq_true (by lia)
theorem y4:∀a b:List Int,HT.lexLt a b=false->HT.lexLt b a=false->a=b
 | [],[],_,_=>rfl
 | [],_::_,h,_=>by cases h
 | _::_,[],_,h=>by cases h
 | x::xs,y::ys,h1,h2=>by
  rw[HT.lexLt_cons] at h1 h2
  by_cases e:x=y
  .subst e
   rw[if_pos rfl] at h1 h2
   rw[y4 xs ys h1 h2]
  .rw[if_neg e] at h1
   rw[if_neg (Ne.symm e)] at h2
   have q1:=of_decide_eq_false h1
   have q2:=of_decide_eq_false h2
   lia
theorem zdy (a b c:List Int)(h:HT.lexLt a c=true):HT.lexLt a b=true\/HT.lexLt b c=true:=by
 cases h1:HT.lexLt a b with
 | true=>exact .inl rfl
 | false =>
  right
  cases h2:HT.lexLt b a with
  | true=>exact yh b a c h2 h
  | false=>rw[<- y4 a b h1 h2];exact h
noncomputable def lexO:KeyOrd:=⟨List Int,HT.lexLt,yg,yh,zdy,y4⟩
section
variable {prog:Program}{w:World}{A:Around}{E:Value->Shared->Prop}{s:Shared}
theorem zfo {key:Value->List Int}{vs:List Value}(hl:∀x∈vs,∀y∈vs,LtAt A s x y (HT.lexLt (key x) (key y))):Cmp prog w A E s lexO (fun p=>key p.1) (fun p=>p.1∈vs):=by
 intro x y st Q hx hy hk q
 rw[lt'_eq]
 refine wpS_bind (wpS_get ?_)
 rw[hk,keyLt'_oneType]
 refine wpS_bind (wpS_lift (wpAny_attempt (hl x.1 hx y.1 hy prog w _ _ ⟨rfl,?_⟩)))
 exact wpS_pure q
theorem ji:∀vs:List Value,List.map (fun x:Value×Value=>x.fst) (vs.zip vs)=vs
 | []=>rfl
 | v::r=>congrArg (v::·) (ji r)
theorem jj {key:Value->List Int}{vs out:List Value}{Q:Unit->SortSt->Prop}(h2:2<=vs.length)(hl:∀x∈vs,∀y∈vs,LtAt A s x y (HT.lexLt (key x) (key y)))(hd:(vs.map key).Nodup)
  (hp:out.Perm vs) (ho:out.Pairwise fun x y=>HT.lexLt (key y) (key x)=false)
  (h:∀st':SortSt,(arrOf st').map (·.2)=out.toArray->failedOf st'=none->Q () st') :
  wpS (model prog w) A E s sortRuns' Q (SortSt.mk' oneType' (vs.toArray.zip vs.toArray) #[] 7 none):=by
 have hz:(vs.toArray.zip vs.toArray).toList=vs.zip vs:=by simp
 refine j7 (zfo hl) (l:=vs.zip vs) ⟨rfl,rfl,rfl,hz,fun x hx=>(mem_zip_self hx).2⟩ (by simp;lia) ?_ fun st' l' e1 e2 e3 e4=>h st' ?_ e2
 .show ((vs.zip vs).map fun p=>key p.1).Nodup
  have:(vs.zip vs).map (fun p=>key p.1)=vs.map key:=by
   have:=congrArg (List.map key) (ji vs)
   rwa [List.map_map] at this
  rw[this];exact hd
 .have same:l'.map (·.2)=l'.map (·.1):=List.map_congr_left fun p hp'=>(mem_zip_self (e4.mem_iff.mp hp')).1.symm
  have e5:(l'.map (·.1)).Perm vs:=by have:=e4.map (·.1);rwa [ji] at this
  have e6:l'.map (·.1)=out:=by
   refine List.Perm.eq_of_pairwise (le:=fun x y=>HT.lexLt (key y) (key x)=false) (fun a b ha hb q1 q2=>?_) ?_ ho (e5.trans hp.symm)
   .have ka:key a=key b:=y4 _ _ q2 q1
    have ha':=e5.mem_iff.mp ha
    have hb':=hp.mem_iff.mp hb
    obtain ⟨i,hi⟩:=List.getElem?_of_mem ha'
    obtain ⟨j,hj⟩:=List.getElem?_of_mem hb'
    have hi':(vs.map key)[i]?=some (key a):=by rw[List.getElem?_map,hi];rfl
    have hj':(vs.map key)[j]?=some (key b):=by rw[List.getElem?_map,hj];rfl
    obtain ⟨li,gi⟩:=List.getElem?_eq_some_iff.mp hi'
    obtain ⟨lj,gj⟩:=List.getElem?_eq_some_iff.mp hj'
    by_cases c:i=j
    .subst c;rw[hi] at hj;cases hj;rfl
    .exfalso
     rcases Nat.lt_or_gt_of_ne c with c | c
     .exact (List.pairwise_iff_getElem.mp hd) i j li lj c (by rw[gi,gj,ka])
     .exact (List.pairwise_iff_getElem.mp hd) j i lj li c (by rw[gi,gj,ka])
   .rw[List.pairwise_map]
    exact e3
  apply Array.ext'
  rw[Array.toList_map,e1,same,e6]
end
section
variable {prog:Program}{w:World}{A:Around}{E:Value->Shared->Prop}{s:Shared}
def zez (A:Around)(s:Shared)(vs out:List Value):Prop:=∃key:Value->List Int,(∀x∈vs,∀y∈vs,LtAt A s x y (HT.lexLt (key x) (key y)))/\(vs.map key).Nodup/\out.Perm vs/\out.Pairwise fun x y=>HT.lexLt (key y) (key x)=false
theorem zb1:∀ {vs out:List Value},vs.length < 2->out.Perm vs->out=vs
 | [],_,_,h=>h.eq_nil
 | [v],_,_,h=>List.perm_singleton.mp h
 | _::_::_,_,h,_=>by simp at h;lia
def zfp (s:Shared)(vs:List Value):Prop:=∀v∈vs,s.TypeIs v "list"
theorem zdz {v:Value}(h:s.TypeIs v "list"){Q:Option Value->Shared->Prop}(q:Q none s):wpAny (model prog w) A (firstOfTuple' v) Q E s:=by
 refine wpAny_bind (wpAny_typeOf h ?_)
 rw[if_pos (by decide)]
 exact wpAny_pure q
theorem ql {β:Type}{f:Value->Sem β}{b:β}:∀ {vs:List Value},(∀v∈vs,∀Q:β->Shared->Prop,Q b s->wpAny (model prog w) A (f v) Q E s)->∀ {Q:List β->Shared->Prop},Q (vs.map fun _=>b) s->wpAny (model prog w) A (vs.mapM f) Q E s
 | [],_,Q,q=>by rw[List.mapM_nil];exact wpAny_pure q
 | v::r,h,Q,q=>by
  rw[List.mapM_cons]
  refine wpAny_bind (h v (by simp) _ ?_)
  refine wpAny_bind (ql (fun v hv=>h v (by simp[hv])) ?_)
  exact wpAny_pure q
theorem zfq:∀ (vs:List Value),((vs.map fun _=>Value.type "list").toArray.all fun x=>x == Value.type "list")=true:=by
 intro vs
 simp only[List.all_toArray,List.all_map,List.all_eq_true]
 intro _ _
 rfl
theorem zfr {vs:List Value}(h:zfp s vs)(h2:2<=vs.length){Q:SortKind->Shared->Prop}(q:Q oneType' s):wpAny (model prog w) A (keyKind' vs.toArray) Q E s:=by
 obtain ⟨v,r,rfl⟩:∃v r,vs=v::r:=by
  cases vs with
  | nil=>simp at h2
  | cons v r=>exact ⟨v,r,rfl⟩
 rw[keyKind'_eq,List.mapM_toArray,map_eq_pure_bind]
 refine wpAny_bind (wpAny_bind (ql (b:=none) (fun v hv Q q=>zdz (h v hv) q) (wpAny_pure ?_)))
 rw[if_neg (by simp),if_neg (by simp)]
 rw[oneTypeOnly'_eq,List.mapM_toArray,map_eq_pure_bind]
 refine wpAny_bind (wpAny_bind (wpAny_bind (ql (b:=Value.type "list") (fun v hv Q q=>wpAny_typeOf (h v hv) q) (wpAny_pure ?_))))
 have h0:((v::r).map fun _=>Value.type "list").toArray[0]?=some (Value.type "list"):=by simp
 rw[h0]
 simp only[zfq,if_true]
 exact wpAny_pure (wpAny_pure q)
theorem kn {a:Addr}{vs out:List Value}{n:Nat}{P:Fin->Shared->Prop}(ho:s.heap.get? a=some (seqObj "list" vs.toArray n))(hz:vs.length<=sizeLine)(hz2:out.length<=sizeLine)
  (hr:∀s':Shared,(∀b o,b≠a->s.heap.get? b=some o->s'.heap.get? b=some o)->zfp s' vs/\zez A s' vs out)
  (h:P (.done (.ret .none)) { s with heap:=sortedHeap s.heap a vs out.toArray }) :
  wpAny (model prog w) A (Builtin.«list.sort» ⟨[.ref a],[]⟩) P E s:=by
 rw[list_sort_plain]
 have ha:a < s.heap.objs.size:=Heap.lt_size ho
 have hzs:vs.toArray.size<=sizeLine:=by simpa using hz
 refine wpAny_bind (listItems_at ho rfl ?_)
 refine wpAny_bind (listUpdate_at ho rfl ?_ hzs (by simp))
 obtain ⟨e1,ho1⟩:∃e1,(s.heap.update a (Obj.mapSeq fun _=>#[])).get? a=some (seqObj "list" #[] e1):=⟨_,get?_update_seq ho (fun _=>#[])⟩
 refine wpAny_bind (seqEpoch_at ho1 rfl ?_)
 refine wpAny_bind (wpAny_newTuple ?_)
 refine wpAny_bind (wpAny_newList ?_)
 refine wpAny_holding ?_
 have ho6:(((s.heap.update a (Obj.mapSeq fun _=>#[])).push (seqObj "tuple" vs.toArray 0)).push (seqObj "list" #[] 0)).get? a=some (seqObj "list" #[] e1):=by
  rw[Heap.get?_push_ne _ _ _ (by rw[size_push',Heap.size_update];exact Nat.ne_of_lt (Nat.lt_succ_of_lt ha)),Heap.get?_push_ne _ _ _ (by rw[Heap.size_update];exact Nat.ne_of_lt ha)]
  exact ho1
 have hk:∀b o,b≠a->s.heap.get? b=some o->(((s.heap.update a (Obj.mapSeq fun _=>#[])).push (seqObj "tuple" vs.toArray 0)).push (seqObj "list" #[] 0)).get? b=some o:=by
  intro b o hb e
  refine Heap.get?_push_of_some _ (Heap.get?_push_of_some _ ?_)
  rw[Heap.get?_update_ne _ _ _ _ hb]
  exact e
 obtain ⟨hA,hR⟩:=hr { s with heap:=((s.heap.update a (Obj.mapSeq fun _=>#[])).push (seqObj "tuple" vs.toArray 0)).push (seqObj "list" #[] 0) } hk
 show wpAny (model prog w) A _ P E { s with heap:=((s.heap.update a (Obj.mapSeq fun _=>#[])).push (seqObj "tuple" vs.toArray 0)).push (seqObj "list" #[] 0) }
 dsimp only
 have hsz:vs.toArray.size=vs.length:=by simp
 by_cases h2:vs.toArray.size < 2
 .rw[if_pos h2,if_pos h2]
  refine wpAny_bind (wpAny_pure ?_)
  rw[StateT.run_pure]
  refine wpAny_bind (wpAny_pure ?_)
  dsimp only
  have e0:(vs.toArray.zip vs.toArray).map (·.2)=out.toArray:=by
   have e1:out=vs:=by
    obtain ⟨_,_,_,q,_⟩:=hR
    exact zb1 (by simpa using h2) q
   rw[e1]
   apply Array.ext'
   simpa using zab vs
  refine wpAny_bind (seqEpoch_at ho6 rfl ?_)
  refine wpAny_bind (listUpdate_at ho6 rfl ?_ (by simp) (by show ((vs.toArray.zip vs.toArray).map (·.2)).size<=_;rw[e0];simp;lia))
  simp only[bne_self_eq_false,Bool.false_eq_true,if_false]
  rw[show (arrOf (SortSt.mk' general' (vs.toArray.zip vs.toArray) #[] 7 none)).map (·.2)=out.toArray from e0]
  exact wpAny_pure h
 .rw[if_neg h2,if_neg h2]
  obtain ⟨key0,r1,r2,r3,r4⟩:=hR
  refine wpAny_bind (zfr hA (by lia) ?_)
  refine wpAny_bind (wpAny_mono (jj (key:=key0) (Q:=fun _ st'=>(arrOf st').map (·.2)=out.toArray/\failedOf st'=none) (by lia) r1 r2 r3 r4 fun st' a1 a2=>⟨a1,a2⟩) ?_ fun _ _ e=>e)
  rintro ⟨⟨⟩,st'⟩ s' ⟨rfl,hp,hf⟩
  dsimp only
  refine wpAny_bind (seqEpoch_at ho6 rfl ?_)
  refine wpAny_bind (listUpdate_at ho6 rfl ?_ (by simp) (by show ((arrOf st').map (·.2)).size<=_;rw[hp];simp;lia))
  rw[hf]
  simp only[bne_self_eq_false,Bool.false_eq_true,if_false]
  rw[hp]
  exact wpAny_pure h
theorem qm {l:Addr}{vs out:List Value}{Q:Value->Shared->Prop}(hl:s.heap.IsList l vs.toArray)(hz:vs.length<=sizeLine)(hz2:out.length<=sizeLine)
  (hr:∀s':Shared,(∀b o,s.heap.get? b=some o->s'.heap.get? b=some o)->zfp s' vs/\zez A.in1.in1 s' vs out)
  (h:Q (.ref (s.heap.objs.size+1)) { s with heap:=sortedAll s.heap vs out.toArray }) :
  wpAny (model prog w) A (call (.builtin "sorted") [.ref l]) Q E s:=by
 refine Calls.call_function_entry kind_sorted plain_sorted entry_sorted (args_sorted1 _) ?_
 unfold Builtin.«sorted»
 refine wpAny_bind (m:=checkCount "sorted" 1 1 _) (wpAny_pure ?_)
 refine wpAny_bind (collect_list hl ?_ hz)
 refine wpAny_bind (wpAny_newList ?_)
 have hsz:((s.heap.push (seqObj "list" #[] 0)).update s.heap.objs.size (Obj.mapSeq (·++vs.toArray))).objs.size=s.heap.objs.size+1:=by
  rw[Heap.size_update,size_push']
 have hoL:(((s.heap.push (seqObj "list" #[] 0)).update s.heap.objs.size (Obj.mapSeq (·++vs.toArray))).push (seqObj "list" vs.toArray 0)).get? (s.heap.objs.size+1)=some (seqObj "list" vs.toArray 0):=by
  rw[<- hsz];exact Heap.get?_push_size _ rfl
 have hk:∀b o,s.heap.get? b=some o->(((s.heap.push (seqObj "list" #[] 0)).update s.heap.objs.size (Obj.mapSeq (·++vs.toArray))).push (seqObj "list" vs.toArray 0)).get? b=some o:=by
  intro b o e
  refine Heap.get?_push_of_some _ ?_
  rw[Heap.get?_update_ne _ _ _ _ (Nat.ne_of_lt (Heap.lt_size e))]
  exact Heap.get?_push_of_some _ e
 show wpAny _ _ _ _ _ { s with heap:=((s.heap.push (seqObj "list" #[] 0)).update s.heap.objs.size (Obj.mapSeq (·++vs.toArray))).push (seqObj "list" vs.toArray 0) }
 rw[hsz]
 refine wpAny_bind (wpAny_holding (wpAny_call_entry slot_list_sort ⟨_,hoL,rfl⟩ entry_list_sort (kn (out:=out) hoL hz hz2 (fun s' k=>hr s' fun b o e=>k b o (Nat.ne_of_lt (Nat.lt_succ_of_lt (Heap.lt_size e))) (hk b o e)) ⟨_,rfl,?_⟩) (args_list_sort _)))
 exact wpAny_pure ⟨_,rfl,h⟩
end
def KeyS (K:PySem.W.Frag)(H:Hp)(c:Int)(n:Nat)(b:Addr)(k:List Int):Prop:=k.length=n /\
 ((c=0/\SqL K H b (k.map V.int))\/∃ (rs:List Addr) (kk:List (List Int)),2<=c/\k=kk.flatten/\rs.length=kk.length/\SqL K H b (rs.map V.ref)/\∀ (j:Nat) r q,rs[j]?=some r->kk[j]?=some q->(q.length:Int)+1=c/\SqL K H r (q.map V.int))
def zgV (K:PySem.W.Frag)(H:Hp)(bs cs:List Addr):Prop:=∃ (ks:List (List Int)) (c:Int) (n:Nat),ks.length=bs.length/\(∀ (i:Nat) b k,bs[i]?=some b->ks[i]?=some k->∃k',k=c::k'/\KeyS K H c n b k') /\
 ks.Nodup/\∃ps:List (List Int×Addr),ps.Perm (ks.zip bs)/\cs=ps.map Prod.snd/\ps.Pairwise fun x y=>HT.lexLt y.1 x.1=false
section
variable {X:Cx}
theorem zdA {k:List Int}{its:List Value}(r:Vals (k.map V.int) its)(j:Nat)(v:Value)(hv:its.toArray[j]?=some v):∃t,v=.int (k.getD j 0) t:=by
 have hv':its[j]?=some v:=by simpa using hv
 obtain ⟨y,hy,ry⟩:=r.at hv'
 rw[List.getElem?_map] at hy
 cases hb:k[j]? with
 | none=>rw[hb] at hy;cases hy
 | some b =>
  rw[hb] at hy;cases hy
  obtain ⟨t,rfl⟩:=(ry:∃t,v=.int b t)
  exact ⟨t,by rw[List.getD_eq_getElem?_getD,hb];rfl⟩
theorem wJ:∀ {bs:List Addr}{us:List Value},Vals (bs.map V.ref) us->us=bs.map Value.ref
 | [],_,.nil=>rfl
 | _::_,_,.cons p q=>by
  rw[wJ q]
  cases p
  rfl
theorem kF:∀ (bs:List Addr),Vals (bs.map V.ref) (bs.map Value.ref)
 | []=>.nil
 | _::r=>.cons rfl (kF r)
theorem zaf {pins:List (Addr×Obj)}{σ:St}{H:Hp}{s s':Shared}(I:Inv X pins σ H s)(kp:∀b o,s.heap.get? b=some o->s'.heap.get? b=some o){b:Addr}{k:List Int}(h:SqL X.K H b (k.map V.int)):∃its:Array Value,s'.heap.IsList b its/\IntsAt its k:=by
 obtain ⟨its,r,pl,_⟩:=I.list h
 obtain ⟨o,ho,hc,n,hd⟩:=pl.isList
 have:=r.length
 rw[List.length_map] at this
 exact ⟨its.toArray,⟨o,kp _ _ ho,hc,n,hd⟩,by simp;lia,zdA r⟩
theorem KeyS.val {pins:List (Addr×Obj)}{σ:St}{H:Hp}{s s':Shared}(I:Inv X pins σ H s)(kp:∀b o,s.heap.get? b=some o->s'.heap.get? b=some o){c:Int}{n:Nat}{b:Addr}{k:List Int}(h:KeyS X.K H c n b k):KeyV s' c n (.ref b) k:=by
 obtain ⟨hn,⟨hc,h⟩ | ⟨rs,kk,hc,e,hl,h,hr⟩⟩:=h
 .obtain ⟨its,h1,h2⟩:=zaf I kp h
  exact ⟨b,its,rfl,h1,hn,.inl ⟨hc,h2⟩⟩
 .obtain ⟨its,r,pl,_⟩:=I.list h
  obtain ⟨o,ho,hc',n',hd⟩:=pl.isList
  obtain rfl:=wJ r
  refine ⟨b,_,rfl,⟨o,kp _ _ ho,hc',n',hd⟩,hn,.inr ⟨kk,hc,e,by simp[hl],fun j u q hu hq=>?_⟩⟩
  have hu':(rs.map Value.ref)[j]?=some u:=by simpa using hu
  rw[List.getElem?_map] at hu'
  obtain ⟨a,ha,rfl⟩:=Option.map_eq_some_iff.mp hu'
  obtain ⟨l1,l2⟩:=hr j a q ha hq
  obtain ⟨ri,g1,g2⟩:=zaf I kp l2
  exact ⟨l1,a,ri,rfl,g1,g2⟩
theorem j8 (hu:X.A.units+64 < cLine):CallR X (.builtin "sorted") (fun xs H Q=>∃ (p:Addr) (bs cs:List Addr),xs=[.ref p]/\SqL X.K H p (bs.map V.ref)/\zgV X.K H bs cs/\∀l,H l=none->Q (.ref l) (upd H l (.lst (cs.map V.ref)))):=by
 intro pins s σ H xs us Q I r h
 obtain ⟨p,bs,cs,rfl,hq,⟨ks,c,n,hl,hk,hkd,ps,hps,rfl,hpp⟩,q⟩:=h
 obtain ⟨u,rfl,rx⟩:=x6 r
 cases rx
 obtain ⟨its,r',pl,hz⟩:=I.list hq
 obtain rfl:=wJ r'
 rw[List.length_map] at hz
 have hbd:bs.Nodup:=by
  unfold List.Nodup
  rw[List.pairwise_iff_getElem]
  intro i j hi hj hij e'
  have hi':i < ks.length:=by lia
  have hj':j < ks.length:=by lia
  obtain ⟨k1,e1,q1⟩:=hk i bs[i] ks[i] (by simp[hi]) (by simp[hi'])
  obtain ⟨k2,e2,q2⟩:=hk j bs[j] ks[j] (by simp[hj]) (by simp[hj'])
  rw[e'] at q1
  have:=(q1.val I fun _ _ h=>h).det (q2.val I fun _ _ h=>h)
  exact List.pairwise_iff_getElem.mp hkd i j hi' hj' hij (by rw[e1,e2,this])
 have hpm:(ps.map Prod.snd).Perm bs:=by
  have:=hps.map Prod.snd
  rwa [List.map_snd_zip (by lia)] at this
 have hso:(ps.map Prod.snd).Pairwise fun x y=>HT.lexLt ((ks[bs.idxOf y]?).getD []) ((ks[bs.idxOf x]?).getD [])=false:=by
  have hm:∀p∈ps,(ks[bs.idxOf p.2]?).getD []=p.1:=fun p hp=>by
   obtain ⟨i,hi⟩:=List.getElem?_of_mem (hps.mem_iff.mp hp)
   obtain ⟨h1,h2⟩:=List.getElem?_zip_eq_some.mp hi
   obtain ⟨h3,h4⟩:=List.getElem?_eq_some_iff.mp h2
   rw[<- h4,hbd.idxOf_getElem i h3,h1];rfl
  rw[List.pairwise_map]
  refine hpp.imp_of_mem fun {a b} ha hb h=>?_
  rw[hm a ha,hm b hb];exact h
 have hcs:(ps.map Prod.snd).length=bs.length:=hpm.length_eq
 clear hpp hps
 generalize ps.map Prod.snd=cs at *
 have keyX:∀ (i:Nat),i < bs.length->∃b k,bs[i]?=some b/\ks[i]?=some k:=fun i hi=>⟨bs[i],ks[i],by simp[hi],by simp⟩
 refine qm (out:=cs.map Value.ref) pl.isList (by simpa using hz) (by rw[List.length_map,hcs];exact hz) (fun s' kp=>⟨fun v hv=>?_,?_⟩) ?_
 .obtain ⟨b,hb,rfl⟩:=List.mem_map.mp hv
  obtain ⟨i,hi⟩:=List.getElem?_of_mem hb
  obtain ⟨_,k,_,h2⟩:=keyX i (List.getElem?_eq_some_iff.mp hi).1
  obtain ⟨k',_,hk'⟩:=hk i b k hi h2
  obtain ⟨l,_,e,⟨o,ho,hc,_⟩,_⟩:=hk'.val I kp
  cases e
  exact ⟨o,ho,hc⟩
 .have ix:∀ (i:Nat) b,bs[i]?=some b->bs.idxOf b=i:=fun i b hb=>by
   obtain ⟨hi,rfl⟩:=List.getElem?_eq_some_iff.mp hb
   exact hbd.idxOf_getElem i hi
  let key:Value->List Int:=fun v=>match v with
   | .ref b=>(ks[bs.idxOf b]?).getD []
   | _=>[]
  have keyAt:∀ (i:Nat) b k,bs[i]?=some b->ks[i]?=some k->key (.ref b)=k:=fun i b k hb hk'=>by
   show (ks[bs.idxOf b]?).getD []=k
   rw[ix i b hb,hk'];rfl
  refine ⟨key,fun x hx y hy=>?_,?_,hpm.map _,?_⟩
  .obtain ⟨b1,hb1,rfl⟩:=List.mem_map.mp hx
   obtain ⟨b0,hb0,rfl⟩:=List.mem_map.mp hy
   obtain ⟨i1,e1⟩:=List.getElem?_of_mem hb1
   obtain ⟨i0,e0⟩:=List.getElem?_of_mem hb0
   obtain ⟨_,k1,_,f1⟩:=keyX i1 (List.getElem?_eq_some_iff.mp e1).1
   obtain ⟨_,k0,_,f0⟩:=keyX i0 (List.getElem?_eq_some_iff.mp e0).1
   obtain ⟨k1',rfl,q1⟩:=hk _ _ _ e1 f1
   obtain ⟨k0',rfl,q0⟩:=hk _ _ _ e0 f0
   rw[keyAt _ _ _ e1 f1,keyAt _ _ _ e0 f0,HT.lexLt_cons,if_pos rfl]
   exact KeyV.lt (by show X.A.units+1+1+2 < cLine;lia) (q1.val I kp) (q0.val I kp)
  .have:(bs.map Value.ref).map key=ks:=by
    apply List.ext_getElem?
    intro i
    rw[List.getElem?_map,List.getElem?_map]
    by_cases hi:i < bs.length
    .obtain ⟨b,k,hb,hk'⟩:=keyX i hi
     rw[hb,hk']
     show some (key (.ref b))=some k
     rw[keyAt i b k hb hk']
    .rw[List.getElem?_eq_none (by lia),List.getElem?_eq_none (by lia)];rfl
   rw[this];exact hkd
  .rw[List.pairwise_map];exact hso
 .have hsz:((s.heap.push (seqObj "list" #[] 0)).update s.heap.objs.size (Obj.mapSeq (·++(bs.map Value.ref).toArray))).objs.size=s.heap.objs.size+1:=by
   rw[Heap.size_update,size_push']
  have hoL:(((s.heap.push (seqObj "list" #[] 0)).update s.heap.objs.size (Obj.mapSeq (·++(bs.map Value.ref).toArray))).push (seqObj "list" (bs.map Value.ref).toArray 0)).get? (s.heap.objs.size+1)=some (seqObj "list" (bs.map Value.ref).toArray 0):=by
   rw[<- hsz];exact Heap.get?_push_size _ rfl
  have ha:=Heap.lt_size hoL
  have hk1:∀b o,s.heap.get? b=some o->(((s.heap.push (seqObj "list" #[] 0)).update s.heap.objs.size (Obj.mapSeq (·++(bs.map Value.ref).toArray))).push (seqObj "list" (bs.map Value.ref).toArray 0)).get? b=some o:=by
   intro b o e
   refine Heap.get?_push_of_some _ ?_
   rw[Heap.get?_update_ne _ _ _ _ (Nat.ne_of_lt (Heap.lt_size e))]
   exact Heap.get?_push_of_some _ e
  have hk2:∀b o,s.heap.get? b=some o->(sortedAll s.heap (bs.map Value.ref) (cs.map Value.ref).toArray).get? b=some o:=by
   intro b o e
   have hb:=Heap.lt_size e
   unfold sortedAll sortedHeap
   rw[Heap.get?_update_ne _ _ _ _ (Nat.ne_of_lt (Nat.lt_succ_of_lt hb))]
   refine Heap.get?_push_of_some _ (Heap.get?_push_of_some _ ?_)
   rw[Heap.get?_update_ne _ _ _ _ (Nat.ne_of_lt (Nat.lt_succ_of_lt hb))]
   exact hk1 b o e
  have hres:∃c,(sortedAll s.heap (bs.map Value.ref) (cs.map Value.ref).toArray).get? (s.heap.objs.size+1)=some (seqObj "list" (cs.map Value.ref).toArray c):=by
   unfold sortedAll sortedHeap
   obtain ⟨e1,ho1⟩:∃e1,((((s.heap.push (seqObj "list" #[] 0)).update s.heap.objs.size (Obj.mapSeq (·++(bs.map Value.ref).toArray))).push (seqObj "list" (bs.map Value.ref).toArray 0)).update (s.heap.objs.size+1) (Obj.mapSeq fun _=>#[])).get? (s.heap.objs.size+1)=some (seqObj "list" #[] e1):=⟨_,get?_update_seq hoL (fun _=>#[])⟩
   exact ⟨_,get?_update_seq (Heap.get?_push_of_some _ (Heap.get?_push_of_some _ ho1)) (fun _=>(cs.map Value.ref).toArray)⟩
  obtain ⟨c,e⟩:=hres
  exact ⟨.ref (s.heap.objs.size+1),_,I.laid (t':=s.toks) hk2 (Nat.le_succ _) (show ObjOk X.prog X.w _ _ _ (.lst (cs.map V.ref)) from ⟨by rw[List.length_map,hcs];exact hz,_,c,kF cs,e⟩),rfl,q _ (I.hok.fresh (Nat.le_succ _))⟩
end
noncomputable def kG (ns:List Int):Int:=ns.getD (argBest (fun i j=>decide (ns.getD i 0 > ns.getD j 0)) (ns.length - 1)) 0
noncomputable def kH (ns:List Int):Int:=ns.getD (argBest (fun i j=>decide (ns.getD i 0 < ns.getD j 0)) (ns.length - 1)) 0
theorem xT (bt:Nat->Nat->Bool):∀k,argBest bt k<=k
 | 0=>Nat.le_refl _
 | k+1=>by
  unfold argBest
  split
  .exact Nat.le_refl _
  .exact Nat.le_succ_of_le (xT bt k)
set_option tactic.hygienic true in
theorem vK (val:Nat->Int):∀k i,i<=k->val i<=val (argBest (fun i j=>decide (val i > val j)) k)
 | 0,i,h=>by
  obtain rfl:i=0:=by lia
  exact Int.le_refl _
 | k+1,i,h=>by
  have ih:=vK val k
  unfold argBest
  split
  .rename_i z
   have z':=of_decide_eq_true z
   by_cases e:i=k+1
   .rw[e];exact Int.le_refl _
   .have:=ih i (by lia)
    lia
  .rename_i z
   have z':¬ val (k+1) > val (argBest (fun i j=>decide (val i > val j)) k):=fun y=>z (decide_eq_true y)
   by_cases e:i=k+1
   .rw[e];lia
   .exact ih i (by lia)
set_option tactic.hygienic true in
theorem vL (val:Nat->Int):∀k i,i<=k->val (argBest (fun i j=>decide (val i < val j)) k)<=val i
 | 0,i,h=>by
  obtain rfl:i=0:=by lia
  exact Int.le_refl _
 | k+1,i,h=>by
  have ih:=vL val k
  unfold argBest
  split
  .rename_i z
   have z':=of_decide_eq_true z
   by_cases e:i=k+1
   .rw[e];exact Int.le_refl _
   .have:=ih i (by lia)
    lia
  .rename_i z
   have z':¬ val (k+1) < val (argBest (fun i j=>decide (val i < val j)) k):=fun y=>z (decide_eq_true y)
   by_cases e:i=k+1
   .rw[e];lia
   .exact ih i (by lia)
section
variable {X:Cx}
theorem j9 (hc:X.calm=true):CallR X (.builtin "max") (fun xs H Q=>∃ (p:Addr) (ns:List Int),xs=[.ref p]/\SqL X.K H p (ns.map V.int)/\0 < ns.length/\Q (.int (kG ns)) H):=by
 intro pins s σ H xs us Q I r h
 obtain ⟨p,ns,rfl,hq,h0,q⟩:=h
 obtain ⟨u,rfl,rx⟩:=x6 r
 cases rx
 obtain ⟨its,r',pl,hz⟩:=I.list hq
 have hlen:=r'.length
 rw[List.length_map] at hlen
 obtain ⟨o,ho,_⟩:=id pl.isList
 have hlt:=Heap.lt_size ho
 have e0:its.toArray.size=ns.length:=by simp;lia
 have val:∀ (i:Nat) (v:Value),its.toArray[i]?=some v->∃t,v=.int (ns.getD i 0) t:=fun i v hv=>by
  have hv':its[i]?=some v:=by simpa using hv
  obtain ⟨y,hy,ry⟩:=r'.at hv'
  rw[List.getElem?_map] at hy
  cases hb:ns[i]? with
  | none=>rw[hb] at hy;cases hy
  | some b =>
   rw[hb] at hy;cases hy
   obtain ⟨t,rfl⟩:=(ry:∃t,v=.int b t)
   exact ⟨t,by rw[List.getD_eq_getElem?_getD,hb];rfl⟩
 refine call_max_walk (wpAny_pyIter_list pl.isList ?_)
 refine ⟨s.heap.objs.size,_,_,_,_,_,_,rfl,Walks.list (A:=X.A.in1) (I.ok.hd hc) s.heap.objs.size p (Nat.ne_of_lt hlt) its.toArray,⟨⟨_,Heap.get?_push_size _ rfl,rfl,rfl⟩,pl.isList.at fun o e=>Heap.get?_push_of_some _ e⟩,?_,by rw[e0];exact h0,CmpOf.ints_gt (fun i=>ns.getD i 0) val,fun v h' tk hv hk=>?_⟩
 .intro b hb
  have h1:s.heap.objs.size < (s.heap.push { cls:=.type "list_iterator",data:=.fields #[.ref p,.int 0 0] }).objs.size:=Heap.lt_size (Heap.get?_push_size _ rfl)
  have:b=s.heap.objs.size\/b=p:=by simpa using hb
  rcases this with rfl | rfl
  .exact h1
  .exact Nat.lt_trans hlt h1
 .rw[e0] at hv
  obtain ⟨t,rfl⟩:=val _ v hv
  exact ⟨.int (kG ns),H,I.kept (t':=tk) fun b o e=>hk b o (fun hb=>by
   have:b=s.heap.objs.size:=by simpa using hb
   exact absurd (Heap.lt_size e) (by rw[this];exact Nat.lt_irrefl _)) (Heap.get?_push_of_some _ e),⟨t,rfl⟩,q⟩
theorem ga (hc:X.calm=true):CallR X (.builtin "min") (fun xs H Q=>∃ (p:Addr) (ns:List Int),xs=[.ref p]/\SqL X.K H p (ns.map V.int)/\0 < ns.length/\Q (.int (kH ns)) H):=by
 intro pins s σ H xs us Q I r h
 obtain ⟨p,ns,rfl,hq,h0,q⟩:=h
 obtain ⟨u,rfl,rx⟩:=x6 r
 cases rx
 obtain ⟨its,r',pl,hz⟩:=I.list hq
 have hlen:=r'.length
 rw[List.length_map] at hlen
 obtain ⟨o,ho,_⟩:=id pl.isList
 have hlt:=Heap.lt_size ho
 have e0:its.toArray.size=ns.length:=by simp;lia
 have val:∀ (i:Nat) (v:Value),its.toArray[i]?=some v->∃t,v=.int (ns.getD i 0) t:=fun i v hv=>by
  have hv':its[i]?=some v:=by simpa using hv
  obtain ⟨y,hy,ry⟩:=r'.at hv'
  rw[List.getElem?_map] at hy
  cases hb:ns[i]? with
  | none=>rw[hb] at hy;cases hy
  | some b =>
   rw[hb] at hy;cases hy
   obtain ⟨t,rfl⟩:=(ry:∃t,v=.int b t)
   exact ⟨t,by rw[List.getD_eq_getElem?_getD,hb];rfl⟩
 refine call_min_walk (wpAny_pyIter_list pl.isList ?_)
 refine ⟨s.heap.objs.size,_,_,_,_,_,_,rfl,Walks.list (A:=X.A.in1) (I.ok.hd hc) s.heap.objs.size p (Nat.ne_of_lt hlt) its.toArray,⟨⟨_,Heap.get?_push_size _ rfl,rfl,rfl⟩,pl.isList.at fun o e=>Heap.get?_push_of_some _ e⟩,?_,by rw[e0];exact h0,CmpOf.ints_lt (fun i=>ns.getD i 0) val,fun v h' tk hv hk=>?_⟩
 .intro b hb
  have h1:s.heap.objs.size < (s.heap.push { cls:=.type "list_iterator",data:=.fields #[.ref p,.int 0 0] }).objs.size:=Heap.lt_size (Heap.get?_push_size _ rfl)
  have:b=s.heap.objs.size\/b=p:=by simpa using hb
  rcases this with rfl | rfl
  .exact h1
  .exact Nat.lt_trans hlt h1
 .rw[e0] at hv
  obtain ⟨t,rfl⟩:=val _ v hv
  exact ⟨.int (kH ns),H,I.kept (t':=tk) fun b o e=>hk b o (fun hb=>by
   have:b=s.heap.objs.size:=by simpa using hb
   exact absurd (Heap.lt_size e) (by rw[this];exact Nat.lt_irrefl _)) (Heap.get?_push_of_some _ e),⟨t,rfl⟩,q⟩
end
end L2
namespace Mini
open PySem PySem.Spec PyProof.Rows L2
section
variable {K:PySem.W.Frag}{as:List Addr}{H:Hp}{m:Me}{Q:VK}{X:Cx}
noncomputable def zfs:Blf->Option (Str×Value)
 | .len=>some ("len",.builtin "len")
 | .int=>some ("int",.type "int")
 | .list=>some ("list",.type "list")
 | .tuple=>some ("tuple",.type "tuple")
 | .abs=>some ("abs",.builtin "abs")
 | .max2=>some ("max",.builtin "max")
 | .min2=>some ("min",.builtin "min")
 | .sum=>some ("sum",.builtin "sum")
 | .all=>some ("all",.builtin "all")
 | .sorted=>some ("sorted",.builtin "sorted")
 | .minS=>some ("min",.builtin "min")
 | .maxS=>some ("max",.builtin "max")
 | _=>none
def rBl (K:PySem.W.Frag)(b:Blf):List V->Hp->VK->Prop:=fun vs H Q=>∃as m ws,Sim K as m H/\RepL K as H ws vs/\Post K as H Q (wD b ws m)
theorem yK {x:Wd}{vs:List V}(h:RepL K as H [x] vs):∃v,vs=[v]/\Rep K as H x v:=by
 obtain ⟨v,r,rfl,q,t⟩:=repL_cons.mp h
 obtain rfl:=repL_nil.mp t
 exact ⟨v,rfl,q⟩
theorem jk {x y:Wd}{vs:List V}(h:RepL K as H [x,y] vs):∃v u,vs=[v,u]/\Rep K as H x v/\Rep K as H y u:=by
 obtain ⟨v,r,rfl,q,t⟩:=repL_cons.mp h
 obtain ⟨u,rfl,q'⟩:=yK t
 exact ⟨v,u,rfl,q,q'⟩
theorem vM {w:Wd}{v:V}{xs:List Wd}(S:Sim K as m H)(R:Rep K as H w v)(h:wC m w=some xs):∃p vs,v=.ref p/\SqL K H p vs/\RepL K as H xs vs:=by
 cases w with
 | rol ys =>
  cases h
  obtain ⟨a,vs,rfl,hq,rr⟩:=rep_rol.mp R
  exact ⟨a,vs,rfl,hq.sq,rr⟩
 | ref l =>
  obtain ⟨b,hb,rfl⟩:=rep_ref.mp R
  obtain ⟨a,vs,ha,e,r⟩:=zS S (zL h)
  rw[hb] at ha
  cases ha
  exact ⟨b,vs,rfl,SqL.of e,r⟩
 | _=>cases h
theorem zag:∀ {xs:List Wd}{vs:List V}{i:Int},RepL K as H xs vs->qe xs=some i->∃ns:List Int,vs=ns.map V.int/\ns.sum=i
 | [],vs,i,R,h=>by cases h;exact ⟨[],repL_nil.mp R,rfl⟩
 | x::xs,vs,i,R,h=>by
  obtain ⟨v,r,rfl,q,t⟩:=repL_cons.mp R
  cases x with
  | int j =>
   simp only[qe,Option.map_eq_some_iff] at h
   obtain ⟨k,hk,rfl⟩:=h
   obtain ⟨ns,rfl,rfl⟩:=zag t hk
   obtain rfl:=rep_int.mp q
   exact ⟨j::ns,rfl,by simp⟩
  | _=>cases h
theorem zah:∀ {xs:List Wd}{vs:List V}{i:Bool},RepL K as H xs vs->qg xs=some i->∃bs:List Bool,vs=bs.map V.bl/\bs.all id=i
 | [],vs,i,R,h=>by cases h;exact ⟨[],repL_nil.mp R,rfl⟩
 | x::xs,vs,i,R,h=>by
  obtain ⟨v,r,rfl,q,t⟩:=repL_cons.mp R
  cases x with
  | bl j =>
   simp only[qg,Option.map_eq_some_iff] at h
   obtain ⟨k,hk,rfl⟩:=h
   obtain ⟨ns,rfl,rfl⟩:=zah t hk
   obtain rfl:=rep_bl.mp q
   exact ⟨j::ns,rfl,by simp⟩
  | _=>cases h
theorem vj {o:Option (List Wd)}{f:(List Wd)->Rz}(h:Post K as H Q (match o with | some a=>f a | none=>.no)):∃a,o=some a/\Post K as H Q (f a):=by
 cases o with
 | none=>exact h.elim
 | some a=>exact ⟨a,rfl,h⟩
theorem zdB {o:Option Int}{f:Int->Rz}(h:Post K as H Q (match o with | some a=>f a | none=>.no)):∃a,o=some a/\Post K as H Q (f a):=by
 cases o with
 | none=>exact h.elim
 | some a=>exact ⟨a,rfl,h⟩
theorem zdC {o:Option Bool}{f:Bool->Rz}(h:Post K as H Q (match o with | some a=>f a | none=>.no)):∃a,o=some a/\Post K as H Q (f a):=by
 cases o with
 | none=>exact h.elim
 | some a=>exact ⟨a,rfl,h⟩
theorem vN:∀ (xs ys:List Int),ltW xs ys=HT.lexLt xs ys
 | [],[]=>rfl
 | [],_::_=>rfl
 | _::_,[]=>rfl
 | x::xs,y::ys=>by
  show (if x=y then ltW xs ys else decide (x < y))=if x=y then HT.lexLt xs ys else decide (x < y)
  rw[vN xs ys]
theorem vO {α:Type}(p:List Int×α):∀l:List (List Int×α),(zq p l).Perm (p::l)
 | []=>.refl _
 | q::r=>by
  show (if ltW p.1 q.1 then p::q::r else q::zq p r).Perm _
  split
  .exact .refl _
  .exact ((vO p r).cons q).trans (.swap p q r)
theorem kI {α:Type}:∀l:List (List Int×α),(zu l).Perm l
 | []=>.refl _
 | p::r=>by rw[zX];exact (vO p _).trans ((kI r).cons p)
theorem jl {α:Type}:∀ {ps:List (List Int×α)},yy (ps.map Prod.fst)=true->ps.Pairwise (fun x y=>HT.lexLt x.1 y.1=true)/\∃n c,∀x∈ps,x.1.length=n/\x.1.head?=c
 | [],_=>⟨.nil,0,none,by simp⟩
 | [p],_=>⟨by simp,p.1.length,p.1.head?,by simp⟩
 | p::q::r,h=>by
  have h':(ltW p.1 q.1 && (decide (p.1.length=q.1.length) && decide (p.1.head?=q.1.head?)) && yy ((q::r).map Prod.fst))=true:=h
  rw[Bool.and_eq_true,Bool.and_eq_true,Bool.and_eq_true] at h'
  obtain ⟨⟨a1,a2,a4⟩,a3⟩:=h'
  obtain ⟨b1,n,c,b2⟩:=jl a3
  rw[vN] at a1
  have bq:=b2 q (by simp)
  refine ⟨List.pairwise_cons.mpr ⟨fun y hy=>?_,b1⟩,n,c,fun x hx=>?_⟩
  .rcases List.mem_cons.mp hy with rfl | hy
   .exact a1
   .exact yh _ _ _ a1 ((List.pairwise_cons.mp b1).1 y hy)
  .rcases List.mem_cons.mp hx with rfl | hx
   .exact ⟨(of_decide_eq_true a2).trans bq.1,(of_decide_eq_true a4).trans bq.2⟩
   .exact b2 x hx
theorem xt:∀ {xs:List Wd}{vs:List V}{k:List Int},RepL K as H xs vs->yG xs=some k->vs=k.map V.int
 | [],vs,k,R,h=>by cases h;exact repL_nil.mp R
 | x::xs,vs,k,R,h=>by
  obtain ⟨v,r,rfl,q,t⟩:=repL_cons.mp R
  cases x with
  | int j =>
   have h':(yG xs).map (j::·)=some k:=h
   obtain ⟨k',hk,rfl⟩:=Option.map_eq_some_iff.mp h'
   rw[xt t hk,rep_int.mp q]
   rfl
  | _=>cases h
theorem gb (S:Sim K as m H):∀ {zs:List Wd}{vs:List V}{ks:List (List Int)},RepL K as H zs vs->wY m zs=some ks ->
  ∃bs:List Addr,vs=bs.map V.ref/\ks.length=bs.length/\∀ (i:Nat) b k,bs[i]?=some b->ks[i]?=some k->SqL K H b (k.map V.int)
 | [],vs,ks,R,h=>by
  cases h
  exact ⟨[],repL_nil.mp R,rfl,fun i b k h1 _=>by simp at h1⟩
 | z::zs,vs,ks,R,h=>by
  obtain ⟨v,r,rfl,q,t⟩:=repL_cons.mp R
  cases z with
  | ref l =>
   have h':(match zf m l with
    | some xs=>match yG xs,wY m zs with
     | some k,some ks=>some (k::ks)
     | _,_=>none
    | none=>none)=some ks:=h
   cases e1:zf m l with
   | none=>rw[e1] at h';cases h'
   | some xs =>
    rw[e1] at h'
    cases e2:yG xs with
    | none=>simp only[e2] at h';cases h'
    | some k =>
     cases e3:wY m zs with
     | none=>simp only[e2,e3] at h';cases h'
     | some ks' =>
      simp only[e2,e3] at h'
      cases h'
      obtain ⟨bs,rfl,hl,hb⟩:=gb S t e3
      obtain ⟨p,us,rfl,hq,rr⟩:=vM S q (show wC m (.ref l)=some xs from e1)
      refine ⟨p::bs,rfl,by simp[hl],fun i b k' h1 h2=>?_⟩
      cases i with
      | zero =>
       cases h1
       cases h2
       rw[<- xt rr e2]
       exact hq
      | succ i=>exact hb i b k' h1 h2
  | _=>cases h
theorem za5 {kk:List (List Int)}{k:List Int}(h:qV kk=some k):∃c:Int,k=c::kk.flatten/\2<=c/\kk≠[]/\∀q∈kk,(q.length:Int)+1=c:=by
 cases kk with
 | nil=>cases h
 | cons r rs =>
  replace h:(if r.length≠0/\rs.all (fun q=>q.length == r.length)=true then some (((r.length:Int)+1)::(r::rs).flatten) else none)=some k:=h
  by_cases z:r.length≠0/\rs.all (fun q=>q.length == r.length)=true
  .rw[if_pos z] at h
   cases h
   refine ⟨_,rfl,by lia,by simp,fun q hq=>?_⟩
   rcases List.mem_cons.mp hq with rfl | hq
   .rfl
   .have:=eq_of_beq (List.all_eq_true.mp z.2 q hq)
    lia
  .rw[if_neg z] at h;cases h
theorem zdD (S:Sim K as m H){xs:List Wd}{vs:List V}{k:List Int}{p:Addr}(R:RepL K as H xs vs)(hq:SqL K H p vs)(h:jW m xs=some k):∃c k',k=c::k'/\KeyS K H c k'.length p k':=by
 unfold jW at h
 cases e:yG xs with
 | some k' =>
  rw[e] at h
  cases h
  exact ⟨0,k',rfl,rfl,.inl ⟨rfl,by rw[<- xt R e];exact hq⟩⟩
 | none =>
  rw[e] at h
  obtain ⟨kk,h1,h2⟩:=Option.bind_eq_some_iff.mp h
  obtain ⟨c,rfl,hc,_,hl⟩:=za5 h2
  obtain ⟨rs,rfl,h3,h4⟩:=gb S R h1
  exact ⟨c,_,rfl,rfl,.inr ⟨rs,kk,hc,rfl,h3.symm,hq,fun j r q a b=>⟨hl q (List.mem_of_getElem? b),h4 j r q a b⟩⟩⟩
theorem gc (S:Sim K as m H):∀ {zs:List Wd}{vs:List V}{ks:List (List Int)},RepL K as H zs vs->xo m zs=some ks ->
  ∃bs:List Addr,vs=bs.map V.ref/\ks.length=bs.length/\∀ (i:Nat) b k,bs[i]?=some b->ks[i]?=some k->∃c k',k=c::k'/\KeyS K H c k'.length b k'
 | [],vs,ks,R,h=>by
  cases h
  exact ⟨[],repL_nil.mp R,rfl,fun i b k h1 _=>by simp at h1⟩
 | z::zs,vs,ks,R,h=>by
  obtain ⟨v,r,rfl,q,t⟩:=repL_cons.mp R
  cases z with
  | ref l =>
   have h':(match zf m l with
    | some xs=>match jW m xs,xo m zs with
     | some k,some ks=>some (k::ks)
     | _,_=>none
    | none=>none)=some ks:=h
   cases e1:zf m l with
   | none=>rw[e1] at h';cases h'
   | some xs =>
    rw[e1] at h'
    cases e2:jW m xs with
    | none=>simp only[e2] at h';cases h'
    | some k =>
     cases e3:xo m zs with
     | none=>simp only[e2,e3] at h';cases h'
     | some ks' =>
      simp only[e2,e3] at h'
      cases h'
      obtain ⟨bs,rfl,hl,hb⟩:=gc S t e3
      obtain ⟨p,us,rfl,hq,rr⟩:=vM S q (show wC m (.ref l)=some xs from e1)
      refine ⟨p::bs,rfl,by simp[hl],fun i b k' h1 h2=>?_⟩
      cases i with
      | zero =>
       cases h1
       cases h2
       exact zdD S rr hq e2
      | succ i=>exact hb i b k' h1 h2
  | _=>cases h
theorem zai {k:List Int}{z:Wd}{b:Addr}(hz:Rep K as H z (.ref b)):∀ {ps:List (List Int×Wd)}{qs:List (List Int×Addr)},ps.map Prod.fst=qs.map Prod.fst->RepL K as H (ps.map Prod.snd) ((qs.map Prod.snd).map V.ref) ->
  (zq (k,z) ps).map Prod.fst=(zq (k,b) qs).map Prod.fst/\RepL K as H ((zq (k,z) ps).map Prod.snd) (((zq (k,b) qs).map Prod.snd).map V.ref)
 | [],[],_,_=>⟨rfl,repL_cons.mpr ⟨_,_,rfl,hz,repL_nil.mpr rfl⟩⟩
 | [],_::_,h,_=>by cases h
 | _::_,[],h,_=>by cases h
 | p::ps,q::qs,h,R=>by
  obtain ⟨h1,h2⟩:=List.cons.inj (show p.1::ps.map Prod.fst=q.1::qs.map Prod.fst from h)
  obtain ⟨v,r,e,r1,r2⟩:=repL_cons.mp R
  have e':V.ref q.2::(qs.map Prod.snd).map V.ref=v::r:=e
  cases e'
  show (if ltW k p.1 then (k,z)::p::ps else p::zq (k,z) ps).map Prod.fst=(if ltW k q.1 then (k,b)::q::qs else q::zq (k,b) qs).map Prod.fst/\RepL K as H ((if ltW k p.1 then (k,z)::p::ps else p::zq (k,z) ps).map Prod.snd) (((if ltW k q.1 then (k,b)::q::qs else q::zq (k,b) qs).map Prod.snd).map V.ref)
  rw[h1]
  cases ltW k q.1 with
  | true=>exact ⟨congrArg (k::·) (show p.1::ps.map Prod.fst=q.1::qs.map Prod.fst from h),repL_cons.mpr ⟨_,_,rfl,hz,R⟩⟩
  | false =>
   obtain ⟨i1,i2⟩:=zai hz h2 r2
   exact ⟨by show p.1::(zq (k,z) ps).map Prod.fst=q.1::(zq (k,b) qs).map Prod.fst;rw[h1,i1],repL_cons.mpr ⟨_,_,rfl,r1,i2⟩⟩
theorem gd:∀ {ks:List (List Int)}{zs:List Wd}{bs:List Addr},RepL K as H zs (bs.map V.ref) ->
  (zu (ks.zip zs)).map Prod.fst=(zu (ks.zip bs)).map Prod.fst/\RepL K as H ((zu (ks.zip zs)).map Prod.snd) (((zu (ks.zip bs)).map Prod.snd).map V.ref)
 | [],_,_,_=>⟨rfl,repL_nil.mpr rfl⟩
 | _::_,[],bs,R=>by
  have:=repL_nil.mp R
  cases bs with
  | nil=>exact ⟨rfl,repL_nil.mpr rfl⟩
  | cons _ _=>cases this
 | k::ks,z::zs,bs,R=>by
  obtain ⟨v,r,e,r1,r2⟩:=repL_cons.mp R
  cases bs with
  | nil=>cases e
  | cons b bs =>
   cases e
   obtain ⟨i1,i2⟩:=gd (ks:=ks) r2
   rw[List.zip_cons_cons,List.zip_cons_cons,zX,zX]
   exact zai r1 i1 i2
theorem zft {ks:List (List Int)}{bs:List Addr}{G:Hp}(hl:ks.length=bs.length)(hb:∀ (i:Nat) b k,bs[i]?=some b->ks[i]?=some k->∃c k',k=c::k'/\KeyS K G c k'.length b k')(h:yy ((zu (ks.zip bs)).map Prod.fst)=true):zgV K G bs ((zu (ks.zip bs)).map Prod.snd):=by
 obtain ⟨h1,n,c,h2⟩:=jl h
 have hp:=kI (ks.zip bs)
 refine ⟨ks,c.getD 0,n - 1,hl,fun i b k e1 e2=>?_,?_,_,hp,rfl,?_⟩
 .obtain ⟨c',k',rfl,q⟩:=hb i b k e1 e2
  obtain ⟨z1,z2⟩:=h2 (c'::k',b) (hp.mem_iff.mpr (List.mem_of_getElem? (List.getElem?_zip_eq_some.mpr ⟨e2,e1⟩)))
  have z1':k'.length+1=n:=z1
  have z2':some c'=c:=z2
  rw[<- z2',show n - 1=k'.length by lia]
  exact ⟨k',rfl,q⟩
 .have e:(zu (ks.zip bs)).map Prod.fst |>.Nodup:=by
   unfold List.Nodup
   rw[List.pairwise_map]
   refine h1.imp fun {a b} c e=>?_
   rw[e,yg] at c;cases c
  have:=(hp.map Prod.fst).nodup_iff.mp e
  rwa [List.map_fst_zip (by lia)] at this
 .refine h1.imp fun {a b} c=>?_
  cases d:HT.lexLt b.1 a.1 with
  | false=>rfl
  | true=>have:=yh _ _ _ c d;rw[yg] at this;cases this
theorem zaj:∀ (r:List Int) (a:Int),y1 a r<=a/\(∀x∈r,y1 a r<=x)/\y1 a r∈a::r
 | [],a=>⟨Int.le_refl _,by simp,by simp[y1]⟩
 | b::r,a=>by
  obtain ⟨h1,h2,h3⟩:=zaj r (if b < a then b else a)
  show y1 (if b < a then b else a) r<=a/\(∀x∈b::r,y1 (if b < a then b else a) r<=x)/\y1 (if b < a then b else a) r∈a::b::r
  have hc:(if b < a then b else a)<=a/\(if b < a then b else a)<=b/\((if b < a then b else a)=a\/(if b < a then b else a)=b):=by split <;> lia
  generalize (if b < a then b else a)=c at *
  refine ⟨by lia,fun x hx=>?_,?_⟩
  .rcases List.mem_cons.mp hx with rfl | hx
   .lia
   .exact h2 x hx
  .rcases List.mem_cons.mp h3 with h3 | h3
   .rw[h3];rcases hc.2.2 with q | q <;> simp[q]
   .exact List.mem_cons_of_mem _ (List.mem_cons_of_mem _ h3)
theorem zak:∀ (r:List Int) (a:Int),a<=xb a r/\(∀x∈r,x<=xb a r)/\xb a r∈a::r
 | [],a=>⟨Int.le_refl _,by simp,by simp[xb]⟩
 | b::r,a=>by
  obtain ⟨h1,h2,h3⟩:=zak r (if b > a then b else a)
  show a<=xb (if b > a then b else a) r/\(∀x∈b::r,x<=xb (if b > a then b else a) r)/\xb (if b > a then b else a) r∈a::b::r
  have hc:a<=(if b > a then b else a)/\b<=(if b > a then b else a)/\((if b > a then b else a)=a\/(if b > a then b else a)=b):=by split <;> lia
  generalize (if b > a then b else a)=c at *
  refine ⟨by lia,fun x hx=>?_,?_⟩
  .rcases List.mem_cons.mp hx with rfl | hx
   .lia
   .exact h2 x hx
  .rcases List.mem_cons.mp h3 with h3 | h3
   .rw[h3];rcases hc.2.2 with q | q <;> simp[q]
   .exact List.mem_cons_of_mem _ (List.mem_cons_of_mem _ h3)
theorem getD_mem {k:List Int}{i:Nat}(h:i < k.length):k.getD i 0∈k:=by simp[h]
theorem gf {k:List Int}{x:Int}(h:x∈k):∃i,i < k.length/\k.getD i 0=x:=by
 obtain ⟨i,hi,e⟩:=List.getElem_of_mem h
 exact ⟨i,hi,by simp[hi,e]⟩
theorem zb2 (i:Int)(r:List Int):kH (i::r)=y1 i r:=by
 obtain ⟨h1,h2,h3⟩:=zaj r i
 have ha:=xT (fun a b=>decide ((i::r).getD a 0 < (i::r).getD b 0)) ((i::r).length - 1)
 have hm:kH (i::r)∈i::r:=getD_mem (by have:(i::r).length=r.length+1:=rfl;lia)
 obtain ⟨j,hj,e⟩:=gf h3
 have hb:=vL (fun a=>(i::r).getD a 0) ((i::r).length - 1) j (by lia)
 rw[e] at hb
 have hb':kH (i::r)<=y1 i r:=hb
 have:y1 i r<=kH (i::r):=by
  rcases List.mem_cons.mp hm with h | h
  .rw[h];exact h1
  .exact h2 _ h
 lia
theorem zb3 (i:Int)(r:List Int):kG (i::r)=xb i r:=by
 obtain ⟨h1,h2,h3⟩:=zak r i
 have ha:=xT (fun a b=>decide ((i::r).getD a 0 > (i::r).getD b 0)) ((i::r).length - 1)
 have hm:kG (i::r)∈i::r:=getD_mem (by have:(i::r).length=r.length+1:=rfl;lia)
 obtain ⟨j,hj,e⟩:=gf h3
 have hb:=vK (fun a=>(i::r).getD a 0) ((i::r).length - 1) j (by lia)
 rw[e] at hb
 have hb':xb i r<=kG (i::r):=hb
 have:kG (i::r)<=xb i r:=by
  rcases List.mem_cons.mp hm with h | h
  .rw[h];exact h1
  .exact h2 _ h
 lia
theorem zal {o:Option (List Int)}{f:Int->List Int->Rz}(h:Post K as H Q (match o with | some (i::r)=>f i r | _=>.no)):∃i r,o=some (i::r)/\Post K as H Q (f i r):=by
 cases o with
 | none=>exact h.elim
 | some a =>
  cases a with
  | nil=>exact h.elim
  | cons i r=>exact ⟨i,r,rfl,h⟩
set_option tactic.hygienic true in
theorem zb4 (hu:X.A.units+64 < cLine)(hc:X.calm=true){b:Blf}{nm:Str}{f:Value}(hb:zfs b=some (nm,f)):CallR X f (rBl X.K b):=by
 intro pins s σ H xs us Q I r h
 obtain ⟨as,m,ws,S,R,q⟩:=h
 cases b with
 | len =>
  cases hb
  refine ja pins s σ H xs us Q I r ?_
  rcases ws with _ | ⟨x,_ | ⟨_,_⟩⟩
  .exact q.elim
  .obtain ⟨ys,hs,q⟩:=vj (o:=yx m x) (f:=fun ys=>.ok (.int ys.length) m) q
   obtain ⟨v,rfl,q1⟩:=yK R
   obtain ⟨p,vs,rfl,hq,rr⟩:=vB S q1 hs
   refine ⟨p,vs,rfl,hq,?_⟩
   rw[<- rr.length]
   exact q.ok S (rep_int.mpr rfl)
  .exact q.elim
 | int =>
  cases hb
  refine zaU pins s σ H xs us Q I r ?_
  cases ws with
  | nil=>exact q.elim
  | cons x ws =>
   cases x with
   | int i =>
    cases ws with
    | nil =>
     obtain ⟨v,rfl,q1⟩:=yK R
     obtain rfl:=rep_int.mp q1
     exact .inl ⟨i,rfl,q.ok S (rep_int.mpr rfl)⟩
    | cons _ _=>exact q.elim
   | bl i =>
    cases ws with
    | nil =>
     obtain ⟨v,rfl,q1⟩:=yK R
     obtain rfl:=rep_bl.mp q1
     exact .inr ⟨i,rfl,q.ok S (rep_int.mpr rfl)⟩
    | cons _ _=>exact q.elim
   | _=>exact q.elim
 | list =>
  cases hb
  refine jb pins s σ H xs us Q I r ?_
  rcases ws with _ | ⟨x,_ | ⟨_,_⟩⟩
  .exact q.elim
  .obtain ⟨ys,hs,q⟩:=vj (o:=yx m x) (f:=fun ys=>alloc m ys) q
   obtain ⟨v,rfl,q1⟩:=yK R
   obtain ⟨p,vs,rfl,hq,rr⟩:=vB S q1 hs
   exact ⟨p,vs,rfl,hq,(xq S rr q).2⟩
  .exact q.elim
 | tuple=>exact q.elim
 | abs=>exact q.elim
 | sorted =>
  cases hb
  refine j8 hu pins s σ H xs us Q I r ?_
  rcases ws with _ | ⟨x,_ | ⟨_,_⟩⟩
  .exact q.elim
  .cases x with
   | ref l =>
    obtain ⟨zs,hs,q⟩:=vj (o:=zf m l) (f:=fun zs=>match (xo m zs).bind fun ks=>yo Wd ks zs with
     | some ys=>alloc m ys
     | none=>.no) q
    obtain ⟨ys,ht,q⟩:=vj (o:=(xo m zs).bind fun ks=>yo Wd ks zs) (f:=fun ys=>alloc m ys) q
    obtain ⟨ks,hk,ht⟩:=Option.bind_eq_some_iff.mp ht
    obtain ⟨v,rfl,q1⟩:=yK R
    obtain ⟨p,vs,rfl,hq,rr⟩:=vM S q1 (show wC m (.ref l)=some zs from hs)
    obtain ⟨bs,rfl,hl,hb⟩:=gc S rr hk
    obtain ⟨e1,e2⟩:=gd (ks:=ks) rr
    rw[xp] at ht
    have ht':(if yy ((zu (ks.zip zs)).map Prod.fst) then some ((zu (ks.zip zs)).map Prod.snd) else none)=some ys:=ht
    rw[e1] at ht'
    cases z:yy ((zu (ks.zip bs)).map Prod.fst) with
    | false=>rw[z] at ht';cases ht'
    | true =>
     rw[z] at ht'
     cases ht'
     exact ⟨p,bs,_,rfl,hq,zft hl hb z,(xq S e2 q).2⟩
   | _=>exact q.elim
  .cases x <;> exact q.elim
 | minS =>
  cases hb
  refine ga hc pins s σ H xs us Q I r ?_
  rcases ws with _ | ⟨x,_ | ⟨_,_⟩⟩
  .exact q.elim
  .obtain ⟨i,k,hs,q⟩:=zal (o:=(wC m x).bind yG) (f:=fun i r=>.ok (.int (y1 i r)) m) q
   obtain ⟨ys,h1,h2⟩:=Option.bind_eq_some_iff.mp hs
   obtain ⟨v,rfl,q1⟩:=yK R
   obtain ⟨p,vs,rfl,hq,rr⟩:=vM S q1 h1
   obtain rfl:=xt rr h2
   exact ⟨p,i::k,rfl,hq,by simp,by rw[zb2];exact q.ok S (rep_int.mpr rfl)⟩
  .exact q.elim
 | maxS =>
  cases hb
  refine j9 hc pins s σ H xs us Q I r ?_
  rcases ws with _ | ⟨x,_ | ⟨_,_⟩⟩
  .exact q.elim
  .obtain ⟨i,k,hs,q⟩:=zal (o:=(wC m x).bind yG) (f:=fun i r=>.ok (.int (xb i r)) m) q
   obtain ⟨ys,h1,h2⟩:=Option.bind_eq_some_iff.mp hs
   obtain ⟨v,rfl,q1⟩:=yK R
   obtain ⟨p,vs,rfl,hq,rr⟩:=vM S q1 h1
   obtain rfl:=xt rr h2
   exact ⟨p,i::k,rfl,hq,by simp,by rw[zb3];exact q.ok S (rep_int.mpr rfl)⟩
  .exact q.elim
 | sum =>
  cases hb
  refine jV hc pins s σ H xs us Q I r ?_
  rcases ws with _ | ⟨x,_ | ⟨_,_⟩⟩
  .exact q.elim
  .obtain ⟨i,hs,q⟩:=zdB (o:=(wC m x).bind qe) (f:=fun i=>.ok (.int i) m) q
   obtain ⟨ys,h1,h2⟩:=Option.bind_eq_some_iff.mp hs
   obtain ⟨v,rfl,q1⟩:=yK R
   obtain ⟨p,vs,rfl,hq,rr⟩:=vM S q1 h1
   obtain ⟨ns,rfl,rfl⟩:=zag rr h2
   exact ⟨p,ns,rfl,hq,q.ok S (rep_int.mpr rfl)⟩
  .exact q.elim
 | all =>
  cases hb
  refine jU hc pins s σ H xs us Q I r ?_
  rcases ws with _ | ⟨x,_ | ⟨_,_⟩⟩
  .exact q.elim
  .obtain ⟨i,hs,q⟩:=zdC (o:=(wC m x).bind qg) (f:=fun i=>.ok (.bl i) m) q
   obtain ⟨ys,h1,h2⟩:=Option.bind_eq_some_iff.mp hs
   obtain ⟨v,rfl,q1⟩:=yK R
   obtain ⟨p,vs,rfl,hq,rr⟩:=vM S q1 h1
   obtain ⟨ns,rfl,rfl⟩:=zah rr h2
   exact ⟨p,ns,rfl,hq,q.ok S (rep_bl.mpr rfl)⟩
  .exact q.elim
 | max2 =>
  cases hb
  refine zaS hc pins s σ H xs us Q I r ?_
  cases ws with
  | nil=>exact q.elim
  | cons x ws =>
   cases x with
   | int i =>
    cases ws with
    | nil=>exact q.elim
    | cons y ws =>
     cases y with
     | int j =>
      cases ws with
      | nil =>
       obtain ⟨v,u,rfl,q1,q2⟩:=jk R
       obtain rfl:=rep_int.mp q1
       obtain rfl:=rep_int.mp q2
       exact ⟨i,j,rfl,q.ok S (rep_int.mpr rfl)⟩
      | cons _ _=>exact q.elim
     | _=>exact q.elim
   | _=>exact q.elim
 | min2 =>
  cases hb
  refine zaT hc pins s σ H xs us Q I r ?_
  cases ws with
  | nil=>exact q.elim
  | cons x ws =>
   cases x with
   | int i =>
    cases ws with
    | nil=>exact q.elim
    | cons y ws =>
     cases y with
     | int j =>
      cases ws with
      | nil =>
       obtain ⟨v,u,rfl,q1,q2⟩:=jk R
       obtain rfl:=rep_int.mp q1
       obtain rfl:=rep_int.mp q2
       exact ⟨i,j,rfl,q.ok S (rep_int.mpr rfl)⟩
      | cons _ _=>exact q.elim
     | _=>exact q.elim
   | _=>exact q.elim
 | _=>cases hb
set_option tactic.hygienic true in
theorem zfu {x y:Wd}{v u:V}(S:Sim K as m H)(R:Rep K as H x v)(R':Rep K as H y u)(h:Post K as H Q (yH x y m)):rIx K v u H Q:=by
 unfold yH at h
 split at h
 .rename_i i
  obtain rfl:=rep_int.mp R'
  split at h
  .rename_i xs hs
   split at h
   .rename_i w hw
    obtain ⟨p,vs,rfl,hq,rr⟩:=vB S R hs
    have e:∃z,atI vs i=some z/\Rep K as H w z:=by
     obtain ⟨j,hj,hx⟩:=Option.bind_eq_some_iff.mp hw
     obtain ⟨z,hz,rz⟩:=rr.get hx
     refine ⟨z,?_,rz⟩
     unfold atI
     have hj':ixN vs.length i=some j:=by rw[<- rr.length];exact hj
     rw[hj']
     exact hz
    obtain ⟨z,hz,rz⟩:=e
    rcases hq with hq | hq
    .exact .inl ⟨p,vs,i,z,rfl,rfl,hq,hz,h.ok S rz⟩
    .exact .inr (.inl ⟨p,vs,i,z,rfl,rfl,hq,hz,h.ok S rz⟩)
   .exact h.elim
  .exact h.elim
 .exact h.elim
noncomputable def mtV:Mth->Str×String
 | .append=>("append", "list.append") | .extend=>("extend", "list.extend") | .pop=>("pop", "list.pop") | .reverse=>("reverse", "list.reverse") | .clear=>("clear", "list.clear") | .insert=>("insert", "list.insert")
def rMt (K:PySem.W.Frag)(n:Mth):V->List V->Hp->VK->Prop:=fun v vs H Q=>∃as m w ws,Sim K as m H/\Rep K as H w v/\RepL K as H ws vs/\Post K as H Q (mtR n w ws m)
set_option tactic.hygienic true in
theorem zfv (n:Mth):MtR X (mtV n).2 (rMt X.K n):=by
 intro pins s σ H v vs u us Q I r rs h
 obtain ⟨as,m,w,ws,S,R,Rs,q⟩:=h
 unfold mtR at q
 split at q
 .rename_i l
  split at q
  .rename_i xs hl
   obtain ⟨a,ha,rfl⟩:=rep_ref.mp R
   obtain ⟨b,zs,hb,e,rr⟩:=zS S hl
   rw[ha] at hb;cases hb
   have hz:zs.length<=sizeLine:=(I.lstM e).1
   split at q
   .rename_i y
    split at q
    .rename_i hlt
     obtain ⟨z,rfl,rz⟩:=yK Rs
     obtain ⟨T,S'⟩:=S.set ha hl (rr.append (.one rz))
     exact ky pins s σ H _ _ u us Q I r rs ⟨a,zs,z,rfl,rfl,e,by rw[<- rr.length];exact Nat.lt_of_lt_of_le hlt yJ,q _ _ _ T S' (rep_non.mpr rfl)⟩
    .exact q.elim
   .split at q
    .rename_i y hy
     obtain rfl:=repL_nil.mp Rs
     obtain ⟨z,hz',rz⟩:=rr.get hy
     obtain ⟨T,S'⟩:=S.set ha hl rr.dropLast
     exact zfh pins s σ H _ _ u us Q I r rs ⟨a,zs,z,rfl,rfl,e,by rw[<- rr.length];exact hz',q _ _ _ T S' (rz.mono S T)⟩
    .exact q.elim
   .obtain rfl:=repL_nil.mp Rs
    obtain ⟨T,S'⟩:=S.set ha hl rr.reverse
    exact g8 pins s σ H _ _ u us Q I r rs ⟨a,zs,rfl,rfl,e,q _ _ _ T S' (rep_non.mpr rfl)⟩
   .exact q.elim
  .exact q.elim
 .exact q.elim
noncomputable def tgT:Tg->String
 | .int => "int" | .bool => "bool" | .list => "list" | .tuple => "tuple" | .str => "str" | .dict => "dict"
theorem zdE (K:PySem.W.Frag)(t:Tg):
  PySem.W.kitOne K (.type "NoneType") (.type (tgT t))=some false/\PySem.W.kitOne K (.type "bool") (.type (tgT t))=some (decide (t=.bool\/t=.int))/\PySem.W.kitOne K (.type "int") (.type (tgT t))=some (decide (t=.int)) /\
  PySem.W.kitOne K (.type "str") (.type (tgT t))=some (decide (t=.str))/\PySem.W.kitOne K (.type "list") (.type (tgT t))=some (decide (t=.list))/\PySem.W.kitOne K (.type "tuple") (.type (tgT t))=some (decide (t=.tuple)):=by
 cases t <;> refine ⟨?_,?_,?_,?_,?_,?_⟩ <;> kernel_rfl
def rIsi (K:PySem.W.Frag)(t:Tg):List V->Hp->VK->Prop:=fun vs H Q=>∃as m w v,vs=[v,.ty (tgT t)]/\Sim K as m H/\Rep K as H w v/\Post K as H Q (ofB (isT t w m) m)
theorem zfw (m:Me)(t:Tg):isT t .non m=some false/\(∀c,isT t (.bl c) m=some (decide (t=.bool\/t=.int)))/\(∀i,isT t (.int i) m=some (decide (t=.int)))/\(∀x,isT t (.str x) m=some (decide (t=.str)))/\(∀ys,isT t (.tup ys) m=some (decide (t=.tuple)))/\(∀ys,isT t (.rol ys) m=some (decide (t=.list)))/\∀l ys,m[l]?=some (.lst ys)->isT t (.ref l) m=some (decide (t=.list)):=by
 refine ⟨?_,fun c=>?_,fun i=>?_,fun x=>?_,fun ys=>?_,fun ys=>?_,fun l ys h=>?_⟩
 rotate_right
 .have e:isT t (.ref l) m=(match m[l]? with | some (.lst _)=>some (decide (t=.list)) | some (.dct _)=>some (decide (t=.dict)) | none=>none):=by cases t <;> rfl
  rw[e,h]
 all_goals cases t <;> rfl
theorem zb5 (t:Tg):CallR X (.builtin "isinstance") (rIsi X.K t):=by
 intro pins s σ H xs us Q I r h
 obtain ⟨as,m,w,v,rfl,S,R,q⟩:=h
 obtain ⟨b,hb,q⟩:=vC S q
 obtain ⟨u,u',rfl,ru,ru'⟩:=zbE r
 obtain rfl:u'=.type (tgT t):=ru'
 obtain ⟨k1,k2,k3,k4,k5,k6⟩:=zdE X.K t
 obtain ⟨z1,z2,z3,z4,z5,z6,z7⟩:=zfw m t
 have fin:∀tk,EP X pins σ Q (.bool b) { s with toks:=tk }:=fun tk=>⟨.bl b,H,I.tok tk,rfl,q⟩
 cases w with
 | non =>
  obtain rfl:=rep_non.mp R
  have e:b=false:=Option.some.inj (hb.symm.trans z1)
  subst e
  exact yZ I ru .non k1 fin
 | bl c =>
  obtain rfl:=rep_bl.mp R
  have e:b=decide (t=.bool\/t=.int):=Option.some.inj (hb.symm.trans (z2 _))
  subst e
  exact yZ I ru (.bl c) k2 fin
 | int i =>
  obtain rfl:=rep_int.mp R
  have e:b=decide (t=.int):=Option.some.inj (hb.symm.trans (z3 _))
  subst e
  exact yZ I ru (.int i) k3 fin
 | str x =>
  obtain rfl:=rep_str.mp R
  have e:b=decide (t=.str):=Option.some.inj (hb.symm.trans (z4 _))
  subst e
  exact yZ I ru (.str _) k4 fin
 | tup ys =>
  obtain ⟨a,vs,rfl,hq,rr⟩:=rep_tup.mp R
  have e:b=decide (t=.tuple):=Option.some.inj (hb.symm.trans (z5 _))
  subst e
  obtain rfl:u=.ref a:=ru
  obtain ⟨its,_,⟨o,h1,h2,_⟩,_⟩:=I.tuple hq
  exact PySem.W.kia_one PySem.W.kitx_tuple I.kIn ⟨o,h1,h2⟩ k6 (fun z=>nomatch z) fin
 | rol ys =>
  obtain ⟨a,vs,rfl,hq,rr⟩:=rep_rol.mp R
  have e:b=decide (t=.list):=Option.some.inj (hb.symm.trans (z6 _))
  subst e
  obtain rfl:u=.ref a:=ru
  obtain ⟨its,_,p,_⟩:=I.list hq.sq
  obtain ⟨o,n,h1,h2,_⟩:=p
  exact PySem.W.kia_one PySem.W.kitx_list I.kIn ⟨o,h1,h2⟩ k5 (fun z=>nomatch z) fin
 | ref l =>
  obtain ⟨a,ha,rfl⟩:=rep_ref.mp R
  obtain ⟨us,e2⟩:=S.isLst (List.mem_of_getElem? ha)
  have hl:∃ys,m[l]?=some (.lst ys):=by
   have hl:l < m.length:=by rw[<- S.len];exact (List.getElem?_eq_some_iff.mp ha).1
   have z:=S.obj l a m[l] ha (by simp[hl])
   cases e:m[l] with
   | lst ys=>exact ⟨ys,by rw[<- e];simp[hl]⟩
   | dct kvs=>rw[e] at z;exact z.elim
  obtain ⟨ys,hl⟩:=hl
  have e:b=decide (t=.list):=Option.some.inj (hb.symm.trans (z7 _ _ hl))
  subst e
  exact yZ I ru (.lst e2) k5 fin
end
structure SeqIt (J:It)(vs:List V)(ok:Hp->Prop):Prop where
 go:∀i H,ok H->i < vs.length->J.go i H
 yld:∀i H x H',ok H->i < vs.length->J.yld i H x H'->H'=H/\vs[i]?=some x
 stop:∀i H,ok H->vs.length<=i->J.stop i H
def zam (K:PySem.W.Frag)(as:List Addr)(H:Hp)(J:It)(xs:List Wd):Prop :=
 ∃vs ok,SeqIt J vs ok/\ok H/\RepL K as H xs vs/\∀H1 H2,Kp K H1 H2->ok H1->ok H2
def zgW (K:PySem.W.Frag)(as:List Addr)(H:Hp)(w:Wd)(J:It):Prop:=match w with
 | .tup xs=>zam K as H J xs
 | .rol xs=>zam K as H J xs
 | .ref l=>∃a,as[l]?=some a/\J=Itl K a
 | _=>True
def PostI (K:PySem.W.Frag)(as:List Addr)(H:Hp)(R:It->Hp->Prop)(r:Rz):Prop:=match r with
 | .ok w m'=>(yx m' w).isSome=true/\∀as' H' J,Step as H as' H'->Sim K as' m' H'->zgW K as' H' w J->R J H'
 | _=>False
def iOf (K:PySem.W.Frag)(g:En->Me->Rz):TI:=fun σ H R=>∃as env m,Sim K as m H/\EnvRep K as H env σ/\PostI K as H R (g env m)
theorem PI.or {X:Cx}{tg e:Expr}{a b:TI}(h1:PI X tg e a)(h2:PI X tg e b):PI X tg e (fun σ H R=>a σ H R\/b σ H R):=fun pins s σ H R I h=>by
 rcases h with h | h
 .exact h1 pins s σ H R I h
 .exact h2 pins s σ H R I h
theorem PI.imp {X:Cx}{tg e:Expr}{a b:TI}(h:PI X tg e a)(k:∀σ H R,b σ H R->a σ H R):PI X tg e b:=fun pins s σ H R I q=>h pins s σ H R I (k σ H R q)
theorem kJ {X:Cx}{tg x:Expr}{g:En->Me->Rz}(h:PE X x (tOf X.K g)):PI X tg x (iOf X.K g):=by
 refine PI.imp (PI.or (zda h) (ze1 h)) fun σ H R q=>?_
 obtain ⟨as,env,m,S,G,P⟩:=q
 cases hr:g env m with
 | no=>rw[hr] at P;exact P.elim
 | exc c w m'=>rw[hr] at P;exact P.elim
 | ok w m' =>
  rw[hr] at P
  obtain ⟨hs,P⟩:=P
  obtain ⟨xs,hs⟩:=Option.isSome_iff_exists.mp hs
  cases w with
  | tup ys =>
   refine .inr ⟨as,env,m,S,G,?_⟩
   rw[hr]
   intro as' H' v T S' R'
   obtain ⟨a,vs,rfl,hq,rr⟩:=rep_tup.mp R'
   refine ⟨a,rfl,⟨vs,hq⟩,P as' H' _ T S' ⟨vs,fun H=>SqT X.K H a vs,⟨fun i H h hi=>⟨vs,vs[i],h,by simp[hi]⟩,fun i H x H' h hi q=>⟨q.1,q.2 vs h⟩,fun i H h hi=>⟨vs,h,hi⟩⟩,hq,rr,fun H1 H2 k h=>k.t _ _ h⟩⟩
  | rol ys =>
   refine .inl ⟨as,env,m,S,G,?_⟩
   rw[hr]
   intro as' H' v T S' R'
   obtain ⟨a,vs,rfl,hq,rr⟩:=rep_rol.mp R'
   refine ⟨a,rfl,⟨vs,hq.sq⟩,P as' H' _ T S' ⟨vs,fun H=>SqF X.K H a vs,⟨fun i H h hi=>⟨vs,vs[i],h.sq,by simp[hi]⟩,fun i H x H' h hi q=>⟨q.1,q.2 vs h.sq⟩,fun i H h hi=>⟨vs,h.sq,hi⟩⟩,hq,rr,fun H1 H2 k h=>k.f _ _ h⟩⟩
  | ref l =>
   refine .inl ⟨as,env,m,S,G,?_⟩
   rw[hr]
   intro as' H' v T S' R'
   obtain ⟨a,ha,rfl⟩:=rep_ref.mp R'
   obtain ⟨us,e⟩:=S'.isLst (List.mem_of_getElem? ha)
   exact ⟨a,rfl,⟨us,SqL.of e⟩,P as' H' _ T S' ⟨a,ha,rfl⟩⟩
  | non=>cases hs
  | bl b=>cases hs
  | int i=>cases hs
  | str x=>cases hs
theorem gh {K:PySem.W.Frag}{as:List Addr}{H:Hp}(st:Int):∀ (n:Nat) (lo:Int),RepL K as H (za3 lo st n) ((List.range n).map fun (i:Nat)=>V.int (lo+st * (i:Int)))
 | 0,lo=>repL_nil.mpr rfl
 | n+1,lo=>by
  rw[List.range_succ_eq_map,List.map_cons,List.map_map]
  refine repL_cons.mpr ⟨_,_,rfl,rep_int.mpr (by simp),?_⟩
  have e:((fun (i:Nat)=>V.int (lo+st * (i:Int))) ∘ Nat.succ)=fun (i:Nat)=>V.int (lo+st+st * (i:Int)):=by
   funext i
   show V.int (lo+st * ((i.succ:Nat):Int))=_
   congr 1
   rw[Nat.succ_eq_add_one,Int.natCast_add,Int.mul_add]
   lia
  rw[e]
  exact gh st n (lo+st)
theorem za6 {K:PySem.W.Frag}(lo:Int)(n:Nat):SeqIt (Itr lo n) ((List.range n).map fun (i:Nat)=>V.int (lo+1 * (i:Int))) (fun _=>True):=by
 refine ⟨fun i H _ hi=>?_,fun i H x H' _ hi q=>?_,fun i H _ hi=>?_⟩
 .show i < n
  simpa using hi
 .obtain ⟨e,rfl⟩:=q
  refine ⟨e,?_⟩
  have hi':i < n:=by simpa using hi
  rw[List.getElem?_map,List.getElem?_range hi']
  simp
 .show n<=i
  simpa using hi
set_option genInjectivity false in
structure Ctx where
 fns:List Str
 cons:List (Str×Int)
set_option genInjectivity false in
inductive Nd where
 | e (x:Expr) | a (xs:List Expr)
noncomputable def glB (sc:Scope)(x:Str):Bool:=decide (sc.names.lookup x=some .globalImplicit)
noncomputable def zdF (sc:Scope)(x:Str):Bool:=decide (sc.names.lookup x=some .local) || (decide (sc.names.lookup x=some .cell) || decide (sc.names.lookup x=some .free))
noncomputable def yU (x:Str):Bool:=!(x == ("__debug__" : Str)) && !(x == ("__classdict__" : Str)) && !(x == ("__name__" : Str))
noncomputable def zA:Expr->Bool
 | .Starred _ _=>false
 | _=>true
noncomputable def yb:Expr->Bool
 | .Set _ _ _=>false
 | _=>true
noncomputable def gk:Expr->Bool
 | .Slice _ _ _ _=>false
 | _=>true
noncomputable def jm:Expr->Bool
 | .Call _ _ _ _=>false
 | _=>true
noncomputable def zw:Ex->Bool
 | .rng _ _ _=>true
 | _=>false
noncomputable def jn:Ex->Bool
 | .ife _ _ _=>true
 | _=>false
noncomputable def y6 (scope sc:Scope):Scope :=
 { scope with names:=scope.names.map fun (n,k)=>if (k == .free && sc.kind == .function && sc.names.lookup n == some .cell) then (n,.cell) else (n,k) }
noncomputable def blockB (sc:Scope)(N:List Str)(scope:Scope)(xs:List Str):Bool :=
 decide (scope.kind=.function) && (xs.all (fun x=>decide (scope.names.lookup x=some .local) || decide (scope.names.lookup x=some .cell)) &&
 (scope.names.all (fun y=>!(decide (y.2=.local)) || decide (scope.names.lookup y.1=some .local)) &&
 (scope.names.all (fun y=>!(decide (y.2=.free)) || (decide (sc.names.lookup y.1=some .cell) || decide (sc.names.lookup y.1=some .free))) &&
 (scope.names.all (fun y=>!(decide (y.2=.cell)) || !(decide (scope.names.lookup y.1=some .free))) &&
 (N.all (fun y=>decide (y∈xs) || (!(decide (scope.names.lookup y=some .local)) && !(decide (scope.names.lookup y=some .cell)))) &&
 (decide (yn N xs).Nodup && xs.all (fun x=>decide (scope.names.lookup (dum x)=none))))))))
theorem yF {X:Cx}{scope:Scope}{xs:List Str}(h:blockB X.env.scope X.N scope xs=true):BlockOk X scope xs:=by
 unfold blockB at h
 simp only[Bool.and_eq_true,Bool.or_eq_true,decide_eq_true_eq,List.all_eq_true,Bool.not_eq_true',decide_eq_false_iff_not] at h
 obtain ⟨h1,h2,h3,h4,h5,h6,h7,h8⟩:=h
 refine ⟨h1,h2,fun y hy e=>?_,fun y hy e=>?_,fun y hy e=>?_,fun y hy e=>?_,h7,h8⟩
 .rcases h3 y hy with z | z
  .exact absurd e z
  .exact z
 .rcases h4 y hy with z | z
  .exact absurd e z
  .exact z
 .rcases h6 y hy with z | z
  .exact absurd z e
  .exact z
 .rcases h5 y hy with z | z
  .exact absurd e z
  .exact z
def jo (K:PySem.W.Frag)(g:List Wd->Me->Rz):Sp:=fun vs H Q _=>∃as m ws,Sim K as m H/\RepL K as H ws vs/\Post K as H Q (g ws m)
noncomputable def zm:List Str:=["len", "int", "bool", "list", "tuple", "abs", "max", "min", "isinstance", "range", "str", "dict", "sum", "all", "zip", "enumerate", "sorted"]
structure CtxOk (C:Ctx)(X:Cx)(cl:Nat->List Wd->Me->Rz)(d:Nat):Prop where
 room:Room d X.A
 calm:X.calm=true
 fn:∀ (k:Nat) (nm:Str),C.fns[k]?=some nm->∃f fd ps,X.mg nm=some (.ref f)/\PySem.W.keepIn X.K (.ref f)=true/\Binds X.K fd ps []/\FnOk X.prog X.w X.K X.mg X.base CX0 d f fd ps (jo X.K (cl k))
 con:∀ (nm:Str) (i:Int),C.cons.lookup nm=some i->∃t,X.mg nm=some (.int i t)
 blt:∀nm∈zm,X.mg nm=none
theorem CtxOk.comp {C:Ctx}{X Xc:Cx}{cl:Nat->List Wd->Me->Rz}{d:Nat}{scope:Scope}{x:List Str}(h:CtxOk C X cl d)(c:CompOf X scope x Xc):CtxOk C Xc cl d:=by
 refine ⟨by rw[c.A];exact h.room,c.calm,fun k nm e=>?_,fun nm i e=>?_,fun nm e=>?_⟩
 .obtain ⟨f,fd,ps,h1,h2,h3,h4⟩:=h.fn k nm e
  exact ⟨f,fd,ps,by rw[c.mg];exact h1,by rw[c.K];exact h2,by rw[c.K];exact h3,by rw[c.prog,c.w,c.K,c.mg,c.base];exact h4⟩
 .rw[c.mg];exact h.con nm i e
 .rw[c.mg];exact h.blt nm e
def PostA (K:PySem.W.Frag)(as:List Addr)(H:Hp)(Q:List V->Hp->Prop)(r:Rz):Prop:=match r with
 | .ok w m'=>∀as' H' vs,Step as H as' H'->Sim K as' m' H'->RepL K as' H' (zn w) vs->Q vs H'
 | _=>False
def vP (K:PySem.W.Frag)(g:En->Me->Rz):TA:=fun σ H Q=>∃as env m,Sim K as m H/\EnvRep K as H env σ/\PostA K as H Q (g env m)
theorem PostA.bind {K:PySem.W.Frag}{as:List Addr}{H:Hp}{Q:VK}{Q1:List V->Hp->Prop}{r:Rz}{f:Wd->Me->Rz}(h:Post K as H Q (r.bind f))
  (k:∀w m' as' H' vs,Step as H as' H'->Sim K as' m' H'->RepL K as' H' (zn w) vs->Post K as' H' Q (f w m')->Q1 vs H'):PostA K as H Q1 r:=by
 cases r with
 | ok w m'=>exact fun as2 H2 v U S R=>k w m' as2 H2 v U S R (Post.step (r:=f w m') h U)
 | exc c w m'=>exact h
 | no=>exact h
def Snd (cl:Nat->List Wd->Me->Rz)(X:Cx)(e:Ex):Nd->Prop
 | .e x=>(zw e=false->PE X x (tOf X.K (evE cl e))/\(jn e=false->PT X x (xc X.K (evE cl e)))/\(∀op vs pos,x=.BoolOp op vs pos->PW X x (xc X.K (evE cl e))))/\∀tg,PI X tg x (iOf X.K (evE cl e))
 | .a xs=>PA X xs (vP X.K (evE cl e))
theorem Snd.of {cl:Nat->List Wd->Me->Rz}{X:Cx}{e:Ex}{x:Expr}(h:PE X x (tOf X.K (evE cl e)))(ht:∀whole,isTrue x X.env whole=(do let v <- whole;standAt x.pos;holding [v] (truthy v)):=by intro _;rfl)
  (hb:∀op vs pos,x≠.BoolOp op vs pos:=by intros;intro z;cases z):Snd cl X e (.e x) :=
 ⟨fun _=>⟨h,fun _=>zeQ h ht,fun op vs pos z=>absurd z (hb op vs pos)⟩,fun tg=>kJ h⟩
theorem ze {e:Expr}{es:List Expr}{env:Env}(h:zA e=true):starEach (e::es) env=(false,eval e env)::starEach es env:=by
 cases e <;> first | rfl | cases h
theorem zF {pos:Pos}{env:Env}:∀ {es:List Expr},es.all zA=true->(backTo pos (starEach es env)).any (·.1)=false
 | [],_=>rfl
 | e::es,h=>by
  rw[List.all_cons,Bool.and_eq_true] at h
  rw[ze h.1]
  show (false || (backTo pos (starEach es env)).any (·.1))=false
  rw[zF h.2];rfl
section
variable {cl:Nat->List Wd->Me->Rz}{X:Cx}{a b c:Ex}{x y:Expr}{pos:Pos}
theorem zfx {op:Bo}(ha:PE X x (tOf X.K (evE cl a)))(hb:PE X y (tOf X.K (evE cl b))):PE X (.BinOp x (opK op) y pos) (tOf X.K (evE cl (.bin op a b))):=by
 refine PE.imp (zgw (zgQ op) ha hb) fun σ H Q h=>?_
 obtain ⟨as,env,m,S,G,P⟩:=h
 refine ⟨as,env,m,S,G,Post.bind P fun x m1 as1 H1 v T1 S1 R1 P1=>?_⟩
 refine ⟨as1,env,m1,S1,G.mono S T1,Post.bind P1 fun y m2 as2 H2 u T2 S2 R2 P2=>?_⟩
 exact zfn S2 (R1.mono S1 T2) R2 P2
theorem zfy (ha:PE X x (tOf X.K (evE cl a))):PE X (.UnaryOp .USub x pos) (tOf X.K (evE cl (.neg a))):=by
 refine PE.imp (zgx ze9 ha) fun σ H Q h=>?_
 obtain ⟨as,env,m,S,G,P⟩:=h
 refine ⟨as,env,m,S,G,Post.bind P fun x m1 as1 H1 v T1 S1 R1 P1=>?_⟩
 cases x with
 | int i =>
  obtain rfl:=rep_int.mp R1
  exact ⟨i,rfl,P1.ok S1 (rep_int.mpr rfl)⟩
 | _=>exact P1.elim
theorem zb6 (ha:PE X x (tOf X.K (evE cl a))):PE X (.UnaryOp .Not x pos) (tOf X.K (evE cl (.not a))):=by
 refine PE.imp (zeV ha) fun σ H Q h=>?_
 obtain ⟨as,env,m,S,G,P⟩:=h
 refine ⟨as,env,m,S,G,Post.bind P fun x m1 as1 H1 v T1 S1 R1 P1=>?_⟩
 cases x with
 | bl k =>
  obtain rfl:=rep_bl.mp R1
  exact ⟨k,rfl,P1.ok S1 (rep_bl.mpr rfl)⟩
 | _=>exact P1.elim
theorem zfz (ha:PT X x (xc X.K (evE cl a))):PT X (.UnaryOp .Not x pos) (xc X.K (evE cl (.not a))):=by
 refine PT.imp (zeT ha) fun σ H Q h=>?_
 obtain ⟨as,env,m,S,G,P⟩:=h
 refine ⟨as,env,m,S,G,Post.bind P fun x m1 as1 H1 v T1 S1 R1 P1=>?_⟩
 cases x with
 | bl k =>
  obtain rfl:=rep_bl.mp R1
  obtain ⟨b,e,q⟩:=P1.ok S1 (rep_bl.mpr rfl)
  cases e
  exact ⟨k,rfl,q⟩
 | _=>exact P1.elim
theorem gl {K:PySem.W.Frag}{σ:St}{H:Hp}{Q:VK}(h:tOf K (evE cl (.and a b)) σ H Q):tOf K (evE cl a) σ H fun x H1=>∃k,x=.bl k/\if k=true then tOf K (evE cl b) σ H1 Q else Q (.bl false) H1:=by
 obtain ⟨as,env,m,S,G,P⟩:=h
 refine ⟨as,env,m,S,G,Post.bind P fun x m1 as1 H1 v T1 S1 R1 P1=>?_⟩
 cases x with
 | bl k =>
  obtain rfl:=rep_bl.mp R1
  refine ⟨k,rfl,?_⟩
  cases k with
  | true=>exact zbK ⟨as1,env,m1,S1,G.mono S T1,P1⟩
  | false=>exact zbJ (P1.ok S1 (rep_bl.mpr rfl))
 | _=>exact P1.elim
theorem zan {K:PySem.W.Frag}{σ:St}{H:Hp}{Q:VK}(h:tOf K (evE cl (.or a b)) σ H Q):tOf K (evE cl a) σ H fun x H1=>∃k,x=.bl k/\if k=true then Q (.bl true) H1 else tOf K (evE cl b) σ H1 Q:=by
 obtain ⟨as,env,m,S,G,P⟩:=h
 refine ⟨as,env,m,S,G,Post.bind P fun x m1 as1 H1 v T1 S1 R1 P1=>?_⟩
 cases x with
 | bl k =>
  obtain rfl:=rep_bl.mp R1
  refine ⟨k,rfl,?_⟩
  cases k with
  | false=>exact zbJ ⟨as1,env,m1,S1,G.mono S T1,P1⟩
  | true=>exact zbK (P1.ok S1 (rep_bl.mpr rfl))
 | _=>exact P1.elim
theorem gm {K:PySem.W.Frag}{g:En->Me->Rz}{σ:St}{H:Hp}{Q Q':VK}(h:tOf K g σ H Q)(k:∀v H,Q v H->Q' v H):tOf K g σ H Q':=by
 obtain ⟨as,env,m,S,G,P⟩:=h
 refine ⟨as,env,m,S,G,?_⟩
 cases hr:g env m with
 | ok w m'=>rw[hr] at P;exact fun as' H' v T S' R=>k _ _ (P as' H' v T S' R)
 | exc c w m'=>rw[hr] at P;exact P
 | no=>rw[hr] at P;exact P
theorem zfA {r:List Expr}(ha:PE X x (tOf X.K (evE cl a)))(hb:PE X (.BoolOp .And (y::r) pos) (tOf X.K (evE cl b))):PE X (.BoolOp .And (x::y::r) pos) (tOf X.K (evE cl (.and a b))) :=
 PE.imp (zeU ha hb) fun σ H Q h=>gl h
theorem zgX {r:List Expr}(ha:PE X x (tOf X.K (evE cl a)))(hb:PE X (.BoolOp .Or (y::r) pos) (tOf X.K (evE cl b))):PE X (.BoolOp .Or (x::y::r) pos) (tOf X.K (evE cl (.or a b))) :=
 PE.imp (zgp ha hb) fun σ H Q h=>zan h
theorem PW.imp {e:Expr}{t t':TT}(h:PW X e t)(k:∀σ H Q,t' σ H Q->t σ H Q):PW X e t':=fun whole pins s σ H Q I q=>h whole pins s σ H Q I (k σ H Q q)
theorem zfB {r:List Expr}(ha:PT X x (xc X.K (evE cl a)))(hb:PW X (.BoolOp .And (y::r) pos) (xc X.K (evE cl b))):PW X (.BoolOp .And (x::y::r) pos) (xc X.K (evE cl (.and a b))) :=
 PW.imp (zeS ha hb) fun σ H Q h=>by
  refine gm (gl h) fun v H1 q=>?_
  obtain ⟨k,e,q⟩:=q
  refine ⟨k,e,?_⟩
  cases k with
  | true=>rw[if_pos rfl] at q ⊢;exact q
  | false =>
   rw[if_neg Bool.false_ne_true] at q ⊢
   obtain ⟨b',e',q⟩:=q
   cases e'
   exact q
theorem zgY {r:List Expr}(ha:PT X x (xc X.K (evE cl a)))(hb:PW X (.BoolOp .Or (y::r) pos) (xc X.K (evE cl b))):PW X (.BoolOp .Or (x::y::r) pos) (xc X.K (evE cl (.or a b))) :=
 PW.imp (zgm ha hb) fun σ H Q h=>by
  refine gm (zan h) fun v H1 q=>?_
  obtain ⟨k,e,q⟩:=q
  refine ⟨k,e,?_⟩
  cases k with
  | false=>rw[if_neg Bool.false_ne_true] at q ⊢;exact q
  | true =>
   rw[if_pos rfl] at q ⊢
   obtain ⟨b',e',q⟩:=q
   cases e'
   exact q
theorem zb7 {op:CmpOp}{e:Expr}(h:yb e=true):behindInMarks op e=false:=by
 cases e <;> first | rfl | cases h
theorem gn {K:PySem.W.Frag}{op:Co}{σ:St}{H:Hp}{Q:VK}(h:tOf K (evE cl (.cmp op a b)) σ H Q):tOp (rC K op) (tOf K (evE cl a)) (tOf K (evE cl b)) σ H Q:=by
 obtain ⟨as,env,m,S,G,P⟩:=h
 refine ⟨as,env,m,S,G,Post.bind P fun x m1 as1 H1 v T1 S1 R1 P1=>?_⟩
 refine ⟨as1,env,m1,S1,G.mono S T1,Post.bind P1 fun y m2 as2 H2 u T2 S2 R2 P2=>?_⟩
 exact ⟨as2,m2,x,y,S2,R1.mono S1 T2,R2,P2⟩
theorem zb8 {op:Co}(hu:X.A.units+64 < cLine)(ha:PE X x (tOf X.K (evE cl a)))(hb:PE X y (tOf X.K (evE cl b)))(hs:yb y=true):PE X (.Compare x [cK op] [y] pos) (tOf X.K (evE cl (.cmp op a b))) :=
 PE.imp (zde (kC hu op) ha hb (zb7 hs)) fun σ H Q h=>gn h
theorem zfC {op:Co}(hu:X.A.units+64 < cLine)(ha:PE X x (tOf X.K (evE cl a)))(hb:PE X y (tOf X.K (evE cl b)))(hs:yb y=true):PT X (.Compare x [cK op] [y] pos) (xc X.K (evE cl (.cmp op a b))) :=
 PT.imp (zdf (kC hu op) ha hb (zb7 hs)) fun σ H Q h=>gn h
end
section
variable {cl:Nat->List Wd->Me->Rz}{X:Cx}{a b c:Ex}{x y z:Expr}{pos:Pos}
theorem vQ {K:PySem.W.Frag}{p q:Co}{σ:St}{H:Hp}{Q:VK}(h:tOf K (evE cl (.chain p q a b c)) σ H Q):g0 (rC K p) (rC K q) (tOf K (evE cl a)) (tOf K (evE cl b)) (tOf K (evE cl c)) σ H Q:=by
 obtain ⟨as,env,m,S,G,P⟩:=h
 refine ⟨as,env,m,S,G,Post.bind P fun x m1 as1 H1 v T1 S1 R1 P1=>?_⟩
 refine ⟨as1,env,m1,S1,G.mono S T1,Post.bind P1 fun y m2 as2 H2 u T2 S2 R2 P2=>?_⟩
 refine ⟨as2,m2,x,y,S2,R1.mono S1 T2,R2,Post.bind P2 fun z m3 as3 H3 w T3 S3 R3 P3=>?_⟩
 cases z with
 | bl k =>
  obtain rfl:=rep_bl.mp R3
  refine ⟨k,rfl,?_⟩
  cases k with
  | false=>exact zbJ (P3.ok S3 (rep_bl.mpr rfl))
  | true =>
   refine zbK ⟨as3,env,m3,S3,((G.mono S T1).mono S1 T2).mono S2 T3,Post.bind P3 fun t m4 as4 H4 r T4 S4 R4 P4=>?_⟩
   exact ⟨as4,m4,y,t,S4,(R2.mono S2 T3).mono S3 T4,R4,P4⟩
 | _=>exact P3.elim
theorem zb9 {o o':CmpOp}(h:yb z=true):lastMarks [o,o'] [y,z]=false:=by
 show behindInMarks o' z=false
 exact zb7 h
theorem gp {p q:Co}(hu:X.A.units+64 < cLine)(ha:PE X x (tOf X.K (evE cl a)))(hb:PE X y (tOf X.K (evE cl b)))(hc:PE X z (tOf X.K (evE cl c)))(hs:yb z=true):
  PE X (.Compare x [cK p,cK q] [y,z] pos) (tOf X.K (evE cl (.chain p q a b c))) :=
 PE.imp (zbC (kC hu p) (kC hu q) ha hb hc (zb9 hs)) fun σ H Q h=>vQ h
theorem zca {p q:Co}(hu:X.A.units+64 < cLine)(ha:PE X x (tOf X.K (evE cl a)))(hb:PE X y (tOf X.K (evE cl b)))(hc:PE X z (tOf X.K (evE cl c)))(hs:yb z=true):
  PT X (.Compare x [cK p,cK q] [y,z] pos) (xc X.K (evE cl (.chain p q a b c))) :=
 PT.imp (zbD (kC hu p) (kC hu q) ha hb hc (zb9 hs)) fun σ H Q h=>vQ h
theorem zdG:PA X [] (vP X.K (evE cl .unit)):=PA.imp vp fun σ H Q h=>by
 obtain ⟨as,env,m,S,G,P⟩:=h
 exact P as H [] .refl S (repL_nil.mpr rfl)
theorem zdH {xs:List Expr}(ha:PE X x (tOf X.K (evE cl a)))(hb:PA X xs (vP X.K (evE cl b)))(hs:zA x=true):PA X (x::xs) (vP X.K (evE cl (.pair a b))):=by
 refine PA.imp (yP ha hb (ze hs)) fun σ H Q h=>?_
 obtain ⟨as,env,m,S,G,P⟩:=h
 refine ⟨as,env,m,S,G,?_⟩
 have P':PostA X.K as H Q ((evE cl a env m).bind fun x m1=>(evE cl b env m1).bind fun y m2=>.ok (.tup (x::zn y)) m2):=P
 cases hr:evE cl a env m with
 | no=>rw[hr] at P';exact P'
 | exc c w m'=>rw[hr] at P';exact P'
 | ok w m1 =>
  rw[hr] at P'
  intro as1 H1 v T1 S1 R1
  refine ⟨as1,env,m1,S1,G.mono S T1,?_⟩
  simp only[Rz.bind] at P'
  cases hr2:evE cl b env m1 with
  | no=>rw[hr2] at P';exact P'
  | exc c w' m'=>rw[hr2] at P';exact P'
  | ok w' m2 =>
   rw[hr2] at P'
   intro as2 H2 vs T2 S2 R2
   exact P' as2 H2 (v::vs) (T1.trans T2) S2 (repL_cons.mpr ⟨v,vs,rfl,R1.mono S1 T2,R2⟩)
theorem zdI {C:Ctx}{d k:Nat}{nm:Str}{p:Pos}{xs:List Expr}(hC:CtxOk C X cl d)(hk:C.fns[k]?=some nm)(hg:X.env.scope.names.lookup nm=some .globalImplicit)(hn:yU nm=true)
  (hs:(x::xs).all zA=true) (ha:PA X (x::xs) (vP X.K (evE cl a))):PE X (.Call (.Name nm p) (x::xs) [] pos) (tOf X.K (evE cl (.call k a))):=by
 obtain ⟨f,fd,ps,h1,h2,h3,h4⟩:=hC.fn k nm hk
 have hs':=hs
 rw[List.all_cons,Bool.and_eq_true] at hs'
 have hdb:(nm == ("__debug__" : Str))=false:=by
  unfold yU at hn
  simp only[Bool.and_eq_true,Bool.not_eq_true'] at hn
  exact hn.1.1
 refine PE.imp (zdh h4 hC.room hg h1 h2 h3 .nil (zgO (X:=X)) ha hdb (ze hs'.1) (zF hs'.2)) fun σ H Q h=>?_
 obtain ⟨as,env,m,S,G,P⟩:=h
 refine ⟨as,env,m,S,G,PostA.bind P fun w m1 as1 H1 vs T1 S1 R1 P1=>?_⟩
 refine ⟨as1,m1,zn w,S1,?_,P1⟩
 rw[List.append_nil]
 exact R1
theorem wK {nm:Str}(hn:yU nm=true):(nm == ("__debug__" : Str))=false/\(nm == ("__classdict__" : Str))=false/\nm ≠ "__name__" := by
 unfold yU at hn
 simp only[Bool.and_eq_true,Bool.not_eq_true'] at hn
 exact ⟨hn.1.1,hn.1.2,by simpa using hn.2⟩
theorem zfD {C:Ctx}{d:Nat}{bf:Blf}{nm:Str}{f:Value}{p:Pos}{xs:List Expr}(hC:CtxOk C X cl d)(hb:zfs bf=some (nm,f))(hg:X.env.scope.names.lookup nm=some .globalImplicit)(hn:yU nm=true)
  (hs:(x::xs).all zA=true) (ha:PA X (x::xs) (vP X.K (evE cl a))):PE X (.Call (.Name nm p) (x::xs) [] pos) (tOf X.K (evE cl (.blt bf a))):=by
 obtain ⟨n1,n2,n3⟩:=wK hn
 have hs':=hs
 rw[List.all_cons,Bool.and_eq_true] at hs'
 have hc:=zb4 hC.room.units hC.calm hb
 have go:PE X (.Call (.Name nm p) (x::xs) [] pos) (tCB (rBl X.K bf) (vP X.K (evE cl a))):=by
  cases bf with
  | len=>cases hb;exact zT hc hg (hC.blt _ (by simp[zm])) PySem.boot_len ha n3 n1 (ze hs'.1) (zF hs'.2)
  | int=>cases hb;exact wz hc hg (hC.blt _ (by simp[zm])) PyProof.Rows.boot_int ha n3 n1 (ze hs'.1) (zF hs'.2)
  | list=>cases hb;exact wz hc hg (hC.blt _ (by simp[zm])) PyProof.Rows.boot_list ha n3 n1 (ze hs'.1) (zF hs'.2)
  | tuple=>cases hb;exact wz hc hg (hC.blt _ (by simp[zm])) PyProof.Rows.boot_tuple ha n3 n1 (ze hs'.1) (zF hs'.2)
  | abs=>cases hb;exact zT hc hg (hC.blt _ (by simp[zm])) PyProof.Rows.boot_abs ha n3 n1 (ze hs'.1) (zF hs'.2)
  | max2=>cases hb;exact zT hc hg (hC.blt _ (by simp[zm])) PyProof.Rows.boot_max ha n3 n1 (ze hs'.1) (zF hs'.2)
  | sum=>cases hb;exact zT hc hg (hC.blt _ (by simp[zm])) PyProof.Rows.boot_sum ha n3 n1 (ze hs'.1) (zF hs'.2)
  | all=>cases hb;exact zT hc hg (hC.blt _ (by simp[zm])) PyProof.Rows.boot_all ha n3 n1 (ze hs'.1) (zF hs'.2)
  | min2=>cases hb;exact zT hc hg (hC.blt _ (by simp[zm])) PyProof.Rows.boot_min ha n3 n1 (ze hs'.1) (zF hs'.2)
  | sorted=>cases hb;exact zT hc hg (hC.blt _ (by simp[zm])) PyProof.Rows.boot_sorted ha n3 n1 (ze hs'.1) (zF hs'.2)
  | minS=>cases hb;exact zT hc hg (hC.blt _ (by simp[zm])) PyProof.Rows.boot_min ha n3 n1 (ze hs'.1) (zF hs'.2)
  | maxS=>cases hb;exact zT hc hg (hC.blt _ (by simp[zm])) PyProof.Rows.boot_max ha n3 n1 (ze hs'.1) (zF hs'.2)
  | _=>cases hb
 refine PE.imp go fun σ H Q h=>?_
 obtain ⟨as,env,m,S,G,P⟩:=h
 refine ⟨as,env,m,S,G,PostA.bind P fun w m1 as1 H1 vs T1 S1 R1 P1=>?_⟩
 exact ⟨as1,m1,zn w,S1,R1,P1⟩
theorem zdJ (t:Tg):bootBuiltins (Str.ofString (tgT t))=some (.type (tgT t)):=by
 cases t <;> decide +kernel
theorem zfE {C:Ctx}{d:Nat}{t:Tg}{p p':Pos}(hC:CtxOk C X cl d)(hg:X.env.scope.names.lookup ("isinstance" : Str)=some .globalImplicit)(hg':X.env.scope.names.lookup (Str.ofString (tgT t))=some .globalImplicit)
  (hs:zA x=true) (ha:PE X x (tOf X.K (evE cl a))):PE X (.Call (.Name "isinstance" p) [x,.Name (Str.ofString (tgT t)) p'] [] pos) (tOf X.K (evE cl (.isi t a))):=by
 have hm:X.mg (Str.ofString (tgT t))=none:=hC.blt _ (by cases t <;> decide +kernel)
 have hty:PE X (.Name (Str.ofString (tgT t)) p') (tC (.ty (tgT t))):=zc5 hg' hm (zdJ t) rfl (by cases t <;> decide +kernel) (by cases t <;> decide +kernel)
 refine PE.imp (zT (zb5 t) hg (hC.blt _ (by simp[zm])) PyProof.Rows.boot_isinstance (yP ha (yP hty vp) (ze hs)) (by decide +kernel) (by decide +kernel) (ze hs) rfl) fun σ H Q h=>?_
 obtain ⟨as,env,m,S,G,P⟩:=h
 refine ⟨as,env,m,S,G,Post.bind P fun w m1 as1 H1 v T1 S1 R1 P1=>?_⟩
 exact ⟨as1,m1,w,v,rfl,S1,R1,P1⟩
theorem zfF {xs:List Expr}(ha:PA X xs (vP X.K (evE cl a))):PE X (.List xs pos) (tOf X.K (evE cl (.lst a))):=by
 refine PE.imp (zfc ha) fun σ H Q h=>?_
 obtain ⟨as,env,m,S,G,P⟩:=h
 refine ⟨as,env,m,S,G,PostA.bind P fun w m1 as1 H1 vs T1 S1 R1 P1=>?_⟩
 obtain ⟨h1,h2⟩:=xq S1 R1 P1
 exact ⟨Nat.le_trans h1 yJ,h2⟩
set_option tactic.hygienic true in
theorem zfG {xs:List Expr}{k:Nat}(ha:PA X xs (vP X.K (evE cl a))):PE X (.Tuple xs k pos) (tOf X.K (evE cl (.tup a))):=by
 refine PE.imp (zfb ha) fun σ H Q h=>?_
 obtain ⟨as,env,m,S,G,P⟩:=h
 refine ⟨as,env,m,S,G,PostA.bind P fun w m1 as1 H1 vs T1 S1 R1 P1=>?_⟩
 split at P1
 .rename_i hl
  refine ⟨by rw[<- R1.length];exact Nat.le_trans hl yJ,fun p hp=>?_⟩
  obtain ⟨T,S',R'⟩:=S1.tup hp R1
  exact P1 _ _ _ T S' R'
 .exact P1.elim
theorem zfH (ha:PE X x (tOf X.K (evE cl a)))(hb:PE X y (tOf X.K (evE cl b)))(hs:gk y=true):PE X (.Subscript x y pos) (tOf X.K (evE cl (.idx a b))):=by
 have hp:qS y:=fun o i=>by cases y <;> first | rfl | cases hs
 refine PE.imp (zgH zff ha hb hp) fun σ H Q h=>?_
 obtain ⟨as,env,m,S,G,P⟩:=h
 refine ⟨as,env,m,S,G,Post.bind P fun x m1 as1 H1 v T1 S1 R1 P1=>?_⟩
 refine ⟨as1,env,m1,S1,G.mono S T1,Post.bind P1 fun y m2 as2 H2 u T2 S2 R2 P2=>?_⟩
 exact zfu S2 (R1.mono S1 T2) R2 P2
end
section
variable {cl:Nat->List Wd->Me->Rz}{X:Cx}{a b c:Ex}{x y z:Expr}{pos:Pos}
theorem base_of {e:Expr}{f:Str}{env:Env}(h:jm e=true):attributeBase e f env (eval e env)=eval e env:=by
 cases e <;> first | rfl | cases h
theorem zfI {cp:Pos}{env:Env}{ys:List Expr}(h:ys.all zA=true)(hl:ys.length < 29):
  ((backTo cp (starEach ys env)).all (fun x=>!x.1) && (backToKw cp (keywordEach [] env)).all (fun x=>x.1.isSome)
   && decide (ys.length+([]:List Keyword).length+(if ([]:List Keyword).isEmpty then 0 else 1) < 30))=true:=by
 have all:∀ {es:List Expr},es.all zA=true->(backTo cp (starEach es env)).all (fun x=>!x.1)=true:=by
  intro es
  induction es with
  | nil=>intro _;rfl
  | cons e es ih =>
   intro h
   rw[List.all_cons,Bool.and_eq_true] at h
   rw[ze h.1]
   show (true && (backTo cp (starEach es env)).all (fun x=>!x.1))=true
   rw[ih h.2];rfl
 rw[all h]
 have e2:(backToKw cp (keywordEach [] env)).all (fun x=>x.1.isSome)=true:=rfl
 rw[e2]
 have e3:decide (ys.length+([]:List Keyword).length+(if ([]:List Keyword).isEmpty then 0 else 1) < 30)=true:=by
  apply decide_eq_true
  show ys.length+0+0 < 30
  lia
 rw[e3];rfl
theorem zcb (k:Mth):Slot "list" (mtV k).1 (mtV k).2/\typeOf (.builtin (mtV k).2)=pure (.type "method_descriptor"):=by
 cases k with
 | append=>exact ⟨PySem.F.slot_list_append,PySem.F.type_list_append⟩
 | extend=>exact ⟨PySem.F.slot_list_extend,PySem.F.type_list_extend⟩
 | pop=>exact ⟨PySem.F.slot_list_pop,PySem.F.type_list_pop⟩
 | reverse=>exact ⟨PySem.F.slot_list_reverse,PySem.F.type_list_reverse⟩
 | clear=>exact ⟨PySem.F.slot_list_clear,PySem.F.type_list_clear⟩
 | insert=>exact ⟨PySem.F.slot_list_insert,PySem.F.type_list_insert⟩
theorem zfJ {k:Mth}{w:Wd}{ws:List Wd}{m:Me}(h:mtR k w ws m≠.no):∃l,w=.ref l:=by
 cases w with
 | ref l=>exact ⟨l,rfl⟩
 | _=>exact absurd rfl h
theorem zfK {K:PySem.W.Frag}{as:List Addr}{H:Hp}{m:Me}{w:Wd}{v:V}(S:Sim K as m H)(R:Rep K as H w v)(hw:∃l,w=.ref l):tyV K "list" v H:=by
 obtain ⟨l,rfl⟩:=hw
 obtain ⟨p,hp,rfl⟩:=rep_ref.mp R
 obtain ⟨us,e⟩:=S.isLst (List.mem_of_getElem? hp)
 exact .inl ⟨rfl,us,SqL.of e⟩
theorem zdK {k:Mth}{ap:Pos}{ys:List Expr}(ho:PE X x (tOf X.K (evE cl a)))(ha:PA X (y::ys) (vP X.K (evE cl b)))(hx:jm x=true)(hl:(ap.endLine == pos.line)=true)(hn:(y::ys).length < 29)(hs:(y::ys).all zA=true):
  PE X (.Call (.Attribute x (mtV k).1 ap) (y::ys) [] pos) (tOf X.K (evE cl (.meth k a b))):=by
 obtain ⟨f1,f2⟩:=zcb k
 have isref:∀ {as:List Addr}{H:Hp}{Q:VK}{w:Wd}{env:En}{m:Me},Post X.K as H Q ((evE cl b env m).bind fun y m2=>mtR k w (zn y) m2)->∃l,w=.ref l:=fun {as H Q w env m} P=>by
  cases hr:evE cl b env m with
  | no=>rw[hr] at P;exact P.elim
  | exc c w' m'=>rw[hr] at P;exact P.elim
  | ok w' m' =>
   rw[hr] at P
   refine zfJ (k:=k) (ws:=zn w') (m:=m') fun z=>?_
   have P':Post X.K as H Q (mtR k w (zn w') m'):=P
   rw[z] at P'
   exact P'
 have hs':=hs
 rw[List.all_cons,Bool.and_eq_true] at hs'
 refine PE.imp (zgL PySem.F.plainAttrs_list f1 f2 (zfv k) ho ha (base_of hx) (zfI hs hn) hl (ze hs'.1) (zF hs'.2)) fun σ H Q h=>?_
 obtain ⟨as,env,m,S,G,P⟩:=h
 refine ⟨as,env,m,S,G,Post.bind P fun w m1 as1 H1 v T1 S1 R1 P1=>⟨zfK S1 R1 (isref P1),?_⟩⟩
 refine ⟨as1,env,m1,S1,G.mono S T1,PostA.bind P1 fun w2 m2 as2 H2 vs T2 S2 R2 P2=>?_⟩
 exact ⟨as2,m2,w,zn w2,S2,R1.mono S1 T2,R2,P2⟩
theorem zcc {K:PySem.W.Frag}{as:List Addr}{H:Hp}{m:Me}{R:It->Hp->Prop}{i j:Int}(S:Sim K as m H)(h:PostI K as H R (zbR (.int i) (.int j) (.int 1) m)):(-(2 ^ 62)<=i/\i < 2 ^ 62/\-(2 ^ 62)<=j/\j < 2 ^ 62)/\R (Itr i (j - i).toNat) H:=by
 have h':PostI K as H R (if -lim<=i/\i<=lim/\-lim<=j/\j<=lim/\((1:Int)=1\/(1:Int)=-1) then .ok (.tup (za3 i 1 (za4 i j 1))) m else .no):=h
 by_cases hc:-(lim:Int)<=i/\i<=lim/\-(lim:Int)<=j/\j<=lim/\((1:Int)=1\/(1:Int)=-1)
 .rw[if_pos hc] at h'
  have hlim:(lim:Int)=100000:=rfl
  refine ⟨by lia,h'.2 as H _ .refl S ?_⟩
  have e:za4 i j 1=(j - i).toNat:=if_pos rfl
  rw[e]
  exact ⟨_,fun _=>True,za6 i (j - i).toNat (K:=K),trivial,gh 1 (j - i).toNat i,fun _ _ _ _=>trivial⟩
 .rw[if_neg hc] at h';exact h'.elim
theorem PostI.bind {K:PySem.W.Frag}{as:List Addr}{H:Hp}{R:It->Hp->Prop}{Q1:VK}{r:Rz}{f:Wd->Me->Rz}(h:PostI K as H R (r.bind f))
  (k:∀w m' as' H' v,Step as H as' H'->Sim K as' m' H'->Rep K as' H' w v->PostI K as' H' R (f w m')->Q1 v H'):Post K as H Q1 r:=by
 cases r with
 | ok w m' =>
  intro as2 H2 v U S Rr
  refine k w m' as2 H2 v U S Rr ?_
  have h':PostI K as H R (f w m'):=h
  cases hr:f w m' with
  | ok w2 m2=>rw[hr] at h';exact ⟨h'.1,fun as3 H3 J U3 S3 q=>h'.2 as3 H3 J (U.trans U3) S3 q⟩
  | exc c w2 m2=>rw[hr] at h';exact h'
  | no=>rw[hr] at h';exact h'
 | exc c w m'=>exact h
 | no=>exact h
theorem zdL {C:Ctx}{d:Nat}{p:Pos}{tg:Expr}(hC:CtxOk C X cl d)(hg:X.env.scope.names.lookup ("range" : Str)=some .globalImplicit)(hs:zA x=true)(hb:PE X x (tOf X.K (evE cl b))):
  PI X tg (.Call (.Name "range" p) [x] [] pos) (iOf X.K (evE cl (.rng (.lit (.int 0)) b (.lit (.int 1))))):=by
 refine PI.imp (zaQ hg (hC.blt _ (by simp[zm])) (yP hb vp (ze hs)) (ze hs)) fun σ H R h=>?_
 obtain ⟨as,env,m,S,G,P⟩:=h
 have P':PostI X.K as H R ((evE cl b env m).bind fun y m2=>zbR (.int 0) y (.int 1) m2):=P
 refine ⟨as,env,m,S,G,PostI.bind P' fun w m1 as1 H1 v T1 S1 R1 P1=>?_⟩
 cases w with
 | int j =>
  obtain rfl:=rep_int.mp R1
  obtain ⟨⟨_,_,h1,h2⟩,q⟩:=zcc S1 P1
  refine ⟨j,rfl,h1,h2,?_⟩
  simpa using q
 | _=>exact P1.elim
end
end Mini
namespace L2
open PySem PySem.Spec PyProof.Rows
section
variable {X:Cx}{pins:List (Addr×Obj)}{σ:St}{H:Hp}{s:Shared}{h':Heap}
theorem Inv.turnedT {t':Nat}{ch:List Addr}{T:Addr}{xs:List V}{its:List Value}(I:Inv X pins σ H s)(hf:∀b∈ch,vf X pins H b)(k:∀b o,b∉ch->s.heap.get? b=some o->h'.get? b=some o)
  (hT:s.heap.objs.size<=T) (hz:xs.length<=sizeLine) (hv:Vals xs its) (ht:IsTup h' T its.toArray):Inv X pins σ (upd H T (.tup xs)) { s with heap:=h',toks:=t' }:=by
 have hn:H T=none:=I.hok.fresh hT
 have nit:∀b u,H b=some u->b∉ch:=fun b u e z=>by rw[(hf b z).1] at e;cases e
 have up:∀b u,H b=some u->upd H T (.tup xs) b=some u:=fun b u e=>by rw[zd (zv e hn)];exact e
 refine I.step (g':=s.gens) (d':=s.drawn) (ch:=ch) (fun b hb=>?_) (fun b o _ _ hc e _=>k b o hc e) (fun b o _ _ hc e _=>⟨o.slots,k b o hc e⟩) (fun b o hc e n=>?_)
  (fun b o hc e=>⟨o,k b o hc e⟩) (fun b _ e=>up b _ e) (fun b _ _ e=>up b _ e) (fun b ps e=>⟨#[],by rw[up b _ e];simp⟩) (fun m hm=>?_) (fun b u e=>?_) I.bare
 .obtain ⟨f0,f1,f2,f3,f4,f5⟩:=hf b hb
  exact ⟨f3,f1,f4,f5⟩
 .rw[zd (Nat.ne_of_lt (Nat.lt_of_lt_of_le (Heap.lt_size e) hT))];exact n
 .obtain ⟨o,es,ep,ho,r⟩:=hm
  exact ⟨o,es,ep,k _ o (fun z=>(hf _ z).2.1 rfl) ho,r⟩
 .by_cases hb:b=T
  .subst hb
   rw[zb] at e;cases e
   exact ⟨hz,its,hv,ht⟩
  .rw[zd hb] at e
   refine (I.hok b u e).stay (fun c v hc q=>k c v ?_ q) (fun c q=>up c _ q) fun c _ q=>up c _ q
   rcases hc with z | z
   .rw[z];exact nit b u e
   .exact nit c _ z
theorem Inv.turnedL {t':Nat}{ch:List Addr}(I:Inv X pins σ H s)(hf:∀b∈ch,vf X pins H b)(k:∀b o,b∉ch->s.heap.get? b=some o->h'.get? b=some o):Inv X pins σ H { s with heap:=h',toks:=t' }:=by
 have nit:∀b u,H b=some u->b∉ch:=fun b u e z=>by rw[(hf b z).1] at e;cases e
 refine I.step (g':=s.gens) (d':=s.drawn) (ch:=ch) (fun b hb=>?_) (fun b o _ _ hc e _=>k b o hc e) (fun b o _ _ hc e _=>⟨o.slots,k b o hc e⟩) (fun b o hc e n=>n)
  (fun b o hc e=>⟨o,k b o hc e⟩) (fun b _ e=>e) (fun b _ _ e=>e) (fun b ps e=>⟨#[],by rw[e];simp⟩) (fun m hm=>?_) (fun b u e=>?_) I.bare
 .obtain ⟨f0,f1,f2,f3,f4,f5⟩:=hf b hb
  exact ⟨f3,f1,f4,f5⟩
 .obtain ⟨o,es,ep,ho,r⟩:=hm
  exact ⟨o,es,ep,k _ o (fun z=>(hf _ z).2.1 rfl) ho,r⟩
 .refine (I.hok b u e).stay (fun c v hc q=>k c v ?_ q) (fun c q=>q) fun c _ q=>q
  rcases hc with z | z
  .rw[z];exact nit b u e
  .exact nit c _ z
end
def Yp (H:Hp)(v:V)(H':Hp)(x y:V):Prop:=∃T,H T=none/\v=.ref T/\H'=upd H T (.tup [x,y])
noncomputable def Itz (K:PySem.W.Frag)(l1 l2:Addr):It :=
 ⟨fun i H=>∃xs ys x y,SqL K H l1 xs/\SqL K H l2 ys/\xs[i]?=some x/\ys[i]?=some y,
  fun i H v H'=>∃x y,Yp H v H' x y/\(∀xs,SqL K H l1 xs->xs[i]?=some x)/\∀ys,SqL K H l2 ys->ys[i]?=some y,
  fun i H=>∃xs ys,SqL K H l1 xs/\SqL K H l2 ys/\(xs.length<=i\/ys.length<=i)⟩
theorem zcd {P:Program}{w:World}{K:PySem.W.Frag}{elts:List Expr}{k:Nat}{pt:Pos}(z TI TO i1 i2 l1 l2:Addr)(D:ZipApart z TI TO i1 i2 l1 l2):
  Turn P w K (.Tuple elts k pt) (Itz K l1 l2) [z,TI,TO,i1,i2] z (fun i h=>IsZip h z TI TO .none/\IsPair h TI (.ref i1) (.ref i2)/\(∃a b,IsPair h TO a b)/\h.IsListIter i1 l1 i/\h.IsListIter i2 l2 i) where
 mem:=by simp
 obj:=fun i h st b hb=>by
  obtain ⟨hz,hTI,⟨a,c,hTO⟩,⟨o1,e1,c1,d1⟩,o2,e2,c2,d2⟩:=st
  simp only[List.mem_cons,List.not_mem_nil,or_false] at hb
  rcases hb with rfl | rfl | rfl | rfl | rfl
  .exact ⟨_,hz,fun v z=>by cases z⟩
  .exact ⟨_,hTI,fun v z=>by cases z⟩
  .exact ⟨_,hTO,fun v z=>by cases z⟩
  .exact ⟨_,e1,fun v z=>by rw[d1] at z;cases z⟩
  .exact ⟨_,e2,fun v z=>by rw[d2] at z;cases z⟩
 keep:=fun i h h' st k=>by
  obtain ⟨hz,hTI,⟨a,c,hTO⟩,h1,h2⟩:=st
  exact ⟨k z (by simp) _ hz,k TI (by simp) _ hTI,⟨a,c,k TO (by simp) _ hTO⟩,h1.at fun o e=>k i1 (by simp) o e,h2.at fun o e=>k i2 (by simp) o e⟩
 item:=by
  intro X hP hw hK hc i pins s σ H E I hf st hg
  subst hP hw hK
  obtain ⟨xs,ys,x,y,hq1,hq2,hx,hy⟩:=hg
  obtain ⟨its1,rv1,p1,_⟩:=I.list hq1
  obtain ⟨its2,rv2,p2,_⟩:=I.list hq2
  obtain ⟨u,hu,ru⟩:=rv1.get hx
  obtain ⟨v,hv,rv⟩:=rv2.get hy
  obtain ⟨hz,hTI,⟨a,b,hTO⟩,h1,h2⟩:=st
  refine wpAny_pyNext_zip_item D hz hTI hTO h1 h2 p1.isList p2.isList (x:=u) (y:=v) (by simpa using hu) (by simpa using hv) fun h' a1 a2 a3 a4 a5 a6 hk=>?_
  refine ⟨_,rfl,wpAny_letOwnedTupleGo_zip (s:={ s with heap:=h' }) a1 fun h'' hz' hs'=>?_⟩
  have sT:z < s.heap.objs.size:=Heap.lt_size hz
  have kk:∀b o,b∉[z,TI,TO,i1,i2]->s.heap.get? b=some o->h''.get? b=some o:=fun b o hb e =>
   (hs'.2 b fun q=>hb (by simp[q])).trans (hk b o (fun q=>hb (by simp[q])) (fun q=>hb (by simp[q])) (fun q=>hb (by simp[q])) (fun q=>hb (by simp[q])) e)
  refine ⟨.ref s.heap.objs.size,upd H s.heap.objs.size (.tup [x,y]),?_,rfl,⟨x,y,⟨_,I.hok.fresh (Nat.le_refl _),rfl,rfl⟩,fun zs hz=>by rw[I.list_inj hz hq1];exact hx,fun zs hz=>by rw[I.list_inj hz hq2];exact hy⟩,?_,?_⟩
  .have I1:Inv X pins σ (upd H s.heap.objs.size (.tup [x,y])) { s with heap:=h'',toks:=s.toks }:=Inv.turnedT (s:=s) (its:=[u,v]) I hf kk (Nat.le_refl _) (show (2:Nat)<=sizeLine by decide) (.cons ru (.cons rv .nil)) ⟨_,(hs'.2 _ (Nat.ne_of_gt sT)).trans a5,rfl,_,rfl⟩
   exact I1
  .refine ⟨hz',?_,⟨u,v,?_⟩,?_,?_⟩
   .exact (hs'.2 TI D.TIz).trans (hk TI _ D.TIz D.TITO D.TIi1 D.TIi2 hTI)
   .exact (hs'.2 TO D.TOz).trans a2
   .exact a3.at fun o e=>(hs'.2 i1 D.i1z).trans e
   .exact a4.at fun o e=>(hs'.2 i2 D.i2z).trans e
  .intro b hb
   have hlt:b < s.heap.objs.size:=by
    simp only[List.mem_cons,List.not_mem_nil,or_false] at hb
    obtain ⟨_,e1,_⟩:=h1
    obtain ⟨_,e2,_⟩:=h2
    rcases hb with rfl | rfl | rfl | rfl | rfl
    .exact sT
    .exact Heap.lt_size hTI
    .exact Heap.lt_size hTO
    .exact Heap.lt_size e1
    .exact Heap.lt_size e2
   rw[zd (Nat.ne_of_lt hlt)]
   exact (hf b hb).1
 done:=by
  intro X hP hw hK hc i pins s σ H E I hf st hg
  subst hP hw hK
  obtain ⟨xs,ys,hq1,hq2,hx⟩:=hg
  obtain ⟨its1,rv1,p1,_⟩:=I.list hq1
  obtain ⟨its2,rv2,p2,_⟩:=I.list hq2
  obtain ⟨hz,hTI,⟨a,b,hTO⟩,h1,h2⟩:=st
  have l1:=rv1.length
  have l2:=rv2.length
  refine wpAny_pyNext_zip_end (I.ok.hd hc) D hz hTI hTO h1 h2 p1.isList p2.isList ?_ fun h' hk=>⟨rfl,?_⟩
  .rcases hx with hx | hx
   .exact .inl (by simp;lia)
   .exact .inr (by simp;lia)
  .exact I.turnedL (t':=s.toks) hf fun b o hb e=>hk b o (fun q=>hb (by simp[q])) (fun q=>hb (by simp[q])) (fun q=>hb (by simp[q])) (fun q=>hb (by simp[q])) e
 self:=fun _ _ _ _ _ st h=>wpAny_pyIter_zip st.1 h
section
variable {X:Cx}{elts:List Expr}{k:Nat}{pt:Pos}
def zgZ (K:PySem.W.Frag)(ta:TA):TI:=fun σ H R=>ta σ H fun vs H1=>∃l1 l2 xs ys,vs=[.ref l1,.ref l2]/\SqL K H1 l1 xs/\SqL K H1 l2 ys/\R (Itz K l1 l2) H1
theorem zce {a b:Expr}{ta:TA}{p pos:Pos}(hg:Gl X "zip")(hm:X.mg "zip" = none)(ha:PA X [a,b] ta)(hs:starEach [a,b] X.env=[(false,eval a X.env),(false,eval b X.env)]:=by rfl)(hs2:starEach [b] X.env=[(false,eval b X.env)]:=by rfl):
  PI X (.Tuple elts k pt) (.Call (.Name "zip" p) [a,b] [] pos) (zgZ X.K ta):=by
 intro pins s σ H R I h
 refine Call_ (vn I hg hm PyProof.Rows.boot_zip (PyProof.Rows.callWith_type1 (thn (ha pos pins s σ H _ I h) fun us s1 ⟨vs,H1,I1,r1,q1⟩=>?_) (by rw[hs,hs2]) (by rw[hs2];rfl)))
 obtain ⟨l1,l2,xs,ys,e,g1,g2,q⟩:=q1
 subst e
 cases r1 with
 | cons r rr =>
  cases rr with
  | cons r' rr =>
   cases rr
   cases r
   cases r'
   obtain ⟨its1,rv1,p1,_⟩:=I1.list g1
   obtain ⟨its2,rv2,p2,_⟩:=I1.list g2
   have t1:l1 < s1.heap.objs.size:=by obtain ⟨o,e,_⟩:=p1.isList;exact Heap.lt_size e
   have t2:l2 < s1.heap.objs.size:=by obtain ⟨o,e,_⟩:=p2.isList;exact Heap.lt_size e
   refine call_zip_2 p1.isList p2.isList fun h' hz hTI hTO hi1 hi2 hsz hk=>?_
   refine wpAny_pyIter_zip (s:={ s1 with heap:=h' }) hz ?_
   refine ⟨_,_,_,_,H1,rfl,I1.kept (t':=s1.toks) hk,zcd (s1.heap.objs.size+4) (s1.heap.objs.size+2) (s1.heap.objs.size+3) s1.heap.objs.size (s1.heap.objs.size+1) l1 l2 ?_,⟨hz,hTI,⟨_,_,hTO⟩,hi1,hi2⟩,fun b hb=>?_,q⟩
   .exact zipApart_new t1 t2
   .have hb':s1.heap.objs.size<=b:=by
     simp only[List.mem_cons,List.not_mem_nil,or_false] at hb
     rcases hb with rfl | rfl | rfl | rfl | rfl
     .exact Nat.le_add_right _ _
     .exact Nat.le_add_right _ _
     .exact Nat.le_add_right _ _
     .exact Nat.le_refl _
     .exact Nat.le_add_right _ _
    exact I1.fpOk hb' (I1.hok.fresh hb')
end
end L2
namespace L2
open PySem PySem.Spec PyProof.Rows
open AutoSeq1 (wpAny_loadPart')
end L2
namespace Mini
open PySem PySem.Spec PyProof.Rows L2
section
variable {cl:Nat->List Wd->Me->Rz}{K:PySem.W.Frag}
theorem Sim.updD {as:List Addr}{m:Me}{H:Hp}{D:Addr}{ys:List V}{o:HO}(S:Sim K as m H)(hD:H D=some (.lst ys))(hn:D∉as):Sim K as m (upd H D o):=by
 refine ⟨S.len,S.nd,fun l b ob h1 h2=>?_⟩
 have q:=S.obj l b ob h1 h2
 have hb:b≠D:=by rintro rfl;exact hn (List.mem_of_getElem? h1)
 cases ob with
 | lst zs =>
  obtain ⟨us,e,r⟩:=q
  exact ⟨us,by rw[zd hb];exact e,r.kp (Kp.upd hD)⟩
 | dct kvs=>exact q.elim
theorem Sim.join {as:List Addr}{m:Me}{H:Hp}{D:Addr}{ys:List V}{acc:List Wd}(S:Sim K as m H)(hD:H D=some (.lst ys))(hn:D∉as)(R:RepL K as H acc ys):Sim K (as++[D]) (m++[.lst acc]) H:=by
 have g:∀ (l:Nat) (a:Addr),as[l]?=some a->(as++[D])[l]?=some a:=fun l a e=>by
  rw[List.getElem?_append_left (List.getElem?_eq_some_iff.mp e).1];exact e
 have kp:Kp K H H:=⟨fun _ _ h=>h,fun _ _ h=>h⟩
 refine ⟨by simp[S.len],?_,fun l b o h1 h2=>?_⟩
 .refine List.nodup_append.mpr ⟨S.nd,by simp,fun x hx y hy=>?_⟩
  rw[List.mem_singleton.mp hy]
  rintro rfl
  exact hn hx
 .by_cases hl:l < as.length
  .rw[List.getElem?_append_left hl] at h1
   rw[List.getElem?_append_left (by rw[<- S.len];exact hl)] at h2
   have q:=S.obj l b o h1 h2
   cases o with
   | lst zs =>
    obtain ⟨us,e,r⟩:=q
    exact ⟨us,e,repL_mono kp g _ _ r⟩
   | dct kvs=>exact q.elim
  .rw[List.getElem?_append_right (by lia)] at h1
   rw[List.getElem?_append_right (by rw[<- S.len];lia)] at h2
   have hz:l - as.length=0:=by
    cases hq:l - as.length with
    | zero=>rfl
    | succ k=>rw[hq] at h1;simp at h1
   rw[hz] at h1
   rw[<- S.len,hz] at h2
   simp at h1 h2
   subst h1;subst h2
   exact ⟨ys,hD,repL_mono kp g _ _ R⟩
theorem Step.updD {as as':List Addr}{H H':Hp}{D:Addr}{o:HO}(T:Step as H as' H')(hD:H D=none):Step as H as' (upd H' D o) :=
 ⟨T.pre,fun b ob h hb=>by rw[zd (zv h hD)];exact T.frame b ob h hb,T.fresh⟩
theorem Step.join {as as':List Addr}{H H':Hp}{D:Addr}(T:Step as H as' H')(hD:H D=none):Step as H (as'++[D]) H':=by
 refine ⟨?_,T.frame,fun a ha=>?_⟩
 .obtain ⟨t,rfl⟩:=T.pre
  exact ⟨t++[D],by simp⟩
 .rcases List.mem_append.mp ha with z | z
  .exact T.fresh a z
  .rw[List.mem_singleton.mp z];exact .inr hD
theorem xg {as as':List Addr}{m:Me}{H H':Hp}{D:Addr}{ys:List V}{acc:List Wd}{Q:VK}(S:Sim K as' m H')(T:Step as H as' H')(h0:H D=none)(hD:H' D=some (.lst ys))(hn:D∉as')(R:RepL K as' H' acc ys)
  (h:Post K as H Q (alloc m acc)):Q (.ref D) H':=by
 unfold Mini.alloc at h
 split at h
 .refine h (as'++[D]) H' (.ref D) (T.join h0) (S.join hD hn R) (rep_ref.mpr ⟨D,?_,rfl⟩)
  rw[<- S.len,List.getElem?_append_right (Nat.le_refl _)]
  simp
 .exact h.elim
structure Mid (K:PySem.W.Frag)(as:List Addr)(H:Hp)(D:Addr)(env:En)(σ:St)(as':List Addr)(m':Me)(acc:List Wd)(ys:List V)(H':Hp):Prop where
 T:Step as H as' H'
 S:Sim K as' m' H'
 hD:H' D=some (.lst ys)
 n:D∉as'
 R:RepL K as' H' acc ys
 G:EnvRep K as' H' env σ
theorem Mid.go {as:List Addr}{H:Hp}{D:Addr}{env:En}{σ:St}{as' as2:List Addr}{m' m2:Me}{acc:List Wd}{ys:List V}{H' H2:Hp}(M:Mid K as H D env σ as' m' acc ys H')(U:Step as' H' as2 H2)(S2:Sim K as2 m2 H2):Mid K as H D env σ as2 m2 acc ys H2 :=
 ⟨M.T.trans U,S2,U.frame _ _ M.hD M.n,U.out M.hD M.n,M.R.mono M.S U,M.G.mono M.S U⟩
theorem Mid.push {as:List Addr}{H:Hp}{D:Addr}{env:En}{σ:St}{as':List Addr}{m':Me}{acc:List Wd}{ys:List V}{H':Hp}{w:Wd}{v:V}(M:Mid K as H D env σ as' m' acc ys H')(h0:H D=none)(R:Rep K as' H' w v):
  Mid K as H D env σ as' m' (acc++[w]) (ys++[v]) (upd H' D (.lst (ys++[v]))):=by
 have kp:Kp K H' (upd H' D (.lst (ys++[v]))):=Kp.upd M.hD
 exact ⟨M.T.updD h0,M.S.updD M.hD M.n,zb,M.n,(M.R.append (.one R)).kp kp,M.G.kp kp⟩
set_option tactic.hygienic true in
theorem xE {elt cond:Ex}{tc:TT}(htc:∀σ H Q,xc K (evE cl cond) σ H Q->tc σ H Q){as1 as':List Addr}{H1 H':Hp}{D:Addr}{env ex:En}{σ sx:St}{m':Me}{acc:List Wd}{ys:List V}{Q:VK}{next:List Wd->Me->Rz}{N:List V->Hp->Prop}
  (h0:H1 D=none) (M:Mid K as1 H1 D env σ as' m' acc ys H') (G:EnvRep K as' H' (env++ex) (σ++sx))
  (Pt:Post K as1 H1 Q ((evE cl cond (env++ex) m').bind fun b m1=>match b with
     | .bl true=>(evE cl elt (env++ex) m1).bind fun y m2=>if acc.length < lim then next (acc++[y]) m2 else .no
     | .bl false=>next acc m1
     | _=>.no))
  (hN:∀as2 m2 acc' ys' H2,Kp K H' H2->(∀ (l:Nat) (a:Addr),as'[l]?=some a->as2[l]?=some a)->Mid K as1 H1 D env σ as2 m2 acc' ys' H2->Post K as1 H1 Q (next acc' m2)->N ys' H2) :
  tc (σ++sx) H' fun b H2=>if b=true then tOf K (evE cl elt) (σ++sx) H2 fun y H3=>H3 D=some (.lst ys)/\ys.length < sizeLine/\N (ys++[y]) (upd H3 D (.lst (ys++[y]))) else N ys H2:=by
 refine htc _ _ _ ⟨as',env++ex,m',M.S,G,ziB Pt M.T fun wb m2 as2 H2 vb T2 S2 R2 P2=>?_⟩
 have M2:=M.go T2 S2
 cases wb with
 | bl k =>
  obtain rfl:=rep_bl.mp R2
  refine ⟨k,rfl,?_⟩
  cases k with
  | false=>exact zbJ (hN as2 m2 acc ys H2 (M.S.kp T2) (fun _ _ e=>T2.get e) M2 P2)
  | true =>
   refine zbK ⟨as2,env++ex,m2,S2,G.mono M.S T2,ziB P2 M2.T fun wy m3 as3 H3 vy T3 S3 R3 P3=>?_⟩
   have M3:=M2.go T3 S3
   have P3':Post K as1 H1 Q (if acc.length < lim then next (acc++[wy]) m3 else .no):=P3
   by_cases hl:acc.length < lim
   .rw[if_pos hl] at P3'
    refine ⟨M3.hD,by rw[<- M3.R.length];exact Nat.lt_of_lt_of_le hl yJ,hN as3 m3 (acc++[wy]) (ys++[vy]) _ ?_ (fun _ _ e=>T3.get (T2.get e)) (M3.push h0 R3) P3'⟩
    have k1:=M.S.kp T2
    have k2:=S2.kp T3
    have k3:Kp K H3 (upd H3 D (.lst (ys++[vy]))):=Kp.upd M3.hD
    exact ⟨fun a vs q=>k3.t _ _ (k2.t _ _ (k1.t _ _ q)),fun a vs q=>k3.f _ _ (k2.f _ _ (k1.f _ _ q))⟩
   .rw[if_neg hl] at P3';exact P3'.elim
 | _=>exact P2.elim
theorem Mid.start {as as1:List Addr}{H H1:Hp}{D:Addr}{env:En}{σ:St}{m1:Me}(S1:Sim K as1 m1 H1)(G1:EnvRep K as1 H1 env σ)(hD:H1 D=none):Mid K as1 H1 D env σ as1 m1 [] [] (upd H1 D (.lst [])):=by
 have T:Step as1 H1 as1 (upd H1 D (.lst [])):=Step.updD .refl hD
 exact ⟨T,S1.keep T fun b _ o e=>by rw[zd (zv e hD)];exact e,zb,S1.new hD,repL_nil.mpr rfl,G1.mono S1 T⟩
def zcf (K:PySem.W.Frag)(as:List Addr)(J:It)(g:Nat->Me->Option (Option (Wd×Wd))):Prop :=
 ∀ (as':List Addr) (m':Me) (H':Hp),(∀ (l:Nat) (a:Addr),as[l]?=some a->as'[l]?=some a)->Sim K as' m' H'->∀i,
  (g i m'=some none->J.stop i H')/\∀x y,g i m'=some (some (x,y))->J.go i H'/\∀v H'',J.yld i H' v H''->∃x' y',Yp H' v H'' x' y'/\Rep K as' H' x x'/\Rep K as' H' y y'
theorem qo {elt cond:Ex}{tc:TT}(htc:∀σ H Q,xc K (evE cl cond) σ H Q->tc σ H Q){as1:List Addr}{H1:Hp}{env:En}{σ:St}{m1:Me}{J:It}{g:Nat->Me->Option (Option (Wd×Wd))}{Q:VK}(hJ:zcf K as1 J g)(S1:Sim K as1 m1 H1)(G1:EnvRep K as1 H1 env σ)
  (P:Post K as1 H1 Q (zR (fun u v m=>evE cl cond (env++[some u]++[some v]) m) (fun u v m=>evE cl elt (env++[some u]++[some v]) m) g (lim+1) 0 [] m1)) :
  ∀D,H1 D=none->∃W:Nat->Nat->List V->Hp->Prop,(∃m,W 0 m [] (upd H1 D (.lst [])))/\∀i m ys H,W i m ys H ->
   (J.stop i H/\Q (.ref D) H)\/(J.go i H/\∀v H',J.yld i H v H'->∃vs,un2 K v H' vs/\tc (σ++vs.map some) H' fun b H2=>if b=true then tOf K (evE cl elt) (σ++vs.map some) H2 fun y H3=>H3 D=some (.lst ys)/\ys.length < sizeLine/\∃m',m' < m/\W (i+1) m' (ys++[y]) (upd H3 D (.lst (ys++[y])))
    else ∃m',m' < m/\W (i+1) m' ys H2):=by
 intro D hD
 refine ⟨fun i n ys H'=>∃as' m' acc,(∀ (l:Nat) (a:Addr),as1[l]?=some a->as'[l]?=some a)/\Mid K as1 H1 D env σ as' m' acc ys H' /\
  Post K as1 H1 Q (zR (fun u v m=>evE cl cond (env++[some u]++[some v]) m) (fun u v m=>evE cl elt (env++[some u]++[some v]) m) g n i acc m'),⟨lim+1,as1,m1,[],fun _ _ e=>e,Mid.start (as:=as1) (H:=H1) S1 G1 hD,P⟩,?_⟩
 rintro i n ys H' ⟨as',m',acc,hl,M,Pi⟩
 cases n with
 | zero=>exact Pi.elim
 | succ n =>
  unfold zR at Pi
  obtain ⟨q1,q2⟩:=hJ as' m' H' hl M.S i
  cases e:g i m' with
  | none=>rw[e] at Pi;exact Pi.elim
  | some o =>
   rw[e] at Pi
   cases o with
   | none=>exact .inl ⟨q1 e,xg M.S M.T hD M.hD M.n M.R Pi⟩
   | some p =>
    obtain ⟨x,y⟩:=p
    simp only[] at Pi
    obtain ⟨go,yl⟩:=q2 x y e
    refine .inr ⟨go,fun v H'' hy=>?_⟩
    obtain ⟨x',y',⟨T,hT,rfl,rfl⟩,Rx,Ry⟩:=yl v H'' hy
    refine ⟨[x',y'],⟨T,rfl,SqT.of zb,rfl⟩,?_⟩
    have U:Step as' H' as' (upd H' T (.tup [x',y'])):=Step.updD .refl hT
    have S2:Sim K as' m' (upd H' T (.tup [x',y'])):=M.S.keep U fun b _ o e=>by rw[zd (zv e hT)];exact e
    have M2:=M.go U S2
    have G2:EnvRep K as' (upd H' T (.tup [x',y'])) (env++[some x,some y]) (σ++[x',y'].map some):=by
     have:=(M2.G.push (Rx.mono M.S U)).push (Ry.mono M.S U)
     simpa using this
    refine xE htc (ex:=[some x,some y]) (next:=fun acc m=>zR (fun u v m=>evE cl cond (env++[some u]++[some v]) m) (fun u v m=>evE cl elt (env++[some u]++[some v]) m) g n (i+1) acc m)
     (N:=fun zs H2=>∃n',n' < n+1/\∃as' m' acc,(∀ (l:Nat) (a:Addr),as1[l]?=some a->as'[l]?=some a)/\Mid K as1 H1 D env σ as' m' acc zs H2/\Post K as1 H1 Q (zR (fun u v m=>evE cl cond (env++[some u]++[some v]) m) (fun u v m=>evE cl elt (env++[some u]++[some v]) m) g n' (i+1) acc m')) hD M2 G2 (by rw[show env++[some x]++[some y]=env++[some x,some y] from by simp] at Pi;exact Pi) ?_
    intro as2 m2 acc' ys' H2 kp gg M3 P3
    exact ⟨n,Nat.lt_succ_self _,as2,m2,acc',fun l a e=>gg _ _ (hl l a e),M3,P3⟩
theorem qp {as:List Addr}{la lb:Nat}{a b:Addr}(ha:as[la]?=some a)(hb:as[lb]?=some b):zcf K as (Itz K a b) (zE .zip (.ref la) (.ref lb)):=by
 intro as' m' H' hl S i
 simp only[zE]
 cases e1:zf m' la with
 | none=>exact ⟨fun z=>by simp at z,fun x y z=>by simp at z⟩
 | some xs =>
  cases e2:zf m' lb with
  | none=>exact ⟨fun z=>by simp at z,fun x y z=>by simp at z⟩
  | some ys =>
   obtain ⟨a',us,ha',eH,RL⟩:=zS S (zL e1)
   rw[hl _ _ ha] at ha';cases ha'
   obtain ⟨b',vs,hb',eH2,RL2⟩:=zS S (zL e2)
   rw[hl _ _ hb] at hb';cases hb'
   simp only
   cases ex:xs[i]? with
   | none =>
    refine ⟨fun _=>⟨us,vs,SqL.of eH,SqL.of eH2,.inl ?_⟩,fun x y z=>by simp at z⟩
    rw[<- RL.length];exact List.getElem?_eq_none_iff.mp ex
   | some x =>
    cases ey:ys[i]? with
    | none =>
     refine ⟨fun _=>⟨us,vs,SqL.of eH,SqL.of eH2,.inr ?_⟩,fun x y z=>by simp at z⟩
     rw[<- RL2.length];exact List.getElem?_eq_none_iff.mp ey
    | some y =>
     refine ⟨fun z=>by simp at z,fun x2 y2 z=>?_⟩
     simp only[Option.some.injEq,Prod.mk.injEq] at z
     obtain ⟨rfl,rfl⟩:=z
     obtain ⟨u0,hu0,Ru⟩:=RL.get ex
     obtain ⟨v0,hv0,Rv⟩:=RL2.get ey
     refine ⟨⟨us,vs,u0,v0,SqL.of eH,SqL.of eH2,hu0,hv0⟩,fun v H'' hy=>?_⟩
     obtain ⟨p,q,yp,k1,k2⟩:=hy
     have:=k1 us (SqL.of eH)
     rw[hu0] at this;cases this
     have:=k2 vs (SqL.of eH2)
     rw[hv0] at this;cases this
     exact ⟨_,_,yp,Ru,Rv⟩
theorem bind_ok {w:Wd}{m:Me}{f:Wd->Me->Rz}:(Rz.ok w m).bind f=f w m:=rfl
theorem xU {c e:Wd->Wd->Me->Rz}{g:Nat->Me->Option (Option (Wd×Wd))}{k i:Nat}{acc:List Wd}{m:Me}(h:g i m=none):zR c e g (k+1) i acc m=.no:=by
 unfold zR
 rw[h]
set_option tactic.hygienic true in
theorem qq {w w2:Wd}{i:Nat}{m:Me}{o:Option (Wd×Wd)}(e:zE .zip w w2 i m=some o):∃la lb xs ys,w=.ref la/\w2=.ref lb/\zf m la=some xs/\zf m lb=some ys:=by
 unfold zE at e
 split at e
 .next la lb _ =>
  split at e
  .next xs ys e1 e2=>exact ⟨la,lb,xs,ys,rfl,rfl,e1,e2⟩
  .cases e
 .contradiction
 .contradiction
 .cases e
theorem vR {elt a b cond:Ex}{tc:TT}(htc:∀σ H Q,xc K (evE cl cond) σ H Q->tc σ H Q){σ:St}{H:Hp}{Q:VK}(h:tOf K (evE cl (.compP .zip elt a b cond)) σ H Q):
  kA (un2 K) (zgZ K (zbF (tOf K (evE cl a)) (zbF (tOf K (evE cl b)) zgE))) tc (tOf K (evE cl elt)) σ H Q:=by
 obtain ⟨as,env,m,S,G,P⟩:=h
 have P':Post K as H Q ((evE cl a env m).bind fun x m1=>(evE cl b env m1).bind fun y m2 =>
  zR (fun u v m=>evE cl cond (env++[some u]++[some v]) m) (fun u v m=>evE cl elt (env++[some u]++[some v]) m) (zE .zip x y) (lim+1) 0 [] m2):=P
 refine ⟨as,env,m,S,G,ziB P' .refl fun w m1 as1 H1 v T1 S1 R1 P1=>?_⟩
 refine ⟨as1,env,m1,S1,G.mono S T1,ziB P1 T1 fun w2 m2 as2 H2 v2 T2 S2 R2 P2=>?_⟩
 have P3:=Post.step P2 (T1.trans T2)
 have G2:=(G.mono S T1).mono S1 T2
 have look:∃la lb xs ys,w=.ref la/\w2=.ref lb/\zf m2 la=some xs/\zf m2 lb=some ys:=by
  cases e:zE .zip w w2 0 m2 with
  | none=>rw[xU e] at P3;exact P3.elim
  | some o=>exact qq e
 obtain ⟨la,lb,xs,ys,rfl,rfl,e1,e2⟩:=look
 obtain ⟨a1,ha1,rfl⟩:=rep_ref.mp R1
 obtain ⟨b1,hb1,rfl⟩:=rep_ref.mp R2
 have ha2:=T2.get ha1
 obtain ⟨a',us,ha',eH,RL⟩:=zS S2 (zL e1)
 rw[ha2] at ha';cases ha'
 obtain ⟨b',vs,hb',eH2,RL2⟩:=zS S2 (zL e2)
 rw[hb1] at hb';cases hb'
 exact ⟨a1,b1,us,vs,rfl,SqL.of eH,SqL.of eH2,qo htc (qp ha2 hb1) S2 G2 P3⟩
set_option tactic.hygienic true in
theorem vS {w:Wd}{c:Int}{i:Nat}{m:Me}{o:Option (Wd×Wd)}(e:zE .prs w (.int c) i m=some o):∃l xs,w=.ref l/\zf m l=some xs/\((xs[i]?=none/\o=none)\/∃x y,xs[i]?=some (.tup [x,y])/\o=some (x,y)):=by
 cases w with
 | ref l =>
  have e':(match zf m l with
   | some xs=>match xs[i]? with
    | none=>some none
    | some w=>(zbS w).map some
   | none=>none)=some o:=e
  cases e1:zf m l with
  | none=>rw[e1] at e';cases e'
  | some xs =>
   simp only[e1] at e'
   refine ⟨l,xs,rfl,e1,?_⟩
   cases e2:xs[i]? with
   | none=>simp only[e2] at e';cases e';exact .inl ⟨rfl,rfl⟩
   | some w =>
    simp only[e2] at e'
    obtain ⟨p,hp,rfl⟩:=Option.map_eq_some_iff.mp e'
    right
    unfold zbS at hp
    split at hp
    .next x y=>cases hp;exact ⟨x,y,rfl,rfl⟩
    .cases hp
 | _=>cases e
theorem qr {elt a cond:Ex}{tc:TT}(htc:∀σ H Q,xc K (evE cl cond) σ H Q->tc σ H Q){σ:St}{H:Hp}{Q:VK}(h:tOf K (evE cl (.compP .prs elt a (.lit (.int 0)) cond)) σ H Q):
  kA (un2 K) (iOf K (evE cl a)) tc (tOf K (evE cl elt)) σ H Q:=by
 obtain ⟨as,env,m,S,G,P⟩:=h
 refine ⟨as,env,m,S,G,?_⟩
 have hl:∀m1,evE cl (.lit (.int 0)) env m1=.ok (.int 0) m1:=fun _=>rfl
 have P':Post K as H Q ((evE cl a env m).bind fun x m1=>(evE cl (.lit (.int 0)) env m1).bind fun y m2 =>
  zR (fun u v m=>evE cl cond (env++[some u]++[some v]) m) (fun u v m=>evE cl elt (env++[some u]++[some v]) m) (zE .prs x y) (lim+1) 0 [] m2):=P
 clear P
 cases hr:evE cl a env m with
 | no=>rw[hr] at P';exact P'
 | exc c w m'=>rw[hr] at P';exact P'
 | ok w m1 =>
  rw[hr,bind_ok,hl,bind_ok] at P'
  have P0:=P'
  cases e0:zE .prs w (.int 0) 0 m1 with
  | none=>rw[xU e0] at P0;exact P0.elim
  | some o0 =>
   obtain ⟨l,xs0,rfl,e00,_⟩:=vS e0
   refine ⟨?_,fun as1 H1 J T1 S1 hI D hD=>?_⟩
   .show (zf m1 l).isSome=true
    rw[e00];rfl
   .obtain ⟨a,ha,rfl⟩:=hI
    have Pc1:=Post.step P0 T1
    refine ⟨fun i n ys H'=>∃as' m' acc,as'[l]?=some a/\Mid K as1 H1 D env σ as' m' acc ys H' /\
     Post K as1 H1 Q (zR (fun u v m=>evE cl cond (env++[some u]++[some v]) m) (fun u v m=>evE cl elt (env++[some u]++[some v]) m) (zE .prs (.ref l) (.int 0)) n i acc m'),⟨lim+1,as1,m1,[],ha,Mid.start (as:=as) (H:=H) S1 (G.mono S T1) hD,Pc1⟩,?_⟩
    rintro i n ys H' ⟨as',m',acc,hl,M,Pi⟩
    cases n with
    | zero=>exact Pi.elim
    | succ n =>
     cases e:zE .prs (.ref l) (.int 0) i m' with
     | none=>rw[xU e] at Pi;exact Pi.elim
     | some o =>
      unfold zR at Pi
      rw[e] at Pi
      obtain ⟨l',xs,hl',e1,hc⟩:=vS e
      cases hl'
      obtain ⟨a',vs,ha',eH,RL⟩:=zS M.S (zL e1)
      rw[hl] at ha';cases ha'
      rcases hc with ⟨ex,rfl⟩ | ⟨x,y,ex,rfl⟩
      .have hle:vs.length<=i:=by rw[<- RL.length];exact List.getElem?_eq_none_iff.mp ex
       exact .inl ⟨⟨vs,SqL.of eH,hle⟩,xg M.S M.T hD M.hD M.n M.R Pi⟩
      .obtain ⟨v0,hv0,Rx⟩:=RL.get ex
       refine .inr ⟨⟨vs,v0,SqL.of eH,hv0⟩,fun v H'' hy=>?_⟩
       obtain ⟨rfl,hy⟩:=hy
       have:=hy vs (SqL.of eH)
       rw[hv0] at this;cases this
       obtain ⟨t,us,rfl,hq,R2⟩:=rep_tup.mp Rx
       obtain ⟨x',y',rfl,Ra,Rb⟩:=jk R2
       refine ⟨[x',y'],⟨t,rfl,hq,rfl⟩,?_⟩
       have G2:EnvRep K as' H'' (env++[some x,some y]) (σ++[x',y'].map some):=by
        have:=(M.G.push Ra).push Rb
        simpa using this
       refine xE htc (ex:=[some x,some y]) (next:=fun acc m=>zR (fun u v m=>evE cl cond (env++[some u]++[some v]) m) (fun u v m=>evE cl elt (env++[some u]++[some v]) m) (zE .prs (.ref l) (.int 0)) n (i+1) acc m)
        (N:=fun zs H2=>∃n',n' < n+1/\∃as' m' acc,as'[l]?=some a/\Mid K as1 H1 D env σ as' m' acc zs H2/\Post K as1 H1 Q (zR (fun u v m=>evE cl cond (env++[some u]++[some v]) m) (fun u v m=>evE cl elt (env++[some u]++[some v]) m) (zE .prs (.ref l) (.int 0)) n' (i+1) acc m')) hD M G2 (by simp only[] at Pi;rw[show env++[some x]++[some y]=env++[some x,some y] from by simp] at Pi;exact Pi) ?_
       intro as2 m2 acc' ys' H2 kp g M2 P2
       exact ⟨n,Nat.lt_succ_self _,as2,m2,acc',g _ _ hl,M2,P2⟩
theorem kK {elt it cond:Ex}{tc:TT}(htc:∀σ H Q,xc K (evE cl cond) σ H Q->tc σ H Q){σ:St}{H:Hp}{Q:VK}(h:tOf K (evE cl (.comp elt it cond)) σ H Q):
  kA un1 (iOf K (evE cl it)) tc (tOf K (evE cl elt)) σ H Q:=by
 obtain ⟨as,env,m,S,G,P⟩:=h
 refine ⟨as,env,m,S,G,?_⟩
 have P':Post K as H Q ((evE cl it env m).bind fun x m1=>match x with
  | .tup xs=>yz (fun x m=>evE cl cond (env++[some x]) m) (fun x m=>evE cl elt (env++[some x]) m) xs [] m1
  | .rol xs=>yz (fun x m=>evE cl cond (env++[some x]) m) (fun x m=>evE cl elt (env++[some x]) m) xs [] m1
  | .ref l=>yA (fun x m=>evE cl cond (env++[some x]) m) (fun x m=>evE cl elt (env++[some x]) m) l (lim+1) 0 [] m1
  | _=>.no):=P
 clear P
 cases hr:evE cl it env m with
 | no=>rw[hr] at P';exact P'
 | exc c w m'=>rw[hr] at P';exact P'
 | ok w m1 =>
  rw[hr] at P'
  have start:∀ {as1:List Addr}{H1:Hp}{D:Addr},Step as H as1 H1->Sim K as1 m1 H1->H1 D=none->Mid K as1 H1 D env σ as1 m1 [] [] (upd H1 D (.lst [])):=fun {as1 H1 D} T1 S1 hD=>Mid.start (as:=as) (H:=H) S1 (G.mono S T1) hD
  -- over items that stay
  have seqs:∀ (xs:List Wd),Post K as H Q (yz (fun x m=>evE cl cond (env++[some x]) m) (fun x m=>evE cl elt (env++[some x]) m) xs [] m1) ->
    ∀as1 H1 J,Step as H as1 H1->Sim K as1 m1 H1->zam K as1 H1 J xs->∀D,H1 D=none->∃W:Nat->Nat->List V->Hp->Prop,(∃m,W 0 m [] (upd H1 D (.lst [])))/\∀i m ys H,W i m ys H ->
     (J.stop i H/\Q (.ref D) H)\/(J.go i H/\∀v H',J.yld i H v H'->∃vs,un1 v H' vs/\tc (σ++vs.map some) H' fun b H2=>if b=true then tOf K (evE cl elt) (σ++vs.map some) H2 fun y H3=>H3 D=some (.lst ys)/\ys.length < sizeLine/\∃m',m' < m/\W (i+1) m' (ys++[y]) (upd H3 D (.lst (ys++[y])))
      else ∃m',m' < m/\W (i+1) m' ys H2):=by
   intro xs Pc as1 H1 J T1 S1 hI D hD
   obtain ⟨vs,ok,hJ,ok1,RL,stab⟩:=hI
   have Pc1:=Post.step Pc T1
   have hlen:=RL.length
   refine ⟨fun i n ys H'=>∃as' m' acc,i<=xs.length/\n=xs.length - i/\Mid K as1 H1 D env σ as' m' acc ys H'/\ok H'/\RepL K as' H' xs vs /\
    Post K as1 H1 Q (yz (fun x m=>evE cl cond (env++[some x]) m) (fun x m=>evE cl elt (env++[some x]) m) (xs.drop i) acc m'),
    ⟨xs.length,as1,m1,[],Nat.zero_le _,rfl,start T1 S1 hD,stab _ _ (S1.kp (start T1 S1 hD).T) ok1,RL.mono S1 (start T1 S1 hD).T,Pc1⟩,?_⟩
   rintro i n ys H' ⟨as',m',acc,hi,rfl,M,okH,RL',Pi⟩
   by_cases hlt:i < xs.length
   .refine .inr ⟨hJ.go i H' okH (by rw[<- hlen];exact hlt),fun v H'' hy=>?_⟩
    obtain ⟨rfl,hv⟩:=hJ.yld i H' v H'' okH (by rw[<- hlen];exact hlt) hy
    obtain ⟨v',hv',Rx⟩:=RL'.get (i:=i) (x:=xs[i]) (by simp[hlt])
    rw[hv] at hv';cases hv'
    rw[List.drop_eq_getElem_cons hlt] at Pi
    refine ⟨[v],rfl,xE htc (sx:=[some v]) (next:=fun acc m=>yz (fun x m=>evE cl cond (env++[some x]) m) (fun x m=>evE cl elt (env++[some x]) m) (xs.drop (i+1)) acc m) (N:=fun zs H2=>∃n',n' < xs.length - i/\∃as' m' acc,i+1<=xs.length/\n'=xs.length - (i+1)/\Mid K as1 H1 D env σ as' m' acc zs H2/\ok H2/\RepL K as' H2 xs vs/\Post K as1 H1 Q (yz (fun x m=>evE cl cond (env++[some x]) m) (fun x m=>evE cl elt (env++[some x]) m) (xs.drop (i+1)) acc m')) hD M (M.G.push Rx) Pi ?_⟩
    intro as2 m2 acc' ys' H2 kp g M2 P2
    exact ⟨xs.length - (i+1),by lia,as2,m2,acc',hlt,rfl,M2,stab _ _ kp okH,repL_mono kp g _ _ RL',P2⟩
   .have e:i=xs.length:=by lia
    subst e
    rw[List.drop_length] at Pi
    exact .inl ⟨hJ.stop _ H' okH (by lia),xg M.S M.T hD M.hD M.n M.R Pi⟩
  cases w with
  | tup xs=>exact ⟨rfl,fun as1 H1 J T1 S1 hI=>seqs xs P' as1 H1 J T1 S1 hI⟩
  | rol xs=>exact ⟨rfl,fun as1 H1 J T1 S1 hI=>seqs xs P' as1 H1 J T1 S1 hI⟩
  | ref l =>
   have P2:Post K as H Q (yA (fun x m=>evE cl cond (env++[some x]) m) (fun x m=>evE cl elt (env++[some x]) m) l (lim+1) 0 [] m1):=P'
   refine ⟨?_,fun as1 H1 J T1 S1 hI D hD=>?_⟩
   .show (zf m1 l).isSome=true
    cases e:zf m1 l with
    | some xs=>rfl
    | none =>
     unfold yA at P2
     rw[e] at P2
     exact P2.elim
   .obtain ⟨a,ha,rfl⟩:=hI
    have Pc1:=Post.step P2 T1
    refine ⟨fun i n ys H'=>∃as' m' acc,as'[l]?=some a/\Mid K as1 H1 D env σ as' m' acc ys H' /\
     Post K as1 H1 Q (yA (fun x m=>evE cl cond (env++[some x]) m) (fun x m=>evE cl elt (env++[some x]) m) l n i acc m'),⟨lim+1,as1,m1,[],ha,start T1 S1 hD,Pc1⟩,?_⟩
    rintro i n ys H' ⟨as',m',acc,hl,M,Pi⟩
    cases n with
    | zero=>exact Pi.elim
    | succ n =>
     unfold yA at Pi
     cases e:zf m' l with
     | none=>rw[e] at Pi;exact Pi.elim
     | some xs =>
      rw[e] at Pi
      simp only[] at Pi
      obtain ⟨a',vs,ha',eH,RL⟩:=zS M.S (zL e)
      rw[hl] at ha';cases ha'
      cases ex:xs[i]? with
      | none =>
       rw[ex] at Pi
       have hle:vs.length<=i:=by rw[<- RL.length];exact List.getElem?_eq_none_iff.mp ex
       exact .inl ⟨⟨vs,SqL.of eH,hle⟩,xg M.S M.T hD M.hD M.n M.R Pi⟩
      | some x =>
       rw[ex] at Pi
       obtain ⟨v0,hv0,Rx⟩:=RL.get ex
       refine .inr ⟨⟨vs,v0,SqL.of eH,hv0⟩,fun v H'' hy=>?_⟩
       obtain ⟨rfl,hy⟩:=hy
       have:=hy vs (SqL.of eH)
       rw[hv0] at this;cases this
       refine ⟨[v0],rfl,xE htc (sx:=[some v0]) (next:=fun acc m=>yA (fun x m=>evE cl cond (env++[some x]) m) (fun x m=>evE cl elt (env++[some x]) m) l n (i+1) acc m) (N:=fun zs H2=>∃n',n' < n+1/\∃as' m' acc,as'[l]?=some a/\Mid K as1 H1 D env σ as' m' acc zs H2/\Post K as1 H1 Q (yA (fun x m=>evE cl cond (env++[some x]) m) (fun x m=>evE cl elt (env++[some x]) m) l n' (i+1) acc m')) hD M (M.G.push Rx) Pi ?_⟩
       intro as2 m2 acc' ys' H2 kp g M2 P2
       exact ⟨n,Nat.lt_succ_self _,as2,m2,acc',g _ _ hl,M2,P2⟩
  | non=>exact P'.elim
  | bl k=>exact P'.elim
  | int i=>exact P'.elim
  | str s=>exact P'.elim
end
section
variable {cl:Nat->List Wd->Me->Rz}
theorem Snd.pe {X:Cx}{e:Ex}{x:Expr}(h:Snd cl X e (.e x))(hr:zw e=false):PE X x (tOf X.K (evE cl e)):=(h.1 hr).1
theorem Snd.pt {X:Cx}{e:Ex}{x:Expr}(h:Snd cl X e (.e x))(hr:zw e=false)(hi:jn e=false):PT X x (xc X.K (evE cl e)):=(h.1 hr).2.1 hi
theorem Snd.pa {X:Cx}{e:Ex}{xs:List Expr}(h:Snd cl X e (.a xs)):PA X xs (vP X.K (evE cl e)):=h
theorem zfL {sc:Scope}{x:Str}(h:zdF sc x=true):Vis sc x:=by
 unfold zdF at h
 simp only[Bool.or_eq_true,decide_eq_true_eq] at h
 exact h
theorem w6 {sc:Scope}{x:Str}(h:glB sc x=true):sc.names.lookup x=some .globalImplicit:=of_decide_eq_true h
theorem jp {K:PySem.W.Frag}{w:Wd}{v:V}(hv:∀as H,Rep K as H w v):∀σ H Q,tOf K (evE cl (.lit w)) σ H Q->tC v σ H Q:=fun σ H Q h=>by
 obtain ⟨as,env,m,S,G,P⟩:=h
 exact Post.ok (m:=m) P S (hv as H)
theorem y7 {env:Env}{y:Expr}(hs:yb y=true):∀v,foldedSetIterable y env v=pure v:=fun v=>by
 cases y <;> first | rfl | cases hs
def IsE (C:Ctx)(sc:Scope)(N:List Str)(e:Ex)(n:Nd):Prop:=∀ (cl:Nat → List Wd → Me → Rz) (d:Nat) (X:Cx),CtxOk C X cl d → X.env.scope=sc → X.N=N → Snd cl X e n
theorem xP {C:Ctx}{d:Nat}{sc:Scope}{N:List Str}{e:Ex}{n:Nd}(h:IsE C sc N e n):∀X:Cx,CtxOk C X cl d->X.env.scope=sc->X.N=N->Snd cl X e n:=h cl d
theorem IsE.«var» {C:Ctx}{sc:Scope}{N:List Str}{i:Nat}{x:Str}{p:Pos}(h1:N[i]?=some x)(h2:zdF sc x=true)(h3:yU x=true):IsE C sc N (.var i) (.e (.Name x p)):=by
 intro cl d
 intro X hC es eN
 subst es;subst eN
 obtain ⟨n1,n2,_⟩:=wK h3
 refine Snd.of (PE.imp (zeO h1 (zfL h2) n1 n2) fun σ H Q q=>?_)
 obtain ⟨as,env,m,S,G,P⟩:=q
 cases hw:env[i]? with
 | none=>have P':Post X.K as H Q (match env[i]? with | some (some w)=>.ok w m | _=>.no):=P;rw[hw] at P';exact P'.elim
 | some o =>
  cases o with
  | none=>have P':Post X.K as H Q (match env[i]? with | some (some w)=>.ok w m | _=>.no):=P;rw[hw] at P';exact P'.elim
  | some w =>
   have P':Post X.K as H Q (match env[i]? with | some (some w)=>.ok w m | _=>.no):=P
   rw[hw] at P'
   obtain ⟨v,hv,R⟩:=G.get i w hw
   exact ⟨v,hv,Post.ok (m:=m) P' S R⟩
theorem IsE.«bl» {C:Ctx}{sc:Scope}{N:List Str}{b:Bool}{k}{p:Pos}:IsE C sc N (.lit (.bl b)) (.e (.Constant (.bool b) k p)):=by
 intro cl d
 intro X hC es eN;exact Snd.of (PE.imp zgl (jp fun _ _=>rep_bl.mpr rfl))
theorem IsE.«int» {C:Ctx}{sc:Scope}{N:List Str}{i:Int}{k}{p:Pos}:IsE C sc N (.lit (.int i)) (.e (.Constant (.int i) k p)):=by
 intro cl d
 intro X hC es eN;exact Snd.of (PE.imp zeP (jp fun _ _=>rep_int.mpr rfl))
theorem IsE.«con» {C:Ctx}{sc:Scope}{N:List Str}{x:Str}{i:Int}{p:Pos}(h1:glB sc x=true)(h2:C.cons.lookup x=some i)(h3:yU x=true):IsE C sc N (.lit (.int i)) (.e (.Name x p)):=by
 intro cl d
 intro X hC es eN
 subst es
 obtain ⟨n1,n2,_⟩:=wK h3
 obtain ⟨t,ht⟩:=hC.con x i h2
 exact Snd.of (PE.imp (zc4 (w6 h1) ht (v:=.int i) ⟨t,rfl⟩ n1) (jp fun _ _=>rep_int.mpr rfl))
theorem IsE.«bin» {C:Ctx}{sc:Scope}{N:List Str}{op:Bo}{a b:Ex}{x y:Expr}{p:Pos}(ra:zw a=false)(ha:IsE C sc N a (.e x))(rb:zw b=false)(hb:IsE C sc N b (.e y)):IsE C sc N (.bin op a b) (.e (.BinOp x (opK op) y p)):=by
 intro cl d
 have iha:=ha cl d
 have ihb:=hb cl d
 intro X hC es eN;exact Snd.of (zfx ((iha X hC es eN).pe ra) ((ihb X hC es eN).pe rb))
theorem IsE.«neg» {C:Ctx}{sc:Scope}{N:List Str}{a:Ex}{x:Expr}{p:Pos}(ra:zw a=false)(ha:IsE C sc N a (.e x)):IsE C sc N (.neg a) (.e (.UnaryOp .USub x p)):=by
 intro cl d
 have iha:=ha cl d
 intro X hC es eN;exact Snd.of (zfy ((iha X hC es eN).pe ra))
theorem IsE.«not» {C:Ctx}{sc:Scope}{N:List Str}{a:Ex}{x:Expr}{p:Pos}(ra:zw a=false)(ia:jn a=false)(ha:IsE C sc N a (.e x)):IsE C sc N (.not a) (.e (.UnaryOp .Not x p)):=by
 intro cl d
 have iha:=ha cl d
 intro X hC es eN
 have s1:=iha X hC es eN
 exact ⟨fun _=>⟨zb6 (s1.pe ra),fun _=>zfz (s1.pt ra ia),fun op vs pos z=>by cases z⟩,fun tg=>kJ (zb6 (s1.pe ra))⟩
theorem IsE.«and2» {C:Ctx}{sc:Scope}{N:List Str}{a b:Ex}{x y:Expr}{p:Pos}(ra:zw a=false)(ia:jn a=false)(ha:IsE C sc N a (.e x))(rb:zw b=false)(ib:jn b=false)(hb:IsE C sc N b (.e y)):IsE C sc N (.and a b) (.e (.BoolOp .And [x,y] p)):=by
 intro cl d
 have iha:=ha cl d
 have ihb:=hb cl d
 intro X hC es eN
 have sa:=iha X hC es eN
 have sb:=ihb X hC es eN
 have e:=fun (p:Pos)=>zfA (pos:=p) (sa.pe ra) (zbt (sb.pe rb))
 have w:=fun (p:Pos)=>zfB (pos:=p) (sa.pt ra ia) (zc6 (sb.pt rb ib))
 exact ⟨fun _=>⟨e _,fun _=>(w _).pt,fun op vs pos z=>by cases z;exact w _⟩,fun tg=>kJ (e _)⟩
theorem IsE.«or2» {C:Ctx}{sc:Scope}{N:List Str}{a b:Ex}{x y:Expr}{p:Pos}(ra:zw a=false)(ia:jn a=false)(ha:IsE C sc N a (.e x))(rb:zw b=false)(ib:jn b=false)(hb:IsE C sc N b (.e y)):IsE C sc N (.or a b) (.e (.BoolOp .Or [x,y] p)):=by
 intro cl d
 have iha:=ha cl d
 have ihb:=hb cl d
 intro X hC es eN
 have sa:=iha X hC es eN
 have sb:=ihb X hC es eN
 have e:=fun (p:Pos)=>zgX (pos:=p) (sa.pe ra) (zbt (sb.pe rb))
 have w:=fun (p:Pos)=>zgY (pos:=p) (sa.pt ra ia) (zeR (sb.pt rb ib))
 exact ⟨fun _=>⟨e _,fun _=>(w _).pt,fun op vs pos z=>by cases z;exact w _⟩,fun tg=>kJ (e _)⟩
theorem IsE.«cmp» {C:Ctx}{sc:Scope}{N:List Str}{op:Co}{a b:Ex}{x y:Expr}{p:Pos}(hs:yb y=true)(ra:zw a=false)(ha:IsE C sc N a (.e x))(rb:zw b=false)(hb:IsE C sc N b (.e y)):IsE C sc N (.cmp op a b) (.e (.Compare x [cK op] [y] p)):=by
 intro cl d
 have iha:=ha cl d
 have ihb:=hb cl d
 intro X hC es eN
 have ea:=(iha X hC es eN).pe ra
 have eb:=(ihb X hC es eN).pe rb
 exact ⟨fun _=>⟨zb8 hC.room.units ea eb hs,fun _=>zfC hC.room.units ea eb hs,fun op vs pos z=>by cases z⟩,fun tg=>kJ (zb8 hC.room.units ea eb hs)⟩
theorem IsE.«chain» {C:Ctx}{sc:Scope}{N:List Str}{o q:Co}{a b c:Ex}{x y z:Expr}{p:Pos}(hs:yb z=true)(ra:zw a=false)(ha:IsE C sc N a (.e x))(rb:zw b=false)(hb:IsE C sc N b (.e y))(rc:zw c=false)(hc:IsE C sc N c (.e z)):IsE C sc N (.chain o q a b c) (.e (.Compare x [cK o,cK q] [y,z] p)):=by
 intro cl d
 have iha:=ha cl d
 have ihb:=hb cl d
 have ihc:=hc cl d
 intro X hC es eN
 have ea:=(iha X hC es eN).pe ra
 have eb:=(ihb X hC es eN).pe rb
 have ec:=(ihc X hC es eN).pe rc
 exact ⟨fun _=>⟨gp hC.room.units ea eb ec hs,fun _=>zca hC.room.units ea eb ec hs,fun op vs pos z=>by cases z⟩,fun tg=>kJ (gp hC.room.units ea eb ec hs)⟩
theorem IsE.«unit» {C:Ctx}{sc:Scope}{N:List Str}:IsE C sc N .unit (.a []):=by
 intro cl d
 intro X hC es eN;exact zdG
theorem IsE.«pair» {C:Ctx}{sc:Scope}{N:List Str}{a b:Ex}{x:Expr}{xs:List Expr}(hs:zA x=true)(ra:zw a=false)(ha:IsE C sc N a (.e x))(hb:IsE C sc N b (.a xs)):IsE C sc N (.pair a b) (.a (x::xs)):=by
 intro cl d
 have iha:=ha cl d
 have ihb:=hb cl d
 intro X hC es eN;exact zdH ((iha X hC es eN).pe ra) (ihb X hC es eN).pa hs
theorem IsE.«call» {C:Ctx}{sc:Scope}{N:List Str}{k:Nat}{a:Ex}{f:Str}{y:Expr}{ys:List Expr}{p p':Pos}(h1:C.fns[k]?=some f)(h2:glB sc f=true)(h3:yU f=true)(hs:(y::ys).all zA=true)(ha:IsE C sc N a (.a (y::ys))):IsE C sc N (.call k a) (.e (.Call (.Name f p) (y::ys) [] p')):=by
 intro cl d
 have iha:=ha cl d
 intro X hC es eN;subst es;exact Snd.of (zdI hC h1 (w6 h2) h3 hs (iha X hC rfl eN).pa)
theorem IsE.«blt» {C:Ctx}{sc:Scope}{N:List Str}{b:Blf}{a:Ex}{nm:Str}{f:Value}{y:Expr}{ys:List Expr}{p p':Pos}(h1:zfs b=some (nm,f))(h2:glB sc nm=true)(h3:yU nm=true)(hs:(y::ys).all zA=true)(ha:IsE C sc N a (.a (y::ys))):IsE C sc N (.blt b a) (.e (.Call (.Name nm p) (y::ys) [] p')):=by
 intro cl d
 have iha:=ha cl d
 intro X hC es eN;subst es;exact Snd.of (zfD hC h1 (w6 h2) h3 hs (iha X hC rfl eN).pa)
theorem IsE.«isi» {C:Ctx}{sc:Scope}{N:List Str}{t:Tg}{a:Ex}{y:Expr}{p p' p'':Pos}(h1:glB sc "isinstance" = true)(h2:glB sc (Str.ofString (tgT t))=true)(hs:zA y=true)(ra:zw a=false)(ha:IsE C sc N a (.e y)):IsE C sc N (.isi t a) (.e (.Call (.Name "isinstance" p) [y,.Name (Str.ofString (tgT t)) p'] [] p'')):=by
 intro cl d
 have iha:=ha cl d
 intro X hC es eN;subst es;exact Snd.of (zfE hC (w6 h1) (w6 h2) hs ((iha X hC rfl eN).pe ra))
theorem IsE.«lst» {C:Ctx}{sc:Scope}{N:List Str}{a:Ex}{xs:List Expr}{p:Pos}(ha:IsE C sc N a (.a xs)):IsE C sc N (.lst a) (.e (.List xs p)):=by
 intro cl d
 have iha:=ha cl d
 intro X hC es eN;exact Snd.of (zfF (iha X hC es eN).pa)
theorem IsE.«tup» {C:Ctx}{sc:Scope}{N:List Str}{a:Ex}{xs:List Expr}{k}{p:Pos}(ha:IsE C sc N a (.a xs)):IsE C sc N (.tup a) (.e (.Tuple xs k p)):=by
 intro cl d
 have iha:=ha cl d
 intro X hC es eN;exact Snd.of (zfG (iha X hC es eN).pa)
theorem IsE.«idx» {C:Ctx}{sc:Scope}{N:List Str}{a b:Ex}{x y:Expr}{p:Pos}(hs:gk y=true)(ra:zw a=false)(ha:IsE C sc N a (.e x))(rb:zw b=false)(hb:IsE C sc N b (.e y)):IsE C sc N (.idx a b) (.e (.Subscript x y p)):=by
 intro cl d
 have iha:=ha cl d
 have ihb:=hb cl d
 intro X hC es eN;exact Snd.of (zfH ((iha X hC es eN).pe ra) ((ihb X hC es eN).pe rb) hs)
theorem IsE.«meth» {C:Ctx}{sc:Scope}{N:List Str}{k:Mth}{o a:Ex}{x y:Expr}{ys:List Expr}{ap cp:Pos}(hx:jm x=true)(hl:(ap.endLine == cp.line)=true)(hn:(y::ys).length < 29)(hs:(y::ys).all zA=true)(ro:zw o=false)(ho:IsE C sc N o (.e x))(ha:IsE C sc N a (.a (y::ys))):IsE C sc N (.meth k o a) (.e (.Call (.Attribute x (mtV k).1 ap) (y::ys) [] cp)):=by
 intro cl d
 have iho:=ho cl d
 have iha:=ha cl d
 intro X hC es eN;exact Snd.of (zdK ((iho X hC es eN).pe ro) (iha X hC es eN).pa hx hl hn hs)
theorem IsE.«rng1» {C:Ctx}{sc:Scope}{N:List Str}{b:Ex}{y:Expr}{p p':Pos}(hg:glB sc "range" = true)(hs:zA y=true)(rb:zw b=false)(hb:IsE C sc N b (.e y)):IsE C sc N (.rng (.lit (.int 0)) b (.lit (.int 1))) (.e (.Call (.Name "range" p) [y] [] p')):=by
 intro cl d
 have ihb:=hb cl d
 intro X hC es eN;subst es;exact ⟨fun z=>(by cases z),fun tg=>zdL hC (w6 hg) hs ((ihb X hC rfl eN).pe rb)⟩
theorem IsE.«comp0» {C:Ctx}{sc scope:Scope}{N:List Str}{elt it:Ex}{x i:Expr}{y:Str}{p p':Pos}(hs:yb i=true)(hB:blockB sc N scope [y]=true)(hi:IsE C sc N it (.e i))(re:zw elt=false)(he:IsE C (y6 scope sc) (yn N [y]) elt (.e x)):IsE C sc N (.comp elt it (.lit (.bl true))) (.e (.ListComp x [⟨.Name y p,i,[],0⟩] scope p')):=by
 intro cl d
 have ihi:=hi cl d
 have ihe:=he cl d
 intro X hC es eN
 subst es;subst eN
 have B:=yF hB
 have hI:=(ihi X hC rfl rfl).2 (.Name y p)
 have hset:∀v,foldedSetIterable i X.env v=pure v:=y7 hs
 have body:∀Xc,CompOf X scope [y] Xc->PE Xc x (tOf X.K (evE cl elt)):=fun Xc c=>by
  have q:=(ihe Xc (hC.comp c) c.sc c.N).pe re
  rw[c.K] at q
  exact q
 refine Snd.of (PE.imp (vi B hC.calm (qU B) hI (fun Xc c=>⟨vh,body Xc c⟩) hset) fun σ H Q q=>kK (fun σ H Q q=>?_) q)
 obtain ⟨as,env,m,S,G,P⟩:=q
 obtain ⟨b,e,q⟩:=Post.ok (m:=m) P S (rep_bl.mpr rfl)
 cases e
 exact q
theorem IsE.«comp1» {C:Ctx}{sc scope:Scope}{N:List Str}{elt it cond:Ex}{x i f:Expr}{y:Str}{p p':Pos}(hs:yb i=true)(hB:blockB sc N scope [y]=true)(hi:IsE C sc N it (.e i))(rc:zw cond=false)(ic:jn cond=false)(hc:IsE C (y6 scope sc) (yn N [y]) cond (.e f))(re:zw elt=false)(he:IsE C (y6 scope sc) (yn N [y]) elt (.e x)):IsE C sc N (.comp elt it cond) (.e (.ListComp x [⟨.Name y p,i,[f],0⟩] scope p')):=by
 intro cl d
 have ihi:=hi cl d
 have ihc:=hc cl d
 have ihe:=he cl d
 intro X hC es eN
 subst es;subst eN
 have B:=yF hB
 have hI:=(ihi X hC rfl rfl).2 (.Name y p)
 have hset:∀v,foldedSetIterable i X.env v=pure v:=y7 hs
 have body:∀Xc,CompOf X scope [y] Xc->PE Xc x (tOf X.K (evE cl elt)):=fun Xc c=>by
  have q:=(ihe Xc (hC.comp c) c.sc c.N).pe re
  rw[c.K] at q
  exact q
 refine Snd.of (PE.imp (vi B hC.calm (qU B) hI (fun Xc c=>⟨zdn ?_,body Xc c⟩) hset) fun σ H Q q=>kK (fun σ H Q q=>q) q)
 have q:=(ihc Xc (hC.comp c) c.sc c.N).pt rc ic
 rw[c.K] at q
 exact q
theorem IsE.«compZ0» {C:Ctx}{sc scope:Scope}{N:List Str}{elt a b:Ex}{x i j:Expr}{y z:Str}{p p' q q' q2 pt:Pos}{kt:Nat}(hg:glB sc "zip" = true)(hB:blockB sc N scope [y,z]=true)(hs:zA i=true)(hs':zA j=true)(ra:zw a=false)(ha:IsE C sc N a (.e i))(rb:zw b=false)(hb:IsE C sc N b (.e j))(re:zw elt=false)(he:IsE C (y6 scope sc) (yn N [y,z]) elt (.e x)):
   IsE C sc N (.compP .zip elt a b (.lit (.bl true))) (.e (.ListComp x [⟨.Tuple [.Name y p,.Name z q] kt pt,.Call (.Name "zip" q') [i,j] [] q2,[],0⟩] scope p')):=by
 intro cl d
 have iha:=ha cl d
 have ihb:=hb cl d
 have ihe:=he cl d
 intro X hC es eN
 subst es;subst eN
 have B:=yF hB
 have hI:PI X (.Tuple [.Name y p,.Name z q] kt pt) (.Call (.Name "zip" q') [i,j] [] q2) _:=zce (w6 hg) (hC.blt _ (by simp[zm])) (yP ((iha X hC rfl rfl).pe ra) (yP ((ihb X hC rfl rfl).pe rb) vp (ze hs')) (ze hs)) (by rw[ze hs,ze hs'];rfl) (ze hs')
 have body:∀Xc,CompOf X scope [y,z] Xc->PE Xc x (tOf X.K (evE cl elt)):=fun Xc c=>by
  have q:=(ihe Xc (hC.comp c) c.sc c.N).pe re
  rw[c.K] at q
  exact q
 refine Snd.of (PE.imp (vi B hC.calm (jd hC.calm B) hI (fun Xc c=>⟨vh,body Xc c⟩) (fun _=>rfl)) fun σ H Q q=>vR (fun σ H Q q=>?_) q)
 obtain ⟨as,env,m,S,G,P⟩:=q
 obtain ⟨b,e,q⟩:=Post.ok (m:=m) P S (rep_bl.mpr rfl)
 cases e
 exact q
theorem IsE.«compT0» {C:Ctx}{sc scope:Scope}{N:List Str}{elt a:Ex}{x i:Expr}{y z:Str}{p p' q pt:Pos}{kt:Nat}(hs:yb i=true)(hB:blockB sc N scope [y,z]=true)(ha:IsE C sc N a (.e i))(re:zw elt=false)(he:IsE C (y6 scope sc) (yn N [y,z]) elt (.e x)):
   IsE C sc N (.compP .prs elt a (.lit (.int 0)) (.lit (.bl true))) (.e (.ListComp x [⟨.Tuple [.Name y p,.Name z q] kt pt,i,[],0⟩] scope p')):=by
 intro cl d
 have iha:=ha cl d
 have ihe:=he cl d
 intro X hC es eN
 subst es;subst eN
 have B:=yF hB
 have hI:=(iha X hC rfl rfl).2 (.Tuple [.Name y p,.Name z q] kt pt)
 have hset:∀v,foldedSetIterable i X.env v=pure v:=y7 hs
 have body:∀Xc,CompOf X scope [y,z] Xc->PE Xc x (tOf X.K (evE cl elt)):=fun Xc c=>by
  have q:=(ihe Xc (hC.comp c) c.sc c.N).pe re
  rw[c.K] at q
  exact q
 refine Snd.of (PE.imp (vi B hC.calm (jd hC.calm B) hI (fun Xc c=>⟨vh,body Xc c⟩) hset) fun σ H Q q=>qr (fun σ H Q q=>?_) q)
 obtain ⟨as,env,m,S,G,P⟩:=q
 obtain ⟨b,e,q⟩:=Post.ok (m:=m) P S (rep_bl.mpr rfl)
 cases e
 exact q
end
noncomputable def jq:Expr->Bool
 | .ListComp _ _ _ _=>true
 | .SetComp _ _ _ _=>true
 | .DictComp _ _ _ _ _=>true
 | _=>false
theorem zcg {v:Expr}{t:Option Expr}{line:Nat}{env:Env}(h:jq v=false):swapsWith v t line env=pure false:=by
 cases v <;> first | rfl | cases h
def PostS (K:PySem.W.Frag)(as:List Addr)(H:Hp)(D:Ends)(r:Rs):Prop:=match r with
 | .next e m'=>∀as' H' σ',Step as H as' H'->Sim K as' m' H'->EnvRep K as' H' e σ'->D.nx σ' H'
 | .brk e m'=>∀as' H' σ',Step as H as' H'->Sim K as' m' H'->EnvRep K as' H' e σ'->D.bk σ' H'
 | .cont e m'=>∀as' H' σ',Step as H as' H'->Sim K as' m' H'->EnvRep K as' H' e σ'->D.ct σ' H'
 | .ret w m'=>∀as' H' v,Step as H as' H'->Sim K as' m' H'->Rep K as' H' w v->D.rt v H'
 | _=>False
def xn (K:PySem.W.Frag)(g:En->Me->Rs):TS:=fun D σ H=>∃as env m,Sim K as m H/\EnvRep K as H env σ/\PostS K as H D (g env m)
section
variable {K:PySem.W.Frag}{as as':List Addr}{H H':Hp}{m:Me}{D:Ends}
set_option tactic.hygienic true in
theorem PostS.step {r:Rs}(h:PostS K as H D r)(T:Step as H as' H'):PostS K as' H' D r:=by
 cases r with
 | next e m'=>exact fun as2 H2 σ' U S G=>h as2 H2 σ' (T.trans U) S G
 | brk e m'=>exact fun as2 H2 σ' U S G=>h as2 H2 σ' (T.trans U) S G
 | cont e m'=>exact fun as2 H2 σ' U S G=>h as2 H2 σ' (T.trans U) S G
 | ret w m'=>exact fun as2 H2 v U S R=>h as2 H2 v (T.trans U) S R
 | exc c w e m'=>exact h
 | no=>exact h
theorem PostS.bind {Q1:VK}{r:Rz}{env:En}{f:Wd->Me->Rs}(h:PostS K as H D (r.bindS env f))
  (k:∀w m' as' H' v,Step as H as' H'->Sim K as' m' H'->Rep K as' H' w v->PostS K as' H' D (f w m')->Q1 v H'):Post K as H Q1 r:=by
 cases r with
 | ok w m'=>exact fun as2 H2 v U S R=>k w m' as2 H2 v U S R (PostS.step (r:=f w m') h U)
 | exc c w m'=>exact h
 | no=>exact h
theorem PostS.bindI {R1:It->Hp->Prop}{r:Rz}{env:En}{f:Wd->Me->Rs}(h:PostS K as H D (r.bindS env f))
  (k:∀w m',PostS K as H D (f w m')->(yx m' w).isSome=true/\∀as' H' J,Step as H as' H'->Sim K as' m' H'->zgW K as' H' w J->R1 J H'):PostI K as H R1 r:=by
 cases r with
 | ok w m'=>exact k w m' h
 | exc c w m'=>exact h
 | no=>exact h
theorem PostS.next {env:En}{σ:St}(h:PostS K as H D (.next env m))(S:Sim K as m H)(G:EnvRep K as H env σ):D.nx σ H:=h as H σ .refl S G
end
section
variable {cl:Nat->List Wd->Me->Rz}{X:Cx}{e i:Ex}{x:Expr}{pos:Pos}
theorem zdM:PSs X [] (xn X.K (exS cl .skip)):=PSs.imp zc7 fun D σ H h=>by
 obtain ⟨as,env,m,S,G,P⟩:=h
 exact PostS.next (m:=m) P S G
set_option tactic.hygienic true in
theorem zfM {a b:Sm}{st:Stmt}{sts:List Stmt}(ha:PS X st (xn X.K (exS cl a)))(hb:PSs X sts (xn X.K (exS cl b))):PSs X (st::sts) (xn X.K (exS cl (.seq a b))) :=
 PSs.imp (zbu ha hb) fun D σ H h=>by
  obtain ⟨as,env,m,S,G,P⟩:=h
  refine ⟨as,env,m,S,G,?_⟩
  have P':PostS X.K as H D (match exS cl a env m with | .next e1 m1=>exS cl b e1 m1 | r=>r):=P
  cases hr:exS cl a env m with
  | next e1 m1 =>
   rw[hr] at P'
   exact fun as' H' σ' T S' G'=>⟨as',e1,m1,S',G',PostS.step P' T⟩
  | brk e1 m1=>rw[hr] at P';exact P'
  | cont e1 m1=>rw[hr] at P';exact P'
  | ret w m1=>rw[hr] at P';exact P'
  | exc c w e1 m1=>rw[hr] at P';exact P'
  | no=>rw[hr] at P';exact P'
theorem vT {K:PySem.W.Frag}{i:Nat}{e:Ex}{D:Ends}{σ:St}{H:Hp}(h:xn K (exS cl (.asg i e)) D σ H):ze0 (tOf K (evE cl e)) (xM i) D σ H:=by
 obtain ⟨as,env,m,S,G,P⟩:=h
 refine ⟨as,env,m,S,G,PostS.bind P fun w m1 as1 H1 v T1 S1 R1 P1=>?_⟩
 exact PostS.next (m:=m1) P1 S1 ((G.mono S T1).set R1 i)
theorem zfN (he:PE X x (tOf X.K (evE cl e))):PS X (.Return (some x) pos) (xn X.K (exS cl (.ret e))):=PS.imp (zeW he) fun D σ H h=>by
 obtain ⟨as,env,m,S,G,P⟩:=h
 refine ⟨as,env,m,S,G,PostS.bind P fun w m1 as1 H1 v T1 S1 R1 P1=>?_⟩
 exact P1 as1 H1 v .refl S1 R1
theorem zdN (he:PE X x (tOf X.K (evE cl e)))(hc:jq x=false):PS X (.Expr x pos) (xn X.K (exS cl (.expr e))):=PS.imp (zc9 he (zcg hc)) fun D σ H h=>by
 obtain ⟨as,env,m,S,G,P⟩:=h
 refine ⟨as,env,m,S,G,PostS.bind P fun w m1 as1 H1 v T1 S1 R1 P1=>?_⟩
 exact PostS.next (m:=m1) P1 S1 (G.mono S T1)
theorem zch {st:Stmt}:PS X st (xn X.K (exS cl .never)):=PS.imp zbv fun D σ H h=>by
 obtain ⟨as,env,m,S,G,P⟩:=h
 exact P
theorem zg0 {a b:Sm}{xs ys:List Stmt}(hc:PT X x (xc X.K (evE cl e)))(ha:PSs X xs (xn X.K (exS cl a)))(hb:PSs X ys (xn X.K (exS cl b))):PS X (.If x xs ys pos) (xn X.K (exS cl (.ite e a b))) :=
 PS.imp (zgs hc ha hb) fun D σ H h=>by
  obtain ⟨as,env,m,S,G,P⟩:=h
  refine ⟨as,env,m,S,G,PostS.bind P fun w m1 as1 H1 v T1 S1 R1 P1=>?_⟩
  cases w with
  | bl k =>
   obtain rfl:=rep_bl.mp R1
   refine ⟨k,rfl,?_⟩
   cases k with
   | true=>exact zbK ⟨as1,env,m1,S1,G.mono S T1,P1⟩
   | false=>exact zbJ ⟨as1,env,m1,S1,G.mono S T1,P1⟩
  | _=>exact P1.elim
end
section
variable {K:PySem.W.Frag}
structure TgtOk (K:PySem.W.Frag)(g:TG)(st:Wd->En->Option En):Prop where
 ok:∀ {as:List Addr}{H:Hp}{m:Me}{env env':En}{σ:St}{w:Wd}{v:V}{Q:L2.St->Hp->Prop},Sim K as m H->EnvRep K as H env σ->Rep K as H w v->st w env=some env'->(∀σ',EnvRep K as H env' σ'->Q σ' H)->g v σ H Q
theorem zci (i:Nat):TgtOk K (xM i) (fun w env=>some (env.set i (some w))) :=
 ⟨fun S G R e k=>by cases e;exact k _ (G.set R i)⟩
set_option tactic.hygienic true in
theorem zcj (i j:Nat):TgtOk K (zeZ K 2 (jQ (xM i) (jQ (xM j) zeY))) (st2 i j):=by
 refine ⟨fun {as H m env env' σ w v Q} S G R e k=>?_⟩
 unfold st2 at e
 split at e
 .rename_i a b
  cases e
  obtain ⟨p,vs,rfl,hq,rr⟩:=rep_tup.mp R
  obtain ⟨va,vb,rfl,ra,rb⟩:=jk rr
  exact ⟨p,[va,vb],rfl,hq,rfl,va,[vb],rfl,vb,[],rfl,rfl,k _ ((G.set ra i).set rb j)⟩
 .cases e
set_option tactic.hygienic true in
theorem gq {g:TG}{st:Wd->En->Option En}{b:En->Me->Rs}(hg:TgtOk K g st){D:Ends}{as1 as':List Addr}{H1 H':Hp}{m':Me}{env':En}{σ':St}{x:Wd}{v:V}{next:En->Me->Rs}{N:L2.St->Hp->Prop}(T:Step as1 H1 as' H')(S':Sim K as' m' H')(G':EnvRep K as' H' env' σ')(Rx:Rep K as' H' x v)
  (Pt:PostS K as1 H1 D (match ya st b x env' m' with
    | .next e1 m1=>next e1 m1
    | .cont e1 m1=>next e1 m1
    | .brk e1 m1=>.next e1 m1
    | r=>r))
  (hN:∀as2 m2 e2 σ2 H2,Step as' H' as2 H2->Sim K as2 m2 H2->EnvRep K as2 H2 e2 σ2->PostS K as1 H1 D (next e2 m2)->N σ2 H2) :
  g v σ' H' fun σ2 H2=>xn K b { D with nx:=N,ct:=N,bk:=D.nx } σ2 H2:=by
 unfold ya at Pt
 cases hs:st x env' with
 | none=>rw[hs] at Pt;exact Pt.elim
 | some e2 =>
  rw[hs] at Pt
  simp only[] at Pt
  refine hg.ok S' G' Rx hs fun σ2 G2=>⟨as',e2,m',S',G2,?_⟩
  cases hr:b e2 m' with
  | next e3 m3=>rw[hr] at Pt;exact fun as3 H3 σ3 U S3 G3=>hN as3 m3 e3 σ3 H3 U S3 G3 Pt
  | cont e3 m3=>rw[hr] at Pt;exact fun as3 H3 σ3 U S3 G3=>hN as3 m3 e3 σ3 H3 U S3 G3 Pt
  | brk e3 m3=>rw[hr] at Pt;exact fun as3 H3 σ3 U S3 G3=>Pt as3 H3 σ3 (T.trans U) S3 G3
  | ret w' m3=>rw[hr] at Pt;exact fun as3 H3 v3 U S3 R3=>Pt as3 H3 v3 (T.trans U) S3 R3
  | exc c w' e3 m3=>rw[hr] at Pt;exact Pt.elim
  | no=>rw[hr] at Pt;exact Pt.elim
theorem gr {it:En->Me->Rz}{g:TG}{st:Wd->En->Option En}{b:En->Me->Rs}(hg:TgtOk K g st){D:Ends}{σ:St}{H:Hp}
  (h:xn K (fun env m=>(it env m).bindS env fun w m1=>wE (ya st b) w env m1) D σ H):zgv (iOf K it) g (xn K b) D σ H:=by
 obtain ⟨as,env,m,S,G,P⟩:=h
 refine ⟨as,env,m,S,G,PostS.bindI P fun w m1 P1=>?_⟩
 have seqs:∀ (xs:List Wd),PostS K as H D (xl (ya st b) xs env m1)->∀as1 H1 J,Step as H as1 H1->Sim K as1 m1 H1->zam K as1 H1 J xs ->
   ∃W:Nat->Nat->L2.St->Hp->Prop,(∃m,W 0 m σ H1)/\∀i m σ H,W i m σ H ->
    (J.stop i H/\D.nx σ H)\/(J.go i H/\∃N:L2.St->Hp->Prop,(∀σ' H',N σ' H'->∃m',m' < m/\W (i+1) m' σ' H')/\∀x H',J.yld i H x H'->g x σ H' fun σ2 H2=>xn K b { D with nx:=N,ct:=N,bk:=D.nx } σ2 H2):=by
  intro xs Pc as1 H1 J T1 S1 hI
  obtain ⟨vs,ok,hJ,ok1,RL,stab⟩:=hI
  have hlen:=RL.length
  have Pc1:=PostS.step Pc T1
  refine ⟨fun i n σ' H'=>∃as' m' env',i<=xs.length/\n=xs.length - i/\Step as1 H1 as' H'/\Sim K as' m' H'/\EnvRep K as' H' env' σ'/\ok H'/\RepL K as' H' xs vs/\PostS K as1 H1 D (xl (ya st b) (xs.drop i) env' m'),
   ⟨xs.length,as1,m1,env,Nat.zero_le _,rfl,.refl,S1,G.mono S T1,ok1,RL,Pc1⟩,?_⟩
  rintro i n σ' H' ⟨as',m',env',hi,rfl,T',S',G',okH,RL',Pi⟩
  by_cases hlt:i < xs.length
  .refine .inr ⟨hJ.go i H' okH (by rw[<- hlen];exact hlt),fun σ2 H2=>∃as2 m2 env2,i+1<=xs.length/\Step as1 H1 as2 H2/\Sim K as2 m2 H2/\EnvRep K as2 H2 env2 σ2/\ok H2/\RepL K as2 H2 xs vs/\PostS K as1 H1 D (xl (ya st b) (xs.drop (i+1)) env2 m2),?_,fun v H'' hy=>?_⟩
   .rintro σ2 H2 ⟨as2,m2,env2,q⟩
    exact ⟨xs.length - (i+1),by lia,as2,m2,env2,q.1,rfl,q.2⟩
   .obtain ⟨rfl,hv⟩:=hJ.yld i H' v H'' okH (by rw[<- hlen];exact hlt) hy
    obtain ⟨v',hv',Rx⟩:=RL'.get (i:=i) (x:=xs[i]) (by simp[hlt])
    rw[hv] at hv';cases hv'
    rw[List.drop_eq_getElem_cons hlt] at Pi
    refine gq hg (next:=fun e m=>xl (ya st b) (xs.drop (i+1)) e m) T' S' G' Rx Pi ?_
    intro as2 m2 e2 σ2 H2 U S2 G2 P2
    exact ⟨as2,m2,e2,hlt,T'.trans U,S2,G2,stab _ _ (S'.kp U) okH,RL'.mono S' U,P2⟩
  .have e:i=xs.length:=by lia
   subst e
   rw[List.drop_length] at Pi
   exact .inl ⟨hJ.stop _ H' okH (by lia),Pi as' H' σ' T' S' G'⟩
 cases w with
 | tup xs=>exact ⟨rfl,fun as1 H1 J T1 S1 hI=>seqs xs P1 as1 H1 J T1 S1 hI⟩
 | rol xs=>exact ⟨rfl,fun as1 H1 J T1 S1 hI=>seqs xs P1 as1 H1 J T1 S1 hI⟩
 | ref l =>
  have P2:PostS K as H D (yI (ya st b) l (lim+1) 0 env m1):=P1
  refine ⟨?_,fun as1 H1 J T1 S1 hI=>?_⟩
  .show (zf m1 l).isSome=true
   cases e:zf m1 l with
   | some xs=>rfl
   | none =>
    unfold yI at P2
    rw[e] at P2
    exact P2.elim
  .obtain ⟨a,ha,rfl⟩:=hI
   have Pc1:=PostS.step P2 T1
   refine ⟨fun i n σ' H'=>∃as' m' env',as'[l]?=some a/\Step as1 H1 as' H'/\Sim K as' m' H'/\EnvRep K as' H' env' σ'/\PostS K as1 H1 D (yI (ya st b) l n i env' m'),⟨lim+1,as1,m1,env,ha,.refl,S1,G.mono S T1,Pc1⟩,?_⟩
   rintro i n σ' H' ⟨as',m',env',hl,T',S',G',Pi⟩
   cases n with
   | zero=>exact Pi.elim
   | succ n =>
    unfold yI at Pi
    cases e:zf m' l with
    | none=>rw[e] at Pi;exact Pi.elim
    | some xs =>
     rw[e] at Pi
     simp only[] at Pi
     obtain ⟨a',vs,ha',eH,RL⟩:=zS S' (zL e)
     rw[hl] at ha';cases ha'
     cases ex:xs[i]? with
     | none =>
      rw[ex] at Pi
      have hle:vs.length<=i:=by rw[<- RL.length];exact List.getElem?_eq_none_iff.mp ex
      exact .inl ⟨⟨vs,SqL.of eH,hle⟩,Pi as' H' σ' T' S' G'⟩
     | some x =>
      rw[ex] at Pi
      obtain ⟨v0,hv0,Rx⟩:=RL.get ex
      refine .inr ⟨⟨vs,v0,SqL.of eH,hv0⟩,fun σ2 H2=>∃as2 m2 env2,as2[l]?=some a/\Step as1 H1 as2 H2/\Sim K as2 m2 H2/\EnvRep K as2 H2 env2 σ2/\PostS K as1 H1 D (yI (ya st b) l n (i+1) env2 m2),?_,fun v H'' hy=>?_⟩
      .rintro σ2 H2 q
       exact ⟨n,Nat.lt_succ_self _,q⟩
      .obtain ⟨rfl,hy⟩:=hy
       have:=hy vs (SqL.of eH)
       rw[hv0] at this;cases this
       refine gq hg (next:=fun e m=>yI (ya st b) l n (i+1) e m) T' S' G' Rx Pi ?_
       intro as2 m2 e2 σ2 H2 U S2 G2 P2
       exact ⟨as2,m2,e2,U.get hl,T'.trans U,S2,G2,P2⟩
 | non=>exact P1.elim
 | bl k=>exact P1.elim
 | int i=>exact P1.elim
 | str s=>exact P1.elim
end
set_option genInjectivity false in
inductive Ns where
 | s (st:Stmt) | b (sts:List Stmt)
noncomputable def qt (sc:Scope)(x:Str):Bool:=decide (sc.names.lookup x=some .local) || decide (sc.names.lookup x=some .cell)
def zg1 (cl:Nat->List Wd->Me->Rz)(X:Cx)(s:Sm):Ns->Prop
 | .s st=>PS X st (xn X.K (exS cl s))
 | .b sts=>PSs X sts (xn X.K (exS cl s))
structure StOk (X:Cx):Prop where
 nd:X.N.Nodup
 fn:∀x,X.fn x=true
 hp:PassesOwn (model X.prog X.w) X.A X.env X.xe
section
variable {cl:Nat->List Wd->Me->Rz}
theorem vU {sc:Scope}{x:Str}(h:qt sc x=true):Loc sc x:=by
 unfold qt at h
 simp only[Bool.or_eq_true,decide_eq_true_eq] at h
 exact h
theorem zdO {X:Cx}{i:Nat}{ce:Ex}{nm:Str}{xs:List Str}{x w tg:Expr}{g:TG}{un:V->Hp->List V->Prop}{wi:TI}{fs:List Expr}{scope:Scope}{tc:TT}{te:TE}{p1 pos pos':Pos}(hc:X.calm=true)(hX:StOk X)(hi:X.N[i]?=some nm)(hl:Loc X.env.scope nm)(B:BlockOk X scope xs)(hT:Tgt X scope xs tg g un)(hI:PI X tg w wi)
  (body:∀Xc,CompOf X scope xs Xc->PTs Xc fs tc/\PE Xc x te) (hset:∀v,foldedSetIterable w X.env v=pure v) (hbind:∀σ H Q,tOf X.K (evE cl ce) σ H Q->kA un wi tc te σ H Q)
  (he:PE X (.ListComp x [⟨tg,w,fs,0⟩] scope pos') (tOf X.K (evE cl ce))) :
  PS X (.Assign [.Name nm p1] (.ListComp x [⟨tg,w,fs,0⟩] scope pos') pos) (xn X.K (exS cl (.asg i ce))):=by
 have hsw:∃b:Bool,swapsWith (.ListComp x [⟨tg,w,fs,0⟩] scope pos') (some (.Name nm p1)) pos.line X.env=pure b:=⟨_,rfl⟩
 obtain ⟨b,hb⟩:=hsw
 cases b with
 | false=>exact PS.imp (zbx hX.nd hi hl he hb (.inl (hX.fn nm))) fun D σ H q=>vT q
 | true =>
  refine PS.imp (qc B hc hT hI body hX.nd hi hl (.inl (hX.fn nm)) hb hset) fun D σ H q=>?_
  exact hbind _ _ _ (vT q)
def IsS (C:Ctx)(sc:Scope)(N:List Str)(s:Sm)(n:Ns):Prop:=∀ (cl:Nat → List Wd → Me → Rz) (d:Nat) (X:Cx),CtxOk C X cl d → StOk X → X.env.scope=sc → X.N=N → zg1 cl X s n
theorem zfO {C:Ctx}{d:Nat}{X:Cx}(hC:CtxOk C X cl d)(hX:StOk X){s:Sm}{n:Ns}(h:IsS C X.env.scope X.N s n):zg1 cl X s n:=h cl d X hC hX rfl rfl
theorem IsS.«skip0» {C:Ctx}{sc:Scope}{N:List Str}:IsS C sc N .skip (.b []):=by
 intro cl d X hC hX es eN;subst es;subst eN
 exact zdM
theorem IsS.«one» {C:Ctx}{sc:Scope}{N:List Str}{s:Sm}{st:Stmt}(h:IsS C sc N s (.s st)):IsS C sc N s (.b [st]):=by
 intro cl d X hC hX es eN;subst es;subst eN
 have ih:=h cl d X hC hX rfl rfl
 exact zc8 ih
theorem IsS.«seq» {C:Ctx}{sc:Scope}{N:List Str}{a b:Sm}{st st':Stmt}{r:List Stmt}(ha:IsS C sc N a (.s st))(hb:IsS C sc N b (.b (st'::r))):IsS C sc N (.seq a b) (.b (st::st'::r)):=by
 intro cl d X hC hX es eN;subst es;subst eN
 have iha:=ha cl d X hC hX rfl rfl
 have ihb:=hb cl d X hC hX rfl rfl
 exact zfM iha ihb
theorem IsS.«asg» {C:Ctx}{sc:Scope}{N:List Str}{i:Nat}{e:Ex}{x:Str}{v:Expr}{p p':Pos}(hc:jq v=false)(h1:N[i]?=some x)(h2:qt sc x=true)(hr:zw e=false)(he:IsE C sc N e (.e v)):IsS C sc N (.asg i e) (.s (.Assign [.Name x p] v p')):=by
 intro cl d X hC hX es eN;subst es;subst eN
 exact PS.imp (zbx hX.nd h1 (vU h2) ((xP he X hC rfl rfl).pe hr) (zcg hc) (.inl (hX.fn _))) fun D σ H q=>vT q
theorem IsS.«asgCZ0» {C:Ctx}{sc:Scope}{N:List Str}{i:Nat}{elt a b:Ex}{x y y':Str}{z w w':Expr}{scope:Scope}{p p' q q' q2 q3 q4 pt:Pos}{kt:Nat}(h1:N[i]?=some x)(h2:qt sc x=true)(hg:glB sc "zip" = true)(hB:blockB sc N scope [y,y']=true)(hs:zA w=true)(hs':zA w'=true)(ra:zw a=false)(ha:IsE C sc N a (.e w))(rb:zw b=false)(hb:IsE C sc N b (.e w'))(re:zw elt=false)(he:IsE C (y6 scope sc) (yn N [y,y']) elt (.e z)):
   IsS C sc N (.asg i (.compP .zip elt a b (.lit (.bl true)))) (.s (.Assign [.Name x p] (.ListComp z [⟨.Tuple [.Name y q,.Name y' q2] kt pt,.Call (.Name "zip" q3) [w,w'] [] q4,[],0⟩] scope q') p')):=by
 intro cl d X hC hX es eN;subst es;subst eN
 refine zdO (fs:=[]) (tc:=_) hC.calm hX h1 (vU h2) (yF hB) (jd hC.calm (yF hB)) (zce (w6 hg) (hC.blt _ (by simp[zm])) (yP ((xP ha X hC rfl rfl).pe ra) (yP ((xP hb X hC rfl rfl).pe rb) vp (ze hs')) (ze hs)) (by rw[ze hs,ze hs'];rfl) (ze hs')) (te:=tOf X.K (evE cl elt)) (fun Xc c=>⟨vh,?_⟩) (fun _=>rfl) (fun σ H Q q=>vR (fun σ H Q q=>?_) q) ((xP (IsE.compZ0 hg hB hs hs' ra ha rb hb re he) X hC rfl rfl).pe rfl)
 .have q:=(xP he Xc (hC.comp c) c.sc c.N).pe re
  rw[c.K] at q
  exact q
 .obtain ⟨as,env,m,S,G,P⟩:=q
  obtain ⟨b,e,q⟩:=Post.ok (m:=m) P S (rep_bl.mpr rfl)
  cases e
  exact q
theorem IsS.«ite» {C:Ctx}{sc:Scope}{N:List Str}{c:Ex}{a b:Sm}{x:Expr}{xs ys:List Stmt}{p:Pos}(rc:zw c=false)(ic:jn c=false)(hc:IsE C sc N c (.e x))(ha:IsS C sc N a (.b xs))(hb:IsS C sc N b (.b ys)):IsS C sc N (.ite c a b) (.s (.If x xs ys p)):=by
 intro cl d X hC hX es eN;subst es;subst eN
 have iha:=ha cl d X hC hX rfl rfl
 have ihb:=hb cl d X hC hX rfl rfl
 exact zg0 ((xP hc X hC rfl rfl).pt rc ic) iha ihb
theorem IsS.«forv» {C:Ctx}{sc:Scope}{N:List Str}{i:Nat}{it:Ex}{body:Sm}{x:Str}{y:Expr}{sts:List Stmt}{p p':Pos}(h1:N[i]?=some x)(h2:qt sc x=true)(hs:yb y=true)(hi:IsE C sc N it (.e y))(hb:IsS C sc N body (.b sts)):IsS C sc N (.forv i it body) (.s (.For (.Name x p) y sts [] p')):=by
 intro cl d X hC hX es eN;subst es;subst eN
 have ihb:=hb cl d X hC hX rfl rfl
 have hset:∀v,foldedSetIterable y X.env v=pure v:=y7 hs
 refine PS.imp (zbA hX.hp hC.calm ((xP hi X hC rfl rfl).2 _) (xB hX.nd h1 (vU h2) (.inl (hX.fn _))) ihb hset) fun D σ H q=>?_
 exact gr (zci i) q
theorem IsS.«fort» {C:Ctx}{sc:Scope}{N:List Str}{i j:Nat}{it:Ex}{body:Sm}{x x':Str}{y:Expr}{sts:List Stmt}{k}{p p' p2 p3:Pos}(h1:N[i]?=some x)(h2:qt sc x=true)(h3:N[j]?=some x')(h4:qt sc x'=true)(hs:yb y=true)(hi:IsE C sc N it (.e y))(hb:IsS C sc N body (.b sts)):IsS C sc N (.fort i j it body) (.s (.For (.Tuple [.Name x p,.Name x' p2] k p3) y sts [] p')):=by
 intro cl d X hC hX es eN;subst es;subst eN
 have ihb:=hb cl d X hC hX rfl rfl
 have hset:∀v,foldedSetIterable y X.env v=pure v:=y7 hs
 refine PS.imp (zbA hX.hp hC.calm ((xP hi X hC rfl rfl).2 _) (zbw hC.calm (x5 (xB hX.nd h1 (vU h2) (.inl (hX.fn _))) (x5 (xB hX.nd h3 (vU h4) (.inl (hX.fn _))) qR))) ihb hset) fun D σ H q=>?_
 exact gr (zcj i j) q
theorem IsS.«ret» {C:Ctx}{sc:Scope}{N:List Str}{e:Ex}{x:Expr}{p:Pos}(hr:zw e=false)(he:IsE C sc N e (.e x)):IsS C sc N (.ret e) (.s (.Return (some x) p)):=by
 intro cl d X hC hX es eN;subst es;subst eN
 exact zfN ((xP he X hC rfl rfl).pe hr)
theorem IsS.«expr» {C:Ctx}{sc:Scope}{N:List Str}{e:Ex}{x:Expr}{p:Pos}(hc:jq x=false)(hr:zw e=false)(he:IsE C sc N e (.e x)):IsS C sc N (.expr e) (.s (.Expr x p)):=by
 intro cl d X hC hX es eN;subst es;subst eN
 exact zdN ((xP he X hC rfl rfl).pe hr) hc
theorem IsS.«never» {C:Ctx}{sc:Scope}{N:List Str}{st:Stmt}:IsS C sc N .never (.s st):=by
 intro cl d X hC hX es eN;subst es;subst eN
 exact zch
end
set_option genInjectivity false in
structure Dfn where
 nm:Str
 st:Stmt
 N:List Str
 ps:List Str
 fn:Fn
 on:Str
noncomputable def qu (N ps:List Str)(sc:Scope):Bool :=
 decide (sc.kind=.function) && (decide (sc.isCoroutine=false) && (decide (sc.isGenerator=false) && (decide N.Nodup && (decide (N.take ps.length=ps) &&
  (ps.all (fun x=>decide (sc.names.lookup x=some .local) || decide (sc.names.lookup x=some .cell)) && sc.names.all (fun y=>!(decide (y.2=.free))))))))
theorem za7 {N ps:List Str}{sc:Scope}(h:qu N ps sc=true):FnScope N ps sc:=by
 unfold qu at h
 simp only[Bool.and_eq_true,Bool.or_eq_true,decide_eq_true_eq,List.all_eq_true,Bool.not_eq_true',decide_eq_false_iff_not] at h
 obtain ⟨h1,h2,h3,h4,h5,h6,h7⟩:=h
 exact ⟨h1,h2,h3,h4,h5,h6,h7⟩
structure OkD (C:Ctx)(d:Dfn):Prop where
 sc:qu d.N d.ps (zI d.st)=true
 ar:d.ps.length=d.fn.ar
 sz:d.N.length=d.fn.sz
 body:IsS C (zI d.st) d.N d.fn.body (.b (yQ d.st))
section
variable {P:Program}{w:World}{K:PySem.W.Frag}{mg:Str->Option Value}{base:Heap}{C:Ctx}{cl:Nat->List Wd->Me->Rz}
theorem za8 {as:List Addr}{H:Hp}{fn:Fn}{N:List Str}{ws:List Wd}{vs:List V}(R:RepL K as H ws vs)(hl:ws.length=fn.ar)(hN:N.length=fn.sz):EnvRep K as H (yT fn ws) (L2.start N vs):=by
 have hv:=R.length
 refine ⟨by simp[yT,L2.start,hN,hv],fun i w e=>?_⟩
 unfold yT at e
 by_cases hi:i < ws.length
 .rw[List.getElem?_append_left (by simpa using hi),List.getElem?_map] at e
  cases hx:ws[i]? with
  | none=>rw[hx] at e;cases e
  | some x =>
   rw[hx] at e
   cases e
   obtain ⟨v,h1,h2⟩:=R.get hx
   refine ⟨v,?_,h2⟩
   unfold L2.start
   rw[List.getElem?_append_left (by simp;lia),List.getElem?_map,h1]
   rfl
 .rw[List.getElem?_append_right (by simpa using hi),List.getElem?_replicate] at e
  split at e <;> cases e
set_option tactic.hygienic true in
theorem zck {d:Dfn}{f:Addr}{fd:FuncData}{k:Nat}(F:Fun K d.on d.on d.st f fd)(hd:OkD C d)
  (hfn:∀ (i:Nat) (nm:Str),C.fns[i]?=some nm->∃f fd ps,mg nm=some (.ref f)/\PySem.W.keepIn K (.ref f)=true/\Binds K fd ps []/\FnOk P w K mg base CX0 k f fd ps (jo K (cl i)))
  (hcon:∀ (nm:Str) (i:Int),C.cons.lookup nm=some i->∃t,mg nm=some (.int i t)) (hblt:∀nm∈zm,mg nm=none) :
  FnOk P w K mg base CX0 (k+1) f fd d.ps (jo K (vx cl d.fn)):=by
 obtain ⟨h1,h2,h3,h4⟩:=hd
 have Sc:=za7 h1
 have arity:∀ {as:List Addr}{H:Hp}{Q:VK}{ws:List Wd}{m:Me},Post K as H Q (vx cl d.fn ws m)->ws.length=d.fn.ar:=fun {as H Q ws m} h=>by
  unfold vx at h
  split at h
  .assumption
  .exact h.elim
 refine F.ok Sc (fun vs H Q E h=>?_) (fun cdv A outer s H vs Q E hr h=>?_)
 .obtain ⟨as,m,ws,S,R,q⟩:=h
  rw[<- R.length,arity q,h2]
 .obtain ⟨as,m,ws,S,R,q⟩:=h
  have ha:=arity q
  have hC:CtxOk C (jR CX0 P w K mg base d.N d.on (zI d.st) f cdv A outer s H E).nox cl k:=⟨hr,rfl,hfn,hcon,hblt⟩
  have hX:StOk (jR CX0 P w K mg base d.N d.on (zI d.st) f cdv A outer s H E).nox:=⟨Sc.nd,fun _=>rfl,PassesOwn.never⟩
  refine ⟨_,zfO hC hX h4,as,yT d.fn ws,m,S,za8 R ha h3,?_⟩
  unfold vx at q
  rw[if_pos ha] at q
  cases hr:exS cl d.fn.body (yT d.fn ws) m with
  | next e m1=>rw[hr] at q;exact fun as' H' σ' T S' G=>q as' H' .non T S' (rep_non.mpr rfl)
  | ret w m1=>rw[hr] at q;exact fun as' H' v T S' R'=>q as' H' v T S' R'
  | brk e m1=>rw[hr] at q;exact q.elim
  | cont e m1=>rw[hr] at q;exact q.elim
  | exc c w e m1=>rw[hr] at q;exact q.elim
  | no=>rw[hr] at q;exact q.elim
def zZ (K:PySem.W.Frag)(mg:Str->Option Value)(d:Dfn):Prop:=∃f fd,Fun K d.on d.on d.st f fd/\mg d.nm=some (.ref f)
def Bnd (d:Dfn):Prop:=∀ (kV doc pm:Value) (an:Option Addr) (cdv ct:Value) (us:List Value),us.length=d.ps.length->bindArgs (PySem.W.fnOf d.on d.on (xC d.st) (yQ d.st) (zI d.st) .none kV doc pm an cdv ct) ⟨us,[]⟩=pure (d.ps.zip us)
theorem w9 {D:List Dfn}(hC:C.fns=D.map (·.nm))(hD:∀d∈D,OkD C d)(hB:∀d∈D,Bnd d)(hK:∀d∈D,zZ K mg d)
  (hcon:∀ (nm:Str) (i:Int),C.cons.lookup nm=some i->∃t,mg nm=some (.int i t)) (hblt:∀nm∈zm,mg nm=none) :
  ∀ (k:Nat) (i:Nat) (d:Dfn),D[i]?=some d->∀f fd,Fun K d.on d.on d.st f fd->FnOk P w K mg base CX0 k f fd d.ps (jo K (zY (D.map (·.fn)) k i))
 | 0,i,d,hi,f,fd,F=>by
  have no:∀ {vs:List V}{H:Hp}{Q:VK}{E:XK},¬ jo K (zY (D.map (·.fn)) 0 i) vs H Q E:=fun {vs H Q E} h=>by
   obtain ⟨as,m,ws,S,R,q⟩:=h
   exact q
  exact ⟨fun vs H Q E h=>(no h).elim,fun A outer s H args us vs Q E _ _ _ _ h=>(no h).elim⟩
 | k+1,i,d,hi,f,fd,F=>by
  have ih:=w9 hC hD hB hK hcon hblt k
  have e:jo K (zY (D.map (·.fn)) (k+1) i)=jo K (vx (zY (D.map (·.fn)) k) d.fn):=by
   have:zY (D.map (·.fn)) (k+1) i=vx (zY (D.map (·.fn)) k) d.fn:=by
    funext ws m
    unfold zY
    rw[List.getElem?_map,hi]
    rfl
   rw[this]
  rw[e]
  refine zck F (hD d (List.mem_of_getElem? hi)) (fun j nm hj=>?_) hcon hblt
  rw[hC,List.getElem?_map] at hj
  cases hx:D[j]? with
  | none=>rw[hx] at hj;cases hj
  | some d' =>
   rw[hx] at hj
   cases hj
   obtain ⟨f',fd',F',m'⟩:=hK d' (List.mem_of_getElem? hx)
   exact ⟨f',fd',d'.ps,m',F'.kp,F'.binds (hB d' (List.mem_of_getElem? hx)),ih j d' hx f' fd' F'⟩
end
theorem zcl {K:PySem.W.Frag}{D:List Dfn}{k i:Nat}{H:Hp}{a:Addr}{ns:List Int}{E:XK}(hO:zdl H)(hS:SqL K H a (ns.map V.int))(h:∃m,zY (D.map (·.fn)) k i [.rol (ns.map Wd.int)] []=.ok (.bl true) m):
  jo K (zY (D.map (·.fn)) k i) [.ref a] H (fun v _=>v=.bl true) E:=by
 obtain ⟨m,h⟩:=h
 refine ⟨[],[],[.rol (ns.map Wd.int)],⟨rfl,List.nodup_nil,fun l a o e=>by simp at e⟩,repL_cons.mpr ⟨.ref a,[],rfl,rep_rol.mpr ⟨a,ns.map V.int,rfl,?_,?_⟩,repL_nil.mpr rfl⟩,?_⟩
 .rcases hS with (hS | ⟨o,hS⟩) | hS
  .rcases hO a with z | ⟨o,xs,z⟩
   .rw[z] at hS;cases hS
   .rw[z] at hS;cases hS
  .exact .inl ⟨o,hS⟩
  .exact .inr hS
 .have all:∀l:List Int,RepL K [] H (l.map Wd.int) (l.map V.int):=by
   intro l
   induction l with
   | nil=>exact repL_nil.mpr rfl
   | cons n l ih=>exact repL_cons.mpr ⟨_,_,rfl,rep_int.mpr rfl,ih⟩
  exact all ns
 .rw[h]
  exact fun as' H' v T S R=>rep_bl.mp R
theorem zg2 {l:PySem.W.OpenLaw}{q:Program}{loose:List Str}{XP:(Str->Option Value)->Heap->Prop}{YP:World->Heap->Prop}{d:DefRec}{Kp:Params->PySem.W.Frag}{D:List Dfn}{C:Ctx}{k i:Nat}{dl:Dfn}{x:Str}{n:Nat}
  (hn:l.most=some n) (hn2:n<=sizeLine) (hdf:d.params.defaults=[]) (hr:Room k callerA) (hY:∀ (w:World) (h:Heap),YP w h->(Kp w.params).In h)
  (hC:C.fns=D.map (·.nm)) (hD:∀d∈D,OkD C d) (hB:∀d∈D,Bnd d) (hi:D[i]?=some dl) (hx:dl.ps=[x]) (hnm:d.name=dl.nm)
  (F:∀ (w:World) (mg:Str->Option Value) (fa:Addr) (h:Heap),(Kp w.params).In h->h.Ns mainGlobals mg->mg d.name=some (.ref fa) ->
   (∀e∈D,zZ (Kp w.params) mg e)/\(∀ (nm:Str) (i:Int),C.cons.lookup nm=some i->∃t,mg nm=some (.int i t))/\∀nm∈zm,mg nm=none)
  (hpure:∀ns:List Int,ns.length<=n->∃m,zY (D.map (·.fn)) k i [.rol (ns.map Wd.int)] []=.ok (.bl true) m) :
  PySem.W.WalkO q loose XP YP l.row.toRowW d [] (fun f vs=>PySem.call f vs):=by
 refine L2.zdm (n:=n) (k:=k) (x:=x) (CX:=fun _=>CX0) (sp:=fun w=>jo (Kp w.params) (zY (D.map (·.fn)) k i)) hn hn2 hdf hr hY ?_ (fun w H a ns hl hO hS=>zcl hO hS (hpure ns hl)) fun _ _ _ _ _ z=>z
 intro w mg fa h KX G hmg
 obtain ⟨h1,h2,h3⟩:=F w mg fa h KX G hmg
 obtain ⟨f,fd,Ff,hm⟩:=h1 dl (List.mem_of_getElem? hi)
 rw[hnm,hm] at hmg
 cases hmg
 refine ⟨fd,fun s u=>?_,fun base kb nb=>?_⟩
 .obtain ⟨oc,od,kV,doc,pm,an,cdv,ct,osl,rfl,lk,hcd⟩:=Ff.ex
  have q:=hB dl (List.mem_of_getElem? hi) kV doc pm an cdv ct [u] (by rw[hx];rfl)
  rw[hx] at q
  exact .of_eq q
 .rw[<- hx]
  exact w9 hC hD hB h1 h2 h3 k i dl hi fa fd Ff
theorem IsE.v {C:Ctx}{sc:Scope}{N:List Str}{i:Nat}{x:Str}{p:Pos}(h1:N[i]?=some x:=by rfl)(h2:zdF sc x=true:=by kernel_rfl)(h3:yU x=true:=by kernel_rfl):IsE C sc N (.var i) (.e (.Name x p)):=.var h1 h2 h3
theorem us0 {P:List Value->Prop}(h:P []):∀us:List Value,us.length=0->P us
 | [],_=>h
theorem us1 {P:List Value->Prop}(h:∀a,P [a]):∀us:List Value,us.length=1->P us
 | [a],_=>h a
theorem usS {n:Nat}{P:List Value->Prop}(h:∀a (us:List Value),us.length=n->P (a::us)):∀us:List Value,us.length=n+1->P us
 | a::us,e=>h a us (Nat.succ.inj e)
theorem us2 {P:List Value->Prop}(h:∀a b,P [a,b]):∀us:List Value,us.length=2->P us:=usS fun a=>us1 (P:=fun us=>P (a::us)) (h a)
end Mini
namespace R66
open PySem L2 Mini
noncomputable def top (i:Nat):Stmt:=PySem.Challenge.pw_loopgyre_k66_states_listed.main.body.getD i (.Pass ⟨0,0,0,0⟩)
noncomputable def f0:Fn:=⟨1,1,(.ret (.and (.isi .int (.var 0)) (.not (.isi .bool (.var 0)))))⟩
noncomputable abbrev d0:Dfn:=⟨"is_whole",top 4,["thing"],["thing"],f0, "is_whole"⟩
noncomputable def f1:Fn:=⟨2,2,(.ret (.and (.call 0 (.pair (.var 0) .unit)) (.chain .le .le (.lit (.int 1)) (.var 0) (.var 1))))⟩
noncomputable abbrev d1:Dfn:=⟨"is_size_to",top 5,["thing", "most"],["thing", "most"],f1, "is_size_to"⟩
noncomputable def f2:Fn:=⟨2,2,(.ite (.not (.call 1 (.pair (.var 0) (.pair (.var 1) .unit)))) .never .skip)⟩
noncomputable abbrev d2:Dfn:=⟨"need_size_to",top 6,["n", "most"],["n", "most"],f2, "need_size_to"⟩
noncomputable def f3:Fn:=⟨2,2,(.ret (.comp (.idx (.var 2) (.var 1)) (.var 0) (.lit (.bl true))))⟩
noncomputable abbrev d3:Dfn:=⟨"column_of",top 8,["state", "c"],["state", "c"],f3, "column_of"⟩
noncomputable def f4:Fn:=⟨2,5,(.seq (.asg 2 (.lst .unit)) (.seq (.forv 3 (.var 0) (.forv 4 (.tup (.pair (.neg (.lit (.int 1))) (.pair (.lit (.int 0)) (.pair (.lit (.int 1)) .unit)))) (.ite (.and (.cmp .isin (.bin .add (.blt .sum (.pair (.var 3) .unit)) (.var 4)) (.tup (.pair (.lit (.int 0)) (.pair (.lit (.int 1)) .unit)))) (.cmp .isin (.bin .add (.var 1) (.var 4)) (.tup (.pair (.lit (.int 0)) (.pair (.lit (.int 1)) .unit))))) (.expr (.meth .append (.var 2) (.pair (.bin .add (.var 3) (.lst (.pair (.var 4) .unit))) .unit))) .skip))) (.ret (.var 2))))⟩
noncomputable abbrev d4:Dfn:=⟨"longer_rows",top 11,["rows", "total", "told", "row", "sign"],["rows", "total"],f4, "longer_rows"⟩
noncomputable def f5:Fn:=⟨1,3,(.seq (.asg 1 (.lst (.pair (.lst .unit) .unit))) (.seq (.forv 2 (.var 0) (.asg 1 (.call 4 (.pair (.var 1) (.pair (.var 2) .unit))))) (.ret (.comp (.var 3) (.var 1) (.cmp .eq (.blt .sum (.pair (.var 3) .unit)) (.lit (.int 1)))))))⟩
noncomputable abbrev d5:Dfn:=⟨"rows_below",top 12,["sums", "rows", "total"],["sums"],f5, "rows_below"⟩
noncomputable def f6:Fn:=⟨2,5,(.seq (.asg 2 (.lst .unit)) (.seq (.forv 3 (.var 0) (.forv 4 (.call 5 (.pair (.comp (.blt .sum (.pair (.call 3 (.pair (.var 3) (.pair (.var 5) .unit))) .unit)) (.rng (.lit (.int 0)) (.var 1) (.lit (.int 1))) (.lit (.bl true))) .unit)) (.expr (.meth .append (.var 2) (.pair (.bin .add (.comp (.blt .list (.pair (.var 5) .unit)) (.var 3) (.lit (.bl true))) (.lst (.pair (.var 4) .unit))) .unit))))) (.ret (.var 2))))⟩
noncomputable abbrev d6:Dfn:=⟨"longer_tables",top 13,["tables", "n", "told", "table", "row"],["tables", "n"],f6, "longer_tables"⟩
noncomputable def f7:Fn:=⟨1,3,(.seq (.expr (.call 2 (.pair (.var 0) (.pair (.lit (.int 5)) .unit)))) (.seq (.asg 1 (.lst (.pair (.lst .unit) .unit))) (.seq (.forv 2 (.rng (.lit (.int 0)) (.var 0) (.lit (.int 1))) (.asg 1 (.call 6 (.pair (.var 1) (.pair (.var 0) .unit))))) (.ret (.blt .sorted (.pair (.var 1) .unit))))))⟩
noncomputable abbrev d7:Dfn:=⟨"states",top 14,["n", "tables", "r"],["n"],f7, "states"⟩
noncomputable def f8:Fn:=⟨2,2,(.seq (.ite (.cmp .lt (.var 1) (.blt .len (.pair (.var 0) .unit))) (.ret (.idx (.var 0) (.var 1))) .skip) (.ret (.bin .add (.bin .mul (.lit (.int 2)) (.var 1)) (.lit (.int 1)))))⟩
noncomputable abbrev d8:Dfn:=⟨"_law_cell_at",top 16,["_law_script", "_law_k"],["_law_script", "_law_k"],f8, "_law_cell_at"⟩
def f9:Fn:=⟨1,1,(.ret (.and (.isi .int (.var 0)) (.not (.isi .bool (.var 0)))))⟩
noncomputable abbrev d9:Dfn:=⟨"_law_whole",top 17,["_law_thing"],["_law_thing"],f9, "_law_whole"⟩
noncomputable def f10:Fn:=⟨1,1,(.seq (.ite (.cmp .eq (.bin .mod (.var 0) (.lit (.int 16))) (.lit (.int 5))) (.ret (.lit (.int 5))) .skip) (.ret (.bin .add (.lit (.int 1)) (.bin .mod (.bin .fdiv (.var 0) (.lit (.int 16))) (.lit (.int 4))))))⟩
noncomputable abbrev d10:Dfn:=⟨"_law_small_by",top 18,["_law_cell"],["_law_cell"],f10, "_law_small_by"⟩
noncomputable def f11:Fn:=⟨1,6,(.seq (.asg 1 (.lst .unit)) (.seq (.forv 2 (.rng (.lit (.int 0)) (.call 12 (.pair (.var 0) .unit)) (.lit (.int 1))) (.seq (.asg 3 (.lst .unit)) (.seq (.asg 4 (.lit (.int 1))) (.seq (.forv 5 (.rng (.lit (.int 0)) (.var 0) (.lit (.int 1))) (.ite (.cmp .eq (.bin .band (.bin .shr (.var 2) (.var 5)) (.lit (.int 1))) (.lit (.int 1))) (.seq (.expr (.meth .append (.var 3) (.pair (.var 4) .unit))) (.asg 4 (.bin .sub (.lit (.int 0)) (.var 4)))) (.expr (.meth .append (.var 3) (.pair (.lit (.int 0)) .unit))))) (.ite (.cmp .eq (.blt .sum (.pair (.var 3) .unit)) (.lit (.int 1))) (.expr (.meth .append (.var 1) (.pair (.var 3) .unit))) .skip))))) (.ret (.var 1))))⟩
noncomputable abbrev d11:Dfn:=⟨"_law_alternating",top 19,["_law_n", "_law_found", "_law_many", "_law_line", "_law_sign", "_law_c"],["_law_n"],f11, "_law_alternating"⟩
noncomputable def f12:Fn:=⟨1,3,(.seq (.asg 1 (.lit (.int 1))) (.seq (.forv 2 (.rng (.lit (.int 0)) (.var 0) (.lit (.int 1))) (.asg 1 (.bin .mul (.var 1) (.lit (.int 2))))) (.ret (.var 1))))⟩
noncomputable abbrev d12:Dfn:=⟨"_law_power",top 20,["_law_n", "_law_made", "_law_k"],["_law_n"],f12, "_law_power"⟩
noncomputable def f13:Fn:=⟨1,9,(.seq (.asg 1 (.lst (.pair (.tup (.pair (.lst .unit) (.pair (.comp (.lit (.int 0)) (.rng (.lit (.int 0)) (.var 0) (.lit (.int 1))) (.lit (.bl true))) .unit))) .unit))) (.seq (.asg 2 (.call 11 (.pair (.var 0) .unit))) (.seq (.forv 3 (.rng (.lit (.int 0)) (.var 0) (.lit (.int 1))) (.seq (.asg 4 (.lst .unit)) (.seq (.fort 5 6 (.var 1) (.forv 7 (.var 2) (.seq (.asg 8 (.compP .zip (.bin .add (.var 9) (.var 10)) (.var 6) (.var 7) (.lit (.bl true)))) (.ite (.and (.cmp .ge (.blt .minS (.pair (.var 8) .unit)) (.lit (.int 0))) (.cmp .le (.blt .maxS (.pair (.var 8) .unit)) (.lit (.int 1)))) (.expr (.meth .append (.var 4) (.pair (.tup (.pair (.bin .add (.var 5) (.lst (.pair (.var 7) .unit))) (.pair (.var 8) .unit))) .unit))) .skip)))) (.asg 1 (.var 4))))) (.ret (.blt .sorted (.pair (.compP .prs (.var 9) (.var 1) (.lit (.int 0)) (.lit (.bl true))) .unit))))))⟩
noncomputable abbrev d13:Dfn:=⟨"_law_walked",top 21,["_law_n", "_law_piles", "_law_choices", "_law_r", "_law_longer", "_law_lines", "_law_sums", "_law_line", "_law_below"],["_law_n"],f13, "_law_walked"⟩
noncomputable def f14:Fn:=⟨2,3,(.seq (.ite (.or (.not (.isi .list (.var 0))) (.cmp .ne (.blt .len (.pair (.var 0) .unit)) (.blt .len (.pair (.var 1) .unit)))) (.ret (.lit (.bl false))) .skip) (.seq (.forv 2 (.rng (.lit (.int 0)) (.blt .len (.pair (.var 1) .unit)) (.lit (.int 1))) (.seq (.ite (.or (.not (.isi .list (.idx (.var 0) (.var 2)))) (.cmp .ne (.idx (.var 0) (.var 2)) (.idx (.var 1) (.var 2)))) (.ret (.lit (.bl false))) .skip) (.ite (.not (.blt .all (.pair (.comp (.call 9 (.pair (.var 3) .unit)) (.idx (.var 0) (.var 2)) (.lit (.bl true))) .unit))) (.ret (.lit (.bl false))) .skip))) (.ret (.lit (.bl true)))))⟩
noncomputable abbrev d14:Dfn:=⟨"_law_same",top 22,["_law_told", "_law_due", "_law_k"],["_law_told", "_law_due"],f14, "_law_same"⟩
noncomputable def f15:Fn:=⟨1,5,(.seq (.asg 1 (.call 10 (.pair (.call 8 (.pair (.var 0) (.pair (.lit (.int 0)) .unit))) .unit))) (.seq (.asg 2 (.call 13 (.pair (.var 1) .unit))) (.seq (.asg 3 (.call 7 (.pair (.var 1) .unit))) (.seq (.ite (.or (.not (.isi .list (.var 3))) (.cmp .ne (.blt .len (.pair (.var 3) .unit)) (.blt .len (.pair (.var 2) .unit)))) (.ret (.lit (.bl false))) .skip) (.seq (.forv 4 (.rng (.lit (.int 0)) (.blt .len (.pair (.var 2) .unit)) (.lit (.int 1))) (.ite (.not (.call 14 (.pair (.idx (.var 3) (.var 4)) (.pair (.idx (.var 2) (.var 4)) .unit)))) (.ret (.lit (.bl false))) .skip)) (.seq (.expr (.meth .append (.idx (.idx (.var 3) (.bin .mod (.call 8 (.pair (.var 0) (.pair (.lit (.int 1)) .unit))) (.blt .len (.pair (.var 2) .unit)))) (.lit (.int 0))) (.pair (.lit (.int 1)) .unit))) (.seq (.expr (.meth .append (.var 3) (.pair (.lst .unit) .unit))) (.ret (.or (.cmp .eq (.var 1) (.lit (.int 5))) (.cmp .eq (.call 7 (.pair (.var 1) .unit)) (.var 2)))))))))))⟩
noncomputable abbrev d15:Dfn:=⟨"law",top 23,["_law_script", "_law_n", "_law_due", "_law_found", "_law_k"],["_law_script"],f15, "law"⟩
noncomputable def D:List Dfn:=[d0,d1,d2,d3,d4,d5,d6,d7,d8,d9,d10,d11,d12,d13,d14,d15]
noncomputable def C:Mini.Ctx:=⟨["is_whole", "is_size_to", "need_size_to", "column_of", "longer_rows", "rows_below", "longer_tables", "states", "_law_cell_at", "_law_whole", "_law_small_by", "_law_alternating", "_law_power", "_law_walked", "_law_same", "law"],[("GREATEST_WALKED",5)]⟩
theorem ok0:OkD C d0:=⟨by decide +kernel,rfl,rfl,(.one (.ret rfl (.and2 rfl rfl (.isi (by kernel_rfl) (by kernel_rfl) rfl rfl .v) rfl rfl (.not rfl rfl (.isi (by kernel_rfl) (by kernel_rfl) rfl rfl .v)))))⟩
theorem ok1:OkD C d1:=⟨by decide +kernel,rfl,rfl,(.one (.ret rfl (.and2 rfl rfl (.call rfl (by kernel_rfl) (by kernel_rfl) rfl (.pair rfl rfl .v .unit)) rfl rfl (.chain rfl rfl .int rfl .v rfl .v))))⟩
theorem ok2:OkD C d2:=⟨by decide +kernel,rfl,rfl,(.one (.ite rfl rfl (.not rfl rfl (.call rfl (by kernel_rfl) (by kernel_rfl) rfl (.pair rfl rfl .v (.pair rfl rfl .v .unit)))) (.one .never) .skip0))⟩
theorem ok3:OkD C d3:=⟨by decide +kernel,rfl,rfl,(.one (.ret rfl (.comp0 rfl (by kernel_rfl) .v rfl (.idx rfl rfl .v rfl .v))))⟩
theorem ok4:OkD C d4:=⟨by decide +kernel,rfl,rfl,(.seq (.asg rfl rfl (by kernel_rfl) rfl (.lst .unit)) (.seq (.forv rfl (by kernel_rfl) rfl .v (.one (.forv rfl (by kernel_rfl) rfl (.tup (.pair rfl rfl (.neg rfl .int) (.pair rfl rfl .int (.pair rfl rfl .int .unit)))) (.one (.ite rfl rfl (.and2 rfl rfl (.cmp rfl rfl (.bin rfl (.blt rfl (by kernel_rfl) (by kernel_rfl) rfl (.pair rfl rfl .v .unit)) rfl .v) rfl (.tup (.pair rfl rfl .int (.pair rfl rfl .int .unit)))) rfl rfl (.cmp rfl rfl (.bin rfl .v rfl .v) rfl (.tup (.pair rfl rfl .int (.pair rfl rfl .int .unit))))) (.one (.expr rfl rfl (.meth rfl rfl (by decide) rfl rfl .v (.pair rfl rfl (.bin rfl .v rfl (.lst (.pair rfl rfl .v .unit))) .unit)))) .skip0))))) (.one (.ret rfl .v))))⟩
theorem ok5:OkD C d5:=⟨by decide +kernel,rfl,rfl,(.seq (.asg rfl rfl (by kernel_rfl) rfl (.lst (.pair rfl rfl (.lst .unit) .unit))) (.seq (.forv rfl (by kernel_rfl) rfl .v (.one (.asg rfl rfl (by kernel_rfl) rfl (.call rfl (by kernel_rfl) (by kernel_rfl) rfl (.pair rfl rfl .v (.pair rfl rfl .v .unit)))))) (.one (.ret rfl (.comp1 rfl (by kernel_rfl) .v rfl rfl (.cmp rfl rfl (.blt rfl (by kernel_rfl) (by kernel_rfl) rfl (.pair rfl rfl .v .unit)) rfl .int) rfl .v)))))⟩
theorem ok6:OkD C d6:=⟨by decide +kernel,rfl,rfl,(.seq (.asg rfl rfl (by kernel_rfl) rfl (.lst .unit)) (.seq (.forv rfl (by kernel_rfl) rfl .v (.one (.forv rfl (by kernel_rfl) rfl (.call rfl (by kernel_rfl) (by kernel_rfl) rfl (.pair rfl rfl (.comp0 rfl (by kernel_rfl) (.rng1 (by kernel_rfl) rfl rfl .v) rfl (.blt rfl (by kernel_rfl) (by kernel_rfl) rfl (.pair rfl rfl (.call rfl (by kernel_rfl) (by kernel_rfl) rfl (.pair rfl rfl .v (.pair rfl rfl .v .unit))) .unit))) .unit)) (.one (.expr rfl rfl (.meth rfl rfl (by decide) rfl rfl .v (.pair rfl rfl (.bin rfl (.comp0 rfl (by kernel_rfl) .v rfl (.blt rfl (by kernel_rfl) (by kernel_rfl) rfl (.pair rfl rfl .v .unit))) rfl (.lst (.pair rfl rfl .v .unit))) .unit))))))) (.one (.ret rfl .v))))⟩
theorem ok7:OkD C d7:=⟨by decide +kernel,rfl,rfl,(.seq (.expr rfl rfl (.call rfl (by kernel_rfl) (by kernel_rfl) rfl (.pair rfl rfl .v (.pair rfl rfl (.con (by kernel_rfl) (by kernel_rfl) (by kernel_rfl)) .unit)))) (.seq (.asg rfl rfl (by kernel_rfl) rfl (.lst (.pair rfl rfl (.lst .unit) .unit))) (.seq (.forv rfl (by kernel_rfl) rfl (.rng1 (by kernel_rfl) rfl rfl .v) (.one (.asg rfl rfl (by kernel_rfl) rfl (.call rfl (by kernel_rfl) (by kernel_rfl) rfl (.pair rfl rfl .v (.pair rfl rfl .v .unit)))))) (.one (.ret rfl (.blt rfl (by kernel_rfl) (by kernel_rfl) rfl (.pair rfl rfl .v .unit)))))))⟩
theorem ok8:OkD C d8:=⟨by decide +kernel,rfl,rfl,(.seq (.ite rfl rfl (.cmp rfl rfl .v rfl (.blt rfl (by kernel_rfl) (by kernel_rfl) rfl (.pair rfl rfl .v .unit))) (.one (.ret rfl (.idx rfl rfl .v rfl .v))) .skip0) (.one (.ret rfl (.bin rfl (.bin rfl .int rfl .v) rfl .int))))⟩
theorem ok9:OkD C d9:=⟨by decide +kernel,rfl,rfl,(.one (.ret rfl (.and2 rfl rfl (.isi (by kernel_rfl) (by kernel_rfl) rfl rfl .v) rfl rfl (.not rfl rfl (.isi (by kernel_rfl) (by kernel_rfl) rfl rfl .v)))))⟩
theorem ok10:OkD C d10:=⟨by decide +kernel,rfl,rfl,(.seq (.ite rfl rfl (.cmp rfl rfl (.bin rfl .v rfl .int) rfl .int) (.one (.ret rfl .int)) .skip0) (.one (.ret rfl (.bin rfl .int rfl (.bin rfl (.bin rfl .v rfl .int) rfl .int)))))⟩
theorem ok11:OkD C d11:=⟨by decide +kernel,rfl,rfl,(.seq (.asg rfl rfl (by kernel_rfl) rfl (.lst .unit)) (.seq (.forv rfl (by kernel_rfl) rfl (.rng1 (by kernel_rfl) rfl rfl (.call rfl (by kernel_rfl) (by kernel_rfl) rfl (.pair rfl rfl .v .unit))) (.seq (.asg rfl rfl (by kernel_rfl) rfl (.lst .unit)) (.seq (.asg rfl rfl (by kernel_rfl) rfl .int) (.seq (.forv rfl (by kernel_rfl) rfl (.rng1 (by kernel_rfl) rfl rfl .v) (.one (.ite rfl rfl (.cmp rfl rfl (.bin rfl (.bin rfl .v rfl .v) rfl .int) rfl .int) (.seq (.expr rfl rfl (.meth rfl rfl (by decide) rfl rfl .v (.pair rfl rfl .v .unit))) (.one (.asg rfl rfl (by kernel_rfl) rfl (.bin rfl .int rfl .v)))) (.one (.expr rfl rfl (.meth rfl rfl (by decide) rfl rfl .v (.pair rfl rfl .int .unit))))))) (.one (.ite rfl rfl (.cmp rfl rfl (.blt rfl (by kernel_rfl) (by kernel_rfl) rfl (.pair rfl rfl .v .unit)) rfl .int) (.one (.expr rfl rfl (.meth rfl rfl (by decide) rfl rfl .v (.pair rfl rfl .v .unit)))) .skip0)))))) (.one (.ret rfl .v))))⟩
theorem ok12:OkD C d12:=⟨by decide +kernel,rfl,rfl,(.seq (.asg rfl rfl (by kernel_rfl) rfl .int) (.seq (.forv rfl (by kernel_rfl) rfl (.rng1 (by kernel_rfl) rfl rfl .v) (.one (.asg rfl rfl (by kernel_rfl) rfl (.bin rfl .v rfl .int)))) (.one (.ret rfl .v))))⟩
theorem ok13:OkD C d13:=⟨by decide +kernel,rfl,rfl,(.seq (.asg rfl rfl (by kernel_rfl) rfl (.lst (.pair rfl rfl (.tup (.pair rfl rfl (.lst .unit) (.pair rfl rfl (.comp0 rfl (by kernel_rfl) (.rng1 (by kernel_rfl) rfl rfl .v) rfl .int) .unit))) .unit))) (.seq (.asg rfl rfl (by kernel_rfl) rfl (.call rfl (by kernel_rfl) (by kernel_rfl) rfl (.pair rfl rfl .v .unit))) (.seq (.forv rfl (by kernel_rfl) rfl (.rng1 (by kernel_rfl) rfl rfl .v) (.seq (.asg rfl rfl (by kernel_rfl) rfl (.lst .unit)) (.seq (.fort rfl (by kernel_rfl) rfl (by kernel_rfl) rfl .v (.one (.forv rfl (by kernel_rfl) rfl .v (.seq (.asgCZ0 rfl (by kernel_rfl) (by kernel_rfl) (by kernel_rfl) rfl rfl rfl .v rfl .v rfl (.bin rfl .v rfl .v)) (.one (.ite rfl rfl (.and2 rfl rfl (.cmp rfl rfl (.blt rfl (by kernel_rfl) (by kernel_rfl) rfl (.pair rfl rfl .v .unit)) rfl .int) rfl rfl (.cmp rfl rfl (.blt rfl (by kernel_rfl) (by kernel_rfl) rfl (.pair rfl rfl .v .unit)) rfl .int)) (.one (.expr rfl rfl (.meth rfl rfl (by decide) rfl rfl .v (.pair rfl rfl (.tup (.pair rfl rfl (.bin rfl .v rfl (.lst (.pair rfl rfl .v .unit))) (.pair rfl rfl .v .unit))) .unit)))) .skip0)))))) (.one (.asg rfl rfl (by kernel_rfl) rfl .v))))) (.one (.ret rfl (.blt rfl (by kernel_rfl) (by kernel_rfl) rfl (.pair rfl rfl (.compT0 rfl (by kernel_rfl) .v rfl .v) .unit)))))))⟩
theorem ok14:OkD C d14:=⟨by decide +kernel,rfl,rfl,(.seq (.ite rfl rfl (.or2 rfl rfl (.not rfl rfl (.isi (by kernel_rfl) (by kernel_rfl) rfl rfl .v)) rfl rfl (.cmp rfl rfl (.blt rfl (by kernel_rfl) (by kernel_rfl) rfl (.pair rfl rfl .v .unit)) rfl (.blt rfl (by kernel_rfl) (by kernel_rfl) rfl (.pair rfl rfl .v .unit)))) (.one (.ret rfl .bl)) .skip0) (.seq (.forv rfl (by kernel_rfl) rfl (.rng1 (by kernel_rfl) rfl rfl (.blt rfl (by kernel_rfl) (by kernel_rfl) rfl (.pair rfl rfl .v .unit))) (.seq (.ite rfl rfl (.or2 rfl rfl (.not rfl rfl (.isi (by kernel_rfl) (by kernel_rfl) rfl rfl (.idx rfl rfl .v rfl .v))) rfl rfl (.cmp rfl rfl (.idx rfl rfl .v rfl .v) rfl (.idx rfl rfl .v rfl .v))) (.one (.ret rfl .bl)) .skip0) (.one (.ite rfl rfl (.not rfl rfl (.blt rfl (by kernel_rfl) (by kernel_rfl) rfl (.pair rfl rfl (.comp0 rfl (by kernel_rfl) (.idx rfl rfl .v rfl .v) rfl (.call rfl (by kernel_rfl) (by kernel_rfl) rfl (.pair rfl rfl .v .unit))) .unit))) (.one (.ret rfl .bl)) .skip0)))) (.one (.ret rfl .bl))))⟩
theorem ok15:OkD C d15:=⟨by decide +kernel,rfl,rfl,(.seq (.asg rfl rfl (by kernel_rfl) rfl (.call rfl (by kernel_rfl) (by kernel_rfl) rfl (.pair rfl rfl (.call rfl (by kernel_rfl) (by kernel_rfl) rfl (.pair rfl rfl .v (.pair rfl rfl .int .unit))) .unit))) (.seq (.asg rfl rfl (by kernel_rfl) rfl (.call rfl (by kernel_rfl) (by kernel_rfl) rfl (.pair rfl rfl .v .unit))) (.seq (.asg rfl rfl (by kernel_rfl) rfl (.call rfl (by kernel_rfl) (by kernel_rfl) rfl (.pair rfl rfl .v .unit))) (.seq (.ite rfl rfl (.or2 rfl rfl (.not rfl rfl (.isi (by kernel_rfl) (by kernel_rfl) rfl rfl .v)) rfl rfl (.cmp rfl rfl (.blt rfl (by kernel_rfl) (by kernel_rfl) rfl (.pair rfl rfl .v .unit)) rfl (.blt rfl (by kernel_rfl) (by kernel_rfl) rfl (.pair rfl rfl .v .unit)))) (.one (.ret rfl .bl)) .skip0) (.seq (.forv rfl (by kernel_rfl) rfl (.rng1 (by kernel_rfl) rfl rfl (.blt rfl (by kernel_rfl) (by kernel_rfl) rfl (.pair rfl rfl .v .unit))) (.one (.ite rfl rfl (.not rfl rfl (.call rfl (by kernel_rfl) (by kernel_rfl) rfl (.pair rfl rfl (.idx rfl rfl .v rfl .v) (.pair rfl rfl (.idx rfl rfl .v rfl .v) .unit)))) (.one (.ret rfl .bl)) .skip0))) (.seq (.expr rfl rfl (.meth rfl rfl (by decide) rfl rfl (.idx rfl rfl (.idx rfl rfl .v rfl (.bin rfl (.call rfl (by kernel_rfl) (by kernel_rfl) rfl (.pair rfl rfl .v (.pair rfl rfl .int .unit))) rfl (.blt rfl (by kernel_rfl) (by kernel_rfl) rfl (.pair rfl rfl .v .unit)))) rfl .int) (.pair rfl rfl .int .unit))) (.seq (.expr rfl rfl (.meth rfl rfl (by decide) rfl rfl .v (.pair rfl rfl (.lst .unit) .unit))) (.one (.ret rfl (.or2 rfl rfl (.cmp rfl rfl .v rfl .int) rfl rfl (.cmp rfl rfl (.call rfl (by kernel_rfl) (by kernel_rfl) rfl (.pair rfl rfl .v .unit)) rfl .v)))))))))))⟩
theorem zg3:∀d∈D,OkD C d:=by
 intro d hd
 unfold D at hd
 rcases List.mem_cons.mp hd with rfl | hd
 .exact (ok0)
 rcases List.mem_cons.mp hd with rfl | hd
 .exact (ok1)
 rcases List.mem_cons.mp hd with rfl | hd
 .exact (ok2)
 rcases List.mem_cons.mp hd with rfl | hd
 .exact (ok3)
 rcases List.mem_cons.mp hd with rfl | hd
 .exact (ok4)
 rcases List.mem_cons.mp hd with rfl | hd
 .exact (ok5)
 rcases List.mem_cons.mp hd with rfl | hd
 .exact (ok6)
 rcases List.mem_cons.mp hd with rfl | hd
 .exact (ok7)
 rcases List.mem_cons.mp hd with rfl | hd
 .exact (ok8)
 rcases List.mem_cons.mp hd with rfl | hd
 .exact (ok9)
 rcases List.mem_cons.mp hd with rfl | hd
 .exact (ok10)
 rcases List.mem_cons.mp hd with rfl | hd
 .exact (ok11)
 rcases List.mem_cons.mp hd with rfl | hd
 .exact (ok12)
 rcases List.mem_cons.mp hd with rfl | hd
 .exact (ok13)
 rcases List.mem_cons.mp hd with rfl | hd
 .exact (ok14)
 rcases List.mem_cons.mp hd with rfl | hd
 .exact (ok15)
 .cases hd
theorem b0:Bnd d0:=fun _ _ _ _ _ _=>us1 (fun _=>rfl)
theorem b1:Bnd d1:=fun _ _ _ _ _ _=>us2 (fun _ _=>rfl)
theorem b2:Bnd d2:=fun _ _ _ _ _ _=>us2 (fun _ _=>rfl)
theorem b3:Bnd d3:=fun _ _ _ _ _ _=>us2 (fun _ _=>rfl)
theorem b4:Bnd d4:=fun _ _ _ _ _ _=>us2 (fun _ _=>rfl)
theorem b5:Bnd d5:=fun _ _ _ _ _ _=>us1 (fun _=>rfl)
theorem b6:Bnd d6:=fun _ _ _ _ _ _=>us2 (fun _ _=>rfl)
theorem b7:Bnd d7:=fun _ _ _ _ _ _=>us1 (fun _=>rfl)
theorem b8:Bnd d8:=fun _ _ _ _ _ _=>us2 (fun _ _=>rfl)
theorem b9:Bnd d9:=fun _ _ _ _ _ _=>us1 (fun _=>rfl)
theorem b10:Bnd d10:=fun _ _ _ _ _ _=>us1 (fun _=>rfl)
theorem b11:Bnd d11:=fun _ _ _ _ _ _=>us1 (fun _=>rfl)
theorem b12:Bnd d12:=fun _ _ _ _ _ _=>us1 (fun _=>rfl)
theorem b13:Bnd d13:=fun _ _ _ _ _ _=>us1 (fun _=>rfl)
theorem b14:Bnd d14:=fun _ _ _ _ _ _=>us2 (fun _ _=>rfl)
theorem b15:Bnd d15:=fun _ _ _ _ _ _=>us1 (fun _=>rfl)
theorem bnd:∀d∈D,Bnd d:=by
 intro d hd
 unfold D at hd
 rcases List.mem_cons.mp hd with rfl | hd
 .exact b0
 rcases List.mem_cons.mp hd with rfl | hd
 .exact b1
 rcases List.mem_cons.mp hd with rfl | hd
 .exact b2
 rcases List.mem_cons.mp hd with rfl | hd
 .exact b3
 rcases List.mem_cons.mp hd with rfl | hd
 .exact b4
 rcases List.mem_cons.mp hd with rfl | hd
 .exact b5
 rcases List.mem_cons.mp hd with rfl | hd
 .exact b6
 rcases List.mem_cons.mp hd with rfl | hd
 .exact b7
 rcases List.mem_cons.mp hd with rfl | hd
 .exact b8
 rcases List.mem_cons.mp hd with rfl | hd
 .exact b9
 rcases List.mem_cons.mp hd with rfl | hd
 .exact b10
 rcases List.mem_cons.mp hd with rfl | hd
 .exact b11
 rcases List.mem_cons.mp hd with rfl | hd
 .exact b12
 rcases List.mem_cons.mp hd with rfl | hd
 .exact b13
 rcases List.mem_cons.mp hd with rfl | hd
 .exact b14
 rcases List.mem_cons.mp hd with rfl | hd
 .exact b15
 .cases hd
theorem zk {K:PySem.W.Frag}(z0:PySem.W.nsIn K mainGlobals "len" = some none)(z1:PySem.W.nsIn K mainGlobals "int" = some none)(z2:PySem.W.nsIn K mainGlobals "bool" = some none)(z3:PySem.W.nsIn K mainGlobals "list" = some none)(z4:PySem.W.nsIn K mainGlobals "tuple" = some none)(z5:PySem.W.nsIn K mainGlobals "abs" = some none)(z6:PySem.W.nsIn K mainGlobals "max" = some none)(z7:PySem.W.nsIn K mainGlobals "min" = some none)(z8:PySem.W.nsIn K mainGlobals "isinstance" = some none)(z9:PySem.W.nsIn K mainGlobals "range" = some none)(z10:PySem.W.nsIn K mainGlobals "str" = some none)(z11:PySem.W.nsIn K mainGlobals "dict" = some none)(z12:PySem.W.nsIn K mainGlobals "sum" = some none)(z13:PySem.W.nsIn K mainGlobals "all" = some none)(z14:PySem.W.nsIn K mainGlobals "zip" = some none)(z15:PySem.W.nsIn K mainGlobals "enumerate" = some none)(z16:PySem.W.nsIn K mainGlobals "sorted" = some none):∀nm∈zm,PySem.W.nsIn K mainGlobals nm=some none:=by
 unfold zm
 simp only[List.forall_mem_cons]
 exact ⟨z0,z1,z2,z3,z4,z5,z6,z7,z8,z9,z10,z11,z12,z13,z14,z15,z16,fun _ q=>(List.not_mem_nil q).elim⟩
theorem dk {K:PySem.W.Frag}{h:Heap}{mg:Str->Option Value}(X:K.In h)(G:h.Ns mainGlobals mg){d:Dfn}{a:Addr}{od an:Option Addr}{sl:Array (Option Value)}{oc kV dc pm cd ct:Value}(g:PySem.W.nsIn K mainGlobals d.nm=some (some (.ref a)))
  (l:K.lookup a=some ⟨oc,od,.func (PySem.W.fnOf d.on d.on (xC d.st) (yQ d.st) (zI d.st) .none kV dc pm an cd ct),sl⟩) (c:PySem.W.codeIn K cd d.on=true) (k:PySem.W.keepIn K (.ref a)=true):zZ K mg d:=⟨a,_,zfj l c k,PySem.W.mg_of X G g⟩
theorem mk {K:PySem.W.Frag}{h:Heap}{mg:Str->Option Value}(X:K.In h)(G:h.Ns mainGlobals mg){t0:Tok}
  (h0:zZ K mg d0) (h1:zZ K mg d1) (h2:zZ K mg d2) (h3:zZ K mg d3) (h4:zZ K mg d4) (h5:zZ K mg d5) (h6:zZ K mg d6) (h7:zZ K mg d7) (h8:zZ K mg d8) (h9:zZ K mg d9) (h10:zZ K mg d10) (h11:zZ K mg d11) (h12:zZ K mg d12) (h13:zZ K mg d13) (h14:zZ K mg d14) (h15:zZ K mg d15)
  (e0:PySem.W.nsIn K mainGlobals "GREATEST_WALKED" = some (some (.int 5 t0)))
  (z:∀nm∈zm,PySem.W.nsIn K mainGlobals nm=some none)
  : (∀e∈D,zZ K mg e)/\(∀ (nm:Str) (i:Int),C.cons.lookup nm=some i->∃t,mg nm=some (.int i t))/\∀nm∈zm,mg nm=none:=by
 refine ⟨fun d hd=>?_,fun nm i hi=>?_,fun nm hn=>?_⟩
 .unfold D at hd
  rcases List.mem_cons.mp hd with rfl | hd
  .exact h0
  rcases List.mem_cons.mp hd with rfl | hd
  .exact h1
  rcases List.mem_cons.mp hd with rfl | hd
  .exact h2
  rcases List.mem_cons.mp hd with rfl | hd
  .exact h3
  rcases List.mem_cons.mp hd with rfl | hd
  .exact h4
  rcases List.mem_cons.mp hd with rfl | hd
  .exact h5
  rcases List.mem_cons.mp hd with rfl | hd
  .exact h6
  rcases List.mem_cons.mp hd with rfl | hd
  .exact h7
  rcases List.mem_cons.mp hd with rfl | hd
  .exact h8
  rcases List.mem_cons.mp hd with rfl | hd
  .exact h9
  rcases List.mem_cons.mp hd with rfl | hd
  .exact h10
  rcases List.mem_cons.mp hd with rfl | hd
  .exact h11
  rcases List.mem_cons.mp hd with rfl | hd
  .exact h12
  rcases List.mem_cons.mp hd with rfl | hd
  .exact h13
  rcases List.mem_cons.mp hd with rfl | hd
  .exact h14
  rcases List.mem_cons.mp hd with rfl | hd
  .exact h15
  .cases hd
 .unfold C at hi
  rw[List.lookup_cons] at hi
  cases q0:nm == ("GREATEST_WALKED" : Str) with
  | true =>
   rw[q0] at hi;cases hi
   rw[beq_iff_eq.mp q0]
   exact ⟨t0,PySem.W.mg_of X G e0⟩
  | false =>
  rw[q0] at hi
  cases hi
 .exact PySem.W.mg_none_of X G (z nm hn)
end R66
namespace Mini
namespace Vl
set_option genInjectivity false in
inductive Dat where
 | non | bl (b:Bool) | int (i:Int) | str (s:List Nat) | tup (xs:List Dat) | lst (xs:List Dat) | scr (ns:List Int)
deriving Inhabited
inductive Lv where | no | top | full
deriving DecidableEq,Inhabited
abbrev DEn:=List (Option Dat)
inductive Rd where | ok (d:Dat) | exc (c:Nat) (d:Dat) | no
deriving Inhabited
noncomputable def Rd.bind (r:Rd)(f:Dat->Rd):Rd:=match r with
 | .ok d=>f d
 | .exc c d=>.exc c d
 | .no=>.no
mutual
noncomputable def flat:Dat->Bool
 | .lst _=>false
 | .tup xs=>flatL xs
 | .non=>true
 | .bl _=>true
 | .int _=>true
 | .str _=>true
 | .scr _=>true
noncomputable def flatL:List Dat->Bool
 | []=>true
 | d::ds=>flat d && flatL ds
end
mutual
noncomputable def yD:Nat->Dat->Bool
 | 0,_=>false
 | _+1,.scr _=>false
 | k+1,.tup xs=>eqOkL k xs
 | k+1,.lst xs=>eqOkL k xs
 | _+1,.non=>true
 | _+1,.bl _=>true
 | _+1,.int _=>true
 | _+1,.str _=>true
noncomputable def eqOkL:Nat->List Dat->Bool
 | _,[]=>true
 | k,d::ds=>yD k d && eqOkL k ds
end
mutual
noncomputable def deq:Dat->Dat->Bool
 | .tup a,.tup b=>deqL a b
 | .lst a,.lst b=>deqL a b
 | .non,.non=>true
 | .bl a,.bl b=>a == b
 | .int a,.int b=>decide (a=b)
 | .bl a,.int b=>decide (b2i a=b)
 | .int a,.bl b=>decide (a=b2i b)
 | .str a,.str b=>decide (a=b)
 | _,_=>false
noncomputable def deqL:List Dat->List Dat->Bool
 | [],[]=>true
 | x::xs,y::ys=>deq x y && deqL xs ys
 | _,_=>false
end
noncomputable def y8:Dat->Option (List Dat)
 | .tup xs=>some xs
 | .lst xs=>some xs
 | .scr ns=>some (ns.map .int)
 | _=>none
noncomputable def lsD:Dat->Option (List Dat)
 | .lst xs=>some xs
 | .scr ns=>some (ns.map .int)
 | _=>none
noncomputable def zQ (xs:List Dat):Rd:=if xs.length<=lim then .ok (.lst xs) else .no
noncomputable def yw (op:Bo)(x y:Dat):Rd:=match x,y with
 | .int i,.int j=>match op with
  | .add=>.ok (.int (i+j))
  | .sub=>.ok (.int (i - j))
  | .mul=>if xk i || xk j then .ok (.int (i * j)) else .no
  | .fdiv=>if 0 < j/\j < 1073741824 then .ok (.int (i / j)) else .no
  | .mod=>if 0 < j then .ok (.int (i % j)) else .no
  | .pow=>if 0<=j/\j<=1000000/\xk i=true then .ok (.int (i ^ j.toNat)) else .no
  | .shr=>if 0<=j/\j<=1000 then .ok (.int (i / 2 ^ j.toNat)) else .no
  | .band=>if 0<=i/\j=1 then .ok (.int (i % 2)) else .no
 | .lst xs,.lst ys=>match op with
  | .add=>zQ (xs++ys)
  | _=>.no
 | .lst xs,.int k=>match op with
  | .mul=>if -lim<=k/\k<=lim then zQ (List.replicate k.toNat xs).flatten else .no
  | _=>.no
 | .tup xs,.tup ys=>match op with
  | .add=>if xs.length+ys.length<=lim/\xs.isEmpty=false then .ok (.tup (xs++ys)) else .no
  | _=>.no
 | _,_=>.no
noncomputable def eqD (x y:Dat):Option Bool:=if yD zW x && yD zW y then some (deq x y) else none
noncomputable def inD (x:Dat)(ys:List Dat):Option Bool:=if yD zW x && eqOkL zW ys then some (ys.any fun y=>deq y x) else none
noncomputable def za9:Option Bool->Rd
 | some b=>.ok (.bl b)
 | none=>.no
noncomputable def zcm (r:Int->Int->Bool)(x y:Dat):Rd:=match x,y with
 | .int i,.int j=>.ok (.bl (r i j))
 | _,_=>.no
noncomputable def yL (op:Co)(x y:Dat):Rd:=match op with
 | .eq=>za9 (eqD x y)
 | .ne=>za9 ((eqD x y).map (!·))
 | .isN=>match y,x with
  | .non,.non=>.ok (.bl true)
  | .non,_=>.ok (.bl false)
  | _,_=>.no
 | .notN=>match y,x with
  | .non,.non=>.ok (.bl false)
  | .non,_=>.ok (.bl true)
  | _,_=>.no
 | .isin=>match y8 y with
  | some ys=>za9 (inD x ys)
  | none=>.no
 | .notin=>match y8 y with
  | some ys=>za9 ((inD x ys).map (!·))
  | none=>.no
 | .lt=>zcm (fun i j=>decide (i < j)) x y
 | .le=>zcm (fun i j=>decide (i<=j)) x y
 | .gt=>zcm (fun i j=>decide (j < i)) x y
 | .ge=>zcm (fun i j=>decide (j<=i)) x y
noncomputable def isD (t:Tg)(x:Dat):Bool:=match t with
 | .int=>match x with
  | .int _=>true
  | .bl _=>true
  | _=>false
 | .bool=>match x with
  | .bl _=>true
  | _=>false
 | .str=>match x with
  | .str _=>true
  | _=>false
 | .tuple=>match x with
  | .tup _=>true
  | _=>false
 | .list=>match x with
  | .scr _=>true
  | .lst _=>true
  | _=>false
 | .dict=>false
noncomputable def jr:List Dat->Option Int
 | []=>some 0
 | .int i::r=>(jr r).map (i+·)
 | _=>none
noncomputable def js:List Dat->Option Bool
 | []=>some true
 | .bl b::r=>(js r).map (b && ·)
 | _=>none
noncomputable def zP:List Dat->Option (List Int)
 | []=>some []
 | .int i::r=>(zP r).map (i::·)
 | _=>none
noncomputable def gs:List Dat->Option (List (List Int))
 | []=>some []
 | .lst xs::r=>match zP xs,gs r with
  | some k,some ks=>some (k::ks)
  | _,_=>none
 | _=>none
noncomputable def qv (xs:List Dat):Option (List Int):=match zP xs with
 | some k=>some (0::k)
 | none=>(gs xs).bind qV
noncomputable def yB:List Dat->Option (List (List Int))
 | []=>some []
 | .lst xs::r=>match qv xs,yB r with
  | some k,some ks=>some (k::ks)
  | _,_=>none
 | _=>none
noncomputable def qw:List Dat->Option (List (Dat×Dat))
 | []=>some []
 | .tup [x,y]::r=>(qw r).map ((x,y)::·)
 | _=>none
noncomputable def yq (b:Blf)(ws:List Dat):Rd:=match b with
 | .sorted=>match ws with
  | [.lst ds]=>match (yB ds).bind fun ks=>yo Dat ks ds with
   | some es=>zQ es
   | none=>.no
  | _=>.no
 | .minS=>match ws with
  | [x]=>match (lsD x).bind zP with
   | some (i::r)=>.ok (.int (y1 i r))
   | _=>.no
  | _=>.no
 | .maxS=>match ws with
  | [x]=>match (lsD x).bind zP with
   | some (i::r)=>.ok (.int (xb i r))
   | _=>.no
  | _=>.no
 | .len=>match ws with
  | [x]=>match y8 x with
   | some xs=>.ok (.int xs.length)
   | none=>.no
  | _=>.no
 | .int=>match ws with
  | [.int i]=>.ok (.int i)
  | [.bl b]=>.ok (.int (b2i b))
  | _=>.no
 | .list=>match ws with
  | [x]=>match y8 x with
   | some xs=>zQ xs
   | none=>.no
  | _=>.no
 | .tuple=>.no
 | .sum=>match ws with
  | [x]=>match (lsD x).bind jr with
   | some i=>.ok (.int i)
   | none=>.no
  | _=>.no
 | .all=>match ws with
  | [x]=>match (lsD x).bind js with
   | some i=>.ok (.bl i)
   | none=>.no
  | _=>.no
 | .abs=>.no
 | .max2=>match ws with
  | [.int i,.int j]=>.ok (.int (if j > i then j else i))
  | _=>.no
 | .min2=>match ws with
  | [.int i,.int j]=>.ok (.int (if j < i then j else i))
  | _=>.no
 | _=>.no
noncomputable def yV (x y:Dat):Rd:=match y with
 | .int i=>match y8 x with
  | some xs=>match (ix xs.length i).bind fun j=>xs[j]? with
   | some v=>.ok v
   | none=>.no
  | none=>.no
 | _=>.no
noncomputable def slD (x:Dat)(lo hi:Option Int):Rd:=match lsD x with
 | some xs=>zQ ((xs.drop (sIx xs.length 0 lo)).take (sIx xs.length xs.length hi - sIx xs.length 0 lo))
 | none=>.no
noncomputable def yc (lo st:Int)(n:Nat):List Dat:=(List.range n).map fun (i:Nat)=>.int (lo+st * (i:Int))
noncomputable def gu (a b c:Dat):Rd:=match a,b,c with
 | .int a,.int b,.int c=>if -lim<=a/\a<=lim/\-lim<=b/\b<=lim/\(c=1\/c=-1) then .ok (.tup (yc a c (za4 a b c))) else .no
 | _,_,_=>.no
noncomputable def zG {α:Type}(c e:α->Rd):List α->List Dat->Rd
 | [],acc=>zQ acc
 | x::xs,acc=>(c x).bind fun b=>match b with
  | .bl true=>(e x).bind fun y=>if acc.length < lim then zG c e xs (acc++[y]) else .no
  | .bl false=>zG c e xs acc
  | _=>.no
noncomputable def itD (d:Dat):Option (List Dat):=match d with
 | .tup xs=>some xs
 | .scr ns=>some (ns.map .int)
 | .lst xs=>if xs.length<=lim then some xs else none
 | _=>none
noncomputable def xh (k:Kd)(x y:Dat):Option (List (Dat×Dat)):=match k,x,y with
 | .zip,.lst xs,.lst ys=>if xs.length<=lim/\ys.length<=lim then some (xs.zip ys) else none
 | .enum,.lst xs,.int s=>if xs.length<=lim then some ((yc s 1 xs.length).zip xs) else none
 | .prs,.lst xs,.int _=>if xs.length<=lim then qw xs else none
 | _,_,_=>none
noncomputable def zy:Dat->List Dat
 | .tup xs=>xs
 | _=>[]
noncomputable def litD:Wd->Option Dat
 | .non=>some .non
 | .bl b=>some (.bl b)
 | .int i=>some (.int i)
 | .str s=>some (.str s)
 | _=>none
noncomputable def evD (cl:Nat->List Dat->Rd):Ex->DEn->Rd
 | .var i,de=>match de[i]? with
  | some (some d)=>.ok d
  | _=>.no
 | .lit w,_=>match litD w with
  | some d=>.ok d
  | none=>.no
 | .bin op a b,de=>(evD cl a de).bind fun x=>(evD cl b de).bind fun y=>yw op x y
 | .neg a,de=>(evD cl a de).bind fun x=>match x with
  | .int i=>.ok (.int (-i))
  | _=>.no
 | .not a,de=>(evD cl a de).bind fun x=>match x with
  | .bl b=>.ok (.bl (!b))
  | _=>.no
 | .and a b,de=>(evD cl a de).bind fun x=>match x with
  | .bl true=>evD cl b de
  | .bl false=>.ok (.bl false)
  | _=>.no
 | .or a b,de=>(evD cl a de).bind fun x=>match x with
  | .bl false=>evD cl b de
  | .bl true=>.ok (.bl true)
  | _=>.no
 | .cmp op a b,de=>(evD cl a de).bind fun x=>(evD cl b de).bind fun y=>yL op x y
 | .chain p q a b c,de=>(evD cl a de).bind fun x=>(evD cl b de).bind fun y=>(yL p x y).bind fun z=>match z with
  | .bl true=>(evD cl c de).bind fun u=>yL q y u
  | .bl false=>.ok (.bl false)
  | _=>.no
 | .ife _ _ _,_=>.no
 | .unit,_=>.ok (.tup [])
 | .pair a b,de=>(evD cl a de).bind fun x=>(evD cl b de).bind fun y=>.ok (.tup (x::zy y))
 | .call k a,de=>(evD cl a de).bind fun x=>cl k (zy x)
 | .blt b a,de=>(evD cl a de).bind fun x=>yq b (zy x)
 | .isi t a,de=>(evD cl a de).bind fun x=>.ok (.bl (isD t x))
 | .lst a,de=>(evD cl a de).bind fun x=>zQ (zy x)
 | .tup a,de=>(evD cl a de).bind fun x=>if (zy x).length<=lim then .ok (.tup (zy x)) else .no
 | .dict0,_=>.no
 | .idx a b,de=>(evD cl a de).bind fun x=>(evD cl b de).bind fun y=>yV x y
 | .slL _ _,_=>.no
 | .slH _ _,_=>.no
 | .slB _ _ _,_=>.no
 | .meth _ _ _,_=>.no
 | .rng a b c,de=>(evD cl a de).bind fun x=>(evD cl b de).bind fun y=>(evD cl c de).bind fun z=>gu x y z
 | .comp elt it cond,de=>(evD cl it de).bind fun x=>match itD x with
  | some xs=>zG (fun x=>evD cl cond (de++[some x])) (fun x=>evD cl elt (de++[some x])) xs []
  | none=>.no
 | .compP k elt a b cond,de=>(evD cl a de).bind fun x=>(evD cl b de).bind fun y=>match xh k x y with
  | some ps=>zG (fun p=>evD cl cond (de++[some p.1]++[some p.2])) (fun p=>evD cl elt (de++[some p.1]++[some p.2])) ps []
  | none=>.no
 | .lrng a,de=>(evD cl a de).bind fun x=>match x with
  | .int j=>if -lim<=j/\j<=lim then zQ (yc 0 1 j.toNat) else .no
  | _=>.no
theorem vW {cl:Nat->List Wd->Me->Rz}{i:Nat}{env:En}{w:Wd}(h:env[i]?=some (some w))(m:Me):evE cl (.var i) env m=.ok w m:=by
 show (match env[i]? with | some (some w)=>Rz.ok w m | _=>.no)=_
 rw[h]
theorem y9 {cl:Nat->List Dat->Rd}{i:Nat}{de:DEn}{d:Dat}(h:de[i]?=some (some d)):evD cl (.var i) de=.ok d:=by
 show (match de[i]? with | some (some d)=>Rd.ok d | _=>.no)=_
 rw[h]
theorem yr {cl:Nat->List Dat->Rd}{i:Nat}{de:DEn}(h:de[i]?=none\/de[i]?=some none):evD cl (.var i) de=.no:=by
 show (match de[i]? with | some (some d)=>Rd.ok d | _=>.no)=_
 rcases h with h | h <;> rw[h]
theorem vk {cl:Nat->List Dat->Rd}{i:Nat}{de:DEn}{d:Dat}(h:evD cl (.var i) de=.ok d):de[i]?=some (some d):=by
 cases z:de[i]? with
 | none=>rw[yr (.inl z)] at h;cases h
 | some o =>
  cases o with
  | none=>rw[yr (.inr z)] at h;cases h
  | some e=>rw[y9 z] at h;cases h;rfl
mutual
noncomputable def Rep (R:Nat->Prop)(m:Me):Dat->Wd->Prop
 | .non,w=>w=.non
 | .bl b,w=>w=.bl b
 | .int i,w=>w=.int i
 | .str s,w=>w=.str s
 | .scr ns,w=>w=.rol (ns.map Wd.int)
 | .tup ds,w=>∃xs,w=.tup xs/\RepL R m ds xs
 | .lst ds,w=>∃l xs,w=.ref l/\R l/\m[l]?=some (.lst xs)/\RepL R m ds xs
noncomputable def RepL (R:Nat->Prop)(m:Me):List Dat->List Wd->Prop
 | [],xs=>xs=[]
 | d::ds,xs=>∃x r,xs=x::r/\Rep R m d x/\RepL R m ds r
end
def Le (m m':Me):Prop:=∀ (l:Nat) o,m[l]?=some o->m'[l]?=some o
theorem Le.refl (m:Me):Le m m:=fun _ _ h=>h
theorem Le.trans {a b c:Me}(h:Le a b)(k:Le b c):Le a c:=fun l o z=>k l o (h l o z)
theorem Le.app (m x:Me):Le m (m++x):=fun l o z=>by
 obtain ⟨hl,_⟩:=List.getElem?_eq_some_iff.mp z
 rw[List.getElem?_append_left hl];exact z
theorem Le.len {a b:Me}(h:Le a b):a.length<=b.length:=by
 rcases Nat.lt_or_ge b.length a.length with z | z
 .have:=h b.length a[b.length] (List.getElem?_eq_getElem z)
  have:=(List.getElem?_eq_some_iff.mp this).1
  lia
 .exact z
def Rf (R:Nat->Prop)(n:Nat):Nat->Prop:=fun l=>R l\/n<=l
mutual
theorem Rep.frame {R R':Nat->Prop}{m m':Me}(h:∀ (l:Nat) o,R l->m[l]?=some o->R' l/\m'[l]?=some o):∀ (d:Dat) (w:Wd),Rep R m d w->Rep R' m' d w
 | .non,w,q=>by unfold Rep at q ⊢;exact q
 | .bl b,w,q=>by unfold Rep at q ⊢;exact q
 | .int b,w,q=>by unfold Rep at q ⊢;exact q
 | .str b,w,q=>by unfold Rep at q ⊢;exact q
 | .scr b,w,q=>by unfold Rep at q ⊢;exact q
 | .tup ds,w,q=>by
  unfold Rep at q ⊢
  obtain ⟨xs,rfl,q⟩:=q
  exact ⟨xs,rfl,RepL.frame h ds xs q⟩
 | .lst ds,w,q=>by
  unfold Rep at q ⊢
  obtain ⟨l,xs,rfl,r,z,q⟩:=q
  exact ⟨l,xs,rfl,(h l _ r z).1,(h l _ r z).2,RepL.frame h ds xs q⟩
theorem RepL.frame {R R':Nat->Prop}{m m':Me}(h:∀ (l:Nat) o,R l->m[l]?=some o->R' l/\m'[l]?=some o):∀ (ds:List Dat) (xs:List Wd),RepL R m ds xs->RepL R' m' ds xs
 | [],xs,q=>by unfold RepL at q ⊢;exact q
 | d::ds,xs,q=>by
  unfold RepL at q ⊢
  obtain ⟨x,r,rfl,a,b⟩:=q
  exact ⟨x,r,rfl,Rep.frame h d x a,RepL.frame h ds r b⟩
end
theorem Rep.up {R:Nat->Prop}{m m':Me}{d:Dat}{w:Wd}(n:Nat)(h:Le m m')(q:Rep R m d w):Rep (Rf R n) m' d w :=
 Rep.frame (fun l o r z=>⟨.inl r,h l o z⟩) d w q
theorem RepL.up {R:Nat->Prop}{m m':Me}{d:List Dat}{w:List Wd}(n:Nat)(h:Le m m')(q:RepL R m d w):RepL (Rf R n) m' d w :=
 RepL.frame (fun l o r z=>⟨.inl r,h l o z⟩) d w q
theorem repL_iff {R:Nat->Prop}{m:Me}:∀ {ds:List Dat}{xs:List Wd},RepL R m ds xs↔ds.length=xs.length/\∀ (i:Nat) d x,ds[i]?=some d->xs[i]?=some x->Rep R m d x
 | [],xs=>by
  unfold RepL
  constructor
  .rintro rfl;exact ⟨rfl,by simp⟩
  .rintro ⟨h,_⟩;exact List.eq_nil_of_length_eq_zero h.symm
 | d::ds,xs=>by
  unfold RepL
  constructor
  .rintro ⟨x,r,rfl,a,b⟩
   obtain ⟨hl,hb⟩:=repL_iff.mp b
   refine ⟨by simp[hl],fun i e y h1 h2=>?_⟩
   cases i with
   | zero=>simp at h1 h2;subst h1;subst h2;exact a
   | succ i=>simp at h1 h2;exact hb i e y h1 h2
  .rintro ⟨hl,h⟩
   cases xs with
   | nil=>cases hl
   | cons x r =>
    refine ⟨x,r,rfl,h 0 d x rfl rfl,repL_iff.mpr ⟨by simpa using hl,fun i e y h1 h2=>h (i+1) e y (by simpa using h1) (by simpa using h2)⟩⟩
theorem RepL.len {R:Nat->Prop}{m:Me}{ds:List Dat}{xs:List Wd}(h:RepL R m ds xs):ds.length=xs.length:=(repL_iff.mp h).1
theorem RepL.get {R:Nat->Prop}{m:Me}{ds:List Dat}{xs:List Wd}(h:RepL R m ds xs){i:Nat}{d:Dat}(z:ds[i]?=some d):∃x,xs[i]?=some x/\Rep R m d x:=by
 obtain ⟨hl,h⟩:=repL_iff.mp h
 obtain ⟨hi,_⟩:=List.getElem?_eq_some_iff.mp z
 exact ⟨xs[i],List.getElem?_eq_getElem (by lia),h i d _ z (List.getElem?_eq_getElem (by lia))⟩
theorem RepL.nil {R:Nat->Prop}{m:Me}:RepL R m [] []:=by unfold RepL;rfl
theorem RepL.cons {R:Nat->Prop}{m:Me}{d:Dat}{x:Wd}{ds:List Dat}{xs:List Wd}(a:Rep R m d x)(b:RepL R m ds xs):RepL R m (d::ds) (x::xs):=by
 unfold RepL;exact ⟨x,xs,rfl,a,b⟩
theorem RepL.cons_inv {R:Nat->Prop}{m:Me}{d:Dat}{ds:List Dat}{xs:List Wd}(h:RepL R m (d::ds) xs):∃x r,xs=x::r/\Rep R m d x/\RepL R m ds r:=by
 unfold RepL at h;exact h
theorem RepL.nil_inv {R:Nat->Prop}{m:Me}{xs:List Wd}(h:RepL R m [] xs):xs=[]:=by unfold RepL at h;exact h
theorem RepL.app {R:Nat->Prop}{m:Me}:∀ {ds es:List Dat}{xs ys:List Wd},RepL R m ds xs->RepL R m es ys->RepL R m (ds++es) (xs++ys)
 | [],es,xs,ys,a,b=>by rw[a.nil_inv];exact b
 | d::ds,es,xs,ys,a,b=>by
  obtain ⟨x,r,rfl,p,q⟩:=a.cons_inv
  exact .cons p (RepL.app q b)
theorem RepL.drop {R:Nat->Prop}{m:Me}(n:Nat){ds:List Dat}{xs:List Wd}(h:RepL R m ds xs):RepL R m (ds.drop n) (xs.drop n):=by
 obtain ⟨hl,h⟩:=repL_iff.mp h
 refine repL_iff.mpr ⟨by simp[hl],fun i d x a b=>h (n+i) d x (by simpa using a) (by simpa using b)⟩
set_option tactic.hygienic true in
theorem RepL.take {R:Nat->Prop}{m:Me}(n:Nat){ds:List Dat}{xs:List Wd}(h:RepL R m ds xs):RepL R m (ds.take n) (xs.take n):=by
 obtain ⟨hl,h⟩:=repL_iff.mp h
 refine repL_iff.mpr ⟨by simp[hl],fun i d x a b=>?_⟩
 rw[List.getElem?_take] at a b
 split at a
 .next z=>rw[if_pos z] at b;exact h i d x a b
 .cases a
theorem RepL.rev {R:Nat->Prop}{m:Me}:∀ {ds:List Dat}{xs:List Wd},RepL R m ds xs->RepL R m ds.reverse xs.reverse
 | [],xs,a=>by rw[a.nil_inv];exact .nil
 | d::ds,xs,a=>by
  obtain ⟨x,r,rfl,p,q⟩:=a.cons_inv
  rw[List.reverse_cons,List.reverse_cons]
  exact RepL.app (RepL.rev q) (.cons p .nil)
theorem RepL.set {R:Nat->Prop}{m:Me}{ds:List Dat}{xs:List Wd}(h:RepL R m ds xs)(j:Nat){d:Dat}{x:Wd}(z:Rep R m d x):RepL R m (ds.set j d) (xs.set j x):=by
 obtain ⟨hl,h⟩:=repL_iff.mp h
 refine repL_iff.mpr ⟨by simp[hl],fun i e y a b=>?_⟩
 rw[List.getElem?_set] at a b
 by_cases q:j=i
 .rw[if_pos q] at a b
  split at a
  .split at b
   .cases a;cases b;exact z
   .cases b
  .cases a
 .rw[if_neg q] at a b;exact h i e y a b
theorem RepL.rep {R:Nat->Prop}{m:Me}{ds:List Dat}{xs:List Wd}(h:RepL R m ds xs):∀k:Nat,RepL R m (List.replicate k ds).flatten (List.replicate k xs).flatten
 | 0=>.nil
 | k+1=>by
  rw[List.replicate_succ,List.replicate_succ,List.flatten_cons,List.flatten_cons]
  exact RepL.app h (RepL.rep h k)
theorem ziE {R:Nat->Prop}{m:Me}:∀ (l:List Int),RepL R m (l.map Dat.int) (l.map Wd.int)
 | []=>.nil
 | i::l=>.cons (by unfold Rep;rfl) (ziE l)
theorem rep_int {R:Nat->Prop}{m:Me}{i:Int}{w:Wd}:Rep R m (.int i) w↔w=.int i:=by unfold Rep;exact Iff.rfl
theorem rep_bl {R:Nat->Prop}{m:Me}{i:Bool}{w:Wd}:Rep R m (.bl i) w↔w=.bl i:=by unfold Rep;exact Iff.rfl
theorem rep_non {R:Nat->Prop}{m:Me}{w:Wd}:Rep R m .non w↔w=.non:=by unfold Rep;exact Iff.rfl
theorem rep_str {R:Nat->Prop}{m:Me}{s:List Nat}{w:Wd}:Rep R m (.str s) w↔w=.str s:=by unfold Rep;exact Iff.rfl
theorem rep_scr {R:Nat->Prop}{m:Me}{s:List Int}{w:Wd}:Rep R m (.scr s) w↔w=.rol (s.map Wd.int):=by unfold Rep;exact Iff.rfl
theorem rep_tup {R:Nat->Prop}{m:Me}{ds:List Dat}{w:Wd}:Rep R m (.tup ds) w↔∃xs,w=.tup xs/\RepL R m ds xs:=by
 constructor
 .intro h;unfold Rep at h;exact h
 .intro h;unfold Rep;exact h
theorem rep_lst {R:Nat->Prop}{m:Me}{ds:List Dat}{w:Wd}:Rep R m (.lst ds) w↔∃l xs,w=.ref l/\R l/\m[l]?=some (.lst xs)/\RepL R m ds xs:=by
 constructor
 .intro h;unfold Rep at h;exact h
 .intro h;unfold Rep;exact h
def SimE (R:Nat->Prop)(m:Me)(r:Rz)(rd:Rd):Prop:=match rd with
 | .ok d=>∃w m',r=.ok w m'/\Le m m'/\Rep (Rf R m.length) m' d w
 | .exc c d=>∃w m',r=.exc c w m'/\Le m m'/\Rep (Rf R m.length) m' d w
 | .no=>True
theorem SimE.lift {R:Nat->Prop}{m m1:Me}{r:Rz}{rd:Rd}(h:Le m m1)(q:SimE (Rf R m.length) m1 r rd):SimE R m r rd:=by
 have hl:=h.len
 have fr:∀ (m':Me) (d:Dat) (w:Wd),Rep (Rf (Rf R m.length) m1.length) m' d w->Rep (Rf R m.length) m' d w:=fun m' d w=>Rep.frame (fun l o z k=>⟨by rcases z with (z | z) | z;exact .inl z;exact .inr z;exact .inr (by lia),k⟩) d w
 cases rd with
 | ok d=>obtain ⟨w,m',rfl,k,z⟩:=q;exact ⟨w,m',rfl,h.trans k,fr _ _ _ z⟩
 | exc c d=>obtain ⟨w,m',rfl,k,z⟩:=q;exact ⟨w,m',rfl,h.trans k,fr _ _ _ z⟩
 | no=>trivial
theorem SimE.bind {R:Nat->Prop}{m:Me}{r:Rz}{rd:Rd}{f:Wd->Me->Rz}{g:Dat->Rd}(h:SimE R m r rd)
  (k:∀d w m',Le m m'->Rep (Rf R m.length) m' d w->SimE (Rf R m.length) m' (f w m') (g d)):SimE R m (r.bind f) (rd.bind g):=by
 cases rd with
 | ok d=>obtain ⟨w,m',rfl,l,z⟩:=h;exact SimE.lift l (k d w m' l z)
 | exc c d=>obtain ⟨w,m',rfl,l,z⟩:=h;exact ⟨w,m',rfl,l,z⟩
 | no=>trivial
theorem ziC {R:Nat->Prop}{m:Me}{d:Dat}{w:Wd}(h:Rep R m d w):SimE R m (.ok w m) (.ok d) :=
 ⟨w,m,rfl,Le.refl m,h.up _ (Le.refl m)⟩
theorem SimE.no {R:Nat->Prop}{m:Me}{r:Rz}:SimE R m r .no:=trivial
theorem SimE.new {R:Nat->Prop}{m:Me}{ds:List Dat}{xs:List Wd}(h:RepL R m ds xs):SimE R m (alloc m xs) (zQ ds):=by
 unfold zQ alloc
 rw[h.len]
 by_cases z:xs.length<=lim
 .rw[if_pos z,if_pos z]
  exact ⟨_,_,rfl,Le.app m _,rep_lst.mpr ⟨_,xs,rfl,.inr (Nat.le_refl _),by simp,h.up _ (Le.app m _)⟩⟩
 .rw[if_neg z,if_neg z];exact SimE.no
theorem xF {R:Nat->Prop}{m:Me}{d:Dat}{w:Wd}{ds:List Dat}(h:Rep R m d w)(z:y8 d=some ds):∃xs,yx m w=some xs/\RepL R m ds xs:=by
 cases d with
 | tup es=>obtain ⟨xs,rfl,q⟩:=rep_tup.mp h;cases z;exact ⟨xs,rfl,q⟩
 | lst es =>
  obtain ⟨l,xs,rfl,_,e,q⟩:=rep_lst.mp h;cases z
  exact ⟨xs,by show zf m l=_;unfold zf;rw[e],q⟩
 | scr ns=>rw[rep_scr.mp h];cases z;exact ⟨_,rfl,ziE ns⟩
 | _=>cases z
theorem jt {R:Nat->Prop}{m:Me}{d:Dat}{w:Wd}{ds:List Dat}(h:Rep R m d w)(z:lsD d=some ds):∃xs,wC m w=some xs/\RepL R m ds xs:=by
 cases d with
 | lst es =>
  obtain ⟨l,xs,rfl,_,e,q⟩:=rep_lst.mp h;cases z
  exact ⟨xs,by show zf m l=_;unfold zf;rw[e],q⟩
 | scr ns=>rw[rep_scr.mp h];cases z;exact ⟨_,rfl,ziE ns⟩
 | _=>cases z
theorem gv:∀ {a b:List Int},a.map Wd.int=b.map Wd.int->a=b
 | [],[],_=>rfl
 | [],_::_,h=>by cases h
 | _::_,[],h=>by cases h
 | x::a,y::b,h=>by
  simp only[List.map_cons,List.cons.injEq,Wd.int.injEq] at h
  rw[h.1,gv h.2]
mutual
theorem Rep.det {R R':Nat->Prop}{m:Me}:∀ (d e:Dat) (w:Wd),Rep R m d w->Rep R' m e w->d=e
 | .non,e,w,q,z=>by rw[rep_non.mp q] at z;cases e <;> unfold Rep at z <;> first | rfl | (exfalso;simp at z)
 | .bl b,e,w,q,z=>by rw[rep_bl.mp q] at z;cases e <;> unfold Rep at z <;> first | (injection z with z;rw[z]) | (exfalso;simp at z)
 | .int b,e,w,q,z=>by rw[rep_int.mp q] at z;cases e <;> unfold Rep at z <;> first | (injection z with z;rw[z]) | (exfalso;simp at z)
 | .str b,e,w,q,z=>by rw[rep_str.mp q] at z;cases e <;> unfold Rep at z <;> first | (injection z with z;rw[z]) | (exfalso;simp at z)
 | .scr b,e,w,q,z=>by rw[rep_scr.mp q] at z;cases e <;> unfold Rep at z <;> first | (injection z with z;rw[gv z]) | (exfalso;simp at z)
 | .tup ds,e,w,q,z=>by
  obtain ⟨xs,rfl,q1⟩:=rep_tup.mp q
  cases e with
  | tup es=>obtain ⟨ys,e,z1⟩:=rep_tup.mp z;cases e;rw[RepL.det ds es xs q1 z1]
  | _=>exfalso;unfold Rep at z;simp at z
 | .lst ds,e,w,q,z=>by
  obtain ⟨l,xs,rfl,_,hm,q1⟩:=rep_lst.mp q
  cases e with
  | lst es=>obtain ⟨l',ys,e,_,hn,z1⟩:=rep_lst.mp z;cases e;rw[hm] at hn;cases hn;rw[RepL.det ds es xs q1 z1]
  | _=>exfalso;unfold Rep at z;simp at z
theorem RepL.det {R R':Nat->Prop}{m:Me}:∀ (ds es:List Dat) (xs:List Wd),RepL R m ds xs->RepL R' m es xs->ds=es
 | [],es,xs,q,z=>by
  rw[q.nil_inv] at z
  cases es with
  | nil=>rfl
  | cons e es=>obtain ⟨_,_,h,_⟩:=z.cons_inv;cases h
 | d::ds,es,xs,q,z=>by
  obtain ⟨x,r,rfl,a,b⟩:=q.cons_inv
  cases es with
  | nil=>cases z.nil_inv
  | cons e es =>
   obtain ⟨_,_,h,a',b'⟩:=z.cons_inv
   cases h
   rw[Rep.det d e x a a',RepL.det ds es r b b']
end
theorem zeA (d:Dat):yD 0 d=false:=by cases d <;> rfl
mutual
theorem gw:∀ (k:Nat) (d:Dat),yD k d=true->deq d d=true
 | 0,d,h=>by rw[zeA] at h;cases h
 | k+1,.non,h=>rfl
 | k+1,.bl b,h=>by show (b == b)=true;simp
 | k+1,.int b,h=>by show decide (b=b)=true;simp
 | k+1,.str b,h=>by show decide (b=b)=true;simp
 | k+1,.scr b,h=>absurd (show false=true from h) (by decide)
 | k+1,.tup ds,h=>deqL_refl k ds h
 | k+1,.lst ds,h=>deqL_refl k ds h
theorem deqL_refl:∀ (k:Nat) (ds:List Dat),eqOkL k ds=true->deqL ds ds=true
 | k,[],h=>rfl
 | k,d::ds,h=>by
  replace h:(yD k d && eqOkL k ds)=true:=h
  show (deq d d && deqL ds ds)=true
  rw[Bool.and_eq_true] at h ⊢
  exact ⟨gw k d h.1,deqL_refl k ds h.2⟩
end
theorem ju {R:Nat->Prop}{m:Me}{k:Nat}(ih:∀ (d e:Dat) (x y:Wd),yD k d=true->yD k e=true->Rep R m d x->Rep R m e y->eqW m k x y=some (deq d e)):
  ∀ (ds es:List Dat) (xs ys:List Wd),eqOkL k ds=true->eqOkL k es=true->RepL R m ds xs->RepL R m es ys->∃q,eqL (eqW m k) xs ys=some q/\(q && decide (xs.length=ys.length))=deqL ds es
 | [],es,xs,ys,h1,h2,a,b=>by
  rw[a.nil_inv]
  cases es with
  | nil=>rw[b.nil_inv];exact ⟨true,rfl,rfl⟩
  | cons e es=>obtain ⟨y,r,rfl,_,_⟩:=b.cons_inv;exact ⟨true,rfl,rfl⟩
 | d::ds,es,xs,ys,h1,h2,a,b=>by
  obtain ⟨x,r,rfl,p,q⟩:=a.cons_inv
  cases es with
  | nil=>rw[b.nil_inv];exact ⟨true,rfl,rfl⟩
  | cons e es =>
   obtain ⟨y,s,rfl,p',q'⟩:=b.cons_inv
   replace h1:(yD k d && eqOkL k ds)=true:=h1
   replace h2:(yD k e && eqOkL k es)=true:=h2
   rw[Bool.and_eq_true] at h1 h2
   obtain ⟨t,ht,hb⟩:=ju ih ds es r s h1.2 h2.2 q q'
   refine ⟨deq d e && t,?_,?_⟩
   .unfold eqL
    rw[ih d e x y h1.1 h2.1 p p',ht]
    rfl
   .show (deq d e && t && decide (r.length+1=s.length+1))=(deq d e && deqL ds es)
    simp only[<- hb,Nat.succ_inj,Bool.and_assoc]
theorem isLst_of {m:Me}{l:Nat}{xs:List Wd}(h:m[l]?=some (.lst xs)):isLst m l=true:=by unfold isLst;rw[h]
theorem ym {m:Me}{l:Nat}{xs:List Wd}(h:m[l]?=some (.lst xs)):(if isLst m l && true then some false else none)=some false:=by rw[isLst_of h];rfl
theorem qx {R:Nat->Prop}{m:Me}:∀ (k:Nat) (d e:Dat) (x y:Wd),yD k d=true->yD k e=true->Rep R m d x->Rep R m e y->eqW m k x y=some (deq d e)
 | 0,d,e,x,y,h,_,_,_=>by rw[zeA] at h;cases h
 | k+1,d,e,x,y,h1,h2,a,b=>by
  have ih:=qx (R:=R) (m:=m) k
  cases d with
  | scr ns=>exact absurd (show false=true from h1) (by decide)
  | tup ds =>
   obtain ⟨xs,rfl,a1⟩:=rep_tup.mp a
   cases e with
   | scr ns=>exact absurd (show false=true from h2) (by decide)
   | tup es =>
    obtain ⟨ys,rfl,b1⟩:=rep_tup.mp b
    obtain ⟨q,h,e⟩:=ju ih ds es xs ys h1 h2 a1 b1
    show (eqL (eqW m k) xs ys).map (· && decide (xs.length=ys.length))=some (deqL ds es)
    rw[h,<- e];rfl
   | lst es =>
    obtain ⟨l,ys,rfl,_,hm,b⟩:=rep_lst.mp b
    exact ym hm
   | non=>rw[rep_non.mp b];rfl
   | bl _=>rw[rep_bl.mp b];rfl
   | int _=>rw[rep_int.mp b];rfl
   | str _=>rw[rep_str.mp b];rfl
  | lst ds =>
   have a0:=a
   obtain ⟨l,xs,rfl,_,hm,a⟩:=rep_lst.mp a
   cases e with
   | scr ns=>exact absurd (show false=true from h2) (by decide)
   | lst es =>
    have b0:=b
    obtain ⟨l',ys,rfl,_,hn,b⟩:=rep_lst.mp b
    show (if l=l' then (if isLst m l then some true else none) else match m[l]?,m[l']? with
     | some (.lst xs),some (.lst ys)=>if xs.length=ys.length then eqL (eqW m k) xs ys else some false
     | _,_=>none)=_
    by_cases q:l=l'
    .subst q
     rw[if_pos rfl,if_pos (isLst_of hm)]
     rw[Rep.det _ _ _ a0 b0] at *
     rw[gw (k+1) _ h2]
    .rw[if_neg q,hm,hn]
     obtain ⟨q,h,e⟩:=ju ih ds es xs ys h1 h2 a b
     show (if xs.length=ys.length then eqL (eqW m k) xs ys else some false)=some (deqL ds es)
     by_cases z:xs.length=ys.length
     .simp only[z,if_true,h,<- e];simp
     .simp only[z,if_false,<- e];simp
   | tup es=>obtain ⟨ys,rfl,b⟩:=rep_tup.mp b;exact ym hm
   | non=>rw[rep_non.mp b];exact ym hm
   | bl _=>rw[rep_bl.mp b];exact ym hm
   | int _=>rw[rep_int.mp b];exact ym hm
   | str _=>rw[rep_str.mp b];exact ym hm
  | non =>
   rw[rep_non.mp a]
   cases e with
   | scr ns=>exact absurd (show false=true from h2) (by decide)
   | lst es=>obtain ⟨l',ys,rfl,_,hn,b⟩:=rep_lst.mp b;exact ym hn
   | tup es=>obtain ⟨ys,rfl,b⟩:=rep_tup.mp b;rfl
   | non=>rw[rep_non.mp b];rfl
   | bl _=>rw[rep_bl.mp b];rfl
   | int _=>rw[rep_int.mp b];rfl
   | str _=>rw[rep_str.mp b];rfl
  | bl _ =>
   rw[rep_bl.mp a]
   cases e with
   | scr ns=>exact absurd (show false=true from h2) (by decide)
   | lst es=>obtain ⟨l',ys,rfl,_,hn,b⟩:=rep_lst.mp b;exact ym hn
   | tup es=>obtain ⟨ys,rfl,b⟩:=rep_tup.mp b;rfl
   | non=>rw[rep_non.mp b];rfl
   | bl _=>rw[rep_bl.mp b];rfl
   | int _=>rw[rep_int.mp b];rfl
   | str _=>rw[rep_str.mp b];rfl
  | int _ =>
   rw[rep_int.mp a]
   cases e with
   | scr ns=>exact absurd (show false=true from h2) (by decide)
   | lst es=>obtain ⟨l',ys,rfl,_,hn,b⟩:=rep_lst.mp b;exact ym hn
   | tup es=>obtain ⟨ys,rfl,b⟩:=rep_tup.mp b;rfl
   | non=>rw[rep_non.mp b];rfl
   | bl _=>rw[rep_bl.mp b];rfl
   | int _=>rw[rep_int.mp b];rfl
   | str _=>rw[rep_str.mp b];rfl
  | str _ =>
   rw[rep_str.mp a]
   cases e with
   | scr ns=>exact absurd (show false=true from h2) (by decide)
   | lst es=>obtain ⟨l',ys,rfl,_,hn,b⟩:=rep_lst.mp b;exact ym hn
   | tup es=>obtain ⟨ys,rfl,b⟩:=rep_tup.mp b;rfl
   | non=>rw[rep_non.mp b];rfl
   | bl _=>rw[rep_bl.mp b];rfl
   | int _=>rw[rep_int.mp b];rfl
   | str _=>rw[rep_str.mp b];rfl
set_option tactic.hygienic true in
theorem zao {R:Nat->Prop}{m:Me}{d e:Dat}{x y:Wd}{q:Bool}(h:eqD d e=some q)(a:Rep R m d x)(b:Rep R m e y):eqW m zW x y=some q:=by
 unfold eqD at h
 split at h
 .next z=>simp only[Bool.and_eq_true] at z;cases h;exact qx zW d e x y z.1 z.2 a b
 .cases h
theorem zap {R:Nat->Prop}{m:Me}{d:Dat}{x:Wd}(h:yD zW d=true)(a:Rep R m d x):∀ (es:List Dat) (ys:List Wd),eqOkL zW es=true->RepL R m es ys->inL (eqW m zW) x ys=some (es.any fun e=>deq e d)
 | [],ys,_,b=>by rw[b.nil_inv];rfl
 | e::es,ys,z,b=>by
  obtain ⟨y,r,rfl,p,q⟩:=b.cons_inv
  replace z:(yD zW e && eqOkL zW es)=true:=z
  rw[Bool.and_eq_true] at z
  show (match eqW m zW y x with
   | some a=>(inL (eqW m zW) x r).map (a || ·)
   | none=>none)=_
  rw[qx zW e d y x z.1 h p a,zap h a es r z.2 q];rfl
set_option tactic.hygienic true in
theorem zaq {R:Nat->Prop}{m:Me}{d:Dat}{x:Wd}{es:List Dat}{ys:List Wd}{q:Bool}(h:inD d es=some q)(a:Rep R m d x)(b:RepL R m es ys):inL (eqW m zW) x ys=some q:=by
 unfold inD at h
 split at h
 .next z=>simp only[Bool.and_eq_true] at z;cases h;exact zap z.1 a es ys z.2 b
 .cases h
theorem SimE.int {R:Nat->Prop}{m:Me}{i:Int}:SimE R m (.ok (.int i) m) (.ok (.int i)):=ziC (rep_int.mpr rfl)
theorem SimE.bl {R:Nat->Prop}{m:Me}{i:Bool}:SimE R m (.ok (.bl i) m) (.ok (.bl i)):=ziC (rep_bl.mpr rfl)
theorem zar {R:Nat->Prop}{m:Me}{d e:Dat}{x y:Wd}(op:Bo)(a:Rep R m d x)(b:Rep R m e y):SimE R m (bop op x y m) (yw op d e):=by
 cases d with
 | int i =>
  rw[rep_int.mp a]
  cases e with
  | int j =>
   rw[rep_int.mp b]
   cases op <;> simp only[bop,yw]
   .exact SimE.int
   .exact SimE.int
   .by_cases z:(xk i || xk j)=true
    .rw[if_pos z,if_pos z];exact SimE.int
    .rw[if_neg z,if_neg z];exact SimE.no
   .by_cases z:0 < j/\j < 1073741824
    .rw[if_pos z,if_pos z];exact SimE.int
    .rw[if_neg z,if_neg z];exact SimE.no
   .by_cases z:0 < j
    .rw[if_pos z,if_pos z];exact SimE.int
    .rw[if_neg z,if_neg z];exact SimE.no
   .by_cases z:0<=j/\j<=1000000/\xk i=true
    .rw[if_pos z,if_pos z];exact SimE.int
    .rw[if_neg z,if_neg z];exact SimE.no
   .by_cases z:0<=j/\j<=1000
    .rw[if_pos z,if_pos z];exact SimE.int
    .rw[if_neg z,if_neg z];exact SimE.no
   .by_cases z:0<=i/\j=1
    .rw[if_pos z,if_pos z];exact SimE.int
    .rw[if_neg z,if_neg z];exact SimE.no
  | _=>exact SimE.no
 | lst ds =>
  obtain ⟨l,xs,rfl,_,hm,a1⟩:=rep_lst.mp a
  cases e with
  | lst es =>
   obtain ⟨l',ys,rfl,_,hn,b1⟩:=rep_lst.mp b
   cases op <;> first | exact SimE.no | skip
   simp only[bop,yw,hm,hn]
   exact SimE.new (a1.app b1)
  | int k =>
   rw[rep_int.mp b]
   cases op <;> first | exact SimE.no | skip
   simp only[bop,yw,hm]
   by_cases z:-(lim:Int)<=k/\k<=(lim:Int)
   .rw[if_pos z,if_pos z];exact SimE.new (a1.rep _)
   .rw[if_neg z,if_neg z];exact SimE.no
  | _=>exact SimE.no
 | tup ds =>
  obtain ⟨xs,rfl,a1⟩:=rep_tup.mp a
  cases e with
  | tup es =>
   obtain ⟨ys,rfl,b1⟩:=rep_tup.mp b
   cases op <;> first | exact SimE.no | skip
   simp only[bop,yw]
   have h1:=a1.len
   have h2:=b1.len
   have h3:ds.isEmpty=xs.isEmpty:=by cases ds <;> cases xs <;> simp_all
   rw[h1,h2,h3]
   by_cases z:xs.length+ys.length<=lim/\xs.isEmpty=false
   .rw[if_pos z,if_pos z];exact ziC (rep_tup.mpr ⟨_,rfl,a1.app b1⟩)
   .rw[if_neg z,if_neg z];exact SimE.no
  | _=>exact SimE.no
 | _=>exact SimE.no
theorem vl {R:Nat->Prop}{m:Me}{d e:Dat}{x y:Wd}(r:Int->Int->Bool)(a:Rep R m d x)(b:Rep R m e y):SimE R m (vu r x y m) (zcm r d e):=by
 cases d with
 | int i =>
  rw[rep_int.mp a]
  cases e with
  | int j=>rw[rep_int.mp b];exact SimE.bl
  | _=>exact SimE.no
 | _=>exact SimE.no
theorem zas {R:Nat->Prop}{m:Me}{p:Option Bool}{q:Option Bool}(h:∀b,q=some b->p=some b):SimE R m (ofB p m) (za9 q):=by
 cases q with
 | none=>exact SimE.no
 | some b=>rw[h b rfl];exact SimE.bl
theorem gy {R:Nat->Prop}{m:Me}{p:Option Bool}{q:Option Bool}(h:∀b,q=some b->p=some b):SimE R m (ofB (p.map (!·)) m) (za9 (q.map (!·))):=by
 cases q with
 | none=>exact SimE.no
 | some b=>rw[h b rfl];exact SimE.bl
theorem zdP {R:Nat->Prop}{m:Me}{d e:Dat}{x y:Wd}(a:Rep R m d x)(b:Rep R m e y):SimE R m (cop .isN x y m) (yL .isN d e):=by
 cases e with
 | non =>
  rw[rep_non.mp b]
  cases d with
  | non=>rw[rep_non.mp a];exact SimE.bl
  | bl _=>rw[rep_bl.mp a];exact SimE.bl
  | int _=>rw[rep_int.mp a];exact SimE.bl
  | str _=>rw[rep_str.mp a];exact SimE.bl
  | scr _=>rw[rep_scr.mp a];exact SimE.bl
  | tup _=>obtain ⟨xs,rfl,_⟩:=rep_tup.mp a;exact SimE.bl
  | lst _=>obtain ⟨l,xs,rfl,_⟩:=rep_lst.mp a;exact SimE.bl
 | _=>exact SimE.no
theorem zcn {R:Nat->Prop}{m:Me}{d e:Dat}{x y:Wd}(a:Rep R m d x)(b:Rep R m e y):SimE R m (cop .notN x y m) (yL .notN d e):=by
 cases e with
 | non =>
  rw[rep_non.mp b]
  cases d with
  | non=>rw[rep_non.mp a];exact SimE.bl
  | bl _=>rw[rep_bl.mp a];exact SimE.bl
  | int _=>rw[rep_int.mp a];exact SimE.bl
  | str _=>rw[rep_str.mp a];exact SimE.bl
  | scr _=>rw[rep_scr.mp a];exact SimE.bl
  | tup _=>obtain ⟨xs,rfl,_⟩:=rep_tup.mp a;exact SimE.bl
  | lst _=>obtain ⟨l,xs,rfl,_⟩:=rep_lst.mp a;exact SimE.bl
 | _=>exact SimE.no
theorem jv {R:Nat->Prop}{m:Me}{d e:Dat}{x y:Wd}(op:Co)(a:Rep R m d x)(b:Rep R m e y):SimE R m (cop op x y m) (yL op d e):=by
 cases op with
 | eq=>exact zas fun q h=>zao h a b
 | ne=>exact gy fun q h=>zao h a b
 | isN=>exact zdP a b
 | notN=>exact zcn a b
 | isin =>
  simp only[cop,yL]
  cases z:y8 e with
  | none=>exact SimE.no
  | some es =>
   obtain ⟨ys,h,q⟩:=xF b z
   rw[h];exact zas fun t h=>zaq h a q
 | notin =>
  simp only[cop,yL]
  cases z:y8 e with
  | none=>exact SimE.no
  | some es =>
   obtain ⟨ys,h,q⟩:=xF b z
   rw[h];exact gy fun t h=>zaq h a q
 | lt=>exact vl _ a b
 | le=>exact vl _ a b
 | gt=>exact vl _ a b
 | ge=>exact vl _ a b
theorem zdQ {R:Nat->Prop}{m:Me}{d:Dat}{x:Wd}(t:Tg)(a:Rep R m d x):SimE R m (ofB (isT t x m) m) (.ok (.bl (isD t d))):=by
 have h:isT t x m=some (isD t d):=by
  cases d with
  | non=>rw[rep_non.mp a];cases t <;> rfl
  | bl _=>rw[rep_bl.mp a];cases t <;> rfl
  | int _=>rw[rep_int.mp a];cases t <;> rfl
  | str _=>rw[rep_str.mp a];cases t <;> rfl
  | scr _=>rw[rep_scr.mp a];cases t <;> rfl
  | tup _=>obtain ⟨xs,rfl,_⟩:=rep_tup.mp a;cases t <;> rfl
  | lst _=>obtain ⟨l,xs,rfl,_,hm,_⟩:=rep_lst.mp a;cases t <;> (show (match m[l]? with | some (.lst _)=>_ | some (.dct _)=>_ | none=>_)=_;rw[hm];rfl)
 rw[h];exact SimE.bl
theorem zat {R:Nat->Prop}{m:Me}:∀ {ds:List Dat}{xs:List Wd}{i:Int},RepL R m ds xs->jr ds=some i->qe xs=some i
 | [],xs,i,a,h=>by rw[a.nil_inv];exact h
 | d::ds,xs,i,a,h=>by
  obtain ⟨x,r,rfl,p,q⟩:=a.cons_inv
  cases d with
  | int j =>
   rw[rep_int.mp p]
   simp only[jr,Option.map_eq_some_iff] at h
   obtain ⟨k,hk,rfl⟩:=h
   simp only[qe,zat q hk,Option.map_some]
  | _=>simp[jr] at h
theorem zau {R:Nat->Prop}{m:Me}:∀ {ds:List Dat}{xs:List Wd}{i:Bool},RepL R m ds xs->js ds=some i->qg xs=some i
 | [],xs,i,a,h=>by rw[a.nil_inv];exact h
 | d::ds,xs,i,a,h=>by
  obtain ⟨x,r,rfl,p,q⟩:=a.cons_inv
  cases d with
  | bl j =>
   rw[rep_bl.mp p]
   simp only[js,Option.map_eq_some_iff] at h
   obtain ⟨k,hk,rfl⟩:=h
   simp only[qg,zau q hk,Option.map_some]
  | _=>simp[js] at h
theorem xu {R:Nat->Prop}{m:Me}:∀ {ds:List Dat}{xs:List Wd}{k:List Int},RepL R m ds xs->zP ds=some k->yG xs=some k
 | [],xs,k,q,h=>by rw[q.nil_inv];exact h
 | d::ds,xs,k,q,h=>by
  obtain ⟨x,r,rfl,a,b⟩:=q.cons_inv
  cases d with
  | int i =>
   have h':(zP ds).map (i::·)=some k:=h
   obtain ⟨k',e,rfl⟩:=Option.map_eq_some_iff.mp h'
   rw[rep_int.mp a]
   show (yG r).map (i::·)=_
   rw[xu b e]
   rfl
  | _=>cases h
theorem gz {R:Nat->Prop}{m:Me}:∀ {ds:List Dat}{xs:List Wd}{ks:List (List Int)},RepL R m ds xs->gs ds=some ks->wY m xs=some ks
 | [],xs,k,q,h=>by rw[q.nil_inv];exact h
 | d::ds,xs,ks,q,h=>by
  obtain ⟨x,r,rfl,a,b⟩:=q.cons_inv
  cases d with
  | lst es =>
   have h':(match zP es,gs ds with
    | some k,some ks=>some (k::ks)
    | _,_=>none)=some ks:=h
   cases e1:zP es with
   | none=>simp only[e1] at h';cases h'
   | some k =>
    cases e2:gs ds with
    | none=>simp only[e1,e2] at h';cases h'
    | some ks' =>
     simp only[e1,e2] at h'
     cases h'
     obtain ⟨l,us,rfl,_,hm,q1⟩:=rep_lst.mp a
     show (match zf m l with
      | some xs=>match yG xs,wY m r with
       | some k,some ks=>some (k::ks)
       | _,_=>none
      | none=>none)=_
     have e3:zf m l=some us:=by unfold zf;rw[hm]
     simp only[e3,xu q1 e1,gz b e2]
  | _=>cases h
theorem zdR {R:Nat->Prop}{m:Me}{ds:List Dat}{xs:List Wd}{k:List Int}(q:RepL R m ds xs)(h:qv ds=some k):jW m xs=some k:=by
 unfold qv at h
 cases e:zP ds with
 | some k' =>
  rw[e] at h
  unfold jW
  rw[xu q e]
  exact h
 | none =>
  rw[e] at h
  obtain ⟨kk,h1,h2⟩:=Option.bind_eq_some_iff.mp h
  have h3:=gz q h1
  cases ds with
  | nil=>cases h1;cases h2
  | cons d ds =>
   cases d with
   | lst es =>
    obtain ⟨x,r,rfl,a,b⟩:=q.cons_inv
    obtain ⟨l,us,rfl,_⟩:=rep_lst.mp a
    show (wY m (.ref l::r)).bind qV=_
    rw[h3]
    exact h2
   | _=>cases h1
theorem vX {R:Nat->Prop}{m:Me}:∀ {ds:List Dat}{xs:List Wd}{ks:List (List Int)},RepL R m ds xs->yB ds=some ks->xo m xs=some ks
 | [],xs,k,q,h=>by rw[q.nil_inv];exact h
 | d::ds,xs,ks,q,h=>by
  obtain ⟨x,r,rfl,a,b⟩:=q.cons_inv
  cases d with
  | lst es =>
   have h':(match qv es,yB ds with
    | some k,some ks=>some (k::ks)
    | _,_=>none)=some ks:=h
   cases e1:qv es with
   | none=>simp only[e1] at h';cases h'
   | some k =>
    cases e2:yB ds with
    | none=>simp only[e1,e2] at h';cases h'
    | some ks' =>
     simp only[e1,e2] at h'
     cases h'
     obtain ⟨l,us,rfl,_,hm,q1⟩:=rep_lst.mp a
     show (match zf m l with
      | some xs=>match jW m xs,xo m r with
       | some k,some ks=>some (k::ks)
       | _,_=>none
      | none=>none)=_
     have e3:zf m l=some us:=by unfold zf;rw[hm]
     simp only[e3,zdR q1 e1,vX b e2]
  | _=>cases h
theorem zav {R:Nat->Prop}{m:Me}{k:List Int}{d:Dat}{x:Wd}(a:Rep R m d x):∀ {ps:List (List Int×Dat)}{qs:List (List Int×Wd)},ps.map Prod.fst=qs.map Prod.fst->RepL R m (ps.map Prod.snd) (qs.map Prod.snd) ->
  (zq (k,d) ps).map Prod.fst=(zq (k,x) qs).map Prod.fst/\RepL R m ((zq (k,d) ps).map Prod.snd) ((zq (k,x) qs).map Prod.snd)
 | [],[],_,_=>⟨rfl,.cons a .nil⟩
 | [],_::_,h,_=>by cases h
 | _::_,[],h,_=>by cases h
 | p::ps,q::qs,h,r=>by
  obtain ⟨h1,h2⟩:=List.cons.inj (show p.1::ps.map Prod.fst=q.1::qs.map Prod.fst from h)
  obtain ⟨_,_,e,r1,r2⟩:=RepL.cons_inv (show RepL R m (p.2::ps.map Prod.snd) (q.2::qs.map Prod.snd) from r)
  cases e
  show (if ltW k p.1 then (k,d)::p::ps else p::zq (k,d) ps).map Prod.fst=(if ltW k q.1 then (k,x)::q::qs else q::zq (k,x) qs).map Prod.fst/\RepL R m ((if ltW k p.1 then (k,d)::p::ps else p::zq (k,d) ps).map Prod.snd) ((if ltW k q.1 then (k,x)::q::qs else q::zq (k,x) qs).map Prod.snd)
  rw[h1]
  cases ltW k q.1 with
  | true=>exact ⟨congrArg (k::·) h,.cons a r⟩
  | false =>
   obtain ⟨i1,i2⟩:=zav a h2 r2
   exact ⟨by show p.1::(zq (k,d) ps).map Prod.fst=q.1::(zq (k,x) qs).map Prod.fst;rw[h1,i1],.cons r1 i2⟩
theorem gC {R:Nat->Prop}{m:Me}:∀ {ks:List (List Int)}{ds:List Dat}{xs:List Wd},RepL R m ds xs ->
  (zu (ks.zip ds)).map Prod.fst=(zu (ks.zip xs)).map Prod.fst/\RepL R m ((zu (ks.zip ds)).map Prod.snd) ((zu (ks.zip xs)).map Prod.snd)
 | [],_,_,_=>⟨rfl,.nil⟩
 | _::_,[],xs,r=>by rw[r.nil_inv];exact ⟨rfl,.nil⟩
 | k::ks,d::ds,xs,r=>by
  obtain ⟨x,us,rfl,r1,r2⟩:=r.cons_inv
  obtain ⟨i1,i2⟩:=gC (ks:=ks) r2
  rw[List.zip_cons_cons,List.zip_cons_cons,zX,zX]
  exact zav r1 i1 i2
theorem gD {R:Nat->Prop}{m:Me}{ds es:List Dat}{xs:List Wd}{ks:List (List Int)}(q:RepL R m ds xs)(h:yo Dat ks ds=some es):∃ys,yo Wd ks xs=some ys/\RepL R m es ys:=by
 obtain ⟨e1,e2⟩:=gC (ks:=ks) q
 rw[xp] at h
 have h':(if yy ((zu (ks.zip ds)).map Prod.fst) then some ((zu (ks.zip ds)).map Prod.snd) else none)=some es:=h
 rw[xp]
 show ∃ys,(if yy ((zu (ks.zip xs)).map Prod.fst) then some ((zu (ks.zip xs)).map Prod.snd) else none)=some ys/\RepL R m es ys
 rw[e1] at h'
 cases z:yy ((zu (ks.zip xs)).map Prod.fst) with
 | false=>rw[z] at h';cases h'
 | true=>rw[z] at h';cases h';exact ⟨_,rfl,e2⟩
theorem zdS {R:Nat->Prop}{m:Me}{ds:List Dat}{xs:List Wd}(b:Blf)(a:RepL R m ds xs):SimE R m (wD b xs m) (yq b ds):=by
 have one:∀ {d:Dat}{xs:List Wd},RepL R m [d] xs->∃x,xs=[x]/\Rep R m d x:=by
  intro d xs h
  obtain ⟨x,r,rfl,p,q⟩:=h.cons_inv
  rw[q.nil_inv];exact ⟨x,rfl,p⟩
 cases b with
 | len =>
  cases ds with
  | nil=>exact SimE.no
  | cons d ds =>
   cases ds with
   | cons _ _=>exact SimE.no
   | nil =>
    obtain ⟨x,rfl,p⟩:=one a
    show SimE R m _ (match y8 d with | some i=>.ok (.int i.length) | none=>.no)
    cases z:y8 d with
    | none=>exact SimE.no
    | some i =>
     obtain ⟨ys,h,q⟩:=xF p z;simp only[wD,h,q.len];exact SimE.int
 | int =>
  cases ds with
  | nil=>exact SimE.no
  | cons d ds =>
   cases d with
   | int i =>
    cases ds with
    | cons _ _=>exact SimE.no
    | nil=>obtain ⟨x,rfl,p⟩:=one a;rw[rep_int.mp p];exact SimE.int
   | bl i =>
    cases ds with
    | cons _ _=>exact SimE.no
    | nil=>obtain ⟨x,rfl,p⟩:=one a;rw[rep_bl.mp p];exact SimE.int
   | _=>exact SimE.no
 | list =>
  cases ds with
  | nil=>exact SimE.no
  | cons d ds =>
   cases ds with
   | cons _ _=>exact SimE.no
   | nil =>
    obtain ⟨x,rfl,p⟩:=one a
    show SimE R m _ (match y8 d with | some i=>zQ i | none=>.no)
    cases z:y8 d with
    | none=>exact SimE.no
    | some i =>
     obtain ⟨ys,h,q⟩:=xF p z;simp only[wD,h];exact SimE.new q
 | tuple=>exact SimE.no
 | sum =>
  cases ds with
  | nil=>exact SimE.no
  | cons d ds =>
   cases ds with
   | cons _ _=>exact SimE.no
   | nil =>
    obtain ⟨x,rfl,p⟩:=one a
    show SimE R m _ (match (lsD d).bind jr with | some i=>.ok (.int i) | none=>.no)
    cases z:(lsD d).bind jr with
    | none=>exact SimE.no
    | some i =>
     obtain ⟨es,z1,z2⟩:=Option.bind_eq_some_iff.mp z
     obtain ⟨ys,h,q⟩:=jt p z1;simp only[wD,h,Option.bind_some,zat q z2];exact SimE.int
 | all =>
  cases ds with
  | nil=>exact SimE.no
  | cons d ds =>
   cases ds with
   | cons _ _=>exact SimE.no
   | nil =>
    obtain ⟨x,rfl,p⟩:=one a
    show SimE R m _ (match (lsD d).bind js with | some i=>.ok (.bl i) | none=>.no)
    cases z:(lsD d).bind js with
    | none=>exact SimE.no
    | some i =>
     obtain ⟨es,z1,z2⟩:=Option.bind_eq_some_iff.mp z
     obtain ⟨ys,h,q⟩:=jt p z1;simp only[wD,h,Option.bind_some,zau q z2];exact SimE.bl
 | abs=>exact SimE.no
 | max2 =>
  cases ds with
  | nil=>exact SimE.no
  | cons d ds =>
   cases d with
   | int i =>
    cases ds with
    | nil=>exact SimE.no
    | cons e ds =>
     cases e with
     | int j =>
      cases ds with
      | cons _ _=>exact SimE.no
      | nil =>
       obtain ⟨x,r,rfl,p,q⟩:=a.cons_inv
       obtain ⟨y,rfl,q1⟩:=one q
       rw[rep_int.mp p,rep_int.mp q1];exact SimE.int
     | _=>exact SimE.no
   | _=>exact SimE.no
 | min2 =>
  cases ds with
  | nil=>exact SimE.no
  | cons d ds =>
   cases d with
   | int i =>
    cases ds with
    | nil=>exact SimE.no
    | cons e ds =>
     cases e with
     | int j =>
      cases ds with
      | cons _ _=>exact SimE.no
      | nil =>
       obtain ⟨x,r,rfl,p,q⟩:=a.cons_inv
       obtain ⟨y,rfl,q1⟩:=one q
       rw[rep_int.mp p,rep_int.mp q1];exact SimE.int
     | _=>exact SimE.no
   | _=>exact SimE.no
 | sorted =>
  cases ds with
  | nil=>exact SimE.no
  | cons d ds =>
   cases d with
   | lst es =>
    cases ds with
    | cons _ _=>exact SimE.no
    | nil =>
     obtain ⟨x,rfl,p⟩:=one a
     obtain ⟨l,us,rfl,_,hm,q⟩:=rep_lst.mp p
     show SimE R m _ (match (yB es).bind fun ks=>yo Dat ks es with | some i=>zQ i | none=>.no)
     cases z:(yB es).bind fun ks=>yo Dat ks es with
     | none=>exact SimE.no
     | some i =>
      obtain ⟨ks,h1,h2⟩:=Option.bind_eq_some_iff.mp z
      obtain ⟨ys,h3,q3⟩:=gD q h2
      have e3:zf m l=some us:=by unfold zf;rw[hm]
      have e4:((xo m us).bind fun ks=>yo Wd ks us)=some ys:=by rw[vX q h1];exact h3
      simp only[wD,e3,e4]
      exact SimE.new q3
   | _=>exact SimE.no
 | bool=>exact SimE.no
 | minS =>
  cases ds with
  | nil=>exact SimE.no
  | cons d ds =>
   cases ds with
   | cons _ _=>exact SimE.no
   | nil =>
    obtain ⟨x,rfl,p⟩:=one a
    show SimE R m _ (match (lsD d).bind zP with | some (i::r)=>.ok (.int (y1 i r)) | _=>.no)
    cases z:(lsD d).bind zP with
    | none=>exact SimE.no
    | some k =>
     cases k with
     | nil=>exact SimE.no
     | cons i k =>
      obtain ⟨es,z1,z2⟩:=Option.bind_eq_some_iff.mp z
      obtain ⟨ys,h,q⟩:=jt p z1;simp only[wD,h,Option.bind_some,xu q z2];exact SimE.int
 | maxS =>
  cases ds with
  | nil=>exact SimE.no
  | cons d ds =>
   cases ds with
   | cons _ _=>exact SimE.no
   | nil =>
    obtain ⟨x,rfl,p⟩:=one a
    show SimE R m _ (match (lsD d).bind zP with | some (i::r)=>.ok (.int (xb i r)) | _=>.no)
    cases z:(lsD d).bind zP with
    | none=>exact SimE.no
    | some k =>
     cases k with
     | nil=>exact SimE.no
     | cons i k =>
      obtain ⟨es,z1,z2⟩:=Option.bind_eq_some_iff.mp z
      obtain ⟨ys,h,q⟩:=jt p z1;simp only[wD,h,Option.bind_some,xu q z2];exact SimE.int
theorem zdT {R:Nat->Prop}{m:Me}{d e:Dat}{x y:Wd}(a:Rep R m d x)(b:Rep R m e y):SimE R m (yH x y m) (yV d e):=by
 cases e with
 | int i =>
  rw[rep_int.mp b]
  simp only[yV,yH]
  cases z:y8 d with
  | none=>exact SimE.no
  | some ds =>
   obtain ⟨xs,h,q⟩:=xF a z
   simp only[h]
   cases z:(ix ds.length i).bind fun j=>ds[j]? with
   | none=>exact SimE.no
   | some v =>
    obtain ⟨j,h1,h2⟩:=Option.bind_eq_some_iff.mp z
    obtain ⟨x,h3,p⟩:=q.get h2
    rw[q.len] at h1
    simp only[h1,Option.bind_some,h3]
    exact ziC p
 | _=>exact SimE.no
theorem wq {R:Nat->Prop}{m:Me}(st:Int):∀ (n:Nat) (lo:Int),RepL R m (yc lo st n) (za3 lo st n)
 | 0,lo=>.nil
 | n+1,lo=>by
  have h:yc lo st (n+1)=.int lo::yc (lo+st) st n:=by
   unfold yc
   rw[List.range_succ_eq_map,List.map_cons,List.map_map]
   congr 1
   .simp
   .apply List.map_congr_left
    intro i _
    show Dat.int _=Dat.int _
    congr 1
    rw[show ((Nat.succ i:Nat):Int)=(i:Int)+1 from rfl,Int.mul_add,Int.mul_one]
    lia
  rw[h]
  exact .cons (rep_int.mpr rfl) (wq st n _)
theorem zdU {R:Nat->Prop}{m:Me}{d e f:Dat}{x y z:Wd}(a:Rep R m d x)(b:Rep R m e y)(c:Rep R m f z):SimE R m (zbR x y z m) (gu d e f):=by
 cases d with
 | int i =>
  cases e with
  | int j =>
   cases f with
   | int k =>
    rw[rep_int.mp a,rep_int.mp b,rep_int.mp c]
    simp only[zbR,gu]
    split
    .exact ziC (rep_tup.mpr ⟨_,rfl,wq k _ i⟩)
    .exact SimE.no
   | _=>exact SimE.no
  | _=>exact SimE.no
 | _=>exact SimE.no
theorem xG {c e:Wd->Me->Rz}{cd ed:Dat->Rd}{R:Nat->Prop}{m0:Me}
  (hc:∀ (R':Nat->Prop) m d x,(∀l,R l->R' l)->Le m0 m->Rep R' m d x->SimE R' m (c x m) (cd d)) (he:∀ (R':Nat->Prop) m d x,(∀l,R l->R' l)->Le m0 m->Rep R' m d x->SimE R' m (e x m) (ed d)) :
  ∀ (ds:List Dat) (xs:List Wd) (acc:List Dat) (acx:List Wd) (R':Nat->Prop) (m:Me),(∀l,R l->R' l)->Le m0 m->RepL R' m ds xs->RepL R' m acc acx->SimE R' m (yz c e xs acx m) (zG cd ed ds acc)
 | [],xs,acc,acx,R',m,hR,hm,a,b=>by
  rw[a.nil_inv]
  unfold yz zG
  exact SimE.new b
 | d::ds,xs,acc,acx,R',m,hR,hm,a,b=>by
  obtain ⟨x,r,rfl,p,q⟩:=a.cons_inv
  unfold yz zG
  refine (hc R' m d x hR hm p).bind fun t w m1 l1 k1=>?_
  cases t with
  | bl t =>
   rw[rep_bl.mp k1]
   cases t with
   | true =>
    refine (he _ m1 d x (fun l z=>.inl (hR l z)) (hm.trans l1) (p.up _ l1)).bind fun t w m2 l2 k2=>?_
    simp only[b.len]
    by_cases z:acx.length < lim
    .rw[if_pos z,if_pos z]
     exact xG hc he ds r _ _ _ m2 (fun l z=>.inl (.inl (hR l z))) ((hm.trans l1).trans l2) ((q.up _ l1).up _ l2) (((b.up _ l1).up _ l2).app (.cons k2 .nil))
    .rw[if_neg z,if_neg z];exact SimE.no
   | false=>exact xG hc he ds r _ _ _ m1 (fun l z=>.inl (hR l z)) (hm.trans l1) (q.up _ l1) (b.up _ l1)
  | _=>exact SimE.no
theorem wL {c e:Wd->Me->Rz}{cd ed:Dat->Rd}{R:Nat->Prop}{m0:Me}{l:Nat}{xs0:List Wd}(hl:m0[l]?=some (.lst xs0))
  (hc:∀ (R':Nat->Prop) m d x,(∀l,R l->R' l)->Le m0 m->Rep R' m d x->SimE R' m (c x m) (cd d)) (he:∀ (R':Nat->Prop) m d x,(∀l,R l->R' l)->Le m0 m->Rep R' m d x->SimE R' m (e x m) (ed d)) :
  ∀ (ds:List Dat) (i k:Nat) (acc:List Dat) (acx:List Wd) (R':Nat->Prop) (m:Me),(∀l,R l->R' l)->Le m0 m->RepL R' m ds (xs0.drop i)->i+ds.length=xs0.length->ds.length < k->RepL R' m acc acx->SimE R' m (yA c e l k i acx m) (zG cd ed ds acc)
 | [],i,0,acc,acx,R',m,hR,hm,a,hi,hk,b=>by simp at hk
 | d::ds,i,0,acc,acx,R',m,hR,hm,a,hi,hk,b=>by simp at hk
 | [],i,k+1,acc,acx,R',m,hR,hm,a,hi,hk,b=>by
  unfold yA zG zf
  rw[hm l _ hl]
  simp only
  rw[List.getElem?_eq_none (by simp at hi;lia)]
  exact SimE.new b
 | d::ds,i,k+1,acc,acx,R',m,hR,hm,a,hi,hk,b=>by
  obtain ⟨x,r,e0,p,q⟩:=a.cons_inv
  have hx:xs0[i]?=some x:=by
   have:(xs0.drop i)[0]?=some x:=by rw[e0];rfl
   simpa using this
  have hr:r=xs0.drop (i+1):=by
   have:(xs0.drop i).drop 1=r:=by rw[e0];rfl
   rw[<- this,List.drop_drop]
  rw[hr] at q
  have hi':i+1+ds.length=xs0.length:=by simp at hi;lia
  have hk':ds.length < k:=by simp at hk;lia
  unfold yA zG zf
  rw[hm l _ hl]
  simp only
  rw[hx]
  simp only
  refine (hc R' m d x hR hm p).bind fun t w m1 l1 k1=>?_
  cases t with
  | bl t =>
   rw[rep_bl.mp k1]
   cases t with
   | true =>
    refine (he _ m1 d x (fun l z=>.inl (hR l z)) (hm.trans l1) (p.up _ l1)).bind fun t w m2 l2 k2=>?_
    simp only[b.len]
    by_cases z:acx.length < lim
    .rw[if_pos z,if_pos z]
     exact wL hl hc he ds (i+1) k _ _ _ m2 (fun l z=>.inl (.inl (hR l z))) ((hm.trans l1).trans l2) ((q.up _ l1).up _ l2) hi' hk' (((b.up _ l1).up _ l2).app (.cons k2 .nil))
    .rw[if_neg z,if_neg z];exact SimE.no
   | false=>exact wL hl hc he ds (i+1) k _ _ _ m1 (fun l z=>.inl (hR l z)) (hm.trans l1) (q.up _ l1) hi' hk' (b.up _ l1)
  | _=>exact SimE.no
def zco (R:Nat->Prop)(m0:Me)(ps:List (Dat×Dat))(g:Nat->Me->Option (Option (Wd×Wd))):Prop :=
 ∀m,Le m0 m->(∀i p,ps[i]?=some p->∃a b,g i m=some (some (a,b))/\Rep R m p.1 a/\Rep R m p.2 b)/\∀i,ps.length<=i->g i m=some none
theorem jw {α β:Type}:∀ {xs:List α}{ys:List β}{i:Nat}{p:α×β},(xs.zip ys)[i]?=some p->xs[i]?=some p.1/\ys[i]?=some p.2
 | [],_,i,p,h=>by simp at h
 | _::_,[],i,p,h=>by simp at h
 | x::xs,y::ys,0,p,h=>by simp at h;subst h;exact ⟨rfl,rfl⟩
 | x::xs,y::ys,i+1,p,h=>by
  have h':(xs.zip ys)[i]?=some p:=by simpa using h
  simpa using jw h'
set_option tactic.hygienic true in
theorem zaw:∀ {xs:List Dat}{ps:List (Dat×Dat)},qw xs=some ps->ps.length=xs.length/\∀ (i:Nat) p,ps[i]?=some p->xs[i]?=some (.tup [p.1,p.2])
 | [],ps,h=>by cases h;exact ⟨rfl,fun i p q=>by simp at q⟩
 | d::xs,ps,h=>by
  unfold qw at h
  split at h
  .next h0=>cases h0
  .next x y r h0 =>
   cases h0
   obtain ⟨qs,e,rfl⟩:=Option.map_eq_some_iff.mp h
   obtain ⟨a,b⟩:=zaw e
   refine ⟨by simp[a],fun i p q=>?_⟩
   cases i with
   | zero=>cases q;rfl
   | succ i=>exact b i p q
  .cases h
set_option tactic.hygienic true in
theorem kL {R:Nat->Prop}{m0:Me}{k:Kd}{x y:Dat}{a b:Wd}{ps:List (Dat×Dat)}(e:xh k x y=some ps)(hx:Rep R m0 x a)(hy:Rep R m0 y b):zco R m0 ps (zE k a b)/\ps.length<=lim:=by
 unfold xh at e
 split at e
 .obtain ⟨l,xs,rfl,_,e1,k1⟩:=rep_lst.mp hx
  obtain ⟨l',ys,rfl,_,e2,k2⟩:=rep_lst.mp hy
  split at e
  .next z =>
   cases e
   refine ⟨fun m h=>⟨fun i p q=>?_,fun i q=>?_⟩,by simp;lia⟩
   .obtain ⟨z1,z2⟩:=jw q
    obtain ⟨a,a1,a2⟩:=k1.get z1
    obtain ⟨b,b1,b2⟩:=k2.get z2
    refine ⟨a,b,?_,Rep.frame (fun l o r z=>⟨r,h l o z⟩) _ _ a2,Rep.frame (fun l o r z=>⟨r,h l o z⟩) _ _ b2⟩
    simp only[zE,zf]
    rw[h _ _ e1,h _ _ e2]
    simp only[a1,b1]
   .simp only[zE,zf]
    rw[h _ _ e1,h _ _ e2]
    have l1:=k1.len
    have l2:=k2.len
    simp only[List.length_zip] at q
    simp only
    rcases Nat.le_total xs.length ys.length with z3 | z3
    .rw[List.getElem?_eq_none (by lia)]
    .rw[List.getElem?_eq_none (l:=ys) (by lia)]
     cases xs[i]? <;> rfl
  .cases e
 .rename_i xs0 st
  obtain ⟨l,xs,rfl,_,e1,k1⟩:=rep_lst.mp hx
  rw[rep_int.mp hy]
  split at e
  .next z =>
   cases e
   have l1:=k1.len
   refine ⟨fun m h=>⟨fun i p q=>?_,fun i q=>?_⟩,by simp[yc];lia⟩
   .obtain ⟨z1,z2⟩:=jw q
    obtain ⟨a,a1,a2⟩:=k1.get z2
    have hp:p.1=.int (st+(i:Int)):=by
     simp only[yc,List.getElem?_map] at z1
     cases hr:(List.range xs0.length)[i]? with
     | none=>rw[hr] at z1;cases z1
     | some j =>
      rw[hr] at z1
      have:=List.getElem?_eq_some_iff.mp hr
      obtain ⟨_,hj⟩:=this
      simp only[List.getElem_range] at hj
      subst hj
      simp only[Option.map_some,Option.some.injEq,Int.one_mul] at z1
      exact z1.symm
    refine ⟨.int (st+(i:Int)),a,?_,by rw[hp];exact rep_int.mpr rfl,Rep.frame (fun l o r z=>⟨r,h l o z⟩) _ _ a2⟩
    simp only[zE,zf]
    rw[h _ _ e1]
    simp only[a1,Option.map_some]
   .simp only[zE,zf]
    rw[h _ _ e1]
    simp only[yc,List.length_zip,List.length_map,List.length_range] at q
    simp only
    rw[List.getElem?_eq_none (by lia)]
    rfl
  .cases e
 .rename_i xs0 st
  obtain ⟨l,xs,rfl,_,e1,k1⟩:=rep_lst.mp hx
  rw[rep_int.mp hy]
  split at e
  .next z =>
   have l1:=k1.len
   obtain ⟨g1,g2⟩:=zaw e
   refine ⟨fun m h=>⟨fun i p q=>?_,fun i q=>?_⟩,by lia⟩
   .obtain ⟨a,a1,a2⟩:=k1.get (g2 i p q)
    obtain ⟨us,rfl,r2⟩:=rep_tup.mp a2
    obtain ⟨x,r,rfl,ra,rb⟩:=r2.cons_inv
    obtain ⟨y,r',rfl,rc,rd⟩:=rb.cons_inv
    obtain rfl:=rd.nil_inv
    refine ⟨x,y,?_,Rep.frame (fun l o r z=>⟨r,h l o z⟩) _ _ ra,Rep.frame (fun l o r z=>⟨r,h l o z⟩) _ _ rc⟩
    simp only[zE,zf]
    rw[h _ _ e1]
    simp only[a1]
    rfl
   .simp only[zE,zf]
    rw[h _ _ e1]
    simp only
    rw[List.getElem?_eq_none (by lia)]
  .cases e
 .cases e
theorem wM {c e:Wd->Wd->Me->Rz}{cd ed:Dat×Dat->Rd}{R:Nat->Prop}{m0:Me}{ps:List (Dat×Dat)}{g:Nat->Me->Option (Option (Wd×Wd))}(hg:zco R m0 ps g)
  (hc:∀ (R':Nat->Prop) m p a b,(∀l,R l->R' l)->Le m0 m->Rep R' m p.1 a->Rep R' m p.2 b->SimE R' m (c a b m) (cd p)) (he:∀ (R':Nat->Prop) m p a b,(∀l,R l->R' l)->Le m0 m->Rep R' m p.1 a->Rep R' m p.2 b->SimE R' m (e a b m) (ed p)) :
  ∀ (ds:List (Dat×Dat)) (i k:Nat) (acc:List Dat) (acx:List Wd) (R':Nat->Prop) (m:Me),(∀l,R l->R' l)->Le m0 m->ds=ps.drop i->i+ds.length=ps.length->ds.length < k->RepL R' m acc acx->SimE R' m (zR c e g k i acx m) (zG cd ed ds acc)
 | [],i,0,acc,acx,R',m,hR,hm,a,hi,hk,b=>by simp at hk
 | d::ds,i,0,acc,acx,R',m,hR,hm,a,hi,hk,b=>by simp at hk
 | [],i,k+1,acc,acx,R',m,hR,hm,a,hi,hk,b=>by
  unfold zR zG
  rw[(hg m hm).2 i (by simp at hi;lia)]
  exact SimE.new b
 | d::ds,i,k+1,acc,acx,R',m,hR,hm,a,hi,hk,b=>by
  have hx:ps[i]?=some d:=by
   have:(ps.drop i)[0]?=some d:=by rw[<- a];rfl
   simpa using this
  have hr:ds=ps.drop (i+1):=by
   have:(ps.drop i).drop 1=ds:=by rw[<- a];rfl
   rw[<- this,List.drop_drop]
  have hi':i+1+ds.length=ps.length:=by simp at hi;lia
  have hk':ds.length < k:=by simp at hk;lia
  obtain ⟨u,v,e0,p,q⟩:=(hg m hm).1 i d hx
  have up:∀ {d:Dat}{w:Wd},Rep R m d w->Rep R' m d w:=fun z=>Rep.frame (fun l o r z=>⟨hR l r,z⟩) _ _ z
  unfold zR zG
  rw[e0]
  simp only
  refine (hc R' m d u v hR hm (up p) (up q)).bind fun t w m1 l1 k1=>?_
  cases t with
  | bl t =>
   rw[rep_bl.mp k1]
   cases t with
   | true =>
    refine (he _ m1 d u v (fun l z=>.inl (hR l z)) (hm.trans l1) ((up p).up _ l1) ((up q).up _ l1)).bind fun t w m2 l2 k2=>?_
    simp only[b.len]
    by_cases z:acx.length < lim
    .rw[if_pos z,if_pos z]
     exact wM hg hc he ds (i+1) k _ _ _ m2 (fun l z=>.inl (.inl (hR l z))) ((hm.trans l1).trans l2) hr hi' hk' (((b.up _ l1).up _ l2).app (.cons k2 .nil))
    .rw[if_neg z,if_neg z];exact SimE.no
   | false=>exact wM hg hc he ds (i+1) k _ _ _ m1 (fun l z=>.inl (hR l z)) (hm.trans l1) hr hi' hk' (b.up _ l1)
  | _=>exact SimE.no
noncomputable def zh:Ex->List Nat
 | .var i=>[i]
 | .lit _=>[]
 | .bin _ a b=>zh a++zh b
 | .neg a=>zh a
 | .not a=>zh a
 | .and a b=>zh a++zh b
 | .or a b=>zh a++zh b
 | .cmp _ a b=>zh a++zh b
 | .chain _ _ a b c=>zh a++(zh b++zh c)
 | .ife c a b=>zh c++(zh a++zh b)
 | .unit=>[]
 | .pair a b=>zh a++zh b
 | .call _ a=>zh a
 | .blt _ a=>zh a
 | .isi _ a=>zh a
 | .lst a=>zh a
 | .tup a=>zh a
 | .dict0=>[]
 | .idx a b=>zh a++zh b
 | .slL a b=>zh a++zh b
 | .slH a b=>zh a++zh b
 | .slB a b c=>zh a++(zh b++zh c)
 | .meth _ a b=>zh a++zh b
 | .rng a b c=>zh a++(zh b++zh c)
 | .comp e i c=>zh i++(zh e++zh c)
 | .lrng a=>zh a
 | .compP _ e a b c=>zh a++(zh b++(zh e++zh c))
@[simp] theorem zg4 (i:Nat):zh (.var i)=[i]:=rfl
@[simp] theorem zg5 (w:Wd):zh (.lit w)=[]:=rfl
@[simp] theorem zg6 (a b:Ex):zh (.idx a b)=zh a++zh b:=rfl
@[simp] theorem zg7 (a:Ex):zh (.tup a)=zh a:=rfl
@[simp] theorem zge (a b:Ex):zh (.pair a b)=zh a++zh b:=rfl
@[simp] theorem zgf  : zh (.unit)=[]:=rfl
@[simp] theorem zg8 (op:Bo)(a b:Ex):zh (.bin op a b)=zh a++zh b:=rfl
@[simp] theorem zgg (k:Nat)(a:Ex):zh (.call k a)=zh a:=rfl
@[simp] theorem zg9 (a:Ex):zh (.neg a)=zh a:=rfl
@[simp] theorem zha (a:Ex):zh (.lst a)=zh a:=rfl
def EnvR (R:Nat->Prop)(m:Me)(vs:List Nat)(de:DEn)(env:En):Prop :=
 de.length=env.length/\∀i∈vs,∀d,de[i]?=some (some d)->∃w,env[i]?=some (some w)/\Rep R m d w
theorem EnvR.up {R R':Nat->Prop}{m m':Me}{vs:List Nat}{de:DEn}{env:En}(hR:∀l,R l->R' l)(h:Le m m')(q:EnvR R m vs de env):EnvR R' m' vs de env :=
 ⟨q.1,fun i hi d z=>by
  obtain ⟨w,a,b⟩:=q.2 i hi d z
  exact ⟨w,a,Rep.frame (fun l o r k=>⟨hR l r,h l o k⟩) d w b⟩⟩
theorem EnvR.sub {R:Nat->Prop}{m:Me}{vs us:List Nat}{de:DEn}{env:En}(h:∀i∈us,i∈vs)(q:EnvR R m vs de env):EnvR R m us de env :=
 ⟨q.1,fun i hi=>q.2 i (h i hi)⟩
theorem EnvR.left {R:Nat->Prop}{m:Me}{us vs:List Nat}{de:DEn}{env:En}(q:EnvR R m (us++vs) de env):EnvR R m us de env:=q.sub fun _ h=>List.mem_append_left _ h
theorem EnvR.right {R:Nat->Prop}{m:Me}{us vs:List Nat}{de:DEn}{env:En}(q:EnvR R m (us++vs) de env):EnvR R m vs de env:=q.sub fun _ h=>List.mem_append_right _ h
set_option tactic.hygienic true in
theorem EnvR.push {R:Nat->Prop}{m:Me}{vs:List Nat}{de:DEn}{env:En}{d:Dat}{w:Wd}(q:EnvR R m vs de env)(h:Rep R m d w):EnvR R m vs (de++[some d]) (env++[some w]):=by
 refine ⟨by simp[q.1],fun i hi e z=>?_⟩
 rw[List.getElem?_append] at z
 split at z
 .next k =>
  obtain ⟨w,a,b⟩:=q.2 i hi e z
  exact ⟨w,by rw[List.getElem?_append_left (by rw[<- q.1];exact k)];exact a,b⟩
 .next k =>
  rw[List.getElem?_append_right (by rw[<- q.1];lia),<- q.1]
  have:i - de.length=0:=by
   rcases Nat.eq_zero_or_pos (i - de.length) with z0 | z0
   .exact z0
   .rw[List.getElem?_eq_none (by simp;lia)] at z;cases z
  rw[this] at z ⊢
  cases z
  exact ⟨w,rfl,h⟩
def CallR (cl:Nat->List Wd->Me->Rz)(cd:Nat->List Dat->Rd):Prop:=∀ (k:Nat) (ds:List Dat) (ws:List Wd) (R:Nat->Prop) (m:Me),RepL R m ds ws->SimE R m (cl k ws m) (cd k ds)
theorem zU {R:Nat->Prop}{m:Me}{d:Dat}{w:Wd}(h:Rep R m d w):RepL R m (zy d) (zn w):=by
 cases d with
 | tup ds=>obtain ⟨xs,rfl,q⟩:=rep_tup.mp h;exact q
 | non=>rw[rep_non.mp h];exact .nil
 | bl _=>rw[rep_bl.mp h];exact .nil
 | int _=>rw[rep_int.mp h];exact .nil
 | str _=>rw[rep_str.mp h];exact .nil
 | scr _=>rw[rep_scr.mp h];exact .nil
 | lst _=>obtain ⟨l,xs,rfl,_⟩:=rep_lst.mp h;exact .nil
theorem za {cl:Nat->List Wd->Me->Rz}{cd:Nat->List Dat->Rd}(H:CallR cl cd):∀ (e:Ex) (R:Nat->Prop) (m:Me) (de:DEn) (env:En),EnvR R m (zh e) de env->SimE R m (evE cl e env m) (evD cd e de)
 | .var i,R,m,de,env,q=>by
  cases z:de[i]? with
  | none=>rw[yr (.inl z)];exact SimE.no
  | some o =>
   cases o with
   | none=>rw[yr (.inr z)];exact SimE.no
   | some d =>
    obtain ⟨w,a,b⟩:=q.2 i (List.mem_singleton.mpr rfl) d z
    rw[y9 z,vW a];exact ziC b
 | .lit w,R,m,de,env,q=>by
  cases w <;> first | exact SimE.no | (exact ziC (by unfold Rep;rfl))
 | .bin op a b,R,m,de,env,q=>by
  refine (za H a R m de env q.left).bind fun d w m1 l1 k1=>?_
  refine (za H b _ m1 de env (q.right.up (fun _=>.inl) l1)).bind fun d2 w2 m2 l2 k2=>?_
  exact zar op (k1.up _ l2) k2
 | .neg a,R,m,de,env,q=>by
  refine (za H a R m de env q).bind fun d w m1 l1 k1=>?_
  cases d with
  | int i=>rw[rep_int.mp k1];exact SimE.int
  | _=>exact SimE.no
 | .not a,R,m,de,env,q=>by
  refine (za H a R m de env q).bind fun d w m1 l1 k1=>?_
  cases d with
  | bl i=>rw[rep_bl.mp k1];exact SimE.bl
  | _=>exact SimE.no
 | .and a b,R,m,de,env,q=>by
  refine (za H a R m de env q.left).bind fun d w m1 l1 k1=>?_
  cases d with
  | bl i =>
   rw[rep_bl.mp k1]
   cases i with
   | true=>exact za H b _ m1 de env (q.right.up (fun _=>.inl) l1)
   | false=>exact SimE.bl
  | _=>exact SimE.no
 | .or a b,R,m,de,env,q=>by
  refine (za H a R m de env q.left).bind fun d w m1 l1 k1=>?_
  cases d with
  | bl i =>
   rw[rep_bl.mp k1]
   cases i with
   | false=>exact za H b _ m1 de env (q.right.up (fun _=>.inl) l1)
   | true=>exact SimE.bl
  | _=>exact SimE.no
 | .cmp op a b,R,m,de,env,q=>by
  refine (za H a R m de env q.left).bind fun d w m1 l1 k1=>?_
  refine (za H b _ m1 de env (q.right.up (fun _=>.inl) l1)).bind fun d2 w2 m2 l2 k2=>?_
  exact jv op (k1.up _ l2) k2
 | .chain o p a b c,R,m,de,env,q=>by
  refine (za H a R m de env q.left).bind fun d w m1 l1 k1=>?_
  refine (za H b _ m1 de env (q.right.left.up (fun _=>.inl) l1)).bind fun d2 w2 m2 l2 k2=>?_
  refine (jv o (k1.up _ l2) k2).bind fun d3 w3 m3 l3 k3=>?_
  cases d3 with
  | bl i =>
   rw[rep_bl.mp k3]
   cases i with
   | false=>exact SimE.bl
   | true =>
    refine (za H c _ m3 de env (q.right.right.up (fun _ h=>.inl (.inl (.inl h))) ((l1.trans l2).trans l3))).bind fun d4 w4 m4 l4 k4=>?_
    exact jv p ((k2.up _ l3).up _ l4) k4
  | _=>exact SimE.no
 | .ife _ _ _,R,m,de,env,q=>SimE.no
 | .unit,R,m,de,env,q=>by
  exact ziC (rep_tup.mpr ⟨[],rfl,.nil⟩)
 | .pair a b,R,m,de,env,q=>by
  refine (za H a R m de env q.left).bind fun d w m1 l1 k1=>?_
  refine (za H b _ m1 de env (q.right.up (fun _=>.inl) l1)).bind fun d2 w2 m2 l2 k2=>?_
  exact ziC (rep_tup.mpr ⟨_,rfl,.cons (k1.up _ l2) (zU k2)⟩)
 | .call k a,R,m,de,env,q=>by
  refine (za H a R m de env q).bind fun d w m1 l1 k1=>?_
  exact H k _ _ _ m1 (zU k1)
 | .blt b a,R,m,de,env,q=>by
  refine (za H a R m de env q).bind fun d w m1 l1 k1=>?_
  exact zdS b (zU k1)
 | .isi t a,R,m,de,env,q=>by
  refine (za H a R m de env q).bind fun d w m1 l1 k1=>?_
  exact zdQ t k1
 | .lst a,R,m,de,env,q=>by
  refine (za H a R m de env q).bind fun d w m1 l1 k1=>?_
  exact SimE.new (zU k1)
 | .tup a,R,m,de,env,q=>by
  refine (za H a R m de env q).bind fun d w m1 l1 k1=>?_
  have k2:=zU k1
  simp only[k2.len]
  split
  .exact ziC (rep_tup.mpr ⟨_,rfl,k2⟩)
  .exact SimE.no
 | .dict0,R,m,de,env,q=>by
  exact SimE.no
 | .idx a b,R,m,de,env,q=>by
  refine (za H a R m de env q.left).bind fun d w m1 l1 k1=>?_
  refine (za H b _ m1 de env (q.right.up (fun _=>.inl) l1)).bind fun d2 w2 m2 l2 k2=>?_
  exact zdT (k1.up _ l2) k2
 | .slL _ _,R,m,de,env,q=>SimE.no
 | .slH _ _,R,m,de,env,q=>SimE.no
 | .slB _ _ _,R,m,de,env,q=>SimE.no
 | .meth _ _ _,R,m,de,env,q=>by
  exact SimE.no
 | .rng a b c,R,m,de,env,q=>by
  refine (za H a R m de env q.left).bind fun d w m1 l1 k1=>?_
  refine (za H b _ m1 de env (q.right.left.up (fun _=>.inl) l1)).bind fun d2 w2 m2 l2 k2=>?_
  refine (za H c _ m2 de env (q.right.right.up (fun _ h=>.inl (.inl h)) (l1.trans l2))).bind fun d3 w3 m3 l3 k3=>?_
  exact zdU ((k1.up _ l2).up _ l3) (k2.up _ l3) k3
 | .lrng a,R,m,de,env,q=>by
  refine (za H a R m de env q).bind fun d w m1 l1 k1=>?_
  cases d with
  | int j =>
   rw[rep_int.mp k1]
   simp only
   split
   .exact SimE.new (wq 1 _ 0)
   .exact SimE.no
  | _=>exact SimE.no
 | .comp elt it cond,R,m,de,env,q=>by
  refine (za H it R m de env q.left).bind fun d w m1 l1 k1=>?_
  have hc:∀ (R':Nat->Prop) m' d x,(∀l,Rf R m.length l->R' l)->Le m1 m'->Rep R' m' d x->SimE R' m' (evE cl cond (env++[some x]) m') (evD cd cond (de++[some d])) :=
   fun R' m' d x hR l k=>za H cond R' m' _ _ ((q.right.right.up (fun l h=>hR l (.inl h)) (l1.trans l)).push k)
  have he:∀ (R':Nat->Prop) m' d x,(∀l,Rf R m.length l->R' l)->Le m1 m'->Rep R' m' d x->SimE R' m' (evE cl elt (env++[some x]) m') (evD cd elt (de++[some d])) :=
   fun R' m' d x hR l k=>za H elt R' m' _ _ ((q.right.left.up (fun l h=>hR l (.inl h)) (l1.trans l)).push k)
  cases d with
  | tup ds =>
   obtain ⟨xs,rfl,k2⟩:=rep_tup.mp k1
   exact xG hc he ds xs [] [] _ m1 (fun _ h=>h) (Le.refl _) k2 .nil
  | scr ns =>
   rw[rep_scr.mp k1]
   exact xG hc he (ns.map .int) (ns.map .int) [] [] _ m1 (fun _ h=>h) (Le.refl _) (ziE ns) .nil
  | lst ds =>
   obtain ⟨l,xs,rfl,_,hm,k2⟩:=rep_lst.mp k1
   simp only[itD]
   by_cases z:ds.length<=lim
   .rw[if_pos z]
    have hl:=k2.len
    exact wL hm hc he ds 0 (lim+1) [] [] _ m1 (fun _ h=>h) (Le.refl _) (by simpa using k2) (by lia) (by lia) .nil
   .rw[if_neg z];exact SimE.no
  | _=>exact SimE.no
 | .compP k elt a b cond,R,m,de,env,q=>by
  refine (za H a R m de env q.left).bind fun d w m1 l1 k1=>?_
  refine (za H b _ m1 de env (q.right.left.up (fun l h=>.inl h) l1)).bind fun d' w' m2 l2 k2=>?_
  have hc:∀ (R':Nat->Prop) m' (p:Dat×Dat) x y,(∀l,Rf (Rf R m.length) m1.length l->R' l)->Le m2 m'->Rep R' m' p.1 x->Rep R' m' p.2 y->SimE R' m' (evE cl cond (env++[some x]++[some y]) m') (evD cd cond (de++[some p.1]++[some p.2])) :=
   fun R' m' d x y hR l k k'=>za H cond R' m' _ _ (((q.right.right.right.up (fun l h=>hR l (.inl (.inl h))) ((l1.trans l2).trans l)).push k).push k')
  have he:∀ (R':Nat->Prop) m' (p:Dat×Dat) x y,(∀l,Rf (Rf R m.length) m1.length l->R' l)->Le m2 m'->Rep R' m' p.1 x->Rep R' m' p.2 y->SimE R' m' (evE cl elt (env++[some x]++[some y]) m') (evD cd elt (de++[some p.1]++[some p.2])) :=
   fun R' m' d x y hR l k k'=>za H elt R' m' _ _ (((q.right.right.left.up (fun l h=>hR l (.inl (.inl h))) ((l1.trans l2).trans l)).push k).push k')
  cases e:xh k d d' with
  | none=>exact SimE.no
  | some ps =>
   obtain ⟨pr,hl⟩:=kL e (k1.up _ l2) k2
   exact wM pr hc he ps 0 (lim+1) [] [] _ m2 (fun _ h=>h) (Le.refl _) (by simp) (by simp) (by lia) .nil
mutual
noncomputable def Own (m:Me):Dat->Wd->List Nat->Prop
 | .non,w,A=>w=.non/\A=[]
 | .bl b,w,A=>w=.bl b/\A=[]
 | .int i,w,A=>w=.int i/\A=[]
 | .str s,w,A=>w=.str s/\A=[]
 | .scr ns,w,A=>w=.rol (ns.map Wd.int)/\A=[]
 | .tup ds,w,A=>∃xs,w=.tup xs/\OwnL m ds xs A
 | .lst ds,w,A=>∃l xs B,w=.ref l/\A=l::B/\m[l]?=some (.lst xs)/\OwnL m ds xs B
noncomputable def OwnL (m:Me):List Dat->List Wd->List Nat->Prop
 | [],xs,A=>xs=[]/\A=[]
 | d::ds,xs,A=>∃x r B C,xs=x::r/\A=B++C/\Own m d x B/\OwnL m ds r C
end
theorem own_lst {m:Me}{ds:List Dat}{w:Wd}{A:List Nat}:Own m (.lst ds) w A↔∃l xs B,w=.ref l/\A=l::B/\m[l]?=some (.lst xs)/\OwnL m ds xs B:=by
 constructor
 .intro h;unfold Own at h;exact h
 .intro h;unfold Own;exact h
theorem own_tup {m:Me}{ds:List Dat}{w:Wd}{A:List Nat}:Own m (.tup ds) w A↔∃xs,w=.tup xs/\OwnL m ds xs A:=by
 constructor
 .intro h;unfold Own at h;exact h
 .intro h;unfold Own;exact h
theorem OwnL.cons_inv {m:Me}{d:Dat}{ds:List Dat}{xs:List Wd}{A:List Nat}(h:OwnL m (d::ds) xs A):∃x r B C,xs=x::r/\A=B++C/\Own m d x B/\OwnL m ds r C:=by unfold OwnL at h;exact h
theorem OwnL.nil_inv {m:Me}{xs:List Wd}{A:List Nat}(h:OwnL m [] xs A):xs=[]/\A=[]:=by unfold OwnL at h;exact h
theorem OwnL.nil {m:Me}:OwnL m [] [] []:=by unfold OwnL;exact ⟨rfl,rfl⟩
theorem OwnL.cons {m:Me}{d:Dat}{ds:List Dat}{x:Wd}{xs:List Wd}{B C:List Nat}(a:Own m d x B)(b:OwnL m ds xs C):OwnL m (d::ds) (x::xs) (B++C):=by
 unfold OwnL;exact ⟨x,xs,B,C,rfl,rfl,a,b⟩
theorem OwnL.app {m:Me}:∀ {ds es:List Dat}{xs ys:List Wd}{A B:List Nat},OwnL m ds xs A->OwnL m es ys B->OwnL m (ds++es) (xs++ys) (A++B)
 | [],es,xs,ys,A,B,a,b=>by rw[a.nil_inv.1,a.nil_inv.2];exact b
 | d::ds,es,xs,ys,A,B,a,b=>by
  obtain ⟨x,r,P,Q,rfl,rfl,p,q⟩:=a.cons_inv
  rw[List.append_assoc]
  exact .cons p (OwnL.app q b)
mutual
theorem Own.frame {m m':Me}:∀ (d:Dat) (w:Wd) (A:List Nat),(∀l∈A,∀o,m[l]?=some o->m'[l]?=some o)->Own m d w A->Own m' d w A
 | .non,w,A,h,q=>by unfold Own at q ⊢;exact q
 | .bl _,w,A,h,q=>by unfold Own at q ⊢;exact q
 | .int _,w,A,h,q=>by unfold Own at q ⊢;exact q
 | .str _,w,A,h,q=>by unfold Own at q ⊢;exact q
 | .scr _,w,A,h,q=>by unfold Own at q ⊢;exact q
 | .tup ds,w,A,h,q=>by
  obtain ⟨xs,rfl,q1⟩:=own_tup.mp q
  exact own_tup.mpr ⟨xs,rfl,OwnL.frame ds xs A h q1⟩
 | .lst ds,w,A,h,q=>by
  obtain ⟨l,xs,B,rfl,rfl,hm,q1⟩:=own_lst.mp q
  exact own_lst.mpr ⟨l,xs,B,rfl,rfl,h l List.mem_cons_self _ hm,OwnL.frame ds xs B (fun l hl=>h l (List.mem_cons_of_mem _ hl)) q1⟩
theorem OwnL.frame {m m':Me}:∀ (ds:List Dat) (xs:List Wd) (A:List Nat),(∀l∈A,∀o,m[l]?=some o->m'[l]?=some o)->OwnL m ds xs A->OwnL m' ds xs A
 | [],xs,A,h,q=>by rw[q.nil_inv.1,q.nil_inv.2];exact .nil
 | d::ds,xs,A,h,q=>by
  obtain ⟨x,r,B,C,rfl,rfl,a,b⟩:=q.cons_inv
  exact .cons (Own.frame d x B (fun l hl=>h l (List.mem_append_left _ hl)) a) (OwnL.frame ds r C (fun l hl=>h l (List.mem_append_right _ hl)) b)
end
mutual
theorem Own.rep {m:Me}{R:Nat->Prop}:∀ (d:Dat) (w:Wd) (A:List Nat),(∀l∈A,R l)->Own m d w A->Rep R m d w
 | .non,w,A,h,q=>by unfold Own at q;exact rep_non.mpr q.1
 | .bl _,w,A,h,q=>by unfold Own at q;exact rep_bl.mpr q.1
 | .int _,w,A,h,q=>by unfold Own at q;exact rep_int.mpr q.1
 | .str _,w,A,h,q=>by unfold Own at q;exact rep_str.mpr q.1
 | .scr _,w,A,h,q=>by unfold Own at q;exact rep_scr.mpr q.1
 | .tup ds,w,A,h,q=>by
  obtain ⟨xs,rfl,q1⟩:=own_tup.mp q
  exact rep_tup.mpr ⟨xs,rfl,OwnL.rep ds xs A h q1⟩
 | .lst ds,w,A,h,q=>by
  obtain ⟨l,xs,B,rfl,rfl,hm,q1⟩:=own_lst.mp q
  exact rep_lst.mpr ⟨l,xs,rfl,h l List.mem_cons_self,hm,OwnL.rep ds xs B (fun l hl=>h l (List.mem_cons_of_mem _ hl)) q1⟩
theorem OwnL.rep {m:Me}{R:Nat->Prop}:∀ (ds:List Dat) (xs:List Wd) (A:List Nat),(∀l∈A,R l)->OwnL m ds xs A->RepL R m ds xs
 | [],xs,A,h,q=>by rw[q.nil_inv.1];exact .nil
 | d::ds,xs,A,h,q=>by
  obtain ⟨x,r,B,C,rfl,rfl,a,b⟩:=q.cons_inv
  exact .cons (Own.rep d x B (fun l hl=>h l (List.mem_append_left _ hl)) a) (OwnL.rep ds r C (fun l hl=>h l (List.mem_append_right _ hl)) b)
end
mutual
theorem Own.lt {m:Me}:∀ (d:Dat) (w:Wd) (A:List Nat),Own m d w A->∀l∈A,l < m.length
 | .non,w,A,q=>by unfold Own at q;rw[q.2];simp
 | .bl _,w,A,q=>by unfold Own at q;rw[q.2];simp
 | .int _,w,A,q=>by unfold Own at q;rw[q.2];simp
 | .str _,w,A,q=>by unfold Own at q;rw[q.2];simp
 | .scr _,w,A,q=>by unfold Own at q;rw[q.2];simp
 | .tup ds,w,A,q=>by
  obtain ⟨xs,rfl,q1⟩:=own_tup.mp q
  exact OwnL.lt ds xs A q1
 | .lst ds,w,A,q=>by
  obtain ⟨l,xs,B,rfl,rfl,hm,q1⟩:=own_lst.mp q
  intro k hk
  rcases List.mem_cons.mp hk with rfl | hk
  .exact (List.getElem?_eq_some_iff.mp hm).1
  .exact OwnL.lt ds xs B q1 k hk
theorem OwnL.lt {m:Me}:∀ (ds:List Dat) (xs:List Wd) (A:List Nat),OwnL m ds xs A->∀l∈A,l < m.length
 | [],xs,A,q=>by rw[q.nil_inv.2];simp
 | d::ds,xs,A,q=>by
  obtain ⟨x,r,B,C,rfl,rfl,a,b⟩:=q.cons_inv
  intro k hk
  rcases List.mem_append.mp hk with hk | hk
  .exact Own.lt d x B a k hk
  .exact OwnL.lt ds r C b k hk
end
mutual
theorem Rep.flat {R:Nat->Prop}{m m':Me}:∀ (d:Dat) (w:Wd),flat d=true->Rep R m d w->Own m' d w []
 | .non,w,h,q=>by unfold Own;exact ⟨rep_non.mp q,rfl⟩
 | .bl _,w,h,q=>by unfold Own;exact ⟨rep_bl.mp q,rfl⟩
 | .int _,w,h,q=>by unfold Own;exact ⟨rep_int.mp q,rfl⟩
 | .str _,w,h,q=>by unfold Own;exact ⟨rep_str.mp q,rfl⟩
 | .scr _,w,h,q=>by unfold Own;exact ⟨rep_scr.mp q,rfl⟩
 | .tup ds,w,h,q=>by
  obtain ⟨xs,rfl,q1⟩:=rep_tup.mp q
  exact own_tup.mpr ⟨xs,rfl,RepL.flat ds xs (by unfold Vl.flat at h;exact h) q1⟩
 | .lst ds,w,h,q=>by unfold Vl.flat at h;cases h
theorem RepL.flat {R:Nat->Prop}{m m':Me}:∀ (ds:List Dat) (xs:List Wd),flatL ds=true->RepL R m ds xs->OwnL m' ds xs []
 | [],xs,h,q=>by rw[q.nil_inv];exact .nil
 | d::ds,xs,h,q=>by
  obtain ⟨x,r,rfl,a,b⟩:=q.cons_inv
  unfold flatL at h
  rw[Bool.and_eq_true] at h
  exact OwnL.cons (B:=[]) (C:=[]) (Rep.flat d x h.1 a) (RepL.flat ds r h.2 b)
end
def RepO (R:Nat->Prop)(m:Me)(lv:Lv)(d:Dat)(w:Wd)(A:List Nat):Prop:=match lv with
 | .no=>Rep R m d w/\A=[]
 | .top=>∃ds l xs,d=.lst ds/\w=.ref l/\A=[l]/\m[l]?=some (.lst xs)/\RepL R m ds xs
 | .full=>Own m d w A
theorem RepO.rep {R R':Nat->Prop}{m:Me}{lv:Lv}{d:Dat}{w:Wd}{A:List Nat}(h:∀l,R l->R' l)(k:∀l∈A,R' l)(q:RepO R m lv d w A):Rep R' m d w:=by
 cases lv with
 | no=>exact Rep.frame (fun l o r z=>⟨h l r,z⟩) d w q.1
 | top =>
  obtain ⟨ds,l,xs,rfl,rfl,rfl,hm,a⟩:=q
  exact rep_lst.mpr ⟨l,xs,rfl,k l (by simp),hm,RepL.frame (fun l o r z=>⟨h l r,z⟩) ds xs a⟩
 | full=>exact Own.rep d w A k q
theorem RepO.frame {R R':Nat->Prop}{m m':Me}{lv:Lv}{d:Dat}{w:Wd}{A:List Nat}(h:∀ (l:Nat) o,R l->m[l]?=some o->R' l/\m'[l]?=some o)(k:∀l∈A,∀o,m[l]?=some o->m'[l]?=some o)(q:RepO R m lv d w A):RepO R' m' lv d w A:=by
 cases lv with
 | no=>exact ⟨Rep.frame h d w q.1,q.2⟩
 | top =>
  obtain ⟨ds,l,xs,rfl,rfl,rfl,hm,a⟩:=q
  exact ⟨ds,l,xs,rfl,rfl,rfl,k l (by simp) _ hm,RepL.frame h ds xs a⟩
 | full=>exact Own.frame d w A k q
theorem RepO.lt {R:Nat->Prop}{m:Me}{lv:Lv}{d:Dat}{w:Wd}{A:List Nat}(q:RepO R m lv d w A):∀l∈A,l < m.length:=by
 cases lv with
 | no=>rw[q.2];simp
 | top =>
  obtain ⟨ds,l,xs,rfl,rfl,rfl,hm,a⟩:=q
  intro k hk
  rw[List.mem_singleton.mp hk]
  exact (List.getElem?_eq_some_iff.mp hm).1
 | full=>exact Own.lt d w A q
noncomputable def lvE (lev:Nat->Lv):Ex->Dat->Lv
 | .comp elt _ _,d=>if flat d then .full else match d with
  | .lst ds=>if ds.all (fun x=>lvE lev elt x == .full) then .full else .top
  | _=>.no
 | .compP _ elt _ _ _,d=>if flat d then .full else match d with
  | .lst ds=>if ds.all (fun x=>lvE lev elt x == .full) then .full else .top
  | _=>.no
 | .lst a,d=>if flat d then .full else match d with
  | .lst ds=>if lvE lev a (.tup ds) == .full then .full else .top
  | _=>.no
 | .tup a,d=>lvE lev a d
 | .pair a b,d=>if flat d then .full else match d with
  | .tup (x::ds)=>if lvE lev a x == .full && lvE lev b (.tup ds) == .full then .full else .no
  | _=>.no
 | .call k _,d=>if flat d then .full else lev k
 | .blt .list _,d=>if flat d then .full else match d with
  | .lst ds=>if flatL ds then .full else .top
  | _=>.no
 | .lrng _,d=>if flat d then .full else match d with
  | .lst ds=>if flatL ds then .full else .top
  | _=>.no
 | .slL _ _,d=>if flat d then .full else match d with
  | .lst ds=>if flatL ds then .full else .top
  | _=>.no
 | .slH _ _,d=>if flat d then .full else match d with
  | .lst ds=>if flatL ds then .full else .top
  | _=>.no
 | .slB _ _ _,d=>if flat d then .full else match d with
  | .lst ds=>if flatL ds then .full else .top
  | _=>.no
 | .bin _ _ _,d=>if flat d then .full else match d with
  | .lst ds=>if flatL ds then .full else .top
  | _=>.no
 | _,d=>if flat d then .full else .no
@[simp] theorem zhF (lev:Nat->Lv)(e i c:Ex)(d:Dat):lvE lev (.comp e i c) d=if flat d then .full else match d with
  | .lst ds=>if ds.all (fun x=>lvE lev e x == .full) then .full else .top
  | _=>.no:=rfl
@[simp] theorem zcp (lev:Nat->Lv)(k:Kd)(e a b c:Ex)(d:Dat):lvE lev (.compP k e a b c) d=if flat d then .full else match d with
  | .lst ds=>if ds.all (fun x=>lvE lev e x == .full) then .full else .top
  | _=>.no:=rfl
@[simp] theorem zh4 (lev:Nat->Lv)(a:Ex)(d:Dat):lvE lev (.lst a) d=if flat d then .full else match d with
  | .lst ds=>if lvE lev a (.tup ds) == .full then .full else .top
  | _=>.no:=rfl
@[simp] theorem zh5 (lev:Nat->Lv)(a:Ex)(d:Dat):lvE lev (.tup a) d=lvE lev a d:=rfl
@[simp] theorem zax (lev:Nat->Lv)(a b:Ex)(d:Dat):lvE lev (.pair a b) d=if flat d then .full else match d with
  | .tup (x::ds)=>if lvE lev a x == .full && lvE lev b (.tup ds) == .full then .full else .no
  | _=>.no:=rfl
@[simp] theorem zhG (lev:Nat->Lv)(k:Nat)(a:Ex)(d:Dat):lvE lev (.call k a) d=if flat d then .full else lev k:=rfl
@[simp] theorem zhH (lev:Nat->Lv)(a:Ex)(d:Dat):lvE lev (.blt .list a) d=if flat d then .full else match d with
  | .lst ds=>if flatL ds then .full else .top
  | _=>.no:=rfl
@[simp] theorem zhI (lev:Nat->Lv)(a:Ex)(d:Dat):lvE lev (.lrng a) d=if flat d then .full else match d with
  | .lst ds=>if flatL ds then .full else .top
  | _=>.no:=rfl
@[simp] theorem zh6 (lev:Nat->Lv)(a b:Ex)(d:Dat):lvE lev (.slL a b) d=if flat d then .full else match d with
  | .lst ds=>if flatL ds then .full else .top
  | _=>.no:=rfl
@[simp] theorem zh7 (lev:Nat->Lv)(a b:Ex)(d:Dat):lvE lev (.slH a b) d=if flat d then .full else match d with
  | .lst ds=>if flatL ds then .full else .top
  | _=>.no:=rfl
@[simp] theorem zh8 (lev:Nat->Lv)(a b c:Ex)(d:Dat):lvE lev (.slB a b c) d=if flat d then .full else match d with
  | .lst ds=>if flatL ds then .full else .top
  | _=>.no:=rfl
@[simp] theorem zh9 (lev:Nat->Lv)(op:Bo)(a b:Ex)(d:Dat):lvE lev (.bin op a b) d=if flat d then .full else match d with
  | .lst ds=>if flatL ds then .full else .top
  | _=>.no:=rfl
@[simp] theorem zia (lev:Nat->Lv)(i:Nat)(d:Dat):lvE lev (.var i) d=if flat d then .full else .no:=rfl
@[simp] theorem zib (lev:Nat->Lv)(w:Wd)(d:Dat):lvE lev (.lit w) d=if flat d then .full else .no:=rfl
@[simp] theorem zic (lev:Nat->Lv)(a b:Ex)(d:Dat):lvE lev (.idx a b) d=if flat d then .full else .no:=rfl
@[simp] theorem zid (lev:Nat->Lv)(a:Ex)(d:Dat):lvE lev (.neg a) d=if flat d then .full else .no:=rfl
@[simp] theorem zie (lev:Nat->Lv)(a:Ex)(d:Dat):lvE lev (.not a) d=if flat d then .full else .no:=rfl
@[simp] theorem zif (lev:Nat->Lv)(a b:Ex)(d:Dat):lvE lev (.and a b) d=if flat d then .full else .no:=rfl
@[simp] theorem lv_or (lev:Nat->Lv)(a b:Ex)(d:Dat):lvE lev (.or a b) d=if flat d then .full else .no:=rfl
@[simp] theorem zig (lev:Nat->Lv)(op:Co)(a b:Ex)(d:Dat):lvE lev (.cmp op a b) d=if flat d then .full else .no:=rfl
@[simp] theorem zih (lev:Nat->Lv)(c a b:Ex)(d:Dat):lvE lev (.ife c a b) d=if flat d then .full else .no:=rfl
@[simp] theorem zhJ (lev:Nat->Lv)(d:Dat):lvE lev (.unit) d=if flat d then .full else .no:=rfl
@[simp] theorem zii (lev:Nat->Lv)(t:Tg)(a:Ex)(d:Dat):lvE lev (.isi t a) d=if flat d then .full else .no:=rfl
@[simp] theorem zij (lev:Nat->Lv)(a b c:Ex)(d:Dat):lvE lev (.rng a b c) d=if flat d then .full else .no:=rfl
@[simp] theorem zhK (lev:Nat->Lv)(a:Ex)(d:Dat):lvE lev (.blt .len a) d=if flat d then .full else .no:=rfl
@[simp] theorem zhL (lev:Nat->Lv)(a:Ex)(d:Dat):lvE lev (.blt .int a) d=if flat d then .full else .no:=rfl
@[simp] theorem zhb (lev:Nat->Lv)(a:Ex)(d:Dat):lvE lev (.blt .bool a) d=if flat d then .full else .no:=rfl
@[simp] theorem zgh (lev:Nat->Lv)(a:Ex)(d:Dat):lvE lev (.blt .tuple a) d=if flat d then .full else .no:=rfl
@[simp] theorem zhM (lev:Nat->Lv)(a:Ex)(d:Dat):lvE lev (.blt .sum a) d=if flat d then .full else .no:=rfl
@[simp] theorem zhN (lev:Nat->Lv)(a:Ex)(d:Dat):lvE lev (.blt .all a) d=if flat d then .full else .no:=rfl
@[simp] theorem zhO (lev:Nat->Lv)(a:Ex)(d:Dat):lvE lev (.blt .abs a) d=if flat d then .full else .no:=rfl
@[simp] theorem zhc (lev:Nat->Lv)(a:Ex)(d:Dat):lvE lev (.blt .min2 a) d=if flat d then .full else .no:=rfl
@[simp] theorem zhd (lev:Nat->Lv)(a:Ex)(d:Dat):lvE lev (.blt .max2 a) d=if flat d then .full else .no:=rfl
def SimO (R:Nat->Prop)(m:Me)(lv:Dat->Lv)(r:Rz)(rd:Rd):Prop:=match rd with
 | .ok d=>∃w m' A,r=.ok w m'/\Le m m'/\RepO (fun l=>Rf R m.length l/\l∉A) m' (lv d) d w A/\A.Nodup/\∀a∈A,m.length<=a
 | .exc c d=>∃w m',r=.exc c w m'/\Le m m'/\Rep (Rf R m.length) m' d w
 | .no=>True
noncomputable def xw (lev:Nat->Lv)(k:Nat)(d:Dat):Lv:=if flat d then .full else lev k
def CallO (lev:Nat->Lv)(cl:Nat->List Wd->Me->Rz)(cd:Nat->List Dat->Rd):Prop:=∀ (k:Nat) (ds:List Dat) (ws:List Wd) (R:Nat->Prop) (m:Me),RepL R m ds ws->SimO R m (xw lev k) (cl k ws m) (cd k ds)
theorem SimO.sim {R:Nat->Prop}{m:Me}{lv:Dat->Lv}{r:Rz}{rd:Rd}(h:SimO R m lv r rd):SimE R m r rd:=by
 cases rd with
 | ok d =>
  obtain ⟨w,m',A,rfl,l,q,_,hA⟩:=h
  exact ⟨w,m',rfl,l,q.rep (fun _ z=>z.1) (fun a z=>.inr (hA a z))⟩
 | exc c d=>exact h
 | no=>trivial
theorem CallO.r {lev:Nat->Lv}{cl:Nat->List Wd->Me->Rz}{cd:Nat->List Dat->Rd}(H:CallO lev cl cd):CallR cl cd:=fun k ds ws R m q=>(H k ds ws R m q).sim
set_option tactic.hygienic true in
theorem SimE.own {R:Nat->Prop}{m:Me}{r:Rz}{rd:Rd}{lv:Dat->Lv}(h:SimE R m r rd)(hl:∀d,lv d=if flat d then .full else .no):SimO R m lv r rd:=by
 cases rd with
 | ok d =>
  obtain ⟨w,m',rfl,l,q⟩:=h
  refine ⟨w,m',[],rfl,l,?_,List.nodup_nil,by simp⟩
  rw[hl]
  split
  .next z=>exact q.flat d w z
  .exact ⟨Rep.frame (fun l o r z=>⟨⟨r,by simp⟩,z⟩) d w q,rfl⟩
 | exc c d=>exact h
 | no=>trivial
theorem SimO.lift {R:Nat->Prop}{m m1:Me}{r:Rz}{rd:Rd}{lv:Dat->Lv}(h:Le m m1)(q:SimO (Rf R m.length) m1 lv r rd):SimO R m lv r rd:=by
 have hl:=h.len
 cases rd with
 | ok d =>
  obtain ⟨w,m',A,rfl,k,z,nd,hA⟩:=q
  exact ⟨w,m',A,rfl,h.trans k,z.frame (fun l o r z=>⟨⟨by rcases r.1 with (r | r) | r;exact .inl r;exact .inr r;exact .inr (by lia),r.2⟩,z⟩) (fun _ _ _ z=>z),nd,fun a ha=>by have:=hA a ha;lia⟩
 | exc c d=>exact SimE.lift (rd:=.exc c d) h q
 | no=>trivial
theorem SimE.bindO {R:Nat->Prop}{m:Me}{r:Rz}{rd:Rd}{f:Wd->Me->Rz}{g:Dat->Rd}{lv:Dat->Lv}(h:SimE R m r rd)
  (k:∀d w m',Le m m'->Rep (Rf R m.length) m' d w->SimO (Rf R m.length) m' lv (f w m') (g d)):SimO R m lv (r.bind f) (rd.bind g):=by
 cases rd with
 | ok d=>obtain ⟨w,m',rfl,l,z⟩:=h;exact SimO.lift l (k d w m' l z)
 | exc c d=>obtain ⟨w,m',rfl,l,z⟩:=h;exact ⟨w,m',rfl,l,z⟩
 | no=>trivial
theorem SimO.no {R:Nat->Prop}{m:Me}{r:Rz}{lv:Dat->Lv}:SimO R m lv r .no:=trivial
set_option tactic.hygienic true in
theorem SimO.new {R:Nat->Prop}{m:Me}{ds:List Dat}{xs:List Wd}{lv:Dat->Lv}(h:RepL R m ds xs)(hl:∀es,lv (.lst es)=if flatL es then .full else .top):SimO R m lv (alloc m xs) (zQ ds):=by
 unfold zQ alloc
 rw[h.len]
 by_cases z:xs.length<=lim
 .rw[if_pos z,if_pos z]
  refine ⟨_,_,[m.length],rfl,Le.app m _,?_,by simp,by simp⟩
  rw[hl]
  split
  .next f=>exact own_lst.mpr ⟨_,xs,[],rfl,rfl,by simp,h.flat ds xs f⟩
  .refine ⟨ds,_,xs,rfl,rfl,rfl,by simp,RepL.frame (fun l o r z=>⟨⟨.inl r,?_⟩,Le.app m _ l o z⟩) ds xs h⟩
   have:=(List.getElem?_eq_some_iff.mp z).1
   simp;lia
 .rw[if_neg z,if_neg z];exact SimO.no
theorem ziF {R:Nat->Prop}{m0 m:Me}{ds:List Dat}{xs:List Wd}{A:List Nat}{lv:Dat->Lv}(hm:Le m0 m)(h:OwnL m ds xs A)(nd:A.Nodup)(hA:∀a∈A,m0.length<=a)(hl:lv (.lst ds)=.full)(hlen:ds.length=xs.length):SimO R m0 lv (alloc m xs) (zQ ds):=by
 unfold zQ alloc
 rw[hlen]
 have hlt:=h.lt
 by_cases z:xs.length<=lim
 .rw[if_pos z,if_pos z]
  refine ⟨_,_,m.length::A,rfl,hm.trans (Le.app m _),?_,List.nodup_cons.mpr ⟨fun q=>by have:=hlt _ q;lia,nd⟩,?_⟩
  .rw[hl]
   exact own_lst.mpr ⟨_,xs,A,rfl,rfl,by simp,OwnL.frame ds xs A (fun l hl o q=>Le.app m _ l o q) h⟩
  .intro a ha
   rcases List.mem_cons.mp ha with rfl | ha
   .exact hm.len
   .exact hA a ha
 .rw[if_neg z,if_neg z];exact SimO.no
theorem OwnL.len {m:Me}:∀ {ds:List Dat}{xs:List Wd}{A:List Nat},OwnL m ds xs A->ds.length=xs.length
 | [],xs,A,q=>by rw[q.nil_inv.1];rfl
 | d::ds,xs,A,q=>by
  obtain ⟨x,r,B,C,rfl,rfl,a,b⟩:=q.cons_inv
  simp[OwnL.len b]
def CompO (R:Nat->Prop)(m:Me)(lv:Dat->Lv)(r:Rz)(rd:Rd):Prop:=match rd with
 | .ok d=>∃out m2 outx,d=.lst out/\out.length<=lim/\r=alloc m2 outx/\Le m m2/\RepL (Rf R m.length) m2 out outx/\((∀y∈out,lv y=.full)->∃A,OwnL m2 out outx A/\A.Nodup/\∀a∈A,m.length<=a)
 | .exc c d=>∃w m',r=.exc c w m'/\Le m m'/\Rep (Rf R m.length) m' d w
 | .no=>True
def AccO (m0 m:Me)(lv:Dat->Lv)(acc:List Dat)(acx:List Wd):Prop:=(∀y∈acc,lv y=.full)->∃A,OwnL m acc acx A/\A.Nodup/\∀a∈A,m0.length<=a
theorem AccO.up {m0 m m':Me}{lv:Dat->Lv}{acc:List Dat}{acx:List Wd}(h:Le m m')(q:AccO m0 m lv acc acx):AccO m0 m' lv acc acx:=fun z=>by
 obtain ⟨A,a,b,c⟩:=q z
 exact ⟨A,OwnL.frame acc acx A (fun l _ o k=>h l o k) a,b,c⟩
theorem AccO.push {m0 m m':Me}{lv:Dat->Lv}{acc:List Dat}{acx:List Wd}{d:Dat}{w:Wd}{B:List Nat}(hm:Le m0 m)(h:Le m m')(q:AccO m0 m lv acc acx)(z:lv d=.full->Own m' d w B)(nd:B.Nodup)(hB:∀b∈B,m.length<=b):AccO m0 m' lv (acc++[d]) (acx++[w]):=fun f=>by
 obtain ⟨A,a,b,c⟩:=q fun y hy=>f y (List.mem_append_left _ hy)
 refine ⟨A++(B++[]),(OwnL.frame acc acx A (fun l _ o k=>h l o k) a).app (.cons (z (f d (by simp))) .nil),?_,?_⟩
 .rw[List.append_nil]
  refine List.nodup_append.mpr ⟨b,nd,fun x hx y hy e=>?_⟩
  have:=OwnL.lt acc acx A a x hx
  have:=hB y hy
  lia
 .intro x hx
  rw[List.append_nil] at hx
  rcases List.mem_append.mp hx with hx | hx
  .exact c x hx
  .have:=hB x hx
   have:=hm.len
   lia
theorem xH {c e:Wd->Me->Rz}{cd ed:Dat->Rd}{R:Nat->Prop}{m0:Me}{lv:Dat->Lv}
  (hc:∀ (R':Nat->Prop) m d x,(∀l,R l->R' l)->Le m0 m->Rep R' m d x->SimE R' m (c x m) (cd d)) (he:∀ (R':Nat->Prop) m d x,(∀l,R l->R' l)->Le m0 m->Rep R' m d x->SimO R' m lv (e x m) (ed d)) :
  ∀ (ds:List Dat) (xs:List Wd) (acc:List Dat) (acx:List Wd) (m:Me),Le m0 m->RepL (Rf R m0.length) m ds xs->RepL (Rf R m0.length) m acc acx->AccO m0 m lv acc acx->CompO R m0 lv (yz c e xs acx m) (zG cd ed ds acc)
 | [],xs,acc,acx,m,hm,a,b,f=>by
  rw[a.nil_inv]
  unfold yz zG zQ
  by_cases z:acc.length<=lim
  .rw[if_pos z];exact ⟨acc,m,acx,rfl,z,rfl,hm,b,f⟩
  .rw[if_neg z];trivial
 | d::ds,xs,acc,acx,m,hm,a,b,f=>by
  obtain ⟨x,r,rfl,p,q⟩:=a.cons_inv
  have hl:=hm.len
  have sh:∀ {n:Nat}{m':Me}{d:Dat}{w:Wd},m0.length<=n->Rep (Rf (Rf R m0.length) n) m' d w->Rep (Rf R m0.length) m' d w:=fun hn k=>Rep.frame (fun l o r z=>⟨by rcases r with (r | r) | r;exact .inl r;exact .inr r;exact .inr (by lia),z⟩) _ _ k
  unfold yz zG
  have h1:=hc _ m d x (fun l z=>.inl z) hm p
  cases e1:cd d with
  | no=>trivial
  | exc k t=>rw[e1] at h1;obtain ⟨w,m',h1,l1,k1⟩:=h1;rw[h1];exact ⟨w,m',rfl,hm.trans l1,sh hl k1⟩
  | ok t =>
   rw[e1] at h1
   obtain ⟨w,m1,h1,l1,k1⟩:=h1
   rw[h1]
   simp only[Rz.bind,Rd.bind]
   cases t with
   | bl t =>
    rw[rep_bl.mp k1]
    have fr:∀ {ds:List Dat}{xs:List Wd},RepL (Rf R m0.length) m ds xs->RepL (Rf R m0.length) m1 ds xs:=fun k=>RepL.frame (fun l o r z=>⟨r,l1 l o z⟩) _ _ k
    cases t with
    | false=>exact xH hc he ds r acc acx m1 (hm.trans l1) (fr q) (fr b) (f.up l1)
    | true =>
     have h2:=he _ m1 d x (fun l z=>.inl z) (hm.trans l1) (Rep.frame (fun l o r z=>⟨r,l1 l o z⟩) _ _ p)
     have hl1:=(hm.trans l1).len
     simp only
     cases e2:ed d with
     | no=>trivial
     | exc k t=>rw[e2] at h2;obtain ⟨w,m',h2,l2,k2⟩:=h2;rw[h2];exact ⟨w,m',rfl,(hm.trans l1).trans l2,sh hl1 k2⟩
     | ok y =>
      rw[e2] at h2
      have h3:=h2.sim
      obtain ⟨w,m2,B,h2,l2,k2,nd,hB⟩:=h2
      obtain ⟨w',m2',h3,_,k3⟩:=h3
      rw[h2] at h3 ⊢
      cases h3
      simp only[Rz.bind,Rd.bind,b.len]
      split
      .refine xH hc he ds r _ _ m2 ((hm.trans l1).trans l2) (RepL.frame (fun l o r z=>⟨r,l2 l o z⟩) _ _ (fr q)) ((RepL.frame (fun l o r z=>⟨r,l2 l o z⟩) _ _ (fr b)).app (.cons (sh hl1 k3) .nil)) ((f.up l1).push (hm.trans l1) l2 ?_ nd hB)
       intro z
       rw[z] at k2
       exact k2
      .trivial
   | _=>trivial
theorem wN {c e:Wd->Me->Rz}{cd ed:Dat->Rd}{R:Nat->Prop}{m0:Me}{lv:Dat->Lv}{l:Nat}{xs0:List Wd}(hx0:m0[l]?=some (.lst xs0))
  (hc:∀ (R':Nat->Prop) m d x,(∀l,R l->R' l)->Le m0 m->Rep R' m d x->SimE R' m (c x m) (cd d)) (he:∀ (R':Nat->Prop) m d x,(∀l,R l->R' l)->Le m0 m->Rep R' m d x->SimO R' m lv (e x m) (ed d)) :
  ∀ (ds:List Dat) (i k:Nat) (acc:List Dat) (acx:List Wd) (m:Me),Le m0 m->RepL (Rf R m0.length) m ds (xs0.drop i)->i+ds.length=xs0.length->ds.length < k->RepL (Rf R m0.length) m acc acx->AccO m0 m lv acc acx->CompO R m0 lv (yA c e l k i acx m) (zG cd ed ds acc)
 | [],i,0,acc,acx,m,hm,a,hi,hk,b,f=>by simp at hk
 | d::ds,i,0,acc,acx,m,hm,a,hi,hk,b,f=>by simp at hk
 | [],i,k+1,acc,acx,m,hm,a,hi,hk,b,f=>by
  unfold yA zG zf zQ
  rw[hm l _ hx0]
  simp only
  rw[List.getElem?_eq_none (by simp at hi;lia)]
  by_cases z:acc.length<=lim
  .rw[if_pos z];exact ⟨acc,m,acx,rfl,z,rfl,hm,b,f⟩
  .rw[if_neg z];trivial
 | d::ds,i,k+1,acc,acx,m,hm,a,hi,hk,b,f=>by
  obtain ⟨x,r,e0,p,q⟩:=a.cons_inv
  have hx:xs0[i]?=some x:=by
   have:(xs0.drop i)[0]?=some x:=by rw[e0];rfl
   simpa using this
  have hr:r=xs0.drop (i+1):=by
   have:(xs0.drop i).drop 1=r:=by rw[e0];rfl
   rw[<- this,List.drop_drop]
  rw[hr] at q
  have hi':i+1+ds.length=xs0.length:=by simp at hi;lia
  have hk':ds.length < k:=by simp at hk;lia
  have hl:=hm.len
  have sh:∀ {n:Nat}{m':Me}{d:Dat}{w:Wd},m0.length<=n->Rep (Rf (Rf R m0.length) n) m' d w->Rep (Rf R m0.length) m' d w:=fun hn k=>Rep.frame (fun l o r z=>⟨by rcases r with (r | r) | r;exact .inl r;exact .inr r;exact .inr (by lia),z⟩) _ _ k
  unfold yA zG zf
  rw[hm l _ hx0]
  simp only
  rw[hx]
  simp only
  have h1:=hc _ m d x (fun l z=>.inl z) hm p
  cases e1:cd d with
  | no=>trivial
  | exc k t=>rw[e1] at h1;obtain ⟨w,m',h1,l1,k1⟩:=h1;rw[h1];exact ⟨w,m',rfl,hm.trans l1,sh hl k1⟩
  | ok t =>
   rw[e1] at h1
   obtain ⟨w,m1,h1,l1,k1⟩:=h1
   rw[h1]
   simp only[Rz.bind,Rd.bind]
   cases t with
   | bl t =>
    rw[rep_bl.mp k1]
    have fr:∀ {ds:List Dat}{xs:List Wd},RepL (Rf R m0.length) m ds xs->RepL (Rf R m0.length) m1 ds xs:=fun k=>RepL.frame (fun l o r z=>⟨r,l1 l o z⟩) _ _ k
    cases t with
    | false=>exact wN hx0 hc he ds (i+1) k acc acx m1 (hm.trans l1) (fr q) hi' hk' (fr b) (f.up l1)
    | true =>
     have h2:=he _ m1 d x (fun l z=>.inl z) (hm.trans l1) (Rep.frame (fun l o r z=>⟨r,l1 l o z⟩) _ _ p)
     have hl1:=(hm.trans l1).len
     simp only
     cases e2:ed d with
     | no=>trivial
     | exc k t=>rw[e2] at h2;obtain ⟨w,m',h2,l2,k2⟩:=h2;rw[h2];exact ⟨w,m',rfl,(hm.trans l1).trans l2,sh hl1 k2⟩
     | ok y =>
      rw[e2] at h2
      have h3:=h2.sim
      obtain ⟨w,m2,B,h2,l2,k2,nd,hB⟩:=h2
      obtain ⟨w',m2',h3,_,k3⟩:=h3
      rw[h2] at h3 ⊢
      cases h3
      simp only[Rz.bind,Rd.bind,b.len]
      split
      .refine wN hx0 hc he ds (i+1) k _ _ m2 ((hm.trans l1).trans l2) (RepL.frame (fun l o r z=>⟨r,l2 l o z⟩) _ _ (fr q)) hi' hk' ((RepL.frame (fun l o r z=>⟨r,l2 l o z⟩) _ _ (fr b)).app (.cons (sh hl1 k3) .nil)) ((f.up l1).push (hm.trans l1) l2 ?_ nd hB)
       intro z
       rw[z] at k2
       exact k2
      .trivial
   | _=>trivial
theorem wO {c e:Wd->Wd->Me->Rz}{cd ed:Dat×Dat->Rd}{R:Nat->Prop}{m0:Me}{lv:Dat->Lv}{ps:List (Dat×Dat)}{g:Nat->Me->Option (Option (Wd×Wd))}(hg:zco (Rf R m0.length) m0 ps g)
  (hc:∀ (R':Nat->Prop) m p a b,(∀l,R l->R' l)->Le m0 m->Rep R' m p.1 a->Rep R' m p.2 b->SimE R' m (c a b m) (cd p)) (he:∀ (R':Nat->Prop) m p a b,(∀l,R l->R' l)->Le m0 m->Rep R' m p.1 a->Rep R' m p.2 b->SimO R' m lv (e a b m) (ed p)) :
  ∀ (ds:List (Dat×Dat)) (i k:Nat) (acc:List Dat) (acx:List Wd) (m:Me),Le m0 m->ds=ps.drop i->i+ds.length=ps.length->ds.length < k->RepL (Rf R m0.length) m acc acx->AccO m0 m lv acc acx->CompO R m0 lv (zR c e g k i acx m) (zG cd ed ds acc)
 | [],i,0,acc,acx,m,hm,a,hi,hk,b,f=>by simp at hk
 | d::ds,i,0,acc,acx,m,hm,a,hi,hk,b,f=>by simp at hk
 | [],i,k+1,acc,acx,m,hm,a,hi,hk,b,f=>by
  unfold zR zG zQ
  rw[(hg m hm).2 i (by simp at hi;lia)]
  simp only
  by_cases z:acc.length<=lim
  .rw[if_pos z];exact ⟨acc,m,acx,rfl,z,rfl,hm,b,f⟩
  .rw[if_neg z];trivial
 | d::ds,i,k+1,acc,acx,m,hm,a,hi,hk,b,f=>by
  have hx:ps[i]?=some d:=by
   have:(ps.drop i)[0]?=some d:=by rw[<- a];rfl
   simpa using this
  have hr:ds=ps.drop (i+1):=by
   have:(ps.drop i).drop 1=ds:=by rw[<- a];rfl
   rw[<- this,List.drop_drop]
  have hi':i+1+ds.length=ps.length:=by simp at hi;lia
  have hk':ds.length < k:=by simp at hk;lia
  obtain ⟨u,v,e0,p,q⟩:=(hg m hm).1 i d hx
  have hl:=hm.len
  have sh:∀ {n:Nat}{m':Me}{d:Dat}{w:Wd},m0.length<=n->Rep (Rf (Rf R m0.length) n) m' d w->Rep (Rf R m0.length) m' d w:=fun hn k=>Rep.frame (fun l o r z=>⟨by rcases r with (r | r) | r;exact .inl r;exact .inr r;exact .inr (by lia),z⟩) _ _ k
  unfold zR zG
  rw[e0]
  simp only
  have h1:=hc _ m d u v (fun l z=>.inl z) hm p q
  cases e1:cd d with
  | no=>trivial
  | exc k t=>rw[e1] at h1;obtain ⟨w,m',h1,l1,k1⟩:=h1;rw[h1];exact ⟨w,m',rfl,hm.trans l1,sh hl k1⟩
  | ok t =>
   rw[e1] at h1
   obtain ⟨w,m1,h1,l1,k1⟩:=h1
   rw[h1]
   simp only[Rz.bind,Rd.bind]
   cases t with
   | bl t =>
    rw[rep_bl.mp k1]
    have fr:∀ {ds:List Dat}{xs:List Wd},RepL (Rf R m0.length) m ds xs->RepL (Rf R m0.length) m1 ds xs:=fun k=>RepL.frame (fun l o r z=>⟨r,l1 l o z⟩) _ _ k
    cases t with
    | false=>exact wO hg hc he ds (i+1) k acc acx m1 (hm.trans l1) hr hi' hk' (fr b) (f.up l1)
    | true =>
     have h2:=he _ m1 d u v (fun l z=>.inl z) (hm.trans l1) (Rep.frame (fun l o r z=>⟨r,l1 l o z⟩) _ _ p) (Rep.frame (fun l o r z=>⟨r,l1 l o z⟩) _ _ q)
     have hl1:=(hm.trans l1).len
     simp only
     cases e2:ed d with
     | no=>trivial
     | exc k t=>rw[e2] at h2;obtain ⟨w,m',h2,l2,k2⟩:=h2;rw[h2];exact ⟨w,m',rfl,(hm.trans l1).trans l2,sh hl1 k2⟩
     | ok y =>
      rw[e2] at h2
      have h3:=h2.sim
      obtain ⟨w,m2,B,h2,l2,k2,nd,hB⟩:=h2
      obtain ⟨w',m2',h3,_,k3⟩:=h3
      rw[h2] at h3 ⊢
      cases h3
      simp only[Rz.bind,Rd.bind,b.len]
      split
      .refine wO hg hc he ds (i+1) k _ _ m2 ((hm.trans l1).trans l2) hr hi' hk' ((RepL.frame (fun l o r z=>⟨r,l2 l o z⟩) _ _ (fr b)).app (.cons (sh hl1 k3) .nil)) ((f.up l1).push (hm.trans l1) l2 ?_ nd hB)
       intro z
       rw[z] at k2
       exact k2
      .trivial
   | _=>trivial
theorem CompO.sim {R:Nat->Prop}{m:Me}{lv lw:Dat->Lv}{r:Rz}{rd:Rd}(h:CompO R m lv r rd)(hl:∀ds,lw (.lst ds)=if ds.all (fun x=>lv x == .full) then .full else .top):SimO R m lw r rd:=by
 cases rd with
 | no=>trivial
 | exc c d=>exact h
 | ok d =>
  obtain ⟨out,m2,outx,rfl,hlen,rfl,l2,k2,own⟩:=h
  have e:=k2.len
  cases z:out.all (fun x=>lv x == .full) with
  | true =>
   obtain ⟨A,a,b,c⟩:=own fun y hy=>by simpa using List.all_eq_true.mp z y hy
   have:=ziF (R:=R) (lv:=lw) l2 a b c (by rw[hl,z];rfl) e
   unfold zQ at this
   rw[if_pos hlen] at this
   exact this
  | false =>
   unfold alloc
   rw[<- e,if_pos hlen]
   have ll:=l2.len
   refine ⟨_,_,[m2.length],rfl,l2.trans (Le.app m2 _),?_,by simp,by simp;exact ll⟩
   rw[hl,z]
   refine ⟨out,_,outx,rfl,rfl,rfl,by simp,RepL.frame (fun l o r z=>⟨⟨r,?_⟩,Le.app m2 _ l o z⟩) out outx k2⟩
   have:=(List.getElem?_eq_some_iff.mp z).1
   simp;lia
theorem vY (lev:Nat->Lv):∀ (e:Ex) (d:Dat),flat d=true->lvE lev e d=.full
 | .tup a,d,h=>vY lev a d h
 | .comp _ _ _,d,h=>if_pos h
 | .compP _ _ _ _ _,d,h=>if_pos h
 | .lst _,d,h=>if_pos h
 | .pair _ _,d,h=>if_pos h
 | .call _ _,d,h=>if_pos h
 | .blt b _,d,h=>by cases b <;> exact if_pos h
 | .slL _ _,d,h=>if_pos h
 | .lrng _,d,h=>if_pos h
 | .slH _ _,d,h=>if_pos h
 | .slB _ _ _,d,h=>if_pos h
 | .bin _ _ _,d,h=>if_pos h
 | .var _,d,h=>if_pos h
 | .lit _,d,h=>if_pos h
 | .neg _,d,h=>if_pos h
 | .not _,d,h=>if_pos h
 | .and _ _,d,h=>if_pos h
 | .or _ _,d,h=>if_pos h
 | .cmp _ _ _,d,h=>if_pos h
 | .chain _ _ _ _ _,d,h=>if_pos h
 | .ife _ _ _,d,h=>if_pos h
 | .unit,d,h=>if_pos h
 | .isi _ _,d,h=>if_pos h
 | .dict0,d,h=>if_pos h
 | .idx _ _,d,h=>if_pos h
 | .meth _ _ _,d,h=>if_pos h
 | .rng _ _ _,d,h=>if_pos h
theorem SimO.newTop {R:Nat->Prop}{m0 m:Me}{ds:List Dat}{xs:List Wd}{lv:Dat->Lv}(hm:Le m0 m)(h:RepL (Rf R m0.length) m ds xs)(hl:lv (.lst ds)=.top):SimO R m0 lv (alloc m xs) (zQ ds):=by
 unfold zQ alloc
 rw[h.len]
 by_cases z:xs.length<=lim
 .rw[if_pos z,if_pos z]
  refine ⟨_,_,[m.length],rfl,hm.trans (Le.app m _),?_,by simp,by simp;exact hm.len⟩
  rw[hl]
  refine ⟨ds,_,xs,rfl,rfl,rfl,by simp,RepL.frame (fun l o r z=>⟨⟨r,?_⟩,Le.app m _ l o z⟩) ds xs h⟩
  have:=(List.getElem?_eq_some_iff.mp z).1
  simp;lia
 .rw[if_neg z,if_neg z];exact SimO.no
set_option tactic.hygienic true in
theorem zdV {R:Nat->Prop}{m:Me}{d e:Dat}{x y:Wd}{lv:Dat->Lv}(op:Bo)(hl:∀d,lv d=if flat d then .full else match d with | .lst ds=>if flatL ds then .full else .top | _=>.no)(a:Rep R m d x)(b:Rep R m e y):SimO R m lv (bop op x y m) (yw op d e):=by
 have hn:∀es,lv (.lst es)=if flatL es then .full else .top:=fun es=>by rw[hl];simp[flat]
 have hs:=zar op a b
 cases d with
 | lst ds =>
  obtain ⟨l,xs,rfl,_,hm,a1⟩:=rep_lst.mp a
  cases e with
  | lst es =>
   obtain ⟨l',ys,rfl,_,hk,b1⟩:=rep_lst.mp b
   cases op <;> first | exact SimO.no | skip
   simp only[bop,yw,hm,hk]
   exact SimO.new (a1.app b1) hn
  | int k =>
   rw[rep_int.mp b]
   cases op <;> first | exact SimO.no | skip
   simp only[bop,yw,hm]
   by_cases z:-(lim:Int)<=k/\k<=(lim:Int)
   .rw[if_pos z,if_pos z];exact SimO.new (a1.rep _) hn
   .rw[if_neg z,if_neg z];exact SimO.no
  | _=>exact SimO.no
 | int i =>
  cases e with
  | int j =>
   have hi:∀r:Rd,SimE R m (bop op x y m) r->(∀d,r=.ok d->flat d=true)->SimO R m lv (bop op x y m) r:=by
    intro r h f
    cases r with
    | ok d =>
     obtain ⟨w,m',h,l,k⟩:=h
     refine ⟨w,m',[],h,l,?_,List.nodup_nil,by simp⟩
     rw[hl,if_pos (f d rfl)]
     exact k.flat d w (f d rfl)
    | exc c d=>exact h
    | no=>trivial
   refine hi _ hs fun d h=>?_
   cases op <;> simp only[yw] at h
   .cases h;rfl
   .cases h;rfl
   all_goals (split at h <;> (cases h;try rfl))
  | _=>exact SimO.no
 | tup ds =>
  obtain ⟨xs,rfl,a1⟩:=rep_tup.mp a
  cases e with
  | tup es =>
   obtain ⟨ys,rfl,b1⟩:=rep_tup.mp b
   cases op <;> first | exact SimO.no | skip
   simp only[yw] at hs ⊢
   split at hs
   .next z =>
    rw[if_pos z]
    obtain ⟨w,m',h,l,k⟩:=hs
    refine ⟨w,m',[],h,l,?_,List.nodup_nil,by simp⟩
    rw[hl]
    split
    .next f=>exact k.flat _ w f
    .exact ⟨Rep.frame (fun l o r z=>⟨⟨r,by simp⟩,z⟩) _ w k,rfl⟩
   .next z=>rw[if_neg z];exact SimO.no
  | _=>exact SimO.no
 | _=>exact SimO.no
set_option tactic.hygienic true in
theorem yW {lev:Nat->Lv}{cl:Nat->List Wd->Me->Rz}{cd:Nat->List Dat->Rd}(H:CallO lev cl cd):∀ (e:Ex) (R:Nat->Prop) (m:Me) (de:DEn) (env:En),EnvR R m (zh e) de env->SimO R m (lvE lev e) (evE cl e env m) (evD cd e de)
 | .call k a,R,m,de,env,q=>by
  have e:lvE lev (.call k a)=xw lev k:=by funext d;simp[xw]
  rw[e]
  refine (za H.r a R m de env q).bindO fun d w m1 l1 k1=>?_
  exact H k _ _ _ m1 (zU k1)
 | .bin op a b,R,m,de,env,q=>by
  refine (za H.r a R m de env q.left).bindO fun d w m1 l1 k1=>?_
  refine (za H.r b _ m1 de env (q.right.up (fun _=>.inl) l1)).bindO fun d2 w2 m2 l2 k2=>?_
  exact zdV op (fun d=>by cases d <;> rfl) (k1.up _ l2) k2
 | .lrng a,R,m,de,env,q=>by
  refine (za H.r a R m de env q).bindO fun d w m1 l1 k1=>?_
  cases d with
  | int j =>
   rw[rep_int.mp k1]
   simp only
   split
   .exact SimO.new (wq 1 _ 0) (fun es=>by simp[flat])
   .exact SimO.no
  | _=>exact SimO.no
 | .slL _ _,R,m,de,env,q=>SimO.no
 | .slH _ _,R,m,de,env,q=>SimO.no
 | .slB _ _ _,R,m,de,env,q=>SimO.no
 | .blt b a,R,m,de,env,q=>by
  by_cases hb:b=.list
  .subst hb
   refine (za H.r a R m de env q).bindO fun d w m1 l1 k1=>?_
   have k2:=zU k1
   simp only[yq]
   split
   .next x hx =>
    rw[hx] at k2
    obtain ⟨x',r,e0,p,q0⟩:=k2.cons_inv
    rw[e0,q0.nil_inv]
    split
    .next z=>obtain ⟨ys,h,q⟩:=xF p z;simp only[wD,h];exact SimO.new q (fun es=>by simp[flat])
    .exact SimO.no
   .exact SimO.no
  .exact (za H.r (.blt b a) R m de env q).own fun d=>by cases b <;> first | exact absurd rfl hb | rfl
 | .lst a,R,m,de,env,q=>by
  have ih:=yW H a R m de env q
  show SimO R m _ ((evE cl a env m).bind fun x m1=>alloc m1 (zn x)) ((evD cd a de).bind fun x=>zQ (zy x))
  cases ea:evD cd a de with
  | no=>trivial
  | exc c d=>rw[ea] at ih;obtain ⟨w,m',h,l,k⟩:=ih;rw[h];exact ⟨w,m',rfl,l,k⟩
  | ok d =>
   rw[ea] at ih
   have hs:=ih.sim
   obtain ⟨w,m1,A,h,l,k,nd,hA⟩:=ih
   obtain ⟨w',m1',h',_,ks⟩:=hs
   rw[h] at h';cases h'
   rw[h]
   simp only[Rz.bind,Rd.bind]
   have ka:=zU ks
   cases z:lvE lev a (.tup (zy d)) == .full with
   | false=>exact SimO.newTop l ka (by simp[flat,z])
   | true =>
    have z':lvE lev a (.tup (zy d))=.full:=by simpa using z
    have own:∃B,OwnL m1 (zy d) (zn w) B/\B.Nodup/\∀b∈B,m.length<=b:=by
     cases d with
     | tup ds =>
      rw[show lvE lev a (.tup ds)=.full from z'] at k
      obtain ⟨xs,rfl,k1⟩:=own_tup.mp k
      exact ⟨A,k1,nd,hA⟩
     | _=>refine ⟨[],?_,List.nodup_nil,by simp⟩;exact ka.flat _ _ rfl
    obtain ⟨B,o,nb,hB⟩:=own
    exact ziF l o nb hB (by simp[flat,z]) ka.len
 | .tup a,R,m,de,env,q=>by
  have ih:=yW H a R m de env q
  have el:lvE lev (.tup a)=lvE lev a:=by funext d;simp
  rw[el]
  show SimO R m _ ((evE cl a env m).bind fun x m1=>if (zn x).length<=lim then .ok (.tup (zn x)) m1 else .no) ((evD cd a de).bind fun x=>if (zy x).length<=lim then .ok (.tup (zy x)) else .no)
  cases ea:evD cd a de with
  | no=>trivial
  | exc c d=>rw[ea] at ih;obtain ⟨w,m',h,l,k⟩:=ih;rw[h];exact ⟨w,m',rfl,l,k⟩
  | ok d =>
   rw[ea] at ih
   have hs:=ih.sim
   obtain ⟨w,m1,A,h,l,k,nd,hA⟩:=ih
   obtain ⟨w',m1',h',_,ks⟩:=hs
   rw[h] at h';cases h'
   rw[h]
   have ka:=zU ks
   simp only[Rz.bind,Rd.bind,ka.len]
   split
   .cases d with
    | tup ds =>
     obtain ⟨xs,rfl,_⟩:=rep_tup.mp ks
     exact ⟨_,m1,A,rfl,l,k,nd,hA⟩
    | _ =>
     refine ⟨_,m1,[],rfl,l,?_,List.nodup_nil,by simp⟩
     rw[vY lev a _ (by rfl)]
     exact own_tup.mpr ⟨_,rfl,ka.flat _ _ rfl⟩
   .trivial
 | .pair a b,R,m,de,env,q=>by
  have iha:=yW H a R m de env q.left
  show SimO R m _ ((evE cl a env m).bind fun x m1=>(evE cl b env m1).bind fun y m2=>.ok (.tup (x::zn y)) m2) ((evD cd a de).bind fun x=>(evD cd b de).bind fun y=>.ok (.tup (x::zy y)))
  cases ea:evD cd a de with
  | no=>trivial
  | exc c d=>rw[ea] at iha;obtain ⟨w,m',h,l,k⟩:=iha;rw[h];exact ⟨w,m',rfl,l,k⟩
  | ok d =>
   rw[ea] at iha
   have hs:=iha.sim
   obtain ⟨w,m1,A,h,l,k,nd,hA⟩:=iha
   obtain ⟨w',m1',h',_,ks⟩:=hs
   rw[h] at h';cases h'
   rw[h]
   simp only[Rz.bind,Rd.bind]
   have ihb:=yW H b _ m1 de env (q.right.up (R':=Rf R m.length) (fun _=>.inl) l)
   cases eb:evD cd b de with
   | no=>trivial
   | exc c d=>rw[eb] at ihb;obtain ⟨w,m',h,l2,k⟩:=ihb;rw[h];exact SimE.lift (rd:=.exc c d) l ⟨w,m',rfl,l2,k⟩
   | ok d2 =>
    rw[eb] at ihb
    have hs2:=ihb.sim
    obtain ⟨w2,m2,A2,h2,l2,k2,nd2,hA2⟩:=ihb
    obtain ⟨w2',m2',h2',_,ks2⟩:=hs2
    rw[h2] at h2';cases h2'
    rw[h2]
    simp only
    have ka:=zU ks2
    have hl1:=l.len
    cases z:(lvE lev a d == .full && lvE lev b (.tup (zy d2)) == .full) with
    | false =>
     have:SimE R m (.ok (.tup (w::zn w2)) m2) (.ok (.tup (d::zy d2))) :=
      SimE.lift l (SimE.lift l2 (ziC (rep_tup.mpr ⟨_,rfl,.cons (ks.up _ l2) ka⟩)))
     obtain ⟨w3,m3,h3,l3,k3⟩:=this
     refine ⟨w3,m3,[],h3,l3,?_,List.nodup_nil,by simp⟩
     by_cases f:flat (.tup (d::zy d2))=true
     .rw[vY lev _ _ f];exact k3.flat _ w3 f
     .have:lvE lev (.pair a b) (.tup (d::zy d2))=.no:=by
       rw[zax,if_neg f];simp only[z];rfl
      rw[this]
      exact ⟨Rep.frame (fun l o r z=>⟨⟨r,by simp⟩,z⟩) _ w3 k3,rfl⟩
    | true =>
     rw[Bool.and_eq_true] at z
     have z1:lvE lev a d=.full:=by simpa using z.1
     have z2:lvE lev b (.tup (zy d2))=.full:=by simpa using z.2
     rw[z1] at k
     have own:∃B,OwnL m2 (zy d2) (zn w2) B/\B.Nodup/\∀b∈B,m1.length<=b:=by
      cases d2 with
      | tup ds =>
       rw[show lvE lev b (.tup ds)=.full from z2] at k2
       obtain ⟨xs,rfl,k3⟩:=own_tup.mp k2
       exact ⟨A2,k3,nd2,hA2⟩
      | _=>refine ⟨[],?_,List.nodup_nil,by simp⟩;exact ka.flat _ _ rfl
     obtain ⟨B,o,nb,hB⟩:=own
     refine ⟨_,m2,A++B,rfl,l.trans l2,?_,?_,?_⟩
     .have:lvE lev (.pair a b) (.tup (d::zy d2))=.full:=by
       rw[zax];simp only[z1,z2];simp
      rw[this]
      exact own_tup.mpr ⟨_,rfl,.cons (Own.frame d w A (fun x _ o q=>l2 x o q) k) o⟩
     .refine List.nodup_append.mpr ⟨nd,nb,fun x hx y hy e=>?_⟩
      have:=Own.lt d w A k x hx
      have:=hB y hy
      lia
     .intro x hx
      rcases List.mem_append.mp hx with hx | hx
      .exact hA x hx
      .have:=hB x hx;lia
 | .comp elt it cond,R,m,de,env,q=>by
  refine (za H.r it R m de env q.left).bindO fun d w m1 l1 k1=>?_
  have hc:∀ (R':Nat->Prop) m' d x,(∀l,Rf R m.length l->R' l)->Le m1 m'->Rep R' m' d x->SimE R' m' (evE cl cond (env++[some x]) m') (evD cd cond (de++[some d])) :=
   fun R' m' d x hR l k=>za H.r cond R' m' _ _ ((q.right.right.up (fun l h=>hR l (.inl h)) (l1.trans l)).push k)
  have he:∀ (R':Nat->Prop) m' d x,(∀l,Rf R m.length l->R' l)->Le m1 m'->Rep R' m' d x->SimO R' m' (lvE lev elt) (evE cl elt (env++[some x]) m') (evD cd elt (de++[some d])) :=
   fun R' m' d x hR l k=>yW H elt R' m' _ _ ((q.right.left.up (fun l h=>hR l (.inl h)) (l1.trans l)).push k)
  have hl:∀ds,lvE lev (.comp elt it cond) (.lst ds)=if ds.all (fun x=>lvE lev elt x == .full) then .full else .top:=fun ds=>by simp[flat]
  have acc0:AccO m1 m1 (lvE lev elt) [] []:=fun _=>⟨[],.nil,List.nodup_nil,by simp⟩
  cases d with
  | tup ds =>
   obtain ⟨xs,rfl,k2⟩:=rep_tup.mp k1
   exact (xH hc he ds xs [] [] m1 (Le.refl _) (k2.up _ (Le.refl _)) .nil acc0).sim hl
  | scr ns =>
   rw[rep_scr.mp k1]
   exact (xH hc he (ns.map .int) (ns.map .int) [] [] m1 (Le.refl _) (ziE ns) .nil acc0).sim hl
  | lst ds =>
   obtain ⟨l,xs,rfl,_,hm,k2⟩:=rep_lst.mp k1
   simp only[itD]
   by_cases z:ds.length<=lim
   .rw[if_pos z]
    have hl':=k2.len
    exact (wN hm hc he ds 0 (lim+1) [] [] m1 (Le.refl _) (by simpa using (k2.up _ (Le.refl _))) (by lia) (by lia) .nil acc0).sim hl
   .rw[if_neg z];exact SimO.no
  | _=>exact SimO.no
 | .compP k elt a b cond,R,m,de,env,q=>by
  refine (za H.r a R m de env q.left).bindO fun d w m1 l1 k1=>?_
  refine (za H.r b _ m1 de env (q.right.left.up (fun l h=>.inl h) l1)).bindO fun d' w' m2 l2 k2=>?_
  have hc:∀ (R':Nat->Prop) m' (p:Dat×Dat) x y,(∀l,Rf (Rf R m.length) m1.length l->R' l)->Le m2 m'->Rep R' m' p.1 x->Rep R' m' p.2 y->SimE R' m' (evE cl cond (env++[some x]++[some y]) m') (evD cd cond (de++[some p.1]++[some p.2])) :=
   fun R' m' d x y hR l k k'=>za H.r cond R' m' _ _ (((q.right.right.right.up (fun l h=>hR l (.inl (.inl h))) ((l1.trans l2).trans l)).push k).push k')
  have he:∀ (R':Nat->Prop) m' (p:Dat×Dat) x y,(∀l,Rf (Rf R m.length) m1.length l->R' l)->Le m2 m'->Rep R' m' p.1 x->Rep R' m' p.2 y->SimO R' m' (lvE lev elt) (evE cl elt (env++[some x]++[some y]) m') (evD cd elt (de++[some p.1]++[some p.2])) :=
   fun R' m' d x y hR l k k'=>yW H elt R' m' _ _ (((q.right.right.left.up (fun l h=>hR l (.inl (.inl h))) ((l1.trans l2).trans l)).push k).push k')
  have hl:∀ds,lvE lev (.compP k elt a b cond) (.lst ds)=if ds.all (fun x=>lvE lev elt x == .full) then .full else .top:=fun ds=>by simp[flat]
  have acc0:AccO m2 m2 (lvE lev elt) [] []:=fun _=>⟨[],.nil,List.nodup_nil,by simp⟩
  cases e:xh k d d' with
  | none=>exact SimO.no
  | some ps =>
   obtain ⟨pr,hln⟩:=kL e ((k1.up _ l2).up m2.length (Le.refl _)) (k2.up m2.length (Le.refl _))
   exact (wO pr hc he ps 0 (lim+1) [] [] m2 (Le.refl _) (by simp) (by simp) (by lia) .nil acc0).sim hl
 | .var i,R,m,de,env,q=>(za H.r _ R m de env q).own fun d=>rfl
 | .lit w,R,m,de,env,q=>(za H.r _ R m de env q).own fun d=>rfl
 | .neg a,R,m,de,env,q=>(za H.r _ R m de env q).own fun d=>rfl
 | .not a,R,m,de,env,q=>(za H.r _ R m de env q).own fun d=>rfl
 | .and a b,R,m,de,env,q=>(za H.r _ R m de env q).own fun d=>rfl
 | .or a b,R,m,de,env,q=>(za H.r _ R m de env q).own fun d=>rfl
 | .cmp op a b,R,m,de,env,q=>(za H.r _ R m de env q).own fun d=>rfl
 | .chain o p a b c,R,m,de,env,q=>(za H.r _ R m de env q).own fun d=>rfl
 | .ife _ _ _,R,m,de,env,q=>SimO.no
 | .unit,R,m,de,env,q=>(za H.r _ R m de env q).own fun d=>rfl
 | .isi t a,R,m,de,env,q=>(za H.r _ R m de env q).own fun d=>rfl
 | .dict0,R,m,de,env,q=>(za H.r _ R m de env q).own fun d=>rfl
 | .idx a b,R,m,de,env,q=>(za H.r _ R m de env q).own fun d=>rfl
 | .meth _ _ _,R,m,de,env,q=>(za H.r _ R m de env q).own fun d=>rfl
 | .rng a b c,R,m,de,env,q=>(za H.r _ R m de env q).own fun d=>rfl
set_option genInjectivity false in
inductive Rsd where
 | next (de:DEn) (lv:List Lv) | ret (d:Dat) (l:Lv) | brk (de:DEn) (lv:List Lv) | cont (de:DEn) (lv:List Lv) | exc (c:Nat) (d:Dat) | no
deriving Inhabited
noncomputable def Rd.bindS (r:Rd)(f:Dat->Rsd):Rsd:=match r with
 | .ok d=>f d
 | .exc c d=>.exc c d
 | .no=>.no
noncomputable def Rd.okS (r:Rd)(f:Dat->Rsd):Rsd:=match r with
 | .ok d=>f d
 | _=>.no
noncomputable def downs:List Nat->List Lv->List Lv
 | [],lv=>lv
 | i::vs,lv=>downs vs (lv.set i .no)
noncomputable def topD (de:DEn)(j:Nat)(lv:List Lv):List Lv:=match de[j]?,lv[j]? with
 | some (some (.lst _)),some .full=>lv.set j .top
 | some (some (.lst _)),some .top=>lv.set j .top
 | _,_=>lv.set j .no
noncomputable def xi (e:Ex)(de:DEn)(lv:List Lv):List Lv:=match e with
 | .idx (.var j) b=>topD de j (downs (zh b) lv)
 | e=>downs (zh e) lv
mutual
noncomputable def dep:Dat->Nat
 | .lst xs=>depL xs+1
 | .tup xs=>depL xs+1
 | .non=>0
 | .bl _=>0
 | .int _=>0
 | .str _=>0
 | .scr _=>0
noncomputable def depL:List Dat->Nat
 | []=>0
 | d::ds=>max (dep d) (depL ds)
end
noncomputable def yd (lv:List Lv)(j:Nat):Bool:=match lv[j]? with
 | some .top=>true
 | some .full=>true
 | _=>false
noncomputable def kM (lev:Nat->Lv)(e:Ex)(d:Dat)(j:Nat)(de:DEn)(lv:List Lv):Option (DEn×List Lv) :=
 if yd lv j=false then none
 else if lvE lev e d=.full then some (de,lv)
 else if j∈zh e then none
 else match e with
  | .var i=>if lv[i]?=some .full/\lv[j]?=some .full then some (de.set i none,lv) else some (de,(downs [i] lv).set j .top)
  | e=>some (de,(xi e de lv).set j .top)
noncomputable def zD {α:Type}(body:α->DEn->List Lv->Rsd):List α->DEn->List Lv->Rsd
 | [],de,lv=>.next de lv
 | x::xs,de,lv=>match body x de lv with
  | .next d1 l1=>zD body xs d1 l1
  | .cont d1 l1=>zD body xs d1 l1
  | .brk d1 l1=>.next d1 l1
  | r=>r
noncomputable def lvF (d:Dat):Lv:=if flat d then .full else .no
noncomputable def lvR (lev:Nat->Lv)(e:Ex)(d:Dat)(lv:List Lv):Lv:=if flat d then .full else match e with
 | .var i=>(lv[i]?).getD .no
 | .tup (.pair (.var a) (.pair (.var b) .unit))=>if a≠b/\lv[a]?=some .full/\lv[b]?=some .full then .full else .no
 | .blt .sorted (.pair (.idx (.var j) (.var _)) .unit)=>if lv[j]?=some .full then .full else .no
 | e=>lvE lev e d
noncomputable def wP (de:DEn)(j:Nat):Option (List Dat):=match de[j]? with
 | some (some (.lst ds))=>some ds
 | _=>none
noncomputable def xK (lev:Nat->Lv)(i:Nat)(e:Ex)(d:Dat)(de:DEn)(lv:List Lv):Rsd :=
 if lvE lev e d=.full then .next (de.set i (some d)) (lv.set i .full) else .next (de.set i (some d)) ((xi e de lv).set i (lvE lev e d))
noncomputable def zfP (j:Nat)(r:Dat)(de:DEn)(lv:List Lv)(f:List Dat->Option (List Dat)):Option DEn:=match r,wP de j with
 | .int k,some ds=>match (ix ds.length k).bind fun p=>(ds[p]?).bind fun d=>match d with
   | .lst es=>(f es).map fun es1=>ds.set p (.lst es1)
   | _=>none with
  | some ds1=>if lv[j]?=some .full then some (de.set j (some (.lst ds1))) else none
  | none=>none
 | _,_=>none
noncomputable def toS (o:Option DEn)(lv:List Lv):Rsd:=match o with
 | some de=>.next de lv
 | none=>.no
noncomputable def zK (s t:Sm):Option (Nat×Nat×Ex×Ex×Ex×Ex×Ex):=match t with
 | .swapS (.var i1) p (.var i2) q (.idx (.var i3) c) (.idx (.var i4) d)=>match s with
  | .asg i (.idx (.var j) r)=>if i1=i/\i2=i/\i3=i/\i4=i/\i≠j then some (i,j,r,p,q,c,d) else none
  | _=>none
 | _=>none
noncomputable def yM (c:Int):List Dat->Option (List Dat)
 | []=>some []
 | .lst es::r=>if es.length < lim then (yM c r).map (.lst (es++[.int c])::·) else none
 | _=>none
noncomputable def wQ (cl:Nat->List Dat->Rd)(t:Nat):List Dat->Bool
 | []=>true
 | .lst (d::_)::r=>(match cl t [d] with
  | .ok (.bl b)=>b
  | _=>false) && wQ cl t r
 | _=>false
noncomputable def zhe (lev:Nat->Lv)(cl:Nat->List Dat->Rd)(e:Ex)(de:DEn)(lv:List Lv):Rsd:=match e with
  | .meth .append (.var j) (.pair e .unit)=>(evD cl e de).okS fun d=>match wP de j with
   | some ds=>if ds.length < lim then match kM lev e d j de lv with
    | some (de1,lv1)=>.next (de1.set j (some (.lst (ds++[d])))) lv1
    | none=>.no
    else .no
   | none=>.no
  | .meth .append (.idx (.var j) r) (.pair e .unit)=>(evD cl r de).okS fun r=>(evD cl e de).okS fun d=>if lvE lev e d=.full then toS (zfP j r de lv fun es=>if es.length < lim then some (es++[d]) else none) lv else .no
  | .meth .reverse (.var j) .unit=>match wP de j with
   | some ds=>if yd lv j then .next (de.set j (some (.lst ds.reverse))) lv else .no
   | none=>.no
  | .meth _ _ _=>.no
  | e=>(evD cl e de).bindS fun _=>.next de lv
noncomputable def zay:Dat->Option (Int×Int)
 | .tup [.int i,.int j]=>some (i,j)
 | _=>none
noncomputable def vZ:List Dat->Option (List (Int×Int))
 | []=>some []
 | w::r=>match zay w,vZ r with
  | some p,some q=>some (p::q)
  | _,_=>none
noncomputable def zfQ (t n k p s:Nat)(de:DEn)(lv:List Lv):Rsd:=match de[t]?,de[n]? with
 | some (some (.lst ds)),some (some (.int i))=>match vZ ds with
  | some ps=>if zex i ps=true/\ps.length<=1000/\k < de.length/\p < de.length/\s < de.length then .next (((de.set k none).set p none).set s none) (((lv.set k .full).set p .full).set s .full) else .no
  | none=>.no
 | _,_=>.no
noncomputable def exD (lev:Nat->Lv)(cl:Nat->List Dat->Rd):Sm->DEn->List Lv->Rsd
 | .skip,de,lv=>.next de lv
 | .seq a b,de,lv=>match zK a b with
  | some _=>.no
  | none=>match exD lev cl a de lv with
   | .next d1 l1=>exD lev cl b d1 l1
   | r=>r
 | .asg i e,de,lv=>(evD cl e de).bindS fun d=>xK lev i e d de lv
 | .asgS _ _ _,_,_=>.no
 | .swapS _ _ _ _ _ _,_,_=>.no
 | .aug _ _ _,_,_=>.no
 | .augS _ _ _ _,_,_=>.no
 | .ite c a b,de,lv=>(evD cl c de).bindS fun x=>match x with
  | .bl true=>exD lev cl a de lv
  | .bl false=>exD lev cl b de lv
  | _=>.no
 | .forv i it body,de,lv=>(evD cl it de).bindS fun d=>match itD d with
  | some xs=>zD (fun x de lv=>exD lev cl body (de.set i (some x)) (lv.set i (lvF x))) xs de (if flat d then lv else xi it de lv)
  | none=>.no
 | .fort i j it body,de,lv=>(evD cl it de).bindS fun d=>match itD d with
  | some xs=>zD (fun x de lv=>match x with
    | .tup [a,b]=>exD lev cl body ((de.set i (some a)).set j (some b)) ((lv.set i (lvF a)).set j (lvF b))
    | _=>.no) xs de (if flat d then lv else xi it de lv)
  | none=>.no
 | .while _ _,_,_=>.no
 | .ret e,de,lv=>(evD cl e de).bindS fun d=>.ret d (lvR lev e d lv)
 | .retN,_,_=>.no
 | .expr e,de,lv=>zhe lev cl e de lv
 | .forA _ _ _,_,_=>.no
 | .forB i j t c,de,lv=>match wP de j with
  | some ds=>match yM c ds with
   | some ds'=>if wQ cl t ds=true/\i≠j/\i < de.length/\lv[j]?=some .full/\ds.length<=lim then .next ((de.set i none).set j (some (.lst ds'))) (lv.set i .full) else .no
   | none=>.no
  | none=>.no
 | .forZ _ _ _ _ _,_,_=>.no
 | .forS _ _ _ _,_,_=>.no
 | .forC _ _,_,_=>.no
 | .appPop _ _ _ _,_,_=>.no
 | .forE _ _ _ _,_,_=>.no
 | .swapI _ _ _ _ _,_,_=>.no
 | .popV _ _,_,_=>.no
 | .popI _ _ _ _,_,_=>.no
 | .unp3 _ _ _ _,_,_=>.no
 | .chk t n k p s,de,lv=>zfQ t n k p s de lv
 | .brk,_,_=>.no
 | .cont,_,_=>.no
 | .never,_,_=>.no
theorem jx {lev:Nat->Lv}{cl:Nat->List Dat->Rd}{a b:Sm}{de:DEn}{lv:List Lv}:exD lev cl (.seq a b) de lv=match zK a b with
  | some _=>.no
  | none=>match exD lev cl a de lv with
   | .next d1 l1=>exD lev cl b d1 l1
   | r=>r:=rfl
noncomputable def yN (fn:Fn)(ds:List Dat):DEn:=ds.map some++List.replicate (fn.sz - ds.length) none
noncomputable def yX (fn:Fn)(ds:List Dat):List Lv:=ds.map lvF++List.replicate (fn.sz - ds.length) .full
noncomputable def qy:Lv->Lv->Bool
 | _,.no=>true
 | .full,.full=>true
 | .top,.top=>true
 | _,_=>false
noncomputable def xL (l:Lv):Rsd->Rd
 | .next _ _=>.ok .non
 | .ret d k=>if flat d || qy k l then .ok d else .no
 | .exc c d=>.exc c d
 | _=>.no
noncomputable def yY (lev:Nat->Lv)(cl:Nat->List Dat->Rd)(k:Nat)(fn:Fn)(ds:List Dat):Rd :=
 if ds.length=fn.ar then xL (lev k) (exD lev cl fn.body (yN fn ds) (yX fn ds)) else .no
noncomputable def kN (lev:Nat->Lv)(T:List Fn):Nat->Nat->List Dat->Rd
 | 0,_,_=>.no
 | d+1,k,ds=>match T[k]? with
  | some fn=>yY lev (kN lev T d) k fn ds
  | none=>.no
def yi (RR:Nat->Prop)(A:Nat->List Nat):Nat->Prop:=fun l=>RR l/\∀i,l∉A i
structure Inv (lo:Nat)(RR:Nat->Prop)(m:Me)(de:DEn)(lv:List Lv)(env:En)(A:Nat->List Nat):Prop where
 len:de.length=env.length
 lvl:lv.length=de.length
 rr:∀l,lo<=l->RR l
 lom:lo<=m.length
 slot:∀i d l,de[i]?=some (some d)->lv[i]?=some l->∃w,env[i]?=some (some w)/\RepO (yi RR A) m l d w (A i)
 nd:∀i,(A i).Nodup
 dj:∀i j a,a∈A i->a∈A j->i=j
 bd:∀i a,a∈A i->lo<=a/\a < m.length
def Keep (A:Nat->List Nat)(m:Me)(A':Nat->List Nat)(m':Me):Prop:=(∀ (l:Nat) o,(∀i,l∉A i)->m[l]?=some o->(∀i,l∉A' i)/\m'[l]?=some o)/\m.length<=m'.length
theorem Keep.refl (A:Nat->List Nat)(m:Me):Keep A m A m:=⟨fun _ _ h k=>⟨h,k⟩,Nat.le_refl _⟩
theorem Keep.trans {A B C:Nat->List Nat}{m m1 m2:Me}(h:Keep A m B m1)(k:Keep B m1 C m2):Keep A m C m2 :=
 ⟨fun l o a b=>k.1 l o (h.1 l o a b).1 (h.1 l o a b).2,Nat.le_trans h.2 k.2⟩
theorem Keep.rep {A A':Nat->List Nat}{m m':Me}{RR:Nat->Prop}{d:Dat}{w:Wd}(h:Keep A m A' m')(q:Rep (yi RR A) m d w):Rep (yi RR A') m' d w :=
 Rep.frame (fun l o r z=>⟨⟨r.1,(h.1 l o r.2 z).1⟩,(h.1 l o r.2 z).2⟩) d w q
theorem Keep.repL {A A':Nat->List Nat}{m m':Me}{RR:Nat->Prop}{d:List Dat}{w:List Wd}(h:Keep A m A' m')(q:RepL (yi RR A) m d w):RepL (yi RR A') m' d w :=
 RepL.frame (fun l o r z=>⟨⟨r.1,(h.1 l o r.2 z).1⟩,(h.1 l o r.2 z).2⟩) d w q
theorem Inv.getlv {lo:Nat}{RR:Nat->Prop}{m:Me}{de:DEn}{lv:List Lv}{env:En}{A:Nat->List Nat}(I:Inv lo RR m de lv env A){i:Nat}{o:Option Dat}(h:de[i]?=some o):∃l,lv[i]?=some l:=by
 obtain ⟨hi,_⟩:=List.getElem?_eq_some_iff.mp h
 exact ⟨_,List.getElem?_eq_getElem (by rw[I.lvl];exact hi)⟩
theorem Inv.envR {lo:Nat}{RR:Nat->Prop}{m:Me}{de:DEn}{lv:List Lv}{env:En}{A:Nat->List Nat}(I:Inv lo RR m de lv env A)(vs:List Nat):EnvR RR m vs de env :=
 ⟨I.len,fun i _ d h=>by
  obtain ⟨l,hl⟩:=I.getlv h
  obtain ⟨w,a,b⟩:=I.slot i d l h hl
  exact ⟨w,a,b.rep (fun _ z=>z.1) (fun a ha=>I.rr a (I.bd i a ha).1)⟩⟩
theorem Inv.ext {lo:Nat}{RR:Nat->Prop}{m m':Me}{de:DEn}{lv:List Lv}{env:En}{A:Nat->List Nat}(I:Inv lo RR m de lv env A)(h:Le m m'):Inv lo RR m' de lv env A :=
 ⟨I.len,I.lvl,I.rr,Nat.le_trans I.lom h.len,fun i d l a b=>by
  obtain ⟨w,p,q⟩:=I.slot i d l a b
  exact ⟨w,p,q.frame (fun l o r z=>⟨r,h l o z⟩) (fun l _ o z=>h l o z)⟩,I.nd,I.dj,fun i a ha=>⟨(I.bd i a ha).1,Nat.lt_of_lt_of_le (I.bd i a ha).2 h.len⟩⟩
theorem jy {A:Nat->List Nat}{m m':Me}(h:Le m m'):Keep A m A m':=⟨fun l o a b=>⟨a,h l o b⟩,h.len⟩
noncomputable def upd (A:Nat->List Nat)(i:Nat)(B:List Nat):Nat->List Nat:=fun k=>if k=i then B else A k
theorem zb {A:Nat->List Nat}{i:Nat}{B:List Nat}:upd A i B i=B:=by simp[upd]
theorem zd {A:Nat->List Nat}{i k:Nat}{B:List Nat}(h:k≠i):upd A i B k=A k:=by simp[upd,h]
set_option tactic.hygienic true in
theorem Inv.store {lo:Nat}{RR:Nat->Prop}{m m':Me}{de:DEn}{lv:List Lv}{env:En}{A:Nat->List Nat}(I:Inv lo RR m de lv env A)(h:Le m m')(i:Nat){d:Dat}{l:Lv}{w:Wd}{B:List Nat}
  (q:RepO (fun l=>(yi RR A l\/m.length<=l)/\l∉B) m' l d w B) (nd:B.Nodup) (hB:∀b∈B,m.length<=b) :
  Inv lo RR m' (de.set i (some d)) (lv.set i l) (env.set i (some w)) (upd A i B)/\Keep A m (upd A i B) m':=by
 have hlt:=q.lt
 have fr:∀ (x:Nat) (o:Ob),(∀k,x∉A k)->m[x]?=some o->∀k,x∉upd A i B k:=by
  intro x o hx hm k
  by_cases e:k=i
  .subst e;rw[zb];intro hb
   have:=hB x hb
   have:=(List.getElem?_eq_some_iff.mp hm).1
   lia
  .rw[zd e];exact hx k
 refine ⟨⟨by simp[I.len],by simp[I.lvl],I.rr,Nat.le_trans I.lom h.len,?_,?_,?_,?_⟩,⟨fun x o hx hm=>⟨fr x o hx hm,h x o hm⟩,h.len⟩⟩
 .intro k e l' h1 h2
  by_cases z:k=i
  .rw[z] at h1 h2 ⊢
   rw[List.getElem?_set] at h1 h2
   rw[if_pos rfl] at h1 h2
   split at h1
   .split at h2
    .next q1 q2 =>
     cases h1;cases h2
     refine ⟨w,by rw[List.getElem?_set,if_pos rfl,if_pos (by rw[<- I.len];exact q1)],?_⟩
     rw[zb]
     refine q.frame (fun x o r hm=>⟨⟨?_,fun k=>?_⟩,hm⟩) (fun _ _ _ z=>z)
     .rcases r.1 with r1 | r1
      .exact r1.1
      .exact I.rr x (Nat.le_trans I.lom r1)
     .by_cases e:k=i
      .subst e;rw[zb];exact r.2
      .rw[zd e]
       rcases r.1 with r1 | r1
       .exact r1.2 k
       .intro ha;have:=(I.bd k x ha).2;lia
    .cases h2
   .cases h1
  .rw[List.getElem?_set_ne (Ne.symm z)] at h1 h2
   obtain ⟨w',a,b⟩:=I.slot k e l' h1 h2
   refine ⟨w',by rw[List.getElem?_set_ne (Ne.symm z)];exact a,?_⟩
   rw[zd z]
   exact b.frame (fun x o r hm=>⟨⟨r.1,fr x o r.2 hm⟩,h x o hm⟩) (fun x _ o hm=>h x o hm)
 .intro k
  by_cases e:k=i
  .subst e;rw[zb];exact nd
  .rw[zd e];exact I.nd k
 .intro k j a ha hb
  by_cases e:k=i
  .subst e;rw[zb] at ha
   by_cases f:j=k
   .exact f.symm
   .rw[zd f] at hb
    have:=hB a ha
    have:=(I.bd j a hb).2
    lia
  .rw[zd e] at ha
   by_cases f:j=i
   .subst f;rw[zb] at hb
    have:=hB a hb
    have:=(I.bd k a ha).2
    lia
   .rw[zd f] at hb;exact I.dj k j a ha hb
 .intro k a ha
  by_cases e:k=i
  .subst e;rw[zb] at ha
   exact ⟨Nat.le_trans I.lom (hB a ha),hlt a ha⟩
  .rw[zd e] at ha
   exact ⟨(I.bd k a ha).1,Nat.lt_of_lt_of_le (I.bd k a ha).2 h.len⟩
theorem Inv.weak {lo:Nat}{RR:Nat->Prop}{m:Me}{de:DEn}{lv:List Lv}{env:En}{A:Nat->List Nat}(I:Inv lo RR m de lv env A)(i:Nat){l:Lv}{B:List Nat}
  (hB:∀b∈B,b∈A i) (nd:B.Nodup) (q:∀d w,de[i]?=some (some d)->env[i]?=some (some w)->RepO (yi RR (upd A i B)) m l d w B) :
  Inv lo RR m de (lv.set i l) env (upd A i B)/\Keep A m (upd A i B) m:=by
 have fr:∀x,(∀k,x∉A k)->∀k,x∉upd A i B k:=by
  intro x hx k
  by_cases e:k=i
  .subst e;rw[zb];intro hb;exact hx _ (hB x hb)
  .rw[zd e];exact hx k
 have sub:∀k a,a∈upd A i B k->a∈A k:=by
  intro k a ha
  by_cases e:k=i
  .subst e;rw[zb] at ha;exact hB a ha
  .rw[zd e] at ha;exact ha
 refine ⟨⟨I.len,by simp[I.lvl],I.rr,I.lom,?_,?_,fun k j a ha hb=>I.dj k j a (sub k a ha) (sub j a hb),fun k a ha=>I.bd k a (sub k a ha)⟩,⟨fun x o hx hm=>⟨fr x hx,hm⟩,Nat.le_refl _⟩⟩
 .intro k e l' h1 h2
  by_cases z:k=i
  .subst z
   rw[List.getElem?_set,if_pos rfl] at h2
   split at h2
   .cases h2
    obtain ⟨l0,hl0⟩:=I.getlv h1
    obtain ⟨w,a,_⟩:=I.slot k e l0 h1 hl0
    refine ⟨w,a,?_⟩
    rw[zb]
    exact q e w h1 a
   .cases h2
  .rw[List.getElem?_set_ne (Ne.symm z)] at h2
   obtain ⟨w',a,b⟩:=I.slot k e l' h1 h2
   refine ⟨w',a,?_⟩
   rw[zd z]
   exact b.frame (fun x o r hm=>⟨⟨r.1,fr x r.2⟩,hm⟩) (fun x _ o hm=>hm)
 .intro k
  by_cases e:k=i
  .subst e;rw[zb];exact nd
  .rw[zd e];exact I.nd k
theorem Inv.down {lo:Nat}{RR:Nat->Prop}{m:Me}{de:DEn}{lv:List Lv}{env:En}{A:Nat->List Nat}(I:Inv lo RR m de lv env A)(i:Nat):
  Inv lo RR m de (lv.set i .no) env (upd A i [])/\Keep A m (upd A i []) m:=by
 refine I.weak i (by simp) List.nodup_nil fun d w h1 h2=>⟨?_,rfl⟩
 obtain ⟨l,hl⟩:=I.getlv h1
 obtain ⟨w',a,b⟩:=I.slot i d l h1 hl
 rw[h2] at a;cases a
 refine b.rep (fun x r=>⟨r.1,fun k=>?_⟩) (fun x hx=>⟨I.rr x (I.bd i x hx).1,fun k=>?_⟩)
 .by_cases e:k=i
  .subst e;rw[zb];simp
  .rw[zd e];exact r.2 k
 .by_cases e:k=i
  .subst e;rw[zb];simp
  .rw[zd e];intro ha;exact e (I.dj k i x ha hx)
theorem xI:∀ (vs:List Nat) (lv:List Lv) (k:Nat),(downs vs lv)[k]?=if k∈vs/\k < lv.length then some .no else lv[k]?
 | [],lv,k=>by simp[downs]
 | i::vs,lv,k=>by
  unfold downs
  rw[xI vs (lv.set i .no) k]
  rw[List.length_set,List.getElem?_set]
  by_cases a:k∈vs/\k < lv.length
  .rw[if_pos a,if_pos ⟨List.mem_cons_of_mem _ a.1,a.2⟩]
  .rw[if_neg a]
   by_cases e:i=k
   .subst e
    by_cases b:i < lv.length
    .simp[b]
    .simp[b]
   .rw[if_neg e]
    by_cases c:k∈vs
    .have:¬ k < lv.length:=fun z=>a ⟨c,z⟩
     rw[if_neg (fun z=>this z.2)]
    .rw[if_neg (fun z=>by rcases List.mem_cons.mp z.1 with z1 | z1;exact e z1.symm;exact c z1)]
theorem Inv.downs {lo:Nat}{RR:Nat->Prop}{m:Me}{de:DEn}{env:En}:∀ (vs:List Nat) {lv:List Lv}{A:Nat->List Nat},Inv lo RR m de lv env A ->
  ∃A',Inv lo RR m de (downs vs lv) env A'/\Keep A m A' m/\(∀i∈vs,A' i=[])/\(∀i,A' i=A i\/A' i=[])/\∀i,i∉vs->A' i=A i
 | [],lv,A,I=>⟨A,I,Keep.refl A m,by simp,fun i=>.inl rfl,fun _ _=>rfl⟩
 | j::vs,lv,A,I=>by
  obtain ⟨I1,K1⟩:=I.down j
  obtain ⟨A',I2,K2,h1,h2,h3⟩:=Inv.downs vs I1
  refine ⟨A',I2,K1.trans K2,fun i hi=>?_,fun i=>?_,fun i hi=>?_⟩
  .by_cases q:i∈vs
   .exact h1 i q
   .rw[h3 i q]
    rcases List.mem_cons.mp hi with rfl | hi
    .exact zb
    .exact absurd hi q
  .rcases h2 i with z | z
   .rw[z]
    by_cases e:i=j
    .subst e;right;exact zb
    .left;exact zd e
   .exact .inr z
  .have:i≠j:=fun e=>hi (by rw[e];simp)
   rw[h3 i (fun z=>hi (List.mem_cons_of_mem _ z)),zd this]
theorem Inv.top {lo:Nat}{RR:Nat->Prop}{m:Me}{de:DEn}{lv:List Lv}{env:En}{A:Nat->List Nat}(I:Inv lo RR m de lv env A)(j:Nat){ds:List Dat}(hd:de[j]?=some (some (.lst ds)))(hj:yd lv j=true):
  ∃l xs A',Inv lo RR m de (lv.set j .top) env A'/\Keep A m A' m/\A' j=[l]/\(∀i,i≠j->A' i=A i)/\env[j]?=some (some (.ref l))/\m[l]?=some (.lst xs)/\RepL (yi RR A') m ds xs/\l∈A j:=by
 unfold yd at hj
 obtain ⟨lj,hl⟩:=I.getlv hd
 obtain ⟨w,a,b⟩:=I.slot j _ lj hd hl
 rw[hl] at hj
 have key:∃l xs,w=.ref l/\l∈A j/\m[l]?=some (.lst xs)/\RepL (yi RR (upd A j [l])) m ds xs:=by
  cases lj with
  | no=>simp at hj
  | top =>
   obtain ⟨es,l,xs,e,rfl,hA,hm,r⟩:=b
   cases e
   refine ⟨l,xs,rfl,by rw[hA];simp,hm,RepL.frame (fun x o r z=>⟨⟨r.1,fun k=>?_⟩,z⟩) _ _ r⟩
   by_cases e:k=j
   .subst e;rw[zb,<- hA];exact r.2 k
   .rw[zd e];exact r.2 k
  | full =>
   obtain ⟨l,xs,B,rfl,hA,hm,r⟩:=own_lst.mp b
   refine ⟨l,xs,rfl,by rw[hA];simp,hm,OwnL.rep ds xs B (fun x hx=>⟨I.rr x (I.bd j x (by rw[hA];exact List.mem_cons_of_mem _ hx)).1,fun k=>?_⟩) r⟩
   have nd:=I.nd j
   rw[hA] at nd
   by_cases e:k=j
   .subst e;rw[zb];intro z;rw[List.mem_singleton.mp z] at hx;exact (List.nodup_cons.mp nd).1 hx
   .rw[zd e];intro z;exact e (I.dj k j x z (by rw[hA];exact List.mem_cons_of_mem _ hx))
 obtain ⟨l,xs,rfl,hA,hm,r⟩:=key
 obtain ⟨I',K⟩:=I.weak j (l:=.top) (B:=[l]) (by intro b hb;rw[List.mem_singleton.mp hb];exact hA) (by simp) fun d w h1 h2=>by
  rw[hd] at h1;cases h1
  rw[a] at h2;cases h2
  exact ⟨ds,l,xs,rfl,rfl,rfl,hm,r⟩
 exact ⟨l,xs,_,I',K,zb,fun i hi=>zd hi,a,hm,r,hA⟩
theorem zr {m:Me}{l x:Nat}{o:Ob}(h:l≠x):(m.set l o)[x]?=m[x]?:=List.getElem?_set_ne h
theorem ye {m:Me}{l:Nat}{o p:Ob}(h:m[l]?=some p):(m.set l o)[l]?=some o:=by
 rw[List.getElem?_set,if_pos rfl,if_pos (List.getElem?_eq_some_iff.mp h).1]
theorem Inv.put {lo:Nat}{RR:Nat->Prop}{m m1:Me}{de:DEn}{lv:List Lv}{env:En}{A:Nat->List Nat}(I:Inv lo RR m de lv env A)(le:Le m m1){j l:Nat}{xs ys:List Wd}(hl:l∈A j)(A1:Nat->List Nat)
  (h3:∀k a,a∈A1 k->(∃k',a∈A k')\/m.length<=a) (nd1:∀k,(A1 k).Nodup) (dj1:∀i k a,a∈A1 i->a∈A1 k->i=k) (bd1:∀k a,a∈A1 k->lo<=a/\a < m1.length)
  {de1:DEn}{lv1:List Lv}(len1:de1.length=de.length) (lvl1:lv1.length=lv.length)
  (live:∀k d lk,k≠j->de1[k]?=some (some d)->lv1[k]?=some lk->de[k]?=some (some d)/\lv[k]?=some lk/\A1 k=A k)
  (sj:∀d lj,de1[j]?=some (some d)->lv1[j]?=some lj->∃w,env[j]?=some (some w)/\RepO (yi RR A1) (m1.set l (.lst ys)) lj d w (A1 j)) :
  Inv lo RR (m1.set l (.lst ys)) de1 lv1 env A1/\Keep A m A1 (m1.set l (.lst ys)):=by
 have fr:∀ (x:Nat) (o:Ob),(∀k,x∉A k)->m[x]?=some o->(∀k,x∉A1 k)/\(m1.set l (.lst ys))[x]?=some o:=by
  intro x o hx hm
  refine ⟨fun k ha=>?_,?_⟩
  .rcases h3 k x ha with ⟨k',z⟩ | z
   .exact hx k' z
   .have:=(List.getElem?_eq_some_iff.mp hm).1;lia
  .rw[zr (l:=l) (x:=x) (fun e=>hx j (by rw[<- e];exact hl))];exact le x o hm
 refine ⟨⟨len1.trans I.len,by rw[lvl1,I.lvl,len1],I.rr,by rw[List.length_set];exact Nat.le_trans I.lom le.len,?_,nd1,dj1,fun k a ha=>by rw[List.length_set];exact bd1 k a ha⟩,⟨fun x o hx hm=>fr x o hx hm,by rw[List.length_set];exact le.len⟩⟩
 intro k d lk h1 h2
 by_cases e:k=j
 .subst e;exact sj d lk h1 h2
 .obtain ⟨a,b,c⟩:=live k d lk e h1 h2
  obtain ⟨w,p,q⟩:=I.slot k d lk a b
  refine ⟨w,p,?_⟩
  rw[c]
  refine q.frame (fun x o r hm=>⟨⟨r.1,(fr x o r.2 hm).1⟩,(fr x o r.2 hm).2⟩) (fun x hx o hm=>?_)
  rw[zr (l:=l) (x:=x) (fun z=>e (I.dj k j x hx (by rw[<- z];exact hl)))]
  exact le x o hm
def zhf (m m1:Me)(ds:List Dat)(xs:List Wd)(ds':List Dat)(ys:List Wd):Prop :=
 ∀B,B.Nodup->OwnL m ds xs B->∃B',OwnL m1 ds' ys B'/\B'.Nodup/\∀b∈B',b∈B\/m.length<=b
def ChgT (RR:Nat->Prop)(A:Nat->List Nat)(m m1:Me)(ds:List Dat)(xs:List Wd)(ds':List Dat)(ys:List Wd):Prop :=
 RepL (yi RR A) m ds xs->RepL (fun x=>yi RR A x\/m.length<=x) m1 ds' ys
def Chg (RR:Nat->Prop)(A:Nat->List Nat)(m m1:Me)(ds:List Dat)(xs:List Wd)(ds':List Dat)(ys:List Wd):Prop :=
 (∀B,B.Nodup->OwnL m ds xs B->∃B',OwnL m1 ds' ys B'/\B'.Nodup/\∀b∈B',b∈B\/m.length<=b)/\(RepL (yi RR A) m ds xs->RepL (fun x=>yi RR A x\/m.length<=x) m1 ds' ys)
theorem Inv.mut {lo:Nat}{RR:Nat->Prop}{m:Me}{de:DEn}{lv:List Lv}{env:En}{A:Nat->List Nat}(I:Inv lo RR m de lv env A){j:Nat}{ds:List Dat}(hd:de[j]?=some (some (.lst ds)))(hj:yd lv j=true):
  ∃l xs,env[j]?=some (some (.ref l))/\m[l]?=some (.lst xs)/\RepL RR m ds xs/\∀ (m1:Me) (ds':List Dat) (ys:List Wd),Le m m1->(lv[j]?=some .full->zhf m m1 ds xs ds' ys)->(lv[j]?=some .top->ChgT RR A m m1 ds xs ds' ys) ->
   ∃A1,Inv lo RR (m1.set l (.lst ys)) (de.set j (some (.lst ds'))) lv env A1/\Keep A m A1 (m1.set l (.lst ys)):=by
 unfold yd at hj
 obtain ⟨lj,hl⟩:=I.getlv hd
 obtain ⟨w,a,b⟩:=I.slot j _ lj hd hl
 rw[hl] at hj
 have hjl:j < de.length:=(List.getElem?_eq_some_iff.mp hd).1
 have live:∀ (A1:Nat->List Nat),(∀k,k≠j->A1 k=A k)->∀ (ds':List Dat) k d lk,k≠j->(de.set j (some (.lst ds')))[k]?=some (some d)->lv[k]?=some lk->de[k]?=some (some d)/\lv[k]?=some lk/\A1 k=A k:=by
  intro A1 h ds' k d lk e h1 h2
  rw[List.getElem?_set_ne (Ne.symm e)] at h1
  exact ⟨h1,h2,h k e⟩
 cases lj with
 | no=>simp at hj
 | top =>
  obtain ⟨es,l,xs,e,rfl,hA,hm,r⟩:=b
  cases e
  refine ⟨l,xs,a,hm,RepL.frame (fun _ _ r z=>⟨r.1,z⟩) _ _ r,fun m1 ds' ys le _ c=>⟨A,?_⟩⟩
  have hlm:=(List.getElem?_eq_some_iff.mp hm).1
  refine I.put le (j:=j) (l:=l) (xs:=xs) (by rw[hA];simp) A (fun k a ha=>.inl ⟨k,ha⟩) I.nd I.dj (fun k a ha=>⟨(I.bd k a ha).1,Nat.lt_of_lt_of_le (I.bd k a ha).2 le.len⟩) (by simp) rfl (live A (fun _ _=>rfl) ds') ?_
  intro d lj h1 h2
  rw[List.getElem?_set,if_pos rfl,if_pos hjl] at h1
  cases h1
  rw[hl] at h2;cases h2
  refine ⟨_,a,ds',l,ys,rfl,rfl,hA,ye (le l _ hm),RepL.frame (fun x o r z=>?_) _ _ (c hl r)⟩
  rcases r with r | r
  .exact ⟨r,by rw[zr (l:=l) (x:=x) (fun e=>r.2 j (by rw[hA,e];simp))];exact z⟩
  .exact ⟨⟨I.rr x (Nat.le_trans I.lom r),fun k hk=>by have:=(I.bd k x hk).2;lia⟩,by rw[zr (l:=l) (x:=x) (by lia)];exact z⟩
 | full =>
  obtain ⟨l,xs,B,rfl,hA,hm,r⟩:=own_lst.mp b
  have hlm:=(List.getElem?_eq_some_iff.mp hm).1
  have nd:=I.nd j
  rw[hA] at nd
  refine ⟨l,xs,a,hm,OwnL.rep ds xs B (fun x hx=>I.rr x (I.bd j x (by rw[hA];exact List.mem_cons_of_mem _ hx)).1) r,fun m1 ds' ys le c _=>?_⟩
  obtain ⟨B',o,nb,hB⟩:=c hl B (List.nodup_cons.mp nd).2 r
  have hlB:l∉B':=fun z=>by
   rcases hB l z with z | z
   .exact (List.nodup_cons.mp nd).1 z
   .lia
  have sub:∀x∈l::B',x∈A j\/m.length<=x:=by
   intro x hx
   rcases List.mem_cons.mp hx with rfl | hx
   .left;rw[hA];simp
   .rcases hB x hx with z | z
    .left;rw[hA];exact List.mem_cons_of_mem _ z
    .exact .inr z
  refine ⟨upd A j (l::B'),?_⟩
  refine I.put le (j:=j) (l:=l) (xs:=xs) (by rw[hA];simp) _ ?_ ?_ ?_ ?_ (by simp) rfl (live _ (fun k hk=>zd hk) ds') ?_
  .intro k x hx
   by_cases e:k=j
   .subst e;rw[zb] at hx
    rcases sub x hx with z | z
    .exact .inl ⟨k,z⟩
    .exact .inr z
   .rw[zd e] at hx;exact .inl ⟨k,hx⟩
  .intro k
   by_cases e:k=j
   .subst e;rw[zb];exact List.nodup_cons.mpr ⟨hlB,nb⟩
   .rw[zd e];exact I.nd k
  .intro i k x h1 h2
   by_cases e:i=j
   .by_cases f:k=j
    .rw[e,f]
    .rw[e,zb] at h1;rw[zd f] at h2
     rcases sub x h1 with z | z
     .rw[e];exact I.dj j k x z h2
     .have:=(I.bd k x h2).2;lia
   .rw[zd e] at h1
    by_cases f:k=j
    .rw[f,zb] at h2
     rcases sub x h2 with z | z
     .rw[f];exact I.dj i j x h1 z
     .have:=(I.bd i x h1).2;lia
    .rw[zd f] at h2;exact I.dj i k x h1 h2
  .intro k x hx
   by_cases e:k=j
   .rw[e,zb] at hx
    rcases List.mem_cons.mp hx with rfl | hx
    .exact ⟨(I.bd j _ (by rw[hA];simp)).1,Nat.lt_of_lt_of_le hlm le.len⟩
    .refine ⟨?_,OwnL.lt ds' ys B' o x hx⟩
     rcases hB x hx with z | z
     .exact (I.bd j x (by rw[hA];exact List.mem_cons_of_mem _ z)).1
     .exact Nat.le_trans I.lom z
   .rw[zd e] at hx
    exact ⟨(I.bd k x hx).1,Nat.lt_of_lt_of_le (I.bd k x hx).2 le.len⟩
  .intro d lj h1 h2
   rw[List.getElem?_set,if_pos rfl,if_pos hjl] at h1
   cases h1
   rw[hl] at h2;cases h2
   refine ⟨_,a,?_⟩
   rw[zb]
   exact own_lst.mpr ⟨l,ys,B',rfl,rfl,ye (le l _ hm),OwnL.frame ds' ys B' (fun x hx o z=>by rw[zr (l:=l) (x:=x) (fun e=>hlB (by rw[e];exact hx))];exact z) o⟩
theorem OwnL.item {m:Me}:∀ {ds:List Dat}{xs:List Wd}{A:List Nat}{p:Nat}{d:Dat},OwnL m ds xs A->ds[p]?=some d->∃x B,(xs[p]?=some x/\Own m d x B)/\∀b∈B,b∈A
 | [],xs,A,p,d,h,z=>by simp at z
 | e::ds,xs,A,0,d,h,z=>by
  obtain ⟨x,r,B,C,rfl,rfl,a,b⟩:=h.cons_inv
  simp at z;subst z
  exact ⟨x,B,⟨rfl,a⟩,fun b hb=>List.mem_append_left _ hb⟩
 | e::ds,xs,A,p+1,d,h,z=>by
  obtain ⟨x,r,B,C,rfl,rfl,a,b⟩:=h.cons_inv
  obtain ⟨y,D,h1,h2⟩:=OwnL.item b (by simpa using z)
  exact ⟨y,D,by simpa using h1,fun b hb=>List.mem_append_right _ (h2 b hb)⟩
theorem OwnL.split {m:Me}:∀ {ds:List Dat}{xs:List Wd}{A:List Nat}{p:Nat}{d:Dat},OwnL m ds xs A->ds[p]?=some d ->
  ∃x B1 Bp B2,xs[p]?=some x/\A=B1++(Bp++B2)/\Own m d x Bp/\(∀ (i:Nat) e y,i≠p->ds[i]?=some e->xs[i]?=some y->∃Bi,Own m e y Bi/\∀b∈Bi,b∈B1\/b∈B2)/\∀ (m':Me) (d':Dat) (x':Wd) (B':List Nat),(∀l,l∈B1\/l∈B2->∀o,m[l]?=some o->m'[l]?=some o)->Own m' d' x' B'->OwnL m' (ds.set p d') (xs.set p x') (B1++(B'++B2))
 | [],xs,A,p,d,h,z=>by simp at z
 | e::ds,xs,A,0,d,h,z=>by
  obtain ⟨x,r,B,C,rfl,rfl,a,b⟩:=h.cons_inv
  simp at z;subst z
  refine ⟨x,[],B,C,rfl,rfl,a,fun i e y hi h1 h2=>?_,fun m' d' x' B' fr o=>?_⟩
  .cases i with
   | zero=>exact absurd rfl hi
   | succ i =>
    simp at h1 h2
    obtain ⟨y',Bi,o,hB⟩:=OwnL.item b h1
    rw[h2] at o;obtain ⟨o1,o2⟩:=o;cases o1
    exact ⟨Bi,o2,fun z hz=>.inr (hB z hz)⟩
  show OwnL m' (d'::ds) (x'::r) (B'++C)
  exact OwnL.cons o (OwnL.frame ds r C (fun l hl=>fr l (.inr hl)) b)
 | e::ds,xs,A,p+1,d,h,z=>by
  obtain ⟨x,r,B,C,rfl,rfl,a,b⟩:=h.cons_inv
  obtain ⟨y,B1,Bp,B2,h1,rfl,h3,h5,h4⟩:=OwnL.split b (by simpa using z)
  refine ⟨y,B++B1,Bp,B2,by simpa using h1,by simp[List.append_assoc],h3,fun i e' y' hi g1 g2=>?_,fun m' d' x' B' fr o=>?_⟩
  .cases i with
   | zero=>simp at g1 g2;subst g1;subst g2;exact ⟨B,a,fun z hz=>.inl (List.mem_append_left _ hz)⟩
   | succ i =>
    simp at g1 g2
    obtain ⟨Bi,o,hB⟩:=h5 i e' y' (by lia) g1 g2
    exact ⟨Bi,o,fun z hz=>by rcases hB z hz with q | q;exact .inl (List.mem_append_right _ q);exact .inr q⟩
  rw[List.append_assoc]
  exact OwnL.cons (Own.frame e x B (fun l hl=>fr l (.inl (List.mem_append_left _ hl))) a) (h4 m' d' x' B' (fun l hl=>fr l (by rcases hl with hl | hl;exact .inl (List.mem_append_right _ hl);exact .inr hl)) o)
theorem jz {RR:Nat->Prop}{A:Nat->List Nat}{m m1:Me}{ds:List Dat}{xs:List Wd}{d:Dat}{w:Wd}{B0:List Nat}(le:Le m m1)(o:Own m1 d w B0)(nd:B0.Nodup)(hB:∀b∈B0,m.length<=b):Chg RR A m m1 ds xs (ds++[d]) (xs++[w]):=by
 refine ⟨fun B nb q=>⟨B++(B0++[]),(OwnL.frame ds xs B (fun l _ o z=>le l o z) q).app (.cons o .nil),?_,?_⟩,fun q=>?_⟩
 .rw[List.append_nil]
  refine List.nodup_append.mpr ⟨nb,nd,fun x hx y hy e=>?_⟩
  have:=OwnL.lt ds xs B q x hx
  have:=hB y hy
  lia
 .intro b hb
  rw[List.append_nil] at hb
  rcases List.mem_append.mp hb with z | z
  .exact .inl z
  .exact .inr (hB b z)
 .exact (RepL.frame (fun l o r z=>⟨.inl r,le l o z⟩) _ _ q).app (.cons (Own.rep d w B0 (fun b hb=>.inr (hB b hb)) o) .nil)
theorem OwnL.rev {m:Me}:∀ {ds:List Dat}{xs:List Wd}{A:List Nat},A.Nodup->OwnL m ds xs A->∃B,OwnL m ds.reverse xs.reverse B/\B.Nodup/\∀b∈B,b∈A
 | [],xs,A,nd,h=>by rw[h.nil_inv.1];exact ⟨[],.nil,List.nodup_nil,by simp⟩
 | d::ds,xs,A,nd,h=>by
  obtain ⟨x,r,B,C,rfl,rfl,a,b⟩:=h.cons_inv
  obtain ⟨n1,n2,n3⟩:=List.nodup_append.mp nd
  obtain ⟨D,o,nD,hD⟩:=OwnL.rev n2 b
  rw[List.reverse_cons,List.reverse_cons]
  refine ⟨D++(B++[]),o.app (.cons a .nil),?_,?_⟩
  .rw[List.append_nil]
   exact List.nodup_append.mpr ⟨nD,n1,fun x hx y hy e=>n3 y hy x (hD x hx) e.symm⟩
  .intro b hb
   simp only[List.append_nil,List.mem_append] at hb ⊢
   rcases hb with z | z
   .exact .inr (hD b z)
   .exact .inl z
theorem chg_rev {RR:Nat->Prop}{A:Nat->List Nat}{m:Me}{ds:List Dat}{xs:List Wd}:Chg RR A m m ds xs ds.reverse xs.reverse:=by
 refine ⟨fun B nb q=>?_,fun q=>(RepL.frame (fun l o r z=>⟨.inl r,z⟩) _ _ q).rev⟩
 obtain ⟨D,o,nD,hD⟩:=OwnL.rev nb q
 exact ⟨D,o,nD,fun b hb=>.inl (hD b hb)⟩
theorem Inv.mutIn {lo:Nat}{RR:Nat->Prop}{m:Me}{de:DEn}{lv:List Lv}{env:En}{A:Nat->List Nat}(I:Inv lo RR m de lv env A){j p:Nat}{ds es:List Dat}(hd:de[j]?=some (some (.lst ds)))(hf:lv[j]?=some .full)(hp:ds[p]?=some (.lst es)):
  ∃l xs l2 us,env[j]?=some (some (.ref l))/\m[l]?=some (.lst xs)/\xs[p]?=some (.ref l2)/\m[l2]?=some (.lst us)/\ds.length=xs.length/\RepL RR m es us /\
   (∀ (m1:Me) (es':List Dat) (vs:List Wd),Le m m1->zhf m m1 es us es' vs ->
    ∃A1,Inv lo RR (m1.set l2 (.lst vs)) (de.set j (some (.lst (ds.set p (.lst es'))))) lv env A1/\Keep A m A1 (m1.set l2 (.lst vs))) /\
   (∀ (m1:Me) (q:Nat) (d:Dat) (w:Wd),Le m m1->Rep (fun x=>yi RR A x\/m.length<=x) m1 d w ->
    ∃A1,Inv lo RR (m1.set l2 (.lst (us.set q w))) (de.set j (some (.lst (ds.set p (.lst (es.set q d)))))) (lv.set j .top) env A1/\Keep A m A1 (m1.set l2 (.lst (us.set q w)))):=by
 obtain ⟨w,a,b⟩:=I.slot j _ .full hd hf
 obtain ⟨l,xs,B,rfl,hA,hm,r⟩:=own_lst.mp b
 obtain ⟨x,B1,Bp,B2,h1,hB,h3,h5,h4⟩:=r.split hp
 obtain ⟨l2,us,Bq,rfl,rfl,hm2,r2⟩:=own_lst.mp h3
 have hjl:j < de.length:=(List.getElem?_eq_some_iff.mp hd).1
 have nd:=I.nd j
 rw[hA,hB] at nd
 have hlm:=(List.getElem?_eq_some_iff.mp hm).1
 have hlm2:=(List.getElem?_eq_some_iff.mp hm2).1
 obtain ⟨n0,n1⟩:=List.nodup_cons.mp nd
 obtain ⟨n2,n3,n4⟩:=List.nodup_append.mp n1
 obtain ⟨n5,n6,n7⟩:=List.nodup_append.mp n3
 obtain ⟨n8,n9⟩:=List.nodup_cons.mp n5
 have inA:∀ {x},x=l\/x∈B1\/x=l2\/x∈Bq\/x∈B2->x∈A j:=by
  intro x hx;rw[hA,hB];simp only[List.mem_cons,List.mem_append]
  rcases hx with z | z | z | z | z
  .exact .inl z
  .exact .inr (.inl z)
  .exact .inr (.inr (.inl (.inl z)))
  .exact .inr (.inr (.inl (.inr z)))
  .exact .inr (.inr (.inr z))
 have l2B1:l2∉B1:=fun z=>n4 l2 z l2 (by simp) rfl
 have l2B2:l2∉B2:=fun z=>n7 l2 (by simp) l2 z rfl
 have hll:l≠l2:=fun e=>n0 (by rw[e];simp)
 have live:∀ (A1:Nat->List Nat) (lv1:List Lv),(∀k,k≠j->A1 k=A k)->(∀k,k≠j->lv1[k]?=lv[k]?)->∀ (ds':List Dat) k d lk,k≠j->(de.set j (some (.lst ds')))[k]?=some (some d)->lv1[k]?=some lk->de[k]?=some (some d)/\lv[k]?=some lk/\A1 k=A k:=by
  intro A1 lv1 h hlv ds' k d lk e h1 h2
  rw[List.getElem?_set_ne (Ne.symm e)] at h1
  rw[hlv k e] at h2
  exact ⟨h1,h2,h k e⟩
 refine ⟨l,xs,l2,us,a,hm,h1,hm2,r.len,OwnL.rep es us Bq (fun x hx=>I.rr x (I.bd j x (inA (.inr (.inr (.inr (.inl hx)))))).1) r2,?_,?_⟩
 .intro m1 es' vs le c
  obtain ⟨Bq',o,nb,hBq⟩:=c Bq n9 r2
  have hlt:=OwnL.lt es' vs Bq' o
  have l2q:l2∉Bq':=fun z=>by
   rcases hBq l2 z with z | z
   .exact n8 z
   .lia
  have sub:∀x∈l::(B1++((l2::Bq')++B2)),x∈A j\/m.length<=x:=by
   intro x hx
   simp only[List.mem_cons,List.mem_append] at hx
   rcases hx with z | z | (z | z) | z
   .exact .inl (inA (.inl z))
   .exact .inl (inA (.inr (.inl z)))
   .exact .inl (inA (.inr (.inr (.inl z))))
   .rcases hBq x z with z | z
    .exact .inl (inA (.inr (.inr (.inr (.inl z)))))
    .exact .inr z
   .exact .inl (inA (.inr (.inr (.inr (.inr z)))))
  have nd1:(l::(B1++((l2::Bq')++B2))).Nodup:=by
   refine List.nodup_cons.mpr ⟨?_,List.nodup_append.mpr ⟨n2,List.nodup_append.mpr ⟨List.nodup_cons.mpr ⟨l2q,nb⟩,n6,?_⟩,?_⟩⟩
   .intro z
    simp only[List.mem_cons,List.mem_append] at z n0
    rcases z with z | (z | z) | z
    .exact n0 (.inl z)
    .exact hll z
    .rcases hBq l z with z | z
     .exact n0 (.inr (.inl (.inr z)))
     .lia
    .exact n0 (.inr (.inr z))
   .intro x hx y hy e
    subst e
    rcases List.mem_cons.mp hx with z | z
    .subst z;exact l2B2 hy
    .rcases hBq x z with z | z
     .exact n7 x (List.mem_cons_of_mem _ z) x hy rfl
     .have:=(I.bd j x (inA (.inr (.inr (.inr (.inr hy)))))).2;lia
   .intro x hx y hy e
    subst e
    simp only[List.mem_cons,List.mem_append] at hy
    rcases hy with (z | z) | z
    .subst z;exact l2B1 hx
    .rcases hBq x z with z | z
     .exact n4 x hx x (by simp[z]) rfl
     .have:=(I.bd j x (inA (.inr (.inl hx)))).2;lia
    .exact n4 x hx x (by simp[z]) rfl
  refine ⟨upd A j (l::(B1++((l2::Bq')++B2))),?_⟩
  refine I.put le (j:=j) (l:=l2) (xs:=us) (inA (.inr (.inr (.inl rfl)))) _ ?_ ?_ ?_ ?_ (by simp) rfl (live _ lv (fun k hk=>zd hk) (fun _ _=>rfl) _) ?_
  .intro k x hx
   by_cases e:k=j
   .rw[e,zb] at hx
    rcases sub x hx with z | z
    .exact .inl ⟨j,z⟩
    .exact .inr z
   .rw[zd e] at hx;exact .inl ⟨k,hx⟩
  .intro k
   by_cases e:k=j
   .rw[e,zb];exact nd1
   .rw[zd e];exact I.nd k
  .intro i k x h1 h2
   by_cases e:i=j
   .by_cases f:k=j
    .rw[e,f]
    .rw[e,zb] at h1;rw[zd f] at h2
     rcases sub x h1 with z | z
     .rw[e];exact I.dj j k x z h2
     .have:=(I.bd k x h2).2;lia
   .rw[zd e] at h1
    by_cases f:k=j
    .rw[f,zb] at h2
     rcases sub x h2 with z | z
     .rw[f];exact I.dj i j x h1 z
     .have:=(I.bd i x h1).2;lia
    .rw[zd f] at h2;exact I.dj i k x h1 h2
  .intro k x hx
   have ll:=le.len
   by_cases e:k=j
   .rw[e,zb] at hx
    rcases sub x hx with z | z
    .exact ⟨(I.bd j x z).1,Nat.lt_of_lt_of_le (I.bd j x z).2 ll⟩
    .refine ⟨Nat.le_trans I.lom z,?_⟩
     simp only[List.mem_cons,List.mem_append] at hx
     rcases hx with q | q | (q | q) | q
     .lia
     .have:=(I.bd j x (inA (.inr (.inl q)))).2;lia
     .lia
     .exact hlt x q
     .have:=(I.bd j x (inA (.inr (.inr (.inr (.inr q)))))).2;lia
   .rw[zd e] at hx
    exact ⟨(I.bd k x hx).1,Nat.lt_of_lt_of_le (I.bd k x hx).2 ll⟩
  .intro d lj g1 g2
   rw[List.getElem?_set,if_pos rfl,if_pos hjl] at g1
   cases g1
   rw[hf] at g2;cases g2
   refine ⟨_,a,?_⟩
   rw[zb]
   refine own_lst.mpr ⟨l,xs,B1++((l2::Bq')++B2),rfl,rfl,?_,?_⟩
   .rw[zr (l:=l2) (x:=l) (Ne.symm hll)];exact le l _ hm
   .have:=h4 (m1.set l2 (.lst vs)) (.lst es') (.ref l2) (l2::Bq') ?_ (own_lst.mpr ⟨l2,vs,Bq',rfl,rfl,ye (le l2 _ hm2),OwnL.frame es' vs Bq' (fun x hx o z=>by rw[zr (l:=l2) (x:=x) (fun e=>l2q (by rw[e];exact hx))];exact z) o⟩)
    .rw[show xs.set p (.ref l2)=xs from by
      obtain ⟨hpx,e⟩:=List.getElem?_eq_some_iff.mp h1
      rw[<- e];exact List.set_getElem_self hpx] at this
     exact this
    .intro x hx o z
     rw[zr (l:=l2) (x:=x) (fun e=>by rcases hx with hx | hx;exact l2B1 (by rw[e];exact hx);exact l2B2 (by rw[e];exact hx))]
     exact le x o z
 .intro m1 q d w le rw0
  have ll:=le.len
  have sub:∀k x,x∈upd A j [l] k->x∈A k:=by
   intro k x hx
   by_cases e:k=j
   .rw[e,zb] at hx;rw[e,List.mem_singleton.mp hx];exact inA (.inl rfl)
   .rw[zd e] at hx;exact hx
  refine ⟨upd A j [l],?_⟩
  refine I.put le (j:=j) (l:=l2) (xs:=us) (inA (.inr (.inr (.inl rfl)))) _ (fun k x hx=>.inl ⟨k,sub k x hx⟩) ?_ (fun i k x g1 g2=>I.dj i k x (sub i x g1) (sub k x g2)) (fun k x hx=>⟨(I.bd k x (sub k x hx)).1,Nat.lt_of_lt_of_le (I.bd k x (sub k x hx)).2 ll⟩) (by simp) (by simp) (live _ (lv.set j .top) (fun k hk=>zd hk) (fun k hk=>List.getElem?_set_ne (Ne.symm hk)) _) ?_
  .intro k
   by_cases e:k=j
   .rw[e,zb];simp
   .rw[zd e];exact I.nd k
  .intro d' lj g1 g2
   rw[List.getElem?_set,if_pos rfl,if_pos hjl] at g1
   cases g1
   rw[List.getElem?_set,if_pos rfl,if_pos (by rw[I.lvl];exact hjl)] at g2
   cases g2
   refine ⟨_,a,ds.set p (.lst (es.set q d)),l,xs,rfl,rfl,zb,?_,?_⟩
   .rw[zr (l:=l2) (x:=l) (Ne.symm hll)];exact le l _ hm
   have fr:∀x,x∈B1\/x∈B2\/x∈Bq\/x=l2->yi RR (upd A j [l]) x:=by
    intro x hx
    have hxA:x∈A j:=inA (by rcases hx with z | z | z | z;exact .inr (.inl z);exact .inr (.inr (.inr (.inr z)));exact .inr (.inr (.inr (.inl z)));exact .inr (.inr (.inl z)))
    refine ⟨I.rr x (I.bd j x hxA).1,fun k hk=>?_⟩
    by_cases e:k=j
    .rw[e,zb] at hk
     have e2:=List.mem_singleton.mp hk
     subst e2
     rcases hx with z | z | z | z
     .exact n0 (by simp[z])
     .exact n0 (by simp[z])
     .exact n0 (by simp[z])
     .exact hll z
    .rw[zd e] at hk;exact e (I.dj k j x hk hxA)
   refine repL_iff.mpr ⟨by simp[r.len],fun i e y g1 g2=>?_⟩
   by_cases ei:i=p
   .rw[ei] at g1 g2
    rw[h1] at g2;cases g2
    rw[List.getElem?_set,if_pos rfl,if_pos (List.getElem?_eq_some_iff.mp hp).1] at g1
    cases g1
    refine rep_lst.mpr ⟨l2,us.set q w,rfl,fr l2 (.inr (.inr (.inr rfl))),ye (le l2 _ hm2),?_⟩
    refine RepL.set (RepL.frame (R:=fun x=>x∈Bq) (m:=m) (fun x o hx z=>⟨fr x (.inr (.inr (.inl hx))),?_⟩) _ _ (OwnL.rep es us Bq (fun _ h=>h) r2)) q ?_
    .rw[zr (l:=l2) (x:=x) (fun e=>n8 (by rw[e];exact hx))];exact le x o z
    .refine Rep.frame (fun x o hx z=>?_) _ _ rw0
     have ne:l2≠x:=by
      rcases hx with hx | hx
      .intro e;exact hx.2 j (by rw[<- e];exact inA (.inr (.inr (.inl rfl))))
      .lia
     refine ⟨?_,by rw[zr (l:=l2) (x:=x) ne];exact z⟩
     rcases hx with hx | hx
     .exact ⟨hx.1,fun k hk=>hx.2 k (sub k x hk)⟩
     .exact ⟨I.rr x (Nat.le_trans I.lom hx),fun k hk=>by have:=(I.bd k x (sub k x hk)).2;lia⟩
   .rw[List.getElem?_set_ne (Ne.symm ei)] at g1
    obtain ⟨Bi,o,hBi⟩:=h5 i e y ei g1 g2
    refine Rep.frame (R:=fun x=>x∈Bi) (m:=m) (fun x o hx z=>?_) _ _ (Own.rep e y Bi (fun _ h=>h) o)
    rcases hBi x hx with z1 | z1
    .exact ⟨fr x (.inl z1),by rw[zr (l:=l2) (x:=x) (fun e=>l2B1 (by rw[e];exact z1))];exact le x _ z⟩
    .exact ⟨fr x (.inr (.inl z1)),by rw[zr (l:=l2) (x:=x) (fun e=>l2B2 (by rw[e];exact z1))];exact le x _ z⟩
theorem zcq {R:Nat->Prop}{m:Me}{ds:List Dat}{xs:List Wd}{l:Nat}{e:Dat}{y:Wd}(h:RepL R m ds xs)(hm:m[l]?=some (.lst xs))(b:Rep R m e y):SimE R m (yH (.ref l) y m) (yV (.lst ds) e):=by
 cases e with
 | int i =>
  rw[rep_int.mp b]
  simp only[yV,yH,y8,yx,zf,hm]
  cases z:(ix ds.length i).bind fun j=>ds[j]? with
  | none=>exact SimE.no
  | some v =>
   obtain ⟨j,h1,h2⟩:=Option.bind_eq_some_iff.mp z
   obtain ⟨x,h3,p⟩:=h.get h2
   rw[h.len] at h1
   simp only[h1,Option.bind_some,h3]
   exact ziC p
 | _=>exact SimE.no
theorem jA {lo:Nat}{RR:Nat->Prop}{m:Me}{de:DEn}{lv:List Lv}{env:En}{A:Nat->List Nat}(I:Inv lo RR m de lv env A){vs:List Nat}(h:∀i∈vs,∀l,lv[i]?=some l->l=.no):EnvR (yi RR A) m vs de env :=
 ⟨I.len,fun i hi d hd=>by
  obtain ⟨l,hl⟩:=I.getlv hd
  obtain ⟨w,a,b⟩:=I.slot i d l hd hl
  rw[h i hi l hl] at b
  exact ⟨w,a,b.1⟩⟩
theorem zaz (de:DEn)(j:Nat)(lv:List Lv){k:Nat}(h:k≠j):(topD de j lv)[k]?=lv[k]?:=by
 have q:∃l,topD de j lv=lv.set j l:=by
  unfold topD
  generalize de[j]?=p
  generalize lv[j]?=q
  cases p with
  | none=>exact ⟨_,rfl⟩
  | some o =>
   cases o with
   | none=>exact ⟨_,rfl⟩
   | some d =>
    cases d with
    | lst ds =>
     cases q with
     | none=>exact ⟨_,rfl⟩
     | some l=>cases l <;> exact ⟨_,rfl⟩
    | _=>exact ⟨_,rfl⟩
 obtain ⟨l,e⟩:=q
 rw[e];exact List.getElem?_set_ne (Ne.symm h)
set_option tactic.hygienic true in
theorem zdW (e:Ex)(de:DEn)(lv:List Lv){k:Nat}(h:k∉zh e):(xi e de lv)[k]?=lv[k]?:=by
 have gen:∀vs,k∉vs->(downs vs lv)[k]?=lv[k]?:=fun vs h=>by rw[xI,if_neg (fun z=>h z.1)]
 cases e with
 | idx o b =>
  cases o with
  | var j =>
   replace h:k∉j::zh b:=h
   rw[List.mem_cons,not_or] at h
   show (topD de j (downs (zh b) lv))[k]?=_
   rw[zaz _ _ _ h.1,gen _ h.2]
  | _=>exact gen _ h
 | _=>exact gen _ h
set_option tactic.hygienic true in
theorem Inv.topD {lo:Nat}{RR:Nat->Prop}{m:Me}{de:DEn}{lv:List Lv}{env:En}{A:Nat->List Nat}(I:Inv lo RR m de lv env A)(j:Nat):
  ∃A',Inv lo RR m de (topD de j lv) env A'/\Keep A m A' m/\(∀i,i≠j->A' i=A i)/\((∃ds l xs,de[j]?=some (some (.lst ds))/\A' j=[l]/\env[j]?=some (some (.ref l))/\m[l]?=some (.lst xs)/\RepL (yi RR A') m ds xs)\/((Vl.topD de j lv)[j]?=some .no\/lv.length<=j)):=by
 by_cases h:(∃ds,de[j]?=some (some (.lst ds)))/\yd lv j=true
 .obtain ⟨⟨ds,hd⟩,ho⟩:=h
  obtain ⟨l,xs,A',I',K,h1,h2,h3,h4,h5,_⟩:=I.top j hd ho
  have:Vl.topD de j lv=lv.set j .top:=by
   unfold Vl.topD;rw[hd]
   unfold yd at ho
   cases z:lv[j]? with
   | none=>rw[z] at ho;simp at ho
   | some l=>rw[z] at ho;cases l <;> simp at ho ⊢
  rw[this]
  exact ⟨A',I',K,h2,.inl ⟨ds,l,xs,hd,h1,h3,h4,h5⟩⟩
 .obtain ⟨I',K⟩:=I.down j
  have:Vl.topD de j lv=lv.set j .no:=by
   unfold Vl.topD
   split
   .next ds hd hl=>exact absurd ⟨⟨ds,hd⟩,by unfold yd;rw[hl]⟩ h
   .next ds hd hl=>exact absurd ⟨⟨ds,hd⟩,by unfold yd;rw[hl]⟩ h
   .rfl
  rw[this]
  refine ⟨_,I',K,fun i hi=>zd hi,.inr ?_⟩
  by_cases z:j < lv.length
  .left;rw[List.getElem?_set,if_pos rfl,if_pos z]
  .right;lia
set_option tactic.hygienic true in
theorem Inv.relEv {lev:Nat->Lv}{cl:Nat->List Wd->Me->Rz}{cd:Nat->List Dat->Rd}(H:CallO lev cl cd){lo:Nat}{RR:Nat->Prop}{m:Me}{de:DEn}{lv:List Lv}{env:En}{A:Nat->List Nat}(I:Inv lo RR m de lv env A)(e:Ex):
  ∃A',Inv lo RR m de (xi e de lv) env A'/\Keep A m A' m/\(∀k,k∉zh e->A' k=A k)/\SimO (yi RR A') m (lvE lev e) (evE cl e env m) (evD cd e de):=by
 have gen:xi e de lv=Vl.downs (zh e) lv->∃A',Inv lo RR m de (xi e de lv) env A'/\Keep A m A' m/\(∀k,k∉zh e->A' k=A k)/\SimO (yi RR A') m (lvE lev e) (evE cl e env m) (evD cd e de):=by
  intro h
  rw[h]
  obtain ⟨A',I',K,h1,_,h3⟩:=Inv.downs (zh e) I
  refine ⟨A',I',K,h3,yW H e _ m de env (jA I' fun i hi l hl=>?_)⟩
  rw[xI] at hl
  split at hl
  .cases hl;rfl
  .next z=>rw[List.getElem?_eq_none (by have:¬ i < lv.length:=fun q=>z ⟨hi,q⟩;lia)] at hl;cases hl
 cases e with
 | idx a b =>
  cases a with
  | var j =>
   show ∃A',Inv lo RR m de (Vl.topD de j (Vl.downs (zh b) lv)) env A'/\_
   obtain ⟨A1,I1,K1,h1,h2,h3⟩:=Inv.downs (zh b) I
   obtain ⟨A2,I2,K2,g1,g2⟩:=I1.topD j
   have hne:∀k,k∉zh (.idx (.var j) b)->A2 k=A k:=by
    intro k hk
    replace hk:k∉j::zh b:=hk
    rw[List.mem_cons,not_or] at hk
    rw[g1 k hk.1,h3 k hk.2]
   refine ⟨A2,I2,K1.trans K2,hne,?_⟩
   have lvno:∀i,i∈zh b->i≠j->∀l,(Vl.topD de j (Vl.downs (zh b) lv))[i]?=some l->l=.no:=by
    intro i hi hij l hl
    rw[zaz _ _ _ hij,xI] at hl
    split at hl
    .cases hl;rfl
    .next z=>rw[List.getElem?_eq_none (by have:¬ i < lv.length:=fun q=>z ⟨hi,q⟩;lia)] at hl;cases hl
   rcases g2 with ⟨ds,l,xs,hd,hA,he,hm,hr⟩ | g2
   .have hjb:j∉zh b:=fun z=>by
     have h0:=h1 j z
     have hx:l∈A1 j:=by
      have i1:=I1
      by_cases q:l∈A1 j
      .exact q
      .exfalso
       have:=(K2.1 l _ (fun k hk=>?_) hm).1 j
       .rw[hA] at this;exact this (by simp)
       .by_cases ek:k=j
        .rw[ek] at hk;exact q hk
        .have e1:=g1 k ek
         rw[<- e1] at hk
         exact ek (I2.dj k j l hk (by rw[hA];simp))
     rw[h0] at hx
     cases hx
    refine SimE.own ?_ (fun d=>rfl)
    show SimE _ m ((evE cl (.var j) env m).bind fun x m1=>(evE cl b env m1).bind fun y m2=>yH x y m2) ((evD cd (.var j) de).bind fun x=>(evD cd b de).bind fun y=>yV x y)
    have e1:evE cl (.var j) env m=.ok (.ref l) m:=vW he m
    have e2:evD cd (.var j) de=.ok (.lst ds):=y9 hd
    rw[e1,e2]
    simp only[Rz.bind,Rd.bind]
    refine (za H.r b _ m de env (jA I2 fun i hi=>lvno i hi (fun e=>hjb (by rw[<- e];exact hi)))).bind fun d2 w2 m2 l2 k2=>?_
    exact zcq (hr.up _ l2) (l2 l _ hm) k2
   .refine yW H _ _ m de env (jA I2 fun i hi l hl=>?_)
    replace hi:i∈j::zh b:=hi
    rw[List.mem_cons] at hi
    by_cases e:i=j
    .rw[e] at hl
     rcases g2 with g2 | g2
     .rw[g2] at hl;cases hl;rfl
     .have:(Vl.topD de j (Vl.downs (zh b) lv)).length=(Vl.downs (zh b) lv).length:=by rw[I2.lvl,I1.lvl]
      rw[List.getElem?_eq_none (by lia)] at hl;cases hl
    .rcases hi with z | z
     .exact absurd z e
     .exact lvno i z e l hl
  | _=>exact gen rfl
 | _=>exact gen rfl
def SimS (lo:Nat)(RR:Nat->Prop)(A:Nat->List Nat)(m:Me)(r:Rs)(rd:Rsd):Prop:=match rd with
 | .next de lv=>∃env m' A',r=.next env m'/\Inv lo RR m' de lv env A'/\Keep A m A' m'
 | .brk de lv=>∃env m' A',r=.brk env m'/\Inv lo RR m' de lv env A'/\Keep A m A' m'
 | .cont de lv=>∃env m' A',r=.cont env m'/\Inv lo RR m' de lv env A'/\Keep A m A' m'
 | .ret d l=>∃w m' B,r=.ret w m'/\((∀ (x:Nat) o,(∀i,x∉A i)->m[x]?=some o->m'[x]?=some o)/\m.length<=m'.length)/\RepO (fun x=>RR x/\x∉B) m' l d w B/\B.Nodup/\∀b∈B,lo<=b
 | .exc c d=>∃w e m',r=.exc c w e m'/\((∀ (x:Nat) o,(∀i,x∉A i)->m[x]?=some o->m'[x]?=some o)/\m.length<=m'.length)/\Rep RR m' d w
 | .no=>True
set_option tactic.hygienic true in
theorem SimS.keep {lo:Nat}{RR:Nat->Prop}{A A1:Nat->List Nat}{m m1:Me}{r:Rs}{rd:Rsd}(K:Keep A m A1 m1)(h:SimS lo RR A1 m1 r rd):SimS lo RR A m r rd:=by
 cases rd with
 | next de lv=>obtain ⟨e,m',A',h,I,k⟩:=h;exact ⟨e,m',A',h,I,K.trans k⟩
 | brk de lv=>obtain ⟨e,m',A',h,I,k⟩:=h;exact ⟨e,m',A',h,I,K.trans k⟩
 | cont de lv=>obtain ⟨e,m',A',h,I,k⟩:=h;exact ⟨e,m',A',h,I,K.trans k⟩
 | ret d l=>obtain ⟨w,m',B,h,k,z⟩:=h;exact ⟨w,m',B,h,⟨fun x o a b=>k.1 x o (K.1 x o a b).1 (K.1 x o a b).2,Nat.le_trans K.2 k.2⟩,z⟩
 | exc c d=>obtain ⟨w,e,m',h,k,z⟩:=h;exact ⟨w,e,m',h,⟨fun x o a b=>k.1 x o (K.1 x o a b).1 (K.1 x o a b).2,Nat.le_trans K.2 k.2⟩,z⟩
 | no=>trivial
theorem Inv.rf {lo:Nat}{RR:Nat->Prop}{m m':Me}{de:DEn}{lv:List Lv}{env:En}{A:Nat->List Nat}(I:Inv lo RR m de lv env A){d:Dat}{w:Wd}(h:Rep (Rf RR m.length) m' d w):Rep RR m' d w :=
 Rep.frame (fun x o r z=>⟨by rcases r with r | r;exact r;exact I.rr x (Nat.le_trans I.lom r),z⟩) d w h
theorem Inv.bindE {cl:Nat->List Wd->Me->Rz}{cd:Nat->List Dat->Rd}(H:CallR cl cd){lo:Nat}{RR:Nat->Prop}{m:Me}{de:DEn}{lv:List Lv}{env:En}{A:Nat->List Nat}(I:Inv lo RR m de lv env A)(e:Ex){f:Wd->Me->Rs}{g:Dat->Rsd}
  (k:∀d w m1,evD cd e de=.ok d->evE cl e env m=.ok w m1->Le m m1->Rep RR m1 d w->SimS lo RR A m1 (f w m1) (g d)):SimS lo RR A m ((evE cl e env m).bindS env f) ((evD cd e de).bindS g):=by
 have h:=za H e RR m de env (I.envR _)
 cases z:evD cd e de with
 | no=>trivial
 | exc c d =>
  rw[z] at h
  obtain ⟨w,m',h,l,r⟩:=h
  rw[h]
  exact ⟨w,env,m',rfl,⟨fun x o _ b=>l x o b,l.len⟩,I.rf r⟩
 | ok d =>
  rw[z] at h
  obtain ⟨w,m',h,l,r⟩:=h
  have:=k d w m' z h l (I.rf r)
  rw[h]
  exact SimS.keep (jy l) this
theorem Inv.own {lev:Nat->Lv}{cl:Nat->List Wd->Me->Rz}{cd:Nat->List Dat->Rd}(H:CallO lev cl cd){lo:Nat}{RR:Nat->Prop}{m m1:Me}{de:DEn}{lv:List Lv}{env:En}{A:Nat->List Nat}(I:Inv lo RR m de lv env A){e:Ex}{d:Dat}{w:Wd}(h1:evD cd e de=.ok d)(h2:evE cl e env m=.ok w m1):
  ∃B,RepO (fun x=>RR x/\x∉B) m1 (lvE lev e d) d w B/\B.Nodup/\∀b∈B,m.length<=b:=by
 have h:=yW H e RR m de env (I.envR _)
 rw[h1] at h
 obtain ⟨w',m',B,h3,l,r,nd,hB⟩:=h
 rw[h2] at h3;cases h3
 exact ⟨B,r.frame (fun x o r z=>⟨⟨by rcases r.1 with r | r;exact r;exact I.rr x (Nat.le_trans I.lom r),r.2⟩,z⟩) (fun _ _ _ z=>z),nd,hB⟩
section
variable {lev:Nat->Lv}{cl:Nat->List Wd->Me->Rz}{cd:Nat->List Dat->Rd}{lo:Nat}{RR:Nat->Prop}{m:Me}{de:DEn}{lv:List Lv}{env:En}{A:Nat->List Nat}
set_option tactic.hygienic true in
theorem vm {j:Nat}{ds:List Dat}(h:wP de j=some ds):de[j]?=some (some (.lst ds)):=by
 unfold wP at h
 split at h
 .next z=>cases h;exact z
 .cases h
set_option tactic.hygienic true in
theorem zdX {j:Nat}{r:Dat}{f:List Dat->Option (List Dat)}{de1:DEn}(h:zfP j r de lv f=some de1):
  ∃k ds p es es1,r=.int k/\de[j]?=some (some (.lst ds))/\ix ds.length k=some p/\ds[p]?=some (.lst es)/\f es=some es1/\lv[j]?=some .full/\de1=de.set j (some (.lst (ds.set p (.lst es1)))):=by
 unfold zfP at h
 split at h
 .next k ds h1 =>
  split at h
  .next ds1 h2 =>
   split at h
   .next h3 =>
    cases h
    obtain ⟨p,h4,h5⟩:=Option.bind_eq_some_iff.mp h2
    obtain ⟨d,h6,h7⟩:=Option.bind_eq_some_iff.mp h5
    split at h7
    .next es =>
     obtain ⟨es1,h8,h9⟩:=Option.map_eq_some_iff.mp h7
     exact ⟨k,ds,p,es,es1,rfl,vm h1,h4,h6,h8,h3,by rw[h9]⟩
    .cases h7
   .cases h
  .cases h
 .cases h
theorem qz {m:Me}{l p:Nat}{xs:List Wd}{k:Int}{w:Wd}(hm:m[l]?=some (.lst xs))(hk:ix xs.length k=some p)(hp:xs[p]?=some w):yH (.ref l) (.int k) m=.ok w m:=by
 simp[yH,yx,zf,hm,hk,hp]
theorem xm {j:Nat}{w:Wd}(h:env[j]?=some (some w))(m:Me):evE cl (.var j) env m=.ok w m:=by
 exact vW h m
theorem zdY (H:CallO lev cl cd)(I:Inv lo RR m de lv env A)(i:Nat)(e:Ex):SimS lo RR A m (exS cl (.asg i e) env m) (exD lev cd (.asg i e) de lv):=by
 have h:SimS lo RR A m ((evE cl e env m).bindS env fun w m1=>.next (env.set i (some w)) m1) ((evD cd e de).bindS fun d=>xK lev i e d de lv):=by
  cases z:evD cd e de with
  | no=>trivial
  | exc c d =>
   have:=I.bindE H.r e (f:=fun w m1=>.next (env.set i (some w)) m1) (g:=fun d=>.no) (fun _ _ _ _ _ _ _=>trivial)
   rw[z] at this;exact this
  | ok d =>
   show SimS lo RR A m _ (xK lev i e d de lv)
   unfold xK
   by_cases f:lvE lev e d=.full
   .rw[if_pos f]
    have h:=yW H e RR m de env (I.envR _)
    rw[z] at h
    obtain ⟨w,m1,B,h2,l,r,nd,hB⟩:=h
    rw[h2]
    rw[f] at r
    obtain ⟨I',K⟩:=I.store l i (l:=.full) (d:=d) (w:=w) (B:=B) r nd hB
    exact ⟨_,_,_,rfl,I',K⟩
   .rw[if_neg f]
    obtain ⟨A1,I1,K1,_,h⟩:=I.relEv H e
    rw[z] at h
    obtain ⟨w,m1,B,h2,l,r,nd,hB⟩:=h
    rw[h2]
    obtain ⟨I',K⟩:=I1.store l i (l:=lvE lev e d) (d:=d) (w:=w) (B:=B) r nd hB
    exact ⟨_,_,_,rfl,I',K1.trans K⟩
 exact h
set_option tactic.hygienic true in
theorem zcr (H:CallO lev cl cd)(I:Inv lo RR m de lv env A){e:Ex}{d:Dat}{w:Wd}{m1:Me}{j:Nat}{ds:List Dat}{de1:DEn}{lv1:List Lv}(hd:de[j]?=some (some (.lst ds)))(h1:evD cd e de=.ok d)(h2:evE cl e env m=.ok w m1)(l1:Le m m1){m2:Me}(l2:Le m1 m2)
  (g:kM lev e d j de lv=some (de1,lv1)) (F:List Dat->Dat->List Dat) (G:List Wd->Wd->List Wd)
  (cF:∀ (m m1:Me) (A:Nat->List Nat) (ds:List Dat) (xs:List Wd) (d:Dat) (w:Wd) (B0:List Nat),Le m m1->Own m1 d w B0->B0.Nodup->(∀b∈B0,m.length<=b)->Chg RR A m m1 ds xs (F ds d) (G xs w))
  (cM:∀ (m:Me) (ds:List Dat) (xs:List Wd) (d:Dat) (w:Wd) (B B0:List Nat),(B++B0).Nodup->OwnL m ds xs B->Own m d w B0->∃B',OwnL m (F ds d) (G xs w) B'/\B'.Nodup/\∀b∈B',b∈B\/b∈B0)
  (cT:∀ (R:Nat->Prop) (m:Me) (ds:List Dat) (xs:List Wd) (d:Dat) (w:Wd),RepL R m ds xs->Rep R m d w->RepL R m (F ds d) (G xs w)) :
  ∃l xs,env[j]?=some (some (.ref l))/\m2[l]?=some (.lst xs)/\ds.length=xs.length/\∃A',Inv lo RR (m2.set l (.lst (G xs w))) (de1.set j (some (.lst (F ds d)))) lv1 env A'/\Keep A m A' (m2.set l (.lst (G xs w))):=by
 have l12:=l1.trans l2
 unfold kM at g
 split at g
 .cases g
 .next ho =>
  have ho:yd lv j=true:=by simpa using ho
  split at g
  .next f =>
   cases g
   obtain ⟨B,r,nd,hB⟩:=I.own H h1 h2
   rw[f] at r
   obtain ⟨l,xs,he,hm,hr,put⟩:=I.mut hd ho
   have r':Own m2 d w B:=Own.frame d w B (fun x _ o z=>l2 x o z) r
   refine ⟨l,xs,he,l12 l _ hm,hr.len,put m2 _ _ l12 (fun _=>(cF m m2 A ds xs d w B l12 r' nd hB).1) (fun _=>(cF m m2 A ds xs d w B l12 r' nd hB).2)⟩
  .next f =>
   split at g
   .cases g
   .next hj =>
    have share:lv1=(xi e de lv).set j .top->de1=de->∃l xs,env[j]?=some (some (.ref l))/\m2[l]?=some (.lst xs)/\ds.length=xs.length/\∃A',Inv lo RR (m2.set l (.lst (G xs w))) (de1.set j (some (.lst (F ds d)))) lv1 env A'/\Keep A m A' (m2.set l (.lst (G xs w))):=by
     rintro rfl rfl
     obtain ⟨A1,I1,K1,hA1,h⟩:=I.relEv H e
     rw[h1] at h
     have ho1:yd (xi e de1 lv) j=true:=by unfold yd;rw[zdW e _ _ hj];exact ho
     obtain ⟨l,xs,A2,I2,K2,g1,g2,he,hm,hr,hlA⟩:=I1.top j hd ho1
     have hs:=h.sim
     obtain ⟨w',m',h3,_,rw0⟩:=hs
     rw[h2] at h3;cases h3
     have hjl:j < (xi e de1 lv).length:=by rw[I1.lvl];exact (List.getElem?_eq_some_iff.mp hd).1
     have ho2:yd ((xi e de1 lv).set j .top) j=true:=by unfold yd;rw[List.getElem?_set,if_pos rfl,if_pos hjl]
     have hlv:((xi e de1 lv).set j .top)[j]?=some .top:=by rw[List.getElem?_set,if_pos rfl,if_pos hjl]
     obtain ⟨l',xs',he',hm',_,put⟩:=I2.mut hd ho2
     rw[he] at he';cases he'
     rw[hm] at hm';cases hm'
     obtain ⟨A3,I3,K3⟩:=put m2 (F ds d) (G xs w) l12 (fun z=>by rw[hlv] at z;cases z) (fun _ q=>by
      refine cT _ m2 ds xs d w (RepL.frame (fun x o r z=>⟨.inl r,l12 x o z⟩) _ _ q) (Rep.frame (fun x o r z=>⟨?_,l2 x o z⟩) _ _ rw0)
      rcases r with r | r
      .left
       refine ⟨r.1,fun k hk=>?_⟩
       by_cases ek:k=j
       .rw[ek,g1] at hk
        rw[List.mem_singleton.mp hk] at r
        exact r.2 j hlA
       .rw[g2 k ek] at hk;exact r.2 k hk
      .exact .inr r)
     exact ⟨l,xs,he,l12 l _ hm,hr.len,A3,I3,(K1.trans K2).trans K3⟩
    split at g
    .next i =>
     split at g
     .next hfull =>
      cases g
      have hij:i≠j:=fun e=>hj (by rw[e];exact List.mem_singleton.mpr rfl)
      -- the move
      have hdi:de[i]?=some (some d):=by
       exact vk h1
      obtain ⟨wi,hei,ri⟩:=I.slot i d .full hdi hfull.1
      have:evE cl (.var i) env m=.ok wi m:=xm hei m
      rw[this] at h2;cases h2
      obtain ⟨wj,hej,rj⟩:=I.slot j _ .full hd hfull.2
      obtain ⟨l,xs,B,rfl,hA,hm,r⟩:=own_lst.mp rj
      have hlm:=(List.getElem?_eq_some_iff.mp hm).1
      have nd:=I.nd j
      rw[hA] at nd
      obtain ⟨n0,n1⟩:=List.nodup_cons.mp nd
      have nBi:(B++A i).Nodup:=List.nodup_append.mpr ⟨n1,I.nd i,fun x hx y hy e=>by
       subst e
       exact hij (I.dj i j x hy (by rw[hA];exact List.mem_cons_of_mem _ hx))⟩
      obtain ⟨B',o,nB',hB'⟩:=cM m ds xs d w B (A i) nBi r ri
      have lB':l∉B':=fun z=>by
       rcases hB' l z with q | q
       .exact n0 q
       .exact hij (I.dj i j l q (by rw[hA];simp))
      have sub:∀x∈l::B',x∈A j\/x∈A i:=by
       intro x hx
       rcases List.mem_cons.mp hx with rfl | hx
       .left;rw[hA];simp
       .rcases hB' x hx with q | q
        .left;rw[hA];exact List.mem_cons_of_mem _ q
        .exact .inr q
      have hjl:j < de.length:=(List.getElem?_eq_some_iff.mp hd).1
      have hil:i < de.length:=(List.getElem?_eq_some_iff.mp hdi).1
      have ui:upd (upd A i []) j (l::B') i=[]:=by rw[zd hij,zb]
      have uo:∀k,k≠i->k≠j->upd (upd A i []) j (l::B') k=A k:=fun k a b=>by rw[zd b,zd a]
      have ll2:=l2.len
      refine ⟨l,xs,hej,l2 l _ hm,r.len,upd (upd A i []) j (l::B'),?_⟩
      refine I.put l2 (j:=j) (l:=l) (xs:=xs) (by rw[hA];simp) _ ?_ ?_ ?_ ?_ (by simp) rfl ?_ ?_
      .intro k x hx
       left
       by_cases e:k=j
       .rw[e,zb] at hx
        rcases sub x hx with q | q
        .exact ⟨j,q⟩
        .exact ⟨i,q⟩
       .by_cases f:k=i
        .rw[f,ui] at hx;cases hx
        .rw[uo k f e] at hx;exact ⟨k,hx⟩
      .intro k
       by_cases e:k=j
       .rw[e,zb];exact List.nodup_cons.mpr ⟨lB',nB'⟩
       .by_cases f:k=i
        .rw[f,ui];simp
        .rw[uo k f e];exact I.nd k
      .have main:∀k x,k≠j->x∈l::B'->x∈upd (upd A i []) j (l::B') k->False:=by
        intro k x e hx hk
        by_cases f:k=i
        .rw[f,ui] at hk;cases hk
        .rw[uo k f e] at hk
         rcases sub x hx with q | q
         .exact e (I.dj k j x hk q)
         .exact f (I.dj k i x hk q)
       intro a b x ha hb
       by_cases e:a=j
       .by_cases f:b=j
        .rw[e,f]
        .rw[e,zb] at ha;exact (main b x f ha hb).elim
       .by_cases f:b=j
        .rw[f,zb] at hb;exact (main a x e hb ha).elim
        .by_cases g:a=i
         .rw[g,ui] at ha;cases ha
         .by_cases h:b=i
          .rw[h,ui] at hb;cases hb
          .rw[uo a g e] at ha;rw[uo b h f] at hb;exact I.dj a b x ha hb
      .intro k x hx
       by_cases e:k=j
       .rw[e,zb] at hx
        rcases sub x hx with q | q
        .exact ⟨(I.bd j x q).1,Nat.lt_of_lt_of_le (I.bd j x q).2 ll2⟩
        .exact ⟨(I.bd i x q).1,Nat.lt_of_lt_of_le (I.bd i x q).2 ll2⟩
       .by_cases f:k=i
        .rw[f,ui] at hx;cases hx
        .rw[uo k f e] at hx;exact ⟨(I.bd k x hx).1,Nat.lt_of_lt_of_le (I.bd k x hx).2 ll2⟩
      .intro k d' lk e g1 g2
       rw[List.getElem?_set_ne (Ne.symm e)] at g1
       by_cases f:k=i
       .rw[f,List.getElem?_set,if_pos rfl,if_pos hil] at g1;cases g1
       .rw[List.getElem?_set_ne (Ne.symm f)] at g1
        exact ⟨g1,g2,uo k f e⟩
      .intro d' lj g1 g2
       rw[List.getElem?_set,if_pos rfl,if_pos (by simpa using hjl)] at g1
       cases g1
       rw[hfull.2] at g2;cases g2
       refine ⟨_,hej,?_⟩
       rw[zb]
       exact own_lst.mpr ⟨l,_,B',rfl,rfl,ye (l2 l _ hm),OwnL.frame _ _ B' (fun x hx o z=>by rw[zr (l:=l) (x:=x) (fun e=>lB' (by rw[e];exact hx))];exact l2 x o z) o⟩
     .cases g;exact share rfl rfl
    .cases g;exact share rfl rfl
end
section
variable {lev:Nat->Lv}{cl:Nat->List Wd->Me->Rz}{cd:Nat->List Dat->Rd}{lo:Nat}{RR:Nat->Prop}{m:Me}{de:DEn}{lv:List Lv}{env:En}{A:Nat->List Nat}
theorem v6 {n:Mth}{o e:Ex}{x w:Wd}{m1 m2:Me}(h1:evE cl o env m=.ok x m1)(h2:evE cl e env m1=.ok w m2):evE cl (.meth n o (.pair e .unit)) env m=mtR n x [w] m2:=by
 show (evE cl o env m).bind (fun x m1=>((evE cl e env m1).bind fun a m2=>.ok (.tup [a]) m2).bind fun y m2=>mtR n x (zn y) m2)=_
 rw[h1]
 show (((evE cl e env m1).bind fun a m2=>.ok (.tup [a]) m2).bind fun y m2=>mtR n x (zn y) m2)=_
 rw[h2]
 rfl
theorem zdZ {n:Mth}{o:Ex}{x:Wd}{m1:Me}(h1:evE cl o env m=.ok x m1):evE cl (.meth n o .unit) env m=mtR n x [] m1:=by
 show (evE cl o env m).bind (fun x m1=>mtR n x [] m1)=_
 rw[h1]
 rfl
theorem zd0 {m:Me}{ds:List Dat}{xs:List Wd}{d:Dat}{w:Wd}{B B0:List Nat}(n:(B++B0).Nodup)(a:OwnL m ds xs B)(b:Own m d w B0):∃B',OwnL m (ds++[d]) (xs++[w]) B'/\B'.Nodup/\∀b∈B',b∈B\/b∈B0 :=
 ⟨B++(B0++[]),a.app (.cons b .nil),by simpa using n,fun x hx=>by simpa using hx⟩
theorem SimS.okS {r:Rs}{rd:Rd}{g:Dat->Rsd}(h:∀d,rd=.ok d->SimS lo RR A m r (g d)):SimS lo RR A m r (rd.okS g):=by
 cases rd with
 | ok d=>exact h d rfl
 | _=>trivial
theorem Inv.ok (H:CallR cl cd)(I:Inv lo RR m de lv env A){e:Ex}{d:Dat}(h:evD cd e de=.ok d){m1:Me}(l:Le m m1):∃w m2,evE cl e env m1=.ok w m2/\Le m1 m2/\Rep RR m2 d w:=by
 have q:=za H e RR m1 de env ((I.ext l).envR _)
 rw[h] at q
 obtain ⟨w,m2,a,b,c⟩:=q
 exact ⟨w,m2,a,b,(I.ext l).rf c⟩
set_option tactic.hygienic true in
theorem zcs (H:CallO lev cl cd)(I:Inv lo RR m de lv env A)(j:Nat)(e:Ex):SimS lo RR A m (exS cl (.expr (.meth .append (.var j) (.pair e .unit))) env m) (exD lev cd (.expr (.meth .append (.var j) (.pair e .unit))) de lv):=by
 show SimS _ _ _ _ ((evE cl _ env m).bindS env _) _
 refine SimS.okS fun d h1=>?_
 split
 .next ds hl =>
  split
  .next hlim =>
   split
   .next de1 lv1 g =>
    obtain ⟨w,m1,h2,l1,r1⟩:=I.ok H.r h1 (Le.refl m)
    obtain ⟨l,xs,he,hm,hlen,A',I',K⟩:=zcr H I (vm hl) h1 h2 l1 (Le.refl m1) g (fun ds d=>ds++[d]) (fun xs w=>xs++[w])
     (fun _ _ _ _ _ _ _ _ le o nd hB=>jz le o nd hB) (fun _ _ _ _ _ _ _ n a b=>zd0 n a b) (fun _ _ _ _ _ _ a b=>a.app (.cons b .nil))
    rw[v6 (xm he m) h2]
    have:mtR .append (.ref l) [w] m1=.ok .non (m1.set l (.lst (xs++[w]))):=by
     simp only[mtR,hm];rw[if_pos (by lia)]
    rw[this]
    exact ⟨_,_,A',rfl,I',K⟩
   .trivial
  .trivial
 .trivial
set_option tactic.hygienic true in
theorem zct (I:Inv lo RR m de lv env A)(j:Nat):SimS lo RR A m (exS cl (.expr (.meth .reverse (.var j) .unit)) env m) (exD lev cd (.expr (.meth .reverse (.var j) .unit)) de lv):=by
 show SimS _ _ _ _ ((evE cl _ env m).bindS env _) (match wP de j with
   | some ds=>if yd lv j then .next (de.set j (some (.lst ds.reverse))) lv else .no
   | none=>.no)
 split
 .next ds hl =>
  split
  .next ho =>
   obtain ⟨l,xs,he,hm,hr,put⟩:=I.mut (vm hl) ho
   obtain ⟨A',I',K⟩:=put m ds.reverse xs.reverse (Le.refl m) (fun _=>(chg_rev (RR:=RR) (A:=A)).1) (fun _=>chg_rev.2)
   rw[zdZ (xm he m)]
   have:mtR .reverse (.ref l) [] m=.ok .non (m.set l (.lst xs.reverse)):=by simp only[mtR,hm]
   rw[this]
   exact ⟨_,_,A',rfl,I',K⟩
  .trivial
 .trivial
theorem zfR (H:CallR cl cd)(I:Inv lo RR m de lv env A){j p:Nat}{r:Ex}{k:Int}{ds:List Dat}{l l2:Nat}{xs:List Wd}(hr:evD cd r de=.ok (.int k))(hp:ix ds.length k=some p)(he:env[j]?=some (some (.ref l)))(hm:m[l]?=some (.lst xs))(hlen:ds.length=xs.length)(hx:xs[p]?=some (.ref l2)){m0:Me}(l0:Le m m0):
  ∃m1,evE cl (.idx (.var j) r) env m0=.ok (.ref l2) m1/\Le m0 m1:=by
 obtain ⟨w,m1,h2,l1,r1⟩:=I.ok H hr l0
 rw[rep_int.mp r1] at h2
 refine ⟨m1,?_,l1⟩
 show (evE cl (.var j) env m0).bind (fun x m1=>(evE cl r env m1).bind fun y m2=>yH x y m2)=_
 rw[xm he m0]
 simp only[Rz.bind,h2]
 exact qz (l1 l _ (l0 l _ hm)) (by rw[<- hlen];exact hp) hx
theorem zd1 {r:Rs}{o:Option DEn}{lv1:List Lv}(h:∀de1,o=some de1->SimS lo RR A m r (.next de1 lv1)):SimS lo RR A m r (toS o lv1):=by
 cases o with
 | none=>trivial
 | some d=>exact h d rfl
set_option tactic.hygienic true in
theorem zcu (H:CallO lev cl cd)(I:Inv lo RR m de lv env A)(j:Nat)(r e:Ex):SimS lo RR A m (exS cl (.expr (.meth .append (.idx (.var j) r) (.pair e .unit))) env m) (exD lev cd (.expr (.meth .append (.idx (.var j) r) (.pair e .unit))) de lv):=by
 show SimS _ _ _ _ ((evE cl _ env m).bindS env _) _
 refine SimS.okS fun rv hr=>SimS.okS fun d h1=>?_
 split
 .next f =>
  refine zd1 fun de1 h=>?_
  obtain ⟨k,ds,p,es,es1,rfl,hd,hp,hps,hf,hlv,rfl⟩:=zdX h
  split at hf
  .next hlim =>
   cases hf
   obtain ⟨l,xs,l2,us,he,hm,hx,hm2,hlen,hrep,put,_⟩:=I.mutIn hd hlv hps
   obtain ⟨m1,h3,l1⟩:=zfR H.r I hr hp he hm hlen hx (Le.refl m)
   obtain ⟨w,m2,h4,l2',r4⟩:=I.ok H.r h1 l1
   obtain ⟨B,ro,nd,hB⟩:=(I.ext l1).own H h1 h4
   rw[f] at ro
   have ch:Chg RR A m m2 es us (es++[d]) (us++[w]):=jz (l1.trans l2') ro nd (fun b hb=>Nat.le_trans l1.len (hB b hb))
   obtain ⟨A',I',K⟩:=put m2 _ _ (l1.trans l2') ch.1
   rw[v6 h3 h4]
   have e1:=hrep.len
   have:mtR .append (.ref l2) [w] m2=.ok .non (m2.set l2 (.lst (us++[w]))):=by
    simp only[mtR,l2' _ _ (l1 _ _ hm2)];rw[if_pos (by lia)]
   rw[this]
   exact ⟨_,_,A',rfl,I',K⟩
  .cases hf
 .trivial
end
section
variable {m:Me}
mutual
theorem Rep.avoid {R R':Nat->Prop}{m:Me}{D:Dat}{l:Nat}(hD:Rep R' m D (.ref l)):∀ (d:Dat) (w:Wd),dep d < dep D->Rep R m d w->Rep (fun x=>R x/\x≠l) m d w
 | .non,w,h,q=>rep_non.mpr (rep_non.mp q)
 | .bl _,w,h,q=>rep_bl.mpr (rep_bl.mp q)
 | .int _,w,h,q=>rep_int.mpr (rep_int.mp q)
 | .str _,w,h,q=>rep_str.mpr (rep_str.mp q)
 | .scr _,w,h,q=>rep_scr.mpr (rep_scr.mp q)
 | .tup ds,w,h,q=>by
  obtain ⟨xs,rfl,q1⟩:=rep_tup.mp q
  exact rep_tup.mpr ⟨xs,rfl,RepL.avoid hD ds xs (by rw[show dep (.tup ds)=depL ds+1 from by simp[dep]] at h;lia) q1⟩
 | .lst ds,w,h,q=>by
  obtain ⟨k,xs,rfl,r,hm,q1⟩:=rep_lst.mp q
  refine rep_lst.mpr ⟨k,xs,rfl,⟨r,fun e=>?_⟩,hm,RepL.avoid hD ds xs (by rw[show dep (.lst ds)=depL ds+1 from by simp[dep]] at h;lia) q1⟩
  subst e
  have:=Rep.det _ _ _ q hD
  rw[this] at h
  lia
theorem RepL.avoid {R R':Nat->Prop}{m:Me}{D:Dat}{l:Nat}(hD:Rep R' m D (.ref l)):∀ (ds:List Dat) (xs:List Wd),depL ds < dep D->RepL R m ds xs->RepL (fun x=>R x/\x≠l) m ds xs
 | [],xs,h,q=>by rw[q.nil_inv];exact .nil
 | d::ds,xs,h,q=>by
  obtain ⟨x,r,rfl,a,b⟩:=q.cons_inv
  unfold depL at h
  exact .cons (Rep.avoid hD d x (by lia) a) (RepL.avoid hD ds r (by lia) b)
end
end
section
variable {lo:Nat}{RR:Nat->Prop}{m:Me}{de:DEn}{lv:List Lv}{env:En}{A:Nat->List Nat}
theorem Inv.forget (I:Inv lo RR m de lv env A)(i:Nat)(w:Wd):Inv lo RR m (de.set i none) (lv.set i .full) (env.set i (some w)) A:=by
 refine ⟨by simp[I.len],by simp[I.lvl],I.rr,I.lom,fun k d l h1 h2=>?_,I.nd,I.dj,I.bd⟩
 by_cases e:i=k
 .subst e;rw[List.getElem?_set,if_pos rfl] at h1
  split at h1
  .cases h1
  .cases h1
 .rw[List.getElem?_set_ne e] at h1 h2
  obtain ⟨w',a,b⟩:=I.slot k d l h1 h2
  exact ⟨w',by rw[List.getElem?_set_ne e];exact a,b⟩
end
section
variable {lev:Nat->Lv}{cl:Nat->List Wd->Me->Rz}{cd:Nat->List Dat->Rd}{lo:Nat}{RR:Nat->Prop}
set_option tactic.hygienic true in
theorem Inv.bindSlot {m:Me}{de:DEn}{lv:List Lv}{env:En}{A:Nat->List Nat}(I:Inv lo RR m de lv env A)(i:Nat){d:Dat}{w:Wd}(h:Rep (yi RR A) m d w):Inv lo RR m (de.set i (some d)) (lv.set i (lvF d)) (env.set i (some w)) (upd A i [])/\Keep A m (upd A i []) m:=by
 refine I.store (Le.refl m) i (B:=[]) ?_ List.nodup_nil (by simp)
 unfold lvF
 split
 .next f=>exact h.flat d w f
 .exact ⟨Rep.frame (fun x o r z=>⟨⟨.inl r,by simp⟩,z⟩) _ _ h,rfl⟩
set_option tactic.hygienic true in
theorem xJ {bw:Wd->En->Me->Rs}{bd:Dat->DEn->List Lv->Rsd}(hb:∀x w m de lv env A,Inv lo RR m de lv env A->Rep (yi RR A) m x w->SimS lo RR A m (bw w env m) (bd x de lv)):
  ∀ (ds:List Dat) (xs:List Wd) (m:Me) (de:DEn) (lv:List Lv) (env:En) (A:Nat->List Nat),Inv lo RR m de lv env A->RepL (yi RR A) m ds xs->SimS lo RR A m (xl bw xs env m) (zD bd ds de lv)
 | [],xs,m,de,lv,env,A,I,r=>by
  rw[r.nil_inv]
  exact ⟨env,m,A,rfl,I,Keep.refl A m⟩
 | d::ds,xs,m,de,lv,env,A,I,r=>by
  obtain ⟨x,xs,rfl,a,b⟩:=r.cons_inv
  have h:=hb d x m de lv env A I a
  unfold xl zD
  cases z:bd d de lv with
  | next d1 l1 =>
   rw[z] at h
   obtain ⟨e1,m1,A1,h1,I1,K1⟩:=h
   rw[h1]
   exact SimS.keep K1 (xJ hb ds xs m1 d1 l1 e1 A1 I1 (K1.repL b))
  | cont d1 l1 =>
   rw[z] at h
   obtain ⟨e1,m1,A1,h1,I1,K1⟩:=h
   rw[h1]
   exact SimS.keep K1 (xJ hb ds xs m1 d1 l1 e1 A1 I1 (K1.repL b))
  | brk d1 l1 =>
   rw[z] at h
   obtain ⟨e1,m1,A1,h1,I1,K1⟩:=h
   rw[h1]
   exact ⟨e1,m1,A1,rfl,I1,K1⟩
  | ret d l =>
   rw[z] at h
   obtain ⟨w,m1,B,h1,k⟩:=h
   rw[h1]
   exact ⟨w,m1,B,rfl,k⟩
  | exc c d =>
   rw[z] at h
   obtain ⟨w,e,m1,h1,k⟩:=h
   rw[h1]
   exact ⟨w,e,m1,rfl,k⟩
  | no=>trivial
set_option tactic.hygienic true in
theorem wR {bw:Wd->En->Me->Rs}{bd:Dat->DEn->List Lv->Rsd}(hb:∀x w m de lv env A,Inv lo RR m de lv env A->Rep (yi RR A) m x w->SimS lo RR A m (bw w env m) (bd x de lv)){l:Nat}{xs0:List Wd}:
  ∀ (ds:List Dat) (i k:Nat) (m:Me) (de:DEn) (lv:List Lv) (env:En) (A:Nat->List Nat),Inv lo RR m de lv env A->(∀k,l∉A k)->m[l]?=some (.lst xs0)->RepL (yi RR A) m ds (xs0.drop i)->i+ds.length=xs0.length->ds.length < k->SimS lo RR A m (yI bw l k i env m) (zD bd ds de lv)
 | [],i,0,m,de,lv,env,A,I,hl,hm,r,hi,hk=>by simp at hk
 | d::ds,i,0,m,de,lv,env,A,I,hl,hm,r,hi,hk=>by simp at hk
 | [],i,k+1,m,de,lv,env,A,I,hl,hm,r,hi,hk=>by
  unfold yI zD zf
  rw[hm]
  simp only
  rw[List.getElem?_eq_none (by simp at hi;lia)]
  exact ⟨env,m,A,rfl,I,Keep.refl A m⟩
 | d::ds,i,k+1,m,de,lv,env,A,I,hl,hm,r,hi,hk=>by
  obtain ⟨x,q,e0,a,b⟩:=r.cons_inv
  have hx:xs0[i]?=some x:=by
   have:(xs0.drop i)[0]?=some x:=by rw[e0];rfl
   simpa using this
  have hr:q=xs0.drop (i+1):=by
   have:(xs0.drop i).drop 1=q:=by rw[e0];rfl
   rw[<- this,List.drop_drop]
  rw[hr] at b
  have hi':i+1+ds.length=xs0.length:=by simp at hi;lia
  have hk':ds.length < k:=by simp at hk;lia
  have h:=hb d x m de lv env A I a
  unfold yI zD zf
  rw[hm]
  simp only
  rw[hx]
  simp only
  cases z:bd d de lv with
  | next d1 l1 =>
   rw[z] at h
   obtain ⟨e1,m1,A1,h1,I1,K1⟩:=h
   rw[h1]
   exact SimS.keep K1 (wR hb ds (i+1) k m1 d1 l1 e1 A1 I1 (K1.1 l _ hl hm).1 (K1.1 l _ hl hm).2 (K1.repL b) hi' hk')
  | cont d1 l1 =>
   rw[z] at h
   obtain ⟨e1,m1,A1,h1,I1,K1⟩:=h
   rw[h1]
   exact SimS.keep K1 (wR hb ds (i+1) k m1 d1 l1 e1 A1 I1 (K1.1 l _ hl hm).1 (K1.1 l _ hl hm).2 (K1.repL b) hi' hk')
  | brk d1 l1 =>
   rw[z] at h
   obtain ⟨e1,m1,A1,h1,I1,K1⟩:=h
   rw[h1]
   exact ⟨e1,m1,A1,rfl,I1,K1⟩
  | ret d l =>
   rw[z] at h
   obtain ⟨w,m1,B,h1,k⟩:=h
   rw[h1]
   exact ⟨w,m1,B,rfl,k⟩
  | exc c d =>
   rw[z] at h
   obtain ⟨w,e,m1,h1,k⟩:=h
   rw[h1]
   exact ⟨w,e,m1,rfl,k⟩
  | no=>trivial
set_option tactic.hygienic true in
theorem zaA {bw:Wd->En->Me->Rs}{bd:Dat->DEn->List Lv->Rsd}(H:CallO lev cl cd)(hb:∀x w m de lv env A,Inv lo RR m de lv env A->Rep (yi RR A) m x w->SimS lo RR A m (bw w env m) (bd x de lv)){m:Me}{de:DEn}{lv:List Lv}{env:En}{A:Nat->List Nat}(I:Inv lo RR m de lv env A)(it:Ex):
  SimS lo RR A m ((evE cl it env m).bindS env fun w m1=>wE bw w env m1) ((evD cd it de).bindS fun d=>match itD d with
   | some xs=>zD bd xs de (if flat d then lv else xi it de lv)
   | none=>.no):=by
 have run:∀ (d:Dat) (w:Wd) (m1:Me) (xs:List Dat) (lv1:List Lv) (A1:Nat->List Nat),itD d=some xs->Inv lo RR m1 de lv1 env A1->Rep (yi RR A1) m1 d w->SimS lo RR A1 m1 (wE bw w env m1) (zD bd xs de lv1):=by
  intro d w m1 xs lv1 A1 hi I1 r
  cases d with
  | tup ds=>cases hi;obtain ⟨ys,rfl,r1⟩:=rep_tup.mp r;exact xJ hb _ _ _ _ _ _ _ I1 r1
  | scr ns=>cases hi;rw[rep_scr.mp r];exact xJ hb _ _ _ _ _ _ _ I1 (ziE ns)
  | lst ds =>
   simp only[itD] at hi
   split at hi
   .next z =>
    cases hi
    obtain ⟨l,ys,rfl,hR,hm,r1⟩:=rep_lst.mp r
    have:=r1.len
    exact wR hb _ 0 (lim+1) m1 de lv1 env A1 I1 hR.2 hm (by simpa using r1) (by lia) (by lia)
   .cases hi
  | _=>cases hi
 cases z:evD cd it de with
 | no=>trivial
 | exc c d =>
  have:=I.bindE H.r it (f:=fun w m1=>wE bw w env m1) (g:=fun d=>.no) (fun _ _ _ _ _ _ _=>trivial)
  rw[z] at this;exact this
 | ok d =>
  show SimS lo RR A m _ (match itD d with
   | some xs=>zD bd xs de (if flat d then lv else xi it de lv)
   | none=>.no)
  cases hi:itD d with
  | none=>trivial
  | some xs =>
   simp only
   split
   .next f =>
    obtain ⟨w,m1,h2,l1,r1⟩:=I.ok H.r z (Le.refl m)
    rw[h2]
    exact SimS.keep (jy l1) (run d w m1 xs lv A hi (I.ext l1) (Own.rep d w [] (by simp) (r1.flat d w f)))
   .obtain ⟨A1,I1,K1,_,h⟩:=I.relEv H it
    rw[z] at h
    obtain ⟨w,m1,h2,l1,r1⟩:=h.sim
    rw[h2]
    refine SimS.keep (K1.trans (jy l1)) (run d w m1 xs _ A1 hi (I1.ext l1) (Rep.frame (fun x o r z=>⟨?_,z⟩) _ _ r1))
    rcases r with r | r
    .exact r
    .exact ⟨I.rr x (Nat.le_trans I.lom r),fun k hk=>by have:=(I1.bd k x hk).2;lia⟩
set_option tactic.hygienic true in
theorem kO {c:Int}:∀ {ds ds':List Dat},yM c ds=some ds'->∀ {p:Nat},p < ds.length->∃es,ds[p]?=some (.lst es)/\es.length < lim/\ds'[p]?=some (.lst (es++[.int c]))
 | [],_,_,p,hp=>by simp at hp
 | d::r,ds',h,p,hp=>by
  unfold yM at h
  split at h
  .rename_i heq
   cases heq
  .rename_i es r' heq
   cases heq
   split at h
   .next hl =>
    cases hr:yM c r with
    | none=>rw[hr] at h;cases h
    | some t =>
     rw[hr] at h
     cases h
     cases p with
     | zero=>exact ⟨es,rfl,hl,rfl⟩
     | succ p=>simpa using kO hr (p:=p) (by simpa using hp)
   .cases h
  .cases h
set_option tactic.hygienic true in
theorem v9 {c:Int}:∀ {ds ds':List Dat},yM c ds=some ds'->ds'.length=ds.length
 | [],_,h=>by cases h;rfl
 | d::r,ds',h=>by
  unfold yM at h
  split at h
  .rename_i heq
   cases heq
  .rename_i es r' heq
   cases heq
   split at h
   .cases hr:yM c r with
    | none=>rw[hr] at h;cases h
    | some t=>rw[hr] at h;cases h;simpa using v9 hr
   .cases h
  .cases h
theorem kc {α:Type}{l:List α}{i:Nat}{o:α}(h:l[i]?=some o):l.set i o=l:=by
 refine List.ext_getElem? fun q=>?_
 by_cases hq:i=q
 .subst hq;rw[List.getElem?_set_self (List.getElem?_eq_some_iff.mp h).1,h]
 .rw[List.getElem?_set_ne hq]
theorem zcv {α:Type}{ds ds':List α}{p:Nat}{v:α}(h1:ds'.length=ds.length)(h2:p < ds.length)(h3:ds'[p]?=some v):(ds'.take p++ds.drop p).set p v=ds'.take (p+1)++ds.drop (p+1):=by
 refine List.ext_getElem? fun q=>?_
 by_cases hq:p=q
 .subst hq
  rw[List.getElem?_set_self (by simp;lia),List.getElem?_append_left (by simp;lia),List.getElem?_take,if_pos (by lia),h3]
 .rw[List.getElem?_set_ne hq]
  by_cases hlt:q < p
  .rw[List.getElem?_append_left (by simp;lia),List.getElem?_append_left (by simp;lia),List.getElem?_take,List.getElem?_take,if_pos hlt,if_pos (by lia)]
  .rw[List.getElem?_append_right (by simp;lia),List.getElem?_append_right (by simp;lia),List.getElem?_drop,List.getElem?_drop]
   congr 1
   simp only[List.length_take];lia
theorem Inv.drop {m:Me}{de:DEn}{lv:List Lv}{env:En}{A:Nat->List Nat}(I:Inv lo RR m de lv env A)(i:Nat)(hi:i < de.length):Inv lo RR m (de.set i none) (lv.set i .full) env A:=by
 refine ⟨by simp[I.len],by simp[I.lvl],I.rr,I.lom,fun k d l h1 h2=>?_,I.nd,I.dj,I.bd⟩
 by_cases e:i=k
 .subst e;rw[List.getElem?_set,if_pos rfl] at h1
  split at h1
  .cases h1
  .cases h1
 .rw[List.getElem?_set_ne e] at h1 h2
  exact I.slot k d l h1 h2
theorem Inv.hole {m:Me}{de:DEn}{lv:List Lv}{env:En}{A:Nat->List Nat}(I:Inv lo RR m de lv env A)(i:Nat):Inv lo RR m (de.set i none) (lv.set i .full) (env.set i none) A:=by
 refine ⟨by simp[I.len],by simp[I.lvl],I.rr,I.lom,fun k d l h1 h2=>?_,I.nd,I.dj,I.bd⟩
 by_cases e:i=k
 .subst e
  rw[List.getElem?_set,if_pos rfl] at h1
  split at h1 <;> cases h1
 .rw[List.getElem?_set_ne e] at h1 h2 ⊢
  exact I.slot k d l h1 h2
theorem zfS {R:Nat->Prop}{m:Me}{d:Dat}{x:Wd}{p:Int×Int}(h:zay d=some p)(r:Rep R m d x):zfl x=some p:=by
 cases d with
 | tup ds =>
  obtain ⟨xs,rfl,q⟩:=rep_tup.mp r
  cases ds with
  | nil=>cases h
  | cons a ds =>
   cases ds with
   | nil=>cases a <;> cases h
   | cons b ds =>
    cases ds with
    | cons c ds=>cases a <;> cases b <;> cases h
    | nil =>
     cases a with
     | int i =>
      cases b with
      | int j =>
       cases h
       obtain ⟨x1,r1,rfl,q1,q2⟩:=q
       obtain ⟨x2,r2,rfl,q3,q4⟩:=q2
       obtain rfl:r2=[]:=q4
       rw[rep_int.mp q1,rep_int.mp q3]
       rfl
      | _=>cases h
     | _=>cases h
 | _=>cases h
theorem zaB {R:Nat->Prop}{m:Me}:∀ {ds:List Dat}{xs:List Wd}{ps:List (Int×Int)},vZ ds=some ps->RepL R m ds xs->qY xs=some ps
 | [],xs,ps,h,r=>by
  obtain rfl:xs=[]:=r
  exact h
 | d::ds,xs,ps,h,r=>by
  obtain ⟨x,xs',rfl,q1,q2⟩:=r
  have h':(match zay d,vZ ds with | some p,some q=>some (p::q) | _,_=>none)=some ps:=h
  show (match zfl x,qY xs' with | some p,some q=>some (p::q) | _,_=>none)=some ps
  cases e1:zay d with
  | none=>rw[e1] at h';cases h'
  | some p =>
   cases e2:vZ ds with
   | none=>rw[e1,e2] at h';cases h'
   | some q =>
    rw[e1,e2] at h'
    rw[zfS e1 q1,zaB e2 q2]
    exact h'
set_option tactic.hygienic true in
theorem zd2 {m:Me}{de:DEn}{lv:List Lv}{env:En}{A:Nat->List Nat}(I:Inv lo RR m de lv env A)(t n k p s:Nat):SimS lo RR A m (zdq t n k p s env m) (zfQ t n k p s de lv):=by
 unfold zfQ
 split
 .next ds i h1 h2 =>
  split
  .next ps h3 =>
   split
   .next h4 =>
    obtain ⟨l1,g1⟩:=I.getlv h1
    obtain ⟨l2,g2⟩:=I.getlv h2
    obtain ⟨w1,e1,r1⟩:=I.slot t _ l1 h1 g1
    obtain ⟨w2,e2,r2⟩:=I.slot n _ l2 h2 g2
    have q1:Rep (fun _=>True) m (.lst ds) w1:=RepO.rep (fun _ _=>trivial) (fun _ _=>trivial) r1
    have q2:Rep (fun _=>True) m (.int i) w2:=RepO.rep (fun _ _=>trivial) (fun _ _=>trivial) r2
    obtain ⟨l,xs,rfl,_,hm,rl⟩:=rep_lst.mp q1
    obtain rfl:=rep_int.mp q2
    have e:zdq t n k p s env m=.next (((env.set k none).set p none).set s none) (m++zdp ps):=by
     unfold zdq
     rw[e1,e2]
     simp only[hm,zaB h3 rl]
     rw[if_pos ⟨h4.1,h4.2.1⟩]
    have le:Le m (m++zdp ps):=fun l o z=>by rw[List.getElem?_append_left (List.getElem?_eq_some_iff.mp z).1];exact z
    exact ⟨_,m++zdp ps,A,e,(((I.hole k).hole p).hole s).ext le,fun l o h z=>⟨h,le l o z⟩,by simp⟩
   .trivial
  .trivial
 .trivial
set_option tactic.hygienic true in
theorem kP {t:Nat}{es:List Dat}:∀ {ds:List Dat}{p:Nat},wQ cd t ds=true->ds[p]?=some (.lst es)->∃d es0,es=d::es0/\cd t [d]=.ok (.bl true)
 | [],p,_,h=>by simp at h
 | d::ds,p,h,hp=>by
  unfold wQ at h
  split at h
  .next h0=>cases h0
  .next d0 es0 r h0 =>
   cases h0
   rw[Bool.and_eq_true] at h
   cases p with
   | zero =>
    cases hp
    refine ⟨d0,es0,rfl,?_⟩
    have h1:=h.1
    split at h1
    .next b e=>rw[e,h1]
    .cases h1
   | succ p=>exact kP h.2 hp
  .cases h
theorem zba {i t l:Nat}{env:En}{m m1:Me}{w0:Wd}{us:List Wd}(he:env[i]?=some (some (.ref l)))(hm:m[l]?=some (.lst (w0::us)))(hc:cl t [w0] m=.ok (.bl true) m1):evE cl (zey i t) env m=.ok (.bl false) m1:=by
 have e1:=xm (cl:=cl) he m
 show (((evE cl (.var i) env m).bind fun x m1=>ofB (isT .list x m1) m1).bind fun x m1=>match x with
   | .bl b=>Rz.ok (.bl (!b)) m1
   | _=>.no).bind (fun x m1=>match x with
   | .bl false=>((((evE cl (.var i) env m1).bind fun x m1=>(Rz.ok (.int 0) m1).bind fun y m2=>yH x y m2).bind fun x m1=>(Rz.ok (.tup []) m1).bind fun y m2=>.ok (.tup (x::zn y)) m2).bind fun x m1=>cl t (zn x) m1).bind fun x m1=>match x with
    | .bl b=>Rz.ok (.bl (!b)) m1
    | _=>.no
   | .bl true=>.ok (.bl true) m1
   | _=>.no)=_
 have e2:isT .list (.ref l) m=some true:=by
  simp only[isT,hm]
  rfl
 have e3:yH (.ref l) (.int 0) m=.ok w0 m:=by
  simp[yH,yx,zf,hm,ix]
 rw[e1]
 simp only[Rz.bind,ofB,e2,Bool.not_true]
 rw[e1]
 simp only[Rz.bind,e3,zn,hc,Bool.not_true]
theorem zbb (H:CallR cl cd){i j t l:Nat}{c:Int}(hij:i≠j){ds ds':List Dat}(ha:yM c ds=some ds')(hh:wQ cd t ds=true)(n:Nat):∀ (p k:Nat) (m:Me) (de:DEn) (lv:List Lv) (env:En) (A:Nat->List Nat),Inv lo RR m de lv env A->p+n=ds.length->n < k->de[i]?=some none->lv[i]?=some .full->lv[j]?=some .full ->
  de[j]?=some (some (.lst (ds'.take p++ds.drop p)))->env[j]?=some (some (.ref l)) ->
  ∃env' m' A',yI (fun x e m=>jX cl i t c (e.set i (some x)) m) l k p env m=.next env' m'/\Inv lo RR m' (de.set j (some (.lst ds'))) lv env' A'/\Keep A m A' m':=by
 have hl':=v9 ha
 induction n with
 | zero =>
  intro p k m de lv env A I hp hk hi hli hlj hd he
  obtain ⟨k,rfl⟩:∃q,k=q+1:=⟨k - 1,by lia⟩
  have hds:ds'.take p++ds.drop p=ds':=by rw[List.take_of_length_le (by lia),List.drop_eq_nil_of_le (by lia),List.append_nil]
  rw[hds] at hd
  obtain ⟨w,a,b⟩:=I.slot j _ .full hd hlj
  obtain ⟨l',xs,B,rfl,hA,hm,r⟩:=own_lst.mp b
  rw[he] at a;cases a
  have hx:ds'.length=xs.length:=(OwnL.rep (R:=fun _=>True) ds' xs B (fun _ _=>trivial) r).len
  refine ⟨env,m,A,?_,?_,Keep.refl A m⟩
  .unfold yI zf
   rw[hm]
   simp only
   rw[List.getElem?_eq_none (by lia)]
  .have:de.set j (some (.lst ds'))=de:=kc hd
   rw[this];exact I
 | succ n ih =>
  intro p k m de lv env A I hp hk hi hli hlj hd he
  obtain ⟨k,rfl⟩:∃q,k=q+1:=⟨k - 1,by lia⟩
  obtain ⟨es,e1,e2,e3⟩:=kO ha (p:=p) (by lia)
  have hpg:(ds'.take p++ds.drop p)[p]?=some (.lst es):=by
   rw[List.getElem?_append_right (by simp;lia),List.length_take,Nat.min_eq_left (by lia),Nat.sub_self,List.getElem?_drop,Nat.add_zero,e1]
  obtain ⟨l0,xs,l2,us,he0,hm,hx,hm2,hlen,hrep,put,_⟩:=I.mutIn hd hlj hpg
  rw[he] at he0;cases he0
  obtain ⟨d0,es0,rfl,hc0⟩:=kP hh e1
  obtain ⟨w0,us0,rfl,r0,_⟩:=hrep.cons_inv
  have hcl:=H t [d0] [w0] RR m (.cons r0 .nil)
  rw[hc0] at hcl
  obtain ⟨wb,m1,hcl,le,rb⟩:=hcl
  rw[rep_bl.mp rb] at hcl
  have ow:Own m1 (.int c) (.int c) []:=(rep_int.mpr rfl:Rep (fun _=>True) m1 (.int c) (.int c)).flat _ _ rfl
  have ch:Chg RR A m m1 (d0::es0) (w0::us0) (d0::es0++[.int c]) (w0::us0++[.int c]):=jz le (B0:=[]) ow List.nodup_nil (by simp)
  obtain ⟨A1,I1,K1⟩:=put m1 _ _ le ch.1
  have I2:=I1.forget i (.ref l2)
  have hjl:j < de.length:=(List.getElem?_eq_some_iff.mp hd).1
  have e5:(ds'.take p++ds.drop p).set p (.lst (d0::es0++[.int c]))=ds'.take (p+1)++ds.drop (p+1):=zcv (by lia) (by lia) e3
  rw[e5,kc (i:=i) (o:=none) (by rw[List.getElem?_set_ne (Ne.symm hij)];exact hi),kc hli] at I2
  obtain ⟨env',m',A',r1,r2,r3⟩:=ih (p+1) k _ _ lv _ A1 I2 (by lia) (by lia) (by rw[List.getElem?_set_ne (Ne.symm hij)];exact hi) hli hlj (List.getElem?_set_self hjl) (by rw[List.getElem?_set_ne hij];exact he)
  rw[List.set_set] at r2
  refine ⟨env',m',A',?_,r2,K1.trans r3⟩
  have hel:i < env.length:=by rw[<- I.len];exact (List.getElem?_eq_some_iff.mp hi).1
  have hev:jX cl i t c (env.set i (some (.ref l2))) m=.next (env.set i (some (.ref l2))) (m1.set l2 (.lst (w0::us0++[.int c]))):=by
   have e1:=hrep.len
   unfold jX
   rw[zba (List.getElem?_set_self hel) hm2 hcl]
   simp only[Rz.bindS]
   rw[v6 (x:=.ref l2) (m1:=m1) (w:=.int c) (m2:=m1) (xm (List.getElem?_set_self hel) m1) rfl]
   simp only[mtR,le _ _ hm2];rw[if_pos (by lia)]
  unfold yI zf
  rw[hm]
  simp only
  rw[hx]
  simp only
  rw[hev]
  exact r1
set_option tactic.hygienic true in
theorem zcw (H:CallR cl cd){m:Me}{de:DEn}{lv:List Lv}{env:En}{A:Nat->List Nat}(I:Inv lo RR m de lv env A)(i j t:Nat)(c:Int):SimS lo RR A m (exS cl (.forB i j t c) env m) (exD lev cd (.forB i j t c) de lv):=by
 have hS:exS cl (.forB i j t c) env m=(evE cl (.var j) env m).bindS env fun w m1=>wE (fun x e m=>jX cl i t c (e.set i (some x)) m) w env m1:=rfl
 rw[hS]
 show SimS _ _ _ _ _ (match wP de j with
  | some ds=>match yM c ds with
   | some ds'=>if wQ cd t ds=true/\i≠j/\i < de.length/\lv[j]?=some .full/\ds.length<=lim then .next ((de.set i none).set j (some (.lst ds'))) (lv.set i .full) else .no
   | none=>.no
  | none=>.no)
 cases e1:wP de j with
 | none=>trivial
 | some ds =>
  simp only
  cases e2:yM c ds with
  | none=>trivial
  | some ds' =>
   simp only
   split
   .next h =>
    obtain ⟨hh,hij,hil,hj,hl⟩:=h
    have hd:=vm e1
    obtain ⟨w,a,b⟩:=I.slot j _ .full hd hj
    obtain ⟨l,xs,B,rfl,hA,hm,r⟩:=own_lst.mp b
    rw[xm a m]
    simp only[Rz.bindS,wE]
    have hel:i < env.length:=by rw[<- I.len];exact hil
    have I1:Inv lo RR m (de.set i none) (lv.set i .full) env A:=I.drop i hil
    obtain ⟨env',m',A',r1,r2,r3⟩:=zbb (cl:=cl) H hij e2 hh ds.length 0 (lim+1) m _ _ _ A I1 (by lia) (by lia) (List.getElem?_set_self hil) (List.getElem?_set_self (by rw[I.lvl];exact hil)) (by rw[List.getElem?_set_ne hij];exact hj) (by rw[List.getElem?_set_ne hij,hd];simp) a
    exact ⟨env',m',A',r1,r2,r3⟩
   .trivial
theorem zd3 {m:Me}{d:Dat}{w:Wd}{A:List Nat}{ds:List Dat}{i:Int}{v:Dat}(o:Own m d w A)(nd:A.Nodup)(e:yV d (.int i)=.ok v)(hv:flat v=false):
  ∃x B,yH w (.int i) m=.ok x m/\Own m v x B/\B.Nodup/\∀b∈B,b∈A:=by
 have go:∀ (ds:List Dat) (xs:List Wd) (C:List Nat),y8 d=some ds->yx m w=some xs->OwnL m ds xs C->C.Nodup->(∀b∈C,b∈A)->∃x B,yH w (.int i) m=.ok x m/\Own m v x B/\B.Nodup/\∀b∈B,b∈A:=by
  intro ds xs C h1 h2 r nC hC
  simp only[yV,h1] at e
  have hlen:=OwnL.len r
  cases h3:(ix ds.length i).bind fun j=>ds[j]? with
  | none=>rw[h3] at e;cases e
  | some v' =>
   rw[h3] at e
   cases e
   obtain ⟨p,h4,h5⟩:=Option.bind_eq_some_iff.mp h3
   obtain ⟨x,B1,Bp,B2,g1,g2,g3,g4,g5⟩:=r.split h5
   rw[hlen] at h4
   refine ⟨x,Bp,?_,g3,?_,fun b hb=>hC b ?_⟩
   .simp only[yH,h2,h4,Option.bind_some,g1]
   .rw[g2] at nC
    exact (List.nodup_append.mp (List.nodup_append.mp nC).2.1).1
   .rw[g2];simp[hb]
 cases d with
 | lst ds =>
  obtain ⟨l,xs,B,rfl,rfl,hm,r⟩:=own_lst.mp o
  exact go ds xs B rfl (by show zf m l=some xs;unfold zf;rw[hm]) r (List.nodup_cons.mp nd).2 (fun b hb=>List.mem_cons_of_mem _ hb)
 | tup ds =>
  obtain ⟨xs,rfl,r⟩:=own_tup.mp o
  exact go ds xs A rfl rfl r nd (fun b hb=>hb)
 | scr ns =>
  simp only[yV,y8] at e
  cases h3:(ix (ns.map Dat.int).length i).bind fun j=>(ns.map Dat.int)[j]? with
  | none=>rw[h3] at e;cases e
  | some v' =>
   rw[h3] at e
   cases e
   obtain ⟨p,h4,h5⟩:=Option.bind_eq_some_iff.mp h3
   rw[List.getElem?_map] at h5
   cases hn:ns[p]? with
   | none=>rw[hn] at h5;cases h5
   | some n=>rw[hn] at h5;cases h5;cases hv
 | _=>cases e
theorem zaC {m:Me}{k:List Int}{d:Dat}{x:Wd}{B:List Nat}(a:Own m d x B):∀ {ps:List (List Int×Dat)}{qs:List (List Int×Wd)}{C:List Nat},ps.map Prod.fst=qs.map Prod.fst->OwnL m (ps.map Prod.snd) (qs.map Prod.snd) C ->
  (zq (k,d) ps).map Prod.fst=(zq (k,x) qs).map Prod.fst/\∃D,OwnL m ((zq (k,d) ps).map Prod.snd) ((zq (k,x) qs).map Prod.snd) D/\D.Perm (B++C)
 | [],[],C,_,r=>⟨rfl,_,.cons a r,.refl _⟩
 | [],_::_,_,h,_=>by cases h
 | _::_,[],_,h,_=>by cases h
 | p::ps,q::qs,C,h,r=>by
  obtain ⟨h1,h2⟩:=List.cons.inj (show p.1::ps.map Prod.fst=q.1::qs.map Prod.fst from h)
  show (if ltW k p.1 then (k,d)::p::ps else p::zq (k,d) ps).map Prod.fst=(if ltW k q.1 then (k,x)::q::qs else q::zq (k,x) qs).map Prod.fst/\∃D,OwnL m ((if ltW k p.1 then (k,d)::p::ps else p::zq (k,d) ps).map Prod.snd) ((if ltW k q.1 then (k,x)::q::qs else q::zq (k,x) qs).map Prod.snd) D/\D.Perm (B++C)
  rw[h1]
  cases ltW k q.1 with
  | true=>exact ⟨congrArg (k::·) h,_,.cons a r,.refl _⟩
  | false =>
   obtain ⟨_,_,B1,C1,e,rfl,r1,r2⟩:=OwnL.cons_inv (show OwnL m (p.2::ps.map Prod.snd) (q.2::qs.map Prod.snd) C from r)
   cases e
   obtain ⟨i1,D,i2,i3⟩:=zaC a h2 r2
   refine ⟨by show p.1::(zq (k,d) ps).map Prod.fst=q.1::(zq (k,x) qs).map Prod.fst;rw[h1,i1],_,.cons r1 i2,?_⟩
   refine (i3.append_left B1).trans ?_
   rw[<- List.append_assoc,<- List.append_assoc]
   exact List.perm_append_comm.append_right C1
theorem gE {m:Me}:∀ {ks:List (List Int)}{ds:List Dat}{xs:List Wd}{C:List Nat},ks.length=ds.length->OwnL m ds xs C ->
  (zu (ks.zip ds)).map Prod.fst=(zu (ks.zip xs)).map Prod.fst/\∃D,OwnL m ((zu (ks.zip ds)).map Prod.snd) ((zu (ks.zip xs)).map Prod.snd) D/\D.Perm C
 | [],[],_,_,_,r=>by obtain ⟨rfl,rfl⟩:=r.nil_inv;exact ⟨rfl,[],.nil,.refl _⟩
 | [],_::_,_,_,h,_=>by cases h
 | _::_,[],_,_,h,_=>by cases h
 | k::ks,d::ds,xs,C,h,r=>by
  obtain ⟨x,us,B1,C1,rfl,rfl,r1,r2⟩:=r.cons_inv
  obtain ⟨i1,D,i2,i3⟩:=gE (ks:=ks) (Nat.succ.inj h) r2
  obtain ⟨j1,D2,j2,j3⟩:=zaC (k:=k) r1 i1 i2
  rw[List.zip_cons_cons,List.zip_cons_cons,zX,zX]
  exact ⟨j1,D2,j2,j3.trans (i3.append_left B1)⟩
theorem kQ:∀ {ds:List Dat}{ks:List (List Int)},yB ds=some ks->ks.length=ds.length
 | [],_,h=>by cases h;rfl
 | d::ds,ks,h=>by
  cases d with
  | lst es =>
   have h':(match qv es,yB ds with
    | some k,some ks=>some (k::ks)
    | _,_=>none)=some ks:=h
   cases e1:qv es with
   | none=>simp only[e1] at h';cases h'
   | some k =>
    cases e2:yB ds with
    | none=>simp only[e1,e2] at h';cases h'
    | some ks' =>
     simp only[e1,e2] at h'
     cases h'
     exact congrArg (·+1) (kQ e2)
  | _=>cases h
theorem qA {m m1:Me}{de:DEn}{lv:List Lv}{env:En}{A:Nat->List Nat}(I:Inv lo RR m de lv env A){j k:Nat}{d:Dat}{w:Wd}(hj:lv[j]?=some .full)(z:evD cd (.blt .sorted (.pair (.idx (.var j) (.var k)) .unit)) de=.ok d)
  (h2:evE cl (.blt .sorted (.pair (.idx (.var j) (.var k)) .unit)) env m=.ok w m1):∃B,RepO (fun x=>RR x/\x∉B) m1 .full d w B/\B.Nodup/\∀b∈B,lo<=b:=by
 have z':((((evD cd (.var j) de).bind fun x=>(evD cd (.var k) de).bind fun y=>yV x y).bind fun x=>(Rd.ok (.tup [])).bind fun y=>.ok (.tup (x::zy y))).bind fun x=>yq .sorted (zy x))=.ok d:=z
 have h':((((evE cl (.var j) env m).bind fun x m1=>(evE cl (.var k) env m1).bind fun y m2=>yH x y m2).bind fun x m1=>(Rz.ok (.tup []) m1).bind fun y m2=>.ok (.tup (x::zn y)) m2).bind fun x m1=>wD .sorted (zn x) m1)=.ok w m1:=h2
 cases q1:evD cd (.var j) de with
 | no=>rw[q1] at z';cases z'
 | exc _ _=>rw[q1] at z';cases z'
 | ok dj =>
  cases q2:evD cd (.var k) de with
  | no=>rw[q1,q2] at z';cases z'
  | exc _ _=>rw[q1,q2] at z';cases z'
  | ok dk =>
   rw[q1,q2] at z'
   simp only[Rd.bind] at z'
   have g1:=vk q1
   have g2:=vk q2
   cases dk with
   | int i =>
    cases q3:yV dj (.int i) with
    | no=>rw[q3] at z';cases z'
    | exc _ _=>rw[q3] at z';cases z'
    | ok v =>
     rw[q3] at z'
     simp only[zy] at z'
     cases v with
     | lst es =>
      have z2:(match (yB es).bind fun ks=>yo Dat ks es with | some i=>zQ i | none=>.no)=.ok d:=z'
      cases q4:(yB es).bind fun ks=>yo Dat ks es with
      | none=>rw[q4] at z2;cases z2
      | some es' =>
       rw[q4] at z2
       obtain ⟨ks,k1,k2⟩:=Option.bind_eq_some_iff.mp q4
       obtain ⟨lk,hlk⟩:=I.getlv g2
       obtain ⟨wj,ej,oj⟩:=I.slot j dj .full g1 hj
       obtain ⟨wk,ek,ok⟩:=I.slot k _ lk g2 hlk
       have rk:Rep (fun _=>True) m (.int i) wk:=RepO.rep (fun _ _=>trivial) (fun _ _=>trivial) ok
       obtain rfl:=rep_int.mp rk
       obtain ⟨x,B,hx,ox,nB,hB⟩:=zd3 (ds:=[]) oj (I.nd j) q3 rfl
       obtain ⟨l2,us,B2,rfl,rfl,hm2,r2⟩:=own_lst.mp ox
       rw[xm ej m] at h'
       simp only[Rz.bind] at h'
       rw[xm ek m] at h'
       simp only[Rz.bind,hx,zn] at h'
       have rr:RepL (fun _=>True) m es us:=OwnL.rep es us B2 (fun _ _=>trivial) r2
       obtain ⟨ys,h3,_⟩:=gD rr k2
       have e3:zf m l2=some us:=by unfold zf;rw[hm2]
       have e4:((xo m us).bind fun ks=>yo Wd ks us)=some ys:=by rw[vX rr k1];exact h3
       simp only[wD,e3,e4] at h'
       have nB2:=(List.nodup_cons.mp nB).2
       obtain ⟨B3,r3,n3,s3⟩:∃B3,OwnL m es' ys B3/\B3.Nodup/\∀b∈B3,b∈B2:=by
        obtain ⟨e1,D,r3,n3⟩:=gE (kQ k1) r2
        rw[xp] at k2 h3
        have k2':(if yy ((zu (ks.zip es)).map Prod.fst) then some ((zu (ks.zip es)).map Prod.snd) else none)=some es':=k2
        have h3':(if yy ((zu (ks.zip us)).map Prod.fst) then some ((zu (ks.zip us)).map Prod.snd) else none)=some ys:=h3
        rw[e1] at k2'
        cases c:yy ((zu (ks.zip us)).map Prod.fst) with
        | false=>rw[c] at k2';cases k2'
        | true=>rw[c] at k2' h3';cases k2';cases h3';exact ⟨D,r3,n3.nodup_iff.mpr nB2,fun b hb=>n3.mem_iff.mp hb⟩
       have hlen:=OwnL.len r3
       have z3:(if es'.length<=lim then Rd.ok (.lst es') else .no)=.ok d:=z2
       unfold alloc at h'
       by_cases c:es'.length<=lim
       .rw[if_pos c] at z3
        rw[if_pos (by lia)] at h'
        cases z3
        cases h'
        have hlt:=OwnL.lt es' ys B3 r3
        refine ⟨m.length::B3,own_lst.mpr ⟨_,ys,B3,rfl,rfl,by simp,OwnL.frame es' ys B3 (fun l hl o q=>Le.app m _ l o q) r3⟩,List.nodup_cons.mpr ⟨fun q=>by have:=hlt _ q;lia,n3⟩,fun b hb=>?_⟩
        rcases List.mem_cons.mp hb with rfl | hb
        .exact I.lom
        .exact (I.bd j b (hB b (List.mem_cons_of_mem _ (s3 b hb)))).1
       .rw[if_neg c] at z3;cases z3
     | _=>cases z'
   | _=>cases z'
set_option tactic.hygienic true in
theorem zd4 (H:CallO lev cl cd){m:Me}{de:DEn}{lv:List Lv}{env:En}{A:Nat->List Nat}(I:Inv lo RR m de lv env A)(e:Ex):SimS lo RR A m (exS cl (.ret e) env m) (exD lev cd (.ret e) de lv):=by
 show SimS _ _ _ _ ((evE cl e env m).bindS env _) ((evD cd e de).bindS _)
 cases z:evD cd e de with
 | no=>trivial
 | exc c d =>
  have:=I.bindE H.r e (f:=fun w m1=>.ret w m1) (g:=fun d=>.no) (fun _ _ _ _ _ _ _=>trivial)
  rw[z] at this;exact this
 | ok d =>
  obtain ⟨w,m1,h2,l1,r1⟩:=I.ok H.r z (Le.refl m)
  rw[h2]
  show SimS lo RR A m (.ret w m1) (.ret d (lvR lev e d lv))
  have kp:(∀ (x:Nat) o,(∀i,x∉A i)->m[x]?=some o->m1[x]?=some o)/\m.length<=m1.length:=⟨fun x o _ b=>l1 x o b,l1.len⟩
  have no:RepO (fun x=>RR x/\x∉([]:List Nat)) m1 .no d w []:=⟨Rep.frame (fun x o r z=>⟨⟨r,by simp⟩,z⟩) _ _ r1,rfl⟩
  by_cases f:flat d=true
  .refine ⟨w,m1,[],rfl,kp,?_,List.nodup_nil,by simp⟩
   unfold lvR;rw[if_pos f]
   exact r1.flat d w f
  .unfold lvR
   rw[if_neg f]
   split
   .next i =>
    have hdi:de[i]?=some (some d):=by
     exact vk z
    obtain ⟨l,hl⟩:=I.getlv hdi
    obtain ⟨w',he,ro⟩:=I.slot i d l hdi hl
    rw[xm he m] at h2;cases h2
    rw[hl]
    refine ⟨_,_,A i,rfl,kp,?_,I.nd i,fun b hb=>(I.bd i b hb).1⟩
    exact ro.frame (fun x o r z=>⟨⟨r.1,r.2 i⟩,z⟩) (fun _ _ _ z=>z)
   .next a b =>
    split
    .next c =>
     obtain ⟨hab,ha,hb⟩:=c
     have:∃da db,de[a]?=some (some da)/\de[b]?=some (some db)/\d=.tup [da,db]:=by
      have hz:evD cd (.tup (.pair (.var a) (.pair (.var b) .unit))) de=((evD cd (.var a) de).bind fun x=>((evD cd (.var b) de).bind fun y=>.ok (.tup [y])).bind fun y=>.ok (.tup (x::zy y))).bind fun x=>if (zy x).length<=lim then .ok (.tup (zy x)) else .no:=rfl
      rw[hz] at z
      cases q1:de[a]? with
      | none=>rw[yr (.inl q1)] at z;cases z
      | some o=>cases o with
       | none=>rw[yr (.inr q1)] at z;cases z
       | some da =>
        rw[y9 q1] at z
        cases q2:de[b]? with
        | none=>rw[yr (.inl q2)] at z;cases z
        | some o=>cases o with
         | none=>rw[yr (.inr q2)] at z;cases z
         | some db =>
          rw[y9 q2] at z
          simp[Rd.bind,zy,lim] at z
          exact ⟨da,db,rfl,rfl,z.symm⟩
     obtain ⟨da,db,h3,h4,rfl⟩:=this
     obtain ⟨wa,ea,oa⟩:=I.slot a da .full h3 ha
     obtain ⟨wb,eb,ob⟩:=I.slot b db .full h4 hb
     have hw:evE cl (.tup (.pair (.var a) (.pair (.var b) .unit))) env m=.ok (.tup [wa,wb]) m:=by
      show (((evE cl (.var a) env m).bind fun x m1=>((evE cl (.var b) env m1).bind fun y m2=>.ok (.tup [y]) m2).bind fun y m2=>.ok (.tup (x::zn y)) m2).bind fun x m1=>if (zn x).length<=lim then .ok (.tup (zn x)) m1 else .no)=_
      rw[xm ea m]
      simp only[Rz.bind]
      rw[xm eb m]
      simp[zn,lim]
     rw[hw] at h2;cases h2
     refine ⟨_,_,A a++(A b++[]),rfl,kp,own_tup.mpr ⟨_,rfl,.cons oa (.cons ob .nil)⟩,?_,?_⟩
     .rw[List.append_nil]
      exact List.nodup_append.mpr ⟨I.nd a,I.nd b,fun x hx y hy e=>hab (I.dj a b x hx (by rw[e];exact hy))⟩
     .intro x hx
      rw[List.append_nil] at hx
      rcases List.mem_append.mp hx with q | q
      .exact (I.bd a x q).1
      .exact (I.bd b x q).1
    .exact ⟨w,m1,[],rfl,kp,no,List.nodup_nil,by simp⟩
   .next j k =>
    split
    .next hj =>
     obtain ⟨B,ro,nd,hB⟩:=qA I hj z h2
     exact ⟨w,m1,B,rfl,kp,ro,nd,hB⟩
    .exact ⟨w,m1,[],rfl,kp,no,List.nodup_nil,by simp⟩
   .obtain ⟨B,ro,nd,hB⟩:=I.own H z h2
    exact ⟨w,m1,B,rfl,kp,ro,nd,fun b hb=>Nat.le_trans I.lom (hB b hb)⟩
set_option tactic.hygienic true in
theorem xV (H:CallO lev cl cd):∀ (s:Sm) (m:Me) (de:DEn) (lv:List Lv) (env:En) (A:Nat->List Nat),Inv lo RR m de lv env A->SimS lo RR A m (exS cl s env m) (exD lev cd s de lv)
 | .skip,m,de,lv,env,A,I=>by show SimS _ _ _ _ (.next env m) (.next de lv);exact ⟨env,m,A,rfl,I,Keep.refl A m⟩
 | .seq a b,m,de,lv,env,A,I=>by
  cases hv:zK a b with
  | some t=>rw[jx,hv];exact trivial
  | none =>
   have h:=xV H a m de lv env A I
   rw[jx,hv]
   show SimS _ _ _ _ (match exS cl a env m with
    | .next e1 m1=>exS cl b e1 m1
    | r=>r) _
   cases z:exD lev cd a de lv with
   | next d1 l1 =>
    rw[z] at h
    obtain ⟨e1,m1,A1,h1,I1,K1⟩:=h
    rw[h1]
    exact SimS.keep K1 (xV H b m1 d1 l1 e1 A1 I1)
   | cont d1 l1 =>
    rw[z] at h
    obtain ⟨e1,m1,A1,h1,I1,K1⟩:=h
    rw[h1]
    exact ⟨e1,m1,A1,rfl,I1,K1⟩
   | brk d1 l1 =>
    rw[z] at h
    obtain ⟨e1,m1,A1,h1,I1,K1⟩:=h
    rw[h1]
    exact ⟨e1,m1,A1,rfl,I1,K1⟩
   | ret d l =>
    rw[z] at h
    obtain ⟨w,m1,B,h1,k⟩:=h
    rw[h1]
    exact ⟨w,m1,B,rfl,k⟩
   | exc c d =>
    rw[z] at h
    obtain ⟨w,e,m1,h1,k⟩:=h
    rw[h1]
    exact ⟨w,e,m1,rfl,k⟩
   | no=>trivial
 | .asg i e,m,de,lv,env,A,I=>zdY H I i e
 | .asgS _ _ _,m,de,lv,env,A,I=>trivial
 | .swapS _ _ _ _ _ _,m,de,lv,env,A,I=>trivial
 | .aug _ _ _,m,de,lv,env,A,I=>trivial
 | .augS _ _ _ _,m,de,lv,env,A,I=>trivial
 | .ite c a b,m,de,lv,env,A,I=>by
  refine I.bindE H.r c fun d w m1 _ _ l1 r1=>?_
  cases d with
  | bl t =>
   rw[rep_bl.mp r1]
   cases t with
   | true=>exact xV H a m1 de lv env A (I.ext l1)
   | false=>exact xV H b m1 de lv env A (I.ext l1)
  | _=>trivial
 | .forv i it body,m,de,lv,env,A,I=>by
  refine zaA H (fun x w m de lv env A I r=>?_) I it
  obtain ⟨I1,K1⟩:=I.bindSlot i r
  exact SimS.keep K1 (xV H body _ _ _ _ _ I1)
 | .fort i j it body,m,de,lv,env,A,I=>by
  refine zaA H (fun x w m de lv env A I r=>?_) I it
  split
  .next a b =>
   obtain ⟨xs,rfl,r1⟩:=rep_tup.mp r
   obtain ⟨x,r2,rfl,ra,rb⟩:=r1.cons_inv
   obtain ⟨y,r3,rfl,rb,rn⟩:=rb.cons_inv
   rw[rn.nil_inv]
   obtain ⟨I1,K1⟩:=I.bindSlot i ra
   obtain ⟨I2,K2⟩:=I1.bindSlot j (K1.rep rb)
   exact SimS.keep (K1.trans K2) (xV H body _ _ _ _ _ I2)
  .trivial
 | .forA _ _ _,m,de,lv,env,A,I=>trivial
 | .forB i j t c,m,de,lv,env,A,I=>zcw H.r I i j t c
 | .forC _ _,m,de,lv,env,A,I=>trivial
 | .forS _ _ _ _,m,de,lv,env,A,I=>trivial
 | .forE _ _ _ _,m,de,lv,env,A,I=>trivial
 | .swapI _ _ _ _ _,m,de,lv,env,A,I=>trivial
 | .popV _ _,m,de,lv,env,A,I=>trivial
 | .popI _ _ _ _,m,de,lv,env,A,I=>trivial
 | .appPop _ _ _ _,m,de,lv,env,A,I=>trivial
 | .unp3 _ _ _ _,m,de,lv,env,A,I=>trivial
 | .forZ _ _ _ _ _,m,de,lv,env,A,I=>trivial
 | .while _ _,m,de,lv,env,A,I=>trivial
 | .ret e,m,de,lv,env,A,I=>zd4 H I e
 | .retN,m,de,lv,env,A,I=>trivial
 | .expr e,m,de,lv,env,A,I=>by
  have dflt:SimS lo RR A m (exS cl (.expr e) env m) ((evD cd e de).bindS fun _=>.next de lv):=by
   exact I.bindE H.r e fun d w m1 _ _ l1 _=>⟨env,m1,A,rfl,I.ext l1,Keep.refl A m1⟩
  cases e with
  | meth n o a=>
   cases n with
   | append=>
    cases o with
    | var j=>
     cases a with
     | pair e u=>cases u with
      | unit=>exact zcs H I j e
      | _=>exact trivial
     | _=>exact trivial
    | idx x r=>
     cases x with
     | var j=>
      cases a with
      | pair e u=>cases u with
       | unit=>exact zcu H I j r e
       | _=>exact trivial
      | _=>exact trivial
     | _=>exact trivial
    | _=>exact trivial
   | reverse=>
    cases o with
    | var j=>
     cases a with
     | unit=>exact zct (cl:=cl) (cd:=cd) (lev:=lev) I j
     | _=>exact trivial
    | _=>exact trivial
   | _=>exact trivial
  | _=>exact dflt
 | .chk t n k p s,m,de,lv,env,A,I=>zd2 I t n k p s
 | .brk,m,de,lv,env,A,I=>trivial
 | .cont,m,de,lv,env,A,I=>trivial
 | .never,m,de,lv,env,A,I=>by exact trivial
end
theorem kR {α β:Type}(f:α->β)(z:β)(xs:List α)(n i:Nat):(xs.map f++List.replicate n z)[i]?=if i < xs.length then (xs[i]?).map f else if i < xs.length+n then some z else none:=by
 rw[List.getElem?_append,List.length_map]
 split
 .rw[List.getElem?_map]
 .rw[List.getElem?_replicate]
  by_cases h:i - xs.length < n
  .rw[if_pos h,if_pos (by lia)]
  .rw[if_neg h,if_neg (by lia)]
set_option tactic.hygienic true in
theorem zbc {R:Nat->Prop}{m:Me}{ds:List Dat}{ws:List Wd}(fn:Fn)(h:RepL R m ds ws):Inv m.length (Rf R m.length) m (yN fn ds) (yX fn ds) (yT fn ws) (fun _=>[]):=by
 have hl:=h.len
 refine ⟨?_,?_,fun l hl=>.inr hl,Nat.le_refl _,?_,fun _=>List.nodup_nil,(fun _ _ _ h=>by cases h),(fun _ _ h=>by cases h)⟩
 .simp[yN,yT,hl]
 .simp[yN,yX]
 .intro i d l h1 h2
  unfold yN at h1
  unfold yX at h2
  rw[kR] at h1 h2
  by_cases hi:i < ds.length
  .rw[if_pos hi] at h1 h2
   obtain ⟨d',e1,e2⟩:=Option.map_eq_some_iff.mp h1
   cases e2
   rw[e1] at h2
   cases h2
   obtain ⟨w,hw,r⟩:=h.get e1
   refine ⟨w,?_,?_⟩
   .unfold yT;rw[kR,if_pos (by lia),hw];rfl
   .unfold lvF
    split
    .next f=>exact r.flat d w f
    .exact ⟨Rep.frame (fun x o r z=>⟨⟨.inl r,fun _ h=>by cases h⟩,z⟩) _ _ r,rfl⟩
  .rw[if_neg hi] at h1
   split at h1 <;> cases h1
set_option tactic.hygienic true in
theorem zd5 {lev:Nat->Lv}{cl:Nat->List Wd->Me->Rz}{cd:Nat->List Dat->Rd}(H:CallO lev cl cd)(k:Nat)(fn:Fn)(ds:List Dat)(ws:List Wd)(R:Nat->Prop)(m:Me)(h:RepL R m ds ws):SimO R m (xw lev k) (vx cl fn ws m) (yY lev cd k fn ds):=by
 unfold vx yY
 rw[h.len]
 split
 .have s:=xV H fn.body m _ _ _ _ (zbc fn h)
  cases z:exD lev cd fn.body (yN fn ds) (yX fn ds) with
  | next d1 l1 =>
   rw[z] at s
   obtain ⟨e1,m1,A1,h1,I1,K1⟩:=s
   rw[h1]
   refine ⟨.non,m1,[],rfl,fun l o q=>(K1.1 l o (fun _ h=>by cases h) q).2,?_,List.nodup_nil,by simp⟩
   unfold xw RepO Own
   simp[flat]
  | ret d l =>
   rw[z] at s
   obtain ⟨w,m1,B,h1,⟨kp,_⟩,ro,nd,hB⟩:=s
   rw[h1]
   have le:Le m m1:=fun l o q=>kp l o (fun _ h=>by cases h) q
   show SimO R m (xw lev k) (.ok w m1) (if flat d || qy l (lev k) then .ok d else .no)
   split
   .next c =>
    by_cases f:flat d=true
    .refine ⟨w,m1,[],rfl,le,?_,List.nodup_nil,by simp⟩
     unfold xw;rw[if_pos f]
     exact (ro.rep (R':=fun _=>True) (fun _ _=>trivial) (fun _ _=>trivial)).flat d w f
    .have g:qy l (lev k)=true:=by simpa [f] using c
     unfold SimO xw
     simp only[if_neg f]
     cases e:lev k with
     | no =>
      refine ⟨w,m1,[],rfl,le,⟨?_,rfl⟩,List.nodup_nil,by simp⟩
      exact ro.rep (fun x r=>⟨r.1,by simp⟩) (fun b hb=>⟨.inr (hB b hb),by simp⟩)
     | top =>
      rw[e] at g
      cases l with
      | top=>exact ⟨w,m1,B,rfl,le,ro,nd,hB⟩
      | no=>cases g
      | full=>cases g
     | full =>
      rw[e] at g
      cases l with
      | full=>exact ⟨w,m1,B,rfl,le,ro,nd,hB⟩
      | no=>cases g
      | top=>cases g
   .trivial
  | exc c d =>
   rw[z] at s
   obtain ⟨w,e,m1,h1,⟨kp,_⟩,r⟩:=s
   rw[h1]
   exact ⟨w,m1,rfl,fun l o q=>kp l o (fun _ h=>by cases h) q,r⟩
  | brk _ _=>trivial
  | cont _ _=>trivial
  | no=>trivial
 .trivial
theorem gF (lev:Nat->Lv)(T:List Fn):∀d:Nat,CallO lev (zY T d) (kN lev T d)
 | 0=>fun k ds ws R m h=>trivial
 | d+1=>fun k ds ws R m h=>by
  unfold zY kN
  cases T[k]? with
  | none=>trivial
  | some fn=>exact zd5 (gF lev T d) k fn ds ws R m h
section
variable (lev:Nat->Lv)(cl:Nat->List Dat->Rd)(de:DEn)(lv:List Lv)
@[simp] theorem ziD (d:Dat)(f:Dat->Rd):(Rd.ok d).bind f=f d:=rfl
@[simp] theorem ziA (d:Dat)(f:Dat->Rsd):(Rd.ok d).bindS f=f d:=rfl
@[simp] theorem Rd.okS_ok (d:Dat)(f:Dat->Rsd):(Rd.ok d).okS f=f d:=rfl
@[simp] theorem zC (i:Int):evD cl (.lit (.int i)) de=.ok (.int i):=rfl
@[simp] theorem zgi (i:Bool):evD cl (.lit (.bl i)) de=.ok (.bl i):=rfl
@[simp] theorem zfT:evD cl (.lit .non) de=.ok .non:=rfl
@[simp] theorem zfU (s:List Nat):evD cl (.lit (.str s)) de=.ok (.str s):=rfl
@[simp] theorem qB (op:Bo)(a b:Ex):evD cl (.bin op a b) de=(evD cl a de).bind fun x=>(evD cl b de).bind fun y=>yw op x y:=rfl
@[simp] theorem kd (op:Co)(a b:Ex):evD cl (.cmp op a b) de=(evD cl a de).bind fun x=>(evD cl b de).bind fun y=>yL op x y:=rfl
@[simp] theorem zo:evD cl .unit de=.ok (.tup []):=rfl
@[simp] theorem zp (a b:Ex):evD cl (.pair a b) de=(evD cl a de).bind fun x=>(evD cl b de).bind fun y=>.ok (.tup (x::zy y)):=rfl
@[simp] theorem yf (k:Nat)(a:Ex):evD cl (.call k a) de=(evD cl a de).bind fun x=>cl k (zy x):=rfl
@[simp] theorem yO (b:Blf)(a:Ex):evD cl (.blt b a) de=(evD cl a de).bind fun x=>yq b (zy x):=rfl
@[simp] theorem qC (t:Tg)(a:Ex):evD cl (.isi t a) de=(evD cl a de).bind fun x=>.ok (.bl (isD t x)):=rfl
@[simp] theorem jB (a b:Ex):evD cl (.idx a b) de=(evD cl a de).bind fun x=>(evD cl b de).bind fun y=>yV x y:=rfl
@[simp] theorem xW (a:Ex):evD cl (.lst a) de=(evD cl a de).bind fun x=>zQ (zy x):=rfl
@[simp] theorem zcx (a:Ex):evD cl (.tup a) de=(evD cl a de).bind fun x=>if (zy x).length<=lim then .ok (.tup (zy x)) else .no:=rfl
@[simp] theorem wS (a b c:Ex):evD cl (.rng a b c) de=(evD cl a de).bind fun x=>(evD cl b de).bind fun y=>(evD cl c de).bind fun z=>gu x y z:=rfl
theorem zfV (i:Nat)(d:Dat)(h:de[i]?=some (some d)):evD cl (.var i) de=.ok d:=y9 h
@[simp] theorem zj (d:Dat)(r:DEn):evD cl (.var 0) (some d::r)=.ok d:=rfl
@[simp] theorem zl (i:Nat)(d:Option Dat)(r:DEn):evD cl (.var (i+1)) (d::r)=evD cl (.var i) r:=rfl
@[simp] theorem zik (a:Ex):evD cl (.neg a) de=(evD cl a de).bind fun x=>match x with
  | .int i=>.ok (.int (-i))
  | _=>.no:=rfl
@[simp] theorem jC (a:Ex):evD cl (.not a) de=(evD cl a de).bind fun x=>match x with
  | .bl b=>.ok (.bl (!b))
  | _=>.no:=rfl
@[simp] theorem zfW (a b:Ex):evD cl (.and a b) de=(evD cl a de).bind fun x=>match x with
  | .bl true=>evD cl b de
  | .bl false=>.ok (.bl false)
  | _=>.no:=rfl
@[simp] theorem zaD (a b:Ex):evD cl (.or a b) de=(evD cl a de).bind fun x=>match x with
  | .bl false=>evD cl b de
  | .bl true=>.ok (.bl true)
  | _=>.no:=rfl
@[simp] theorem zhg (p q:Co)(a b c:Ex):evD cl (.chain p q a b c) de=(evD cl a de).bind fun x=>(evD cl b de).bind fun y=>(yL p x y).bind fun z=>match z with
  | .bl true=>(evD cl c de).bind fun u=>yL q y u
  | .bl false=>.ok (.bl false)
  | _=>.no:=rfl
@[simp] theorem zhP (a:Ex):evD cl (.lrng a) de=(evD cl a de).bind fun x=>match x with
  | .int j=>if -lim<=j/\j<=lim then zQ (yc 0 1 j.toNat) else .no
  | _=>.no:=rfl
theorem wu (elt it cond:Ex):evD cl (.comp elt it cond) de=(evD cl it de).bind fun x=>match itD x with
  | some xs=>zG (fun x=>evD cl cond (de++[some x])) (fun x=>evD cl elt (de++[some x])) xs []
  | none=>.no:=rfl
theorem gG (k:Kd)(elt a b cond:Ex):evD cl (.compP k elt a b cond) de=(evD cl a de).bind fun x=>(evD cl b de).bind fun y=>match xh k x y with
  | some ps=>zG (fun p=>evD cl cond (de++[some p.1]++[some p.2])) (fun p=>evD cl elt (de++[some p.1]++[some p.2])) ps []
  | none=>.no:=rfl
@[simp] theorem zil (a b:Int):deq (.int a) (.int b)=decide (a=b):=rfl
@[simp] theorem zim (a b:Bool):deq (.bl a) (.bl b)=(a == b):=rfl
@[simp] theorem zin (a b:List Nat):deq (.str a) (.str b)=decide (a=b):=rfl
@[simp] theorem zio (a b:List Dat):deq (.tup a) (.tup b)=deqL a b:=rfl
@[simp] theorem zfX (a b:List Dat):deq (.lst a) (.lst b)=deqL a b:=rfl
@[simp] theorem zhh (k:Nat)(a:Int):yD (k+1) (.int a)=true:=rfl
@[simp] theorem zhQ (k:Nat)(a:Bool):yD (k+1) (.bl a)=true:=rfl
@[simp] theorem zhi (k:Nat)(a:List Nat):yD (k+1) (.str a)=true:=rfl
@[simp] theorem zhj (k:Nat):yD (k+1) .non=true:=rfl
@[simp] theorem zhk (k:Nat)(a:List Dat):yD (k+1) (.tup a)=eqOkL k a:=rfl
@[simp] theorem zcy (k:Nat)(a:List Dat):yD (k+1) (.lst a)=eqOkL k a:=rfl
@[simp] theorem zgj (k:Nat):eqOkL k []=true:=rfl
@[simp] theorem zfY (k:Nat)(d:Dat)(a:List Dat):eqOkL k (d::a)=(yD k d && eqOkL k a):=rfl
theorem kS (k:Nat):∀ (a:List Dat),eqOkL k a=a.all (yD k)
 | []=>by simp
 | d::a=>by simp[kS k a]
@[simp] theorem zd6:zW=11+1:=rfl
@[simp] theorem co_lt (i j:Int):yL .lt (.int i) (.int j)=.ok (.bl (decide (i < j))):=rfl
@[simp] theorem zhl (i j:Int):yL .le (.int i) (.int j)=.ok (.bl (decide (i<=j))):=rfl
@[simp] theorem co_gt (i j:Int):yL .gt (.int i) (.int j)=.ok (.bl (decide (j < i))):=rfl
@[simp] theorem zhm (i j:Int):yL .ge (.int i) (.int j)=.ok (.bl (decide (j<=i))):=rfl
@[simp] theorem zhn (i j:Int):yL .eq (.int i) (.int j)=.ok (.bl (decide (i=j))):=rfl
@[simp] theorem zeB (i j:Int):yL .ne (.int i) (.int j)=.ok (.bl (!decide (i=j))):=rfl
@[simp] theorem ziq (i j:Bool):yL .eq (.bl i) (.bl j)=.ok (.bl (i == j)):=rfl
@[simp] theorem zir (i j:Bool):yL .ne (.bl i) (.bl j)=.ok (.bl (!(i == j))):=rfl
@[simp] theorem zis (i j:Int):yw .add (.int i) (.int j)=.ok (.int (i+j)):=rfl
@[simp] theorem zit (i j:Int):yw .sub (.int i) (.int j)=.ok (.int (i - j)):=rfl
theorem zd7 (i j:Int)(h:xk i=true):yw .mul (.int i) (.int j)=.ok (.int (i * j)):=by simp[yw,h]
theorem zd8 (i j:Int)(h:0 < j)(k:j < 1073741824):yw .fdiv (.int i) (.int j)=.ok (.int (i / j)):=by simp[yw,h,k]
theorem qD (i j:Int)(h:0 < j):yw .mod (.int i) (.int j)=.ok (.int (i % j)):=by simp[yw,h]
@[simp] theorem zi (xs:List Dat):zy (.tup xs)=xs:=rfl
@[simp] theorem zhR (xs:List Dat):yq .len [.lst xs]=.ok (.int xs.length):=rfl
@[simp] theorem zhS (xs:List Dat):yq .len [.tup xs]=.ok (.int xs.length):=rfl
@[simp] theorem zhT (ns:List Int):yq .len [.scr ns]=.ok (.int ns.length):=by simp[yq,y8]
@[simp] theorem ziu (b:Bool):yq .int [.bl b]=.ok (.int (b2i b)):=rfl
theorem yj {xs:List Dat}(h:xs.length<=lim):zQ xs=.ok (.lst xs):=by unfold zQ;rw[if_pos h]
theorem jD {n i:Nat}(h:i < n):ix n (i:Int)=some i:=by unfold ix;rw[if_pos (by lia),if_pos (by lia)];simp
theorem jE {xs:List Dat}{i:Nat}{d:Dat}(h:xs[i]?=some d):yV (.lst xs) (.int (i:Int))=.ok d:=by
 have:=(List.getElem?_eq_some_iff.mp h).1
 simp[yV,y8,jD this,h]
theorem zcz {xs:List Dat}{k:Int}{d:Dat}(hk:0<=k)(h:xs[k.toNat]?=some d):yV (.lst xs) (.int k)=.ok d:=by
 have:=jE h
 rwa [show ((k.toNat:Nat):Int)=k by lia] at this
theorem zcA {a b c:Int}(h:-lim<=a/\a<=lim/\-lim<=b/\b<=lim/\(c=1\/c=-1)):gu (.int a) (.int b) (.int c)=.ok (.tup (yc a c (za4 a b c))):=by
 simp only[gu];rw[if_pos h]
@[simp] theorem gH (a c:Int)(n:Nat):(yc a c n).length=n:=by simp[yc]
theorem zcB (a c:Int)(n i:Nat)(h:i < n):(yc a c n)[i]?=some (.int (a+c * (i:Int))):=by
 simp[yc,h]
@[simp] theorem wT (a c:Int):∀ (n:Nat),flatL (yc a c n)=true:=by
 intro n
 unfold yc
 generalize List.range n=l
 induction l with
 | nil=>rfl
 | cons x l ih=>simp[flatL,flat,ih]
@[simp] theorem ke (xs:List Dat):flat (.tup xs)=flatL xs:=by rw[flat]
@[simp] theorem zcC (xs:List Dat):flat (.lst xs)=false:=by rw[flat]
@[simp] theorem zho (i:Int):flat (.int i)=true:=by rw[flat]
@[simp] theorem zhU (i:Bool):flat (.bl i)=true:=by rw[flat]
@[simp] theorem zhp:flat .non=true:=by rw[flat]
@[simp] theorem zhq (s:List Nat):flat (.str s)=true:=by rw[flat]
@[simp] theorem zhr (s:List Int):flat (.scr s)=true:=by rw[flat]
@[simp] theorem zgk:flatL []=true:=by rw[flatL]
@[simp] theorem zfZ (d:Dat)(ds:List Dat):flatL (d::ds)=(flat d && flatL ds):=by rw[flatL]
theorem zbd (a b:List Dat):flatL (a++b)=(flatL a && flatL b):=by
 induction a with
 | nil=>simp
 | cons x a ih=>simp[ih,Bool.and_assoc]
@[simp] theorem zf0 (l:List Int):flatL (l.map Dat.int)=true:=by
 induction l with
 | nil=>rfl
 | cons x l ih=>simp[ih]
@[simp] theorem kf (xs:List Dat):itD (.tup xs)=some xs:=rfl
@[simp] theorem ziv (xs:List Int):itD (.scr xs)=some (xs.map .int):=rfl
theorem xX {xs:List Dat}(h:xs.length<=lim):itD (.lst xs)=some xs:=by simp[itD,h]
@[simp] theorem zaE:exD lev cl .skip de lv=.next de lv:=rfl
@[simp] theorem jF (e:Ex):exD lev cl (.ret e) de lv=(evD cl e de).bindS fun d=>.ret d (lvR lev e d lv):=rfl
@[simp] theorem xx (i:Nat)(e:Ex):exD lev cl (.asg i e) de lv=(evD cl e de).bindS fun d=>xK lev i e d de lv:=rfl
@[simp] theorem qE (c:Ex)(a b:Sm):exD lev cl (.ite c a b) de lv=(evD cl c de).bindS fun x=>match x with
  | .bl true=>exD lev cl a de lv
  | .bl false=>exD lev cl b de lv
  | _=>.no:=rfl
theorem kg {lev:Nat->Lv}{i:Nat}{e:Ex}{d:Dat}{de:DEn}{lv:List Lv}(h:lvE lev e d=.full):xK lev i e d de lv=.next (de.set i (some d)) (lv.set i .full):=by
 unfold xK;rw[if_pos h]
theorem gI {α:Type}{c e:α->Rd}{g:α->Dat}:∀ (xs:List α) (acc:List Dat),(∀x∈xs,c x=.ok (.bl true))->(∀x∈xs,e x=.ok (g x))->acc.length+xs.length<=lim->zG c e xs acc=.ok (.lst (acc++xs.map g))
 | [],acc,_,_,h=>by unfold zG;rw[yj (by simpa using h)];simp
 | x::xs,acc,hc,he,h=>by
  unfold zG
  simp only[List.length_cons] at h
  rw[hc x (by simp)]
  simp only[ziD]
  rw[he x (by simp)]
  simp only[ziD]
  rw[if_pos (by lia),gI xs (acc++[g x]) (fun y hy=>hc y (by simp[hy])) (fun y hy=>he y (by simp[hy])) (by simp;lia)]
  simp
theorem zbe {α:Type}{body:α->DEn->List Lv->Rsd}(P:Nat->DEn->List Lv->Prop)(xs:List α){de:DEn}{lv:List Lv}(h0:P 0 de lv)
  (hs:∀ (i:Nat) x de lv,xs[i]?=some x->P i de lv->∃de' lv',body x de lv=.next de' lv'/\P (i+1) de' lv'):∃de' lv',zD body xs de lv=.next de' lv'/\P xs.length de' lv':=by
 induction xs generalizing P de lv with
 | nil=>exact ⟨de,lv,rfl,h0⟩
 | cons x xs ih =>
  obtain ⟨d1,l1,e1,p1⟩:=hs 0 x de lv rfl h0
  unfold zD
  rw[e1]
  exact ih (fun i=>P (i+1)) p1 (fun i y de lv hy hp=>hs (i+1) y de lv (by simpa using hy) hp)
end
namespace Lib
section
variable {lev:Nat->Lv}{cl:Nat->List Dat->Rd}{k:Nat}
noncomputable def isInt:Dat->Bool
 | .int _=>true
 | _=>false
def qF:Fn:=⟨1,1,(.ret (.and (.isi .int (.var 0)) (.not (.isi .bool (.var 0)))))⟩
theorem zbf (d:Dat):yY lev cl k qF [d]=.ok (.bl (isInt d)):=by
 cases d <;> simp[yY,qF,yN,yX,xL,isD,isInt,lvR]
end
end Lib
section
variable (lev:Nat->Lv)(cl:Nat->List Dat->Rd)(de:DEn)(lv:List Lv)
@[simp] theorem zaF (j:Nat)(e:Ex):exD lev cl (.expr (.meth .append (.var j) (.pair e .unit))) de lv=(evD cl e de).okS fun d=>match wP de j with
   | some ds=>if ds.length < lim then match kM lev e d j de lv with
    | some (de1,lv1)=>.next (de1.set j (some (.lst (ds++[d])))) lv1
    | none=>.no
    else .no
   | none=>.no:=rfl
@[simp] theorem zhV (j:Nat):exD lev cl (.expr (.meth .reverse (.var j) .unit)) de lv=match wP de j with
   | some ds=>if yd lv j then .next (de.set j (some (.lst ds.reverse))) lv else .no
   | none=>.no:=rfl
theorem wU (i:Nat)(it:Ex)(body:Sm):exD lev cl (.forv i it body) de lv=(evD cl it de).bindS fun d=>match itD d with
  | some xs=>zD (fun x de lv=>exD lev cl body (de.set i (some x)) (lv.set i (lvF x))) xs de (if flat d then lv else xi it de lv)
  | none=>.no:=rfl
theorem zd9 (i j:Nat)(it:Ex)(body:Sm):exD lev cl (.fort i j it body) de lv=(evD cl it de).bindS fun d=>match itD d with
  | some xs=>zD (fun x de lv=>match x with
    | .tup [a,b]=>exD lev cl body ((de.set i (some a)).set j (some b)) ((lv.set i (lvF a)).set j (lvF b))
    | _=>.no) xs de (if flat d then lv else xi it de lv)
  | none=>.no:=rfl
noncomputable def Rsd.then (r:Rsd)(f:DEn->List Lv->Rsd):Rsd:=match r with
 | .next d l=>f d l
 | r=>r
@[simp] theorem zB (d:DEn)(l:List Lv)(f:DEn->List Lv->Rsd):(Rsd.next d l).then f=f d l:=rfl
@[simp] theorem zhs (d:Dat)(l:Lv)(f:DEn->List Lv->Rsd):(Rsd.ret d l).then f=.ret d l:=rfl
theorem zz {a b:Sm}(h:zK a b=none):exD lev cl (.seq a b) de lv=(exD lev cl a de lv).then (exD lev cl b):=by
 rw[jx,h];cases exD lev cl a de lv <;> rfl
theorem zcD (a:Sm)(c d:Sm):zK a (.seq c d)=none:=rfl
@[simp] theorem xY (a:Sm)(c d:Sm):exD lev cl (.seq a (.seq c d)) de lv=(exD lev cl a de lv).then (exD lev cl (.seq c d)):=zz lev cl de lv (zcD a c d)
theorem zcE (a:Sm)(e:Ex):zK a (.ret e)=none:=rfl
@[simp] theorem jG (a:Sm)(e:Ex):exD lev cl (.seq a (.ret e)) de lv=(exD lev cl a de lv).then (exD lev cl (.ret e)):=zz lev cl de lv (zcE a e)
theorem zbg (a:Sm): zK a .retN=none:=rfl
@[simp] theorem zhW (a:Sm): exD lev cl (.seq a .retN) de lv=(exD lev cl a de lv).then (exD lev cl .retN):=zz lev cl de lv (zbg a)
theorem zcF (a:Sm)(c:Ex)(x y:Sm):zK a (.ite c x y)=none:=rfl
@[simp] theorem zcG (a:Sm)(c:Ex)(x y:Sm):exD lev cl (.seq a (.ite c x y)) de lv=(exD lev cl a de lv).then (exD lev cl (.ite c x y)):=zz lev cl de lv (zcF a c x y)
theorem zbh (a:Sm)(i:Nat)(e:Ex)(x:Sm):zK a (.forv i e x)=none:=rfl
@[simp] theorem zhX (a:Sm)(i:Nat)(e:Ex)(x:Sm):exD lev cl (.seq a (.forv i e x)) de lv=(exD lev cl a de lv).then (exD lev cl (.forv i e x)):=zz lev cl de lv (zbh a i e x)
theorem zbi (a:Sm)(i j:Nat)(e:Ex)(x:Sm):zK a (.fort i j e x)=none:=rfl
@[simp] theorem zhY (a:Sm)(i j:Nat)(e:Ex)(x:Sm):exD lev cl (.seq a (.fort i j e x)) de lv=(exD lev cl a de lv).then (exD lev cl (.fort i j e x)):=zz lev cl de lv (zbi a i j e x)
theorem qG (a:Sm)(e:Ex)(x:Sm):zK a (.while e x)=none:=rfl
@[simp] theorem zht (a:Sm)(e:Ex)(x:Sm):exD lev cl (.seq a (.while e x)) de lv=(exD lev cl a de lv).then (exD lev cl (.while e x)):=zz lev cl de lv (qG a e x)
theorem zcH (a:Sm)(i:Nat)(e:Ex):zK a (.asg i e)=none:=rfl
@[simp] theorem ziw (a:Sm)(i:Nat)(e:Ex):exD lev cl (.seq a (.asg i e)) de lv=(exD lev cl a de lv).then (exD lev cl (.asg i e)):=zz lev cl de lv (zcH a i e)
theorem zbj (a:Sm)(o i e:Ex):zK a (.asgS o i e)=none:=rfl
@[simp] theorem zhZ (a:Sm)(o i e:Ex):exD lev cl (.seq a (.asgS o i e)) de lv=(exD lev cl a de lv).then (exD lev cl (.asgS o i e)):=zz lev cl de lv (zbj a o i e)
theorem zcI (a:Sm)(i:Nat)(op:Bo)(e:Ex):zK a (.aug i op e)=none:=rfl
@[simp] theorem zix (a:Sm)(i:Nat)(op:Bo)(e:Ex):exD lev cl (.seq a (.aug i op e)) de lv=(exD lev cl a de lv).then (exD lev cl (.aug i op e)):=zz lev cl de lv (zcI a i op e)
theorem zbk (a:Sm)(o i:Ex)(op:Bo)(e:Ex):zK a (.augS o i op e)=none:=rfl
@[simp] theorem zh0 (a:Sm)(o i:Ex)(op:Bo)(e:Ex):exD lev cl (.seq a (.augS o i op e)) de lv=(exD lev cl a de lv).then (exD lev cl (.augS o i op e)):=zz lev cl de lv (zbk a o i op e)
theorem zbl (a:Sm)(e:Ex):zK a (.expr e)=none:=rfl
@[simp] theorem zh1 (a:Sm)(e:Ex):exD lev cl (.seq a (.expr e)) de lv=(exD lev cl a de lv).then (exD lev cl (.expr e)):=zz lev cl de lv (zbl a e)
theorem zbm (a:Sm): zK a .skip=none:=rfl
@[simp] theorem zh2 (a:Sm): exD lev cl (.seq a .skip) de lv=(exD lev cl a de lv).then (exD lev cl .skip):=zz lev cl de lv (zbm a)
theorem zcJ (a:Sm): zK a .brk=none:=rfl
@[simp] theorem ziy (a:Sm): exD lev cl (.seq a .brk) de lv=(exD lev cl a de lv).then (exD lev cl .brk):=zz lev cl de lv (zcJ a)
theorem zbn (a:Sm): zK a .cont=none:=rfl
@[simp] theorem zh3 (a:Sm): exD lev cl (.seq a .cont) de lv=(exD lev cl a de lv).then (exD lev cl .cont):=zz lev cl de lv (zbn a)
theorem qH (a:Sm): zK a .never=none:=rfl
@[simp] theorem zhu (a:Sm): exD lev cl (.seq a .never) de lv=(exD lev cl a de lv).then (exD lev cl .never):=zz lev cl de lv (qH a)
end
namespace Lib
section
noncomputable def row (r:List Int):Dat:=.lst (r.map .int)
noncomputable def tab (R:List (List Int)):Dat:=.lst (R.map row)
noncomputable def gJ (t:Int)(b:Bool):Bool:=if b then !decide (t=1) else !(decide (t=0) || decide (t=1))
end
end Lib
namespace Lib
section
noncomputable def S (R:List (List Int))(r c:Nat):Int:=((R.take r).map (fun x=>x.getD c 0)).sum
noncomputable def ac (R:List (List Int))(r c:Nat):Int:=((R.getD r []).take c).sum
noncomputable def bad (R:List (List Int))(r c:Nat):Bool:=gJ (ac R r (c+1)) (decide ((c:Int)=(R.length:Int) - 1)) || gJ (S R (r+1) c) (decide ((r:Int)=(R.length:Int) - 1))
def Sq (R:List (List Int)):Prop:=∀r∈R,r.length=R.length
theorem zea {R:List (List Int)}{r:Nat}{x:List Int}(h:R[r]?=some x):yV (tab R) (.int (r:Int))=.ok (row x):=jE (by simp[h])
theorem zeb {x:List Int}{c:Nat}{v:Int}(h:x[c]?=some v):yV (row x) (.int (c:Int))=.ok (.int v):=jE (by simp[h])
theorem zf1 (R:List (List Int))(r c:Nat)(x:List Int)(h:R[r]?=some x):S R (r+1) c=S R r c+x.getD c 0:=by
 unfold S
 rw[List.take_add_one,h]
 simp
end
end Lib
namespace Lib
section
variable {lev:Nat->Lv}{cl:Nat->List Dat->Rd}{k:Nat}
noncomputable def zaG:Fn:=⟨2,2,(.seq (.ite (.cmp .lt (.var 1) (.blt .len (.pair (.var 0) .unit))) (.ret (.idx (.var 0) (.var 1))) .skip) (.ret (.bin .add (.bin .mul (.lit (.int 2)) (.var 1)) (.lit (.int 1)))))⟩
theorem zcK (ns:List Int)(i:Nat):∃c:Int,yY lev cl k zaG [.scr ns,.int i]=.ok (.int c):=by
 by_cases h:i < ns.length
 .refine ⟨ns[i],?_⟩
  have h1:yV (.scr ns) (.int (i:Int))=.ok (.int ns[i]):=by simp[yV,y8,jD h,h]
  simp[yY,zaG,yN,yX,xL,lvR,h,h1]
 .refine ⟨2 * i+1,?_⟩
  simp[yY,zaG,yN,yX,xL,lvR,h,zd7 2 i (by decide)]
def Inc (x:List Int):Prop:=∀i,i+1 < x.length->x.getD i 0 < x.getD (i+1) 0
def zf2 (big sm:List Int):Prop:=big.length=sm.length+1/\∀i,i < sm.length->big.getD i 0<=sm.getD i 0/\sm.getD i 0<=big.getD (i+1) 0
theorem zec {x:List Int}{i:Nat}{v:Int}(h:x[i]?=some v):x.getD i 0=v:=by rw[List.getD_eq_getElem?_getD,h];rfl
theorem zcL {x:List Int}{i:Nat}(h:i < x.length):x[i]?=some (x.getD i 0):=by
 rw[List.getD_eq_getElem?_getD,List.getElem?_eq_getElem h];rfl
end
end Lib
namespace Lib
section
theorem xy {x:List Int}{v:Int}{i:Nat}(h:i < x.length):(x++[v]).getD i 0=x.getD i 0:=by
 simp[List.getD_eq_getElem?_getD,List.getElem?_append_left h]
theorem gK {x:List Int}{v:Int}:(x++[v]).getD x.length 0=v:=by
 simp[List.getD_eq_getElem?_getD]
theorem jH {x:List (List Int)}{v:List Int}{i:Nat}(h:i < x.length):(x++[v]).getD i []=x.getD i []:=by
 simp[List.getD_eq_getElem?_getD,List.getElem?_append_left h]
theorem yE {x:List (List Int)}{v:List Int}:(x++[v]).getD x.length []=v:=by
 simp[List.getD_eq_getElem?_getD]
theorem Inc.app {x:List Int}{v:Int}(h:Inc x)(hv:0 < x.length->x.getD (x.length - 1) 0 < v):Inc (x++[v]):=by
 intro i hi
 simp only[List.length_append,List.length_cons,List.length_nil] at hi
 by_cases z:i+1 < x.length
 .rw[xy (by lia),xy z];exact h i z
 .have e:i+1=x.length:=by lia
  rw[xy (by lia),e,gK]
  have:=hv (by lia)
  rwa [show x.length - 1=i by lia] at this
noncomputable def xz (n:Nat):List Int:=(List.range n).map fun (i:Nat)=>(i:Int)
structure TriL (n:Nat)(L:List (List Int)):Prop where
 first:L.getD 0 []=xz n
 len:∀j,j < L.length->(L.getD j []).length+j=n
 inc:∀j,j < L.length->Inc (L.getD j [])
 bd:∀j,j < L.length->∀i,i < (L.getD j []).length->0<=(L.getD j []).getD i 0/\(L.getD j []).getD i 0 < n
 lace:∀j,j+1 < L.length->zf2 (L.getD j []) (L.getD (j+1) [])
theorem xZ {n i:Nat}(h:i < n):(xz n).getD i 0=i:=zec (by simp[xz,h])
theorem TriL.one (n:Nat):TriL n [xz n]:=by
 refine ⟨rfl,?_,?_,?_,?_⟩
 .intro j hj;simp at hj;subst hj;simp[xz]
 .intro j hj i hi;simp at hj;subst hj
  simp only[List.getD_cons_zero] at hi ⊢
  have:i+1 < n:=by simpa [xz] using hi
  rw[xZ (by lia),xZ this];lia
 .intro j hj i hi;simp at hj;subst hj
  simp only[List.getD_cons_zero] at hi ⊢
  have:i < n:=by simpa [xz] using hi
  rw[xZ this];lia
 .intro j hj;simp at hj
theorem TriL.app {n:Nat}{L:List (List Int)}{x:List Int}(h:TriL n L)(hL:0 < L.length)(hi:Inc x)(hl:zf2 (L.getD (L.length - 1) []) x):TriL n (L++[x]):=by
 have e:=h.len (L.length - 1) (by lia)
 have lt:∀ {j},j < L.length->(L++[x]).getD j []=L.getD j []:=fun hj=>jH hj
 refine ⟨by rw[lt hL];exact h.first,?_,?_,?_,?_⟩
 .intro j hj
  by_cases z:j < L.length
  .rw[lt z];exact h.len j z
  .have:j=L.length:=by simp at hj;lia
   subst this
   rw[yE]
   have:=hl.1
   lia
 .intro j hj
  by_cases z:j < L.length
  .rw[lt z];exact h.inc j z
  .have:j=L.length:=by simp at hj;lia
   subst this
   rw[yE];exact hi
 .intro j hj i hi'
  by_cases z:j < L.length
  .rw[lt z] at hi' ⊢;exact h.bd j z i hi'
  .have:j=L.length:=by simp at hj;lia
   subst this
   rw[yE] at hi' ⊢
   have h1:=hl.2 i hi'
   have h2:=h.bd (L.length - 1) (by lia) i (by have:=hl.1;lia)
   have h3:=h.bd (L.length - 1) (by lia) (i+1) (by have:=hl.1;lia)
   lia
 .intro j hj
  simp only[List.length_append,List.length_cons,List.length_nil] at hj
  by_cases z:j+1 < L.length
  .rw[lt (by lia),lt z];exact h.lace j z
  .have e2:j+1=L.length:=by lia
   rw[lt (by lia),e2,yE]
   rwa [show L.length - 1=j by lia] at hl
end
end Lib
namespace Lib
section
theorem yk {β:Type}{c e:β->Rd}{α:Type}(f:α->β)(g:α->Dat):∀ (xs:List α) (acc:List Dat),(∀x∈xs,c (f x)=.ok (.bl true))->(∀x∈xs,e (f x)=.ok (g x))->acc.length+xs.length<=lim->zG c e (xs.map f) acc=.ok (.lst (acc++xs.map g))
 | [],acc,_,_,h=>by unfold zG;rw[List.map_nil];simp only;rw[yj (by simpa using h)];simp
 | x::xs,acc,hc,he,h=>by
  rw[List.map_cons]
  unfold zG
  simp only[List.length_cons] at h
  rw[hc x (by simp)]
  simp only[ziD]
  rw[he x (by simp)]
  simp only[ziD]
  rw[if_pos (by lia),yk f g xs (acc++[g x]) (fun y hy=>hc y (by simp[hy])) (fun y hy=>he y (by simp[hy])) (by simp;lia)]
  simp
theorem zcM {c e:Dat->Rd}(a s:Int)(n:Nat)(g:Nat->Dat)(hc:∀i,i < n->c (.int (a+s * (i:Int)))=.ok (.bl true))(he:∀i,i < n->e (.int (a+s * (i:Int)))=.ok (g i))(h:n<=lim):zG c e (yc a s n) []=.ok (.lst ((List.range n).map g)):=by
 unfold yc
 rw[yk (fun (i:Nat)=>Dat.int (a+s * (i:Int))) g (List.range n) [] (fun i hi=>hc i (by simpa using hi)) (fun i hi=>he i (by simpa using hi)) (by simpa using h)]
 simp
noncomputable def mem (x:List Int)(c:Int):Bool:=x.any (fun v=>decide (v=c))
end
end Lib
namespace Lib
structure Tri (n:Nat)(X:List (List Int)):Prop where
 len:X.length=n
 rlen:∀j,j < n->(X.getD j []).length=j+1
 inc:∀j,j < n->Inc (X.getD j [])
 bd:∀j,j < n->∀i,i < j+1->0<=(X.getD j []).getD i 0/\(X.getD j []).getD i 0 < n
 lace:∀j,j+1 < n->zf2 (X.getD (j+1) []) (X.getD j [])
 last:X.getD (n - 1) []=xz n
theorem Tri.of {n:Nat}{L:List (List Int)}(hn:1<=n)(h:TriL n L)(hl:L.length=n):Tri n L.reverse:=by
 have g:∀j,j < n->L.reverse.getD j []=L.getD (n - 1 - j) []:=by
  intro j hj
  rw[List.getD_eq_getElem?_getD,List.getD_eq_getElem?_getD,List.getElem?_reverse (by lia),hl]
 refine ⟨by simp[hl],fun j hj=>?_,fun j hj=>?_,fun j hj i hi=>?_,fun j hj=>?_,?_⟩
 .rw[g j hj];have:=h.len (n - 1 - j) (by lia);lia
 .rw[g j hj];exact h.inc _ (by lia)
 .rw[g j hj];have:=h.len (n - 1 - j) (by lia);exact h.bd _ (by lia) i (by lia)
 .rw[g (j+1) hj,g j (by lia)]
  have:=h.lace (n - 1 - (j+1)) (by lia)
  rwa [show n - 1 - (j+1)+1=n - 1 - j by lia] at this
 .rw[g (n - 1) (by lia),show n - 1 - (n - 1)=0 by lia];exact h.first
theorem Inc.lt {x:List Int}(h:Inc x):∀ {i j:Nat},i < j->j < x.length->x.getD i 0 < x.getD j 0:=by
 intro i j hij
 induction j with
 | zero=>lia
 | succ j ih =>
  intro hj
  have h1:=h j hj
  by_cases z:i=j
  .subst z;exact h1
  .have:=ih (by lia) (by lia);lia
theorem getD_mem {x:List Int}{i:Nat}(h:i < x.length):x.getD i 0∈x:=by
 rw[List.getD_eq_getElem?_getD,List.getElem?_eq_getElem h];exact List.getElem_mem h
noncomputable def low (x:List Int)(c:Nat):Int:=(x.map fun (v:Int)=>b2i (decide (v < (c:Int)))).sum
end Lib
namespace Lib
section
variable {lev:Nat->Lv}
theorem zcN {α β:Type}{xs:List α}{ys:List β}{i:Nat}{a:α}{b:β}(h:xs[i]?=some a)(h2:ys[i]?=some b):(xs.zip ys)[i]?=some (a,b):=List.getElem?_zip_eq_some.mpr ⟨h,h2⟩
noncomputable def yt (R:List (List Int))(i:Nat):List Int:=(List.range R.length).map fun c=>S R i c
noncomputable def sums (R:List (List Int)):List (List Int):=(List.range (R.length+1)).map (yt R)
theorem zed (a b:List Int):xh .zip (row a) (row b)=if a.length<=lim/\b.length<=lim then some ((a.zip b).map fun p=>(Dat.int p.1,Dat.int p.2)) else none:=by
 simp only[xh,row,List.length_map]
 rw[List.zip_map]
 rfl
theorem zbo {R:List (List Int)}(h:Sq R){i:Nat}(hi:i < R.length):((yt R i).zip (R.getD i [])).map (fun p=>p.1+p.2)=yt R (i+1):=by
 obtain ⟨x,hx⟩:∃x,R[i]?=some x:=⟨R[i],by simp[hi]⟩
 have hg:R.getD i []=x:=by rw[List.getD_eq_getElem?_getD,hx];rfl
 have hl:x.length=R.length:=h x (List.mem_of_getElem? hx)
 rw[hg]
 refine List.ext_getElem? fun c=>?_
 by_cases hc:c < R.length
 .have e1:(yt R i)[c]?=some (S R i c):=by simp[yt,hc]
  have e2:x[c]?=some (x.getD c 0):=zcL (by lia)
  have e3:(yt R (i+1))[c]?=some (S R (i+1) c):=by simp[yt,hc]
  rw[e3,zf1 R i c x hx,List.getElem?_map,zcN e1 e2]
  rfl
 .rw[List.getElem?_eq_none (by simp[yt];lia),List.getElem?_eq_none (by simp[yt];lia)]
theorem zcO (e:Ex)(x:List Int)(he:∀i:Int,lvE lev e (.int i)=.full):(x.map Dat.int).all (fun d=>lvE lev e d == .full)=true:=by
 rw[List.all_map,List.all_eq_true]
 intro v _
 simp[he]
end
end Lib
namespace Lib
section
variable {cl:Nat->List Dat->Rd}
theorem deqL_refl:∀ (x:List Int),deqL (x.map Dat.int) (x.map Dat.int)=true
 | []=>rfl
 | v::x=>by simp[deqL,deqL_refl x]
theorem zf3 (x:List Int):yL .ne (row x) (row x)=.ok (.bl false):=by
 have h:yD zW (row x)=true:=by
  simp only[row,zd6,zcy]
  rw[kS];simp
 simp only[yL,eqD,h,Bool.and_self,if_true]
 simp only[row,zfX,deqL_refl]
 rfl
theorem gL:∀ (x:List Int),jr (x.map Dat.int)=some x.sum
 | []=>rfl
 | v::x=>by simp[jr,gL x]
theorem zhv {R:List (List Int)}(hn:R.length<=100)(hr:∀r∈R,r.length<=100)(de:DEn)(i j:Nat)(hj:de.length=j)(hd:evD cl (.var i) de=.ok (tab R)):evD cl (.comp (.blt .list (.pair (.var j) .unit)) (.var i) (.lit (.bl true))) de=.ok (tab R):=by
 have hlim:(R.map row).length<=lim:=by simp;unfold lim;lia
 rw[wu,hd]
 simp only[ziD,tab,xX hlim]
 rw[yk row row R [] (fun x _=>by simp) (fun x hx=>?_) (by simpa using hlim)]
 .simp
 .have:evD cl (.var j) (de++[some (row x)])=.ok (row x):=zfV cl _ _ _ (by rw[<- hj];simp)
  simp only[yO,zp,zo,this,ziD,zi]
  have:=hr x hx
  simp only[yq,row,y8]
  rw[yj (by simp;unfold lim;lia)]
end
end Lib
namespace Lib
end Lib
namespace Lib
section
noncomputable def popI:Sm:=(.seq (.asg 7 (.idx (.var 4) (.var 6))) (.seq (.ite (.cmp .ne (.var 5) (.lst .unit)) (.asg 7 (.blt .max2 (.pair (.var 7) (.pair (.bin .add (.idx (.var 5) (.neg (.lit (.int 1)))) (.lit (.int 1))) .unit)))) .skip) (.appPop 5 7 2 (.bin .add (.bin .sub (.idx (.var 4) (.bin .add (.var 6) (.lit (.int 1)))) (.var 7)) (.lit (.int 1))))))
end
end Lib
namespace Lib
section
noncomputable def zhw (i:Int)(x:List Int)(j:Nat):Int:=i+j - 2 * (x.take j).sum
noncomputable def zee (i:Int)(x:List Int):List Int:=(List.range (x.length+1)).map (zhw i x)
theorem wv {x:List Int}{t:Nat}{v:Int}(h:x[t]?=some v):(x.take (t+1)).sum=(x.take t).sum+v:=by
 rw[List.take_add_one,h,List.sum_append];simp
noncomputable def HT (R:List (List Int)):List (List Int):=(List.range (R.length+1)).map fun (i:Nat)=>zee i (yt R i)
end
end Lib
namespace Lib
section
noncomputable def PR (R:List (List Int))(i j:Nat):Int:=((List.range i).map fun r=>((R.getD r []).take j).sum).sum
theorem zaH (R:List (List Int))(i j:Nat):PR R (i+1) j=PR R i j+((R.getD i []).take j).sum:=by
 unfold PR
 rw[List.range_succ,List.map_append,List.sum_append]
 simp
theorem kh {R:List (List Int)}(h:Sq R):∀ (i j:Nat),i<=R.length->j<=R.length->((yt R i).take j).sum=PR R i j
 | 0,j,_,hj=>by
  have:∀ (n:Nat),((List.range n).map fun c=>S R 0 c)=List.replicate n 0:=fun n=>by
   induction n with
   | zero=>rfl
   | succ n ih=>rw[List.range_succ,List.map_append,ih,List.replicate_succ'];simp[S]
  unfold yt
  rw[this,List.take_replicate]
  have z:∀n:Nat,(List.replicate n (0:Int)).sum=0:=fun n=>by
   induction n with
   | zero=>rfl
   | succ n ih=>rw[List.replicate_succ,List.sum_cons,ih];rfl
  rw[z]
  rfl
 | i+1,j,hi,hj=>by
  rw[zaH,<- kh h i j (by lia) hj]
  have hx:(R.getD i []).length=R.length:=by
   rw[List.getD_eq_getElem?_getD,List.getElem?_eq_getElem (show i < R.length by lia)]
   exact h _ (List.getElem_mem _)
  rw[<- zbo h (show i < R.length by lia)]
  have hl:(yt R i).length=R.length:=by simp[yt]
  generalize yt R i=a at hl ⊢
  generalize R.getD i []=b at hx ⊢
  induction j with
  | zero=>simp
  | succ j ih =>
   have ha:a[j]?=some a[j]:=List.getElem?_eq_getElem (by lia)
   have hb:b[j]?=some b[j]:=List.getElem?_eq_getElem (by lia)
   have hz:((a.zip b).map fun p=>p.1+p.2)[j]?=some (a[j]+b[j]):=by rw[List.getElem?_map,zcN ha hb];rfl
   rw[wv hz,wv ha,wv hb,ih (by lia)]
   lia
noncomputable def zf4 (R:List (List Int))(i j:Nat):Int:=(i:Int)+j - 2 * PR R i j
noncomputable def LT (R:List (List Int)):List (List Int):=(List.range (R.length+1)).map fun (i:Nat)=>(List.range (R.length+1)).map (zf4 R i)
theorem zhx {R:List (List Int)}(h:Sq R):LT R=HT R:=by
 unfold LT HT
 refine List.map_congr_left fun i hi=>?_
 have hi':i<=R.length:=by have:=List.mem_range.mp hi;lia
 unfold zee
 rw[show (yt R i).length=R.length by simp[yt]]
 refine List.map_congr_left fun j hj=>?_
 have hj':j<=R.length:=by have:=List.mem_range.mp hj;lia
 unfold zf4 zhw
 rw[kh h i j hi' hj']
theorem zef (x:List Int):yq .sum [row x]=.ok (.int x.sum):=by
 simp only[yq,row,lsD,Option.bind_some,gL]
end
end Lib
namespace Lib
section
theorem zaI {t:Int}{b:Bool}(h:gJ t b=false):(t=0\/t=1)/\(b=true->t=1):=by
 cases b with
 | true =>
  have h':t=1:=by simpa [gJ] using h
  exact ⟨.inr h',fun _=>h'⟩
 | false =>
  refine ⟨?_,fun e=>by cases e⟩
  simp only[gJ,Bool.false_eq_true,if_false,Bool.not_eq_false',Bool.or_eq_true,decide_eq_true_eq] at h
  exact h
structure Sums (R:List (List Int)):Prop where
 sq:Sq R
 row:∀r c,r < R.length->c<=R.length->((R.getD r []).take c).sum=0\/((R.getD r []).take c).sum=1
 rowE:∀r,r < R.length->((R.getD r []).take R.length).sum=1
 col:∀r c,r<=R.length->c < R.length->S R r c=0\/S R r c=1
 colE:∀c,c < R.length->S R R.length c=1
theorem Sums.of {R:List (List Int)}(sq:Sq R)(h:∀r c,r < R.length->c < R.length->bad R r c=false):Sums R:=by
 have q:∀r c,r < R.length->c < R.length->((ac R r (c+1)=0\/ac R r (c+1)=1)/\(c+1=R.length->ac R r (c+1)=1))/\(S R (r+1) c=0\/S R (r+1) c=1)/\(r+1=R.length->S R (r+1) c=1):=by
  intro r c hr hc
  have:=h r c hr hc
  unfold bad at this
  rw[Bool.or_eq_false_iff] at this
  obtain ⟨a1,a2⟩:=zaI this.1
  obtain ⟨b1,b2⟩:=zaI this.2
  exact ⟨⟨a1,fun e=>a2 (by simp;lia)⟩,b1,fun e=>b2 (by simp;lia)⟩
 refine ⟨sq,fun r c hr hc=>?_,fun r hr=>?_,fun r c hr hc=>?_,fun c hc=>?_⟩
 .cases c with
  | zero=>left;simp
  | succ c=>exact (q r c hr (by lia)).1.1
 .have:=(q r (R.length - 1) hr (by lia)).1.2 (by lia)
  unfold ac at this
  rwa [show R.length - 1+1=R.length by lia] at this
 .cases r with
  | zero=>left;simp[S]
  | succ r=>exact (q r c (by lia) hc).2.1
 .have:=(q (R.length - 1) c (by lia) hc).2.2 (by lia)
  rwa [show R.length - 1+1=R.length by lia] at this
end
end Lib
namespace Lib
section
noncomputable def bt:Int->List Int->Bool
 | due,[]=>decide (due=-1)
 | due,s::r=>if s=0 then bt due r else if s=due then bt (0 - due) r else false
end
end Lib
namespace Lib
section
theorem zcP {α:Type}(xs:List α):js (xs.map fun _=>Dat.bl true)=some true:=by
 induction xs with
 | nil=>rfl
 | cons x xs ih=>simp only[List.map_cons,js,ih];rfl
end
end Lib
namespace Lib
structure HF (n:Nat)(G:Nat->Nat->Int):Prop where
 top:∀j,j<=n->G 0 j=j
 left:∀i,i<=n->G i 0=i
 low:∀j,j<=n->G n j=(n:Int) - j
 right:∀i,i<=n->G i n=(n:Int) - i
 across:∀i j,i<=n->j < n->G i (j+1) - G i j=1\/G i (j+1) - G i j=-1
 down:∀i j,i < n->j<=n->G (i+1) j - G i j=1\/G (i+1) j - G i j=-1
noncomputable def hrw (n:Nat)(G:Nat->Nat->Int)(i:Nat):List Int:=(List.range (n+1)).map (G i)
noncomputable def zhy (n:Nat)(G:Nat->Nat->Int):List (List Int):=(List.range (n+1)).map (hrw n G)
noncomputable def zeg (G:Nat->Nat->Int)(r c:Nat):Int:=(G r (c+1)+G (r+1) c - G r c - G (r+1) (c+1)) / 2
noncomputable def zbp (n:Nat)(G:Nat->Nat->Int)(r:Nat):List Int:=(List.range n).map (zeg G r)
noncomputable def jI (n:Nat)(G:Nat->Nat->Int):List (List Int):=(List.range n).map (zbp n G)
theorem HF.par {n:Nat}{G:Nat->Nat->Int}(h:HF n G):∀i j,i<=n->j<=n->(G i j - i - j) % 2=0
 | i,0,hi,_=>by rw[h.left i hi];simp
 | i,j+1,hi,hj=>by
  have a:=h.par i j hi (by lia)
  have b:=h.across i j hi (by lia)
  lia
theorem HF.amid2 {n:Nat}{G:Nat->Nat->Int}(h:HF n G){r c:Nat}(hr:r < n)(hc:c < n):2 * zeg G r c=G r (c+1)+G (r+1) c - G r c - G (r+1) (c+1):=by
 have p1:=h.par r c (by lia) (by lia)
 have p2:=h.par r (c+1) (by lia) (by lia)
 have p3:=h.par (r+1) c (by lia) (by lia)
 have p4:=h.par (r+1) (c+1) (by lia) (by lia)
 unfold zeg
 lia
theorem zcQ (n:Nat)(G:Nat->Nat->Int):(jI n G).length=n:=by simp[jI]
theorem zeh (n:Nat)(G:Nat->Nat->Int):Sq (jI n G):=by
 intro x hx
 simp only[jI,List.mem_map] at hx
 obtain ⟨r,_,rfl⟩:=hx
 simp[zbp,jI]
theorem zcR {n:Nat}{G:Nat->Nat->Int}{r:Nat}(h:r < n):(jI n G).getD r []=zbp n G r:=by
 rw[List.getD_eq_getElem?_getD]
 simp[jI,h]
theorem HF.rowsum {n:Nat}{G:Nat->Nat->Int}(h:HF n G){r:Nat}(hr:r < n):∀j,j<=n->2 * ((zbp n G r).take j).sum=G r j - G (r+1) j+1
 | 0,_=>by
  rw[h.left r (by lia),h.left (r+1) (by lia)]
  simp
  lia
 | j+1,hj=>by
  have ih:=h.rowsum hr j (by lia)
  have e:(zbp n G r)[j]?=some (zeg G r j):=by simp[zbp,show j < n by lia]
  rw[wv e]
  have:=h.amid2 hr (show j < n by lia)
  lia
theorem HF.sum {n:Nat}{G:Nat->Nat->Int}(h:HF n G){j:Nat}(hj:j<=n):∀i,i<=n->2 * PR (jI n G) i j=(i:Int)+j - G i j
 | 0,_=>by
  rw[h.top j hj]
  show 2 * (0:Int)=_
  lia
 | i+1,hi=>by
  have ih:=h.sum hj i (by lia)
  rw[zaH,zcR (by lia)]
  have:=h.rowsum (show i < n by lia) j hj
  lia
theorem HF.back {n:Nat}{G:Nat->Nat->Int}(h:HF n G):HT (jI n G)=zhy n G:=by
 rw[<- zhx (zeh n G)]
 unfold LT zhy
 rw[zcQ]
 refine List.map_congr_left fun i hi=>?_
 have hi':i<=n:=by have:=List.mem_range.mp hi;lia
 unfold hrw
 refine List.map_congr_left fun j hj=>?_
 have hj':j<=n:=by have:=List.mem_range.mp hj;lia
 have:=h.sum hj' i hi'
 unfold zf4
 lia
end Lib
namespace Lib
end Lib
namespace Lib
end Lib
namespace Lib
end Lib
namespace Lib
section
noncomputable def grow (q:Nat)(F:Nat->Nat->Int)(i:Nat):List Int:=(List.range q).map (F i)
noncomputable def zhz (p q:Nat)(F:Nat->Nat->Int):List (List Int):=(List.range p).map (grow q F)
theorem zei {n:Nat}(h:n<=100):gu (.int 0) (.int n) (.int 1)=.ok (.tup (yc 0 1 n)):=by
 rw[zcA (by unfold lim;lia)]
 simp[za4]
noncomputable def arr (n:Nat)(F G:Nat->Nat->Int):Dat:=.tup [tab (zhz n (n+1) F),tab (zhz (n+1) n G)]
end
end Lib
namespace Lib
section
structure AR (n:Nat)(F G:Nat->Nat->Int):Prop where
 f:∀i j,i < n->j<=n->F i j=1\/F i j=-1
 g:∀i j,i<=n->j < n->G i j=1\/G i j=-1
 place:∀r c,r < n->c < n->F r c - F r (c+1)+G r c - G (r+1) c=0
 left:∀r,r < n->F r 0=1
 right:∀r,r < n->F r n=-1
 top:∀c,c < n->G 0 c=-1
 low:∀c,c < n->G n c=1
noncomputable def pm:Dat:=.tup [.int 1,.int (-1)]
end
end Lib
namespace Lib
section
variable {lev:Nat->Lv}{cl:Nat->List Dat->Rd}{k:Nat}
noncomputable def zcS (kw:Nat):Sm:=(.seq (.ite (.or (.not (.isi .list (.idx (.var 0) (.var 2)))) (.cmp .ne (.idx (.var 0) (.var 2)) (.idx (.var 1) (.var 2)))) (.ret (.lit (.bl false))) .skip) (.ite (.not (.blt .all (.pair (.comp (.call kw (.pair (.var 3) .unit)) (.idx (.var 0) (.var 2)) (.lit (.bl true))) .unit))) (.ret (.lit (.bl false))) .skip))
noncomputable def zcT (kw:Nat):Fn:=⟨2,3,(.seq (.ite (.or (.not (.isi .list (.var 0))) (.cmp .ne (.blt .len (.pair (.var 0) .unit)) (.blt .len (.pair (.var 1) .unit)))) (.ret (.lit (.bl false))) .skip) (.seq (.forv 2 (.rng (.lit (.int 0)) (.blt .len (.pair (.var 1) .unit)) (.lit (.int 1))) (zcS kw)) (.ret (.lit (.bl true)))))⟩
theorem zbq {kw:Nat}(hw:∀d,cl kw [d]=.ok (.bl (isInt d)))(A:List (List Int))(hA:A.length<=100)(hr:∀x∈A,x.length<=100):yY lev cl k (zcT kw) [tab A,tab A]=.ok (.bl true):=by
 have hlen:yq .len [tab A]=.ok (.int A.length):=by simp[tab]
 have main:=zbe (body:=fun x de lv=>exD lev cl (zcS kw) (de.set 2 (some x)) (lv.set 2 (lvF x)))
  (fun i de lv=>∃ (p2:Option Dat) ,de=[some (tab A),some (tab A),p2])
  (yc 0 1 A.length) (de:=[some (tab A),some (tab A),none]) (lv:=[.no,.no,.full])
  ⟨none,rfl⟩ ?_
 .obtain ⟨de',lv',e,p2,rfl⟩:=main
  unfold yY
  rw[if_pos (by rfl)]
  show xL (lev k) (exD lev cl (.seq _ (.seq _ _)) [some (tab A),some (tab A),none] [lvF (tab A),lvF (tab A),.full])=_
  rw[show lvF (tab A)=.no from by simp[lvF,tab],xY]
  simp only[qE,zaD,jC,qC,kd,yO,zp,zo,zj,zl,ziD,zi,hlen,show isD .list (tab A)=true from rfl,Bool.not_true,zeB,decide_true,ziA,zaE,zB]
  rw[jG,wU]
  simp only[wS,zC,yO,zp,zo,zj,zl,ziD,zi,hlen,zei hA,ziA,kf,ke,wT,if_true]
  rw[e,zB]
  simp[xL]
 .rintro i x de lv hx ⟨p2,rfl⟩
  have hi:i < A.length:=by
   have:=(List.getElem?_eq_some_iff.mp hx).1
   simpa using this
  rw[zcB _ _ _ _ hi] at hx
  cases hx
  have hg:yV (tab A) (.int (0+1 * (i:Int)))=.ok (row A[i]):=by
   rw[show (0+1 * (i:Int))=(i:Int) by lia]
   exact zea (List.getElem?_eq_getElem hi)
  have hl:=hr A[i] (List.getElem_mem hi)
  have hc:evD cl (.comp (.call kw (.pair (.var 3) .unit)) (.idx (.var 0) (.var 2)) (.lit (.bl true))) [some (tab A),some (tab A),some (.int (0+1 * (i:Int)))]=.ok (.lst (A[i].map fun _=>.bl true)):=by
   rw[wu]
   simp only[jB,zj,zl,ziD,hg,row,xX (show (A[i].map Dat.int).length<=lim from by simp;unfold lim;lia)]
   rw[yk Dat.int (fun _=>.bl true) A[i] [] (fun v _=>by simp) (fun v _=>by simp[hw,isInt]) (by simp;unfold lim;lia)]
   simp
  have hall:yq .all [.lst (A[i].map fun _=>.bl true)]=.ok (.bl true):=by simp[yq,lsD,zcP]
  refine ⟨_,lv.set 2 (lvF (.int (0+1 * (i:Int)))),?_,some (.int (0+1 * (i:Int))),rfl⟩
  simp only[List.set_cons_succ,List.set_cons_zero]
  unfold zcS
  rw[zcG]
  simp only[qE,zaD,jC,qC,kd,jB,yO,zp,zo,zi,zj,zl,ziD,hg,show isD .list (row A[i])=true from rfl,Bool.not_true,zf3,ziA,zaE,zB,hc,hall]
end
end Lib
namespace Lib
section
variable {lev:Nat->Lv}{cl:Nat->List Dat->Rd}{k:Nat}
noncomputable def okB:List Int->Bool
 | i::r=>decide (0<=y1 i r) && decide (xb i r<=1)
 | []=>false
abbrev x3:=List (List Int)×List Int
noncomputable def yu (t:List (List Int))(s:List Int):List (List Int)->List x3
 | []=>[]
 | l::cs=>if okB (List.zipWith (·+·) s l) then (t++[l],List.zipWith (·+·) s l)::yu t s cs else yu t s cs
noncomputable def xA (cs:List (List Int)):List x3->List x3
 | []=>[]
 | p::ps=>yu p.1 p.2 cs++xA cs ps
noncomputable def vc (cs:List (List Int)):Nat->List x3->List x3
 | 0,ps=>ps
 | k+1,ps=>vc cs k (xA cs ps)
noncomputable def pD (p:x3):Dat:=.tup [tab p.1,row p.2]
noncomputable def wZ:Ex:=.compP .zip (.bin .add (.var 9) (.var 10)) (.var 6) (.var 7) (.lit (.bl true))
noncomputable def wB:Sm:=.seq (.asg 8 wZ) (.ite (.and (.cmp .ge (.blt .minS (.pair (.var 8) .unit)) (.lit (.int 0))) (.cmp .le (.blt .maxS (.pair (.var 8) .unit)) (.lit (.int 1)))) (.expr (.meth .append (.var 4) (.pair (.tup (.pair (.bin .add (.var 5) (.lst (.pair (.var 7) .unit))) (.pair (.var 8) .unit))) .unit))) .skip)
theorem ki:∀k:List Int,zP (k.map Dat.int)=some k
 | []=>rfl
 | x::k=>by show (zP (k.map Dat.int)).map (x::·)=_;rw[ki k];rfl
theorem zej (i:Int)(r:List Int):yq .minS [row (i::r)]=.ok (.int (y1 i r)):=by
 show (match (some ((i::r).map Dat.int)).bind zP with | some (i::r)=>Rd.ok (.int (y1 i r)) | _=>.no)=_
 rw[Option.bind_some,ki]
theorem zek (i:Int)(r:List Int):yq .maxS [row (i::r)]=.ok (.int (xb i r)):=by
 show (match (some ((i::r).map Dat.int)).bind zP with | some (i::r)=>Rd.ok (.int (xb i r)) | _=>.no)=_
 rw[Option.bind_some,ki]
theorem zf5 (d0 d1 d2 d3 o8:Option Dat)(L:List Dat)(t:List (List Int))(s l:List Int)(l0 l1 l2 l3 l4 l5 l6 l7 l8:Lv)(h4:l4=.top\/l4=.full)(hs:s≠[])(hl:l≠[])(hs1:s.length<=100)(hl1:l.length<=100)(hL:L.length < lim)(ht:t.length<=100):
  ∃l4' l5' l7' l8',(l4'=.top\/l4'=.full)/\exD lev cl wB [d0,d1,d2,d3,some (.lst L),some (tab t),some (row s),some (row l),o8] [l0,l1,l2,l3,l4,l5,l6,l7,l8] =
   .next [d0,d1,d2,d3,some (.lst (L++((yu t s [l]).map pD))),some (tab t),some (row s),some (row l),some (row (List.zipWith (·+·) s l))] [l0,l1,l2,l3,l4',l5',l6,l7',l8']:=by
 have hev:evD cl wZ [d0,d1,d2,d3,some (.lst L),some (tab t),some (row s),some (row l),o8]=.ok (row (List.zipWith (·+·) s l)):=by
  unfold wZ
  rw[gG]
  simp only[zj,zl,ziD,zed]
  rw[if_pos (by unfold lim;lia)]
  simp only
  rw[yk (fun (p:Int×Int)=>(Dat.int p.1,Dat.int p.2)) (fun p=>.int (p.1+p.2)) _ [] (fun p _=>by simp) (fun p _=>by simp) (by rw[List.length_zip];simp;unfold lim;lia)]
  simp[row,List.zip,List.map_zipWith]
 have hlv:lvE lev wZ (row (List.zipWith (·+·) s l))=.full:=by
  unfold row wZ
  rw[zcp]
  simp only[zcC,Bool.false_eq_true,if_false]
  rw[if_pos (zcO _ _ fun i=>by simp)]
 unfold wB
 rw[zcG,xx,hev]
 simp only[ziA]
 rw[kg hlv]
 simp only[zB,List.set_cons_succ,List.set_cons_zero]
 have e:yu t s [l]=if okB (List.zipWith (·+·) s l) then [(t++[l],List.zipWith (·+·) s l)] else []:=rfl
 rw[e]
 obtain ⟨i,r,hz⟩:∃i r,List.zipWith (·+·) s l=i::r:=by
  cases s with
  | nil=>exact absurd rfl hs
  | cons a s=>cases l with
   | nil=>exact absurd rfl hl
   | cons b l=>exact ⟨_,_,rfl⟩
 rw[hz] at *
 have hc:evD cl (.and (.cmp .ge (.blt .minS (.pair (.var 8) .unit)) (.lit (.int 0))) (.cmp .le (.blt .maxS (.pair (.var 8) .unit)) (.lit (.int 1)))) [d0,d1,d2,d3,some (.lst L),some (tab t),some (row s),some (row l),some (row (i::r))]=.ok (.bl (okB (i::r))):=by
  simp only[zfW,kd,yO,zp,zo,zC,zl,zj,ziD,zi,zej,zek,zhm,zhl]
  show _=Rd.ok (.bl (decide (0<=y1 i r) && decide (xb i r<=1)))
  cases decide (0<=y1 i r) <;> rfl
 rw[qE,hc]
 simp only[ziA]
 cases okB (i::r) with
 | false =>
  refine ⟨l4,l5,l7,.full,h4,?_⟩
  simp
 | true =>
  refine ⟨.top,.no,.no,.no,.inl rfl,?_⟩
  have ha:yw .add (tab t) (.lst [row l])=.ok (tab (t++[l])):=by
   show zQ (t.map row++[row l])=_
   rw[yj (by simp;unfold lim;lia)]
   simp[tab]
  have hn:zQ [row l]=.ok (.lst [row l]):=yj (by unfold lim;simp)
  have hv:evD cl (.tup (.pair (.bin .add (.var 5) (.lst (.pair (.var 7) .unit))) (.pair (.var 8) .unit))) [d0,d1,d2,d3,some (.lst L),some (tab t),some (row s),some (row l),some (row (i::r))]=.ok (pD (t++[l],i::r)):=by
   simp only[zcx,zp,zo,qB,xW,zl,zj,ziD,zi,hn,ha]
   exact if_pos (show 2<=lim by unfold lim;lia)
  simp only
  rw[zaF,hv]
  simp only[Rd.okS_ok]
  have hls:wP [d0,d1,d2,d3,some (.lst L),some (tab t),some (row s),some (row l),some (row (i::r))] 4=some L:=rfl
  rw[hls]
  simp only
  rw[if_pos hL]
  have ho:yd [l0,l1,l2,l3,l4,l5,l6,l7,.full] 4=true:=by
   rcases h4 with rfl | rfl <;> rfl
  have hf:lvE lev (.tup (.pair (.bin .add (.var 5) (.lst (.pair (.var 7) .unit))) (.pair (.var 8) .unit))) (pD (t++[l],i::r))=.no:=by
   simp[pD,tab,row]
  simp only[kM,ho,hf]
  simp[downs,xi]
theorem kj (t:List (List Int))(s l:List Int)(cs:List (List Int)):yu t s (l::cs)=yu t s [l]++yu t s cs:=by
 show (if okB _ then _ else _)=(if okB _ then [_] else [])++_
 split <;> rfl
theorem wV (t:List (List Int))(s:List Int):∀cs:List (List Int),(yu t s cs).length<=cs.length
 | []=>Nat.le_refl _
 | l::cs=>by
  have:=wV t s cs
  show (if okB _ then _ else _:List x3).length<=_
  split <;> simp <;> lia
def zcU (n:Nat)(cs:List (List Int)):Prop:=cs.length<=90/\∀l∈cs,l.length=n
def qI (n i:Nat)(ps:List x3):Prop:=∀p∈ps,p.2.length=n/\p.1.length<=i
theorem gM {n i:Nat}{t:List (List Int)}{s:List Int}(hs:s.length=n)(ht:t.length<=i):∀ {cs:List (List Int)},(∀l∈cs,l.length=n)->qI n (i+1) (yu t s cs)
 | [],_=>fun p hp=>by cases hp
 | l::cs,h=>fun p hp=>by
  rw[kj] at hp
  rcases List.mem_append.mp hp with hp | hp
  .have hp':p∈(if okB (List.zipWith (·+·) s l) then [(t++[l],List.zipWith (·+·) s l)] else []:List x3):=hp
   split at hp'
   .rw[List.mem_singleton] at hp'
    subst hp'
    exact ⟨by simp[hs,h l (by simp)],by simp;lia⟩
   .cases hp'
  .exact gM hs ht (fun l hl=>h l (by simp[hl])) p hp
theorem gN {n i:Nat}{cs:List (List Int)}(hc:∀l∈cs,l.length=n):∀ {ps:List x3},qI n i ps->qI n (i+1) (xA cs ps)
 | [],_=>fun p hp=>by cases hp
 | p::ps,h=>fun q hq=>by
  have hq':q∈yu p.1 p.2 cs++xA cs ps:=hq
  rcases List.mem_append.mp hq' with hq | hq
  .exact gM (h p (by simp)).1 (h p (by simp)).2 hc q hq
  .exact gN hc (fun p hp=>h p (by simp[hp])) q hq
theorem zeC (d0 d1 d2 d3:Option Dat)(t:List (List Int))(s:List Int)(l0 l1 l2 l3 l6:Lv)(hs:s≠[])(hs1:s.length<=100)(ht:t.length<=100):∀ (cs:List (List Int)) (L:List Dat) (o7 o8:Option Dat) (l4 l5 l7 l8:Lv),(l4=.top\/l4=.full)->(∀l∈cs,l≠[]/\l.length<=100)->L.length+cs.length < lim ->
  ∃o7' o8' l4' l5' l7' l8',(l4'=.top\/l4'=.full)/\zD (fun x de lv=>exD lev cl wB (de.set 7 (some x)) (lv.set 7 (lvF x))) (cs.map row) [d0,d1,d2,d3,some (.lst L),some (tab t),some (row s),o7,o8] [l0,l1,l2,l3,l4,l5,l6,l7,l8] =
   .next [d0,d1,d2,d3,some (.lst (L++(yu t s cs).map pD)),some (tab t),some (row s),o7',o8'] [l0,l1,l2,l3,l4',l5',l6,l7',l8']
 | [],L,o7,o8,l4,l5,l7,l8,h4,_,_=>⟨o7,o8,l4,l5,l7,l8,h4,by simp[zD,yu]⟩
 | l::cs,L,o7,o8,l4,l5,l7,l8,h4,hc,hL=>by
  rw[List.length_cons] at hL
  obtain ⟨hl,hl1⟩:=hc l (by simp)
  obtain ⟨l4',l5',l7',l8',h4',e⟩:=zf5 (lev:=lev) (cl:=cl) d0 d1 d2 d3 o8 L t s l l0 l1 l2 l3 l4 l5 l6 (lvF (row l)) l8 h4 hs hl hs1 hl1 (by lia) ht
  have hn:=wV t s [l]
  obtain ⟨o7'',o8'',a4,a5,a7,a8,ha,e'⟩:=zeC d0 d1 d2 d3 t s l0 l1 l2 l3 l6 hs hs1 ht cs (L++(yu t s [l]).map pD) (some (row l)) (some (row (List.zipWith (·+·) s l))) l4' l5' l7' l8' h4' (fun q hq=>hc q (by simp[hq])) (by simp at hn ⊢;lia)
  refine ⟨o7'',o8'',a4,a5,a7,a8,ha,?_⟩
  rw[List.map_cons]
  unfold zD
  simp only[List.set_cons_succ,List.set_cons_zero,e]
  rw[e',kj t s l cs,List.map_append,List.append_assoc]
noncomputable def wF (lev:Nat->Lv)(cl:Nat->List Dat->Rd):Dat->DEn->List Lv->Rsd:=fun x de lv=>match x with
 | .tup [a,b]=>exD lev cl (.forv 7 (.var 2) wB) ((de.set 5 (some a)).set 6 (some b)) ((lv.set 5 (lvF a)).set 6 (lvF b))
 | _=>.no
theorem kT {n:Nat}{l:List Int}(hn:0 < n)(h:l.length=n):l≠[]:=by
 rintro rfl
 simp at h;lia
theorem zeD {n:Nat}(hn:0 < n)(hn1:n<=100)(d0 d1 d3:Option Dat){cs:List (List Int)}(hc:zcU n cs)(l0 l1 l3:Lv):∀ (ps:List x3) (L:List Dat) (o5 o6 o7 o8:Option Dat) (l2 l4 l5 l6 l7 l8:Lv),(l4=.top\/l4=.full)->qI n 100 ps->L.length+ps.length * cs.length < lim ->
  ∃o5' o6' o7' o8' l2' l4' l5' l6' l7' l8',(l4'=.top\/l4'=.full)/\zD (wF lev cl) (ps.map pD) [d0,d1,some (tab cs),d3,some (.lst L),o5,o6,o7,o8] [l0,l1,l2,l3,l4,l5,l6,l7,l8] =
   .next [d0,d1,some (tab cs),d3,some (.lst (L++(xA cs ps).map pD)),o5',o6',o7',o8'] [l0,l1,l2',l3,l4',l5',l6',l7',l8']
 | [],L,o5,o6,o7,o8,l2,l4,l5,l6,l7,l8,h4,_,_=>⟨o5,o6,o7,o8,l2,l4,l5,l6,l7,l8,h4,by simp[zD,xA]⟩
 | p::ps,L,o5,o6,o7,o8,l2,l4,l5,l6,l7,l8,h4,hp,hL=>by
  rw[List.length_cons,Nat.succ_mul] at hL
  obtain ⟨p1,p2⟩:=hp p (by simp)
  obtain ⟨o7',o8',l4',l5',l7',l8',h4',e⟩:=zeC (lev:=lev) (cl:=cl) d0 d1 (some (tab cs)) d3 p.1 p.2 l0 l1 .no l3 (lvF (row p.2)) (kT hn p1) (by lia) p2 cs L o7 o8 l4 (lvF (tab p.1)) l7 l8 h4 (fun l hl=>⟨kT hn (hc.2 l hl),by rw[hc.2 l hl];exact hn1⟩) (by lia)
  have hq:=wV p.1 p.2 cs
  obtain ⟨a5,a6,a7,a8,b2,b4,b5,b6,b7,b8,hb,e'⟩:=zeD hn hn1 d0 d1 d3 hc l0 l1 l3 ps (L++(yu p.1 p.2 cs).map pD) (some (tab p.1)) (some (row p.2)) o7' o8' .no l4' l5' (lvF (row p.2)) l7' l8' h4' (fun q hq=>hp q (by simp[hq])) (by simp;lia)
  refine ⟨a5,a6,a7,a8,b2,b4,b5,b6,b7,b8,hb,?_⟩
  rw[List.map_cons]
  unfold zD
  have hb:wF lev cl (pD p) [d0,d1,some (tab cs),d3,some (.lst L),o5,o6,o7,o8] [l0,l1,l2,l3,l4,l5,l6,l7,l8]=.next [d0,d1,some (tab cs),d3,some (.lst (L++(yu p.1 p.2 cs).map pD)),some (tab p.1),some (row p.2),o7',o8'] [l0,l1,.no,l3,l4',l5',lvF (row p.2),l7',l8']:=by
   show exD lev cl (.forv 7 (.var 2) wB) [d0,d1,some (tab cs),d3,some (.lst L),some (tab p.1),some (row p.2),o7,o8] [l0,l1,l2,l3,l4,lvF (tab p.1),lvF (row p.2),l7,l8]=_
   rw[wU]
   simp only[zl,zj,ziA]
   rw[show itD (tab cs)=some (cs.map row) from xX (by rw[List.length_map];unfold lim;have:=hc.1;lia)]
   exact e
  rw[hb]
  simp only
  rw[e',show xA cs (p::ps)=yu p.1 p.2 cs++xA cs ps from rfl,List.map_append,List.append_assoc]
noncomputable def oB:Sm:=.seq (.asg 4 (.lst .unit)) (.seq (.fort 5 6 (.var 1) (.forv 7 (.var 2) wB)) (.asg 1 (.var 4)))
theorem zf6 {n:Nat}(hn:0 < n)(hn1:n<=100)(d0 d3:Option Dat){cs:List (List Int)}(hc:zcU n cs){ps:List x3}(hp:qI n 100 ps)(hz:ps.length<=1000)(o4 o5 o6 o7 o8:Option Dat)(l0 l1 l2 l3 l4 l5 l6 l7 l8:Lv):
  ∃o4' o5' o6' o7' o8' l0' l1' l2' l3' l4' l5' l6' l7' l8',exD lev cl oB [d0,some (.lst (ps.map pD)),some (tab cs),d3,o4,o5,o6,o7,o8] [l0,l1,l2,l3,l4,l5,l6,l7,l8] =
   .next [d0,some (.lst ((xA cs ps).map pD)),some (tab cs),d3,o4',o5',o6',o7',o8'] [l0',l1',l2',l3',l4',l5',l6',l7',l8']:=by
 have hc1:=hc.1
 have hm:ps.length * cs.length<=1000 * 90:=Nat.mul_le_mul hz hc1
 obtain ⟨a5,a6,a7,a8,b2,b4,b5,b6,b7,b8,hb,e⟩:=zeD (lev:=lev) (cl:=cl) hn hn1 d0 (some (.lst (ps.map pD))) d3 hc l0 .no l3 ps [] o5 o6 o7 o8 l2 .full l5 l6 l7 l8 (.inr rfl) hp (by simp;unfold lim;lia)
 have h1:exD lev cl (.asg 4 (.lst .unit)) [d0,some (.lst (ps.map pD)),some (tab cs),d3,o4,o5,o6,o7,o8] [l0,l1,l2,l3,l4,l5,l6,l7,l8]=.next [d0,some (.lst (ps.map pD)),some (tab cs),d3,some (.lst []),o5,o6,o7,o8] [l0,l1,l2,l3,.full,l5,l6,l7,l8]:=by
  rw[xx]
  simp only[xW,zo,ziD,zi]
  rw[yj (by simp)]
  simp only[ziA]
  rw[kg (by simp)]
  rfl
 have h2:exD lev cl (.fort 5 6 (.var 1) (.forv 7 (.var 2) wB)) [d0,some (.lst (ps.map pD)),some (tab cs),d3,some (.lst []),o5,o6,o7,o8] [l0,l1,l2,l3,.full,l5,l6,l7,l8]=.next [d0,some (.lst (ps.map pD)),some (tab cs),d3,some (.lst ((xA cs ps).map pD)),a5,a6,a7,a8] [l0,.no,b2,l3,b4,b5,b6,b7,b8]:=by
  rw[zd9]
  simp only[zl,zj,ziA]
  rw[xX (by rw[List.length_map];unfold lim;lia)]
  exact e
 unfold oB
 rw[xY,h1,zB,zz lev cl _ _ rfl,h2,zB,xx]
 simp only[zl,zj,ziA]
 unfold xK
 split
 .exact ⟨_,_,_,_,_,_,_,_,_,_,_,_,_,_,rfl⟩
 .exact ⟨_,_,_,_,_,_,_,_,_,_,_,_,_,_,rfl⟩
theorem zeE {n:Nat}(hn:0 < n)(hn1:n<=90)(d0:Option Dat){cs:List (List Int)}(hc:zcU n cs):∀ (xs:List Dat) (i:Nat) (ps:List x3) (o3 o4 o5 o6 o7 o8:Option Dat) (l0 l1 l2 l3 l4 l5 l6 l7 l8:Lv),i+xs.length<=100->qI n i ps->(∀j,j<=xs.length->(vc cs j ps).length<=1000) ->
  ∃o3' o4' o5' o6' o7' o8' lv',zD (fun x de lv=>exD lev cl oB (de.set 3 (some x)) (lv.set 3 (lvF x))) xs [d0,some (.lst (ps.map pD)),some (tab cs),o3,o4,o5,o6,o7,o8] [l0,l1,l2,l3,l4,l5,l6,l7,l8] =
   .next [d0,some (.lst ((vc cs xs.length ps).map pD)),some (tab cs),o3',o4',o5',o6',o7',o8'] lv'
 | [],i,ps,o3,o4,o5,o6,o7,o8,l0,l1,l2,l3,l4,l5,l6,l7,l8,_,_,_=>⟨o3,o4,o5,o6,o7,o8,_,rfl⟩
 | x::xs,i,ps,o3,o4,o5,o6,o7,o8,l0,l1,l2,l3,l4,l5,l6,l7,l8,hi,hp,hz=>by
  rw[List.length_cons] at hi
  have hp':qI n 100 ps:=fun p q=>⟨(hp p q).1,by have:=(hp p q).2;lia⟩
  obtain ⟨a4,a5,a6,a7,a8,b0,b1,b2,b3,b4,b5,b6,b7,b8,e⟩:=zf6 (lev:=lev) (cl:=cl) hn (by lia) d0 (some x) hc hp' (hz 0 (by simp)) o4 o5 o6 o7 o8 l0 l1 l2 (lvF x) l4 l5 l6 l7 l8
  obtain ⟨c3,c4,c5,c6,c7,c8,lv',e'⟩:=zeE hn hn1 d0 hc xs (i+1) (xA cs ps) (some x) a4 a5 a6 a7 a8 b0 b1 b2 b3 b4 b5 b6 b7 b8 (by lia) (gN hc.2 hp) (fun j hj=>hz (j+1) (by rw[List.length_cons];lia))
  refine ⟨c3,c4,c5,c6,c7,c8,lv',?_⟩
  unfold zD
  simp only[List.set_cons_succ,List.set_cons_zero,e]
  exact e'
noncomputable def srE:Ex:=.blt .sorted (.pair (.compP .prs (.var 9) (.var 1) (.lit (.int 0)) (.lit (.bl true))) .unit)
noncomputable def zeF (ka:Nat):Fn:=⟨1,9,(.seq (.asg 1 (.lst (.pair (.tup (.pair (.lst .unit) (.pair (.comp (.lit (.int 0)) (.rng (.lit (.int 0)) (.var 0) (.lit (.int 1))) (.lit (.bl true))) .unit))) .unit))) (.seq (.asg 2 (.call ka (.pair (.var 0) .unit))) (.seq (.forv 3 (.rng (.lit (.int 0)) (.var 0) (.lit (.int 1))) oB) (.ret srE))))⟩
theorem zcV {n:Nat}(hn:n<=1000):gu (.int 0) (.int n) (.int 1)=.ok (.tup (yc 0 1 n)):=by
 rw[zcA (by unfold lim;lia)]
 congr 3
theorem zcW {ka n:Nat}(hn:0 < n)(hn1:n<=90){cs:List (List Int)}(hc:zcU n cs)(h:cl ka [.int n]=.ok (tab cs))(hz:∀j,j<=n->(vc cs j [([],List.replicate n 0)]).length<=1000){ss:List Dat}
  (hs:yq .sorted [.lst ((vc cs n [([],List.replicate n 0)]).map fun p=>tab p.1)]=.ok (.lst ss)) (hlev:lev k=.no):yY lev cl k (zeF ka) [.int n]=.ok (.lst ss):=by
 have hr:evD cl (.rng (.lit (.int 0)) (.var 0) (.lit (.int 1))) [some (.int n),none,none,none,none,none,none,none,none]=.ok (.tup (yc 0 1 n)):=by
  simp only[wS,zC,zj,ziD,zcV (show n<=1000 by lia)]
 have h1:evD cl (.lst (.pair (.tup (.pair (.lst .unit) (.pair (.comp (.lit (.int 0)) (.rng (.lit (.int 0)) (.var 0) (.lit (.int 1))) (.lit (.bl true))) .unit))) .unit)) [some (.int n),none,none,none,none,none,none,none,none]=.ok (.lst ([([],List.replicate n 0)].map pD)):=by
  have hz0:evD cl (.comp (.lit (.int 0)) (.rng (.lit (.int 0)) (.var 0) (.lit (.int 1))) (.lit (.bl true))) [some (.int n),none,none,none,none,none,none,none,none]=.ok (row (List.replicate n 0)):=by
   rw[wu,hr]
   simp only[ziD,kf]
   rw[gI (g:=fun _=>.int 0) (yc 0 1 n) [] (fun x _=>by rfl) (fun x _=>by rfl) (by simp;unfold lim;lia)]
   simp[row,List.map_const']
  have ht:evD cl (.tup (.pair (.lst .unit) (.pair (.comp (.lit (.int 0)) (.rng (.lit (.int 0)) (.var 0) (.lit (.int 1))) (.lit (.bl true))) .unit))) [some (.int n),none,none,none,none,none,none,none,none]=.ok (pD ([],List.replicate n 0)):=by
   rw[zcx,zp,zp,hz0,xW]
   simp only[zo,ziD,zi]
   rw[yj (show ([]:List Dat).length<=lim by simp)]
   show (if 2<=lim then Rd.ok (Dat.tup [Dat.lst [],row (List.replicate n 0)]) else .no)=_
   rw[if_pos (show 2<=lim by unfold lim;lia)]
   rfl
  rw[xW,zp,ht]
  simp only[zo,ziD,zi]
  exact yj (show 1<=lim by unfold lim;lia)
 unfold yY
 rw[if_pos (by rfl),hlev]
 show xL .no (exD lev cl (.seq (.asg 1 _) (.seq (.asg 2 _) (.seq (.forv 3 _ oB) (.ret srE)))) [some (.int n),none,none,none,none,none,none,none,none] [lvF (.int n),.full,.full,.full,.full,.full,.full,.full,.full])=_
 rw[xY,xx,h1]
 simp only[ziA]
 obtain ⟨l0,l1,l2,l3,l4,l5,l6,l7,l8,e1⟩:∃l0 l1 l2 l3 l4 l5 l6 l7 l8,xK lev 1 (.lst (.pair (.tup (.pair (.lst .unit) (.pair (.comp (.lit (.int 0)) (.rng (.lit (.int 0)) (.var 0) (.lit (.int 1))) (.lit (.bl true))) .unit))) .unit)) (.lst ([([],List.replicate n 0)].map pD)) [some (.int n),none,none,none,none,none,none,none,none] [lvF (.int n),.full,.full,.full,.full,.full,.full,.full,.full]=.next [some (.int n),some (.lst ([([],List.replicate n 0)].map pD)),none,none,none,none,none,none,none] [l0,l1,l2,l3,l4,l5,l6,l7,l8]:=by
  unfold xK
  split
  .exact ⟨_,_,_,_,_,_,_,_,_,rfl⟩
  .exact ⟨_,_,_,_,_,_,_,_,_,rfl⟩
 rw[e1,zB,xY,xx]
 simp only[yf,zp,zo,zj,ziD,zi,h,ziA]
 obtain ⟨k0,k1,k2,k3,k4,k5,k6,k7,k8,e2⟩:∃k0 k1 k2 k3 k4 k5 k6 k7 k8,xK lev 2 (.call ka (.pair (.var 0) .unit)) (tab cs) [some (.int n),some (.lst ([([],List.replicate n 0)].map pD)),none,none,none,none,none,none,none] [l0,l1,l2,l3,l4,l5,l6,l7,l8]=.next [some (.int n),some (.lst ([([],List.replicate n 0)].map pD)),some (tab cs),none,none,none,none,none,none] [k0,k1,k2,k3,k4,k5,k6,k7,k8]:=by
  unfold xK
  split
  .exact ⟨_,_,_,_,_,_,_,_,_,rfl⟩
  .exact ⟨_,_,_,_,_,_,_,_,_,rfl⟩
 rw[e2,zB,jG,wU]
 have hr2:evD cl (.rng (.lit (.int 0)) (.var 0) (.lit (.int 1))) [some (.int n),some (.lst ([([],List.replicate n 0)].map pD)),some (tab cs),none,none,none,none,none,none]=.ok (.tup (yc 0 1 n)):=by
  simp only[wS,zC,zj,ziD,zcV (show n<=1000 by lia)]
 rw[hr2]
 simp only[ziA,kf,ke,wT,if_true]
 obtain ⟨c3,c4,c5,c6,c7,c8,lv',e3⟩:=zeE (lev:=lev) (cl:=cl) hn hn1 (some (.int n)) hc (yc 0 1 n) 0 [([],List.replicate n 0)] none none none none none none k0 k1 k2 k3 k4 k5 k6 k7 k8 (by simp;lia) (fun p hp=>by simp at hp;subst hp;simp) (fun j hj=>hz j (by simpa using hj))
 rw[e3,zB,gH]
 have hw:=hz n (Nat.le_refl _)
 generalize vc cs n [([],List.replicate n 0)]=W at *
 have hp:∀W:List x3,qw (W.map pD)=some (W.map fun p=>(tab p.1,row p.2)):=by
  intro W
  induction W with
  | nil=>rfl
  | cons p W ih =>
   show (qw (W.map pD)).map ((tab p.1,row p.2)::·)=_
   rw[ih];rfl
 have hv:evD cl srE [some (.int n),some (.lst (W.map pD)),some (tab cs),c3,c4,c5,c6,c7,c8]=.ok (.lst ss):=by
  unfold srE
  simp only[yO,zp,zo]
  rw[gG]
  simp only[zl,zj,zC,ziD]
  rw[show xh .prs (.lst (W.map pD)) (.int 0)=some (W.map fun p=>(tab p.1,row p.2)) from by
   show (if (W.map pD).length<=lim then qw (W.map pD) else none)=_
   rw[if_pos (by rw[List.length_map];unfold lim;lia),hp]]
  simp only
  rw[yk (fun (p:x3)=>(tab p.1,row p.2)) (fun p=>tab p.1) W [] (fun p _=>rfl) (fun p _=>rfl) (by simp;unfold lim;lia)]
  simp only[ziD,zi,List.nil_append]
  exact hs
 rw[jF,hv]
 simp[xL,qy]
end
end Lib
namespace Lib
section
variable {cl:Nat->List Wd->Me->Rz}{cd:Nat->List Dat->Rd}
def Sl (R:Nat->Prop)(m:Me)(d:Option Dat)(w:Option Wd):Prop:=∀x,d=some x->∃u,w=some u/\Rep R m x u
theorem gO {R:Nat->Prop}{m:Me}{vs:List Nat}{d0 d1 d2 d3 d4:Option Dat}{w0 w1 w2 w3 w4:Option Wd}(h0:Sl R m d0 w0)(h1:Sl R m d1 w1)(h2:Sl R m d2 w2)(h3:Sl R m d3 w3)(h4:Sl R m d4 w4):EnvR R m vs [d0,d1,d2,d3,d4] [w0,w1,w2,w3,w4]:=by
 refine ⟨rfl,fun i _ d hd=>?_⟩
 match i,hd with
 | 0,hd=>obtain ⟨u,rfl,q⟩:=h0 d (by simpa using hd);exact ⟨u,rfl,q⟩
 | 1,hd=>obtain ⟨u,rfl,q⟩:=h1 d (by simpa using hd);exact ⟨u,rfl,q⟩
 | 2,hd=>obtain ⟨u,rfl,q⟩:=h2 d (by simpa using hd);exact ⟨u,rfl,q⟩
 | 3,hd=>obtain ⟨u,rfl,q⟩:=h3 d (by simpa using hd);exact ⟨u,rfl,q⟩
 | 4,hd=>obtain ⟨u,rfl,q⟩:=h4 d (by simpa using hd);exact ⟨u,rfl,q⟩
 | i+5,hd=>simp at hd
theorem slN {R:Nat->Prop}{m:Me}{w:Option Wd}:Sl R m none w:=fun _ h=>by cases h
theorem slI {R:Nat->Prop}{m:Me}{i:Int}:Sl R m (some (.int i)) (some (.int i)):=fun _ h=>by cases h;exact ⟨_,rfl,rep_int.mpr rfl⟩
theorem slS {R:Nat->Prop}{m:Me}{ns:List Int}:Sl R m (some (.scr ns)) (some (.rol (ns.map Wd.int))):=fun _ h=>by cases h;exact ⟨_,rfl,rep_scr.mpr rfl⟩
theorem slD {R:Nat->Prop}{m:Me}{d:Dat}{w:Wd}(q:Rep R m d w):Sl R m (some d) (some w):=fun _ h=>by cases h;exact ⟨_,rfl,q⟩
theorem vd (H:CallR cl cd){R:Nat->Prop}{m:Me}{e:Ex}{de:DEn}{env:En}{d:Dat}(q:EnvR R m (zh e) de env)(h:evD cd e de=.ok d):∃w m',evE cl e env m=.ok w m'/\Le m m'/\Rep (Rf R m.length) m' d w:=by
 have s:=za H e R m de env q
 rw[h] at s
 exact s
theorem yS {R:Nat->Prop}{m m':Me}{d:Dat}{w:Wd}(h:Le m m')(q:Rep R m d w):Rep (fun _=>True) m' d w:=Rep.frame (fun l o _ z=>⟨trivial,h l o z⟩) d w q
theorem wW {R:Nat->Prop}{m:Me}:∀ {l:List Int}{xs:List Wd},RepL R m (l.map Dat.int) xs->xs=l.map Wd.int
 | [],_,h=>h.nil_inv
 | i::l,_,h=>by
  obtain ⟨x,r,rfl,a,b⟩:=RepL.cons_inv (show RepL R m (.int i::l.map Dat.int) _ from h)
  rw[rep_int.mp a,wW b];rfl
theorem xj {a b:Sm}{env e1:En}{m m1:Me}(h:exS cl a env m=.next e1 m1):exS cl (.seq a b) env m=exS cl b e1 m1:=by
 show (match exS cl a env m with | .next e1 m1=>exS cl b e1 m1 | r=>r)=_
 rw[h]
noncomputable def smE:Ex:=.not (.call 14 (.pair (.idx (.var 3) (.var 4)) (.pair (.idx (.var 2) (.var 4)) .unit)))
noncomputable def smB:Sm:=.ite smE (.ret (.lit (.bl false))) .skip
noncomputable def iE:Ex:=.bin .mod (.call 8 (.pair (.var 0) (.pair (.lit (.int 1)) .unit))) (.blt .len (.pair (.var 2) .unit))
noncomputable def zel:Sm:=.seq (.asg 1 (.call 10 (.pair (.call 8 (.pair (.var 0) (.pair (.lit (.int 0)) .unit))) .unit))) (.seq (.asg 2 (.call 13 (.pair (.var 1) .unit))) (.seq (.asg 3 (.call 7 (.pair (.var 1) .unit))) (.seq (.ite (.or (.not (.isi .list (.var 3))) (.cmp .ne (.blt .len (.pair (.var 3) .unit)) (.blt .len (.pair (.var 2) .unit)))) (.ret (.lit (.bl false))) .skip) (.seq (.forv 4 (.rng (.lit (.int 0)) (.blt .len (.pair (.var 2) .unit)) (.lit (.int 1))) smB) (.seq (.expr (.meth .append (.idx (.idx (.var 3) iE) (.lit (.int 0))) (.pair (.lit (.int 1)) .unit))) (.seq (.expr (.meth .append (.var 3) (.pair (.lst .unit) .unit))) (.ret (.or (.cmp .eq (.var 1) (.lit (.int 5))) (.cmp .eq (.call 7 (.pair (.var 1) .unit)) (.var 2))))))))))
noncomputable def zt (ts:List (List (List Int))):Dat:=.lst (ts.map tab)
theorem gP {ts:List (List (List Int))}{k:Int}(h0:0<=k)(h1:k < ts.length):∃t,t∈ts/\ts[k.toNat]?=some t/\yV (zt ts) (.int k)=.ok (tab t):=by
 have hk:k.toNat < ts.length:=by lia
 exact ⟨ts[k.toNat],List.getElem_mem hk,by simp[hk],zcz h0 (by simp[hk])⟩
theorem zcX (H:CallR cl cd){ts:List (List (List Int))}(h14:∀t∈ts,cd 14 [tab t,tab t]=.ok (.bl true)){a0 a1:Option Wd}{wd wf:Wd}:∀ (ks:List Int) (a4:Option Wd) (m:Me),(∀k∈ks,0<=k/\k < ts.length)->Rep (fun _=>True) m (zt ts) wd->Rep (fun _=>True) m (zt ts) wf ->
  ∃a4' m',xl (fun x e m=>exS cl smB (e.set 4 (some x)) m) (ks.map Wd.int) [a0,a1,some wd,some wf,a4] m=.next [a0,a1,some wd,some wf,a4'] m'/\Le m m'
 | [],a4,m,_,_,_=>⟨a4,m,rfl,Le.refl m⟩
 | k::ks,a4,m,hk,qd,qf=>by
  obtain ⟨k0,k1⟩:=hk k (by simp)
  obtain ⟨t,ht,_,hi⟩:=gP k0 k1
  have hv:evD cd smE [none,none,some (zt ts),some (zt ts),some (.int k)]=.ok (.bl false):=by
   simp only[smE,jC,yf,zp,zo,jB,zl,zj,ziD,zi,hi,h14 t ht]
   rfl
  obtain ⟨w,m1,e1,l1,r1⟩:=vd H (R:=fun _=>True) (m:=m) (env:=[a0,a1,some wd,some wf,some (.int k)]) (gO slN slN (slD qd) (slD qf) slI) hv
  obtain rfl:=rep_bl.mp r1
  obtain ⟨a4',m2,e2,l2⟩:=zcX H h14 ks (some (.int k)) m1 (fun q hq=>hk q (by simp[hq])) (yS l1 qd) (yS l1 qf)
  refine ⟨a4',m2,?_,l1.trans l2⟩
  rw[List.map_cons]
  unfold xl
  have hb:exS cl smB ([a0,a1,some wd,some wf,a4].set 4 (some (.int k))) m=.next [a0,a1,some wd,some wf,some (.int k)] m1:=by
   show (evE cl smE [a0,a1,some wd,some wf,some (.int k)] m).bindS _ _=_
   rw[e1]
   rfl
  simp only[hb]
  exact e2
theorem jJ {m:Me}{l:Nat}{o:Ob}(h:m[l]?=some o):l < m.length:=(List.getElem?_eq_some_iff.mp h).1
theorem zhA (H:CallR cl cd)(ns:List Int){n c0 c1:Int}{ts:List (List (List Int))}(h0:cd 8 [.scr ns,.int 0]=.ok (.int c0))(h1:cd 8 [.scr ns,.int 1]=.ok (.int c1))(h10:cd 10 [.int c0]=.ok (.int n))(h13:cd 13 [.int n]=.ok (zt ts))(h7:cd 7 [.int n]=.ok (zt ts))
  (h14:∀t∈ts,cd 14 [tab t,tab t]=.ok (.bl true)) (hne:0 < ts.length) (hlen:ts.length<=1000) (zee:∀t∈ts,∃i r rs,t=(i::r)::rs/\r.length<=100) (heq:n=5\/yL .eq (zt ts) (zt ts)=.ok (.bl true)) :
  ∃m,exS cl zel [some (.rol (ns.map Wd.int)),none,none,none,none] []=.ret (.bl true) m:=by
 have hL:yq .len [zt ts]=.ok (.int ts.length):=by
  show Rd.ok (.int ((ts.map tab).length:Nat))=_
  rw[List.length_map]
 -- the size
 have v1:evD cd (.call 10 (.pair (.call 8 (.pair (.var 0) (.pair (.lit (.int 0)) .unit))) .unit)) [some (.scr ns),none,none,none,none]=.ok (.int n):=by
  simp only[yf,zp,zo,zj,zC,ziD,zi,h0,h10]
 obtain ⟨w1,m1,e1,l1,r1⟩:=vd H (R:=fun _=>True) (m:=[]) (env:=[some (.rol (ns.map Wd.int)),none,none,none,none]) (gO slS slN slN slN slN) v1
 obtain rfl:=rep_int.mp r1
 -- what is due
 have v2:evD cd (.call 13 (.pair (.var 1) .unit)) [none,some (.int n),none,none,none]=.ok (zt ts):=by
  simp only[yf,zp,zo,zl,zj,ziD,zi,h13]
 obtain ⟨wd,m2,e2,l2,r2⟩:=vd H (R:=fun _=>False) (m:=m1) (env:=[some (.rol (ns.map Wd.int)),some (.int n),none,none,none]) (gO slN slI slN slN slN) v2
 -- what is told
 have v3:evD cd (.call 7 (.pair (.var 1) .unit)) [none,some (.int n),none,none,none]=.ok (zt ts):=by
  simp only[yf,zp,zo,zl,zj,ziD,zi,h7]
 obtain ⟨wf,m3,e3,l3,r3⟩:=vd H (R:=fun _=>False) (m:=m2) (env:=[some (.rol (ns.map Wd.int)),some (.int n),some wd,none,none]) (gO slN slI slN slN slN) v3
 have d2:Rep (fun l=>l < m2.length) m2 (zt ts) wd:=Rep.frame (fun l o _ z=>⟨jJ z,z⟩) _ _ r2
 have f3:Rep (fun l=>m2.length<=l) m3 (zt ts) wf:=Rep.frame (fun l o z k=>⟨z.elim False.elim id,k⟩) _ _ r3
 -- no difference in length
 have v4:evD cd (.or (.not (.isi .list (.var 3))) (.cmp .ne (.blt .len (.pair (.var 3) .unit)) (.blt .len (.pair (.var 2) .unit)))) [none,none,some (zt ts),some (zt ts),none]=.ok (.bl false):=by
  simp only[zaD,jC,qC,kd,yO,zp,zo,zl,zj,ziD,zi,hL,zeB,decide_true,Bool.not_true]
  rfl
 obtain ⟨w4,m4,e4,l4,r4⟩:=vd H (R:=fun _=>True) (m:=m3) (env:=[some (.rol (ns.map Wd.int)),some (.int n),some wd,some wf,none]) (gO slN slN (slD (yS l3 d2)) (slD (yS (Le.refl m3) f3)) slN) v4
 obtain rfl:=rep_bl.mp r4
 -- each state alike
 have v5:evD cd (.rng (.lit (.int 0)) (.blt .len (.pair (.var 2) .unit)) (.lit (.int 1))) [none,none,some (zt ts),none,none]=.ok (.tup (yc 0 1 ts.length)):=by
  simp only[wS,yO,zp,zo,zC,zl,zj,ziD,zi,hL,zcV hlen]
 obtain ⟨w5,m5,e5,l5,r5⟩:=vd H (R:=fun _=>True) (m:=m4) (env:=[some (.rol (ns.map Wd.int)),some (.int n),some wd,some wf,none]) (gO slN slN (slD (yS (l3.trans l4) d2)) slN slN) v5
 obtain ⟨xs,rfl,rx⟩:=rep_tup.mp r5
 obtain rfl:=wW (l:=(List.range ts.length).map fun (i:Nat)=>0+1 * (i:Int)) (by rw[List.map_map];exact rx)
 obtain ⟨a4,m6,e6,l6⟩:=zcX H h14 (a0:=some (.rol (ns.map Wd.int))) (a1:=some (.int n)) (wd:=wd) (wf:=wf) ((List.range ts.length).map fun (i:Nat)=>0+1 * (i:Int)) none m5 (fun k hk=>by
  obtain ⟨i,hi,rfl⟩:=List.mem_map.mp hk
  have:=List.mem_range.mp hi
  lia) (yS ((l3.trans l4).trans l5) d2) (yS (l4.trans l5) f3)
 have l36:Le m3 m6:=(l4.trans l5).trans l6
 -- the row that is changed
 have hj0:=Int.emod_nonneg c1 (b:=(ts.length:Int)) (by lia)
 have hj1:=Int.emod_lt_of_pos c1 (b:=(ts.length:Int)) (by lia)
 have v7:evD cd iE [some (.scr ns),none,some (zt ts),none,none]=.ok (.int (c1 % ts.length)):=by
  simp only[iE,qB,yf,yO,zp,zo,zC,zl,zj,ziD,zi,hL,h1]
  exact qD _ _ (by lia)
 obtain ⟨w7,m7,e7,l7,r7⟩:=vd H (R:=fun _=>True) (m:=m6) (env:=[some (.rol (ns.map Wd.int)),some (.int n),some wd,some wf,a4]) (gO slS slN (slD (yS (l3.trans l36) d2)) slN slN) v7
 obtain rfl:=rep_int.mp r7
 have f7:Rep (fun l=>m2.length<=l) m7 (zt ts) wf:=Rep.frame (fun l o z k=>⟨z,(l36.trans l7) l o k⟩) _ _ f3
 have d7:Rep (fun l=>l < m2.length) m7 (zt ts) wd:=Rep.frame (fun l o z k=>⟨z,((l3.trans l36).trans l7) l o k⟩) _ _ d2
 obtain ⟨t,ht,hti,_⟩:=gP hj0 hj1
 obtain ⟨i,r,rs,rfl,hr⟩:=zee t ht
 obtain ⟨lf,us,rfl,hlf,hmf,rf⟩:=rep_lst.mp f7
 obtain ⟨wt,hwt,rt⟩:=rf.get (i:=(c1 % ts.length).toNat) (d:=tab ((i::r)::rs)) (by rw[List.getElem?_map,hti];rfl)
 obtain ⟨lt,vs,rfl,hlt,hmt,rv⟩:=rep_lst.mp rt
 obtain ⟨wr,vr,rfl,rr,_⟩:=RepL.cons_inv (show RepL _ m7 (row (i::r)::rs.map row) vs from rv)
 obtain ⟨lr,zs,rfl,hlr,hmr,rz⟩:=rep_lst.mp rr
 obtain rfl:=wW rz
 have hul:us.length=ts.length:=by
  have:=rf.len
  rw[List.length_map] at this
  exact this.symm
 have hneq:lf≠lr:=by
  rintro rfl
  rw[hmf] at hmr
  cases hmr
  rw[List.getElem?_map] at hwt
  cases hz:(i::r)[(c1 % ts.length).toNat]? with
  | none=>rw[hz] at hwt;cases hwt
  | some q=>rw[hz] at hwt;cases hwt
 have hmod:((c1 % (ts.length:Int)).toNat:Int)=c1 % ts.length:=by lia
 have i1:yH (.ref lf) (.int (c1 % ts.length)) m7=.ok (.ref lt) m7:=qz hmf (by rw[<- hmod];exact jD (by lia)) hwt
 have i2:yH (.ref lt) (.int 0) m7=.ok (.ref lr) m7:=qz (p:=0) hmt (by
  show ix (vr.length+1) ((0:Nat):Int)=_
  exact jD (by lia)) rfl
 have s6:exS cl (.expr (.meth .append (.idx (.idx (.var 3) iE) (.lit (.int 0))) (.pair (.lit (.int 1)) .unit))) [some (.rol (ns.map Wd.int)),some (.int n),some wd,some (.ref lf),a4] m6=.next [some (.rol (ns.map Wd.int)),some (.int n),some wd,some (.ref lf),a4] (m7.set lr (Ob.lst ((i::r).map Wd.int++[Wd.int 1]))):=by
  have hx:evE cl (.idx (.idx (.var 3) iE) (.lit (.int 0))) [some (.rol (ns.map Wd.int)),some (.int n),some wd,some (.ref lf),a4] m6=.ok (.ref lr) m7:=by
   show (((evE cl iE [some (.rol (ns.map Wd.int)),some (.int n),some wd,some (.ref lf),a4] m6).bind fun y m2=>yH (.ref lf) y m2).bind fun x m1=>(Rz.ok (.int 0) m1).bind fun y m2=>yH x y m2)=_
   rw[e7]
   simp only[Rz.bind,i1,i2]
  show (evE cl (.meth .append (.idx (.idx (.var 3) iE) (.lit (.int 0))) (.pair (.lit (.int 1)) .unit)) _ m6).bindS _ _=_
  rw[v6 (w:=.int 1) (m2:=m7) hx rfl]
  simp only[mtR,hmr]
  rw[if_pos (by simp;unfold lim;lia)]
  rfl
 -- the list that is changed
 have s7:exS cl (.expr (.meth .append (.var 3) (.pair (.lst .unit) .unit))) [some (.rol (ns.map Wd.int)),some (.int n),some wd,some (.ref lf),a4] (m7.set lr (Ob.lst ((i::r).map Wd.int++[Wd.int 1])))=.next [some (.rol (ns.map Wd.int)),some (.int n),some wd,some (.ref lf),a4] ((m7.set lr (Ob.lst ((i::r).map Wd.int++[Wd.int 1]))++[Ob.lst []]).set lf (Ob.lst (us++[Wd.ref (m7.set lr (Ob.lst ((i::r).map Wd.int++[Wd.int 1]))).length]))):=by
  show (evE cl (.meth .append (.var 3) (.pair (.lst .unit) .unit)) _ _).bindS _ _=_
  rw[v6 (x:=.ref lf) (m1:=m7.set lr (Ob.lst ((i::r).map Wd.int++[Wd.int 1]))) (w:=Wd.ref (m7.set lr (Ob.lst ((i::r).map Wd.int++[Wd.int 1]))).length) (m2:=m7.set lr (Ob.lst ((i::r).map Wd.int++[Wd.int 1]))++[Ob.lst []]) rfl rfl]
  have hg:(m7.set lr (Ob.lst ((i::r).map Wd.int++[Wd.int 1]))++[Ob.lst []])[lf]?=some (.lst us):=by
   have h:=jJ hmf
   rw[List.getElem?_append_left (by rw[List.length_set];exact h),List.getElem?_set_ne (Ne.symm hneq)]
   exact hmf
  simp only[mtR,hg]
  rw[if_pos (by rw[hul];unfold lim;lia)]
  rfl
 -- what is due stands as it was
 have d8:Rep (fun _=>True) ((m7.set lr (Ob.lst ((i::r).map Wd.int++[Wd.int 1]))++[Ob.lst []]).set lf (Ob.lst (us++[Wd.ref (m7.set lr (Ob.lst ((i::r).map Wd.int++[Wd.int 1]))).length]))) (zt ts) wd:=by
  refine Rep.frame (fun l o z k=>⟨trivial,?_⟩) _ _ d7
  have h:=jJ k
  rw[List.getElem?_set_ne (by lia),List.getElem?_append_left (by rw[List.length_set];exact h),List.getElem?_set_ne (by lia)]
  exact k
 have v8:evD cd (.or (.cmp .eq (.var 1) (.lit (.int 5))) (.cmp .eq (.call 7 (.pair (.var 1) .unit)) (.var 2))) [none,some (.int n),some (zt ts),none,none]=.ok (.bl true):=by
  simp only[zaD,kd,yf,zp,zo,zC,zl,zj,ziD,zi,h7,zhn]
  by_cases q:n=5
  .simp[q]
  .rw[decide_eq_false q]
   exact heq.resolve_left q
 obtain ⟨w8,m8,e8,l8,r8⟩:=vd H (R:=fun _=>True) (env:=[some (.rol (ns.map Wd.int)),some (.int n),some wd,some (.ref lf),a4]) (gO slN slI (slD d8) slN slN) v8
 obtain rfl:=rep_bl.mp r8
 refine ⟨m8,?_⟩
 unfold zel
 rw[xj (e1:=[some (.rol (ns.map Wd.int)),some (.int n),none,none,none]) (m1:=m1) (by show (evE cl _ _ _).bindS _ _=_;rw[e1];rfl)]
 rw[xj (e1:=[some (.rol (ns.map Wd.int)),some (.int n),some wd,none,none]) (m1:=m2) (by show (evE cl _ _ _).bindS _ _=_;rw[e2];rfl)]
 rw[xj (e1:=[some (.rol (ns.map Wd.int)),some (.int n),some wd,some (.ref lf),none]) (m1:=m3) (by show (evE cl _ _ _).bindS _ _=_;rw[e3];rfl)]
 rw[xj (e1:=[some (.rol (ns.map Wd.int)),some (.int n),some wd,some (.ref lf),none]) (m1:=m4) (by show (evE cl _ _ _).bindS _ _=_;rw[e4];rfl)]
 rw[xj (e1:=[some (.rol (ns.map Wd.int)),some (.int n),some wd,some (.ref lf),a4]) (m1:=m6) (by show (evE cl _ _ _).bindS _ _=_;rw[e5];exact e6)]
 rw[xj s6,xj s7]
 show (evE cl _ _ _).bindS _ _=_
 rw[e8]
 rfl
end
end Lib
namespace Lib
section
variable {lev:Nat->Lv}{cl:Nat->List Dat->Rd}{k:Nat}
noncomputable def jK (t:List (List Int))(c:Nat):List Int:=t.map fun r=>r.getD c 0
noncomputable def zV (n:Nat)(t:List (List Int)):List Int:=(List.range n).map fun c=>(jK t c).sum
noncomputable def rbG:List Int->Int->List (List Int)
 | [],a=>if a=1 then [[]] else []
 | s::ss,a=>([-1,0,1]:List Int).flatMap fun g=>if (a+g=0\/a+g=1)/\(s+g=0\/s+g=1) then (rbG ss (a+g)).map (g::·) else []
noncomputable def rbP (ss:List Int):List (List Int):=rbG ss 0
noncomputable def x4 (n:Nat):List (List (List Int))->List (List (List Int))
 | []=>[]
 | t::ts=>(rbP (zV n t)).map (fun r=>t++[r])++x4 n ts
def zhB:Fn:=⟨2,2,(.ret (.comp (.idx (.var 2) (.var 1)) (.var 0) (.lit (.bl true))))⟩
theorem zem {t:List (List Int)}{c:Nat}(ht:t.length<=100)(hc:∀r∈t,c < r.length)(hlev:lev k=.no):yY lev cl k zhB [tab t,.int c]=.ok (row (jK t c)):=by
 have hv:evD cl (.comp (.idx (.var 2) (.var 1)) (.var 0) (.lit (.bl true))) [some (tab t),some (.int c)]=.ok (row (jK t c)):=by
  rw[wu]
  simp only[zj,ziD,tab,xX (show (t.map row).length<=lim from by simp;unfold lim;lia)]
  rw[yk row (fun x=>.int (x.getD c 0)) t [] (fun _ _=>by simp) (fun x hx=>?_) (by simp;unfold lim;lia)]
  .simp only[row,jK,List.map_map,List.nil_append];rfl
  .simp only[List.cons_append,List.nil_append,jB,zj,zl,ziD]
   exact zeb (zcL (hc x hx))
 unfold yY
 rw[if_pos (by rfl),hlev]
 show xL .no (exD lev cl (.ret _) [some (tab t),some (.int c)] _)=_
 rw[jF,hv]
 simp[xL,qy]
noncomputable def sE:Ex:=.comp (.blt .sum (.pair (.call 3 (.pair (.var 3) (.pair (.var 5) .unit))) .unit)) (.rng (.lit (.int 0)) (.var 1) (.lit (.int 1))) (.lit (.bl true))
noncomputable def aE:Ex:=.bin .add (.comp (.blt .list (.pair (.var 5) .unit)) (.var 3) (.lit (.bl true))) (.lst (.pair (.var 4) .unit))
noncomputable def aB:Sm:=.expr (.meth .append (.var 2) (.pair aE .unit))
noncomputable def kU:Sm:=.forv 4 (.call 5 (.pair sE .unit)) aB
noncomputable def fLT:Fn:=⟨2,5,(.seq (.asg 2 (.lst .unit)) (.seq (.forv 3 (.var 0) kU) (.ret (.var 2))))⟩
theorem zf7 (d0 d1:Option Dat)(L:List Dat){t:List (List Int)}(ht:t.length<=100)(htr:∀x∈t,x.length<=100)(r:List Int)(hL:L.length < lim)(l0 l1 l2 l3 l4:Lv)(h2:l2=.top\/l2=.full):
  ∃l2' l3' l4',(l2'=.top\/l2'=.full)/\exD lev cl aB [d0,d1,some (.lst L),some (tab t),some (row r)] [l0,l1,l2,l3,l4]=.next [d0,d1,some (.lst (L++[tab (t++[r])])),some (tab t),some (row r)] [l0,l1,l2',l3',l4']:=by
 have hc:=zhv (cl:=cl) ht htr [d0,d1,some (.lst L),some (tab t),some (row r)] 3 5 rfl (by simp)
 have ha:yw .add (tab t) (.lst [row r])=.ok (tab (t++[r])):=by
  show zQ (t.map row++[row r])=_
  rw[yj (by simp;unfold lim;lia)]
  simp[tab]
 have hn:zQ [row r]=.ok (.lst [row r]):=yj (by unfold lim;simp)
 have hv:evD cl aE [d0,d1,some (.lst L),some (tab t),some (row r)]=.ok (tab (t++[r])):=by
  unfold aE
  rw[qB,hc]
  simp only[xW,zp,zo,zl,zj,ziD,zi,hn,ha]
 have ho:yd [l0,l1,l2,l3,l4] 2=true:=by
  rcases h2 with rfl | rfl <;> rfl
 have hf:lvE lev aE (tab (t++[r]))=.top:=by
  simp[aE,lvE,tab,row,zbd]
 unfold aB
 rw[zaF,hv]
 simp only[Rd.okS_ok]
 rw[show wP [d0,d1,some (.lst L),some (tab t),some (row r)] 2=some L from rfl]
 simp only
 rw[if_pos hL]
 refine ⟨.top,.no,.no,.inl rfl,?_⟩
 simp only[kM,ho,hf]
 simp[aE,downs,xi,zh]
theorem zeG (d0 d1:Option Dat){t:List (List Int)}(ht:t.length<=100)(htr:∀x∈t,x.length<=100)(l0 l1:Lv):∀ (rs:List (List Int)) (L:List Dat) (o4:Option Dat) (l2 l3 l4:Lv),(l2=.top\/l2=.full)->L.length+rs.length < lim ->
  ∃o4' l2' l3' l4',(l2'=.top\/l2'=.full)/\zD (fun x de lv=>exD lev cl aB (de.set 4 (some x)) (lv.set 4 (lvF x))) (rs.map row) [d0,d1,some (.lst L),some (tab t),o4] [l0,l1,l2,l3,l4] =
   .next [d0,d1,some (.lst (L++rs.map fun r=>tab (t++[r]))),some (tab t),o4'] [l0,l1,l2',l3',l4']
 | [],L,o4,l2,l3,l4,h2,_=>⟨o4,l2,l3,l4,h2,by simp[zD]⟩
 | r::rs,L,o4,l2,l3,l4,h2,hL=>by
  rw[List.length_cons] at hL
  obtain ⟨a2,a3,a4,h2',e⟩:=zf7 (lev:=lev) (cl:=cl) d0 d1 L ht htr r (by lia) l0 l1 l2 l3 (lvF (row r)) h2
  obtain ⟨o4',b2,b3,b4,hb,e'⟩:=zeG d0 d1 ht htr l0 l1 rs (L++[tab (t++[r])]) (some (row r)) a2 a3 a4 h2' (by simp;lia)
  refine ⟨o4',b2,b3,b4,hb,?_⟩
  rw[List.map_cons]
  unfold zD
  simp only[List.set_cons_succ,List.set_cons_zero,e]
  rw[e',List.map_cons,List.append_assoc]
  rfl
def zhC (n i:Nat)(ts:List (List (List Int))):Prop:=∀t∈ts,t.length<=i/\∀r∈t,r.length=n
theorem zhD {n:Nat}(hn:n<=100){t:List (List Int)}(hcol:∀c,c < n->cl 3 [tab t,.int (c:Int)]=.ok (row (jK t c)))(d0 d2 d4:Option Dat):evD cl sE [d0,some (.int n),d2,some (tab t),d4]=.ok (row (zV n t)):=by
 unfold sE
 rw[wu]
 simp only[wS,zC,zj,zl,ziD,zcV (show n<=1000 by lia),kf]
 rw[zcM 0 1 n (fun c=>.int (jK t c).sum) (fun c _=>by simp) (fun c hc=>?_) (by unfold lim;lia)]
 .simp only[row,zV,List.map_map];rfl
 .rw[show (0+1 * (c:Int))=(c:Int) by lia]
  simp only[List.cons_append,List.nil_append,yO,yf,zp,zo,zj,zl,ziD,zi,hcol c hc,zef]
theorem zeH {n:Nat}(hn:n<=100)(hcol:∀t:List (List Int),t.length<=100->(∀r∈t,r.length=n)->∀c,c < n->cl 3 [tab t,.int (c:Int)]=.ok (row (jK t c)))(d0:Option Dat):
  ∀ (ts:List (List (List Int))) (L:List Dat) (o3 o4:Option Dat) (l0 l1 l2 l3 l4:Lv),(l2=.top\/l2=.full)->zhC n 100 ts->(∀t∈ts,cl 5 [row (zV n t)]=.ok (tab (rbP (zV n t)))/\(rbP (zV n t)).length<=50)->L.length+ts.length * 50 < lim ->
  ∃o3' o4' l0' l1' l2' l3' l4',(l2'=.top\/l2'=.full)/\zD (fun x de lv=>exD lev cl kU (de.set 3 (some x)) (lv.set 3 (lvF x))) (ts.map tab) [d0,some (.int n),some (.lst L),o3,o4] [l0,l1,l2,l3,l4] =
   .next [d0,some (.int n),some (.lst (L++(x4 n ts).map tab)),o3',o4'] [l0',l1',l2',l3',l4']
 | [],L,o3,o4,l0,l1,l2,l3,l4,h2,_,_,_=>⟨o3,o4,l0,l1,l2,l3,l4,h2,by simp[zD,x4]⟩
 | t::ts,L,o3,o4,l0,l1,l2,l3,l4,h2,hk,hr,hL=>by
  rw[List.length_cons] at hL
  obtain ⟨k1,k2⟩:=hk t (by simp)
  obtain ⟨r1,r2⟩:=hr t (by simp)
  obtain ⟨o4',a2,a3,a4,ha,e⟩:=zeG (lev:=lev) (cl:=cl) d0 (some (.int n)) k1 (fun x hx=>by rw[k2 x hx];exact hn) l0 .no (rbP (zV n t)) L o4 l2 .no l4 h2 (by lia)
  have hb:exD lev cl kU [d0,some (.int n),some (.lst L),some (tab t),o4] [l0,l1,l2,lvF (tab t),l4]=.next [d0,some (.int n),some (.lst (L++(rbP (zV n t)).map fun r=>tab (t++[r]))),some (tab t),o4'] [l0,.no,a2,a3,a4]:=by
   unfold kU
   rw[wU]
   simp only[yf,zp,zo,zhD hn (hcol t k1 k2),ziD,zi,r1,ziA]
   rw[show itD (tab (rbP (zV n t)))=some ((rbP (zV n t)).map row) from xX (by rw[List.length_map];unfold lim;lia)]
   exact e
  obtain ⟨p3,p4,c0,c1,c2,c3,c4,hc,e'⟩:=zeH hn hcol d0 ts (L++(rbP (zV n t)).map fun r=>tab (t++[r])) (some (tab t)) o4' l0 .no a2 a3 a4 ha (fun q hq=>hk q (by simp[hq])) (fun q hq=>hr q (by simp[hq])) (by simp;lia)
  refine ⟨p3,p4,c0,c1,c2,c3,c4,hc,?_⟩
  rw[List.map_cons]
  unfold zD
  simp only[List.set_cons_succ,List.set_cons_zero,hb]
  rw[e',show x4 n (t::ts)=(rbP (zV n t)).map (fun r=>t++[r])++x4 n ts from rfl,List.map_append,List.map_map,List.append_assoc]
  rfl
theorem zf8 {n:Nat}(hn:n<=100)(hcol:∀t:List (List Int),t.length<=100->(∀r∈t,r.length=n)->∀c,c < n->cl 3 [tab t,.int (c:Int)]=.ok (row (jK t c))){ts:List (List (List Int))}(hk:zhC n 100 ts)(hz:ts.length<=1000)
  (hr:∀t∈ts,cl 5 [row (zV n t)]=.ok (tab (rbP (zV n t)))/\(rbP (zV n t)).length<=50) (hlev:lev k=.no):yY lev cl k fLT [zt ts,.int n]=.ok (zt (x4 n ts)):=by
 obtain ⟨p3,p4,c0,c1,c2,c3,c4,hc,e⟩:=zeH (lev:=lev) (cl:=cl) hn hcol (some (zt ts)) ts [] none none .no .full .full .full .full (.inr rfl) hk hr (by simp;unfold lim;lia)
 have h1:exD lev cl (.asg 2 (.lst .unit)) [some (zt ts),some (.int n),none,none,none] [.no,.full,.full,.full,.full]=.next [some (zt ts),some (.int n),some (.lst []),none,none] [.no,.full,.full,.full,.full]:=by
  rw[xx]
  simp only[xW,zo,ziD,zi]
  rw[yj (by simp)]
  simp only[ziA]
  rw[kg (by simp)]
  rfl
 have h2:exD lev cl (.forv 3 (.var 0) kU) [some (zt ts),some (.int n),some (.lst []),none,none] [.no,.full,.full,.full,.full]=.next [some (zt ts),some (.int n),some (.lst ((x4 n ts).map tab)),p3,p4] [c0,c1,c2,c3,c4]:=by
  rw[wU]
  simp only[zj,ziA]
  rw[show itD (zt ts)=some (ts.map tab) from xX (by rw[List.length_map];unfold lim;lia)]
  exact e
 unfold yY
 rw[if_pos (by rfl),hlev]
 show xL .no (exD lev cl (.seq (.asg 2 (.lst .unit)) (.seq (.forv 3 (.var 0) kU) (.ret (.var 2)))) [some (zt ts),some (.int n),none,none,none] [lvF (zt ts),lvF (.int n),.full,.full,.full])=_
 rw[show lvF (zt ts)=.no from by simp[lvF,zt],show lvF (.int (n:Int))=.full from by simp[lvF],xY,h1,zB,jG,h2,zB,jF]
 simp only[zl,zj,ziA]
 simp[xL,qy,zt]
noncomputable def stP (n:Nat):Nat->List (List (List Int))->List (List (List Int))
 | 0,ts=>ts
 | k+1,ts=>stP n k (x4 n ts)
def zaJ:Fn:=⟨1,3,(.seq (.expr (.call 2 (.pair (.var 0) (.pair (.lit (.int 5)) .unit)))) (.seq (.asg 1 (.lst (.pair (.lst .unit) .unit))) (.seq (.forv 2 (.rng (.lit (.int 0)) (.var 0) (.lit (.int 1))) (.asg 1 (.call 6 (.pair (.var 1) (.pair (.var 0) .unit))))) (.ret (.blt .sorted (.pair (.var 1) .unit))))))⟩
theorem zeI {n:Nat}:∀ (xs:List Dat) (ts:List (List (List Int))) (o2:Option Dat) (lv:List Lv),(∀j,j < xs.length->cl 6 [zt (stP n j ts),.int n]=.ok (zt (stP n (j+1) ts))) ->
  ∃o2' lv',zD (fun x de lv=>exD lev cl (.asg 1 (.call 6 (.pair (.var 1) (.pair (.var 0) .unit)))) (de.set 2 (some x)) (lv.set 2 (lvF x))) xs [some (.int n),some (zt ts),o2] lv=.next [some (.int n),some (zt (stP n xs.length ts)),o2'] lv'
 | [],ts,o2,lv,_=>⟨o2,lv,rfl⟩
 | x::xs,ts,o2,lv,h=>by
  have h0:cl 6 [zt ts,.int n]=.ok (zt (x4 n ts)):=h 0 (by simp)
  obtain ⟨lv1,e1⟩:∃lv',xK lev 1 (.call 6 (.pair (.var 1) (.pair (.var 0) .unit))) (zt (x4 n ts)) [some (.int n),some (zt ts),some x] (lv.set 2 (lvF x))=.next [some (.int n),some (zt (x4 n ts)),some x] lv':=by
   unfold xK
   split
   .exact ⟨_,rfl⟩
   .exact ⟨_,rfl⟩
  obtain ⟨o2',lv2,e2⟩:=zeI xs (x4 n ts) (some x) lv1 (fun j hj=>h (j+1) (by rw[List.length_cons];lia))
  refine ⟨o2',lv2,?_⟩
  unfold zD
  simp only[List.set_cons_succ,List.set_cons_zero,xx,yf,zp,zo,zl,zj,ziD,zi,h0,ziA,e1]
  exact e2
theorem qJ {n:Nat}(hn:n<=100)(h2:cl 2 [.int n,.int 5]=.ok .non)(h6:∀j,j < n->cl 6 [zt (stP n j [[]]),.int n]=.ok (zt (stP n (j+1) [[]]))){ss:List Dat}(hs:yq .sorted [zt (stP n n [[]])]=.ok (.lst ss))(hlev:lev k=.no):yY lev cl k zaJ [.int n]=.ok (.lst ss):=by
 obtain ⟨lv1,e1⟩:∃lv',xK lev 1 (.lst (.pair (.lst .unit) .unit)) (zt [[]]) [some (.int n),none,none] [lvF (.int n),.full,.full]=.next [some (.int n),some (zt [[]]),none] lv':=by
  unfold xK
  split
  .exact ⟨_,rfl⟩
  .exact ⟨_,rfl⟩
 obtain ⟨o2,lv2,e2⟩:=zeI (lev:=lev) (cl:=cl) (n:=n) (yc 0 1 n) [[]] none lv1 (fun j hj=>h6 j (by simpa using hj))
 rw[gH] at e2
 unfold yY
 rw[if_pos (by rfl),hlev]
 show xL .no (exD lev cl (.seq (.expr (.call 2 (.pair (.var 0) (.pair (.lit (.int 5)) .unit)))) (.seq (.asg 1 (.lst (.pair (.lst .unit) .unit))) (.seq (.forv 2 (.rng (.lit (.int 0)) (.var 0) (.lit (.int 1))) (.asg 1 (.call 6 (.pair (.var 1) (.pair (.var 0) .unit))))) (.ret (.blt .sorted (.pair (.var 1) .unit)))))) [some (.int n),none,none] [lvF (.int n),.full,.full])=_
 have s0:exD lev cl (.expr (.call 2 (.pair (.var 0) (.pair (.lit (.int 5)) .unit)))) [some (.int n),none,none] [lvF (.int n),.full,.full]=.next [some (.int n),none,none] [lvF (.int n),.full,.full]:=by
  show (evD cl (.call 2 (.pair (.var 0) (.pair (.lit (.int 5)) .unit))) [some (.int n),none,none]).bindS _=_
  simp only[yf,zp,zo,zC,zj,ziD,zi,h2,ziA]
 have s1:evD cl (.lst (.pair (.lst .unit) .unit)) [some (.int n),none,none]=.ok (zt [[]]):=by
  simp only[xW,zp,zo,ziD,zi]
  rw[yj (show ([]:List Dat).length<=lim by simp)]
  simp only[ziD,zi]
  exact yj (show ([.lst []]:List Dat).length<=lim by unfold lim;simp)
 rw[xY,s0,zB,xY,xx,s1]
 simp only[ziA,e1,zB]
 rw[jG,wU]
 simp only[wS,zC,zj,ziD,zcV (show n<=1000 by lia),ziA,kf,ke,wT,if_true]
 rw[e2,zB,jF]
 simp only[yO,zp,zo,zl,zj,ziD,zi,hs,ziA]
 simp[xL,qy]
end
end Lib
end Vl
end Mini
set_option maxHeartbeats 0
namespace R66
open Mini
noncomputable def T:List Fn:=[f0,f1,f2,f3,f4,f5,f6,f7,f8,f9,f10,f11,f12,f13,f14,f15]
open Vl Vl.Lib
noncomputable def zen:Nat->Lv:=fun _=>.no
noncomputable abbrev CD (d:Nat):=kN zen T d
theorem ve {d k:Nat}{f:Fn}(h:T[k]?=some f)(ds:List Dat):CD (d+1) k ds=yY zen (CD d) k f ds:=by
 show kN zen T (d+1) k ds=_
 unfold kN
 rw[h]
theorem zf9 {a b:List Int}(h:a≠b)(h1:ltW a b=false):ltW b a=true:=by
 rw[vN] at *
 cases e:HT.lexLt b a with
 | true=>rfl
 | false=>exact absurd (L2.y4 a b h1 e) h
theorem qK {a b:List Int}(h1:ltW a b=true):ltW b a=false:=by
 rw[vN] at *
 cases e:HT.lexLt b a with
 | false=>rfl
 | true=>have:=L2.yh a b a h1 e;rw[L2.yg] at this;cases this
theorem kl {α:Type}{p q:List Int×α}(hpq:ltW p.1 q.1=true):∀l:List (List Int×α),zq p (zq q l)=zq q (zq p l)
 | []=>by
  show (if ltW p.1 q.1 then [p,q] else _)=(if ltW q.1 p.1 then _ else p::zq q [])
  rw[hpq,qK hpq];rfl
 | r::l=>by
  have e1:∀x:List Int×α,zq x (r::l)=if ltW x.1 r.1 then x::r::l else r::zq x l:=fun x=>rfl
  have e2:∀ (x y:List Int×α) (l:List (List Int×α)),zq x (y::l)=if ltW x.1 y.1 then x::y::l else y::zq x l:=fun _ _ _=>rfl
  rw[e1 q,e1 p]
  cases hq:ltW q.1 r.1 with
  | true =>
   have hp:ltW p.1 r.1=true:=by
    rw[vN] at *
    exact L2.yh _ _ _ hpq hq
   rw[hp,if_pos rfl,if_pos rfl,e2 p q,hpq,if_pos rfl,e2 q p,qK hpq,if_neg Bool.false_ne_true,e1 q,hq,if_pos rfl]
  | false =>
   rw[if_neg Bool.false_ne_true,e2 p r]
   cases hp:ltW p.1 r.1 with
   | true=>rw[if_pos rfl,if_pos rfl,e2 q p,qK hpq,if_neg Bool.false_ne_true,e1 q,hq,if_neg Bool.false_ne_true]
   | false=>rw[if_neg Bool.false_ne_true,if_neg Bool.false_ne_true,e2 q r,hq,if_neg Bool.false_ne_true,kl hpq l]
theorem zeo {α:Type}{p q:List Int×α}(h:p.1≠q.1)(l:List (List Int×α)):zq p (zq q l)=zq q (zq p l):=by
 cases e:ltW p.1 q.1 with
 | true=>exact kl e l
 | false=>exact (kl (zf9 h e) l).symm
noncomputable def ww {α:Type}:List (List Int×α)->List (List Int×α)->List (List Int×α)
 | acc,[]=>acc
 | acc,p::r=>vv (zq p acc) fun a=>ww a r
noncomputable def gQ {α:Type}(acc:List (List Int×α)):List (List Int×α)->List (List Int×α)
 | []=>acc
 | p::r=>zq p (gQ acc r)
theorem kW {α:Type}:∀z:List (List Int×α),gQ [] z=zu z
 | []=>rfl
 | p::r=>by rw[zX,<- kW r];rfl
theorem gR {α:Type}{p:List Int×α}:∀ {z:List (List Int×α)}(acc:List (List Int×α)),(∀q∈z,p.1≠q.1)->gQ (zq p acc) z=zq p (gQ acc z)
 | [],_,_=>rfl
 | q::z,acc,h=>by
  show zq q (gQ (zq p acc) z)=zq p (zq q (gQ acc z))
  rw[gR acc fun x hx=>h x (by simp[hx]),zeo (h q (by simp))]
theorem gS {α:Type}:∀ (z acc:List (List Int×α)),(z.map Prod.fst).Nodup->ww acc z=gQ acc z
 | [],_,_=>rfl
 | p::z,acc,h=>by
  rw[List.map_cons,List.nodup_cons] at h
  show vv (zq p acc) (fun a=>ww a z)=zq p (gQ acc z)
  rw[yC,gS z _ h.2,gR acc fun q hq e=>h.1 (by rw[e];exact List.mem_map.mpr ⟨q,hq,rfl⟩)]
theorem km {α:Type}:∀ (z acc:List (List Int×α)),(ww acc z).Perm (z++acc)
 | [],acc=>.refl _
 | p::z,acc=>by
  show (vv (zq p acc) fun a=>ww a z).Perm _
  rw[yC]
  refine (km z _).trans ?_
  exact ((vO p acc).append_left z).trans List.perm_middle
noncomputable def zaK (ks:List (List Int))(xs:List Dat):Option (List Dat):=vw ks fun ks=>vv (ks.zip xs) fun z=>vv (ww [] z) fun s=>if yy (s.map Prod.fst) then some (s.map Prod.snd) else none
theorem zcY {ks:List (List Int)}{xs ys:List Dat}(h:zaK ks xs=some ys):yo Dat ks xs=some ys:=by
 unfold zaK at h
 rw[x9,yC,yC] at h
 rw[xp]
 cases z:yy ((ww [] (ks.zip xs)).map Prod.fst) with
 | false=>rw[z] at h;cases h
 | true =>
  have nd:((ks.zip xs).map Prod.fst).Nodup:=by
   have e:((ww [] (ks.zip xs)).map Prod.fst).Nodup:=by
    unfold List.Nodup
    rw[List.pairwise_map]
    refine (jl z).1.imp fun {a b} c e=>?_
    rw[e,L2.yg] at c;cases c
   have p:=km (ks.zip xs) []
   rw[List.append_nil] at p
   exact (p.map Prod.fst).nodup_iff.mp e
  have e:zu (ks.zip xs)=ww [] (ks.zip xs):=by rw[gS _ _ nd,kW]
  rw[e];exact h
noncomputable def jL (ds:List Dat):Rd:=match (yB ds).bind fun ks=>zaK ks ds with
 | some es=>zQ es
 | none=>.no
theorem qL {ds:List Dat}{y:Dat}(h:jL ds=.ok y):yq .sorted [.lst ds]=.ok y:=by
 unfold jL at h
 show (match (yB ds).bind fun ks=>yo Dat ks ds with | some es=>zQ es | none=>.no)=_
 cases e:(yB ds).bind fun ks=>zaK ks ds with
 | none=>rw[e] at h;cases h
 | some es =>
  rw[e] at h
  obtain ⟨ks,k1,k2⟩:=Option.bind_eq_some_iff.mp e
  have e2:((yB ds).bind fun ks=>yo Dat ks ds)=some es:=by rw[k1];exact zcY k2
  rw[e2];exact h
noncomputable def unR:List Dat->Option (List (List Int))
 | []=>some []
 | .lst xs::r=>match zP xs,unR r with
  | some k,some ks=>some (k::ks)
  | _,_=>none
 | _=>none
noncomputable def unT:List Dat->Option (List (List (List Int)))
 | []=>some []
 | .lst xs::r=>match unR xs,unT r with
  | some k,some ks=>some (k::ks)
  | _,_=>none
 | _=>none
noncomputable def zep (k:List (List (List Int))->Bool):List (List (List Int))->List (List (List Int))->Bool
 | [],acc=>k acc.reverse
 | x::xs,acc=>vw x fun y=>zep k xs (y::acc)
noncomputable def eqI:List Int->List Int->Bool
 | [],[]=>true
 | x::xs,y::ys=>decide (x=y) && eqI xs ys
 | _,_=>false
noncomputable def zbr:List (List Int)->List (List Int)->Bool
 | [],[]=>true
 | x::xs,y::ys=>eqI x y && zbr xs ys
 | _,_=>false
noncomputable def zaL:List (List (List Int))->List (List (List Int))->Bool
 | [],[]=>true
 | x::xs,y::ys=>zbr x y && zaL xs ys
 | _,_=>false
noncomputable def isT:Rd->Bool
 | .ok (.bl b)=>b
 | _=>false
noncomputable def jM:Nat->List (List Int)
 | 1=>[[1]]
 | 2=>[[1,0],[0,1]]
 | 3=>[[1,0,0],[0,1,0],[0,0,1],[1,-1,1]]
 | 4=>[[1,0,0,0],[0,1,0,0],[0,0,1,0],[1,-1,1,0],[0,0,0,1],[1,-1,0,1],[1,0,-1,1],[0,1,-1,1]]
 | 5=>[[1,0,0,0,0],[0,1,0,0,0],[0,0,1,0,0],[1,-1,1,0,0],[0,0,0,1,0],[1,-1,0,1,0],[1,0,-1,1,0],[0,1,-1,1,0],[0,0,0,0,1],[1,-1,0,0,1],[1,0,-1,0,1],[0,1,-1,0,1],[1,0,0,-1,1],[0,1,0,-1,1],[0,0,1,-1,1],[1,-1,1,-1,1]]
 | _=>[]
noncomputable def wkN (n:Nat):List Dat:=(vc (jM n) n [([],List.replicate n 0)]).map fun p=>tab p.1
noncomputable def zcZ (t:List (List Int)):Bool:=match t with
 | r::rs=>decide (rs.length<=90) && (rs.all (fun q=>decide (q.length<=100)) && (decide (r.length<=100) && !r.isEmpty))
 | []=>false
noncomputable def zga (n:Nat)(x:List (List (List Int))):Bool:=x.all zcZ && decide (x.length<=1000) && !x.isEmpty && (n == 5 || isT (yL .eq (zt x) (zt x)))
noncomputable def zeq (n:Nat)(x:List (List (List Int))):Bool:=match jL (wkN n) with
 | .ok (.lst b)=>match unT b with
  | some y=>zaL y x
  | none=>false
 | _=>false
noncomputable def chk (n:Nat):Bool:=match yq .sorted [zt (stP n n [[]])] with
 | .ok (.lst a)=>match unT a with
  | some x=>zep (fun x=>zga n x && zeq n x) x []
  | none=>false
 | _=>false
noncomputable def kX (n:Nat):Bool:=(List.range (n+1)).all fun j=>decide ((vc (jM n) j [([],List.replicate n 0)]).length<=1000)
noncomputable def zer:Nat->List (List Int)
 | 0=>[[]]
 | n+1=>(zer n).flatMap fun v=>[0::v,1::v]
noncomputable def rOk (r:Rd)(x:List (List Int)):Bool:=match r with
 | .ok (.lst l)=>match unR l with
  | some y=>zbr y x
  | none=>false
 | _=>false
noncomputable def vOk (n:Nat):Bool:=(zer n).all fun s=>rOk (CD 4 5 [row s]) (rbP s)
noncomputable def tOk (n:Nat)(t:List (List Int)):Bool:=decide (t.length<=5) && t.all (fun r=>decide (r.length=n)) && (zV n t).all (fun s=>decide (s=0) || decide (s=1)) && decide ((rbP (zV n t)).length<=50)
noncomputable def qM (n:Nat):Bool:=(List.range n).all fun j=>(stP n j [[]]).all (tOk n) && decide ((stP n j [[]]).length<=1000)
theorem zaM:∀ {xs:List Dat}{k:List Int},zP xs=some k->xs=k.map Dat.int
 | [],k,h=>by cases h;rfl
 | d::xs,k,h=>by
  cases d with
  | int i =>
   have h':(zP xs).map (i::·)=some k:=h
   obtain ⟨k',e,rfl⟩:=Option.map_eq_some_iff.mp h'
   rw[zaM e];rfl
  | _=>cases h
theorem qN:∀ {xs:List Dat}{k:List (List Int)},unR xs=some k->xs=k.map row
 | [],k,h=>by cases h;rfl
 | d::xs,k,h=>by
  cases d with
  | lst es =>
   have h':(match zP es,unR xs with
    | some k,some ks=>some (k::ks)
    | _,_=>none)=some k:=h
   cases e1:zP es with
   | none=>simp only[e1] at h';cases h'
   | some a =>
    cases e2:unR xs with
    | none=>simp only[e1,e2] at h';cases h'
    | some b =>
     simp only[e1,e2] at h'
     cases h'
     rw[zaM e1,qN e2];rfl
  | _=>cases h
theorem qO:∀ {xs:List Dat}{k:List (List (List Int))},unT xs=some k->xs=k.map tab
 | [],k,h=>by cases h;rfl
 | d::xs,k,h=>by
  cases d with
  | lst es =>
   have h':(match unR es,unT xs with
    | some k,some ks=>some (k::ks)
    | _,_=>none)=some k:=h
   cases e1:unR es with
   | none=>simp only[e1] at h';cases h'
   | some a =>
    cases e2:unT xs with
    | none=>simp only[e1,e2] at h';cases h'
    | some b =>
     simp only[e1,e2] at h'
     cases h'
     rw[qN e1,qO e2];rfl
  | _=>cases h
theorem zaN (k:List (List (List Int))->Bool):∀ (xs acc:List (List (List Int))),zep k xs acc=k (acc.reverse++xs)
 | [],acc=>by show k acc.reverse=_;rw[List.append_nil]
 | x::xs,acc=>by
  show vw x (fun y=>zep k xs (y::acc))=_
  rw[x9,zaN k xs (x::acc)]
  simp
theorem zc0:∀ {x y:List Int},eqI x y=true->x=y
 | [],[],_=>rfl
 | [],_::_,h=>by cases h
 | _::_,[],h=>by cases h
 | a::x,b::y,h=>by
  have h':(decide (a=b) && eqI x y)=true:=h
  rw[Bool.and_eq_true] at h'
  rw[of_decide_eq_true h'.1,zc0 h'.2]
theorem jN:∀ {x y:List (List Int)},zbr x y=true->x=y
 | [],[],_=>rfl
 | [],_::_,h=>by cases h
 | _::_,[],h=>by cases h
 | a::x,b::y,h=>by
  have h':(eqI a b && zbr x y)=true:=h
  rw[Bool.and_eq_true] at h'
  rw[zc0 h'.1,jN h'.2]
theorem gT:∀ {x y:List (List (List Int))},zaL x y=true->x=y
 | [],[],_=>rfl
 | [],_::_,h=>by cases h
 | _::_,[],h=>by cases h
 | a::x,b::y,h=>by
  have h':(zbr a b && zaL x y)=true:=h
  rw[Bool.and_eq_true] at h'
  rw[jN h'.1,gT h'.2]
theorem zgb {r:Rd}(h:isT r=true):r=.ok (.bl true):=by
 unfold isT at h
 split at h
 .rw[h]
 .cases h
set_option tactic.hygienic true in
theorem zes {n:Nat}(h:chk n=true):∃ts,yq .sorted [zt (stP n n [[]])]=.ok (zt ts)/\zga n ts=true/\zeq n ts=true:=by
 unfold chk at h
 split at h
 .next a e =>
  split at h
  .next x ex =>
   rw[zaN,Bool.and_eq_true] at h
   refine ⟨x,?_,h⟩
   rw[e,qO ex];rfl
  .cases h
 .cases h
set_option tactic.hygienic true in
theorem zc1 {n:Nat}{ts:List (List (List Int))}(h:zeq n ts=true):yq .sorted [.lst (wkN n)]=.ok (zt ts):=by
 unfold zeq at h
 split at h
 .next b e =>
  split at h
  .next y ey =>
   rw[qL e,qO ey,gT h];rfl
  .cases h
 .cases h
theorem gW:∀ (n:Nat) (s:List Int),s.length=n->(∀x∈s,x=0\/x=1)->s∈zer n
 | 0,s,h,_=>by
  cases s with
  | nil=>exact List.mem_singleton.mpr rfl
  | cons _ _=>cases h
 | n+1,s,h,hx=>by
  cases s with
  | nil=>cases h
  | cons x s =>
   have:=gW n s (Nat.succ.inj h) fun y hy=>hx y (by simp[hy])
   show x::s∈(zer n).flatMap fun v=>[0::v,1::v]
   rw[List.mem_flatMap]
   refine ⟨s,this,?_⟩
   rcases hx x (by simp) with rfl | rfl
   .simp
   .simp
set_option tactic.hygienic true in
theorem zgc {r:Rd}{x:List (List Int)}(h:rOk r x=true):r=.ok (tab x):=by
 unfold rOk at h
 split at h
 .next l =>
  split at h
  .next y ey=>rw[qN ey,jN h];rfl
  .cases h
 .cases h
theorem H3 (d:Nat){n:Nat}(t:List (List Int))(ht:t.length<=100)(hr:∀r∈t,r.length=n)(c:Nat)(hc:c < n):CD (d+1) 3 [tab t,.int (c:Int)]=.ok (row (jK t c)):=by
 rw[ve (f:=zhB) rfl];exact zem ht (fun r q=>by rw[hr r q];exact hc) rfl
theorem H7 {n:Nat}(hn:n<=5)(hv:vOk n=true)(ht:qM n=true)(h2:CD 5 2 [.int n,.int 5]=.ok .non){ss:List Dat}(hs:yq .sorted [zt (stP n n [[]])]=.ok (.lst ss)):CD 6 7 [.int n]=.ok (.lst ss):=by
 rw[ve (d:=5) (f:=zaJ) rfl]
 refine qJ (by lia) h2 (fun j hj=>?_) hs rfl
 have q:=List.all_eq_true.mp ht j (List.mem_range.mpr hj)
 rw[Bool.and_eq_true,List.all_eq_true] at q
 obtain ⟨q1,q2⟩:=q
 have hj':stP n (j+1) [[]]=x4 n (stP n j [[]]):=by
  have:∀ (j:Nat) (ts:List (List (List Int))),stP n (j+1) ts=x4 n (stP n j ts):=by
   intro j
   induction j with
   | zero=>intro ts;rfl
   | succ j ih=>intro ts;exact ih (x4 n ts)
  exact this j _
 rw[hj',ve (d:=4) (f:=fLT) rfl]
 have key:∀t∈stP n j [[]],(t.length<=100/\∀r∈t,r.length=n)/\CD 4 5 [row (zV n t)]=.ok (tab (rbP (zV n t)))/\(rbP (zV n t)).length<=50:=fun t htt=>by
  have z:=q1 t htt
  unfold tOk at z
  rw[Bool.and_eq_true,Bool.and_eq_true,Bool.and_eq_true,List.all_eq_true,List.all_eq_true] at z
  obtain ⟨⟨⟨z1,z2⟩,z3⟩,z4⟩:=z
  refine ⟨⟨by have:=of_decide_eq_true z1;lia,fun r hr=>of_decide_eq_true (z2 r hr)⟩,?_,of_decide_eq_true z4⟩
  refine zgc (List.all_eq_true.mp hv _ (gW n _ (by simp[zV]) fun x hx=>?_))
  have:=z3 x hx
  rw[Bool.or_eq_true] at this
  exact this.imp of_decide_eq_true of_decide_eq_true
 exact zf8 (by lia) (fun t t1 t2 c hc=>H3 3 t t1 t2 c hc) (fun t htt=>(key t htt).1) (of_decide_eq_true q2) (fun t htt=>(key t htt).2) rfl
theorem H9 (d:Nat)(x:Dat):CD (d+1) 9 [x]=.ok (.bl (isInt x)):=by rw[ve (f:=qF) rfl];exact zbf x
theorem H14 (d:Nat)(A:List (List Int))(hA:A.length<=100)(hr:∀x∈A,x.length<=100):CD (d+2) 14 [tab A,tab A]=.ok (.bl true):=by rw[ve (f:=zcT 9) rfl];exact zbq (H9 d) A hA hr
theorem H8 (d:Nat)(ns:List Int)(i:Nat):∃c:Int,CD (d+1) 8 [.scr ns,.int i]=.ok (.int c):=by rw[ve (f:=zaG) rfl];exact zcK ns i
theorem H10 (d:Nat)(c:Int):∃n:Nat,1<=n/\n<=5/\CD (d+1) 10 [.int c]=.ok (.int n):=by
 rw[ve (f:=f10) rfl]
 have e1:yw .mod (.int c) (.int 16)=.ok (.int (c % 16)):=qD _ _ (by decide)
 have e2:yw .fdiv (.int c) (.int 16)=.ok (.int (c / 16)):=zd8 _ _ (by decide) (by decide)
 have e3:yw .mod (.int (c / 16)) (.int 4)=.ok (.int (c / 16 % 4)):=qD _ _ (by decide)
 by_cases q:c % 16=5
 .exact ⟨5,by lia,by lia,by simp[yY,f10,yN,yX,xL,e1,q]⟩
 .refine ⟨(1+c / 16 % 4).toNat,by lia,by lia,?_⟩
  have:(((1+c / 16 % 4).toNat:Nat):Int)=1+c / 16 % 4:=by lia
  rw[this]
  simp[yY,f10,yN,yX,xL,e1,e2,e3,q]
theorem a1:CD 5 11 [.int 1]=.ok (tab (jM 1)):=by kernel_rfl
theorem a2:CD 5 11 [.int 2]=.ok (tab (jM 2)):=by kernel_rfl
theorem a3:CD 5 11 [.int 3]=.ok (tab (jM 3)):=by kernel_rfl
theorem a4:CD 5 11 [.int 4]=.ok (tab (jM 4)):=by kernel_rfl
theorem a5:CD 5 11 [.int 5]=.ok (tab (jM 5)):=by kernel_rfl
theorem bb1:kX 1=true:=by kernel_rfl
theorem bb2:kX 2=true:=by kernel_rfl
theorem bb3:kX 3=true:=by kernel_rfl
theorem bb4:kX 4=true:=by kernel_rfl
theorem bb5:kX 5=true:=by kernel_rfl
theorem v1:vOk 1=true:=by kernel_rfl
theorem s1:qM 1=true:=by kernel_rfl
theorem z1:CD 5 2 [.int 1,.int 5]=.ok .non:=by kernel_rfl
theorem v2:vOk 2=true:=by kernel_rfl
theorem s2:qM 2=true:=by kernel_rfl
theorem z2:CD 5 2 [.int 2,.int 5]=.ok .non:=by kernel_rfl
theorem v3:vOk 3=true:=by kernel_rfl
theorem s3:qM 3=true:=by kernel_rfl
theorem z3:CD 5 2 [.int 3,.int 5]=.ok .non:=by kernel_rfl
theorem v4:vOk 4=true:=by kernel_rfl
theorem s4:qM 4=true:=by kernel_rfl
theorem z4:CD 5 2 [.int 4,.int 5]=.ok .non:=by kernel_rfl
theorem v5:vOk 5=true:=by kernel_rfl
theorem s5:qM 5=true:=by kernel_rfl
theorem z5:CD 5 2 [.int 5,.int 5]=.ok .non:=by kernel_rfl
theorem g1:chk 1=true:=by kernel_rfl
theorem g2:chk 2=true:=by kernel_rfl
theorem g3:chk 3=true:=by kernel_rfl
theorem g4:chk 4=true:=by kernel_rfl
theorem g5:chk 5=true:=by kernel_rfl
noncomputable def zgd (n:Nat)(cs:List (List Int)):Bool:=decide (cs.length<=90) && cs.all fun l=>decide (l.length=n)
theorem zc2 {n:Nat}{cs:List (List Int)}(h:zgd n cs=true):zcU n cs:=by
 unfold zgd at h
 rw[Bool.and_eq_true,List.all_eq_true] at h
 exact ⟨of_decide_eq_true h.1,fun l hl=>of_decide_eq_true (h.2 l hl)⟩
set_option tactic.hygienic true in
theorem wx (ns:List Int){n:Nat}(hn:0 < n)(hn5:n<=5){c0 c1:Int}(h0:CD 6 8 [.scr ns,.int 0]=.ok (.int c0))(h1:CD 6 8 [.scr ns,.int 1]=.ok (.int c1))(h10:CD 6 10 [.int c0]=.ok (.int n))
  (ha:CD 5 11 [.int n]=.ok (tab (jM n))) (hc:zgd n (jM n)=true) (hb:kX n=true) (hg:chk n=true) (hv:vOk n=true) (hst:qM n=true) (h2:CD 5 2 [.int n,.int 5]=.ok .non):∃m,exS (zY T 6) zel [some (.rol (ns.map Wd.int)),none,none,none,none] []=.ret (.bl true) m:=by
 obtain ⟨ts,hs,k1,k2⟩:=zes hg
 have h7:CD 6 7 [.int n]=.ok (zt ts):=H7 hn5 hv hst h2 hs
 have h13:CD 6 13 [.int n]=.ok (zt ts):=by
  rw[ve (d:=5) (f:=zeF 11) rfl]
  refine zcW hn (by lia) (zc2 hc) ha (fun j hj=>?_) (zc1 k2) rfl
  have:=List.all_eq_true.mp hb j (List.mem_range.mpr (by lia))
  exact of_decide_eq_true this
 unfold zga at k1
 rw[Bool.and_eq_true,Bool.and_eq_true,Bool.and_eq_true,List.all_eq_true] at k1
 obtain ⟨⟨⟨k3,k4⟩,k5⟩,k6⟩:=k1
 have hr:∀t∈ts,(∃i r rs,t=(i::r)::rs/\r.length<=100)/\t.length<=100/\∀x∈t,x.length<=100:=fun t ht=>by
  have this:=k3 t ht
  unfold zcZ at this
  split at this
  .next r rs =>
   rw[Bool.and_eq_true,Bool.and_eq_true,Bool.and_eq_true,List.all_eq_true] at this
   obtain ⟨w1,w2,w3,w4⟩:=this
   have w1:=of_decide_eq_true w1
   have w3:=of_decide_eq_true w3
   cases r with
   | nil=>cases w4
   | cons i r =>
    refine ⟨⟨i,r,rs,rfl,by simp at w3;lia⟩,by simp;lia,fun x hx=>?_⟩
    rcases List.mem_cons.mp hx with rfl | hx
    .exact w3
    .exact of_decide_eq_true (w2 x hx)
  .cases this
 refine zhA (gF zen T 6).r ns h0 h1 h10 h13 h7 (fun t ht=>H14 4 t (hr t ht).2.1 (hr t ht).2.2) ?_ (of_decide_eq_true k4) (fun t ht=>(hr t ht).1) ?_
 .cases ts with
  | nil=>cases k5
  | cons _ _=>simp
 .rw[Bool.or_eq_true] at k6
  rcases k6 with q | q
  .have:n=5:=eq_of_beq q
   exact .inl (by lia)
  .exact .inr (zgb q)
theorem zet (ns:List Int):∃m,zY T 7 15 [.rol (ns.map Wd.int)] []=.ok (.bl true) m:=by
 obtain ⟨c0,h0⟩:=H8 5 ns 0
 obtain ⟨c1,h1⟩:=H8 5 ns 1
 obtain ⟨n,hn1,hn5,h10⟩:=H10 5 c0
 have key:∃m,exS (zY T 6) zel [some (.rol (ns.map Wd.int)),none,none,none,none] []=.ret (.bl true) m:=by
  rcases (by lia:n=1\/n=2\/n=3\/n=4\/n=5) with rfl | rfl | rfl | rfl | rfl
  .exact wx ns (by lia) (by lia) h0 h1 h10 a1 rfl bb1 g1 v1 s1 z1
  .exact wx ns (by lia) (by lia) h0 h1 h10 a2 rfl bb2 g2 v2 s2 z2
  .exact wx ns (by lia) (by lia) h0 h1 h10 a3 rfl bb3 g3 v3 s3 z3
  .exact wx ns (by lia) (by lia) h0 h1 h10 a4 rfl bb4 g4 v4 s4 z4
  .exact wx ns (by lia) (by lia) h0 h1 h10 a5 rfl bb5 g5 v5 s5 z5
 obtain ⟨m,e⟩:=key
 refine ⟨m,?_⟩
 show vx (zY T 6) f15 [.rol (ns.map Wd.int)] []=_
 unfold vx
 rw[if_pos (by rfl)]
 rw[show exS (zY T 6) f15.body (yT f15 [.rol (ns.map Wd.int)]) []=.ret (.bl true) m from e]
theorem pure (ns:List Int)(_:ns.length<=63):∃m,zY (D.map (·.fn)) 7 15 [.rol (ns.map Wd.int)] []=.ok (.bl true) m:=zet ns
end R66
namespace Mini
open PySem PySem.Spec PyProof.Rows L2
theorem zhE {q:Program}{loose:List Str}{XP:(Str->Option Value)->Heap->Prop}{r:PySem.W.RowW}{d:DefRec}{kwd:List (Str×Expr)}{run:Value->List Value->Sem Value}{K:Params->PySem.W.Frag}{as:List Addr}{n t:Nat}(e:∀P,as=(K P).map (·.1))
  (h:PySem.W.WalkO q loose XP (fun w h=>(K w.params).In h) r d kwd run):PySem.W.WalkX q loose XP (PySem.W.X.obsZ as) (PySem.W.X.valZ K n t) r d kwd run :=
 fun w s₀ s₁ mg mb G y a o pm cd doc dV kV h1 h2 h3 h4 h5 h6 args vals as' L p1 p2 p3 p4 p5=>h w s₀ s₁ mg mb G (PySem.W.InK.keeps (K:=K) w _ _ (PySem.W.X.z_facts e y).2.1 L.keeps) a o pm cd doc dV kV h1 h2 h3 h4 h5 h6 args vals as' p1 p2 p3 p4 p5
end Mini
open PySem PySem.W PyProof.Rows
set_option maxRecDepth 100000 in
theorem PySem.Challenge.cw_loopgyre_k66_states_listed_holds : PySem.Challenge.rw_loopgyre_k66_states_listed.Holds := by
 w_on;o_law;z_head;(case hw=>w_witness2)
 k_fill
 refine Mini.zhE (fun _=>rfl) ?_
 refine Mini.zg2 (l:=PySem.Challenge.rw_loopgyre_k66_states_listed) (D:=R66.D) (C:=R66.C) (k:=7) (i:=15) (dl:=R66.d15) (x := "_law_script") (n:=63) rfl (by decide) rfl ⟨rfl,by decide,by decide⟩ (fun w h Y=>Y) rfl R66.zg3 R66.bnd rfl rfl rfl ?F R66.pure
 case F =>
  intro w mg fa h KX G hmg
  refine' R66.mk KX G ?_ ?_ ?_ ?_ ?_ ?_ ?_ ?_ ?_ ?_ ?_ ?_ ?_ ?_ ?_ ?_ ?xqe0 ?xqz
  all_goals try ((refine' R66.dk KX G ?g ?l ?c ?k);(case g=>k_is);(case l=>k_is);(case c=>k_is);(case k=>k_is))
  (case xqz=>refine R66.zk ?_ ?_ ?_ ?_ ?_ ?_ ?_ ?_ ?_ ?_ ?_ ?_ ?_ ?_ ?_ ?_ ?_ <;> k_is)
  (case xqe0=>k_is)
