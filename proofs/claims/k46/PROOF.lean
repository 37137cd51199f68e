import PyProof.Rows.All
import Wide.All
import OpenK.AllK
import Wide.FinOn
import Lean
import PyProof.EqAt
import PyProof.EqKinds
import PyProof.NeKinds
import PyProof.TupleCall
import OpenK.KOwn
import PyProof.WalkInts
import KE.KIsAll
import KE.RegKIsAll
import PyProof.ExcAttrAll.ValueError
import OpenK.KMake
import PyProof.ExcInit
import PySem.Challenge.RW_loopgyre_k46_links_never_cross
set_option Elab.async false
set_option linter.all false
set_option maxRecDepth 100000
set_option genSizeOf false
set_option maxHeartbeats 0
set_option tactic.hygienic false
set_option bootstrap.genMatcherCode false
set_option compiler.extract_closed false
set_option backward.eqns.nonrecursive false
set_option backward.eqns.deepRecursiveSplit false
noncomputable section
namespace L2
open PySem PySem.Spec PyProof.Rows
abbrev Key:=Sum Int Str
noncomputable def js:Key->Value->Bool
 | .inl k,v=>Value.isInt k v
 | .inr x,v=>Value.isStrOf x v
noncomputable def keyH (w:World):Key->Int
 | .inl k=>hashInt k
 | .inr x=>hashStr w x
theorem zP:∀ {k:Key}{v:Value},js k v=true->(∃i t,k=Sum.inl i/\v=Value.int i t)\/(∃x t,k=Sum.inr x/\v=Value.str x t)
 | .inl i,v,h=>by
  obtain ⟨t,e⟩:=Value.isInt_shape (k:=i) (v:=v) h;exact .inl ⟨i,t,rfl,e⟩
 | .inr x,v,h=>by
  obtain ⟨t,e⟩:=Value.isStrOf_shape (x:=x) (v:=v) h;exact .inr ⟨x,t,rfl,e⟩
theorem zbs (i:Int)(t:Tok):js (.inl i) (.int i t)=true:=by simp[js,Value.isInt]
theorem jt (x:Str)(t:Tok):js (.inr x) (.str x t)=true:=by simp[js,Value.isStrOf]
theorem zfZ (a b:Int):decide ((Sum.inl a:Key)=Sum.inl b)=(a == b):=by
 by_cases e:a=b
 .subst e;simp
 .have h:¬(Sum.inl a:Key)=Sum.inl b:=λq=>e (Sum.inl.inj q);rw[decide_eq_false h];exact (beq_eq_false_iff_ne.mpr e).symm
theorem zf0 (a b:Str):decide ((Sum.inr a:Key)=Sum.inr b)=decide (a=b):=by
 by_cases e:a=b
 .subst e;simp
 .have h:¬(Sum.inr a:Key)=Sum.inr b:=λq=>e (Sum.inr.inj q);rw[decide_eq_false h,decide_eq_false e]
theorem zf1 (a:Int)(b:Str):decide ((Sum.inl a:Key)=Sum.inr b)=false:=decide_eq_false (λq=>nomatch q)
theorem zf2 (a:Str)(b:Int):decide ((Sum.inr a:Key)=Sum.inl b)=false:=decide_eq_false (λq=>nomatch q)
noncomputable def zQ (prog:Program)(w:World):PySem.KeyKind prog w Key where
 is:=js
 hash:=keyH w
 inj:=λv a b ha hb=>by
  rcases zP ha with ⟨i,t,rfl,rfl⟩ | ⟨x,t,rfl,rfl⟩
  .rcases zP hb with ⟨j,u,rfl,e⟩ | ⟨y,u,rfl,e⟩
   .injection e with e1 _;rw[e1]
   .exact nomatch e
  .rcases zP hb with ⟨j,u,rfl,e⟩ | ⟨y,u,rfl,e⟩
   .exact nomatch e
   .injection e with e1 _;rw[e1]
 byValue:=λk v h=>by
  rcases zP h with ⟨i,t,rfl,rfl⟩ | ⟨x,t,rfl,rfl⟩ <;> rfl
 pyHash:=λhv h=>by
  rcases zP hv with ⟨i,t,rfl,rfl⟩ | ⟨x,t,rfl,rfl⟩
  .exact wpAny_pyHash_int h
  .exact wpAny_pyHash_str h
 eqBool:=λhu hv h=>by
  rcases zP hu with ⟨i,t,rfl,rfl⟩ | ⟨x,t,rfl,rfl⟩
  .rcases zP hv with ⟨j,u,rfl,rfl⟩ | ⟨y,u,rfl,rfl⟩
   .rw[zfZ] at h;exact wpAny_eqBool_int h
   .rw[zf1] at h;exact SeqAt.EqAt.int_str i t y u _ _ _ _ h
  .rcases zP hv with ⟨j,u,rfl,rfl⟩ | ⟨y,u,rfl,rfl⟩
   .rw[zf2] at h;exact SeqAt.EqAt.str_int x t j u _ _ _ _ h
   .rw[zf0] at h;exact wpAny_eqBool_str h
 «strs»:=λk x t v h=>by
  rcases zP h with ⟨i,u,rfl,e⟩ | ⟨y,u,rfl,e⟩
  .exact nomatch e
  .injection e with e1 _
   subst e1;cases v <;> rfl
theorem gD (prog:Program)(w:World)(i:Int)(t:Tok):(zQ prog w).is (.inl i) (.int i t)=true:=zbs i t
theorem gE (prog:Program)(w:World)(x:Str)(t:Tok):(zQ prog w).is (.inr x) (.str x t)=true:=jt x t
set_option genInjectivity false in
inductive V where
 | non | bl (b:Bool) | int (i:Int) | str (x:Str) | byt (b:Array UInt8) | flt (b:UInt64) | ref (a:Addr) | ty (n:String)
 deriving DecidableEq
def RelV:V->Value->Prop
 | .non,u=>u=Value.none
 | .bl b,u=>u=Value.bool b
 | .int i,u=>∃t,u=Value.int i t
 | .str x,u=>∃t,u=Value.str x t
 | .byt b,u=>∃t,u=Value.bytes b t
 | .flt b,u=>∃t,u=Value.float b t
 | .ref a,u=>u=Value.ref a
 | .ty n,u=>u=Value.type n
abbrev Vals:List V->List Value->Prop:=Paired RelV
theorem Vals.length {xs:List V}{us:List Value}(r:Vals xs us):xs.length=us.length:=Paired.length r
theorem Vals.get:∀ {xs:List V}{us:List Value}{i:Nat}{x:V},Vals xs us->xs[i]?=some x->∃u,us[i]?=some u/\RelV x u
 | _,_,_,_,.nil,e=>by simp at e
 | _,_,0,_,.cons r _,e=>by simp at e;subst e;exact ⟨_,rfl,r⟩
 | _,_,i+1,x,.cons _ t,e=>by
  obtain ⟨u,h1,h2⟩:=Vals.get (i:=i) (x:=x) t (by simpa using e);exact ⟨u,by simpa using h1,h2⟩
theorem Vals.append:∀ {xs ys:List V}{us ws:List Value},Vals xs us->Vals ys ws->Vals (xs++ys) (us++ws)
 | _,_,_,_,.nil,s=>s
 | _,_,_,_,.cons r t,s=>.cons r (Vals.append t s)
def RelO:Option V->Option Value->Prop
 | some v,some u=>RelV v u
 | none,none=>True
 | _,_=>False
def KV {κ:Type}:List (κ×V)->List (κ×Value)->Prop:=Paired λ(p:κ×V) (q:κ×Value)=>p.1=q.1/\RelV p.2 q.2
noncomputable def kV:Key->V
 | .inl i=>.int i
 | .inr x=>.str x
set_option genInjectivity false in
inductive HO where
 /-- a list -/
 | lst (xs:List V)
 /-- a tuple (never changes) -/
 | tup (xs:List V)
 /-- a dict whose keys are ints and texts;one whose keys are tuples of ints and texts (the empty one is both) -/
 | dK (kvs:List (Key×V)) | dT (kvs:List (List Key×V))
 /-- a set of ints: its members,its size -/
 | set (S:Int->Bool) (n:Nat)
 /-- an instance of the class at C,its dict at dx,its attributes -/
 | ins (C dx:Addr) (fs:List (Str×V))
 /-- the dict of the instance at x -/
 | own (x:Addr)
 /-- the dict of an exception -/
 | xd (fs:List (Str×V))
 /-- a bound method,f of x -/
 | met (f x:Addr)
 /-- a range object lo,lo+1,.. below hi -/
 | rng (lo hi:Int)
 /-- a thing that is known to the object (the script;a dict while a loop walks it): read,never written while it is so -/
 | frz (o:Obj) (u:HO)
 /-- a code object's table -/
 | tbl (ps:Array Value)
 /-- any other thing,by what is true of its one object (a def of one's own: SetO a S n:=HO.ext λh=>..) -/
 | ext (φ:Heap->Prop)
abbrev Hp:=Addr->Option HO
noncomputable def upd (H:Hp)(a:Addr)(o:HO):Hp:=λb=>if b=a then some o else H b
theorem zh {H:Hp}{a:Addr}{o:HO}:upd H a o a=some o:=by unfold upd;rw[if_pos rfl]
theorem zg {H:Hp}{a b:Addr}{o:HO}(h:b≠a):upd H a o b=H b:=by unfold upd;rw[if_neg h]
theorem zq {H:Hp}{a b:Addr}{o:HO}(h:H a=some o)(h':H b=none):a≠b:=by
 intro e;subst e;rw[h] at h';cases h'
section
variable (P:Program)(w:World)
def ObjOk (H:Hp)(h:Heap)(a:Addr):HO->Prop
 | .lst xs=>xs.length<=sizeLine/\∃ (its:List Value) (n:Nat),Vals xs its/\h.get? a=some { cls:=.type "list",data:=.seq its.toArray n }
 | .tup xs=>xs.length<=sizeLine/\∃its:List Value,Vals xs its/\IsTup h a its.toArray
 | .dK kvs=>kvs.length<=sizeLine/\(a == sysModules)=false/\∃vs,KV kvs vs/\h.DictOf (zQ P w) a vs
 | .dT kvs=>kvs.length<=sizeLine/\(a == sysModules)=false/\∃xs:List (List Key×Addr×Value),
   Paired (λ(p:List Key×V) (q:List Key×Addr×Value)=>p.1=q.1/\H q.2.1=some (.tup (p.1.map kV))/\RelV p.2 q.2.2) kvs xs /\
   ∃o es ep,h.get? a=some o/\o.ExactDict/\o.data=.dict es ep/\es.toList=xs.map (entryOfKey (tupleKind (zQ P w)))/\(xs.map (·.1)).Nodup
 | .set S n=>h.SetOf (intKind P w) a S n
 | .ins C dx fs=>H dx=some (.own a)/\fs.length<=1000/\dx≠a/\h.get? a=some (PySem.W.instObj C dx) /\
   ∃mA,h.Ns1 dx mA/\(∀f,RelO (fs.lookup f) (mA f))/\PySem.Within mA (fs.map (·.1))
 | .own _=>∃o,h.get? a=some o
 | .xd fs=>∃mA,h.Ns1 a mA/\∀f,RelO (fs.lookup f) (mA f)
 | .rng lo hi=>∃t u v,h.get? a=some { cls:=.type "range",data:=.fields #[.int lo t,.int hi u,.int 1 v] }
 | .frz o u=>h.get? a=some o/\ObjOk H h a u
 | .tbl ps=>h.get? a=some { cls:=.none,data:=.fields ps }
 | .met f x=>h.get? a=some (PySem.W.methodObj (.ref f) (.ref x))
 | .ext φ=>φ h/\(∃o,h.get? a=some o)/\∀h1 h2:Heap,φ h1->(∀o,h1.get? a=some o->h2.get? a=some o)->φ h2
def HOk (H:Hp)(h:Heap):Prop:=∀a o,H a=some o->ObjOk P w H h a o
end
section
variable {P:Program}{w:World}{H H':Hp}{h h':Heap}{a:Addr}{o:HO}
theorem ObjOk.lt (x:ObjOk P w H h a o):a < h.objs.size:=by
 cases o with
 | lst xs=>obtain ⟨_,_,_,_,e⟩:=x;exact Heap.lt_size e
 | tup xs=>obtain ⟨_,_,_,p⟩:=x;exact p.lt
 | dK kvs=>obtain ⟨_,_,_,_,o,_,_,e,_⟩:=x;exact Heap.lt_size e
 | dT kvs=>obtain ⟨_,_,_,_,o,_,_,e,_⟩:=x;exact Heap.lt_size e
 | set S n=>obtain ⟨o,_,_,_,e,_⟩:=x;exact Heap.lt_size e
 | ins C dx fs=>obtain ⟨_,_,_,e,_⟩:=x;exact Heap.lt_size e
 | own y=>obtain ⟨_,e⟩:=x;exact Heap.lt_size e
 | xd fs=>obtain ⟨_,⟨_,_,_,e,_⟩,_⟩:=x;exact Heap.lt_size e
 | rng lo hi=>obtain ⟨_,_,_,e⟩:=x;exact Heap.lt_size e
 | frz ob u=>obtain ⟨e,_⟩:=x;exact Heap.lt_size e
 | tbl ps=>exact Heap.lt_size (show h.get? a=some _ from x)
 | met f y=>exact Heap.lt_size (show h.get? a=some _ from x)
 | ext φ=>obtain ⟨_,⟨_,e⟩,_⟩:=x;exact Heap.lt_size e
theorem zj3 {α β:Type}{F G:α->β->Prop}:∀ {l₁:List α}{l₂:List β},Paired F l₁ l₂->(∀a b,F a b->G a b)->Paired G l₁ l₂
 | _,_,.nil,_=>.nil
 | _,_,.cons r t,f=>.cons (f _ _ r) (zj3 t f)
theorem ObjOk.stay (x:ObjOk P w H h a o)(k:∀b u,(b=a\/H b=some (.own a))->h.get? b=some u->h'.get? b=some u)
  (ho:∀b,H b=some (.own a)->H' b=some (.own a)) (ht:∀b xs,H b=some (.tup xs)->H' b=some (.tup xs)):ObjOk P w H' h' a o:=by
 induction o with
 | lst xs=>obtain ⟨z,its,n,r,e⟩:=x;exact ⟨z,its,n,r,k _ _ (.inl rfl) e⟩
 | tup xs=>obtain ⟨z,its,r,ob,e,c⟩:=x;exact ⟨z,its,r,ob,k _ _ (.inl rfl) e,c⟩
 | dK kvs=>obtain ⟨z,y,vs,r,ob,es,ep,e,c⟩:=x;exact ⟨z,y,vs,r,ob,es,ep,k _ _ (.inl rfl) e,c⟩
 | dT kvs =>
  obtain ⟨z,y,xs,r,ob,es,ep,e,c⟩:=x;exact ⟨z,y,xs,zj3 r λp q z=>⟨z.1,ht _ _ z.2.1,z.2.2⟩,ob,es,ep,k _ _ (.inl rfl) e,c⟩
 | set S n=>obtain ⟨ob,es,ep,t,e,c⟩:=x;exact ⟨ob,es,ep,t,k _ _ (.inl rfl) e,c⟩
 | ins C dx fs =>
  obtain ⟨d,z,ne,e,mA,⟨od,es,ep,e2,c⟩,r⟩:=x;exact ⟨ho _ d,z,ne,k _ _ (.inl rfl) e,mA,⟨od,es,ep,k _ _ (.inr d) e2,c⟩,r⟩
 | own y=>obtain ⟨ob,e⟩:=x;exact ⟨ob,k _ _ (.inl rfl) e⟩
 | xd fs=>obtain ⟨mA,⟨od,es,ep,e,c⟩,r⟩:=x;exact ⟨mA,⟨od,es,ep,k _ _ (.inl rfl) e,c⟩,r⟩
 | rng lo hi=>obtain ⟨t,u,v,e⟩:=x;exact ⟨t,u,v,k _ _ (.inl rfl) e⟩
 | frz ob u ih=>obtain ⟨e,q⟩:=x;exact ⟨k _ _ (.inl rfl) e,ih q⟩
 | tbl ps =>
  have e:h.get? a=some { cls:=.none,data:=.fields ps }:=x;show h'.get? a=some { cls:=.none,data:=.fields ps };exact k a _ (.inl rfl) e
 | met f y =>
  have e:h.get? a=some (PySem.W.methodObj (.ref f) (.ref y)):=x;show h'.get? a=some (PySem.W.methodObj (.ref f) (.ref y));exact k a _ (.inl rfl) e
 | ext φ=>obtain ⟨p,⟨o,e⟩,st⟩:=x;exact ⟨st _ _ p λo q=>k _ _ (.inl rfl) q,⟨o,k _ _ (.inl rfl) e⟩,st⟩
theorem HOk.lt (x:HOk P w H h)(e:H a=some o):a < h.objs.size:=(x a o e).lt
theorem HOk.fresh (x:HOk P w H h)(e:h.objs.size<=a):H a=none:=by
 cases q:H a with
 | none=>rfl
 | some u=>exact absurd (Nat.lt_of_lt_of_le (x.lt q) e) (Nat.lt_irrefl _)
theorem HOk.kept (x:HOk P w H h)(k:∀b u,h.get? b=some u->h'.get? b=some u):HOk P w H h':=λa o e =>
 (x a o e).stay (λb u _ q=>k b u q) (λ_ q=>q) λ_ _ q=>q
theorem HOk.laid (x:HOk P w H h)(k:∀b u,h.get? b=some u->h'.get? b=some u)(hp:h.objs.size<=a)(new:ObjOk P w (upd H a o) h' a o):HOk P w (upd H a o) h':=λb u e=>by
 have hn:=x.fresh hp;by_cases hb:b=a
 .subst hb;rw[zh] at e;cases e;exact new
 .rw[zg hb] at e;exact (x b u e).stay (λc v _ q=>k c v q) (λc q=>by rw[zg (zq q hn)];exact q) λc xs q=>by rw[zg (zq q hn)];exact q
end
def Rd (H:Hp)(a:Addr)(u:HO):Prop:=H a=some u\/∃o,H a=some (.frz o u)
theorem Rd.ok {P:Program}{w:World}{H:Hp}{h:Heap}{a:Addr}{u:HO}(r:Rd H a u)(x:HOk P w H h):ObjOk P w H h a u:=by
 rcases r with r | ⟨o,r⟩
 .exact x a u r
 .obtain ⟨_,q⟩:=x a _ r;exact q
def Mut:Option HO->Prop
 | some (.lst _)=>True
 | some (.dK _)=>True
 | some (.dT _)=>True
 | some (.set _ _)=>True
 | some (.ins _ _ _)=>True
 | some (.ext _)=>True
 | _=>False
section
variable {P:Program}{w:World}{H:Hp}{h h':Heap}{x e:Addr}{o':HO}
theorem HOk.write (ok:HOk P w H h)(mu:Mut (H x))(he:e=x\/H e=some (.own x))(k:∀b u,b≠e->h.get? b=some u->h'.get? b=some u)(heo:∃u,h'.get? e=some u)
  (new:ObjOk P w (upd H x o') h' x o'):HOk P w (upd H x o') h':=λb u q=>by
 have nown:∀c y,H c=some (.own y)->c≠x:=λc y r z=>by subst z;rw[r] at mu;exact mu
 have ntup:∀c xs,H c=some (.tup xs)->c≠x:=λc xs r z=>by subst z;rw[r] at mu;exact mu
 by_cases hb:b=x
 .subst hb;rw[zh] at q;cases q;exact new
 .rw[zg hb] at q;by_cases hbe:b=e
  .have q':H b=some (.own x):=by
    rcases he with z | z
    .exact absurd (hbe.trans z) hb
    .rw[hbe];exact z
   rw[q] at q';cases q';obtain ⟨v,hv⟩:=heo;exact ⟨v,by rw[hbe];exact hv⟩
  .refine (ok b u q).stay (λc v hc r=>k c v ?_ r) (λc r=>by rw[zg (nown c b r)];exact r) λc xs r=>by rw[zg (ntup c xs r)];exact r
   rcases hc with rfl | hc
   .exact hbe
   .rintro rfl;rcases he with z | z
    .exact nown c b hc z
    .rw[hc] at z;cases z;exact hb rfl
end
structure Un (fs ex:List Addr)(H H':Hp)(h h':Heap):Prop where
 keep:∀b o,h.get? b=some o->H b=none->b∉fs->b∉ex->h'.get? b=some o
 slot:∀b o,h.get? b=some o->H b=none->b∈fs->b∉ex->∃sl,h'.get? b=some { o with slots:=sl }
 free:∀b o,h.get? b=some o->H b=none->b∉ex->H' b=none
 there:∀b o,h.get? b=some o->b∉ex->∃o',h'.get? b=some o'
 tups:∀b xs,H b=some (.tup xs)->H' b=some (.tup xs)
 frzs:∀b o u,H b=some (.frz o u)->H' b=some (.frz o u)
 tbls:∀b ps,H b=some (.tbl ps)->∃more,H' b=some (.tbl (ps++more))
section
variable {fs ex:List Addr}{H H1:Hp}{h h1 h':Heap}{a x e:Addr}{o:HO}
theorem Un.any (u:Un fs ex H H1 h h1){b:Addr}{ob:Obj}(q:h.get? b=some ob)(n:H b=none)(hx:b∉ex):∃sl,h1.get? b=some { ob with slots:=sl }:=by
 by_cases hb:b∈fs
 .exact u.slot b ob q n hb hx
 .exact ⟨ob.slots,u.keep b ob q n hb hx⟩
theorem Un.kept (k:∀b u,h.get? b=some u->h'.get? b=some u):Un fs ex H H h h' :=
 ⟨λb ob q _ _ _=>k b ob q,λb ob q _ _ _=>⟨ob.slots,k b ob q⟩,λ_ _ _ n _=>n,λb ob q _=>⟨ob,k b ob q⟩,λ_ _ q=>q,λ_ _ _ q=>q,λ_ ps q=>⟨#[],by rw[q];simp⟩⟩
theorem Un.refl:Un fs ex H H h h:=Un.kept λ_ _ q=>q
theorem Un.laid (k:∀b u,h.get? b=some u->h'.get? b=some u)(hp:h.objs.size<=a)(hn:H a=none):Un fs ex H (upd H a o) h h' where
 keep:=λb u q _ _ _=>k b u q
 slot:=λb u q _ _ _=>⟨u.slots,k b u q⟩
 free:=λb u q n _=>by rw[zg (Nat.ne_of_lt (Nat.lt_of_lt_of_le (Heap.lt_size q) hp))];exact n
 there:=λb u q _=>⟨u,k b u q⟩
 tups:=λb xs q=>by rw[zg (zq q hn)];exact q
 frzs:=λb u xs q=>by rw[zg (zq q hn)];exact q
 tbls:=λb ps q=>⟨#[],by rw[zg (zq q hn),q];simp⟩
theorem Un.write (mu:Mut (H x))(he:e=x\/H e=some (.own x))(k:∀b u,b≠e->h.get? b=some u->h'.get? b=some u)(heo:∃u,h'.get? e=some u):Un fs ex H (upd H x o) h h':=by
 have hx:∀b,H b=none->b≠x:=λb n z=>by subst z;rw[n] at mu;exact mu
 have hb:∀b,H b=none->b≠e:=λb n z=>by
  subst z;rcases he with r | r
  .exact hx b n r
  .rw[n] at r;cases r
 have hm:∀b u,H b=some u->¬ Mut (some u)->b≠x:=λb u q nm z=>by subst z;rw[q] at mu;exact nm mu
 refine ⟨λb u q n _ _=>k b u (hb b n) q,λb u q n _ _=>⟨u.slots,k b u (hb b n) q⟩,λb u q n _=>by rw[zg (hx b n)];exact n,λb u q _=>?_,
  λb xs q=>by rw[zg (hm b _ q λz=>z)];exact q,λb u xs q=>by rw[zg (hm b _ q λz=>z)];exact q,λb ps q=>⟨#[],by rw[zg (hm b _ q λz=>z),q];simp⟩⟩
 by_cases hbe:b=e
 .subst hbe;exact heo
 .exact ⟨u,k b u hbe q⟩
end
noncomputable def trk (h:Heap)(H:Hp):List Addr:=(List.range h.objs.size).filter λa=>(H a).isSome
noncomputable def jP (h:Heap)(H:Hp):Heap:=PySem.W.hideAll h (trk h H)
theorem zbt (h:Heap)(H:Hp):(jP h H).objs.size=h.objs.size:=PySem.W.hideAll_size _ _
theorem zb4 {h:Heap}{H:Hp}{b:Addr}{o:Obj}(e:h.get? b=some o)(n:H b=none):(jP h H).get? b=some o :=
 PySem.W.hideAll_get _ e λhm=>by
  have q:(H b).isSome=true:=(List.mem_filter.mp hm).2;rw[n] at q;simp at q
theorem zd2 {h:Heap}{H:Hp}{b:Addr}{o:Obj}(e:(jP h H).get? b=some o):h.get? b=some o/\H b=none:=by
 have e':h.get? b=some o:=PySem.W.of_hideAll (trk h H) e;refine ⟨e',?_⟩;cases q:H b with
 | none=>rfl
 | some x =>
  have hm:b∈trk h H:=List.mem_filter.mpr ⟨List.mem_range.mpr (Heap.lt_size e'),by simp[q]⟩;have z:(jP h H).get? b=none:=PySem.W.hideAll_none (trk h H) hm;rw[z] at e;cases e
structure Mod (K:PySem.W.Frag)(mg:Str->Option Value)(base:Heap):Prop where
 kin:K.In base
 glob:base.Ns mainGlobals mg
 blt:∃mb,base.Ns builtinsNs mb/\∀x:Str,x ≠ "__name__" -> mb x=bootBuiltins x
 nolimit:base.NoLimit
set_option genInjectivity false in
structure Cx where
 prog:Program
 w:World
 K:PySem.W.Frag
 mg:Str->Option Value
 base:Heap
 A:Around
 N:List Str
 s₀:Shared
 H₀:Hp
 env:Env
 outer:List Env
 stack:List Env
 ex:List Addr
 fn:Str->Bool
 calm:Bool
 pn:List (Addr×Obj)
 xe:Value->Shared->Prop
noncomputable def frs (l:List Env):List Addr:=l.filterMap (·.frame)
noncomputable abbrev Cx.fs (X:Cx):List Addr:=frs X.outer
def Vis (sc:Scope)(x:Str):Prop:=sc.names.lookup x=some .local\/sc.names.lookup x=some .cell\/sc.names.lookup x=some .free
def Loc (sc:Scope)(x:Str):Prop:=sc.names.lookup x=some .local\/sc.names.lookup x=some .cell
def Look (env:Env)(h:Heap)(m:Str->Option Value)(x:Str)(u:Value):Prop :=
 (env.kindOf x=some .local/\m x=some u)\/((env.kindOf x=some .cell\/env.kindOf x=some .free)/\∃c,env.cells.lookup x=some c/\h.IsCell c (some u))
structure Cx.Ok (X:Cx):Prop where
 mod:Mod X.K X.mg X.base
 kind:X.env.scope.kind=.function
 glob:X.env.globals=mainGlobals
 blt:X.env.builtins=builtinsNs
 above:X.s₀.heap.objs.size<=X.env.locals
 inj:∀x y c,X.env.cells.lookup x=some c->X.env.cells.lookup y=some c->x=y
 has:∀x,(X.env.kindOf x=some .cell\/X.env.kindOf x=some .free)->∃c,X.env.cells.lookup x=some c
 cab:∀x c,X.fn x=true->X.env.cells.lookup x=some c->X.s₀.heap.objs.size<=c
 hd:X.calm=true->X.A.handled=none
 frames:X.A.frames=some X.stack
 stk:X.stack=X.outer\/(X.stack=X.env::X.outer/\X.env.frame=some X.env.locals)
 exf:∀b∈X.ex,b≠X.env.locals/\∀x c,X.env.cells.lookup x=some c->c≠b
 bs:∀b o,X.base.get? b=some o->X.s₀.heap.get? b=some o/\X.H₀ b=none
 bsz:X.base.objs.size<=X.s₀.heap.objs.size
 noex:∀b o,X.base.get? b=some o->b∉X.ex
 exfs:∀b∈X.ex,b∉X.fs
 funs:X.s₀.heap.FunFrames X.base X.outer
 frf:∀b∈X.fs,X.H₀ b=none
structure Inv (X:Cx)(pins:List (Addr×Obj))(σ:List (Option V))(H:Hp)(s:Shared):Prop where
 ok:X.Ok
 os:s.os=X.s₀.os
 bare:AllBare s.gens
 base:Un X.fs X.ex X.H₀ H X.s₀.heap s.heap
 loc:∃m,s.heap.Ns X.env.locals m/\∀ (i:Nat) (x:Str) (v:V),X.N[i]?=some x->σ[i]?=some (some v)->Vis X.env.scope x->∃u,RelV v u/\Look X.env s.heap m x u
 cell:∀x c,X.env.cells.lookup x=some c->∃v,s.heap.IsCell c v
 free:H X.env.locals=none
 freeC:∀x c,X.env.cells.lookup x=some c->H c=none
 pin:∀p∈X.pn++pins,s.heap.get? p.1=some p.2/\H p.1=none/\p.1≠X.env.locals/\p.1∉X.fs/\∀v,p.2.data≠.cell v
 hok:HOk X.prog X.w H s.heap
 len:σ.length=X.N.length
section
variable {X:Cx}{pins:List (Addr×Obj)}{σ:List (Option V)}{H H':Hp}{s:Shared}{h':Heap}
theorem Cx.Ok.nofr (ok:X.Ok){b:Addr}{o:Obj}(e:X.base.get? b=some o):b∉X.fs:=λhb=>by
 have:=(ok.funs.mem hb).1;rw[e] at this;cases this
theorem Inv.bs (I:Inv X pins σ H s):∀b o,X.base.get? b=some o->s.heap.get? b=some o/\H b=none:=λb o e =>
 ⟨I.base.keep b o (I.ok.bs b o e).1 (I.ok.bs b o e).2 (I.ok.nofr e) (I.ok.noex b o e),I.base.free b o (I.ok.bs b o e).1 (I.ok.bs b o e).2 (I.ok.noex b o e)⟩
theorem Inv.bk (I:Inv X pins σ H s):∀b o,X.base.get? b=some o->s.heap.get? b=some o:=λb o e=>(I.bs b o e).1
theorem Inv.mod (I:Inv X pins σ H s):Mod X.K X.mg X.base:=I.ok.mod
theorem Inv.kIn (I:Inv X pins σ H s):X.K.In s.heap:=I.ok.mod.kin.keeps I.bk
theorem Inv.lt (I:Inv X pins σ H s):X.env.locals < s.heap.objs.size:=let ⟨_,hn,_⟩:=I.loc;hn.lt
theorem Inv.sz (I:Inv X pins σ H s):X.s₀.heap.objs.size<=s.heap.objs.size:=Nat.le_trans I.ok.above (Nat.le_of_lt I.lt)
theorem Inv.nofs (I:Inv X pins σ H s){a:Addr}(h:s.heap.objs.size<=a):a∉X.fs:=λhb=>by
 obtain ⟨_,o,ho,_⟩:=I.ok.funs.mem hb;exact absurd (Nat.lt_of_lt_of_le (Heap.lt_size ho) (Nat.le_trans I.sz h)) (Nat.lt_irrefl _)
theorem Inv.cne (I:Inv X pins σ H s):∀x c,X.env.cells.lookup x=some c->c≠X.env.locals:=λx c e z=>by
 obtain ⟨v,o,ho,hd⟩:=I.cell x c e;obtain ⟨m,⟨o',es,ep,ho',hd',_⟩,_⟩:=I.loc;rw[z,ho'] at ho;cases ho;rw[hd'] at hd;cases hd
theorem Inv.funs (I:Inv X pins σ H s):s.heap.FunFrames X.base X.outer:=by
 have all:∀ (l:List Env),(∀b∈frs l,b∈X.fs)->X.s₀.heap.FunFrames X.base l->s.heap.FunFrames X.base l:=by
  intro l
  induction l with
  | nil=>intro _ _;trivial
  | cons env r ih =>
   intro hs hl;obtain ⟨hk,⟨L,o,hf,hn,ho,hd⟩,hr⟩:=hl;have hL:L∈X.fs:=hs L (by unfold frs;rw[List.filterMap_cons,hf];exact List.mem_cons_self);obtain ⟨sl,e⟩:=I.base.slot L o ho (I.ok.frf L hL) hL λz=>I.ok.exfs L z hL;exact ⟨hk,⟨L,_,hf,hn,e,hd⟩,ih (λb hb=>hs b (by unfold frs;rw[List.filterMap_cons,hf];exact List.mem_cons_of_mem _ hb)) hr⟩
 exact all X.outer (λ_ hb=>hb) I.ok.funs
theorem Inv.stack (I:Inv X pins σ H s):s.heap.FunFrames X.base X.stack:=by
 rcases I.ok.stk with e | ⟨e,hf⟩
 .rw[e];exact I.funs
 .rw[e];obtain ⟨m,hn,_⟩:=I.loc;refine .cons (by rw[I.ok.kind];decide) hf hn ?_ I.funs;exact Heap.get?_none_of_le (Nat.le_trans I.ok.bsz I.ok.above)
theorem Inv.stkSub (I:Inv X pins σ H s):∀b∈frs X.stack,b∈X.env.locals::X.fs:=λb hb=>by
 rcases I.ok.stk with e | ⟨e,hf⟩
 .rw[e] at hb;exact List.mem_cons_of_mem _ hb
 .rw[e] at hb;unfold frs at hb;rw[List.filterMap_cons,hf] at hb;exact hb
theorem Inv.stkFree (I:Inv X pins σ H s):∀b∈frs X.stack,H b=none:=λb hb=>by
 rcases List.mem_cons.mp (I.stkSub b hb) with e | hb
 .rw[e];exact I.free
 .obtain ⟨_,o,ho,_⟩:=I.ok.funs.mem hb;exact I.base.free b o ho (I.ok.frf b hb) λz=>I.ok.exfs b z hb
theorem Inv.step {g':Array GenState}{t':Nat}{d':Drawn}{ch:List Addr}(I:Inv X pins σ H s)
  (hch:∀b∈ch,(b∈X.ex\/X.s₀.heap.objs.size<=b)/\b≠X.env.locals/\(∀x c,X.env.cells.lookup x=some c->c≠b)/\∀p∈X.pn++pins,p.1≠b)
  (keep:∀b o,b≠X.env.locals->b∉X.fs->b∉ch->s.heap.get? b=some o->H b=none->h'.get? b=some o)
  (slot:∀b o,b≠X.env.locals->b∈X.fs->b∉ch->s.heap.get? b=some o->H b=none->∃sl,h'.get? b=some { o with slots:=sl }) (free:∀b o,b∉ch->s.heap.get? b=some o->H b=none->H' b=none)
  (there:∀b o,b∉ch->s.heap.get? b=some o->∃o',h'.get? b=some o')
  (tups:∀b xs,H b=some (.tup xs)->H' b=some (.tup xs)) (frzs:∀b o u,H b=some (.frz o u)->H' b=some (.frz o u)) (tbls:∀b ps,H b=some (.tbl ps)->∃more,H' b=some (.tbl (ps++more)))
  (ns:∀m,s.heap.Ns X.env.locals m->h'.Ns X.env.locals m) (hok:HOk X.prog X.w H' h') (hg:AllBare g') :
  Inv X pins σ H' { s with heap:=h',gens:=g',drawn:=d',toks:=t' }:=by
 have neL:∀b o,X.s₀.heap.get? b=some o->b≠X.env.locals:=λb o e=>Nat.ne_of_lt (Nat.lt_of_lt_of_le (Heap.lt_size e) I.ok.above);have neC:∀b o,X.s₀.heap.get? b=some o->b∉X.ex->b∉ch:=λb o e hx hb=>by
  rcases (hch b hb).1 with z | z
  .exact hx z
  .exact absurd (Nat.lt_of_lt_of_le (Heap.lt_size e) z) (Nat.lt_irrefl _)
 have cellK:∀x c,X.env.cells.lookup x=some c->∀v,s.heap.IsCell c v->h'.IsCell c v:=λx c e v ⟨o,ho,hd⟩=>by
  have nch:c∉ch:=λz=>(hch c z).2.2.1 x c e rfl;by_cases hc:c∈X.fs
  .obtain ⟨sl,q⟩:=slot c o (I.cne x c e) hc nch ho (I.freeC x c e);exact ⟨_,q,hd⟩
  .exact ⟨o,keep c o (I.cne x c e) hc nch ho (I.freeC x c e),hd⟩
 refine ⟨I.ok,I.os,hg,⟨λb o e n hb hx=>?_,λb o e n hb hx=>?_,λb o e n hx=>?_,λb o e hx=>?_,λb xs e=>tups b xs (I.base.tups b xs e),λb o xs e=>frzs b o xs (I.base.frzs b o xs e),λb ps e=>?_⟩,?_,λx c e=>?_,?_,λx c e=>?_,λp hp=>?_,hok,I.len⟩
 .exact keep b o (neL b o e) hb (neC b o e hx) (I.base.keep b o e n hb hx) (I.base.free b o e n hx)
 .obtain ⟨sl,e1⟩:=I.base.slot b o e n hb hx;obtain ⟨sl',e2⟩:=slot b _ (neL b o e) hb (neC b o e hx) e1 (I.base.free b o e n hx);exact ⟨sl',e2⟩
 .obtain ⟨o',e1⟩:=I.base.there b o e hx;exact free b o' (neC b o e hx) e1 (I.base.free b o e n hx)
 .obtain ⟨o',e1⟩:=I.base.there b o e hx;exact there b o' (neC b o e hx) e1
 .obtain ⟨m1,e1⟩:=I.base.tbls b ps e;obtain ⟨m2,e2⟩:=tbls b _ e1;exact ⟨m1++m2,by rw[e2,Array.append_assoc]⟩
 .obtain ⟨m,hn,hl⟩:=I.loc;refine ⟨m,ns m hn,λi x v e1 e2 e3=>?_⟩;obtain ⟨u,r,l⟩:=hl i x v e1 e2 e3;refine ⟨u,r,?_⟩;rcases l with l | ⟨k,c,e,z⟩
  .exact .inl l
  .exact .inr ⟨k,c,e,cellK x c e _ z⟩
 .obtain ⟨v,z⟩:=I.cell x c e;exact ⟨v,cellK x c e v z⟩
 .obtain ⟨m,⟨o,_,_,ho,_⟩,_⟩:=I.loc;exact free _ o (λz=>(hch _ z).2.1 rfl) ho I.free
 .obtain ⟨v,o,ho,hd⟩:=I.cell x c e;exact free c o (λz=>(hch c z).2.2.1 x c e rfl) ho (I.freeC x c e)
 .obtain ⟨e,n,ne,nf,d⟩:=I.pin p hp;have nch:p.1∉ch:=λz=>(hch p.1 z).2.2.2 p hp rfl;exact ⟨keep p.1 p.2 ne nf nch e n,free p.1 p.2 nch e n,ne,nf,d⟩
theorem Inv.un {t':Nat}(I:Inv X pins σ H s)(u:Un X.fs [] H H' s.heap h')(hok:HOk X.prog X.w H' h'):Inv X pins σ H' { s with heap:=h',toks:=t' }:=by
 obtain ⟨m,⟨o,es,ep,ho,r⟩,_⟩:=id I.loc;obtain ⟨sl,hL⟩:=u.any ho I.free (by simp);exact I.step (g':=s.gens) (d':=s.drawn) (ch:=[]) (λ_ z=>nomatch z) (λb o _ hb _ e n=>u.keep b o e n hb (by simp)) (λb o _ hb _ e n=>u.slot b o e n hb (by simp)) (λb o _ e n=>u.free b o e n (by simp)) (λb o _ e=>u.there b o e (by simp)) u.tups u.frzs u.tbls (λm' hm=>by
  obtain ⟨o',es',ep',ho',r'⟩:=hm;rw[ho] at ho';cases ho';exact ⟨_,es',ep',hL,r'⟩) hok I.bare
theorem Inv.call {g':Array GenState}{t':Nat}{d':Drawn}{ch:List Addr}(I:Inv X pins σ H s)(u:Un (frs X.stack) ch H H' s.heap h')(hok:HOk X.prog X.w H' h')(hg:AllBare g')
  (hch:∀b∈ch,(b∈X.ex\/X.s₀.heap.objs.size<=b)/\b≠X.env.locals/\(∀x c,X.env.cells.lookup x=some c->c≠b)/\∀p∈X.pn++pins,p.1≠b) :
  Inv X pins σ H' { s with heap:=h',gens:=g',drawn:=d',toks:=t' }:=by
 obtain ⟨m,⟨o,es,ep,ho,r⟩,_⟩:=id I.loc;obtain ⟨sl,hL⟩:=u.any ho I.free λz=>(hch _ z).2.1 rfl;exact I.step (ch:=ch) hch (λb o hL hb hc e n=>u.keep b o e n (λz=>(List.mem_cons.mp (I.stkSub b z)).elim hL hb) hc) (λb o _ _ hc e n=>u.any e n hc) (λb o hc e n=>u.free b o e n hc) (λb o hc e=>u.there b o e hc) u.tups u.frzs u.tbls (λm' hm=>by
  obtain ⟨o',es',ep',ho',r'⟩:=hm;rw[ho] at ho';cases ho';exact ⟨_,es',ep',hL,r'⟩) hok hg
theorem Inv.turned {t':Nat}{it:Addr}(I:Inv X pins σ H s)(k:∀b o,b≠it->s.heap.get? b=some o->h'.get? b=some o)(hn:H it=none)(hL:it≠X.env.locals)
  (h1:it∈X.ex\/X.s₀.heap.objs.size<=it) (h2:∀x c,X.env.cells.lookup x=some c->c≠it) (h3:∀p∈X.pn++pins,p.1≠it):Inv X pins σ H { s with heap:=h',toks:=t' }:=by
 have nit:∀b u,H b=some u->b≠it:=λb u e z=>by rw[z,hn] at e;cases e
 refine I.step (g':=s.gens) (d':=s.drawn) (ch:=[it]) (λb hb=>?_) (λb o _ _ hc e _=>k b o (λz=>hc (by simp[z])) e) (λb o _ _ hc e _=>⟨o.slots,k b o (λz=>hc (by simp[z])) e⟩) (λ_ _ _ _ n=>n)
  (λb o hc e=>⟨o,k b o (λz=>hc (by simp[z])) e⟩) (λ_ _ e=>e) (λ_ _ _ e=>e) (λb ps e=>⟨#[],by rw[e];simp⟩) (λm hm=>?_) (λb u e=>?_) I.bare
 .have e:b=it:=by simpa using hb
  subst e;exact ⟨h1,hL,h2,h3⟩
 .obtain ⟨o,es,ep,ho,r⟩:=hm;exact ⟨o,es,ep,k _ o (Ne.symm hL) ho,r⟩
 .refine (I.hok b u e).stay (λc v hc q=>k c v ?_ q) (λ_ q=>q) λ_ _ q=>q;rcases hc with z | z
  .rw[z];exact nit b u e
  .exact nit c _ z
theorem Inv.tok (I:Inv X pins σ H s)(t:Nat):Inv X pins σ H { s with toks:=t }:=I.un (h':=s.heap) (t':=t) Un.refl I.hok
theorem Inv.kept {t':Nat}(I:Inv X pins σ H s)(k:∀b u,s.heap.get? b=some u->h'.get? b=some u):Inv X pins σ H { s with heap:=h',toks:=t' }:=I.un (Un.kept k) (I.hok.kept k)
theorem Inv.laid {a:Addr}{o:HO}{t':Nat}(I:Inv X pins σ H s)(k:∀b u,s.heap.get? b=some u->h'.get? b=some u)(hp:s.heap.objs.size<=a)(new:ObjOk X.prog X.w (upd H a o) h' a o):
  Inv X pins σ (upd H a o) { s with heap:=h',toks:=t' }:=I.un (Un.laid k hp (I.hok.fresh hp)) (I.hok.laid k hp new)
theorem Inv.write {x e:Addr}{o:HO}{t':Nat}(I:Inv X pins σ H s)(mu:Mut (H x))(he:e=x\/H e=some (.own x))(k:∀b u,b≠e->s.heap.get? b=some u->h'.get? b=some u)(heo:∃u,h'.get? e=some u)
  (new:ObjOk X.prog X.w (upd H x o) h' x o):Inv X pins σ (upd H x o) { s with heap:=h',toks:=t' }:=I.un (Un.write mu he k heo) (I.hok.write mu he k heo new)
theorem Inv.pins_of {pins':List (Addr×Obj)}(I:Inv X pins σ H s)(h:∀p∈pins',s.heap.get? p.1=some p.2/\H p.1=none/\p.1≠X.env.locals/\p.1∉X.fs/\∀v,p.2.data≠.cell v):Inv X pins' σ H s :=
 ⟨I.ok,I.os,I.bare,I.base,I.loc,I.cell,I.free,I.freeC,λp hp=>(List.mem_append.mp hp).elim (λz=>I.pin p (List.mem_append_left _ z)) (h p),I.hok,I.len⟩
theorem gF {N:List Str}(hN:N.Nodup){i j:Nat}{x:Str}(a:N[i]?=some x)(b:N[j]?=some x):i=j:=by
 obtain ⟨h1,e1⟩:=List.getElem?_eq_some_iff.mp a;obtain ⟨h2,e2⟩:=List.getElem?_eq_some_iff.mp b;exact (List.getElem_inj hN).mp (e1.trans e2.symm)
theorem ju {M:Model}{A:Around}{E:Value->Shared->Prop}{i:Nat}{x:Str}{v:V}{u:Value}{Q:Unit->Shared->Prop}(I:Inv X pins σ H s)(hN:X.N.Nodup)(hi:X.N[i]?=some x)(hx:Loc X.env.scope x)(r:RelV v u)
  (h:∀s',Inv X pins (σ.set i (some v)) H s'->(∃a,Heap.SameBut a s.heap s'.heap/\(a=X.env.locals\/X.env.cells.lookup x=some a))->Q () s') (hf:X.fn x=true\/X.env.scope.names.lookup x=some .local:=by first | exact .inl rfl | exact .inr rfl | assumption):wpAny M A (storeName X.env x u) Q E s:=by
 obtain ⟨m,hn,hl⟩:=id I.loc;have hcls:(X.env.scope.kind == .class || (X.env.scope.kind == .module && X.env.locals != X.env.globals))=false:=by rw[I.ok.kind];rfl
 have hiσ:i < σ.length:=by rw[I.len];exact (List.getElem?_eq_some_iff.mp hi).1
 have cne:=I.cne;have tracked:∀ {a:Addr}{h':Heap},(∃o,s.heap.get? a=some o/\H a=none)->Heap.SameBut a s.heap h'->HOk X.prog X.w H h':=λ{a h'} ha hs b ob e=>by
  obtain ⟨_,_,hfree⟩:=ha;refine (I.hok b ob e).stay (λc w' hc q=>(hs.2 c ?_).trans q) (λ_ q=>q) λ_ _ q=>q;rintro rfl;rcases hc with rfl | hc
  .rw[hfree] at e;cases e
  .rw[hfree] at hc;cases hc
 rcases hx with hk | hk
 .refine wpAny_storeName_local hk hn (λh' hn' hs=>?_) hcls;obtain ⟨oL,_,_,hoL,_⟩:=id hn;refine h _ ⟨I.ok,I.os,I.bare,⟨λb o e n hb hx=>?_,λb o e n hb hx=>?_,I.base.free,λb o e hx=>?_,I.base.tups,I.base.frzs,I.base.tbls⟩,⟨_,hn',λj y v' e1 e2 e3=>?_⟩,λy c e=>?_,I.free,I.freeC,λp hp=>?_,tracked ⟨oL,hoL,I.free⟩ hs,by simpa using I.len⟩ ⟨_,hs,.inl rfl⟩
  .exact (hs.2 b (Nat.ne_of_lt (Nat.lt_of_lt_of_le (Heap.lt_size e) I.ok.above))).trans (I.base.keep b o e n hb hx)
  .obtain ⟨sl,e1⟩:=I.base.slot b o e n hb hx;exact ⟨sl,(hs.2 b (Nat.ne_of_lt (Nat.lt_of_lt_of_le (Heap.lt_size e) I.ok.above))).trans e1⟩
  .obtain ⟨o',e1⟩:=I.base.there b o e hx;exact ⟨o',(hs.2 b (Nat.ne_of_lt (Nat.lt_of_lt_of_le (Heap.lt_size e) I.ok.above))).trans e1⟩
  .by_cases hj:j=i
   .subst hj;rw[hi] at e1;cases e1;rw[List.getElem?_set_self hiσ] at e2;cases e2;exact ⟨u,r,.inl ⟨hk,by simp⟩⟩
   .rw[List.getElem?_set_ne (Ne.symm hj)] at e2;obtain ⟨u',r',q⟩:=hl j y v' e1 e2 e3;refine ⟨u',r',?_⟩;rcases q with ⟨k,e⟩ | ⟨k,c,e,z⟩
    .refine .inl ⟨k,?_⟩;have:y≠x:=λe=>hj (gF hN e1 (e▸hi));simp[this,e]
    .exact .inr ⟨k,c,e,z.sameBut hs (cne y c e)⟩
  .obtain ⟨w',z⟩:=I.cell y c e;exact ⟨w',z.sameBut hs (cne y c e)⟩
  .obtain ⟨e,n,ne,nf,d⟩:=I.pin p hp;exact ⟨(hs.2 p.1 ne).trans e,n,ne,nf,d⟩
 .have hfn:X.fn x=true:=by
   rcases hf with z | z
   .exact z
   .rw[z] at hk;cases hk
  obtain ⟨c,hc⟩:=I.ok.has x (.inl hk);obtain ⟨w',z⟩:=I.cell x c hc;refine wpAny_storeName_cell I.ok.kind hk hc z (λh' hc' hs=>?_);obtain ⟨oc,hoc,hocd⟩:=id z;refine h { s with heap:=h' } ⟨I.ok,I.os,I.bare,⟨λb o e n hb hx=>?_,λb o e n hb hx=>?_,I.base.free,λb o e hx=>?_,I.base.tups,I.base.frzs,I.base.tbls⟩,⟨m,hn.sameBut hs (Ne.symm (cne x c hc)),λj y v' e1 e2 e3=>?_⟩,λy c' e=>?_,I.free,I.freeC,λp hp=>?_,tracked ⟨oc,hoc,I.freeC x c hc⟩ hs,by simpa using I.len⟩ ⟨c,hs,.inr hc⟩
  .exact (hs.2 b (Nat.ne_of_lt (Nat.lt_of_lt_of_le (Heap.lt_size e) (I.ok.cab x c hfn hc)))).trans (I.base.keep b o e n hb hx)
  .obtain ⟨sl,e1⟩:=I.base.slot b o e n hb hx;exact ⟨sl,(hs.2 b (Nat.ne_of_lt (Nat.lt_of_lt_of_le (Heap.lt_size e) (I.ok.cab x c hfn hc)))).trans e1⟩
  .obtain ⟨o',e1⟩:=I.base.there b o e hx;exact ⟨o',(hs.2 b (Nat.ne_of_lt (Nat.lt_of_lt_of_le (Heap.lt_size e) (I.ok.cab x c hfn hc)))).trans e1⟩
  .by_cases hj:j=i
   .subst hj;rw[hi] at e1;cases e1;rw[List.getElem?_set_self hiσ] at e2;cases e2;exact ⟨u,r,.inr ⟨.inl hk,c,hc,hc'⟩⟩
   .rw[List.getElem?_set_ne (Ne.symm hj)] at e2;obtain ⟨u',r',q⟩:=hl j y v' e1 e2 e3;refine ⟨u',r',?_⟩;rcases q with q | ⟨k,c',e,z'⟩
    .exact .inl q
    .refine .inr ⟨k,c',e,z'.sameBut hs ?_⟩;rintro rfl;exact hj (gF hN e1 (I.ok.inj _ _ _ e hc▸hi))
  .by_cases hcc:c'=c
   .subst hcc;exact ⟨_,hc'⟩
   .obtain ⟨w2,z2⟩:=I.cell y c' e;exact ⟨w2,z2.sameBut hs hcc⟩
  .obtain ⟨e,n,ne,nf,d⟩:=I.pin p hp;refine ⟨(hs.2 p.1 ?_).trans e,n,ne,nf,d⟩;intro q;rw[q,hoc] at e;have q':oc=p.2:=Option.some.inj e;exact d w' (by rw[<- q'];exact hocd)
theorem kz {M:Model}{A:Around}{E:Value->Shared->Prop}{i:Nat}{x:Str}{v:V}{u:Value}{Q:Unit->Shared->Prop}(I:Inv X pins σ H s)(hN:X.N.Nodup)(hi:X.N[i]?=some x)(hx:Loc X.env.scope x)(r:RelV v u)
  (h:∀s',Inv X pins (σ.set i (some v)) H s'->Q () s') (hf:X.fn x=true\/X.env.scope.names.lookup x=some .local:=by first | exact .inl rfl | exact .inr rfl | assumption):wpAny M A (storeName X.env x u) Q E s :=
 ju I hN hi hx r (λs' I' _=>h s' I') hf
theorem Inv.call' {s':Shared}{ch:List Addr}(I:Inv X pins σ H s)(ho:s'.os=s.os)(u:Un (frs X.stack) ch H H' s.heap s'.heap)(hok:HOk X.prog X.w H' s'.heap)(hg:AllBare s'.gens)
  (hch:∀b∈ch,(b∈X.ex\/X.s₀.heap.objs.size<=b)/\b≠X.env.locals/\(∀x c,X.env.cells.lookup x=some c->c≠b)/\∀p∈X.pn++pins,p.1≠b):Inv X pins σ H' s':=by
 obtain ⟨h',g',d',t',o'⟩:=s';have e:o'=s.os:=ho;subst e;exact I.call (g':=g') (t':=t') (d':=d') u hok hg hch
end
abbrev XK:=Value->Option Addr->Hp->Prop
abbrev St:=List (Option V)
abbrev VK:=V->Hp->Prop
abbrev TE:=St->Hp->VK->Prop
abbrev TT:=St->Hp->(Bool->Hp->Prop)->Prop
abbrev TA:=St->Hp->(List V->Hp->Prop)->Prop
set_option genInjectivity false in
structure Ends where
 nx:St->Hp->Prop
 rt:VK
 bk:St->Hp->Prop:=λ_ _=>False
 ct:St->Hp->Prop:=λ_ _=>False
abbrev TS:=Ends->St->Hp->Prop
def EP (X:Cx)(pins:List (Addr×Obj))(σ:St)(Q:VK)(u:Value)(s':Shared):Prop:=∃v H',Inv X pins σ H' s'/\RelV v u/\Q v H'
def TP (X:Cx)(pins:List (Addr×Obj))(σ:St)(Q:Bool->Hp->Prop)(b:Bool)(s':Shared):Prop:=∃H',Inv X pins σ H' s'/\Q b H'
def AP (X:Cx)(pins:List (Addr×Obj))(σ:St)(Q:List V->Hp->Prop)(us:List Value)(s':Shared):Prop:=∃vs H',Inv X pins σ H' s'/\Vals vs us/\Q vs H'
def SP (X:Cx)(pins:List (Addr×Obj))(D:Ends)(f:Flow)(s':Shared):Prop :=
 match f with
 | .next=>∃σ' H',Inv X pins σ' H' s'/\D.nx σ' H'
 | .brk=>∃σ' H',Inv X pins σ' H' s'/\D.bk σ' H'
 | .cont=>∃σ' H',Inv X pins σ' H' s'/\D.ct σ' H'
 | .ret u=>∃v σ' H',Inv X pins σ' H' s'/\RelV v u/\D.rt v H'
def PE (X:Cx)(e:Expr)(t:TE):Prop :=
 ∀ (pins:List (Addr×Obj)) (s:Shared) (σ:St) (H:Hp) (Q:VK),Inv X pins σ H s->t σ H Q->wpAny (model X.prog X.w) X.A (eval e X.env) (EP X pins σ Q) X.xe s
def PT (X:Cx)(e:Expr)(t:TT):Prop :=
 ∀ (pins:List (Addr×Obj)) (s:Shared) (σ:St) (H:Hp) (Q:Bool->Hp->Prop),Inv X pins σ H s->t σ H Q->wpAny (model X.prog X.w) X.A (isTrue e X.env (eval e X.env)) (TP X pins σ Q) X.xe s
def PW (X:Cx)(e:Expr)(t:TT):Prop :=
 ∀ (whole:Sem Value) (pins:List (Addr×Obj)) (s:Shared) (σ:St) (H:Hp) (Q:Bool->Hp->Prop),Inv X pins σ H s->t σ H Q->wpAny (model X.prog X.w) X.A (isTrue e X.env whole) (TP X pins σ Q) X.xe s
theorem PW.pt {X:Cx}{e:Expr}{t:TT}(h:PW X e t):PT X e t:=h _
def PA (X:Cx)(es:List Expr)(t:TA):Prop :=
 ∀ (pos:Pos) (pins:List (Addr×Obj)) (s:Shared) (σ:St) (H:Hp) (Q:List V->Hp->Prop),Inv X pins σ H s->t σ H Q->wpAny (model X.prog X.w) X.A (spliced (backTo pos (starEach es X.env))) (AP X pins σ Q) X.xe s
def PS (X:Cx)(st:Stmt)(t:TS):Prop :=
 ∀ (pins:List (Addr×Obj)) (s:Shared) (σ:St) (H:Hp) (D:Ends),Inv X pins σ H s->t D σ H->wpAny (model X.prog X.w) X.A (exec st X.env) (SP X pins D) X.xe s
def PSs (X:Cx)(st:List Stmt)(t:TS):Prop :=
 ∀ (pins:List (Addr×Obj)) (s:Shared) (σ:St) (H:Hp) (D:Ends),Inv X pins σ H s->t D σ H->wpAny (model X.prog X.w) X.A (execs st X.env) (SP X pins D) X.xe s
theorem thn {α:Type}{t:Sem α}{Q Q':α->Shared->Prop}{M:Model}{A:Around}{E:Value->Shared->Prop}{s:Shared}(h:wpAny M A t Q E s)(hQ:∀a s,Q a s->Q' a s):wpAny M A t Q' E s:=wpAny_mono h hQ λ_ _ x=>x
section
variable {X:Cx}
def jp (i:Nat):TE:=λσ H Q=>∃v,σ[i]?=some (some v)/\Q v H
def tC (v:V):TE:=λ_ H Q=>Q v H
theorem kA {i:Nat}{x:Str}{pos:Pos}(hN:X.N[i]?=some x)(hv:Vis X.env.scope x)(hd:(x == ("__debug__" : Str))=false:=by decide)(hcd:(x == ("__classdict__" : Str))=false:=by decide):PE X (.Name x pos) (jp i):=by
 intro pins s σ H Q I h;obtain ⟨v,e,h⟩:=h;obtain ⟨m,hn,hl⟩:=I.loc;obtain ⟨u,r,l⟩:=hl i x v hN e hv;have fin:EP X pins σ Q u s:=⟨v,H,I,r,h⟩;rcases l with ⟨hk,hm⟩ | ⟨hk,c,hc,hcell⟩
 .exact wpAny_Name (wpAny_loadName_local I.ok.kind hk hn hm fin) hd
 .rcases hk with hk | hk
  .exact wpAny_Name (wpAny_loadName_cell I.ok.kind hk hc hcell fin) hd
  .exact wpAny_Name (wpAny_loadName_free I.ok.kind hk hc hcell fin hcd) hd
theorem zf3 {i j pos}:PE X (.Constant (.int i) j pos) (tC (.int i)):=λ_ _ _ H _ I h=>wpAny_Constant_int ⟨.int i,H,I.tok _,⟨_,rfl⟩,h⟩
theorem zhX {b j pos}:PE X (.Constant (.bool b) j pos) (tC (.bl b)):=λ_ _ _ H _ I h=>Constant_bool ⟨.bl b,H,I,rfl,h⟩
theorem zf4 {j pos}:PE X (.Constant .none j pos) (tC .non):=λ_ _ _ H _ I h=>Constant_none ⟨.non,H,I,rfl,h⟩
theorem kB {x j pos}:PE X (.Constant (.str x) j pos) (tC (.str x)):=λ_ _ _ H _ I h=>Calls.Constant_str ⟨.str x,H,I.tok _,⟨_,rfl⟩,h⟩
def Gl (X:Cx)(x:Str):Prop:=X.env.kindOf x=some .globalImplicit
theorem zaE {E:Value->Shared->Prop}{pins:List (Addr×Obj)}{s:Shared}{σ:St}{H:Hp}{x:Str}{u:Value}{pos:Pos}{Q:Value->Shared->Prop}(I:Inv X pins σ H s)(hg:Gl X x)(hm:X.mg x=some u)(h:Q u s)
  (hd:(x == ("__debug__" : Str))=false:=by decide):wpAny (model X.prog X.w) X.A (eval (.Name x pos) X.env) Q E s :=
 Calls.Name_function_global I.ok.kind hg (Calls.loadGlobal_global (by rw[I.ok.glob];exact I.mod.glob.keeps I.bk) hm h) hd
theorem wH {E:Value->Shared->Prop}{pins:List (Addr×Obj)}{s:Shared}{σ:St}{H:Hp}{x:Str}{u:Value}{pos:Pos}{Q:Value->Shared->Prop}(I:Inv X pins σ H s)(hg:Gl X x)(hm:X.mg x=none)(hv:bootBuiltins x=some u)(h:Q u s)
  (hn:x ≠ "__name__" := by decide) (hd:(x == ("__debug__" : Str))=false:=by decide):wpAny (model X.prog X.w) X.A (eval (.Name x pos) X.env) Q E s:=by
 obtain ⟨mb,h1,h2⟩:=I.mod.blt;exact Calls.Name_function_global I.ok.kind hg (Calls.loadGlobal_builtin (by rw[I.ok.glob];exact I.mod.glob.keeps I.bk) hm (by rw[I.ok.blt];exact h1.keeps I.bk) ((h2 x hn).trans hv) h) hd
theorem zaF {x:Str}{v:V}{u:Value}{pos:Pos}(hg:Gl X x)(hm:X.mg x=some u)(r:RelV v u)(hd:(x == ("__debug__" : Str))=false:=by decide):PE X (.Name x pos) (tC v) :=
 λ_ _ _ H _ I h=>zaE I hg hm ⟨v,H,I,r,h⟩ hd
variable {a b:Expr}{ta tb:TE}{pos:Pos}
def tB (t:TE):TT:=λσ H Q=>t σ H λx H1=>∃c,x=.bl c/\Q c H1
theorem zf5 {e:Expr}{t:TE}(h:PE X e t)(he:∀whole,isTrue e X.env whole=(do let v <- whole;standAt e.pos;holding [v] (truthy v)):=by intro _;rfl):PT X e (tB t):=by
 intro pins s σ H Q I hw;refine isTrue_plain (thn (h pins s σ H _ I hw) λv s1 ⟨x,H1,I1,r1,q1⟩=>?_) (he _);obtain ⟨d,rfl,q⟩:=q1;cases r1;exact wpAny_truthy_bool ⟨H1,I1,q⟩
variable {tA tB':TT}{rest:List Expr}
def tAnd (t u:TT):TT:=λσ H Q=>t σ H λc H1=>if c=true then u σ H1 Q else Q false H1
def tOr (t u:TT):TT:=λσ H Q=>t σ H λc H1=>if c=true then Q true H1 else u σ H1 Q
def tNot (t:TT):TT:=λσ H Q=>t σ H λc H1=>Q (! c) H1
theorem zd3 (ha:PT X a tA):PW X (.BoolOp .And [a] pos) tA:=by
 intro wh pins s σ H Q I h;refine isTrue_and (thn (ha pins s σ H Q I h) λc s1 e=>?_);cases c with
 | true=>exact isTrue_and_nil e
 | false=>exact e
theorem zf6 (ha:PT X a tA):PW X (.BoolOp .Or [a] pos) tA:=by
 intro wh pins s σ H Q I h;refine isTrue_or (thn (ha pins s σ H Q I h) λc s1 e=>?_);cases c with
 | false=>exact isTrue_or_nil e
 | true=>exact e
theorem zf7 (ha:PT X a tA)(hb:PW X (.BoolOp .And (b::rest) pos) tB'):PW X (.BoolOp .And (a::b::rest) pos) (tAnd tA tB'):=by
 intro wh pins s σ H Q I h;refine isTrue_and (thn (ha pins s σ H _ I h) λc s1 ⟨H1,I1,q1⟩=>?_);cases c with
 | true=>exact hb wh pins s1 σ H1 Q I1 q1
 | false=>exact ⟨H1,I1,q1⟩
theorem zhY (ha:PT X a tA)(hb:PW X (.BoolOp .Or (b::rest) pos) tB'):PW X (.BoolOp .Or (a::b::rest) pos) (tOr tA tB'):=by
 intro wh pins s σ H Q I h;refine isTrue_or (thn (ha pins s σ H _ I h) λc s1 ⟨H1,I1,q1⟩=>?_);cases c with
 | true=>exact ⟨H1,I1,q1⟩
 | false=>exact hb wh pins s1 σ H1 Q I1 q1
theorem zf8 (ha:PT X a tA):PT X (.UnaryOp .Not a pos) (tNot tA):=by
 intro pins s σ H Q I h;exact isTrue_not (ha pins s σ H (λc H1=>Q (! c) H1) I h)
def zhZ (ta tb:TE):TE:=λσ H Q=>ta σ H λx H1=>∃c,x=.bl c/\if c=true then tb σ H1 Q else Q (.bl false) H1
def tOrV (ta tb:TE):TE:=λσ H Q=>ta σ H λx H1=>∃c,x=.bl c/\if c=true then Q (.bl true) H1 else tb σ H1 Q
def zh0 (ta:TE):TE:=λσ H Q=>ta σ H λx H1=>∃c,x=.bl c/\Q (.bl (! c)) H1
theorem zb5 {op}{t:TE}(h:PE X a t):PE X (.BoolOp op [a] pos) t:=λpins s σ H Q I hw=>BoolOp_one (h pins s σ H Q I hw)
theorem zf9 (ha:PE X a ta)(hb:PE X (.BoolOp .And (b::rest) pos) tb):PE X (.BoolOp .And (a::b::rest) pos) (zhZ ta tb):=by
 intro pins s σ H Q I h;refine BoolOp_and (thn (ha pins s σ H _ I h) λv s1 ⟨x,H1,I1,r1,q1⟩=>?_);obtain ⟨c,rfl,q1⟩:=q1;cases r1;refine wpAny_truthy_bool ?_;cases c with
 | true=>exact hb pins s1 σ H1 Q I1 q1
 | false=>exact ⟨.bl false,H1,I1,rfl,q1⟩
theorem zh1 (ha:PE X a ta)(hb:PE X (.BoolOp .Or (b::rest) pos) tb):PE X (.BoolOp .Or (a::b::rest) pos) (tOrV ta tb):=by
 intro pins s σ H Q I h;refine BoolOp_or (thn (ha pins s σ H _ I h) λv s1 ⟨x,H1,I1,r1,q1⟩=>?_);obtain ⟨c,rfl,q1⟩:=q1;cases r1;refine wpAny_truthy_bool ?_;cases c with
 | false=>exact hb pins s1 σ H1 Q I1 q1
 | true=>exact ⟨.bl true,H1,I1,rfl,q1⟩
theorem zga (ha:PE X a ta):PE X (.UnaryOp .Not a pos) (zh0 ta):=by
 intro pins s σ H Q I h;refine UnaryOp_ (thn (ha pins s σ H _ I h) λv s1 ⟨x,H1,I1,r1,q1⟩=>?_);obtain ⟨c,rfl,q1⟩:=q1;cases r1;exact not_of (wpAny_truthy_bool ⟨.bl (! c),H1,I1,rfl,q1⟩)
def tIf (t:TT)(ta tb:TE):TE:=λσ H Q=>t σ H λc H1=>if c=true then ta σ H1 Q else tb σ H1 Q
theorem zb6 {c:Expr}(hc:PT X c tA)(ha:PE X a ta)(hb:PE X b tb):PE X (.IfExp c a b pos) (tIf tA ta tb):=by
 intro pins s σ H Q I h;refine wpAny_IfExp (thn (hc pins s σ H _ I h) λd s1 ⟨H1,I1,q1⟩=>?_);cases d with
 | true=>exact ha pins s1 σ H1 Q I1 q1
 | false=>exact hb pins s1 σ H1 Q I1 q1
end
def SqL (K:PySem.W.Frag)(H:Hp)(a:Addr)(xs:List V):Prop :=
 Rd H a (.lst xs) \/
  ∃ (o:Obj) (its:Array Value) (n:Nat),K.lookup a=some o/\o.cls=.type "list" /\ o.dict=none/\o.data=.seq its n/\its.size<=sizeLine/\Vals xs its.toList
def SqT (K:PySem.W.Frag)(H:Hp)(a:Addr)(xs:List V):Prop :=
 Rd H a (.tup xs) \/
  ∃ (o:Obj) (its:Array Value) (n:Nat),K.lookup a=some o/\o.cls=.type "tuple" /\ o.data=.seq its n/\its.size<=sizeLine/\Vals xs its.toList
noncomputable def absV:Value->Option V
 | .none=>some .non
 | .bool b=>some (.bl b)
 | .int i _=>some (.int i)
 | .str x _=>some (.str x)
 | .bytes b _=>some (.byt b)
 | .float b _=>some (.flt b)
 | .ref a=>some (.ref a)
 | .type n=>some (.ty n)
 | _=>none
theorem RelV.abs {x:V}{u:Value}(r:RelV x u):absV u=some x:=by
 cases x with
 | non=>cases r;rfl
 | bl _=>cases r;rfl
 | int _=>obtain ⟨t,rfl⟩:=r;rfl
 | str _=>obtain ⟨t,rfl⟩:=r;rfl
 | byt _=>obtain ⟨t,rfl⟩:=r;rfl
 | flt _=>obtain ⟨t,rfl⟩:=r;rfl
 | ref _=>cases r;rfl
 | ty _=>cases r;rfl
theorem RelV.inj {x y:V}{u:Value}(r:RelV x u)(q:RelV y u):x=y:=Option.some.inj (r.abs.symm.trans q.abs)
theorem Vals.inj:∀ {xs ys:List V}{us:List Value},Vals xs us->Vals ys us->xs=ys
 | _,_,_,.nil,.nil=>rfl
 | _,_,_,.cons r t,.cons r' t'=>by rw[r.inj r',Vals.inj t t']
section
variable {X:Cx}{pins:List (Addr×Obj)}{σ:St}{H:Hp}{s:Shared}{a:Addr}{xs ys:List V}
theorem SqL.of {K:PySem.W.Frag}(h:H a=some (.lst xs)):SqL K H a xs:=.inl (.inl h)
theorem SqT.of {K:PySem.W.Frag}(h:H a=some (.tup xs)):SqT K H a xs:=.inl (.inl h)
theorem Inv.list (I:Inv X pins σ H s)(h:SqL X.K H a xs):∃its:List Value,Vals xs its/\PlainL s.heap a its.toArray/\xs.length<=sizeLine:=by
 rcases h with h | ⟨o,its,n,hk,hc,hd,hs,hz,r⟩
 .obtain ⟨z,its,n,r,e⟩:=h.ok I.hok;exact ⟨its,r,⟨_,n,e,rfl,rfl,rfl⟩,z⟩
 .refine ⟨its.toList,r,⟨o,n,I.kIn a o hk,hc,hd,by simpa using hs⟩,?_⟩;have e:=r.length;simp only[Array.length_toList] at e;lia
theorem Inv.tuple (I:Inv X pins σ H s)(h:SqT X.K H a xs):∃its:List Value,Vals xs its/\IsTup s.heap a its.toArray/\xs.length<=sizeLine:=by
 rcases h with h | ⟨o,its,n,hk,hc,hs,hz,r⟩
 .obtain ⟨z,its,r,p⟩:=h.ok I.hok;exact ⟨its,r,p,z⟩
 .refine ⟨its.toList,r,⟨o,I.kIn a o hk,hc,n,by simpa using hs⟩,?_⟩;have e:=r.length;simp only[Array.length_toList] at e;lia
theorem Inv.list_inj (I:Inv X pins σ H s)(h:SqL X.K H a xs)(h':SqL X.K H a ys):xs=ys:=by
 obtain ⟨its,r,⟨o,n,e,_,_,d⟩,_⟩:=I.list h;obtain ⟨its',r',⟨o',n',e',_,_,d'⟩,_⟩:=I.list h';rw[e] at e';cases e';rw[d] at d';injection d' with d1 _
 have:its=its':=by simpa using congrArg Array.toList d1
 subst this;exact r.inj r'
theorem Inv.tuple_inj (I:Inv X pins σ H s)(h:SqT X.K H a xs)(h':SqT X.K H a ys):xs=ys:=by
 obtain ⟨its,r,⟨o,e,_,n,d⟩,_⟩:=I.tuple h;obtain ⟨its',r',⟨o',e',_,n',d'⟩,_⟩:=I.tuple h';rw[e] at e';cases e';rw[d] at d';injection d' with d1 _
 have:its=its':=by simpa using congrArg Array.toList d1
 subst this;exact r.inj r'
end
noncomputable abbrev Cx.wish (X:Cx)(E:Value->Shared->Prop):Cx:={ X with xe:=E }
noncomputable abbrev Cx.nox (X:Cx):Cx:=X.wish λ_ _=>False
theorem Cx.Ok.wish {X:Cx}(ok:X.Ok)(E:Value->Shared->Prop):(X.wish E).Ok :=
 ⟨ok.mod,ok.kind,ok.glob,ok.blt,ok.above,ok.inj,ok.has,ok.cab,ok.hd,ok.frames,ok.stk,ok.exf,ok.bs,ok.bsz,ok.noex,ok.exfs,ok.funs,ok.frf⟩
theorem Cx.Ok.unwish {X:Cx}{E:Value->Shared->Prop}(ok:(X.wish E).Ok):X.Ok :=
 ⟨ok.mod,ok.kind,ok.glob,ok.blt,ok.above,ok.inj,ok.has,ok.cab,ok.hd,ok.frames,ok.stk,ok.exf,ok.bs,ok.bsz,ok.noex,ok.exfs,ok.funs,ok.frf⟩
section
variable {X:Cx}{pins:List (Addr×Obj)}{σ:St}{H:Hp}{s:Shared}{E:Value->Shared->Prop}
theorem Inv.wish (I:Inv X pins σ H s)(E:Value->Shared->Prop):Inv (X.wish E) pins σ H s:=⟨I.ok.wish E,I.os,I.bare,I.base,I.loc,I.cell,I.free,I.freeC,I.pin,I.hok,I.len⟩
theorem Inv.unwish (I:Inv (X.wish E) pins σ H s):Inv X pins σ H s:=⟨I.ok.unwish,I.os,I.bare,I.base,I.loc,I.cell,I.free,I.freeC,I.pin,I.hok,I.len⟩
theorem SP.unwish {D:Ends}{f:Flow}{s':Shared}(h:SP (X.wish E) pins D f s'):SP X pins D f s':=by
 cases f with
 | next=>obtain ⟨σ',H',I,q⟩:=h;exact ⟨σ',H',I.unwish,q⟩
 | brk=>obtain ⟨σ',H',I,q⟩:=h;exact ⟨σ',H',I.unwish,q⟩
 | cont=>obtain ⟨σ',H',I,q⟩:=h;exact ⟨σ',H',I.unwish,q⟩
 | ret u=>obtain ⟨v,σ',H',I,r,q⟩:=h;exact ⟨v,σ',H',I.unwish,r,q⟩
theorem PSs.nox {st:List Stmt}{t:TS}(h:PSs X.nox st t):PSs X st t:=λpins s σ H D I hw =>
 wpAny_mono (h pins s σ H D (I.wish _) hw) (λ_ _ q=>q.unwish) λ_ _ z=>False.elim z
end
section
variable {X:Cx}{st:Stmt}{rest:List Stmt}{t u:TS}{e:Expr}{te:TE}{pos:Pos}
def zh2:TS:=λD σ H=>D.nx σ H
def tSeq (t u:TS):TS:=λD σ H=>t { D with nx:=u D } σ H
theorem zd4:PSs X [] zh2:=λ_ _ σ H _ I h=>wpAny_execs_nil ⟨σ,H,I,h⟩
set_option tactic.hygienic true in
theorem gG (h1:PS X st t)(h2:PSs X rest u):PSs X (st::rest) (tSeq t u):=by
 intro pins s σ H D I h;refine wpAny_execs_cons (thn (h1 pins s σ H { D with nx:=u D } I h) λf s1 q=>?_);cases f with
 | next =>
  obtain ⟨σ',H',I',q⟩:=q;exact h2 pins s1 σ' H' D I' q
 | ret v=>exact q
 | brk=>exact q
 | cont=>exact q
theorem zaG (h1:PS X st t):PSs X [st] t:=by
 intro pins s σ H D I h;refine wpAny_execs_cons (thn (h1 pins s σ H D I h) λf s1 q=>?_);cases f with
 | next=>exact wpAny_execs_nil q
 | ret v=>exact q
 | brk=>exact q
 | cont=>exact q
theorem Inv.quiet {pins:List (Addr×Obj)}{σ:St}{H:Hp}{s:Shared}(I:Inv X pins σ H s):interactive X.env=false:=by simp[interactive,I.ok.kind]
def zh3 (te:TE):TS:=λD σ H=>te σ H λ_ H1=>D.nx σ H1
theorem zd5 (he:PE X e te)(hs:swapsWith e none pos.line X.env=pure false:=by rfl):PS X (.Expr e pos) (zh3 te):=by
 intro pins s σ H D I h;exact wpAny_Expr_any (thn (he pins s σ H _ I h) λv s1 ⟨x,H1,I1,r1,q1⟩=>⟨σ,H1,I1,q1⟩) I.quiet hs
def tRet (te:TE):TS:=λD σ H=>te σ H D.rt
theorem zb7 (he:PE X e te):PS X (.Return (some e) pos) (tRet te):=by
 intro pins s σ H D I h;exact wpAny_Return_some (thn (he pins s σ H _ I h) λv s1 ⟨x,H1,I1,r1,q1⟩=>⟨x,σ,H1,I1,r1,q1⟩)
def tIfS (c:TT)(t u:TS):TS:=λD σ H=>c σ H λb H1=>if b=true then t D σ H1 else u D σ H1
theorem zh4 {c:Expr}{a b:List Stmt}{tc:TT}(hc:PT X c tc)(ha:PSs X a t)(hb:PSs X b u):PS X (.If c a b pos) (tIfS tc t u):=by
 intro pins s σ H D I h;refine wpAny_If (thn (hc pins s σ H _ I h) λd s1 ⟨H1,I1,q1⟩=>?_);cases d with
 | true=>exact ha pins s1 σ H1 D I1 q1
 | false=>exact hb pins s1 σ H1 D I1 q1
end
abbrev TG:=V->St->Hp->(St->Hp->Prop)->Prop
abbrev TGs:=List V->St->Hp->(St->Hp->Prop)->Prop
def PG (X:Cx)(target:Expr)(t:TG):Prop :=
 ∀ (pins:List (Addr×Obj)) (s:Shared) (σ:St) (H:Hp) (v:V) (u:Value) (Q:St->Hp->Prop),Inv X pins σ H s->RelV v u->t v σ H Q ->
  wpAny (model X.prog X.w) X.A (assign target X.env u) (λ_ s'=>∃σ' H',Inv X pins σ' H' s'/\Q σ' H') X.xe s
def PGs (X:Cx)(ts:List Expr)(t:TGs):Prop :=
 ∀ (pins:List (Addr×Obj)) (s:Shared) (σ:St) (H:Hp) (vs:List V) (us:List Value) (Q:St->Hp->Prop),Inv X pins σ H s->Vals vs us->t vs σ H Q ->
  wpAny (model X.prog X.w) X.A (assignInOrder ((assignEach ts X.env).map (·.2)) us) (λ_ s'=>∃σ' H',Inv X pins σ' H' s'/\Q σ' H') X.xe s
abbrev zgb:=V->V->V->Hp->(Hp->Prop)->Prop
def zh5 (X:Cx)(t:zgb):Prop :=
 ∀ (pins:List (Addr×Obj)) (s:Shared) (σ:St) (H:Hp) (o i v:V) (ov iv u:Value) (Q:Hp->Prop),Inv X pins σ H s->RelV o ov->RelV i iv->RelV v u->t o i v H Q ->
  wpAny (model X.prog X.w) X.A (setItem ov iv u) (λ_ s'=>∃H',Inv X pins σ H' s'/\Q H') X.xe s
abbrev TIp:=V->V->Hp->VK->Prop
def PIp (X:Cx)(op:Operator)(t:TIp):Prop :=
 ∀ (pins:List (Addr×Obj)) (s:Shared) (σ:St) (H:Hp) (x y:V) (v u:Value) (Q:VK),Inv X pins σ H s->RelV x v->RelV y u->t x y H Q ->
  wpAny (model X.prog X.w) X.A (inplaceOp op v u) (EP X pins σ Q) X.xe s
section
variable {X:Cx}{pos:Pos}
def vP (i:Nat):TG:=λv σ H Q=>Q (σ.set i (some v)) H
theorem v5 {i:Nat}{x:Str}(hN:X.N.Nodup)(hi:X.N[i]?=some x)(hx:Loc X.env.scope x)(hf:X.fn x=true\/X.env.scope.names.lookup x=some .local:=by first | exact .inl rfl | exact .inr rfl | assumption):PG X (.Name x pos) (vP i):=by
 intro pins s σ H v u Q I r h;exact wpAny_assign_Name (kz I hN hi hx r (λs' I'=>⟨_,H,I',h⟩) hf)
def zh6:TGs:=λvs σ H Q=>vs=[]/\Q σ H
def zb8 (t:TG)(u:TGs):TGs:=λvs σ H Q=>∃v r,vs=v::r/\t v σ H λσ' H'=>u r σ' H' Q
theorem zd6:PGs X [] zh6:=by
 intro pins s σ H vs us Q I r h;obtain ⟨e,h⟩:=h;subst e;cases r;exact assignInOrder_nil ⟨σ,H,I,h⟩
theorem gH {e:Expr}{es:List Expr}{t:TG}{u:TGs}(h1:PG X e t)(h2:PGs X es u)
  (hs:(assignEach (e::es) X.env).map (·.2)=assign e X.env::(assignEach es X.env).map (·.2):=by rfl):PGs X (e::es) (zb8 t u):=by
 intro pins s σ H vs us Q I r h;obtain ⟨v,vr,e1,h⟩:=h;subst e1;cases r with
 | cons r rr =>
  rw[hs];refine assignInOrder_cons (thn (h1 pins s σ H _ _ _ I r h) λ_ s1 ⟨σ1,H1,I1,q1⟩=>?_);exact h2 pins s1 σ1 H1 _ _ Q I1 rr q1
def zh7 (K:PySem.W.Frag)(n:Nat)(t:TGs):TG:=λv σ H Q=>∃a xs,v=.ref a/\SqT K H a xs/\xs.length=n/\t xs σ H Q
theorem zgc {es:List Expr}{k:Nat}{t:TGs}{n:Nat}(hc:X.calm=true)(h:PGs X es t)
  (hn:(assignEach es X.env).length=n:=by rfl) (hst:(assignEach es X.env).findIdx? (·.1)=none:=by rfl):PG X (.Tuple es k pos) (zh7 X.K n t):=by
 intro pins s σ H v u Q I r hw;obtain ⟨a,xs,e1,hq,hl,hw⟩:=hw;subst e1;cases r;obtain ⟨its,rv,ht,hz⟩:=I.tuple hq;refine assign_Tuple_tuple (I.ok.hd hc) ht (by simp[hn,<- hl,rv.length]) hst λh' hx=>?_;have I1:Inv X pins σ H { s with heap:=h' }:=I.kept (t':=s.toks) λb o e=>hx b o (Nat.ne_of_lt (Heap.lt_size e)) e;exact h pins _ σ H xs _ Q I1 (by simpa using rv) hw
def gSub (to ti:TE)(t:zgb):TG:=λv σ H Q=>to σ H λo H1=>ti σ H1 λi H2=>t o i v H2 λH3=>Q σ H3
theorem zgd {o i:Expr}{to ti:TE}{t:zgb}(ho:PE X o to)(hi:PE X i ti)(hs:zh5 X t)
  (ha:∀v,assign (.Subscript o i pos) X.env v=(do
   let ov <- holding [v] (eval o X.env)
   let iv <- holding [v,ov] (eval i X.env)
   standAt pos
   holding [v,ov,iv] (setItem ov iv v)
   release [v,ov,iv] []):=by intro _;rfl):PG X (.Subscript o i pos) (gSub to ti t):=by
 intro pins s σ H v u Q I r h;rw[ha];refine wpAny_bind (wpAny_holding (thn (ho pins s σ H _ I h) λov s1 ⟨x,H1,I1,r1,q1⟩=>?_));refine wpAny_bind (wpAny_holding (thn (hi pins s1 σ H1 _ I1 q1) λiv s2 ⟨y,H2,I2,r2,q2⟩=>?_));refine wpAny_bind (wpAny_standAt (wpAny_bind (wpAny_holding (thn (hs pins s2 σ H2 x y v ov iv u _ I2 r1 r2 r q2) λ_ s3 ⟨H3,I3,q3⟩=>?_))));exact wpAny_release ⟨σ,H3,I3,q3⟩
def zd7 (te:TE)(g:TG):TS:=λD σ H=>te σ H λx H1=>g x σ H1 D.nx
theorem zge {tg e:Expr}{te:TE}{g:TG}(he:PE X e te)(hg:PG X tg g)(hs:swapsWithSole [tg] e pos.line X.env=pure false:=by rfl)(hw:swappedStores [tg] e X.env=pure none:=by rfl)
  (h1:(assignEach [tg] X.env).map (·.2)=[assign tg X.env]:=by rfl):PS X (.Assign [tg] e pos) (zd7 te g):=by
 intro pins s σ H D I h;refine wpAny_Assign_stores (thn (he pins s σ H _ I h) λv s1 ⟨x,H1,I1,r1,q1⟩=>?_) hs hw;rw[h1];exact thn (hg pins s1 σ H1 x v _ I1 r1 q1) λ_ s2 q=>q
theorem qJ {i:Nat}{x:Str}{e:Expr}{te:TE}{pos':Pos}(hN:X.N.Nodup)(hi:X.N[i]?=some x)(hx:Loc X.env.scope x)(he:PE X e te)(hs:swapsWith e (some (.Name x pos')) pos.line X.env=pure false:=by rfl)(hf:X.fn x=true\/X.env.scope.names.lookup x=some .local:=by first | exact .inl rfl | exact .inr rfl | assumption):
  PS X (.Assign [.Name x pos'] e pos) (zd7 te (vP i)):=by
 intro pins s σ H D I h;refine wpAny_Assign_Name (thn (he pins s σ H _ I h) λv s1 ⟨y,H1,I1,r1,q1⟩=>?_) hs;exact kz I1 hN hi hx r1 (λs2 I2=>⟨_,H1,I2,q1⟩) hf
def tAug (i:Nat)(te:TE)(ti:TIp):TS:=λD σ H=>∃x,σ[i]?=some (some x)/\te σ H λy H1=>ti x y H1 λz H2=>D.nx (σ.set i (some z)) H2
theorem zgf {i:Nat}{x:Str}{e:Expr}{te:TE}{op:Operator}{ti:TIp}{pos':Pos}(hN:X.N.Nodup)(hi:X.N[i]?=some x)(hx:Loc X.env.scope x)(he:PE X e te)(ho:PIp X op ti)(hf:X.fn x=true\/X.env.scope.names.lookup x=some .local:=by first | exact .inl rfl | exact .inr rfl | assumption):
  PS X (.AugAssign (.Name x pos') op e pos) (tAug i te ti):=by
 intro pins s σ H D I h;obtain ⟨v,e1,h⟩:=h;obtain ⟨m,hn,hl⟩:=I.loc;have vis:Vis X.env.scope x:=by rcases hx with k | k;exact .inl k;exact .inr (.inl k)
 obtain ⟨u,r,l⟩:=hl i x v hi e1 vis;refine wpAny_AugAssign_Name ?_;have go:wpAny (model X.prog X.w) X.A (eval e X.env) (λw s₂=>wpAny (model X.prog X.w) X.A (inplaceOp op u w) (λr s₃=>wpAny (model X.prog X.w) X.A (storeName X.env x r) (λ_=>SP X pins D .next) X.xe s₃) X.xe s₂) X.xe s:=by
  refine thn (he pins s σ H _ I h) λw s1 ⟨y,H1,I1,r1,q1⟩=>?_;refine thn (ho pins s1 σ H1 v y u w _ I1 r r1 q1) λz s2 ⟨zv,H2,I2,r2,q2⟩=>?_;exact kz I2 hN hi hx r2 (λs3 I3=>⟨_,H2,I3,q2⟩) hf
 rcases l with ⟨hk,hm⟩ | ⟨hk,c,hc,hcell⟩
 .exact wpAny_loadName_local I.ok.kind hk hn hm go
 .rcases hk with hk | hk
  .exact wpAny_loadName_cell I.ok.kind hk hc hcell go
  .rcases hx with k | k
   .have:X.env.scope.names.lookup x=some .free:=hk;rw[k] at this;cases this
   .have:X.env.scope.names.lookup x=some .free:=hk;rw[k] at this;cases this
def ipI (f:Int->Int->Int):TIp:=λx y H Q=>∃i j,x=.int i/\y=.int j/\Q (.int (f i j)) H
theorem zgg:PIp X .Add (ipI λi j=>i+j):=by
 intro pins s σ H x y v u Q I r1 r2 h;obtain ⟨i,j,e1,e2,q⟩:=h;subst e1;subst e2;obtain ⟨t,rfl⟩:=r1;obtain ⟨t',rfl⟩:=r2;exact iadd_int ⟨.int _,H,I.tok _,⟨_,rfl⟩,q⟩
theorem zgh:PIp X .Sub (ipI λi j=>i - j):=by
 intro pins s σ H x y v u Q I r1 r2 h;obtain ⟨i,j,e1,e2,q⟩:=h;subst e1;subst e2;obtain ⟨t,rfl⟩:=r1;obtain ⟨t',rfl⟩:=r2;exact isub_int ⟨.int _,H,I.tok _,⟨_,rfl⟩,q⟩
end
section
variable {X:Cx}{pos:Pos}
def zb9 (c:TT)(tb:TS):TS:=λD σ H=>∃W:Nat->St->Hp->Prop,(∃m,W m σ H)/\∀m σ H,W m σ H ->
 c σ H λb H1=>if b=true then ∃N:St->Hp->Prop,(∀σ' H',N σ' H'->∃m',m' < m/\W m' σ' H')/\tb { D with nx:=N,ct:=N,bk:=D.nx } σ H1 else D.nx σ H1
set_option tactic.hygienic true in
theorem zca {c:Expr}{body:List Stmt}{tc:TT}{tb:TS}(hp:PassesOwn (model X.prog X.w) X.A X.env X.xe)(hc:PT X c tc)(hb:PSs X body tb):PS X (.While c body [] pos) (zb9 tc tb):=by
 intro pins s σ H D I h;obtain ⟨W,⟨m0,w0⟩,turn⟩:=h;refine wpAny_While (codeAny_whileLoop (λn s'=>∃σ' H',Inv X pins σ' H' s'/\W n σ' H') ?_ m0 ⟨σ,H,I,w0⟩);rintro n s1 ⟨σ1,H1,I1,w1⟩;refine wpAny_passesOwn hp (thn (hc pins s1 σ1 H1 _ I1 (turn n σ1 H1 w1)) λb s2 ⟨H2,I2,q2⟩=>?_);cases b with
 | true =>
  obtain ⟨N,hN,q2⟩:=q2;rw[if_pos rfl];refine wpAny_passesOwn hp (thn (hb pins s2 σ1 H2 _ I2 q2) λf s3 q3=>?_);cases f with
  | next =>
   obtain ⟨σ3,H3,I3,n3⟩:=q3;obtain ⟨m',hm,w3⟩:=hN σ3 H3 n3;exact ⟨m',hm,σ3,H3,I3,w3⟩
  | cont =>
   obtain ⟨σ3,H3,I3,n3⟩:=q3;obtain ⟨m',hm,w3⟩:=hN σ3 H3 n3;exact ⟨m',hm,σ3,H3,I3,w3⟩
  | brk=>exact q3
  | ret v=>exact q3
 | false =>
  rw[if_neg Bool.false_ne_true];exact wpAny_execs_nil ⟨σ1,H2,I2,q2⟩
end
set_option genInjectivity false in
structure It where
 go:Nat->Hp->Prop
 yld:Nat->Hp->V->Hp->Prop
 stop:Nat->Hp->Prop
def vY (X:Cx)(pins:List (Addr×Obj))(H:Hp)(b:Addr):Prop :=
 H b=none/\b≠X.env.locals/\b∉X.fs/\(b∈X.ex\/X.s₀.heap.objs.size<=b)/\(∀x c,X.env.cells.lookup x=some c->c≠b)/\∀p∈X.pn++pins,p.1≠b
theorem Inv.fpOk {X:Cx}{pins:List (Addr×Obj)}{σ:St}{H H':Hp}{s:Shared}{b:Addr}(I:Inv X pins σ H s)(hb:s.heap.objs.size<=b)(hn:H' b=none):vY X pins H' b:=by
 refine ⟨hn,Nat.ne_of_gt (Nat.lt_of_lt_of_le I.lt hb),I.nofs hb,.inr (Nat.le_trans I.sz hb),λx c e z=>?_,λp hp z=>?_⟩
 .obtain ⟨v,q⟩:=I.cell x c e;exact absurd (Nat.lt_of_lt_of_le q.lt (by rw[z];exact hb)) (Nat.lt_irrefl _)
 .exact absurd (Nat.lt_of_lt_of_le (Heap.lt_size (I.pin p hp).1) (by rw[z];exact hb)) (Nat.lt_irrefl _)
structure Turn (P:Program)(w:World)(K:PySem.W.Frag)(tg:Expr)(J:It)(fp:List Addr)(it:Addr)(tn:Nat->Heap->Prop):Prop where
 mem:it∈fp
 obj:∀i h,tn i h->∀b∈fp,∃o,h.get? b=some o/\∀v,o.data≠.cell v
 keep:∀i h h',tn i h->(∀b∈fp,∀o,h.get? b=some o->h'.get? b=some o)->tn i h'
 item:∀ (X:Cx),X.prog=P->X.w=w->X.K=K->X.calm=true->∀ (i:Nat) (pins:List (Addr×Obj)) (s:Shared) (σ:St) (H:Hp) (E:Value->Shared->Prop),Inv X pins σ H s->(∀b∈fp,vY X pins H b)->tn i s.heap->J.go i H ->
  wpAny (model P w) X.A (pyNext (.ref it)) (λr s1=>∃u,r=some u /\
   wpAny (model P w) X.A (letOwnedTupleGo tg (.ref it) u) (λ_ s2=>∃x H',Inv X pins σ H' s2/\RelV x u/\J.yld i H x H'/\tn (i+1) s2.heap/\∀b∈fp,H' b=none) E s1) E s
 done:∀ (X:Cx),X.prog=P->X.w=w->X.K=K->X.calm=true->∀ (i:Nat) (pins:List (Addr×Obj)) (s:Shared) (σ:St) (H:Hp) (E:Value->Shared->Prop),Inv X pins σ H s->(∀b∈fp,vY X pins H b)->tn i s.heap->J.stop i H ->
  wpAny (model P w) X.A (pyNext (.ref it)) (λr s1=>r=none/\Inv X pins σ H s1) E s
 self:∀ (A:Around) (i:Nat) (s:Shared) (Q:Value->Shared->Prop) (E:Value->Shared->Prop),tn i s.heap->Q (.ref it) s->wpAny (model P w) A (pyIter (.ref it)) Q E s
abbrev TI:=St->Hp->(It->Hp->Prop)->Prop
def PIE (X:Cx)(pins:List (Addr×Obj))(σ:St)(tg:Expr)(R:It->Hp->Prop)(itv:Value)(s2:Shared):Prop :=
 ∃ (it:Addr) (fp:List Addr) (tn:Nat->Heap->Prop) (J:It) (H':Hp),itv=.ref it/\Inv X pins σ H' s2/\Turn X.prog X.w X.K tg J fp it tn/\tn 0 s2.heap/\(∀b∈fp,vY X pins H' b)/\R J H'
def PI (X:Cx)(tg iter:Expr)(wi:TI):Prop :=
 ∀ (pins:List (Addr×Obj)) (s:Shared) (σ:St) (H:Hp) (R:It->Hp->Prop),Inv X pins σ H s->wi σ H R ->
  wpAny (model X.prog X.w) X.A (eval iter X.env) (λv s1=>wpAny (model X.prog X.w) X.A (pyIter v) (PIE X pins σ tg R) X.xe s1) X.xe s
theorem zaH {M:Model}{A:Around}{E:Value->Shared->Prop}{s:Shared}{tg:Expr}{it:Addr}{u:Value}{o:Obj}{n:String}{vs:Array Value}{Q:Unit->Shared->Prop}(ho:s.heap.get? it=some o)(hc:o.cls=.type n)(hd:o.data=.fields vs)
  (hn:["enumerate", "zip", "dict_itemiterator", "dict_reverseitemiterator", "odict_iterator", "itertools.zip_longest", "itertools.pairwise"].contains n=false) (hQ:Q () s):wpAny M A (letOwnedTupleGo tg (.ref it) u) Q E s:=by
 unfold letOwnedTupleGo;cases tg <;> first
  | exact wpAny_pure hQ
  | (cases u <;> first
    | exact wpAny_pure hQ
    | (refine wpAny_bind (wpAny_load ho ?_)
       rw[hc,hd];show wpAny M A (if (["enumerate", "zip", "dict_itemiterator", "dict_reverseitemiterator", "odict_iterator", "itertools.zip_longest", "itertools.pairwise"].contains n && vs[0]? == some (rawInt _))=true then _ else _) Q E s;rw[if_neg (by intro h;rw[hn,Bool.false_and] at h;cases h)];exact wpAny_pure hQ))
noncomputable def Itl (K:PySem.W.Frag)(a:Addr):It :=
 ⟨λi H=>∃xs x,SqL K H a xs/\xs[i]?=some x,λi H x H'=>H'=H/\∀xs,SqL K H a xs->xs[i]?=some x,λi H=>∃xs,SqL K H a xs/\xs.length<=i⟩
noncomputable def Itt (K:PySem.W.Frag)(a:Addr):It :=
 ⟨λi H=>∃xs x,SqT K H a xs/\xs[i]?=some x,λi H x H'=>H'=H/\∀xs,SqT K H a xs->xs[i]?=some x,λi H=>∃xs,SqT K H a xs/\xs.length<=i⟩
noncomputable def Itr (lo:Int)(n:Nat):It:=⟨λi _=>i < n,λi H x H'=>H'=H/\x=.int (lo+i),λi _=>n<=i⟩
theorem zbu {P:Program}{w:World}{K:PySem.W.Frag}{tg:Expr}(a it:Addr):Turn P w K tg (Itl K a) [it] it (λi h=>h.IsListIter it a i) where
 mem:=by simp
 obj:=λi h st b hb=>by
  have e:b=it:=by simpa using hb
  subst e;obtain ⟨o,e,c,d⟩:=st;exact ⟨o,e,λv z=>by rw[d] at z;cases z⟩
 keep:=λi h h' st k=>st.at λo e=>k it (by simp) o e
 item:=by
  intro X hP hw hK hc i pins s σ H E I hf st hg;subst hP hw hK;obtain ⟨xs,x,hq,hx⟩:=hg;obtain ⟨its,rv,p,hz⟩:=I.list hq;obtain ⟨u,hu,ru⟩:=rv.get hx;obtain ⟨f0,f1,f2,f3,f4,f5⟩:=hf it (by simp);refine wpAny_pyNext_list_item st p.isList (x:=u) (by simpa using hu) λh' st' sb=>?_;have I1:Inv X pins σ H { s with heap:=h' }:=I.turned (t':=s.toks) (λb o hb e=>(sb.2 b hb).trans e) f0 f1 f3 f4 f5;obtain ⟨o,e,c,d⟩:=id st';exact ⟨u,rfl,zaH (s:={ s with heap:=h' }) e c d (by decide) ⟨x,H,I1,ru,⟨rfl,λys hy=>by rw[I.list_inj hy hq];exact hx⟩,st',λb hb=>(hf b hb).1⟩⟩
 done:=by
  intro X hP hw hK hc i pins s σ H E I hf st hg;subst hP hw hK;obtain ⟨xs,hq,hx⟩:=hg;obtain ⟨its,rv,p,hz⟩:=I.list hq;obtain ⟨f0,f1,f2,f3,f4,f5⟩:=hf it (by simp);have hl:=rv.length;exact wpAny_pyNext_list_end (I.ok.hd hc) st p.isList (by simp;lia) λh' eb=>⟨rfl,I.turned (t':=s.toks) (λb o hb e=>eb b o hb e) f0 f1 f3 f4 f5⟩
 self:=λ_ _ _ _ _ st h=>wpAny_pyIter_listiter st h
theorem qK {P:Program}{w:World}{K:PySem.W.Frag}{tg:Expr}(a it:Addr):Turn P w K tg (Itt K a) [it] it (λi h=>h.IsTupleIter it a i) where
 mem:=by simp
 obj:=λi h st b hb=>by
  have e:b=it:=by simpa using hb
  subst e;obtain ⟨o,e,c,d⟩:=st;exact ⟨o,e,λv z=>by rw[d] at z;cases z⟩
 keep:=λi h h' st k=>st.at λo e=>k it (by simp) o e
 item:=by
  intro X hP hw hK hc i pins s σ H E I hf st hg;subst hP hw hK;obtain ⟨xs,x,hq,hx⟩:=hg;obtain ⟨its,rv,p,hz⟩:=I.tuple hq;obtain ⟨u,hu,ru⟩:=rv.get hx;obtain ⟨f0,f1,f2,f3,f4,f5⟩:=hf it (by simp);refine wpAny_pyNext_tuple_item st (show s.heap.IsTuple a its.toArray from p) (x:=u) (by simpa using hu) λh' st' sb=>?_;have I1:Inv X pins σ H { s with heap:=h' }:=I.turned (t':=s.toks) (λb o hb e=>(sb.2 b hb).trans e) f0 f1 f3 f4 f5;obtain ⟨o,e,c,d⟩:=id st';exact ⟨u,rfl,zaH (s:={ s with heap:=h' }) e c d (by decide) ⟨x,H,I1,ru,⟨rfl,λys hy=>by rw[I.tuple_inj hy hq];exact hx⟩,st',λb hb=>(hf b hb).1⟩⟩
 done:=by
  intro X hP hw hK hc i pins s σ H E I hf st hg;subst hP hw hK;obtain ⟨xs,hq,hx⟩:=hg;obtain ⟨its,rv,p,hz⟩:=I.tuple hq;obtain ⟨f0,f1,f2,f3,f4,f5⟩:=hf it (by simp);have hl:=rv.length;exact wpAny_pyNext_tuple_end (I.ok.hd hc) st (show s.heap.IsTuple a its.toArray from p) (by simp;lia) λh' eb=>⟨rfl,I.turned (t':=s.toks) (λb o hb e=>eb b o hb e) f0 f1 f3 f4 f5⟩
 self:=λ_ _ _ _ _ st h=>wpAny_pyIter_tupleiter st h
theorem qL {P:Program}{w:World}{K:PySem.W.Frag}{tg:Expr}(it:Addr)(lo:Int)(n:Nat):Turn P w K tg (Itr lo n) [it] it (λi h=>IsRangeIter h it (lo+(i:Nat) * 1) ((n:Int) - (i:Nat)) 1) where
 mem:=by simp
 obj:=λi h st b hb=>by
  have e:b=it:=by simpa using hb
  subst e;exact ⟨_,st,λv z=>by
   have z':Data.fields _=Data.cell v:=z;cases z'⟩
 keep:=λi h h' st k=>k it (by simp) _ st
 item:=by
  intro X hP hw hK hc i pins s σ H E I hf st hg;subst hP hw hK;obtain ⟨f0,f1,f2,f3,f4,f5⟩:=hf it (by simp);have W:=Walks.range (prog:=X.prog) (w:=X.w) (I.ok.hd hc) it lo 1 n;refine W.item i s _ _ hg st λv h' tk hv st' kk=>?_;obtain ⟨t,rfl⟩:=hv;have I1:Inv X pins σ H { s with heap:=h',toks:=tk }:=I.turned (λb o hb e=>kk b o (by simpa using hb) e) f0 f1 f3 f4 f5;refine ⟨_,rfl,zaH (s:={ s with heap:=h',toks:=tk }) (n := "range_iterator") st' rfl rfl (by decide) ⟨.int (lo+i),H,I1,⟨t,?_⟩,⟨rfl,rfl⟩,st',λb hb=>(hf b hb).1⟩⟩;rw[Int.mul_one]
 done:=by
  intro X hP hw hK hc i pins s σ H E I hf st hg;subst hP hw hK;obtain ⟨f0,f1,f2,f3,f4,f5⟩:=hf it (by simp);exact wpAny_pyNext_range_end (I.ok.hd hc) st (by have:n<=i:=hg;lia) λh' eb=>⟨rfl,I.turned (t':=s.toks) (λb o hb e=>eb b o hb e) f0 f1 f3 f4 f5⟩
 self:=λ_ _ _ _ _ st h=>wpAny_pyIter_rangeiter st h
section
variable {X:Cx}{tg:Expr}
def zh8 (K:PySem.W.Frag)(tl:TE):TI:=λσ H R=>tl σ H λx H1=>∃a,x=.ref a/\(∃xs,SqL K H1 a xs)/\R (Itl K a) H1
def iTup (K:PySem.W.Frag)(tl:TE):TI:=λσ H R=>tl σ H λx H1=>∃a,x=.ref a/\(∃xs,SqT K H1 a xs)/\R (Itt K a) H1
theorem zd8 {l:Expr}{tl:TE}(hl:PE X l tl):PI X tg l (zh8 X.K tl):=by
 intro pins s σ H R I h;refine thn (hl pins s σ H _ I h) λv s1 ⟨x,H1,I1,r1,q1⟩=>?_;obtain ⟨a,e,⟨xs,hq⟩,q⟩:=q1;subst e;cases r1;obtain ⟨its,rv,p,hz⟩:=I1.list hq;refine wpAny_pyIter_list p.isList ?_;refine ⟨s1.heap.objs.size,[s1.heap.objs.size],_,_,H1,rfl,I1.kept (t':=s1.toks) λb o e=>Heap.get?_push_of_some _ e,zbu a _,⟨_,Heap.get?_push_size _ rfl,rfl,rfl⟩,λb hb=>?_,q⟩;have e:b=s1.heap.objs.size:=by simpa using hb
 subst e;exact I1.fpOk (Nat.le_refl _) (I1.hok.fresh (Nat.le_refl _))
theorem zgi {l:Expr}{tl:TE}(hl:PE X l tl):PI X tg l (iTup X.K tl):=by
 intro pins s σ H R I h;refine thn (hl pins s σ H _ I h) λv s1 ⟨x,H1,I1,r1,q1⟩=>?_;obtain ⟨a,e,⟨xs,hq⟩,q⟩:=q1;subst e;cases r1;obtain ⟨its,rv,p,hz⟩:=I1.tuple hq;refine wpAny_pyIter_tuple (show s1.heap.IsTuple a its.toArray from p) ?_;refine ⟨s1.heap.objs.size,[s1.heap.objs.size],_,_,H1,rfl,I1.kept (t':=s1.toks) λb o e=>Heap.get?_push_of_some _ e,qK a _,⟨_,Heap.get?_push_size _ rfl,rfl,rfl⟩,λb hb=>?_,q⟩;have e:b=s1.heap.objs.size:=by simpa using hb
 subst e;exact I1.fpOk (Nat.le_refl _) (I1.hok.fresh (Nat.le_refl _))
theorem zcb {pins:List (Addr×Obj)}{σ:St}{H:Hp}{s:Shared}{R:It->Hp->Prop}{E:Value->Shared->Prop}{lo hi:Int}{t u v:Tok}{tk:Nat}(I:Inv X pins σ H s)(h1:-(2 ^ 62)<=lo)(h2:lo < 2 ^ 62)(h3:-(2 ^ 62)<=hi)(h4:hi < 2 ^ 62)
  (q:R (Itr lo (hi - lo).toNat) H):wpAny (model X.prog X.w) X.A (pyIter (.ref s.heap.objs.size)) (PIE X pins σ tg R) E { s with heap:=s.heap.push { cls:=.type "range",data:=.fields #[.int lo t,.int hi u,.int 1 v] },toks:=tk }:=by
 refine wpAny_pyIter_range (IsRange.new ..) (small_one h1 h2 h3 h4) ?_;have I1:Inv X pins σ H { s with heap:=s.heap.push { cls:=.type "range",data:=.fields #[.int lo t,.int hi u,.int 1 v] },toks:=tk }:=I.kept λb o e=>Heap.get?_push_of_some _ e;refine ⟨(s.heap.push { cls:=.type "range",data:=.fields #[.int lo t,.int hi u,.int 1 v] }).objs.size,[(s.heap.push { cls:=.type "range",data:=.fields #[.int lo t,.int hi u,.int 1 v] }).objs.size],_,_,H,rfl,
  I1.kept (t':=tk) λb o e=>Heap.get?_push_of_some _ e,qL _ lo (hi - lo).toNat,?_,λb hb=>?_,q⟩
 .have e1:lo+((0:Nat):Int) * 1=lo:=by simp
  have e2:(((hi - lo).toNat:Nat):Int) - ((0:Nat):Int)=Builtin.Range.rangeSize lo hi 1:=by rw[rangeSize_one];split <;> lia
  show IsRangeIter _ _ (lo+((0:Nat):Int) * 1) ((((hi - lo).toNat:Nat):Int) - ((0:Nat):Int)) 1;rw[e1,e2];exact Heap.get?_push_size _ rfl
 .have e:b=(s.heap.push { cls:=.type "range",data:=.fields #[.int lo t,.int hi u,.int 1 v] }).objs.size:=by simpa using hb
  subst e;exact I1.fpOk (Nat.le_refl _) (I1.hok.fresh (Nat.le_refl _))
def zh9 (ta:TA):TI:=λσ H R=>ta σ H λvs H1=>∃j:Int,vs=[.int j]/\-(2 ^ 62)<=j/\j < 2 ^ 62/\R (Itr 0 j.toNat) H1
theorem zbv {a:Expr}{ta:TA}{p pos:Pos}(hg:Gl X "range")(hm:X.mg "range" = none)(ha:PA X [a] ta)(hs:starEach [a] X.env=[(false,eval a X.env)]:=by rfl):PI X tg (.Call (.Name "range" p) [a] [] pos) (zh9 ta):=by
 intro pins s σ H R I h;refine Call_ (wH I hg hm boot_range (PyProof.Rows.callWith_type1 (thn (ha pos pins s σ H _ I h) λus s1 ⟨vs,H1,I1,r1,q1⟩=>?_) hs rfl));obtain ⟨j,e,q1,q2,q⟩:=q1;subst e;cases r1 with
 | cons r rr =>
  cases rr;obtain ⟨t,rfl⟩:=r;exact call_range_1 (zcb I1 (by lia) (by lia) q1 q2 (by simpa using q))
def zia (wi:TI)(g:TG)(tb:TS):TS:=λD σ H=>wi σ H λJ H1=>∃W:Nat->Nat->St->Hp->Prop,(∃m,W 0 m σ H1)/\∀i m σ H,W i m σ H ->
 (J.stop i H/\D.nx σ H)\/(J.go i H/\∃N:St->Hp->Prop,(∀σ' H',N σ' H'->∃m',m' < m/\W (i+1) m' σ' H')/\∀x H',J.yld i H x H'->g x σ H' λσ2 H2=>tb { D with nx:=N,ct:=N,bk:=D.nx } σ2 H2)
noncomputable def kC (fp:List Addr)(h:Heap):List (Addr×Obj):=fp.filterMap λb=>(h.get? b).map λo=>(b,o)
theorem xP {fp:List Addr}{h:Heap}{b:Addr}{o:Obj}(hb:b∈fp)(e:h.get? b=some o):(b,o)∈kC fp h:=List.mem_filterMap.mpr ⟨b,hb,by rw[e];rfl⟩
theorem zbw {fp:List Addr}{h:Heap}{p:Addr×Obj}(hp:p∈kC fp h):p.1∈fp/\h.get? p.1=some p.2:=by
 obtain ⟨b,hb,e⟩:=List.mem_filterMap.mp hp;cases q:h.get? b with
 | none=>rw[q] at e;cases e
 | some o =>
  rw[q] at e;have e':(b,o)=p:=Option.some.inj e;subst e';exact ⟨hb,q⟩
theorem Inv.pinned {pins:List (Addr×Obj)}{σ:St}{H:Hp}{s:Shared}{fp:List Addr}(I:Inv X pins σ H s)(hf:∀b∈fp,vY X pins H b)(ho:∀b∈fp,∃o,s.heap.get? b=some o/\∀v,o.data≠.cell v):Inv X (pins++kC fp s.heap) σ H s :=
 I.pins_of λp hp=>(List.mem_append.mp hp).elim (λz=>I.pin p (List.mem_append_right _ z)) λz=>by
  obtain ⟨hb,e⟩:=zbw z;obtain ⟨f0,f1,f2,_⟩:=hf p.1 hb;obtain ⟨o,e',d⟩:=ho p.1 hb;rw[e] at e';cases e';exact ⟨e,f0,f1,f2,d⟩
theorem Inv.unpinned {pins pl:List (Addr×Obj)}{σ:St}{H:Hp}{s:Shared}(I:Inv X (pins++pl) σ H s):Inv X pins σ H s:=I.pins_of λp hp=>I.pin p (List.mem_append_right _ (List.mem_append_left _ hp))
theorem zgj {iter:Expr}{body:List Stmt}{wi:TI}{g:TG}{tb:TS}{pos:Pos}(hp:PassesOwn (model X.prog X.w) X.A X.env X.xe)(hc:X.calm=true)(hi:PI X tg iter wi)(hg:PG X tg g)(hb:PSs X body tb)
  (hs:∀x,foldedSetIterable iter X.env x=pure x:=by intro _;rfl):PS X (.For tg iter body [] pos) (zia wi g tb):=by
 intro pins s σ H D I h;refine wpAny_For (thn (hi pins s σ H _ I h) λv s1 h1=>thn h1 λitv s2 h2=>?_) hs;obtain ⟨it,fp,tn,J,H2,e,I2,T,st2,f2,W,⟨m0,w0⟩,turn⟩:=h2;subst e
 -- what stays true of the iterator's objects through the loop
 have stat:∀ {H':Hp},(∀b∈fp,H' b=none)->∀b∈fp,vY X pins H' b:=λhn b hb=>⟨hn b hb,(f2 b hb).2⟩;refine codeAny_forLoop_any (λn s'=>∃i σ' H',Inv X pins σ' H' s'/\tn i s'.heap/\(∀b∈fp,H' b=none)/\W i n σ' H') ?_ m0 ⟨0,σ,H2,I2,st2,λb hb=>(f2 b hb).1,w0⟩;rintro n s3 ⟨i,σ3,H3,I3,st3,fr3,w3⟩;rcases turn i n σ3 H3 w3 with ⟨stop,qn⟩ | ⟨go,N,hN,step⟩
 .refine wpAny_passesOwn hp (thn (T.done X rfl rfl rfl hc i pins s3 σ3 H3 X.xe I3 (stat fr3) st3 stop) λr s4 ⟨hr,I4⟩=>?_);subst hr;exact wpAny_execs_nil ⟨σ3,H3,I4,qn⟩
 .refine wpAny_passesOwn hp (thn (T.item X rfl rfl rfl hc i pins s3 σ3 H3 X.xe I3 (stat fr3) st3 go) λr s4 ⟨u,hr,h4⟩=>?_);subst hr;refine wpAny_passesOwn hp (thn h4 λ_ s5 ⟨x,H5,I5,r5,y5,st5,fr5⟩=>?_);have I5':=I5.pinned (stat fr5) (T.obj _ _ st5);refine wpAny_passesOwn hp (thn (hg _ s5 σ3 H5 x u _ I5' r5 (step x H5 y5)) λ_ s6 ⟨σ6,H6,I6,q6⟩=>?_);refine wpAny_passesOwn hp (thn (hb _ s6 σ6 H6 _ I6 q6) λf s7 q7=>?_);have again:∀ {σ7:St}{H7:Hp},Inv X (pins++kC fp s5.heap) σ7 H7 s7->N σ7 H7->∃m,m < n/\∃i σ' H',Inv X pins σ' H' s7/\tn i s7.heap/\(∀b∈fp,H' b=none)/\W i m σ' H':=λ{σ7 H7} I7 n7=>by
   obtain ⟨m',hm,w7⟩:=hN σ7 H7 n7;refine ⟨m',hm,i+1,σ7,H7,I7.unpinned,T.keep _ _ _ st5 λb hb o e=>(I7.pin (b,o) (List.mem_append_right _ (List.mem_append_right _ (xP hb e)))).1,λb hb=>?_,w7⟩;obtain ⟨o,e,d⟩:=T.obj _ _ st5 b hb;exact (I7.pin (b,o) (List.mem_append_right _ (List.mem_append_right _ (xP hb e)))).2.1
  cases f with
  | next=>obtain ⟨σ7,H7,I7,n7⟩:=q7;exact again I7 n7
  | cont=>obtain ⟨σ7,H7,I7,n7⟩:=q7;exact again I7 n7
  | brk=>obtain ⟨σ7,H7,I7,q7⟩:=q7;exact ⟨σ7,H7,I7.unpinned,q7⟩
  | ret v=>obtain ⟨x7,σ7,H7,I7,r7,q7⟩:=q7;exact ⟨x7,σ7,H7,I7.unpinned,r7,q7⟩
end
abbrev R2:=V->V->Hp->VK->Prop
def OpR (X:Cx)(f:Value->Value->Sem Value)(r:R2):Prop :=
 ∀ (pins:List (Addr×Obj)) (s:Shared) (σ:St) (H:Hp) (x y:V) (v u:Value) (Q:VK),Inv X pins σ H s->RelV x v->RelV y u->r x y H Q ->
  wpAny (model X.prog X.w) X.A (f v u) (EP X pins σ Q) X.xe s
def UnR (X:Cx)(f:Value->Sem Value)(r:V->Hp->VK->Prop):Prop :=
 ∀ (pins:List (Addr×Obj)) (s:Shared) (σ:St) (H:Hp) (x:V) (v:Value) (Q:VK),Inv X pins σ H s->RelV x v->r x H Q ->
  wpAny (model X.prog X.w) X.A (f v) (EP X pins σ Q) X.xe s
def CallR (X:Cx)(f:Value)(r:List V->Hp->VK->Prop):Prop :=
 ∀ (pins:List (Addr×Obj)) (s:Shared) (σ:St) (H:Hp) (xs:List V) (us:List Value) (Q:VK),Inv X pins σ H s->Vals xs us->r xs H Q ->
  wpAny (model X.prog X.w) X.A (call f us) (EP X pins σ Q) X.xe s
def tOp (r:R2)(ta tb:TE):TE:=λσ H Q=>ta σ H λx H1=>tb σ H1 λy H2=>r x y H2 Q
def tUn (r:V->Hp->VK->Prop)(ta:TE):TE:=λσ H Q=>ta σ H λx H1=>r x H1 Q
def rI (C:Int->Int->Prop)(g:Int->Int->V):R2:=λx y H Q=>∃i j,x=.int i/\y=.int j/\C i j/\Q (g i j) H
def rI0 (g:Int->Int->V):R2:=λx y H Q=>∃i j,x=.int i/\y=.int j/\Q (g i j) H
def rU (g:Int->V):V->Hp->VK->Prop:=λx H Q=>∃i,x=.int i/\Q (g i) H
section
variable {X:Cx}{a b:Expr}{ta tb:TE}{pos:Pos}
theorem zgk (ha:PE X a ta)(hb:PE X b tb){pins:List (Addr×Obj)}{s:Shared}{σ:St}{H:Hp}{R:V->V->Hp->Prop}(I:Inv X pins σ H s)
  (h:ta σ H λx H1=>tb σ H1 λy H2=>R x y H2) {Q:Value->Shared->Prop}{f:Value->Value->Sem Value}
  (hf:∀v u s2 x y H2,Inv X pins σ H2 s2->RelV x v->RelV y u->R x y H2->wpAny (model X.prog X.w) X.A (f v u) Q X.xe s2) :
  wpAny (model X.prog X.w) X.A (eval a X.env) (λv s₁=>wpAny (model X.prog X.w) X.A (eval b X.env) (λu s₂=>wpAny (model X.prog X.w) X.A (f v u) Q X.xe s₂) X.xe s₁) X.xe s:=by
 refine thn (ha pins s σ H _ I h) λv s1 ⟨x,H1,I1,r1,q1⟩=>?_;refine thn (hb pins s1 σ H1 _ I1 q1) λu s2 ⟨y,H2,I2,r2,q2⟩=>?_;exact hf v u s2 x y H2 I2 r1 r2 q2
theorem zib {op:Operator}{r:R2}(ho:OpR X (binaryOp op) r)(ha:PE X a ta)(hb:PE X b tb):PE X (.BinOp a op b pos) (tOp r ta tb):=by
 intro pins s σ H Q I h;exact wpAny_BinOp (zgk ha hb I h λv u s2 x y H2 I2 rx ry q=>ho pins s2 σ H2 x y v u Q I2 rx ry q)
theorem zic {op:UnaryOp}{r:V->Hp->VK->Prop}(ho:UnR X (unaryOp op) r)(ha:PE X a ta):PE X (.UnaryOp op a pos) (tUn r ta):=by
 intro pins s σ H Q I h;exact UnaryOp_ (thn (ha pins s σ H _ I h) λv s1 ⟨x,H1,I1,r1,q1⟩=>ho pins s1 σ H1 x v Q I1 r1 q1)
theorem opI {f:Value->Value->Sem Value}{C:Int->Int->Prop}{g:Int->Int->Int}
  (rule:∀ (i j:Int) (t u:Tok) (s:Shared) (Q:Value->Shared->Prop) (E:Value->Shared->Prop),C i j->Q (.int (g i j) s.toks) { s with toks:=s.toks+1 }->wpAny (model X.prog X.w) X.A (f (.int i t) (.int j u)) Q E s) :
  OpR X f (rI C λi j=>.int (g i j)):=by
 intro pins s σ H x y v u Q I rx ry h;obtain ⟨i,j,rfl,rfl,hc,q⟩:=h;obtain ⟨t,rfl⟩:=rx;obtain ⟨t',rfl⟩:=ry;exact rule i j t t' s _ _ hc ⟨.int (g i j),H,I.tok _,⟨_,rfl⟩,q⟩
theorem zgl {f:Value->Value->Sem Value}{g:Int->Int->Int}
  (rule:∀ (i j:Int) (t u:Tok) (s:Shared) (Q:Value->Shared->Prop) (E:Value->Shared->Prop),Q (.int (g i j) s.toks) { s with toks:=s.toks+1 }->wpAny (model X.prog X.w) X.A (f (.int i t) (.int j u)) Q E s) :
  OpR X f (rI0 λi j=>.int (g i j)):=by
 intro pins s σ H x y v u Q I rx ry h;obtain ⟨i,j,rfl,rfl,q⟩:=h;obtain ⟨t,rfl⟩:=rx;obtain ⟨t',rfl⟩:=ry;exact rule i j t t' s _ _ ⟨.int (g i j),H,I.tok _,⟨_,rfl⟩,q⟩
theorem zgm {f:Value->Value->Sem Value}{g:Int->Int->Bool}
  (rule:∀ (i j:Int) (t u:Tok) (s:Shared) (Q:Value->Shared->Prop) (E:Value->Shared->Prop),Q (.bool (g i j)) s->wpAny (model X.prog X.w) X.A (f (.int i t) (.int j u)) Q E s) :
  OpR X f (rI0 λi j=>.bl (g i j)):=by
 intro pins s σ H x y v u Q I rx ry h;obtain ⟨i,j,rfl,rfl,q⟩:=h;obtain ⟨t,rfl⟩:=rx;obtain ⟨t',rfl⟩:=ry;exact rule i j t t' s _ _ ⟨.bl (g i j),H,I,rfl,q⟩
def zid (i j:Int):Prop:=0 < j/\j < 1073741824
def zie (i j:Int):Prop:=0<=j/\j<=1000000/\i.natAbs < 2 ^ 64
def CMul (i j:Int):Prop:=(-(2 ^ 64) < i/\i < 2 ^ 64)\/(-(2 ^ 64) < j/\j < 2 ^ 64)
theorem CMul.ok {i j:Int}(h:CMul i j):IntMulOk i j:=by
 rcases h with ⟨h1,h2⟩ | ⟨h1,h2⟩
 .exact .of_left (intBits_le_64 h1 h2)
 .exact .of_right (intBits_le_64 h1 h2)
theorem qM (k:Nat):(0:Int)<=2 ^ k:=by
 rw[two_pow_cast];exact Int.natCast_nonneg _
theorem op_add:OpR X (binaryOp .Add) (rI0 λi j=>.int (i+j)):=zgl λ_ _ _ _ _ _ _ q=>add_int q
theorem zgn:OpR X (binaryOp .Sub) (rI0 λi j=>.int (i - j)):=zgl λ_ _ _ _ _ _ _ q=>sub_int q
theorem op_mul:OpR X (binaryOp .Mult) (rI CMul λi j=>.int (i * j)):=opI λ_ _ _ _ _ _ _ hc q=>mul_int q hc.ok
theorem zd9:OpR X (binaryOp .FloorDiv) (rI zid λi j=>.int (i / j)):=opI λi j _ _ _ _ _ hc q=>by
 have h1:(0:Int) < j:=hc.1;have h2:j < 1073741824:=hc.2;exact floordiv_int (by lia) (by rw[Int.fdiv_eq_ediv_of_nonneg i (by lia)];exact q) (.inl (PyProof.noPylong_small (by lia)))
theorem zgo:OpR X (binaryOp .Mod) (rI (λ_ j=>0 < j) λi j=>.int (i % j)):=opI λi j _ _ _ _ _ hc q=>by
 have h1:(0:Int) < j:=hc;exact mod_int' (by lia) (by rw[Int.fmod_eq_emod_of_nonneg i (by lia)];exact q)
theorem zgp:OpR X (binaryOp .Pow) (rI zie λi j=>.int (i ^ j.toNat)):=opI λ_ _ _ _ _ _ _ hc q=>pow_int_small hc.1 hc.2.1 hc.2.2 q
theorem zgq:OpR X (binaryOp .RShift) (rI (λ_ j=>0<=j) λi j=>.int (i / 2 ^ j.toNat)):=opI λi j _ _ _ _ _ hc q =>
 rshift_int hc (by rw[Int.fdiv_eq_ediv_of_nonneg i (qM _)];exact q)
theorem zgr:OpR X (binaryOp .BitAnd) (rI0 λi j=>.int (Builtin.bitAnd i j)):=zgl λ_ _ _ _ _ _ _ q=>and_int q
theorem unI {f:Value->Sem Value}{g:Int->Int}
  (rule:∀ (i:Int) (t:Tok) (s:Shared) (Q:Value->Shared->Prop) (E:Value->Shared->Prop),Q (.int (g i) s.toks) { s with toks:=s.toks+1 }->wpAny (model X.prog X.w) X.A (f (.int i t)) Q E s) :
  UnR X f (rU λi=>.int (g i)):=by
 intro pins s σ H x v Q I rx h;obtain ⟨i,rfl,q⟩:=h;obtain ⟨t,rfl⟩:=rx;exact rule i t s _ _ ⟨.int (g i),H,I.tok _,⟨_,rfl⟩,q⟩
theorem zgs:UnR X (unaryOp .USub) (rU λi=>.int (-i)):=unI λ_ _ _ _ _ q=>neg_int q
end
section
variable {X:Cx}{a b c:Expr}{ta tb tc:TE}{pos:Pos}
theorem zgt {pins:List (Addr×Obj)}{σ:St}{H:Hp}{s:Shared}{Q:VK}{k k':Bool}(I:Inv X pins σ H s)(q:Q (.bl k) H)(e:k=k'):EP X pins σ Q (.bool k') s:=by
 subst e;exact ⟨.bl k,H,I,rfl,q⟩
theorem zif:OpR X (compareOp .Lt) (rI0 λi j=>.bl (decide (i < j))):=zgm λ_ _ _ _ _ _ _ q=>lt_int q
theorem zig:OpR X (compareOp .LtE) (rI0 λi j=>.bl (decide (i<=j))):=zgm λ_ _ _ _ _ _ _ q=>le_int q
theorem zih:OpR X (compareOp .Gt) (rI0 λi j=>.bl (decide (j < i))):=zgm λ_ _ _ _ _ _ _ q=>gt_int q
theorem zea:OpR X (compareOp .IsNot) (λx y H Q=>y=.non/\Q (.bl (! decide (x=.non))) H):=by
 intro pins s σ H x y v u Q I rx ry h;obtain ⟨rfl,q⟩:=h;cases ry;refine isnot_none_gen (zgt I q ?_);cases x <;> first
  | (cases rx;rfl)
  | (obtain ⟨t,rfl⟩:=rx;rfl)
theorem OpR.or {f:Value->Value->Sem Value}{r r':R2}(h:OpR X f r)(h':OpR X f r'):OpR X f (λx y H Q=>r x y H Q\/r' x y H Q):=by
 intro pins s σ H x y v u Q I rx ry q;rcases q with q | q
 .exact h pins s σ H x y v u Q I rx ry q
 .exact h' pins s σ H x y v u Q I rx ry q
theorem zeb {op:CmpOp}{r:R2}(ho:OpR X (compareOp op) r)(ha:PE X a ta)(hb:PE X b tb)(hm:behindInMarks op b=false):PE X (.Compare a [op] [b] pos) (tOp r ta tb):=by
 intro pins s σ H Q I h;exact wpAny_Compare1 (zgk ha hb I h λv u s2 x y H2 I2 rx ry q=>ho pins s2 σ H2 x y v u Q I2 rx ry q) hm
def zaI (t:TE):TT:=λσ H Q=>t σ H λx H'=>∃k,x=.bl k/\Q k H'
theorem zaJ {op:CmpOp}{r:R2}(ho:OpR X (compareOp op) r)(ha:PE X a ta)(hb:PE X b tb)(hm:behindInMarks op b=false):PT X (.Compare a [op] [b] pos) (zaI (tOp r ta tb)):=by
 intro pins s σ H Q I h;refine wpAny_isTrue_Compare1 (thn (ha pins s σ H _ I h) λv s1 ⟨x,H1,I1,r1,q1⟩=>thn (hb pins s1 σ H1 _ I1 q1) λu s2 ⟨y,H2,I2,r2,q2⟩ =>
  thn (ho pins s2 σ H2 x y v u _ I2 r1 r2 q2) λc s3 ⟨z,H3,I3,r3,k,e,q3⟩=>?_) hm
 subst e;cases r3;exact wpAny_truthy_bool ⟨H3,I3,q3⟩
def qN (r r':R2)(ta tb tc:TE):TE:=λσ H Q=>ta σ H λx H1=>tb σ H1 λy H2=>r x y H2 λz H3=>∃k,z=.bl k /\
 (if k=true then tc σ H3 λw' H4=>r' y w' H4 Q else Q (.bl false) H3)
theorem zcc {op op':CmpOp}{r r':R2}(ho:OpR X (compareOp op) r)(ho':OpR X (compareOp op') r')(ha:PE X a ta)(hb:PE X b tb)(hc:PE X c tc)
  (hm:lastMarks [op,op'] [b,c]=false:=by with_unfolding_all rfl):PE X (.Compare a [op,op'] [b,c] pos) (qN r r' ta tb tc):=by
 intro pins s σ H Q I h;refine Compare_chain (thn (ha pins s σ H _ I h) λv s1 ⟨x,H1,I1,r1,q1⟩=>chain_link (thn (hb pins s1 σ H1 _ I1 q1) λu s2 ⟨y,H2,I2,r2,q2⟩ =>
  thn (ho pins s2 σ H2 x y v u _ I2 r1 r2 q2) λd s3 ⟨z,H3,I3,r3,k,e,q3⟩=>?_)) hm
 subst e;cases r3;refine wpAny_truthy_bool ?_;cases k with
 | false=>exact ite_ff ⟨.bl false,H3,I3,rfl,q3⟩
 | true=>exact ite_tt (chain_last (thn (hc pins s3 σ H3 _ I3 q3) λw' s4 ⟨z',H4,I4,r4,q4⟩=>ho' pins s4 σ H4 y z' u w' Q I4 r2 r4 q4))
theorem zcd {op op':CmpOp}{r r':R2}(ho:OpR X (compareOp op) r)(ho':OpR X (compareOp op') r')(ha:PE X a ta)(hb:PE X b tb)(hc:PE X c tc)
  (hm:lastMarks [op,op'] [b,c]=false:=by with_unfolding_all rfl):PT X (.Compare a [op,op'] [b,c] pos) (zaI (qN r r' ta tb tc)):=by
 intro pins s σ H Q I h;refine isTrue_chain (thn (ha pins s σ H _ I h) λv s1 ⟨x,H1,I1,r1,q1⟩=>test_link (thn (hb pins s1 σ H1 _ I1 q1) λu s2 ⟨y,H2,I2,r2,q2⟩ =>
  thn (ho pins s2 σ H2 x y v u _ I2 r1 r2 q2) λd s3 ⟨z,H3,I3,r3,k,e,q3⟩=>?_)) hm
 subst e;cases r3;refine wpAny_truthy_bool ?_;cases k with
 | false =>
  obtain ⟨k',e',q'⟩:=q3;cases e';exact ite_ff ⟨H3,I3,q'⟩
 | true =>
  refine ite_tt (test_last (thn (hc pins s3 σ H3 _ I3 q3) λw' s4 ⟨z',H4,I4,r4,q4⟩=>thn (ho' pins s4 σ H4 y z' u w' _ I4 r2 r4 q4) λd' s5 ⟨z2,H5,I5,r5,k2,e2,q5⟩=>?_));subst e2;cases r5;exact wpAny_truthy_bool ⟨H5,I5,q5⟩
theorem jQ:(sizeLine:Nat) < 2 ^ 63:=by rw[sizeLine_eq];decide
theorem gI {x:V}{us:List Value}(r:Vals [x] us):∃u,us=[u]/\RelV x u:=by
 cases r with
 | cons r1 r2=>cases r2;exact ⟨_,rfl,r1⟩
theorem zii {x y:V}{us:List Value}(r:Vals [x,y] us):∃u w',us=[u,w']/\RelV x u/\RelV y w':=by
 cases r with
 | cons r1 r2 =>
  cases r2 with
  | cons r3 r4=>cases r4;exact ⟨_,_,rfl,r1,r3⟩
theorem zbx (hc:X.calm=true):CallR X (.builtin "max") (λxs H Q=>∃i j,xs=[.int i,.int j]/\Q (.int (if j > i then j else i)) H):=by
 intro pins s σ H xs us Q I r h;obtain ⟨i,j,rfl,q⟩:=h;obtain ⟨u,w',rfl,⟨t,rfl⟩,⟨t',rfl⟩⟩:=zii r;refine max_two_ints (I.ok.hd hc) λh' tk k=>⟨_,H,I.kept k,?_,q⟩;by_cases hj:j > i
 .rw[if_pos hj,if_pos hj];exact ⟨_,rfl⟩
 .rw[if_neg hj,if_neg hj];exact ⟨_,rfl⟩
theorem zby:CallR X (.type "int") (λxs H Q=>(∃i,xs=[.int i]/\Q (.int i) H)\/∃k,xs=[.bl k]/\Q (.int (if k then 1 else 0)) H):=by
 intro pins s σ H xs us Q I r h;rcases h with ⟨i,rfl,q⟩ | ⟨k,rfl,q⟩
 .obtain ⟨u,rfl,t,rfl⟩:=gI r;exact call_int_int ⟨.int i,H,I,⟨_,rfl⟩,q⟩
 .obtain ⟨u,rfl,r1⟩:=gI r;cases r1;exact call_int_bool ⟨.int (if k then 1 else 0),H,I.tok _,⟨_,rfl⟩,q⟩
end
structure ObjM (h:Heap)(x dx C:Addr)(mA:Str->Option Value):Prop where
 obj:h.get? x=some (PySem.W.instObj C dx)
 ns:h.Ns1 dx mA
 ne:dx≠x
theorem zj2 {v:V}{o:Option Value}(r:RelO (some v) o):∃u,o=some u/\RelV v u:=by
 cases o with
 | none=>exact (show False from r).elim
 | some u=>exact ⟨u,rfl,r⟩
structure Cls (K:PySem.W.Frag)(C:Addr):Prop where
 pg:PySem.W.plainGet K C Str.empty=true
 hd:PySem.W.hasDictIn K C=true
 po:PySem.W.plainOver K C=true
 sa:PySem.W.findIn K (.ref C) "__setattr__" = some (some (.builtin "object.__setattr__"))
section
variable {H:Hp}
inductive TyOf (K:PySem.W.Frag)(H:Hp):V->Value->Prop where
 | non:TyOf K H .non (.type "NoneType")
 | bl (x:Bool):TyOf K H (.bl x) (.type "bool")
 | int (i:Int):TyOf K H (.int i) (.type "int")
 | str (x:Str):TyOf K H (.str x) (.type "str")
 | flt (x:UInt64):TyOf K H (.flt x) (.type "float")
 | lst {a:Addr}{xs:List V}(e:H a=some (.lst xs)):TyOf K H (.ref a) (.type "list")
 | frz {a:Addr}{o:Obj}{xs:List V}(e:H a=some (.frz o (.lst xs))):TyOf K H (.ref a) (.type "list")
 | tup {a:Addr}{xs:List V}(e:H a=some (.tup xs)):TyOf K H (.ref a) (.type "tuple")
 | dK {a:Addr}{kvs:List (Key×V)}(e:H a=some (.dK kvs)):TyOf K H (.ref a) (.type "dict")
 | dT {a:Addr}{kvs:List (List Key×V)}(e:H a=some (.dT kvs)):TyOf K H (.ref a) (.type "dict")
 | ins {a C dx:Addr}{fs:List (Str×V)}(e:H a=some (.ins C dx fs)) (cl:Cls K C) (ha:PySem.W.findIn K (.ref C) "__class__" = some (some (.builtin "object.__class__")))
   (hn:PySem.W.specialIn K (.builtin "object.__class__") "__get__" = some (some (.builtin "getset_descriptor.__get__"))) (htk:PySem.W.takesIn K (.builtin "object.__class__")=some true)
   (hm:PySem.W.mroIn K C (.type "object")=some true):TyOf K H (.ref a) (.ref C)
end
structure Room (k:Nat)(A:Around):Prop where
 hd:A.handled=none
 dp:A.depth+3 * k+5 < recursionLimit
 un:A.units+16 * k+200 < cLine
theorem Room.deeper {k:Nat}{A:Around}(r:Room (k+1) A)(env:Env):Room k (A.deeper env) :=
 ⟨r.hd,by have:=r.dp;show A.depth+1+3 * k+5 < _;lia,by have:=r.un;show A.units+3+16 * k+200 < _;lia⟩
theorem Room.depth {k:Nat}{A:Around}(r:Room k A):A.depth < recursionLimit:=by have:=r.dp;lia
theorem Room.units {k:Nat}{A:Around}(r:Room k A):A.units+64 < cLine:=by have:=r.un;lia
def zgu:TA:=λ_ H Q=>Q [] H
def zaK (ta:TE)(tr:TA):TA:=λσ H Q=>ta σ H λx H1=>tr σ H1 λxs H2=>Q (x::xs) H2
section
variable {X:Cx}{e:Expr}{es:List Expr}{te:TE}{t:TA}{pos:Pos}
theorem vp:PA X [] zgu:=λ_ _ _ _ H Q I h=>Calls.spliced_nil ⟨[],H,I,.nil,h⟩
theorem xy (ha:PE X e te)(hr:PA X es t)(hs:starEach (e::es) X.env=(false,eval e X.env)::starEach es X.env:=by rfl):PA X (e::es) (zaK te t):=by
 intro pos pins s σ H Q I h;rw[hs];show wpAny _ _ (spliced ((false,eval e X.env)::backTo pos (starEach es X.env))) _ _ s;refine Calls.spliced_cons (thn (ha pins s σ H _ I h) λu s1 ⟨x,H1,I1,r1,q1⟩=>?_);exact thn (hr pos pins s1 σ H1 _ I1 q1) λus s2 ⟨xs,H2,I2,r2,q2⟩=>⟨x::xs,H2,I2,.cons r1 r2,q2⟩
def tTup (t:TA):TE:=λσ H Q=>t σ H λxs H1=>xs.length<=sizeLine/\∀p,H1 p=none->Q (.ref p) (upd H1 p (.tup xs))
def tLst (t:TA):TE:=λσ H Q=>t σ H λxs H1=>xs.length<=sizeLine/\∀p,H1 p=none->Q (.ref p) (upd H1 p (.lst xs))
theorem zgv {x1}(h:PA X es t):PE X (.Tuple es x1 pos) (tTup t):=by
 intro pins s σ H Q I hq;refine wpAny_Tuple_spliced (thn (h pos pins s σ H _ I hq) λus s1 ⟨xs,H1,I1,r,z,q⟩=>⟨by rw[<- r.length];exact z,?_⟩);have hf:H1 s1.heap.objs.size=none:=I1.hok.fresh (Nat.le_refl _);refine ⟨.ref s1.heap.objs.size,upd H1 s1.heap.objs.size (.tup xs),I1.laid (t':=s1.toks) (λb u e=>Heap.get?_push_of_some _ e) (Nat.le_refl _) ?_,rfl,q _ hf⟩;exact ⟨z,us,r,⟨_,Heap.get?_push_size _ rfl,rfl,_,rfl⟩⟩
theorem zgw (h:PA X es t):PE X (.List es pos) (tLst t):=by
 intro pins s σ H Q I hq;refine wpAny_List_spliced (thn (h pos pins s σ H _ I hq) λus s1 ⟨xs,H1,I1,r,z,q⟩=>⟨by rw[<- r.length];exact z,?_⟩);have hf:H1 s1.heap.objs.size=none:=I1.hok.fresh (Nat.le_refl _);refine ⟨.ref s1.heap.objs.size,upd H1 s1.heap.objs.size (.lst xs),I1.laid (t':=s1.toks) (λb u e=>Heap.get?_push_of_some _ e) (Nat.le_refl _) ?_,rfl,q _ hf⟩;exact ⟨z,us,0,r,Heap.get?_push_size _ rfl⟩
end
abbrev Sp:=List V->Hp->VK->XK->Prop
abbrev CXT:=List Env->Hp->Shared->XK->Value->Shared->Prop
structure Env0 (P:Program)(w:World)(K:PySem.W.Frag)(mg:Str->Option Value)(base:Heap)(A:Around)(outer:List Env)(s:Shared)(H:Hp):Prop where
 frames:A.frames=some outer
 mod:Mod K mg base
 bs:∀b o,base.get? b=some o->s.heap.get? b=some o/\H b=none
 bsz:base.objs.size<=s.heap.objs.size
 funs:s.heap.FunFrames base outer
 frf:∀b∈frs outer,H b=none
 hok:HOk P w H s.heap
 bare:AllBare s.gens
def CE (outer:List Env)(P:Program)(w:World)(H:Hp)(s:Shared)(Q:VK)(u:Value)(s':Shared):Prop :=
 ∃v H',s'.os=s.os/\AllBare s'.gens/\Un (frs outer) [] H H' s.heap s'.heap/\HOk P w H' s'.heap/\RelV v u/\Q v H'
def CR (CX:CXT)(outer:List Env)(P:Program)(w:World)(H:Hp)(s:Shared)(Q:VK)(E:XK)(r:Result)(s':Shared):Prop :=
 match r with
 | .ok (.ret u)=>CE outer P w H s Q u s'
 | .ok _=>False
 | .error e=>CX outer H s E e s'
structure FnOk (P:Program)(w:World)(K:PySem.W.Frag)(mg:Str->Option Value)(base:Heap)(CX:CXT)(k:Nat)(f:Addr)(fd:FuncData)(ps:List Str)(sp:Sp):Prop where
 len:∀vs H Q E,sp vs H Q E->vs.length=ps.length
 run:∀ (A:Around) (outer:List Env) (s:Shared) (H:Hp) (args:Args) (us:List Value) (vs:List V) (Q:VK) (E:XK),Room k A->Env0 P w K mg base A outer s H->BindsTo s fd args (ps.zip us)->Vals vs us->sp vs H Q E ->
  codeAny (model P w) A (.call (.ref f) args) (CR CX outer P w H s Q E) s
section
variable {X:Cx}{pins:List (Addr×Obj)}{σ:St}{H:Hp}{s s':Shared}
theorem Inv.env0 (I:Inv X pins σ H s):Env0 X.prog X.w X.K X.mg X.base X.A X.stack s H :=
 ⟨I.ok.frames,I.ok.mod,I.bs,Nat.le_trans I.ok.bsz I.sz,I.stack,I.stkFree,I.hok,I.bare⟩
theorem Inv.after {Q:VK}{u:Value}(I:Inv X pins σ H s)(h:CE X.stack X.prog X.w H s Q u s'):EP X pins σ Q u s':=by
 obtain ⟨v,H',os,bare,un,hok,r,q⟩:=h;obtain ⟨hh,g,d,t,os'⟩:=s';obtain rfl:os'=s.os:=os;exact ⟨v,H',I.call (h':=hh) (g':=g) (d':=d) (t':=t) (ch:=[]) un hok bare (λb z=>absurd z (by simp)),r,q⟩
end
def zij (sp:Sp)(dvs:List V)(E:XK)(t:TA):TE:=λσ H Q=>t σ H λvs H1=>sp (vs++dvs) H1 Q E
def Binds (K:PySem.W.Frag)(fd:FuncData)(ps:List Str)(ds:List Value):Prop :=
 ∀ (s:Shared) (us:List Value),K.In s.heap->(us++ds).length=ps.length->BindsTo s fd ⟨us,[]⟩ (ps.zip (us++ds))
theorem Binds.all {K:PySem.W.Frag}{fd:FuncData}{ps:List Str}(h:∀us:List Value,us.length=ps.length->bindArgs fd ⟨us,[]⟩=pure (ps.zip us)):Binds K fd ps []:=λs us _ hl=>by
 rw[List.append_nil] at hl ⊢;exact .of_eq (h us hl)
def qO (CX:CXT)(X:Cx)(E:XK):Prop:=∀ (pins:List (Addr×Obj)) (σ:St) (H:Hp) (s:Shared) (e:Value) (s':Shared),Inv X pins σ H s->CX X.stack H s E e s'->X.xe e s'
section
variable {X:Cx}{CX:CXT}{k:Nat}{f:Addr}{fd:FuncData}{ps:List Str}{sp:Sp}{dvs:List V}{ds:List Value}{E:XK}{x:Str}{p pos:Pos}{e:Expr}{es:List Expr}{t:TA}
theorem zgx {pins:List (Addr×Obj)}{σ:St}{H:Hp}{s:Shared}{Q:VK}{us:List Value}{vs:List V}(F:FnOk X.prog X.w X.K X.mg X.base CX k f fd ps sp)(hr:Room k X.A)(hb:Binds X.K fd ps ds)(hd:Vals dvs ds)(hx:qO CX X E)
  (I:Inv X pins σ H s) (r:Vals vs us) (h:sp (vs++dvs) H Q E):wpAny (model X.prog X.w) X.A (call (.ref f) us) (EP X pins σ Q) X.xe s:=by
 have r2:Vals (vs++dvs) (us++ds):=r.append hd;have hl:(us++ds).length=ps.length:=by rw[<- r2.length];exact F.len _ _ _ _ h
 refine wpAny_call (codeAny_mono (F.run X.A X.stack s H ⟨us,[]⟩ (us++ds) (vs++dvs) Q E hr I.env0 (hb s us I.kIn hl) r2 h) λr s' hq=>?_);cases r with
 | error e=>exact hx pins σ H s e s' I hq
 | ok fl =>
  cases fl with
  | ret u=>exact I.after hq
  | next=>exact False.elim hq
  | brk=>exact False.elim hq
  | cont=>exact False.elim hq
theorem zec (F:FnOk X.prog X.w X.K X.mg X.base CX k f fd ps sp)(hr:Room k X.A)(hg:Gl X x)(hm:X.mg x=some (.ref f))(hk:PySem.W.keepIn X.K (.ref f)=true)(hb:Binds X.K fd ps ds)(hd:Vals dvs ds)(hx:qO CX X E)
  (ha:PA X (e::es) t) (hdb:(x == ("__debug__" : Str))=false:=by decide) (he:starEach (e::es) X.env=(false,eval e X.env)::starEach es X.env:=by rfl) (hpl:(backTo pos (starEach es X.env)).any (·.1)=false:=by rfl) :
  PE X (.Call (.Name x p) (e::es) [] pos) (zij sp dvs E t):=by
 intro pins s σ H Q I h;refine wpAny_Call_Name_kw (zaE I hg hm ?_ hdb);refine PySem.W.callWith_K (h₀:=X.base) I.ok.mod.kin hk (thn (ha pos pins s σ H _ I h) λus s1 ⟨vs,H1,I1,r,q⟩=>⟨I1.kIn,?_⟩) he hpl;exact zgx F hr hb hd hx I1 r q
end
structure FnScope (N P:List Str)(sc:Scope):Prop where
 kind:sc.kind=.function
 co:sc.isCoroutine=false
 gen:sc.isGenerator=false
 nd:N.Nodup
 pre:N.take P.length=P
 par:∀x∈P,sc.names.lookup x=some .local\/sc.names.lookup x=some .cell
 nofree:∀y∈sc.names,y.2≠.free
theorem jv {kindOf:Str->Option NameKind}{x:Str}:∀ {binds:List (Str×Value)}{m:Str->Option Value},(∀v,(x,v)∉binds)->bindL kindOf binds m x=m x
 | [],_,_=>rfl
 | (n,v)::r,m,h=>by
  unfold bindL;rw[jv λw hw=>h w (List.mem_cons_of_mem _ hw)];split
  .have:x≠n:=by rintro rfl;exact h v List.mem_cons_self
   simp[this]
  .rfl
theorem jw {kindOf:Str->Option NameKind}{x:Str}:∀ {binds:List (Str×Value)}{m:Str->Option Value},(∀v,(x,v)∉binds)->bindC kindOf binds m x=m x
 | [],_,_=>rfl
 | (n,v)::r,m,h=>by
  unfold bindC;rw[jw λw hw=>h w (List.mem_cons_of_mem _ hw)];split
  .rfl
  .have:x≠n:=by rintro rfl;exact h v List.mem_cons_self
   simp[this]
theorem jx {kindOf:Str->Option NameKind}{x:Str}{v:Value}:∀ {P:List Str}{vs:List Value}{i:Nat}{m:Str->Option Value},P.Nodup->P[i]?=some x->vs[i]?=some v->kindOf x=some .local ->
  bindL kindOf (P.zip vs) m x=some v
 | [],_,_,_,_,h,_,_=>by simp at h
 | _::_,[],_,_,_,_,h,_=>by simp at h
 | p::P,w::vs,0,m,nd,h1,h2,hk=>by
  simp at h1 h2;subst h1;subst h2;show bindL kindOf ((p,w)::P.zip vs) m p=_;unfold bindL;rw[jv λv hv=>(List.nodup_cons.mp nd).1 (List.of_mem_zip hv).1,if_pos hk];simp
 | p::P,w::vs,i+1,m,nd,h1,h2,hk=>by
  show bindL kindOf ((p,w)::P.zip vs) m x=_;unfold bindL;exact jx (i:=i) (List.nodup_cons.mp nd).2 (by simpa using h1) (by simpa using h2) hk
theorem jy {kindOf:Str->Option NameKind}{x:Str}{v:Value}:∀ {P:List Str}{vs:List Value}{i:Nat}{m:Str->Option Value},P.Nodup->P[i]?=some x->vs[i]?=some v->kindOf x≠some .local ->
  bindC kindOf (P.zip vs) m x=some v
 | [],_,_,_,_,h,_,_=>by simp at h
 | _::_,[],_,_,_,_,h,_=>by simp at h
 | p::P,w::vs,0,m,nd,h1,h2,hk=>by
  simp at h1 h2;subst h1;subst h2;show bindC kindOf ((p,w)::P.zip vs) m p=_;unfold bindC;rw[jw λv hv=>(List.nodup_cons.mp nd).1 (List.of_mem_zip hv).1,if_neg hk];simp
 | p::P,w::vs,i+1,m,nd,h1,h2,hk=>by
  show bindC kindOf ((p,w)::P.zip vs) m x=_;unfold bindC;exact jy (i:=i) (List.nodup_cons.mp nd).2 (by simpa using h1) (by simpa using h2) hk
noncomputable def start (N:List Str)(vs:List V):St:=vs.map some++List.replicate (N.length - vs.length) none
noncomputable def gJ (CX:CXT)(P:Program)(w:World)(K:PySem.W.Frag)(mg:Str->Option Value)(base:Heap)(N:List Str)(qual:Str)(scope:Scope)(f:Addr)(cd:Value)(A:Around)(outer:List Env)(s:Shared)(H:Hp)(E:XK):Cx where
 prog:=P
 w:=w
 K:=K
 mg:=mg
 base:=base
 A:=A.deeper (envOfC qual scope s.heap.objs.size f cd)
 N:=N
 s₀:=s
 H₀:=H
 env:=envOfC qual scope s.heap.objs.size f cd
 outer:=outer
 stack:=envOfC qual scope s.heap.objs.size f cd::outer
 ex:=[]
 calm:=true
 fn:=λ_=>true
 pn:=[]
 xe:=λe s'=>wpAny (model P w) (A.deeper (envOfC qual scope s.heap.objs.size f cd)) (leaving (envOfC qual scope s.heap.objs.size f cd) e) (λ_ s''=>CX outer H s E e s'') (λe' s''=>CX outer H s E e' s'') s'
theorem gK {sc:Scope}{n:Nat}{x:Str}(h:sc.names.lookup x=some .cell):∃c,(cellsFrom n sc.names []).lookup x=some c:=by
 have q:=PySem.W.cellsFrom_some sc.names n [] (.inl h);exact Option.isSome_iff_exists.mp q
theorem zbz {CX:CXT}{P:Program}{w:World}{K:PySem.W.Frag}{mg:Str->Option Value}{base:Heap}{N ps:List Str}{qual:Str}{scope:Scope}{f:Addr}{cd:Value}{A:Around}{outer:List Env}{s s1:Shared}{H:Hp}{E:XK}{us:List Value}{vs:List V}
  (S:FnScope N ps scope) (hd:A.handled=none) (e0:Env0 P w K mg base A outer s H) (hl:vs.length=ps.length) (r:Vals vs us)
  (x:InCallC s s.heap.objs.size (bindL (envOfC qual scope s.heap.objs.size f cd).kindOf (ps.zip us) λ_=>none) (cellsFrom (s.heap.objs.size+1) scope.names []) (bindC (envOfC qual scope s.heap.objs.size f cd).kindOf (ps.zip us) λ_=>none) s1) :
  Inv (gJ CX P w K mg base N qual scope f cd A outer s H E) [] (start N vs) H s1:=by
 have hpl:ps.length<=N.length:=by have:=congrArg List.length S.pre;rw[List.length_take] at this;lia
 obtain ⟨h1,tk,rfl,hk⟩:=x.done;have noA:∀b:Addr,b∉(gJ CX P w K mg base N qual scope f cd A outer s H E).ex:=λb z=>absurd (show b∈([]:List Addr) from z) (by simp);refine ⟨⟨e0.mod,S.kind,rfl,rfl,Nat.le_refl _,λy z c h1 h2=>?_,λy hy=>?_,λy c _ h=>?_,λ_=>hd,Around.frames_deeper e0.frames,.inr ⟨rfl,rfl⟩,λb z=>absurd z (noA b),e0.bs,e0.bsz,λb _ _=>noA b,λb z=>absurd z (noA b),e0.funs,e0.frf⟩,
  rfl,e0.bare,Un.kept hk,⟨_,x.toInCall.ns,λi y v h1 h2 h3=>?_⟩,λy c h=>⟨_,x.cell y c h⟩,e0.hok.fresh (Nat.le_refl _),λy c h=>?_,λp hp=>absurd (show p∈([]:List (Addr×Obj)) from hp) (by simp),e0.hok.kept hk,?_⟩
 .exact name_of_addr x.apart (PySem.mem_of_lookup h1) (PySem.mem_of_lookup h2)
 .have hy:scope.names.lookup y=some .cell\/scope.names.lookup y=some .free:=hy;rcases hy with hy | hy
  .exact gK hy
  .exact absurd rfl (S.nofree _ (PySem.mem_of_lookup hy))
 .exact Nat.le_of_lt (x.above y c (PySem.mem_of_lookup h))
 .have hi:i < vs.length:=by
   unfold start at h2;by_cases hi:i < vs.length
   .exact hi
   .rw[List.getElem?_append_right (by simpa using hi)] at h2;rw[List.getElem?_replicate] at h2;split at h2 <;> cases h2
  have ha:vs[i]?=some v:=by
   unfold start at h2;rw[List.getElem?_append_left (by simpa using hi),List.getElem?_map] at h2;cases e:vs[i]? with
   | none=>rw[e] at h2;cases h2
   | some a=>rw[e] at h2;cases h2;rfl
  obtain ⟨u,hu,rv⟩:=r.get ha;have hp:ps[i]?=some y:=by
   rw[<- S.pre,List.getElem?_take_of_lt (by lia)];exact h1
  have ndP:ps.Nodup:=by rw[<- S.pre];exact S.nd.sublist (List.take_sublist _ _)
  refine ⟨u,rv,?_⟩;rcases S.par y (List.mem_of_getElem? hp) with k | k
  .exact .inl ⟨k,jx ndP hp hu k⟩
  .obtain ⟨c,e⟩:=gK (n:=s.heap.objs.size+1) k;refine .inr ⟨.inl k,c,e,?_⟩;have q:=x.cell y c e;rw[jy ndP hp hu (by show scope.names.lookup y≠_;rw[k];decide)] at q;exact q
 .exact e0.hok.fresh (Nat.le_of_lt (x.above y c (PySem.mem_of_lookup h)))
 .unfold start;show _=N.length;rw[List.length_append,List.length_map,List.length_replicate];lia
set_option tactic.hygienic true in
theorem zik {CX:CXT}{P:Program}{w:World}{K:PySem.W.Frag}{mg:Str->Option Value}{base:Heap}{k:Nat}{f:Addr}{name qual:Str}{params:Arguments}{body:List Stmt}{scope:Scope}{dV kV doc pm cdv ct oc:Value}{an od:Option Addr}
  {osl:Array (Option Value)}{N ps:List Str}{sp:Sp}(lk:K.lookup f=some ⟨oc,od,.func (PySem.W.fnOf name qual params body scope dV kV doc pm an cdv ct),osl⟩) (hcd:PySem.W.codeIn K cdv qual=true) (S:FnScope N ps scope)
  (len:∀vs H Q E,sp vs H Q E->vs.length=ps.length)
  (hbody:∀ (A:Around) (outer:List Env) (s:Shared) (H:Hp) (vs:List V) (Q:VK) (E:XK),Room k (A.deeper (envOfC qual scope s.heap.objs.size f cdv))->sp vs H Q E ->
   ∃t,PSs (gJ CX P w K mg base N qual scope f cdv A outer s H E) body t/\t { nx:=λ_ H'=>Q .non H',rt:=Q } (start N vs) H) :
  FnOk P w K mg base CX (k+1) f (PySem.W.fnOf name qual params body scope dV kV doc pm an cdv ct) ps sp:=by
 refine ⟨len,λA outer s H args us vs Q E hr e0 hb r hsp=>?_⟩;have hl:=len _ _ _ _ hsp;have KX:K.In s.heap:=e0.mod.kin.keeps λb o e=>(e0.bs b o e).1;have lim:s.heap.NoLimit:=e0.mod.nolimit.keeps λb o e=>(e0.bs b o e).1;have hkind:∀y∈ps.zip us,scope.names.lookup y.1=some .local\/(scope.names.lookup y.1=some .cell/\((cellsFrom (s.heap.objs.size+1) scope.names []).lookup y.1).isSome=true):=λ⟨n,v⟩ hy=>by
  rcases S.par n (List.of_mem_zip hy).1 with q | q
  .exact .inl q
  .exact .inr ⟨q,PySem.W.cellsFrom_some _ _ _ (.inl q)⟩
 refine codeAny_call_function hr.depth (KX _ _ lk) rfl S.co S.gen rfl (PySem.W.codeRec_of KX hcd) (hb _ _ _ _ ?_);refine wpAny_newFunctionEnv_cells S.kind hkind λenv he s1 x=>?_;subst he;refine ⟨lim.keeps x.toInCall.keep,codeAny_func ?_⟩;obtain ⟨t,ht,hq⟩:=hbody A outer s H vs Q E (hr.deeper _) hsp;have I:Inv (gJ CX P w K mg base N qual scope f cdv A outer s H E) [] (start N vs) H s1:=zbz S hr.hd e0 hl r x;refine wpAny_mono (ht [] s1 (start N vs) H _ I hq) (λfl s' hs=>?_) λe s' hs=>hs;have fin:∀ {σ':St}{H':Hp}{v:V}{u:Value},Inv (gJ CX P w K mg base N qual scope f cdv A outer s H E) [] σ' H' s'->RelV v u->Q v H'->CE outer P w H s Q u s' :=
  λ{σ' H' v u} J rv q=>⟨v,H',J.os,J.bare,J.base,J.hok,rv,q⟩
 cases fl with
 | ret u =>
  obtain ⟨v,σ',H',J,rv,q⟩:=hs;exact fin J rv q
 | next =>
  obtain ⟨σ',H',J,q⟩:=hs;exact fin (v:=V.non) (u:=Value.none) J rfl q
 | brk =>
  obtain ⟨_,_,_,q⟩:=hs;exact False.elim q
 | cont =>
  obtain ⟨_,_,_,q⟩:=hs;exact False.elim q
section
variable {X:Cx}{x:Str}{p pos:Pos}{e:Expr}{es:List Expr}{t:TA}{id T:String}{r:List V->Hp->VK->Prop}
def tCB (r:List V->Hp->VK->Prop)(t:TA):TE:=λσ H Q=>t σ H λvs H1=>r vs H1 Q
theorem kD (hc:CallR X (.builtin id) r)(hg:Gl X x)(hm:X.mg x=none)(hv:bootBuiltins x=some (.builtin id))(ha:PA X (e::es) t)(hn:x ≠ "__name__" := by decide)(hdb:(x == ("__debug__" : Str))=false:=by decide)
  (he:starEach (e::es) X.env=(false,eval e X.env)::starEach es X.env:=by rfl) (hpl:(backTo pos (starEach es X.env)).any (·.1)=false:=by rfl):PE X (.Call (.Name x p) (e::es) [] pos) (tCB r t):=by
 intro pins s σ H Q I h;refine wpAny_Call_Name_kw (wH I hg hm hv ?_ hn hdb);exact PyProof.Rows.callWith_builtin1 (thn (ha pos pins s σ H _ I h) λus s1 ⟨vs,H1,I1,r1,q1⟩=>hc pins s1 σ H1 vs us Q I1 r1 q1) he hpl
theorem jz (hc:CallR X (.type T) r)(hg:Gl X x)(hm:X.mg x=none)(hv:bootBuiltins x=some (.type T))(ha:PA X (e::es) t)(hn:x ≠ "__name__" := by decide)(hdb:(x == ("__debug__" : Str))=false:=by decide)
  (he:starEach (e::es) X.env=(false,eval e X.env)::starEach es X.env:=by rfl) (hpl:(backTo pos (starEach es X.env)).any (·.1)=false:=by rfl):PE X (.Call (.Name x p) (e::es) [] pos) (tCB r t):=by
 intro pins s σ H Q I h;refine wpAny_Call_Name_kw (wH I hg hm hv ?_ hn hdb);exact PyProof.Rows.callWith_type1 (thn (ha pos pins s σ H _ I h) λus s1 ⟨vs,H1,I1,r1,q1⟩=>hc pins s1 σ H1 vs us Q I1 r1 q1) he hpl
end
end L2
namespace HT
open PySem PyProof.Rows
section
variable {prog:Program}{w:World}{A:Around}{E:Value->Shared->Prop}{s:Shared}
theorem cat_tup {t b:Addr}{vs ws:List Value}{Q:Value->Shared->Prop}(ht:IsTup s.heap t vs.toArray)(hb:IsTup s.heap b ws.toArray)(hv:vs≠[])
  (h1:ws=[]->Q (.ref t) s) (h2:ws≠[]->Q (.ref s.heap.objs.size) { s with heap:=s.heap.push { cls:=.type "tuple",data:=.seq (vs++ws).toArray } })
  (hsz:vs.length+ws.length<=sizeLine):wpAny (model prog w) A (binaryOp .Add (.ref t) (.ref b)) Q E s:=by
 obtain ⟨⟨cls,dd,data,sl⟩,ho,hc,n,hd⟩:=id ht;obtain ⟨⟨cls2,dd2,data2,sl2⟩,ho2,hc2,n2,hd2⟩:=id hb;simp only at hc hd hc2 hd2;subst hc hd hc2 hd2;have e:vs.toArray++ws.toArray=(vs++ws).toArray:=by simp
 by_cases hw:ws=[]
 .exact concat_meets ⟨_,ho,rfl⟩ ⟨_,ho2,rfl⟩ noFill_tuple_add seq_tuple_add PySem.F.slot_tuple_add PySem.F.entry_tuple_add (PySem.F.args_tuple_add_2 _ _)
   (tuple_addW1 t b vs.toArray ws.toArray n n2 dd dd2 sl sl2 (by simpa using hv) (by simp[hw])) ⟨ho,ho2,h1 hw⟩
 .refine concat_meets ⟨_,ho,rfl⟩ ⟨_,ho2,rfl⟩ noFill_tuple_add seq_tuple_add PySem.F.slot_tuple_add PySem.F.entry_tuple_add (PySem.F.args_tuple_add_2 _ _)
   (tuple_addW2 t b vs.toArray ws.toArray n n2 dd dd2 sl sl2 (by simpa using hv) (by simpa using hw) (by rw[List.size_toArray,List.size_toArray];exact hsz)) ⟨ho,ho2,?_⟩
  rw[e];exact h2 hw
noncomputable def sIx (n d:Nat):Option Int->Nat
 | none=>d
 | some v=>if v < 0 then (v+(n:Int)).toNat else min v.toNat n
end
end HT
namespace L2
open PySem PySem.Spec PyProof.Rows
abbrev TO:=St->Hp->(Option Int->Hp->Prop)->Prop
section
variable {X:Cx}{p2:Pos}
def zfL (K:PySem.W.Frag):R2:=λx y H Q=>∃a b xs ys,x=.ref a/\y=.ref b/\SqT K H a xs/\SqT K H b ys/\xs≠[]/\xs.length+ys.length<=sizeLine /\
 (ys=[]->Q (.ref a) H)/\(ys≠[]->∀p,H p=none->Q (.ref p) (upd H p (.tup (xs++ys))))
theorem Vals.nil_iff {xs:List V}{us:List Value}(r:Vals xs us):us=[]↔xs=[]:=by
 cases r with
 | nil=>simp
 | cons _ _=>simp
theorem zed:OpR X (binaryOp .Add) (zfL X.K):=by
 intro pins s σ H x y v u Q I rx ry h;obtain ⟨a,b,xs,ys,rfl,rfl,ha,hb,hx,hz,q1,q2⟩:=h;cases rx;cases ry;obtain ⟨its,r1,p1,_⟩:=I.tuple ha;obtain ⟨its2,r2,p2,_⟩:=I.tuple hb;refine HT.cat_tup p1 p2 (λz=>hx (r1.nil_iff.mp z)) (λz=>⟨.ref a,H,I,rfl,q1 (r2.nil_iff.mp z)⟩) (λz=>?_) (by rw[<- r1.length,<- r2.length];exact hz);refine ⟨.ref s.heap.objs.size,_,I.laid (t':=s.toks) (o:=.tup (xs++ys)) (λb ob q=>Heap.get?_push_of_some _ q) (Nat.le_refl _) ?_,rfl,q2 (λw=>z (r2.nil_iff.mpr w)) _ (I.hok.fresh (Nat.le_refl _))⟩;exact ⟨by rw[List.length_append];exact hz,_,r1.append r2,IsTup.new _ _⟩
end
noncomputable def ixN (n:Nat)(i:Int):Option Nat:=if 0<=i then (if i < n then some i.toNat else none) else if -(n:Int)<=i then some (i+n).toNat else none
noncomputable def atI {α:Type}(xs:List α)(i:Int):Option α:=(ixN xs.length i).bind λj=>xs[j]?
theorem zee {n:Nat}{i:Int}{j:Nat}(h:ixN n i=some j):seqIndex? i n=some j/\j < n/\-(n:Int)<=i/\i < n:=by
 unfold ixN at h;by_cases h0:0<=i
 .rw[if_pos h0] at h;by_cases h1:i < n
  .rw[if_pos h1] at h;have e:i.toNat=j:=Option.some.inj h;exact ⟨by rw[seqIndex_of h0 h1,e],by lia,by lia,h1⟩
  .rw[if_neg h1] at h;cases h
 .rw[if_neg h0] at h;by_cases h1:-(n:Int)<=i
  .rw[if_pos h1] at h;have e:(i+n).toNat=j:=Option.some.inj h;exact ⟨by rw[seqIndex_neg (by lia) h1,e],by lia,h1,by lia⟩
  .rw[if_neg h1] at h;cases h
theorem jR {α:Type}{xs:List α}{i:Int}{v:α}(h:atI xs i=some v):∃j,seqIndex? i xs.length=some j/\xs[j]?=some v/\j < xs.length/\-(xs.length:Int)<=i/\i < xs.length:=by
 unfold atI at h;cases e:ixN xs.length i with
 | none=>rw[e] at h;cases h
 | some j =>
  rw[e] at h;obtain ⟨h1,h2,h3,h4⟩:=zee e;exact ⟨j,h1,h,h2,h3,h4⟩
def jS (b:Expr):Prop:=∀o i,subscripted b false o i=operate [o,i] (getItem o i)
def IxR (X:Cx)(r:R2):Prop :=
 ∀ (value slice:Expr) (pins:List (Addr×Obj)) (s:Shared) (σ:St) (H:Hp) (x y:V) (v u:Value) (Q:VK),Inv X pins σ H s->RelV x v->RelV y u->r x y H Q ->
  subscripted slice false v u=operate [v,u] (getItem v u)->wpAny (model X.prog X.w) X.A (subscriptTail value slice v u) (EP X pins σ Q) X.xe s
def MtR (X:Cx)(id:String)(r:V->List V->Hp->VK->Prop):Prop :=
 ∀ (pins:List (Addr×Obj)) (s:Shared) (σ:St) (H:Hp) (x:V) (xs:List V) (v:Value) (us:List Value) (Q:VK),Inv X pins σ H s->RelV x v->Vals xs us->r x xs H Q ->
  wpAny (model X.prog X.w) X.A (call (.builtin id) (v::us)) (EP X pins σ Q) X.xe s
section
variable {X:Cx}{a b:Expr}{ta tb:TE}{pos:Pos}
theorem IxR.or {r r':R2}(h:IxR X r)(h':IxR X r'):IxR X (λx y H Q=>r x y H Q\/r' x y H Q):=by
 intro value slice pins s σ H x y v u Q I rx ry q hs;rcases q with q | q
 .exact h value slice pins s σ H x y v u Q I rx ry q hs
 .exact h' value slice pins s σ H x y v u Q I rx ry q hs
theorem zaL {r:R2}(hr:IxR X r)(ha:PE X a ta)(hb:PE X b tb)(hs:jS b):PE X (.Subscript a b pos) (tOp r ta tb):=by
 intro pins s σ H Q I h;exact Subscript_ (zgk ha hb I h λv u s2 x y H2 I2 rx ry q=>hr a b pins s2 σ H2 x y v u Q I2 rx ry q (hs _ _))
def zil (K:PySem.W.Frag):R2:=λx y H Q=>∃p xs i v,x=.ref p/\y=.int i/\SqL K H p xs/\atI xs i=some v/\Q v H
def zim (K:PySem.W.Frag):R2:=λx y H Q=>∃p xs i v,x=.ref p/\y=.int i/\SqT K H p xs/\atI xs i=some v/\Q v H
def zin:R2:=λx y H Q=>∃z i c,x=.str z/\y=.int i/\z.length<=sizeLine/\atI z.cps.toList i=some c/\Q (.str ⟨#[c]⟩) H
theorem ix_list:IxR X (zil X.K):=by
 intro value slice pins s σ H x y v u Q I rx ry h hs;obtain ⟨p,xs,i,z,rfl,rfl,hq,he,q⟩:=h;cases rx;obtain ⟨t,rfl⟩:=ry;obtain ⟨its,r,pl,hz⟩:=I.list hq;obtain ⟨j,h1,h2,h3,h4,h5⟩:=jR he;obtain ⟨w,ew,rw'⟩:=r.get h2;have hl:=r.length;have hn:=jQ;have fin:EP X pins σ Q w s:=⟨z,H,I,rw',q⟩;by_cases h0:0<=i
 .have hj:i.toNat=j:=by
   rw[seqIndex_of h0 h5] at h1;exact Option.some.inj h1
  exact item_listR pl.isList h0 (by lia) (by rw[hj];simpa using ew) fin hs
 .have hj:(i+(its.toArray.size:Int)).toNat=j:=by
   rw[seqIndex_neg (by lia) h4] at h1;rw[List.size_toArray,<- hl];exact Option.some.inj h1
  exact subscriptTail_builtinR (x:=w) pl.isList.typeIs slot_list_getitem.lookup
   (wpAny_getItem_list_neg (Q:=λr s'=>r=w/\EP X pins σ Q r s') pl.isList (by lia) (by rw[List.size_toArray] <;> lia) (by lia) (by rw[hj];simpa using ew) ⟨rfl,fin⟩) hs
theorem ix_tup:IxR X (zim X.K):=by
 intro value slice pins s σ H x y v u Q I rx ry h hs;obtain ⟨p,xs,i,z,rfl,rfl,hq,he,q⟩:=h;cases rx;obtain ⟨t,rfl⟩:=ry;obtain ⟨its,r,pl,hz⟩:=I.tuple hq;obtain ⟨j,h1,h2,h3,h4,h5⟩:=jR he;obtain ⟨w,ew,rw'⟩:=r.get h2;have hl:=r.length;have hn:=jQ;have fin:EP X pins σ Q w s:=⟨z,H,I,rw',q⟩;exact subscriptTail_builtinR (x:=w) pl.typeIs slot_tuple_getitem.lookup
  (getItem_tuple (j:=j) (Q:=λr s'=>r=w/\EP X pins σ Q r s') pl (by lia) (by lia) (by rw[List.size_toArray,<- hl];exact h1) (by simpa using ew) ⟨rfl,fin⟩) hs
theorem zgy:IxR X zin:=by
 intro value slice pins s σ H x y v u Q I rx ry h hs;obtain ⟨z,i,c,rfl,rfl,hz,he,q⟩:=h;obtain ⟨t,rfl⟩:=rx;obtain ⟨t',rfl⟩:=ry;obtain ⟨j,h1,h2,h3,h4,h5⟩:=jR he;have hl:z.cps.toList.length=z.length:=by simp[Str.length]
 rw[hl] at h1 h4 h5;have hn:=jQ;exact tail_any (typeIs_str s z t) slot_str_getitem.lookup (getItem_str (c:=c) (by
  have e1:decide (i < -(2 ^ 63:Int))=false:=decide_eq_false (by lia);have e2:decide (i ≥ 2 ^ 63)=false:=decide_eq_false (by lia);rw[e1,e2,Bool.or_false]) (by rw[h1];simpa using h2) ⟨.str ⟨#[c]⟩,H,I.tok _,⟨_,rfl⟩,q⟩) hs
def rIx (K:PySem.W.Frag):R2:=λx y H Q=>zil K x y H Q\/zim K x y H Q\/zin x y H Q
theorem zgz:IxR X (rIx X.K):=ix_list.or (ix_tup.or zgy)
theorem jT:CallR X (.builtin "len") (λxs H Q=>∃p ys,xs=[.ref p]/\(SqL X.K H p ys\/SqT X.K H p ys)/\Q (.int ys.length) H):=by
 intro pins s σ H xs us Q I r h;obtain ⟨p,ys,rfl,hq,q⟩:=h;obtain ⟨u,rfl,rx⟩:=gI r;cases rx;have hn:=jQ;rcases hq with hq | hq
 .obtain ⟨its,r',pl,hz⟩:=I.list hq;have hlen:=r'.length;exact Calls.call_len_list pl.isList (by simp only[List.size_toArray] <;> lia) ⟨.int ys.length,H,I.tok _,⟨s.toks+1,by rw[List.size_toArray,hlen]⟩,q⟩
 .obtain ⟨its,r',pl,hz⟩:=I.tuple hq;have hlen:=r'.length;exact len_tuple pl (by simp only[List.size_toArray] <;> lia) ⟨.int ys.length,H,I.tok _,⟨s.toks+1,by rw[List.size_toArray,hlen]⟩,q⟩
theorem jU:CallR X (.type "list") (λxs H Q=>∃p ys,xs=[.ref p]/\(SqL X.K H p ys\/SqT X.K H p ys)/\∀l,H l=none->Q (.ref l) (upd H l (.lst ys))):=by
 intro pins s σ H xs us Q I r h;obtain ⟨p,ys,rfl,hq,q⟩:=h;obtain ⟨u,rfl,rx⟩:=gI r;cases rx;have fin:∀ (its:List Value),Vals ys its->ys.length<=sizeLine->∀ (h':Heap) (c':Nat),(∀b o',s.heap.get? b=some o'->h'.get? b=some o') ->
   h'.get? s.heap.objs.size=some { cls:=.type "list",dict:=none,data:=.seq its.toArray c',slots:=#[] }->EP X pins σ Q (.ref s.heap.objs.size) { s with heap:=h' }:=λits r' hz h' c' kp e =>
  ⟨.ref s.heap.objs.size,_,I.laid (t':=s.toks) kp (Nat.le_refl _) (show ObjOk X.prog X.w _ h' _ (.lst ys) from ⟨hz,its,c',r',e⟩),rfl,q _ (I.hok.fresh (Nat.le_refl _))⟩
 rcases hq with hq | hq
 .obtain ⟨its,r',pl,hz⟩:=I.list hq;have hlen:=r'.length;obtain ⟨o,ho,hc,n,hd⟩:=pl.isList;exact call_list_seq p (.inl rfl) ho hc hd (λh' c' kp e=>fin its r' hz h' c' kp e) (by simp only[List.size_toArray] <;> lia)
 .obtain ⟨its,r',pl,hz⟩:=I.tuple hq;have hlen:=r'.length;obtain ⟨o,ho,hc,n,hd⟩:=pl;exact call_list_seq p (.inr rfl) ho hc hd (λh' c' kp e=>fin its r' hz h' c' kp e) (by simp only[List.size_toArray] <;> lia)
def tyV (K:PySem.W.Frag)(T:String)(x:V)(H:Hp):Prop:=match x with
 | .str _=>T = "str"
 | .int _=>T = "int"
 | .ref p=>(T = "list" /\ ∃xs,SqL K H p xs)\/(T = "tuple" /\ ∃o,K.lookup p=some o/\o.cls=.type "tuple" /\ o.dict=none) \/
   (T = "dict" /\ ((∃kvs,H p=some (.dK kvs))\/∃kvs,H p=some (.dT kvs)))\/(T = "set" /\ ∃S n,H p=some (.set S n))
 | _=>False
theorem zce {pins:List (Addr×Obj)}{σ:St}{H:Hp}{s:Shared}{T:String}{x:V}{v:Value}(I:Inv X pins σ H s)(r:RelV x v)(ty:tyV X.K T x H):
  s.TypeIs v T/\∀a,v=.ref a->∃ob,s.heap.get? a=some ob/\ob.dict=none:=by
 cases x with
 | str z =>
  obtain ⟨t,rfl⟩:=r;cases (show T = "str" from ty);exact ⟨typeIs_str s z t,λ_ e=>nomatch e⟩
 | int i =>
  obtain ⟨t,rfl⟩:=r;cases (show T = "int" from ty);exact ⟨typeIs_int s i t,λ_ e=>nomatch e⟩
 | ref p =>
  cases r;rcases ty with ⟨rfl,xs,hq⟩ | ⟨rfl,o,hk,hc,hd⟩ | ⟨rfl,hk⟩ | ⟨rfl,S,n,hk⟩
  .obtain ⟨its,_,pl,_⟩:=I.list hq;refine ⟨pl.isList.typeIs,λa e=>?_⟩;cases e;obtain ⟨o,n,e,c,hd,_⟩:=pl;exact ⟨o,e,hd⟩
  .refine ⟨⟨o,I.kIn p o hk,hc⟩,λa e=>?_⟩;cases e;exact ⟨o,I.kIn _ o hk,hd⟩
  .have z:∃o,s.heap.get? p=some o/\o.ExactDict:=by
    rcases hk with ⟨kvs,hk⟩ | ⟨kvs,hk⟩
    .obtain ⟨_,_,_,_,o,_,_,e,ex,_⟩:=I.hok p _ hk;exact ⟨o,e,ex⟩
    .obtain ⟨_,_,_,_,o,_,_,e,ex,_⟩:=I.hok p _ hk;exact ⟨o,e,ex⟩
   obtain ⟨o,e,ex⟩:=z;refine ⟨⟨o,e,ex.1⟩,λa e2=>?_⟩;cases e2;exact ⟨o,e,ex.2.1⟩
  .obtain ⟨o,_,_,_,e,ex,_⟩:=I.hok p _ hk;refine ⟨⟨o,e,ex.1⟩,λa e2=>?_⟩;cases e2;exact ⟨o,e,ex.2.1⟩
 | _=>exact False.elim ty
def tBM0 (K:PySem.W.Frag)(T:String)(r:V->List V->Hp->VK->Prop)(to:TE):TE:=λσ H Q=>to σ H λx H1=>tyV K T x H1/\r x [] H1 Q
def tBM (K:PySem.W.Frag)(T:String)(r:V->List V->Hp->VK->Prop)(to:TE)(t:TA):TE:=λσ H Q=>to σ H λx H1=>tyV K T x H1/\t σ H1 λxs H2=>r x xs H2 Q
variable {o e:Expr}{es:List Expr}{to:TE}{t:TA}{name:Str}{apos cpos:Pos}{T id:String}{r:V->List V->Hp->VK->Prop}
theorem zgA (pa:PlainAttrs T)(slot:Slot T name id)(hty:typeOf (.builtin id)=pure (.type "method_descriptor"))(hm:MtR X id r)(ho:PE X o to)
  (hbase:attributeBase o name X.env (eval o X.env)=eval o X.env:=by rfl) (hline:(apos.endLine == cpos.line)=true:=by rfl):PE X (.Call (.Attribute o name apos) [] [] cpos) (tBM0 X.K T r to):=by
 intro pins s σ H Q I h;refine wpAny_Call_method0_late hbase hline (thn (ho pins s σ H _ I h) λv s1 ⟨x,H1,I1,r1,ty,q1⟩=>?_);obtain ⟨h1,h2⟩:=zce I1 r1 ty;exact ⟨T,id,pa,slot,hty,h1,h2,Calls.callWith_builtin rfl (PySem.evalArgs_none (hm pins s1 σ H1 x [] v [] Q I1 r1 .nil q1))⟩
theorem zio (pa:PlainAttrs T)(slot:Slot T name id)(hty:typeOf (.builtin id)=pure (.type "method_descriptor"))(hm:MtR X id r)(ho:PE X o to)(ha:PA X (e::es) t)
  (hbase:attributeBase o name X.env (eval o X.env)=eval o X.env:=by rfl)
  (hfew:((backTo cpos (starEach (e::es) X.env)).all (λx=>! x.1) && (backToKw cpos (keywordEach [] X.env)).all (λx=>x.1.isSome)
   && decide ((e::es).length+([]:List Keyword).length+(if ([]:List Keyword).isEmpty then 0 else 1) < 30))=true:=by rfl)
  (hline:(apos.endLine == cpos.line)=true:=by rfl) (hs:starEach (e::es) X.env=(false,eval e X.env)::starEach es X.env:=by rfl) (hplain:(backTo cpos (starEach es X.env)).any (·.1)=false:=by rfl) :
  PE X (.Call (.Attribute o name apos) (e::es) [] cpos) (tBM X.K T r to t):=by
 intro pins s σ H Q I h;refine wpAny_Call_method_late hbase hfew hline rfl (thn (ho pins s σ H _ I h) λv s1 ⟨x,H1,I1,r1,ty,q1⟩=>?_);obtain ⟨h1,h2⟩:=zce I1 r1 ty;refine ⟨T,id,pa,slot,hty,h1,h2,?_⟩;have hA:=ha cpos pins s1 σ H1 _ I1 q1;rw[hs] at hA ⊢;refine Calls.callWith_builtin (by show (false || (backTo cpos (starEach es X.env)).any (·.1))=false;rw[hplain] <;> rfl) (Calls.evalArgs_plain ?_);exact thn hA λus s2 ⟨vs,H2,I2,r2,q2⟩=>hm pins s2 σ H2 x vs v us Q I2 r1 r2 q2
end
def MtM (X:Cx)(id:String)(r:V->List V->Hp->VK->Prop):Prop :=
 ∀ (pins:List (Addr×Obj)) (s:Shared) (σ:St) (H:Hp) (x:V) (xs:List V) (v:Value) (us:List Value) (Q:VK),Inv X pins σ H s->RelV x v->Vals xs us->r x xs H Q ->
  wpAny (model X.prog X.w) X.A (call (.builtin id) (v::us)) (EP X pins σ Q) X.xe s
theorem Vals.one:∀ {x:V}{us:List Value},Vals [x] us->∃u,us=[u]/\RelV x u
 | _,_,.cons r .nil=>⟨_,rfl,r⟩
theorem Vals.zero:∀ {us:List Value},Vals [] us->us=[]
 | _,.nil=>rfl
theorem Vals.dropLast {xs:List V}{us:List Value}(h:Vals xs us):Vals xs.dropLast us.dropLast:=by
 induction h with
 | nil=>exact .nil
 | cons r t ih =>
  cases t with
  | nil=>exact .nil
  | cons q t'=>exact .cons r ih
theorem Vals.eraseIdx:∀ {xs:List V}{us:List Value}(i:Nat),Vals xs us->Vals (xs.eraseIdx i) (us.eraseIdx i)
 | _,_,_,.nil=>.nil
 | _,_,0,.cons _ t=>t
 | _,_,i+1,.cons r t=>.cons r (Vals.eraseIdx i t)
theorem Vals.reverse {xs:List V}{us:List Value}(h:Vals xs us):Vals xs.reverse us.reverse:=by
 induction h with
 | nil=>exact .nil
 | cons r t ih=>rw[List.reverse_cons,List.reverse_cons];exact Vals.append ih (.cons r .nil)
theorem Vals.rep {xs:List V}{us:List Value}(h:Vals xs us):∀k:Nat,Vals (List.replicate k xs).flatten (List.replicate k us).flatten
 | 0=>.nil
 | k+1=>by
  rw[List.replicate_succ,List.replicate_succ,List.flatten_cons,List.flatten_cons];exact Vals.append h (Vals.rep h k)
theorem qP {α:Type}(l:List α):l.eraseIdx (l.length - 1)=l.dropLast:=by
 induction l with
 | nil=>rfl
 | cons a r ih =>
  cases r with
  | nil=>rfl
  | cons b r =>
   have e:(a::b::r).length - 1=((b::r).length - 1)+1:=by
    have h1:(a::b::r).length=r.length+2:=rfl;have h2:(b::r).length=r.length+1:=rfl;lia
   rw[e,List.eraseIdx_cons_succ,ih]
   all_goals rfl
theorem jA (its:List Value):∀ (k:Nat) (acc:List Value),
  List.foldl (λx1 x2=>x1++x2) acc.toArray (List.replicate k its.toArray)=(acc++(List.replicate k its).flatten).toArray
 | 0,acc=>by simp
 | k+1,acc=>by
  have e:acc.toArray++its.toArray=(acc++its).toArray:=by simp
  have e2:(acc++its)++(List.replicate k its).flatten=acc++(List.replicate (k+1) its).flatten:=by
   rw[List.replicate_succ,List.flatten_cons,List.append_assoc]
  rw[<- e2,<- jA its k (acc++its),<- e,List.replicate_succ,List.foldl_cons]
section
variable {X:Cx}{pins:List (Addr×Obj)}{σ:St}{H:Hp}{s:Shared}{l:Addr}{xs ys:List V}
theorem Inv.lset {its its':List Value}{n:Nat}{f:Array Value->Array Value}{t':Nat}(I:Inv X pins σ H s)(hH:H l=some (.lst xs))
  (e:s.heap.get? l=some { cls:=.type "list",data:=.seq its.toArray n }) (hf:f its.toArray=its'.toArray) (hv:Vals ys its') (hz:ys.length<=sizeLine) :
  Inv X pins σ (upd H l (.lst ys)) { s with heap:=s.heap.update l (Obj.mapSeq f),toks:=t' }:=by
 have q:=PySem.IsL.update e f;rw[hf] at q;refine I.write (x:=l) (e:=l) (by rw[hH];exact trivial) (.inl rfl) (λb' u hb hu=>(Heap.get?_update_other s.heap (Obj.mapSeq f) (Ne.symm hb)).trans hu) ⟨_,q⟩ ?_;exact ⟨hz,its',_,hv,q⟩
theorem Inv.lnew {its:List Value}{t':Nat}(I:Inv X pins σ H s)(hv:Vals ys its)(hz:ys.length<=sizeLine):
  Inv X pins σ (upd H s.heap.objs.size (.lst ys)) { s with heap:=s.heap.push { cls:=.type "list",data:=.seq its.toArray },toks:=t' } :=
 I.laid (λ_ _ q=>Heap.get?_push_of_some _ q) (Nat.le_refl _) ⟨hz,its,0,hv,Heap.get?_push_size _ rfl⟩
theorem Inv.fresh (I:Inv X pins σ H s):H s.heap.objs.size=none:=I.hok.fresh (Nat.le_refl _)
theorem Inv.lstM (I:Inv X pins σ H s)(hH:H l=some (.lst xs)):xs.length<=sizeLine/\∃ (its:List Value) (n:Nat),Vals xs its/\xs.length=its.length/\s.heap.get? l=some { cls:=.type "list",data:=.seq its.toArray n }:=by
 obtain ⟨z,its,n,r,e⟩:=I.hok l _ hH;exact ⟨z,its,n,r,r.length,e⟩
theorem zcf {n:Nat}(h:n<=sizeLine):Builtin.List.listTooLong n=false:=by
 unfold Builtin.List.listTooLong;exact decide_eq_false (by lia)
end
section
variable {X:Cx}
def zef:V->List V->Hp->VK->Prop:=λx vs H Q=>∃l xs y,x=.ref l/\vs=[y]/\H l=some (.lst xs)/\xs.length < sizeLine/\Q .non (upd H l (.lst (xs++[y])))
theorem jB:MtM X "list.append" zef:=by
 intro pins s σ H x vs v us Q I rx rv h;obtain ⟨l,xs,y,rfl,rfl,hH,hz,q⟩:=h;cases rx;obtain ⟨u,rfl,ru⟩:=rv.one;obtain ⟨z,its,n,r,hl,e⟩:=I.lstM hH;refine call_meets F.slot_list_append ⟨_,e,rfl⟩ F.entry_list_append (F.args_list_append_2 _ _) (PySem.list_append l its.toArray n u (by rw[List.size_toArray];lia)) ⟨e,?_⟩;refine ⟨.non,_,I.lset (its':=its++[u]) hH e (by simp) (r.append (.cons ru .nil)) ?_,rfl,q⟩;rw[List.length_append,List.length_singleton];lia
def rPop:V->List V->Hp->VK->Prop:=λx vs H Q=>∃l xs y,x=.ref l/\vs=[]/\H l=some (.lst xs)/\xs[xs.length - 1]?=some y/\Q y (upd H l (.lst xs.dropLast))
theorem zgB:MtM X "list.pop" rPop:=by
 intro pins s σ H x vs v us Q I rx rv h;obtain ⟨l,xs,y,rfl,rfl,hH,hy,q⟩:=h;cases rx;have hus:=rv.zero;subst hus;obtain ⟨z,its,n,r,hl,e⟩:=I.lstM hH;obtain ⟨u,hu,ru⟩:=r.get hy;have hy':its.toArray[its.toArray.size - 1]?=some u:=by
  show its.toArray[its.length - 1]?=some u;rw[<- Array.getElem?_toList,<- hl];exact hu
 refine call_meets F.slot_list_pop ⟨_,e,rfl⟩ F.entry_list_pop (F.args_list_pop_1 _) (MeetsSeq.list_pop_last l its.toArray n u hy' (by rw[List.size_toArray];lia)) ⟨e,?_⟩;refine ⟨y,_,I.lset (its':=its.dropLast) hH e ?_ r.dropLast ?_,ru,q⟩
 .show its.toArray.eraseIdxIfInBounds (its.toArray.size - 1)=its.dropLast.toArray;rw[List.size_toArray,List.eraseIdxIfInBounds_toArray,qP]
 .rw[List.length_dropLast];lia
def zcg:V->List V->Hp->VK->Prop:=λx vs H Q=>∃l xs,x=.ref l/\vs=[]/\H l=some (.lst xs)/\Q .non (upd H l (.lst xs.reverse))
theorem qQ:MtM X "list.reverse" zcg:=by
 intro pins s σ H x vs v us Q I rx rv h;obtain ⟨l,xs,rfl,rfl,hH,q⟩:=h;cases rx;have hus:=rv.zero;subst hus;obtain ⟨z,its,n,r,hl,e⟩:=I.lstM hH;refine call_meets F.slot_list_reverse ⟨_,e,rfl⟩ F.entry_list_reverse (F.args_list_reverse_1 _) (AutoSeq1.list_reverse_list_0 l its.toArray n (by rw[List.size_toArray];lia)) ⟨e,?_⟩;refine ⟨.non,_,I.lset (its':=its.reverse) hH e (by simp) r.reverse ?_,rfl,q⟩;rw[List.length_reverse];lia
def ziq:R2:=λx y H Q=>∃l b xs zs,x=.ref l/\y=.ref b/\H l=some (.lst xs)/\H b=some (.lst zs)/\xs.length+zs.length<=sizeLine/\∀p,H p=none->Q (.ref p) (upd H p (.lst (xs++zs)))
theorem op_cat:OpR X (binaryOp .Add) ziq:=by
 intro pins s σ H x y v u Q I rx ry h;obtain ⟨l,b,xs,zs,rfl,rfl,hH,hB,hz,q⟩:=h;cases rx;cases ry;obtain ⟨z,its,n,r,hl,e⟩:=I.lstM hH;obtain ⟨z2,its2,n2,r2,hl2,e2⟩:=I.lstM hB;refine PySem.P.add_list e e2 ?_ (by rw[List.size_toArray,List.size_toArray];lia);have ea:its.toArray++its2.toArray=(its++its2).toArray:=by simp
 rw[ea];exact ⟨.ref _,_,I.lnew (t':=s.toks) (r.append r2) (by rw[List.length_append];lia),rfl,q _ I.fresh⟩
def zir:R2:=λx y H Q=>∃l k xs,x=.ref l/\y=.int k/\H l=some (.lst xs)/\-(2 ^ 63)<=k/\k < 2 ^ 63/\xs.length * k.toNat<=sizeLine /\
 ∀p,H p=none->Q (.ref p) (upd H p (.lst (List.replicate k.toNat xs).flatten))
theorem zaM {α:Type}(xs:List α)(k:Nat):(List.replicate k xs).flatten.length=k * xs.length:=by
 induction k with
 | zero=>simp
 | succ k ih=>rw[List.replicate_succ,List.flatten_cons,List.length_append,ih,Nat.succ_mul,Nat.add_comm]
theorem zgC:OpR X (binaryOp .Mult) zir:=by
 intro pins s σ H x y v u Q I rx ry h;obtain ⟨l,k,xs,rfl,rfl,hH,h1,h2,hz,q⟩:=h;cases rx;obtain ⟨t,rfl⟩:=ry;obtain ⟨z,its,n,r,hl,e⟩:=I.lstM hH;have hlen:its.toArray.size * k.toNat<=sizeLine:=by rw[List.size_toArray,<- hl];exact hz
 have hcap:¬ its.toArray.size * k.toNat > (2 ^ 63 - 1) / 8:=by
  have:(sizeLine:Nat)<=(2 ^ 63 - 1) / 8:=by decide
  lia
 have hfit:¬(! Builtin.List.listFitsIndex k)=true:=by
  rw[fitsIndex_both h1 h2];exact Bool.false_ne_true
 have hlong:¬ Builtin.List.listTooLong (its.toArray.size * k.toNat)=true:=by
  rw[zcf hlen];exact Bool.false_ne_true
 have hnew:List.foldl (λx1 x2=>x1++x2) #[] (List.replicate (if its.toArray.isEmpty=true then 0 else k.toNat) its.toArray)=(List.replicate k.toNat its).flatten.toArray:=by
  have f0:∀m:Nat,List.foldl (λx1 x2=>x1++x2) #[] (List.replicate m its.toArray)=(List.replicate m its).flatten.toArray:=λm=>by
   have:=jA its m [];rw[List.nil_append] at this;exact this
  rw[f0];cases its with
  | nil=>simp
  | cons a r'=>rw[if_neg (by simp)]
 refine wpAny_binaryOp_repeat_ref (T := "list") (U := "int") (by decide) ⟨_,e,rfl⟩ (λs'=>typeIs_int s' k t) noFill_list_mul F.fills_int_mul F.slot_int_rmul repeat_list F.slot_int_index.lookup
  (call_meets F.slot_int_rmul (typeIs_int s k t) F.entry_int_rmul (F.args_int_rmul_2 _ _) (int___rmul___int_list k t l its.toArray n)
   ⟨e,rfl,⟨_,e,rfl⟩,call_meets F.slot_list_mul ⟨_,e,rfl⟩ F.entry_list_mul (F.args_list_mul_2 _ _) (AutoListH.list___mul___list_int_3 l its.toArray n k t hfit hcap hlong) ⟨e,?_⟩⟩)
 rw[hnew];exact ⟨.ref _,_,I.lnew (t':=s.toks) (r.rep k.toNat) (by rw[zaM,Nat.mul_comm];exact hz),rfl,q _ I.fresh⟩
end
end L2
namespace Att
open PySem PySem.W PySem.Calls PyProof.Rows
theorem vZ {P:Params}{h:Heap}:∀ (ns:List Int) (vs:List Value),WellAll P h vs (ns.map WData.int)->IntsAre vs ns:=by
 intro ns
 induction ns with
 | nil =>
  intro vs w;rw[List.map_nil] at w;cases w;exact .nil
 | cons n ns ih =>
  intro vs w;rw[List.map_cons] at w;cases w with
  | cons a b =>
   cases a;exact .cons _ _ (ih _ b)
theorem zbA {l:OpenLaw}{n:Nat}(hn:l.most=some n){P:Params}{h:Heap}{args:List WData}{vals:List Value}
  (hpre:l.row.toRowW.claim.pre args=true) (hwl:WellAll P h vals args) :
  ∃a vs ns,vals=[Value.ref a]/\args=[WData.list (ns.map WData.int)]/\h.get? a=some { cls:=.type "list",data:=.seq vs.toArray }/\IntsAre vs ns/\ns.length<=n:=by
 have hsh:WShape.hasAll [] args [.list .int]=true:=(pre_splitW hpre).1;have hc:l.pre.holds [] { args:=args }=true:=(pre_splitW hpre).2;obtain ⟨d,r,rfl,h1,h2⟩:=hasAllW_cons hsh;obtain rfl:=hasAllW_nil h2;obtain ⟨xs,rfl,h3⟩:=hasW_list h1;obtain ⟨ns,rfl⟩:=items_int h3;have hlen:ns.length<=n:=by
  unfold OpenLaw.pre at hc;have h4:(WTm.not (.lt (.lit (.int (n:Int))) (.len (.arg 0)))).holds [] { args:=[.list (ns.map .int)] }=true:=by
   have h4:=(holds_andW hc).1;rw[hn] at h4;exact h4
  have h5:=condW_of h4 (w_not (w_lt w_lit (w_len_list (w_arg rfl))));rw[List.length_map] at h5;refine Nat.le_of_not_lt λq=>?_;have q':(n:Int) < ((ns.length:Nat):Int):=by lia
  first
   | (rw[decide_eq_true q'] at h5;exact absurd h5 (by decide))
   | (simp at h5;lia)
 cases hwl with
 | cons w1 w2 =>
  cases w2;cases w1 with
  | list ho hall=>exact ⟨_,_,ns,rfl,rfl,ho,vZ ns _ hall,hlen⟩
theorem zbB (l:OpenLaw)(args:List WData):l.row.toRowW.claim.post args (.bool true) args=true :=
 postW_of (r:=l.row.toRowW) (X:=(true == true))
  (show WShape.has [] (.bool true) .bool=true by first | rfl | decide | simp[WShape.has,WShape.arms,WShape.armsAll])
  (show (WTm.eq .res (.lit (.bool true))).value [] { args:=args,res:=some (.bool true),after:=args }=some (.bool (true == true)) from w_eq_bool (w_res rfl) w_lit) rfl
theorem attach_call {l:OpenLaw}{n:Nat}{q:Program}{loose:List Str}{XP:(Str->Option Value)->Heap->Prop}{YP:World->Heap->Prop}{d:DefRec}
  (hn:l.most=some n) (hdf:d.params.defaults=[])
  (call:∀ (w:World) (s₀ s₁:Shared) (mg mb:Str->Option Value) (fa:Addr) (o:Obj) (pm cd doc:Value) (a:Addr) (vs:List Value) (ns:List Int),
   Ground q loose [] XP w s₀ mg mb s₁.heap->YP w s₁.heap ->
   s₁.heap.get? fa=some o->o.data=.func (docDef d.name d.params d.body d.scope pm cd doc)->s₁.heap.CodeRec cd d.name->mg d.name=some (.ref fa) ->
   s₁.heap.get? a=some { cls:=.type "list",data:=.seq vs.toArray }->IntsAre vs ns->ns.length<=n->s₁.gens=#[] ->
   codeAny (model l.prog w) callerA (.call (.ref fa) ⟨[.ref a],[]⟩) (λr s'=>r=.ok (.ret (.bool true))/\OldK s₁.heap s'.heap/\s'.os=s₁.os/\AllBare s'.gens) s₁) :
  WalkO q loose XP YP l.row.toRowW d [] (λf vs=>PySem.call f vs):=by
 intro w s₀ s₁ mg mb G Y fa o pm cd doc dV kV ho hd hcd hD hmg hg args vals as hpre hlay hrd hwl hlo;obtain rfl:dV=.none:=Dflts.none hD hdf;obtain rfl:kV=.none:=Dflts.noKw hD;obtain ⟨a,vs,ns,rfl,rfl,hobj,hints,hlen⟩:=zbA hn hpre hwl;refine enter_call (codeAny_mono (call w s₀ s₁ mg mb fa o pm cd doc a vs ns G Y ho (fd_plain hd) hcd hmg hobj hints hlen hg) λr s' hq=>?_);obtain ⟨rfl,h2,h3,h4⟩:=hq;exact ⟨.inl ⟨.bool true,.bool true,[],rfl,λ_=>rfl,.bool true,zbB l _,λ_=>⟨List.Pairwise.nil,λ_ hm=>(nomatch hm)⟩⟩,h2,h3,h4⟩
end Att
namespace L2
open PySem PySem.Spec PyProof.Rows
theorem jC:∀ {vs:List Value}{ns:List Int},IntsAre vs ns->Vals (ns.map V.int) vs
 | _,_,.nil=>.nil
 | _,_,.cons n t h=>.cons ⟨t,rfl⟩ (jC h)
def zeg (H:Hp):Prop:=∀b,H b=none\/∃o xs,H b=some (.frz o (.lst xs))
theorem zch {P:Program}{w:World}{K:PySem.W.Frag}{mg mb:Str->Option Value}{CX:CXT}{k:Nat}{fa a:Addr}{fd:FuncData}{x:Str}{sp:Sp}{s₁:Shared}{vs:List Value}{ns:List Int}
  (KX:K.In s₁.heap) (hns:s₁.heap.Ns mainGlobals mg) (hb:s₁.heap.Ns builtinsNs mb) (hbb:∀x:Str,x ≠ "__name__" -> mb x=bootBuiltins x) (hlim:s₁.heap.NoLimit) (hg:s₁.gens=#[])
  (ha:s₁.heap.get? a=some { cls:=.type "list",data:=.seq vs.toArray }) (hi:IntsAre vs ns) (hl:ns.length<=sizeLine) (hr:Room k callerA)
  (F:∀base:Heap,K.In base->base.Ns mainGlobals mg->FnOk P w K mg base CX k fa fd [x] sp) (hbind:∀ (s:Shared) (u:Value),BindsTo s fd ⟨[u],[]⟩ [(x,u)])
  (hsp:∀H:Hp,zeg H->SqL K H a (ns.map V.int)->sp [.ref a] H (λv _=>v=.bl true) λ_ _ _=>False)
  (hCX:∀H e s',CX [] H s₁ (λ_ _ _=>False) e s'->False) :
  codeAny (model P w) callerA (.call (.ref fa) ⟨[.ref a],[]⟩) (λr s'=>r=.ok (.ret (.bool true))/\OldK s₁.heap s'.heap/\s'.os=s₁.os/\AllBare s'.gens) s₁:=by
 have rv:=jC hi;have lenV:=hi.length
 -- from an abstract heap in which nothing but the script may be tracked
 have core:∀H:Hp,zeg H->SqL K H a (ns.map V.int)->HOk P w H s₁.heap->(∀b,H b≠none->b=a)->(H a≠none->K.lookup a=none) ->
   codeAny (model P w) callerA (.call (.ref fa) ⟨[.ref a],[]⟩) (λr s'=>r=.ok (.ret (.bool true))/\OldK s₁.heap s'.heap/\s'.os=s₁.os/\AllBare s'.gens) s₁:=by
  intro H hO hS hok hA hK;have base_of:∀ {b:Addr}{o:Obj},s₁.heap.get? b=some o->H b=none->(jP s₁.heap H).get? b=some o:=λe n=>zb4 e n;have noA:∀ {b:Addr}{o:Obj}{es:Array DictEntry}{ep:Nat},s₁.heap.get? b=some o->o.data=.dict es ep->H b=none:=λ{b o es ep} e d=>by
   cases q:H b with
   | none=>rfl
   | some u =>
    have e':b=a:=hA b (by rw[q];simp);subst e';rw[ha] at e;cases e;have d':Data.seq vs.toArray _=Data.dict es ep:=d;cases d'
  have nsK:∀ {b:Addr}{m:Str->Option Value},s₁.heap.Ns b m->(jP s₁.heap H).Ns b m:=λ{b m} ⟨o,es,ep,e,d,r⟩=>⟨o,es,ep,base_of e (noA e d),d,r⟩;have hKb:K.In (jP s₁.heap H):=λb o e=>base_of (KX b o e) (by
   cases q:H b with
   | none=>rfl
   | some u =>
    have e':b=a:=hA b (by rw[q];simp);subst e';rw[hK (by rw[q];simp)] at e;cases e)
  have hM:Mod K mg (jP s₁.heap H):=⟨hKb,nsK hns,⟨mb,nsK hb,hbb⟩,let ⟨mc,h1,h2⟩:=hlim;⟨mc,nsK h1,h2⟩⟩;have e0:Env0 P w K mg (jP s₁.heap H) callerA [] s₁ H:=⟨rfl,hM,λb o e=>zd2 e,Nat.le_of_eq (zbt _ _),trivial,λb hb=>absurd (show b∈([]:List Addr) from hb) (by simp),hok,.of_eq hg⟩;refine codeAny_mono ((F _ hKb (nsK hns)).run callerA [] s₁ H ⟨[.ref a],[]⟩ [.ref a] [.ref a] _ _ hr e0 (hbind s₁ (.ref a)) (.cons rfl .nil) (hsp H hO hS)) λr s' h=>?_;cases r with
  | error e=>exact (hCX H e s' h).elim
  | ok fl =>
   cases fl with
   | next=>exact False.elim h
   | brk=>exact False.elim h
   | cont=>exact False.elim h
   | ret u =>
    obtain ⟨v,H',os,bare,un,hok',r',q⟩:=h;have q':v=.bl true:=q;subst q';obtain rfl:u=Value.bool true:=r';refine ⟨rfl,OldK.of_keep λb o e=>?_,os,bare⟩;cases q:H b with
    | none=>exact un.keep b o e q (by intro z;exact absurd (show b∈([]:List Addr) from z) (by simp)) (by simp)
    | some u =>
     rcases hO b with z | ⟨ob,xs,z⟩
     .rw[q] at z;cases z
     .have z2:=un.frzs b ob _ z;obtain ⟨e1,_⟩:=hok b _ z;obtain ⟨e2,_⟩:=hok' b _ z2;rw[e] at e1;cases e1;exact e2
 cases hk:K.lookup a with
 | some o =>
  -- the script is one of the module's own objects
  have e:=KX a o hk;rw[ha] at e;cases e;refine core (λ_=>none) (λ_=>.inl rfl) (.inr ⟨_,vs.toArray,_,hk,rfl,rfl,rfl,by rw[List.size_toArray,lenV];exact hl,by simpa using rv⟩) (λb u z=>by have z':(none:Option HO)=some u:=z;cases z') (λb z=>absurd rfl z) λz=>absurd rfl z
 | none =>
  refine core (λb=>if b=a then some (.frz { cls:=.type "list",data:=.seq vs.toArray } (.lst (ns.map V.int))) else none) (λb=>?_) (.inl (.inr ⟨{ cls:=.type "list",data:=.seq vs.toArray },if_pos rfl⟩)) (λb u z=>?_) (λb z=>?_) λ_=>hk
  .by_cases hb:b=a
   .exact .inr ⟨_,_,if_pos hb⟩
   .exact .inl (if_neg hb)
  .by_cases hb:b=a
   .have z':=(if_pos hb).symm.trans z;cases z';subst hb;exact ⟨ha,by rw[List.length_map];exact hl,vs,_,rv,ha⟩
   .have z':=(if_neg hb).symm.trans z;cases z'
  .by_cases hb:b=a
   .exact hb
   .exact absurd (if_neg hb) z
theorem walk_of {l:PySem.W.OpenLaw}{n k:Nat}{q:Program}{loose:List Str}{XP:(Str->Option Value)->Heap->Prop}{YP:World->Heap->Prop}{d:DefRec}{K:Params->PySem.W.Frag}{CX:World->CXT}{sp:World->Sp}{x:Str}
  (hn:l.most=some n) (hn2:n<=sizeLine) (hdf:d.params.defaults=[]) (hr:Room k callerA)
  (hY:∀ (w:World) (h:Heap),YP w h->(K w.params).In h)
  (F:∀ (w:World) (mg:Str->Option Value) (fa:Addr) (h:Heap),(K w.params).In h->h.Ns mainGlobals mg->mg d.name=some (.ref fa) ->
   ∃fd:FuncData,(∀ (s:Shared) (u:Value),BindsTo s fd ⟨[u],[]⟩ [(x,u)]) /\
    ∀base:Heap,(K w.params).In base->base.Ns mainGlobals mg->FnOk l.prog w (K w.params) mg base (CX w) k fa fd [x] (sp w))
  (hsp:∀ (w:World) (H:Hp) (a:Addr) (ns:List Int),ns.length<=n->zeg H->SqL (K w.params) H a (ns.map V.int)->sp w [.ref a] H (λv _=>v=.bl true) λ_ _ _=>False)
  (hCX:∀ (w:World) (H:Hp) (s:Shared) (e:Value) (s':Shared),CX w [] H s (λ_ _ _=>False) e s'->False) :
  PySem.W.WalkO q loose XP YP l.row.toRowW d [] (λf vs=>PySem.call f vs):=by
 refine Att.attach_call hn hdf λw s₀ s₁ mg mb fa o pm cd doc a vs ns G Y ho hd hcd hmg hobj hints hlen hg=>?_;have KX:=hY w _ Y;obtain ⟨fd,hb,hF⟩:=F w mg fa _ KX G.T.g hmg;exact zch KX G.T.g G.T.b G.T.builtins G.T.nolimit hg hobj hints (Nat.le_trans hlen hn2) hr hF hb (λH hO hS=>hsp w H a ns hlen hO hS) λH e s'=>hCX w H s₁ e s'
noncomputable def wm (s:Stmt):Arguments:=match s with
 | .FunctionDef _ a _ _ _ _ _ _ _ _=>a
 | _=>{ posonlyargs:=[],args:=[],vararg:=none,kwonlyargs:=[],kw_defaults:=[],kwarg:=none,defaults:=[] }
noncomputable def xz (s:Stmt):List Stmt:=match s with
 | .FunctionDef _ _ b _ _ _ _ _ _ _=>b
 | _=>[]
noncomputable def zW (s:Stmt):Scope:=match s with
 | .FunctionDef _ _ _ _ _ _ sc _ _ _=>sc
 | _=>{ kind:=.function,names:=[],isGenerator:=false,isCoroutine:=false }
abbrev CX0:CXT:=λ_ _ _ _ _ _=>False
abbrev E0:XK:=λ_ _ _=>False
theorem zis {X:Cx}:qO CX0 X E0:=λ_ _ _ _ _ _ _ h=>h.elim
structure Fun (K:PySem.W.Frag)(x qual:Str)(st:Stmt)(f:Addr)(fd:FuncData):Prop where
 ex:∃ (oc:Value) (od:Option Addr) (kV doc pm:Value) (an:Option Addr) (cdv ct:Value) (osl:Array (Option Value)),
  fd=PySem.W.fnOf x qual (wm st) (xz st) (zW st) .none kV doc pm an cdv ct/\K.lookup f=some ⟨oc,od,.func fd,osl⟩/\PySem.W.codeIn K cdv qual=true
 kp:PySem.W.keepIn K (.ref f)=true
section
variable {P:Program}{w:World}{K:PySem.W.Frag}{mg:Str->Option Value}{base:Heap}
theorem Fun.ok {x qual:Str}{st:Stmt}{f:Addr}{fd:FuncData}{N ps:List Str}{k:Nat}{sp:Sp}(F:Fun K x qual st f fd)(S:FnScope N ps (zW st))(len:∀vs H Q E,sp vs H Q E->vs.length=ps.length)
  (hbody:∀ (cdv:Value) (A:Around) (outer:List Env) (s:Shared) (H:Hp) (vs:List V) (Q:VK) (E:XK),Room k (A.deeper (envOfC qual (zW st) s.heap.objs.size f cdv))->sp vs H Q E ->
   ∃t,PSs (gJ CX0 P w K mg base N qual (zW st) f cdv A outer s H E).nox (xz st) t/\t { nx:=λ_ H'=>Q .non H',rt:=Q } (start N vs) H):FnOk P w K mg base CX0 (k+1) f fd ps sp:=by
 obtain ⟨oc,od,kV,doc,pm,an,cdv,ct,osl,rfl,lk,hcd⟩:=F.ex;refine zik lk hcd S len λA outer s H vs Q E hr hsp=>?_;obtain ⟨t,h,q⟩:=hbody cdv A outer s H vs Q E hr hsp;exact ⟨t,h.nox,q⟩
theorem Fun.binds {x qual:Str}{st:Stmt}{f:Addr}{fd:FuncData}{ps:List Str}(F:Fun K x qual st f fd)
  (h:∀ (kV doc pm:Value) (an:Option Addr) (cdv ct:Value) (us:List Value),us.length=ps.length->bindArgs (PySem.W.fnOf x qual (wm st) (xz st) (zW st) .none kV doc pm an cdv ct) ⟨us,[]⟩=pure (ps.zip us)):Binds K fd ps []:=by
 obtain ⟨oc,od,kV,doc,pm,an,cdv,ct,osl,rfl,lk,hcd⟩:=F.ex;exact .all (h kV doc pm an cdv ct)
theorem zgD {x qual:Str}{st:Stmt}{f:Addr}{oc:Value}{od an:Option Addr}{osl:Array (Option Value)}{kV doc pm cdv ct:Value}(l:K.lookup f=some ⟨oc,od,.func (PySem.W.fnOf x qual (wm st) (xz st) (zW st) .none kV doc pm an cdv ct),osl⟩)
  (c:PySem.W.codeIn K cdv qual=true) (k:PySem.W.keepIn K (.ref f)=true):Fun K x qual st f (PySem.W.fnOf x qual (wm st) (xz st) (zW st) .none kV doc pm an cdv ct):=⟨⟨oc,od,kV,doc,pm,an,cdv,ct,osl,rfl,l,c⟩,k⟩
end
theorem gL {A B:Prop}(h:B):if false=true then A else B:=by
 rw[if_neg Bool.false_ne_true];exact h
theorem gM {A B:Prop}(h:A):if true=true then A else B:=by
 rw[if_pos rfl];exact h
noncomputable def wI (env:Env):List (Str×NameKind)->List (Str×Addr)->List (Str×Addr)
 | [],acc=>acc
 | (n,k)::r,acc=>if k == .free then wI env r ((n,(env.cells.lookup n).getD 0)::acc) else wI env r acc
theorem wR {env:Env}(f:Str×NameKind->List (Str×Addr)->Sem (ForInStep (List (Str×Addr))))
  (hf:∀n k cs,f (n,k) cs=if k == .free then (do let a <- cellOf env n;pure (.yield ((n,a)::cs))) else pure (.yield cs)) :
  ∀ (names:List (Str×NameKind)) (acc:List (Str×Addr)),(∀y∈names,y.2=.free->∃c,env.cells.lookup y.1=some c)->forIn names acc f=pure (wI env names acc)
 | [],acc,_=>by rw[List.forIn_nil];rfl
 | (n,k)::r,acc,h=>by
  have ih:=wR f hf r;rw[List.forIn_cons,hf];unfold wI;cases hk:k == NameKind.free with
  | true =>
   obtain ⟨c,hc⟩:=h (n,k) List.mem_cons_self (by simpa using hk);have hc':env.cells.lookup n=some c:=hc;have e1:cellOf env n=pure c:=by unfold cellOf;rw[hc']
   simp only[if_true,e1,hc',Option.getD_some,pure_bind];exact ih _ λy hy=>h y (List.mem_cons_of_mem _ hy)
  | false =>
   simp only[Bool.false_eq_true,if_false,pure_bind];exact ih _ λy hy=>h y (List.mem_cons_of_mem _ hy)
theorem kE {scope:Scope}{env:Env}(h:∀y∈scope.names,y.2=.free->∃c,env.cells.lookup y.1=some c):closureFor scope env=pure (wI env scope.names []):=by
 unfold closureFor;simp only[];rw[wR (env:=env) _ (λn k cs=>by cases hk:k == NameKind.free <;> simp[hk]) scope.names [] h];rfl
theorem wn {env:Env}{y:Str}{c:Addr}:∀ {names:List (Str×NameKind)}{acc:List (Str×Addr)},(∀z∈names,z.2=.free->∃c,env.cells.lookup z.1=some c)->(wI env names acc).lookup y=some c ->
  acc.lookup y=some c\/((y,NameKind.free)∈names/\env.cells.lookup y=some c)
 | [],acc,_,e=>.inl e
 | (n,k)::r,acc,h,e=>by
  unfold wI at e;have h':∀z∈r,z.2=.free->∃c,env.cells.lookup z.1=some c:=λz hz=>h z (List.mem_cons_of_mem _ hz);cases hk:k == NameKind.free with
  | true =>
   have hk':k=.free:=by simpa using hk
   subst hk';rw[hk,if_pos rfl] at e;rcases wn h' e with q | ⟨q1,q2⟩
   .rw[List.lookup_cons] at q;cases hy:y == n with
    | true =>
     rw[hy] at q;have:y=n:=by simpa using hy
     subst this;obtain ⟨c',hc'⟩:=h (y,.free) List.mem_cons_self rfl;have hc'':env.cells.lookup y=some c':=hc';rw[hc''] at q;refine .inr ⟨List.mem_cons_self,?_⟩;rw[hc''];exact q
    | false=>rw[hy] at q;exact .inl q
   .exact .inr ⟨List.mem_cons_of_mem _ q1,q2⟩
  | false =>
   rw[hk,if_neg (by simp)] at e;rcases wn h' e with q | ⟨q1,q2⟩
   .exact .inl q
   .exact .inr ⟨List.mem_cons_of_mem _ q1,q2⟩
theorem vq {env:Env}{y:Str}:∀ {names:List (Str×NameKind)}{acc:List (Str×Addr)},((y,NameKind.free)∈names\/(acc.lookup y).isSome=true)->((wI env names acc).lookup y).isSome=true
 | [],acc,h=>by
  rcases h with h | h
  .cases h
  .exact h
 | (n,k)::r,acc,h=>by
  unfold wI;cases hk:k == NameKind.free with
  | true =>
   rw[if_pos rfl];refine vq ?_;rcases h with h | h
   .rcases List.mem_cons.mp h with e | e
    .cases e;exact .inr (by rw[List.lookup_cons];simp)
    .exact .inl e
   .refine .inr ?_;rw[List.lookup_cons];split
    .rfl
    .exact h
  | false =>
   rw[if_neg (by simp)];refine vq ?_;rcases h with h | h
   .rcases List.mem_cons.mp h with e | e
    .cases e;cases hk
    .exact .inl e
   .exact .inr h
theorem zci {y:Str}{c:Addr}:∀ {names:List (Str×NameKind)}{h:Heap}{acc:List (Str×Addr)},(cellsFrom h.objs.size names acc).lookup y=some c ->
  acc.lookup y=some c\/(h.objs.size<=c/\(pushCells h names).IsCell c none/\(y,NameKind.cell)∈names)
 | [],h,acc,e=>.inl e
 | (n,k)::r,h,acc,e=>by
  unfold cellsFrom at e;cases hk:k == NameKind.cell with
  | true =>
   have hk':k=.cell:=by simpa using hk
   subst hk';rw[hk,if_pos rfl] at e;have ih:=zci (y:=y) (c:=c) (names:=r) (h:=h.push { cls:=.type "cell",data:=.cell none }) (acc:=(n,h.objs.size)::acc);rw[Heap.size_push] at ih;have hp:pushCells h ((n,NameKind.cell)::r)=pushCells (h.push { cls:=.type "cell",data:=.cell none }) r:=by
    exact if_pos hk
   rcases ih e with q | ⟨q1,q2,q3⟩
   .rw[List.lookup_cons] at q;cases hy:y == n with
    | true =>
     rw[hy] at q;cases q;have hyn:y=n:=by simpa using hy
     subst hyn;refine .inr ⟨Nat.le_refl _,?_,List.mem_cons_self⟩;rw[hp];exact ⟨_,pushCells_keeps _ _ _ _ (Heap.get?_push_size _ rfl),rfl⟩
    | false=>rw[hy] at q;exact .inl q
   .exact .inr ⟨Nat.le_trans (Nat.le_succ _) q1,by rw[hp];exact q2,List.mem_cons_of_mem _ q3⟩
  | false =>
   rw[hk,if_neg (by simp)] at e;have hp:pushCells h ((n,k)::r)=pushCells h r:=by
    show (if (k == NameKind.cell)=true then _ else _)=_;rw[hk,if_neg (by simp)]
   rcases zci e with q | ⟨q1,q2,q3⟩
   .exact .inl q
   .exact .inr ⟨q1,by rw[hp];exact q2,List.mem_cons_of_mem _ q3⟩
theorem zcj {y:Str}{c:Addr}{lo:Nat}:∀ {names:List (Str×NameKind)}{n:Nat}{acc:List (Str×Addr)},((y,NameKind.cell)∈names\/∀c,acc.lookup y=some c->lo<=c)->lo<=n->(cellsFrom n names acc).lookup y=some c->lo<=c
 | [],n,acc,h,_,e=>by
  rcases h with h | h
  .cases h
  .exact h c e
 | (m,k)::r,n,acc,h,hn,e=>by
  unfold cellsFrom at e;cases hk:k == NameKind.cell with
  | true =>
   rw[hk,if_pos rfl] at e;refine zcj ?_ (Nat.le_trans hn (Nat.le_succ _)) e;by_cases hy:y=m
   .subst hy;refine .inr λc hc=>?_;rw[List.lookup_cons,beq_self_eq_true] at hc;cases hc;exact hn
   .rcases h with h | h
    .rcases List.mem_cons.mp h with z | z
     .cases z;exact absurd rfl hy
     .exact .inl z
    .refine .inr λc hc=>?_;rw[List.lookup_cons] at hc;have:(y == m)=false:=by simpa using hy
     rw[this] at hc;exact h c hc
  | false =>
   rw[hk,if_neg (by simp)] at e;refine zcj ?_ hn e;rcases h with h | h
   .rcases List.mem_cons.mp h with z | z
    .cases z;cases hk
    .exact .inl z
   .exact .inr h
theorem qR:∀ {names:List (Str×NameKind)}{n:Nat}{acc:List (Str×Addr)},(∀y z c,acc.lookup y=some c->acc.lookup z=some c->y=z)->(∀y c,acc.lookup y=some c->c < n) ->
  ∀y z c,(cellsFrom n names acc).lookup y=some c->(cellsFrom n names acc).lookup z=some c->y=z
 | [],n,acc,hi,_=>hi
 | (m,k)::r,n,acc,hi,hl=>by
  unfold cellsFrom;cases hk:k == NameKind.cell with
  | true =>
   rw[if_pos rfl];refine qR (λy z c e1 e2=>?_) λy c e=>?_
   .rw[List.lookup_cons] at e1 e2;cases hy:y == m <;> cases hz:z == m <;> rw[hy] at e1 <;> rw[hz] at e2
    .exact hi y z c e1 e2
    .cases e2;exact absurd (hl y _ e1) (Nat.lt_irrefl _)
    .cases e1;exact absurd (hl z _ e2) (Nat.lt_irrefl _)
    .exact (by simpa using hy:y=m).trans (by simpa using hz:z=m).symm
   .rw[List.lookup_cons] at e;cases hy:y == m <;> rw[hy] at e
    .exact Nat.lt_succ_of_lt (hl y c e)
    .cases e;exact Nat.lt_succ_self _
  | false =>
   rw[if_neg (by simp)];exact qR hi hl
theorem gN {M:Model}{A:Around}{E:Value->Shared->Prop}{s:Shared}{scope:Scope}{globals:Addr}{cl:List (Str×Addr)}{qual:Str}{outer:Env}{Q:Env->Shared->Prop}
  (hQ:Q { scope:=scope,locals:=s.heap.objs.size,globals:=globals,cells:=cellsFrom (s.heap.objs.size+1) scope.names cl,qual:=qual,func:=none,code:=outer.code,frame:=outer.frame,builtins:=outer.builtins }
   { s with heap:=pushCells (s.heap.push { cls:=.type "dict",data:=.dict #[] }) scope.names }) :
  wpAny M A (newFunctionEnv scope globals cl [] qual none .none (some outer)) Q E s:=by
 simp only[newFunctionEnv,Option.isSome_some,if_true];refine wpAny_bind (wpAny_alloc ?_);refine wpAny_bind (wpAny_layCells _ (λname kind cells=>by cases hkc:kind == NameKind.cell <;> simp[hkc]) _ _ _ _ ?_);rw[show ({ s with heap:=s.heap.push { cls:=.type "dict",data:=.dict #[] } }:Shared).heap.objs.size=s.heap.objs.size+1 from Heap.size_push ..];simp only[List.forIn_nil];exact wpAny_bind (wpAny_pure (wpAny_pure hQ))
theorem zX {scope:Scope}{env:Env}{y:Str}:(relabel scope env).names.lookup y=(scope.names.lookup y).map λk=>if (k == NameKind.free && env.scope.kind == .function && env.kindOf y == some .cell) then NameKind.cell else k:=by
 have all:∀l:List (Str×NameKind),(l.map λ(n,k)=>if (k == NameKind.free && env.scope.kind == .function && env.kindOf n == some .cell) then (n,NameKind.cell) else (n,k)).lookup y=(l.lookup y).map λk=>if (k == NameKind.free && env.scope.kind == .function && env.kindOf y == some .cell) then NameKind.cell else k:=by
  intro l
  induction l with
  | nil=>rfl
  | cons p r ih =>
   obtain ⟨n,k⟩:=p;rw[List.map_cons,List.lookup_cons];by_cases hc:(k == NameKind.free && env.scope.kind == .function && env.kindOf n == some .cell)=true
   .simp only[hc,if_true,List.lookup_cons];cases hy:y == n with
    | true =>
     have:y=n:=by simpa using hy
     subst this;simp only[Option.map_some,hc,if_true]
    | false=>exact ih
   .simp only[if_neg hc,List.lookup_cons];cases hy:y == n with
    | true =>
     have:y=n:=by simpa using hy
     subst this;simp only[Option.map_some,if_neg hc]
    | false=>exact ih
 exact all scope.names
noncomputable def dum (x:Str):Str:=⟨x.cps.push 0⟩
noncomputable def yD (N xs:List Str):List Str:=(N.map λy=>if y∈xs then dum y else y)++xs
theorem zbC (N xs:List Str):(yD N xs).length=N.length+xs.length:=by simp[yD]
theorem wJ (N xs:List Str)(j:Nat):(yD N xs)[N.length+j]?=xs[j]?:=by
 unfold yD;rw[List.getElem?_append_right (by simp)];simp
theorem zbD {N xs:List Str}{y:Str}{i:Nat}(hi:i < N.length)(h:(yD N xs)[i]?=some y):(∃x∈xs,y=dum x)\/(N[i]?=some y/\y∉xs):=by
 unfold yD at h;rw[List.getElem?_append_left (by simpa using hi),List.getElem?_map] at h;obtain ⟨z,hz⟩:∃z,N[i]?=some z:=⟨N[i],by simp[hi]⟩;rw[hz] at h;by_cases e:z∈xs
 .simp only[Option.map_some,if_pos e] at h;exact .inl ⟨z,e,(Option.some.inj h).symm⟩
 .simp only[Option.map_some,if_neg e] at h;have e2:z=y:=Option.some.inj h;subst e2;exact .inr ⟨hz,e⟩
structure CompOf (X:Cx)(scope:Scope)(xs:List Str)(Xc:Cx):Prop where
 prog:Xc.prog=X.prog
 w:Xc.w=X.w
 K:Xc.K=X.K
 mg:Xc.mg=X.mg
 base:Xc.base=X.base
 A:Xc.A=X.A
 N:Xc.N=yD X.N xs
 sc:Xc.env.scope=relabel scope X.env
 calm:Xc.calm=true
 stack:Xc.stack=X.stack
def PTs (X:Cx)(ifs:List Expr)(t:TT):Prop :=
 ∀ (pins:List (Addr×Obj)) (s:Shared) (σ:St) (H:Hp) (Q:Bool->Hp->Prop),Inv X pins σ H s->t σ H Q ->
  wpAny (model X.prog X.w) X.A (forIn ifs true λc r=>if r=true then do let ok <- isTrue c X.env (eval c X.env);pure (ForInStep.yield ok) else pure (ForInStep.yield r)) (TP X pins σ Q) X.xe s
theorem wS {X:Cx}:PTs X [] (λ_ H Q=>Q true H):=λ_ _ _ H _ I h=>wpAny_tests_nil ⟨H,I,h⟩
theorem zeh {X:Cx}{c:Expr}{t:TT}(h:PT X c t):PTs X [c] t:=λpins s σ H Q I q=>wpAny_tests_one (h pins s σ H Q I q)
structure BlockOk (X:Cx)(scope:Scope)(xs:List Str):Prop where
 kind:scope.kind=.function
 own:∀x∈xs,scope.names.lookup x=some .local\/scope.names.lookup x=some .cell
 locs:∀y∈scope.names,y.2=.local->scope.names.lookup y.1=some .local
 free:∀y∈scope.names,y.2=.free->X.env.scope.names.lookup y.1=some .cell\/X.env.scope.names.lookup y.1=some .free
 alone:∀y∈X.N,y∉xs->scope.names.lookup y≠some .local/\scope.names.lookup y≠some .cell
 one:∀y∈scope.names,y.2=.cell->scope.names.lookup y.1≠some .free
 nd:(yD X.N xs).Nodup
 dumN:∀x∈xs,scope.names.lookup (dum x)=none
theorem jV {prog:Program}{w:World}{A:Around}{R:Result->Shared->Prop}{s:Shared}{elt target iter:Expr}{ifs:List Expr}{scope:Scope}{pos:Pos}{it acc:Value}{env:Env}(I:Nat->Shared->Prop)
  (turn:∀n s,I n s->wpAny (model prog w) A (pyNext it) (λr s₁=>match r with
   | none=>R (.ok .next) s₁
   | some v=>wpAny (model prog w) A (letOwnedTupleGo target it v) (λ_ s₁'=>wpAny (model prog w) A (assign target env v) (λ_ s₂ =>
     wpAny (model prog w) A (forIn ifs true λc r=>if r=true then do let ok <- isTrue c env (eval c env);pure (ForInStep.yield ok) else pure (ForInStep.yield r)) (λok s₃ =>
      if ok=true then wpAny (model prog w) A (eval elt env) (λx s₄ =>
       wpAny (model prog w) A (call (.builtin "list.append") [acc,x]) (λ_ s₅=>∃m,m < n/\I m s₅) (notedBy (model prog w) A env λe s'=>R (.error e) s') s₄) (notedBy (model prog w) A env λe s'=>R (.error e) s') s₃
      else ∃m,m < n/\I m s₃) (notedBy (model prog w) A env λe s'=>R (.error e) s') s₂) (notedBy (model prog w) A env λe s'=>R (.error e) s') s₁') (notedBy (model prog w) A env λe s'=>R (.error e) s') s₁) (notedBy (model prog w) A env λe s'=>R (.error e) s') s)
  (n:Nat) (h:I n s):codeAny (model prog w) A (.compLoop (.ListComp elt [⟨target,iter,ifs,0⟩] scope pos) 0 it acc env) R s:=by
 refine codeAny_loop rfl I (λn s hI=>?_) n h;show wpAny _ A ((compTurn (.ListComp elt [⟨target,iter,ifs,0⟩] scope pos) 0 it acc env).onRaise (λx=>do noteFrame x env;theTreesLotGoes x)) _ _ s;refine wpAny_noted ?_;rw[compTurn_list];refine wpAny_bind (wpAny_standAt (wpAny_bind (wpAny_mono (turn n s hI) (λr s₁ h₁=>?_) λ_ _ h'=>h')));cases r with
 | none=>exact wpAny_pure h₁
 | some v =>
  refine wpAny_bind (wpAny_mono h₁ (λ_ s₁' h₁'=>?_) λ_ _ h'=>h');refine wpAny_bind (wpAny_mono h₁' (λ_ s₂ h₂=>wpAny_bind (wpAny_mono h₂ (λok s₃ h₃=>?_) λ_ _ h'=>h')) λ_ _ h'=>h');cases ok with
  | false=>exact wpAny_pure ⟨rfl,h₃⟩
  | true =>
   exact wpAny_bind (wpAny_bind (wpAny_mono h₃ (λx s₄ h₄=>wpAny_bind (wpAny_mono h₄ (λ_ s₅ h₅=>wpAny_pure (wpAny_pure ⟨rfl,h₅⟩)) λ_ _ h'=>h')) λ_ _ h'=>h'))
def kF (un:V->Hp->List V->Prop)(wi:TI)(tc:TT)(te:TE):TE:=λσ H Q=>wi σ H λJ H1=>∀D,H1 D=none->∃W:Nat->Nat->List V->Hp->Prop,(∃m,W 0 m [] (upd H1 D (.lst [])))/\∀i m ys H,W i m ys H ->
 (J.stop i H/\Q (.ref D) H)\/(J.go i H/\∀v H',J.yld i H v H'->∃vs,un v H' vs/\tc (σ++vs.map some) H' λb H2=>if b=true then te (σ++vs.map some) H2 λy H3=>H3 D=some (.lst ys)/\ys.length < sizeLine/\∃m',m' < m/\W (i+1) m' (ys++[y]) (upd H3 D (.lst (ys++[y])))
  else ∃m',m' < m/\W (i+1) m' ys H2)
theorem kG {X:Cx}{elt iter tg:Expr}{xs:List Str}{g:TG}{un:V->Hp->List V->Prop}{ifs:List Expr}{scope:Scope}{pos:Pos}{tc:TT}{te:TE}{pins:List (Addr×Obj)}{σ:St}{s:Shared}{H:Hp}{Q:Value->Shared->Prop}{use:Option (Value->Sem Unit)}
  {D it:Addr}{fp:List Addr}{tn:Nat->Heap->Prop}{J:It}(B:BlockOk X scope xs) (hc:X.calm=true)
  (hpg:∀Xc,CompOf X scope xs Xc->(∀x∈xs,Loc Xc.env.scope x/\(Xc.fn x=true\/Xc.env.scope.names.lookup x=some .local))->PG Xc tg g)
  (hun:∀v H vs os,os.length=xs.length->un v H vs->vs.length=xs.length/\g v (σ++os) H λσ2 H2=>σ2=σ++vs.map some/\H2=H)
  (hbody:∀Xc,CompOf X scope xs Xc->PTs Xc ifs tc/\PE Xc elt te)
  (I:Inv X pins σ H s) (T:Turn X.prog X.w X.K tg J fp it tn) (st:tn 0 s.heap) (hfp:∀b∈fp,vY X pins H b)
  (W:Nat->Nat->List V->Hp->Prop) (m0:Nat) (w0:W 0 m0 [] H)
  (turn:∀i m ys H,W i m ys H->(J.stop i H/\∀s' m' C,Inv X pins σ H s'->s'.heap.Ns C m'->s.heap.objs.size<=C->H C=none->compPost (model X.prog X.w) X.A X.xe use Q (.ref D) C (.ok .next) s') \/
   (J.go i H/\∀v H',J.yld i H v H'->∃vs,un v H' vs/\tc (σ++vs.map some) H' λb H2=>if b=true then te (σ++vs.map some) H2 λy H3=>H3 D=some (.lst ys)/\ys.length < sizeLine/\∃m',m' < m/\W (i+1) m' (ys++[y]) (upd H3 D (.lst (ys++[y])))
    else ∃m',m' < m/\W (i+1) m' ys H2)) :
  wpAny (model X.prog X.w) X.A (newFunctionEnv scope X.env.globals (wI X.env scope.names []) [] X.env.qual none .none (some X.env)) (λcenv s₄ =>
   codeAny (model X.prog X.w) X.A (.compStart (.ListComp elt [⟨tg,iter,ifs,0⟩] scope pos) 0 (.ref it) (.ref D) { cenv with scope:=relabel scope X.env }) (compPost (model X.prog X.w) X.A X.xe use Q (.ref D) cenv.locals) s₄) X.xe s:=by
 refine gN ?_;have hcl:∀y∈scope.names,y.2=.free->∃c,X.env.cells.lookup y.1=some c:=λy hy hf=>by
  rcases B.free y hy hf with q | q
  .exact I.ok.has y.1 (.inl q)
  .exact I.ok.has y.1 (.inr q)
 -- the block's own parts
 generalize hC:s.heap.objs.size=C;generalize hcs:cellsFrom (C+1) scope.names (wI X.env scope.names [])=cs;generalize hh4:pushCells (s.heap.push { cls:=.type "dict",data:=.dict #[] }) scope.names=h4;have szP:(s.heap.push { cls:=.type "dict",data:=.dict #[] }).objs.size=C+1:=by rw[Heap.size_push,hC]
 have keep4:∀b o,s.heap.get? b=some o->h4.get? b=some o:=λb o e=>hh4▸pushCells_keeps _ _ _ _ (Heap.get?_push_of_some _ e);have nsC:h4.Ns C (λ_=>none):=by
  have q:=(Heap.Ns.new s.heap (.type "dict")).keeps (pushCells_keeps scope.names (s.heap.push { cls:=.type "dict",data:=.dict #[] }));rw[hC,hh4] at q;exact q
 -- a cell of the block: one of its own,or one of those around
 have csIn:∀y c,cs.lookup y=some c->((y,NameKind.free)∈scope.names/\X.env.cells.lookup y=some c)\/(C+1<=c/\h4.IsCell c none/\(y,NameKind.cell)∈scope.names):=λy c e=>by
  have q:=zci (y:=y) (c:=c) (names:=scope.names) (h:=s.heap.push { cls:=.type "dict",data:=.dict #[] }) (acc:=wI X.env scope.names []);rw[szP,hcs,hh4] at q;rcases q e with q | q
  .rcases wn hcl q with z | z
   .cases z
   .exact .inl z
  .exact .inr q
 have oldC:∀y c,X.env.cells.lookup y=some c->c < C:=λy c e=>by
  obtain ⟨v,q⟩:=I.cell y c e;rw[<- hC];exact q.lt
 have fpC:∀b∈fp,b < C:=λb hb=>by
  obtain ⟨o,e,_⟩:=T.obj _ _ st b hb;rw[<- hC];exact Heap.lt_size e
 let cenv:Env:={ scope:=relabel scope X.env,locals:=C,globals:=X.env.globals,cells:=cs,qual:=X.env.qual,func:=none,code:=X.env.code,frame:=X.env.frame,builtins:=X.env.builtins }
 let RR:Result->Shared->Prop:=compPost (model X.prog X.w) X.A X.xe use Q (.ref D) C
 let Xc:Cx:={ X with N:=yD X.N xs,s₀:=s,H₀:=H,env:=cenv,outer:=X.stack,stack:=X.stack,ex:=fp,fn:=λy=>decide (scope.names.lookup y=some .cell),calm:=true,pn:=[],xe:=notedBy (model X.prog X.w) X.A cenv λe s'=>RR (.error e) s' }
 have hXc:CompOf X scope xs Xc:=⟨rfl,rfl,rfl,rfl,rfl,rfl,rfl,rfl,rfl,rfl⟩;obtain ⟨hT,hE⟩:=hbody Xc hXc;have ok:Xc.Ok:=by
  refine ⟨I.ok.mod,B.kind,I.ok.glob,I.ok.blt,Nat.le_of_eq hC,?_,λy hy=>?_,λy c hf e=>?_,λ_=>I.ok.hd hc,I.ok.frames,.inl rfl,λb hb=>⟨Nat.ne_of_lt (fpC b hb),λy c e=>?_⟩,I.bs,Nat.le_trans I.ok.bsz I.sz,λb o e hb=>?_,λb hb hf=>?_,I.stack,I.stkFree⟩
  .show ∀y z c,cs.lookup y=some c->cs.lookup z=some c->y=z;rw[<- hcs];refine qR (λy z c e1 e2=>?_) λy c e=>?_
   .rcases wn hcl e1 with q | q
    .cases q
    .rcases wn hcl e2 with q' | q'
     .cases q'
     .exact I.ok.inj y z c q.2 q'.2
   .rcases wn hcl e with q | q
    .cases q
    .exact Nat.lt_succ_of_lt (oldC y c q.2)
  .have hy':(relabel scope X.env).names.lookup y=some .cell\/(relabel scope X.env).names.lookup y=some .free:=hy;rw[zX] at hy';show ∃c,cs.lookup y=some c;rw[<- hcs];refine Option.isSome_iff_exists.mp (PySem.W.cellsFrom_some _ _ _ ?_);cases hk:scope.names.lookup y with
   | none=>rw[hk] at hy';rcases hy' with z | z <;> cases z
   | some k =>
    rw[hk] at hy';have kk:k=.cell\/k=.free:=by
     simp only[Option.map_some] at hy';by_cases hcnd:(k == NameKind.free && X.env.scope.kind == .function && X.env.kindOf y == some .cell)=true
     .refine .inr ?_;have:=(Bool.and_eq_true_iff.mp (Bool.and_eq_true_iff.mp hcnd).1).1;simpa using this
     .rw[if_neg hcnd] at hy';rcases hy' with z | z
      .exact .inl (Option.some.inj z)
      .exact .inr (Option.some.inj z)
    rcases kk with rfl | rfl
    .exact .inl rfl
    .exact .inr (vq (.inl (PySem.mem_of_lookup hk)))
  .show s.heap.objs.size<=c;rw[hC];have e':cs.lookup y=some c:=e;rw[<- hcs] at e';exact Nat.le_trans (Nat.le_succ _) (zcj (lo:=C+1) (.inl (PySem.mem_of_lookup (of_decide_eq_true hf))) (Nat.le_refl _) e')
  .show c≠b;rintro rfl;rcases csIn y c e with ⟨_,z⟩ | ⟨z,_,_⟩
   .exact (hfp c hb).2.2.2.2.1 y c z rfl
   .exact absurd (Nat.lt_of_lt_of_le (fpC c hb) (Nat.le_trans (Nat.le_succ _) z)) (Nat.lt_irrefl _)
  .rcases (hfp b hb).2.2.2.1 with z | z
   .exact I.ok.noex b o e z
   .exact absurd (Nat.lt_of_lt_of_le (Heap.lt_size (I.ok.bs b o e).1) z) (Nat.lt_irrefl _)
  .rcases List.mem_cons.mp (I.stkSub b hf) with z | z
   .exact (hfp b hb).2.1 z
   .exact (hfp b hb).2.2.1 z
 have frC:H C=none:=I.hok.fresh (Nat.le_of_eq hC);have frN:∀c,C<=c->H c=none:=λc hc'=>I.hok.fresh (by rw[hC];exact hc');have hσ:σ.length=X.N.length:=I.len;have I4:Inv Xc [] (σ++xs.map λ_=>none) H { s with heap:=h4 }:=by
  refine ⟨ok,rfl,I.bare,Un.kept keep4,⟨_,nsC,λi y v e1 e2 e3=>?_⟩,λy c e=>?_,frC,λy c e=>?_,λp hp=>absurd (show p∈([]:List (Addr×Obj)) from hp) (by simp),I.hok.kept keep4,?_⟩
  .have hi:i < σ.length:=by
    by_cases hi:i < σ.length
    .exact hi
    .rw[List.getElem?_append_right (by lia),List.getElem?_map] at e2;cases hz:xs[i - σ.length]? with
     | none=>rw[hz] at e2;simp at e2
     | some k=>rw[hz] at e2;simp at e2
   rw[List.getElem?_append_left hi] at e2;have vis:scope.names.lookup y=some .local\/scope.names.lookup y=some .cell\/scope.names.lookup y=some .free:=by
    have e3':Vis (relabel scope X.env) y:=e3;unfold Vis at e3';rw[zX] at e3';cases hk:scope.names.lookup y with
    | none=>rw[hk] at e3';rcases e3' with z | z | z <;> cases z
    | some k =>
     rw[hk] at e3';simp only[Option.map_some] at e3';by_cases hcnd:(k == NameKind.free && X.env.scope.kind == .function && X.env.kindOf y == some .cell)=true
     .have:=(Bool.and_eq_true_iff.mp (Bool.and_eq_true_iff.mp hcnd).1).1;exact .inr (.inr (by rw[show k=.free by simpa using this]))
     .rw[if_neg hcnd] at e3';exact e3'
   rcases zbD (by rw[<- hσ];exact hi) e1 with z | ⟨z,zx⟩
   .obtain ⟨x,hx,z⟩:=z;subst z;rw[B.dumN x hx] at vis;rcases vis with q | q | q <;> cases q
   .have hfree:scope.names.lookup y=some .free:=by
     rcases vis with q | q | q
     .exact absurd q (B.alone y (List.mem_of_getElem? z) zx).1
     .exact absurd q (B.alone y (List.mem_of_getElem? z) zx).2
     .exact q
    have kout:=B.free _ (PySem.mem_of_lookup hfree) rfl;obtain ⟨m,hn,hl⟩:=I.loc;obtain ⟨u,r,l⟩:=hl i y v z e2 (kout.elim (λq=>.inr (.inl q)) λq=>.inr (.inr q));refine ⟨u,r,?_⟩;rcases l with ⟨k,_⟩ | ⟨_,c,ec,zc⟩
    .have k':X.env.scope.names.lookup y=some .local:=k;rcases kout with q | q <;> rw[k'] at q <;> cases q
    .have hsome:∃c',cs.lookup y=some c':=ok.has y (by
      show (relabel scope X.env).names.lookup y=some .cell\/(relabel scope X.env).names.lookup y=some .free;rw[zX,hfree];simp only[Option.map_some];split
      .exact .inl rfl
      .exact .inr rfl)
     obtain ⟨c',ec'⟩:=hsome;refine .inr ⟨?_,c',ec',?_⟩
     .show (relabel scope X.env).names.lookup y=some .cell\/(relabel scope X.env).names.lookup y=some .free;rw[zX,hfree];simp only[Option.map_some];split
      .exact .inl rfl
      .exact .inr rfl
     .rcases csIn y c' ec' with ⟨_,q⟩ | ⟨_,_,q⟩
      .rw[ec] at q;cases q;exact zc.keeps keep4
      .exact absurd hfree (B.one (y,.cell) q rfl)
  .rcases csIn y c e with ⟨_,q⟩ | ⟨_,q,_⟩
   .obtain ⟨v,z⟩:=I.cell y c q;exact ⟨v,z.keeps keep4⟩
   .exact ⟨_,q⟩
  .rcases csIn y c e with ⟨_,q⟩ | ⟨q,_,_⟩
   .exact I.freeC y c q
   .exact frN c (by lia)
  .show (σ++xs.map λ_=>none).length=(yD X.N xs).length;rw[zbC,List.length_append,hσ,List.length_map]
 -- the loop
 have hLoc:∀x∈xs,Loc Xc.env.scope x/\(Xc.fn x=true\/Xc.env.scope.names.lookup x=some .local):=λx hx=>by
  constructor
  .show (relabel scope X.env).names.lookup x=some .local\/(relabel scope X.env).names.lookup x=some .cell;rw[zX];rcases B.own x hx with q | q <;> rw[q]
   .exact .inl rfl
   .exact .inr rfl
  .rcases B.own x hx with q | q
   .refine .inr ?_;show (relabel scope X.env).names.lookup x=some .local;rw[zX,q];rfl
   .exact .inl (decide_eq_true q)
 have hg:PG Xc tg g:=hpg Xc hXc hLoc;have fpX:∀ {H':Hp},(∀b∈fp,H' b=none)->∀b∈fp,vY Xc [] H' b:=λhn b hb =>
  ⟨hn b hb,Nat.ne_of_lt (fpC b hb),λz=>ok.exfs b hb z,.inl hb,λy c e=>(ok.exf b hb).2 y c e,λp hp=>absurd (show p∈([]:List (Addr×Obj)) from hp) (by simp)⟩
 have loop:codeAny (model X.prog X.w) X.A (.compLoop (.ListComp elt [⟨tg,iter,ifs,0⟩] scope pos) 0 (.ref it) (.ref D) cenv) RR { s with heap:=h4 }:=by
  refine jV (λn s'=>∃i os ys H',os.length=xs.length/\Inv Xc [] (σ++os) H' s'/\tn i s'.heap/\(∀b∈fp,H' b=none)/\W i n ys H') ?_ m0 ⟨0,_,[],H,List.length_map _,I4,T.keep _ _ _ st λb _ o e=>keep4 b o e,λb hb=>(hfp b hb).1,w0⟩;rintro n s3 ⟨i,os,ys,H3,hos,I3,st3,fr3,w3⟩;rcases turn i n ys H3 w3 with ⟨stop,fin⟩ | ⟨go,step⟩
  .refine thn (T.done Xc rfl rfl rfl rfl i [] s3 (σ++os) H3 Xc.xe I3 (fpX fr3) st3 stop) λr s4 ⟨hr,I4⟩=>?_;subst hr;obtain ⟨m,hn,_⟩:=id I4.loc;refine fin s4 m C ?_ hn (Nat.le_of_eq hC) I4.free;exact I.call' (ch:=fp) I4.os I4.base I4.hok I4.bare λb hb=>⟨(hfp b hb).2.2.2.1,(hfp b hb).2.1,(hfp b hb).2.2.2.2.1,(hfp b hb).2.2.2.2.2⟩
  .refine thn (T.item Xc rfl rfl rfl rfl i [] s3 (σ++os) H3 Xc.xe I3 (fpX fr3) st3 go) λr s4 ⟨u,hr,h4'⟩=>?_;subst hr;refine thn h4' λ_ s5 ⟨v,H5,I5,r5,y5,st5,fr5⟩=>?_;have I5':=I5.pinned (fpX fr5) (T.obj _ _ st5);obtain ⟨vs,hvs,step5⟩:=step v H5 y5;obtain ⟨hvl,hset⟩:=hun v H5 vs os hos hvs;refine thn (hg _ s5 (σ++os) H5 v u (λσ2 H2=>σ2=σ++vs.map some/\H2=H5) I5' r5 hset) λ_ s6 ⟨σ6,H6,I6,e6,e6'⟩=>?_;subst e6;subst e6';have back:∀ {H7:Hp}{s7:Shared},Inv Xc ([]++kC fp s5.heap) (σ++vs.map some) H7 s7->tn (i+1) s7.heap/\(∀b∈fp,H7 b=none)/\Inv Xc [] (σ++vs.map some) H7 s7:=λ{H7 s7} I7=>by
    refine ⟨T.keep _ _ _ st5 λb hb ob e=>(I7.pin (b,ob) (List.mem_append_right _ (List.mem_append_right _ (xP hb e)))).1,λb hb=>?_,I7.unpinned⟩;obtain ⟨ob,e,_⟩:=T.obj _ _ st5 b hb;exact (I7.pin (b,ob) (List.mem_append_right _ (List.mem_append_right _ (xP hb e)))).2.1
   refine thn (hT _ s6 (σ++vs.map some) H6 _ I6 step5) λb s7 ⟨H7,I7,q7⟩=>?_;cases b with
   | false =>
    rw[if_neg Bool.false_ne_true] at q7 ⊢;obtain ⟨m',hm,w7⟩:=q7;obtain ⟨t1,t2,t3⟩:=back I7;exact ⟨m',hm,i+1,_,ys,H7,(by rw[List.length_map];exact hvl),t3,t1,t2,w7⟩
   | true =>
    rw[if_pos rfl] at q7 ⊢;refine thn (hE _ s7 (σ++vs.map some) H7 _ I7 q7) λyv s8 ⟨y,H8,I8,r8,hD8,hl8,m',hm,w8⟩=>?_;refine thn (jB (X:=Xc) _ s8 (σ++vs.map some) H8 (.ref D) [y] (.ref D) [yv] (λ_ H9=>H9=upd H8 D (.lst (ys++[y]))) I8 rfl (.cons r8 .nil) ⟨D,ys,y,rfl,rfl,hD8,hl8,rfl⟩) λ_ s9 ⟨_,H9,I9,_,e9⟩=>?_;subst e9;obtain ⟨t1,t2,t3⟩:=back I9;exact ⟨m',hm,i+1,_,ys++[y],_,(by rw[List.length_map];exact hvl),t3,t1,t2,w8⟩
 refine codeAny_compStart_list loop ?_;exact T.self X.A 0 _ _ _ (T.keep _ _ _ st λb _ o e=>keep4 b o e) loop
section
variable {X:Cx}{elt iter tg:Expr}{xs:List Str}{y:Str}{g:TG}{un:V->Hp->List V->Prop}{py:Pos}{ifs:List Expr}{scope:Scope}{pos spos:Pos}{wi:TI}{tc:TT}{te:TE}
theorem Inv.aside {pins:List (Addr×Obj)}{σ:St}{H:Hp}{s:Shared}{C lo:Addr}{h':Heap}(I:Inv X pins σ H s)(hlo:lo<=C)(hL:X.env.locals < lo)(hcell:∀y c,X.env.cells.lookup y=some c->c < lo)(hpin:∀p∈X.pn++pins,p.1 < lo)
  (hn:H C=none) (hs:Heap.SameBut C s.heap h'):Inv X pins σ H { s with heap:=h' } :=
 I.turned (it:=C) (t':=s.toks) (λb o hb e=>(hs.2 b hb).trans e) hn (Nat.ne_of_gt (Nat.lt_of_lt_of_le hL hlo)) (.inr (Nat.le_trans I.ok.above (Nat.le_trans (Nat.le_of_lt hL) hlo)))
  (λy c e=>Nat.ne_of_lt (Nat.lt_of_lt_of_le (hcell y c e) hlo)) λp hp=>Nat.ne_of_lt (Nat.lt_of_lt_of_le (hpin p hp) hlo)
theorem Inv.below {pins:List (Addr×Obj)}{σ:St}{H:Hp}{s:Shared}(I:Inv X pins σ H s):X.env.locals < s.heap.objs.size/\(∀y c,X.env.cells.lookup y=some c->c < s.heap.objs.size)/\∀p∈X.pn++pins,p.1 < s.heap.objs.size :=
 ⟨I.lt,λy c e=>let ⟨_,z⟩:=I.cell y c e;z.lt,λp hp=>Heap.lt_size (I.pin p hp).1⟩
theorem wE (B:BlockOk X scope xs)(ok:X.Ok):closureFor scope X.env=pure (wI X.env scope.names []) :=
 kE λy hy hf=>(B.free y hy hf).elim (λq=>ok.has y.1 (.inl q)) λq=>ok.has y.1 (.inr q)
structure Tgt (X:Cx)(scope:Scope)(xs:List Str)(tg:Expr)(g:TG)(un:V->Hp->List V->Prop):Prop where
 pg:∀Xc,CompOf X scope xs Xc->(∀x∈xs,Loc Xc.env.scope x/\(Xc.fn x=true\/Xc.env.scope.names.lookup x=some .local))->PG Xc tg g
 un:∀v H vs os (σ:St),σ.length=X.N.length->os.length=xs.length->un v H vs->vs.length=xs.length/\g v (σ++os) H λσ2 H2=>σ2=σ++vs.map some/\H2=H
def un1 (v:V)(_:Hp)(vs:List V):Prop:=vs=[v]
theorem zck {α:Type}{l:List α}(h:l.length=1):∃a,l=[a]:=by
 cases l with
 | nil=>cases h
 | cons a t =>
  cases t with
  | nil=>exact ⟨a,rfl⟩
  | cons b t=>cases h
theorem zcl {α:Type}{l:List α}(h:l.length=2):∃a b,l=[a,b]:=by
 cases l with
 | nil=>cases h
 | cons a t =>
  obtain ⟨b,rfl⟩:=zck (Nat.succ.inj h);exact ⟨a,b,rfl⟩
theorem jW {x:Str}{px:Pos}(B:BlockOk X scope [x]):Tgt X scope [x] (.Name x px) (vP X.N.length) un1:=by
 refine ⟨λXc c h=>?_,λv H vs os σ hσ ho hv=>?_⟩
 .exact v5 (by rw[c.N];exact B.nd) (by rw[c.N];exact wJ X.N [x] 0) (h x (by simp)).1 (h x (by simp)).2
 .cases hv;refine ⟨rfl,?_,rfl⟩;obtain ⟨o,rfl⟩:=zck ho;rw[<- hσ,List.set_append_right _ _ (Nat.le_refl _)];simp
def un2 (K:PySem.W.Frag)(v:V)(H:Hp)(vs:List V):Prop:=∃a,v=.ref a/\SqT K H a vs/\vs.length=2
theorem jX {x y:Str}{px py:Pos}{k:Nat}{pt:Pos}(hc:X.calm=true)(B:BlockOk X scope [x,y]):Tgt X scope [x,y] (.Tuple [.Name x px,.Name y py] k pt) (zh7 X.K 2 (zb8 (vP X.N.length) (zb8 (vP (X.N.length+1)) zh6))) (un2 X.K):=by
 refine ⟨λXc c h=>?_,λv H vs os σ hσ ho hv=>?_⟩
 .have nd:Xc.N.Nodup:=by rw[c.N];exact B.nd
  rw[<- c.K];exact zgc c.calm (gH (v5 nd (by rw[c.N];exact wJ X.N [x,y] 0) (h x (by simp)).1 (h x (by simp)).2) (gH (v5 nd (by rw[c.N];exact wJ X.N [x,y] 1) (h y (by simp)).1 (h y (by simp)).2) zd6))
 .obtain ⟨a,e1,e2,e3⟩:=hv;obtain ⟨u,w,rfl⟩:=zcl e3;obtain ⟨o,p,rfl⟩:=zcl ho;refine ⟨rfl,a,[u,w],e1,e2,rfl,u,[w],rfl,w,[],rfl,rfl,?_,rfl⟩;rw[<- hσ,List.set_append_right _ _ (Nat.le_refl _),List.set_append_right _ _ (by lia)];simp
theorem v6 (B:BlockOk X scope xs)(hc:X.calm=true)(hT:Tgt X scope xs tg g un)(hi:PI X tg iter wi)(hbody:∀Xc,CompOf X scope xs Xc->PTs Xc ifs tc/\PE Xc elt te)
  (hs:∀v,foldedSetIterable iter X.env v=pure v:=by intro _;rfl):PE X (.ListComp elt [⟨tg,iter,ifs,0⟩] scope pos) (kF un wi tc te):=by
 intro pins s σ H Q I h;rw[eval_ListComp];refine wpAny_comprehension_free (use:=none) (cl:=wI X.env scope.names []) rfl hs (wE B I.ok) B.kind B.locs ?_;refine thn (hi pins s σ H _ I h) λxv s1 h1=>thn h1 λitv s2 h2=>?_;obtain ⟨it,fp,tn,J,H2,e,I2,T,st2,f2,q2⟩:=h2;subst e;refine wpAny_newObj_type ?_;have I3:=I2.lnew (its:=[]) (ys:=[]) (t':=s2.toks) .nil (Nat.zero_le _);obtain ⟨W,⟨m0,w0⟩,turn⟩:=q2 s2.heap.objs.size (I2.hok.fresh (Nat.le_refl _));have fp3:∀b∈fp,vY X pins (upd H2 s2.heap.objs.size (.lst [])) b:=λb hb=>by
  obtain ⟨o,e,_⟩:=T.obj _ _ st2 b hb;exact ⟨by rw[zg (Nat.ne_of_lt (Heap.lt_size e))];exact (f2 b hb).1,(f2 b hb).2⟩
 obtain ⟨b1,b2,b3⟩:=I3.below;refine kG B hc hT.pg (λv H vs os h1 h2=>hT.un v H vs os σ I.len h1 h2) hbody I3 T (T.keep _ _ _ st2 λb _ o e=>Heap.get?_push_of_some _ e) fp3 W m0 w0 λi m ys H4 w=>?_;rcases turn i m ys H4 w with ⟨stop,q⟩ | r
 .exact .inl ⟨stop,λs' m' C I' hn hC hCn=>⟨m',hn,λh' hsb=>⟨.ref s2.heap.objs.size,H4,I'.aside hC b1 b2 b3 hCn hsb,rfl,q⟩⟩⟩
 .exact .inr r
theorem qS {i:Nat}(B:BlockOk X scope xs)(hc:X.calm=true)(hT:Tgt X scope xs tg g un)(hi:PI X tg iter wi)(hbody:∀Xc,CompOf X scope xs Xc->PTs Xc ifs tc/\PE Xc elt te)
  (hN:X.N.Nodup) (hy:X.N[i]?=some y) (hx:Loc X.env.scope y) (hf:X.fn y=true\/X.env.scope.names.lookup y=some .local)
  (hsw:swapsWith (.ListComp elt [⟨tg,iter,ifs,0⟩] scope pos) (some (.Name y py)) spos.line X.env=pure true)
  (hs:∀v,foldedSetIterable iter X.env v=pure v:=by intro _;rfl):PS X (.Assign [.Name y py] (.ListComp elt [⟨tg,iter,ifs,0⟩] scope pos) spos) (zd7 (kF un wi tc te) (vP i)):=by
 intro pins s σ H D I h;rw[exec_Assign_Name_used _ _ _ _ hsw];refine wpAny_bind (wpAny_standAt (wpAny_bind ?_));show wpAny _ X.A (do let _ <- comprehension (.ListComp elt [⟨tg,iter,ifs,0⟩] scope pos) scope X.env _ (newList []) false (eval iter X.env) (some (assign (.Name y py) X.env))) _ _ s;refine wpAny_bind (wpAny_mono (wpAny_comprehension_free (use:=some (assign (.Name y py) X.env)) (cl:=wI X.env scope.names []) (Q:=λ_ s'=>SP X pins D .next s') rfl hs (wE B I.ok) B.kind B.locs ?_)
  (λ_ s' hq=>wpAny_pure (wpAny_pure hq)) λ_ _ e=>e)
 refine thn (hi pins s σ H _ I h) λxv s1 h1=>thn h1 λitv s2 h2=>?_;obtain ⟨it,fp,tn,J,H2,e,I2,T,st2,f2,q2⟩:=h2;subst e;refine wpAny_newObj_type ?_;have I3:=I2.lnew (its:=[]) (ys:=[]) (t':=s2.toks) .nil (Nat.zero_le _);obtain ⟨W,⟨m0,w0⟩,turn⟩:=q2 s2.heap.objs.size (I2.hok.fresh (Nat.le_refl _));have fp3:∀b∈fp,vY X pins (upd H2 s2.heap.objs.size (.lst [])) b:=λb hb=>by
  obtain ⟨o,e,_⟩:=T.obj _ _ st2 b hb;exact ⟨by rw[zg (Nat.ne_of_lt (Heap.lt_size e))];exact (f2 b hb).1,(f2 b hb).2⟩
 obtain ⟨b1,b2,b3⟩:=I3.below;refine kG B hc hT.pg (λv H vs os h1 h2=>hT.un v H vs os σ I.len h1 h2) hbody I3 T (T.keep _ _ _ st2 λb _ o e=>Heap.get?_push_of_some _ e) fp3 W m0 w0 λi' m ys H4 w=>?_;rcases turn i' m ys H4 w with ⟨stop,q⟩ | r
 .refine .inl ⟨stop,λs' m' C I' hn hC hCn=>?_⟩;refine wpAny_assign_Name (ju I' hN hy hx (v:=.ref s2.heap.objs.size) rfl (λs'' I'' ⟨a,sb,ha⟩=>?_) hf);have hCa:C≠a:=by
   rcases ha with rfl | ha
   .exact Nat.ne_of_gt (Nat.lt_of_lt_of_le b1 hC)
   .exact Nat.ne_of_gt (Nat.lt_of_lt_of_le (b2 _ _ ha) hC)
  exact ⟨m',hn.sameBut sb hCa,λh' hsb=>⟨_,H4,I''.aside hC b1 b2 b3 hCn hsb,q⟩⟩
 .exact .inr r
end
section
variable {X:Cx}
theorem Vals.at {xs:List V}{us:List Value}(h:Vals xs us){i:Nat}{u:Value}(e:us[i]?=some u):∃x,xs[i]?=some x/\RelV x u:=by
 have hl:=h.length;have hi:=(List.getElem?_eq_some_iff.mp e).1;have hx:xs[i]?=some xs[i]:=List.getElem?_eq_getElem (by lia);obtain ⟨u',h1,h2⟩:=h.get hx;rw[e] at h1;cases h1;exact ⟨_,hx,h2⟩
def zit (ta:TA):TE:=λσ H Q=>ta σ H λvs H1=>∃j:Int,vs=[.int j]/\-(2 ^ 30)<=j/\j < 2 ^ 24/\j.toNat<=sizeLine/\∀l,H1 l=none->Q (.ref l) (upd H1 l (.lst ((List.range j.toNat).map λ(i:Nat)=>V.int ((0:Int)+1 * (i:Int)))))
theorem zei {a:Expr}{ta:TA}{p p' pos pos':Pos}(hc:X.calm=true)(hgl:Gl X "list")(hml:X.mg "list" = none)(hg:Gl X "range")(hm:X.mg "range" = none)(ha:PA X [a] ta)(hs:starEach [a] X.env=[(false,eval a X.env)]:=by rfl):
  PE X (.Call (.Name "list" p) [.Call (.Name "range" p') [a] [] pos'] [] pos) (zit ta):=by
 intro pins s σ H Q I h;refine wpAny_Call_Name_kw (wH I hgl hml PyProof.Rows.boot_list ?_ (by decide) (by decide));refine PyProof.Rows.callWith_type1 ?_ rfl rfl;refine Calls.spliced_cons ?_;refine Call_ (wH I hg hm boot_range (PyProof.Rows.callWith_type1 (thn (ha pos' pins s σ H _ I h) λus s1 ⟨vs,H1,I1,r1,q1⟩=>?_) hs rfl));obtain ⟨j,e,q1,q2,q3,q⟩:=q1;subst e;cases r1 with
 | cons r rr =>
  cases rr;obtain ⟨t,rfl⟩:=r;refine call_range_1 (Calls.spliced_nil ?_);have hn:Builtin.Range.rangeSize 0 j 1=(j.toNat:Int):=by rw[rangeSize_one];split <;> lia
  refine call_list_range (n:=j.toNat) (I1.ok.hd hc) (IsRange.new ..) (small_one (by lia) (by lia) (by lia) (by lia)) hn (by lia) λh' tk acc' c' kp e hacc=>?_;have I2:Inv X pins σ H1 { s1 with heap:=s1.heap.push { cls:=.type "range",data:=.fields #[.int 0 s1.toks,.int j t,.int 1 (s1.toks+1)] },toks:=s1.toks+1+1 }:=I1.kept λb o e=>Heap.get?_push_of_some _ e;have hv:Vals ((List.range j.toNat).map λ(i:Nat)=>V.int ((0:Int)+1 * (i:Int))) acc'.toList:=by
   have gen:∀ (us:List Value) (n:Nat),us.length=n->∀m:Nat,(∀i v,us[i]?=some v->∃t,v=Value.int ((0:Int)+((m+i:Nat):Int) * 1) t)->Vals ((List.range' m n).map λ(i:Nat)=>V.int ((0:Int)+1 * (i:Int))) us:=by
    intro us
    induction us with
    | nil=>intro n hn m _;simp at hn;subst hn;exact .nil
    | cons u us ih =>
     intro n hn m hu;cases n with
     | zero=>simp at hn
     | succ n =>
      rw[List.range'_succ,List.map_cons];obtain ⟨t,rfl⟩:=hu 0 u rfl;refine .cons ⟨t,?_⟩ (ih n (by simpa using hn) (m+1) λi v hv=>?_)
      .congr 1;simp
      .obtain ⟨t,e⟩:=hu (i+1) v (by simpa using hv);exact ⟨t,by rw[e];congr 2;congr 1;lia⟩
   have:=gen acc'.toList j.toNat (by rw[Array.length_toList];exact hacc.1) 0 (λi v hv=>by
    obtain ⟨t,e⟩:=hacc.2 i v (by simpa using hv);exact ⟨t,by rw[e];simp⟩)
   rw[<- List.range_eq_range'] at this;exact this
  refine ⟨.ref _,_,I2.laid (t':=tk) kp (Nat.le_refl _) (show ObjOk X.prog X.w _ h' _ (.lst ((List.range j.toNat).map λ(i:Nat)=>V.int ((0:Int)+1 * (i:Int)))) from ⟨by simpa using q3,acc'.toList,c',hv,by simpa using e⟩),rfl,q _ (I2.hok.fresh (Nat.le_refl _))⟩
end
abbrev TK:=List Int×Addr×Value
noncomputable def zaN (x:TK):DictEntry:=⟨reduceHash (Builtin.Tuple.tupleHashOf (x.1.map hashInt)),.ref x.2.1,x.2.2⟩
noncomputable def xY (d:Addr)(xs:List TK):HO:=.ext λh=>(d == sysModules)=false/\∃o es ep,h.get? d=some o/\o.ExactDict/\o.data=.dict es ep/\es.toList=xs.map zaN/\(xs.map (·.1)).Nodup
theorem zaO {P:Program}{w:World}:∀ {k:List Int}{us:List Value},Vals (k.map V.int) us->ItemsAre (intKind P w) k us
 | [],_,.nil=>.nil
 | i::_,_,.cons p q=>by
  obtain ⟨t,rfl⟩:=p;exact .cons (by show Value.isInt i (.int i t)=true;simp[Value.isInt]) (zaO q)
def kH (K:PySem.W.Frag)(H:Hp)(d:Addr)(xs:List TK):Prop:=H d=some (xY d xs)/\∀x∈xs,SqT K H x.2.1 (x.1.map V.int)
section
variable {X:Cx}{pins:List (Addr×Obj)}{σ:St}{H:Hp}{s:Shared}
theorem v7 (I:Inv X pins σ H s){k:List Int}{a:Addr}(h:SqT X.K H a (k.map V.int)):IsTupleKey (intKind X.prog X.w) s.heap k a:=by
 obtain ⟨its,r,⟨o,ho,hc,n,hd⟩,_⟩:=I.tuple h;exact ⟨o,its.toArray,n,ho,hc,hd,zaO r⟩
theorem kI (I:Inv X pins σ H s){d:Addr}{xs:List TK}(h:kH X.K H d xs):(d == sysModules)=false/\s.heap.DictOfH (tupleKind (intKind X.prog X.w)) d xs:=by
 obtain ⟨h1,h2⟩:=h;obtain ⟨⟨a0,o,es,ep,a1,a2,a3,a4,a5⟩,_,_⟩:=I.hok d _ h1;exact ⟨a0,o,es,ep,a1,a2,a3,a4,λx hx=>v7 I (h2 x hx),a5⟩
theorem zbE {pos:Pos}:PE X (.Dict [] [] pos) (λ_ H Q=>∀d,H d=none->Q (.ref d) (upd H d (xY d []))):=by
 intro pins s σ H Q I h;have hd:(s.heap.objs.size == sysModules)=false:=by
  obtain ⟨o,_,_,ho,_⟩:=I.ok.mod.glob;have h1:(3:Nat) < X.base.objs.size:=Heap.lt_size ho;have h2:=Nat.le_trans I.ok.bsz I.sz;have:s.heap.objs.size≠(1:Nat):=by lia
  exact beq_eq_false_iff_ne.mpr this
 refine wpAny_Dict_empty ⟨.ref s.heap.objs.size,upd H s.heap.objs.size (xY s.heap.objs.size []),I.laid (t':=s.toks) (λb u e=>Heap.get?_push_of_some _ e) (Nat.le_refl _) ?_,rfl,h _ I.fresh⟩;refine ⟨⟨hd,_,#[],0,Heap.get?_push_size _ rfl,⟨rfl,rfl,rfl⟩,rfl,rfl,List.nodup_nil⟩,⟨_,Heap.get?_push_size _ rfl⟩,λh1 h2 hx k=>?_⟩;obtain ⟨a0,o,es,ep,a1,r⟩:=hx;exact ⟨a0,o,es,ep,k o a1,r⟩
def zfM (K:PySem.W.Frag):V->V->V->Hp->(Hp->Prop)->Prop:=λo i v H Q=>∃d a ks xs,o=.ref d/\i=.ref a/\SqT K H a (ks.map V.int)/\kH K H d xs/\xs.length<=100000/\∀u,RelV v u->Q (upd H d (xY d (storedH xs ks a u)))
theorem ziu (hu:X.A.units+64 < cLine):zh5 X (zfM X.K):=by
 intro pins s σ H o i v ov iv u Q I ro ri rv h;obtain ⟨d,a,ks,xs,rfl,rfl,hk,hd,hl,q⟩:=h;cases ro;cases ri;obtain ⟨d0,dm⟩:=kI I hd;refine wpAny_setItem_heap (knd:=tupleKind (intKind X.prog X.w)) (by show X.A.units+1 < cLine;lia) (v7 I hk) dm (λh' dm' sb=>?_) (Nat.le_trans hl (by decide));refine ⟨upd H d (xY d (storedH xs ks a u)),?_,q u rv⟩;obtain ⟨o',es,ep,a1,a2,a3,a4,a5,a6⟩:=dm';refine I.write (x:=d) (e:=d) (by rw[hd.1];trivial) (.inl rfl) (λb u' hb e=>(sb.2 b hb).trans e) ⟨_,a1⟩ ?_;refine ⟨⟨d0,o',es,ep,a1,a2,a3,a4,a6⟩,⟨_,a1⟩,λh1 h2 hx k=>?_⟩;obtain ⟨b0,o,es,ep,b1,r⟩:=hx;exact ⟨b0,o,es,ep,k o b1,r⟩
def zfN (K:PySem.W.Frag):R2:=λx y H Q=>∃d a ks xs p,x=.ref d/\y=.ref a/\SqT K H a (ks.map V.int)/\kH K H d xs/\atKey xs ks=some p/\∃v,RelV v p.2/\Q v H
theorem ix_T (hu:X.A.units+64 < cLine):IxR X (zfN X.K):=by
 intro value slice pins s σ H x y v u Q I rx ry h hs;obtain ⟨d,a,ks,xs,p,rfl,rfl,hk,hd,hp,z,rz,q⟩:=h;cases rx;cases ry;obtain ⟨d0,dm⟩:=kI I hd;exact subscriptTail_builtinR (x:=p.2) dm.typeIs slot_dict_getitem.lookup
  (wpAny_getItem_heap (knd:=tupleKind (intKind X.prog X.w)) (Q:=λr s'=>r=p.2/\EP X pins σ Q r s') (by show X.A.units+1 < cLine;lia) (v7 I hk) dm hp ⟨rfl,z,H,I.tok _,rz,q⟩) hs
end
end L2
namespace Mini
inductive Wd where
 | non | bl (b:Bool) | int (i:Int) | str (s:List Nat) | tup (xs:List Wd) | rol (xs:List Wd) | ref (l:Nat)
deriving Inhabited
set_option genInjectivity false in
inductive Ob where
 | lst (xs:List Wd) | dct (ks:List (List Int)) (ws:List Wd)
deriving Inhabited
abbrev Me:=List Ob
set_option tactic.hygienic true in
abbrev En:=List (Option Wd)
set_option genInjectivity false in
inductive Rz where
 | ok (w:Wd) (m:Me) | exc (c:Nat) (w:Wd) (m:Me) | no
deriving Inhabited
set_option genInjectivity false in
inductive Rs where
 | next (e:En) (m:Me) | ret (w:Wd) (m:Me) | brk (e:En) (m:Me) | cont (e:En) (m:Me)
 | exc (c:Nat) (w:Wd) (e:En) (m:Me) | no
deriving Inhabited
inductive Bo where | add | sub | mul | fdiv | mod | pow | shr | band
deriving DecidableEq
inductive Co where | eq | ne | lt | le | gt | notN | isin
deriving DecidableEq
inductive Tg where | int | bool | list | tuple | str | dict
deriving DecidableEq
inductive Blf where | len | int | list | max2 | sortI
deriving DecidableEq
inductive Mth where | append | pop | reverse | clear
deriving DecidableEq
inductive Kd where | zip | enum | prs | ptp
deriving DecidableEq
set_option genInjectivity false in
inductive Ex where
 | var (i:Nat) | lit (w:Wd)
 | bin (op:Bo) (a b:Ex) | neg (a:Ex) | not (a:Ex) | and (a b:Ex) | or (a b:Ex)
 | cmp (op:Co) (a b:Ex) | chain (p q:Co) (a b c:Ex) | ife (c a b:Ex)
 | unit | pair (a b:Ex)
 | call (k:Nat) (args:Ex) | blt (b:Blf) (args:Ex)
 | lst (args:Ex) | tup (args:Ex) | dict0
 | idx (a b:Ex)
 | meth (n:Mth) (o args:Ex)
 | rng (a b c:Ex)
 | comp (elt it cond:Ex)
 | lrng (a:Ex)
 | compP (k:Kd) (elt a b cond:Ex)
 | dget (a b:Ex)
deriving Inhabited
set_option genInjectivity false in
inductive Sm where
 | skip | seq (a b:Sm)
 | asg (i:Nat) (e:Ex)   | aug (i:Nat) (op:Bo) (e:Ex)
 | ite (c:Ex) (a b:Sm) | forv (i:Nat) (it:Ex) (body:Sm)  | while (c:Ex) (body:Sm)
 | ret (e:Ex)  | expr (e:Ex)   | never
 | popI (j:Nat) (e:Ex) (a b:Sm)
 | dput (x:Nat) (k e:Ex)
deriving Inhabited
noncomputable def lim:Nat:=100000
noncomputable def big:Int:=18446744073709551616
noncomputable def yM (i:Int):Bool:=decide (-big < i) && decide (i < big)
noncomputable def eqL (p:Wd->Wd->Option Bool):List Wd->List Wd->Option Bool
 | x::xs,y::ys=>match p x y with
  | some a=>(eqL p xs ys).map (a && ·)
  | none=>none
 | _,_=>some true
noncomputable def b2i (b:Bool):Int:=if b then 1 else 0
noncomputable def isLst (m:Me)(l:Nat):Bool:=match m[l]? with
 | some (.lst _)=>true
 | _=>false
noncomputable def zcm:Wd->Bool
 | .rol _=>false
 | _=>true
noncomputable def eqW (m:Me):Nat->Wd->Wd->Option Bool
 | 0,_,_=>none
 | k+1,x,y=>match x,y with
  | .tup a,.tup b=>(eqL (eqW m k) a b).map (· && decide (a.length=b.length))
  | .ref a,.ref b=>if a=b then (if isLst m a then some true else none) else match m[a]?,m[b]? with
   | some (.lst xs),some (.lst ys)=>if xs.length=ys.length then eqL (eqW m k) xs ys else some false
   | _,_=>none
  | .ref a,y=>if isLst m a && zcm y then some false else none
  | x,.ref b=>if isLst m b && zcm x then some false else none
  | .rol _,_=>none
  | _,.rol _=>none
  | .non,.non=>some true
  | .bl a,.bl b=>some (a == b)
  | .int a,.int b=>some (decide (a=b))
  | .bl a,.int b=>some (decide (b2i a=b))
  | .int a,.bl b=>some (decide (a=b2i b))
  | .str a,.str b=>some (decide (a=b))
  | _,_=>some false
noncomputable def yF:Nat:=12
noncomputable def inL (p:Wd->Wd->Option Bool)(x:Wd):List Wd->Option Bool
 | []=>some false
 | y::ys=>match p y x with
  | some a=>(inL p x ys).map (a || ·)
  | none=>none
noncomputable def ix (n:Nat)(i:Int):Option Nat :=
 if 0<=i then (if i < n then some i.toNat else none) else if -(n:Int)<=i then some (i+n).toNat else none
noncomputable def alloc (m:Me)(xs:List Wd):Rz:=if xs.length<=lim then .ok (.ref m.length) (m++[.lst xs]) else .no
noncomputable def zr (m:Me)(l:Nat):Option (List Wd):=match m[l]? with
 | some (.lst xs)=>some xs
 | _=>none
noncomputable def xD (m:Me):Wd->Option (List Wd)
 | .tup xs=>some xs
 | .rol xs=>some xs
 | .ref l=>zr m l
 | _=>none
noncomputable def bop (op:Bo)(x y:Wd)(m:Me):Rz:=match x,y with
 | .int i,.int j=>match op with
  | .add=>.ok (.int (i+j)) m
  | .sub=>.ok (.int (i - j)) m
  | .mul=>if yM i || yM j then .ok (.int (i * j)) m else .no
  | .fdiv=>if 0 < j/\j < 1073741824 then .ok (.int (i / j)) m else .no
  | .mod=>if 0 < j then .ok (.int (i % j)) m else .no
  | .pow=>if 0<=j/\j<=1000000/\yM i=true then .ok (.int (i ^ j.toNat)) m else .no
  | .shr=>if 0<=j/\j<=1000 then .ok (.int (i / 2 ^ j.toNat)) m else .no
  | .band=>if 0<=i/\j=1 then .ok (.int (i % 2)) m else .no
 | .ref a,.ref b=>match op,m[a]?,m[b]? with
  | .add,some (.lst xs),some (.lst ys)=>alloc m (xs++ys)
  | _,_,_=>.no
 | .ref a,.int k=>match op,m[a]? with
  | .mul,some (.lst xs)=>if -lim<=k/\k<=lim then alloc m (List.replicate k.toNat xs).flatten else .no
  | _,_=>.no
 | .tup xs,.tup ys=>match op with
  | .add=>if xs.length+ys.length<=lim/\xs.isEmpty=false then .ok (.tup (xs++ys)) m else .no
  | _=>.no
 | _,_=>.no
noncomputable def ofB (o:Option Bool)(m:Me):Rz:=match o with
 | some b=>.ok (.bl b) m
 | none=>.no
noncomputable def jD (r:Int->Int->Bool)(x y:Wd)(m:Me):Rz:=match x,y with
 | .int i,.int j=>.ok (.bl (r i j)) m
 | _,_=>.no
noncomputable def xi:List Wd->Option (List Int)
 | []=>some []
 | .int i::r=>(xi r).map (i::·)
 | _=>none
noncomputable def inK (m:Me)(x y:Wd):Option Bool:=match y with
 | .ref l=>match m[l]? with
  | some (.dct ks _)=>match x with
   | .int _=>some false
   | .tup ws=>(xi ws).map λk=>decide (k∈ks)
   | _=>none
  | _=>none
 | _=>none
noncomputable def cop (op:Co)(x y:Wd)(m:Me):Rz:=match op with
 | .eq=>ofB (eqW m yF x y) m
 | .ne=>ofB ((eqW m yF x y).map (!·)) m
 | .notN=>match y,x with
  | .non,.non=>.ok (.bl false) m
  | .non,_=>.ok (.bl true) m
  | _,_=>.no
 | .isin=>match xD m y with
  | some ys=>ofB (inL (eqW m yF) x ys) m
  | none=>ofB (inK m x y) m
 | .lt=>jD (λi j=>decide (i < j)) x y m
 | .le=>jD (λi j=>decide (i<=j)) x y m
 | .gt=>jD (λi j=>decide (j < i)) x y m
noncomputable def sIx (n d:Nat):Option Int->Nat
 | none=>d
 | some v=>if v < 0 then (v+(n:Int)).toNat else min v.toNat n
noncomputable def zcn (m:Me):Wd->Option (List Wd)
 | .rol xs=>some xs
 | .ref l=>zr m l
 | _=>none
def jY (ns:List Int):List Int:=ns.mergeSort λa b=>decide (a<=b)
noncomputable def qT (b:Blf)(ws:List Wd)(m:Me):Rz:=match b with
 | .sortI=>match ws with
  | [x]=>match (zcn m x).bind xi with
   | some k=>if k.length < 64 then alloc m ((jY k).map Wd.int) else .no
   | none=>.no
  | _=>.no
 | .len=>match ws with
  | [x]=>match xD m x with
   | some xs=>.ok (.int xs.length) m
   | none=>.no
  | _=>.no
 | .int=>match ws with
  | [.int i]=>.ok (.int i) m
  | [.bl b]=>.ok (.int (b2i b)) m
  | _=>.no
 | .list=>match ws with
  | [x]=>match xD m x with
   | some xs=>alloc m xs
   | none=>.no
  | _=>.no
 | .max2=>match ws with
  | [.int i,.int j]=>.ok (.int (if j > i then j else i)) m
  | _=>.no
noncomputable def mtR (n:Mth)(o:Wd)(ws:List Wd)(m:Me):Rz:=match o with
 | .ref l=>match m[l]? with
  | some (.lst xs)=>match n,ws with
   | .append,[y]=>if xs.length < lim then .ok .non (m.set l (.lst (xs++[y]))) else .no
   | .pop,[]=>match xs[xs.length - 1]? with
    | some y=>.ok y (m.set l (.lst xs.dropLast))
    | none=>.no
   | .reverse,[]=>.ok .non (m.set l (.lst xs.reverse))
   | _,_=>.no
  | _=>.no
 | _=>.no
noncomputable def yO (x:Wd)(m:Me):Bool:=match x with
 | .ref l=>isLst m l
 | _=>false
noncomputable def kJ (x y:Wd)(m:Me):Rz:=match y with
 | .int i=>match xD m x with
  | some xs=>match (ix xs.length i).bind λj=>xs[j]? with
   | some v=>.ok v m
   | none=>.no
  | none=>.no
 | _=>.no
noncomputable def zbF:Wd->Option (List Int)
 | .tup ws=>xi ws
 | _=>none
noncomputable def atK {α:Type}:List (List Int)->List α->List Int->Option α
 | k::ks,w::ws,q=>if k=q then some w else atK ks ws q
 | _,_,_=>none
noncomputable def x5 (ks:List (List Int))(q:List Int):List (List Int):=if q∈ks then ks else ks++[q]
noncomputable def yh {α:Type}:List (List Int)->List α->List Int->α->List α
 | k::ks,w::ws,q,v=>if k=q then v::ws else w::yh ks ws q v
 | _,ws,_,v=>ws++[v]
noncomputable def jE (x y:Wd)(m:Me):Rz:=match x with
 | .ref l=>match m[l]? with
  | some (.dct ks ws)=>match (zbF y).bind (atK ks ws) with
   | some v=>.ok v m
   | none=>.no
  | _=>.no
 | _=>.no
noncomputable def jF (x y v:Wd)(m:Me):Rz:=match x with
 | .ref l=>match m[l]? with
  | some (.dct ks ws)=>match zbF y with
   | some q=>if ks.length < lim then .ok .non (m.set l (.dct (x5 ks q) (yh ks ws q v))) else .no
   | none=>.no
  | _=>.no
 | _=>.no
noncomputable def qU (lo st:Int):Nat->List Wd
 | 0=>[]
 | n+1=>.int lo::qU (lo+st) st n
noncomputable def gO (a b c:Int):Nat:=if c=1 then (b - a).toNat else if c=-1 then (a - b).toNat else 0
noncomputable def zco (a b c:Wd)(m:Me):Rz:=match a,b,c with
 | .int a,.int b,.int c=>if -lim<=a/\a<=lim/\-lim<=b/\b<=lim/\(c=1\/c=-1) then .ok (.tup (qU a c (gO a b c))) m else .no
 | _,_,_=>.no
noncomputable def Rz.bind (r:Rz)(f:Wd->Me->Rz):Rz:=match r with
 | .ok w m=>f w m
 | r=>r
noncomputable def y8 (c e:Wd->Me->Rz):List Wd->List Wd->Me->Rz
 | [],acc,m=>alloc m acc
 | x::xs,acc,m=>(c x m).bind λb m1=>match b with
  | .bl true=>(e x m1).bind λy m2=>if acc.length < lim then y8 c e xs (acc++[y]) m2 else .no
  | .bl false=>y8 c e xs acc m1
  | _=>.no
noncomputable def y9 (c e:Wd->Me->Rz)(l:Nat):Nat->Nat->List Wd->Me->Rz
 | 0,_,_,_=>.no
 | k+1,i,acc,m=>match zr m l with
  | none=>.no
  | some xs=>match xs[i]? with
   | none=>alloc m acc
   | some x=>(c x m).bind λb m1=>match b with
    | .bl true=>(e x m1).bind λy m2=>if acc.length < lim then y9 c e l k (i+1) (acc++[y]) m2 else .no
    | .bl false=>y9 c e l k (i+1) acc m1
    | _=>.no
noncomputable def zcp:Wd->Option (Wd×Wd)
 | .tup [x,y]=>some (x,y)
 | _=>none
noncomputable def zz (k:Kd)(x y:Wd)(i:Nat)(m:Me):Option (Option (Wd×Wd)):=match k,x,y with
 | .zip,.ref la,.ref lb=>match zr m la,zr m lb with
  | some xs,some ys=>some (match xs[i]?,ys[i]? with
   | some x,some y=>some (x,y)
   | _,_=>none)
  | _,_=>none
 | .enum,.ref la,.int s=>match zr m la with
  | some xs=>some (xs[i]?.map λx=>(.int (s+(i:Int)),x))
  | none=>none
 | .prs,.ref la,.int _=>match zr m la with
  | some xs=>match xs[i]? with
   | none=>some none
   | some w=>(zcp w).map some
  | none=>none
 | .ptp,.tup xs,.int _=>match xs[i]? with
  | none=>some none
  | some w=>(zcp w).map some
 | _,_,_=>none
noncomputable def zY (c e:Wd->Wd->Me->Rz)(g:Nat->Me->Option (Option (Wd×Wd))):Nat->Nat->List Wd->Me->Rz
 | 0,_,_,_=>.no
 | k+1,i,acc,m=>match g i m with
  | none=>.no
  | some none=>alloc m acc
  | some (some (x,y))=>(c x y m).bind λb m1=>match b with
   | .bl true=>(e x y m1).bind λz m2=>if acc.length < lim then zY c e g k (i+1) (acc++[z]) m2 else .no
   | .bl false=>zY c e g k (i+1) acc m1
   | _=>.no
noncomputable def zn:Wd->List Wd
 | .tup xs=>xs
 | _=>[]
noncomputable def evE (cl:Nat->List Wd->Me->Rz):Ex->En->Me->Rz
 | .var i,env,m=>match env[i]? with
  | some (some w)=>.ok w m
  | _=>.no
 | .lit w,_,m=>.ok w m
 | .bin op a b,env,m=>(evE cl a env m).bind λx m1=>(evE cl b env m1).bind λy m2=>bop op x y m2
 | .neg a,env,m=>(evE cl a env m).bind λx m1=>match x with
  | .int i=>.ok (.int (-i)) m1
  | _=>.no
 | .not a,env,m=>(evE cl a env m).bind λx m1=>match x with
  | .bl b=>.ok (.bl (! b)) m1
  | _=>.no
 | .and a b,env,m=>(evE cl a env m).bind λx m1=>match x with
  | .bl true=>evE cl b env m1
  | .bl false=>.ok (.bl false) m1
  | _=>.no
 | .or a b,env,m=>(evE cl a env m).bind λx m1=>match x with
  | .bl false=>evE cl b env m1
  | .bl true=>.ok (.bl true) m1
  | _=>.no
 | .cmp op a b,env,m=>(evE cl a env m).bind λx m1=>(evE cl b env m1).bind λy m2=>cop op x y m2
 | .chain p q a b c,env,m=>(evE cl a env m).bind λx m1=>(evE cl b env m1).bind λy m2=>(cop p x y m2).bind λz m3=>match z with
  | .bl true=>(evE cl c env m3).bind λu m4=>cop q y u m4
  | .bl false=>.ok (.bl false) m3
  | _=>.no
 | .ife c a b,env,m=>(evE cl c env m).bind λx m1=>match x with
  | .bl true=>evE cl a env m1
  | .bl false=>evE cl b env m1
  | _=>.no
 | .unit,_,m=>.ok (.tup []) m
 | .pair a b,env,m=>(evE cl a env m).bind λx m1=>(evE cl b env m1).bind λy m2=>.ok (.tup (x::zn y)) m2
 | .call k a,env,m=>(evE cl a env m).bind λx m1=>cl k (zn x) m1
 | .blt b a,env,m=>(evE cl a env m).bind λx m1=>qT b (zn x) m1
 | .lst a,env,m=>(evE cl a env m).bind λx m1=>alloc m1 (zn x)
 | .tup a,env,m=>(evE cl a env m).bind λx m1=>if (zn x).length<=lim then .ok (.tup (zn x)) m1 else .no
 | .dict0,_,m=>.ok (.ref m.length) (m++[.dct [] []])
 | .idx a b,env,m=>(evE cl a env m).bind λx m1=>(evE cl b env m1).bind λy m2=>kJ x y m2
 | .dget a b,env,m=>(evE cl a env m).bind λx m1=>(evE cl b env m1).bind λy m2=>jE x y m2
 | .meth n o a,env,m=>(evE cl o env m).bind λx m1=>match yO x m1 with
  | true=>(evE cl a env m1).bind λy m2=>mtR n x (zn y) m2
  | false=>.no
 | .rng a b c,env,m=>(evE cl a env m).bind λx m1=>(evE cl b env m1).bind λy m2=>(evE cl c env m2).bind λz m3=>zco x y z m3
 | .comp elt it cond,env,m=>(evE cl it env m).bind λx m1=>match x with
  | .tup xs=>y8 (λx m=>evE cl cond (env++[some x]) m) (λx m=>evE cl elt (env++[some x]) m) xs [] m1
  | .rol xs=>y8 (λx m=>evE cl cond (env++[some x]) m) (λx m=>evE cl elt (env++[some x]) m) xs [] m1
  | .ref l=>y9 (λx m=>evE cl cond (env++[some x]) m) (λx m=>evE cl elt (env++[some x]) m) l (lim+1) 0 [] m1
  | _=>.no
 | .compP k elt a b cond,env,m=>(evE cl a env m).bind λx m1=>(evE cl b env m1).bind λy m2 =>
  zY (λu v m=>evE cl cond (env++[some u]++[some v]) m) (λu v m=>evE cl elt (env++[some u]++[some v]) m) (zz k x y) (lim+1) 0 [] m2
 | .lrng a,env,m=>(evE cl a env m).bind λx m1=>match x with
  | .int j=>if -lim<=j/\j<=lim then alloc m1 (qU 0 1 j.toNat) else .no
  | _=>.no
noncomputable def wF (body:Wd->En->Me->Rs):List Wd->En->Me->Rs
 | [],env,m=>.next env m
 | x::xs,env,m=>match body x env m with
  | .next e1 m1=>wF body xs e1 m1
  | .cont e1 m1=>wF body xs e1 m1
  | .brk e1 m1=>.next e1 m1
  | r=>r
noncomputable def xZ (body:Wd->En->Me->Rs)(l:Nat):Nat->Nat->En->Me->Rs
 | 0,_,_,_=>.no
 | k+1,i,env,m=>match zr m l with
  | none=>.no
  | some xs=>match xs[i]? with
   | none=>.next env m
   | some x=>match body x env m with
    | .next e1 m1=>xZ body l k (i+1) e1 m1
    | .cont e1 m1=>xZ body l k (i+1) e1 m1
    | .brk e1 m1=>.next e1 m1
    | r=>r
noncomputable def vQ (c:En->Me->Rz)(body:En->Me->Rs):Nat->En->Me->Rs
 | 0,_,_=>.no
 | k+1,env,m=>match c env m with
  | .ok (.bl true) m1=>match body env m1 with
   | .next e1 m2=>vQ c body k e1 m2
   | .cont e1 m2=>vQ c body k e1 m2
   | .brk e1 m2=>.next e1 m2
   | r=>r
  | .ok (.bl false) m1=>.next env m1
  | .exc c w m1=>.exc c w env m1
  | _=>.no
noncomputable def Rz.bindS (r:Rz)(env:En)(f:Wd->Me->Rs):Rs:=match r with
 | .ok w m=>f w m
 | .exc c w m=>.exc c w env m
 | .no=>.no
noncomputable def zcq (body:Wd->En->Me->Rs)(w:Wd)(env:En)(m:Me):Rs:=match w with
 | .tup xs=>wF body xs env m
 | .rol xs=>wF body xs env m
 | .ref l=>xZ body l (lim+1) 0 env m
 | _=>.no
noncomputable def st2 (i j:Nat):Wd->En->Option En:=λw env=>match w with
 | .tup [a,b]=>some ((env.set i (some a)).set j (some b))
 | _=>none
noncomputable def st3 (i j k:Nat)(w:Wd)(m:Me)(env:En):Option En:=match xD m w with
 | some [a,b,c]=>some (((env.set i (some a)).set j (some b)).set k (some c))
 | _=>none
noncomputable def xj (st:Wd->En->Option En)(b:En->Me->Rs):Wd->En->Me->Rs:=λw env m=>match st w env with
 | some env'=>b env' m
 | none=>.no
noncomputable def zcr (op:Bo)(x y:Wd)(m:Me)(env:En)(f:Wd->Me->Rs):Rs:=match x,y with
 | .int _,.int _=>(bop op x y m).bindS env f
 | _,_=>.no
noncomputable def exS (cl:Nat->List Wd->Me->Rz):Sm->En->Me->Rs
 | .skip,env,m=>.next env m
 | .seq a b,env,m=>match exS cl a env m with
  | .next e1 m1=>exS cl b e1 m1
  | r=>r
 | .asg i e,env,m=>(evE cl e env m).bindS env λw m1=>.next (env.set i (some w)) m1
 | .aug i op e,env,m=>match env[i]? with
  | some (some x)=>(evE cl e env m).bindS env λy m1=>zcr op x y m1 env λz m2=>.next (env.set i (some z)) m2
  | _=>.no
 | .ite c a b,env,m=>(evE cl c env m).bindS env λx m1=>match x with
  | .bl true=>exS cl a env m1
  | .bl false=>exS cl b env m1
  | _=>.no
 | .forv i it body,env,m=>(evE cl it env m).bindS env λw m1=>zcq (λx e m=>exS cl body (e.set i (some x)) m) w env m1
 | .while c body,env,m=>vQ (evE cl c) (exS cl body) 1000000 env m
 | .ret e,env,m=>(evE cl e env m).bindS env λw m1=>.ret w m1
 | .expr e,env,m=>(evE cl e env m).bindS env λ_ m1=>.next env m1
 | .popI j e a b,env,m=>(evE cl (.cmp .ne (.meth .pop (.var j) .unit) e) env m).bindS env λx m1=>match x with
  | .bl true=>exS cl a env m1
  | .bl false=>exS cl b env m1
  | _=>.no
 | .dput x k e,env,m=>(evE cl e env m).bindS env λv m1=>(evE cl (.var x) env m1).bindS env λd m2=>(evE cl k env m2).bindS env λq m3=>(jF d q v m3).bindS env λ_ m4=>.next env m4
 | .never,_,_=>.no
noncomputable def wT (a b c d:Ex):Ex:=.tup (.pair a (.pair b (.pair c (.pair d .unit))))
noncomputable def pr2 (k:List Nat)(a:Ex):Ex:=.tup (.pair (.lit (.str k)) (.pair a .unit))
noncomputable def zcs (n:Nat)(k1 k2 k3 k4:List Nat)(a b c d mx elt:Ex):Ex:=.compP .ptp elt (wT (pr2 k1 a) (pr2 k2 b) (pr2 k3 c) (pr2 k4 d)) (.lit (.int 0)) (.cmp .eq (.var (n+1)) mx)
noncomputable def tp2 (x y:Int):Ex:=.tup (.pair (.lit (.int x)) (.pair (.lit (.int y)) .unit))
noncomputable def kK (i:Nat)(k1 k2 k3 k4:List Nat):Ex:=.ife (.cmp .eq (.var i) (.lit (.str k1))) (.lit (.int 0)) (.ife (.cmp .eq (.var i) (.lit (.str k2))) (.lit (.int 1)) (.ife (.cmp .eq (.var i) (.lit (.str k3))) (.lit (.int 2)) (.ife (.cmp .eq (.var i) (.lit (.str k4))) (.lit (.int 3)) (.lit .non))))
noncomputable def kL {α:Type}(s k1 k2 k3 k4:List Nat)(a b c d:α):Option α:=if s=k1 then some a else if s=k2 then some b else if s=k3 then some c else if s=k4 then some d else none
set_option genInjectivity false in
structure Fn where
 ar:Nat
 sz:Nat
 body:Sm
deriving Inhabited
noncomputable def xQ (fn:Fn)(ws:List Wd):En:=ws.map some++List.replicate (fn.sz - ws.length) none
noncomputable def jZ (cl:Nat->List Wd->Me->Rz)(fn:Fn)(ws:List Wd)(m:Me):Rz :=
 if ws.length=fn.ar then match exS cl fn.body (xQ fn ws) m with
  | .next _ m1=>.ok .non m1
  | .ret w m1=>.ok w m1
  | .exc c w _ m1=>.exc c w m1
  | _=>.no
 else .no
noncomputable def xa (T:List Fn):Nat->Nat->List Wd->Me->Rz
 | 0,_,_,_=>.no
 | d+1,k,ws,m=>match T[k]? with
  | some fn=>jZ (xa T d) fn ws m
  | none=>.no
end Mini
namespace Mini
open PySem PySem.Spec PyProof.Rows L2
abbrev St:=L2.St
def KL (K:PySem.W.Frag)(a:Addr)(xs:List V):Prop :=
 ∃ (o:Obj) (its:Array Value) (n:Nat),K.lookup a=some o/\o.cls=.type "list" /\ o.dict=none/\o.data=.seq its n/\its.size<=sizeLine/\Vals xs its.toList
def SqF (K:PySem.W.Frag)(H:Hp)(a:Addr)(vs:List V):Prop:=(∃o,H a=some (.frz o (.lst vs)))\/KL K a vs
theorem SqF.sq {K:PySem.W.Frag}{H:Hp}{a:Addr}{vs:List V}(h:SqF K H a vs):SqL K H a vs:=by
 rcases h with h | h
 .exact .inl (.inr h)
 .exact .inr h
mutual
noncomputable def Rep (K:PySem.W.Frag)(as:List Addr)(H:Hp):Wd->V->Prop
 | .non,v=>v=.non
 | .bl b,v=>v=.bl b
 | .int i,v=>v=.int i
 | .str s,v=>v=.str ⟨s.toArray⟩
 | .tup xs,v=>∃a vs,v=.ref a/\SqT K H a vs/\RepL K as H xs vs
 | .rol xs,v=>∃a vs,v=.ref a/\SqF K H a vs/\RepL K as H xs vs
 | .ref l,v=>∃a,as[l]?=some a/\v=.ref a
noncomputable def RepL (K:PySem.W.Frag)(as:List Addr)(H:Hp):List Wd->List V->Prop
 | [],vs=>vs=[]
 | x::xs,vs=>∃v r,vs=v::r/\Rep K as H x v/\RepL K as H xs r
end
def RepO (K:PySem.W.Frag)(as:List Addr)(H:Hp):Ob->Addr->Prop
 | .lst ws,a=>∃vs,H a=some (.lst vs)/\RepL K as H ws vs
 | .dct ks ws,a=>∃xs vs,kH K H a xs/\xs.map (·.1)=ks/\RepL K as H ws vs/\Vals vs (xs.map (·.2.2))/\ks.Nodup
structure Sim (K:PySem.W.Frag)(as:List Addr)(m:Me)(H:Hp):Prop where
 len:as.length=m.length
 nd:as.Nodup
 obj:∀ (l:Nat) (a:Addr) (o:Ob),as[l]?=some a->m[l]?=some o->RepO K as H o a
structure Step (as:List Addr)(H:Hp)(as':List Addr)(H':Hp):Prop where
 pre:∃t,as'=as++t
 frame:∀b o,H b=some o->b∉as->H' b=some o
 fresh:∀a∈as',a∈as\/H a=none
section
variable {K:PySem.W.Frag}{as as' as2:List Addr}{H H' H2:Hp}{m m':Me}
theorem Step.refl:Step as H as H:=⟨⟨[],by simp⟩,λ_ _ h _=>h,λ_ h=>.inl h⟩
theorem Step.get (T:Step as H as' H'){l:Nat}{a:Addr}(h:as[l]?=some a):as'[l]?=some a:=by
 obtain ⟨t,rfl⟩:=T.pre;rw[List.getElem?_append_left (List.getElem?_eq_some_iff.mp h).1];exact h
theorem Step.out (T:Step as H as' H'){b:Addr}{o:HO}(h:H b=some o)(hb:b∉as):b∉as':=λz=>by
 rcases T.fresh b z with q | q
 .exact hb q
 .rw[h] at q;cases q
theorem Step.trans (T:Step as H as' H')(U:Step as' H' as2 H2):Step as H as2 H2:=by
 refine ⟨?_,λb o h hb=>U.frame b o (T.frame b o h hb) (T.out h hb),λa ha=>?_⟩
 .obtain ⟨t,rfl⟩:=T.pre;obtain ⟨u,rfl⟩:=U.pre;exact ⟨t++u,by simp⟩
 .rcases U.fresh a ha with q | q
  .exact T.fresh a q
  .by_cases z:a∈as
   .exact .inl z
   .refine .inr ?_;cases e:H a with
    | none=>rfl
    | some o=>rw[T.frame a o e z] at q;cases q
theorem Sim.get (S:Sim K as m H){l:Nat}{o:Ob}(h:m[l]?=some o):∃a,as[l]?=some a/\RepO K as H o a:=by
 have hl:l < as.length:=by rw[S.len];exact (List.getElem?_eq_some_iff.mp h).1
 exact ⟨as[l],by simp[hl],S.obj l _ o (by simp[hl]) h⟩
def LD:HO->Prop
 | .lst _=>True
 | .ext _=>True
 | .dK _=>True
 | _=>False
theorem Sim.isLst (S:Sim K as m H){a:Addr}(h:a∈as):∃o,H a=some o/\LD o:=by
 obtain ⟨l,hl,rfl⟩:=List.mem_iff_getElem.mp h;have hm:l < m.length:=by rw[<- S.len];exact hl
 have q:=S.obj l as[l] m[l] (by simp[hl]) (by simp[hm]);cases e:m[l] with
 | lst ws =>
  rw[e] at q;obtain ⟨vs,h1,_⟩:=q;exact ⟨_,h1,trivial⟩
 | dct ks ws =>
  rw[e] at q;obtain ⟨xs,vs,h1,_⟩:=q;exact ⟨_,h1.1,trivial⟩
theorem zct (nt:∀a∈as,∃o,H a=some o/\LD o)(T:Step as H as' H'){a:Addr}{vs:List V}(h:SqT K H a vs):SqT K H' a vs:=by
 rcases h with h | h
 .have hn:a∉as:=λz=>by
   obtain ⟨u,e,hu⟩:=nt a z;rcases h with h | ⟨o,h⟩ <;> rw[e] at h <;> cases h <;> exact hu
  rcases h with h | ⟨o,h⟩
  .exact .inl (.inl (T.frame _ _ h hn))
  .exact .inl (.inr ⟨o,T.frame _ _ h hn⟩)
 .exact .inr h
theorem zcu (nt:∀a∈as,∃o,H a=some o/\LD o)(T:Step as H as' H'){a:Addr}{vs:List V}(h:SqF K H a vs):SqF K H' a vs:=by
 rcases h with ⟨o,h⟩ | h
 .have hn:a∉as:=λz=>by
   obtain ⟨u,e,hu⟩:=nt a z;rw[e] at h;cases h;exact hu
  exact .inl ⟨o,T.frame _ _ h hn⟩
 .exact .inr h
structure Kp (K:PySem.W.Frag)(H H':Hp):Prop where
 t:∀a vs,SqT K H a vs->SqT K H' a vs
 f:∀a vs,SqF K H a vs->SqF K H' a vs
theorem Sim.kp (S:Sim K as m H)(T:Step as H as' H'):Kp K H H':=⟨λ_ _ h=>zct (λ_ z=>S.isLst z) T h,λ_ _ h=>zcu (λ_ z=>S.isLst z) T h⟩
theorem Kp.updL {D:Addr}{u o:HO}(h:H D=some u)(hu:LD u):Kp K H (L2.upd H D o):=by
 refine ⟨λa vs q=>?_,λa vs q=>?_⟩
 .rcases q with (q | ⟨x,q⟩) | q
  .exact .inl (.inl (by rw[zg (by rintro rfl;rw[h] at q;cases q;exact hu)];exact q))
  .exact .inl (.inr ⟨x,by rw[zg (by rintro rfl;rw[h] at q;cases q;exact hu)];exact q⟩)
  .exact .inr q
 .rcases q with ⟨x,q⟩ | q
  .exact .inl ⟨x,by rw[zg (by rintro rfl;rw[h] at q;cases q;exact hu)];exact q⟩
  .exact .inr q
theorem Kp.upd {D:Addr}{ys:List V}{o:HO}(h:H D=some (.lst ys)):Kp K H (L2.upd H D o):=Kp.updL h trivial
mutual
theorem kM (k:Kp K H H')(g:∀ (l:Nat) (a:Addr),as[l]?=some a->as'[l]?=some a):∀ (w:Wd) (v:V),Rep K as H w v->Rep K as' H' w v
 | .non,_,h=>by rw[Rep] at h ⊢;exact h
 | .bl _,_,h=>by rw[Rep] at h ⊢;exact h
 | .int _,_,h=>by rw[Rep] at h ⊢;exact h
 | .str _,_,h=>by rw[Rep] at h ⊢;exact h
 | .tup xs,v,h=>by
  rw[Rep] at h ⊢;obtain ⟨a,vs,e,q,r⟩:=h;exact ⟨a,vs,e,k.t _ _ q,repL_mono k g xs vs r⟩
 | .rol xs,v,h=>by
  rw[Rep] at h ⊢;obtain ⟨a,vs,e,q,r⟩:=h;exact ⟨a,vs,e,k.f _ _ q,repL_mono k g xs vs r⟩
 | .ref l,v,h=>by
  rw[Rep] at h ⊢;obtain ⟨a,q,e⟩:=h;exact ⟨a,g _ _ q,e⟩
theorem repL_mono (k:Kp K H H')(g:∀ (l:Nat) (a:Addr),as[l]?=some a->as'[l]?=some a):∀ (ws:List Wd) (vs:List V),RepL K as H ws vs->RepL K as' H' ws vs
 | [],_,h=>by rw[RepL] at h ⊢;exact h
 | x::xs,vs,h=>by
  rw[RepL] at h ⊢;obtain ⟨v,r,e,q,t⟩:=h;exact ⟨v,r,e,kM k g x v q,repL_mono k g xs r t⟩
end
theorem RepO.mono {ob:Ob}{a:Addr}(k:Kp K H H')(g:∀ (l:Nat) (a:Addr),as[l]?=some a->as'[l]?=some a)(e:∀o,H a=some o->H' a=some o)(h:RepO K as H ob a):RepO K as' H' ob a:=by
 cases ob with
 | lst ws=>obtain ⟨vs,h1,h2⟩:=h;exact ⟨vs,e _ h1,repL_mono k g _ _ h2⟩
 | dct ks ws=>obtain ⟨xs,vs,h1,h2,h3,h4⟩:=h;exact ⟨xs,vs,⟨e _ h1.1,λx hx=>k.t _ _ (h1.2 x hx)⟩,h2,repL_mono k g _ _ h3,h4⟩
theorem Rep.mono {w:Wd}{v:V}(h:Rep K as H w v)(S:Sim K as m H)(T:Step as H as' H'):Rep K as' H' w v:=kM (S.kp T) (λ_ _ e=>T.get e) w v h
theorem RepL.mono {ws:List Wd}{vs:List V}(h:RepL K as H ws vs)(S:Sim K as m H)(T:Step as H as' H'):RepL K as' H' ws vs:=repL_mono (S.kp T) (λ_ _ e=>T.get e) ws vs h
theorem RepL.kp {ws:List Wd}{vs:List V}(h:RepL K as H ws vs)(k:Kp K H H'):RepL K as H' ws vs:=repL_mono k (λ_ _ e=>e) ws vs h
theorem Rep.kp {w:Wd}{v:V}(h:Rep K as H w v)(k:Kp K H H'):Rep K as H' w v:=kM k (λ_ _ e=>e) w v h
theorem rep_non {v:V}:Rep K as H .non v↔v=.non:=by rw[Rep]
theorem rep_bl {b:Bool}{v:V}:Rep K as H (.bl b) v↔v=.bl b:=by rw[Rep]
theorem rep_int {i:Int}{v:V}:Rep K as H (.int i) v↔v=.int i:=by rw[Rep]
theorem rep_str {s:List Nat}{v:V}:Rep K as H (.str s) v↔v=.str ⟨s.toArray⟩:=by rw[Rep]
theorem rep_tup {xs:List Wd}{v:V}:Rep K as H (.tup xs) v↔∃a vs,v=.ref a/\SqT K H a vs/\RepL K as H xs vs:=by rw[Rep]
theorem rep_rol {xs:List Wd}{v:V}:Rep K as H (.rol xs) v↔∃a vs,v=.ref a/\SqF K H a vs/\RepL K as H xs vs:=by rw[Rep]
theorem rep_ref {l:Nat}{v:V}:Rep K as H (.ref l) v↔∃a,as[l]?=some a/\v=.ref a:=by rw[Rep]
theorem repL_nil {vs:List V}:RepL K as H [] vs↔vs=[]:=by rw[RepL]
theorem repL_cons {x:Wd}{xs:List Wd}{vs:List V}:RepL K as H (x::xs) vs↔∃v r,vs=v::r/\Rep K as H x v/\RepL K as H xs r:=by rw[RepL]
theorem RepL.length:∀ {xs:List Wd}{vs:List V},RepL K as H xs vs->xs.length=vs.length
 | [],vs,h=>by rw[repL_nil.mp h];rfl
 | x::xs,vs,h=>by
  obtain ⟨v,r,rfl,_,t⟩:=repL_cons.mp h;simp[RepL.length t]
theorem RepL.get:∀ {xs:List Wd}{vs:List V}{i:Nat}{x:Wd},RepL K as H xs vs->xs[i]?=some x->∃v,vs[i]?=some v/\Rep K as H x v
 | [],_,_,_,_,e=>by simp at e
 | x::xs,vs,0,y,h,e=>by
  obtain ⟨v,r,rfl,q,t⟩:=repL_cons.mp h;simp at e;subst e;exact ⟨v,rfl,q⟩
 | x::xs,vs,i+1,y,h,e=>by
  obtain ⟨v,r,rfl,q,t⟩:=repL_cons.mp h;obtain ⟨u,h1,h2⟩:=RepL.get (i:=i) (x:=y) t (by simpa using e);exact ⟨u,by simpa using h1,h2⟩
theorem RepL.back:∀ {xs:List Wd}{vs:List V}{i:Nat}{v:V},RepL K as H xs vs->vs[i]?=some v->∃x,xs[i]?=some x/\Rep K as H x v:=λ{xs vs i v} h e=>by
 have hi:i < xs.length:=by rw[h.length];exact (List.getElem?_eq_some_iff.mp e).1
 obtain ⟨u,h1,h2⟩:=h.get (i:=i) (x:=xs[i]) (by simp[hi]);rw[e] at h1;cases h1;exact ⟨xs[i],by simp[hi],h2⟩
theorem RepL.append:∀ {xs ys:List Wd}{vs us:List V},RepL K as H xs vs->RepL K as H ys us->RepL K as H (xs++ys) (vs++us)
 | [],ys,vs,us,h,h'=>by rw[repL_nil.mp h];exact h'
 | x::xs,ys,vs,us,h,h'=>by
  obtain ⟨v,r,rfl,q,t⟩:=repL_cons.mp h;exact repL_cons.mpr ⟨v,r++us,rfl,q,t.append h'⟩
theorem RepL.one {x:Wd}{v:V}(h:Rep K as H x v):RepL K as H [x] [v]:=repL_cons.mpr ⟨v,[],rfl,h,repL_nil.mpr rfl⟩
set_option tactic.hygienic true in
theorem RepL.take:∀ {xs:List Wd}{vs:List V}(n:Nat),RepL K as H xs vs->RepL K as H (xs.take n) (vs.take n)
 | _,_,0,_=>repL_nil.mpr rfl
 | [],vs,n+1,h=>by rw[repL_nil.mp h];exact repL_nil.mpr rfl
 | x::xs,vs,n+1,h=>by
  obtain ⟨v,r,rfl,q,t⟩:=repL_cons.mp h;exact repL_cons.mpr ⟨v,r.take n,rfl,q,t.take n⟩
theorem RepL.reverse:∀ {xs:List Wd}{vs:List V},RepL K as H xs vs->RepL K as H xs.reverse vs.reverse
 | [],vs,h=>by rw[repL_nil.mp h];exact repL_nil.mpr rfl
 | x::xs,vs,h=>by
  obtain ⟨v,r,rfl,q,t⟩:=repL_cons.mp h;rw[List.reverse_cons,List.reverse_cons];exact t.reverse.append (.one q)
theorem RepL.dropLast:∀ {xs:List Wd}{vs:List V},RepL K as H xs vs->RepL K as H xs.dropLast vs.dropLast:=λ{xs vs} h=>by
 rw[List.dropLast_eq_take,List.dropLast_eq_take,h.length];exact h.take _
theorem RepL.rep {xs:List Wd}{vs:List V}(h:RepL K as H xs vs):∀k:Nat,RepL K as H (List.replicate k xs).flatten (List.replicate k vs).flatten
 | 0=>repL_nil.mpr rfl
 | k+1=>by
  rw[List.replicate_succ,List.replicate_succ,List.flatten_cons,List.flatten_cons];exact h.append (RepL.rep h k)
structure EnvRep (K:PySem.W.Frag)(as:List Addr)(H:Hp)(env:En)(σ:St):Prop where
 len:env.length=σ.length
 get:∀ (i:Nat) (w:Wd),env[i]?=some (some w)->∃v,σ[i]?=some (some v)/\Rep K as H w v
theorem EnvRep.mono {env:En}{σ:St}(G:EnvRep K as H env σ)(S:Sim K as m H)(T:Step as H as' H'):EnvRep K as' H' env σ :=
 ⟨G.len,λi w e=>let ⟨v,h1,h2⟩:=G.get i w e;⟨v,h1,h2.mono S T⟩⟩
theorem EnvRep.kp {env:En}{σ:St}(G:EnvRep K as H env σ)(k:Kp K H H'):EnvRep K as H' env σ :=
 ⟨G.len,λi w e=>let ⟨v,h1,h2⟩:=G.get i w e;⟨v,h1,h2.kp k⟩⟩
theorem EnvRep.set {env:En}{σ:St}(G:EnvRep K as H env σ){w:Wd}{v:V}(h:Rep K as H w v)(i:Nat):EnvRep K as H (env.set i (some w)) (σ.set i (some v)):=by
 refine ⟨by simp[G.len],λj x e=>?_⟩;by_cases hj:j=i
 .subst hj;have hl:j < env.length:=by
   have:=(List.getElem?_eq_some_iff.mp e).1;simpa using this
  rw[List.getElem?_set_self hl] at e;cases e;exact ⟨v,List.getElem?_set_self (by rw[<- G.len];exact hl),h⟩
 .rw[List.getElem?_set_ne (Ne.symm hj)] at e;obtain ⟨u,h1,h2⟩:=G.get j x e;exact ⟨u,by rw[List.getElem?_set_ne (Ne.symm hj)];exact h1,h2⟩
theorem EnvRep.push {env:En}{σ:St}(G:EnvRep K as H env σ){w:Wd}{v:V}(h:Rep K as H w v):EnvRep K as H (env++[some w]) (σ++[some v]):=by
 refine ⟨by simp[G.len],λj x e=>?_⟩;by_cases hj:j < env.length
 .rw[List.getElem?_append_left hj] at e;obtain ⟨u,h1,h2⟩:=G.get j x e;exact ⟨u,by rw[List.getElem?_append_left (by rw[<- G.len];exact hj)];exact h1,h2⟩
 .rw[List.getElem?_append_right (by lia)] at e;have hz:j - env.length=0:=by
   cases hq:j - env.length with
   | zero=>rfl
   | succ k=>rw[hq] at e;simp at e
  rw[hz] at e;simp at e;subst e;refine ⟨v,?_,h⟩;rw[List.getElem?_append_right (by rw[<- G.len];lia),<- G.len,hz];rfl
def Post (K:PySem.W.Frag)(as:List Addr)(H:Hp)(Q:VK)(r:Rz):Prop:=match r with
 | .ok w m'=>∀as' H' v,Step as H as' H'->Sim K as' m' H'->Rep K as' H' w v->Q v H'
 | _=>False
theorem Post.step {Q:VK}{r:Rz}(h:Post K as H Q r)(T:Step as H as' H'):Post K as' H' Q r:=by
 cases r with
 | ok w m'=>exact λas2 H2 v U S R=>h as2 H2 v (T.trans U) S R
 | exc c w m'=>exact h
 | no=>exact h
theorem Post.bind {Q Q1:VK}{r:Rz}{f:Wd->Me->Rz}(h:Post K as H Q (r.bind f))
  (k:∀w m' as' H' v,Step as H as' H'->Sim K as' m' H'->Rep K as' H' w v->Post K as' H' Q (f w m')->Q1 v H'):Post K as H Q1 r:=by
 cases r with
 | ok w m'=>exact λas2 H2 v U S R=>k w m' as2 H2 v U S R (Post.step (r:=f w m') h U)
 | exc c w m'=>exact h
 | no=>exact h
theorem zjY {Q Q1:VK}{r:Rz}{f:Wd->Me->Rz}(h:Post K as H Q (r.bind f))(T:Step as H as' H')
  (k:∀w m2 as2 H2 v,Step as' H' as2 H2->Sim K as2 m2 H2->Rep K as2 H2 w v->Post K as H Q (f w m2)->Q1 v H2):Post K as' H' Q1 r:=by
 cases r with
 | ok w m'=>exact λas2 H2 v U S R=>k w m' as2 H2 v U S R h
 | exc c w m'=>exact h
 | no=>exact h
def tOf (K:PySem.W.Frag)(g:En->Me->Rz):TE:=λσ H Q=>∃as env m,Sim K as m H/\EnvRep K as H env σ/\Post K as H Q (g env m)
def xu (K:PySem.W.Frag)(g:En->Me->Rz):TT:=λσ H Q=>tOf K g σ H λv H'=>∃b,v=.bl b/\Q b H'
theorem Post.ok {Q:VK}{w:Wd}{v:V}(h:Post K as H Q (.ok w m))(S:Sim K as m H)(R:Rep K as H w v):Q v H:=h as H v .refl S R
end
theorem PE.imp {X:Cx}{e:Expr}{t t':TE}(h:PE X e t)(k:∀σ H Q,t' σ H Q->t σ H Q):PE X e t':=λpins s σ H Q I q=>h pins s σ H Q I (k σ H Q q)
theorem PT.imp {X:Cx}{e:Expr}{t t':TT}(h:PT X e t)(k:∀σ H Q,t' σ H Q->t σ H Q):PT X e t':=λpins s σ H Q I q=>h pins s σ H Q I (k σ H Q q)
theorem PA.imp {X:Cx}{es:List Expr}{t t':TA}(h:PA X es t)(k:∀σ H Q,t' σ H Q->t σ H Q):PA X es t':=λpos pins s σ H Q I q=>h pos pins s σ H Q I (k σ H Q q)
theorem PS.imp {X:Cx}{st:Stmt}{t t':TS}(h:PS X st t)(k:∀D σ H,t' D σ H->t D σ H):PS X st t':=λpins s σ H D I q=>h pins s σ H D I (k D σ H q)
theorem PSs.imp {X:Cx}{st:List Stmt}{t t':TS}(h:PSs X st t)(k:∀D σ H,t' D σ H->t D σ H):PSs X st t':=λpins s σ H D I q=>h pins s σ H D I (k D σ H q)
section
variable {K:PySem.W.Frag}{as:List Addr}{H H':Hp}{m:Me}{Q:VK}{a p:Addr}{l:Nat}{ws xs:List Wd}{vs us:List V}
theorem yG:lim<=sizeLine:=by rw[sizeLine_eq];decide
theorem Sim.new (S:Sim K as m H)(hp:H p=none):p∉as:=λz=>by
 obtain ⟨us,e,_⟩:=S.isLst z;rw[hp] at e;cases e
theorem Sim.alloc (S:Sim K as m H)(hp:H p=none)(R:RepL K as H ws vs):Step as H (as++[p]) (upd H p (.lst vs))/\Sim K (as++[p]) (m++[.lst ws]) (upd H p (.lst vs)):=by
 have hn:=S.new hp;have T:Step as H (as++[p]) (upd H p (.lst vs)):=⟨⟨[p],rfl⟩,λb o h _=>by rw[zg (zq h hp)];exact h,λb hb=>by
  rcases List.mem_append.mp hb with z | z
  .exact .inl z
  .exact .inr (by rw[List.mem_singleton.mp z];exact hp)⟩
 refine ⟨T,⟨by simp[S.len],?_,λl b o h1 h2=>?_⟩⟩
 .refine List.nodup_append.mpr ⟨S.nd,by simp,λx hx y hy=>?_⟩;rw[List.mem_singleton.mp hy];rintro rfl;exact hn hx
 .by_cases hl:l < as.length
  .rw[List.getElem?_append_left hl] at h1;rw[List.getElem?_append_left (by rw[<- S.len];exact hl)] at h2;have q:=S.obj l b o h1 h2;cases o with
   | lst ys =>
    obtain ⟨zs,e,r⟩:=q;exact ⟨zs,by rw[zg (zq e hp)];exact e,r.mono S T⟩
   | dct ks us=>exact RepO.mono (ob:=.dct ks us) (S.kp T) (λ_ _ e=>T.get e) (λo e=>by rw[zg (zq e hp)];exact e) q
  .rw[List.getElem?_append_right (by lia)] at h1;rw[List.getElem?_append_right (by rw[<- S.len];lia)] at h2;have hz:l - as.length=0:=by
    cases hq:l - as.length with
    | zero=>rfl
    | succ k=>rw[hq] at h1;simp at h1
   rw[hz] at h1;rw[<- S.len,hz] at h2;simp at h1 h2;subst h1;subst h2;exact ⟨vs,zh,R.mono S T⟩
theorem Sim.set (S:Sim K as m H)(ha:as[l]?=some a)(hm:m[l]?=some (.lst xs))(R:RepL K as H ws vs):Step as H as (upd H a (.lst vs))/\Sim K as (m.set l (.lst ws)) (upd H a (.lst vs)):=by
 have hin:a∈as:=List.mem_of_getElem? ha;have T:Step as H as (upd H a (.lst vs)):=⟨⟨[],by simp⟩,λb o h hb=>by
  rw[zg (by rintro rfl;exact hb hin)];exact h,λb hb=>.inl hb⟩
 refine ⟨T,⟨by simp[S.len],S.nd,λk b o h1 h2=>?_⟩⟩;by_cases hk:k=l
 .subst hk;rw[ha] at h1;cases h1;rw[List.getElem?_set_self (List.getElem?_eq_some_iff.mp hm).1] at h2;cases h2;exact ⟨vs,zh,R.mono S T⟩
 .rw[List.getElem?_set_ne (Ne.symm hk)] at h2;have q:=S.obj k b o h1 h2;have hb:b≠a:=by
   rintro rfl;obtain ⟨i1,e1⟩:=List.getElem?_eq_some_iff.mp h1;obtain ⟨i2,e2⟩:=List.getElem?_eq_some_iff.mp ha;exact hk ((List.getElem_inj S.nd).mp (e1.trans e2.symm))
  cases o with
  | lst ys =>
   obtain ⟨zs,e,r⟩:=q;exact ⟨zs,by rw[zg hb];exact e,r.mono S T⟩
  | dct ks us=>exact RepO.mono (ob:=.dct ks us) (S.kp T) (λ_ _ e=>T.get e) (λo e=>by rw[zg hb];exact e) q
theorem Sim.keep (S:Sim K as m H)(T:Step as H as H')(hk:∀a∈as,∀o,H a=some o->H' a=some o):Sim K as m H':=by
 refine ⟨S.len,S.nd,λl b o h1 h2=>?_⟩;have q:=S.obj l b o h1 h2;cases o with
 | lst ys =>
  obtain ⟨zs,e,r⟩:=q;exact ⟨zs,hk b (List.mem_of_getElem? h1) _ e,r.mono S T⟩
 | dct ks us=>exact RepO.mono (ob:=.dct ks us) (S.kp T) (λ_ _ e=>T.get e) (λo e=>hk b (List.mem_of_getElem? h1) _ e) q
theorem Sim.tup (S:Sim K as m H)(hp:H p=none)(R:RepL K as H ws vs):Step as H as (upd H p (.tup vs))/\Sim K as m (upd H p (.tup vs))/\Rep K as (upd H p (.tup vs)) (.tup ws) (.ref p):=by
 have T:Step as H as (upd H p (.tup vs)):=⟨⟨[],by simp⟩,λb o h _=>by rw[zg (zq h hp)];exact h,λb hb=>.inl hb⟩;exact ⟨T,S.keep T λb _ o e=>by rw[zg (zq e hp)];exact e,rep_tup.mpr ⟨p,vs,rfl,SqT.of zh,R.mono S T⟩⟩
theorem xE (S:Sim K as m H)(R:RepL K as H ws vs)(h:Post K as H Q (alloc m ws)):vs.length<=lim/\∀p,H p=none->Q (.ref p) (upd H p (.lst vs)):=by
 unfold Mini.alloc at h;by_cases hl:ws.length<=lim
 .rw[if_pos hl] at h;refine ⟨by rw[<- R.length];exact hl,λp hp=>?_⟩;obtain ⟨T,S'⟩:=S.alloc hp R;refine h _ _ _ T S' (rep_ref.mpr ⟨p,?_,rfl⟩);rw[<- S.len,List.getElem?_append_right (Nat.le_refl _)];simp
 .rw[if_neg hl] at h;exact h.elim
theorem ye (S:Sim K as m H)(hm:m[l]?=some (.lst xs)):∃a vs,as[l]?=some a/\H a=some (.lst vs)/\RepL K as H xs vs:=by
 obtain ⟨a,ha,vs,e,r⟩:=S.get hm;exact ⟨a,vs,ha,e,r⟩
theorem zM {xs:List Wd}(h:zr m l=some xs):m[l]?=some (.lst xs):=by
 unfold zr at h;cases e:m[l]? with
 | none=>rw[e] at h;cases h
 | some o=>cases o with
  | lst ys=>rw[e] at h;cases h;rfl
  | dct ks us=>rw[e] at h;cases h
theorem j0 (S:Sim K as m H){w:Wd}{v:V}(R:Rep K as H w v)(h:xD m w=some xs):∃p vs,v=.ref p/\(SqL K H p vs\/SqT K H p vs)/\RepL K as H xs vs:=by
 cases w with
 | tup ys =>
  cases h;obtain ⟨b,vs,rfl,q,r⟩:=rep_tup.mp R;exact ⟨b,vs,rfl,.inr q,r⟩
 | rol ys =>
  cases h;obtain ⟨b,vs,rfl,q,r⟩:=rep_rol.mp R;exact ⟨b,vs,rfl,.inl q.sq,r⟩
 | ref l =>
  obtain ⟨b,hb,rfl⟩:=rep_ref.mp R;obtain ⟨a,vs,ha,e,r⟩:=ye S (zM h);rw[hb] at ha;cases ha;exact ⟨b,vs,rfl,.inl (SqL.of e),r⟩
 | non=>cases h
 | bl b=>cases h
 | int i=>cases h
 | str s=>cases h
noncomputable def opK:Bo->Operator
 | .add=>.Add | .sub=>.Sub | .mul=>.Mult | .fdiv=>.FloorDiv | .mod=>.Mod | .pow=>.Pow | .shr=>.RShift | .band=>.BitAnd
def rB (K:PySem.W.Frag):Bo->R2
 | .add=>λx y H Q=>rI0 (λi j=>.int (i+j)) x y H Q\/(ziq x y H Q\/zfL K x y H Q)
 | .sub=>rI0 λi j=>.int (i - j)
 | .mul=>λx y H Q=>rI CMul (λi j=>.int (i * j)) x y H Q\/zir x y H Q
 | .fdiv=>rI zid λi j=>.int (i / j)
 | .mod=>rI (λ_ j=>0 < j) λi j=>.int (i % j)
 | .pow=>rI zie λi j=>.int (i ^ j.toNat)
 | .shr=>rI (λ_ j=>0<=j) λi j=>.int (i / 2 ^ j.toNat)
 | .band=>rI0 λi j=>.int (Builtin.bitAnd i j)
theorem ziv {X:Cx}(op:Bo):OpR X (binaryOp (opK op)) (rB X.K op):=by
 cases op with
 | add=>exact op_add.or (op_cat.or zed)
 | sub=>exact zgn
 | mul=>exact op_mul.or zgC
 | fdiv=>exact zd9
 | mod=>exact zgo
 | pow=>exact zgp
 | shr=>exact zgq
 | band=>exact zgr
theorem zej {i:Int}(h:0<=i):Builtin.bitAnd i 1=i % 2:=by
 obtain ⟨n,rfl⟩:=Int.eq_ofNat_of_zero_le h;show Int.ofNat (n &&& 1)=_;rw[Nat.and_one_is_mod];rfl
theorem vt {i:Int}(h:yM i=true):-(2 ^ 64) < i/\i < 2 ^ 64:=by
 unfold yM big at h;rw[Bool.and_eq_true,decide_eq_true_iff,decide_eq_true_iff] at h;lia
theorem xA {c:Prop}[Decidable c]{r:Rz}(h:Post K as H Q (if c then r else .no)):c/\Post K as H Q r:=by
 by_cases hc:c
 .rw[if_pos hc] at h;exact ⟨hc,h⟩
 .rw[if_neg hc] at h;exact h.elim
theorem zek {a b:Nat}(h:Post K as H Q (bop .add (.ref a) (.ref b) m)):∃xs ys,m[a]?=some (.lst xs)/\m[b]?=some (.lst ys)/\Post K as H Q (alloc m (xs++ys)):=by
 unfold bop at h;dsimp only at h;generalize m[a]?=p at h ⊢;generalize m[b]?=q at h ⊢;cases p with
 | none=>exact h.elim
 | some o =>
  cases o with
  | dct ks us=>exact h.elim
  | lst xs =>
   cases q with
   | none=>exact h.elim
   | some o =>
    cases o with
    | dct ks us=>exact h.elim
    | lst ys=>exact ⟨xs,ys,rfl,rfl,h⟩
theorem zel {a:Nat}{k:Int}(h:Post K as H Q (bop .mul (.ref a) (.int k) m)):∃xs,m[a]?=some (.lst xs)/\Post K as H Q (if -lim<=k/\k<=lim then alloc m (List.replicate k.toNat xs).flatten else .no):=by
 unfold bop at h;dsimp only at h;generalize m[a]?=p at h ⊢;cases p with
 | none=>exact h.elim
 | some o =>
  cases o with
  | dct ks us=>exact h.elim
  | lst xs=>exact ⟨xs,rfl,h⟩
set_option tactic.hygienic true in
theorem zgE {op:Bo}{x y:Wd}{v u:V}(S:Sim K as m H)(Rx:Rep K as H x v)(Ry:Rep K as H y u)(h:Post K as H Q (bop op x y m)):rB K op v u H Q:=by
 cases x with
 | int i =>
  cases y with
  | int j =>
   obtain rfl:=rep_int.mp Rx;obtain rfl:=rep_int.mp Ry;cases op with
   | add=>exact .inl ⟨i,j,rfl,rfl,h.ok S (rep_int.mpr rfl)⟩
   | sub=>exact ⟨i,j,rfl,rfl,h.ok S (rep_int.mpr rfl)⟩
   | mul =>
    obtain ⟨hs,h⟩:=xA h;refine .inl ⟨i,j,rfl,rfl,?_,h.ok S (rep_int.mpr rfl)⟩;rcases Bool.or_eq_true_iff.mp hs with q | q
    .exact .inl (vt q)
    .exact .inr (vt q)
   | fdiv =>
    obtain ⟨hs,h⟩:=xA h;exact ⟨i,j,rfl,rfl,hs,h.ok S (rep_int.mpr rfl)⟩
   | mod =>
    obtain ⟨hs,h⟩:=xA h;exact ⟨i,j,rfl,rfl,hs,h.ok S (rep_int.mpr rfl)⟩
   | pow =>
    obtain ⟨⟨h1,h2,h3⟩,h⟩:=xA h;have h4:=vt h3;exact ⟨i,j,rfl,rfl,⟨h1,h2,by lia⟩,h.ok S (rep_int.mpr rfl)⟩
   | shr =>
    obtain ⟨hs,h⟩:=xA h;exact ⟨i,j,rfl,rfl,hs.1,h.ok S (rep_int.mpr rfl)⟩
   | band =>
    obtain ⟨⟨h1,rfl⟩,h'⟩:=xA h;refine ⟨i,1,rfl,rfl,?_⟩;show Q (.int (Builtin.bitAnd i 1)) H;rw[zej h1];exact h'.ok S (rep_int.mpr rfl)
  | _=>exact h.elim
 | ref a =>
  obtain ⟨pa,ha,rfl⟩:=rep_ref.mp Rx;cases y with
  | ref b =>
   obtain ⟨pb,hb,rfl⟩:=rep_ref.mp Ry;cases op with
   | add =>
    obtain ⟨xs,ys,e1,e2,h⟩:=zek h;obtain ⟨pa',va,ha',ea,ra⟩:=ye S e1;rw[ha] at ha';cases ha';obtain ⟨pb',vb,hb',eb,rb⟩:=ye S e2;rw[hb] at hb';cases hb';obtain ⟨hl,q⟩:=xE S (ra.append rb) h;rw[List.length_append] at hl;exact .inr (.inl ⟨pa,pb,va,vb,rfl,rfl,ea,eb,Nat.le_trans hl yG,q⟩)
   | _=>exact h.elim
  | int k =>
   obtain rfl:=rep_int.mp Ry;cases op with
   | mul =>
    obtain ⟨xs,e1,h⟩:=zel h;obtain ⟨hk,h⟩:=xA h;obtain ⟨pa',va,ha',ea,ra⟩:=ye S e1;rw[ha] at ha';cases ha';obtain ⟨hl,q⟩:=xE S (ra.rep k.toNat) h;rw[zaM] at hl;have hlim:(lim:Int)=100000:=rfl;exact .inr ⟨pa,k,va,rfl,rfl,ea,by lia,by lia,by rw[Nat.mul_comm];exact Nat.le_trans hl yG,q⟩
   | _=>exact h.elim
  | _=>exact h.elim
 | tup xs =>
  cases y with
  | tup ys =>
   cases op with
   | add =>
    obtain ⟨hc,h⟩:=xA h;obtain ⟨pa,va,rfl,qa,ra⟩:=rep_tup.mp Rx;obtain ⟨pb,vb,rfl,qb,rb⟩:=rep_tup.mp Ry;have la:=ra.length;have lb:=rb.length;refine .inr (.inr ⟨pa,pb,va,vb,rfl,rfl,qa,qb,?_,?_,λe=>?_,λe p hp=>?_⟩)
    .rintro rfl;cases xs with
     | nil=>simp at hc
     | cons x xs=>simp at la
    .rw[<- la,<- lb];exact Nat.le_trans hc.1 yG
    .subst e;obtain rfl:ys=[]:=by
      cases ys with
      | nil=>rfl
      | cons y ys=>simp at lb
     refine h.ok S (rep_tup.mpr ⟨pa,va,rfl,qa,?_⟩);rw[List.append_nil];exact ra
    .obtain ⟨T,S',R'⟩:=S.tup hp (ra.append rb);exact h _ _ _ T S' R'
   | _=>exact h.elim
  | _=>exact h.elim
 | _=>exact h.elim
end
end Mini
namespace Mini
open PySem PySem.Spec PyProof.Rows L2
open PySem.SeqAt
section
variable {X:Cx}{pins:List (Addr×Obj)}{σ:St}{s:Shared}{as:List Addr}{H:Hp}{m:Me}
theorem gP {a:Addr}{xs ys:List V}(I:Inv X pins σ H s)(h1:SqT X.K H a xs)(h2:SqL X.K H a ys):False:=by
 obtain ⟨its,_,p,_⟩:=I.tuple h1;obtain ⟨its',_,q,_⟩:=I.list h2;exact ne_of_list_tuple q.isList (show s.heap.IsTuple a its.toArray from p) rfl
theorem zcv {a:Addr}{xs:List V}{u:HO}(I:Inv X pins σ H s)(h1:SqT X.K H a xs)(h2:H a=some u)(h3:LD u):False:=by
 rcases h1 with (q | ⟨o,q⟩) | ⟨o,_,_,hk,_⟩
 .rw[h2] at q;cases q;exact h3
 .rw[h2] at q;cases q;exact h3
 .have:=(I.bs a o (I.ok.mod.kin a o hk)).2;rw[this] at h2;cases h2
theorem jG {a:Addr}{xs:List V}{u:HO}(I:Inv X pins σ H s)(h1:KL X.K a xs)(h2:H a=some u):False:=by
 obtain ⟨o,_,_,hk,_⟩:=h1;have:=(I.bs a o (I.ok.mod.kin a o hk)).2;rw[this] at h2;cases h2
mutual
theorem v8 (I:Inv X pins σ H s)(S:Sim X.K as m H):∀ (w w':Wd) (v:V),Rep X.K as H w v->Rep X.K as H w' v->w=w'
 | .non,w',v,h,h'=>by
  obtain rfl:=rep_non.mp h;cases w' with
  | non=>rfl
  | bl b=>cases rep_bl.mp h'
  | int i=>cases rep_int.mp h'
  | str x=>cases rep_str.mp h'
  | tup xs=>obtain ⟨_,_,e,_⟩:=rep_tup.mp h';cases e
  | rol xs=>obtain ⟨_,_,e,_⟩:=rep_rol.mp h';cases e
  | ref l=>obtain ⟨_,_,e⟩:=rep_ref.mp h';cases e
 | .bl c,w',v,h,h'=>by
  obtain rfl:=rep_bl.mp h;cases w' with
  | non=>cases rep_non.mp h'
  | bl b=>cases rep_bl.mp h';rfl
  | int i=>cases rep_int.mp h'
  | str x=>cases rep_str.mp h'
  | tup xs=>obtain ⟨_,_,e,_⟩:=rep_tup.mp h';cases e
  | rol xs=>obtain ⟨_,_,e,_⟩:=rep_rol.mp h';cases e
  | ref l=>obtain ⟨_,_,e⟩:=rep_ref.mp h';cases e
 | .int c,w',v,h,h'=>by
  obtain rfl:=rep_int.mp h;cases w' with
  | non=>cases rep_non.mp h'
  | bl b=>cases rep_bl.mp h'
  | int i=>cases rep_int.mp h';rfl
  | str x=>cases rep_str.mp h'
  | tup xs=>obtain ⟨_,_,e,_⟩:=rep_tup.mp h';cases e
  | rol xs=>obtain ⟨_,_,e,_⟩:=rep_rol.mp h';cases e
  | ref l=>obtain ⟨_,_,e⟩:=rep_ref.mp h';cases e
 | .str c,w',v,h,h'=>by
  obtain rfl:=rep_str.mp h;cases w' with
  | non=>cases rep_non.mp h'
  | bl b=>cases rep_bl.mp h'
  | int i=>cases rep_int.mp h'
  | str x =>
   have e:=rep_str.mp h';injection e with e
   injection e with e
   have:c=x:=by simpa using congrArg Array.toList e
   rw[this]
  | tup xs=>obtain ⟨_,_,e,_⟩:=rep_tup.mp h';cases e
  | rol xs=>obtain ⟨_,_,e,_⟩:=rep_rol.mp h';cases e
  | ref l=>obtain ⟨_,_,e⟩:=rep_ref.mp h';cases e
 | .tup xs,w',v,h,h'=>by
  obtain ⟨a,vs,rfl,q,r⟩:=rep_tup.mp h;cases w' with
  | non=>cases rep_non.mp h'
  | bl b=>cases rep_bl.mp h'
  | int i=>cases rep_int.mp h'
  | str x=>cases rep_str.mp h'
  | tup ys =>
   obtain ⟨b,us,e,q',r'⟩:=rep_tup.mp h';cases e;obtain rfl:=I.tuple_inj q q';rw[repL_inj I S xs ys vs r r']
  | rol ys =>
   obtain ⟨b,us,e,q',r'⟩:=rep_rol.mp h';cases e;exact (gP I q q'.sq).elim
  | ref l =>
   obtain ⟨b,hb,e⟩:=rep_ref.mp h';cases e;obtain ⟨u,e2,e3⟩:=S.isLst (List.mem_of_getElem? hb);exact (zcv I q e2 e3).elim
 | .rol xs,w',v,h,h'=>by
  obtain ⟨a,vs,rfl,q,r⟩:=rep_rol.mp h;cases w' with
  | non=>cases rep_non.mp h'
  | bl b=>cases rep_bl.mp h'
  | int i=>cases rep_int.mp h'
  | str x=>cases rep_str.mp h'
  | tup ys =>
   obtain ⟨b,us,e,q',r'⟩:=rep_tup.mp h';cases e;exact (gP I q' q.sq).elim
  | rol ys =>
   obtain ⟨b,us,e,q',r'⟩:=rep_rol.mp h';cases e;obtain rfl:=I.list_inj q.sq q'.sq;rw[repL_inj I S xs ys vs r r']
  | ref l =>
   obtain ⟨b,hb,e⟩:=rep_ref.mp h';cases e;obtain ⟨u,e2,e3⟩:=S.isLst (List.mem_of_getElem? hb);rcases q with ⟨o,q⟩ | q
   .rw[e2] at q;cases q;exact e3.elim
   .exact (jG I q e2).elim
 | .ref l,w',v,h,h'=>by
  obtain ⟨a,ha,rfl⟩:=rep_ref.mp h;obtain ⟨u,e2,e3⟩:=S.isLst (List.mem_of_getElem? ha);cases w' with
  | non=>cases rep_non.mp h'
  | bl b=>cases rep_bl.mp h'
  | int i=>cases rep_int.mp h'
  | str x=>cases rep_str.mp h'
  | tup ys =>
   obtain ⟨b,us,e,q',r'⟩:=rep_tup.mp h';cases e;exact (zcv I q' e2 e3).elim
  | rol ys =>
   obtain ⟨b,us,e,q',r'⟩:=rep_rol.mp h';cases e;rcases q' with ⟨o,q'⟩ | q'
   .rw[e2] at q';cases q';exact e3.elim
   .exact (jG I q' e2).elim
  | ref l' =>
   obtain ⟨b,hb,e⟩:=rep_ref.mp h';cases e;obtain ⟨i1,e1⟩:=List.getElem?_eq_some_iff.mp ha;obtain ⟨i2,e2⟩:=List.getElem?_eq_some_iff.mp hb;rw[(List.getElem_inj S.nd).mp (e1.trans e2.symm)]
theorem repL_inj (I:Inv X pins σ H s)(S:Sim X.K as m H):∀ (xs ys:List Wd) (vs:List V),RepL X.K as H xs vs->RepL X.K as H ys vs->xs=ys
 | [],ys,vs,h,h'=>by
  obtain rfl:=repL_nil.mp h;cases ys with
  | nil=>rfl
  | cons y ys=>obtain ⟨_,_,e,_⟩:=repL_cons.mp h';cases e
 | x::xs,ys,vs,h,h'=>by
  obtain ⟨v,r,rfl,q,t⟩:=repL_cons.mp h;cases ys with
  | nil=>cases repL_nil.mp h'
  | cons y ys =>
   obtain ⟨v',r',e,q',t'⟩:=repL_cons.mp h';cases e;rw[v8 I S x y v q q',repL_inj I S xs ys r t t']
end
theorem j1 {p:Wd->Wd->Option Bool}:∀ {xs ys:List Wd}{r:Bool},eqL p xs ys=some r ->
  ∃f:Nat->Bool,(∀j x y,xs[j]?=some x->ys[j]?=some y->p x y=some (f j))/\r=(List.range (min xs.length ys.length)).all f
 | [],ys,r,h=>by
  unfold eqL at h;cases h;exact ⟨λ_=>true,λj x y e=>by simp at e,by simp⟩
 | _::_,[],r,h=>by
  unfold eqL at h;cases h;exact ⟨λ_=>true,λj x y _ e=>by simp at e,by simp⟩
 | x::xs,y::ys,r,h=>by
  unfold eqL at h;cases hp:p x y with
  | none=>rw[hp] at h;cases h
  | some b =>
   rw[hp] at h;simp only[] at h;cases hr:eqL p xs ys with
   | none=>rw[hr] at h;cases h
   | some r' =>
    rw[hr] at h;cases h;obtain ⟨f,hf,e⟩:=j1 (xs:=xs) (ys:=ys) hr;refine ⟨λj=>match j with | 0=>b | j+1=>f j,λj x' y' e1 e2=>?_,?_⟩
    .cases j with
     | zero=>simp at e1 e2;subst e1;subst e2;exact hp
     | succ j=>exact hf j x' y' (by simpa using e1) (by simpa using e2)
    .rw[List.length_cons,List.length_cons,Nat.succ_min_succ,List.range_succ_eq_map,List.all_cons,List.all_map,e];rfl
theorem gQ:∀ (k:Nat) (w:Wd) (r:Bool),eqW m k w w=some r->r=true
 | 0,w,r,h=>by cases h
 | k+1,w,r,h=>by
  cases w with
  | non=>cases h;rfl
  | bl b=>cases h;simp
  | int i=>cases h;simp
  | str x=>cases h;simp
  | tup xs =>
   replace h:(eqL (eqW m k) xs xs).map (· && decide (xs.length=xs.length))=some r:=h
   cases hr:eqL (eqW m k) xs xs with
   | none=>rw[hr] at h;cases h
   | some r' =>
    rw[hr] at h;simp only[Option.map_some,decide_true,Bool.and_true] at h;cases h;obtain ⟨f,hf,rfl⟩:=j1 hr;rw[List.all_eq_true];intro j hj;have hj':j < xs.length:=by simpa using hj
    exact gQ k xs[j] (f j) (hf j xs[j] xs[j] (by simp[hj']) (by simp[hj']))
  | rol xs=>cases h
  | ref l =>
   replace h:(if l=l then (if isLst m l then some true else none) else match m[l]?,m[l]? with
    | some (.lst xs),some (.lst ys)=>if xs.length=ys.length then eqL (eqW m k) xs ys else some false
    | _,_=>none)=some r:=h
   simp only[if_true] at h;split at h
   .cases h;rfl
   .cases h
structure Eqs (A:Around)(s:Shared)(u u':Value)(r:Bool):Prop where
 it:EqAt A s u u' r
 eq:RcAt A s u u' r
 ne:RcNeAt A s u u' (! r)
theorem isLst_of (S:Sim X.K as m H)(I:Inv X pins σ H s){l:Nat}{v:V}{u:Value}(h:isLst m l=true)(R:Rep X.K as H (.ref l) v)(ru:RelV v u):∃b its,u=.ref b/\s.heap.IsList b its:=by
 unfold isLst at h;cases e:m[l]? with
 | none=>rw[e] at h;cases h
 | some o =>
  cases o with
  | dct ks us=>rw[e] at h;cases h
  | lst xs =>
   obtain ⟨b,hb,rfl⟩:=rep_ref.mp R;obtain ⟨a,vs,ha,ea,ra⟩:=ye S e;rw[hb] at ha;cases ha;obtain rfl:u=.ref b:=ru;obtain ⟨its,_,p,_⟩:=I.list (SqL.of ea);exact ⟨b,_,rfl,p.isList⟩
theorem wK (I:Inv X pins σ H s){xs:List Wd}{v:V}{u:Value}(R:Rep X.K as H (.tup xs) v)(ru:RelV v u):∃b vs its,v=.ref b/\u=.ref b/\RepL X.K as H xs vs/\Vals vs its/\s.heap.IsTuple b its.toArray:=by
 obtain ⟨b,vs,rfl,q,r⟩:=rep_tup.mp R;obtain rfl:u=.ref b:=ru;obtain ⟨its,rv,p,_⟩:=I.tuple q;exact ⟨b,vs,its,rfl,rfl,r,rv,p⟩
set_option tactic.hygienic true in
theorem zaP (I:Inv X pins σ H s)(S:Sim X.K as m H):∀ (k:Nat) (A:Around) (w w':Wd) (v v':V) (u u':Value) (r:Bool),A.units+k < cLine->eqW m k w w'=some r ->
  Rep X.K as H w v->Rep X.K as H w' v'->RelV v u->RelV v' u'->Eqs A s u u' r
 | 0,_,_,_,_,_,_,_,_,_,h,_,_,_,_=>by cases h
 | k+1,A,w,w',v,v',u,u',r,hu,h,R,R',ru,ru'=>by
  have hu0:A.units < cLine:=by lia
  have hu1:A.in1.units+k < cLine:=by show A.units+1+k < cLine;lia
  -- items,pair by pair
  have pairs:∀ {xs ys:List Wd}{vs us:List V}{its its':List Value}{r:Bool},RepL X.K as H xs vs->RepL X.K as H ys us->Vals vs its->Vals us its'->eqL (eqW m k) xs ys=some r ->
    ∃f:Nat->Bool,(∀j (h1:j < its.toArray.size) (h2:j < its'.toArray.size),EqAt A.in1 s its.toArray[j] its'.toArray[j] (f j))/\r=(List.range (min its.toArray.size its'.toArray.size)).all f/\its.toArray.size=xs.length/\its'.toArray.size=ys.length:=by
   intro xs ys vs us its its' r r1 r2 rv rv' he;obtain ⟨f,hf,e⟩:=j1 he;have l1:=r1.length;have l2:=r2.length;have l3:=rv.length;have l4:=rv'.length;have s1:its.toArray.size=xs.length:=by simp;lia
   have s2:its'.toArray.size=ys.length:=by simp;lia
   refine ⟨f,λj h1 h2=>?_,by rw[e,s1,s2],s1,s2⟩;have hj:j < xs.length:=by lia
   have hj2:j < ys.length:=by lia
   obtain ⟨v1,e1,q1⟩:=r1.get (i:=j) (x:=xs[j]) (by simp[hj]);obtain ⟨v2,e2,q2⟩:=r2.get (i:=j) (x:=ys[j]) (by simp[hj2]);obtain ⟨u1,e3,q3⟩:=rv.get e1;obtain ⟨u2,e4,q4⟩:=rv'.get e2;have z:=zaP I S k A.in1 xs[j] ys[j] v1 v2 u1 u2 (f j) hu1 (hf j _ _ (by simp[hj]) (by simp[hj2])) q1 q2 q3 q4;obtain ⟨_,e5⟩:=List.getElem?_eq_some_iff.mp e3;obtain ⟨_,e6⟩:=List.getElem?_eq_some_iff.mp e4;have g1:its.toArray[j]=u1:=by simpa using e5
   have g2:its'.toArray[j]=u2:=by simpa using e6
   rw[g1,g2];exact z.it
  cases w with
  | tup xs =>
   obtain ⟨b,vs,its,rfl,rfl,r1,rv,p⟩:=wK I R ru;cases w' with
   | tup ys =>
    obtain ⟨b',vs',its',rfl,rfl,r1',rv',p'⟩:=wK I R' ru';have rc:RcAt A s (.ref b) (.ref b') r/\RcNeAt A s (.ref b) (.ref b') (! r):=by
     replace h:(eqL (eqW m k) xs ys).map (· && decide (xs.length=ys.length))=some r:=h
     cases hr:eqL (eqW m k) xs ys with
     | none=>rw[hr] at h;cases h
     | some r' =>
      rw[hr] at h;simp only[Option.map_some] at h;cases h;obtain ⟨f,hf,e,z1,z2⟩:=pairs r1 r1' rv rv' hr;have e2:((List.range (min its.toArray.size its'.toArray.size)).all f && its.toArray.size == its'.toArray.size)=(r' && decide (xs.length=ys.length)):=by
       rw[e,z1,z2];congr 1
      exact ⟨e2▸RcAt.tuples p p' hu0 hf,e2▸RcNeAt.tuples p p' hu0 hf⟩
    refine ⟨?_,rc.1,rc.2⟩;by_cases hb:b=b'
    .subst hb;have e:=v8 I S _ _ _ R R';rw[<- e] at h;obtain rfl:=gQ _ _ _ h;exact EqAt.same _
    .exact EqAt.of_refs hb rc.1
   | ref l =>
    replace h:(if isLst m l && true then some false else none)=some r:=h
    split at h
    .rename_i hl;cases h;obtain ⟨b',its',rfl,q⟩:=isLst_of S I (Bool.and_eq_true_iff.mp hl).1 R' ru';exact ⟨EqAt.tuple_list p q hu0,RcAt.tuple_list p q hu0,RcNeAt.tuple_list p q hu0⟩
    .cases h
   | rol ys=>cases h
   | non =>
    cases h;obtain rfl:=rep_non.mp R';obtain rfl:u'=.none:=ru';exact ⟨EqAt.tuple_none p hu0,RcAt.tuple_none p hu0,RcNeAt.tuple_none p hu0⟩
   | bl c =>
    cases h;obtain rfl:=rep_bl.mp R';obtain rfl:u'=.bool c:=ru';exact ⟨EqAt.tuple_bool c p hu0,RcAt.tuple_bool c p hu0,RcNeAt.tuple_bool c p hu0⟩
   | int i =>
    cases h;obtain rfl:=rep_int.mp R';obtain ⟨t,rfl⟩:=ru';exact ⟨EqAt.tuple_int i t p hu0,RcAt.tuple_int i t p hu0,RcNeAt.tuple_int i t p hu0⟩
   | str x =>
    cases h;obtain rfl:=rep_str.mp R';obtain ⟨t,rfl⟩:=ru';exact ⟨EqAt.tuple_str _ t p hu0,RcAt.tuple_str _ t p hu0,RcNeAt.tuple_str _ t p hu0⟩
  | ref l =>
   cases w' with
   | ref l' =>
    obtain ⟨b,hb,rfl⟩:=rep_ref.mp R;obtain ⟨b',hb',rfl⟩:=rep_ref.mp R';obtain rfl:u=.ref b:=ru;obtain rfl:u'=.ref b':=ru'
    replace h:(if l=l' then (if isLst m l then some true else none) else match m[l]?,m[l']? with
     | some (.lst xs),some (.lst ys)=>if xs.length=ys.length then eqL (eqW m k) xs ys else some false
     | _,_=>none)=some r:=h
    by_cases hll:l=l'
    .subst hll;rw[hb] at hb';cases hb';rw[if_pos rfl] at h;split at h
     .rename_i hil;cases h;obtain ⟨c,its,ec,q⟩:=isLst_of S I hil R (u:=.ref b) rfl;cases ec;have al:(List.range its.size).all (λ_=>true)=true:=by simp
      have e1:=RcAt.lists (A:=A) (e:=λ_=>true) q q rfl hu0 (λj h1 h2=>EqAt.same _);have e2:=RcNeAt.lists (A:=A) (e:=λ_=>true) q q rfl hu0 (λj h1 h2=>EqAt.same _);rw[al] at e1 e2;exact ⟨EqAt.same _,e1,e2⟩
     .cases h
    .rw[if_neg hll] at h;have hbb:b≠b':=by
      rintro rfl;obtain ⟨i1,e1⟩:=List.getElem?_eq_some_iff.mp hb;obtain ⟨i2,e2⟩:=List.getElem?_eq_some_iff.mp hb';exact hll ((List.getElem_inj S.nd).mp (e1.trans e2.symm))
     split at h
     .rename_i xs ys m1 m2;obtain ⟨a1,vs,h1,g1,r1⟩:=ye S m1;rw[hb] at h1;cases h1;obtain ⟨a2,us,h2,g2,r2⟩:=ye S m2;rw[hb'] at h2;cases h2;obtain ⟨its,rv,p,_⟩:=I.list (SqL.of g1);obtain ⟨its',rv',p',_⟩:=I.list (SqL.of g2);split at h
      .rename_i hl;obtain ⟨f,hf,e,z1,z2⟩:=pairs r1 r2 rv rv' h;have hsz:its.toArray.size=its'.toArray.size:=by rw[z1,z2,hl]
       rw[<- hsz,Nat.min_self] at e;have e1:=RcAt.lists p.isList p'.isList hsz hu0 hf;have e2:=RcNeAt.lists p.isList p'.isList hsz hu0 hf;rw[<- e] at e1 e2;exact ⟨EqAt.of_refs hbb e1,e1,e2⟩
      .rename_i hl;cases h;have l1:=r1.length;have l2:=r2.length;have l3:=rv.length;have l4:=rv'.length;have hsz:(its.toArray.size != its'.toArray.size)=true:=by
        simp;lia
       have e1:=RcAt.lists_lengths (A:=A) p.isList p'.isList hsz hu0;exact ⟨EqAt.of_refs hbb e1,e1,RcNeAt.lists_lengths p.isList p'.isList hsz hu0⟩
     .cases h
   | tup ys =>
    replace h:(if isLst m l && true then some false else none)=some r:=h
    split at h
    .rename_i hl;cases h;obtain ⟨b,its,rfl,q⟩:=isLst_of S I (Bool.and_eq_true_iff.mp hl).1 R ru;obtain ⟨b',vs',its',rfl,rfl,r1',rv',p'⟩:=wK I R' ru';exact ⟨EqAt.list_tuple q p' hu0,RcAt.list_tuple q p' hu0,RcNeAt.list_tuple q p' hu0⟩
    .cases h
   | rol ys =>
    replace h:(if isLst m l && false then some false else none)=some r:=h
    simp only[Bool.and_false,Bool.false_eq_true,if_false] at h;cases h
   | non =>
    replace h:(if isLst m l && true then some false else none)=some r:=h
    split at h
    .rename_i hl;cases h;obtain ⟨b,its,rfl,q⟩:=isLst_of S I (Bool.and_eq_true_iff.mp hl).1 R ru;obtain rfl:=rep_non.mp R';obtain rfl:u'=.none:=ru';exact ⟨EqAt.list_none q hu0,RcAt.list_none q hu0,RcNeAt.list_none q hu0⟩
    .cases h
   | bl c =>
    replace h:(if isLst m l && true then some false else none)=some r:=h
    split at h
    .rename_i hl;cases h;obtain ⟨b,its,rfl,q⟩:=isLst_of S I (Bool.and_eq_true_iff.mp hl).1 R ru;obtain rfl:=rep_bl.mp R';obtain rfl:u'=.bool c:=ru';exact ⟨EqAt.list_bool c q hu0,RcAt.list_bool c q hu0,RcNeAt.list_bool c q hu0⟩
    .cases h
   | int i =>
    replace h:(if isLst m l && true then some false else none)=some r:=h
    split at h
    .rename_i hl;cases h;obtain ⟨b,its,rfl,q⟩:=isLst_of S I (Bool.and_eq_true_iff.mp hl).1 R ru;obtain rfl:=rep_int.mp R';obtain ⟨t,rfl⟩:=ru';exact ⟨EqAt.list_int i t q hu0,RcAt.list_int i t q hu0,RcNeAt.list_int i t q hu0⟩
    .cases h
   | str x =>
    replace h:(if isLst m l && true then some false else none)=some r:=h
    split at h
    .rename_i hl;cases h;obtain ⟨b,its,rfl,q⟩:=isLst_of S I (Bool.and_eq_true_iff.mp hl).1 R ru;obtain rfl:=rep_str.mp R';obtain ⟨t,rfl⟩:=ru';exact ⟨EqAt.list_str _ t q hu0,RcAt.list_str _ t q hu0,RcNeAt.list_str _ t q hu0⟩
    .cases h
  | rol xs =>
   cases w' <;> first | cases h | (replace h:(if isLst m _ && false then some false else none)=some r:=h;simp at h)
  | non =>
   obtain rfl:=rep_non.mp R;obtain rfl:u=.none:=ru;cases w' with
   | rol ys=>cases h
   | ref l =>
    replace h:(if isLst m l && true then some false else none)=some r:=h
    split at h
    .rename_i hl;cases h;obtain ⟨b,its,rfl,q⟩:=isLst_of S I (Bool.and_eq_true_iff.mp hl).1 R' ru';exact ⟨EqAt.none_list q hu0,RcAt.none_list q hu0,RcNeAt.none_list q hu0⟩
    .cases h
   | tup ys =>
    cases h;obtain ⟨b',vs',its',rfl,rfl,r1',rv',p'⟩:=wK I R' ru';exact ⟨EqAt.none_tuple p' hu0,RcAt.none_tuple p' hu0,RcNeAt.none_tuple p' hu0⟩
   | non =>
    cases h;obtain rfl:=rep_non.mp R';obtain rfl:u'=.none:=ru';exact ⟨EqAt.same _,RcAt.none_none,RcNeAt.none_none⟩
   | bl c =>
    cases h;obtain rfl:=rep_bl.mp R';obtain rfl:u'=.bool c:=ru';exact ⟨EqAt.none_bool c,RcAt.none_bool c,RcNeAt.none_bool c⟩
   | int i =>
    cases h;obtain rfl:=rep_int.mp R';obtain ⟨t,rfl⟩:=ru';exact ⟨EqAt.none_int i t,RcAt.none_int i t,RcNeAt.none_int i t⟩
   | str x =>
    cases h;obtain rfl:=rep_str.mp R';obtain ⟨t,rfl⟩:=ru';exact ⟨EqAt.none_str _ t,RcAt.none_str _ t,RcNeAt.none_str _ t⟩
  | bl c =>
   obtain rfl:=rep_bl.mp R;obtain rfl:u=.bool c:=ru;cases w' with
   | rol ys=>cases h
   | ref l =>
    replace h:(if isLst m l && true then some false else none)=some r:=h
    split at h
    .rename_i hl;cases h;obtain ⟨b,its,rfl,q⟩:=isLst_of S I (Bool.and_eq_true_iff.mp hl).1 R' ru';exact ⟨EqAt.bool_list c q hu0,RcAt.bool_list c q hu0,RcNeAt.bool_list c q hu0⟩
    .cases h
   | tup ys =>
    cases h;obtain ⟨b',vs',its',rfl,rfl,r1',rv',p'⟩:=wK I R' ru';exact ⟨EqAt.bool_tuple c p' hu0,RcAt.bool_tuple c p' hu0,RcNeAt.bool_tuple c p' hu0⟩
   | non =>
    cases h;obtain rfl:=rep_non.mp R';obtain rfl:u'=.none:=ru';exact ⟨EqAt.bool_none c,RcAt.bool_none c,RcNeAt.bool_none c⟩
   | bl d =>
    cases h;obtain rfl:=rep_bl.mp R';obtain rfl:u'=.bool d:=ru';exact ⟨EqAt.bool_bool c d,RcAt.bool_bool c d,RcNeAt.bool_bool c d⟩
   | int i =>
    cases h;obtain rfl:=rep_int.mp R';obtain ⟨t,rfl⟩:=ru';have e:decide (b2i c=i)=((if c then (1:Int) else 0) == i):=by
     show decide ((if c then (1:Int) else 0)=i)=_;rw[Bool.beq_eq_decide_eq]
    rw[e];exact ⟨EqAt.bool_int c i t,RcAt.bool_int c i t,RcNeAt.bool_int c i t⟩
   | str x =>
    cases h;obtain rfl:=rep_str.mp R';obtain ⟨t,rfl⟩:=ru';exact ⟨EqAt.bool_str c _ t,RcAt.bool_str c _ t,RcNeAt.bool_str c _ t⟩
  | int i =>
   obtain rfl:=rep_int.mp R;obtain ⟨t,rfl⟩:=ru;cases w' with
   | rol ys=>cases h
   | ref l =>
    replace h:(if isLst m l && true then some false else none)=some r:=h
    split at h
    .rename_i hl;cases h;obtain ⟨b,its,rfl,q⟩:=isLst_of S I (Bool.and_eq_true_iff.mp hl).1 R' ru';exact ⟨EqAt.int_list i t q hu0,RcAt.int_list i t q hu0,RcNeAt.int_list i t q hu0⟩
    .cases h
   | tup ys =>
    cases h;obtain ⟨b',vs',its',rfl,rfl,r1',rv',p'⟩:=wK I R' ru';exact ⟨EqAt.int_tuple i t p' hu0,RcAt.int_tuple i t p' hu0,RcNeAt.int_tuple i t p' hu0⟩
   | non =>
    cases h;obtain rfl:=rep_non.mp R';obtain rfl:u'=.none:=ru';exact ⟨EqAt.int_none i t,RcAt.int_none i t,RcNeAt.int_none i t⟩
   | bl d =>
    cases h;obtain rfl:=rep_bl.mp R';obtain rfl:u'=.bool d:=ru';have e:decide (i=b2i d)=(i == (if d then (1:Int) else 0)):=by
     show decide (i=(if d then (1:Int) else 0))=_;rw[Bool.beq_eq_decide_eq]
    rw[e];exact ⟨EqAt.int_bool i t d,RcAt.int_bool i t d,RcNeAt.int_bool i t d⟩
   | int j =>
    cases h;obtain rfl:=rep_int.mp R';obtain ⟨t',rfl⟩:=ru';have e:decide (i=j)=(i == j):=by rw[Bool.beq_eq_decide_eq]
    rw[e];exact ⟨EqAt.int_int i t j t',RcAt.int_int i t j t',RcNeAt.int_int i t j t'⟩
   | str x =>
    cases h;obtain rfl:=rep_str.mp R';obtain ⟨t',rfl⟩:=ru';exact ⟨EqAt.int_str i t _ t',RcAt.int_str i t _ t',RcNeAt.int_str i t _ t'⟩
  | str x =>
   obtain rfl:=rep_str.mp R;obtain ⟨t,rfl⟩:=ru;cases w' with
   | rol ys=>cases h
   | ref l =>
    replace h:(if isLst m l && true then some false else none)=some r:=h
    split at h
    .rename_i hl;cases h;obtain ⟨b,its,rfl,q⟩:=isLst_of S I (Bool.and_eq_true_iff.mp hl).1 R' ru';exact ⟨EqAt.str_list _ t q hu0,RcAt.str_list _ t q hu0,RcNeAt.str_list _ t q hu0⟩
    .cases h
   | tup ys =>
    cases h;obtain ⟨b',vs',its',rfl,rfl,r1',rv',p'⟩:=wK I R' ru';exact ⟨EqAt.str_tuple _ t p' hu0,RcAt.str_tuple _ t p' hu0,RcNeAt.str_tuple _ t p' hu0⟩
   | non =>
    cases h;obtain rfl:=rep_non.mp R';obtain rfl:u'=.none:=ru';exact ⟨EqAt.str_none _ t,RcAt.str_none _ t,RcNeAt.str_none _ t⟩
   | bl d =>
    cases h;obtain rfl:=rep_bl.mp R';obtain rfl:u'=.bool d:=ru';exact ⟨EqAt.str_bool _ t d,RcAt.str_bool _ t d,RcNeAt.str_bool _ t d⟩
   | int j =>
    cases h;obtain rfl:=rep_int.mp R';obtain ⟨t',rfl⟩:=ru';exact ⟨EqAt.str_int _ t j t',RcAt.str_int _ t j t',RcNeAt.str_int _ t j t'⟩
   | str y =>
    cases h;obtain rfl:=rep_str.mp R';obtain ⟨t',rfl⟩:=ru';have e:decide (x=y)=((⟨x.toArray⟩:Str) == ⟨y.toArray⟩):=by
     by_cases hxy:x=y
     .subst hxy;simp
     .have:¬(⟨x.toArray⟩:Str)=⟨y.toArray⟩:=λz=>by
       injection z with z
       exact hxy (by simpa using congrArg Array.toList z)
      rw[decide_eq_false hxy];exact (beq_eq_false_iff_ne.mpr this).symm
    rw[e];exact ⟨EqAt.str_str _ t _ t',RcAt.str_str _ t _ t',RcNeAt.str_str _ t _ t'⟩
end
end Mini
namespace L2
open PySem PySem.Spec PyProof.Rows PySem.SeqAt
section
variable {prog:Program}{w:World}{A:Around}{E:Value->Shared->Prop}{s:Shared}
theorem gR {i:Int}{t:Tok}{stored:List Value}{Q:Bool->Shared->Prop}(hst:∀v∈stored,∃k' b,v=.ref b/\IsTupleKey (intKind prog w) s.heap k' b)(h:Q false s):wpAny (model prog w) A (tableMayTell (.int i t) stored) Q E s:=by
 unfold tableMayTell;split
 .exact wpAny_pure h
 .rw[eqIsQuiet_byValue 8 (show carriedByValue (.int i t)=true from rfl)];refine wpAny_bind (wpAny_pure ?_);simp only[Bool.not_true,Bool.false_eq_true,if_false];refine wpAny_bind ?_;refine wpAny_forIn_list _ (λrest r s'=>s'=s/\r=(none,())/\∀v∈rest,∃k' b,v=.ref b/\IsTupleKey (intKind prog w) s.heap k' b) _ ?_ ?_ _ _ ⟨rfl,rfl,hst⟩
  .rintro v rest r s' ⟨rfl,rfl,hr⟩;obtain ⟨k',b,rfl,hk⟩:=hr v List.mem_cons_self;refine wpAny_bind (wpAny_eqIsQuiet_tuple hk ?_);simp only[Bool.not_true,Bool.false_eq_true,if_false];exact wpAny_pure ⟨rfl,rfl,λv hv=>hr v (List.mem_cons_of_mem _ hv)⟩
  .rintro r s' ⟨rfl,rfl,_⟩;exact wpAny_pure h
theorem zcw {d:Addr}{o:Obj}{es:Array DictEntry}{ep:Nat}{xs:List TK}{i:Int}{t:Tok}{Q:Option Nat->Shared->Prop}(hu:A.units < cLine)(ho:s.heap.get? d=some o)(hd:o.data=.dict es ep)(he:es.toList=xs.map zaN)(his:∀x∈xs,IsTupleKey (intKind prog w) s.heap x.1 x.2.1)(h:Q none s):
  wpAny (model prog w) A (dictFind d (.int i t) (hashInt i)) Q E s:=by
 have hmem:∀e∈es,∃x∈xs,e=zaN x:=by
  intro e hin;have:e∈xs.map zaN:=he▸Array.mem_toList_iff.mpr hin;obtain ⟨x,hx,rfl⟩:=List.mem_map.mp this;exact ⟨x,hx,rfl⟩
 have hst:∀v∈(placesWithHash es.size (λi=>es[i]?.map (·.hash)) (hashInt i)).filterMap (λi=>es[i]?.map (·.key)),∃k' b,v=.ref b/\IsTupleKey (intKind prog w) s.heap k' b:=by
  intro v hv;obtain ⟨j,_,hi⟩:=List.mem_filterMap.mp hv;cases hei:es[j]? with
  | none=>rw[hei] at hi;cases hi
  | some e =>
   rw[hei] at hi;obtain rfl:e.key=v:=by simpa using hi
   obtain ⟨x,hx,rfl⟩:=hmem e (Array.mem_of_getElem? hei);exact ⟨x.1,x.2.1,rfl,his x hx⟩
 have hne:∀ (e:DictEntry),e∈es->∀ (Q:Bool->Shared->Prop),Q false s->wpAny (model prog w) A (eqBool e.key (.int i t)) Q E s:=by
  intro e hin Q q;obtain ⟨x,hx,rfl⟩:=hmem e hin;obtain ⟨ob,items,n,h1,h2,h3,_⟩:=his x hx;exact EqAt.tuple_int i t (show s.heap.IsTuple x.2.1 items from ⟨ob,h1,h2,n,h3⟩) hu prog w E Q q
 unfold dictFind
 try with_reducible refine wpAny_holding ?_
 refine wpAny_bind (wpAny_dictEntries ho hd ?_);dsimp only;by_cases hall:((Value.int i t::(placesWithHash es.size (λi=>es[i]?.map (·.hash)) (hashInt i)).filterMap (λi=>es[i]?.map (·.key))).all carriedByValue)=true
 .rw[if_pos hall];unfold dictWalkPlain;refine wpAny_bind ?_;refine wpAny_forIn_list _ (λ_ b s'=>s'=s/\b=(none,())) _ ?_ ?_ _ _ ⟨rfl,rfl⟩
  .rintro x rest b s' ⟨rfl,rfl⟩;cases hex:es[x]? with
   | none=>exact wpAny_pure ⟨rfl,rfl⟩
   | some e =>
    dsimp only;by_cases hh:(e.hash == hashInt i)=true
    .rw[if_pos hh];refine wpAny_bind (wpAny_dictEpoch ho hd (wpAny_bind (hne e (Array.mem_of_getElem? hex) _ (wpAny_bind (wpAny_dictEpoch ho hd ?_)))));show wpAny _ _ (if (ep != ep)=true then _ else _) _ E _;rw[if_neg (by simp)];simp only[Bool.false_eq_true,if_false];refine wpAny_bind (wpAny_rule ?_);exact wpAny_pure ⟨rfl,rfl⟩
    .rw[if_neg hh];exact wpAny_pure ⟨rfl,rfl⟩
  .rintro b s' ⟨rfl,rfl⟩;exact wpAny_pure h
 .rw[if_neg hall];have hone:¬(((placesWithHash es.size (λi=>es[i]?.map (·.hash)) (hashInt i)).filterMap (λi=>es[i]?.map (·.key))) == [Value.int i t])=true:=by
   intro z;have z:=eq_of_beq z;obtain ⟨_,b,e,_⟩:=hst (.int i t) (by rw[z];simp);cases e
  rw[if_neg hone];refine wpAny_bind (gR hst ?_);rw[if_neg (by simp)];refine wpAny_bind ?_;refine wpAny_forIn_list _ (λ_ b s'=>s'=s/\b=(none,none)) _ ?_ ?_ _ _ ⟨rfl,rfl⟩
  .rintro x rest b s' ⟨rfl,rfl⟩;cases hex:es[x]? with
   | none=>exact wpAny_pure ⟨rfl,rfl⟩
   | some e =>
    dsimp only;by_cases hh:(e.hash == hashInt i)=true
    .rw[if_pos hh];refine wpAny_bind (wpAny_dictEpoch ho hd (wpAny_bind (hne e (Array.mem_of_getElem? hex) _ (wpAny_bind (wpAny_dictEpoch ho hd ?_)))));show wpAny _ _ (if (ep != ep)=true then _ else _) _ E _;rw[if_neg (by simp)];simp only[Bool.false_eq_true,if_false];refine wpAny_bind (wpAny_rule ?_)
     first
      | exact wpAny_pure ⟨rfl,rfl⟩
      | (rw[if_neg (by simp)];exact wpAny_pure ⟨rfl,rfl⟩)
      | exact wpAny_bind (wpAny_pure (wpAny_pure ⟨rfl,rfl⟩))
    .rw[if_neg hh];exact wpAny_pure ⟨rfl,rfl⟩
  .rintro b s' ⟨rfl,rfl⟩;exact wpAny_pure h
theorem zgF {d:Addr}{xs:List TK}{i:Int}{t:Tok}{Q:Value->Shared->Prop}(hu:A.units+1 < cLine)(hd:(d == sysModules)=false)(hm:s.heap.DictOfH (tupleKind (intKind prog w)) d xs)(h:Q (.bool false) { s with toks:=s.toks+1 }):
  wpAny (model prog w) A (compareOp .In (.int i t) (.ref d)) Q E s:=by
 show wpAny _ _ (do return .bool (<- contains (.ref d) (.int i t))) Q E s;refine wpAny_bind ?_;unfold contains
 try with_reducible refine wpAny_holding ?_
 refine wpAny_bind (wpAny_specialOf hm.typeIs slot_dict_contains.lookup ?_);show wpAny _ _ (if (some (Value.builtin "dict.__contains__") == some Value.none)=true then _ else _) _ E s;rw[if_neg (by rw[beq_builtin_none];exact Bool.false_ne_true)];refine wpAny_bind (wpAny_callSpecialUnlessNone?_slot (name:=Str.ofString "__contains__") hm.typeIs slot_dict_contains
  (wpAny_call_entry slot_dict_contains hm.typeIs entry_dict_contains ?_ (args_dict_contains _ _)))
 obtain ⟨o,es,ep,ho,_,hdd,he,his,hn⟩:=id hm;show wpAny _ _ (dictGet d (.int i t) >>= _) _ _ s;refine wpAny_bind ?_;unfold dictGet
 try with_reducible refine wpAny_holding ?_
 refine wpAny_bind (wpAny_pyHash_int (wpAny_bind (zcw (s:={ s with toks:=s.toks+1 }) (xs:=xs) (by show A.units+1 < cLine;lia) ho hdd he his ?_)));refine wpAny_pure ?_;show wpAny _ _ (Builtin.Dict.pendingKey? d (.int i t) >>= _) _ _ _;exact wpAny_bind (wpAny_pendingKey_other hd (wpAny_pure ⟨_,rfl,wpAny_truthy_bool (wpAny_pure h)⟩))
end
section
variable {X:Cx}{pins:List (Addr×Obj)}{σ:St}{H:Hp}{s:Shared}
def ziw (K:PySem.W.Frag):R2:=λx y H Q=>∃d xs,y=.ref d/\kH K H d xs/\((∃i,x=.int i/\Q (.bl false) H)\/∃a ks,x=.ref a/\SqT K H a (ks.map V.int)/\Q (.bl (atKey xs ks).isSome) H)
theorem zgG (hu:X.A.units+64 < cLine):OpR X (compareOp .In) (ziw X.K):=by
 intro pins s σ H x y v u Q I rx ry h;obtain ⟨d,xs,rfl,hd,h⟩:=h;cases ry;obtain ⟨d0,dm⟩:=kI I hd;rcases h with ⟨i,rfl,q⟩ | ⟨a,ks,rfl,hk,q⟩
 .obtain ⟨t,rfl⟩:=rx;exact zgF (by lia) d0 dm ⟨.bl false,H,I.tok _,rfl,q⟩
 .cases rx;exact wpAny_in_heap (knd:=tupleKind (intKind X.prog X.w)) (by show X.A.units+1 < cLine;lia) (v7 I hk) d0 dm ⟨.bl (atKey xs ks).isSome,H,I.tok _,rfl,q⟩
end
end L2
namespace Mini
open PySem PySem.Spec PyProof.Rows L2
section
variable {K:PySem.W.Frag}{as:List Addr}{H:Hp}{m:Me}{Q:VK}
theorem vu:∀ {ws:List Wd}{k:List Int}{vs:List V},xi ws=some k->RepL K as H ws vs->vs=k.map V.int
 | [],k,vs,h,r=>by cases h;rw[repL_nil.mp r];rfl
 | w::ws,k,vs,h,r=>by
  cases w with
  | int i =>
   have h':(xi ws).map (i::·)=some k:=h;obtain ⟨k',e,rfl⟩:=Option.map_eq_some_iff.mp h';obtain ⟨v,r',rfl,q,t⟩:=repL_cons.mp r;rw[rep_int.mp q,vu e t];rfl
  | _=>cases h
theorem qV {l:Nat}{ks:List (List Int)}{ws:List Wd}(S:Sim K as m H)(hm:m[l]?=some (.dct ks ws)):∃a xs vs,as[l]?=some a/\kH K H a xs/\xs.map (·.1)=ks/\RepL K as H ws vs/\Vals vs (xs.map (·.2.2))/\ks.Nodup:=by
 obtain ⟨a,ha,xs,vs,r⟩:=S.get hm;exact ⟨a,xs,vs,ha,r⟩
theorem atKey_iff {xs:List TK}{q:List Int}:(atKey xs q).isSome=true↔q∈xs.map (·.1):=by
 unfold atKey;rw[Option.isSome_map,List.find?_isSome];simp only[List.mem_map,decide_eq_true_eq]
theorem zgH {x y:Wd}{v u:V}{b:Bool}(S:Sim K as m H)(R:Rep K as H x v)(R':Rep K as H y u)(h:inK m x y=some b)(q:Q (.bl b) H):ziw K v u H Q:=by
 unfold inK at h;cases y with
 | ref l =>
  obtain ⟨a,ha,rfl⟩:=rep_ref.mp R';dsimp only at h;cases e:m[l]? with
  | none=>rw[e] at h;cases h
  | some o =>
   cases o with
   | lst ys=>rw[e] at h;cases h
   | dct ks ws =>
    rw[e] at h;dsimp only at h;obtain ⟨a',xs,vs,ha',td,rfl,_⟩:=qV S e;rw[ha] at ha';cases ha';refine ⟨a,xs,rfl,td,?_⟩;cases x with
    | int i=>cases h;exact .inl ⟨i,rep_int.mp R,q⟩
    | tup us =>
     obtain ⟨k,hk,rfl⟩:=Option.map_eq_some_iff.mp h;obtain ⟨c,vs,rfl,sq,r⟩:=rep_tup.mp R;rw[vu hk r] at sq;refine .inr ⟨c,k,rfl,sq,?_⟩;rw[show (atKey xs k).isSome=decide (k∈xs.map (·.1)) from by
      rw[Bool.eq_iff_iff,atKey_iff,decide_eq_true_eq]]
     exact q
    | _=>cases h
 | _=>cases h
end
end Mini
namespace Mini
open PySem PySem.Spec PyProof.Rows L2
open PySem.SeqAt
noncomputable def cK:Co->CmpOp
 | .eq=>.Eq | .ne=>.NotEq | .lt=>.Lt | .le=>.LtE | .gt=>.Gt | .notN=>.IsNot | .isin=>.In 
def rC (K:PySem.W.Frag)(op:Co):R2:=λx y H Q=>∃as m w w',Sim K as m H/\Rep K as H w x/\Rep K as H w' y/\Post K as H Q (cop op w w' m)
section
variable {X:Cx}
theorem j2 {K:PySem.W.Frag}{as:List Addr}{H:Hp}{m:Me}{Q:VK}{o:Option Bool}(S:Sim K as m H)(h:Post K as H Q (ofB o m)):∃b,o=some b/\Q (.bl b) H:=by
 cases o with
 | none=>exact h.elim
 | some b=>exact ⟨b,rfl,h.ok S (rep_bl.mpr rfl)⟩
theorem zaQ {p:Wd->Wd->Option Bool}{x:Wd}:∀ {ys:List Wd}{r:Bool},inL p x ys=some r ->
  ∃f:Wd->Bool,(∀y∈ys,p y x=some (f y))/\r=ys.any f
 | [],r,h=>by cases h;exact ⟨λ_=>false,λy hy=>by simp at hy,rfl⟩
 | y::ys,r,h=>by
  unfold inL at h;cases hp:p y x with
  | none=>rw[hp] at h;cases h
  | some b =>
   rw[hp] at h;simp only[] at h;cases hr:inL p x ys with
   | none=>rw[hr] at h;cases h
   | some r' =>
    rw[hr] at h;cases h;obtain ⟨f,hf,rfl⟩:=zaQ hr
    classical
    refine ⟨λz=>(p z x).getD false,λz hz=>?_,?_⟩
    .rcases List.mem_cons.mp hz with rfl | hz
     .simp only[hp,Option.getD_some]
     .simp only[hf z hz,Option.getD_some]
    .rw[List.any_cons,hp];congr 1;refine Bool.eq_iff_iff.mpr ?_;rw[List.any_eq_true,List.any_eq_true];constructor
     .rintro ⟨z,hz,e⟩;exact ⟨z,hz,by rw[hf z hz];exact e⟩
     .rintro ⟨z,hz,e⟩;rw[hf z hz] at e;exact ⟨z,hz,e⟩
theorem gT {pins:List (Addr×Obj)}{σ:St}{s:Shared}{as:List Addr}{H:Hp}{m:Me}{A:Around}(I:Inv X pins σ H s)(S:Sim X.K as m H)(hu:A.units+yF < cLine){w:Wd}{v:V}{u:Value}{ys:List Wd}{vs:List V}{its:List Value}{r:Bool}
  (R:Rep X.K as H w v) (ru:RelV v u) (ry:RepL X.K as H ys vs) (rv:Vals vs its) (h:inL (eqW m yF) w ys=some r) :
  ∃e:Value->Bool,(∀y,y∈its.toArray->EqAt A s y u (e y))/\its.toArray.any e=r:=by
 obtain ⟨f,hf,rfl⟩:=zaQ h
 classical
 -- the plain value of an item
 have pick:∀y,y∈its->∃z,z∈ys/\∃vz,Rep X.K as H z vz/\RelV vz y:=λy hy=>by
  obtain ⟨j,hj,rfl⟩:=List.mem_iff_getElem.mp hy;have l1:=ry.length;have l2:=rv.length;have hj1:j < vs.length:=by lia
  obtain ⟨u1,e1,q1⟩:=rv.get (i:=j) (x:=vs[j]) (by simp[hj1]);obtain ⟨z,e2,q2⟩:=ry.back (i:=j) (v:=vs[j]) (by simp[hj1]);obtain ⟨_,e3⟩:=List.getElem?_eq_some_iff.mp e1;exact ⟨z,List.mem_of_getElem? e2,vs[j],q2,by rw[e3];exact q1⟩
 let e:Value->Bool:=λy=>if hy:y∈its then f (Classical.choose (pick y hy)) else false
 have he:∀y (hy:y∈its) z vz,z∈ys->Rep X.K as H z vz->RelV vz y->e y=f z:=λy hy z vz hz hr hq=>by
  obtain ⟨h1,vz',h2,h3⟩:=Classical.choose_spec (pick y hy);have:e y=f (Classical.choose (pick y hy)):=dif_pos hy;rw[this];have hv:vz'=vz:=h3.inj hq;subst hv;rw[v8 I S _ _ _ h2 hr]
 refine ⟨e,λy hy=>?_,?_⟩
 .have hy':y∈its:=by simpa using hy
  obtain ⟨z,hz,vz,q1,q2⟩:=pick y hy';rw[he y hy' z vz hz q1 q2];exact (zaP I S yF A z w vz v y u (f z) hu (hf z hz) q1 R q2 ru).it
 .refine Bool.eq_iff_iff.mpr ?_;rw[List.any_toArray,List.any_eq_true,List.any_eq_true];constructor
  .rintro ⟨y,hy,ey⟩;obtain ⟨z,hz,vz,q1,q2⟩:=pick y hy;rw[he y hy z vz hz q1 q2] at ey;exact ⟨z,hz,ey⟩
  .rintro ⟨z,hz,ez⟩;obtain ⟨j,hj,rfl⟩:=List.mem_iff_getElem.mp hz;obtain ⟨v1,e1,q1⟩:=ry.get (i:=j) (x:=ys[j]) (by simp[hj]);obtain ⟨u1,e2,q2⟩:=rv.get e1;have hy:u1∈its:=List.mem_of_getElem? e2;exact ⟨u1,hy,by rw[he u1 hy ys[j] v1 (List.getElem_mem hj) q1 q2];exact ez⟩
set_option tactic.hygienic true in
theorem kN (hu:X.A.units+64 < cLine)(op:Co):OpR X (compareOp (cK op)) (rC X.K op):=by
 intro pins s σ H x y v u Q I rx ry h;obtain ⟨as,m,w,w',S,R,R',q⟩:=h;have hd:yF=12:=rfl;have fin:∀ {b:Bool},Q (.bl b) H->EP X pins σ Q (.bool b) s:=λ{b} q=>⟨.bl b,H,I,rfl,q⟩;have cmpI:∀ {r:Int->Int->Bool},Post X.K as H Q (jD r w w' m)->∃i j,x=.int i/\y=.int j/\Q (.bl (r i j)) H:=λ{r} q=>by
  unfold jD at q;cases w with
  | int i =>
   cases w' with
   | int j=>exact ⟨i,j,rep_int.mp R,rep_int.mp R',q.ok S (rep_bl.mpr rfl)⟩
   | _=>exact q.elim
  | _=>exact q.elim
 cases op with
 | eq =>
  obtain ⟨b,hb,q⟩:=j2 S q;exact (zaP I S yF X.A w w' x y v u b (by lia) hb R R' rx ry).eq X.prog X.w X.xe _ (fin q)
 | ne =>
  obtain ⟨b,hb,q⟩:=j2 S q;obtain ⟨c,hc,rfl⟩:=Option.map_eq_some_iff.mp hb;exact (zaP I S yF X.A w w' x y v u c (by lia) hc R R' rx ry).ne X.prog X.w X.xe _ (fin q)
 | isin =>
  simp only[cop] at q;split at q
  .rename_i ys hs;obtain ⟨b,hb,q⟩:=j2 S q;obtain ⟨p,vs,rfl,hq,r⟩:=j0 S R' hs;obtain rfl:u=.ref p:=ry;rcases hq with hq | hq
   .obtain ⟨its,rv,pl,_⟩:=I.list hq;obtain ⟨e,he,rfl⟩:=gT (A:=X.A.in1) I S (by show X.A.units+1+yF < cLine;lia) R rx r rv hb;exact in_listAt e pl.isList he (fin q)
   .obtain ⟨its,rv,pl,_⟩:=I.tuple hq;obtain ⟨e,he,rfl⟩:=gT (A:=X.A.in1) I S (by show X.A.units+1+yF < cLine;lia) R rx r rv hb;exact in_tupleAt e (show s.heap.IsTuple p its.toArray from pl) he (fin q)
  .obtain ⟨b,hb,q⟩:=j2 S q;exact zgG hu pins s σ H x y v u Q I rx ry (zgH S R R' hb q)
 | notN =>
  refine zea pins s σ H x y v u Q I rx ry ?_;simp only[cop] at q;split at q
  .exact ⟨rep_non.mp R',by rw[rep_non.mp R];exact q.ok S (rep_bl.mpr rfl)⟩
  .rename_i hne;refine ⟨rep_non.mp R',?_⟩;have:x≠.non:=λz=>by
    subst z;exact hne (v8 I S _ _ _ R (rep_non.mpr rfl))
   rw[decide_eq_false this];exact q.ok S (rep_bl.mpr rfl)
  .exact q.elim
 | lt=>exact zif pins s σ H x y v u Q I rx ry (cmpI q)
 | le=>exact zig pins s σ H x y v u Q I rx ry (cmpI q)
 | gt=>exact zih pins s σ H x y v u Q I rx ry (cmpI (r:=λi j=>decide (j < i)) q)
end
end Mini
namespace L2
open PySem PySem.Spec PyProof.Rows
section
variable {O:KeyOrd}{key:Keyed->O.α}
def Le (O:KeyOrd)(key:Keyed->O.α)(x y:Keyed):Prop:=O.kle (key x) (key y)
def Srt (O:KeyOrd)(key:Keyed->O.α)(l:List Keyed):Prop:=l.Pairwise (Le O key)
theorem Le.trans {x y z:Keyed}(h1:Le O key x y)(h2:Le O key y z):Le O key x z:=KeyOrd.kle_trans h1 h2
structure MI (O:KeyOrd)(key:Keyed->O.α)(X Y:List Keyed)(ia ib:Nat)(L:List Keyed):Prop where
 ha:ia<=X.length
 hb:ib<=Y.length
 pm:L.Perm (X.take ia++Y.take ib)
 so:Srt O key L
 la:∀z∈L,∀x∈X.drop ia,Le O key z x
 lb:∀z∈L,∀y∈Y.drop ib,Le O key z y
def Good (O:KeyOrd)(key:Keyed->O.α)(X Y r:List Keyed):Prop:=Srt O key r/\r.Perm (X++Y)
variable {X Y L:List Keyed}{ia ib:Nat}
end
section
variable {O:KeyOrd}{key:Keyed->O.α}
structure MH (O:KeyOrd)(key:Keyed->O.α)(X Y:List Keyed)(na nb:Nat)(L:List Keyed):Prop where
 ha:na<=X.length
 hb:nb<=Y.length
 pm:L.Perm (X.drop na++Y.drop nb)
 so:Srt O key L
 la:∀z∈L,∀x∈X.take na,Le O key x z
 lb:∀z∈L,∀y∈Y.take nb,Le O key y z
variable {X Y L:List Keyed}{na nb:Nat}
end
section
variable {O:KeyOrd}{key:Keyed->O.α}{S:Keyed->Prop}
structure Ok (O:KeyOrd)(key:Keyed->O.α)(S:Keyed->Prop)(st:SortSt)(pend:List (Nat×Nat×Nat))(l:List Keyed):Prop where
 kind:kindOf st=oneType'
 failed:failedOf st=none
 pend:(pendingOf st).toList=pend
 arr:(arrOf st).toList=l
 all:∀x∈l,S x
end
noncomputable def zbG (ns:List Int):List Int:=ns.mergeSort λa b=>decide (a<=b)
theorem jH (ns:List Int):(zbG ns).Perm ns:=List.mergeSort_perm _ _
theorem gU (ns:List Int):(zbG ns).Pairwise (·<=·):=by
 have:=List.pairwise_mergeSort (le:=λa b:Int=>decide (a<=b)) (λa b c h1 h2=>by simp only[decide_eq_true_eq] at *;lia) (λa b=>by simp only[Bool.or_eq_true,decide_eq_true_eq];lia) ns;exact this.imp λh=>of_decide_eq_true h
theorem zem {ns ms:List Int}(h:ms.Perm ns)(hs:ms.Pairwise (·<=·)):zbG ns=ms :=
 List.Perm.eq_of_pairwise (le:=λa b:Int=>a<=b) (λa b _ _ h1 h2=>by lia) (gU ns) hs ((jH ns).trans h.symm)
theorem gW:∀ {ns:List Int}{its:List Value},Vals (ns.map V.int) its->IntsAre its ns
 | [],_,.nil=>.nil
 | n::ns,_,.cons r t=>by
  obtain ⟨k,rfl⟩:=(r:∃t,_=Value.int n t);exact .cons _ _ (gW t)
theorem gX:∀ {ns:List Int}{its:List Value},IntsAre its ns->Vals (ns.map V.int) its
 | _,_,.nil=>.nil
 | _,_,.cons _ _ t=>.cons ⟨_,rfl⟩ (gX t)
section
variable {X:Cx}
theorem qW:CallR X (.builtin "sorted") (λxs H Q=>∃ (p:Addr) (ns:List Int),xs=[.ref p]/\SqL X.K H p (ns.map V.int)/\ns.length < 64/\∀l,H l=none->Q (.ref l) (upd H l (.lst ((zbG ns).map V.int)))):=by
 intro pins s σ H xs us Q I r h;obtain ⟨p,ns,rfl,hq,h64,q⟩:=h;obtain ⟨u,rfl,rx⟩:=gI r;cases rx;obtain ⟨its,r',pl,hz⟩:=I.list hq;have hlen:=r'.length;rw[List.length_map] at hlen;refine sorted_ints pl.isList (gW r') (by lia) λout ns' h1 h2 h3=>?_;obtain ⟨e,he⟩:=sortedAll_at s.heap its out;have e1:zbG ns=ns':=zem h2 h3;refine ⟨.ref (s.heap.objs.size+1),_,I.laid (a:=s.heap.objs.size+1) (t':=s.toks) (λb o hb=>sortedAll_old hb) (by lia) (show ObjOk X.prog X.w _ _ _ (.lst ((zbG ns).map V.int)) from ⟨?_,out.toList,e,?_,?_⟩),rfl,q _ (I.hok.fresh (by lia))⟩
 .rw[List.length_map,(jH ns).length_eq];have:(64:Nat)<=sizeLine:=by decide
  lia
 .rw[e1];exact gX h1
 .exact he
end
end L2
namespace Mini
open PySem PySem.Spec PyProof.Rows L2
section
variable {K:PySem.W.Frag}{as:List Addr}{H:Hp}{m:Me}{Q:VK}{X:Cx}
noncomputable def zen:Blf->Option (Str×Value)
 | .len=>some ("len",.builtin "len")
 | .int=>some ("int",.type "int")
 | .list=>some ("list",.type "list")
 | .max2=>some ("max",.builtin "max")
 | .sortI=>some ("sorted",.builtin "sorted")
def rBl (K:PySem.W.Frag)(b:Blf):List V->Hp->VK->Prop:=λvs H Q=>∃as m ws,Sim K as m H/\RepL K as H ws vs/\Post K as H Q (qT b ws m)
theorem wL {x:Wd}{vs:List V}(h:RepL K as H [x] vs):∃v,vs=[v]/\Rep K as H x v:=by
 obtain ⟨v,r,rfl,q,t⟩:=repL_cons.mp h;obtain rfl:=repL_nil.mp t;exact ⟨v,rfl,q⟩
theorem zgI {x y:Wd}{vs:List V}(h:RepL K as H [x,y] vs):∃v u,vs=[v,u]/\Rep K as H x v/\Rep K as H y u:=by
 obtain ⟨v,r,rfl,q,t⟩:=repL_cons.mp h;obtain ⟨u,rfl,q'⟩:=wL t;exact ⟨v,u,rfl,q,q'⟩
theorem zix {w:Wd}{v:V}{xs:List Wd}(S:Sim K as m H)(R:Rep K as H w v)(h:zcn m w=some xs):∃p vs,v=.ref p/\SqL K H p vs/\RepL K as H xs vs:=by
 cases w with
 | rol ys =>
  cases h;obtain ⟨a,vs,rfl,hq,rr⟩:=rep_rol.mp R;exact ⟨a,vs,rfl,hq.sq,rr⟩
 | ref l =>
  obtain ⟨b,hb,rfl⟩:=rep_ref.mp R;obtain ⟨a,vs,ha,e,r⟩:=ye S (zM h);rw[hb] at ha;cases ha;exact ⟨b,vs,rfl,SqL.of e,r⟩
 | _=>cases h
theorem zaR {o:Option (List Wd)}{f:(List Wd)->Rz}(h:Post K as H Q (match o with | some a=>f a | none=>.no)):∃a,o=some a/\Post K as H Q (f a):=by
 cases o with
 | none=>exact h.elim
 | some a=>exact ⟨a,rfl,h⟩
theorem jI:∀ (l:List Int),RepL K as H (l.map Wd.int) (l.map V.int)
 | []=>repL_nil.mpr rfl
 | n::l=>repL_cons.mpr ⟨_,_,rfl,rep_int.mpr rfl,jI l⟩
theorem gY:∀ {xs:List Wd}{vs:List V}{k:List Int},RepL K as H xs vs->xi xs=some k->vs=k.map V.int
 | [],vs,k,R,h=>by cases h;exact repL_nil.mp R
 | x::xs,vs,k,R,h=>by
  obtain ⟨v,r,rfl,q,t⟩:=repL_cons.mp R;cases x with
  | int j =>
   have h':(xi xs).map (j::·)=some k:=h;obtain ⟨k',hk,rfl⟩:=Option.map_eq_some_iff.mp h';rw[gY t hk,rep_int.mp q];rfl
  | _=>cases h
set_option tactic.hygienic true in
theorem zcx (hu:X.A.units+64 < cLine)(hc:X.calm=true){b:Blf}{nm:Str}{f:Value}(hb:zen b=some (nm,f)):CallR X f (rBl X.K b):=by
 intro pins s σ H xs us Q I r h;obtain ⟨as,m,ws,S,R,q⟩:=h;cases b with
 | len =>
  cases hb;refine jT pins s σ H xs us Q I r ?_;rcases ws with _ | ⟨x,_ | ⟨_,_⟩⟩
  .exact q.elim
  .obtain ⟨ys,hs,q⟩:=zaR (o:=xD m x) (f:=λys=>.ok (.int ys.length) m) q;obtain ⟨v,rfl,q1⟩:=wL R;obtain ⟨p,vs,rfl,hq,rr⟩:=j0 S q1 hs;refine ⟨p,vs,rfl,hq,?_⟩;rw[<- rr.length];exact q.ok S (rep_int.mpr rfl)
  .exact q.elim
 | int =>
  cases hb;refine zby pins s σ H xs us Q I r ?_;cases ws with
  | nil=>exact q.elim
  | cons x ws =>
   cases x with
   | int i =>
    cases ws with
    | nil =>
     obtain ⟨v,rfl,q1⟩:=wL R;obtain rfl:=rep_int.mp q1;exact .inl ⟨i,rfl,q.ok S (rep_int.mpr rfl)⟩
    | cons _ _=>exact q.elim
   | bl i =>
    cases ws with
    | nil =>
     obtain ⟨v,rfl,q1⟩:=wL R;obtain rfl:=rep_bl.mp q1;exact .inr ⟨i,rfl,q.ok S (rep_int.mpr rfl)⟩
    | cons _ _=>exact q.elim
   | _=>exact q.elim
 | list =>
  cases hb;refine jU pins s σ H xs us Q I r ?_;rcases ws with _ | ⟨x,_ | ⟨_,_⟩⟩
  .exact q.elim
  .obtain ⟨ys,hs,q⟩:=zaR (o:=xD m x) (f:=λys=>alloc m ys) q;obtain ⟨v,rfl,q1⟩:=wL R;obtain ⟨p,vs,rfl,hq,rr⟩:=j0 S q1 hs;exact ⟨p,vs,rfl,hq,(xE S rr q).2⟩
  .exact q.elim
 | sortI =>
  cases hb;refine qW pins s σ H xs us Q I r ?_;rcases ws with _ | ⟨x,_ | ⟨_,_⟩⟩
  .exact q.elim
  .replace q:Post X.K as H Q (match (zcn m x).bind xi with
    | some k=>if k.length < 64 then alloc m ((jY k).map Wd.int) else .no
    | none=>.no):=q
   cases hs:(zcn m x).bind xi with
   | none=>rw[hs] at q;exact q.elim
   | some k =>
    rw[hs] at q;by_cases h64:k.length < 64
    .replace q:Post X.K as H Q (if k.length < 64 then alloc m ((jY k).map Wd.int) else .no):=q
     rw[if_pos h64] at q;obtain ⟨ys,h1,h2⟩:=Option.bind_eq_some_iff.mp hs;obtain ⟨v,rfl,q1⟩:=wL R;obtain ⟨p,vs,rfl,hq,rr⟩:=zix S q1 h1;obtain rfl:=gY rr h2;exact ⟨p,k,rfl,hq,h64,(xE S (jI _) q).2⟩
    .replace q:Post X.K as H Q (if k.length < 64 then alloc m ((jY k).map Wd.int) else .no):=q
     rw[if_neg h64] at q;exact q.elim
  .exact q.elim
 | max2 =>
  cases hb;refine zbx hc pins s σ H xs us Q I r ?_;cases ws with
  | nil=>exact q.elim
  | cons x ws =>
   cases x with
   | int i =>
    cases ws with
    | nil=>exact q.elim
    | cons y ws =>
     cases y with
     | int j =>
      cases ws with
      | nil =>
       obtain ⟨v,u,rfl,q1,q2⟩:=zgI R;obtain rfl:=rep_int.mp q1;obtain rfl:=rep_int.mp q2;exact ⟨i,j,rfl,q.ok S (rep_int.mpr rfl)⟩
      | cons _ _=>exact q.elim
     | _=>exact q.elim
   | _=>exact q.elim
set_option tactic.hygienic true in
theorem zgJ {x y:Wd}{v u:V}(S:Sim K as m H)(R:Rep K as H x v)(R':Rep K as H y u)(h:Post K as H Q (kJ x y m)):rIx K v u H Q:=by
 unfold kJ at h;split at h
 .rename_i i;obtain rfl:=rep_int.mp R';split at h
  .rename_i xs hs;split at h
   .rename_i w hw;obtain ⟨p,vs,rfl,hq,rr⟩:=j0 S R hs;have e:∃z,atI vs i=some z/\Rep K as H w z:=by
     obtain ⟨j,hj,hx⟩:=Option.bind_eq_some_iff.mp hw;obtain ⟨z,hz,rz⟩:=rr.get hx;refine ⟨z,?_,rz⟩;unfold atI;have hj':ixN vs.length i=some j:=by rw[<- rr.length];exact hj
     rw[hj'];exact hz
    obtain ⟨z,hz,rz⟩:=e;rcases hq with hq | hq
    .exact .inl ⟨p,vs,i,z,rfl,rfl,hq,hz,h.ok S rz⟩
    .exact .inr (.inl ⟨p,vs,i,z,rfl,rfl,hq,hz,h.ok S rz⟩)
   .exact h.elim
  .exact h.elim
 .exact h.elim
noncomputable def mtV:Mth->Str×String
 | .append=>("append", "list.append") | .pop=>("pop", "list.pop") | .reverse=>("reverse", "list.reverse") | .clear=>("clear", "list.clear") 
def rMt (K:PySem.W.Frag)(n:Mth):V->List V->Hp->VK->Prop:=λv vs H Q=>∃as m w ws,Sim K as m H/\Rep K as H w v/\RepL K as H ws vs/\Post K as H Q (mtR n w ws m)
set_option tactic.hygienic true in
theorem zcy (n:Mth):MtR X (mtV n).2 (rMt X.K n):=by
 intro pins s σ H v vs u us Q I r rs h;obtain ⟨as,m,w,ws,S,R,Rs,q⟩:=h;unfold mtR at q;split at q
 .rename_i l;split at q
  .rename_i xs hl;obtain ⟨a,ha,rfl⟩:=rep_ref.mp R;obtain ⟨b,zs,hb,e,rr⟩:=ye S hl;rw[ha] at hb;cases hb;have hz:zs.length<=sizeLine:=(I.lstM e).1;split at q
   .rename_i y;split at q
    .rename_i hlt;obtain ⟨z,rfl,rz⟩:=wL Rs;obtain ⟨T,S'⟩:=S.set ha hl (rr.append (.one rz));exact jB pins s σ H _ _ u us Q I r rs ⟨a,zs,z,rfl,rfl,e,by rw[<- rr.length];exact Nat.lt_of_lt_of_le hlt yG,q _ _ _ T S' (rep_non.mpr rfl)⟩
    .exact q.elim
   .split at q
    .rename_i y hy;obtain rfl:=repL_nil.mp Rs;obtain ⟨z,hz',rz⟩:=rr.get hy;obtain ⟨T,S'⟩:=S.set ha hl rr.dropLast;exact zgB pins s σ H _ _ u us Q I r rs ⟨a,zs,z,rfl,rfl,e,by rw[<- rr.length];exact hz',q _ _ _ T S' (rz.mono S T)⟩
    .exact q.elim
   .obtain rfl:=repL_nil.mp Rs;obtain ⟨T,S'⟩:=S.set ha hl rr.reverse;exact qQ pins s σ H _ _ u us Q I r rs ⟨a,zs,rfl,rfl,e,q _ _ _ T S' (rep_non.mpr rfl)⟩
   .exact q.elim
  .exact q.elim
 .exact q.elim
end
structure SeqIt (J:It)(vs:List V)(ok:Hp->Prop):Prop where
 go:∀i H,ok H->i < vs.length->J.go i H
 yld:∀i H x H',ok H->i < vs.length->J.yld i H x H'->H'=H/\vs[i]?=some x
 stop:∀i H,ok H->vs.length<=i->J.stop i H
def zaS (K:PySem.W.Frag)(as:List Addr)(H:Hp)(J:It)(xs:List Wd):Prop :=
 ∃vs ok,SeqIt J vs ok/\ok H/\RepL K as H xs vs/\∀H1 H2,Kp K H1 H2->ok H1->ok H2
def ziy (K:PySem.W.Frag)(as:List Addr)(H:Hp)(w:Wd)(J:It):Prop:=match w with
 | .tup xs=>zaS K as H J xs
 | .rol xs=>zaS K as H J xs
 | .ref l=>∃a,as[l]?=some a/\J=Itl K a
 | _=>True
def PostI (K:PySem.W.Frag)(as:List Addr)(H:Hp)(R:It->Hp->Prop)(r:Rz):Prop:=match r with
 | .ok w m'=>(xD m' w).isSome=true/\∀as' H' J,Step as H as' H'->Sim K as' m' H'->ziy K as' H' w J->R J H'
 | _=>False
def iOf (K:PySem.W.Frag)(g:En->Me->Rz):TI:=λσ H R=>∃as env m,Sim K as m H/\EnvRep K as H env σ/\PostI K as H R (g env m)
theorem PI.or {X:Cx}{tg e:Expr}{a b:TI}(h1:PI X tg e a)(h2:PI X tg e b):PI X tg e (λσ H R=>a σ H R\/b σ H R):=λpins s σ H R I h=>by
 rcases h with h | h
 .exact h1 pins s σ H R I h
 .exact h2 pins s σ H R I h
theorem PI.imp {X:Cx}{tg e:Expr}{a b:TI}(h:PI X tg e a)(k:∀σ H R,b σ H R->a σ H R):PI X tg e b:=λpins s σ H R I q=>h pins s σ H R I (k σ H R q)
theorem kO {X:Cx}{tg x:Expr}{g:En->Me->Rz}(h:PE X x (tOf X.K g)):PI X tg x (iOf X.K g):=by
 refine PI.imp (PI.or (zd8 h) (zgi h)) λσ H R q=>?_;obtain ⟨as,env,m,S,G,P⟩:=q;cases hr:g env m with
 | no=>rw[hr] at P;exact P.elim
 | exc c w m'=>rw[hr] at P;exact P.elim
 | ok w m' =>
  rw[hr] at P;obtain ⟨hs,P⟩:=P;obtain ⟨xs,hs⟩:=Option.isSome_iff_exists.mp hs;cases w with
  | tup ys =>
   refine .inr ⟨as,env,m,S,G,?_⟩;rw[hr];intro as' H' v T S' R';obtain ⟨a,vs,rfl,hq,rr⟩:=rep_tup.mp R';refine ⟨a,rfl,⟨vs,hq⟩,P as' H' _ T S' ⟨vs,λH=>SqT X.K H a vs,⟨λi H h hi=>⟨vs,vs[i],h,by simp[hi]⟩,λi H x H' h hi q=>⟨q.1,q.2 vs h⟩,λi H h hi=>⟨vs,h,hi⟩⟩,hq,rr,λH1 H2 k h=>k.t _ _ h⟩⟩
  | rol ys =>
   refine .inl ⟨as,env,m,S,G,?_⟩;rw[hr];intro as' H' v T S' R';obtain ⟨a,vs,rfl,hq,rr⟩:=rep_rol.mp R';refine ⟨a,rfl,⟨vs,hq.sq⟩,P as' H' _ T S' ⟨vs,λH=>SqF X.K H a vs,⟨λi H h hi=>⟨vs,vs[i],h.sq,by simp[hi]⟩,λi H x H' h hi q=>⟨q.1,q.2 vs h.sq⟩,λi H h hi=>⟨vs,h.sq,hi⟩⟩,hq,rr,λH1 H2 k h=>k.f _ _ h⟩⟩
  | ref l =>
   refine .inl ⟨as,env,m,S,G,?_⟩;rw[hr];intro as' H' v T S' R';obtain ⟨a,ha,rfl⟩:=rep_ref.mp R';obtain ⟨a',us,ha',e,_⟩:=ye S' (zM hs);rw[ha] at ha';cases ha';exact ⟨a,rfl,⟨us,SqL.of e⟩,P as' H' _ T S' ⟨a,ha,rfl⟩⟩
  | non=>cases hs
  | bl b=>cases hs
  | int i=>cases hs
  | str x=>cases hs
theorem kP {K:PySem.W.Frag}{as:List Addr}{H:Hp}(st:Int):∀ (n:Nat) (lo:Int),RepL K as H (qU lo st n) ((List.range n).map λ(i:Nat)=>V.int (lo+st * (i:Int)))
 | 0,lo=>repL_nil.mpr rfl
 | n+1,lo=>by
  rw[List.range_succ_eq_map,List.map_cons,List.map_map];refine repL_cons.mpr ⟨_,_,rfl,rep_int.mpr (by simp),?_⟩;have e:((λ(i:Nat)=>V.int (lo+st * (i:Int))) ∘ Nat.succ)=λ(i:Nat)=>V.int (lo+st+st * (i:Int)):=by
   funext i;show V.int (lo+st * ((i.succ:Nat):Int))=_;congr 1;rw[Nat.succ_eq_add_one,Int.natCast_add,Int.mul_add];lia
  rw[e];exact kP st n (lo+st)
theorem zbH {K:PySem.W.Frag}(lo:Int)(n:Nat):SeqIt (Itr lo n) ((List.range n).map λ(i:Nat)=>V.int (lo+1 * (i:Int))) (λ_=>True):=by
 refine ⟨λi H _ hi=>?_,λi H x H' _ hi q=>?_,λi H _ hi=>?_⟩
 .show i < n;simpa using hi
 .obtain ⟨e,rfl⟩:=q;refine ⟨e,?_⟩;have hi':i < n:=by simpa using hi
  rw[List.getElem?_map,List.getElem?_range hi'];simp
 .show n<=i;simpa using hi
end Mini
namespace L2
open PySem PySem.Spec PyProof.Rows
section
variable {κ:Type}[DecidableEq κ]
noncomputable def xR (kvs:List (κ×V))(k:κ):Option V:=(kvs.find? λkv=>decide (kv.1=k)).map (·.2)
noncomputable def gZ (kvs:List (κ×V))(k:κ)(v:V):List (κ×V) :=
 if (kvs.any λkv=>decide (kv.1=k))=true then kvs.map (λkv=>if kv.1=k then (kv.1,v) else kv) else kvs++[(k,v)]
theorem xF {p:κ×V}{r:List (κ×V)}{k:κ}(e:p.1=k):xR (p::r) k=some p.2:=by simp[xR,List.find?_cons,e]
theorem x6 {p:κ×V}{r:List (κ×V)}{k:κ}(e:¬ p.1=k):xR (p::r) k=xR r k:=by simp[xR,List.find?_cons,e]
theorem kQ (k:κ):∀kvs:List (κ×V),(kvs.any λkv=>decide (kv.1=k))=(xR kvs k).isSome
 | []=>rfl
 | p::r=>by
  rw[List.any_cons];by_cases e:p.1=k
  .simp only[xF e,decide_eq_true e,Bool.true_or,Option.isSome_some]
  .rw[x6 e,decide_eq_false e,Bool.false_or];exact kQ k r
theorem zcz {kvs:List (κ×V)}{k:κ}(v:V)(h:xR kvs k=none):gZ kvs k v=kvs++[(k,v)]:=by
 unfold gZ;rw[kQ,h];exact if_neg (by decide)
theorem KV.val {kvs:List (κ×V)}{vs:List (κ×Value)}(r:KV kvs vs)(k:κ):RelO (xR kvs k) (valueAt vs k):=by
 unfold KV at r
 induction r with
 | nil=>exact True.intro
 | @cons p q ps qs h t ih =>
  obtain ⟨h1,h2⟩:=h;by_cases e:p.1=k
  .have e':q.1=k:=h1.symm.trans e;have b:valueAt (q::qs) k=some q.2:=by simp[valueAt,List.find?_cons,e']
   rw[xF e,b];exact h2
  .have e':¬ q.1=k:=λz=>e (h1.trans z);have b:valueAt (q::qs) k=valueAt qs k:=by simp[valueAt,List.find?_cons,e']
   rw[x6 e,b];exact ih
theorem KV.any {kvs:List (κ×V)}{vs:List (κ×Value)}(r:KV kvs vs)(k:κ):(kvs.any λkv=>decide (kv.1=k))=vs.any λkv=>decide (kv.1=k):=by
 unfold KV at r
 induction r with
 | nil=>rfl
 | cons h t ih=>rw[List.any_cons,List.any_cons,ih,h.1]
theorem KV.repl {kvs:List (κ×V)}{vs:List (κ×Value)}(r:KV kvs vs)(k:κ){y:V}{u:Value}(ry:RelV y u):
  KV (kvs.map λkv=>if kv.1=k then (kv.1,y) else kv) (vs.map λkv=>if kv.1=k then (kv.1,u) else kv):=by
 unfold KV at r ⊢
 induction r with
 | nil=>exact .nil
 | @cons p q ps qs h t ih =>
  rw[List.map_cons,List.map_cons];refine .cons ?_ ih;obtain ⟨h1,h2⟩:=h;by_cases e:p.1=k
  .rw[if_pos e,if_pos (h1.symm.trans e)];exact ⟨h1,ry⟩
  .rw[if_neg e,if_neg (λz=>e (h1.trans z))];exact ⟨h1,h2⟩
theorem KV.put {kvs:List (κ×V)}{vs:List (κ×Value)}(r:KV kvs vs)(k:κ){y:V}{u:Value}(ry:RelV y u):KV (gZ kvs k y) (stored vs k u):=by
 unfold gZ stored;rw[r.any k];by_cases e:(vs.any λkv=>decide (kv.1=k))=true
 .rw[if_pos e,if_pos e];exact r.repl k ry
 .rw[if_neg e,if_neg e];exact Paired.snoc r ⟨rfl,ry⟩
theorem KV.keys {kvs:List (κ×V)}{vs:List (κ×Value)}(r:KV kvs vs):kvs.map (·.1)=vs.map (·.1):=by
 unfold KV at r
 induction r with
 | nil=>rfl
 | cons h t ih=>rw[List.map_cons,List.map_cons,ih,h.1]
theorem KV.length {kvs:List (κ×V)}{vs:List (κ×Value)}(r:KV kvs vs):kvs.length=vs.length:=Paired.length r
end
theorem zcA {P:Program}{w:World}{k:Key}{u:Value}(r:RelV (kV k) u):(zQ P w).is k u=true:=by
 cases k with
 | inl i=>obtain ⟨t,e⟩:=(show ∃t,u=Value.int i t from r);subst e;exact gD P w i t
 | inr x=>obtain ⟨t,e⟩:=(show ∃t,u=Value.str x t from r);subst e;exact gE P w x t
section
variable {P:Program}{w:World}{H:Hp}{h:Heap}{a:Addr}
theorem ziz {u:HO}(ok:HOk P w H h)(e:Rd H a u):ObjOk P w H h a u:=e.ok ok
theorem ziA {kvs:List (Key×V)}(ok:HOk P w H h)(e:Rd H a (.dK kvs)):kvs.length<=sizeLine/\(a == sysModules)=false/\∃vs,KV kvs vs/\h.DictOf (zQ P w) a vs :=
 show ObjOk P w H h a (.dK kvs) from ziz ok e
theorem ziB {kvs:List (Key×V)}(ok:HOk P w H h)(e:H a=some (.dK kvs)):kvs.length<=sizeLine/\(a == sysModules)=false/\∃vs,KV kvs vs/\h.DictOf (zQ P w) a vs:=ziA ok (.inl e)
end
section
variable {X:Cx}{pins:List (Addr×Obj)}{σ:St}{H:Hp}{s:Shared}{a:Addr}
theorem Inv.big (I:Inv X pins σ H s):sysModules < s.heap.objs.size:=by
 have h:mainGlobals < s.heap.objs.size:=(I.mod.glob.keeps I.bk).lt;exact Nat.lt_trans (by decide) h
theorem zeo {h':Heap}{t':Nat}{ob:HO}(I:Inv X pins σ H s)(mu:Mut (H a))(hs:Heap.SameBut a s.heap h')(he:∃q,h'.get? a=some q)(new:ObjOk X.prog X.w (upd H a ob) h' a ob):
  Inv X pins σ (upd H a ob) { s with heap:=h',toks:=t' } :=
 I.write (x:=a) (e:=a) mu (.inl rfl) (λb q hb z=>(hs.2 b hb).trans z) he new
end
theorem zcB {P:Program}{w:World}{H:Hp}(h:Heap)(hb:sysModules < h.objs.size):ObjOk P w H (h.push { cls:=.type "dict",data:=.dict #[] }) h.objs.size (.dK []) :=
 ⟨Nat.zero_le _,beq_eq_false_iff_ne.mpr (Ne.symm (Nat.ne_of_lt hb)),[],.nil,Heap.DictOf.new h⟩
def qX:List (TE×TE)->St->Hp->(List (V×V)->Hp->Prop)->Prop
 | [],_,H,Q=>Q [] H
 | (tk,tv)::r,σ,H,Q=>tk σ H λx H1=>tv σ H1 λy H2=>qX r σ H2 λps H3=>Q ((x,y)::ps) H3
abbrev VV:List (V×V)->List (Value×Value)->Prop:=Paired λp q=>RelV p.1 q.1/\RelV p.2 q.2
def PPs (X:Cx)(pos:Pos)(keys:List (Option Expr))(values:List Expr)(trs:List (TE×TE)):Prop :=
 ∀ (pins:List (Addr×Obj)) (s:Shared) (σ:St) (H:Hp) (Q:List (V×V)->Hp->Prop),Inv X pins σ H s->qX trs σ H Q ->
  wpAny (model X.prog X.w) X.A (evalPairs (pairTrees keys values X.env pos)) (λvs s'=>∃ps H',Inv X pins σ H' s'/\VV ps vs/\Q ps H') X.xe s
theorem zep {X:Cx}{pos:Pos}:PPs X pos [] [] []:=λpins s σ H Q I h=>pairTrees_nil_walk ⟨[],H,I,.nil,h⟩
theorem wU {X:Cx}{pos:Pos}{k v:Expr}{ks:List (Option Expr)}{vs:List Expr}{tk tv:TE}{trs:List (TE×TE)}(hk:PE X k tk)(hv:PE X v tv)(hr:PPs X pos ks vs trs):
  PPs X pos (some k::ks) (v::vs) ((tk,tv)::trs):=λpins s σ H Q I h =>
 pairTrees_cons_walk (thn (hk pins s σ H _ I h) λu s1 ⟨x,H1,I1,rx,q1⟩=>thn (hv pins s1 σ H1 _ I1 q1) λw2 s2 ⟨y,H2,I2,ry,q2⟩ =>
  thn (hr pins s2 σ H2 _ I2 q2) λws s3 ⟨ps,H3,I3,rel,q3⟩=>⟨(x,y)::ps,H3,I3,.cons ⟨rx,ry⟩ rel,q3⟩)
noncomputable def wM (kvs more:List (Key×V)):List (Key×V):=more.foldl (λacc kv=>gZ acc kv.1 kv.2) kvs
theorem KV.merge:∀ {more:List (Key×V)}{rs:List (Key×Value)}{kvs:List (Key×V)}{vs:List (Key×Value)},KV more rs->KV kvs vs->KV (wM kvs more) (merged vs rs):=by
 intro more rs kvs vs r;unfold KV at r
 induction r generalizing kvs vs with
 | nil=>intro q;exact q
 | @cons p q ps qs h t ih =>
  intro r0;have e:KV (gZ kvs p.1 p.2) (stored vs q.1 q.2):=by
   have:=r0.put p.1 h.2;rw[<- h.1];exact this
  exact ih e
theorem kR {P:Program}{w:World}:∀ {kvs:List (Key×V)}{ws:List (Value×Value)},VV (kvs.map λkv=>(kV kv.1,kv.2)) ws->∃rs,Carries (zQ P w) ws rs/\KV kvs rs
 | [],_,r=>by rw[List.map_nil] at r;cases r;exact ⟨[],True.intro,.nil⟩
 | p::kvs,_,r=>by
  rw[List.map_cons] at r;cases r with
  | @cons a b as bs h t =>
   obtain ⟨rs,c,q⟩:=kR (P:=P) (w:=w) t;obtain ⟨b1,b2⟩:=b;exact ⟨(p.1,b2)::rs,⟨zcA h.1,rfl,c⟩,.cons ⟨rfl,h.2⟩ q⟩
noncomputable def x0 (d:Addr)(o:Obj):HO:=.ext λh=>h.get? d=some o
def FO (P:Program)(w:World)(d:Addr)(o:Obj)(ep:Nat)(kvs:List (Key×V)):Prop :=
 (d == sysModules)=false/\∃es vs,o.ExactDict/\o.data=.dict es ep/\KeysOf (zQ P w) es/\Pairs (zQ P w) es.toList vs/\(vs.map (·.1)).Nodup/\KV kvs vs
theorem FO.at {P:Program}{w:World}{d:Addr}{o:Obj}{ep:Nat}{kvs:List (Key×V)}(f:FO P w d o ep kvs){h:Heap}(e:h.get? d=some o):∃vs,KV kvs vs/\h.DictAt (zQ P w) d vs ep:=by
 obtain ⟨_,es,vs,a,b,c,g,n,r⟩:=f;exact ⟨vs,r,o,es,e,a,b,c,g,n⟩
theorem zeq {P:Program}{w:World}{k:Key}{u:Value}(h:(zQ P w).is k u=true):RelV (kV k) u:=by
 cases k with
 | inl i=>exact Value.isInt_shape h
 | inr x=>exact Value.isStrOf_shape h
section
variable {X:Cx}{pins:List (Addr×Obj)}{σ:St}{H:Hp}{s:Shared}
theorem j3 (I:Inv X pins σ H s){d:Addr}{o:Obj}(h:H d=some (x0 d o)):s.heap.get? d=some o:=(I.hok d _ h).1
noncomputable def Itf (d:Addr)(o:Obj)(kvs:List (Key×V)):It :=
 ⟨λi H=>H d=some (x0 d o)/\i < kvs.length,λi H x H'=>H'=H/\∃kv,kvs[i]?=some kv/\x=kV kv.1,λi H=>H d=some (x0 d o)/\kvs.length<=i⟩
theorem zgK {kvs:List (Key×V)}{vs:List (Key×Value)}(r:KV kvs vs){i:Nat}(hi:i < kvs.length):∃k v u,kvs[i]?=some (k,v)/\vs[i]?=some (k,u):=by
 have hk:=r.keys;have hl:=r.length;have hi':i < vs.length:=by lia
 refine ⟨kvs[i].1,kvs[i].2,vs[i].2,List.getElem?_eq_getElem hi,?_⟩;rw[List.getElem?_eq_getElem hi'];have e:(kvs.map (·.1))[i]?=(vs.map (·.1))[i]?:=by rw[hk]
 rw[List.getElem?_map,List.getElem?_map,List.getElem?_eq_getElem hi,List.getElem?_eq_getElem hi'] at e;have e:=Option.some.inj e;have e:kvs[i].1=vs[i].1:=e;rw[e]
theorem qY {P:Program}{w:World}{K:PySem.W.Frag}{tg:Expr}{d:Addr}{o:Obj}{ep:Nat}{kvs:List (Key×V)}(f:FO P w d o ep kvs)(it:Addr):Turn P w K tg (Itf d o kvs) [it] it (λi h=>h.IsKeyIter it d i kvs.length ep) where
 mem:=by simp
 obj:=λi h st b hb=>by
  have e:b=it:=by simpa using hb
  subst e;obtain ⟨o,e,c,d⟩:=st;exact ⟨o,e,λv z=>by rw[d] at z;cases z⟩
 keep:=λi h h' st k=>by
  obtain ⟨o,e,r⟩:=st;exact ⟨o,k it (by simp) o e,r⟩
 item:=by
  intro X hP hw hK hc i pins s σ H E I hf st hg;subst hP hw hK;obtain ⟨hq,hi⟩:=hg;obtain ⟨vs,rel,da⟩:=f.at (j3 I hq);obtain ⟨k,v,u,e1,e2⟩:=zgK rel hi;obtain ⟨f0,f1,f2,f3,f4,f5⟩:=hf it (by simp);have hl:=rel.length;rw[hl] at st;refine wpAny_pyNext_dict_item st da e2 λkey h' hk st' sb=>?_;have I1:Inv X pins σ H { s with heap:=h' }:=I.turned (t':=s.toks) (λb o hb e=>(sb.2 b hb).trans e) f0 f1 f3 f4 f5;obtain ⟨o,e,c,dd⟩:=id st';rw[<- hl] at st';exact ⟨key,rfl,zaH (s:={ s with heap:=h' }) e c dd (by decide) ⟨kV k,H,I1,zeq hk,⟨rfl,(k,v),e1,rfl⟩,st',λb hb=>(hf b hb).1⟩⟩
 done:=by
  intro X hP hw hK hc i pins s σ H E I hf st hg;subst hP hw hK;obtain ⟨hq,hi⟩:=hg;obtain ⟨vs,rel,da⟩:=f.at (j3 I hq);obtain ⟨f0,f1,f2,f3,f4,f5⟩:=hf it (by simp);have hl:=rel.length;rw[hl] at st;exact wpAny_pyNext_dict_end (I.ok.hd hc) st da (List.getElem?_eq_none (by lia)) λh' eb=>⟨rfl,I.turned (t':=s.toks) (λb o hb e=>eb b o hb e) f0 f1 f3 f4 f5⟩
 self:=λ_ _ _ _ _ st h=>wpAny_pyIter_keyiter st h
def iFD (X:Cx)(tl:TE):TI:=λσ H R=>tl σ H λx H1=>∃d o ep kvs,x=.ref d/\FO X.prog X.w d o ep kvs/\H1 d=some (x0 d o)/\R (Itf d o kvs) H1
theorem zcC {tg l:Expr}{tl:TE}(hl:PE X l tl):PI X tg l (iFD X tl):=by
 intro pins s σ H R I h;refine thn (hl pins s σ H _ I h) λv s1 ⟨x,H1,I1,r1,q1⟩=>?_;obtain ⟨d,o,ep,kvs,e,f,hq,q⟩:=q1;subst e;cases r1;obtain ⟨vs,rel,da⟩:=f.at (j3 I1 hq);have hl:=rel.length;refine wpAny_pyIter_dict f.1 da ?_;refine ⟨s1.heap.objs.size,[s1.heap.objs.size],_,_,H1,rfl,I1.kept (t':=s1.toks) λb o e=>Heap.get?_push_of_some _ e,qY f _,⟨_,Heap.get?_push_size _ rfl,rfl,by rw[hl];rfl⟩,λb hb=>?_,q⟩;have e:b=s1.heap.objs.size:=by simpa using hb
 subst e;exact I1.fpOk (Nat.le_refl _) (I1.hok.fresh (Nat.le_refl _))
def jJ (X:Cx):R2:=λx y H Q=>∃d o ep kvs k v,x=.ref d/\y=kV k/\FO X.prog X.w d o ep kvs/\H d=some (x0 d o)/\xR kvs k=some v/\Q v H
theorem ix_F:IxR X (jJ X):=by
 intro value slice pins s σ H x y v u Q I rx ry h hs;obtain ⟨d,o,ep,kvs,k,z,rfl,rfl,f,hq,hv,q⟩:=h;cases rx;obtain ⟨vs,rel,da⟩:=f.at (j3 I hq);obtain ⟨w',hw,rw'⟩:=zj2 (v:=z) (o:=valueAt vs k) (by rw[<- hv];exact rel.val k);exact subscriptTail_builtinR (x:=w') da.dictOf.typeIs slot_dict_getitem.lookup
  (wpAny_getItem_of (Q:=λr s'=>r=w'/\EP X pins σ Q r s') (zcA ry) da.dictOf.mapOf hw ⟨rfl,z,H,I.tok _,rw',q⟩) hs
theorem jK {kvs:List (Key×V)}(h:(kvs.map (·.1)).Nodup):∀ {ps:List (Key×V)},((ps++kvs).map (·.1)).Nodup->wM ps kvs=ps++kvs:=by
 induction kvs with
 | nil=>intro ps _;simp[wM]
 | cons a r ih =>
  intro ps hn;have hp:xR ps a.1=none:=by
   cases hz:xR ps a.1 with
   | none=>rfl
   | some y =>
    exfalso;have hs:(xR ps a.1).isSome=true:=by rw[hz];rfl
    rw[<- kQ,List.any_eq_true] at hs;obtain ⟨q,hq,he⟩:=hs;have he:=of_decide_eq_true he;rw[List.map_append,List.nodup_append] at hn;exact hn.2.2 q.1 (List.mem_map_of_mem hq) a.1 (by simp) he
  show wM (gZ ps a.1 a.2) r=_;rw[zcz _ hp,ih (by simpa using (List.nodup_cons.mp (by simpa using h)).2) (ps:=ps++[(a.1,a.2)]) (by simpa using hn)];simp
def zgL (X:Cx)(trs:List (TE×TE)):TE:=λσ H Q=>∀p,H p=none->qX trs σ (upd H p (.dK [])) λps H2=>H2 p=some (.dK [])/\∃kvs:List (Key×V),ps=kvs.map (λkv=>(kV kv.1,kv.2))/\kvs.length<=15/\(kvs.map (·.1)).Nodup/\∀o ep,FO X.prog X.w p o ep kvs->Q (.ref p) (upd H2 p (x0 p o))
theorem zcD {pos:Pos}{keys:List (Option Expr)}{values:List Expr}{trs:List (TE×TE)}(h:PPs X pos keys values trs)(hall:keys.all (·.isSome)=true)(hl:keys.length=values.length)(h0:keys≠[])
  (h15:keys.length<=15):PE X (.Dict keys values pos) (zgL X trs):=by
 intro pins s σ H Q I q;have hn:=I.hok.fresh (Nat.le_refl s.heap.objs.size);have I1:=I.laid (a:=s.heap.objs.size) (o:=.dK []) (h':=s.heap.push { cls:=.type "dict",data:=.dict #[] }) (t':=s.toks) (λ_ _ q=>Heap.get?_push_of_some _ q) (Nat.le_refl _) (zcB s.heap I.big);refine wpAny_Dict_walk (knd:=zQ X.prog X.w) hall hl h0 h15 (thn (h pins _ σ _ _ I1 (q _ hn)) λws s2 ⟨ps,H2,I2,rel,e,kvs,ep,lk,nd,q2⟩=>?_);subst ep;obtain ⟨rs,c,rk⟩:=kR (P:=X.prog) (w:=X.w) rel;obtain ⟨z,hd,vs0,r0,dd⟩:=ziB I2.hok e;cases r0;refine ⟨rs,c,dd,λh' dd' hs=>?_⟩;have rm:=rk.merge (kvs:=[]) (vs:=[]) .nil;rw[jK nd (ps:=[]) (by simpa using nd)] at rm;obtain ⟨o,es,ep,b1,b2,b3,b4,b5,b6⟩:=dd';refine ⟨.ref s.heap.objs.size,_,?_,rfl,q2 o ep ⟨hd,es,_,b2,b3,b4,b5,b6,rm⟩⟩;exact zeo I2 (by rw[e];exact True.intro) hs ⟨_,b1⟩ ⟨b1,⟨_,b1⟩,λh1 h2 hx k=>k o hx⟩
end
def zer (K:PySem.W.Frag)(b:Addr)(xs:List V):Prop :=
 ∃ (o:Obj) (its:Array Value) (n:Nat),K.lookup b=some o/\o.cls=.type "tuple" /\ o.data=.seq its n/\its.size<=sizeLine/\Vals xs its.toList
abbrev Dcn:=List (List Nat×Int×Int)
def DcE (K:PySem.W.Frag)(w:World):List DictEntry->Dcn->Prop
 | [],q=>q=[]
 | e::es,q=>∃k x y r t b,q=(k,x,y)::r/\e.key=.str ⟨k.toArray⟩ t/\e.hash=hashStr w ⟨k.toArray⟩/\e.val=.ref b/\zer K b [.int x,.int y]/\DcE K w es r
def zcE (K:PySem.W.Frag)(w:World)(a:Addr)(q:Dcn):Prop :=
 (a == sysModules)=false/\∃o es ep,K.lookup a=some o/\o.ExactDict/\o.data=.dict es ep/\DcE K w es.toList q
def DcV (K:PySem.W.Frag):List (Key×V)->Dcn->Prop
 | [],q=>q=[]
 | kv::kvs,q=>∃k x y r b,q=(k,x,y)::r/\kv=(Sum.inr ⟨k.toArray⟩,.ref b)/\zer K b [.int x,.int y]/\DcV K kvs r
theorem zcF {K:PySem.W.Frag}{P:Program}{w:World}:∀ (es:List DictEntry) (q:Dcn),DcE K w es q ->
  ∃kvs vs,(∀e∈es,∃k,(zQ P w).is k e.key=true/\e.hash=(zQ P w).hash k)/\Pairs (zQ P w) es vs/\KV kvs vs/\vs.map (·.1)=q.map (λz=>(Sum.inr ⟨z.1.toArray⟩:Key))/\DcV K kvs q
 | [],q,h=>by
  cases (show q=[] from h);exact ⟨[],[],by simp,.nil,.nil,rfl,rfl⟩
 | e::es,q,h=>by
  obtain ⟨k,x,y,r,t,b,rfl,h1,h2,h3,h4,h5⟩:=h;obtain ⟨kvs,vs,g1,g2,g3,g4,g5⟩:=zcF (P:=P) es r h5;have hk:(zQ P w).is (Sum.inr ⟨k.toArray⟩) e.key=true:=by rw[h1];exact jt _ t
  refine ⟨(Sum.inr ⟨k.toArray⟩,.ref b)::kvs,(Sum.inr ⟨k.toArray⟩,.ref b)::vs,λe' he=>?_,.cons hk h3 g2,.cons ⟨rfl,rfl⟩ g3,?_,k,x,y,r,b,rfl,rfl,h4,g5⟩
  .rcases List.mem_cons.mp he with rfl | he
   .exact ⟨_,hk,h2⟩
   .exact g1 e' he
  .rw[List.map_cons,List.map_cons,g4]
theorem ziC {K:PySem.W.Frag}{P:Program}{w:World}{a:Addr}{q:Dcn}(h:zcE K w a q)(nd:(q.map (·.1)).Nodup):∃o ep kvs,K.lookup a=some o/\FO P w a o ep kvs/\DcV K kvs q:=by
 obtain ⟨h0,o,es,ep,h1,h2,h3,h4⟩:=h;obtain ⟨kvs,vs,g1,g2,g3,g4,g5⟩:=zcF (P:=P) _ _ h4;refine ⟨o,ep,kvs,h1,⟨h0,es,vs,h2,h3,λe he=>g1 e (Array.mem_toList_iff.mpr he),g2,?_,g3⟩,g5⟩;rw[g4];refine List.Pairwise.map _ (λx y hxy=>?_) (List.pairwise_map.mp nd);intro e;injection e with e
 injection e with e
 exact hxy (by simpa using congrArg Array.toList e)
section
variable {X:Cx}{pins:List (Addr×Obj)}{σ:St}{H:Hp}{s:Shared}
def ziD (X:Cx):R2:=λx y H Q=>∃d o ep kvs k v,x=.ref d/\y=kV k/\FO X.prog X.w d o ep kvs/\X.K.lookup d=some o/\xR kvs k=some v/\Q v H
theorem ix_K:IxR X (ziD X):=by
 intro value slice pins s σ H x y v u Q I rx ry h hs;obtain ⟨d,o,ep,kvs,k,z,rfl,rfl,f,hq,hv,q⟩:=h;cases rx;obtain ⟨vs,rel,da⟩:=f.at (I.kIn d o hq);obtain ⟨w',hw,rw'⟩:=zj2 (v:=z) (o:=valueAt vs k) (by rw[<- hv];exact rel.val k);exact subscriptTail_builtinR (x:=w') da.dictOf.typeIs slot_dict_getitem.lookup
  (wpAny_getItem_of (Q:=λr s'=>r=w'/\EP X pins σ Q r s') (zcA ry) da.dictOf.mapOf hw ⟨rfl,z,H,I.tok _,rw',q⟩) hs
end
end L2
namespace Mini
open PySem PySem.Spec PyProof.Rows L2
set_option genInjectivity false in
structure Ctx where
 fns:List Str
 cons:List (Str×Int)
 dcs:List (Str×Dcn)
set_option genInjectivity false in
inductive Nd where
 | e (x:Expr) | a (xs:List Expr)
noncomputable def glB (sc:Scope)(x:Str):Bool:=decide (sc.names.lookup x=some .globalImplicit)
noncomputable def g0 (sc:Scope)(x:Str):Bool:=decide (sc.names.lookup x=some .local) || (decide (sc.names.lookup x=some .cell) || decide (sc.names.lookup x=some .free))
noncomputable def yx (x:Str):Bool:=!(x == ("__debug__" : Str)) && !(x == ("__classdict__" : Str)) && !(x == ("__name__" : Str))
noncomputable def zA:Expr->Bool
 | .Starred _ _=>false
 | _=>true
noncomputable def yH:Expr->Bool
 | .Set _ _ _=>false
 | _=>true
noncomputable def yY:Expr->Bool
 | .Slice _ _ _ _=>false
 | _=>true
noncomputable def wV:Expr->Bool
 | .Call _ _ _ _=>false
 | _=>true
noncomputable def zo:Ex->Bool
 | .rng _ _ _=>true
 | _=>false
noncomputable def jq:Ex->Bool
 | .ife _ _ _=>true
 | _=>false
noncomputable def yI (scope sc:Scope):Scope :=
 { scope with names:=scope.names.map λ(n,k)=>if (k == .free && sc.kind == .function && sc.names.lookup n == some .cell) then (n,.cell) else (n,k) }
noncomputable def x8 (sc:Scope)(N:List Str)(scope:Scope)(xs:List Str):Bool :=
 decide (scope.kind=.function) && (xs.all (λx=>decide (scope.names.lookup x=some .local) || decide (scope.names.lookup x=some .cell)) &&
 (scope.names.all (λy=>!(decide (y.2=.local)) || decide (scope.names.lookup y.1=some .local)) &&
 (scope.names.all (λy=>!(decide (y.2=.free)) || (decide (sc.names.lookup y.1=some .cell) || decide (sc.names.lookup y.1=some .free))) &&
 (scope.names.all (λy=>!(decide (y.2=.cell)) || !(decide (scope.names.lookup y.1=some .free))) &&
 (N.all (λy=>decide (y∈xs) || (!(decide (scope.names.lookup y=some .local)) && !(decide (scope.names.lookup y=some .cell)))) &&
 (decide (yD N xs).Nodup && xs.all (λx=>decide (scope.names.lookup (dum x)=none))))))))
theorem yE {X:Cx}{scope:Scope}{xs:List Str}(h:x8 X.env.scope X.N scope xs=true):BlockOk X scope xs:=by
 unfold x8 at h;simp only[Bool.and_eq_true,Bool.or_eq_true,decide_eq_true_eq,List.all_eq_true,Bool.not_eq_true',decide_eq_false_iff_not] at h;obtain ⟨h1,h2,h3,h4,h5,h6,h7,h8⟩:=h;refine ⟨h1,h2,λy hy e=>?_,λy hy e=>?_,λy hy e=>?_,λy hy e=>?_,h7,h8⟩
 .rcases h3 y hy with z | z
  .exact absurd e z
  .exact z
 .rcases h4 y hy with z | z
  .exact absurd e z
  .exact z
 .rcases h6 y hy with z | z
  .exact absurd z e
  .exact z
 .rcases h5 y hy with z | z
  .exact absurd e z
  .exact z
def j4 (K:PySem.W.Frag)(g:List Wd->Me->Rz):Sp:=λvs H Q _=>∃as m ws,Sim K as m H/\RepL K as H ws vs/\Post K as H Q (g ws m)
noncomputable def zC:List Str:=["len", "int", "bool", "list", "tuple", "abs", "max", "min", "isinstance", "range", "str", "dict", "sum", "all", "zip", "enumerate", "sorted"]
def g6 (K:PySem.W.Frag)(w:World)(mg:Str->Option Value)(C:Ctx):Prop:=(∀ (nm:Str) (i:Int),C.cons.lookup nm=some i->∃t,mg nm=some (.int i t))/\∀ (nm:Str) (q:Dcn),C.dcs.lookup nm=some q->∃a,mg nm=some (.ref a)/\zcE K w a q
structure CtxOk (C:Ctx)(X:Cx)(cl:Nat->List Wd->Me->Rz)(d:Nat):Prop where
 room:Room d X.A
 calm:X.calm=true
 fn:∀ (k:Nat) (nm:Str),C.fns[k]?=some nm->∃f fd ps,X.mg nm=some (.ref f)/\PySem.W.keepIn X.K (.ref f)=true/\Binds X.K fd ps []/\FnOk X.prog X.w X.K X.mg X.base CX0 d f fd ps (j4 X.K (cl k))
 con:g6 X.K X.w X.mg C
 blt:∀nm∈zC,X.mg nm=none
theorem CtxOk.comp {C:Ctx}{X Xc:Cx}{cl:Nat->List Wd->Me->Rz}{d:Nat}{scope:Scope}{x:List Str}(h:CtxOk C X cl d)(c:CompOf X scope x Xc):CtxOk C Xc cl d:=by
 refine ⟨by rw[c.A];exact h.room,c.calm,λk nm e=>?_,?_,λnm e=>?_⟩
 .obtain ⟨f,fd,ps,h1,h2,h3,h4⟩:=h.fn k nm e;exact ⟨f,fd,ps,by rw[c.mg];exact h1,by rw[c.K];exact h2,by rw[c.K];exact h3,by rw[c.prog,c.w,c.K,c.mg,c.base];exact h4⟩
 .rw[c.mg,c.K,c.w];exact h.con
 .rw[c.mg];exact h.blt nm e
def PostA (K:PySem.W.Frag)(as:List Addr)(H:Hp)(Q:List V->Hp->Prop)(r:Rz):Prop:=match r with
 | .ok w m'=>∀as' H' vs,Step as H as' H'->Sim K as' m' H'->RepL K as' H' (zn w) vs->Q vs H'
 | _=>False
def kS (K:PySem.W.Frag)(g:En->Me->Rz):TA:=λσ H Q=>∃as env m,Sim K as m H/\EnvRep K as H env σ/\PostA K as H Q (g env m)
theorem PostA.bind {K:PySem.W.Frag}{as:List Addr}{H:Hp}{Q:VK}{Q1:List V->Hp->Prop}{r:Rz}{f:Wd->Me->Rz}(h:Post K as H Q (r.bind f))
  (k:∀w m' as' H' vs,Step as H as' H'->Sim K as' m' H'->RepL K as' H' (zn w) vs->Post K as' H' Q (f w m')->Q1 vs H'):PostA K as H Q1 r:=by
 cases r with
 | ok w m'=>exact λas2 H2 v U S R=>k w m' as2 H2 v U S R (Post.step (r:=f w m') h U)
 | exc c w m'=>exact h
 | no=>exact h
def Snd (cl:Nat->List Wd->Me->Rz)(X:Cx)(e:Ex):Nd->Prop
 | .e x=>(zo e=false->PE X x (tOf X.K (evE cl e))/\(jq e=false->PT X x (xu X.K (evE cl e)))/\(∀op vs pos,x=.BoolOp op vs pos->PW X x (xu X.K (evE cl e))))/\∀tg,PI X tg x (iOf X.K (evE cl e))
 | .a xs=>PA X xs (kS X.K (evE cl e))
theorem Snd.of {cl:Nat->List Wd->Me->Rz}{X:Cx}{e:Ex}{x:Expr}(h:PE X x (tOf X.K (evE cl e)))(ht:∀whole,isTrue x X.env whole=(do let v <- whole;standAt x.pos;holding [v] (truthy v)):=by intro _;rfl)
  (hb:∀op vs pos,x≠.BoolOp op vs pos:=by intros;intro z;cases z):Snd cl X e (.e x) :=
 ⟨λ_=>⟨h,λ_=>zf5 h ht,λop vs pos z=>absurd z (hb op vs pos)⟩,λtg=>kO h⟩
theorem zm {e:Expr}{es:List Expr}{env:Env}(h:zA e=true):starEach (e::es) env=(false,eval e env)::starEach es env:=by
 cases e <;> first | rfl | cases h
theorem yZ {pos:Pos}{env:Env}:∀ {es:List Expr},es.all zA=true->(backTo pos (starEach es env)).any (·.1)=false
 | [],_=>rfl
 | e::es,h=>by
  rw[List.all_cons,Bool.and_eq_true] at h;rw[zm h.1];show (false || (backTo pos (starEach es env)).any (·.1))=false;rw[yZ h.2];rfl
section
variable {cl:Nat->List Wd->Me->Rz}{X:Cx}{a b c:Ex}{x y:Expr}{pos:Pos}
theorem zgM {op:Bo}(ha:PE X x (tOf X.K (evE cl a)))(hb:PE X y (tOf X.K (evE cl b))):PE X (.BinOp x (opK op) y pos) (tOf X.K (evE cl (.bin op a b))):=by
 refine PE.imp (zib (ziv op) ha hb) λσ H Q h=>?_;obtain ⟨as,env,m,S,G,P⟩:=h;refine ⟨as,env,m,S,G,Post.bind P λx m1 as1 H1 v T1 S1 R1 P1=>?_⟩;refine ⟨as1,env,m1,S1,G.mono S T1,Post.bind P1 λy m2 as2 H2 u T2 S2 R2 P2=>?_⟩;exact zgE S2 (R1.mono S1 T2) R2 P2
theorem zgN (ha:PE X x (tOf X.K (evE cl a))):PE X (.UnaryOp .USub x pos) (tOf X.K (evE cl (.neg a))):=by
 refine PE.imp (zic zgs ha) λσ H Q h=>?_;obtain ⟨as,env,m,S,G,P⟩:=h;refine ⟨as,env,m,S,G,Post.bind P λx m1 as1 H1 v T1 S1 R1 P1=>?_⟩;cases x with
 | int i =>
  obtain rfl:=rep_int.mp R1;exact ⟨i,rfl,P1.ok S1 (rep_int.mpr rfl)⟩
 | _=>exact P1.elim
theorem zcG (ha:PE X x (tOf X.K (evE cl a))):PE X (.UnaryOp .Not x pos) (tOf X.K (evE cl (.not a))):=by
 refine PE.imp (zga ha) λσ H Q h=>?_;obtain ⟨as,env,m,S,G,P⟩:=h;refine ⟨as,env,m,S,G,Post.bind P λx m1 as1 H1 v T1 S1 R1 P1=>?_⟩;cases x with
 | bl k =>
  obtain rfl:=rep_bl.mp R1;exact ⟨k,rfl,P1.ok S1 (rep_bl.mpr rfl)⟩
 | _=>exact P1.elim
theorem zgO (ha:PT X x (xu X.K (evE cl a))):PT X (.UnaryOp .Not x pos) (xu X.K (evE cl (.not a))):=by
 refine PT.imp (zf8 ha) λσ H Q h=>?_;obtain ⟨as,env,m,S,G,P⟩:=h;refine ⟨as,env,m,S,G,Post.bind P λx m1 as1 H1 v T1 S1 R1 P1=>?_⟩;cases x with
 | bl k =>
  obtain rfl:=rep_bl.mp R1;obtain ⟨b,e,q⟩:=P1.ok S1 (rep_bl.mpr rfl);cases e;exact ⟨k,rfl,q⟩
 | _=>exact P1.elim
theorem g7 {K:PySem.W.Frag}{σ:St}{H:Hp}{Q:VK}(h:tOf K (evE cl (.and a b)) σ H Q):tOf K (evE cl a) σ H λx H1=>∃k,x=.bl k/\if k=true then tOf K (evE cl b) σ H1 Q else Q (.bl false) H1:=by
 obtain ⟨as,env,m,S,G,P⟩:=h;refine ⟨as,env,m,S,G,Post.bind P λx m1 as1 H1 v T1 S1 R1 P1=>?_⟩;cases x with
 | bl k =>
  obtain rfl:=rep_bl.mp R1;refine ⟨k,rfl,?_⟩;cases k with
  | true=>exact gM ⟨as1,env,m1,S1,G.mono S T1,P1⟩
  | false=>exact gL (P1.ok S1 (rep_bl.mpr rfl))
 | _=>exact P1.elim
theorem zaT {K:PySem.W.Frag}{σ:St}{H:Hp}{Q:VK}(h:tOf K (evE cl (.or a b)) σ H Q):tOf K (evE cl a) σ H λx H1=>∃k,x=.bl k/\if k=true then Q (.bl true) H1 else tOf K (evE cl b) σ H1 Q:=by
 obtain ⟨as,env,m,S,G,P⟩:=h;refine ⟨as,env,m,S,G,Post.bind P λx m1 as1 H1 v T1 S1 R1 P1=>?_⟩;cases x with
 | bl k =>
  obtain rfl:=rep_bl.mp R1;refine ⟨k,rfl,?_⟩;cases k with
  | false=>exact gL ⟨as1,env,m1,S1,G.mono S T1,P1⟩
  | true=>exact gM (P1.ok S1 (rep_bl.mpr rfl))
 | _=>exact P1.elim
theorem g8 {K:PySem.W.Frag}{g:En->Me->Rz}{σ:St}{H:Hp}{Q Q':VK}(h:tOf K g σ H Q)(k:∀v H,Q v H->Q' v H):tOf K g σ H Q':=by
 obtain ⟨as,env,m,S,G,P⟩:=h;refine ⟨as,env,m,S,G,?_⟩;cases hr:g env m with
 | ok w m'=>rw[hr] at P;exact λas' H' v T S' R=>k _ _ (P as' H' v T S' R)
 | exc c w m'=>rw[hr] at P;exact P
 | no=>rw[hr] at P;exact P
theorem zgP {r:List Expr}(ha:PE X x (tOf X.K (evE cl a)))(hb:PE X (.BoolOp .And (y::r) pos) (tOf X.K (evE cl b))):PE X (.BoolOp .And (x::y::r) pos) (tOf X.K (evE cl (.and a b))) :=
 PE.imp (zf9 ha hb) λσ H Q h=>g7 h
theorem ziE {r:List Expr}(ha:PE X x (tOf X.K (evE cl a)))(hb:PE X (.BoolOp .Or (y::r) pos) (tOf X.K (evE cl b))):PE X (.BoolOp .Or (x::y::r) pos) (tOf X.K (evE cl (.or a b))) :=
 PE.imp (zh1 ha hb) λσ H Q h=>zaT h
theorem PW.imp {e:Expr}{t t':TT}(h:PW X e t)(k:∀σ H Q,t' σ H Q->t σ H Q):PW X e t':=λwhole pins s σ H Q I q=>h whole pins s σ H Q I (k σ H Q q)
theorem zgQ {r:List Expr}(ha:PT X x (xu X.K (evE cl a)))(hb:PW X (.BoolOp .And (y::r) pos) (xu X.K (evE cl b))):PW X (.BoolOp .And (x::y::r) pos) (xu X.K (evE cl (.and a b))) :=
 PW.imp (zf7 ha hb) λσ H Q h=>by
  refine g8 (g7 h) λv H1 q=>?_;obtain ⟨k,e,q⟩:=q;refine ⟨k,e,?_⟩;cases k with
  | true=>rw[if_pos rfl] at q ⊢;exact q
  | false =>
   rw[if_neg Bool.false_ne_true] at q ⊢;obtain ⟨b',e',q⟩:=q;cases e';exact q
theorem ziF {r:List Expr}(ha:PT X x (xu X.K (evE cl a)))(hb:PW X (.BoolOp .Or (y::r) pos) (xu X.K (evE cl b))):PW X (.BoolOp .Or (x::y::r) pos) (xu X.K (evE cl (.or a b))) :=
 PW.imp (zhY ha hb) λσ H Q h=>by
  refine g8 (zaT h) λv H1 q=>?_;obtain ⟨k,e,q⟩:=q;refine ⟨k,e,?_⟩;cases k with
  | false=>rw[if_neg Bool.false_ne_true] at q ⊢;exact q
  | true =>
   rw[if_pos rfl] at q ⊢;obtain ⟨b',e',q⟩:=q;cases e';exact q
theorem zaU {op:CmpOp}{e:Expr}(h:yH e=true):behindInMarks op e=false:=by
 cases e <;> first | rfl | cases h
theorem g9 {K:PySem.W.Frag}{op:Co}{σ:St}{H:Hp}{Q:VK}(h:tOf K (evE cl (.cmp op a b)) σ H Q):tOp (rC K op) (tOf K (evE cl a)) (tOf K (evE cl b)) σ H Q:=by
 obtain ⟨as,env,m,S,G,P⟩:=h;refine ⟨as,env,m,S,G,Post.bind P λx m1 as1 H1 v T1 S1 R1 P1=>?_⟩;refine ⟨as1,env,m1,S1,G.mono S T1,Post.bind P1 λy m2 as2 H2 u T2 S2 R2 P2=>?_⟩;exact ⟨as2,m2,x,y,S2,R1.mono S1 T2,R2,P2⟩
theorem zcH {op:Co}(hu:X.A.units+64 < cLine)(ha:PE X x (tOf X.K (evE cl a)))(hb:PE X y (tOf X.K (evE cl b)))(hs:yH y=true):PE X (.Compare x [cK op] [y] pos) (tOf X.K (evE cl (.cmp op a b))) :=
 PE.imp (zeb (kN hu op) ha hb (zaU hs)) λσ H Q h=>g9 h
theorem zgR {op:Co}(hu:X.A.units+64 < cLine)(ha:PE X x (tOf X.K (evE cl a)))(hb:PE X y (tOf X.K (evE cl b)))(hs:yH y=true):PT X (.Compare x [cK op] [y] pos) (xu X.K (evE cl (.cmp op a b))) :=
 PT.imp (zaJ (kN hu op) ha hb (zaU hs)) λσ H Q h=>g9 h
end
section
variable {cl:Nat->List Wd->Me->Rz}{X:Cx}{a b c:Ex}{x y z:Expr}{pos:Pos}
theorem kT {K:PySem.W.Frag}{p q:Co}{σ:St}{H:Hp}{Q:VK}(h:tOf K (evE cl (.chain p q a b c)) σ H Q):qN (rC K p) (rC K q) (tOf K (evE cl a)) (tOf K (evE cl b)) (tOf K (evE cl c)) σ H Q:=by
 obtain ⟨as,env,m,S,G,P⟩:=h;refine ⟨as,env,m,S,G,Post.bind P λx m1 as1 H1 v T1 S1 R1 P1=>?_⟩;refine ⟨as1,env,m1,S1,G.mono S T1,Post.bind P1 λy m2 as2 H2 u T2 S2 R2 P2=>?_⟩;refine ⟨as2,m2,x,y,S2,R1.mono S1 T2,R2,Post.bind P2 λz m3 as3 H3 w T3 S3 R3 P3=>?_⟩;cases z with
 | bl k =>
  obtain rfl:=rep_bl.mp R3;refine ⟨k,rfl,?_⟩;cases k with
  | false=>exact gL (P3.ok S3 (rep_bl.mpr rfl))
  | true =>
   refine gM ⟨as3,env,m3,S3,((G.mono S T1).mono S1 T2).mono S2 T3,Post.bind P3 λt m4 as4 H4 r T4 S4 R4 P4=>?_⟩;exact ⟨as4,m4,y,t,S4,(R2.mono S2 T3).mono S3 T4,R4,P4⟩
 | _=>exact P3.elim
theorem zcI {o o':CmpOp}(h:yH z=true):lastMarks [o,o'] [y,z]=false:=by
 show behindInMarks o' z=false;exact zaU h
theorem qc {p q:Co}(hu:X.A.units+64 < cLine)(ha:PE X x (tOf X.K (evE cl a)))(hb:PE X y (tOf X.K (evE cl b)))(hc:PE X z (tOf X.K (evE cl c)))(hs:yH z=true):
  PE X (.Compare x [cK p,cK q] [y,z] pos) (tOf X.K (evE cl (.chain p q a b c))) :=
 PE.imp (zcc (kN hu p) (kN hu q) ha hb hc (zcI hs)) λσ H Q h=>kT h
theorem zcJ {p q:Co}(hu:X.A.units+64 < cLine)(ha:PE X x (tOf X.K (evE cl a)))(hb:PE X y (tOf X.K (evE cl b)))(hc:PE X z (tOf X.K (evE cl c)))(hs:yH z=true):
  PT X (.Compare x [cK p,cK q] [y,z] pos) (xu X.K (evE cl (.chain p q a b c))) :=
 PT.imp (zcd (kN hu p) (kN hu q) ha hb hc (zcI hs)) λσ H Q h=>kT h
theorem zcK {K:PySem.W.Frag}{σ:St}{H:Hp}{Q:VK}(h:tOf K (evE cl (.ife c a b)) σ H Q):tIf (xu K (evE cl c)) (tOf K (evE cl a)) (tOf K (evE cl b)) σ H Q:=by
 obtain ⟨as,env,m,S,G,P⟩:=h;refine ⟨as,env,m,S,G,Post.bind P λx m1 as1 H1 v T1 S1 R1 P1=>?_⟩;cases x with
 | bl k =>
  obtain rfl:=rep_bl.mp R1;refine ⟨k,rfl,?_⟩;cases k with
  | true=>exact gM ⟨as1,env,m1,S1,G.mono S T1,P1⟩
  | false=>exact gL ⟨as1,env,m1,S1,G.mono S T1,P1⟩
 | _=>exact P1.elim
theorem zgS (hc:PT X z (xu X.K (evE cl c)))(ha:PE X x (tOf X.K (evE cl a)))(hb:PE X y (tOf X.K (evE cl b))):PE X (.IfExp z x y pos) (tOf X.K (evE cl (.ife c a b))) :=
 PE.imp (zb6 hc ha hb) λσ H Q h=>zcK h
theorem zes:PA X [] (kS X.K (evE cl .unit)):=PA.imp vp λσ H Q h=>by
 obtain ⟨as,env,m,S,G,P⟩:=h;exact P as H [] .refl S (repL_nil.mpr rfl)
theorem zet {xs:List Expr}(ha:PE X x (tOf X.K (evE cl a)))(hb:PA X xs (kS X.K (evE cl b)))(hs:zA x=true):PA X (x::xs) (kS X.K (evE cl (.pair a b))):=by
 refine PA.imp (xy ha hb (zm hs)) λσ H Q h=>?_;obtain ⟨as,env,m,S,G,P⟩:=h;refine ⟨as,env,m,S,G,?_⟩;have P':PostA X.K as H Q ((evE cl a env m).bind λx m1=>(evE cl b env m1).bind λy m2=>.ok (.tup (x::zn y)) m2):=P;cases hr:evE cl a env m with
 | no=>rw[hr] at P';exact P'
 | exc c w m'=>rw[hr] at P';exact P'
 | ok w m1 =>
  rw[hr] at P';intro as1 H1 v T1 S1 R1;refine ⟨as1,env,m1,S1,G.mono S T1,?_⟩;simp only[Rz.bind] at P';cases hr2:evE cl b env m1 with
  | no=>rw[hr2] at P';exact P'
  | exc c w' m'=>rw[hr2] at P';exact P'
  | ok w' m2 =>
   rw[hr2] at P';intro as2 H2 vs T2 S2 R2;exact P' as2 H2 (v::vs) (T1.trans T2) S2 (repL_cons.mpr ⟨v,vs,rfl,R1.mono S1 T2,R2⟩)
theorem zeu {C:Ctx}{d k:Nat}{nm:Str}{p:Pos}{xs:List Expr}(hC:CtxOk C X cl d)(hk:C.fns[k]?=some nm)(hg:X.env.scope.names.lookup nm=some .globalImplicit)(hn:yx nm=true)
  (hs:(x::xs).all zA=true) (ha:PA X (x::xs) (kS X.K (evE cl a))):PE X (.Call (.Name nm p) (x::xs) [] pos) (tOf X.K (evE cl (.call k a))):=by
 obtain ⟨f,fd,ps,h1,h2,h3,h4⟩:=hC.fn k nm hk;have hs':=hs;rw[List.all_cons,Bool.and_eq_true] at hs';have hdb:(nm == ("__debug__" : Str))=false:=by
  unfold yx at hn;simp only[Bool.and_eq_true,Bool.not_eq_true'] at hn;exact hn.1.1
 refine PE.imp (zec h4 hC.room hg h1 h2 h3 .nil (zis (X:=X)) ha hdb (zm hs'.1) (yZ hs'.2)) λσ H Q h=>?_;obtain ⟨as,env,m,S,G,P⟩:=h;refine ⟨as,env,m,S,G,PostA.bind P λw m1 as1 H1 vs T1 S1 R1 P1=>?_⟩;refine ⟨as1,m1,zn w,S1,?_,P1⟩;rw[List.append_nil];exact R1
theorem yP {nm:Str}(hn:yx nm=true):(nm == ("__debug__" : Str))=false/\(nm == ("__classdict__" : Str))=false/\nm ≠ "__name__" := by
 unfold yx at hn;simp only[Bool.and_eq_true,Bool.not_eq_true'] at hn;exact ⟨hn.1.1,hn.1.2,by simpa using hn.2⟩
theorem zgT {C:Ctx}{d:Nat}{bf:Blf}{nm:Str}{f:Value}{p:Pos}{xs:List Expr}(hC:CtxOk C X cl d)(hb:zen bf=some (nm,f))(hg:X.env.scope.names.lookup nm=some .globalImplicit)(hn:yx nm=true)
  (hs:(x::xs).all zA=true) (ha:PA X (x::xs) (kS X.K (evE cl a))):PE X (.Call (.Name nm p) (x::xs) [] pos) (tOf X.K (evE cl (.blt bf a))):=by
 obtain ⟨n1,n2,n3⟩:=yP hn;have hs':=hs;rw[List.all_cons,Bool.and_eq_true] at hs';have hc:=zcx hC.room.units hC.calm hb;have go:PE X (.Call (.Name nm p) (x::xs) [] pos) (tCB (rBl X.K bf) (kS X.K (evE cl a))):=by
  cases bf with
  | len=>cases hb;exact kD hc hg (hC.blt _ (by simp[zC])) PySem.boot_len ha n3 n1 (zm hs'.1) (yZ hs'.2)
  | int=>cases hb;exact jz hc hg (hC.blt _ (by simp[zC])) PyProof.Rows.boot_int ha n3 n1 (zm hs'.1) (yZ hs'.2)
  | list=>cases hb;exact jz hc hg (hC.blt _ (by simp[zC])) PyProof.Rows.boot_list ha n3 n1 (zm hs'.1) (yZ hs'.2)
  | max2=>cases hb;exact kD hc hg (hC.blt _ (by simp[zC])) PyProof.Rows.boot_max ha n3 n1 (zm hs'.1) (yZ hs'.2)
  | sortI=>cases hb;exact kD hc hg (hC.blt _ (by simp[zC])) PyProof.Rows.boot_sorted ha n3 n1 (zm hs'.1) (yZ hs'.2)
 refine PE.imp go λσ H Q h=>?_;obtain ⟨as,env,m,S,G,P⟩:=h;refine ⟨as,env,m,S,G,PostA.bind P λw m1 as1 H1 vs T1 S1 R1 P1=>?_⟩;exact ⟨as1,m1,zn w,S1,R1,P1⟩
theorem zgU {xs:List Expr}(ha:PA X xs (kS X.K (evE cl a))):PE X (.List xs pos) (tOf X.K (evE cl (.lst a))):=by
 refine PE.imp (zgw ha) λσ H Q h=>?_;obtain ⟨as,env,m,S,G,P⟩:=h;refine ⟨as,env,m,S,G,PostA.bind P λw m1 as1 H1 vs T1 S1 R1 P1=>?_⟩;obtain ⟨h1,h2⟩:=xE S1 R1 P1;exact ⟨Nat.le_trans h1 yG,h2⟩
set_option tactic.hygienic true in
theorem zgV {xs:List Expr}{k:Nat}(ha:PA X xs (kS X.K (evE cl a))):PE X (.Tuple xs k pos) (tOf X.K (evE cl (.tup a))):=by
 refine PE.imp (zgv ha) λσ H Q h=>?_;obtain ⟨as,env,m,S,G,P⟩:=h;refine ⟨as,env,m,S,G,PostA.bind P λw m1 as1 H1 vs T1 S1 R1 P1=>?_⟩;split at P1
 .rename_i hl;refine ⟨by rw[<- R1.length];exact Nat.le_trans hl yG,λp hp=>?_⟩;obtain ⟨T,S',R'⟩:=S1.tup hp R1;exact P1 _ _ _ T S' R'
 .exact P1.elim
theorem zgW (ha:PE X x (tOf X.K (evE cl a)))(hb:PE X y (tOf X.K (evE cl b)))(hs:yY y=true):PE X (.Subscript x y pos) (tOf X.K (evE cl (.idx a b))):=by
 have hp:jS y:=λo i=>by cases y <;> first | rfl | cases hs
 refine PE.imp (zaL zgz ha hb hp) λσ H Q h=>?_;obtain ⟨as,env,m,S,G,P⟩:=h;refine ⟨as,env,m,S,G,Post.bind P λx m1 as1 H1 v T1 S1 R1 P1=>?_⟩;refine ⟨as1,env,m1,S1,G.mono S T1,Post.bind P1 λy m2 as2 H2 u T2 S2 R2 P2=>?_⟩;exact zgJ S2 (R1.mono S1 T2) R2 P2
end
section
variable {cl:Nat->List Wd->Me->Rz}{X:Cx}{a b c:Ex}{x y:Expr}{pos:Pos}
theorem base_of {e:Expr}{f:Str}{env:Env}(h:wV e=true):attributeBase e f env (eval e env)=eval e env:=by
 cases e <;> first | rfl | cases h
theorem zgX {cp:Pos}{env:Env}{ys:List Expr}(h:ys.all zA=true)(hl:ys.length < 29):
  ((backTo cp (starEach ys env)).all (λx=>! x.1) && (backToKw cp (keywordEach [] env)).all (λx=>x.1.isSome)
   && decide (ys.length+([]:List Keyword).length+(if ([]:List Keyword).isEmpty then 0 else 1) < 30))=true:=by
 have all:∀ {es:List Expr},es.all zA=true->(backTo cp (starEach es env)).all (λx=>! x.1)=true:=by
  intro es
  induction es with
  | nil=>intro _;rfl
  | cons e es ih =>
   intro h;rw[List.all_cons,Bool.and_eq_true] at h;rw[zm h.1];show (true && (backTo cp (starEach es env)).all (λx=>! x.1))=true;rw[ih h.2];rfl
 rw[all h];have e2:(backToKw cp (keywordEach [] env)).all (λx=>x.1.isSome)=true:=rfl;rw[e2];have e3:decide (ys.length+([]:List Keyword).length+(if ([]:List Keyword).isEmpty then 0 else 1) < 30)=true:=by
  apply decide_eq_true;show ys.length+0+0 < 30;lia
 rw[e3];rfl
theorem qd (k:Mth):Slot "list" (mtV k).1 (mtV k).2/\typeOf (.builtin (mtV k).2)=pure (.type "method_descriptor"):=by
 cases k with
 | append=>exact ⟨PySem.F.slot_list_append,PySem.F.type_list_append⟩
 | pop=>exact ⟨PySem.F.slot_list_pop,PySem.F.type_list_pop⟩
 | reverse=>exact ⟨PySem.F.slot_list_reverse,PySem.F.type_list_reverse⟩
 | clear=>exact ⟨PySem.F.slot_list_clear,PySem.F.type_list_clear⟩
theorem zaV {K:PySem.W.Frag}{as:List Addr}{H:Hp}{Q:VK}{b:Bool}{r:Rz}(h:Post K as H Q (match b with | true=>r | false=>.no)):b=true/\Post K as H Q r:=by
 cases b with
 | true=>exact ⟨rfl,h⟩
 | false=>exact h.elim
theorem zcL {w:Wd}{m:Me}(h:yO w m=true):∃l,w=.ref l/\(zr m l).isSome=true:=by
 cases w with
 | ref l =>
  refine ⟨l,rfl,?_⟩;unfold yO isLst at h;unfold zr;cases e:m[l]? with
  | none=>simp[e] at h
  | some o =>
   cases o with
   | lst xs=>rfl
   | dct ks us=>simp[e] at h
 | _=>cases h
theorem zcM {K:PySem.W.Frag}{as:List Addr}{H:Hp}{m:Me}{w:Wd}{v:V}(S:Sim K as m H)(R:Rep K as H w v)(hw:∃l,w=.ref l/\(zr m l).isSome=true):tyV K "list" v H:=by
 obtain ⟨l,rfl,hs⟩:=hw;obtain ⟨p,hp,rfl⟩:=rep_ref.mp R;obtain ⟨xs,hs⟩:=Option.isSome_iff_exists.mp hs;obtain ⟨p',us,hp',e,_⟩:=ye S (zM hs);rw[hp] at hp';cases hp';exact .inl ⟨rfl,us,SqL.of e⟩
theorem zcN {k:Mth}{ap:Pos}(ho:PE X x (tOf X.K (evE cl a)))(hx:wV x=true)(hl:(ap.endLine == pos.line)=true):
  PE X (.Call (.Attribute x (mtV k).1 ap) [] [] pos) (tOf X.K (evE cl (.meth k a .unit))):=by
 obtain ⟨f1,f2⟩:=qd k;refine PE.imp (zgA PySem.F.plainAttrs_list f1 f2 (zcy k) ho (base_of hx) hl) λσ H Q h=>?_;obtain ⟨as,env,m,S,G,P⟩:=h;refine ⟨as,env,m,S,G,Post.bind P λw m1 as1 H1 v T1 S1 R1 P1=>?_⟩;obtain ⟨hl',P1⟩:=zaV P1;have P2:Post X.K as1 H1 Q (mtR k w [] m1):=P1;exact ⟨zcM S1 R1 (zcL hl'),as1,m1,w,[],S1,R1,repL_nil.mpr rfl,P2⟩
theorem zev {k:Mth}{ap:Pos}{ys:List Expr}(ho:PE X x (tOf X.K (evE cl a)))(ha:PA X (y::ys) (kS X.K (evE cl b)))(hx:wV x=true)(hl:(ap.endLine == pos.line)=true)(hn:(y::ys).length < 29)(hs:(y::ys).all zA=true):
  PE X (.Call (.Attribute x (mtV k).1 ap) (y::ys) [] pos) (tOf X.K (evE cl (.meth k a b))):=by
 obtain ⟨f1,f2⟩:=qd k;have hs':=hs;rw[List.all_cons,Bool.and_eq_true] at hs';refine PE.imp (zio PySem.F.plainAttrs_list f1 f2 (zcy k) ho ha (base_of hx) (zgX hs hn) hl (zm hs'.1) (yZ hs'.2)) λσ H Q h=>?_;obtain ⟨as,env,m,S,G,P⟩:=h;refine ⟨as,env,m,S,G,Post.bind P λw m1 as1 H1 v T1 S1 R1 P1=>?_⟩;obtain ⟨hl',P1⟩:=zaV P1;refine ⟨zcM S1 R1 (zcL hl'),?_⟩;refine ⟨as1,env,m1,S1,G.mono S T1,PostA.bind P1 λw2 m2 as2 H2 vs T2 S2 R2 P2=>?_⟩;exact ⟨as2,m2,w,zn w2,S2,R1.mono S1 T2,R2,P2⟩
theorem zcO {K:PySem.W.Frag}{as:List Addr}{H:Hp}{m:Me}{R:It->Hp->Prop}{i j:Int}(S:Sim K as m H)(h:PostI K as H R (zco (.int i) (.int j) (.int 1) m)):(-(2 ^ 62)<=i/\i < 2 ^ 62/\-(2 ^ 62)<=j/\j < 2 ^ 62)/\R (Itr i (j - i).toNat) H:=by
 have h':PostI K as H R (if -lim<=i/\i<=lim/\-lim<=j/\j<=lim/\((1:Int)=1\/(1:Int)=-1) then .ok (.tup (qU i 1 (gO i j 1))) m else .no):=h;by_cases hc:-(lim:Int)<=i/\i<=lim/\-(lim:Int)<=j/\j<=lim/\((1:Int)=1\/(1:Int)=-1)
 .rw[if_pos hc] at h';have hlim:(lim:Int)=100000:=rfl;refine ⟨by lia,h'.2 as H _ .refl S ?_⟩;have e:gO i j 1=(j - i).toNat:=if_pos rfl;rw[e];exact ⟨_,λ_=>True,zbH i (j - i).toNat (K:=K),trivial,kP 1 (j - i).toNat i,λ_ _ _ _=>trivial⟩
 .rw[if_neg hc] at h';exact h'.elim
theorem PostI.bind {K:PySem.W.Frag}{as:List Addr}{H:Hp}{R:It->Hp->Prop}{Q1:VK}{r:Rz}{f:Wd->Me->Rz}(h:PostI K as H R (r.bind f))
  (k:∀w m' as' H' v,Step as H as' H'->Sim K as' m' H'->Rep K as' H' w v->PostI K as' H' R (f w m')->Q1 v H'):Post K as H Q1 r:=by
 cases r with
 | ok w m' =>
  intro as2 H2 v U S Rr;refine k w m' as2 H2 v U S Rr ?_;have h':PostI K as H R (f w m'):=h;cases hr:f w m' with
  | ok w2 m2=>rw[hr] at h';exact ⟨h'.1,λas3 H3 J U3 S3 q=>h'.2 as3 H3 J (U.trans U3) S3 q⟩
  | exc c w2 m2=>rw[hr] at h';exact h'
  | no=>rw[hr] at h';exact h'
 | exc c w m'=>exact h
 | no=>exact h
theorem zew {C:Ctx}{d:Nat}{p:Pos}{tg:Expr}(hC:CtxOk C X cl d)(hg:X.env.scope.names.lookup ("range" : Str)=some .globalImplicit)(hs:zA x=true)(hb:PE X x (tOf X.K (evE cl b))):
  PI X tg (.Call (.Name "range" p) [x] [] pos) (iOf X.K (evE cl (.rng (.lit (.int 0)) b (.lit (.int 1))))):=by
 refine PI.imp (zbv hg (hC.blt _ (by simp[zC])) (xy hb vp (zm hs)) (zm hs)) λσ H R h=>?_;obtain ⟨as,env,m,S,G,P⟩:=h;have P':PostI X.K as H R ((evE cl b env m).bind λy m2=>zco (.int 0) y (.int 1) m2):=P;refine ⟨as,env,m,S,G,PostI.bind P' λw m1 as1 H1 v T1 S1 R1 P1=>?_⟩;cases w with
 | int j =>
  obtain rfl:=rep_int.mp R1;obtain ⟨⟨_,_,h1,h2⟩,q⟩:=zcO S1 P1;refine ⟨j,rfl,h1,h2,?_⟩;simpa using q
 | _=>exact P1.elim
theorem zex {C:Ctx}{d:Nat}{p p' pos':Pos}(hC:CtxOk C X cl d)(hgl:X.env.scope.names.lookup ("list" : Str)=some .globalImplicit)(hg:X.env.scope.names.lookup ("range" : Str)=some .globalImplicit)(hs:zA x=true)(ha:PE X x (tOf X.K (evE cl a))):
  PE X (.Call (.Name "list" p) [.Call (.Name "range" p') [x] [] pos'] [] pos) (tOf X.K (evE cl (.lrng a))):=by
 refine PE.imp (zei hC.calm hgl (hC.blt _ (by simp[zC])) hg (hC.blt _ (by simp[zC])) (xy ha vp (zm hs)) (zm hs)) λσ H Q h=>?_;obtain ⟨as,env,m,S,G,P⟩:=h;refine ⟨as,env,m,S,G,Post.bind P λw m1 as1 H1 v T1 S1 R1 P1=>?_⟩;cases w with
 | int j =>
  obtain rfl:=rep_int.mp R1;have hlim:(lim:Int)=100000:=rfl;have P1':Post X.K as1 H1 Q (if -(lim:Int)<=j/\j<=lim then alloc m1 (qU 0 1 j.toNat) else .no):=P1;by_cases hc:-(lim:Int)<=j/\j<=lim
  .rw[if_pos hc] at P1';obtain ⟨h1,h2⟩:=xE S1 (kP 1 j.toNat 0) P1';have hz:j.toNat<=sizeLine:=Nat.le_trans (by have:lim=100000:=rfl;lia) yG;exact ⟨j,rfl,by lia,by lia,hz,h2⟩
  .rw[if_neg hc] at P1';exact P1'.elim
 | _=>exact P1.elim
end
end Mini
namespace L2
open PySem PySem.Spec PyProof.Rows
section
variable {X:Cx}{pins:List (Addr×Obj)}{σ:St}{H:Hp}{s:Shared}{h':Heap}
theorem zj1 {t':Nat}{ch:List Addr}{T:Addr}{xs:List V}{its:List Value}(I:Inv X pins σ H s)(hf:∀b∈ch,vY X pins H b)(k:∀b o,b∉ch->s.heap.get? b=some o->h'.get? b=some o)
  (hT:s.heap.objs.size<=T) (hz:xs.length<=sizeLine) (hv:Vals xs its) (ht:IsTup h' T its.toArray):Inv X pins σ (upd H T (.tup xs)) { s with heap:=h',toks:=t' }:=by
 have hn:H T=none:=I.hok.fresh hT;have nit:∀b u,H b=some u->b∉ch:=λb u e z=>by rw[(hf b z).1] at e;cases e
 have up:∀b u,H b=some u->upd H T (.tup xs) b=some u:=λb u e=>by rw[zg (zq e hn)];exact e
 refine I.step (g':=s.gens) (d':=s.drawn) (ch:=ch) (λb hb=>?_) (λb o _ _ hc e _=>k b o hc e) (λb o _ _ hc e _=>⟨o.slots,k b o hc e⟩) (λb o hc e n=>?_)
  (λb o hc e=>⟨o,k b o hc e⟩) (λb _ e=>up b _ e) (λb _ _ e=>up b _ e) (λb ps e=>⟨#[],by rw[up b _ e];simp⟩) (λm hm=>?_) (λb u e=>?_) I.bare
 .obtain ⟨f0,f1,f2,f3,f4,f5⟩:=hf b hb;exact ⟨f3,f1,f4,f5⟩
 .rw[zg (Nat.ne_of_lt (Nat.lt_of_lt_of_le (Heap.lt_size e) hT))];exact n
 .obtain ⟨o,es,ep,ho,r⟩:=hm;exact ⟨o,es,ep,k _ o (λz=>(hf _ z).2.1 rfl) ho,r⟩
 .by_cases hb:b=T
  .subst hb;rw[zh] at e;cases e;exact ⟨hz,its,hv,ht⟩
  .rw[zg hb] at e;refine (I.hok b u e).stay (λc v hc q=>k c v ?_ q) (λc q=>up c _ q) λc _ q=>up c _ q;rcases hc with z | z
   .rw[z];exact nit b u e
   .exact nit c _ z
theorem Inv.turnedL {t':Nat}{ch:List Addr}(I:Inv X pins σ H s)(hf:∀b∈ch,vY X pins H b)(k:∀b o,b∉ch->s.heap.get? b=some o->h'.get? b=some o):Inv X pins σ H { s with heap:=h',toks:=t' }:=by
 have nit:∀b u,H b=some u->b∉ch:=λb u e z=>by rw[(hf b z).1] at e;cases e
 refine I.step (g':=s.gens) (d':=s.drawn) (ch:=ch) (λb hb=>?_) (λb o _ _ hc e _=>k b o hc e) (λb o _ _ hc e _=>⟨o.slots,k b o hc e⟩) (λb o hc e n=>n)
  (λb o hc e=>⟨o,k b o hc e⟩) (λb _ e=>e) (λb _ _ e=>e) (λb ps e=>⟨#[],by rw[e];simp⟩) (λm hm=>?_) (λb u e=>?_) I.bare
 .obtain ⟨f0,f1,f2,f3,f4,f5⟩:=hf b hb;exact ⟨f3,f1,f4,f5⟩
 .obtain ⟨o,es,ep,ho,r⟩:=hm;exact ⟨o,es,ep,k _ o (λz=>(hf _ z).2.1 rfl) ho,r⟩
 .refine (I.hok b u e).stay (λc v hc q=>k c v ?_ q) (λc q=>q) λc _ q=>q;rcases hc with z | z
  .rw[z];exact nit b u e
  .exact nit c _ z
end
def Yp (H:Hp)(v:V)(H':Hp)(x y:V):Prop:=∃T,H T=none/\v=.ref T/\H'=upd H T (.tup [x,y])
noncomputable def Itz (K:PySem.W.Frag)(l1 l2:Addr):It :=
 ⟨λi H=>∃xs ys x y,SqL K H l1 xs/\SqL K H l2 ys/\xs[i]?=some x/\ys[i]?=some y,
  λi H v H'=>∃x y,Yp H v H' x y/\(∀xs,SqL K H l1 xs->xs[i]?=some x)/\∀ys,SqL K H l2 ys->ys[i]?=some y,
  λi H=>∃xs ys,SqL K H l1 xs/\SqL K H l2 ys/\(xs.length<=i\/ys.length<=i)⟩
noncomputable def Ite (K:PySem.W.Frag)(c:Nat)(l:Addr):It :=
 ⟨λi H=>∃xs x,SqL K H l xs/\xs[i]?=some x,
  λi H v H'=>∃x,Yp H v H' (.int ((i+c:Nat):Int)) x/\∀xs,SqL K H l xs->xs[i]?=some x,
  λi H=>∃xs,SqL K H l xs/\xs.length<=i⟩
theorem zbI {prog:Program}{w:World}{A:Around}(hh:A.handled=none)(it l:Addr)(hne:l≠it)(items:Array Value)(c:Nat):
  Draws prog w A it [it,l] (items.size+c) (λi x=>∃j,i=j+c/\items[j]?=some x) (λi h=>∃j,i=j+c/\h.IsListIter it l j/\h.IsList l items):=by
 have D:=Draws.list (prog:=prog) (w:=w) hh it l hne items;refine ⟨λi h st=>?_,λi h h' st k=>?_,λi s Q E hi st hQ=>?_,λs Q E st hE=>?_⟩
 .obtain ⟨j,_,h1,h2⟩:=st;exact D.live j h ⟨h1,h2⟩
 .obtain ⟨j,e,h1,h2⟩:=st;obtain ⟨q1,q2⟩:=D.frame j h h' ⟨h1,h2⟩ k;exact ⟨j,e,q1,q2⟩
 .obtain ⟨j,rfl,h1,h2⟩:=st;refine D.item j s Q E (by lia) ⟨h1,h2⟩ λx h' tk p q sb=>hQ x h' tk ⟨j,rfl,p⟩ ⟨j+1,by lia,q.1,q.2⟩ sb
 .obtain ⟨j,e,h1,h2⟩:=st;have e':j=items.size:=by lia
  subst e';exact D.done s Q E ⟨h1,h2⟩ hE
theorem zcP {prog:Program}{w:World}{A:Around}(hh:A.handled=none)(it l:Addr)(items:Array Value){i:Nat}(hi:items[i]?=none):
  Draws prog w A it [it,l] 0 (λ_ _=>True) (λk h=>k=0/\h.IsListIter it l i/\h.IsList l items):=by
 refine ⟨λk h st=>?_,λk h h' st q=>?_,λk s Q E hk st hQ=>absurd hk (Nat.not_lt_zero _),λs Q E st hE=>?_⟩
 .obtain ⟨o,ho,_⟩:=st.2.1;exact ⟨o,ho⟩
 .exact ⟨st.1,st.2.1.at λo e=>q it (by simp) o e,st.2.2.at λo e=>q l (by simp) o e⟩
 .exact wpAny_nextOf_list_end hh st.2.1 st.2.2 hi hE
theorem zcQ {P:Program}{w:World}{K:PySem.W.Frag}{elts:List Expr}{k:Nat}{pt:Pos}(z TI TO i1 i2 l1 l2:Addr)(D:ZipApart z TI TO i1 i2 l1 l2):
  Turn P w K (.Tuple elts k pt) (Itz K l1 l2) [z,TI,TO,i1,i2] z (λi h=>IsZip h z TI TO .none/\IsPair h TI (.ref i1) (.ref i2)/\(∃a b,IsPair h TO a b)/\h.IsListIter i1 l1 i/\h.IsListIter i2 l2 i) where
 mem:=by simp
 obj:=λi h st b hb=>by
  obtain ⟨hz,hTI,⟨a,c,hTO⟩,⟨o1,e1,c1,d1⟩,o2,e2,c2,d2⟩:=st;simp only[List.mem_cons,List.not_mem_nil,or_false] at hb;rcases hb with rfl | rfl | rfl | rfl | rfl
  .exact ⟨_,hz,λv z=>by cases z⟩
  .exact ⟨_,hTI,λv z=>by cases z⟩
  .exact ⟨_,hTO,λv z=>by cases z⟩
  .exact ⟨_,e1,λv z=>by rw[d1] at z;cases z⟩
  .exact ⟨_,e2,λv z=>by rw[d2] at z;cases z⟩
 keep:=λi h h' st k=>by
  obtain ⟨hz,hTI,⟨a,c,hTO⟩,h1,h2⟩:=st;exact ⟨k z (by simp) _ hz,k TI (by simp) _ hTI,⟨a,c,k TO (by simp) _ hTO⟩,h1.at λo e=>k i1 (by simp) o e,h2.at λo e=>k i2 (by simp) o e⟩
 item:=by
  intro X hP hw hK hc i pins s σ H E I hf st hg;subst hP hw hK;obtain ⟨xs,ys,x,y,hq1,hq2,hx,hy⟩:=hg;obtain ⟨its1,rv1,p1,_⟩:=I.list hq1;obtain ⟨its2,rv2,p2,_⟩:=I.list hq2;obtain ⟨u,hu,ru⟩:=rv1.get hx;obtain ⟨v,hv,rv⟩:=rv2.get hy;obtain ⟨hz,hTI,⟨a,b,hTO⟩,h1,h2⟩:=st;refine wpAny_pyNext_zip_item D hz hTI hTO h1 h2 p1.isList p2.isList (x:=u) (y:=v) (by simpa using hu) (by simpa using hv) λh' a1 a2 a3 a4 a5 a6 hk=>?_;refine ⟨_,rfl,wpAny_letOwnedTupleGo_zip (s:={ s with heap:=h' }) a1 λh'' hz' hs'=>?_⟩;have sT:z < s.heap.objs.size:=Heap.lt_size hz;have kk:∀b o,b∉[z,TI,TO,i1,i2]->s.heap.get? b=some o->h''.get? b=some o:=λb o hb e =>
   (hs'.2 b λq=>hb (by simp[q])).trans (hk b o (λq=>hb (by simp[q])) (λq=>hb (by simp[q])) (λq=>hb (by simp[q])) (λq=>hb (by simp[q])) e)
  refine ⟨.ref s.heap.objs.size,upd H s.heap.objs.size (.tup [x,y]),?_,rfl,⟨x,y,⟨_,I.hok.fresh (Nat.le_refl _),rfl,rfl⟩,λzs hz=>by rw[I.list_inj hz hq1];exact hx,λzs hz=>by rw[I.list_inj hz hq2];exact hy⟩,?_,?_⟩
  .have I1:Inv X pins σ (upd H s.heap.objs.size (.tup [x,y])) { s with heap:=h'',toks:=s.toks }:=zj1 (s:=s) (its:=[u,v]) I hf kk (Nat.le_refl _) (show (2:Nat)<=sizeLine by decide) (.cons ru (.cons rv .nil)) ⟨_,(hs'.2 _ (Nat.ne_of_gt sT)).trans a5,rfl,_,rfl⟩;exact I1
  .refine ⟨hz',?_,⟨u,v,?_⟩,?_,?_⟩
   .exact (hs'.2 TI D.TIz).trans (hk TI _ D.TIz D.TITO D.TIi1 D.TIi2 hTI)
   .exact (hs'.2 TO D.TOz).trans a2
   .exact a3.at λo e=>(hs'.2 i1 D.i1z).trans e
   .exact a4.at λo e=>(hs'.2 i2 D.i2z).trans e
  .intro b hb;have hlt:b < s.heap.objs.size:=by
    simp only[List.mem_cons,List.not_mem_nil,or_false] at hb;obtain ⟨_,e1,_⟩:=h1;obtain ⟨_,e2,_⟩:=h2;rcases hb with rfl | rfl | rfl | rfl | rfl
    .exact sT
    .exact Heap.lt_size hTI
    .exact Heap.lt_size hTO
    .exact Heap.lt_size e1
    .exact Heap.lt_size e2
   rw[zg (Nat.ne_of_lt hlt)];exact (hf b hb).1
 done:=by
  intro X hP hw hK hc i pins s σ H E I hf st hg;subst hP hw hK;obtain ⟨xs,ys,hq1,hq2,hx⟩:=hg;obtain ⟨its1,rv1,p1,_⟩:=I.list hq1;obtain ⟨its2,rv2,p2,_⟩:=I.list hq2;obtain ⟨hz,hTI,⟨a,b,hTO⟩,h1,h2⟩:=st;have l1:=rv1.length;have l2:=rv2.length;refine wpAny_pyNext_zip_end (I.ok.hd hc) D hz hTI hTO h1 h2 p1.isList p2.isList ?_ λh' hk=>⟨rfl,?_⟩
  .rcases hx with hx | hx
   .exact .inl (by simp;lia)
   .exact .inr (by simp;lia)
  .exact I.turnedL (t':=s.toks) hf λb o hb e=>hk b o (λq=>hb (by simp[q])) (λq=>hb (by simp[q])) (λq=>hb (by simp[q])) (λq=>hb (by simp[q])) e
 self:=λ_ _ _ _ _ st h=>wpAny_pyIter_zip st.1 h
theorem zbJ {P:Program}{w:World}{K:PySem.W.Frag}{elts:List Expr}{k:Nat}{pt:Pos}(c:Nat)(e it l:Addr)(hei:e≠it)(hle:l≠e)(hli:l≠it):
  Turn P w K (.Tuple elts k pt) (Ite K c l) [e,it] e (λi h=>(∃old,IsEnum h e it ((i+c:Nat):Int) old)/\h.IsListIter it l i) where
 mem:=by simp
 obj:=λi h st b hb=>by
  obtain ⟨⟨old,he⟩,o1,e1,c1,d1⟩:=st;simp only[List.mem_cons,List.not_mem_nil,or_false] at hb;rcases hb with rfl | rfl
  .exact ⟨_,he,λv z=>by cases z⟩
  .exact ⟨_,e1,λv z=>by rw[d1] at z;cases z⟩
 keep:=λi h h' st k=>by
  obtain ⟨⟨old,he⟩,h1⟩:=st;exact ⟨⟨old,k e (by simp) _ he⟩,h1.at λo q=>k it (by simp) o q⟩
 item:=by
  intro X hP hw hK hc i pins s σ H E I hf st hg;subst hP hw hK;obtain ⟨xs,x,hq1,hx⟩:=hg;obtain ⟨its1,rv1,p1,_⟩:=I.list hq1;obtain ⟨u,hu,ru⟩:=rv1.get hx;obtain ⟨⟨old,he⟩,h1⟩:=st;have hil:i < its1.length:=(List.getElem?_eq_some_iff.mp hu).1;have D:=zbI (prog:=X.prog) (w:=X.w) (A:=X.A.in1) (I.ok.hd hc) it l hli its1.toArray c;refine wpAny_pyNext_enum_itemD D he ⟨i,rfl,h1,p1.isList⟩ (by simp;lia) hei (by simp[hei,Ne.symm hle]) λx' h' tk px a1 st' a3 a4 hk=>?_;obtain ⟨j,ej,hj⟩:=px;have ej':i=j:=by lia
  subst ej';have hxu:x'=u:=by
   have:its1[i]?=some x':=by simpa using hj
   rw[hu] at this;cases this;rfl
  subst hxu;obtain ⟨j',ej',a2,_⟩:=st';have e2:j'=i+1:=by lia
  subst e2;refine ⟨_,rfl,wpAny_letOwnedTupleGo_enum (s:={ s with heap:=h',toks:=tk+1 }) a1 λh'' he' hs'=>?_⟩;have sT:e < s.heap.objs.size:=Heap.lt_size he;have kk:∀b o,b∉[e,it]->s.heap.get? b=some o->h''.get? b=some o:=λb o hb q =>
   (hs'.2 b λz=>hb (by simp[z])).trans (hk b o (λz=>hb (by simp[z])) (λz=>hb (by simp[z])) q)
  refine ⟨.ref s.heap.objs.size,upd H s.heap.objs.size (.tup [.int ((i+c:Nat):Int),x]),?_,rfl,⟨x,⟨_,I.hok.fresh (Nat.le_refl _),rfl,rfl⟩,λzs hz=>by rw[I.list_inj hz hq1];exact hx⟩,?_,?_⟩
  .have I1:Inv X pins σ (upd H s.heap.objs.size (.tup [.int ((i+c:Nat):Int),x])) { s with heap:=h'',toks:=tk+1 }:=zj1 (s:=s) (its:=[.int ((i+c:Nat):Int) tk,x']) I hf kk (Nat.le_refl _) (show (2:Nat)<=sizeLine by decide) (.cons ⟨_,rfl⟩ (.cons ru .nil)) ⟨_,(hs'.2 _ (Nat.ne_of_gt sT)).trans a3,rfl,_,rfl⟩;exact I1
  .refine ⟨⟨x',?_⟩,a2.at λo q=>(hs'.2 it hei.symm).trans q⟩;have:((i+1+c:Nat):Int)=((i+c:Nat):Int)+1:=by lia
   rw[this];exact he'
  .intro b hb;have hlt:b < s.heap.objs.size:=by
    simp only[List.mem_cons,List.not_mem_nil,or_false] at hb;obtain ⟨_,e1,_⟩:=h1;rcases hb with rfl | rfl
    .exact sT
    .exact Heap.lt_size e1
   rw[zg (Nat.ne_of_lt hlt)];exact (hf b hb).1
 done:=by
  intro X hP hw hK hc i pins s σ H E I hf st hg;subst hP hw hK;obtain ⟨xs,hq1,hx⟩:=hg;obtain ⟨its1,rv1,p1,_⟩:=I.list hq1;obtain ⟨⟨old,he⟩,h1⟩:=st;have l1:=rv1.length;have D:=zcP (prog:=X.prog) (w:=X.w) (A:=X.A.in1) (I.ok.hd hc) it l its1.toArray (i:=i) (by simp;lia);refine wpAny_pyNext_enum_endD D he ⟨rfl,h1,p1.isList⟩ λh' hk=>⟨rfl,?_⟩;exact I.turnedL (t':=s.toks) hf λb o hb q=>hk b o (λz=>hb (by simp[z])) q
 self:=λ_ _ _ _ _ st h=>by
  obtain ⟨⟨old,he⟩,_⟩:=st;exact wpAny_pyIter_enum he h
section
variable {X:Cx}{elts:List Expr}{k:Nat}{pt:Pos}
def ziG (K:PySem.W.Frag)(ta:TA):TI:=λσ H R=>ta σ H λvs H1=>∃l1 l2 xs ys,vs=[.ref l1,.ref l2]/\SqL K H1 l1 xs/\SqL K H1 l2 ys/\R (Itz K l1 l2) H1
def zfO (K:PySem.W.Frag)(c:Nat)(ta:TA):TI:=λσ H R=>ta σ H λvs H1=>∃l xs,vs=[.ref l]/\SqL K H1 l xs/\R (Ite K c l) H1
theorem zcR {a b:Expr}{ta:TA}{p pos:Pos}(hg:Gl X "zip")(hm:X.mg "zip" = none)(ha:PA X [a,b] ta)(hs:starEach [a,b] X.env=[(false,eval a X.env),(false,eval b X.env)]:=by rfl)(hs2:starEach [b] X.env=[(false,eval b X.env)]:=by rfl):
  PI X (.Tuple elts k pt) (.Call (.Name "zip" p) [a,b] [] pos) (ziG X.K ta):=by
 intro pins s σ H R I h;refine Call_ (wH I hg hm PyProof.Rows.boot_zip (PyProof.Rows.callWith_type1 (thn (ha pos pins s σ H _ I h) λus s1 ⟨vs,H1,I1,r1,q1⟩=>?_) (by rw[hs,hs2]) (by rw[hs2];rfl)));obtain ⟨l1,l2,xs,ys,e,g1,g2,q⟩:=q1;subst e;cases r1 with
 | cons r rr =>
  cases rr with
  | cons r' rr =>
   cases rr;cases r;cases r';obtain ⟨its1,rv1,p1,_⟩:=I1.list g1;obtain ⟨its2,rv2,p2,_⟩:=I1.list g2;have t1:l1 < s1.heap.objs.size:=by obtain ⟨o,e,_⟩:=p1.isList;exact Heap.lt_size e
   have t2:l2 < s1.heap.objs.size:=by obtain ⟨o,e,_⟩:=p2.isList;exact Heap.lt_size e
   refine call_zip_2 p1.isList p2.isList λh' hz hTI hTO hi1 hi2 hsz hk=>?_;refine wpAny_pyIter_zip (s:={ s1 with heap:=h' }) hz ?_;refine ⟨_,_,_,_,H1,rfl,I1.kept (t':=s1.toks) hk,zcQ (s1.heap.objs.size+4) (s1.heap.objs.size+2) (s1.heap.objs.size+3) s1.heap.objs.size (s1.heap.objs.size+1) l1 l2 ?_,⟨hz,hTI,⟨_,_,hTO⟩,hi1,hi2⟩,λb hb=>?_,q⟩
   .exact zipApart_new t1 t2
   .have hb':s1.heap.objs.size<=b:=by
     simp only[List.mem_cons,List.not_mem_nil,or_false] at hb;rcases hb with rfl | rfl | rfl | rfl | rfl
     .exact Nat.le_add_right _ _
     .exact Nat.le_add_right _ _
     .exact Nat.le_add_right _ _
     .exact Nat.le_refl _
     .exact Nat.le_add_right _ _
    exact I1.fpOk hb' (I1.hok.fresh hb')
theorem zey {a:Expr}{ta:TA}{p pos:Pos}(hg:Gl X "enumerate")(hm:X.mg "enumerate" = none)(ha:PA X [a] ta)(hs:starEach [a] X.env=[(false,eval a X.env)]:=by rfl):
  PI X (.Tuple elts k pt) (.Call (.Name "enumerate" p) [a] [] pos) (zfO X.K 0 ta):=by
 intro pins s σ H R I h;refine Call_ (wH I hg hm PyProof.Rows.boot_enumerate (PyProof.Rows.callWith_type1 (thn (ha pos pins s σ H _ I h) λus s1 ⟨vs,H1,I1,r1,q1⟩=>?_) hs rfl));obtain ⟨l,xs,e,g1,q⟩:=q1;subst e;cases r1 with
 | cons r rr =>
  cases rr;cases r;obtain ⟨its1,rv1,p1,_⟩:=I1.list g1;have t1:l < s1.heap.objs.size:=by obtain ⟨o,e,_⟩:=p1.isList;exact Heap.lt_size e
  refine call_enumerate_list p1.isList λh' he hi hsz hk=>?_;refine wpAny_pyIter_enum (s:={ s1 with heap:=h' }) he ?_;refine ⟨_,_,_,_,H1,rfl,I1.kept (t':=s1.toks) hk,zbJ 0 (s1.heap.objs.size+1) s1.heap.objs.size l (Nat.succ_ne_self _) (Nat.ne_of_lt (Nat.lt_succ_of_lt t1)) (Nat.ne_of_lt t1),⟨⟨_,he⟩,hi⟩,λb hb=>?_,q⟩;have hb':s1.heap.objs.size<=b:=by
   simp only[List.mem_cons,List.not_mem_nil,or_false] at hb;rcases hb with rfl | rfl
   .exact Nat.le_add_right _ _
   .exact Nat.le_refl _
  exact I1.fpOk hb' (I1.hok.fresh hb')
end
end L2
namespace L2
open PySem PySem.Spec PyProof.Rows
open AutoSeq1 (wpAny_loadPart')
end L2
namespace Mini
open PySem PySem.Spec PyProof.Rows L2
section
variable {cl:Nat->List Wd->Me->Rz}{K:PySem.W.Frag}
theorem Sim.updD {as:List Addr}{m:Me}{H:Hp}{D:Addr}{ys:List V}{o:HO}(S:Sim K as m H)(hD:H D=some (.lst ys))(hn:D∉as):Sim K as m (upd H D o):=by
 refine ⟨S.len,S.nd,λl b ob h1 h2=>?_⟩;have q:=S.obj l b ob h1 h2;have hb:b≠D:=by rintro rfl;exact hn (List.mem_of_getElem? h1)
 cases ob with
 | lst zs =>
  obtain ⟨us,e,r⟩:=q;exact ⟨us,by rw[zg hb];exact e,r.kp (Kp.upd hD)⟩
 | dct ks ws=>exact RepO.mono (ob:=.dct ks ws) (Kp.upd hD) (λ_ _ e=>e) (λo e=>by rw[zg hb];exact e) q
theorem Sim.join {as:List Addr}{m:Me}{H:Hp}{D:Addr}{ys:List V}{acc:List Wd}(S:Sim K as m H)(hD:H D=some (.lst ys))(hn:D∉as)(R:RepL K as H acc ys):Sim K (as++[D]) (m++[.lst acc]) H:=by
 have g:∀ (l:Nat) (a:Addr),as[l]?=some a->(as++[D])[l]?=some a:=λl a e=>by
  rw[List.getElem?_append_left (List.getElem?_eq_some_iff.mp e).1];exact e
 have kp:Kp K H H:=⟨λ_ _ h=>h,λ_ _ h=>h⟩;refine ⟨by simp[S.len],?_,λl b o h1 h2=>?_⟩
 .refine List.nodup_append.mpr ⟨S.nd,by simp,λx hx y hy=>?_⟩;rw[List.mem_singleton.mp hy];rintro rfl;exact hn hx
 .by_cases hl:l < as.length
  .rw[List.getElem?_append_left hl] at h1;rw[List.getElem?_append_left (by rw[<- S.len];exact hl)] at h2;have q:=S.obj l b o h1 h2;cases o with
   | lst zs =>
    obtain ⟨us,e,r⟩:=q;exact ⟨us,e,repL_mono kp g _ _ r⟩
   | dct ks ws=>exact RepO.mono (ob:=.dct ks ws) kp g (λo e=>e) q
  .rw[List.getElem?_append_right (by lia)] at h1;rw[List.getElem?_append_right (by rw[<- S.len];lia)] at h2;have hz:l - as.length=0:=by
    cases hq:l - as.length with
    | zero=>rfl
    | succ k=>rw[hq] at h1;simp at h1
   rw[hz] at h1;rw[<- S.len,hz] at h2;simp at h1 h2;subst h1;subst h2;exact ⟨ys,hD,repL_mono kp g _ _ R⟩
theorem Step.updD {as as':List Addr}{H H':Hp}{D:Addr}{o:HO}(T:Step as H as' H')(hD:H D=none):Step as H as' (upd H' D o) :=
 ⟨T.pre,λb ob h hb=>by rw[zg (zq h hD)];exact T.frame b ob h hb,T.fresh⟩
theorem Step.join {as as':List Addr}{H H':Hp}{D:Addr}(T:Step as H as' H')(hD:H D=none):Step as H (as'++[D]) H':=by
 refine ⟨?_,T.frame,λa ha=>?_⟩
 .obtain ⟨t,rfl⟩:=T.pre;exact ⟨t++[D],by simp⟩
 .rcases List.mem_append.mp ha with z | z
  .exact T.fresh a z
  .rw[List.mem_singleton.mp z];exact .inr hD
theorem xS {as as':List Addr}{m:Me}{H H':Hp}{D:Addr}{ys:List V}{acc:List Wd}{Q:VK}(S:Sim K as' m H')(T:Step as H as' H')(h0:H D=none)(hD:H' D=some (.lst ys))(hn:D∉as')(R:RepL K as' H' acc ys)
  (h:Post K as H Q (alloc m acc)):Q (.ref D) H':=by
 unfold Mini.alloc at h;split at h
 .refine h (as'++[D]) H' (.ref D) (T.join h0) (S.join hD hn R) (rep_ref.mpr ⟨D,?_,rfl⟩);rw[<- S.len,List.getElem?_append_right (Nat.le_refl _)];simp
 .exact h.elim
structure Mid (K:PySem.W.Frag)(as:List Addr)(H:Hp)(D:Addr)(env:En)(σ:St)(as':List Addr)(m':Me)(acc:List Wd)(ys:List V)(H':Hp):Prop where
 T:Step as H as' H'
 S:Sim K as' m' H'
 hD:H' D=some (.lst ys)
 n:D∉as'
 R:RepL K as' H' acc ys
 G:EnvRep K as' H' env σ
theorem Mid.go {as:List Addr}{H:Hp}{D:Addr}{env:En}{σ:St}{as' as2:List Addr}{m' m2:Me}{acc:List Wd}{ys:List V}{H' H2:Hp}(M:Mid K as H D env σ as' m' acc ys H')(U:Step as' H' as2 H2)(S2:Sim K as2 m2 H2):Mid K as H D env σ as2 m2 acc ys H2 :=
 ⟨M.T.trans U,S2,U.frame _ _ M.hD M.n,U.out M.hD M.n,M.R.mono M.S U,M.G.mono M.S U⟩
theorem Mid.push {as:List Addr}{H:Hp}{D:Addr}{env:En}{σ:St}{as':List Addr}{m':Me}{acc:List Wd}{ys:List V}{H':Hp}{w:Wd}{v:V}(M:Mid K as H D env σ as' m' acc ys H')(h0:H D=none)(R:Rep K as' H' w v):
  Mid K as H D env σ as' m' (acc++[w]) (ys++[v]) (upd H' D (.lst (ys++[v]))):=by
 have kp:Kp K H' (upd H' D (.lst (ys++[v]))):=Kp.upd M.hD;exact ⟨M.T.updD h0,M.S.updD M.hD M.n,zh,M.n,(M.R.append (.one R)).kp kp,M.G.kp kp⟩
set_option tactic.hygienic true in
theorem vv {elt cond:Ex}{tc:TT}(htc:∀σ H Q,xu K (evE cl cond) σ H Q->tc σ H Q){as1 as':List Addr}{H1 H':Hp}{D:Addr}{env ex:En}{σ sx:St}{m':Me}{acc:List Wd}{ys:List V}{Q:VK}{next:List Wd->Me->Rz}{N:List V->Hp->Prop}
  (h0:H1 D=none) (M:Mid K as1 H1 D env σ as' m' acc ys H') (G:EnvRep K as' H' (env++ex) (σ++sx))
  (Pt:Post K as1 H1 Q ((evE cl cond (env++ex) m').bind λb m1=>match b with
     | .bl true=>(evE cl elt (env++ex) m1).bind λy m2=>if acc.length < lim then next (acc++[y]) m2 else .no
     | .bl false=>next acc m1
     | _=>.no))
  (hN:∀as2 m2 acc' ys' H2,Kp K H' H2->(∀ (l:Nat) (a:Addr),as'[l]?=some a->as2[l]?=some a)->Mid K as1 H1 D env σ as2 m2 acc' ys' H2->Post K as1 H1 Q (next acc' m2)->N ys' H2) :
  tc (σ++sx) H' λb H2=>if b=true then tOf K (evE cl elt) (σ++sx) H2 λy H3=>H3 D=some (.lst ys)/\ys.length < sizeLine/\N (ys++[y]) (upd H3 D (.lst (ys++[y]))) else N ys H2:=by
 refine htc _ _ _ ⟨as',env++ex,m',M.S,G,zjY Pt M.T λwb m2 as2 H2 vb T2 S2 R2 P2=>?_⟩;have M2:=M.go T2 S2;cases wb with
 | bl k =>
  obtain rfl:=rep_bl.mp R2;refine ⟨k,rfl,?_⟩;cases k with
  | false=>exact gL (hN as2 m2 acc ys H2 (M.S.kp T2) (λ_ _ e=>T2.get e) M2 P2)
  | true =>
   refine gM ⟨as2,env++ex,m2,S2,G.mono M.S T2,zjY P2 M2.T λwy m3 as3 H3 vy T3 S3 R3 P3=>?_⟩;have M3:=M2.go T3 S3;have P3':Post K as1 H1 Q (if acc.length < lim then next (acc++[wy]) m3 else .no):=P3;by_cases hl:acc.length < lim
   .rw[if_pos hl] at P3';refine ⟨M3.hD,by rw[<- M3.R.length];exact Nat.lt_of_lt_of_le hl yG,hN as3 m3 (acc++[wy]) (ys++[vy]) _ ?_ (λ_ _ e=>T3.get (T2.get e)) (M3.push h0 R3) P3'⟩;have k1:=M.S.kp T2;have k2:=S2.kp T3;have k3:Kp K H3 (upd H3 D (.lst (ys++[vy]))):=Kp.upd M3.hD;exact ⟨λa vs q=>k3.t _ _ (k2.t _ _ (k1.t _ _ q)),λa vs q=>k3.f _ _ (k2.f _ _ (k1.f _ _ q))⟩
   .rw[if_neg hl] at P3';exact P3'.elim
 | _=>exact P2.elim
theorem Mid.start {as as1:List Addr}{H H1:Hp}{D:Addr}{env:En}{σ:St}{m1:Me}(S1:Sim K as1 m1 H1)(G1:EnvRep K as1 H1 env σ)(hD:H1 D=none):Mid K as1 H1 D env σ as1 m1 [] [] (upd H1 D (.lst [])):=by
 have T:Step as1 H1 as1 (upd H1 D (.lst [])):=Step.updD .refl hD;exact ⟨T,S1.keep T λb _ o e=>by rw[zg (zq e hD)];exact e,zh,S1.new hD,repL_nil.mpr rfl,G1.mono S1 T⟩
def qZ (K:PySem.W.Frag)(as:List Addr)(J:It)(g:Nat->Me->Option (Option (Wd×Wd))):Prop :=
 ∀ (as':List Addr) (m':Me) (H':Hp),(∀ (l:Nat) (a:Addr),as[l]?=some a->as'[l]?=some a)->Sim K as' m' H'->∀i,
  (g i m'=some none->J.stop i H')/\∀x y,g i m'=some (some (x,y))->J.go i H'/\∀v H'',J.yld i H' v H''->∃x' y',Yp H' v H'' x' y'/\Rep K as' H' x x'/\Rep K as' H' y y'
theorem kU {elt cond:Ex}{tc:TT}(htc:∀σ H Q,xu K (evE cl cond) σ H Q->tc σ H Q){as1:List Addr}{H1:Hp}{env:En}{σ:St}{m1:Me}{J:It}{g:Nat->Me->Option (Option (Wd×Wd))}{Q:VK}(hJ:qZ K as1 J g)(S1:Sim K as1 m1 H1)(G1:EnvRep K as1 H1 env σ)
  (P:Post K as1 H1 Q (zY (λu v m=>evE cl cond (env++[some u]++[some v]) m) (λu v m=>evE cl elt (env++[some u]++[some v]) m) g (lim+1) 0 [] m1)) :
  ∀D,H1 D=none->∃W:Nat->Nat->List V->Hp->Prop,(∃m,W 0 m [] (upd H1 D (.lst [])))/\∀i m ys H,W i m ys H ->
   (J.stop i H/\Q (.ref D) H)\/(J.go i H/\∀v H',J.yld i H v H'->∃vs,un2 K v H' vs/\tc (σ++vs.map some) H' λb H2=>if b=true then tOf K (evE cl elt) (σ++vs.map some) H2 λy H3=>H3 D=some (.lst ys)/\ys.length < sizeLine/\∃m',m' < m/\W (i+1) m' (ys++[y]) (upd H3 D (.lst (ys++[y])))
    else ∃m',m' < m/\W (i+1) m' ys H2):=by
 intro D hD;refine ⟨λi n ys H'=>∃as' m' acc,(∀ (l:Nat) (a:Addr),as1[l]?=some a->as'[l]?=some a)/\Mid K as1 H1 D env σ as' m' acc ys H' /\
  Post K as1 H1 Q (zY (λu v m=>evE cl cond (env++[some u]++[some v]) m) (λu v m=>evE cl elt (env++[some u]++[some v]) m) g n i acc m'),⟨lim+1,as1,m1,[],λ_ _ e=>e,Mid.start (as:=as1) (H:=H1) S1 G1 hD,P⟩,?_⟩
 rintro i n ys H' ⟨as',m',acc,hl,M,Pi⟩;cases n with
 | zero=>exact Pi.elim
 | succ n =>
  unfold zY at Pi;obtain ⟨q1,q2⟩:=hJ as' m' H' hl M.S i;cases e:g i m' with
  | none=>rw[e] at Pi;exact Pi.elim
  | some o =>
   rw[e] at Pi;cases o with
   | none=>exact .inl ⟨q1 e,xS M.S M.T hD M.hD M.n M.R Pi⟩
   | some p =>
    obtain ⟨x,y⟩:=p;simp only[] at Pi;obtain ⟨go,yl⟩:=q2 x y e;refine .inr ⟨go,λv H'' hy=>?_⟩;obtain ⟨x',y',⟨T,hT,rfl,rfl⟩,Rx,Ry⟩:=yl v H'' hy;refine ⟨[x',y'],⟨T,rfl,SqT.of zh,rfl⟩,?_⟩;have U:Step as' H' as' (upd H' T (.tup [x',y'])):=Step.updD .refl hT;have S2:Sim K as' m' (upd H' T (.tup [x',y'])):=M.S.keep U λb _ o e=>by rw[zg (zq e hT)];exact e
    have M2:=M.go U S2;have G2:EnvRep K as' (upd H' T (.tup [x',y'])) (env++[some x,some y]) (σ++[x',y'].map some):=by
     have:=(M2.G.push (Rx.mono M.S U)).push (Ry.mono M.S U);simpa using this
    refine vv htc (ex:=[some x,some y]) (next:=λacc m=>zY (λu v m=>evE cl cond (env++[some u]++[some v]) m) (λu v m=>evE cl elt (env++[some u]++[some v]) m) g n (i+1) acc m)
     (N:=λzs H2=>∃n',n' < n+1/\∃as' m' acc,(∀ (l:Nat) (a:Addr),as1[l]?=some a->as'[l]?=some a)/\Mid K as1 H1 D env σ as' m' acc zs H2/\Post K as1 H1 Q (zY (λu v m=>evE cl cond (env++[some u]++[some v]) m) (λu v m=>evE cl elt (env++[some u]++[some v]) m) g n' (i+1) acc m')) hD M2 G2 (by rw[show env++[some x]++[some y]=env++[some x,some y] from by simp] at Pi;exact Pi) ?_
    intro as2 m2 acc' ys' H2 kp gg M3 P3;exact ⟨n,Nat.lt_succ_self _,as2,m2,acc',λl a e=>gg _ _ (hl l a e),M3,P3⟩
theorem zaa {as:List Addr}{la lb:Nat}{a b:Addr}(ha:as[la]?=some a)(hb:as[lb]?=some b):qZ K as (Itz K a b) (zz .zip (.ref la) (.ref lb)):=by
 intro as' m' H' hl S i;simp only[zz];cases e1:zr m' la with
 | none=>exact ⟨λz=>by simp at z,λx y z=>by simp at z⟩
 | some xs =>
  cases e2:zr m' lb with
  | none=>exact ⟨λz=>by simp at z,λx y z=>by simp at z⟩
  | some ys =>
   obtain ⟨a',us,ha',eH,RL⟩:=ye S (zM e1);rw[hl _ _ ha] at ha';cases ha';obtain ⟨b',vs,hb',eH2,RL2⟩:=ye S (zM e2);rw[hl _ _ hb] at hb';cases hb';simp only;cases ex:xs[i]? with
   | none =>
    refine ⟨λ_=>⟨us,vs,SqL.of eH,SqL.of eH2,.inl ?_⟩,λx y z=>by simp at z⟩;rw[<- RL.length];exact List.getElem?_eq_none_iff.mp ex
   | some x =>
    cases ey:ys[i]? with
    | none =>
     refine ⟨λ_=>⟨us,vs,SqL.of eH,SqL.of eH2,.inr ?_⟩,λx y z=>by simp at z⟩;rw[<- RL2.length];exact List.getElem?_eq_none_iff.mp ey
    | some y =>
     refine ⟨λz=>by simp at z,λx2 y2 z=>?_⟩;simp only[Option.some.injEq,Prod.mk.injEq] at z;obtain ⟨rfl,rfl⟩:=z;obtain ⟨u0,hu0,Ru⟩:=RL.get ex;obtain ⟨v0,hv0,Rv⟩:=RL2.get ey;refine ⟨⟨us,vs,u0,v0,SqL.of eH,SqL.of eH2,hu0,hv0⟩,λv H'' hy=>?_⟩;obtain ⟨p,q,yp,k1,k2⟩:=hy;have:=k1 us (SqL.of eH);rw[hu0] at this;cases this;have:=k2 vs (SqL.of eH2);rw[hv0] at this;cases this;exact ⟨_,_,yp,Ru,Rv⟩
theorem qe {as:List Addr}{la c:Nat}{a:Addr}(ha:as[la]?=some a):qZ K as (Ite K c a) (zz .enum (.ref la) (.int (c:Int))):=by
 intro as' m' H' hl S i;simp only[zz];cases e1:zr m' la with
 | none=>exact ⟨λz=>by simp at z,λx y z=>by simp at z⟩
 | some xs =>
  obtain ⟨a',us,ha',eH,RL⟩:=ye S (zM e1);rw[hl _ _ ha] at ha';cases ha';simp only;cases ex:xs[i]? with
  | none =>
   refine ⟨λ_=>⟨us,SqL.of eH,?_⟩,λx y z=>by simp at z⟩;rw[<- RL.length];exact List.getElem?_eq_none_iff.mp ex
  | some x =>
   refine ⟨λz=>by simp at z,λx2 y2 z=>?_⟩;simp only[Option.map_some,Option.some.injEq,Prod.mk.injEq] at z;obtain ⟨rfl,rfl⟩:=z;obtain ⟨u0,hu0,Ru⟩:=RL.get ex;refine ⟨⟨us,u0,SqL.of eH,hu0⟩,λv H'' hy=>?_⟩;obtain ⟨p,yp,k1⟩:=hy;have:=k1 us (SqL.of eH);rw[hu0] at this;cases this;exact ⟨_,_,yp,rep_int.mpr (by congr 1;lia),Ru⟩
theorem bind_ok {w:Wd}{m:Me}{f:Wd->Me->Rz}:(Rz.ok w m).bind f=f w m:=rfl
theorem kW {c e:Wd->Wd->Me->Rz}{g:Nat->Me->Option (Option (Wd×Wd))}{k i:Nat}{acc:List Wd}{m:Me}(h:g i m=none):zY c e g (k+1) i acc m=.no:=by
 unfold zY;rw[h]
set_option tactic.hygienic true in
theorem zab {w w2:Wd}{i:Nat}{m:Me}{o:Option (Wd×Wd)}(e:zz .zip w w2 i m=some o):∃la lb xs ys,w=.ref la/\w2=.ref lb/\zr m la=some xs/\zr m lb=some ys:=by
 unfold zz at e;split at e
 .next la lb _ =>
  split at e
  .next xs ys e1 e2=>exact ⟨la,lb,xs,ys,rfl,rfl,e1,e2⟩
  .cases e
 .contradiction
 .contradiction
 .contradiction
 .cases e
set_option tactic.hygienic true in
theorem qf {w w2:Wd}{i:Nat}{m:Me}{o:Option (Wd×Wd)}(e:zz .enum w w2 i m=some o):∃la xs,w=.ref la/\zr m la=some xs:=by
 unfold zz at e;split at e
 .next h=>cases h
 .next la s _ =>
  split at e
  .next xs e1=>exact ⟨la,xs,rfl,e1⟩
  .cases e
 .contradiction
 .contradiction
 .cases e
theorem kX {elt a b cond:Ex}{tc:TT}(htc:∀σ H Q,xu K (evE cl cond) σ H Q->tc σ H Q){σ:St}{H:Hp}{Q:VK}(h:tOf K (evE cl (.compP .zip elt a b cond)) σ H Q):
  kF (un2 K) (ziG K (zaK (tOf K (evE cl a)) (zaK (tOf K (evE cl b)) zgu))) tc (tOf K (evE cl elt)) σ H Q:=by
 obtain ⟨as,env,m,S,G,P⟩:=h;have P':Post K as H Q ((evE cl a env m).bind λx m1=>(evE cl b env m1).bind λy m2 =>
  zY (λu v m=>evE cl cond (env++[some u]++[some v]) m) (λu v m=>evE cl elt (env++[some u]++[some v]) m) (zz .zip x y) (lim+1) 0 [] m2):=P
 refine ⟨as,env,m,S,G,zjY P' .refl λw m1 as1 H1 v T1 S1 R1 P1=>?_⟩;refine ⟨as1,env,m1,S1,G.mono S T1,zjY P1 T1 λw2 m2 as2 H2 v2 T2 S2 R2 P2=>?_⟩;have P3:=Post.step P2 (T1.trans T2);have G2:=(G.mono S T1).mono S1 T2;have look:∃la lb xs ys,w=.ref la/\w2=.ref lb/\zr m2 la=some xs/\zr m2 lb=some ys:=by
  cases e:zz .zip w w2 0 m2 with
  | none=>rw[kW e] at P3;exact P3.elim
  | some o=>exact zab e
 obtain ⟨la,lb,xs,ys,rfl,rfl,e1,e2⟩:=look;obtain ⟨a1,ha1,rfl⟩:=rep_ref.mp R1;obtain ⟨b1,hb1,rfl⟩:=rep_ref.mp R2;have ha2:=T2.get ha1;obtain ⟨a',us,ha',eH,RL⟩:=ye S2 (zM e1);rw[ha2] at ha';cases ha';obtain ⟨b',vs,hb',eH2,RL2⟩:=ye S2 (zM e2);rw[hb1] at hb';cases hb';exact ⟨a1,b1,us,vs,rfl,SqL.of eH,SqL.of eH2,kU htc (zaa ha2 hb1) S2 G2 P3⟩
theorem zac {c:Nat}{z:Int}(hz:z=(c:Int)){elt a cond:Ex}{tc:TT}(htc:∀σ H Q,xu K (evE cl cond) σ H Q->tc σ H Q){σ:St}{H:Hp}{Q:VK}(h:tOf K (evE cl (.compP .enum elt a (.lit (.int z)) cond)) σ H Q):
  kF (un2 K) (zfO K c (zaK (tOf K (evE cl a)) zgu)) tc (tOf K (evE cl elt)) σ H Q:=by
 subst hz;obtain ⟨as,env,m,S,G,P⟩:=h;have hl:∀m1,evE cl (.lit (.int (c:Int))) env m1=.ok (.int (c:Int)) m1:=λ_=>rfl;have P':Post K as H Q ((evE cl a env m).bind λx m1=>(evE cl (.lit (.int (c:Int))) env m1).bind λy m2 =>
  zY (λu v m=>evE cl cond (env++[some u]++[some v]) m) (λu v m=>evE cl elt (env++[some u]++[some v]) m) (zz .enum x y) (lim+1) 0 [] m2):=P
 refine ⟨as,env,m,S,G,zjY P' .refl λw m1 as1 H1 v T1 S1 R1 P1=>?_⟩;rw[hl,bind_ok] at P1;have P3:=Post.step P1 T1;have look:∃la xs,w=.ref la/\zr m1 la=some xs:=by
  cases e:zz .enum w (.int (c:Int)) 0 m1 with
  | none=>rw[kW e] at P3;exact P3.elim
  | some o=>exact qf e
 obtain ⟨la,xs,rfl,e1⟩:=look;obtain ⟨a1,ha1,rfl⟩:=rep_ref.mp R1;obtain ⟨a',us,ha',eH,RL⟩:=ye S1 (zM e1);rw[ha1] at ha';cases ha';exact ⟨a1,us,rfl,SqL.of eH,kU htc (qe ha1) S1 (G.mono S T1) P3⟩
theorem jL {elt it cond:Ex}{tc:TT}(htc:∀σ H Q,xu K (evE cl cond) σ H Q->tc σ H Q){σ:St}{H:Hp}{Q:VK}(h:tOf K (evE cl (.comp elt it cond)) σ H Q):
  kF un1 (iOf K (evE cl it)) tc (tOf K (evE cl elt)) σ H Q:=by
 obtain ⟨as,env,m,S,G,P⟩:=h;refine ⟨as,env,m,S,G,?_⟩;have P':Post K as H Q ((evE cl it env m).bind λx m1=>match x with
  | .tup xs=>y8 (λx m=>evE cl cond (env++[some x]) m) (λx m=>evE cl elt (env++[some x]) m) xs [] m1
  | .rol xs=>y8 (λx m=>evE cl cond (env++[some x]) m) (λx m=>evE cl elt (env++[some x]) m) xs [] m1
  | .ref l=>y9 (λx m=>evE cl cond (env++[some x]) m) (λx m=>evE cl elt (env++[some x]) m) l (lim+1) 0 [] m1
  | _=>.no):=P
 clear P;cases hr:evE cl it env m with
 | no=>rw[hr] at P';exact P'
 | exc c w m'=>rw[hr] at P';exact P'
 | ok w m1 =>
  rw[hr] at P';have start:∀ {as1:List Addr}{H1:Hp}{D:Addr},Step as H as1 H1->Sim K as1 m1 H1->H1 D=none->Mid K as1 H1 D env σ as1 m1 [] [] (upd H1 D (.lst [])):=λ{as1 H1 D} T1 S1 hD=>Mid.start (as:=as) (H:=H) S1 (G.mono S T1) hD
  -- over items that stay
  have seqs:∀ (xs:List Wd),Post K as H Q (y8 (λx m=>evE cl cond (env++[some x]) m) (λx m=>evE cl elt (env++[some x]) m) xs [] m1) ->
    ∀as1 H1 J,Step as H as1 H1->Sim K as1 m1 H1->zaS K as1 H1 J xs->∀D,H1 D=none->∃W:Nat->Nat->List V->Hp->Prop,(∃m,W 0 m [] (upd H1 D (.lst [])))/\∀i m ys H,W i m ys H ->
     (J.stop i H/\Q (.ref D) H)\/(J.go i H/\∀v H',J.yld i H v H'->∃vs,un1 v H' vs/\tc (σ++vs.map some) H' λb H2=>if b=true then tOf K (evE cl elt) (σ++vs.map some) H2 λy H3=>H3 D=some (.lst ys)/\ys.length < sizeLine/\∃m',m' < m/\W (i+1) m' (ys++[y]) (upd H3 D (.lst (ys++[y])))
      else ∃m',m' < m/\W (i+1) m' ys H2):=by
   intro xs Pc as1 H1 J T1 S1 hI D hD;obtain ⟨vs,ok,hJ,ok1,RL,stab⟩:=hI;have Pc1:=Post.step Pc T1;have hlen:=RL.length;refine ⟨λi n ys H'=>∃as' m' acc,i<=xs.length/\n=xs.length - i/\Mid K as1 H1 D env σ as' m' acc ys H'/\ok H'/\RepL K as' H' xs vs /\
    Post K as1 H1 Q (y8 (λx m=>evE cl cond (env++[some x]) m) (λx m=>evE cl elt (env++[some x]) m) (xs.drop i) acc m'),
    ⟨xs.length,as1,m1,[],Nat.zero_le _,rfl,start T1 S1 hD,stab _ _ (S1.kp (start T1 S1 hD).T) ok1,RL.mono S1 (start T1 S1 hD).T,Pc1⟩,?_⟩
   rintro i n ys H' ⟨as',m',acc,hi,rfl,M,okH,RL',Pi⟩;by_cases hlt:i < xs.length
   .refine .inr ⟨hJ.go i H' okH (by rw[<- hlen];exact hlt),λv H'' hy=>?_⟩;obtain ⟨rfl,hv⟩:=hJ.yld i H' v H'' okH (by rw[<- hlen];exact hlt) hy;obtain ⟨v',hv',Rx⟩:=RL'.get (i:=i) (x:=xs[i]) (by simp[hlt]);rw[hv] at hv';cases hv';rw[List.drop_eq_getElem_cons hlt] at Pi;refine ⟨[v],rfl,vv htc (sx:=[some v]) (next:=λacc m=>y8 (λx m=>evE cl cond (env++[some x]) m) (λx m=>evE cl elt (env++[some x]) m) (xs.drop (i+1)) acc m) (N:=λzs H2=>∃n',n' < xs.length - i/\∃as' m' acc,i+1<=xs.length/\n'=xs.length - (i+1)/\Mid K as1 H1 D env σ as' m' acc zs H2/\ok H2/\RepL K as' H2 xs vs/\Post K as1 H1 Q (y8 (λx m=>evE cl cond (env++[some x]) m) (λx m=>evE cl elt (env++[some x]) m) (xs.drop (i+1)) acc m')) hD M (M.G.push Rx) Pi ?_⟩;intro as2 m2 acc' ys' H2 kp g M2 P2;exact ⟨xs.length - (i+1),by lia,as2,m2,acc',hlt,rfl,M2,stab _ _ kp okH,repL_mono kp g _ _ RL',P2⟩
   .have e:i=xs.length:=by lia
    subst e;rw[List.drop_length] at Pi;exact .inl ⟨hJ.stop _ H' okH (by lia),xS M.S M.T hD M.hD M.n M.R Pi⟩
  cases w with
  | tup xs=>exact ⟨rfl,λas1 H1 J T1 S1 hI=>seqs xs P' as1 H1 J T1 S1 hI⟩
  | rol xs=>exact ⟨rfl,λas1 H1 J T1 S1 hI=>seqs xs P' as1 H1 J T1 S1 hI⟩
  | ref l =>
   have P2:Post K as H Q (y9 (λx m=>evE cl cond (env++[some x]) m) (λx m=>evE cl elt (env++[some x]) m) l (lim+1) 0 [] m1):=P';refine ⟨?_,λas1 H1 J T1 S1 hI D hD=>?_⟩
   .show (zr m1 l).isSome=true;cases e:zr m1 l with
    | some xs=>rfl
    | none =>
     unfold y9 at P2;rw[e] at P2;exact P2.elim
   .obtain ⟨a,ha,rfl⟩:=hI;have Pc1:=Post.step P2 T1;refine ⟨λi n ys H'=>∃as' m' acc,as'[l]?=some a/\Mid K as1 H1 D env σ as' m' acc ys H' /\
     Post K as1 H1 Q (y9 (λx m=>evE cl cond (env++[some x]) m) (λx m=>evE cl elt (env++[some x]) m) l n i acc m'),⟨lim+1,as1,m1,[],ha,start T1 S1 hD,Pc1⟩,?_⟩
    rintro i n ys H' ⟨as',m',acc,hl,M,Pi⟩;cases n with
    | zero=>exact Pi.elim
    | succ n =>
     unfold y9 at Pi;cases e:zr m' l with
     | none=>rw[e] at Pi;exact Pi.elim
     | some xs =>
      rw[e] at Pi;simp only[] at Pi;obtain ⟨a',vs,ha',eH,RL⟩:=ye M.S (zM e);rw[hl] at ha';cases ha';cases ex:xs[i]? with
      | none =>
       rw[ex] at Pi;have hle:vs.length<=i:=by rw[<- RL.length];exact List.getElem?_eq_none_iff.mp ex
       exact .inl ⟨⟨vs,SqL.of eH,hle⟩,xS M.S M.T hD M.hD M.n M.R Pi⟩
      | some x =>
       rw[ex] at Pi;obtain ⟨v0,hv0,Rx⟩:=RL.get ex;refine .inr ⟨⟨vs,v0,SqL.of eH,hv0⟩,λv H'' hy=>?_⟩;obtain ⟨rfl,hy⟩:=hy;have:=hy vs (SqL.of eH);rw[hv0] at this;cases this;refine ⟨[v0],rfl,vv htc (sx:=[some v0]) (next:=λacc m=>y9 (λx m=>evE cl cond (env++[some x]) m) (λx m=>evE cl elt (env++[some x]) m) l n (i+1) acc m) (N:=λzs H2=>∃n',n' < n+1/\∃as' m' acc,as'[l]?=some a/\Mid K as1 H1 D env σ as' m' acc zs H2/\Post K as1 H1 Q (y9 (λx m=>evE cl cond (env++[some x]) m) (λx m=>evE cl elt (env++[some x]) m) l n' (i+1) acc m')) hD M (M.G.push Rx) Pi ?_⟩;intro as2 m2 acc' ys' H2 kp g M2 P2;exact ⟨n,Nat.lt_succ_self _,as2,m2,acc',g _ _ hl,M2,P2⟩
  | non=>exact P'.elim
  | bl k=>exact P'.elim
  | int i=>exact P'.elim
  | str s=>exact P'.elim
end
section
variable {K:PySem.W.Frag}{as:List Addr}{H H':Hp}{m:Me}{Q:VK}
theorem qg {y:Wd}{v:V}{k:List Int}(h:zbF y=some k)(R:Rep K as H y v):∃a,v=.ref a/\SqT K H a (k.map V.int):=by
 cases y with
 | tup ws =>
  obtain ⟨a,vs,rfl,q,r⟩:=rep_tup.mp R;rw[vu h r] at q;exact ⟨a,rfl,q⟩
 | _=>cases h
theorem zcS:∀ {xs:List TK}{ws:List Wd}{vs:List V}{q:List Int}{w:Wd},RepL K as H ws vs->Vals vs (xs.map (·.2.2))->atK (xs.map (·.1)) ws q=some w->∃p v,atKey xs q=some p/\RelV v p.2/\Rep K as H w v
 | [],ws,vs,q,w,r,rv,h=>by cases ws <;> cases h
 | x::xs,ws,vs,q,w,r,rv,h=>by
  cases ws with
  | nil=>cases h
  | cons y ws =>
   obtain ⟨v,vs',rfl,r1,r2⟩:=repL_cons.mp r;cases rv with
   | cons p1 p2 =>
    have h':(if x.1=q then some y else atK (xs.map (·.1)) ws q)=some w:=h;by_cases e:x.1=q
    .rw[if_pos e] at h';cases h';exact ⟨x.2,v,by simp[atKey,e],p1,r1⟩
    .rw[if_neg e] at h';obtain ⟨p,v',h1,h2,h3⟩:=zcS r2 p2 h';exact ⟨p,v',by simpa [atKey,List.find?_cons,e] using h1,h2,h3⟩
theorem zez {x y:Wd}{v u:V}(S:Sim K as m H)(R:Rep K as H x v)(R':Rep K as H y u)(h:Post K as H Q (jE x y m)):zfN K v u H Q:=by
 unfold jE at h;cases x with
 | ref l =>
  obtain ⟨a,ha,rfl⟩:=rep_ref.mp R;dsimp only at h;cases e:m[l]? with
  | none=>rw[e] at h;exact h.elim
  | some o =>
   cases o with
   | lst ys=>rw[e] at h;exact h.elim
   | dct ks ws =>
    rw[e] at h;dsimp only at h;obtain ⟨a',xs,vs,ha',td,rfl,r,rv,nd⟩:=qV S e;rw[ha] at ha';cases ha';cases ek:zbF y with
    | none=>rw[ek] at h;exact h.elim
    | some k =>
     rw[ek] at h;obtain ⟨b,rfl,qb⟩:=qg ek R';cases ew:atK (xs.map (·.1)) ws k with
     | none=>simp only[Option.bind,ew] at h;exact h.elim
     | some w =>
      simp only[Option.bind,ew] at h;obtain ⟨p,z,h1,h2,h3⟩:=zcS r rv ew;exact ⟨a,b,k,xs,p,rfl,rfl,qb,td,h1,z,h2,h.ok S h3⟩
 | _=>exact h.elim
theorem qh {xs:List TK}{q:List Int}{a:Addr}{u:Value}:(storedH xs q a u).map (·.1)=x5 (xs.map (·.1)) q:=by
 unfold storedH x5;by_cases h:q∈xs.map (·.1)
 .rw[if_pos (atKey_iff.mpr h),if_pos h,keys_map_putAt]
 .rw[if_neg (λz=>h (atKey_iff.mp z)),if_neg h,List.map_append];rfl
theorem qi {ks:List (List Int)}{q:List Int}(h:ks.Nodup):(x5 ks q).Nodup:=by
 unfold x5;by_cases z:q∈ks
 .rw[if_pos z];exact h
 .rw[if_neg z];refine List.nodup_append.mpr ⟨h,by simp,λx hx y hy e=>?_⟩;rw[List.mem_singleton.mp hy] at e;exact z (e▸hx)
theorem zaW {q:List Int}{w:Wd}{v:V}(Rw:Rep K as H w v):∀ {ks:List (List Int)}{ws:List Wd}{vs:List V},RepL K as H ws vs->RepL K as H (yh ks ws q w) (yh ks vs q v)
 | [],ws,vs,r=>r.append (.one Rw)
 | k::ks,ws,vs,r=>by
  cases ws with
  | nil=>obtain rfl:=repL_nil.mp r;exact RepL.one Rw
  | cons x ws =>
   obtain ⟨y,vs',rfl,r1,r2⟩:=repL_cons.mp r;show RepL K as H (if k=q then w::ws else x::yh ks ws q w) (if k=q then v::vs' else y::yh ks vs' q v);by_cases e:k=q
   .rw[if_pos e,if_pos e];exact repL_cons.mpr ⟨v,vs',rfl,Rw,r2⟩
   .rw[if_neg e,if_neg e];exact repL_cons.mpr ⟨y,_,rfl,r1,zaW Rw r2⟩
theorem zaX {q:List Int}{v:V}:∀ {ks:List (List Int)}{vs:List V},q∉ks->ks.length=vs.length->yh ks vs q v=vs++[v]
 | [],vs,_,_=>rfl
 | k::ks,[],_,h=>by cases h
 | k::ks,x::vs,hq,h=>by
  show (if k=q then v::vs else x::yh ks vs q v)=_;rw[if_neg (λe=>hq (by simp[e])),zaX (λz=>hq (by simp[z])) (by simpa using h)];rfl
theorem zaY {q:List Int}{v:V}{u:Value}(ru:RelV v u):∀ {xs:List TK}{vs:List V},(xs.map (·.1)).Nodup->q∈xs.map (·.1)->Vals vs (xs.map (·.2.2))->Vals (yh (xs.map (·.1)) vs q v) ((xs.map (putAt q u)).map (·.2.2))
 | [],vs,_,h,_=>by simp at h
 | x::xs,vs,nd,h,r=>by
  rw[List.map_cons,List.nodup_cons] at nd;cases r with
  | @cons y _ vs' _ p1 p2 =>
   show Vals (if x.1=q then v::vs' else y::yh (xs.map (·.1)) vs' q v) ((putAt q u x).2.2::(xs.map (putAt q u)).map (·.2.2));by_cases e:x.1=q
   .rw[if_pos e,map_putAt_of_not_mem xs q u (e▸nd.1)];unfold putAt;rw[if_pos e];exact .cons ru p2
   .rw[if_neg e];unfold putAt;rw[if_neg e];exact .cons p1 (zaY ru nd.2 (by simpa [Ne.symm e] using h) p2)
theorem qj {xs:List TK}{vs:List V}{q:List Int}{a:Addr}{v:V}{u:Value}(ru:RelV v u)(nd:(xs.map (·.1)).Nodup)(r:Vals vs (xs.map (·.2.2))):Vals (yh (xs.map (·.1)) vs q v) ((storedH xs q a u).map (·.2.2)):=by
 unfold storedH;by_cases h:q∈xs.map (·.1)
 .rw[if_pos (atKey_iff.mpr h)];exact zaY ru nd h r
 .rw[if_neg (λz=>h (atKey_iff.mp z)),List.map_append];rw[zaX h (by have:=r.length;simp at this ⊢;lia)];exact r.append (.cons ru .nil)
theorem zad {xs:List TK}{q:List Int}{a:Addr}{u:Value}:∀x∈storedH xs q a u,(∃y∈xs,y.1=x.1/\y.2.1=x.2.1)\/(x.1=q/\x.2.1=a):=λx hx=>by
 unfold storedH at hx;split at hx
 .obtain ⟨y,hy,rfl⟩:=List.mem_map.mp hx;refine .inl ⟨y,hy,?_⟩;unfold putAt;split <;> exact ⟨rfl,rfl⟩
 .rcases List.mem_append.mp hx with z | z
  .exact .inl ⟨x,z,rfl,rfl⟩
  .rw[List.mem_singleton.mp z];exact .inr ⟨rfl,rfl⟩
theorem Sim.setD {l:Nat}{a b:Addr}{ks:List (List Int)}{ws:List Wd}{xs:List TK}{vs:List V}{q:List Int}{w:Wd}{v:V}{u:Value}(S:Sim K as m H)(ha:as[l]?=some a)(hm:m[l]?=some (.dct ks ws))(td:kH K H a xs)(ek:xs.map (·.1)=ks)(r:RepL K as H ws vs)(rv:Vals vs (xs.map (·.2.2)))(nd:ks.Nodup)(qb:SqT K H b (q.map V.int))(Rw:Rep K as H w v)(ru:RelV v u):
  Step as H as (upd H a (xY a (storedH xs q b u)))/\Sim K as (m.set l (.dct (x5 ks q) (yh ks ws q w))) (upd H a (xY a (storedH xs q b u))):=by
 have hin:a∈as:=List.mem_of_getElem? ha;have T:Step as H as (upd H a (xY a (storedH xs q b u))):=⟨⟨[],by simp⟩,λc o h hb=>by
  rw[zg (by rintro rfl;exact hb hin)];exact h,λc hb=>.inl hb⟩
 have kp:Kp K H (upd H a (xY a (storedH xs q b u))):=Kp.updL td.1 trivial;refine ⟨T,⟨by simp[S.len],S.nd,λk c o h1 h2=>?_⟩⟩;by_cases hk:k=l
 .subst hk;rw[ha] at h1;cases h1;rw[List.getElem?_set_self (List.getElem?_eq_some_iff.mp hm).1] at h2;cases h2;subst ek;refine ⟨storedH xs q b u,yh (xs.map (·.1)) vs q v,⟨zh,λx hx=>?_⟩,qh,(zaW Rw r).kp kp,qj ru nd rv,qi nd⟩;rcases zad x hx with ⟨y,hy,e1,e2⟩ | ⟨e1,e2⟩
  .rw[<- e1,<- e2];exact kp.t _ _ (td.2 y hy)
  .rw[e1,e2];exact kp.t _ _ qb
 .rw[List.getElem?_set_ne (Ne.symm hk)] at h2;have q':=S.obj k c o h1 h2;have hb:c≠a:=by
   rintro rfl;obtain ⟨i1,e1⟩:=List.getElem?_eq_some_iff.mp h1;obtain ⟨i2,e2⟩:=List.getElem?_eq_some_iff.mp ha;exact hk ((List.getElem_inj S.nd).mp (e1.trans e2.symm))
  exact RepO.mono kp (λ_ _ e=>e) (λo e=>by rw[zg hb];exact e) q'
theorem Sim.updK (S:Sim K as m H)(k:Kp K H H')(e:∀a∈as,∀o,H a=some o->H' a=some o):Sim K as m H' :=
 ⟨S.len,S.nd,λl b o h1 h2=>RepO.mono k (λ_ _ e=>e) (e b (List.mem_of_getElem? h1)) (S.obj l b o h1 h2)⟩
theorem Sim.newD {p:Addr}(S:Sim K as m H)(hp:H p=none):Step as H (as++[p]) (upd H p (xY p []))/\Sim K (as++[p]) (m++[.dct [] []]) (upd H p (xY p [])):=by
 have hn:=S.new hp;have T:Step as H (as++[p]) (upd H p (xY p [])):=⟨⟨[p],rfl⟩,λb o h _=>by rw[zg (zq h hp)];exact h,λb hb=>by
  rcases List.mem_append.mp hb with z | z
  .exact .inl z
  .exact .inr (by rw[List.mem_singleton.mp z];exact hp)⟩
 refine ⟨T,⟨by simp[S.len],?_,λl b o h1 h2=>?_⟩⟩
 .refine List.nodup_append.mpr ⟨S.nd,by simp,λx hx y hy=>?_⟩;rw[List.mem_singleton.mp hy];rintro rfl;exact hn hx
 .by_cases hl:l < as.length
  .rw[List.getElem?_append_left hl] at h1;rw[List.getElem?_append_left (by rw[<- S.len];exact hl)] at h2;exact RepO.mono (S.kp T) (λ_ _ e=>T.get e) (λo e=>by rw[zg (zq e hp)];exact e) (S.obj l b o h1 h2)
  .rw[List.getElem?_append_right (by lia)] at h1;rw[List.getElem?_append_right (by rw[<- S.len];lia)] at h2;have hz:l - as.length=0:=by
    cases hq:l - as.length with
    | zero=>rfl
    | succ k=>rw[hq] at h1;simp at h1
   rw[hz] at h1;rw[<- S.len,hz] at h2;simp at h1 h2;subst h1;subst h2;exact ⟨[],[],⟨zh,λx hx=>by simp at hx⟩,rfl,repL_nil.mpr rfl,.nil,List.nodup_nil⟩
end
section
variable {cl:Nat->List Wd->Me->Rz}{X:Cx}{a b:Ex}{x y:Expr}{pos:Pos}
theorem zcT:PE X (.Dict [] [] pos) (tOf X.K (evE cl .dict0)):=by
 refine PE.imp zbE λσ H Q h d hd=>?_;obtain ⟨as,env,m,S,G,P⟩:=h;obtain ⟨T,S'⟩:=S.newD hd;have P':Post X.K as H Q (.ok (.ref m.length) (m++[.dct [] []])):=P;refine P' _ _ _ T S' (rep_ref.mpr ⟨d,?_,rfl⟩);rw[<- S.len,List.getElem?_append_right (Nat.le_refl _)];simp
theorem zeA (hu:X.A.units+64 < cLine)(ha:PE X x (tOf X.K (evE cl a)))(hb:PE X y (tOf X.K (evE cl b)))(hs:yY y=true):PE X (.Subscript x y pos) (tOf X.K (evE cl (.dget a b))):=by
 have hp:jS y:=λo i=>by cases y <;> first | rfl | cases hs
 refine PE.imp (zaL (ix_T hu) ha hb hp) λσ H Q h=>?_;obtain ⟨as,env,m,S,G,P⟩:=h;refine ⟨as,env,m,S,G,Post.bind P λx m1 as1 H1 v T1 S1 R1 P1=>?_⟩;refine ⟨as1,env,m1,S1,G.mono S T1,Post.bind P1 λy m2 as2 H2 u T2 S2 R2 P2=>?_⟩;exact zez S2 (R1.mono S1 T2) R2 P2
end
section
variable {cl:Nat->List Wd->Me->Rz}
theorem zjZ {r:Rz}{f:Wd->Me->Rz}{w:Wd}{m:Me}(h:r.bind f=.ok w m):∃x m1,r=.ok x m1/\f x m1=.ok w m:=by
 cases r with
 | ok x m1=>exact ⟨x,m1,rfl,h⟩
 | exc c x m1=>cases h
 | no=>cases h
theorem zeB {i:Nat}{k:List Nat}{env:En}{m:Me}{w:Wd}(hw:env[i]?=some (some w))(hs:∀s,w≠.str s):evE cl (.cmp .eq (.var i) (.lit (.str k))) env m=.ok (.bl false) m\/evE cl (.cmp .eq (.var i) (.lit (.str k))) env m=.no:=by
 show ((match env[i]? with | some (some w)=>Rz.ok w m | _=>.no).bind λx m1=>(Rz.ok (.str k) m1).bind λy m2=>cop .eq x y m2)=_\/((match env[i]? with | some (some w)=>Rz.ok w m | _=>.no).bind λx m1=>(Rz.ok (.str k) m1).bind λy m2=>cop .eq x y m2)=_;rw[hw];cases w with
 | str s=>exact absurd rfl (hs s)
 | rol xs=>exact .inr rfl
 | ref l =>
  show ofB (if isLst m l && true then some false else none) m=_\/ofB (if isLst m l && true then some false else none) m=_;cases isLst m l
  .exact .inr rfl
  .exact .inl rfl
 | _=>exact .inl rfl
theorem qk {c a b:Ex}{env:En}{m m1:Me}(h:evE cl c env m=.ok (.bl false) m1):evE cl (.ife c a b) env m=evE cl b env m1:=by
 show (evE cl c env m).bind _=_;rw[h];rfl
theorem zaZ {c a b:Ex}{env:En}{m m1:Me}(h:evE cl c env m=.ok (.bl true) m1):evE cl (.ife c a b) env m=evE cl a env m1:=by
 show (evE cl c env m).bind _=_;rw[h];rfl
theorem zcU {c a b:Ex}{env:En}{m:Me}(h:evE cl c env m=.no):evE cl (.ife c a b) env m=.no:=by
 show (evE cl c env m).bind _=_;rw[h];rfl
theorem vR {i:Nat}{k s:List Nat}{env:En}{m:Me}(hw:env[i]?=some (some (.str s))):evE cl (.cmp .eq (.var i) (.lit (.str k))) env m=.ok (.bl (decide (s=k))) m:=by
 show ((match env[i]? with | some (some w)=>Rz.ok w m | _=>.no).bind λx m1=>(Rz.ok (.str k) m1).bind λy m2=>cop .eq x y m2)=_;rw[hw];rfl
theorem zeC {i:Nat}{k1 k2 k3 k4:List Nat}{env:En}{m m':Me}{w:Wd}(h:evE cl (kK i k1 k2 k3 k4) env m=.ok w m'):m'=m/\(w=.non\/∃s j,env[i]?=some (some (.str s))/\w=.int j/\kL s k1 k2 k3 k4 (0:Int) 1 2 3=some j):=by
 unfold kK at h;cases e:env[i]? with
 | none =>
  have:evE cl (.cmp .eq (.var i) (.lit (.str k1))) env m=.no:=by
   show ((match env[i]? with | some (some w)=>Rz.ok w m | _=>.no).bind _)=_;rw[e];rfl
  rw[zcU this] at h;cases h
 | some o =>
  cases o with
  | none =>
   have:evE cl (.cmp .eq (.var i) (.lit (.str k1))) env m=.no:=by
    show ((match env[i]? with | some (some w)=>Rz.ok w m | _=>.no).bind _)=_;rw[e];rfl
   rw[zcU this] at h;cases h
  | some x =>
   by_cases hs:∃s,x=.str s
   .obtain ⟨s,rfl⟩:=hs;unfold kL;by_cases q1:s=k1
    .rw[zaZ (by rw[vR e,decide_eq_true q1])] at h;cases h;exact ⟨rfl,.inr ⟨s,0,rfl,rfl,by rw[if_pos q1]⟩⟩
    rw[qk (by rw[vR e,decide_eq_false q1])] at h;by_cases q2:s=k2
    .rw[zaZ (by rw[vR e,decide_eq_true q2])] at h;cases h;exact ⟨rfl,.inr ⟨s,1,rfl,rfl,by rw[if_neg q1,if_pos q2]⟩⟩
    rw[qk (by rw[vR e,decide_eq_false q2])] at h;by_cases q3:s=k3
    .rw[zaZ (by rw[vR e,decide_eq_true q3])] at h;cases h;exact ⟨rfl,.inr ⟨s,2,rfl,rfl,by rw[if_neg q1,if_neg q2,if_pos q3]⟩⟩
    rw[qk (by rw[vR e,decide_eq_false q3])] at h;by_cases q4:s=k4
    .rw[zaZ (by rw[vR e,decide_eq_true q4])] at h;cases h;exact ⟨rfl,.inr ⟨s,3,rfl,rfl,by rw[if_neg q1,if_neg q2,if_neg q3,if_pos q4]⟩⟩
    rw[qk (by rw[vR e,decide_eq_false q4])] at h;cases h;exact ⟨rfl,.inl rfl⟩
   .have hs':∀s,x≠.str s:=λs z=>hs ⟨s,z⟩;have go:∀ {k:List Nat}{a b:Ex}{r:Rz},evE cl (.ife (.cmp .eq (.var i) (.lit (.str k))) a b) env m=.ok w m'->evE cl b env m=.ok w m':=λ{k a b r} h=>by
     rcases zeB (cl:=cl) (k:=k) (m:=m) e hs' with z | z
     .rw[qk z] at h;exact h
     .rw[zcU z] at h;cases h
    have h:=go (r:=.no) (go (r:=.no) (go (r:=.no) (go (r:=.no) h)));cases h;exact ⟨rfl,.inl rfl⟩
set_option tactic.hygienic true in
theorem zcV {i:Nat}{k1 k2 k3 k4:List Nat}{a b c d:Ex}{env:En}{m m':Me}{w:Wd}(h:evE cl (.idx (wT a b c d) (kK i k1 k2 k3 k4)) env m=.ok w m'):
  ∃wa m1 wb m2 wc m3 wd s,evE cl a env m=.ok wa m1/\evE cl b env m1=.ok wb m2/\evE cl c env m2=.ok wc m3/\evE cl d env m3=.ok wd m'/\env[i]?=some (some (.str s))/\kL s k1 k2 k3 k4 wa wb wc wd=some w:=by
 obtain ⟨x,mx,h1,h2⟩:=zjZ (show (evE cl (wT a b c d) env m).bind (λx m1=>(evE cl (kK i k1 k2 k3 k4) env m1).bind λy m2=>kJ x y m2)=_ from h);obtain ⟨y,my,h3,h4⟩:=zjZ h2;obtain ⟨rfl,hy⟩:=zeC h3;obtain ⟨z,mz,g1,g2⟩:=zjZ (show (evE cl (.pair a (.pair b (.pair c (.pair d .unit)))) env m).bind (λx m1=>if (zn x).length<=lim then Rz.ok (.tup (zn x)) m1 else .no)=_ from h1);obtain ⟨wa,m1,p1,q1⟩:=zjZ (show (evE cl a env m).bind (λx m1=>(evE cl (.pair b (.pair c (.pair d .unit))) env m1).bind λy m2=>Rz.ok (.tup (x::zn y)) m2)=_ from g1);obtain ⟨yb,n1,p2,q2⟩:=zjZ q1;obtain ⟨wb,m2,p3,q3⟩:=zjZ (show (evE cl b env m1).bind (λx m1=>(evE cl (.pair c (.pair d .unit)) env m1).bind λy m2=>Rz.ok (.tup (x::zn y)) m2)=_ from p2);obtain ⟨yc,n2,p4,q4⟩:=zjZ q3;obtain ⟨wc,m3,p5,q5⟩:=zjZ (show (evE cl c env m2).bind (λx m1=>(evE cl (.pair d .unit) env m1).bind λy m2=>Rz.ok (.tup (x::zn y)) m2)=_ from p4);obtain ⟨yd,n3,p6,q6⟩:=zjZ q5;obtain ⟨wd,m4,p7,q7⟩:=zjZ (show (evE cl d env m3).bind (λx m1=>(Rz.ok (.tup []) m1).bind λy m2=>Rz.ok (.tup (x::zn y)) m2)=_ from p6);cases q7;cases q6;cases q4;cases q2
 replace g2:(if ([wa,wb,wc,wd]:List Wd).length<=lim then Rz.ok (.tup [wa,wb,wc,wd]) mz else .no)=.ok x my:=g2
 rw[if_pos (show ([wa,wb,wc,wd]:List Wd).length<=lim by show 4<=lim;decide)] at g2;cases g2;rcases hy with rfl | ⟨s,j,e,rfl,hj⟩
 .cases h4
 .refine ⟨wa,m1,wb,m2,wc,m3,wd,s,p1,p3,p5,?_,e,?_⟩
  .unfold kL at hj;split at hj
   .cases hj;cases h4;exact p7
   .split at hj
    .cases hj;cases h4;exact p7
    .split at hj
     .cases hj;cases h4;exact p7
     .split at hj
      .cases hj;cases h4;exact p7
      .cases hj
  .unfold kL at hj ⊢;split at hj
   .next z=>rw[if_pos z];cases hj;cases h4;rfl
   .next z =>
    rw[if_neg z];split at hj
    .next z=>rw[if_pos z];cases hj;cases h4;rfl
    .next z =>
     rw[if_neg z];split at hj
     .next z=>rw[if_pos z];cases hj;cases h4;rfl
     .next z =>
      rw[if_neg z];split at hj
      .next z=>rw[if_pos z];cases hj;cases h4;rfl
      .cases hj
end
section
theorem j5 {s:Str}{k:List Nat}(h:s.cps.toList=k):s=⟨k.toArray⟩:=by subst h;simp
set_option tactic.hygienic true in
theorem zcW {s k1 k2 k3 k4:List Nat}{v1 v2 v3 v4:V}{w1 w2 w3 w4 w:Wd}{R:Wd->V->Prop}(h:kL s k1 k2 k3 k4 w1 w2 w3 w4=some w)(r1:R w1 v1)(r2:R w2 v2)(r3:R w3 v3)(r4:R w4 v4)(n12:k1≠k2)(n13:k1≠k3)(n14:k1≠k4)(n23:k2≠k3)(n24:k2≠k4)(n34:k3≠k4):
  ∃v,xR (wM [] [((Sum.inr ⟨k1.toArray⟩:Key),v1),(Sum.inr ⟨k2.toArray⟩,v2),(Sum.inr ⟨k3.toArray⟩,v3),(Sum.inr ⟨k4.toArray⟩,v4)]) (Sum.inr ⟨s.toArray⟩)=some v/\R w v:=by
 have inj:∀ {p q:List Nat},p≠q->¬((Sum.inr ⟨p.toArray⟩:Key)=Sum.inr ⟨q.toArray⟩):=λh e=>by
  injection e with e;injection e with e
  exact h (by simpa using congrArg Array.toList e)
 have e:wM [] [((Sum.inr ⟨k1.toArray⟩:Key),v1),(Sum.inr ⟨k2.toArray⟩,v2),(Sum.inr ⟨k3.toArray⟩,v3),(Sum.inr ⟨k4.toArray⟩,v4)]=[((Sum.inr ⟨k1.toArray⟩:Key),v1),(Sum.inr ⟨k2.toArray⟩,v2),(Sum.inr ⟨k3.toArray⟩,v3),(Sum.inr ⟨k4.toArray⟩,v4)]:=by
  simp only[wM,List.foldl,gZ,List.any_nil,List.any_cons,List.nil_append,List.cons_append,decide_eq_false (inj n12),decide_eq_false (inj n13),decide_eq_false (inj n14),decide_eq_false (inj n23),decide_eq_false (inj n24),decide_eq_false (inj n34),Bool.or_self,Bool.false_eq_true,if_false]
 rw[e];unfold kL at h;split at h
 .next z=>subst z;cases h;exact ⟨v1,xF rfl,r1⟩
 .next z1 =>
  rw[x6 (inj (Ne.symm z1))];split at h
  .next z=>subst z;cases h;exact ⟨v2,xF rfl,r2⟩
  .next z2 =>
   rw[x6 (inj (Ne.symm z2))];split at h
   .next z=>subst z;cases h;exact ⟨v3,xF rfl,r3⟩
   .next z3 =>
    rw[x6 (inj (Ne.symm z3))];split at h
    .next z=>subst z;cases h;exact ⟨v4,xF rfl,r4⟩
    .cases h
end
section
variable {cl:Nat->List Wd->Me->Rz}{X:Cx}
theorem zgY (x y:Int)(env:En)(m:Me):evE cl (tp2 x y) env m=.ok (.tup [.int x,.int y]) m :=
 if_pos (e:=Rz.no) (c:=([Wd.int x,.int y]:List Wd).length<=lim) (show 2<=lim by decide)
theorem wW {K:PySem.W.Frag}{b:Addr}{x y:Int}(h:zer K b [.int x,.int y])(as:List Addr)(H:Hp):Rep K as H (.tup [.int x,.int y]) (.ref b) :=
 rep_tup.mpr ⟨b,[.int x,.int y],rfl,.inr h,repL_cons.mpr ⟨_,_,rfl,rep_int.mpr rfl,repL_cons.mpr ⟨_,_,rfl,rep_int.mpr rfl,repL_nil.mpr rfl⟩⟩⟩
theorem zeD {x1 y1 x2 y2 x3 y3 x4 y4:Int}{k1 k2 k3 k4:List Nat}{nm dn:Str}{i:Nat}{a:Addr}{pos pd pn:Pos}(n12:k1≠k2)(n13:k1≠k3)(n14:k1≠k4)(n23:k2≠k3)(n24:k2≠k4)(n34:k3≠k4)
  (hd:PE X (.Name dn pd) (tC (.ref a))) (D:zcE X.K X.w a [(k1,x1,y1),(k2,x2,y2),(k3,x3,y3),(k4,x4,y4)]) (hv:PE X (.Name nm pn) (jp i)) :
  PE X (.Subscript (.Name dn pd) (.Name nm pn) pos) (tOf X.K (evE cl (.idx (wT (tp2 x1 y1) (tp2 x2 y2) (tp2 x3 y3) (tp2 x4 y4)) (kK i k1 k2 k3 k4)))):=by
 refine PE.imp (zaL ix_K hd hv (λ_ _=>rfl)) λσ H Q h=>?_;obtain ⟨as,env,m,S,G,P⟩:=h;cases hr:evE cl (.idx (wT (tp2 x1 y1) (tp2 x2 y2) (tp2 x3 y3) (tp2 x4 y4)) (kK i k1 k2 k3 k4)) env m with
 | no=>rw[hr] at P;exact P.elim
 | exc c w m'=>rw[hr] at P;exact P.elim
 | ok w m' =>
  rw[hr] at P;obtain ⟨wa,m1,wb,m2,wc,m3,wd,s,ea,eb,ec,ed,es,hp⟩:=zcV hr;rw[zgY] at ea eb ec ed;cases ea;cases eb;cases ec;cases ed;obtain ⟨vs,hvs,rs⟩:=G.get i _ es;obtain rfl:=rep_str.mp rs;obtain ⟨o,ep,kvs,hK,f,dv⟩:=ziC (P:=X.prog) D (by simp[n12,n13,n14,n23,n24,n34])
  match kvs,f,dv with
  | [],f,dv=>cases (show _=_ from dv)
  | u1::[],f,dv=>obtain ⟨_,_,_,_,b1,e,rfl,t1,dv⟩:=dv;cases e;cases (show _=_ from dv)
  | u1::u2::[],f,dv =>
   obtain ⟨_,_,_,_,b1,e,rfl,t1,dv⟩:=dv;cases e;obtain ⟨_,_,_,_,b2,e,rfl,t2,dv⟩:=dv;cases e;cases (show _=_ from dv)
  | u1::u2::u3::[],f,dv =>
   obtain ⟨_,_,_,_,b1,e,rfl,t1,dv⟩:=dv;cases e;obtain ⟨_,_,_,_,b2,e,rfl,t2,dv⟩:=dv;cases e;obtain ⟨_,_,_,_,b3,e,rfl,t3,dv⟩:=dv;cases e;cases (show _=_ from dv)
  | u1::u2::u3::u4::r,f,dv =>
   obtain ⟨_,_,_,_,b1,e,rfl,t1,dv⟩:=dv;cases e;obtain ⟨_,_,_,_,b2,e,rfl,t2,dv⟩:=dv;cases e;obtain ⟨_,_,_,_,b3,e,rfl,t3,dv⟩:=dv;cases e;obtain ⟨_,_,_,_,b4,e,rfl,t4,dv⟩:=dv;cases e;cases r with
   | cons _ _=>obtain ⟨_,_,_,_,_,e,_⟩:=dv;cases e
   | nil =>
    obtain ⟨v,hv1,hv2⟩:=zcW (R:=Rep X.K as H) hp (wW t1 as H) (wW t2 as H) (wW t3 as H) (wW t4 as H) n12 n13 n14 n23 n24 n34;have nd:([((Sum.inr ⟨k1.toArray⟩:Key),V.ref b1),(Sum.inr ⟨k2.toArray⟩,.ref b2),(Sum.inr ⟨k3.toArray⟩,.ref b3),(Sum.inr ⟨k4.toArray⟩,.ref b4)].map (·.1)).Nodup:=by simp[n12,n13,n14,n23,n24,n34]
    rw[jK nd (ps:=[]) (by simpa using nd),List.nil_append] at hv1;exact ⟨.str ⟨s.toArray⟩,hvs,a,o,ep,_,Sum.inr ⟨s.toArray⟩,v,rfl,rfl,f,hK,hv1,P as H v Step.refl S hv2⟩
end
end Mini
namespace Mini
open PySem L2
theorem dc4 {K:PySem.W.Frag}{w:World}{a b1 b2 b3 b4:Addr}{e1 e2 e3 e4:Int}{t1 t2 t3 t4 r1 r2 r3 r4 z1 z2 z3 z4:Tok}{ep n1 n2 n3 n4:Nat}{k1 k2 k3 k4:List Nat}{x1 y1 x2 y2 x3 y3 x4 y4:Int}{o1 o2 o3 o4:Option Addr}{l1 l2 l3 l4:Array (Option Value)}(h0:(a == sysModules)=false)
  (h1:K.lookup a=some ⟨.type "dict",none,.dict #[⟨e1,.str ⟨⟨k1⟩⟩ t1,.ref b1⟩,⟨e2,.str ⟨⟨k2⟩⟩ t2,.ref b2⟩,⟨e3,.str ⟨⟨k3⟩⟩ t3,.ref b3⟩,⟨e4,.str ⟨⟨k4⟩⟩ t4,.ref b4⟩] ep,#[]⟩)
  (u1:K.lookup b1=some ⟨.type "tuple",o1,.seq #[.int x1 r1,.int y1 z1] n1,l1⟩) (u2:K.lookup b2=some ⟨.type "tuple",o2,.seq #[.int x2 r2,.int y2 z2] n2,l2⟩) (u3:K.lookup b3=some ⟨.type "tuple",o3,.seq #[.int x3 r3,.int y3 z3] n3,l3⟩) (u4:K.lookup b4=some ⟨.type "tuple",o4,.seq #[.int x4 r4,.int y4 z4] n4,l4⟩)
  (q1:e1=hashStr w ⟨⟨k1⟩⟩) (q2:e2=hashStr w ⟨⟨k2⟩⟩) (q3:e3=hashStr w ⟨⟨k3⟩⟩) (q4:e4=hashStr w ⟨⟨k4⟩⟩):zcE K w a [(k1,x1,y1),(k2,x2,y2),(k3,x3,y3),(k4,x4,y4)]:=by
 have tk:∀ {b:Addr}{o:Option Addr}{l:Array (Option Value)}{x y:Int}{r z:Tok}{n:Nat},K.lookup b=some ⟨.type "tuple",o,.seq #[.int x r,.int y z] n,l⟩->zer K b [.int x,.int y]:=λh =>
  ⟨_,_,_,h,rfl,rfl,(show 2<=sizeLine by decide),.cons ⟨_,rfl⟩ (.cons ⟨_,rfl⟩ .nil)⟩
 exact ⟨h0,_,_,_,h1,⟨rfl,rfl,rfl⟩,rfl,_,_,_,_,_,_,rfl,rfl,q1,rfl,tk u1,_,_,_,_,_,_,rfl,rfl,q2,rfl,tk u2,_,_,_,_,_,_,rfl,rfl,q3,rfl,tk u3,_,_,_,_,_,_,rfl,rfl,q4,rfl,tk u4,rfl⟩
end Mini
namespace Mini
open PySem PySem.Spec PyProof.Rows L2
section
variable {cl:Nat->List Wd->Me->Rz}
theorem Snd.pe {X:Cx}{e:Ex}{x:Expr}(h:Snd cl X e (.e x))(hr:zo e=false):PE X x (tOf X.K (evE cl e)):=(h.1 hr).1
theorem Snd.pt {X:Cx}{e:Ex}{x:Expr}(h:Snd cl X e (.e x))(hr:zo e=false)(hi:jq e=false):PT X x (xu X.K (evE cl e)):=(h.1 hr).2.1 hi
theorem Snd.pa {X:Cx}{e:Ex}{xs:List Expr}(h:Snd cl X e (.a xs)):PA X xs (kS X.K (evE cl e)):=h
theorem kY {sc:Scope}{x:Str}(h:g0 sc x=true):Vis sc x:=by
 unfold g0 at h;simp only[Bool.or_eq_true,decide_eq_true_eq] at h;exact h
theorem wG {sc:Scope}{x:Str}(h:glB sc x=true):sc.names.lookup x=some .globalImplicit:=of_decide_eq_true h
theorem wX {K:PySem.W.Frag}{w:Wd}{v:V}(hv:∀as H,Rep K as H w v):∀σ H Q,tOf K (evE cl (.lit w)) σ H Q->tC v σ H Q:=λσ H Q h=>by
 obtain ⟨as,env,m,S,G,P⟩:=h;exact Post.ok (m:=m) P S (hv as H)
theorem vw {env:Env}{y:Expr}(hs:yH y=true):∀v,foldedSetIterable y env v=pure v:=λv=>by
 cases y <;> first | rfl | cases hs
def IsE (C:Ctx)(sc:Scope)(N:List Str)(e:Ex)(n:Nd):Prop:=∀ (cl:Nat → List Wd → Me → Rz) (d:Nat) (X:Cx),CtxOk C X cl d → X.env.scope=sc → X.N=N → Snd cl X e n
theorem yq {C:Ctx}{d:Nat}{sc:Scope}{N:List Str}{e:Ex}{n:Nd}(h:IsE C sc N e n):∀X:Cx,CtxOk C X cl d->X.env.scope=sc->X.N=N->Snd cl X e n:=h cl d
theorem IsE.«var» {C:Ctx}{sc:Scope}{N:List Str}{i:Nat}{x:Str}{p:Pos}(h1:N[i]?=some x)(h2:g0 sc x=true)(h3:yx x=true):IsE C sc N (.var i) (.e (.Name x p)):=by
 intro cl d;intro X hC es eN;subst es;subst eN;obtain ⟨n1,n2,_⟩:=yP h3;refine Snd.of (PE.imp (kA h1 (kY h2) n1 n2) λσ H Q q=>?_);obtain ⟨as,env,m,S,G,P⟩:=q;cases hw:env[i]? with
 | none=>have P':Post X.K as H Q (match env[i]? with | some (some w)=>.ok w m | _=>.no):=P;rw[hw] at P';exact P'.elim
 | some o =>
  cases o with
  | none=>have P':Post X.K as H Q (match env[i]? with | some (some w)=>.ok w m | _=>.no):=P;rw[hw] at P';exact P'.elim
  | some w =>
   have P':Post X.K as H Q (match env[i]? with | some (some w)=>.ok w m | _=>.no):=P;rw[hw] at P';obtain ⟨v,hv,R⟩:=G.get i w hw;exact ⟨v,hv,Post.ok (m:=m) P' S R⟩
theorem IsE.«non» {C:Ctx}{sc:Scope}{N:List Str}{k}{p:Pos}:IsE C sc N (.lit .non) (.e (.Constant .none k p)):=by
 intro cl d;intro X hC es eN;exact Snd.of (PE.imp zf4 (wX λ_ _=>rep_non.mpr rfl))
theorem IsE.«bl» {C:Ctx}{sc:Scope}{N:List Str}{b:Bool}{k}{p:Pos}:IsE C sc N (.lit (.bl b)) (.e (.Constant (.bool b) k p)):=by
 intro cl d;intro X hC es eN;exact Snd.of (PE.imp zhX (wX λ_ _=>rep_bl.mpr rfl))
theorem IsE.«int» {C:Ctx}{sc:Scope}{N:List Str}{i:Int}{k}{p:Pos}:IsE C sc N (.lit (.int i)) (.e (.Constant (.int i) k p)):=by
 intro cl d;intro X hC es eN;exact Snd.of (PE.imp zf3 (wX λ_ _=>rep_int.mpr rfl))
theorem IsE.«str» {C:Ctx}{sc:Scope}{N:List Str}{s:Str}{t:List Nat}{k}{p:Pos}(h:s.cps.toList=t):IsE C sc N (.lit (.str t)) (.e (.Constant (.str s) k p)):=by
 intro cl d;intro X hC es eN;subst h;exact Snd.of (PE.imp kB (wX λ_ _=>rep_str.mpr (by simp)))
theorem IsE.«con» {C:Ctx}{sc:Scope}{N:List Str}{x:Str}{i:Int}{p:Pos}(h1:glB sc x=true)(h2:C.cons.lookup x=some i)(h3:yx x=true):IsE C sc N (.lit (.int i)) (.e (.Name x p)):=by
 intro cl d;intro X hC es eN;subst es;obtain ⟨n1,n2,_⟩:=yP h3;obtain ⟨t,ht⟩:=hC.con.1 x i h2;exact Snd.of (PE.imp (zaF (wG h1) ht (v:=.int i) ⟨t,rfl⟩ n1) (wX λ_ _=>rep_int.mpr rfl))
theorem IsE.«bin» {C:Ctx}{sc:Scope}{N:List Str}{op:Bo}{a b:Ex}{x y:Expr}{p:Pos}(ra:zo a=false)(ha:IsE C sc N a (.e x))(rb:zo b=false)(hb:IsE C sc N b (.e y)):IsE C sc N (.bin op a b) (.e (.BinOp x (opK op) y p)):=by
 intro cl d;have iha:=ha cl d;have ihb:=hb cl d;intro X hC es eN;exact Snd.of (zgM ((iha X hC es eN).pe ra) ((ihb X hC es eN).pe rb))
theorem IsE.«neg» {C:Ctx}{sc:Scope}{N:List Str}{a:Ex}{x:Expr}{p:Pos}(ra:zo a=false)(ha:IsE C sc N a (.e x)):IsE C sc N (.neg a) (.e (.UnaryOp .USub x p)):=by
 intro cl d;have iha:=ha cl d;intro X hC es eN;exact Snd.of (zgN ((iha X hC es eN).pe ra))
theorem IsE.«not» {C:Ctx}{sc:Scope}{N:List Str}{a:Ex}{x:Expr}{p:Pos}(ra:zo a=false)(ia:jq a=false)(ha:IsE C sc N a (.e x)):IsE C sc N (.not a) (.e (.UnaryOp .Not x p)):=by
 intro cl d;have iha:=ha cl d;intro X hC es eN;have s1:=iha X hC es eN;exact ⟨λ_=>⟨zcG (s1.pe ra),λ_=>zgO (s1.pt ra ia),λop vs pos z=>by cases z⟩,λtg=>kO (zcG (s1.pe ra))⟩
theorem IsE.«and2» {C:Ctx}{sc:Scope}{N:List Str}{a b:Ex}{x y:Expr}{p:Pos}(ra:zo a=false)(ia:jq a=false)(ha:IsE C sc N a (.e x))(rb:zo b=false)(ib:jq b=false)(hb:IsE C sc N b (.e y)):IsE C sc N (.and a b) (.e (.BoolOp .And [x,y] p)):=by
 intro cl d;have iha:=ha cl d;have ihb:=hb cl d;intro X hC es eN;have sa:=iha X hC es eN;have sb:=ihb X hC es eN;have e:=λ(p:Pos)=>zgP (pos:=p) (sa.pe ra) (zb5 (sb.pe rb));have w:=λ(p:Pos)=>zgQ (pos:=p) (sa.pt ra ia) (zd3 (sb.pt rb ib));exact ⟨λ_=>⟨e _,λ_=>(w _).pt,λop vs pos z=>by cases z;exact w _⟩,λtg=>kO (e _)⟩
theorem IsE.«or2» {C:Ctx}{sc:Scope}{N:List Str}{a b:Ex}{x y:Expr}{p:Pos}(ra:zo a=false)(ia:jq a=false)(ha:IsE C sc N a (.e x))(rb:zo b=false)(ib:jq b=false)(hb:IsE C sc N b (.e y)):IsE C sc N (.or a b) (.e (.BoolOp .Or [x,y] p)):=by
 intro cl d;have iha:=ha cl d;have ihb:=hb cl d;intro X hC es eN;have sa:=iha X hC es eN;have sb:=ihb X hC es eN;have e:=λ(p:Pos)=>ziE (pos:=p) (sa.pe ra) (zb5 (sb.pe rb));have w:=λ(p:Pos)=>ziF (pos:=p) (sa.pt ra ia) (zf6 (sb.pt rb ib));exact ⟨λ_=>⟨e _,λ_=>(w _).pt,λop vs pos z=>by cases z;exact w _⟩,λtg=>kO (e _)⟩
theorem IsE.«cmp» {C:Ctx}{sc:Scope}{N:List Str}{op:Co}{a b:Ex}{x y:Expr}{p:Pos}(hs:yH y=true)(ra:zo a=false)(ha:IsE C sc N a (.e x))(rb:zo b=false)(hb:IsE C sc N b (.e y)):IsE C sc N (.cmp op a b) (.e (.Compare x [cK op] [y] p)):=by
 intro cl d;have iha:=ha cl d;have ihb:=hb cl d;intro X hC es eN;have ea:=(iha X hC es eN).pe ra;have eb:=(ihb X hC es eN).pe rb;exact ⟨λ_=>⟨zcH hC.room.units ea eb hs,λ_=>zgR hC.room.units ea eb hs,λop vs pos z=>by cases z⟩,λtg=>kO (zcH hC.room.units ea eb hs)⟩
theorem IsE.«chain» {C:Ctx}{sc:Scope}{N:List Str}{o q:Co}{a b c:Ex}{x y z:Expr}{p:Pos}(hs:yH z=true)(ra:zo a=false)(ha:IsE C sc N a (.e x))(rb:zo b=false)(hb:IsE C sc N b (.e y))(rc:zo c=false)(hc:IsE C sc N c (.e z)):IsE C sc N (.chain o q a b c) (.e (.Compare x [cK o,cK q] [y,z] p)):=by
 intro cl d;have iha:=ha cl d;have ihb:=hb cl d;have ihc:=hc cl d;intro X hC es eN;have ea:=(iha X hC es eN).pe ra;have eb:=(ihb X hC es eN).pe rb;have ec:=(ihc X hC es eN).pe rc;exact ⟨λ_=>⟨qc hC.room.units ea eb ec hs,λ_=>zcJ hC.room.units ea eb ec hs,λop vs pos z=>by cases z⟩,λtg=>kO (qc hC.room.units ea eb ec hs)⟩
theorem IsE.«ife» {C:Ctx}{sc:Scope}{N:List Str}{a b c:Ex}{x y z:Expr}{p:Pos}(rc:zo c=false)(ic:jq c=false)(hc:IsE C sc N c (.e x))(ra:zo a=false)(ha:IsE C sc N a (.e y))(rb:zo b=false)(hb:IsE C sc N b (.e z)):IsE C sc N (.ife c a b) (.e (.IfExp x y z p)):=by
 intro cl d;have ihc:=hc cl d;have iha:=ha cl d;have ihb:=hb cl d;intro X hC es eN;have e:=λ(p:Pos)=>zgS (pos:=p) ((ihc X hC es eN).pt rc ic) ((iha X hC es eN).pe ra) ((ihb X hC es eN).pe rb);exact ⟨λ_=>⟨e _,λz=>(by cases z),λop vs pos z=>(by cases z)⟩,λtg=>kO (e _)⟩
theorem IsE.«unit» {C:Ctx}{sc:Scope}{N:List Str}:IsE C sc N .unit (.a []):=by
 intro cl d;intro X hC es eN;exact zes
theorem IsE.«pair» {C:Ctx}{sc:Scope}{N:List Str}{a b:Ex}{x:Expr}{xs:List Expr}(hs:zA x=true)(ra:zo a=false)(ha:IsE C sc N a (.e x))(hb:IsE C sc N b (.a xs)):IsE C sc N (.pair a b) (.a (x::xs)):=by
 intro cl d;have iha:=ha cl d;have ihb:=hb cl d;intro X hC es eN;exact zet ((iha X hC es eN).pe ra) (ihb X hC es eN).pa hs
theorem IsE.«call» {C:Ctx}{sc:Scope}{N:List Str}{k:Nat}{a:Ex}{f:Str}{y:Expr}{ys:List Expr}{p p':Pos}(h1:C.fns[k]?=some f)(h2:glB sc f=true)(h3:yx f=true)(hs:(y::ys).all zA=true)(ha:IsE C sc N a (.a (y::ys))):IsE C sc N (.call k a) (.e (.Call (.Name f p) (y::ys) [] p')):=by
 intro cl d;have iha:=ha cl d;intro X hC es eN;subst es;exact Snd.of (zeu hC h1 (wG h2) h3 hs (iha X hC rfl eN).pa)
theorem IsE.«blt» {C:Ctx}{sc:Scope}{N:List Str}{b:Blf}{a:Ex}{nm:Str}{f:Value}{y:Expr}{ys:List Expr}{p p':Pos}(h1:zen b=some (nm,f))(h2:glB sc nm=true)(h3:yx nm=true)(hs:(y::ys).all zA=true)(ha:IsE C sc N a (.a (y::ys))):IsE C sc N (.blt b a) (.e (.Call (.Name nm p) (y::ys) [] p')):=by
 intro cl d;have iha:=ha cl d;intro X hC es eN;subst es;exact Snd.of (zgT hC h1 (wG h2) h3 hs (iha X hC rfl eN).pa)
theorem IsE.«lst» {C:Ctx}{sc:Scope}{N:List Str}{a:Ex}{xs:List Expr}{p:Pos}(ha:IsE C sc N a (.a xs)):IsE C sc N (.lst a) (.e (.List xs p)):=by
 intro cl d;have iha:=ha cl d;intro X hC es eN;exact Snd.of (zgU (iha X hC es eN).pa)
theorem IsE.«tup» {C:Ctx}{sc:Scope}{N:List Str}{a:Ex}{xs:List Expr}{k}{p:Pos}(ha:IsE C sc N a (.a xs)):IsE C sc N (.tup a) (.e (.Tuple xs k p)):=by
 intro cl d;have iha:=ha cl d;intro X hC es eN;exact Snd.of (zgV (iha X hC es eN).pa)
theorem IsE.«idx» {C:Ctx}{sc:Scope}{N:List Str}{a b:Ex}{x y:Expr}{p:Pos}(hs:yY y=true)(ra:zo a=false)(ha:IsE C sc N a (.e x))(rb:zo b=false)(hb:IsE C sc N b (.e y)):IsE C sc N (.idx a b) (.e (.Subscript x y p)):=by
 intro cl d;have iha:=ha cl d;have ihb:=hb cl d;intro X hC es eN;exact Snd.of (zgW ((iha X hC es eN).pe ra) ((ihb X hC es eN).pe rb) hs)
theorem IsE.«dict0» {C:Ctx}{sc:Scope}{N:List Str}{p:Pos}:IsE C sc N .dict0 (.e (.Dict [] [] p)):=by
 intro cl d;intro X hC es eN;exact Snd.of zcT
theorem IsE.«dget» {C:Ctx}{sc:Scope}{N:List Str}{a b:Ex}{x y:Expr}{p:Pos}(hs:yY y=true)(ra:zo a=false)(ha:IsE C sc N a (.e x))(rb:zo b=false)(hb:IsE C sc N b (.e y)):IsE C sc N (.dget a b) (.e (.Subscript x y p)):=by
 intro cl d;have iha:=ha cl d;have ihb:=hb cl d;intro X hC es eN;exact Snd.of (zeA hC.room.units ((iha X hC es eN).pe ra) ((ihb X hC es eN).pe rb) hs)
theorem IsE.«dcon» {C:Ctx}{sc:Scope}{N:List Str}{x1 y1 x2 y2 x3 y3 x4 y4:Int}{dn nm:Str}{p pd pn:Pos}{i:Nat}{k1 k2 k3 k4:List Nat}(nd:[k1,k2,k3,k4].Nodup)(g1:glB sc dn=true)(g2:C.dcs.lookup dn=some [(k1,x1,y1),(k2,x2,y2),(k3,x3,y3),(k4,x4,y4)])(g3:yx dn=true)(h1:N[i]?=some nm)(h2:g0 sc nm=true)(h3:yx nm=true):
   IsE C sc N (.idx (wT (tp2 x1 y1) (tp2 x2 y2) (tp2 x3 y3) (tp2 x4 y4)) (kK i k1 k2 k3 k4)) (.e (.Subscript (.Name dn pd) (.Name nm pn) p)):=by
 intro cl d;intro X hC es eN;subst es;subst eN;obtain ⟨n1,n2,_⟩:=yP h3;obtain ⟨m1,_,_⟩:=yP g3;simp only[List.nodup_cons,List.mem_cons,List.not_mem_nil,not_or,or_false] at nd;obtain ⟨⟨m12,m13,m14⟩,⟨m23,m24⟩,m34,_⟩:=nd;obtain ⟨a,ha,hD⟩:=hC.con.2 _ _ g2;exact Snd.of (zeD m12 m13 m14 m23 m24 m34 (zaF (wG g1) ha (v:=.ref a) rfl m1) hD (kA h1 (kY h2) n1 n2))
theorem IsE.«meth0» {C:Ctx}{sc:Scope}{N:List Str}{k:Mth}{o:Ex}{x:Expr}{ap cp:Pos}(hx:wV x=true)(hl:(ap.endLine == cp.line)=true)(ro:zo o=false)(ho:IsE C sc N o (.e x)):IsE C sc N (.meth k o .unit) (.e (.Call (.Attribute x (mtV k).1 ap) [] [] cp)):=by
 intro cl d;have iho:=ho cl d;intro X hC es eN;exact Snd.of (zcN ((iho X hC es eN).pe ro) hx hl)
theorem IsE.«meth» {C:Ctx}{sc:Scope}{N:List Str}{k:Mth}{o a:Ex}{x y:Expr}{ys:List Expr}{ap cp:Pos}(hx:wV x=true)(hl:(ap.endLine == cp.line)=true)(hn:(y::ys).length < 29)(hs:(y::ys).all zA=true)(ro:zo o=false)(ho:IsE C sc N o (.e x))(ha:IsE C sc N a (.a (y::ys))):IsE C sc N (.meth k o a) (.e (.Call (.Attribute x (mtV k).1 ap) (y::ys) [] cp)):=by
 intro cl d;have iho:=ho cl d;have iha:=ha cl d;intro X hC es eN;exact Snd.of (zev ((iho X hC es eN).pe ro) (iha X hC es eN).pa hx hl hn hs)
theorem IsE.«rng1» {C:Ctx}{sc:Scope}{N:List Str}{b:Ex}{y:Expr}{p p':Pos}(hg:glB sc "range" = true)(hs:zA y=true)(rb:zo b=false)(hb:IsE C sc N b (.e y)):IsE C sc N (.rng (.lit (.int 0)) b (.lit (.int 1))) (.e (.Call (.Name "range" p) [y] [] p')):=by
 intro cl d;have ihb:=hb cl d;intro X hC es eN;subst es;exact ⟨λz=>(by cases z),λtg=>zew hC (wG hg) hs ((ihb X hC rfl eN).pe rb)⟩
theorem IsE.«lrng» {C:Ctx}{sc:Scope}{N:List Str}{a:Ex}{y:Expr}{p p' q q':Pos}(hl:glB sc "list" = true)(hg:glB sc "range" = true)(hs:zA y=true)(ra:zo a=false)(ha:IsE C sc N a (.e y)):IsE C sc N (.lrng a) (.e (.Call (.Name "list" p) [.Call (.Name "range" q) [y] [] q'] [] p')):=by
 intro cl d;have iha:=ha cl d;intro X hC es eN;subst es;exact Snd.of (zex hC (wG hl) (wG hg) hs ((iha X hC rfl eN).pe ra))
theorem IsE.«comp0» {C:Ctx}{sc scope:Scope}{N:List Str}{elt it:Ex}{x i:Expr}{y:Str}{p p':Pos}(hs:yH i=true)(hB:x8 sc N scope [y]=true)(hi:IsE C sc N it (.e i))(re:zo elt=false)(he:IsE C (yI scope sc) (yD N [y]) elt (.e x)):IsE C sc N (.comp elt it (.lit (.bl true))) (.e (.ListComp x [⟨.Name y p,i,[],0⟩] scope p')):=by
 intro cl d;have ihi:=hi cl d;have ihe:=he cl d;intro X hC es eN;subst es;subst eN;have B:=yE hB;have hI:=(ihi X hC rfl rfl).2 (.Name y p);have hset:∀v,foldedSetIterable i X.env v=pure v:=vw hs;have body:∀Xc,CompOf X scope [y] Xc->PE Xc x (tOf X.K (evE cl elt)):=λXc c=>by
  have q:=(ihe Xc (hC.comp c) c.sc c.N).pe re;rw[c.K] at q;exact q
 refine Snd.of (PE.imp (v6 B hC.calm (jW B) hI (λXc c=>⟨wS,body Xc c⟩) hset) λσ H Q q=>jL (λσ H Q q=>?_) q);obtain ⟨as,env,m,S,G,P⟩:=q;obtain ⟨b,e,q⟩:=Post.ok (m:=m) P S (rep_bl.mpr rfl);cases e;exact q
theorem IsE.«compZ0» {C:Ctx}{sc scope:Scope}{N:List Str}{elt a b:Ex}{x i j:Expr}{y z:Str}{p p' q q' q2 pt:Pos}{kt:Nat}(hg:glB sc "zip" = true)(hB:x8 sc N scope [y,z]=true)(hs:zA i=true)(hs':zA j=true)(ra:zo a=false)(ha:IsE C sc N a (.e i))(rb:zo b=false)(hb:IsE C sc N b (.e j))(re:zo elt=false)(he:IsE C (yI scope sc) (yD N [y,z]) elt (.e x)):
   IsE C sc N (.compP .zip elt a b (.lit (.bl true))) (.e (.ListComp x [⟨.Tuple [.Name y p,.Name z q] kt pt,.Call (.Name "zip" q') [i,j] [] q2,[],0⟩] scope p')):=by
 intro cl d;have iha:=ha cl d;have ihb:=hb cl d;have ihe:=he cl d;intro X hC es eN;subst es;subst eN;have B:=yE hB;have hI:PI X (.Tuple [.Name y p,.Name z q] kt pt) (.Call (.Name "zip" q') [i,j] [] q2) _:=zcR (wG hg) (hC.blt _ (by simp[zC])) (xy ((iha X hC rfl rfl).pe ra) (xy ((ihb X hC rfl rfl).pe rb) vp (zm hs')) (zm hs)) (by rw[zm hs,zm hs'];rfl) (zm hs');have body:∀Xc,CompOf X scope [y,z] Xc->PE Xc x (tOf X.K (evE cl elt)):=λXc c=>by
  have q:=(ihe Xc (hC.comp c) c.sc c.N).pe re;rw[c.K] at q;exact q
 refine Snd.of (PE.imp (v6 B hC.calm (jX hC.calm B) hI (λXc c=>⟨wS,body Xc c⟩) (λ_=>rfl)) λσ H Q q=>kX (λσ H Q q=>?_) q);obtain ⟨as,env,m,S,G,P⟩:=q;obtain ⟨b,e,q⟩:=Post.ok (m:=m) P S (rep_bl.mpr rfl);cases e;exact q
theorem IsE.«compE0» {C:Ctx}{sc scope:Scope}{N:List Str}{elt a:Ex}{x i:Expr}{y z:Str}{p p' q q' q2 pt:Pos}{kt:Nat}(hg:glB sc "enumerate" = true)(hB:x8 sc N scope [y,z]=true)(hs:zA i=true)(ra:zo a=false)(ha:IsE C sc N a (.e i))(re:zo elt=false)(he:IsE C (yI scope sc) (yD N [y,z]) elt (.e x)):
   IsE C sc N (.compP .enum elt a (.lit (.int 0)) (.lit (.bl true))) (.e (.ListComp x [⟨.Tuple [.Name y p,.Name z q] kt pt,.Call (.Name "enumerate" q') [i] [] q2,[],0⟩] scope p')):=by
 intro cl d;have iha:=ha cl d;have ihe:=he cl d;intro X hC es eN;subst es;subst eN;have B:=yE hB;have hI:PI X (.Tuple [.Name y p,.Name z q] kt pt) (.Call (.Name "enumerate" q') [i] [] q2) _:=zey (wG hg) (hC.blt _ (by simp[zC])) (xy ((iha X hC rfl rfl).pe ra) vp (zm hs)) (zm hs);have body:∀Xc,CompOf X scope [y,z] Xc->PE Xc x (tOf X.K (evE cl elt)):=λXc c=>by
  have q:=(ihe Xc (hC.comp c) c.sc c.N).pe re;rw[c.K] at q;exact q
 refine Snd.of (PE.imp (v6 B hC.calm (jX hC.calm B) hI (λXc c=>⟨wS,body Xc c⟩) (λ_=>rfl)) λσ H Q q=>zac (c:=0) rfl (λσ H Q q=>?_) q);obtain ⟨as,env,m,S,G,P⟩:=q;obtain ⟨b,e,q⟩:=Post.ok (m:=m) P S (rep_bl.mpr rfl);cases e;exact q
end
theorem zgZ {o i v:Expr}{p1:Pos}{env:Env}:swappedStores [.Subscript o i p1] v env=pure none:=rfl
theorem zeE {v tg:Expr}{line:Nat}{env:Env}(h:∀x p,tg≠.Name x p):swapsWithSole [tg] v line env=pure false:=by
 cases v <;> first | rfl | (cases tg <;> first | rfl | exact absurd rfl (h _ _))
noncomputable def kZ:Expr->Bool
 | .ListComp _ _ _ _=>true
 | .SetComp _ _ _ _=>true
 | .DictComp _ _ _ _ _=>true
 | _=>false
theorem zae {v:Expr}{t:Option Expr}{line:Nat}{env:Env}(h:kZ v=false):swapsWith v t line env=pure false:=by
 cases v <;> first | rfl | cases h
def PostS (K:PySem.W.Frag)(as:List Addr)(H:Hp)(D:Ends)(r:Rs):Prop:=match r with
 | .next e m'=>∀as' H' σ',Step as H as' H'->Sim K as' m' H'->EnvRep K as' H' e σ'->D.nx σ' H'
 | .brk e m'=>∀as' H' σ',Step as H as' H'->Sim K as' m' H'->EnvRep K as' H' e σ'->D.bk σ' H'
 | .cont e m'=>∀as' H' σ',Step as H as' H'->Sim K as' m' H'->EnvRep K as' H' e σ'->D.ct σ' H'
 | .ret w m'=>∀as' H' v,Step as H as' H'->Sim K as' m' H'->Rep K as' H' w v->D.rt v H'
 | _=>False
def xw (K:PySem.W.Frag)(g:En->Me->Rs):TS:=λD σ H=>∃as env m,Sim K as m H/\EnvRep K as H env σ/\PostS K as H D (g env m)
section
variable {K:PySem.W.Frag}{as as':List Addr}{H H':Hp}{m:Me}{D:Ends}
set_option tactic.hygienic true in
theorem PostS.step {r:Rs}(h:PostS K as H D r)(T:Step as H as' H'):PostS K as' H' D r:=by
 cases r with
 | next e m'=>exact λas2 H2 σ' U S G=>h as2 H2 σ' (T.trans U) S G
 | brk e m'=>exact λas2 H2 σ' U S G=>h as2 H2 σ' (T.trans U) S G
 | cont e m'=>exact λas2 H2 σ' U S G=>h as2 H2 σ' (T.trans U) S G
 | ret w m'=>exact λas2 H2 v U S R=>h as2 H2 v (T.trans U) S R
 | exc c w e m'=>exact h
 | no=>exact h
theorem PostS.bind {Q1:VK}{r:Rz}{env:En}{f:Wd->Me->Rs}(h:PostS K as H D (r.bindS env f))
  (k:∀w m' as' H' v,Step as H as' H'->Sim K as' m' H'->Rep K as' H' w v->PostS K as' H' D (f w m')->Q1 v H'):Post K as H Q1 r:=by
 cases r with
 | ok w m'=>exact λas2 H2 v U S R=>k w m' as2 H2 v U S R (PostS.step (r:=f w m') h U)
 | exc c w m'=>exact h
 | no=>exact h
theorem PostS.bindI {R1:It->Hp->Prop}{r:Rz}{env:En}{f:Wd->Me->Rs}(h:PostS K as H D (r.bindS env f))
  (k:∀w m',PostS K as H D (f w m')->(xD m' w).isSome=true/\∀as' H' J,Step as H as' H'->Sim K as' m' H'->ziy K as' H' w J->R1 J H'):PostI K as H R1 r:=by
 cases r with
 | ok w m'=>exact k w m' h
 | exc c w m'=>exact h
 | no=>exact h
theorem PostS.next {env:En}{σ:St}(h:PostS K as H D (.next env m))(S:Sim K as m H)(G:EnvRep K as H env σ):D.nx σ H:=h as H σ .refl S G
end
section
variable {cl:Nat->List Wd->Me->Rz}{X:Cx}{e o i:Ex}{x y z:Expr}{pos:Pos}
theorem zeF:PSs X [] (xw X.K (exS cl .skip)):=PSs.imp zd4 λD σ H h=>by
 obtain ⟨as,env,m,S,G,P⟩:=h;exact PostS.next (m:=m) P S G
set_option tactic.hygienic true in
theorem zg0 {a b:Sm}{st:Stmt}{sts:List Stmt}(ha:PS X st (xw X.K (exS cl a)))(hb:PSs X sts (xw X.K (exS cl b))):PSs X (st::sts) (xw X.K (exS cl (.seq a b))) :=
 PSs.imp (gG ha hb) λD σ H h=>by
  obtain ⟨as,env,m,S,G,P⟩:=h;refine ⟨as,env,m,S,G,?_⟩;have P':PostS X.K as H D (match exS cl a env m with | .next e1 m1=>exS cl b e1 m1 | r=>r):=P;cases hr:exS cl a env m with
  | next e1 m1 =>
   rw[hr] at P';exact λas' H' σ' T S' G'=>⟨as',e1,m1,S',G',PostS.step P' T⟩
  | brk e1 m1=>rw[hr] at P';exact P'
  | cont e1 m1=>rw[hr] at P';exact P'
  | ret w m1=>rw[hr] at P';exact P'
  | exc c w e1 m1=>rw[hr] at P';exact P'
  | no=>rw[hr] at P';exact P'
theorem k5 {K:PySem.W.Frag}{i:Nat}{e:Ex}{D:Ends}{σ:St}{H:Hp}(h:xw K (exS cl (.asg i e)) D σ H):zd7 (tOf K (evE cl e)) (vP i) D σ H:=by
 obtain ⟨as,env,m,S,G,P⟩:=h;refine ⟨as,env,m,S,G,PostS.bind P λw m1 as1 H1 v T1 S1 R1 P1=>?_⟩;exact PostS.next (m:=m1) P1 S1 ((G.mono S T1).set R1 i)
theorem zg1 (he:PE X x (tOf X.K (evE cl e))):PS X (.Return (some x) pos) (xw X.K (exS cl (.ret e))):=PS.imp (zb7 he) λD σ H h=>by
 obtain ⟨as,env,m,S,G,P⟩:=h;refine ⟨as,env,m,S,G,PostS.bind P λw m1 as1 H1 v T1 S1 R1 P1=>?_⟩;exact P1 as1 H1 v .refl S1 R1
theorem zeG (he:PE X x (tOf X.K (evE cl e)))(hc:kZ x=false):PS X (.Expr x pos) (xw X.K (exS cl (.expr e))):=PS.imp (zd5 he (zae hc)) λD σ H h=>by
 obtain ⟨as,env,m,S,G,P⟩:=h;refine ⟨as,env,m,S,G,PostS.bind P λw m1 as1 H1 v T1 S1 R1 P1=>?_⟩;exact PostS.next (m:=m1) P1 S1 (G.mono S T1)
theorem ziH {a b:Sm}{xs ys:List Stmt}(hc:PT X x (xu X.K (evE cl e)))(ha:PSs X xs (xw X.K (exS cl a)))(hb:PSs X ys (xw X.K (exS cl b))):PS X (.If x xs ys pos) (xw X.K (exS cl (.ite e a b))) :=
 PS.imp (zh4 hc ha hb) λD σ H h=>by
  obtain ⟨as,env,m,S,G,P⟩:=h;refine ⟨as,env,m,S,G,PostS.bind P λw m1 as1 H1 v T1 S1 R1 P1=>?_⟩;cases w with
  | bl k =>
   obtain rfl:=rep_bl.mp R1;refine ⟨k,rfl,?_⟩;cases k with
   | true=>exact gM ⟨as1,env,m1,S1,G.mono S T1,P1⟩
   | false=>exact gL ⟨as1,env,m1,S1,G.mono S T1,P1⟩
  | _=>exact P1.elim
theorem zbK {K:PySem.W.Frag}{as:List Addr}{H:Hp}{m:Me}{D:Ends}{env:En}{o i w:Wd}{vo vi v:V}{Q:Hp->Prop}{f:Wd->Me->Rs}(S:Sim K as m H)(Ro:Rep K as H o vo)(Ri:Rep K as H i vi)(Rw:Rep K as H w v)
  (h:PostS K as H D ((jF o i w m).bindS env f)) (k:∀m' H',Step as H as H'->Sim K as m' H'->PostS K as H' D (f .non m')->Q H'):zfM K vo vi v H Q:=by
 unfold jF at h;cases o with
 | ref l =>
  obtain ⟨a,ha,rfl⟩:=rep_ref.mp Ro;dsimp only at h;cases e:m[l]? with
  | none=>rw[e] at h;exact h.elim
  | some ob =>
   cases ob with
   | lst ys=>rw[e] at h;exact h.elim
   | dct ks ws =>
    rw[e] at h;dsimp only at h;obtain ⟨a',xs,vs,ha',td,ek,r,rv,nd⟩:=qV S e;rw[ha] at ha';cases ha';cases eq:zbF i with
    | none=>rw[eq] at h;exact h.elim
    | some q =>
     rw[eq] at h;dsimp only at h;obtain ⟨b,rfl,qb⟩:=qg eq Ri;by_cases hl:ks.length < lim
     .rw[if_pos hl] at h;refine ⟨a,b,q,xs,rfl,rfl,qb,td,?_,λu ru=>?_⟩
      .rw[<- ek,List.length_map] at hl;exact Nat.le_of_lt hl
      .obtain ⟨T,S'⟩:=S.setD ha e td ek r rv nd qb Rw ru;exact k _ _ T S' (PostS.step (r:=f .non _) h T)
     .rw[if_neg hl] at h;exact h.elim
 | _=>exact h.elim
theorem zaf {o i:Expr}{p:Pos}{env:Env}(hs:yY i=true):∀v,assign (.Subscript o i p) env v=(do
   let ov <- holding [v] (eval o env)
   let iv <- holding [v,ov] (eval i env)
   standAt p
   holding [v,ov,iv] (setItem ov iv v)
   release [v,ov,iv] []):=λv=>by
 cases i <;> first | rfl | cases hs
theorem zeH {p1:Pos}{j:Nat}(hu:X.A.units+64 < cLine)(ho:PE X x (tOf X.K (evE cl (.var j))))(hi:PE X y (tOf X.K (evE cl i)))(he:PE X z (tOf X.K (evE cl e)))(hs:yY y=true):PS X (.Assign [.Subscript x y p1] z pos) (xw X.K (exS cl (.dput j i e))) :=
 PS.imp (zge he (zgd ho hi (ziu hu) (zaf hs)) (zeE (by intros;intro q;cases q)) zgZ) λD σ H h=>by
  obtain ⟨as,env,m,S,G,P⟩:=h;refine ⟨as,env,m,S,G,PostS.bind P λw m1 as1 H1 v T1 S1 R1 P1=>?_⟩;refine ⟨as1,env,m1,S1,G.mono S T1,PostS.bind P1 λwo m2 as2 H2 vo T2 S2 R2 P2=>?_⟩;refine ⟨as2,env,m2,S2,(G.mono S T1).mono S1 T2,PostS.bind P2 λwi m3 as3 H3 vi T3 S3 R3 P3=>?_⟩;refine zbK S3 (R2.mono S2 T3) R3 ((R1.mono S1 T2).mono S2 T3) P3 λm4 H4 T4 S4 P4=>?_;exact PostS.next (m:=m4) P4 S4 ((((G.mono S T1).mono S1 T2).mono S2 T3).mono S3 T4)
end
section
variable {cl:Nat->List Wd->Me->Rz}{X:Cx}{e i j:Ex}{x y z:Expr}{pos:Pos}
noncomputable def zcX:Bo->Bool
 | .add=>true
 | .sub=>true
 | _=>false
noncomputable def zg2:Bo->Int->Int->Int
 | .sub=>λi j=>i - j
 | _=>λi j=>i+j
theorem ziI {op:Bo}(h:zcX op=true):PIp X (opK op) (ipI (zg2 op)):=by
 cases op with
 | add=>exact zgg
 | sub=>exact zgh
 | _=>cases h
theorem zeI {op:Bo}(h:zcX op=true){i j:Int}{m:Me}:bop op (.int i) (.int j) m=.ok (.int (zg2 op i j)) m:=by
 cases op with
 | add=>rfl
 | sub=>rfl
 | _=>cases h
theorem zeJ {K:PySem.W.Frag}{as:List Addr}{H:Hp}{m:Me}{D:Ends}{env:En}{op:Bo}{wx wy:Wd}{vx vy:V}{f:Wd->Me->Rs}{Q:VK}(hop:zcX op=true)(Rx:Rep K as H wx vx)(Ry:Rep K as H wy vy)
  (h:PostS K as H D (zcr op wx wy m env f)) (k:∀z,PostS K as H D (f (.int z) m)->Q (.int z) H):ipI (zg2 op) vx vy H Q:=by
 cases wx with
 | int i =>
  cases wy with
  | int j =>
   have h':PostS K as H D ((bop op (.int i) (.int j) m).bindS env f):=h;rw[zeI hop] at h';exact ⟨i,j,rep_int.mp Rx,rep_int.mp Ry,k _ h'⟩
  | _=>exact h.elim
 | _=>exact h.elim
set_option tactic.hygienic true in
theorem zg3 {op:Bo}{n:Nat}{nm:Str}{p1:Pos}(hop:zcX op=true)(hN:X.N.Nodup)(hi:X.N[n]?=some nm)(hx:Loc X.env.scope nm)(hf:X.fn nm=true\/X.env.scope.names.lookup nm=some .local)(he:PE X x (tOf X.K (evE cl e))):
  PS X (.AugAssign (.Name nm p1) (opK op) x pos) (xw X.K (exS cl (.aug n op e))):=PS.imp (zgf hN hi hx he (ziI hop) hf) λD σ H h=>by
 obtain ⟨as,env,m,S,G,P⟩:=h;have P':PostS X.K as H D (match env[n]? with
  | some (some x)=>(evE cl e env m).bindS env λy m1=>zcr op x y m1 env λz m2=>.next (env.set n (some z)) m2
  | _=>.no):=P
 split at P'
 .rename_i wx hw;obtain ⟨vx,hv,Rx⟩:=G.get n wx hw;refine ⟨vx,hv,as,env,m,S,G,PostS.bind P' λwy m1 as1 H1 vy T1 S1 R1 P1=>?_⟩;refine zeJ hop (Rx.mono S T1) R1 P1 λz P2=>?_;exact PostS.next (m:=m1) P2 S1 ((G.mono S T1).set (rep_int.mpr rfl) n)
 .exact P'.elim
end
section
variable {cl:Nat->List Wd->Me->Rz}{K:PySem.W.Frag}
structure TgtOk (K:PySem.W.Frag)(g:TG)(st:Wd->En->Option En):Prop where
 ok:∀ {as:List Addr}{H:Hp}{m:Me}{env env':En}{σ:St}{w:Wd}{v:V}{Q:L2.St->Hp->Prop},Sim K as m H->EnvRep K as H env σ->Rep K as H w v->st w env=some env'->(∀σ',EnvRep K as H env' σ'->Q σ' H)->g v σ H Q
theorem zcY (i:Nat):TgtOk K (vP i) (λw env=>some (env.set i (some w))) :=
 ⟨λS G R e k=>by cases e;exact k _ (G.set R i)⟩
set_option tactic.hygienic true in
theorem ql {g:TG}{st:Wd->En->Option En}{b:En->Me->Rs}(hg:TgtOk K g st){D:Ends}{as1 as':List Addr}{H1 H':Hp}{m':Me}{env':En}{σ':St}{x:Wd}{v:V}{next:En->Me->Rs}{N:L2.St->Hp->Prop}(T:Step as1 H1 as' H')(S':Sim K as' m' H')(G':EnvRep K as' H' env' σ')(Rx:Rep K as' H' x v)
  (Pt:PostS K as1 H1 D (match xj st b x env' m' with
    | .next e1 m1=>next e1 m1
    | .cont e1 m1=>next e1 m1
    | .brk e1 m1=>.next e1 m1
    | r=>r))
  (hN:∀as2 m2 e2 σ2 H2,Step as' H' as2 H2->Sim K as2 m2 H2->EnvRep K as2 H2 e2 σ2->PostS K as1 H1 D (next e2 m2)->N σ2 H2) :
  g v σ' H' λσ2 H2=>xw K b { D with nx:=N,ct:=N,bk:=D.nx } σ2 H2:=by
 unfold xj at Pt;cases hs:st x env' with
 | none=>rw[hs] at Pt;exact Pt.elim
 | some e2 =>
  rw[hs] at Pt;simp only[] at Pt;refine hg.ok S' G' Rx hs λσ2 G2=>⟨as',e2,m',S',G2,?_⟩;cases hr:b e2 m' with
  | next e3 m3=>rw[hr] at Pt;exact λas3 H3 σ3 U S3 G3=>hN as3 m3 e3 σ3 H3 U S3 G3 Pt
  | cont e3 m3=>rw[hr] at Pt;exact λas3 H3 σ3 U S3 G3=>hN as3 m3 e3 σ3 H3 U S3 G3 Pt
  | brk e3 m3=>rw[hr] at Pt;exact λas3 H3 σ3 U S3 G3=>Pt as3 H3 σ3 (T.trans U) S3 G3
  | ret w' m3=>rw[hr] at Pt;exact λas3 H3 v3 U S3 R3=>Pt as3 H3 v3 (T.trans U) S3 R3
  | exc c w' e3 m3=>rw[hr] at Pt;exact Pt.elim
  | no=>rw[hr] at Pt;exact Pt.elim
theorem zcZ {it:En->Me->Rz}{g:TG}{st:Wd->En->Option En}{b:En->Me->Rs}(hg:TgtOk K g st){D:Ends}{σ:St}{H:Hp}
  (h:xw K (λenv m=>(it env m).bindS env λw m1=>zcq (xj st b) w env m1) D σ H):zia (iOf K it) g (xw K b) D σ H:=by
 obtain ⟨as,env,m,S,G,P⟩:=h;refine ⟨as,env,m,S,G,PostS.bindI P λw m1 P1=>?_⟩;have seqs:∀ (xs:List Wd),PostS K as H D (wF (xj st b) xs env m1)->∀as1 H1 J,Step as H as1 H1->Sim K as1 m1 H1->zaS K as1 H1 J xs ->
   ∃W:Nat->Nat->L2.St->Hp->Prop,(∃m,W 0 m σ H1)/\∀i m σ H,W i m σ H ->
    (J.stop i H/\D.nx σ H)\/(J.go i H/\∃N:L2.St->Hp->Prop,(∀σ' H',N σ' H'->∃m',m' < m/\W (i+1) m' σ' H')/\∀x H',J.yld i H x H'->g x σ H' λσ2 H2=>xw K b { D with nx:=N,ct:=N,bk:=D.nx } σ2 H2):=by
  intro xs Pc as1 H1 J T1 S1 hI;obtain ⟨vs,ok,hJ,ok1,RL,stab⟩:=hI;have hlen:=RL.length;have Pc1:=PostS.step Pc T1;refine ⟨λi n σ' H'=>∃as' m' env',i<=xs.length/\n=xs.length - i/\Step as1 H1 as' H'/\Sim K as' m' H'/\EnvRep K as' H' env' σ'/\ok H'/\RepL K as' H' xs vs/\PostS K as1 H1 D (wF (xj st b) (xs.drop i) env' m'),
   ⟨xs.length,as1,m1,env,Nat.zero_le _,rfl,.refl,S1,G.mono S T1,ok1,RL,Pc1⟩,?_⟩
  rintro i n σ' H' ⟨as',m',env',hi,rfl,T',S',G',okH,RL',Pi⟩;by_cases hlt:i < xs.length
  .refine .inr ⟨hJ.go i H' okH (by rw[<- hlen];exact hlt),λσ2 H2=>∃as2 m2 env2,i+1<=xs.length/\Step as1 H1 as2 H2/\Sim K as2 m2 H2/\EnvRep K as2 H2 env2 σ2/\ok H2/\RepL K as2 H2 xs vs/\PostS K as1 H1 D (wF (xj st b) (xs.drop (i+1)) env2 m2),?_,λv H'' hy=>?_⟩
   .rintro σ2 H2 ⟨as2,m2,env2,q⟩;exact ⟨xs.length - (i+1),by lia,as2,m2,env2,q.1,rfl,q.2⟩
   .obtain ⟨rfl,hv⟩:=hJ.yld i H' v H'' okH (by rw[<- hlen];exact hlt) hy;obtain ⟨v',hv',Rx⟩:=RL'.get (i:=i) (x:=xs[i]) (by simp[hlt]);rw[hv] at hv';cases hv';rw[List.drop_eq_getElem_cons hlt] at Pi;refine ql hg (next:=λe m=>wF (xj st b) (xs.drop (i+1)) e m) T' S' G' Rx Pi ?_;intro as2 m2 e2 σ2 H2 U S2 G2 P2;exact ⟨as2,m2,e2,hlt,T'.trans U,S2,G2,stab _ _ (S'.kp U) okH,RL'.mono S' U,P2⟩
  .have e:i=xs.length:=by lia
   subst e;rw[List.drop_length] at Pi;exact .inl ⟨hJ.stop _ H' okH (by lia),Pi as' H' σ' T' S' G'⟩
 cases w with
 | tup xs=>exact ⟨rfl,λas1 H1 J T1 S1 hI=>seqs xs P1 as1 H1 J T1 S1 hI⟩
 | rol xs=>exact ⟨rfl,λas1 H1 J T1 S1 hI=>seqs xs P1 as1 H1 J T1 S1 hI⟩
 | ref l =>
  have P2:PostS K as H D (xZ (xj st b) l (lim+1) 0 env m1):=P1;refine ⟨?_,λas1 H1 J T1 S1 hI=>?_⟩
  .show (zr m1 l).isSome=true;cases e:zr m1 l with
   | some xs=>rfl
   | none =>
    unfold xZ at P2;rw[e] at P2;exact P2.elim
  .obtain ⟨a,ha,rfl⟩:=hI;have Pc1:=PostS.step P2 T1;refine ⟨λi n σ' H'=>∃as' m' env',as'[l]?=some a/\Step as1 H1 as' H'/\Sim K as' m' H'/\EnvRep K as' H' env' σ'/\PostS K as1 H1 D (xZ (xj st b) l n i env' m'),⟨lim+1,as1,m1,env,ha,.refl,S1,G.mono S T1,Pc1⟩,?_⟩;rintro i n σ' H' ⟨as',m',env',hl,T',S',G',Pi⟩;cases n with
   | zero=>exact Pi.elim
   | succ n =>
    unfold xZ at Pi;cases e:zr m' l with
    | none=>rw[e] at Pi;exact Pi.elim
    | some xs =>
     rw[e] at Pi;simp only[] at Pi;obtain ⟨a',vs,ha',eH,RL⟩:=ye S' (zM e);rw[hl] at ha';cases ha';cases ex:xs[i]? with
     | none =>
      rw[ex] at Pi;have hle:vs.length<=i:=by rw[<- RL.length];exact List.getElem?_eq_none_iff.mp ex
      exact .inl ⟨⟨vs,SqL.of eH,hle⟩,Pi as' H' σ' T' S' G'⟩
     | some x =>
      rw[ex] at Pi;obtain ⟨v0,hv0,Rx⟩:=RL.get ex;refine .inr ⟨⟨vs,v0,SqL.of eH,hv0⟩,λσ2 H2=>∃as2 m2 env2,as2[l]?=some a/\Step as1 H1 as2 H2/\Sim K as2 m2 H2/\EnvRep K as2 H2 env2 σ2/\PostS K as1 H1 D (xZ (xj st b) l n (i+1) env2 m2),?_,λv H'' hy=>?_⟩
      .rintro σ2 H2 q;exact ⟨n,Nat.lt_succ_self _,q⟩
      .obtain ⟨rfl,hy⟩:=hy;have:=hy vs (SqL.of eH);rw[hv0] at this;cases this;refine ql hg (next:=λe m=>xZ (xj st b) l n (i+1) e m) T' S' G' Rx Pi ?_;intro as2 m2 e2 σ2 H2 U S2 G2 P2;exact ⟨as2,m2,e2,U.get hl,T'.trans U,S2,G2,P2⟩
 | non=>exact P1.elim
 | bl k=>exact P1.elim
 | int i=>exact P1.elim
 | str s=>exact P1.elim
set_option tactic.hygienic true in
theorem zag {c:Ex}{b:Sm}{D:Ends}{σ:St}{H:Hp}(h:xw K (exS cl (.while c b)) D σ H):zb9 (xu K (evE cl c)) (xw K (exS cl b)) D σ H:=by
 obtain ⟨as,env,m,S,G,P⟩:=h;refine ⟨λn σ' H'=>∃as' m' env',Step as H as' H'/\Sim K as' m' H'/\EnvRep K as' H' env' σ'/\PostS K as H D (vQ (evE cl c) (exS cl b) n env' m'),⟨1000000,as,m,env,.refl,S,G,P⟩,?_⟩;rintro n σ' H' ⟨as',m',env',T',S',G',Pi⟩;cases n with
 | zero=>exact Pi.elim
 | succ n =>
  unfold vQ at Pi;refine ⟨as',env',m',S',G',?_⟩;cases hr:evE cl c env' m' with
  | no=>rw[hr] at Pi;exact Pi.elim
  | exc k w m1=>rw[hr] at Pi;exact Pi.elim
  | ok w m1 =>
   rw[hr] at Pi;intro as1 H1 v T1 S1 R1;cases w with
   | bl k =>
    obtain rfl:=rep_bl.mp R1;refine ⟨k,rfl,?_⟩;cases k with
    | false=>exact gL (Pi as1 H1 σ' (T'.trans T1) S1 (G'.mono S' T1))
    | true =>
     refine gM ⟨λσ2 H2=>∃as2 m2 env2,Step as H as2 H2/\Sim K as2 m2 H2/\EnvRep K as2 H2 env2 σ2/\PostS K as H D (vQ (evE cl c) (exS cl b) n env2 m2),λσ2 H2 q=>⟨n,Nat.lt_succ_self _,q⟩,as1,env',m1,S1,G'.mono S' T1,?_⟩;simp only[] at Pi;have T2:=T'.trans T1;cases hb:exS cl b env' m1 with
     | next e3 m3=>rw[hb] at Pi;exact λas3 H3 σ3 U S3 G3=>⟨as3,m3,e3,T2.trans U,S3,G3,Pi⟩
     | cont e3 m3=>rw[hb] at Pi;exact λas3 H3 σ3 U S3 G3=>⟨as3,m3,e3,T2.trans U,S3,G3,Pi⟩
     | brk e3 m3=>rw[hb] at Pi;exact λas3 H3 σ3 U S3 G3=>Pi as3 H3 σ3 (T2.trans U) S3 G3
     | ret w' m3=>rw[hb] at Pi;exact λas3 H3 v3 U S3 R3=>Pi as3 H3 v3 (T2.trans U) S3 R3
     | exc k w' e3 m3=>rw[hb] at Pi;exact Pi.elim
     | no=>rw[hb] at Pi;exact Pi.elim
   | _=>exact Pi.elim
end
section
variable {X:Cx}{cl:Nat->List Wd->Me->Rz}
noncomputable def wC (n j:Nat):Ex->Bool
 | .var i=>decide (i < n) && ! decide (i=j)
 | .lit _=>true
 | .unit=>true
 | .pair a b=>wC n j a && wC n j b
 | .call _ a=>wC n j a
 | .blt _ a=>wC n j a
 | .idx a b=>wC n j a && wC n j b
 | _=>false
theorem x9 {n j:Nat}{e1 e2:En}(h:∀i,i < n->i≠j->e1[i]?=e2[i]?):∀ (e:Ex) (m:Me),wC n j e=true->evE cl e e1 m=evE cl e e2 m
 | .var i,m,q=>by
  simp only[wC,Bool.and_eq_true,decide_eq_true_eq,Bool.not_eq_true',decide_eq_false_iff_not] at q;unfold evE;rw[h i q.1 q.2]
 | .lit _,m,_=>rfl
 | .unit,_,_=>rfl
 | .pair a b,m,q=>by
  simp only[wC,Bool.and_eq_true] at q;show (evE cl a e1 m).bind (λx m1=>(evE cl b e1 m1).bind λy m2=>.ok (.tup (x::zn y)) m2)=(evE cl a e2 m).bind (λx m1=>(evE cl b e2 m1).bind λy m2=>.ok (.tup (x::zn y)) m2);rw[x9 h a m q.1];congr 1;funext x m1;rw[x9 h b m1 q.2]
 | .call k a,m,q=>by
  show (evE cl a e1 m).bind _=(evE cl a e2 m).bind _;rw[x9 h a m q]
 | .blt k a,m,q=>by
  show (evE cl a e1 m).bind _=(evE cl a e2 m).bind _;rw[x9 h a m q]
 | .idx a b,m,q=>by
  simp only[wC,Bool.and_eq_true] at q;show (evE cl a e1 m).bind (λx m1=>(evE cl b e1 m1).bind λy m2=>kJ x y m2)=(evE cl a e2 m).bind (λx m1=>(evE cl b e2 m1).bind λy m2=>kJ x y m2);rw[x9 h a m q.1];congr 1;funext x m1;rw[x9 h b m1 q.2]
noncomputable def wPr (p:List Nat×Wd):Wd:=.tup [.str p.1,p.2]
theorem zg4 (ws:List (List Nat×Wd))(i:Nat)(m:Me):zz .ptp (.tup (ws.map wPr)) (.int 0) i m=some (ws[i]?.map λp=>(.str p.1,p.2)):=by
 show (match (ws.map wPr)[i]? with
  | none=>some none
  | some w=>(zcp w).map some)=_
 rw[List.getElem?_map];cases ws[i]? <;> rfl
theorem zc0 {elt mx:Ex}{as:List Addr}{env:En}{σ:St}{m:Me}{H:Hp}{Q:VK}{p:Addr}{o:Obj}{ep j:Nat}{kvs:List (Key×V)}{ws:List (List Nat×Wd)}
  (hj:j < env.length) (le:wC (env.length+1) j elt=true) (lm:wC (env.length+1) j mx=true)
  (S:Sim X.K as m H) (G:EnvRep X.K as H (env.set j none) σ) (hs:σ[j]?=some (some (.ref p))) (hp:H p=some (x0 p o)) (np:p∉as) (f:FO X.prog X.w p o ep kvs)
  (hl:kvs.length=ws.length) (hk:∀ (i:Nat) (k:List Nat) (w:Wd),ws[i]?=some (k,w)->∃v,kvs[i]?=some ((Sum.inr ⟨k.toArray⟩:Key),v)/\xR kvs (Sum.inr ⟨k.toArray⟩)=some v/\Rep X.K as H w v)
  (P:Post X.K as H Q (zY (λu v m=>evE cl (.cmp .eq (.var (env.length+1)) mx) (env++[some u]++[some v]) m) (λu v m=>evE cl elt (env++[some u]++[some v]) m) (zz .ptp (.tup (ws.map wPr)) (.int 0)) (lim+1) 0 [] m)) :
  kF un1 (iFD X (jp j)) (zaI (tOp (rC X.K .eq) (tOp (jJ X) (jp j) (jp env.length)) (tOf X.K (evE cl mx)))) (tOf X.K (evE cl elt)) σ H Q:=by
 have hjs:j < σ.length:=(List.getElem?_eq_some_iff.mp hs).1;have hls:env.length=σ.length:=by have:=G.len;simpa using this
 refine ⟨.ref p,hs,p,o,ep,kvs,rfl,f,hp,λD hD=>?_⟩;refine ⟨λi n ys H'=>∃as' m' acc,Mid X.K as H D (env.set j none) σ as' m' acc ys H' /\
  Post X.K as H Q (zY (λu v m=>evE cl (.cmp .eq (.var (env.length+1)) mx) (env++[some u]++[some v]) m) (λu v m=>evE cl elt (env++[some u]++[some v]) m) (zz .ptp (.tup (ws.map wPr)) (.int 0)) n i acc m'),⟨lim+1,as,m,[],Mid.start (as:=as) (H:=H) S G hD,P⟩,?_⟩
 rintro i n ys H' ⟨as',m',acc,M,Pi⟩;have hp':=M.T.frame _ _ hp np;cases n with
 | zero=>exact Pi.elim
 | succ n =>
  unfold zY at Pi;rw[zg4] at Pi;cases hw:ws[i]? with
  | none =>
   rw[hw] at Pi;have hi:=List.getElem?_eq_none_iff.mp hw;exact .inl ⟨⟨hp',by lia⟩,xS M.S M.T hD M.hD M.n M.R Pi⟩
  | some kw =>
   obtain ⟨k,w⟩:=kw;rw[hw] at Pi;obtain ⟨v,hv1,hv2,R⟩:=hk i k w hw;have hi:=(List.getElem?_eq_some_iff.mp hv1).1;refine .inr ⟨⟨hp',hi⟩,λx H'' hy=>?_⟩;obtain ⟨rfl,kv,hkv,rfl⟩:=hy;rw[hv1] at hkv;cases hkv;have hlow:∀i',i' < env.length+1->i'≠j->(env++[some (Wd.str k)]++[some w])[i']?=(env.set j none++[some (Wd.str k)])[i']?:=λi' h1 h2=>by
    rw[List.getElem?_append_left (by simp;lia)];by_cases z:i' < env.length
    .rw[List.getElem?_append_left z,List.getElem?_append_left (by simpa using z),List.getElem?_set_ne (λe=>h2 e.symm)]
    .rw[List.getElem?_append_right (by lia),List.getElem?_append_right (by simp;lia),List.length_set]
   have hvar:∀m,evE cl (.var (env.length+1)) (env++[some (Wd.str k)]++[some w]) m=.ok w m:=λm=>by
    unfold evE;rw[List.getElem?_append_right (by simp)];simp
   have e1:∀m,evE cl (.cmp .eq (.var (env.length+1)) mx) (env++[some (Wd.str k)]++[some w]) m=(evE cl mx (env.set j none++[some (Wd.str k)]) m).bind λy m2=>cop .eq w y m2:=λm=>by
    show (evE cl (.var (env.length+1)) _ m).bind (λx m1=>(evE cl mx _ m1).bind λy m2=>cop .eq x y m2)=_;rw[hvar m];show (evE cl mx (env++[some (Wd.str k)]++[some w]) m).bind (λy m2=>cop .eq w y m2)=_;rw[x9 hlow mx m lm]
   have Pi:Post X.K as H Q (((evE cl mx (env.set j none++[some (Wd.str k)]) m').bind λy m2=>cop .eq w y m2).bind λb m1=>match b with
     | .bl true=>(evE cl elt (env++[some (Wd.str k)]++[some w]) m1).bind λz m2=>if acc.length < lim then zY (λu v m=>evE cl (.cmp .eq (.var (env.length+1)) mx) (env++[some u]++[some v]) m) (λu v m=>evE cl elt (env++[some u]++[some v]) m) (zz .ptp (.tup (ws.map wPr)) (.int 0)) n (i+1) (acc++[z]) m2 else .no
     | .bl false=>zY (λu v m=>evE cl (.cmp .eq (.var (env.length+1)) mx) (env++[some u]++[some v]) m) (λu v m=>evE cl elt (env++[some u]++[some v]) m) (zz .ptp (.tup (ws.map wPr)) (.int 0)) n (i+1) acc m1
     | _=>.no):=by
    have:=Pi;simp only[Option.map_some] at this;rw[e1] at this;exact this
   have G1:EnvRep X.K as' H'' (env.set j none++[some (Wd.str k)]) (σ++[some (V.str ⟨k.toArray⟩)]):=M.G.push (rep_str.mpr rfl);refine ⟨[V.str ⟨k.toArray⟩],rfl,?_⟩;refine ⟨.ref p,by rw[List.getElem?_append_left hjs];exact hs,.str ⟨k.toArray⟩,by rw[hls,List.getElem?_append_right (Nat.le_refl _)];simp,p,o,ep,kvs,Sum.inr ⟨k.toArray⟩,v,rfl,rfl,f,hp',hv2,?_⟩;have Pi':Post X.K as H Q ((evE cl mx (env.set j none++[some (Wd.str k)]) m').bind λy m2=>(cop .eq w y m2).bind λb m1=>match b with
     | .bl true=>(evE cl elt (env++[some (Wd.str k)]++[some w]) m1).bind λz m2=>if acc.length < lim then zY (λu v m=>evE cl (.cmp .eq (.var (env.length+1)) mx) (env++[some u]++[some v]) m) (λu v m=>evE cl elt (env++[some u]++[some v]) m) (zz .ptp (.tup (ws.map wPr)) (.int 0)) n (i+1) (acc++[z]) m2 else .no
     | .bl false=>zY (λu v m=>evE cl (.cmp .eq (.var (env.length+1)) mx) (env++[some u]++[some v]) m) (λu v m=>evE cl elt (env++[some u]++[some v]) m) (zz .ptp (.tup (ws.map wPr)) (.int 0)) n (i+1) acc m1
     | _=>.no):=by
    cases z:evE cl mx (env.set j none++[some (Wd.str k)]) m' with
    | ok y m2=>rw[z] at Pi;exact Pi
    | exc c y m2=>rw[z] at Pi;exact Pi
    | no=>rw[z] at Pi;exact Pi
   refine ⟨as',_,m',M.S,G1,zjY Pi' M.T λy m2 as2 H2 u T2 S2 R2 P2=>?_⟩;have M2:=M.go T2 S2;refine ⟨as2,m2,w,y,S2,(R.mono S M.T).mono M.S T2,R2,zjY P2 M2.T λwb m3 as3 H3 vb T3 S3 R3 P3=>?_⟩;have M3:=M2.go T3 S3;cases wb with
   | bl b =>
    obtain rfl:=rep_bl.mp R3;refine ⟨b,rfl,?_⟩;cases b with
    | false=>exact gL ⟨n,Nat.lt_succ_self _,as3,m3,acc,M3,P3⟩
    | true =>
     have P3:Post X.K as H Q ((evE cl elt (env++[some (Wd.str k)]++[some w]) m3).bind λz m2=>if acc.length < lim then zY (λu v m=>evE cl (.cmp .eq (.var (env.length+1)) mx) (env++[some u]++[some v]) m) (λu v m=>evE cl elt (env++[some u]++[some v]) m) (zz .ptp (.tup (ws.map wPr)) (.int 0)) n (i+1) (acc++[z]) m2 else .no):=P3;rw[x9 hlow elt m3 le] at P3;refine gM ⟨as3,_,m3,S3,(G1.mono M.S T2).mono S2 T3,zjY P3 M3.T λwy m4 as4 H4 vy T4 S4 R4 P4=>?_⟩;have M4:=M3.go T4 S4;by_cases hlm:acc.length < lim
     .rw[if_pos hlm] at P4;exact ⟨M4.hD,by rw[<- M4.R.length];exact Nat.lt_of_lt_of_le hlm yG,n,Nat.lt_succ_self _,as4,m4,acc++[wy],M4.push hD R4,P4⟩
     .rw[if_neg hlm] at P4;exact P4.elim
   | _=>exact P3.elim
theorem zg5 (k:List Nat)(a:Ex)(env:En)(m:Me):evE cl (pr2 k a) env m=(evE cl a env m).bind λw m1=>.ok (wPr (k,w)) m1:=by
 show ((((evE cl a env m).bind λy m2=>(Rz.ok (.tup []) m2).bind λz m3=>.ok (.tup (y::zn z)) m3).bind λy m2=>.ok (.tup (Wd.str k::zn y)) m2).bind λx m1=>if (zn x).length<=lim then .ok (.tup (zn x)) m1 else .no)=_;cases evE cl a env m with
 | ok w m1 =>
  show (if ([Wd.str k,w]:List Wd).length<=lim then Rz.ok (.tup [.str k,w]) m1 else .no)=_;rw[if_pos (show ([Wd.str k,w]:List Wd).length<=lim by show 2<=lim;decide)];rfl
 | exc c w m1=>rfl
 | no=>rfl
theorem zc1 {a b c d:Ex}{env:En}{m m':Me}{w:Wd}(h1:evE cl (wT a b c d) env m=.ok w m'):
  ∃wa m1 wb m2 wc m3 wd,evE cl a env m=.ok wa m1/\evE cl b env m1=.ok wb m2/\evE cl c env m2=.ok wc m3/\evE cl d env m3=.ok wd m'/\w=.tup [wa,wb,wc,wd]:=by
 obtain ⟨z,mz,g1,g2⟩:=zjZ (show (evE cl (.pair a (.pair b (.pair c (.pair d .unit)))) env m).bind (λx m1=>if (zn x).length<=lim then Rz.ok (.tup (zn x)) m1 else .no)=_ from h1);obtain ⟨wa,m1,p1,q1⟩:=zjZ (show (evE cl a env m).bind (λx m1=>(evE cl (.pair b (.pair c (.pair d .unit))) env m1).bind λy m2=>Rz.ok (.tup (x::zn y)) m2)=_ from g1);obtain ⟨yb,n1,p2,q2⟩:=zjZ q1;obtain ⟨wb,m2,p3,q3⟩:=zjZ (show (evE cl b env m1).bind (λx m1=>(evE cl (.pair c (.pair d .unit)) env m1).bind λy m2=>Rz.ok (.tup (x::zn y)) m2)=_ from p2);obtain ⟨yc,n2,p4,q4⟩:=zjZ q3;obtain ⟨wc,m3,p5,q5⟩:=zjZ (show (evE cl c env m2).bind (λx m1=>(evE cl (.pair d .unit) env m1).bind λy m2=>Rz.ok (.tup (x::zn y)) m2)=_ from p4);obtain ⟨yd,n3,p6,q6⟩:=zjZ q5;obtain ⟨wd,m4,p7,q7⟩:=zjZ (show (evE cl d env m3).bind (λx m1=>(Rz.ok (.tup []) m1).bind λy m2=>Rz.ok (.tup (x::zn y)) m2)=_ from p6);cases q7;cases q6;cases q4;cases q2
 replace g2:(if ([wa,wb,wc,wd]:List Wd).length<=lim then Rz.ok (.tup [wa,wb,wc,wd]) mz else .no)=.ok w m':=g2
 rw[if_pos (show ([wa,wb,wc,wd]:List Wd).length<=lim by show 4<=lim;decide)] at g2;cases g2;exact ⟨wa,m1,wb,m2,wc,m3,wd,p1,p3,p5,p7,rfl⟩
theorem v9 {k:List Nat}{a:Ex}{env:En}{m m':Me}{w:Wd}(h:evE cl (pr2 k a) env m=.ok w m'):∃u,evE cl a env m=.ok u m'/\w=wPr (k,u):=by
 rw[zg5] at h;obtain ⟨u,m1,h1,h2⟩:=zjZ h;cases h2;exact ⟨u,h1,rfl⟩
theorem zc2 {K:PySem.W.Frag}{as:List Addr}{H:Hp}{D:Ends}{env:En}{r:Rz}(h:PostS K as H D (r.bindS env λw m1=>.ret w m1)):Post K as H D.rt r:=by
 cases r with
 | ok w m'=>exact h
 | exc c w m'=>exact h
 | no=>exact h
theorem zg6 {a b c d elt mx:Ex}{k1 k2 k3 k4:List Nat}{s1 s2 s3 s4 mkn side:Str}{j:Nat}{x1 x2 x3 x4 xe xm:Expr}{scope:Scope}{c1 c2 c3 c4}{p0 p1 p2 p3 p4 pd pa pt pi pm ps pq pc pl pr:Pos}
  (hu:X.A.units+64 < cLine) (hc:X.calm=true) (hN:X.N.Nodup) (hj:X.N[j]?=some mkn) (hl:Loc X.env.scope mkn) (hf:X.fn mkn=true)
  (e1:s1.cps.toList=k1) (e2:s2.cps.toList=k2) (e3:s3.cps.toList=k3) (e4:s4.cps.toList=k4)
  (n12:k1≠k2) (n13:k1≠k3) (n14:k1≠k4) (n23:k2≠k3) (n24:k2≠k4) (n34:k3≠k4)
  (hsw:swapsWith (.Dict [some (.Constant (.str s1) c1 p1),some (.Constant (.str s2) c2 p2),some (.Constant (.str s3) c3 p3),some (.Constant (.str s4) c4 p4)] [x1,x2,x3,x4] pd) (some (.Name mkn p0)) pa.line X.env=pure false)
  (ha:PE X x1 (tOf X.K (evE cl a))) (hb:PE X x2 (tOf X.K (evE cl b))) (hcc:PE X x3 (tOf X.K (evE cl c))) (hd:PE X x4 (tOf X.K (evE cl d))) (hv:PE X (.Name mkn pi) (jp j)) (B:BlockOk X scope [side])
  (hm:∀Xc,CompOf X scope [side] Xc->PE Xc (.Name mkn pm) (jp j)/\PE Xc (.Name side ps) (jp X.N.length)/\PE Xc xm (tOf X.K (evE cl mx))/\PE Xc xe (tOf X.K (evE cl elt)))
  (hmk:behindInMarks .Eq xm=false) (le:wC (X.N.length+1) j elt=true) (lm:wC (X.N.length+1) j mx=true) :
  PSs X [.Assign [.Name mkn p0] (.Dict [some (.Constant (.str s1) c1 p1),some (.Constant (.str s2) c2 p2),some (.Constant (.str s3) c3 p3),some (.Constant (.str s4) c4 p4)] [x1,x2,x3,x4] pd) pa,
   .Return (some (.ListComp xe [⟨.Name side pt,.Name mkn pi,[.Compare (.Subscript (.Name mkn pm) (.Name side ps) pq) [.Eq] [xm] pc],0⟩] scope pl)) pr] (xw X.K (exS cl (.ret (zcs X.N.length k1 k2 k3 k4 a b c d mx elt)))):=by
 obtain rfl:=j5 e1;obtain rfl:=j5 e2;obtain rfl:=j5 e3;obtain rfl:=j5 e4;intro pins s σ H D I h;have hlen:=I.len;have body:∀Xc,CompOf X scope [side] Xc->PTs Xc [.Compare (.Subscript (.Name mkn pm) (.Name side ps) pq) [.Eq] [xm] pc] (zaI (tOp (rC X.K .eq) (tOp (jJ X) (jp j) (jp X.N.length)) (tOf X.K (evE cl mx))))/\PE Xc xe (tOf X.K (evE cl elt)):=λXc c=>by
  obtain ⟨h1,h2,h3,h4⟩:=hm Xc c;refine ⟨zeh ?_,h4⟩;have q:=zaJ (pos:=pc) (kN (X:=Xc) (by rw[c.A];exact hu) .eq) (zaL (pos:=pq) ix_F h1 h2 (λ_ _=>rfl)) h3 hmk;have er:jJ Xc=jJ X:=by unfold jJ;rw[c.prog,c.w]
  rw[c.K,er] at q;exact q
 refine (gG (qJ hN hj hl (zcD (wU kB ha (wU kB hb (wU kB hcc (wU kB hd zep)))) rfl rfl (by simp) (by show 4<=15;decide)) hsw (.inl hf)) (zaG (zb7 (v6 B hc (jW B) (zcC hv) body)))) pins s σ H D I ?_;obtain ⟨as,env,m,S,G,P⟩:=h;have hle:env.length=X.N.length:=by rw[G.len,hlen]
 have P:Post X.K as H D.rt ((evE cl (wT (pr2 k1 a) (pr2 k2 b) (pr2 k3 c) (pr2 k4 d)) env m).bind λx m1=>(Rz.ok (.int 0) m1).bind λy m2 =>
   zY (λu v m=>evE cl (.cmp .eq (.var (X.N.length+1)) mx) (env++[some u]++[some v]) m) (λu v m=>evE cl elt (env++[some u]++[some v]) m) (zz .ptp x y) (lim+1) 0 [] m2):=zc2 P
 cases hr:evE cl (wT (pr2 k1 a) (pr2 k2 b) (pr2 k3 c) (pr2 k4 d)) env m with
 | no=>rw[hr] at P;exact P.elim
 | exc c w m'=>rw[hr] at P;exact P.elim
 | ok w m4 =>
  rw[hr] at P;obtain ⟨ta,m1,tb,m2,tc,m3,td,ea,eb,ec,ed,rfl⟩:=zc1 hr;obtain ⟨wa,fa,rfl⟩:=v9 ea;obtain ⟨wb,fb,rfl⟩:=v9 eb;obtain ⟨wc,fc,rfl⟩:=v9 ec;obtain ⟨wd,fd,rfl⟩:=v9 ed;intro p hpn;have T0:Step as H as (upd H p (.dK [])):=⟨⟨[],by simp⟩,λb o h _=>by rw[zg (zq h hpn)];exact h,λb hb=>.inl hb⟩;have S0:Sim X.K as m (upd H p (.dK [])):=S.keep T0 λb _ o e=>by rw[zg (zq e hpn)];exact e
  have G0:=G.mono S T0;have h0:upd H p (.dK []) p=some (.dK []):=zh;have n0:p∉as:=S.new hpn;refine ⟨as,env,m,S0,G0,?_⟩;rw[fa];intro as1 H1 va T1 S1 R1;have h1:=T1.frame _ _ h0 n0;have n1:=T1.out h0 n0;have G1:=G0.mono S0 T1;refine ⟨as1,env,m1,S1,G1,?_⟩;rw[fb];intro as2 H2 vb T2 S2 R2;have h2:=T2.frame _ _ h1 n1;have n2:=T2.out h1 n1;have G2:=G1.mono S1 T2;refine ⟨as2,env,m2,S2,G2,?_⟩;rw[fc];intro as3 H3 vc T3 S3 R3;have h3:=T3.frame _ _ h2 n2;have n3:=T3.out h2 n2;have G3:=G2.mono S2 T3;refine ⟨as3,env,m3,S3,G3,?_⟩;rw[fd];intro as4 H4 vd T4 S4 R4;have h4:=T4.frame _ _ h3 n3;have n4:=T4.out h3 n3;have G4:=G3.mono S3 T4;have ne:∀ {u v:List Nat},u≠v->(Sum.inr ⟨u.toArray⟩:Key)≠Sum.inr ⟨v.toArray⟩:=λ{u v} h e=>h (by
   have e:=Sum.inr.inj e;have e:u.toArray=v.toArray:=Str.mk.inj e;simpa using congrArg Array.toList e)
  refine ⟨h4,[((Sum.inr ⟨k1.toArray⟩:Key),va),(Sum.inr ⟨k2.toArray⟩,vb),(Sum.inr ⟨k3.toArray⟩,vc),(Sum.inr ⟨k4.toArray⟩,vd)],rfl,(by show 4<=15;decide),by simp[n12,n13,n14,n23,n24,n34],λo ep f=>?_⟩;have T04:=((T0.trans T1).trans T2).trans (T3.trans T4);have T5:Step as H as4 (upd H4 p (x0 p o)):=⟨T04.pre,λb o h hb=>by rw[zg (zq h hpn)];exact T04.frame b o h hb,T04.fresh⟩;have k6:Kp X.K H4 (upd H4 p (x0 p o)):=Kp.updL h4 trivial;have S5:Sim X.K as4 m4 (upd H4 p (x0 p o)):=S4.updK k6 λb hb o e=>by rw[zg (by rintro rfl;exact n4 hb)];exact e
  have G5:EnvRep X.K as4 (upd H4 p (x0 p o)) (env.set j none) (σ.set j (some (.ref p))):=by
   have Gk:=G4.kp k6;refine ⟨by simp[Gk.len],λi w e=>?_⟩;by_cases z:i=j
   .subst z;rw[List.getElem?_set_self' ] at e;cases hz:env[i]? with
    | none=>rw[hz] at e;cases e
    | some q=>rw[hz] at e;cases e
   .rw[List.getElem?_set_ne (λq=>z q.symm)] at e ⊢;exact Gk.get i w e
  have hjn:j < X.N.length:=(List.getElem?_eq_some_iff.mp hj).1;have res:=zc0 (X:=X) (cl:=cl) (elt:=elt) (mx:=mx) (env:=env) (σ:=σ.set j (some (.ref p))) (m:=m4) (H:=upd H4 p (x0 p o)) (Q:=D.rt) (p:=p) (o:=o) (ep:=ep) (j:=j) (ws:=[(k1,wa),(k2,wb),(k3,wc),(k4,wd)])
   (by lia) (by rw[hle];exact le) (by rw[hle];exact lm) S5 G5 (by rw[List.getElem?_set_self (by lia)]) zh n4 f rfl (λi k w hw=>by
    match i,hw with
    | 0,hw=>cases hw;exact ⟨va,rfl,by simp[xR],((((R1.mono S1 T2).mono S2 T3).mono S3 T4).kp k6)⟩
    | 1,hw=>cases hw;exact ⟨vb,rfl,by simp[xR,n12],(((R2.mono S2 T3).mono S3 T4).kp k6)⟩
    | 2,hw=>cases hw;exact ⟨vc,rfl,by simp[xR,n13,n23],((R3.mono S3 T4).kp k6)⟩
    | 3,hw=>cases hw;exact ⟨vd,rfl,by simp[xR,n14,n24,n34],(R4.kp k6)⟩
    | i+4,hw=>simp at hw) (by
    rw[hle];exact Post.step P T5)
  rw[hle] at res;exact res
end
set_option genInjectivity false in
inductive Ns where
 | s (st:Stmt) | b (sts:List Stmt)
noncomputable def j6 (sc:Scope)(x:Str):Bool:=decide (sc.names.lookup x=some .local) || decide (sc.names.lookup x=some .cell)
def zbL (cl:Nat->List Wd->Me->Rz)(X:Cx)(s:Sm):Ns->Prop
 | .s st=>PS X st (xw X.K (exS cl s))
 | .b sts=>PSs X sts (xw X.K (exS cl s))
structure StOk (X:Cx):Prop where
 nd:X.N.Nodup
 fn:∀x,X.fn x=true
 hp:PassesOwn (model X.prog X.w) X.A X.env X.xe
section
variable {cl:Nat->List Wd->Me->Rz}
theorem vA {sc:Scope}{x:Str}(h:j6 sc x=true):Loc sc x:=by
 unfold j6 at h;simp only[Bool.or_eq_true,decide_eq_true_eq] at h;exact h
theorem za0 {X:Cx}{i:Nat}{ce:Ex}{nm:Str}{xs:List Str}{x w tg:Expr}{g:TG}{un:V->Hp->List V->Prop}{wi:TI}{fs:List Expr}{scope:Scope}{tc:TT}{te:TE}{p1 pos pos':Pos}(hc:X.calm=true)(hX:StOk X)(hi:X.N[i]?=some nm)(hl:Loc X.env.scope nm)(B:BlockOk X scope xs)(hT:Tgt X scope xs tg g un)(hI:PI X tg w wi)
  (body:∀Xc,CompOf X scope xs Xc->PTs Xc fs tc/\PE Xc x te) (hset:∀v,foldedSetIterable w X.env v=pure v) (hbind:∀σ H Q,tOf X.K (evE cl ce) σ H Q->kF un wi tc te σ H Q)
  (he:PE X (.ListComp x [⟨tg,w,fs,0⟩] scope pos') (tOf X.K (evE cl ce))) :
  PS X (.Assign [.Name nm p1] (.ListComp x [⟨tg,w,fs,0⟩] scope pos') pos) (xw X.K (exS cl (.asg i ce))):=by
 have hsw:∃b:Bool,swapsWith (.ListComp x [⟨tg,w,fs,0⟩] scope pos') (some (.Name nm p1)) pos.line X.env=pure b:=⟨_,rfl⟩;obtain ⟨b,hb⟩:=hsw;cases b with
 | false=>exact PS.imp (qJ hX.nd hi hl he hb (.inl (hX.fn nm))) λD σ H q=>k5 q
 | true =>
  refine PS.imp (qS B hc hT hI body hX.nd hi hl (.inl (hX.fn nm)) hb hset) λD σ H q=>?_;exact hbind _ _ _ (k5 q)
def IsS (C:Ctx)(sc:Scope)(N:List Str)(s:Sm)(n:Ns):Prop:=∀ (cl:Nat → List Wd → Me → Rz) (d:Nat) (X:Cx),CtxOk C X cl d → StOk X → X.env.scope=sc → X.N=N → zbL cl X s n
theorem zg7 {C:Ctx}{d:Nat}{X:Cx}(hC:CtxOk C X cl d)(hX:StOk X){s:Sm}{n:Ns}(h:IsS C X.env.scope X.N s n):zbL cl X s n:=h cl d X hC hX rfl rfl
theorem IsS.«skip0» {C:Ctx}{sc:Scope}{N:List Str}:IsS C sc N .skip (.b []):=by
 intro cl d X hC hX es eN;subst es;subst eN;exact zeF
theorem IsS.«one» {C:Ctx}{sc:Scope}{N:List Str}{s:Sm}{st:Stmt}(h:IsS C sc N s (.s st)):IsS C sc N s (.b [st]):=by
 intro cl d X hC hX es eN;subst es;subst eN;have ih:=h cl d X hC hX rfl rfl;exact zaG ih
theorem IsS.«seq» {C:Ctx}{sc:Scope}{N:List Str}{a b:Sm}{st st':Stmt}{r:List Stmt}(ha:IsS C sc N a (.s st))(hb:IsS C sc N b (.b (st'::r))):IsS C sc N (.seq a b) (.b (st::st'::r)):=by
 intro cl d X hC hX es eN;subst es;subst eN;have iha:=ha cl d X hC hX rfl rfl;have ihb:=hb cl d X hC hX rfl rfl;exact zg0 iha ihb
theorem IsS.«asg» {C:Ctx}{sc:Scope}{N:List Str}{i:Nat}{e:Ex}{x:Str}{v:Expr}{p p':Pos}(hc:kZ v=false)(h1:N[i]?=some x)(h2:j6 sc x=true)(hr:zo e=false)(he:IsE C sc N e (.e v)):IsS C sc N (.asg i e) (.s (.Assign [.Name x p] v p')):=by
 intro cl d X hC hX es eN;subst es;subst eN;exact PS.imp (qJ hX.nd h1 (vA h2) ((yq he X hC rfl rfl).pe hr) (zae hc) (.inl (hX.fn _))) λD σ H q=>k5 q
theorem IsS.«asgC0» {C:Ctx}{sc:Scope}{N:List Str}{i:Nat}{elt it:Ex}{x y:Str}{z w:Expr}{scope:Scope}{p p' q q':Pos}(h1:N[i]?=some x)(h2:j6 sc x=true)(hs:yH w=true)(hB:x8 sc N scope [y]=true)(hi:IsE C sc N it (.e w))(re:zo elt=false)(he:IsE C (yI scope sc) (yD N [y]) elt (.e z)):
   IsS C sc N (.asg i (.comp elt it (.lit (.bl true)))) (.s (.Assign [.Name x p] (.ListComp z [⟨.Name y q,w,[],0⟩] scope q') p')):=by
 intro cl d X hC hX es eN;subst es;subst eN;have hset:∀v,foldedSetIterable w X.env v=pure v:=vw hs;refine za0 (fs:=[]) (tc:=_) hC.calm hX h1 (vA h2) (yE hB) (jW (yE hB)) ((yq hi X hC rfl rfl).2 _) (te:=tOf X.K (evE cl elt)) (λXc c=>⟨wS,?_⟩) hset (λσ H Q q=>jL (λσ H Q q=>?_) q) ((yq (IsE.comp0 hs hB hi re he) X hC rfl rfl).pe rfl)
 .have q:=(yq he Xc (hC.comp c) c.sc c.N).pe re;rw[c.K] at q;exact q
 .obtain ⟨as,env,m,S,G,P⟩:=q;obtain ⟨b,e,q⟩:=Post.ok (m:=m) P S (rep_bl.mpr rfl);cases e;exact q
theorem IsS.«asgCZ0» {C:Ctx}{sc:Scope}{N:List Str}{i:Nat}{elt a b:Ex}{x y y':Str}{z w w':Expr}{scope:Scope}{p p' q q' q2 q3 q4 pt:Pos}{kt:Nat}(h1:N[i]?=some x)(h2:j6 sc x=true)(hg:glB sc "zip" = true)(hB:x8 sc N scope [y,y']=true)(hs:zA w=true)(hs':zA w'=true)(ra:zo a=false)(ha:IsE C sc N a (.e w))(rb:zo b=false)(hb:IsE C sc N b (.e w'))(re:zo elt=false)(he:IsE C (yI scope sc) (yD N [y,y']) elt (.e z)):
   IsS C sc N (.asg i (.compP .zip elt a b (.lit (.bl true)))) (.s (.Assign [.Name x p] (.ListComp z [⟨.Tuple [.Name y q,.Name y' q2] kt pt,.Call (.Name "zip" q3) [w,w'] [] q4,[],0⟩] scope q') p')):=by
 intro cl d X hC hX es eN;subst es;subst eN;refine za0 (fs:=[]) (tc:=_) hC.calm hX h1 (vA h2) (yE hB) (jX hC.calm (yE hB)) (zcR (wG hg) (hC.blt _ (by simp[zC])) (xy ((yq ha X hC rfl rfl).pe ra) (xy ((yq hb X hC rfl rfl).pe rb) vp (zm hs')) (zm hs)) (by rw[zm hs,zm hs'];rfl) (zm hs')) (te:=tOf X.K (evE cl elt)) (λXc c=>⟨wS,?_⟩) (λ_=>rfl) (λσ H Q q=>kX (λσ H Q q=>?_) q) ((yq (IsE.compZ0 hg hB hs hs' ra ha rb hb re he) X hC rfl rfl).pe rfl)
 .have q:=(yq he Xc (hC.comp c) c.sc c.N).pe re;rw[c.K] at q;exact q
 .obtain ⟨as,env,m,S,G,P⟩:=q;obtain ⟨b,e,q⟩:=Post.ok (m:=m) P S (rep_bl.mpr rfl);cases e;exact q
theorem IsS.«sel» {C:Ctx}{sc:Scope}{N:List Str}{a b c d elt mx:Ex}{k1 k2 k3 k4:List Nat}{s1 s2 s3 s4 mkn side:Str}{j:Nat}{x1 x2 x3 x4 xe xm:Expr}{scope:Scope}{c1 c2 c3 c4}{p0 p1 p2 p3 p4 pd pa pt pi pm ps pq pc pl pr:Pos}(e1:s1.cps.toList=k1)(e2:s2.cps.toList=k2)(e3:s3.cps.toList=k3)(e4:s4.cps.toList=k4)(nd:[k1,k2,k3,k4].Nodup)
   (h1:N[j]?=some mkn) (h2:j6 sc mkn=true) (h3:yx mkn=true) (v1:g0 sc mkn=true) (g1:(yD N [side])[j]?=some mkn) (v2:g0 (yI scope sc) mkn=true) (g2:(yD N [side])[N.length]?=some side) (v3:g0 (yI scope sc) side=true) (g3:yx side=true) (hB:x8 sc N scope [side]=true)
   (ra:zo a=false) (ha:IsE C sc N a (.e x1)) (rb:zo b=false) (hb:IsE C sc N b (.e x2)) (rc:zo c=false) (hc:IsE C sc N c (.e x3)) (rd:zo d=false) (hd:IsE C sc N d (.e x4))
   (rm:zo mx=false) (hm:IsE C (yI scope sc) (yD N [side]) mx (.e xm)) (re:zo elt=false) (he:IsE C (yI scope sc) (yD N [side]) elt (.e xe)) (hs:yH xm=true) (le:wC (N.length+1) j elt=true) (lm:wC (N.length+1) j mx=true) :
   IsS C sc N (.ret (zcs N.length k1 k2 k3 k4 a b c d mx elt)) (.b [.Assign [.Name mkn p0] (.Dict [some (.Constant (.str s1) c1 p1),some (.Constant (.str s2) c2 p2),some (.Constant (.str s3) c3 p3),some (.Constant (.str s4) c4 p4)] [x1,x2,x3,x4] pd) pa,
    .Return (some (.ListComp xe [⟨.Name side pt,.Name mkn pi,[.Compare (.Subscript (.Name mkn pm) (.Name side ps) pq) [.Eq] [xm] pc],0⟩] scope pl)) pr]):=by
 intro cl d X hC hX es eN;subst es;subst eN;simp only[List.nodup_cons,List.mem_cons,List.not_mem_nil,not_or,or_false] at nd;obtain ⟨⟨n12,n13,n14⟩,⟨n23,n24⟩,n34,_⟩:=nd;obtain ⟨o1,o2,_⟩:=yP h3;obtain ⟨o3,o4,_⟩:=yP g3;refine zg6 hC.room.units hC.calm hX.nd h1 (vA h2) (hX.fn _) e1 e2 e3 e4 n12 n13 n14 n23 n24 n34 (zae rfl) ((yq ha X hC rfl rfl).pe ra) ((yq hb X hC rfl rfl).pe rb) ((yq hc X hC rfl rfl).pe rc) ((yq hd X hC rfl rfl).pe rd) (kA h1 (kY v1) o1 o2) (yE hB) (λXc c=>⟨kA (by rw[c.N];exact g1) (by rw[c.sc];exact kY v2) o1 o2,kA (by rw[c.N];exact g2) (by rw[c.sc];exact kY v3) o3 o4,?_,?_⟩) (zaU hs) le lm
 .have q:=(yq hm Xc (hC.comp c) c.sc c.N).pe rm;rw[c.K] at q;exact q
 .have q:=(yq he Xc (hC.comp c) c.sc c.N).pe re;rw[c.K] at q;exact q
theorem IsS.«dput» {C:Ctx}{sc:Scope}{N:List Str}{j:Nat}{i e:Ex}{x y z:Expr}{p p':Pos}(hs:yY y=true)(ho:IsE C sc N (.var j) (.e x))(ri:zo i=false)(hi:IsE C sc N i (.e y))(re:zo e=false)(he:IsE C sc N e (.e z)):IsS C sc N (.dput j i e) (.s (.Assign [.Subscript x y p] z p')):=by
 intro cl d X hC hX es eN;subst es;subst eN;exact zeH hC.room.units ((yq ho X hC rfl rfl).pe rfl) ((yq hi X hC rfl rfl).pe ri) ((yq he X hC rfl rfl).pe re) hs
theorem IsS.«aug» {C:Ctx}{sc:Scope}{N:List Str}{i:Nat}{op:Bo}{e:Ex}{x:Str}{v:Expr}{p p':Pos}(h1:N[i]?=some x)(h2:j6 sc x=true)(h3:zcX op=true)(hr:zo e=false)(he:IsE C sc N e (.e v)):IsS C sc N (.aug i op e) (.s (.AugAssign (.Name x p) (opK op) v p')):=by
 intro cl d X hC hX es eN;subst es;subst eN;exact zg3 h3 hX.nd h1 (vA h2) (.inl (hX.fn _)) ((yq he X hC rfl rfl).pe hr)
theorem IsS.«ite» {C:Ctx}{sc:Scope}{N:List Str}{c:Ex}{a b:Sm}{x:Expr}{xs ys:List Stmt}{p:Pos}(rc:zo c=false)(ic:jq c=false)(hc:IsE C sc N c (.e x))(ha:IsS C sc N a (.b xs))(hb:IsS C sc N b (.b ys)):IsS C sc N (.ite c a b) (.s (.If x xs ys p)):=by
 intro cl d X hC hX es eN;subst es;subst eN;have iha:=ha cl d X hC hX rfl rfl;have ihb:=hb cl d X hC hX rfl rfl;exact ziH ((yq hc X hC rfl rfl).pt rc ic) iha ihb
theorem IsS.«forv» {C:Ctx}{sc:Scope}{N:List Str}{i:Nat}{it:Ex}{body:Sm}{x:Str}{y:Expr}{sts:List Stmt}{p p':Pos}(h1:N[i]?=some x)(h2:j6 sc x=true)(hs:yH y=true)(hi:IsE C sc N it (.e y))(hb:IsS C sc N body (.b sts)):IsS C sc N (.forv i it body) (.s (.For (.Name x p) y sts [] p')):=by
 intro cl d X hC hX es eN;subst es;subst eN;have ihb:=hb cl d X hC hX rfl rfl;have hset:∀v,foldedSetIterable y X.env v=pure v:=vw hs;refine PS.imp (zgj hX.hp hC.calm ((yq hi X hC rfl rfl).2 _) (v5 hX.nd h1 (vA h2) (.inl (hX.fn _))) ihb hset) λD σ H q=>?_;exact zcZ (zcY i) q
theorem IsS.«orP» {C:Ctx}{sc:Scope}{N:List Str}{j:Nat}{c x:Ex}{a b:Sm}{n:Ns}(h:IsS C sc N (.ite (.or c (.cmp .ne (.meth .pop (.var j) .unit) x)) a b) n):IsS C sc N (.ite c a (.popI j x a b)) n:=by
 intro cl d X hC hX es eN;subst es;subst eN;have ih:=h cl d X hC hX rfl rfl;have e:exS cl (.ite c a (.popI j x a b))=exS cl (.ite (.or c (.cmp .ne (.meth .pop (.var j) .unit) x)) a b):=by
  funext env m;show ((evE cl c env m).bindS env λy m1=>match y with
   | .bl true=>exS cl a env m1
   | .bl false=>exS cl (.ite (.cmp .ne (.meth .pop (.var j) .unit) x) a b) env m1
   | _=>.no)=(((evE cl c env m).bind λy m1=>match y with
   | .bl false=>evE cl (.cmp .ne (.meth .pop (.var j) .unit) x) env m1
   | .bl true=>.ok (.bl true) m1
   | _=>.no).bindS env λy m1=>match y with
   | .bl true=>exS cl a env m1
   | .bl false=>exS cl b env m1
   | _=>.no)
  cases evE cl c env m with
  | ok y m1 =>
   cases y with
   | bl t=>cases t <;> rfl
   | _=>rfl
  | exc k y m1=>rfl
  | no=>rfl
 cases n with
 | s st=>unfold zbL at ih ⊢;rw[e];exact ih
 | b sts=>unfold zbL at ih ⊢;rw[e];exact ih
theorem IsS.«popI» {C:Ctx}{sc:Scope}{N:List Str}{j:Nat}{x:Ex}{a b:Sm}{n:Ns}(h:IsS C sc N (.ite (.cmp .ne (.meth .pop (.var j) .unit) x) a b) n):IsS C sc N (.popI j x a b) n:=by
 intro cl d X hC hX es eN;subst es;subst eN;have ih:=h cl d X hC hX rfl rfl;have e:exS cl (.popI j x a b)=exS cl (.ite (.cmp .ne (.meth .pop (.var j) .unit) x) a b):=by
  funext env m;rfl
 cases n with
 | s st=>unfold zbL at ih ⊢;rw[e];exact ih
 | b sts=>unfold zbL at ih ⊢;rw[e];exact ih
theorem IsS.«while» {C:Ctx}{sc:Scope}{N:List Str}{c:Ex}{body:Sm}{x:Expr}{sts:List Stmt}{p:Pos}(rc:zo c=false)(ic:jq c=false)(hc:IsE C sc N c (.e x))(hb:IsS C sc N body (.b sts)):IsS C sc N (.while c body) (.s (.While x sts [] p)):=by
 intro cl d X hC hX es eN;subst es;subst eN;have ihb:=hb cl d X hC hX rfl rfl;exact PS.imp (zca hX.hp ((yq hc X hC rfl rfl).pt rc ic) ihb) λD σ H q=>zag q
theorem IsS.«ret» {C:Ctx}{sc:Scope}{N:List Str}{e:Ex}{x:Expr}{p:Pos}(hr:zo e=false)(he:IsE C sc N e (.e x)):IsS C sc N (.ret e) (.s (.Return (some x) p)):=by
 intro cl d X hC hX es eN;subst es;subst eN;exact zg1 ((yq he X hC rfl rfl).pe hr)
theorem IsS.«expr» {C:Ctx}{sc:Scope}{N:List Str}{e:Ex}{x:Expr}{p:Pos}(hc:kZ x=false)(hr:zo e=false)(he:IsE C sc N e (.e x)):IsS C sc N (.expr e) (.s (.Expr x p)):=by
 intro cl d X hC hX es eN;subst es;subst eN;exact zeG ((yq he X hC rfl rfl).pe hr) hc
end
set_option genInjectivity false in
structure Dfn where
 nm:Str
 st:Stmt
 N:List Str
 ps:List Str
 fn:Fn
 on:Str
noncomputable def zah (N ps:List Str)(sc:Scope):Bool :=
 decide (sc.kind=.function) && (decide (sc.isCoroutine=false) && (decide (sc.isGenerator=false) && (decide N.Nodup && (decide (N.take ps.length=ps) &&
  (ps.all (λx=>decide (sc.names.lookup x=some .local) || decide (sc.names.lookup x=some .cell)) && sc.names.all (λy=>!(decide (y.2=.free))))))))
theorem zbM {N ps:List Str}{sc:Scope}(h:zah N ps sc=true):FnScope N ps sc:=by
 unfold zah at h;simp only[Bool.and_eq_true,Bool.or_eq_true,decide_eq_true_eq,List.all_eq_true,Bool.not_eq_true',decide_eq_false_iff_not] at h;obtain ⟨h1,h2,h3,h4,h5,h6,h7⟩:=h;exact ⟨h1,h2,h3,h4,h5,h6,h7⟩
structure OkD (C:Ctx)(d:Dfn):Prop where
 sc:zah d.N d.ps (zW d.st)=true
 ar:d.ps.length=d.fn.ar
 sz:d.N.length=d.fn.sz
 body:IsS C (zW d.st) d.N d.fn.body (.b (xz d.st))
section
variable {P:Program}{w:World}{K:PySem.W.Frag}{mg:Str->Option Value}{base:Heap}{C:Ctx}{cl:Nat->List Wd->Me->Rz}
theorem zbN {as:List Addr}{H:Hp}{fn:Fn}{N:List Str}{ws:List Wd}{vs:List V}(R:RepL K as H ws vs)(hl:ws.length=fn.ar)(hN:N.length=fn.sz):EnvRep K as H (xQ fn ws) (L2.start N vs):=by
 have hv:=R.length;refine ⟨by simp[xQ,L2.start,hN,hv],λi w e=>?_⟩;unfold xQ at e;by_cases hi:i < ws.length
 .rw[List.getElem?_append_left (by simpa using hi),List.getElem?_map] at e;cases hx:ws[i]? with
  | none=>rw[hx] at e;cases e
  | some x =>
   rw[hx] at e;cases e;obtain ⟨v,h1,h2⟩:=R.get hx;refine ⟨v,?_,h2⟩;unfold L2.start;rw[List.getElem?_append_left (by simp;lia),List.getElem?_map,h1];rfl
 .rw[List.getElem?_append_right (by simpa using hi),List.getElem?_replicate] at e;split at e <;> cases e
set_option tactic.hygienic true in
theorem zc3 {d:Dfn}{f:Addr}{fd:FuncData}{k:Nat}(F:Fun K d.on d.on d.st f fd)(hd:OkD C d)
  (hfn:∀ (i:Nat) (nm:Str),C.fns[i]?=some nm->∃f fd ps,mg nm=some (.ref f)/\PySem.W.keepIn K (.ref f)=true/\Binds K fd ps []/\FnOk P w K mg base CX0 k f fd ps (j4 K (cl i)))
  (hcon:g6 K w mg C) (hblt:∀nm∈zC,mg nm=none) :
  FnOk P w K mg base CX0 (k+1) f fd d.ps (j4 K (jZ cl d.fn)):=by
 obtain ⟨h1,h2,h3,h4⟩:=hd;have Sc:=zbM h1;have arity:∀ {as:List Addr}{H:Hp}{Q:VK}{ws:List Wd}{m:Me},Post K as H Q (jZ cl d.fn ws m)->ws.length=d.fn.ar:=λ{as H Q ws m} h=>by
  unfold jZ at h;split at h
  .assumption
  .exact h.elim
 refine F.ok Sc (λvs H Q E h=>?_) (λcdv A outer s H vs Q E hr h=>?_)
 .obtain ⟨as,m,ws,S,R,q⟩:=h;rw[<- R.length,arity q,h2]
 .obtain ⟨as,m,ws,S,R,q⟩:=h;have ha:=arity q;have hC:CtxOk C (gJ CX0 P w K mg base d.N d.on (zW d.st) f cdv A outer s H E).nox cl k:=⟨hr,rfl,hfn,hcon,hblt⟩;have hX:StOk (gJ CX0 P w K mg base d.N d.on (zW d.st) f cdv A outer s H E).nox:=⟨Sc.nd,λ_=>rfl,PassesOwn.never⟩;refine ⟨_,zg7 hC hX h4,as,xQ d.fn ws,m,S,zbN R ha h3,?_⟩;unfold jZ at q;rw[if_pos ha] at q;cases hr:exS cl d.fn.body (xQ d.fn ws) m with
  | next e m1=>rw[hr] at q;exact λas' H' σ' T S' G=>q as' H' .non T S' (rep_non.mpr rfl)
  | ret w m1=>rw[hr] at q;exact λas' H' v T S' R'=>q as' H' v T S' R'
  | brk e m1=>rw[hr] at q;exact q.elim
  | cont e m1=>rw[hr] at q;exact q.elim
  | exc c w e m1=>rw[hr] at q;exact q.elim
  | no=>rw[hr] at q;exact q.elim
def zO (K:PySem.W.Frag)(mg:Str->Option Value)(d:Dfn):Prop:=∃f fd,Fun K d.on d.on d.st f fd/\mg d.nm=some (.ref f)
def Bnd (d:Dfn):Prop:=∀ (kV doc pm:Value) (an:Option Addr) (cdv ct:Value) (us:List Value),us.length=d.ps.length->bindArgs (PySem.W.fnOf d.on d.on (wm d.st) (xz d.st) (zW d.st) .none kV doc pm an cdv ct) ⟨us,[]⟩=pure (d.ps.zip us)
theorem vS {D:List Dfn}(hC:C.fns=D.map (·.nm))(hD:∀d∈D,OkD C d)(hB:∀d∈D,Bnd d)(hK:∀d∈D,zO K mg d)
  (hcon:g6 K w mg C) (hblt:∀nm∈zC,mg nm=none) :
  ∀ (k:Nat) (i:Nat) (d:Dfn),D[i]?=some d->∀f fd,Fun K d.on d.on d.st f fd->FnOk P w K mg base CX0 k f fd d.ps (j4 K (xa (D.map (·.fn)) k i))
 | 0,i,d,hi,f,fd,F=>by
  have no:∀ {vs:List V}{H:Hp}{Q:VK}{E:XK},¬ j4 K (xa (D.map (·.fn)) 0 i) vs H Q E:=λ{vs H Q E} h=>by
   obtain ⟨as,m,ws,S,R,q⟩:=h;exact q
  exact ⟨λvs H Q E h=>(no h).elim,λA outer s H args us vs Q E _ _ _ _ h=>(no h).elim⟩
 | k+1,i,d,hi,f,fd,F=>by
  have ih:=vS hC hD hB hK hcon hblt k;have e:j4 K (xa (D.map (·.fn)) (k+1) i)=j4 K (jZ (xa (D.map (·.fn)) k) d.fn):=by
   have:xa (D.map (·.fn)) (k+1) i=jZ (xa (D.map (·.fn)) k) d.fn:=by
    funext ws m;unfold xa;rw[List.getElem?_map,hi];rfl
   rw[this]
  rw[e];refine zc3 F (hD d (List.mem_of_getElem? hi)) (λj nm hj=>?_) hcon hblt;rw[hC,List.getElem?_map] at hj;cases hx:D[j]? with
  | none=>rw[hx] at hj;cases hj
  | some d' =>
   rw[hx] at hj;cases hj;obtain ⟨f',fd',F',m'⟩:=hK d' (List.mem_of_getElem? hx);exact ⟨f',fd',d'.ps,m',F'.kp,F'.binds (hB d' (List.mem_of_getElem? hx)),ih j d' hx f' fd' F'⟩
end
theorem zc4 {K:PySem.W.Frag}{D:List Dfn}{k i:Nat}{H:Hp}{a:Addr}{ns:List Int}{E:XK}(hO:zeg H)(hS:SqL K H a (ns.map V.int))(h:∃m,xa (D.map (·.fn)) k i [.rol (ns.map Wd.int)] []=.ok (.bl true) m):
  j4 K (xa (D.map (·.fn)) k i) [.ref a] H (λv _=>v=.bl true) E:=by
 obtain ⟨m,h⟩:=h;refine ⟨[],[],[.rol (ns.map Wd.int)],⟨rfl,List.nodup_nil,λl a o e=>by simp at e⟩,repL_cons.mpr ⟨.ref a,[],rfl,rep_rol.mpr ⟨a,ns.map V.int,rfl,?_,?_⟩,repL_nil.mpr rfl⟩,?_⟩
 .rcases hS with (hS | ⟨o,hS⟩) | hS
  .rcases hO a with z | ⟨o,xs,z⟩
   .rw[z] at hS;cases hS
   .rw[z] at hS;cases hS
  .exact .inl ⟨o,hS⟩
  .exact .inr hS
 .have all:∀l:List Int,RepL K [] H (l.map Wd.int) (l.map V.int):=by
   intro l
   induction l with
   | nil=>exact repL_nil.mpr rfl
   | cons n l ih=>exact repL_cons.mpr ⟨_,_,rfl,rep_int.mpr rfl,ih⟩
  exact all ns
 .rw[h];exact λas' H' v T S R=>rep_bl.mp R
theorem ziJ {l:PySem.W.OpenLaw}{q:Program}{loose:List Str}{XP:(Str->Option Value)->Heap->Prop}{YP:World->Heap->Prop}{d:DefRec}{Kp:Params->PySem.W.Frag}{D:List Dfn}{C:Ctx}{k i:Nat}{dl:Dfn}{x:Str}{n:Nat}
  (hn:l.most=some n) (hn2:n<=sizeLine) (hdf:d.params.defaults=[]) (hr:Room k callerA) (hY:∀ (w:World) (h:Heap),YP w h->(Kp w.params).In h)
  (hC:C.fns=D.map (·.nm)) (hD:∀d∈D,OkD C d) (hB:∀d∈D,Bnd d) (hi:D[i]?=some dl) (hx:dl.ps=[x]) (hnm:d.name=dl.nm)
  (F:∀ (w:World) (mg:Str->Option Value) (fa:Addr) (h:Heap),(Kp w.params).In h->h.Ns mainGlobals mg->mg d.name=some (.ref fa) ->
   (∀e∈D,zO (Kp w.params) mg e)/\g6 (Kp w.params) w mg C/\∀nm∈zC,mg nm=none)
  (hpure:∀ns:List Int,ns.length<=n->∃m,xa (D.map (·.fn)) k i [.rol (ns.map Wd.int)] []=.ok (.bl true) m) :
  PySem.W.WalkO q loose XP YP l.row.toRowW d [] (λf vs=>PySem.call f vs):=by
 refine L2.walk_of (n:=n) (k:=k) (x:=x) (CX:=λ_=>CX0) (sp:=λw=>j4 (Kp w.params) (xa (D.map (·.fn)) k i)) hn hn2 hdf hr hY ?_ (λw H a ns hl hO hS=>zc4 hO hS (hpure ns hl)) λ_ _ _ _ _ z=>z;intro w mg fa h KX G hmg;obtain ⟨h1,h2,h3⟩:=F w mg fa h KX G hmg;obtain ⟨f,fd,Ff,hm⟩:=h1 dl (List.mem_of_getElem? hi);rw[hnm,hm] at hmg;cases hmg;refine ⟨fd,λs u=>?_,λbase kb nb=>?_⟩
 .obtain ⟨oc,od,kV,doc,pm,an,cdv,ct,osl,rfl,lk,hcd⟩:=Ff.ex;have q:=hB dl (List.mem_of_getElem? hi) kV doc pm an cdv ct [u] (by rw[hx];rfl);rw[hx] at q;exact .of_eq q
 .rw[<- hx];exact vS hC hD hB h1 h2 h3 k i dl hi fa fd Ff
theorem IsE.v {C:Ctx}{sc:Scope}{N:List Str}{i:Nat}{x:Str}{p:Pos}(h1:N[i]?=some x:=by rfl)(h2:g0 sc x=true:=by kernel_rfl)(h3:yx x=true:=by kernel_rfl):IsE C sc N (.var i) (.e (.Name x p)):=.var h1 h2 h3
theorem us1 {P:List Value->Prop}(h:∀a,P [a]):∀us:List Value,us.length=1->P us
 | [a],_=>h a
theorem usS {n:Nat}{P:List Value->Prop}(h:∀a (us:List Value),us.length=n->P (a::us)):∀us:List Value,us.length=n+1->P us
 | a::us,e=>h a us (Nat.succ.inj e)
theorem us2 {P:List Value->Prop}(h:∀a b,P [a,b]):∀us:List Value,us.length=2->P us:=usS λa=>us1 (P:=λus=>P (a::us)) (h a)
theorem us3 {P:List Value->Prop}(h:∀a b c,P [a,b,c]):∀us:List Value,us.length=3->P us:=usS λa=>us2 (P:=λus=>P (a::us)) (h a)
theorem us4 {P:List Value->Prop}(h:∀a b c d,P [a,b,c,d]):∀us:List Value,us.length=4->P us:=usS λa=>us3 (P:=λus=>P (a::us)) (h a)
end Mini
namespace Mini
namespace Vl
namespace Lib
inductive Di where | u | r | d | l
deriving DecidableEq
noncomputable def opp:Di->Di
 | .u=>.d | .r=>.l | .d=>.u | .l=>.r
noncomputable def dirs:List Di:=[.u,.r,.d,.l]
abbrev Pl:=Int×Int
noncomputable def stp (e:Di)(p:Pl):Pl:=match e with
 | .u=>(p.1 - 1,p.2) | .r=>(p.1,p.2+1) | .d=>(p.1+1,p.2) | .l=>(p.1,p.2 - 1)
noncomputable def inn (n:Nat)(p:Pl):Bool:=decide (0<=p.1) && decide (p.1 < n) && (decide (0<=p.2) && decide (p.2 < n))
noncomputable def yr (n:Nat)(p:Pl):Di->Int
 | .u=>p.2 | .r=>n+p.1 | .d=>3 * n - 1 - p.2 | .l=>4 * n - 1 - p.1
abbrev Tr:=Pl->Di->Bool
structure Flo (n:Nat)(t:Tr):Prop where
 con:∀p e,inn n p=true->inn n (stp e p)=true->t (stp e p) (opp e)=t p e
 two:∀p,inn n p=true->(dirs.filter (t p)).length=2
noncomputable def oth (f:Di->Bool)(d:Di):Di:=((dirs.filter f).filter λe=>! decide (e=d)).headD d
theorem inn_iff {n:Nat}{p:Pl}:inn n p=true↔(0<=p.1/\p.1 < n)/\(0<=p.2/\p.2 < n):=by
 unfold inn;simp only[Bool.and_eq_true,decide_eq_true_eq]
theorem za1 (e:Di):opp (opp e)=e:=by cases e <;> rfl
theorem xG (e:Di)(p:Pl):stp (opp e) (stp e p)=p:=by
 obtain ⟨a,b⟩:=p;cases e <;> simp[stp,opp] <;> lia
theorem xk {f:Di->Bool}(h:(dirs.filter f).length=2){d:Di}(hd:f d=true):f (oth f d)=true/\oth f d≠d/\oth f (oth f d)=d/\(dirs.filter f).filter (λe=>! decide (e=d))=[oth f d]:=by
 unfold oth dirs at *
 cases h1:f .u <;> cases h2:f .r <;> cases h3:f .d <;> cases h4:f .l <;> simp[h1,h2,h3,h4] at h ⊢ <;> cases d <;> simp_all
theorem zc5 {f:Di->Bool}(h:(dirs.filter f).length=2){d e:Di}(hd:f d=true)(he:f e=true)(hne:e≠d):oth f d=e:=by
 unfold oth dirs at *
 cases h1:f .u <;> cases h2:f .r <;> cases h3:f .d <;> cases h4:f .l <;> simp[h1,h2,h3,h4] at h ⊢ <;> cases d <;> cases e <;> simp_all
abbrev Sta:=Pl×Di
noncomputable def nxt (n:Nat)(t:Tr)(s:Sta):Option Sta:=if inn n (stp (oth (t s.1) s.2) s.1)=true then some (stp (oth (t s.1) s.2) s.1,opp (oth (t s.1) s.2)) else none
noncomputable def jr (n:Nat)(t:Tr)(s:Sta):Int:=yr n s.1 (oth (t s.1) s.2)
noncomputable def wY (n:Nat)(t:Tr):Nat->Sta->List Pl->Option (List Pl×Int)
 | 0,_,_=>none
 | k+1,s,acc=>match nxt n t s with
  | some s'=>wY n t k s' (acc++[s'.1])
  | none=>some (acc,jr n t s)
def Good (n:Nat)(t:Tr)(s:Sta):Prop:=inn n s.1=true/\t s.1 s.2=true
def Rim (n:Nat)(s:Sta):Prop:=inn n (stp s.2 s.1)=false
set_option tactic.hygienic true in
theorem zD {n:Nat}{t:Tr}(F:Flo n t){s s':Sta}(g:Good n t s)(h:nxt n t s=some s'):Good n t s'/\inn n (stp s'.2 s'.1)=true/\s=(stp s'.2 s'.1,oth (t (stp s'.2 s'.1)) (opp s'.2)):=by
 unfold nxt at h;obtain ⟨o1,o2,o3,_⟩:=xk (F.two s.1 g.1) g.2;split at h
 .next hi =>
  cases h;refine ⟨⟨hi,?_⟩,?_,?_⟩
  .show t (stp _ s.1) (opp _)=true;rw[F.con s.1 _ g.1 hi];exact o1
  .show inn n (stp (opp _) (stp _ s.1))=true;rw[xG];exact g.1
  .show s=(stp (opp _) (stp _ s.1),oth (t (stp (opp _) (stp _ s.1))) (opp (opp _)));rw[xG,za1,o3]
 .cases h
noncomputable def orb (n:Nat)(t:Tr)(s:Sta):Nat->Option Sta
 | 0=>some s
 | k+1=>(orb n t s k).bind (nxt n t)
theorem php:∀ (M:Nat) (g:Nat->Nat),(∀i,i<=M->g i < M)->∃i j,i < j/\j<=M/\g i=g j
 | 0,g,h=>by have:=h 0 (Nat.le_refl 0);lia
 | M+1,g,h=>by
  by_cases q:∃i,i<=M/\g i=g (M+1)
  .obtain ⟨i,hi,e⟩:=q;exact ⟨i,M+1,by lia,by lia,e⟩
  .have hv:=h (M+1) (by lia);obtain ⟨i,j,h1,h2,h3⟩:=php M (λi=>if g i=M then g (M+1) else g i) (λi hi=>by
    show (if g i=M then g (M+1) else g i) < M;have hi':=h i (by lia);have ne:g i≠g (M+1):=λe=>q ⟨i,hi,e⟩;split <;> lia)
   have hi:g i≠g (M+1):=λe=>q ⟨i,by lia,e⟩;have hj:g j≠g (M+1):=λe=>q ⟨j,by lia,e⟩;refine ⟨i,j,h1,by lia,?_⟩
   replace h3:(if g i=M then g (M+1) else g i)=(if g j=M then g (M+1) else g j):=h3
   split at h3 <;> split at h3 <;> lia
noncomputable def dix:Di->Nat
 | .u=>0 | .r=>1 | .d=>2 | .l=>3
noncomputable def code (n:Nat)(s:Sta):Nat:=(s.1.1.toNat * n+s.1.2.toNat) * 4+dix s.2
theorem zeK {n:Nat}{s:Sta}(h:inn n s.1=true):code n s < n * n * 4:=by
 obtain ⟨⟨a0,a1⟩,b0,b1⟩:=inn_iff.mp h;have h1:s.1.1.toNat+1<=n:=by lia
 have h2:s.1.2.toNat < n:=by lia
 have h3:dix s.2 < 4:=by cases s.2 <;> decide
 have h4:(s.1.1.toNat+1) * n<=n * n:=Nat.mul_le_mul_right n h1;rw[Nat.add_mul] at h4;unfold code;generalize s.1.1.toNat * n=x at *
 generalize n * n=y at *
 lia
theorem zc6 {n:Nat}{s s':Sta}(h:inn n s.1=true)(h':inn n s'.1=true)(e:code n s=code n s'):s=s':=by
 obtain ⟨⟨a0,a1⟩,b0,b1⟩:=inn_iff.mp h;obtain ⟨⟨c0,c1⟩,d0,d1⟩:=inn_iff.mp h';have h3:dix s.2 < 4:=by cases s.2 <;> decide
 have h4:dix s'.2 < 4:=by cases s'.2 <;> decide
 unfold code at e;have e1:dix s.2=dix s'.2:=by lia
 have e2:s.1.1.toNat * n+s.1.2.toNat=s'.1.1.toNat * n+s'.1.2.toNat:=by lia
 have n0:0 < n:=by lia
 have m1:s.1.2.toNat < n:=by lia
 have m2:s'.1.2.toNat < n:=by lia
 have e3:s.1.2.toNat=s'.1.2.toNat:=by
  have:=congrArg (· % n) e2;simp only[Nat.mul_add_mod_self_right,Nat.mod_eq_of_lt m1,Nat.mod_eq_of_lt m2] at this;exact this
 have e4:s.1.1.toNat=s'.1.1.toNat:=by
  rw[e3] at e2;exact Nat.eq_of_mul_eq_mul_right n0 (Nat.add_right_cancel e2)
 obtain ⟨⟨a,b⟩,d⟩:=s;obtain ⟨⟨a',b'⟩,d'⟩:=s';simp only at *
 have:d=d':=by cases d <;> cases d' <;> simp[dix] at e1 <;> rfl
 rw[this,show a=a' by lia,show b=b' by lia]
section
variable {n:Nat}{t:Tr}{s:Sta}
theorem yi (F:Flo n t)(g:Good n t s):∀ (k:Nat) (s':Sta),orb n t s k=some s'->Good n t s'
 | 0,s',h=>by cases h;exact g
 | k+1,s',h=>by
  obtain ⟨s1,h1,h2⟩:=Option.bind_eq_some_iff.mp h;exact (zD F (yi F g k s1 h1) h2).1
theorem qm:∀ {k m:Nat},k<=m->(orb n t s m).isSome=true->(orb n t s k).isSome=true
 | k,0,h,q=>by
  have e:k=0:=by lia
  subst e;exact q
 | k,m+1,h,q=>by
  by_cases e:k=m+1
  .subst e;exact q
  .refine qm (m:=m) (by lia) ?_;show (orb n t s m).isSome=true;cases z:orb n t s m with
   | none =>
    have:orb n t s (m+1)=none:=by show (orb n t s m).bind _=none;rw[z];rfl
    rw[this] at q;cases q
   | some _=>rfl
theorem za2 (F:Flo n t)(g:Good n t s)(hr:Rim n s):∀ (i j:Nat) (s':Sta),orb n t s i=some s'->orb n t s j=some s'->i=j
 | 0,0,_,_,_=>rfl
 | 0,j+1,s',h,h'=>by
  cases h;obtain ⟨s1,h1,h2⟩:=Option.bind_eq_some_iff.mp h';have:=(zD F (yi F g j s1 h1) h2).2.1;unfold Rim at hr;rw[hr] at this;cases this
 | i+1,0,s',h,h'=>by
  cases h';obtain ⟨s1,h1,h2⟩:=Option.bind_eq_some_iff.mp h;have:=(zD F (yi F g i s1 h1) h2).2.1;unfold Rim at hr;rw[hr] at this;cases this
 | i+1,j+1,s',h,h'=>by
  obtain ⟨s1,h1,h2⟩:=Option.bind_eq_some_iff.mp h;obtain ⟨s2,h3,h4⟩:=Option.bind_eq_some_iff.mp h';have e1:=(zD F (yi F g i s1 h1) h2).2.2;have e2:=(zD F (yi F g j s2 h3) h4).2.2;have e:s2=s1:=e2.trans e1.symm;rw[e] at h3;rw[za2 F g hr i j s1 h1 h3]
theorem zc7 (F:Flo n t)(g:Good n t s)(hr:Rim n s):orb n t s (n * n * 4)=none:=by
 cases z:orb n t s (n * n * 4) with
 | none=>rfl
 | some s0 =>
  exfalso;have hs:∀i,i<=n * n * 4->(orb n t s i).isSome=true:=λi hi=>qm hi (by rw[z];rfl);obtain ⟨i,j,h1,h2,h3⟩:=php (n * n * 4) (λi=>code n ((orb n t s i).getD s)) (λi hi=>by
   obtain ⟨s1,e⟩:=Option.isSome_iff_exists.mp (hs i hi);show code n ((orb n t s i).getD s) < _;rw[e];exact zeK (yi F g i s1 e).1)
  obtain ⟨s1,e1⟩:=Option.isSome_iff_exists.mp (hs i (by lia));obtain ⟨s2,e2⟩:=Option.isSome_iff_exists.mp (hs j (by lia))
  replace h3:code n ((orb n t s i).getD s)=code n ((orb n t s j).getD s):=h3
  rw[e1,e2] at h3;have:=zc6 (yi F g i s1 e1).1 (yi F g j s2 e2).1 h3;rw[<- this] at e2;have:=za2 F g hr i j s1 e1 e2;lia
theorem vB {s':Sta}(h:nxt n t s=some s'):∀k,orb n t s (k+1)=orb n t s' k
 | 0=>by show (some s).bind (nxt n t)=some s';exact h
 | k+1=>by
  show (orb n t s (k+1)).bind (nxt n t)=(orb n t s' k).bind (nxt n t);rw[vB h k]
theorem walk_of:∀ (k:Nat) (s:Sta) (acc:List Pl),orb n t s k=none->∃pl ρ,wY n t k s acc=some (pl,ρ)
 | 0,s,acc,h=>by cases h
 | k+1,s,acc,h=>by
  show ∃pl ρ,(match nxt n t s with | some s'=>wY n t k s' (acc++[s'.1]) | none=>some (acc,jr n t s))=some (pl,ρ);cases e:nxt n t s with
  | none=>exact ⟨_,_,rfl⟩
  | some s' =>
   rw[vB e] at h;exact walk_of k s' _ h
theorem zbO (F:Flo n t)(g:Good n t s)(hr:Rim n s)(acc:List Pl):∃pl ρ,wY n t (n * n * 4) s acc=some (pl,ρ):=walk_of _ s acc (zc7 F g hr)
end
end Lib
inductive Dat where
 | non | bl (b:Bool) | int (i:Int) | str (s:List Nat) | tup (xs:List Dat) | lst (xs:List Dat) | scr (ns:List Int) | dct (ks:List (List Int)) (xs:List Dat)
deriving Inhabited
inductive Lv where | no | top | full
deriving DecidableEq,Inhabited
abbrev DEn:=List (Option Dat)
inductive Rd where | ok (d:Dat) | exc (c:Nat) (d:Dat) | no
deriving Inhabited
noncomputable def Rd.bind (r:Rd)(f:Dat->Rd):Rd:=match r with
 | .ok d=>f d
 | .exc c d=>.exc c d
 | .no=>.no
mutual
noncomputable def flat:Dat->Bool
 | .lst _=>false
 | .tup xs=>flatL xs
 | .non=>true
 | .bl _=>true
 | .int _=>true
 | .str _=>true
 | .scr _=>true
 | .dct _ _=>false
noncomputable def flatL:List Dat->Bool
 | []=>true
 | d::ds=>flat d && flatL ds
end
mutual
noncomputable def yK:Nat->Dat->Bool
 | 0,_=>false
 | _+1,.scr _=>false
 | _+1,.dct _ _=>false
 | k+1,.tup xs=>eqOkL k xs
 | k+1,.lst xs=>eqOkL k xs
 | _+1,.non=>true
 | _+1,.bl _=>true
 | _+1,.int _=>true
 | _+1,.str _=>true
noncomputable def eqOkL:Nat->List Dat->Bool
 | _,[]=>true
 | k,d::ds=>yK k d && eqOkL k ds
end
mutual
noncomputable def deq:Dat->Dat->Bool
 | .tup a,.tup b=>deqL a b
 | .lst a,.lst b=>deqL a b
 | .non,.non=>true
 | .bl a,.bl b=>a == b
 | .int a,.int b=>decide (a=b)
 | .bl a,.int b=>decide (b2i a=b)
 | .int a,.bl b=>decide (a=b2i b)
 | .str a,.str b=>decide (a=b)
 | _,_=>false
noncomputable def deqL:List Dat->List Dat->Bool
 | [],[]=>true
 | x::xs,y::ys=>deq x y && deqL xs ys
 | _,_=>false
end
noncomputable def xH:Dat->Option (List Dat)
 | .tup xs=>some xs
 | .lst xs=>some xs
 | .scr ns=>some (ns.map .int)
 | _=>none
noncomputable def lsD:Dat->Option (List Dat)
 | .lst xs=>some xs
 | .scr ns=>some (ns.map .int)
 | _=>none
noncomputable def newD (xs:List Dat):Rd:=if xs.length<=lim then .ok (.lst xs) else .no
noncomputable def zI (op:Bo)(x y:Dat):Rd:=match x,y with
 | .int i,.int j=>match op with
  | .add=>.ok (.int (i+j))
  | .sub=>.ok (.int (i - j))
  | .mul=>if yM i || yM j then .ok (.int (i * j)) else .no
  | .fdiv=>if 0 < j/\j < 1073741824 then .ok (.int (i / j)) else .no
  | .mod=>if 0 < j then .ok (.int (i % j)) else .no
  | .pow=>if 0<=j/\j<=1000000/\yM i=true then .ok (.int (i ^ j.toNat)) else .no
  | .shr=>if 0<=j/\j<=1000 then .ok (.int (i / 2 ^ j.toNat)) else .no
  | .band=>if 0<=i/\j=1 then .ok (.int (i % 2)) else .no
 | .lst xs,.lst ys=>match op with
  | .add=>newD (xs++ys)
  | _=>.no
 | .lst xs,.int k=>match op with
  | .mul=>if -lim<=k/\k<=lim then newD (List.replicate k.toNat xs).flatten else .no
  | _=>.no
 | .tup xs,.tup ys=>match op with
  | .add=>if xs.length+ys.length<=lim/\xs.isEmpty=false then .ok (.tup (xs++ys)) else .no
  | _=>.no
 | _,_=>.no
noncomputable def eqD (x y:Dat):Option Bool:=if yK yF x && yK yF y then some (deq x y) else none
noncomputable def inD (x:Dat)(ys:List Dat):Option Bool:=if yK yF x && eqOkL yF ys then some (ys.any λy=>deq y x) else none
noncomputable def j7:Option Bool->Rd
 | some b=>.ok (.bl b)
 | none=>.no
noncomputable def zeL (r:Int->Int->Bool)(x y:Dat):Rd:=match x,y with
 | .int i,.int j=>.ok (.bl (r i j))
 | _,_=>.no
noncomputable def yJ:List Dat->Option (List Int)
 | []=>some []
 | .int i::r=>(yJ r).map (i::·)
 | _=>none
noncomputable def inKD (x y:Dat):Option Bool:=match y with
 | .dct ks _=>match x with
  | .int _=>some false
  | .tup ds=>(yJ ds).map λk=>decide (k∈ks)
  | _=>none
 | _=>none
noncomputable def yo (op:Co)(x y:Dat):Rd:=match op with
 | .eq=>j7 (eqD x y)
 | .ne=>j7 ((eqD x y).map (!·))
 | .notN=>match y,x with
  | .non,.non=>.ok (.bl false)
  | .non,_=>.ok (.bl true)
  | _,_=>.no
 | .isin=>match xH y with
  | some ys=>j7 (inD x ys)
  | none=>j7 (inKD x y)
 | .lt=>zeL (λi j=>decide (i < j)) x y
 | .le=>zeL (λi j=>decide (i<=j)) x y
 | .gt=>zeL (λi j=>decide (j < i)) x y
noncomputable def zc8:List Dat->Option (List (Dat×Dat))
 | []=>some []
 | .tup [x,y]::r=>(zc8 r).map ((x,y)::·)
 | _=>none
noncomputable def xx (b:Blf)(ws:List Dat):Rd:=match b with
 | .sortI=>match ws with
  | [x]=>match (lsD x).bind yJ with
   | some k=>if k.length < 64 then newD ((jY k).map Dat.int) else .no
   | none=>.no
  | _=>.no
 | .len=>match ws with
  | [x]=>match xH x with
   | some xs=>.ok (.int xs.length)
   | none=>.no
  | _=>.no
 | .int=>match ws with
  | [.int i]=>.ok (.int i)
  | [.bl b]=>.ok (.int (b2i b))
  | _=>.no
 | .list=>match ws with
  | [x]=>match xH x with
   | some xs=>newD xs
   | none=>.no
  | _=>.no
 | .max2=>match ws with
  | [.int i,.int j]=>.ok (.int (if j > i then j else i))
  | _=>.no
noncomputable def zK (x y:Dat):Rd:=match y with
 | .int i=>match xH x with
  | some xs=>match (ix xs.length i).bind λj=>xs[j]? with
   | some v=>.ok v
   | none=>.no
  | none=>.no
 | _=>.no
noncomputable def wZ:Dat->Option (List Int)
 | .tup ds=>yJ ds
 | _=>none
noncomputable def vT (x y:Dat):Rd:=match x with
 | .dct ks ds=>match (wZ y).bind (atK ks ds) with
  | some v=>.ok v
  | none=>.no
 | _=>.no
noncomputable def yt (lo st:Int)(n:Nat):List Dat:=(List.range n).map λ(i:Nat)=>.int (lo+st * (i:Int))
noncomputable def k7 (a b c:Dat):Rd:=match a,b,c with
 | .int a,.int b,.int c=>if -lim<=a/\a<=lim/\-lim<=b/\b<=lim/\(c=1\/c=-1) then .ok (.tup (yt a c (gO a b c))) else .no
 | _,_,_=>.no
noncomputable def zR {α:Type}(c e:α->Rd):List α->List Dat->Rd
 | [],acc=>newD acc
 | x::xs,acc=>(c x).bind λb=>match b with
  | .bl true=>(e x).bind λy=>if acc.length < lim then zR c e xs (acc++[y]) else .no
  | .bl false=>zR c e xs acc
  | _=>.no
noncomputable def itD (d:Dat):Option (List Dat):=match d with
 | .tup xs=>some xs
 | .scr ns=>some (ns.map .int)
 | .lst xs=>if xs.length<=lim then some xs else none
 | _=>none
noncomputable def yQ (k:Kd)(x y:Dat):Option (List (Dat×Dat)):=match k,x,y with
 | .zip,.lst xs,.lst ys=>if xs.length<=lim/\ys.length<=lim then some (xs.zip ys) else none
 | .enum,.lst xs,.int s=>if xs.length<=lim then some ((yt s 1 xs.length).zip xs) else none
 | .prs,.lst xs,.int _=>if xs.length<=lim then zc8 xs else none
 | .ptp,.tup xs,.int _=>if xs.length<=lim then zc8 xs else none
 | _,_,_=>none
noncomputable def zL:Dat->List Dat
 | .tup xs=>xs
 | _=>[]
noncomputable def ziK:Wd->Option Dat
 | .non=>some .non
 | .bl b=>some (.bl b)
 | .int i=>some (.int i)
 | .str s=>some (.str s)
 | _=>none
noncomputable def evD (cl:Nat->List Dat->Rd):Ex->DEn->Rd
 | .var i,de=>match de[i]? with
  | some (some d)=>.ok d
  | _=>.no
 | .lit w,_=>match ziK w with
  | some d=>.ok d
  | none=>.no
 | .bin op a b,de=>(evD cl a de).bind λx=>(evD cl b de).bind λy=>zI op x y
 | .neg a,de=>(evD cl a de).bind λx=>match x with
  | .int i=>.ok (.int (-i))
  | _=>.no
 | .not a,de=>(evD cl a de).bind λx=>match x with
  | .bl b=>.ok (.bl (! b))
  | _=>.no
 | .and a b,de=>(evD cl a de).bind λx=>match x with
  | .bl true=>evD cl b de
  | .bl false=>.ok (.bl false)
  | _=>.no
 | .or a b,de=>(evD cl a de).bind λx=>match x with
  | .bl false=>evD cl b de
  | .bl true=>.ok (.bl true)
  | _=>.no
 | .cmp op a b,de=>(evD cl a de).bind λx=>(evD cl b de).bind λy=>yo op x y
 | .chain p q a b c,de=>(evD cl a de).bind λx=>(evD cl b de).bind λy=>(yo p x y).bind λz=>match z with
  | .bl true=>(evD cl c de).bind λu=>yo q y u
  | .bl false=>.ok (.bl false)
  | _=>.no
 | .ife c a b,de=>(evD cl c de).bind λx=>match x with
  | .bl true=>evD cl a de
  | .bl false=>evD cl b de
  | _=>.no
 | .unit,_=>.ok (.tup [])
 | .pair a b,de=>(evD cl a de).bind λx=>(evD cl b de).bind λy=>.ok (.tup (x::zL y))
 | .call k a,de=>(evD cl a de).bind λx=>cl k (zL x)
 | .blt b a,de=>(evD cl a de).bind λx=>xx b (zL x)
 | .lst a,de=>(evD cl a de).bind λx=>newD (zL x)
 | .tup a,de=>(evD cl a de).bind λx=>if (zL x).length<=lim then .ok (.tup (zL x)) else .no
 | .dict0,_=>.ok (.dct [] [])
 | .dget a b,de=>(evD cl a de).bind λx=>(evD cl b de).bind λy=>vT x y
 | .idx a b,de=>(evD cl a de).bind λx=>(evD cl b de).bind λy=>zK x y
 | .meth _ _ _,_=>.no
 | .rng a b c,de=>(evD cl a de).bind λx=>(evD cl b de).bind λy=>(evD cl c de).bind λz=>k7 x y z
 | .comp elt it cond,de=>(evD cl it de).bind λx=>match itD x with
  | some xs=>zR (λx=>evD cl cond (de++[some x])) (λx=>evD cl elt (de++[some x])) xs []
  | none=>.no
 | .compP k elt a b cond,de=>(evD cl a de).bind λx=>(evD cl b de).bind λy=>match yQ k x y with
  | some ps=>zR (λp=>evD cl cond (de++[some p.1]++[some p.2])) (λp=>evD cl elt (de++[some p.1]++[some p.2])) ps []
  | none=>.no
 | .lrng a,de=>(evD cl a de).bind λx=>match x with
  | .int j=>if -lim<=j/\j<=lim then newD (yt 0 1 j.toNat) else .no
  | _=>.no
theorem k8 {cl:Nat->List Wd->Me->Rz}{i:Nat}{env:En}{w:Wd}(h:env[i]?=some (some w))(m:Me):evE cl (.var i) env m=.ok w m:=by
 show (match env[i]? with | some (some w)=>Rz.ok w m | _=>.no)=_;rw[h]
theorem xI {cl:Nat->List Dat->Rd}{i:Nat}{de:DEn}{d:Dat}(h:de[i]?=some (some d)):evD cl (.var i) de=.ok d:=by
 show (match de[i]? with | some (some d)=>Rd.ok d | _=>.no)=_;rw[h]
theorem y0 {cl:Nat->List Dat->Rd}{i:Nat}{de:DEn}(h:de[i]?=none\/de[i]?=some none):evD cl (.var i) de=.no:=by
 show (match de[i]? with | some (some d)=>Rd.ok d | _=>.no)=_;rcases h with h | h <;> rw[h]
theorem za3 {cl:Nat->List Dat->Rd}{i:Nat}{de:DEn}{d:Dat}(h:evD cl (.var i) de=.ok d):de[i]?=some (some d):=by
 cases z:de[i]? with
 | none=>rw[y0 (.inl z)] at h;cases h
 | some o =>
  cases o with
  | none=>rw[y0 (.inr z)] at h;cases h
  | some e=>rw[xI z] at h;cases h;rfl
mutual
noncomputable def Rep (R:Nat->Prop)(m:Me):Dat->Wd->Prop
 | .non,w=>w=.non
 | .bl b,w=>w=.bl b
 | .int i,w=>w=.int i
 | .str s,w=>w=.str s
 | .scr ns,w=>w=.rol (ns.map Wd.int)
 | .tup ds,w=>∃xs,w=.tup xs/\RepL R m ds xs
 | .lst ds,w=>∃l xs,w=.ref l/\R l/\m[l]?=some (.lst xs)/\RepL R m ds xs
 | .dct ks ds,w=>∃l xs,w=.ref l/\R l/\m[l]?=some (.dct ks xs)/\RepL R m ds xs
noncomputable def RepL (R:Nat->Prop)(m:Me):List Dat->List Wd->Prop
 | [],xs=>xs=[]
 | d::ds,xs=>∃x r,xs=x::r/\Rep R m d x/\RepL R m ds r
end
def Le (m m':Me):Prop:=∀ (l:Nat) o,m[l]?=some o->m'[l]?=some o
theorem Le.refl (m:Me):Le m m:=λ_ _ h=>h
theorem Le.trans {a b c:Me}(h:Le a b)(k:Le b c):Le a c:=λl o z=>k l o (h l o z)
theorem Le.app (m x:Me):Le m (m++x):=λl o z=>by
 obtain ⟨hl,_⟩:=List.getElem?_eq_some_iff.mp z;rw[List.getElem?_append_left hl];exact z
theorem Le.len {a b:Me}(h:Le a b):a.length<=b.length:=by
 rcases Nat.lt_or_ge b.length a.length with z | z
 .have:=h b.length a[b.length] (List.getElem?_eq_getElem z);have:=(List.getElem?_eq_some_iff.mp this).1;lia
 .exact z
def Rf (R:Nat->Prop)(n:Nat):Nat->Prop:=λl=>R l\/n<=l
mutual
theorem Rep.frame {R R':Nat->Prop}{m m':Me}(h:∀ (l:Nat) o,R l->m[l]?=some o->R' l/\m'[l]?=some o):∀ (d:Dat) (w:Wd),Rep R m d w->Rep R' m' d w
 | .non,w,q=>by unfold Rep at q ⊢;exact q
 | .bl b,w,q=>by unfold Rep at q ⊢;exact q
 | .int b,w,q=>by unfold Rep at q ⊢;exact q
 | .str b,w,q=>by unfold Rep at q ⊢;exact q
 | .scr b,w,q=>by unfold Rep at q ⊢;exact q
 | .tup ds,w,q=>by
  unfold Rep at q ⊢;obtain ⟨xs,rfl,q⟩:=q;exact ⟨xs,rfl,RepL.frame h ds xs q⟩
 | .lst ds,w,q=>by
  unfold Rep at q ⊢;obtain ⟨l,xs,rfl,r,z,q⟩:=q;exact ⟨l,xs,rfl,(h l _ r z).1,(h l _ r z).2,RepL.frame h ds xs q⟩
 | .dct ks ds,w,q=>by
  unfold Rep at q ⊢;obtain ⟨l,xs,rfl,r,z,q⟩:=q;exact ⟨l,xs,rfl,(h l _ r z).1,(h l _ r z).2,RepL.frame h ds xs q⟩
theorem RepL.frame {R R':Nat->Prop}{m m':Me}(h:∀ (l:Nat) o,R l->m[l]?=some o->R' l/\m'[l]?=some o):∀ (ds:List Dat) (xs:List Wd),RepL R m ds xs->RepL R' m' ds xs
 | [],xs,q=>by unfold RepL at q ⊢;exact q
 | d::ds,xs,q=>by
  unfold RepL at q ⊢;obtain ⟨x,r,rfl,a,b⟩:=q;exact ⟨x,r,rfl,Rep.frame h d x a,RepL.frame h ds r b⟩
end
theorem Rep.up {R:Nat->Prop}{m m':Me}{d:Dat}{w:Wd}(n:Nat)(h:Le m m')(q:Rep R m d w):Rep (Rf R n) m' d w :=
 Rep.frame (λl o r z=>⟨.inl r,h l o z⟩) d w q
theorem RepL.up {R:Nat->Prop}{m m':Me}{d:List Dat}{w:List Wd}(n:Nat)(h:Le m m')(q:RepL R m d w):RepL (Rf R n) m' d w :=
 RepL.frame (λl o r z=>⟨.inl r,h l o z⟩) d w q
theorem repL_iff {R:Nat->Prop}{m:Me}:∀ {ds:List Dat}{xs:List Wd},RepL R m ds xs↔ds.length=xs.length/\∀ (i:Nat) d x,ds[i]?=some d->xs[i]?=some x->Rep R m d x
 | [],xs=>by
  unfold RepL;constructor
  .rintro rfl;exact ⟨rfl,by simp⟩
  .rintro ⟨h,_⟩;exact List.eq_nil_of_length_eq_zero h.symm
 | d::ds,xs=>by
  unfold RepL;constructor
  .rintro ⟨x,r,rfl,a,b⟩;obtain ⟨hl,hb⟩:=repL_iff.mp b;refine ⟨by simp[hl],λi e y h1 h2=>?_⟩;cases i with
   | zero=>simp at h1 h2;subst h1;subst h2;exact a
   | succ i=>simp at h1 h2;exact hb i e y h1 h2
  .rintro ⟨hl,h⟩;cases xs with
   | nil=>cases hl
   | cons x r =>
    refine ⟨x,r,rfl,h 0 d x rfl rfl,repL_iff.mpr ⟨by simpa using hl,λi e y h1 h2=>h (i+1) e y (by simpa using h1) (by simpa using h2)⟩⟩
theorem RepL.len {R:Nat->Prop}{m:Me}{ds:List Dat}{xs:List Wd}(h:RepL R m ds xs):ds.length=xs.length:=(repL_iff.mp h).1
theorem RepL.get {R:Nat->Prop}{m:Me}{ds:List Dat}{xs:List Wd}(h:RepL R m ds xs){i:Nat}{d:Dat}(z:ds[i]?=some d):∃x,xs[i]?=some x/\Rep R m d x:=by
 obtain ⟨hl,h⟩:=repL_iff.mp h;obtain ⟨hi,_⟩:=List.getElem?_eq_some_iff.mp z;exact ⟨xs[i],List.getElem?_eq_getElem (by lia),h i d _ z (List.getElem?_eq_getElem (by lia))⟩
theorem RepL.nil {R:Nat->Prop}{m:Me}:RepL R m [] []:=by unfold RepL;rfl
theorem RepL.cons {R:Nat->Prop}{m:Me}{d:Dat}{x:Wd}{ds:List Dat}{xs:List Wd}(a:Rep R m d x)(b:RepL R m ds xs):RepL R m (d::ds) (x::xs):=by
 unfold RepL;exact ⟨x,xs,rfl,a,b⟩
theorem RepL.cons_inv {R:Nat->Prop}{m:Me}{d:Dat}{ds:List Dat}{xs:List Wd}(h:RepL R m (d::ds) xs):∃x r,xs=x::r/\Rep R m d x/\RepL R m ds r:=by
 unfold RepL at h;exact h
theorem RepL.nil_inv {R:Nat->Prop}{m:Me}{xs:List Wd}(h:RepL R m [] xs):xs=[]:=by unfold RepL at h;exact h
theorem RepL.app {R:Nat->Prop}{m:Me}:∀ {ds es:List Dat}{xs ys:List Wd},RepL R m ds xs->RepL R m es ys->RepL R m (ds++es) (xs++ys)
 | [],es,xs,ys,a,b=>by rw[a.nil_inv];exact b
 | d::ds,es,xs,ys,a,b=>by
  obtain ⟨x,r,rfl,p,q⟩:=a.cons_inv;exact .cons p (RepL.app q b)
theorem RepL.drop {R:Nat->Prop}{m:Me}(n:Nat){ds:List Dat}{xs:List Wd}(h:RepL R m ds xs):RepL R m (ds.drop n) (xs.drop n):=by
 obtain ⟨hl,h⟩:=repL_iff.mp h;refine repL_iff.mpr ⟨by simp[hl],λi d x a b=>h (n+i) d x (by simpa using a) (by simpa using b)⟩
set_option tactic.hygienic true in
theorem RepL.take {R:Nat->Prop}{m:Me}(n:Nat){ds:List Dat}{xs:List Wd}(h:RepL R m ds xs):RepL R m (ds.take n) (xs.take n):=by
 obtain ⟨hl,h⟩:=repL_iff.mp h;refine repL_iff.mpr ⟨by simp[hl],λi d x a b=>?_⟩;rw[List.getElem?_take] at a b;split at a
 .next z=>rw[if_pos z] at b;exact h i d x a b
 .cases a
theorem RepL.rev {R:Nat->Prop}{m:Me}:∀ {ds:List Dat}{xs:List Wd},RepL R m ds xs->RepL R m ds.reverse xs.reverse
 | [],xs,a=>by rw[a.nil_inv];exact .nil
 | d::ds,xs,a=>by
  obtain ⟨x,r,rfl,p,q⟩:=a.cons_inv;rw[List.reverse_cons,List.reverse_cons];exact RepL.app (RepL.rev q) (.cons p .nil)
theorem RepL.set {R:Nat->Prop}{m:Me}{ds:List Dat}{xs:List Wd}(h:RepL R m ds xs)(j:Nat){d:Dat}{x:Wd}(z:Rep R m d x):RepL R m (ds.set j d) (xs.set j x):=by
 obtain ⟨hl,h⟩:=repL_iff.mp h;refine repL_iff.mpr ⟨by simp[hl],λi e y a b=>?_⟩;rw[List.getElem?_set] at a b;by_cases q:j=i
 .rw[if_pos q] at a b;split at a
  .split at b
   .cases a;cases b;exact z
   .cases b
  .cases a
 .rw[if_neg q] at a b;exact h i e y a b
theorem RepL.rep {R:Nat->Prop}{m:Me}{ds:List Dat}{xs:List Wd}(h:RepL R m ds xs):∀k:Nat,RepL R m (List.replicate k ds).flatten (List.replicate k xs).flatten
 | 0=>.nil
 | k+1=>by
  rw[List.replicate_succ,List.replicate_succ,List.flatten_cons,List.flatten_cons];exact RepL.app h (RepL.rep h k)
theorem zj6 {R:Nat->Prop}{m:Me}:∀ (l:List Int),RepL R m (l.map Dat.int) (l.map Wd.int)
 | []=>.nil
 | i::l=>.cons (by unfold Rep;rfl) (zj6 l)
theorem rep_int {R:Nat->Prop}{m:Me}{i:Int}{w:Wd}:Rep R m (.int i) w↔w=.int i:=by unfold Rep;exact Iff.rfl
theorem rep_bl {R:Nat->Prop}{m:Me}{i:Bool}{w:Wd}:Rep R m (.bl i) w↔w=.bl i:=by unfold Rep;exact Iff.rfl
theorem rep_non {R:Nat->Prop}{m:Me}{w:Wd}:Rep R m .non w↔w=.non:=by unfold Rep;exact Iff.rfl
theorem rep_str {R:Nat->Prop}{m:Me}{s:List Nat}{w:Wd}:Rep R m (.str s) w↔w=.str s:=by unfold Rep;exact Iff.rfl
theorem rep_scr {R:Nat->Prop}{m:Me}{s:List Int}{w:Wd}:Rep R m (.scr s) w↔w=.rol (s.map Wd.int):=by unfold Rep;exact Iff.rfl
theorem rep_tup {R:Nat->Prop}{m:Me}{ds:List Dat}{w:Wd}:Rep R m (.tup ds) w↔∃xs,w=.tup xs/\RepL R m ds xs:=by
 constructor
 .intro h;unfold Rep at h;exact h
 .intro h;unfold Rep;exact h
theorem rep_lst {R:Nat->Prop}{m:Me}{ds:List Dat}{w:Wd}:Rep R m (.lst ds) w↔∃l xs,w=.ref l/\R l/\m[l]?=some (.lst xs)/\RepL R m ds xs:=by
 constructor
 .intro h;unfold Rep at h;exact h
 .intro h;unfold Rep;exact h
theorem rep_dct {R:Nat->Prop}{m:Me}{ks:List (List Int)}{ds:List Dat}{w:Wd}:Rep R m (.dct ks ds) w↔∃l xs,w=.ref l/\R l/\m[l]?=some (.dct ks xs)/\RepL R m ds xs:=by
 constructor
 .intro h;unfold Rep at h;exact h
 .intro h;unfold Rep;exact h
def SimE (R:Nat->Prop)(m:Me)(r:Rz)(rd:Rd):Prop:=match rd with
 | .ok d=>∃w m',r=.ok w m'/\Le m m'/\Rep (Rf R m.length) m' d w
 | .exc c d=>∃w m',r=.exc c w m'/\Le m m'/\Rep (Rf R m.length) m' d w
 | .no=>True
theorem SimE.lift {R:Nat->Prop}{m m1:Me}{r:Rz}{rd:Rd}(h:Le m m1)(q:SimE (Rf R m.length) m1 r rd):SimE R m r rd:=by
 have hl:=h.len;have fr:∀ (m':Me) (d:Dat) (w:Wd),Rep (Rf (Rf R m.length) m1.length) m' d w->Rep (Rf R m.length) m' d w:=λm' d w=>Rep.frame (λl o z k=>⟨by rcases z with (z | z) | z;exact .inl z;exact .inr z;exact .inr (by lia),k⟩) d w;cases rd with
 | ok d=>obtain ⟨w,m',rfl,k,z⟩:=q;exact ⟨w,m',rfl,h.trans k,fr _ _ _ z⟩
 | exc c d=>obtain ⟨w,m',rfl,k,z⟩:=q;exact ⟨w,m',rfl,h.trans k,fr _ _ _ z⟩
 | no=>trivial
theorem SimE.bind {R:Nat->Prop}{m:Me}{r:Rz}{rd:Rd}{f:Wd->Me->Rz}{g:Dat->Rd}(h:SimE R m r rd)
  (k:∀d w m',Le m m'->Rep (Rf R m.length) m' d w->SimE (Rf R m.length) m' (f w m') (g d)):SimE R m (r.bind f) (rd.bind g):=by
 cases rd with
 | ok d=>obtain ⟨w,m',rfl,l,z⟩:=h;exact SimE.lift l (k d w m' l z)
 | exc c d=>obtain ⟨w,m',rfl,l,z⟩:=h;exact ⟨w,m',rfl,l,z⟩
 | no=>trivial
theorem zj7 {R:Nat->Prop}{m:Me}{d:Dat}{w:Wd}(h:Rep R m d w):SimE R m (.ok w m) (.ok d) :=
 ⟨w,m,rfl,Le.refl m,h.up _ (Le.refl m)⟩
theorem SimE.no {R:Nat->Prop}{m:Me}{r:Rz}:SimE R m r .no:=trivial
theorem SimE.new {R:Nat->Prop}{m:Me}{ds:List Dat}{xs:List Wd}(h:RepL R m ds xs):SimE R m (alloc m xs) (newD ds):=by
 unfold newD alloc;rw[h.len];by_cases z:xs.length<=lim
 .rw[if_pos z,if_pos z];exact ⟨_,_,rfl,Le.app m _,rep_lst.mpr ⟨_,xs,rfl,.inr (Nat.le_refl _),by simp,h.up _ (Le.app m _)⟩⟩
 .rw[if_neg z,if_neg z];exact SimE.no
theorem w5 {R:Nat->Prop}{m:Me}{d:Dat}{w:Wd}{ds:List Dat}(h:Rep R m d w)(z:xH d=some ds):∃xs,xD m w=some xs/\RepL R m ds xs:=by
 cases d with
 | tup es=>obtain ⟨xs,rfl,q⟩:=rep_tup.mp h;cases z;exact ⟨xs,rfl,q⟩
 | lst es =>
  obtain ⟨l,xs,rfl,_,e,q⟩:=rep_lst.mp h;cases z;exact ⟨xs,by show zr m l=_;unfold zr;rw[e],q⟩
 | scr ns=>rw[rep_scr.mp h];cases z;exact ⟨_,rfl,zj6 ns⟩
 | _=>cases z
theorem zg8 {R:Nat->Prop}{m:Me}{d:Dat}{w:Wd}{ds:List Dat}(h:Rep R m d w)(z:lsD d=some ds):∃xs,zcn m w=some xs/\RepL R m ds xs:=by
 cases d with
 | lst es =>
  obtain ⟨l,xs,rfl,_,e,q⟩:=rep_lst.mp h;cases z;exact ⟨xs,by show zr m l=_;unfold zr;rw[e],q⟩
 | scr ns=>rw[rep_scr.mp h];cases z;exact ⟨_,rfl,zj6 ns⟩
 | _=>cases z
theorem qo:∀ {a b:List Int},a.map Wd.int=b.map Wd.int->a=b
 | [],[],_=>rfl
 | [],_::_,h=>by cases h
 | _::_,[],h=>by cases h
 | x::a,y::b,h=>by
  simp only[List.map_cons,List.cons.injEq,Wd.int.injEq] at h;rw[h.1,qo h.2]
mutual
theorem Rep.det {R R':Nat->Prop}{m:Me}:∀ (d e:Dat) (w:Wd),Rep R m d w->Rep R' m e w->d=e
 | .non,e,w,q,z=>by rw[rep_non.mp q] at z;cases e <;> unfold Rep at z <;> first | rfl | (exfalso;simp at z)
 | .bl b,e,w,q,z=>by rw[rep_bl.mp q] at z;cases e <;> unfold Rep at z <;> first | (injection z with z;rw[z]) | (exfalso;simp at z)
 | .int b,e,w,q,z=>by rw[rep_int.mp q] at z;cases e <;> unfold Rep at z <;> first | (injection z with z;rw[z]) | (exfalso;simp at z)
 | .str b,e,w,q,z=>by rw[rep_str.mp q] at z;cases e <;> unfold Rep at z <;> first | (injection z with z;rw[z]) | (exfalso;simp at z)
 | .scr b,e,w,q,z=>by rw[rep_scr.mp q] at z;cases e <;> unfold Rep at z <;> first | (injection z with z;rw[qo z]) | (exfalso;simp at z)
 | .tup ds,e,w,q,z=>by
  obtain ⟨xs,rfl,q1⟩:=rep_tup.mp q;cases e with
  | tup es=>obtain ⟨ys,e,z1⟩:=rep_tup.mp z;cases e;rw[RepL.det ds es xs q1 z1]
  | _=>exfalso;unfold Rep at z;simp at z
 | .lst ds,e,w,q,z=>by
  obtain ⟨l,xs,rfl,_,hm,q1⟩:=rep_lst.mp q;cases e with
  | lst es=>obtain ⟨l',ys,e,_,hn,z1⟩:=rep_lst.mp z;cases e;rw[hm] at hn;cases hn;rw[RepL.det ds es xs q1 z1]
  | dct ks es=>obtain ⟨l',ys,e,_,hn,z1⟩:=rep_dct.mp z;cases e;rw[hm] at hn;cases hn
  | _=>exfalso;unfold Rep at z;simp at z
 | .dct ks ds,e,w,q,z=>by
  obtain ⟨l,xs,rfl,_,hm,q1⟩:=rep_dct.mp q;cases e with
  | dct ks' es=>obtain ⟨l',ys,e,_,hn,z1⟩:=rep_dct.mp z;cases e;rw[hm] at hn;cases hn;rw[RepL.det ds es xs q1 z1]
  | lst es=>obtain ⟨l',ys,e,_,hn,z1⟩:=rep_lst.mp z;cases e;rw[hm] at hn;cases hn
  | _=>exfalso;unfold Rep at z;simp at z
theorem RepL.det {R R':Nat->Prop}{m:Me}:∀ (ds es:List Dat) (xs:List Wd),RepL R m ds xs->RepL R' m es xs->ds=es
 | [],es,xs,q,z=>by
  rw[q.nil_inv] at z;cases es with
  | nil=>rfl
  | cons e es=>obtain ⟨_,_,h,_⟩:=z.cons_inv;cases h
 | d::ds,es,xs,q,z=>by
  obtain ⟨x,r,rfl,a,b⟩:=q.cons_inv;cases es with
  | nil=>cases z.nil_inv
  | cons e es =>
   obtain ⟨_,_,h,a',b'⟩:=z.cons_inv;cases h;rw[Rep.det d e x a a',RepL.det ds es r b b']
end
theorem zfP (d:Dat):yK 0 d=false:=by cases d <;> rfl
mutual
theorem qp:∀ (k:Nat) (d:Dat),yK k d=true->deq d d=true
 | 0,d,h=>by rw[zfP] at h;cases h
 | k+1,.non,h=>rfl
 | k+1,.bl b,h=>by show (b == b)=true;simp
 | k+1,.int b,h=>by show decide (b=b)=true;simp
 | k+1,.str b,h=>by show decide (b=b)=true;simp
 | k+1,.scr b,h=>absurd (show false=true from h) (by decide)
 | k+1,.dct _ _,h=>absurd (show false=true from h) (by decide)
 | k+1,.tup ds,h=>deqL_refl k ds h
 | k+1,.lst ds,h=>deqL_refl k ds h
theorem deqL_refl:∀ (k:Nat) (ds:List Dat),eqOkL k ds=true->deqL ds ds=true
 | k,[],h=>rfl
 | k,d::ds,h=>by
  replace h:(yK k d && eqOkL k ds)=true:=h
  show (deq d d && deqL ds ds)=true;rw[Bool.and_eq_true] at h ⊢;exact ⟨qp k d h.1,deqL_refl k ds h.2⟩
end
theorem j8 {R:Nat->Prop}{m:Me}{k:Nat}(ih:∀ (d e:Dat) (x y:Wd),yK k d=true->yK k e=true->Rep R m d x->Rep R m e y->eqW m k x y=some (deq d e)):
  ∀ (ds es:List Dat) (xs ys:List Wd),eqOkL k ds=true->eqOkL k es=true->RepL R m ds xs->RepL R m es ys->∃q,eqL (eqW m k) xs ys=some q/\(q && decide (xs.length=ys.length))=deqL ds es
 | [],es,xs,ys,h1,h2,a,b=>by
  rw[a.nil_inv];cases es with
  | nil=>rw[b.nil_inv];exact ⟨true,rfl,rfl⟩
  | cons e es=>obtain ⟨y,r,rfl,_,_⟩:=b.cons_inv;exact ⟨true,rfl,rfl⟩
 | d::ds,es,xs,ys,h1,h2,a,b=>by
  obtain ⟨x,r,rfl,p,q⟩:=a.cons_inv;cases es with
  | nil=>rw[b.nil_inv];exact ⟨true,rfl,rfl⟩
  | cons e es =>
   obtain ⟨y,s,rfl,p',q'⟩:=b.cons_inv
   replace h1:(yK k d && eqOkL k ds)=true:=h1
   replace h2:(yK k e && eqOkL k es)=true:=h2
   rw[Bool.and_eq_true] at h1 h2;obtain ⟨t,ht,hb⟩:=j8 ih ds es r s h1.2 h2.2 q q';refine ⟨deq d e && t,?_,?_⟩
   .unfold eqL;rw[ih d e x y h1.1 h2.1 p p',ht];rfl
   .show (deq d e && t && decide (r.length+1=s.length+1))=(deq d e && deqL ds es);simp only[<- hb,Nat.succ_inj,Bool.and_assoc]
theorem isLst_of {m:Me}{l:Nat}{xs:List Wd}(h:m[l]?=some (.lst xs)):isLst m l=true:=by unfold isLst;rw[h]
theorem yW {m:Me}{l:Nat}{xs:List Wd}(h:m[l]?=some (.lst xs)):(if isLst m l && true then some false else none)=some false:=by rw[isLst_of h];rfl
theorem zai {R:Nat->Prop}{m:Me}:∀ (k:Nat) (d e:Dat) (x y:Wd),yK k d=true->yK k e=true->Rep R m d x->Rep R m e y->eqW m k x y=some (deq d e)
 | 0,d,e,x,y,h,_,_,_=>by rw[zfP] at h;cases h
 | k+1,d,e,x,y,h1,h2,a,b=>by
  have ih:=zai (R:=R) (m:=m) k;cases d with
  | scr ns=>exact absurd (show false=true from h1) (by decide)
  | dct _ _=>exact absurd (show false=true from h1) (by decide)
  | tup ds =>
   obtain ⟨xs,rfl,a1⟩:=rep_tup.mp a;cases e with
   | scr ns=>exact absurd (show false=true from h2) (by decide)
   | dct _ _=>exact absurd (show false=true from h2) (by decide)
   | tup es =>
    obtain ⟨ys,rfl,b1⟩:=rep_tup.mp b;obtain ⟨q,h,e⟩:=j8 ih ds es xs ys h1 h2 a1 b1;show (eqL (eqW m k) xs ys).map (· && decide (xs.length=ys.length))=some (deqL ds es);rw[h,<- e];rfl
   | lst es =>
    obtain ⟨l,ys,rfl,_,hm,b⟩:=rep_lst.mp b;exact yW hm
   | non=>rw[rep_non.mp b];rfl
   | bl _=>rw[rep_bl.mp b];rfl
   | int _=>rw[rep_int.mp b];rfl
   | str _=>rw[rep_str.mp b];rfl
  | lst ds =>
   have a0:=a;obtain ⟨l,xs,rfl,_,hm,a⟩:=rep_lst.mp a;cases e with
   | scr ns=>exact absurd (show false=true from h2) (by decide)
   | dct _ _=>exact absurd (show false=true from h2) (by decide)
   | lst es =>
    have b0:=b;obtain ⟨l',ys,rfl,_,hn,b⟩:=rep_lst.mp b;show (if l=l' then (if isLst m l then some true else none) else match m[l]?,m[l']? with
     | some (.lst xs),some (.lst ys)=>if xs.length=ys.length then eqL (eqW m k) xs ys else some false
     | _,_=>none)=_
    by_cases q:l=l'
    .subst q;rw[if_pos rfl,if_pos (isLst_of hm)];rw[Rep.det _ _ _ a0 b0] at *
     rw[qp (k+1) _ h2]
    .rw[if_neg q,hm,hn];obtain ⟨q,h,e⟩:=j8 ih ds es xs ys h1 h2 a b;show (if xs.length=ys.length then eqL (eqW m k) xs ys else some false)=some (deqL ds es);by_cases z:xs.length=ys.length
     .simp only[z,if_true,h,<- e];simp
     .simp only[z,if_false,<- e];simp
   | tup es=>obtain ⟨ys,rfl,b⟩:=rep_tup.mp b;exact yW hm
   | non=>rw[rep_non.mp b];exact yW hm
   | bl _=>rw[rep_bl.mp b];exact yW hm
   | int _=>rw[rep_int.mp b];exact yW hm
   | str _=>rw[rep_str.mp b];exact yW hm
  | non =>
   rw[rep_non.mp a];cases e with
   | scr ns=>exact absurd (show false=true from h2) (by decide)
   | dct _ _=>exact absurd (show false=true from h2) (by decide)
   | lst es=>obtain ⟨l',ys,rfl,_,hn,b⟩:=rep_lst.mp b;exact yW hn
   | tup es=>obtain ⟨ys,rfl,b⟩:=rep_tup.mp b;rfl
   | non=>rw[rep_non.mp b];rfl
   | bl _=>rw[rep_bl.mp b];rfl
   | int _=>rw[rep_int.mp b];rfl
   | str _=>rw[rep_str.mp b];rfl
  | bl _ =>
   rw[rep_bl.mp a];cases e with
   | scr ns=>exact absurd (show false=true from h2) (by decide)
   | dct _ _=>exact absurd (show false=true from h2) (by decide)
   | lst es=>obtain ⟨l',ys,rfl,_,hn,b⟩:=rep_lst.mp b;exact yW hn
   | tup es=>obtain ⟨ys,rfl,b⟩:=rep_tup.mp b;rfl
   | non=>rw[rep_non.mp b];rfl
   | bl _=>rw[rep_bl.mp b];rfl
   | int _=>rw[rep_int.mp b];rfl
   | str _=>rw[rep_str.mp b];rfl
  | int _ =>
   rw[rep_int.mp a];cases e with
   | scr ns=>exact absurd (show false=true from h2) (by decide)
   | dct _ _=>exact absurd (show false=true from h2) (by decide)
   | lst es=>obtain ⟨l',ys,rfl,_,hn,b⟩:=rep_lst.mp b;exact yW hn
   | tup es=>obtain ⟨ys,rfl,b⟩:=rep_tup.mp b;rfl
   | non=>rw[rep_non.mp b];rfl
   | bl _=>rw[rep_bl.mp b];rfl
   | int _=>rw[rep_int.mp b];rfl
   | str _=>rw[rep_str.mp b];rfl
  | str _ =>
   rw[rep_str.mp a];cases e with
   | scr ns=>exact absurd (show false=true from h2) (by decide)
   | dct _ _=>exact absurd (show false=true from h2) (by decide)
   | lst es=>obtain ⟨l',ys,rfl,_,hn,b⟩:=rep_lst.mp b;exact yW hn
   | tup es=>obtain ⟨ys,rfl,b⟩:=rep_tup.mp b;rfl
   | non=>rw[rep_non.mp b];rfl
   | bl _=>rw[rep_bl.mp b];rfl
   | int _=>rw[rep_int.mp b];rfl
   | str _=>rw[rep_str.mp b];rfl
set_option tactic.hygienic true in
theorem za4 {R:Nat->Prop}{m:Me}{d e:Dat}{x y:Wd}{q:Bool}(h:eqD d e=some q)(a:Rep R m d x)(b:Rep R m e y):eqW m yF x y=some q:=by
 unfold eqD at h;split at h
 .next z=>simp only[Bool.and_eq_true] at z;cases h;exact zai yF d e x y z.1 z.2 a b
 .cases h
theorem za5 {R:Nat->Prop}{m:Me}{d:Dat}{x:Wd}(h:yK yF d=true)(a:Rep R m d x):∀ (es:List Dat) (ys:List Wd),eqOkL yF es=true->RepL R m es ys->inL (eqW m yF) x ys=some (es.any λe=>deq e d)
 | [],ys,_,b=>by rw[b.nil_inv];rfl
 | e::es,ys,z,b=>by
  obtain ⟨y,r,rfl,p,q⟩:=b.cons_inv
  replace z:(yK yF e && eqOkL yF es)=true:=z
  rw[Bool.and_eq_true] at z;show (match eqW m yF y x with
   | some a=>(inL (eqW m yF) x r).map (a || ·)
   | none=>none)=_
  rw[zai yF e d y x z.1 h p a,za5 h a es r z.2 q];rfl
set_option tactic.hygienic true in
theorem zeM {R:Nat->Prop}{m:Me}{d:Dat}{x:Wd}{es:List Dat}{ys:List Wd}{q:Bool}(h:inD d es=some q)(a:Rep R m d x)(b:RepL R m es ys):inL (eqW m yF) x ys=some q:=by
 unfold inD at h;split at h
 .next z=>simp only[Bool.and_eq_true] at z;cases h;exact za5 z.1 a es ys z.2 b
 .cases h
theorem SimE.int {R:Nat->Prop}{m:Me}{i:Int}:SimE R m (.ok (.int i) m) (.ok (.int i)):=zj7 (rep_int.mpr rfl)
theorem SimE.bl {R:Nat->Prop}{m:Me}{i:Bool}:SimE R m (.ok (.bl i) m) (.ok (.bl i)):=zj7 (rep_bl.mpr rfl)
theorem j9 {R:Nat->Prop}{m:Me}{d e:Dat}{x y:Wd}(op:Bo)(a:Rep R m d x)(b:Rep R m e y):SimE R m (bop op x y m) (zI op d e):=by
 cases d with
 | int i =>
  rw[rep_int.mp a];cases e with
  | int j =>
   rw[rep_int.mp b];cases op <;> simp only[bop,zI]
   .exact SimE.int
   .exact SimE.int
   .by_cases z:(yM i || yM j)=true
    .rw[if_pos z,if_pos z];exact SimE.int
    .rw[if_neg z,if_neg z];exact SimE.no
   .by_cases z:0 < j/\j < 1073741824
    .rw[if_pos z,if_pos z];exact SimE.int
    .rw[if_neg z,if_neg z];exact SimE.no
   .by_cases z:0 < j
    .rw[if_pos z,if_pos z];exact SimE.int
    .rw[if_neg z,if_neg z];exact SimE.no
   .by_cases z:0<=j/\j<=1000000/\yM i=true
    .rw[if_pos z,if_pos z];exact SimE.int
    .rw[if_neg z,if_neg z];exact SimE.no
   .by_cases z:0<=j/\j<=1000
    .rw[if_pos z,if_pos z];exact SimE.int
    .rw[if_neg z,if_neg z];exact SimE.no
   .by_cases z:0<=i/\j=1
    .rw[if_pos z,if_pos z];exact SimE.int
    .rw[if_neg z,if_neg z];exact SimE.no
  | _=>exact SimE.no
 | lst ds =>
  obtain ⟨l,xs,rfl,_,hm,a1⟩:=rep_lst.mp a;cases e with
  | lst es =>
   obtain ⟨l',ys,rfl,_,hn,b1⟩:=rep_lst.mp b;cases op <;> first | exact SimE.no | skip
   simp only[bop,zI,hm,hn];exact SimE.new (a1.app b1)
  | int k =>
   rw[rep_int.mp b];cases op <;> first | exact SimE.no | skip
   simp only[bop,zI,hm];by_cases z:-(lim:Int)<=k/\k<=(lim:Int)
   .rw[if_pos z,if_pos z];exact SimE.new (a1.rep _)
   .rw[if_neg z,if_neg z];exact SimE.no
  | _=>exact SimE.no
 | tup ds =>
  obtain ⟨xs,rfl,a1⟩:=rep_tup.mp a;cases e with
  | tup es =>
   obtain ⟨ys,rfl,b1⟩:=rep_tup.mp b;cases op <;> first | exact SimE.no | skip
   simp only[bop,zI];have h1:=a1.len;have h2:=b1.len;have h3:ds.isEmpty=xs.isEmpty:=by cases ds <;> cases xs <;> simp_all
   rw[h1,h2,h3];by_cases z:xs.length+ys.length<=lim/\xs.isEmpty=false
   .rw[if_pos z,if_pos z];exact zj7 (rep_tup.mpr ⟨_,rfl,a1.app b1⟩)
   .rw[if_neg z,if_neg z];exact SimE.no
  | _=>exact SimE.no
 | _=>exact SimE.no
theorem ga {R:Nat->Prop}{m:Me}{d e:Dat}{x y:Wd}(r:Int->Int->Bool)(a:Rep R m d x)(b:Rep R m e y):SimE R m (jD r x y m) (zeL r d e):=by
 cases d with
 | int i =>
  rw[rep_int.mp a];cases e with
  | int j=>rw[rep_int.mp b];exact SimE.bl
  | _=>exact SimE.no
 | _=>exact SimE.no
theorem gb {R:Nat->Prop}{m:Me}{p:Option Bool}{q:Option Bool}(h:∀b,q=some b->p=some b):SimE R m (ofB p m) (j7 q):=by
 cases q with
 | none=>exact SimE.no
 | some b=>rw[h b rfl];exact SimE.bl
theorem zc9 {R:Nat->Prop}{m:Me}{p:Option Bool}{q:Option Bool}(h:∀b,q=some b->p=some b):SimE R m (ofB (p.map (!·)) m) (j7 (q.map (!·))):=by
 cases q with
 | none=>exact SimE.no
 | some b=>rw[h b rfl];exact SimE.bl
theorem zda {R:Nat->Prop}{m:Me}{d e:Dat}{x y:Wd}(a:Rep R m d x)(b:Rep R m e y):SimE R m (cop .notN x y m) (yo .notN d e):=by
 cases e with
 | non =>
  rw[rep_non.mp b];cases d with
  | non=>rw[rep_non.mp a];exact SimE.bl
  | bl _=>rw[rep_bl.mp a];exact SimE.bl
  | int _=>rw[rep_int.mp a];exact SimE.bl
  | str _=>rw[rep_str.mp a];exact SimE.bl
  | scr _=>rw[rep_scr.mp a];exact SimE.bl
  | tup _=>obtain ⟨xs,rfl,_⟩:=rep_tup.mp a;exact SimE.bl
  | lst _=>obtain ⟨l,xs,rfl,_⟩:=rep_lst.mp a;exact SimE.bl
  | dct _ _=>obtain ⟨l,xs,rfl,_⟩:=rep_dct.mp a;exact SimE.bl
 | _=>exact SimE.no
theorem vC {R:Nat->Prop}{m:Me}:∀ {ds:List Dat}{xs:List Wd}{k:List Int},RepL R m ds xs->yJ ds=some k->xi xs=some k
 | [],xs,k,a,h=>by rw[a.nil_inv];exact h
 | d::ds,xs,k,a,h=>by
  obtain ⟨x,r,rfl,p,q⟩:=a.cons_inv;cases d with
  | int j =>
   rw[rep_int.mp p];simp only[yJ,Option.map_eq_some_iff] at h;obtain ⟨k,hk,rfl⟩:=h;simp only[xi,vC q hk,Option.map_some]
  | _=>simp[yJ] at h
theorem gc {R:Nat->Prop}{m:Me}{d e:Dat}{x y:Wd}(op:Co)(a:Rep R m d x)(b:Rep R m e y):SimE R m (cop op x y m) (yo op d e):=by
 cases op with
 | eq=>exact gb λq h=>za4 h a b
 | ne=>exact zc9 λq h=>za4 h a b
 | notN=>exact zda a b
 | isin =>
  simp only[cop,yo];cases z:xH e with
  | none =>
   cases e with
   | dct ks ds =>
    obtain ⟨l,xs,rfl,_,hm,q⟩:=rep_dct.mp b;have hs:xD m (.ref l)=none:=by show zr m l=none;unfold zr;rw[hm]
    rw[hs];refine gb λt h=>?_;unfold inK;simp only[hm];cases d with
    | int i=>rw[rep_int.mp a];exact h
    | tup us =>
     obtain ⟨ws,rfl,q⟩:=rep_tup.mp a;have h:(yJ us).map (λk=>decide (k∈ks))=some t:=h;obtain ⟨k,hk,rfl⟩:=Option.map_eq_some_iff.mp h;show (xi ws).map _=_;rw[vC q hk];rfl
    | _=>cases h
   | _=>exact SimE.no
  | some es =>
   obtain ⟨ys,h,q⟩:=w5 b z;rw[h];exact gb λt h=>zeM h a q
 | lt=>exact ga _ a b
 | le=>exact ga _ a b
 | gt=>exact ga _ a b
theorem qr {R:Nat->Prop}{m:Me}{d:Dat}{x:Wd}{k:List Int}(a:Rep R m d x)(h:wZ d=some k):zbF x=some k:=by
 cases d with
 | tup ds=>obtain ⟨xs,rfl,q⟩:=rep_tup.mp a;exact vC q h
 | _=>cases h
theorem za6 {R:Nat->Prop}{m:Me}{q:List Int}:∀ {ks:List (List Int)}{ds:List Dat}{xs:List Wd}{d:Dat},RepL R m ds xs->atK ks ds q=some d->∃x,atK ks xs q=some x/\Rep R m d x
 | [],ds,xs,d,a,h=>by cases ds <;> cases h
 | k::ks,[],xs,d,a,h=>by cases h
 | k::ks,e::ds,xs,d,a,h=>by
  obtain ⟨x,r,rfl,p,z⟩:=a.cons_inv;have h':(if k=q then some e else atK ks ds q)=some d:=h;show ∃y,(if k=q then some x else atK ks r q)=some y/\_;by_cases c:k=q
  .rw[if_pos c] at h' ⊢;cases h';exact ⟨x,rfl,p⟩
  .rw[if_neg c] at h' ⊢;exact za6 z h'
theorem qt {R:Nat->Prop}{m:Me}{d e:Dat}{x y:Wd}(a:Rep R m d x)(b:Rep R m e y):SimE R m (jE x y m) (vT d e):=by
 cases d with
 | dct ks ds =>
  obtain ⟨l,xs,rfl,_,hm,q⟩:=rep_dct.mp a;unfold vT jE;simp only[hm];cases hk:wZ e with
  | none=>exact SimE.no
  | some k =>
   rw[qr b hk];simp only[Option.bind];cases hv:atK ks ds k with
   | none=>exact SimE.no
   | some v =>
    obtain ⟨w,h1,h2⟩:=za6 q hv;rw[h1];exact zj7 h2
 | _=>exact SimE.no
theorem qu {R:Nat->Prop}{m:Me}:∀ {ds:List Dat}{xs:List Wd}{k:List Int},RepL R m ds xs->yJ ds=some k->xi xs=some k
 | [],xs,k,q,h=>by rw[q.nil_inv];exact h
 | d::ds,xs,k,q,h=>by
  obtain ⟨x,r,rfl,a,b⟩:=q.cons_inv;cases d with
  | int i =>
   have h':(yJ ds).map (i::·)=some k:=h;obtain ⟨k',e,rfl⟩:=Option.map_eq_some_iff.mp h';rw[rep_int.mp a];show (xi r).map (i::·)=_;rw[qu b e];rfl
  | _=>cases h
theorem zeN {R:Nat->Prop}{m:Me}{ds:List Dat}{xs:List Wd}(b:Blf)(a:RepL R m ds xs):SimE R m (qT b xs m) (xx b ds):=by
 have one:∀ {d:Dat}{xs:List Wd},RepL R m [d] xs->∃x,xs=[x]/\Rep R m d x:=by
  intro d xs h;obtain ⟨x,r,rfl,p,q⟩:=h.cons_inv;rw[q.nil_inv];exact ⟨x,rfl,p⟩
 cases b with
 | len =>
  cases ds with
  | nil=>exact SimE.no
  | cons d ds =>
   cases ds with
   | cons _ _=>exact SimE.no
   | nil =>
    obtain ⟨x,rfl,p⟩:=one a;show SimE R m _ (match xH d with | some i=>.ok (.int i.length) | none=>.no);cases z:xH d with
    | none=>exact SimE.no
    | some i =>
     obtain ⟨ys,h,q⟩:=w5 p z;simp only[qT,h,q.len];exact SimE.int
 | int =>
  cases ds with
  | nil=>exact SimE.no
  | cons d ds =>
   cases d with
   | int i =>
    cases ds with
    | cons _ _=>exact SimE.no
    | nil=>obtain ⟨x,rfl,p⟩:=one a;rw[rep_int.mp p];exact SimE.int
   | bl i =>
    cases ds with
    | cons _ _=>exact SimE.no
    | nil=>obtain ⟨x,rfl,p⟩:=one a;rw[rep_bl.mp p];exact SimE.int
   | _=>exact SimE.no
 | list =>
  cases ds with
  | nil=>exact SimE.no
  | cons d ds =>
   cases ds with
   | cons _ _=>exact SimE.no
   | nil =>
    obtain ⟨x,rfl,p⟩:=one a;show SimE R m _ (match xH d with | some i=>newD i | none=>.no);cases z:xH d with
    | none=>exact SimE.no
    | some i =>
     obtain ⟨ys,h,q⟩:=w5 p z;simp only[qT,h];exact SimE.new q
 | max2 =>
  cases ds with
  | nil=>exact SimE.no
  | cons d ds =>
   cases d with
   | int i =>
    cases ds with
    | nil=>exact SimE.no
    | cons e ds =>
     cases e with
     | int j =>
      cases ds with
      | cons _ _=>exact SimE.no
      | nil =>
       obtain ⟨x,r,rfl,p,q⟩:=a.cons_inv;obtain ⟨y,rfl,q1⟩:=one q;rw[rep_int.mp p,rep_int.mp q1];exact SimE.int
     | _=>exact SimE.no
   | _=>exact SimE.no
 | sortI =>
  cases ds with
  | nil=>exact SimE.no
  | cons d ds =>
   cases ds with
   | cons _ _=>exact SimE.no
   | nil =>
    obtain ⟨x,rfl,p⟩:=one a;show SimE R m _ (match (lsD d).bind yJ with | some k=>if k.length < 64 then newD ((jY k).map Dat.int) else .no | none=>.no);cases z:(lsD d).bind yJ with
    | none=>exact SimE.no
    | some k =>
     obtain ⟨es,z1,z2⟩:=Option.bind_eq_some_iff.mp z;obtain ⟨ys,h,q⟩:=zg8 p z1;by_cases h64:k.length < 64
     .simp only[qT,h,Option.bind_some,qu q z2,if_pos h64];exact SimE.new (zj6 _)
     .simp only[if_neg h64];exact SimE.no
theorem zeO {R:Nat->Prop}{m:Me}{d e:Dat}{x y:Wd}(a:Rep R m d x)(b:Rep R m e y):SimE R m (kJ x y m) (zK d e):=by
 cases e with
 | int i =>
  rw[rep_int.mp b];simp only[zK,kJ];cases z:xH d with
  | none=>exact SimE.no
  | some ds =>
   obtain ⟨xs,h,q⟩:=w5 a z;simp only[h];cases z:(ix ds.length i).bind λj=>ds[j]? with
   | none=>exact SimE.no
   | some v =>
    obtain ⟨j,h1,h2⟩:=Option.bind_eq_some_iff.mp z;obtain ⟨x,h3,p⟩:=q.get h2;rw[q.len] at h1;simp only[h1,Option.bind_some,h3];exact zj7 p
 | _=>exact SimE.no
theorem w6 {R:Nat->Prop}{m:Me}(st:Int):∀ (n:Nat) (lo:Int),RepL R m (yt lo st n) (qU lo st n)
 | 0,lo=>.nil
 | n+1,lo=>by
  have h:yt lo st (n+1)=.int lo::yt (lo+st) st n:=by
   unfold yt;rw[List.range_succ_eq_map,List.map_cons,List.map_map];congr 1
   .simp
   .apply List.map_congr_left;intro i _;show Dat.int _=Dat.int _;congr 1;rw[show ((Nat.succ i:Nat):Int)=(i:Int)+1 from rfl,Int.mul_add,Int.mul_one];lia
  rw[h];exact .cons (rep_int.mpr rfl) (w6 st n _)
theorem zeP {R:Nat->Prop}{m:Me}{d e f:Dat}{x y z:Wd}(a:Rep R m d x)(b:Rep R m e y)(c:Rep R m f z):SimE R m (zco x y z m) (k7 d e f):=by
 cases d with
 | int i =>
  cases e with
  | int j =>
   cases f with
   | int k =>
    rw[rep_int.mp a,rep_int.mp b,rep_int.mp c];simp only[zco,k7];split
    .exact zj7 (rep_tup.mpr ⟨_,rfl,w6 k _ i⟩)
    .exact SimE.no
   | _=>exact SimE.no
  | _=>exact SimE.no
 | _=>exact SimE.no
theorem wp {c e:Wd->Me->Rz}{cd ed:Dat->Rd}{R:Nat->Prop}{m0:Me}
  (hc:∀ (R':Nat->Prop) m d x,(∀l,R l->R' l)->Le m0 m->Rep R' m d x->SimE R' m (c x m) (cd d)) (he:∀ (R':Nat->Prop) m d x,(∀l,R l->R' l)->Le m0 m->Rep R' m d x->SimE R' m (e x m) (ed d)) :
  ∀ (ds:List Dat) (xs:List Wd) (acc:List Dat) (acx:List Wd) (R':Nat->Prop) (m:Me),(∀l,R l->R' l)->Le m0 m->RepL R' m ds xs->RepL R' m acc acx->SimE R' m (y8 c e xs acx m) (zR cd ed ds acc)
 | [],xs,acc,acx,R',m,hR,hm,a,b=>by
  rw[a.nil_inv];unfold y8 zR;exact SimE.new b
 | d::ds,xs,acc,acx,R',m,hR,hm,a,b=>by
  obtain ⟨x,r,rfl,p,q⟩:=a.cons_inv;unfold y8 zR;refine (hc R' m d x hR hm p).bind λt w m1 l1 k1=>?_;cases t with
  | bl t =>
   rw[rep_bl.mp k1];cases t with
   | true =>
    refine (he _ m1 d x (λl z=>.inl (hR l z)) (hm.trans l1) (p.up _ l1)).bind λt w m2 l2 k2=>?_;simp only[b.len];by_cases z:acx.length < lim
    .rw[if_pos z,if_pos z];exact wp hc he ds r _ _ _ m2 (λl z=>.inl (.inl (hR l z))) ((hm.trans l1).trans l2) ((q.up _ l1).up _ l2) (((b.up _ l1).up _ l2).app (.cons k2 .nil))
    .rw[if_neg z,if_neg z];exact SimE.no
   | false=>exact wp hc he ds r _ _ _ m1 (λl z=>.inl (hR l z)) (hm.trans l1) (q.up _ l1) (b.up _ l1)
  | _=>exact SimE.no
theorem vD {c e:Wd->Me->Rz}{cd ed:Dat->Rd}{R:Nat->Prop}{m0:Me}{l:Nat}{xs0:List Wd}(hl:m0[l]?=some (.lst xs0))
  (hc:∀ (R':Nat->Prop) m d x,(∀l,R l->R' l)->Le m0 m->Rep R' m d x->SimE R' m (c x m) (cd d)) (he:∀ (R':Nat->Prop) m d x,(∀l,R l->R' l)->Le m0 m->Rep R' m d x->SimE R' m (e x m) (ed d)) :
  ∀ (ds:List Dat) (i k:Nat) (acc:List Dat) (acx:List Wd) (R':Nat->Prop) (m:Me),(∀l,R l->R' l)->Le m0 m->RepL R' m ds (xs0.drop i)->i+ds.length=xs0.length->ds.length < k->RepL R' m acc acx->SimE R' m (y9 c e l k i acx m) (zR cd ed ds acc)
 | [],i,0,acc,acx,R',m,hR,hm,a,hi,hk,b=>by simp at hk
 | d::ds,i,0,acc,acx,R',m,hR,hm,a,hi,hk,b=>by simp at hk
 | [],i,k+1,acc,acx,R',m,hR,hm,a,hi,hk,b=>by
  unfold y9 zR zr;rw[hm l _ hl];simp only;rw[List.getElem?_eq_none (by simp at hi;lia)];exact SimE.new b
 | d::ds,i,k+1,acc,acx,R',m,hR,hm,a,hi,hk,b=>by
  obtain ⟨x,r,e0,p,q⟩:=a.cons_inv;have hx:xs0[i]?=some x:=by
   have:(xs0.drop i)[0]?=some x:=by rw[e0];rfl
   simpa using this
  have hr:r=xs0.drop (i+1):=by
   have:(xs0.drop i).drop 1=r:=by rw[e0];rfl
   rw[<- this,List.drop_drop]
  rw[hr] at q;have hi':i+1+ds.length=xs0.length:=by simp at hi;lia
  have hk':ds.length < k:=by simp at hk;lia
  unfold y9 zR zr;rw[hm l _ hl];simp only;rw[hx];simp only;refine (hc R' m d x hR hm p).bind λt w m1 l1 k1=>?_;cases t with
  | bl t =>
   rw[rep_bl.mp k1];cases t with
   | true =>
    refine (he _ m1 d x (λl z=>.inl (hR l z)) (hm.trans l1) (p.up _ l1)).bind λt w m2 l2 k2=>?_;simp only[b.len];by_cases z:acx.length < lim
    .rw[if_pos z,if_pos z];exact vD hl hc he ds (i+1) k _ _ _ m2 (λl z=>.inl (.inl (hR l z))) ((hm.trans l1).trans l2) ((q.up _ l1).up _ l2) hi' hk' (((b.up _ l1).up _ l2).app (.cons k2 .nil))
    .rw[if_neg z,if_neg z];exact SimE.no
   | false=>exact vD hl hc he ds (i+1) k _ _ _ m1 (λl z=>.inl (hR l z)) (hm.trans l1) (q.up _ l1) hi' hk' (b.up _ l1)
  | _=>exact SimE.no
def zdb (R:Nat->Prop)(m0:Me)(ps:List (Dat×Dat))(g:Nat->Me->Option (Option (Wd×Wd))):Prop :=
 ∀m,Le m0 m->(∀i p,ps[i]?=some p->∃a b,g i m=some (some (a,b))/\Rep R m p.1 a/\Rep R m p.2 b)/\∀i,ps.length<=i->g i m=some none
theorem gd {α β:Type}:∀ {xs:List α}{ys:List β}{i:Nat}{p:α×β},(xs.zip ys)[i]?=some p->xs[i]?=some p.1/\ys[i]?=some p.2
 | [],_,i,p,h=>by simp at h
 | _::_,[],i,p,h=>by simp at h
 | x::xs,y::ys,0,p,h=>by simp at h;subst h;exact ⟨rfl,rfl⟩
 | x::xs,y::ys,i+1,p,h=>by
  have h':(xs.zip ys)[i]?=some p:=by simpa using h
  simpa using gd h'
set_option tactic.hygienic true in
theorem ge:∀ {xs:List Dat}{ps:List (Dat×Dat)},zc8 xs=some ps->ps.length=xs.length/\∀ (i:Nat) p,ps[i]?=some p->xs[i]?=some (.tup [p.1,p.2])
 | [],ps,h=>by cases h;exact ⟨rfl,λi p q=>by simp at q⟩
 | d::xs,ps,h=>by
  unfold zc8 at h;split at h
  .next h0=>cases h0
  .next x y r h0 =>
   cases h0;obtain ⟨qs,e,rfl⟩:=Option.map_eq_some_iff.mp h;obtain ⟨a,b⟩:=ge e;refine ⟨by simp[a],λi p q=>?_⟩;cases i with
   | zero=>cases q;rfl
   | succ i=>exact b i p q
  .cases h
set_option tactic.hygienic true in
theorem jM {R:Nat->Prop}{m0:Me}{k:Kd}{x y:Dat}{a b:Wd}{ps:List (Dat×Dat)}(e:yQ k x y=some ps)(hx:Rep R m0 x a)(hy:Rep R m0 y b):zdb R m0 ps (zz k a b)/\ps.length<=lim:=by
 unfold yQ at e;split at e
 .obtain ⟨l,xs,rfl,_,e1,k1⟩:=rep_lst.mp hx;obtain ⟨l',ys,rfl,_,e2,k2⟩:=rep_lst.mp hy;split at e
  .next z =>
   cases e;refine ⟨λm h=>⟨λi p q=>?_,λi q=>?_⟩,by simp;lia⟩
   .obtain ⟨z1,z2⟩:=gd q;obtain ⟨a,a1,a2⟩:=k1.get z1;obtain ⟨b,b1,b2⟩:=k2.get z2;refine ⟨a,b,?_,Rep.frame (λl o r z=>⟨r,h l o z⟩) _ _ a2,Rep.frame (λl o r z=>⟨r,h l o z⟩) _ _ b2⟩;simp only[zz,zr];rw[h _ _ e1,h _ _ e2];simp only[a1,b1]
   .simp only[zz,zr];rw[h _ _ e1,h _ _ e2];have l1:=k1.len;have l2:=k2.len;simp only[List.length_zip] at q;simp only;rcases Nat.le_total xs.length ys.length with z3 | z3
    .rw[List.getElem?_eq_none (by lia)]
    .rw[List.getElem?_eq_none (l:=ys) (by lia)];cases xs[i]? <;> rfl
  .cases e
 .rename_i xs0 st;obtain ⟨l,xs,rfl,_,e1,k1⟩:=rep_lst.mp hx;rw[rep_int.mp hy];split at e
  .next z =>
   cases e;have l1:=k1.len;refine ⟨λm h=>⟨λi p q=>?_,λi q=>?_⟩,by simp[yt];lia⟩
   .obtain ⟨z1,z2⟩:=gd q;obtain ⟨a,a1,a2⟩:=k1.get z2;have hp:p.1=.int (st+(i:Int)):=by
     simp only[yt,List.getElem?_map] at z1;cases hr:(List.range xs0.length)[i]? with
     | none=>rw[hr] at z1;cases z1
     | some j =>
      rw[hr] at z1;have:=List.getElem?_eq_some_iff.mp hr;obtain ⟨_,hj⟩:=this;simp only[List.getElem_range] at hj;subst hj;simp only[Option.map_some,Option.some.injEq,Int.one_mul] at z1;exact z1.symm
    refine ⟨.int (st+(i:Int)),a,?_,by rw[hp];exact rep_int.mpr rfl,Rep.frame (λl o r z=>⟨r,h l o z⟩) _ _ a2⟩;simp only[zz,zr];rw[h _ _ e1];simp only[a1,Option.map_some]
   .simp only[zz,zr];rw[h _ _ e1];simp only[yt,List.length_zip,List.length_map,List.length_range] at q;simp only;rw[List.getElem?_eq_none (by lia)];rfl
  .cases e
 .rename_i xs0 st;obtain ⟨l,xs,rfl,_,e1,k1⟩:=rep_lst.mp hx;rw[rep_int.mp hy];split at e
  .next z =>
   have l1:=k1.len;obtain ⟨g1,g2⟩:=ge e;refine ⟨λm h=>⟨λi p q=>?_,λi q=>?_⟩,by lia⟩
   .obtain ⟨a,a1,a2⟩:=k1.get (g2 i p q);obtain ⟨us,rfl,r2⟩:=rep_tup.mp a2;obtain ⟨x,r,rfl,ra,rb⟩:=r2.cons_inv;obtain ⟨y,r',rfl,rc,rd⟩:=rb.cons_inv;obtain rfl:=rd.nil_inv;refine ⟨x,y,?_,Rep.frame (λl o r z=>⟨r,h l o z⟩) _ _ ra,Rep.frame (λl o r z=>⟨r,h l o z⟩) _ _ rc⟩;simp only[zz,zr];rw[h _ _ e1];simp only[a1];rfl
   .simp only[zz,zr];rw[h _ _ e1];simp only;rw[List.getElem?_eq_none (by lia)]
  .cases e
 .rename_i xs0 st;obtain ⟨xs,rfl,k1⟩:=rep_tup.mp hx;rw[rep_int.mp hy];split at e
  .next z =>
   have l1:=k1.len;obtain ⟨g1,g2⟩:=ge e;refine ⟨λm h=>⟨λi p q=>?_,λi q=>?_⟩,by lia⟩
   .obtain ⟨a,a1,a2⟩:=k1.get (g2 i p q);obtain ⟨us,rfl,r2⟩:=rep_tup.mp a2;obtain ⟨x,r,rfl,ra,rb⟩:=r2.cons_inv;obtain ⟨y,r',rfl,rc,rd⟩:=rb.cons_inv;obtain rfl:=rd.nil_inv;refine ⟨x,y,?_,Rep.frame (λl o r z=>⟨r,h l o z⟩) _ _ ra,Rep.frame (λl o r z=>⟨r,h l o z⟩) _ _ rc⟩;simp only[zz,a1];rfl
   .simp only[zz];rw[List.getElem?_eq_none (by lia)]
  .cases e
 .cases e
theorem vF {c e:Wd->Wd->Me->Rz}{cd ed:Dat×Dat->Rd}{R:Nat->Prop}{m0:Me}{ps:List (Dat×Dat)}{g:Nat->Me->Option (Option (Wd×Wd))}(hg:zdb R m0 ps g)
  (hc:∀ (R':Nat->Prop) m p a b,(∀l,R l->R' l)->Le m0 m->Rep R' m p.1 a->Rep R' m p.2 b->SimE R' m (c a b m) (cd p)) (he:∀ (R':Nat->Prop) m p a b,(∀l,R l->R' l)->Le m0 m->Rep R' m p.1 a->Rep R' m p.2 b->SimE R' m (e a b m) (ed p)) :
  ∀ (ds:List (Dat×Dat)) (i k:Nat) (acc:List Dat) (acx:List Wd) (R':Nat->Prop) (m:Me),(∀l,R l->R' l)->Le m0 m->ds=ps.drop i->i+ds.length=ps.length->ds.length < k->RepL R' m acc acx->SimE R' m (zY c e g k i acx m) (zR cd ed ds acc)
 | [],i,0,acc,acx,R',m,hR,hm,a,hi,hk,b=>by simp at hk
 | d::ds,i,0,acc,acx,R',m,hR,hm,a,hi,hk,b=>by simp at hk
 | [],i,k+1,acc,acx,R',m,hR,hm,a,hi,hk,b=>by
  unfold zY zR;rw[(hg m hm).2 i (by simp at hi;lia)];exact SimE.new b
 | d::ds,i,k+1,acc,acx,R',m,hR,hm,a,hi,hk,b=>by
  have hx:ps[i]?=some d:=by
   have:(ps.drop i)[0]?=some d:=by rw[<- a];rfl
   simpa using this
  have hr:ds=ps.drop (i+1):=by
   have:(ps.drop i).drop 1=ds:=by rw[<- a];rfl
   rw[<- this,List.drop_drop]
  have hi':i+1+ds.length=ps.length:=by simp at hi;lia
  have hk':ds.length < k:=by simp at hk;lia
  obtain ⟨u,v,e0,p,q⟩:=(hg m hm).1 i d hx;have up:∀ {d:Dat}{w:Wd},Rep R m d w->Rep R' m d w:=λz=>Rep.frame (λl o r z=>⟨hR l r,z⟩) _ _ z;unfold zY zR;rw[e0];simp only;refine (hc R' m d u v hR hm (up p) (up q)).bind λt w m1 l1 k1=>?_;cases t with
  | bl t =>
   rw[rep_bl.mp k1];cases t with
   | true =>
    refine (he _ m1 d u v (λl z=>.inl (hR l z)) (hm.trans l1) ((up p).up _ l1) ((up q).up _ l1)).bind λt w m2 l2 k2=>?_;simp only[b.len];by_cases z:acx.length < lim
    .rw[if_pos z,if_pos z];exact vF hg hc he ds (i+1) k _ _ _ m2 (λl z=>.inl (.inl (hR l z))) ((hm.trans l1).trans l2) hr hi' hk' (((b.up _ l1).up _ l2).app (.cons k2 .nil))
    .rw[if_neg z,if_neg z];exact SimE.no
   | false=>exact vF hg hc he ds (i+1) k _ _ _ m1 (λl z=>.inl (hR l z)) (hm.trans l1) hr hi' hk' (b.up _ l1)
  | _=>exact SimE.no
noncomputable def zp:Ex->List Nat
 | .var i=>[i]
 | .lit _=>[]
 | .bin _ a b=>zp a++zp b
 | .neg a=>zp a
 | .not a=>zp a
 | .and a b=>zp a++zp b
 | .or a b=>zp a++zp b
 | .cmp _ a b=>zp a++zp b
 | .chain _ _ a b c=>zp a++(zp b++zp c)
 | .ife c a b=>zp c++(zp a++zp b)
 | .unit=>[]
 | .pair a b=>zp a++zp b
 | .call _ a=>zp a
 | .blt _ a=>zp a
 | .lst a=>zp a
 | .tup a=>zp a
 | .dict0=>[]
 | .dget a b=>zp a++zp b
 | .idx a b=>zp a++zp b
 | .meth _ a b=>zp a++zp b
 | .rng a b c=>zp a++(zp b++zp c)
 | .comp e i c=>zp i++(zp e++zp c)
 | .lrng a=>zp a
 | .compP _ e a b c=>zp a++(zp b++(zp e++zp c))
@[simp] theorem ziL (i:Nat):zp (.var i)=[i]:=rfl
@[simp] theorem ziM (w:Wd):zp (.lit w)=[]:=rfl
@[simp] theorem ziN (a b:Ex):zp (.idx a b)=zp a++zp b:=rfl
@[simp] theorem ziO (a:Ex):zp (.tup a)=zp a:=rfl
@[simp] theorem zhR (a b:Ex):zp (.pair a b)=zp a++zp b:=rfl
@[simp] theorem zhS  : zp (.unit)=[]:=rfl
@[simp] theorem ziP (op:Bo)(a b:Ex):zp (.bin op a b)=zp a++zp b:=rfl
@[simp] theorem zhT (k:Nat)(a:Ex):zp (.call k a)=zp a:=rfl
@[simp] theorem ziQ (a:Ex):zp (.neg a)=zp a:=rfl
@[simp] theorem ziR (a:Ex):zp (.lst a)=zp a:=rfl
def EnvR (R:Nat->Prop)(m:Me)(vs:List Nat)(de:DEn)(env:En):Prop :=
 de.length=env.length/\∀i∈vs,∀d,de[i]?=some (some d)->∃w,env[i]?=some (some w)/\Rep R m d w
theorem EnvR.up {R R':Nat->Prop}{m m':Me}{vs:List Nat}{de:DEn}{env:En}(hR:∀l,R l->R' l)(h:Le m m')(q:EnvR R m vs de env):EnvR R' m' vs de env :=
 ⟨q.1,λi hi d z=>by
  obtain ⟨w,a,b⟩:=q.2 i hi d z;exact ⟨w,a,Rep.frame (λl o r k=>⟨hR l r,h l o k⟩) d w b⟩⟩
theorem EnvR.sub {R:Nat->Prop}{m:Me}{vs us:List Nat}{de:DEn}{env:En}(h:∀i∈us,i∈vs)(q:EnvR R m vs de env):EnvR R m us de env :=
 ⟨q.1,λi hi=>q.2 i (h i hi)⟩
theorem EnvR.left {R:Nat->Prop}{m:Me}{us vs:List Nat}{de:DEn}{env:En}(q:EnvR R m (us++vs) de env):EnvR R m us de env:=q.sub λ_ h=>List.mem_append_left _ h
theorem EnvR.right {R:Nat->Prop}{m:Me}{us vs:List Nat}{de:DEn}{env:En}(q:EnvR R m (us++vs) de env):EnvR R m vs de env:=q.sub λ_ h=>List.mem_append_right _ h
set_option tactic.hygienic true in
theorem EnvR.push {R:Nat->Prop}{m:Me}{vs:List Nat}{de:DEn}{env:En}{d:Dat}{w:Wd}(q:EnvR R m vs de env)(h:Rep R m d w):EnvR R m vs (de++[some d]) (env++[some w]):=by
 refine ⟨by simp[q.1],λi hi e z=>?_⟩;rw[List.getElem?_append] at z;split at z
 .next k =>
  obtain ⟨w,a,b⟩:=q.2 i hi e z;exact ⟨w,by rw[List.getElem?_append_left (by rw[<- q.1];exact k)];exact a,b⟩
 .next k =>
  rw[List.getElem?_append_right (by rw[<- q.1];lia),<- q.1];have:i - de.length=0:=by
   rcases Nat.eq_zero_or_pos (i - de.length) with z0 | z0
   .exact z0
   .rw[List.getElem?_eq_none (by simp;lia)] at z;cases z
  rw[this] at z ⊢;cases z;exact ⟨w,rfl,h⟩
def CallR (cl:Nat->List Wd->Me->Rz)(cd:Nat->List Dat->Rd):Prop:=∀ (k:Nat) (ds:List Dat) (ws:List Wd) (R:Nat->Prop) (m:Me),RepL R m ds ws->SimE R m (cl k ws m) (cd k ds)
theorem yB {R:Nat->Prop}{m:Me}{d:Dat}{w:Wd}(h:Rep R m d w):RepL R m (zL d) (zn w):=by
 cases d with
 | tup ds=>obtain ⟨xs,rfl,q⟩:=rep_tup.mp h;exact q
 | non=>rw[rep_non.mp h];exact .nil
 | bl _=>rw[rep_bl.mp h];exact .nil
 | int _=>rw[rep_int.mp h];exact .nil
 | str _=>rw[rep_str.mp h];exact .nil
 | scr _=>rw[rep_scr.mp h];exact .nil
 | lst _=>obtain ⟨l,xs,rfl,_⟩:=rep_lst.mp h;exact .nil
 | dct _ _=>obtain ⟨l,xs,rfl,_⟩:=rep_dct.mp h;exact .nil
theorem zf {cl:Nat->List Wd->Me->Rz}{cd:Nat->List Dat->Rd}(H:CallR cl cd):∀ (e:Ex) (R:Nat->Prop) (m:Me) (de:DEn) (env:En),EnvR R m (zp e) de env->SimE R m (evE cl e env m) (evD cd e de)
 | .var i,R,m,de,env,q=>by
  cases z:de[i]? with
  | none=>rw[y0 (.inl z)];exact SimE.no
  | some o =>
   cases o with
   | none=>rw[y0 (.inr z)];exact SimE.no
   | some d =>
    obtain ⟨w,a,b⟩:=q.2 i (List.mem_singleton.mpr rfl) d z;rw[xI z,k8 a];exact zj7 b
 | .lit w,R,m,de,env,q=>by
  cases w <;> first | exact SimE.no | (exact zj7 (by unfold Rep;rfl))
 | .bin op a b,R,m,de,env,q=>by
  refine (zf H a R m de env q.left).bind λd w m1 l1 k1=>?_;refine (zf H b _ m1 de env (q.right.up (λ_=>.inl) l1)).bind λd2 w2 m2 l2 k2=>?_;exact j9 op (k1.up _ l2) k2
 | .neg a,R,m,de,env,q=>by
  refine (zf H a R m de env q).bind λd w m1 l1 k1=>?_;cases d with
  | int i=>rw[rep_int.mp k1];exact SimE.int
  | _=>exact SimE.no
 | .not a,R,m,de,env,q=>by
  refine (zf H a R m de env q).bind λd w m1 l1 k1=>?_;cases d with
  | bl i=>rw[rep_bl.mp k1];exact SimE.bl
  | _=>exact SimE.no
 | .and a b,R,m,de,env,q=>by
  refine (zf H a R m de env q.left).bind λd w m1 l1 k1=>?_;cases d with
  | bl i =>
   rw[rep_bl.mp k1];cases i with
   | true=>exact zf H b _ m1 de env (q.right.up (λ_=>.inl) l1)
   | false=>exact SimE.bl
  | _=>exact SimE.no
 | .or a b,R,m,de,env,q=>by
  refine (zf H a R m de env q.left).bind λd w m1 l1 k1=>?_;cases d with
  | bl i =>
   rw[rep_bl.mp k1];cases i with
   | false=>exact zf H b _ m1 de env (q.right.up (λ_=>.inl) l1)
   | true=>exact SimE.bl
  | _=>exact SimE.no
 | .cmp op a b,R,m,de,env,q=>by
  refine (zf H a R m de env q.left).bind λd w m1 l1 k1=>?_;refine (zf H b _ m1 de env (q.right.up (λ_=>.inl) l1)).bind λd2 w2 m2 l2 k2=>?_;exact gc op (k1.up _ l2) k2
 | .chain o p a b c,R,m,de,env,q=>by
  refine (zf H a R m de env q.left).bind λd w m1 l1 k1=>?_;refine (zf H b _ m1 de env (q.right.left.up (λ_=>.inl) l1)).bind λd2 w2 m2 l2 k2=>?_;refine (gc o (k1.up _ l2) k2).bind λd3 w3 m3 l3 k3=>?_;cases d3 with
  | bl i =>
   rw[rep_bl.mp k3];cases i with
   | false=>exact SimE.bl
   | true =>
    refine (zf H c _ m3 de env (q.right.right.up (λ_ h=>.inl (.inl (.inl h))) ((l1.trans l2).trans l3))).bind λd4 w4 m4 l4 k4=>?_;exact gc p ((k2.up _ l3).up _ l4) k4
  | _=>exact SimE.no
 | .ife c a b,R,m,de,env,q=>by
  refine (zf H c R m de env q.left).bind λd w m1 l1 k1=>?_;cases d with
  | bl i =>
   rw[rep_bl.mp k1];cases i with
   | true=>exact zf H a _ m1 de env (q.right.left.up (λ_=>.inl) l1)
   | false=>exact zf H b _ m1 de env (q.right.right.up (λ_=>.inl) l1)
  | _=>exact SimE.no
 | .unit,R,m,de,env,q=>by
  exact zj7 (rep_tup.mpr ⟨[],rfl,.nil⟩)
 | .pair a b,R,m,de,env,q=>by
  refine (zf H a R m de env q.left).bind λd w m1 l1 k1=>?_;refine (zf H b _ m1 de env (q.right.up (λ_=>.inl) l1)).bind λd2 w2 m2 l2 k2=>?_;exact zj7 (rep_tup.mpr ⟨_,rfl,.cons (k1.up _ l2) (yB k2)⟩)
 | .call k a,R,m,de,env,q=>by
  refine (zf H a R m de env q).bind λd w m1 l1 k1=>?_;exact H k _ _ _ m1 (yB k1)
 | .blt b a,R,m,de,env,q=>by
  refine (zf H a R m de env q).bind λd w m1 l1 k1=>?_;exact zeN b (yB k1)
 | .lst a,R,m,de,env,q=>by
  refine (zf H a R m de env q).bind λd w m1 l1 k1=>?_;exact SimE.new (yB k1)
 | .tup a,R,m,de,env,q=>by
  refine (zf H a R m de env q).bind λd w m1 l1 k1=>?_;have k2:=yB k1;simp only[k2.len];split
  .exact zj7 (rep_tup.mpr ⟨_,rfl,k2⟩)
  .exact SimE.no
 | .dict0,R,m,de,env,q=>by
  exact ⟨_,_,rfl,Le.app m _,rep_dct.mpr ⟨_,[],rfl,.inr (Nat.le_refl _),by simp,.nil⟩⟩
 | .dget a b,R,m,de,env,q=>by
  refine (zf H a R m de env q.left).bind λd w m1 l1 k1=>?_;refine (zf H b _ m1 de env (q.right.up (λ_=>.inl) l1)).bind λd2 w2 m2 l2 k2=>?_;exact qt (k1.up _ l2) k2
 | .idx a b,R,m,de,env,q=>by
  refine (zf H a R m de env q.left).bind λd w m1 l1 k1=>?_;refine (zf H b _ m1 de env (q.right.up (λ_=>.inl) l1)).bind λd2 w2 m2 l2 k2=>?_;exact zeO (k1.up _ l2) k2
 | .meth _ _ _,R,m,de,env,q=>by
  exact SimE.no
 | .rng a b c,R,m,de,env,q=>by
  refine (zf H a R m de env q.left).bind λd w m1 l1 k1=>?_;refine (zf H b _ m1 de env (q.right.left.up (λ_=>.inl) l1)).bind λd2 w2 m2 l2 k2=>?_;refine (zf H c _ m2 de env (q.right.right.up (λ_ h=>.inl (.inl h)) (l1.trans l2))).bind λd3 w3 m3 l3 k3=>?_;exact zeP ((k1.up _ l2).up _ l3) (k2.up _ l3) k3
 | .lrng a,R,m,de,env,q=>by
  refine (zf H a R m de env q).bind λd w m1 l1 k1=>?_;cases d with
  | int j =>
   rw[rep_int.mp k1];simp only;split
   .exact SimE.new (w6 1 _ 0)
   .exact SimE.no
  | _=>exact SimE.no
 | .comp elt it cond,R,m,de,env,q=>by
  refine (zf H it R m de env q.left).bind λd w m1 l1 k1=>?_;have hc:∀ (R':Nat->Prop) m' d x,(∀l,Rf R m.length l->R' l)->Le m1 m'->Rep R' m' d x->SimE R' m' (evE cl cond (env++[some x]) m') (evD cd cond (de++[some d])) :=
   λR' m' d x hR l k=>zf H cond R' m' _ _ ((q.right.right.up (λl h=>hR l (.inl h)) (l1.trans l)).push k)
  have he:∀ (R':Nat->Prop) m' d x,(∀l,Rf R m.length l->R' l)->Le m1 m'->Rep R' m' d x->SimE R' m' (evE cl elt (env++[some x]) m') (evD cd elt (de++[some d])) :=
   λR' m' d x hR l k=>zf H elt R' m' _ _ ((q.right.left.up (λl h=>hR l (.inl h)) (l1.trans l)).push k)
  cases d with
  | tup ds =>
   obtain ⟨xs,rfl,k2⟩:=rep_tup.mp k1;exact wp hc he ds xs [] [] _ m1 (λ_ h=>h) (Le.refl _) k2 .nil
  | scr ns =>
   rw[rep_scr.mp k1];exact wp hc he (ns.map .int) (ns.map .int) [] [] _ m1 (λ_ h=>h) (Le.refl _) (zj6 ns) .nil
  | lst ds =>
   obtain ⟨l,xs,rfl,_,hm,k2⟩:=rep_lst.mp k1;simp only[itD];by_cases z:ds.length<=lim
   .rw[if_pos z];have hl:=k2.len;exact vD hm hc he ds 0 (lim+1) [] [] _ m1 (λ_ h=>h) (Le.refl _) (by simpa using k2) (by lia) (by lia) .nil
   .rw[if_neg z];exact SimE.no
  | _=>exact SimE.no
 | .compP k elt a b cond,R,m,de,env,q=>by
  refine (zf H a R m de env q.left).bind λd w m1 l1 k1=>?_;refine (zf H b _ m1 de env (q.right.left.up (λl h=>.inl h) l1)).bind λd' w' m2 l2 k2=>?_;have hc:∀ (R':Nat->Prop) m' (p:Dat×Dat) x y,(∀l,Rf (Rf R m.length) m1.length l->R' l)->Le m2 m'->Rep R' m' p.1 x->Rep R' m' p.2 y->SimE R' m' (evE cl cond (env++[some x]++[some y]) m') (evD cd cond (de++[some p.1]++[some p.2])) :=
   λR' m' d x y hR l k k'=>zf H cond R' m' _ _ (((q.right.right.right.up (λl h=>hR l (.inl (.inl h))) ((l1.trans l2).trans l)).push k).push k')
  have he:∀ (R':Nat->Prop) m' (p:Dat×Dat) x y,(∀l,Rf (Rf R m.length) m1.length l->R' l)->Le m2 m'->Rep R' m' p.1 x->Rep R' m' p.2 y->SimE R' m' (evE cl elt (env++[some x]++[some y]) m') (evD cd elt (de++[some p.1]++[some p.2])) :=
   λR' m' d x y hR l k k'=>zf H elt R' m' _ _ (((q.right.right.left.up (λl h=>hR l (.inl (.inl h))) ((l1.trans l2).trans l)).push k).push k')
  cases e:yQ k d d' with
  | none=>exact SimE.no
  | some ps =>
   obtain ⟨pr,hl⟩:=jM e (k1.up _ l2) k2;exact vF pr hc he ps 0 (lim+1) [] [] _ m2 (λ_ h=>h) (Le.refl _) (by simp) (by simp) (by lia) .nil
mutual
noncomputable def Own (m:Me):Dat->Wd->List Nat->Prop
 | .non,w,A=>w=.non/\A=[]
 | .bl b,w,A=>w=.bl b/\A=[]
 | .int i,w,A=>w=.int i/\A=[]
 | .str s,w,A=>w=.str s/\A=[]
 | .scr ns,w,A=>w=.rol (ns.map Wd.int)/\A=[]
 | .tup ds,w,A=>∃xs,w=.tup xs/\OwnL m ds xs A
 | .lst ds,w,A=>∃l xs B,w=.ref l/\A=l::B/\m[l]?=some (.lst xs)/\OwnL m ds xs B
 | .dct ks ds,w,A=>∃l xs B,w=.ref l/\A=l::B/\m[l]?=some (.dct ks xs)/\OwnL m ds xs B
noncomputable def OwnL (m:Me):List Dat->List Wd->List Nat->Prop
 | [],xs,A=>xs=[]/\A=[]
 | d::ds,xs,A=>∃x r B C,xs=x::r/\A=B++C/\Own m d x B/\OwnL m ds r C
end
theorem own_lst {m:Me}{ds:List Dat}{w:Wd}{A:List Nat}:Own m (.lst ds) w A↔∃l xs B,w=.ref l/\A=l::B/\m[l]?=some (.lst xs)/\OwnL m ds xs B:=by
 constructor
 .intro h;unfold Own at h;exact h
 .intro h;unfold Own;exact h
theorem own_dct {m:Me}{ks:List (List Int)}{ds:List Dat}{w:Wd}{A:List Nat}:Own m (.dct ks ds) w A↔∃l xs B,w=.ref l/\A=l::B/\m[l]?=some (.dct ks xs)/\OwnL m ds xs B:=by
 constructor
 .intro h;unfold Own at h;exact h
 .intro h;unfold Own;exact h
theorem own_tup {m:Me}{ds:List Dat}{w:Wd}{A:List Nat}:Own m (.tup ds) w A↔∃xs,w=.tup xs/\OwnL m ds xs A:=by
 constructor
 .intro h;unfold Own at h;exact h
 .intro h;unfold Own;exact h
theorem OwnL.cons_inv {m:Me}{d:Dat}{ds:List Dat}{xs:List Wd}{A:List Nat}(h:OwnL m (d::ds) xs A):∃x r B C,xs=x::r/\A=B++C/\Own m d x B/\OwnL m ds r C:=by unfold OwnL at h;exact h
theorem OwnL.nil_inv {m:Me}{xs:List Wd}{A:List Nat}(h:OwnL m [] xs A):xs=[]/\A=[]:=by unfold OwnL at h;exact h
theorem OwnL.nil {m:Me}:OwnL m [] [] []:=by unfold OwnL;exact ⟨rfl,rfl⟩
theorem OwnL.cons {m:Me}{d:Dat}{ds:List Dat}{x:Wd}{xs:List Wd}{B C:List Nat}(a:Own m d x B)(b:OwnL m ds xs C):OwnL m (d::ds) (x::xs) (B++C):=by
 unfold OwnL;exact ⟨x,xs,B,C,rfl,rfl,a,b⟩
theorem OwnL.app {m:Me}:∀ {ds es:List Dat}{xs ys:List Wd}{A B:List Nat},OwnL m ds xs A->OwnL m es ys B->OwnL m (ds++es) (xs++ys) (A++B)
 | [],es,xs,ys,A,B,a,b=>by rw[a.nil_inv.1,a.nil_inv.2];exact b
 | d::ds,es,xs,ys,A,B,a,b=>by
  obtain ⟨x,r,P,Q,rfl,rfl,p,q⟩:=a.cons_inv;rw[List.append_assoc];exact .cons p (OwnL.app q b)
mutual
theorem Own.frame {m m':Me}:∀ (d:Dat) (w:Wd) (A:List Nat),(∀l∈A,∀o,m[l]?=some o->m'[l]?=some o)->Own m d w A->Own m' d w A
 | .non,w,A,h,q=>by unfold Own at q ⊢;exact q
 | .bl _,w,A,h,q=>by unfold Own at q ⊢;exact q
 | .int _,w,A,h,q=>by unfold Own at q ⊢;exact q
 | .str _,w,A,h,q=>by unfold Own at q ⊢;exact q
 | .scr _,w,A,h,q=>by unfold Own at q ⊢;exact q
 | .tup ds,w,A,h,q=>by
  obtain ⟨xs,rfl,q1⟩:=own_tup.mp q;exact own_tup.mpr ⟨xs,rfl,OwnL.frame ds xs A h q1⟩
 | .lst ds,w,A,h,q=>by
  obtain ⟨l,xs,B,rfl,rfl,hm,q1⟩:=own_lst.mp q;exact own_lst.mpr ⟨l,xs,B,rfl,rfl,h l List.mem_cons_self _ hm,OwnL.frame ds xs B (λl hl=>h l (List.mem_cons_of_mem _ hl)) q1⟩
 | .dct ks ds,w,A,h,q=>by
  obtain ⟨l,xs,B,rfl,rfl,hm,q1⟩:=own_dct.mp q;exact own_dct.mpr ⟨l,xs,B,rfl,rfl,h l List.mem_cons_self _ hm,OwnL.frame ds xs B (λl hl=>h l (List.mem_cons_of_mem _ hl)) q1⟩
theorem OwnL.frame {m m':Me}:∀ (ds:List Dat) (xs:List Wd) (A:List Nat),(∀l∈A,∀o,m[l]?=some o->m'[l]?=some o)->OwnL m ds xs A->OwnL m' ds xs A
 | [],xs,A,h,q=>by rw[q.nil_inv.1,q.nil_inv.2];exact .nil
 | d::ds,xs,A,h,q=>by
  obtain ⟨x,r,B,C,rfl,rfl,a,b⟩:=q.cons_inv;exact .cons (Own.frame d x B (λl hl=>h l (List.mem_append_left _ hl)) a) (OwnL.frame ds r C (λl hl=>h l (List.mem_append_right _ hl)) b)
end
mutual
theorem Own.rep {m:Me}{R:Nat->Prop}:∀ (d:Dat) (w:Wd) (A:List Nat),(∀l∈A,R l)->Own m d w A->Rep R m d w
 | .non,w,A,h,q=>by unfold Own at q;exact rep_non.mpr q.1
 | .bl _,w,A,h,q=>by unfold Own at q;exact rep_bl.mpr q.1
 | .int _,w,A,h,q=>by unfold Own at q;exact rep_int.mpr q.1
 | .str _,w,A,h,q=>by unfold Own at q;exact rep_str.mpr q.1
 | .scr _,w,A,h,q=>by unfold Own at q;exact rep_scr.mpr q.1
 | .tup ds,w,A,h,q=>by
  obtain ⟨xs,rfl,q1⟩:=own_tup.mp q;exact rep_tup.mpr ⟨xs,rfl,OwnL.rep ds xs A h q1⟩
 | .lst ds,w,A,h,q=>by
  obtain ⟨l,xs,B,rfl,rfl,hm,q1⟩:=own_lst.mp q;exact rep_lst.mpr ⟨l,xs,rfl,h l List.mem_cons_self,hm,OwnL.rep ds xs B (λl hl=>h l (List.mem_cons_of_mem _ hl)) q1⟩
 | .dct ks ds,w,A,h,q=>by
  obtain ⟨l,xs,B,rfl,rfl,hm,q1⟩:=own_dct.mp q;exact rep_dct.mpr ⟨l,xs,rfl,h l List.mem_cons_self,hm,OwnL.rep ds xs B (λl hl=>h l (List.mem_cons_of_mem _ hl)) q1⟩
theorem OwnL.rep {m:Me}{R:Nat->Prop}:∀ (ds:List Dat) (xs:List Wd) (A:List Nat),(∀l∈A,R l)->OwnL m ds xs A->RepL R m ds xs
 | [],xs,A,h,q=>by rw[q.nil_inv.1];exact .nil
 | d::ds,xs,A,h,q=>by
  obtain ⟨x,r,B,C,rfl,rfl,a,b⟩:=q.cons_inv;exact .cons (Own.rep d x B (λl hl=>h l (List.mem_append_left _ hl)) a) (OwnL.rep ds r C (λl hl=>h l (List.mem_append_right _ hl)) b)
end
mutual
theorem Own.lt {m:Me}:∀ (d:Dat) (w:Wd) (A:List Nat),Own m d w A->∀l∈A,l < m.length
 | .non,w,A,q=>by unfold Own at q;rw[q.2];simp
 | .bl _,w,A,q=>by unfold Own at q;rw[q.2];simp
 | .int _,w,A,q=>by unfold Own at q;rw[q.2];simp
 | .str _,w,A,q=>by unfold Own at q;rw[q.2];simp
 | .scr _,w,A,q=>by unfold Own at q;rw[q.2];simp
 | .tup ds,w,A,q=>by
  obtain ⟨xs,rfl,q1⟩:=own_tup.mp q;exact OwnL.lt ds xs A q1
 | .lst ds,w,A,q=>by
  obtain ⟨l,xs,B,rfl,rfl,hm,q1⟩:=own_lst.mp q;intro k hk;rcases List.mem_cons.mp hk with rfl | hk
  .exact (List.getElem?_eq_some_iff.mp hm).1
  .exact OwnL.lt ds xs B q1 k hk
 | .dct ks ds,w,A,q=>by
  obtain ⟨l,xs,B,rfl,rfl,hm,q1⟩:=own_dct.mp q;intro k hk;rcases List.mem_cons.mp hk with rfl | hk
  .exact (List.getElem?_eq_some_iff.mp hm).1
  .exact OwnL.lt ds xs B q1 k hk
theorem OwnL.lt {m:Me}:∀ (ds:List Dat) (xs:List Wd) (A:List Nat),OwnL m ds xs A->∀l∈A,l < m.length
 | [],xs,A,q=>by rw[q.nil_inv.2];simp
 | d::ds,xs,A,q=>by
  obtain ⟨x,r,B,C,rfl,rfl,a,b⟩:=q.cons_inv;intro k hk;rcases List.mem_append.mp hk with hk | hk
  .exact Own.lt d x B a k hk
  .exact OwnL.lt ds r C b k hk
end
mutual
theorem Rep.flat {R:Nat->Prop}{m m':Me}:∀ (d:Dat) (w:Wd),flat d=true->Rep R m d w->Own m' d w []
 | .non,w,h,q=>by unfold Own;exact ⟨rep_non.mp q,rfl⟩
 | .bl _,w,h,q=>by unfold Own;exact ⟨rep_bl.mp q,rfl⟩
 | .int _,w,h,q=>by unfold Own;exact ⟨rep_int.mp q,rfl⟩
 | .str _,w,h,q=>by unfold Own;exact ⟨rep_str.mp q,rfl⟩
 | .scr _,w,h,q=>by unfold Own;exact ⟨rep_scr.mp q,rfl⟩
 | .tup ds,w,h,q=>by
  obtain ⟨xs,rfl,q1⟩:=rep_tup.mp q;exact own_tup.mpr ⟨xs,rfl,RepL.flat ds xs (by unfold Vl.flat at h;exact h) q1⟩
 | .lst ds,w,h,q=>by unfold Vl.flat at h;cases h
 | .dct ks ds,w,h,q=>by unfold Vl.flat at h;cases h
theorem RepL.flat {R:Nat->Prop}{m m':Me}:∀ (ds:List Dat) (xs:List Wd),flatL ds=true->RepL R m ds xs->OwnL m' ds xs []
 | [],xs,h,q=>by rw[q.nil_inv];exact .nil
 | d::ds,xs,h,q=>by
  obtain ⟨x,r,rfl,a,b⟩:=q.cons_inv;unfold flatL at h;rw[Bool.and_eq_true] at h;exact OwnL.cons (B:=[]) (C:=[]) (Rep.flat d x h.1 a) (RepL.flat ds r h.2 b)
end
def RepO (R:Nat->Prop)(m:Me)(lv:Lv)(d:Dat)(w:Wd)(A:List Nat):Prop:=match lv with
 | .no=>Rep R m d w/\A=[]
 | .top=>∃ds l xs,d=.lst ds/\w=.ref l/\A=[l]/\m[l]?=some (.lst xs)/\RepL R m ds xs
 | .full=>Own m d w A
theorem RepO.rep {R R':Nat->Prop}{m:Me}{lv:Lv}{d:Dat}{w:Wd}{A:List Nat}(h:∀l,R l->R' l)(k:∀l∈A,R' l)(q:RepO R m lv d w A):Rep R' m d w:=by
 cases lv with
 | no=>exact Rep.frame (λl o r z=>⟨h l r,z⟩) d w q.1
 | top =>
  obtain ⟨ds,l,xs,rfl,rfl,rfl,hm,a⟩:=q;exact rep_lst.mpr ⟨l,xs,rfl,k l (by simp),hm,RepL.frame (λl o r z=>⟨h l r,z⟩) ds xs a⟩
 | full=>exact Own.rep d w A k q
theorem RepO.frame {R R':Nat->Prop}{m m':Me}{lv:Lv}{d:Dat}{w:Wd}{A:List Nat}(h:∀ (l:Nat) o,R l->m[l]?=some o->R' l/\m'[l]?=some o)(k:∀l∈A,∀o,m[l]?=some o->m'[l]?=some o)(q:RepO R m lv d w A):RepO R' m' lv d w A:=by
 cases lv with
 | no=>exact ⟨Rep.frame h d w q.1,q.2⟩
 | top =>
  obtain ⟨ds,l,xs,rfl,rfl,rfl,hm,a⟩:=q;exact ⟨ds,l,xs,rfl,rfl,rfl,k l (by simp) _ hm,RepL.frame h ds xs a⟩
 | full=>exact Own.frame d w A k q
theorem RepO.lt {R:Nat->Prop}{m:Me}{lv:Lv}{d:Dat}{w:Wd}{A:List Nat}(q:RepO R m lv d w A):∀l∈A,l < m.length:=by
 cases lv with
 | no=>rw[q.2];simp
 | top =>
  obtain ⟨ds,l,xs,rfl,rfl,rfl,hm,a⟩:=q;intro k hk;rw[List.mem_singleton.mp hk];exact (List.getElem?_eq_some_iff.mp hm).1
 | full=>exact Own.lt d w A q
noncomputable def lvE (lev:Nat->Lv):Ex->Dat->Lv
 | .comp elt _ _,d=>if flat d then .full else match d with
  | .lst ds=>if ds.all (λx=>lvE lev elt x == .full) then .full else .top
  | _=>.no
 | .compP _ elt _ _ _,d=>if flat d then .full else match d with
  | .lst ds=>if ds.all (λx=>lvE lev elt x == .full) then .full else .top
  | _=>.no
 | .lst a,d=>if flat d then .full else match d with
  | .lst ds=>if lvE lev a (.tup ds) == .full then .full else .top
  | _=>.no
 | .tup a,d=>lvE lev a d
 | .pair a b,d=>if flat d then .full else match d with
  | .tup (x::ds)=>if lvE lev a x == .full && lvE lev b (.tup ds) == .full then .full else .no
  | _=>.no
 | .call k _,d=>if flat d then .full else lev k
 | .blt .list _,d=>if flat d then .full else match d with
  | .lst ds=>if flatL ds then .full else .top
  | _=>.no
 | .lrng _,d=>if flat d then .full else match d with
  | .lst ds=>if flatL ds then .full else .top
  | _=>.no
 | .bin _ _ _,d=>if flat d then .full else match d with
  | .lst ds=>if flatL ds then .full else .top
  | _=>.no
 | .dict0,d=>if flat d then .full else match d with
  | .dct _ []=>.full
  | _=>.no
 | _,d=>if flat d then .full else .no
@[simp] theorem ziS (lev:Nat->Lv)(d:Dat):lvE lev .dict0 d=if flat d then .full else match d with
  | .dct _ []=>.full
  | _=>.no:=rfl
@[simp] theorem zjp (lev:Nat->Lv)(a b:Ex)(d:Dat):lvE lev (.dget a b) d=if flat d then .full else .no:=rfl
@[simp] theorem wq (lev:Nat->Lv)(e i c:Ex)(d:Dat):lvE lev (.comp e i c) d=if flat d then .full else match d with
  | .lst ds=>if ds.all (λx=>lvE lev e x == .full) then .full else .top
  | _=>.no:=rfl
@[simp] theorem xl (lev:Nat->Lv)(k:Kd)(e a b c:Ex)(d:Dat):lvE lev (.compP k e a b c) d=if flat d then .full else match d with
  | .lst ds=>if ds.all (λx=>lvE lev e x == .full) then .full else .top
  | _=>.no:=rfl
@[simp] theorem zjC (lev:Nat->Lv)(a:Ex)(d:Dat):lvE lev (.lst a) d=if flat d then .full else match d with
  | .lst ds=>if lvE lev a (.tup ds) == .full then .full else .top
  | _=>.no:=rfl
@[simp] theorem zjD (lev:Nat->Lv)(a:Ex)(d:Dat):lvE lev (.tup a) d=lvE lev a d:=rfl
@[simp] theorem za7 (lev:Nat->Lv)(a b:Ex)(d:Dat):lvE lev (.pair a b) d=if flat d then .full else match d with
  | .tup (x::ds)=>if lvE lev a x == .full && lvE lev b (.tup ds) == .full then .full else .no
  | _=>.no:=rfl
@[simp] theorem gf (lev:Nat->Lv)(k:Nat)(a:Ex)(d:Dat):lvE lev (.call k a) d=if flat d then .full else lev k:=rfl
@[simp] theorem zjq (lev:Nat->Lv)(a:Ex)(d:Dat):lvE lev (.blt .list a) d=if flat d then .full else match d with
  | .lst ds=>if flatL ds then .full else .top
  | _=>.no:=rfl
@[simp] theorem zjr (lev:Nat->Lv)(a:Ex)(d:Dat):lvE lev (.lrng a) d=if flat d then .full else match d with
  | .lst ds=>if flatL ds then .full else .top
  | _=>.no:=rfl
@[simp] theorem zjE (lev:Nat->Lv)(op:Bo)(a b:Ex)(d:Dat):lvE lev (.bin op a b) d=if flat d then .full else match d with
  | .lst ds=>if flatL ds then .full else .top
  | _=>.no:=rfl
@[simp] theorem zjF (lev:Nat->Lv)(i:Nat)(d:Dat):lvE lev (.var i) d=if flat d then .full else .no:=rfl
@[simp] theorem zjG (lev:Nat->Lv)(w:Wd)(d:Dat):lvE lev (.lit w) d=if flat d then .full else .no:=rfl
@[simp] theorem zjH (lev:Nat->Lv)(a b:Ex)(d:Dat):lvE lev (.idx a b) d=if flat d then .full else .no:=rfl
@[simp] theorem zjI (lev:Nat->Lv)(a:Ex)(d:Dat):lvE lev (.neg a) d=if flat d then .full else .no:=rfl
@[simp] theorem zjJ (lev:Nat->Lv)(a:Ex)(d:Dat):lvE lev (.not a) d=if flat d then .full else .no:=rfl
@[simp] theorem zjK (lev:Nat->Lv)(a b:Ex)(d:Dat):lvE lev (.and a b) d=if flat d then .full else .no:=rfl
@[simp] theorem lv_or (lev:Nat->Lv)(a b:Ex)(d:Dat):lvE lev (.or a b) d=if flat d then .full else .no:=rfl
@[simp] theorem zjL (lev:Nat->Lv)(op:Co)(a b:Ex)(d:Dat):lvE lev (.cmp op a b) d=if flat d then .full else .no:=rfl
@[simp] theorem zjM (lev:Nat->Lv)(c a b:Ex)(d:Dat):lvE lev (.ife c a b) d=if flat d then .full else .no:=rfl
@[simp] theorem zjs (lev:Nat->Lv)(d:Dat):lvE lev (.unit) d=if flat d then .full else .no:=rfl
@[simp] theorem zjN (lev:Nat->Lv)(a b c:Ex)(d:Dat):lvE lev (.rng a b c) d=if flat d then .full else .no:=rfl
@[simp] theorem zjt (lev:Nat->Lv)(a:Ex)(d:Dat):lvE lev (.blt .len a) d=if flat d then .full else .no:=rfl
@[simp] theorem zju (lev:Nat->Lv)(a:Ex)(d:Dat):lvE lev (.blt .int a) d=if flat d then .full else .no:=rfl
@[simp] theorem ziT (lev:Nat->Lv)(a:Ex)(d:Dat):lvE lev (.blt .max2 a) d=if flat d then .full else .no:=rfl
def SimO (R:Nat->Prop)(m:Me)(lv:Dat->Lv)(r:Rz)(rd:Rd):Prop:=match rd with
 | .ok d=>∃w m' A,r=.ok w m'/\Le m m'/\RepO (λl=>Rf R m.length l/\l∉A) m' (lv d) d w A/\A.Nodup/\∀a∈A,m.length<=a
 | .exc c d=>∃w m',r=.exc c w m'/\Le m m'/\Rep (Rf R m.length) m' d w
 | .no=>True
noncomputable def we (lev:Nat->Lv)(k:Nat)(d:Dat):Lv:=if flat d then .full else lev k
def CallO (lev:Nat->Lv)(cl:Nat->List Wd->Me->Rz)(cd:Nat->List Dat->Rd):Prop:=∀ (k:Nat) (ds:List Dat) (ws:List Wd) (R:Nat->Prop) (m:Me),RepL R m ds ws->SimO R m (we lev k) (cl k ws m) (cd k ds)
theorem SimO.sim {R:Nat->Prop}{m:Me}{lv:Dat->Lv}{r:Rz}{rd:Rd}(h:SimO R m lv r rd):SimE R m r rd:=by
 cases rd with
 | ok d =>
  obtain ⟨w,m',A,rfl,l,q,_,hA⟩:=h;exact ⟨w,m',rfl,l,q.rep (λ_ z=>z.1) (λa z=>.inr (hA a z))⟩
 | exc c d=>exact h
 | no=>trivial
theorem CallO.r {lev:Nat->Lv}{cl:Nat->List Wd->Me->Rz}{cd:Nat->List Dat->Rd}(H:CallO lev cl cd):CallR cl cd:=λk ds ws R m q=>(H k ds ws R m q).sim
set_option tactic.hygienic true in
theorem SimE.own {R:Nat->Prop}{m:Me}{r:Rz}{rd:Rd}{lv:Dat->Lv}(h:SimE R m r rd)(hl:∀d,lv d=if flat d then .full else .no):SimO R m lv r rd:=by
 cases rd with
 | ok d =>
  obtain ⟨w,m',rfl,l,q⟩:=h;refine ⟨w,m',[],rfl,l,?_,List.nodup_nil,by simp⟩;rw[hl];split
  .next z=>exact q.flat d w z
  .exact ⟨Rep.frame (λl o r z=>⟨⟨r,by simp⟩,z⟩) d w q,rfl⟩
 | exc c d=>exact h
 | no=>trivial
theorem SimO.lift {R:Nat->Prop}{m m1:Me}{r:Rz}{rd:Rd}{lv:Dat->Lv}(h:Le m m1)(q:SimO (Rf R m.length) m1 lv r rd):SimO R m lv r rd:=by
 have hl:=h.len;cases rd with
 | ok d =>
  obtain ⟨w,m',A,rfl,k,z,nd,hA⟩:=q;exact ⟨w,m',A,rfl,h.trans k,z.frame (λl o r z=>⟨⟨by rcases r.1 with (r | r) | r;exact .inl r;exact .inr r;exact .inr (by lia),r.2⟩,z⟩) (λ_ _ _ z=>z),nd,λa ha=>by have:=hA a ha;lia⟩
 | exc c d=>exact SimE.lift (rd:=.exc c d) h q
 | no=>trivial
theorem SimE.bindO {R:Nat->Prop}{m:Me}{r:Rz}{rd:Rd}{f:Wd->Me->Rz}{g:Dat->Rd}{lv:Dat->Lv}(h:SimE R m r rd)
  (k:∀d w m',Le m m'->Rep (Rf R m.length) m' d w->SimO (Rf R m.length) m' lv (f w m') (g d)):SimO R m lv (r.bind f) (rd.bind g):=by
 cases rd with
 | ok d=>obtain ⟨w,m',rfl,l,z⟩:=h;exact SimO.lift l (k d w m' l z)
 | exc c d=>obtain ⟨w,m',rfl,l,z⟩:=h;exact ⟨w,m',rfl,l,z⟩
 | no=>trivial
theorem SimO.no {R:Nat->Prop}{m:Me}{r:Rz}{lv:Dat->Lv}:SimO R m lv r .no:=trivial
set_option tactic.hygienic true in
theorem SimO.new {R:Nat->Prop}{m:Me}{ds:List Dat}{xs:List Wd}{lv:Dat->Lv}(h:RepL R m ds xs)(hl:∀es,lv (.lst es)=if flatL es then .full else .top):SimO R m lv (alloc m xs) (newD ds):=by
 unfold newD alloc;rw[h.len];by_cases z:xs.length<=lim
 .rw[if_pos z,if_pos z];refine ⟨_,_,[m.length],rfl,Le.app m _,?_,by simp,by simp⟩;rw[hl];split
  .next f=>exact own_lst.mpr ⟨_,xs,[],rfl,rfl,by simp,h.flat ds xs f⟩
  .refine ⟨ds,_,xs,rfl,rfl,rfl,by simp,RepL.frame (λl o r z=>⟨⟨.inl r,?_⟩,Le.app m _ l o z⟩) ds xs h⟩;have:=(List.getElem?_eq_some_iff.mp z).1;simp;lia
 .rw[if_neg z,if_neg z];exact SimO.no
theorem zj8 {R:Nat->Prop}{m0 m:Me}{ds:List Dat}{xs:List Wd}{A:List Nat}{lv:Dat->Lv}(hm:Le m0 m)(h:OwnL m ds xs A)(nd:A.Nodup)(hA:∀a∈A,m0.length<=a)(hl:lv (.lst ds)=.full)(hlen:ds.length=xs.length):SimO R m0 lv (alloc m xs) (newD ds):=by
 unfold newD alloc;rw[hlen];have hlt:=h.lt;by_cases z:xs.length<=lim
 .rw[if_pos z,if_pos z];refine ⟨_,_,m.length::A,rfl,hm.trans (Le.app m _),?_,List.nodup_cons.mpr ⟨λq=>by have:=hlt _ q;lia,nd⟩,?_⟩
  .rw[hl];exact own_lst.mpr ⟨_,xs,A,rfl,rfl,by simp,OwnL.frame ds xs A (λl hl o q=>Le.app m _ l o q) h⟩
  .intro a ha;rcases List.mem_cons.mp ha with rfl | ha
   .exact hm.len
   .exact hA a ha
 .rw[if_neg z,if_neg z];exact SimO.no
theorem OwnL.len {m:Me}:∀ {ds:List Dat}{xs:List Wd}{A:List Nat},OwnL m ds xs A->ds.length=xs.length
 | [],xs,A,q=>by rw[q.nil_inv.1];rfl
 | d::ds,xs,A,q=>by
  obtain ⟨x,r,B,C,rfl,rfl,a,b⟩:=q.cons_inv;simp[OwnL.len b]
def CompO (R:Nat->Prop)(m:Me)(lv:Dat->Lv)(r:Rz)(rd:Rd):Prop:=match rd with
 | .ok d=>∃out m2 outx,d=.lst out/\out.length<=lim/\r=alloc m2 outx/\Le m m2/\RepL (Rf R m.length) m2 out outx/\((∀y∈out,lv y=.full)->∃A,OwnL m2 out outx A/\A.Nodup/\∀a∈A,m.length<=a)
 | .exc c d=>∃w m',r=.exc c w m'/\Le m m'/\Rep (Rf R m.length) m' d w
 | .no=>True
def AccO (m0 m:Me)(lv:Dat->Lv)(acc:List Dat)(acx:List Wd):Prop:=(∀y∈acc,lv y=.full)->∃A,OwnL m acc acx A/\A.Nodup/\∀a∈A,m0.length<=a
theorem AccO.up {m0 m m':Me}{lv:Dat->Lv}{acc:List Dat}{acx:List Wd}(h:Le m m')(q:AccO m0 m lv acc acx):AccO m0 m' lv acc acx:=λz=>by
 obtain ⟨A,a,b,c⟩:=q z;exact ⟨A,OwnL.frame acc acx A (λl _ o k=>h l o k) a,b,c⟩
theorem AccO.push {m0 m m':Me}{lv:Dat->Lv}{acc:List Dat}{acx:List Wd}{d:Dat}{w:Wd}{B:List Nat}(hm:Le m0 m)(h:Le m m')(q:AccO m0 m lv acc acx)(z:lv d=.full->Own m' d w B)(nd:B.Nodup)(hB:∀b∈B,m.length<=b):AccO m0 m' lv (acc++[d]) (acx++[w]):=λf=>by
 obtain ⟨A,a,b,c⟩:=q λy hy=>f y (List.mem_append_left _ hy);refine ⟨A++(B++[]),(OwnL.frame acc acx A (λl _ o k=>h l o k) a).app (.cons (z (f d (by simp))) .nil),?_,?_⟩
 .rw[List.append_nil];refine List.nodup_append.mpr ⟨b,nd,λx hx y hy e=>?_⟩;have:=OwnL.lt acc acx A a x hx;have:=hB y hy;lia
 .intro x hx;rw[List.append_nil] at hx;rcases List.mem_append.mp hx with hx | hx
  .exact c x hx
  .have:=hB x hx;have:=hm.len;lia
theorem wr {c e:Wd->Me->Rz}{cd ed:Dat->Rd}{R:Nat->Prop}{m0:Me}{lv:Dat->Lv}
  (hc:∀ (R':Nat->Prop) m d x,(∀l,R l->R' l)->Le m0 m->Rep R' m d x->SimE R' m (c x m) (cd d)) (he:∀ (R':Nat->Prop) m d x,(∀l,R l->R' l)->Le m0 m->Rep R' m d x->SimO R' m lv (e x m) (ed d)) :
  ∀ (ds:List Dat) (xs:List Wd) (acc:List Dat) (acx:List Wd) (m:Me),Le m0 m->RepL (Rf R m0.length) m ds xs->RepL (Rf R m0.length) m acc acx->AccO m0 m lv acc acx->CompO R m0 lv (y8 c e xs acx m) (zR cd ed ds acc)
 | [],xs,acc,acx,m,hm,a,b,f=>by
  rw[a.nil_inv];unfold y8 zR newD;by_cases z:acc.length<=lim
  .rw[if_pos z];exact ⟨acc,m,acx,rfl,z,rfl,hm,b,f⟩
  .rw[if_neg z];trivial
 | d::ds,xs,acc,acx,m,hm,a,b,f=>by
  obtain ⟨x,r,rfl,p,q⟩:=a.cons_inv;have hl:=hm.len;have sh:∀ {n:Nat}{m':Me}{d:Dat}{w:Wd},m0.length<=n->Rep (Rf (Rf R m0.length) n) m' d w->Rep (Rf R m0.length) m' d w:=λhn k=>Rep.frame (λl o r z=>⟨by rcases r with (r | r) | r;exact .inl r;exact .inr r;exact .inr (by lia),z⟩) _ _ k;unfold y8 zR;have h1:=hc _ m d x (λl z=>.inl z) hm p;cases e1:cd d with
  | no=>trivial
  | exc k t=>rw[e1] at h1;obtain ⟨w,m',h1,l1,k1⟩:=h1;rw[h1];exact ⟨w,m',rfl,hm.trans l1,sh hl k1⟩
  | ok t =>
   rw[e1] at h1;obtain ⟨w,m1,h1,l1,k1⟩:=h1;rw[h1];simp only[Rz.bind,Rd.bind];cases t with
   | bl t =>
    rw[rep_bl.mp k1];have fr:∀ {ds:List Dat}{xs:List Wd},RepL (Rf R m0.length) m ds xs->RepL (Rf R m0.length) m1 ds xs:=λk=>RepL.frame (λl o r z=>⟨r,l1 l o z⟩) _ _ k;cases t with
    | false=>exact wr hc he ds r acc acx m1 (hm.trans l1) (fr q) (fr b) (f.up l1)
    | true =>
     have h2:=he _ m1 d x (λl z=>.inl z) (hm.trans l1) (Rep.frame (λl o r z=>⟨r,l1 l o z⟩) _ _ p);have hl1:=(hm.trans l1).len;simp only;cases e2:ed d with
     | no=>trivial
     | exc k t=>rw[e2] at h2;obtain ⟨w,m',h2,l2,k2⟩:=h2;rw[h2];exact ⟨w,m',rfl,(hm.trans l1).trans l2,sh hl1 k2⟩
     | ok y =>
      rw[e2] at h2;have h3:=h2.sim;obtain ⟨w,m2,B,h2,l2,k2,nd,hB⟩:=h2;obtain ⟨w',m2',h3,_,k3⟩:=h3;rw[h2] at h3 ⊢;cases h3;simp only[Rz.bind,Rd.bind,b.len];split
      .refine wr hc he ds r _ _ m2 ((hm.trans l1).trans l2) (RepL.frame (λl o r z=>⟨r,l2 l o z⟩) _ _ (fr q)) ((RepL.frame (λl o r z=>⟨r,l2 l o z⟩) _ _ (fr b)).app (.cons (sh hl1 k3) .nil)) ((f.up l1).push (hm.trans l1) l2 ?_ nd hB);intro z;rw[z] at k2;exact k2
      .trivial
   | _=>trivial
theorem vG {c e:Wd->Me->Rz}{cd ed:Dat->Rd}{R:Nat->Prop}{m0:Me}{lv:Dat->Lv}{l:Nat}{xs0:List Wd}(hx0:m0[l]?=some (.lst xs0))
  (hc:∀ (R':Nat->Prop) m d x,(∀l,R l->R' l)->Le m0 m->Rep R' m d x->SimE R' m (c x m) (cd d)) (he:∀ (R':Nat->Prop) m d x,(∀l,R l->R' l)->Le m0 m->Rep R' m d x->SimO R' m lv (e x m) (ed d)) :
  ∀ (ds:List Dat) (i k:Nat) (acc:List Dat) (acx:List Wd) (m:Me),Le m0 m->RepL (Rf R m0.length) m ds (xs0.drop i)->i+ds.length=xs0.length->ds.length < k->RepL (Rf R m0.length) m acc acx->AccO m0 m lv acc acx->CompO R m0 lv (y9 c e l k i acx m) (zR cd ed ds acc)
 | [],i,0,acc,acx,m,hm,a,hi,hk,b,f=>by simp at hk
 | d::ds,i,0,acc,acx,m,hm,a,hi,hk,b,f=>by simp at hk
 | [],i,k+1,acc,acx,m,hm,a,hi,hk,b,f=>by
  unfold y9 zR zr newD;rw[hm l _ hx0];simp only;rw[List.getElem?_eq_none (by simp at hi;lia)];by_cases z:acc.length<=lim
  .rw[if_pos z];exact ⟨acc,m,acx,rfl,z,rfl,hm,b,f⟩
  .rw[if_neg z];trivial
 | d::ds,i,k+1,acc,acx,m,hm,a,hi,hk,b,f=>by
  obtain ⟨x,r,e0,p,q⟩:=a.cons_inv;have hx:xs0[i]?=some x:=by
   have:(xs0.drop i)[0]?=some x:=by rw[e0];rfl
   simpa using this
  have hr:r=xs0.drop (i+1):=by
   have:(xs0.drop i).drop 1=r:=by rw[e0];rfl
   rw[<- this,List.drop_drop]
  rw[hr] at q;have hi':i+1+ds.length=xs0.length:=by simp at hi;lia
  have hk':ds.length < k:=by simp at hk;lia
  have hl:=hm.len;have sh:∀ {n:Nat}{m':Me}{d:Dat}{w:Wd},m0.length<=n->Rep (Rf (Rf R m0.length) n) m' d w->Rep (Rf R m0.length) m' d w:=λhn k=>Rep.frame (λl o r z=>⟨by rcases r with (r | r) | r;exact .inl r;exact .inr r;exact .inr (by lia),z⟩) _ _ k;unfold y9 zR zr;rw[hm l _ hx0];simp only;rw[hx];simp only;have h1:=hc _ m d x (λl z=>.inl z) hm p;cases e1:cd d with
  | no=>trivial
  | exc k t=>rw[e1] at h1;obtain ⟨w,m',h1,l1,k1⟩:=h1;rw[h1];exact ⟨w,m',rfl,hm.trans l1,sh hl k1⟩
  | ok t =>
   rw[e1] at h1;obtain ⟨w,m1,h1,l1,k1⟩:=h1;rw[h1];simp only[Rz.bind,Rd.bind];cases t with
   | bl t =>
    rw[rep_bl.mp k1];have fr:∀ {ds:List Dat}{xs:List Wd},RepL (Rf R m0.length) m ds xs->RepL (Rf R m0.length) m1 ds xs:=λk=>RepL.frame (λl o r z=>⟨r,l1 l o z⟩) _ _ k;cases t with
    | false=>exact vG hx0 hc he ds (i+1) k acc acx m1 (hm.trans l1) (fr q) hi' hk' (fr b) (f.up l1)
    | true =>
     have h2:=he _ m1 d x (λl z=>.inl z) (hm.trans l1) (Rep.frame (λl o r z=>⟨r,l1 l o z⟩) _ _ p);have hl1:=(hm.trans l1).len;simp only;cases e2:ed d with
     | no=>trivial
     | exc k t=>rw[e2] at h2;obtain ⟨w,m',h2,l2,k2⟩:=h2;rw[h2];exact ⟨w,m',rfl,(hm.trans l1).trans l2,sh hl1 k2⟩
     | ok y =>
      rw[e2] at h2;have h3:=h2.sim;obtain ⟨w,m2,B,h2,l2,k2,nd,hB⟩:=h2;obtain ⟨w',m2',h3,_,k3⟩:=h3;rw[h2] at h3 ⊢;cases h3;simp only[Rz.bind,Rd.bind,b.len];split
      .refine vG hx0 hc he ds (i+1) k _ _ m2 ((hm.trans l1).trans l2) (RepL.frame (λl o r z=>⟨r,l2 l o z⟩) _ _ (fr q)) hi' hk' ((RepL.frame (λl o r z=>⟨r,l2 l o z⟩) _ _ (fr b)).app (.cons (sh hl1 k3) .nil)) ((f.up l1).push (hm.trans l1) l2 ?_ nd hB);intro z;rw[z] at k2;exact k2
      .trivial
   | _=>trivial
theorem vH {c e:Wd->Wd->Me->Rz}{cd ed:Dat×Dat->Rd}{R:Nat->Prop}{m0:Me}{lv:Dat->Lv}{ps:List (Dat×Dat)}{g:Nat->Me->Option (Option (Wd×Wd))}(hg:zdb (Rf R m0.length) m0 ps g)
  (hc:∀ (R':Nat->Prop) m p a b,(∀l,R l->R' l)->Le m0 m->Rep R' m p.1 a->Rep R' m p.2 b->SimE R' m (c a b m) (cd p)) (he:∀ (R':Nat->Prop) m p a b,(∀l,R l->R' l)->Le m0 m->Rep R' m p.1 a->Rep R' m p.2 b->SimO R' m lv (e a b m) (ed p)) :
  ∀ (ds:List (Dat×Dat)) (i k:Nat) (acc:List Dat) (acx:List Wd) (m:Me),Le m0 m->ds=ps.drop i->i+ds.length=ps.length->ds.length < k->RepL (Rf R m0.length) m acc acx->AccO m0 m lv acc acx->CompO R m0 lv (zY c e g k i acx m) (zR cd ed ds acc)
 | [],i,0,acc,acx,m,hm,a,hi,hk,b,f=>by simp at hk
 | d::ds,i,0,acc,acx,m,hm,a,hi,hk,b,f=>by simp at hk
 | [],i,k+1,acc,acx,m,hm,a,hi,hk,b,f=>by
  unfold zY zR newD;rw[(hg m hm).2 i (by simp at hi;lia)];simp only;by_cases z:acc.length<=lim
  .rw[if_pos z];exact ⟨acc,m,acx,rfl,z,rfl,hm,b,f⟩
  .rw[if_neg z];trivial
 | d::ds,i,k+1,acc,acx,m,hm,a,hi,hk,b,f=>by
  have hx:ps[i]?=some d:=by
   have:(ps.drop i)[0]?=some d:=by rw[<- a];rfl
   simpa using this
  have hr:ds=ps.drop (i+1):=by
   have:(ps.drop i).drop 1=ds:=by rw[<- a];rfl
   rw[<- this,List.drop_drop]
  have hi':i+1+ds.length=ps.length:=by simp at hi;lia
  have hk':ds.length < k:=by simp at hk;lia
  obtain ⟨u,v,e0,p,q⟩:=(hg m hm).1 i d hx;have hl:=hm.len;have sh:∀ {n:Nat}{m':Me}{d:Dat}{w:Wd},m0.length<=n->Rep (Rf (Rf R m0.length) n) m' d w->Rep (Rf R m0.length) m' d w:=λhn k=>Rep.frame (λl o r z=>⟨by rcases r with (r | r) | r;exact .inl r;exact .inr r;exact .inr (by lia),z⟩) _ _ k;unfold zY zR;rw[e0];simp only;have h1:=hc _ m d u v (λl z=>.inl z) hm p q;cases e1:cd d with
  | no=>trivial
  | exc k t=>rw[e1] at h1;obtain ⟨w,m',h1,l1,k1⟩:=h1;rw[h1];exact ⟨w,m',rfl,hm.trans l1,sh hl k1⟩
  | ok t =>
   rw[e1] at h1;obtain ⟨w,m1,h1,l1,k1⟩:=h1;rw[h1];simp only[Rz.bind,Rd.bind];cases t with
   | bl t =>
    rw[rep_bl.mp k1];have fr:∀ {ds:List Dat}{xs:List Wd},RepL (Rf R m0.length) m ds xs->RepL (Rf R m0.length) m1 ds xs:=λk=>RepL.frame (λl o r z=>⟨r,l1 l o z⟩) _ _ k;cases t with
    | false=>exact vH hg hc he ds (i+1) k acc acx m1 (hm.trans l1) hr hi' hk' (fr b) (f.up l1)
    | true =>
     have h2:=he _ m1 d u v (λl z=>.inl z) (hm.trans l1) (Rep.frame (λl o r z=>⟨r,l1 l o z⟩) _ _ p) (Rep.frame (λl o r z=>⟨r,l1 l o z⟩) _ _ q);have hl1:=(hm.trans l1).len;simp only;cases e2:ed d with
     | no=>trivial
     | exc k t=>rw[e2] at h2;obtain ⟨w,m',h2,l2,k2⟩:=h2;rw[h2];exact ⟨w,m',rfl,(hm.trans l1).trans l2,sh hl1 k2⟩
     | ok y =>
      rw[e2] at h2;have h3:=h2.sim;obtain ⟨w,m2,B,h2,l2,k2,nd,hB⟩:=h2;obtain ⟨w',m2',h3,_,k3⟩:=h3;rw[h2] at h3 ⊢;cases h3;simp only[Rz.bind,Rd.bind,b.len];split
      .refine vH hg hc he ds (i+1) k _ _ m2 ((hm.trans l1).trans l2) hr hi' hk' ((RepL.frame (λl o r z=>⟨r,l2 l o z⟩) _ _ (fr b)).app (.cons (sh hl1 k3) .nil)) ((f.up l1).push (hm.trans l1) l2 ?_ nd hB);intro z;rw[z] at k2;exact k2
      .trivial
   | _=>trivial
theorem CompO.sim {R:Nat->Prop}{m:Me}{lv lw:Dat->Lv}{r:Rz}{rd:Rd}(h:CompO R m lv r rd)(hl:∀ds,lw (.lst ds)=if ds.all (λx=>lv x == .full) then .full else .top):SimO R m lw r rd:=by
 cases rd with
 | no=>trivial
 | exc c d=>exact h
 | ok d =>
  obtain ⟨out,m2,outx,rfl,hlen,rfl,l2,k2,own⟩:=h;have e:=k2.len;cases z:out.all (λx=>lv x == .full) with
  | true =>
   obtain ⟨A,a,b,c⟩:=own λy hy=>by simpa using List.all_eq_true.mp z y hy
   have:=zj8 (R:=R) (lv:=lw) l2 a b c (by rw[hl,z];rfl) e;unfold newD at this;rw[if_pos hlen] at this;exact this
  | false =>
   unfold alloc;rw[<- e,if_pos hlen];have ll:=l2.len;refine ⟨_,_,[m2.length],rfl,l2.trans (Le.app m2 _),?_,by simp,by simp;exact ll⟩;rw[hl,z];refine ⟨out,_,outx,rfl,rfl,rfl,by simp,RepL.frame (λl o r z=>⟨⟨r,?_⟩,Le.app m2 _ l o z⟩) out outx k2⟩;have:=(List.getElem?_eq_some_iff.mp z).1;simp;lia
theorem yu (lev:Nat->Lv):∀ (e:Ex) (d:Dat),flat d=true->lvE lev e d=.full
 | .tup a,d,h=>yu lev a d h
 | .comp _ _ _,d,h=>if_pos h
 | .compP _ _ _ _ _,d,h=>if_pos h
 | .lst _,d,h=>if_pos h
 | .pair _ _,d,h=>if_pos h
 | .call _ _,d,h=>if_pos h
 | .blt b _,d,h=>by cases b <;> exact if_pos h
 | .lrng _,d,h=>if_pos h
 | .bin _ _ _,d,h=>if_pos h
 | .var _,d,h=>if_pos h
 | .lit _,d,h=>if_pos h
 | .neg _,d,h=>if_pos h
 | .not _,d,h=>if_pos h
 | .and _ _,d,h=>if_pos h
 | .or _ _,d,h=>if_pos h
 | .cmp _ _ _,d,h=>if_pos h
 | .chain _ _ _ _ _,d,h=>if_pos h
 | .ife _ _ _,d,h=>if_pos h
 | .unit,d,h=>if_pos h
 | .dict0,d,h=>if_pos h
 | .dget _ _,d,h=>if_pos h
 | .idx _ _,d,h=>if_pos h
 | .meth _ _ _,d,h=>if_pos h
 | .rng _ _ _,d,h=>if_pos h
theorem SimO.newTop {R:Nat->Prop}{m0 m:Me}{ds:List Dat}{xs:List Wd}{lv:Dat->Lv}(hm:Le m0 m)(h:RepL (Rf R m0.length) m ds xs)(hl:lv (.lst ds)=.top):SimO R m0 lv (alloc m xs) (newD ds):=by
 unfold newD alloc;rw[h.len];by_cases z:xs.length<=lim
 .rw[if_pos z,if_pos z];refine ⟨_,_,[m.length],rfl,hm.trans (Le.app m _),?_,by simp,by simp;exact hm.len⟩;rw[hl];refine ⟨ds,_,xs,rfl,rfl,rfl,by simp,RepL.frame (λl o r z=>⟨⟨r,?_⟩,Le.app m _ l o z⟩) ds xs h⟩;have:=(List.getElem?_eq_some_iff.mp z).1;simp;lia
 .rw[if_neg z,if_neg z];exact SimO.no
set_option tactic.hygienic true in
theorem zeQ {R:Nat->Prop}{m:Me}{d e:Dat}{x y:Wd}{lv:Dat->Lv}(op:Bo)(hl:∀d,lv d=if flat d then .full else match d with | .lst ds=>if flatL ds then .full else .top | _=>.no)(a:Rep R m d x)(b:Rep R m e y):SimO R m lv (bop op x y m) (zI op d e):=by
 have hn:∀es,lv (.lst es)=if flatL es then .full else .top:=λes=>by rw[hl];simp[flat]
 have hs:=j9 op a b;cases d with
 | lst ds =>
  obtain ⟨l,xs,rfl,_,hm,a1⟩:=rep_lst.mp a;cases e with
  | lst es =>
   obtain ⟨l',ys,rfl,_,hk,b1⟩:=rep_lst.mp b;cases op <;> first | exact SimO.no | skip
   simp only[bop,zI,hm,hk];exact SimO.new (a1.app b1) hn
  | int k =>
   rw[rep_int.mp b];cases op <;> first | exact SimO.no | skip
   simp only[bop,zI,hm];by_cases z:-(lim:Int)<=k/\k<=(lim:Int)
   .rw[if_pos z,if_pos z];exact SimO.new (a1.rep _) hn
   .rw[if_neg z,if_neg z];exact SimO.no
  | _=>exact SimO.no
 | int i =>
  cases e with
  | int j =>
   have hi:∀r:Rd,SimE R m (bop op x y m) r->(∀d,r=.ok d->flat d=true)->SimO R m lv (bop op x y m) r:=by
    intro r h f;cases r with
    | ok d =>
     obtain ⟨w,m',h,l,k⟩:=h;refine ⟨w,m',[],h,l,?_,List.nodup_nil,by simp⟩;rw[hl,if_pos (f d rfl)];exact k.flat d w (f d rfl)
    | exc c d=>exact h
    | no=>trivial
   refine hi _ hs λd h=>?_;cases op <;> simp only[zI] at h
   .cases h;rfl
   .cases h;rfl
   all_goals (split at h <;> (cases h;try rfl))
  | _=>exact SimO.no
 | tup ds =>
  obtain ⟨xs,rfl,a1⟩:=rep_tup.mp a;cases e with
  | tup es =>
   obtain ⟨ys,rfl,b1⟩:=rep_tup.mp b;cases op <;> first | exact SimO.no | skip
   simp only[zI] at hs ⊢;split at hs
   .next z =>
    rw[if_pos z];obtain ⟨w,m',h,l,k⟩:=hs;refine ⟨w,m',[],h,l,?_,List.nodup_nil,by simp⟩;rw[hl];split
    .next f=>exact k.flat _ w f
    .exact ⟨Rep.frame (λl o r z=>⟨⟨r,by simp⟩,z⟩) _ w k,rfl⟩
   .next z=>rw[if_neg z];exact SimO.no
  | _=>exact SimO.no
 | _=>exact SimO.no
set_option tactic.hygienic true in
theorem xC {lev:Nat->Lv}{cl:Nat->List Wd->Me->Rz}{cd:Nat->List Dat->Rd}(H:CallO lev cl cd):∀ (e:Ex) (R:Nat->Prop) (m:Me) (de:DEn) (env:En),EnvR R m (zp e) de env->SimO R m (lvE lev e) (evE cl e env m) (evD cd e de)
 | .call k a,R,m,de,env,q=>by
  have e:lvE lev (.call k a)=we lev k:=by funext d;simp[we]
  rw[e];refine (zf H.r a R m de env q).bindO λd w m1 l1 k1=>?_;exact H k _ _ _ m1 (yB k1)
 | .bin op a b,R,m,de,env,q=>by
  refine (zf H.r a R m de env q.left).bindO λd w m1 l1 k1=>?_;refine (zf H.r b _ m1 de env (q.right.up (λ_=>.inl) l1)).bindO λd2 w2 m2 l2 k2=>?_;exact zeQ op (λd=>by cases d <;> rfl) (k1.up _ l2) k2
 | .lrng a,R,m,de,env,q=>by
  refine (zf H.r a R m de env q).bindO λd w m1 l1 k1=>?_;cases d with
  | int j =>
   rw[rep_int.mp k1];simp only;split
   .exact SimO.new (w6 1 _ 0) (λes=>by simp[flat])
   .exact SimO.no
  | _=>exact SimO.no
 | .blt b a,R,m,de,env,q=>by
  by_cases hb:b=.list
  .subst hb;refine (zf H.r a R m de env q).bindO λd w m1 l1 k1=>?_;have k2:=yB k1;simp only[xx];split
   .next x hx =>
    rw[hx] at k2;obtain ⟨x',r,e0,p,q0⟩:=k2.cons_inv;rw[e0,q0.nil_inv];split
    .next z=>obtain ⟨ys,h,q⟩:=w5 p z;simp only[qT,h];exact SimO.new q (λes=>by simp[flat])
    .exact SimO.no
   .exact SimO.no
  .exact (zf H.r (.blt b a) R m de env q).own λd=>by cases b <;> first | exact absurd rfl hb | rfl
 | .lst a,R,m,de,env,q=>by
  have ih:=xC H a R m de env q;show SimO R m _ ((evE cl a env m).bind λx m1=>alloc m1 (zn x)) ((evD cd a de).bind λx=>newD (zL x));cases ea:evD cd a de with
  | no=>trivial
  | exc c d=>rw[ea] at ih;obtain ⟨w,m',h,l,k⟩:=ih;rw[h];exact ⟨w,m',rfl,l,k⟩
  | ok d =>
   rw[ea] at ih;have hs:=ih.sim;obtain ⟨w,m1,A,h,l,k,nd,hA⟩:=ih;obtain ⟨w',m1',h',_,ks⟩:=hs;rw[h] at h';cases h';rw[h];simp only[Rz.bind,Rd.bind];have ka:=yB ks;cases z:lvE lev a (.tup (zL d)) == .full with
   | false=>exact SimO.newTop l ka (by simp[flat,z])
   | true =>
    have z':lvE lev a (.tup (zL d))=.full:=by simpa using z
    have own:∃B,OwnL m1 (zL d) (zn w) B/\B.Nodup/\∀b∈B,m.length<=b:=by
     cases d with
     | tup ds =>
      rw[show lvE lev a (.tup ds)=.full from z'] at k;obtain ⟨xs,rfl,k1⟩:=own_tup.mp k;exact ⟨A,k1,nd,hA⟩
     | _=>refine ⟨[],?_,List.nodup_nil,by simp⟩;exact ka.flat _ _ rfl
    obtain ⟨B,o,nb,hB⟩:=own;exact zj8 l o nb hB (by simp[flat,z]) ka.len
 | .tup a,R,m,de,env,q=>by
  have ih:=xC H a R m de env q;have el:lvE lev (.tup a)=lvE lev a:=by funext d;simp
  rw[el];show SimO R m _ ((evE cl a env m).bind λx m1=>if (zn x).length<=lim then .ok (.tup (zn x)) m1 else .no) ((evD cd a de).bind λx=>if (zL x).length<=lim then .ok (.tup (zL x)) else .no);cases ea:evD cd a de with
  | no=>trivial
  | exc c d=>rw[ea] at ih;obtain ⟨w,m',h,l,k⟩:=ih;rw[h];exact ⟨w,m',rfl,l,k⟩
  | ok d =>
   rw[ea] at ih;have hs:=ih.sim;obtain ⟨w,m1,A,h,l,k,nd,hA⟩:=ih;obtain ⟨w',m1',h',_,ks⟩:=hs;rw[h] at h';cases h';rw[h];have ka:=yB ks;simp only[Rz.bind,Rd.bind,ka.len];split
   .cases d with
    | tup ds =>
     obtain ⟨xs,rfl,_⟩:=rep_tup.mp ks;exact ⟨_,m1,A,rfl,l,k,nd,hA⟩
    | _ =>
     refine ⟨_,m1,[],rfl,l,?_,List.nodup_nil,by simp⟩;rw[yu lev a _ (by rfl)];exact own_tup.mpr ⟨_,rfl,ka.flat _ _ rfl⟩
   .trivial
 | .pair a b,R,m,de,env,q=>by
  have iha:=xC H a R m de env q.left;show SimO R m _ ((evE cl a env m).bind λx m1=>(evE cl b env m1).bind λy m2=>.ok (.tup (x::zn y)) m2) ((evD cd a de).bind λx=>(evD cd b de).bind λy=>.ok (.tup (x::zL y)));cases ea:evD cd a de with
  | no=>trivial
  | exc c d=>rw[ea] at iha;obtain ⟨w,m',h,l,k⟩:=iha;rw[h];exact ⟨w,m',rfl,l,k⟩
  | ok d =>
   rw[ea] at iha;have hs:=iha.sim;obtain ⟨w,m1,A,h,l,k,nd,hA⟩:=iha;obtain ⟨w',m1',h',_,ks⟩:=hs;rw[h] at h';cases h';rw[h];simp only[Rz.bind,Rd.bind];have ihb:=xC H b _ m1 de env (q.right.up (R':=Rf R m.length) (λ_=>.inl) l);cases eb:evD cd b de with
   | no=>trivial
   | exc c d=>rw[eb] at ihb;obtain ⟨w,m',h,l2,k⟩:=ihb;rw[h];exact SimE.lift (rd:=.exc c d) l ⟨w,m',rfl,l2,k⟩
   | ok d2 =>
    rw[eb] at ihb;have hs2:=ihb.sim;obtain ⟨w2,m2,A2,h2,l2,k2,nd2,hA2⟩:=ihb;obtain ⟨w2',m2',h2',_,ks2⟩:=hs2;rw[h2] at h2';cases h2';rw[h2];simp only;have ka:=yB ks2;have hl1:=l.len;cases z:(lvE lev a d == .full && lvE lev b (.tup (zL d2)) == .full) with
    | false =>
     have:SimE R m (.ok (.tup (w::zn w2)) m2) (.ok (.tup (d::zL d2))) :=
      SimE.lift l (SimE.lift l2 (zj7 (rep_tup.mpr ⟨_,rfl,.cons (ks.up _ l2) ka⟩)))
     obtain ⟨w3,m3,h3,l3,k3⟩:=this;refine ⟨w3,m3,[],h3,l3,?_,List.nodup_nil,by simp⟩;by_cases f:flat (.tup (d::zL d2))=true
     .rw[yu lev _ _ f];exact k3.flat _ w3 f
     .have:lvE lev (.pair a b) (.tup (d::zL d2))=.no:=by
       rw[za7,if_neg f];simp only[z];rfl
      rw[this];exact ⟨Rep.frame (λl o r z=>⟨⟨r,by simp⟩,z⟩) _ w3 k3,rfl⟩
    | true =>
     rw[Bool.and_eq_true] at z;have z1:lvE lev a d=.full:=by simpa using z.1
     have z2:lvE lev b (.tup (zL d2))=.full:=by simpa using z.2
     rw[z1] at k;have own:∃B,OwnL m2 (zL d2) (zn w2) B/\B.Nodup/\∀b∈B,m1.length<=b:=by
      cases d2 with
      | tup ds =>
       rw[show lvE lev b (.tup ds)=.full from z2] at k2;obtain ⟨xs,rfl,k3⟩:=own_tup.mp k2;exact ⟨A2,k3,nd2,hA2⟩
      | _=>refine ⟨[],?_,List.nodup_nil,by simp⟩;exact ka.flat _ _ rfl
     obtain ⟨B,o,nb,hB⟩:=own;refine ⟨_,m2,A++B,rfl,l.trans l2,?_,?_,?_⟩
     .have:lvE lev (.pair a b) (.tup (d::zL d2))=.full:=by
       rw[za7];simp only[z1,z2];simp
      rw[this];exact own_tup.mpr ⟨_,rfl,.cons (Own.frame d w A (λx _ o q=>l2 x o q) k) o⟩
     .refine List.nodup_append.mpr ⟨nd,nb,λx hx y hy e=>?_⟩;have:=Own.lt d w A k x hx;have:=hB y hy;lia
     .intro x hx;rcases List.mem_append.mp hx with hx | hx
      .exact hA x hx
      .have:=hB x hx;lia
 | .comp elt it cond,R,m,de,env,q=>by
  refine (zf H.r it R m de env q.left).bindO λd w m1 l1 k1=>?_;have hc:∀ (R':Nat->Prop) m' d x,(∀l,Rf R m.length l->R' l)->Le m1 m'->Rep R' m' d x->SimE R' m' (evE cl cond (env++[some x]) m') (evD cd cond (de++[some d])) :=
   λR' m' d x hR l k=>zf H.r cond R' m' _ _ ((q.right.right.up (λl h=>hR l (.inl h)) (l1.trans l)).push k)
  have he:∀ (R':Nat->Prop) m' d x,(∀l,Rf R m.length l->R' l)->Le m1 m'->Rep R' m' d x->SimO R' m' (lvE lev elt) (evE cl elt (env++[some x]) m') (evD cd elt (de++[some d])) :=
   λR' m' d x hR l k=>xC H elt R' m' _ _ ((q.right.left.up (λl h=>hR l (.inl h)) (l1.trans l)).push k)
  have hl:∀ds,lvE lev (.comp elt it cond) (.lst ds)=if ds.all (λx=>lvE lev elt x == .full) then .full else .top:=λds=>by simp[flat]
  have acc0:AccO m1 m1 (lvE lev elt) [] []:=λ_=>⟨[],.nil,List.nodup_nil,by simp⟩;cases d with
  | tup ds =>
   obtain ⟨xs,rfl,k2⟩:=rep_tup.mp k1;exact (wr hc he ds xs [] [] m1 (Le.refl _) (k2.up _ (Le.refl _)) .nil acc0).sim hl
  | scr ns =>
   rw[rep_scr.mp k1];exact (wr hc he (ns.map .int) (ns.map .int) [] [] m1 (Le.refl _) (zj6 ns) .nil acc0).sim hl
  | lst ds =>
   obtain ⟨l,xs,rfl,_,hm,k2⟩:=rep_lst.mp k1;simp only[itD];by_cases z:ds.length<=lim
   .rw[if_pos z];have hl':=k2.len;exact (vG hm hc he ds 0 (lim+1) [] [] m1 (Le.refl _) (by simpa using (k2.up _ (Le.refl _))) (by lia) (by lia) .nil acc0).sim hl
   .rw[if_neg z];exact SimO.no
  | _=>exact SimO.no
 | .compP k elt a b cond,R,m,de,env,q=>by
  refine (zf H.r a R m de env q.left).bindO λd w m1 l1 k1=>?_;refine (zf H.r b _ m1 de env (q.right.left.up (λl h=>.inl h) l1)).bindO λd' w' m2 l2 k2=>?_;have hc:∀ (R':Nat->Prop) m' (p:Dat×Dat) x y,(∀l,Rf (Rf R m.length) m1.length l->R' l)->Le m2 m'->Rep R' m' p.1 x->Rep R' m' p.2 y->SimE R' m' (evE cl cond (env++[some x]++[some y]) m') (evD cd cond (de++[some p.1]++[some p.2])) :=
   λR' m' d x y hR l k k'=>zf H.r cond R' m' _ _ (((q.right.right.right.up (λl h=>hR l (.inl (.inl h))) ((l1.trans l2).trans l)).push k).push k')
  have he:∀ (R':Nat->Prop) m' (p:Dat×Dat) x y,(∀l,Rf (Rf R m.length) m1.length l->R' l)->Le m2 m'->Rep R' m' p.1 x->Rep R' m' p.2 y->SimO R' m' (lvE lev elt) (evE cl elt (env++[some x]++[some y]) m') (evD cd elt (de++[some p.1]++[some p.2])) :=
   λR' m' d x y hR l k k'=>xC H elt R' m' _ _ (((q.right.right.left.up (λl h=>hR l (.inl (.inl h))) ((l1.trans l2).trans l)).push k).push k')
  have hl:∀ds,lvE lev (.compP k elt a b cond) (.lst ds)=if ds.all (λx=>lvE lev elt x == .full) then .full else .top:=λds=>by simp[flat]
  have acc0:AccO m2 m2 (lvE lev elt) [] []:=λ_=>⟨[],.nil,List.nodup_nil,by simp⟩;cases e:yQ k d d' with
  | none=>exact SimO.no
  | some ps =>
   obtain ⟨pr,hln⟩:=jM e ((k1.up _ l2).up m2.length (Le.refl _)) (k2.up m2.length (Le.refl _));exact (vH pr hc he ps 0 (lim+1) [] [] m2 (Le.refl _) (by simp) (by simp) (by lia) .nil acc0).sim hl
 | .var i,R,m,de,env,q=>(zf H.r _ R m de env q).own λd=>rfl
 | .lit w,R,m,de,env,q=>(zf H.r _ R m de env q).own λd=>rfl
 | .neg a,R,m,de,env,q=>(zf H.r _ R m de env q).own λd=>rfl
 | .not a,R,m,de,env,q=>(zf H.r _ R m de env q).own λd=>rfl
 | .and a b,R,m,de,env,q=>(zf H.r _ R m de env q).own λd=>rfl
 | .or a b,R,m,de,env,q=>(zf H.r _ R m de env q).own λd=>rfl
 | .cmp op a b,R,m,de,env,q=>(zf H.r _ R m de env q).own λd=>rfl
 | .chain o p a b c,R,m,de,env,q=>(zf H.r _ R m de env q).own λd=>rfl
 | .ife c a b,R,m,de,env,q=>(zf H.r _ R m de env q).own λd=>rfl
 | .unit,R,m,de,env,q=>(zf H.r _ R m de env q).own λd=>rfl
 | .dict0,R,m,de,env,q=>⟨_,_,[m.length],rfl,Le.app m _,own_dct.mpr ⟨_,[],[],rfl,rfl,by simp,.nil⟩,by simp,by simp⟩
 | .dget a b,R,m,de,env,q=>(zf H.r _ R m de env q).own λd=>rfl
 | .idx a b,R,m,de,env,q=>(zf H.r _ R m de env q).own λd=>rfl
 | .meth _ _ _,R,m,de,env,q=>(zf H.r _ R m de env q).own λd=>rfl
 | .rng a b c,R,m,de,env,q=>(zf H.r _ R m de env q).own λd=>rfl
set_option genInjectivity false in
inductive Rsd where
 | next (de:DEn) (lv:List Lv) | ret (d:Dat) (l:Lv) | brk (de:DEn) (lv:List Lv) | cont (de:DEn) (lv:List Lv) | exc (c:Nat) (d:Dat) | no
deriving Inhabited
noncomputable def Rd.bindS (r:Rd)(f:Dat->Rsd):Rsd:=match r with
 | .ok d=>f d
 | .exc c d=>.exc c d
 | .no=>.no
noncomputable def Rd.okS (r:Rd)(f:Dat->Rsd):Rsd:=match r with
 | .ok d=>f d
 | _=>.no
noncomputable def downs:List Nat->List Lv->List Lv
 | [],lv=>lv
 | i::vs,lv=>downs vs (lv.set i .no)
noncomputable def topD (de:DEn)(j:Nat)(lv:List Lv):List Lv:=match de[j]?,lv[j]? with
 | some (some (.lst _)),some .full=>lv.set j .top
 | some (some (.lst _)),some .top=>lv.set j .top
 | _,_=>lv.set j .no
noncomputable def xc (e:Ex)(de:DEn)(lv:List Lv):List Lv:=match e with
 | .idx (.var j) b=>topD de j (downs (zp b) lv)
 | .dget (.var i) (.idx (.var _) (.neg (.lit _)))=>downs [i] lv
 | e=>downs (zp e) lv
mutual
noncomputable def dep:Dat->Nat
 | .lst xs=>depL xs+1
 | .dct _ xs=>depL xs+1
 | .tup xs=>depL xs+1
 | .non=>0
 | .bl _=>0
 | .int _=>0
 | .str _=>0
 | .scr _=>0
noncomputable def depL:List Dat->Nat
 | []=>0
 | d::ds=>max (dep d) (depL ds)
end
noncomputable def ya (lv:List Lv)(j:Nat):Bool:=match lv[j]? with
 | some .top=>true
 | some .full=>true
 | _=>false
noncomputable def xb (lev:Nat->Lv)(e:Ex)(d:Dat)(j:Nat)(de:DEn)(lv:List Lv):Option (DEn×List Lv) :=
 if ya lv j=false then none
 else if lvE lev e d=.full then some (de,lv)
 else if j∈zp e then none
 else match e with
  | .var i=>if lv[i]?=some .full/\lv[j]?=some .full then some (de.set i none,lv) else some (de,(downs [i] lv).set j .top)
  | e=>some (de,(xc e de lv).set j .top)
noncomputable def xn {α:Type}(body:α->DEn->List Lv->Rsd):List α->DEn->List Lv->Rsd
 | [],de,lv=>.next de lv
 | x::xs,de,lv=>match body x de lv with
  | .next d1 l1=>xn body xs d1 l1
  | .cont d1 l1=>xn body xs d1 l1
  | .brk d1 l1=>.next d1 l1
  | r=>r
noncomputable def yR (c:DEn->Rd)(body:DEn->List Lv->Rsd):Nat->DEn->List Lv->Rsd
 | 0,_,_=>.no
 | k+1,de,lv=>match c de with
  | .ok (.bl true)=>match body de lv with
   | .next d1 l1=>yR c body k d1 l1
   | .cont d1 l1=>yR c body k d1 l1
   | .brk d1 l1=>.next d1 l1
   | r=>r
  | .ok (.bl false)=>.next de lv
  | .exc c d=>.exc c d
  | _=>.no
noncomputable def lvF (d:Dat):Lv:=if flat d then .full else .no
noncomputable def lvR (lev:Nat->Lv)(e:Ex)(d:Dat)(lv:List Lv):Lv:=if flat d then .full else match e with
 | .var i=>(lv[i]?).getD .no
 | .tup (.pair (.var a) (.pair (.var b) .unit))=>if a≠b/\lv[a]?=some .full/\lv[b]?=some .full then .full else .no
 | e=>lvE lev e d
noncomputable def xJ (de:DEn)(j:Nat):Option (List Dat):=match de[j]? with
 | some (some (.lst ds))=>some ds
 | _=>none
noncomputable def wN (lev:Nat->Lv)(i:Nat)(e:Ex)(d:Dat)(de:DEn)(lv:List Lv):Rsd :=
 if lvE lev e d=.full then .next (de.set i (some d)) (lv.set i .full) else .next (de.set i (some d)) ((xc e de lv).set i (lvE lev e d))
noncomputable def yw (s t:Sm):Option (Nat×Nat×Ex×Ex×Ex×Ex×Ex):=match t with
 | _=>none
noncomputable def ziU (lev:Nat->Lv)(cl:Nat->List Dat->Rd)(e:Ex)(de:DEn)(lv:List Lv):Rsd:=match e with
  | .meth .append (.var j) (.pair e .unit)=>(evD cl e de).okS λd=>match xJ de j with
   | some ds=>if ds.length < lim then match xb lev e d j de lv with
    | some (de1,lv1)=>.next (de1.set j (some (.lst (ds++[d])))) lv1
    | none=>.no
    else .no
   | none=>.no
  | .meth .reverse (.var j) .unit=>match xJ de j with
   | some ds=>if ya lv j then .next (de.set j (some (.lst ds.reverse))) lv else .no
   | none=>.no
  | .meth _ _ _=>.no
  | e=>(evD cl e de).bindS λ_=>.next de lv
noncomputable def qv (j:Nat)(de:DEn)(lv:List Lv):Option (Int×DEn):=match xJ de j with
 | some ds=>match ds.getLast? with
  | some (.int v)=>if ya lv j=true then some (v,de.set j (some (.lst ds.dropLast))) else none
  | _=>none
 | none=>none
noncomputable def exD (lev:Nat->Lv)(cl:Nat->List Dat->Rd):Sm->DEn->List Lv->Rsd
 | .skip,de,lv=>.next de lv
 | .seq a b,de,lv=>match yw a b with
  | some _=>.no
  | none=>match exD lev cl a de lv with
   | .next d1 l1=>exD lev cl b d1 l1
   | r=>r
 | .asg i e,de,lv=>(evD cl e de).bindS λd=>wN lev i e d de lv
 | .aug i op e,de,lv=>match de[i]? with
  | some (some (.int a))=>(evD cl e de).okS λy=>match y with
   | .int b=>(zI op (.int a) (.int b)).okS λz=>.next (de.set i (some z)) (lv.set i .full)
   | _=>.no
  | _=>.no
 | .ite c a b,de,lv=>(evD cl c de).bindS λx=>match x with
  | .bl true=>exD lev cl a de lv
  | .bl false=>exD lev cl b de lv
  | _=>.no
 | .forv i it body,de,lv=>(evD cl it de).bindS λd=>match itD d with
  | some xs=>xn (λx de lv=>exD lev cl body (de.set i (some x)) (lv.set i (lvF x))) xs de (if flat d then lv else xc it de lv)
  | none=>.no
 | .while c body,de,lv=>yR (evD cl c) (exD lev cl body) 1000000 de lv
 | .ret e,de,lv=>(evD cl e de).bindS λd=>.ret d (lvR lev e d lv)
 | .expr e,de,lv=>ziU lev cl e de lv
 | .popI j e a b,de,lv=>match qv j de lv with
  | some (v,de1)=>(evD cl e de1).okS λd=>match d with
   | .int w=>if v=w then exD lev cl b de1 lv else exD lev cl a de1 lv
   | _=>.no
  | none=>.no
 | .dput j k e,de,lv=>(evD cl e de).okS λd=>(evD cl k de).okS λq=>match de[j]?,wZ q with
  | some (some (.dct ks ds)),some q=>if lv[j]?=some .full/\lvE lev e d=.full/\ks.length < lim then .next (de.set j (some (.dct (x5 ks q) (yh ks ds q d)))) lv else .no
  | _,_=>.no
 | .never,_,_=>.no
theorem gh {lev:Nat->Lv}{cl:Nat->List Dat->Rd}{a b:Sm}{de:DEn}{lv:List Lv}:exD lev cl (.seq a b) de lv=match yw a b with
  | some _=>.no
  | none=>match exD lev cl a de lv with
   | .next d1 l1=>exD lev cl b d1 l1
   | r=>r:=rfl
noncomputable def xo (fn:Fn)(ds:List Dat):DEn:=ds.map some++List.replicate (fn.sz - ds.length) none
noncomputable def xp (fn:Fn)(ds:List Dat):List Lv:=ds.map lvF++List.replicate (fn.sz - ds.length) .full
noncomputable def wD:Lv->Lv->Bool
 | _,.no=>true
 | .full,.full=>true
 | .top,.top=>true
 | _,_=>false
noncomputable def zE (l:Lv):Rsd->Rd
 | .next _ _=>.ok .non
 | .ret d k=>if flat d || wD k l then .ok d else .no
 | .exc c d=>.exc c d
 | _=>.no
noncomputable def zG (lev:Nat->Lv)(cl:Nat->List Dat->Rd)(k:Nat)(fn:Fn)(ds:List Dat):Rd :=
 if ds.length=fn.ar then zE (lev k) (exD lev cl fn.body (xo fn ds) (xp fn ds)) else .no
noncomputable def k9 (lev:Nat->Lv)(T:List Fn):Nat->Nat->List Dat->Rd
 | 0,_,_=>.no
 | d+1,k,ds=>match T[k]? with
  | some fn=>zG lev (k9 lev T d) k fn ds
  | none=>.no
def xf (RR:Nat->Prop)(A:Nat->List Nat):Nat->Prop:=λl=>RR l/\∀i,l∉A i
structure Inv (lo:Nat)(RR:Nat->Prop)(m:Me)(de:DEn)(lv:List Lv)(env:En)(A:Nat->List Nat):Prop where
 len:de.length=env.length
 lvl:lv.length=de.length
 rr:∀l,lo<=l->RR l
 lom:lo<=m.length
 slot:∀i d l,de[i]?=some (some d)->lv[i]?=some l->∃w,env[i]?=some (some w)/\RepO (xf RR A) m l d w (A i)
 nd:∀i,(A i).Nodup
 dj:∀i j a,a∈A i->a∈A j->i=j
 bd:∀i a,a∈A i->lo<=a/\a < m.length
def Keep (A:Nat->List Nat)(m:Me)(A':Nat->List Nat)(m':Me):Prop:=(∀ (l:Nat) o,(∀i,l∉A i)->m[l]?=some o->(∀i,l∉A' i)/\m'[l]?=some o)/\m.length<=m'.length
theorem Keep.refl (A:Nat->List Nat)(m:Me):Keep A m A m:=⟨λ_ _ h k=>⟨h,k⟩,Nat.le_refl _⟩
theorem Keep.trans {A B C:Nat->List Nat}{m m1 m2:Me}(h:Keep A m B m1)(k:Keep B m1 C m2):Keep A m C m2 :=
 ⟨λl o a b=>k.1 l o (h.1 l o a b).1 (h.1 l o a b).2,Nat.le_trans h.2 k.2⟩
theorem Keep.repL {A A':Nat->List Nat}{m m':Me}{RR:Nat->Prop}{d:List Dat}{w:List Wd}(h:Keep A m A' m')(q:RepL (xf RR A) m d w):RepL (xf RR A') m' d w :=
 RepL.frame (λl o r z=>⟨⟨r.1,(h.1 l o r.2 z).1⟩,(h.1 l o r.2 z).2⟩) d w q
theorem Inv.getlv {lo:Nat}{RR:Nat->Prop}{m:Me}{de:DEn}{lv:List Lv}{env:En}{A:Nat->List Nat}(I:Inv lo RR m de lv env A){i:Nat}{o:Option Dat}(h:de[i]?=some o):∃l,lv[i]?=some l:=by
 obtain ⟨hi,_⟩:=List.getElem?_eq_some_iff.mp h;exact ⟨_,List.getElem?_eq_getElem (by rw[I.lvl];exact hi)⟩
theorem Inv.envR {lo:Nat}{RR:Nat->Prop}{m:Me}{de:DEn}{lv:List Lv}{env:En}{A:Nat->List Nat}(I:Inv lo RR m de lv env A)(vs:List Nat):EnvR RR m vs de env :=
 ⟨I.len,λi _ d h=>by
  obtain ⟨l,hl⟩:=I.getlv h;obtain ⟨w,a,b⟩:=I.slot i d l h hl;exact ⟨w,a,b.rep (λ_ z=>z.1) (λa ha=>I.rr a (I.bd i a ha).1)⟩⟩
theorem Inv.ext {lo:Nat}{RR:Nat->Prop}{m m':Me}{de:DEn}{lv:List Lv}{env:En}{A:Nat->List Nat}(I:Inv lo RR m de lv env A)(h:Le m m'):Inv lo RR m' de lv env A :=
 ⟨I.len,I.lvl,I.rr,Nat.le_trans I.lom h.len,λi d l a b=>by
  obtain ⟨w,p,q⟩:=I.slot i d l a b;exact ⟨w,p,q.frame (λl o r z=>⟨r,h l o z⟩) (λl _ o z=>h l o z)⟩,I.nd,I.dj,λi a ha=>⟨(I.bd i a ha).1,Nat.lt_of_lt_of_le (I.bd i a ha).2 h.len⟩⟩
theorem wt {A:Nat->List Nat}{m m':Me}(h:Le m m'):Keep A m A m':=⟨λl o a b=>⟨a,h l o b⟩,h.len⟩
noncomputable def upd (A:Nat->List Nat)(i:Nat)(B:List Nat):Nat->List Nat:=λk=>if k=i then B else A k
theorem zh {A:Nat->List Nat}{i:Nat}{B:List Nat}:upd A i B i=B:=by simp[upd]
theorem zg {A:Nat->List Nat}{i k:Nat}{B:List Nat}(h:k≠i):upd A i B k=A k:=by simp[upd,h]
set_option tactic.hygienic true in
theorem Inv.store {lo:Nat}{RR:Nat->Prop}{m m':Me}{de:DEn}{lv:List Lv}{env:En}{A:Nat->List Nat}(I:Inv lo RR m de lv env A)(h:Le m m')(i:Nat){d:Dat}{l:Lv}{w:Wd}{B:List Nat}
  (q:RepO (λl=>(xf RR A l\/m.length<=l)/\l∉B) m' l d w B) (nd:B.Nodup) (hB:∀b∈B,m.length<=b) :
  Inv lo RR m' (de.set i (some d)) (lv.set i l) (env.set i (some w)) (upd A i B)/\Keep A m (upd A i B) m':=by
 have hlt:=q.lt;have fr:∀ (x:Nat) (o:Ob),(∀k,x∉A k)->m[x]?=some o->∀k,x∉upd A i B k:=by
  intro x o hx hm k;by_cases e:k=i
  .subst e;rw[zh];intro hb;have:=hB x hb;have:=(List.getElem?_eq_some_iff.mp hm).1;lia
  .rw[zg e];exact hx k
 refine ⟨⟨by simp[I.len],by simp[I.lvl],I.rr,Nat.le_trans I.lom h.len,?_,?_,?_,?_⟩,⟨λx o hx hm=>⟨fr x o hx hm,h x o hm⟩,h.len⟩⟩
 .intro k e l' h1 h2;by_cases z:k=i
  .rw[z] at h1 h2 ⊢;rw[List.getElem?_set] at h1 h2;rw[if_pos rfl] at h1 h2;split at h1
   .split at h2
    .next q1 q2 =>
     cases h1;cases h2;refine ⟨w,by rw[List.getElem?_set,if_pos rfl,if_pos (by rw[<- I.len];exact q1)],?_⟩;rw[zh];refine q.frame (λx o r hm=>⟨⟨?_,λk=>?_⟩,hm⟩) (λ_ _ _ z=>z)
     .rcases r.1 with r1 | r1
      .exact r1.1
      .exact I.rr x (Nat.le_trans I.lom r1)
     .by_cases e:k=i
      .subst e;rw[zh];exact r.2
      .rw[zg e];rcases r.1 with r1 | r1
       .exact r1.2 k
       .intro ha;have:=(I.bd k x ha).2;lia
    .cases h2
   .cases h1
  .rw[List.getElem?_set_ne (Ne.symm z)] at h1 h2;obtain ⟨w',a,b⟩:=I.slot k e l' h1 h2;refine ⟨w',by rw[List.getElem?_set_ne (Ne.symm z)];exact a,?_⟩;rw[zg z];exact b.frame (λx o r hm=>⟨⟨r.1,fr x o r.2 hm⟩,h x o hm⟩) (λx _ o hm=>h x o hm)
 .intro k;by_cases e:k=i
  .subst e;rw[zh];exact nd
  .rw[zg e];exact I.nd k
 .intro k j a ha hb;by_cases e:k=i
  .subst e;rw[zh] at ha;by_cases f:j=k
   .exact f.symm
   .rw[zg f] at hb;have:=hB a ha;have:=(I.bd j a hb).2;lia
  .rw[zg e] at ha;by_cases f:j=i
   .subst f;rw[zh] at hb;have:=hB a hb;have:=(I.bd k a ha).2;lia
   .rw[zg f] at hb;exact I.dj k j a ha hb
 .intro k a ha;by_cases e:k=i
  .subst e;rw[zh] at ha;exact ⟨Nat.le_trans I.lom (hB a ha),hlt a ha⟩
  .rw[zg e] at ha;exact ⟨(I.bd k a ha).1,Nat.lt_of_lt_of_le (I.bd k a ha).2 h.len⟩
theorem Inv.weak {lo:Nat}{RR:Nat->Prop}{m:Me}{de:DEn}{lv:List Lv}{env:En}{A:Nat->List Nat}(I:Inv lo RR m de lv env A)(i:Nat){l:Lv}{B:List Nat}
  (hB:∀b∈B,b∈A i) (nd:B.Nodup) (q:∀d w,de[i]?=some (some d)->env[i]?=some (some w)->RepO (xf RR (upd A i B)) m l d w B) :
  Inv lo RR m de (lv.set i l) env (upd A i B)/\Keep A m (upd A i B) m:=by
 have fr:∀x,(∀k,x∉A k)->∀k,x∉upd A i B k:=by
  intro x hx k;by_cases e:k=i
  .subst e;rw[zh];intro hb;exact hx _ (hB x hb)
  .rw[zg e];exact hx k
 have sub:∀k a,a∈upd A i B k->a∈A k:=by
  intro k a ha;by_cases e:k=i
  .subst e;rw[zh] at ha;exact hB a ha
  .rw[zg e] at ha;exact ha
 refine ⟨⟨I.len,by simp[I.lvl],I.rr,I.lom,?_,?_,λk j a ha hb=>I.dj k j a (sub k a ha) (sub j a hb),λk a ha=>I.bd k a (sub k a ha)⟩,⟨λx o hx hm=>⟨fr x hx,hm⟩,Nat.le_refl _⟩⟩
 .intro k e l' h1 h2;by_cases z:k=i
  .subst z;rw[List.getElem?_set,if_pos rfl] at h2;split at h2
   .cases h2;obtain ⟨l0,hl0⟩:=I.getlv h1;obtain ⟨w,a,_⟩:=I.slot k e l0 h1 hl0;refine ⟨w,a,?_⟩;rw[zh];exact q e w h1 a
   .cases h2
  .rw[List.getElem?_set_ne (Ne.symm z)] at h2;obtain ⟨w',a,b⟩:=I.slot k e l' h1 h2;refine ⟨w',a,?_⟩;rw[zg z];exact b.frame (λx o r hm=>⟨⟨r.1,fr x r.2⟩,hm⟩) (λx _ o hm=>hm)
 .intro k;by_cases e:k=i
  .subst e;rw[zh];exact nd
  .rw[zg e];exact I.nd k
theorem Inv.down {lo:Nat}{RR:Nat->Prop}{m:Me}{de:DEn}{lv:List Lv}{env:En}{A:Nat->List Nat}(I:Inv lo RR m de lv env A)(i:Nat):
  Inv lo RR m de (lv.set i .no) env (upd A i [])/\Keep A m (upd A i []) m:=by
 refine I.weak i (by simp) List.nodup_nil λd w h1 h2=>⟨?_,rfl⟩;obtain ⟨l,hl⟩:=I.getlv h1;obtain ⟨w',a,b⟩:=I.slot i d l h1 hl;rw[h2] at a;cases a;refine b.rep (λx r=>⟨r.1,λk=>?_⟩) (λx hx=>⟨I.rr x (I.bd i x hx).1,λk=>?_⟩)
 .by_cases e:k=i
  .subst e;rw[zh];simp
  .rw[zg e];exact r.2 k
 .by_cases e:k=i
  .subst e;rw[zh];simp
  .rw[zg e];intro ha;exact e (I.dj k i x ha hx)
theorem xK:∀ (vs:List Nat) (lv:List Lv) (k:Nat),(downs vs lv)[k]?=if k∈vs/\k < lv.length then some .no else lv[k]?
 | [],lv,k=>by simp[downs]
 | i::vs,lv,k=>by
  unfold downs;rw[xK vs (lv.set i .no) k];rw[List.length_set,List.getElem?_set];by_cases a:k∈vs/\k < lv.length
  .rw[if_pos a,if_pos ⟨List.mem_cons_of_mem _ a.1,a.2⟩]
  .rw[if_neg a];by_cases e:i=k
   .subst e;by_cases b:i < lv.length
    .simp[b]
    .simp[b]
   .rw[if_neg e];by_cases c:k∈vs
    .have:¬ k < lv.length:=λz=>a ⟨c,z⟩;rw[if_neg (λz=>this z.2)]
    .rw[if_neg (λz=>by rcases List.mem_cons.mp z.1 with z1 | z1;exact e z1.symm;exact c z1)]
theorem Inv.downs {lo:Nat}{RR:Nat->Prop}{m:Me}{de:DEn}{env:En}:∀ (vs:List Nat) {lv:List Lv}{A:Nat->List Nat},Inv lo RR m de lv env A ->
  ∃A',Inv lo RR m de (downs vs lv) env A'/\Keep A m A' m/\(∀i∈vs,A' i=[])/\(∀i,A' i=A i\/A' i=[])/\∀i,i∉vs->A' i=A i
 | [],lv,A,I=>⟨A,I,Keep.refl A m,by simp,λi=>.inl rfl,λ_ _=>rfl⟩
 | j::vs,lv,A,I=>by
  obtain ⟨I1,K1⟩:=I.down j;obtain ⟨A',I2,K2,h1,h2,h3⟩:=Inv.downs vs I1;refine ⟨A',I2,K1.trans K2,λi hi=>?_,λi=>?_,λi hi=>?_⟩
  .by_cases q:i∈vs
   .exact h1 i q
   .rw[h3 i q];rcases List.mem_cons.mp hi with rfl | hi
    .exact zh
    .exact absurd hi q
  .rcases h2 i with z | z
   .rw[z];by_cases e:i=j
    .subst e;right;exact zh
    .left;exact zg e
   .exact .inr z
  .have:i≠j:=λe=>hi (by rw[e];simp);rw[h3 i (λz=>hi (List.mem_cons_of_mem _ z)),zg this]
theorem Inv.top {lo:Nat}{RR:Nat->Prop}{m:Me}{de:DEn}{lv:List Lv}{env:En}{A:Nat->List Nat}(I:Inv lo RR m de lv env A)(j:Nat){ds:List Dat}(hd:de[j]?=some (some (.lst ds)))(hj:ya lv j=true):
  ∃l xs A',Inv lo RR m de (lv.set j .top) env A'/\Keep A m A' m/\A' j=[l]/\(∀i,i≠j->A' i=A i)/\env[j]?=some (some (.ref l))/\m[l]?=some (.lst xs)/\RepL (xf RR A') m ds xs/\l∈A j:=by
 unfold ya at hj;obtain ⟨lj,hl⟩:=I.getlv hd;obtain ⟨w,a,b⟩:=I.slot j _ lj hd hl;rw[hl] at hj;have key:∃l xs,w=.ref l/\l∈A j/\m[l]?=some (.lst xs)/\RepL (xf RR (upd A j [l])) m ds xs:=by
  cases lj with
  | no=>simp at hj
  | top =>
   obtain ⟨es,l,xs,e,rfl,hA,hm,r⟩:=b;cases e;refine ⟨l,xs,rfl,by rw[hA];simp,hm,RepL.frame (λx o r z=>⟨⟨r.1,λk=>?_⟩,z⟩) _ _ r⟩;by_cases e:k=j
   .subst e;rw[zh,<- hA];exact r.2 k
   .rw[zg e];exact r.2 k
  | full =>
   obtain ⟨l,xs,B,rfl,hA,hm,r⟩:=own_lst.mp b;refine ⟨l,xs,rfl,by rw[hA];simp,hm,OwnL.rep ds xs B (λx hx=>⟨I.rr x (I.bd j x (by rw[hA];exact List.mem_cons_of_mem _ hx)).1,λk=>?_⟩) r⟩;have nd:=I.nd j;rw[hA] at nd;by_cases e:k=j
   .subst e;rw[zh];intro z;rw[List.mem_singleton.mp z] at hx;exact (List.nodup_cons.mp nd).1 hx
   .rw[zg e];intro z;exact e (I.dj k j x z (by rw[hA];exact List.mem_cons_of_mem _ hx))
 obtain ⟨l,xs,rfl,hA,hm,r⟩:=key;obtain ⟨I',K⟩:=I.weak j (l:=.top) (B:=[l]) (by intro b hb;rw[List.mem_singleton.mp hb];exact hA) (by simp) λd w h1 h2=>by
  rw[hd] at h1;cases h1;rw[a] at h2;cases h2;exact ⟨ds,l,xs,rfl,rfl,rfl,hm,r⟩
 exact ⟨l,xs,_,I',K,zh,λi hi=>zg hi,a,hm,r,hA⟩
theorem yC {m:Me}{l x:Nat}{o:Ob}(h:l≠x):(m.set l o)[x]?=m[x]?:=List.getElem?_set_ne h
theorem xg {m:Me}{l:Nat}{o p:Ob}(h:m[l]?=some p):(m.set l o)[l]?=some o:=by
 rw[List.getElem?_set,if_pos rfl,if_pos (List.getElem?_eq_some_iff.mp h).1]
theorem Inv.putO {lo:Nat}{RR:Nat->Prop}{m m1:Me}{de:DEn}{lv:List Lv}{env:En}{A:Nat->List Nat}(I:Inv lo RR m de lv env A)(le:Le m m1){j l:Nat}{ob:Ob}(hl:l∈A j)(A1:Nat->List Nat)
  (h3:∀k a,a∈A1 k->(∃k',a∈A k')\/m.length<=a) (nd1:∀k,(A1 k).Nodup) (dj1:∀i k a,a∈A1 i->a∈A1 k->i=k) (bd1:∀k a,a∈A1 k->lo<=a/\a < m1.length)
  {de1:DEn}{lv1:List Lv}(len1:de1.length=de.length) (lvl1:lv1.length=lv.length)
  (live:∀k d lk,k≠j->de1[k]?=some (some d)->lv1[k]?=some lk->de[k]?=some (some d)/\lv[k]?=some lk/\A1 k=A k)
  (sj:∀d lj,de1[j]?=some (some d)->lv1[j]?=some lj->∃w,env[j]?=some (some w)/\RepO (xf RR A1) (m1.set l ob) lj d w (A1 j)) :
  Inv lo RR (m1.set l ob) de1 lv1 env A1/\Keep A m A1 (m1.set l ob):=by
 have fr:∀ (x:Nat) (o:Ob),(∀k,x∉A k)->m[x]?=some o->(∀k,x∉A1 k)/\(m1.set l ob)[x]?=some o:=by
  intro x o hx hm;refine ⟨λk ha=>?_,?_⟩
  .rcases h3 k x ha with ⟨k',z⟩ | z
   .exact hx k' z
   .have:=(List.getElem?_eq_some_iff.mp hm).1;lia
  .rw[yC (l:=l) (x:=x) (λe=>hx j (by rw[<- e];exact hl))];exact le x o hm
 refine ⟨⟨len1.trans I.len,by rw[lvl1,I.lvl,len1],I.rr,by rw[List.length_set];exact Nat.le_trans I.lom le.len,?_,nd1,dj1,λk a ha=>by rw[List.length_set];exact bd1 k a ha⟩,⟨λx o hx hm=>fr x o hx hm,by rw[List.length_set];exact le.len⟩⟩;intro k d lk h1 h2;by_cases e:k=j
 .subst e;exact sj d lk h1 h2
 .obtain ⟨a,b,c⟩:=live k d lk e h1 h2;obtain ⟨w,p,q⟩:=I.slot k d lk a b;refine ⟨w,p,?_⟩;rw[c];refine q.frame (λx o r hm=>⟨⟨r.1,(fr x o r.2 hm).1⟩,(fr x o r.2 hm).2⟩) (λx hx o hm=>?_);rw[yC (l:=l) (x:=x) (λz=>e (I.dj k j x hx (by rw[<- z];exact hl)))];exact le x o hm
theorem Inv.put {lo:Nat}{RR:Nat->Prop}{m m1:Me}{de:DEn}{lv:List Lv}{env:En}{A:Nat->List Nat}(I:Inv lo RR m de lv env A)(le:Le m m1){j l:Nat}{xs ys:List Wd}(hl:l∈A j)(A1:Nat->List Nat)
  (h3:∀k a,a∈A1 k->(∃k',a∈A k')\/m.length<=a) (nd1:∀k,(A1 k).Nodup) (dj1:∀i k a,a∈A1 i->a∈A1 k->i=k) (bd1:∀k a,a∈A1 k->lo<=a/\a < m1.length)
  {de1:DEn}{lv1:List Lv}(len1:de1.length=de.length) (lvl1:lv1.length=lv.length)
  (live:∀k d lk,k≠j->de1[k]?=some (some d)->lv1[k]?=some lk->de[k]?=some (some d)/\lv[k]?=some lk/\A1 k=A k)
  (sj:∀d lj,de1[j]?=some (some d)->lv1[j]?=some lj->∃w,env[j]?=some (some w)/\RepO (xf RR A1) (m1.set l (.lst ys)) lj d w (A1 j)) :
  Inv lo RR (m1.set l (.lst ys)) de1 lv1 env A1/\Keep A m A1 (m1.set l (.lst ys)):=I.putO le hl A1 h3 nd1 dj1 bd1 len1 lvl1 live sj
def ziV (m m1:Me)(ds:List Dat)(xs:List Wd)(ds':List Dat)(ys:List Wd):Prop :=
 ∀B,B.Nodup->OwnL m ds xs B->∃B',OwnL m1 ds' ys B'/\B'.Nodup/\∀b∈B',b∈B\/m.length<=b
def ChgT (RR:Nat->Prop)(A:Nat->List Nat)(m m1:Me)(ds:List Dat)(xs:List Wd)(ds':List Dat)(ys:List Wd):Prop :=
 RepL (xf RR A) m ds xs->RepL (λx=>xf RR A x\/m.length<=x) m1 ds' ys
def Chg (RR:Nat->Prop)(A:Nat->List Nat)(m m1:Me)(ds:List Dat)(xs:List Wd)(ds':List Dat)(ys:List Wd):Prop :=
 (∀B,B.Nodup->OwnL m ds xs B->∃B',OwnL m1 ds' ys B'/\B'.Nodup/\∀b∈B',b∈B\/m.length<=b)/\(RepL (xf RR A) m ds xs->RepL (λx=>xf RR A x\/m.length<=x) m1 ds' ys)
theorem Inv.mut {lo:Nat}{RR:Nat->Prop}{m:Me}{de:DEn}{lv:List Lv}{env:En}{A:Nat->List Nat}(I:Inv lo RR m de lv env A){j:Nat}{ds:List Dat}(hd:de[j]?=some (some (.lst ds)))(hj:ya lv j=true):
  ∃l xs,env[j]?=some (some (.ref l))/\m[l]?=some (.lst xs)/\RepL RR m ds xs/\∀ (m1:Me) (ds':List Dat) (ys:List Wd),Le m m1->(lv[j]?=some .full->ziV m m1 ds xs ds' ys)->(lv[j]?=some .top->ChgT RR A m m1 ds xs ds' ys) ->
   ∃A1,Inv lo RR (m1.set l (.lst ys)) (de.set j (some (.lst ds'))) lv env A1/\Keep A m A1 (m1.set l (.lst ys)):=by
 unfold ya at hj;obtain ⟨lj,hl⟩:=I.getlv hd;obtain ⟨w,a,b⟩:=I.slot j _ lj hd hl;rw[hl] at hj;have hjl:j < de.length:=(List.getElem?_eq_some_iff.mp hd).1;have live:∀ (A1:Nat->List Nat),(∀k,k≠j->A1 k=A k)->∀ (ds':List Dat) k d lk,k≠j->(de.set j (some (.lst ds')))[k]?=some (some d)->lv[k]?=some lk->de[k]?=some (some d)/\lv[k]?=some lk/\A1 k=A k:=by
  intro A1 h ds' k d lk e h1 h2;rw[List.getElem?_set_ne (Ne.symm e)] at h1;exact ⟨h1,h2,h k e⟩
 cases lj with
 | no=>simp at hj
 | top =>
  obtain ⟨es,l,xs,e,rfl,hA,hm,r⟩:=b;cases e;refine ⟨l,xs,a,hm,RepL.frame (λ_ _ r z=>⟨r.1,z⟩) _ _ r,λm1 ds' ys le _ c=>⟨A,?_⟩⟩;have hlm:=(List.getElem?_eq_some_iff.mp hm).1;refine I.put le (j:=j) (l:=l) (xs:=xs) (by rw[hA];simp) A (λk a ha=>.inl ⟨k,ha⟩) I.nd I.dj (λk a ha=>⟨(I.bd k a ha).1,Nat.lt_of_lt_of_le (I.bd k a ha).2 le.len⟩) (by simp) rfl (live A (λ_ _=>rfl) ds') ?_;intro d lj h1 h2;rw[List.getElem?_set,if_pos rfl,if_pos hjl] at h1;cases h1;rw[hl] at h2;cases h2;refine ⟨_,a,ds',l,ys,rfl,rfl,hA,xg (le l _ hm),RepL.frame (λx o r z=>?_) _ _ (c hl r)⟩;rcases r with r | r
  .exact ⟨r,by rw[yC (l:=l) (x:=x) (λe=>r.2 j (by rw[hA,e];simp))];exact z⟩
  .exact ⟨⟨I.rr x (Nat.le_trans I.lom r),λk hk=>by have:=(I.bd k x hk).2;lia⟩,by rw[yC (l:=l) (x:=x) (by lia)];exact z⟩
 | full =>
  obtain ⟨l,xs,B,rfl,hA,hm,r⟩:=own_lst.mp b;have hlm:=(List.getElem?_eq_some_iff.mp hm).1;have nd:=I.nd j;rw[hA] at nd;refine ⟨l,xs,a,hm,OwnL.rep ds xs B (λx hx=>I.rr x (I.bd j x (by rw[hA];exact List.mem_cons_of_mem _ hx)).1) r,λm1 ds' ys le c _=>?_⟩;obtain ⟨B',o,nb,hB⟩:=c hl B (List.nodup_cons.mp nd).2 r;have hlB:l∉B':=λz=>by
   rcases hB l z with z | z
   .exact (List.nodup_cons.mp nd).1 z
   .lia
  have sub:∀x∈l::B',x∈A j\/m.length<=x:=by
   intro x hx;rcases List.mem_cons.mp hx with rfl | hx
   .left;rw[hA];simp
   .rcases hB x hx with z | z
    .left;rw[hA];exact List.mem_cons_of_mem _ z
    .exact .inr z
  refine ⟨upd A j (l::B'),?_⟩;refine I.put le (j:=j) (l:=l) (xs:=xs) (by rw[hA];simp) _ ?_ ?_ ?_ ?_ (by simp) rfl (live _ (λk hk=>zg hk) ds') ?_
  .intro k x hx;by_cases e:k=j
   .subst e;rw[zh] at hx;rcases sub x hx with z | z
    .exact .inl ⟨k,z⟩
    .exact .inr z
   .rw[zg e] at hx;exact .inl ⟨k,hx⟩
  .intro k;by_cases e:k=j
   .subst e;rw[zh];exact List.nodup_cons.mpr ⟨hlB,nb⟩
   .rw[zg e];exact I.nd k
  .intro i k x h1 h2;by_cases e:i=j
   .by_cases f:k=j
    .rw[e,f]
    .rw[e,zh] at h1;rw[zg f] at h2;rcases sub x h1 with z | z
     .rw[e];exact I.dj j k x z h2
     .have:=(I.bd k x h2).2;lia
   .rw[zg e] at h1;by_cases f:k=j
    .rw[f,zh] at h2;rcases sub x h2 with z | z
     .rw[f];exact I.dj i j x h1 z
     .have:=(I.bd i x h1).2;lia
    .rw[zg f] at h2;exact I.dj i k x h1 h2
  .intro k x hx;by_cases e:k=j
   .rw[e,zh] at hx;rcases List.mem_cons.mp hx with rfl | hx
    .exact ⟨(I.bd j _ (by rw[hA];simp)).1,Nat.lt_of_lt_of_le hlm le.len⟩
    .refine ⟨?_,OwnL.lt ds' ys B' o x hx⟩;rcases hB x hx with z | z
     .exact (I.bd j x (by rw[hA];exact List.mem_cons_of_mem _ z)).1
     .exact Nat.le_trans I.lom z
   .rw[zg e] at hx;exact ⟨(I.bd k x hx).1,Nat.lt_of_lt_of_le (I.bd k x hx).2 le.len⟩
  .intro d lj h1 h2;rw[List.getElem?_set,if_pos rfl,if_pos hjl] at h1;cases h1;rw[hl] at h2;cases h2;refine ⟨_,a,?_⟩;rw[zh];exact own_lst.mpr ⟨l,ys,B',rfl,rfl,xg (le l _ hm),OwnL.frame ds' ys B' (λx hx o z=>by rw[yC (l:=l) (x:=x) (λe=>hlB (by rw[e];exact hx))];exact z) o⟩
theorem OwnL.item {m:Me}:∀ {ds:List Dat}{xs:List Wd}{A:List Nat}{p:Nat}{d:Dat},OwnL m ds xs A->ds[p]?=some d->∃x B,(xs[p]?=some x/\Own m d x B)/\∀b∈B,b∈A
 | [],xs,A,p,d,h,z=>by simp at z
 | e::ds,xs,A,0,d,h,z=>by
  obtain ⟨x,r,B,C,rfl,rfl,a,b⟩:=h.cons_inv;simp at z;subst z;exact ⟨x,B,⟨rfl,a⟩,λb hb=>List.mem_append_left _ hb⟩
 | e::ds,xs,A,p+1,d,h,z=>by
  obtain ⟨x,r,B,C,rfl,rfl,a,b⟩:=h.cons_inv;obtain ⟨y,D,h1,h2⟩:=OwnL.item b (by simpa using z);exact ⟨y,D,by simpa using h1,λb hb=>List.mem_append_right _ (h2 b hb)⟩
theorem zj0 {m:Me}:∀ {ds:List Dat}{xs:List Wd}{A:List Nat}{p:Nat}{d:Dat},OwnL m ds xs A->ds[p]?=some d ->
  ∃x B1 Bp B2,xs[p]?=some x/\A=B1++(Bp++B2)/\Own m d x Bp/\(∀ (i:Nat) e y,i≠p->ds[i]?=some e->xs[i]?=some y->∃Bi,Own m e y Bi/\∀b∈Bi,b∈B1\/b∈B2)/\∀ (m':Me) (d':Dat) (x':Wd) (B':List Nat),(∀l,l∈B1\/l∈B2->∀o,m[l]?=some o->m'[l]?=some o)->Own m' d' x' B'->OwnL m' (ds.set p d') (xs.set p x') (B1++(B'++B2))
 | [],xs,A,p,d,h,z=>by simp at z
 | e::ds,xs,A,0,d,h,z=>by
  obtain ⟨x,r,B,C,rfl,rfl,a,b⟩:=h.cons_inv;simp at z;subst z;refine ⟨x,[],B,C,rfl,rfl,a,λi e y hi h1 h2=>?_,λm' d' x' B' fr o=>?_⟩
  .cases i with
   | zero=>exact absurd rfl hi
   | succ i =>
    simp at h1 h2;obtain ⟨y',Bi,o,hB⟩:=OwnL.item b h1;rw[h2] at o;obtain ⟨o1,o2⟩:=o;cases o1;exact ⟨Bi,o2,λz hz=>.inr (hB z hz)⟩
  show OwnL m' (d'::ds) (x'::r) (B'++C);exact OwnL.cons o (OwnL.frame ds r C (λl hl=>fr l (.inr hl)) b)
 | e::ds,xs,A,p+1,d,h,z=>by
  obtain ⟨x,r,B,C,rfl,rfl,a,b⟩:=h.cons_inv;obtain ⟨y,B1,Bp,B2,h1,rfl,h3,h5,h4⟩:=zj0 b (by simpa using z);refine ⟨y,B++B1,Bp,B2,by simpa using h1,by simp[List.append_assoc],h3,λi e' y' hi g1 g2=>?_,λm' d' x' B' fr o=>?_⟩
  .cases i with
   | zero=>simp at g1 g2;subst g1;subst g2;exact ⟨B,a,λz hz=>.inl (List.mem_append_left _ hz)⟩
   | succ i =>
    simp at g1 g2;obtain ⟨Bi,o,hB⟩:=h5 i e' y' (by lia) g1 g2;exact ⟨Bi,o,λz hz=>by rcases hB z hz with q | q;exact .inl (List.mem_append_right _ q);exact .inr q⟩
  rw[List.append_assoc];exact OwnL.cons (Own.frame e x B (λl hl=>fr l (.inl (List.mem_append_left _ hl))) a) (h4 m' d' x' B' (λl hl=>fr l (by rcases hl with hl | hl;exact .inl (List.mem_append_right _ hl);exact .inr hl)) o)
theorem za8 {RR:Nat->Prop}{A:Nat->List Nat}{m m1:Me}{ds:List Dat}{xs:List Wd}{d:Dat}{w:Wd}{B0:List Nat}(le:Le m m1)(o:Own m1 d w B0)(nd:B0.Nodup)(hB:∀b∈B0,m.length<=b):Chg RR A m m1 ds xs (ds++[d]) (xs++[w]):=by
 refine ⟨λB nb q=>⟨B++(B0++[]),(OwnL.frame ds xs B (λl _ o z=>le l o z) q).app (.cons o .nil),?_,?_⟩,λq=>?_⟩
 .rw[List.append_nil];refine List.nodup_append.mpr ⟨nb,nd,λx hx y hy e=>?_⟩;have:=OwnL.lt ds xs B q x hx;have:=hB y hy;lia
 .intro b hb;rw[List.append_nil] at hb;rcases List.mem_append.mp hb with z | z
  .exact .inl z
  .exact .inr (hB b z)
 .exact (RepL.frame (λl o r z=>⟨.inl r,le l o z⟩) _ _ q).app (.cons (Own.rep d w B0 (λb hb=>.inr (hB b hb)) o) .nil)
theorem zeR {RR:Nat->Prop}{A:Nat->List Nat}{m m1:Me}{ds:List Dat}{xs:List Wd}{d:Dat}{w:Wd}{B0:List Nat}(p:Nat)(le:Le m m1)(o:Own m1 d w B0)(nd:B0.Nodup)(hB:∀b∈B0,m.length<=b):Chg RR A m m1 ds xs (ds.set p d) (xs.set p w):=by
 refine ⟨λB nb q=>?_,λq=>?_⟩
 .cases hp:ds[p]? with
  | none =>
   have h1:ds.length<=p:=List.getElem?_eq_none_iff.mp hp;rw[List.set_eq_of_length_le h1,List.set_eq_of_length_le (by rw[<- q.len];exact h1)];exact ⟨B,OwnL.frame ds xs B (λl _ o z=>le l o z) q,nb,λb hb=>.inl hb⟩
  | some e =>
   obtain ⟨y,B1,Bp,B2,h1,rfl,h3,_,h4⟩:=zj0 q hp;refine ⟨B1++(B0++B2),h4 m1 d w B0 (λl _ o z=>le l o z) o,?_,?_⟩
   .have hlt:=OwnL.lt ds xs _ q;rw[List.nodup_append] at nb ⊢;obtain ⟨n1,n2,n3⟩:=nb;rw[List.nodup_append] at n2 ⊢;obtain ⟨n4,n5,n6⟩:=n2;refine ⟨n1,⟨nd,n5,λx hx y hy e=>?_⟩,λx hx y hy e=>?_⟩
    .have:=hB x hx;have:=hlt y (by simp[hy]);lia
    .rcases List.mem_append.mp hy with hy | hy
     .have:=hB y hy;have:=hlt x (by simp[hx]);lia
     .exact n3 x hx y (List.mem_append_right _ hy) e
   .intro b hb;simp only[List.mem_append] at hb ⊢;rcases hb with z | z | z
    .exact .inl (.inl z)
    .exact .inr (hB b z)
    .exact .inl (.inr (.inr z))
 .exact (RepL.frame (λl o r z=>⟨.inl r,le l o z⟩) _ _ q).set p (Own.rep d w B0 (λb hb=>.inr (hB b hb)) o)
theorem OwnL.rev {m:Me}:∀ {ds:List Dat}{xs:List Wd}{A:List Nat},A.Nodup->OwnL m ds xs A->∃B,OwnL m ds.reverse xs.reverse B/\B.Nodup/\∀b∈B,b∈A
 | [],xs,A,nd,h=>by rw[h.nil_inv.1];exact ⟨[],.nil,List.nodup_nil,by simp⟩
 | d::ds,xs,A,nd,h=>by
  obtain ⟨x,r,B,C,rfl,rfl,a,b⟩:=h.cons_inv;obtain ⟨n1,n2,n3⟩:=List.nodup_append.mp nd;obtain ⟨D,o,nD,hD⟩:=OwnL.rev n2 b;rw[List.reverse_cons,List.reverse_cons];refine ⟨D++(B++[]),o.app (.cons a .nil),?_,?_⟩
  .rw[List.append_nil];exact List.nodup_append.mpr ⟨nD,n1,λx hx y hy e=>n3 y hy x (hD x hx) e.symm⟩
  .intro b hb;simp only[List.append_nil,List.mem_append] at hb ⊢;rcases hb with z | z
   .exact .inr (hD b z)
   .exact .inl z
theorem chg_rev {RR:Nat->Prop}{A:Nat->List Nat}{m:Me}{ds:List Dat}{xs:List Wd}:Chg RR A m m ds xs ds.reverse xs.reverse:=by
 refine ⟨λB nb q=>?_,λq=>(RepL.frame (λl o r z=>⟨.inl r,z⟩) _ _ q).rev⟩;obtain ⟨D,o,nD,hD⟩:=OwnL.rev nb q;exact ⟨D,o,nD,λb hb=>.inl (hD b hb)⟩
theorem zj4 {m:Me}:∀ {ds:List Dat}{xs:List Wd}{A:List Nat},A.Nodup->OwnL m ds xs A->∃B,OwnL m ds.dropLast xs.dropLast B/\B.Nodup/\∀b∈B,b∈A
 | [],xs,A,nd,h=>by rw[h.nil_inv.1];exact ⟨[],.nil,List.nodup_nil,by simp⟩
 | [d],xs,A,nd,h=>by
  obtain ⟨x,r,B,C,rfl,rfl,a,b⟩:=h.cons_inv;rw[b.nil_inv.1];exact ⟨[],.nil,List.nodup_nil,by simp⟩
 | d::e::ds,xs,A,nd,h=>by
  obtain ⟨x,r,B,C,rfl,rfl,a,b⟩:=h.cons_inv;obtain ⟨n1,n2,n3⟩:=List.nodup_append.mp nd;obtain ⟨D,o,nD,hD⟩:=zj4 n2 b;obtain ⟨y,r',B',C',rfl,rfl,a',b'⟩:=b.cons_inv;refine ⟨B++D,.cons a o,List.nodup_append.mpr ⟨n1,nD,λx hx y hy e=>n3 x hx y (hD y hy) e⟩,λb hb=>?_⟩;rcases List.mem_append.mp hb with z | z
  .exact List.mem_append_left _ z
  .exact List.mem_append_right _ (hD b z)
theorem qw {RR:Nat->Prop}{A:Nat->List Nat}{m:Me}{ds:List Dat}{xs:List Wd}:Chg RR A m m ds xs ds.dropLast xs.dropLast:=by
 refine ⟨λB nb q=>?_,λq=>?_⟩
 .obtain ⟨D,o,nD,hD⟩:=zj4 nb q;exact ⟨D,o,nD,λb hb=>.inl (hD b hb)⟩
 .rw[List.dropLast_eq_take,List.dropLast_eq_take,<- q.len];exact (RepL.frame (λl o r z=>⟨.inl r,z⟩) _ _ q).take _
theorem zdc {R:Nat->Prop}{m:Me}{ds:List Dat}{xs:List Wd}{l:Nat}{e:Dat}{y:Wd}(h:RepL R m ds xs)(hm:m[l]?=some (.lst xs))(b:Rep R m e y):SimE R m (kJ (.ref l) y m) (zK (.lst ds) e):=by
 cases e with
 | int i =>
  rw[rep_int.mp b];simp only[zK,kJ,xH,xD,zr,hm];cases z:(ix ds.length i).bind λj=>ds[j]? with
  | none=>exact SimE.no
  | some v =>
   obtain ⟨j,h1,h2⟩:=Option.bind_eq_some_iff.mp z;obtain ⟨x,h3,p⟩:=h.get h2;rw[h.len] at h1;simp only[h1,Option.bind_some,h3];exact zj7 p
 | _=>exact SimE.no
theorem kf {lo:Nat}{RR:Nat->Prop}{m:Me}{de:DEn}{lv:List Lv}{env:En}{A:Nat->List Nat}(I:Inv lo RR m de lv env A){vs:List Nat}(h:∀i∈vs,∀l,lv[i]?=some l->l=.no):EnvR (xf RR A) m vs de env :=
 ⟨I.len,λi hi d hd=>by
  obtain ⟨l,hl⟩:=I.getlv hd;obtain ⟨w,a,b⟩:=I.slot i d l hd hl;rw[h i hi l hl] at b;exact ⟨w,a,b.1⟩⟩
theorem za9 (de:DEn)(j:Nat)(lv:List Lv){k:Nat}(h:k≠j):(topD de j lv)[k]?=lv[k]?:=by
 have q:∃l,topD de j lv=lv.set j l:=by
  unfold topD;generalize de[j]?=p;generalize lv[j]?=q;cases p with
  | none=>exact ⟨_,rfl⟩
  | some o =>
   cases o with
   | none=>exact ⟨_,rfl⟩
   | some d =>
    cases d with
    | lst ds =>
     cases q with
     | none=>exact ⟨_,rfl⟩
     | some l=>cases l <;> exact ⟨_,rfl⟩
    | _=>exact ⟨_,rfl⟩
 obtain ⟨l,e⟩:=q;rw[e];exact List.getElem?_set_ne (Ne.symm h)
set_option tactic.hygienic true in
theorem zeS (e:Ex)(de:DEn)(lv:List Lv){k:Nat}(h:k∉zp e):(xc e de lv)[k]?=lv[k]?:=by
 have gen:∀vs,k∉vs->(downs vs lv)[k]?=lv[k]?:=λvs h=>by rw[xK,if_neg (λz=>h z.1)]
 cases e with
 | idx o b =>
  cases o with
  | var j =>
   replace h:k∉j::zp b:=h
   rw[List.mem_cons,not_or] at h;show (topD de j (downs (zp b) lv))[k]?=_;rw[za9 _ _ _ h.1,gen _ h.2]
  | _=>exact gen _ h
 | dget o b =>
  by_cases q:∃j i w,o=.var j/\b=.idx (.var i) (.neg (.lit w))
  .obtain ⟨j,i,w,rfl,rfl⟩:=q;exact gen [j] (by
    replace h:k∉j::zp (.idx (.var i) (.neg (.lit w))):=h
    rw[List.mem_cons,not_or] at h;simpa using h.1)
  .have:xc (.dget o b) de lv=downs (zp (.dget o b)) lv:=by
    unfold xc;split
    .next e=>cases e
    .next e=>cases e;exact absurd ⟨_,_,_,rfl,rfl⟩ q
    .rfl
   rw[this];exact gen _ h
 | _=>exact gen _ h
set_option tactic.hygienic true in
theorem Inv.topD {lo:Nat}{RR:Nat->Prop}{m:Me}{de:DEn}{lv:List Lv}{env:En}{A:Nat->List Nat}(I:Inv lo RR m de lv env A)(j:Nat):
  ∃A',Inv lo RR m de (topD de j lv) env A'/\Keep A m A' m/\(∀i,i≠j->A' i=A i)/\((∃ds l xs,de[j]?=some (some (.lst ds))/\A' j=[l]/\env[j]?=some (some (.ref l))/\m[l]?=some (.lst xs)/\RepL (xf RR A') m ds xs)\/((Vl.topD de j lv)[j]?=some .no\/lv.length<=j)):=by
 by_cases h:(∃ds,de[j]?=some (some (.lst ds)))/\ya lv j=true
 .obtain ⟨⟨ds,hd⟩,ho⟩:=h;obtain ⟨l,xs,A',I',K,h1,h2,h3,h4,h5,_⟩:=I.top j hd ho;have:Vl.topD de j lv=lv.set j .top:=by
   unfold Vl.topD;rw[hd];unfold ya at ho;cases z:lv[j]? with
   | none=>rw[z] at ho;simp at ho
   | some l=>rw[z] at ho;cases l <;> simp at ho ⊢
  rw[this];exact ⟨A',I',K,h2,.inl ⟨ds,l,xs,hd,h1,h3,h4,h5⟩⟩
 .obtain ⟨I',K⟩:=I.down j;have:Vl.topD de j lv=lv.set j .no:=by
   unfold Vl.topD;split
   .next ds hd hl=>exact absurd ⟨⟨ds,hd⟩,by unfold ya;rw[hl]⟩ h
   .next ds hd hl=>exact absurd ⟨⟨ds,hd⟩,by unfold ya;rw[hl]⟩ h
   .rfl
  rw[this];refine ⟨_,I',K,λi hi=>zg hi,.inr ?_⟩;by_cases z:j < lv.length
  .left;rw[List.getElem?_set,if_pos rfl,if_pos z]
  .right;lia
set_option tactic.hygienic true in
theorem Inv.relEv {lev:Nat->Lv}{cl:Nat->List Wd->Me->Rz}{cd:Nat->List Dat->Rd}(H:CallO lev cl cd){lo:Nat}{RR:Nat->Prop}{m:Me}{de:DEn}{lv:List Lv}{env:En}{A:Nat->List Nat}(I:Inv lo RR m de lv env A)(e:Ex):
  ∃A',Inv lo RR m de (xc e de lv) env A'/\Keep A m A' m/\(∀k,k∉zp e->A' k=A k)/\SimO (xf RR A') m (lvE lev e) (evE cl e env m) (evD cd e de):=by
 have gen:xc e de lv=Vl.downs (zp e) lv->∃A',Inv lo RR m de (xc e de lv) env A'/\Keep A m A' m/\(∀k,k∉zp e->A' k=A k)/\SimO (xf RR A') m (lvE lev e) (evE cl e env m) (evD cd e de):=by
  intro h;rw[h];obtain ⟨A',I',K,h1,_,h3⟩:=Inv.downs (zp e) I;refine ⟨A',I',K,h3,xC H e _ m de env (kf I' λi hi l hl=>?_)⟩;rw[xK] at hl;split at hl
  .cases hl;rfl
  .next z=>rw[List.getElem?_eq_none (by have:¬ i < lv.length:=λq=>z ⟨hi,q⟩;lia)] at hl;cases hl
 cases e with
 | dget a b =>
  by_cases q:∃j i w,a=.var j/\b=.idx (.var i) (.neg (.lit w))
  .obtain ⟨j,i0,w0,rfl,rfl⟩:=q;show ∃A',Inv lo RR m de (Vl.downs [j] lv) env A'/\_;obtain ⟨A1,I1,K1,h1,_,h3⟩:=Inv.downs [j] I;refine ⟨A1,I1,K1,λk hk=>h3 k (λz=>hk (by
    have z:k=j:=by simpa using z
    subst z;show k∈k::zp (.idx (.var i0) (.neg (.lit w0)))
    simp)),SimE.own ?_ (λd=>rfl)⟩
   show SimE _ m ((evE cl (.var j) env m).bind λx m1=>(evE cl (.idx (.var i0) (.neg (.lit w0))) env m1).bind λy m2=>jE x y m2) ((evD cd (.var j) de).bind λx=>(evD cd (.idx (.var i0) (.neg (.lit w0))) de).bind λy=>vT x y);refine (zf H.r (.var j) _ m de env (kf I1 λi hi l hl=>?_)).bind λd w m1 l1 r1=>?_
   .have hi:i=j:=by simpa using hi
    subst hi;rw[xK] at hl;split at hl
    .cases hl;rfl
    .next z=>rw[List.getElem?_eq_none (by have:¬ i < lv.length:=λq=>z ⟨by simp,q⟩;lia)] at hl;cases hl
   .have hb:=zf H.r (.idx (.var i0) (.neg (.lit w0))) RR m1 de env ((I1.ext l1).envR _);cases z2:evD cd (.idx (.var i0) (.neg (.lit w0))) de with
    | no=>trivial
    | exc c d2 =>
     exfalso;have hx:∀ (x y:Dat) (c:Nat) (d:Dat),zK x y≠.exc c d:=λx y c d z=>by
      unfold zK at z
      repeat' split at z
      all_goals cases z
     have:(evD cd (.var i0) de).bind (λx=>(evD cd (.neg (.lit w0)) de).bind λy=>zK x y)=.exc c d2:=z2;cases e1:evD cd (.var i0) de with
     | no=>rw[e1] at this;cases this
     | exc _ _ =>
      have e1:(match de[i0]? with | some (some d)=>Rd.ok d | _=>.no)=_:=e1;split at e1 <;> cases e1
     | ok x =>
      rw[e1] at this;cases e2:evD cd (.neg (.lit w0)) de with
      | no =>
       have this:(evD cd (.neg (.lit w0)) de).bind (λy=>zK x y)=.exc c d2:=this;rw[e2] at this;cases this
      | exc _ _ =>
       have e2:(evD cd (.lit w0) de).bind (λx=>match x with | .int i=>Rd.ok (.int (-i)) | _=>.no)=_:=e2;cases e3:evD cd (.lit w0) de with
       | no=>rw[e3] at e2;cases e2
       | exc _ _ =>
        have e3:(match ziK w0 with | some d=>Rd.ok d | none=>.no)=_:=e3;split at e3 <;> cases e3
       | ok z =>
        rw[e3] at e2;have e2:(match z with | .int i=>Rd.ok (.int (-i)) | _=>.no)=_:=e2;split at e2 <;> cases e2
      | ok y =>
       have this:(evD cd (.neg (.lit w0)) de).bind (λy=>zK x y)=.exc c d2:=this;rw[e2] at this;exact hx x y c d2 this
    | ok d2 =>
     rw[z2] at hb;obtain ⟨w2,m2,e2,l2,r2⟩:=hb;rw[e2];cases hk:wZ d2 with
     | none =>
      have:vT d d2=.no:=by
       cases d with
       | dct ks ds=>show (match (wZ d2).bind (atK ks ds) with | some v=>Rd.ok v | none=>.no)=_;rw[hk];rfl
       | _=>rfl
      show SimE _ _ _ (vT d d2);rw[this];trivial
     | some k =>
      have fl:flat d2=true:=by
       cases d2 with
       | tup ds =>
        have hk:yJ ds=some k:=hk;show flatL ds=true;clear r2 z2
        induction ds generalizing k with
        | nil=>rfl
        | cons x r ih =>
         cases x with
         | int i =>
          obtain ⟨k',e,rfl⟩:=Option.map_eq_some_iff.mp (show (yJ r).map (i::·)=some k from hk);show (flat (.int i) && flatL r)=true;rw[ih _ e e];rfl
         | _=>cases hk
       | _=>cases hk
      have r3:Rep (λ_=>False) m2 d2 w2:=Own.rep d2 w2 [] (by simp) (Rep.flat (m':=m2) d2 w2 fl r2);exact SimE.lift l2 (qt (Rep.frame (λl o r z=>⟨.inl r,l2 l o z⟩) _ _ r1) (Rep.frame (λl o r z=>⟨.inl (by cases r),z⟩) _ _ r3))
  .refine gen ?_;unfold xc;split
   .next e=>cases e
   .next e=>cases e;exact absurd ⟨_,_,_,rfl,rfl⟩ q
   .rfl
 | idx a b =>
  cases a with
  | var j =>
   show ∃A',Inv lo RR m de (Vl.topD de j (Vl.downs (zp b) lv)) env A'/\_;obtain ⟨A1,I1,K1,h1,h2,h3⟩:=Inv.downs (zp b) I;obtain ⟨A2,I2,K2,g1,g2⟩:=I1.topD j;have hne:∀k,k∉zp (.idx (.var j) b)->A2 k=A k:=by
    intro k hk
    replace hk:k∉j::zp b:=hk
    rw[List.mem_cons,not_or] at hk;rw[g1 k hk.1,h3 k hk.2]
   refine ⟨A2,I2,K1.trans K2,hne,?_⟩;have lvno:∀i,i∈zp b->i≠j->∀l,(Vl.topD de j (Vl.downs (zp b) lv))[i]?=some l->l=.no:=by
    intro i hi hij l hl;rw[za9 _ _ _ hij,xK] at hl;split at hl
    .cases hl;rfl
    .next z=>rw[List.getElem?_eq_none (by have:¬ i < lv.length:=λq=>z ⟨hi,q⟩;lia)] at hl;cases hl
   rcases g2 with ⟨ds,l,xs,hd,hA,he,hm,hr⟩ | g2
   .have hjb:j∉zp b:=λz=>by
     have h0:=h1 j z;have hx:l∈A1 j:=by
      have i1:=I1;by_cases q:l∈A1 j
      .exact q
      .exfalso;have:=(K2.1 l _ (λk hk=>?_) hm).1 j
       .rw[hA] at this;exact this (by simp)
       .by_cases ek:k=j
        .rw[ek] at hk;exact q hk
        .have e1:=g1 k ek;rw[<- e1] at hk;exact ek (I2.dj k j l hk (by rw[hA];simp))
     rw[h0] at hx;cases hx
    refine SimE.own ?_ (λd=>rfl);show SimE _ m ((evE cl (.var j) env m).bind λx m1=>(evE cl b env m1).bind λy m2=>kJ x y m2) ((evD cd (.var j) de).bind λx=>(evD cd b de).bind λy=>zK x y);have e1:evE cl (.var j) env m=.ok (.ref l) m:=k8 he m;have e2:evD cd (.var j) de=.ok (.lst ds):=xI hd;rw[e1,e2];simp only[Rz.bind,Rd.bind];refine (zf H.r b _ m de env (kf I2 λi hi=>lvno i hi (λe=>hjb (by rw[<- e];exact hi)))).bind λd2 w2 m2 l2 k2=>?_;exact zdc (hr.up _ l2) (l2 l _ hm) k2
   .refine xC H _ _ m de env (kf I2 λi hi l hl=>?_)
    replace hi:i∈j::zp b:=hi
    rw[List.mem_cons] at hi;by_cases e:i=j
    .rw[e] at hl;rcases g2 with g2 | g2
     .rw[g2] at hl;cases hl;rfl
     .have:(Vl.topD de j (Vl.downs (zp b) lv)).length=(Vl.downs (zp b) lv).length:=by rw[I2.lvl,I1.lvl]
      rw[List.getElem?_eq_none (by lia)] at hl;cases hl
    .rcases hi with z | z
     .exact absurd z e
     .exact lvno i z e l hl
  | _=>exact gen rfl
 | _=>exact gen rfl
def SimS (lo:Nat)(RR:Nat->Prop)(A:Nat->List Nat)(m:Me)(r:Rs)(rd:Rsd):Prop:=match rd with
 | .next de lv=>∃env m' A',r=.next env m'/\Inv lo RR m' de lv env A'/\Keep A m A' m'
 | .brk de lv=>∃env m' A',r=.brk env m'/\Inv lo RR m' de lv env A'/\Keep A m A' m'
 | .cont de lv=>∃env m' A',r=.cont env m'/\Inv lo RR m' de lv env A'/\Keep A m A' m'
 | .ret d l=>∃w m' B,r=.ret w m'/\((∀ (x:Nat) o,(∀i,x∉A i)->m[x]?=some o->m'[x]?=some o)/\m.length<=m'.length)/\RepO (λx=>RR x/\x∉B) m' l d w B/\B.Nodup/\∀b∈B,lo<=b
 | .exc c d=>∃w e m',r=.exc c w e m'/\((∀ (x:Nat) o,(∀i,x∉A i)->m[x]?=some o->m'[x]?=some o)/\m.length<=m'.length)/\Rep RR m' d w
 | .no=>True
set_option tactic.hygienic true in
theorem SimS.keep {lo:Nat}{RR:Nat->Prop}{A A1:Nat->List Nat}{m m1:Me}{r:Rs}{rd:Rsd}(K:Keep A m A1 m1)(h:SimS lo RR A1 m1 r rd):SimS lo RR A m r rd:=by
 cases rd with
 | next de lv=>obtain ⟨e,m',A',h,I,k⟩:=h;exact ⟨e,m',A',h,I,K.trans k⟩
 | brk de lv=>obtain ⟨e,m',A',h,I,k⟩:=h;exact ⟨e,m',A',h,I,K.trans k⟩
 | cont de lv=>obtain ⟨e,m',A',h,I,k⟩:=h;exact ⟨e,m',A',h,I,K.trans k⟩
 | ret d l=>obtain ⟨w,m',B,h,k,z⟩:=h;exact ⟨w,m',B,h,⟨λx o a b=>k.1 x o (K.1 x o a b).1 (K.1 x o a b).2,Nat.le_trans K.2 k.2⟩,z⟩
 | exc c d=>obtain ⟨w,e,m',h,k,z⟩:=h;exact ⟨w,e,m',h,⟨λx o a b=>k.1 x o (K.1 x o a b).1 (K.1 x o a b).2,Nat.le_trans K.2 k.2⟩,z⟩
 | no=>trivial
theorem Inv.rf {lo:Nat}{RR:Nat->Prop}{m m':Me}{de:DEn}{lv:List Lv}{env:En}{A:Nat->List Nat}(I:Inv lo RR m de lv env A){d:Dat}{w:Wd}(h:Rep (Rf RR m.length) m' d w):Rep RR m' d w :=
 Rep.frame (λx o r z=>⟨by rcases r with r | r;exact r;exact I.rr x (Nat.le_trans I.lom r),z⟩) d w h
theorem Inv.bindE {cl:Nat->List Wd->Me->Rz}{cd:Nat->List Dat->Rd}(H:CallR cl cd){lo:Nat}{RR:Nat->Prop}{m:Me}{de:DEn}{lv:List Lv}{env:En}{A:Nat->List Nat}(I:Inv lo RR m de lv env A)(e:Ex){f:Wd->Me->Rs}{g:Dat->Rsd}
  (k:∀d w m1,evD cd e de=.ok d->evE cl e env m=.ok w m1->Le m m1->Rep RR m1 d w->SimS lo RR A m1 (f w m1) (g d)):SimS lo RR A m ((evE cl e env m).bindS env f) ((evD cd e de).bindS g):=by
 have h:=zf H e RR m de env (I.envR _);cases z:evD cd e de with
 | no=>trivial
 | exc c d =>
  rw[z] at h;obtain ⟨w,m',h,l,r⟩:=h;rw[h];exact ⟨w,env,m',rfl,⟨λx o _ b=>l x o b,l.len⟩,I.rf r⟩
 | ok d =>
  rw[z] at h;obtain ⟨w,m',h,l,r⟩:=h;have:=k d w m' z h l (I.rf r);rw[h];exact SimS.keep (wt l) this
theorem Inv.own {lev:Nat->Lv}{cl:Nat->List Wd->Me->Rz}{cd:Nat->List Dat->Rd}(H:CallO lev cl cd){lo:Nat}{RR:Nat->Prop}{m m1:Me}{de:DEn}{lv:List Lv}{env:En}{A:Nat->List Nat}(I:Inv lo RR m de lv env A){e:Ex}{d:Dat}{w:Wd}(h1:evD cd e de=.ok d)(h2:evE cl e env m=.ok w m1):
  ∃B,RepO (λx=>RR x/\x∉B) m1 (lvE lev e d) d w B/\B.Nodup/\∀b∈B,m.length<=b:=by
 have h:=xC H e RR m de env (I.envR _);rw[h1] at h;obtain ⟨w',m',B,h3,l,r,nd,hB⟩:=h;rw[h2] at h3;cases h3;exact ⟨B,r.frame (λx o r z=>⟨⟨by rcases r.1 with r | r;exact r;exact I.rr x (Nat.le_trans I.lom r),r.2⟩,z⟩) (λ_ _ _ z=>z),nd,hB⟩
section
variable {lev:Nat->Lv}{cl:Nat->List Wd->Me->Rz}{cd:Nat->List Dat->Rd}{lo:Nat}{RR:Nat->Prop}{m:Me}{de:DEn}{lv:List Lv}{env:En}{A:Nat->List Nat}
set_option tactic.hygienic true in
theorem kh {j:Nat}{ds:List Dat}(h:xJ de j=some ds):de[j]?=some (some (.lst ds)):=by
 unfold xJ at h;split at h
 .next z=>cases h;exact z
 .cases h
theorem vU {j:Nat}{w:Wd}(h:env[j]?=some (some w))(m:Me):evE cl (.var j) env m=.ok w m:=by
 exact k8 h m
theorem zeT (H:CallO lev cl cd)(I:Inv lo RR m de lv env A)(i:Nat)(e:Ex):SimS lo RR A m (exS cl (.asg i e) env m) (exD lev cd (.asg i e) de lv):=by
 have h:SimS lo RR A m ((evE cl e env m).bindS env λw m1=>.next (env.set i (some w)) m1) ((evD cd e de).bindS λd=>wN lev i e d de lv):=by
  cases z:evD cd e de with
  | no=>trivial
  | exc c d =>
   have:=I.bindE H.r e (f:=λw m1=>.next (env.set i (some w)) m1) (g:=λd=>.no) (λ_ _ _ _ _ _ _=>trivial);rw[z] at this;exact this
  | ok d =>
   show SimS lo RR A m _ (wN lev i e d de lv);unfold wN;by_cases f:lvE lev e d=.full
   .rw[if_pos f];have h:=xC H e RR m de env (I.envR _);rw[z] at h;obtain ⟨w,m1,B,h2,l,r,nd,hB⟩:=h;rw[h2];rw[f] at r;obtain ⟨I',K⟩:=I.store l i (l:=.full) (d:=d) (w:=w) (B:=B) r nd hB;exact ⟨_,_,_,rfl,I',K⟩
   .rw[if_neg f];obtain ⟨A1,I1,K1,_,h⟩:=I.relEv H e;rw[z] at h;obtain ⟨w,m1,B,h2,l,r,nd,hB⟩:=h;rw[h2];obtain ⟨I',K⟩:=I1.store l i (l:=lvE lev e d) (d:=d) (w:=w) (B:=B) r nd hB;exact ⟨_,_,_,rfl,I',K1.trans K⟩
 exact h
set_option tactic.hygienic true in
theorem zdd (H:CallO lev cl cd)(I:Inv lo RR m de lv env A){e:Ex}{d:Dat}{w:Wd}{m1:Me}{j:Nat}{ds:List Dat}{de1:DEn}{lv1:List Lv}(hd:de[j]?=some (some (.lst ds)))(h1:evD cd e de=.ok d)(h2:evE cl e env m=.ok w m1)(l1:Le m m1){m2:Me}(l2:Le m1 m2)
  (g:xb lev e d j de lv=some (de1,lv1)) (F:List Dat->Dat->List Dat) (G:List Wd->Wd->List Wd)
  (cF:∀ (m m1:Me) (A:Nat->List Nat) (ds:List Dat) (xs:List Wd) (d:Dat) (w:Wd) (B0:List Nat),Le m m1->Own m1 d w B0->B0.Nodup->(∀b∈B0,m.length<=b)->Chg RR A m m1 ds xs (F ds d) (G xs w))
  (cM:∀ (m:Me) (ds:List Dat) (xs:List Wd) (d:Dat) (w:Wd) (B B0:List Nat),(B++B0).Nodup->OwnL m ds xs B->Own m d w B0->∃B',OwnL m (F ds d) (G xs w) B'/\B'.Nodup/\∀b∈B',b∈B\/b∈B0)
  (cT:∀ (R:Nat->Prop) (m:Me) (ds:List Dat) (xs:List Wd) (d:Dat) (w:Wd),RepL R m ds xs->Rep R m d w->RepL R m (F ds d) (G xs w)) :
  ∃l xs,env[j]?=some (some (.ref l))/\m2[l]?=some (.lst xs)/\ds.length=xs.length/\∃A',Inv lo RR (m2.set l (.lst (G xs w))) (de1.set j (some (.lst (F ds d)))) lv1 env A'/\Keep A m A' (m2.set l (.lst (G xs w))):=by
 have l12:=l1.trans l2;unfold xb at g;split at g
 .cases g
 .next ho =>
  have ho:ya lv j=true:=by simpa using ho
  split at g
  .next f =>
   cases g;obtain ⟨B,r,nd,hB⟩:=I.own H h1 h2;rw[f] at r;obtain ⟨l,xs,he,hm,hr,put⟩:=I.mut hd ho;have r':Own m2 d w B:=Own.frame d w B (λx _ o z=>l2 x o z) r;refine ⟨l,xs,he,l12 l _ hm,hr.len,put m2 _ _ l12 (λ_=>(cF m m2 A ds xs d w B l12 r' nd hB).1) (λ_=>(cF m m2 A ds xs d w B l12 r' nd hB).2)⟩
  .next f =>
   split at g
   .cases g
   .next hj =>
    have share:lv1=(xc e de lv).set j .top->de1=de->∃l xs,env[j]?=some (some (.ref l))/\m2[l]?=some (.lst xs)/\ds.length=xs.length/\∃A',Inv lo RR (m2.set l (.lst (G xs w))) (de1.set j (some (.lst (F ds d)))) lv1 env A'/\Keep A m A' (m2.set l (.lst (G xs w))):=by
     rintro rfl rfl;obtain ⟨A1,I1,K1,hA1,h⟩:=I.relEv H e;rw[h1] at h;have ho1:ya (xc e de1 lv) j=true:=by unfold ya;rw[zeS e _ _ hj];exact ho
     obtain ⟨l,xs,A2,I2,K2,g1,g2,he,hm,hr,hlA⟩:=I1.top j hd ho1;have hs:=h.sim;obtain ⟨w',m',h3,_,rw0⟩:=hs;rw[h2] at h3;cases h3;have hjl:j < (xc e de1 lv).length:=by rw[I1.lvl];exact (List.getElem?_eq_some_iff.mp hd).1
     have ho2:ya ((xc e de1 lv).set j .top) j=true:=by unfold ya;rw[List.getElem?_set,if_pos rfl,if_pos hjl]
     have hlv:((xc e de1 lv).set j .top)[j]?=some .top:=by rw[List.getElem?_set,if_pos rfl,if_pos hjl]
     obtain ⟨l',xs',he',hm',_,put⟩:=I2.mut hd ho2;rw[he] at he';cases he';rw[hm] at hm';cases hm';obtain ⟨A3,I3,K3⟩:=put m2 (F ds d) (G xs w) l12 (λz=>by rw[hlv] at z;cases z) (λ_ q=>by
      refine cT _ m2 ds xs d w (RepL.frame (λx o r z=>⟨.inl r,l12 x o z⟩) _ _ q) (Rep.frame (λx o r z=>⟨?_,l2 x o z⟩) _ _ rw0);rcases r with r | r
      .left
       refine ⟨r.1,λk hk=>?_⟩;by_cases ek:k=j
       .rw[ek,g1] at hk;rw[List.mem_singleton.mp hk] at r;exact r.2 j hlA
       .rw[g2 k ek] at hk;exact r.2 k hk
      .exact .inr r)
     exact ⟨l,xs,he,l12 l _ hm,hr.len,A3,I3,(K1.trans K2).trans K3⟩
    split at g
    .next i =>
     split at g
     .next hfull =>
      cases g;have hij:i≠j:=λe=>hj (by rw[e];exact List.mem_singleton.mpr rfl)
      -- the move
      have hdi:de[i]?=some (some d):=by
       exact za3 h1
      obtain ⟨wi,hei,ri⟩:=I.slot i d .full hdi hfull.1;have:evE cl (.var i) env m=.ok wi m:=vU hei m;rw[this] at h2;cases h2;obtain ⟨wj,hej,rj⟩:=I.slot j _ .full hd hfull.2;obtain ⟨l,xs,B,rfl,hA,hm,r⟩:=own_lst.mp rj;have hlm:=(List.getElem?_eq_some_iff.mp hm).1;have nd:=I.nd j;rw[hA] at nd;obtain ⟨n0,n1⟩:=List.nodup_cons.mp nd;have nBi:(B++A i).Nodup:=List.nodup_append.mpr ⟨n1,I.nd i,λx hx y hy e=>by
       subst e;exact hij (I.dj i j x hy (by rw[hA];exact List.mem_cons_of_mem _ hx))⟩
      obtain ⟨B',o,nB',hB'⟩:=cM m ds xs d w B (A i) nBi r ri;have lB':l∉B':=λz=>by
       rcases hB' l z with q | q
       .exact n0 q
       .exact hij (I.dj i j l q (by rw[hA];simp))
      have sub:∀x∈l::B',x∈A j\/x∈A i:=by
       intro x hx;rcases List.mem_cons.mp hx with rfl | hx
       .left;rw[hA];simp
       .rcases hB' x hx with q | q
        .left;rw[hA];exact List.mem_cons_of_mem _ q
        .exact .inr q
      have hjl:j < de.length:=(List.getElem?_eq_some_iff.mp hd).1;have hil:i < de.length:=(List.getElem?_eq_some_iff.mp hdi).1;have ui:upd (upd A i []) j (l::B') i=[]:=by rw[zg hij,zh]
      have uo:∀k,k≠i->k≠j->upd (upd A i []) j (l::B') k=A k:=λk a b=>by rw[zg b,zg a]
      have ll2:=l2.len;refine ⟨l,xs,hej,l2 l _ hm,r.len,upd (upd A i []) j (l::B'),?_⟩;refine I.put l2 (j:=j) (l:=l) (xs:=xs) (by rw[hA];simp) _ ?_ ?_ ?_ ?_ (by simp) rfl ?_ ?_
      .intro k x hx
       left
       by_cases e:k=j
       .rw[e,zh] at hx;rcases sub x hx with q | q
        .exact ⟨j,q⟩
        .exact ⟨i,q⟩
       .by_cases f:k=i
        .rw[f,ui] at hx;cases hx
        .rw[uo k f e] at hx;exact ⟨k,hx⟩
      .intro k;by_cases e:k=j
       .rw[e,zh];exact List.nodup_cons.mpr ⟨lB',nB'⟩
       .by_cases f:k=i
        .rw[f,ui];simp
        .rw[uo k f e];exact I.nd k
      .have main:∀k x,k≠j->x∈l::B'->x∈upd (upd A i []) j (l::B') k->False:=by
        intro k x e hx hk;by_cases f:k=i
        .rw[f,ui] at hk;cases hk
        .rw[uo k f e] at hk;rcases sub x hx with q | q
         .exact e (I.dj k j x hk q)
         .exact f (I.dj k i x hk q)
       intro a b x ha hb;by_cases e:a=j
       .by_cases f:b=j
        .rw[e,f]
        .rw[e,zh] at ha;exact (main b x f ha hb).elim
       .by_cases f:b=j
        .rw[f,zh] at hb;exact (main a x e hb ha).elim
        .by_cases g:a=i
         .rw[g,ui] at ha;cases ha
         .by_cases h:b=i
          .rw[h,ui] at hb;cases hb
          .rw[uo a g e] at ha;rw[uo b h f] at hb;exact I.dj a b x ha hb
      .intro k x hx;by_cases e:k=j
       .rw[e,zh] at hx;rcases sub x hx with q | q
        .exact ⟨(I.bd j x q).1,Nat.lt_of_lt_of_le (I.bd j x q).2 ll2⟩
        .exact ⟨(I.bd i x q).1,Nat.lt_of_lt_of_le (I.bd i x q).2 ll2⟩
       .by_cases f:k=i
        .rw[f,ui] at hx;cases hx
        .rw[uo k f e] at hx;exact ⟨(I.bd k x hx).1,Nat.lt_of_lt_of_le (I.bd k x hx).2 ll2⟩
      .intro k d' lk e g1 g2;rw[List.getElem?_set_ne (Ne.symm e)] at g1;by_cases f:k=i
       .rw[f,List.getElem?_set,if_pos rfl,if_pos hil] at g1;cases g1
       .rw[List.getElem?_set_ne (Ne.symm f)] at g1;exact ⟨g1,g2,uo k f e⟩
      .intro d' lj g1 g2;rw[List.getElem?_set,if_pos rfl,if_pos (by simpa using hjl)] at g1;cases g1;rw[hfull.2] at g2;cases g2;refine ⟨_,hej,?_⟩;rw[zh];exact own_lst.mpr ⟨l,_,B',rfl,rfl,xg (l2 l _ hm),OwnL.frame _ _ B' (λx hx o z=>by rw[yC (l:=l) (x:=x) (λe=>lB' (by rw[e];exact hx))];exact l2 x o z) o⟩
     .cases g;exact share rfl rfl
    .cases g;exact share rfl rfl
end
section
variable {lev:Nat->Lv}{cl:Nat->List Wd->Me->Rz}{cd:Nat->List Dat->Rd}{lo:Nat}{RR:Nat->Prop}{m:Me}{de:DEn}{lv:List Lv}{env:En}{A:Nat->List Nat}
theorem zg9 {n:Mth}{o e:Ex}{x w:Wd}{m1 m2:Me}(h1:evE cl o env m=.ok x m1)(h2:evE cl e env m1=.ok w m2)(hl:yO x m1=true:=by simp only[yO,isLst];simp_all):evE cl (.meth n o (.pair e .unit)) env m=mtR n x [w] m2:=by
 show (evE cl o env m).bind (λx m1=>match yO x m1 with | true=>((evE cl e env m1).bind λa m2=>.ok (.tup [a]) m2).bind λy m2=>mtR n x (zn y) m2 | false=>.no)=_;rw[h1];show (match yO x m1 with | true=>((evE cl e env m1).bind λa m2=>.ok (.tup [a]) m2).bind λy m2=>mtR n x (zn y) m2 | false=>.no)=_;rw[hl,h2];rfl
theorem zba {n:Mth}{o:Ex}{x:Wd}{m1:Me}(h1:evE cl o env m=.ok x m1)(hl:yO x m1=true:=by simp only[yO,isLst];simp_all):evE cl (.meth n o .unit) env m=mtR n x [] m1:=by
 show (evE cl o env m).bind (λx m1=>match yO x m1 with | true=>mtR n x [] m1 | false=>.no)=_;rw[h1];show (match yO x m1 with | true=>mtR n x [] m1 | false=>.no)=_;rw[hl]
theorem zeU {m:Me}{ds:List Dat}{xs:List Wd}{d:Dat}{w:Wd}{B B0:List Nat}(n:(B++B0).Nodup)(a:OwnL m ds xs B)(b:Own m d w B0):∃B',OwnL m (ds++[d]) (xs++[w]) B'/\B'.Nodup/\∀b∈B',b∈B\/b∈B0 :=
 ⟨B++(B0++[]),a.app (.cons b .nil),by simpa using n,λx hx=>by simpa using hx⟩
theorem SimS.okS {r:Rs}{rd:Rd}{g:Dat->Rsd}(h:∀d,rd=.ok d->SimS lo RR A m r (g d)):SimS lo RR A m r (rd.okS g):=by
 cases rd with
 | ok d=>exact h d rfl
 | _=>trivial
theorem Inv.ok (H:CallR cl cd)(I:Inv lo RR m de lv env A){e:Ex}{d:Dat}(h:evD cd e de=.ok d){m1:Me}(l:Le m m1):∃w m2,evE cl e env m1=.ok w m2/\Le m1 m2/\Rep RR m2 d w:=by
 have q:=zf H e RR m1 de env ((I.ext l).envR _);rw[h] at q;obtain ⟨w,m2,a,b,c⟩:=q;exact ⟨w,m2,a,b,(I.ext l).rf c⟩
theorem Inv.isRef (I:Inv lo RR m de lv env A){j:Nat}{ds:List Dat}{w:Wd}(hd:de[j]?=some (some (.lst ds)))(he:env[j]?=some (some w)):yO w m=true:=by
 obtain ⟨lj,hl⟩:=I.getlv hd;obtain ⟨w',a,b⟩:=I.slot j _ lj hd hl;rw[he] at a;cases a;obtain ⟨l,xs,rfl,_,hm,_⟩:=rep_lst.mp (b.rep (R':=λ_=>True) (λ_ _=>trivial) (λ_ _=>trivial));simp[yO,isLst,hm]
set_option tactic.hygienic true in
theorem zde (H:CallO lev cl cd)(I:Inv lo RR m de lv env A)(j:Nat)(e:Ex):SimS lo RR A m (exS cl (.expr (.meth .append (.var j) (.pair e .unit))) env m) (exD lev cd (.expr (.meth .append (.var j) (.pair e .unit))) de lv):=by
 show SimS _ _ _ _ ((evE cl _ env m).bindS env _) _;refine SimS.okS λd h1=>?_;split
 .next ds hl =>
  split
  .next hlim =>
   split
   .next de1 lv1 g =>
    obtain ⟨w,m1,h2,l1,r1⟩:=I.ok H.r h1 (Le.refl m);obtain ⟨l,xs,he,hm,hlen,A',I',K⟩:=zdd H I (kh hl) h1 h2 l1 (Le.refl m1) g (λds d=>ds++[d]) (λxs w=>xs++[w])
     (λ_ _ _ _ _ _ _ _ le o nd hB=>za8 le o nd hB) (λ_ _ _ _ _ _ _ n a b=>zeU n a b) (λ_ _ _ _ _ _ a b=>a.app (.cons b .nil))
    rw[zg9 (vU he m) h2 (I.isRef (kh hl) he)];have:mtR .append (.ref l) [w] m1=.ok .non (m1.set l (.lst (xs++[w]))):=by
     simp only[mtR,hm];rw[if_pos (by lia)]
    rw[this];exact ⟨_,_,A',rfl,I',K⟩
   .trivial
  .trivial
 .trivial
set_option tactic.hygienic true in
theorem zdf (I:Inv lo RR m de lv env A)(j:Nat):SimS lo RR A m (exS cl (.expr (.meth .reverse (.var j) .unit)) env m) (exD lev cd (.expr (.meth .reverse (.var j) .unit)) de lv):=by
 show SimS _ _ _ _ ((evE cl _ env m).bindS env _) (match xJ de j with
   | some ds=>if ya lv j then .next (de.set j (some (.lst ds.reverse))) lv else .no
   | none=>.no)
 split
 .next ds hl =>
  split
  .next ho =>
   obtain ⟨l,xs,he,hm,hr,put⟩:=I.mut (kh hl) ho;obtain ⟨A',I',K⟩:=put m ds.reverse xs.reverse (Le.refl m) (λ_=>(chg_rev (RR:=RR) (A:=A)).1) (λ_=>chg_rev.2);rw[zba (vU he m)];have:mtR .reverse (.ref l) [] m=.ok .non (m.set l (.lst xs.reverse)):=by simp only[mtR,hm]
   rw[this];exact ⟨_,_,A',rfl,I',K⟩
  .trivial
 .trivial
set_option tactic.hygienic true in
theorem zeV (H:CallO lev cl cd)(I:Inv lo RR m de lv env A)(i:Nat)(op:Bo)(e:Ex):SimS lo RR A m (exS cl (.aug i op e) env m) (exD lev cd (.aug i op e) de lv):=by
 show SimS _ _ _ _ _ (match de[i]? with
  | some (some (.int a))=>(evD cd e de).okS λy=>match y with
   | .int b=>(zI op (.int a) (.int b)).okS λz=>.next (de.set i (some z)) (lv.set i .full)
   | _=>.no
  | _=>.no)
 split
 .next a ha =>
  refine SimS.okS λy hy=>?_;split
  .next b =>
   refine SimS.okS λz hz=>?_;obtain ⟨la,hla⟩:=I.getlv ha;obtain ⟨wa,hea,ra⟩:=I.slot i _ la ha hla;have ra':=ra.rep (R':=RR) (λ_ z=>z.1) (λx hx=>I.rr x (I.bd i x hx).1);rw[rep_int.mp ra'] at hea;show SimS _ _ _ _ (match env[i]? with
    | some (some x)=>(evE cl e env m).bindS env λy m1=>zcr op x y m1 env λz m2=>.next (env.set i (some z)) m2
    | _=>.no) _
   rw[hea];obtain ⟨w,m1,h2,l1,r1⟩:=I.ok H.r hy (Le.refl m);rw[rep_int.mp r1] at h2;simp only[h2,Rz.bindS,zcr];have hs:=j9 (R:=RR) (m:=m1) op (d:=.int a) (e:=.int b) (rep_int.mpr rfl) (rep_int.mpr rfl);rw[hz] at hs;obtain ⟨w3,m3,h3,l3,r3⟩:=hs;rw[h3];have fz:flat z=true:=by
    cases op <;> simp only[zI] at hz
    .cases hz;rfl
    .cases hz;rfl
    all_goals (split at hz <;> (cases hz;try rfl))
   obtain ⟨I',K⟩:=I.store (l1.trans l3) i (l:=.full) (d:=z) (w:=w3) (B:=[]) (r3.flat z w3 fz) List.nodup_nil (by simp);exact ⟨_,_,_,rfl,I',K⟩
  .trivial
 .trivial
end
section
variable {m:Me}
mutual
theorem Rep.avoid {R R':Nat->Prop}{m:Me}{D:Dat}{l:Nat}(hD:Rep R' m D (.ref l)):∀ (d:Dat) (w:Wd),dep d < dep D->Rep R m d w->Rep (λx=>R x/\x≠l) m d w
 | .non,w,h,q=>rep_non.mpr (rep_non.mp q)
 | .bl _,w,h,q=>rep_bl.mpr (rep_bl.mp q)
 | .int _,w,h,q=>rep_int.mpr (rep_int.mp q)
 | .str _,w,h,q=>rep_str.mpr (rep_str.mp q)
 | .scr _,w,h,q=>rep_scr.mpr (rep_scr.mp q)
 | .tup ds,w,h,q=>by
  obtain ⟨xs,rfl,q1⟩:=rep_tup.mp q;exact rep_tup.mpr ⟨xs,rfl,RepL.avoid hD ds xs (by rw[show dep (.tup ds)=depL ds+1 from by simp[dep]] at h;lia) q1⟩
 | .lst ds,w,h,q=>by
  obtain ⟨k,xs,rfl,r,hm,q1⟩:=rep_lst.mp q;refine rep_lst.mpr ⟨k,xs,rfl,⟨r,λe=>?_⟩,hm,RepL.avoid hD ds xs (by rw[show dep (.lst ds)=depL ds+1 from by simp[dep]] at h;lia) q1⟩;subst e;have:=Rep.det _ _ _ q hD;rw[this] at h;lia
 | .dct ks ds,w,h,q=>by
  obtain ⟨k,xs,rfl,r,hm,q1⟩:=rep_dct.mp q;refine rep_dct.mpr ⟨k,xs,rfl,⟨r,λe=>?_⟩,hm,RepL.avoid hD ds xs (by rw[show dep (.dct ks ds)=depL ds+1 from by simp[dep]] at h;lia) q1⟩;subst e;have:=Rep.det _ _ _ q hD;rw[this] at h;lia
theorem RepL.avoid {R R':Nat->Prop}{m:Me}{D:Dat}{l:Nat}(hD:Rep R' m D (.ref l)):∀ (ds:List Dat) (xs:List Wd),depL ds < dep D->RepL R m ds xs->RepL (λx=>R x/\x≠l) m ds xs
 | [],xs,h,q=>by rw[q.nil_inv];exact .nil
 | d::ds,xs,h,q=>by
  obtain ⟨x,r,rfl,a,b⟩:=q.cons_inv;unfold depL at h;exact .cons (Rep.avoid hD d x (by lia) a) (RepL.avoid hD ds r (by lia) b)
end
end
theorem vV (q:List Int):∀ (ks:List (List Int)) (n:Nat),(∃p,∀ (α:Type) (zs:List α) (v:α),zs.length=n->yh ks zs q v=zs.set p v)\/∀ (α:Type) (zs:List α) (v:α),zs.length=n->yh ks zs q v=zs++[v]
 | [],n=>.inr λα zs v _=>by cases zs <;> rfl
 | k::ks,0=>.inr λα zs v h=>by
  cases zs with
  | nil=>rfl
  | cons _ _=>cases h
 | k::ks,n+1=>by
  by_cases e:k=q
  .refine .inl ⟨0,λα zs v h=>?_⟩;cases zs with
   | nil=>cases h
   | cons z zs=>show (if k=q then v::zs else _)=_;rw[if_pos e];rfl
  .rcases vV q ks n with ⟨p,h⟩ | h
   .refine .inl ⟨p+1,λα zs v hz=>?_⟩;cases zs with
    | nil=>cases hz
    | cons z zs=>show (if k=q then _ else z::yh ks zs q v)=_;rw[if_neg e,h α zs v (by simpa using hz)];rfl
   .refine .inr λα zs v hz=>?_;cases zs with
    | nil=>cases hz
    | cons z zs=>show (if k=q then _ else z::yh ks zs q v)=_;rw[if_neg e,h α zs v (by simpa using hz)];rfl
theorem zeW {RR:Nat->Prop}{A:Nat->List Nat}{m m1:Me}{ds:List Dat}{xs:List Wd}{d:Dat}{w:Wd}{B0:List Nat}(ks:List (List Int))(q:List Int)(hlen:ds.length=xs.length)(le:Le m m1)(o:Own m1 d w B0)(nd:B0.Nodup)(hB:∀b∈B0,m.length<=b):Chg RR A m m1 ds xs (yh ks ds q d) (yh ks xs q w):=by
 rcases vV q ks ds.length with ⟨p,h⟩ | h
 .rw[h _ ds d rfl,h _ xs w hlen.symm];exact zeR p le o nd hB
 .rw[h _ ds d rfl,h _ xs w hlen.symm];exact za8 le o nd hB
theorem Inv.mutD {lo:Nat}{RR:Nat->Prop}{m:Me}{de:DEn}{lv:List Lv}{env:En}{A:Nat->List Nat}(I:Inv lo RR m de lv env A){j:Nat}{ks:List (List Int)}{ds:List Dat}(hd:de[j]?=some (some (.dct ks ds)))(hl:lv[j]?=some .full):
  ∃l xs,env[j]?=some (some (.ref l))/\m[l]?=some (.dct ks xs)/\ds.length=xs.length/\∀ (m1:Me) (ks':List (List Int)) (ds':List Dat) (ys:List Wd),Le m m1->ziV m m1 ds xs ds' ys ->
   ∃A1,Inv lo RR (m1.set l (.dct ks' ys)) (de.set j (some (.dct ks' ds'))) lv env A1/\Keep A m A1 (m1.set l (.dct ks' ys)):=by
 obtain ⟨w,a,b⟩:=I.slot j _ .full hd hl;have hjl:j < de.length:=(List.getElem?_eq_some_iff.mp hd).1;obtain ⟨l,xs,B,rfl,hA,hm,r⟩:=own_dct.mp b;have hlm:=(List.getElem?_eq_some_iff.mp hm).1;have nd:=I.nd j;rw[hA] at nd;refine ⟨l,xs,a,hm,r.len,λm1 ks' ds' ys le c=>?_⟩;obtain ⟨B',o,nb,hB⟩:=c B (List.nodup_cons.mp nd).2 r;have hlB:l∉B':=λz=>by
  rcases hB l z with z | z
  .exact (List.nodup_cons.mp nd).1 z
  .lia
 have sub:∀x∈l::B',x∈A j\/m.length<=x:=by
  intro x hx;rcases List.mem_cons.mp hx with rfl | hx
  .left;rw[hA];simp
  .rcases hB x hx with z | z
   .left;rw[hA];exact List.mem_cons_of_mem _ z
   .exact .inr z
 refine ⟨upd A j (l::B'),?_⟩;refine I.putO le (j:=j) (l:=l) (by rw[hA];simp) _ ?_ ?_ ?_ ?_ (by simp) rfl ?_ ?_
 .intro k x hx;by_cases e:k=j
  .subst e;rw[zh] at hx;rcases sub x hx with z | z
   .exact .inl ⟨k,z⟩
   .exact .inr z
  .rw[zg e] at hx;exact .inl ⟨k,hx⟩
 .intro k;by_cases e:k=j
  .subst e;rw[zh];exact List.nodup_cons.mpr ⟨hlB,nb⟩
  .rw[zg e];exact I.nd k
 .intro i k x h1 h2;by_cases e:i=j
  .by_cases f:k=j
   .rw[e,f]
   .rw[e,zh] at h1;rw[zg f] at h2;rcases sub x h1 with z | z
    .rw[e];exact I.dj j k x z h2
    .have:=(I.bd k x h2).2;lia
  .rw[zg e] at h1;by_cases f:k=j
   .rw[f,zh] at h2;rcases sub x h2 with z | z
    .rw[f];exact I.dj i j x h1 z
    .have:=(I.bd i x h1).2;lia
   .rw[zg f] at h2;exact I.dj i k x h1 h2
 .intro k x hx;by_cases e:k=j
  .rw[e,zh] at hx;rcases List.mem_cons.mp hx with rfl | hx
   .exact ⟨(I.bd j _ (by rw[hA];simp)).1,Nat.lt_of_lt_of_le hlm le.len⟩
   .refine ⟨?_,OwnL.lt ds' ys B' o x hx⟩;rcases hB x hx with z | z
    .exact (I.bd j x (by rw[hA];exact List.mem_cons_of_mem _ z)).1
    .exact Nat.le_trans I.lom z
  .rw[zg e] at hx;exact ⟨(I.bd k x hx).1,Nat.lt_of_lt_of_le (I.bd k x hx).2 le.len⟩
 .intro k d lk e h1 h2;rw[List.getElem?_set_ne (Ne.symm e)] at h1;exact ⟨h1,h2,zg e⟩
 .intro d lj h1 h2;rw[List.getElem?_set,if_pos rfl,if_pos hjl] at h1;cases h1;rw[hl] at h2;cases h2;refine ⟨_,a,?_⟩;rw[zh];exact own_dct.mpr ⟨l,ys,B',rfl,rfl,xg (le l _ hm),OwnL.frame ds' ys B' (λx hx o z=>by rw[yC (l:=l) (x:=x) (λe=>hlB (by rw[e];exact hx))];exact z) o⟩
section
variable {lev:Nat->Lv}{cl:Nat->List Wd->Me->Rz}{cd:Nat->List Dat->Rd}{lo:Nat}{RR:Nat->Prop}{m:Me}{de:DEn}{lv:List Lv}{env:En}{A:Nat->List Nat}
set_option tactic.hygienic true in
theorem zdg (H:CallO lev cl cd)(I:Inv lo RR m de lv env A)(j:Nat)(k e:Ex):SimS lo RR A m (exS cl (.dput j k e) env m) (exD lev cd (.dput j k e) de lv):=by
 show SimS _ _ _ _ ((evE cl e env m).bindS env _) _;refine SimS.okS λd h1=>SimS.okS λkv hk=>?_;split
 .next ks ds q hd hq =>
  split
  .next c =>
   obtain ⟨c1,c2,c3⟩:=c;obtain ⟨w,m1,h2,l1,r1⟩:=I.ok H.r h1 (Le.refl m);obtain ⟨wk,m2,h3,l2,r3⟩:=I.ok H.r hk l1;obtain ⟨B,ro,nd,hB⟩:=I.own H h1 h2;rw[c2] at ro;have ro:Own m1 d w B:=ro;obtain ⟨l,xs,he,hm,hlen,put⟩:=I.mutD hd c1;obtain ⟨A1,I1,K1⟩:=put m2 (x5 ks q) (yh ks ds q d) (yh ks xs q w) (l1.trans l2) (zeW (RR:=RR) (A:=A) ks q hlen (l1.trans l2) (Own.frame d w B (λx _ o z=>l2 x o z) ro) nd hB).1;rw[h2];show SimS _ _ _ _ ((evE cl (.var j) env m1).bindS env _) _;rw[vU he m1];show SimS _ _ _ _ ((evE cl k env m1).bindS env _) _;rw[h3];have e2:jF (.ref l) wk w m2=.ok .non (m2.set l (.dct (x5 ks q) (yh ks xs q w))):=by
    unfold jF;simp only[(l1.trans l2) l _ hm,qr r3 hq,if_pos c3]
   show SimS _ _ _ _ ((jF (.ref l) wk w m2).bindS env _) _;rw[e2];exact ⟨env,_,A1,rfl,I1,K1⟩
  .trivial
 .trivial
end
section
variable {lev:Nat->Lv}{cl:Nat->List Wd->Me->Rz}{cd:Nat->List Dat->Rd}{lo:Nat}{RR:Nat->Prop}
set_option tactic.hygienic true in
theorem Inv.bindSlot {m:Me}{de:DEn}{lv:List Lv}{env:En}{A:Nat->List Nat}(I:Inv lo RR m de lv env A)(i:Nat){d:Dat}{w:Wd}(h:Rep (xf RR A) m d w):Inv lo RR m (de.set i (some d)) (lv.set i (lvF d)) (env.set i (some w)) (upd A i [])/\Keep A m (upd A i []) m:=by
 refine I.store (Le.refl m) i (B:=[]) ?_ List.nodup_nil (by simp);unfold lvF;split
 .next f=>exact h.flat d w f
 .exact ⟨Rep.frame (λx o r z=>⟨⟨.inl r,by simp⟩,z⟩) _ _ h,rfl⟩
set_option tactic.hygienic true in
theorem wu {bw:Wd->En->Me->Rs}{bd:Dat->DEn->List Lv->Rsd}(hb:∀x w m de lv env A,Inv lo RR m de lv env A->Rep (xf RR A) m x w->SimS lo RR A m (bw w env m) (bd x de lv)):
  ∀ (ds:List Dat) (xs:List Wd) (m:Me) (de:DEn) (lv:List Lv) (env:En) (A:Nat->List Nat),Inv lo RR m de lv env A->RepL (xf RR A) m ds xs->SimS lo RR A m (wF bw xs env m) (xn bd ds de lv)
 | [],xs,m,de,lv,env,A,I,r=>by
  rw[r.nil_inv];exact ⟨env,m,A,rfl,I,Keep.refl A m⟩
 | d::ds,xs,m,de,lv,env,A,I,r=>by
  obtain ⟨x,xs,rfl,a,b⟩:=r.cons_inv;have h:=hb d x m de lv env A I a;unfold wF xn;cases z:bd d de lv with
  | next d1 l1 =>
   rw[z] at h;obtain ⟨e1,m1,A1,h1,I1,K1⟩:=h;rw[h1];exact SimS.keep K1 (wu hb ds xs m1 d1 l1 e1 A1 I1 (K1.repL b))
  | cont d1 l1 =>
   rw[z] at h;obtain ⟨e1,m1,A1,h1,I1,K1⟩:=h;rw[h1];exact SimS.keep K1 (wu hb ds xs m1 d1 l1 e1 A1 I1 (K1.repL b))
  | brk d1 l1 =>
   rw[z] at h;obtain ⟨e1,m1,A1,h1,I1,K1⟩:=h;rw[h1];exact ⟨e1,m1,A1,rfl,I1,K1⟩
  | ret d l =>
   rw[z] at h;obtain ⟨w,m1,B,h1,k⟩:=h;rw[h1];exact ⟨w,m1,B,rfl,k⟩
  | exc c d =>
   rw[z] at h;obtain ⟨w,e,m1,h1,k⟩:=h;rw[h1];exact ⟨w,e,m1,rfl,k⟩
  | no=>trivial
set_option tactic.hygienic true in
theorem vI {bw:Wd->En->Me->Rs}{bd:Dat->DEn->List Lv->Rsd}(hb:∀x w m de lv env A,Inv lo RR m de lv env A->Rep (xf RR A) m x w->SimS lo RR A m (bw w env m) (bd x de lv)){l:Nat}{xs0:List Wd}:
  ∀ (ds:List Dat) (i k:Nat) (m:Me) (de:DEn) (lv:List Lv) (env:En) (A:Nat->List Nat),Inv lo RR m de lv env A->(∀k,l∉A k)->m[l]?=some (.lst xs0)->RepL (xf RR A) m ds (xs0.drop i)->i+ds.length=xs0.length->ds.length < k->SimS lo RR A m (xZ bw l k i env m) (xn bd ds de lv)
 | [],i,0,m,de,lv,env,A,I,hl,hm,r,hi,hk=>by simp at hk
 | d::ds,i,0,m,de,lv,env,A,I,hl,hm,r,hi,hk=>by simp at hk
 | [],i,k+1,m,de,lv,env,A,I,hl,hm,r,hi,hk=>by
  unfold xZ xn zr;rw[hm];simp only;rw[List.getElem?_eq_none (by simp at hi;lia)];exact ⟨env,m,A,rfl,I,Keep.refl A m⟩
 | d::ds,i,k+1,m,de,lv,env,A,I,hl,hm,r,hi,hk=>by
  obtain ⟨x,q,e0,a,b⟩:=r.cons_inv;have hx:xs0[i]?=some x:=by
   have:(xs0.drop i)[0]?=some x:=by rw[e0];rfl
   simpa using this
  have hr:q=xs0.drop (i+1):=by
   have:(xs0.drop i).drop 1=q:=by rw[e0];rfl
   rw[<- this,List.drop_drop]
  rw[hr] at b;have hi':i+1+ds.length=xs0.length:=by simp at hi;lia
  have hk':ds.length < k:=by simp at hk;lia
  have h:=hb d x m de lv env A I a;unfold xZ xn zr;rw[hm];simp only;rw[hx];simp only;cases z:bd d de lv with
  | next d1 l1 =>
   rw[z] at h;obtain ⟨e1,m1,A1,h1,I1,K1⟩:=h;rw[h1];exact SimS.keep K1 (vI hb ds (i+1) k m1 d1 l1 e1 A1 I1 (K1.1 l _ hl hm).1 (K1.1 l _ hl hm).2 (K1.repL b) hi' hk')
  | cont d1 l1 =>
   rw[z] at h;obtain ⟨e1,m1,A1,h1,I1,K1⟩:=h;rw[h1];exact SimS.keep K1 (vI hb ds (i+1) k m1 d1 l1 e1 A1 I1 (K1.1 l _ hl hm).1 (K1.1 l _ hl hm).2 (K1.repL b) hi' hk')
  | brk d1 l1 =>
   rw[z] at h;obtain ⟨e1,m1,A1,h1,I1,K1⟩:=h;rw[h1];exact ⟨e1,m1,A1,rfl,I1,K1⟩
  | ret d l =>
   rw[z] at h;obtain ⟨w,m1,B,h1,k⟩:=h;rw[h1];exact ⟨w,m1,B,rfl,k⟩
  | exc c d =>
   rw[z] at h;obtain ⟨w,e,m1,h1,k⟩:=h;rw[h1];exact ⟨w,e,m1,rfl,k⟩
  | no=>trivial
set_option tactic.hygienic true in
theorem zeX {bw:Wd->En->Me->Rs}{bd:Dat->DEn->List Lv->Rsd}(H:CallO lev cl cd)(hb:∀x w m de lv env A,Inv lo RR m de lv env A->Rep (xf RR A) m x w->SimS lo RR A m (bw w env m) (bd x de lv)){m:Me}{de:DEn}{lv:List Lv}{env:En}{A:Nat->List Nat}(I:Inv lo RR m de lv env A)(it:Ex):
  SimS lo RR A m ((evE cl it env m).bindS env λw m1=>zcq bw w env m1) ((evD cd it de).bindS λd=>match itD d with
   | some xs=>xn bd xs de (if flat d then lv else xc it de lv)
   | none=>.no):=by
 have run:∀ (d:Dat) (w:Wd) (m1:Me) (xs:List Dat) (lv1:List Lv) (A1:Nat->List Nat),itD d=some xs->Inv lo RR m1 de lv1 env A1->Rep (xf RR A1) m1 d w->SimS lo RR A1 m1 (zcq bw w env m1) (xn bd xs de lv1):=by
  intro d w m1 xs lv1 A1 hi I1 r;cases d with
  | tup ds=>cases hi;obtain ⟨ys,rfl,r1⟩:=rep_tup.mp r;exact wu hb _ _ _ _ _ _ _ I1 r1
  | scr ns=>cases hi;rw[rep_scr.mp r];exact wu hb _ _ _ _ _ _ _ I1 (zj6 ns)
  | lst ds =>
   simp only[itD] at hi;split at hi
   .next z =>
    cases hi;obtain ⟨l,ys,rfl,hR,hm,r1⟩:=rep_lst.mp r;have:=r1.len;exact vI hb _ 0 (lim+1) m1 de lv1 env A1 I1 hR.2 hm (by simpa using r1) (by lia) (by lia)
   .cases hi
  | _=>cases hi
 cases z:evD cd it de with
 | no=>trivial
 | exc c d =>
  have:=I.bindE H.r it (f:=λw m1=>zcq bw w env m1) (g:=λd=>.no) (λ_ _ _ _ _ _ _=>trivial);rw[z] at this;exact this
 | ok d =>
  show SimS lo RR A m _ (match itD d with
   | some xs=>xn bd xs de (if flat d then lv else xc it de lv)
   | none=>.no)
  cases hi:itD d with
  | none=>trivial
  | some xs =>
   simp only;split
   .next f =>
    obtain ⟨w,m1,h2,l1,r1⟩:=I.ok H.r z (Le.refl m);rw[h2];exact SimS.keep (wt l1) (run d w m1 xs lv A hi (I.ext l1) (Own.rep d w [] (by simp) (r1.flat d w f)))
   .obtain ⟨A1,I1,K1,_,h⟩:=I.relEv H it;rw[z] at h;obtain ⟨w,m1,h2,l1,r1⟩:=h.sim;rw[h2];refine SimS.keep (K1.trans (wt l1)) (run d w m1 xs _ A1 hi (I1.ext l1) (Rep.frame (λx o r z=>⟨?_,z⟩) _ _ r1));rcases r with r | r
    .exact r
    .exact ⟨I.rr x (Nat.le_trans I.lom r),λk hk=>by have:=(I1.bd k x hk).2;lia⟩
set_option tactic.hygienic true in
theorem vJ {cw:En->Me->Rz}{bw:En->Me->Rs}{c:DEn->Rd}{bd:DEn->List Lv->Rsd}(hc:∀m de lv env A,Inv lo RR m de lv env A->match c de with | .ok d=>∃w m1,cw env m=.ok w m1/\Le m m1/\Rep RR m1 d w | .exc k d=>∃w m1,cw env m=.exc k w m1/\Le m m1/\Rep RR m1 d w | .no=>True)
  (hb:∀m de lv env A,Inv lo RR m de lv env A->SimS lo RR A m (bw env m) (bd de lv)):∀ (k:Nat) (m:Me) (de:DEn) (lv:List Lv) (env:En) (A:Nat->List Nat),Inv lo RR m de lv env A->SimS lo RR A m (vQ cw bw k env m) (yR c bd k de lv)
 | 0,m,de,lv,env,A,I=>trivial
 | k+1,m,de,lv,env,A,I=>by
  have h:=hc m de lv env A I;unfold vQ yR;cases z:c de with
  | no=>trivial
  | exc j d =>
   rw[z] at h;obtain ⟨w,m1,h1,l1,r1⟩:=h;rw[h1];exact ⟨w,env,m1,rfl,⟨λx o _ b=>l1 x o b,l1.len⟩,r1⟩
  | ok d =>
   rw[z] at h;obtain ⟨w,m1,h1,l1,r1⟩:=h;rw[h1];cases d with
   | bl b =>
    rw[rep_bl.mp r1];cases b with
    | false=>exact ⟨env,m1,A,rfl,I.ext l1,wt l1⟩
    | true =>
     have h2:=hb m1 de lv env A (I.ext l1);refine SimS.keep (wt l1) ?_;simp only;cases z2:bd de lv with
     | next d1 l2 =>
      rw[z2] at h2;obtain ⟨e1,m2,A1,h3,I1,K1⟩:=h2;rw[h3];exact SimS.keep K1 (vJ hc hb k m2 d1 l2 e1 A1 I1)
     | cont d1 l2 =>
      rw[z2] at h2;obtain ⟨e1,m2,A1,h3,I1,K1⟩:=h2;rw[h3];exact SimS.keep K1 (vJ hc hb k m2 d1 l2 e1 A1 I1)
     | brk d1 l2 =>
      rw[z2] at h2;obtain ⟨e1,m2,A1,h3,I1,K1⟩:=h2;rw[h3];exact ⟨e1,m2,A1,rfl,I1,K1⟩
     | ret d l =>
      rw[z2] at h2;obtain ⟨w,m2,B,h3,k⟩:=h2;rw[h3];exact ⟨w,m2,B,rfl,k⟩
     | exc c d =>
      rw[z2] at h2;obtain ⟨w,e,m2,h3,k⟩:=h2;rw[h3];exact ⟨w,e,m2,rfl,k⟩
     | no=>trivial
   | _=>trivial
theorem Inv.drop {m:Me}{de:DEn}{lv:List Lv}{env:En}{A:Nat->List Nat}(I:Inv lo RR m de lv env A)(i:Nat)(hi:i < de.length):Inv lo RR m (de.set i none) (lv.set i .full) env A:=by
 refine ⟨by simp[I.len],by simp[I.lvl],I.rr,I.lom,λk d l h1 h2=>?_,I.nd,I.dj,I.bd⟩;by_cases e:i=k
 .subst e;rw[List.getElem?_set,if_pos rfl] at h1;split at h1
  .cases h1
  .cases h1
 .rw[List.getElem?_set_ne e] at h1 h2;exact I.slot k d l h1 h2
set_option tactic.hygienic true in
set_option tactic.hygienic true in
theorem zeY {m:Me}{de de1:DEn}{lv:List Lv}{env:En}{A:Nat->List Nat}(I:Inv lo RR m de lv env A){j:Nat}{v:Int}(h:qv j de lv=some (v,de1)):
  ∃m1 A1,evE cl (.meth .pop (.var j) .unit) env m=.ok (.int v) m1/\Inv lo RR m1 de1 lv env A1/\Keep A m A1 m1:=by
 unfold qv at h;split at h
 .next ds hj =>
  split at h
  .next v' hv =>
   split at h
   .next oj =>
    cases h;obtain ⟨l,xs,e1,m1,rx,put⟩:=I.mut (kh hj) oj;obtain ⟨A1,I1,K1⟩:=put m ds.dropLast xs.dropLast (Le.refl m) (λ_=>(qw (RR:=RR) (A:=A)).1) (λ_=>(qw (RR:=RR) (A:=A)).2);rw[List.getLast?_eq_getElem?] at hv;obtain ⟨y,hy,ry⟩:=rx.get hv;rw[rep_int.mp ry] at hy;refine ⟨_,A1,?_,I1,K1⟩;rw[zba (x:=.ref l) (m1:=m) (vU e1 m)];simp only[mtR,m1];rw[<- rx.len];show (match xs[ds.length - 1]? with
     | some y=>Rz.ok y (m.set l (.lst xs.dropLast))
     | none=>.no)=_
    rw[hy]
   .cases h
  .cases h
 .cases h
set_option tactic.hygienic true in
theorem zeZ (H:CallO lev cl cd){m:Me}{de:DEn}{lv:List Lv}{env:En}{A:Nat->List Nat}(I:Inv lo RR m de lv env A)(e:Ex):SimS lo RR A m (exS cl (.ret e) env m) (exD lev cd (.ret e) de lv):=by
 show SimS _ _ _ _ ((evE cl e env m).bindS env _) ((evD cd e de).bindS _);cases z:evD cd e de with
 | no=>trivial
 | exc c d =>
  have:=I.bindE H.r e (f:=λw m1=>.ret w m1) (g:=λd=>.no) (λ_ _ _ _ _ _ _=>trivial);rw[z] at this;exact this
 | ok d =>
  obtain ⟨w,m1,h2,l1,r1⟩:=I.ok H.r z (Le.refl m);rw[h2];show SimS lo RR A m (.ret w m1) (.ret d (lvR lev e d lv));have kp:(∀ (x:Nat) o,(∀i,x∉A i)->m[x]?=some o->m1[x]?=some o)/\m.length<=m1.length:=⟨λx o _ b=>l1 x o b,l1.len⟩;have no:RepO (λx=>RR x/\x∉([]:List Nat)) m1 .no d w []:=⟨Rep.frame (λx o r z=>⟨⟨r,by simp⟩,z⟩) _ _ r1,rfl⟩;by_cases f:flat d=true
  .refine ⟨w,m1,[],rfl,kp,?_,List.nodup_nil,by simp⟩;unfold lvR;rw[if_pos f];exact r1.flat d w f
  .unfold lvR;rw[if_neg f];split
   .next i =>
    have hdi:de[i]?=some (some d):=by
     exact za3 z
    obtain ⟨l,hl⟩:=I.getlv hdi;obtain ⟨w',he,ro⟩:=I.slot i d l hdi hl;rw[vU he m] at h2;cases h2;rw[hl];refine ⟨_,_,A i,rfl,kp,?_,I.nd i,λb hb=>(I.bd i b hb).1⟩;exact ro.frame (λx o r z=>⟨⟨r.1,r.2 i⟩,z⟩) (λ_ _ _ z=>z)
   .next a b =>
    split
    .next c =>
     obtain ⟨hab,ha,hb⟩:=c;have:∃da db,de[a]?=some (some da)/\de[b]?=some (some db)/\d=.tup [da,db]:=by
      have hz:evD cd (.tup (.pair (.var a) (.pair (.var b) .unit))) de=((evD cd (.var a) de).bind λx=>((evD cd (.var b) de).bind λy=>.ok (.tup [y])).bind λy=>.ok (.tup (x::zL y))).bind λx=>if (zL x).length<=lim then .ok (.tup (zL x)) else .no:=rfl;rw[hz] at z;cases q1:de[a]? with
      | none=>rw[y0 (.inl q1)] at z;cases z
      | some o=>cases o with
       | none=>rw[y0 (.inr q1)] at z;cases z
       | some da =>
        rw[xI q1] at z;cases q2:de[b]? with
        | none=>rw[y0 (.inl q2)] at z;cases z
        | some o=>cases o with
         | none=>rw[y0 (.inr q2)] at z;cases z
         | some db =>
          rw[xI q2] at z;simp[Rd.bind,zL,lim] at z;exact ⟨da,db,rfl,rfl,z.symm⟩
     obtain ⟨da,db,h3,h4,rfl⟩:=this;obtain ⟨wa,ea,oa⟩:=I.slot a da .full h3 ha;obtain ⟨wb,eb,ob⟩:=I.slot b db .full h4 hb;have hw:evE cl (.tup (.pair (.var a) (.pair (.var b) .unit))) env m=.ok (.tup [wa,wb]) m:=by
      show (((evE cl (.var a) env m).bind λx m1=>((evE cl (.var b) env m1).bind λy m2=>.ok (.tup [y]) m2).bind λy m2=>.ok (.tup (x::zn y)) m2).bind λx m1=>if (zn x).length<=lim then .ok (.tup (zn x)) m1 else .no)=_;rw[vU ea m];simp only[Rz.bind];rw[vU eb m];simp[zn,lim]
     rw[hw] at h2;cases h2;refine ⟨_,_,A a++(A b++[]),rfl,kp,own_tup.mpr ⟨_,rfl,.cons oa (.cons ob .nil)⟩,?_,?_⟩
     .rw[List.append_nil];exact List.nodup_append.mpr ⟨I.nd a,I.nd b,λx hx y hy e=>hab (I.dj a b x hx (by rw[e];exact hy))⟩
     .intro x hx;rw[List.append_nil] at hx;rcases List.mem_append.mp hx with q | q
      .exact (I.bd a x q).1
      .exact (I.bd b x q).1
    .exact ⟨w,m1,[],rfl,kp,no,List.nodup_nil,by simp⟩
   .obtain ⟨B,ro,nd,hB⟩:=I.own H z h2;exact ⟨w,m1,B,rfl,kp,ro,nd,λb hb=>Nat.le_trans I.lom (hB b hb)⟩
set_option tactic.hygienic true in
theorem xT (H:CallO lev cl cd):∀ (s:Sm) (m:Me) (de:DEn) (lv:List Lv) (env:En) (A:Nat->List Nat),Inv lo RR m de lv env A->SimS lo RR A m (exS cl s env m) (exD lev cd s de lv)
 | .skip,m,de,lv,env,A,I=>by show SimS _ _ _ _ (.next env m) (.next de lv);exact ⟨env,m,A,rfl,I,Keep.refl A m⟩
 | .seq a b,m,de,lv,env,A,I=>by
  cases hv:yw a b with
  | some t=>rw[gh,hv];exact trivial
  | none =>
   have h:=xT H a m de lv env A I;rw[gh,hv];show SimS _ _ _ _ (match exS cl a env m with
    | .next e1 m1=>exS cl b e1 m1
    | r=>r) _
   cases z:exD lev cd a de lv with
   | next d1 l1 =>
    rw[z] at h;obtain ⟨e1,m1,A1,h1,I1,K1⟩:=h;rw[h1];exact SimS.keep K1 (xT H b m1 d1 l1 e1 A1 I1)
   | cont d1 l1 =>
    rw[z] at h;obtain ⟨e1,m1,A1,h1,I1,K1⟩:=h;rw[h1];exact ⟨e1,m1,A1,rfl,I1,K1⟩
   | brk d1 l1 =>
    rw[z] at h;obtain ⟨e1,m1,A1,h1,I1,K1⟩:=h;rw[h1];exact ⟨e1,m1,A1,rfl,I1,K1⟩
   | ret d l =>
    rw[z] at h;obtain ⟨w,m1,B,h1,k⟩:=h;rw[h1];exact ⟨w,m1,B,rfl,k⟩
   | exc c d =>
    rw[z] at h;obtain ⟨w,e,m1,h1,k⟩:=h;rw[h1];exact ⟨w,e,m1,rfl,k⟩
   | no=>trivial
 | .asg i e,m,de,lv,env,A,I=>zeT H I i e
 | .dput j k e,m,de,lv,env,A,I=>zdg H I j k e
 | .aug i op e,m,de,lv,env,A,I=>zeV H I i op e
 | .ite c a b,m,de,lv,env,A,I=>by
  refine I.bindE H.r c λd w m1 _ _ l1 r1=>?_;cases d with
  | bl t =>
   rw[rep_bl.mp r1];cases t with
   | true=>exact xT H a m1 de lv env A (I.ext l1)
   | false=>exact xT H b m1 de lv env A (I.ext l1)
  | _=>trivial
 | .forv i it body,m,de,lv,env,A,I=>by
  refine zeX H (λx w m de lv env A I r=>?_) I it;obtain ⟨I1,K1⟩:=I.bindSlot i r;exact SimS.keep K1 (xT H body _ _ _ _ _ I1)
 | .popI j e a b,m,de,lv,env,A,I=>by
  show SimS _ _ _ _ ((evE cl (.cmp .ne (.meth .pop (.var j) .unit) e) env m).bindS env _) (match qv j de lv with
   | some (v,de1)=>(evD cd e de1).okS λd=>match d with
    | .int w=>if v=w then exD lev cd b de1 lv else exD lev cd a de1 lv
    | _=>.no
   | none=>.no)
  cases hp:qv j de lv with
  | none=>trivial
  | some q =>
   obtain ⟨v,de1⟩:=q;refine SimS.okS λd he=>?_;cases d with
   | int w =>
    obtain ⟨m1,A1,e1,I1,K1⟩:=zeY (cl:=cl) I hp;obtain ⟨w',m2,h2,l2,r2⟩:=I1.ok H.r he (Le.refl _);rw[rep_int.mp r2] at h2;have ec:evE cl (.cmp .ne (.meth .pop (.var j) .unit) e) env m=.ok (.bl (! decide (v=w))) m2:=by
     show (evE cl (.meth .pop (.var j) .unit) env m).bind (λx m1=>(evE cl e env m1).bind λy m2=>cop .ne x y m2)=_;rw[e1];show (evE cl e env m1).bind _=_;rw[h2];rfl
    rw[ec];refine SimS.keep (K1.trans (wt l2)) ?_;by_cases q:v=w
    .simp only[q,decide_true,Bool.not_true,Rz.bindS,if_true];exact xT H b m2 de1 lv env A1 (I1.ext l2)
    .simp only[q,decide_false,Bool.not_false,Rz.bindS,if_false];exact xT H a m2 de1 lv env A1 (I1.ext l2)
   | _=>trivial
 | .while c body,m,de,lv,env,A,I=>by
  refine vJ (λm de lv env A I=>?_) (λm de lv env A I=>xT H body m de lv env A I) _ m de lv env A I;have h:=zf H.r c RR m de env (I.envR _);cases z:evD cd c de with
  | no=>trivial
  | ok d=>rw[z] at h;obtain ⟨w,m1,h1,l1,r1⟩:=h;exact ⟨w,m1,h1,l1,I.rf r1⟩
  | exc k d=>rw[z] at h;obtain ⟨w,m1,h1,l1,r1⟩:=h;exact ⟨w,m1,h1,l1,I.rf r1⟩
 | .ret e,m,de,lv,env,A,I=>zeZ H I e
 | .expr e,m,de,lv,env,A,I=>by
  have dflt:SimS lo RR A m (exS cl (.expr e) env m) ((evD cd e de).bindS λ_=>.next de lv):=by
   exact I.bindE H.r e λd w m1 _ _ l1 _=>⟨env,m1,A,rfl,I.ext l1,Keep.refl A m1⟩
  cases e with
  | meth n o a=>
   cases n with
   | append=>
    cases o with
    | var j=>
     cases a with
     | pair e u=>cases u with
      | unit=>exact zde H I j e
      | _=>exact trivial
     | _=>exact trivial
    | _=>exact trivial
   | reverse=>
    cases o with
    | var j=>
     cases a with
     | unit=>exact zdf (cl:=cl) (cd:=cd) (lev:=lev) I j
     | _=>exact trivial
    | _=>exact trivial
   | _=>exact trivial
  | _=>exact dflt
 | .never,m,de,lv,env,A,I=>by exact trivial
end
theorem jN {α β:Type}(f:α->β)(z:β)(xs:List α)(n i:Nat):(xs.map f++List.replicate n z)[i]?=if i < xs.length then (xs[i]?).map f else if i < xs.length+n then some z else none:=by
 rw[List.getElem?_append,List.length_map];split
 .rw[List.getElem?_map]
 .rw[List.getElem?_replicate];by_cases h:i - xs.length < n
  .rw[if_pos h,if_pos (by lia)]
  .rw[if_neg h,if_neg (by lia)]
set_option tactic.hygienic true in
theorem zbP {R:Nat->Prop}{m:Me}{ds:List Dat}{ws:List Wd}(fn:Fn)(h:RepL R m ds ws):Inv m.length (Rf R m.length) m (xo fn ds) (xp fn ds) (xQ fn ws) (λ_=>[]):=by
 have hl:=h.len;refine ⟨?_,?_,λl hl=>.inr hl,Nat.le_refl _,?_,λ_=>List.nodup_nil,(λ_ _ _ h=>by cases h),(λ_ _ h=>by cases h)⟩
 .simp[xo,xQ,hl]
 .simp[xo,xp]
 .intro i d l h1 h2;unfold xo at h1;unfold xp at h2;rw[jN] at h1 h2;by_cases hi:i < ds.length
  .rw[if_pos hi] at h1 h2;obtain ⟨d',e1,e2⟩:=Option.map_eq_some_iff.mp h1;cases e2;rw[e1] at h2;cases h2;obtain ⟨w,hw,r⟩:=h.get e1;refine ⟨w,?_,?_⟩
   .unfold xQ;rw[jN,if_pos (by lia),hw];rfl
   .unfold lvF;split
    .next f=>exact r.flat d w f
    .exact ⟨Rep.frame (λx o r z=>⟨⟨.inl r,λ_ h=>by cases h⟩,z⟩) _ _ r,rfl⟩
  .rw[if_neg hi] at h1;split at h1 <;> cases h1
set_option tactic.hygienic true in
theorem ze0 {lev:Nat->Lv}{cl:Nat->List Wd->Me->Rz}{cd:Nat->List Dat->Rd}(H:CallO lev cl cd)(k:Nat)(fn:Fn)(ds:List Dat)(ws:List Wd)(R:Nat->Prop)(m:Me)(h:RepL R m ds ws):SimO R m (we lev k) (jZ cl fn ws m) (zG lev cd k fn ds):=by
 unfold jZ zG;rw[h.len];split
 .have s:=xT H fn.body m _ _ _ _ (zbP fn h);cases z:exD lev cd fn.body (xo fn ds) (xp fn ds) with
  | next d1 l1 =>
   rw[z] at s;obtain ⟨e1,m1,A1,h1,I1,K1⟩:=s;rw[h1];refine ⟨.non,m1,[],rfl,λl o q=>(K1.1 l o (λ_ h=>by cases h) q).2,?_,List.nodup_nil,by simp⟩;unfold we RepO Own;simp[flat]
  | ret d l =>
   rw[z] at s;obtain ⟨w,m1,B,h1,⟨kp,_⟩,ro,nd,hB⟩:=s;rw[h1];have le:Le m m1:=λl o q=>kp l o (λ_ h=>by cases h) q;show SimO R m (we lev k) (.ok w m1) (if flat d || wD l (lev k) then .ok d else .no);split
   .next c =>
    by_cases f:flat d=true
    .refine ⟨w,m1,[],rfl,le,?_,List.nodup_nil,by simp⟩;unfold we;rw[if_pos f];exact (ro.rep (R':=λ_=>True) (λ_ _=>trivial) (λ_ _=>trivial)).flat d w f
    .have g:wD l (lev k)=true:=by simpa [f] using c
     unfold SimO we;simp only[if_neg f];cases e:lev k with
     | no =>
      refine ⟨w,m1,[],rfl,le,⟨?_,rfl⟩,List.nodup_nil,by simp⟩;exact ro.rep (λx r=>⟨r.1,by simp⟩) (λb hb=>⟨.inr (hB b hb),by simp⟩)
     | top =>
      rw[e] at g;cases l with
      | top=>exact ⟨w,m1,B,rfl,le,ro,nd,hB⟩
      | no=>cases g
      | full=>cases g
     | full =>
      rw[e] at g;cases l with
      | full=>exact ⟨w,m1,B,rfl,le,ro,nd,hB⟩
      | no=>cases g
      | top=>cases g
   .trivial
  | exc c d =>
   rw[z] at s;obtain ⟨w,e,m1,h1,⟨kp,_⟩,r⟩:=s;rw[h1];exact ⟨w,m1,rfl,λl o q=>kp l o (λ_ h=>by cases h) q,r⟩
  | brk _ _=>trivial
  | cont _ _=>trivial
  | no=>trivial
 .trivial
theorem qx (lev:Nat->Lv)(T:List Fn):∀d:Nat,CallO lev (xa T d) (k9 lev T d)
 | 0=>λk ds ws R m h=>trivial
 | d+1=>λk ds ws R m h=>by
  unfold xa k9;cases T[k]? with
  | none=>trivial
  | some fn=>exact ze0 (qx lev T d) k fn ds ws R m h
theorem ze1 (lev:Nat->Lv)(T:List Fn)(d i:Nat)(ns:List Int)(h:k9 lev T d i [.scr ns]=.ok (.bl true)):∃m,xa T d i [.rol (ns.map Wd.int)] []=.ok (.bl true) m:=by
 have s:=qx lev T d i [.scr ns] [.rol (ns.map Wd.int)] (λ_=>True) [] (.cons (rep_scr.mpr rfl) .nil);rw[h] at s;obtain ⟨w,m',h1,_,r⟩:=s.sim;rw[rep_bl.mp r] at h1;exact ⟨m',h1⟩
section
variable (lev:Nat->Lv)(cl:Nat->List Dat->Rd)(de:DEn)(lv:List Lv)
@[simp] theorem zjX (d:Dat)(f:Dat->Rd):(Rd.ok d).bind f=f d:=rfl
@[simp] theorem zjW (d:Dat)(f:Dat->Rsd):(Rd.ok d).bindS f=f d:=rfl
@[simp] theorem zj5 (d:Dat)(f:Dat->Rsd):(Rd.ok d).okS f=f d:=rfl
@[simp] theorem zd (i:Int):evD cl (.lit (.int i)) de=.ok (.int i):=rfl
@[simp] theorem zhU (i:Bool):evD cl (.lit (.bl i)) de=.ok (.bl i):=rfl
@[simp] theorem zU:evD cl (.lit .non) de=.ok .non:=rfl
@[simp] theorem zV (s:List Nat):evD cl (.lit (.str s)) de=.ok (.str s):=rfl
@[simp] theorem zt (op:Bo)(a b:Ex):evD cl (.bin op a b) de=(evD cl a de).bind λx=>(evD cl b de).bind λy=>zI op x y:=rfl
@[simp] theorem zF (op:Co)(a b:Ex):evD cl (.cmp op a b) de=(evD cl a de).bind λx=>(evD cl b de).bind λy=>yo op x y:=rfl
@[simp] theorem zl:evD cl .unit de=.ok (.tup []):=rfl
@[simp] theorem zj (a b:Ex):evD cl (.pair a b) de=(evD cl a de).bind λx=>(evD cl b de).bind λy=>.ok (.tup (x::zL y)):=rfl
@[simp] theorem zu (k:Nat)(a:Ex):evD cl (.call k a) de=(evD cl a de).bind λx=>cl k (zL x):=rfl
@[simp] theorem xU (b:Blf)(a:Ex):evD cl (.blt b a) de=(evD cl a de).bind λx=>xx b (zL x):=rfl
@[simp] theorem zZ (a b:Ex):evD cl (.idx a b) de=(evD cl a de).bind λx=>(evD cl b de).bind λy=>zK x y:=rfl
@[simp] theorem xq (a:Ex):evD cl (.lst a) de=(evD cl a de).bind λx=>newD (zL x):=rfl
@[simp] theorem vK (a:Ex):evD cl (.tup a) de=(evD cl a de).bind λx=>if (zL x).length<=lim then .ok (.tup (zL x)) else .no:=rfl
@[simp] theorem vL (a b c:Ex):evD cl (.rng a b c) de=(evD cl a de).bind λx=>(evD cl b de).bind λy=>(evD cl c de).bind λz=>k7 x y z:=rfl
@[simp] theorem zb (d:Dat)(r:DEn):evD cl (.var 0) (some d::r)=.ok d:=rfl
@[simp] theorem za (i:Nat)(d:Option Dat)(r:DEn):evD cl (.var (i+1)) (d::r)=evD cl (.var i) r:=rfl
@[simp] theorem wf (a:Ex):evD cl (.neg a) de=(evD cl a de).bind λx=>match x with
  | .int i=>.ok (.int (-i))
  | _=>.no:=rfl
@[simp] theorem wg (a:Ex):evD cl (.not a) de=(evD cl a de).bind λx=>match x with
  | .bl b=>.ok (.bl (! b))
  | _=>.no:=rfl
@[simp] theorem yS (a b:Ex):evD cl (.and a b) de=(evD cl a de).bind λx=>match x with
  | .bl true=>evD cl b de
  | .bl false=>.ok (.bl false)
  | _=>.no:=rfl
@[simp] theorem zfQ (a b:Ex):evD cl (.or a b) de=(evD cl a de).bind λx=>match x with
  | .bl false=>evD cl b de
  | .bl true=>.ok (.bl true)
  | _=>.no:=rfl
@[simp] theorem zdh (p q:Co)(a b c:Ex):evD cl (.chain p q a b c) de=(evD cl a de).bind λx=>(evD cl b de).bind λy=>(yo p x y).bind λz=>match z with
  | .bl true=>(evD cl c de).bind λu=>yo q y u
  | .bl false=>.ok (.bl false)
  | _=>.no:=rfl
@[simp] theorem vM (c a b:Ex):evD cl (.ife c a b) de=(evD cl c de).bind λx=>match x with
  | .bl true=>evD cl a de
  | .bl false=>evD cl b de
  | _=>.no:=rfl
@[simp] theorem zbb (a:Ex):evD cl (.lrng a) de=(evD cl a de).bind λx=>match x with
  | .int j=>if -lim<=j/\j<=lim then newD (yt 0 1 j.toNat) else .no
  | _=>.no:=rfl
theorem kj (elt it cond:Ex):evD cl (.comp elt it cond) de=(evD cl it de).bind λx=>match itD x with
  | some xs=>zR (λx=>evD cl cond (de++[some x])) (λx=>evD cl elt (de++[some x])) xs []
  | none=>.no:=rfl
theorem w9 (k:Kd)(elt a b cond:Ex):evD cl (.compP k elt a b cond) de=(evD cl a de).bind λx=>(evD cl b de).bind λy=>match yQ k x y with
  | some ps=>zR (λp=>evD cl cond (de++[some p.1]++[some p.2])) (λp=>evD cl elt (de++[some p.1]++[some p.2])) ps []
  | none=>.no:=rfl
@[simp] theorem zjO (a b:Int):deq (.int a) (.int b)=decide (a=b):=rfl
@[simp] theorem zjP (a b:Bool):deq (.bl a) (.bl b)=(a == b):=rfl
@[simp] theorem zjQ (a b:List Nat):deq (.str a) (.str b)=decide (a=b):=rfl
@[simp] theorem zjR (a b:List Dat):deq (.tup a) (.tup b)=deqL a b:=rfl
@[simp] theorem zdi (a b:List Dat):deq (.lst a) (.lst b)=deqL a b:=rfl
@[simp] theorem ziW (k:Nat)(a:Int):yK (k+1) (.int a)=true:=rfl
@[simp] theorem zjv (k:Nat)(a:Bool):yK (k+1) (.bl a)=true:=rfl
@[simp] theorem ziX (k:Nat)(a:List Nat):yK (k+1) (.str a)=true:=rfl
@[simp] theorem ziY (k:Nat):yK (k+1) .non=true:=rfl
@[simp] theorem ziZ (k:Nat)(a:List Dat):yK (k+1) (.tup a)=eqOkL k a:=rfl
@[simp] theorem ja (k:Nat)(a:List Dat):yK (k+1) (.lst a)=eqOkL k a:=rfl
@[simp] theorem zhV (k:Nat):eqOkL k []=true:=rfl
@[simp] theorem zha (k:Nat)(d:Dat)(a:List Dat):eqOkL k (d::a)=(yK k d && eqOkL k a):=rfl
theorem xL (k:Nat):∀ (a:List Dat),eqOkL k a=a.all (yK k)
 | []=>by simp
 | d::a=>by simp[xL k a]
@[simp] theorem zbc:yF=11+1:=rfl
@[simp] theorem zbd (i j:Int):yo .lt (.int i) (.int j)=.ok (.bl (decide (i < j))):=rfl
@[simp] theorem zi0 (i j:Int):yo .le (.int i) (.int j)=.ok (.bl (decide (i<=j))):=rfl
@[simp] theorem zi1 (i j:Int):yo .gt (.int i) (.int j)=.ok (.bl (decide (j < i))):=rfl
@[simp] theorem yN (i j:Int):yo .eq (.int i) (.int j)=.ok (.bl (decide (i=j))):=rfl
@[simp] theorem zi2 (i j:Int):yo .ne (.int i) (.int j)=.ok (.bl (! decide (i=j))):=rfl
@[simp] theorem zhb (i j:Bool):yo .eq (.bl i) (.bl j)=.ok (.bl (i == j)):=rfl
@[simp] theorem zjS (i j:Bool):yo .ne (.bl i) (.bl j)=.ok (.bl (!(i == j))):=rfl
@[simp] theorem ym (i j:Int):zI .add (.int i) (.int j)=.ok (.int (i+j)):=rfl
@[simp] theorem yT (i j:Int):zI .sub (.int i) (.int j)=.ok (.int (i - j)):=rfl
theorem yX (i j:Int)(h:yM i=true):zI .mul (.int i) (.int j)=.ok (.int (i * j)):=by simp[zI,h]
theorem ze2 (i j:Int)(h:yM j=true):zI .mul (.int i) (.int j)=.ok (.int (i * j)):=by simp[zI,h]
theorem ve (i j:Int)(h:0 < j)(k:j < 1073741824):zI .fdiv (.int i) (.int j)=.ok (.int (i / j)):=by simp[zI,h,k]
theorem xV (i j:Int)(h:0 < j):zI .mod (.int i) (.int j)=.ok (.int (i % j)):=by simp[zI,h]
theorem zdj (i j:Int)(h:0<=j/\j<=1000000/\yM i=true):zI .pow (.int i) (.int j)=.ok (.int (i ^ j.toNat)):=by simp only[zI];rw[if_pos h]
theorem jb {i:Int}(h:-18446744073709551616 < i)(k:i < 18446744073709551616):yM i=true:=by unfold yM big;simp[h,k]
@[simp] theorem zi (xs:List Dat):zL (.tup xs)=xs:=rfl
@[simp] theorem zjw (xs:List Dat):xx .len [.lst xs]=.ok (.int xs.length):=rfl
@[simp] theorem zjx (xs:List Dat):xx .len [.tup xs]=.ok (.int xs.length):=rfl
@[simp] theorem zjy (ns:List Int):xx .len [.scr ns]=.ok (.int ns.length):=by simp[xx,xH]
@[simp] theorem zjT (b:Bool):xx .int [.bl b]=.ok (.int (b2i b)):=rfl
theorem xr {xs:List Dat}(h:xs.length<=lim):newD xs=.ok (.lst xs):=by unfold newD;rw[if_pos h]
theorem zdk {n i:Nat}(h:i < n):ix n (i:Int)=some i:=by unfold ix;rw[if_pos (by lia),if_pos (by lia)];simp
theorem ze3 {n:Nat}(h:0 < n):ix n (-1)=some (n - 1):=by unfold ix;rw[if_neg (by lia),if_pos (by lia)];congr 1;lia
theorem zbe {xs:List Dat}{i:Nat}{d:Dat}(h:xs[i]?=some d):zK (.lst xs) (.int (i:Int))=.ok d:=by
 have:=(List.getElem?_eq_some_iff.mp h).1;simp[zK,xH,zdk this,h]
theorem wv {xs:List Dat}{d:Dat}(h:xs[xs.length - 1]?=some d):zK (.lst xs) (.int (-1))=.ok d:=by
 have:=(List.getElem?_eq_some_iff.mp h).1;simp[zK,xH,ze3 (show 0 < xs.length by lia),h]
theorem zaj {a b c:Int}(h:-lim<=a/\a<=lim/\-lim<=b/\b<=lim/\(c=1\/c=-1)):k7 (.int a) (.int b) (.int c)=.ok (.tup (yt a c (gO a b c))):=by
 simp only[k7];rw[if_pos h]
@[simp] theorem qy (a c:Int)(n:Nat):(yt a c n).length=n:=by simp[yt]
theorem xM (a c:Int)(n i:Nat)(h:i < n):(yt a c n)[i]?=some (.int (a+c * (i:Int))):=by
 simp[yt,h]
@[simp] theorem ww (a c:Int):∀ (n:Nat),flatL (yt a c n)=true:=by
 intro n;unfold yt;generalize List.range n=l
 induction l with
 | nil=>rfl
 | cons x l ih=>simp[flatL,flat,ih]
@[simp] theorem vf (xs:List Dat):flat (.tup xs)=flatL xs:=by rw[flat]
@[simp] theorem xN (xs:List Dat):flat (.lst xs)=false:=by rw[flat]
@[simp] theorem zi3 (i:Int):flat (.int i)=true:=by rw[flat]
@[simp] theorem zjz (i:Bool):flat (.bl i)=true:=by rw[flat]
@[simp] theorem zi4:flat .non=true:=by rw[flat]
@[simp] theorem zi5 (s:List Nat):flat (.str s)=true:=by rw[flat]
@[simp] theorem zi6 (s:List Int):flat (.scr s)=true:=by rw[flat]
@[simp] theorem zhW:flatL []=true:=by rw[flatL]
@[simp] theorem zak (d:Dat)(ds:List Dat):flatL (d::ds)=(flat d && flatL ds):=by rw[flatL]
@[simp] theorem zhc (l:List Int):flatL (l.map Dat.int)=true:=by
 induction l with
 | nil=>rfl
 | cons x l ih=>simp[ih]
@[simp] theorem vN (xs:List Dat):itD (.tup xs)=some xs:=rfl
@[simp] theorem zjU (xs:List Int):itD (.scr xs)=some (xs.map .int):=rfl
theorem jc {xs:List Dat}(h:xs.length<=lim):itD (.lst xs)=some xs:=by simp[itD,h]
@[simp] theorem yn:exD lev cl .skip de lv=.next de lv:=rfl
@[simp] theorem zJ (e:Ex):exD lev cl (.ret e) de lv=(evD cl e de).bindS λd=>.ret d (lvR lev e d lv):=rfl
@[simp] theorem zy (i:Nat)(e:Ex):exD lev cl (.asg i e) de lv=(evD cl e de).bindS λd=>wN lev i e d de lv:=rfl
@[simp] theorem yy (c:Ex)(a b:Sm):exD lev cl (.ite c a b) de lv=(evD cl c de).bindS λx=>match x with
  | .bl true=>exD lev cl a de lv
  | .bl false=>exD lev cl b de lv
  | _=>.no:=rfl
theorem zS {lev:Nat->Lv}{i:Nat}{e:Ex}{d:Dat}{de:DEn}{lv:List Lv}(h:flat d=true):wN lev i e d de lv=.next (de.set i (some d)) (lv.set i .full):=by
 unfold wN;rw[if_pos (yu lev e d h)]
theorem yj {lev:Nat->Lv}{i:Nat}{e:Ex}{d:Dat}{de:DEn}{lv:List Lv}(h:lvE lev e d=.full):wN lev i e d de lv=.next (de.set i (some d)) (lv.set i .full):=by
 unfold wN;rw[if_pos h]
theorem yU {α:Type}{body:α->DEn->List Lv->Rsd}(P:Nat->DEn->List Lv->Prop)(xs:List α){de:DEn}{lv:List Lv}(h0:P 0 de lv)
  (hs:∀ (i:Nat) x de lv,xs[i]?=some x->P i de lv->∃de' lv',body x de lv=.next de' lv'/\P (i+1) de' lv'):∃de' lv',xn body xs de lv=.next de' lv'/\P xs.length de' lv':=by
 induction xs generalizing P de lv with
 | nil=>exact ⟨de,lv,rfl,h0⟩
 | cons x xs ih =>
  obtain ⟨d1,l1,e1,p1⟩:=hs 0 x de lv rfl h0;unfold xn;rw[e1];exact ih (λi=>P (i+1)) p1 (λi y de lv hy hp=>hs (i+1) y de lv (by simpa using hy) hp)
end
namespace Lib
end Lib
section
variable (lev:Nat->Lv)(cl:Nat->List Dat->Rd)(de:DEn)(lv:List Lv)
@[simp] theorem zhd (i:Nat)(op:Bo)(e:Ex):exD lev cl (.aug i op e) de lv=match de[i]? with
  | some (some (.int a))=>(evD cl e de).okS λy=>match y with
   | .int b=>(zI op (.int a) (.int b)).okS λz=>.next (de.set i (some z)) (lv.set i .full)
   | _=>.no
  | _=>.no:=rfl
@[simp] theorem xW (j:Nat)(e:Ex):exD lev cl (.expr (.meth .append (.var j) (.pair e .unit))) de lv=(evD cl e de).okS λd=>match xJ de j with
   | some ds=>if ds.length < lim then match xb lev e d j de lv with
    | some (de1,lv1)=>.next (de1.set j (some (.lst (ds++[d])))) lv1
    | none=>.no
    else .no
   | none=>.no:=rfl
@[simp] theorem ze4 (j:Nat):exD lev cl (.expr (.meth .reverse (.var j) .unit)) de lv=match xJ de j with
   | some ds=>if ya lv j then .next (de.set j (some (.lst ds.reverse))) lv else .no
   | none=>.no:=rfl
theorem wO (i:Nat)(it:Ex)(body:Sm):exD lev cl (.forv i it body) de lv=(evD cl it de).bindS λd=>match itD d with
  | some xs=>xn (λx de lv=>exD lev cl body (de.set i (some x)) (lv.set i (lvF x))) xs de (if flat d then lv else xc it de lv)
  | none=>.no:=rfl
noncomputable def Rsd.then (r:Rsd)(f:DEn->List Lv->Rsd):Rsd:=match r with
 | .next d l=>f d l
 | r=>r
@[simp] theorem ze (d:DEn)(l:List Lv)(f:DEn->List Lv->Rsd):(Rsd.next d l).then f=f d l:=rfl
@[simp] theorem zi7 (d:Dat)(l:Lv)(f:DEn->List Lv->Rsd):(Rsd.ret d l).then f=.ret d l:=rfl
theorem zT {a b:Sm}(h:yw a b=none):exD lev cl (.seq a b) de lv=(exD lev cl a de lv).then (exD lev cl b):=by
 rw[gh,h];cases exD lev cl a de lv <;> rfl
theorem zdl (a:Sm)(c d:Sm):yw a (.seq c d)=none:=rfl
@[simp] theorem zw (a:Sm)(c d:Sm):exD lev cl (.seq a (.seq c d)) de lv=(exD lev cl a de lv).then (exD lev cl (.seq c d)):=zT lev cl de lv (zdl a c d)
theorem zdm (a:Sm)(e:Ex):yw a (.ret e)=none:=rfl
@[simp] theorem yf (a:Sm)(e:Ex):exD lev cl (.seq a (.ret e)) de lv=(exD lev cl a de lv).then (exD lev cl (.ret e)):=zT lev cl de lv (zdm a e)
theorem zdn (a:Sm)(c:Ex)(x y:Sm):yw a (.ite c x y)=none:=rfl
@[simp] theorem zhe (a:Sm)(c:Ex)(x y:Sm):exD lev cl (.seq a (.ite c x y)) de lv=(exD lev cl a de lv).then (exD lev cl (.ite c x y)):=zT lev cl de lv (zdn a c x y)
theorem zbQ (a:Sm)(i:Nat)(e:Ex)(x:Sm):yw a (.forv i e x)=none:=rfl
@[simp] theorem zjA (a:Sm)(i:Nat)(e:Ex)(x:Sm):exD lev cl (.seq a (.forv i e x)) de lv=(exD lev cl a de lv).then (exD lev cl (.forv i e x)):=zT lev cl de lv (zbQ a i e x)
theorem zal (a:Sm)(e:Ex)(x:Sm):yw a (.while e x)=none:=rfl
@[simp] theorem zi8 (a:Sm)(e:Ex)(x:Sm):exD lev cl (.seq a (.while e x)) de lv=(exD lev cl a de lv).then (exD lev cl (.while e x)):=zT lev cl de lv (zal a e x)
theorem zdo (a:Sm)(i:Nat)(e:Ex):yw a (.asg i e)=none:=rfl
@[simp] theorem zdp (a:Sm)(i:Nat)(e:Ex):exD lev cl (.seq a (.asg i e)) de lv=(exD lev cl a de lv).then (exD lev cl (.asg i e)):=zT lev cl de lv (zdo a i e)
theorem zdq (a:Sm)(i:Nat)(op:Bo)(e:Ex):yw a (.aug i op e)=none:=rfl
@[simp] theorem zjV (a:Sm)(i:Nat)(op:Bo)(e:Ex):exD lev cl (.seq a (.aug i op e)) de lv=(exD lev cl a de lv).then (exD lev cl (.aug i op e)):=zT lev cl de lv (zdq a i op e)
theorem zbR (a:Sm)(e:Ex):yw a (.expr e)=none:=rfl
@[simp] theorem gi (a:Sm)(e:Ex):exD lev cl (.seq a (.expr e)) de lv=(exD lev cl a de lv).then (exD lev cl (.expr e)):=zT lev cl de lv (zbR a e)
theorem zbS (a:Sm): yw a .skip=none:=rfl
@[simp] theorem zjB (a:Sm): exD lev cl (.seq a .skip) de lv=(exD lev cl a de lv).then (exD lev cl .skip):=zT lev cl de lv (zbS a)
theorem zam (a:Sm): yw a .never=none:=rfl
@[simp] theorem zi9 (a:Sm): exD lev cl (.seq a .never) de lv=(exD lev cl a de lv).then (exD lev cl .never):=zT lev cl de lv (zam a)
end
namespace Lib
section
noncomputable def row (r:List Int):Dat:=.lst (r.map .int)
noncomputable def tab (R:List (List Int)):Dat:=.lst (R.map row)
noncomputable def vW (t:Int)(b:Bool):Bool:=if b then ! decide (t=1) else !(decide (t=0) || decide (t=1))
end
end Lib
namespace Lib
section
noncomputable def S (R:List (List Int))(r c:Nat):Int:=((R.take r).map (λx=>x.getD c 0)).sum
noncomputable def ac (R:List (List Int))(r c:Nat):Int:=((R.getD r []).take c).sum
noncomputable def bad (R:List (List Int))(r c:Nat):Bool:=vW (ac R r (c+1)) (decide ((c:Int)=(R.length:Int) - 1)) || vW (S R (r+1) c) (decide ((r:Int)=(R.length:Int) - 1))
def Sq (R:List (List Int)):Prop:=∀r∈R,r.length=R.length
theorem ze5 {R:List (List Int)}{r:Nat}{x:List Int}(h:R[r]?=some x):zK (tab R) (.int (r:Int))=.ok (row x):=zbe (by simp[h])
theorem kn {x:List Int}{c:Nat}{v:Int}(h:x[c]?=some v):zK (row x) (.int (c:Int))=.ok (.int v):=zbe (by simp[h])
theorem zan (R:List (List Int))(r c:Nat)(x:List Int)(h:R[r]?=some x):S R (r+1) c=S R r c+x.getD c 0:=by
 unfold S;rw[List.take_add_one,h];simp
end
end Lib
namespace Lib
section
variable {lev:Nat->Lv}{cl:Nat->List Dat->Rd}{k:Nat}
noncomputable def vg:Fn:=⟨1,1,(.seq (.ite (.cmp .eq (.bin .mod (.var 0) (.lit (.int 8))) (.lit (.int 5))) (.ret (.bin .add (.lit (.int 1)) (.bin .mod (.bin .fdiv (.var 0) (.lit (.int 8))) (.lit (.int 12))))) .skip) (.ret (.bin .add (.lit (.int 1)) (.bin .mod (.bin .fdiv (.var 0) (.lit (.int 8))) (.lit (.int 6))))))⟩
theorem zao (c:Int):∃n:Nat,1<=n/\n<=12/\zG lev cl k vg [.int c]=.ok (.int n):=by
 have e1:zI .mod (.int c) (.int 8)=.ok (.int (c % 8)):=xV _ _ (by decide);have e2:zI .fdiv (.int c) (.int 8)=.ok (.int (c / 8)):=ve _ _ (by decide) (by decide);have e3:∀x:Int,zI .mod (.int x) (.int 12)=.ok (.int (x % 12)):=λx=>xV _ _ (by decide);have e4:∀x:Int,zI .mod (.int x) (.int 6)=.ok (.int (x % 6)):=λx=>xV _ _ (by decide);by_cases h:c % 8=5
 .refine ⟨(1+c / 8 % 12).toNat,by lia,by lia,?_⟩;have:(((1+c / 8 % 12).toNat:Nat):Int)=1+c / 8 % 12:=by lia
  simp[zG,vg,xo,xp,zE,lvR,e1,e2,e3,e4,h,this]
 .refine ⟨(1+c / 8 % 6).toNat,by lia,by lia,?_⟩;have:(((1+c / 8 % 6).toNat:Nat):Int)=1+c / 8 % 6:=by lia
  simp[zG,vg,xo,xp,zE,lvR,e1,e2,e3,e4,h,this]
def Inc (x:List Int):Prop:=∀i,i+1 < x.length->x.getD i 0 < x.getD (i+1) 0
def zdr (big sm:List Int):Prop:=big.length=sm.length+1/\∀i,i < sm.length->big.getD i 0<=sm.getD i 0/\sm.getD i 0<=big.getD (i+1) 0
theorem wz {x:List Int}{i:Nat}{v:Int}(h:x[i]?=some v):x.getD i 0=v:=by rw[List.getD_eq_getElem?_getD,h];rfl
theorem jd {x:List Int}{i:Nat}(h:i < x.length):x[i]?=some (x.getD i 0):=by
 rw[List.getD_eq_getElem?_getD,List.getElem?_eq_getElem h];rfl
end
end Lib
namespace Lib
section
theorem xB {x:List Int}{v:Int}{i:Nat}(h:i < x.length):(x++[v]).getD i 0=x.getD i 0:=by
 simp[List.getD_eq_getElem?_getD,List.getElem?_append_left h]
theorem vX {x:List Int}{v:Int}:(x++[v]).getD x.length 0=v:=by
 simp[List.getD_eq_getElem?_getD]
theorem gm {x:List (List Int)}{v:List Int}{i:Nat}(h:i < x.length):(x++[v]).getD i []=x.getD i []:=by
 simp[List.getD_eq_getElem?_getD,List.getElem?_append_left h]
theorem xh {x:List (List Int)}{v:List Int}:(x++[v]).getD x.length []=v:=by
 simp[List.getD_eq_getElem?_getD]
theorem Inc.app {x:List Int}{v:Int}(h:Inc x)(hv:0 < x.length->x.getD (x.length - 1) 0 < v):Inc (x++[v]):=by
 intro i hi;simp only[List.length_append,List.length_cons,List.length_nil] at hi;by_cases z:i+1 < x.length
 .rw[xB (by lia),xB z];exact h i z
 .have e:i+1=x.length:=by lia
  rw[xB (by lia),e,vX];have:=hv (by lia)
  rwa [show x.length - 1=i by lia] at this
noncomputable def yz (n:Nat):List Int:=(List.range n).map λ(i:Nat)=>(i:Int)
theorem zap (n:Nat):Dat.lst (yt 0 1 n)=row (yz n):=by
 unfold row yz yt;rw[List.map_map];congr 1;apply List.map_congr_left;intro i _;simp
structure TriL (n:Nat)(L:List (List Int)):Prop where
 first:L.getD 0 []=yz n
 len:∀j,j < L.length->(L.getD j []).length+j=n
 inc:∀j,j < L.length->Inc (L.getD j [])
 bd:∀j,j < L.length->∀i,i < (L.getD j []).length->0<=(L.getD j []).getD i 0/\(L.getD j []).getD i 0 < n
 lace:∀j,j+1 < L.length->zdr (L.getD j []) (L.getD (j+1) [])
theorem wP {n i:Nat}(h:i < n):(yz n).getD i 0=i:=wz (by simp[yz,h])
theorem TriL.one (n:Nat):TriL n [yz n]:=by
 refine ⟨rfl,?_,?_,?_,?_⟩
 .intro j hj;simp at hj;subst hj;simp[yz]
 .intro j hj i hi;simp at hj;subst hj;simp only[List.getD_cons_zero] at hi ⊢;have:i+1 < n:=by simpa [yz] using hi
  rw[wP (by lia),wP this];lia
 .intro j hj i hi;simp at hj;subst hj;simp only[List.getD_cons_zero] at hi ⊢;have:i < n:=by simpa [yz] using hi
  rw[wP this];lia
 .intro j hj;simp at hj
theorem TriL.app {n:Nat}{L:List (List Int)}{x:List Int}(h:TriL n L)(hL:0 < L.length)(hi:Inc x)(hl:zdr (L.getD (L.length - 1) []) x):TriL n (L++[x]):=by
 have e:=h.len (L.length - 1) (by lia);have lt:∀ {j},j < L.length->(L++[x]).getD j []=L.getD j []:=λhj=>gm hj;refine ⟨by rw[lt hL];exact h.first,?_,?_,?_,?_⟩
 .intro j hj;by_cases z:j < L.length
  .rw[lt z];exact h.len j z
  .have:j=L.length:=by simp at hj;lia
   subst this;rw[xh];have:=hl.1;lia
 .intro j hj;by_cases z:j < L.length
  .rw[lt z];exact h.inc j z
  .have:j=L.length:=by simp at hj;lia
   subst this;rw[xh];exact hi
 .intro j hj i hi';by_cases z:j < L.length
  .rw[lt z] at hi' ⊢;exact h.bd j z i hi'
  .have:j=L.length:=by simp at hj;lia
   subst this;rw[xh] at hi' ⊢;have h1:=hl.2 i hi';have h2:=h.bd (L.length - 1) (by lia) i (by have:=hl.1;lia);have h3:=h.bd (L.length - 1) (by lia) (i+1) (by have:=hl.1;lia);lia
 .intro j hj;simp only[List.length_append,List.length_cons,List.length_nil] at hj;by_cases z:j+1 < L.length
  .rw[lt (by lia),lt z];exact h.lace j z
  .have e2:j+1=L.length:=by lia
   rw[lt (by lia),e2,xh]
   rwa [show L.length - 1=j by lia] at hl
end
end Lib
namespace Lib
section
theorem yV {β:Type}{c e:β->Rd}{α:Type}(f:α->β)(g:α->Dat):∀ (xs:List α) (acc:List Dat),(∀x∈xs,c (f x)=.ok (.bl true))->(∀x∈xs,e (f x)=.ok (g x))->acc.length+xs.length<=lim->zR c e (xs.map f) acc=.ok (.lst (acc++xs.map g))
 | [],acc,_,_,h=>by unfold zR;rw[List.map_nil];simp only;rw[xr (by simpa using h)];simp
 | x::xs,acc,hc,he,h=>by
  rw[List.map_cons];unfold zR;simp only[List.length_cons] at h;rw[hc x (by simp)];simp only[zjX];rw[he x (by simp)];simp only[zjX];rw[if_pos (by lia),yV f g xs (acc++[g x]) (λy hy=>hc y (by simp[hy])) (λy hy=>he y (by simp[hy])) (by simp;lia)];simp
theorem qz {c e:Dat->Rd}(a s:Int)(n:Nat)(g:Nat->Dat)(hc:∀i,i < n->c (.int (a+s * (i:Int)))=.ok (.bl true))(he:∀i,i < n->e (.int (a+s * (i:Int)))=.ok (g i))(h:n<=lim):zR c e (yt a s n) []=.ok (.lst ((List.range n).map g)):=by
 unfold yt;rw[yV (λ(i:Nat)=>Dat.int (a+s * (i:Int))) g (List.range n) [] (λi hi=>hc i (by simpa using hi)) (λi hi=>he i (by simpa using hi)) (by simpa using h)];simp
noncomputable def mem (x:List Int)(c:Int):Bool:=x.any (λv=>decide (v=c))
theorem zds (x:List Int)(c:Int):yo .isin (.int c) (row x)=.ok (.bl (mem x c)):=by
 have h:eqOkL yF (x.map Dat.int)=true:=by
  rw[xL];simp
 have h2:(x.map Dat.int).any (λy=>deq y (.int c))=mem x c:=by
  simp only[mem,List.any_map];congr 1
 simp only[yo,row,xH,inD];rw[h,h2];simp[j7]
noncomputable def y6 (n:Nat)(x y:List Int):List Int:=(List.range n).map λ(c:Nat)=>b2i (mem x c) - b2i (mem y c)
noncomputable def zB (X:List (List Int))(i:Nat):List Int:=if i=0 then [] else X.getD (i - 1) []
noncomputable def sg (X:List (List Int)):List (List Int):=(List.range X.length).map λi=>y6 X.length (X.getD i []) (zB X i)
end
end Lib
namespace Lib
structure Tri (n:Nat)(X:List (List Int)):Prop where
 len:X.length=n
 rlen:∀j,j < n->(X.getD j []).length=j+1
 inc:∀j,j < n->Inc (X.getD j [])
 bd:∀j,j < n->∀i,i < j+1->0<=(X.getD j []).getD i 0/\(X.getD j []).getD i 0 < n
 lace:∀j,j+1 < n->zdr (X.getD (j+1) []) (X.getD j [])
 last:X.getD (n - 1) []=yz n
theorem Tri.of {n:Nat}{L:List (List Int)}(hn:1<=n)(h:TriL n L)(hl:L.length=n):Tri n L.reverse:=by
 have g:∀j,j < n->L.reverse.getD j []=L.getD (n - 1 - j) []:=by
  intro j hj;rw[List.getD_eq_getElem?_getD,List.getD_eq_getElem?_getD,List.getElem?_reverse (by lia),hl]
 refine ⟨by simp[hl],λj hj=>?_,λj hj=>?_,λj hj i hi=>?_,λj hj=>?_,?_⟩
 .rw[g j hj];have:=h.len (n - 1 - j) (by lia);lia
 .rw[g j hj];exact h.inc _ (by lia)
 .rw[g j hj];have:=h.len (n - 1 - j) (by lia);exact h.bd _ (by lia) i (by lia)
 .rw[g (j+1) hj,g j (by lia)];have:=h.lace (n - 1 - (j+1)) (by lia)
  rwa [show n - 1 - (j+1)+1=n - 1 - j by lia] at this
 .rw[g (n - 1) (by lia),show n - 1 - (n - 1)=0 by lia];exact h.first
theorem Inc.lt {x:List Int}(h:Inc x):∀ {i j:Nat},i < j->j < x.length->x.getD i 0 < x.getD j 0:=by
 intro i j hij
 induction j with
 | zero=>lia
 | succ j ih =>
  intro hj;have h1:=h j hj;by_cases z:i=j
  .subst z;exact h1
  .have:=ih (by lia) (by lia);lia
theorem Inc.nodup {x:List Int}(h:Inc x):x.Nodup:=by
 rw[List.Nodup,List.pairwise_iff_getElem];intro i j hi hj hij e;have:=h.lt hij hj;rw[wz (List.getElem?_eq_getElem hi),wz (List.getElem?_eq_getElem hj)] at this;lia
theorem ze6 {x:List Int}{v:Int}(h:v∈x):∃i,i < x.length/\x.getD i 0=v:=by
 obtain ⟨i,hi,e⟩:=List.getElem_of_mem h;exact ⟨i,hi,wz (by rw[List.getElem?_eq_getElem hi,e])⟩
noncomputable def cnt (x:List Int)(c:Nat):Int:=((List.range c).map λ(j:Nat)=>b2i (mem x j)).sum
noncomputable def low (x:List Int)(c:Nat):Int:=(x.map λ(v:Int)=>b2i (decide (v < (c:Int)))).sum
theorem je (x:List Int)(c:Nat):cnt x (c+1)=cnt x c+b2i (mem x c):=by
 simp[cnt,List.range_succ]
theorem zdt (x:List Int)(nd:x.Nodup)(c:Nat):low x (c+1)=low x c+b2i (mem x c):=by
 induction x with
 | nil=>simp[low,mem,b2i]
 | cons v x ih =>
  obtain ⟨hv,nd⟩:=List.nodup_cons.mp nd;have ih:=ih nd;have e1:low (v::x) (c+1)=b2i (decide (v < (c+1:Nat)))+low x (c+1):=by simp[low]
  have e2:low (v::x) c=b2i (decide (v < c))+low x c:=by simp[low]
  have e3:mem (v::x) c=(decide (v=c) || mem x c):=by simp[mem]
  rw[e1,e2,e3,ih];by_cases h:v=c
  .have:mem x c=false:=by
    rw[mem,List.any_eq_false];intro w hw;simp only[decide_eq_true_eq];intro e;exact hv (by rw[h,<- e];exact hw)
   rw[this];simp[h,b2i];lia
  .have:decide (v < (c+1:Nat))=decide (v < c):=by
    by_cases q:v < c
    .simp[q];lia
    .simp[q];lia
   rw[this];simp[h];lia
theorem zdu {x:List Int}(h:∀v∈x,0<=v):low x 0=0:=by
 induction x with
 | nil=>rfl
 | cons v x ih =>
  have e:low (v::x) 0=b2i (decide (v < (0:Nat)))+low x 0:=by simp[low]
  rw[e,ih (λw hw=>h w (by simp[hw]))];have:=h v (by simp);have:¬ v < ((0:Nat):Int):=by simp;lia
  rw[decide_eq_false this];rfl
theorem kq {x:List Int}(nd:x.Nodup)(h:∀v∈x,0<=v):∀c,cnt x c=low x c
 | 0=>by rw[zdu h];rfl
 | c+1=>by rw[je,zdt x nd,kq nd h c]
theorem jf {x:List Int}{n:Nat}(h:∀v∈x,v < n):low x n=x.length:=by
 induction x with
 | nil=>rfl
 | cons v x ih =>
  have e:low (v::x) n=b2i (decide (v < n))+low x n:=by simp[low]
  rw[e,ih (λw hw=>h w (by simp[hw])),decide_eq_true (h v (by simp))];simp[b2i];lia
theorem zaq {c:Nat}:∀ (sm big:List Int),sm.length<=big.length->(∀i,i < sm.length->big.getD i 0<=sm.getD i 0)->low sm c<=low big c
 | [],big,_,_=>by
  have:∀x:List Int,0<=low x c:=by
   intro x
   induction x with
   | nil=>exact Int.le_refl _
   | cons v x ih =>
    have e:low (v::x) c=b2i (decide (v < c))+low x c:=by simp[low]
    rw[e];unfold b2i;split <;> lia
  exact this big
 | s::sm,[],h,_=>by simp at h
 | s::sm,b::big,h,q=>by
  have e1:low (s::sm) c=b2i (decide (s < c))+low sm c:=by simp[low]
  have e2:low (b::big) c=b2i (decide (b < c))+low big c:=by simp[low]
  have h0:=q 0 (by simp);simp only[List.getD_cons_zero] at h0;have ih:=zaq (c:=c) sm big (by simpa using h) (λi hi=>by simpa using q (i+1) (by simpa using hi));rw[e1,e2];have:b2i (decide (s < c))<=b2i (decide (b < c)):=by
   by_cases z:s < c
   .rw[decide_eq_true z,decide_eq_true (by lia)];exact Int.le_refl _
   .rw[decide_eq_false z];unfold b2i;simp;split <;> lia
  lia
theorem zdv {big sm:List Int}{c:Nat}(h:zdr big sm):low sm c<=low big c/\low big c<=low sm c+1:=by
 obtain ⟨hl,h⟩:=h;refine ⟨zaq sm big (by lia) (λi hi=>(h i hi).1),?_⟩;cases big with
 | nil=>simp at hl
 | cons b bs =>
  have e2:low (b::bs) c=b2i (decide (b < c))+low bs c:=by simp[low]
  have:=zaq (c:=c) bs sm (by simp at hl;lia) (λi hi=>by have:=(h i (by simp at hl;lia)).2;simpa using this);rw[e2];have:b2i (decide (b < c))<=1:=by unfold b2i;split <;> lia
  lia
theorem gn (X:List (List Int)):(sg X).length=X.length:=by simp[sg]
theorem zdw {X:List (List Int)}{r:Nat}(h:r < X.length):(sg X)[r]?=some (y6 X.length (X.getD r []) (zB X r)):=by simp[sg,h]
theorem zbT (n:Nat)(x y:List Int):(y6 n x y).length=n:=by simp[y6]
theorem zbU {n c:Nat}(x y:List Int)(h:c < n):(y6 n x y).getD c 0=b2i (mem x c) - b2i (mem y c):=wz (by simp[y6,h])
theorem zbV {n:Nat}(x y:List Int):∀ {c:Nat},c<=n->((y6 n x y).take c).sum=cnt x c - cnt y c:=by
 intro c hc
 induction c with
 | zero=>simp[cnt]
 | succ c ih =>
  rw[List.take_add_one,je,je,List.sum_append,ih (by lia)];have:(y6 n x y)[c]?=some (b2i (mem x c) - b2i (mem y c)):=by simp[y6,show c < n by lia]
  rw[this];simp;lia
theorem zja (X:List (List Int)):Sq (sg X):=by
 intro r hr;simp only[sg,List.mem_map] at hr;obtain ⟨i,_,rfl⟩:=hr;rw[zbT,gn]
theorem sg_S (X:List (List Int)){c:Nat}(hc:c < X.length):∀ {r:Nat},r<=X.length->S (sg X) r c=b2i (mem (zB X r) c):=by
 intro r
 induction r with
 | zero=>intro _;simp[S,zB,mem,b2i]
 | succ r ih =>
  intro hr;rw[zan (sg X) r c _ (zdw (by lia)),ih (by lia),zbU _ _ hc];have:zB X (r+1)=X.getD r []:=by simp[zB]
  rw[this];lia
theorem zar {n c:Nat}(h:c < n):mem (yz n) c=true:=by
 rw[mem,List.any_eq_true];exact ⟨c,List.mem_map.mpr ⟨c,by simpa using h,rfl⟩,by simp⟩
theorem zhf {n:Nat}{X:List (List Int)}(h:Tri n X){r c:Nat}(hr:r < n)(hc:c < n):bad (sg X) r c=false:=by
 have hX:=h.len;have b01:∀b:Bool,b2i b=0\/b2i b=1:=by intro b;cases b <;> simp[b2i]
 have hbd:∀j,j < n->∀v∈X.getD j [],0<=v/\v < n:=by
  intro j hj v hv;obtain ⟨i,hi,rfl⟩:=ze6 hv;rw[h.rlen j hj] at hi;exact h.bd j hj i hi
 have hac:ac (sg X) r (c+1)=low (X.getD r []) (c+1) - low (zB X r) (c+1):=by
  unfold ac;rw[List.getD_eq_getElem?_getD,zdw (by lia)];show ((y6 X.length (X.getD r []) (zB X r)).take (c+1)).sum=_;rw[zbV _ _ (by lia),kq (h.inc r hr).nodup (λv hv=>(hbd r hr v hv).1)];congr 1;unfold zB;split
  .exact kq List.nodup_nil (by simp) _
  .exact kq (h.inc _ (by lia)).nodup (λv hv=>(hbd _ (by lia) v hv).1) _
 have hrange:(ac (sg X) r (c+1)=0\/ac (sg X) r (c+1)=1)/\(c=n - 1->ac (sg X) r (c+1)=1):=by
  rw[hac];by_cases z:r=0
  .subst z;have e:zB X 0=[]:=rfl;have e0:low (zB X 0) (c+1)=0:=rfl;have hl:(X.getD 0 []).length=1:=h.rlen 0 hr;have:low (X.getD 0 []) (c+1)=0\/low (X.getD 0 []) (c+1)=1:=by
    cases hx:X.getD 0 [] with
    | nil=>rw[hx] at hl;cases hl
    | cons v x =>
     rw[hx] at hl;have:x=[]:=List.eq_nil_of_length_eq_zero (by simpa using hl);subst this;have:=b01 (decide (v < ((c+1:Nat):Int)));simpa [low] using this
   refine ⟨by lia,λec=>?_⟩;have hf:low (X.getD 0 []) (c+1)=(X.getD 0 []).length:=jf (λv hv=>by have:=(hbd 0 hr v hv).2;lia);rw[hf,hl,e0];rfl
  .have e:zB X r=X.getD (r - 1) []:=by simp[zB,z]
   have hla:=h.lace (r - 1) (by lia);rw[show r - 1+1=r by lia] at hla;have:=zdv (c:=c+1) hla;rw[e];refine ⟨by lia,λec=>?_⟩;have hf:low (X.getD r []) (c+1)=(X.getD r []).length:=jf (λv hv=>by have:=(hbd r hr v hv).2;lia);have hg:low (X.getD (r - 1) []) (c+1)=(X.getD (r - 1) []).length:=jf (λv hv=>by have:=(hbd (r - 1) (by lia) v hv).2;lia);rw[hf,hg,h.rlen r hr,h.rlen (r - 1) (by lia)];lia
 have hS:S (sg X) (r+1) c=b2i (mem (X.getD r []) c):=by
  rw[sg_S X (by lia) (by lia)];simp[zB]
 have hSr:(S (sg X) (r+1) c=0\/S (sg X) (r+1) c=1)/\(r=n - 1->S (sg X) (r+1) c=1):=by
  rw[hS];refine ⟨b01 _,λe=>?_⟩;rw[e,h.last,zar hc];rfl
 have off:∀ (t:Int) (b:Bool),(t=0\/t=1)->(b=true->t=1)->vW t b=false:=by
  intro t b h1 h2;cases b with
  | true=>simp[vW,h2 rfl]
  | false=>rcases h1 with h | h <;> simp[vW,h]
 unfold bad;rw[Bool.or_eq_false_iff];refine ⟨off _ _ hrange.1 λe=>hrange.2 ?_,off _ _ hSr.1 λe=>hSr.2 ?_⟩
 .simp only[decide_eq_true_eq,gn] at e;lia
 .simp only[decide_eq_true_eq,gn] at e;lia
end Lib
namespace Lib
section
variable {lev:Nat->Lv}{cl:Nat->List Dat->Rd}{k:Nat}
theorem zas {α β:Type}{xs:List α}{ys:List β}{i:Nat}{a:α}{b:β}(h:xs[i]?=some a)(h2:ys[i]?=some b):(xs.zip ys)[i]?=some (a,b):=List.getElem?_zip_eq_some.mpr ⟨h,h2⟩
noncomputable def zN (R:List (List Int))(i:Nat):List Int:=(List.range R.length).map λc=>S R i c
noncomputable def vh (R:List (List Int)):List (List Int):=(List.range (R.length+1)).map (zN R)
theorem zat (R:List (List Int)):Dat.lst (List.replicate R.length [Dat.int 0]).flatten=row (zN R 0):=by
 have:(List.replicate R.length [Dat.int 0]).flatten=List.replicate R.length (Dat.int 0):=by
  generalize R.length=n
  induction n with
  | zero=>rfl
  | succ n ih=>rw[List.replicate_succ,List.flatten_cons,ih,List.replicate_succ];rfl
 rw[this];unfold row zN;congr 1;rw[List.map_map];refine List.ext_getElem? λi=>?_;by_cases h:i < R.length
 .simp[h,S]
 .simp[h]
theorem ze7 (a b:List Int):yQ .zip (row a) (row b)=if a.length<=lim/\b.length<=lim then some ((a.zip b).map λp=>(Dat.int p.1,Dat.int p.2)) else none:=by
 simp only[yQ,row,List.length_map];rw[List.zip_map];rfl
theorem zbW {R:List (List Int)}(h:Sq R){i:Nat}(hi:i < R.length):((zN R i).zip (R.getD i [])).map (λp=>p.1+p.2)=zN R (i+1):=by
 obtain ⟨x,hx⟩:∃x,R[i]?=some x:=⟨R[i],by simp[hi]⟩;have hg:R.getD i []=x:=by rw[List.getD_eq_getElem?_getD,hx];rfl
 have hl:x.length=R.length:=h x (List.mem_of_getElem? hx);rw[hg];refine List.ext_getElem? λc=>?_;by_cases hc:c < R.length
 .have e1:(zN R i)[c]?=some (S R i c):=by simp[zN,hc]
  have e2:x[c]?=some (x.getD c 0):=jd (by lia);have e3:(zN R (i+1))[c]?=some (S R (i+1) c):=by simp[zN,hc]
  rw[e3,zan R i c x hx,List.getElem?_map,zas e1 e2];rfl
 .rw[List.getElem?_eq_none (by simp[zN];lia),List.getElem?_eq_none (by simp[zN];lia)]
noncomputable def zbf:Sm:=(.seq (.asg 1 (.compP .zip (.bin .add (.var 4) (.var 5)) (.var 1) (.var 3) (.lit (.bl true)))) (.expr (.meth .append (.var 2) (.pair (.var 1) .unit))))
noncomputable def zdx:Fn:=⟨1,4,(.seq (.asg 1 (.bin .mul (.lst (.pair (.lit (.int 0)) .unit)) (.blt .len (.pair (.var 0) .unit)))) (.seq (.asg 2 (.lst (.pair (.var 1) .unit))) (.seq (.forv 3 (.var 0) zbf) (.ret (.var 2)))))⟩
theorem vj (e:Ex)(x:List Int)(he:∀i:Int,lvE lev e (.int i)=.full):(x.map Dat.int).all (λd=>lvE lev e d == .full)=true:=by
 rw[List.all_map,List.all_eq_true];intro v _;simp[he]
theorem zbX {R:List (List Int)}(h:Sq R)(hn:R.length<=100){i:Nat}(hi:i < R.length){A:List (List Int)}(hA:A.length < lim){l1:Lv}:
  exD lev cl zbf [some (tab R),some (row (zN R i)),some (tab A),some (row (R.getD i []))] [.no,l1,.top,.no]=.next [some (tab R),some (row (zN R (i+1))),some (tab (A++[zN R (i+1)])),some (row (R.getD i []))] [.no,.no,.top,.no]:=by
 have hx:(R.getD i []).length=R.length:=by
  have hg:R.getD i []=R[i]:=by rw[List.getD_eq_getElem?_getD,List.getElem?_eq_getElem hi];rfl
  rw[hg];exact h _ (List.getElem_mem hi)
 have hev:evD cl (.compP .zip (.bin .add (.var 4) (.var 5)) (.var 1) (.var 3) (.lit (.bl true))) [some (tab R),some (row (zN R i)),some (tab A),some (row (R.getD i []))]=.ok (row (zN R (i+1))):=by
  rw[w9];simp only[zb,za,zjX,ze7];rw[if_pos (by rw[hx];simp[zN];unfold lim;lia)];simp only;rw[yV (λ(p:Int×Int)=>(Dat.int p.1,Dat.int p.2)) (λp=>.int (p.1+p.2)) _ [] (λp _=>by simp) (λp _=>by simp) (by rw[List.length_zip,hx];simp[zN];unfold lim;lia)];rw[<- zbW h hi];simp[row]
 have hlv:lvE lev (.compP .zip (.bin .add (.var 4) (.var 5)) (.var 1) (.var 3) (.lit (.bl true))) (row (zN R (i+1)))=.full:=by
  unfold row
  first | rw[wq] | rw[xl]
  simp only[xN,Bool.false_eq_true,if_false];rw[if_pos (vj _ _ λi=>by simp)]
 unfold zbf;rw[gi,zy,hev];simp only[zjW];rw[yj hlv];simp only[ze,List.set_cons_succ,List.set_cons_zero];rw[xW];simp only[zb,za,zj5];have hls:xJ [some (tab R),some (row (zN R (i+1))),some (tab A),some (row (R.getD i []))] 2=some (A.map row):=rfl;rw[hls];simp only[List.length_map];rw[if_pos hA];simp[xb,ya,row,downs,tab]
theorem zdy {R:List (List Int)}(h:Sq R)(hn:R.length<=100)(hlev:lev k=.no):zG lev cl k zdx [tab R]=.ok (tab (vh R)):=by
 have main:=yU (body:=λx de lv=>exD lev cl zbf (de.set 3 (some x)) (lv.set 3 (lvF x)))
  (λi de lv=>∃ (p3:Option Dat) (l1 l3:Lv),de=[some (tab R),some (row (zN R i)),some (tab ((vh R).take (i+1))),p3]/\lv=[.no,l1,.top,l3])
  (R.map row) (de:=[some (tab R),some (row (zN R 0)),some (tab [zN R 0]),none]) (lv:=[.no,.no,.top,.full])
  ⟨none,.no,.full,by simp[vh,List.range_succ_eq_map],rfl⟩ ?_
 .obtain ⟨de',lv',e,p3,l1,l3,rfl,rfl⟩:=main;unfold zG;rw[if_pos (by rfl)];show zE (lev k) (exD lev cl (.seq _ (.seq _ (.seq _ _))) [some (tab R),none,none,none] [lvF (tab R),.full,.full,.full])=_;rw[show lvF (tab R)=.no from by simp[lvF,tab],zw];have hlen:xx .len [tab R]=.ok (.int R.length):=by simp[tab]
  have hmul:zI .mul (.lst [.int 0]) (.int R.length)=.ok (row (zN R 0)):=by
   simp only[zI];rw[if_pos (by unfold lim;lia),Int.toNat_natCast,<- zat,xr];simp;unfold lim;lia
  simp only[zy,zt,xq,zj,zl,zd,xU,zb,zjX,zi,hlen];rw[xr (by simp;unfold lim;lia)];simp only[zjX,hmul,zjW];rw[yj (by simp[row])];simp only[ze,List.set_cons_succ,List.set_cons_zero];rw[zw];simp only[zy,xq,zj,zl,zb,za,zjX,zi];rw[xr (by simp;unfold lim;lia)];have ha:wN lev 2 (.lst (.pair (.var 1) .unit)) (.lst [row (zN R 0)]) [some (tab R),some (row (zN R 0)),none,none] [.no,.full,.full,.full]=.next [some (tab R),some (row (zN R 0)),some (tab [zN R 0]),none] [.no,.no,.top,.full]:=by
   simp[wN,row,xc,downs,tab]
  simp only[zjW,ha,ze];rw[yf,wO];have hit:itD (tab R)=some (R.map row):=jc (by simp;unfold lim;lia);have hfl:flat (tab R)=false:=by simp[tab]
  simp only[zb,zjW,hit,hfl];have hrel:(if false=true then [Lv.no,Lv.no,Lv.top,Lv.full] else xc (.var 0) [some (tab R),some (row (zN R 0)),some (tab [zN R 0]),none] [Lv.no,Lv.no,Lv.top,Lv.full])=[.no,.no,.top,.full]:=rfl;rw[hrel,e,ze];rw[List.length_map,List.take_of_length_le (by simp[vh])];simp[zE,lvR,hlev,wD,tab]
 .rintro i x de lv hx ⟨p3,l1,l3,rfl,rfl⟩;have hi:i < R.length:=by
   have:=(List.getElem?_eq_some_iff.mp hx).1;simpa using this
  have hxi:x=row (R.getD i []):=by
   rw[List.getElem?_map,List.getElem?_eq_getElem hi] at hx;cases hx;rw[List.getD_eq_getElem?_getD,List.getElem?_eq_getElem hi];rfl
  subst hxi;refine ⟨_,_,?_,some (row (R.getD i [])),.no,.no,rfl,rfl⟩;simp only[List.set_cons_succ,List.set_cons_zero,show lvF (row (R.getD i []))=.no from by simp[lvF,row]];rw[zbX h hn hi (by simp[vh];unfold lim;lia)];have e2:(vh R).take (i+1+1)=(vh R).take (i+1)++[zN R (i+1)]:=by
   rw[List.take_add_one];congr 1;simp[vh,hi]
  rw[e2]
theorem zdz (s:Int)(x:List Int)(h:x.length<=lim):yQ .enum (row x) (.int s)=some ((List.range x.length).map λ(i:Nat)=>(Dat.int (s+i),Dat.int (x.getD i 0))):=by
 simp only[yQ,row,List.length_map];rw[if_pos h];congr 1;refine List.ext_getElem? λi=>?_;by_cases hi:i < x.length
 .rw[zas (a:=Dat.int (s+i)) (b:=Dat.int (x.getD i 0)) (by rw[xM _ _ _ _ hi,Int.one_mul]) (by rw[List.getElem?_map,jd hi];rfl)];simp[hi]
 .rw[List.getElem?_eq_none (by simp;lia),List.getElem?_eq_none (by simp;lia)]
end
end Lib
namespace Lib
section
theorem deqL_refl:∀ (x:List Int),deqL (x.map Dat.int) (x.map Dat.int)=true
 | []=>rfl
 | v::x=>by simp[deqL,deqL_refl x]
theorem zhg (x:List Int):yo .ne (row x) (row x)=.ok (.bl false):=by
 have h:yK yF (row x)=true:=by
  simp only[row,zbc,ja];rw[xL];simp
 simp only[yo,eqD,h,Bool.and_self,if_true];simp only[row,zdi,deqL_refl];rfl
end
end Lib
namespace Lib
section
theorem zdA {x:List Int}{t:Nat}{v:Int}(h:x[t]?=some v):(x.take (t+1)).sum=(x.take t).sum+v:=by
 rw[List.take_add_one,h,List.sum_append];simp
theorem zdB (s:Int)(A:List (List Int))(h:A.length<=lim):yQ .enum (tab A) (.int s)=some ((List.range A.length).map λ(i:Nat)=>(Dat.int (s+i),row (A.getD i []))):=by
 simp only[yQ,tab,List.length_map];rw[if_pos h];congr 1;refine List.ext_getElem? λi=>?_;by_cases hi:i < A.length
 .rw[zas (a:=Dat.int (s+i)) (b:=row (A.getD i [])) (by rw[xM _ _ _ _ hi,Int.one_mul]) (by rw[List.getElem?_map,List.getD_eq_getElem?_getD,List.getElem?_eq_getElem hi];rfl)];simp[hi]
 .rw[List.getElem?_eq_none (by simp;lia),List.getElem?_eq_none (by simp;lia)]
end
end Lib
namespace Lib
end Lib
namespace Lib
section
theorem zbg {t:Int}{b:Bool}(h:vW t b=false):(t=0\/t=1)/\(b=true->t=1):=by
 cases b with
 | true =>
  have h':t=1:=by simpa [vW] using h
  exact ⟨.inr h',λ_=>h'⟩
 | false =>
  refine ⟨?_,λe=>by cases e⟩;simp only[vW,Bool.false_eq_true,if_false,Bool.not_eq_false',Bool.or_eq_true,decide_eq_true_eq] at h;exact h
structure Sums (R:List (List Int)):Prop where
 sq:Sq R
 row:∀r c,r < R.length->c<=R.length->((R.getD r []).take c).sum=0\/((R.getD r []).take c).sum=1
 rowE:∀r,r < R.length->((R.getD r []).take R.length).sum=1
 col:∀r c,r<=R.length->c < R.length->S R r c=0\/S R r c=1
 colE:∀c,c < R.length->S R R.length c=1
theorem Sums.of {R:List (List Int)}(sq:Sq R)(h:∀r c,r < R.length->c < R.length->bad R r c=false):Sums R:=by
 have q:∀r c,r < R.length->c < R.length->((ac R r (c+1)=0\/ac R r (c+1)=1)/\(c+1=R.length->ac R r (c+1)=1))/\(S R (r+1) c=0\/S R (r+1) c=1)/\(r+1=R.length->S R (r+1) c=1):=by
  intro r c hr hc;have:=h r c hr hc;unfold bad at this;rw[Bool.or_eq_false_iff] at this;obtain ⟨a1,a2⟩:=zbg this.1;obtain ⟨b1,b2⟩:=zbg this.2;exact ⟨⟨a1,λe=>a2 (by simp;lia)⟩,b1,λe=>b2 (by simp;lia)⟩
 refine ⟨sq,λr c hr hc=>?_,λr hr=>?_,λr c hr hc=>?_,λc hc=>?_⟩
 .cases c with
  | zero=>left;simp
  | succ c=>exact (q r c hr (by lia)).1.1
 .have:=(q r (R.length - 1) hr (by lia)).1.2 (by lia);unfold ac at this
  rwa [show R.length - 1+1=R.length by lia] at this
 .cases r with
  | zero=>left;simp[S]
  | succ r=>exact (q r c (by lia) hc).2.1
 .have:=(q (R.length - 1) c (by lia) hc).2.2 (by lia)
  rwa [show R.length - 1+1=R.length by lia] at this
end
end Lib
namespace Lib
noncomputable def fl (p:Pl):Pl:=(p.2,p.1)
noncomputable def rsI (R:List (List Int))(r c:Nat):Int:=((R.getD r []).take c).sum
noncomputable def trN (R:List (List Int))(r c:Nat):Di->Bool
 | .u=>decide (S R r c=((r:Int)+c) % 2)
 | .r=>! decide ((if rsI R r (c+1)=0 then 1 else 0)=((r:Int)+c) % 2)
 | .d=>! decide (S R (r+1) c=((r:Int)+c) % 2)
 | .l=>decide ((if rsI R r c=0 then 1 else 0)=((r:Int)+c) % 2)
noncomputable def trR (R:List (List Int)):Tr:=λp d=>trN R p.1.toNat p.2.toNat d
noncomputable def neg (t:Tr):Tr:=λp d=>! t p d
theorem ze8 {R:List (List Int)}(h:Sq R){r:Nat}(hr:r < R.length):(R.getD r []).length=R.length:=by
 rw[List.getD_eq_getElem?_getD,List.getElem?_eq_getElem hr];exact h _ (List.getElem_mem hr)
theorem ze9 {R:List (List Int)}(h:Sq R){r c:Nat}(hr:r < R.length)(hc:c < R.length):rsI R r (c+1)=rsI R r c+(R.getD r []).getD c 0:=by
 unfold rsI;have hl:=ze8 h hr;generalize R.getD r []=x at *
 rw[List.take_add_one,List.sum_append,List.getElem?_eq_getElem (by lia)];simp[List.getD_eq_getElem?_getD,List.getElem?_eq_getElem (show c < x.length by lia)]
theorem zfa {R:List (List Int)}{r c:Nat}(hr:r < R.length):S R (r+1) c=S R r c+(R.getD r []).getD c 0:=by
 have e:R[r]?=some (R.getD r []):=by rw[List.getD_eq_getElem?_getD,List.getElem?_eq_getElem hr];rfl
 exact zan R r c _ e
theorem zjb (r c:Nat):((r:Int)+c) % 2=0\/((r:Int)+c) % 2=1:=by lia
theorem zhh {R:List (List Int)}(H:Sums R){r c:Nat}(hr:r < R.length)(hc:c < R.length):(dirs.filter (trN R r c)).length=2:=by
 have h1:rsI R r c=0\/rsI R r c=1:=H.row r c hr (by lia);have h2:rsI R r (c+1)=0\/rsI R r (c+1)=1:=H.row r (c+1) hr hc;have h3:=H.col r c (by lia) hc;have h4:=H.col (r+1) c hr hc;have e1:=ze9 H.sq hr hc;have e2:=zfa (c:=c) hr;have h5:=zjb r c;unfold dirs;generalize (R.getD r []).getD c 0=a at *
 have e3:trN R r c .u=decide (S R r c=((r:Int)+c) % 2):=rfl;have e4:trN R r c .r=! decide ((if rsI R r (c+1)=0 then 1 else 0)=((r:Int)+c) % 2):=rfl;have e5:trN R r c .d=! decide (S R (r+1) c=((r:Int)+c) % 2):=rfl;have e6:trN R r c .l=decide ((if rsI R r c=0 then 1 else 0)=((r:Int)+c) % 2):=rfl;generalize ((r:Int)+c) % 2=o at *
 generalize rsI R r c=p at *
 generalize rsI R r (c+1)=p' at *
 generalize S R r c=q at *
 generalize S R (r+1) c=q' at *
 simp only[List.filter_cons,List.filter_nil,e3,e4,e5,e6];rcases h1 with rfl | rfl <;> rcases h2 with rfl | rfl <;> rcases h3 with rfl | rfl <;> rcases h4 with rfl | rfl <;> rcases h5 with rfl | rfl <;> first | (exfalso;lia) | decide
theorem zdC {R:List (List Int)}(H:Sums R):Flo R.length (trR R):=by
 have hor:∀r c:Nat,trN R r (c+1) .l=trN R r c .r:=λr c=>by
  show decide ((if rsI R r (c+1)=0 then 1 else 0)=((r:Int)+((c+1:Nat):Int)) % 2)=! decide ((if rsI R r (c+1)=0 then 1 else 0)=((r:Int)+c) % 2);have h5:=zjb r c;rw[<- decide_not];apply decide_eq_decide.mpr;split <;> lia
 have ver:∀r c:Nat,r+1<=R.length->c < R.length->trN R (r+1) c .u=trN R r c .d:=λr c hr hc=>by
  show decide (S R (r+1) c=(((r+1:Nat):Int)+c) % 2)=! decide (S R (r+1) c=((r:Int)+c) % 2);have h4:=H.col (r+1) c hr hc;rw[<- decide_not];apply decide_eq_decide.mpr;lia
 refine ⟨λp e h1 h2=>?_,λp h=>?_⟩
 .obtain ⟨⟨a0,a1⟩,b0,b1⟩:=inn_iff.mp h1;obtain ⟨⟨c0,c1⟩,d0,d1⟩:=inn_iff.mp h2;obtain ⟨a,b⟩:=p;obtain ⟨i,rfl⟩:=Int.eq_ofNat_of_zero_le a0;obtain ⟨j,rfl⟩:=Int.eq_ofNat_of_zero_le b0;simp only[] at a1 b1;cases e with
  | u =>
   simp only[stp] at c0;obtain ⟨k,rfl⟩:∃k,i=k+1:=⟨i - 1,by lia⟩;show trN R (((k+1:Nat):Int) - 1).toNat j .d=trN R (k+1) j .u;rw[show (((k+1:Nat):Int) - 1).toNat=k by lia];exact (ver k j (by lia) (by lia)).symm
  | r =>
   show trN R i ((j:Int)+1).toNat .l=trN R i j .r;rw[show ((j:Int)+1).toNat=j+1 by lia];exact hor i j
  | d =>
   simp only[stp] at c1;show trN R ((i:Int)+1).toNat j .u=trN R i j .d;rw[show ((i:Int)+1).toNat=i+1 by lia];exact ver i j (by lia) (by lia)
  | l =>
   simp only[stp] at d0;obtain ⟨k,rfl⟩:∃k,j=k+1:=⟨j - 1,by lia⟩;show trN R i (((k+1:Nat):Int) - 1).toNat .r=trN R i (k+1) .l;rw[show (((k+1:Nat):Int) - 1).toNat=k by lia];exact (hor i k).symm
 .obtain ⟨⟨a0,a1⟩,b0,b1⟩:=inn_iff.mp h;exact zhh H (by lia) (by lia)
theorem Flo.neg {n:Nat}{t:Tr}(F:Flo n t):Flo n (neg t):=by
 refine ⟨λp e h1 h2=>?_,λp h=>?_⟩
 .show (! t (stp e p) (opp e))=! t p e;rw[F.con p e h1 h2]
 .have:=F.two p h;show (dirs.filter λd=>! t p d).length=2;unfold dirs at *
  cases h1:t p .u <;> cases h2:t p .r <;> cases h3:t p .d <;> cases h4:t p .l <;> simp[h1,h2,h3,h4] at this ⊢
theorem zhi {R:List (List Int)}(H:Sums R){p:Pl}{e:Di}(h1:inn R.length p=true)(h2:inn R.length (stp e p)=false):trR R p e=decide (yr R.length p e % 2=0):=by
 obtain ⟨⟨a0,a1⟩,b0,b1⟩:=inn_iff.mp h1;have h2:¬(inn R.length (stp e p)=true):=by rw[h2];exact Bool.false_ne_true
 rw[inn_iff] at h2;obtain ⟨a,b⟩:=p;obtain ⟨i,rfl⟩:=Int.eq_ofNat_of_zero_le a0;obtain ⟨j,rfl⟩:=Int.eq_ofNat_of_zero_le b0;simp only[] at a1 b1;cases e with
 | u =>
  simp only[stp] at h2;have:i=0:=by lia
  subst this;show decide (S R 0 j=(((0:Nat):Int)+j) % 2)=decide ((j:Int) % 2=0);apply decide_eq_decide.mpr;rw[show S R 0 j=0 from rfl];lia
 | r =>
  simp only[stp] at h2;have:j+1=R.length:=by lia
  have hE:rsI R i (j+1)=1:=by rw[this];exact H.rowE i (by lia)
  show (! decide ((if rsI R i (j+1)=0 then 1 else 0)=((i:Int)+j) % 2))=decide (((R.length:Int)+i) % 2=0);rw[hE,<- decide_not];apply decide_eq_decide.mpr;simp only[show ¬((1:Int)=0) from by decide,if_false];lia
 | d =>
  simp only[stp] at h2;have:i+1=R.length:=by lia
  have hE:S R (i+1) j=1:=by rw[this];exact H.colE j (by lia)
  show (! decide (S R (i+1) j=((i:Int)+j) % 2))=decide ((3 * (R.length:Int) - 1 - j) % 2=0);rw[hE,<- decide_not];apply decide_eq_decide.mpr;lia
 | l =>
  simp only[stp] at h2;have:j=0:=by lia
  subst this;show decide ((if rsI R i 0=0 then 1 else 0)=((i:Int)+((0:Nat):Int)) % 2)=decide ((4 * (R.length:Int) - 1 - i) % 2=0);apply decide_eq_decide.mpr;rw[if_pos (show rsI R i 0=0 from by simp[rsI])];lia
noncomputable def ent (n:Nat)(ρ:Nat):Sta:=match ρ / n with
 | 0=>((0,((ρ % n:Nat):Int)),.u)
 | 1=>((((ρ % n:Nat):Int),(n:Int) - 1),.r)
 | 2=>(((n:Int) - 1,(n:Int) - 1 - ((ρ % n:Nat):Int)),.d)
 | _=>(((n:Int) - 1 - ((ρ % n:Nat):Int),0),.l)
theorem xt {n ρ:Nat}(hn:0 < n)(h:ρ < 4 * n):inn n (ent n ρ).1=true/\Rim n (ent n ρ)/\yr n (ent n ρ).1 (ent n ρ).2=ρ:=by
 have h1:=Nat.div_add_mod ρ n;have h2:=Nat.mod_lt ρ hn;have h3:ρ / n < 4:=Nat.div_lt_of_lt_mul (by rw[Nat.mul_comm];exact h);unfold ent Rim;generalize ρ % n=m at *
 generalize hq:ρ / n=q at *
 have hb:∀x:Pl,inn n x=false↔¬((0<=x.1/\x.1 < n)/\(0<=x.2/\x.2 < n)):=λx=>by rw[<- inn_iff];simp
 match q,h3 with
 | 0,_=>exact ⟨inn_iff.mpr ⟨⟨by simp,by simp;lia⟩,by simp,by simp;lia⟩,(hb _).mpr (by simp[stp]),by simp[yr];lia⟩
 | 1,_=>exact ⟨inn_iff.mpr ⟨⟨by simp,by simp;lia⟩,by simp;lia,by simp;lia⟩,(hb _).mpr (by simp[stp]),by simp[yr];lia⟩
 | 2,_=>exact ⟨inn_iff.mpr ⟨⟨by simp;lia,by simp;lia⟩,by simp;lia,by simp;lia⟩,(hb _).mpr (by simp[stp]),by simp[yr];lia⟩
 | 3,_=>exact ⟨inn_iff.mpr ⟨⟨by simp;lia,by simp;lia⟩,by simp,by simp;lia⟩,(hb _).mpr (by simp[stp]),by simp[yr];lia⟩
end Lib
namespace Lib
section
variable {lev:Nat->Lv}{cl:Nat->List Dat->Rd}
theorem zfb {e:Ex}{v:Int}{x:List Int}(hx:x.length < lim)(de:DEn)(lv:List Lv)(j:Nat)(he:evD cl e de=.ok (.int v))(hd:de[j]?=some (some (row x)))(hj:ya lv j=true):
  exD lev cl (.expr (.meth .append (.var j) (.pair e .unit))) de lv=.next (de.set j (some (row (x++[v])))) lv:=by
 rw[xW,he];simp only[zj5];have hls:xJ de j=some (x.map Dat.int):=by simp[xJ,hd,row]
 rw[hls];simp only[List.length_map];rw[if_pos hx];have hg:xb lev e (.int v) j de lv=some (de,lv):=by
  unfold xb;rw[if_neg (by simp[hj]),if_pos (yu lev e _ rfl)]
 rw[hg];simp[row]
theorem qA (c:Ex)(body:Sm)(de:DEn)(lv:List Lv):exD lev cl (.while c body) de lv=yR (evD cl c) (exD lev cl body) 1000000 de lv:=rfl
theorem zau {c:DEn->Rd}{body:DEn->List Lv->Rsd}(P:Nat->DEn->List Lv->Prop)(N:Nat)(hs:∀t de lv,t < N->P t de lv->c de=.ok (.bl true)/\∃de' lv',body de lv=.next de' lv'/\P (t+1) de' lv')(he:∀de lv,P N de lv->c de=.ok (.bl false)):
  ∀ (n t fuel:Nat) (de:DEn) (lv:List Lv),t+n=N->n < fuel->P t de lv->∃de' lv',yR c body fuel de lv=.next de' lv'/\P N de' lv':=by
 intro n
 induction n with
 | zero =>
  intro t fuel de lv h1 h2 p;obtain ⟨f,rfl⟩:∃f,fuel=f+1:=⟨fuel - 1,by lia⟩;have:t=N:=by lia
  subst this;refine ⟨de,lv,?_,p⟩;unfold yR;rw[he de lv p]
 | succ n ih =>
  intro t fuel de lv h1 h2 p;obtain ⟨f,rfl⟩:∃f,fuel=f+1:=⟨fuel - 1,by lia⟩;obtain ⟨hc,d1,l1,hb,p1⟩:=hs t de lv (by lia) p;obtain ⟨d2,l2,e,p2⟩:=ih (t+1) f d1 l1 (by lia) (by lia) p1;refine ⟨d2,l2,?_,p2⟩;unfold yR;rw[hc];simp only;rw[hb];exact e
end
end Lib
namespace Lib
section
theorem zhj (x:List Int):yo .ne (row x) (row [])=.ok (.bl (! decide (x=[]))):=by
 have h:∀y,yK yF (row y)=true:=λy=>by
  simp only[row,zbc,ja];rw[xL];simp
 simp only[yo,eqD,h,Bool.and_self,if_true];simp only[row,zdi,List.map_nil];cases x with
 | nil=>rfl
 | cons v x=>simp[deqL];rfl
end
end Lib
namespace Lib
end Lib
namespace Lib
end Lib
namespace Lib
structure HF (n:Nat)(G:Nat->Nat->Int):Prop where
 top:∀j,j<=n->G 0 j=j
 left:∀i,i<=n->G i 0=i
 low:∀j,j<=n->G n j=(n:Int) - j
 right:∀i,i<=n->G i n=(n:Int) - i
 across:∀i j,i<=n->j < n->G i (j+1) - G i j=1\/G i (j+1) - G i j=-1
 down:∀i j,i < n->j<=n->G (i+1) j - G i j=1\/G (i+1) j - G i j=-1
theorem HF.par {n:Nat}{G:Nat->Nat->Int}(h:HF n G):∀i j,i<=n->j<=n->(G i j - i - j) % 2=0
 | i,0,hi,_=>by rw[h.left i hi];simp
 | i,j+1,hi,hj=>by
  have a:=h.par i j hi (by lia);have b:=h.across i j hi (by lia);lia
theorem HF.two {n:Nat}{G F:Nat->Nat->Int}(h:HF n G)(k:HF n F)(f:Int->Int->Int)(hm:(∀a b,f a b=if b < a then b else a)\/∀a b,f a b=if b > a then b else a):HF n (λi j=>f (G i j) (F i j)):=by
 have e:∀a,f a a=a:=λa=>by rcases hm with q | q <;> rw[q] <;> simp
 have step:∀a b a' b':Int,(a' - a=1\/a' - a=-1)->(b' - b=1\/b' - b=-1)->(a - b) % 2=0->(f a' b' - f a b=1\/f a' b' - f a b=-1):=λa b a' b' h1 h2 h3=>by
  rcases hm with q | q <;> rw[q,q] <;> split <;> split <;> lia
 refine ⟨λj hj=>?_,λi hi=>?_,λj hj=>?_,λi hi=>?_,λi j hi hj=>?_,λi j hi hj=>?_⟩
 .show f (G 0 j) (F 0 j)=_;rw[h.top j hj,k.top j hj,e]
 .show f (G i 0) (F i 0)=_;rw[h.left i hi,k.left i hi,e]
 .show f (G n j) (F n j)=_;rw[h.low j hj,k.low j hj,e]
 .show f (G i n) (F i n)=_;rw[h.right i hi,k.right i hi,e]
 .have p1:=h.par i j hi (by lia);have p2:=k.par i j hi (by lia);exact step _ _ _ _ (h.across i j hi hj) (k.across i j hi hj) (by lia)
 .have p1:=h.par i j (by lia) hj;have p2:=k.par i j (by lia) hj;exact step _ _ _ _ (h.down i j hi hj) (k.down i j hi hj) (by lia)
end Lib
namespace Lib
end Lib
namespace Lib
end Lib
namespace Lib
section
noncomputable def mx (a b:Int):Int:=if b > a then b else a
end
end Lib
namespace Lib
section
variable {lev:Nat->Lv}
noncomputable def y7 (q:Nat)(F:Nat->Nat->Int)(i:Nat):List Int:=(List.range q).map (F i)
noncomputable def yg (p q:Nat)(F:Nat->Nat->Int):List (List Int):=(List.range p).map (y7 q F)
theorem jg (p q:Nat)(F:Nat->Nat->Int):(yg p q F).length=p:=by simp[yg]
theorem qB (q:Nat)(F:Nat->Nat->Int)(i:Nat):(y7 q F i).length=q:=by simp[y7]
theorem jh {p q:Nat}{F:Nat->Nat->Int}{i:Nat}(h:i < p):zK (tab (yg p q F)) (.int (i:Int))=.ok (row (y7 q F i)):=ze5 (by simp[yg,h])
theorem zfc (lev:Nat->Lv){e it c:Ex}{x:List Int}(h:∀i:Int,lvE lev e (.int i)=.full):lvE lev (.comp e it c) (row x)=.full:=by
 unfold row
 first | rw[wq] | rw[xl]
 simp only[xN,Bool.false_eq_true,if_false];rw[if_pos (vj _ _ h)]
noncomputable def axf (R:List (List Int))(r c:Nat):Int:=1 - 2 * ((R.getD r []).take c).sum
noncomputable def dnf (R:List (List Int))(r c:Nat):Int:=2 * S R r c - 1
theorem gp {n:Nat}(h:n<=100):k7 (.int 0) (.int n) (.int 1)=.ok (.tup (yt 0 1 n)):=by
 rw[zaj (by unfold lim;lia)];simp[gO]
noncomputable def arr (n:Nat)(F G:Nat->Nat->Int):Dat:=.tup [tab (yg n (n+1) F),tab (yg (n+1) n G)]
end
end Lib
namespace Lib
section
variable {cl:Nat->List Dat->Rd}
noncomputable def dstr:Di->List Nat
 | .u=>[85] | .r=>[82] | .d=>[68] | .l=>[76]
noncomputable def plc (p:Pl):Dat:=.tup [.int p.1,.int p.2]
noncomputable def yA (d:Di):Dat:=.str (dstr d)
noncomputable def zfR {α:Type}(e:Di)(a b c d:α):α:=match e with
 | .u=>a | .r=>b | .d=>c | .l=>d
theorem zhk (a b:List Nat):yo .eq (.str a) (.str b)=.ok (.bl (decide (a=b))):=rfl
@[simp] theorem zjc (de:DEn):evD cl .dict0 de=.ok (.dct [] []):=rfl
@[simp] theorem zfd (a b:Ex)(de:DEn):evD cl (.dget a b) de=(evD cl a de).bind λx=>(evD cl b de).bind λy=>vT x y:=rfl
theorem zfS (a b:Ex)(de:DEn):evD cl (.tup (.pair a (.pair b .unit))) de=(evD cl a de).bind λx=>(evD cl b de).bind λy=>.ok (.tup [x,y]):=by
 rw[vK,zj,zj,zl];cases evD cl a de with
 | ok x =>
  cases evD cl b de with
  | ok y=>exact if_pos (e:=Rd.no) (show 2<=lim by decide)
  | _=>rfl
 | _=>rfl
theorem zjd (a b c d:Ex)(de:DEn):evD cl (.tup (.pair a (.pair b (.pair c (.pair d .unit))))) de=(evD cl a de).bind λx=>(evD cl b de).bind λy=>(evD cl c de).bind λz=>(evD cl d de).bind λw=>.ok (.tup [x,y,z,w]):=by
 rw[vK,zj,zj,zj,zj,zl];cases evD cl a de with
 | ok x =>
  cases evD cl b de with
  | ok y =>
   cases evD cl c de with
   | ok z =>
    cases evD cl d de with
    | ok w=>exact if_pos (e:=Rd.no) (show 4<=lim by decide)
    | _=>rfl
   | _=>rfl
  | _=>rfl
 | _=>rfl
theorem zhl {i:Nat}{e:Di}{de:DEn}(h:evD cl (.var i) de=.ok (yA e)):evD cl (kK i [85] [82] [68] [76]) de=.ok (.int (zfR e 0 1 2 3)):=by
 unfold kK;simp only[vM,zF,zV,h,zjX,yA,zhk];cases e <;> rfl
theorem zhm {i:Nat}{e:Di}{de:DEn}{a b c d:Ex}{A B C D:Dat}(h:evD cl (.var i) de=.ok (yA e))(ha:evD cl a de=.ok A)(hb:evD cl b de=.ok B)(hc:evD cl c de=.ok C)(hd:evD cl d de=.ok D):
  evD cl (.idx (wT a b c d) (kK i [85] [82] [68] [76])) de=.ok (zfR e A B C D):=by
 rw[zZ,zhl h];unfold wT;rw[zjd];simp only[ha,hb,hc,hd,zjX];cases e <;> rfl
end
end Lib
namespace Lib
section
theorem vO {α β:Type}{c e:β->Rd}(f:α->β)(q:α->Bool)(g:α->Dat):∀ (xs:List α) (acc:List Dat),(∀x∈xs,c (f x)=.ok (.bl (q x)))->(∀x∈xs,q x=true->e (f x)=.ok (g x))->acc.length+xs.length<=lim->zR c e (xs.map f) acc=.ok (.lst (acc++(xs.filter q).map g))
 | [],acc,_,_,h=>by
  show newD acc=_;rw[xr (by simpa using h)];simp
 | x::xs,acc,hc,he,h=>by
  show (c (f x)).bind _=_;rw[hc x (by simp)];simp only[zjX];cases hq:q x with
  | true =>
   simp only[];rw[he x (by simp) hq];simp only[zjX];rw[if_pos (by simp at h;lia),vO f q g xs _ (λy hy=>hc y (by simp[hy])) (λy hy=>he y (by simp[hy])) (by simp at h ⊢;lia)];simp[List.filter_cons,hq]
  | false =>
   simp only[];rw[vO f q g xs _ (λy hy=>hc y (by simp[hy])) (λy hy=>he y (by simp[hy])) (by simp at h ⊢;lia)];simp[List.filter_cons,hq]
end
end Lib
namespace Lib
section
variable {lev:Nat->Lv}{cl:Nat->List Dat->Rd}
noncomputable def yL (p:Pl):List Int:=[p.1,p.2]
noncomputable def trB (R:List (List Int))(b:Bool):Tr:=λp d=>!(trR R p d == b)
noncomputable def ptR (r:Nat)(c:Nat):List Pl:=(List.range c).map λ(j:Nat)=>((r:Int),(j:Int))
noncomputable def ptw (n r c:Nat):List Pl:=(List.range r).flatMap (λi=>ptR i n)++ptR r c
theorem ji {p q:Pl}(h:yL p=yL q):p=q:=by
 unfold yL at h;simp only[List.cons.injEq,and_true] at h;exact Prod.ext h.1 h.2
theorem zbh {f:Pl->Dat}{p:Pl}:∀ {ps:List Pl},p∈ps->atK (ps.map yL) (ps.map f) (yL p)=some (f p)
 | [],h=>by simp at h
 | q::ps,h=>by
  show (if yL q=yL p then some (f q) else atK (ps.map yL) (ps.map f) (yL p))=_;by_cases e:yL q=yL p
  .rw[if_pos e,ji e]
  .rw[if_neg e];refine zbh ?_;rcases List.mem_cons.mp h with rfl | h
   .exact absurd rfl e
   .exact h
theorem zdD (r c:Nat):ptR r (c+1)=ptR r c++[((r:Int),(c:Int))]:=by
 unfold ptR;rw[List.range_succ,List.map_append];rfl
theorem zdE (n r c:Nat):ptw n r (c+1)=ptw n r c++[((r:Int),(c:Int))]:=by
 unfold ptw;rw[zdD,List.append_assoc]
theorem zfe (n r:Nat):ptw n r n=ptw n (r+1) 0:=by
 unfold ptw;rw[List.range_succ,List.flatMap_append];simp[ptR]
theorem mem_ptR {r c:Nat}{p:Pl}:p∈ptR r c↔p.1=r/\∃j:Nat,j < c/\p.2=j:=by
 unfold ptR;simp only[List.mem_map,List.mem_range];constructor
 .rintro ⟨j,hj,rfl⟩;exact ⟨rfl,j,hj,rfl⟩
 .rintro ⟨h1,j,hj,h2⟩;exact ⟨j,hj,Prod.ext h1.symm h2.symm⟩
theorem zbi {n r c:Nat}{p:Pl}:p∈ptw n r c↔(∃i:Nat,i < r/\p∈ptR i n)\/p∈ptR r c:=by
 unfold ptw;simp only[List.mem_append,List.mem_flatMap,List.mem_range]
theorem zbj {n r c:Nat}:((r:Int),(c:Int))∉ptw n r c:=by
 rw[zbi];rintro (⟨i,hi,h⟩ | h)
 .have:=(mem_ptR.mp h).1;simp only[] at this;lia
 .obtain ⟨_,j,hj,e⟩:=mem_ptR.mp h;simp only[] at e;lia
theorem zff (n:Nat):∀r c,(ptw n r c).length=r * n+c:=by
 intro r c;have h1:∀i m,(ptR i m).length=m:=λi m=>by simp[ptR]
 unfold ptw;rw[List.length_append,h1];congr 1
 induction r with
 | zero=>simp
 | succ r ih=>rw[List.range_succ,List.flatMap_append,List.length_append,ih];simp[h1,Nat.succ_mul]
theorem zbk {n:Nat}{p:Pl}(h:inn n p=true):p∈ptw n n 0:=by
 obtain ⟨⟨a0,a1⟩,b0,b1⟩:=inn_iff.mp h;rw[zbi];refine .inl ⟨p.1.toNat,by lia,mem_ptR.mpr ⟨by lia,p.2.toNat,by lia,by lia⟩⟩
theorem zje {ps:List Pl}{p:Pl}(h:p∉ps):x5 (ps.map yL) (yL p)=(ps++[p]).map yL:=by
 unfold x5;rw[if_neg,List.map_append];· rfl
 intro z;obtain ⟨q,hq,e⟩:=List.mem_map.mp z;rw[ji e] at hq;exact h hq
theorem zfT {f:Pl->Dat}{p:Pl}:∀ {ps:List Pl},p∉ps->yh (ps.map yL) (ps.map f) (yL p) (f p)=(ps++[p]).map f
 | [],_=>rfl
 | q::ps,h=>by
  show (if yL q=yL p then f p::ps.map f else f q::yh (ps.map yL) (ps.map f) (yL p) (f p))=_;rw[if_neg (λe=>h (by rw[ji e];simp)),zfT (λz=>h (by simp[z]))];rfl
theorem zbl {i:Nat}{e:Ex}{d:Dat}{X:Sm}{de:DEn}{lv:List Lv}(h:evD cl e de=.ok d)(hf:flat d=true)(hv:yw (.asg i e) X=none):exD lev cl (.seq (.asg i e) X) de lv=exD lev cl X (de.set i (some d)) (lv.set i .full):=by
 rw[zT lev cl de lv hv,zy,h];simp only[zjW];rw[zS hf];rfl
theorem zdF {i:Nat}{e:Ex}{d:Dat}{X:Sm}{de:DEn}{lv:List Lv}(h:evD cl e de=.ok d)(hf:lvE lev e d=.full)(hv:yw (.asg i e) X=none):exD lev cl (.seq (.asg i e) X) de lv=exD lev cl X (de.set i (some d)) (lv.set i .full):=by
 rw[zT lev cl de lv hv,zy,h];simp only[zjW];rw[yj hf];rfl
end
end Lib
namespace Lib
theorem zbY (R:List (List Int)):trB R false=trR R:=by
 funext p d;show (!(trR R p d == false))=_;cases trR R p d <;> rfl
end Lib
namespace Lib
section
variable {n:Nat}{t:Tr}
def Ch (n:Nat)(t:Tr):Sta->List Sta->Sta->Prop
 | s,[],l=>s=l
 | s,q::qs,l=>nxt n t s=some q/\Ch n t q qs l
noncomputable def rev (t:Tr)(s:Sta):Sta:=(s.1,oth (t s.1) s.2)
theorem gs:∀ (k:Nat) (s:Sta) (acc pl:List Pl) (σ:Int),wY n t k s acc=some (pl,σ)->∃qs l,Ch n t s qs l/\nxt n t l=none/\pl=acc++qs.map (·.1)/\σ=jr n t l/\qs.length < k
 | 0,_,_,_,_,h=>by cases h
 | k+1,s,acc,pl,σ,h=>by
  have h':(match nxt n t s with | some s'=>wY n t k s' (acc++[s'.1]) | none=>some (acc,jr n t s))=some (pl,σ):=h;cases e:nxt n t s with
  | none =>
   rw[e] at h';cases h';exact ⟨[],s,rfl,e,by simp,rfl,by simp⟩
  | some s' =>
   rw[e] at h';obtain ⟨qs,l,h1,h2,h3,h4,h5⟩:=gs k s' _ pl σ h';exact ⟨s'::qs,l,⟨e,h1⟩,h2,by rw[h3];simp,h4,by simp;lia⟩
theorem zbm:∀ (qs:List Sta) (k:Nat) (s:Sta) (l:Sta) (acc:List Pl),Ch n t s qs l->nxt n t l=none->qs.length < k->wY n t k s acc=some (acc++qs.map (·.1),jr n t l)
 | [],k,s,l,acc,h,e,hk=>by
  cases (show s=l from h);obtain ⟨j,rfl⟩:∃j,k=j+1:=⟨k - 1,by simp at hk;lia⟩;show (match nxt n t s with | some s'=>wY n t j s' (acc++[s'.1]) | none=>some (acc,jr n t s))=_;rw[e];simp
 | q::qs,k,s,l,acc,h,e,hk=>by
  obtain ⟨h1,h2⟩:=h;obtain ⟨j,rfl⟩:∃j,k=j+1:=⟨k - 1,by simp at hk;lia⟩;show (match nxt n t s with | some s'=>wY n t j s' (acc++[s'.1]) | none=>some (acc,jr n t s))=_;rw[h1];simp only[];rw[zbm qs j q l _ h2 e (by simp at hk;lia)];simp
theorem wA (F:Flo n t):∀ (qs:List Sta) (s l:Sta),Good n t s->Ch n t s qs l->Good n t l
 | [],s,l,g,h=>by cases (show s=l from h);exact g
 | q::qs,s,l,g,h=>wA F qs q l (zD F g h.1).1 h.2
theorem gu:∀ (qs:List Sta) (s l x:Sta),Ch n t s qs l->nxt n t l=some x->Ch n t s (qs++[x]) x
 | [],s,l,x,h,e=>by cases (show s=l from h);exact ⟨e,rfl⟩
 | q::qs,s,l,x,h,e=>⟨h.1,gu qs q l x h.2 e⟩
theorem zdG:∀ (qs:List Sta) (s l x:Sta),Ch n t s (qs++[x]) l->∃l',Ch n t s qs l'/\nxt n t l'=some x/\l=x
 | [],s,l,x,h=>⟨s,rfl,h.1,h.2.symm⟩
 | q::qs,s,l,x,h=>by
  obtain ⟨l',h1,h2,h3⟩:=zdG qs q l x h.2;exact ⟨l',⟨h.1,h1⟩,h2,h3⟩
theorem qC (F:Flo n t){s:Sta}(g:Good n t s):Good n t (rev t s):=⟨g.1,(xk (F.two s.1 g.1) g.2).1⟩
theorem gv (F:Flo n t){s q:Sta}(g:Good n t s)(h:nxt n t s=some q):nxt n t (rev t q)=some (rev t s):=by
 have gq:=(zD F g h).1;obtain ⟨_,_,o3,_⟩:=xk (F.two q.1 gq.1) gq.2;unfold nxt;show (if inn n (stp (oth (t q.1) (oth (t q.1) q.2)) q.1)=true then some (stp (oth (t q.1) (oth (t q.1) q.2)) q.1,opp (oth (t q.1) (oth (t q.1) q.2))) else none)=_;rw[o3];unfold nxt at h;split at h
 .cases h;show (if inn n (stp (opp _) (stp _ s.1))=true then some (stp (opp _) (stp _ s.1),opp (opp _)) else none)=_;rw[xG,za1,if_pos g.1];rfl
 .cases h
theorem zfg (F:Flo n t){s:Sta}(g:Good n t s)(hr:Rim n s):nxt n t (rev t s)=none/\jr n t (rev t s)=yr n s.1 s.2:=by
 have o3:=(xk (F.two s.1 g.1) g.2).2.2.1;constructor
 .unfold nxt;show (if inn n (stp (oth (t s.1) (oth (t s.1) s.2)) s.1)=true then _ else none)=none;rw[o3,if_neg (by unfold Rim at hr;rw[hr];decide)]
 .show yr n s.1 (oth (t s.1) (oth (t s.1) s.2))=_;rw[o3]
theorem zdH (F:Flo n t):∀ (qs:List Sta) (s l:Sta),Good n t s->Ch n t s qs l->∃qs',Ch n t (rev t l) qs' (rev t s)/\l.1::qs'.map (·.1)=(s.1::qs.map (·.1)).reverse/\qs'.length=qs.length
 | [],s,l,g,h=>by cases (show s=l from h);exact ⟨[],rfl,rfl,rfl⟩
 | q::qs,s,l,g,h=>by
  obtain ⟨qs',h1,h2,h3⟩:=zdH F qs q l (zD F g h.1).1 h.2;refine ⟨qs'++[rev t s],gu qs' _ _ _ h1 (gv F g h.1),?_,by simp[h3]⟩;rw[List.map_append,<- List.cons_append,h2,List.map_cons,List.reverse_cons];simp[rev]
theorem zhn (e:Di)(p:Pl):stp e p≠p:=λh=>by
 have h1:=congrArg Prod.fst h;have h2:=congrArg Prod.snd h;cases e <;> simp only[stp] at h1 h2 <;> lia
theorem zfU (F:Flo n t):∀ (k:Nat) (s:Sta) (qs:List Sta) (l:Sta),qs.length<=k->Good n t s->Ch n t s qs l->rev t l=s->False
 | k,s,[],l,_,g,h,e=>by
  cases (show s=l from h);exact (xk (F.two s.1 g.1) g.2).2.1 (congrArg Prod.snd e)
 | 0,s,q::qs,l,hk,g,h,e=>by simp at hk
 | k+1,s,q::qs,l,hk,g,h,e=>by
  rcases List.eq_nil_or_concat qs with z | ⟨qs0,x,z⟩
  .subst z;obtain ⟨h1,h2⟩:=h;cases (show q=l from h2);have e1:q.1=s.1:=by rw[<- e];rfl
   unfold nxt at h1;split at h1
   .cases h1;exact zhn _ _ e1
   .cases h1
  .rw[List.concat_eq_append] at z;subst z;obtain ⟨h1,h2⟩:=h;obtain ⟨l',g1,g2,g3⟩:=zdG qs0 q l x h2;subst g3;have gq:=(zD F g h1).1;have gl':=wA F qs0 q l' gq g1;have r:=gv F gl' g2;rw[e,h1] at r;cases r;exact zfU F k (rev t l') qs0 l' (by simp at hk;lia) gq g1 rfl
end
theorem zfh {n:Nat}{p:Pl}{e:Di}(h:inn n p=true):0<=yr n p e/\yr n p e < 4 * n:=by
 obtain ⟨⟨a0,a1⟩,b0,b1⟩:=inn_iff.mp h;cases e <;> simp only[yr] <;> lia
theorem qD {n:Nat}{p q:Pl}{e f:Di}(hp:inn n p=true)(hq:inn n q=true)(rp:inn n (stp e p)=false)(rq:inn n (stp f q)=false)(h:yr n p e=yr n q f):(p,e)=(q,f):=by
 obtain ⟨⟨a0,a1⟩,b0,b1⟩:=inn_iff.mp hp;obtain ⟨⟨c0,c1⟩,d0,d1⟩:=inn_iff.mp hq;have rp:¬(inn n (stp e p)=true):=by rw[rp];exact Bool.false_ne_true
 have rq:¬(inn n (stp f q)=true):=by rw[rq];exact Bool.false_ne_true
 rw[inn_iff] at rp rq;obtain ⟨a,b⟩:=p;obtain ⟨c,d⟩:=q;simp only[] at a0 a1 b0 b1 c0 c1 d0 d1;have key:e=f/\a=c/\b=d:=by
  cases e <;> cases f <;> simp only[stp] at rp rq <;> simp only[yr] at h <;> first | (exfalso;lia) | (refine ⟨rfl,?_,?_⟩ <;> lia)
 obtain ⟨rfl,rfl,rfl⟩:=key;rfl
theorem zav {R:List (List Int)}(H:Sums R)(b:Bool):Flo R.length (trB R b):=by
 cases b with
 | false=>rw[zbY];exact zdC H
 | true =>
  have e:trB R true=neg (trR R):=by
   funext p d;show (!(trR R p d == true))=! trR R p d;cases trR R p d <;> rfl
  rw[e];exact (zdC H).neg
noncomputable def bN (b:Bool):Nat:=if b then 1 else 0
theorem zdI {R:List (List Int)}(H:Sums R)(b:Bool){p:Pl}{e:Di}(h1:inn R.length p=true)(h2:inn R.length (stp e p)=false):trB R b p e=decide (yr R.length p e % 2=(bN b:Int)):=by
 show (!(trR R p e == b))=_;rw[zhi H h1 h2];have q:yr R.length p e % 2=0\/yr R.length p e % 2=1:=by lia
 cases b <;> rcases q with q | q <;> rw[q] <;> rfl
theorem jj {R:List (List Int)}(H:Sums R)(b:Bool){j:Nat}(hj:j < 2 * R.length):Good R.length (trB R b) (ent R.length (2 * j+bN b)):=by
 have hb:bN b=0\/bN b=1:=by cases b <;> simp[bN]
 obtain ⟨h1,h2,h3⟩:=xt (n:=R.length) (ρ:=2 * j+bN b) (by lia) (by lia);refine ⟨h1,?_⟩;rw[zdI H b h1 h2,h3];exact decide_eq_true (by lia)
noncomputable abbrev Wk (R:List (List Int))(b:Bool)(j:Nat):Option (List Pl×Int):=wY R.length (trB R b) (R.length * R.length * 4) (ent R.length (2 * j+bN b)) [(ent R.length (2 * j+bN b)).1]
set_option tactic.hygienic true in
theorem zdJ {R:List (List Int)}(H:Sums R)(b:Bool){j:Nat}(hj:j < 2 * R.length):
  ∃i pl,i < 2 * R.length/\i≠j/\Wk R b j=some (pl,((2 * i+bN b:Nat):Int))/\Wk R b i=some (pl.reverse,((2 * j+bN b:Nat):Int)):=by
 have hb:bN b=0\/bN b=1:=by cases b <;> simp[bN]
 have F:=zav H b;have g:=jj H b hj;obtain ⟨h1,h2,h3⟩:=xt (n:=R.length) (ρ:=2 * j+bN b) (by lia) (by lia);obtain ⟨pl,σ,hw⟩:=zbO F g h2 [(ent R.length (2 * j+bN b)).1];obtain ⟨qs,l,c1,c2,c3,c4,c5⟩:=gs _ _ _ _ _ hw;have gl:=wA F qs _ l g c1;have hout:inn R.length (stp (oth (trB R b l.1) l.2) l.1)=false:=by
  unfold nxt at c2;split at c2
  .cases c2
  .next z=>simpa using z
 have gr:=qC F gl;have hσ:σ=yr R.length l.1 (oth (trB R b l.1) l.2):=c4;have hpar:σ % 2=(bN b:Int):=by
  have:=gr.2;rw[show trB R b (rev (trB R b) l).1 (rev (trB R b) l).2=trB R b l.1 (oth (trB R b l.1) l.2) from rfl,zdI H b gl.1 hout,<- hσ] at this;exact of_decide_eq_true this
 obtain ⟨r1,r2⟩:=zfh (e:=oth (trB R b l.1) l.2) gl.1;rw[<- hσ] at r1 r2;obtain ⟨i,hi⟩:∃i:Nat,σ=((2 * i+bN b:Nat):Int):=⟨(σ / 2).toNat,by rcases hb with z | z <;> rw[z] at hpar ⊢ <;> lia⟩;have hi2:i < 2 * R.length:=by lia
 obtain ⟨e1,e2,e3⟩:=xt (n:=R.length) (ρ:=2 * i+bN b) (by lia) (by lia);have hent:ent R.length (2 * i+bN b)=rev (trB R b) l:=by
  have q:=qD (p:=(ent R.length (2 * i+bN b)).1) (q:=l.1) (e:=(ent R.length (2 * i+bN b)).2) (f:=oth (trB R b l.1) l.2) e1 gl.1 e2 hout (by rw[e3,<- hi,hσ]);exact q
 obtain ⟨qs',d1,d2,d3⟩:=zdH F qs _ l g c1;obtain ⟨hend,hro⟩:=zfg F g h2;rw[h3] at hro;refine ⟨i,pl,hi2,λz=>?_,by rw[<- hi];exact hw,?_⟩
 .subst z;exact zfU F qs.length _ qs l (Nat.le_refl _) g c1 hent.symm
 .show wY _ _ _ _ _=_;rw[hent,zbm qs' _ _ _ _ d1 hend (by lia),hro,c3];show some ([l.1]++_,_)=_;rw[List.singleton_append,d2];rfl
theorem qE {R:List (List Int)}(H:Sums R)(b:Bool):∃ (L:Nat->Nat) (P:Nat->List Pl),∀j,j < 2 * R.length->L j < 2 * R.length/\L j≠j/\L (L j)=j/\P (L j)=(P j).reverse/\Wk R b j=some (P j,((2 * L j+bN b:Nat):Int)):=by
 have key:∀j:Nat,∃i:Nat,∃pl:List Pl,j < 2 * R.length->i < 2 * R.length/\i≠j/\Wk R b j=some (pl,((2 * i+bN b:Nat):Int))/\Wk R b i=some (pl.reverse,((2 * j+bN b:Nat):Int)):=λj=>by
  by_cases hj:j < 2 * R.length
  .obtain ⟨i,pl,h⟩:=zdJ H b hj;exact ⟨i,pl,λ_=>h⟩
  .exact ⟨0,[],λz=>absurd z hj⟩
 obtain ⟨L,hL⟩:=Classical.axiomOfChoice key;obtain ⟨P,hP⟩:=Classical.axiomOfChoice hL;refine ⟨L,P,λj hj=>?_⟩;obtain ⟨h1,h2,h3,h4⟩:=hP j hj;obtain ⟨_,_,g3,_⟩:=hP (L j) h1;rw[h4] at g3;simp only[Option.some.injEq,Prod.mk.injEq] at g3;refine ⟨h1,h2,?_,g3.1.symm,h3⟩;have:=g3.2;lia
end Lib
namespace Lib
section
variable {n:Nat}{t:Tr}
theorem zbn:∀ (qs:List Sta) (s l q q':Sta),Ch n t s qs l->nxt n t l=none->q∈s::qs->nxt n t q=some q'->q'∈s::qs
 | [],s,l,q,q',h,e,hq,hn=>by
  cases (show s=l from h);cases List.mem_singleton.mp hq;rw[e] at hn;cases hn
 | x::qs,s,l,q,q',h,e,hq,hn=>by
  rcases List.mem_cons.mp hq with rfl | hq
  .rw[h.1] at hn;cases hn;simp
  .exact List.mem_cons_of_mem _ (zbn qs x l q q' h.2 e hq hn)
theorem zbo:∀ (qs:List Sta) (s l q:Sta),Ch n t s qs l->q∈s::qs->nxt n t q=none->q=l
 | [],s,l,q,h,hq,_=>by cases (show s=l from h);exact List.mem_singleton.mp hq
 | x::qs,s,l,q,h,hq,hn=>by
  rcases List.mem_cons.mp hq with rfl | hq
  .rw[h.1] at hn;cases hn
  .exact zbo qs x l q h.2 hq hn
theorem gw:∀ (qs:List Sta) (s l q:Sta),Ch n t s qs l->q∈s::qs->q=s\/∃q0∈s::qs,nxt n t q0=some q
 | [],s,l,q,h,hq=>.inl (List.mem_singleton.mp hq)
 | x::qs,s,l,q,h,hq=>by
  rcases List.mem_cons.mp hq with rfl | hq
  .exact .inl rfl
  .rcases gw qs x l q h.2 hq with rfl | ⟨q0,h1,h2⟩
   .exact .inr ⟨s,by simp,h.1⟩
   .exact .inr ⟨q0,List.mem_cons_of_mem _ h1,h2⟩
theorem xX (F:Flo n t):∀ (qs:List Sta) (s l q:Sta),Good n t s->Ch n t s qs l->q∈s::qs->Good n t q
 | [],s,l,q,g,h,hq=>by cases List.mem_singleton.mp hq;exact g
 | x::qs,s,l,q,g,h,hq=>by
  rcases List.mem_cons.mp hq with rfl | hq
  .exact g
  .exact xX F qs x l q (zD F g h.1).1 h.2 hq
theorem gx:∀ (qs:List Sta) (s l:Sta),Ch n t s qs l->l∈s::qs
 | [],s,l,h=>by cases (show s=l from h);simp
 | x::qs,s,l,h=>List.mem_cons_of_mem _ (gx qs x l h.2)
theorem gy:∀ (qs:List Sta) (s l q:Sta),Ch n t s qs l->q∈s::qs->∃i,orb n t s i=some q
 | [],s,l,q,h,hq=>⟨0,by rw[List.mem_singleton.mp hq];rfl⟩
 | x::qs,s,l,q,h,hq=>by
  rcases List.mem_cons.mp hq with rfl | hq
  .exact ⟨0,rfl⟩
  .obtain ⟨i,e⟩:=gy qs x l q h.2 hq;exact ⟨i+1,by rw[vB h.1];exact e⟩
theorem zbp (F:Flo n t):∀ (qs:List Sta) (s l:Sta),Good n t s->Ch n t s qs l->∃qs',Ch n t (rev t l) qs' (rev t s)/\rev t l::qs'=((s::qs).map (rev t)).reverse
 | [],s,l,g,h=>by cases (show s=l from h);exact ⟨[],rfl,rfl⟩
 | q::qs,s,l,g,h=>by
  obtain ⟨qs',h1,h2⟩:=zbp F qs q l (zD F g h.1).1 h.2;refine ⟨qs'++[rev t s],gu qs' _ _ _ h1 (gv F g h.1),?_⟩;rw[<- List.cons_append,h2];simp
theorem jk (F:Flo n t){s s':Sta}(g:Good n t s)(g':Good n t s')(hr:Rim n s)(hr':Rim n s'):∀ (i j:Nat) (q:Sta),orb n t s i=some q->orb n t s' j=some q->s=s'
 | 0,0,q,h,h'=>by cases h;cases h';rfl
 | 0,j+1,q,h,h'=>by
  cases h;obtain ⟨s1,h1,h2⟩:=Option.bind_eq_some_iff.mp h';have:=(zD F (yi F g' j s1 h1) h2).2.1;unfold Rim at hr;rw[hr] at this;cases this
 | i+1,0,q,h,h'=>by
  cases h';obtain ⟨s1,h1,h2⟩:=Option.bind_eq_some_iff.mp h;have:=(zD F (yi F g i s1 h1) h2).2.1;unfold Rim at hr';rw[hr'] at this;cases this
 | i+1,j+1,q,h,h'=>by
  obtain ⟨s1,h1,h2⟩:=Option.bind_eq_some_iff.mp h;obtain ⟨s2,h3,h4⟩:=Option.bind_eq_some_iff.mp h';have e1:=(zD F (yi F g i s1 h1) h2).2.2;have e2:=(zD F (yi F g' j s2 h3) h4).2.2;have e:s2=s1:=e2.trans e1.symm;rw[e] at h3;exact jk F g g' hr hr' i j s1 h1 h3
def Clo (n:Nat)(t:Tr)(A:Pl->Bool):Prop:=∀p e,inn n p=true->inn n (stp e p)=true->t p e=true->A (stp e p)=A p
noncomputable def eA (t:Tr)(A:Pl->Bool)(p:Pl)(e:Di):Bool:=A p && t p e
noncomputable def hE (n:Nat)(t:Tr)(A:Pl->Bool)(r c:Nat):Bool:=if c < n then eA t A ((r:Int),(c:Int)) .l else eA t A ((r:Int),(n:Int) - 1) .r
noncomputable def vE (n:Nat)(t:Tr)(A:Pl->Bool)(r c:Nat):Bool:=if r < n then eA t A ((r:Int),(c:Int)) .u else eA t A ((n:Int) - 1,(c:Int)) .d
noncomputable def zjf (n:Nat)(t:Tr)(A:Pl->Bool):Nat->Bool
 | 0=>false
 | c+1=>zjf n t A c ^^ vE n t A 0 c
noncomputable def sid (n:Nat)(t:Tr)(A:Pl->Bool):Nat->Nat->Bool
 | 0,c=>zjf n t A c
 | r+1,c=>sid n t A r c ^^ hE n t A r c
variable {A:Pl->Bool}
theorem vk {r c:Nat}(hr:r < n)(hc:c < n):inn n ((r:Int),(c:Int))=true:=inn_iff.mpr ⟨⟨by show (0:Int)<=r;lia,by show (r:Int) < n;lia⟩,by show (0:Int)<=c;lia,by show (c:Int) < n;lia⟩
theorem hE_r (F:Flo n t)(hA:Clo n t A){r c:Nat}(hr:r < n)(hc:c < n):hE n t A r (c+1)=eA t A ((r:Int),(c:Int)) .r:=by
 unfold hE;by_cases h:c+1 < n
 .rw[if_pos h];have i1:=vk hr hc;have i2:=vk hr h;have e:((r:Int),((c+1:Nat):Int))=stp .r ((r:Int),(c:Int)):=by simp[stp]
  unfold eA;rw[e] at i2 ⊢;have hc:=F.con _ .r i1 i2;rw[show opp .r=.l from rfl] at hc;rw[hc];cases z:t ((r:Int),(c:Int)) .r with
  | true=>rw[hA _ .r i1 i2 z]
  | false=>simp
 .rw[if_neg h,show (n:Int) - 1=(c:Int) by lia]
theorem zjg (F:Flo n t)(hA:Clo n t A){r c:Nat}(hr:r < n)(hc:c < n):vE n t A (r+1) c=eA t A ((r:Int),(c:Int)) .d:=by
 unfold vE;by_cases h:r+1 < n
 .rw[if_pos h];have i1:=vk hr hc;have i2:=vk h hc;have e:(((r+1:Nat):Int),(c:Int))=stp .d ((r:Int),(c:Int)):=by simp[stp]
  unfold eA;rw[e] at i2 ⊢;have hc:=F.con _ .d i1 i2;rw[show opp .d=.u from rfl] at hc;rw[hc];cases z:t ((r:Int),(c:Int)) .d with
  | true=>rw[hA _ .d i1 i2 z]
  | false=>simp
 .rw[if_neg h,show (n:Int) - 1=(r:Int) by lia]
theorem zho {r c:Nat}(hc:c < n):hE n t A r c=eA t A ((r:Int),(c:Int)) .l:=if_pos hc
theorem zhp {r c:Nat}(hr:r < n):vE n t A r c=eA t A ((r:Int),(c:Int)) .u:=if_pos hr
theorem zhq (F:Flo n t){p:Pl}(hp:inn n p=true):(eA t A p .u ^^ eA t A p .r)=(eA t A p .d ^^ eA t A p .l):=by
 have:=F.two p hp;unfold eA dirs at *
 cases A p with
 | false=>rfl
 | true =>
  cases h1:t p .u <;> cases h2:t p .r <;> cases h3:t p .d <;> cases h4:t p .l <;> simp[h1,h2,h3,h4] at this ⊢
theorem ku (F:Flo n t)(hA:Clo n t A){c:Nat}(hc:c < n):∀r,r<=n->sid n t A r (c+1)=(sid n t A r c ^^ vE n t A r c)
 | 0,_=>rfl
 | r+1,hr=>by
  show (sid n t A r (c+1) ^^ hE n t A r (c+1))=((sid n t A r c ^^ hE n t A r c) ^^ vE n t A (r+1) c);rw[ku F hA hc r (by lia),hE_r F hA (by lia) hc,zjg F hA (by lia) hc,zho hc,zhp (by lia)];have:=zhq (A:=A) F (vk (show r < n by lia) hc);revert this;generalize sid n t A r c=a;generalize eA t A ((r:Int),(c:Int)) .u=u;generalize eA t A ((r:Int),(c:Int)) .r=v;generalize eA t A ((r:Int),(c:Int)) .d=d;generalize eA t A ((r:Int),(c:Int)) .l=l;revert a u v d l;decide
theorem xO (F:Flo n t)(hA:Clo n t A){r c:Nat}(hr:r < n)(hc:c < n)(h:A ((r:Int),(c:Int))=false):sid n t A r (c+1)=sid n t A r c/\sid n t A (r+1) c=sid n t A r c/\sid n t A (r+1) (c+1)=sid n t A r c:=by
 have z:∀e,eA t A ((r:Int),(c:Int)) e=false:=λe=>by unfold eA;rw[h];rfl
 have h1:sid n t A r (c+1)=sid n t A r c:=by rw[ku F hA hc r (by lia),zhp hr,z];simp
 have h2:sid n t A (r+1) c=sid n t A r c:=by
  show (sid n t A r c ^^ hE n t A r c)=_;rw[zho hc,z];simp
 refine ⟨h1,h2,?_⟩;rw[ku F hA hc (r+1) (by lia),zjg F hA hr hc,z,h2];simp
noncomputable def bnd (n ρ:Nat):Nat×Nat:=if ρ<=n then (0,ρ) else if ρ<=2 * n then (ρ - n,n) else if ρ<=3 * n then (n,3 * n - ρ) else (4 * n - ρ,0)
noncomputable def gS (n:Nat)(t:Tr)(A:Pl->Bool)(ρ:Nat):Bool:=sid n t A (bnd n ρ).1 (bnd n ρ).2
noncomputable def cf (n:Nat)(t:Tr)(A:Pl->Bool)(p:Pl):Bool:=sid n t A p.1.toNat p.2.toNat
theorem jl {ρ:Nat}(hn:0 < n)(h:ρ < 4 * n):∃m,m < n/\((ρ=m/\ent n ρ=((0,(m:Int)),.u))\/(ρ=n+m/\ent n ρ=(((m:Int),(n:Int) - 1),.r))\/(ρ=2 * n+m/\ent n ρ=(((n:Int) - 1,(n:Int) - 1 - (m:Int)),.d))\/(ρ=3 * n+m/\ent n ρ=(((n:Int) - 1 - (m:Int),0),.l))):=by
 have h1:=Nat.div_add_mod ρ n;have h2:=Nat.mod_lt ρ hn;have h3:ρ / n < 4:=Nat.div_lt_of_lt_mul (by rw[Nat.mul_comm];exact h);refine ⟨ρ % n,h2,?_⟩;unfold ent;generalize ρ % n=m at *
 generalize ρ / n=q at *
 match q,h3 with
 | 0,_=>exact .inl ⟨by lia,rfl⟩
 | 1,_=>exact .inr (.inl ⟨by lia,rfl⟩)
 | 2,_=>exact .inr (.inr (.inl ⟨by lia,rfl⟩))
 | 3,_=>exact .inr (.inr (.inr ⟨by lia,rfl⟩))
theorem zfi {m:Nat}(h:m<=n):bnd n m=(0,m):=if_pos h
theorem zhr {m:Nat}(h:m<=n):bnd n (n+m)=(m,n):=by
 unfold bnd;by_cases z:n+m<=n
 .rw[if_pos z,show m=0 by lia];rfl
 .rw[if_neg z,if_pos (by lia),show n+m - n=m by lia]
theorem zhs {m:Nat}(hn:0 < n)(h:m<=n):bnd n (2 * n+m)=(n,n - m):=by
 unfold bnd;rw[if_neg (by lia)];by_cases z:2 * n+m<=2 * n
 .rw[if_pos z,show m=0 by lia,show 2 * n+0 - n=n by lia];rfl
 .rw[if_neg z,if_pos (by lia),show 3 * n - (2 * n+m)=n - m by lia]
theorem zht {m:Nat}(hn:0 < n)(h:m<=n):bnd n (3 * n+m)=(n - m,0):=by
 unfold bnd;rw[if_neg (by lia),if_neg (by lia)];by_cases z:3 * n+m<=3 * n
 .rw[if_pos z,show m=0 by lia,show 3 * n - (3 * n+0)=0 by lia];rfl
 .rw[if_neg z,show 4 * n - (3 * n+m)=n - m by lia]
theorem qF (a b:Bool):a=((a ^^ b) ^^ b):=by cases a <;> cases b <;> rfl
theorem zfj (F:Flo n t)(hA:Clo n t A){ρ:Nat}(hn:0 < n)(h:ρ < 4 * n):gS n t A (ρ+1)=(gS n t A ρ ^^ eA t A (ent n ρ).1 (ent n ρ).2):=by
 obtain ⟨m,hm,(⟨rfl,e⟩ | ⟨rfl,e⟩ | ⟨rfl,e⟩ | ⟨rfl,e⟩)⟩:=jl hn h
 .rw[e];unfold gS;rw[zfi (by lia),zfi (by lia)];show sid n t A 0 (ρ+1)=(sid n t A 0 ρ ^^ eA t A (((0:Nat):Int),(ρ:Int)) .u);rw[<- zhp hn];rfl
 .rw[e];unfold gS;rw[zhr (by lia),Nat.add_assoc,zhr (by lia)];show (sid n t A m n ^^ hE n t A m n)=_;unfold hE;rw[if_neg (by lia)]
 .rw[e];unfold gS;rw[zhs hn (by lia),Nat.add_assoc,zhs hn (by lia)];obtain ⟨c,hc⟩:∃c,n=m+1+c:=⟨n - (m+1),by lia⟩;rw[show n - m=c+1 by lia,show n - (m+1)=c by lia];show sid n t A n c=(sid n t A n (c+1) ^^ eA t A ((n:Int) - 1,(n:Int) - 1 - (m:Int)) .d);rw[ku F hA (show c < n by lia) n (Nat.le_refl _)];have:vE n t A n c=eA t A ((n:Int) - 1,(n:Int) - 1 - (m:Int)) .d:=by
   unfold vE;rw[if_neg (by lia),show (n:Int) - 1 - (m:Int)=(c:Int) by lia]
  rw[this];exact qF _ _
 .rw[e];unfold gS;rw[zht hn (by lia),Nat.add_assoc,zht hn (by lia)];obtain ⟨c,hc⟩:∃c,n=m+1+c:=⟨n - (m+1),by lia⟩;rw[show n - m=c+1 by lia,show n - (m+1)=c by lia];show sid n t A c 0=((sid n t A c 0 ^^ hE n t A c 0) ^^ eA t A ((n:Int) - 1 - (m:Int),0) .l);have:hE n t A c 0=eA t A ((n:Int) - 1 - (m:Int),0) .l:=by
   rw[zho hn,show (n:Int) - 1 - (m:Int)=(c:Int) by lia];rfl
  rw[this];exact qF _ _
theorem zfV (F:Flo n t)(hA:Clo n t A){ρ:Nat}(hn:0 < n)(h:ρ < 4 * n)(ha:A (ent n ρ).1=false):gS n t A ρ=cf n t A (ent n ρ).1:=by
 obtain ⟨m,hm,(⟨rfl,e⟩ | ⟨rfl,e⟩ | ⟨rfl,e⟩ | ⟨rfl,e⟩)⟩:=jl hn h
 .rw[e];unfold gS;rw[zfi (by lia)];rfl
 .rw[e] at ha ⊢;unfold gS cf;rw[zhr (by lia)];obtain ⟨c,hc⟩:∃c,n=c+1:=⟨n - 1,by lia⟩;have e2:(n:Int) - 1=(c:Int):=by lia
  show sid n t A m n=sid n t A ((m:Int)).toNat ((n:Int) - 1).toNat;simp only[e2] at ha ⊢;rw[show ((m:Int)).toNat=m by lia,show ((c:Int)).toNat=c by lia];have:=(xO F hA hm (show c < n by lia) ha).1;rw[<- hc] at this;exact this
 .rw[e] at ha ⊢;unfold gS cf;rw[zhs hn (by lia)];obtain ⟨c,hc⟩:∃c,n=c+1:=⟨n - 1,by lia⟩;obtain ⟨d,hd⟩:∃d,n=m+1+d:=⟨n - (m+1),by lia⟩;have e2:(n:Int) - 1=(c:Int):=by lia
  have e3:(c:Int) - (m:Int)=(d:Int):=by lia
  show sid n t A n (n - m)=sid n t A ((n:Int) - 1).toNat ((n:Int) - 1 - (m:Int)).toNat;simp only[e2,e3] at ha ⊢;rw[show ((c:Int)).toNat=c by lia,show ((d:Int)).toNat=d by lia,show n - m=d+1 by lia];have:=(xO F hA (show c < n by lia) (show d < n by lia) ha).2.2;rw[<- hc] at this;exact this
 .rw[e] at ha ⊢;unfold gS cf;rw[zht hn (by lia)];obtain ⟨d,hd⟩:∃d,n=m+1+d:=⟨n - (m+1),by lia⟩;have e3:(n:Int) - 1 - (m:Int)=(d:Int):=by lia
  show sid n t A (n - m) 0=sid n t A ((n:Int) - 1 - (m:Int)).toNat 0;simp only[e3] at ha ⊢;rw[show ((d:Int)).toNat=d by lia,show n - m=d+1 by lia];exact (xO F hA (show d < n by lia) hn ha).2.1
theorem zfk (F:Flo n t)(hA:Clo n t A){p:Pl}{e:Di}(hp:inn n p=true)(hq:inn n (stp e p)=true)(h1:A p=false)(h2:A (stp e p)=false):cf n t A (stp e p)=cf n t A p:=by
 obtain ⟨⟨a0,a1⟩,b0,b1⟩:=inn_iff.mp hp;obtain ⟨⟨c0,c1⟩,d0,d1⟩:=inn_iff.mp hq;obtain ⟨a,b⟩:=p;obtain ⟨i,rfl⟩:=Int.eq_ofNat_of_zero_le a0;obtain ⟨j,rfl⟩:=Int.eq_ofNat_of_zero_le b0;simp only[] at a1 b1;have s1:=xO F hA (show i < n by lia) (show j < n by lia) h1;cases e with
 | u =>
  simp only[stp] at c0;obtain ⟨k,rfl⟩:∃k,i=k+1:=⟨i - 1,by lia⟩;have e2:stp .u (((k+1:Nat):Int),(j:Int))=((k:Int),(j:Int)):=by simp[stp]
  rw[e2] at h2 ⊢;exact (xO F hA (show k < n by lia) (show j < n by lia) h2).2.1.symm
 | r =>
  show sid n t A i ((j:Int)+1).toNat=sid n t A i j;rw[show ((j:Int)+1).toNat=j+1 by lia];exact s1.1
 | d =>
  show sid n t A ((i:Int)+1).toNat j=sid n t A i j;rw[show ((i:Int)+1).toNat=i+1 by lia];exact s1.2.1
 | l =>
  simp only[stp] at d0;obtain ⟨k,rfl⟩:∃k,j=k+1:=⟨j - 1,by lia⟩;have e2:stp .l ((i:Int),((k+1:Nat):Int))=((i:Int),(k:Int)):=by simp[stp]
  rw[e2] at h2 ⊢;exact (xO F hA (show i < n by lia) (show k < n by lia) h2).1.symm
set_option tactic.hygienic true in
theorem zfW (F:Flo n t)(hA:Clo n t A):∀ (qs:List Sta) (s l:Sta),Good n t s->Ch n t s qs l->(∀q∈s::qs,A q.1=false)->cf n t A l.1=cf n t A s.1
 | [],s,l,g,h,_=>by cases (show s=l from h);rfl
 | q::qs,s,l,g,h,ha=>by
  have gq:=(zD F g h.1).1;rw[zfW F hA qs q l gq h.2 λx hx=>ha x (List.mem_cons_of_mem _ hx)];have h0:=ha s (by simp);have h1:=ha q (by simp);have hn:=h.1;unfold nxt at hn;split at hn
  .next z=>cases hn;exact zfk F hA g.1 z h0 h1
  .cases hn
theorem zdK (F:Flo n t)(hA:Clo n t A)(hn:0 < n){a c:Nat}(hac:a < c)(h:∀ρ,ρ < 4 * n->(eA t A (ent n ρ).1 (ent n ρ).2=true↔ρ=a\/ρ=c)):∀x,x<=4 * n->gS n t A x=decide (a < x/\x<=c)
 | 0,_=>by
  unfold gS;rw[zfi (by lia)];rw[decide_eq_false (by lia)];rfl
 | x+1,hx=>by
  rw[zfj F hA hn (by lia),zdK F hA hn hac h x (by lia)];have hh:=h x (by lia);cases z:eA t A (ent n x).1 (ent n x).2 with
  | true =>
   rcases hh.mp z with rfl | rfl
   .rw[decide_eq_false (show ¬(x < x/\x<=c) by lia),decide_eq_true (show x < x+1/\x+1<=c by lia)];rfl
   .rw[decide_eq_true (show a < x/\x<=x by lia),decide_eq_false (show ¬(a < x+1/\x+1<=x) by lia)];rfl
  | false =>
   have:¬(x=a\/x=c):=λq=>by have:=hh.mpr q;rw[z] at this;cases this
   rw[Bool.xor_false];exact decide_eq_decide.mpr (by lia)
noncomputable def onW (s:Sta)(qs:List Sta)(p:Pl):Bool:=decide (p∈(s::qs).map (·.1))
theorem gz (F:Flo n t){q:Sta}(g:Good n t q){e:Di}(h:t q.1 e=true):e=q.2\/e=oth (t q.1) q.2:=by
 by_cases z:e=q.2
 .exact .inl z
 .exact .inr (zc5 (F.two q.1 g.1) g.2 h z).symm
theorem zfX (F:Flo n t){s l:Sta}{qs:List Sta}(g:Good n t s)(hr:Rim n s)(h:Ch n t s qs l)(hl:nxt n t l=none){p:Pl}{e:Di}(hp:p∈(s::qs).map (·.1))(hi:inn n (stp e p)=true)(ht:t p e=true):stp e p∈(s::qs).map (·.1):=by
 obtain ⟨q,hq,rfl⟩:=List.mem_map.mp hp;have gq:=xX F qs s l q g h hq;rcases gz F gq ht with z | z
 .rcases gw qs s l q h hq with rfl | ⟨q0,m0,e0⟩
  .rw[z] at hi;unfold Rim at hr;rw[hr] at hi;cases hi
  .have:=(zD F (xX F qs s l q0 g h m0) e0).2.2;refine List.mem_map.mpr ⟨q0,m0,?_⟩;rw[z];exact congrArg Prod.fst this
 .rw[z] at hi ⊢;have hn:nxt n t q=some (stp (oth (t q.1) q.2) q.1,opp (oth (t q.1) q.2)):=by unfold nxt;rw[if_pos hi]
  exact List.mem_map.mpr ⟨_,zbn qs s l q _ h hl hq hn,rfl⟩
theorem zhu (F:Flo n t){s l:Sta}{qs:List Sta}(g:Good n t s)(hr:Rim n s)(h:Ch n t s qs l)(hl:nxt n t l=none):Clo n t (onW s qs):=λp e hp hi ht=>by
 refine decide_eq_decide.mpr ⟨λz=>?_,λz=>zfX F g hr h hl z hi ht⟩;have:=zfX F g hr h hl (p:=stp e p) (e:=opp e) z (by rw[xG];exact hp) (by rw[F.con p e hp hi];exact ht)
 rwa [xG] at this
theorem zfl (F:Flo n t){s l:Sta}{qs:List Sta}(g:Good n t s)(hr:Rim n s)(h:Ch n t s qs l)(hl:nxt n t l=none){p:Pl}{e:Di}(ho:inn n (stp e p)=false):eA t (onW s qs) p e=true↔(p,e)=s\/(p,e)=rev t l:=by
 unfold eA onW;rw[Bool.and_eq_true,decide_eq_true_eq];constructor
 .rintro ⟨hp,ht⟩;obtain ⟨q,hq,rfl⟩:=List.mem_map.mp hp;have gq:=xX F qs s l q g h hq;rcases gz F gq ht with z | z
  .rcases gw qs s l q h hq with rfl | ⟨q0,m0,e0⟩
   .left;rw[z]
   .have:=(zD F (xX F qs s l q0 g h m0) e0).2.1;rw[z,this] at ho;cases ho
  .right
   have hn:nxt n t q=none:=by unfold nxt;rw[if_neg];rw[<- z,ho];decide
   rw[<- zbo qs s l q h hq hn,z];rfl
 .rintro (z | z)
  .have e1:p=s.1:=congrArg Prod.fst z;have e2:e=s.2:=congrArg Prod.snd z;rw[e1,e2];exact ⟨by simp,g.2⟩
  .have gl:=wA F qs s l g h;have e1:p=l.1:=congrArg Prod.fst z;have e2:e=oth (t l.1) l.2:=congrArg Prod.snd z;rw[e1,e2];exact ⟨List.mem_map_of_mem (gx qs s l h),(xk (F.two l.1 gl.1) gl.2).1⟩
theorem zfm (F:Flo n t){s l s' l':Sta}{qs qs':List Sta}(g:Good n t s)(hr:Rim n s)(h:Ch n t s qs l)(hl:Rim n (rev t l))(g':Good n t s')(hr':Rim n s')(h':Ch n t s' qs' l'){q:Sta}(hq:q∈s'::qs')(ho:onW s qs q.1=true):s'=s\/s'=rev t l:=by
 have gq:=xX F qs' s' l' q g' h' hq;obtain ⟨q1,m1,e1⟩:=List.mem_map.mp (of_decide_eq_true ho);have g1:=xX F qs s l q1 g h m1;have e1:q1.1=q.1:=e1;obtain ⟨j,hj⟩:=gy qs' s' l' q h' hq;have hd:t q1.1 q.2=true:=by rw[e1];exact gq.2
 rcases gz F g1 hd with z | z
 .left
  obtain ⟨i,hi⟩:=gy qs s l q1 h m1;have:q1=q:=Prod.ext e1 z.symm;rw[this] at hi;exact jk F g' g hr' hr j i q hj hi
 .right
  obtain ⟨qs2,c1,c2⟩:=zbp F qs s l g h;have m2:rev t q1∈rev t l::qs2:=by
   rw[c2,List.mem_reverse];exact List.mem_map_of_mem m1
  have:rev t q1=q:=Prod.ext e1 z.symm;rw[this] at m2;obtain ⟨i,hi⟩:=gy qs2 _ _ q c1 m2;exact jk F g' (qC F (wA F qs s l g h)) hr' hl j i q hj hi
end
theorem kx {n ρ σ:Nat}(hn:0 < n)(h:ρ < 4 * n)(h':σ < 4 * n)(e:ent n ρ=ent n σ):ρ=σ:=by
 have a:=(xt hn h).2.2;have b:=(xt hn h').2.2;rw[e,b] at a;lia
set_option tactic.hygienic true in
theorem zdL {R:List (List Int)}(H:Sums R)(b:Bool){L:Nat->Nat}{P:Nat->List Pl}(hL:∀j,j < 2 * R.length->L j < 2 * R.length/\L (L j)=j/\Wk R b j=some (P j,((2 * L j+bN b:Nat):Int))){j k:Nat}(hj:j < 2 * R.length)(hk:k < 2 * R.length)(h1:j < k)(h2:k < L j):L k < L j:=by
 have hb:bN b=0\/bN b=1:=by cases b <;> simp[bN]
 have F:=zav H b;have hn:0 < R.length:=by lia
 have ends:∀i,i < 2 * R.length->∃qs l,Ch R.length (trB R b) (ent R.length (2 * i+bN b)) qs l/\nxt R.length (trB R b) l=none/\rev (trB R b) l=ent R.length (2 * L i+bN b):=λi hi=>by
  obtain ⟨l1,l2,l3⟩:=hL i hi;obtain ⟨qs,l,c1,c2,c3,c4,c5⟩:=gs _ _ _ _ _ l3;have gl:=wA F qs _ l (jj H b hi) c1;have hout:inn R.length (stp (oth (trB R b l.1) l.2) l.1)=false:=by
   unfold nxt at c2;split at c2
   .cases c2
   .next z=>simpa using z
  obtain ⟨e1,e2,e3⟩:=xt (n:=R.length) (ρ:=2 * L i+bN b) hn (by lia);refine ⟨qs,l,c1,c2,?_⟩;have q:=qD (p:=l.1) (q:=(ent R.length (2 * L i+bN b)).1) (e:=oth (trB R b l.1) l.2) (f:=(ent R.length (2 * L i+bN b)).2) gl.1 e1 hout e2 (by rw[e3];exact c4.symm);exact q
 obtain ⟨lj,lj2,_⟩:=hL j hj;obtain ⟨lk,lk2,_⟩:=hL k hk;obtain ⟨qs,l,c1,c2,c3⟩:=ends j hj;obtain ⟨qs',l',d1,d2,d3⟩:=ends k hk;have gj:=jj H b hj;have gk:=jj H b hk;obtain ⟨_,rj,_⟩:=xt (n:=R.length) (ρ:=2 * j+bN b) hn (by lia);obtain ⟨_,rk,_⟩:=xt (n:=R.length) (ρ:=2 * k+bN b) hn (by lia);obtain ⟨_,rl,_⟩:=xt (n:=R.length) (ρ:=2 * L j+bN b) hn (by lia);rw[<- c3] at rl;have hA:=zhu F gj rj c1 c2;have arc:=zdK F hA hn (a:=2 * j+bN b) (c:=2 * L j+bN b) (by lia) (λρ hρ=>by
  obtain ⟨_,rρ,_⟩:=xt (n:=R.length) hn hρ;rw[zfl F gj rj c1 c2 rρ,c3];constructor
  .rintro (z | z)
   .exact .inl (kx hn hρ (by lia) z)
   .exact .inr (kx hn hρ (by lia) z)
  .rintro (z | z)
   .left;rw[z]
   .right;rw[z])
 have off:∀q∈ent R.length (2 * k+bN b)::qs',onW (ent R.length (2 * j+bN b)) qs q.1=false:=λq hq=>by
  cases z:onW (ent R.length (2 * j+bN b)) qs q.1 with
  | false=>rfl
  | true =>
   exfalso;rcases zfm F gj rj c1 rl gk rk d1 hq z with e | e
   .have:=kx hn (by lia) (by lia) e;lia
   .rw[c3] at e;have:=kx hn (by lia) (by lia) e;lia
 have s1:=zfV F hA hn (show 2 * k+bN b < 4 * R.length by lia) (off _ (by simp));have hlm:ent R.length (2 * L k+bN b)=rev (trB R b) l':=d3.symm;have s2:=zfV F hA hn (show 2 * L k+bN b < 4 * R.length by lia) (by rw[hlm];exact off l' (gx qs' _ l' d1));have s3:=zfW F hA qs' _ l' gk d1 off;rw[hlm,show (rev (trB R b) l').1=l'.1 from rfl,s3,<- s1,arc _ (by lia),arc _ (by lia),decide_eq_true (show 2 * j+bN b < 2 * k+bN b/\2 * k+bN b<=2 * L j+bN b by lia)] at s2;have s2:=of_decide_eq_true s2;have hne:L k≠L j:=λz=>by
  have:L (L k)=L (L j):=by rw[z]
  lia
 lia
end Lib
namespace Lib
section
variable {lev:Nat->Lv}{cl:Nat->List Dat->Rd}{k:Nat}
noncomputable def zhv:Fn:=⟨3,3,(.ret (.and (.chain .le .lt (.lit (.int 0)) (.var 1) (.var 0)) (.chain .le .lt (.lit (.int 0)) (.var 2) (.var 0))))⟩
theorem zfn {n r c:Nat}(hr:r < n)(hc:c < n):zG lev cl k zhv [.int n,.int r,.int c]=.ok (.bl true):=by
 unfold zG;rw[if_pos (by rfl)];show zE (lev k) (exD lev cl (.ret _) [some (.int n),some (.int r),some (.int c)] _)=_;simp only[zJ,yS,zdh,zd,zb,za,zjX,zi0,zbd];rw[decide_eq_true (show (0:Int)<=r by lia),decide_eq_true (show (0:Int)<=c by lia)];simp only[zjX,zbd];rw[decide_eq_true (show (r:Int) < n by lia),decide_eq_true (show (c:Int) < n by lia)];simp only[zjX,zjW];simp[zE]
noncomputable def zhw (ki:Nat):Fn:=⟨4,4,(.seq (.ite (.not (.call ki (.pair (.var 0) (.pair (.var 1) (.pair (.var 2) .unit))))) (.ret (.lit .non)) .skip) (.seq (.ite (.and (.cmp .eq (.var 3) (.lit (.str [85]))) (.cmp .eq (.var 1) (.lit (.int 0)))) (.ret (.var 2)) .skip) (.seq (.ite (.and (.cmp .eq (.var 3) (.lit (.str [82]))) (.cmp .eq (.var 2) (.bin .sub (.var 0) (.lit (.int 1))))) (.ret (.bin .add (.var 0) (.var 1))) .skip) (.seq (.ite (.and (.cmp .eq (.var 3) (.lit (.str [68]))) (.cmp .eq (.var 1) (.bin .sub (.var 0) (.lit (.int 1))))) (.ret (.bin .add (.bin .mul (.lit (.int 2)) (.var 0)) (.bin .sub (.bin .sub (.var 0) (.lit (.int 1))) (.var 2)))) .skip) (.seq (.ite (.and (.cmp .eq (.var 3) (.lit (.str [76]))) (.cmp .eq (.var 2) (.lit (.int 0)))) (.ret (.bin .add (.bin .mul (.lit (.int 3)) (.var 0)) (.bin .sub (.bin .sub (.var 0) (.lit (.int 1))) (.var 1)))) .skip) (.ret (.lit .non)))))))⟩
noncomputable def zaw (n:Nat)(p:Pl)(e:Di):Dat:=if inn n (stp e p)=true then .non else .int (yr n p e)
theorem zfo {ki n r c:Nat}(hr:r < n)(hc:c < n)(hi:cl ki [.int n,.int r,.int c]=.ok (.bl true))(e:Di):zG lev cl k (zhw ki) [.int n,.int r,.int c,yA e]=.ok (zaw n ((r:Int),(c:Int)) e):=by
 have m2:zI .mul (.int 2) (.int n)=.ok (.int (2 * n)):=yX _ _ (by decide);have m3:zI .mul (.int 3) (.int n)=.ok (.int (3 * n)):=yX _ _ (by decide);have hq:∀ (a b:Di) ,yo .eq (yA a) (yA b)=.ok (.bl (decide (a=b))):=λa b=>by cases a <;> cases b <;> rfl
 have q1:=λa=>hq a .u;have q2:=λa=>hq a .r;have q3:=λa=>hq a .d;have q4:=λa=>hq a .l;unfold zG;rw[if_pos (by rfl)];show zE (lev k) (exD lev cl (.seq _ (.seq _ (.seq _ (.seq _ (.seq _ (.ret _)))))) [some (.int n),some (.int r),some (.int c),some (yA e)] _)=_;unfold zaw;have s1:Dat.str [85]=yA .u:=rfl;have s2:Dat.str [82]=yA .r:=rfl;have s3:Dat.str [68]=yA .d:=rfl;have s4:Dat.str [76]=yA .l:=rfl;cases e with
 | u =>
  by_cases z:(r:Int)=0
  .have t:inn n (stp .u ((r:Int),(c:Int)))=false:=by
    cases q:inn n (stp .u ((r:Int),(c:Int))) with
    | false=>rfl
    | true=>have:=inn_iff.mp q;simp only[stp] at this;lia
   rw[t];simp only[zw,yf,yy,wg,zu,zj,zl,yS,zF,zt,zb,za,zV,zd,zU,zjX,zi,hi,Bool.not_true,zjW,yn,ze,s1,s2,s3,s4,q1,q2,q3,q4,yN,yT,ym,m2,m3,zJ,reduceCtorEq,decide_false,decide_true,decide_eq_true z,Bool.false_eq_true,if_false,yr];simp[zE]
   try lia
  .have t:inn n (stp .u ((r:Int),(c:Int)))=true:=inn_iff.mpr (by simp only[stp];lia);rw[t];simp only[zw,yf,yy,wg,zu,zj,zl,yS,zF,zt,zb,za,zV,zd,zU,zjX,zi,hi,Bool.not_true,zjW,yn,ze,s1,s2,s3,s4,q1,q2,q3,q4,yN,yT,ym,m2,m3,zJ,reduceCtorEq,decide_false,decide_true,decide_eq_false z,if_true,yr];simp[zE]
 | r =>
  by_cases z:(c:Int)=(n:Int) - 1
  .have t:inn n (stp .r ((r:Int),(c:Int)))=false:=by
    cases q:inn n (stp .r ((r:Int),(c:Int))) with
    | false=>rfl
    | true=>have:=inn_iff.mp q;simp only[stp] at this;lia
   rw[t];simp only[zw,yf,yy,wg,zu,zj,zl,yS,zF,zt,zb,za,zV,zd,zU,zjX,zi,hi,Bool.not_true,zjW,yn,ze,s1,s2,s3,s4,q1,q2,q3,q4,yN,yT,ym,m2,m3,zJ,reduceCtorEq,decide_false,decide_true,decide_eq_true z,Bool.false_eq_true,if_false,yr];simp[zE]
   try lia
  .have t:inn n (stp .r ((r:Int),(c:Int)))=true:=inn_iff.mpr (by simp only[stp];lia);rw[t];simp only[zw,yf,yy,wg,zu,zj,zl,yS,zF,zt,zb,za,zV,zd,zU,zjX,zi,hi,Bool.not_true,zjW,yn,ze,s1,s2,s3,s4,q1,q2,q3,q4,yN,yT,ym,m2,m3,zJ,reduceCtorEq,decide_false,decide_true,decide_eq_false z,if_true,yr];simp[zE]
 | d =>
  by_cases z:(r:Int)=(n:Int) - 1
  .have t:inn n (stp .d ((r:Int),(c:Int)))=false:=by
    cases q:inn n (stp .d ((r:Int),(c:Int))) with
    | false=>rfl
    | true=>have:=inn_iff.mp q;simp only[stp] at this;lia
   rw[t];simp only[zw,yf,yy,wg,zu,zj,zl,yS,zF,zt,zb,za,zV,zd,zU,zjX,zi,hi,Bool.not_true,zjW,yn,ze,s1,s2,s3,s4,q1,q2,q3,q4,yN,yT,ym,m2,m3,zJ,reduceCtorEq,decide_false,decide_true,decide_eq_true z,Bool.false_eq_true,if_false,yr];simp[zE]
   try lia
  .have t:inn n (stp .d ((r:Int),(c:Int)))=true:=inn_iff.mpr (by simp only[stp];lia);rw[t];simp only[zw,yf,yy,wg,zu,zj,zl,yS,zF,zt,zb,za,zV,zd,zU,zjX,zi,hi,Bool.not_true,zjW,yn,ze,s1,s2,s3,s4,q1,q2,q3,q4,yN,yT,ym,m2,m3,zJ,reduceCtorEq,decide_false,decide_true,decide_eq_false z,if_true,yr];simp[zE]
 | l =>
  by_cases z:(c:Int)=0
  .have t:inn n (stp .l ((r:Int),(c:Int)))=false:=by
    cases q:inn n (stp .l ((r:Int),(c:Int))) with
    | false=>rfl
    | true=>have:=inn_iff.mp q;simp only[stp] at this;lia
   rw[t];simp only[zw,yf,yy,wg,zu,zj,zl,yS,zF,zt,zb,za,zV,zd,zU,zjX,zi,hi,Bool.not_true,zjW,yn,ze,s1,s2,s3,s4,q1,q2,q3,q4,yN,yT,ym,m2,m3,zJ,reduceCtorEq,decide_false,decide_true,decide_eq_true z,Bool.false_eq_true,if_false,yr];simp[zE]
   try lia
  .have t:inn n (stp .l ((r:Int),(c:Int)))=true:=inn_iff.mpr (by simp only[stp];lia);rw[t];simp only[zw,yf,yy,wg,zu,zj,zl,yS,zF,zt,zb,za,zV,zd,zU,zjX,zi,hi,Bool.not_true,zjW,yn,ze,s1,s2,s3,s4,q1,q2,q3,q4,yN,yT,ym,m2,m3,zJ,reduceCtorEq,decide_false,decide_true,decide_eq_false z,if_true,yr];simp[zE]
noncomputable def zdM:Fn:=⟨2,4,(.seq (.asg 2 (.bin .fdiv (.var 1) (.var 0))) (.seq (.asg 3 (.bin .mod (.var 1) (.var 0))) (.seq (.ite (.cmp .eq (.var 2) (.lit (.int 0))) (.ret (.tup (.pair (.lit (.int 0)) (.pair (.var 3) (.pair (.lit (.str [85])) .unit))))) .skip) (.seq (.ite (.cmp .eq (.var 2) (.lit (.int 1))) (.ret (.tup (.pair (.var 3) (.pair (.bin .sub (.var 0) (.lit (.int 1))) (.pair (.lit (.str [82])) .unit))))) .skip) (.seq (.ite (.cmp .eq (.var 2) (.lit (.int 2))) (.ret (.tup (.pair (.bin .sub (.var 0) (.lit (.int 1))) (.pair (.bin .sub (.bin .sub (.var 0) (.lit (.int 1))) (.var 3)) (.pair (.lit (.str [68])) .unit))))) .skip) (.ret (.tup (.pair (.bin .sub (.bin .sub (.var 0) (.lit (.int 1))) (.var 3)) (.pair (.lit (.int 0)) (.pair (.lit (.str [76])) .unit))))))))))⟩
theorem zdN {n ρ:Nat}(hn:0 < n)(hn':n<=12)(h:ρ < 4 * n):zG lev cl k zdM [.int n,.int ρ]=.ok (.tup [.int (ent n ρ).1.1,.int (ent n ρ).1.2,yA (ent n ρ).2]):=by
 have e1:zI .mod (.int ρ) (.int n)=.ok (.int ((ρ % n:Nat):Int)):=xV _ _ (by lia);have e2:zI .fdiv (.int ρ) (.int n)=.ok (.int ((ρ / n:Nat):Int)):=ve _ _ (by lia) (by lia);have h3:ρ / n < 4:=Nat.div_lt_of_lt_mul (by rw[Nat.mul_comm];exact h);unfold zG;rw[if_pos (by rfl)];show zE (lev k) (exD lev cl (.seq (.asg 2 _) (.seq (.asg 3 _) (.seq _ (.seq _ (.seq _ (.ret _)))))) [some (.int n),some (.int ρ),none,none] _)=_;rw[zw,zy];simp only[zt,zb,za,zjX,e2,zjW];rw[zS (by simp)];simp only[ze,List.set_cons_succ,List.set_cons_zero];rw[zw,zy];simp only[zt,zb,za,zjX,e1,zjW];rw[zS (by simp)];simp only[ze,List.set_cons_succ,List.set_cons_zero,zw,yf,yy,zJ,yn,zF,vK,zj,zl,zt,zb,za,zd,zV,zjX,yT,yN];unfold ent;generalize ρ % n=m at *
 generalize ρ / n=q at *
 match q,h3 with
 | 0,_=>rfl
 | 1,_=>rfl
 | 2,_=>rfl
 | 3,_=>rfl
noncomputable def byT:Ex:=(.idx (wT (tp2 (-1) 0) (tp2 0 1) (tp2 1 0) (tp2 0 (-1))) (kK 3 [85] [82] [68] [76]))
noncomputable def zhx (kr:Nat):Fn:=⟨4,6,(.seq (.asg 4 (.call kr (.pair (.var 0) (.pair (.var 1) (.pair (.var 2) (.pair (.var 3) .unit)))))) (.seq (.ite (.cmp .notN (.var 4) (.lit .non)) (.ret (.var 4)) .skip) (.seq (.asg 5 byT) (.ret (.tup (.pair (.bin .add (.var 1) (.idx (.var 5) (.lit (.int 0)))) (.pair (.bin .add (.var 2) (.idx (.var 5) (.lit (.int 1)))) .unit)))))))⟩
noncomputable def zH (n:Nat)(p:Pl)(e:Di):Dat:=if inn n (stp e p)=true then plc (stp e p) else .int (yr n p e)
theorem zfp {kr n r c:Nat}(e:Di)(h:cl kr [.int n,.int r,.int c,yA e]=.ok (zaw n ((r:Int),(c:Int)) e)):zG lev cl k (zhx kr) [.int n,.int r,.int c,yA e]=.ok (zH n ((r:Int),(c:Int)) e):=by
 unfold zG;rw[if_pos (by rfl)];show zE (lev k) (exD lev cl (.seq (.asg 4 _) (.seq _ (.seq (.asg 5 byT) (.ret _)))) [some (.int n),some (.int r),some (.int c),some (yA e),none,none] _)=_;rw[zw,zy];simp only[zu,zj,zl,zb,za,zjX,zi,h,zjW];have hfl:flat (zaw n ((r:Int),(c:Int)) e)=true:=by unfold zaw;split <;> rfl
 rw[zS hfl];simp only[ze,List.set_cons_succ,List.set_cons_zero];rw[zw];unfold zaw zH;by_cases q:inn n (stp e ((r:Int),(c:Int)))=true
 .rw[if_pos q,if_pos q];simp only[yy,zF,zb,za,zU,zjX];rw[show yo .notN .non .non=.ok (.bl false) from rfl];simp only[zjW,yn,ze];have hT:evD cl byT [some (.int n),some (.int r),some (.int c),some (yA e),some .non,none]=.ok (plc ((stp e ((r:Int),(c:Int))).1 - r,(stp e ((r:Int),(c:Int))).2 - c)):=by
   unfold byT;rw[zhm (e:=e) (show evD cl (.var 3) [some (.int n),some (.int r),some (.int c),some (yA e),some .non,none]=.ok (yA e) from rfl) (A:=plc (-1,0)) (B:=plc (0,1)) (C:=plc (1,0)) (D:=plc (0,-1)) rfl rfl rfl rfl];have z0:∀x:Int,x - x=0:=λx=>by lia
   have z1:∀x:Int,x - 1 - x=-1:=λx=>by lia
   have z2:∀x:Int,x+1 - x=1:=λx=>by lia
   cases e with
   | u=>show Rd.ok (plc (-1,0))=Rd.ok (plc ((r:Int) - 1 - r,(c:Int) - c));rw[z1,z0]
   | r=>show Rd.ok (plc (0,1))=Rd.ok (plc ((r:Int) - r,(c:Int)+1 - c));rw[z0,z2]
   | d=>show Rd.ok (plc (1,0))=Rd.ok (plc ((r:Int)+1 - r,(c:Int) - c));rw[z2,z0]
   | l=>show Rd.ok (plc (0,-1))=Rd.ok (plc ((r:Int) - r,(c:Int) - 1 - c));rw[z0,z1]
  rw[yf,zy,hT];simp only[zjW];rw[zS (by simp[plc])];simp only[ze,List.set_cons_succ,List.set_cons_zero,zJ,vK,zj,zl,zt,zZ,zb,za,zd,zjX];have i0:∀x y:Int,zK (plc (x,y)) (.int 0)=.ok (.int x):=λx y=>rfl;have i1:∀x y:Int,zK (plc (x,y)) (.int 1)=.ok (.int y):=λx y=>rfl;simp only[i0,i1,zjX,ym];rw[show (r:Int)+((stp e ((r:Int),(c:Int))).1 - r)=(stp e ((r:Int),(c:Int))).1 by lia,show (c:Int)+((stp e ((r:Int),(c:Int))).2 - c)=(stp e ((r:Int),(c:Int))).2 by lia];rfl
 .rw[if_neg q,if_neg q];simp only[yy,zF,zb,za,zU,zjX];rw[show yo .notN (.int (yr n ((r:Int),(c:Int)) e)) .non=.ok (.bl true) from rfl];simp only[zjW,zJ,zb,za];simp[zE,Rsd.then]
end
end Lib
namespace Lib
section
variable {lev:Nat->Lv}{cl:Nat->List Dat->Rd}{k:Nat}
noncomputable def vl (kb:Nat):Ex:=zcs 7 [85] [82] [68] [76] (.idx (.idx (.var 5) (.var 1)) (.var 2)) (.idx (.idx (.var 4) (.var 1)) (.bin .add (.var 2) (.lit (.int 1)))) (.idx (.idx (.var 5) (.bin .add (.var 1) (.lit (.int 1)))) (.var 2)) (.idx (.idx (.var 4) (.var 1)) (.var 2)) (.var 3) (.call kb (.pair (.blt .len (.pair (.var 4) .unit)) (.pair (.var 1) (.pair (.var 2) (.pair (.var 7) .unit)))))
noncomputable def qG (kb:Nat):Fn:=⟨4,7,(.seq (.asg 4 (.idx (.var 0) (.lit (.int 0)))) (.seq (.asg 5 (.idx (.var 0) (.lit (.int 1)))) (.ret (vl kb))))⟩
theorem ky (q:List Nat)(a:Ex)(de:DEn){d:Dat}(h:evD cl a de=.ok d):evD cl (pr2 q a) de=.ok (.tup [.str q,d]):=by
 show (((Rd.ok (.str q)).bind λx=>((evD cl a de).bind λy=>(Rd.ok (.tup [])).bind λz=>Rd.ok (.tup (y::zL z))).bind λy=>Rd.ok (.tup (x::zL y))).bind λx=>_)=_;rw[h];rfl
theorem zdO {kb n r c:Nat}{mk:Int}{U:Di->Int}{o0:Option Dat}{W V:List (List Int)}(hW:W.length=n)
  (g1:zK (tab V) (.int r)=.ok (row (V.getD r []))) (g2:zK (tab W) (.int r)=.ok (row (W.getD r []))) (g3:zK (tab V) (.int ((r:Int)+1))=.ok (row (V.getD (r+1) [])))
  (u:zK (row (V.getD r [])) (.int c)=.ok (.int (U .u))) (v:zK (row (W.getD r [])) (.int ((c:Int)+1))=.ok (.int (U .r))) (w:zK (row (V.getD (r+1) [])) (.int c)=.ok (.int (U .d))) (l:zK (row (W.getD r [])) (.int c)=.ok (.int (U .l)))
  (hb:∀e,cl kb [.int n,.int r,.int c,yA e]=.ok (zH n ((r:Int),(c:Int)) e)) :
  evD cl (vl kb) [o0,some (.int r),some (.int c),some (.int mk),some (tab W),some (tab V),none]=.ok (.lst ((dirs.filter λe=>decide (U e=mk)).map (zH n ((r:Int),(c:Int))))):=by
 unfold vl zcs;rw[w9];have hlen:xx .len [tab W]=.ok (.int n):=by simp[xx,xH,tab,hW]
 rw[show evD cl (wT (pr2 [85] (.idx (.idx (.var 5) (.var 1)) (.var 2))) (pr2 [82] (.idx (.idx (.var 4) (.var 1)) (.bin .add (.var 2) (.lit (.int 1))))) (pr2 [68] (.idx (.idx (.var 5) (.bin .add (.var 1) (.lit (.int 1)))) (.var 2))) (pr2 [76] (.idx (.idx (.var 4) (.var 1)) (.var 2)))) [o0,some (.int r),some (.int c),some (.int mk),some (tab W),some (tab V),none]=.ok (.tup (dirs.map λd=>.tup [yA d,.int (U d)])) from by
  unfold wT;rw[vK,zj,ky _ _ _ (d:=.int (U .u)) (by simp only[zZ,zt,zb,za,zd,zjX,g1,u]),zj,ky _ _ _ (d:=.int (U .r)) (by simp only[zZ,zt,zb,za,zd,zjX,ym,g2,v]),zj,ky _ _ _ (d:=.int (U .d)) (by simp only[zZ,zt,zb,za,zd,zjX,ym,g3,w]),zj,ky _ _ _ (d:=.int (U .l)) (by simp only[zZ,zt,zb,za,zd,zjX,g2,l])]
  rfl]
 simp only[zd,zjX];rw[show yQ .ptp (.tup (dirs.map λd=>.tup [yA d,.int (U d)])) (.int 0)=some (dirs.map λd=>(yA d,.int (U d))) from rfl];simp only[];rw[vO (λd=>(yA d,Dat.int (U d))) (λd=>decide (U d=mk)) (zH n ((r:Int),(c:Int))) dirs [] (λd _=>?_) (λd _ _=>?_) (by simp[dirs,lim])]
 .rfl
 .simp only[List.cons_append,List.nil_append,zF,zb,za,zjX,yN]
 .simp only[List.cons_append,List.nil_append,zu,xU,zj,zl,zb,za,zjX,zi,hlen,hb]
theorem gA {i:Nat}{e:Ex}{d:Dat}{X:Sm}{de:DEn}{lv:List Lv}(h:evD cl e de=.ok d)(hv:yw (.asg i e) X=none):∃lv',exD lev cl (.seq (.asg i e) X) de lv=exD lev cl X (de.set i (some d)) lv':=by
 rw[zT lev cl de lv hv,zy,h];simp only[zjW];unfold wN;split
 .simp only[ze];exact ⟨_,rfl⟩
 .simp only[ze];exact ⟨_,rfl⟩
theorem qH (n:Nat)(p:Pl)(e:Di):flat (zH n p e)=true:=by
 unfold zH;split <;> rfl
theorem zdP {kb n r c:Nat}{mk:Int}{U:Di->Int}{W V:List (List Int)}(hW:W.length=n)
  (g1:zK (tab V) (.int r)=.ok (row (V.getD r []))) (g2:zK (tab W) (.int r)=.ok (row (W.getD r []))) (g3:zK (tab V) (.int ((r:Int)+1))=.ok (row (V.getD (r+1) [])))
  (u:zK (row (V.getD r [])) (.int c)=.ok (.int (U .u))) (v:zK (row (W.getD r [])) (.int ((c:Int)+1))=.ok (.int (U .r))) (w:zK (row (V.getD (r+1) [])) (.int c)=.ok (.int (U .d))) (l:zK (row (W.getD r [])) (.int c)=.ok (.int (U .l)))
  (hb:∀e,cl kb [.int n,.int r,.int c,yA e]=.ok (zH n ((r:Int),(c:Int)) e)) (hk:lev k=.full) :
  zG lev cl k (qG kb) [.tup [tab W,tab V],.int r,.int c,.int mk]=.ok (.lst ((dirs.filter λe=>decide (U e=mk)).map (zH n ((r:Int),(c:Int))))):=by
 unfold zG;rw[if_pos (by rfl)];show zE (lev k) (exD lev cl (.seq (.asg 4 _) (.seq (.asg 5 _) (.ret (vl kb)))) [some (.tup [tab W,tab V]),some (.int r),some (.int c),some (.int mk),none,none,none] _)=_;generalize xp (qG kb) [.tup [tab W,tab V],.int r,.int c,.int mk]=lv0;obtain ⟨lv1,e1⟩:=gA (lev:=lev) (cl:=cl) (i:=4) (e:=.idx (.var 0) (.lit (.int 0))) (d:=tab W) (X:=.seq (.asg 5 (.idx (.var 0) (.lit (.int 1)))) (.ret (vl kb))) (de:=[some (.tup [tab W,tab V]),some (.int r),some (.int c),some (.int mk),none,none,none]) (lv:=lv0) rfl rfl;rw[e1];obtain ⟨lv2,e2⟩:=gA (lev:=lev) (cl:=cl) (i:=5) (e:=.idx (.var 0) (.lit (.int 1))) (d:=tab V) (X:=.ret (vl kb)) (de:=[some (.tup [tab W,tab V]),some (.int r),some (.int c),some (.int mk),some (tab W),none,none]) (lv:=lv1) rfl rfl;simp only[List.set_cons_succ,List.set_cons_zero];rw[e2];simp only[List.set_cons_succ,List.set_cons_zero,zJ];rw[zdO (o0:=some (.tup [tab W,tab V])) hW g1 g2 g3 u v w l hb];simp only[zjW];have hl:lvE lev (vl kb) (.lst ((dirs.filter λe=>decide (U e=mk)).map (zH n ((r:Int),(c:Int)))))=.full:=by
  unfold vl zcs;rw[xl];simp[yu,qH]
 have hl2:∀lv,lvR lev (vl kb) (.lst ((dirs.filter λe=>decide (U e=mk)).map (zH n ((r:Int),(c:Int))))) lv=.full:=λlv=>by
  unfold lvR;rw[if_neg (by simp)];exact hl
 rw[hl2];simp[zE,hk,wD]
end
end Lib
namespace Lib
section
variable {lev:Nat->Lv}{cl:Nat->List Dat->Rd}{k:Nat}
noncomputable def aeB (ke:Nat):Sm:=.dput 3 (.tup (.pair (.var 4) (.pair (.var 5) .unit))) (.call ke (.pair (.var 2) (.pair (.var 4) (.pair (.var 5) (.pair (.var 1) .unit)))))
noncomputable def zax (ks ke:Nat):Fn:=⟨2,6,(.seq (.asg 2 (.call ks (.pair (.var 0) .unit))) (.seq (.asg 3 .dict0) (.seq (.forv 4 (.rng (.lit (.int 0)) (.blt .len (.pair (.var 0) .unit)) (.lit (.int 1))) (.forv 5 (.rng (.lit (.int 0)) (.blt .len (.pair (.var 0) .unit)) (.lit (.int 1))) (aeB ke))) (.ret (.var 3)))))⟩
noncomputable def aeD (val:Pl->Dat)(ps:List Pl):Dat:=.dct (ps.map yL) (ps.map val)
theorem zfq {ke n r c:Nat}(hr:r < n)(hc:c < n)(hn:n<=12){mk:Int}{P:Dat}{val:Pl->Dat}(hE:cl ke [P,.int r,.int c,.int mk]=.ok (val ((r:Int),(c:Int))))(hlv:lev ke=.full)(o0:Option Dat)(l0 l1 l2:Lv):
  exD lev cl (aeB ke) [o0,some (.int mk),some P,some (aeD val (ptw n r c)),some (.int r),some (.int c)] [l0,l1,l2,.full,.full,.full]=.next [o0,some (.int mk),some P,some (aeD val (ptw n r (c+1))),some (.int r),some (.int c)] [l0,l1,l2,.full,.full,.full]:=by
 unfold aeB;have hC:evD cl (.call ke (.pair (.var 2) (.pair (.var 4) (.pair (.var 5) (.pair (.var 1) .unit))))) [o0,some (.int mk),some P,some (aeD val (ptw n r c)),some (.int r),some (.int c)]=.ok (val ((r:Int),(c:Int))):=by
  simp only[zu,zj,zl,zb,za,zjX,zi,hE]
 show (evD cl (.call ke _) _).okS _=_;rw[hC];simp only[zj5,zfS,zb,za,zjX];rw[show wZ (.tup [.int (r:Int),.int (c:Int)])=some (yL ((r:Int),(c:Int))) from rfl];simp only[List.getElem?_cons_succ,List.getElem?_cons_zero];unfold aeD;simp only[];have hfull:lvE lev (.call ke (.pair (.var 2) (.pair (.var 4) (.pair (.var 5) (.pair (.var 1) .unit))))) (val ((r:Int),(c:Int)))=.full:=by
  rw[gf,hlv];split <;> rfl
 have hlen:((ptw n r c).map yL).length < lim:=by
  rw[List.length_map,zff];have:r * n<=12 * 12:=Nat.mul_le_mul (by lia) hn;unfold lim;lia
 rw[if_pos ⟨trivial,hfull,hlen⟩];simp only[List.set_cons_succ,List.set_cons_zero];rw[zje zbj,zfT zbj,<- zdE]
theorem zbZ {ks ke:Nat}{R:List (List Int)}(hn:R.length<=12){mk:Int}{P:Dat}{val:Pl->Dat}(hs:cl ks [tab R]=.ok P)(hE:∀r c,r < R.length->c < R.length->cl ke [P,.int (r:Nat),.int (c:Nat),.int mk]=.ok (val ((r:Int),(c:Int))))(hlv:lev ke=.full)(hk:lev k=.full):
  zG lev cl k (zax ks ke) [tab R,.int mk]=.ok (aeD val (ptw R.length R.length 0)):=by
 have hlen:xx .len [tab R]=.ok (.int R.length):=by simp[xx,xH,tab]
 have hrg:k7 (.int 0) (.int R.length) (.int 1)=.ok (.tup (yt 0 1 R.length)):=gp (by lia);have main:∀l0 l1 l2,∃o4 o5,exD lev cl (.forv 4 (.rng (.lit (.int 0)) (.blt .len (.pair (.var 0) .unit)) (.lit (.int 1))) (.forv 5 (.rng (.lit (.int 0)) (.blt .len (.pair (.var 0) .unit)) (.lit (.int 1))) (aeB ke))) [some (tab R),some (.int mk),some P,some (.dct [] []),none,none] [l0,l1,l2,.full,.full,.full]=.next [some (tab R),some (.int mk),some P,some (aeD val (ptw R.length R.length 0)),o4,o5] [l0,l1,l2,.full,.full,.full]:=λl0 l1 l2=>by
  obtain ⟨de',lv',e,rfl,o4,o5,rfl⟩:=yU (body:=λx de lv=>exD lev cl (.forv 5 (.rng (.lit (.int 0)) (.blt .len (.pair (.var 0) .unit)) (.lit (.int 1))) (aeB ke)) (de.set 4 (some x)) (lv.set 4 (lvF x)))
   (λr de lv=>lv=[l0,l1,l2,.full,.full,.full]/\∃o4 o5,de=[some (tab R),some (.int mk),some P,some (aeD val (ptw R.length r 0)),o4,o5])
   (yt 0 1 R.length) (de:=[some (tab R),some (.int mk),some P,some (aeD val (ptw R.length 0 0)),none,none]) (lv:=[l0,l1,l2,.full,.full,.full]) ⟨rfl,none,none,rfl⟩ (by
    rintro r x de lv hx ⟨rfl,o4,o5,rfl⟩;have hr:r < R.length:=by
     have:=(List.getElem?_eq_some_iff.mp hx).1;simpa using this
    rw[xM _ _ _ _ hr] at hx;cases hx;rw[show (0:Int)+1 * (r:Int)=(r:Int) by lia];simp only[List.set_cons_succ,List.set_cons_zero];rw[show lvF (.int (r:Int))=.full from by simp[lvF],wO];simp only[vL,zd,xU,zj,zl,zb,zjX,zi,hlen,hrg,zjW,vN,vf,ww,if_true];obtain ⟨de',lv',e,rfl,q5,rfl⟩:=yU (body:=λx de lv=>exD lev cl (aeB ke) (de.set 5 (some x)) (lv.set 5 (lvF x)))
     (λc de lv=>lv=[l0,l1,l2,.full,.full,.full]/\∃o5,de=[some (tab R),some (.int mk),some P,some (aeD val (ptw R.length r c)),some (.int r),o5])
     (yt 0 1 R.length) (de:=[some (tab R),some (.int mk),some P,some (aeD val (ptw R.length r 0)),some (.int r),o5]) (lv:=[l0,l1,l2,.full,.full,.full]) ⟨rfl,o5,rfl⟩ (by
      rintro c x de lv hx ⟨rfl,o5,rfl⟩;have hc:c < R.length:=by
       have:=(List.getElem?_eq_some_iff.mp hx).1;simpa using this
      rw[xM _ _ _ _ hc] at hx;cases hx;rw[show (0:Int)+1 * (c:Int)=(c:Int) by lia];simp only[List.set_cons_succ,List.set_cons_zero];rw[show lvF (.int (c:Int))=.full from by simp[lvF]];exact ⟨_,_,zfq hr hc hn (hE r c hr hc) hlv _ l0 l1 l2,rfl,_,rfl⟩)
    refine ⟨_,_,e,rfl,some (.int r),q5,?_⟩;rw[show (yt 0 1 R.length).length=R.length from by simp,zfe])
  rw[show (yt 0 1 R.length).length=R.length from by simp] at e;refine ⟨o4,o5,?_⟩;rw[wO];simp only[vL,zd,xU,zj,zl,zb,zjX,zi,hlen,hrg,zjW,vN,vf,ww,if_true];exact e
 unfold zG;rw[if_pos (by rfl)];show zE (lev k) (exD lev cl (.seq (.asg 2 _) (.seq (.asg 3 .dict0) (.seq (.forv 4 _ (.forv 5 _ (aeB ke))) (.ret _)))) [some (tab R),some (.int mk),none,none,none,none] [lvF (tab R),lvF (.int mk),.full,.full,.full,.full])=_;have h2:∃l0 l1 l2,exD lev cl (.seq (.asg 2 (.call ks (.pair (.var 0) .unit))) (.seq (.asg 3 .dict0) (.seq (.forv 4 (.rng (.lit (.int 0)) (.blt .len (.pair (.var 0) .unit)) (.lit (.int 1))) (.forv 5 (.rng (.lit (.int 0)) (.blt .len (.pair (.var 0) .unit)) (.lit (.int 1))) (aeB ke))) (.ret (.var 3))))) [some (tab R),some (.int mk),none,none,none,none] [lvF (tab R),lvF (.int mk),.full,.full,.full,.full]
   = exD lev cl (.seq (.asg 3 .dict0) (.seq (.forv 4 (.rng (.lit (.int 0)) (.blt .len (.pair (.var 0) .unit)) (.lit (.int 1))) (.forv 5 (.rng (.lit (.int 0)) (.blt .len (.pair (.var 0) .unit)) (.lit (.int 1))) (aeB ke))) (.ret (.var 3)))) [some (tab R),some (.int mk),some P,none,none,none] [l0,l1,l2,.full,.full,.full]:=by
  rw[zw,zy];simp only[zu,zj,zl,zb,zjX,zi,hs,zjW];unfold wN;split
  .simp only[ze,List.set_cons_succ,List.set_cons_zero];exact ⟨_,_,_,rfl⟩
  .simp only[ze,List.set_cons_succ,List.set_cons_zero,xc,zp,List.append_nil,downs];exact ⟨_,_,_,rfl⟩
 obtain ⟨l0,l1,l2,h2⟩:=h2;refine (congrArg (zE (lev k)) h2).trans ?_;rw[zdF (d:=.dct [] []) rfl (by simp) rfl];simp only[List.set_cons_succ,List.set_cons_zero];obtain ⟨o4,o5,e⟩:=main l0 l1 l2;rw[yf,e,ze];simp only[zJ,zb,za,zjW];simp[zE,lvR,hk,wD,aeD]
end
end Lib
namespace Lib
section
structure AR (n:Nat)(F G:Nat->Nat->Int):Prop where
 f:∀i j,i < n->j<=n->F i j=1\/F i j=-1
 g:∀i j,i<=n->j < n->G i j=1\/G i j=-1
 place:∀r c,r < n->c < n->F r c - F r (c+1)+G r c - G (r+1) c=0
 left:∀r,r < n->F r 0=1
 right:∀r,r < n->F r n=-1
 top:∀c,c < n->G 0 c=-1
 low:∀c,c < n->G n c=1
noncomputable def pm:Dat:=.tup [.int 1,.int (-1)]
end
end Lib
namespace Lib
end Lib
namespace Lib
section
variable {lev:Nat->Lv}{cl:Nat->List Dat->Rd}{k:Nat}
noncomputable def ar (W:Nat->Nat->Int)(i j:Nat):Int:=if (decide (W i j=1) == decide (((i:Int)+j) % 2=1))=true then 1 else -1
noncomputable def wd:Dat:=.tup [.int 1,.int 0]
def zfr:Fn:=⟨1,1,(.ret (.cmp .eq (.bin .mod (.var 0) (.lit (.int 2))) (.lit (.int 1))))⟩
theorem zfs (n:Int):zG lev cl k zfr [.int n]=.ok (.bl (decide (n % 2=1))):=by
 have h:=xV n 2 (by decide);simp[zG,zfr,xo,xp,zE,lvR,h]
theorem zdQ (lev:Nat->Lv){kd:Kd}{e a b c:Ex}{x:List Int}(h:∀i:Int,lvE lev e (.int i)=.full):lvE lev (.compP kd e a b c) (row x)=.full:=by
 unfold row
 first | rw[wq] | rw[xl]
 simp only[xN,Bool.false_eq_true,if_false];rw[if_pos (vj _ _ h)]
noncomputable def agE (kr:Nat):Ex:=(.compP .enum (.call kr (.pair (.var 1) (.pair (.var 2) .unit))) (.var 0) (.lit (.int 0)) (.lit (.bl true)))
noncomputable def zay (kr:Nat):Fn:=⟨1,1,(.ret (agE kr))⟩
end
end Lib
namespace Lib
section
variable {lev:Nat->Lv}{cl:Nat->List Dat->Rd}{k:Nat}
noncomputable def acR (x:List Int):List Int:=(List.range (x.length+1)).map λc=>1 - 2 * (x.take c).sum
theorem zft {x:List Int}{c:Nat}(h:c<=x.length):(acR x)[c]?=some (1 - 2 * (x.take c).sum):=by
 simp only[acR,List.getElem?_map];rw[List.getElem?_range (by lia)];rfl
noncomputable def acB:Sm:=(.seq (.aug 1 .add (.var 3)) (.expr (.meth .append (.var 2) (.pair (.bin .sub (.lit (.int 1)) (.bin .mul (.lit (.int 2)) (.var 1))) .unit))))
noncomputable def zhy:Fn:=⟨1,4,(.seq (.asg 1 (.lit (.int 0))) (.seq (.asg 2 (.lst (.pair (.lit (.int 1)) .unit))) (.seq (.forv 3 (.var 0) acB) (.ret (.var 2)))))⟩
theorem zfu (x:List Int)(hx:x.length<=100)(hk:lev k=.full):zG lev cl k zhy [row x]=.ok (row (acR x)):=by
 have main:=yU (body:=λd de lv=>exD lev cl acB (de.set 3 (some d)) (lv.set 3 (lvF d)))
  (λt de lv=>∃ (p3:Option Dat) (l3:Lv),de=[some (row x),some (.int (x.take t).sum),some (row ((acR x).take (t+1))),p3]/\lv=[.no,.full,.full,l3])
  (x.map Dat.int) (de:=[some (row x),some (.int 0),some (row [1]),none]) (lv:=[.no,.full,.full,.full])
  ⟨none,.full,by simp[acR,List.range_succ_eq_map],rfl⟩ ?_
 .obtain ⟨de',lv',e,p3,l3,rfl,rfl⟩:=main;unfold zG;rw[if_pos (by rfl)];show zE (lev k) (exD lev cl (.seq _ (.seq _ (.seq _ _))) [some (row x),none,none,none] [lvF (row x),.full,.full,.full])=_;rw[show lvF (row x)=.no from by simp[lvF,row],zw];simp only[zy,zd,zjW];rw[zS (by simp)];simp only[ze,List.set_cons_succ,List.set_cons_zero];rw[zw];simp only[zy,xq,zj,zl,zd,zjX,zi];rw[xr (by simp;unfold lim;lia)];simp only[zjW];rw[yj (by simp)];simp only[ze,List.set_cons_succ,List.set_cons_zero];rw[yf,wO];have hit:itD (row x)=some (x.map Dat.int):=jc (by simp;unfold lim;lia);have hfl:flat (row x)=false:=by simp[row]
  simp only[zb,za,zjW,hit,hfl];have hrel:(if false=true then [Lv.no,Lv.full,Lv.full,Lv.full] else xc (.var 0) [some (row x),some (.int 0),some (.lst [.int 1]),none] [Lv.no,Lv.full,Lv.full,Lv.full])=[.no,.full,.full,.full]:=rfl;rw[hrel,show (some (.lst [.int 1]):Option Dat)=some (row [1]) from rfl,e,ze];rw[List.length_map,List.take_of_length_le (l:=acR x) (by simp[acR])];simp only[zJ,zb,za,zjW,lvR,zE,show flat (row (acR x))=false from by simp[row],Bool.false_eq_true,if_false,hk];rfl
 .rintro t d de lv hd ⟨p3,l3,rfl,rfl⟩;have ht:t < x.length:=by
   have:=(List.getElem?_eq_some_iff.mp hd).1;simpa using this
  have hxt:x[t]?=some x[t]:=List.getElem?_eq_getElem ht;rw[List.getElem?_map,hxt] at hd;cases hd;have hlen:((acR x).take (t+1)).length=t+1:=by simp[acR];lia
  have e2:(acR x).take (t+1+1)=(acR x).take (t+1)++[1 - 2 * (x.take (t+1)).sum]:=by
   rw[List.take_add_one,zft (by lia),Option.toList_some]
  refine ⟨_,_,?_,some (.int x[t]),lvF (.int x[t]),rfl,rfl⟩;unfold acB;simp only[List.set_cons_succ,List.set_cons_zero];rw[gi];simp only[zhd,List.getElem?_cons_succ,List.getElem?_cons_zero,za,zb,zj5,ym,ze,List.set_cons_succ,List.set_cons_zero];rw[<- zdA hxt];rw[zfb (v:=1 - 2 * (x.take (t+1)).sum) (by rw[hlen];unfold lim;lia) _ _ 2 (by simp only[zt,zd,zb,za,zjX,yX 2 _ (show yM 2=true by decide),yT]) rfl rfl,e2];rfl
noncomputable def dnR (x:List Int):List Int:=x.map λv=>2 * v - 1
noncomputable def dwE:Ex:=(.comp (.bin .sub (.bin .mul (.lit (.int 2)) (.var 1)) (.lit (.int 1))) (.var 0) (.lit (.bl true)))
noncomputable def zhz:Fn:=⟨1,1,(.ret dwE)⟩
theorem zfv (x:List Int)(hx:x.length<=100)(hk:lev k=.full):zG lev cl k zhz [row x]=.ok (row (dnR x)):=by
 have hl:(x.map Dat.int).length<=lim:=by simp;unfold lim;lia
 have hev:evD cl dwE [some (row x)]=.ok (row (dnR x)):=by
  unfold dwE;rw[kj];simp only[zb,zjX,row,jc hl];rw[yV Dat.int (λv=>.int (2 * v - 1)) x [] (λv _=>by simp) (λv _=>by simp only[List.cons_append,List.nil_append,zt,zd,zb,za,zjX,yX 2 _ (show yM 2=true by decide),yT]) (by simpa using hl)];simp only[dnR,List.map_map,List.nil_append];rfl
 have hlv:lvE lev dwE (row (dnR x))=.full:=zfc lev λi=>yu lev _ _ rfl;have hR:∀lv,lvR lev dwE (row (dnR x)) lv=.full:=λlv=>by
  unfold lvR;rw[if_neg (by simp[row])];exact hlv
 unfold zG;rw[if_pos (by rfl)];show zE (lev k) (exD lev cl (.ret dwE) [some (row x)] _)=_;rw[zJ,hev];simp only[zjW,zE,hR,hk];simp[wD]
noncomputable def wB (kc:Nat)(it:Ex):Ex:=(.comp (.call kc (.pair (.var 3) .unit)) it (.lit (.bl true)))
theorem jm {kc:Nat}{it:Ex}{de:DEn}{A:List (List Int)}{f:List Int->List Int}(hde:de.length=3)(hi:evD cl it de=.ok (tab A))(hA:A.length<=100)(hf:∀x∈A,cl kc [row x]=.ok (row (f x))):evD cl (wB kc it) de=.ok (tab (A.map f)):=by
 unfold wB;rw[kj,hi];simp only[zjX,tab,jc (show (A.map row).length<=lim from by simp;unfold lim;lia)];rw[yV row (λx=>row (f x)) A [] (λ_ _=>by simp) (λx hx=>?_) (by simp;unfold lim;lia)]
 .simp
 .have h3:(de++[some (row x)])[3]?=some (some (row x)):=by rw[List.getElem?_append_right (by lia),hde];rfl
  have hv:evD cl (.var 3) (de++[some (row x)])=.ok (row x):=xI h3;simp only[zu,zj,zl,hv,zjX,zi,hf x hx]
theorem jn {kc:Nat}{it:Ex}{A:List (List Int)}(h:lev kc=.full):lvE lev (wB kc it) (tab A)=.full:=by
 unfold wB tab
 first | rw[wq] | rw[xl]
 simp only[xN,Bool.false_eq_true,if_false];rw[if_pos (by
  rw[List.all_map,List.all_eq_true];intro x _;simp[h])]
theorem zhA {R:List (List Int)}(h:Sq R):R.map acR=yg R.length (R.length+1) (axf R):=by
 refine List.ext_getElem? λi=>?_;by_cases hi:i < R.length
 .simp only[List.getElem?_map,List.getElem?_eq_getElem hi,Option.map_some,yg,List.getElem?_range hi];have:∀c,1 - 2 * (R[i].take c).sum=axf R i c:=λc=>by simp[axf,hi]
  simp only[acR,h _ (List.getElem_mem hi),this];rfl
 .simp[yg,hi]
theorem zhB (R:List (List Int)):(vh R).map dnR=yg (R.length+1) R.length (dnf R):=by
 unfold vh yg;rw[List.map_map];refine List.map_congr_left λi _=>?_;simp only[Function.comp_apply,dnR,zN,y7,List.map_map];rfl
noncomputable def zhC (k0 k1 k2:Nat):Fn:=⟨1,3,(.seq (.asg 1 (wB k1 (.var 0))) (.seq (.asg 2 (wB k2 (.call k0 (.pair (.var 0) .unit)))) (.ret (.tup (.pair (.var 1) (.pair (.var 2) .unit))))))⟩
theorem zfw {k0 k1 k2:Nat}{R:List (List Int)}(h:Sq R)(hn:R.length<=12)(h0:cl k0 [tab R]=.ok (tab (vh R)))(h1:∀x:List Int,x.length<=100->cl k1 [row x]=.ok (row (acR x)))(h2:∀x:List Int,x.length<=100->cl k2 [row x]=.ok (row (dnR x)))(l1:lev k1=.full)(l2:lev k2=.full)(hk:lev k=.full):
  zG lev cl k (zhC k0 k1 k2) [tab R]=.ok (arr R.length (axf R) (dnf R)):=by
 have e1:=jm (cl:=cl) (kc:=k1) (it:=.var 0) (de:=[some (tab R),none,none]) (A:=R) (f:=acR) rfl (by simp) (by lia) (λx hx=>h1 x (by rw[h x hx];lia));rw[zhA h] at e1;have e2:=jm (cl:=cl) (kc:=k2) (it:=.call k0 (.pair (.var 0) .unit)) (de:=[some (tab R),some (tab (yg R.length (R.length+1) (axf R))),none]) (A:=vh R) (f:=dnR) rfl (by simp only[zu,zj,zl,zb,zjX,zi,h0]) (by simp[vh];lia) (λx hx=>h2 x (by
  obtain ⟨i,_,rfl⟩:=List.mem_map.mp hx;simp[zN];lia))
 rw[zhB] at e2;unfold zG;rw[if_pos (by rfl)];show zE (lev k) (exD lev cl (.seq _ (.seq _ _)) [some (tab R),none,none] [lvF (tab R),.full,.full])=_;rw[zw,zy,e1];simp only[zjW];rw[yj (jn l1)];simp only[ze,List.set_cons_succ,List.set_cons_zero];rw[yf,zy,e2];simp only[zjW];rw[yj (jn l2)];simp only[ze,List.set_cons_succ,List.set_cons_zero];simp[zE,lvR,hk,arr,wD,tab,show 2<=lim from by decide]
end
end Lib
namespace Lib
section
variable {lev:Nat->Lv}{cl:Nat->List Dat->Rd}{k:Nat}
noncomputable def wk (F:Nat->Nat->Int)(i j:Nat):Int:=if (decide (F i j=1) == decide (((i:Int)+j) % 2=1))=true then 1 else 0
noncomputable def wkE (ko:Nat):Ex:=(.compP .enum (.ife (.cmp .eq (.cmp .eq (.var 3) (.lit (.int 1))) (.call ko (.pair (.bin .add (.var 0) (.var 2)) .unit))) (.lit (.int 1)) (.lit (.int 0))) (.var 1) (.lit (.int 0)) (.lit (.bl true)))
noncomputable def zdR (ko:Nat):Fn:=⟨2,2,(.ret (wkE ko))⟩
theorem zdS {ko:Nat}(ho:∀n:Int,cl ko [.int n]=.ok (.bl (decide (n % 2=1)))){q:Nat}(hq:q<=100)(W:Nat->Nat->Int)(i:Nat)(hk:lev k=.full):zG lev cl k (zdR ko) [.int i,row (y7 q W i)]=.ok (row (y7 q (wk W) i)):=by
 have hev:evD cl (wkE ko) [some (.int i),some (row (y7 q W i))]=.ok (row (y7 q (wk W) i)):=by
  unfold wkE;rw[w9];simp only[zb,za,zd,zjX,zdz 0 (y7 q W i) (by rw[qB];unfold lim;lia),qB];rw[yV (λ(j:Nat)=>(Dat.int (0+(j:Int)),Dat.int ((y7 q W i).getD j 0))) (λ(j:Nat)=>.int (wk W i j)) _ [] (λj _=>by simp) (λj hj=>?_) (by simp;unfold lim;lia)]
  .simp only[List.nil_append,row,y7,List.map_map];rfl
  .have hj':j < q:=by simpa using hj
   rw[show (y7 q W i).getD j 0=W i j from wz (by simp[y7,hj']),Int.zero_add];simp only[List.cons_append,List.nil_append,vM,zF,zu,zj,zl,zt,zd,zb,za,zjX,zi,ym,ho,yN,zhb];unfold wk;cases (decide (W i j=1) == decide (((i:Int)+j) % 2=1)) <;> rfl
 have hlv:lvE lev (wkE ko) (row (y7 q (wk W) i))=.full:=zdQ lev λi=>yu lev _ _ rfl;have hR:∀lv,lvR lev (wkE ko) (row (y7 q (wk W) i)) lv=.full:=λlv=>by
  unfold lvR;rw[if_neg (by simp[row])];exact hlv
 unfold zG;rw[if_pos (by rfl)];show zE (lev k) (exD lev cl (.ret (wkE ko)) [some (.int i),some (row (y7 q W i))] _)=_;rw[zJ,hev];simp only[zjW,zE,hR,hk];simp[wD]
theorem zb0 {kr:Nat}{p q:Nat}(hp:p<=100)(W:Nat->Nat->Int)(hr:∀i:Nat,cl kr [.int i,row (y7 q W i)]=.ok (row (y7 q (wk W) i)))(hkr:lev kr=.full)(hk:lev k=.full):zG lev cl k (zay kr) [tab (yg p q W)]=.ok (tab (yg p q (wk W))):=by
 have hev:evD cl (agE kr) [some (tab (yg p q W))]=.ok (tab (yg p q (wk W))):=by
  unfold agE;rw[w9];simp only[zb,zd,zjX];rw[zdB 0 (yg p q W) (by rw[jg];unfold lim;lia),jg];simp only;rw[yV (λ(i:Nat)=>(Dat.int (0+(i:Int)),row ((yg p q W).getD i []))) (λ(i:Nat)=>row (y7 q (wk W) i)) _ [] (λi _=>by simp) (λi hi=>?_) (by simp;unfold lim;lia)]
  .simp only[List.nil_append,tab,yg,List.map_map];rfl
  .have hi':i < p:=by simpa using hi
   rw[show (yg p q W).getD i []=y7 q W i from by simp[yg,hi'],Int.zero_add];simp only[List.cons_append,List.nil_append,zu,zj,zl,za,zb,zjX,zi,hr]
 have hlv:lvE lev (agE kr) (tab (yg p q (wk W)))=.full:=by
  have:((yg p q (wk W)).map row).all (λx=>lvE lev (.call kr (.pair (.var 1) (.pair (.var 2) .unit))) x == .full)=true:=by
   rw[List.all_map,List.all_eq_true];intro x _;simp[row,hkr]
  unfold agE tab
  first | rw[wq] | rw[xl]
  simp only[xN,Bool.false_eq_true,if_false];rw[if_pos this]
 have hR:∀lv,lvR lev (agE kr) (tab (yg p q (wk W))) lv=.full:=λlv=>by
  unfold lvR;rw[if_neg (by simp[tab])];exact hlv
 unfold zG;rw[if_pos (by rfl)];show zE (lev k) (exD lev cl (.ret (agE kr)) [some (tab (yg p q W))] _)=_;rw[zJ,hev];simp only[zjW,zE,hR,hk];simp[wD]
noncomputable def zhD (ka kg:Nat):Fn:=⟨1,2,(.seq (.asg 1 (.call ka (.pair (.var 0) .unit))) (.ret (.tup (.pair (.call kg (.pair (.idx (.var 1) (.lit (.int 0))) .unit)) (.pair (.call kg (.pair (.idx (.var 1) (.lit (.int 1))) .unit)) .unit)))))⟩
theorem zfx {ka kg:Nat}{R:List (List Int)}{n:Nat}{F G:Nat->Nat->Int}(ha:cl ka [tab R]=.ok (arr n F G))(h1:cl kg [tab (yg n (n+1) F)]=.ok (tab (yg n (n+1) (wk F))))(h2:cl kg [tab (yg (n+1) n G)]=.ok (tab (yg (n+1) n (wk G))))(hkg:lev kg=.full)(hka:lev ka=.full)(hk:lev k=.full):
  zG lev cl k (zhD ka kg) [tab R]=.ok (arr n (wk F) (wk G)):=by
 have i0:zK (arr n F G) (.int 0)=.ok (tab (yg n (n+1) F)):=rfl;have i1:zK (arr n F G) (.int 1)=.ok (tab (yg (n+1) n G)):=rfl;unfold zG;rw[if_pos (by rfl)];show zE (lev k) (exD lev cl (.seq _ (.ret _)) [some (tab R),none] _)=_;rw[yf];simp only[zy,zu,zj,zl,zb,zjX,zi,ha,zjW];rw[yj (by simp[hka])];simp only[ze,List.set_cons_succ,List.set_cons_zero,zJ,vK,zu,zj,zl,zZ,zd,zb,za,zjX,zi,i0,i1,h1,h2];simp[zE,lvR,hkg,hk,arr,wD,tab,show 2<=lim from by decide]
end
end Lib
namespace Lib
section
noncomputable def b2n (b:Bool):Int:=if b=true then 1 else 0
theorem gB {F:Nat->Nat->Int}{i j:Nat}{p:Prop}[Decidable p](h:F i j=1↔p):wk F i j=b2n (decide p == decide (((i:Int)+j) % 2=1)):=by
 unfold wk b2n;rw[show decide (F i j=1)=decide p from decide_eq_decide.mpr h]
theorem zjh {R:List (List Int)}(H:Sums R){r c:Nat}(hr:r < R.length)(hc:c < R.length){F G:Nat->Nat->Int}(hF:∀i j,i < R.length->j<=R.length->F i j=1 - 2 * rsI R i j)(hG:∀i j,i<=R.length->j < R.length->G i j=2 * S R i j - 1):
  wk G r c=b2n (trN R r c .u)/\wk F r (c+1)=b2n (trN R r c .r)/\wk G (r+1) c=b2n (trN R r c .d)/\wk F r c=b2n (trN R r c .l):=by
 have q:((r:Int)+c) % 2=0\/((r:Int)+c) % 2=1:=by lia
 have q1:((r:Int)+((c+1:Nat):Int)) % 2=1 - ((r:Int)+c) % 2:=by lia
 have q2:(((r+1:Nat):Int)+(c:Int)) % 2=1 - ((r:Int)+c) % 2:=by lia
 have s1:=H.col r c (by lia) hc;have s2:=H.col (r+1) c (by lia) hc;have t1:rsI R r c=0\/rsI R r c=1:=H.row r c hr (by lia);have t2:rsI R r (c+1)=0\/rsI R r (c+1)=1:=H.row r (c+1) hr (by lia);have f1:=hF r c hr (by lia);have f2:=hF r (c+1) hr (by lia);have g1:=hG r c (by lia) hc;have g2:=hG (r+1) c (by lia) hc;refine ⟨?_,?_,?_,?_⟩
 .rw[gB (p:=S R r c=1) (by lia)];unfold trN;rcases s1 with s | s <;> rcases q with q | q <;> rw[s,q] <;> rfl
 .rw[gB (p:=rsI R r (c+1)=0) (by lia),q1];unfold trN;rcases t2 with s | s <;> rcases q with q | q <;> rw[s,q] <;> rfl
 .rw[gB (p:=S R (r+1) c=1) (by lia),q2];unfold trN;rcases s2 with s | s <;> rcases q with q | q <;> rw[s,q] <;> rfl
 .rw[gB (p:=rsI R r c=0) (by lia)];unfold trN;rcases t1 with s | s <;> rcases q with q | q <;> rw[s,q] <;> rfl
end
end Lib
namespace Lib
section
theorem zfy {n:Nat}{p:Pl}(hp:inn n p=true){e f:Di}(h:zH n p e=zH n p f):e=f:=by
 obtain ⟨⟨a0,a1⟩,b0,b1⟩:=inn_iff.mp hp;obtain ⟨a,b⟩:=p;simp only[] at a0 a1 b0 b1;unfold zH at h;by_cases h1:inn n (stp e (a,b))=true
 .rw[if_pos h1] at h;by_cases h2:inn n (stp f (a,b))=true
  .rw[if_pos h2] at h;have h:Dat.tup [.int (stp e (a,b)).1,.int (stp e (a,b)).2]=Dat.tup [.int (stp f (a,b)).1,.int (stp f (a,b)).2]:=h;simp only[Dat.tup.injEq,List.cons.injEq,Dat.int.injEq,and_true] at h;cases e <;> cases f <;> simp only[stp] at h <;> first | rfl | lia
  .rw[if_neg h2] at h;cases h
 .rw[if_neg h1] at h;by_cases h2:inn n (stp f (a,b))=true
  .rw[if_pos h2] at h;cases h
  .rw[if_neg h2] at h;simp only[Dat.int.injEq] at h;cases e <;> cases f <;> simp only[yr] at h <;> first | rfl | lia
end
end Lib
namespace Lib
section
variable {lev:Nat->Lv}{cl:Nat->List Dat->Rd}{k:Nat}
theorem zaz (pre:List Dat)(x y:Dat):zK (.lst (pre++[x,y])) (.int (-1))=.ok y:=wv (by simp)
theorem zhE (pre:List Dat)(x y:Dat):zK (.lst (pre++[x,y])) (.int (-2))=.ok x:=by
 have hi:ix (pre++[x,y]).length (-2)=some pre.length:=by
  unfold ix;rw[if_neg (by lia),if_pos (by simp;lia)];congr 1;simp;lia
 show (match (ix (pre++[x,y]).length (-2)).bind λj=>(pre++[x,y])[j]? with | some v=>Rd.ok v | none=>.no)=_;rw[hi];simp
theorem zhF {f:Di->Bool}(h:(dirs.filter f).length=2){d:Di}(hd:f d=true):dirs.filter f=[d,oth f d]\/dirs.filter f=[oth f d,d]:=by
 unfold oth dirs at *
 cases h1:f .u <;> cases h2:f .r <;> cases h3:f .d <;> cases h4:f .l <;> simp[h1,h2,h3,h4] at h ⊢ <;> cases d <;> simp_all
theorem zfY (a b c d:Int):yo .eq (.tup [.int a,.int b]) (.tup [.int c,.int d])=.ok (.bl (decide (a=c) && (decide (b=d) && true))):=rfl
theorem zji (a b c:Int):yo .eq (.tup [.int a,.int b]) (.int c)=.ok (.bl false):=rfl
theorem zjj (a b c:Int):yo .eq (.int c) (.tup [.int a,.int b])=.ok (.bl false):=rfl
theorem zdT {n:Nat}{p:Pl}(hp:inn n p=true)(e f:Di):yo .eq (zH n p e) (zH n p f)=.ok (.bl (decide (e=f))):=by
 by_cases q:e=f
 .subst q;rw[decide_eq_true rfl];unfold zH;split
  .show yo .eq (.tup [.int _,.int _]) (.tup [.int _,.int _])=_;rw[zfY];simp
  .rw[yN];simp
 .rw[decide_eq_false q];have hne:zH n p e≠zH n p f:=λz=>q (zfy hp z);unfold zH at hne ⊢;by_cases h1:inn n (stp e p)=true
  .rw[if_pos h1] at hne ⊢;by_cases h2:inn n (stp f p)=true
   .rw[if_pos h2] at hne ⊢;show yo .eq (.tup [.int _,.int _]) (.tup [.int _,.int _])=_;rw[zfY];have:¬((stp e p).1=(stp f p).1/\(stp e p).2=(stp f p).2):=λz=>hne (by unfold plc;rw[z.1,z.2]);by_cases z1:(stp e p).1=(stp f p).1
    .have z2:¬(stp e p).2=(stp f p).2:=λz2=>this ⟨z1,z2⟩;simp[z2]
    .simp[z1]
   .rw[if_neg h2];exact zji _ _ _
  .rw[if_neg h1] at hne ⊢;by_cases h2:inn n (stp f p)=true
   .rw[if_pos h2];exact zjj _ _ _
   .rw[if_neg h2] at hne ⊢;rw[yN,decide_eq_false (λz=>hne (by rw[z]))]
noncomputable def vm (n:Nat)(t:Tr)(p:Pl):Dat:=.lst ((dirs.filter (t p)).map (zH n p))
structure ED (n:Nat)(t:Tr)(D:Dat):Prop where
 get:∀p,inn n p=true->vT D (plc p)=.ok (vm n t p)
 isin:∀p,inn n p=true->yo .isin (plc p) D=.ok (.bl true)
 out:∀i:Int,yo .isin (.int i) D=.ok (.bl false)
theorem zhG {n:Nat}{t:Tr}{val:Pl->Dat}(h:∀p,inn n p=true->val p=vm n t p):ED n t (aeD val (ptw n n 0)) where
 get:=λp hp=>by
  show (match (wZ (plc p)).bind (atK _ _) with | some v=>Rd.ok v | none=>.no)=_;rw[show wZ (plc p)=some (yL p) from rfl];simp only[Option.bind];rw[zbh (zbk hp)];simp only[h p hp]
 isin:=λp hp=>by
  show j7 ((yJ [.int p.1,.int p.2]).map λk=>decide (k∈(ptw n n 0).map yL))=_;rw[show yJ [.int p.1,.int p.2]=some (yL p) from rfl];show Rd.ok (.bl (decide (yL p∈(ptw n n 0).map yL)))=_;rw[decide_eq_true (List.mem_map_of_mem (zbk hp))]
 out:=λ_=>rfl
noncomputable def tlC:Ex:=(.and (.cmp .isin (.idx (.var 3) (.neg (.lit (.int 1)))) (.var 0)) (.cmp .ne (.idx (.var 3) (.neg (.lit (.int 1)))) (.var 1)))
noncomputable def tlE:Ex:=(.ife (.cmp .eq (.idx (.var 4) (.lit (.int 0))) (.idx (.var 3) (.neg (.lit (.int 2))))) (.idx (.var 4) (.lit (.int 1))) (.idx (.var 4) (.lit (.int 0))))
noncomputable def tlG:Ex:=(.dget (.var 0) (.idx (.var 3) (.neg (.lit (.int 1)))))
noncomputable def tlB:Sm:=(.seq (.asg 4 tlG) (.expr (.meth .append (.var 3) (.pair tlE .unit))))
noncomputable def zaA:Fn:=⟨3,5,(.seq (.asg 3 (.lst (.pair (.var 1) (.pair (.var 2) .unit)))) (.seq (.while tlC tlB) (.ret (.var 3))))⟩
theorem zhH {n:Nat}{t:Tr}(F:Flo n t){s:Sta}(g:Good n t s){d0 d1 d2:Option Dat}(pre:List Dat):
  evD cl tlE [d0,d1,d2,some (.lst (pre++[zH n s.1 s.2,plc s.1])),some (vm n t s.1)]=.ok (zH n s.1 (oth (t s.1) s.2)):=by
 have h2:=zhE pre (zH n s.1 s.2) (plc s.1);obtain ⟨_,o2,_⟩:=xk (F.two s.1 g.1) g.2;unfold tlE vm;rcases zhF (F.two s.1 g.1) g.2 with e | e
 .rw[e];have i0:zK (.lst ([s.2,oth (t s.1) s.2].map (zH n s.1))) (.int 0)=.ok (zH n s.1 s.2):=rfl;have i1:zK (.lst ([s.2,oth (t s.1) s.2].map (zH n s.1))) (.int 1)=.ok (zH n s.1 (oth (t s.1) s.2)):=rfl;simp only[vM,zF,zZ,wf,zd,zb,za,zjX,i0,i1,h2,zdT g.1,decide_true]
 .rw[e];have i0:zK (.lst ([oth (t s.1) s.2,s.2].map (zH n s.1))) (.int 0)=.ok (zH n s.1 (oth (t s.1) s.2)):=rfl;simp only[vM,zF,zZ,wf,zd,zb,za,zjX,i0,h2,zdT g.1,decide_eq_false o2]
theorem zfz {n:Nat}{t:Tr}{D:Dat}(F:Flo n t)(hD:ED n t D){s:Sta}(g:Good n t s){d1 d2 d4:Option Dat}(pre:List Dat)(hl:pre.length+2 < lim)(l0 l1 l2 l4:Lv):
  ∃m0 m4,exD lev cl tlB [some D,d1,d2,some (.lst (pre++[zH n s.1 s.2,plc s.1])),d4] [l0,l1,l2,.full,l4] =
   .next [some D,d1,d2,some (.lst ((pre++[zH n s.1 s.2,plc s.1])++[zH n s.1 (oth (t s.1) s.2)])),some (vm n t s.1)] [m0,l1,l2,.full,m4]:=by
 have h1:=zaz pre (zH n s.1 s.2) (plc s.1);have hG:evD cl tlG [some D,d1,d2,some (.lst (pre++[zH n s.1 s.2,plc s.1])),d4]=.ok (vm n t s.1):=by
  unfold tlG;simp only[zfd,zZ,wf,zd,zb,za,zjX,h1,hD.get s.1 g.1]
 unfold tlB;rw[zT lev cl _ _ rfl,zy,hG];simp only[zjW];have go:∀m0 m4,∃m0' m4',exD lev cl (.expr (.meth .append (.var 3) (.pair tlE .unit))) [some D,d1,d2,some (.lst (pre++[zH n s.1 s.2,plc s.1])),some (vm n t s.1)] [m0,l1,l2,.full,m4] =
   .next [some D,d1,d2,some (.lst ((pre++[zH n s.1 s.2,plc s.1])++[zH n s.1 (oth (t s.1) s.2)])),some (vm n t s.1)] [m0',l1,l2,.full,m4']:=λm0 m4=>by
  refine ⟨m0,m4,?_⟩;rw[xW,zhH F g];simp only[zj5];rw[show xJ [some D,d1,d2,some (.lst (pre++[zH n s.1 s.2,plc s.1])),some (vm n t s.1)] 3=some (pre++[zH n s.1 s.2,plc s.1]) from rfl];simp only[];rw[if_pos (by simp;lia)];unfold xb;rw[if_neg (by simp[ya]),if_pos (yu lev _ _ (qH _ _ _))];simp only[List.set_cons_succ,List.set_cons_zero]
 unfold wN;split
 .simp only[ze,List.set_cons_succ,List.set_cons_zero];exact go _ _
 .rw[show xc tlG [some D,d1,d2,some (.lst (pre++[zH n s.1 s.2,plc s.1])),d4] [l0,l1,l2,.full,l4]=[.no,l1,l2,.full,l4] from rfl];simp only[ze,List.set_cons_succ,List.set_cons_zero];exact go _ _
theorem zhI {n:Nat}{t:Tr}{D:Dat}(hD:ED n t D){p:Pl}(hp:inn n p=true){ρ:Int}{d2 d4:Option Dat}(pre:List Dat)(x:Dat):evD cl tlC [some D,some (.int ρ),d2,some (.lst (pre++[x,plc p])),d4]=.ok (.bl true):=by
 have h1:=zaz pre x (plc p);unfold tlC;simp only[yS,zF,zZ,wf,zd,zb,za,zjX,h1,hD.isin p hp];rfl
theorem zfA {n:Nat}{t:Tr}{D:Dat}(hD:ED n t D){i:Int}{d1 d2 d4:Option Dat}(pre:List Dat)(x:Dat):evD cl tlC [some D,d1,d2,some (.lst (pre++[x,.int i])),d4]=.ok (.bl false):=by
 have h1:=zaz pre x (.int i);unfold tlC;simp only[yS,zF,zZ,wf,zd,zb,za,zjX,h1,hD.out i]
theorem zbq {n:Nat}{t:Tr}{D:Dat}(F:Flo n t)(hD:ED n t D)(ρ:Int)(d2:Option Dat):∀ (f:Nat) (s:Sta) (acc pl:List Pl) (σ:Int),Good n t s->wY n t f s acc=some (pl,σ)->acc.length+f+2<=lim->(∃pre,.int ρ::acc.map plc=pre++[zH n s.1 s.2,plc s.1])->∀ (fuel:Nat),f+1<=fuel->∀ (d4:Option Dat) (l0 l1 l2 l4:Lv),
  ∃q4 m0 m4,yR (evD cl tlC) (exD lev cl tlB) fuel [some D,some (.int ρ),d2,some (.lst (.int ρ::acc.map plc)),d4] [l0,l1,l2,.full,l4]=.next [some D,some (.int ρ),d2,some (.lst (.int ρ::pl.map plc++[.int σ])),q4] [m0,l1,l2,.full,m4]
 | 0,s,acc,pl,σ,g,h,ha,hp,fuel,hf,d4,l0,l1,l2,l4=>by cases h
 | f+1,s,acc,pl,σ,g,h,ha,⟨pre,hp⟩,fuel,hf,d4,l0,l1,l2,l4=>by
  obtain ⟨q,rfl⟩:∃q,fuel=q+1:=⟨fuel - 1,by lia⟩;have hlen:pre.length+2=acc.length+1:=by
   have:=congrArg List.length hp;simpa using this.symm
  obtain ⟨m0,m4,hB⟩:=zfz (lev:=lev) (cl:=cl) F hD g (d1:=some (.int ρ)) (d2:=d2) (d4:=d4) pre (by lia) l0 l1 l2 l4;have h':(match nxt n t s with | some s'=>wY n t f s' (acc++[s'.1]) | none=>some (acc,jr n t s))=some (pl,σ):=h;have unf:∀ (c:DEn->Rd) (body:DEn->List Lv->Rsd) (k:Nat) (de:DEn) (lv:List Lv),yR c body (k+1) de lv=match c de with
   | .ok (.bl true)=>match body de lv with
    | .next d1 l1=>yR c body k d1 l1
    | .cont d1 l1=>yR c body k d1 l1
    | .brk d1 l1=>.next d1 l1
    | r=>r
   | .ok (.bl false)=>.next de lv
   | .exc c d=>.exc c d
   | _=>.no:=λ_ _ _ _ _=>rfl
  rw[unf,hp,zhI hD g.1];simp only[];rw[hB];simp only[];rw[<- hp];unfold nxt jr at h';by_cases hi:inn n (stp (oth (t s.1) s.2) s.1)=true
  .rw[if_pos hi] at h';have hb:zH n s.1 (oth (t s.1) s.2)=plc (stp (oth (t s.1) s.2) s.1):=by unfold zH;rw[if_pos hi]
   have en:nxt n t s=some (stp (oth (t s.1) s.2) s.1,opp (oth (t s.1) s.2)):=by unfold nxt;rw[if_pos hi]
   rw[hb];have e:(.int ρ::acc.map plc)++[plc (stp (oth (t s.1) s.2) s.1)]=.int ρ::(acc++[stp (oth (t s.1) s.2) s.1]).map plc:=by simp
   rw[e];refine zbq F hD ρ d2 f _ _ pl σ (zD F g en).1 h' (by simp;lia) ⟨pre++[zH n s.1 s.2],?_⟩ q (by lia) _ _ _ _ _;rw[<- e,hp,List.append_assoc,List.append_assoc];have hb2:zH n (stp (oth (t s.1) s.2) s.1) (opp (oth (t s.1) s.2))=plc s.1:=by
    unfold zH;rw[xG,if_pos g.1]
   simp[hb2]
  .rw[if_neg hi] at h';cases h';have hb:zH n s.1 (oth (t s.1) s.2)=.int (yr n s.1 (oth (t s.1) s.2)):=by unfold zH;rw[if_neg hi]
   rw[hb];obtain ⟨q',rfl⟩:∃q',q=q'+1:=⟨q - 1,by lia⟩;refine ⟨some (vm n t s.1),m0,m4,?_⟩;rw[unf,show (Dat.int ρ::acc.map plc)++[.int (yr n s.1 (oth (t s.1) s.2))]=(pre++[zH n s.1 s.2])++[plc s.1,.int (yr n s.1 (oth (t s.1) s.2))] from by rw[hp];simp,zfA hD]
theorem zb1 {n ρ:Nat}(hn:0 < n)(hn':n<=12)(hρ:ρ < 4 * n){t:Tr}{D:Dat}(F:Flo n t)(hD:ED n t D)(g:Good n t (ent n ρ))(hr:inn n (stp (ent n ρ).2 (ent n ρ).1)=false)(he:yr n (ent n ρ).1 (ent n ρ).2=ρ){pl:List Pl}{σ:Int}
  (hw:wY n t (n * n * 4) (ent n ρ) [(ent n ρ).1]=some (pl,σ)) (hk:lev k=.full):zG lev cl k zaA [D,.int ρ,plc (ent n ρ).1]=.ok (.lst (.int ρ::pl.map plc++[.int σ])):=by
 have hnn:n * n * 4<=576:=by
  have:n * n<=12 * 12:=Nat.mul_le_mul hn' hn';lia
 have hb:zH n (ent n ρ).1 (ent n ρ).2=.int ρ:=by
  unfold zH;rw[if_neg (by rw[hr];decide),he]
 obtain ⟨q4,m0,m4,hL⟩:=zbq (lev:=lev) (cl:=cl) F hD ρ (some (plc (ent n ρ).1)) (n * n * 4) (ent n ρ) [(ent n ρ).1] pl σ g hw (by simp;unfold lim;lia) ⟨[],by rw[hb];rfl⟩ 1000000 (by lia) none (lvF D) .full .full .full;have fl:∀pl:List Pl,flatL (pl.map plc)=true:=λpl=>by
  induction pl with
  | nil=>rfl
  | cons a l ih=>rw[List.map_cons,zak,ih];simp[plc]
 unfold zG;rw[if_pos (by rfl)];show zE (lev k) (exD lev cl (.seq (.asg 3 _) (.seq (.while tlC tlB) (.ret _))) [some D,some (.int ρ),some (plc (ent n ρ).1),none,none] [lvF D,lvF (.int ρ),lvF (plc (ent n ρ).1),.full,.full])=_;rw[show lvF (.int (ρ:Int))=.full from by simp[lvF],show lvF (plc (ent n ρ).1)=.full from by simp[lvF,plc]];rw[zdF (d:=.lst [.int ρ,plc (ent n ρ).1]) (by
  simp only[xq,zj,zl,zb,za,zjX,zi];exact xr (show 2<=lim by decide)) (by simp[plc]) rfl]
 simp only[List.set_cons_succ,List.set_cons_zero];rw[yf,qA];have hL':=hL;rw[show (List.map plc [(ent n ρ).1])=[plc (ent n ρ).1] from rfl] at hL';rw[hL',ze];simp only[zJ,zb,za,zjW];simp[zE,lvR,hk,wD]
end
end Lib
namespace Lib
section
variable {lev:Nat->Lv}{cl:Nat->List Dat->Rd}{k:Nat}
noncomputable def mkB (b:Bool):Int:=if b then 0 else 1
theorem wQ {p q i:Nat}{F:Nat->Nat->Int}(h:i < p):(yg p q F).getD i []=y7 q F i:=by simp[yg,List.getD_eq_getElem?_getD,h]
theorem gC {q i j:Nat}{F:Nat->Nat->Int}(h:j < q):zK (row (y7 q F i)) (.int (j:Int))=.ok (.int (F i j)):=kn (by simp[y7,h])
theorem zjk (x b:Bool):decide (b2n x=mkB b)=!(x == b):=by cases x <;> cases b <;> rfl
theorem zhJ {kb:Nat}{R:List (List Int)}(H:Sums R)(b:Bool){r c:Nat}(hr:r < R.length)(hc:c < R.length)(hb:∀e,cl kb [.int R.length,.int r,.int c,yA e]=.ok (zH R.length ((r:Int),(c:Int)) e))(hk:lev k=.full):
  zG lev cl k (qG kb) [arr R.length (wk (axf R)) (wk (dnf R)),.int r,.int c,.int (mkB b)]=.ok (vm R.length (trB R b) ((r:Int),(c:Int))):=by
 obtain ⟨w1,w2,w3,w4⟩:=zjh H hr hc (F:=axf R) (G:=dnf R) (λi j _ _=>rfl) (λi j _ _=>rfl);have e:=zdP (lev:=lev) (k:=k) (cl:=cl) (kb:=kb) (n:=R.length) (r:=r) (c:=c) (mk:=mkB b) (U:=λe=>b2n (trN R r c e)) (W:=yg R.length (R.length+1) (wk (axf R))) (V:=yg (R.length+1) R.length (wk (dnf R))) (jg _ _ _)
  (by rw[wQ (by lia)];exact jh (by lia)) (by rw[wQ hr];exact jh hr) (by rw[wQ (by lia)];exact jh (i:=r+1) (by lia))
  (by rw[wQ (by lia),gC hc,w1]) (by rw[wQ hr];exact (gC (j:=c+1) (by lia)).trans (by rw[w2])) (by rw[wQ (by lia),gC hc,w3]) (by rw[wQ hr,gC (by lia),w4]) hb hk
 rw[show arr R.length (wk (axf R)) (wk (dnf R))=.tup [tab (yg R.length (R.length+1) (wk (axf R))),tab (yg (R.length+1) R.length (wk (dnf R)))] from rfl,e];unfold vm;congr 3;refine List.filter_congr λd _=>?_;show decide (b2n (trN R r c d)=mkB b)=!(trR R ((r:Int),(c:Int)) d == b);rw[zjk];rfl
theorem qI {kt:Nat}{a:Ex}{X:Dat}{lv:List Lv}(h:lev kt=.full):lvR lev (.call kt a) X lv=.full:=by
 unfold lvR;split
 .rfl
 .show lvE lev (.call kt a) X=.full;rw[gf,h];split <;> rfl
noncomputable def zhK (kp kt:Nat):Fn:=⟨4,6,(.seq (.asg 4 (.ife (.cmp .eq (.var 3) (.lit (.int 1))) (.bin .mul (.lit (.int 2)) (.var 2)) (.bin .add (.bin .mul (.lit (.int 2)) (.var 2)) (.lit (.int 1))))) (.seq (.asg 5 (.call kp (.pair (.var 1) (.pair (.var 4) .unit)))) (.ret (.call kt (.pair (.var 0) (.pair (.var 4) (.pair (.tup (.pair (.idx (.var 5) (.lit (.int 0))) (.pair (.idx (.var 5) (.lit (.int 1))) .unit))) .unit)))))))⟩
theorem zfB {kp kt n j:Nat}{D X:Dat}(b:Bool)(hp:cl kp [.int n,.int ((2 * j+bN b:Nat):Int)]=.ok (.tup [.int (ent n (2 * j+bN b)).1.1,.int (ent n (2 * j+bN b)).1.2,yA (ent n (2 * j+bN b)).2]))(ht:cl kt [D,.int ((2 * j+bN b:Nat):Int),plc (ent n (2 * j+bN b)).1]=.ok X)(hkt:lev kt=.full)(hk:lev k=.full):
  zG lev cl k (zhK kp kt) [D,.int n,.int j,.int (mkB b)]=.ok X:=by
 have m2:zI .mul (.int 2) (.int (j:Int))=.ok (.int (2 * (j:Int))):=yX _ _ (by decide);have hroad:∀d4 d5:Option Dat,evD cl (.ife (.cmp .eq (.var 3) (.lit (.int 1))) (.bin .mul (.lit (.int 2)) (.var 2)) (.bin .add (.bin .mul (.lit (.int 2)) (.var 2)) (.lit (.int 1)))) [some D,some (.int n),some (.int j),some (.int (mkB b)),d4,d5]=.ok (.int ((2 * j+bN b:Nat):Int)):=λd4 d5=>by
  cases b with
  | false =>
   simp only[vM,zF,zt,zd,zb,za,zjX,yN,m2];rfl
  | true =>
   simp only[vM,zF,zt,zd,zb,za,zjX,yN,m2,ym];rfl
 unfold zG;rw[if_pos (by rfl)];show zE (lev k) (exD lev cl (.seq (.asg 4 _) (.seq (.asg 5 _) (.ret _))) [some D,some (.int n),some (.int j),some (.int (mkB b)),none,none] _)=_;rw[zbl (hroad _ _) (by simp) rfl];simp only[List.set_cons_succ,List.set_cons_zero];generalize ((2 * j+bN b:Nat):Int)=ρ at *
 generalize ent n (2 * j+bN b)=s at *
 rw[zbl (d:=.tup [.int s.1.1,.int s.1.2,yA s.2]) (by simp only[zu,zj,zl,zb,za,zjX,zi,hp]) (by simp[yA]) rfl];simp only[List.set_cons_succ,List.set_cons_zero,zJ];have i0:zK (.tup [.int s.1.1,.int s.1.2,yA s.2]) (.int 0)=.ok (.int s.1.1):=rfl;have i1:zK (.tup [.int s.1.1,.int s.1.2,yA s.2]) (.int 1)=.ok (.int s.1.2):=rfl;simp only[zu,zj,zl,zfS,zZ,zd,zb,za,zjX,zi,i0,i1];rw[show (Dat.tup [.int s.1.1,.int s.1.2])=plc s.1 from rfl,ht];simp only[zjW];rw[qI hkt];simp[zE,hk,wD]
noncomputable def zhL (ka kr:Nat):Fn:=⟨2,4,(.seq (.asg 2 (.blt .len (.pair (.var 0) .unit))) (.seq (.asg 3 (.call ka (.pair (.var 0) (.pair (.var 1) .unit)))) (.ret (.comp (.bin .fdiv (.idx (.call kr (.pair (.var 3) (.pair (.var 2) (.pair (.var 4) (.pair (.var 1) .unit))))) (.neg (.lit (.int 1)))) (.lit (.int 2))) (.rng (.lit (.int 0)) (.bin .mul (.lit (.int 2)) (.var 2)) (.lit (.int 1))) (.lit (.bl true))))))⟩
theorem zfC {ka kr:Nat}{R:List (List Int)}(hn:R.length<=12)(b:Bool){D:Dat}(hs:cl ka [tab R,.int (mkB b)]=.ok D)(hlv:lev ka=.full){L:Nat->Nat}{P:Nat->List Dat}(hw:∀j,j < 2 * R.length->cl kr [D,.int R.length,.int j,.int (mkB b)]=.ok (.lst (P j++[.int ((2 * L j+bN b:Nat):Int)])))(hk:lev k=.full):
  zG lev cl k (zhL ka kr) [tab R,.int (mkB b)]=.ok (row ((List.range (2 * R.length)).map λj=>(L j:Int))):=by
 have hlen:xx .len [tab R]=.ok (.int R.length):=by simp[xx,xH,tab]
 have m2:zI .mul (.int 2) (.int R.length)=.ok (.int ((2 * R.length:Nat):Int)):=by rw[yX _ _ (by decide)];simp
 have hrg:k7 (.int 0) (.int ((2 * R.length:Nat):Int)) (.int 1)=.ok (.tup (yt 0 1 (2 * R.length))):=gp (by lia);have hb:bN b=0\/bN b=1:=by cases b <;> simp[bN]
 unfold zG;rw[if_pos (by rfl)];show zE (lev k) (exD lev cl (.seq (.asg 2 _) (.seq (.asg 3 _) (.ret _))) [some (tab R),some (.int (mkB b)),none,none] [lvF (tab R),lvF (.int (mkB b)),.full,.full])=_;rw[zbl (d:=.int R.length) (by simp only[xU,zj,zl,zb,zjX,zi,hlen]) (by simp) rfl];simp only[List.set_cons_succ,List.set_cons_zero];rw[zdF (d:=D) (by simp only[zu,zj,zl,zb,za,zjX,zi,hs]) (by rw[gf,hlv];split <;> rfl) rfl];simp only[List.set_cons_succ,List.set_cons_zero,zJ];rw[kj];simp only[vL,zd,zt,zb,za,zjX,m2,hrg,vN];rw[qz 0 1 (2 * R.length) (λj=>.int (L j)) (λj _=>rfl) (λj hj=>?_) (by unfold lim;lia)]
 .simp only[zjW];have hr:(Dat.lst ((List.range (2 * R.length)).map λj=>Dat.int (L j)))=row ((List.range (2 * R.length)).map λj=>(L j:Int)):=by simp only[row,List.map_map];rfl
  rw[hr];simp[zE,lvR,row,hk,wD]
 .rw[show (0+1 * (j:Int))=(j:Int) by lia];simp only[List.cons_append,List.nil_append,zt,zZ,zu,wf,zj,zl,zd,zb,za,zjX,zi,hw j hj];rw[wv (d:=.int ((2 * L j+bN b:Nat):Int)) (by simp)];simp only[zjX];rw[ve _ _ (by decide) (by decide),show (((2 * L j+bN b:Nat):Int)) / 2=(L j:Int) by lia]
noncomputable def zdU (k:Nat)(m:Int):Fn:=⟨1,1,(.ret (.call k (.pair (.var 0) (.pair (.lit (.int m)) .unit))))⟩
theorem zbr {kl:Nat}{m:Int}{d X:Dat}(h:cl kl [d,.int m]=.ok X)(hl:lev kl=.full)(hk:lev k=.full):zG lev cl k (zdU kl m) [d]=.ok X:=by
 unfold zG;rw[if_pos (by rfl)];show zE (lev k) (exD lev cl (.ret _) [some d] [lvF d])=_;rw[zJ];simp only[zu,zj,zl,zd,zb,zjX,zi,h,zjW];rw[qI hl];simp[zE,hk,wD]
end
end Lib
namespace Lib
section
variable {k:Nat}
noncomputable def wl (m:Nat)(F:Nat->Nat):List Int:=(List.range m).map λp=>(F p:Int)
theorem zjl {m:Nat}{F:Nat->Nat}{i:Nat}(h:i < m):(wl m F)[i]?=some (F i:Int):=by simp[wl,h]
theorem zdV {m:Nat}{F:Nat->Nat}{i:Nat}(h:i < m):zK (row (wl m F)) (.int (i:Int))=.ok (.int (F i:Int)):=kn (zjl h)
structure Web (m:Nat)(F:Nat->Nat):Prop where
 rg:∀p,p < m->F p < m
 inv:∀p,p < m->F (F p)=p
 nf:∀p,p < m->F p≠p
 nc:∀c x,c < m->x < m->c < F c->x≠c->x≠F c->((c < x/\x < F c)↔(c < F x/\F x < F c))
structure St (k:Nat)(F:Nat->Nat)(L:List Nat):Prop where
 so:L.Pairwise (· < ·)
 lt:∀p∈L,p < k
 rg:∀p,p < k->p∉L->F p < k/\F p∉L/\F p≠p/\F (F p)=p
 nc:∀a b,a < k->a∉L->a < b->b < F a->b∉L/\a < F b/\F b < F a
end
end Lib
namespace Lib
section
variable {lev:Nat->Lv}{cl:Nat->List Dat->Rd}
noncomputable def iN (L:List Nat):List Int:=L.map λ(p:Nat)=>(p:Int)
theorem zjm {j t:Nat}{L:List Nat}{de:DEn}{lv:List Lv}(hd:de[j]?=some (some (row (iN (L++[t])))))(hl:lv[j]?=some .full):qv j de lv=some ((t:Int),de.set j (some (row (iN L)))):=by
 have hls:xJ de j=some ((iN (L++[t])).map Dat.int):=by unfold xJ;rw[hd];rfl
 unfold qv;rw[hls];have e1:((iN (L++[t])).map Dat.int).getLast?=some (.int (t:Int)):=by simp[iN]
 have e2:((iN (L++[t])).map Dat.int).dropLast=(iN L).map Dat.int:=by simp[iN]
 simp only[e1];rw[if_pos (by simp[ya,hl]),e2];rfl
theorem zhM {L:List Nat}{e:Ex}{v:Nat}{de:DEn}{lv:List Lv}{j:Nat}(hx:L.length < 1000)(he:evD cl e de=.ok (.int v))(hd:de[j]?=some (some (row (iN L))))(hj:lv[j]?=some .full):
  exD lev cl (.expr (.meth .append (.var j) (.pair e .unit))) de lv=.next (de.set j (some (row (iN (L++[v]))))) lv:=by
 rw[xW,he];simp only[zj5];rw[show xJ de j=some ((iN L).map Dat.int) from by unfold xJ;rw[hd];rfl];simp only[];rw[if_pos (by simp[iN];unfold lim;lia)];rw[show xb lev e (.int (v:Int)) j de lv=some (de,lv) from by
  unfold xb;rw[if_neg (by simp[ya,hj]),if_pos (yu lev e _ (by simp))]]
 simp[iN,row]
end
end Lib
namespace Lib
end Lib
namespace Lib
end Lib
namespace Lib
section
variable {lev:Nat->Lv}{cl:Nat->List Dat->Rd}
noncomputable def opn (F:Nat->Nat)(j:Nat):List Nat:=(List.range j).filter λp=>decide (j<=F p)
theorem zdW {m:Nat}{F:Nat->Nat}(W:Web m F){j:Nat}(hj:j < m)(h:j < F j):opn F (j+1)=opn F j++[j]:=by
 unfold opn;rw[List.range_succ,List.filter_append];congr 1
 .refine List.filter_congr λp hp=>?_;have hp':p < j:=by simpa using hp
  have:F p≠j:=λe=>by have:=W.inv p (by lia);rw[e] at this;lia
  simp only[decide_eq_decide];lia
 .simp[show j+1<=F j by lia]
theorem zfD {m:Nat}{F:Nat->Nat}(W:Web m F){j:Nat}(hj:j < m)(h:F j < j):opn F j=opn F (j+1)++[F j]:=by
 unfold opn;obtain ⟨r,hr⟩:∃r,j=F j+(1+r):=⟨j - F j - 1,by lia⟩;have e1:List.range j=List.range (F j)++([F j]++(List.range r).map (F j+1+·)):=by
  conv=>lhs;rw[hr]
  rw[List.range_add,List.range_add,List.map_append,List.map_map];congr 2;apply List.map_congr_left;intro a _;simp;lia
 have ft:F (F j)=j:=W.inv j hj;have mid:∀a∈(List.range r).map (F j+1+·),F a < j:=λa ha=>by
  obtain ⟨s,hs,rfl⟩:=List.mem_map.mp ha;have hs':s < r:=by simpa using hs
  have:=(W.nc (F j) (F j+1+s) (by lia) (by lia) (by lia) (by lia) (by lia)).mp (by lia);lia
 have low:∀p,p < F j->F p≠j:=λp hp e=>by
  have:=W.inv p (by lia);rw[e] at this;lia
 have fm:∀q:Nat->Bool,(∀a,F a < j->q a=false)->((List.range r).map (F j+1+·)).filter q=[]:=λq hq=>by
  rw[List.filter_eq_nil_iff];intro a ha;rw[hq a (mid a ha)];simp
 rw[List.range_succ,List.filter_append,e1];simp only[List.filter_append];rw[fm _ (λa ha=>by simp;lia),fm _ (λa ha=>by simp;lia)];have c1:(List.range (F j)).filter (λp=>decide (j<=F p))=(List.range (F j)).filter (λp=>decide (j+1<=F p)):=by
  refine List.filter_congr λp hp=>?_;have hp':p < F j:=by simpa using hp
  have:=low p hp';simp only[decide_eq_decide];lia
 rw[c1];simp[ft,show ¬(j+1<=F j) by lia]
theorem zfE (j:Nat)(e:Ex)(a b:Sm)(de:DEn)(lv:List Lv):exD lev cl (.popI j e a b) de lv=match qv j de lv with
  | some (v,de1)=>(evD cl e de1).okS λd=>match d with
   | .int w=>if v=w then exD lev cl b de1 lv else exD lev cl a de1 lv
   | _=>.no
  | none=>.no:=rfl
end
end Lib
namespace Lib
section
variable {lev:Nat->Lv}{cl:Nat->List Dat->Rd}{k:Nat}
theorem jO {R:List (List Int)}(H:Sums R)(b:Bool){L:Nat->Nat}{P:Nat->List Pl}(hL:∀j,j < 2 * R.length->L j < 2 * R.length/\L j≠j/\L (L j)=j/\P (L j)=(P j).reverse/\Wk R b j=some (P j,((2 * L j+bN b:Nat):Int))):Web (2 * R.length) L:=by
 have nc:=λj k=>@zdL R H b L P (λj hj=>⟨(hL j hj).1,(hL j hj).2.2.1,(hL j hj).2.2.2.2⟩) j k;refine ⟨λp hp=>(hL p hp).1,λp hp=>(hL p hp).2.2.1,λp hp=>(hL p hp).2.1,λc x hc hx h1 h2 h3=>?_⟩;have lc:=hL c hc;have lx:=hL x hx;have e1:L x≠c:=λz=>by rw[z] at lx;lia
 have e2:L x≠L c:=λz=>by
  have:L (L x)=L (L c):=by rw[z]
  lia
 constructor
 .rintro ⟨a1,a2⟩;have:=nc c x hc hx a1 a2;refine ⟨?_,this⟩;rcases Nat.lt_or_ge c (L x) with z | z
  .exact z
  .exfalso;have:=nc (L x) c lx.1 hc (by lia) (by rw[lx.2.2.1];lia);rw[lx.2.2.1] at this;lia
 .rintro ⟨a1,a2⟩;have:=nc c (L x) hc lx.1 a1 a2;rw[lx.2.2.1] at this;refine ⟨?_,this⟩;rcases Nat.lt_or_ge c x with z | z
  .exact z
  .exfalso;have:=nc x c hx hc (by lia) (by lia);lia
theorem zaB {m:Nat}{F:Nat->Nat}(W:Web m F):jY (wl m F)=(List.range m).map λ(p:Nat)=>(p:Int):=by
 have hnd:((List.range m).map F).Nodup:=by
  unfold List.Nodup;rw[List.pairwise_map];refine List.nodup_range.imp_of_mem λ{a b} ha hb hab e=>?_;have h1:=W.inv a (by simpa using ha);have h2:=W.inv b (by simpa using hb);rw[e,h2] at h1;exact hab h1.symm
 have hp:((List.range m).map F).Perm (List.range m):=by
  refine List.Perm.symm (List.Perm.symm ?_);refine (List.perm_ext_iff_of_nodup hnd List.nodup_range).mpr λa=>?_;rw[List.mem_map,List.mem_range];constructor
  .rintro ⟨p,hp,rfl⟩;exact W.rg p (by simpa using hp)
  .intro ha;exact ⟨F a,by simpa using W.rg a ha,W.inv a ha⟩
 have hp2:((List.range m).map λ(p:Nat)=>(p:Int)).Perm (wl m F):=by
  have:=hp.map (λ(p:Nat)=>(p:Int));rw[List.map_map] at this;exact this.symm
 have so:((List.range m).map λ(p:Nat)=>(p:Int)).Pairwise (λa b=>a<=b):=by
  rw[List.pairwise_map];exact List.pairwise_lt_range.imp λh=>by lia
 have st:(jY (wl m F)).Pairwise (λa b=>a<=b):=by
  have:=List.pairwise_mergeSort (le:=λa b:Int=>decide (a<=b)) (λa b c h1 h2=>by simp only[decide_eq_true_eq] at *;lia) (λa b=>by simp only[Bool.or_eq_true,decide_eq_true_eq];lia) (wl m F);exact this.imp λh=>of_decide_eq_true h
 exact List.Perm.eq_of_pairwise (le:=λa b:Int=>a<=b) (λa b _ _ h1 h2=>by lia) st so ((List.mergeSort_perm _ _).trans hp2.symm)
theorem zfF {m:Nat}{F:Nat->Nat}(W:Web m F):opn F m=[]:=by
 unfold opn;rw[List.filter_eq_nil_iff];intro p hp;have:=W.rg p (by simpa using hp);simp;lia
theorem zfG {d:Dat}{ds:List Dat}(h:yK 12 (.lst (d::ds))=true):yo .eq (.lst (d::ds)) (.lst [])=.ok (.bl false):=by
 show j7 (if yK 12 (.lst (d::ds)) && true then _ else _)=_;rw[h];rfl
theorem zdX (x:List Int):yK 12 (row x)=true:=by
 unfold row;rw[show (12:Nat)=11+1 from rfl,ja,xL];simp
noncomputable def nvA:Sm:=(.ite (.or (.cmp .ne (.idx (.var 0) (.idx (.var 0) (.var 3))) (.var 3)) (.cmp .eq (.idx (.var 0) (.var 3)) (.var 3))) (.ret (.lit (.bl false))) .skip)
noncomputable def nvB:Sm:=(.seq nvA (.ite (.cmp .gt (.idx (.var 0) (.var 3)) (.var 3)) (.expr (.meth .append (.var 2) (.pair (.var 3) .unit))) (.ite (.cmp .eq (.var 2) (.lst .unit)) (.ret (.lit (.bl false))) (.popI 2 (.idx (.var 0) (.var 3)) (.ret (.lit (.bl false))) .skip))))
noncomputable def zhN:Fn:=⟨2,4,(.seq (.ite (.cmp .ne (.blt .sortI (.pair (.var 0) .unit)) (.lrng (.var 1))) (.ret (.lit (.bl false))) .skip) (.seq (.asg 2 (.lst .unit)) (.seq (.forv 3 (.rng (.lit (.int 0)) (.var 1) (.lit (.int 1))) nvB) (.ret (.cmp .eq (.var 2) (.lst .unit))))))⟩
theorem zfH {m:Nat}(hm:m<=100){F:Nat->Nat}(W:Web m F){j:Nat}(hj:j < m)(l0 l1 l3:Lv):exD lev cl nvB [some (row (wl m F)),some (.int m),some (row (iN (opn F j))),some (.int j)] [l0,l1,.full,l3]=.next [some (row (wl m F)),some (.int m),some (row (iN (opn F (j+1)))),some (.int j)] [l0,l1,.full,l3]:=by
 have g1:=zdV (F:=F) hj;have g2:=zdV (F:=F) (W.rg j hj);rw[W.inv j hj] at g2;have r1:=W.rg j hj;have r2:=W.nf j hj;have hlen:(opn F j).length<=j:=by
  unfold opn;refine Nat.le_trans (List.length_filter_le _ _) ?_;rw[List.length_range];lia
 unfold nvB;rw[zhe];have ea:exD lev cl nvA [some (row (wl m F)),some (.int m),some (row (iN (opn F j))),some (.int j)] [l0,l1,.full,l3]=.next [some (row (wl m F)),some (.int m),some (row (iN (opn F j))),some (.int j)] [l0,l1,.full,l3]:=by
  unfold nvA;have q3:decide ((F j:Int)=(j:Int))=false:=by simp;lia
  simp only[yy,zfQ,zF,zZ,zb,za,zjX,g1,g2,yN,zi2,q3,decide_true,Bool.not_true,zjW,yn]
 rw[ea,ze,yy];simp only[zF,zZ,zb,za,zjX,g1,zi1];rcases Nat.lt_or_ge j (F j) with q | q
 .have q':decide ((j:Int) < (F j:Int))=true:=by simp;exact q
  simp only[q',zjW];rw[zhM (L:=opn F j) (v:=j) (by lia) (by simp only[zb,za]) rfl rfl,zdW W hj q];rfl
 .have q':decide ((j:Int) < (F j:Int))=false:=by simp;exact q
  simp only[q',zjW];have hp:=zfD W hj (by lia);have he:yo .eq (row (iN (opn F j))) (.lst [])=.ok (.bl false):=by
   have h1:=zdX (iN (opn F j));have h2:∃d ds,row (iN (opn F j))=.lst (d::ds):=by
    rw[hp];unfold iN row;cases opn F (j+1) with
    | nil=>exact ⟨_,_,rfl⟩
    | cons a b=>exact ⟨_,_,rfl⟩
   obtain ⟨d,ds,e⟩:=h2;rw[e] at h1 ⊢;exact zfG h1
  rw[yy];simp only[zF,xq,zl,zb,za,zjX,zi,show newD []=.ok (.lst []) from rfl,he,zjW];rw[zfE,zjm (L:=opn F (j+1)) (t:=F j) (by rw[<- hp];rfl) rfl];simp only[List.set_cons_succ,List.set_cons_zero,zZ,zb,za,zjX,g1,zj5,if_true,yn]
theorem zfI {m:Nat}(hm:m<=24){F:Nat->Nat}(W:Web m F):zG lev cl k zhN [row (wl m F),.int m]=.ok (.bl true):=by
 have hso:xx .sortI [row (wl m F)]=.ok (row ((List.range m).map λ(p:Nat)=>(p:Int))):=by
  show (match (lsD (row (wl m F))).bind yJ with | some k=>if k.length < 64 then newD ((jY k).map Dat.int) else .no | none=>.no)=_;have e:(lsD (row (wl m F))).bind yJ=some (wl m F):=by
   unfold row lsD;simp only[Option.bind_some];generalize wl m F=x
   induction x with
   | nil=>rfl
   | cons a x ih =>
    show (yJ (x.map Dat.int)).map (a::·)=_;rw[ih];rfl
  rw[e];simp only[];rw[if_pos (by simp[wl];lia),zaB W,xr (by simp;unfold lim;lia)];rfl
 have hlr:evD cl (.lrng (.var 1)) [some (row (wl m F)),some (.int m),none,none]=.ok (row ((List.range m).map λ(p:Nat)=>(p:Int))):=by
  rw[zbb];simp only[zb,za,zjX];rw[if_pos (by unfold lim;lia),xr (by simp;unfold lim;lia)];unfold row yt;rw[List.map_map];congr 2;refine List.ext_getElem? λi=>?_;by_cases h:i < m
  .simp[h]
  .rw[List.getElem?_eq_none (by simpa using h),List.getElem?_eq_none (by simpa using h)]
 unfold zG;rw[if_pos (by rfl)];show zE (lev k) (exD lev cl (.seq (.ite _ (.ret (.lit (.bl false))) .skip) (.seq (.asg 2 (.lst .unit)) (.seq (.forv 3 _ nvB) (.ret _)))) [some (row (wl m F)),some (.int m),none,none] [lvF (row (wl m F)),lvF (.int m),.full,.full])=_;rw[zw,yy,zF,hlr];simp only[xU,zj,zl,zb,zjX,zi,hso,zhg,zjW,yn,ze];rw[zw,zy];simp only[xq,zl,zjX,zi,show newD []=.ok (.lst []) from rfl,zjW];rw[yj (by simp[lvE])];simp only[ze,List.set_cons_succ,List.set_cons_zero];have main:=yU (body:=λx de lv=>exD lev cl nvB (de.set 3 (some x)) (lv.set 3 (lvF x)))
  (λj de lv=>∃ (o3:Option Dat) (l3:Lv),de=[some (row (wl m F)),some (.int m),some (row (iN (opn F j))),o3]/\lv=[lvF (row (wl m F)),lvF (.int m),.full,l3])
  (yt 0 1 m) (de:=[some (row (wl m F)),some (.int m),some (.lst []),none]) (lv:=[lvF (row (wl m F)),lvF (.int m),.full,.full]) ⟨none,.full,rfl,rfl⟩ (by
   rintro j x de lv hx ⟨o3,l3,rfl,rfl⟩;have hj:j < m:=by
    have:=(List.getElem?_eq_some_iff.mp hx).1;simpa using this
   rw[xM _ _ _ _ hj] at hx;cases hx;rw[show (0:Int)+1 * (j:Int)=(j:Int) by lia];simp only[List.set_cons_succ,List.set_cons_zero];exact ⟨_,_,zfH (by lia) W hj _ _ _,some (.int j),_,rfl,rfl⟩)
 obtain ⟨de',lv',e,o3,l3,rfl,rfl⟩:=main;rw[qy,zfF W] at e;rw[yf,wO];simp only[vL,zd,zb,za,zjX,gp (show m<=100 by lia),zjW,vN,vf,ww,if_true];rw[e,ze,zJ];rfl
end
end Lib
namespace Lib
section
variable {lev:Nat->Lv}{cl:Nat->List Dat->Rd}{k:Nat}
noncomputable def jo:Fn:=⟨2,2,(.seq (.ite (.cmp .lt (.var 1) (.blt .len (.pair (.var 0) .unit))) (.ret (.idx (.var 0) (.var 1))) .skip) (.ret (.lit (.int 0))))⟩
theorem zb2 (ns:List Int)(i:Nat):∃c:Int,zG lev cl k jo [.scr ns,.int i]=.ok (.int c):=by
 by_cases h:i < ns.length
 .refine ⟨ns[i],?_⟩;have h1:zK (.scr ns) (.int (i:Int))=.ok (.int ns[i]):=by simp[zK,xH,zdk h,h]
  simp[zG,jo,xo,xp,zE,lvR,h,h1]
 .refine ⟨0,?_⟩;simp[zG,jo,xo,xp,zE,lvR,h]
def zdY:Fn:=⟨2,3,(.seq (.asg 2 (.bin .mod (.bin .mul (.bin .add (.bin .add (.bin .mod (.var 0) (.bin .pow (.lit (.int 10)) (.lit (.int 40)))) (.bin .mul (.var 1) (.var 1))) (.lit (.int 17))) (.bin .add (.lit (.int 30103)) (.bin .mul (.lit (.int 2)) (.var 1)))) (.lit (.int 86028121)))) (.ret (.bin .fdiv (.bin .mod (.bin .mul (.var 2) (.var 2)) (.lit (.int 86028157))) (.lit (.int 7)))))⟩
theorem zdZ (c j:Int)(h:0<=j)(h':j<=100000):∃v:Int,zG lev cl k zdY [.int c,.int j]=.ok (.int v):=by
 have e1:zI .pow (.int 10) (.int 40)=.ok (.int (10 ^ 40)):=zdj 10 40 ⟨by decide,by decide,by decide⟩;have e2:zI .mod (.int c) (.int (10 ^ 40))=.ok (.int (c % 10 ^ 40)):=xV _ _ (by decide);generalize (10:Int) ^ 40=P at *
 have e3:zI .mul (.int j) (.int j)=.ok (.int (j * j)):=yX _ _ (jb (by lia) (by lia));have e4:∀x:Int,zI .mul (.int x) (.int (30103+2 * j))=.ok (.int (x * (30103+2 * j))):=λx=>ze2 _ _ (jb (by lia) (by lia));have e5:zI .mul (.int 2) (.int j)=.ok (.int (2 * j)):=yX _ _ (by decide);have e6:∀x:Int,zI .mod (.int x) (.int 86028121)=.ok (.int (x % 86028121)):=λx=>xV _ _ (by decide);have e7:∀x:Int,zI .mod (.int x) (.int 86028157)=.ok (.int (x % 86028157)):=λx=>xV _ _ (by decide);have e8:∀x:Int,zI .fdiv (.int x) (.int 7)=.ok (.int (x / 7)):=λx=>ve _ _ (by decide) (by decide);have e9:∀y:Int,zI .mul (.int (y % 86028121)) (.int (y % 86028121))=.ok (.int (y % 86028121 * (y % 86028121))):=λy=>yX _ _ (jb (by lia) (by lia));generalize hy:(c % P+j * j+17) * (30103+2 * j)=y;refine ⟨y % 86028121 * (y % 86028121) % 86028157 / 7,?_⟩;unfold zG;rw[if_pos (by rfl)];show zE (lev k) (exD lev cl (.seq (.asg 2 _) (.ret _)) [some (.int c),some (.int j),none] _)=_;rw[yf];simp only[zy,zt,zb,za,zd,zjX,e1,e2,e3,e5,ym,e4,hy,e6,zjW];rw[zS (by simp)];simp only[ze,List.set_cons_succ,List.set_cons_zero,zJ,zt,zb,za,zd,zjX,e9,e7,e8,zjW];simp[zE]
noncomputable def drL:Ex:=(.bin .add (.idx (.var 5) (.var 7)) (.blt .int (.pair (.and (.cmp .ne (.var 6) (.lst .unit)) (.cmp .eq (.idx (.var 6) (.neg (.lit (.int 1)))) (.idx (.var 5) (.var 7)))) .unit)))
noncomputable def drW:Ex:=(.bin .add (.bin .sub (.idx (.var 5) (.bin .add (.var 7) (.lit (.int 1)))) (.var 8)) (.lit (.int 1)))
noncomputable def drI (km:Nat):Sm:=(.seq (.asg 8 drL) (.seq (.asg 9 (.var 3)) (.seq (.ite (.or (.cmp .lt (.var 0) (.bin .pow (.lit (.int 10)) (.lit (.int 18)))) (.cmp .eq (.var 3) (.lit (.int 0)))) (.asg 9 (.call km (.pair (.var 0) (.pair (.var 4) .unit)))) .skip) (.seq (.expr (.meth .append (.var 6) (.pair (.bin .add (.var 8) (.bin .mod (.var 9) drW)) .unit))) (.seq (.asg 3 (.bin .fdiv (.var 3) drW)) (.asg 4 (.bin .add (.var 4) (.lit (.int 1)))))))))
noncomputable def vn (l2 l5:Lv):List Lv:=[.full,.full,l2,.full,.full,l5,.full,.full,.full,.full,.full,.full]
theorem zhO {a b f g h o8 o9 o10 o11:Option Dat}{last acc:List Int}{m:Nat}(hm:m+1 < last.length)(hl:Inc last)(ha:acc.length=m)(hb:∀i,i < m->acc.getD i 0<=last.getD (i+1) 0)(hg:∀i,i < m->last.getD i 0<=acc.getD i 0):
  ∃low:Int,last.getD m 0<=low/\low<=last.getD (m+1) 0/\(0 < m->acc.getD (m - 1) 0 < low)/\evD cl drL [a,b,f,g,h,some (row last),some (row acc),some (.int m),o8,o9,o10,o11]=.ok (.int low):=by
 have g1:zK (row last) (.int (m:Int))=.ok (.int (last.getD m 0)):=kn (jd (by lia));have hi:=hl m hm;have hnew:newD []=.ok (row []):=rfl;unfold drL;simp only[zt,zZ,xU,zj,zl,yS,zF,xq,wf,zd,za,zb,zjX,zi,hnew,g1];rw[zhj];by_cases z:acc=[]
 .subst z;refine ⟨last.getD m 0,by lia,by lia,λh=>by simp at ha;lia,?_⟩;simp[xx,b2i]
 .have hm0:0 < m:=by cases acc with
   | nil=>exact absurd rfl z
   | cons _ _=>simp at ha;lia
  have g3:zK (row acc) (.int (-1))=.ok (.int (acc.getD (m - 1) 0)):=by
   refine wv ?_;rw[List.length_map,ha,List.getElem?_map,jd (by lia)];rfl
  have h1:=hb (m - 1) (by lia);rw[show m - 1+1=m by lia] at h1;simp only[z,decide_false,Bool.not_false,zjX,g3,yN,g1];by_cases q:acc.getD (m - 1) 0=last.getD m 0
  .refine ⟨last.getD m 0+1,by lia,by lia,λ_=>by lia,?_⟩;rw[decide_eq_true q];simp[xx,b2i]
  .refine ⟨last.getD m 0,by lia,by lia,λ_=>by lia,?_⟩;rw[decide_eq_false q];simp[xx,b2i]
theorem zfJ {km:Nat}(hmx:∀c j:Int,0<=j->j<=100000->∃v:Int,cl km [.int c,.int j]=.ok (.int v)){cell rest turn:Int}{n:Dat}{rows:List Dat}{last acc:List Int}{m:Nat}{o8 o9 o10 o11:Option Dat}{l2 l5:Lv}(ht:0<=turn/\turn<=100000)
  (hm:m+1 < last.length) (hl:Inc last) (ha:acc.length=m) (hb:∀i,i < m->acc.getD i 0<=last.getD (i+1) 0) (hg:∀i,i < m->last.getD i 0<=acc.getD i 0) (hlim:last.length<=100) (hbd:∀i,i < last.length->0<=last.getD i 0/\last.getD i 0<=1000) :
  ∃ (w rest':Int) (p8 p9:Option Dat),exD lev cl (drI km) [some (.int cell),some n,some (.lst rows),some (.int rest),some (.int turn),some (row last),some (row acc),some (.int m),o8,o9,o10,o11] (vn l2 l5)=.next [some (.int cell),some n,some (.lst rows),some (.int rest'),some (.int (turn+1)),some (row last),some (row (acc++[w])),some (.int m),p8,p9,o10,o11] (vn l2 l5)
   /\ last.getD m 0<=w/\w<=last.getD (m+1) 0/\(0 < m->acc.getD (m - 1) 0 < w):=by
 obtain ⟨low,l1,l2',l3,hlow⟩:=zhO (cl:=cl) (a:=some (.int cell)) (b:=some n) (f:=some (.lst rows)) (g:=some (.int rest)) (h:=some (.int turn)) (o8:=o8) (o9:=o9) (o10:=o10) (o11:=o11) hm hl ha hb hg;have g2:zK (row last) (.int ((m:Int)+1))=.ok (.int (last.getD (m+1) 0)):=kn (c:=m+1) (jd hm);have h10:zI .pow (.int 10) (.int 18)=.ok (.int (10 ^ 18)):=zdj 10 18 ⟨by decide,by decide,by decide⟩;generalize (10:Int) ^ 18=P at h10;have b1:=hbd m (by lia);have b2:=hbd (m+1) hm;have pos:0 < last.getD (m+1) 0 - low+1:=by lia
 have num:∃num:Int,exD lev cl (.ite (.or (.cmp .lt (.var 0) (.bin .pow (.lit (.int 10)) (.lit (.int 18)))) (.cmp .eq (.var 3) (.lit (.int 0)))) (.asg 9 (.call km (.pair (.var 0) (.pair (.var 4) .unit)))) .skip) [some (.int cell),some n,some (.lst rows),some (.int rest),some (.int turn),some (row last),some (row acc),some (.int m),some (.int low),some (.int rest),o10,o11] (vn l2 l5)=.next [some (.int cell),some n,some (.lst rows),some (.int rest),some (.int turn),some (row last),some (row acc),some (.int m),some (.int low),some (.int num),o10,o11] (vn l2 l5):=by
  obtain ⟨v,hv⟩:=hmx cell turn ht.1 ht.2;have hc:∃b:Bool,evD cl (.or (.cmp .lt (.var 0) (.bin .pow (.lit (.int 10)) (.lit (.int 18)))) (.cmp .eq (.var 3) (.lit (.int 0)))) [some (.int cell),some n,some (.lst rows),some (.int rest),some (.int turn),some (row last),some (row acc),some (.int m),some (.int low),some (.int rest),o10,o11]=.ok (.bl b):=by
   simp only[zfQ,zF,zt,zd,za,zb,zjX,h10,zbd,yN];by_cases q:cell < P
   .exact ⟨true,by simp[q]⟩
   .exact ⟨decide (rest=0),by simp[q]⟩
  obtain ⟨b,hc⟩:=hc;rw[yy,hc];simp only[zjW];cases b with
  | true =>
   refine ⟨v,?_⟩;simp only[zy,zu,zj,zl,za,zb,zjX,zi,hv,zjW];rw[zS (by simp)];rfl
  | false=>exact ⟨rest,by simp only[yn]⟩
 obtain ⟨num,hnum⟩:=num;have q1:=Int.emod_nonneg num (b:=last.getD (m+1) 0 - low+1) (by lia);have q2:=Int.emod_lt_of_pos num pos;have hw:∀ (o3 o4 o6 o9:Option Dat),evD cl drW [some (.int cell),some n,some (.lst rows),o3,o4,some (row last),o6,some (.int m),some (.int low),o9,o10,o11]=.ok (.int (last.getD (m+1) 0 - low+1)):=λo3 o4 o6 o9=>by
  unfold drW;simp only[zt,zZ,zd,za,zb,zjX,ym,g2,yT]
 have hmod:zI .mod (.int num) (.int (last.getD (m+1) 0 - low+1))=.ok (.int (num % (last.getD (m+1) 0 - low+1))):=xV _ _ pos;have hdiv:zI .fdiv (.int rest) (.int (last.getD (m+1) 0 - low+1))=.ok (.int (rest / (last.getD (m+1) 0 - low+1))):=ve _ _ pos (by lia);refine ⟨low+num % (last.getD (m+1) 0 - low+1),rest / (last.getD (m+1) 0 - low+1),some (.int low),some (.int num),?_,by lia,by lia,λh=>by have:=l3 h;lia⟩;unfold drI;rw[zw,zy,hlow];simp only[zjW];rw[zS (by simp)];simp only[ze,vn,List.set_cons_succ,List.set_cons_zero];rw[zw,zy];simp only[za,zb,zjW];rw[zS (by simp)];simp only[ze,List.set_cons_succ,List.set_cons_zero];rw[zw];have hnum':=hnum;unfold vn at hnum';rw[hnum',ze,zw,xW];simp only[zt,za,zb,hw,zjX,hmod,ym,zj5];rw[show xJ [some (.int cell),some n,some (.lst rows),some (.int rest),some (.int turn),some (row last),some (row acc),some (.int m),some (.int low),some (.int num),o10,o11] 6=some (acc.map Dat.int) from rfl];simp only[List.length_map];rw[if_pos (by unfold lim;lia)];have hgv:xb lev (.bin .add (.var 8) (.bin .mod (.var 9) drW)) (.int (low+num % (last.getD (m+1) 0 - low+1))) 6 [some (.int cell),some n,some (.lst rows),some (.int rest),some (.int turn),some (row last),some (row acc),some (.int m),some (.int low),some (.int num),o10,o11] [.full,.full,l2,.full,.full,l5,.full,.full,.full,.full,.full,.full]=some ([some (.int cell),some n,some (.lst rows),some (.int rest),some (.int turn),some (row last),some (row acc),some (.int m),some (.int low),some (.int num),o10,o11],[.full,.full,l2,.full,.full,l5,.full,.full,.full,.full,.full,.full]):=by
  unfold xb;rw[if_neg (by simp[ya]),if_pos (yu lev _ _ (by simp))]
 rw[hgv];simp only[ze,List.set_cons_succ,List.set_cons_zero];rw[zdp,zy];simp only[zt,za,zb,hw,zjX,hdiv,zjW];rw[zS (by simp)];simp only[ze,List.set_cons_succ,List.set_cons_zero,zy,zt,za,zb,zd,zjX,ym,zjW];rw[zS (by simp)];simp[row]
end
end Lib
namespace Lib
section
variable {lev:Nat->Lv}{cl:Nat->List Dat->Rd}{k:Nat}
theorem zhP {km:Nat}(hmx:∀c j:Int,0<=j->j<=100000->∃v:Int,cl km [.int c,.int j]=.ok (.int v)){cell rest turn:Int}{n:Dat}{rows:List Dat}{last:List Int}{kk:Nat}{o7 o8 o9 o10 o11:Option Dat}{l2 l5:Lv}(ht:0<=turn/\turn+kk<=100000)
  (hlen:last.length=kk+1) (hl:Inc last) (hlim:last.length<=100) (hbd:∀i,i < last.length->0<=last.getD i 0/\last.getD i 0<=1000) :
  ∃ (acc:List Int) (rest':Int) (p7 p8 p9:Option Dat),xn (λx de lv=>exD lev cl (drI km) (de.set 7 (some x)) (lv.set 7 (lvF x))) (yt 0 1 kk) [some (.int cell),some n,some (.lst rows),some (.int rest),some (.int turn),some (row last),some (row []),o7,o8,o9,o10,o11] (vn l2 l5) =
   .next [some (.int cell),some n,some (.lst rows),some (.int rest'),some (.int (turn+kk)),some (row last),some (row acc),p7,p8,p9,o10,o11] (vn l2 l5)/\Inc acc/\zdr last acc:=by
 have main:=yU (body:=λx de lv=>exD lev cl (drI km) (de.set 7 (some x)) (lv.set 7 (lvF x)))
  (λm de lv=>∃ (acc:List Int) (rest':Int) (p7 p8 p9:Option Dat),de=[some (.int cell),some n,some (.lst rows),some (.int rest'),some (.int (turn+m)),some (row last),some (row acc),p7,p8,p9,o10,o11]/\lv=vn l2 l5/\acc.length=m/\Inc acc/\(∀i,i < m->last.getD i 0<=acc.getD i 0/\acc.getD i 0<=last.getD (i+1) 0))
  (yt 0 1 kk) (de:=[some (.int cell),some n,some (.lst rows),some (.int rest),some (.int turn),some (row last),some (row []),o7,o8,o9,o10,o11]) (lv:=vn l2 l5)
  ⟨[],rest,o7,o8,o9,by simp,rfl,rfl,λi hi=>by simp at hi,λi hi=>by lia⟩ ?_
 .obtain ⟨de',lv',e,acc,rest',p7,p8,p9,rfl,rfl,h1,h2,h3⟩:=main;rw[qy] at h1 h3 e;exact ⟨acc,rest',p7,p8,p9,e,h2,⟨by lia,λi hi=>h3 i (by lia)⟩⟩
 .rintro m x de lv hx' ⟨acc,rest',p7,p8,p9,rfl,rfl,h1,h2,h3⟩;have hmk:m < kk:=by
   have:=(List.getElem?_eq_some_iff.mp hx').1;simpa using this
  rw[xM _ _ _ _ hmk] at hx';cases hx';have e1:(0:Int)+1 * (m:Int)=(m:Int):=by lia
  obtain ⟨w,rest2,q8,q9,e,b1,b2,b3⟩:=zfJ (lev:=lev) (cl:=cl) (cell:=cell) (rest:=rest') (turn:=turn+m) (n:=n) (rows:=rows) (last:=last) (acc:=acc) (m:=m) (o8:=p8) (o9:=p9) (o10:=o10) (o11:=o11) (l2:=l2) (l5:=l5) hmx (by lia) (by lia) hl h1 (λi hi=>(h3 i hi).2) (λi hi=>(h3 i hi).1) hlim hbd;refine ⟨_,_,?_,acc++[w],rest2,some (.int m),q8,q9,rfl,rfl,by simp[h1],h2.app (λh=>?_),λi hi=>?_⟩
  .simp only[e1,vn,List.set_cons_succ,List.set_cons_zero,show lvF (.int (m:Int))=.full from by simp[lvF]];rw[show turn+((m+1:Nat):Int)=turn+m+1 by lia];exact e
  .rw[h1] at h ⊢;exact b3 h
  .by_cases z:i < m
   .rw[xB (by lia)];exact h3 i z
   .have:i=acc.length:=by lia
    subst this;rw[vX,h1];exact ⟨b1,b2⟩
noncomputable def drB (km:Nat):Sm:=(.seq (.asg 5 (.idx (.var 2) (.neg (.lit (.int 1))))) (.seq (.asg 6 (.lst .unit)) (.seq (.forv 7 (.rng (.lit (.int 0)) (.bin .sub (.blt .len (.pair (.var 5) .unit)) (.lit (.int 1))) (.lit (.int 1))) (drI km)) (.expr (.meth .append (.var 2) (.pair (.var 6) .unit))))))
noncomputable def drC:Ex:=(.cmp .lt (.blt .len (.pair (.var 2) .unit)) (.var 1))
def DP (cell:Int)(n t:Nat)(de:DEn)(lv:List Lv):Prop:=∃ (L:List (List Int)) (rest turn:Int) (o5 o6 o7 o8 o9:Option Dat) (l2 l5 l6:Lv),de=[some (.int cell),some (.int n),some (tab L),some (.int rest),some (.int turn),o5,o6,o7,o8,o9,none,none]/\lv=[.full,.full,l2,.full,.full,l5,l6,.full,.full,.full,.full,.full]/\(l2=.full\/l2=.top)/\L.length=t+1/\TriL n L/\0<=turn/\turn<=100 * t
theorem zd0 {cell:Int}{n t:Nat}{de:DEn}{lv:List Lv}(h:DP cell n t de lv):evD cl drC de=.ok (.bl (decide (t+1 < n))):=by
 obtain ⟨L,rest,turn,o5,o6,o7,o8,o9,l2,l5,l6,rfl,rfl,hl2,h1,h2,h3⟩:=h;have hlen:xx .len [tab L]=.ok (.int L.length):=by simp[tab]
 unfold drC;simp only[zF,xU,zj,zl,za,zb,zjX,zi,hlen,zbd];rw[show decide ((L.length:Int) < (n:Int))=decide (t+1 < n) from decide_eq_decide.mpr (by lia)]
theorem zhQ {km:Nat}(hmx:∀c j:Int,0<=j->j<=100000->∃v:Int,cl km [.int c,.int j]=.ok (.int v)){cell:Int}{n t:Nat}{de:DEn}{lv:List Lv}(hn:n<=12)(ht:t+1 < n)(h:DP cell n t de lv):∃de' lv',exD lev cl (drB km) de lv=.next de' lv'/\DP cell n (t+1) de' lv':=by
 obtain ⟨L,rest,turn,o5,o6,o7,o8,o9,l2,l5,l6,rfl,rfl,hl2,h1,h2,h3,h4⟩:=h;have hd:zK (tab L) (.int (-1))=.ok (row (L.getD t [])):=by
  refine wv ?_;rw[List.length_map,h1,List.getElem?_map,List.getD_eq_getElem?_getD,show t+1 - 1=t by lia,List.getElem?_eq_getElem (by lia)];rfl
 have hl:=h2.len t (by lia);have hlen:xx .len [row (L.getD t [])]=.ok (.int ((L.getD t []).length:Nat)):=by simp[row]
 have hnew:newD []=.ok (row []):=rfl;have hrng:k7 (.int 0) (.int (((L.getD t []).length:Nat) - 1:Int)) (.int 1)=.ok (.tup (yt 0 1 (n - 1 - t))):=by
  rw[show (((L.getD t []).length:Nat) - 1:Int)=((n - 1 - t:Nat):Int) by lia,zaj (by unfold lim;lia)];simp[gO]
 obtain ⟨acc,rest',p7,p8,p9,e,hinc,hlace⟩:=zhP (lev:=lev) (cl:=cl) (km:=km) hmx (cell:=cell) (rest:=rest) (turn:=turn) (n:=.int n) (rows:=L.map row) (last:=L.getD t []) (kk:=n - 1 - t) (o7:=o7) (o8:=o8) (o9:=o9) (o10:=none) (o11:=none) (l2:=.top) (l5:=.no) (by lia) (by lia) (h2.inc t (by lia)) (by lia) (λj hj=>by have:=h2.bd t (by lia) j hj;lia);refine ⟨[some (.int cell),some (.int n),some (tab (L++[acc])),some (.int rest'),some (.int (turn+(n - 1 - t:Nat))),some (row (L.getD t [])),some (row acc),p7,p8,p9,none,none],[.full,.full,.top,.full,.full,.no,.no,.full,.full,.full,.full,.full],?_,L++[acc],rest',_,_,_,_,_,_,.top,.no,.no,rfl,rfl,Or.inr rfl,by simp[h1],h2.app (by lia) hinc (by rw[show L.length - 1=t by lia];exact hlace),by lia,by lia⟩;unfold drB;rw[zw];simp only[zy,zZ,wf,za,zb,zd,zjX,hd,zjW];rw[show wN lev 5 (.idx (.var 2) (.neg (.lit (.int 1)))) (row (L.getD t [])) [some (.int cell),some (.int n),some (tab L),some (.int rest),some (.int turn),o5,o6,o7,o8,o9,none,none] [.full,.full,l2,.full,.full,l5,l6,.full,.full,.full,.full,.full]=.next [some (.int cell),some (.int n),some (tab L),some (.int rest),some (.int turn),some (row (L.getD t [])),o6,o7,o8,o9,none,none] [.full,.full,.top,.full,.full,.no,l6,.full,.full,.full,.full,.full] from by
  rcases hl2 with rfl | rfl <;> rfl]
 simp only[ze];rw[zw];simp only[zy,xq,zl,zjX,zi,hnew,zjW];rw[yj (by simp[row])];simp only[ze,List.set_cons_succ,List.set_cons_zero];rw[gi,wO];simp only[vL,zt,xU,zj,zl,zi,zd,za,zb,zjX,hlen,yT,hrng,zjW,vN,vf,ww,if_true];rw[show [Lv.full,Lv.full,Lv.top,Lv.full,Lv.full,Lv.no,Lv.full,Lv.full,Lv.full,Lv.full,Lv.full,Lv.full]=vn .top .no from rfl,show (some (tab L):Option Dat)=some (.lst (L.map row)) from rfl,e,ze,xW];simp only[za,zb,zj5,xJ,List.getElem?_cons_succ,List.getElem?_cons_zero];rw[if_pos (by rw[List.length_map,h1];unfold lim;lia)];have hg:xb lev (.var 6) (row acc) 2 [some (.int cell),some (.int n),some (.lst (L.map row)),some (.int rest'),some (.int (turn+(n - 1 - t:Nat))),some (row (L.getD t [])),some (row acc),p7,p8,p9,none,none] (vn .top .no)=some ([some (.int cell),some (.int n),some (.lst (L.map row)),some (.int rest'),some (.int (turn+(n - 1 - t:Nat))),some (row (L.getD t [])),some (row acc),p7,p8,p9,none,none],[.full,.full,.top,.full,.full,.no,.no,.full,.full,.full,.full,.full]):=by
  simp[xb,ya,vn,row,downs]
 rw[hg];simp[tab]
noncomputable def drE:Ex:=(.comp (.bin .sub (.blt .int (.pair (.cmp .isin (.var 12) (.var 6)) .unit)) (.blt .int (.pair (.cmp .isin (.var 12) (.var 11)) .unit))) (.rng (.lit (.int 0)) (.var 1) (.lit (.int 1))) (.lit (.bl true)))
noncomputable def drS:Sm:=(.seq (.expr (.meth .append (.var 10) (.pair drE .unit))) (.asg 11 (.var 6)))
theorem zfK {X:List (List Int)}(hX:X.length<=100){i:Nat}(hi:i < X.length){n:Int}(hn:n=X.length){a d2 d3 d4 d5 d7 d8 d9:Option Dat}{l2 l5 l11:Lv}:
  exD lev cl drS [a,some (.int n),d2,d3,d4,d5,some (row (X.getD i [])),d7,d8,d9,some (tab ((sg X).take i)),some (row (zB X i))] [.full,.full,l2,.full,.full,l5,.no,.full,.full,.full,.full,l11]=.next [a,some (.int n),d2,d3,d4,d5,some (row (X.getD i [])),d7,d8,d9,some (tab ((sg X).take (i+1))),some (row (zB X (i+1)))] [.full,.full,l2,.full,.full,l5,.no,.full,.full,.full,.full,.no]:=by
 subst hn;have hrng:k7 (.int 0) (.int X.length) (.int 1)=.ok (.tup (yt 0 1 X.length)):=by
  rw[zaj (by unfold lim;lia)];simp[gO]
 have hcomp:evD cl drE [a,some (.int X.length),d2,d3,d4,d5,some (row (X.getD i [])),d7,d8,d9,some (tab ((sg X).take i)),some (row (zB X i))]=.ok (row (y6 X.length (X.getD i []) (zB X i))):=by
  unfold drE;rw[kj];simp only[vL,zd,za,zb,zjX,hrng,vN];rw[qz 0 1 X.length (λc=>.int (b2i (mem (X.getD i []) c) - b2i (mem (zB X i) c)))]
  .simp[row,y6]
  .intro j hj;simp
  .intro j hj;simp[zds]
  .unfold lim;lia
 have hlim:((sg X).take i).length < lim:=by simp[sg];unfold lim;lia
 have e2:(sg X).take (i+1)=(sg X).take i++[y6 X.length (X.getD i []) (zB X i)]:=by
  rw[List.take_add_one];congr 1;simp[sg,hi]
 have hall:lvE lev drE (row (y6 X.length (X.getD i []) (zB X i)))=.full:=by
  unfold row drE
  first | rw[wq] | rw[xl]
  simp only[xN,Bool.false_eq_true,if_false];rw[if_pos (vj _ _ λi=>by simp)]
 unfold drS;rw[zdp,xW,hcomp];simp only[zj5];rw[show xJ [a,some (.int X.length),d2,d3,d4,d5,some (row (X.getD i [])),d7,d8,d9,some (tab ((sg X).take i)),some (row (zB X i))] 10=some (((sg X).take i).map row) from rfl];simp only[List.length_map];rw[if_pos hlim];have hg:xb lev drE (row (y6 X.length (X.getD i []) (zB X i))) 10 [a,some (.int X.length),d2,d3,d4,d5,some (row (X.getD i [])),d7,d8,d9,some (tab ((sg X).take i)),some (row (zB X i))] [.full,.full,l2,.full,.full,l5,.no,.full,.full,.full,.full,l11]=some ([a,some (.int X.length),d2,d3,d4,d5,some (row (X.getD i [])),d7,d8,d9,some (tab ((sg X).take i)),some (row (zB X i))],[.full,.full,l2,.full,.full,l5,.no,.full,.full,.full,.full,l11]):=by
  unfold xb;rw[if_neg (by simp[ya]),if_pos hall]
 rw[hg];simp only[ze,List.set_cons_succ,List.set_cons_zero,zy,za,zb,zjW];rw[e2];rw[show zB X (i+1)=X.getD i [] from by simp[zB]];rw[show (tab (List.take i (sg X)++[y6 X.length (X.getD i []) (zB X i)]))=.lst ((List.take i (sg X)).map row++[row (y6 X.length (X.getD i []) (zB X i))]) from by simp[tab]];rfl
noncomputable def zaC (km:Nat):Fn:=⟨2,12,(.seq (.asg 2 (.lst (.pair (.lrng (.var 1)) .unit))) (.seq (.asg 3 (.var 0)) (.seq (.asg 4 (.lit (.int 0))) (.seq (.while drC (drB km)) (.seq (.expr (.meth .reverse (.var 2) .unit)) (.seq (.asg 10 (.lst .unit)) (.seq (.asg 11 (.lst .unit)) (.seq (.forv 6 (.var 2) drS) (.ret (.var 10))))))))))⟩
theorem zb3 {km:Nat}(hmx:∀c j:Int,0<=j->j<=100000->∃v:Int,cl km [.int c,.int j]=.ok (.int v)){n:Nat}(hn:1<=n)(hn':n<=12)(cell:Int)(hlev:lev k=.no\/lev k=.full):
  ∃X,Tri n X/\zG lev cl k (zaC km) [.int cell,.int n]=.ok (tab (sg X)):=by
 have hl:evD cl (.lrng (.var 1)) [some (.int cell),some (.int n),none,none,none,none,none,none,none,none,none,none]=.ok (row (yz n)):=by
  simp only[zbb,za,zb,zjX];rw[if_pos (by unfold lim;lia),xr (by simp;unfold lim;lia),<- zap];simp
 have hnew:newD [row (yz n)]=.ok (tab [yz n]):=by rw[xr (by simp[lim])];rfl
 have hnew0:newD []=.ok (row []):=rfl;obtain ⟨de',lv',e,L,rest,turn,o5,o6,o7,o8,o9,l2,l5,l6,rfl,rfl,hl2,h1,h2,h3⟩:=zau (c:=evD cl drC) (body:=exD lev cl (drB km)) (DP cell n) (n - 1)
  (λt de lv ht p=>⟨by rw[zd0 p];simp;lia,zhQ hmx (by lia) (by lia) p⟩)
  (λde lv p=>by rw[zd0 p];simp;lia) (n - 1) 0 1000000 [some (.int cell),some (.int n),some (tab [yz n]),some (.int cell),some (.int 0),none,none,none,none,none,none,none] [.full,.full,.full,.full,.full,.full,.full,.full,.full,.full,.full,.full]
  (by lia) (by lia) ⟨[yz n],cell,0,none,none,none,none,none,.full,.full,.full,rfl,rfl,Or.inl rfl,rfl,TriL.one n,by lia,by lia⟩
 have hX:Tri n L.reverse:=Tri.of hn h2 (by lia);have hXl:=hX.len;refine ⟨L.reverse,hX,?_⟩;generalize hXe:L.reverse=X at *
 have main:=yU (body:=λx de lv=>exD lev cl drS (de.set 6 (some x)) (lv.set 6 (lvF x)))
  (λi de lv=>∃ (p6:Option Dat) (m6 m11 m2:Lv),de=[some (.int cell),some (.int n),some (tab X),some (.int rest),some (.int turn),o5,p6,o7,o8,o9,some (tab ((sg X).take i)),some (row (zB X i))]/\lv=[.full,.full,m2,.full,.full,l5,m6,.full,.full,.full,.full,m11])
  (X.map row) (de:=[some (.int cell),some (.int n),some (tab X),some (.int rest),some (.int turn),o5,o6,o7,o8,o9,some (tab []),some (row [])]) (lv:=[.full,.full,.no,.full,.full,l5,l6,.full,.full,.full,.full,.full])
  ⟨o6,l6,.full,.no,rfl,rfl⟩ ?_
 .obtain ⟨de',lv',e3,p6,m6,m11,m2,rfl,rfl⟩:=main;unfold zG;rw[if_pos (by rfl)];show zE (lev k) (exD lev cl (.seq _ (.seq _ (.seq _ (.seq _ (.seq _ (.seq _ (.seq _ (.seq _ _)))))))) [some (.int cell),some (.int n),none,none,none,none,none,none,none,none,none,none] [lvF (.int cell),lvF (.int n),.full,.full,.full,.full,.full,.full,.full,.full,.full,.full])=_;simp only[show ∀i:Int,lvF (.int i)=.full from λi=>by simp[lvF]];rw[zw];simp only[zy,xq,zj,zl,hl,zjX,zi,hnew,zjW];rw[yj (by simp[tab,row])];simp only[ze,List.set_cons_succ,List.set_cons_zero];rw[zw];simp only[zy,za,zb,zjW];rw[zS (by simp)];simp only[ze,List.set_cons_succ,List.set_cons_zero];rw[zw];simp only[zy,zd,zjW];rw[zS (by simp)];simp only[ze,List.set_cons_succ,List.set_cons_zero];rw[zw,qA,e,ze,zw,ze4];rw[show xJ [some (.int cell),some (.int n),some (tab L),some (.int rest),some (.int turn),o5,o6,o7,o8,o9,none,none] 2=some (L.map row) from rfl];simp only[];rw[if_pos (by rcases hl2 with rfl | rfl <;> rfl),<- List.map_reverse,hXe];simp only[ze,List.set_cons_succ,List.set_cons_zero];rw[zw];simp only[zy,xq,zl,zjX,zi,hnew0,zjW];rw[yj (by simp[row])];simp only[ze,List.set_cons_succ,List.set_cons_zero];rw[zw];simp only[zy,xq,zl,zjX,zi,hnew0,zjW];rw[yj (by simp[row])];simp only[ze,List.set_cons_succ,List.set_cons_zero];rw[yf,wO];have hit:itD (tab X)=some (X.map row):=jc (by simp;unfold lim;lia);have hfl:flat (tab X)=false:=by simp[tab]
  rw[show (Dat.lst (X.map row))=tab X from rfl];simp only[za,zb,zjW,hit,hfl];have hrel:(if false=true then [Lv.full,Lv.full,l2,Lv.full,Lv.full,l5,l6,Lv.full,Lv.full,Lv.full,Lv.full,Lv.full] else xc (.var 2) [some (.int cell),some (.int n),some (tab X),some (.int rest),some (.int turn),o5,o6,o7,o8,o9,some (row []),some (row [])] [Lv.full,Lv.full,l2,Lv.full,Lv.full,l5,l6,Lv.full,Lv.full,Lv.full,Lv.full,Lv.full])=[.full,.full,.no,.full,.full,l5,l6,.full,.full,.full,.full,.full]:=rfl;rw[hrel];have e3':=e3;rw[show (some (tab []):Option Dat)=some (row []) from rfl] at e3';rw[e3',ze];have hg:wD .full (lev k)=true:=by rcases hlev with h | h <;> rw[h] <;> rfl
  rw[List.length_map,List.take_of_length_le (by simp[sg])];simp[zE,lvR,hg,tab]
 .rintro i x de lv hx ⟨p6,m6,m11,m2,rfl,rfl⟩;have hi:i < X.length:=by
   have:=(List.getElem?_eq_some_iff.mp hx).1;simpa using this
  have hxi:x=row (X.getD i []):=by
   rw[List.getElem?_map,List.getElem?_eq_getElem hi] at hx;cases hx;rw[List.getD_eq_getElem?_getD,List.getElem?_eq_getElem hi];rfl
  subst hxi;refine ⟨_,_,?_,some (row (X.getD i [])),.no,.no,m2,rfl,rfl⟩;simp only[List.set_cons_succ,List.set_cons_zero,show lvF (row (X.getD i []))=.no from by simp[lvF,row]];exact zfK (by lia) hi (by lia)
end
end Lib
namespace Lib
end Lib
namespace Lib
end Lib
namespace Lib
end Lib
namespace Lib
end Lib
namespace Lib
end Lib
namespace Lib
end Lib
namespace Lib
section
noncomputable def tr (G:Nat->Nat->Int):Nat->Nat->Int:=λi j=>G j i
end
end Lib
namespace Lib
end Lib
namespace Lib
end Lib
end Vl
end Mini
namespace Mini
open PySem
theorem IsE.p {C : Ctx}{sc : Scope}{N : List Str}{a b : Ex}{x : Expr}{xs : List Expr}(ha : IsE C sc N a (.e x))(hb : IsE C sc N b (.a xs))(hs : zA x = true := by rfl)(ra : zo a = false := by rfl): IsE C sc N (.pair a b) (.a (x :: xs)) := .pair hs ra ha hb
theorem IsE.c {C : Ctx}{sc : Scope}{N : List Str}{k : Nat}{a : Ex}{f : Str}{y : Expr}{ys : List Expr}{p p' : Pos}(ha : IsE C sc N a (.a (y :: ys)))(h1 : C.fns[k]? = some f := by rfl)(h2 : glB sc f = true := by kernel_rfl)(h3 : yx f = true := by kernel_rfl)(hs : (y :: ys).all zA = true := by rfl): IsE C sc N (.call k a) (.e (.Call (.Name f p) (y :: ys) [] p')) := .call h1 h2 h3 hs ha
theorem IsE.q {C : Ctx}{sc : Scope}{N : List Str}{b : Blf}{a : Ex}{nm : Str}{f : Value}{y : Expr}{ys : List Expr}{p p' : Pos}(ha : IsE C sc N a (.a (y :: ys)))(h1 : zen b = some (nm, f) := by rfl)(h2 : glB sc nm = true := by kernel_rfl)(h3 : yx nm = true := by kernel_rfl)(hs : (y :: ys).all zA = true := by rfl): IsE C sc N (.blt b a) (.e (.Call (.Name nm p) (y :: ys) [] p')) := .blt h1 h2 h3 hs ha
theorem IsE.x {C : Ctx}{sc : Scope}{N : List Str}{a b : Ex}{x y : Expr}{p : Pos}(ha : IsE C sc N a (.e x))(rb : zo b = false)(hb : IsE C sc N b (.e y))(hs : yY y = true := by rfl)(ra : zo a = false := by rfl): IsE C sc N (.idx a b) (.e (.Subscript x y p)) := .idx hs ra ha rb hb
theorem IsE.k {C : Ctx}{sc : Scope}{N : List Str}{op : Co}{a b : Ex}{x y : Expr}{p : Pos}(ha : IsE C sc N a (.e x))(rb : zo b = false)(hb : IsE C sc N b (.e y))(hs : yH y = true := by rfl)(ra : zo a = false := by rfl): IsE C sc N (.cmp op a b) (.e (.Compare x [cK op] [y] p)) := .cmp hs ra ha rb hb
theorem IsS.s {C : Ctx}{sc : Scope}{N : List Str}{i : Nat}{e : Ex}{x : Str}{v : Expr}{p p' : Pos}(he : IsE C sc N e (.e v))(hc : kZ v = false := by rfl)(h1 : N[i]? = some x := by rfl)(h2 : j6 sc x = true := by kernel_rfl)(hr : zo e = false := by rfl): IsS C sc N (.asg i e) (.s (.Assign [.Name x p] v p')) := .asg hc h1 h2 hr he
end Mini
namespace R46
open PySem L2 Mini
noncomputable def top (i:Nat):Stmt:=PySem.Challenge.pw_loopgyre_k46_links_never_cross.main.body.getD i (.Pass ⟨0,0,0,0⟩)
noncomputable def f0:Fn:=Mini.Vl.Lib.zhv
noncomputable abbrev d0:Dfn:=⟨"is_place",top 1,["n", "r", "c"],["n", "r", "c"],f0, "is_place"⟩
noncomputable def f1:Fn:=Mini.Vl.Lib.zhw 0
noncomputable abbrev d1:Dfn:=⟨"road_over",top 2,["n", "r", "c", "side"],["n", "r", "c", "side"],f1, "road_over"⟩
noncomputable def f2:Fn:=Mini.Vl.Lib.zdM
noncomputable abbrev d2:Dfn:=⟨"place_at",top 3,["n", "road", "stretch", "t"],["n", "road"],f2, "place_at"⟩
noncomputable def f3:Fn:=Mini.Vl.Lib.zdx
noncomputable abbrev d3:Dfn:=⟨"column_sums",top 5,["state", "sums", "told", "row"],["state"],f3, "column_sums"⟩
noncomputable def f4:Fn:=Mini.Vl.Lib.zhy
noncomputable abbrev d4:Dfn:=⟨"across_row",top 7,["row", "total", "told", "sign"],["row"],f4, "across_row"⟩
noncomputable def f5:Fn:=Mini.Vl.Lib.zhz
noncomputable abbrev d5:Dfn:=⟨"down_row",top 8,["sums"],["sums"],f5, "down_row"⟩
noncomputable def f6:Fn:=Mini.Vl.Lib.zhC 3 4 5
noncomputable abbrev d6:Dfn:=⟨"arrows_of",top 9,["state", "across", "down"],["state"],f6, "arrows_of"⟩
noncomputable def f7:Fn:=Mini.Vl.Lib.zfr
noncomputable abbrev d7:Dfn:=⟨"is_odd",top 11,["number"],["number"],f7, "is_odd"⟩
noncomputable def f8:Fn:=Mini.Vl.Lib.zdR 7
noncomputable abbrev d8:Dfn:=⟨"walked_row",top 12,["i", "row"],["i", "row"],f8, "walked_row"⟩
noncomputable def f9:Fn:=Mini.Vl.Lib.zay 8
noncomputable abbrev d9:Dfn:=⟨"walked_grid",top 13,["grid"],["grid"],f9, "walked_grid"⟩
noncomputable def f10:Fn:=Mini.Vl.Lib.zhD 6 9
noncomputable abbrev d10:Dfn:=⟨"sides_of",top 14,["state", "pair"],["state"],f10, "sides_of"⟩
noncomputable def f11:Fn:=Mini.Vl.Lib.zhx 1
noncomputable abbrev d11:Dfn:=⟨"beyond",top 19,["n", "r", "c", "side", "road", "step"],["n", "r", "c", "side"],f11, "beyond"⟩
noncomputable def f12:Fn:=Mini.Vl.Lib.qG 11
noncomputable abbrev d12:Dfn:=⟨"ends_at",top 20,["pair", "r", "c", "mark", "across", "down", "marks"],["pair", "r", "c", "mark"],f12, "ends_at"⟩
noncomputable def f13:Fn:=Mini.Vl.Lib.zax 10 12
noncomputable abbrev d13:Dfn:=⟨"all_ends",top 21,["state", "mark", "pair", "ends", "r", "c"],["state", "mark"],f13, "all_ends"⟩
noncomputable def f14:Fn:=Mini.Vl.Lib.zaA
noncomputable abbrev d14:Dfn:=⟨"trail",top 22,["ends", "behind", "start", "told", "both"],["ends", "behind", "start"],f14, "trail"⟩
noncomputable def f15:Fn:=Mini.Vl.Lib.zhK 2 14
noncomputable abbrev d15:Dfn:=⟨"road_trail",top 23,["ends", "n", "k", "mark", "road", "place"],["ends", "n", "k", "mark"],f15, "road_trail"⟩
noncomputable def f16:Fn:=Mini.Vl.Lib.zhL 13 15
noncomputable abbrev d16:Dfn:=⟨"links_over",top 24,["state", "mark", "n", "ends"],["state", "mark"],f16, "links_over"⟩
noncomputable def f17:Fn:=Mini.Vl.Lib.zdU 16 1
noncomputable abbrev d17:Dfn:=⟨"links",top 25,["state"],["state"],f17, "links"⟩
noncomputable def f18:Fn:=Mini.Vl.Lib.zdU 16 0
noncomputable abbrev d18:Dfn:=⟨"links_beside",top 26,["state"],["state"],f18, "links_beside"⟩
noncomputable def f19:Fn:=Mini.Vl.Lib.jo
noncomputable abbrev d19:Dfn:=⟨"_law_cell_at",top 28,["_law_script", "_law_k"],["_law_script", "_law_k"],f19, "_law_cell_at"⟩
noncomputable def f20:Fn:=Mini.Vl.Lib.zdY
noncomputable abbrev d20:Dfn:=⟨"_law_mixed",top 29,["_law_cell", "_law_k", "_law_one"],["_law_cell", "_law_k"],f20, "_law_mixed"⟩
noncomputable def f21:Fn:=Mini.Vl.Lib.vg
noncomputable abbrev d21:Dfn:=⟨"_law_size",top 30,["_law_cell"],["_law_cell"],f21, "_law_size"⟩
noncomputable def f22:Fn:=Mini.Vl.Lib.zaC 20
noncomputable abbrev d22:Dfn:=⟨"_law_drawn",top 31,["_law_cell", "_law_n", "_law_rows", "_law_rest", "_law_turn", "_law_below", "_law_row", "_law_m", "_law_low", "_law_digit", "_law_signs", "_law_ahead"],["_law_cell", "_law_n"],f22, "_law_drawn"⟩
noncomputable def f23:Fn:=Mini.Vl.Lib.zhN
noncomputable abbrev d23:Dfn:=⟨"_law_never_crosses",top 32,["_law_found", "_law_many", "_law_waiting", "_law_k"],["_law_found", "_law_many"],f23, "_law_never_crosses"⟩
noncomputable def f24:Fn:=⟨1,3,(.seq (.asg 1 (.call 21 (.pair (.call 19 (.pair (.var 0) (.pair (.lit (.int 0)) .unit))) .unit))) (.seq (.asg 2 (.call 22 (.pair (.call 19 (.pair (.var 0) (.pair (.lit (.int 1)) .unit))) (.pair (.var 1) .unit)))) (.ret (.and (.call 23 (.pair (.call 17 (.pair (.var 2) .unit)) (.pair (.bin .mul (.lit (.int 2)) (.var 1)) .unit))) (.call 23 (.pair (.call 18 (.pair (.var 2) .unit)) (.pair (.bin .mul (.lit (.int 2)) (.var 1)) .unit)))))))⟩
noncomputable abbrev d24:Dfn:=⟨"law",top 33,["_law_script", "_law_n", "_law_signs"],["_law_script"],f24, "law"⟩
noncomputable def D:List Dfn:=[d0,d1,d2,d3,d4,d5,d6,d7,d8,d9,d10,d11,d12,d13,d14,d15,d16,d17,d18,d19,d20,d21,d22,d23,d24]
noncomputable def C:Mini.Ctx:=⟨["is_place", "road_over", "place_at", "column_sums", "across_row", "down_row", "arrows_of", "is_odd", "walked_row", "walked_grid", "sides_of", "beyond", "ends_at", "all_ends", "trail", "road_trail", "links_over", "links", "links_beside", "_law_cell_at", "_law_mixed", "_law_size", "_law_drawn", "_law_never_crosses", "law"],[("WALKED",1),("BESIDE",0)],[("STEPS",[([85],-1,0),([82],0,1),([68],1,0),([76],0,-1)])]⟩
theorem ok0:OkD C d0:=⟨by decide +kernel,rfl,rfl,(.one (.ret rfl (.and2 rfl rfl (.chain rfl rfl .int rfl .v rfl .v) rfl rfl (.chain rfl rfl .int rfl .v rfl .v))))⟩
theorem ok1:OkD C d1:=⟨by decide +kernel,rfl,rfl,(.seq (.ite rfl rfl (.not rfl rfl (.c (.p .v (.p .v (.p .v .unit))))) (.one (.ret rfl .non)) .skip0) (.seq (.ite rfl rfl (.and2 rfl rfl (.k .v rfl (.str (by kernel_rfl))) rfl rfl (.k .v rfl .int)) (.one (.ret rfl .v)) .skip0) (.seq (.ite rfl rfl (.and2 rfl rfl (.k .v rfl (.str (by kernel_rfl))) rfl rfl (.k .v rfl (.bin rfl .v rfl .int))) (.one (.ret rfl (.bin rfl .v rfl .v))) .skip0) (.seq (.ite rfl rfl (.and2 rfl rfl (.k .v rfl (.str (by kernel_rfl))) rfl rfl (.k .v rfl (.bin rfl .v rfl .int))) (.one (.ret rfl (.bin rfl (.bin rfl .int rfl .v) rfl (.bin rfl (.bin rfl .v rfl .int) rfl .v)))) .skip0) (.seq (.ite rfl rfl (.and2 rfl rfl (.k .v rfl (.str (by kernel_rfl))) rfl rfl (.k .v rfl .int)) (.one (.ret rfl (.bin rfl (.bin rfl .int rfl .v) rfl (.bin rfl (.bin rfl .v rfl .int) rfl .v)))) .skip0) (.one (.ret rfl .non)))))))⟩
theorem ok2:OkD C d2:=⟨by decide +kernel,rfl,rfl,(.seq (.s (.bin rfl .v rfl .v)) (.seq (.s (.bin rfl .v rfl .v)) (.seq (.ite rfl rfl (.k .v rfl .int) (.one (.ret rfl (.tup (.p .int (.p .v (.p (.str (by kernel_rfl)) .unit)))))) .skip0) (.seq (.ite rfl rfl (.k .v rfl .int) (.one (.ret rfl (.tup (.p .v (.p (.bin rfl .v rfl .int) (.p (.str (by kernel_rfl)) .unit)))))) .skip0) (.seq (.ite rfl rfl (.k .v rfl .int) (.one (.ret rfl (.tup (.p (.bin rfl .v rfl .int) (.p (.bin rfl (.bin rfl .v rfl .int) rfl .v) (.p (.str (by kernel_rfl)) .unit)))))) .skip0) (.one (.ret rfl (.tup (.p (.bin rfl (.bin rfl .v rfl .int) rfl .v) (.p .int (.p (.str (by kernel_rfl)) .unit)))))))))))⟩
theorem ok3:OkD C d3:=⟨by decide +kernel,rfl,rfl,(.seq (.s (.bin rfl (.lst (.p .int .unit)) rfl (.q (.p .v .unit)))) (.seq (.s (.lst (.p .v .unit))) (.seq (.forv rfl (by kernel_rfl) rfl .v (.seq (.asgCZ0 rfl (by kernel_rfl) (by kernel_rfl) (by kernel_rfl) rfl rfl rfl .v rfl .v rfl (.bin rfl .v rfl .v)) (.one (.expr rfl rfl (.meth rfl rfl (by decide) rfl rfl .v (.p .v .unit)))))) (.one (.ret rfl .v)))))⟩
theorem ok4:OkD C d4:=⟨by decide +kernel,rfl,rfl,(.seq (.s .int) (.seq (.s (.lst (.p .int .unit))) (.seq (.forv rfl (by kernel_rfl) rfl .v (.seq (.aug rfl (by kernel_rfl) rfl rfl .v) (.one (.expr rfl rfl (.meth rfl rfl (by decide) rfl rfl .v (.p (.bin rfl .int rfl (.bin rfl .int rfl .v)) .unit)))))) (.one (.ret rfl .v)))))⟩
theorem ok5:OkD C d5:=⟨by decide +kernel,rfl,rfl,(.one (.ret rfl (.comp0 rfl (by kernel_rfl) .v rfl (.bin rfl (.bin rfl .int rfl .v) rfl .int))))⟩
theorem ok6:OkD C d6:=⟨by decide +kernel,rfl,rfl,(.seq (.asgC0 rfl (by kernel_rfl) rfl (by kernel_rfl) .v rfl (.c (.p .v .unit))) (.seq (.asgC0 rfl (by kernel_rfl) rfl (by kernel_rfl) (.c (.p .v .unit)) rfl (.c (.p .v .unit))) (.one (.ret rfl (.tup (.p .v (.p .v .unit)))))))⟩
theorem ok7:OkD C d7:=⟨by decide +kernel,rfl,rfl,(.one (.ret rfl (.k (.bin rfl .v rfl .int) rfl .int)))⟩
theorem ok8:OkD C d8:=⟨by decide +kernel,rfl,rfl,(.one (.ret rfl (.compE0 (by kernel_rfl) (by kernel_rfl) rfl rfl .v rfl (.ife rfl rfl (.k (.k .v rfl .int) rfl (.c (.p (.bin rfl .v rfl .v) .unit))) rfl .int rfl .int))))⟩
theorem ok9:OkD C d9:=⟨by decide +kernel,rfl,rfl,(.one (.ret rfl (.compE0 (by kernel_rfl) (by kernel_rfl) rfl rfl .v rfl (.c (.p .v (.p .v .unit))))))⟩
theorem ok10:OkD C d10:=⟨by decide +kernel,rfl,rfl,(.seq (.s (.c (.p .v .unit))) (.one (.ret rfl (.tup (.p (.c (.p (.x .v rfl .int) .unit)) (.p (.c (.p (.x .v rfl .int) .unit)) .unit))))))⟩
theorem ok11:OkD C d11:=⟨by decide +kernel,rfl,rfl,(.seq (.s (.c (.p .v (.p .v (.p .v (.p .v .unit)))))) (.seq (.ite rfl rfl (.k .v rfl .non) (.one (.ret rfl .v)) .skip0) (.seq (.s (.dcon (by decide) (by kernel_rfl) (by kernel_rfl) (by kernel_rfl) rfl (by kernel_rfl) (by kernel_rfl))) (.one (.ret rfl (.tup (.p (.bin rfl .v rfl (.x .v rfl .int)) (.p (.bin rfl .v rfl (.x .v rfl .int)) .unit))))))))⟩
theorem ok12:OkD C d12:=⟨by decide +kernel,rfl,rfl,(.seq (.s (.x .v rfl .int)) (.seq (.s (.x .v rfl .int)) (.sel (j:=6) (by kernel_rfl) (by kernel_rfl) (by kernel_rfl) (by kernel_rfl) (by decide) rfl (by kernel_rfl) (by kernel_rfl) (by kernel_rfl) rfl (by kernel_rfl) rfl (by kernel_rfl) (by kernel_rfl) (by kernel_rfl) rfl (.x (.x .v rfl .v) rfl .v) rfl (.x (.x .v rfl .v) rfl (.bin rfl .v rfl .int)) rfl (.x (.x .v rfl (.bin rfl .v rfl .int)) rfl .v) rfl (.x (.x .v rfl .v) rfl .v) rfl .v rfl (.c (.p (.q (.p .v .unit)) (.p .v (.p .v (.p .v .unit))))) rfl rfl rfl)))⟩
theorem ok13:OkD C d13:=⟨by decide +kernel,rfl,rfl,(.seq (.s (.c (.p .v .unit))) (.seq (.s .dict0) (.seq (.forv rfl (by kernel_rfl) rfl (.rng1 (by kernel_rfl) rfl rfl (.q (.p .v .unit))) (.one (.forv rfl (by kernel_rfl) rfl (.rng1 (by kernel_rfl) rfl rfl (.q (.p .v .unit))) (.one (.dput rfl .v rfl (.tup (.p .v (.p .v .unit))) rfl (.c (.p .v (.p .v (.p .v (.p .v .unit)))))))))) (.one (.ret rfl .v)))))⟩
theorem ok14:OkD C d14:=⟨by decide +kernel,rfl,rfl,(.seq (.s (.lst (.p .v (.p .v .unit)))) (.seq (IsS.«while» rfl rfl (.and2 rfl rfl (.k (.x .v rfl (.neg rfl .int)) rfl .v) rfl rfl (.k (.x .v rfl (.neg rfl .int)) rfl .v)) (.seq (.s (.dget rfl rfl .v rfl (.x .v rfl (.neg rfl .int)))) (.one (.expr rfl rfl (.meth rfl rfl (by decide) rfl rfl .v (.p (.ife rfl rfl (.k (.x .v rfl .int) rfl (.x .v rfl (.neg rfl .int))) rfl (.x .v rfl .int) rfl (.x .v rfl .int)) .unit)))))) (.one (.ret rfl .v))))⟩
theorem ok15:OkD C d15:=⟨by decide +kernel,rfl,rfl,(.seq (.s (.ife rfl rfl (.k .v rfl (.con (by kernel_rfl) (by kernel_rfl) (by kernel_rfl))) rfl (.bin rfl .int rfl .v) rfl (.bin rfl (.bin rfl .int rfl .v) rfl .int))) (.seq (.s (.c (.p .v (.p .v .unit)))) (.one (.ret rfl (.c (.p .v (.p .v (.p (.tup (.p (.x .v rfl .int) (.p (.x .v rfl .int) .unit))) .unit))))))))⟩
theorem ok16:OkD C d16:=⟨by decide +kernel,rfl,rfl,(.seq (.s (.q (.p .v .unit))) (.seq (.s (.c (.p .v (.p .v .unit)))) (.one (.ret rfl (.comp0 rfl (by kernel_rfl) (.rng1 (by kernel_rfl) rfl rfl (.bin rfl .int rfl .v)) rfl (.bin rfl (.x (.c (.p .v (.p .v (.p .v (.p .v .unit))))) rfl (.neg rfl .int)) rfl .int))))))⟩
theorem ok17:OkD C d17:=⟨by decide +kernel,rfl,rfl,(.one (.ret rfl (.c (.p .v (.p (.con (by kernel_rfl) (by kernel_rfl) (by kernel_rfl)) .unit)))))⟩
theorem ok18:OkD C d18:=⟨by decide +kernel,rfl,rfl,(.one (.ret rfl (.c (.p .v (.p (.con (by kernel_rfl) (by kernel_rfl) (by kernel_rfl)) .unit)))))⟩
theorem ok19:OkD C d19:=⟨by decide +kernel,rfl,rfl,(.seq (.ite rfl rfl (.k .v rfl (.q (.p .v .unit))) (.one (.ret rfl (.x .v rfl .v))) .skip0) (.one (.ret rfl .int)))⟩
theorem ok20:OkD C d20:=⟨by decide +kernel,rfl,rfl,(.seq (.s (.bin rfl (.bin rfl (.bin rfl (.bin rfl (.bin rfl .v rfl (.bin rfl .int rfl .int)) rfl (.bin rfl .v rfl .v)) rfl .int) rfl (.bin rfl .int rfl (.bin rfl .int rfl .v))) rfl .int)) (.one (.ret rfl (.bin rfl (.bin rfl (.bin rfl .v rfl .v) rfl .int) rfl .int))))⟩
theorem ok21:OkD C d21:=⟨by decide +kernel,rfl,rfl,(.seq (.ite rfl rfl (.k (.bin rfl .v rfl .int) rfl .int) (.one (.ret rfl (.bin rfl .int rfl (.bin rfl (.bin rfl .v rfl .int) rfl .int)))) .skip0) (.one (.ret rfl (.bin rfl .int rfl (.bin rfl (.bin rfl .v rfl .int) rfl .int)))))⟩
theorem ok22:OkD C d22:=⟨by decide +kernel,rfl,rfl,(.seq (.s (.lst (.p (.lrng (by kernel_rfl) (by kernel_rfl) rfl rfl .v) .unit))) (.seq (.s .v) (.seq (.s .int) (.seq (IsS.«while» rfl rfl (.k (.q (.p .v .unit)) rfl .v) (.seq (.s (.x .v rfl (.neg rfl .int))) (.seq (.s (.lst .unit)) (.seq (.forv rfl (by kernel_rfl) rfl (.rng1 (by kernel_rfl) rfl rfl (.bin rfl (.q (.p .v .unit)) rfl .int)) (.seq (.s (.bin rfl (.x .v rfl .v) rfl (.q (.p (.and2 rfl rfl (.k .v rfl (.lst .unit)) rfl rfl (.k (.x .v rfl (.neg rfl .int)) rfl (.x .v rfl .v))) .unit)))) (.seq (.s .v) (.seq (.ite rfl rfl (.or2 rfl rfl (.k .v rfl (.bin rfl .int rfl .int)) rfl rfl (.k .v rfl .int)) (.one (.s (.c (.p .v (.p .v .unit))))) .skip0) (.seq (.expr rfl rfl (.meth rfl rfl (by decide) rfl rfl .v (.p (.bin rfl .v rfl (.bin rfl .v rfl (.bin rfl (.bin rfl (.x .v rfl (.bin rfl .v rfl .int)) rfl .v) rfl .int))) .unit))) (.seq (.s (.bin rfl .v rfl (.bin rfl (.bin rfl (.x .v rfl (.bin rfl .v rfl .int)) rfl .v) rfl .int))) (.one (.s (.bin rfl .v rfl .int))))))))) (.one (.expr rfl rfl (.meth rfl rfl (by decide) rfl rfl .v (.p .v .unit)))))))) (.seq (.expr rfl rfl (.meth0 rfl rfl rfl .v)) (.seq (.s (.lst .unit)) (.seq (.s (.lst .unit)) (.seq (.forv rfl (by kernel_rfl) rfl .v (.seq (.expr rfl rfl (.meth rfl rfl (by decide) rfl rfl .v (.p (.comp0 rfl (by kernel_rfl) (.rng1 (by kernel_rfl) rfl rfl .v) rfl (.bin rfl (.q (.p (.k .v rfl .v) .unit)) rfl (.q (.p (.k .v rfl .v) .unit)))) .unit))) (.one (.s .v)))) (.one (.ret rfl .v))))))))))⟩
theorem ok23:OkD C d23:=⟨by decide +kernel,rfl,rfl,(.seq (.ite rfl rfl (.k (.q (.p .v .unit)) rfl (.lrng (by kernel_rfl) (by kernel_rfl) rfl rfl .v)) (.one (.ret rfl .bl)) .skip0) (.seq (.s (.lst .unit)) (.seq (.forv rfl (by kernel_rfl) rfl (.rng1 (by kernel_rfl) rfl rfl .v) (.seq (.ite rfl rfl (.or2 rfl rfl (.k (.x .v rfl (.x .v rfl .v)) rfl .v) rfl rfl (.k (.x .v rfl .v) rfl .v)) (.one (.ret rfl .bl)) .skip0) (.one (.ite rfl rfl (.k (.x .v rfl .v) rfl .v) (.one (.expr rfl rfl (.meth rfl rfl (by decide) rfl rfl .v (.p .v .unit)))) (.one (.orP (.ite rfl rfl (.or2 rfl rfl (.k .v rfl (.lst .unit)) rfl rfl (.k (.meth0 rfl rfl rfl .v) rfl (.x .v rfl .v))) (.one (.ret rfl .bl)) .skip0))))))) (.one (.ret rfl (.k .v rfl (.lst .unit)))))))⟩
theorem ok24:OkD C d24:=⟨by decide +kernel,rfl,rfl,(.seq (.s (.c (.p (.c (.p .v (.p .int .unit))) .unit))) (.seq (.s (.c (.p (.c (.p .v (.p .int .unit))) (.p .v .unit)))) (.one (.ret rfl (.and2 rfl rfl (.c (.p (.c (.p .v .unit)) (.p (.bin rfl .int rfl .v) .unit))) rfl rfl (.c (.p (.c (.p .v .unit)) (.p (.bin rfl .int rfl .v) .unit))))))))⟩
theorem ac {P:Dfn->Prop}{a:Dfn}{l:List Dfn}(h:P a)(t:∀d∈l,P d):∀d∈a::l,P d:=List.forall_mem_cons.mpr ⟨h,t⟩
theorem zjn:∀d∈D,OkD C d:=ac ok0 (ac ok1 (ac ok2 (ac ok3 (ac ok4 (ac ok5 (ac ok6 (ac ok7 (ac ok8 (ac ok9 (ac ok10 (ac ok11 (ac ok12 (ac ok13 (ac ok14 (ac ok15 (ac ok16 (ac ok17 (ac ok18 (ac ok19 (ac ok20 (ac ok21 (ac ok22 (ac ok23 (ac ok24 (λ_ h=>nomatch h)))))))))))))))))))))))))
theorem bnd:∀d∈D,Bnd d:=ac (λ_ _ _ _ _ _=>us3 (λ_ _ _=>rfl)) (ac (λ_ _ _ _ _ _=>us4 (λ_ _ _ _=>rfl)) (ac (λ_ _ _ _ _ _=>us2 (λ_ _=>rfl)) (ac (λ_ _ _ _ _ _=>us1 (λ_=>rfl)) (ac (λ_ _ _ _ _ _=>us1 (λ_=>rfl)) (ac (λ_ _ _ _ _ _=>us1 (λ_=>rfl)) (ac (λ_ _ _ _ _ _=>us1 (λ_=>rfl)) (ac (λ_ _ _ _ _ _=>us1 (λ_=>rfl)) (ac (λ_ _ _ _ _ _=>us2 (λ_ _=>rfl)) (ac (λ_ _ _ _ _ _=>us1 (λ_=>rfl)) (ac (λ_ _ _ _ _ _=>us1 (λ_=>rfl)) (ac (λ_ _ _ _ _ _=>us4 (λ_ _ _ _=>rfl)) (ac (λ_ _ _ _ _ _=>us4 (λ_ _ _ _=>rfl)) (ac (λ_ _ _ _ _ _=>us2 (λ_ _=>rfl)) (ac (λ_ _ _ _ _ _=>us3 (λ_ _ _=>rfl)) (ac (λ_ _ _ _ _ _=>us4 (λ_ _ _ _=>rfl)) (ac (λ_ _ _ _ _ _=>us2 (λ_ _=>rfl)) (ac (λ_ _ _ _ _ _=>us1 (λ_=>rfl)) (ac (λ_ _ _ _ _ _=>us1 (λ_=>rfl)) (ac (λ_ _ _ _ _ _=>us2 (λ_ _=>rfl)) (ac (λ_ _ _ _ _ _=>us2 (λ_ _=>rfl)) (ac (λ_ _ _ _ _ _=>us1 (λ_=>rfl)) (ac (λ_ _ _ _ _ _=>us2 (λ_ _=>rfl)) (ac (λ_ _ _ _ _ _=>us2 (λ_ _=>rfl)) (ac (λ_ _ _ _ _ _=>us1 (λ_=>rfl)) (λ_ h=>nomatch h)))))))))))))))))))))))))
theorem zk {K:PySem.W.Frag}(z0:PySem.W.nsIn K mainGlobals "len" = some none)(z1:PySem.W.nsIn K mainGlobals "int" = some none)(z2:PySem.W.nsIn K mainGlobals "bool" = some none)(z3:PySem.W.nsIn K mainGlobals "list" = some none)(z4:PySem.W.nsIn K mainGlobals "tuple" = some none)(z5:PySem.W.nsIn K mainGlobals "abs" = some none)(z6:PySem.W.nsIn K mainGlobals "max" = some none)(z7:PySem.W.nsIn K mainGlobals "min" = some none)(z8:PySem.W.nsIn K mainGlobals "isinstance" = some none)(z9:PySem.W.nsIn K mainGlobals "range" = some none)(z10:PySem.W.nsIn K mainGlobals "str" = some none)(z11:PySem.W.nsIn K mainGlobals "dict" = some none)(z12:PySem.W.nsIn K mainGlobals "sum" = some none)(z13:PySem.W.nsIn K mainGlobals "all" = some none)(z14:PySem.W.nsIn K mainGlobals "zip" = some none)(z15:PySem.W.nsIn K mainGlobals "enumerate" = some none)(z16:PySem.W.nsIn K mainGlobals "sorted" = some none):∀nm∈zC,PySem.W.nsIn K mainGlobals nm=some none:=by
 unfold zC;simp only[List.forall_mem_cons];exact ⟨z0,z1,z2,z3,z4,z5,z6,z7,z8,z9,z10,z11,z12,z13,z14,z15,z16,λ_ q=>(List.not_mem_nil q).elim⟩
theorem dk {K:PySem.W.Frag}{h:Heap}{mg:Str->Option Value}(X:K.In h)(G:h.Ns mainGlobals mg){d:Dfn}{a:Addr}{od an:Option Addr}{sl:Array (Option Value)}{oc kV dc pm cd ct:Value}(g:PySem.W.nsIn K mainGlobals d.nm=some (some (.ref a)))
  (l:K.lookup a=some ⟨oc,od,.func (PySem.W.fnOf d.on d.on (wm d.st) (xz d.st) (zW d.st) .none kV dc pm an cd ct),sl⟩) (c:PySem.W.codeIn K cd d.on=true) (k:PySem.W.keepIn K (.ref a)=true):zO K mg d:=⟨a,_,zgD l c k,PySem.W.mg_of X G g⟩
theorem mk {K:PySem.W.Frag}{w:World}{h:Heap}{mg:Str->Option Value}(X:K.In h)(G:h.Ns mainGlobals mg){t0 t1:Tok}
  (h0:zO K mg d0) (h1:zO K mg d1) (h2:zO K mg d2) (h3:zO K mg d3) (h4:zO K mg d4) (h5:zO K mg d5) (h6:zO K mg d6) (h7:zO K mg d7) (h8:zO K mg d8) (h9:zO K mg d9) (h10:zO K mg d10) (h11:zO K mg d11) (h12:zO K mg d12) (h13:zO K mg d13) (h14:zO K mg d14) (h15:zO K mg d15) (h16:zO K mg d16) (h17:zO K mg d17) (h18:zO K mg d18) (h19:zO K mg d19) (h20:zO K mg d20) (h21:zO K mg d21) (h22:zO K mg d22) (h23:zO K mg d23) (h24:zO K mg d24)
  (e0:PySem.W.nsIn K mainGlobals "WALKED" = some (some (.int 1 t0)))
  (e1:PySem.W.nsIn K mainGlobals "BESIDE" = some (some (.int 0 t1)))
  {sa0:Addr}(s0:PySem.W.nsIn K mainGlobals "STEPS" = some (some (.ref sa0))) (v0:zcE K w sa0 [([85],-1,0),([82],0,1),([68],1,0),([76],0,-1)])
  (z:∀nm∈zC,PySem.W.nsIn K mainGlobals nm=some none)
  : (∀e∈D,zO K mg e)/\g6 K w mg C/\∀nm∈zC,mg nm=none:=by
 refine ⟨λd hd=>?_,⟨λnm i hi=>?_,λnm qq hi=>?_⟩,λnm hn=>?_⟩
 .exact (ac h0 (ac h1 (ac h2 (ac h3 (ac h4 (ac h5 (ac h6 (ac h7 (ac h8 (ac h9 (ac h10 (ac h11 (ac h12 (ac h13 (ac h14 (ac h15 (ac h16 (ac h17 (ac h18 (ac h19 (ac h20 (ac h21 (ac h22 (ac h23 (ac h24 (λ_ h=>nomatch h))))))))))))))))))))))))):∀e∈D,zO K mg e) d hd
 .unfold C at hi;rw[List.lookup_cons] at hi;cases q0:nm == ("WALKED" : Str) with
  | true =>
   rw[q0] at hi;cases hi;rw[beq_iff_eq.mp q0];exact ⟨t0,PySem.W.mg_of X G e0⟩
  | false =>
  rw[q0] at hi;rw[List.lookup_cons] at hi;cases q1:nm == ("BESIDE" : Str) with
  | true =>
   rw[q1] at hi;cases hi;rw[beq_iff_eq.mp q1];exact ⟨t1,PySem.W.mg_of X G e1⟩
  | false =>
  rw[q1] at hi;cases hi
 .unfold C at hi;rw[List.lookup_cons] at hi;cases q0:nm == ("STEPS" : Str) with
  | true =>
   rw[q0] at hi;cases hi;rw[beq_iff_eq.mp q0];exact ⟨sa0,PySem.W.mg_of X G s0,v0⟩
  | false =>
  rw[q0] at hi;cases hi
 .exact PySem.W.mg_none_of X G (z nm hn)
end R46
namespace R46
open Mini
noncomputable def T:List Fn:=[f0,f1,f2,f3,f4,f5,f6,f7,f8,f9,f10,f11,f12,f13,f14,f15,f16,f17,f18,f19,f20,f21,f22,f23,f24]
open Vl Vl.Lib
noncomputable def zaD (k:Nat):Lv:=if k=3\/k=22 then .no else .full
noncomputable abbrev CD (d:Nat):=k9 zaD T d
theorem yk {d k:Nat}{f:Fn}(h:T[k]?=some f)(ds:List Dat):CD (d+1) k ds=zG zaD (CD d) k f ds:=by
 show k9 zaD T (d+1) k ds=_;unfold k9;rw[h]
theorem H0 (d:Nat){n r c:Nat}(hr:r < n)(hc:c < n):CD (d+1) 0 [.int n,.int r,.int c]=.ok (.bl true):=by rw[yk (f:=zhv) rfl];exact zfn hr hc
theorem H1 (d:Nat){n r c:Nat}(hr:r < n)(hc:c < n)(e:Di):CD (d+2) 1 [.int n,.int r,.int c,yA e]=.ok (zaw n ((r:Int),(c:Int)) e):=by rw[yk (f:=zhw 0) rfl];exact zfo hr hc (H0 d hr hc) e
theorem H2 (d:Nat){n ρ:Nat}(hn:0 < n)(hn':n<=12)(h:ρ < 4 * n):CD (d+1) 2 [.int n,.int ρ]=.ok (.tup [.int (ent n ρ).1.1,.int (ent n ρ).1.2,yA (ent n ρ).2]):=by rw[yk (f:=zdM) rfl];exact zdN hn hn' h
theorem H3 (d:Nat){R:List (List Int)}(h:Sq R)(hn:R.length<=100):CD (d+1) 3 [tab R]=.ok (tab (vh R)):=by rw[yk (f:=zdx) rfl];exact zdy h hn rfl
theorem H4 (d:Nat)(x:List Int)(hx:x.length<=100):CD (d+1) 4 [row x]=.ok (row (acR x)):=by rw[yk (f:=zhy) rfl];exact zfu x hx rfl
theorem H5 (d:Nat)(x:List Int)(hx:x.length<=100):CD (d+1) 5 [row x]=.ok (row (dnR x)):=by rw[yk (f:=zhz) rfl];exact zfv x hx rfl
theorem H6 (d:Nat){R:List (List Int)}(h:Sq R)(hn:R.length<=12):CD (d+2) 6 [tab R]=.ok (arr R.length (axf R) (dnf R)):=by rw[yk (f:=zhC 3 4 5) rfl];exact zfw h hn (H3 d h (by lia)) (H4 d) (H5 d) rfl rfl rfl
theorem H7 (d:Nat)(n:Int):CD (d+1) 7 [.int n]=.ok (.bl (decide (n % 2=1))):=by rw[yk (f:=zfr) rfl];exact zfs n
theorem H8 (d:Nat){q:Nat}(hq:q<=100)(W:Nat->Nat->Int)(i:Nat):CD (d+2) 8 [.int i,row (y7 q W i)]=.ok (row (y7 q (wk W) i)):=by rw[yk (f:=zdR 7) rfl];exact zdS (H7 d) hq W i rfl
theorem H9 (d:Nat){p q:Nat}(hp:p<=100)(hq:q<=100)(W:Nat->Nat->Int):CD (d+3) 9 [tab (yg p q W)]=.ok (tab (yg p q (wk W))):=by rw[yk (f:=zay 8) rfl];exact zb0 hp W (H8 d hq W) rfl rfl
theorem H10 (d:Nat){R:List (List Int)}(h:Sums R)(hn:R.length<=12):CD (d+4) 10 [tab R]=.ok (arr R.length (wk (axf R)) (wk (dnf R))):=by
 rw[yk (f:=zhD 6 9) rfl];exact zfx (H6 (d+1) h.sq hn) (H9 d (by lia) (by lia) _) (H9 d (by lia) (by lia) _) rfl rfl rfl
theorem H11 (d:Nat){n r c:Nat}(hr:r < n)(hc:c < n)(e:Di):CD (d+3) 11 [.int n,.int r,.int c,yA e]=.ok (zH n ((r:Int),(c:Int)) e):=by rw[yk (f:=zhx 1) rfl];exact zfp e (H1 d hr hc e)
theorem H12 (d:Nat){R:List (List Int)}(H:Sums R)(b:Bool)(r c:Nat)(hr:r < R.length)(hc:c < R.length):CD (d+4) 12 [arr R.length (wk (axf R)) (wk (dnf R)),.int r,.int c,.int (mkB b)]=.ok (vm R.length (trB R b) ((r:Int),(c:Int))):=by
 rw[yk (f:=qG 11) rfl];exact zhJ H b hr hc (λe=>H11 d hr hc e) rfl
noncomputable abbrev EN (R:List (List Int))(b:Bool):Dat:=aeD (vm R.length (trB R b)) (ptw R.length R.length 0)
theorem H13 (d:Nat){R:List (List Int)}(H:Sums R)(hn:R.length<=12)(b:Bool):CD (d+5) 13 [tab R,.int (mkB b)]=.ok (EN R b):=by
 rw[yk (f:=zax 10 12) rfl];exact zbZ hn (H10 d H hn) (H12 d H b) rfl rfl
theorem H14 (d:Nat){R:List (List Int)}(H:Sums R)(hn:R.length<=12)(b:Bool){j:Nat}(hj:j < 2 * R.length){pl:List Pl}{σ:Int}(hw:Wk R b j=some (pl,σ)):CD (d+1) 14 [EN R b,.int ((2 * j+bN b:Nat):Int),plc (ent R.length (2 * j+bN b)).1]=.ok (.lst (.int ((2 * j+bN b:Nat):Int)::pl.map plc++[.int σ])):=by
 have hb:bN b=0\/bN b=1:=by cases b <;> simp[bN]
 obtain ⟨h1,h2,h3⟩:=xt (n:=R.length) (ρ:=2 * j+bN b) (by lia) (by lia);rw[yk (f:=zaA) rfl];exact zb1 (by lia) hn (by lia) (zav H b) (zhG λ_ _=>rfl) (jj H b hj) h2 h3 hw rfl
theorem H15 (d:Nat){R:List (List Int)}(H:Sums R)(hn:R.length<=12)(b:Bool){j:Nat}(hj:j < 2 * R.length){pl:List Pl}{σ:Int}(hw:Wk R b j=some (pl,σ)):CD (d+2) 15 [EN R b,.int R.length,.int j,.int (mkB b)]=.ok (.lst (.int ((2 * j+bN b:Nat):Int)::pl.map plc++[.int σ])):=by
 have hb:bN b=0\/bN b=1:=by cases b <;> simp[bN]
 rw[yk (f:=zhK 2 14) rfl];exact zfB b (H2 d (by lia) hn (by lia)) (H14 d H hn b hj hw) rfl rfl
theorem H16 (d:Nat){R:List (List Int)}(H:Sums R)(hn:R.length<=12)(b:Bool){L:Nat->Nat}{P:Nat->List Pl}(hL:∀j,j < 2 * R.length->Wk R b j=some (P j,((2 * L j+bN b:Nat):Int))):CD (d+6) 16 [tab R,.int (mkB b)]=.ok (row ((List.range (2 * R.length)).map λj=>(L j:Int))):=by
 rw[yk (f:=zhL 13 15) rfl];exact zfC hn b (H13 d H hn b) rfl (P:=λj=>.int ((2 * j+bN b:Nat):Int)::(P j).map plc) (λj hj=>H15 (d+3) H hn b hj (hL j hj)) rfl
theorem H17 (d:Nat){R:List (List Int)}(H:Sums R)(hn:R.length<=12){L:Nat->Nat}{P:Nat->List Pl}(hL:∀j,j < 2 * R.length->Wk R false j=some (P j,((2 * L j+bN false:Nat):Int))):CD (d+7) 17 [tab R]=.ok (row ((List.range (2 * R.length)).map λj=>(L j:Int))):=by
 rw[yk (f:=zdU 16 1) rfl];exact zbr (H16 d H hn false hL) rfl rfl
theorem H18 (d:Nat){R:List (List Int)}(H:Sums R)(hn:R.length<=12){L:Nat->Nat}{P:Nat->List Pl}(hL:∀j,j < 2 * R.length->Wk R true j=some (P j,((2 * L j+bN true:Nat):Int))):CD (d+7) 18 [tab R]=.ok (row ((List.range (2 * R.length)).map λj=>(L j:Int))):=by
 rw[yk (f:=zdU 16 0) rfl];exact zbr (H16 d H hn true hL) rfl rfl
theorem H19 (d:Nat)(ns:List Int)(i:Nat):∃c:Int,CD (d+1) 19 [.scr ns,.int i]=.ok (.int c):=by rw[yk (f:=jo) rfl];exact zb2 ns i
theorem H20 (d:Nat)(c j:Int)(h:0<=j)(h':j<=100000):∃v:Int,CD (d+1) 20 [.int c,.int j]=.ok (.int v):=by rw[yk (f:=zdY) rfl];exact zdZ c j h h'
theorem H21 (d:Nat)(c:Int):∃n:Nat,1<=n/\n<=12/\CD (d+1) 21 [.int c]=.ok (.int n):=by rw[yk (f:=vg) rfl];exact zao c
theorem H22 (d:Nat){n:Nat}(hn:1<=n)(hn':n<=12)(cell:Int):∃R,Sums R/\R.length=n/\CD (d+2) 22 [.int cell,.int n]=.ok (tab R):=by
 rw[yk (f:=zaC 20) rfl];obtain ⟨X,hX,e⟩:=zb3 (lev:=zaD) (k:=22) (H20 d) hn hn' cell (.inl rfl);have hXl:=hX.len;have hl:(sg X).length=n:=by rw[gn,hXl]
 exact ⟨sg X,Sums.of (zja X) λr c a b=>zhf hX (by lia) (by lia),hl,e⟩
theorem H23 (d:Nat){m:Nat}(hm:m<=24){F:Nat->Nat}(W:Web m F):CD (d+1) 23 [row (wl m F),.int m]=.ok (.bl true):=by rw[yk (f:=zhN) rfl];exact zfI hm W
set_option tactic.hygienic true in
theorem zd1 (ns:List Int):CD 9 24 [.scr ns]=.ok (.bl true):=by
 rw[yk (d:=8) (f:=f24) rfl];obtain ⟨c0,h0⟩:=H19 7 ns 0;obtain ⟨c1,h1⟩:=H19 7 ns 1;obtain ⟨n,hn1,hn2,h4⟩:=H21 7 c0;obtain ⟨R,H,rfl,h5⟩:=H22 6 hn1 hn2 c1;obtain ⟨L,P,hL⟩:=qE H false;obtain ⟨L',P',hL'⟩:=qE H true;have h0':CD 8 19 [.scr ns,.int 0]=.ok (.int c0):=h0;have h1':CD 8 19 [.scr ns,.int 1]=.ok (.int c1):=h1;have h17:=(show CD 8 17 [tab R]=_ from H17 1 H hn2 λj hj=>(hL j hj).2.2.2.2);have h18:=(show CD 8 18 [tab R]=_ from H18 1 H hn2 λj hj=>(hL' j hj).2.2.2.2);have a:=(show CD 8 23 _=_ from H23 7 (m:=2 * R.length) (by lia) (jO H false hL));have b:=(show CD 8 23 _=_ from H23 7 (m:=2 * R.length) (by lia) (jO H true hL'));unfold wl at a b;have m2:zI .mul (.int 2) (.int R.length)=.ok (.int ((2 * R.length:Nat):Int)):=by rw[yX _ _ (by decide)];simp
 unfold zG;rw[if_pos (by rfl)];show zE _ (exD zaD (CD 8) (.seq (.asg 1 _) (.seq (.asg 2 _) (.ret _))) [some (.scr ns),none,none] _)=_;rw[zbl (d:=.int R.length) (by simp only[zu,zj,zl,zb,zd,zjX,zi,h0',h4]) (by simp) rfl];simp only[List.set_cons_succ,List.set_cons_zero];obtain ⟨lv',e⟩:=gA (lev:=zaD) (cl:=CD 8) (i:=2) (e:=.call 22 (.pair (.call 19 (.pair (.var 0) (.pair (.lit (.int 1)) .unit))) (.pair (.var 1) .unit))) (d:=tab R) (X:=.ret (.and (.call 23 (.pair (.call 17 (.pair (.var 2) .unit)) (.pair (.bin .mul (.lit (.int 2)) (.var 1)) .unit))) (.call 23 (.pair (.call 18 (.pair (.var 2) .unit)) (.pair (.bin .mul (.lit (.int 2)) (.var 1)) .unit))))) (de:=[some (.scr ns),some (.int R.length),none]) (lv:=_) (by simp only[zu,zj,zl,zb,za,zd,zjX,zi,h1',h5]) rfl;refine (congrArg (zE _) e).trans ?_;simp only[List.set_cons_succ,List.set_cons_zero,zJ,yS,zu,zj,zl,zt,zd,zb,za,zjX,zi,m2,h17,h18,a,b,zjW];simp[zE]
theorem pure (ns:List Int)(_:ns.length<=63):∃m,xa (D.map (·.fn)) 9 24 [.rol (ns.map Wd.int)] []=.ok (.bl true) m:=ze1 zaD T 9 24 ns (zd1 ns)
end R46
namespace Mini
open PySem PySem.Spec PyProof.Rows L2
theorem zjo {q:Program}{loose:List Str}{XP:(Str->Option Value)->Heap->Prop}{r:PySem.W.RowW}{d:DefRec}{kwd:List (Str×Expr)}{run:Value->List Value->Sem Value}{K:Params->PySem.W.Frag}{as:List Addr}{n t:Nat}(e:∀P,as=(K P).map (·.1))
  (h:PySem.W.WalkO q loose XP (λw h=>(K w.params).In h) r d kwd run):PySem.W.WalkX q loose XP (PySem.W.X.obsZ as) (PySem.W.X.valZ K n t) r d kwd run :=
 λw s₀ s₁ mg mb G y a o pm cd doc dV kV h1 h2 h3 h4 h5 h6 args vals as' L p1 p2 p3 p4 p5=>h w s₀ s₁ mg mb G (PySem.W.InK.keeps (K:=K) w _ _ (PySem.W.X.z_facts e y).2.1 L.keeps) a o pm cd doc dV kV h1 h2 h3 h4 h5 h6 args vals as' p1 p2 p3 p4 p5
end Mini
open PySem PySem.W PyProof.Rows
set_option maxRecDepth 100000 in
theorem PySem.Challenge.cw_loopgyre_k46_links_never_cross_holds : PySem.Challenge.rw_loopgyre_k46_links_never_cross.Holds := by
 w_on;o_law;z_head;(case hw=>w_witness2)
 k_fill
 refine Mini.zjo (λ_=>rfl) ?_;refine Mini.ziJ (l:=PySem.Challenge.rw_loopgyre_k46_links_never_cross) (D:=R46.D) (C:=R46.C) (k:=9) (i:=24) (dl:=R46.d24) (x := "_law_script") (n:=63) rfl (by decide) rfl ⟨rfl,by decide,by decide⟩ (λw h Y=>Y) rfl R46.zjn R46.bnd rfl rfl rfl ?F R46.pure
 case F =>
  intro w mg fa h KX G hmg
  refine' R46.mk KX G ?_ ?_ ?_ ?_ ?_ ?_ ?_ ?_ ?_ ?_ ?_ ?_ ?_ ?_ ?_ ?_ ?_ ?_ ?_ ?_ ?_ ?_ ?_ ?_ ?_ ?xqe0 ?xqe1 ?xqs0 ?xqv0 ?xqz
  all_goals try ((refine' R46.dk KX G ?g ?l ?c ?k);(case g=>k_is);(case l=>k_is);(case c=>k_is);(case k=>k_is))
  (case xqz=>refine R46.zk ?_ ?_ ?_ ?_ ?_ ?_ ?_ ?_ ?_ ?_ ?_ ?_ ?_ ?_ ?_ ?_ ?_ <;> k_is)
  (case xqe0=>k_is)
  (case xqe1=>k_is)
  (case xqs0=>k_is)
  (case xqv0=>(refine' Mini.dc4 ?d0 ?d1 ?d2 ?d3 ?d4 ?d5 ?d6 ?d7 ?d8 ?d9);(case d0=>rfl);(case d1=>k_is);(case d2=>k_is);(case d3=>k_is);(case d4=>k_is);(case d5=>k_is);(case d6=>rfl);(case d7=>rfl);(case d8=>rfl);(case d9=>rfl))
