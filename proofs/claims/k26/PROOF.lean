import PyProof.Rows.All
import Wide.All
import OpenK.AllK
import Wide.FinOn
import Lean
import PyProof.EqAt
import PyProof.EqKinds
import PyProof.TupleCall
import PySem.Challenge.RW_turnarrows_k26_turns_in_a_round
set_option Elab.async false
set_option linter.all false
set_option maxRecDepth 100000
noncomputable section
open PySem.W (nsIn mg_of keepIn fnOf codeIn findIn mg_none_of)
abbrev Fg9:=PySem.W.Frag
abbrev LL9:=List (List Int)
section
open PySem PySem.Spec PyProof.Rows
namespace L2
abbrev Key:=Sum Int Str
def a2z:Key->Value->Bool
 | .inl k,v=>Value.isInt k v
 | .inr x,v=>Value.isStrOf x v
def keyH(w:World):Key->Int
 | .inl k=>hashInt k
 | .inr x=>hashStr w x
theorem jt:∀{k:Key} {v:Value},a2z k v=true->(∃i t,k=Sum.inl i/\v=Value.int i t)∨(∃x t,k=Sum.inr x/\v=Value.str x t)
 | .inl i,v,h=>by
  obtain⟨t,e⟩:=Value.isInt_shape (k:=i) (v:=v) h;exact .inl ⟨i,t,rfl,e⟩
 | .inr x,v,h=>by
  obtain⟨t,e⟩:=Value.isStrOf_shape (x:=x) (v:=v) h;exact .inr ⟨x,t,rfl,e⟩
theorem a2y(a b:Int):decide ((Sum.inl a:Key)=Sum.inl b)=(a==b):=by
 by_cases e:a=b
 ·subst e;simp
 ·have h:¬(Sum.inl a:Key)=Sum.inl b:=fun q=>e (Sum.inl.inj q)
  rw[decide_eq_false h];exact(beq_eq_false_iff_ne.mpr e).symm
theorem a2v(a b:Str):decide ((Sum.inr a:Key)=Sum.inr b)=decide (a=b):=by
 by_cases e:a=b
 ·subst e;simp
 ·have h:¬(Sum.inr a:Key)=Sum.inr b:=fun q=>e (Sum.inr.inj q)
  rw[decide_eq_false h,decide_eq_false e]
theorem a2x(a:Int)(b:Str):decide ((Sum.inl a:Key)=Sum.inr b)=false:=decide_eq_false (fun q=>nomatch q)
theorem a2w(a:Str)(b:Int):decide ((Sum.inr a:Key)=Sum.inl b)=false:=decide_eq_false (fun q=>nomatch q)
def aq2(prog:Program)(w:World):PySem.KeyKind prog w Key where
 is:=a2z
 hash:=keyH w
 inj:=fun v a b ha hb=>by
  rcases jt ha with⟨i,t,rfl,rfl⟩ | ⟨x,t,rfl,rfl⟩
  ·rcases jt hb with⟨j,u,rfl,e⟩ | ⟨y,u,rfl,e⟩
   ·injection e with e1 _;rw[e1]
   ·exact nomatch e
  ·rcases jt hb with⟨j,u,rfl,e⟩ | ⟨y,u,rfl,e⟩
   ·exact nomatch e
   ·injection e with e1 _;rw[e1]
 byValue:=fun k v h=>by
  rcases jt h with⟨i,t,rfl,rfl⟩ | ⟨x,t,rfl,rfl⟩ <;> rfl
 pyHash:=fun hv h=>by
  rcases jt hv with⟨i,t,rfl,rfl⟩ | ⟨x,t,rfl,rfl⟩
  ·exact wpAny_pyHash_int h
  ·exact wpAny_pyHash_str h
 eqBool:=fun hu hv h=>by
  rcases jt hu with⟨i,t,rfl,rfl⟩ | ⟨x,t,rfl,rfl⟩
  ·rcases jt hv with⟨j,u,rfl,rfl⟩ | ⟨y,u,rfl,rfl⟩
   ·rw[a2y] at h;exact wpAny_eqBool_int h
   ·rw[a2x] at h;exact SeqAt.EqAt.int_str i t y u _ _ _ _ h
  ·rcases jt hv with⟨j,u,rfl,rfl⟩ | ⟨y,u,rfl,rfl⟩
   ·rw[a2w] at h;exact SeqAt.EqAt.str_int x t j u _ _ _ _ h
   ·rw[a2v] at h;exact wpAny_eqBool_str h
 «strs» := fun k x t v h=>by
  rcases jt h with⟨i,u,rfl,e⟩ | ⟨y,u,rfl,e⟩
  ·exact nomatch e
  ·injection e with e1 _
   subst e1;cases v <;> rfl
def IsTp(h:Heap)(a:Addr)(items:Array Value):Prop:=∃o,h.get? a=some o/\o.cls=.type "tuple" /\ o.dict=none/\∃n,o.data=.seq items n
theorem IsTp.tup{h:Heap}{a:Addr}{items:Array Value}(x:IsTp h a items):IsTup h a items:=let ⟨o,e,c,_,n,d⟩:=x;⟨o,e,c,n,d⟩
theorem IsTp.new(h:Heap)(items:Array Value):IsTp (h.push { cls:=.type "tuple", data:=.seq items }) h.objs.size items:=⟨_,Heap.get?_push_size _ rfl,rfl,rfl,_,rfl⟩
inductive V where
 | non | bl (b:Bool) | int (i:Int) | str (x:Str) | byt (b:Array UInt8) | flt (b:UInt64) | ref (a:Addr) | ty (n:String)
 deriving DecidableEq
def RelV:V->Value->Prop
 | .non,u=>u=Value.none
 | .bl b,u=>u=Value.bool b
 | .int i,u=>∃t,u=Value.int i t
 | .str x,u=>∃t,u=Value.str x t
 | .byt b,u=>∃t,u=Value.bytes b t
 | .flt b,u=>∃t,u=Value.float b t
 | .ref a,u=>u=Value.ref a
 | .ty n,u=>u=Value.type n
abbrev Vals:List V->List Value->Prop:=Paired RelV
theorem Vals.length{xs:List V}{us:List Value}(r:Vals xs us):xs.length=us.length:=Paired.length r
theorem Vals.get:∀{xs:List V} {us:List Value} {i:Nat} {x:V},Vals xs us->xs[i]? = some x->∃u,us[i]? = some u/\RelV x u
 | _,_,_,_,.nil,e=>by simp at e
 | _,_,0,_,.cons r _,e=>by simp at e;subst e;exact⟨_,rfl,r⟩
 | _,_,i+1,x,.cons _ t,e=>by
  obtain⟨u,h1,h2⟩:=Vals.get (i:=i) (x:=x) t (by simpa using e)
  exact⟨u,by simpa using h1,h2⟩
theorem Vals.set{x:V}{u:Value}(r:RelV x u):∀{xs:List V} {us:List Value} (i:Nat),Vals xs us->Vals (xs.set i x) (us.set i u)
 | _,_,_,.nil=>.nil
 | _,_,0,.cons _ t=>.cons r t
 | _,_,i+1,.cons q t=>.cons q (Vals.set r i t)
theorem Vals.append:∀{xs ys:List V} {us ws:List Value},Vals xs us->Vals ys ws->Vals (xs++ys) (us++ws)
 | _,_,_,_,.nil,s=>s
 | _,_,_,_,.cons r t,s=>.cons r (Vals.append t s)
theorem Vals.take:∀{xs:List V} {us:List Value} (n:Nat),Vals xs us->Vals (xs.take n) (us.take n)
 | _,_,0,_=>.nil
 | _,_,_+1,.nil=>.nil
 | _,_,n+1,.cons r t=>.cons r (Vals.take n t)
theorem Vals.drop:∀{xs:List V} {us:List Value} (n:Nat),Vals xs us->Vals (xs.drop n) (us.drop n)
 | _,_,0,r=>r
 | _,_,_+1,.nil=>.nil
 | _,_,n+1,.cons _ t=>Vals.drop n t
def RelO:Option V->Option Value->Prop
 | some v,some u=>RelV v u
 | none,none=>True
 | _,_=>False
def KV{κ:Type}:List (κ×V)->List (κ×Value)->Prop:=Paired fun(p:κ×V) (q:κ×Value)=>p.1=q.1/\RelV p.2 q.2
def kV:Key->V
 | .inl i=>.int i
 | .inr x=>.str x
inductive HO where
 | lst (xs:List V)
 | tup (xs:List V)
 | dK (kvs:List (Key×V)) | dT (kvs:List (List Key×V))
 | set (S:Int->Bool) (n:Nat)
 | ins (C dx:Addr) (fs:List (Str×V))
 | own (x:Addr)
 | xd (fs:List (Str×V))
 | met (f x:Addr)
 | rng (lo hi:Int)
 | frz (o:Obj) (u:HO)
 | tbl (ps:Array Value)
 | ext (φ:Heap->Prop)
abbrev Hp:=Addr->Option HO
def upd(H:Hp)(a:Addr)(o:HO):Hp:=fun b=>if b=a then some o else H b
theorem dh{H:Hp}{a:Addr}{o:HO}:upd H a o a=some o:=by unfold upd;rw[if_pos rfl]
theorem bc{H:Hp}{a b:Addr}{o:HO}(h:b≠a):upd H a o b=H b:=by unfold upd;rw[if_neg h]
theorem fc{H:Hp}{a b:Addr}{o:HO}(h:H a=some o)(h':H b=none):a≠b:=by
 intro e;subst e;rw[h] at h';cases h'
section
variable(P:Program)(w:World)
def wu(H:Hp)(h:Heap)(a:Addr):HO->Prop
 | .lst xs=>xs.length<=sizeLine/\∃(its:List Value) (n:Nat),Vals xs its/\h.get? a=some { cls:=.type "list", data:=.seq its.toArray n }
 | .tup xs=>xs.length<=sizeLine/\∃its:List Value,Vals xs its/\IsTp h a its.toArray
 | .dK kvs=>kvs.length<=sizeLine/\(a==sysModules)=false/\∃vs,KV kvs vs/\h.DictOf (aq2 P w) a vs
 | .dT kvs=>kvs.length<=sizeLine/\(a==sysModules)=false/\∃xs:List (List Key×Addr×Value),
   Paired (fun(p:List Key×V) (q:List Key×Addr×Value)=>p.1=q.1/\H q.2.1=some (.tup (p.1.map kV))/\RelV p.2 q.2.2) kvs xs /\
   ∃o es ep,h.get? a=some o/\o.ExactDict/\o.data=.dict es ep/\es.toList=xs.map (entryOfKey (tupleKind (aq2 P w)))/\(xs.map (·.1)).Nodup
 | .set S n=>h.SetOf (intKind P w) a S n
 | .ins C dx fs=>H dx=some (.own a)/\fs.length<=1000/\dx≠a/\h.get? a=some (PySem.W.instObj C dx) /\
   ∃mA,h.Ns1 dx mA/\(∀f,RelO (fs.lookup f) (mA f))/\PySem.Within mA (fs.map (·.1))
 | .own _=>∃o,h.get? a=some o
 | .xd fs=>∃mA,h.Ns1 a mA/\∀f,RelO (fs.lookup f) (mA f)
 | .rng lo hi=>∃t u v,h.get? a=some { cls:=.type "range", data:=.fields #[.int lo t,.int hi u,.int 1 v] }
 | .frz o u=>h.get? a=some o/\wu H h a u
 | .tbl ps=>h.get? a=some { cls:=.none,data:=.fields ps }
 | .met f x=>h.get? a=some (PySem.W.methodObj (.ref f) (.ref x))
 | .ext φ=>φ h/\(∃o,h.get? a=some o)/\∀h1 h2:Heap,φ h1->(∀o,h1.get? a=some o->h2.get? a=some o)->φ h2
def HOk(H:Hp)(h:Heap):Prop:=∀a o,H a=some o->wu P w H h a o
end
section
variable{P:Program}{w:World}{H H':Hp}{h h':Heap}{a:Addr}{o:HO}
theorem wu.lt(x:wu P w H h a o):a < h.objs.size:=by
 cases o with
 | lst xs=>obtain⟨_,_,_,_,e⟩:=x;exact Heap.lt_size e
 | tup xs=>obtain⟨_,_,_,p⟩:=x;exact p.tup.lt
 | dK kvs=>obtain⟨_,_,_,_,o,_,_,e,_⟩:=x;exact Heap.lt_size e
 | dT kvs=>obtain⟨_,_,_,_,o,_,_,e,_⟩:=x;exact Heap.lt_size e
 | set S n=>obtain⟨o,_,_,_,e,_⟩:=x;exact Heap.lt_size e
 | ins C dx fs=>obtain⟨_,_,_,e,_⟩:=x;exact Heap.lt_size e
 | own y=>obtain⟨_,e⟩:=x;exact Heap.lt_size e
 | xd fs=>obtain⟨_,⟨_,_,_,e,_⟩,_⟩:=x;exact Heap.lt_size e
 | rng lo hi=>obtain⟨_,_,_,e⟩:=x;exact Heap.lt_size e
 | frz ob u=>obtain⟨e,_⟩:=x;exact Heap.lt_size e
 | tbl ps=>exact Heap.lt_size (show h.get? a=some _ from x)
 | met f y=>exact Heap.lt_size (show h.get? a=some _ from x)
 | ext φ=>obtain⟨_,⟨_,e⟩,_⟩:=x;exact Heap.lt_size e
theorem Paired.mapP{α β:Type}{F G:α->β->Prop}:∀{l₁:List α} {l₂:List β},Paired F l₁ l₂->(∀a b,F a b->G a b)->Paired G l₁ l₂
 | _,_,.nil,_=>.nil
 | _,_,.cons r t,f=>.cons (f _ _ r) (Paired.mapP t f)
theorem wu.stay(x:wu P w H h a o)(k:∀b u,(b=a∨H b=some (.own a))->h.get? b=some u->h'.get? b=some u)
  (ho:∀b,H b=some (.own a)->H' b=some (.own a)) (ht:∀b xs,H b=some (.tup xs)->H' b=some (.tup xs)):wu P w H' h' a o:=by
 induction o with
 | lst xs=>obtain⟨z,its,n,r,e⟩:=x;exact⟨z,its,n,r,k _ _ (.inl rfl) e⟩
 | tup xs=>obtain⟨z,its,r,ob,e,c⟩:=x;exact⟨z,its,r,ob,k _ _ (.inl rfl) e,c⟩
 | dK kvs=>obtain⟨z,y,vs,r,ob,es,ep,e,c⟩:=x;exact⟨z,y,vs,r,ob,es,ep,k _ _ (.inl rfl) e,c⟩
 | dT kvs =>
  obtain⟨z,y,xs,r,ob,es,ep,e,c⟩:=x;exact⟨z,y,xs,Paired.mapP r fun p q z=>⟨z.1,ht _ _ z.2.1,z.2.2⟩,ob,es,ep,k _ _ (.inl rfl) e,c⟩
 | set S n=>obtain⟨ob,es,ep,t,e,c⟩:=x;exact⟨ob,es,ep,t,k _ _ (.inl rfl) e,c⟩
 | ins C dx fs =>
  obtain⟨d,z,ne,e,mA,⟨od,es,ep,e2,c⟩,r⟩:=x;exact⟨ho _ d,z,ne,k _ _ (.inl rfl) e,mA,⟨od,es,ep,k _ _ (.inr d) e2,c⟩,r⟩
 | own y=>obtain⟨ob,e⟩:=x;exact⟨ob,k _ _ (.inl rfl) e⟩
 | xd fs=>obtain⟨mA,⟨od,es,ep,e,c⟩,r⟩:=x;exact⟨mA,⟨od,es,ep,k _ _ (.inl rfl) e,c⟩,r⟩
 | rng lo hi=>obtain⟨t,u,v,e⟩:=x;exact⟨t,u,v,k _ _ (.inl rfl) e⟩
 | frz ob u ih=>obtain⟨e,q⟩:=x;exact⟨k _ _ (.inl rfl) e,ih q⟩
 | tbl ps =>
  have e:h.get? a=some { cls:=.none,data:=.fields ps }:=x;show h'.get? a=some { cls:=.none,data:=.fields ps };exact k a _ (.inl rfl) e
 | met f y =>
  have e:h.get? a=some (PySem.W.methodObj (.ref f) (.ref y)):=x;show h'.get? a=some (PySem.W.methodObj (.ref f) (.ref y));exact k a _ (.inl rfl) e
 | ext φ=>obtain⟨p,⟨o,e⟩,st⟩:=x;exact⟨st _ _ p fun o q=>k _ _ (.inl rfl) q,⟨o,k _ _ (.inl rfl) e⟩,st⟩
theorem HOk.lt(x:HOk P w H h)(e:H a=some o):a < h.objs.size:=(x a o e).lt
theorem HOk.fresh(x:HOk P w H h)(e:h.objs.size<=a):H a=none:=by
 cases q:H a with
 | none=>rfl
 | some u=>exact absurd (Nat.lt_of_lt_of_le (x.lt q) e) (Nat.lt_irrefl _)
theorem HOk.kept(x:HOk P w H h)(k:∀b u,h.get? b=some u->h'.get? b=some u):HOk P w H h':=fun a o e =>
 (x a o e).stay (fun b u _ q=>k b u q) (fun _ q=>q) fun _ _ q=>q
theorem HOk.laid(x:HOk P w H h)(k:∀b u,h.get? b=some u->h'.get? b=some u)(hp:h.objs.size<=a)(new:wu P w (upd H a o) h' a o):HOk P w (upd H a o) h':=fun b u e=>by
 have hn:=x.fresh hp
 by_cases hb:b=a
 ·subst hb;rw[dh] at e;cases e;exact new
 ·rw[bc hb] at e;exact(x b u e).stay (fun c v _ q=>k c v q) (fun c q=>by rw[bc (fc q hn)];exact q) fun c xs q=>by rw[bc (fc q hn)];exact q
end
def Rd(H:Hp)(a:Addr)(u:HO):Prop:=H a=some u∨∃o,H a=some (.frz o u)
theorem Rd.ok{P:Program}{w:World}{H:Hp}{h:Heap}{a:Addr}{u:HO}(r:Rd H a u)(x:HOk P w H h):wu P w H h a u:=by
 rcases r with r | ⟨o,r⟩
 ·exact x a u r
 ·obtain⟨_,q⟩:=x a _ r;exact q
def Mut:Option HO->Prop
 | some (.lst _)=>True
 | some (.dK _)=>True
 | some (.dT _)=>True
 | some (.set _ _)=>True
 | some (.ins _ _ _)=>True
 | some (.ext _)=>True
 | _=>False
section
variable{P:Program}{w:World}{H:Hp}{h h':Heap}{x e:Addr}{o':HO}
theorem HOk.write(ok:HOk P w H h)(mu:Mut (H x))(he:e=x∨H e=some (.own x))(k:∀b u,b≠e->h.get? b=some u->h'.get? b=some u)(heo:∃u,h'.get? e=some u)
  (new:wu P w (upd H x o') h' x o'):HOk P w (upd H x o') h':=fun b u q=>by
 have nown:∀c y,H c=some (.own y)->c≠x:=fun c y r z=>by subst z;rw[r] at mu;exact mu
 have ntup:∀c xs,H c=some (.tup xs)->c≠x:=fun c xs r z=>by subst z;rw[r] at mu;exact mu
 by_cases hb:b=x
 ·subst hb;rw[dh] at q;cases q;exact new
 ·rw[bc hb] at q
  by_cases hbe:b=e
  ·have q':H b=some (.own x):=by
    rcases he with z | z
    ·exact absurd (hbe.trans z) hb
    ·rw[hbe];exact z
   rw[q] at q';cases q';obtain⟨v,hv⟩:=heo;exact⟨v,by rw[hbe];exact hv⟩
  ·refine(ok b u q).stay (fun c v hc r=>k c v ?_ r) (fun c r=>by rw[bc (nown c b r)];exact r) fun c xs r=>by rw[bc (ntup c xs r)];exact r
   rcases hc with rfl | hc
   ·exact hbe
   ·rintro rfl
    rcases he with z | z
    ·exact nown c b hc z
    ·rw[hc] at z;cases z;exact hb rfl
end
structure Un (fs ex:List Addr) (H H':Hp) (h h':Heap):Prop where
 keep:∀b o,h.get? b=some o->H b=none->b∉fs->b∉ex->h'.get? b=some o
 slot:∀b o,h.get? b=some o->H b=none->b∈fs->b∉ex->∃sl,h'.get? b=some { o with slots:=sl }
 free:∀b o,h.get? b=some o->H b=none->b∉ex->H' b=none
 there:∀b o,h.get? b=some o->b∉ex->∃o',h'.get? b=some o'
 tups:∀b xs,H b=some (.tup xs)->H' b=some (.tup xs)
 frzs:∀b o u,H b=some (.frz o u)->H' b=some (.frz o u)
 tbls:∀b ps,H b=some (.tbl ps)->∃more,H' b=some (.tbl (ps++more))
section
variable{fs fs' ex ex':List Addr}{H H1 H2:Hp}{h h1 h2 h':Heap}{a x e:Addr}{o:HO}
theorem Un.any(u:Un fs ex H H1 h h1){b:Addr}{ob:Obj}(q:h.get? b=some ob)(n:H b=none)(hx:b∉ex):∃sl,h1.get? b=some { ob with slots:=sl }:=by
 by_cases hb:b∈fs
 ·exact u.slot b ob q n hb hx
 ·exact⟨ob.slots,u.keep b ob q n hb hx⟩
theorem Un.kept(k:∀b u,h.get? b=some u->h'.get? b=some u):Un fs ex H H h h' :=
 ⟨fun b ob q _ _ _=>k b ob q,fun b ob q _ _ _=>⟨ob.slots,k b ob q⟩,fun _ _ _ n _=>n,fun b ob q _=>⟨ob,k b ob q⟩,fun _ _ q=>q,fun _ _ _ q=>q,fun _ ps q=>⟨#[],by rw[q];simp⟩⟩
theorem Un.refl:Un fs ex H H h h:=Un.kept fun _ _ q=>q
theorem Un.laid(k:∀b u,h.get? b=some u->h'.get? b=some u)(hp:h.objs.size<=a)(hn:H a=none):Un fs ex H (upd H a o) h h' where
 keep:=fun b u q _ _ _=>k b u q
 slot:=fun b u q _ _ _=>⟨u.slots,k b u q⟩
 free:=fun b u q n _=>by rw[bc (Nat.ne_of_lt (Nat.lt_of_lt_of_le (Heap.lt_size q) hp))];exact n
 there:=fun b u q _=>⟨u,k b u q⟩
 tups:=fun b xs q=>by rw[bc (fc q hn)];exact q
 frzs:=fun b u xs q=>by rw[bc (fc q hn)];exact q
 tbls:=fun b ps q=>⟨#[],by rw[bc (fc q hn),q];simp⟩
theorem Un.write(mu:Mut (H x))(he:e=x∨H e=some (.own x))(k:∀b u,b≠e->h.get? b=some u->h'.get? b=some u)(heo:∃u,h'.get? e=some u):Un fs ex H (upd H x o) h h':=by
 have hx:∀b,H b=none->b≠x:=fun b n z=>by subst z;rw[n] at mu;exact mu
 have hb:∀b,H b=none->b≠e:=fun b n z=>by
  subst z;rcases he with r | r
  ·exact hx b n r
  ·rw[n] at r;cases r
 have hm:∀b u,H b=some u->¬Mut (some u)->b≠x:=fun b u q nm z=>by subst z;rw[q] at mu;exact nm mu
 refine⟨fun b u q n _ _=>k b u (hb b n) q,fun b u q n _ _=>⟨u.slots,k b u (hb b n) q⟩,fun b u q n _=>by rw[bc (hx b n)];exact n,fun b u q _ =>?_,
  fun b xs q=>by rw[bc (hm b _ q fun z=>z)];exact q,fun b u xs q=>by rw[bc (hm b _ q fun z=>z)];exact q,fun b ps q=>⟨#[],by rw[bc (hm b _ q fun z=>z),q];simp⟩⟩
 by_cases hbe:b=e
 ·subst hbe;exact heo
 ·exact⟨u,k b u hbe q⟩
end
def trk(h:Heap)(H:Hp):List Addr:=(List.range h.objs.size).filter fun a=>(H a).isSome
def hidT(h:Heap)(H:Hp):Heap:=PySem.W.hideAll h (trk h H)
theorem aru(h:Heap)(H:Hp):(hidT h H).objs.size=h.objs.size:=PySem.W.hideAll_size _ _
theorem avp{h:Heap}{H:Hp}{b:Addr}{o:Obj}(e:h.get? b=some o)(n:H b=none):(hidT h H).get? b=some o :=
 PySem.W.hideAll_get _ e fun hm=>by
  have q:(H b).isSome=true:=(List.mem_filter.mp hm).2;rw[n] at q;simp at q
theorem ayv{h:Heap}{H:Hp}{b:Addr}{o:Obj}(e:(hidT h H).get? b=some o):h.get? b=some o/\H b=none:=by
 have e':h.get? b=some o:=PySem.W.of_hideAll (trk h H) e;refine⟨e',?_⟩;cases q:H b with
 | none=>rfl
 | some x =>
  have hm:b∈trk h H:=List.mem_filter.mpr ⟨List.mem_range.mpr (Heap.lt_size e'),by simp[q]⟩
  have z:(hidT h H).get? b=none:=PySem.W.hideAll_none (trk h H) hm;rw[z] at e;cases e
def a0a(g h:Heap)(L:Addr):List (Addr×Obj):=(List.range h.objs.size).filterMap fun a=>if a=L∨(g.get? a).isSome=true then none else (h.get? a).map fun o=>(a,o)
def rest(g h:Heap)(L d:Addr):List (Addr×Obj):=(a0a g h L).filter fun p=>decide (p.1≠d)
structure Mod (K:Fg9) (mg:Str->Option Value) (base:Heap):Prop where
 kin:K.In base
 glob:base.Ns mainGlobals mg
 blt:∃mb,base.Ns builtinsNs mb/\∀x:Str,x ≠ "__name__" -> mb x=bootBuiltins x
 nolimit:base.NoLimit
structure Cx where
 prog:Program
 w:World
 K:Fg9
 mg:Str->Option Value
 base:Heap
 A:Around
 N:List Str
 s₀:Shared
 H₀:Hp
 env:Env
 outer:List Env
 stack:List Env
 ex:List Addr
 fn:Str->Bool
 calm:Bool
 pn:List (Addr×Obj)
 xe:Value->Shared->Prop
def frs(l:List Env):List Addr:=l.filterMap (·.frame)
abbrev Cx.fs(X:Cx):List Addr:=frs X.outer
def Vis(sc:Scope)(x:Str):Prop:=sc.names.lookup x=some .local∨sc.names.lookup x=some .cell∨sc.names.lookup x=some .free
def Loc(sc:Scope)(x:Str):Prop:=sc.names.lookup x=some .local∨sc.names.lookup x=some .cell
def Look(env:Env)(h:Heap)(m:Str->Option Value)(x:Str)(u:Value):Prop :=
 (env.kindOf x=some .local/\m x=some u)∨((env.kindOf x=some .cell∨env.kindOf x=some .free)/\∃c,env.cells.lookup x=some c/\h.IsCell c (some u))
structure Cx.Ok (X:Cx):Prop where
 mod:Mod X.K X.mg X.base
 kind:X.env.scope.kind=.function
 glob:X.env.globals=mainGlobals
 blt:X.env.builtins=builtinsNs
 above:X.s₀.heap.objs.size<=X.env.locals
 inj:∀x y c,X.env.cells.lookup x=some c->X.env.cells.lookup y=some c->x=y
 has:∀x,(X.env.kindOf x=some .cell∨X.env.kindOf x=some .free)->∃c,X.env.cells.lookup x=some c
 cab:∀x c,X.fn x=true->X.env.cells.lookup x=some c->X.s₀.heap.objs.size<=c
 hd:X.calm=true->X.A.handled=none
 frames:X.A.frames=some X.stack
 stk:X.stack=X.outer∨(X.stack=X.env::X.outer/\X.env.frame=some X.env.locals)
 exf:∀b∈X.ex,b≠X.env.locals/\∀x c,X.env.cells.lookup x=some c->c≠b
 bs:∀b o,X.base.get? b=some o->X.s₀.heap.get? b=some o/\X.H₀ b=none
 bsz:X.base.objs.size<=X.s₀.heap.objs.size
 noex:∀b o,X.base.get? b=some o->b∉X.ex
 exfs:∀b∈X.ex,b∉X.fs
 funs:X.s₀.heap.FunFrames X.base X.outer
 frf:∀b∈X.fs,X.H₀ b=none
structure Inv (X:Cx) (qv:List (Addr×Obj)) (σ:List (Option V)) (H:Hp) (s:Shared):Prop where
 ok:X.Ok
 os:s.os=X.s₀.os
 bare:AllBare s.gens
 base:Un X.fs X.ex X.H₀ H X.s₀.heap s.heap
 loc:∃m,s.heap.Ns X.env.locals m/\∀(i:Nat) (x:Str) (v:V),X.N[i]? = some x->σ[i]? = some (some v)->Vis X.env.scope x->∃u,RelV v u/\Look X.env s.heap m x u
 cell:∀x c,X.env.cells.lookup x=some c->∃v,s.heap.IsCell c v
 free:H X.env.locals=none
 freeC:∀x c,X.env.cells.lookup x=some c->H c=none
 pin:∀p∈X.pn++qv,s.heap.get? p.1=some p.2/\H p.1=none/\p.1≠X.env.locals/\p.1∉X.fs/\∀v,p.2.data≠.cell v
 hok:HOk X.prog X.w H s.heap
 len:σ.length=X.N.length
section
variable{X:Cx}{qv:List (Addr×Obj)}{σ:List (Option V)}{H H':Hp}{s:Shared}{h':Heap}
theorem Cx.Ok.nofr(ok:X.Ok){b:Addr}{o:Obj}(e:X.base.get? b=some o):b∉X.fs:=fun hb=>by
 have:=(ok.funs.mem hb).1;rw[e] at this;cases this
theorem Inv.bs(I:Inv X qv σ H s):∀b o,X.base.get? b=some o->s.heap.get? b=some o/\H b=none:=fun b o e =>
 ⟨I.base.keep b o (I.ok.bs b o e).1 (I.ok.bs b o e).2 (I.ok.nofr e) (I.ok.noex b o e),I.base.free b o (I.ok.bs b o e).1 (I.ok.bs b o e).2 (I.ok.noex b o e)⟩
theorem Inv.bk(I:Inv X qv σ H s):∀b o,X.base.get? b=some o->s.heap.get? b=some o:=fun b o e=>(I.bs b o e).1
theorem Inv.mod(I:Inv X qv σ H s):Mod X.K X.mg X.base:=I.ok.mod
theorem Inv.kIn(I:Inv X qv σ H s):X.K.In s.heap:=I.ok.mod.kin.keeps I.bk
theorem Inv.lt(I:Inv X qv σ H s):X.env.locals < s.heap.objs.size:=let ⟨_,hn,_⟩:=I.loc;hn.lt
theorem Inv.sz(I:Inv X qv σ H s):X.s₀.heap.objs.size<=s.heap.objs.size:=Nat.le_trans I.ok.above (Nat.le_of_lt I.lt)
theorem Inv.nofs(I:Inv X qv σ H s){a:Addr}(h:s.heap.objs.size<=a):a∉X.fs:=fun hb=>by
 obtain⟨_,o,ho,_⟩:=I.ok.funs.mem hb;exact absurd (Nat.lt_of_lt_of_le (Heap.lt_size ho) (Nat.le_trans I.sz h)) (Nat.lt_irrefl _)
theorem Inv.cne(I:Inv X qv σ H s):∀x c,X.env.cells.lookup x=some c->c≠X.env.locals:=fun x c e z=>by
 obtain⟨v,o,ho,hd⟩:=I.cell x c e;obtain⟨m,⟨o',es,ep,ho',hd',_⟩,_⟩:=I.loc;rw[z,ho'] at ho;cases ho;rw[hd'] at hd;cases hd
theorem Inv.funs(I:Inv X qv σ H s):s.heap.FunFrames X.base X.outer:=by
 have all:∀(l:List Env),(∀b∈frs l,b∈X.fs)->X.s₀.heap.FunFrames X.base l->s.heap.FunFrames X.base l:=by
  intro l
  induction l with
  | nil=>intro _ _;trivial
  | cons env r ih =>
   intro hs hl;obtain⟨hk,⟨L,o,hf,hn,ho,hd⟩,hr⟩:=hl;have hL:L∈X.fs:=hs L (by unfold frs;rw[List.filterMap_cons,hf];exact List.mem_cons_self)
   obtain⟨sl,e⟩:=I.base.slot L o ho (I.ok.frf L hL) hL fun z=>I.ok.exfs L z hL
   exact⟨hk,⟨L,_,hf,hn,e,hd⟩,ih (fun b hb=>hs b (by unfold frs;rw[List.filterMap_cons,hf];exact List.mem_cons_of_mem _ hb)) hr⟩
 exact all X.outer (fun _ hb=>hb) I.ok.funs
theorem Inv.stack(I:Inv X qv σ H s):s.heap.FunFrames X.base X.stack:=by
 rcases I.ok.stk with e | ⟨e,hf⟩
 ·rw[e];exact I.funs
 ·rw[e];obtain⟨m,hn,_⟩:=I.loc;refine .cons (by rw[I.ok.kind];decide) hf hn ?_ I.funs
  exact Heap.get?_none_of_le (Nat.le_trans I.ok.bsz I.ok.above)
theorem Inv.stkSub(I:Inv X qv σ H s):∀b∈frs X.stack,b∈X.env.locals::X.fs:=fun b hb=>by
 rcases I.ok.stk with e | ⟨e,hf⟩
 ·rw[e] at hb;exact List.mem_cons_of_mem _ hb
 ·rw[e] at hb;unfold frs at hb;rw[List.filterMap_cons,hf] at hb;exact hb
theorem Inv.stkFree(I:Inv X qv σ H s):∀b∈frs X.stack,H b=none:=fun b hb=>by
 rcases List.mem_cons.mp (I.stkSub b hb) with e | hb
 ·rw[e];exact I.free
 ·obtain⟨_,o,ho,_⟩:=I.ok.funs.mem hb;exact I.base.free b o ho (I.ok.frf b hb) fun z=>I.ok.exfs b z hb
theorem Inv.step{g':Array GenState}{t':Nat}{d':Drawn}{ch:List Addr}(I:Inv X qv σ H s)
  (hch:∀b∈ch,(b∈X.ex∨X.s₀.heap.objs.size<=b)/\b≠X.env.locals/\(∀x c,X.env.cells.lookup x=some c->c≠b)/\∀p∈X.pn++qv,p.1≠b)
  (keep:∀b o,b≠X.env.locals->b∉X.fs->b∉ch->s.heap.get? b=some o->H b=none->h'.get? b=some o)
  (slot:∀b o,b≠X.env.locals->b∈X.fs->b∉ch->s.heap.get? b=some o->H b=none->∃sl,h'.get? b=some { o with slots:=sl }) (free:∀b o,b∉ch->s.heap.get? b=some o->H b=none->H' b=none)
  (there:∀b o,b∉ch->s.heap.get? b=some o->∃o',h'.get? b=some o')
  (tups:∀b xs,H b=some (.tup xs)->H' b=some (.tup xs)) (frzs:∀b o u,H b=some (.frz o u)->H' b=some (.frz o u)) (tbls:∀b ps,H b=some (.tbl ps)->∃more,H' b=some (.tbl (ps++more)))
  (ns:∀m,s.heap.Ns X.env.locals m->h'.Ns X.env.locals m) (hok:HOk X.prog X.w H' h') (hg:AllBare g') :
  Inv X qv σ H' { s with heap:=h',gens:=g',drawn:=d',toks:=t' }:=by
 have neL:∀b o,X.s₀.heap.get? b=some o->b≠X.env.locals:=fun b o e=>Nat.ne_of_lt (Nat.lt_of_lt_of_le (Heap.lt_size e) I.ok.above)
 have neC:∀b o,X.s₀.heap.get? b=some o->b∉X.ex->b∉ch:=fun b o e hx hb=>by
  rcases(hch b hb).1 with z | z
  ·exact hx z
  ·exact absurd (Nat.lt_of_lt_of_le (Heap.lt_size e) z) (Nat.lt_irrefl _)
 have cellK:∀x c,X.env.cells.lookup x=some c->∀v,s.heap.IsCell c v->h'.IsCell c v:=fun x c e v hq0=>by
  obtain⟨o,ho,hd⟩:=hq0;have nch:c∉ch:=fun z=>(hch c z).2.2.1 x c e rfl
  by_cases hc:c∈X.fs
  ·obtain⟨sl,q⟩:=slot c o (I.cne x c e) hc nch ho (I.freeC x c e);exact⟨_,q,hd⟩
  ·exact⟨o,keep c o (I.cne x c e) hc nch ho (I.freeC x c e),hd⟩
 refine⟨I.ok,I.os,hg,⟨fun b o e n hb hx =>?_,fun b o e n hb hx =>?_,fun b o e n hx =>?_,fun b o e hx =>?_,fun b xs e=>tups b xs (I.base.tups b xs e),fun b o xs e=>frzs b o xs (I.base.frzs b o xs e),fun b ps e =>?_⟩,?_,fun x c e =>?_,?_,fun x c e =>?_,fun p hp =>?_,hok,I.len⟩
 ·exact keep b o (neL b o e) hb (neC b o e hx) (I.base.keep b o e n hb hx) (I.base.free b o e n hx)
 ·obtain⟨sl,e1⟩:=I.base.slot b o e n hb hx;obtain⟨sl',e2⟩:=slot b _ (neL b o e) hb (neC b o e hx) e1 (I.base.free b o e n hx);exact⟨sl',e2⟩
 ·obtain⟨o',e1⟩:=I.base.there b o e hx;exact free b o' (neC b o e hx) e1 (I.base.free b o e n hx)
 ·obtain⟨o',e1⟩:=I.base.there b o e hx;exact there b o' (neC b o e hx) e1
 ·obtain⟨m1,e1⟩:=I.base.tbls b ps e;obtain⟨m2,e2⟩:=tbls b _ e1;exact⟨m1++m2,by rw[e2,Array.append_assoc]⟩
 ·obtain⟨m,hn,hl⟩:=I.loc;refine⟨m,ns m hn,fun i x v e1 e2 e3 =>?_⟩
  obtain⟨u,r,l⟩:=hl i x v e1 e2 e3;refine⟨u,r,?_⟩;rcases l with l | ⟨k,c,e,z⟩
  ·exact .inl l
  ·exact .inr ⟨k,c,e,cellK x c e _ z⟩
 ·obtain⟨v,z⟩:=I.cell x c e;exact⟨v,cellK x c e v z⟩
 ·obtain⟨m,⟨o,_,_,ho,_⟩,_⟩:=I.loc;exact free _ o (fun z=>(hch _ z).2.1 rfl) ho I.free
 ·obtain⟨v,o,ho,hd⟩:=I.cell x c e;exact free c o (fun z=>(hch c z).2.2.1 x c e rfl) ho (I.freeC x c e)
 ·obtain⟨e,n,ne,nf,d⟩:=I.pin p hp;have nch:p.1∉ch:=fun z=>(hch p.1 z).2.2.2 p hp rfl
  exact⟨keep p.1 p.2 ne nf nch e n,free p.1 p.2 nch e n,ne,nf,d⟩
theorem Inv.un{t':Nat}(I:Inv X qv σ H s)(u:Un X.fs [] H H' s.heap h')(hok:HOk X.prog X.w H' h'):Inv X qv σ H' { s with heap:=h',toks:=t' }:=by
 obtain⟨m,⟨o,es,ep,ho,r⟩,_⟩:=id I.loc;obtain⟨sl,hL⟩:=u.any ho I.free (by simp)
 exact I.step (g':=s.gens) (d':=s.drawn) (ch:=[]) (fun _ z=>nomatch z) (fun b o _ hb _ e n=>u.keep b o e n hb (by simp)) (fun b o _ hb _ e n=>u.slot b o e n hb (by simp)) (fun b o _ e n=>u.free b o e n (by simp)) (fun b o _ e=>u.there b o e (by simp)) u.tups u.frzs u.tbls (fun m' hm=>by
  obtain⟨o',es',ep',ho',r'⟩:=hm;rw[ho] at ho';cases ho';exact⟨_,es',ep',hL,r'⟩) hok I.bare
theorem Inv.call{g':Array GenState}{t':Nat}{d':Drawn}{ch:List Addr}(I:Inv X qv σ H s)(u:Un (frs X.stack) ch H H' s.heap h')(hok:HOk X.prog X.w H' h')(hg:AllBare g')
  (hch:∀b∈ch,(b∈X.ex∨X.s₀.heap.objs.size<=b)/\b≠X.env.locals/\(∀x c,X.env.cells.lookup x=some c->c≠b)/\∀p∈X.pn++qv,p.1≠b) :
  Inv X qv σ H' { s with heap:=h',gens:=g',drawn:=d',toks:=t' }:=by
 obtain⟨m,⟨o,es,ep,ho,r⟩,_⟩:=id I.loc;obtain⟨sl,hL⟩:=u.any ho I.free fun z=>(hch _ z).2.1 rfl
 exact I.step (ch:=ch) hch (fun b o hL hb hc e n=>u.keep b o e n (fun z=>(List.mem_cons.mp (I.stkSub b z)).elim hL hb) hc) (fun b o _ _ hc e n=>u.any e n hc) (fun b o hc e n=>u.free b o e n hc) (fun b o hc e=>u.there b o e hc) u.tups u.frzs u.tbls (fun m' hm=>by
  obtain⟨o',es',ep',ho',r'⟩:=hm;rw[ho] at ho';cases ho';exact⟨_,es',ep',hL,r'⟩) hok hg
theorem Inv.turned{t':Nat}{it:Addr}(I:Inv X qv σ H s)(k:∀b o,b≠it->s.heap.get? b=some o->h'.get? b=some o)(hn:H it=none)(hL:it≠X.env.locals)
  (h1:it∈X.ex∨X.s₀.heap.objs.size<=it) (h2:∀x c,X.env.cells.lookup x=some c->c≠it) (h3:∀p∈X.pn++qv,p.1≠it):Inv X qv σ H { s with heap:=h',toks:=t' }:=by
 have nit:∀b u,H b=some u->b≠it:=fun b u e z=>by rw[z,hn] at e;cases e
 refine I.step (g':=s.gens) (d':=s.drawn) (ch:=[it]) (fun b hb =>?_) (fun b o _ _ hc e _=>k b o (fun z=>hc (by simp[z])) e) (fun b o _ _ hc e _=>⟨o.slots,k b o (fun z=>hc (by simp[z])) e⟩) (fun _ _ _ _ n=>n)
  (fun b o hc e=>⟨o,k b o (fun z=>hc (by simp[z])) e⟩) (fun _ _ e=>e) (fun _ _ _ e=>e) (fun b ps e=>⟨#[],by rw[e];simp⟩) (fun m hm =>?_) (fun b u e =>?_) I.bare
 ·have e:b=it:=by simpa using hb
  subst e;exact⟨h1,hL,h2,h3⟩
 ·obtain⟨o,es,ep,ho,r⟩:=hm;exact⟨o,es,ep,k _ o (Ne.symm hL) ho,r⟩
 ·refine(I.hok b u e).stay (fun c v hc q=>k c v ?_ q) (fun _ q=>q) fun _ _ q=>q
  rcases hc with z | z
  ·rw[z];exact nit b u e
  ·exact nit c _ z
theorem Inv.tok(I:Inv X qv σ H s)(t:Nat):Inv X qv σ H { s with toks:=t }:=I.un (h':=s.heap) (t':=t) Un.refl I.hok
theorem Inv.kept{t':Nat}(I:Inv X qv σ H s)(k:∀b u,s.heap.get? b=some u->h'.get? b=some u):Inv X qv σ H { s with heap:=h',toks:=t' }:=I.un (Un.kept k) (I.hok.kept k)
theorem Inv.laid{a:Addr}{o:HO}{t':Nat}(I:Inv X qv σ H s)(k:∀b u,s.heap.get? b=some u->h'.get? b=some u)(hp:s.heap.objs.size<=a)(new:wu X.prog X.w (upd H a o) h' a o) :
  Inv X qv σ (upd H a o) { s with heap:=h',toks:=t' }:=I.un (Un.laid k hp (I.hok.fresh hp)) (I.hok.laid k hp new)
theorem Inv.write{x e:Addr}{o:HO}{t':Nat}(I:Inv X qv σ H s)(mu:Mut (H x))(he:e=x∨H e=some (.own x))(k:∀b u,b≠e->s.heap.get? b=some u->h'.get? b=some u)(heo:∃u,h'.get? e=some u)
  (new:wu X.prog X.w (upd H x o) h' x o):Inv X qv σ (upd H x o) { s with heap:=h',toks:=t' }:=I.un (Un.write mu he k heo) (I.hok.write mu he k heo new)
theorem Inv.pins_of{pins':List (Addr×Obj)}(I:Inv X qv σ H s)(h:∀p∈pins',s.heap.get? p.1=some p.2/\H p.1=none/\p.1≠X.env.locals/\p.1∉X.fs/\∀v,p.2.data≠.cell v):Inv X pins' σ H s :=
 ⟨I.ok,I.os,I.bare,I.base,I.loc,I.cell,I.free,I.freeC,fun p hp=>(List.mem_append.mp hp).elim (fun z=>I.pin p (List.mem_append_left _ z)) (h p),I.hok,I.len⟩
theorem am6{N:List Str}(hN:N.Nodup){i j:Nat}{x:Str}(a:N[i]? = some x)(b:N[j]? = some x):i=j:=by
 obtain⟨h1,e1⟩:=List.getElem?_eq_some_iff.mp a;obtain⟨h2,e2⟩:=List.getElem?_eq_some_iff.mp b;exact(List.getElem_inj hN).mp (e1.trans e2.symm)
theorem aey{M:Model}{A:Around}{E:Value->Shared->Prop}{i:Nat}{x:Str}{v:V}{u:Value}{Q:Unit->Shared->Prop}(I:Inv X qv σ H s)(hN:X.N.Nodup)(hi:X.N[i]? = some x)(hx:Loc X.env.scope x)(r:RelV v u)
  (h:∀s',Inv X qv (σ.set i (some v)) H s'->(∃a,Heap.SameBut a s.heap s'.heap/\(a=X.env.locals∨X.env.cells.lookup x=some a))->Q () s') (hf:X.fn x=true∨X.env.scope.names.lookup x=some .local:=by first | exact .inl rfl | exact .inr rfl | assumption):wpAny M A (storeName X.env x u) Q E s:=by
 obtain⟨m,hn,hl⟩:=id I.loc;have hcls:(X.env.scope.kind==.class||(X.env.scope.kind==.module&&X.env.locals != X.env.globals))=false:=by rw[I.ok.kind];rfl
 have hiσ:i < σ.length:=by rw[I.len];exact(List.getElem?_eq_some_iff.mp hi).1
 have cne:=I.cne;have tracked:∀{a:Addr} {h':Heap},(∃o,s.heap.get? a=some o/\H a=none)->Heap.SameBut a s.heap h'->HOk X.prog X.w H h':=fun{a h'} ha hs b ob e=>by
  obtain⟨_,_,hfree⟩:=ha;refine(I.hok b ob e).stay (fun c w' hc q=>(hs.2 c ?_).trans q) (fun _ q=>q) fun _ _ q=>q
  rintro rfl
  rcases hc with rfl | hc
  ·rw[hfree] at e;cases e
  ·rw[hfree] at hc;cases hc
 rcases hx with hk | hk
 ·refine wpAny_storeName_local hk hn (fun h' hn' hs =>?_) hcls
  obtain⟨oL,_,_,hoL,_⟩:=id hn;refine h _ ⟨I.ok,I.os,I.bare,⟨fun b o e n hb hx =>?_,fun b o e n hb hx =>?_,I.base.free,fun b o e hx =>?_,I.base.tups,I.base.frzs,I.base.tbls⟩,⟨_,hn',fun j y v' e1 e2 e3 =>?_⟩,fun y c e =>?_,I.free,I.freeC,fun p hp =>?_,tracked ⟨oL,hoL,I.free⟩ hs,by simpa using I.len⟩ ⟨_,hs,.inl rfl⟩
  ·exact(hs.2 b (Nat.ne_of_lt (Nat.lt_of_lt_of_le (Heap.lt_size e) I.ok.above))).trans (I.base.keep b o e n hb hx)
  ·obtain⟨sl,e1⟩:=I.base.slot b o e n hb hx;exact⟨sl,(hs.2 b (Nat.ne_of_lt (Nat.lt_of_lt_of_le (Heap.lt_size e) I.ok.above))).trans e1⟩
  ·obtain⟨o',e1⟩:=I.base.there b o e hx;exact⟨o',(hs.2 b (Nat.ne_of_lt (Nat.lt_of_lt_of_le (Heap.lt_size e) I.ok.above))).trans e1⟩
  ·by_cases hj:j=i
   ·subst hj;rw[hi] at e1;cases e1;rw[List.getElem?_set_self hiσ] at e2;cases e2;exact⟨u,r,.inl ⟨hk,by simp⟩⟩
   ·rw[List.getElem?_set_ne (Ne.symm hj)] at e2;obtain⟨u',r',q⟩:=hl j y v' e1 e2 e3;refine⟨u',r',?_⟩;rcases q with⟨k,e⟩ | ⟨k,c,e,z⟩
    ·refine .inl ⟨k,?_⟩;have:y≠x:=fun e=>hj (am6 hN e1 (e▸hi))
     simp[this,e]
    ·exact .inr ⟨k,c,e,z.sameBut hs (cne y c e)⟩
  ·obtain⟨w',z⟩:=I.cell y c e;exact⟨w',z.sameBut hs (cne y c e)⟩
  ·obtain⟨e,n,ne,nf,d⟩:=I.pin p hp;exact⟨(hs.2 p.1 ne).trans e,n,ne,nf,d⟩
 ·have hfn:X.fn x=true:=by
   rcases hf with z | z
   ·exact z
   ·rw[z] at hk;cases hk
  obtain⟨c,hc⟩:=I.ok.has x (.inl hk);obtain⟨w',z⟩:=I.cell x c hc;refine wpAny_storeName_cell I.ok.kind hk hc z (fun h' hc' hs =>?_)
  obtain⟨oc,hoc,hocd⟩:=id z;refine h { s with heap:=h' } ⟨I.ok,I.os,I.bare,⟨fun b o e n hb hx =>?_,fun b o e n hb hx =>?_,I.base.free,fun b o e hx =>?_,I.base.tups,I.base.frzs,I.base.tbls⟩,⟨m,hn.sameBut hs (Ne.symm (cne x c hc)),fun j y v' e1 e2 e3 =>?_⟩,fun y c' e =>?_,I.free,I.freeC,fun p hp =>?_,tracked ⟨oc,hoc,I.freeC x c hc⟩ hs,by simpa using I.len⟩ ⟨c,hs,.inr hc⟩
  ·exact(hs.2 b (Nat.ne_of_lt (Nat.lt_of_lt_of_le (Heap.lt_size e) (I.ok.cab x c hfn hc)))).trans (I.base.keep b o e n hb hx)
  ·obtain⟨sl,e1⟩:=I.base.slot b o e n hb hx;exact⟨sl,(hs.2 b (Nat.ne_of_lt (Nat.lt_of_lt_of_le (Heap.lt_size e) (I.ok.cab x c hfn hc)))).trans e1⟩
  ·obtain⟨o',e1⟩:=I.base.there b o e hx;exact⟨o',(hs.2 b (Nat.ne_of_lt (Nat.lt_of_lt_of_le (Heap.lt_size e) (I.ok.cab x c hfn hc)))).trans e1⟩
  ·by_cases hj:j=i
   ·subst hj;rw[hi] at e1;cases e1;rw[List.getElem?_set_self hiσ] at e2;cases e2;exact⟨u,r,.inr ⟨.inl hk,c,hc,hc'⟩⟩
   ·rw[List.getElem?_set_ne (Ne.symm hj)] at e2;obtain⟨u',r',q⟩:=hl j y v' e1 e2 e3;refine⟨u',r',?_⟩;rcases q with q | ⟨k,c',e,z'⟩
    ·exact .inl q
    ·refine .inr ⟨k,c',e,z'.sameBut hs ?_⟩
     rintro rfl
     exact hj (am6 hN e1 (I.ok.inj _ _ _ e hc▸hi))
  ·by_cases hcc:c'=c
   ·subst hcc;exact⟨_,hc'⟩
   ·obtain⟨w2,z2⟩:=I.cell y c' e;exact⟨w2,z2.sameBut hs hcc⟩
  ·obtain⟨e,n,ne,nf,d⟩:=I.pin p hp;refine⟨(hs.2 p.1 ?_).trans e,n,ne,nf,d⟩;intro q;rw[q,hoc] at e;have q':oc=p.2:=Option.some.inj e;exact d w' (by rw[<-q'];exact hocd)
theorem aho{M:Model}{A:Around}{E:Value->Shared->Prop}{i:Nat}{x:Str}{v:V}{u:Value}{Q:Unit->Shared->Prop}(I:Inv X qv σ H s)(hN:X.N.Nodup)(hi:X.N[i]? = some x)(hx:Loc X.env.scope x)(r:RelV v u)
  (h:∀s',Inv X qv (σ.set i (some v)) H s'->Q () s') (hf:X.fn x=true∨X.env.scope.names.lookup x=some .local:=by first | exact .inl rfl | exact .inr rfl | assumption):wpAny M A (storeName X.env x u) Q E s :=
 aey I hN hi hx r (fun s' I' _=>h s' I') hf
theorem Inv.call'{s':Shared}{ch:List Addr}(I:Inv X qv σ H s)(ho:s'.os=s.os)(u:Un (frs X.stack) ch H H' s.heap s'.heap)(hok:HOk X.prog X.w H' s'.heap)(hg:AllBare s'.gens)
  (hch:∀b∈ch,(b∈X.ex∨X.s₀.heap.objs.size<=b)/\b≠X.env.locals/\(∀x c,X.env.cells.lookup x=some c->c≠b)/\∀p∈X.pn++qv,p.1≠b):Inv X qv σ H' s':=by
 obtain⟨h',g',d',t',o'⟩:=s';have e:o'=s.os:=ho;subst e;exact I.call (g':=g') (t':=t') (d':=d') u hok hg hch
end
abbrev XK:=Value->Option Addr->Hp->Prop
abbrev St:=List (Option V)
abbrev VK:=V->Hp->Prop
abbrev TE:=St->Hp->VK->Prop
abbrev TT:=St->Hp->(Bool->Hp->Prop)->Prop
abbrev TA:=St->Hp->(List V->Hp->Prop)->Prop
structure Ends where
 nx:St->Hp->Prop
 rt:VK
 bk:St->Hp->Prop:=fun _ _=>False
 ct:St->Hp->Prop:=fun _ _=>False
abbrev TS:=Ends->St->Hp->Prop
def EP(X:Cx)(qv:List (Addr×Obj))(σ:St)(Q:VK)(u:Value)(s':Shared):Prop:=∃v H',Inv X qv σ H' s'/\RelV v u/\Q v H'
def TP(X:Cx)(qv:List (Addr×Obj))(σ:St)(Q:Bool->Hp->Prop)(b:Bool)(s':Shared):Prop:=∃H',Inv X qv σ H' s'/\Q b H'
def AP(X:Cx)(qv:List (Addr×Obj))(σ:St)(Q:List V->Hp->Prop)(us:List Value)(s':Shared):Prop:=∃vs H',Inv X qv σ H' s'/\Vals vs us/\Q vs H'
def SP(X:Cx)(qv:List (Addr×Obj))(D:Ends)(f:Flow)(s':Shared):Prop :=
 match f with
 | .next=>∃σ' H',Inv X qv σ' H' s'/\D.nx σ' H'
 | .brk=>∃σ' H',Inv X qv σ' H' s'/\D.bk σ' H'
 | .cont=>∃σ' H',Inv X qv σ' H' s'/\D.ct σ' H'
 | .ret u=>∃v σ' H',Inv X qv σ' H' s'/\RelV v u/\D.rt v H'
def PE(X:Cx)(e:Expr)(t:TE):Prop :=
 ∀(qv:List (Addr×Obj)) (s:Shared) (σ:St) (H:Hp) (Q:VK),Inv X qv σ H s->t σ H Q->wpAny (model X.prog X.w) X.A (eval e X.env) (EP X qv σ Q) X.xe s
def PT(X:Cx)(e:Expr)(t:TT):Prop :=
 ∀(qv:List (Addr×Obj)) (s:Shared) (σ:St) (H:Hp) (Q:Bool->Hp->Prop),Inv X qv σ H s->t σ H Q->wpAny (model X.prog X.w) X.A (isTrue e X.env (eval e X.env)) (TP X qv σ Q) X.xe s
def PW(X:Cx)(e:Expr)(t:TT):Prop :=
 ∀(whole:Sem Value) (qv:List (Addr×Obj)) (s:Shared) (σ:St) (H:Hp) (Q:Bool->Hp->Prop),Inv X qv σ H s->t σ H Q->wpAny (model X.prog X.w) X.A (isTrue e X.env whole) (TP X qv σ Q) X.xe s
theorem PW.pt{X:Cx}{e:Expr}{t:TT}(h:PW X e t):PT X e t:=h _
def PA(X:Cx)(es:List Expr)(t:TA):Prop :=
 ∀(pos:Pos) (qv:List (Addr×Obj)) (s:Shared) (σ:St) (H:Hp) (Q:List V->Hp->Prop),Inv X qv σ H s->t σ H Q->wpAny (model X.prog X.w) X.A (spliced (backTo pos (starEach es X.env))) (AP X qv σ Q) X.xe s
def PS(X:Cx)(st:Stmt)(t:TS):Prop :=
 ∀(qv:List (Addr×Obj)) (s:Shared) (σ:St) (H:Hp) (D:Ends),Inv X qv σ H s->t D σ H->wpAny (model X.prog X.w) X.A (exec st X.env) (SP X qv D) X.xe s
def PSs(X:Cx)(st:List Stmt)(t:TS):Prop :=
 ∀(qv:List (Addr×Obj)) (s:Shared) (σ:St) (H:Hp) (D:Ends),Inv X qv σ H s->t D σ H->wpAny (model X.prog X.w) X.A (execs st X.env) (SP X qv D) X.xe s
theorem thn{α:Type}{t:Sem α}{Q Q':α->Shared->Prop}{M:Model}{A:Around}{E:Value->Shared->Prop}{s:Shared}(h:wpAny M A t Q E s)(hQ:∀a s,Q a s->Q' a s):wpAny M A t Q' E s:=wpAny_mono h hQ fun _ _ x=>x
section
variable{X:Cx}
def tVar(i:Nat):TE:=fun σ H Q=>∃v,σ[i]? = some (some v)/\Q v H
def tC(v:V):TE:=fun _ H Q=>Q v H
theorem a1e{i:Nat}{x:Str}{pos:Pos}(hN:X.N[i]? = some x)(hv:Vis X.env.scope x)(hd:(x==("__debug__" : Str))=false:=by decide)(hcd:(x==("__classdict__" : Str))=false:=by decide):PE X (.Name x pos) (tVar i):=by
 intro qv s σ H Q I h;obtain⟨v,e,h⟩:=h;obtain⟨m,hn,hl⟩:=I.loc;obtain⟨u,r,l⟩:=hl i x v hN e hv;have fin:EP X qv σ Q u s:=⟨v,H,I,r,h⟩;rcases l with⟨hk,hm⟩ | ⟨hk,c,hc,hcell⟩
 ·exact wpAny_Name (wpAny_loadName_local I.ok.kind hk hn hm fin) hd
 ·rcases hk with hk | hk
  ·exact wpAny_Name (wpAny_loadName_cell I.ok.kind hk hc hcell fin) hd
  ·exact wpAny_Name (wpAny_loadName_free I.ok.kind hk hc hcell fin hcd) hd
theorem a1l{i j pos}:PE X (.Constant (.int i) j pos) (tC (.int i)):=fun _ _ _ H _ I h=>wpAny_Constant_int ⟨.int i,H,I.tok _,⟨_,rfl⟩,h⟩
theorem a6p{b j pos}:PE X (.Constant (.bool b) j pos) (tC (.bl b)):=fun _ _ _ H _ I h=>Constant_bool ⟨.bl b,H,I,rfl,h⟩
theorem a1i{j pos}:PE X (.Constant .none j pos) (tC .non):=fun _ _ _ H _ I h=>Constant_none ⟨.non,H,I,rfl,h⟩
def Gl(X:Cx)(x:Str):Prop:=X.env.kindOf x=some .globalImplicit
theorem ara{E:Value->Shared->Prop}{qv:List (Addr×Obj)}{s:Shared}{σ:St}{H:Hp}{x:Str}{u:Value}{pos:Pos}{Q:Value->Shared->Prop}(I:Inv X qv σ H s)(hg:Gl X x)(hm:X.mg x=some u)(h:Q u s)
  (hd:(x==("__debug__" : Str))=false:=by decide):wpAny (model X.prog X.w) X.A (eval (.Name x pos) X.env) Q E s :=
 Calls.Name_function_global I.ok.kind hg (Calls.loadGlobal_global (by rw[I.ok.glob];exact I.mod.glob.keeps I.bk) hm h) hd
theorem afm{E:Value->Shared->Prop}{qv:List (Addr×Obj)}{s:Shared}{σ:St}{H:Hp}{x:Str}{u:Value}{pos:Pos}{Q:Value->Shared->Prop}(I:Inv X qv σ H s)(hg:Gl X x)(hm:X.mg x=none)(hv:bootBuiltins x=some u)(h:Q u s)
  (hn:x ≠ "__name__" := by decide) (hd:(x==("__debug__" : Str))=false:=by decide):wpAny (model X.prog X.w) X.A (eval (.Name x pos) X.env) Q E s:=by
 obtain⟨mb,h1,h2⟩:=I.mod.blt;exact Calls.Name_function_global I.ok.kind hg (Calls.loadGlobal_builtin (by rw[I.ok.glob];exact I.mod.glob.keeps I.bk) hm (by rw[I.ok.blt];exact h1.keeps I.bk) ((h2 x hn).trans hv) h) hd
theorem ayo{x:Str}{v:V}{u:Value}{pos:Pos}(hg:Gl X x)(hm:X.mg x=none)(hv:bootBuiltins x=some u)(r:RelV v u)(hn:x ≠ "__name__" := by decide)(hd:(x==("__debug__" : Str))=false:=by decide):PE X (.Name x pos) (tC v) :=
 fun _ _ _ H _ I h=>afm I hg hm hv ⟨v,H,I,r,h⟩ hn hd
variable{a b:Expr}{ta tb:TE}{pos:Pos}
def PC(X:Cx)(op:CmpOp)(a b:Expr)(t:TE):Prop :=
 ∀(qv:List (Addr×Obj)) (s:Shared) (σ:St) (H:Hp) (Q:VK),Inv X qv σ H s->t σ H Q ->
  wpAny (model X.prog X.w) X.A (eval a X.env) (fun v s₁=>wpAny (model X.prog X.w) X.A (eval b X.env) (fun u s₂=>wpAny (model X.prog X.w) X.A (compareOp op v u) (EP X qv σ Q) X.xe s₂) X.xe s₁) X.xe s
theorem au4(b:Expr){op:CmpOp}(h:op≠.In)(h2:op≠.NotIn):behindInMarks op b=false:=by
 have e1:(op==CmpOp.In)=false:=by cases op <;> first | rfl | exact absurd rfl h
 have e2:(op==CmpOp.NotIn)=false:=by cases op <;> first | rfl | exact absurd rfl h2
 cases b <;> simp[behindInMarks,e1,e2]
def tIsN(ta:TE):TE:=fun σ H Q=>ta σ H fun x H1=>Q (.bl (decide (x=.non))) H1
theorem RelV.none_iff{x:V}{v:Value}(r:RelV x v):(v==Value.none)=decide (x=.non):=by
 cases x with
 | non=>cases r;rfl
 | bl _=>cases r;rfl
 | int _=>obtain⟨t,rfl⟩:=r;rfl
 | str _=>obtain⟨t,rfl⟩:=r;rfl
 | byt _=>obtain⟨t,rfl⟩:=r;rfl
 | flt _=>obtain⟨t,rfl⟩:=r;rfl
 | ref _=>cases r;rfl
 | ty _=>cases r;rfl
theorem a1q{j pos'}(ha:PE X a ta):PC X .Is a (.Constant .none j pos') (tIsN ta):=by
 intro qv s σ H Q I h;refine thn (ha qv s σ H _ I h) fun v s1 ⟨x,H1,I1,r1,q1⟩ =>?_
 exact Constant_none (is_none_gen ⟨.bl _,H1,I1,by rw[r1.none_iff];rfl,q1⟩)
def tB(t:TE):TT:=fun σ H Q=>t σ H fun x H1=>∃c,x=.bl c/\Q c H1
theorem a09{op:CmpOp}{t:TE}(h:PC X op a b t)(h1:behindInMarks op b=false:=by first | exact au4 _ (by decide) (by decide) | rfl):PT X (.Compare a [op] [b] pos) (tB t):=by
 intro qv s σ H Q I hw;refine wpAny_isTrue_Compare1 (thn (h qv s σ H _ I hw) fun v s1 h1=>thn h1 fun u s2 h2=>thn h2 fun c s3 ⟨x,H1,I1,r1,q1⟩ =>?_) h1
 obtain⟨d,rfl,q⟩:=q1;cases r1;exact wpAny_truthy_bool ⟨H1,I1,q⟩
theorem a07{e:Expr}{t:TE}(h:PE X e t)(he:∀whole,isTrue e X.env whole=(do let v <-whole;standAt e.pos;holding [v] (truthy v)):=by intro _;rfl):PT X e (tB t):=by
 intro qv s σ H Q I hw;refine isTrue_plain (thn (h qv s σ H _ I hw) fun v s1 ⟨x,H1,I1,r1,q1⟩ =>?_) (he _)
 obtain⟨d,rfl,q⟩:=q1;cases r1;exact wpAny_truthy_bool ⟨H1,I1,q⟩
variable{tA tB':TT}{rest:List Expr}
def tAnd(t u:TT):TT:=fun σ H Q=>t σ H fun c H1=>if c=true then u σ H1 Q else Q false H1
def tOr(t u:TT):TT:=fun σ H Q=>t σ H fun c H1=>if c=true then Q true H1 else u σ H1 Q
def tNot(t:TT):TT:=fun σ H Q=>t σ H fun c H1=>Q (!c) H1
theorem ax9(ha:PT X a tA):PW X (.BoolOp .And [a] pos) tA:=by
 intro wh qv s σ H Q I h;refine isTrue_and (thn (ha qv s σ H Q I h) fun c s1 e =>?_)
 cases c with
 | true=>exact isTrue_and_nil e
 | false=>exact e
theorem a03(ha:PT X a tA):PW X (.BoolOp .Or [a] pos) tA:=by
 intro wh qv s σ H Q I h;refine isTrue_or (thn (ha qv s σ H Q I h) fun c s1 e =>?_)
 cases c with
 | false=>exact isTrue_or_nil e
 | true=>exact e
theorem a04(ha:PT X a tA)(hb:PW X (.BoolOp .And (b::rest) pos) tB'):PW X (.BoolOp .And (a::b::rest) pos) (tAnd tA tB'):=by
 intro wh qv s σ H Q I h;refine isTrue_and (thn (ha qv s σ H _ I h) fun c s1 ⟨H1,I1,q1⟩ =>?_)
 cases c with
 | true=>exact hb wh qv s1 σ H1 Q I1 q1
 | false=>exact⟨H1,I1,q1⟩
theorem a6i(ha:PT X a tA)(hb:PW X (.BoolOp .Or (b::rest) pos) tB'):PW X (.BoolOp .Or (a::b::rest) pos) (tOr tA tB'):=by
 intro wh qv s σ H Q I h;refine isTrue_or (thn (ha qv s σ H _ I h) fun c s1 ⟨H1,I1,q1⟩ =>?_)
 cases c with
 | true=>exact⟨H1,I1,q1⟩
 | false=>exact hb wh qv s1 σ H1 Q I1 q1
theorem a08(ha:PT X a tA):PT X (.UnaryOp .Not a pos) (tNot tA):=by
 intro qv s σ H Q I h;exact isTrue_not (ha qv s σ H (fun c H1=>Q (!c) H1) I h)
def a6b(ta tb:TE):TE:=fun σ H Q=>ta σ H fun x H1=>∃c,x=.bl c/\if c=true then tb σ H1 Q else Q (.bl false) H1
def a5u(ta:TE):TE:=fun σ H Q=>ta σ H fun x H1=>∃c,x=.bl c/\Q (.bl (!c)) H1
theorem a1g{op}{t:TE}(h:PE X a t):PE X (.BoolOp op [a] pos) t:=fun qv s σ H Q I hw=>BoolOp_one (h qv s σ H Q I hw)
theorem a1p(ha:PE X a ta)(hb:PE X (.BoolOp .And (b::rest) pos) tb):PE X (.BoolOp .And (a::b::rest) pos) (a6b ta tb):=by
 intro qv s σ H Q I h;refine BoolOp_and (thn (ha qv s σ H _ I h) fun v s1 ⟨x,H1,I1,r1,q1⟩ =>?_)
 obtain⟨c,rfl,q1⟩:=q1;cases r1;refine wpAny_truthy_bool ?_;cases c with
 | true=>exact hb qv s1 σ H1 Q I1 q1
 | false=>exact⟨.bl false,H1,I1,rfl,q1⟩
theorem a1h(ha:PE X a ta):PE X (.UnaryOp .Not a pos) (a5u ta):=by
 intro qv s σ H Q I h;refine UnaryOp_ (thn (ha qv s σ H _ I h) fun v s1 ⟨x,H1,I1,r1,q1⟩ =>?_)
 obtain⟨c,rfl,q1⟩:=q1;cases r1;exact not_of (wpAny_truthy_bool ⟨.bl (!c),H1,I1,rfl,q1⟩)
def tIf(t:TT)(ta tb:TE):TE:=fun σ H Q=>t σ H fun c H1=>if c=true then ta σ H1 Q else tb σ H1 Q
theorem auo{c:Expr}(hc:PT X c tA)(ha:PE X a ta)(hb:PE X b tb):PE X (.IfExp c a b pos) (tIf tA ta tb):=by
 intro qv s σ H Q I h;refine wpAny_IfExp (thn (hc qv s σ H _ I h) fun d s1 ⟨H1,I1,q1⟩ =>?_)
 cases d with
 | true=>exact ha qv s1 σ H1 Q I1 q1
 | false=>exact hb qv s1 σ H1 Q I1 q1
end
def SqL(K:Fg9)(H:Hp)(a:Addr)(xs:List V):Prop :=
 Rd H a (.lst xs) ∨
  ∃(o:Obj) (its:Array Value) (n:Nat),K.lookup a=some o/\o.cls=.type "list" /\ o.dict=none/\o.data=.seq its n/\its.size<=sizeLine/\Vals xs its.toList
def SqT(K:Fg9)(H:Hp)(a:Addr)(xs:List V):Prop :=
 Rd H a (.tup xs) ∨
  ∃(o:Obj) (its:Array Value) (n:Nat),K.lookup a=some o/\o.cls=.type "tuple" /\ o.data=.seq its n/\its.size<=sizeLine/\Vals xs its.toList
def absV:Value->Option V
 | .none=>some .non
 | .bool b=>some (.bl b)
 | .int i _=>some (.int i)
 | .str x _=>some (.str x)
 | .bytes b _=>some (.byt b)
 | .float b _=>some (.flt b)
 | .ref a=>some (.ref a)
 | .type n=>some (.ty n)
 | _=>none
theorem RelV.abs{x:V}{u:Value}(r:RelV x u):absV u=some x:=by
 cases x with
 | non=>cases r;rfl
 | bl _=>cases r;rfl
 | int _=>obtain⟨t,rfl⟩:=r;rfl
 | str _=>obtain⟨t,rfl⟩:=r;rfl
 | byt _=>obtain⟨t,rfl⟩:=r;rfl
 | flt _=>obtain⟨t,rfl⟩:=r;rfl
 | ref _=>cases r;rfl
 | ty _=>cases r;rfl
theorem RelV.inj{x y:V}{u:Value}(r:RelV x u)(q:RelV y u):x=y:=Option.some.inj (r.abs.symm.trans q.abs)
theorem Vals.inj:∀{xs ys:List V} {us:List Value},Vals xs us->Vals ys us->xs=ys
 | _,_,_,.nil,.nil=>rfl
 | _,_,_,.cons r t,.cons r' t'=>by rw[r.inj r',Vals.inj t t']
section
variable{X:Cx}{qv:List (Addr×Obj)}{σ:St}{H:Hp}{s:Shared}{a:Addr}{xs ys:List V}
theorem SqL.of{K:Fg9}(h:H a=some (.lst xs)):SqL K H a xs:=.inl (.inl h)
theorem SqT.of{K:Fg9}(h:H a=some (.tup xs)):SqT K H a xs:=.inl (.inl h)
theorem Inv.list(I:Inv X qv σ H s)(h:SqL X.K H a xs):∃its:List Value,Vals xs its/\PlainL s.heap a its.toArray/\xs.length<=sizeLine:=by
 rcases h with h | ⟨o,its,n,hk,hc,hd,hs,hz,r⟩
 ·obtain⟨z,its,n,r,e⟩:=h.ok I.hok;exact⟨its,r,⟨_,n,e,rfl,rfl,rfl⟩,z⟩
 ·refine⟨its.toList,r,⟨o,n,I.kIn a o hk,hc,hd,by simpa using hs⟩,?_⟩
  have e:=r.length;simp only[Array.length_toList] at e;omega
theorem Inv.tuple(I:Inv X qv σ H s)(h:SqT X.K H a xs):∃its:List Value,Vals xs its/\IsTup s.heap a its.toArray/\xs.length<=sizeLine:=by
 rcases h with h | ⟨o,its,n,hk,hc,hs,hz,r⟩
 ·obtain⟨z,its,r,p⟩:=h.ok I.hok;exact⟨its,r,p.tup,z⟩
 ·refine⟨its.toList,r,⟨o,I.kIn a o hk,hc,n,by simpa using hs⟩,?_⟩
  have e:=r.length;simp only[Array.length_toList] at e;omega
theorem Inv.list_inj(I:Inv X qv σ H s)(h:SqL X.K H a xs)(h':SqL X.K H a ys):xs=ys:=by
 obtain⟨its,r,⟨o,n,e,_,_,d⟩,_⟩:=I.list h;obtain⟨its',r',⟨o',n',e',_,_,d'⟩,_⟩:=I.list h';rw[e] at e';cases e';rw[d] at d'
 injection d' with d1 _
 have:its=its':=by simpa using congrArg Array.toList d1
 subst this;exact r.inj r'
theorem Inv.tuple_inj(I:Inv X qv σ H s)(h:SqT X.K H a xs)(h':SqT X.K H a ys):xs=ys:=by
 obtain⟨its,r,⟨o,e,_,n,d⟩,_⟩:=I.tuple h;obtain⟨its',r',⟨o',e',_,n',d'⟩,_⟩:=I.tuple h';rw[e] at e';cases e';rw[d] at d'
 injection d' with d1 _
 have:its=its':=by simpa using congrArg Array.toList d1
 subst this;exact r.inj r'
end
abbrev Cx.wish(X:Cx)(E:Value->Shared->Prop):Cx:={ X with xe:=E }
abbrev Cx.nox(X:Cx):Cx:=X.wish fun _ _=>False
theorem Cx.Ok.wish{X:Cx}(ok:X.Ok)(E:Value->Shared->Prop):(X.wish E).Ok :=
 ⟨ok.mod,ok.kind,ok.glob,ok.blt,ok.above,ok.inj,ok.has,ok.cab,ok.hd,ok.frames,ok.stk,ok.exf,ok.bs,ok.bsz,ok.noex,ok.exfs,ok.funs,ok.frf⟩
theorem Cx.Ok.unwish{X:Cx}{E:Value->Shared->Prop}(ok:(X.wish E).Ok):X.Ok :=
 ⟨ok.mod,ok.kind,ok.glob,ok.blt,ok.above,ok.inj,ok.has,ok.cab,ok.hd,ok.frames,ok.stk,ok.exf,ok.bs,ok.bsz,ok.noex,ok.exfs,ok.funs,ok.frf⟩
section
variable{X:Cx}{qv:List (Addr×Obj)}{σ:St}{H:Hp}{s:Shared}{E:Value->Shared->Prop}
theorem Inv.wish(I:Inv X qv σ H s)(E:Value->Shared->Prop):Inv (X.wish E) qv σ H s:=⟨I.ok.wish E,I.os,I.bare,I.base,I.loc,I.cell,I.free,I.freeC,I.pin,I.hok,I.len⟩
theorem Inv.unwish(I:Inv (X.wish E) qv σ H s):Inv X qv σ H s:=⟨I.ok.unwish,I.os,I.bare,I.base,I.loc,I.cell,I.free,I.freeC,I.pin,I.hok,I.len⟩
theorem SP.unwish{D:Ends}{f:Flow}{s':Shared}(h:SP (X.wish E) qv D f s'):SP X qv D f s':=by
 cases f with
 | next=>obtain⟨σ',H',I,q⟩:=h;exact⟨σ',H',I.unwish,q⟩
 | brk=>obtain⟨σ',H',I,q⟩:=h;exact⟨σ',H',I.unwish,q⟩
 | cont=>obtain⟨σ',H',I,q⟩:=h;exact⟨σ',H',I.unwish,q⟩
 | ret u=>obtain⟨v,σ',H',I,r,q⟩:=h;exact⟨v,σ',H',I.unwish,r,q⟩
theorem PSs.nox{st:List Stmt}{t:TS}(h:PSs X.nox st t):PSs X st t:=fun qv s σ H D I hw =>
 wpAny_mono (h qv s σ H D (I.wish _) hw) (fun _ _ q=>q.unwish) fun _ _ z=>False.elim z
end
section
variable{X:Cx}{st:Stmt}{rest:List Stmt}{t u:TS}{e:Expr}{te:TE}{pos:Pos}
def a5v:TS:=fun D σ H=>D.nx σ H
def tSeq(t u:TS):TS:=fun D σ H=>t { D with nx:=u D } σ H
theorem aql:PSs X [] a5v:=fun _ _ σ H _ I h=>wpAny_execs_nil ⟨σ,H,I,h⟩
theorem lr(h1:PS X st t)(h2:PSs X rest u):PSs X (st::rest) (tSeq t u):=by
 intro qv s σ H D I h;refine wpAny_execs_cons (thn (h1 qv s σ H { D with nx:=u D } I h) fun f s1 q =>?_)
 cases f with
 | next =>
  obtain⟨σ',H',I',q⟩:=q;exact h2 qv s1 σ' H' D I' q
 | ret v=>exact q
 | brk=>exact q
 | cont=>exact q
theorem ah2(h1:PS X st t):PSs X [st] t:=by
 intro qv s σ H D I h;refine wpAny_execs_cons (thn (h1 qv s σ H D I h) fun f s1 q =>?_)
 cases f with
 | next=>exact wpAny_execs_nil q
 | ret v=>exact q
 | brk=>exact q
 | cont=>exact q
theorem Inv.quiet{qv:List (Addr×Obj)}{σ:St}{H:Hp}{s:Shared}(I:Inv X qv σ H s):interactive X.env=false:=by simp[interactive,I.ok.kind]
def a5y(te:TE):TS:=fun D σ H=>te σ H fun _ H1=>D.nx σ H1
theorem aln(he:PE X e te)(hs:swapsWith e none pos.line X.env=pure false:=by rfl):PS X (.Expr e pos) (a5y te):=by
 intro qv s σ H D I h;exact wpAny_Expr_any (thn (he qv s σ H _ I h) fun v s1 ⟨x,H1,I1,r1,q1⟩=>⟨σ,H1,I1,q1⟩) I.quiet hs
def tRet(te:TE):TS:=fun D σ H=>te σ H D.rt
theorem awt(he:PE X e te):PS X (.Return (some e) pos) (tRet te):=by
 intro qv s σ H D I h;exact wpAny_Return_some (thn (he qv s σ H _ I h) fun v s1 ⟨x,H1,I1,r1,q1⟩=>⟨x,σ,H1,I1,r1,q1⟩)
def tIfS(c:TT)(t u:TS):TS:=fun D σ H=>c σ H fun b H1=>if b=true then t D σ H1 else u D σ H1
theorem a6l{c:Expr}{a b:List Stmt}{tc:TT}(hc:PT X c tc)(ha:PSs X a t)(hb:PSs X b u):PS X (.If c a b pos) (tIfS tc t u):=by
 intro qv s σ H D I h;refine wpAny_If (thn (hc qv s σ H _ I h) fun d s1 ⟨H1,I1,q1⟩ =>?_)
 cases d with
 | true=>exact ha qv s1 σ H1 D I1 q1
 | false=>exact hb qv s1 σ H1 D I1 q1
def a0o:TS:=fun _ _ _=>False
theorem auj:PS X st a0o:=fun _ _ _ _ _ _ h=>h.elim
end
abbrev TG:=V->St->Hp->(St->Hp->Prop)->Prop
abbrev TGs:=List V->St->Hp->(St->Hp->Prop)->Prop
def PG(X:Cx)(target:Expr)(t:TG):Prop :=
 ∀(qv:List (Addr×Obj)) (s:Shared) (σ:St) (H:Hp) (v:V) (u:Value) (Q:St->Hp->Prop),Inv X qv σ H s->RelV v u->t v σ H Q ->
  wpAny (model X.prog X.w) X.A (assign target X.env u) (fun _ s'=>∃σ' H',Inv X qv σ' H' s'/\Q σ' H') X.xe s
def PGs(X:Cx)(ts:List Expr)(t:TGs):Prop :=
 ∀(qv:List (Addr×Obj)) (s:Shared) (σ:St) (H:Hp) (vs:List V) (us:List Value) (Q:St->Hp->Prop),Inv X qv σ H s->Vals vs us->t vs σ H Q ->
  wpAny (model X.prog X.w) X.A (assignInOrder ((assignEach ts X.env).map (·.2)) us) (fun _ s'=>∃σ' H',Inv X qv σ' H' s'/\Q σ' H') X.xe s
abbrev TSet:=V->V->V->Hp->(Hp->Prop)->Prop
def PSet(X:Cx)(t:TSet):Prop :=
 ∀(qv:List (Addr×Obj)) (s:Shared) (σ:St) (H:Hp) (o i v:V) (ov iv u:Value) (Q:Hp->Prop),Inv X qv σ H s->RelV o ov->RelV i iv->RelV v u->t o i v H Q ->
  wpAny (model X.prog X.w) X.A (setItem ov iv u) (fun _ s'=>∃H',Inv X qv σ H' s'/\Q H') X.xe s
abbrev TIp:=V->V->Hp->VK->Prop
def PIp(X:Cx)(op:Operator)(t:TIp):Prop :=
 ∀(qv:List (Addr×Obj)) (s:Shared) (σ:St) (H:Hp) (x y:V) (v u:Value) (Q:VK),Inv X qv σ H s->RelV x v->RelV y u->t x y H Q ->
  wpAny (model X.prog X.w) X.A (inplaceOp op v u) (EP X qv σ Q) X.xe s
section
variable{X:Cx}{pos:Pos}
def avt(i:Nat):TG:=fun v σ H Q=>Q (σ.set i (some v)) H
theorem alp{i:Nat}{x:Str}(hN:X.N.Nodup)(hi:X.N[i]? = some x)(hx:Loc X.env.scope x)(hf:X.fn x=true∨X.env.scope.names.lookup x=some .local:=by first | exact .inl rfl | exact .inr rfl | assumption):PG X (.Name x pos) (avt i):=by
 intro qv s σ H v u Q I r h;exact wpAny_assign_Name (aho I hN hi hx r (fun s' I'=>⟨_,H,I',h⟩) hf)
def gNil:TGs:=fun vs σ H Q=>vs=[]/\Q σ H
def a7w(t:TG)(u:TGs):TGs:=fun vs σ H Q=>∃v r,vs=v::r/\t v σ H fun σ' H'=>u r σ' H' Q
theorem aqu:PGs X [] gNil:=by
 intro qv s σ H vs us Q I r h;obtain⟨e,h⟩:=h;subst e;cases r;exact assignInOrder_nil ⟨σ,H,I,h⟩
theorem ah5{e:Expr}{es:List Expr}{t:TG}{u:TGs}(h1:PG X e t)(h2:PGs X es u)
  (hs:(assignEach (e::es) X.env).map (·.2)=assign e X.env::(assignEach es X.env).map (·.2):=by rfl):PGs X (e::es) (a7w t u):=by
 intro qv s σ H vs us Q I r h;obtain⟨v,vr,e1,h⟩:=h;subst e1;cases r with
 | cons r rr =>
  rw[hs];refine assignInOrder_cons (thn (h1 qv s σ H _ _ _ I r h) fun _ s1 ⟨σ1,H1,I1,q1⟩ =>?_)
  exact h2 qv s1 σ1 H1 _ _ Q I1 rr q1
def gTup(K:Fg9)(n:Nat)(t:TGs):TG:=fun v σ H Q=>∃a xs,v=.ref a/\SqT K H a xs/\xs.length=n/\t xs σ H Q
theorem aww{es:List Expr}{k:Nat}{t:TGs}{n:Nat}(hc:X.calm=true)(h:PGs X es t)
  (hn:(assignEach es X.env).length=n:=by rfl) (hst:(assignEach es X.env).findIdx? (·.1)=none:=by rfl):PG X (.Tuple es k pos) (gTup X.K n t):=by
 intro qv s σ H v u Q I r hw;obtain⟨a,xs,e1,hq,hl,hw⟩:=hw;subst e1;cases r;obtain⟨its,rv,ht,hz⟩:=I.tuple hq;refine assign_Tuple_tuple (I.ok.hd hc) ht (by simp[hn,<-hl,rv.length]) hst fun h' hx =>?_
 have I1:Inv X qv σ H { s with heap:=h' }:=I.kept (t':=s.toks) fun b o e=>hx b o (Nat.ne_of_lt (Heap.lt_size e)) e
 exact h qv _ σ H xs _ Q I1 (by simpa using rv) hw
def gSub(to ti:TE)(t:TSet):TG:=fun v σ H Q=>to σ H fun o H1=>ti σ H1 fun i H2=>t o i v H2 fun H3=>Q σ H3
theorem awx{o i:Expr}{to ti:TE}{t:TSet}(ho:PE X o to)(hi:PE X i ti)(hs:PSet X t)
  (ha:∀v,assign (.Subscript o i pos) X.env v=(do
   let ov <-holding [v] (eval o X.env)
   let iv <-holding [v,ov] (eval i X.env)
   standAt pos
   holding [v,ov,iv] (setItem ov iv v)
   release [v,ov,iv] []):=by intro _;rfl):PG X (.Subscript o i pos) (gSub to ti t):=by
 intro qv s σ H v u Q I r h;rw[ha];refine wpAny_bind (wpAny_holding (thn (ho qv s σ H _ I h) fun ov s1 ⟨x,H1,I1,r1,q1⟩ =>?_))
 refine wpAny_bind (wpAny_holding (thn (hi qv s1 σ H1 _ I1 q1) fun iv s2 ⟨y,H2,I2,r2,q2⟩ =>?_))
 refine wpAny_bind (wpAny_standAt (wpAny_bind (wpAny_holding (thn (hs qv s2 σ H2 x y v ov iv u _ I2 r1 r2 r q2) fun _ s3 ⟨H3,I3,q3⟩ =>?_))))
 exact wpAny_release ⟨σ,H3,I3,q3⟩
def tAsg(te:TE)(g:TG):TS:=fun D σ H=>te σ H fun x H1=>g x σ H1 D.nx
theorem am0{tg e:Expr}{te:TE}{g:TG}(he:PE X e te)(hg:PG X tg g)(hs:swapsWithSole [tg] e pos.line X.env=pure false:=by rfl)(hw:swappedStores [tg] e X.env=pure none:=by rfl)
  (h1:(assignEach [tg] X.env).map (·.2)=[assign tg X.env]:=by rfl):PS X (.Assign [tg] e pos) (tAsg te g):=by
 intro qv s σ H D I h;refine wpAny_Assign_stores (thn (he qv s σ H _ I h) fun v s1 ⟨x,H1,I1,r1,q1⟩ =>?_) hs hw
 rw[h1];exact thn (hg qv s1 σ H1 x v _ I1 r1 q1) fun _ s2 q=>q
theorem ag0{i:Nat}{x:Str}{e:Expr}{te:TE}{pos':Pos}(hN:X.N.Nodup)(hi:X.N[i]? = some x)(hx:Loc X.env.scope x)(he:PE X e te)(hs:swapsWith e (some (.Name x pos')) pos.line X.env=pure false:=by rfl)(hf:X.fn x=true∨X.env.scope.names.lookup x=some .local:=by first | exact .inl rfl | exact .inr rfl | assumption) :
  PS X (.Assign [.Name x pos'] e pos) (tAsg te (avt i)):=by
 intro qv s σ H D I h;refine wpAny_Assign_Name (thn (he qv s σ H _ I h) fun v s1 ⟨y,H1,I1,r1,q1⟩ =>?_) hs
 exact aho I1 hN hi hx r1 (fun s2 I2=>⟨_,H1,I2,q1⟩) hf
def tAug(i:Nat)(te:TE)(ti:TIp):TS:=fun D σ H=>∃x,σ[i]? = some (some x)/\te σ H fun y H1=>ti x y H1 fun z H2=>D.nx (σ.set i (some z)) H2
theorem a1b{i:Nat}{x:Str}{e:Expr}{te:TE}{op:Operator}{ti:TIp}{pos':Pos}(hN:X.N.Nodup)(hi:X.N[i]? = some x)(hx:Loc X.env.scope x)(he:PE X e te)(ho:PIp X op ti)(hf:X.fn x=true∨X.env.scope.names.lookup x=some .local:=by first | exact .inl rfl | exact .inr rfl | assumption) :
  PS X (.AugAssign (.Name x pos') op e pos) (tAug i te ti):=by
 intro qv s σ H D I h;obtain⟨v,e1,h⟩:=h;obtain⟨m,hn,hl⟩:=I.loc;have vis:Vis X.env.scope x:=by rcases hx with k | k;exact .inl k;exact .inr (.inl k)
 obtain⟨u,r,l⟩:=hl i x v hi e1 vis;refine wpAny_AugAssign_Name ?_;have go:wpAny (model X.prog X.w) X.A (eval e X.env) (fun w s₂=>wpAny (model X.prog X.w) X.A (inplaceOp op u w) (fun r s₃=>wpAny (model X.prog X.w) X.A (storeName X.env x r) (fun _=>SP X qv D .next) X.xe s₃) X.xe s₂) X.xe s:=by
  refine thn (he qv s σ H _ I h) fun w s1 ⟨y,H1,I1,r1,q1⟩ =>?_
  refine thn (ho qv s1 σ H1 v y u w _ I1 r r1 q1) fun z s2 ⟨zv,H2,I2,r2,q2⟩ =>?_
  exact aho I2 hN hi hx r2 (fun s3 I3=>⟨_,H2,I3,q2⟩) hf
 rcases l with⟨hk,hm⟩ | ⟨hk,c,hc,hcell⟩
 ·exact wpAny_loadName_local I.ok.kind hk hn hm go
 ·rcases hk with hk | hk
  ·exact wpAny_loadName_cell I.ok.kind hk hc hcell go
  ·rcases hx with k | k
   ·have:X.env.scope.names.lookup x=some .free:=hk;rw[k] at this;cases this
   ·have:X.env.scope.names.lookup x=some .free:=hk;rw[k] at this;cases this
def a6a(to ti te:TE)(tget:V->V->Hp->VK->Prop)(tip:TIp)(tset:TSet):TS:=fun D σ H=>to σ H fun o H1=>ti σ H1 fun i H2=>tget o i H2 fun x H3=>te σ H3 fun y H4=>tip x y H4 fun z H5=>tset o i z H5 fun H6=>D.nx σ H6
def PGet(X:Cx)(t:V->V->Hp->VK->Prop):Prop :=
 ∀(qv:List (Addr×Obj)) (s:Shared) (σ:St) (H:Hp) (o i:V) (ov iv:Value) (Q:VK),Inv X qv σ H s->RelV o ov->RelV i iv->t o i H Q ->
  wpAny (model X.prog X.w) X.A (getItem ov iv) (EP X qv σ Q) X.xe s
theorem ayb{o i e:Expr}{to ti te:TE}{tget:V->V->Hp->VK->Prop}{tip:TIp}{tset:TSet}{op:Operator}{tpos:Pos}(ho:PE X o to)(hi:PE X i ti)(hg:PGet X tget)(he:PE X e te)(hp:PIp X op tip)(hs:PSet X tset)
  (ha:∀ov iv new,augStore i ov iv new=(do holding [new,ov,iv] (setItem ov iv new);release [new,ov,iv] [];pure .next):=by intros;rfl):PS X (.AugAssign (.Subscript o i tpos) op e pos) (a6a to ti te tget tip tset):=by
 intro qv s σ H D I h;refine wpAny_AugAssign_SubscriptAny (thn (ho qv s σ H _ I h) fun ov s1 ⟨x1,H1,I1,r1,q1⟩ =>?_) ha
 refine thn (hi qv s1 σ H1 _ I1 q1) fun iv s2 ⟨x2,H2,I2,r2,q2⟩ =>?_
 refine thn (hg qv s2 σ H2 x1 x2 ov iv _ I2 r1 r2 q2) fun old s3 ⟨x3,H3,I3,r3,q3⟩ =>?_
 refine thn (he qv s3 σ H3 _ I3 q3) fun v s4 ⟨x4,H4,I4,r4,q4⟩ =>?_
 refine thn (hp qv s4 σ H4 x3 x4 old v _ I4 r3 r4 q4) fun new s5 ⟨x5,H5,I5,r5,q5⟩ =>?_
 exact thn (hs qv s5 σ H5 x1 x2 x5 ov iv new _ I5 r1 r2 r5 q5) fun _ s6 ⟨H6,I6,q6⟩=>⟨σ,H6,I6,q6⟩
def ipI(f:Int->Int->Int):TIp:=fun x y H Q=>∃i j,x=.int i/\y=.int j/\Q (.int (f i j)) H
theorem aw8:PIp X .Add (ipI fun i j=>i+j):=by
 intro qv s σ H x y v u Q I r1 r2 h;obtain⟨i,j,e1,e2,q⟩:=h;subst e1;subst e2;obtain⟨t,rfl⟩:=r1;obtain⟨t',rfl⟩:=r2;exact iadd_int ⟨.int _,H,I.tok _,⟨_,rfl⟩,q⟩
end
section
variable{X:Cx}{pos:Pos}
def a0n(c:TT)(tb:TS):TS:=fun D σ H=>∃W:Nat->St->Hp->Prop,(∃m,W m σ H)/\∀m σ H,W m σ H ->
 c σ H fun b H1=>if b=true then ∃N:St->Hp->Prop,(∀σ' H',N σ' H'->∃m',m' < m/\W m' σ' H')/\tb { D with nx:=N,ct:=N,bk:=D.nx } σ H1 else D.nx σ H1
theorem ah3{c:Expr}{body:List Stmt}{tc:TT}{tb:TS}(hp:PassesOwn (model X.prog X.w) X.A X.env X.xe)(hc:PT X c tc)(hb:PSs X body tb):PS X (.While c body [] pos) (a0n tc tb):=by
 intro qv s σ H D I h;obtain⟨W,⟨m0,w0⟩,turn⟩:=h;refine wpAny_While (codeAny_whileLoop (fun n s'=>∃σ' H',Inv X qv σ' H' s'/\W n σ' H') ?_ m0 ⟨σ,H,I,w0⟩)
 rintro n s1 ⟨σ1,H1,I1,w1⟩
 refine wpAny_passesOwn hp (thn (hc qv s1 σ1 H1 _ I1 (turn n σ1 H1 w1)) fun b s2 ⟨H2,I2,q2⟩ =>?_)
 cases b with
 | true =>
  obtain⟨N,hN,q2⟩:=q2;rw[if_pos rfl];refine wpAny_passesOwn hp (thn (hb qv s2 σ1 H2 _ I2 q2) fun f s3 q3 =>?_)
  cases f with
  | next =>
   obtain⟨σ3,H3,I3,n3⟩:=q3;obtain⟨m',hm,w3⟩:=hN σ3 H3 n3;exact⟨m',hm,σ3,H3,I3,w3⟩
  | cont =>
   obtain⟨σ3,H3,I3,n3⟩:=q3;obtain⟨m',hm,w3⟩:=hN σ3 H3 n3;exact⟨m',hm,σ3,H3,I3,w3⟩
  | brk=>exact q3
  | ret v=>exact q3
 | false =>
  rw[if_neg Bool.false_ne_true];exact wpAny_execs_nil ⟨σ1,H2,I2,q2⟩
end
structure It where
 go:Nat->Hp->Prop
 yld:Nat->Hp->V->Hp->Prop
 stop:Nat->Hp->Prop
def FpOk(X:Cx)(qv:List (Addr×Obj))(H:Hp)(b:Addr):Prop :=
 H b=none/\b≠X.env.locals/\b∉X.fs/\(b∈X.ex∨X.s₀.heap.objs.size<=b)/\(∀x c,X.env.cells.lookup x=some c->c≠b)/\∀p∈X.pn++qv,p.1≠b
theorem Inv.fpOk{X:Cx}{qv:List (Addr×Obj)}{σ:St}{H H':Hp}{s:Shared}{b:Addr}(I:Inv X qv σ H s)(hb:s.heap.objs.size<=b)(hn:H' b=none):FpOk X qv H' b:=by
 refine⟨hn,Nat.ne_of_gt (Nat.lt_of_lt_of_le I.lt hb),I.nofs hb,.inr (Nat.le_trans I.sz hb),fun x c e z =>?_,fun p hp z =>?_⟩
 ·obtain⟨v,q⟩:=I.cell x c e;exact absurd (Nat.lt_of_lt_of_le q.lt (by rw[z];exact hb)) (Nat.lt_irrefl _)
 ·exact absurd (Nat.lt_of_lt_of_le (Heap.lt_size (I.pin p hp).1) (by rw[z];exact hb)) (Nat.lt_irrefl _)
structure Turn (P:Program) (w:World) (K:Fg9) (tg:Expr) (J:It) (fp:List Addr) (it:Addr) (tn:Nat->Heap->Prop):Prop where
 mem:it∈fp
 obj:∀i h,tn i h->∀b∈fp,∃o,h.get? b=some o/\∀v,o.data≠.cell v
 keep:∀i h h',tn i h->(∀b∈fp,∀o,h.get? b=some o->h'.get? b=some o)->tn i h'
 item:∀(X:Cx),X.prog=P->X.w=w->X.K=K->X.calm=true->∀(i:Nat) (qv:List (Addr×Obj)) (s:Shared) (σ:St) (H:Hp) (E:Value->Shared->Prop),Inv X qv σ H s->(∀b∈fp,FpOk X qv H b)->tn i s.heap->J.go i H ->
  wpAny (model P w) X.A (pyNext (.ref it)) (fun r s1=>∃u,r=some u /\
   wpAny (model P w) X.A (letOwnedTupleGo tg (.ref it) u) (fun _ s2=>∃x H',Inv X qv σ H' s2/\RelV x u/\J.yld i H x H'/\tn (i+1) s2.heap/\∀b∈fp,H' b=none) E s1) E s
 done:∀(X:Cx),X.prog=P->X.w=w->X.K=K->X.calm=true->∀(i:Nat) (qv:List (Addr×Obj)) (s:Shared) (σ:St) (H:Hp) (E:Value->Shared->Prop),Inv X qv σ H s->(∀b∈fp,FpOk X qv H b)->tn i s.heap->J.stop i H ->
  wpAny (model P w) X.A (pyNext (.ref it)) (fun r s1=>r=none/\Inv X qv σ H s1) E s
 self:∀(A:Around) (i:Nat) (s:Shared) (Q:Value->Shared->Prop) (E:Value->Shared->Prop),tn i s.heap->Q (.ref it) s->wpAny (model P w) A (pyIter (.ref it)) Q E s
abbrev TI:=St->Hp->(It->Hp->Prop)->Prop
def PIE(X:Cx)(qv:List (Addr×Obj))(σ:St)(tg:Expr)(R:It->Hp->Prop)(itv:Value)(s2:Shared):Prop :=
 ∃(it:Addr) (fp:List Addr) (tn:Nat->Heap->Prop) (J:It) (H':Hp),itv=.ref it/\Inv X qv σ H' s2/\Turn X.prog X.w X.K tg J fp it tn/\tn 0 s2.heap/\(∀b∈fp,FpOk X qv H' b)/\R J H'
def PI(X:Cx)(tg iter:Expr)(wi:TI):Prop :=
 ∀(qv:List (Addr×Obj)) (s:Shared) (σ:St) (H:Hp) (R:It->Hp->Prop),Inv X qv σ H s->wi σ H R ->
  wpAny (model X.prog X.w) X.A (eval iter X.env) (fun v s1=>wpAny (model X.prog X.w) X.A (pyIter v) (PIE X qv σ tg R) X.xe s1) X.xe s
theorem aze{M:Model}{A:Around}{E:Value->Shared->Prop}{s:Shared}{tg:Expr}{it:Addr}{u:Value}{o:Obj}{n:String}{vs:Array Value}{Q:Unit->Shared->Prop}(ho:s.heap.get? it=some o)(hc:o.cls=.type n)(hd:o.data=.fields vs)
  (hn:["enumerate","zip","dict_itemiterator","dict_reverseitemiterator","odict_iterator","itertools.zip_longest","itertools.pairwise"].contains n=false) (hQ:Q () s):wpAny M A (letOwnedTupleGo tg (.ref it) u) Q E s:=by
 unfold letOwnedTupleGo;cases tg <;> first
  | exact wpAny_pure hQ
  | (cases u <;> first
    | exact wpAny_pure hQ
    | (refine wpAny_bind (wpAny_load ho ?_)
       rw[hc,hd];show wpAny M A (if (["enumerate","zip","dict_itemiterator","dict_reverseitemiterator","odict_iterator","itertools.zip_longest","itertools.pairwise"].contains n&&vs[0]? == some (rawInt _))=true then _ else _) Q E s
       rw[if_neg (by intro h;rw[hn,Bool.false_and] at h;cases h)]
       exact wpAny_pure hQ))
def Itl(K:Fg9)(a:Addr):It :=
 ⟨fun i H=>∃xs x,SqL K H a xs/\xs[i]? = some x,fun i H x H'=>H'=H/\∀xs,SqL K H a xs->xs[i]? = some x,fun i H=>∃xs,SqL K H a xs/\xs.length<=i⟩
def Itt(K:Fg9)(a:Addr):It :=
 ⟨fun i H=>∃xs x,SqT K H a xs/\xs[i]? = some x,fun i H x H'=>H'=H/\∀xs,SqT K H a xs->xs[i]? = some x,fun i H=>∃xs,SqT K H a xs/\xs.length<=i⟩
def Itr(lo:Int)(n:Nat):It:=⟨fun i _=>i < n,fun i H x H'=>H'=H/\x=.int (lo+i),fun i _=>n<=i⟩
theorem ap0{P:Program}{w:World}{K:Fg9}{tg:Expr}(a it:Addr):Turn P w K tg (Itl K a) [it] it (fun i h=>h.IsListIter it a i) where
 mem:=by simp
 obj:=fun i h st b hb=>by
  have e:b=it:=by simpa using hb
  subst e;obtain⟨o,e,c,d⟩:=st;exact⟨o,e,fun v z=>by rw[d] at z;cases z⟩
 keep:=fun i h h' st k=>st.at fun o e=>k it (by simp) o e
 item:=by
  intro X hP hw hK hc i qv s σ H E I hf st hg;subst hP hw hK;obtain⟨xs,x,hq,hx⟩:=hg;obtain⟨its,rv,p,hz⟩:=I.list hq;obtain⟨u,hu,ru⟩:=rv.get hx;obtain⟨f0,f1,f2,f3,f4,f5⟩:=hf it (by simp)
  refine wpAny_pyNext_list_item st p.isList (x:=u) (by simpa using hu) fun h' st' sb =>?_
  have I1:Inv X qv σ H { s with heap:=h' }:=I.turned (t':=s.toks) (fun b o hb e=>(sb.2 b hb).trans e) f0 f1 f3 f4 f5
  obtain⟨o,e,c,d⟩:=id st';exact⟨u,rfl,aze (s:={ s with heap:=h' }) e c d (by decide) ⟨x,H,I1,ru,⟨rfl,fun ys hy=>by rw[I.list_inj hy hq];exact hx⟩,st',fun b hb=>(hf b hb).1⟩⟩
 done:=by
  intro X hP hw hK hc i qv s σ H E I hf st hg;subst hP hw hK;obtain⟨xs,hq,hx⟩:=hg;obtain⟨its,rv,p,hz⟩:=I.list hq;obtain⟨f0,f1,f2,f3,f4,f5⟩:=hf it (by simp)
  have hl:=rv.length;exact wpAny_pyNext_list_end (I.ok.hd hc) st p.isList (by simp;omega) fun h' eb=>⟨rfl,I.turned (t':=s.toks) (fun b o hb e=>eb b o hb e) f0 f1 f3 f4 f5⟩
 self:=fun _ _ _ _ _ st h=>wpAny_pyIter_listiter st h
theorem aom{P:Program}{w:World}{K:Fg9}{tg:Expr}(a it:Addr):Turn P w K tg (Itt K a) [it] it (fun i h=>h.IsTupleIter it a i) where
 mem:=by simp
 obj:=fun i h st b hb=>by
  have e:b=it:=by simpa using hb
  subst e;obtain⟨o,e,c,d⟩:=st;exact⟨o,e,fun v z=>by rw[d] at z;cases z⟩
 keep:=fun i h h' st k=>st.at fun o e=>k it (by simp) o e
 item:=by
  intro X hP hw hK hc i qv s σ H E I hf st hg;subst hP hw hK;obtain⟨xs,x,hq,hx⟩:=hg;obtain⟨its,rv,p,hz⟩:=I.tuple hq;obtain⟨u,hu,ru⟩:=rv.get hx;obtain⟨f0,f1,f2,f3,f4,f5⟩:=hf it (by simp)
  refine wpAny_pyNext_tuple_item st (show s.heap.IsTuple a its.toArray from p) (x:=u) (by simpa using hu) fun h' st' sb =>?_
  have I1:Inv X qv σ H { s with heap:=h' }:=I.turned (t':=s.toks) (fun b o hb e=>(sb.2 b hb).trans e) f0 f1 f3 f4 f5
  obtain⟨o,e,c,d⟩:=id st';exact⟨u,rfl,aze (s:={ s with heap:=h' }) e c d (by decide) ⟨x,H,I1,ru,⟨rfl,fun ys hy=>by rw[I.tuple_inj hy hq];exact hx⟩,st',fun b hb=>(hf b hb).1⟩⟩
 done:=by
  intro X hP hw hK hc i qv s σ H E I hf st hg;subst hP hw hK;obtain⟨xs,hq,hx⟩:=hg;obtain⟨its,rv,p,hz⟩:=I.tuple hq;obtain⟨f0,f1,f2,f3,f4,f5⟩:=hf it (by simp)
  have hl:=rv.length;exact wpAny_pyNext_tuple_end (I.ok.hd hc) st (show s.heap.IsTuple a its.toArray from p) (by simp;omega) fun h' eb=>⟨rfl,I.turned (t':=s.toks) (fun b o hb e=>eb b o hb e) f0 f1 f3 f4 f5⟩
 self:=fun _ _ _ _ _ st h=>wpAny_pyIter_tupleiter st h
theorem aon{P:Program}{w:World}{K:Fg9}{tg:Expr}(it:Addr)(lo:Int)(n:Nat):Turn P w K tg (Itr lo n) [it] it (fun i h=>IsRangeIter h it (lo+(i:Nat)*1) ((n:Int) - (i:Nat)) 1) where
 mem:=by simp
 obj:=fun i h st b hb=>by
  have e:b=it:=by simpa using hb
  subst e;exact⟨_,st,fun v z=>by
   have z':Data.fields _=Data.cell v:=z;cases z'⟩
 keep:=fun i h h' st k=>k it (by simp) _ st
 item:=by
  intro X hP hw hK hc i qv s σ H E I hf st hg;subst hP hw hK;obtain⟨f0,f1,f2,f3,f4,f5⟩:=hf it (by simp)
  have W:=Walks.range (prog:=X.prog) (w:=X.w) (I.ok.hd hc) it lo 1 n;refine W.item i s _ _ hg st fun v h' tk hv st' kk =>?_
  obtain⟨t,rfl⟩:=hv;have I1:Inv X qv σ H { s with heap:=h',toks:=tk }:=I.turned (fun b o hb e=>kk b o (by simpa using hb) e) f0 f1 f3 f4 f5
  refine⟨_,rfl,aze (s:={ s with heap:=h',toks:=tk }) (n := "range_iterator") st' rfl rfl (by decide) ⟨.int (lo+i),H,I1,⟨t,?_⟩,⟨rfl,rfl⟩,st',fun b hb=>(hf b hb).1⟩⟩
  rw[Int.mul_one]
 done:=by
  intro X hP hw hK hc i qv s σ H E I hf st hg;subst hP hw hK;obtain⟨f0,f1,f2,f3,f4,f5⟩:=hf it (by simp)
  exact wpAny_pyNext_range_end (I.ok.hd hc) st (by have:n<=i:=hg;omega) fun h' eb=>⟨rfl,I.turned (t':=s.toks) (fun b o hb e=>eb b o hb e) f0 f1 f3 f4 f5⟩
 self:=fun _ _ _ _ _ st h=>wpAny_pyIter_rangeiter st h
section
variable{X:Cx}{tg:Expr}
def a7n(K:Fg9)(tl:TE):TI:=fun σ H R=>tl σ H fun x H1=>∃a,x=.ref a/\(∃xs,SqL K H1 a xs)/\R (Itl K a) H1
def iTup(K:Fg9)(tl:TE):TI:=fun σ H R=>tl σ H fun x H1=>∃a,x=.ref a/\(∃xs,SqT K H1 a xs)/\R (Itt K a) H1
theorem aqt{l:Expr}{tl:TE}(hl:PE X l tl):PI X tg l (a7n X.K tl):=by
 intro qv s σ H R I h;refine thn (hl qv s σ H _ I h) fun v s1 ⟨x,H1,I1,r1,q1⟩ =>?_
 obtain⟨a,e,⟨xs,hq⟩,q⟩:=q1;subst e;cases r1;obtain⟨its,rv,p,hz⟩:=I1.list hq;refine wpAny_pyIter_list p.isList ?_;refine⟨s1.heap.objs.size,[s1.heap.objs.size],_,_,H1,rfl,I1.kept (t':=s1.toks) fun b o e=>Heap.get?_push_of_some _ e,ap0 a _,⟨_,Heap.get?_push_size _ rfl,rfl,rfl⟩,fun b hb =>?_,q⟩
 have e:b=s1.heap.objs.size:=by simpa using hb
 subst e;exact I1.fpOk (Nat.le_refl _) (I1.hok.fresh (Nat.le_refl _))
theorem a1d{l:Expr}{tl:TE}(hl:PE X l tl):PI X tg l (iTup X.K tl):=by
 intro qv s σ H R I h;refine thn (hl qv s σ H _ I h) fun v s1 ⟨x,H1,I1,r1,q1⟩ =>?_
 obtain⟨a,e,⟨xs,hq⟩,q⟩:=q1;subst e;cases r1;obtain⟨its,rv,p,hz⟩:=I1.tuple hq;refine wpAny_pyIter_tuple (show s1.heap.IsTuple a its.toArray from p) ?_
 refine⟨s1.heap.objs.size,[s1.heap.objs.size],_,_,H1,rfl,I1.kept (t':=s1.toks) fun b o e=>Heap.get?_push_of_some _ e,aom a _,⟨_,Heap.get?_push_size _ rfl,rfl,rfl⟩,fun b hb =>?_,q⟩
 have e:b=s1.heap.objs.size:=by simpa using hb
 subst e;exact I1.fpOk (Nat.le_refl _) (I1.hok.fresh (Nat.le_refl _))
theorem amy{qv:List (Addr×Obj)}{σ:St}{H:Hp}{s:Shared}{R:It->Hp->Prop}{E:Value->Shared->Prop}{lo hi:Int}{t u v:Tok}{tk:Nat}(I:Inv X qv σ H s)(h1 : -(2 ^ 62)<=lo)(h2:lo < 2 ^ 62)(h3 : -(2 ^ 62)<=hi)(h4:hi < 2 ^ 62)
  (q:R (Itr lo (hi - lo).toNat) H):wpAny (model X.prog X.w) X.A (pyIter (.ref s.heap.objs.size)) (PIE X qv σ tg R) E { s with heap:=s.heap.push { cls:=.type "range", data:=.fields #[.int lo t,.int hi u,.int 1 v] },toks:=tk }:=by
 refine wpAny_pyIter_range (IsRange.new ..) (small_one h1 h2 h3 h4) ?_;have I1:Inv X qv σ H { s with heap:=s.heap.push { cls:=.type "range", data:=.fields #[.int lo t,.int hi u,.int 1 v] },toks:=tk }:=I.kept fun b o e=>Heap.get?_push_of_some _ e
 refine⟨(s.heap.push { cls:=.type "range", data:=.fields #[.int lo t,.int hi u,.int 1 v] }).objs.size,[(s.heap.push { cls:=.type "range", data:=.fields #[.int lo t,.int hi u,.int 1 v] }).objs.size],_,_,H,rfl,
  I1.kept (t':=tk) fun b o e=>Heap.get?_push_of_some _ e,aon _ lo (hi - lo).toNat,?_,fun b hb =>?_,q⟩
 ·have e1:lo+((0:Nat):Int)*1=lo:=by simp
  have e2:(((hi - lo).toNat:Nat):Int) - ((0:Nat):Int)=Builtin.Range.rangeSize lo hi 1:=by rw[rangeSize_one];split <;> omega
  show IsRangeIter _ _ (lo+((0:Nat):Int)*1) ((((hi - lo).toNat:Nat):Int) - ((0:Nat):Int)) 1;rw[e1,e2];exact Heap.get?_push_size _ rfl
 ·have e:b=(s.heap.push { cls:=.type "range", data:=.fields #[.int lo t,.int hi u,.int 1 v] }).objs.size:=by simpa using hb
  subst e;exact I1.fpOk (Nat.le_refl _) (I1.hok.fresh (Nat.le_refl _))
def a7m(ta:TA):TI:=fun σ H R=>ta σ H fun vs H1=>∃j:Int,vs=[.int j] /\ -(2 ^ 62)<=j/\j < 2 ^ 62/\R (Itr 0 j.toNat) H1
def a7l(ta:TA):TI:=fun σ H R=>ta σ H fun vs H1=>∃i j:Int,vs=[.int i,.int j]/\(-(2 ^ 62)<=i/\i < 2 ^ 62 /\ -(2 ^ 62)<=j/\j < 2 ^ 62)/\R (Itr i (j - i).toNat) H1
theorem aqs{a:Expr}{ta:TA}{p pos:Pos}(hg:Gl X "range")(hm:X.mg "range" = none)(ha:PA X [a] ta)(hs:starEach [a] X.env=[(false,eval a X.env)]:=by rfl):PI X tg (.Call (.Name "range" p) [a] [] pos) (a7m ta):=by
 intro qv s σ H R I h;refine Call_ (afm I hg hm boot_range (PyProof.Rows.callWith_type1 (thn (ha pos qv s σ H _ I h) fun us s1 ⟨vs,H1,I1,r1,q1⟩ =>?_) hs rfl))
 obtain⟨j,e,q1,q2,q⟩:=q1;subst e;cases r1 with
 | cons r rr =>
  cases rr;obtain⟨t,rfl⟩:=r;exact call_range_1 (amy I1 (by omega) (by omega) q1 q2 (by simpa using q))
theorem aqr{a b:Expr}{ta:TA}{p pos:Pos}(hg:Gl X "range")(hm:X.mg "range" = none)(ha:PA X [a,b] ta)(hs:starEach [a,b] X.env=[(false,eval a X.env),(false,eval b X.env)]:=by rfl)(hs2:starEach [b] X.env=[(false,eval b X.env)]:=by rfl) :
  PI X tg (.Call (.Name "range" p) [a,b] [] pos) (a7l ta):=by
 intro qv s σ H R I h;refine Call_ (afm I hg hm boot_range (PyProof.Rows.callWith_type1 (thn (ha pos qv s σ H _ I h) fun us s1 ⟨vs,H1,I1,r1,q1⟩ =>?_) (by rw[hs,hs2]) (by rw[hs2];rfl)))
 obtain⟨i,j,e,⟨q1,q2,q3,q4⟩,q⟩:=q1;subst e;cases r1 with
 | cons r rr =>
  cases rr with
  | cons r' rr =>
   cases rr;obtain⟨t,rfl⟩:=r;obtain⟨t',rfl⟩:=r';exact call_range_2 (amy I1 q1 q2 q3 q4 q)
def tFor(wi:TI)(g:TG)(tb:TS):TS:=fun D σ H=>wi σ H fun J H1=>∃W:Nat->Nat->St->Hp->Prop,(∃m,W 0 m σ H1)/\∀i m σ H,W i m σ H ->
 (J.stop i H/\D.nx σ H)∨(J.go i H/\∃N:St->Hp->Prop,(∀σ' H',N σ' H'->∃m',m' < m/\W (i+1) m' σ' H')/\∀x H',J.yld i H x H'->g x σ H' fun σ2 H2=>tb { D with nx:=N,ct:=N,bk:=D.nx } σ2 H2)
def ajd(fp:List Addr)(h:Heap):List (Addr×Obj):=fp.filterMap fun b=>(h.get? b).map fun o=>(b,o)
theorem abf{fp:List Addr}{h:Heap}{b:Addr}{o:Obj}(hb:b∈fp)(e:h.get? b=some o):(b,o)∈ajd fp h:=List.mem_filterMap.mpr ⟨b,hb,by rw[e];rfl⟩
theorem aqz{fp:List Addr}{h:Heap}{p:Addr×Obj}(hp:p∈ajd fp h):p.1∈fp/\h.get? p.1=some p.2:=by
 obtain⟨b,hb,e⟩:=List.mem_filterMap.mp hp;cases q:h.get? b with
 | none=>rw[q] at e;cases e
 | some o =>
  rw[q] at e;have e':(b,o)=p:=Option.some.inj e;subst e';exact⟨hb,q⟩
theorem Inv.pinned{qv:List (Addr×Obj)}{σ:St}{H:Hp}{s:Shared}{fp:List Addr}(I:Inv X qv σ H s)(hf:∀b∈fp,FpOk X qv H b)(ho:∀b∈fp,∃o,s.heap.get? b=some o/\∀v,o.data≠.cell v):Inv X (qv++ajd fp s.heap) σ H s :=
 I.pins_of fun p hp=>(List.mem_append.mp hp).elim (fun z=>I.pin p (List.mem_append_right _ z)) fun z=>by
  obtain⟨hb,e⟩:=aqz z;obtain⟨f0,f1,f2,_⟩:=hf p.1 hb;obtain⟨o,e',d⟩:=ho p.1 hb;rw[e] at e';cases e';exact⟨e,f0,f1,f2,d⟩
theorem Inv.unpinned{qv pl:List (Addr×Obj)}{σ:St}{H:Hp}{s:Shared}(I:Inv X (qv++pl) σ H s):Inv X qv σ H s:=I.pins_of fun p hp=>I.pin p (List.mem_append_right _ (List.mem_append_left _ hp))
theorem a1a{iter:Expr}{body:List Stmt}{wi:TI}{g:TG}{tb:TS}{pos:Pos}(hp:PassesOwn (model X.prog X.w) X.A X.env X.xe)(hc:X.calm=true)(hi:PI X tg iter wi)(hg:PG X tg g)(hb:PSs X body tb)
  (hs:∀x,foldedSetIterable iter X.env x=pure x:=by intro _;rfl):PS X (.For tg iter body [] pos) (tFor wi g tb):=by
 intro qv s σ H D I h;refine wpAny_For (thn (hi qv s σ H _ I h) fun v s1 h1=>thn h1 fun itv s2 h2 =>?_) hs
 obtain⟨it,fp,tn,J,H2,e,I2,T,st2,f2,W,⟨m0,w0⟩,turn⟩:=h2;subst e;have stat:∀{H':Hp},(∀b∈fp,H' b=none)->∀b∈fp,FpOk X qv H' b:=fun hn b hb=>⟨hn b hb,(f2 b hb).2⟩
 refine codeAny_forLoop_any (fun n s'=>∃i σ' H',Inv X qv σ' H' s'/\tn i s'.heap/\(∀b∈fp,H' b=none)/\W i n σ' H') ?_ m0 ⟨0,σ,H2,I2,st2,fun b hb=>(f2 b hb).1,w0⟩
 rintro n s3 ⟨i,σ3,H3,I3,st3,fr3,w3⟩
 rcases turn i n σ3 H3 w3 with⟨stop,qn⟩ | ⟨go,N,hN,step⟩
 ·refine wpAny_passesOwn hp (thn (T.done X rfl rfl rfl hc i qv s3 σ3 H3 X.xe I3 (stat fr3) st3 stop) fun r s4 ⟨hr,I4⟩ =>?_)
  subst hr;exact wpAny_execs_nil ⟨σ3,H3,I4,qn⟩
 ·refine wpAny_passesOwn hp (thn (T.item X rfl rfl rfl hc i qv s3 σ3 H3 X.xe I3 (stat fr3) st3 go) fun r s4 ⟨u,hr,h4⟩ =>?_)
  subst hr;refine wpAny_passesOwn hp (thn h4 fun _ s5 ⟨x,H5,I5,r5,y5,st5,fr5⟩ =>?_)
  have I5':=I5.pinned (stat fr5) (T.obj _ _ st5);refine wpAny_passesOwn hp (thn (hg _ s5 σ3 H5 x u _ I5' r5 (step x H5 y5)) fun _ s6 ⟨σ6,H6,I6,q6⟩ =>?_)
  refine wpAny_passesOwn hp (thn (hb _ s6 σ6 H6 _ I6 q6) fun f s7 q7 =>?_)
  have again:∀{σ7:St} {H7:Hp},Inv X (qv++ajd fp s5.heap) σ7 H7 s7->N σ7 H7->∃m,m < n/\∃i σ' H',Inv X qv σ' H' s7/\tn i s7.heap/\(∀b∈fp,H' b=none)/\W i m σ' H':=fun{σ7 H7} I7 n7=>by
   obtain⟨m',hm,w7⟩:=hN σ7 H7 n7;refine⟨m',hm,i+1,σ7,H7,I7.unpinned,T.keep _ _ _ st5 fun b hb o e=>(I7.pin (b,o) (List.mem_append_right _ (List.mem_append_right _ (abf hb e)))).1,fun b hb =>?_,w7⟩
   obtain⟨o,e,d⟩:=T.obj _ _ st5 b hb;exact(I7.pin (b,o) (List.mem_append_right _ (List.mem_append_right _ (abf hb e)))).2.1
  cases f with
  | next=>obtain⟨σ7,H7,I7,n7⟩:=q7;exact again I7 n7
  | cont=>obtain⟨σ7,H7,I7,n7⟩:=q7;exact again I7 n7
  | brk=>obtain⟨σ7,H7,I7,q7⟩:=q7;exact⟨σ7,H7,I7.unpinned,q7⟩
  | ret v=>obtain⟨x7,σ7,H7,I7,r7,q7⟩:=q7;exact⟨x7,σ7,H7,I7.unpinned,r7,q7⟩
end
abbrev R2:=V->V->Hp->VK->Prop
def OpR(X:Cx)(f:Value->Value->Sem Value)(r:R2):Prop :=
 ∀(qv:List (Addr×Obj)) (s:Shared) (σ:St) (H:Hp) (x y:V) (v u:Value) (Q:VK),Inv X qv σ H s->RelV x v->RelV y u->r x y H Q ->
  wpAny (model X.prog X.w) X.A (f v u) (EP X qv σ Q) X.xe s
def UnR(X:Cx)(f:Value->Sem Value)(r:V->Hp->VK->Prop):Prop :=
 ∀(qv:List (Addr×Obj)) (s:Shared) (σ:St) (H:Hp) (x:V) (v:Value) (Q:VK),Inv X qv σ H s->RelV x v->r x H Q ->
  wpAny (model X.prog X.w) X.A (f v) (EP X qv σ Q) X.xe s
def aei(X:Cx)(f:Value)(r:List V->Hp->VK->Prop):Prop :=
 ∀(qv:List (Addr×Obj)) (s:Shared) (σ:St) (H:Hp) (xs:List V) (us:List Value) (Q:VK),Inv X qv σ H s->Vals xs us->r xs H Q ->
  wpAny (model X.prog X.w) X.A (call f us) (EP X qv σ Q) X.xe s
def tOp(r:R2)(ta tb:TE):TE:=fun σ H Q=>ta σ H fun x H1=>tb σ H1 fun y H2=>r x y H2 Q
def tUn(r:V->Hp->VK->Prop)(ta:TE):TE:=fun σ H Q=>ta σ H fun x H1=>r x H1 Q
def rI(C:Int->Int->Prop)(g:Int->Int->V):R2:=fun x y H Q=>∃i j,x=.int i/\y=.int j/\C i j/\Q (g i j) H
def rI0(g:Int->Int->V):R2:=fun x y H Q=>∃i j,x=.int i/\y=.int j/\Q (g i j) H
def rU(g:Int->V):V->Hp->VK->Prop:=fun x H Q=>∃i,x=.int i/\Q (g i) H
section
variable{X:Cx}{a b c:Expr}{ta tb tc:TE}{pos:Pos}
theorem binT(ha:PE X a ta)(hb:PE X b tb){qv:List (Addr×Obj)}{s:Shared}{σ:St}{H:Hp}{R:V->V->Hp->Prop}(I:Inv X qv σ H s)
  (h:ta σ H fun x H1=>tb σ H1 fun y H2=>R x y H2) {Q:Value->Shared->Prop} {f:Value->Value->Sem Value}
  (hf:∀v u s2 x y H2,Inv X qv σ H2 s2->RelV x v->RelV y u->R x y H2->wpAny (model X.prog X.w) X.A (f v u) Q X.xe s2) :
  wpAny (model X.prog X.w) X.A (eval a X.env) (fun v s₁=>wpAny (model X.prog X.w) X.A (eval b X.env) (fun u s₂=>wpAny (model X.prog X.w) X.A (f v u) Q X.xe s₂) X.xe s₁) X.xe s:=by
 refine thn (ha qv s σ H _ I h) fun v s1 ⟨x,H1,I1,r1,q1⟩ =>?_
 refine thn (hb qv s1 σ H1 _ I1 q1) fun u s2 ⟨y,H2,I2,r2,q2⟩ =>?_
 exact hf v u s2 x y H2 I2 r1 r2 q2
theorem a6o{op:Operator}{r:R2}(ho:OpR X (binaryOp op) r)(ha:PE X a ta)(hb:PE X b tb):PE X (.BinOp a op b pos) (tOp r ta tb):=by
 intro qv s σ H Q I h;exact wpAny_BinOp (binT ha hb I h fun v u s2 x y H2 I2 rx ry q=>ho qv s2 σ H2 x y v u Q I2 rx ry q)
theorem a6n{op:UnaryOp}{r:V->Hp->VK->Prop}(ho:UnR X (unaryOp op) r)(ha:PE X a ta):PE X (.UnaryOp op a pos) (tUn r ta):=by
 intro qv s σ H Q I h;exact UnaryOp_ (thn (ha qv s σ H _ I h) fun v s1 ⟨x,H1,I1,r1,q1⟩=>ho qv s1 σ H1 x v Q I1 r1 q1)
theorem opI{f:Value->Value->Sem Value}{C:Int->Int->Prop}{g:Int->Int->Int}
  (rule:∀(i j:Int) (t u:Tok) (s:Shared) (Q:Value->Shared->Prop) (E:Value->Shared->Prop),C i j->Q (.int (g i j) s.toks) { s with toks:=s.toks+1 }->wpAny (model X.prog X.w) X.A (f (.int i t) (.int j u)) Q E s) :
  OpR X f (rI C fun i j=>.int (g i j)):=by
 intro qv s σ H x y v u Q I rx ry h;obtain⟨i,j,rfl,rfl,hc,q⟩:=h;obtain⟨t,rfl⟩:=rx;obtain⟨t',rfl⟩:=ry;exact rule i j t t' s _ _ hc ⟨.int (g i j),H,I.tok _,⟨_,rfl⟩,q⟩
theorem opI0{f:Value->Value->Sem Value}{g:Int->Int->Int}
  (rule:∀(i j:Int) (t u:Tok) (s:Shared) (Q:Value->Shared->Prop) (E:Value->Shared->Prop),Q (.int (g i j) s.toks) { s with toks:=s.toks+1 }->wpAny (model X.prog X.w) X.A (f (.int i t) (.int j u)) Q E s) :
  OpR X f (rI0 fun i j=>.int (g i j)):=by
 intro qv s σ H x y v u Q I rx ry h;obtain⟨i,j,rfl,rfl,q⟩:=h;obtain⟨t,rfl⟩:=rx;obtain⟨t',rfl⟩:=ry;exact rule i j t t' s _ _ ⟨.int (g i j),H,I.tok _,⟨_,rfl⟩,q⟩
theorem opB0{f:Value->Value->Sem Value}{g:Int->Int->Bool}
  (rule:∀(i j:Int) (t u:Tok) (s:Shared) (Q:Value->Shared->Prop) (E:Value->Shared->Prop),Q (.bool (g i j)) s->wpAny (model X.prog X.w) X.A (f (.int i t) (.int j u)) Q E s) :
  OpR X f (rI0 fun i j=>.bl (g i j)):=by
 intro qv s σ H x y v u Q I rx ry h;obtain⟨i,j,rfl,rfl,q⟩:=h;obtain⟨t,rfl⟩:=rx;obtain⟨t',rfl⟩:=ry;exact rule i j t t' s _ _ ⟨.bl (g i j),H,I,rfl,q⟩
def CPow(i j:Int):Prop:=0<=j/\j<=1000000/\i.natAbs < 2 ^ 64
def CMul(i j:Int):Prop:=(-(2 ^ 64) < i/\i < 2 ^ 64)∨(-(2 ^ 64) < j/\j < 2 ^ 64)
theorem CMul.ok{i j:Int}(h:CMul i j):IntMulOk i j:=by
 rcases h with⟨h1,h2⟩ | ⟨h1,h2⟩
 ·exact .of_left (intBits_le_64 h1 h2)
 ·exact .of_right (intBits_le_64 h1 h2)
theorem a1x:OpR X (binaryOp .Add) (rI0 fun i j=>.int (i+j)):=opI0 fun _ _ _ _ _ _ _ q=>add_int q
theorem a1r:OpR X (binaryOp .Sub) (rI0 fun i j=>.int (i - j)):=opI0 fun _ _ _ _ _ _ _ q=>sub_int q
theorem a1u:OpR X (binaryOp .Mult) (rI CMul fun i j=>.int (i*j)):=opI fun _ _ _ _ _ _ _ hc q=>mul_int q hc.ok
theorem a1v:OpR X (binaryOp .Mod) (rI (fun _ j=>0 < j) fun i j=>.int (i % j)):=opI fun i j _ _ _ _ _ hc q=>by
 have h1:(0:Int) < j:=hc;exact mod_int' (by omega) (by rw[Int.fmod_eq_emod_of_nonneg i (by omega)];exact q)
theorem a1t:OpR X (binaryOp .Pow) (rI CPow fun i j=>.int (i ^ j.toNat)):=opI fun _ _ _ _ _ _ _ hc q=>pow_int_small hc.1 hc.2.1 hc.2.2 q
theorem unI{f:Value->Sem Value}{g:Int->Int}
  (rule:∀(i:Int) (t:Tok) (s:Shared) (Q:Value->Shared->Prop) (E:Value->Shared->Prop),Q (.int (g i) s.toks) { s with toks:=s.toks+1 }->wpAny (model X.prog X.w) X.A (f (.int i t)) Q E s) :
  UnR X f (rU fun i=>.int (g i)):=by
 intro qv s σ H x v Q I rx h;obtain⟨i,rfl,q⟩:=h;obtain⟨t,rfl⟩:=rx;exact rule i t s _ _ ⟨.int (g i),H,I.tok _,⟨_,rfl⟩,q⟩
theorem a0l:UnR X (unaryOp .USub) (rU fun i=>.int (-i)):=unI fun _ _ _ _ _ q=>neg_int q
end
section
variable{X:Cx}{a b c:Expr}{ta tb tc:TE}{pos:Pos}
theorem a6q:OpR X (compareOp .Lt) (rI0 fun i j=>.bl (decide (i < j))):=opB0 fun _ _ _ _ _ _ _ q=>lt_int q
theorem auy:OpR X (compareOp .LtE) (rI0 fun i j=>.bl (decide (i<=j))):=opB0 fun _ _ _ _ _ _ _ q=>le_int q
theorem a6r:OpR X (compareOp .GtE) (rI0 fun i j=>.bl (decide (j<=i))):=opB0 fun _ _ _ _ _ _ _ q=>ge_int q
theorem vg(b:Expr){op:CmpOp}(h:op≠.In:=by decide)(h2:op≠.NotIn:=by decide):behindInMarks op b=false:=by
 have e1:(op==CmpOp.In)=false:=by cases op <;> first | rfl | exact absurd rfl h
 have e2:(op==CmpOp.NotIn)=false:=by cases op <;> first | rfl | exact absurd rfl h2
 cases b <;> simp[behindInMarks,e1,e2]
theorem ayl{op:CmpOp}{r:R2}(ho:OpR X (compareOp op) r)(ha:PE X a ta)(hb:PE X b tb)(hm:behindInMarks op b=false):PE X (.Compare a [op] [b] pos) (tOp r ta tb):=by
 intro qv s σ H Q I h;exact wpAny_Compare1 (binT ha hb I h fun v u s2 x y H2 I2 rx ry q=>ho qv s2 σ H2 x y v u Q I2 rx ry q) hm
def a5s(t:TE):TT:=fun σ H Q=>t σ H fun x H'=>∃k,x=.bl k/\Q k H'
theorem aqk{op:CmpOp}{r:R2}(ho:OpR X (compareOp op) r)(ha:PE X a ta)(hb:PE X b tb)(hm:behindInMarks op b=false):PT X (.Compare a [op] [b] pos) (a5s (tOp r ta tb)):=by
 intro qv s σ H Q I h;refine wpAny_isTrue_Compare1 (thn (ha qv s σ H _ I h) fun v s1 ⟨x,H1,I1,r1,q1⟩=>thn (hb qv s1 σ H1 _ I1 q1) fun u s2 ⟨y,H2,I2,r2,q2⟩ =>
  thn (ho qv s2 σ H2 x y v u _ I2 r1 r2 q2) fun c s3 ⟨z,H3,I3,r3,k,e,q3⟩ =>?_) hm
 subst e;cases r3;exact wpAny_truthy_bool ⟨H3,I3,q3⟩
def awo(r r':R2)(ta tb tc:TE):TE:=fun σ H Q=>ta σ H fun x H1=>tb σ H1 fun y H2=>r x y H2 fun z H3=>∃k,z=.bl k /\
 (if k=true then tc σ H3 fun w' H4=>r' y w' H4 Q else Q (.bl false) H3)
theorem aur{op op':CmpOp}{r r':R2}(ho:OpR X (compareOp op) r)(ho':OpR X (compareOp op') r')(ha:PE X a ta)(hb:PE X b tb)(hc:PE X c tc)
  (hm:lastMarks [op,op'] [b,c]=false:=by with_unfolding_all rfl):PE X (.Compare a [op,op'] [b,c] pos) (awo r r' ta tb tc):=by
 intro qv s σ H Q I h;refine Compare_chain (thn (ha qv s σ H _ I h) fun v s1 ⟨x,H1,I1,r1,q1⟩=>chain_link (thn (hb qv s1 σ H1 _ I1 q1) fun u s2 ⟨y,H2,I2,r2,q2⟩ =>
  thn (ho qv s2 σ H2 x y v u _ I2 r1 r2 q2) fun d s3 ⟨z,H3,I3,r3,k,e,q3⟩ =>?_)) hm
 subst e;cases r3;refine wpAny_truthy_bool ?_;cases k with
 | false=>exact ite_ff ⟨.bl false,H3,I3,rfl,q3⟩
 | true=>exact ite_tt (chain_last (thn (hc qv s3 σ H3 _ I3 q3) fun w' s4 ⟨z',H4,I4,r4,q4⟩=>ho' qv s4 σ H4 y z' u w' Q I4 r2 r4 q4))
theorem ajt:(sizeLine:Nat) < 2 ^ 63:=by rw[sizeLine_eq];decide
theorem ao1:OpR X (binaryOp .Add) (fun x y H Q=>∃i j,x=.str i/\y=.str j/\i.length+j.length<=sizeLine/\Q (.str (i++j)) H):=by
 intro qv s σ H x y v u Q I rx ry h;obtain⟨i,j,rfl,rfl,hz,q⟩:=h;obtain⟨t,rfl⟩:=rx;obtain⟨t',rfl⟩:=ry;exact add_str (fun t' tk=>⟨.str (i++j),H,I.tok _,⟨_,rfl⟩,q⟩) hz
theorem vals1{x:V}{us:List Value}(r:Vals [x] us):∃u,us=[u]/\RelV x u:=by
 cases r with
 | cons r1 r2=>cases r2;exact⟨_,rfl,r1⟩
theorem vals2{x y:V}{us:List Value}(r:Vals [x,y] us):∃u w',us=[u,w']/\RelV x u/\RelV y w':=by
 cases r with
 | cons r1 r2 =>
  cases r2 with
  | cons r3 r4=>cases r4;exact⟨_,_,rfl,r1,r3⟩
theorem awc:aei X (.builtin "abs") (fun xs H Q=>∃i,xs=[.int i]/\Q (.int (if i < 0 then -i else i)) H):=by
 intro qv s σ H xs us Q I r h;obtain⟨i,rfl,q⟩:=h;obtain⟨u,rfl,t,rfl⟩:=vals1 r;exact call_abs_int fun u tk=>⟨.int (if i < 0 then -i else i),H,I.tok _,⟨_,rfl⟩,q⟩
theorem as7(hc:X.calm=true):aei X (.builtin "max") (fun xs H Q=>∃i j,xs=[.int i,.int j]/\Q (.int (if j > i then j else i)) H):=by
 intro qv s σ H xs us Q I r h;obtain⟨i,j,rfl,q⟩:=h;obtain⟨u,w',rfl,⟨t,rfl⟩,⟨t',rfl⟩⟩:=vals2 r;refine max_two_ints (I.ok.hd hc) fun h' tk k=>⟨_,H,I.kept k,?_,q⟩
 by_cases hj:j > i
 ·rw[if_pos hj,if_pos hj];exact⟨_,rfl⟩
 ·rw[if_neg hj,if_neg hj];exact⟨_,rfl⟩
theorem ako:aei X (.type "int") (fun xs H Q=>(∃i,xs=[.int i]/\Q (.int i) H)∨∃k,xs=[.bl k]/\Q (.int (if k then 1 else 0)) H):=by
 intro qv s σ H xs us Q I r h;rcases h with⟨i,rfl,q⟩ | ⟨k,rfl,q⟩
 ·obtain⟨u,rfl,t,rfl⟩:=vals1 r;exact call_int_int ⟨.int i,H,I,⟨_,rfl⟩,q⟩
 ·obtain⟨u,rfl,r1⟩:=vals1 r;cases r1;exact call_int_bool ⟨.int (if k then 1 else 0),H,I.tok _,⟨_,rfl⟩,q⟩
end
structure ObjM (h:Heap) (x dx C:Addr) (mA:Str->Option Value):Prop where
 obj:h.get? x=some (PySem.W.instObj C dx)
 ns:h.Ns1 dx mA
 ne:dx≠x
theorem aq9{h:Heap}{dx:Addr}{mA:Str->Option Value}(n:h.Ns1 dx mA):∃od,h.get? dx=some od/\∀name,PySem.W.lookIn name od=some (mA name):=by
 obtain⟨o,es,ep,ho,hd,hk,_,hm⟩:=n;refine⟨o,ho,fun name =>?_⟩
 have e:=hm name;unfold nsFind findBy at e;rw[<-Array.find?_toList] at e;unfold PySem.W.lookIn;rw[hd];dsimp only;split
 ·rename_i y q;rw[q] at e;exact congrArg some e
 ·rename_i q;rw[q] at e;have a:es.toList.any (·.refKey)=false:=by
   rw[List.any_eq_false];intro y hy;obtain⟨z,t,hkey⟩:=hk y (Array.mem_toList_iff.mp hy);simp[DictEntry.refKey,hkey]
  have a':¬es.toList.any (·.refKey)=true:=by rw[a];exact Bool.false_ne_true
  rw[if_neg a'];exact congrArg some e
theorem ObjM.look{h:Heap}{x dx C:Addr}{mA:Str->Option Value}(I:ObjM h x dx C mA):∃od,PySem.W.InstAt h x (PySem.W.instObj C dx) C (some od)/\∀name,PySem.W.lookIn name od=some (mA name) :=
 let ⟨od,ho,hl⟩:=aq9 I.ns
 ⟨od,⟨I.obj,rfl,rfl,ho⟩,hl⟩
section
variable{prog:Program}{w:World}{A:Around}{E:Value->Shared->Prop}{s:Shared}{K:Fg9}{x dx C f:Addr}{mA:Str->Option Value}{name:Str}{v:Value}
theorem azf{expr:Bool}{Q:Value->Shared->Prop}(X:K.In s.heap)(I:ObjM s.heap x dx C mA)(hg:PySem.W.plainGet K C name=true)(hh:PySem.W.hasDictIn K C=true)
  (ha:findIn K (.ref C) name=some none) (hv:mA name=some v) (hv':PySem.W.handedIn v=true) (h:Q v { s with toks:=s.toks+1 }) :
  wpAny (model prog w) A (getAttr (.ref x) name expr) Q E s:=by
 obtain⟨od,J,hl⟩:=I.look;exact PySem.W.get_value X J (PySem.W.plainGet_of hg).1 (PySem.W.findObj_own hh ha rfl (by rw[hl,hv])) hv' h
theorem avr{pl:Sem Bool}{Q:Value×List Value->Shared->Prop}(X:K.In s.heap)(I:ObjM s.heap x dx C mA)(hg:PySem.W.plainGet K C name=true)
  (hf:findIn K (.ref C) name=some (some (.ref f))) (ht:PySem.W.isFn K (.ref f)=true) (hv:mA name=none) (h:Q (.ref f,[.ref x]) s) :
  wpAny (model prog w) A (getMethod (.ref x) name pl) Q E s:=by
 obtain⟨od,J,hl⟩:=I.look;exact PySem.W.method_fn X J (PySem.W.plainGet_of hg).1 (PySem.W.plainGet_of hg).2 hf (beq_iff_eq.mp ht) (by show(PySem.W.lookIn name od).map (·.isSome)=some false;rw[hl,hv];rfl) h
theorem axx{ns:List Str}{Q:Unit->Shared->Prop}(X:K.In s.heap)(I:ObjM s.heap x dx C mA)
  (hs:findIn K (.ref C) "__setattr__" = some (some (.builtin "object.__setattr__"))) (hp:PySem.W.plainOver K C=true) (ht:PySem.W.takerIn K C name=some none) (hh:PySem.W.hasDictIn K C=true)
  (hw:PySem.Within mA ns) (hsz:ns.length<=sizeLine)
  (h:∀h',ObjM h' x dx C (fun y=>if y=name then some v else mA y)->Heap.SameBut dx s.heap h'->Q () { s with heap:=h',toks:=s.toks+2 }) :
  wpAny (model prog w) A (setAttr (.ref x) name v) Q E s:=by
 obtain⟨od,J,hl⟩:=I.look;refine PySem.W.set_plain X J hs (PySem.W.osa_open (s:={ s with toks:=s.toks+1 }) (r:=none) X J hp ht fun b =>?_)
 obtain⟨cd,hc,hd'⟩:=PySem.W.any_some hh;have hx:s.heap.get? x=some ⟨.ref C,some dx,.plain,#[]⟩:=I.obj;refine wpAny_bind (wpAny_pure (wpAny_bind (wpAny_bind (wpAny_loadPart hx (wpAny_bind (PySem.W.Looks.here (s:={ s with toks:=s.toks+1 }) (PySem.W.looks_clsIn X hc) ?_))))))
 rw[hd'];refine wpAny_pure (a:=some dx) (wpAny_bind (wpAny_pure (wpAny_bind ?_)));refine wpAny_nsSet1 (s:={ s with toks:=s.toks+1 }) I.ns fun h' hn2 hs2 =>?_
 obtain⟨oD,esD,epD,hoD,hdD,hcD⟩:=hn2.count (PySem.Within.cons name v hw);refine wpAny_bind (wpAny_lookBehind hoD (by rw[hdD];exact pastItsLine_dict (Nat.le_trans hcD (by rw[List.length_cons];omega))) ?_)
 exact wpAny_pure (h _ ⟨(hs2.2 _ (Ne.symm I.ne)).trans I.obj,hn2,I.ne⟩ hs2)
theorem au8{R:Result->Shared->Prop}{vs:List Value}{kw:List (Str×Value)}(X:K.In s.heap)(hm:PySem.W.makesIn K C=true)
  (hi:findIn K (.ref C) "__init__" = some (some (.ref f))) (hf:PySem.W.typeIn K (.ref f)=some (.type "function"))
  (h:codeAny (model prog w) (A.under (.builtin "type.__call__" ⟨.ref C::vs,kw⟩)) (.call (.ref f) ⟨.ref (s.heap.objs.size+1)::vs,kw⟩) (PySem.W.InitBack (s.heap.objs.size+1) R)
   { s with heap:=(s.heap.push PySem.W.emptyDict).push (PySem.W.instObj C s.heap.objs.size) }) :
  codeAny (model prog w) A (.call (.ref C) ⟨vs,kw⟩) R s:=by
 obtain⟨hh,g,d,t,os⟩:=s;exact PySem.W.make_core (PySem.W.makes_of X hm) (PySem.W.looks_findIn X hi) (fun self=>PySem.W.bind_fn X self hf) (.inl rfl) h
end
def putF(f:Str)(v:V):List (Str×V)->List (Str×V)
 | []=>[(f,v)]
 | (g,x)::r=>if g=f then (g,v)::r else (g,x)::putF f v r
theorem ab8(f g:Str)(v:V):∀fs:List (Str×V),(putF f v fs).lookup g=if g=f then some v else fs.lookup g
 | []=>by
  show List.lookup g [(f,v)]=_
  by_cases h:g=f
  ·have hb:(g==f)=true:=beq_iff_eq.mpr h;simp only[List.lookup,hb,if_pos h]
  ·have hb:(g==f)=false:=beq_eq_false_iff_ne.mpr h;simp only[List.lookup,hb,if_neg h]
 | (k,x)::r=>by
  have ih:=ab8 f g v r;rw[show putF f v ((k,x)::r)=(if k=f then (k,v)::r else (k,x)::putF f v r) from rfl]
  by_cases hk:k=f
  ·rw[if_pos hk]
   by_cases h:g=k
   ·have hb:(g==k)=true:=beq_iff_eq.mpr h;simp only[List.lookup,hb,if_pos (h.trans hk)]
   ·have hb:(g==k)=false:=beq_eq_false_iff_ne.mpr h;simp only[List.lookup,hb,if_neg (fun e:g=f=>h (e.trans hk.symm))]
  ·rw[if_neg hk]
   by_cases h:g=k
   ·have hb:(g==k)=true:=beq_iff_eq.mpr h;simp only[List.lookup,hb,if_neg (fun e:g=f=>hk (h.symm.trans e))]
   ·have hb:(g==k)=false:=beq_eq_false_iff_ne.mpr h;simp only[List.lookup,hb];exact ih
theorem afo(f:Str)(v:V):∀fs:List (Str×V),f∈(putF f v fs).map (·.1)/\∀g,g∈fs.map (·.1)->g∈(putF f v fs).map (·.1)
 | []=>⟨by simp[putF],fun g h=>by simp at h⟩
 | (k,x)::r=>by
  obtain⟨i1,i2⟩:=afo f v r;rw[show putF f v ((k,x)::r)=(if k=f then (k,v)::r else (k,x)::putF f v r) from rfl]
  by_cases hk:k=f
  ·rw[if_pos hk];subst hk;exact⟨by simp,fun g h=>by simpa using h⟩
  ·rw[if_neg hk];refine⟨?_,fun g h =>?_⟩
   ·rw[List.map_cons];exact List.mem_cons_of_mem _ i1
   ·rw[List.map_cons] at h ⊢
    rcases List.mem_cons.mp h with e | e
    ·exact List.mem_cons.mpr (.inl e)
    ·exact List.mem_cons_of_mem _ (i2 g e)
theorem afk(f:Str)(v:V):∀fs:List (Str×V),(putF f v fs).length<=fs.length+1
 | []=>by simp[putF]
 | (k,x)::r=>by
  have ih:=afk f v r;rw[show putF f v ((k,x)::r)=(if k=f then (k,v)::r else (k,x)::putF f v r) from rfl]
  by_cases hk:k=f
  ·rw[if_pos hk,List.length_cons,List.length_cons];omega
  ·rw[if_neg hk,List.length_cons,List.length_cons];omega
theorem RelO.some_of{v:V}{o:Option Value}(r:RelO (some v) o):∃u,o=some u/\RelV v u:=by
 cases o with
 | none=>exact(show False from r).elim
 | some u=>exact⟨u,rfl,r⟩
theorem RelO.none_of{o:Option Value}(r:RelO none o):o=none:=by
 cases o with
 | none=>rfl
 | some u=>exact(show False from r).elim
theorem arx{v:V}{u:Value}(r:RelV v u):PySem.W.handedIn u=true:=by
 cases v with
 | non=>cases(show u=Value.none from r);rfl
 | bl b=>cases(show u=Value.bool b from r);rfl
 | int i=>obtain⟨t,e⟩:=(show ∃t,u=Value.int i t from r);cases e;rfl
 | str x=>obtain⟨t,e⟩:=(show ∃t,u=Value.str x t from r);cases e;rfl
 | byt b=>obtain⟨t,e⟩:=(show ∃t,u=Value.bytes b t from r);cases e;rfl
 | flt b=>obtain⟨t,e⟩:=(show ∃t,u=Value.float b t from r);cases e;rfl
 | ref a=>cases(show u=Value.ref a from r);rfl
 | ty n=>cases(show u=Value.type n from r);rfl
section
variable{P:Program}{w:World}{H H':Hp}{h h':Heap}{a C dx:Addr}{fs fs':List (Str×V)}
theorem aih(hok:HOk P w H h)(e:H a=some (.ins C dx fs)):∃mA,ObjM h a dx C mA/\(∀f,RelO (fs.lookup f) (mA f))/\PySem.Within mA (fs.map (·.1))/\fs.length<=1000/\H dx=some (.own a):=by
 obtain⟨d,z,ne,ob,mA,n,r,q⟩:=(show wu P w H h a (.ins C dx fs) from hok a _ e)
 exact⟨mA,⟨ob,n,ne⟩,r,q,z,d⟩
end
structure Cls (K:Fg9) (C:Addr):Prop where
 pg:PySem.W.plainGet K C Str.empty=true
 hd:PySem.W.hasDictIn K C=true
 po:PySem.W.plainOver K C=true
 sa:findIn K (.ref C) "__setattr__" = some (some (.builtin "object.__setattr__"))
theorem Cls.get{K:Fg9}{C:Addr}(c:Cls K C)(f:Str):PySem.W.plainGet K C f=true:=c.pg
def aa8(K:Fg9)(C:Addr)(f:Str):Prop:=findIn K (.ref C) f=some none
theorem aa8.taker{K:Fg9}{C:Addr}{f:Str}(n:aa8 K C f):PySem.W.takerIn K C f=some none:=by
 unfold PySem.W.takerIn;rw[show findIn K (.ref C) f=some none from n]
 rfl
structure Con (K:Fg9) (C:Addr) (f:Str) (v:V) (u:Value):Prop where
 at_:findIn K (.ref C) f=some (some u)
 rel:RelV v u
 get:PySem.W.specialIn K u "__get__" = some none
 cp:PySem.W.copiedNames.contains f=false
structure Meth (K:Fg9) (C:Addr) (m:Str) (f:Addr):Prop where
 at_:findIn K (.ref C) m=some (some (.ref f))
 fn:PySem.W.isFn K (.ref f)=true
 kp:keepIn K (.ref f)=true
section
variable{X:Cx}{qv:List (Addr×Obj)}{σ:St}{H:Hp}{s:Shared}{a C dx:Addr}{fs:List (Str×V)}{f:Str}{v:V}{A:Around}{E:Value->Shared->Prop}
theorem ag4{b:Bool}{Q:Value->Shared->Prop}(I:Inv X qv σ H s)(e:H a=some (.ins C dx fs))(c:Cls X.K C)(n:aa8 X.K C f)(l:fs.lookup f=some v)
  (h:∀u s',Inv X qv σ H s'->RelV v u->Q u s'):wpAny (model X.prog X.w) A (getAttr (.ref a) f b) Q E s:=by
 obtain⟨mA,O,r,_,_,_⟩:=aih I.hok e;obtain⟨u,hu,ru⟩:=RelO.some_of (v:=v) (o:=mA f) (by rw[<-l];exact r f)
 exact azf I.kIn O (c.get f) c.hd n hu (arx ru) (h u _ (I.tok _) ru)
theorem ape{m:Str}{g:Addr}{pl:Sem Bool}{Q:Value×List Value->Shared->Prop}(I:Inv X qv σ H s)(e:H a=some (.ins C dx fs))(c:Cls X.K C)(k:Meth X.K C m g)(l:fs.lookup m=none)
  (h:Q (.ref g,[.ref a]) s):wpAny (model X.prog X.w) A (getMethod (.ref a) m pl) Q E s:=by
 obtain⟨mA,O,r,_,_,_⟩:=aih I.hok e;have hn:mA m=none:=RelO.none_of (by rw[<-l];exact r m)
 exact avr I.kIn O (c.get m) k.at_ k.fn hn h
theorem agv{y:V}{u:Value}{Q:Unit->Shared->Prop}(I:Inv X qv σ H s)(e:H a=some (.ins C dx fs))(c:Cls X.K C)(n:aa8 X.K C f)(hl:fs.length < 1000)(ry:RelV y u)
  (h:∀s',Inv X qv σ (upd H a (.ins C dx (putF f y fs))) s'->Q () s'):wpAny (model X.prog X.w) A (setAttr (.ref a) f u) Q E s:=by
 obtain⟨mA,O,r,wi,_,ho⟩:=aih I.hok e;have hz:(fs.map (·.1)).length<=sizeLine:=by rw[List.length_map,sizeLine_eq];omega
 refine axx I.kIn O c.sa c.po n.taker c.hd wi hz fun h' O' sb=>h _ ?_
 have hd:∃o,h'.get? dx=some o:=let ⟨o,_,_,e',_⟩:=O'.ns;⟨o,e'⟩
 refine I.write (x:=a) (e:=dx) (by rw[e];exact True.intro) (.inr ho) (fun b q hb z=>(sb.2 b hb).trans z) hd ?_
 refine⟨by rw[bc O.ne];exact ho,?_,O.ne,O'.obj,_,O'.ns,fun g =>?_,fun g hg =>?_⟩
 ·have:=afk f y fs;omega
 ·show RelO ((putF f y fs).lookup g) (if g=f then some u else mA g)
  rw[ab8]
  by_cases q:g=f
  ·rw[if_pos q,if_pos q];exact ry
  ·rw[if_neg q,if_neg q];exact r g
 ·by_cases q:g=f
  ·rw[q];exact(afo f y fs).1
  ·refine(afo f y fs).2 g (wi g fun z=>hg ?_)
   show(if g=f then some u else mA g)=none
   rw[if_neg q];exact z
theorem Inv.made(I:Inv X qv σ H s):Inv X qv σ (upd (upd H s.heap.objs.size (.own (s.heap.objs.size+1))) (s.heap.objs.size+1) (.ins C s.heap.objs.size []))
  { s with heap:=(s.heap.push PySem.W.emptyDict).push (PySem.W.instObj C s.heap.objs.size) }:=by
 have e1:(s.heap.push PySem.W.emptyDict).get? s.heap.objs.size=some PySem.W.emptyDict:=Heap.get?_push_size s.heap rfl;have e2:((s.heap.push PySem.W.emptyDict).push (PySem.W.instObj C s.heap.objs.size)).get? (s.heap.objs.size+1)=some (PySem.W.instObj C s.heap.objs.size):=by
  have:=Heap.get?_push_size (s.heap.push PySem.W.emptyDict) (o:=PySem.W.instObj C s.heap.objs.size) rfl;rwa[Heap.size_push] at this
 have e3:(s.heap.push PySem.W.emptyDict).Ns s.heap.objs.size (fun _=>none):=⟨PySem.W.emptyDict,#[],_,e1,rfl,(fun e he=>absurd he (by simp)),fun _=>rfl⟩
 have I1:=I.laid (a:=s.heap.objs.size) (o:=.own (s.heap.objs.size+1)) (h':=s.heap.push PySem.W.emptyDict) (t':=s.toks) (fun b u q=>Heap.get?_push_of_some _ q) (Nat.le_refl _) ⟨_,e1⟩
 refine I1.laid (a:=s.heap.objs.size+1) (o:=.ins C s.heap.objs.size []) (t':=s.toks) (fun b u q=>Heap.get?_push_of_some _ q) (Nat.le_of_eq (Heap.size_push _ _)) ?_
 have ne:s.heap.objs.size≠s.heap.objs.size+1:=Nat.ne_of_lt (Nat.lt_succ_self _);refine⟨by rw[bc ne,dh],Nat.zero_le _,ne,e2,fun _=>none,(Heap.Ns1.of_empty e3).at fun o q=>Heap.get?_push_of_some _ q,fun _=>True.intro,fun y hy=>absurd rfl hy⟩
theorem az4{prog:Program}{w:World}{env:Env}{e:Expr}{f:Str}{pos:Pos}{s:Shared}{Q:Value->Shared->Prop}(hb:attributeBase e f env (eval e env)=eval e env)
  (h:wpAny (model prog w) A (eval e env) (fun o s₁=>wpAny (model prog w) A (getAttr o f true) Q E s₁) E s):wpAny (model prog w) A (eval (.Attribute e f pos) env) Q E s :=
 Attribute_any_ h (by rw[arm_eval_Attribute,hb])
end
def tFld(K:Fg9)(ta:TE)(f:Str):TE:=fun σ H Q=>ta σ H fun x H1=>∃a C dx fs v,x=.ref a/\H1 a=some (.ins C dx fs)/\Cls K C/\aa8 K C f/\fs.lookup f=some v/\Q v H1
def sFld(K:Fg9)(ta tv:TE)(f:Str):TS:=fun D σ H=>tv σ H fun y H1=>ta σ H1 fun x H2=>∃a C dx fs,x=.ref a/\H2 a=some (.ins C dx fs)/\Cls K C/\aa8 K C f/\fs.length < 1000 /\
 D.nx σ (upd H2 a (.ins C dx (putF f y fs)))
def InOp(X:Cx)(op:Operator)(rd:V->V->Hp->VK->Prop):Prop :=
 ∀(qv:List (Addr×Obj)) (s:Shared) (σ:St) (H:Hp) (x y:V) (u v:Value) (Q:VK),Inv X qv σ H s->RelV x u->RelV y v->rd x y H Q->wpAny (model X.prog X.w) X.A (inplaceOp op u v) (EP X qv σ Q) X.xe s
def ax0(K:Fg9)(ta tv:TE)(rd:V->V->Hp->VK->Prop)(f:Str):TS:=fun D σ H=>ta σ H fun x H1=>∃a C dx fs v,x=.ref a/\H1 a=some (.ins C dx fs)/\Cls K C/\aa8 K C f/\fs.lookup f=some v /\
 tv σ H1 fun y H2=>rd v y H2 fun z H3=>∃dx' fs',H3 a=some (.ins C dx' fs')/\fs'.length < 1000/\D.nx σ (upd H3 a (.ins C dx' (putF f z fs')))
section
variable{X:Cx}{o e value:Expr}{f:Str}{pos pos' tpos:Pos}{ta tv:TE}
theorem a1n(he:PE X e ta)(hb:attributeBase e f X.env (eval e X.env)=eval e X.env):PE X (.Attribute e f pos) (tFld X.K ta f):=by
 intro qv s σ H Q I h;refine az4 hb (thn (he qv s σ H _ I h) fun u s1 ⟨x,H1,I1,rx,a,C,dx,fs,v,ex,ea,c,n,l,q⟩ =>?_)
 subst ex;obtain rfl:u=Value.ref a:=rx;exact ag4 I1 ea c n l fun u' s2 I2 ru=>⟨v,H1,I2,ru,q⟩
theorem awu(ha:PE X o ta)(hv:PE X value tv)(hs:swapsWith value (some (.Attribute o f pos')) pos.line X.env=pure false):PS X (.Assign [.Attribute o f pos'] value pos) (sFld X.K ta tv f):=by
 intro qv s σ H D I h;refine plainObj_wpAny_Assign_Attribute (thn (hv qv s σ H _ I h) fun u s1 ⟨y,H1,I1,ry,q⟩=>thn (ha qv s1 σ H1 _ I1 q) fun ov s2 ⟨x,H2,I2,rx,a,C,dx,fs,ex,ea,c,n,l,q2⟩ =>?_) hs
 subst ex;obtain rfl:ov=Value.ref a:=rx;exact agv I2 ea c n l ry fun s3 I3=>⟨σ,_,I3,q2⟩
theorem aqn{op:Operator}{rd:V->V->Hp->VK->Prop}(ha:PE X o ta)(hv:PE X value tv)(hop:InOp X op rd):PS X (.AugAssign (.Attribute o f tpos) op value pos) (ax0 X.K ta tv rd f):=by
 intro qv s σ H D I h;refine wpAny_AugAssign_AttributeAny (thn (ha qv s σ H _ I h) fun ov s1 ⟨x,H1,I1,rx,a,C,dx,fs,v,ex,ea,c,n,l,q⟩ =>?_)
 subst ex;obtain rfl:ov=Value.ref a:=rx;refine ag4 I1 ea c n l fun u s2 I2 ru=>thn (hv qv s2 σ H1 _ I2 q) fun w3 s3 ⟨y,H2,I3,ry,q3⟩=>thn (hop qv s3 σ H2 v y u w3 _ I3 ru ry q3) fun w4 s4 ⟨z,H3,I4,rz,dx',fs',ea',l',q4⟩ =>?_
 exact agv I4 ea' c n l' rz fun s5 I5=>⟨σ,_,I5,q4⟩
def rAdd:V->V->Hp->VK->Prop:=fun x y H Q=>∃i j,x=.int i/\y=.int j/\Q (.int (i+j)) H
theorem a3g:InOp X .Add rAdd:=by
 rintro qv s σ H x y u v Q I rx ry ⟨i,j,rfl,rfl,q⟩
 obtain⟨t,rfl⟩:=(show ∃t,u=Value.int i t from rx)
 obtain⟨t',rfl⟩:=(show ∃t',v=Value.int j t' from ry)
 exact PyProof.Rows.iadd_int ⟨.int (i+j),H,I.tok _,⟨_,rfl⟩,q⟩
end
section
variable{X:Cx}{qv:List (Addr×Obj)}{σ:St}{H:Hp}{s:Shared}{A:Around}{E:Value->Shared->Prop}{Q:Value->Shared->Prop}{c:Value}{b:Bool}
inductive TyOf (K:Fg9) (H:Hp):V->Value->Prop where
 | non:TyOf K H .non (.type "NoneType")
 | bl (x:Bool):TyOf K H (.bl x) (.type "bool")
 | int (i:Int):TyOf K H (.int i) (.type "int")
 | str (x:Str):TyOf K H (.str x) (.type "str")
 | flt (x:UInt64):TyOf K H (.flt x) (.type "float")
 | lst {a:Addr} {xs:List V} (e:H a=some (.lst xs)):TyOf K H (.ref a) (.type "list")
 | frz {a:Addr} {o:Obj} {xs:List V} (e:H a=some (.frz o (.lst xs))):TyOf K H (.ref a) (.type "list")
 | tup {a:Addr} {xs:List V} (e:H a=some (.tup xs)):TyOf K H (.ref a) (.type "tuple")
 | dK {a:Addr} {kvs:List (Key×V)} (e:H a=some (.dK kvs)):TyOf K H (.ref a) (.type "dict")
 | dT {a:Addr} {kvs:List (List Key×V)} (e:H a=some (.dT kvs)):TyOf K H (.ref a) (.type "dict")
 | ins {a C dx:Addr} {fs:List (Str×V)} (e:H a=some (.ins C dx fs)) (cl:Cls K C) (ha:findIn K (.ref C) "__class__" = some (some (.builtin "object.__class__")))
   (hn:PySem.W.specialIn K (.builtin "object.__class__") "__get__" = some (some (.builtin "getset_descriptor.__get__"))) (htk:PySem.W.takesIn K (.builtin "object.__class__")=some true)
   (hm:PySem.W.mroIn K C (.type "object")=some true):TyOf K H (.ref a) (.ref C)
theorem arp{x:V}{u t:Value}(I:Inv X qv σ H s)(rx:RelV x u)(ty:TyOf X.K H x t)(e:PySem.W.kitOne X.K t c=some b)(h:∀tk,Q (.bool b) { s with toks:=tk }) :
  wpAny (model X.prog X.w) A (call (.builtin "isinstance") [u,c]) Q E s:=by
 cases ty with
 | non=>cases(show u=Value.none from rx);exact PySem.W.kia_one PySem.W.kitx_none I.kIn True.intro e (fun z=>nomatch z) h
 | bl y=>cases(show u=Value.bool y from rx);exact PySem.W.kia_one PySem.W.kitx_bool I.kIn True.intro e (fun z=>nomatch z) h
 | int i=>obtain⟨t,q⟩:=(show ∃t,u=Value.int i t from rx);cases q;exact PySem.W.kia_one PySem.W.kitx_int I.kIn True.intro e (fun z=>nomatch z) h
 | str y=>obtain⟨t,q⟩:=(show ∃t,u=Value.str y t from rx);cases q;exact PySem.W.kia_one PySem.W.kitx_str I.kIn True.intro e (fun z=>nomatch z) h
 | flt y=>obtain⟨t,q⟩:=(show ∃t,u=Value.float y t from rx);cases q;exact PySem.W.kia_one PySem.W.kitx_float I.kIn True.intro e (fun z=>nomatch z) h
 | @lst a xs ea =>
  cases(show u=Value.ref a from rx)
  obtain⟨_,_,n,_,h1⟩:=(show wu X.prog X.w H s.heap a (.lst xs) from I.hok a _ ea)
  exact PySem.W.kia_one PySem.W.kitx_list I.kIn ⟨_,h1,rfl⟩ e (fun z=>nomatch z) h
 | @frz a ob xs ea =>
  cases(show u=Value.ref a from rx)
  obtain⟨_,_,_,n,_,h1⟩:=(show wu X.prog X.w H s.heap a (.frz ob (.lst xs)) from I.hok a _ ea)
  exact PySem.W.kia_one PySem.W.kitx_list I.kIn ⟨_,h1,rfl⟩ e (fun z=>nomatch z) h
 | @tup a xs ea =>
  cases(show u=Value.ref a from rx)
  obtain⟨_,_,_,p⟩:=(show wu X.prog X.w H s.heap a (.tup xs) from I.hok a _ ea)
  obtain⟨o,h1,h2,_⟩:=p;exact PySem.W.kia_one PySem.W.kitx_tuple I.kIn ⟨o,h1,h2⟩ e (fun z=>nomatch z) h
 | @dK a kvs ea =>
  cases(show u=Value.ref a from rx)
  obtain⟨_,_,vs,_,p⟩:=(show wu X.prog X.w H s.heap a (.dK kvs) from I.hok a _ ea)
  obtain⟨o,es,ep,h1,h2,_⟩:=p;exact PySem.W.kia_one PySem.W.kitx_dict I.kIn ⟨o,h1,h2.1⟩ e (fun z=>nomatch z) h
 | @dT a kvs ea =>
  cases(show u=Value.ref a from rx)
  obtain⟨_,_,xs,_,o,es,ep,h1,h2,_⟩:=(show wu X.prog X.w H s.heap a (.dT kvs) from I.hok a _ ea)
  exact PySem.W.kia_one PySem.W.kitx_dict I.kIn ⟨o,h1,h2.1⟩ e (fun z=>nomatch z) h
 | @ins a C dx fs ea cl ha hn htk hm =>
  cases(show u=Value.ref a from rx)
  obtain⟨mA,O,_⟩:=aih I.hok ea;obtain⟨od,J,_⟩:=O.look;exact PySem.W.kia_one (PySem.W.kitx_own (cl.get _) cl.hd ha hn htk hm) I.kIn J e (fun z=>nomatch z) h
end
structure Room (k:Nat) (A:Around):Prop where
 hd:A.handled=none
 dp:A.depth+3*k+5 < recursionLimit
 un:A.units+16*k+200 < cLine
 gd:A.guards=some []
theorem Room.mono{j k:Nat}{A:Around}(r:Room k A)(h:j<=k):Room j A:=⟨r.hd,by have:=r.dp;omega,by have:=r.un;omega,r.gd⟩
theorem Room.deeper{k:Nat}{A:Around}(r:Room (k+1) A)(env:Env):Room k (A.deeper env) :=
 ⟨r.hd,by have:=r.dp;show A.depth+1+3*k+5 < _;omega,by have:=r.un;show A.units+3+16*k+200 < _;omega,r.gd⟩
theorem ao9{A:Around}{C:Addr}{us:List Value}{kw:List (Str×Value)}:(A.under (.builtin "type.__call__" ⟨.ref C::us,kw⟩)).depth=A.depth+1:=by
 first | rfl | simp[Around.under,Code.weight,Code.isCreation,Code.isGuard,Code.isCaller,Code.frames,Code.isFrame,guardIds]
theorem ao8{A:Around}{C:Addr}{us:List Value}{kw:List (Str×Value)}:(A.under (.builtin "type.__call__" ⟨.ref C::us,kw⟩)).units=A.units+1:=by
 first | rfl | simp[Around.under,Code.cUnits,Code.frames,Code.isFrame]
theorem aly{A:Around}{C:Addr}{us:List Value}{kw:List (Str×Value)}:(A.under (.builtin "type.__call__" ⟨.ref C::us,kw⟩)).guards=A.guards:=by first | rfl | simp[Around.under,Code.weight,Code.isCreation,Code.isGuard,Code.isCaller,Code.frames,Code.isFrame,guardIds]
theorem Room.make{k:Nat}{A:Around}(r:Room (k+1) A)(C:Addr)(us:List Value)(kw:List (Str×Value)):Room k (A.under (.builtin "type.__call__" ⟨.ref C::us,kw⟩)) :=
 ⟨r.hd,by have:=r.dp;rw[ao9];omega,by have:=r.un;rw[ao8];omega,by rw[aly];exact r.gd⟩
theorem Room.depth{k:Nat}{A:Around}(r:Room k A):A.depth < recursionLimit:=by have:=r.dp;omega
theorem Room.units{k:Nat}{A:Around}(r:Room k A):A.units+64 < cLine:=by have:=r.un;omega
def tNil:TA:=fun _ H Q=>Q [] H
def a5z(ta:TE)(tr:TA):TA:=fun σ H Q=>ta σ H fun x H1=>tr σ H1 fun xs H2=>Q (x::xs) H2
section
variable{X:Cx}{e:Expr}{es:List Expr}{te:TE}{t:TA}{pos:Pos}
theorem ajh:PA X [] tNil:=fun _ _ _ _ H Q I h=>Calls.spliced_nil ⟨[],H,I,.nil,h⟩
theorem zq(ha:PE X e te)(hr:PA X es t)(hs:starEach (e::es) X.env=(false,eval e X.env)::starEach es X.env:=by rfl):PA X (e::es) (a5z te t):=by
 intro pos qv s σ H Q I h;rw[hs];show wpAny _ _ (spliced ((false,eval e X.env)::backTo pos (starEach es X.env))) _ _ s;refine Calls.spliced_cons (thn (ha qv s σ H _ I h) fun u s1 ⟨x,H1,I1,r1,q1⟩ =>?_)
 exact thn (hr pos qv s1 σ H1 _ I1 q1) fun us s2 ⟨xs,H2,I2,r2,q2⟩=>⟨x::xs,H2,I2,.cons r1 r2,q2⟩
def tTup(t:TA):TE:=fun σ H Q=>t σ H fun xs H1=>xs.length<=sizeLine/\∀p,H1 p=none->Q (.ref p) (upd H1 p (.tup xs))
def tLst(t:TA):TE:=fun σ H Q=>t σ H fun xs H1=>xs.length<=sizeLine/\∀p,H1 p=none->Q (.ref p) (upd H1 p (.lst xs))
theorem a1f{x1}(h:PA X es t):PE X (.Tuple es x1 pos) (tTup t):=by
 intro qv s σ H Q I hq;refine wpAny_Tuple_spliced (thn (h pos qv s σ H _ I hq) fun us s1 ⟨xs,H1,I1,r,z,q⟩=>⟨by rw[<-r.length];exact z,?_⟩)
 have hf:H1 s1.heap.objs.size=none:=I1.hok.fresh (Nat.le_refl _);refine⟨.ref s1.heap.objs.size,upd H1 s1.heap.objs.size (.tup xs),I1.laid (t':=s1.toks) (fun b u e=>Heap.get?_push_of_some _ e) (Nat.le_refl _) ?_,rfl,q _ hf⟩
 exact⟨z,us,r,⟨_,Heap.get?_push_size _ rfl,rfl,rfl,_,rfl⟩⟩
theorem a1j(h:PA X es t):PE X (.List es pos) (tLst t):=by
 intro qv s σ H Q I hq;refine wpAny_List_spliced (thn (h pos qv s σ H _ I hq) fun us s1 ⟨xs,H1,I1,r,z,q⟩=>⟨by rw[<-r.length];exact z,?_⟩)
 have hf:H1 s1.heap.objs.size=none:=I1.hok.fresh (Nat.le_refl _);refine⟨.ref s1.heap.objs.size,upd H1 s1.heap.objs.size (.lst xs),I1.laid (t':=s1.toks) (fun b u e=>Heap.get?_push_of_some _ e) (Nat.le_refl _) ?_,rfl,q _ hf⟩
 exact⟨z,us,0,r,Heap.get?_push_size _ rfl⟩
end
abbrev Sp:=List V->Hp->VK->XK->Prop
abbrev CXT:=List Env->Hp->Shared->XK->Value->Shared->Prop
structure Env0 (P:Program) (w:World) (K:Fg9) (mg:Str->Option Value) (base:Heap) (A:Around) (outer:List Env) (s:Shared) (H:Hp):Prop where
 frames:A.frames=some outer
 mod:Mod K mg base
 bs:∀b o,base.get? b=some o->s.heap.get? b=some o/\H b=none
 bsz:base.objs.size<=s.heap.objs.size
 funs:s.heap.FunFrames base outer
 frf:∀b∈frs outer,H b=none
 hok:HOk P w H s.heap
 bare:AllBare s.gens
def CE(outer:List Env)(P:Program)(w:World)(H:Hp)(s:Shared)(Q:VK)(u:Value)(s':Shared):Prop :=
 ∃v H',s'.os=s.os/\AllBare s'.gens/\Un (frs outer) [] H H' s.heap s'.heap/\HOk P w H' s'.heap/\RelV v u/\Q v H'
def CR(CX:CXT)(outer:List Env)(P:Program)(w:World)(H:Hp)(s:Shared)(Q:VK)(E:XK)(r:Result)(s':Shared):Prop :=
 match r with
 | .ok (.ret u)=>CE outer P w H s Q u s'
 | .ok _=>False
 | .error e=>CX outer H s E e s'
structure FnOk (P:Program) (w:World) (K:Fg9) (mg:Str->Option Value) (base:Heap) (CX:CXT) (k:Nat) (f:Addr) (fd:FuncData) (ps:List Str) (sp:Sp):Prop where
 len:∀vs H Q E,sp vs H Q E->vs.length=ps.length
 run:∀(A:Around) (outer:List Env) (s:Shared) (H:Hp) (args:Args) (us:List Value) (vs:List V) (Q:VK) (E:XK),Room k A->Env0 P w K mg base A outer s H->BindsTo s fd args (ps.zip us)->Vals vs us->sp vs H Q E ->
  codeAny (model P w) A (.call (.ref f) args) (CR CX outer P w H s Q E) s
theorem Env0.make{P:Program}{w:World}{K:Fg9}{mg:Str->Option Value}{base:Heap}{A:Around}{outer:List Env}{s:Shared}{H:Hp}(e:Env0 P w K mg base A outer s H)(C:Addr)(us:List Value)(kw:List (Str×Value)) :
  Env0 P w K mg base (A.under (.builtin "type.__call__" ⟨.ref C::us,kw⟩)) outer s H:=⟨by first | exact e.frames | (simpa[Around.under,Code.envs,Code.isFrame,pushEnvs] using e.frames),e.mod,e.bs,e.bsz,e.funs,e.frf,e.hok,e.bare⟩
section
variable{X:Cx}{qv:List (Addr×Obj)}{σ:St}{H:Hp}{s s':Shared}
theorem Inv.env0(I:Inv X qv σ H s):Env0 X.prog X.w X.K X.mg X.base X.A X.stack s H :=
 ⟨I.ok.frames,I.ok.mod,I.bs,Nat.le_trans I.ok.bsz I.sz,I.stack,I.stkFree,I.hok,I.bare⟩
theorem Inv.after{Q:VK}{u:Value}(I:Inv X qv σ H s)(h:CE X.stack X.prog X.w H s Q u s'):EP X qv σ Q u s':=by
 obtain⟨v,H',os,bare,un,hok,r,q⟩:=h;obtain⟨hh,g,d,t,os'⟩:=s';obtain rfl:os'=s.os:=os;exact⟨v,H',I.call (h':=hh) (g':=g) (d':=d) (t':=t) (ch:=[]) un hok bare (fun b z=>absurd z (by simp)),r,q⟩
end
def a0q(sp:Sp)(dvs:List V)(E:XK)(t:TA):TE:=fun σ H Q=>t σ H fun vs H1=>sp (vs++dvs) H1 Q E
def a5w(C:Addr)(m:Str)(sp:Sp)(dvs:List V)(E:XK)(ta:TE)(t:TA):TE:=fun σ H Q=>ta σ H fun x H1=>∃a dx fs,x=.ref a/\H1 a=some (.ins C dx fs)/\fs.lookup m=none /\
 t σ H1 fun vs H2=>sp (x::(vs++dvs)) H2 Q E
def a5x(C:Addr)(sp:Sp)(dvs:List V)(E:XK)(t:TA):TE:=fun σ H Q=>t σ H fun vs H1=>∀x dx,H1 x=none->H1 dx=none->dx≠x ->
 sp (.ref x::(vs++dvs)) (upd (upd H1 dx (.own x)) x (.ins C dx [])) (fun v H2=>v=.non/\Q (.ref x) H2) E
def Binds(K:Fg9)(fd:FuncData)(ps:List Str)(ds:List Value):Prop :=
 ∀(s:Shared) (us:List Value),K.In s.heap->(us++ds).length=ps.length->BindsTo s fd ⟨us,[]⟩ (ps.zip (us++ds))
theorem Binds.all{K:Fg9}{fd:FuncData}{ps:List Str}(h:∀us:List Value,us.length=ps.length->bindArgs fd ⟨us,[]⟩=pure (ps.zip us)):Binds K fd ps []:=fun s us _ hl=>by
 rw[List.append_nil] at hl ⊢
 exact .of_eq (h us hl)
def ahi(CX:CXT)(X:Cx)(E:XK):Prop:=∀(qv:List (Addr×Obj)) (σ:St) (H:Hp) (s:Shared) (e:Value) (s':Shared),Inv X qv σ H s->CX X.stack H s E e s'->X.xe e s'
section
variable{X:Cx}{CX:CXT}{k:Nat}{f C:Addr}{fd:FuncData}{ps:List Str}{sp:Sp}{dvs:List V}{ds:List Value}{E:XK}{x m:Str}{p pos apos:Pos}{e o:Expr}{es:List Expr}{ta:TE}{t:TA}
theorem awr{qv:List (Addr×Obj)}{σ:St}{H:Hp}{s:Shared}{Q:VK}{us:List Value}{vs:List V}(F:FnOk X.prog X.w X.K X.mg X.base CX k f fd ps sp)(hr:Room k X.A)(hb:Binds X.K fd ps ds)(hd:Vals dvs ds)(hx:ahi CX X E)
  (I:Inv X qv σ H s) (r:Vals vs us) (h:sp (vs++dvs) H Q E):wpAny (model X.prog X.w) X.A (call (.ref f) us) (EP X qv σ Q) X.xe s:=by
 have r2:Vals (vs++dvs) (us++ds):=r.append hd;have hl:(us++ds).length=ps.length:=by rw[<-r2.length];exact F.len _ _ _ _ h
 refine wpAny_call (codeAny_mono (F.run X.A X.stack s H ⟨us,[]⟩ (us++ds) (vs++dvs) Q E hr I.env0 (hb s us I.kIn hl) r2 h) fun r s' hq =>?_)
 cases r with
 | error e=>exact hx qv σ H s e s' I hq
 | ok fl =>
  cases fl with
  | ret u=>exact I.after hq
  | next=>exact False.elim hq
  | brk=>exact False.elim hq
  | cont=>exact False.elim hq
theorem aym(F:FnOk X.prog X.w X.K X.mg X.base CX k f fd ps sp)(hr:Room k X.A)(hg:Gl X x)(hm:X.mg x=some (.ref f))(hk:keepIn X.K (.ref f)=true)(hb:Binds X.K fd ps ds)(hd:Vals dvs ds)(hx:ahi CX X E)
  (ha:PA X (e::es) t) (hdb:(x==("__debug__" : Str))=false:=by decide) (he:starEach (e::es) X.env=(false,eval e X.env)::starEach es X.env:=by rfl) (hpl:(backTo pos (starEach es X.env)).any (·.1)=false:=by rfl) :
  PE X (.Call (.Name x p) (e::es) [] pos) (a0q sp dvs E t):=by
 intro qv s σ H Q I h;refine wpAny_Call_Name_kw (ara I hg hm ?_ hdb);refine PySem.W.callWith_K (h₀:=X.base) I.ok.mod.kin hk (thn (ha pos qv s σ H _ I h) fun us s1 ⟨vs,H1,I1,r,q⟩=>⟨I1.kIn,?_⟩) he hpl
 exact awr F hr hb hd hx I1 r q
theorem ayi{pl:Sem Bool}(he:PE X o ta)(c:Cls X.K C)(hm:Meth X.K C m f)(F:FnOk X.prog X.w X.K X.mg X.base CX k f fd ps sp)(hr:Room k X.A)(hb:Binds X.K fd ps ds)(hd:Vals dvs ds)(hx:ahi CX X E)(ha:PA X (e::es) t)
  (hst:starEach (e::es) X.env=(false,eval e X.env)::starEach es X.env:=by rfl) (hpl:(backTo pos (starEach es X.env)).any (·.1)=false:=by rfl)
  (ht:eval (.Call (.Attribute o m apos) (e::es) [] pos) X.env=(do
   let ov <-eval o X.env
   standAt apos.atName
   let (f,first) <-holding [ov] (getMethod ov m pl)
   callWith pos f first (backTo pos (starEach (e::es) X.env)) (backToKw pos (keywordEach [] X.env))):=by rfl) :
  PE X (.Call (.Attribute o m apos) (e::es) [] pos) (a5w C m sp dvs E ta t):=by
 intro qv s σ H Q I h;refine PySem.W.methodCall_KW (pl:=pl) (thn (he qv s σ H _ I h) fun u s1 ⟨x,H1,I1,rx,a,dx,fs,ex,ea,l,q⟩ =>?_) ht
 subst ex;obtain rfl:u=Value.ref a:=rx;refine ape I1 ea c hm l ?_;refine PySem.W.callWith_K (first:=[.ref a]) (h₀:=X.base) I.ok.mod.kin hm.kp (thn (ha pos qv s1 σ H1 _ I1 q) fun us s2 ⟨vs,H2,I2,r,q2⟩=>⟨I2.kIn,?_⟩) hst hpl
 exact awr (us:=.ref a::us) (vs:=.ref a::vs) F hr hb hd hx I2 (.cons rfl r) q2
structure Mk (K:Fg9) (C f:Addr):Prop where
 makes:PySem.W.makesIn K C=true
 init:findIn K (.ref C) "__init__" = some (some (.ref f))
 fn:PySem.W.isFn K (.ref f)=true
 kp:keepIn K (.ref C)=true
theorem auc{qv:List (Addr×Obj)}{σ:St}{H:Hp}{s:Shared}{Q:VK}{us:List Value}{vs:List V}(M:Mk X.K C f)(F:FnOk X.prog X.w X.K X.mg X.base CX k f fd ps sp)(hr:Room (k+1) X.A)(hb:Binds X.K fd ps ds)(hd:Vals dvs ds)
  (hx:ahi CX X E) (I:Inv X qv σ H s) (r:Vals vs us)
  (h:∀x dx,H x=none->H dx=none->dx≠x->sp (.ref x::(vs++dvs)) (upd (upd H dx (.own x)) x (.ins C dx [])) (fun v H2=>v=.non/\Q (.ref x) H2) E) :
  wpAny (model X.prog X.w) X.A (call (.ref C) us) (EP X qv σ Q) X.xe s:=by
 have hq:=h (s.heap.objs.size+1) s.heap.objs.size (I.hok.fresh (Nat.le_succ _)) (I.hok.fresh (Nat.le_refl _)) (Nat.ne_of_lt (Nat.lt_succ_self _));have I2:=Inv.made (C:=C) I;have r2:Vals (V.ref (s.heap.objs.size+1)::(vs++dvs)) (Value.ref (s.heap.objs.size+1)::(us++ds)):=.cons rfl (r.append hd);have hl:(Value.ref (s.heap.objs.size+1)::us++ds).length=ps.length:=by
  have e:=r2.length;rw[F.len _ _ _ _ hq] at e;exact e.symm
 refine wpAny_call (au8 (f:=f) I.kIn M.makes M.init (beq_iff_eq.mp M.fn) (codeAny_mono (F.run _ X.stack _ _ ⟨Value.ref (s.heap.objs.size+1)::us,[]⟩ (Value.ref (s.heap.objs.size+1)::(us++ds)) _ _ E (hr.make C us [])
  (I2.env0.make C us []) (hb _ (Value.ref (s.heap.objs.size+1)::us) I2.kIn hl) r2 hq) fun r s' hq' =>?_))
 cases r with
 | error e=>exact hx qv σ _ _ e s' I2 hq'
 | ok fl =>
  cases fl with
  | ret u =>
   obtain⟨v,H',I3,rv,ev,q3⟩:=I2.after hq';subst ev;exact⟨rv,⟨V.ref (s.heap.objs.size+1),H',I3,rfl,q3⟩⟩
  | next=>exact False.elim hq'
  | brk=>exact False.elim hq'
  | cont=>exact False.elim hq'
theorem ayj(M:Mk X.K C f)(F:FnOk X.prog X.w X.K X.mg X.base CX k f fd ps sp)(hr:Room (k+1) X.A)(hg:Gl X x)(hm:X.mg x=some (.ref C))(hb:Binds X.K fd ps ds)(hd:Vals dvs ds)(hx:ahi CX X E)
  (ha:PA X (e::es) t) (hdb:(x==("__debug__" : Str))=false:=by decide) (he:starEach (e::es) X.env=(false,eval e X.env)::starEach es X.env:=by rfl) (hpl:(backTo pos (starEach es X.env)).any (·.1)=false:=by rfl) :
  PE X (.Call (.Name x p) (e::es) [] pos) (a5x C sp dvs E t):=by
 intro qv s σ H Q I h;refine wpAny_Call_Name_kw (ara I hg hm ?_ hdb);refine PySem.W.callWith_K (h₀:=X.base) I.ok.mod.kin M.kp (thn (ha pos qv s σ H _ I h) fun us s1 ⟨vs,H1,I1,r,q⟩=>⟨I1.kIn,?_⟩) he hpl
 exact auc M F hr hb hd hx I1 r q
end
section
variable{X:Cx}{CX:CXT}{k:Nat}{f C:Addr}{fd:FuncData}{ps ks:List Str}{sp:Sp}{E:XK}{x m:Str}{p pos apos kpos:Pos}{e o:Expr}{es:List Expr}{kws:List Keyword}{te ta:TE}{t tk:TA}{nm:Option Str}
structure KBinds (K:Fg9) (fd:FuncData) (ps ks:List Str) (g:List Value->List Value->List Value) (gV:List V->List V->List V):Prop where
 to:∀(s:Shared) (us ws:List Value),K.In s.heap->(g us ws).length=ps.length->BindsTo s fd ⟨us,ks.zip ws⟩ (ps.zip (g us ws))
 rel:∀{vs:List V} {us:List Value} {zs:List V} {ws:List Value},Vals vs us->Vals zs ws->Vals (gV vs zs) (g us ws)
variable{g:List Value->List Value->List Value}{gV:List V->List V->List V}
end
structure FnScope (N P:List Str) (sc:Scope):Prop where
 kind:sc.kind=.function
 co:sc.isCoroutine=false
 gen:sc.isGenerator=false
 nd:N.Nodup
 pre:N.take P.length=P
 par:∀x∈P,sc.names.lookup x=some .local∨sc.names.lookup x=some .cell
 nofree:∀y∈sc.names,y.2≠.free
theorem aks{kindOf:Str->Option NameKind}{x:Str}:∀{binds:List (Str×Value)} {m:Str->Option Value},(∀v,(x,v)∉binds)->bindL kindOf binds m x=m x
 | [],_,_=>rfl
 | (n,v)::r,m,h=>by
  unfold bindL;rw[aks fun w hw=>h w (List.mem_cons_of_mem _ hw)]
  split
  ·have:x≠n:=by rintro rfl;exact h v List.mem_cons_self
   simp[this]
  ·rfl
theorem aku{kindOf:Str->Option NameKind}{x:Str}:∀{binds:List (Str×Value)} {m:Str->Option Value},(∀v,(x,v)∉binds)->bindC kindOf binds m x=m x
 | [],_,_=>rfl
 | (n,v)::r,m,h=>by
  unfold bindC;rw[aku fun w hw=>h w (List.mem_cons_of_mem _ hw)]
  split
  ·rfl
  ·have:x≠n:=by rintro rfl;exact h v List.mem_cons_self
   simp[this]
theorem akt{kindOf:Str->Option NameKind}{x:Str}{v:Value}:∀{P:List Str} {vs:List Value} {i:Nat} {m:Str->Option Value},P.Nodup->P[i]? = some x->vs[i]? = some v->kindOf x=some .local ->
  bindL kindOf (P.zip vs) m x=some v
 | [],_,_,_,_,h,_,_=>by simp at h
 | _::_,[],_,_,_,_,h,_=>by simp at h
 | p::P,w::vs,0,m,nd,h1,h2,hk=>by
  simp at h1 h2;subst h1;subst h2;show bindL kindOf ((p,w)::P.zip vs) m p=_;unfold bindL;rw[aks fun v hv=>(List.nodup_cons.mp nd).1 (List.of_mem_zip hv).1,if_pos hk]
  simp
 | p::P,w::vs,i+1,m,nd,h1,h2,hk=>by
  show bindL kindOf ((p,w)::P.zip vs) m x=_;unfold bindL;exact akt (i:=i) (List.nodup_cons.mp nd).2 (by simpa using h1) (by simpa using h2) hk
theorem akv{kindOf:Str->Option NameKind}{x:Str}{v:Value}:∀{P:List Str} {vs:List Value} {i:Nat} {m:Str->Option Value},P.Nodup->P[i]? = some x->vs[i]? = some v->kindOf x≠some .local ->
  bindC kindOf (P.zip vs) m x=some v
 | [],_,_,_,_,h,_,_=>by simp at h
 | _::_,[],_,_,_,_,h,_=>by simp at h
 | p::P,w::vs,0,m,nd,h1,h2,hk=>by
  simp at h1 h2;subst h1;subst h2;show bindC kindOf ((p,w)::P.zip vs) m p=_;unfold bindC;rw[aku fun v hv=>(List.nodup_cons.mp nd).1 (List.of_mem_zip hv).1,if_neg hk]
  simp
 | p::P,w::vs,i+1,m,nd,h1,h2,hk=>by
  show bindC kindOf ((p,w)::P.zip vs) m x=_;unfold bindC;exact akv (i:=i) (List.nodup_cons.mp nd).2 (by simpa using h1) (by simpa using h2) hk
def start(N:List Str)(vs:List V):St:=vs.map some++List.replicate (N.length - vs.length) none
def cxOf(CX:CXT)(P:Program)(w:World)(K:Fg9)(mg:Str->Option Value)(base:Heap)(N:List Str)(qual:Str)(scope:Scope)(f:Addr)(cd:Value)(A:Around)(outer:List Env)(s:Shared)(H:Hp)(E:XK):Cx where
 prog:=P
 w:=w
 K:=K
 mg:=mg
 base:=base
 A:=A.deeper (envOfC qual scope s.heap.objs.size f cd)
 N:=N
 s₀:=s
 H₀:=H
 env:=envOfC qual scope s.heap.objs.size f cd
 outer:=outer
 stack:=envOfC qual scope s.heap.objs.size f cd::outer
 ex:=[]
 calm:=true
 fn:=fun _=>true
 pn:=[]
 xe:=fun e s'=>wpAny (model P w) (A.deeper (envOfC qual scope s.heap.objs.size f cd)) (leaving (envOfC qual scope s.heap.objs.size f cd) e) (fun _ s''=>CX outer H s E e s'') (fun e' s''=>CX outer H s E e' s'') s'
theorem aoa{sc:Scope}{n:Nat}{x:Str}(h:sc.names.lookup x=some .cell):∃c,(cellsFrom n sc.names []).lookup x=some c:=by
 have q:=PySem.W.cellsFrom_some sc.names n [] (.inl h);exact Option.isSome_iff_exists.mp q
theorem arq{CX:CXT}{P:Program}{w:World}{K:Fg9}{mg:Str->Option Value}{base:Heap}{N ps:List Str}{qual:Str}{scope:Scope}{f:Addr}{cd:Value}{A:Around}{outer:List Env}{s s1:Shared}{H:Hp}{E:XK}{us:List Value}{vs:List V}
  (S:FnScope N ps scope) (hd:A.handled=none) (e0:Env0 P w K mg base A outer s H) (hl:vs.length=ps.length) (r:Vals vs us)
  (x:InCallC s s.heap.objs.size (bindL (envOfC qual scope s.heap.objs.size f cd).kindOf (ps.zip us) fun _=>none) (cellsFrom (s.heap.objs.size+1) scope.names []) (bindC (envOfC qual scope s.heap.objs.size f cd).kindOf (ps.zip us) fun _=>none) s1) :
  Inv (cxOf CX P w K mg base N qual scope f cd A outer s H E) [] (start N vs) H s1:=by
 have hpl:ps.length<=N.length:=by have:=congrArg List.length S.pre;rw[List.length_take] at this;omega
 obtain⟨h1,tk,rfl,hk⟩:=x.done;have noA:∀b:Addr,b∉(cxOf CX P w K mg base N qual scope f cd A outer s H E).ex:=fun b z=>absurd (show b∈([]:List Addr) from z) (by simp)
 refine⟨⟨e0.mod,S.kind,rfl,rfl,Nat.le_refl _,fun y z c h1 h2 =>?_,fun y hy =>?_,fun y c _ h =>?_,fun _=>hd,Around.frames_deeper e0.frames,.inr ⟨rfl,rfl⟩,fun b z=>absurd z (noA b),e0.bs,e0.bsz,fun b _ _=>noA b,fun b z=>absurd z (noA b),e0.funs,e0.frf⟩,
  rfl,e0.bare,Un.kept hk,⟨_,x.toInCall.ns,fun i y v h1 h2 h3 =>?_⟩,fun y c h=>⟨_,x.cell y c h⟩,e0.hok.fresh (Nat.le_refl _),fun y c h =>?_,fun p hp=>absurd (show p∈([]:List (Addr×Obj)) from hp) (by simp),e0.hok.kept hk,?_⟩
 ·exact name_of_addr x.apart (PySem.mem_of_lookup h1) (PySem.mem_of_lookup h2)
 ·have hy:scope.names.lookup y=some .cell∨scope.names.lookup y=some .free:=hy;rcases hy with hy | hy
  ·exact aoa hy
  ·exact absurd rfl (S.nofree _ (PySem.mem_of_lookup hy))
 ·exact Nat.le_of_lt (x.above y c (PySem.mem_of_lookup h))
 ·have hi:i < vs.length:=by
   unfold start at h2
   by_cases hi:i < vs.length
   ·exact hi
   ·rw[List.getElem?_append_right (by simpa using hi)] at h2
    rw[List.getElem?_replicate] at h2;split at h2 <;> cases h2
  have ha:vs[i]? = some v:=by
   unfold start at h2;rw[List.getElem?_append_left (by simpa using hi),List.getElem?_map] at h2
   cases e:vs[i]? with
   | none=>rw[e] at h2;cases h2
   | some a=>rw[e] at h2;cases h2;rfl
  obtain⟨u,hu,rv⟩:=r.get ha;have hp:ps[i]? = some y:=by
   rw[<-S.pre,List.getElem?_take_of_lt (by omega)];exact h1
  have ndP:ps.Nodup:=by rw[<-S.pre];exact S.nd.sublist (List.take_sublist _ _)
  refine⟨u,rv,?_⟩;rcases S.par y (List.mem_of_getElem? hp) with k | k
  ·exact .inl ⟨k,akt ndP hp hu k⟩
  ·obtain⟨c,e⟩:=aoa (n:=s.heap.objs.size+1) k;refine .inr ⟨.inl k,c,e,?_⟩;have q:=x.cell y c e;rw[akv ndP hp hu (by show scope.names.lookup y≠_;rw[k];decide)] at q
   exact q
 ·exact e0.hok.fresh (Nat.le_of_lt (x.above y c (PySem.mem_of_lookup h)))
 ·unfold start;show _=N.length;rw[List.length_append,List.length_map,List.length_replicate];omega
theorem a7z{CX:CXT}{P:Program}{w:World}{K:Fg9}{mg:Str->Option Value}{base:Heap}{k:Nat}{f:Addr}{name qual:Str}{params:Arguments}{body:List Stmt}{scope:Scope}{dV kV doc pm cdv ct oc:Value}{an od:Option Addr}
  {osl:Array (Option Value)} {N ps:List Str} {sp:Sp} (lk:K.lookup f=some ⟨oc,od,.func (fnOf name qual params body scope dV kV doc pm an cdv ct),osl⟩) (hcd:codeIn K cdv qual=true) (S:FnScope N ps scope)
  (len:∀vs H Q E,sp vs H Q E->vs.length=ps.length)
  (hbody:∀(A:Around) (outer:List Env) (s:Shared) (H:Hp) (vs:List V) (Q:VK) (E:XK),Room k (A.deeper (envOfC qual scope s.heap.objs.size f cdv))->sp vs H Q E ->
   ∃t,PSs (cxOf CX P w K mg base N qual scope f cdv A outer s H E) body t/\t { nx:=fun _ H'=>Q .non H',rt:=Q } (start N vs) H) :
  FnOk P w K mg base CX (k+1) f (fnOf name qual params body scope dV kV doc pm an cdv ct) ps sp:=by
 refine⟨len,fun A outer s H args us vs Q E hr e0 hb r hsp =>?_⟩
 have hl:=len _ _ _ _ hsp;have KX:K.In s.heap:=e0.mod.kin.keeps fun b o e=>(e0.bs b o e).1
 have lim:s.heap.NoLimit:=e0.mod.nolimit.keeps fun b o e=>(e0.bs b o e).1
 have hkind:∀y∈ps.zip us,scope.names.lookup y.1=some .local∨(scope.names.lookup y.1=some .cell/\((cellsFrom (s.heap.objs.size+1) scope.names []).lookup y.1).isSome=true):=fun⟨n,v⟩ hy=>by
  rcases S.par n (List.of_mem_zip hy).1 with q | q
  ·exact .inl q
  ·exact .inr ⟨q,PySem.W.cellsFrom_some _ _ _ (.inl q)⟩
 refine codeAny_call_function hr.depth (KX _ _ lk) rfl S.co S.gen rfl (PySem.W.codeRec_of KX hcd) (hb _ _ _ _ ?_);refine wpAny_newFunctionEnv_cells S.kind hkind fun env he s1 x =>?_
 subst he;refine⟨lim.keeps x.toInCall.keep,codeAny_func ?_⟩;obtain⟨t,ht,hq⟩:=hbody A outer s H vs Q E (hr.deeper _) hsp;have I:Inv (cxOf CX P w K mg base N qual scope f cdv A outer s H E) [] (start N vs) H s1:=arq S hr.hd e0 hl r x;refine wpAny_mono (ht [] s1 (start N vs) H _ I hq) (fun fl s' hs =>?_) fun e s' hs=>hs
 have fin:∀{σ':St} {H':Hp} {v:V} {u:Value},Inv (cxOf CX P w K mg base N qual scope f cdv A outer s H E) [] σ' H' s'->RelV v u->Q v H'->CE outer P w H s Q u s' :=
  fun{σ' H' v u} J rv q=>⟨v,H',J.os,J.bare,J.base,J.hok,rv,q⟩
 cases fl with
 | ret u =>
  obtain⟨v,σ',H',J,rv,q⟩:=hs;exact fin J rv q
 | next =>
  obtain⟨σ',H',J,q⟩:=hs;exact fin (v:=V.non) (u:=Value.none) J rfl q
 | brk =>
  obtain⟨_,_,_,q⟩:=hs;exact False.elim q
 | cont =>
  obtain⟨_,_,_,q⟩:=hs;exact False.elim q
section
variable{X:Cx}{x:Str}{p pos:Pos}{e:Expr}{es:List Expr}{t:TA}{id T:String}{r:List V->Hp->VK->Prop}
def tCB(r:List V->Hp->VK->Prop)(t:TA):TE:=fun σ H Q=>t σ H fun vs H1=>r vs H1 Q
theorem am3(hc:aei X (.builtin id) r)(hg:Gl X x)(hm:X.mg x=none)(hv:bootBuiltins x=some (.builtin id))(ha:PA X (e::es) t)(hn:x ≠ "__name__" := by decide)(hdb:(x==("__debug__" : Str))=false:=by decide)
  (he:starEach (e::es) X.env=(false,eval e X.env)::starEach es X.env:=by rfl) (hpl:(backTo pos (starEach es X.env)).any (·.1)=false:=by rfl):PE X (.Call (.Name x p) (e::es) [] pos) (tCB r t):=by
 intro qv s σ H Q I h;refine wpAny_Call_Name_kw (afm I hg hm hv ?_ hn hdb);exact PyProof.Rows.callWith_builtin1 (thn (ha pos qv s σ H _ I h) fun us s1 ⟨vs,H1,I1,r1,q1⟩=>hc qv s1 σ H1 vs us Q I1 r1 q1) he hpl
theorem aqv(hc:aei X (.type T) r)(hg:Gl X x)(hm:X.mg x=none)(hv:bootBuiltins x=some (.type T))(ha:PA X (e::es) t)(hn:x ≠ "__name__" := by decide)(hdb:(x==("__debug__" : Str))=false:=by decide)
  (he:starEach (e::es) X.env=(false,eval e X.env)::starEach es X.env:=by rfl) (hpl:(backTo pos (starEach es X.env)).any (·.1)=false:=by rfl):PE X (.Call (.Name x p) (e::es) [] pos) (tCB r t):=by
 intro qv s σ H Q I h;refine wpAny_Call_Name_kw (afm I hg hm hv ?_ hn hdb);exact PyProof.Rows.callWith_type1 (thn (ha pos qv s σ H _ I h) fun us s1 ⟨vs,H1,I1,r1,q1⟩=>hc qv s1 σ H1 vs us Q I1 r1 q1) he hpl
end
end L2
namespace HT
open PySem PyProof.Rows
section
open PySem.SeqAt
open PySem.AutoSeq1 (wpAny_loadPart')
open PySem.MeetsSeq PySem.MeetsSeq2 PySem.MeetsSeq3
end
section
variable{prog:Program}{w:World}{A:Around}{E:Value->Shared->Prop}{s:Shared}
theorem azx{t b:Addr}{vs ws:List Value}{Q:Value->Shared->Prop}(ht:IsTup s.heap t vs.toArray)(hb:IsTup s.heap b ws.toArray)(hv:vs≠[])
  (h1:ws=[]->Q (.ref t) s) (h2:ws≠[]->Q (.ref s.heap.objs.size) { s with heap:=s.heap.push { cls:=.type "tuple", data:=.seq (vs++ws).toArray } })
  (hsz:vs.length+ws.length<=sizeLine):wpAny (model prog w) A (binaryOp .Add (.ref t) (.ref b)) Q E s:=by
 obtain⟨⟨cls,dd,data,sl⟩,ho,hc,n,hd⟩:=id ht;obtain⟨⟨cls2,dd2,data2,sl2⟩,ho2,hc2,n2,hd2⟩:=id hb;simp only at hc hd hc2 hd2;subst hc hd hc2 hd2;have e:vs.toArray++ws.toArray=(vs++ws).toArray:=by simp
 by_cases hw:ws=[]
 ·exact concat_meets ⟨_,ho,rfl⟩ ⟨_,ho2,rfl⟩ noFill_tuple_add seq_tuple_add PySem.F.slot_tuple_add PySem.F.entry_tuple_add (PySem.F.args_tuple_add_2 _ _)
   (tuple_addW1 t b vs.toArray ws.toArray n n2 dd dd2 sl sl2 (by simpa using hv) (by simp[hw])) ⟨ho,ho2,h1 hw⟩
 ·refine concat_meets ⟨_,ho,rfl⟩ ⟨_,ho2,rfl⟩ noFill_tuple_add seq_tuple_add PySem.F.slot_tuple_add PySem.F.entry_tuple_add (PySem.F.args_tuple_add_2 _ _)
   (tuple_addW2 t b vs.toArray ws.toArray n n2 dd dd2 sl sl2 (by simpa using hv) (by simpa using hw) (by rw[List.size_toArray,List.size_toArray];exact hsz)) ⟨ho,ho2,?_⟩
  rw[e];exact h2 hw
def sIx(n d:Nat):Option Int->Nat
 | none=>d
 | some v=>if v < 0 then (v+(n:Int)).toNat else min v.toNat n
theorem a0z(n d:Nat)(hd:d<=n)(o:Option Int):sIx n d o<=n:=by
 cases o with
 | none=>exact hd
 | some v =>
  show(if v < 0 then (v+(n:Int)).toNat else min v.toNat n)<=n
  by_cases hv:v < 0
  ·rw[if_pos hv];omega
  ·rw[if_neg hv];exact Nat.min_le_right _ _
theorem asw(v:Int)(n d:Nat):(if v < 0 then max (v+(n:Int)) 0 else min v (n:Int))=((sIx n d (some v):Nat):Int):=by
 show(if v < 0 then max (v+(n:Int)) 0 else min v (n:Int))=(((if v < 0 then (v+(n:Int)).toNat else min v.toNat n):Nat):Int)
 by_cases hv:v < 0
 ·simp only[if_pos hv];omega
 ·simp only[if_neg hv];omega
theorem apn(lo hi:Option Int)(n:Nat):Builtin.Slice.sliceAdjust lo hi 1 (n:Int)=(((sIx n 0 lo:Nat):Int),((sIx n n hi:Nat):Int)):=by
 have h1:¬((1:Int) < 0):=by omega
 unfold Builtin.Slice.sliceAdjust;simp only[h1,if_false];refine Prod.ext ?_ ?_
 ·cases lo with
  | none=>rfl
  | some v=>exact asw v n 0
 ·cases hi with
  | none=>rfl
  | some v=>exact asw v n n
theorem aoz(i j:Nat):Builtin.Slice.slicePlaces (i:Int) (j:Int) 1=j - i:=by
 unfold Builtin.Slice.slicePlaces;have h1:(1:Int) > 0:=by omega
 simp only[h1,if_true,Int.ediv_one];split <;> omega
theorem agu{v:Value}{o:Option Int}{Q:Option Int->Shared->Prop}(p:IsPart v o)(h:Q o s):wpAny (model prog w) A (Builtin.Slice.slicePartIndex v) Q E s:=by
 cases p with
 | none=>exact slicePart_none h
 | int i t=>exact slicePart_int h
theorem aad{sl:Addr}{vl vu:Value}{lo hi:Option Int}{n:Nat}{Q:Int×Int×Nat->Shared->Prop}(hs:s.heap.IsSliceOf sl vl vu .none)(pl:IsPart vl lo)(pu:IsPart vu hi)
  (h:Q (((sIx n 0 lo:Nat):Int),1,sIx n n hi - sIx n 0 lo) s):wpAny (model prog w) A (Builtin.Slice.sliceApplied (.ref sl) (pure (n:Int))) Q E s:=by
 obtain⟨os,hos,hcs,hds⟩:=id hs;unfold Builtin.Slice.sliceApplied Builtin.Slice.sliceFields;refine wpAny_bind (wpAny_bind (wpAny_field hos hds (x:=vl) rfl (wpAny_bind (wpAny_field hos hds (x:=vu) rfl (wpAny_bind (wpAny_field hos hds (x:=.none) rfl (wpAny_pure ?_)))))));refine wpAny_bind (slicePart_none ?_);show wpAny _ _ (if ((1:Int)==0)=true then _ else _) _ _ s
 rw[if_neg (by decide)]
 refine wpAny_bind (agu pl (wpAny_bind (agu pu (wpAny_bind (wpAny_pure ?_)))));show wpAny _ _ (match Builtin.Slice.sliceAdjust lo hi 1 (n:Int) with | (lo,hi)=>pure (lo,(1:Int),Builtin.Slice.slicePlaces lo hi 1)) _ _ s
 rw[apn lo hi n];show wpAny _ _ (pure (((sIx n 0 lo:Nat):Int),(1:Int),Builtin.Slice.slicePlaces ((sIx n 0 lo:Nat):Int) ((sIx n n hi:Nat):Int) 1)) _ _ s;rw[aoz];exact wpAny_pure h
theorem auk(xs:Array Value)(i k:Nat):((List.range k).filterMap fun(m:Nat)=>xs[((i:Int)+(m:Int)*1).toNat]?).toArray=((xs.toList.drop i).take k).toArray:=by
 have e:(fun(m:Nat)=>xs[((i:Int)+(m:Int)*1).toNat]?)=fun m=>xs[i+m]? := by
  funext m
  have:((i:Int)+(m:Int)*1).toNat=i+m:=by omega
  rw[this]
 rw[e];have:=pick_run xs i k;rw[List.filterMap_map] at this;have e2:((fun x=>xs[x]?)∘fun x=>i+x)=fun m=>xs[i+m]? := rfl
 rw[e2] at this;rw[this]
theorem aea{t sl:Addr}{items:Array Value}{vl vu:Value}{lo hi:Option Int}{Q:Value->Shared->Prop}(ht:IsTup s.heap t items)(hs:s.heap.IsSliceOf sl vl vu .none)(pl:IsPart vl lo)(pu:IsPart vu hi)
  (hw:¬(sIx items.size 0 lo=0/\sIx items.size items.size hi=items.size))
  (h:Q (.ref s.heap.objs.size) { s with heap:=s.heap.push { cls:=.type "tuple", data:=.seq ((items.toList.drop (sIx items.size 0 lo)).take (sIx items.size items.size hi - sIx items.size 0 lo)).toArray } })
  (hsz:items.size<=sizeLine):wpAny (model prog w) A (getItem (.ref t) (.ref sl)) Q E s:=by
 have htake:sizeOk (.seq ((items.toList.drop (sIx items.size 0 lo)).take (sIx items.size items.size hi - sIx items.size 0 lo)).toArray):=by
  show((items.toList.drop (sIx items.size 0 lo)).take (sIx items.size items.size hi - sIx items.size 0 lo)).toArray.size<=sizeLine;rw[List.size_toArray,List.length_take,List.length_drop,Array.length_toList];omega
 have hj:sIx items.size items.size hi<=items.size:=a0z _ _ (Nat.le_refl _) hi;obtain⟨os,hos,hcs,hds⟩:=id hs;have hTs:s.TypeIs (.ref sl) "slice" := ⟨os,hos,hcs⟩;unfold getItem
 try with_reducible refine wpAny_holding ?_
 first | refine wpAny_bind (wpAny_pure ?_) | skip
 refine wpAny_bind (wpAny_sequenceKey ht.typeIs (by decide) ?_)
 refine wpAny_bind (wpAny_callSpecial?_slot (name:=Str.ofString "__getitem__") ht.typeIs PyProof.Rows.slot_tuple_getitem
  (wpAny_call_entry PyProof.Rows.slot_tuple_getitem ht.typeIs entry_tuple_getitem ?_ (args_tuple_getitem _ _)))
 show wpAny _ _ (Builtin.Tuple.tupleItemsOf (.ref t) >>= _) _ _ s;refine wpAny_bind (tupleItemsOf_ ht ?_);refine wpAny_bind (wpAny_typeOf hTs ?_);rw[if_pos (by decide)]
 refine wpAny_bind (aad hs pl pu ?_);have hno:¬((((sIx items.size 0 lo:Nat):Int)==0&&(1:Int)==1&&(sIx items.size items.size hi - sIx items.size 0 lo)==items.size)=true):=by
  intro q;rw[Bool.and_eq_true,Bool.and_eq_true] at q;have q1:((sIx items.size 0 lo:Nat):Int)=0:=eq_of_beq q.1.1;have q2:sIx items.size items.size hi - sIx items.size 0 lo=items.size:=eq_of_beq q.2;exact hw ⟨by omega,by omega⟩
 show wpAny _ _ (if (((sIx items.size 0 lo:Nat):Int)==0&&(1:Int)==1&&(sIx items.size items.size hi - sIx items.size 0 lo)==items.size)=true then _ else _) _ _ s
 rw[if_neg hno,auk]
 first
  | exact wpAny_bind (m:=Builtin.Tuple.tupleExact _) (wpAny_newObj_type (wpAny_pure ⟨_,rfl,wpAny_pure h⟩) htake)
  | exact wpAny_bind (m:=Builtin.Tuple.tupleExact _) (wpAny_newObj_type (wpAny_bind (wpAny_pure (wpAny_pure ⟨_,rfl,wpAny_pure h⟩))) htake)
  | exact wpAny_bind (wpAny_bind (m:=Builtin.Tuple.tupleExact _) (wpAny_newObj_type (wpAny_pure (wpAny_pure ⟨_,rfl,wpAny_pure h⟩)) htake))
  | exact wpAny_bind (wpAny_bind (m:=Builtin.Tuple.tupleExact _) (wpAny_newObj_type (wpAny_pure ⟨_,rfl,wpAny_pure h⟩) htake))
end
end HT
namespace L2
abbrev TO:=St->Hp->(Option Int->Hp->Prop)->Prop
def PO(X:Cx)(e:Option Expr)(t:TO):Prop :=
 ∀(qv:List (Addr×Obj)) (s:Shared) (σ:St) (H:Hp) (Q:Option Int->Hp->Prop),Inv X qv σ H s->t σ H Q ->
  wpAny (model X.prog X.w) X.A (evalPart e X.env) (fun u s'=>∃o H',Inv X qv σ H' s'/\IsPart u o/\Q o H') X.xe s
def axq:TO:=fun _ H Q=>Q none H
def a5t(t:TE):TO:=fun σ H Q=>t σ H fun x H1=>∃i,x=.int i/\Q (some i) H1
theorem intsAre_of{ns:List Int}:∀{us:List Value},Vals (ns.map V.int) us->IntsAre us ns:=by
 induction ns with
 | nil=>intro us r;rw[List.map_nil] at r;cases r;exact .nil
 | cons n ns ih =>
  intro us r;rw[List.map_cons] at r;cases r with
  | cons r1 r2 =>
   obtain⟨t,e⟩:=r1;subst e;exact .cons n t (ih r2)
section
variable{X:Cx}{e:Expr}{te:TE}{lo hi:Option Expr}{tl th:TO}{pos p2:Pos}
theorem ayd:PO X none axq:=by
 intro qv s σ H Q I h;rw[evalPart_none];exact wpAny_pure ⟨none,H,I,.none,h⟩
theorem ayc(h:PE X e te):PO X (some e) (a5t te):=by
 intro qv s σ H Q I hw;rw[evalPart_some];refine thn (h qv s σ H _ I hw) fun u s1 ⟨x,H1,I1,r1,q1⟩ =>?_
 obtain⟨i,rfl,q⟩:=q1;obtain⟨t,rfl⟩:=r1;exact⟨some i,H1,I1,.int i t,q⟩
def SlR(X:Cx)(r:V->Option Int->Option Int->Hp->VK->Prop):Prop :=
 ∀(qv:List (Addr×Obj)) (s:Shared) (σ:St) (H:Hp) (x:V) (v vl vu:Value) (lo hi:Option Int) (sl:Addr) (Q:VK),Inv X qv σ H s->RelV x v->s.heap.IsSliceOf sl vl vu .none->IsPart vl lo->IsPart vu hi->r x lo hi H Q ->
  ∃T id,typeLookup (.type T) "__getitem__" = pure (some (.builtin id))/\s.TypeIs v T/\wpAny (model X.prog X.w) X.A (getItem v (.ref sl)) (EP X qv σ Q) X.xe s
def tSl(r:V->Option Int->Option Int->Hp->VK->Prop)(te:TE)(tl th:TO):TE:=fun σ H Q=>te σ H fun x H1=>tl σ H1 fun l H2=>th σ H2 fun u H3=>r x l u H3 Q
theorem aun{r:V->Option Int->Option Int->Hp->VK->Prop}(hr:SlR X r)(he:PE X e te)(hl:PO X lo tl)(hu:PO X hi th):PE X (.Subscript e (.Slice lo hi none p2) pos) (tSl r te tl th):=by
 intro qv s σ H Q I h;refine Subscript_ (thn (he qv s σ H _ I h) fun v s1 ⟨x,H1,I1,r1,q1⟩ =>?_)
 refine wpAny_Slice (thn (hl qv s1 σ H1 _ I1 q1) fun vl s2 ⟨l,H2,I2,pl,q2⟩=>thn (hu qv s2 σ H2 _ I2 q2) fun vu s3 ⟨u,H3,I3,pu,q3⟩ =>?_)
 rw[evalPart_none];refine wpAny_pure ?_;have I4:Inv X qv σ H3 { s3 with heap:=s3.heap.push { cls:=.type "slice", data:=.fields #[vl,vu,.none] } }:=I3.kept (t':=s3.toks) fun b ob q=>Heap.get?_push_of_some _ q
 obtain⟨T,id,hT,ht,hg⟩:=hr qv { s3 with heap:=s3.heap.push { cls:=.type "slice", data:=.fields #[vl,vu,.none] } } σ H3 x v vl vu l u s3.heap.objs.size Q I4 r1 (Heap.IsSliceOf.new ..) pl pu q3
 show wpAny (model X.prog X.w) X.A (subscriptTail e (.Slice lo hi none p2) v (.ref s3.heap.objs.size)) (EP X qv σ Q) X.xe { s3 with heap:=s3.heap.push { cls:=.type "slice", data:=.fields #[vl,vu,.none] } }
 exact tail_any (ops:=[.ref s3.heap.objs.size,v]) ht hT hg (by with_unfolding_all rfl)
def cutV(xs:List V)(lo hi:Option Int):List V:=(xs.drop (HT.sIx xs.length 0 lo)).take (HT.sIx xs.length xs.length hi - HT.sIx xs.length 0 lo)
theorem af6(xs:List V)(lo hi:Option Int):(cutV xs lo hi).length<=xs.length:=by
 unfold cutV;rw[List.length_take,List.length_drop];omega
def rSlT(K:Fg9):V->Option Int->Option Int->Hp->VK->Prop:=fun x lo hi H Q=>∃a xs,x=.ref a/\SqT K H a xs /\
 ¬(HT.sIx xs.length 0 lo=0/\HT.sIx xs.length xs.length hi=xs.length)/\∀p,H p=none->Q (.ref p) (upd H p (.tup (cutV xs lo hi)))
theorem a0w:SlR X (rSlT X.K):=by
 intro qv s σ H x v vl vu lo hi sl Q I rx hs pl pu h;obtain⟨a,xs,rfl,hx,hw,q⟩:=h;cases rx;obtain⟨its,r,ht,hz⟩:=I.tuple hx;have hlen:its.toArray.size=xs.length:=by rw[List.size_toArray];exact r.length.symm
 refine⟨"tuple", _,PyProof.Rows.slot_tuple_getitem.lookup,ht.typeIs,?_⟩;refine HT.aea ht hs pl pu (by rw[hlen];exact hw) ?_ (by rw[hlen];exact hz)
 rw[hlen];refine⟨.ref s.heap.objs.size,_,I.laid (t':=s.toks) (o:=.tup (cutV xs lo hi)) (fun b ob q=>Heap.get?_push_of_some _ q) (Nat.le_refl _) ?_,rfl,q _ (I.hok.fresh (Nat.le_refl _))⟩
 exact⟨Nat.le_trans (af6 xs lo hi) hz,_,(r.drop (HT.sIx xs.length 0 lo)).take (HT.sIx xs.length xs.length hi - HT.sIx xs.length 0 lo),IsTp.new _ _⟩
def a6h(K:Fg9):R2:=fun x y H Q=>∃a b xs ys,x=.ref a/\y=.ref b/\SqT K H a xs/\SqT K H b ys/\xs≠[]/\xs.length+ys.length<=sizeLine /\
 (ys=[]->Q (.ref a) H)/\(ys≠[]->∀p,H p=none->Q (.ref p) (upd H p (.tup (xs++ys))))
theorem Vals.nil_iff{xs:List V}{us:List Value}(r:Vals xs us):us=[]↔xs=[]:=by
 cases r with
 | nil=>simp
 | cons _ _=>simp
theorem ayt:OpR X (binaryOp .Add) (a6h X.K):=by
 intro qv s σ H x y v u Q I rx ry h;obtain⟨a,b,xs,ys,rfl,rfl,ha,hb,hx,hz,q1,q2⟩:=h;cases rx;cases ry;obtain⟨its,r1,p1,_⟩:=I.tuple ha;obtain⟨its2,r2,p2,_⟩:=I.tuple hb;refine HT.azx p1 p2 (fun z=>hx (r1.nil_iff.mp z)) (fun z=>⟨.ref a,H,I,rfl,q1 (r2.nil_iff.mp z)⟩) (fun z =>?_) (by rw[<-r1.length,<-r2.length];exact hz)
 refine⟨.ref s.heap.objs.size,_,I.laid (t':=s.toks) (o:=.tup (xs++ys)) (fun b ob q=>Heap.get?_push_of_some _ q) (Nat.le_refl _) ?_,rfl,q2 (fun w=>z (r2.nil_iff.mpr w)) _ (I.hok.fresh (Nat.le_refl _))⟩
 exact⟨by rw[List.length_append];exact hz,_,r1.append r2,IsTp.new _ _⟩
end
def ixN(n:Nat)(i:Int):Option Nat:=if 0<=i then (if i < n then some i.toNat else none) else if -(n:Int)<=i then some (i+n).toNat else none
def atI{α:Type}(xs:List α)(i:Int):Option α:=(ixN xs.length i).bind fun j=>xs[j]?
theorem ark{n:Nat}{i:Int}{j:Nat}(h:ixN n i=some j):seqIndex? i n=some j/\j < n /\ -(n:Int)<=i/\i < n:=by
 unfold ixN at h
 by_cases h0:0<=i
 ·rw[if_pos h0] at h
  by_cases h1:i < n
  ·rw[if_pos h1] at h;have e:i.toNat=j:=Option.some.inj h;exact⟨by rw[seqIndex_of h0 h1,e],by omega,by omega,h1⟩
  ·rw[if_neg h1] at h;cases h
 ·rw[if_neg h0] at h
  by_cases h1 : -(n:Int)<=i
  ·rw[if_pos h1] at h;have e:(i+n).toNat=j:=Option.some.inj h;exact⟨by rw[seqIndex_neg (by omega) h1,e],by omega,h1,by omega⟩
  ·rw[if_neg h1] at h;cases h
theorem amf{α:Type}{xs:List α}{i:Int}{v:α}(h:atI xs i=some v):∃j,seqIndex? i xs.length=some j/\xs[j]? = some v/\j < xs.length /\ -(xs.length:Int)<=i/\i < xs.length:=by
 unfold atI at h;cases e:ixN xs.length i with
 | none=>rw[e] at h;cases h
 | some j =>
  rw[e] at h;obtain⟨h1,h2,h3,h4⟩:=ark e;exact⟨j,h1,h,h2,h3,h4⟩
theorem ai1{α:Type}{xs:List α}{j:Nat}{v:α}(h:xs[j]? = some v):atI xs (j:Int)=some v:=by
 have hj:j < xs.length:=(List.getElem?_eq_some_iff.mp h).1;have e:ixN xs.length (j:Int)=some j:=by
  unfold ixN;rw[if_pos (by omega),if_pos (by omega)];simp
 unfold atI;rw[e];exact h
def ami(b:Expr):Prop:=∀o i,subscripted b false o i=operate [o,i] (getItem o i)
def IxR(X:Cx)(r:R2):Prop :=
 ∀(value slice:Expr) (qv:List (Addr×Obj)) (s:Shared) (σ:St) (H:Hp) (x y:V) (v u:Value) (Q:VK),Inv X qv σ H s->RelV x v->RelV y u->r x y H Q ->
  subscripted slice false v u=operate [v,u] (getItem v u)->wpAny (model X.prog X.w) X.A (subscriptTail value slice v u) (EP X qv σ Q) X.xe s
def MtR(X:Cx)(id:String)(r:V->List V->Hp->VK->Prop):Prop :=
 ∀(qv:List (Addr×Obj)) (s:Shared) (σ:St) (H:Hp) (x:V) (xs:List V) (v:Value) (us:List Value) (Q:VK),Inv X qv σ H s->RelV x v->Vals xs us->r x xs H Q ->
  wpAny (model X.prog X.w) X.A (call (.builtin id) (v::us)) (EP X qv σ Q) X.xe s
section
variable{X:Cx}{a b:Expr}{ta tb:TE}{pos:Pos}
theorem a1k{r:R2}(hr:IxR X r)(ha:PE X a ta)(hb:PE X b tb)(hs:ami b):PE X (.Subscript a b pos) (tOp r ta tb):=by
 intro qv s σ H Q I h;exact Subscript_ (binT ha hb I h fun v u s2 x y H2 I2 rx ry q=>hr a b qv s2 σ H2 x y v u Q I2 rx ry q (hs _ _))
def rIxL(K:Fg9):R2:=fun x y H Q=>∃p xs i v,x=.ref p/\y=.int i/\SqL K H p xs/\atI xs i=some v/\Q v H
def rIxT(K:Fg9):R2:=fun x y H Q=>∃p xs i v,x=.ref p/\y=.int i/\SqT K H p xs/\atI xs i=some v/\Q v H
theorem ay7:IxR X (rIxL X.K):=by
 intro value slice qv s σ H x y v u Q I rx ry h hs;obtain⟨p,xs,i,z,rfl,rfl,hq,he,q⟩:=h;cases rx;obtain⟨t,rfl⟩:=ry;obtain⟨its,r,pl,hz⟩:=I.list hq;obtain⟨j,h1,h2,h3,h4,h5⟩:=amf he;obtain⟨w,ew,rw'⟩:=r.get h2;have hl:=r.length;have hn:=ajt;have fin:EP X qv σ Q w s:=⟨z,H,I,rw',q⟩
 by_cases h0:0<=i
 ·have hj:i.toNat=j:=by
   rw[seqIndex_of h0 h5] at h1;exact Option.some.inj h1
  exact item_listR pl.isList h0 (by omega) (by rw[hj];simpa using ew) fin hs
 ·have hj:(i+(its.toArray.size:Int)).toNat=j:=by
   rw[seqIndex_neg (by omega) h4] at h1
   rw[List.size_toArray,<-hl];exact Option.some.inj h1
  exact subscriptTail_builtinR (x:=w) pl.isList.typeIs slot_list_getitem.lookup
   (wpAny_getItem_list_neg (Q:=fun r s'=>r=w/\EP X qv σ Q r s') pl.isList (by omega) (by rw[List.size_toArray] <;> omega) (by omega) (by rw[hj];simpa using ew) ⟨rfl,fin⟩) hs
theorem a3a:IxR X (rIxT X.K):=by
 intro value slice qv s σ H x y v u Q I rx ry h hs;obtain⟨p,xs,i,z,rfl,rfl,hq,he,q⟩:=h;cases rx;obtain⟨t,rfl⟩:=ry;obtain⟨its,r,pl,hz⟩:=I.tuple hq;obtain⟨j,h1,h2,h3,h4,h5⟩:=amf he;obtain⟨w,ew,rw'⟩:=r.get h2;have hl:=r.length;have hn:=ajt;have fin:EP X qv σ Q w s:=⟨z,H,I,rw',q⟩;exact subscriptTail_builtinR (x:=w) pl.typeIs slot_tuple_getitem.lookup
  (getItem_tuple (j:=j) (Q:=fun r s'=>r=w/\EP X qv σ Q r s') pl (by omega) (by omega) (by rw[List.size_toArray,<-hl];exact h1) (by simpa using ew) ⟨rfl,fin⟩) hs
theorem ao7(its:List Value)(n j:Nat)(u:Value):Obj.mapSeq (·.setIfInBounds j u) { cls:=.type "list", data:=.seq its.toArray n }={ cls:=.type "list", data:=.seq (its.set j u).toArray n }:=by
 simp[Obj.mapSeq]
theorem Inv.lst{qv:List (Addr×Obj)}{σ:St}{H:Hp}{s:Shared}{p:Addr}{xs:List V}(I:Inv X qv σ H s)(h:H p=some (.lst xs)) :
  ∃(its:List Value) (n:Nat),Vals xs its/\s.heap.get? p=some { cls:=.type "list", data:=.seq its.toArray n }/\xs.length<=sizeLine:=by
 obtain⟨z,its,n,r,e⟩:=I.hok p _ h;exact⟨its,n,r,e,z⟩
theorem Inv.lstUpd{qv:List (Addr×Obj)}{σ:St}{H:Hp}{s:Shared}{p:Addr}{xs ys:List V}{its its':List Value}{n n':Nat}{f:Obj->Obj}(I:Inv X qv σ H s)(h:H p=some (.lst xs))
  (ho:s.heap.get? p=some { cls:=.type "list", data:=.seq its.toArray n }) (hf:f { cls:=.type "list", data:=.seq its.toArray n }={ cls:=.type "list", data:=.seq its'.toArray n' }) (r:Vals ys its') (hz:ys.length<=sizeLine) (t:Nat) :
  Inv X qv σ (upd H p (.lst ys)) { s with heap:=s.heap.update p f,toks:=t }:=by
 have e:(s.heap.update p f).get? p=some { cls:=.type "list", data:=.seq its'.toArray n' }:=by
  rw[Heap.get?_update_self f ho (by rw[hf] <;> rfl),hf]
 refine I.write (x:=p) (e:=p) (by rw[h];trivial) (.inl rfl) (fun b u hb q=>(Heap.get?_update_other _ _ (Ne.symm hb)).trans q) ⟨_,e⟩ ?_
 exact⟨hz,its',n',r,e⟩
def a6f:V->V->V->Hp->(Hp->Prop)->Prop:=fun o i v H Q=>∃p xs k j,o=.ref p/\i=.int k/\H p=some (.lst xs)/\ixN xs.length k=some j/\Q (upd H p (.lst (xs.set j v)))
theorem set_list:PSet X a6f:=by
 intro qv s σ H o i v ov iv u Q I ro ri rv h;obtain⟨p,xs,k,j,rfl,rfl,hp,hj,q⟩:=h;cases ro;obtain⟨t,rfl⟩:=ri;obtain⟨its,n,r,ho,hz⟩:=I.lst hp;obtain⟨h1,h2,h3,h4⟩:=ark hj;have hl:=r.length;have hn:=ajt;have I':Inv X qv σ (upd H p (.lst (xs.set j v))) { s with heap:=s.heap.update p (Obj.mapSeq (·.setIfInBounds j u)) } :=
  I.lstUpd hp ho (ao7 its n j u) (r.set rv j) (by rw[List.length_set];exact hz) s.toks
 by_cases h0:0<=k
 ·have hk:k.toNat=j:=by
   rw[seqIndex_of h0 h4] at h1;exact Option.some.inj h1
  exact PySem.W.ki_setAt ho h0 (by omega) (by rw[List.size_toArray,<-hl];exact h4) (by rw[hk];exact⟨_,I',q⟩)
 ·have hk:(k+(its.toArray.size:Int)).toNat=j:=by
   rw[seqIndex_neg (by omega) h3] at h1
   rw[List.size_toArray,<-hl];exact Option.some.inj h1
  exact PySem.W.ki_setBack ho (by omega) (by rw[List.size_toArray,<-hl];exact h3) (by omega) (by rw[hk];exact⟨_,I',q⟩)
theorem ai8(lo hi:Option Int)(n:Nat):(sliceBounds lo hi none n).1=((HT.sIx n 0 lo:Nat):Int)/\(sliceBounds lo hi none n).2.1=((HT.sIx n n hi:Nat):Int)/\(sliceBounds lo hi none n).2.2=1:=by
 refine⟨?_,?_,rfl⟩
 ·cases lo with
  | none=>simp[sliceBounds,HT.sIx]
  | some i =>
   simp only[sliceBounds,HT.sIx,Option.getD_none,show(1:Int) > 0 by decide,if_true]
   by_cases h:i < 0
   ·simp only[h,if_true] <;> omega
   ·simp only[h,if_false] <;> omega
 ·cases hi with
  | none=>simp[sliceBounds,HT.sIx]
  | some i =>
   simp only[sliceBounds,HT.sIx,Option.getD_none,show(1:Int) > 0 by decide,if_true]
   by_cases h:i < 0
   ·simp only[h,if_true] <;> omega
   ·simp only[h,if_false] <;> omega
theorem ahr(its:List Value)(lo hi:Option Int):slicePick its.toArray lo hi none=((its.drop (HT.sIx its.length 0 lo)).take (HT.sIx its.length its.length hi - HT.sIx its.length 0 lo)).toArray:=by
 obtain⟨h1,h2,h3⟩:=ai8 lo hi its.toArray.size;unfold slicePick;rw[h1,h2,h3];simp only[sliceRange_one,pick_run,List.size_toArray] <;> rfl
def rSlL(K:Fg9):V->Option Int->Option Int->Hp->VK->Prop:=fun x lo hi H Q=>∃a xs,x=.ref a/\SqL K H a xs/\∀p,H p=none->Q (.ref p) (upd H p (.lst (cutV xs lo hi)))
theorem aqa:SlR X (rSlL X.K):=by
 intro qv s σ H x v vl vu lo hi sl Q I rx hs pl pu h;obtain⟨a,xs,rfl,hx,q⟩:=h;cases rx;obtain⟨its,r,ht,hz⟩:=I.list hx;have hlen:=r.length;refine⟨"list", _,slot_list_getitem.lookup,ht.isList.typeIs,?_⟩;refine wpAny_getItem_list_slice ht.isList hs pl pu .none (by simp) ?_ (by rw[List.size_toArray] <;> omega)
 rw[ahr,<-hlen];refine⟨.ref s.heap.objs.size,_,I.laid (t':=s.toks) (o:=.lst (cutV xs lo hi)) (fun b ob q=>Heap.get?_push_of_some _ q) (Nat.le_refl _) ?_,rfl,q _ (I.hok.fresh (Nat.le_refl _))⟩
 exact⟨Nat.le_trans (af6 xs lo hi) hz,_,0,(r.drop (HT.sIx xs.length 0 lo)).take (HT.sIx xs.length xs.length hi - HT.sIx xs.length 0 lo),Heap.get?_push_size _ rfl⟩
theorem akn:aei X (.builtin "len") (fun xs H Q=>∃p ys,xs=[.ref p]/\(SqL X.K H p ys∨SqT X.K H p ys)/\Q (.int ys.length) H):=by
 intro qv s σ H xs us Q I r h;obtain⟨p,ys,rfl,hq,q⟩:=h;obtain⟨u,rfl,rx⟩:=vals1 r;cases rx;have hn:=ajt;rcases hq with hq | hq
 ·obtain⟨its,r',pl,hz⟩:=I.list hq;have hlen:=r'.length;exact Calls.call_len_list pl.isList (by simp only[List.size_toArray] <;> omega) ⟨.int ys.length,H,I.tok _,⟨s.toks+1,by rw[List.size_toArray,hlen]⟩,q⟩
 ·obtain⟨its,r',pl,hz⟩:=I.tuple hq;have hlen:=r'.length;exact len_tuple pl (by simp only[List.size_toArray] <;> omega) ⟨.int ys.length,H,I.tok _,⟨s.toks+1,by rw[List.size_toArray,hlen]⟩,q⟩
theorem akm:aei X (.type "list") (fun xs H Q=>∃p ys,xs=[.ref p]/\(SqL X.K H p ys∨SqT X.K H p ys)/\∀l,H l=none->Q (.ref l) (upd H l (.lst ys))):=by
 intro qv s σ H xs us Q I r h;obtain⟨p,ys,rfl,hq,q⟩:=h;obtain⟨u,rfl,rx⟩:=vals1 r;cases rx;have fin:∀(its:List Value),Vals ys its->ys.length<=sizeLine->∀(h':Heap) (c':Nat),(∀b o',s.heap.get? b=some o'->h'.get? b=some o') ->
   h'.get? s.heap.objs.size=some { cls:=.type "list", dict:=none,data:=.seq its.toArray c',slots := #[] }->EP X qv σ Q (.ref s.heap.objs.size) { s with heap:=h' }:=fun its r' hz h' c' kp e =>
  ⟨.ref s.heap.objs.size,_,I.laid (t':=s.toks) kp (Nat.le_refl _) (show wu X.prog X.w _ h' _ (.lst ys) from⟨hz,its,c',r',e⟩),rfl,q _ (I.hok.fresh (Nat.le_refl _))⟩
 rcases hq with hq | hq
 ·obtain⟨its,r',pl,hz⟩:=I.list hq;have hlen:=r'.length;obtain⟨o,ho,hc,n,hd⟩:=pl.isList;exact call_list_seq p (.inl rfl) ho hc hd (fun h' c' kp e=>fin its r' hz h' c' kp e) (by simp only[List.size_toArray] <;> omega)
 ·obtain⟨its,r',pl,hz⟩:=I.tuple hq;have hlen:=r'.length;obtain⟨o,ho,hc,n,hd⟩:=pl;exact call_list_seq p (.inr rfl) ho hc hd (fun h' c' kp e=>fin its r' hz h' c' kp e) (by simp only[List.size_toArray] <;> omega)
theorem aac:aei X (.type "tuple") (fun xs H Q=>∃p ys,xs=[.ref p]/\((SqL X.K H p ys/\∀l,H l=none->Q (.ref l) (upd H l (.tup ys)))∨(SqT X.K H p ys/\Q (.ref p) H))):=by
 intro qv s σ H xs us Q I r h;obtain⟨p,ys,rfl,h⟩:=h;obtain⟨u,rfl,rx⟩:=vals1 r;cases rx;rcases h with⟨hq,q⟩ | ⟨hq,q⟩
 ·obtain⟨its,r',pl,hz⟩:=I.list hq;have hlen:=r'.length;refine call_tuple_list pl.isList (fun h' kp =>?_) (by simp only[List.size_toArray] <;> omega)
  have I1:Inv X qv σ H { s with heap:=h' }:=I.kept (t':=s.toks) kp
  have I2:Inv X qv σ (upd H h'.objs.size (.tup ys)) { s with heap:=h'.push { cls:=.type "tuple", data:=.seq its.toArray } } :=
   I1.laid (t':=s.toks) (fun b o e=>Heap.get?_push_of_some _ e) (Nat.le_refl _) (show wu X.prog X.w _ _ _ (.tup ys) from⟨hz,its,r',IsTp.new _ _⟩)
  exact⟨.ref h'.objs.size,_,I2,rfl,q _ (I1.hok.fresh (Nat.le_refl _))⟩
 ·obtain⟨its,r',pl,hz⟩:=I.tuple hq;exact call_tuple_same pl ⟨.ref p,H,I,rfl,q⟩
def tyV(K:Fg9)(T:String)(x:V)(H:Hp):Prop:=match x with
 | .str _=>T = "str"
 | .int _=>T = "int"
 | .ref p=>(T = "list" /\ ∃xs,SqL K H p xs)∨(T = "tuple" /\ ((∃o,K.lookup p=some o/\o.cls=.type "tuple" /\ o.dict=none)∨∃xs,H p=some (.tup xs))) ∨
   (T = "dict" /\ ((∃kvs,H p=some (.dK kvs))∨∃kvs,H p=some (.dT kvs)))∨(T = "set" /\ ∃S n,H p=some (.set S n))
 | _=>False
theorem a0m{qv:List (Addr×Obj)}{σ:St}{H:Hp}{s:Shared}{T:String}{x:V}{v:Value}(I:Inv X qv σ H s)(r:RelV x v)(ty:tyV X.K T x H) :
  s.TypeIs v T/\∀a,v=.ref a->∃ob,s.heap.get? a=some ob/\ob.dict=none:=by
 cases x with
 | str z =>
  obtain⟨t,rfl⟩:=r;cases(show T = "str" from ty)
  exact⟨typeIs_str s z t,fun _ e=>nomatch e⟩
 | int i =>
  obtain⟨t,rfl⟩:=r;cases(show T = "int" from ty)
  exact⟨typeIs_int s i t,fun _ e=>nomatch e⟩
 | ref p =>
  cases r;rcases ty with⟨rfl,xs,hq⟩ | ⟨rfl,⟨o,hk,hc,hd⟩ | ⟨xs,hk⟩⟩ | ⟨rfl,hk⟩ | ⟨rfl,S,n,hk⟩
  ·obtain⟨its,_,pl,_⟩:=I.list hq;refine⟨pl.isList.typeIs,fun a e =>?_⟩
   cases e;obtain⟨o,n,e,c,hd,_⟩:=pl;exact⟨o,e,hd⟩
  ·refine⟨⟨o,I.kIn p o hk,hc⟩,fun a e =>?_⟩
   cases e;exact⟨o,I.kIn _ o hk,hd⟩
  ·obtain⟨_,_,_,o,e,hc,hd,_⟩:=I.hok p _ hk;refine⟨⟨o,e,hc⟩,fun a e2 =>?_⟩
   cases e2;exact⟨o,e,hd⟩
  ·have z:∃o,s.heap.get? p=some o/\o.ExactDict:=by
    rcases hk with⟨kvs,hk⟩ | ⟨kvs,hk⟩
    ·obtain⟨_,_,_,_,o,_,_,e,ex,_⟩:=I.hok p _ hk;exact⟨o,e,ex⟩
    ·obtain⟨_,_,_,_,o,_,_,e,ex,_⟩:=I.hok p _ hk;exact⟨o,e,ex⟩
   obtain⟨o,e,ex⟩:=z;refine⟨⟨o,e,ex.1⟩,fun a e2 =>?_⟩
   cases e2;exact⟨o,e,ex.2.1⟩
  ·obtain⟨o,_,_,_,e,ex,_⟩:=I.hok p _ hk;refine⟨⟨o,e,ex.1⟩,fun a e2 =>?_⟩
   cases e2;exact⟨o,e,ex.2.1⟩
 | _=>exact False.elim ty
def tBM(K:Fg9)(T:String)(r:V->List V->Hp->VK->Prop)(to:TE)(t:TA):TE:=fun σ H Q=>to σ H fun x H1=>tyV K T x H1/\t σ H1 fun xs H2=>r x xs H2 Q
variable{o e:Expr}{es:List Expr}{to:TE}{t:TA}{name:Str}{apos cpos:Pos}{T id:String}{r:V->List V->Hp->VK->Prop}
theorem ayn(pa:PlainAttrs T)(slot:Slot T name id)(hty:typeOf (.builtin id)=pure (.type "method_descriptor"))(hm:MtR X id r)(ho:PE X o to)(ha:PA X (e::es) t)
  (hbase:attributeBase o name X.env (eval o X.env)=eval o X.env:=by rfl)
  (hfew:((backTo cpos (starEach (e::es) X.env)).all (fun x => !x.1)&&(backToKw cpos (keywordEach [] X.env)).all (fun x=>x.1.isSome)
   && decide ((e::es).length+([]:List Keyword).length+(if ([]:List Keyword).isEmpty then 0 else 1) < 30))=true:=by rfl)
  (hline:(apos.endLine==cpos.line)=true:=by rfl) (hs:starEach (e::es) X.env=(false,eval e X.env)::starEach es X.env:=by rfl) (hplain:(backTo cpos (starEach es X.env)).any (·.1)=false:=by rfl) :
  PE X (.Call (.Attribute o name apos) (e::es) [] cpos) (tBM X.K T r to t):=by
 intro qv s σ H Q I h;refine wpAny_Call_method_late hbase hfew hline rfl (thn (ho qv s σ H _ I h) fun v s1 ⟨x,H1,I1,r1,ty,q1⟩ =>?_)
 obtain⟨h1,h2⟩:=a0m I1 r1 ty;refine⟨T,id,pa,slot,hty,h1,h2,?_⟩;have hA:=ha cpos qv s1 σ H1 _ I1 q1;rw[hs] at hA ⊢
 refine Calls.callWith_builtin (by show(false||(backTo cpos (starEach es X.env)).any (·.1))=false;rw[hplain] <;> rfl) (Calls.evalArgs_plain ?_)
 exact thn hA fun us s2 ⟨vs,H2,I2,r2,q2⟩=>hm qv s2 σ H2 x vs v us Q I2 r1 r2 q2
end
def MtM(X:Cx)(id:String)(r:V->List V->Hp->VK->Prop):Prop :=
 ∀(qv:List (Addr×Obj)) (s:Shared) (σ:St) (H:Hp) (x:V) (xs:List V) (v:Value) (us:List Value) (Q:VK),Inv X qv σ H s->RelV x v->Vals xs us->r x xs H Q ->
  wpAny (model X.prog X.w) X.A (call (.builtin id) (v::us)) (EP X qv σ Q) X.xe s
theorem Vals.one:∀{x:V} {us:List Value},Vals [x] us->∃u,us=[u]/\RelV x u
 | _,_,.cons r .nil=>⟨_,rfl,r⟩
theorem Vals.rep{xs:List V}{us:List Value}(h:Vals xs us):∀k:Nat,Vals (List.replicate k xs).flatten (List.replicate k us).flatten
 | 0=>.nil
 | k+1=>by
  rw[List.replicate_succ,List.replicate_succ,List.flatten_cons,List.flatten_cons];exact Vals.append h (Vals.rep h k)
theorem foldl_rep(its:List Value):∀(k:Nat) (acc:List Value),
  List.foldl (fun x1 x2=>x1++x2) acc.toArray (List.replicate k its.toArray)=(acc++(List.replicate k its).flatten).toArray
 | 0,acc=>by simp
 | k+1,acc=>by
  have e:acc.toArray++its.toArray=(acc++its).toArray:=by simp
  have e2:(acc++its)++(List.replicate k its).flatten=acc++(List.replicate (k+1) its).flatten:=by
   rw[List.replicate_succ,List.flatten_cons,List.append_assoc]
  rw[<-e2,<-foldl_rep its k (acc++its),<-e,List.replicate_succ,List.foldl_cons]
section
variable{X:Cx}{qv:List (Addr×Obj)}{σ:St}{H:Hp}{s:Shared}{l b:Addr}{xs ys zs:List V}
theorem Inv.lset{its its':List Value}{n:Nat}{f:Array Value->Array Value}{t':Nat}(I:Inv X qv σ H s)(hH:H l=some (.lst xs))
  (e:s.heap.get? l=some { cls:=.type "list", data:=.seq its.toArray n }) (hf:f its.toArray=its'.toArray) (hv:Vals ys its') (hz:ys.length<=sizeLine) :
  Inv X qv σ (upd H l (.lst ys)) { s with heap:=s.heap.update l (Obj.mapSeq f),toks:=t' }:=by
 have q:=PySem.IsL.update e f;rw[hf] at q;refine I.write (x:=l) (e:=l) (by rw[hH];exact trivial) (.inl rfl) (fun b' u hb hu=>(Heap.get?_update_other s.heap (Obj.mapSeq f) (Ne.symm hb)).trans hu) ⟨_,q⟩ ?_
 exact⟨hz,its',_,hv,q⟩
theorem Inv.lnew{its:List Value}{t':Nat}(I:Inv X qv σ H s)(hv:Vals ys its)(hz:ys.length<=sizeLine) :
  Inv X qv σ (upd H s.heap.objs.size (.lst ys)) { s with heap:=s.heap.push { cls:=.type "list", data:=.seq its.toArray },toks:=t' } :=
 I.laid (fun _ _ q=>Heap.get?_push_of_some _ q) (Nat.le_refl _) ⟨hz,its,0,hv,Heap.get?_push_size _ rfl⟩
theorem Inv.fresh(I:Inv X qv σ H s):H s.heap.objs.size=none:=I.hok.fresh (Nat.le_refl _)
theorem Inv.lstM(I:Inv X qv σ H s)(hH:H l=some (.lst xs)):xs.length<=sizeLine/\∃(its:List Value) (n:Nat),Vals xs its/\xs.length=its.length/\s.heap.get? l=some { cls:=.type "list", data:=.seq its.toArray n }:=by
 obtain⟨z,its,n,r,e⟩:=I.hok l _ hH;exact⟨z,its,n,r,r.length,e⟩
theorem au3{n:Nat}(h:n<=sizeLine):Builtin.List.listTooLong n=false:=by
 unfold Builtin.List.listTooLong;exact decide_eq_false (by omega)
end
section
variable{X:Cx}
def aqj:V->List V->Hp->VK->Prop:=fun x vs H Q=>∃l xs y,x=.ref l/\vs=[y]/\H l=some (.lst xs)/\xs.length < sizeLine/\Q .non (upd H l (.lst (xs++[y])))
theorem sy:MtM X "list.append" aqj:=by
 intro qv s σ H x vs v us Q I rx rv h;obtain⟨l,xs,y,rfl,rfl,hH,hz,q⟩:=h;cases rx;obtain⟨u,rfl,ru⟩:=rv.one;obtain⟨z,its,n,r,hl,e⟩:=I.lstM hH;refine call_meets F.slot_list_append ⟨_,e,rfl⟩ F.entry_list_append (F.args_list_append_2 _ _) (PySem.list_append l its.toArray n u (by rw[List.size_toArray];omega)) ⟨e,?_⟩
 refine⟨.non,_,I.lset (its':=its++[u]) hH e (by simp) (r.append (.cons ru .nil)) ?_,rfl,q⟩
 rw[List.length_append,List.length_singleton];omega
def rCat:R2:=fun x y H Q=>∃l b xs zs,x=.ref l/\y=.ref b/\H l=some (.lst xs)/\H b=some (.lst zs)/\xs.length+zs.length<=sizeLine/\∀p,H p=none->Q (.ref p) (upd H p (.lst (xs++zs)))
theorem a1w:OpR X (binaryOp .Add) rCat:=by
 intro qv s σ H x y v u Q I rx ry h;obtain⟨l,b,xs,zs,rfl,rfl,hH,hB,hz,q⟩:=h;cases rx;cases ry;obtain⟨z,its,n,r,hl,e⟩:=I.lstM hH;obtain⟨z2,its2,n2,r2,hl2,e2⟩:=I.lstM hB;refine PySem.P.add_list e e2 ?_ (by rw[List.size_toArray,List.size_toArray];omega)
 have ea:its.toArray++its2.toArray=(its++its2).toArray:=by simp
 rw[ea];exact⟨.ref _,_,I.lnew (t':=s.toks) (r.append r2) (by rw[List.length_append];omega),rfl,q _ I.fresh⟩
def rRep:R2:=fun x y H Q=>∃l k xs,x=.ref l/\y=.int k/\H l=some (.lst xs) /\ -(2 ^ 63)<=k/\k < 2 ^ 63/\xs.length*k.toNat<=sizeLine /\
 ∀p,H p=none->Q (.ref p) (upd H p (.lst (List.replicate k.toNat xs).flatten))
theorem len_rep{α:Type}(xs:List α)(k:Nat):(List.replicate k xs).flatten.length=k*xs.length:=by
 induction k with
 | zero=>simp
 | succ k ih=>rw[List.replicate_succ,List.flatten_cons,List.length_append,ih,Nat.succ_mul,Nat.add_comm]
theorem a1s:OpR X (binaryOp .Mult) rRep:=by
 intro qv s σ H x y v u Q I rx ry h;obtain⟨l,k,xs,rfl,rfl,hH,h1,h2,hz,q⟩:=h;cases rx;obtain⟨t,rfl⟩:=ry;obtain⟨z,its,n,r,hl,e⟩:=I.lstM hH;have hlen:its.toArray.size*k.toNat<=sizeLine:=by rw[List.size_toArray,<-hl];exact hz
 have hcap:¬its.toArray.size*k.toNat > (2 ^ 63 - 1) / 8:=by
  have:(sizeLine:Nat)<=(2 ^ 63 - 1) / 8:=by decide
  omega
 have hfit:¬(!Builtin.List.listFitsIndex k)=true:=by
  rw[fitsIndex_both h1 h2];exact Bool.false_ne_true
 have hlong:¬Builtin.List.listTooLong (its.toArray.size*k.toNat)=true:=by
  rw[au3 hlen];exact Bool.false_ne_true
 have hnew:List.foldl (fun x1 x2=>x1++x2) #[] (List.replicate (if its.toArray.isEmpty=true then 0 else k.toNat) its.toArray)=(List.replicate k.toNat its).flatten.toArray:=by
  have f0:∀m:Nat,List.foldl (fun x1 x2=>x1++x2) #[] (List.replicate m its.toArray)=(List.replicate m its).flatten.toArray:=fun m=>by
   have:=foldl_rep its m [];rw[List.nil_append] at this;exact this
  rw[f0];cases its with
  | nil=>simp
  | cons a r'=>rw[if_neg (by simp)]
 refine wpAny_binaryOp_repeat_ref (T := "list") (U := "int") (by decide) ⟨_,e,rfl⟩ (fun s'=>typeIs_int s' k t) noFill_list_mul F.fills_int_mul F.slot_int_rmul repeat_list F.slot_int_index.lookup
  (call_meets F.slot_int_rmul (typeIs_int s k t) F.entry_int_rmul (F.args_int_rmul_2 _ _) (int___rmul___int_list k t l its.toArray n)
   ⟨e,rfl,⟨_,e,rfl⟩,call_meets F.slot_list_mul ⟨_,e,rfl⟩ F.entry_list_mul (F.args_list_mul_2 _ _) (AutoListH.list___mul___list_int_3 l its.toArray n k t hfit hcap hlong) ⟨e,?_⟩⟩)
 rw[hnew];exact⟨.ref _,_,I.lnew (t':=s.toks) (r.rep k.toNat) (by rw[len_rep,Nat.mul_comm];exact hz),rfl,q _ I.fresh⟩
end
section
variable{prog:Program}{w:World}{A:Around}{E:Value->Shared->Prop}{s:Shared}
end
section
variable{X:Cx}
end
end L2
namespace Att
open PySem PySem.W PySem.Calls PyProof.Rows
theorem afr{P:Params}{h:Heap}:∀(ns:List Int) (vs:List Value),WellAll P h vs (ns.map WData.int)->IntsAre vs ns:=by
 intro ns
 induction ns with
 | nil =>
  intro vs w;rw[List.map_nil] at w;cases w;exact .nil
 | cons n ns ih =>
  intro vs w;rw[List.map_cons] at w;cases w with
  | cons a b =>
   cases a;exact .cons _ _ (ih _ b)
theorem aqf{l:OpenLaw}{n:Nat}(hn:l.most=some n){P:Params}{h:Heap}{args:List WData}{vals:List Value}
  (hpre:l.row.toRowW.claim.pre args=true) (hwl:WellAll P h vals args) :
  ∃a vs ns,vals=[Value.ref a]/\args=[WData.list (ns.map WData.int)]/\h.get? a=some { cls:=.type "list", data:=.seq vs.toArray }/\IntsAre vs ns/\ns.length<=n:=by
 have hsh:WShape.hasAll [] args [.list .int]=true:=(pre_splitW hpre).1;have hc:l.pre.holds [] { args:=args }=true:=(pre_splitW hpre).2;obtain⟨d,r,rfl,h1,h2⟩:=hasAllW_cons hsh;obtain rfl:=hasAllW_nil h2;obtain⟨xs,rfl,h3⟩:=hasW_list h1;obtain⟨ns,rfl⟩:=items_int h3;have hlen:ns.length<=n:=by
  unfold OpenLaw.pre at hc;have h4:(WTm.not (.lt (.lit (.int (n:Int))) (.len (.arg 0)))).holds [] { args:=[.list (ns.map .int)] }=true:=by
   have h4:=(holds_andW hc).1;rw[hn] at h4;exact h4
  have h5:=condW_of h4 (w_not (w_lt w_lit (w_len_list (w_arg rfl))));rw[List.length_map] at h5;refine Nat.le_of_not_lt fun q =>?_
  have q':(n:Int) < ((ns.length:Nat):Int):=by omega
  first
   | (rw[decide_eq_true q'] at h5;exact absurd h5 (by decide))
   | (simp at h5;omega)
 cases hwl with
 | cons w1 w2 =>
  cases w2;cases w1 with
  | list ho hall=>exact⟨_,_,ns,rfl,rfl,ho,afr ns _ hall,hlen⟩
theorem aqo(l:OpenLaw)(args:List WData):l.row.toRowW.claim.post args (.bool true) args=true :=
 postW_of (r:=l.row.toRowW) (X:=(true==true))
  (show WShape.has [] (.bool true) .bool=true by first | rfl | decide | simp[WShape.has,WShape.arms,WShape.armsAll])
  (show(WTm.eq .res (.lit (.bool true))).value [] { args:=args,res:=some (.bool true),after:=args }=some (.bool (true==true)) from w_eq_bool (w_res rfl) w_lit) rfl
theorem amd{l:OpenLaw}{n:Nat}{q:Program}{loose:List Str}{XP:(Str->Option Value)->Heap->Prop}{YP:World->Heap->Prop}{d:DefRec}
  (hn:l.most=some n) (hdf:d.params.defaults=[])
  (call:∀(w:World) (s₀ s₁:Shared) (mg mb:Str->Option Value) (fa:Addr) (o:Obj) (pm cd doc:Value) (a:Addr) (vs:List Value) (ns:List Int),
   Ground q loose [] XP w s₀ mg mb s₁.heap->YP w s₁.heap ->
   s₁.heap.get? fa=some o->o.data=.func (docDef d.name d.params d.body d.scope pm cd doc)->s₁.heap.CodeRec cd d.name->mg d.name=some (.ref fa) ->
   s₁.heap.get? a=some { cls:=.type "list", data:=.seq vs.toArray }->IntsAre vs ns->ns.length<=n->s₁.gens = #[] ->
   codeAny (model l.prog w) callerA (.call (.ref fa) ⟨[.ref a],[]⟩) (fun r s'=>r=.ok (.ret (.bool true))/\OldK s₁.heap s'.heap/\s'.os=s₁.os/\AllBare s'.gens) s₁) :
  WalkO q loose XP YP l.row.toRowW d [] (fun f vs=>PySem.call f vs):=by
 intro w s₀ s₁ mg mb G Y fa o pm cd doc dV kV ho hd hcd hD hmg hg args vals as hpre hlay hrd hwl hlo;obtain rfl:dV=.none:=Dflts.none hD hdf;obtain rfl:kV=.none:=Dflts.noKw hD;obtain⟨a,vs,ns,rfl,rfl,hobj,hints,hlen⟩:=aqf hn hpre hwl;refine enter_call (codeAny_mono (call w s₀ s₁ mg mb fa o pm cd doc a vs ns G Y ho (fd_plain hd) hcd hmg hobj hints hlen hg) fun r s' hq =>?_)
 obtain⟨rfl,h2,h3,h4⟩:=hq;exact⟨.inl ⟨.bool true,.bool true,[],rfl,fun _=>rfl,.bool true,aqo l _,fun _=>⟨List.Pairwise.nil,fun _ hm=>(nomatch hm)⟩⟩,h2,h3,h4⟩
section
variable{prog:Program}{w:World}{A:Around}{E:Value->Shared->Prop}{s:Shared}{K:Frag}
end
end Att
namespace L2
theorem ai4:∀{vs:List Value} {ns:List Int},IntsAre vs ns->Vals (ns.map V.int) vs
 | _,_,.nil=>.nil
 | _,_,.cons n t h=>.cons ⟨t,rfl⟩ (ai4 h)
def Only(H:Hp):Prop:=∀b,H b=none∨∃o xs,H b=some (.frz o (.lst xs))
theorem avi{P:Program}{w:World}{K:Fg9}{mg mb:Str->Option Value}{CX:CXT}{k:Nat}{fa a:Addr}{fd:FuncData}{x:Str}{sp:Sp}{s₁:Shared}{vs:List Value}{ns:List Int}
  (KX:K.In s₁.heap) (hns:s₁.heap.Ns mainGlobals mg) (hb:s₁.heap.Ns builtinsNs mb) (hbb:∀x:Str,x ≠ "__name__" -> mb x=bootBuiltins x) (hlim:s₁.heap.NoLimit) (hg:s₁.gens = #[])
  (ha:s₁.heap.get? a=some { cls:=.type "list", data:=.seq vs.toArray }) (hi:IntsAre vs ns) (hl:ns.length<=sizeLine) (hr:Room k callerA)
  (F:∀base:Heap,K.In base->base.Ns mainGlobals mg->FnOk P w K mg base CX k fa fd [x] sp) (hbind:∀(s:Shared) (u:Value),BindsTo s fd ⟨[u],[]⟩ [(x,u)])
  (hsp:∀H:Hp,Only H->SqL K H a (ns.map V.int)->sp [.ref a] H (fun v _=>v=.bl true) fun _ _ _=>False)
  (hCX:∀H e s',CX [] H s₁ (fun _ _ _=>False) e s'->False) :
  codeAny (model P w) callerA (.call (.ref fa) ⟨[.ref a],[]⟩) (fun r s'=>r=.ok (.ret (.bool true))/\OldK s₁.heap s'.heap/\s'.os=s₁.os/\AllBare s'.gens) s₁:=by
 have rv:=ai4 hi;have lenV:=hi.length;have core:∀H:Hp,Only H->SqL K H a (ns.map V.int)->HOk P w H s₁.heap->(∀b,H b≠none->b=a)->(H a≠none->K.lookup a=none) ->
   codeAny (model P w) callerA (.call (.ref fa) ⟨[.ref a],[]⟩) (fun r s'=>r=.ok (.ret (.bool true))/\OldK s₁.heap s'.heap/\s'.os=s₁.os/\AllBare s'.gens) s₁:=by
  intro H hO hS hok hA hK;have base_of:∀{b:Addr} {o:Obj},s₁.heap.get? b=some o->H b=none->(hidT s₁.heap H).get? b=some o:=fun e n=>avp e n
  have noA:∀{b:Addr} {o:Obj} {es:Array DictEntry} {ep:Nat},s₁.heap.get? b=some o->o.data=.dict es ep->H b=none:=fun{b o es ep} e d=>by
   cases q:H b with
   | none=>rfl
   | some u =>
    have e':b=a:=hA b (by rw[q];simp)
    subst e';rw[ha] at e;cases e;have d':Data.seq vs.toArray _=Data.dict es ep:=d;cases d'
  have nsK:∀{b:Addr} {m:Str->Option Value},s₁.heap.Ns b m->(hidT s₁.heap H).Ns b m:=fun{b m} ⟨o,es,ep,e,d,r⟩=>⟨o,es,ep,base_of e (noA e d),d,r⟩
  have hKb:K.In (hidT s₁.heap H):=fun b o e=>base_of (KX b o e) (by
   cases q:H b with
   | none=>rfl
   | some u =>
    have e':b=a:=hA b (by rw[q];simp)
    subst e';rw[hK (by rw[q];simp)] at e;cases e)
  have hM:Mod K mg (hidT s₁.heap H):=⟨hKb,nsK hns,⟨mb,nsK hb,hbb⟩,let ⟨mc,h1,h2⟩:=hlim;⟨mc,nsK h1,h2⟩⟩
  have e0:Env0 P w K mg (hidT s₁.heap H) callerA [] s₁ H:=⟨rfl,hM,fun b o e=>ayv e,Nat.le_of_eq (aru _ _),trivial,fun b hb=>absurd (show b∈([]:List Addr) from hb) (by simp),hok,.of_eq hg⟩
  refine codeAny_mono ((F _ hKb (nsK hns)).run callerA [] s₁ H ⟨[.ref a],[]⟩ [.ref a] [.ref a] _ _ hr e0 (hbind s₁ (.ref a)) (.cons rfl .nil) (hsp H hO hS)) fun r s' h =>?_
  cases r with
  | error e=>exact(hCX H e s' h).elim
  | ok fl =>
   cases fl with
   | next=>exact False.elim h
   | brk=>exact False.elim h
   | cont=>exact False.elim h
   | ret u =>
    obtain⟨v,H',os,bare,un,hok',r',q⟩:=h;have q':v=.bl true:=q;subst q';obtain rfl:u=Value.bool true:=r';refine⟨rfl,OldK.of_keep fun b o e =>?_,os,bare⟩
    cases q:H b with
    | none=>exact un.keep b o e q (by intro z;exact absurd (show b∈([]:List Addr) from z) (by simp)) (by simp)
    | some u =>
     rcases hO b with z | ⟨ob,xs,z⟩
     ·rw[q] at z;cases z
     ·have z2:=un.frzs b ob _ z;obtain⟨e1,_⟩:=hok b _ z;obtain⟨e2,_⟩:=hok' b _ z2;rw[e] at e1;cases e1;exact e2
 cases hk:K.lookup a with
 | some o =>
  have e:=KX a o hk;rw[ha] at e;cases e;refine core (fun _=>none) (fun _=>.inl rfl) (.inr ⟨_,vs.toArray,_,hk,rfl,rfl,rfl,by rw[List.size_toArray,lenV];exact hl,by simpa using rv⟩) (fun b u z=>by have z':(none:Option HO)=some u:=z;cases z') (fun b z=>absurd rfl z) fun z=>absurd rfl z
 | none =>
  refine core (fun b=>if b=a then some (.frz { cls:=.type "list", data:=.seq vs.toArray } (.lst (ns.map V.int))) else none) (fun b =>?_) (.inl (.inr ⟨{ cls:=.type "list", data:=.seq vs.toArray },if_pos rfl⟩)) (fun b u z =>?_) (fun b z =>?_) fun _=>hk
  ·by_cases hb:b=a
   ·exact .inr ⟨_,_,if_pos hb⟩
   ·exact .inl (if_neg hb)
  ·by_cases hb:b=a
   ·have z':=(if_pos hb).symm.trans z;cases z';subst hb;exact⟨ha,by rw[List.length_map];exact hl,vs,_,rv,ha⟩
   ·have z':=(if_neg hb).symm.trans z;cases z'
  ·by_cases hb:b=a
   ·exact hb
   ·exact absurd (if_neg hb) z
theorem axl{l:PySem.W.OpenLaw}{n k:Nat}{q:Program}{loose:List Str}{XP:(Str->Option Value)->Heap->Prop}{YP:World->Heap->Prop}{d:DefRec}{K:Params->Fg9}{CX:World->CXT}{sp:World->Sp}{x:Str}
  (hn:l.most=some n) (hn2:n<=sizeLine) (hdf:d.params.defaults=[]) (hr:Room k callerA)
  (hY:∀(w:World) (h:Heap),YP w h->(K w.params).In h)
  (F:∀(w:World) (mg:Str->Option Value) (fa:Addr) (h:Heap),(K w.params).In h->h.Ns mainGlobals mg->mg d.name=some (.ref fa) ->
   ∃fd:FuncData,(∀(s:Shared) (u:Value),BindsTo s fd ⟨[u],[]⟩ [(x,u)]) /\
    ∀base:Heap,(K w.params).In base->base.Ns mainGlobals mg->FnOk l.prog w (K w.params) mg base (CX w) k fa fd [x] (sp w))
  (hsp:∀(w:World) (H:Hp) (a:Addr) (ns:List Int),ns.length<=n->Only H->SqL (K w.params) H a (ns.map V.int)->sp w [.ref a] H (fun v _=>v=.bl true) fun _ _ _=>False)
  (hCX:∀(w:World) (H:Hp) (s:Shared) (e:Value) (s':Shared),CX w [] H s (fun _ _ _=>False) e s'->False) :
  PySem.W.WalkO q loose XP YP l.row.toRowW d [] (fun f vs=>PySem.call f vs):=by
 refine Att.amd hn hdf fun w s₀ s₁ mg mb fa o pm cd doc a vs ns G Y ho hd hcd hmg hobj hints hlen hg =>?_
 have KX:=hY w _ Y;obtain⟨fd,hb,hF⟩:=F w mg fa _ KX G.T.g hmg;exact avi KX G.T.g G.T.b G.T.builtins G.T.nolimit hg hobj hints (Nat.le_trans hlen hn2) hr hF hb (fun H hO hS=>hsp w H a ns hlen hO hS) fun H e s'=>hCX w H s₁ e s'
def jz(s:Stmt):Arguments:=match s with
 | .FunctionDef _ a _ _ _ _ _ _ _ _=>a
 | _=>{ posonlyargs:=[],args:=[],vararg:=none,kwonlyargs:=[],kw_defaults:=[],kwarg:=none,defaults:=[] }
def ig(s:Stmt):List Stmt:=match s with
 | .FunctionDef _ _ b _ _ _ _ _ _ _=>b
 | _=>[]
def aa(s:Stmt):Scope:=match s with
 | .FunctionDef _ _ _ _ _ _ sc _ _ _=>sc
 | _=>{ kind:=.function,names:=[],isGenerator:=false,isCoroutine:=false }
abbrev CX0:CXT:=fun _ _ _ _ _ _=>False
abbrev E0:XK:=fun _ _ _=>False
theorem ayp{X:Cx}:ahi CX0 X E0:=fun _ _ _ _ _ _ _ h=>h.elim
structure Fun (K:Fg9) (x qual:Str) (st:Stmt) (f:Addr) (fd:FuncData):Prop where
 ex:∃(oc:Value) (od:Option Addr) (kV doc pm:Value) (an:Option Addr) (cdv ct:Value) (osl:Array (Option Value)),
  fd=fnOf x qual (jz st) (ig st) (aa st) .none kV doc pm an cdv ct/\K.lookup f=some ⟨oc,od,.func fd,osl⟩/\codeIn K cdv qual=true
 kp:keepIn K (.ref f)=true
section
variable{P:Program}{w:World}{K:Fg9}{mg:Str->Option Value}{base:Heap}
theorem Fun.ok{x qual:Str}{st:Stmt}{f:Addr}{fd:FuncData}{N ps:List Str}{k:Nat}{sp:Sp}(F:Fun K x qual st f fd)(S:FnScope N ps (aa st))(len:∀vs H Q E,sp vs H Q E->vs.length=ps.length)
  (hbody:∀(cdv:Value) (A:Around) (outer:List Env) (s:Shared) (H:Hp) (vs:List V) (Q:VK) (E:XK),Room k (A.deeper (envOfC qual (aa st) s.heap.objs.size f cdv))->sp vs H Q E ->
   ∃t,PSs (cxOf CX0 P w K mg base N qual (aa st) f cdv A outer s H E).nox (ig st) t/\t { nx:=fun _ H'=>Q .non H',rt:=Q } (start N vs) H):FnOk P w K mg base CX0 (k+1) f fd ps sp:=by
 obtain⟨oc,od,kV,doc,pm,an,cdv,ct,osl,rfl,lk,hcd⟩:=F.ex;refine a7z lk hcd S len fun A outer s H vs Q E hr hsp =>?_
 obtain⟨t,h,q⟩:=hbody cdv A outer s H vs Q E hr hsp;exact⟨t,h.nox,q⟩
theorem Fun.binds{x qual:Str}{st:Stmt}{f:Addr}{fd:FuncData}{ps:List Str}(F:Fun K x qual st f fd)
  (h:∀(kV doc pm:Value) (an:Option Addr) (cdv ct:Value) (us:List Value),us.length=ps.length->bindArgs (fnOf x qual (jz st) (ig st) (aa st) .none kV doc pm an cdv ct) ⟨us,[]⟩=pure (ps.zip us)):Binds K fd ps []:=by
 obtain⟨oc,od,kV,doc,pm,an,cdv,ct,osl,rfl,lk,hcd⟩:=F.ex;exact .all (h kV doc pm an cdv ct)
theorem anx{x qual:Str}{st:Stmt}{f:Addr}{oc:Value}{od an:Option Addr}{osl:Array (Option Value)}{kV doc pm cdv ct:Value}(l:K.lookup f=some ⟨oc,od,.func (fnOf x qual (jz st) (ig st) (aa st) .none kV doc pm an cdv ct),osl⟩)
  (c:codeIn K cdv qual=true) (k:keepIn K (.ref f)=true):Fun K x qual st f (fnOf x qual (jz st) (ig st) (aa st) .none kV doc pm an cdv ct):=⟨⟨oc,od,kV,doc,pm,an,cdv,ct,osl,rfl,l,c⟩,k⟩
end
theorem ai7{n:Nat}(h:n<=1000):n < sizeLine:=Nat.lt_of_le_of_lt h (by decide)
section
variable{X:Cx}
theorem pv(i:Nat){x:Str}{pos:Pos}(hN:X.N[i]? = some x:=by rfl)(hv:Vis X.env.scope x:=by first | exact Or.inl rfl | exact Or.inr (Or.inl rfl) | exact Or.inr (Or.inr rfl))(hd:(x==("__debug__" : Str))=false:=by decide)
  (hcd:(x==("__classdict__" : Str))=false:=by decide):PE X (.Name x pos) (tVar i):=a1e hN hv hd hcd
end
theorem iteF{A B:Prop}(h:B):if false=true then A else B:=by
 rw[if_neg Bool.false_ne_true];exact h
theorem iteT{A B:Prop}(h:A):if true=true then A else B:=by
 rw[if_pos rfl];exact h
def Same(H H':Hp):Prop:=∀b o,H b=some o->H' b=some o
theorem Same.refl(H:Hp):Same H H:=fun _ _ h=>h
theorem Same.trans{H H1 H2:Hp}(a:Same H H1)(b:Same H1 H2):Same H H2:=fun c o h=>b c o (a c o h)
theorem Same.free{H H':Hp}(e:Same H H'){l:Addr}(h:H' l=Option.none):H l=Option.none:=by
 cases q:H l with
 | none=>rfl
 | some o =>
  rw[e l o q] at h;cases h
theorem Same.seq{K:Fg9}{H H':Hp}{a:Addr}{xs:List V}(e:Same H H')(h:SqL K H a xs):SqL K H' a xs:=by
 rcases h with(h | ⟨o,h⟩) | h
 ·exact .inl (.inl (e _ _ h))
 ·exact .inl (.inr ⟨o,e _ _ h⟩)
 ·exact .inr h
end L2
namespace Mn
open L2
def mq(env:Env)(fr:List Str):List (Str×Addr):=fr.filterMap fun n=>(env.cells.lookup n).map fun c=>(n,c)
theorem af9{env:Env}{n:Str}{r:List Str}(e:env.cells.lookup n=none):mq env (n::r)=mq env r:=by
 unfold mq;rw[List.filterMap_cons,e];rfl
theorem acg{env:Env}{n:Str}{r:List Str}{c:Addr}(e:env.cells.lookup n=some c):mq env (n::r)=(n,c)::mq env r:=by
 unfold mq;rw[List.filterMap_cons,e];rfl
theorem look_same{x:Str}{c:Addr}{l:List (Str×Addr)}:List.lookup x ((x,c)::l)=some c:=by
 have hb:(x==x)=true:=beq_iff_eq.mpr rfl;simp only[List.lookup,hb]
theorem ym{x n:Str}{c:Addr}{l:List (Str×Addr)}(h:x≠n):List.lookup x ((n,c)::l)=l.lookup x:=by
 have hb:(x==n)=false:=beq_eq_false_iff_ne.mpr h;simp only[List.lookup,hb]
theorem iu{env:Env}:∀{fr:List Str} {x:Str} {c:Addr},(mq env fr).lookup x=some c->env.cells.lookup x=some c
 | [],x,c,h=>by
  have h':(none:Option Addr)=some c:=h;cases h'
 | n::r,x,c,h=>by
  cases e:env.cells.lookup n with
  | none =>
   rw[af9 e] at h;exact iu h
  | some d =>
   rw[acg e] at h
   by_cases hx:x=n
   ·subst hx;rw[look_same] at h;rw[e];exact h
   ·rw[ym hx] at h;exact iu h
theorem vd{env:Env}:∀{fr:List Str} {x:Str} {c:Addr},x∈fr->env.cells.lookup x=some c->(mq env fr).lookup x=some c
 | [],x,c,hm,h=>absurd hm (by simp)
 | n::r,x,c,hm,h=>by
  by_cases hx:x=n
  ·subst hx;rw[acg h,look_same]
  ·have hm':x∈r:=(List.mem_cons.mp hm).elim (fun e=>absurd e hx) id
   cases e:env.cells.lookup n with
   | none =>
    rw[af9 e];exact vd hm' h
   | some d =>
    rw[acg e,ym hx];exact vd hm' h
def adv(XN fr:List Str):List Str->List (Option Nat)->Bool
 | [],[]=>true
 | _::N,none::r=>adv XN fr N r
 | x::N,some j::r=>XN[j]? == some x&&fr.contains x&&adv XN fr N r
 | _,_=>false
theorem ack{XN fr:List Str}:∀{N:List Str} {src:List (Option Nat)} {i j:Nat} {x:Str},adv XN fr N src=true->N[i]? = some x->src[i]? = some (some j)->XN[j]? = some x/\x∈fr
 | [],[],i,j,x,_,h,_=>by simp at h
 | [],_::_,i,j,x,_,h,_=>by simp at h
 | _::_,[],i,j,x,_,_,h=>by simp at h
 | y::N,none::r,0,j,x,_,_,h=>by simp at h
 | y::N,none::r,i+1,j,x,hk,h1,h2=>ack (N:=N) (src:=r) (i:=i) hk (by simpa using h1) (by simpa using h2)
 | y::N,some k::r,0,j,x,hk,h1,h2=>by
  simp only[adv,Bool.and_eq_true] at hk;obtain⟨⟨a,b⟩,_⟩:=hk;simp at h1 h2;subst h1 h2;exact⟨by simpa using a,by simpa using b⟩
 | y::N,some k::r,i+1,j,x,hk,h1,h2=>by
  simp only[adv,Bool.and_eq_true] at hk;exact ack (N:=N) (src:=r) (i:=i) hk.2 (by simpa using h1) (by simpa using h2)
theorem acj{XN fr:List Str}:∀{N:List Str} {src:List (Option Nat)},adv XN fr N src=true->src.length=N.length
 | [],[],_=>rfl
 | [],_::_,h=>by simp[adv] at h
 | _::_,[],h=>by simp[adv] at h
 | _::N,none::r,h=>by
  have:=acj (N:=N) (src:=r) h;simp[this]
 | _::N,some k::r,h=>by
  simp only[adv,Bool.and_eq_true] at h;have:=acj (N:=N) (src:=r) h.2;simp[this]
def pick(src:List (Option Nat))(σ:L2.St):L2.St:=src.map fun o=>o.bind fun j=>(σ[j]?).bind id
theorem am2{src:List (Option Nat)}{σ:L2.St}{i:Nat}{v:V}(h:(pick src σ)[i]? = some (some v)):∃j,src[i]? = some (some j)/\σ[j]? = some (some v):=by
 unfold pick at h;rw[List.getElem?_map] at h;cases e:src[i]? with
 | none=>rw[e] at h;cases h
 | some o =>
  rw[e] at h;have h':(o.bind fun j=>(σ[j]?).bind id)=some v:=Option.some.inj h
  cases o with
  | none=>cases h'
  | some j =>
   refine⟨j,rfl,?_⟩;have h2:(σ[j]?).bind id=some v:=h';cases q:σ[j]? with
   | none=>rw[q] at h2;cases h2
   | some z =>
    rw[q] at h2;have h3:z=some v:=h2;rw[h3]
def ahb(env:Env)(XN:List Str)(scope:Scope)(fr N:List Str)(src:List (Option Nat)):Bool :=
 scope.names.all (fun y=>y.2 != .cell&&(y.2 != .local||scope.names.lookup y.1==some .local)&&(y.2 != .free||fr.contains y.1)) &&
 fr.all (fun x=>scope.names.lookup x==some .free&&(env.kindOf x==some .cell||env.kindOf x==some .free))&&adv XN fr N src
structure CompOk (env:Env) (XN:List Str) (scope:Scope) (fr N:List Str) (src:List (Option Nat)):Prop where
 cell:∀y∈scope.names,y.2≠.cell
 loc:∀y∈scope.names,y.2=.local->scope.names.lookup y.1=some .local
 free:∀y∈scope.names,y.2=.free->y.1∈fr
 frk:∀x∈fr,scope.names.lookup x=some .free
 out:∀x∈fr,env.kindOf x=some .cell∨env.kindOf x=some .free
 src:adv XN fr N src=true
theorem CompOk.of{env:Env}{XN:List Str}{scope:Scope}{fr N:List Str}{src:List (Option Nat)}(h:ahb env XN scope fr N src=true):CompOk env XN scope fr N src:=by
 simp only[ahb,Bool.and_eq_true,List.all_eq_true] at h;obtain⟨⟨h1,h2⟩,h3⟩:=h;refine⟨fun y hy =>?_,fun y hy e =>?_,fun y hy e =>?_,fun x hx =>?_,fun x hx =>?_,h3⟩
 ·have:=(h1 y hy).1.1
  simpa using this
 ·have:=(h1 y hy).1.2;rw[e] at this
  simpa using this
 ·have:=(h1 y hy).2;rw[e] at this
  simpa using this
 ·have:=(h2 x hx).1
  simpa using this
 ·have:=(h2 x hx).2
  simpa using this
theorem aar{env:Env}:∀{names:List (Str×NameKind)} {x:Str} {k:NameKind},
  (names.map fun(n,k)=>if (k==NameKind.free&&env.scope.kind==.function&&env.kindOf n==some .cell) then (n,NameKind.cell) else (n,k)).lookup x=some k ->
  ∃k0,names.lookup x=some k0/\(k=k0∨(k0=.free/\k=.cell))
 | [],x,k,h=>by simp at h
 | (n,q)::r,x,k,h=>by
  by_cases hx:x=n
  ·subst hx;have hb:(x==x)=true:=beq_iff_eq.mpr rfl;refine⟨q,by simp only[List.lookup,hb],?_⟩
   by_cases hc:(q==NameKind.free&&env.scope.kind==.function&&env.kindOf x==some .cell)=true
   ·rw[List.map_cons] at h;simp only[hc,if_true,List.lookup,hb] at h;simp only[Bool.and_eq_true] at hc;exact .inr ⟨by simpa using hc.1.1,(Option.some.inj h).symm⟩
   ·rw[List.map_cons] at h;simp only[hc,List.lookup,hb] at h;exact .inl (by simpa using h.symm)
  ·have hb:(x==n)=false:=beq_eq_false_iff_ne.mpr hx;have h':(r.map fun(n,k)=>if (k==NameKind.free&&env.scope.kind==.function&&env.kindOf n==some .cell) then (n,NameKind.cell) else (n,k)).lookup x=some k:=by
    rw[List.map_cons] at h
    by_cases hc:(q==NameKind.free&&env.scope.kind==.function&&env.kindOf n==some .cell)=true
    ·simp only[hc,if_true,List.lookup,hb] at h;exact h
    ·have h2:List.lookup x ((if (q==NameKind.free&&env.scope.kind==.function&&env.kindOf n==some .cell)=true then (n,NameKind.cell) else (n,q))::(r.map fun(n,k)=>if (k==NameKind.free&&env.scope.kind==.function&&env.kindOf n==some .cell) then (n,NameKind.cell) else (n,k)))=some k:=h
     rw[if_neg hc] at h2;simp only[List.lookup,hb] at h2;exact h2
   obtain⟨k0,e,d⟩:=aar h';exact⟨k0,by simp only[List.lookup,hb];exact e,d⟩
theorem ww{env:Env}:∀{names:List (Str×NameKind)} {x:Str},names.lookup x=some .free ->
  (names.map fun(n,k)=>if (k==NameKind.free&&env.scope.kind==.function&&env.kindOf n==some .cell) then (n,NameKind.cell) else (n,k)).lookup x=some .free ∨
  (names.map fun(n,k)=>if (k==NameKind.free&&env.scope.kind==.function&&env.kindOf n==some .cell) then (n,NameKind.cell) else (n,k)).lookup x=some .cell
 | [],x,h=>by simp at h
 | (n,q)::r,x,h=>by
  by_cases hx:x=n
  ·subst hx;have hb:(x==x)=true:=beq_iff_eq.mpr rfl;simp only[List.lookup,hb] at h;have hq:q=.free:=Option.some.inj h;subst hq
   by_cases hc:(NameKind.free==NameKind.free&&env.scope.kind==.function&&env.kindOf x==some .cell)=true
   ·right
    rw[List.map_cons];simp only[hc,if_true,List.lookup,hb]
   ·left
    show List.lookup x ((if (NameKind.free==NameKind.free&&env.scope.kind==.function&&env.kindOf x==some .cell)=true then (x,NameKind.cell) else (x,NameKind.free))::_)=some NameKind.free
    rw[if_neg hc];simp only[List.lookup,hb]
  ·have hb:(x==n)=false:=beq_eq_false_iff_ne.mpr hx;simp only[List.lookup,hb] at h;rw[List.map_cons]
   by_cases hc:(q==NameKind.free&&env.scope.kind==.function&&env.kindOf n==some .cell)=true
   ·simp only[hc,if_true,List.lookup,hb];exact ww h
   ·simp only[hc,List.lookup,hb]
    simpa[List.lookup,hb] using ww (env:=env) h
def cxC(X:Cx)(N:List Str)(scope:Scope)(fr:List Str)(fp:List Addr)(s:Shared)(H:Hp):Cx where
 prog:=X.prog
 w:=X.w
 K:=X.K
 mg:=X.mg
 base:=X.base
 A:=X.A
 N:=N
 s₀:=s
 H₀:=H
 env:=compEnvC scope (mq X.env fr) s.heap.objs.size X.env
 outer:=X.stack
 stack:=X.stack
 ex:=fp
 fn:=fun _=>false
 calm:=X.calm
 pn:=[]
 xe:=fun _ _=>False
section
variable{X:Cx}{qv:List (Addr×Obj)}{σ:L2.St}{H:Hp}{s:Shared}{scope:Scope}{fr N:List Str}{src:List (Option Nat)}{fp:List Addr}
theorem a3x(I:Inv X qv σ H s)(C:CompOk X.env X.N scope fr N src)(hkind:scope.kind=.function)(hf:∀b∈fp,FpOk X qv H b)(hl:∀b∈fp,b < s.heap.objs.size):(cxC X N scope fr fp s H).Ok where
 mod:=I.ok.mod
 kind:=hkind
 glob:=I.ok.glob
 blt:=I.ok.blt
 above:=Nat.le_refl _
 inj:=fun x y c h1 h2=>I.ok.inj x y c (iu h1) (iu h2)
 has:=fun x hx=>by
  have mem:∀k,(k=NameKind.cell∨k=NameKind.free)->(cxC X N scope fr fp s H).env.kindOf x=some k->x∈fr:=fun k hk e=>by
   obtain⟨k0,e0,d⟩:=aar (env:=X.env) (names:=scope.names) e;have hm:=PySem.mem_of_lookup e0;rcases d with rfl | ⟨rfl,_⟩
   ·rcases hk with rfl | rfl
    ·exact absurd rfl (C.cell _ hm)
    ·exact C.free _ hm rfl
   ·exact C.free _ hm rfl
  have hm:x∈fr:=by
   rcases hx with e | e
   ·exact mem _ (.inl rfl) e
   ·exact mem _ (.inr rfl) e
  obtain⟨c,hc⟩:=I.ok.has x (C.out x hm);exact⟨c,vd hm hc⟩
 cab:=fun _ _ h _=>absurd h Bool.false_ne_true
 hd:=I.ok.hd
 frames:=I.ok.frames
 stk:=.inl rfl
 exf:=fun b hb=>⟨Nat.ne_of_lt (hl b hb),fun x c e=>(hf b hb).2.2.2.2.1 x c (iu e)⟩
 bs:=I.bs
 bsz:=Nat.le_trans I.ok.bsz I.sz
 noex:=fun b o e hb=>by
  rcases(hf b hb).2.2.2.1 with z | z
  ·exact I.ok.noex b o e z
  ·exact absurd (Nat.lt_of_lt_of_le (Heap.lt_size e) (Nat.le_trans I.ok.bsz z)) (Nat.lt_irrefl _)
 exfs:=fun b hb z=>by
  rcases List.mem_cons.mp (I.stkSub b z) with e | e
  ·exact(hf b hb).2.1 e
  ·exact(hf b hb).2.2.1 e
 funs:=I.stack
 frf:=I.stkFree
theorem anm(I:Inv X qv σ H s)(C:CompOk X.env X.N scope fr N src)(hkind:scope.kind=.function)(hf:∀b∈fp,FpOk X qv H b)(hl:∀b∈fp,b < s.heap.objs.size){h':Heap}{tk:Nat}{m:Str->Option Value}
  (hns:h'.Ns s.heap.objs.size m) (hk:∀b o,s.heap.get? b=some o->h'.get? b=some o):Inv (cxC X N scope fr fp s H) [] (pick src σ) H { s with heap:=h',toks:=tk } where
 ok:=a3x I C hkind hf hl
 os:=rfl
 bare:=I.bare
 base:=Un.kept hk
 loc:=by
  refine⟨m,hns,fun i x v h1 h2 h3 =>?_⟩
  obtain⟨j,hj,hv⟩:=am2 h2;obtain⟨hN,hm⟩:=ack C.src h1 hj;obtain⟨mo,_,hlo⟩:=I.loc;have vis:Vis X.env.scope x:=by
   rcases C.out x hm with e | e
   ·exact .inr (.inl e)
   ·exact .inr (.inr e)
  obtain⟨u,r,l⟩:=hlo j x v hN hv vis;refine⟨u,r,.inr ⟨?_,?_⟩⟩
  ·rcases ww (env:=X.env) (C.frk x hm) with e | e
   ·exact .inr e
   ·exact .inl e
  ·rcases l with⟨e,_⟩ | ⟨_,c,hc,z⟩
   ·rcases C.out x hm with q | q
    ·rw[q] at e;cases e
    ·rw[q] at e;cases e
   ·obtain⟨o,ho,hd⟩:=z;exact⟨c,vd hm hc,o,hk c o ho,hd⟩
 cell:=fun x c e=>by
  obtain⟨v,o,ho,hd⟩:=I.cell x c (iu e);exact⟨v,o,hk c o ho,hd⟩
 free:=I.hok.fresh (Nat.le_refl _)
 freeC:=fun x c e=>I.freeC x c (iu e)
 pin:=fun p hp=>absurd (show p∈([]:List (Addr×Obj)) from hp) (by simp)
 hok:=I.hok.kept hk
 len:=by
  unfold pick;rw[List.length_map];exact acj C.src
theorem ano{pins':List (Addr×Obj)}{σ':L2.St}{H':Hp}{s':Shared}{h'':Heap}(I:Inv X qv σ H s)(hf:∀b∈fp,FpOk X qv H b)(J:Inv (cxC X N scope fr fp s H) pins' σ' H' s')
  (hs:Heap.SameBut s.heap.objs.size s'.heap h''):Inv X qv σ H' { s' with heap:=h'' }:=by
 have k:∀b o,b≠s.heap.objs.size->s'.heap.get? b=some o->h''.get? b=some o:=fun b o hb e=>(hs.2 b hb).trans e
 have old:∀b o,s.heap.get? b=some o->b≠s.heap.objs.size:=fun b o e=>Nat.ne_of_lt (Heap.lt_size e)
 have un:Un (frs X.stack) fp H H' s.heap h'':=by
  have u:Un (frs X.stack) fp H H' s.heap s'.heap:=J.base;refine⟨fun b o e n hb hx=>k b o (old b o e) (u.keep b o e n hb hx),fun b o e n hb hx =>?_,u.free,fun b o e hx =>?_,u.tups,u.frzs,u.tbls⟩
  ·obtain⟨sl,q⟩:=u.slot b o e n hb hx;exact⟨sl,k b _ (old b o e) q⟩
  ·obtain⟨o',q⟩:=u.there b o e hx;exact⟨o',k b _ (old b o e) q⟩
 have hok:HOk X.prog X.w H' h'':=fun b u e=>by
  have nC:∀c z,H' c=some z->c≠s.heap.objs.size:=fun c z q w=>by
   have f:H' s.heap.objs.size=none:=J.free;rw[w,f] at q;cases q
  refine(J.hok b u e).stay (fun c v hc q=>k c v ?_ q) (fun _ q=>q) fun _ _ q=>q
  rcases hc with z | z
  ·rw[z];exact nC b u e
  ·exact nC c _ z
 have os:s'.os=s.os:=J.os;refine Inv.call' (s':={ s' with heap:=h'' }) I os un hok J.bare fun b hb =>?_
 obtain⟨_,f1,_,f3,f4,f5⟩:=hf b hb;exact⟨f3,f1,f4,f5⟩
end
def ak8(ifs:List Expr)(env:Env):Sem Bool:=forIn ifs true fun c r=>if r=true then do let ok <-isTrue c env (eval c env);pure (ForInStep.yield ok) else pure (ForInStep.yield r)
def PIf(X:Cx)(ifs:List Expr)(t:TT):Prop :=
 ∀(qv:List (Addr×Obj)) (s:Shared) (σ:L2.St) (H:Hp) (Q:Bool->Hp->Prop),Inv X qv σ H s->t σ H Q->wpAny (model X.prog X.w) X.A (ak8 ifs X.env) (TP X qv σ Q) X.xe s
def tYes:TT:=fun _ H Q=>Q true H
theorem ayf{X:Cx}:PIf X [] tYes:=fun qv s σ H Q I h=>by
 show wpAny _ _ (pure true) _ _ s;exact wpAny_pure ⟨H,I,h⟩
theorem aye{X:Cx}{c:Expr}{t:TT}(hc:PT X c t):PIf X [c] t:=fun qv s σ H Q I h=>by
 unfold ak8;rw[List.forIn_cons];rw[if_pos rfl];refine wpAny_bind (wpAny_bind (thn (hc qv s σ H _ I h) fun b s1 q=>wpAny_pure ?_))
 show wpAny _ _ (forIn [] b _) _ _ s1;exact wpAny_pure q
section
variable{prog:Program}{w:World}{A:Around}{R:Result->Shared->Prop}{s:Shared}
theorem compLoop{elt target iter:Expr}{ifs:List Expr}{scope:Scope}{pos:Pos}{it acc:Value}{env:Env}(I:Nat->Shared->Prop)
  (turn:∀n s,I n s->wpAny (model prog w) A (pyNext it) (fun r s₁=>match r with
   | none=>R (.ok .next) s₁
   | some v=>wpAny (model prog w) A (letOwnedTupleGo target it v) (fun _ s₁'=>wpAny (model prog w) A (assign target env v) (fun _ s₂ =>
     wpAny (model prog w) A (ak8 ifs env) (fun ok s₃ =>
      if ok=true then wpAny (model prog w) A (eval elt env) (fun x s₄ =>
       wpAny (model prog w) A (call (.builtin "list.append") [acc,x]) (fun _ s₅=>∃m,m < n/\I m s₅) (fun _ _=>False) s₄) (fun _ _=>False) s₃
      else ∃m,m < n/\I m s₃) (fun _ _=>False) s₂) (fun _ _=>False) s₁') (fun _ _=>False) s₁) (fun _ _=>False) s)
  (n:Nat) (h:I n s) :
  codeAny (model prog w) A (.compLoop (.ListComp elt [⟨target,iter,ifs,0⟩] scope pos) 0 it acc env) R s:=by
 refine codeAny_loop rfl I (fun n s hI =>?_) n h
 show wpAny _ A ((compTurn (.ListComp elt [⟨target,iter,ifs,0⟩] scope pos) 0 it acc env).onRaise (fun x=>do noteFrame x env;theTreesLotGoes x)) _ _ s
 refine wpAny_noted ?_;rw[compTurn_list];refine wpAny_bind (wpAny_standAt (wpAny_bind (wpAny_mono (turn n s hI) (fun r s₁ h₁ =>?_) fun _ _ h'=>h'.elim)))
 cases r with
 | none=>exact wpAny_pure h₁
 | some v =>
  refine wpAny_bind (wpAny_mono h₁ (fun _ s₁' h₁' =>?_) fun _ _ h'=>h'.elim)
  refine wpAny_bind (wpAny_mono h₁' (fun _ s₂ h₂=>wpAny_bind (wpAny_mono h₂ (fun ok s₃ h₃ =>?_) fun _ _ h'=>h'.elim)) fun _ _ h'=>h'.elim)
  cases ok with
  | false=>exact wpAny_pure ⟨rfl,h₃⟩
  | true =>
   exact wpAny_bind (wpAny_bind (wpAny_mono h₃ (fun x s₄ h₄=>wpAny_bind (wpAny_mono h₄ (fun _ s₅ h₅=>wpAny_pure (wpAny_pure ⟨rfl,h₅⟩)) fun _ _ h'=>h'.elim)) fun _ _ h'=>h'.elim))
end
def a4m(J:It)(g:TG)(ti:TT)(te:TE)(Q:VK)(d:Addr)(σ0:L2.St)(H1:Hp):Prop :=
 ∃W:Nat->Nat->List V->L2.St->Hp->Prop,(∃m,W 0 m [] σ0 (upd H1 d (.lst [])))/\∀i m ys σ H2,W i m ys σ H2->H2 d=some (.lst ys) /\
  ((J.stop i H2/\Q (.ref d) H2)∨(J.go i H2/\∀x H3,J.yld i H2 x H3->g x σ H3 fun σ4 H4=>ti σ4 H4 fun b H5 =>
   if b=true then te σ4 H5 fun y H6=>H6 d=some (.lst ys)/\ys.length < sizeLine/\∃m',m' < m/\W (i+1) m' (ys++[y]) σ4 (upd H6 d (.lst (ys++[y]))) else ∃m',m' < m/\W (i+1) m' ys σ4 H5))
def ap3(wi:TI)(g:TG)(ti:TT)(te:TE)(src:List (Option Nat)):TE:=fun σ H Q=>wi σ H fun J H1=>∀d,H1 d=none->a4m J g ti te Q d (pick src σ) H1
theorem adn{X:Cx}{tg iter elt:Expr}{ifs:List Expr}{scope:Scope}{pos:Pos}{J:It}{fp:List Addr}{it d:Addr}{tn:Nat->Heap->Prop}{g:TG}{ti:TT}{te:TE}{Q:VK}{R:Result->Shared->Prop}
  {W:Nat->Nat->List V->L2.St->Hp->Prop} {m0:Nat} {σ0:L2.St} {H0:Hp} {s:Shared} (hc:X.calm=true) (hE:X.xe=fun _ _=>False) (T:Turn X.prog X.w X.K tg J fp it tn)
  (hf:∀H':Hp,(∀b∈fp,H' b=none)->∀b∈fp,FpOk X [] H' b) (hg:PG X tg g) (ht:PIf X ifs ti) (he:PE X elt te)
  (turn:∀i m ys σ H2,W i m ys σ H2->H2 d=some (.lst ys) /\
   ((J.stop i H2/\Q (.ref d) H2)∨(J.go i H2/\∀x H3,J.yld i H2 x H3->g x σ H3 fun σ4 H4=>ti σ4 H4 fun b H5 =>
    if b=true then te σ4 H5 fun y H6=>H6 d=some (.lst ys)/\ys.length < sizeLine/\∃m',m' < m/\W (i+1) m' (ys++[y]) σ4 (upd H6 d (.lst (ys++[y]))) else ∃m',m' < m/\W (i+1) m' ys σ4 H5)))
  (w0:W 0 m0 [] σ0 H0) (I0:Inv X [] σ0 H0 s) (st0:tn 0 s.heap) (fr0:∀b∈fp,H0 b=none)
  (hR:∀σ' H' s',Inv X [] σ' H' s'->Q (.ref d) H'->R (.ok .next) s') :
  codeAny (model X.prog X.w) X.A (.compLoop (.ListComp elt [⟨tg,iter,ifs,0⟩] scope pos) 0 (.ref it) (.ref d) X.env) R s:=by
 have hE':∀e s',X.xe e s'->False:=fun e s' h=>by rw[hE] at h;exact h
 refine compLoop (fun n s'=>∃i ys σ' H',Inv X [] σ' H' s'/\tn i s'.heap/\(∀b∈fp,H' b=none)/\W i n ys σ' H') ?_ m0 ⟨0,[],σ0,H0,I0,st0,fr0,w0⟩
 rintro n s5 ⟨i,ys,σ5,H5,I5,st5,fr5,w5⟩
 obtain⟨hD,alt⟩:=turn i n ys σ5 H5 w5;rcases alt with⟨stop,qn⟩ | ⟨go,step⟩
 ·refine wpAny_mono (T.done X rfl rfl rfl hc i [] s5 σ5 H5 (fun _ _=>False) I5 (hf _ fr5) st5 stop) (fun r s6 ⟨hr,I6⟩ =>?_) fun _ _ e=>e
  subst hr;exact hR σ5 H5 s6 I6 qn
 ·refine wpAny_mono (T.item X rfl rfl rfl hc i [] s5 σ5 H5 (fun _ _=>False) I5 (hf _ fr5) st5 go) (fun r s6 ⟨u,hr,h6⟩ =>?_) fun _ _ e=>e
  subst hr;refine wpAny_mono h6 (fun _ s7 ⟨x,H7,I7,r7,y7,st7,fr7⟩ =>?_) fun _ _ e=>e
  have I7':=I7.pinned (hf _ fr7) (T.obj _ _ st7);have again:∀{σ':L2.St} {H':Hp} {s':Shared} {ys':List V} {m':Nat},Inv X ([]++ajd fp s7.heap) σ' H' s'->W (i+1) m' ys' σ' H'->∃i ys σ' H',Inv X [] σ' H' s'/\tn i s'.heap/\(∀b∈fp,H' b=none)/\W i m' ys σ' H':=fun{σ' H' s' ys' m'} Ia wa=>by
   refine⟨i+1,ys',σ',H',Ia.unpinned,T.keep _ _ _ st7 fun b hb o e=>(Ia.pin (b,o) (List.mem_append_right _ (List.mem_append_right _ (abf hb e)))).1,fun b hb =>?_,wa⟩
   obtain⟨o,e,d⟩:=T.obj _ _ st7 b hb;exact(Ia.pin (b,o) (List.mem_append_right _ (List.mem_append_right _ (abf hb e)))).2.1
  refine wpAny_mono (hg _ s7 σ5 H7 x u _ I7' r7 (step x H7 y7)) (fun _ s8 ⟨σ8,H8,I8,q8⟩ =>?_) hE'
  refine wpAny_mono (ht _ s8 σ8 H8 _ I8 q8) (fun ok s9 ⟨H9,I9,q9⟩ =>?_) hE'
  cases ok with
  | false =>
   rw[if_neg Bool.false_ne_true] at q9 ⊢
   obtain⟨m',hm,wa⟩:=q9;exact⟨m',hm,again I9 wa⟩
  | true =>
   rw[if_pos rfl] at q9 ⊢
   refine wpAny_mono (he _ s9 σ8 H9 _ I9 q9) (fun z s10 ⟨y,H10,I10,r10,hd10,hz,m',hm,wa⟩ =>?_) hE'
   refine wpAny_mono (sy _ s10 σ8 H10 (.ref d) [y] (.ref d) [z] (fun _ H'=>H'=upd H10 d (.lst (ys++[y]))) I10 rfl (.cons r10 .nil) ⟨d,ys,y,rfl,rfl,hd10,hz,rfl⟩) (fun _ s11 ⟨_,H11,I11,_,e11⟩ =>?_) hE'
   subst e11;exact⟨m',hm,again I11 wa⟩
theorem ayk{X:Cx}{tg iter elt:Expr}{ifs:List Expr}{scope:Scope}{pos:Pos}{wi:TI}{g:TG}{ti:TT}{te:TE}(fr N:List Str)(src:List (Option Nat))(hc:X.calm=true)(hi:PI X tg iter wi)
  (hg:∀fp s H,PG (cxC X N scope fr fp s H) tg g) (ht:∀fp s H,PIf (cxC X N scope fr fp s H) ifs ti) (he:∀fp s H,PE (cxC X N scope fr fp s H) elt te)
  (hok:ahb X.env X.N scope fr N src=true:=by rfl) (hkind:scope.kind=.function:=by rfl) (hclos:closureFor scope X.env=pure (mq X.env fr):=by rfl)
  (hs:∀x,foldedSetIterable iter X.env x=pure x:=by intro _;rfl):PE X (.ListComp elt [⟨tg,iter,ifs,0⟩] scope pos) (ap3 wi g ti te src):=by
 have C:=CompOk.of hok;intro qv s σ H Q I h;rw[eval_ListComp];refine wpAny_comprehension_free (use:=none) rfl hs hclos hkind C.loc (wpAny_mono (hi qv s σ H _ I h) (fun v s1 h1=>wpAny_mono h1 (fun itv s2 h2 =>?_) fun _ _ e=>e) fun _ _ e=>e)
 obtain⟨it,fp,tn,J,H2,e,I2,T,st2,f2,q2⟩:=h2;subst e;have hd0:H2 s2.heap.objs.size=none:=I2.hok.fresh (Nat.le_refl _);obtain⟨W,⟨m0,w0⟩,turn⟩:=q2 s2.heap.objs.size hd0;refine wpAny_newObj_type ?_;generalize hs3:({ s2 with heap:=s2.heap.push { cls:=.type "list", dict:=none,data:=.seq ([]:List Value).toArray } }:Shared)=s3
 have keep2:∀b o,s2.heap.get? b=some o->s3.heap.get? b=some o:=fun b o e=>by rw[<-hs3];exact Heap.get?_push_of_some _ e
 have I3:Inv X qv σ (upd H2 s2.heap.objs.size (.lst [])) s3:=by
  rw[<-hs3];exact I2.laid (t':=s2.toks) (fun b u q=>Heap.get?_push_of_some _ q) (Nat.le_refl _) ⟨Nat.zero_le _,[],0,.nil,Heap.get?_push_size _ rfl⟩
 have ne0:∀b∈fp,b≠s2.heap.objs.size:=fun b hb=>by
  obtain⟨o,e,_⟩:=T.obj _ _ st2 b hb;exact Nat.ne_of_lt (Heap.lt_size e)
 have f3:∀b∈fp,FpOk X qv (upd H2 s2.heap.objs.size (.lst [])) b:=fun b hb=>⟨by rw[bc (ne0 b hb)];exact(f2 b hb).1,(f2 b hb).2⟩
 have lt3:∀b∈fp,b < s3.heap.objs.size:=fun b hb=>by
  obtain⟨o,e,_⟩:=T.obj _ _ st2 b hb;exact Heap.lt_size (keep2 b o e)
 refine wpAny_newFunctionEnv C.cell (by intro y hy;simp at hy) (fun h₁ hns₁ hsb₁ =>?_) hkind
 have keep3:∀b o,s3.heap.get? b=some o->h₁.get? b=some o:=fun b o e=>hsb₁.extBut b o (Nat.ne_of_lt (Heap.lt_size e)) (Heap.get?_push_of_some _ e)
 have st4:tn 0 h₁:=T.keep _ _ _ st2 fun b hb o e=>keep3 b o (keep2 b o e)
 have I4:=anm (tk:=s3.toks+([]:List (Str×Value)).length) I3 C hkind f3 lt3 hns₁ keep3;have loop:=adn (X:=cxC X N scope fr fp s3 (upd H2 s2.heap.objs.size (.lst []))) (iter:=iter) (scope:=scope) (pos:=pos) (d:=s2.heap.objs.size)
  (R:=compPost (model X.prog X.w) X.A X.xe none (EP X qv σ Q) (.ref s2.heap.objs.size) s3.heap.objs.size) hc rfl T
  (fun H' hn b hb=>⟨hn b hb,Nat.ne_of_lt (lt3 b hb),I4.ok.exfs b hb,.inl hb,(I4.ok.exf b hb).2,fun p hp=>absurd (show p∈([]:List (Addr×Obj)) from hp) (by simp)⟩)
  (hg fp s3 _) (ht fp s3 _) (he fp s3 _) turn w0 I4 st4 (fun b hb=>(f3 b hb).1) (fun σ' H' s' I6 qn=>by
   obtain⟨m6,hn6,_⟩:=I6.loc;exact⟨m6,hn6,fun h'' hs''=>⟨.ref s2.heap.objs.size,H',ano I3 f3 I6 hs'',rfl,qn⟩⟩)
 exact codeAny_compStart_list loop (T.self _ 0 _ _ _ st4 loop)
theorem Same.new{H:Hp}{p:Addr}(h:H p=none)(o:HO):Same H (upd H p o):=fun b u q=>by rw[bc (fc q h)];exact q
structure ItOf (J:It) (xs:List V) (S:Hp->Prop):Prop where
 go:∀i H,S H->i < xs.length->J.go i H
 yld:∀i H x H',S H->J.yld i H x H'->H'=H/\(i < xs.length->xs[i]? = some x)
 stop:∀i H,S H->xs.length<=i->J.stop i H
theorem avn{K:Fg9}{a:Addr}{xs:List V}:ItOf (Itt K a) xs fun H=>SqT K H a xs :=
 ⟨fun i H h hi=>⟨xs,xs[i],h,by simp[hi]⟩,fun i H x H' h y=>⟨y.1,fun _=>y.2 xs h⟩,fun i H h hi=>⟨xs,h,hi⟩⟩
theorem ank{K:Fg9}{a:Addr}{xs:List V}:ItOf (Itl K a) xs fun H=>SqL K H a xs :=
 ⟨fun i H h hi=>⟨xs,xs[i],h,by simp[hi]⟩,fun i H x H' h y=>⟨y.1,fun _=>y.2 xs h⟩,fun i H h hi=>⟨xs,h,hi⟩⟩
def ups(lo:Int)(n:Nat):List V:=(List.range n).map fun i=>V.int (lo+(i:Nat))
theorem ak4(lo:Int)(n:Nat):(ups lo n).length=n:=by simp[ups]
theorem axn{lo:Int}{n i:Nat}(h:i < n):(ups lo n)[i]? = some (.int (lo+(i:Nat))):=by
 unfold ups;rw[List.getElem?_map,List.getElem?_range h];rfl
theorem anj{lo:Int}{n:Nat}:ItOf (Itr lo n) (ups lo n) fun _=>True :=
 ⟨fun i H _ hi=>by rw[ak4] at hi;exact hi,fun i H x H' _ y=>⟨y.1,fun hi=>by rw[ak4] at hi;rw[axn hi,y.2]⟩,fun i H _ hi=>by rw[ak4] at hi;exact hi⟩
section
variable{X:Cx}
def rAll(K:Fg9):List V->Hp->VK->Prop:=fun xs H Q=>∃(p:Addr) (bs:List Bool),xs=[.ref p]/\SqL K H p (bs.map V.bl)/\Q (.bl (bs.all id)) H
theorem awb(hc:X.calm=true):aei X (.builtin "all") (rAll X.K):=by
 intro qv s σ H xs us Q I r h;obtain⟨p,bs,rfl,hq,q⟩:=h;obtain⟨u,rfl,ru⟩:=vals1 r;cases ru;obtain⟨its,rv,pl,hz⟩:=I.list hq;have hl:=pl.isList;have hlen:=rv.length;rw[List.length_map] at hlen;have hlt:p < s.heap.objs.size:=by obtain⟨_,e,_⟩:=hl;exact Heap.lt_size e
 refine call_all_walk (wpAny_pyIter_list hl ?_);refine⟨s.heap.objs.size,[s.heap.objs.size,p],[s.heap.objs.size],its.toArray.size,_,_,fun i=>(bs[i]?).getD true,rfl,Walks.list (A:=X.A.in1) (I.ok.hd hc) _ p (Nat.ne_of_lt hlt) its.toArray,
  ⟨⟨_,Heap.get?_push_size _ rfl,rfl,rfl⟩,hl.push _⟩,fun i v s' Q' E' hP hQ =>?_,fun h' tk hk =>?_⟩
 ·have hi:its[i]? = some v:=by simpa using hP
  cases e:bs[i]? with
  | none =>
   have h1:bs.length<=i:=List.getElem?_eq_none_iff.mp e;have h2:i < its.length:=(List.getElem?_eq_some_iff.mp hi).1;omega
  | some b =>
   obtain⟨u,hu,ru⟩:=rv.get (i:=i) (x:=V.bl b) (by rw[List.getElem?_map,e];rfl)
   rw[hi] at hu;cases hu;obtain rfl:v=Value.bool b:=ru;simp only[e,Option.getD_some] at hQ;exact wpAny_truthy_bool hQ
 ·have e:((List.range its.toArray.size).all fun i=>(bs[i]?).getD true)=bs.all id:=by
   rw[List.size_toArray,<-hlen];exact LSm.range_all bs
  rw[e];exact⟨.bl (bs.all id),H,I.kept (t':=tk) (LSm.kept_iter hk),rfl,q⟩
end
def Dfn(P:Program)(w:World)(K:Fg9)(mg:Str->Option Value)(base:Heap)(x:Str)(ps:List Str)(k:Nat)(sp:Sp):Prop :=
 ∃(f:Addr) (fd:FuncData),FnOk P w K mg base CX0 k f fd ps sp/\mg x=some (.ref f)/\keepIn K (.ref f)=true/\Binds K fd ps []
section
variable{X:Cx}{x:Str}{ps:List Str}{k:Nat}{sp:Sp}{e:Expr}{es:List Expr}{t:TA}{p pos:Pos}
theorem a1m(F:Dfn X.prog X.w X.K X.mg X.base x ps k sp)(hr:Room k X.A)(hg:Gl X x)(ha:PA X (e::es) t)(hdb:(x==("__debug__" : Str))=false:=by decide)
  (he:starEach (e::es) X.env=(false,eval e X.env)::starEach es X.env:=by rfl) (hpl:(backTo pos (starEach es X.env)).any (·.1)=false:=by rfl):PE X (.Call (.Name x p) (e::es) [] pos) (a0q sp [] E0 t):=by
 obtain⟨f,fd,F,hm,hk,hb⟩:=F;exact aym F hr hg hm hk hb .nil ayp ha hdb he hpl
theorem ao0{T:String}(hg:Gl X x)(hm:X.mg x=none)(hv:bootBuiltins x=some (.type T))(hn:x ≠ "__name__" := by decide)(hd:(x==("__debug__" : Str))=false:=by decide):PE X (.Name x pos) (tC (.ty T)) :=
 ayo hg hm hv rfl hn hd
end
section
variable{X:Cx}
end
section
variable{prog:Program}{w:World}{A:Around}{E:Value->Shared->Prop}{s:Shared}
theorem awa{t b:Addr}{vs ws:List Value}{Q:Value->Shared->Prop}(ht:IsTup s.heap t vs.toArray)(hb:IsTup s.heap b ws.toArray)(hv:vs=[])(h:Q (.ref b) s):wpAny (model prog w) A (binaryOp .Add (.ref t) (.ref b)) Q E s:=by
 obtain⟨⟨cls,dd,data,sl⟩,ho,hc,n,hd⟩:=id ht;obtain⟨⟨cls2,dd2,data2,sl2⟩,ho2,hc2,n2,hd2⟩:=id hb;simp only at hc hd hc2 hd2;subst hc hd hc2 hd2;exact concat_meets ⟨_,ho,rfl⟩ ⟨_,ho2,rfl⟩ noFill_tuple_add seq_tuple_add PySem.F.slot_tuple_add PySem.F.entry_tuple_add (PySem.F.args_tuple_add_2 _ _)
  (tuple_addW0 t b vs.toArray ws.toArray n n2 dd dd2 sl sl2 (by simp[hv])) ⟨ho,ho2,h⟩
end
section
variable{X:Cx}
end
section
variable{X:Cx}
end
theorem aae:fillsNumberSlot (.type "tuple") "mul" = pure false :=
 PySem.fillsNumberSlot_seq (id := "tuple.__mul__") (r:=some (.builtin "tuple.__rmul__")) F.slot_tuple_mul.lookup (by decide +kernel) F.slot_tuple_rmul.lookup (by decide +kernel)
theorem aej:seqRepeat? (.type "tuple")=pure (some (.builtin "tuple.__mul__")):=by
 unfold seqRepeat?;rw[PySem.seqSlot_of (T := "tuple") (name := "__mul__") (id := "tuple.__mul__") F.slot_tuple_mul.lookup (by decide +kernel),PySem.seqSlot_of (T := "tuple") (name := "__rmul__") (id := "tuple.__rmul__") F.slot_tuple_rmul.lookup (by decide +kernel)]
 rfl
theorem abv(a:Int)(t:Tok)(l:Addr)(items:Array Value)(n:Nat)(dd:Option Addr)(sl:Array (Option Value)) :
  Meets (Builtin.«int.__rmul__» ⟨[.int a t,.ref l],[]⟩) (fun _ R s=>s.heap.get? l=some { cls:=.type "tuple", dict:=dd,data:=.seq items n,slots:=sl }/\R (.ok (.ret Value.notImplemented)) s) :=
 .of_wp fun prog w A R s h=>by obtain⟨hp,g,d,tk,os⟩:=s;obtain⟨hl,h⟩:=h;wp_walk;exact⟨_,rfl,h⟩
theorem aoo(l:Addr)(items:Array Value)(n:Nat)(dd:Option Addr)(sl:Array (Option Value))(x:Int)(u:Tok)(h0:items.isEmpty=false)(h2:2<=x)(h63:x < 2 ^ 63)(hsz:items.size*x.toNat<=sizeLine) :
  Meets (Builtin.«tuple.__mul__» ⟨[.ref l,.int x u],[]⟩) (fun _ R s=>s.heap.get? l=some { cls:=.type "tuple", dict:=dd,data:=.seq items n,slots:=sl } /\
   R (.ok (.ret (Value.ref s.heap.objs.size))) { s with heap:=s.heap.push { cls:=Value.type "tuple", data:=Data.seq (List.foldl (fun x1 x2=>x1++x2) #[] (List.replicate x.toNat items)) },toks:=s.toks }) :=
 .of_wp fun prog w A R s h=>by
  obtain⟨hp,g,d,tk,os⟩:=s;obtain⟨hl,h⟩:=h;have c1:(decide (x < -2 ^ 63)||decide (x≥2 ^ 63))=false:=by
   rw[Bool.or_eq_false_iff];exact⟨decide_eq_false (by omega),decide_eq_false (by omega)⟩
  have c2:(items.isEmpty||x==1)=false:=by
   rw[h0,Bool.false_or,beq_eq_false_iff_ne];omega
  have c3:(decide (x<=0)||items.isEmpty)=false:=by
   rw[h0,Bool.or_false];exact decide_eq_false (by omega)
  have e4:((items.size:Int)*x)=((items.size*x.toNat:Nat):Int):=by
   have:x=(x.toNat:Int):=by omega
   rw[Int.natCast_mul,<-this]
  have h4:(sizeLine:Int)<=(2 ^ 63 - 1) / 8:=by decide
  have c4:¬((items.size:Int)*x > (2 ^ 63 - 1) / 8):=by rw[e4];omega
  have c5:Builtin.Tuple.tupleTooMany ((items.size:Int)*x)=false:=by
   unfold Builtin.Tuple.tupleTooMany;rw[e4];exact decide_eq_false (by omega)
  wp_walk;refine wpAny_ite_false (by rw[c1];rfl) ?_
  wp_walk;refine wpAny_ite_false (by rw[c2];rfl) ?_
  try dsimp only
  refine wpAny_ite_false (by rw[c3];rfl) ?_
  try dsimp only
  refine wpAny_ite_false (decide_eq_false c4) ?_
  try dsimp only
  refine wpAny_ite_false (by rw[c5];rfl) ?_
  have hso:sizeOk (.seq (List.foldl (fun x1 x2=>x1++x2) #[] (List.replicate x.toNat items))):=by
   show(List.foldl (fun x1 x2=>x1++x2) #[] (List.replicate x.toNat items)).size<=sizeLine
   have hn:=foldl_rep items.toList x.toNat [];rw[List.nil_append] at hn;have hn':List.foldl (fun x1 x2=>x1++x2) #[] (List.replicate x.toNat items)=(List.replicate x.toNat items.toList).flatten.toArray:=hn
   rw[hn',List.size_toArray,len_rep,Array.length_toList,Nat.mul_comm];exact hsz
  refine wpAny_bind (m:=Builtin.Tuple.tupleExact _) (wpAny_newObj_type (wpAny_pure ⟨_,rfl,h⟩) hso)
theorem aop(l:Addr)(items:Array Value)(n:Nat)(dd:Option Addr)(sl:Array (Option Value))(x:Int)(u:Tok)(hx:x=1) :
  Meets (Builtin.«tuple.__mul__» ⟨[.ref l,.int x u],[]⟩) (fun _ R s=>s.heap.get? l=some { cls:=.type "tuple", dict:=dd,data:=.seq items n,slots:=sl }/\R (.ok (.ret (Value.ref l))) s) :=
 .of_wp fun prog w A R s h=>by
  obtain⟨hp,g,d,tk,os⟩:=s;obtain⟨hl,h⟩:=h;have c1:(decide (x < -2 ^ 63)||decide (x≥2 ^ 63))=false:=by
   rw[Bool.or_eq_false_iff];exact⟨decide_eq_false (by omega),decide_eq_false (by omega)⟩
  have c2:(items.isEmpty||x==1)=true:=by rw[hx];simp
  wp_walk;exact⟨_,rfl,h⟩
section
variable{X:Cx}
theorem ays:OpR X (binaryOp .Mult) (fun x y H Q=>∃a xs,x=.ref a/\y=.int 1/\H a=some (.tup xs)/\Q (.ref a) H):=by
 intro qv s σ H x y v u Q I rx ry h;obtain⟨a,xs,rfl,rfl,ha,q⟩:=h;cases rx;obtain⟨t,rfl⟩:=ry;obtain⟨its,r1,p1,_⟩:=I.tuple (SqT.of ha);obtain⟨⟨cls,dd,data,sl⟩,ho,hc,n,hd⟩:=id p1;simp only at hc hd;subst hc hd;exact wpAny_binaryOp_repeat_ref (T := "tuple") (U := "int") (by decide) ⟨_,ho,rfl⟩ (fun s'=>typeIs_int s' 1 t) aae F.fills_int_mul F.slot_int_rmul aej F.slot_int_index.lookup
  (call_meets F.slot_int_rmul (typeIs_int s 1 t) F.entry_int_rmul (F.args_int_rmul_2 _ _) (abv 1 t a its.toArray n dd sl)
   ⟨ho,rfl,⟨_,ho,rfl⟩,call_meets F.slot_tuple_mul ⟨_,ho,rfl⟩ F.entry_tuple_mul (F.args_tuple_mul_2 _ _) (aop a its.toArray n dd sl 1 t rfl) ⟨ho,⟨.ref a,H,I,rfl,q⟩⟩⟩)
def a02:R2:=fun x y H Q=>∃a xs k,x=.ref a/\y=.int k/\H a=some (.tup xs)/\xs≠[]/\2<=k/\k < 2 ^ 63/\xs.length*k.toNat<=sizeLine/\∀p,H p=none->Q (.ref p) (upd H p (.tup (List.replicate k.toNat xs).flatten))
theorem auw:OpR X (binaryOp .Mult) a02:=by
 intro qv s σ H x y v u Q I rx ry h;obtain⟨a,xs,k,rfl,rfl,ha,hx,h2,h63,hz,q⟩:=h;cases rx;obtain⟨t,rfl⟩:=ry;obtain⟨its,r1,p1,_⟩:=I.tuple (SqT.of ha);obtain⟨⟨cls,dd,data,sl⟩,ho,hc,n,hd⟩:=id p1;simp only at hc hd;subst hc hd;have hnew:List.foldl (fun x1 x2=>x1++x2) #[] (List.replicate k.toNat its.toArray)=(List.replicate k.toNat its).flatten.toArray:=by
  have:=foldl_rep its k.toNat [];rw[List.nil_append] at this;exact this
 refine wpAny_binaryOp_repeat_ref (T := "tuple") (U := "int") (by decide) ⟨_,ho,rfl⟩ (fun s'=>typeIs_int s' k t) aae F.fills_int_mul F.slot_int_rmul aej F.slot_int_index.lookup
  (call_meets F.slot_int_rmul (typeIs_int s k t) F.entry_int_rmul (F.args_int_rmul_2 _ _) (abv k t a its.toArray n dd sl)
   ⟨ho,rfl,⟨_,ho,rfl⟩,call_meets F.slot_tuple_mul ⟨_,ho,rfl⟩ F.entry_tuple_mul (F.args_tuple_mul_2 _ _) (aoo a its.toArray n dd sl k t ?_ h2 h63 ?_) ⟨ho,?_⟩⟩)
 ·cases its with
  | nil=>exact absurd (r1.nil_iff.mp rfl) hx
  | cons _ _=>rfl
 ·rw[List.size_toArray,<-r1.length];exact hz
 ·rw[hnew];refine⟨.ref s.heap.objs.size,_,I.laid (t':=s.toks) (o:=.tup (List.replicate k.toNat xs).flatten) (fun b ob q=>Heap.get?_push_of_some _ q) (Nat.le_refl _) ?_,rfl,q _ (I.hok.fresh (Nat.le_refl _))⟩
  exact⟨by rw[len_rep,Nat.mul_comm];exact hz,_,r1.rep k.toNat,IsTp.new _ _⟩
end
section
variable{prog:Program}{w:World}{A:Around}{E:Value->Shared->Prop}{s:Shared}
theorem acb{t sl:Addr}{items:Array Value}{vl vu:Value}{lo hi:Option Int}{Q:Value->Shared->Prop}(ht:IsTup s.heap t items)(hs:s.heap.IsSliceOf sl vl vu .none)(pl:IsPart vl lo)(pu:IsPart vu hi)
  (h1:HT.sIx items.size 0 lo=0) (h2:HT.sIx items.size items.size hi=items.size) (h:Q (.ref t) s):wpAny (model prog w) A (getItem (.ref t) (.ref sl)) Q E s:=by
 obtain⟨os,hos,hcs,hds⟩:=id hs;have hTs:s.TypeIs (.ref sl) "slice" := ⟨os,hos,hcs⟩;unfold getItem
 try with_reducible refine wpAny_holding ?_
 first | refine wpAny_bind (wpAny_pure ?_) | skip
 refine wpAny_bind (wpAny_sequenceKey ht.typeIs (by decide) ?_)
 refine wpAny_bind (wpAny_callSpecial?_slot (name:=Str.ofString "__getitem__") ht.typeIs PyProof.Rows.slot_tuple_getitem
  (wpAny_call_entry PyProof.Rows.slot_tuple_getitem ht.typeIs entry_tuple_getitem ?_ (args_tuple_getitem _ _)))
 show wpAny _ _ (Builtin.Tuple.tupleItemsOf (.ref t) >>= _) _ _ s;refine wpAny_bind (tupleItemsOf_ ht ?_);refine wpAny_bind (wpAny_typeOf hTs ?_);rw[if_pos (by decide)]
 refine wpAny_bind (HT.aad hs pl pu ?_);have hyes:(((HT.sIx items.size 0 lo:Nat):Int)==0&&(1:Int)==1&&(HT.sIx items.size items.size hi - HT.sIx items.size 0 lo)==items.size)=true:=by
  rw[h1,h2];simp
 show wpAny _ _ (if (((HT.sIx items.size 0 lo:Nat):Int)==0&&(1:Int)==1&&(HT.sIx items.size items.size hi - HT.sIx items.size 0 lo)==items.size)=true then _ else _) _ _ s
 rw[if_pos hyes];refine wpAny_bind (wpAny_bind (wpAny_typeOf ht.typeIs (wpAny_pure ?_)));rw[if_pos (by decide)]
 exact wpAny_bind (wpAny_rule (wpAny_pure ⟨_,rfl,wpAny_pure h⟩))
end
section
variable{X:Cx}
end
section
variable{X:Cx}(K:Fg9)(hK:X.K=K)
include hK
variable{tg:Expr}
end
theorem j5:bootBuiltins "len" = some (.builtin "len"):=by decide +kernel
theorem ate:bootBuiltins "all" = some (.builtin "all"):=by decide +kernel
theorem j9:bootBuiltins "isinstance" = some (.builtin "isinstance"):=by decide +kernel
theorem a4e:bootBuiltins "max" = some (.builtin "max"):=by decide +kernel
theorem a4d:bootBuiltins "min" = some (.builtin "min"):=by decide +kernel
theorem ata:bootBuiltins "sorted" = some (.builtin "sorted"):=by decide +kernel
theorem atc:bootBuiltins "divmod" = some (.builtin "divmod"):=by decide +kernel
theorem a4f:bootBuiltins "abs" = some (.builtin "abs"):=by decide +kernel
theorem atb:bootBuiltins "int" = some (.type "int"):=by decide +kernel
theorem atd:bootBuiltins "bool" = some (.type "bool"):=by decide +kernel
theorem u5:bootBuiltins "tuple" = some (.type "tuple"):=by decide +kernel
theorem aeh:bootBuiltins "list" = some (.type "list"):=by decide +kernel
theorem akq:bootBuiltins "enumerate" = some (.type "enumerate"):=by decide +kernel
structure ExcK (K:Fg9) (C:Addr):Prop where
 ga:findIn K (.ref C) "__getattribute__" = some (some (.builtin "BaseException.__getattribute__"))
 gh:findIn K (.ref C) "__getattr__" = some none
 be:PySem.W.mroIn K C (.type "BaseException")=some true
 hd:PySem.W.hasDictIn K C=true
 cl:findIn K (.ref C) "__class__" = some (some (.builtin "object.__class__"))
 sp:PySem.W.specialIn K (.builtin "object.__class__") "__get__" = some (some (.builtin "getset_descriptor.__get__"))
 tk:PySem.W.takesIn K (.builtin "object.__class__")=some true
 ob:PySem.W.mroIn K C (.type "object")=some true
 no:∀T∈["int","bool","tuple","list","str","dict"],PySem.W.subIn K (.ref C) (.type T)=some false
theorem al9{K:Fg9}{C:Addr}{od:Option Obj}{name:Str}{a g:Value}(hc:(PySem.W.clsIn K C).isSome=true)(ha:findIn K (.ref C) name=some (some a))(hg:PySem.W.specialIn K a "__get__" = some (some g))(ht:PySem.W.takesIn K a=some true):PySem.W.findObj K C od name=some (.bind g a):=by
 obtain⟨cd,hc⟩:=Option.isSome_iff_exists.mp hc;unfold PySem.W.findObj;rw[hc,Option.bind_some,ha,Option.bind_some];simp[hg,ht]
section
variable{prog:Program}{w:World}{A:Around}{E:Value->Shared->Prop}{s:Shared}{K:Fg9}{x D:Addr}{ox:Obj}{od:Option Obj}{name:Str}
theorem avy{fill expr:Bool}{tk:Tok}{Q:Value->Shared->Prop}(X:K.In s.heap)(I:PySem.W.InstAt s.heap x ox D od)(k:ExcK K D)
  (h:wpAny (model prog w) A.in1 (Builtin.«object.__getattribute__» ⟨[.ref x,.str name tk],[]⟩)
   (fun fin s'=>match fin with | .done (.ret v)=>wpAny (model prog w) A (handedOut v) Q E s' | _=>False) (fun _ _=>False) s) :
  wpAny (model prog w) A (getAttrBy (.ref x) (.str name tk) fill expr) Q E s:=by
 obtain⟨hh,g,d,t,os⟩:=s;have L0:=I.type (M:=model prog w);have L1:=PySem.W.looks_findIn (M:=model prog w) X k.ga;have L2:=PySem.W.looks_findIn (M:=model prog w) X k.gh;have L3:PySem.W.Looks (model prog w) hh (isInstance (.ref x) (.type "BaseException")) true:=L0.andThen (PySem.W.looks_mroIn X k.be);unfold getAttrBy;refine wpAny_holding (wpAny_bind (L0.at (wpAny_bind (L1.at ?_))));have hx2:(Value.builtin "BaseException.__getattribute__" == Value.builtin "object.__getattribute__")=false:=by decide +kernel
 have hx1:(onTheHeap (Value.ref D)&&Value.builtin "BaseException.__getattribute__" == Value.builtin "object.__getattribute__")=false:=by rw[hx2,Bool.and_false]
 simp only[hx1,Bool.false_eq_true,if_false];unfold getAttrByItsOwn hookBefore;rw[if_pos (show onTheHeap (Value.ref D)=true from rfl)]
 refine wpAny_bind ?_;refine L2.at (wpAny_bind (wpAny_attempt (wpAny_holding ?_)));have hx0:(expr&&onTheHeap (Value.builtin "BaseException.__getattribute__"))=false:=by cases expr <;> rfl
 unfold callGetattribute;rw[if_neg (by rw[hx0];exact Bool.false_ne_true)]
 unfold boundAndCalled;refine wpAny_bind (wpAny_of_eq (PySem.F.attr_ValueError.ga.bind (.ref x)) ?_);have hk1:builtinKind "BaseException.__getattribute__" = some .slot:=by decide +kernel
 have hs1:splitId "BaseException.__getattribute__" = some ("BaseException","__getattribute__"):=by decide +kernel
 have ha1:=PySem.F.args_bexc_ga (.ref x) (.str name tk);dsimp only[List.cons_append,List.nil_append];refine wpAny_call (codeAny_call_builtin (id := "BaseException.__getattribute__") (args:=⟨[.ref x,.str name tk],[]⟩) PySem.F.attr_ValueError.ga.plain PySem.F.entry_bexc_ga ?_);refine PySem.W.check_slot (i := "BaseException.__getattribute__") (owner := "BaseException") (n := "__getattribute__") (self:=.ref x) (rest:=[.str name tk]) (kw:=[]) hk1 hs1 L3 ha1 ?_;refine wpAny_mono h (fun fin s' z =>?_) fun _ _ z=>z.elim
 rcases fin with(_ | _ | _ | _) | _ <;> first | exact z | exact z.elim
theorem avz{g a:Value}{tk:Tok}{P:Value->Shared->Prop}(X:K.In s.heap)(I:PySem.W.InstAt s.heap x ox D od)(hf:PySem.W.findObj K D od name=some (.bind g a))
  (h:wpAny (model prog w) A (call g [a,.ref x,.ref D]) P E s) :
  wpAny (model prog w) A (Builtin.«object.__getattribute__» ⟨[.ref x,.str name tk],[]⟩) (fun fin s'=>match fin with | .done (.ret v)=>P v s' | _=>False) E s:=by
 obtain⟨hh,gg,d,t,os⟩:=s;have L0:=I.type (M:=model prog w);have L1:=PySem.W.looks_find (M:=model prog w) X I hf;unfold Builtin.«object.__getattribute__»
 refine wpAny_bind (wpAny_pure (wpAny_bind (wpAny_pure (wpAny_bind (L0.at (wpAny_bind (L1.at ?_)))))));show wpAny _ _ (Builtin.ObjectAttr.bindTo g a (.ref x) (.ref D)) _ _ _;show wpAny _ _ (holding [a] (call g [a,.ref x,.ref D]) >>= ret) _ _ _;exact wpAny_bind (wpAny_holding (wpAny_mono h (fun v s' z=>wpAny_pure z) fun _ _ z=>z))
end
theorem avj{K:Fg9}{x D:Addr}(k:ExcK K D):PySem.W.KitX K (.ref x) (.ref D) (fun h=>∃ox od,PySem.W.InstAt h x ox D od) where
 ty:=fun _ _ _ ⟨_,_,I⟩=>I.type
 it:=fun _ _ X _=>by
  obtain⟨cdD,hcD,_⟩:=PySem.W.any_some k.hd;unfold PySem.W.clsIn at hcD;split at hcD
  ·rename_i c' d' cd' sl' ho;intro A' Q' E' s' k q;unfold isType loadHead;exact wpAny_bind (wpAny_loadPart (k _ _ (X _ _ ho)) (wpAny_pure q))
  ·cases hcD
 ne:=fun h tp dd its n sl X htp=>by
  obtain⟨cdD,hcD,_⟩:=PySem.W.any_some k.hd;refine Bool.eq_false_iff.mpr fun q =>?_
  have e:D=tp:=Value.ref.inj (beq_iff_eq.mp q);subst e;unfold PySem.W.clsIn at hcD;split at hcD
  ·rename_i c' d' cd' sl' ho;have z:=(X _ _ ho).symm.trans htp;cases z
  ·cases hcD
 ca:=fun{prog w A E Q s} X ⟨ox,od,I⟩ q=>by
  have hf:PySem.W.findObj K D od "__class__" = some (.bind (.builtin "getset_descriptor.__get__") (.builtin "object.__class__")):=al9 (by obtain⟨cd,hc,_⟩:=PySem.W.any_some k.hd;rw[hc];rfl) k.cl k.sp k.tk
  unfold getAttr? getAttrBy?;refine wpAny_bind (wpAny_mkText (wpAny_bind (wpAny_attempt (avy (s:={ s with toks:=s.toks+1 }) X I k (avz (s:={ s with toks:=s.toks+1 }) X I hf
   (wpAny_call (PySem.W.class_get (s:={ s with toks:=s.toks+1 }) (ox:=ox) (od:=od) X I k.ob (PySem.W.handed_on rfl (wpAny_pure q)))))))))
end Mn
namespace Dn
open L2 Mn
inductive D where
 | non | bl (b:Bool) | int (i:Int) | str (x:Str) | tup (l:List D) | lst (l:List D) | kst (l:List D) | dct (kvs:List (Key×D)) | exn (c:Str) (fs:List (Str×Int)) | dtt (kvs:List (List Int×Int))
def exO(a C:Addr)(dx:Option Addr):Heap->Prop:=fun h=>∃oe vs,h.get? a=some oe/\oe.cls=.ref C/\oe.dict=dx/\oe.data=.fields vs
section
variable(K:Fg9)(F:Hp)
mutual
inductive Is:D->V->Prop
 | non:Is .non .non
 | bl (b:Bool):Is (.bl b) (.bl b)
 | int (i:Int):Is (.int i) (.int i)
 | str (x:Str):Is (.str x) (.str x)
 | tup {a:Addr} {vs:List V} {ds:List D} (e:F a=some (.tup vs)) (h:IsL ds vs):Is (.tup ds) (.ref a)
 | lst {a:Addr} {vs:List V} {ds:List D} (e:F a=some (.lst vs)) (h:IsL ds vs):Is (.lst ds) (.ref a)
 | kst {a:Addr} {vs:List V} {ds:List D} (e:SqL K F a vs) (h:IsL ds vs):Is (.kst ds) (.ref a)
 | dct {a:Addr} {kvs:List (Key×V)} {ds:List (Key×D)} (e:F a=some (.dK kvs)) (h:IsK ds kvs):Is (.dct ds) (.ref a)
 | exn {a C:Addr} {c:Str} {dx:Option Addr} {fs:List (Str×Int)} (e:F a=some (.ext (exO a C dx))) (hc:nsIn K mainGlobals c=some (some (.ref C))) (hk:ExcK K C)
   (hf:(dx=none/\fs=[])∨∃d,dx=some d/\F d=some (.xd (fs.map fun p=>(p.1,V.int p.2)))):Is (.exn c fs) (.ref a)
 | dtt {a:Addr} {ds:List (List Int×Int)} (e:F a=some (.dT (ds.map fun p=>(p.1.map Sum.inl,V.int p.2)))):Is (.dtt ds) (.ref a)
inductive IsL:List D->List V->Prop
 | nil:IsL [] []
 | cons {d:D} {v:V} {ds:List D} {vs:List V} (h:Is d v) (t:IsL ds vs):IsL (d::ds) (v::vs)
inductive IsK:List (Key×D)->List (Key×V)->Prop
 | nil:IsK [] []
 | cons {k:Key} {d:D} {v:V} {ds:List (Key×D)} {vs:List (Key×V)} (h:Is d v) (t:IsK ds vs):IsK ((k,d)::ds) ((k,v)::vs)
end
end
section
variable{K:Fg9}{F F':Hp}
mutual
theorem Is.mono(g:Same F F'):∀{d:D} {v:V},Is K F d v->Is K F' d v
 | _,_,.non=>.non
 | _,_,.bl b=>.bl b
 | _,_,.int i=>.int i
 | _,_,.str x=>.str x
 | _,_,.tup e h=>.tup (g _ _ e) (IsL.mono g h)
 | _,_,.lst e h=>.lst (g _ _ e) (IsL.mono g h)
 | _,_,.kst e h=>.kst (L2.Same.seq g e) (IsL.mono g h)
 | _,_,.dct e h=>.dct (g _ _ e) (IsK.mono g h)
 | _,_,.exn e hc hk hf=>.exn (g _ _ e) hc hk (hf.imp id fun⟨d,h1,h2⟩=>⟨d,h1,g _ _ h2⟩)
 | _,_,.dtt e=>.dtt (g _ _ e)
theorem IsL.mono(g:Same F F'):∀{ds:List D} {vs:List V},IsL K F ds vs->IsL K F' ds vs
 | _,_,.nil=>.nil
 | _,_,.cons h t=>.cons (Is.mono g h) (IsL.mono g t)
theorem IsK.mono(g:Same F F'):∀{ds:List (Key×D)} {vs:List (Key×V)},IsK K F ds vs->IsK K F' ds vs
 | _,_,.nil=>.nil
 | _,_,.cons h t=>.cons (Is.mono g h) (IsK.mono g t)
end
theorem IsL.length:∀{ds:List D} {vs:List V},IsL K F ds vs->ds.length=vs.length
 | _,_,.nil=>rfl
 | _,_,.cons _ t=>by simp[IsL.length t]
theorem IsL.append:∀{ds es:List D} {vs ws:List V},IsL K F ds vs->IsL K F es ws->IsL K F (ds++es) (vs++ws)
 | _,_,_,_,.nil,h=>h
 | _,_,_,_,.cons h t,k=>.cons h (IsL.append t k)
theorem IsL.take:∀{ds:List D} {vs:List V} (n:Nat),IsL K F ds vs->IsL K F (ds.take n) (vs.take n)
 | _,_,0,_=>by simpa using IsL.nil
 | _,_,_+1,.nil=>.nil
 | _,_,n+1,.cons h t=>.cons h (IsL.take n t)
theorem IsL.drop:∀{ds:List D} {vs:List V} (n:Nat),IsL K F ds vs->IsL K F (ds.drop n) (vs.drop n)
 | _,_,0,h=>h
 | _,_,_+1,.nil=>.nil
 | _,_,n+1,.cons _ t=>IsL.drop n t
theorem IsL.get:∀{ds:List D} {vs:List V} {i:Nat} {d:D},IsL K F ds vs->ds[i]? = some d->∃v,vs[i]? = some v/\Is K F d v
 | _,_,_,_,.nil,e=>by simp at e
 | _,_,0,_,.cons h _,e=>by simp at e;subst e;exact⟨_,rfl,h⟩
 | _,_,i+1,v,.cons _ t,e=>by
  obtain⟨d,h1,h2⟩:=IsL.get (i:=i) (d:=v) t (by simpa using e)
  exact⟨d,by simpa using h1,h2⟩
theorem IsL.set{d:D}{v:V}(h:Is K F d v):∀{ds:List D} {vs:List V} (i:Nat),IsL K F ds vs->IsL K F (ds.set i d) (vs.set i v)
 | _,_,_,.nil=>.nil
 | _,_,0,.cons _ t=>.cons h t
 | _,_,i+1,.cons q t=>.cons q (IsL.set h i t)
theorem IsL.rep{ds:List D}{vs:List V}(h:IsL K F ds vs):∀k:Nat,IsL K F (List.replicate k ds).flatten (List.replicate k vs).flatten
 | 0=>by simpa using IsL.nil
 | k+1=>by
  rw[List.replicate_succ,List.replicate_succ,List.flatten_cons,List.flatten_cons];exact h.append (IsL.rep h k)
theorem IsL.int_inv{ns:List Int}:∀{vs:List V},IsL K F (ns.map D.int) vs->vs=ns.map V.int:=by
 induction ns with
 | nil =>
  intro _ h;cases h;rfl
 | cons n r ih =>
  intro _ h;cases h with
  | cons h t =>
   cases h;rw[ih t];rfl
theorem IsL.bl_inv{ns:List Bool}:∀{vs:List V},IsL K F (ns.map D.bl) vs->vs=ns.map V.bl:=by
 induction ns with
 | nil =>
  intro _ h;cases h;rfl
 | cons n r ih =>
  intro _ h;cases h with
  | cons h t =>
   cases h;rw[ih t];rfl
theorem ac4:∀ns:List Int,IsL K F (ns.map D.int) (ns.map V.int)
 | []=>.nil
 | n::r=>.cons (.int n) (ac4 r)
end
inductive Sl where
 | emp | val (d:D) | own (t:Option Nat) (l:List D) | box (c:Str) (fs:List (Str×(Nat ⊕ D))) | lol (ts:List Nat) | lnk (k:Nat)
abbrev Ro:=List Sl
def Owns(ρ:Ro)(σ:L2.St)(i:Nat)(a:Addr):Prop:=(∃t l,ρ[i]? = some (.own t l))/\σ[i]? = some (some (.ref a))
def Own(ρ:Ro)(σ:L2.St)(a:Addr):Prop:=∃i,Owns ρ σ i a
def SlOk(K:Fg9)(tg:Nat->Addr)(F H:Hp):Sl->Option V->Prop
 | .emp,_=>True
 | .val d,o=>∃v,o=some v/\Is K F d v
 | .own t l,o=>∃a vs,o=some (.ref a)/\F a=none/\H a=some (.lst vs)/\IsL K F l vs/\∀k,t=some k->tg k=a
 | .box c fs,o=>∃a C dx fvs,o=some (.ref a)/\F a=none/\H a=some (.ins C dx fvs)/\nsIn K mainGlobals c=some (some (.ref C))/\(∀f,fs.lookup f=none->fvs.lookup f=none)/\(∀f k,fs.lookup f=some (.inl k)->fvs.lookup f=some (.ref (tg k)))/\∀f d,fs.lookup f=some (.inr d)->∃v,fvs.lookup f=some v/\Is K F d v
 | .lol ts,o=>∃a,o=some (.ref a)/\F a=some (.lst (ts.map fun k=>V.ref (tg k)))
 | .lnk k,o=>o=some (.ref (tg k))
structure Good (K:Fg9) (tg:Nat->Addr) (F H:Hp) (ρ:Ro) (σ:L2.St):Prop where
 sub:Same F H
 len:ρ.length=σ.length
 sl:∀(i:Nat) (s:Sl) (o:Option V),ρ[i]? = some s->σ[i]? = some o->SlOk K tg F H s o
 inj:∀(i j:Nat) (a:Addr),Owns ρ σ i a->Owns ρ σ j a->i=j
structure Ext (O O':Addr->Prop) (F H F' H':Hp):Prop where
 sub:Same F F'
 new:∀a o,F' a=some o->F a=some o∨H a=none∨O a
 keep:∀a o,H a=some o->¬O a->H' a=some o
 own:∀a,O' a->O a∨H a=none
 there:∀a,H' a=none->H a=none
theorem Ext.refl(O:Addr->Prop)(F H:Hp):Ext O O F H F H:=⟨fun _ _ e=>e,fun _ _ e=>.inl e,fun _ _ e _=>e,fun _ h=>.inl h,fun _ h=>h⟩
theorem Ext.trans{O O1 O2:Addr->Prop}{F H F1 H1 F2 H2:Hp}(a:Ext O O1 F H F1 H1)(b:Ext O1 O2 F1 H1 F2 H2):Ext O O2 F H F2 H2 where
 sub:=a.sub.trans b.sub
 new:=fun c o e=>by
  rcases b.new c o e with q | q | q
  ·exact a.new c o q
  ·exact .inr (.inl (a.there c q))
  ·rcases a.own c q with z | z
   ·exact .inr (.inr z)
   ·exact .inr (.inl z)
 keep:=fun c o e n=>b.keep c o (a.keep c o e n) fun z=>by
  rcases a.own c z with q | q
  ·exact n q
  ·rw[e] at q;cases q
 own:=fun c z=>by
  rcases b.own c z with q | q
  ·exact a.own c q
  ·exact .inr (a.there c q)
 there:=fun c z=>a.there c (b.there c z)
section
variable{K:Fg9}{tg:Nat->Addr}{F H F' H':Hp}{ρ ρ':Ro}{σ:L2.St}
theorem Good.ownAt(G:Good K tg F H ρ σ){a:Addr}(h:Own ρ σ a):F a=none/\∃vs,H a=some (.lst vs):=by
 obtain⟨i,⟨t,l,e⟩,q⟩:=h;obtain⟨b,vs,e1,f,e2,_⟩:=G.sl i _ _ e q;cases e1;exact⟨f,vs,e2⟩
theorem Good.grow(G:Good K tg F H ρ σ)(s:Same F F')(s':Same F' H')(k:∀a,Own ρ σ a->F' a=none/\H' a=H a)(kb:∀a C dx fvs,F a=none->H a=some (.ins C dx fvs)->F' a=none/\H' a=H a):Good K tg F' H' ρ σ where
 sub:=s'
 len:=G.len
 inj:=G.inj
 sl:=fun i sl o e q=>by
  have z:=G.sl i sl o e q;cases sl with
  | emp=>trivial
  | val d =>
   obtain⟨v,e1,h⟩:=z;exact⟨v,e1,h.mono s⟩
  | lol ts =>
   obtain⟨a,e1,e2⟩:=z;exact⟨a,e1,s _ _ e2⟩
  | lnk k=>exact z
  | box c fs =>
   obtain⟨a,C,dx,fvs,e1,e2,e3,e4,e7,e5,e6⟩:=z;obtain⟨f1,f2⟩:=kb a C dx fvs e2 e3;exact⟨a,C,dx,fvs,e1,f1,f2.trans e3,e4,e7,e5,fun f d h=>(e6 f d h).imp fun v h=>⟨h.1,h.2.mono s⟩⟩
  | own t l =>
   obtain⟨a,vs,e1,f,e2,h,ht⟩:=z;have w:=k a ⟨i,⟨t,l,e⟩,by rw[q,e1]⟩
   exact⟨a,vs,e1,w.1,by rw[w.2];exact e2,h.mono s,ht⟩
theorem Same.put{p:Addr}(s:Same F H)(h:H p=none)(o:HO):Same (upd F p o) (upd H p o):=fun b u e=>by
 by_cases hb:b=p
 ·subst hb;rw[dh] at e ⊢
  exact e
 ·rw[bc hb] at e ⊢
  exact s b u e
theorem Good.freeF(G:Good K tg F H ρ σ){p:Addr}(h:H p=none):F p=none:=by
 cases e:F p with
 | none=>rfl
 | some o=>rw[G.sub p o e] at h;cases h
theorem Good.own_ne(G:Good K tg F H ρ σ){p a:Addr}(h:H p=none)(w:Own ρ σ a):a≠p:=by
 obtain⟨_,vs,e⟩:=G.ownAt w;exact fc e h
theorem Good.new(G:Good K tg F H ρ σ){p:Addr}(h:H p=none)(o:HO):Good K tg (upd F p o) (upd H p o) ρ σ :=
 G.grow (Same.new (G.freeF h) o) (Same.put G.sub h o) (fun a w=>by
  rw[bc (G.own_ne h w),bc (G.own_ne h w)];exact⟨(G.ownAt w).1,rfl⟩) fun a C dx fvs h1 h2=>by
  rw[bc (fc h2 h),bc (fc h2 h)];exact⟨h1,rfl⟩
theorem Good.newX(G:Good K tg F H ρ σ){p:Addr}(h:H p=none)(o:HO):Ext (Own ρ σ) (Own ρ σ) F H (upd F p o) (upd H p o) where
 sub:=Same.new (G.freeF h) o
 new:=fun a u e=>by
  by_cases ha:a=p
  ·subst ha;exact .inr (.inl h)
  ·rw[bc ha] at e;exact .inl e
 keep:=fun a u e _=>by rw[bc (fc e h)];exact e
 own:=fun a w=>.inl w
 there:=fun a e=>by
  by_cases ha:a=p
  ·subst ha;exact h
  ·rw[bc ha] at e;exact e
theorem Good.fresh(G:Good K tg F H ρ σ){p:Addr}(h:H p=none)(o:HO):Good K tg F (upd H p o) ρ σ :=
 G.grow (Same.refl F) (fun b u e=>by rw[bc (fc (G.sub b u e) h)];exact G.sub b u e) (fun a w=>by
  rw[bc (G.own_ne h w)];exact⟨(G.ownAt w).1,rfl⟩) fun a C dx fvs h1 h2=>⟨h1,bc (fc h2 h)⟩
theorem Good.freshX(G:Good K tg F H ρ σ){p:Addr}(h:H p=none)(o:HO):Ext (Own ρ σ) (Own ρ σ) F H F (upd H p o) where
 sub:=Same.refl F
 new:=fun a u e=>.inl e
 keep:=fun a u e _=>by rw[bc (fc e h)];exact e
 own:=fun a w=>.inl w
 there:=fun a e=>by
  by_cases ha:a=p
  ·subst ha;exact h
  ·rw[bc ha] at e;exact e
theorem Good.freeze(G:Good K tg F H ρ σ){p:Addr}{o:HO}(h:H p=some o)(n:¬Own ρ σ p)(hf:F p=none)(hi:∀C dx fs,o≠.ins C dx fs:=by intro _ _ _ z;cases z):Good K tg (upd F p o) H ρ σ :=
 G.grow (Same.new hf o) (fun b u e=>by
  by_cases hb:b=p
  ·subst hb;rw[dh] at e;cases e;exact h
  ·rw[bc hb] at e;exact G.sub b u e) (fun a w=>by
  have:a≠p:=fun z=>n (z▸w)
  rw[bc this];exact⟨(G.ownAt w).1,rfl⟩) fun a C dx fvs h1 h2=>by
  have:a≠p:=fun z=>by
   subst z;rw[h] at h2;exact hi _ _ _ (Option.some.inj h2)
  rw[bc this];exact⟨h1,rfl⟩
end
end Dn
namespace Dn
open L2 Mn
structure Exn where
 cls:Str
 fs:List (Str×Int)
inductive Out (α:Type) where
 | ok (a:α) | exc (x:Exn)
abbrev M(α:Type):=Ro->Option (Out α×Ro)
noncomputable def M.bind{α β:Type}(m:M α)(k:α->M β):M β:=fun ρ=>match m ρ with
 | some (.ok a,ρ1)=>k a ρ1
 | some (.exc x,ρ1)=>some (.exc x,ρ1)
 | none=>none
noncomputable def ret{α:Type}(a:α):M α:=fun ρ=>some (.ok a,ρ)
noncomputable def lift{α:Type}(o:Option α):M α:=fun ρ=>match o with
 | some a=>some (.ok a,ρ)
 | none=>none
section
variable{α β:Type}
theorem au{m:M α}{k:α->M β}{ρ ρ2:Ro}{b:β}(h:m.bind k ρ=some (.ok b,ρ2)):∃a ρ1,m ρ=some (.ok a,ρ1)/\k a ρ1=some (.ok b,ρ2):=by
 unfold M.bind at h;split at h
 ·exact⟨_,_,by assumption,h⟩
 ·cases h
 ·cases h
theorem fu{o:Option α}{ρ ρ2:Ro}{b:α}(h:lift o ρ=some (.ok b,ρ2)):o=some b/\ρ2=ρ:=by
 unfold lift at h;split at h
 ·cases h;exact⟨rfl,rfl⟩
 ·cases h
theorem jh{a b:α}{ρ ρ2:Ro}(h:ret a ρ=some (.ok b,ρ2)):a=b/\ρ2=ρ:=by
 unfold ret at h;cases h;exact⟨rfl,rfl⟩
@[simp] theorem a4n(a:α)(k:α->M β):(ret a).bind k=k a:=rfl
@[simp] theorem a2s(a:α):lift (some a)=ret a:=rfl
end
inductive Rv where
 | v (d:D) | fr (l:List D)
 | tf (d:D) (l:List D)
abbrev Rel(α:Type):=α->V->(H:Hp)->(O:Addr->Prop)->(F' H':Hp)->(O':Addr->Prop)->Prop
def relD(K:Fg9):Rel D:=fun d v _ _ F' _ _=>Is K F' d v
def Bor(K:Fg9)(F H:Hp)(d:D)(v:V):Prop:=Is K F d v∨∃a vs l,d=.lst l/\v=.ref a/\H a=some (.lst vs)/\IsL K F l vs
def relB(K:Fg9):Rel D:=fun d v _ _ F' H' _=>Bor K F' H' d v
def relR(K:Fg9):Rel Rv:=fun r v H O F' H' O'=>match r with
 | .v d=>Is K F' d v
 | .fr l=>∃a vs,v=.ref a/\(H a=none∨O a)/\F' a=none/\H' a=some (.lst vs)/\IsL K F' l vs/\¬O' a
 | .tf d l=>∃t u a vs,v=.ref t/\F' t=some (.tup [u,.ref a])/\Is K F' d u/\(H a=none∨O a)/\F' a=none/\H' a=some (.lst vs)/\IsL K F' l vs/\¬O' a
def T{α:Type}(K:Fg9)(rel:Rel α)(m:M α):TE:=fun σ H Q=>∃tg F ρ a ρ',Good K tg F H ρ σ/\m ρ=some (.ok a,ρ') /\
 ∀v H' F',Good K tg F' H' ρ' σ->Ext (Own ρ σ) (Own ρ' σ) F H F' H'->rel a v H (Own ρ σ) F' H' (Own ρ' σ)->Q v H'
structure EV (K:Fg9) (X:Cx) (e:Expr) (m:M D):Prop where
 go:X.K=K->PE X e (T K (relD K) m)
instance {K:Fg9} {X:Cx} {e:Expr} {m:M D}:CoeFun (EV K X e m) fun _=>X.K=K->PE X e (T K (relD K) m):=⟨EV.go⟩
structure EB (K:Fg9) (X:Cx) (e:Expr) (m:M D):Prop where
 go:X.K=K->PE X e (T K (relB K) m)
instance {K:Fg9} {X:Cx} {e:Expr} {m:M D}:CoeFun (EB K X e m) fun _=>X.K=K->PE X e (T K (relB K) m):=⟨EB.go⟩
structure ER (K:Fg9) (X:Cx) (e:Expr) (m:M Rv):Prop where
 go:X.K=K->PE X e (T K (relR K) m)
instance {K:Fg9} {X:Cx} {e:Expr} {m:M Rv}:CoeFun (ER K X e m) fun _=>X.K=K->PE X e (T K (relR K) m):=⟨ER.go⟩
theorem PE.imp{X:Cx}{e:Expr}{t t':TE}(h:PE X e t)(w:∀σ H Q,t' σ H Q->t σ H Q):PE X e t':=fun qv s σ H Q I q=>h qv s σ H Q I (w σ H Q q)
section
variable{K:Fg9}{X:Cx}{e a b:Expr}{pos:Pos}
theorem EV.toB{m:M D}(h:EV K X e m):EB K X e m:=EB.mk fun hk=>PE.imp (h hk) fun σ H Q ⟨tg,F,ρ,d,ρ',G,em,q⟩=>⟨tg,F,ρ,d,ρ',G,em,fun v H' F' G' x r=>q v H' F' G' x (.inl r)⟩
def M.v(m:M D):M Rv:=m.bind fun d=>ret (.v d)
theorem EV.toR{m:M D}(h:EV K X e m):ER K X e m.v:=ER.mk fun hk=>PE.imp (h hk) fun σ H Q z9=>by
 obtain⟨tg,F,ρ,r,ρ',G,em,q⟩:=z9;obtain⟨d,ρ1,e1,e2⟩:=au em;obtain⟨rfl,rfl⟩:=jh e2;exact⟨tg,F,ρ,d,_,G,e1,fun v H' F' G' x r=>q v H' F' G' x r⟩
def Rv.d:Rv->D
 | .v d=>d
 | .fr l=>.lst l
 | .tf d l=>.tup [d,.lst l]
def M.d(m:M Rv):M D:=m.bind fun r=>ret r.d
theorem frz{tg:Nat->Addr}{O:Addr->Prop}{F H F' H':Hp}{ρ':Ro}{σ':L2.St}{r:Rv}{v:V}(G:Good K tg F' H' ρ' σ')(x:Ext O (Own ρ' σ') F H F' H')(h:relR K r v H O F' H' (Own ρ' σ')) :
  ∃F2,Good K tg F2 H' ρ' σ'/\Ext O (Own ρ' σ') F H F2 H'/\Is K F2 r.d v:=by
 cases r with
 | v d=>exact⟨F',G,x,h⟩
 | fr l =>
  obtain⟨a,vs,rfl,ha,hf,hh,hl,hn⟩:=h;refine⟨upd F' a (.lst vs),G.freeze hh hn hf,⟨x.sub.trans (Same.new hf _),fun b o e =>?_,x.keep,x.own,x.there⟩,.lst dh (hl.mono (Same.new hf _))⟩
  by_cases hb:b=a
  ·subst hb;exact .inr ha
  ·rw[bc hb] at e;exact x.new b o e
 | tf d l =>
  obtain⟨t,u,a,vs,rfl,ht,hd,ha,hf,hh,hl,hn⟩:=h;have hta:t≠a:=fun z=>by rw[z,hf] at ht;cases ht
  refine⟨upd F' a (.lst vs),G.freeze hh hn hf,⟨x.sub.trans (Same.new hf _),fun b o e =>?_,x.keep,x.own,x.there⟩,.tup (by rw[bc hta];exact ht) (.cons (hd.mono (Same.new hf _)) (.cons (.lst dh (hl.mono (Same.new hf _))) .nil))⟩
  by_cases hb:b=a
  ·subst hb;exact .inr ha
  ·rw[bc hb] at e;exact x.new b o e
theorem ER.toD{m:M Rv}(h:ER K X e m):EV K X e m.d:=EV.mk fun hk=>PE.imp (h hk) fun σ H Q z9=>by
 obtain⟨tg,F,ρ,d,ρ',G,em,q⟩:=z9;obtain⟨r,ρ1,e1,e2⟩:=au em;obtain⟨rfl,rfl⟩:=jh e2;refine⟨tg,F,ρ,r,_,G,e1,fun v H' F' G' x w =>?_⟩
 obtain⟨F2,G2,x2,i2⟩:=frz G' x w;exact q v H' F2 G2 x2 i2
noncomputable def di(i:Nat):M D:=fun ρ=>match ρ[i]? with
 | some (.val d)=>some (.ok d,ρ)
 | some (.own _ l)=>some (.ok (.lst l),ρ)
 | _=>none
theorem Good.at{tg:Nat->Addr}{F H:Hp}{ρ:Ro}{σ:L2.St}(G:Good K tg F H ρ σ){i:Nat}{s:Sl}(e:ρ[i]? = some s):∃o,σ[i]? = some o/\SlOk K tg F H s o:=by
 have hi:i < σ.length:=by rw[<-G.len];exact(List.getElem?_eq_some_iff.mp e).1
 exact⟨σ[i],List.getElem?_eq_getElem hi,G.sl i s _ e (List.getElem?_eq_getElem hi)⟩
theorem uh{tg:Nat->Addr}{F H:Hp}{ρ ρ':Ro}{σ:L2.St}(G:Good K tg F H ρ σ){i:Nat}{d:D}(em:di i ρ=some (.ok d,ρ')):ρ'=ρ/\∃v,σ[i]? = some (some v)/\Bor K F H d v:=by
 unfold di at em;split at em
 ·rename_i d' e';cases em;obtain⟨o,ho,v,rfl,hv⟩:=G.at e';exact⟨rfl,v,ho,.inl hv⟩
 ·rename_i t l e';cases em;obtain⟨o,ho,a,vs,rfl,hf,hh,hl,_⟩:=G.at e';exact⟨rfl,_,ho,.inr ⟨a,vs,l,rfl,rfl,hh,hl⟩⟩
 ·cases em
theorem cz{i:Nat}(h:PE X e (tVar i)):EB K X e (di i):=EB.mk fun _=>PE.imp h fun σ H Q z9=>by
 obtain⟨tg,F,ρ,d,ρ',G,em,q⟩:=z9;obtain⟨rfl,v,ho,hv⟩:=uh G em;exact⟨v,ho,q v H F G (Ext.refl _ _ _) hv⟩
def aif(i:Nat):M Rv:=fun ρ=>match ρ[i]? with
 | some (.val d)=>some (.ok (.v d),ρ)
 | some (.own none l)=>some (.ok (.fr l),ρ.set i .emp)
 | _=>none
theorem Good.drop{tg:Nat->Addr}{F H:Hp}{ρ:Ro}{σ:L2.St}(G:Good K tg F H ρ σ)(i:Nat):Good K tg F H (ρ.set i .emp) σ:=by
 have sub:∀j t l,(List.set ρ i Sl.emp)[j]? = some (Sl.own t l)->(ρ:List Sl)[j]? = some (Sl.own t l):=fun j t l e=>by
  rw[List.getElem?_set] at e;split at e
  ·split at e <;> cases e
  ·exact e
 refine⟨G.sub,by rw[List.length_set];exact G.len,fun j s o e q =>?_,fun j k a ⟨⟨t,l,e⟩,q⟩ ⟨⟨t',l',e'⟩,q'⟩=>G.inj j k a ⟨⟨t,l,sub _ _ _ e⟩,q⟩ ⟨⟨t',l',sub _ _ _ e'⟩,q'⟩⟩
 rw[List.getElem?_set] at e;split at e
 ·split at e
  ·cases e;trivial
  ·cases e
 ·exact G.sl j s o e q
theorem acu{ρ:Ro}{σ:L2.St}{i:Nat}{a:Addr}(h:Own (ρ.set i .emp) σ a):Own ρ σ a/\∀t l,ρ[i]? = some (.own t l)->∀(inj:∀i j a,Owns ρ σ i a->Owns ρ σ j a->i=j),¬Owns ρ σ i a:=by
 obtain⟨j,⟨t,l,e⟩,q⟩:=h;rw[List.getElem?_set] at e;split at e
 ·split at e <;> cases e
 ·rename_i hne;have w:Owns ρ σ j a:=⟨⟨t,l,e⟩,q⟩;exact⟨⟨j,w⟩,fun t' l' _ inj z=>hne (inj _ _ _ z w)⟩
theorem aeb{i:Nat}(h:PE X e (tVar i)):ER K X e (aif i):=ER.mk fun _=>PE.imp h fun σ H Q z9=>by
 obtain⟨tg,F,ρ,d,ρ',G,em,q⟩:=z9;unfold aif at em;split at em
 ·rename_i d' e';cases em;obtain⟨o,ho,v,rfl,hv⟩:=G.at e';exact⟨v,ho,q v H F G (Ext.refl _ _ _) hv⟩
 ·rename_i l e';cases em;obtain⟨o,ho,a,vs,rfl,hf,hh,hl,_⟩:=G.at e';have w:Owns ρ σ i a:=⟨⟨_,_,e'⟩,ho⟩;refine⟨_,ho,q _ H F (G.drop i) ⟨Same.refl _,fun _ _ e=>.inl e,fun _ _ e _=>e,fun b z=>.inl (acu z).1,fun _ z=>z⟩ ⟨a,vs,rfl,.inr ⟨i,w⟩,hf,hh,hl,fun z=>(acu z).2 _ _ e' G.inj w⟩⟩
 ·cases em
noncomputable def mVar(i:Nat):M D:=fun ρ=>match ρ[i]? with
 | some (.val d)=>some (.ok d,ρ)
 | some (.own none l)=>some (.ok (.lst l),ρ.set i (.val (.lst l)))
 | _=>none
theorem aut{ρ:Ro}{σ:L2.St}{i:Nat}{d:D}{a:Addr}(h:Own (ρ.set i (.val d)) σ a):Own (ρ.set i .emp) σ a:=by
 obtain⟨j,⟨t,l,e⟩,q⟩:=h;refine⟨j,⟨t,l,?_⟩,q⟩;rw[List.getElem?_set] at e ⊢
 split at e
 ·split at e <;> cases e
 ·rename_i hne;rw[if_neg hne];exact e
theorem Good.setv{tg:Nat->Addr}{F H:Hp}{ρ:Ro}{σ:L2.St}{i:Nat}{d:D}{v:V}(G:Good K tg F H (ρ.set i .emp) σ)(e:σ[i]? = some (some v))(h:Is K F d v):Good K tg F H (ρ.set i (.val d)) σ:=by
 have sub:∀j t l,(List.set ρ i (Sl.val d))[j]? = some (Sl.own t l)->(List.set ρ i Sl.emp)[j]? = some (Sl.own t l):=fun j t l z=>by
  rw[List.getElem?_set] at z ⊢
  split at z
  ·split at z <;> cases z
  ·rename_i hne;rw[if_neg hne];exact z
 refine⟨G.sub,by have:=G.len;rw[List.length_set] at this ⊢;exact this,fun j s o z q =>?_,fun j k a ⟨⟨t,l,z⟩,q⟩ ⟨⟨t',l',z'⟩,q'⟩=>G.inj j k a ⟨⟨t,l,sub _ _ _ z⟩,q⟩ ⟨⟨t',l',sub _ _ _ z'⟩,q'⟩⟩
 by_cases hij:i=j
 ·subst hij;rw[List.getElem?_set,if_pos rfl] at z;split at z
  ·cases z;rw[e] at q;cases q;exact⟨v,rfl,h⟩
  ·cases z
 ·refine G.sl j s o ?_ q;rw[List.getElem?_set,if_neg hij] at z ⊢
  exact z
theorem ao{i:Nat}(h:PE X e (tVar i)):EV K X e (mVar i):=EV.mk fun _=>PE.imp h fun σ H Q z9=>by
 obtain⟨tg,F,ρ,d,ρ',G,em,q⟩:=z9;unfold mVar at em;split at em
 ·rename_i d' e';cases em;obtain⟨o,ho,v,rfl,hv⟩:=G.at e';exact⟨v,ho,q v H F G (Ext.refl _ _ _) hv⟩
 ·rename_i l e';cases em;obtain⟨o,ho,a,vs,rfl,hf,hh,hl,_⟩:=G.at e';have w:Owns ρ σ i a:=⟨⟨_,_,e'⟩,ho⟩;have nown:¬Own (ρ.set i .emp) σ a:=fun z=>(acu z).2 _ _ e' G.inj w
  have G2:=(G.drop i).freeze hh nown hf;have i2:Is K (upd F a (.lst vs)) (.lst l) (.ref a):=.lst dh (hl.mono (Same.new hf _));refine⟨_,ho,q _ H _ (G2.setv ho i2) ⟨Same.new hf _,fun b o z =>?_,fun _ _ z _=>z,fun b z=>.inl (acu (aut z)).1,fun _ z=>z⟩ i2⟩
  by_cases hb:b=a
  ·subst hb;exact .inr (.inr ⟨i,w⟩)
  ·rw[bc hb] at z;exact .inl z
 ·cases em
theorem ev_c{d:D}{v:V}(h:PE X e (tC v))(hi:∀F,Is K F d v):EV K X e (ret d):=EV.mk fun _=>PE.imp h fun σ H Q z9=>by
 obtain⟨tg,F,ρ,d',ρ',G,em,q⟩:=z9;obtain⟨rfl,rfl⟩:=jh em;exact q v H F G (Ext.refl _ _ _) (hi F)
theorem bh{i:Int}{j:Nat}:EV K X (.Constant (.int i) j pos) (ret (.int i)):=ev_c a1l fun _=>.int i
theorem akb{i:Bool}{j:Nat}:EV K X (.Constant (.bool i) j pos) (ret (.bl i)):=ev_c a6p fun _=>.bl i
theorem axe{j:Nat}:EV K X (.Constant .none j pos) (ret .non):=ev_c a1i fun _=>.non
def T2(K:Fg9)(m:M (D×D))(σ:L2.St)(H:Hp)(R:V->V->Hp->Prop):Prop:=∃tg F ρ p ρ',Good K tg F H ρ σ/\m ρ=some (.ok p,ρ') /\
 ∀x y H' F',Good K tg F' H' ρ' σ->Ext (Own ρ σ) (Own ρ' σ) F H F' H'->Bor K F' H' p.1 x->Bor K F' H' p.2 y->R x y H'
structure E2 (K:Fg9) (X:Cx) (a b:Expr) (m:M (D×D)):Prop where
 go:X.K=K->∃ta tb,PE X a ta/\PE X b tb/\∀σ H R,T2 K m σ H R->ta σ H fun x H1=>tb σ H1 fun y H2=>R x y H2
instance {K:Fg9} {X:Cx} {a b:Expr} {m:M (D×D)}:CoeFun (E2 K X a b m) fun _=>X.K=K->∃ta tb,PE X a ta/\PE X b tb/\∀σ H R,T2 K m σ H R->ta σ H fun x H1=>tb σ H1 fun y H2=>R x y H2:=⟨E2.go⟩
def jb(m1 m2:M D):M (D×D):=m1.bind fun x=>m2.bind fun y=>ret (x,y)
def cu(i:Nat)(m2:M D):M (D×D):=(di i).bind fun _=>m2.bind fun y=>(di i).bind fun x=>ret (x,y)
theorem e2_v{m1 m2:M D}(ha:EV K X a m1)(hb:EB K X b m2):E2 K X a b (jb m1 m2):=E2.mk fun hk=>⟨_,_,ha hk,hb hk,fun σ H R z9=>by
 obtain⟨tg,F,ρ,p,ρ',G,em,q⟩:=z9;obtain⟨d1,ρ1,e1,em⟩:=au em;obtain⟨d2,ρ2,e2,em⟩:=au em;obtain⟨rfl,rfl⟩:=jh em;exact⟨tg,F,ρ,d1,ρ1,G,e1,fun x H1 F1 G1 x1 r1=>⟨tg,F1,ρ1,d2,_,G1,e2,fun y H2 F2 G2 x2 r2=>q x y H2 F2 G2 (x1.trans x2) (.inl (r1.mono x2.sub)) r2⟩⟩⟩
theorem e2_n{i:Nat}{m2:M D}(ha:PE X a (tVar i))(hb:EB K X b m2):E2 K X a b (cu i m2):=E2.mk fun hk=>⟨_,_,ha,hb hk,fun σ H R z9=>by
 obtain⟨tg,F,ρ,p,ρ',G,em,q⟩:=z9;obtain⟨d0,ρ0,e0,em⟩:=au em;obtain⟨d2,ρ2,e2,em⟩:=au em;obtain⟨d1,ρ1,e1,em⟩:=au em;obtain⟨rfl,rfl⟩:=jh em;obtain⟨rfl,v,hv,_⟩:=uh G e0;exact⟨v,hv,tg,F,ρ0,d2,ρ2,G,e2,fun y H2 F2 G2 x2 r2=>by
  obtain⟨rfl,v',hv',b'⟩:=uh G2 e1;rw[hv] at hv';cases hv';exact q v y H2 F2 G2 x2 b' r2⟩⟩
end
section
variable{K:Fg9}{X:Cx}{e a b c:Expr}{es:List Expr}{pos p:Pos}
section
variable{F H:Hp}{x:V}
theorem Bor.lst{l:List D}(g:Same F H)(h:Bor K F H (.lst l) x):∃a vs,x=.ref a/\H a=some (.lst vs)/\IsL K F l vs:=by
 rcases h with h | ⟨a,vs,l',e1,e2,e3,h⟩
 ·cases h with
  | lst e h=>exact⟨_,_,rfl,g _ _ e,h⟩
 ·cases e1;exact⟨a,vs,e2,e3,h⟩
theorem Bor.tup{l:List D}(h:Bor K F H (.tup l) x):∃a vs,x=.ref a/\F a=some (.tup vs)/\IsL K F l vs:=by
 rcases h with h | ⟨a,vs,l',e1,_⟩
 ·cases h with
  | tup e h=>exact⟨_,_,rfl,e,h⟩
 ·cases e1
theorem Bor.kst{l:List D}(h:Bor K F H (.kst l) x):∃a vs,x=.ref a/\SqL K F a vs/\IsL K F l vs:=by
 rcases h with h | ⟨a,vs,l',e1,_⟩
 ·cases h with
  | kst e h=>exact⟨_,_,rfl,e,h⟩
 ·cases e1
theorem Bor.int{i:Int}(h:Bor K F H (.int i) x):x=.int i:=by
 rcases h with h | ⟨a,vs,l',e1,_⟩
 ·cases h;rfl
 ·cases e1
theorem Bor.bl{i:Bool}(h:Bor K F H (.bl i) x):x=.bl i:=by
 rcases h with h | ⟨a,vs,l',e1,_⟩
 ·cases h;rfl
 ·cases e1
theorem Bor.str{i:Str}(h:Bor K F H (.str i) x):x=.str i:=by
 rcases h with h | ⟨a,vs,l',e1,_⟩
 ·cases h;rfl
 ·cases e1
theorem Bor.non(h:Bor K F H .non x):x=.non:=by
 rcases h with h | ⟨a,vs,l',e1,_⟩
 ·cases h;rfl
 ·cases e1
end
def Res(K:Fg9)(tg:Nat->Addr)(F H:Hp)(ρ:Ro)(σ:L2.St)(r:Rv)(Q:VK):Prop :=
 ∀v H' F',Good K tg F' H' ρ σ->Ext (Own ρ σ) (Own ρ σ) F H F' H'->relR K r v H (Own ρ σ) F' H' (Own ρ σ)->Q v H'
section
variable{tg:Nat->Addr}{F H:Hp}{ρ:Ro}{σ:L2.St}{Q:VK}
theorem Res.same{d:D}{v:V}(G:Good K tg F H ρ σ)(q:Res K tg F H ρ σ (.v d) Q)(h:Is K F d v):Q v H:=q v H F G (Ext.refl _ _ _) h
theorem Res.tup{l:List D}{vs:List V}(G:Good K tg F H ρ σ)(q:Res K tg F H ρ σ (.v (.tup l)) Q)(h:IsL K F l vs){p:Addr}(hp:H p=none):Q (.ref p) (upd H p (.tup vs)) :=
 q _ _ _ (G.new hp _) (G.newX hp _) (.tup dh (h.mono (Same.new (G.freeF hp) _)))
theorem Res.lst{l:List D}{vs:List V}(G:Good K tg F H ρ σ)(q:Res K tg F H ρ σ (.fr l) Q)(h:IsL K F l vs){p:Addr}(hp:H p=none):Q (.ref p) (upd H p (.lst vs)) :=
 q _ _ _ (G.fresh hp _) (G.freshX hp _) ⟨p,vs,rfl,.inl hp,G.freeF hp,dh,h,fun z=>G.own_ne hp z rfl⟩
end
def rOf(K:Fg9)(g:D->D->Option Rv):R2:=fun x y H Q=>∃tg F ρ σ d1 d2 r,Good K tg F H ρ σ/\Bor K F H d1 x/\Bor K F H d2 y/\g d1 d2=some r/\Res K tg F H ρ σ r Q
structure OpD (K:Fg9) (X:Cx) (f:Value->Value->Sem Value) (g:D->D->Option Rv):Prop where
 go:X.K=K->OpR X f (rOf K g)
instance {K:Fg9} {X:Cx} {f:Value->Value->Sem Value} {g:D->D->Option Rv}:CoeFun (OpD K X f g) fun _=>X.K=K->OpR X f (rOf K g):=⟨OpD.go⟩
def mOp(g:D->D->Option Rv)(m:M (D×D)):M Rv:=m.bind fun p=>lift (g p.1 p.2)
theorem am5{g:D->D->Option Rv}{m:M (D×D)}{ta tb:TE}(h:∀σ H R,T2 K m σ H R->ta σ H fun x H1=>tb σ H1 fun y H2=>R x y H2)(σ:L2.St)(H:Hp)(Q:VK)(t:T K (relR K) (mOp g m) σ H Q):tOp (rOf K g) ta tb σ H Q:=by
 obtain⟨tg,F,ρ,r,ρ',G,em,q⟩:=t;obtain⟨p,ρ1,e1,em⟩:=au em;obtain⟨e2,rfl⟩:=fu em;refine h σ H _ ⟨tg,F,ρ,p,_,G,e1,fun x y H' F' G' x' bx by'=>⟨tg,F',_,σ,p.1,p.2,r,G',bx,by',e2,fun v H2 F2 G2 x2 rr=>q v H2 F2 G2 (x'.trans x2) ?_⟩⟩
 cases r with
 | v d=>exact rr
 | fr l =>
  obtain⟨a,vs,ev,ha,w⟩:=rr;refine⟨a,vs,ev,?_,w⟩;rcases ha with ha | ha
  ·exact .inl (x'.there a ha)
  ·exact(x'.own a ha).symm
 | tf d l =>
  obtain⟨t,u,a,vs,ev,ht,hd,ha,w⟩:=rr;refine⟨t,u,a,vs,ev,ht,hd,?_,w⟩;rcases ha with ha | ha
  ·exact .inl (x'.there a ha)
  ·exact(x'.own a ha).symm
theorem dz{op:Operator}{g:D->D->Option Rv}{m:M (D×D)}(ho:OpD K X (binaryOp op) g)(h:E2 K X a b m):ER K X (.BinOp a op b pos) (mOp g m):=ER.mk fun hk=>by
 obtain⟨ta,tb,ha,hb,h⟩:=h hk;exact PE.imp (a6o (ho hk) ha hb) (am5 h)
theorem axg{op:CmpOp}{g:D->D->Option Rv}{m:M (D×D)}(ho:OpD K X (compareOp op) g)(h:E2 K X a b m)(hm:behindInMarks op b=false):ER K X (.Compare a [op] [b] pos) (mOp g m):=ER.mk fun hk=>by
 obtain⟨ta,tb,ha,hb,h⟩:=h hk;exact PE.imp (ayl (ho hk) ha hb hm) (am5 h)
def capS:Nat:=16777216
theorem aga{n:Nat}(h:n<=capS):n<=sizeLine:=by rw[sizeLine_eq];exact h
def gAdd:D->D->Option Rv
 | .int i,.int j=>some (.v (.int (i+j)))
 | .tup l,.tup k=>if l.length+k.length<=capS then some (.v (.tup (l++k))) else none
 | .lst l,.lst k=>if l.length+k.length<=capS then some (.fr (l++k)) else none
 | .str i,.str j=>if i.length+j.length<=capS then some (.v (.str (i++j))) else none
 | _,_=>none
theorem vf:OpD K X (binaryOp .Add) gAdd:=OpD.mk fun hk=>by
 intro qv s σ0 H x y v u Q I rx ry z9;obtain⟨tg,F,ρ,σ,d1,d2,r,G,b1,b2,eg,q⟩:=z9;subst hk;unfold gAdd at eg;split at eg
 ·cases eg;obtain rfl:=b1.int;obtain rfl:=b2.int;exact a1x qv s σ0 H _ _ v u Q I rx ry ⟨_,_,rfl,rfl,Res.same G q (.int _)⟩
 ·split at eg
  ·rename_i hz;cases eg;obtain⟨a1,vs1,rfl,s1,i1⟩:=b1.tup;obtain⟨a2,vs2,rfl,s2,i2⟩:=b2.tup;have l1:=i1.length;have l2:=i2.length
   by_cases hx:vs1=[]
   ·subst hx;cases i1;cases rx;cases ry;obtain⟨its,r1,p1,_⟩:=I.tuple (SqT.of (G.sub _ _ s1));obtain⟨its2,r2,p2,_⟩:=I.tuple (SqT.of (G.sub _ _ s2));exact awa p1 p2 (r1.nil_iff.mpr rfl) ⟨.ref a2,H,I,rfl,Res.same G q (.tup s2 i2)⟩
   ·refine ayt qv s σ0 H _ _ v u Q I rx ry ⟨a1,a2,vs1,vs2,rfl,rfl,SqT.of (G.sub _ _ s1),SqT.of (G.sub _ _ s2),hx,by rw[<-l1,<-l2];exact aga hz,fun e =>?_,fun _ p hp=>Res.tup G q (i1.append i2) hp⟩
    subst e;cases i2;exact Res.same G q (.tup s1 (by simpa using i1))
  ·cases eg
 ·split at eg
  ·rename_i hz;cases eg;obtain⟨a1,vs1,rfl,s1,i1⟩:=b1.lst G.sub;obtain⟨a2,vs2,rfl,s2,i2⟩:=b2.lst G.sub;have l1:=i1.length;have l2:=i2.length;exact a1w qv s σ0 H _ _ v u Q I rx ry ⟨a1,a2,vs1,vs2,rfl,rfl,s1,s2,by rw[<-l1,<-l2];exact aga hz,fun p hp=>Res.lst G q (i1.append i2) hp⟩
  ·cases eg
 ·split at eg
  ·rename_i hz;cases eg;obtain rfl:=b1.str;obtain rfl:=b2.str;exact ao1 qv s σ0 H _ _ v u Q I rx ry ⟨_,_,rfl,rfl,aga hz,Res.same G q (.str _)⟩
  ·cases eg
 ·cases eg
def gInt(f:Int->Int->Option Int):D->D->Option Rv
 | .int i,.int j=>(f i j).map fun k=>.v (.int k)
 | _,_=>none
theorem alq{op:Operator}{f:Int->Int->Option Int}{C:Int->Int->Prop}{g:Int->Int->Int}(h:OpR X (binaryOp op) (rI C fun i j=>.int (g i j)))(hf:∀i j k,f i j=some k->C i j/\k=g i j):OpD K X (binaryOp op) (gInt f):=OpD.mk fun hk=>by
 intro qv s σ0 H x y v u Q I rx ry z9;obtain⟨tg,F,ρ,σ,d1,d2,r,G,b1,b2,eg,q⟩:=z9;unfold gInt at eg;split at eg
 ·rename_i i j;obtain rfl:=b1.int;obtain rfl:=b2.int;cases z:f i j with
  | none=>rw[z] at eg;cases eg
  | some k =>
   rw[z] at eg;cases eg;obtain⟨h1,rfl⟩:=hf i j k z;exact h qv s σ0 H _ _ v u Q I rx ry ⟨_,_,rfl,rfl,h1,Res.same G q (.int _)⟩
 ·cases eg
def fSub(i j:Int):Option Int:=some (i - j)
def fMul(i j:Int):Option Int:=if (-18446744073709551616 < i/\i < 18446744073709551616)∨(-18446744073709551616 < j/\j < 18446744073709551616) then some (i*j) else none
theorem a2c{i j:Int}(h0:0 < j)(h:j < 1000000000000000000000000000000000000000000000000000000000000):Builtin.divisionGoesByPylong i j=false:=by
 have e2:(2:Nat) ^ 200=1606938044258990275541962092341162602522202993782792835301376:=by decide +kernel
 have hl:j.natAbs.log2 < 200:=(Nat.log2_lt (by omega)).2 (by rw[e2];omega)
 have hd:¬(j.natAbs.log2 / 30+1 > 300):=by omega
 have hj:(j==0)=false:=by
  rw[beq_eq_false_iff_ne];omega
 unfold Builtin.divisionGoesByPylong;simp only[hj,Bool.false_eq_true,if_false,hd,decide_false,Bool.false_and]
theorem auz:OpR X (binaryOp .FloorDiv) (rI (fun _ j=>0 < j/\j < 1000000000000000000000000000000000000000000000000000000000000) fun i j=>.int (i / j)):=opI fun i j _ _ _ _ _ hc q=>by
 have h1:(0:Int) < j:=hc.1;exact floordiv_int (by omega) (by rw[Int.fdiv_eq_ediv_of_nonneg i (by omega)];exact q) (.inl (a2c hc.1 hc.2))
def fDiv(i j:Int):Option Int:=if 0 < j/\j < 1000000000000000000000000000000000000000000000000000000000000 then some (i / j) else none
def fMod(i j:Int):Option Int:=if 0 < j then some (i % j) else none
def fPow(i j:Int):Option Int:=if 0<=j/\j<=1000000/\i.natAbs < 18446744073709551616 then some (i ^ j.toNat) else none
theorem afb:OpD K X (binaryOp .Sub) (gInt fSub):=OpD.mk fun hk=>by
 intro qv s σ0 H x y v u Q I rx ry z9;obtain⟨tg,F,ρ,σ,d1,d2,r,G,b1,b2,eg,q⟩:=z9;unfold gInt at eg;split at eg
 ·obtain rfl:=b1.int;obtain rfl:=b2.int;cases eg;exact a1r qv s σ0 H _ _ v u Q I rx ry ⟨_,_,rfl,rfl,Res.same G q (.int _)⟩
 ·cases eg
end
mutual
def toPy:D->PyData
 | .non=>.none
 | .bl b=>.bool b
 | .int i=>.int i
 | .str x=>.str x
 | .tup l=>.tuple (abo l)
 | .lst l=>.list (abo l)
 | .kst l=>.list (abo l)
 | .dct _=>.dict []
 | .exn _ _=>.dict []
 | .dtt _=>.dict []
def abo:List D->List PyData
 | []=>[]
 | d::r=>toPy d::abo r
end
def okD:Nat->D->Bool
 | _,.non=>true
 | _,.bl _=>true
 | _,.int _=>true
 | _,.str x=>PyData.strOk x
 | n+1,.tup l=>l.all (okD n)
 | n+1,.lst l=>l.all (okD n)
 | n+1,.kst l=>l.all (okD n)
 | _,_=>false
theorem aib{n:Nat}(ih:∀d,okD n d=true->(toPy d).canLay0=true/\(toPy d).depth<=n):∀l:List D,l.all (okD n)=true->PyData.canLayAll0 (abo l)=true/\PyData.depthAll (abo l)<=n
 | [],_=>⟨rfl,Nat.zero_le _⟩
 | d::r,h=>by
  rw[List.all_cons,Bool.and_eq_true] at h;obtain⟨h1,h2⟩:=ih d h.1;obtain⟨h3,h4⟩:=aib ih r h.2;refine⟨?_,?_⟩
  ·show(PyData.canLay0 (toPy d)&&PyData.canLayAll0 (abo r))=true;rw[h1,h3];rfl
  ·show max (PyData.depth (toPy d)) (PyData.depthAll (abo r))<=n;omega
theorem aav:∀(n:Nat) (d:D),okD n d=true->(toPy d).canLay0=true/\(toPy d).depth<=n
 | n,.non,_=>⟨rfl,Nat.zero_le _⟩
 | n,.bl _,_=>⟨rfl,Nat.zero_le _⟩
 | n,.int _,_=>⟨rfl,Nat.zero_le _⟩
 | n,.str x,h=>by
  refine⟨?_,Nat.zero_le _⟩;cases n <;> exact h
 | n+1,.tup l,h=>by
  obtain⟨h1,h2⟩:=aib (aav n) l h;exact⟨h1,Nat.succ_le_succ h2⟩
 | n+1,.lst l,h=>by
  obtain⟨h1,h2⟩:=aib (aav n) l h;exact⟨h1,Nat.succ_le_succ h2⟩
 | n+1,.kst l,h=>by
  obtain⟨h1,h2⟩:=aib (aav n) l h;exact⟨h1,Nat.succ_le_succ h2⟩
 | 0,.tup l,h=>by cases h
 | 0,.lst l,h=>by cases h
 | 0,.kst l,h=>by cases h
 | 0,.dct l,h=>by cases h
 | n+1,.dct l,h=>by cases h
 | 0,.exn _ _,h=>by cases h
 | n+1,.exn _ _,h=>by cases h
 | 0,.dtt _,h=>by cases h
 | n+1,.dtt _,h=>by cases h
def eqD(a b:D):Bool:=PyData.eqv (toPy a) (toPy b)
def eqDs:List D->List D->Bool
 | [],[]=>true
 | a::r,b::t=>eqD a b&&eqDs r t
 | _,_=>false
theorem asf:∀a b:List D,PyData.eqvAll (abo a) (abo b)=eqDs a b
 | [],[]=>rfl
 | a::r,b::t=>by
  show(PyData.eqv (toPy a) (toPy b)&&PyData.eqvAll (abo r) (abo t))=_;rw[asf r t];rfl
 | [],_::_=>rfl
 | _::_,[]=>rfl
section
variable{K:Fg9}{X:Cx}
section
variable{qv:List (Addr×Obj)}{σ:L2.St}{F H:Hp}{s:Shared}
mutual
theorem abe(I:Inv X qv σ H s)(g:Same F H):∀{n:Nat} {d:D} {v:V} {u:Value},Is X.K F d v->okD n d=true->RelV v u->∃as,Reads s.heap u (toPy d) as
 | _,_,_,_,.non,_,r=>by cases r;exact⟨_,.none⟩
 | _,_,_,_,.bl b,_,r=>by cases r;exact⟨_,.bool b⟩
 | _,_,_,_,.int i,_,r=>by obtain⟨t,rfl⟩:=r;exact⟨_,.int i t⟩
 | _,_,_,_,.str i,_,r=>by obtain⟨t,rfl⟩:=r;exact⟨_,.str i t⟩
 | 0,_,_,_,.tup e h,k,r=>by cases k
 | n+1,_,_,_,.tup e h,k,r=>by
  cases r;obtain⟨its,rv,p1,_⟩:=I.tuple (SqT.of (g _ _ e));obtain⟨o,ho,hc,m,hd⟩:=p1;obtain⟨as,ra⟩:=aat I g h k rv;exact⟨_,.tuple ho hc hd (by simpa using ra)⟩
 | 0,_,_,_,.lst e h,k,r=>by cases k
 | n+1,_,_,_,.lst e h,k,r=>by
  cases r;obtain⟨its,rv,p1,_⟩:=I.list (SqL.of (g _ _ e));obtain⟨o,ho,hc,m,hd⟩:=p1.isList;obtain⟨as,ra⟩:=aat I g h k rv;exact⟨_,.list ho hc hd (by simpa using ra)⟩
 | 0,_,_,_,.kst e h,k,r=>by cases k
 | n+1,_,_,_,.kst e h,k,r=>by
  cases r;obtain⟨its,rv,p1,_⟩:=I.list (L2.Same.seq g e);obtain⟨o,ho,hc,m,hd⟩:=p1.isList;obtain⟨as,ra⟩:=aat I g h k rv;exact⟨_,.list ho hc hd (by simpa using ra)⟩
 | 0,_,_,_,.dct e h,k,r=>by cases k
 | n+1,_,_,_,.dct e h,k,r=>by cases k
 | 0,_,_,_,.exn ..,k,r=>by cases k
 | n+1,_,_,_,.exn ..,k,r=>by cases k
 | 0,_,_,_,.dtt ..,k,r=>by cases k
 | n+1,_,_,_,.dtt ..,k,r=>by cases k
theorem aat(I:Inv X qv σ H s)(g:Same F H):∀{n:Nat} {ds:List D} {vs:List V} {us:List Value},IsL X.K F ds vs->ds.all (okD n)=true->Vals vs us->∃as,ReadsAll s.heap us (abo ds) as
 | _,_,_,_,.nil,_,r=>by cases r;exact⟨_,.nil⟩
 | n,_,_,_,.cons h t,k,r=>by
  rw[List.all_cons,Bool.and_eq_true] at k;cases r with
  | cons r1 r2 =>
   obtain⟨as,ra⟩:=abe I g h k.1 r1;obtain⟨bs,rb⟩:=aat I g t k.2 r2;exact⟨_,.cons ra rb⟩
end
theorem aas(I:Inv X qv σ H s)(g:Same F H){n:Nat}{d:D}{v:V}{u:Value}(h:Bor X.K F H d v)(k:okD n d=true)(r:RelV v u):∃as,Reads s.heap u (toPy d) as:=by
 rcases h with h | ⟨a,vs,l,rfl,rfl,e,h⟩
 ·exact abe I g h k r
 ·cases r;cases n with
  | zero=>cases k
  | succ n =>
   obtain⟨its,rv,p1,_⟩:=I.list (SqL.of e);obtain⟨o,ho,hc,m,hd⟩:=p1.isList;obtain⟨as,ra⟩:=aat I g h k rv;exact⟨_,.list ho hc hd (by simpa using ra)⟩
end
def gEq(neg:Bool)(a b:D):Option Rv:=if okD 30 a&&okD 30 b then some (.v (.bl (if neg then !eqD a b else eqD a b))) else none
theorem am4(hu:X.A.units+64 < cLine):OpD K X (compareOp .Eq) (gEq false):=OpD.mk fun hk=>by
 intro qv s σ0 H x y v u Q I rx ry z9;obtain⟨tg,F,ρ,σ,d1,d2,r,G,b1,b2,eg,q⟩:=z9;subst hk;unfold gEq at eg;split at eg
 ·rename_i ho;rw[Bool.and_eq_true] at ho;cases eg;obtain⟨as,ra⟩:=aas I G.sub b1 ho.1 rx;obtain⟨bs,rb⟩:=aas I G.sub b2 ho.2 ry;obtain⟨c1,p1⟩:=aav _ _ ho.1;obtain⟨c2,p2⟩:=aav _ _ ho.2;exact PySem.SeqAt.compareEq_reads ra rb c1 c2 (by omega) ⟨.bl _,H,I,rfl,Res.same G q (.bl _)⟩
 ·cases eg
theorem ag1(hu:X.A.units+64 < cLine):OpD K X (compareOp .NotEq) (gEq true):=OpD.mk fun hk=>by
 intro qv s σ0 H x y v u Q I rx ry z9;obtain⟨tg,F,ρ,σ,d1,d2,r,G,b1,b2,eg,q⟩:=z9;subst hk;unfold gEq at eg;split at eg
 ·rename_i ho;rw[Bool.and_eq_true] at ho;cases eg;obtain⟨as,ra⟩:=aas I G.sub b1 ho.1 rx;obtain⟨bs,rb⟩:=aas I G.sub b2 ho.2 ry;obtain⟨c1,p1⟩:=aav _ _ ho.1;obtain⟨c2,p2⟩:=aav _ _ ho.2;exact PySem.SeqAt.compareNe_reads ra rb c1 c2 (by omega) ⟨.bl _,H,I,rfl,Res.same G q (.bl _)⟩
 ·cases eg
def itemsD:D->Option (List D)
 | .tup l=>some l
 | .lst l=>some l
 | .kst l=>some l
 | _=>none
def gIn(neg:Bool)(a b:D):Option Rv:=match itemsD b with
 | some l=>if okD 30 a&&l.all (okD 30) then some (.v (.bl (if neg then !l.any (fun y=>eqD y a) else l.any (fun y=>eqD y a)))) else none
 | none=>none
open Classical in
noncomputable def aec(h:Heap)(dx:PyData)(u:Value):Bool:=decide (∃d as,Reads h u d as/\d.canLay0=true/\PyData.eqv d dx=true)
open Classical in
theorem ait{h:Heap}{dx d:PyData}{u:Value}{as:List Addr}(r:Reads h u d as)(c:d.canLay0=true):aec h dx u=PyData.eqv d dx:=by
 unfold aec;cases e:PyData.eqv d dx with
 | true=>exact decide_eq_true ⟨d,as,r,c,e⟩
 | false =>
  refine decide_eq_false ?_
  rintro⟨d',as',r',c',e'⟩
  rw[<-PySem.SeqAt.Reads.unique d d' u as as' c r r'] at e';rw[e] at e';cases e'
theorem aa7{qv:List (Addr×Obj)}{σ:L2.St}{F H:Hp}{s:Shared}(I:Inv X qv σ H s)(g:Same F H){a:D}{n:Nat}:∀{ds:List D} {vs:List V} {us:List Value},IsL X.K F ds vs->ds.all (okD n)=true->Vals vs us ->
  us.any (aec s.heap (toPy a))=ds.any (fun y=>eqD y a)/\∀u∈us,∃d as,Reads s.heap u d as/\d.canLay0=true/\d.depth<=n
 | _,_,_,.nil,_,r=>by cases r;exact⟨rfl,fun u hu=>by cases hu⟩
 | _,_,_,.cons h t,k,r=>by
  rw[List.all_cons,Bool.and_eq_true] at k;cases r with
  | cons r1 r2 =>
   obtain⟨as,ra⟩:=abe I g h k.1 r1;obtain⟨c,p⟩:=aav _ _ k.1;obtain⟨e,z⟩:=aa7 I g (a:=a) t k.2 r2;refine⟨?_,fun u hu =>?_⟩
   ·rw[List.any_cons,List.any_cons,e,ait ra c];rfl
   ·rcases List.mem_cons.mp hu with rfl | hu
    ·exact⟨_,as,ra,c,p⟩
    ·exact z u hu
theorem abk{s:Shared}{A:Around}(hu:A.units+64 < cLine){us:List Value}{a:D}{v:Value}{as:List Addr}(ra:Reads s.heap v (toPy a) as)(ka:okD 30 a=true)(z:∀u∈us,∃d as,Reads s.heap u d as/\d.canLay0=true/\d.depth<=30) :
  ∀u∈us,SeqAt.EqAt A.in1 s u v (aec s.heap (toPy a) u):=fun u hm=>by
 obtain⟨d,bs,rb,c,p⟩:=z u hm;obtain⟨c2,p2⟩:=aav _ _ ka;rw[ait rb c];refine PySem.SeqAt.eqAt_reads d (toPy a) A.in1 s u v bs as rb ra c c2 ?_;show A.units+1+_ < _;omega
theorem ar7{a b:D}{neg:Bool}{r:Rv}(h:gIn neg a b=some r):∃l,itemsD b=some l/\okD 30 a=true/\l.all (okD 30)=true/\r=.v (.bl (if neg then !l.any (fun y=>eqD y a) else l.any (fun y=>eqD y a))):=by
 unfold gIn at h;split at h
 ·rename_i l e;split at h
  ·rename_i ho;rw[Bool.and_eq_true] at ho;cases h;exact⟨l,e,ho.1,ho.2,rfl⟩
  ·cases h
 ·cases h
theorem ahu{F H:Hp}{d:D}{l:List D}{x:V}(g:Same F H)(e:itemsD d=some l)(h:Bor K F H d x):∃a vs,x=.ref a/\IsL K F l vs/\(SqL K H a vs∨SqT K H a vs):=by
 cases d with
 | tup k =>
  cases e;obtain⟨a,vs,rfl,e,h⟩:=h.tup;exact⟨a,vs,rfl,h,.inr (SqT.of (g _ _ e))⟩
 | lst k =>
  cases e;obtain⟨a,vs,rfl,e,h⟩:=h.lst g;exact⟨a,vs,rfl,h,.inl (SqL.of e)⟩
 | kst k =>
  cases e;obtain⟨a,vs,rfl,e,h⟩:=h.kst;exact⟨a,vs,rfl,h,.inl (L2.Same.seq g e)⟩
 | _=>cases e
theorem afc(hu:X.A.units+64 < cLine):OpD K X (compareOp .NotIn) (gIn true):=OpD.mk fun hk=>by
 intro qv s σ0 H x y v u Q I rx ry z9;obtain⟨tg,F,ρ,σ,d1,d2,r,G,b1,b2,eg,q⟩:=z9;subst hk;obtain⟨l,e,k1,k2,rfl⟩:=ar7 eg;obtain⟨as,ra⟩:=aas I G.sub b1 k1 rx;obtain⟨p,vs,rfl,hl,hs⟩:=ahu G.sub e b2;cases ry;rcases hs with hs | hs
 ·obtain⟨its,rv,pl,_⟩:=I.list hs;obtain⟨ea,z⟩:=aa7 I G.sub (a:=d1) hl k2 rv;refine SeqAt.notIn_listAt (aec s.heap (toPy d1)) pl.isList (fun w hw=>abk hu ra k1 z w (by simpa using hw)) ⟨.bl _,H,I,rfl,?_⟩
  rw[show its.toArray.any (aec s.heap (toPy d1))=its.any (aec s.heap (toPy d1)) by simp,ea]
  exact Res.same G q (.bl _)
 ·obtain⟨its,rv,pl,_⟩:=I.tuple hs;obtain⟨ea,z⟩:=aa7 I G.sub (a:=d1) hl k2 rv;refine SeqAt.notIn_tupleAt (aec s.heap (toPy d1)) pl (fun w hw=>abk hu ra k1 z w (by simpa using hw)) ⟨.bl _,H,I,rfl,?_⟩
  rw[show its.toArray.any (aec s.heap (toPy d1))=its.any (aec s.heap (toPy d1)) by simp,ea]
  exact Res.same G q (.bl _)
end
end Dn
namespace Dn
open L2 Mn
section
variable{K:Fg9}{X:Cx}{e a b c:Expr}{es:List Expr}{pos p:Pos}
theorem ah6:OpD K X (binaryOp .FloorDiv) (gInt fDiv):=alq auz fun i j k h=>by
 unfold fDiv at h;split at h
 ·cases h;exact⟨by assumption,rfl⟩
 ·cases h
theorem xj:OpD K X (binaryOp .Mod) (gInt fMod):=alq a1v fun i j k h=>by
 unfold fMod at h;split at h
 ·cases h;exact⟨by assumption,rfl⟩
 ·cases h
theorem ayr:OpD K X (binaryOp .Pow) (gInt fPow):=alq a1t fun i j k h=>by
 unfold fPow at h;split at h
 ·rename_i hc;cases h;exact⟨⟨hc.1,hc.2.1,hc.2.2⟩,rfl⟩
 ·cases h
def gMul:D->D->Option Rv
 | .int i,.int j=>(fMul i j).map fun k=>.v (.int k)
 | .tup l,.int k=>if k=1 then some (.v (.tup l)) else if l≠[]/\2<=k/\k < 9223372036854775808/\l.length*k.toNat<=capS then some (.v (.tup (List.replicate k.toNat l).flatten)) else none
 | .lst l,.int k=>if k.natAbs < 9223372036854775808/\l.length*k.toNat<=capS then some (.fr (List.replicate k.toNat l).flatten) else none
 | _,_=>none
theorem aau:OpD K X (binaryOp .Mult) gMul:=OpD.mk fun hk=>by
 intro qv s σ0 H x y v u Q I rx ry z9;obtain⟨tg,F,ρ,σ,d1,d2,r,G,b1,b2,eg,q⟩:=z9;subst hk;unfold gMul at eg;split at eg
 ·rename_i i j;obtain rfl:=b1.int;obtain rfl:=b2.int;unfold fMul at eg;split at eg
  ·rename_i hc;cases eg;exact a1u qv s σ0 H _ _ v u Q I rx ry ⟨_,_,rfl,rfl,hc,Res.same G q (.int _)⟩
  ·cases eg
 ·rename_i l k;split at eg
  ·rename_i hk1;subst hk1;cases eg;obtain⟨a1,vs1,rfl,s1,i1⟩:=b1.tup;obtain rfl:=b2.int;exact ays qv s σ0 H _ _ v u Q I rx ry ⟨a1,vs1,rfl,rfl,G.sub _ _ s1,Res.same G q (.tup s1 i1)⟩
  split at eg
  ·rename_i hc;obtain⟨h0,h2,h3,hz⟩:=hc;cases eg;obtain⟨a1,vs1,rfl,s1,i1⟩:=b1.tup;obtain rfl:=b2.int;have l1:=i1.length;refine auw qv s σ0 H _ _ v u Q I rx ry ⟨a1,vs1,k,rfl,rfl,G.sub _ _ s1,?_,h2,h3,by rw[<-l1];exact aga hz,fun p hp=>Res.tup G q (i1.rep _) hp⟩
   intro z;subst z;cases i1;exact h0 rfl
  ·cases eg
 ·rename_i l k;split at eg
  ·rename_i hc;obtain⟨hab,hz⟩:=hc;have h0 : -9223372036854775808<=k:=by omega
   have h2:k < 9223372036854775808:=by omega
   cases eg;obtain⟨a1,vs1,rfl,s1,i1⟩:=b1.lst G.sub;obtain rfl:=b2.int;have l1:=i1.length;exact a1s qv s σ0 H _ _ v u Q I rx ry ⟨a1,k,vs1,rfl,rfl,s1,h0,h2,by rw[<-l1];exact aga hz,fun p hp=>Res.lst G q (i1.rep _) hp⟩
  ·cases eg
 ·cases eg
def gCmp(f:Int->Int->Bool):D->D->Option Rv
 | .int i,.int j=>some (.v (.bl (f i j)))
 | _,_=>none
theorem aqx{op:CmpOp}{f:Int->Int->Bool}(h:OpR X (compareOp op) (rI0 fun i j=>.bl (f i j))):OpD K X (compareOp op) (gCmp f):=OpD.mk fun hk=>by
 intro qv s σ0 H x y v u Q I rx ry z9;obtain⟨tg,F,ρ,σ,d1,d2,r,G,b1,b2,eg,q⟩:=z9;unfold gCmp at eg;split at eg
 ·cases eg;obtain rfl:=b1.int;obtain rfl:=b2.int;exact h qv s σ0 H _ _ v u Q I rx ry ⟨_,_,rfl,rfl,Res.same G q (.bl _)⟩
 ·cases eg
theorem awy:OpD K X (compareOp .Lt) (gCmp fun i j=>decide (i < j)):=aqx a6q
theorem aqw:OpD K X (compareOp .GtE) (gCmp fun i j=>decide (j<=i)):=aqx a6r
def gNeg:D->Option D
 | .int i=>some (.int (-i))
 | _=>none
def mUn(g:D->Option D)(m:M D):M D:=m.bind fun d=>lift (g d)
theorem axf{m:M D}(h:EV K X a m):EV K X (.UnaryOp .USub a pos) (mUn gNeg m):=EV.mk fun hk=>PE.imp (a6n a0l (h hk)) fun σ H Q z9=>by
 obtain⟨tg,F,ρ,d,ρ',G,em,q⟩:=z9;obtain⟨d1,ρ1,e1,em⟩:=au em;obtain⟨e2,rfl⟩:=fu em;refine⟨tg,F,ρ,d1,_,G,e1,fun v H' F' G' x r =>?_⟩
 cases d1 with
 | int i =>
  cases e2;cases r;exact⟨i,rfl,q _ H' F' G' x (.int _)⟩
 | _=>cases e2
def asB:D->Option Bool
 | .bl b=>some b
 | _=>none
def gNot(d:D):Option D:=(asB d).map fun k=>.bl (!k)
theorem aoi{d:D}{k:Bool}(h:asB d=some k):d=.bl k:=by
 cases d with
 | bl b=>cases h;rfl
 | _=>cases h
theorem axd{m:M D}(h:EV K X a m):EV K X (.UnaryOp .Not a pos) (mUn gNot m):=EV.mk fun hk=>PE.imp (a1h (h hk)) fun σ H Q z9=>by
 obtain⟨tg,F,ρ,d,ρ',G,em,q⟩:=z9;obtain⟨d1,ρ1,e1,em⟩:=au em;obtain⟨e2,rfl⟩:=fu em;refine⟨tg,F,ρ,d1,_,G,e1,fun v H' F' G' x r =>?_⟩
 cases d1 with
 | bl i =>
  cases e2;cases r;exact⟨i,rfl,q _ H' F' G' x (.bl _)⟩
 | _=>cases e2
def mAnd(m1 m2:M D):M D:=m1.bind fun d=>(lift (asB d)).bind fun k=>if k=true then m2 else ret (.bl false)
theorem anz{op}{m:M D}(h:EV K X a m):EV K X (.BoolOp op [a] pos) m:=EV.mk fun hk=>a1g (h hk)
theorem an1{m1 m2:M D}{rest:List Expr}(h1:EV K X a m1)(h2:EV K X (.BoolOp .And (b::rest) pos) m2):EV K X (.BoolOp .And (a::b::rest) pos) (mAnd m1 m2):=EV.mk fun hk=>PE.imp (a1p (h1 hk) (h2 hk)) fun σ H Q z9=>by
 obtain⟨tg,F,ρ,d,ρ',G,em,q⟩:=z9;obtain⟨d1,ρ1,e1,em⟩:=au em;obtain⟨k,ρ2,e2,em⟩:=au em;obtain⟨e3,rfl⟩:=fu e2;obtain rfl:=aoi e3;refine⟨tg,F,ρ,_,_,G,e1,fun v H' F' G' x r =>?_⟩
 cases r;refine⟨k,rfl,?_⟩;cases k with
 | true=>exact iteT ⟨tg,F',_,d,ρ',G',em,fun v2 H2 F2 G2 x2 r2=>q v2 H2 F2 G2 (x.trans x2) r2⟩
 | false =>
  obtain⟨rfl,rfl⟩:=jh (show ret (D.bl false) _=_ from em)
  exact iteF (q _ H' F' G' x (.bl _))
def TB(K:Fg9)(m:M Bool):TT:=fun σ H Q=>∃tg F ρ k ρ',Good K tg F H ρ σ/\m ρ=some (.ok k,ρ')/\∀H' F',Good K tg F' H' ρ' σ->Ext (Own ρ σ) (Own ρ' σ) F H F' H'->Q k H'
structure ET (K:Fg9) (X:Cx) (e:Expr) (m:M Bool):Prop where
 go:X.K=K->PT X e (TB K m)
instance {K:Fg9} {X:Cx} {e:Expr} {m:M Bool}:CoeFun (ET K X e m) fun _=>X.K=K->PT X e (TB K m):=⟨ET.go⟩
structure EW (K:Fg9) (X:Cx) (e:Expr) (m:M Bool):Prop where
 go:X.K=K->PW X e (TB K m)
instance {K:Fg9} {X:Cx} {e:Expr} {m:M Bool}:CoeFun (EW K X e m) fun _=>X.K=K->PW X e (TB K m):=⟨EW.go⟩
theorem PT.imp{t t':TT}(h:PT X e t)(w:∀σ H Q,t' σ H Q->t σ H Q):PT X e t':=fun qv s σ H Q I q=>h qv s σ H Q I (w σ H Q q)
theorem PW.imp{t t':TT}(h:PW X e t)(w:∀σ H Q,t' σ H Q->t σ H Q):PW X e t':=fun wh qv s σ H Q I q=>h wh qv s σ H Q I (w σ H Q q)
theorem EW.pt{m:M Bool}(h:EW K X e m):ET K X e m:=ET.mk fun hk=>(h hk).pt
def aai(m:M D):M Bool:=m.bind fun d=>lift (asB d)
theorem atu{m:M D}(σ:L2.St)(H:Hp)(Q:Bool->Hp->Prop)(t:TB K (aai m) σ H Q):tB (T K (relD K) m) σ H Q:=by
 obtain⟨tg,F,ρ,k,ρ',G,em,q⟩:=t;obtain⟨d1,ρ1,e1,em⟩:=au em;obtain⟨e3,rfl⟩:=fu em;obtain rfl:=aoi e3;refine⟨tg,F,ρ,_,_,G,e1,fun v H' F' G' x r =>?_⟩
 cases r;exact⟨k,rfl,q H' F' G' x⟩
theorem ade{m:M D}(h:EV K X e m)(he:∀whole,isTrue e X.env whole=(do let v <-whole;standAt e.pos;holding [v] (truthy v)):=by intro _;rfl):ET K X e (aai m):=ET.mk fun hk=>PT.imp (a07 (h hk) he) atu
def ou(g:D->D->Option Rv)(m:M (D×D)):M Bool:=aai (mOp g m).d
theorem uw{op:CmpOp}{g:D->D->Option Rv}{m:M (D×D)}(ho:OpD K X (compareOp op) g)(h:E2 K X a b m)(hm:behindInMarks op b=false):ET K X (.Compare a [op] [b] pos) (ou g m):=ET.mk fun hk=>by
 obtain⟨ta,tb,ha,hb,h⟩:=h hk;refine PT.imp (aqk (ho hk) ha hb hm) fun σ H Q t =>?_
 obtain⟨tg,F,ρ,k,ρ',G,em,q⟩:=t;obtain⟨d1,ρ1,e1,em⟩:=au em;obtain⟨e3,rfl⟩:=fu em;obtain rfl:=aoi e3;obtain⟨r,ρ2,e1,em⟩:=au e1;obtain⟨er,rfl⟩:=jh em;refine am5 h σ H _ ⟨tg,F,ρ,r,_,G,e1,fun v H' F' G' x w =>?_⟩
 cases r with
 | v d =>
  have er:d=.bl k:=er;subst er;have w:Is K F' (.bl k) v:=w;cases w;exact⟨k,rfl,q H' F' G' x⟩
 | fr l=>cases er
 | tf d l=>cases er
def afi(m:M Bool):M Bool:=m.bind fun k=>ret (!k)
theorem adf{m:M Bool}(h:ET K X a m):ET K X (.UnaryOp .Not a pos) (afi m):=ET.mk fun hk=>PT.imp (a08 (h hk)) fun σ H Q z9=>by
 obtain⟨tg,F,ρ,k,ρ',G,em,q⟩:=z9;obtain⟨d1,ρ1,e1,em⟩:=au em;obtain⟨rfl,rfl⟩:=jh em;exact⟨tg,F,ρ,d1,_,G,e1,fun H' F' G' x=>q H' F' G' x⟩
def ay3(m1 m2:M Bool):M Bool:=m1.bind fun k=>if k=true then m2 else ret false
def mOrB(m1 m2:M Bool):M Bool:=m1.bind fun k=>if k=true then ret true else m2
theorem azp{m:M Bool}(h:ET K X a m):EW K X (.BoolOp .And [a] pos) m:=EW.mk fun hk=>ax9 (h hk)
theorem axc{m:M Bool}(h:ET K X a m):EW K X (.BoolOp .Or [a] pos) m:=EW.mk fun hk=>a03 (h hk)
theorem a3r{m1 m2:M Bool}{rest:List Expr}(h1:ET K X a m1)(h2:EW K X (.BoolOp .And (b::rest) pos) m2):EW K X (.BoolOp .And (a::b::rest) pos) (ay3 m1 m2):=EW.mk fun hk=>PW.imp (a04 (h1 hk) (h2 hk)) fun σ H Q z9=>by
 obtain⟨tg,F,ρ,d,ρ',G,em,q⟩:=z9;obtain⟨k,ρ1,e1,em⟩:=au em;refine⟨tg,F,ρ,k,_,G,e1,fun H' F' G' x =>?_⟩
 cases k with
 | true=>exact iteT ⟨tg,F',_,d,ρ',G',em,fun H2 F2 G2 x2=>q H2 F2 G2 (x.trans x2)⟩
 | false =>
  obtain⟨rfl,rfl⟩:=jh (show ret false _=_ from em)
  exact iteF (q H' F' G' x)
theorem a3q{m1 m2:M Bool}{rest:List Expr}(h1:ET K X a m1)(h2:EW K X (.BoolOp .Or (b::rest) pos) m2):EW K X (.BoolOp .Or (a::b::rest) pos) (mOrB m1 m2):=EW.mk fun hk=>PW.imp (a6i (h1 hk) (h2 hk)) fun σ H Q z9=>by
 obtain⟨tg,F,ρ,d,ρ',G,em,q⟩:=z9;obtain⟨k,ρ1,e1,em⟩:=au em;refine⟨tg,F,ρ,k,_,G,e1,fun H' F' G' x =>?_⟩
 cases k with
 | false=>exact iteF ⟨tg,F',_,d,ρ',G',em,fun H2 F2 G2 x2=>q H2 F2 G2 (x.trans x2)⟩
 | true =>
  obtain⟨rfl,rfl⟩:=jh (show ret true _=_ from em)
  exact iteT (q H' F' G' x)
def ajr(f g:Int->Int->Bool)(m1 m2 m3:M D):M D:=m1.bind fun x=>m2.bind fun y=>match x,y with
 | .int i,.int j=>if f i j=true then m3.bind fun z=>match z with
  | .int k=>ret (.bl (g j k))
  | _=>lift none
  else ret (.bl false)
 | _,_=>lift none
theorem asx{f g:Int->Int->Bool}{m1 m2 m3:M D}(σ:L2.St)(H:Hp)(Q:VK)(t:T K (relD K) (ajr f g m1 m2 m3) σ H Q) :
  awo (rI0 fun i j=>.bl (f i j)) (rI0 fun i j=>.bl (g i j)) (T K (relD K) m1) (T K (relD K) m2) (T K (relD K) m3) σ H Q:=by
 obtain⟨tg,F,ρ,d,ρ',G,em,q⟩:=t;obtain⟨d1,ρ1,e1,em⟩:=au em;obtain⟨d2,ρ2,e2,em⟩:=au em;have bad:∀{ρ:Ro},(lift (none:Option D)) ρ=some (.ok d,ρ')->False:=fun z=>by
  obtain⟨z,_⟩:=fu z;cases z
 cases d1 with
 | int i =>
  cases d2 with
  | int j =>
   refine⟨tg,F,ρ,_,ρ1,G,e1,fun v H1 F1 G1 x1 r1=>⟨tg,F1,ρ1,_,ρ2,G1,e2,fun v2 H2 F2 G2 x2 r2 =>?_⟩⟩
   cases r1;cases r2;refine⟨i,j,rfl,rfl,f i j,rfl,?_⟩;have em:(if f i j=true then m3.bind fun z=>match z with
    | .int k=>ret (.bl (g j k))
    | _=>lift none
    else ret (.bl false)) ρ2=some (.ok d,ρ'):=em
   by_cases hf:f i j=true
   ·rw[if_pos hf] at em ⊢
    obtain⟨d3,ρ3,e3,em⟩:=au em;refine⟨tg,F2,ρ2,d3,ρ3,G2,e3,fun v3 H3 F3 G3 x3 r3 =>?_⟩
    cases d3 with
    | int k =>
     obtain⟨rfl,rfl⟩:=jh (show ret (D.bl (g j k)) _=_ from em)
     cases r3;exact⟨j,k,rfl,rfl,q _ H3 F3 G3 ((x1.trans x2).trans x3) (.bl _)⟩
    | _=>exact(bad em).elim
   ·rw[if_neg hf] at em ⊢
    obtain⟨rfl,rfl⟩:=jh em;exact q _ H2 F2 G2 (x1.trans x2) (.bl _)
  | _=>exact(bad em).elim
 | _=>cases d2 <;> exact(bad em).elim
theorem an0{op op':CmpOp}{f g:Int->Int->Bool}{m1 m2 m3:M D}(ho:OpR X (compareOp op) (rI0 fun i j=>.bl (f i j)))(ho':OpR X (compareOp op') (rI0 fun i j=>.bl (g i j)))(h1:EV K X a m1)(h2:EV K X b m2)(h3:EV K X c m3)
  (hm:lastMarks [op,op'] [b,c]=false:=by with_unfolding_all rfl):EV K X (.Compare a [op,op'] [b,c] pos) (ajr f g m1 m2 m3):=EV.mk fun hk=>PE.imp (aur ho ho' (h1 hk) (h2 hk) (h3 hk) hm) asx
def mIf{α:Type}(m:M Bool)(m1 m2:M α):M α:=m.bind fun k=>if k=true then m1 else m2
theorem a73{m:M Bool}{m1 m2:M Rv}(h:ET K X c m)(h1:ER K X a m1)(h2:ER K X b m2):ER K X (.IfExp c a b pos) (mIf m m1 m2):=ER.mk fun hk=>PE.imp (auo (h hk) (h1 hk) (h2 hk)) fun σ H Q z9=>by
 obtain⟨tg,F,ρ,d,ρ',G,em,q⟩:=z9;obtain⟨k,ρ1,e1,em⟩:=au em;refine⟨tg,F,ρ,k,_,G,e1,fun H' F' G' x =>?_⟩
 have fin:∀{m':M Rv},m' ρ1=some (.ok d,ρ')->T K (relR K) m' σ H' Q:=fun{m'} e'=>⟨tg,F',ρ1,d,ρ',G',e',fun v H2 F2 G2 x2 r2=>q v H2 F2 G2 (x.trans x2) (by
  cases d with
  | v d=>exact r2
  | fr l =>
   obtain⟨a,vs,ev,ha,w⟩:=r2;refine⟨a,vs,ev,?_,w⟩;rcases ha with ha | ha
   ·exact .inl (x.there a ha)
   ·exact(x.own a ha).symm
  | tf d l =>
   obtain⟨t,u,a,vs,ev,ht,hd,ha,w⟩:=r2;refine⟨t,u,a,vs,ev,ht,hd,?_,w⟩;rcases ha with ha | ha
   ·exact .inl (x.there a ha)
   ·exact(x.own a ha).symm)⟩
 cases k with
 | true=>exact iteT (fin em)
 | false=>exact iteF (fin em)
end
section
variable{K:Fg9}{X:Cx}{e a b c:Expr}{es:List Expr}{pos p p2:Pos}
def TL(K:Fg9)(m:M (List D)):TA:=fun σ H Q=>∃tg F ρ ds ρ',Good K tg F H ρ σ/\m ρ=some (.ok ds,ρ')/\∀vs H' F',Good K tg F' H' ρ' σ->Ext (Own ρ σ) (Own ρ' σ) F H F' H'->IsL K F' ds vs->Q vs H'
structure ED (K:Fg9) (X:Cx) (es:List Expr) (m:M (List D)):Prop where
 go:X.K=K->PA X es (TL K m)
instance {K:Fg9} {X:Cx} {es:List Expr} {m:M (List D)}:CoeFun (ED K X es m) fun _=>X.K=K->PA X es (TL K m):=⟨ED.go⟩
theorem PA.imp{t t':TA}(h:PA X es t)(w:∀σ H Q,t' σ H Q->t σ H Q):PA X es t':=fun ps qv s σ H Q I q=>h ps qv s σ H Q I (w σ H Q q)
def mNil:M (List D):=ret []
def bw(m:M D)(ms:M (List D)):M (List D):=m.bind fun d=>ms.bind fun ds=>ret (d::ds)
theorem cg:ED K X [] mNil:=ED.mk fun _=>PA.imp ajh fun σ H Q z9=>by
 obtain⟨tg,F,ρ,ds,ρ',G,em,q⟩:=z9;obtain⟨rfl,rfl⟩:=jh em;exact q [] H F G (Ext.refl _ _ _) .nil
theorem az{m:M D}{ms:M (List D)}(h:EV K X e m)(t:ED K X es ms)(hs:starEach (e::es) X.env=(false,eval e X.env)::starEach es X.env:=by rfl):ED K X (e::es) (bw m ms):=ED.mk fun hk=>PA.imp (zq (h hk) (t hk) hs) fun σ H Q z9=>by
 obtain⟨tg,F,ρ,ds,ρ',G,em,q⟩:=z9;obtain⟨d,ρ1,e1,em⟩:=au em;obtain⟨r,ρ2,e2,em⟩:=au em;obtain⟨rfl,rfl⟩:=jh em;exact⟨tg,F,ρ,d,ρ1,G,e1,fun v H1 F1 G1 x1 r1=>⟨tg,F1,ρ1,r,_,G1,e2,fun vs H2 F2 G2 x2 r2=>q _ H2 F2 G2 (x1.trans x2) (.cons (r1.mono x2.sub) r2)⟩⟩
def gTup(ds:List D):Option D:=if ds.length<=capS then some (.tup ds) else none
def gLst(ds:List D):Option Rv:=if ds.length<=capS then some (.fr ds) else none
def mTup(m:M (List D)):M D:=m.bind fun ds=>lift (gTup ds)
def mLst(m:M (List D)):M Rv:=m.bind fun ds=>lift (gLst ds)
theorem wz{k}{m:M (List D)}(h:ED K X es m):EV K X (.Tuple es k pos) (mTup m):=EV.mk fun hk=>PE.imp (a1f (h hk)) fun σ H Q z9=>by
 obtain⟨tg,F,ρ,d,ρ',G,em,q⟩:=z9;obtain⟨ds,ρ1,e1,em⟩:=au em;obtain⟨e2,rfl⟩:=fu em;unfold gTup at e2;split at e2
 ·rename_i hz;cases e2;refine⟨tg,F,ρ,ds,_,G,e1,fun vs H1 F1 G1 x1 r1=>⟨by rw[<-r1.length];exact aga hz,fun p hp=>q _ _ _ (G1.new hp _) (x1.trans (G1.newX hp _)) (.tup dh (r1.mono (Same.new (G1.freeF hp) _)))⟩⟩
 ·cases e2
theorem xf{m:M (List D)}(h:ED K X es m):ER K X (.List es pos) (mLst m):=ER.mk fun hk=>PE.imp (a1j (h hk)) fun σ H Q z9=>by
 obtain⟨tg,F,ρ,d,ρ',G,em,q⟩:=z9;obtain⟨ds,ρ1,e1,em⟩:=au em;obtain⟨e2,rfl⟩:=fu em;unfold gLst at e2;split at e2
 ·rename_i hz;cases e2;refine⟨tg,F,ρ,ds,_,G,e1,fun vs H1 F1 G1 x1 r1=>⟨by rw[<-r1.length];exact aga hz,fun p hp=>q _ _ _ (G1.fresh hp _) (x1.trans (G1.freshX hp _)) ⟨p,vs,rfl,.inl (x1.there p hp),G1.freeF hp,dh,r1,fun z=>G1.own_ne hp z rfl⟩⟩⟩
 ·cases e2
inductive BorL (K:Fg9) (F H:Hp):List D->List V->Prop
 | nil:BorL K F H [] []
 | cons {d:D} {v:V} {ds:List D} {vs:List V} (h:Bor K F H d v) (t:BorL K F H ds vs):BorL K F H (d::ds) (v::vs)
def TA'(K:Fg9)(m:M (List D)):TA:=fun σ H Q=>∃tg F ρ ds ρ',Good K tg F H ρ σ/\m ρ=some (.ok ds,ρ')/\∀vs H' F',Good K tg F' H' ρ' σ->Ext (Own ρ σ) (Own ρ' σ) F H F' H'->BorL K F' H' ds vs->Q vs H'
structure EA (K:Fg9) (X:Cx) (es:List Expr) (m:M (List D)):Prop where
 go:X.K=K->PA X es (TA' K m)
instance {K:Fg9} {X:Cx} {es:List Expr} {m:M (List D)}:CoeFun (EA K X es m) fun _=>X.K=K->PA X es (TA' K m):=⟨EA.go⟩
def dq(i:Nat)(ms:M (List D)):M (List D):=(di i).bind fun _=>ms.bind fun ds=>(di i).bind fun d=>ret (d::ds)
theorem dg:EA K X [] mNil:=EA.mk fun _=>PA.imp ajh fun σ H Q z9=>by
 obtain⟨tg,F,ρ,ds,ρ',G,em,q⟩:=z9;obtain⟨rfl,rfl⟩:=jh em;exact q [] H F G (Ext.refl _ _ _) .nil
theorem ea_v{m:M D}{ms:M (List D)}(h:EV K X e m)(t:EA K X es ms)(hs:starEach (e::es) X.env=(false,eval e X.env)::starEach es X.env:=by rfl):EA K X (e::es) (bw m ms):=EA.mk fun hk=>PA.imp (zq (h hk) (t hk) hs) fun σ H Q z9=>by
 obtain⟨tg,F,ρ,ds,ρ',G,em,q⟩:=z9;obtain⟨d,ρ1,e1,em⟩:=au em;obtain⟨r,ρ2,e2,em⟩:=au em;obtain⟨rfl,rfl⟩:=jh em;exact⟨tg,F,ρ,d,ρ1,G,e1,fun v H1 F1 G1 x1 r1=>⟨tg,F1,ρ1,r,_,G1,e2,fun vs H2 F2 G2 x2 r2=>q _ H2 F2 G2 (x1.trans x2) (.cons (.inl (r1.mono x2.sub)) r2)⟩⟩
theorem ea_n{i:Nat}{ms:M (List D)}(h:PE X e (tVar i))(t:EA K X es ms)(hs:starEach (e::es) X.env=(false,eval e X.env)::starEach es X.env:=by rfl):EA K X (e::es) (dq i ms):=EA.mk fun hk=>PA.imp (zq h (t hk) hs) fun σ H Q z9=>by
 obtain⟨tg,F,ρ,ds,ρ',G,em,q⟩:=z9;obtain⟨d0,ρ0,e0,em⟩:=au em;obtain⟨r,ρ2,e2,em⟩:=au em;obtain⟨d,ρ1,e1,em⟩:=au em;obtain⟨rfl,rfl⟩:=jh em;obtain⟨rfl,v,hv,_⟩:=uh G e0;exact⟨v,hv,tg,F,ρ0,r,_,G,e2,fun vs H2 F2 G2 x2 r2=>by
  obtain⟨rfl,v',hv',b'⟩:=uh G2 e1;rw[hv] at hv';cases hv';exact q _ H2 F2 G2 x2 (.cons b' r2)⟩
def rcOf(K:Fg9)(g:List D->Option Rv):List V->Hp->VK->Prop:=fun vs H Q=>∃tg F ρ σ ds r,Good K tg F H ρ σ/\BorL K F H ds vs/\g ds=some r/\Res K tg F H ρ σ r Q
structure CallD (K:Fg9) (X:Cx) (f:Value) (g:List D->Option Rv):Prop where
 go:X.K=K->aei X f (rcOf K g)
instance {K:Fg9} {X:Cx} {f:Value} {g:List D->Option Rv}:CoeFun (CallD K X f g) fun _=>X.K=K->aei X f (rcOf K g):=⟨CallD.go⟩
def gq(g:List D->Option Rv)(m:M (List D)):M Rv:=m.bind fun ds=>lift (g ds)
theorem yj{O O1 O2:Addr->Prop}{F H F1 H1 F2 H2:Hp}{r:Rv}{v:V}(x:Ext O O1 F H F1 H1)(h:relR K r v H1 O1 F2 H2 O2):relR K r v H O F2 H2 O2:=by
 cases r with
 | v d=>exact h
 | fr l =>
  obtain⟨a,vs,ev,ha,w⟩:=h;refine⟨a,vs,ev,?_,w⟩;rcases ha with ha | ha
  ·exact .inl (x.there a ha)
  ·exact(x.own a ha).symm
 | tf d l =>
  obtain⟨t,u,a,vs,ev,ht,hd,ha,w⟩:=h;refine⟨t,u,a,vs,ev,ht,hd,?_,w⟩;rcases ha with ha | ha
  ·exact .inl (x.there a ha)
  ·exact(x.own a ha).symm
theorem aoe{g:List D->Option Rv}{m:M (List D)}(σ:L2.St)(H:Hp)(Q:VK)(t:T K (relR K) (gq g m) σ H Q):tCB (rcOf K g) (TA' K m) σ H Q:=by
 obtain⟨tg,F,ρ,r,ρ',G,em,q⟩:=t;obtain⟨ds,ρ1,e1,em⟩:=au em;obtain⟨e2,rfl⟩:=fu em;exact⟨tg,F,ρ,ds,_,G,e1,fun vs H' F' G' x' bl=>⟨tg,F',_,σ,ds,r,G',bl,e2,fun v H2 F2 G2 x2 rr=>q v H2 F2 G2 (x'.trans x2) (yj x' rr)⟩⟩
section
variable{x:Str}{id Ty:String}{g:List D->Option Rv}{m:M (List D)}
theorem bz(hc:CallD K X (.builtin id) g)(hg:Gl X x)(hm:X.mg x=none)(hv:bootBuiltins x=some (.builtin id))(ha:EA K X (e::es) m)(hn:x ≠ "__name__" := by decide)(hdb:(x==("__debug__" : Str))=false:=by decide)
  (he:starEach (e::es) X.env=(false,eval e X.env)::starEach es X.env:=by rfl) (hpl:(backTo pos (starEach es X.env)).any (·.1)=false:=by rfl):ER K X (.Call (.Name x p) (e::es) [] pos) (gq g m):=ER.mk fun hk=>PE.imp (am3 (hc hk) hg hm hv (ha hk) hn hdb he hpl) aoe
theorem je(hc:CallD K X (.type Ty) g)(hg:Gl X x)(hm:X.mg x=none)(hv:bootBuiltins x=some (.type Ty))(ha:EA K X (e::es) m)(hn:x ≠ "__name__" := by decide)(hdb:(x==("__debug__" : Str))=false:=by decide)
  (he:starEach (e::es) X.env=(false,eval e X.env)::starEach es X.env:=by rfl) (hpl:(backTo pos (starEach es X.env)).any (·.1)=false:=by rfl):ER K X (.Call (.Name x p) (e::es) [] pos) (gq g m):=ER.mk fun hk=>PE.imp (aqv (hc hk) hg hm hv (ha hk) hn hdb he hpl) aoe
end
theorem BorL.one{F H:Hp}{d:D}{vs:List V}(h:BorL K F H [d] vs):∃v,vs=[v]/\Bor K F H d v:=by
 cases h with
 | cons h t=>cases t;exact⟨_,rfl,h⟩
theorem BorL.two{F H:Hp}{d d':D}{vs:List V}(h:BorL K F H [d,d'] vs):∃v v',vs=[v,v']/\Bor K F H d v/\Bor K F H d' v':=by
 cases h with
 | cons h t =>
  obtain⟨v',rfl,h'⟩:=t.one;exact⟨_,_,rfl,h,h'⟩
def g1(f:D->Option Rv):List D->Option Rv
 | [d]=>f d
 | _=>none
def g2(f:D->D->Option Rv):List D->Option Rv
 | [d,d']=>f d d'
 | _=>none
theorem cd_one{f:D->Option Rv}{w:Value} (h:X.K=K->∀(qv:List (Addr×Obj)) (s:Shared) (σ0:L2.St) (H:Hp) (x:V) (u:Value) (Q:VK) (tg:Nat->Addr) (F:Hp) (ρ:Ro) (σ:L2.St) (d:D) (r:Rv),Inv X qv σ0 H s->RelV x u->Good K tg F H ρ σ->Bor K F H d x->f d=some r->Res K tg F H ρ σ r Q ->
  wpAny (model X.prog X.w) X.A (call w [u]) (EP X qv σ0 Q) X.xe s):CallD K X w (g1 f):=CallD.mk fun hk=>by
 intro qv s σ0 H xs us Q I r z9;obtain⟨tg,F,ρ,σ,ds,rv,G,bl,eg,q⟩:=z9
 match ds,eg with
 | [d],eg =>
  obtain⟨v,rfl,bv⟩:=bl.one;obtain⟨u,rfl,ru⟩:=vals1 r;exact h hk qv s σ0 H v u Q tg F ρ σ d rv I ru G bv eg q
theorem j4:CallD K X (.builtin "len") (g1 fun d=>(itemsD d).map fun l=>.v (.int l.length)):=cd_one fun hk qv s σ0 H x u Q tg F ρ σ d r I ru G bd eg q=>by
 subst hk;cases e:itemsD d with
 | none=>rw[e] at eg;cases eg
 | some l =>
  rw[e] at eg;cases eg;obtain⟨a,vs,rfl,hl,hs⟩:=ahu G.sub e bd;have q':=Res.same G q (.int _);rw[hl.length] at q';exact akn qv s σ0 H [.ref a] [u] Q I (.cons ru .nil) ⟨a,vs,rfl,hs,q'⟩
def aah:List D->Option (List Bool)
 | []=>some []
 | .bl b::r=>(aah r).map (b :: ·)
 | _::_=>none
theorem akr:∀{l:List D} {bs:List Bool},aah l=some bs->l=bs.map D.bl
 | [],_,h=>by cases h;rfl
 | .bl b::r,bs,h=>by
  have h':(aah r).map (b :: ·)=some bs:=h;cases e:aah r with
  | none=>rw[e] at h';cases h'
  | some t =>
   rw[e] at h';cases h';rw[akr e];rfl
 | .non::_,_,h=>by cases h
 | .int _::_,_,h=>by cases h
 | .str _::_,_,h=>by cases h
 | .tup _::_,_,h=>by cases h
 | .lst _::_,_,h=>by cases h
 | .kst _::_,_,h=>by cases h
 | .dct _::_,_,h=>by cases h
@[simp] theorem ahd(bs:List Bool):aah (bs.map D.bl)=some bs:=by
 induction bs with
 | nil=>rfl
 | cons b r ih=>show(aah (r.map D.bl)).map (b :: ·)=_;rw[ih];rfl
def gAll:D->Option Rv
 | .lst l=>(aah l).map fun bs=>.v (.bl (bs.all id))
 | _=>none
theorem as5(hc:X.calm=true):CallD K X (.builtin "all") (g1 gAll):=cd_one fun hk qv s σ0 H x u Q tg F ρ σ d r I ru G bd eg q=>by
 subst hk;cases d with
 | lst l =>
  have eg:(aah l).map (fun bs=>Rv.v (.bl (bs.all id)))=some r:=eg
  cases e:aah l with
  | none=>rw[e] at eg;cases eg
  | some bs =>
   rw[e] at eg;cases eg;obtain⟨a,vs,rfl,ea,hl⟩:=bd.lst G.sub;rw[akr e] at hl;rw[hl.bl_inv] at ea;exact awb hc qv s σ0 H [.ref a] [u] Q I (.cons ru .nil) ⟨a,bs,rfl,SqL.of ea,Res.same G q (.bl _)⟩
 | _=>cases eg
def avv:D->Option Rv
 | .int i=>some (.v (.int i))
 | .bl k=>some (.v (.int (if k then 1 else 0)))
 | _=>none
theorem a4a:CallD K X (.type "int") (g1 avv):=cd_one fun hk qv s σ0 H x u Q tg F ρ σ d r I ru G bd eg q=>by
 cases d with
 | int i =>
  cases eg;obtain rfl:=bd.int;exact ako qv s σ0 H [_] [u] Q I (.cons ru .nil) (.inl ⟨i,rfl,Res.same G q (.int _)⟩)
 | bl k =>
  cases eg;obtain rfl:=bd.bl;exact ako qv s σ0 H [_] [u] Q I (.cons ru .nil) (.inr ⟨k,rfl,Res.same G q (.int _)⟩)
 | _=>cases eg
theorem aab:CallD K X (.type "tuple") (g1 fun d=>(itemsD d).map fun l=>.v (.tup l)):=cd_one fun hk qv s σ0 H x u Q tg F ρ σ d r I ru G bd eg q=>by
 subst hk;cases d with
 | tup l =>
  cases eg;obtain⟨a,vs,rfl,ea,hl⟩:=bd.tup;exact aac qv s σ0 H [_] [u] Q I (.cons ru .nil) ⟨a,vs,rfl,.inr ⟨SqT.of (G.sub _ _ ea),Res.same G q (.tup ea hl)⟩⟩
 | lst l =>
  cases eg;obtain⟨a,vs,rfl,ea,hl⟩:=bd.lst G.sub;exact aac qv s σ0 H [_] [u] Q I (.cons ru .nil) ⟨a,vs,rfl,.inl ⟨SqL.of ea,fun p hp=>Res.tup G q hl hp⟩⟩
 | kst l =>
  cases eg;obtain⟨a,vs,rfl,ea,hl⟩:=bd.kst;exact aac qv s σ0 H [_] [u] Q I (.cons ru .nil) ⟨a,vs,rfl,.inl ⟨L2.Same.seq G.sub ea,fun p hp=>Res.tup G q hl hp⟩⟩
 | _=>cases eg
theorem aeg:CallD K X (.type "list") (g1 fun d=>(itemsD d).map fun l=>.fr l):=cd_one fun hk qv s σ0 H x u Q tg F ρ σ d r I ru G bd eg q=>by
 subst hk;cases e:itemsD d with
 | none=>rw[e] at eg;cases eg
 | some l =>
  rw[e] at eg;cases eg;obtain⟨a,vs,rfl,hl,hs⟩:=ahu G.sub e bd;exact akm qv s σ0 H [_] [u] Q I (.cons ru .nil) ⟨a,vs,rfl,hs,fun p hp=>Res.lst G q hl hp⟩
theorem axj{f:D->D->Option Rv}{w:Value} (h:X.K=K->∀(qv:List (Addr×Obj)) (s:Shared) (σ0:L2.St) (H:Hp) (x y:V) (u v:Value) (Q:VK) (tg:Nat->Addr) (F:Hp) (ρ:Ro) (σ:L2.St) (d d':D) (r:Rv),Inv X qv σ0 H s->RelV x u->RelV y v->Good K tg F H ρ σ->Bor K F H d x->Bor K F H d' y->f d d'=some r->Res K tg F H ρ σ r Q ->
  wpAny (model X.prog X.w) X.A (call w [u,v]) (EP X qv σ0 Q) X.xe s):CallD K X w (g2 f):=CallD.mk fun hk=>by
 intro qv s σ0 H xs us Q I r z9;obtain⟨tg,F,ρ,σ,ds,rv,G,bl,eg,q⟩:=z9
 match ds,eg with
 | [d,d'],eg =>
  obtain⟨v,v',rfl,bv,bv'⟩:=bl.two;obtain⟨u,w,rfl,ru,rw'⟩:=vals2 r;exact h hk qv s σ0 H v v' u w Q tg F ρ σ d d' rv I ru rw' G bv bv' eg q
theorem a3z(hc:X.calm=true):CallD K X (.builtin "max") (g2 (gInt fun i j=>some (if j > i then j else i))):=axj fun hk qv s σ0 H x y u v Q tg F ρ σ d d' r I ru rv G bd bd' eg q=>by
 unfold gInt at eg;split at eg
 ·cases eg;obtain rfl:=bd.int;obtain rfl:=bd'.int;exact as7 hc qv s σ0 H [_,_] [u,v] Q I (.cons ru (.cons rv .nil)) ⟨_,_,rfl,Res.same G q (.int _)⟩
 ·cases eg
theorem akp:aei X (.builtin "divmod") (fun xs H Q=>∃i j,xs=[.int i,.int j]/\(0 < j/\j < 1000000000000000000000000000000000000000000000000000000000000)/\∀p,H p=none->Q (.ref p) (upd H p (.tup [.int (i / j),.int (i % j)]))):=by
 intro qv s σ H xs us Q I r h;obtain⟨i,j,rfl,hj,q⟩:=h;obtain⟨u,w',rfl,⟨t,rfl⟩,⟨t',rfl⟩⟩:=vals2 r;have h1:=hj.1;refine divmod_int (by omega) ?_ (.inl (a2c hj.1 hj.2))
 rw[Int.fdiv_eq_ediv_of_nonneg i (by omega),Int.fmod_eq_emod_of_nonneg i (by omega)]
 refine⟨.ref s.heap.objs.size,_,?_,rfl,q _ (I.hok.fresh (Nat.le_refl _))⟩;exact I.laid (fun b o e=>Heap.get?_push_of_some _ e) (Nat.le_refl _) ⟨by simp only[List.length_cons,List.length_nil];rw[sizeLine_eq];decide,[.int (i / j) s.toks,.int (i % j) (s.toks+1)],.cons ⟨_,rfl⟩ (.cons ⟨_,rfl⟩ .nil),⟨_,Heap.get?_push_size s.heap rfl,rfl,rfl,0,rfl⟩⟩
def ain:D->D->Option Rv
 | .int i,.int j=>if 0 < j/\j < 1000000000000000000000000000000000000000000000000000000000000 then some (.v (.tup [.int (i / j),.int (i % j)])) else none
 | _,_=>none
theorem as4:CallD K X (.builtin "divmod") (g2 ain):=axj fun hk qv s σ0 H x y u v Q tg F ρ σ d d' r I ru rv G bd bd' eg q=>by
 unfold ain at eg;split at eg
 ·split at eg
  ·rename_i hc;cases eg;obtain rfl:=bd.int;obtain rfl:=bd'.int;exact akp qv s σ0 H [_,_] [u,v] Q I (.cons ru (.cons rv .nil)) ⟨_,_,rfl,hc,fun p hp=>Res.tup G q (.cons (.int _) (.cons (.int _) .nil)) hp⟩
  ·cases eg
 ·cases eg
inductive Ty where
 | int | bool | tuple | list | str | dict
def Ty.nm:Ty->String
 | .int => "int" | .bool => "bool" | .tuple => "tuple" | .list => "list" | .str => "str" | .dict => "dict"
def tyD:D->Value
 | .non=>.type "NoneType"
 | .bl _=>.type "bool"
 | .int _=>.type "int"
 | .str _=>.type "str"
 | .tup _=>.type "tuple"
 | .lst _=>.type "list"
 | .kst _=>.type "list"
 | .dct _=>.type "dict"
 | .exn _ _=>.type "NoneType"
 | .dtt _=>.type "dict"
def isTy:Ty->D->Bool
 | .int,.int _=>true
 | .int,.bl _=>true
 | .bool,.bl _=>true
 | .tuple,.tup _=>true
 | .list,.lst _=>true
 | .list,.kst _=>true
 | .str,.str _=>true
 | .dict,.dct _=>true
 | .dict,.dtt _=>true
 | _,_=>false
theorem aw6(t:Ty)(d:D):PySem.W.kitOne K (tyD d) (.type t.nm)=some (isTy t d):=by
 cases d <;> cases t <;> kernel_rfl
theorem as8{X:Cx}:aei X (.builtin "isinstance") (fun xs H Q=>∃F d x t,xs=[x,.ty (Ty.nm t)]/\Same F H/\Bor X.K F H d x/\Q (.bl (isTy t d)) H):=by
 intro qv s σ H xs us Q I r z9;obtain⟨F,d,x,t,e,g,h,q⟩:=z9;subst e;obtain⟨u,w',rfl,r1,r2⟩:=vals2 r;obtain rfl:w'=Value.type t.nm:=r2;have fin:∀tk,EP X qv σ Q (.bool (isTy t d)) { s with toks:=tk }:=fun tk=>⟨.bl _,H,I.tok tk,rfl,q⟩
 have go:TyOf X.K H x (tyD d)->wpAny (model X.prog X.w) X.A (call (.builtin "isinstance") [u,.type t.nm]) (EP X qv σ Q) X.xe s:=fun ty=>arp I r1 ty (aw6 t d) fin
 cases d with
 | non=>obtain rfl:=h.non;exact go .non
 | bl b=>obtain rfl:=h.bl;exact go (.bl b)
 | int b=>obtain rfl:=h.int;exact go (.int b)
 | str b=>obtain rfl:=h.str;exact go (.str b)
 | tup b=>obtain⟨a,vs,rfl,e,_⟩:=h.tup;exact go (.tup (g _ _ e))
 | lst b=>obtain⟨a,vs,rfl,e,_⟩:=h.lst g;exact go (.lst e)
 | kst b =>
  obtain⟨a,vs,rfl,e,_⟩:=h.kst;cases(show u=Value.ref a from r1)
  obtain⟨its,_,pl,_⟩:=I.list (L2.Same.seq g e);obtain⟨o,ho,hc,n,hd⟩:=pl.isList;exact PySem.W.kia_one PySem.W.kitx_list I.kIn ⟨o,ho,hc⟩ (aw6 t (.kst b)) (fun z=>nomatch z) fin
 | dct b =>
  rcases h with h | ⟨a,vs,l',e1,_⟩
  ·cases h with
   | dct e h=>exact go (.dK (g _ _ e))
  ·cases e1
 | dtt b =>
  rcases h with h | ⟨a,vs,l',e1,_⟩
  ·cases h with
   | dtt e=>exact go (.dT (g _ _ e))
  ·cases e1
 | exn c fs =>
  rcases h with h | ⟨a,vs,l',e1,_⟩
  ·cases h with
   | @exn a C c dx fs e hc hk hf =>
    cases(show u=Value.ref a from r1)
    obtain⟨⟨oe,ws,h1,h2,h3,h4⟩,_⟩:=(show wu X.prog X.w H s.heap a (.ext (exO a C dx)) from I.hok a _ (g _ _ e))
    have hno:PySem.W.notCls oe=true:=by unfold PySem.W.notCls;rw[h4]
    have ia:∃ox od,PySem.W.InstAt s.heap a ox C od:=by
     rcases hf with⟨rfl,_⟩ | ⟨d,rfl,hd⟩
     ·exact⟨oe,none,h1,h2,hno,by rw[h3];trivial⟩
     ·obtain⟨mA,⟨od,_,_,e1,_⟩,_⟩:=(show wu X.prog X.w H s.heap d (.xd _) from I.hok d _ (g _ _ hd))
      exact⟨oe,some od,h1,h2,hno,by rw[h3];exact e1⟩
    have kq:PySem.W.kitOne X.K (.ref C) (.type t.nm)=some false:=by
     have h5:PySem.W.subIn X.K (.ref C) (.type t.nm)=some false:=hk.no _ (by cases t <;> simp[Ty.nm])
     have h6:PySem.W.kitMeta t.nm=true:=by cases t <;> kernel_rfl
     unfold PySem.W.kitOne PySem.W.kitCls;rw[if_neg (by simp)]
     show(if PySem.W.kitMeta t.nm=true then PySem.W.subIn X.K (.ref C) (.type t.nm) else none)=some false
     rw[if_pos h6];exact h5
    have e7:isTy t (.exn c fs)=false:=by cases t <;> rfl
    exact PySem.W.kia_one (avj hk) I.kIn ia kq (fun z=>nomatch z) fun tk=>e7▸fin tk
  ·cases e1
def mIsi(t:Ty)(m:M D):M D:=m.bind fun d=>ret (.bl (isTy t d))
theorem aha{t:Ty}{tn:Expr}{m:M D}{x:Str}(ht:PE X tn (tC (.ty t.nm)))(hg:Gl X x)(hm:X.mg x=none)(hv:bootBuiltins x=some (.builtin "isinstance"))(h:EB K X e m)(hn:x ≠ "__name__" := by decide)(hdb:(x==("__debug__" : Str))=false:=by decide)
  (h1:starEach [tn] X.env=(false,eval tn X.env)::starEach [] X.env:=by rfl) (he:starEach [e,tn] X.env=(false,eval e X.env)::starEach [tn] X.env:=by rfl) (hpl:(backTo pos (starEach [tn] X.env)).any (·.1)=false:=by rfl) :
  EV K X (.Call (.Name x p) [e,tn] [] pos) (mIsi t m):=EV.mk fun hk=>by
 refine PE.imp (am3 as8 hg hm hv (zq (h hk) (zq ht ajh h1) he) hn hdb he hpl) fun σ H Q z9 =>?_
 obtain⟨tg,F,ρ,d,ρ',G,em,q⟩:=z9;obtain⟨d1,ρ1,e1,em⟩:=au em;obtain⟨rfl,rfl⟩:=jh em;subst hk;exact⟨tg,F,ρ,d1,_,G,e1,fun v H' F' G' x bv=>⟨F',d1,v,t,rfl,G'.sub,bv,q _ H' F' G' x (.bl _)⟩⟩
def gIx(d i:D):Option Rv:=match i with
 | .int k=>(itemsD d).bind fun l=>(atI l k).map fun x=>.v x
 | _=>none
theorem a4h{F:Hp}{l:List D}{vs:List V}{k:Int}{d:D}(h:IsL K F l vs)(e:atI l k=some d):∃v,atI vs k=some v/\Is K F d v:=by
 unfold atI at e ⊢
 rw[h.length] at e;cases q:ixN vs.length k with
 | none=>rw[q] at e;cases e
 | some j =>
  rw[q] at e;obtain⟨v,e1,e2⟩:=h.get (i:=j) e;exact⟨v,e1,e2⟩
theorem ixd:X.K=K->IxR X (rOf K gIx):=fun hk=>by
 intro value slice qv s σ0 H x y v u Q I rx ry z9 hs;obtain⟨tg,F,ρ,σ,d1,d2,r,G,b1,b2,eg,q⟩:=z9;subst hk;cases d2 with
 | int k =>
  have eg:(itemsD d1).bind (fun l=>(atI l k).map fun x=>Rv.v x)=some r:=eg
  cases e:itemsD d1 with
  | none=>rw[e] at eg;cases eg
  | some l =>
   rw[e] at eg;have eg:(atI l k).map (fun x=>Rv.v x)=some r:=eg
   cases e2:atI l k with
   | none=>rw[e2] at eg;cases eg
   | some d =>
    rw[e2] at eg;cases eg;obtain⟨a,vs,rfl,hl,hq⟩:=ahu G.sub e b1;obtain rfl:=b2.int;obtain⟨z,hz,iz⟩:=a4h hl e2;rcases hq with hq | hq
    ·exact ay7 value slice qv s σ0 H _ _ v u Q I rx ry ⟨a,vs,k,z,rfl,rfl,hq,hz,Res.same G q iz⟩ hs
    ·exact a3a value slice qv s σ0 H _ _ v u Q I rx ry ⟨a,vs,k,z,rfl,rfl,hq,hz,Res.same G q iz⟩ hs
 | _=>cases eg
theorem my{m:M (D×D)}(h:E2 K X a b m)(hs:ami b):ER K X (.Subscript a b pos) (mOp gIx m):=ER.mk fun hk=>by
 obtain⟨ta,tb,ha,hb,h⟩:=h hk;exact PE.imp (a1k (ixd hk) ha hb hs) (am5 h)
def TOp(K:Fg9)(m:M (Option Int)):TO:=fun σ H Q=>∃tg F ρ o ρ',Good K tg F H ρ σ/\m ρ=some (.ok o,ρ')/\∀H' F',Good K tg F' H' ρ' σ->Ext (Own ρ σ) (Own ρ' σ) F H F' H'->Q o H'
structure EO (K:Fg9) (X:Cx) (e:Option Expr) (m:M (Option Int)):Prop where
 go:X.K=K->PO X e (TOp K m)
instance {K:Fg9} {X:Cx} {e:Option Expr} {m:M (Option Int)}:CoeFun (EO K X e m) fun _=>X.K=K->PO X e (TOp K m):=⟨EO.go⟩
theorem PO.imp{eo:Option Expr}{t t':TO}(h:PO X eo t)(w:∀σ H Q,t' σ H Q->t σ H Q):PO X eo t':=fun qv s σ H Q I q=>h qv s σ H Q I (w σ H Q q)
theorem azq:EO K X none (ret none):=EO.mk fun _=>PO.imp ayd fun σ H Q z9=>by
 obtain⟨tg,F,ρ,o,ρ',G,em,q⟩:=z9;obtain⟨rfl,rfl⟩:=jh em;exact q H F G (Ext.refl _ _ _)
def asI:D->Option Int
 | .int i=>some i
 | _=>none
theorem adq{d:D}{k:Int}(h:asI d=some k):d=.int k:=by
 cases d with
 | int b=>cases h;rfl
 | _=>cases h
def aq4(m:M D):M (Option Int):=m.bind fun d=>lift ((asI d).map some)
theorem ama{m:M D}(h:EV K X e m):EO K X (some e) (aq4 m):=EO.mk fun hk=>PO.imp (ayc (h hk)) fun σ H Q z9=>by
 obtain⟨tg,F,ρ,o,ρ',G,em,q⟩:=z9;obtain⟨d,ρ1,e1,em⟩:=au em;obtain⟨e2,rfl⟩:=fu em;refine⟨tg,F,ρ,d,_,G,e1,fun v H' F' G' x r =>?_⟩
 cases d with
 | int i =>
  cases e2;cases r;exact⟨i,rfl,q H' F' G' x⟩
 | _=>cases e2
def cutD(l:List D)(lo hi:Option Int):List D:=(l.drop (HT.sIx l.length 0 lo)).take (HT.sIx l.length l.length hi - HT.sIx l.length 0 lo)
theorem asq{F:Hp}{l:List D}{vs:List V}(h:IsL K F l vs)(lo hi:Option Int):IsL K F (cutD l lo hi) (cutV vs lo hi):=by
 unfold cutD cutV;rw[h.length];exact(h.drop _).take _
def gCut(d:D)(lo hi:Option Int):Option Rv:=match d with
 | .tup l=>some (.v (.tup (cutD l lo hi)))
 | .lst l=>some (.fr (cutD l lo hi))
 | .kst l=>some (.fr (cutD l lo hi))
 | _=>none
def rsOf(K:Fg9):V->Option Int->Option Int->Hp->VK->Prop:=fun x lo hi H Q=>∃tg F ρ σ d r,Good K tg F H ρ σ/\Bor K F H d x/\gCut d lo hi=some r/\Res K tg F H ρ σ r Q
theorem sld(hk:X.K=K):SlR X (rsOf K):=by
 intro qv s σ0 H x v vl vu lo hi sl Q I rx hs pl pu z9;obtain⟨tg,F,ρ,σ,d,r,G,bd,eg,q⟩:=z9;subst hk;cases d with
 | tup l =>
  cases eg;obtain⟨a,vs,rfl,ea,hl⟩:=bd.tup
  by_cases hw:HT.sIx vs.length 0 lo=0/\HT.sIx vs.length vs.length hi=vs.length
  ·have ec:cutD l lo hi=l:=by
    unfold cutD;rw[hl.length,hw.1,hw.2,List.drop_zero,Nat.sub_zero,<-hl.length,List.take_length]
   rw[ec] at q;cases rx;obtain⟨its,r,ht,hz⟩:=I.tuple (SqT.of (G.sub _ _ ea));have hlen:its.toArray.size=vs.length:=by rw[List.size_toArray];exact r.length.symm
   refine⟨"tuple", _,PyProof.Rows.slot_tuple_getitem.lookup,ht.typeIs,?_⟩;exact acb ht hs pl pu (by rw[hlen];exact hw.1) (by rw[hlen];exact hw.2) ⟨.ref a,H,I,rfl,Res.same G q (.tup ea hl)⟩
  ·exact a0w qv s σ0 H _ v vl vu lo hi sl Q I rx hs pl pu ⟨a,vs,rfl,SqT.of (G.sub _ _ ea),hw,fun p hp=>Res.tup G q (asq hl lo hi) hp⟩
 | lst l =>
  cases eg;obtain⟨a,vs,rfl,ea,hl⟩:=bd.lst G.sub;exact aqa qv s σ0 H _ v vl vu lo hi sl Q I rx hs pl pu ⟨a,vs,rfl,SqL.of ea,fun p hp=>Res.lst G q (asq hl lo hi) hp⟩
 | kst l =>
  cases eg;obtain⟨a,vs,rfl,ea,hl⟩:=bd.kst;exact aqa qv s σ0 H _ v vl vu lo hi sl Q I rx hs pl pu ⟨a,vs,rfl,L2.Same.seq G.sub ea,fun p hp=>Res.lst G q (asq hl lo hi) hp⟩
 | _=>cases eg
def au9(i:Nat)(ml mh:M (Option Int)):M Rv:=(di i).bind fun _=>ml.bind fun lo=>mh.bind fun hi=>(di i).bind fun d=>lift (gCut d lo hi)
theorem ase{i:Nat}{ml mh:M (Option Int)}{lo hi:Option Expr}(h:PE X a (tVar i))(hl:EO K X lo ml)(hh:EO K X hi mh):ER K X (.Subscript a (.Slice lo hi none p2) pos) (au9 i ml mh):=ER.mk fun hk=>PE.imp (aun (sld hk) h (hl hk) (hh hk)) fun σ H Q z9=>by
 obtain⟨tg,F,ρ,r,ρ',G,em,q⟩:=z9;obtain⟨d0,ρ0,e0,em⟩:=au em;obtain⟨o1,ρ2,e2,em⟩:=au em;obtain⟨o2,ρ3,e3,em⟩:=au em;obtain⟨d,ρ4,e1,em⟩:=au em;obtain⟨e4,rfl⟩:=fu em;obtain⟨rfl,v,hv,_⟩:=uh G e0;refine⟨v,hv,tg,F,ρ0,o1,ρ2,G,e2,fun H2 F2 G2 x2=>⟨tg,F2,ρ2,o2,_,G2,e3,fun H3 F3 G3 x3 =>?_⟩⟩
 obtain⟨rfl,v',hv',b'⟩:=uh G3 e1;rw[hv] at hv';cases hv';exact⟨tg,F3,_,σ,d,r,G3,b',e4,fun v' H4 F4 G4 x4 rr=>q v' H4 F4 G4 ((x2.trans x3).trans x4) (yj (x2.trans x3) rr)⟩
end
inductive Fl where
 | nx | ret (r:Rv) | brk | cont | exc (x:Exn)
abbrev Sd:=Ro->Option (Fl×Ro)
section
variable{K:Fg9}{X:Cx}{e a b c tgt:Expr}{es:List Expr}{pos p p2:Pos}{st:Stmt}{ss:List Stmt}
def FlOk(K:Fg9)(tg:Nat->Addr)(ρ:Ro)(σ:L2.St)(F H:Hp)(E:Ends)(fl:Fl)(ρ':Ro):Prop:=match fl with
 | .nx=>∀σ' H' F',Good K tg F' H' ρ' σ'->Ext (Own ρ σ) (Own ρ' σ') F H F' H'->E.nx σ' H'
 | .brk=>∀σ' H' F',Good K tg F' H' ρ' σ'->Ext (Own ρ σ) (Own ρ' σ') F H F' H'->E.bk σ' H'
 | .cont=>∀σ' H' F',Good K tg F' H' ρ' σ'->Ext (Own ρ σ) (Own ρ' σ') F H F' H'->E.ct σ' H'
 | .ret r=>∀v σ' H' F',Good K tg F' H' ρ' σ'->Ext (Own ρ σ) (Own ρ' σ') F H F' H'->relR K r v H (Own ρ σ) F' H' (Own ρ' σ')->E.rt v H'
 | .exc _=>False
def TSd(K:Fg9)(g:Sd):TS:=fun E σ H=>∃tg F ρ fl ρ',Good K tg F H ρ σ/\g ρ=some (fl,ρ')/\FlOk K tg ρ σ F H E fl ρ'
structure SV (K:Fg9) (X:Cx) (st:Stmt) (g:Sd):Prop where
 go:X.K=K->PS X st (TSd K g)
instance {K:Fg9} {X:Cx} {st:Stmt} {g:Sd}:CoeFun (SV K X st g) fun _=>X.K=K->PS X st (TSd K g):=⟨SV.go⟩
structure SVs (K:Fg9) (X:Cx) (ss:List Stmt) (g:Sd):Prop where
 go:X.K=K->PSs X ss (TSd K g)
instance {K:Fg9} {X:Cx} {ss:List Stmt} {g:Sd}:CoeFun (SVs K X ss g) fun _=>X.K=K->PSs X ss (TSd K g):=⟨SVs.go⟩
theorem PS.imp{t t':TS}(h:PS X st t)(w:∀E σ H,t' E σ H->t E σ H):PS X st t':=fun qv s σ H E I q=>h qv s σ H E I (w E σ H q)
theorem PSs.imp{t t':TS}(h:PSs X ss t)(w:∀E σ H,t' E σ H->t E σ H):PSs X ss t':=fun qv s σ H E I q=>h qv s σ H E I (w E σ H q)
theorem FlOk.back{tg:Nat->Addr}{ρ ρ1 ρ':Ro}{σ σ1:L2.St}{F H F1 H1:Hp}{E:Ends}{fl:Fl}(x:Ext (Own ρ σ) (Own ρ1 σ1) F H F1 H1)(h:FlOk K tg ρ σ F H E fl ρ'):FlOk K tg ρ1 σ1 F1 H1 E fl ρ':=by
 cases fl with
 | nx=>exact fun σ' H' F' G' x'=>h σ' H' F' G' (x.trans x')
 | brk=>exact fun σ' H' F' G' x'=>h σ' H' F' G' (x.trans x')
 | cont=>exact fun σ' H' F' G' x'=>h σ' H' F' G' (x.trans x')
 | ret r=>exact fun v σ' H' F' G' x' rr=>h v σ' H' F' G' (x.trans x') (yj x rr)
 | exc _=>exact h
def dNx:Sd:=fun ρ=>some (.nx,ρ)
noncomputable def dSeq(g k:Sd):Sd:=fun ρ=>match g ρ with
 | some (.nx,ρ1)=>k ρ1
 | r=>r
theorem kj:SVs K X [] dNx:=SVs.mk fun _=>PSs.imp aql fun E σ H z9=>by
 obtain⟨tg,F,ρ,fl,ρ',G,em,q⟩:=z9;cases em;exact q σ H F G (Ext.refl _ _ _)
theorem aq{g:Sd}(h:SV K X st g):SVs K X [st] g:=SVs.mk fun hk=>ah2 (h hk)
theorem ak{g k:Sd}(h:SV K X st g)(t:SVs K X ss k):SVs K X (st::ss) (dSeq g k):=SVs.mk fun hk=>PSs.imp (lr (h hk) (t hk)) fun E σ H z9=>by
 obtain⟨tg,F,ρ,fl,ρ',G,em,q⟩:=z9;unfold dSeq at em;split at em
 ·rename_i ρ1 e1;exact⟨tg,F,ρ,.nx,ρ1,G,e1,fun σ' H' F' G' x=>⟨tg,F',ρ1,fl,ρ',G',em,q.back x⟩⟩
 ·rename_i hn;refine⟨tg,F,ρ,fl,ρ',G,em,?_⟩;cases fl with
  | nx=>exact absurd em (hn ρ')
  | brk=>exact q
  | cont=>exact q
  | ret r=>exact q
  | exc _=>exact q
theorem ahm:SV K X st (fun _=>none):=SV.mk fun _=>PS.imp auj fun E σ H ⟨tg,F,ρ,fl,ρ',G,em,q⟩=>by cases em
noncomputable def dM{α:Type}(m:M α)(k:α->Sd):Sd:=fun ρ=>match m ρ with
 | some (.ok x,ρ1)=>k x ρ1
 | some (.exc x,ρ1)=>some (.exc x,ρ1)
 | none=>none
theorem qu{α:Type}{m:M α}{k:α->Sd}{ρ ρ':Ro}{fl:Fl}{P:Prop}(h:dM m k ρ=some (fl,ρ'))(hx:FlOk K tg ρ0 σ0 F0 H0 E0' fl ρ')(go:∀x ρ1,m ρ=some (.ok x,ρ1)->k x ρ1=some (fl,ρ')->P):P:=by
 unfold dM at h;split at h
 ·exact go _ _ (by assumption) h
 ·cases h;exact(show False from hx).elim
 ·cases h
noncomputable def dRet(m:M Rv):Sd:=dM m fun r ρ=>some (.ret r,ρ)
theorem du{m:M Rv}(h:ER K X e m):SV K X (.Return (some e) pos) (dRet m):=SV.mk fun hk=>PS.imp (awt (h hk)) fun E σ H ⟨tg,F,ρ,fl,ρ',G,em,q⟩=>qu em q fun r ρ1 e1 em=>by
 cases em;exact⟨tg,F,ρ,r,_,G,e1,fun v H' F' G' x rr=>q v σ H' F' G' x rr⟩
noncomputable def dIf(m:M Bool)(g k:Sd):Sd:=dM m fun z=>if z=true then g else k
theorem aak{m:M Bool}{g k:Sd}{ss':List Stmt}(h:ET K X c m)(h1:SVs K X ss g)(h2:SVs K X ss' k):SV K X (.If c ss ss' pos) (dIf m g k):=SV.mk fun hk=>PS.imp (a6l (h hk) (h1 hk) (h2 hk)) fun E σ H ⟨tg,F,ρ,fl,ρ',G,em,q⟩=>qu em q fun z ρ1 e1 em=>by
 refine⟨tg,F,ρ,z,ρ1,G,e1,fun H' F' G' x =>?_⟩
 cases z with
 | true=>exact iteT ⟨tg,F',ρ1,fl,ρ',G',em,q.back x⟩
 | false=>exact iteF ⟨tg,F',ρ1,fl,ρ',G',em,q.back x⟩
def adm{α:Type}(m:M α):Sd:=dM m fun _ ρ=>some (.nx,ρ)
theorem ul{m:M Rv}(h:ER K X e m)(hs:swapsWith e none pos.line X.env=pure false:=by rfl):SV K X (.Expr e pos) (adm m):=SV.mk fun hk=>PS.imp (aln (h hk) hs) fun E σ H ⟨tg,F,ρ,fl,ρ',G,em,q⟩=>qu em q fun r ρ1 e1 em=>by
 cases em;exact⟨tg,F,ρ,r,_,G,e1,fun v H' F' G' x rr=>q σ H' F' G' x⟩
section
variable{tg:Nat->Addr}{F H:Hp}{ρ:Ro}{σ:L2.St}
theorem ae9{i:Nat}{s:Sl}{v:V}{b:Addr}(hl:ρ.length=σ.length)(h:Own (List.set ρ i s) (List.set σ i (some v)) b):Own ρ σ b∨((∃t l,s=.own t l)/\v=.ref b):=by
 obtain⟨j,⟨t,l,e⟩,q⟩:=h;rw[List.getElem?_set] at e q
 by_cases hj:i=j
 ·subst hj;rw[if_pos rfl] at e q;split at e
  ·rename_i hi;rw[if_pos (by rw[<-hl];exact hi)] at q
   cases e;cases q;exact .inr ⟨⟨t,l,rfl⟩,rfl⟩
  ·cases e
 ·rw[if_neg hj] at e q;exact .inl ⟨j,⟨t,l,e⟩,q⟩
theorem Good.put(G:Good K tg F H ρ σ){s:Sl}{v:V}(i:Nat)(h:SlOk K tg F H s (some v))(n:∀t l a,s=.own t l->v=.ref a->¬Own ρ σ a):Good K tg F H (List.set ρ i s) (List.set σ i (some v)) where
 sub:=G.sub
 len:=by rw[List.length_set,List.length_set];exact G.len
 sl:=fun j s' o e q=>by
  rw[List.getElem?_set] at e q
  by_cases hj:i=j
  ·subst hj;rw[if_pos rfl] at e q;split at e
   ·rename_i hi;rw[if_pos (by rw[<-G.len];exact hi)] at q
    cases e;cases q;exact h
   ·cases e
  ·rw[if_neg hj] at e q;exact G.sl j s' o e q
 inj:=fun j k a ⟨⟨t,l,e⟩,q⟩ ⟨⟨t',l',e'⟩,q'⟩=>by
  rw[List.getElem?_set] at e q e' q'
  by_cases hj:i=j
  ·subst hj;rw[if_pos rfl] at e q
   by_cases hk:i=k
   ·exact hk
   ·rw[if_neg hk] at e' q';split at e
    ·rename_i hi;rw[if_pos (by rw[<-G.len];exact hi)] at q
     cases e;cases q;exact absurd ⟨k,⟨t',l',e'⟩,q'⟩ (n t l a rfl rfl)
    ·cases e
  ·rw[if_neg hj] at e q
   by_cases hk:i=k
   ·subst hk;rw[if_pos rfl] at e' q';split at e'
    ·rename_i hi;rw[if_pos (by rw[<-G.len];exact hi)] at q'
     cases e';cases q';exact absurd ⟨j,⟨t,l,e⟩,q⟩ (n t' l' a rfl rfl)
    ·cases e'
   ·rw[if_neg hk] at e' q';exact G.inj j k a ⟨⟨t,l,e⟩,q⟩ ⟨⟨t',l',e'⟩,q'⟩
def Rv.sl:Rv->Sl
 | .v d=>.val d
 | .fr l=>.own none l
 | .tf _ _=>.emp
theorem Good.store{F0 H0:Hp}{O:Addr->Prop}(G:Good K tg F H ρ σ)(x:Ext O (Own ρ σ) F0 H0 F H){r:Rv}{v:V}(i:Nat)(h:relR K r v H0 O F H (Own ρ σ)) :
  Good K tg F H (List.set ρ i r.sl) (List.set σ i (some v))/\Ext O (Own (List.set ρ i r.sl) (List.set σ i (some v))) F0 H0 F H:=by
 cases r with
 | v d =>
  refine⟨G.put i ⟨v,rfl,h⟩ (fun t l a e=>by cases e),x.sub,x.new,x.keep,fun b w =>?_,x.there⟩
  rcases ae9 G.len w with w | ⟨⟨t,l,e⟩,_⟩
  ·exact x.own b w
  ·cases e
 | fr l =>
  obtain⟨a,vs,rfl,ha,hf,hh,hl,hn⟩:=h;refine⟨G.put i ⟨a,vs,rfl,hf,hh,hl,fun k e=>by cases e⟩ (fun t l' b _ e2=>by cases e2;exact hn),x.sub,x.new,x.keep,fun b w =>?_,x.there⟩
  rcases ae9 G.len w with w | ⟨_,e⟩
  ·exact x.own b w
  ·cases e;exact ha.symm
 | tf d l =>
  refine⟨G.put i trivial (fun t l a e=>by cases e),x.sub,x.new,x.keep,fun b w =>?_,x.there⟩
  rcases ae9 G.len w with w | ⟨⟨t,l,e⟩,_⟩
  ·exact x.own b w
  ·cases e
end
def dSet(i:Nat)(m:M Rv):Sd:=dM m fun r ρ=>some (.nx,List.set ρ i r.sl)
theorem gw{i:Nat}{x:Str}{m:M Rv}(hN:X.N.Nodup)(hi:X.N[i]? = some x)(hx:Loc X.env.scope x)(h:ER K X e m)(hs:swapsWith e (some (.Name x p)) pos.line X.env=pure false:=by rfl)(hf:X.fn x=true∨X.env.scope.names.lookup x=some .local:=by first | exact .inl rfl | exact .inr rfl | assumption) :
  SV K X (.Assign [.Name x p] e pos) (dSet i m):=SV.mk fun hk=>PS.imp (ag0 hN hi hx (h hk) hs hf) fun E σ H ⟨tg,F,ρ,fl,ρ',G,em,q⟩=>qu em q fun r ρ1 e1 em=>by
 cases em;refine⟨tg,F,ρ,r,ρ1,G,e1,fun v H' F' G' x rr =>?_⟩
 obtain⟨G2,x2⟩:=G'.store x i rr;exact q _ H' F' G2 x2
def TGd(K:Fg9)(b:D->Ro->Option Ro):TG:=fun v σ H Q=>∃tg F ρ d ρ',Good K tg F H ρ σ/\Is K F d v/\b d ρ=some ρ'/\∀σ' H' F',Good K tg F' H' ρ' σ'->Ext (Own ρ σ) (Own ρ' σ') F H F' H'->Q σ' H'
structure GV (K:Fg9) (X:Cx) (e:Expr) (b:D->Ro->Option Ro):Prop where
 go:X.K=K->PG X e (TGd K b)
instance {K:Fg9} {X:Cx} {e:Expr} {b:D->Ro->Option Ro}:CoeFun (GV K X e b) fun _=>X.K=K->PG X e (TGd K b):=⟨GV.go⟩
theorem PG.imp{t t':TG}(h:PG X e t)(w:∀v σ H Q,t' v σ H Q->t v σ H Q):PG X e t':=fun qv s σ H v u Q I r q=>h qv s σ H v u Q I r (w v σ H Q q)
def bj(i:Nat):D->Ro->Option Ro:=fun d ρ=>some (List.set ρ i (.val d))
theorem Good.storeV{tg:Nat->Addr}{F H:Hp}{ρ:Ro}{σ:L2.St}(G:Good K tg F H ρ σ){d:D}{v:V}(i:Nat)(h:Is K F d v):Good K tg F H (List.set ρ i (.val d)) (List.set σ i (some v))/\Ext (Own ρ σ) (Own (List.set ρ i (.val d)) (List.set σ i (some v))) F H F H :=
 G.store (r:=.v d) (Ext.refl _ _ _) i h
theorem bu{i:Nat}{x:Str}(hN:X.N.Nodup)(hi:X.N[i]? = some x)(hx:Loc X.env.scope x)(hf:X.fn x=true∨X.env.scope.names.lookup x=some .local:=by first | exact .inl rfl | exact .inr rfl | assumption):GV K X (.Name x pos) (bj i):=GV.mk fun _=>PG.imp (alp hN hi hx hf) fun v σ H Q z9=>by
 obtain⟨tg,F,ρ,d,ρ',G,h,em,q⟩:=z9;cases em;obtain⟨G2,x2⟩:=G.storeV i h;exact q _ H F G2 x2
def TGsd(K:Fg9)(b:List D->Ro->Option Ro):TGs:=fun vs σ H Q=>∃tg F ρ ds ρ',Good K tg F H ρ σ/\IsL K F ds vs/\b ds ρ=some ρ'/\∀σ' H' F',Good K tg F' H' ρ' σ'->Ext (Own ρ σ) (Own ρ' σ') F H F' H'->Q σ' H'
structure GVs (K:Fg9) (X:Cx) (es:List Expr) (b:List D->Ro->Option Ro):Prop where
 go:X.K=K->PGs X es (TGsd K b)
instance {K:Fg9} {X:Cx} {es:List Expr} {b:List D->Ro->Option Ro}:CoeFun (GVs K X es b) fun _=>X.K=K->PGs X es (TGsd K b):=⟨GVs.go⟩
theorem PGs.imp{t t':TGs}(h:PGs X es t)(w:∀v σ H Q,t' v σ H Q->t v σ H Q):PGs X es t':=fun qv s σ H v u Q I r q=>h qv s σ H v u Q I r (w v σ H Q q)
def bNil:List D->Ro->Option Ro:=fun ds ρ=>match ds with
 | []=>some ρ
 | _=>none
def jg(b:D->Ro->Option Ro)(bs:List D->Ro->Option Ro):List D->Ro->Option Ro:=fun ds ρ=>match ds with
 | d::r=>(b d ρ).bind (bs r)
 | _=>none
theorem xm:GVs K X [] bNil:=GVs.mk fun _=>PGs.imp aqu fun vs σ H Q z9=>by
 obtain⟨tg,F,ρ,ds,ρ',G,h,em,q⟩:=z9;cases ds with
 | nil=>cases em;cases h;exact⟨rfl,q σ H F G (Ext.refl _ _ _)⟩
 | cons _ _=>cases em
theorem gm{b:D->Ro->Option Ro}{bs:List D->Ro->Option Ro}(h1:GV K X e b)(h2:GVs K X es bs)(hs:(assignEach (e::es) X.env).map (·.2)=assign e X.env::(assignEach es X.env).map (·.2):=by rfl):GVs K X (e::es) (jg b bs):=GVs.mk fun hk=>PGs.imp (ah5 (h1 hk) (h2 hk) hs) fun vs σ H Q z9=>by
 obtain⟨tg,F,ρ,ds,ρ',G,h,em,q⟩:=z9;cases h with
 | nil=>cases em
 | @cons d v ds vs hd ht =>
  have em:(b d ρ).bind (bs ds)=some ρ':=em;cases e1:b d ρ with
  | none=>rw[e1] at em;cases em
  | some ρ1 =>
   rw[e1] at em;exact⟨v,vs,rfl,tg,F,ρ,d,ρ1,G,hd,e1,fun σ' H' F' G' x=>⟨tg,F',ρ1,ds,ρ',G',ht.mono x.sub,em,fun σ2 H2 F2 G2 x2=>q σ2 H2 F2 G2 (x.trans x2)⟩⟩
def bTup(n:Nat)(bs:List D->Ro->Option Ro):D->Ro->Option Ro:=fun d ρ=>match d with
 | .tup l=>if l.length=n then bs l ρ else none
 | _=>none
theorem abw{k n:Nat}{bs:List D->Ro->Option Ro}(hc:X.calm=true)(h:GVs K X es bs)(hn:(assignEach es X.env).length=n:=by rfl)(hst:(assignEach es X.env).findIdx? (·.1)=none:=by rfl):GV K X (.Tuple es k pos) (bTup n bs):=GV.mk fun hk=>PG.imp (aww hc (h hk) hn hst) fun v σ H Q z9=>by
 obtain⟨tg,F,ρ,d,ρ',G,hd,em,q⟩:=z9;cases hd with
 | @tup a vs ds e hl =>
  have em:(if ds.length=n then bs ds ρ else none)=some ρ':=em
  split at em
  ·rename_i hz;exact⟨a,vs,rfl,SqT.of (G.sub _ _ e),by rw[<-hl.length];exact hz,tg,F,ρ,ds,ρ',G,hl,em,q⟩
  ·cases em
 | _=>cases em
def dAsg(m:M D)(b:D->Ro->Option Ro):Sd:=dM m fun d ρ=>(b d ρ).map fun ρ'=>(.nx,ρ')
theorem awp{m:M D}{b:D->Ro->Option Ro}(h:EV K X e m)(hg:GV K X tgt b)(hs:swapsWithSole [tgt] e pos.line X.env=pure false:=by rfl)(hw:swappedStores [tgt] e X.env=pure none:=by rfl)
  (h1:(assignEach [tgt] X.env).map (·.2)=[assign tgt X.env]:=by rfl):SV K X (.Assign [tgt] e pos) (dAsg m b):=SV.mk fun hk=>PS.imp (am0 (h hk) (hg hk) hs hw h1) fun E σ H ⟨tg,F,ρ,fl,ρ',G,em,q⟩=>qu em q fun d ρ1 e1 em=>by
 refine⟨tg,F,ρ,d,ρ1,G,e1,fun v H' F' G' x r =>?_⟩
 cases e2:b d ρ1 with
 | none=>rw[e2] at em;cases em
 | some ρ2 =>
  rw[e2] at em;cases em;exact⟨tg,F',ρ1,d,_,G',r,e2,fun σ2 H2 F2 G2 x2=>q σ2 H2 F2 G2 (x.trans x2)⟩
theorem Good.mut{tg:Nat->Addr}{F H:Hp}{ρ:Ro}{σ:L2.St}(G:Good K tg F H ρ σ){i:Nat}{t:Option Nat}{l l':List D}{a:Addr}{ys:List V}(e:(ρ:List Sl)[i]? = some (.own t l))(q:σ[i]? = some (some (.ref a)))(h:IsL K F l' ys) :
  Good K tg F (upd H a (.lst ys)) (List.set ρ i (.own t l')) σ/\Ext (Own ρ σ) (Own (List.set ρ i (.own t l')) σ) F H F (upd H a (.lst ys)):=by
 obtain⟨a',vs,e1,hf,hh,hl,ht⟩:=G.sl i _ _ e q;cases e1;have ow:∀j b,Owns (List.set ρ i (.own t l')) σ j b->Owns ρ σ j b:=fun j b ⟨⟨t2,l2,e2⟩,q2⟩=>by
  rw[List.getElem?_set] at e2
  by_cases hj:i=j
  ·subst hj;exact⟨⟨t,l,e⟩,q2⟩
  ·rw[if_neg hj] at e2;exact⟨⟨t2,l2,e2⟩,q2⟩
 have me:Own ρ σ a:=⟨i,⟨t,l,e⟩,q⟩;refine⟨⟨fun b o z =>?_,by rw[List.length_set];exact G.len,fun j s o e2 q2 =>?_,fun j k b w1 w2=>G.inj j k b (ow _ _ w1) (ow _ _ w2)⟩,Same.refl F,fun _ _ z=>.inl z,fun b o z n =>?_,fun b ⟨j,w⟩=>.inl ⟨j,ow j b w⟩,fun b z =>?_⟩
 ·have hb:b≠a:=fun z2=>by
   subst z2;rw[hf] at z;cases z
  rw[bc hb];exact G.sub b o z
 ·rw[List.getElem?_set] at e2
  by_cases hj:i=j
  ·subst hj;rw[if_pos rfl] at e2;split at e2
   ·cases e2;rw[q] at q2;cases q2;exact⟨a,ys,rfl,hf,dh,h,ht⟩
   ·cases e2
  ·rw[if_neg hj] at e2;have z:=G.sl j s o e2 q2;cases s with
   | emp=>trivial
   | val d=>exact z
   | lol ts=>exact z
   | lnk k=>exact z
   | box c fs =>
    obtain⟨b,C,dx,fvs,e1,e2,e3,e4⟩:=z;have hb:b≠a:=fun z2=>by
     subst z2;rw[e3] at hh;cases hh
    exact⟨b,C,dx,fvs,e1,e2,by rw[bc hb];exact e3,e4⟩
   | own t2 l2 =>
    obtain⟨b,ws,e3,hf3,hh3,hl3,ht3⟩:=z;have hb:b≠a:=fun z2=>by
     subst z2;exact hj (G.inj i j b ⟨⟨t,l,e⟩,q⟩ ⟨⟨t2,l2,e2⟩,by rw[q2,e3]⟩)
    exact⟨b,ws,e3,hf3,by rw[bc hb];exact hh3,hl3,ht3⟩
 ·have hb:b≠a:=fun z2=>n (z2▸me)
  rw[bc hb];exact z
 ·by_cases hb:b=a
  ·subst hb;rw[dh] at z;cases z
  ·rw[bc hb] at z;exact z
def mOwn(i:Nat):M (List D):=fun ρ=>match ρ[i]? with
 | some (.own _ l)=>some (.ok l,ρ)
 | _=>none
theorem afa{tg:Nat->Addr}{F H:Hp}{ρ ρ':Ro}{σ:L2.St}(G:Good K tg F H ρ σ){i:Nat}{l:List D}(em:mOwn i ρ=some (.ok l,ρ')):ρ'=ρ/\∃t a xs,(ρ:List Sl)[i]? = some (.own t l)/\σ[i]? = some (some (.ref a))/\H a=some (.lst xs)/\IsL K F l xs:=by
 unfold mOwn at em;split at em
 ·rename_i t l' e';cases em;obtain⟨o,ho,a,vs,rfl,hf,hh,hl,_⟩:=G.at e';exact⟨rfl,t,a,vs,e',ho,hh,hl⟩
 ·cases em
def ac0(i:Nat)(l':List D):M Unit:=fun ρ=>match ρ[i]? with
 | some (.own t _)=>some (.ok (),List.set ρ i (.own t l'))
 | _=>none
def mMut(i:Nat)(g:List D->List D->Option (D×List D))(ms:M (List D)):M D:=(mOwn i).bind fun _=>ms.bind fun ds=>(mOwn i).bind fun l=>(lift (g l ds)).bind fun r=>(ac0 i r.2).bind fun _=>ret r.1
def MutD(K:Fg9)(r:V->List V->Hp->VK->Prop)(g:List D->List D->Option (D×List D)):Prop :=
 ∀(F H:Hp) (a:Addr) (xs vs:List V) (l ds:List D) (d:D) (l':List D) (Q:VK),Same F H->H a=some (.lst xs)->xs.length<=capS->IsL K F l xs->IsL K F ds vs->g l ds=some (d,l')->(∀v ys,Is K F d v->IsL K F l' ys->Q v (upd H a (.lst ys)))->r (.ref a) vs H Q
theorem alw{tg:Nat->Addr}{F H:Hp}{ρ ρ2:Ro}{σ:L2.St}(G:Good K tg F H ρ σ){i:Nat}{l':List D}{u:Unit}{a:Addr}{ys:List V}(e:ac0 i l' ρ=some (.ok u,ρ2))(q:σ[i]? = some (some (.ref a)))(h:IsL K F l' ys) :
  Good K tg F (upd H a (.lst ys)) ρ2 σ/\Ext (Own ρ σ) (Own ρ2 σ) F H F (upd H a (.lst ys)):=by
 unfold ac0 at e;split at e
 ·rename_i t l e';cases e;exact G.mut e' q h
 ·cases e
theorem af0{i:Nat}{name:Str}{id:String}{r:V->List V->Hp->VK->Prop}{g:List D->List D->Option (D×List D)}{ms:M (List D)}{apos cpos:Pos}(hr:MutD K r g)(slot:Slot "list" name id)(hty:typeOf (.builtin id)=pure (.type "method_descriptor"))(hm:MtR X id r)(ho:PE X a (tVar i))(ha:ED K X (e::es) ms)
  (hbase:attributeBase a name X.env (eval a X.env)=eval a X.env:=by rfl)
  (hfew:((backTo cpos (starEach (e::es) X.env)).all (fun x => !x.1)&&(backToKw cpos (keywordEach [] X.env)).all (fun x=>x.1.isSome)
   && decide ((e::es).length+([]:List Keyword).length+(if ([]:List Keyword).isEmpty then 0 else 1) < 30))=true:=by rfl)
  (hline:(apos.endLine==cpos.line)=true:=by rfl) (hs:starEach (e::es) X.env=(false,eval e X.env)::starEach es X.env:=by rfl) (hplain:(backTo cpos (starEach es X.env)).any (·.1)=false:=by rfl) :
  EV K X (.Call (.Attribute a name apos) (e::es) [] cpos) (mMut i g ms):=EV.mk fun hk=>by
 intro qv s σ H Q I z9;obtain⟨tg,F,ρ,d,ρ',G,em,q⟩:=z9;obtain⟨l0,ρ0,e0,em1⟩:=au em;obtain⟨ds,ρ1,e1,em2⟩:=au em1;obtain⟨l,ρ2,e2,em3⟩:=au em2;obtain⟨x,ρ3,e3,em4⟩:=au em3;obtain⟨u,ρ4,e4,em5⟩:=au em4;obtain⟨rfl,rfl⟩:=jh em5;obtain⟨eg,rfl⟩:=fu e3;obtain⟨rfl,t0,b,xs0,es0,hv,hh0,hl0⟩:=afa G e0;refine ayn (r:=fun x vs H Q=>(∀b xs,x=.ref b->H b=some (.lst xs)->xs.length<=capS)->r x vs H Q) PySem.F.plainAttrs_list slot hty (fun qv s σ H x xs v us Q I rx rv h=>hm qv s σ H x xs v us Q I rx rv (h fun b xs _ hb =>?_)) ho (ha hk) hbase hfew hline hs hplain qv s σ H Q I ?_
 ·obtain⟨z,_⟩:=I.lstM hb;rw[sizeLine_eq] at z;exact z
 refine⟨_,hv,.inl ⟨rfl,_,SqL.of hh0⟩,tg,F,ρ0,ds,ρ1,G,e1,fun vs H1 F1 G1 x1 r1 cap =>?_⟩
 obtain⟨rfl,t,a',xs,es',hv',hh,hl⟩:=afa G1 e2;rw[hv] at hv';cases hv';refine hr F1 H1 _ xs vs l ds x.1 x.2 Q G1.sub hh (cap _ _ rfl hh) hl r1 eg fun w ys iw il =>?_
 obtain⟨G2,x2⟩:=alw G1 e4 hv il;exact q w _ F1 G2 (x1.trans x2) iw
def vy(l ds:List D):Option (D×List D):=match ds with
 | [d]=>if l.length < capS then some (.non,l++[d]) else none
 | _=>none
theorem qm:MutD K aqj vy:=by
 intro F H a xs vs l ds d l' Q g hh hc hl hd eg q
 match ds,eg with
 | [d1],eg =>
  have eg:(if l.length < capS then some (D.non,l++[d1]) else none)=some (d,l'):=eg
  split at eg
  ·rename_i hz;cases eg;cases hd with
   | cons h t =>
    cases t;exact⟨a,xs,_,rfl,rfl,hh,by rw[sizeLine_eq,<-hl.length];exact hz,q _ _ .non (hl.append (.cons h .nil))⟩
  ·cases eg
def dSub(i:Nat)(mi m:M D):Sd:=dM m fun d=>dM (mOwn i) fun _=>dM mi fun k=>dM (mOwn i) fun l=>dM (lift ((asI k).bind (ixN l.length))) fun j=>dM (ac0 i (l.set j d)) fun _=>dNx
theorem aci{i:Nat}{mi m:M D}(h:EV K X e m)(ho:PE X a (tVar i))(hi:EV K X b mi)(hs:swapsWithSole [.Subscript a b p] e pos.line X.env=pure false:=by rfl)(hw:swappedStores [.Subscript a b p] e X.env=pure none:=by rfl)
  (h1:(assignEach [.Subscript a b p] X.env).map (·.2)=[assign (.Subscript a b p) X.env]:=by rfl)
  (ha:∀v,assign (.Subscript a b p) X.env v=(do
   let ov <-holding [v] (eval a X.env)
   let iv <-holding [v,ov] (eval b X.env)
   standAt p
   holding [v,ov,iv] (setItem ov iv v)
   release [v,ov,iv] []):=by intro _;rfl):SV K X (.Assign [.Subscript a b p] e pos) (dSub i mi m):=SV.mk fun hk=>PS.imp (am0 (h hk) (awx ho (hi hk) set_list ha) hs hw h1) fun E σ H ⟨tg,F,ρ,fl,ρ',G,em,q⟩ =>
 qu em q fun d ρ1 e1 em=>qu em q fun l0 ρ0 e0 em=>qu em q fun k ρ2 e2 em=>qu em q fun l ρ3 e3 em=>qu em q fun j ρ4 e4 em=>qu em q fun u ρ5 e5 em=>by
 cases em;obtain⟨e6,rfl⟩:=fu e4;refine⟨tg,F,ρ,d,ρ1,G,e1,fun v H1 F1 G1 x1 r1 =>?_⟩
 obtain⟨rfl,t0,a0,xs0,es0,hv,hh0,hl0⟩:=afa G1 e0;refine⟨_,hv,tg,F1,_,k,ρ2,G1,e2,fun w H2 F2 G2 x2 r2 =>?_⟩
 obtain⟨rfl,t,a1,xs,es1,hv',hh,hl⟩:=afa G2 e3;rw[hv] at hv';cases hv';cases ek:asI k with
 | none=>rw[ek] at e6;cases e6
 | some n =>
  rw[ek] at e6;obtain rfl:=adq ek;cases r2;obtain⟨G3,x3⟩:=alw G2 e5 hv (hl.set (r1.mono x2.sub) j);exact⟨_,xs,n,j,rfl,rfl,hh,by rw[<-hl.length];exact e6,q _ _ F2 G3 ((x1.trans x2).trans x3)⟩
def dAug(f:Int->Int->Int)(i:Nat)(m:M D):Sd:=dM (mVar i) fun x=>dM m fun y=>dM (lift ((asI x).bind fun n=>(asI y).map fun k=>D.int (f n k))) fun z ρ=>some (.nx,List.set ρ i (.val z))
theorem a0r{f:Int->Int->Int}{op:Operator}{i:Nat}{x:Str}{m:M D}(hN:X.N.Nodup)(hi:X.N[i]? = some x)(hx:Loc X.env.scope x)(h:EV K X e m)(ho:PIp X op (ipI f))(hf:X.fn x=true∨X.env.scope.names.lookup x=some .local:=by first | exact .inl rfl | exact .inr rfl | assumption) :
  SV K X (.AugAssign (.Name x p) op e pos) (dAug f i m):=SV.mk fun hk=>PS.imp (a1b hN hi hx (h hk) ho hf) fun E σ H ⟨tg,F,ρ,fl,ρ',G,em,q⟩=>qu em q fun d ρ1 e1 em=>qu em q fun d2 ρ2 e2 em=>qu em q fun z ρ3 e3 em=>by
 cases em;obtain⟨e4,rfl⟩:=fu e3;cases ed:asI d with
 | none=>rw[ed] at e4;cases e4
 | some n =>
  rw[ed] at e4;obtain rfl:=adq ed;cases ed2:asI d2 with
  | none=>rw[ed2] at e4;cases e4
  | some k =>
   rw[ed2] at e4;obtain rfl:=adq ed2;cases e4;unfold mVar at e1;split at e1
   ·rename_i d' es';cases e1;obtain⟨o,ho',v,rfl,hv⟩:=G.at es';cases hv;refine⟨_,ho',tg,F,ρ,_,_,G,e2,fun y H1 F1 G1 x1 r1 =>?_⟩
    cases r1;obtain⟨G2,x2⟩:=G1.storeV i (Is.int (f n k));exact⟨n,k,rfl,rfl,q _ H1 F1 G2 (x1.trans x2)⟩
   ·cases e1
   ·cases e1
end
section
variable{K:Fg9}{X:Cx}{e a b c tgt iter elt:Expr}{es:List Expr}{pos p p2:Pos}{st:Stmt}{ss:List Stmt}
theorem _root_.Mn.ItOf.imp{J:It}{xs:List V}{S S':Hp->Prop}(Z:ItOf J xs S)(h:∀H,S' H->S H):ItOf J xs S':=⟨fun i H q=>Z.go i H (h H q),fun i H x H' q=>Z.yld i H x H' (h H q),fun i H q=>Z.stop i H (h H q)⟩
def Alt(K:Fg9)(F:Hp)(d:D)(x:V)(H H':Hp):Prop:=(H'=H/\Is K F d x)∨∃q vs ds,H q=none/\x=.ref q/\H'=upd H q (.tup vs)/\d=.tup ds/\IsL K F ds vs
structure ItD (K:Fg9) (J:It) (l:List D) (F:Hp):Prop where
 go:∀i H,Same F H->i < l.length->J.go i H
 yld:∀i H x H' d,Same F H->J.yld i H x H'->l[i]? = some d->Alt K F d x H H'
 stop:∀H,Same F H->J.stop l.length H
theorem ItD.of{J:It}{l:List D}{vs:List V}{F:Hp}(il:IsL K F l vs)(Z:ItOf J vs fun H2=>Same F H2):ItD K J l F where
 go:=fun i H s hi=>Z.go i H s (by rw[<-il.length];exact hi)
 yld:=fun i H x H' d s y hd=>by
  obtain⟨v,hv,iv⟩:=il.get hd;obtain⟨e,z⟩:=Z.yld i H x H' s y;have:=z (List.getElem?_eq_some_iff.mp hv).1;rw[hv] at this;cases this;exact .inl ⟨e,iv⟩
 stop:=fun H s=>Z.stop _ H s (by rw[<-il.length];exact Nat.le_refl _)
theorem aoj{tg:Nat->Addr}{O:Addr->Prop}{F H F1 F2 H2 H3:Hp}{ρ2:Ro}{σ2:L2.St}{d:D}{x:V}(G2:Good K tg F2 H2 ρ2 σ2)(x2:Ext O (Own ρ2 σ2) F H F2 H2)(s2:Same F1 F2)(a:Alt K F1 d x H2 H3) :
  ∃F3,Good K tg F3 H3 ρ2 σ2/\Ext O (Own ρ2 σ2) F H F3 H3/\Same F1 F3/\Is K F3 d x/\Ext (Own ρ2 σ2) (Own ρ2 σ2) F2 H2 F3 H3:=by
 rcases a with⟨rfl,id⟩ | ⟨q,vs,ds,hq,rfl,rfl,rfl,il⟩
 ·exact⟨F2,G2,x2,s2,id.mono s2,Ext.refl _ _ _⟩
 ·have z:=G2.newX hq (.tup vs);exact⟨_,G2.new hq _,x2.trans z,s2.trans z.sub,.tup dh (il.mono (s2.trans z.sub)),z⟩
theorem azo{J:It}{l:List D}{F:Hp}(Z:ItD K J l F){g:TG}{tb:TS}{D':Ends}{σ:L2.St}{H:Hp}(Pv:Nat->L2.St->Hp->Prop)(h0:Pv 0 σ H)(hl:∀i σ H,i<=l.length->Pv i σ H->Same F H)
  (hs:∀i d x σ H H',l[i]? = some d->Pv i σ H->Alt K F d x H H'->g x σ H' fun σ2 H2=>tb { D' with nx:=Pv (i+1),ct:=Pv (i+1),bk:=D'.nx } σ2 H2) (hd:∀σ H,Pv l.length σ H->D'.nx σ H) :
  ∃W:Nat->Nat->L2.St->Hp->Prop,(∃m,W 0 m σ H)/\∀i m σ H,W i m σ H ->
   (J.stop i H/\D'.nx σ H)∨(J.go i H/\∃N:L2.St->Hp->Prop,(∀σ' H',N σ' H'->∃m',m' < m/\W (i+1) m' σ' H')/\∀x H',J.yld i H x H'->g x σ H' fun σ2 H2=>tb { D' with nx:=N,ct:=N,bk:=D'.nx } σ2 H2):=by
 refine⟨fun i m σ H=>m=l.length - i/\i<=l.length/\Pv i σ H,⟨l.length,by simp,Nat.zero_le _,h0⟩,?_⟩
 rintro i m σ H ⟨rfl,hi,p⟩
 have q:=hl i σ H hi p
 by_cases hlt:i < l.length
 ·exact .inr ⟨Z.go i H q hlt,Pv (i+1),fun σ' H' p'=>⟨l.length - (i+1),by omega,rfl,hlt,p'⟩,fun x H' y=>hs i _ x σ H H' (List.getElem?_eq_getElem hlt) p (Z.yld i H x H' _ q y (List.getElem?_eq_getElem hlt))⟩
 ·have e:i=l.length:=by omega
  subst e;exact .inl ⟨Z.stop H q,hd σ H p⟩
theorem av7{J:It}{l:List D}{F:Hp}(Z:ItD K J l F){d:Addr}{g:TG}{ti:TT}{te:TE}{Q:VK}{σ0:L2.St}{H1:Hp}(Pv:Nat->List V->L2.St->Hp->Prop)(h0:Pv 0 [] σ0 (upd H1 d (.lst [])))
  (hl:∀i ys σ H,i<=l.length->Pv i ys σ H->Same F H/\H d=some (.lst ys))
  (hs:∀i e x ys σ H H' (M:List V->L2.St->Hp->Prop),l[i]? = some e->Pv i ys σ H->Alt K F e x H H'->(∀ys' σ' H',Pv (i+1) ys' σ' H'->M ys' σ' H') ->
   g x σ H' fun σ4 H4=>ti σ4 H4 fun b H5=>if b=true then te σ4 H5 fun y H6=>H6 d=some (.lst ys)/\ys.length < sizeLine/\M (ys++[y]) σ4 (upd H6 d (.lst (ys++[y]))) else M ys σ4 H5)
  (hd:∀ys σ H,Pv l.length ys σ H->Q (.ref d) H):a4m J g ti te Q d σ0 H1:=by
 refine⟨fun i m ys σ H=>m=l.length - i/\i<=l.length/\Pv i ys σ H,⟨l.length,by simp,Nat.zero_le _,h0⟩,?_⟩
 rintro i m ys σ H ⟨rfl,hi,p⟩
 obtain⟨q,e⟩:=hl i ys σ H hi p;refine⟨e,?_⟩
 by_cases hlt:i < l.length
 ·exact .inr ⟨Z.go i H q hlt,fun x H' y=>hs i _ x ys σ H H' (fun ys' σ' H'=>∃m',m' < l.length - i/\(m'=l.length - (i+1)/\i+1<=l.length/\Pv (i+1) ys' σ' H')) (List.getElem?_eq_getElem hlt) p (Z.yld i H x H' _ q y (List.getElem?_eq_getElem hlt)) fun ys' σ' H' p'=>⟨l.length - (i+1),by omega,rfl,hlt,p'⟩⟩
 ·have e:i=l.length:=by omega
  subst e;exact .inl ⟨Z.stop H q,hd ys σ H p⟩
def TIt(K:Fg9)(m:M (List D)):TI:=fun σ H R=>∃tg F ρ l ρ',Good K tg F H ρ σ/\m ρ=some (.ok l,ρ')/\∀J H' F',Good K tg F' H' ρ' σ->Ext (Own ρ σ) (Own ρ' σ) F H F' H'->ItD K J l F'->R J H'
structure IT (K:Fg9) (X:Cx) (tgt iter:Expr) (m:M (List D)):Prop where
 go:X.K=K->PI X tgt iter (TIt K m)
instance {K:Fg9} {X:Cx} {tgt iter:Expr} {m:M (List D)}:CoeFun (IT K X tgt iter m) fun _=>X.K=K->PI X tgt iter (TIt K m):=⟨IT.go⟩
def ph(m:M D):M (List D):=m.bind fun d=>lift (itemsD d)
theorem vm{m:M D}(h:EV K X iter m):IT K X tgt iter (ph m):=IT.mk fun hk=>by
 intro qv s σ H R I z9;obtain⟨tg,F,ρ,l,ρ',G,em,q⟩:=z9;obtain⟨d,ρ1,e1,em⟩:=au em;obtain⟨e2,rfl⟩:=fu em;have h:=h hk;subst hk;cases d with
 | tup k =>
  cases e2;refine a1d h qv s σ H R I ⟨tg,F,ρ,_,_,G,e1,fun v H' F' G' x r =>?_⟩
  cases r with
  | @tup a vs _ e hl=>exact⟨a,rfl,⟨vs,SqT.of (G'.sub _ _ e)⟩,q _ H' F' G' x (.of hl (avn.imp fun H2 g=>SqT.of (g _ _ e)))⟩
 | lst k =>
  cases e2;refine aqt h qv s σ H R I ⟨tg,F,ρ,_,_,G,e1,fun v H' F' G' x r =>?_⟩
  cases r with
  | @lst a vs _ e hl=>exact⟨a,rfl,⟨vs,SqL.of (G'.sub _ _ e)⟩,q _ H' F' G' x (.of hl (ank.imp fun H2 g=>SqL.of (g _ _ e)))⟩
 | kst k =>
  cases e2;refine aqt h qv s σ H R I ⟨tg,F,ρ,_,_,G,e1,fun v H' F' G' x r =>?_⟩
  cases r with
  | @kst a vs _ e hl=>exact⟨a,rfl,⟨vs,L2.Same.seq G'.sub e⟩,q _ H' F' G' x (.of hl (ank.imp fun H2 g=>L2.Same.seq g e))⟩
 | _=>cases e2
def rangeD(lo:Int)(n:Nat):List D:=(List.range n).map fun i=>D.int (lo+(i:Nat))
theorem amz{F:Hp}(lo:Int)(n:Nat):IsL K F (rangeD lo n) (ups lo n):=by
 have e1:rangeD lo n=((List.range n).map fun i=>lo+((i:Nat):Int)).map D.int:=by unfold rangeD;rw[List.map_map];rfl
 have e2:ups lo n=((List.range n).map fun i=>lo+((i:Nat):Int)).map V.int:=by unfold ups;rw[List.map_map];rfl
 rw[e1,e2];exact ac4 _
theorem apq{j:Int}(h:j.natAbs < 4611686018427387904) : -2 ^ 62<=j/\j < 2 ^ 62:=by
 have e:(2:Int) ^ 62=4611686018427387904:=by decide
 rw[e];omega
def nq:List D->Option (List D)
 | [.int j]=>if j.natAbs < 4611686018427387904 then some (rangeD 0 j.toNat) else none
 | _=>none
def aim:List D->Option (List D)
 | [.int i,.int j]=>if i.natAbs < 4611686018427387904/\j.natAbs < 4611686018427387904 then some (rangeD i (j - i).toNat) else none
 | _=>none
def mGet{α β:Type}(g:α->Option β)(m:M α):M β:=m.bind fun ds=>lift (g ds)
theorem vo{m:M (List D)}(hg:Gl X "range")(hm:X.mg "range" = none)(h:ED K X [a] m)(hs:starEach [a] X.env=[(false,eval a X.env)]:=by rfl):IT K X tgt (.Call (.Name "range" p) [a] [] pos) (mGet nq m):=IT.mk fun hk=>by
 intro qv s σ H R I z9;obtain⟨tg,F,ρ,l,ρ',G,em,q⟩:=z9;obtain⟨ds,ρ1,e1,em⟩:=au em;obtain⟨e2,rfl⟩:=fu em;refine aqs hg hm (h hk) hs qv s σ H R I ⟨tg,F,ρ,ds,_,G,e1,fun vs H' F' G' x r =>?_⟩
 unfold nq at e2;split at e2
 ·split at e2
  ·rename_i j hc;cases e2;cases r with
   | cons h t =>
    cases t;cases h;exact⟨_,rfl,(apq hc).1,(apq hc).2,q _ H' F' G' x (.of (amz 0 _) (anj.imp fun _ _=>trivial))⟩
  ·cases e2
 ·cases e2
theorem arn{m:M (List D)}(hg:Gl X "range")(hm:X.mg "range" = none)(h:ED K X [a,b] m)(hs:starEach [a,b] X.env=[(false,eval a X.env),(false,eval b X.env)]:=by rfl)(hs2:starEach [b] X.env=[(false,eval b X.env)]:=by rfl):IT K X tgt (.Call (.Name "range" p) [a,b] [] pos) (mGet aim m):=IT.mk fun hk=>by
 intro qv s σ H R I z9;obtain⟨tg,F,ρ,l,ρ',G,em,q⟩:=z9;obtain⟨ds,ρ1,e1,em⟩:=au em;obtain⟨e2,rfl⟩:=fu em;refine aqr hg hm (h hk) hs hs2 qv s σ H R I ⟨tg,F,ρ,ds,_,G,e1,fun vs H' F' G' x r =>?_⟩
 unfold aim at e2;split at e2
 ·split at e2
  ·rename_i i j hc;cases e2;cases r with
   | cons h t =>
    cases t with
    | cons h2 t =>
     cases t;cases h;cases h2;exact⟨_,_,rfl,⟨(apq hc.1).1,(apq hc.1).2,(apq hc.2).1,(apq hc.2).2⟩,q _ H' F' G' x (.of (amz _ _) (anj.imp fun _ _=>trivial))⟩
  ·cases e2
 ·cases e2
noncomputable def forD(b:D->Ro->Option Ro)(g:Sd):List D->Sd
 | [],ρ=>some (.nx,ρ)
 | d::ds,ρ=>match b d ρ with
  | none=>none
  | some ρ1=>match g ρ1 with
   | some (.nx,ρ2)=>forD b g ds ρ2
   | some (.cont,ρ2)=>forD b g ds ρ2
   | some (.brk,ρ2)=>some (.nx,ρ2)
   | some (.ret r,ρ2)=>some (.ret r,ρ2)
   | some (.exc x,ρ2)=>some (.exc x,ρ2)
   | none=>none
def dFor(m:M (List D))(b:D->Ro->Option Ro)(g:Sd):Sd:=dM m (forD b g)
theorem yg{m:M (List D)}{b:D->Ro->Option Ro}{g:Sd}(hp:PassesOwn (model X.prog X.w) X.A X.env X.xe)(hc:X.calm=true)(hi:IT K X tgt iter m)(hg:GV K X tgt b)(hb:SVs K X ss g)
  (hs:∀x,foldedSetIterable iter X.env x=pure x:=by intro _;rfl):SV K X (.For tgt iter ss [] pos) (dFor m b g):=SV.mk fun hk=>PS.imp (a1a hp hc (hi hk) (hg hk) (hb hk) hs) fun E σ H ⟨tg,F,ρ,fl,ρ',G,em,q⟩=>qu em q fun l ρ1 e1 em=>by
 refine⟨tg,F,ρ,l,ρ1,G,e1,fun J H1 F1 G1 x1 Z =>?_⟩
 refine azo Z (fun i σ2 H2=>∃F2 ρ2,Good K tg F2 H2 ρ2 σ2/\Ext (Own ρ σ) (Own ρ2 σ2) F H F2 H2/\Same F1 F2/\forD b g (l.drop i) ρ2=some (fl,ρ')) ⟨F1,ρ1,G1,x1,Same.refl _,em⟩ (fun i σ2 H2 _ ⟨F2,ρ2,G2,_,s2,_⟩=>s2.trans G2.sub) ?_ ?_
 ·rintro i d x σ2 H2' H2 hd ⟨F2',ρ2,G2',x2',s2',em2⟩ al
  obtain⟨F2,G2,x2,s2,id,_⟩:=aoj G2' x2' s2' al;have hlt:i < l.length:=(List.getElem?_eq_some_iff.mp hd).1;have ed:l[i]=d:=(List.getElem?_eq_some_iff.mp hd).2;rw[List.drop_eq_getElem_cons hlt,ed] at em2;unfold forD at em2;split at em2
  ·cases em2
  ·rename_i ρ3 e3;refine⟨tg,F2,ρ2,d,ρ3,G2,id,e3,fun σ3 H3 F3 G3 x3 =>?_⟩
   have again:∀{ρ4:Ro},forD b g (l.drop (i+1)) ρ4=some (fl,ρ')->∀σ' H' F',Good K tg F' H' ρ4 σ'->Ext (Own ρ3 σ3) (Own ρ4 σ') F3 H3 F' H' ->
     ∃F2 ρ2,Good K tg F2 H' ρ2 σ'/\Ext (Own ρ σ) (Own ρ2 σ') F H F2 H'/\Same F1 F2/\forD b g (l.drop (i+1)) ρ2=some (fl,ρ') :=
    fun{ρ4} e4 σ' H' F' G' x'=>⟨F',ρ4,G',(x2.trans x3).trans x',(s2.trans x3.sub).trans x'.sub,e4⟩
   split at em2
   ·rename_i ρ4 e4;exact⟨tg,F3,ρ3,.nx,ρ4,G3,e4,again em2⟩
   ·rename_i ρ4 e4;exact⟨tg,F3,ρ3,.cont,ρ4,G3,e4,again em2⟩
   ·rename_i ρ4 e4;cases em2;exact⟨tg,F3,ρ3,.brk,_,G3,e4,fun σ' H' F' G' x'=>q σ' H' F' G' ((x2.trans x3).trans x')⟩
   ·rename_i r ρ4 e4;cases em2;exact⟨tg,F3,ρ3,.ret r,_,G3,e4,fun v σ' H' F' G' x' rr=>q v σ' H' F' G' ((x2.trans x3).trans x') (yj (x2.trans x3) rr)⟩
   ·cases em2;exact(show False from q).elim
   ·cases em2
 ·rintro σ2 H2 ⟨F2,ρ2,G2,x2,s2,em2⟩
  rw[List.drop_eq_nil_of_le (Nat.le_refl _)] at em2;cases em2;exact q σ2 H2 F2 G2 x2
noncomputable def whileD(c:M Bool)(g:Sd):Nat->Sd
 | 0,_=>none
 | n+1,ρ=>match c ρ with
  | some (.ok true,ρ1)=>match g ρ1 with
   | some (.nx,ρ2)=>whileD c g n ρ2
   | some (.cont,ρ2)=>whileD c g n ρ2
   | some (.brk,ρ2)=>some (.nx,ρ2)
   | some (.ret r,ρ2)=>some (.ret r,ρ2)
   | some (.exc x,ρ2)=>some (.exc x,ρ2)
   | none=>none
  | some (.ok false,ρ1)=>some (.nx,ρ1)
  | some (.exc x,ρ1)=>some (.exc x,ρ1)
  | none=>none
theorem aml{m:M Bool}{g:Sd}(n:Nat)(hp:PassesOwn (model X.prog X.w) X.A X.env X.xe)(hc:ET K X c m)(hb:SVs K X ss g):SV K X (.While c ss [] pos) (whileD m g n):=SV.mk fun hk=>PS.imp (ah3 hp (hc hk) (hb hk)) fun E σ H z9=>by
 obtain⟨tg,F,ρ,fl,ρ',G,em,q⟩:=z9;refine⟨fun k σ2 H2=>∃F2 ρ2,Good K tg F2 H2 ρ2 σ2/\Ext (Own ρ σ) (Own ρ2 σ2) F H F2 H2/\whileD m g k ρ2=some (fl,ρ'),⟨n,F,ρ,G,Ext.refl _ _ _,em⟩,?_⟩
 rintro k σ2 H2 ⟨F2,ρ2,G2,x2,em2⟩
 cases k with
 | zero=>cases em2
 | succ k =>
  unfold whileD at em2;split at em2
  ·rename_i ρ3 e3;refine⟨tg,F2,ρ2,true,ρ3,G2,e3,fun H3 F3 G3 x3=>iteT ?_⟩
   refine⟨fun σ' H'=>∃F2 ρ2,Good K tg F2 H' ρ2 σ'/\Ext (Own ρ σ) (Own ρ2 σ') F H F2 H'/\whileD m g k ρ2=some (fl,ρ'),fun σ' H' h=>⟨k,Nat.lt_succ_self k,h⟩,?_⟩
   split at em2
   ·rename_i ρ4 e4;exact⟨tg,F3,ρ3,.nx,ρ4,G3,e4,fun σ' H' F' G' x'=>⟨F',ρ4,G',(x2.trans x3).trans x',em2⟩⟩
   ·rename_i ρ4 e4;exact⟨tg,F3,ρ3,.cont,ρ4,G3,e4,fun σ' H' F' G' x'=>⟨F',ρ4,G',(x2.trans x3).trans x',em2⟩⟩
   ·rename_i ρ4 e4;cases em2;exact⟨tg,F3,ρ3,.brk,_,G3,e4,fun σ' H' F' G' x'=>q σ' H' F' G' ((x2.trans x3).trans x')⟩
   ·rename_i r ρ4 e4;cases em2;exact⟨tg,F3,ρ3,.ret r,_,G3,e4,fun v σ' H' F' G' x' rr=>q v σ' H' F' G' ((x2.trans x3).trans x') (yj (x2.trans x3) rr)⟩
   ·cases em2;exact(show False from q).elim
   ·cases em2
  ·rename_i ρ3 e3;cases em2;exact⟨tg,F2,ρ2,false,_,G2,e3,fun H3 F3 G3 x3=>iteF (q σ2 H3 F3 G3 (x2.trans x3))⟩
  ·cases em2;exact(show False from q).elim
  ·cases em2
end
def aju(ρ:Ro)(i:Nat)(o:Option Nat)(d:Option D):Sl:=match o with
 | some j=>match ρ[j]? with
  | some (.val d)=>.val d
  | some (.own _ l)=>.own (some i) l
  | _=>.emp
 | none=>match d with
  | some d=>.val d
  | none=>.emp
def lend(ρ:Ro)(js:List (Option Nat))(ds:List (Option D)):Ro:=(List.zip js ds).mapIdx fun i p=>aju ρ i p.1 p.2
def okJs(ρ:Ro):List (Option Nat)->Bool
 | []=>true
 | none::r=>okJs ρ r
 | some j::r=>(match ρ[j]? with
  | some (.own _ _) => !r.contains (some j)
  | _=>true)&&okJs ρ r
theorem aic{ρ:Ro}:∀{js:List (Option Nat)} {i i' j:Nat} {t:Option Nat} {l:List D},okJs ρ js=true->js[i]? = some (some j)->js[i']? = some (some j)->ρ[j]? = some (.own t l)->i=i'
 | [],_,_,_,_,_,_,h,_,_=>by simp at h
 | o::r,0,0,_,_,_,_,_,_,_=>rfl
 | o::r,0,i'+1,j,t,l,hk,h,h',e=>by
  simp at h h';subst h;unfold okJs at hk;rw[e,Bool.and_eq_true] at hk;have:=List.mem_of_getElem? h';simp[this] at hk
 | o::r,i+1,0,j,t,l,hk,h,h',e=>by
  simp at h h';subst h';unfold okJs at hk;rw[e,Bool.and_eq_true] at hk;have:=List.mem_of_getElem? h;simp[this] at hk
 | none::r,i+1,i'+1,j,t,l,hk,h,h',e=>by
  rw[aic (js:=r) (i:=i) (i':=i') (j:=j) (by unfold okJs at hk;exact hk) (by simpa using h) (by simpa using h') e]
 | some k::r,i+1,i'+1,j,t,l,hk,h,h',e=>by
  unfold okJs at hk;rw[Bool.and_eq_true] at hk;rw[aic (js:=r) (i:=i) (i':=i') (j:=j) hk.2 (by simpa using h) (by simpa using h') e]
def putS(js:List (Option Nat))(ps:Ro)(j:Nat)(s:Sl):Sl:=match js.findIdx? (fun o=>o==some j) with
 | none=>s
 | some i=>match s with
  | .own t _=>match ps[i]? with
   | some (.own (some i') l')=>if i'=i then .own t l' else .emp
   | _=>.emp
  | s=>s
def putB(ρ:Ro)(js:List (Option Nat))(ps:Ro):Ro:=ρ.mapIdx fun j s=>putS js ps j s
def tgOf(τ:L2.St)(i:Nat):Addr:=match τ[i]? with
 | some (some (.ref a))=>a
 | _=>0
section
variable{K:Fg9}{tg:Nat->Addr}{F H F' H':Hp}{ρ ps:Ro}{σ τ:L2.St}{js:List (Option Nat)}{ds:List (Option D)}{O':Addr->Prop}
theorem anb{i:Nat}{s:Sl}(h:(lend ρ js ds:List Sl)[i]? = some s):∃o d,js[i]? = some o/\ds[i]? = some d/\s=aju ρ i o d:=by
 unfold lend at h;rw[List.getElem?_mapIdx] at h;cases e:(List.zip js ds)[i]? with
 | none=>rw[e] at h;cases h
 | some p =>
  rw[e] at h;cases h;rw[List.getElem?_zip_eq_some] at e;exact⟨p.1,p.2,e.1,e.2,rfl⟩
theorem avd{i:Nat}{t:Option Nat}{l:List D}(h:(lend ρ js ds:List Sl)[i]? = some (.own t l)):∃j t',js[i]? = some (some j)/\ρ[j]? = some (.own t' l)/\t=some i:=by
 obtain⟨o,d,e1,e2,e3⟩:=anb h;unfold aju at e3;cases o with
 | none=>cases d <;> cases e3
 | some j =>
  simp only at e3;cases e:ρ[j]? with
  | none=>rw[e] at e3;cases e3
  | some s =>
   rw[e] at e3;cases s with
   | emp=>cases e3
   | val _=>cases e3
   | box _ _=>cases e3
   | lol _=>cases e3
   | lnk _=>cases e3
   | own t' l'=>cases e3;exact⟨j,t',e1,e,rfl⟩
structure Lent (K:Fg9) (F:Hp) (σ τ:L2.St) (js:List (Option Nat)) (ds:List (Option D)):Prop where
 l1:τ.length=js.length
 l2:ds.length=js.length
 h1:∀(i j:Nat) (o:Option V),js[i]? = some (some j)->σ[j]? = some o->τ[i]? = some o
 h2:∀(i:Nat) (d:D),js[i]? = some none->ds[i]? = some (some d)->∃v,τ[i]? = some (some v)/\Is K F d v
theorem Good.σ_at(G:Good K tg F H ρ σ){j:Nat}{s:Sl}(e:(ρ:List Sl)[j]? = some s):∃o,σ[j]? = some o:=by
 obtain⟨o,h,_⟩:=G.at e;exact⟨o,h⟩
theorem abg(G:Good K tg F H ρ σ)(L:Lent K F σ τ js ds){i:Nat}{a:Addr}(h:Owns (lend ρ js ds) τ i a):∃j,js[i]? = some (some j)/\Owns ρ σ j a:=by
 obtain⟨⟨t,l,e⟩,q⟩:=h;obtain⟨j,t',e1,e2,_⟩:=avd e;obtain⟨o,ho⟩:=G.σ_at e2;have:=L.h1 i j o e1 ho;rw[q] at this;cases this;exact⟨j,e1,⟨t',l,e2⟩,ho⟩
theorem ac1(G:Good K tg F H ρ σ)(hk:okJs ρ js=true)(L:Lent K F σ τ js ds):Good K (tgOf τ) F H (lend ρ js ds) τ where
 sub:=G.sub
 len:=by
  unfold lend;rw[List.length_mapIdx,List.length_zip,L.l2,L.l1];omega
 sl:=fun i s o e q=>by
  obtain⟨oj,d,e1,e2,rfl⟩:=anb e;unfold aju;cases oj with
  | none =>
   cases d with
   | none=>trivial
   | some d =>
    obtain⟨v,h1,h2⟩:=L.h2 i d e1 e2;rw[q] at h1;cases h1;exact⟨v,rfl,h2⟩
  | some j =>
   simp only;cases e3:ρ[j]? with
   | none=>trivial
   | some s =>
    obtain⟨o',ho,w⟩:=G.at e3;have:=L.h1 i j o' e1 ho;rw[q] at this;cases this;cases s with
    | emp=>trivial
    | val d=>exact w
    | box _ _=>trivial
    | lol _=>trivial
    | lnk _=>trivial
    | own t l =>
     obtain⟨a,vs,rfl,hf,hh,hl,_⟩:=w;refine⟨a,vs,rfl,hf,hh,hl,fun k e =>?_⟩
     cases e;unfold tgOf;rw[q]
 inj:=fun i i' a w w'=>by
  obtain⟨j,e,v⟩:=abg G L w;obtain⟨j',e',v'⟩:=abg G L w';have:=G.inj j j' a v v';subst this;obtain⟨⟨t,l,z⟩,_⟩:=v;exact aic hk e e' z
structure Fin (K:Fg9) (F' H':Hp) (τ:L2.St) (ps:Ro) (O':Addr->Prop):Prop where
 at':∀(i:Nat) (l:List D),(ps:List Sl)[i]? = some (.own (some i) l)->O' (tgOf τ i)/\F' (tgOf τ i)=none/\∃vs,H' (tgOf τ i)=some (.lst vs)/\IsL K F' l vs
theorem ah1{j:Nat}{s:Sl}(h:(putB ρ js ps:List Sl)[j]? = some s):∃s0:Sl,(ρ:List Sl)[j]? = some s0/\((∃t l,s0=Sl.own t l/\∃i:Nat,js[i]? = some (some j)/\((∃l',(ps:List Sl)[i]? = some (Sl.own (some i) l')/\s=Sl.own t l')∨s=Sl.emp)) ∨
  (s=s0/\∀t l,s0=Sl.own t l->∀i:Nat,js[i]? ≠ some (some j))):=by
 unfold putB at h;rw[List.getElem?_mapIdx] at h;cases e:(ρ:List Sl)[j]? with
 | none=>rw[e] at h;cases h
 | some s0 =>
  rw[e] at h;refine⟨s0,rfl,?_⟩;have h:putS js ps j s0=s:=Option.some.inj h;unfold putS at h;cases ei:js.findIdx? (fun o=>o==some j) with
  | none =>
   rw[ei] at h;have h:s0=s:=h;refine .inr ⟨h.symm,fun _ _ _ i z =>?_⟩
   rw[List.findIdx?_eq_none_iff] at ei;have:=ei _ (List.mem_of_getElem? z);simp at this
  | some i =>
   rw[ei] at h;cases s0 with
   | emp=>exact .inr ⟨(show Sl.emp=s from h).symm,fun t l z=>by cases z⟩
   | val d=>exact .inr ⟨(show Sl.val d=s from h).symm,fun t l z=>by cases z⟩
   | box c fs=>exact .inr ⟨(show Sl.box c fs=s from h).symm,fun t l z=>by cases z⟩
   | lol ts=>exact .inr ⟨(show Sl.lol ts=s from h).symm,fun t l z=>by cases z⟩
   | lnk k=>exact .inr ⟨(show Sl.lnk k=s from h).symm,fun t l z=>by cases z⟩
   | own t l =>
    refine .inl ⟨t,l,rfl,i,?_,?_⟩
    ·obtain⟨hi,hb,_⟩:=List.findIdx?_eq_some_iff_getElem.mp ei;rw[List.getElem?_eq_getElem hi];exact congrArg some (eq_of_beq hb)
    ·have h:(match (ps:List Sl)[i]? with
      | some (.own (some i') l')=>if i'=i then Sl.own t l' else .emp
      | _=>.emp)=s:=h
     cases ep:(ps:List Sl)[i]? with
     | none=>rw[ep] at h;exact .inr h.symm
     | some sp =>
      rw[ep] at h;cases sp with
      | emp=>exact .inr h.symm
      | val _=>exact .inr h.symm
      | box _ _=>exact .inr h.symm
      | lol _=>exact .inr h.symm
      | lnk _=>exact .inr h.symm
      | own t' l' =>
       cases t' with
       | none=>exact .inr h.symm
       | some i' =>
        have h2:(if i'=i then Sl.own t l' else .emp)=s:=h
        by_cases z:i'=i
        ·subst z;rw[if_pos rfl] at h2;exact .inl ⟨l',rfl,h2.symm⟩
        ·rw[if_neg z] at h2;exact .inr h2.symm
theorem adp{j:Nat}{a:Addr}(h:Owns (putB ρ js ps) σ j a):Owns ρ σ j a:=by
 obtain⟨⟨t,l,e⟩,q⟩:=h;obtain⟨s0,e0,h | ⟨rfl,_⟩⟩:=ah1 e
 ·obtain⟨t',l',rfl,i,_,⟨l2,_,z⟩ | z⟩:=h
  ·exact⟨⟨t',l',e0⟩,q⟩
  ·cases z
 ·exact⟨⟨t,l,e0⟩,q⟩
theorem agb(G:Good K tg F H ρ σ)(L:Lent K F σ τ js ds)(x:Ext (Own (lend ρ js ds) τ) O' F H F' H')(s':Same F' H')(fin:Fin K F' H' τ ps O'):Good K tg F' H' (putB ρ js ps) σ where
 sub:=s'
 len:=by
  unfold putB;rw[List.length_mapIdx];exact G.len
 sl:=fun j s o e q=>by
  obtain⟨s0,e0,h | ⟨rfl,hn⟩⟩:=ah1 e
  ·obtain⟨t,l,rfl,i,ei,⟨l',ep,rfl⟩ | rfl⟩:=h
   ·obtain⟨a,vs,rfl,hf,hh,hl,ht⟩:=G.sl j _ _ e0 q;obtain⟨_,hf',ws,hh',hl'⟩:=fin.at' i l' ep;have:=L.h1 i j _ ei q;have et:tgOf τ i=a:=by
     unfold tgOf;rw[this]
    rw[et] at hf' hh';exact⟨a,ws,rfl,hf',hh',hl',ht⟩
   ·trivial
  ·have w:=G.sl j _ _ e0 q;cases s with
   | emp=>trivial
   | val d =>
    obtain⟨v,h1,h2⟩:=w;exact⟨v,h1,h2.mono x.sub⟩
   | lol ts =>
    obtain⟨a,h1,h2⟩:=w;exact⟨a,h1,x.sub _ _ h2⟩
   | lnk k=>exact w
   | box c fs =>
    obtain⟨a,C,dx,fvs,e1,e2,e3,e4,e7,e5,e6⟩:=w;have no:¬Own (lend ρ js ds) τ a:=fun⟨i,z⟩=>by
     obtain⟨j',_,v⟩:=abg G L z;obtain⟨_,vs,hv⟩:=G.ownAt ⟨j',v⟩;rw[e3] at hv;cases hv
    have hf:F' a=none:=by
     cases z:F' a with
     | none=>rfl
     | some o =>
      rcases x.new a o z with z | z | z
      ·rw[e2] at z;cases z
      ·rw[e3] at z;cases z
      ·exact absurd z no
    exact⟨a,C,dx,fvs,e1,hf,x.keep a _ e3 no,e4,e7,e5,fun f d h=>(e6 f d h).imp fun v h=>⟨h.1,h.2.mono x.sub⟩⟩
   | own t l =>
    obtain⟨a,vs,rfl,hf,hh,hl,ht⟩:=w;have no:¬Own (lend ρ js ds) τ a:=fun⟨i,z⟩=>by
     obtain⟨j',e1,v⟩:=abg G L z;have:=G.inj j' j a v ⟨⟨t,l,e0⟩,q⟩;subst this;exact hn t l rfl i e1
    refine⟨a,vs,rfl,?_,x.keep a _ hh no,hl.mono x.sub,ht⟩;cases z:F' a with
    | none=>rfl
    | some o =>
     rcases x.new a o z with z | z | z
     ·rw[hf] at z;cases z
     ·rw[hh] at z;cases z
     ·exact absurd z no
 inj:=fun i j a w w'=>G.inj i j a (adp w) (adp w')
theorem zu(G:Good K tg F H ρ σ)(L:Lent K F σ τ js ds){a:Addr}(h:Own (lend ρ js ds) τ a):Own ρ σ a:=by
 obtain⟨i,h⟩:=h;obtain⟨j,_,h⟩:=abg G L h;exact⟨j,h⟩
theorem ai0(G:Good K tg F H ρ σ)(L:Lent K F σ τ js ds)(x:Ext (Own (lend ρ js ds) τ) O' F H F' H'):Ext (Own ρ σ) (Own (putB ρ js ps) σ) F H F' H' where
 sub:=x.sub
 new:=fun a o e=>by
  rcases x.new a o e with z | z | z
  ·exact .inl z
  ·exact .inr (.inl z)
  ·exact .inr (.inr (zu G L z))
 keep:=fun a o e n=>x.keep a o e fun z=>n (zu G L z)
 own:=fun a ⟨j,w⟩=>.inl ⟨j,adp w⟩
 there:=x.there
theorem atg(G:Good K tg F H ρ σ)(L:Lent K F σ τ js ds)(fin:Fin K F' H' τ ps O'){a:Addr}(ha:H a=none∨Own (lend ρ js ds) τ a)(hn:¬O' a):¬Own (putB ρ js ps) σ a:=fun⟨j,w⟩=>by
 have v:=adp w;obtain⟨⟨t,l2,e⟩,q⟩:=w;obtain⟨s0,e0,z | ⟨rfl,hno⟩⟩:=ah1 e
 ·obtain⟨t',l',rfl,i,ei,⟨l3,ep,z⟩ | z⟩:=z
  ·have et:tgOf τ i=a:=by
    unfold tgOf;rw[L.h1 i j _ ei q]
   have:=(fin.at' i l3 ep).1;rw[et] at this;exact hn this
  ·cases z
 ·rcases ha with ha | ⟨i,z⟩
  ·obtain⟨a',vs',ea,_,e2,_⟩:=G.sl j _ _ e0 q;cases ea;rw[ha] at e2;cases e2
  ·obtain⟨j',e1,v'⟩:=abg G L z;have:=G.inj j' j a v' v;subst this;exact hno t l2 rfl i e1
theorem aof(G:Good K tg F H ρ σ)(L:Lent K F σ τ js ds)(fin:Fin K F' H' τ ps O'){r:Rv}{v:V}(h:relR K r v H (Own (lend ρ js ds) τ) F' H' O'):relR K r v H (Own ρ σ) F' H' (Own (putB ρ js ps) σ):=by
 cases r with
 | v d=>exact h
 | fr l =>
  obtain⟨a,vs,rfl,ha,hf,hh,hl,hn⟩:=h;exact⟨a,vs,rfl,ha.imp id (zu G L),hf,hh,hl,atg G L fin ha hn⟩
 | tf d l =>
  obtain⟨t,u,a,vs,rfl,ht,hd,ha,hf,hh,hl,hn⟩:=h;exact⟨t,u,a,vs,rfl,ht,hd,ha.imp id (zu G L),hf,hh,hl,atg G L fin ha hn⟩
end
abbrev Fd:=Ro->Option (Out Rv×Ro)
noncomputable def fnD(nl np:Nat)(g:Sd):Fd:=fun as=>match g (as++List.replicate (nl - np) .emp) with
 | some (.ret r,ρ)=>some (.ok r,ρ.take np)
 | some (.nx,ρ)=>some (.ok (.v .non),ρ.take np)
 | some (.exc x,ρ)=>some (.exc x,ρ.take np)
 | _=>none
def spOf(K:Fg9)(n:Nat)(f:Fd):Sp:=fun vs H Q _=>vs.length=n/\∃F as r ps,Good K (tgOf (vs.map some)) F H as (vs.map some)/\f as=some (.ok r,ps) /\
 ∀v H' F' O',Same F' H'->Ext (Own as (vs.map some)) O' F H F' H'->Fin K F' H' (vs.map some) ps O'->relR K r v H (Own as (vs.map some)) F' H' O'->Q v H'
section
variable{K:Fg9}
theorem ayq{as:Ro}{τ:L2.St}{n:Nat}{a:Addr}(hl:as.length=τ.length)(h:Own (as++List.replicate n .emp) (τ++List.replicate n none) a):Own as τ a:=by
 obtain⟨i,⟨t,l,e⟩,q⟩:=h
 by_cases hi:i < as.length
 ·rw[List.getElem?_append_left hi] at e;rw[List.getElem?_append_left (by omega)] at q
  exact⟨i,⟨t,l,e⟩,q⟩
 ·rw[List.getElem?_append_right (by omega),List.getElem?_replicate] at e
  split at e <;> cases e
theorem auu{as:Ro}{τ:L2.St}{n:Nat}{a:Addr}(hl:as.length=τ.length)(h:Own as τ a):Own (as++List.replicate n .emp) (τ++List.replicate n none) a:=by
 obtain⟨i,⟨t,l,e⟩,q⟩:=h;have hi:=(List.getElem?_eq_some_iff.mp e).1;exact⟨i,⟨t,l,by rw[List.getElem?_append_left hi];exact e⟩,by rw[List.getElem?_append_left (by omega)];exact q⟩
theorem yl{as:Ro}{τ:L2.St}{n:Nat}(hl:as.length=τ.length):Own (as++List.replicate n .emp) (τ++List.replicate n none)=Own as τ:=funext fun a=>propext ⟨ayq hl,auu hl⟩
theorem Good.app{tg:Nat->Addr}{F H:Hp}{as:Ro}{τ:L2.St}(G:Good K tg F H as τ)(n:Nat):Good K tg F H (as++List.replicate n .emp) (τ++List.replicate n none) where
 sub:=G.sub
 len:=by rw[List.length_append,List.length_append,G.len,List.length_replicate,List.length_replicate]
 sl:=fun i s o e q=>by
  have hl:=G.len
  by_cases hi:i < as.length
  ·rw[List.getElem?_append_left hi] at e;rw[List.getElem?_append_left (by omega)] at q
   exact G.sl i s o e q
  ·rw[List.getElem?_append_right (by omega),List.getElem?_replicate] at e
   split at e
   ·cases e;trivial
   ·cases e
 inj:=fun i j a w w'=>by
  have hl:=G.len;have f:∀k,Owns (as++List.replicate n .emp) (τ++List.replicate n none) k a->Owns as τ k a:=fun k ⟨⟨t,l,e⟩,q⟩=>by
   by_cases hi:k < as.length
   ·rw[List.getElem?_append_left hi] at e;rw[List.getElem?_append_left (by omega)] at q
    exact⟨⟨t,l,e⟩,q⟩
   ·rw[List.getElem?_append_right (by omega),List.getElem?_replicate] at e
    split at e <;> cases e
  exact G.inj i j a (f i w) (f j w')
theorem a7y{P:Program}{w:World}{mg:Str->Option Value}{base:Heap}{x qual:Str}{st:Stmt}{f:Addr}{fd:FuncData}{N ps:List Str}{k:Nat}{g:Sd}(F:Fun K x qual st f fd)(S:FnScope N ps (aa st))
  (body:∀(cdv:Value) (A:Around) (outer:List Env) (s:Shared) (H:Hp) (E:XK),Room k (A.deeper (envOfC qual (aa st) s.heap.objs.size f cdv))->SVs K (cxOf CX0 P w K mg base N qual (aa st) f cdv A outer s H E).nox (ig st) g) :
  FnOk P w K mg base CX0 (k+1) f fd ps (spOf K ps.length (fnD N.length ps.length g)):=by
 refine F.ok S (fun vs H Q E h=>h.1) (fun cdv A outer s H vs Q E hr h=>⟨_,body cdv A outer s H E hr rfl,?_⟩)
 obtain⟨hn,F,as,r,ps',G,em,q⟩:=h;have hl:as.length=(vs.map some).length:=G.len;have G1:=G.app (N.length - vs.length);have es:start N vs=vs.map some++List.replicate (N.length - vs.length) none:=rfl;rw[es];unfold fnD at em;rw[<-hn] at em;have fin:∀{ρ':Ro} {σ':L2.St} {F' H':Hp},Good K (tgOf (vs.map some)) F' H' ρ' σ'->Fin K F' H' (vs.map some) (ρ'.take vs.length) (Own ρ' σ'):=fun{ρ' σ' F' H'} G'=>⟨fun i l e=>by
  have hi:=(List.getElem?_eq_some_iff.mp e).1;rw[List.length_take] at hi;rw[List.getElem?_take_of_lt (by omega)] at e
  obtain⟨o,ho,a,ws,rfl,hf,hh,hl,ht⟩:=G'.at e;rw[ht i rfl];exact⟨⟨i,⟨_,_,e⟩,ho⟩,hf,ws,hh,hl⟩⟩
 split at em
 ·rename_i r' ρ' e;cases em;refine⟨_,F,_,.ret r,ρ',G1,e,fun v σ' H' F' G' x' rr =>?_⟩
  rw[yl hl] at x' rr;exact q v H' F' (Own ρ' σ') G'.sub x' (fin G') rr
 ·rename_i ρ' e;cases em;refine⟨_,F,_,.nx,ρ',G1,e,fun σ' H' F' G' x' =>?_⟩
  rw[yl hl] at x';exact q .non H' F' (Own ρ' σ') G'.sub x' (fin G') .non
 ·cases em
 ·cases em
end
section
variable{K:Fg9}{X:Cx}{e a b c tgt iter elt:Expr}{es:List Expr}{pos p p2:Pos}
inductive AR (K:Fg9) (F:Hp) (σ:L2.St):List (Option Nat)->List (Option D)->List V->Prop
 | nil:AR K F σ [] [] []
 | ex {d:D} {v:V} {js:List (Option Nat)} {ds:List (Option D)} {vs:List V} (h:Is K F d v) (t:AR K F σ js ds vs):AR K F σ (none::js) (some d::ds) (v::vs)
 | nm {j:Nat} {v:V} {js:List (Option Nat)} {ds:List (Option D)} {vs:List V} (h:σ[j]? = some (some v)) (t:AR K F σ js ds vs):AR K F σ (some j::js) (none::ds) (v::vs)
theorem AR.lent{F:Hp}{σ:L2.St}:∀{js:List (Option Nat)} {ds:List (Option D)} {vs:List V},AR K F σ js ds vs->Lent K F σ (vs.map some) js ds
 | _,_,_,.nil=>⟨rfl,rfl,fun i j o h=>by simp at h,fun i d h=>by simp at h⟩
 | _,_,_,.ex h t=>by
  have L:=t.lent;refine⟨by simp[by simpa using L.l1],by simp[L.l2],fun i j o h q =>?_,fun i d h q =>?_⟩
  ·cases i with
   | zero=>simp at h
   | succ i=>simpa using L.h1 i j o (by simpa using h) q
  ·cases i with
   | zero=>simp at q;subst q;exact⟨_,rfl,‹_›⟩
   | succ i=>simpa using L.h2 i d (by simpa using h) (by simpa using q)
 | _,_,_,.nm h t=>by
  have L:=t.lent;refine⟨by simp[by simpa using L.l1],by simp[L.l2],fun i j o h' q =>?_,fun i d h' q =>?_⟩
  ·cases i with
   | zero =>
    simp at h';subst h';rw[h] at q;cases q;rfl
   | succ i=>simpa using L.h1 i j o (by simpa using h') q
  ·cases i with
   | zero=>simp at h'
   | succ i=>simpa using L.h2 i d (by simpa using h') (by simpa using q)
theorem AR.length{F:Hp}{σ:L2.St}{js:List (Option Nat)}{ds:List (Option D)}{vs:List V}(h:AR K F σ js ds vs):vs.length=js.length:=by
 have:=h.lent.l1
 simpa using this
def TAg(K:Fg9)(js:List (Option Nat))(m:M (List (Option D))):TA:=fun σ H Q=>∃tg F ρ ds ρ',Good K tg F H ρ σ/\m ρ=some (.ok ds,ρ')/\∀vs H' F',Good K tg F' H' ρ' σ->Ext (Own ρ σ) (Own ρ' σ) F H F' H'->AR K F' σ js ds vs->Q vs H'
structure EG (K:Fg9) (X:Cx) (es:List Expr) (js:List (Option Nat)) (m:M (List (Option D))):Prop where
 go:X.K=K->PA X es (TAg K js m)
instance {K:Fg9} {X:Cx} {es:List Expr} {js:List (Option Nat)} {m:M (List (Option D))}:CoeFun (EG K X es js m) fun _=>X.K=K->PA X es (TAg K js m):=⟨EG.go⟩
def gn:M (List (Option D)):=ret []
def bf(m:M D)(ms:M (List (Option D))):M (List (Option D)):=m.bind fun d=>ms.bind fun ds=>ret (some d::ds)
def b8(j:Nat)(ms:M (List (Option D))):M (List (Option D)):=(di j).bind fun _=>ms.bind fun ds=>ret (none::ds)
theorem cj:EG K X [] [] gn:=EG.mk fun _=>PA.imp ajh fun σ H Q z9=>by
 obtain⟨tg,F,ρ,ds,ρ',G,em,q⟩:=z9;obtain⟨rfl,rfl⟩:=jh em;exact q [] H F G (Ext.refl _ _ _) .nil
theorem eg_v{m:M D}{js:List (Option Nat)}{ms:M (List (Option D))}(h:EV K X e m)(t:EG K X es js ms)(hs:starEach (e::es) X.env=(false,eval e X.env)::starEach es X.env:=by rfl):EG K X (e::es) (none::js) (bf m ms):=EG.mk fun hk=>PA.imp (zq (h hk) (t hk) hs) fun σ H Q z9=>by
 obtain⟨tg,F,ρ,ds,ρ',G,em,q⟩:=z9;obtain⟨d,ρ1,e1,em⟩:=au em;obtain⟨r,ρ2,e2,em⟩:=au em;obtain⟨rfl,rfl⟩:=jh em;exact⟨tg,F,ρ,d,ρ1,G,e1,fun v H1 F1 G1 x1 r1=>⟨tg,F1,ρ1,r,_,G1,e2,fun vs H2 F2 G2 x2 r2=>q _ H2 F2 G2 (x1.trans x2) (.ex (r1.mono x2.sub) r2)⟩⟩
theorem eg_n{j:Nat}{js:List (Option Nat)}{ms:M (List (Option D))}(h:PE X e (tVar j))(t:EG K X es js ms)(hs:starEach (e::es) X.env=(false,eval e X.env)::starEach es X.env:=by rfl):EG K X (e::es) (some j::js) (b8 j ms):=EG.mk fun hk=>PA.imp (zq h (t hk) hs) fun σ H Q z9=>by
 obtain⟨tg,F,ρ,ds,ρ',G,em,q⟩:=z9;obtain⟨d0,ρ0,e0,em⟩:=au em;obtain⟨r,ρ2,e2,em⟩:=au em;obtain⟨rfl,rfl⟩:=jh em;obtain⟨rfl,v,hv,_⟩:=uh G e0;exact⟨v,hv,tg,F,ρ0,r,_,G,e2,fun vs H2 F2 G2 x2 r2=>q _ H2 F2 G2 x2 (.nm hv r2)⟩
noncomputable def mFn(f:Fd)(js:List (Option Nat))(ms:M (List (Option D))):M Rv:=ms.bind fun ds ρ=>if okJs ρ js=true then match f (lend ρ js ds) with
  | some (.ok r,ps)=>some (.ok r,putB ρ js ps)
  | some (.exc x,ps)=>some (.exc x,putB ρ js ps)
  | none=>none
 else none
theorem a2l{f:Fd}{js:List (Option Nat)}{ms:M (List (Option D))}{ρ ρ':Ro}{r:Rv}(h:mFn f js ms ρ=some (.ok r,ρ')):∃ds ρ1 ps,ms ρ=some (.ok ds,ρ1)/\okJs ρ1 js=true/\f (lend ρ1 js ds)=some (.ok r,ps)/\ρ'=putB ρ1 js ps:=by
 obtain⟨ds,ρ1,e1,em⟩:=au h;have em:(if okJs ρ1 js=true then match f (lend ρ1 js ds) with
  | some (.ok r,ps)=>some (Out.ok r,putB ρ1 js ps)
  | some (.exc x,ps)=>some (.exc x,putB ρ1 js ps)
  | none=>none
  else none)=some (.ok r,ρ'):=em
 split at em
 ·rename_i hk;split at em
  ·rename_i r' ps e2;cases em;exact⟨ds,ρ1,ps,e1,hk,e2,rfl⟩
  ·cases em
  ·cases em
 ·cases em
theorem jc{f:Fd}{n k:Nat}{x:Str}{pn:List Str}{js:List (Option Nat)}{ms:M (List (Option D))}(F:Dfn X.prog X.w X.K X.mg X.base x pn k (spOf K n f))(hr:Room k X.A)(hg:Gl X x)(ha:EG K X (e::es) js ms)(hn:js.length=n:=by rfl)(hdb:(x==("__debug__" : Str))=false:=by decide)
  (he:starEach (e::es) X.env=(false,eval e X.env)::starEach es X.env:=by rfl) (hpl:(backTo pos (starEach es X.env)).any (·.1)=false:=by rfl):ER K X (.Call (.Name x p) (e::es) [] pos) (mFn f js ms):=ER.mk fun hk=>PE.imp (a1m F hr hg (ha hk) hdb he hpl) fun σ H Q z9=>by
 obtain⟨tg,F,ρ,r,ρ',G,em,q⟩:=z9;obtain⟨ds,ρ1,ps,e1,hj,e2,rfl⟩:=a2l em;refine⟨tg,F,ρ,ds,ρ1,G,e1,fun vs H1 F1 G1 x1 ar =>?_⟩
 have L:=ar.lent;show spOf K n f (vs++[]) H1 Q E0;rw[List.append_nil];refine⟨by rw[ar.length];exact hn,F1,_,r,ps,ac1 G1 hj L,e2,fun v H' F' O' s' x' fin rr =>?_⟩
 exact q v H' F' (agb G1 L x' s' fin) (x1.trans (ai0 G1 L x')) (yj x1 (aof G1 L fin rr))
structure EIf (K:Fg9) (X:Cx) (ifs:List Expr) (m:M Bool):Prop where
 go:X.K=K->PIf X ifs (TB K m)
instance {K:Fg9} {X:Cx} {ifs:List Expr} {m:M Bool}:CoeFun (EIf K X ifs m) fun _=>X.K=K->PIf X ifs (TB K m):=⟨EIf.go⟩
theorem nu:EIf K X [] (ret true):=EIf.mk fun _ qv s σ H Q I z9=>by
 obtain⟨tg,F,ρ,k,ρ',G,em,q⟩:=z9;obtain⟨rfl,rfl⟩:=jh em;exact ayf qv s σ H Q I (q H F G (Ext.refl _ _ _))
theorem amb{m:M Bool}(h:ET K X c m):EIf K X [c] m:=EIf.mk fun hk=>aye (h hk)
noncomputable def compD(b:D->Ro->Option Ro)(mc:M Bool)(me:M D):List D->List D->M (List D)
 | [],ys=>ret ys
 | d::ds,ys=>fun ρ=>match b d ρ with
  | none=>none
  | some ρ1=>(mc.bind fun k=>if k=true then me.bind fun y=>compD b mc me ds (ys++[y]) else compD b mc me ds ys) ρ1
theorem af8{b:D->Ro->Option Ro}{mc:M Bool}{me:M D}:∀{l ys yf:List D} {ρ ρ':Ro},compD b mc me l ys ρ=some (.ok yf,ρ')->ys.length<=yf.length
 | [],ys,yf,ρ,ρ',h=>by
  obtain⟨rfl,_⟩:=jh (show ret ys ρ=_ from h)
  exact Nat.le_refl _
 | d::ds,ys,yf,ρ,ρ',h=>by
  unfold compD at h;split at h
  ·cases h
  ·obtain⟨k,ρ2,e2,h⟩:=au h;split at h
   ·obtain⟨y,ρ3,e3,h⟩:=au h;have:=af8 h;rw[List.length_append] at this;omega
   ·exact af8 h
def tu(src:List (Option Nat))(mi:M (List D))(b:D->Ro->Option Ro)(mc:M Bool)(me:M D):M Rv:=mi.bind fun l ρ=>if okJs ρ src=true then match compD b mc me l [] (lend ρ src (src.map fun _=>none)) with
  | some (.ok ys,ps)=>if ys.length<=capS then some (.ok (.fr ys),putB ρ src ps) else none
  | some (.exc x,ps)=>some (.exc x,putB ρ src ps)
  | none=>none
 else none
theorem ava{src:List (Option Nat)}{mi:M (List D)}{b:D->Ro->Option Ro}{mc:M Bool}{me:M D}{ρ ρ':Ro}{r:Rv}(h:tu src mi b mc me ρ=some (.ok r,ρ')):∃l ρ1 ys ps,mi ρ=some (.ok l,ρ1)/\okJs ρ1 src=true/\compD b mc me l [] (lend ρ1 src (src.map fun _=>none))=some (.ok ys,ps)/\ys.length<=capS/\r=.fr ys/\ρ'=putB ρ1 src ps:=by
 obtain⟨l,ρ1,e1,em⟩:=au h;have em:(if okJs ρ1 src=true then match compD b mc me l [] (lend ρ1 src (src.map fun _=>none)) with
  | some (.ok ys,ps)=>if ys.length<=capS then some (Out.ok (Rv.fr ys),putB ρ1 src ps) else none
  | some (.exc x,ps)=>some (.exc x,putB ρ1 src ps)
  | none=>none
  else none)=some (.ok r,ρ'):=em
 split at em
 ·rename_i hk;split at em
  ·rename_i ys ps e2;split at em
   ·rename_i hz;cases em;exact⟨l,ρ1,ys,ps,e1,hk,e2,hz,rfl,rfl⟩
   ·cases em
  ·cases em
  ·cases em
 ·cases em
theorem aqq{F:Hp}{σ:L2.St}(src:List (Option Nat)):Lent K F σ (pick src σ) src (src.map fun _=>none):=by
 refine⟨by simp[pick],by simp,fun i j o h q =>?_,fun i d h q =>?_⟩
 ·unfold pick;rw[List.getElem?_map,h];show some ((σ[j]?).bind id)=some o;rw[q];rfl
 ·rw[List.getElem?_map,h] at q;cases q
theorem Ext.upd{O O':Addr->Prop}{F H F' H':Hp}{d:Addr}{o:HO}(x:Ext O O' F H F' H')(h:H d=none):Ext O O' F H F' (upd H' d o) :=
 ⟨x.sub,x.new,fun a u e n=>by rw[bc (fc e h)];exact x.keep a u e n,x.own,fun a e=>by
  by_cases ha:a=d
  ·subst ha;exact h
  ·rw[bc ha] at e;exact x.there a e⟩
theorem Good.upd{tg:Nat->Addr}{F H:Hp}{ρ:Ro}{σ:L2.St}{d:Addr}(G:Good K tg F H ρ σ)(hf:F d=none)(hn:¬Own ρ σ d)(o:HO)(hi:∀C dx fs,H d≠some (.ins C dx fs)):Good K tg F (upd H d o) ρ σ :=
 G.grow (Same.refl F) (fun b u e=>by
  have hb:b≠d:=fun z=>by
   subst z;rw[hf] at e;cases e
  rw[bc hb];exact G.sub b u e) (fun a w=>⟨(G.ownAt w).1,by
  have hb:a≠d:=fun z=>hn (z▸w)
  rw[bc hb]⟩) fun a C dx fvs h1 h2=>⟨h1,by
  have hb:a≠d:=fun z=>hi C dx fvs (z▸h2)
  rw[bc hb]⟩
theorem aet{mi:M (List D)}{bb:D->Ro->Option Ro}{mc:M Bool}{me:M D}{src:List (Option Nat)}(σ:L2.St)(H:Hp)(Q:VK)(t:T K (relR K) (tu src mi bb mc me) σ H Q):ap3 (TIt K mi) (TGd K bb) (TB K mc) (T K (relD K) me) src σ H Q:=by
 obtain⟨tg,F,ρ,r,ρ',G,em,q⟩:=t;obtain⟨l,ρ1,yf,ps,e1,hj,e2,hz,rfl,rfl⟩:=ava em;refine⟨tg,F,ρ,l,ρ1,G,e1,fun J H1 F1 G1 x1 Z dd hd =>?_⟩
 have L:Lent K F1 σ (pick src σ) src (src.map fun _=>none):=aqq src
 have Gl:=ac1 G1 hj L;have own0:¬Own (lend ρ1 src (src.map fun _=>none)) (pick src σ) dd:=fun z=>Gl.own_ne hd z rfl
 refine av7 Z (fun i ys σc Hc=>∃Fc ρc yd,Good K (tgOf (pick src σ)) Fc Hc ρc σc/\Ext (Own (lend ρ1 src (src.map fun _=>none)) (pick src σ)) (Own ρc σc) F1 H1 Fc Hc/\Fc dd=none/\¬Own ρc σc dd/\Hc dd=some (.lst ys)/\IsL K Fc yd ys/\compD bb mc me (l.drop i) yd ρc=some (.ok yf,ps))
  ⟨F1,_,[],Gl.upd (G1.freeF hd) own0 _ (fun _ _ _ z=>by rw[hd] at z;cases z),(Ext.refl _ _ _).upd hd,G1.freeF hd,own0,dh,.nil,e2⟩ ?_ ?_ ?_
 ·rintro i ys σc Hc _ ⟨Fc,ρc,yd,Gc,xc,_,_,hdd,_,_⟩
  exact⟨xc.sub.trans Gc.sub,hdd⟩
 ·rintro i d x ys σc Hc0 Hc M hdl ⟨Fc0,ρc,yd,Gc0,xc0,fd0,od0,hdd0,iy0,ec⟩ al hM
  obtain⟨Fc,Gc,xc,_,idl,xa⟩:=aoj Gc0 xc0 xc0.sub al;have iy:=iy0.mono xa.sub;have hlt:i < l.length:=(List.getElem?_eq_some_iff.mp hdl).1;have edl:l[i]=d:=(List.getElem?_eq_some_iff.mp hdl).2;rw[List.drop_eq_getElem_cons hlt,edl] at ec;unfold compD at ec;have step:∀{F2 H2:Hp} {ρ2 ρ3:Ro} {σ2 σ3:L2.St} {F3 H3:Hp},F2 dd=none->¬Own ρ2 σ2 dd->H2 dd=some (.lst ys)->Ext (Own ρ2 σ2) (Own ρ3 σ3) F2 H2 F3 H3->F3 dd=none/\¬Own ρ3 σ3 dd/\H3 dd=some (.lst ys):=fun{F2 H2 ρ2 ρ3 σ2 σ3 F3 H3} h1 h2 h3 x3=>by
   refine⟨?_,fun z =>?_,x3.keep _ _ h3 h2⟩
   ·cases z:F3 dd with
    | none=>rfl
    | some o =>
     rcases x3.new _ _ z with z | z | z
     ·rw[h1] at z;cases z
     ·rw[h3] at z;cases z
     ·exact absurd z h2
   ·rcases x3.own _ z with z | z
    ·exact h2 z
    ·rw[h3] at z;cases z
  obtain⟨fd,od,hdd⟩:=step fd0 od0 hdd0 xa;split at ec
  ·cases ec
  ·rename_i ρ2 eb;refine⟨_,Fc,ρc,d,ρ2,Gc,idl,eb,fun σ2 H2 F2 G2 x2 =>?_⟩
   obtain⟨k,ρ3,ek,ec⟩:=au ec;obtain⟨fd2,od2,hdd2⟩:=step fd od hdd x2;refine⟨_,F2,ρ2,k,ρ3,G2,ek,fun H3 F3 G3 x3 =>?_⟩
   obtain⟨fd3,od3,hdd3⟩:=step fd2 od2 hdd2 x3;cases k with
   | false =>
    refine iteF (hM _ _ _ ⟨F3,ρ3,yd,G3,(xc.trans x2).trans x3,fd3,od3,hdd3,(iy.mono x2.sub).mono x3.sub,ec⟩)
   | true =>
    obtain⟨y,ρ4,ey,ec⟩:=au ec;refine iteT ⟨_,F3,ρ3,y,ρ4,G3,ey,fun v H4 F4 G4 x4 iv =>?_⟩
    obtain⟨fd4,od4,hdd4⟩:=step fd3 od3 hdd3 x4;refine⟨hdd4,?_,hM _ _ _ ⟨F4,ρ4,yd++[y],G4.upd fd4 od4 _ (fun _ _ _ z=>by rw[hdd4] at z;cases z),(((xc.trans x2).trans x3).trans x4).upd hd,fd4,od4,dh,?_,ec⟩⟩
    ·have:=af8 ec;rw[List.length_append,iy.length] at this;rw[sizeLine_eq];exact Nat.lt_of_lt_of_le (by simpa using Nat.lt_succ_self ys.length) (Nat.le_trans this hz)
    ·exact(((iy.mono x2.sub).mono x3.sub).mono x4.sub).append (.cons iv .nil)
 ·rintro ys σc Hc ⟨Fc,ρc,yd,Gc,xc,fd,od,hdd,iy,ec⟩
  rw[List.drop_eq_nil_of_le (Nat.le_refl _)] at ec;obtain⟨rfl,rfl⟩:=jh (show ret yd ρc=_ from ec)
  have fin:Fin K Fc Hc (pick src σ) ps (Own ps σc):=⟨fun i l' e=>by
   obtain⟨o,ho,a,ws,rfl,hf,hh,hl,ht⟩:=Gc.at e;rw[ht i rfl];exact⟨⟨i,⟨_,_,e⟩,ho⟩,hf,ws,hh,hl⟩⟩
  refine q _ Hc Fc (agb G1 L xc Gc.sub fin) (x1.trans (ai0 G1 L xc)) ⟨dd,ys,rfl,.inl (x1.there dd hd),fd,hdd,iy,fun⟨j,w⟩ =>?_⟩
  exact G1.own_ne hd ⟨j,adp w⟩ rfl
theorem wj{ifs:List Expr}{scope:Scope}{mi:M (List D)}{bb:D->Ro->Option Ro}{mc:M Bool}{me:M D}(fr N:List Str)(src:List (Option Nat))(hc:X.calm=true)(hi:IT K X tgt iter mi)
  (hg:∀fp s H,GV K (cxC X N scope fr fp s H) tgt bb) (ht:∀fp s H,EIf K (cxC X N scope fr fp s H) ifs mc) (he:∀fp s H,EV K (cxC X N scope fr fp s H) elt me)
  (hok:ahb X.env X.N scope fr N src=true:=by rfl) (hkind:scope.kind=.function:=by rfl) (hclos:closureFor scope X.env=pure (mq X.env fr):=by rfl)
  (hs:∀x,foldedSetIterable iter X.env x=pure x:=by intro _;rfl):ER K X (.ListComp elt [⟨tgt,iter,ifs,0⟩] scope pos) (tu src mi bb mc me):=ER.mk fun hk=>by
 have hkc:∀fp s H,(cxC X N scope fr fp s H).K=K:=fun _ _ _=>hk
 refine PE.imp (ayk fr N src hc (hi hk) (fun fp s H=>(hg fp s H).go (hkc _ _ _)) (fun fp s H=>(ht fp s H).go (hkc _ _ _)) (fun fp s H=>(he fp s H).go (hkc _ _ _)) hok hkind hclos hs) aet
end
end Dn
namespace Mn
open L2
theorem aya{X:Cx}{tg iter elt:Expr}{ifs:List Expr}{scope:Scope}{cpos pos px:Pos}{wi:TI}{g:TG}{ti:TT}{te:TE}{i:Nat}{x:Str}(fr N:List Str)(src:List (Option Nat))(hN:X.N.Nodup)(hxi:X.N[i]? = some x)(hx:Loc X.env.scope x)(hc:X.calm=true)(hi:PI X tg iter wi)
  (hg:∀fp s H,PG (cxC X N scope fr fp s H) tg g) (ht:∀fp s H,PIf (cxC X N scope fr fp s H) ifs ti) (he:∀fp s H,PE (cxC X N scope fr fp s H) elt te)
  (hsw:swapsWith (.ListComp elt [⟨tg,iter,ifs,0⟩] scope cpos) (some (.Name x px)) pos.line X.env=pure true:=by rfl)
  (hok:ahb X.env X.N scope fr N src=true:=by rfl) (hkind:scope.kind=.function:=by rfl) (hclos:closureFor scope X.env=pure (mq X.env fr):=by rfl)
  (hs:∀x,foldedSetIterable iter X.env x=pure x:=by intro _;rfl) (hf:X.fn x=true∨X.env.scope.names.lookup x=some .local:=by first | exact .inl rfl | exact .inr rfl | assumption) :
  PS X (.Assign [.Name x px] (.ListComp elt [⟨tg,iter,ifs,0⟩] scope cpos) pos) (tAsg (ap3 wi g ti te src) (avt i)):=by
 have C:=CompOk.of hok;intro qv s σ H D I h;rw[exec_Assign_Name_used _ _ _ _ hsw];refine wpAny_bind (wpAny_standAt (wpAny_bind ?_));show wpAny _ _ (comprehension (.ListComp elt [⟨tg,iter,ifs,0⟩] scope cpos) scope X.env (firstIterPos [⟨tg,iter,ifs,0⟩] cpos) (newList []) (firstAsync [⟨tg,iter,ifs,0⟩]) (firstIter [⟨tg,iter,ifs,0⟩] X.env) (some (assign (.Name x px) X.env)) >>= fun _=>pure ()) _ _ _
 refine wpAny_bind (wpAny_comprehension_free (use:=some (assign (.Name x px) X.env)) (Q:=fun _ s'=>wpAny (model X.prog X.w) X.A (pure ()) (fun _ s''=>wpAny (model X.prog X.w) X.A (pure Flow.next) (SP X qv D) X.xe s'') X.xe s') rfl hs hclos hkind C.loc (wpAny_mono (hi qv s σ H _ I h) (fun v s1 h1=>wpAny_mono h1 (fun itv s2 h2 =>?_) fun _ _ e=>e) fun _ _ e=>e))
 obtain⟨it,fp,tn,J,H2,e,I2,T,st2,f2,q2⟩:=h2;subst e;have hd0:H2 s2.heap.objs.size=none:=I2.hok.fresh (Nat.le_refl _);obtain⟨W,⟨m0,w0⟩,turn⟩:=q2 s2.heap.objs.size hd0;refine wpAny_newObj_type ?_;generalize hs3:({ s2 with heap:=s2.heap.push { cls:=.type "list", dict:=none,data:=.seq ([]:List Value).toArray } }:Shared)=s3
 have keep2:∀b o,s2.heap.get? b=some o->s3.heap.get? b=some o:=fun b o e=>by rw[<-hs3];exact Heap.get?_push_of_some _ e
 have I3:Inv X qv σ (upd H2 s2.heap.objs.size (.lst [])) s3:=by
  rw[<-hs3];exact I2.laid (t':=s2.toks) (fun b u q=>Heap.get?_push_of_some _ q) (Nat.le_refl _) ⟨Nat.zero_le _,[],0,.nil,Heap.get?_push_size _ rfl⟩
 have ne0:∀b∈fp,b≠s2.heap.objs.size:=fun b hb=>by
  obtain⟨o,e,_⟩:=T.obj _ _ st2 b hb;exact Nat.ne_of_lt (Heap.lt_size e)
 have f3:∀b∈fp,FpOk X qv (upd H2 s2.heap.objs.size (.lst [])) b:=fun b hb=>⟨by rw[bc (ne0 b hb)];exact(f2 b hb).1,(f2 b hb).2⟩
 have lt3:∀b∈fp,b < s3.heap.objs.size:=fun b hb=>by
  obtain⟨o,e,_⟩:=T.obj _ _ st2 b hb;exact Heap.lt_size (keep2 b o e)
 refine wpAny_newFunctionEnv C.cell (by intro y hy;simp at hy) (fun h₁ hns₁ hsb₁ =>?_) hkind
 have keep3:∀b o,s3.heap.get? b=some o->h₁.get? b=some o:=fun b o e=>hsb₁.extBut b o (Nat.ne_of_lt (Heap.lt_size e)) (Heap.get?_push_of_some _ e)
 have st4:tn 0 h₁:=T.keep _ _ _ st2 fun b hb o e=>keep3 b o (keep2 b o e)
 have I4:=anm (tk:=s3.toks+([]:List (Str×Value)).length) I3 C hkind f3 lt3 hns₁ keep3;have loop:=adn (X:=cxC X N scope fr fp s3 (upd H2 s2.heap.objs.size (.lst []))) (iter:=iter) (scope:=scope) (pos:=cpos) (d:=s2.heap.objs.size) (Q:=fun v H1=>D.nx (σ.set i (some v)) H1)
  (R:=compPost (model X.prog X.w) X.A X.xe (some (assign (.Name x px) X.env)) (fun _ s'=>wpAny (model X.prog X.w) X.A (pure ()) (fun _ s''=>wpAny (model X.prog X.w) X.A (pure Flow.next) (SP X qv D) X.xe s'') X.xe s') (.ref s2.heap.objs.size) s3.heap.objs.size) hc rfl T
  (fun H' hn b hb=>⟨hn b hb,Nat.ne_of_lt (lt3 b hb),I4.ok.exfs b hb,.inl hb,(I4.ok.exf b hb).2,fun p hp=>absurd (show p∈([]:List (Addr×Obj)) from hp) (by simp)⟩)
  (hg fp s3 _) (ht fp s3 _) (he fp s3 _) turn w0 I4 st4 (fun b hb=>(f3 b hb).1) (fun σ' H' s' I6 qn=>by
   obtain⟨m6,hn6,_⟩:=I6.loc;have fC:FpOk X qv H' s3.heap.objs.size:=I3.fpOk (Nat.le_refl _) I6.free;have I7:Inv X qv σ H' s':=ano I3 f3 I6 (Heap.SameBut.refl ..);refine wpAny_assign_Name (aey I7 hN hxi hx (v:=.ref s2.heap.objs.size) rfl (fun s8 I8 ⟨a,sb,ha⟩ =>?_) hf)
   have hne:s3.heap.objs.size≠a:=by
    rcases ha with rfl | ha
    ·exact fC.2.1
    ·exact(fC.2.2.2.2.1 x a ha).symm
   obtain⟨o6,es6,ep6,g6,r6⟩:=hn6;refine⟨m6,⟨o6,es6,ep6,(sb.2 _ hne).trans g6,r6⟩,fun h9 sb9=>wpAny_pure (wpAny_pure ⟨_,H',?_,qn⟩)⟩
   exact I8.turned (t':=s8.toks) (it:=s3.heap.objs.size) (fun b o hb e=>(sb9.2 b hb).trans e) fC.1 fC.2.1 fC.2.2.2.1 fC.2.2.2.2.1 fC.2.2.2.2.2)
 exact codeAny_compStart_list loop (T.self _ 0 _ _ _ st4 loop)
end Mn
namespace Dn
open L2 Mn
section
variable{K:Fg9}{X:Cx}{tgt iter elt:Expr}{pos p:Pos}
theorem ahl{i:Nat}{x:Str}{ifs:List Expr}{scope:Scope}{cpos:Pos}{mi:M (List D)}{bb:D->Ro->Option Ro}{mc:M Bool}{me:M D}(fr N:List Str)(src:List (Option Nat))(hN:X.N.Nodup)(hxi:X.N[i]? = some x)(hx:Loc X.env.scope x)(hc:X.calm=true)(hi:IT K X tgt iter mi)
  (hg:∀fp s H,GV K (cxC X N scope fr fp s H) tgt bb) (ht:∀fp s H,EIf K (cxC X N scope fr fp s H) ifs mc) (he:∀fp s H,EV K (cxC X N scope fr fp s H) elt me)
  (hsw:swapsWith (.ListComp elt [⟨tgt,iter,ifs,0⟩] scope cpos) (some (.Name x p)) pos.line X.env=pure true:=by rfl)
  (hok:ahb X.env X.N scope fr N src=true:=by rfl) (hkind:scope.kind=.function:=by rfl) (hclos:closureFor scope X.env=pure (mq X.env fr):=by rfl)
  (hs:∀x,foldedSetIterable iter X.env x=pure x:=by intro _;rfl) (hf:X.fn x=true∨X.env.scope.names.lookup x=some .local:=by first | exact .inl rfl | exact .inr rfl | assumption) :
  SV K X (.Assign [.Name x p] (.ListComp elt [⟨tgt,iter,ifs,0⟩] scope cpos) pos) (dSet i (tu src mi bb mc me)):=SV.mk fun hk=>by
 have hkc:∀fp s H,(cxC X N scope fr fp s H).K=K:=fun _ _ _=>hk
 refine PS.imp (aya fr N src hN hxi hx hc (hi hk) (fun fp s H=>(hg fp s H).go (hkc _ _ _)) (fun fp s H=>(ht fp s H).go (hkc _ _ _)) (fun fp s H=>(he fp s H).go (hkc _ _ _)) hsw hok hkind hclos hs hf) fun E σ H ⟨tg,F,ρ,fl,ρ',G,em,q⟩=>qu em q fun r ρ1 e1 em =>?_
 cases em;refine aet σ H _ ⟨tg,F,ρ,r,ρ1,G,e1,fun v H' F' G' x rr =>?_⟩
 obtain⟨G2,x2⟩:=G'.store x i rr;exact q _ H' F' G2 x2
end
@[irreducible] def fuel:Nat:=1000000000
section
variable{K:Fg9}{X:Cx}{e a b c:Expr}{es:List Expr}{pos p p2:Pos}
def isN:D->Bool
 | .non=>true
 | _=>false
def mIsN(neg:Bool)(m:M D):M D:=m.bind fun d=>ret (.bl (if neg then !isN d else isN d))
theorem az1{F H:Hp}{d:D}{x:V}(h:Bor K F H d x):decide (x=.non)=isN d:=by
 rcases h with h | ⟨a,vs,l',rfl,rfl,_⟩
 ·cases h <;> first | rfl | (simp[isN])
 ·simp[isN]
theorem ay9{neg:Bool}{m:M D}{t:TE->TE}(ht:∀te σ H Q,t te σ H Q=te σ H fun x H1=>Q (.bl (if neg then !decide (x=.non) else decide (x=.non))) H1)(σ:L2.St)(H:Hp)(Q:VK)(h:T K (relD K) (mIsN neg m) σ H Q):t (T K (relB K) m) σ H Q:=by
 rw[ht];obtain⟨tg,F,ρ,d,ρ',G,em,q⟩:=h;obtain⟨d1,ρ1,e1,em⟩:=au em;obtain⟨rfl,rfl⟩:=jh em;refine⟨tg,F,ρ,d1,_,G,e1,fun v H' F' G' x r =>?_⟩
 show Q (.bl (if neg then !decide (v=.non) else decide (v=.non))) H'
 rw[az1 r];exact q _ H' F' G' x (.bl _)
theorem avo{neg:Bool}{m:M D}{t:TE->TE}(ht:∀te σ H Q,t te σ H Q=te σ H fun x H1=>Q (.bl (if neg then !decide (x=.non) else decide (x=.non))) H1)(σ:L2.St)(H:Hp)(Q:Bool->Hp->Prop)(h:TB K (aai (mIsN neg m)) σ H Q):tB (t (T K (relB K) m)) σ H Q:=by
 obtain⟨tg,F,ρ,k,ρ',G,em,q⟩:=h;obtain⟨d1,ρ1,e1,em⟩:=au em;obtain⟨e3,rfl⟩:=fu em;obtain rfl:=aoi e3;refine ay9 ht σ H _ ⟨tg,F,ρ,_,_,G,e1,fun v H' F' G' x r =>?_⟩
 cases r;exact⟨k,rfl,q H' F' G' x⟩
theorem akc{j:Nat}{m:M D}(h:EB K X a m):ET K X (.Compare a [.Is] [.Constant .none j p] p2) (aai (mIsN false m)):=ET.mk fun hk=>PT.imp (a09 (a1q (h hk))) (avo (t:=tIsN) fun _ _ _ _=>rfl)
end
def amj(f:Fd):Prop:=∀ns:List Int,ns.length<=63->∃ps,f [.val (.kst (ns.map D.int))]=some (.ok (.v (.bl true)),ps)
theorem a0u{K:Fg9}{f:Fd}(h:amj f)(H:Hp)(a:Addr)(ns:List Int)(hn:ns.length<=63)(hS:SqL K H a (ns.map V.int)):spOf K 1 f [.ref a] H (fun v _=>v=.bl true) fun _ _ _=>False:=by
 obtain⟨ps,e⟩:=h ns hn;refine⟨rfl,H,_,_,ps,⟨Same.refl H,rfl,fun i s o e1 e2 =>?_,fun i j b ⟨⟨t,l,e1⟩,_⟩ _=>by cases i <;> simp at e1⟩,e,fun v H' F' O' _ _ _ rr =>?_⟩
 ·cases i with
  | zero =>
   simp at e1 e2;subst e1 e2;exact⟨_,rfl,.kst hS (ac4 ns)⟩
  | succ i=>simp at e1
 ·have rr:Is K F' (.bl true) v:=rr;cases rr;rfl
theorem walk{l:PySem.W.OpenLaw}{q:Program}{loose:List Str}{XP:(Str->Option Value)->Heap->Prop}{YP:World->Heap->Prop}{d:DefRec}{K:Params->Fg9}{f:Fd}{k:Nat}(ht:amj f)(hn:l.most=some 63)(hdf:d.params.defaults=[])(hr:Room k callerA)
  (hY:∀(w:World) (h:Heap),YP w h->(K w.params).In h)
  (F:∀(w:World) (mg:Str->Option Value) (fa:Addr) (h:Heap),(K w.params).In h->h.Ns mainGlobals mg->mg d.name=some (.ref fa) ->
   ∃fd:FuncData,(∀(s:Shared) (u:Value),BindsTo s fd ⟨[u],[]⟩ [("script", u)])/\∀base:Heap,(K w.params).In base->base.Ns mainGlobals mg->FnOk l.prog w (K w.params) mg base CX0 k fa fd ["script"] (spOf (K w.params) 1 f)) :
  PySem.W.WalkO q loose XP YP l.row.toRowW d [] (fun f vs=>PySem.call f vs) :=
 L2.axl (n:=63) (k:=k) (x := "script") (CX:=fun _=>CX0) (sp:=fun w=>spOf (K w.params) 1 f) hn (by decide) hdf hr hY F (fun _ H a ns hl _ hS=>a0u ht H a ns hl hS) fun _ _ _ _ _ z=>z
section
variable{α β:Type}(ρ:Ro)
@[simp] theorem a8j(a:α):ret a ρ=some (.ok a,ρ):=rfl
@[simp] theorem a7b(o:Option α):lift o ρ=match o with
 | some a=>some (.ok a,ρ)
 | none=>none:=rfl
@[simp] theorem az3(m:M α)(k:α->M β):M.bind m k ρ=match m ρ with
 | some (.ok a,ρ1)=>k a ρ1
 | some (.exc x,ρ1)=>some (.exc x,ρ1)
 | none=>none:=rfl
@[simp] theorem v_ap(m:M D):M.v m ρ=(m.bind fun d=>ret (.v d)) ρ:=rfl
@[simp] theorem d_ap(m:M Rv):M.d m ρ=(m.bind fun r=>ret r.d) ρ:=rfl
@[simp] theorem a8y(d:D):(Rv.v d).d=d:=rfl
@[simp] theorem a8i(l:List D):(Rv.fr l).d=.lst l:=rfl
@[simp] theorem a8h(d:D)(l:List D):(Rv.tf d l).d=.tup [d,.lst l]:=rfl
@[simp] theorem a8x(d:D):(Rv.v d).sl=.val d:=rfl
@[simp] theorem a8g(l:List D):(Rv.fr l).sl=.own none l:=rfl
@[simp] theorem a6v(i:Nat):mVar i ρ=match ρ[i]? with
 | some (.val d)=>some (.ok d,ρ)
 | some (.own none l)=>some (.ok (.lst l),ρ.set i (.val (.lst l)))
 | _=>none:=rfl
@[simp] theorem a4p(i:Nat):di i ρ=match ρ[i]? with
 | some (.val d)=>some (.ok d,ρ)
 | some (.own _ l)=>some (.ok (.lst l),ρ)
 | _=>none:=rfl
@[simp] theorem a4u(i:Nat):aif i ρ=match ρ[i]? with
 | some (.val d)=>some (.ok (.v d),ρ)
 | some (.own none l)=>some (.ok (.fr l),ρ.set i .emp)
 | _=>none:=rfl
@[simp] theorem a6x(i:Nat):mOwn i ρ=match ρ[i]? with
 | some (.own _ l)=>some (.ok l,ρ)
 | _=>none:=rfl
@[simp] theorem a2g(i:Nat)(l':List D):ac0 i l' ρ=match ρ[i]? with
 | some (.own t _)=>some (.ok (),List.set ρ i (.own t l'))
 | _=>none:=rfl
@[simp] theorem a4s(m1 m2:M D):jb m1 m2 ρ=(m1.bind fun x=>m2.bind fun y=>ret (x,y)) ρ:=rfl
@[simp] theorem a2h(i:Nat)(m2:M D):cu i m2 ρ=((di i).bind fun _=>m2.bind fun y=>(di i).bind fun x=>ret (x,y)) ρ:=rfl
@[simp] theorem a8l(g:D->D->Option Rv)(m:M (D×D)):mOp g m ρ=(m.bind fun p=>lift (g p.1 p.2)) ρ:=rfl
@[simp] theorem a8k(g:D->Option D)(m:M D):mUn g m ρ=(m.bind fun d=>lift (g d)) ρ:=rfl
@[simp] theorem a7a(m1 m2:M D):mAnd m1 m2 ρ=(m1.bind fun d=>(lift (asB d)).bind fun k=>if k=true then m2 else ret (.bl false)) ρ:=rfl
@[simp] theorem a4q(m:M D):aai m ρ=(m.bind fun d=>lift (asB d)) ρ:=rfl
@[simp] theorem a2f(g:D->D->Option Rv)(m:M (D×D)):ou g m ρ=aai (mOp g m).d ρ:=rfl
@[simp] theorem a4t(m:M Bool):afi m ρ=(m.bind fun k=>ret (!k)) ρ:=rfl
@[simp] theorem a4z(m1 m2:M Bool):ay3 m1 m2 ρ=(m1.bind fun k=>if k=true then m2 else ret false) ρ:=rfl
@[simp] theorem a6y(m1 m2:M Bool):mOrB m1 m2 ρ=(m1.bind fun k=>if k=true then ret true else m2) ρ:=rfl
@[simp] theorem a8m(m:M Bool)(m1 m2:M α):mIf m m1 m2 ρ=(m.bind fun k=>if k=true then m1 else m2) ρ:=rfl
@[simp] theorem a8o(c:Prop)[Decidable c](m1 m2:M α):(if c then m1 else m2) ρ=if c then m1 ρ else m2 ρ:=by split <;> rfl
@[simp] theorem a7j(c:Prop)[Decidable c](m1 m2:Sd):(if c then m1 else m2) ρ=if c then m1 ρ else m2 ρ:=by split <;> rfl
@[simp] theorem a8w(b:Bool):asB (.bl b)=some b:=rfl
@[simp] theorem a8e(b:Int):asI (.int b)=some b:=rfl
@[simp] theorem a7s(b:Bool):gNot (.bl b)=some (.bl (!b)):=rfl
@[simp] theorem a5a(b:Int):gNeg (.int b)=some (.int (-b)):=rfl
@[simp] theorem a5n(i j:Int):gAdd (.int i) (.int j)=some (.v (.int (i+j))):=rfl
@[simp] theorem a5l(l k:List D):gAdd (.tup l) (.tup k)=if l.length+k.length<=capS then some (.v (.tup (l++k))) else none:=rfl
@[simp] theorem a5m(l k:List D):gAdd (.lst l) (.lst k)=if l.length+k.length<=capS then some (.fr (l++k)) else none:=rfl
@[simp] theorem a5e(f:Int->Int->Option Int)(i j:Int):gInt f (.int i) (.int j)=(f i j).map fun k=>.v (.int k):=rfl
@[simp] theorem a71(i j:Int):fSub i j=some (i - j):=rfl
@[simp] theorem a5d(i j:Int):gMul (.int i) (.int j)=(fMul i j).map fun k=>.v (.int k):=rfl
@[simp] theorem a5b(l:List D)(k:Int):gMul (.tup l) (.int k)=if k=1 then some (.v (.tup l)) else if l≠[]/\2<=k/\k < 9223372036854775808/\l.length*k.toNat<=capS then some (.v (.tup (List.replicate k.toNat l).flatten)) else none:=rfl
@[simp] theorem a5c(l:List D)(k:Int):gMul (.lst l) (.int k)=if k.natAbs < 9223372036854775808/\l.length*k.toNat<=capS then some (.fr (List.replicate k.toNat l).flatten) else none:=rfl
@[simp] theorem a5j(f:Int->Int->Bool)(i j:Int):gCmp f (.int i) (.int j)=some (.v (.bl (f i j))):=rfl
@[simp] theorem a67(t:Ty)(m:M D):mIsi t m ρ=(m.bind fun d=>ret (.bl (isTy t d))) ρ:=rfl
@[simp] theorem a2o(f g:Int->Int->Bool)(m1 m2 m3:M D):ajr f g m1 m2 m3 ρ=(m1.bind fun x=>m2.bind fun y=>match x,y with
 | .int i,.int j=>if f i j=true then m3.bind fun z=>match z with
  | .int k=>ret (.bl (g j k))
  | _=>lift none
  else ret (.bl false)
 | _,_=>lift none) ρ:=rfl
@[simp] theorem a6z:mNil ρ=some (.ok [],ρ):=rfl
@[simp] theorem a4x(m:M D)(ms:M (List D)):bw m ms ρ=(m.bind fun d=>ms.bind fun ds=>ret (d::ds)) ρ:=rfl
@[simp] theorem a2n(i:Nat)(ms:M (List D)):dq i ms ρ=((di i).bind fun _=>ms.bind fun ds=>(di i).bind fun d=>ret (d::ds)) ρ:=rfl
@[simp] theorem a6w(m:M (List D)):mTup m ρ=(m.bind fun ds=>lift (gTup ds)) ρ:=rfl
@[simp] theorem a66(m:M (List D)):mLst m ρ=(m.bind fun ds=>lift (gLst ds)) ρ:=rfl
@[simp] theorem a4y(g:List D->Option Rv)(m:M (List D)):gq g m ρ=(m.bind fun ds=>lift (g ds)) ρ:=rfl
@[simp] theorem a8r(f:D->Option Rv)(d:D):g1 f [d]=f d:=rfl
@[simp] theorem a8q(f:D->D->Option Rv)(d d':D):g2 f [d,d']=f d d':=rfl
@[simp] theorem a3c(l:List D):itemsD (.tup l)=some l:=rfl
@[simp] theorem a3d(l:List D):itemsD (.lst l)=some l:=rfl
@[simp] theorem a3e(l:List D):itemsD (.kst l)=some l:=rfl
@[simp] theorem a5k(l:List D):gAll (.lst l)=(aah l).map fun bs=>.v (.bl (bs.all id)):=rfl
@[simp] theorem a3k(i:Int):avv (.int i)=some (.v (.int i)):=rfl
@[simp] theorem a5f(i:Bool):avv (.bl i)=some (.v (.int (if i then 1 else 0))):=rfl
@[simp] theorem a7u(d:D)(k:Int):gIx d (.int k)=(itemsD d).bind fun l=>(atI l k).map fun x=>.v x:=rfl
@[simp] theorem a4w(i:Nat)(ml mh:M (Option Int)):au9 i ml mh ρ=((di i).bind fun _=>ml.bind fun lo=>mh.bind fun hi=>(di i).bind fun d=>lift (gCut d lo hi)) ρ:=rfl
@[simp] theorem a4r(m:M D):aq4 m ρ=(m.bind fun d=>lift ((asI d).map some)) ρ:=rfl
@[simp] theorem a5g(l:List D)(lo hi:Option Int):gCut (.tup l) lo hi=some (.v (.tup (cutD l lo hi))):=rfl
@[simp] theorem a5h(l:List D)(lo hi:Option Int):gCut (.lst l) lo hi=some (.fr (cutD l lo hi)):=rfl
@[simp] theorem a5i(l:List D)(lo hi:Option Int):gCut (.kst l) lo hi=some (.fr (cutD l lo hi)):=rfl
@[simp] theorem a68(neg:Bool)(m:M D):mIsN neg m ρ=(m.bind fun d=>ret (.bl (if neg then !isN d else isN d))) ρ:=rfl
@[simp] theorem a2i(m:M D):ph m ρ=(m.bind fun d=>lift (itemsD d)) ρ:=rfl
@[simp] theorem a69(g:α->Option β)(m:M α):mGet g m ρ=(m.bind fun ds=>lift (g ds)) ρ:=rfl
@[simp] theorem al5(j:Int):nq [.int j]=if j.natAbs < 4611686018427387904 then some (rangeD 0 j.toNat) else none:=rfl
@[simp] theorem azg(i j:Int):aim [.int i,.int j]=if i.natAbs < 4611686018427387904/\j.natAbs < 4611686018427387904 then some (rangeD i (j - i).toNat) else none:=rfl
@[simp] theorem azk(i j:Int):ain (.int i) (.int j)=if 0 < j/\j < 1000000000000000000000000000000000000000000000000000000000000 then some (.v (.tup [.int (i / j),.int (i % j)])) else none:=rfl
@[simp] theorem a65(i:Nat)(g:List D->List D->Option (D×List D))(ms:M (List D)):mMut i g ms ρ=((mOwn i).bind fun _=>ms.bind fun ds=>(mOwn i).bind fun l=>(lift (g l ds)).bind fun r=>(ac0 i r.2).bind fun _=>ret r.1) ρ:=rfl
@[simp] theorem azn(l:List D)(d:D):vy l [d]=if l.length < capS then some (.non,l++[d]) else none:=rfl
@[simp] theorem a4v:gn ρ=some (.ok [],ρ):=rfl
@[simp] theorem a2k(m:M D)(ms:M (List (Option D))):bf m ms ρ=(m.bind fun d=>ms.bind fun ds=>ret (some d::ds)) ρ:=rfl
@[simp] theorem a2j(j:Nat)(ms:M (List (Option D))):b8 j ms ρ=((di j).bind fun _=>ms.bind fun ds=>ret (none::ds)) ρ:=rfl
@[simp] theorem a8n(f:Fd)(js:List (Option Nat))(ms:M (List (Option D))):mFn f js ms ρ=(ms.bind fun ds ρ=>if okJs ρ js=true then match f (lend ρ js ds) with
  | some (.ok r,ps)=>some (.ok r,putB ρ js ps)
  | some (.exc x,ps)=>some (.exc x,putB ρ js ps)
  | none=>none
 else none) ρ:=rfl
@[simp] theorem avc(src:List (Option Nat))(mi:M (List D))(b:D->Ro->Option Ro)(mc:M Bool)(me:M D):tu src mi b mc me ρ=(mi.bind fun l ρ=>if okJs ρ src=true then match compD b mc me l [] (lend ρ src (src.map fun _=>none)) with
  | some (.ok ys,ps)=>if ys.length<=capS then some (.ok (.fr ys),putB ρ src ps) else none
  | some (.exc x,ps)=>some (.exc x,putB ρ src ps)
  | none=>none
 else none) ρ:=rfl
@[simp] theorem a4o:okJs ρ []=true:=rfl
@[simp] theorem a2a(r:List (Option Nat)):okJs ρ (none::r)=okJs ρ r:=rfl
@[simp] theorem a1z(j:Nat)(r:List (Option Nat)):okJs ρ (some j::r)=((match ρ[j]? with
  | some (.own _ _) => !r.contains (some j)
  | _=>true)&&okJs ρ r):=rfl
@[simp] theorem lend_eq(js:List (Option Nat))(ds:List (Option D)):lend ρ js ds=(List.zip js ds).mapIdx fun i p=>aju ρ i p.1 p.2:=rfl
@[simp] theorem a0e(i j:Nat)(d:Option D):aju ρ i (some j) d=match ρ[j]? with
  | some (.val d)=>.val d
  | some (.own _ l)=>.own (some i) l
  | _=>.emp:=rfl
@[simp] theorem a7c(i:Nat)(d:D):aju ρ i none (some d)=.val d:=rfl
@[simp] theorem a7d(i:Nat):aju ρ i none none=.emp:=rfl
@[simp] theorem a6k(js:List (Option Nat))(ps:Ro):putB ρ js ps=ρ.mapIdx fun j s=>putS js ps j s:=rfl
@[simp] theorem a6j(js:List (Option Nat))(ps:Ro)(j:Nat)(s:Sl):putS js ps j s=match js.findIdx? (fun o=>o==some j) with
 | none=>s
 | some i=>match s with
  | .own t _=>match ps[i]? with
   | some (.own (some i') l')=>if i'=i then .own t l' else .emp
   | _=>.emp
  | s=>s:=rfl
@[simp] theorem a8s(nl np:Nat)(g:Sd):fnD nl np g ρ=match g (ρ++List.replicate (nl - np) .emp) with
 | some (.ret r,ρ)=>some (.ok r,ρ.take np)
 | some (.nx,ρ)=>some (.ok (.v .non),ρ.take np)
 | some (.exc x,ρ)=>some (.exc x,ρ.take np)
 | _=>none:=rfl
@[simp] theorem a8u:dNx ρ=some (.nx,ρ):=rfl
@[simp] theorem a76(g k:Sd):dSeq g k ρ=match g ρ with
 | some (.nx,ρ1)=>k ρ1
 | r=>r:=rfl
@[simp] theorem a8z(m:M α)(k:α->Sd):dM m k ρ=match m ρ with
 | some (.ok x,ρ1)=>k x ρ1
 | some (.exc x,ρ1)=>some (.exc x,ρ1)
 | none=>none:=rfl
@[simp] theorem a77(m:M Rv):dRet m ρ=dM m (fun r ρ=>some (.ret r,ρ)) ρ:=rfl
@[simp] theorem a8v(m:M Bool)(g k:Sd):dIf m g k ρ=dM m (fun z=>if z=true then g else k) ρ:=rfl
@[simp] theorem a5q(m:M α):adm m ρ=dM m (fun _ ρ=>some (.nx,ρ)) ρ:=rfl
@[simp] theorem a75(i:Nat)(m:M Rv):dSet i m ρ=dM m (fun r ρ=>some (.nx,List.set ρ i r.sl)) ρ:=rfl
@[simp] theorem a8a(m:M D)(b:D->Ro->Option Ro):dAsg m b ρ=dM m (fun d ρ=>(b d ρ).map fun ρ'=>(.nx,ρ')) ρ:=rfl
@[simp] theorem a74(i:Nat)(mi m:M D):dSub i mi m ρ=(dM m fun d=>dM (mOwn i) fun _=>dM mi fun k=>dM (mOwn i) fun l=>dM (lift ((asI k).bind (ixN l.length))) fun j=>dM (ac0 i (l.set j d)) fun _=>dNx) ρ:=rfl
@[simp] theorem a79(f:Int->Int->Int)(i:Nat)(m:M D):dAug f i m ρ=(dM (mVar i) fun x=>dM m fun y=>dM (lift ((asI x).bind fun n=>(asI y).map fun k=>D.int (f n k))) fun z ρ=>some (.nx,List.set ρ i (.val z))) ρ:=rfl
@[simp] theorem a78(m:M (List D))(b:D->Ro->Option Ro)(g:Sd):dFor m b g ρ=dM m (forD b g) ρ:=rfl
@[simp] theorem aog(i:Nat)(d:D):bj i d ρ=some (List.set ρ i (.val d)):=rfl
@[simp] theorem a8d:bNil [] ρ=some ρ:=rfl
@[simp] theorem a5r(b:D->Ro->Option Ro)(bs:List D->Ro->Option Ro)(d:D)(r:List D):jg b bs (d::r) ρ=(b d ρ).bind (bs r):=rfl
@[simp] theorem a8c(n:Nat)(bs:List D->Ro->Option Ro)(l:List D):bTup n bs (.tup l) ρ=if l.length=n then bs l ρ else none:=rfl
end
section
variable(c:Prop)[Decidable c](b:Bool)(ρ:Ro)
@[simp] theorem a7i:(if c then some (Out.ok (D.bl b),ρ) else some (Out.ok (D.bl false),ρ))=some (.ok (.bl (decide c&&b)),ρ):=by by_cases h:c <;> simp[h]
end
@[simp] theorem b7{n:Nat}(h:n<=1000):n<=capS:=Nat.le_trans h (by decide)
theorem azy:capS=16777216:=rfl
@[simp] theorem a7r(ds:List D):gTup ds=if ds.length<=capS then some (.tup ds) else none:=rfl
@[simp] theorem a7t(ds:List D):gLst ds=if ds.length<=capS then some (.fr ds) else none:=rfl
@[simp] theorem az2{α:Type}(l:List α)(f:α->Bool):aah (l.map fun d=>D.bl (f d))=some (l.map f):=by
 have:=ahd (l.map f);rw[List.map_map] at this;exact this
def zx(s:Sl):List D->Sl
 | []=>s
 | d::r=>zx (.val d) r
theorem oh{me:M D}{rest:Ro}{f:D->D}:∀{l:List D} {ys:List D} {s:Sl},(∀d∈l,me (.val d::rest)=some (.ok (f d),.val d::rest))->compD (bj 0) (ret true) me l ys (s::rest)=some (.ok (ys++l.map f),zx s l::rest)
 | [],ys,s,_=>by simp[compD,zx]
 | d::r,ys,s,h=>by
  have h1:=h d (List.mem_cons_self ..);have ih:=oh (me:=me) (rest:=rest) (f:=f) (l:=r) (ys:=ys++[f d]) (s:=.val d) fun x hx=>h x (List.mem_cons_of_mem _ hx)
  simp[compD,h1,ih,zx]
theorem uf{mc:M Bool}{me:M D}{rest:Ro}{p:D->Bool}{f:D->D}:∀{l:List D} {ys:List D} {s:Sl},(∀d∈l,mc (.val d::rest)=some (.ok (p d),.val d::rest))->(∀d∈l,p d=true->me (.val d::rest)=some (.ok (f d),.val d::rest)) ->
  compD (bj 0) mc me l ys (s::rest)=some (.ok (ys++(l.filter p).map f),zx s l::rest)
 | [],ys,s,_,_=>by simp[compD,zx]
 | d::r,ys,s,hc,h=>by
  have h0:=hc d (List.mem_cons_self ..);cases hp:p d with
  | true =>
   have h1:=h d (List.mem_cons_self ..) hp;have ih:=uf (mc:=mc) (me:=me) (rest:=rest) (p:=p) (f:=f) (l:=r) (ys:=ys++[f d]) (s:=.val d) (fun x hx=>hc x (List.mem_cons_of_mem _ hx)) fun x hx=>h x (List.mem_cons_of_mem _ hx)
   simp[compD,h0,h1,ih,zx,hp]
  | false =>
   have ih:=uf (mc:=mc) (me:=me) (rest:=rest) (p:=p) (f:=f) (l:=r) (ys:=ys) (s:=.val d) (fun x hx=>hc x (List.mem_cons_of_mem _ hx)) fun x hx=>h x (List.mem_cons_of_mem _ hx)
   simp[compD,h0,ih,zx,hp]
@[simp] theorem a5p(b:D->Ro->Option Ro)(g:Sd)(ρ:Ro):forD b g [] ρ=some (.nx,ρ):=rfl
theorem lg(b:D->Ro->Option Ro)(g:Sd)(d:D)(ds:List D)(ρ:Ro):forD b g (d::ds) ρ=match b d ρ with
  | none=>none
  | some ρ1=>match g ρ1 with
   | some (.nx,ρ2)=>forD b g ds ρ2
   | some (.cont,ρ2)=>forD b g ds ρ2
   | some (.brk,ρ2)=>some (.nx,ρ2)
   | some (.ret r,ρ2)=>some (.ret r,ρ2)
   | some (.exc x,ρ2)=>some (.exc x,ρ2)
   | none=>none:=rfl
@[simp] theorem a70{α:Type}(p:α->Bool)(a:α)(l:List α):List.findIdx? p (a::l)=if p a=true then some 0 else (List.findIdx? p l).map (· + 1):=by
 rw[List.findIdx?_cons]
@[simp] theorem a8t{α:Type}(p:α->Bool):List.findIdx? p ([]:List α)=none:=rfl
theorem asr(ns:List Int)(lo hi:Option Int):∃ms:List Int,cutD (ns.map D.int) lo hi=ms.map D.int/\ms.length<=ns.length:=by
 refine⟨(ns.drop (HT.sIx ns.length 0 lo)).take (HT.sIx ns.length ns.length hi - HT.sIx ns.length 0 lo),?_,?_⟩
 ·unfold cutD;rw[List.length_map,List.map_take,List.map_drop]
 ·rw[List.length_take,List.length_drop];omega
theorem ada{b:D->Ro->Option Ro}{g:Sd}(Inv:Nat->Ro->Prop):∀{l:List D} {ρ:Ro} (k:Nat),Inv k ρ->(∀i d ρ,l[i]? = some d->Inv (k+i) ρ->∃ρ1 ρ2,b d ρ=some ρ1/\(g ρ1=some (.nx,ρ2)∨g ρ1=some (.cont,ρ2))/\Inv (k+i+1) ρ2) ->
  ∃ρ',forD b g l ρ=some (.nx,ρ')/\Inv (k+l.length) ρ'
 | [],ρ,k,h0,_=>⟨ρ,rfl,h0⟩
 | d::r,ρ,k,h0,hs=>by
  obtain⟨ρ1,ρ2,e1,e2,h1⟩:=hs 0 d ρ rfl h0;obtain⟨ρ',e3,h3⟩:=ada (b:=b) (g:=g) Inv (l:=r) (ρ:=ρ2) (k+1) h1 fun i x ρ hx hi=>by
   have:=hs (i+1) x ρ (by simpa using hx) ((show k+(i+1)=k+1+i by omega)▸hi)
   have e:k+(i+1)+1=k+1+i+1:=by omega
   rw[e] at this;exact this
  refine⟨ρ',?_,?_⟩
  ·rw[lg,e1];rcases e2 with e2 | e2 <;> simp only[e2] <;> exact e3
  ·have e:k+(d::r).length=k+1+r.length:=by simp;omega
   rw[e];exact h3
theorem za{b:D->Ro->Option Ro}{mc:M Bool}{me:M D}(Inv:Nat->List D->Ro->Prop):∀{l:List D} {ys:List D} {ρ:Ro} (k:Nat),Inv k ys ρ ->
  (∀i d ys ρ,l[i]? = some d->Inv (k+i) ys ρ->∃ρ1 ρ2 z,b d ρ=some ρ1/\mc ρ1=some (.ok z,ρ2)/\((z=false/\Inv (k+i+1) ys ρ2)∨(z=true/\∃y ρ3,me ρ2=some (.ok y,ρ3)/\Inv (k+i+1) (ys++[y]) ρ3))) ->
  ∃ys' ρ',compD b mc me l ys ρ=some (.ok ys',ρ')/\Inv (k+l.length) ys' ρ'
 | [],ys,ρ,k,h0,_=>⟨ys,ρ,rfl,h0⟩
 | d::r,ys,ρ,k,h0,hs=>by
  obtain⟨ρ1,ρ2,z,e1,e2,h1⟩:=hs 0 d ys ρ rfl h0;have nxt:∀{ys':List D} {ρ':Ro},Inv (k+0+1) ys' ρ'->∃ys2 ρ2,compD b mc me r ys' ρ'=some (.ok ys2,ρ2)/\Inv (k+1+r.length) ys2 ρ2:=fun{ys' ρ'} hi =>
   za (b:=b) (mc:=mc) (me:=me) Inv (l:=r) (ys:=ys') (ρ:=ρ') (k+1) hi fun i x ys ρ hx hi=>by
    have:=hs (i+1) x ys ρ (by simpa using hx) ((show k+(i+1)=k+1+i by omega)▸hi)
    have e:k+(i+1)+1=k+1+i+1:=by omega
    rw[e] at this;exact this
  have el:k+(d::r).length=k+1+r.length:=by simp;omega
  rw[el];rcases h1 with⟨rfl,h1⟩ | ⟨rfl,y,ρ3,e3,h1⟩
  ·obtain⟨ys2,ρ4,e4,h4⟩:=nxt h1;exact⟨ys2,ρ4,by simp[compD,e1,e2,e4],h4⟩
  ·obtain⟨ys2,ρ4,e4,h4⟩:=nxt h1;exact⟨ys2,ρ4,by simp[compD,e1,e2,e3,e4],h4⟩
@[simp] theorem a7v(neg:Bool)(a b:Int):gEq neg (.int a) (.int b)=some (.v (.bl (if neg then !(a==b) else (a==b)))):=rfl
@[simp] theorem a8p(neg:Bool)(a b:Bool):gEq neg (.bl a) (.bl b)=some (.v (.bl (if neg then !(a==b) else (a==b)))):=rfl
section
variable{K:Fg9}{X:Cx}{e a b c:Expr}{es:List Expr}{pos p p2:Pos}
def vp:List D->Option (List Int)
 | []=>some []
 | .int i::r=>(vp r).map (i :: ·)
 | _::_=>none
theorem ac5:∀{l:List D} {ns:List Int},vp l=some ns->l=ns.map D.int
 | [],_,h=>by cases h;rfl
 | .int b::r,bs,h=>by
  have h':(vp r).map (b :: ·)=some bs:=h;cases e:vp r with
  | none=>rw[e] at h';cases h'
  | some t =>
   rw[e] at h';cases h';rw[ac5 e];rfl
 | .non::_,_,h=>by cases h
 | .bl _::_,_,h=>by cases h
 | .str _::_,_,h=>by cases h
 | .tup _::_,_,h=>by cases h
 | .lst _::_,_,h=>by cases h
 | .kst _::_,_,h=>by cases h
 | .dct _::_,_,h=>by cases h
@[simp] theorem afs(ns:List Int):vp (ns.map D.int)=some ns:=by
 induction ns with
 | nil=>rfl
 | cons b r ih=>show(vp (r.map D.int)).map (b :: ·)=_;rw[ih];rfl
def insI(x:Int):List Int->List Int
 | []=>[x]
 | y::r=>if x<=y then x::y::r else y::insI x r
def sortI:List Int->List Int
 | []=>[]
 | x::r=>insI x (sortI r)
theorem insI_perm(x:Int):∀l:List Int,(insI x l).Perm (x::l)
 | []=>.refl _
 | y::r=>by
  unfold insI;split
  ·exact .refl _
  ·exact((insI_perm x r).cons y).trans (.swap x y r)
theorem sortI_perm:∀l:List Int,(sortI l).Perm l
 | []=>.refl _
 | x::r=>(insI_perm x (sortI r)).trans ((sortI_perm r).cons x)
theorem afu(x:Int):∀{l:List Int},l.Pairwise (· <= ·)->(insI x l).Pairwise (· <= ·)
 | [],_=>by simp[insI]
 | y::r,h=>by
  unfold insI;rw[List.pairwise_cons] at h;split
  ·rename_i hxy;rw[List.pairwise_cons,List.pairwise_cons];refine⟨fun z hz =>?_,h⟩
   rcases List.mem_cons.mp hz with rfl | hz
   ·exact hxy
   ·exact Int.le_trans hxy (h.1 z hz)
  ·rename_i hxy;rw[List.pairwise_cons];refine⟨fun z hz =>?_,afu x h.2⟩
   rcases List.mem_cons.mp ((insI_perm x r).mem_iff.mp hz) with rfl | hz
   ·omega
   ·exact h.1 z hz
theorem aal:∀l:List Int,(sortI l).Pairwise (· <= ·)
 | []=>.nil
 | x::r=>afu x (aal r)
theorem agt:∀{l k:List Int},l.Perm k->l.Pairwise (· <= ·)->k.Pairwise (· <= ·)->l=k
 | [],k,h,_,_=>h.nil_eq
 | x::r,[],h,_,_=>absurd h.length_eq (by simp)
 | x::r,y::t,h,hl,hk=>by
  rw[List.pairwise_cons] at hl hk;have e:x=y:=by
   have h1:x∈y::t:=h.mem_iff.mp (List.mem_cons_self ..);have h2:y∈x::r:=h.mem_iff.mpr (List.mem_cons_self ..);rcases List.mem_cons.mp h1 with h1 | h1
   ·exact h1
   ·rcases List.mem_cons.mp h2 with h2 | h2
    ·exact h2.symm
    ·have a:=hk.1 x h1;have b:=hl.1 y h2;omega
  subst e;rw[agt ((List.perm_cons x).mp h) hl.2 hk.2]
theorem amr{l k:List Int}(h:l.Perm k)(hs:l.Pairwise (· <= ·)):l=sortI k:=agt (h.trans (sortI_perm k).symm) hs (aal k)
theorem aaj:∀{ns:List Int} {us:List Value},IntsAre us ns->Vals (ns.map V.int) us
 | _,_,.nil=>.nil
 | _,_,.cons n t h=>.cons ⟨t,rfl⟩ (aaj h)
def ail:D->Option Rv
 | .lst l=>(vp l).bind fun ns=>if ns.length < 64 then some (.fr ((sortI ns).map D.int)) else none
 | _=>none
theorem asz:CallD K X (.builtin "sorted") (g1 ail):=cd_one fun hk qv s σ0 H x u Q tg F ρ σ d r I ru G bd eg q=>by
 subst hk;cases d with
 | lst l =>
  have eg:(vp l).bind (fun ns=>if ns.length < 64 then some (Rv.fr ((sortI ns).map D.int)) else none)=some r:=eg
  cases e:vp l with
  | none=>rw[e] at eg;cases eg
  | some ns =>
   rw[e] at eg;have eg:(if ns.length < 64 then some (Rv.fr ((sortI ns).map D.int)) else none)=some r:=eg
   split at eg
   ·rename_i h64;cases eg;obtain⟨a,vs,rfl,ea,hl⟩:=bd.lst G.sub;rw[ac5 e] at hl;rw[hl.int_inv] at ea;cases ru;obtain⟨its,rv,pl,_⟩:=I.list (SqL.of ea);have hlen:=rv.length;rw[List.length_map] at hlen;refine PyProof.Rows.sorted_ints pl.isList (intsAre_of rv) (by omega) fun out ns' i1 hp hs =>?_
    have e':=amr hp hs;subst e';obtain⟨ep,eo⟩:=PyProof.Rows.sortedAll_at s.heap its out;have hn:H (s.heap.objs.size+1)=none:=I.hok.fresh (Nat.le_succ _);refine⟨.ref (s.heap.objs.size+1),upd H (s.heap.objs.size+1) (.lst ((sortI ns).map V.int)),?_,rfl,Res.lst G q (ac4 _) hn⟩;refine I.laid (t':=s.toks) (fun b u e=>PyProof.Rows.sortedAll_old e) (Nat.le_succ _) ?_
    refine⟨?_,out.toList,ep,aaj i1,by simpa using eo⟩
    rw[List.length_map,(sortI_perm ns).length_eq];exact Nat.le_of_lt (ai7 (by omega))
   ·cases eg
 | _=>cases eg
end
section
variable{K:Fg9}{X:Cx}{e a b c:Expr}{es:List Expr}{pos p p2:Pos}
def ado(lt:Int->Int->Bool):List Int->Int
 | []=>0
 | x::r=>r.foldl (fun m y=>if lt y m=true then y else m) x
theorem atf(lt:Int->Int->Bool)(ns:List Int):∀k,k < ns.length->argBest (fun i j=>lt (ns.getD i 0) (ns.getD j 0)) k<=k/\ns.getD (argBest (fun i j=>lt (ns.getD i 0) (ns.getD j 0)) k) 0=ado lt (ns.take (k+1))
 | 0,h=>by
  cases ns with
  | nil=>simp at h
  | cons x r=>exact⟨Nat.le_refl _,rfl⟩
 | k+1,h=>by
  obtain⟨h1,h2⟩:=atf lt ns k (by omega)
  have ht:ns.take (k+1+1)=ns.take (k+1)++[ns.getD (k+1) 0]:=by
   rw[List.take_add_one,List.getElem?_eq_getElem h];simp[List.getD,List.getElem?_eq_getElem h]
  have hb:ado lt (ns.take (k+1+1))=if lt (ns.getD (k+1) 0) (ado lt (ns.take (k+1)))=true then ns.getD (k+1) 0 else ado lt (ns.take (k+1)):=by
   rw[ht];cases ns with
   | nil=>simp at h
   | cons x r=>simp[ado,List.foldl_append]
  have ha:argBest (fun i j=>lt (ns.getD i 0) (ns.getD j 0)) (k+1)=if lt (ns.getD (k+1) 0) (ns.getD (argBest (fun i j=>lt (ns.getD i 0) (ns.getD j 0)) k) 0)=true then k+1 else argBest (fun i j=>lt (ns.getD i 0) (ns.getD j 0)) k:=rfl
  rw[hb,<-h2,ha]
  by_cases hc:lt (ns.getD (k+1) 0) (ns.getD (argBest (fun i j=>lt (ns.getD i 0) (ns.getD j 0)) k) 0)=true
  ·rw[if_pos hc,if_pos hc];exact⟨Nat.le_refl _,rfl⟩
  ·rw[if_neg hc,if_neg hc];exact⟨by omega,rfl⟩
theorem awf(lt:Int->Int->Bool)(ns:List Int)(h:ns≠[]):argBest (fun i j=>lt (ns.getD i 0) (ns.getD j 0)) (ns.length - 1) < ns.length/\ns.getD (argBest (fun i j=>lt (ns.getD i 0) (ns.getD j 0)) (ns.length - 1)) 0=ado lt ns:=by
 have hl:0 < ns.length:=List.length_pos_iff.mpr h;obtain⟨h1,h2⟩:=atf lt ns (ns.length - 1) (by omega)
 refine⟨by omega,?_⟩
 rw[h2,show ns.length - 1+1=ns.length by omega,List.take_length]
def a3m(lt:Int->Int->Bool):D->Option Rv
 | .lst l=>(vp l).bind fun ns=>if ns=[] then none else some (.v (.int (ado lt ns)))
 | .tup l=>(vp l).bind fun ns=>if ns=[] then none else some (.v (.int (ado lt ns)))
 | _=>none
theorem al7{lt:Int->Int->Bool}{d:D}{r:Rv}(h:a3m lt d=some r):∃ns:List Int,ns≠[]/\r=.v (.int (ado lt ns))/\(d=.lst (ns.map D.int)∨d=.tup (ns.map D.int)):=by
 have go:∀l,(vp l).bind (fun ns=>if ns=[] then none else some (Rv.v (.int (ado lt ns))))=some r->∃ns:List Int,ns≠[]/\r=.v (.int (ado lt ns))/\l=ns.map D.int:=fun l h=>by
  cases e:vp l with
  | none=>rw[e] at h;cases h
  | some ns =>
   rw[e] at h;have h:(if ns=[] then none else some (Rv.v (.int (ado lt ns))))=some r:=h
   split at h
   ·cases h
   ·rename_i hn;cases h;exact⟨ns,hn,rfl,ac5 e⟩
 cases d with
 | lst l=>obtain⟨ns,h1,h2,rfl⟩:=go l h;exact⟨ns,h1,h2,.inl rfl⟩
 | tup l=>obtain⟨ns,h1,h2,rfl⟩:=go l h;exact⟨ns,h1,h2,.inr rfl⟩
 | _=>cases h
theorem aft{ns:List Int}{its:List Value}(rv:Vals (ns.map V.int) its)(i:Nat)(v:Value)(h:its.toArray[i]? = some v):∃t,v=.int (ns.getD i 0) t:=by
 have h:its[i]? = some v:=by simpa using h
 have hi:i < its.length:=(List.getElem?_eq_some_iff.mp h).1;have hl:=rv.length;rw[List.length_map] at hl;have hi':i < ns.length:=by omega
 obtain⟨u,hu,t,rfl⟩:=rv.get (i:=i) (x:=V.int ns[i]) (by rw[List.getElem?_map,List.getElem?_eq_getElem hi'];rfl)
 rw[h] at hu;cases hu;exact⟨t,by simp[List.getD,List.getElem?_eq_getElem hi']⟩
def azh:D->Option Rv:=a3m fun i j=>decide (i < j)
theorem azw(hc:X.calm=true):CallD K X (.builtin "min") (g1 azh):=cd_one fun hk qv s σ0 H x u Q tg F ρ σ d r I ru G bd eg q=>by
 subst hk;obtain⟨ns,hn,rfl,hd⟩:=al7 eg;have q':=Res.same G q (.int _);obtain⟨hb1,hb2⟩:=awf (fun i j=>decide (i < j)) ns hn
 have fin:∀{its:List Value} (rv:Vals (ns.map V.int) its) {v:Value} {h':Heap} {tk:Nat},its.toArray[argBest (fun i j=>decide (ns.getD i 0 < ns.getD j 0)) (its.toArray.size - 1)]? = some v->(∀b o,s.heap.get? b=some o->h'.get? b=some o)->EP X qv σ0 Q v { s with heap:=h',toks:=tk }:=fun{its} rv {v h' tk} hv hk=>by
  have hl:=rv.length;rw[List.length_map] at hl;rw[List.size_toArray,<-hl] at hv;obtain⟨t,rfl⟩:=aft rv _ v hv;exact⟨.int (ado (fun i j=>decide (i < j)) ns),H,I.kept hk,⟨t,by rw[hb2]⟩,q'⟩
 rcases hd with rfl | rfl
 ·obtain⟨a,vs,rfl,ea,hl⟩:=bd.lst G.sub;rw[hl.int_inv] at ea;cases ru;obtain⟨its,rv,pl,_⟩:=I.list (SqL.of ea);have hl':=pl.isList;have hlt:a < s.heap.objs.size:=by obtain⟨_,e,_⟩:=hl';exact Heap.lt_size e
  have hlen:=rv.length;rw[List.length_map] at hlen;refine call_min_walk (wpAny_pyIter_list hl' ⟨s.heap.objs.size,[s.heap.objs.size,a],[s.heap.objs.size],its.toArray.size,_,_,_,rfl,Walks.list (A:=X.A.in1) (I.ok.hd hc) _ a (Nat.ne_of_lt hlt) its.toArray,
   ⟨⟨_,Heap.get?_push_size _ rfl,rfl,rfl⟩,hl'.push _⟩,fun b hb =>?_,?_,CmpOf.ints_lt (fun i=>ns.getD i 0) (fun i v=>aft rv i v),fun v h' tk hP hk=>fin rv hP (LSm.kept_iter hk)⟩)
  ·have hs:∀o:Obj,(s.heap.push o).objs.size=s.heap.objs.size+1:=fun o=>Heap.size_push ..
   show b < (s.heap.push _).objs.size;rw[hs];rcases List.mem_cons.mp hb with hb | hb
   ·exact hb▸Nat.lt_succ_self _
   ·have hb:b=a:=by simpa using hb
    exact hb▸Nat.lt_succ_of_lt hlt
  ·rw[List.size_toArray,<-hlen];exact List.length_pos_iff.mpr hn
 ·obtain⟨a,vs,rfl,ea,hl⟩:=bd.tup;rw[hl.int_inv] at ea;cases ru;obtain⟨its,rv,pl,_⟩:=I.tuple (SqT.of (G.sub _ _ ea));have hlt:a < s.heap.objs.size:=by obtain⟨_,e,_⟩:=pl;exact Heap.lt_size e
  have hlen:=rv.length;rw[List.length_map] at hlen;refine call_min_walk (wpAny_pyIter_tuple pl ⟨s.heap.objs.size,[s.heap.objs.size,a],[s.heap.objs.size],its.toArray.size,_,_,_,rfl,Walks.tuple (A:=X.A.in1) (I.ok.hd hc) _ a (Nat.ne_of_lt hlt) its.toArray,
   ⟨⟨_,Heap.get?_push_size _ rfl,rfl,rfl⟩,pl.push _⟩,fun b hb =>?_,?_,CmpOf.ints_lt (fun i=>ns.getD i 0) (fun i v=>aft rv i v),fun v h' tk hP hk=>fin rv hP (LSm.kept_iter hk)⟩)
  ·have hs:∀o:Obj,(s.heap.push o).objs.size=s.heap.objs.size+1:=fun o=>Heap.size_push ..
   show b < (s.heap.push _).objs.size;rw[hs];rcases List.mem_cons.mp hb with hb | hb
   ·exact hb▸Nat.lt_succ_self _
   ·have hb:b=a:=by simpa using hb
    exact hb▸Nat.lt_succ_of_lt hlt
  ·rw[List.size_toArray,<-hlen];exact List.length_pos_iff.mpr hn
end
section
variable{K:Fg9}{X:Cx}{e a b c:Expr}{es:List Expr}{pos p p2:Pos}
def rmOf(K:Fg9)(g:D->List D->Option D):V->List V->Hp->VK->Prop:=fun x vs H Q=>∃F d ds r,Same F H/\Bor K F H d x/\IsL K F ds vs/\g d ds=some r/\∀v,Is K F r v->Q v H
def ar9(d:D)(ds:List D):Option D:=match d,ds with
 | .lst l,[x]=>if okD 30 x&&l.all (okD 30) then some (.int (l.countP fun y=>eqD y x)) else none
 | _,_=>none
theorem aa5{qv:List (Addr×Obj)}{σ:L2.St}{F H:Hp}{s:Shared}(I:Inv X qv σ H s)(g:Same F H){a:D}{n:Nat}:∀{ds:List D} {vs:List V} {us:List Value},IsL X.K F ds vs->ds.all (okD n)=true->Vals vs us ->
  us.countP (aec s.heap (toPy a))=ds.countP (fun y=>eqD y a)
 | _,_,_,.nil,_,r=>by cases r;rfl
 | _,_,_,.cons h t,k,r=>by
  rw[List.all_cons,Bool.and_eq_true] at k;cases r with
  | cons r1 r2 =>
   obtain⟨as,ra⟩:=abe I g h k.1 r1;obtain⟨c,p⟩:=aav _ _ k.1;rw[List.countP_cons,List.countP_cons,aa5 I g t k.2 r2,ait ra c];rfl
theorem au6(hu:X.A.units+64 < cLine):X.K=K->MtR X "list.count" (rmOf K ar9):=fun hk=>by
 subst hk;intro qv s σ H x vs v us Q I rx rv z9;obtain⟨F,d,ds,r,g,bd,il,eg,q⟩:=z9
 match d,ds,eg with
 | .lst l,[y],eg =>
  have eg:(if okD 30 y&&l.all (okD 30) then some (D.int (l.countP fun z=>eqD z y)) else none)=some r:=eg
  split at eg
  ·rename_i ho;rw[Bool.and_eq_true] at ho;cases eg;cases il with
   | cons hy t =>
    cases t;obtain⟨u,rfl,ru⟩:=rv.one;obtain⟨p,ws,rfl,ea,hl⟩:=bd.lst g;cases rx;obtain⟨its,rw',pl,_⟩:=I.list (SqL.of ea);obtain⟨as,ra⟩:=abe I g hy ho.1 ru;obtain⟨_,z⟩:=aa7 I g (a:=y) hl ho.2 rw';obtain⟨⟨cls,dd,data,sl⟩,h1,hc,n,hd⟩:=pl.isList;simp only at hc hd;subst hc hd;refine call_meets PySem.F.slot_list_count ⟨_,h1,rfl⟩ PySem.F.entry_list_count (PySem.F.args_list_count_2 _ _) (SeqAt.list_countAt p its.toArray n dd sl u (aec s.heap (toPy y))) ⟨h1,fun w hw =>?_,?_⟩
    ·exact abk (A:=X.A) hu ra ho.1 z w (by simpa using hw)
    ·refine⟨.int (l.countP fun z=>eqD z y),H,I.tok _,⟨s.toks,?_⟩,q _ (.int _)⟩
     rw[aa5 I g (a:=y) hl ho.2 rw']
  ·cases eg
def ar8(d:D)(ds:List D):Option D:=match d,ds with
 | .tup l,[x]=>if okD 30 x&&l.all (okD 30) then some (.int (l.countP fun y=>eqD y x)) else none
 | _,_=>none
theorem aq1(hu:X.A.units+64 < cLine):X.K=K->MtR X "tuple.count" (rmOf K ar8):=fun hk=>by
 subst hk;intro qv s σ H x vs v us Q I rx rv z9;obtain⟨F,d,ds,r,g,bd,il,eg,q⟩:=z9
 match d,ds,eg with
 | .tup l,[y],eg =>
  have eg:(if okD 30 y&&l.all (okD 30) then some (D.int (l.countP fun z=>eqD z y)) else none)=some r:=eg
  split at eg
  ·rename_i ho;rw[Bool.and_eq_true] at ho;cases eg;cases il with
   | cons hy t =>
    cases t;obtain⟨u,rfl,ru⟩:=rv.one;obtain⟨p,ws,rfl,ea,hl⟩:=bd.tup;cases rx;obtain⟨its,rw',pl,_⟩:=I.tuple (SqT.of (g _ _ ea));obtain⟨as,ra⟩:=abe I g hy ho.1 ru;obtain⟨_,z⟩:=aa7 I g (a:=y) hl ho.2 rw';obtain⟨⟨cls,dd,data,sl⟩,h1,hc,n,hd⟩:=pl;simp only at hc hd;subst hc hd;refine call_meets PySem.F.slot_tuple_count ⟨_,h1,rfl⟩ PySem.F.entry_tuple_count (PySem.F.args_tuple_count_2 _ _) (SeqAt.tuple_countAt p its.toArray n dd sl u (aec s.heap (toPy y))) ⟨h1,fun w hw =>?_,?_⟩
    ·exact abk (A:=X.A) hu ra ho.1 z w (by simpa using hw)
    ·refine⟨.int (l.countP fun z=>eqD z y),H,I.tok _,⟨s.toks,?_⟩,q _ (.int _)⟩
     rw[aa5 I g (a:=y) hl ho.2 rw']
  ·cases eg
theorem PE.or{t1 t2:TE}(h1:PE X e t1)(h2:PE X e t2):PE X e fun σ H Q=>t1 σ H Q∨t2 σ H Q:=fun qv s σ H Q I h=>h.elim (h1 qv s σ H Q I) (h2 qv s σ H Q I)
def aio(d:D)(ds:List D):Option D:=match d with
 | .lst _=>ar9 d ds
 | .tup _=>ar8 d ds
 | _=>none
def aq6(i:Nat)(ms:M (List D)):M D:=(di i).bind fun d0=>ms.bind fun ds=>(di i).bind fun d=>(lift (match d0,d with
 | .lst _,.lst _=>some ()
 | .tup _,.tup _=>some ()
 | _,_=>none)).bind fun _=>lift (aio d ds)
theorem av9{d0 d:D}{u:Unit} (h:(match d0,d with
 | .lst _,.lst _=>some ()
 | .tup _,.tup _=>some ()
 | _,_=>none)=some u):(∃l l1,d0=.lst l/\d=.lst l1)∨∃l l1,d0=.tup l/\d=.tup l1:=by
 split at h
 ·exact .inl ⟨_,_,rfl,rfl⟩
 ·exact .inr ⟨_,_,rfl,rfl⟩
 ·cases h
theorem av1{i:Nat}{ms:M (List D)}{apos cpos:Pos}(hu:X.A.units+64 < cLine)(ho:PE X a (tVar i))(ha:ED K X (e::es) ms)
  (hbase:attributeBase a "count" X.env (eval a X.env)=eval a X.env:=by rfl)
  (hfew:((backTo cpos (starEach (e::es) X.env)).all (fun x => !x.1)&&(backToKw cpos (keywordEach [] X.env)).all (fun x=>x.1.isSome)
   && decide ((e::es).length+([]:List Keyword).length+(if ([]:List Keyword).isEmpty then 0 else 1) < 30))=true:=by rfl)
  (hline:(apos.endLine==cpos.line)=true:=by rfl) (hs:starEach (e::es) X.env=(false,eval e X.env)::starEach es X.env:=by rfl) (hplain:(backTo cpos (starEach es X.env)).any (·.1)=false:=by rfl) :
  EV K X (.Call (.Attribute a "count" apos) (e::es) [] cpos) (aq6 i ms):=EV.mk fun hk=>PE.imp (PE.or (ayn PySem.F.plainAttrs_list PySem.F.slot_list_count PySem.F.type_list_count (au6 hu hk) ho (ha hk) hbase hfew hline hs hplain) (ayn PySem.F.plainAttrs_tuple PySem.F.slot_tuple_count PySem.F.type_tuple_count (aq1 hu hk) ho (ha hk) hbase hfew hline hs hplain)) fun σ H Q z9=>by
 obtain⟨tg,F,ρ,d,ρ',G,em,q⟩:=z9;obtain⟨d0,ρ0,e0,em1⟩:=au em;obtain⟨ds,ρ1,e1,em3⟩:=au em1;obtain⟨d1,ρ2,e2,em4⟩:=au em3;obtain⟨u0,ρ9,e9,em5⟩:=au em4;obtain⟨e3,rfl⟩:=fu em5;obtain⟨g9,rfl⟩:=fu e9;obtain⟨rfl,v,hv,bv⟩:=uh G e0;rcases av9 g9 with⟨l,l1,rfl,rfl⟩ | ⟨l,l1,rfl,rfl⟩
 ·obtain⟨b,xs,rfl,hb,_⟩:=bv.lst G.sub;refine .inl ⟨_,hv,.inl ⟨rfl,xs,SqL.of hb⟩,tg,F,_,ds,ρ1,G,e1,fun vs H1 F1 G1 x1 r1 =>?_⟩
  obtain⟨rfl,v',hv',b'⟩:=uh G1 e2;rw[hv] at hv';cases hv';exact⟨F1,.lst l1,ds,d,G1.sub,b',r1,e3,fun w iw=>q w H1 F1 G1 x1 iw⟩
 ·obtain⟨b,xs,rfl,hb,_⟩:=bv.tup;refine .inr ⟨_,hv,.inr (.inl ⟨rfl,.inr ⟨xs,G.sub _ _ hb⟩⟩),tg,F,_,ds,ρ1,G,e1,fun vs H1 F1 G1 x1 r1 =>?_⟩
  obtain⟨rfl,v',hv',b'⟩:=uh G1 e2;rw[hv] at hv';cases hv';exact⟨F1,.tup l1,ds,d,G1.sub,b',r1,e3,fun w iw=>q w H1 F1 G1 x1 iw⟩
section
variable(ρ:Ro)
@[simp] theorem a0f(l:List D)(x:D):ar9 (.lst l) [x]=if okD 30 x&&l.all (okD 30) then some (.int (l.countP fun y=>eqD y x)) else none:=rfl
end
end
end Dn
namespace En
open PySem PySem.Builtin
def It1(k:Bool)(h:Heap)(it l:Addr)(i:Nat):Prop:=cond k (h.IsTupleIter it l i) (h.IsListIter it l i)
def Sq1(k:Bool)(h:Heap)(l:Addr)(xs:Array Value):Prop:=cond k (h.IsTuple l xs) (h.IsList l xs)
section
variable{prog:Program}{w:World}{A:Around}{E:Value->Shared->Prop}{s:Shared}
theorem ayw{it t:Addr}{i:Nat}{xs:Array Value}{x:Value}{Q:Value->Shared->Prop}(h1:s.heap.IsTupleIter it t i)(h2:s.heap.IsTuple t xs)(hx:xs[i]? = some x)
  (q:∀h',h'.IsTupleIter it t (i+1)->Heap.SameBut it s.heap h'->Q x { s with heap:=h' }):wpAny (model prog w) A (SmallTypes.nextOf (.ref it)) Q E s:=by
 obtain⟨o1,e1,c1,d1⟩:=id h1;obtain⟨o2,e2,_,k2,d2⟩:=h2;have nn:¬((Value.ref t==Value.none)=true):=Bool.false_ne_true;unfold SmallTypes.nextOf;refine wpAny_bind (wpAny_callSpecial?_slot (name:=Str.ofString "__next__") h1.typeIs F.slot_tuple_iterator_next (wpAny_call_entry F.slot_tuple_iterator_next h1.typeIs F.entry_tuple_iterator_next ?_ (F.args_tuple_iterator_next_1 _)));refine wpAny_bind (m:=field (.ref it) 0) (wpAny_field e1 d1 (x:=.ref t) rfl ?_);show wpAny _ _ (if (Value.ref t==Value.none)=true then _ else (field (.ref it) 1 >>= _)) _ _ s;rw[if_neg nn]
 refine wpAny_bind (m:=field (.ref it) 1) (wpAny_field e1 d1 (x:=.int i 0) rfl ?_);refine wpAny_bind (m:=seqItems? (.ref t)) (wpAny_seqItems e2 d2 ?_);simp only[Int.toNat_natCast,hx];refine wpAny_bind (wpAny_setField e1 d1 (by simp) (wpAny_pure ⟨x,rfl,wpAny_pure (q _ ?_ (Heap.SameBut.update ..))⟩))
 refine⟨_,Heap.get?_update_self _ e1 (Obj.isFreed_of_fields (Obj.data_mapFields d1 _)),(Obj.cls_mapFields ..).trans c1,?_⟩;rw[Obj.data_mapFields d1];simp[rawInt]
theorem azr{it t:Addr}{i:Nat}{xs:Array Value}{Q:Value->Shared->Prop}(hh:A.handled=none)(h1:s.heap.IsTupleIter it t i)(h2:s.heap.IsTuple t xs)(hx:xs[i]? = none)
  (q:∀h' e,Heap.ExtBut it s.heap h'->(∃o,h'.get? e=some o/\o.cls=.type "StopIteration")->E (.ref e) { s with heap:=h' }):wpAny (model prog w) A (SmallTypes.nextOf (.ref it)) Q E s:=by
 obtain⟨o1,e1,c1,d1⟩:=id h1;obtain⟨o2,e2,_,k2,d2⟩:=h2;have nn:¬((Value.ref t==Value.none)=true):=Bool.false_ne_true;unfold SmallTypes.nextOf;refine wpAny_bind (wpAny_callSpecial?_slot (name:=Str.ofString "__next__") h1.typeIs F.slot_tuple_iterator_next (wpAny_call_entry F.slot_tuple_iterator_next h1.typeIs F.entry_tuple_iterator_next ?_ (F.args_tuple_iterator_next_1 _)));refine wpAny_bind (m:=field (.ref it) 0) (wpAny_field e1 d1 (x:=.ref t) rfl ?_);show wpAny _ _ (if (Value.ref t==Value.none)=true then _ else (field (.ref it) 1 >>= _)) _ _ s;rw[if_neg nn]
 refine wpAny_bind (m:=field (.ref it) 1) (wpAny_field e1 d1 (x:=.int i 0) rfl ?_);refine wpAny_bind (m:=seqItems? (.ref t)) (wpAny_seqItems e2 d2 ?_);simp only[Int.toNat_natCast,hx];refine wpAny_bind (wpAny_rule (wpAny_bind (wpAny_setField e1 d1 (by simp) ?_)))
 refine wpAny_bind (m:=newExc (.type "StopIteration") []) ?_;simp only[newExc,newTuple];refine wpAny_bind (wpAny_newObj_type ?_ (by size_fits))
 refine wpAny_bind (m:=firstArgMember _ _) (wpAny_of_eq (a:=Value.none) (by first | rfl | (simp only[firstArgMember];rfl)) (wpAny_newObj_type ?_ (by size_fits)))
 simp only[raiseNew];refine wpAny_bind (wpAny_handled ?_);first | rw[show A.in1.handled=none from hh] | rw[hh]
 refine wpAny_bind (wpAny_pure (wpAny_throw (q _ _ ?_ ⟨_,Heap.get?_push_size _ rfl,rfl⟩)));exact((Heap.SameBut.update ..).extBut.push _).push _
theorem src(hh:A.handled=none)(k:Bool)(it l:Addr)(ne:l≠it)(xs:Array Value):Draws prog w A it [it,l] xs.size (fun i v=>xs[i]? = some v) (fun i h=>It1 k h it l i/\Sq1 k h l xs):=by
 cases k with
 | false=>exact Draws.list hh it l ne xs
 | true=>exact{
   live:=fun _ _ z=>let ⟨o,e,_⟩:=z.1;⟨o,e⟩
   frame:=fun _ _ _ z kk=>⟨(let ⟨o,e,r⟩:=z.1;⟨o,kk it (by simp) o e,r⟩),(let ⟨o,e,r⟩:=z.2;⟨o,kk l (by simp) o e,r⟩)⟩
   item:=fun i s Q E hi z q=>ayw z.1 z.2 (x:=xs[i]) (by simp[hi]) fun h' z' sb=>q _ h' s.toks (by simp[hi]) ⟨z',Heap.IsTuple.extBut z.2 sb.extBut ne⟩ sb
   done:=fun s Q E z q=>azr hh z.1 z.2 (by simp) q }
theorem It1.at{k:Bool}{h h':Heap}{it l:Addr}{i:Nat}(x:It1 k h it l i)(e:∀o,h.get? it=some o->h'.get? it=some o):It1 k h' it l i:=by
 cases k <;> exact(let ⟨o,z,r⟩:=x;⟨o,e _ z,r⟩)
theorem It1.got{k:Bool}{h:Heap}{it l:Addr}{i:Nat}(x:It1 k h it l i):∃o,h.get? it=some o/\∀v,o.data≠.cell v:=by
 cases k <;> exact(let ⟨o,z,_,r⟩:=x;⟨o,z,fun v e=>by rw[r] at e;cases e⟩)
theorem Sq1.at{k:Bool}{h h':Heap}{l:Addr}{xs:Array Value}(x:Sq1 k h l xs)(e:∀o,h.get? l=some o->h'.get? l=some o):Sq1 k h' l xs:=by
 cases k <;> exact(let ⟨o,z,r⟩:=x;⟨o,e _ z,r⟩)
theorem Sq1.got{k:Bool}{h:Heap}{l:Addr}{xs:Array Value}(x:Sq1 k h l xs):∃o,h.get? l=some o:=by
 cases k <;> exact(let ⟨o,z,_⟩:=x;⟨o,z⟩)
theorem avk{k:Bool}{l:Addr}{xs:Array Value}{Q:Value->Shared->Prop}(h:Sq1 k s.heap l xs)
  (q:Q (.ref s.heap.objs.size) { s with heap:=s.heap.push { cls:=.type (cond k "tuple_iterator" "list_iterator"),data:=.fields #[.ref l,.int 0 0] } }):wpAny (model prog w) A (pyIter (.ref l)) Q E s:=by
 cases k with
 | false=>exact wpAny_pyIter_list h q
 | true=>exact wpAny_pyIter_tuple h q
theorem al2{k:Bool}{h:Heap}{l a:Addr}(e:h.get? a=some { cls:=.type (cond k "tuple_iterator" "list_iterator"),data:=.fields #[.ref l,.int 0 0] }):It1 k h a l 0:=by
 cases k <;> exact⟨_,e,rfl,rfl⟩
end
set_option maxRecDepth 100000
abbrev eh1(k:Bool)(h:Heap)(l:Addr):Heap:=h.push { cls:=.type (cond k "tuple_iterator" "list_iterator"),data:=.fields #[.ref l,.int 0 0] }
abbrev eh2(k:Bool)(h:Heap)(l:Addr):Heap:=(eh1 k h l).push { cls:=.type "enumerate", data:=.fields #[.none,.bool false,.ref h.objs.size,rawInt 0,.none,.none] }
theorem ay0(k:Bool)(l:Addr)(o:Obj)(xs:Array Value) :
  Meets (Builtin.«enumerate.__new__» ⟨[.type "enumerate", .ref l],[]⟩) (fun _ R s=>s.heap.get? l=some o/\Sq1 k s.heap l xs/\R (.ok (.ret (.ref (eh1 k s.heap l).objs.size))) { s with heap:=eh2 k s.heap l }) :=
 .of_wp fun prog w A R s h=>by
  obtain⟨hp,g,d,tk,os⟩:=s;obtain⟨ho,r1,h⟩:=h;have sb:=sub_enumerate;have r1:Sq1 k (Shared.heap ⟨hp,g,d,tk,os⟩) l xs:=r1;wp_walk using AutoSeq1.wpAny_loadPart' ho;refine wpAny_stack_any fun st=>wpAny_pure ?_
  split
  ·rename_i c _ _ _ _ _;cases(c==Value.type "enumerate") <;> (wp_walk using AutoSeq1.wpAny_loadPart' ho,avk r1;exact⟨_,rfl,h⟩)
  ·wp_walk using AutoSeq1.wpAny_loadPart' ho,avk r1;exact⟨_,rfl,h⟩
theorem as9{prog:Program}{w:World}{A:Around}{E:Value->Shared->Prop}{s:Shared}{k:Bool}{l:Addr}{xs:Array Value}{Q:Value->Shared->Prop}(s1:Sq1 k s.heap l xs)
  (q:∀h',IsEnum h' (s.heap.objs.size+1) s.heap.objs.size 0 .none->It1 k h' s.heap.objs.size l 0->h'.objs.size=s.heap.objs.size+2->(∀b o,s.heap.get? b=some o->h'.get? b=some o)->Q (.ref (s.heap.objs.size+1)) { s with heap:=h' }) :
  wpAny (model prog w) A (call (.type "enumerate") [.ref l]) Q E s:=by
 obtain⟨o,ho⟩:=s1.got;refine callType_new F.called_enumerate (by decide) (F.typeCall_enumerate_1 _) (F.newCall_enumerate_1 _) (fun obj=>F.args_object_init_2 obj _) F.entry_enumerate_new (ay0 k l o xs) ⟨ho,s1,?_⟩
 have z1:(eh1 k s.heap l).objs.size=s.heap.objs.size+1:=Heap.size_push ..
 have g2:(eh2 k s.heap l).get? (eh1 k s.heap l).objs.size=some _:=Heap.get?_push_size _ rfl;have g1:(eh2 k s.heap l).get? s.heap.objs.size=some _:=Heap.get?_push_of_some _ (Heap.get?_push_size _ rfl);rw[z1] at g2;show _/\_;rw[z1];exact⟨⟨_,g2,rfl⟩,q _ g2 (al2 g1) (by rw[Heap.size_push,z1]) fun b o x=>Heap.get?_push_of_some _ (Heap.get?_push_of_some _ x)⟩
end En
namespace En
open PySem PySem.Builtin
set_option maxRecDepth 100000
theorem axo(v1 v2:Value):checkTypeCall "zip" ⟨[v1,v2],[]⟩=pure ():=by kernel_rfl
theorem ayx(v1 v2:Value):checkBuiltinCall "zip.__new__" ⟨[.type "zip", v1,v2],[]⟩=pure ():=by kernel_rfl
theorem a0b(o v1 v2:Value):argsOk "object.__init__" ⟨[o,v1,v2],[]⟩:=by
 unfold argsOk;rw[signature?_of (id := "object.__init__") (n:=['_','_','t','i','n','i','_','_']) (o:=['t','c','e','j','b','o']) (by kernel_rfl) F.owner_object];kernel_rfl
abbrev Row2(h:Heap)(T:Addr)(v1 v2:Value):Prop:=h.get? T=some { cls:=.type "tuple", data:=.seq #[v1,v2] }
structure Apart2 (z TI TO i1 i2 l1 l2:Addr):Prop where
 nTIz:TI≠z
 nTOz:TO≠z
 nTOTI:TO≠TI
 ni1z:i1≠z
 ni1TI:i1≠TI
 ni1TO:i1≠TO
 ni2z:i2≠z
 ni2TI:i2≠TI
 ni2TO:i2≠TO
 ni2i1:i2≠i1
 nl1z:l1≠z
 nl1TO:l1≠TO
 nl1i1:l1≠i1
 nl1i2:l1≠i2
 nl2z:l2≠z
 nl2TO:l2≠TO
 nl2i1:l2≠i1
 nl2i2:l2≠i2
section
variable{prog:Program}{w:World}{A:Around}{E:Value->Shared->Prop}{s:Shared}
theorem a06{T:Addr}{v1 v2 x:Value}{Q:Unit->Shared->Prop}(h:Row2 s.heap T v1 v2)(q:∀h',Row2 h' T x v2->Heap.SameBut T s.heap h'->Q () { s with heap:=h' }):wpAny (model prog w) A (updateSeq T (·.setIfInBounds 0 x)) Q E s:=by
 refine wpAny_updateSeq h rfl (q _ (show Heap.get? _ T=_ from ?_) (Heap.SameBut.update ..))
 rw[Heap.get?_update_self _ h rfl];simp[Obj.mapSeq]
theorem a05{T:Addr}{v1 v2 x:Value}{Q:Unit->Shared->Prop}(h:Row2 s.heap T v1 v2)(q:∀h',Row2 h' T v1 x->Heap.SameBut T s.heap h'->Q () { s with heap:=h' }):wpAny (model prog w) A (updateSeq T (·.setIfInBounds 1 x)) Q E s:=by
 refine wpAny_updateSeq h rfl (q _ (show Heap.get? _ T=_ from ?_) (Heap.SameBut.update ..))
 rw[Heap.get?_update_self _ h rfl];simp[Obj.mapSeq]
theorem aps{z TI TO i1 i2 l1 l2:Addr}{k1 k2:Bool}{i:Nat}{x1 x2:Array Value}{v1 v2:Value}{Q:Value->Shared->Prop}(hh:A.handled=none)(D:Apart2 z TI TO i1 i2 l1 l2)
  (hz:IsZip s.heap z TI TO .none) (hI:Row2 s.heap TI (.ref i1) (.ref i2)) (hO:Row2 s.heap TO v1 v2) (h1:It1 k1 s.heap i1 l1 i) (s1:Sq1 k1 s.heap l1 x1) (h2:It1 k2 s.heap i2 l2 i) (s2:Sq1 k2 s.heap l2 x2) (b1:i < x1.size) (b2:i < x2.size)
  (q:∀h' tk y1 y2,x1[i]? = some y1->x2[i]? = some y2->IsZip h' z TI TO (rawInt s.heap.objs.size)->Row2 h' TO y1 y2->It1 k1 h' i1 l1 (i+1)->It1 k2 h' i2 l2 (i+1)->Row2 h' s.heap.objs.size y1 y2->h'.objs.size=s.heap.objs.size+1 ->
   (∀c o,c≠z->c≠TO->c≠i1->c≠i2->s.heap.get? c=some o->h'.get? c=some o)->Q (.ref s.heap.objs.size) { s with heap:=h',toks:=tk }) :
  wpAny (model prog w) A (Builtin.«zip.__next__» ⟨[.ref z],[]⟩) (fun fin s'=>∃v,fin=.done (.ret v)/\Q v s') E s:=by
 refine wpAny_bind (m:=field (.ref z) 2) (wpAny_field hz rfl (x:=.bool false) rfl ?_);refine wpAny_bind (m:=field (.ref z) 3) (wpAny_field hz rfl (x:=.ref TI) rfl ?_);refine wpAny_bind (wpAny_seqItems hI rfl ?_);refine wpAny_bind (m:=SmallTypes.ownedTupleIsFree (.ref z)) ?_;unfold SmallTypes.ownedTupleIsFree;refine wpAny_bind (wpAny_field hz rfl (x:=.none) rfl (wpAny_pure ?_));simp only[if_true];refine wpAny_bind (wpAny_rule (wpAny_bind (wpAny_field hz rfl (x:=.ref TO) rfl ?_)));refine wpAny_bind (wpAny_setField_rec hz (by simp) fun g0 z0 a0 =>?_)
 have z0:IsZip g0 z TI TO .ellipsis:=z0;refine wpAny_bind ?_;simp only[List.zipIdx_cons,List.zipIdx_nil,List.forIn_cons,List.forIn_nil];refine wpAny_bind (wpAny_bind (wpAny_onRaise ?_));refine wpAny_bind (m:=SmallTypes.nextOf (.ref i1)) ((src hh k1 i1 l1 D.nl1i1 x1).item i _ _ _ b1 ⟨(h1.at fun _ e=>(a0.extBut _ _ D.ni1z e)),(s1.at fun _ e=>(a0.extBut _ _ D.nl1z e))⟩ fun y1 f1 t1 p1 q1 c1=>wpAny_pure ?_)
 have c1:Heap.SameBut i1 g0 f1:=c1;have P1:Row2 f1 TO v1 v2:=(c1.extBut _ _ D.ni1TO.symm (a0.extBut _ _ D.nTOz hO));refine wpAny_bind (wpAny_seqItems P1 rfl ?_);refine wpAny_bind (a06 P1 fun g1 O1 a1 =>?_)
 have a1:Heap.SameBut TO f1 g1:=a1;refine wpAny_bind (wpAny_letGo (wpAny_pure ?_));refine wpAny_bind (wpAny_bind (wpAny_onRaise ?_));refine wpAny_bind (m:=SmallTypes.nextOf (.ref i2)) ((src hh k2 i2 l2 D.nl2i2 x2).item i _ _ _ b2 ⟨(h2.at fun _ e=>(a1.extBut _ _ D.ni2TO (c1.extBut _ _ D.ni2i1 (a0.extBut _ _ D.ni2z e)))),(s2.at fun _ e=>(a1.extBut _ _ D.nl2TO (c1.extBut _ _ D.nl2i1 (a0.extBut _ _ D.nl2z e))))⟩ fun y2 f2 t2 p2 q2 c2=>wpAny_pure ?_)
 have c2:Heap.SameBut i2 g1 f2:=c2;have P2:Row2 f2 TO y1 v2:=(c2.extBut _ _ D.ni2TO.symm O1);refine wpAny_bind (wpAny_seqItems P2 rfl ?_);refine wpAny_bind (a05 P2 fun g2 O2 a2 =>?_)
 have a2:Heap.SameBut TO f2 g2:=a2;refine wpAny_bind (wpAny_letGo (wpAny_pure (wpAny_pure ?_)));refine wpAny_bind (wpAny_seqItems O2 rfl (wpAny_bind (wpAny_newTuple ?_)));have sz:g2.objs.size=s.heap.objs.size:=by rw[a2.1,c2.1,a1.1,c1.1,a0.1]
 have zn:IsZip g2 z TI TO .ellipsis:=(a2.extBut _ _ D.nTOz.symm (c2.extBut _ _ D.ni2z.symm (a1.extBut _ _ D.nTOz.symm (c1.extBut _ _ D.ni1z.symm z0))));have kn:∀c o,c≠z->c≠TO->c≠i1->c≠i2->s.heap.get? c=some o->g2.get? c=some o:=fun c o n0 n1 n2 n3 e=>(a2.extBut _ _ n1 (c2.extBut _ _ n3 (a1.extBut _ _ n1 (c1.extBut _ _ n2 (a0.extBut _ _ n0 e)))))
 have j1:It1 k1 g2 i1 l1 (i+1):=q1.1.at fun _ e=>(a2.extBut _ _ D.ni1TO (c2.extBut _ _ D.ni2i1.symm (a1.extBut _ _ D.ni1TO e)))
 have j2:It1 k2 g2 i2 l2 (i+1):=q2.1.at fun _ e=>(a2.extBut _ _ D.ni2TO e)
 have lz:z < g2.objs.size:=Heap.lt_size zn;refine wpAny_bind (m:=SmallTypes.ownedTupleHandOut (.ref z) (.ref g2.objs.size)) ?_;unfold SmallTypes.ownedTupleHandOut;have zp:IsZip (g2.push { cls:=.type "tuple", data:=.seq #[y1,y2] }) z TI TO .ellipsis:=Heap.get?_push_of_some _ zn;refine wpAny_bind (wpAny_setField_rec zp (by simp) fun e1 z1 b1' =>?_)
 have z1:IsZip e1 z TI TO (rawInt g2.objs.size):=z1;refine wpAny_setField_rec z1 (by simp) fun e2 z2 b2' =>?_
 have z2:IsZip e2 z TI TO (rawInt g2.objs.size):=z2;have up:∀c o,c≠z->g2.get? c=some o->e2.get? c=some o:=fun c o n1 e=>b2'.extBut _ _ n1 (b1'.extBut _ _ n1 (Heap.get?_push_of_some _ e))
 have t2:Row2 e2 g2.objs.size y1 y2:=b2'.extBut _ _ (Nat.ne_of_gt lz) (b1'.extBut _ _ (Nat.ne_of_gt lz) (Heap.get?_push_size _ rfl));have s2':e2.objs.size=g2.objs.size+1:=by rw[b2'.1,b1'.1,Heap.size_push]
 rw[sz] at z2 t2 s2';refine wpAny_pure ⟨_,rfl,?_⟩;show Q (.ref g2.objs.size) _;rw[sz];exact q e2 _ y1 y2 p1 p2 z2 (up _ _ D.nTOz O2) (j1.at fun _ e=>up _ _ D.ni1z e) (j2.at fun _ e=>up _ _ D.ni2z e) t2 s2' fun c o n0 n1 n2 n3 e=>up c o n0 (kn c o n0 n1 n2 n3 e)
theorem atn{z TI TO i1 i2 l1 l2:Addr}{k1:Bool}{x1:Array Value}{v1 v2:Value}{Q:Fin->Shared->Prop}(hh:A.handled=none)(D:Apart2 z TI TO i1 i2 l1 l2)
  (hz:IsZip s.heap z TI TO .none) (hI:Row2 s.heap TI (.ref i1) (.ref i2)) (hO:Row2 s.heap TO v1 v2) (h1:It1 k1 s.heap i1 l1 x1.size) (s1:Sq1 k1 s.heap l1 x1)
  (q:∀h' e,(∀c o,c≠z->c≠i1->s.heap.get? c=some o->h'.get? c=some o)->(∃o,h'.get? e=some o/\o.cls=.type "StopIteration")->E (.ref e) { s with heap:=h' }) :
  wpAny (model prog w) A (Builtin.«zip.__next__» ⟨[.ref z],[]⟩) Q E s:=by
 refine wpAny_bind (m:=field (.ref z) 2) (wpAny_field hz rfl (x:=.bool false) rfl ?_);refine wpAny_bind (m:=field (.ref z) 3) (wpAny_field hz rfl (x:=.ref TI) rfl ?_);refine wpAny_bind (wpAny_seqItems hI rfl ?_);refine wpAny_bind (m:=SmallTypes.ownedTupleIsFree (.ref z)) ?_;unfold SmallTypes.ownedTupleIsFree;refine wpAny_bind (wpAny_field hz rfl (x:=.none) rfl (wpAny_pure ?_));simp only[if_true];refine wpAny_bind (wpAny_rule (wpAny_bind (wpAny_field hz rfl (x:=.ref TO) rfl ?_)));refine wpAny_bind (wpAny_setField_rec hz (by simp) fun g0 z0 a0 =>?_)
 have z0:IsZip g0 z TI TO .ellipsis:=z0;refine wpAny_bind ?_;simp only[List.zipIdx_cons,List.zipIdx_nil,List.forIn_cons,List.forIn_nil];refine wpAny_bind (wpAny_bind (wpAny_onRaise ?_));refine wpAny_bind (m:=SmallTypes.nextOf (.ref i1)) ((src hh k1 i1 l1 D.nl1i1 x1).done _ _ _ ⟨(h1.at fun _ e=>a0.extBut _ _ D.ni1z e),(s1.at fun _ e=>a0.extBut _ _ D.nl1z e)⟩ fun f1 e c1 ⟨oe,he,ce⟩ =>?_)
 have zf:IsZip f1 z TI TO .ellipsis:=c1 _ _ D.ni1z.symm z0;have ez:e≠z:=fun x=>by subst x;rw[zf] at he;cases he;simp at ce
 refine wpAny_setField_rec zf (by simp) fun f2 _ a1=>q f2 e (fun c o n1 n2 y=>a1.extBut _ _ n1 (c1 _ _ n2 (a0.extBut _ _ n1 y))) ⟨oe,a1.extBut _ _ ez he,ce⟩
abbrev apu(h:Heap)(k1 k2:Bool)(l1 l2:Addr):Heap:=h.push { cls:=.type (cond k1 "tuple_iterator" "list_iterator"),data:=.fields #[.ref l1,.int 0 0] }
abbrev atq(h:Heap)(k1 k2:Bool)(l1 l2:Addr):Heap:=(apu h k1 k2 l1 l2).push { cls:=.type (cond k2 "tuple_iterator" "list_iterator"),data:=.fields #[.ref l2,.int 0 0] }
abbrev atp(h:Heap)(k1 k2:Bool)(l1 l2:Addr):Heap:=(atq h k1 k2 l1 l2).push { cls:=.type "tuple", data:=.seq #[.ref h.objs.size,.ref (apu h k1 k2 l1 l2).objs.size] }
abbrev ato(h:Heap)(k1 k2:Bool)(l1 l2:Addr):Heap:=(atp h k1 k2 l1 l2).push { cls:=.type "tuple", data:=.seq #[.none,.none] }
abbrev akz(h:Heap)(k1 k2:Bool)(l1 l2:Addr):Heap:=(ato h k1 k2 l1 l2).push { cls:=.type "zip", data:=.fields #[.none,.bool false,.bool false,.ref (atq h k1 k2 l1 l2).objs.size,.ref (atp h k1 k2 l1 l2).objs.size] }
theorem ayz(k1 k2:Bool)(l1 l2:Addr)(x1 x2:Array Value) :
  Meets (Builtin.«zip.__new__» ⟨[.type "zip", .ref l1,.ref l2],[]⟩) (fun _ R s=>Sq1 k1 s.heap l1 x1/\Sq1 k2 s.heap l2 x2/\R (.ok (.ret (.ref (ato s.heap k1 k2 l1 l2).objs.size))) { s with heap:=akz s.heap k1 k2 l1 l2 }) :=
 .of_wp fun prog w A R s h=>by
  obtain⟨hp,g,d,tk,os⟩:=s;obtain⟨s1,s2,h⟩:=h;have sb:=sub_zip;have r1:Sq1 k1 (Shared.heap ⟨hp,g,d,tk,os⟩) l1 x1:=s1.at fun _ e=>e
  have r2:Sq1 k2 (Shared.heap ⟨apu hp k1 k2 l1 l2,g,d,tk,os⟩) l2 x2:=s2.at fun _ e=>Heap.get?_push_of_some _ (e)
  wp_walk using avk r1,avk r2;exact⟨_,rfl,h⟩
theorem as6{k1 k2:Bool}{l1 l2:Addr}{x1 x2:Array Value}{Q:Value->Shared->Prop}(s1:Sq1 k1 s.heap l1 x1)(s2:Sq1 k2 s.heap l2 x2)
  (q:∀h',IsZip h' (s.heap.objs.size+4) (s.heap.objs.size+2) (s.heap.objs.size+3) .none->Row2 h' (s.heap.objs.size+2) (.ref s.heap.objs.size) (.ref (s.heap.objs.size+1))->Row2 h' (s.heap.objs.size+3) .none .none->It1 k1 h' s.heap.objs.size l1 0->It1 k2 h' (s.heap.objs.size+1) l2 0->h'.objs.size=s.heap.objs.size+5->(∀c o,s.heap.get? c=some o->h'.get? c=some o)->Q (.ref (s.heap.objs.size+4)) { s with heap:=h' }) :
  wpAny (model prog w) A (call (.type "zip") [.ref l1,.ref l2]) Q E s:=by
 refine callType_new F.called_zip (by decide) (axo _ _) (ayx _ _) (fun obj=>a0b obj _ _) F.entry_zip_new (ayz k1 k2 l1 l2 x1 x2) ⟨s1,s2,?_⟩
 have e1:(apu s.heap k1 k2 l1 l2).objs.size=s.heap.objs.size+1:=by rw[Heap.size_push]
 have e2:(atq s.heap k1 k2 l1 l2).objs.size=s.heap.objs.size+2:=by rw[Heap.size_push,e1]
 have eI:(atp s.heap k1 k2 l1 l2).objs.size=s.heap.objs.size+3:=by rw[Heap.size_push,e2]
 have eO:(ato s.heap k1 k2 l1 l2).objs.size=s.heap.objs.size+4:=by rw[Heap.size_push,eI]
 have eZ:(akz s.heap k1 k2 l1 l2).objs.size=s.heap.objs.size+5:=by rw[Heap.size_push,eO]
 have gZ:(akz s.heap k1 k2 l1 l2).get? (ato s.heap k1 k2 l1 l2).objs.size=some _:=Heap.get?_push_size _ rfl;have gO:(akz s.heap k1 k2 l1 l2).get? (atp s.heap k1 k2 l1 l2).objs.size=some _:=Heap.get?_push_of_some _ (Heap.get?_push_size _ rfl);have gI:(akz s.heap k1 k2 l1 l2).get? (atq s.heap k1 k2 l1 l2).objs.size=some _:=Heap.get?_push_of_some _ (Heap.get?_push_of_some _ (Heap.get?_push_size _ rfl));have j1:(akz s.heap k1 k2 l1 l2).get? s.heap.objs.size=some _:=Heap.get?_push_of_some _ (Heap.get?_push_of_some _ (Heap.get?_push_of_some _ (Heap.get?_push_of_some _ (Heap.get?_push_size _ rfl))));have j2:(akz s.heap k1 k2 l1 l2).get? (apu s.heap k1 k2 l1 l2).objs.size=some _:=Heap.get?_push_of_some _ (Heap.get?_push_of_some _ (Heap.get?_push_of_some _ (Heap.get?_push_size _ rfl)));show _/\_;rw[e2,eI,eO] at gZ;rw[e1,e2] at gI;rw[eI] at gO;rw[e1] at j2;rw[eO];exact⟨⟨_,gZ,rfl⟩,q _ gZ gI gO (al2 j1) (al2 j2) eZ fun c o x=>Heap.get?_push_of_some _ (Heap.get?_push_of_some _ (Heap.get?_push_of_some _ (Heap.get?_push_of_some _ (Heap.get?_push_of_some _ (x)))))⟩
end
structure Apart3 (z TI TO i1 i2 i3 l1 l2 l3:Addr):Prop where
 nTIz:TI≠z
 nTOz:TO≠z
 nTOTI:TO≠TI
 ni1z:i1≠z
 ni1TI:i1≠TI
 ni1TO:i1≠TO
 ni2z:i2≠z
 ni2TI:i2≠TI
 ni2TO:i2≠TO
 ni2i1:i2≠i1
 ni3z:i3≠z
 ni3TI:i3≠TI
 ni3TO:i3≠TO
 ni3i1:i3≠i1
 ni3i2:i3≠i2
 nl1z:l1≠z
 nl1TO:l1≠TO
 nl1i1:l1≠i1
 nl1i2:l1≠i2
 nl1i3:l1≠i3
 nl2z:l2≠z
 nl2TO:l2≠TO
 nl2i1:l2≠i1
 nl2i2:l2≠i2
 nl2i3:l2≠i3
 nl3z:l3≠z
 nl3TO:l3≠TO
 nl3i1:l3≠i1
 nl3i2:l3≠i2
 nl3i3:l3≠i3
section
variable{prog:Program}{w:World}{A:Around}{E:Value->Shared->Prop}{s:Shared}
end
end En
namespace Mn
open L2 En
def SqK(k:Bool)(K:Fg9)(H:Hp)(a:Addr)(xs:List V):Prop:=cond k (SqT K H a xs) (SqL K H a xs)
theorem aew{xs:List V}{us:List Value}(r:Vals xs us){i:Nat}{x:V}{u:Value}(h:xs[i]? = some x)(h':us.toArray[i]? = some u):RelV x u:=by
 obtain⟨u',e,z⟩:=r.get h;have:us[i]? = some u:=by simpa using h'
 rw[this] at e;cases e;exact z
section
variable{X:Cx}{qv:List (Addr×Obj)}{σ:L2.St}{H:Hp}{s:Shared}{h':Heap}{a:Addr}{xs ys:List V}{k:Bool}
theorem aek(I:Inv X qv σ H s)(h:SqK k X.K H a xs):∃its:List Value,Vals xs its/\Sq1 k s.heap a its.toArray:=by
 cases k with
 | false =>
  obtain⟨its,r,p,_⟩:=I.list h;exact⟨its,r,p.isList⟩
 | true =>
  obtain⟨its,r,p,_⟩:=I.tuple h;exact⟨its,r,p⟩
theorem al3(I:Inv X qv σ H s)(h:SqK k X.K H a xs)(h2:SqK k X.K H a ys):xs=ys:=by
 cases k with
 | false=>exact I.list_inj h h2
 | true=>exact I.tuple_inj h h2
theorem ad9{t':Nat}{fp:List Addr}(I:Inv X qv σ H s)(kk:∀b o,b∉fp->s.heap.get? b=some o->h'.get? b=some o)(hf:∀b∈fp,FpOk X qv H b):Inv X qv σ H { s with heap:=h',toks:=t' }:=by
 have nit:∀b u,H b=some u->b∉fp:=fun b u e z=>by rw[(hf b z).1] at e;cases e
 have nL:X.env.locals∉fp:=fun z=>(hf _ z).2.1 rfl
 refine I.step (g':=s.gens) (d':=s.drawn) (ch:=fp) (fun b hb=>⟨(hf b hb).2.2.2.1,(hf b hb).2.1,(hf b hb).2.2.2.2.1,(hf b hb).2.2.2.2.2⟩) (fun b o _ _ hc e _=>kk b o hc e) (fun b o _ _ hc e _=>⟨o.slots,kk b o hc e⟩) (fun _ _ _ _ n=>n)
  (fun b o hc e=>⟨o,kk b o hc e⟩) (fun _ _ e=>e) (fun _ _ _ e=>e) (fun b ps e=>⟨#[],by rw[e];simp⟩) (fun m hm =>?_) (fun b u e =>?_) I.bare
 ·obtain⟨o,es,ep,ho,r⟩:=hm;exact⟨o,es,ep,kk _ o nL ho,r⟩
 ·refine(I.hok b u e).stay (fun c v hc q=>kk c v ?_ q) (fun _ q=>q) fun _ _ q=>q
  rcases hc with z | z
  ·rw[z];exact nit b u e
  ·exact nit c _ z
theorem ars{t':Nat}{fp:List Addr}{vs:List V}{us:List Value}(I:Inv X qv σ H s)(kk:∀b o,b∉fp->s.heap.get? b=some o->h'.get? b=some o)(hf:∀b∈fp,FpOk X qv H b)(hb:∀b∈fp,b < s.heap.objs.size)
  (r:Vals vs us) (hz:vs.length<=sizeLine) (ht:h'.get? s.heap.objs.size=some { cls:=.type "tuple", data:=.seq us.toArray }):Inv X qv σ (upd H s.heap.objs.size (.tup vs)) { s with heap:=h',toks:=t' }:=by
 have I1:=I.laid (h':=s.heap.push { cls:=.type "tuple", data:=.seq us.toArray }) (t':=s.toks) (a:=s.heap.objs.size) (o:=.tup vs) (fun b u e=>Heap.get?_push_of_some _ e) (Nat.le_refl _) ⟨hz,us,r,⟨_,Heap.get?_push_size _ rfl,rfl,rfl,_,rfl⟩⟩
 have k2:∀b o,b∉fp->(s.heap.push { cls:=.type "tuple", data:=.seq us.toArray }).get? b=some o->h'.get? b=some o:=fun b o hn e=>by
  rcases Heap.get?_push_cases e with⟨rfl,rfl⟩ | e
  ·exact ht
  ·exact kk b o hn e
 have f2:∀b∈fp,FpOk X qv (upd H s.heap.objs.size (.tup vs)) b:=fun b hb'=>by
  obtain⟨f0,f⟩:=hf b hb';exact⟨by rw[bc (Nat.ne_of_lt (hb b hb'))];exact f0,f⟩
 have R:=ad9 (t':=t') (h':=h') (fp:=fp) I1 k2 f2;exact R
end
theorem aw7{k:Bool}{h:Heap}{it a l:Addr}{i:Nat}{xs:Array Value}(x:It1 k h it l i){k':Bool}(y:Sq1 k' h a xs):a≠it:=fun e=>by
 subst e;cases k <;> cases k' <;> exact(by
  obtain⟨o,e1,c1,_⟩:=x;obtain⟨o',e2,c2,_⟩:=y;rw[e1] at e2;cases e2;rw[c1] at c2;simp at c2)
theorem a6c{h:Heap}{a b:Addr}{o:Obj}{n:String}{k:Bool}{xs:Array Value}(e:h.get? b=some o)(c:o.cls=.type n)(hn:n ≠ "list" /\ n ≠ "tuple")(y:Sq1 k h a xs):a≠b:=fun z=>by
 subst z;cases k <;> exact(by
  obtain⟨o',e2,c2,_⟩:=y;rw[e] at e2;cases e2;rw[c] at c2;simp at c2
  first | exact hn.1 c2 | exact hn.2 c2)
def Ite(K:Fg9)(k:Bool)(a:Addr):It :=
 ⟨fun i H=>∃xs x,SqK k K H a xs/\xs[i]? = some x,fun i H x H'=>∃q v,H q=none/\x=.ref q/\H'=upd H q (.tup [.int i,v])/\∀xs,SqK k K H a xs->xs[i]? = some v,fun i H=>∃xs,SqK k K H a xs/\xs.length=i⟩
theorem ap1{P:Program}{w:World}{K:Fg9}{elts:List Expr}{n:Nat}{pos:Pos}(k:Bool)(a e it:Addr)(ne:e≠it) :
  Turn P w K (.Tuple elts n pos) (Ite K k a) [e,it] e (fun i h=>(∃old,IsEnum h e it i old)/\It1 k h it a i) where
 mem:=by simp
 obj:=fun i h st b hb=>by
  have hb:b=e∨b=it:=by simpa using hb
  rcases hb with rfl | rfl
  ·obtain⟨old,z⟩:=st.1;exact⟨_,z,fun v z=>by cases z⟩
  ·exact st.2.got
 keep:=fun i h h' st kk=>by
  obtain⟨⟨old,z⟩,y⟩:=st;exact⟨⟨old,kk e (by simp) _ z⟩,y.at fun o z=>kk it (by simp) o z⟩
 item:=by
  intro X hP hw hK hc i qv s σ H E I hf st hg;subst hP hw hK;obtain⟨⟨old,he⟩,hi⟩:=st;obtain⟨xs,x,hq,hx⟩:=hg;obtain⟨its,rv,sq⟩:=aek I hq;obtain⟨u,hu,ru⟩:=rv.get hx;have hlt:i < its.toArray.size:=by simpa using (List.getElem?_eq_some_iff.mp hu).1
  have nai:=aw7 hi sq;have nae:a≠e:=a6c he rfl (by decide) sq
  have D:=En.src (prog:=X.prog) (w:=X.w) (A:=X.A.in1) (I.ok.hd hc) k it a nai its.toArray;refine wpAny_pyNext_enum_itemD D he ⟨hi,sq⟩ hlt ne (by simp[ne,nae.symm]) fun y g tk hy ho hs hT hz hk =>?_
  refine⟨_,rfl,wpAny_letOwnedTupleGo_enum ho fun g2 he2 sb =>?_⟩
  have ry:=aew rv hx hy;have lte:e < s.heap.objs.size:=Heap.lt_size he;have lti:it < s.heap.objs.size:=by obtain⟨o,z,_⟩:=hi.got;exact Heap.lt_size z
  have fr:H s.heap.objs.size=none:=I.hok.fresh (Nat.le_refl _);refine⟨.ref s.heap.objs.size,upd H s.heap.objs.size (.tup [.int i,x]),?_,rfl,⟨_,x,fr,rfl,rfl,fun ys hy=>by rw[al3 I hy hq];exact hx⟩,⟨⟨_,he2⟩,hs.1.at fun o z=>sb.extBut _ _ ne.symm z⟩,fun b hb =>?_⟩
  ·refine ars (fp:=[e,it]) (us:=[.int i tk,y]) I (fun b o hn z =>?_) hf (fun b hb =>?_) (.cons ⟨tk,rfl⟩ (.cons ry .nil)) (by rw[sizeLine_eq];simp) (sb.extBut _ _ (Nat.ne_of_gt lte) hT)
   ·have h1:b≠e:=fun z=>hn (by simp[z])
    have h2:b≠it:=fun z=>hn (by simp[z])
    exact sb.extBut _ _ h1 (hk b o h1 h2 z)
   ·have hb:b=e∨b=it:=by simpa using hb
    rcases hb with rfl | rfl
    ·exact lte
    ·exact lti
  ·have hb':b=e∨b=it:=by simpa using hb
   rw[bc (by rcases hb' with rfl | rfl;exact Nat.ne_of_lt lte;exact Nat.ne_of_lt lti)]
   exact(hf b hb).1
 done:=by
  intro X hP hw hK hc i qv s σ H E I hf st hg;subst hP hw hK;obtain⟨⟨old,he⟩,hi⟩:=st;obtain⟨xs,hq,hx⟩:=hg;obtain⟨its,rv,sq⟩:=aek I hq;have hl:i=its.toArray.size:=by have:=rv.length;simp;omega
  subst hl;have D:=En.src (prog:=X.prog) (w:=X.w) (A:=X.A.in1) (I.ok.hd hc) k it a (aw7 hi sq) its.toArray;refine wpAny_pyNext_enum_endD D he ⟨hi,sq⟩ fun g eb=>⟨rfl,ad9 (t':=s.toks) (fp:=[e,it]) I (fun b o hn z=>eb b o (fun z=>hn (by simp[z])) z) hf⟩
 self:=fun _ _ _ _ _ st h=>let ⟨_,z⟩:=st.1;wpAny_pyIter_enum z h
theorem a4c:bootBuiltins "zip" = some (.type "zip"):=by decide +kernel
section
variable{X:Cx}
def a7o(K:Fg9)(ta:TA):TI:=fun σ H R=>ta σ H fun vs H1=>∃a k,vs=[.ref a]/\(∃xs,SqK k K H1 a xs)/\R (Ite K k a) H1
theorem ayh{a:Expr}{ta:TA}{p pos:Pos}{elts:List Expr}{n:Nat}{tp:Pos}(hg:Gl X "enumerate")(hm:X.mg "enumerate" = none)(ha:PA X [a] ta)(hs:starEach [a] X.env=[(false,eval a X.env)]:=by rfl) :
  PI X (.Tuple elts n tp) (.Call (.Name "enumerate" p) [a] [] pos) (a7o X.K ta):=by
 intro qv s σ H R I h;refine Call_ (afm I hg hm akq (PyProof.Rows.callWith_type1 (thn (ha pos qv s σ H _ I h) fun us s1 ⟨vs,H1,I1,r1,q1⟩ =>?_) hs rfl))
 obtain⟨b,k,rfl,⟨xs,hq⟩,q⟩:=q1;obtain⟨u,rfl,ru⟩:=vals1 r1;cases ru;obtain⟨its,rv,sq⟩:=aek I1 hq;refine as9 sq fun g he hi hz kk=>wpAny_pyIter_enum he ?_
 have I2:Inv X qv σ H1 { s1 with heap:=g }:=I1.kept (t':=s1.toks) kk
 refine⟨_,[s1.heap.objs.size+1,s1.heap.objs.size],_,_,H1,rfl,I2,ap1 k b _ _ (Nat.succ_ne_self _),⟨⟨_,he⟩,hi⟩,fun c hc =>?_,q⟩
 have hc:c=s1.heap.objs.size+1∨c=s1.heap.objs.size:=by simpa using hc
 rcases hc with rfl | rfl
 ·exact I1.fpOk (Nat.le_succ _) (I1.hok.fresh (Nat.le_succ _))
 ·exact I1.fpOk (Nat.le_refl _) (I1.hok.fresh (Nat.le_refl _))
end
end Mn
namespace En
open PySem PySem.Builtin
theorem awz{prog:Program}{w:World}{A:Around}{E:Value->Shared->Prop}{s:Shared}{z TI TO:Addr}{f0:Value}{Q:Option Value->Shared->Prop}(hz:IsZip s.heap z TI TO f0)
  (h:wpAny (model prog w) A.in1 (Builtin.«zip.__next__» ⟨[.ref z],[]⟩) (fun fin s'=>∃v,fin=.done (.ret v)/\Q (some v) s') (fun e s'=>∃a o,e=.ref a/\s'.heap.get? a=some o/\o.cls=.type "StopIteration" /\ Q none s') s) :
  wpAny (model prog w) A (pyNext (.ref z)) Q E s:=by
 have tz:s.TypeIs (.ref z) "zip" := ⟨_,hz,rfl⟩;unfold pyNext;refine wpAny_bind (wpAny_attempt (wpAny_callSpecial?_slot (name:=Str.ofString "__next__") tz F.slot_zip_next (wpAny_call_entry F.slot_zip_next tz F.entry_zip_next (wpAny_mono h (fun fin s' ⟨v,e,q⟩=>⟨v,e,wpAny_pure q⟩) fun e s' ⟨a,o,e1,e2,e3,q⟩ =>?_) (F.args_zip_next_1 _))))
 subst e1;exact wpAny_bind (wpAny_isInstance (T := "StopIteration") (b:=true) ⟨o,e2,e3⟩ isSubtype_stop (wpAny_pure q))
end En
namespace Mn
open L2 En
def Itz2(K:Fg9)(k1 k2:Bool)(a1 a2:Addr):It :=
 ⟨fun i H=>∃x1 x2 v1 v2,(SqK k1 K H a1 x1/\x1[i]? = some v1)/\(SqK k2 K H a2 x2/\x2[i]? = some v2),fun i H x H'=>∃q v1 v2,H q=none/\x=.ref q/\H'=upd H q (.tup [v1,v2])/\(∀xs,SqK k1 K H a1 xs->xs[i]? = some v1)/\(∀xs,SqK k2 K H a2 xs->xs[i]? = some v2),fun i H=>∃xs,SqK k1 K H a1 xs/\xs.length=i⟩
theorem apz{P:Program}{w:World}{K:Fg9}{elts:List Expr}{n:Nat}{pos:Pos}(k1 k2:Bool)(a1 a2 z TI TO i1 i2:Addr)(D:Apart2 z TI TO i1 i2 a1 a2) :
  Turn P w K (.Tuple elts n pos) (Itz2 K k1 k2 a1 a2) [z,TI,TO,i1,i2] z (fun i h=>IsZip h z TI TO .none/\Row2 h TI (.ref i1) (.ref i2)/\(∃v1 v2,Row2 h TO v1 v2)/\It1 k1 h i1 a1 i/\It1 k2 h i2 a2 i) where
 mem:=by simp
 obj:=fun i h ⟨hz,hI,⟨v1,v2,hO⟩,h1,h2⟩ b hb=>by
  have hb:b=z∨b=TI∨b=TO∨b=i1∨b=i2:=by simpa using hb
  rcases hb with rfl | rfl | rfl | rfl | rfl
  ·exact⟨_,hz,fun v z=>by cases z⟩
  ·exact⟨_,hI,fun v z=>by cases z⟩
  ·exact⟨_,hO,fun v z=>by cases z⟩
  ·exact h1.got
  ·exact h2.got
 keep:=fun i h h' ⟨hz,hI,⟨v1,v2,hO⟩,h1,h2⟩ kk=>⟨kk z (by simp) _ hz,kk TI (by simp) _ hI,⟨v1,v2,kk TO (by simp) _ hO⟩,h1.at fun o e=>kk i1 (by simp) o e,h2.at fun o e=>kk i2 (by simp) o e⟩
 item:=by
  intro X hP hw hK hc i qv s σ H E I hf st hg;subst hP hw hK;obtain⟨hz,hI,⟨o1,o2,hO⟩,h1,h2⟩:=st;obtain⟨x1,x2,v1,v2,⟨hq1,hx1⟩,⟨hq2,hx2⟩⟩:=hg;obtain⟨t1,r1,s1⟩:=aek I hq1;obtain⟨u1,hu1,_⟩:=r1.get hx1;have b1:i < t1.toArray.size:=by simpa using (List.getElem?_eq_some_iff.mp hu1).1
  obtain⟨t2,r2,s2⟩:=aek I hq2;obtain⟨u2,hu2,_⟩:=r2.get hx2;have b2:i < t2.toArray.size:=by simpa using (List.getElem?_eq_some_iff.mp hu2).1
  refine awz hz (aps (I.ok.hd hc) D hz hI hO h1 s1 h2 s2 b1 b2 fun g tk y1 y2 p1 p2 z2 O2 j1 j2 T2 hsz hk =>?_)
  refine⟨_,rfl,wpAny_letOwnedTupleGo_zip z2 fun g2 he2 sb =>?_⟩
  have fr:H s.heap.objs.size=none:=I.hok.fresh (Nat.le_refl _);have lt:∀b∈[z,TI,TO,i1,i2],b < s.heap.objs.size:=fun b hb=>by
   have hb:b=z∨b=TI∨b=TO∨b=i1∨b=i2:=by simpa using hb
   rcases hb with rfl | rfl | rfl | rfl | rfl
   ·exact Heap.lt_size hz
   ·exact Heap.lt_size hI
   ·exact Heap.lt_size hO
   ·obtain⟨o,e,_⟩:=h1.got;exact Heap.lt_size e
   ·obtain⟨o,e,_⟩:=h2.got;exact Heap.lt_size e
  have up:∀b o,b∉[z,TI,TO,i1,i2]->s.heap.get? b=some o->g2.get? b=some o:=fun b o hn e=>sb.extBut _ _ (fun x=>hn (by simp[x])) (hk b o (fun x=>hn (by simp[x])) (fun x=>hn (by simp[x])) (fun x=>hn (by simp[x])) (fun x=>hn (by simp[x])) e)
  have TI2:g2.get? TI=_:=sb.extBut _ _ D.nTIz (hk TI _ D.nTIz D.nTOTI.symm D.ni1TI.symm D.ni2TI.symm hI);refine⟨.ref s.heap.objs.size,upd H s.heap.objs.size (.tup [v1,v2]),?_,rfl,⟨_,v1,v2,fr,rfl,rfl,fun ys hy=>by rw[al3 I hy hq1];exact hx1,fun ys hy=>by rw[al3 I hy hq2];exact hx2⟩,⟨he2,TI2,⟨y1,y2,sb.extBut _ _ D.nTOz O2⟩,(j1.at fun o e=>sb.extBut _ _ D.ni1z e),(j2.at fun o e=>sb.extBut _ _ D.ni2z e)⟩,fun b hb =>?_⟩
  ·exact ars (fp:=[z,TI,TO,i1,i2]) (us:=[y1,y2]) I up hf lt (.cons (aew r1 hx1 p1) (.cons (aew r2 hx2 p2) .nil)) (by rw[sizeLine_eq];simp) (sb.extBut _ _ (Nat.ne_of_gt (lt z (by simp))) T2)
  ·rw[bc (Nat.ne_of_lt (lt b hb))];exact(hf b hb).1
 done:=by
  intro X hP hw hK hc i qv s σ H E I hf st hg;subst hP hw hK;obtain⟨hz,hI,⟨o1,o2,hO⟩,h1,h2⟩:=st;obtain⟨xs,hq,hx⟩:=hg;obtain⟨its,rv,sq⟩:=aek I hq;have hl:i=its.toArray.size:=by have:=rv.length;simp;omega
  subst hl;refine awz hz (atn (I.ok.hd hc) D hz hI hO h1 sq fun g e kk ⟨o,he,ce⟩=>⟨e,o,rfl,he,ce,rfl,ad9 (t':=s.toks) (fp:=[z,TI,TO,i1,i2]) I (fun b o hn z=>kk b o (fun z=>hn (by simp[z])) (fun z=>hn (by simp[z])) z) hf⟩)
 self:=fun _ _ _ _ _ st h=>wpAny_pyIter_zip st.1 h
theorem apart2{N l1 l2:Nat}(h1:l1 < N)(h2:l2 < N):Apart2 (N+4) (N+2) (N+3) N (N+1) l1 l2:=by
 constructor <;> (intro e;have e:(_:Nat)=_:=e;omega)
section
variable{X:Cx}
def a7k(K:Fg9)(ta:TA):TI:=fun σ H R=>ta σ H fun vs H1=>∃a1 a2 k1 k2,vs=[.ref a1,.ref a2]/\(∃xs,SqK k1 K H1 a1 xs)/\(∃xs,SqK k2 K H1 a2 xs)/\R (Itz2 K k1 k2 a1 a2) H1
theorem ayg{e1 e2:Expr}{ta:TA}{p pos:Pos}{elts:List Expr}{n:Nat}{tp:Pos}(hg:Gl X "zip")(hm:X.mg "zip" = none)(ha:PA X [e1,e2] ta)(hs:starEach [e1,e2] X.env=[(false,eval e1 X.env),(false,eval e2 X.env)]:=by rfl)(hs2:starEach [e2] X.env=[(false,eval e2 X.env)]:=by rfl) :
  PI X (.Tuple elts n tp) (.Call (.Name "zip" p) [e1,e2] [] pos) (a7k X.K ta):=by
 intro qv s σ H R I h;refine Call_ (afm I hg hm a4c (PyProof.Rows.callWith_type1 (thn (ha pos qv s σ H _ I h) fun us s1 ⟨vs,H1,I1,r1,q1⟩ =>?_) (by rw[hs,hs2]) (by rw[hs2];rfl)))
 obtain⟨a1,a2,k1,k2,rfl,⟨x1,hq1⟩,⟨x2,hq2⟩,q⟩:=q1;obtain⟨u1,u2,rfl,ru1,ru2⟩:=vals2 r1;cases ru1;cases ru2;obtain⟨t1,r1',sq1⟩:=aek I1 hq1;have b1:a1 < s1.heap.objs.size:=by obtain⟨o,e⟩:=sq1.got;exact Heap.lt_size e
 obtain⟨t2,r2',sq2⟩:=aek I1 hq2;have b2:a2 < s1.heap.objs.size:=by obtain⟨o,e⟩:=sq2.got;exact Heap.lt_size e
 refine as6 sq1 sq2 fun g hz hI hO h1 h2 hsz kk=>wpAny_pyIter_zip hz ?_
 have I2:Inv X qv σ H1 { s1 with heap:=g }:=I1.kept (t':=s1.toks) kk
 refine⟨_,[s1.heap.objs.size+4,s1.heap.objs.size+2,s1.heap.objs.size+3,s1.heap.objs.size,s1.heap.objs.size+1],_,_,H1,rfl,I2,apz k1 k2 a1 a2 _ _ _ _ _ (apart2 b1 b2),⟨hz,hI,⟨_,_,hO⟩,h1,h2⟩,fun c hc =>?_,q⟩
 have hc:s1.heap.objs.size<=c:=by
  simp only[List.mem_cons,List.not_mem_nil,or_false] at hc;rcases hc with rfl | rfl | rfl | rfl | rfl <;> first | exact Nat.le_refl _ | exact Nat.le_add_right _ _
 exact I1.fpOk hc (I1.hok.fresh hc)
end
section
variable{X:Cx}
end
end Mn
namespace Dn
open L2 Mn
section
variable{K:Fg9}{X:Cx}{e a b c:Expr}{es elts:List Expr}{pos p tp:Pos}{n:Nat}
theorem aqd{F:Hp}{d:D}{l:List D}{v:V}(e:itemsD d=some l)(h:Is K F d v):∃a k vs,v=.ref a/\IsL K F l vs/\∀H,Same F H->SqK k K H a vs:=by
 cases h with
 | tup e1 h1=>cases e;exact⟨_,true,_,rfl,h1,fun H g=>SqT.of (g _ _ e1)⟩
 | lst e1 h1=>cases e;exact⟨_,false,_,rfl,h1,fun H g=>SqL.of (g _ _ e1)⟩
 | kst e1 h1=>cases e;exact⟨_,false,_,rfl,h1,fun H g=>L2.Same.seq g e1⟩
 | _=>cases e
def agn(l:List D):List D:=l.mapIdx fun i d=>.tup [.int (i:Nat),d]
def avx:List D->Option (List D)
 | [d]=>(itemsD d).map agn
 | _=>none
theorem adg(l:List D):(agn l).length=l.length:=by unfold agn;simp
theorem af1{l:List D}{i:Nat}{d:D}(h:(agn l)[i]? = some d):∃d0,l[i]? = some d0/\d=.tup [.int (i:Nat),d0]:=by
 unfold agn at h;rw[List.getElem?_mapIdx] at h;cases e:l[i]? with
 | none=>rw[e] at h;cases h
 | some d0=>rw[e] at h;cases h;exact⟨d0,rfl,rfl⟩
theorem avm{F:Hp}{k:Bool}{a:Addr}{l:List D}{vs:List V}(il:IsL K F l vs)(hs:∀H,Same F H->SqK k K H a vs):ItD K (Ite K k a) (agn l) F where
 go:=fun i H s hi=>by
  have hi:i < vs.length:=by rw[<-il.length,<-adg];exact hi
  exact⟨vs,_,hs H s,List.getElem?_eq_getElem hi⟩
 yld:=fun i H x H' d s y hd=>by
  obtain⟨d0,h0,rfl⟩:=af1 hd;obtain⟨q,v,hq,rfl,rfl,hv⟩:=y;obtain⟨v',e1,i1⟩:=il.get h0;have:=hv _ (hs H s);rw[e1] at this;cases this;exact .inr ⟨q,_,_,hq,rfl,rfl,rfl,.cons (.int _) (.cons i1 .nil)⟩
 stop:=fun H s=>⟨vs,hs H s,by rw[adg,il.length]⟩
theorem aro{m:M (List D)}(hg:Gl X "enumerate")(hm:X.mg "enumerate" = none)(h:ED K X [a] m)(hs:starEach [a] X.env=[(false,eval a X.env)]:=by rfl):IT K X (.Tuple elts n tp) (.Call (.Name "enumerate" p) [a] [] pos) (mGet avx m):=IT.mk fun hk=>by
 intro qv s σ H R I z9;obtain⟨tg,F,ρ,l,ρ',G,em,q⟩:=z9;obtain⟨ds,ρ1,e1,em⟩:=au em;obtain⟨e2,rfl⟩:=fu em;have h:=h hk;subst hk;refine ayh hg hm h hs qv s σ H R I ⟨tg,F,ρ,ds,_,G,e1,fun vs H' F' G' x r =>?_⟩
 match ds,e2 with
 | [d],e2 =>
  have e2:(itemsD d).map agn=some l:=e2;cases e3:itemsD d with
  | none=>rw[e3] at e2;cases e2
  | some l0 =>
   rw[e3] at e2;cases e2;cases r with
   | cons h1 t =>
    cases t;obtain⟨b,k,ws,rfl,il,hq⟩:=aqd e3 h1;exact⟨b,k,rfl,⟨ws,hq _ G'.sub⟩,q _ H' F' G' x (avm il hq)⟩
def mz(l1 l2:List D):List D:=List.zipWith (fun x y=>.tup [x,y]) l1 l2
def al4:List D->Option (List D)
 | [a,b]=>(itemsD a).bind fun l1=>(itemsD b).bind fun l2=>if l1.length<=l2.length then some (mz l1 l2) else none
 | _=>none
theorem ai3{l1 l2:List D}{i:Nat}{d:D}(h:(mz l1 l2)[i]? = some d):∃d1 d2,l1[i]? = some d1/\l2[i]? = some d2/\d=.tup [d1,d2]:=by
 unfold mz at h;rw[List.getElem?_zipWith] at h;cases e1:l1[i]? with
 | none=>rw[e1] at h;cases h
 | some d1 =>
  cases e2:l2[i]? with
  | none=>rw[e1,e2] at h;cases h
  | some d2=>rw[e1,e2] at h;cases h;exact⟨_,_,rfl,rfl,rfl⟩
theorem avl{F:Hp}{k1 k2:Bool}{a1 a2:Addr}{l1 l2:List D}{x1 x2:List V}(h:l1.length<=l2.length)(i1:IsL K F l1 x1)(i2:IsL K F l2 x2)(s1:∀H,Same F H->SqK k1 K H a1 x1)(s2:∀H,Same F H->SqK k2 K H a2 x2):ItD K (Itz2 K k1 k2 a1 a2) (mz l1 l2) F where
 go:=fun i H s hi=>by
  have z1:=i1.length;have z2:=i2.length;have hi:i < l1.length:=by unfold mz at hi;simp at hi;omega
  exact⟨x1,x2,_,_,⟨s1 H s,List.getElem?_eq_getElem (by omega)⟩,s2 H s,List.getElem?_eq_getElem (by omega)⟩
 yld:=fun i H x H' d s y hd=>by
  obtain⟨d1,d2,h1,h2,rfl⟩:=ai3 hd;obtain⟨q,v1,v2,hq,rfl,rfl,y1,y2⟩:=y;obtain⟨w1,e1,j1⟩:=i1.get h1;obtain⟨w2,e2,j2⟩:=i2.get h2;have z1:=y1 _ (s1 H s);have z2:=y2 _ (s2 H s);rw[e1] at z1;rw[e2] at z2;cases z1;cases z2;exact .inr ⟨q,_,_,hq,rfl,rfl,rfl,.cons j1 (.cons j2 .nil)⟩
 stop:=fun H s=>⟨x1,s1 H s,by unfold mz;rw[List.length_zipWith,<-i1.length];omega⟩
theorem afq{m:M (List D)}(hg:Gl X "zip")(hm:X.mg "zip" = none)(h:ED K X [a,b] m)(hs:starEach [a,b] X.env=[(false,eval a X.env),(false,eval b X.env)]:=by rfl)(hs2:starEach [b] X.env=[(false,eval b X.env)]:=by rfl) :
  IT K X (.Tuple elts n tp) (.Call (.Name "zip" p) [a,b] [] pos) (mGet al4 m):=IT.mk fun hk=>by
 intro qv s σ H R I z9;obtain⟨tg,F,ρ,l,ρ',G,em,q⟩:=z9;obtain⟨ds,ρ1,e1,em⟩:=au em;obtain⟨e2,rfl⟩:=fu em;have h:=h hk;subst hk;refine ayg hg hm h hs hs2 qv s σ H R I ⟨tg,F,ρ,ds,_,G,e1,fun vs H' F' G' x r =>?_⟩
 match ds,e2 with
 | [d,d'],e2 =>
  have e2:((itemsD d).bind fun l1=>(itemsD d').bind fun l2=>if l1.length<=l2.length then some (mz l1 l2) else none)=some l:=e2
  cases e3:itemsD d with
  | none=>rw[e3] at e2;cases e2
  | some l1 =>
   cases e4:itemsD d' with
   | none=>rw[e3,e4] at e2;cases e2
   | some l2 =>
    rw[e3,e4] at e2;have e2:(if l1.length<=l2.length then some (mz l1 l2) else none)=some l:=e2
    split at e2
    ·rename_i hle;cases e2;cases r with
     | cons h1 t =>
      cases t with
      | cons h2 t =>
       cases t;obtain⟨b1,k1,w1,rfl,il1,hq1⟩:=aqd e3 h1;obtain⟨b2,k2,w2,rfl,il2,hq2⟩:=aqd e4 h2;exact⟨b1,b2,k1,k2,rfl,⟨w1,hq1 _ G'.sub⟩,⟨w2,hq2 _ G'.sub⟩,q _ H' F' G' x (avl hle il1 il2 hq1 hq2)⟩
    ·cases e2
end
end Dn
namespace Mn
open L2
theorem avs{X:Cx}:PGet X (rIxL X.K):=by
 intro qv s σ H x y v u Q I rx ry h;obtain⟨p,xs,i,z,rfl,rfl,hq,he,q⟩:=h;cases rx;obtain⟨t,rfl⟩:=ry;obtain⟨its,r,pl,hz⟩:=I.list hq;obtain⟨j,h1,h2,h3,h4,h5⟩:=amf he;obtain⟨w,ew,rw'⟩:=r.get h2;have hl:=r.length;have hn:=ajt;have fin:EP X qv σ Q w s:=⟨z,H,I,rw',q⟩
 by_cases h0:0<=i
 ·have hj:i.toNat=j:=by
   rw[seqIndex_of h0 h5] at h1;exact Option.some.inj h1
  exact wpAny_getItem_list pl.isList h0 (by omega) (by rw[hj];simpa using ew) fin
 ·have hj:(i+(its.toArray.size:Int)).toNat=j:=by
   rw[seqIndex_neg (by omega) h4] at h1
   have:=Option.some.inj h1;rw[List.size_toArray,<-hl];exact this
  exact wpAny_getItem_list_neg pl.isList (by omega) (by simp only[List.size_toArray];omega) (by omega) (by rw[hj];simpa using ew) fin
end Mn
namespace Dn
open L2 Mn
section
variable{K:Fg9}{X:Cx}{e a b:Expr}{pos p:Pos}
def amc(f:Int->Int->Int)(i:Nat)(mi m:M D):Sd:=dM (mOwn i) fun _=>dM mi fun k=>dM (mOwn i) fun l=>dM (lift ((asI k).bind (ixN l.length))) fun j=>dM (lift ((l[j]?).bind asI)) fun x=>dM m fun y=>dM (lift (asI y)) fun y=>dM (mOwn i) fun l2=>dM (lift (if l2.length=l.length then some () else none)) fun _=>dM (ac0 i (l2.set j (.int (f x y)))) fun _=>dNx
theorem a3b{n:Nat}{k:Int}{j:Nat}{α:Type}{l:List α}(hn:l.length=n)(h:ixN n k=some j):atI l k=l[j]? := by
 unfold atI;rw[hn,h];rfl
theorem ap4{f:Int->Int->Int}{op:Operator}{i:Nat}{mi m:M D}(ho:PE X a (tVar i))(hi:EV K X b mi)(h:EV K X e m)(hp:PIp X op (ipI f))
  (ha:∀ov iv new,augStore b ov iv new=(do holding [new,ov,iv] (setItem ov iv new);release [new,ov,iv] [];pure .next):=by intros;rfl):SV K X (.AugAssign (.Subscript a b p) op e pos) (amc f i mi m):=SV.mk fun hk=>by
 subst hk;refine PS.imp (ayb ho (hi rfl) avs (h rfl) hp set_list ha) fun E σ H z9 =>?_
 obtain⟨tg,F,ρ,fl,ρ',G,em,q⟩:=z9;refine qu em q fun l0 ρ0 e0 em=>qu em q fun k ρ1 e1 em=>qu em q fun l ρ2 e2 em=>qu em q fun j ρ3 e3 em=>qu em q fun x ρ4 e4 em=>qu em q fun y ρ5 e5 em=>qu em q fun y' ρ6 e6 em=>qu em q fun l2 ρ7 e7 em=>qu em q fun u ρ8 e8 em=>qu em q fun u2 ρ9 e9 em =>?_
 cases em;obtain⟨rfl,t0,a0,xs0,es0,hv,hh0,hl0⟩:=afa G e0;refine⟨_,hv,tg,F,_,k,ρ1,G,e1,fun w H1 F1 G1 x1 r1 =>?_⟩
 obtain⟨rfl,t1,a1,xs1,es1,hv1,hh1,hl1⟩:=afa G1 e2;rw[hv] at hv1;cases hv1;obtain⟨g3,rfl⟩:=fu e3;obtain⟨g4,rfl⟩:=fu e4;cases ek:asI k with
 | none=>rw[ek] at g3;cases g3
 | some n =>
  rw[ek] at g3;obtain rfl:=adq ek;cases r1;have e3:ixN l.length n=some j:=g3;cases ej:l[j]? with
  | none=>rw[ej] at g4;cases g4
  | some d =>
   rw[ej] at g4;have h4:asI d=some x:=g4;obtain rfl:=adq h4;obtain⟨v,ev,iv⟩:=hl1.get ej;cases iv;refine⟨_,xs1,n,.int x,rfl,rfl,SqL.of hh1,by rw[a3b hl1.length.symm e3];exact ev,?_⟩
   refine⟨tg,F1,_,y,ρ5,G1,e5,fun w2 H2 F2 G2 x2 r2 =>?_⟩
   obtain⟨g6,rfl⟩:=fu e6;obtain rfl:=adq g6;cases r2;refine⟨x,y',rfl,rfl,?_⟩;obtain⟨rfl,t2,a2,xs2,es2,hv2,hh2,hl2⟩:=afa G2 e7;rw[hv] at hv2;cases hv2;obtain⟨g8,rfl⟩:=fu e8;split at g8
   ·rename_i hlen;obtain⟨G3,x3⟩:=alw G2 e9 hv (hl2.set (Is.int (f x y')) j);exact⟨_,xs2,n,j,rfl,rfl,hh2,by rw[<-hl2.length,hlen];exact e3,q _ _ F2 G3 ((x1.trans x2).trans x3)⟩
   ·cases g8
end
end Dn
namespace Mn
open L2
section
variable{prog:Program}{w:World}{A:Around}{E:Value->Shared->Prop}{s:Shared}
theorem aov{l:Addr}{vs:List Value}{ns:List Int}{Q:Value->Shared->Prop}(hl:IsTup s.heap l vs.toArray)(hI:IntsAre vs ns)(h64:vs.length < 64)
  (h:∀(h1 h':Heap) (out:Array Value) (ns':List Int) (e:Nat),(∀b o,s.heap.get? b=some o->h1.get? b=some o)->(∀b o,h1.get? b=some o->h'.get? b=some o)->h'.get? h1.objs.size=some (seqObj "list" out e)->IntsAre out.toList ns'->ns'.Perm ns->ns'.Pairwise (· <= ·)->Q (.ref h1.objs.size) { s with heap:=h' }) :
  wpAny (model prog w) A (call (.builtin "sorted") [.ref l]) Q E s:=by
 obtain⟨o,ho,hc,n,hd⟩:=id hl;refine Calls.call_function_entry kind_sorted plain_sorted entry_sorted (args_sorted1 _) ?_;unfold Builtin.«sorted»
 refine wpAny_bind (m:=checkCount "sorted" 1 1 _) (wpAny_pure ?_);refine wpAny_bind (wpAny_collect_seq l (.inr rfl) ho hc hd (fun h1 k1 =>?_) (by rw[List.size_toArray,sizeLine_eq];omega))
 refine wpAny_bind (wpAny_newList ?_);have hoL:(h1.push (seqObj "list" vs.toArray 0)).get? h1.objs.size=some (seqObj "list" vs.toArray 0):=Heap.get?_push_size _ rfl;show wpAny _ _ _ _ _ { s with heap:=h1.push (seqObj "list" vs.toArray 0) }
 refine wpAny_bind (wpAny_holding (wpAny_call_entry slot_list_sort ⟨_,hoL,rfl⟩ entry_list_sort (list_sort_tree hoL hI h64 fun out ns' a1 a2 a3=>⟨_,rfl,?_⟩) (args_list_sort _)))
 obtain⟨e,he⟩:=sortedHeap_at (out:=out) hoL;exact wpAny_pure ⟨_,rfl,h h1 _ out ns' e k1 (fun b ob q=>by
  have hlt:b < h1.objs.size:=Heap.lt_size q;rw[sortedHeap_old (Nat.ne_of_lt hlt) (by rw[size_push'];exact Nat.lt_succ_of_lt hlt)]
  exact Heap.get?_push_of_some _ q) he a1 a2 a3⟩
end
end Mn
namespace Dn
open L2 Mn
section
variable{K:Fg9}{X:Cx}
def aik:D->Option Rv
 | .tup l=>(vp l).bind fun ns=>if ns.length < 64 then some (.fr ((sortI ns).map D.int)) else none
 | d=>ail d
@[simp] theorem axb(l:List D):aik (.lst l)=ail (.lst l):=rfl
theorem apl:CallD K X (.builtin "sorted") (g1 fun d=>match d with | .tup l=>(vp l).bind fun ns=>if ns.length < 64 then some (.fr ((sortI ns).map D.int)) else none | _=>none):=cd_one fun hk qv s σ0 H x u Q tg F ρ σ d r I ru G bd eg q=>by
 subst hk;cases d with
 | tup l =>
  have eg:(vp l).bind (fun ns=>if ns.length < 64 then some (Rv.fr ((sortI ns).map D.int)) else none)=some r:=eg
  cases e:vp l with
  | none=>rw[e] at eg;cases eg
  | some ns =>
   rw[e] at eg;have eg:(if ns.length < 64 then some (Rv.fr ((sortI ns).map D.int)) else none)=some r:=eg
   split at eg
   ·rename_i h64;cases eg;obtain⟨a,vs,rfl,ea,hl⟩:=bd.tup;rw[ac5 e] at hl;rw[hl.int_inv] at ea;cases ru;obtain⟨its,rv,pl,_⟩:=I.tuple (SqT.of (G.sub _ _ ea));have hlen:=rv.length;rw[List.length_map] at hlen;refine aov pl (intsAre_of rv) (by omega) fun h1 h' out ns' ep k1 k2 eo i1 hp hs =>?_
    have e':=amr hp hs;subst e';have I1:=I.kept (h':=h1) (t':=s.toks) k1;have hn:H h1.objs.size=none:=I1.hok.fresh (Nat.le_refl _);refine⟨.ref h1.objs.size,upd H h1.objs.size (.lst ((sortI ns).map V.int)),?_,rfl,Res.lst G q (ac4 _) hn⟩;refine I1.laid (t':=s.toks) k2 (Nat.le_refl _) ?_;refine⟨?_,out.toList,ep,aaj i1,by simpa using eo⟩
    rw[List.length_map,(sortI_perm ns).length_eq];exact Nat.le_of_lt (ai7 (by omega))
   ·cases eg
 | _=>cases eg
theorem apm:CallD K X (.builtin "sorted") (g1 aik):=cd_one fun hk qv s σ0 H x u Q tg F ρ σ d r I ru G bd eg q=>by
 cases d with
 | tup l=>exact apl.go hk qv s σ0 H [x] [u] Q I (.cons ru .nil) ⟨tg,F,ρ,σ,[.tup l],r,G,.cons bd .nil,eg,q⟩
 | lst l=>exact asz.go hk qv s σ0 H [x] [u] Q I (.cons ru .nil) ⟨tg,F,ρ,σ,[.lst l],r,G,.cons bd .nil,eg,q⟩
 | _=>cases eg
end
end Dn
namespace Mn
open L2
def aef(y:Str)(env:Env)(XN:List Str)(scope:Scope)(fr N:List Str)(src:List (Option Nat)):Bool :=
 scope.names.all (fun z=>(z.2 != .cell||z.1==y)&&(z.2 != .local||scope.names.lookup z.1==some .local)&&(z.2 != .free||fr.contains z.1)) &&
 fr.all (fun x=>x != y&&(scope.names.lookup x==some .free&&(env.kindOf x==some .cell||env.kindOf x==some .free)))&&adv XN fr N src
structure CompOkY (y:Str) (env:Env) (XN:List Str) (scope:Scope) (fr N:List Str) (src:List (Option Nat)):Prop where
 cell:∀z∈scope.names,z.2=.cell->z.1=y
 loc:∀z∈scope.names,z.2=.local->scope.names.lookup z.1=some .local
 free:∀z∈scope.names,z.2=.free->z.1∈fr
 ne:∀x∈fr,x≠y
 frk:∀x∈fr,scope.names.lookup x=some .free
 out:∀x∈fr,env.kindOf x=some .cell∨env.kindOf x=some .free
 src:adv XN fr N src=true
theorem CompOkY.of{y:Str}{env:Env}{XN:List Str}{scope:Scope}{fr N:List Str}{src:List (Option Nat)}(h:aef y env XN scope fr N src=true):CompOkY y env XN scope fr N src:=by
 simp only[aef,Bool.and_eq_true,List.all_eq_true] at h;obtain⟨⟨h1,h2⟩,h3⟩:=h;refine⟨fun z hz e =>?_,fun z hz e =>?_,fun z hz e =>?_,fun x hx =>?_,fun x hx =>?_,fun x hx =>?_,h3⟩
 ·have:=(h1 z hz).1.1;rw[e] at this
  simpa using this
 ·have:=(h1 z hz).1.2;rw[e] at this
  simpa using this
 ·have:=(h1 z hz).2;rw[e] at this
  simpa using this
 ·simpa using (h2 x hx).1
 ·simpa using (h2 x hx).2.1
 ·simpa using (h2 x hx).2.2
def cxY(y:Str)(X:Cx)(N:List Str)(scope:Scope)(fr:List Str)(fp:List Addr)(s:Shared)(H:Hp):Cx :=
 { cxC X N scope fr fp s H with env:=compEnvC scope ((y,s.heap.objs.size+1)::mq X.env fr) s.heap.objs.size X.env,fn:=fun x=>x==y }
theorem kh{M:Model}{A:Around}{E:Value->Shared->Prop}{s:Shared}{scope:Scope}{globals:Addr}{cl:List (Str×Addr)}{qual:Str}{func:Option Addr}{code:Value}{ar:Env}{builtins:Addr}{Q:Env->Shared->Prop}
  (hQ:Q (newEnv scope s.heap.objs.size globals (cellsFrom (s.heap.objs.size+1) scope.names cl) qual func code (some ar) builtins)
   { s with heap:=pushCells (s.heap.push { cls:=.type "dict", data:=.dict #[] }) scope.names }) :
  wpAny M A (newFunctionEnv scope globals cl [] qual func code (some ar) builtins) Q E s:=by
 simp only[newFunctionEnv,Option.isSome_some,if_true];refine wpAny_bind (wpAny_alloc ?_);refine wpAny_bind (wpAny_layCells _ (fun name kind cells=>by cases hkc:kind==NameKind.cell <;> simp[hkc]) _ _ _ _ ?_)
 rw[show({ s with heap:=s.heap.push { cls:=.type "dict", data:=.dict #[] } }:Shared).heap.objs.size=s.heap.objs.size+1 from Heap.size_push ..]
 refine wpAny_bind ?_;rw[List.forIn_nil];exact wpAny_pure (wpAny_pure hQ)
section
variable{y:Str}{X:Cx}{qv:List (Addr×Obj)}{σ:L2.St}{H:Hp}{s:Shared}{scope:Scope}{fr N:List Str}{src:List (Option Nat)}{fp:List Addr}
theorem aq8{a c:Addr}{x:Str}{l:List (Str×Addr)}(h:List.lookup x ((y,a)::l)=some c):(x=y/\c=a)∨(x≠y/\l.lookup x=some c):=by
 by_cases e:x=y
 ·subst e;rw[look_same] at h;exact .inl ⟨rfl,(Option.some.inj h).symm⟩
 ·rw[ym e] at h;exact .inr ⟨e,h⟩
theorem a3w(I:Inv X qv σ H s)(C:CompOkY y X.env X.N scope fr N src)(hkind:scope.kind=.function)(hf:∀b∈fp,FpOk X qv H b)(hl:∀b∈fp,b < s.heap.objs.size):(cxY y X N scope fr fp s H).Ok where
 mod:=I.ok.mod
 kind:=hkind
 glob:=I.ok.glob
 blt:=I.ok.blt
 above:=Nat.le_refl _
 inj:=fun x z c h1 h2=>by
  have lt:∀{x c},(mq X.env fr).lookup x=some c->c < s.heap.objs.size:=fun h=>by
   obtain⟨v,q⟩:=I.cell _ _ (iu h);exact q.lt
  rcases aq8 h1 with⟨e1,a1⟩ | ⟨e1,l1⟩ <;> rcases aq8 h2 with⟨e2,a2⟩ | ⟨e2,l2⟩
  ·rw[e1,e2]
  ·exact absurd (lt l2) (by rw[a1];exact fun h=>absurd h (Nat.not_lt.mpr (Nat.le_succ _)))
  ·exact absurd (lt l1) (by rw[a2];exact fun h=>absurd h (Nat.not_lt.mpr (Nat.le_succ _)))
  ·exact I.ok.inj x z c (iu l1) (iu l2)
 has:=fun x hx=>by
  by_cases e:x=y
  ·subst e;exact⟨_,look_same⟩
  have mem:∀k,(k=NameKind.cell∨k=NameKind.free)->(cxY y X N scope fr fp s H).env.kindOf x=some k->x∈fr:=fun k hk e'=>by
   obtain⟨k0,e0,d⟩:=aar (env:=X.env) (names:=scope.names) e';have hm:=PySem.mem_of_lookup e0;rcases d with rfl | ⟨rfl,_⟩
   ·rcases hk with rfl | rfl
    ·exact absurd (C.cell _ hm rfl) e
    ·exact C.free _ hm rfl
   ·exact C.free _ hm rfl
  have hm:x∈fr:=by
   rcases hx with e | e
   ·exact mem _ (.inl rfl) e
   ·exact mem _ (.inr rfl) e
  obtain⟨c,hc⟩:=I.ok.has x (C.out x hm);exact⟨c,(ym e).trans (vd hm hc)⟩
 cab:=fun x c h e=>by
  have hx:x=y:=by simpa[cxY] using h
  subst hx;rw[show(cxY x X N scope fr fp s H).env.cells=(x,s.heap.objs.size+1)::mq X.env fr from rfl,look_same] at e
  cases e;exact Nat.le_succ _
 hd:=I.ok.hd
 frames:=I.ok.frames
 stk:=.inl rfl
 exf:=fun b hb=>⟨Nat.ne_of_lt (hl b hb),fun x c e=>by
  rcases aq8 e with⟨_,a1⟩ | ⟨_,l1⟩
  ·rw[a1];exact fun h=>absurd (hl b hb) (by rw[<-h];exact Nat.not_lt.mpr (Nat.le_succ _))
  ·exact(hf b hb).2.2.2.2.1 x c (iu l1)⟩
 bs:=I.bs
 bsz:=Nat.le_trans I.ok.bsz I.sz
 noex:=fun b o e hb=>by
  rcases(hf b hb).2.2.2.1 with z | z
  ·exact I.ok.noex b o e z
  ·exact absurd (Nat.lt_of_lt_of_le (Heap.lt_size e) (Nat.le_trans I.ok.bsz z)) (Nat.lt_irrefl _)
 exfs:=fun b hb z=>by
  rcases List.mem_cons.mp (I.stkSub b z) with e | e
  ·exact(hf b hb).2.1 e
  ·exact(hf b hb).2.2.1 e
 funs:=I.stack
 frf:=I.stkFree
theorem ajz(I:Inv X qv σ H s)(C:CompOkY y X.env X.N scope fr N src)(hkind:scope.kind=.function)(hf:∀b∈fp,FpOk X qv H b)(hl:∀b∈fp,b < s.heap.objs.size){h':Heap}{tk:Nat}{m:Str->Option Value}
  (hns:h'.Ns s.heap.objs.size m) (hk:∀b o,s.heap.get? b=some o->h'.get? b=some o) (hc:h'.IsCell (s.heap.objs.size+1) none):Inv (cxY y X N scope fr fp s H) [] (pick src σ) H { s with heap:=h',toks:=tk } where
 ok:=a3w I C hkind hf hl
 os:=rfl
 bare:=I.bare
 base:=Un.kept hk
 loc:=by
  refine⟨m,hns,fun i x v h1 h2 h3 =>?_⟩
  obtain⟨j,hj,hv⟩:=am2 h2;obtain⟨hN,hm⟩:=ack C.src h1 hj;obtain⟨mo,_,hlo⟩:=I.loc;have vis:Vis X.env.scope x:=by
   rcases C.out x hm with e | e
   ·exact .inr (.inl e)
   ·exact .inr (.inr e)
  obtain⟨u,r,l⟩:=hlo j x v hN hv vis;refine⟨u,r,.inr ⟨?_,?_⟩⟩
  ·rcases ww (env:=X.env) (C.frk x hm) with e | e
   ·exact .inr e
   ·exact .inl e
  ·rcases l with⟨e,_⟩ | ⟨_,c,hc,z⟩
   ·rcases C.out x hm with q | q
    ·rw[q] at e;cases e
    ·rw[q] at e;cases e
   ·obtain⟨o,ho,hd⟩:=z;exact⟨c,(ym (C.ne x hm)).trans (vd hm hc),o,hk c o ho,hd⟩
 cell:=fun x c e=>by
  rcases aq8 e with⟨_,a1⟩ | ⟨_,l1⟩
  ·rw[a1];exact⟨_,hc⟩
  ·obtain⟨v,o,ho,hd⟩:=I.cell x c (iu l1);exact⟨v,o,hk c o ho,hd⟩
 free:=I.hok.fresh (Nat.le_refl _)
 freeC:=fun x c e=>by
  rcases aq8 e with⟨_,a1⟩ | ⟨_,l1⟩
  ·rw[a1];exact I.hok.fresh (Nat.le_succ _)
  ·exact I.freeC x c (iu l1)
 pin:=fun p hp=>absurd (show p∈([]:List (Addr×Obj)) from hp) (by simp)
 hok:=I.hok.kept hk
 len:=by
  unfold pick;rw[List.length_map];exact acj C.src
theorem aj0{pins':List (Addr×Obj)}{σ':L2.St}{H':Hp}{s':Shared}{h'':Heap}(I:Inv X qv σ H s)(hf:∀b∈fp,FpOk X qv H b)(J:Inv (cxY y X N scope fr fp s H) pins' σ' H' s')
  (hs:Heap.SameBut s.heap.objs.size s'.heap h''):Inv X qv σ H' { s' with heap:=h'' }:=by
 have k:∀b o,b≠s.heap.objs.size->s'.heap.get? b=some o->h''.get? b=some o:=fun b o hb e=>(hs.2 b hb).trans e
 have old:∀b o,s.heap.get? b=some o->b≠s.heap.objs.size:=fun b o e=>Nat.ne_of_lt (Heap.lt_size e)
 have un:Un (frs X.stack) fp H H' s.heap h'':=by
  have u:Un (frs X.stack) fp H H' s.heap s'.heap:=J.base;refine⟨fun b o e n hb hx=>k b o (old b o e) (u.keep b o e n hb hx),fun b o e n hb hx =>?_,u.free,fun b o e hx =>?_,u.tups,u.frzs,u.tbls⟩
  ·obtain⟨sl,q⟩:=u.slot b o e n hb hx;exact⟨sl,k b _ (old b o e) q⟩
  ·obtain⟨o',q⟩:=u.there b o e hx;exact⟨o',k b _ (old b o e) q⟩
 have hok:HOk X.prog X.w H' h'':=fun b u e=>by
  have nC:∀c z,H' c=some z->c≠s.heap.objs.size:=fun c z q w=>by
   have f:H' s.heap.objs.size=none:=J.free;rw[w,f] at q;cases q
  refine(J.hok b u e).stay (fun c v hc q=>k c v ?_ q) (fun _ q=>q) fun _ _ q=>q
  rcases hc with z | z
  ·rw[z];exact nC b u e
  ·exact nC c _ z
 have os:s'.os=s.os:=J.os;refine Inv.call' (s':={ s' with heap:=h'' }) I os un hok J.bare fun b hb =>?_
 obtain⟨_,f1,_,f3,f4,f5⟩:=hf b hb;exact⟨f3,f1,f4,f5⟩
end
theorem auq{X:Cx}{tg iter elt:Expr}{ifs:List Expr}{scope:Scope}{pos:Pos}{wi:TI}{g:TG}{ti:TT}{te:TE}(y:Str)(fr N:List Str)(src:List (Option Nat))(hc:X.calm=true)(hi:PI X tg iter wi)
  (hg:∀fp s H,PG (cxY y X N scope fr fp s H) tg g) (ht:∀fp s H,PIf (cxY y X N scope fr fp s H) ifs ti) (he:∀fp s H,PE (cxY y X N scope fr fp s H) elt te)
  (hok:aef y X.env X.N scope fr N src=true) (hcf:∀a l,cellsFrom a scope.names l=(y,a)::l) (hkind:scope.kind=.function) (hclos:closureFor scope X.env=pure (mq X.env fr))
  (hs:∀x,foldedSetIterable iter X.env x=pure x):PE X (.ListComp elt [⟨tg,iter,ifs,0⟩] scope pos) (ap3 wi g ti te src):=by
 have C:=CompOkY.of hok;intro qv s σ H Q I h;rw[eval_ListComp];refine wpAny_comprehension_free (use:=none) rfl hs hclos hkind C.loc (wpAny_mono (hi qv s σ H _ I h) (fun v s1 h1=>wpAny_mono h1 (fun itv s2 h2 =>?_) fun _ _ e=>e) fun _ _ e=>e)
 obtain⟨it,fp,tn,J,H2,e,I2,T,st2,f2,q2⟩:=h2;subst e;have hd0:H2 s2.heap.objs.size=none:=I2.hok.fresh (Nat.le_refl _);obtain⟨W,⟨m0,w0⟩,turn⟩:=q2 s2.heap.objs.size hd0;refine wpAny_newObj_type ?_;generalize hs3:({ s2 with heap:=s2.heap.push { cls:=.type "list", dict:=none,data:=.seq ([]:List Value).toArray } }:Shared)=s3
 have keep2:∀b o,s2.heap.get? b=some o->s3.heap.get? b=some o:=fun b o e=>by rw[<-hs3];exact Heap.get?_push_of_some _ e
 have I3:Inv X qv σ (upd H2 s2.heap.objs.size (.lst [])) s3:=by
  rw[<-hs3];exact I2.laid (t':=s2.toks) (fun b u q=>Heap.get?_push_of_some _ q) (Nat.le_refl _) ⟨Nat.zero_le _,[],0,.nil,Heap.get?_push_size _ rfl⟩
 have ne0:∀b∈fp,b≠s2.heap.objs.size:=fun b hb=>by
  obtain⟨o,e,_⟩:=T.obj _ _ st2 b hb;exact Nat.ne_of_lt (Heap.lt_size e)
 have f3:∀b∈fp,FpOk X qv (upd H2 s2.heap.objs.size (.lst [])) b:=fun b hb=>⟨by rw[bc (ne0 b hb)];exact(f2 b hb).1,(f2 b hb).2⟩
 have lt3:∀b∈fp,b < s3.heap.objs.size:=fun b hb=>by
  obtain⟨o,e,_⟩:=T.obj _ _ st2 b hb;exact Heap.lt_size (keep2 b o e)
 refine kh ?_;rw[hcf];have ok:=cellsFrom_ok scope.names (s3.heap.push { cls:=.type "dict", data:=.dict #[] }) (s3.heap.objs.size+1) [] ⟨fun _ _ hm=>(nomatch hm),List.Pairwise.nil⟩ (by rw[Heap.size_push];exact Nat.le_refl _)
 rw[Heap.size_push,hcf] at ok;have hns₁:=(Heap.Ns.new s3.heap (.type "dict")).keeps (pushCells_keeps scope.names _);have keep3:∀b o,s3.heap.get? b=some o->(pushCells (s3.heap.push { cls:=.type "dict", data:=.dict #[] }) scope.names).get? b=some o:=fun b o e=>pushCells_keeps _ _ b o (Heap.get?_push_of_some _ e)
 have hcl:=(ok.empty y (s3.heap.objs.size+1) List.mem_cons_self).1;generalize pushCells (s3.heap.push { cls:=.type "dict", data:=.dict #[] }) scope.names=h₁ at hns₁ keep3 hcl ⊢
 have st4:tn 0 h₁:=T.keep _ _ _ st2 fun b hb o e=>keep3 b o (keep2 b o e)
 have I4:=ajz (tk:=s3.toks) I3 C hkind f3 lt3 hns₁ keep3 hcl;have loop:=adn (X:=cxY y X N scope fr fp s3 (upd H2 s2.heap.objs.size (.lst []))) (iter:=iter) (scope:=scope) (pos:=pos) (d:=s2.heap.objs.size)
  (R:=compPost (model X.prog X.w) X.A X.xe none (EP X qv σ Q) (.ref s2.heap.objs.size) s3.heap.objs.size) hc rfl T
  (fun H' hn b hb=>⟨hn b hb,Nat.ne_of_lt (lt3 b hb),I4.ok.exfs b hb,.inl hb,(I4.ok.exf b hb).2,fun p hp=>absurd (show p∈([]:List (Addr×Obj)) from hp) (by simp)⟩)
  (hg fp s3 _) (ht fp s3 _) (he fp s3 _) turn w0 I4 st4 (fun b hb=>(f3 b hb).1) (fun σ' H' s' I6 qn=>by
   obtain⟨m6,hn6,_⟩:=I6.loc;exact⟨m6,hn6,fun h'' hs''=>⟨.ref s2.heap.objs.size,H',aj0 I3 f3 I6 hs'',rfl,qn⟩⟩)
 exact codeAny_compStart_list loop (T.self _ 0 _ _ _ st4 loop)
end Mn
namespace Dn
open L2 Mn
theorem av2{K:Fg9}{X:Cx}{tgt iter elt:Expr}{pos:Pos}{ifs:List Expr}{scope:Scope}{mi:M (List D)}{bb:D->Ro->Option Ro}{mc:M Bool}{me:M D}(y:Str)(fr N:List Str)(src:List (Option Nat))(hc:X.calm=true)(hi:IT K X tgt iter mi)
  (hg:∀fp s H,GV K (cxY y X N scope fr fp s H) tgt bb) (ht:∀fp s H,EIf K (cxY y X N scope fr fp s H) ifs mc) (he:∀fp s H,EV K (cxY y X N scope fr fp s H) elt me)
  (hok:aef y X.env X.N scope fr N src=true:=by rfl) (hcf:∀a l,cellsFrom a scope.names l=(y,a)::l:=by intro _ _;rfl) (hkind:scope.kind=.function:=by rfl) (hclos:closureFor scope X.env=pure (mq X.env fr):=by rfl)
  (hs:∀x,foldedSetIterable iter X.env x=pure x:=by intro _;rfl):ER K X (.ListComp elt [⟨tgt,iter,ifs,0⟩] scope pos) (tu src mi bb mc me):=ER.mk fun hk=>by
 have hkc:∀fp s H,(cxY y X N scope fr fp s H).K=K:=fun _ _ _=>hk
 refine PE.imp (auq y fr N src hc (hi hk) (fun fp s H=>(hg fp s H).go (hkc _ _ _)) (fun fp s H=>(ht fp s H).go (hkc _ _ _)) (fun fp s H=>(he fp s H).go (hkc _ _ _)) hok hcf hkind hclos hs) aet
theorem aa9{c:M Bool}{g:Sd}(Inv:Nat->Ro->Prop)(Done:Ro->Prop)(hs:∀k ρ,Inv k ρ->(∃ρ',c ρ=some (.ok false,ρ')/\Done ρ')∨∃ρ1 ρ2 k',c ρ=some (.ok true,ρ1)/\g ρ1=some (.nx,ρ2)/\k' < k/\Inv k' ρ2) :
  ∀(n k:Nat) (ρ:Ro),k < n->Inv k ρ->∃ρ',whileD c g n ρ=some (.nx,ρ')/\Done ρ'
 | 0,k,ρ,h,_=>absurd h (Nat.not_lt_zero _)
 | n+1,k,ρ,h,h0=>by
  unfold whileD;rcases hs k ρ h0 with⟨ρ',e,d⟩ | ⟨ρ1,ρ2,k',e1,e2,hk,h2⟩
  ·rw[e];exact⟨ρ',rfl,d⟩
  ·rw[e1];dsimp only;rw[e2];exact aa9 Inv Done hs n k' ρ2 (by omega) h2
theorem aip:100000 < fuel:=by unfold fuel;decide
theorem ais(a b:Int):eqD (.int a) (.int b)=decide (a=b):=by
 show(a==b)=_
 by_cases h:a=b <;> simp[h]
theorem az9(ns:List Int)(a:Int):(ns.map D.int).any (fun y=>eqD y (.int a))=decide (a∈ns):=by
 induction ns with
 | nil=>simp
 | cons x r ih=>simp[ais,List.mem_cons,ih,eq_comm]
theorem ajo(n:Nat)(ns:List Int):(ns.map D.int).all (okD n)=true:=by
 induction ns with
 | nil=>rfl
 | cons x r ih=>simp[okD]
theorem al6(neg:Bool)(a:Int)(ns:List Int):gIn neg (.int a) (.lst (ns.map D.int))=some (.v (.bl (if neg then !decide (a∈ns) else decide (a∈ns)))):=by
 have h:=ajo 30 ns;have h2:=az9 ns a;simp only[gIn,itemsD,h,h2];simp[okD]
theorem an2:∀(a b:List Int),eqDs (a.map D.int) (b.map D.int)=decide (a=b)
 | [],[]=>rfl
 | [],_::_=>rfl
 | _::_,[]=>rfl
 | x::r,y::t=>by
  show(eqD (.int x) (.int y)&&eqDs (r.map D.int) (t.map D.int))=_;rw[ais,an2 r t]
  by_cases h:x=y <;> simp[h]
theorem akd(a b:List Int):eqD (.tup (a.map D.int)) (.tup (b.map D.int))=decide (a=b):=by
 rw[<-an2];exact asf _ _
theorem avw(neg:Bool)(a b:List Int):gEq neg (.tup (a.map D.int)) (.tup (b.map D.int))=some (.v (.bl (if neg then !decide (a=b) else decide (a=b)))):=by
 have h1:okD 30 (.tup (a.map D.int))=true:=ajo 29 a;have h2:okD 30 (.tup (b.map D.int))=true:=ajo 29 b;simp only[gEq,h1,h2,akd];simp
def minI(ns:List Int):Int:=ado (fun i j=>decide (i < j)) ns
theorem avu{ns:List Int}(h:ns≠[]):azh (.tup (ns.map D.int))=some (.v (.int (minI ns))):=by
 show(vp (ns.map D.int)).bind _=_;rw[afs];simp[h,minI]
theorem aj9{ns:List Int}(h:ns.length < 64):ail (.lst (ns.map D.int))=some (.fr ((sortI ns).map D.int)):=by
 show(vp (ns.map D.int)).bind _=_;rw[afs];simp[h]
@[simp] theorem a3l(d:D):avx [d]=(itemsD d).map agn:=rfl
@[simp] theorem a3j(a b:D):al4 [a,b]=(itemsD a).bind fun l1=>(itemsD b).bind fun l2=>if l1.length<=l2.length then some (mz l1 l2) else none:=rfl
@[simp] theorem a0g(ρ:Ro)(f:Int->Int->Int)(i:Nat)(mi m:M D):amc f i mi m ρ=(dM (mOwn i) fun _=>dM mi fun k=>dM (mOwn i) fun l=>dM (lift ((asI k).bind (ixN l.length))) fun j=>dM (lift ((l[j]?).bind asI)) fun x=>dM m fun y=>dM (lift (asI y)) fun y=>dM (mOwn i) fun l2=>dM (lift (if l2.length=l.length then some () else none)) fun _=>dM (ac0 i (l2.set j (.int (f x y)))) fun _=>dNx) ρ:=rfl
@[simp] theorem a2m(ρ:Ro)(i:Nat)(ms:M (List D)):aq6 i ms ρ=((di i).bind fun d0=>ms.bind fun ds=>(di i).bind fun d=>(lift (match d0,d with
 | .lst _,.lst _=>some ()
 | .tup _,.tup _=>some ()
 | _,_=>none)).bind fun _=>lift (aio d ds)) ρ:=rfl
@[simp] theorem azm(l:List D)(x:D):aio (.lst l) [x]=if okD 30 x&&l.all (okD 30) then some (.int (l.countP fun y=>eqD y x)) else none:=rfl
@[simp] theorem azl(l:List D)(x:D):aio (.tup l) [x]=if okD 30 x&&l.all (okD 30) then some (.int (l.countP fun y=>eqD y x)) else none:=rfl
theorem apt{l1 l2:List D}(h:l1.length<=l2.length):(mz l1 l2).length=l1.length:=by unfold mz;rw[List.length_zipWith];omega
theorem ai2{ns:List Int}{k:Int}(h0:0<=k)(h1:k < (ns.length:Int)):atI (ns.map D.int) k=some (.int (ns.getD k.toNat 0)):=by
 have hk:k.toNat < ns.length:=by omega
 have q:atI (ns.map D.int) ((k.toNat:Nat):Int)=some (.int (ns.getD k.toNat 0)):=ai1 (by simp[List.getElem?_eq_getElem hk])
 rw[show((k.toNat:Nat):Int)=k by omega] at q
 exact q
theorem aca{n:Nat}{k:Int}(h0:0<=k)(h1:k < (n:Int)):ixN n k=some k.toNat:=by
 unfold ixN;simp[h0,h1]
theorem gr{K:Fg9}{P:Program}{w:World}{mg:Str->Option Value}{base:Heap}{x qual:Str}{st:Stmt}{f:Addr}{fd:FuncData}{N ps:List Str}{k nl np:Nat}{g:Sd}(F:Fun K x qual st f fd)(S:FnScope N ps (aa st))(h1:N.length=nl)(h2:ps.length=np)
  (body:∀(cdv:Value) (A:Around) (outer:List Env) (s:Shared) (H:Hp) (E:XK),Room k (A.deeper (envOfC qual (aa st) s.heap.objs.size f cdv))->SVs K (cxOf CX0 P w K mg base N qual (aa st) f cdv A outer s H E).nox (ig st) g) :
  FnOk P w K mg base CX0 (k+1) f fd ps (spOf K np (fnD nl np g)):=by
 subst h1 h2;exact a7y F S body
end Dn
namespace Mn
open L2
section
variable{X:Cx}
end
end Mn
namespace Dn
open L2 Mn
section
variable{K:Fg9}{X:Cx}
end
theorem mkSc{N P:List Str}{sc:Scope}(a:sc.kind=.function)(b:sc.isCoroutine=false)(c:sc.isGenerator=false)(e:N.take P.length=P)(d:N.Nodup/\(∀x∈P,sc.names.lookup x=some .local∨sc.names.lookup x=some .cell)/\∀y∈sc.names,y.2≠.free):FnScope N P sc:=⟨a,b,c,d.1,e,d.2.1,d.2.2⟩
section
variable{K:Fg9}{X:Cx}{e a b o:Expr}{es:List Expr}{pos p p2:Pos}
def FldT(K:Fg9)(c f:Str):Prop:=∀C,nsIn K mainGlobals c=some (some (.ref C))->Cls K C/\aa8 K C f
def mLnk(c:Str)(i:Nat)(f:Str)(j:Nat):M Unit:=fun ρ=>match ρ[i]?,ρ[j]? with
 | some (.box c' fs),some (.own (some k) _)=>match fs.lookup f with
  | some (.inl k')=>if c'=c/\k'=k then some (.ok (),ρ) else none
  | _=>none
 | _,_=>none
theorem a2r{tg:Nat->Addr}{F H:Hp}{ρ ρ':Ro}{σ:L2.St}(G:Good K tg F H ρ σ){c f:Str}{i j:Nat}{u:Unit}(hc:FldT K c f)(em:mLnk c i f j ρ=some (.ok u,ρ')) :
  ρ'=ρ/\∃a C dx fvs v,σ[i]? = some (some (.ref a))/\H a=some (.ins C dx fvs)/\Cls K C/\aa8 K C f/\fvs.lookup f=some v/\σ[j]? = some (some v):=by
 unfold mLnk at em;split at em
 ·rename_i c' fs k l ei ej;split at em
  ·rename_i k' hk;split at em
   ·rename_i hz;obtain⟨rfl,rfl⟩:=hz;cases em;obtain⟨oi,hoi,a,C,dx,fvs,rfl,hf,hh,hn,_,h1,_⟩:=G.at ei;obtain⟨oj,hoj,b,vs,rfl,_,_,_,ht⟩:=G.at ej;obtain⟨k1,k2⟩:=hc C hn;refine⟨rfl,a,C,dx,fvs,.ref b,hoi,hh,k1,k2,?_,hoj⟩;rw[h1 f _ hk,ht _ rfl]
   ·cases em
  ·cases em
 ·cases em
abbrev tAt(K:Fg9)(i:Nat)(f:Str):TE:=tFld K (tVar i) f
theorem a1o{i:Nat}{f:Str}(h:PE X o (tVar i))(hb:attributeBase o f X.env (eval o X.env)=eval o X.env:=by rfl):PE X (.Attribute o f pos) (tAt X.K i f):=a1n h hb
def mFV(c:Str)(i:Nat)(f:Str):M D:=fun ρ=>match ρ[i]? with
 | some (.box c' fs)=>if c'=c then match fs.lookup f with
  | some (.inr d)=>some (.ok d,ρ)
  | _=>none
  else none
 | _=>none
theorem av0{c f:Str}{i:Nat}(hc:FldT K c f)(h:PE X o (tVar i))(hb:attributeBase o f X.env (eval o X.env)=eval o X.env:=by rfl):EV K X (.Attribute o f pos) (mFV c i f):=EV.mk fun hk=>by
 subst hk;refine PE.imp (a1o h hb) fun σ H Q z9 =>?_
 obtain⟨tg,F,ρ,d,ρ',G,em,q⟩:=z9;unfold mFV at em;split at em
 ·rename_i c' fs ei;split at em
  ·rename_i hz;subst hz;split at em
   ·rename_i d' hd;cases em;obtain⟨oi,hoi,a,C,dx,fvs,rfl,hf,hh,hn,_,_,h2⟩:=G.at ei;obtain⟨k1,k2⟩:=hc C hn;obtain⟨v,hv,iv⟩:=h2 f _ hd;exact⟨_,hoi,a,C,dx,fvs,v,rfl,hh,k1,k2,hv,q v H F G (Ext.refl _ _ _) iv⟩
   ·cases em
  ·cases em
 ·cases em
end
theorem _root_.L2.Inv.gh{X:Cx}{qv:List (Addr×Obj)}{σ σ2:L2.St}{H:Hp}{s:Shared}(I:Inv X qv σ H s)(hl:σ2.length=σ.length)(h:∀(i:Nat) (x:Str) (v:V),X.N[i]? = some x->σ2[i]? = some (some v)->Vis X.env.scope x->σ[i]? = some (some v)):Inv X qv σ2 H s:=by
 obtain⟨m,hm,hx⟩:=I.loc;exact⟨I.ok,I.os,I.bare,I.base,⟨m,hm,fun i x v e q vis=>hx i x v e (h i x v e q vis) vis⟩,I.cell,I.free,I.freeC,I.pin,I.hok,hl.trans I.len⟩
def GH(X:Cx)(σ σ2:L2.St):Prop:=σ2.length=σ.length/\∀(i:Nat) (x:Str) (v:V),X.N[i]? = some x->σ2[i]? = some (some v)->Vis X.env.scope x->σ[i]? = some (some v)
theorem aqm{X:Cx}{ss:List Stmt}{t:TS}(h:PSs X ss t):PSs X ss (fun D σ H=>∃σ2,GH X σ σ2/\t D σ2 H):=fun qv s σ H D I ⟨σ2,g,q⟩=>h qv s σ2 H D (I.gh g.1 g.2) q
theorem ag3{α β:Type}[BEq α]{f:α}:∀{a b:List (α×β)},(a++b).lookup f=(a.lookup f).or (b.lookup f)
 | [],b=>rfl
 | (g,x)::a,b=>by
  rw[List.cons_append];simp only[List.lookup];split
  ·rfl
  ·exact ag3
section
variable{K:Fg9}{X:Cx}{tg:Nat->Addr}{F H:Hp}{ρ:Ro}{σ:L2.St}
theorem ay4{js:List (Option Nat)}{ds:List (Option D)}{vs gv:List V}{gs:List Nat}{a:Addr}(ar:AR K F σ js ds vs)(hg:gv.length=gs.length)(hgv:∀(n j:Nat) (v:V),gs[n]? = some j->gv[n]? = some v->σ[j]? = some (some v)) :
  Lent K F σ ((V.ref a::(vs++gv)).map some) (none::(js++gs.map some)) (none::(ds++gs.map fun _=>none)):=by
 have L:=ar.lent;have l0:=ar.length;have l2:=L.l2;refine⟨by simp[hg,l0],by simp[l2],fun i j o h q =>?_,fun i d h q =>?_⟩
 ·cases i with
  | zero=>cases h
  | succ i =>
   rw[List.getElem?_cons_succ] at h;rw[List.map_cons,List.getElem?_cons_succ,List.getElem?_map]
   by_cases hi:i < js.length
   ·rw[List.getElem?_append_left hi] at h;have z:=L.h1 i j o h q;rw[List.getElem?_map] at z;rw[List.getElem?_append_left (by omega)]
    exact z
   ·rw[List.getElem?_append_right (by omega),List.getElem?_map] at h
    obtain⟨j',hj,e⟩:=Option.map_eq_some_iff.mp h;cases e;rw[List.getElem?_append_right (by omega),l0]
    have hlt:i - js.length < gv.length:=by rw[hg];exact(List.getElem?_eq_some_iff.mp hj).1
    have z:=hgv _ _ _ hj (List.getElem?_eq_getElem hlt);rw[q] at z;rw[List.getElem?_eq_getElem hlt];exact z.symm▸rfl
 ·cases i with
  | zero=>cases q
  | succ i =>
   rw[List.getElem?_cons_succ] at h q;rw[List.map_cons,List.getElem?_cons_succ,List.getElem?_map]
   by_cases hi:i < js.length
   ·rw[List.getElem?_append_left hi] at h;rw[List.getElem?_append_left (by omega)] at q
    obtain⟨v,hv,iv⟩:=L.h2 i d h q;rw[List.getElem?_map] at hv;rw[List.getElem?_append_left (by omega)]
    exact⟨v,hv,iv⟩
   ·rw[List.getElem?_append_right (by omega),List.getElem?_map] at h
    obtain⟨j',_,e⟩:=Option.map_eq_some_iff.mp h;cases e
end
structure DfnM (P:Program) (w:World) (K:Fg9) (mg:Str->Option Value) (base:Heap) (c m:Str) (ps:List Str) (k:Nat) (sp:Sp):Prop where
 ex:∃C f fd,nsIn K mainGlobals c=some (some (.ref C))/\Cls K C/\Meth K C m f/\FnOk P w K mg base CX0 k f fd ps sp/\Binds K fd ps []
def mIsB(c:Str)(i:Nat)(m:Str):M (List (Str×(Nat ⊕ D))):=fun ρ=>match ρ[i]? with
 | some (.box c' fs)=>if c'=c/\(fs.lookup m).isNone=true then some (.ok fs,ρ) else none
 | _=>none
theorem a3f{K:Fg9}{tg:Nat->Addr}{F H:Hp}{ρ ρ':Ro}{σ:L2.St}(G:Good K tg F H ρ σ){c m:Str}{i:Nat}{fs:List (Str×(Nat ⊕ D))}(em:mIsB c i m ρ=some (.ok fs,ρ')) :
  ρ'=ρ/\(ρ:List Sl)[i]? = some (.box c fs)/\∃a C dx fvs,σ[i]? = some (some (.ref a))/\F a=none/\H a=some (.ins C dx fvs)/\nsIn K mainGlobals c=some (some (.ref C))/\(∀f,fs.lookup f=none->fvs.lookup f=none)/\fvs.lookup m=none/\(∀f k,fs.lookup f=some (.inl k)->fvs.lookup f=some (.ref (tg k)))/\∀f d,fs.lookup f=some (.inr d)->∃v,fvs.lookup f=some v/\Is K F d v:=by
 unfold mIsB at em;split at em
 ·rename_i c' fs' ei;split at em
  ·rename_i hz;obtain⟨rfl,hm⟩:=hz;cases em;obtain⟨oi,hoi,a,C,dx,fvs,rfl,hf,hh,hn,h0,h1,h2⟩:=G.at ei;exact⟨rfl,ei,a,C,dx,fvs,hoi,hf,hh,hn,h0,h0 m (Option.isNone_iff_eq_none.mp hm),h1,h2⟩
  ·cases em
 ·cases em
def ab7:Sl->Bool
 | .box _ _=>false
 | _=>true
section
variable{K:Fg9}{X:Cx}{tg:Nat->Addr}{F H F1 H1:Hp}{O O1:Addr->Prop}{ρ:Ro}{σ:L2.St}
theorem Good.updN(G:Good K tg F H ρ σ)(hb:(ρ:List Sl).all ab7=true){d:Addr}(hf:F d=none)(hn:¬Own ρ σ d)(o:HO):Good K tg F (L2.upd H d o) ρ σ where
 sub:=fun b u e=>by
  have hb:b≠d:=fun z=>by subst z;rw[hf] at e;cases e
  rw[bc hb];exact G.sub b u e
 len:=G.len
 inj:=G.inj
 sl:=fun i s o' e q=>by
  have z:=G.sl i s o' e q;cases s with
  | emp=>trivial
  | val _=>exact z
  | lol _=>exact z
  | lnk _=>exact z
  | box c fs=>exact absurd (List.all_eq_true.mp hb _ (List.mem_of_getElem? e)) (by simp[ab7])
  | own t l =>
   obtain⟨a,vs,e1,f,e2,h,ht⟩:=z;have ha:a≠d:=fun z=>hn (z▸⟨i,⟨t,l,e⟩,by rw[q,e1]⟩)
   exact⟨a,vs,e1,f,by rw[bc ha];exact e2,h,ht⟩
inductive FdR (K:Fg9) (F H:Hp) (O:Addr->Prop):List (Str×Rv)->List (Str×V)->List Addr->Prop
 | nil:FdR K F H O [] [] []
 | v {f:Str} {d:D} {v:V} {rs:List (Str×Rv)} {fvs:List (Str×V)} {A:List Addr} (h:Is K F d v) (t:FdR K F H O rs fvs A):FdR K F H O ((f,.v d)::rs) ((f,v)::fvs) A
 | fr {f:Str} {l:List D} {e:Addr} {ws:List V} {rs:List (Str×Rv)} {fvs:List (Str×V)} {A:List Addr} (hf:F e=none) (hn:¬O e) (hh:H e=some (.lst ws)) (h:IsL K F l ws) (ne:e∉A) (t:FdR K F H O rs fvs A):FdR K F H O ((f,.fr l)::rs) ((f,.ref e)::fvs) (e::A)
theorem FdR.step{rs:List (Str×Rv)}{fvs:List (Str×V)}{A:List Addr}(h:FdR K F H O rs fvs A)(x:Ext O O1 F H F1 H1):FdR K F1 H1 O1 rs fvs A:=by
 induction h with
 | nil=>exact .nil
 | v h t ih=>exact .v (h.mono x.sub) ih
 | @fr f l e ws rs fvs A hf hn hh h ne t ih =>
  refine .fr ?_ (fun z =>?_) (x.keep e _ hh hn) (h.mono x.sub) ne ih
  ·cases z:F1 e with
   | none=>rfl
   | some o =>
    rcases x.new e o z with z | z | z
    ·rw[hf] at z;cases z
    ·rw[hh] at z;cases z
    ·exact absurd z hn
  ·rcases x.own e z with z | z
   ·exact hn z
   ·rw[hh] at z;cases z
theorem FdR.out{rs:List (Str×Rv)}{fvs:List (Str×V)}{A:List Addr}(h:FdR K F H O rs fvs A):∀e∈A,¬O e/\F e=none/\∃ws,H e=some (.lst ws)/\∃l,IsL K F l ws:=by
 induction h with
 | nil=>exact fun e he=>absurd he List.not_mem_nil
 | v h t ih=>exact ih
 | @fr f l e ws rs fvs A hf hn hh h ne t ih =>
  intro e' he;rcases List.mem_cons.mp he with rfl | he
  ·exact⟨hn,hf,ws,hh,l,h⟩
  ·exact ih e' he
theorem FdR.upd{rs:List (Str×Rv)}{fvs:List (Str×V)}{A:List Addr}{d:Addr}{o:HO}(h:FdR K F H O rs fvs A)(hd:d∉A):FdR K F (L2.upd H d o) O rs fvs A:=by
 induction h with
 | nil=>exact .nil
 | v h t ih=>exact .v h (ih hd)
 | @fr f l e ws rs fvs A hf hn hh h ne t ih =>
  have h1:d≠e/\d∉A:=⟨fun q=>hd (q▸List.mem_cons_self ..),fun q=>hd (List.mem_cons_of_mem _ q)⟩
  exact .fr hf hn (by rw[bc (Ne.symm h1.1)];exact hh) h ne (ih h1.2)
theorem FdR.snocV{rs:List (Str×Rv)}{fvs:List (Str×V)}{A:List Addr}(h:FdR K F H O rs fvs A){f:Str}{d:D}{v:V}(hd:Is K F d v):FdR K F H O (rs++[(f,.v d)]) (fvs++[(f,v)]) A:=by
 induction h with
 | nil=>exact .v hd .nil
 | v h t ih=>exact .v h ih
 | fr hf hn hh h ne t ih=>exact .fr hf hn hh h ne ih
theorem FdR.snocF{rs:List (Str×Rv)}{fvs:List (Str×V)}{A:List Addr}(h:FdR K F H O rs fvs A){f:Str}{l:List D}{e:Addr}{ws:List V}(h1:F e=none)(h2:¬O e)(h3:H e=some (.lst ws))(h4:IsL K F l ws)(h5:e∉A):FdR K F H O (rs++[(f,.fr l)]) (fvs++[(f,.ref e)]) (A++[e]):=by
 induction h with
 | nil=>exact .fr h1 h2 h3 h4 List.not_mem_nil .nil
 | v h t ih=>exact .v h (ih h5)
 | @fr f' l' e' ws' rs fvs A hf hn hh h ne t ih =>
  have z:e≠e'/\e∉A:=⟨fun q=>h5 (q▸List.mem_cons_self ..),fun q=>h5 (List.mem_cons_of_mem _ q)⟩
  refine .fr hf hn hh h (fun q =>?_) (ih z.2)
  rcases List.mem_append.mp q with q | q
  ·exact ne q
  ·rw[List.mem_singleton] at q;exact z.1 q.symm
theorem ahz{f:Str}{y:V}:∀{fs:List (Str×V)},fs.lookup f=none->putF f y fs=fs++[(f,y)]
 | [],_=>rfl
 | (g,x)::r,h=>by
  by_cases e:f=g
  ·subst e;rw[List.lookup_cons_self] at h;cases h
  ·have hb:(f==g)=false:=beq_eq_false_iff_ne.mpr e;simp only[List.lookup,hb] at h;show(if g=f then (g,y)::r else (g,x)::putF f y r)=_
   rw[if_neg (Ne.symm e),ahz h];rfl
def Oa(ρ:Ro)(σ:L2.St)(a:Addr)(A:List Addr):Addr->Prop:=fun z=>Own ρ σ z∨z=a∨z∈A
def iniD:List (Str×M Rv)->Ro->Option (List (Str×Rv)×Ro)
 | [],ρ=>some ([],ρ)
 | (f,m)::r,ρ=>match m ρ with
  | some (.ok (.v d),ρ1)=>if (ρ1:List Sl).all ab7=true then (iniD r ρ1).map fun p=>((f,.v d)::p.1,p.2) else none
  | some (.ok (.fr l),ρ1)=>if (ρ1:List Sl).all ab7=true then (iniD r ρ1).map fun p=>((f,.fr l)::p.1,p.2) else none
  | _=>none
def TSi(K:Fg9)(C:Addr)(fms:List (Str×M Rv)):TS:=fun D σ H=>∃tg F ρ a dx rs0 fvs0 A0 rs ρ',Good K tg F H ρ σ/\σ[0]? = some (some (.ref a))/\H a=some (.ins C dx fvs0)/\F a=none/\FdR K F H (Own ρ σ) rs0 fvs0 A0/\fvs0.length+fms.length < 1000 /\
 (∀f∈fms.map (·.1),fvs0.lookup f=none)/\(fms.map (·.1)).Nodup/\iniD fms ρ=some (rs,ρ') /\
 ∀H' F' fvs A,Good K tg F' H' ρ' σ->H' a=some (.ins C dx fvs)->F' a=none->FdR K F' H' (Own ρ' σ) (rs0++rs) fvs A->Ext (Oa ρ σ a A0) (Oa ρ' σ a A) F H F' H'->D.nx σ H'
structure SI (K:Fg9) (X:Cx) (C:Addr) (ss:List Stmt) (fms:List (Str×M Rv)):Prop where
 go:X.K=K->PSs X ss (TSi K C fms)
theorem a0x{C:Addr}:SI K X C [] []:=SI.mk fun _=>PSs.imp aql fun D σ H z9=>by
 obtain⟨tg,F,ρ,a,dx,rs0,fvs0,A0,rs,ρ',G,h0,h1,h2,h3,h4,h5,h6,em,q⟩:=z9;cases em;exact q H F fvs0 A0 G h1 h2 (by rw[List.append_nil];exact h3) (Ext.refl _ _ _)
theorem Ext.oa{ρ1:Ro}{a:Addr}{A A1:List Addr}{o:HO}(x:Ext (Own ρ σ) (Own ρ1 σ) F H F1 H1)(hA:∀z∈A1,z∈A∨Own ρ σ z∨H z=none):Ext (Oa ρ σ a A) (Oa ρ1 σ a A1) F H F1 (L2.upd H1 a o) where
 sub:=x.sub
 new:=fun z u e=>(x.new z u e).imp id fun h=>h.imp id .inl
 keep:=fun z u e n=>by
  have hz:z≠a:=fun q=>n (.inr (.inl q))
  rw[bc hz];exact x.keep z u e fun q=>n (.inl q)
 own:=fun z h=>by
  rcases h with h | h | h
  ·exact(x.own z h).imp .inl id
  ·exact .inl (.inr (.inl h))
  ·rcases hA z h with q | q | q
   ·exact .inl (.inr (.inr q))
   ·exact .inl (.inl q)
   ·exact .inr q
 there:=fun z h=>by
  by_cases hz:z=a
  ·subst hz;rw[dh] at h;cases h
  ·rw[bc hz] at h;exact x.there z h
theorem ahs{C:Addr}{o e:Expr}{f:Str}{p2 pos:Pos}{m:M Rv}{ss:List Stmt}{fms:List (Str×M Rv)}(hcl:Cls K C)(hna:aa8 K C f)(hv:ER K X e m)(ho:PE X o (tVar 0))(t:SI K X C ss fms)(hs:swapsWith e (some (.Attribute o f p2)) pos.line X.env=pure false:=by rfl) :
  SI K X C (.Assign [.Attribute o f p2] e pos::ss) ((f,m)::fms):=SI.mk fun hk=>by
 subst hk;refine PSs.imp (lr (awu ho (hv.go rfl) hs) (t.go rfl)) fun D σ H z9 =>?_
 obtain⟨tg,F,ρ,a,dx,rs0,fvs0,A0,rs,ρ',G,h0,h1,h2,h3,h4,h5,h6,em,q⟩:=z9;have hlk:fvs0.lookup f=none:=h5 f (List.mem_cons_self ..);rw[List.map_cons,List.nodup_cons] at h6;have h5':∀(y:V),∀g∈fms.map (·.1),(fvs0++[(f,y)]).lookup g=none:=fun y g hg=>by
  rw[ag3,h5 g (List.mem_cons_of_mem _ hg)];have e:g≠f:=fun z=>h6.1 (z▸hg)
  have hb:(g==f)=false:=beq_eq_false_iff_ne.mpr e;simp[List.lookup,hb]
 have h4':∀y:V,(fvs0++[(f,y)]).length+fms.length < 1000:=fun y=>by
  rw[List.length_append];rw[List.length_cons] at h4;simp;omega
 have stay:∀{ρ1:Ro} {F1 H1:Hp},Ext (Own ρ σ) (Own ρ1 σ) F H F1 H1->H1 a=some (.ins C dx fvs0)/\F1 a=none/\¬Own ρ1 σ a:=fun{ρ1 F1 H1} x=>by
  have no:¬Own ρ σ a:=fun z=>by
   obtain⟨_,vs,hv⟩:=G.ownAt z;rw[h1] at hv;cases hv
  refine⟨x.keep a _ h1 no,?_,fun z =>?_⟩
  ·cases z:F1 a with
   | none=>rfl
   | some u =>
    rcases x.new a u z with z | z | z
    ·rw[h2] at z;cases z
    ·rw[h1] at z;cases z
    ·exact absurd z no
  ·rcases x.own a z with z | z
   ·exact no z
   ·rw[h1] at z;cases z
 have hA0:a∉A0:=fun z=>by
  obtain⟨_,_,ws,hw,_⟩:=h3.out a z;rw[h1] at hw;cases hw
 unfold iniD at em;split at em
 ·rename_i d ρ1 e1;split at em
  ·rename_i hb;obtain⟨⟨rs1,ρ2⟩,e2,e3⟩:=Option.map_eq_some_iff.mp em;cases e3;refine⟨tg,F,ρ,.v d,ρ1,G,e1,fun y H1 F1 G1 x1 rr=>⟨_,h0,a,C,dx,fvs0,rfl,(stay x1).1,hcl,hna,by omega,?_⟩⟩
   obtain⟨s1,s2,s3⟩:=stay x1;have rr:Is X.K F1 d y:=rr;rw[ahz hlk];refine⟨tg,F1,ρ1,a,dx,rs0++[(f,.v d)],fvs0++[(f,y)],A0,rs1,ρ2,G1.updN hb s2 s3 _,h0,dh,s2,((h3.step x1).snocV rr).upd hA0,h4' y,h5' y,h6.2,e2,fun H' F' fvs A G' g1 g2 g3 g4=>q H' F' fvs A G' g1 g2 (by rw[List.append_assoc] at g3;exact g3) ((Ext.oa (o:=.ins C dx (fvs0++[(f,y)])) x1 fun z hz=>.inl hz).trans g4)⟩
  ·cases em
 ·rename_i l ρ1 e1;split at em
  ·rename_i hb;obtain⟨⟨rs1,ρ2⟩,e2,e3⟩:=Option.map_eq_some_iff.mp em;cases e3;refine⟨tg,F,ρ,.fr l,ρ1,G,e1,fun y H1 F1 G1 x1 rr=>⟨_,h0,a,C,dx,fvs0,rfl,(stay x1).1,hcl,hna,by omega,?_⟩⟩
   obtain⟨s1,s2,s3⟩:=stay x1;obtain⟨b,ws,rfl,hb1,hb2,hb3,hb4,hb5⟩:=rr;have hbA:b∉A0:=fun z=>by
    obtain⟨o1,_,ws',hw,_⟩:=h3.out b z;rcases hb1 with q | q
    ·rw[hw] at q;cases q
    ·exact o1 q
   have hba:a≠b:=fun z=>by
    subst z;rw[s1] at hb3;cases hb3
   rw[ahz hlk];refine⟨tg,F1,ρ1,a,dx,rs0++[(f,.fr l)],fvs0++[(f,.ref b)],A0++[b],rs1,ρ2,G1.updN hb s2 s3 _,h0,dh,s2,((h3.step x1).snocF hb2 hb5 hb3 hb4 hbA).upd (fun z=>by
    rcases List.mem_append.mp z with z | z
    ·exact hA0 z
    ·rw[List.mem_singleton] at z;exact hba z),h4' _,h5' _,h6.2,e2,fun H' F' fvs A G' g1 g2 g3 g4=>q H' F' fvs A G' g1 g2 (by rw[List.append_assoc] at g3;exact g3) ((Ext.oa (o:=.ins C dx (fvs0++[(f,.ref b)])) x1 fun z hz =>?_).trans g4)⟩
   rcases List.mem_append.mp hz with q | q
   ·exact .inl q
   ·rw[List.mem_singleton] at q;subst q;exact .inr hb1.symm
  ·cases em
 ·cases em
end
def aou(K:Fg9)(n nl:Nat)(fms:List (Str×M Rv))(C:Addr):Sp:=fun vs H Q _=>vs.length=n/\∃a dx F as rs ρ',vs[0]? = some (.ref a)/\H a=some (.ins C dx [])/\F a=none/\Good K (tgOf (vs.map some)) F H as (vs.map some)/\iniD fms (as++List.replicate (nl - n) .emp)=some (rs,ρ') /\
 ∀H' F' fvs A O',Same F' H'->H' a=some (.ins C dx fvs)->F' a=none->FdR K F' H' O' rs fvs A->Ext (fun z=>Own as (vs.map some) z∨z=a) (fun z=>O' z∨z=a∨z∈A) F H F' H'->Fin K F' H' (vs.map some) (ρ'.take n) O'->Q .non H'
theorem a3p{K:Fg9}{P:Program}{w:World}{mg:Str->Option Value}{base:Heap}{x qual:Str}{st:Stmt}{f:Addr}{fd:FuncData}{N ps:List Str}{k nl np:Nat}{fms:List (Str×M Rv)}{C:Addr}(F:Fun K x qual st f fd)(S:FnScope N ps (aa st))(h1:N.length=nl)(h2:ps.length=np)
  (hnd:(fms.map (·.1)).Nodup) (hsz:fms.length < 1000)
  (body:∀(cdv:Value) (A:Around) (outer:List Env) (s:Shared) (H:Hp) (E:XK),Room k (A.deeper (envOfC qual (aa st) s.heap.objs.size f cdv))->SI K (cxOf CX0 P w K mg base N qual (aa st) f cdv A outer s H E).nox C (ig st) fms) :
  FnOk P w K mg base CX0 (k+1) f fd ps (aou K np nl fms C):=by
 subst h1 h2;refine F.ok S (fun vs H Q E h=>h.1) (fun cdv A outer s H vs Q E hr h=>⟨_,(body cdv A outer s H E hr).go rfl,?_⟩)
 obtain⟨hn,a,dx,F,as,rs,ρ',h0,hH,hF,G,em,q⟩:=h;have hl:as.length=(vs.map some).length:=G.len;have G1:=G.app (N.length - vs.length);rw[<-hn] at em;have hs0:(L2.start N vs)[0]? = some (some (.ref a)):=by
  unfold L2.start;have hlt:0 < vs.length:=(List.getElem?_eq_some_iff.mp h0).1;rw[List.getElem?_append_left (by rw[List.length_map];exact hlt),List.getElem?_map,h0]
  rfl
 refine⟨_,F,_,a,dx,[],[],[],rs,ρ',G1,hs0,hH,hF,.nil,by simpa using hsz,fun _ _=>rfl,hnd,em,fun H' F' fvs A' G' g1 g2 g3 g4 =>?_⟩
 refine q H' F' fvs A' (Own ρ' (L2.start N vs)) G'.sub g1 g2 g3 ?_ ⟨fun i l e =>?_⟩
 ·have e:Oa (as++List.replicate (N.length - vs.length) .emp) (L2.start N vs) a []=fun z=>Own as (vs.map some) z∨z=a:=by
   funext z
   unfold Oa L2.start;rw[yl hl];simp
  rw[e] at g4;exact g4
 ·have hi:=(List.getElem?_eq_some_iff.mp e).1;rw[List.length_take] at hi;rw[List.getElem?_take_of_lt (by omega)] at e
  obtain⟨o,ho,b,ws,rfl,hf,hh,hl,ht⟩:=G'.at e;rw[ht i rfl];exact⟨⟨i,⟨_,_,e⟩,ho⟩,hf,ws,hh,hl⟩
def tagB:Sl->Bool
 | .own (some k) _=>decide (k < 1000)
 | .box _ _=>false
 | .lol _=>false
 | .lnk _=>false
 | _=>true
section
variable{K:Fg9}{X:Cx}{tg tg1:Nat->Addr}{F H F1 H1:Hp}{ρ:Ro}{σ:L2.St}
theorem Good.retag(G:Good K tg F H ρ σ)(hb:(ρ:List Sl).all tagB=true)(h:∀k,k < 1000->tg k=tg1 k):Good K tg1 F H ρ σ where
 sub:=G.sub
 len:=G.len
 inj:=G.inj
 sl:=fun i s o e q=>by
  have z:=G.sl i s o e q;have t:=List.all_eq_true.mp hb _ (List.mem_of_getElem? e);cases s with
  | emp=>trivial
  | val _=>exact z
  | box c fs=>cases t
  | lol _=>cases t
  | lnk _=>cases t
  | own t' l =>
   obtain⟨a,vs,e1,f,e2,h',ht⟩:=z;refine⟨a,vs,e1,f,e2,h',fun k ek =>?_⟩
   subst ek;have t:decide (k < 1000)=true:=t;rw[<-h k (of_decide_eq_true t)];exact ht k rfl
def offs(ρ:Ro):List Nat->Ro
 | []=>ρ
 | j::js=>offs (List.set ρ j .emp) js
theorem Good.offs(G:Good K tg F H ρ σ):∀{js:List Nat},Good K tg F H (Dn.offs ρ js) σ/\∀z,Own (Dn.offs ρ js) σ z->Own ρ σ z:=fun{js}=>by
 induction js generalizing ρ with
 | nil=>exact⟨G,fun _ h=>h⟩
 | cons j js ih =>
  obtain⟨g,h⟩:=ih (G.drop j);exact⟨g,fun z hz=>(acu (h z hz)).1⟩
def mkFs:List (Str×Rv)->Nat->List (Str×(Nat ⊕ D))
 | [],_=>[]
 | (f,.v d)::r,n=>(f,.inr d)::mkFs r n
 | (f,.fr _)::r,n=>(f,.inl (1000+n))::mkFs r (n+1)
 | (f,.tf _ _)::r,n=>(f,.inl 0)::mkFs r n
theorem ay1{O:Addr->Prop}{rs:List (Str×Rv)}{fvs:List (Str×V)}{A:List Addr}(h:FdR K F H O rs fvs A):∀{n:Nat},(∀(m:Nat) (e:Addr),A[m]? = some e->tg1 (1000+(n+m))=e) ->
  (∀f,(mkFs rs n).lookup f=none->fvs.lookup f=none)/\(∀f k,(mkFs rs n).lookup f=some (.inl k)->fvs.lookup f=some (.ref (tg1 k)))/\∀f d,(mkFs rs n).lookup f=some (.inr d)->∃v,fvs.lookup f=some v/\Is K F d v:=by
 induction h with
 | nil =>
  intro n _;refine⟨fun _ _=>rfl,fun _ _ h =>?_,fun _ _ h =>?_⟩
  ·cases h
  ·cases h
 | @v g d v rs fvs A h t ih =>
  intro n ht;obtain⟨i1,i2,i3⟩:=ih (n:=n) ht;refine⟨fun f hf =>?_,fun f k hf =>?_,fun f d' hf =>?_⟩
  all_goals (unfold mkFs at hf;by_cases e:f=g)
  ·subst e;rw[List.lookup_cons_self] at hf;cases hf
  ·have hb:(f==g)=false:=beq_eq_false_iff_ne.mpr e;simp only[List.lookup,hb] at hf ⊢
   exact i1 f hf
  ·subst e;rw[List.lookup_cons_self] at hf;cases hf
  ·have hb:(f==g)=false:=beq_eq_false_iff_ne.mpr e;simp only[List.lookup,hb] at hf ⊢
   exact i2 f k hf
  ·subst e;rw[List.lookup_cons_self] at hf ⊢
   cases hf;exact⟨v,rfl,h⟩
  ·have hb:(f==g)=false:=beq_eq_false_iff_ne.mpr e;simp only[List.lookup,hb] at hf ⊢
   exact i3 f d' hf
 | @fr g l e0 ws rs fvs A hf0 hn hh h ne t ih =>
  intro n ht;have hte:tg1 (1000+n)=e0:=ht 0 e0 rfl;obtain⟨i1,i2,i3⟩:=ih (n:=n+1) (fun m e' he'=>by
   have:=ht (m+1) e' (by simpa using he')
   rw[show n+1+m=n+(m+1) by omega]
   exact this)
  refine⟨fun f hf =>?_,fun f k hf =>?_,fun f d' hf =>?_⟩
  all_goals (unfold mkFs at hf;by_cases e:f=g)
  ·subst e;rw[List.lookup_cons_self] at hf;cases hf
  ·have hb:(f==g)=false:=beq_eq_false_iff_ne.mpr e;simp only[List.lookup,hb] at hf ⊢
   exact i1 f hf
  ·subst e;rw[List.lookup_cons_self] at hf ⊢
   cases hf;rw[hte]
  ·have hb:(f==g)=false:=beq_eq_false_iff_ne.mpr e;simp only[List.lookup,hb] at hf ⊢
   exact i2 f k hf
  ·subst e;rw[List.lookup_cons_self] at hf;cases hf
  ·have hb:(f==g)=false:=beq_eq_false_iff_ne.mpr e;simp only[List.lookup,hb] at hf ⊢
   exact i3 f d' hf
end
structure DfnI (P:Program) (w:World) (K:Fg9) (mg:Str->Option Value) (base:Heap) (c:Str) (ps:List Str) (k:Nat) (sp:Addr->Sp):Prop where
 ex:∃C f fd,nsIn K mainGlobals c=some (some (.ref C))/\mg c=some (.ref C)/\Mk K C f/\FnOk P w K mg base CX0 k f fd ps (sp C)/\Binds K fd ps []
theorem Fin.mono{K:Fg9}{F' H':Hp}{τ:L2.St}{ps:Ro}{O O':Addr->Prop}(h:Fin K F' H' τ ps O)(w:∀z,O z->O' z):Fin K F' H' τ ps O':=⟨fun i l e=>let ⟨a,b,c⟩:=h.at' i l e;⟨w _ a,b,c⟩⟩
theorem Ext.imp{O O1 O2:Addr->Prop}{F H F1 H1:Hp}(x:Ext O O1 F H F1 H1)(w:∀z,O2 z->O1 z):Ext O O2 F H F1 H1:=⟨x.sub,x.new,x.keep,fun z h=>x.own z (w z h),x.there⟩
theorem auh{K:Fg9}{r:Rv}{v:V}{H:Hp}{O:Addr->Prop}{F' H':Hp}{O1 O2:Addr->Prop}(w:∀z,O2 z->O1 z)(h:relR K r v H O F' H' O1):relR K r v H O F' H' O2:=by
 cases r with
 | v d=>exact h
 | fr l =>
  obtain⟨a,vs,e,h1,h2,h3,h4,h5⟩:=h;exact⟨a,vs,e,h1,h2,h3,h4,fun z=>h5 (w _ z)⟩
 | tf d l =>
  obtain⟨t,u,a,vs,e,h1,h2,h3,h4,h5,h6,h7⟩:=h;exact⟨t,u,a,vs,e,h1,h2,h3,h4,h5,h6,fun z=>h7 (w _ z)⟩
theorem FlOk.off{K:Fg9}{tg tg1:Nat->Addr}{ρ ρ4:Ro}{σ:L2.St}{F H:Hp}{E:Ends}{fl:Fl}{js:List Nat}(ht:∀k,k < 1000->tg1 k=tg k)(hb:(offs ρ4 js:List Sl).all tagB=true)(q:FlOk K tg ρ σ F H E fl (offs ρ4 js)):FlOk K tg1 ρ σ F H E fl ρ4:=by
 have go:∀{σ':L2.St} {H' F':Hp},Good K tg1 F' H' ρ4 σ'->Good K tg F' H' (offs ρ4 js) σ'/\∀z,Own (offs ρ4 js) σ' z->Own ρ4 σ' z:=fun G=>by
  obtain⟨g,h⟩:=G.offs (js:=js);exact⟨g.retag hb ht,h⟩
 cases fl with
 | nx=>exact fun σ' H' F' G' x'=>let ⟨g,h⟩:=go G';q σ' H' F' g (x'.imp h)
 | brk=>exact fun σ' H' F' G' x'=>let ⟨g,h⟩:=go G';q σ' H' F' g (x'.imp h)
 | cont=>exact fun σ' H' F' G' x'=>let ⟨g,h⟩:=go G';q σ' H' F' g (x'.imp h)
 | ret r=>exact fun v σ' H' F' G' x' rr=>let ⟨g,h⟩:=go G';q v σ' H' F' g (x'.imp h) (auh h rr)
 | exc _=>exact q
def axi(s:Stmt)(n:Nat):Stmt:=match s with
 | .ClassDef _ _ _ b _ _ _ _ _ _ _=>b.getD n s
 | _=>s
def boxB(K:Fg9)(C:Addr)(fs:List Str):Bool:=PySem.W.plainGet K C Str.empty&&PySem.W.hasDictIn K C&&PySem.W.plainOver K C&&(findIn K (.ref C) "__setattr__" == some (some (.builtin "object.__setattr__")))&&PySem.W.makesIn K C&&keepIn K (.ref C)&&fs.all fun f=>findIn K (.ref C) f==some none
section
variable{K:Fg9}{C:Addr}{fs:List Str}{c f m:Str}
theorem aiz(e:boxB K C fs=true):Cls K C/\PySem.W.makesIn K C=true/\keepIn K (.ref C)=true/\∀f∈fs,aa8 K C f:=by
 unfold boxB at e;simp only[Bool.and_eq_true,beq_iff_eq,List.all_eq_true] at e;obtain⟨⟨⟨⟨⟨⟨a,b⟩,c⟩,d⟩,g⟩,h⟩,i⟩:=e;exact⟨⟨a,b,c,d⟩,g,h,fun f hf=>i f hf⟩
theorem air(a:nsIn K mainGlobals c=some (some (.ref C)))(e:boxB K C fs=true)(h:fs.contains f=true):FldT K c f:=fun C' h'=>by
 rw[a] at h';cases h';obtain⟨x,_,_,y⟩:=aiz e;exact⟨x,y f (List.contains_iff_mem.mp h)⟩
theorem azs{P:Program}{w:World}{mg:Str->Option Value}{base:Heap}{fa:Addr}{fd:FuncData}{ps:List Str}{k:Nat}{sp:Sp}(a:nsIn K mainGlobals c=some (some (.ref C)))(e:boxB K C fs=true)(b:findIn K (.ref C) m=some (some (.ref fa)))(h1:PySem.W.isFn K (.ref fa)=true)(h2:keepIn K (.ref fa)=true)
  (F:FnOk P w K mg base CX0 k fa fd ps sp) (B:Binds K fd ps []):DfnM P w K mg base c m ps k sp:=⟨C,fa,fd,a,(aiz e).1,⟨b,h1,h2⟩,F,B⟩
theorem azt{P:Program}{w:World}{mg:Str->Option Value}{base:Heap}{fa:Addr}{fd:FuncData}{ps:List Str}{k:Nat}{sp:Addr->Sp}(a:nsIn K mainGlobals c=some (some (.ref C)))(g:mg c=some (.ref C))(e:boxB K C fs=true)(b:findIn K (.ref C) "__init__" = some (some (.ref fa)))(h1:PySem.W.isFn K (.ref fa)=true)
  (F:FnOk P w K mg base CX0 k fa fd ps (sp C)) (B:Binds K fd ps []):DfnI P w K mg base c ps k sp:=⟨C,fa,fd,a,g,⟨(aiz e).2.1,b,h1,(aiz e).2.2.1⟩,F,B⟩
end
def ghB(N:List Str)(gs:List Nat)(sc:Scope):Bool:=gs.all fun j=>match N[j]? with
 | some y=>(sc.names.lookup y).isNone
 | none=>true
theorem a7q{N:List Str}{gs:List Nat}{sc:Scope}(h:ghB N gs sc=true):∀j∈gs,∀y,N[j]? = some y->¬Vis sc y:=fun j hj y hy v=>by
 have z:=List.all_eq_true.mp h j hj;rw[hy] at z;have z:sc.names.lookup y=none:=Option.isNone_iff_eq_none.mp z;rcases v with v | v | v <;> (rw[z] at v;cases v)
section
variable{K:Fg9}{X:Cx}
def gAbs:D->Option Rv
 | .int i=>some (.v (.int (if i < 0 then -i else i)))
 | _=>none
@[simp] theorem a5o(i:Int):gAbs (.int i)=some (.v (.int (if i < 0 then -i else i))):=rfl
theorem a4b:CallD K X (.builtin "abs") (g1 gAbs):=cd_one fun hk qv s σ0 H x u Q tg F ρ σ d r I ru G bd eg q=>by
 subst hk;cases d with
 | int i =>
  cases eg;obtain rfl:=bd.int;exact awc qv s σ0 H [_] [u] Q I (.cons ru .nil) ⟨i,rfl,Res.same G q (.int _)⟩
 | _=>cases eg
end
end Dn
namespace PySem
abbrev StK:=List Int×Int
section
variable{prog:Program}{w:World}
def IsSt(prog:Program)(w:World)(h:Heap)(k:StK)(a:Addr):Prop:=∃o b t n,h.get? a=some o/\o.cls=.type "tuple" /\ o.data=.seq #[.ref b,.int k.2 t] n/\IsTupleKey (intKind prog w) h k.1 b
theorem IsSt.typeIs{s:Shared}{k:StK}{a:Addr}(x:IsSt prog w s.heap k a):s.TypeIs (.ref a) "tuple" := by
 obtain⟨o,b,t,n,ho,hc,_⟩:=x;exact⟨o,ho,hc⟩
theorem IsSt.inj{h:Heap}{a:Addr}{x y:StK}(hx:IsSt prog w h x a)(hy:IsSt prog w h y a):x=y:=by
 obtain⟨o,b,t,n,ho,hc,hd,hi⟩:=hx;obtain⟨o',b',t',n',ho',hc',hd',hi'⟩:=hy;rw[ho] at ho';cases ho';rw[hd] at hd'
 injection hd' with h1 _
 have h1:=congrArg Array.toList h1;simp only[List.cons.injEq,Value.ref.injEq,Value.int.injEq,and_true] at h1;obtain⟨rfl,h2,_⟩:=h1;exact Prod.ext (hi.inj hi') h2
theorem IsSt.keeps{h h':Heap}{k:StK}{a d:Addr}{o:Obj}{es ep}(x:IsSt prog w h k a)(ho:h.get? d=some o)(hd:o.data=.dict es ep)(hs:Heap.SameBut d h h'):IsSt prog w h' k a:=by
 obtain⟨o',b,t,n,ho',hc,hd',hi⟩:=x;have hne:a≠d:=by
  intro z;subst z;rw[ho] at ho';cases ho';rw[hd] at hd';cases hd'
 exact⟨o',b,t,n,(hs.2 a hne).trans ho',hc,hd',hi.keeps ho hd hs⟩
def arw(prog:Program)(w:World)(k:StK):Int:=reduceHash (Builtin.Tuple.tupleHashOf [tupleKeyHash (intKind prog w) k.1,hashInt k.2])
variable{A:Around}{E:Value->Shared->Prop}{s:Shared}
theorem aev{k:StK}{a:Addr}{Q:Int->Shared->Prop}(hu:A.units+8 < cLine)(hk:IsSt prog w s.heap k a)(h:Q (arw prog w k) { s with toks:=s.toks+(k.1.length+3) }) :
  wpAny (model prog w) A (pyHash (.ref a)) Q E s:=by
 have hT:=hk.typeIs;obtain⟨o,b,t,n,ho,_,hd,hi⟩:=hk;unfold pyHash
 first | unfold pyHashByItsType | skip
 first | refine wpAny_bind (wpAny_cRoomFor_or (.inr (by omega)) ?_) | skip
 refine wpAny_bind (wpAny_specialOf hT F.slot_tuple_hash.lookup ?_);show wpAny _ _ (if (some (Value.builtin "tuple.__hash__")==some Value.none)=true then _ else _) Q E s
 rw[if_neg (by rw[beq_builtin_none];exact Bool.false_ne_true)]
 refine wpAny_bind (wpAny_specialOf hT F.slot_tuple_hash.lookup ?_);show wpAny _ _ (callSpecialIfBoundUnlessNone? (.ref a) "__hash__" _ >>= _) Q E s;refine wpAny_bind (wpAny_callSpecialIfBoundUnlessNone?_slot hT F.slot_tuple_hash (wpAny_call_entry F.slot_tuple_hash hT F.entry_tuple_hash ?_ (F.args_tuple_hash_1 _)));show wpAny _ _ (Builtin.Tuple.tupleItemsOf (.ref a) >>= _) _ _ s;refine wpAny_bind (wpAny_tupleItemsOf ho hd ?_);refine wpAny_bind ?_;rw[<-Array.forIn_toList];refine wpAny_forIn_list _
  (fun rest (c:Array Int) s'=>(rest=[.ref b,.int k.2 t]/\c.toList=[]/\s'=s)∨(rest=[.int k.2 t]/\c.toList=[tupleKeyHash (intKind prog w) k.1]/\s'={ s with toks:=s.toks+(k.1.length+1) })
   ∨ (rest=[]/\c.toList=[tupleKeyHash (intKind prog w) k.1,hashInt k.2]/\s'={ s with toks:=s.toks+(k.1.length+1)+1 }))
  _ ?_ ?_ _ _ (.inl ⟨rfl,rfl,rfl⟩)
 ·rintro x rest c s' (⟨e,hc,rfl⟩ | ⟨e,hc,rfl⟩ | ⟨e,_⟩)
  ·injection e with e1 e2
   subst e1;subst e2;have z:wpAny (model prog w) A.in1 (pyHash (.ref b)) (fun v s''=>v=tupleKeyHash (intKind prog w) k.1/\s''={ s' with toks:=s'.toks+(k.1.length+1) }) (fun _ _=>False) s' :=
    wpAny_pyHash_tuple (by show A.units+1 < _;omega) hi ⟨rfl,rfl⟩
   refine wpAny_bind (wpAny_mono z (fun v s'' hv =>?_) fun _ _ q=>q.elim)
   obtain⟨rfl,rfl⟩:=hv
   first
    | exact wpAny_pure (.inr (.inl ⟨rfl,by simp[hc],rfl⟩))
    | exact wpAny_bind (wpAny_pure (wpAny_pure (.inr (.inl ⟨rfl,by simp[hc],rfl⟩))))
  ·injection e with e1 e2
   subst e1;subst e2;refine wpAny_bind (wpAny_pyHash_int ?_)
   first
    | exact wpAny_pure (.inr (.inr ⟨rfl,by simp[hc],rfl⟩))
    | exact wpAny_bind (wpAny_pure (wpAny_pure (.inr (.inr ⟨rfl,by simp[hc],rfl⟩))))
  ·cases e
 ·rintro c s' (⟨e,_⟩ | ⟨e,_⟩ | ⟨_,hc,rfl⟩)
  ·cases e
  ·cases e
  ·show wpAny _ _ (retInt (Builtin.Tuple.tupleHashOf c.toList)) _ _ _;rw[hc];refine wpAny_ret_mkInt ?_;show wpAny _ _ (if (decide (-(2:Int) ^ 63<=Builtin.Tuple.tupleHashOf [tupleKeyHash (intKind prog w) k.1,hashInt k.2])&&decide (Builtin.Tuple.tupleHashOf [tupleKeyHash (intKind prog w) k.1,hashInt k.2] < 2 ^ 63))=true then _ else _) Q E _
   unfold arw reduceHash at h
   by_cases hr:(decide (-(2:Int) ^ 63<=Builtin.Tuple.tupleHashOf [tupleKeyHash (intKind prog w) k.1,hashInt k.2])&&decide (Builtin.Tuple.tupleHashOf [tupleKeyHash (intKind prog w) k.1,hashInt k.2] < 2 ^ 63))=true
   ·rw[if_pos hr];rw[if_pos hr] at h;exact wpAny_pure (by simpa[Nat.add_assoc] using h)
   ·rw[if_neg hr];rw[if_neg hr] at h;exact wpAny_bind (wpAny_rule (wpAny_pure (by simpa[Nat.add_assoc] using h)))
theorem ae7{h:Heap}:∀{ks:List Int} {vs:List Value},ItemsAre (intKind prog w) ks vs->ReadsAll h vs (ks.map PyData.int) []
 | _,_,.nil=>.nil
 | _,_,.cons e r=>by
  obtain⟨t,rfl⟩:=Value.isInt_shape e;exact .cons (as:=[]) (bs:=[]) (.int _ _) (ae7 r)
theorem IsSt.reads{h:Heap}{k:StK}{a:Addr}(x:IsSt prog w h k a):Reads h (.ref a) (.tuple [.tuple (k.1.map PyData.int),.int k.2]) []:=by
 obtain⟨o,b,t,n,ho,hc,hd,ob,its,m,ho2,hc2,hd2,hi⟩:=x;exact .tuple ho hc hd (.cons (as:=[]) (bs:=[]) (.tuple ho2 hc2 hd2 (ae7 hi)) (.cons (as:=[]) (bs:=[]) (.int _ _) .nil))
theorem alc{k:StK}{a:Addr}{Q:Bool->Shared->Prop}(hk:IsSt prog w s.heap k a)(h:Q true s):wpAny (model prog w) A (eqIsQuiet 8 (.ref a)) Q E s:=by
 have hT:=hk.typeIs;obtain⟨o,b,t,n,ho,_,hd,hb⟩:=hk;have hT2:=hb.typeIs (s:=s);obtain⟨ob,its,m,ho2,hc2,hd2,hi⟩:=hb;unfold eqIsQuiet;refine wpAny_bind (wpAny_specialOf hT F.slot_tuple_eq.lookup ?_);show wpAny _ _ (isInstance (.ref a) (.type "tuple") >>= _) _ _ s;refine wpAny_bind (wpAny_isInstance hT isSubtype_tuple_tuple ?_);simp only[Bool.not_true,Bool.false_eq_true,if_false];refine wpAny_bind (wpAny_seqItems ho hd ?_);refine wpAny_bind ?_;show wpAny _ _ (forIn _ _ _) _ _ s;rw[<-Array.forIn_toList];refine wpAny_forIn_list _ (fun rest r s'=>r.1=none/\s'=s/\∀v∈rest,v=.ref b∨carriedByValue v=true) _ ?_ ?_ _ _ ⟨rfl,rfl,fun v hv=>by
  rcases List.mem_cons.mp hv with rfl | hv
  ·exact .inl rfl
  ·rcases List.mem_cons.mp hv with rfl | hv
   ·exact .inr rfl
   ·cases hv⟩
 ·rintro v rest r s' ⟨hr,rfl,hall⟩
  rcases hall v List.mem_cons_self with rfl | hv
  ·refine wpAny_bind ?_;unfold eqIsQuiet;refine wpAny_bind (wpAny_specialOf hT2 F.slot_tuple_eq.lookup ?_);show wpAny _ _ (isInstance (.ref b) (.type "tuple") >>= _) _ _ s';refine wpAny_bind (wpAny_isInstance hT2 isSubtype_tuple_tuple ?_);simp only[Bool.not_true,Bool.false_eq_true,if_false];refine wpAny_bind (wpAny_seqItems ho2 hd2 ?_);refine wpAny_bind ?_;show wpAny _ _ (forIn its _ _) _ _ s';rw[<-Array.forIn_toList];refine wpAny_forIn_list _ (fun rest r s2=>r.1=none/\s2=s'/\∀v∈rest,carriedByValue v=true) _ ?_ ?_ _ _ ⟨rfl,rfl,hi.byValue⟩
   ·rintro v rest r s2 ⟨hr,rfl,hall⟩
    rw[eqIsQuiet_byValue _ (hall v List.mem_cons_self)];refine wpAny_bind (wpAny_pure ?_);simp only[Bool.not_true,Bool.false_eq_true,if_false];exact wpAny_pure ⟨rfl,rfl,fun u hu'=>hall u (List.mem_cons_of_mem _ hu')⟩
   ·rintro⟨r1,r2⟩ s2 ⟨hr,rfl,_⟩
    simp only at hr;subst hr;refine wpAny_pure ?_;simp only[Bool.not_true,Bool.false_eq_true,if_false];exact wpAny_pure ⟨rfl,rfl,fun u hu'=>hall u (List.mem_cons_of_mem _ hu')⟩
  ·rw[eqIsQuiet_byValue _ hv];refine wpAny_bind (wpAny_pure ?_);simp only[Bool.not_true,Bool.false_eq_true,if_false];exact wpAny_pure ⟨rfl,rfl,fun u hu'=>hall u (List.mem_cons_of_mem _ hu')⟩
 ·rintro⟨r1,r2⟩ s' ⟨hr,rfl,_⟩
  simp only at hr;subst hr;exact wpAny_pure h
end
end PySem
namespace Dn
open L2 Mn
theorem abb:∀l:List Int,abo (l.map D.int)=l.map PyData.int
 | []=>rfl
 | i::l=>by show PyData.int i::abo (l.map D.int)=_;rw[abb l];rfl
theorem a3t(x y:StK):PyData.eqv (.tuple [.tuple (x.1.map PyData.int),.int x.2]) (.tuple [.tuple (y.1.map PyData.int),.int y.2])=decide (x=y):=by
 have h1:PyData.eqv (.tuple (x.1.map PyData.int)) (.tuple (y.1.map PyData.int))=decide (x.1=y.1):=by
  rw[<-abb,<-abb];exact akd x.1 y.1
 have h2:PyData.eqv (.int x.2) (.int y.2)=decide (x.2=y.2):=ais x.2 y.2;show(PyData.eqv (.tuple (x.1.map PyData.int)) (.tuple (y.1.map PyData.int))&&(PyData.eqv (.int x.2) (.int y.2)&&true))=_;rw[h1,h2,Bool.and_true];obtain⟨a,b⟩:=x;obtain⟨c,d⟩:=y
 by_cases e1:a=c
 ·by_cases e2:b=d
  ·simp[e1,e2]
  ·simp[e2]
 ·simp[e1]
theorem aw2(x:StK):(PyData.tuple [.tuple (x.1.map PyData.int),.int x.2]).canLay0=true/\(PyData.tuple [.tuple (x.1.map PyData.int),.int x.2]).depth<=30:=by
 have h:=aav 30 (.tup [.tup (x.1.map D.int),.int x.2]) (by
  show(okD 29 (.tup (x.1.map D.int))&&(okD 29 (.int x.2)&&true))=true;rw[Bool.and_true,Bool.and_eq_true];refine⟨?_,rfl⟩;show(x.1.map D.int).all (okD 28)=true;rw[List.all_map,List.all_eq_true];exact fun i _=>rfl)
 have e:toPy (.tup [.tup (x.1.map D.int),.int x.2])=.tuple [.tuple (x.1.map PyData.int),.int x.2]:=by
  show PyData.tuple [.tuple (abo (x.1.map D.int)),.int x.2]=_;rw[abb]
 rwa[e] at h
def ai6(prog:Program)(w:World):HeapKind prog w StK where
 is:=IsSt prog w
 hash:=arw prog w
 draws:=fun k=>k.1.length+3
 room:=fun A=>A.units+40 < cLine
 inj:=fun hx hy=>hx.inj hy
 keeps:=fun x ho hd hs=>x.keeps ho hd hs
 pyHash:=fun hu hk h=>aev (by omega) hk h
 eqBool:=fun{A E s x y a b Q} hu hx hy h=>by
  have l1:=aw2 x;have l2:=aw2 y;have e:=PySem.SeqAt.eqAt_reads _ _ A s (.ref a) (.ref b) [] [] hx.reads hy.reads l1.1 l2.1 (by omega)
  rw[a3t] at e;exact e _ _ E Q h
 quiet:=fun hk h=>alc hk h
end Dn
namespace PySem
section
variable{prog:Program}{w:World}{K:Type}[DecidableEq K]{knd:HeapKind prog w K}{A:Around}{E:Value->Shared->Prop}{s:Shared}{d a:Addr}{k:K}{xs:List (K×Addr×Value)}
theorem ao6{Q:Value->Shared->Prop}(hu:knd.room A.in1)(hkey:knd.is s.heap k a)(hd:(d==sysModules)=false)(hm:s.heap.DictOfH knd d xs)
  (h:Q (.bool (!(atKey xs k).isSome)) { s with toks:=s.toks+knd.draws k }):wpAny (model prog w) A (compareOp .NotIn (.ref a) (.ref d)) Q E s:=by
 show wpAny _ _ (do return .bool (!(<-contains (.ref d) (.ref a)))) Q E s
 refine wpAny_bind ?_;unfold contains
 try with_reducible refine wpAny_holding ?_
 refine wpAny_bind (wpAny_specialOf hm.typeIs slot_dict_contains.lookup ?_);show wpAny _ _ (if (some (Value.builtin "dict.__contains__")==some Value.none)=true then _ else _) _ E s
 rw[if_neg (by rw[beq_builtin_none];exact Bool.false_ne_true)]
 refine wpAny_bind (wpAny_callSpecialUnlessNone?_slot (name:=Str.ofString "__contains__") hm.typeIs slot_dict_contains
  (wpAny_call_entry slot_dict_contains hm.typeIs entry_dict_contains ?_ (args_dict_contains _ _)))
 show wpAny _ _ (dictGet d (.ref a) >>= _) _ _ s;refine wpAny_bind (wpAny_dictGet_heap hu hkey hm ?_);cases hf:atKey xs k with
 | some v =>
  rw[hf] at h;show wpAny _ _ (ret (.bool true)) _ _ _;exact wpAny_pure ⟨_,rfl,wpAny_truthy_bool (wpAny_pure h)⟩
 | none =>
  rw[hf] at h;show wpAny _ _ (Builtin.Dict.pendingKey? d (.ref a) >>= _) _ _ _;exact wpAny_bind (wpAny_pendingKey_other hd (wpAny_pure ⟨_,rfl,wpAny_truthy_bool (wpAny_pure h)⟩))
end
end PySem
namespace Dn
open L2 Mn
abbrev StX:=List (StK×Addr×Value)
def axs(P:Program)(w:World)(d:Addr)(xs:StX):Heap->Prop:=fun h=>∃o es ep,h.get? d=some o/\o.ExactDict/\o.data=.dict es ep/\es.toList=xs.map (entryOfKey (ai6 P w))/\(xs.map (·.1)).Nodup/\(d==sysModules)=false
abbrev StO(X:Cx)(d:Addr)(xs:StX):HO:=.ext (axs X.prog X.w d xs)
def ac3(H:Hp)(xs:StX):Prop:=∀x∈xs,∃b,H x.2.1=some (.tup [.ref b,.int x.1.2])/\H b=some (.tup (x.1.1.map V.int))
section
variable{K:Fg9}{X:Cx}
theorem ani{P:Program}{w:World}:∀{ns:List Int} {us:List Value},Vals (ns.map V.int) us->ItemsAre (intKind P w) ns us
 | [],_,h=>by cases h;exact .nil
 | n::ns,_,h=>by
  cases h with
  | cons a b =>
   obtain⟨t,rfl⟩:=a;exact .cons (by simp[intKind,Value.isInt]) (ani b)
theorem aig{qv:List (Addr×Obj)}{σ:L2.St}{H:Hp}{s:Shared}(I:Inv X qv σ H s){a b:Addr}{as:List Int}{r:Int}(e1:H a=some (.tup [.ref b,.int r]))(e2:H b=some (.tup (as.map V.int))):IsSt X.prog X.w s.heap (as,r) a:=by
 obtain⟨its,rv,⟨o,f1,f2,n,f3⟩,_⟩:=I.tuple (SqT.of e1);obtain⟨its2,rv2,⟨o2,g1,g2,n2,g3⟩,_⟩:=I.tuple (SqT.of e2);cases rv with
 | cons h1 t1 =>
  cases t1 with
  | cons h2 t2 =>
   cases t2;cases h1;obtain⟨t,rfl⟩:=h2;exact⟨o,b,t,n,f1,f2,f3,o2,its2.toArray,n2,g1,g2,g3,ani rv2⟩
theorem asj{qv:List (Addr×Obj)}{σ:L2.St}{H:Hp}{s:Shared}(I:Inv X qv σ H s){d:Addr}{xs:StX}(h:H d=some (StO X d xs))(k:ac3 H xs):s.heap.DictOfH (ai6 X.prog X.w) d xs/\(d==sysModules)=false:=by
 obtain⟨⟨o,es,ep,e1,e2,e3,e4,e5,e6⟩,_⟩:=(show wu X.prog X.w H s.heap d (StO X d xs) from I.hok d _ h)
 refine⟨⟨o,es,ep,e1,e2,e3,e4,fun x hx =>?_,e5⟩,e6⟩
 obtain⟨b,b1,b2⟩:=k x hx;exact aig I b1 b2
def a0p(X:Cx):TE:=fun _ H Q=>∀p,H p=none->Q (.ref p) (upd H p (StO X p []))
theorem stable{P:Program}{w:World}{d:Addr}{xs:StX}{h1 h2:Heap}(x:axs P w d xs h1)(k:∀o,h1.get? d=some o->h2.get? d=some o):axs P w d xs h2:=by
 obtain⟨o,es,ep,e1,r⟩:=x;exact⟨o,es,ep,k o e1,r⟩
theorem aup{pos:Pos}:PE X (.Dict [] [] pos) (a0p X):=by
 intro qv s σ H Q I q;have big:sysModules < s.heap.objs.size:=by
  have h:mainGlobals < s.heap.objs.size:=(I.mod.glob.keeps I.bk).lt;exact Nat.lt_trans (by decide) h
 have hn:=I.hok.fresh (Nat.le_refl s.heap.objs.size);refine wpAny_Dict_empty ⟨.ref s.heap.objs.size,upd H s.heap.objs.size (StO X s.heap.objs.size []),?_,rfl,q _ hn⟩;refine I.laid (t':=s.toks) (fun b u e=>Heap.get?_push_of_some _ e) (Nat.le_refl _) ?_
 have e:(s.heap.push { cls:=.type "dict", data:=.dict #[] }).get? s.heap.objs.size=some { cls:=.type "dict", data:=.dict #[] }:=Heap.get?_push_size _ rfl;exact⟨⟨_,#[],0,e,⟨rfl,rfl,rfl⟩,rfl,rfl,List.nodup_nil,beq_eq_false_iff_ne.mpr (Ne.symm (Nat.ne_of_lt big))⟩,⟨_,e⟩,fun h1 h2=>stable⟩
def a01(X:Cx):R2:=fun x y H Q=>∃a b as r d xs,x=.ref a/\y=.ref d/\H a=some (.tup [.ref b,.int r])/\H b=some (.tup (as.map V.int))/\H d=some (StO X d xs)/\ac3 H xs/\Q (.bl (!(atKey xs (as,r)).isSome)) H
theorem auv(hu:X.A.units+64 < cLine):OpR X (compareOp .NotIn) (a01 X):=by
 intro qv s σ H x y v u Q I rx ry h;obtain⟨a,b,as,r,d,xs,rfl,rfl,e1,e2,e3,k,q⟩:=h;cases rx;cases ry;obtain⟨m,md⟩:=asj I e3 k;exact ao6 (knd:=ai6 X.prog X.w) (by show X.A.units+1+40 < _;omega) (aig I e1 e2) md m ⟨.bl _,H,I.tok _,rfl,q⟩
def a6g(X:Cx):R2:=fun x y H Q=>∃a b as r d xs p,x=.ref d/\y=.ref a/\H a=some (.tup [.ref b,.int r])/\H b=some (.tup (as.map V.int))/\H d=some (StO X d xs)/\ac3 H xs/\atKey xs (as,r)=some p/\∃z,RelV z p.2/\Q z H
theorem a7h(hu:X.A.units+64 < cLine):IxR X (a6g X):=by
 intro value slice qv s σ H x y v u Q I rx ry h hs;obtain⟨a,b,as,r,d,xs,p,rfl,rfl,e1,e2,e3,k,ek,z,rz,q⟩:=h;cases rx;cases ry;obtain⟨m,md⟩:=asj I e3 k;exact tail_any m.typeIs slot_dict_getitem.lookup (wpAny_getItem_heap (knd:=ai6 X.prog X.w) (by show X.A.units+1+40 < _;omega) (aig I e1 e2) m ek ⟨z,H,I.tok _,rz,q⟩) hs
def a00(X:Cx):TSet:=fun o i v H Q=>∃a b as r d xs,o=.ref d/\i=.ref a/\H a=some (.tup [.ref b,.int r])/\H b=some (.tup (as.map V.int))/\H d=some (StO X d xs)/\ac3 H xs/\atKey xs (as,r)=none/\xs.length<=100000 /\
 ∀u,RelV v u->Q (upd H d (StO X d (xs++[((as,r),a,u)])))
theorem a0y(hu:X.A.units+64 < cLine):PSet X (a00 X):=by
 intro qv s σ H o i v ov iv u Q I ro ri rv h;obtain⟨a,b,as,r,d,xs,rfl,rfl,e1,e2,e3,k,ek,hz,q⟩:=h;cases ro;cases ri;obtain⟨m,md⟩:=asj I e3 k;refine wpAny_setItem_heap (knd:=ai6 X.prog X.w) (by show X.A.units+1+40 < _;omega) (aig I e1 e2) m (fun h' m' hs =>?_) (by rw[sizeLine_eq];omega)
 rw[storedH_new ek] at m';refine⟨_,?_,q u rv⟩;obtain⟨o,es,ep,f1,f2,f3,f4,_,f5⟩:=m';exact I.write (by rw[e3];trivial) (.inl rfl) (fun b u hb e=>(hs.2 b hb).trans e) ⟨o,f1⟩ ⟨⟨o,es,ep,f1,f2,f3,f4,f5,md⟩,⟨o,f1⟩,fun h1 h2=>stable⟩
end
def okR{α:Type}(m:M α)(ρ:Ro):Option (α×Ro):=match m ρ with
 | some (.ok a,ρ')=>some (a,ρ')
 | _=>none
theorem afg{α:Type}{m:M α}{ρ ρ':Ro}{a:α}(h:okR m ρ=some (a,ρ')):m ρ=some (.ok a,ρ'):=by
 unfold okR at h;split at h
 ·rename_i e;cases h;exact e
 ·cases h
theorem afe{α:Type}{m:M α}{ρ ρ':Ro}{a:α}(h:m ρ=some (.ok a,ρ')):okR m ρ=some (a,ρ'):=by
 unfold okR;rw[h]
theorem km{α β:Type}{o:Option α}{f:α->Option β}{b:β}(h:o.bind f=some b):∃a,o=some a/\f a=some b:=by
 cases o with
 | none=>cases h
 | some a=>exact⟨a,rfl,h⟩
section
variable{K:Fg9}{X:Cx}
theorem Good.empS{tg:Nat->Addr}{F H:Hp}{ρ:Ro}{σ:L2.St}(G:Good K tg F H ρ σ)(i:Nat)(o:Option V):Good K tg F H (List.set ρ i .emp) (List.set σ i o)/\∀a,Own (List.set ρ i .emp) (List.set σ i o) a->Own ρ σ a:=by
 have key:∀j (t:Option Nat) (l:List D),(List.set ρ i Sl.emp)[j]? = some (Sl.own t l)->i≠j/\ρ[j]? = some (Sl.own t l):=fun j t l e=>by
  rw[List.getElem?_set] at e;split at e
  ·split at e <;> cases e
  ·rename_i h;exact⟨h,e⟩
 have ow:∀j a,Owns (List.set ρ i .emp) (List.set σ i o) j a->Owns ρ σ j a:=fun j a z=>by
  obtain⟨⟨t,l,e⟩,q⟩:=z;obtain⟨h,e'⟩:=key j t l e;rw[List.getElem?_set_ne h] at q;exact⟨⟨t,l,e'⟩,q⟩
 refine⟨⟨G.sub,by rw[List.length_set,List.length_set];exact G.len,fun j sl o' e q =>?_,fun j1 j2 a h1 h2=>G.inj j1 j2 a (ow j1 a h1) (ow j2 a h2)⟩,fun a z =>?_⟩
 ·by_cases h:i=j
  ·subst h;rw[List.getElem?_set] at e;simp only[if_true] at e;split at e
   ·cases e;trivial
   ·cases e
  ·rw[List.getElem?_set_ne h] at e q;exact G.sl j sl o' e q
 ·obtain⟨j,z⟩:=z;exact⟨j,ow j a z⟩
end
def keyD:D->Option StK
 | .tup [.tup l,.int r]=>(vp l).map fun as=>(as,r)
 | _=>none
theorem al1{d:D}{k:StK}(h:keyD d=some k):d=.tup [.tup (k.1.map D.int),.int k.2]:=by
 unfold keyD at h;split at h
 ·rename_i l r;cases e:vp l with
  | none=>rw[e] at h;cases h
  | some as =>
   rw[e] at h;cases h;rw[ac5 e]
 ·cases h
@[simp] theorem al0(as:List Int)(r:Int):keyD (.tup [.tup (as.map D.int),.int r])=some (as,r):=by
 show(vp (as.map D.int)).map _=_;rw[afs];rfl
abbrev Kvs:=List (StK×Int)
def pairD:D->Option (D×D)
 | .tup [x,y]=>some (x,y)
 | _=>none
theorem aus{d:D}{p:D×D}(h:pairD d=some p):d=.tup [p.1,p.2]:=by
 unfold pairD at h;split at h
 ·cases h;rfl
 ·cases h
def axy(mk mv:M D)(ma:M Rv)(ml:M D)(iA iR:Nat)(kvs:Kvs)(ρ:Ro):Option (Kvs×Ro) :=
 (okR mv ρ).bind fun p=>(asI p.1).bind fun n=>(okR mk p.2).bind fun q=>(keyD q.1).bind fun k =>
  if (decide (k∈kvs.map (·.1))||decide (100000 < kvs.length))=true then none else (okR ma q.2).bind fun r=>(okR ml r.2).bind fun t=>(pairD t.1).bind fun z =>
   some (kvs++[(k,n)],List.set (List.set t.2 iA (.val z.1)) iR (.val z.2))
def alf(mk mv:M D)(ma:M Rv)(ml:M D)(iA iR:Nat):Nat->Kvs->Ro->Option (Kvs×Ro)
 | 0,_,_=>none
 | n+1,kvs,ρ=>(okR mk ρ).bind fun p=>(keyD p.1).bind fun k=>if decide (k∈kvs.map (·.1))=true then some (kvs,p.2) else (axy mk mv ma ml iA iR kvs p.2).bind fun q=>alf mk mv ma ml iA iR n q.1 q.2
def azv(iS iL iA iR iH:Nat)(m0:M Rv)(mk mv:M D)(ma:M Rv)(ml:M D)(n:Nat)(g:Sd):Sd:=fun ρ=>(ρ[iS]?).bind fun _ =>
 (okR m0 (List.set ρ iS .emp)).bind fun p=>(alf mk mv ma ml iA iR n [] (List.set p.2 iL p.1.sl)).bind fun q=>(okR mk q.2).bind fun r=>(keyD r.1).bind fun k=>(q.1.lookup k).bind fun j=>g (List.set r.2 iH (.val (.int j)))
theorem ahe{xs:StX}{k:StK}:(atKey xs k).isSome=decide (k∈xs.map (·.1)):=by
 induction xs with
 | nil=>rfl
 | cons x xs ih =>
  by_cases e:x.1=k
  ·simp[atKey,List.find?_cons,e]
  ·have e':¬k=x.1:=fun q=>e q.symm
   have:atKey (x::xs) k=atKey xs k:=by simp[atKey,List.find?_cons,e]
   rw[this,ih,List.map_cons];simp[e']
theorem ahf{k:StK}{n:Int}:∀{xs:StX} {kvs:Kvs},xs.map (·.1)=kvs.map (·.1)->IntsAre (xs.map (·.2.2)) (kvs.map (·.2))->kvs.lookup k=some n->∃p:Addr×Value,atKey xs k=some p/\∃t,p.2=.int n t
 | [],[],_,_,h=>by cases h
 | [],_::_,h,_,_=>by cases h
 | _::_,[],h,_,_=>by cases h
 | x::xs,y::kvs,h1,h2,h=>by
  obtain⟨k',a',u'⟩:=x;obtain⟨ky,ny⟩:=y;simp only[List.map_cons,List.cons.injEq] at h1 h2;obtain⟨rfl,h1⟩:=h1
  by_cases e:k=k'
  ·subst e;rw[List.lookup_cons_self] at h;cases h;cases h2 with
   | cons n t r=>exact⟨(a',.int _ t),by simp[atKey],t,rfl⟩
  ·have e':¬k'=k:=fun q=>e q.symm
   rw[List.lookup_cons,show(k==k')=false by simpa using e] at h
   cases h2 with
   | cons n t r =>
    obtain⟨p,hp,t',ht⟩:=ahf h1 r h;refine⟨p,?_,t',ht⟩;rw[<-hp];simp[atKey,List.find?_cons,e']
section
variable{K:Fg9}{X:Cx}
structure SeenI (K:Fg9) (X:Cx) (tg:Nat->Addr) (F0 H0:Hp) (O:Addr->Prop) (iS:Nat) (p:Addr) (kvs:Kvs) (F H:Hp) (ρ:Ro) (σ:L2.St):Prop where
 good:Good K tg F H ρ σ
 ext:Ext O (Own ρ σ) F0 H0 F H
 at':σ[iS]? = some (some (.ref p))
 new:H0 p=none
 free:F p=none
 nown:¬Own ρ σ p
 xs:∃xs:StX,H p=some (StO X p xs)/\ac3 F xs/\xs.map (·.1)=kvs.map (·.1)/\IntsAre (xs.map (·.2.2)) (kvs.map (·.2))
section
variable{tg:Nat->Addr}{F0 H0:Hp}{O:Addr->Prop}{iS:Nat}{p:Addr}{kvs:Kvs}{F H F' H':Hp}{ρ ρ':Ro}{σ σ':L2.St}
theorem ac3.mono{F F':Hp}{xs:StX}(s:Same F F')(h:ac3 F xs):ac3 F' xs:=fun x hx=>by
 obtain⟨b,b1,b2⟩:=h x hx;exact⟨b,s _ _ b1,s _ _ b2⟩
theorem SeenI.step(J:SeenI K X tg F0 H0 O iS p kvs F H ρ σ)(G:Good K tg F' H' ρ' σ')(x:Ext (Own ρ σ) (Own ρ' σ') F H F' H')(hs:σ'[iS]? = σ[iS]?):SeenI K X tg F0 H0 O iS p kvs F' H' ρ' σ':=by
 obtain⟨xs,h1,h2,h3,h4⟩:=J.xs;refine⟨G,J.ext.trans x,hs.trans J.at',J.new,?_,fun z =>?_,xs,x.keep _ _ h1 J.nown,h2.mono x.sub,h3,h4⟩
 ·cases e:F' p with
  | none=>rfl
  | some o =>
   rcases x.new p o e with q | q | q
   ·rw[J.free] at q;cases q
   ·rw[h1] at q;cases q
   ·exact absurd q J.nown
 ·rcases x.own p z with q | q
  ·exact J.nown q
  ·rw[h1] at q;cases q
theorem SeenI.store(J:SeenI K X tg F0 H0 O iS p kvs F H ρ σ){i:Nat}(hi:i≠iS){d:D}{v:V}(h:Is K F d v):SeenI K X tg F0 H0 O iS p kvs F H (List.set ρ i (.val d)) (List.set σ i (some v)):=by
 obtain⟨G,x⟩:=J.good.storeV i h;exact J.step G x (List.getElem?_set_ne hi)
theorem alz{k:StK}{v:V}(h:Is K F (.tup [.tup (k.1.map D.int),.int k.2]) v):∃a b,v=.ref a/\F a=some (.tup [.ref b,.int k.2])/\F b=some (.tup (k.1.map V.int)):=by
 cases h with
 | tup e hl =>
  cases hl with
  | cons h1 t1 =>
   cases t1 with
   | cons h2 t2 =>
    cases t2;cases h2;cases h1 with
    | tup e' hl' =>
     rw[hl'.int_inv] at e';exact⟨_,_,rfl,e,e'⟩
theorem SeenI.write(J:SeenI K X tg F0 H0 O iS p kvs F H ρ σ){xs:StX}(h1:H p=some (StO X p xs))(h2:ac3 F xs)(h3:xs.map (·.1)=kvs.map (·.1))(h4:IntsAre (xs.map (·.2.2)) (kvs.map (·.2))){k:StK}{a b:Addr}{n:Int}{u:Value}(ea:F a=some (.tup [.ref b,.int k.2]))(eb:F b=some (.tup (k.1.map V.int)))(ru:RelV (.int n) u) :
  SeenI K X tg F0 H0 O iS p (kvs++[(k,n)]) F (upd H p (StO X p (xs++[(k,a,u)]))) ρ σ:=by
 have hp:∀b o,F b=some o->b≠p:=fun b o e z=>by rw[z,J.free] at e;cases e
 have ap:∀{ys:List Value} {ns:List Int} {m:Int} {t:Tok},IntsAre ys ns->IntsAre (ys++[.int m t]) (ns++[m]):=by
  intro ys ns m t h
  induction h with
  | nil=>exact .cons m t .nil
  | cons n' t' r ih=>exact .cons n' t' ih
 obtain⟨t,rfl⟩:=ru;refine⟨J.good.grow (Same.refl F) (fun b o e=>by rw[bc (hp b o e)];exact J.good.sub b o e) (fun c w =>?_) (fun c C dx fvs f1 f2=>⟨f1,?_⟩),?_,J.at',J.new,J.free,J.nown,xs++[(k,a,.int n t)],dh,fun x hx =>?_,?_,?_⟩
 ·have:c≠p:=fun z=>J.nown (z▸w)
  rw[bc this];exact⟨(J.good.ownAt w).1,rfl⟩
 ·have:c≠p:=fun z=>by rw[z,h1] at f2;cases f2
  rw[bc this]
 ·refine⟨J.ext.sub,J.ext.new,fun c o e n' =>?_,J.ext.own,fun c e =>?_⟩
  ·have:c≠p:=fun z=>by rw[z,J.new] at e;cases e
   rw[bc this];exact J.ext.keep c o e n'
  ·by_cases hc:c=p
   ·rw[hc];exact J.new
   ·rw[bc hc] at e;exact J.ext.there c e
 ·rcases List.mem_append.mp hx with hx | hx
  ·exact h2 x hx
  ·rcases List.mem_singleton.mp hx with rfl;exact⟨b,ea,eb⟩
 ·rw[List.map_append,List.map_append,h3];rfl
 ·rw[List.map_append,List.map_append];exact ap h4
end
variable{ek1 ek2 ek3 e0 ev ea el eS1 eS2 eS3:Expr}{ss:List Stmt}{p1 p2 p3 p4 p5 p6 p7 p8 p9 p10 p11 p12 p13 p14 p15 p16 p17:Pos}
theorem atv{iS iL iA iR iH kt:Nat}{xS xL xA xR xH:Str}{mk mv ml:M D}{m0 ma:M Rv}{g:Sd}(n:Nat)(hu:X.A.units+64 < cLine)(hp:PassesOwn (model X.prog X.w) X.A X.env X.xe)(hc:X.calm=true)(hN:X.N.Nodup)
  (nS:X.N[iS]? = some xS) (nL:X.N[iL]? = some xL) (nA:X.N[iA]? = some xA) (nR:X.N[iR]? = some xR) (nH:X.N[iH]? = some xH)
  (lS:Loc X.env.scope xS) (lL:Loc X.env.scope xL) (lA:Loc X.env.scope xA) (lR:Loc X.env.scope xR) (lH:Loc X.env.scope xH) (dL:iL≠iS) (dA:iA≠iS) (dR:iR≠iS)
  (s1:PE X eS1 (tVar iS)) (s2:PE X eS2 (tVar iS)) (s3:PE X eS3 (tVar iS)) (h0:ER K X e0 m0) (k1:EV K X ek1 mk) (k2:EV K X ek2 mk) (k3:EV K X ek3 mk) (hv:EV K X ev mv) (ha:ER K X ea ma) (hl:EV K X el ml) (hg:SVs K X ss g) (hix:ami ek3)
  (hm:behindInMarks .NotIn eS1=false:=by with_unfolding_all rfl)
  (w1:swapsWith (.Dict [] [] p2) (some (.Name xS p1)) p3.line X.env=pure false:=by rfl) (f1:X.fn xS=true∨X.env.scope.names.lookup xS=some .local:=by first | exact .inl rfl | exact .inr rfl | assumption)
  (w2:swapsWith e0 (some (.Name xL p4)) p5.line X.env=pure false:=by rfl) (f2:X.fn xL=true∨X.env.scope.names.lookup xL=some .local:=by first | exact .inl rfl | exact .inr rfl | assumption)
  (w3:swapsWithSole [.Subscript eS2 ek2 p7] ev p8.line X.env=pure false:=by rfl) (w4:swappedStores [.Subscript eS2 ek2 p7] ev X.env=pure none:=by rfl)
  (w5:(assignEach [.Subscript eS2 ek2 p7] X.env).map (·.2)=[assign (.Subscript eS2 ek2 p7) X.env]:=by rfl)
  (w6:∀v,assign (.Subscript eS2 ek2 p7) X.env v=(do
   let ov <-holding [v] (eval eS2 X.env)
   let iv <-holding [v,ov] (eval ek2 X.env)
   standAt p7
   holding [v,ov,iv] (setItem ov iv v)
   release [v,ov,iv] []):=by intro _;rfl)
  (w7:swapsWith ea none p9.line X.env=pure false:=by rfl)
  (w8:swapsWithSole [.Tuple [.Name xA p10,.Name xR p11] kt p12] el p13.line X.env=pure false:=by rfl) (w9:swappedStores [.Tuple [.Name xA p10,.Name xR p11] kt p12] el X.env=pure none:=by rfl)
  (w10:(assignEach [.Tuple [.Name xA p10,.Name xR p11] kt p12] X.env).map (·.2)=[assign (.Tuple [.Name xA p10,.Name xR p11] kt p12) X.env]:=by rfl)
  (w11:(assignEach [.Name xA p10,.Name xR p11] X.env).map (·.2)=assign (.Name xA p10) X.env::(assignEach [.Name xR p11] X.env).map (·.2):=by rfl) (w12:(assignEach [.Name xR p11] X.env).map (·.2)=assign (.Name xR p11) X.env::(assignEach [] X.env).map (·.2):=by rfl)
  (w13:(assignEach [.Name xA p10,.Name xR p11] X.env).length=2:=by rfl) (w14:(assignEach [.Name xA p10,.Name xR p11] X.env).findIdx? (·.1)=none:=by rfl)
  (f3:X.fn xA=true∨X.env.scope.names.lookup xA=some .local:=by first | exact .inl rfl | exact .inr rfl | assumption) (f4:X.fn xR=true∨X.env.scope.names.lookup xR=some .local:=by first | exact .inl rfl | exact .inr rfl | assumption)
  (w15:swapsWith (.Subscript eS3 ek3 p16) (some (.Name xH p15)) p17.line X.env=pure false:=by rfl) (f5:X.fn xH=true∨X.env.scope.names.lookup xH=some .local:=by first | exact .inl rfl | exact .inr rfl | assumption) :
  SVs K X (.Assign [.Name xS p1] (.Dict [] [] p2) p3::.Assign [.Name xL p4] e0 p5::.While (.Compare ek1 [.NotIn] [eS1] p6) [.Assign [.Subscript eS2 ek2 p7] ev p8,.Expr ea p9,.Assign [.Tuple [.Name xA p10,.Name xR p11] kt p12] el p13] [] p14::.Assign [.Name xH p15] (.Subscript eS3 ek3 p16) p17::ss)
   (azv iS iL iA iR iH m0 mk mv ma ml n g):=SVs.mk fun hk=>PSs.imp (lr (ag0 hN nS lS aup w1 f1) (lr (ag0 hN nL lL (h0 hk) w2 f2) (lr (ah3 hp (aqk (auv hu) (k1 hk) s1 hm)
    (lr (am0 (hv hk) (awx s2 (k2 hk) (a0y hu) w6) w3 w4 w5) (lr (aln (ha hk) w7) (ah2 (am0 (hl hk) (aww hc (ah5 (alp hN nA lA f3) (ah5 (alp hN nR lR f4) aqu w12) w11) w13 w14) w8 w9 w10)))))
    (lr (ag0 hN nH lH (a1k (a7h hu) s3 (k3 hk) hix) w15 f5) (hg hk))))) fun E σ H z9=>by
 obtain⟨tg,F,ρ,fl,ρ',G,em,q⟩:=z9;subst hk;obtain⟨sl0,esl,em⟩:=km em;obtain⟨⟨r0,ρ0⟩,em0,em⟩:=km em;obtain⟨⟨kvE,ρE⟩,emL,em⟩:=km em;obtain⟨⟨dE,ρK⟩,emK,em⟩:=km em;obtain⟨kE,ekE,em⟩:=km em;obtain⟨jE,ejE,emF⟩:=km em
 clear em
 intro p hpn;have Gf:=G.fresh hpn (StO X p []);have Xf:=G.freshX hpn (StO X p []);obtain⟨Ge,oe⟩:=Gf.empS iS (some (.ref p));have oe':=oe;have hlen:iS < σ.length:=by
  rw[<-G.len];exact(List.getElem?_eq_some_iff.mp esl).1
 have J0:SeenI X.K X tg F H (Own ρ σ) iS p [] F (upd H p (StO X p [])) (List.set ρ iS .emp) (List.set σ iS (some (.ref p))) :=
  ⟨Ge,⟨Xf.sub,Xf.new,Xf.keep,fun a z=>Xf.own a (oe a z),Xf.there⟩,by rw[List.getElem?_set_self hlen],hpn,G.freeF hpn,(fun z=>by
   obtain⟨_,vs,e⟩:=G.ownAt (oe' p z);rw[hpn] at e;cases e),⟨[],dh,(fun x hx=>by cases hx),rfl,.nil⟩⟩
 refine⟨tg,F,List.set ρ iS .emp,r0,ρ0,Ge,afg em0,fun v H1 F1 G1 x1 rr =>?_⟩
 obtain⟨G2,x2⟩:=G1.store x1 iL rr;have J1:=J0.step G2 x2 (List.getElem?_set_ne dL);refine⟨fun m σ' H'=>∃kvs F' ρ',SeenI X.K X tg F H (Own ρ σ) iS p kvs F' H' ρ' σ'/\alf mk mv ma ml iA iR m kvs ρ'=some (kvE,ρE),⟨n,[],F1,_,J1,emL⟩,?_⟩
 rintro m σ2 H2 ⟨kvs,F2,ρ2,J,es⟩
 cases m with
 | zero=>cases es
 | succ m =>
  obtain⟨⟨d1,ρ3⟩,e1,es⟩:=km es;obtain⟨k,ek,es⟩:=km es;refine⟨tg,F2,ρ2,d1,ρ3,J.good,afg e1,fun v H3 F3 G3 x3 r3 =>?_⟩
  have J3:=J.step G3 x3 rfl;have r3:Is X.K F3 d1 v:=r3;have ek:keyD d1=some k:=ek;rw[al1 ek] at r3;obtain⟨a,b,rfl,ea,eb⟩:=alz r3;obtain⟨xs,h1,h2,h3,h4⟩:=J3.xs;refine⟨.ref p,J3.at',a,b,k.1,k.2,p,xs,rfl,rfl,G3.sub _ _ ea,G3.sub _ _ eb,h1,h2.mono G3.sub,!(atKey xs k).isSome,rfl,?_⟩;rw[ahe,h3]
  by_cases hkk:k∈kvs.map (·.1)
  ·rw[if_pos (decide_eq_true hkk)] at es;cases es;rw[decide_eq_true hkk];refine iteF ?_;refine⟨.ref p,J3.at',tg,F3,_,dE,ρK,G3,afg emK,fun v4 H4 F4 G4 x4 r4 =>?_⟩
   have J4:=J3.step G4 x4 rfl;have r4:Is X.K F4 dE v4:=r4;have ekE:keyD dE=some kE:=ekE;rw[al1 ekE] at r4;obtain⟨a4,b4,rfl,ea4,eb4⟩:=alz r4;obtain⟨ys,g1,g2,g3,g4⟩:=J4.xs;obtain⟨pp,gp,t,gt⟩:=ahf g3 g4 ejE;refine⟨a4,b4,kE.1,kE.2,p,ys,pp,rfl,rfl,G4.sub _ _ ea4,G4.sub _ _ eb4,g1,g2.mono G4.sub,gp,.int jE,⟨t,gt⟩,?_⟩;obtain⟨G5,x5⟩:=J4.good.storeV iH (.int jE);exact⟨tg,F4,_,fl,ρ',G5,emF,FlOk.back (J4.ext.trans x5) q⟩
  ·rw[if_neg (by simpa using hkk)] at es
   obtain⟨⟨kv2,ρ9⟩,et,es⟩:=km es;obtain⟨⟨dv,ρ4⟩,ev',et⟩:=km et;obtain⟨nv,en,et⟩:=km et;obtain⟨⟨d2,ρ5⟩,e2,et⟩:=km et;obtain⟨k2',ek2',et⟩:=km et;split at et
   ·cases et
   rename_i hc2;simp only[Bool.or_eq_true,decide_eq_true_eq,not_or] at hc2;obtain⟨⟨ra,ρ6⟩,ea',et⟩:=km et;obtain⟨⟨dt,ρ7⟩,el',et⟩:=km et;obtain⟨z,ez,et⟩:=km et;cases et;rw[decide_eq_false hkk];refine iteT ⟨fun σ' H'=>∃kvs F' ρ',SeenI X.K X tg F H (Own ρ σ) iS p kvs F' H' ρ' σ'/\alf mk mv ma ml iA iR m kvs ρ'=some (kvE,ρE),fun σ' H' h=>⟨m,Nat.lt_succ_self m,h⟩,?_⟩
   refine⟨tg,F3,ρ3,dv,ρ4,G3,afg ev',fun vv H5 F5 G5 x5 r5 =>?_⟩
   have J5:=J3.step G5 x5 rfl;refine⟨.ref p,J5.at',tg,F5,ρ4,d2,ρ5,G5,afg e2,fun v6 H6 F6 G6 x6 r6 =>?_⟩
   have J6:=J5.step G6 x6 rfl;have r6:Is X.K F6 d2 v6:=r6;have ek2':keyD d2=some k2':=ek2';rw[al1 ek2'] at r6;obtain⟨a6,b6,rfl,ea6,eb6⟩:=alz r6;obtain⟨ys,g1,g2,g3,g4⟩:=J6.xs;have r5:Is X.K F5 dv vv:=r5;have en:asI dv=some nv:=en;rw[adq en] at r5;cases r5;have hnone:atKey ys k2'=none:=by
    have:(atKey ys k2').isSome=false:=by rw[ahe,g3];exact decide_eq_false hc2.1
    cases e:atKey ys k2' with
    | none=>rfl
    | some _=>rw[e] at this;cases this
   have hlen2:ys.length=kvs.length:=by
    have:=congrArg List.length g3
    simpa using this
   refine⟨a6,b6,k2'.1,k2'.2,p,ys,rfl,rfl,G6.sub _ _ ea6,G6.sub _ _ eb6,g1,g2.mono G6.sub,hnone,by omega,fun u ru =>?_⟩
   have J7:=J6.write g1 g2 g3 g4 ea6 eb6 ru;refine⟨tg,F6,ρ5,ra,ρ6,J7.good,afg ea',fun v7 H7 F7 G7 x7 r7 =>?_⟩
   have J8:=J7.step G7 x7 rfl;refine⟨tg,F7,ρ6,dt,ρ7,G7,afg el',fun v8 H8 F8 G8 x8 r8 =>?_⟩
   have J9:=J8.step G8 x8 rfl;have r8:Is X.K F8 dt v8:=r8;have ez:pairD dt=some z:=ez;rw[aus ez] at r8;cases r8 with
   | tup e8 hl8 =>
    cases hl8 with
    | cons i1 t1 =>
     cases t1 with
     | cons i2 t2 =>
      cases t2;exact⟨_,_,rfl,SqT.of (G8.sub _ _ e8),rfl,_,_,rfl,_,_,rfl,rfl,_,F8,_,(J9.store dA i1).store dR i2,es⟩
end
def Oi(ρ:Ro)(σ:L2.St)(a:Addr):Addr->Prop:=fun z=>Own ρ σ z∨z=a
def Bnd(H:Hp)(a:Addr):Prop:=∃C dx fvs,H a=some (.ins C dx fvs)/\fvs.length < 1000
def putA(f:Str)(x:D):List (Str×(Nat ⊕ D))->List (Str×(Nat ⊕ D))
 | []=>[]
 | (g,y)::r=>if g=f then (g,.inr x)::r else (g,y)::putA f x r
theorem afj{f g:Str}{x:D}:∀{fs:List (Str×(Nat ⊕ D))},(fs.lookup f).isSome=true->(putA f x fs).lookup g=if g=f then some (.inr x) else fs.lookup g
 | [],h=>by cases h
 | (k,y)::r,h=>by
  unfold putA
  by_cases e:k=f
  ·subst e;rw[if_pos rfl]
   by_cases e2:g=k
   ·subst e2;rw[if_pos rfl,List.lookup_cons_self]
   ·have hb:(g==k)=false:=beq_eq_false_iff_ne.mpr e2;rw[if_neg e2];simp only[List.lookup,hb]
  ·rw[if_neg e];have hb:(f==k)=false:=beq_eq_false_iff_ne.mpr (Ne.symm e);simp only[List.lookup,hb] at h;have ih:=afj (g:=g) (x:=x) h
   by_cases e2:g=k
   ·subst e2;rw[List.lookup_cons_self,List.lookup_cons_self,if_neg e]
   ·have hb2:(g==k)=false:=beq_eq_false_iff_ne.mpr e2;simp only[List.lookup,hb2];exact ih
theorem ah0{f:Str}{y v:V}:∀{fs:List (Str×V)},fs.lookup f=some v->(putF f y fs).length=fs.length
 | [],h=>by cases h
 | (k,x)::r,h=>by
  rw[show putF f y ((k,x)::r)=(if k=f then (k,y)::r else (k,x)::putF f y r) from rfl]
  by_cases e:k=f
  ·rw[if_pos e];rfl
  ·rw[if_neg e];have hb:(f==k)=false:=beq_eq_false_iff_ne.mpr (Ne.symm e);simp only[List.lookup,hb] at h;rw[List.length_cons,List.length_cons,ah0 h]
section
variable{K:Fg9}{X:Cx}{tg:Nat->Addr}{F H F1 H1:Hp}{ρ ρ1:Ro}{σ σ1:L2.St}{a:Addr}
theorem Ext.oi(x:Ext (Own ρ σ) (Own ρ1 σ1) F H F1 H1):Ext (Oi ρ σ a) (Oi ρ1 σ1 a) F H F1 H1 :=
 ⟨x.sub,fun z o e=>(x.new z o e).imp id fun h=>h.imp id .inl,fun z o e n=>x.keep z o e fun w=>n (.inl w),fun z w=>w.elim (fun w=>(x.own z w).imp .inl id) fun w=>.inl (.inr w),x.there⟩
theorem Good.noI(G:Good K tg F H ρ σ)(h:Bnd H a):¬Own ρ σ a:=fun z=>by
 obtain⟨_,vs,hv⟩:=G.ownAt z;obtain⟨C,dx,fvs,e,_⟩:=h;rw[e] at hv;cases hv
theorem Bnd.step(h:Bnd H a)(G:Good K tg F H ρ σ)(x:Ext (Own ρ σ) (Own ρ1 σ1) F H F1 H1):Bnd H1 a:=by
 have n:=G.noI h;obtain⟨C,dx,fvs,e,l⟩:=h;exact⟨C,dx,fvs,x.keep a _ e n,l⟩
theorem Good.setBx(G:Good K tg F H ρ σ){i:Nat}{c f:Str}{fs:List (Str×(Nat ⊕ D))}{C dx:Addr}{fvs:List (Str×V)}{d:D}{v:V}(ei:(ρ:List Sl)[i]? = some (.box c fs))(hb:(List.set ρ i .emp).all ab7=true)(ea:σ[i]? = some (some (.ref a)))(hh:H a=some (.ins C dx fvs))(hf:(fs.lookup f).isSome=true)(hd:Is K F d v) :
  Good K tg F (L2.upd H a (.ins C dx (putF f v fvs))) (List.set ρ i (.box c (putA f d fs))) σ/\∀z,Own (List.set ρ i (.box c (putA f d fs))) σ z->Own ρ σ z:=by
 obtain⟨oi,hoi,a',C',dx',fvs',e',hF,hH,hn,h0,h1,h2⟩:=G.at ei;rw[ea] at hoi;cases hoi;cases e';rw[hh] at hH;cases hH;have hi:i < ρ.length:=(List.getElem?_eq_some_iff.mp ei).1;have ow:∀j z,Owns (List.set ρ i (.box c (putA f d fs))) σ j z->Owns ρ σ j z:=fun j z ⟨⟨t,l,e⟩,q⟩=>by
  rw[List.getElem?_set] at e
  by_cases hj:i=j
  ·subst hj;rw[if_pos rfl,if_pos hi] at e;cases e
  ·rw[if_neg hj] at e;exact⟨⟨t,l,e⟩,q⟩
 refine⟨⟨fun b u e =>?_,by rw[List.length_set];exact G.len,fun j s o e q =>?_,fun j k z w w'=>G.inj j k z (ow j z w) (ow k z w')⟩,fun z ⟨j,w⟩=>⟨j,ow j z w⟩⟩
 ·have hb:b≠a:=fun z=>by subst z;rw[hF] at e;cases e
  rw[bc hb];exact G.sub b u e
 ·rw[List.getElem?_set] at e
  by_cases hj:i=j
  ·subst hj;rw[if_pos rfl,if_pos hi] at e;cases e;rw[ea] at q;cases q;refine⟨a,C,dx,_,rfl,hF,dh,hn,fun g hg =>?_,fun g k hg =>?_,fun g x hg =>?_⟩
   all_goals rw[afj hf] at hg;rw[ab8];by_cases eg:g=f
   ·rw[if_pos eg] at hg;cases hg
   ·rw[if_neg eg] at hg ⊢;exact h0 g hg
   ·rw[if_pos eg] at hg;cases hg
   ·rw[if_neg eg] at hg ⊢;exact h1 g k hg
   ·rw[if_pos eg] at hg ⊢;cases hg;exact⟨v,rfl,hd⟩
   ·rw[if_neg eg] at hg ⊢;exact h2 g x hg
  ·rw[if_neg hj] at e;have z:=G.sl j s o e q;cases s with
   | emp=>trivial
   | val _=>exact z
   | lol _=>exact z
   | lnk _=>exact z
   | box c' fs' =>
    have hm:(List.set ρ i .emp)[j]? = some (.box c' fs'):=by rw[List.getElem?_set,if_neg hj];exact e
    exact absurd (List.all_eq_true.mp hb _ (List.mem_of_getElem? hm)) (by simp[ab7])
   | own t l =>
    obtain⟨b,vs,e1,f1,e2,h3,ht⟩:=z;have hba:b≠a:=fun z=>by subst z;rw[hh] at e2;cases e2
    exact⟨b,vs,e1,f1,by rw[bc hba];exact e2,h3,ht⟩
theorem asd{o:HO}(hw:∀z,Own ρ1 σ z->Own ρ σ z):Ext (Oi ρ σ a) (Oi ρ1 σ a) F H F (L2.upd H a o) where
 sub:=Same.refl F
 new:=fun z u e=>.inl e
 keep:=fun z u e n=>by rw[bc (fun q=>n (.inr q))];exact e
 own:=fun z w=>.inl (w.imp (hw z) id)
 there:=fun z e=>by
  by_cases hz:z=a
  ·subst hz;rw[dh] at e;cases e
  ·rw[bc hz] at e;exact e
def TSm(K:Fg9)(i:Nat)(g:Sd):TS:=fun D σ H=>∃tg F ρ ρ' a,Good K tg F H ρ σ/\σ[i]? = some (some (.ref a))/\Bnd H a/\g ρ=some (.nx,ρ') /\
 ∀σ' H' F',Good K tg F' H' ρ' σ'->σ'[i]? = some (some (.ref a))->Bnd H' a->Ext (Oi ρ σ a) (Oi ρ' σ' a) F H F' H'->D.nx σ' H'
structure SM (K:Fg9) (X:Cx) (i:Nat) (st:Stmt) (g:Sd):Prop where
 go:X.K=K->PS X st (TSm K i g)
structure SMs (K:Fg9) (X:Cx) (i:Nat) (ss:List Stmt) (g:Sd):Prop where
 go:X.K=K->PSs X ss (TSm K i g)
end
section
variable{K:Fg9}{X:Cx}{e o c:Expr}{st:Stmt}{ss:List Stmt}{pos p p2:Pos}{i j:Nat}{f cn x:Str}{g k:Sd}
theorem aph{α:Type}{m:M α}{k:α->Sd}{ρ ρ':Ro}(h:dM m k ρ=some (.nx,ρ')):∃x ρ1,m ρ=some (.ok x,ρ1)/\k x ρ1=some (.nx,ρ'):=by
 unfold dM at h;split at h
 ·exact⟨_,_,by assumption,h⟩
 ·cases h
 ·cases h
theorem awq{ρ ρ':Ro}(h:dSeq g k ρ=some (.nx,ρ')):∃ρ1,g ρ=some (.nx,ρ1)/\k ρ1=some (.nx,ρ'):=by
 unfold dSeq at h;split at h
 ·exact⟨_,by assumption,h⟩
 ·rename_i hn;exact absurd h (hn ρ')
theorem at7(h:SM K X i st g)(t:SMs K X i ss k):SMs K X i (st::ss) (dSeq g k):=SMs.mk fun hk=>PSs.imp (lr (h.go hk) (t.go hk)) fun E σ H z9=>by
 obtain⟨tg,F,ρ,ρ',a,G,ea,hB,em,q⟩:=z9;obtain⟨ρ1,e1,e2⟩:=awq em;exact⟨tg,F,ρ,ρ1,a,G,ea,hB,e1,fun σ' H' F' G' ea' hB' x=>⟨tg,F',ρ1,ρ',a,G',ea',hB',e2,fun σ2 H2 F2 G2 ea2 hB2 x2=>q σ2 H2 F2 G2 ea2 hB2 (x.trans x2)⟩⟩
theorem ap8(h:SM K X i st g):SMs K X i [st] g:=SMs.mk fun hk=>ah2 (h.go hk)
def dFld(c:Str)(i:Nat)(f:Str)(m:M D):Sd:=dM m fun d ρ=>match ρ[i]? with
 | some (.box c' fs)=>if c'=c/\(fs.lookup f).isSome=true/\(List.set ρ i .emp).all ab7=true then some (.nx,List.set ρ i (.box c (putA f d fs))) else none
 | _=>none
theorem a0v{m:M D}(hc:FldT K cn f)(h:EV K X e m)(ho:PE X o (tVar i))(hs:swapsWith e (some (.Attribute o f p2)) pos.line X.env=pure false:=by rfl):SM K X i (.Assign [.Attribute o f p2] e pos) (dFld cn i f m):=SM.mk fun hk=>by
 subst hk;refine PS.imp (awu ho (h rfl) hs) fun E σ H z9 =>?_
 obtain⟨tg,F,ρ,ρ',a,G,ea,hB,em,q⟩:=z9;obtain⟨d,ρ1,e1,em⟩:=aph em;split at em
 ·rename_i c' fs ei;split at em
  ·rename_i hz;obtain⟨rfl,hf,hb⟩:=hz;cases em;refine⟨tg,F,ρ,d,ρ1,G,e1,fun v H1 F1 G1 x1 r1 =>?_⟩
   obtain⟨C,dx,fvs,hh,hlen⟩:=hB.step G x1;obtain⟨oi,hoi,a',C',dx',fvs',e',hF,hH,hn,h0,h1,h2⟩:=G1.at ei;rw[ea] at hoi;cases hoi;cases e';rw[hh] at hH;cases hH;obtain⟨k1,k2⟩:=hc C hn;obtain⟨G2,ow⟩:=G1.setBx ei hb ea hh hf r1;refine⟨_,ea,a,C,dx,fvs,rfl,hh,k1,k2,hlen,q _ _ _ G2 ea ⟨C,dx,_,dh,?_⟩ (x1.oi.trans (asd ow))⟩;have hv:∃w,fvs.lookup f=some w:=by
    cases hl:fs.lookup f with
    | none=>rw[hl] at hf;cases hf
    | some y =>
     cases y with
     | inl k=>exact⟨_,h1 f k hl⟩
     | inr d'=>obtain⟨w,hw,_⟩:=h2 f d' hl;exact⟨w,hw⟩
   obtain⟨w,hw⟩:=hv;rw[ah0 hw];exact hlen
  ·cases em
 ·cases em
def aix(c:Str)(i:Nat)(f:Str)(m:M D):Sd:=dM (mFV c i f) fun x=>dM m fun y=>dM (lift ((asI x).bind fun n=>(asI y).map fun k=>D.int (n+k))) fun z ρ=>match ρ[i]? with
 | some (.box c' fs)=>if c'=c/\(fs.lookup f).isSome=true/\(List.set ρ i .emp).all ab7=true then some (.nx,List.set ρ i (.box c (putA f z fs))) else none
 | _=>none
theorem a7x{tg:Nat->Addr}{F H:Hp}{ρ ρ':Ro}{σ:L2.St}{a:Addr}(G:Good K tg F H ρ σ){d:D}(ea:σ[i]? = some (some (.ref a)))(em:mFV cn i f ρ=some (.ok d,ρ')):ρ'=ρ/\∃C dx fvs v,H a=some (.ins C dx fvs)/\nsIn K mainGlobals cn=some (some (.ref C))/\fvs.lookup f=some v/\Is K F d v:=by
 unfold mFV at em;split at em
 ·rename_i c' fs ei;split at em
  ·rename_i hz;subst hz;split at em
   ·rename_i d' hd;cases em;obtain⟨oi,hoi,a',C,dx,fvs,rfl,hf,hh,hn,_,_,h2⟩:=G.at ei;rw[ea] at hoi;cases hoi;obtain⟨v,hv,iv⟩:=h2 f _ hd;exact⟨rfl,C,dx,fvs,v,hh,hn,hv,iv⟩
   ·cases em
  ·cases em
 ·cases em
theorem ap9{m:M D}(hc:FldT K cn f)(h:EV K X e m)(ho:PE X o (tVar i)):SM K X i (.AugAssign (.Attribute o f p2) .Add e pos) (aix cn i f m):=SM.mk fun hk=>by
 subst hk;refine PS.imp (aqn ho (h rfl) a3g) fun E σ H z9 =>?_
 obtain⟨tg,F,ρ,ρ',a,G,ea,hB,em,q⟩:=z9;obtain⟨x,ρ1,e1,em1⟩:=aph em;obtain⟨y,ρ2,e2,em2⟩:=aph em1;obtain⟨z,ρ3,e3,em3⟩:=aph em2
 clear em em1 em2
 obtain⟨e4,rfl⟩:=fu e3;obtain⟨rfl,C,dx,fvs,v,hh,hn,hv,iv⟩:=a7x G ea e1;obtain⟨k1,k2⟩:=hc C hn;split at em3
 ·rename_i c' fs ei;split at em3
  ·rename_i hz;obtain⟨rfl,hf,hb⟩:=hz;cases em3;cases ed:asI x with
   | none=>rw[ed] at e4;cases e4
   | some n =>
    rw[ed] at e4;obtain rfl:=adq ed;cases iv;cases ed2:asI y with
    | none=>rw[ed2] at e4;cases e4
    | some k =>
     rw[ed2] at e4;obtain rfl:=adq ed2;cases e4;refine⟨_,ea,a,C,dx,fvs,_,rfl,hh,k1,k2,hv,tg,F,_,_,_,G,e2,fun w H1 F1 G1 x1 r1 =>?_⟩
     cases r1;refine⟨n,k,rfl,rfl,?_⟩;have hB1:=hB.step G x1;have hkeep:=x1.keep a _ hh (G.noI hB);obtain⟨C9,dx9,fvs9,hh9,hlen⟩:=hB1;rw[hkeep] at hh9;cases hh9;obtain⟨G2,ow⟩:=G1.setBx ei hb ea hkeep hf (Is.int (n+k));refine⟨dx,fvs,hkeep,hlen,q _ _ _ G2 ea ⟨C,dx,_,dh,?_⟩ (x1.oi.trans (asd ow))⟩;rw[ah0 hv];exact hlen
  ·cases em3
 ·cases em3
def akj(g:Sd):Sd:=fun ρ=>match g ρ with
 | some (.nx,ρ')=>some (.nx,ρ')
 | _=>none
theorem aiw{ρ ρ':Ro}{fl:Fl}(h:akj g ρ=some (fl,ρ')):fl=.nx/\g ρ=some (.nx,ρ'):=by
 unfold akj at h;split at h
 ·rename_i ρ1 e;cases h;exact⟨rfl,e⟩
 ·cases h
theorem at8{m:M Bool}(n:Nat)(hp:PassesOwn (model X.prog X.w) X.A X.env X.xe)(hc:ET K X c m)(hb:SMs K X i ss g):SM K X i (.While c ss [] pos) (whileD m (akj g) n):=SM.mk fun hk=>PS.imp (ah3 hp (hc hk) (hb.go hk)) fun E σ H z9=>by
 obtain⟨tg,F,ρ,ρ',a,G,ea,hB,em,q⟩:=z9;refine⟨fun k σ2 H2=>∃F2 ρ2,Good K tg F2 H2 ρ2 σ2/\σ2[i]? = some (some (.ref a))/\Bnd H2 a/\Ext (Oi ρ σ a) (Oi ρ2 σ2 a) F H F2 H2/\whileD m (akj g) k ρ2=some (.nx,ρ'),⟨n,F,ρ,G,ea,hB,Ext.refl _ _ _,em⟩,?_⟩
 rintro k σ2 H2 ⟨F2,ρ2,G2,ea2,hB2,x2,em2⟩
 cases k with
 | zero=>cases em2
 | succ k =>
  unfold whileD at em2;split at em2
  ·rename_i ρ3 e3;refine⟨tg,F2,ρ2,true,ρ3,G2,e3,fun H3 F3 G3 x3=>iteT ?_⟩
   refine⟨fun σ' H'=>∃F2 ρ2,Good K tg F2 H' ρ2 σ'/\σ'[i]? = some (some (.ref a))/\Bnd H' a/\Ext (Oi ρ σ a) (Oi ρ2 σ' a) F H F2 H'/\whileD m (akj g) k ρ2=some (.nx,ρ'),fun σ' H' h=>⟨k,Nat.lt_succ_self k,h⟩,?_⟩
   have hB3:=hB2.step G2 x3;split at em2
   ·rename_i ρ4 e4;exact⟨tg,F3,ρ3,ρ4,a,G3,ea2,hB3,(aiw e4).2,fun σ' H' F' G' ea' hB' x'=>⟨F',ρ4,G',ea',hB',(x2.trans x3.oi).trans x',em2⟩⟩
   ·rename_i ρ4 e4;cases(aiw e4).1
   ·rename_i ρ4 e4;cases(aiw e4).1
   ·cases em2
   ·cases em2
   ·cases em2
  ·rename_i ρ3 e3;cases em2;exact⟨tg,F2,ρ2,false,_,G2,e3,fun H3 F3 G3 x3=>iteF (q σ2 H3 F3 G3 ea2 (hB2.step G2 x3) (x2.trans x3.oi))⟩
  ·cases em2
  ·cases em2
end
def at4(K:Fg9)(n nl:Nat)(g:Sd):Sp:=fun vs H Q _=>vs.length=n/\∃b a F as ρ',vs[0]? = some (.ref a)/\Bnd H a/\Good K (tgOf ((vs++[V.ref b]).map some)) F H as ((vs++[V.ref b]).map some)/\g (as++List.replicate (nl - (n+1)) .emp)=some (.nx,ρ') /\
 ∀σ' H' F',Good K (tgOf ((vs++[V.ref b]).map some)) F' H' ρ' σ'->σ'[0]? = some (some (.ref a))->Bnd H' a->Ext (Oi as ((vs++[V.ref b]).map some) a) (Oi ρ' σ' a) F H F' H'->Q .non H'
theorem a3o{K:Fg9}{P:Program}{w:World}{mg:Str->Option Value}{base:Heap}{x qual:Str}{st:Stmt}{f:Addr}{fd:FuncData}{N ps:List Str}{k nl np:Nat}{g:Sd}(F:Fun K x qual st f fd)(S:FnScope N ps (aa st))(h1:N.length=nl)(h2:ps.length=np)(hN:np+1<=nl)(h0:0 < np)
  (hgh:∀y∈(N.drop np).take 1,(aa st).names.lookup y=none)
  (body:∀(cdv:Value) (A:Around) (outer:List Env) (s:Shared) (H:Hp) (E:XK),Room k (A.deeper (envOfC qual (aa st) s.heap.objs.size f cdv))->SMs K (cxOf CX0 P w K mg base N qual (aa st) f cdv A outer s H E).nox 0 (ig st) g) :
  FnOk P w K mg base CX0 (k+1) f fd ps (at4 K np nl g):=by
 subst h1 h2;refine F.ok S (fun vs H Q E h=>h.1) (fun cdv A outer s H vs Q E hr h=>⟨_,aqm ((body cdv A outer s H E hr).go rfl),?_⟩)
 obtain⟨hn,b,a,F,as,ρ',hv0,hB,G,em,q⟩:=h;have hl:as.length=((vs++[V.ref b]).map some).length:=G.len;have hlen:(vs++[V.ref b]).length=ps.length+1:=by rw[List.length_append,hn];rfl
 have G1:=G.app (N.length - (ps.length+1));refine⟨(vs++[V.ref b]).map some++List.replicate (N.length - (ps.length+1)) none,⟨?_,?_⟩,?_⟩
 ·show _=(vs.map some++List.replicate (N.length - vs.length) none).length;rw[List.length_append,List.length_append,List.length_map,List.length_map,List.length_replicate,List.length_replicate,hlen];omega
 ·intro i y v ei ev vis;show(vs.map some++List.replicate (N.length - vs.length) none)[i]? = some (some v)
  by_cases q1:i < vs.length
  ·rw[List.getElem?_append_left (by rw[List.length_map];exact q1)]
   rw[List.getElem?_append_left (by rw[List.length_map,hlen];omega),List.getElem?_map,List.getElem?_append_left q1] at ev
   rw[List.getElem?_map];exact ev
  ·exfalso
   by_cases q2:i < ps.length+1
   ·have hm:y∈(N.drop ps.length).take 1:=by
     refine List.mem_of_getElem? (i:=i - ps.length) ?_;rw[List.getElem?_take_of_lt (by omega),List.getElem?_drop,show ps.length+(i - ps.length)=i by omega]
     exact ei
    have z:=hgh y hm;rcases vis with v | v | v
    ·rw[show((cxOf CX0 P w K mg base N qual (aa st) f cdv A outer s H E).nox).env.scope=aa st from rfl,z] at v;cases v
    ·rw[show((cxOf CX0 P w K mg base N qual (aa st) f cdv A outer s H E).nox).env.scope=aa st from rfl,z] at v;cases v
    ·rw[show((cxOf CX0 P w K mg base N qual (aa st) f cdv A outer s H E).nox).env.scope=aa st from rfl,z] at v;cases v
   ·rw[List.getElem?_append_right (by rw[List.length_map,hlen];omega),List.getElem?_replicate] at ev
    split at ev <;> cases ev
 have oe:∀z,Oi (as++List.replicate (N.length - (ps.length+1)) .emp) ((vs++[V.ref b]).map some++List.replicate (N.length - (ps.length+1)) none) z=Oi as ((vs++[V.ref b]).map some) z:=fun z=>by
  unfold Oi;rw[yl hl]
 refine⟨_,F,_,ρ',a,G1,?_,hB,em,fun σ' H' F' G' ea hB' x' =>?_⟩
 ·have hlt:0 < vs.length:=(List.getElem?_eq_some_iff.mp hv0).1;rw[List.getElem?_append_left (by rw[List.length_map,hlen];omega),List.getElem?_map,List.getElem?_append_left hlt,hv0]
  rfl
 ·rw[oe] at x';exact q σ' H' F' G' ea hB' x'
def rt1(k:Nat):Nat ⊕ D->Nat ⊕ D
 | .inl _=>.inl k
 | .inr d=>.inr d
def rtg(k:Nat)(fs:List (Str×(Nat ⊕ D))):List (Str×(Nat ⊕ D)):=fs.map fun p=>(p.1,rt1 k p.2)
theorem ad6{k:Nat}{f:Str}:∀{fs:List (Str×(Nat ⊕ D))},(rtg k fs).lookup f=(fs.lookup f).map (rt1 k)
 | []=>rfl
 | (g,y)::r=>by
  unfold rtg;rw[List.map_cons]
  by_cases e:f=g
  ·subst e;rw[List.lookup_cons_self,List.lookup_cons_self];rfl
  ·have hb:(f==g)=false:=beq_eq_false_iff_ne.mpr e;simp only[List.lookup,hb];exact ad6
def inlB(k:Nat)(fs:List (Str×(Nat ⊕ D))):Bool:=fs.all fun p=>match p.2 with
 | .inl k'=>k'==k
 | .inr _=>true
theorem art{k k':Nat}{f:Str}:∀{fs:List (Str×(Nat ⊕ D))},inlB k fs=true->fs.lookup f=some (.inl k')->k'=k
 | [],_,h=>by cases h
 | (g,y)::r,hb,h=>by
  unfold inlB at hb;rw[List.all_cons,Bool.and_eq_true] at hb
  by_cases e:f=g
  ·subst e;rw[List.lookup_cons_self] at h;cases h;exact beq_iff_eq.mp hb.1
  ·have he:(f==g)=false:=beq_eq_false_iff_ne.mpr e;simp only[List.lookup,he] at h;exact art hb.2 h
section
variable{K:Fg9}{tg tg1:Nat->Addr}{F H:Hp}{c:Str}{fs:List (Str×(Nat ⊕ D))}{k k1:Nat}{o:Option V}
theorem SlOk.rtg(h:SlOk K tg F H (.box c fs) o)(hk:inlB k fs=true)(ht:tg1 k1=tg k):SlOk K tg1 F H (.box c (rtg k1 fs)) o:=by
 obtain⟨a,C,dx,fvs,e1,e2,e3,e4,e7,e5,e6⟩:=h;refine⟨a,C,dx,fvs,e1,e2,e3,e4,fun f hf =>?_,fun f k' hf =>?_,fun f d hf =>?_⟩
 all_goals rw[ad6] at hf
 ·exact e7 f (Option.map_eq_none_iff.mp hf)
 ·obtain⟨y,hy,hz⟩:=Option.map_eq_some_iff.mp hf;cases y with
  | inl k2 =>
   cases hz;rw[e5 f k2 hy,art hk hy,ht]
  | inr d=>cases hz
 ·obtain⟨y,hy,hz⟩:=Option.map_eq_some_iff.mp hf;cases y with
  | inl k2=>cases hz
  | inr d' =>
   cases hz;exact e6 f _ hy
end
def av6(c m:Str)(i j nl:Nat)(g:Sd)(me:M D):Sd:=dM (mIsB c i m) fun _=>dM me fun d ρ=>match (ρ:List Sl)[i]?,(ρ:List Sl)[j]? with
 | some (.box c' fs),some (.own (some k) l)=>if c'=c/\inlB k fs=true/\(List.set ρ i .emp).all ab7=true/\i≠j then
   match g ([.box c (rtg 2 fs),.val d,.own (some 2) l]++List.replicate (nl - 3) .emp) with
   | some (.nx,ρ2)=>match (ρ2:List Sl)[(0:Nat)]?,(ρ2:List Sl)[(2:Nat)]? with
    | some (Sl.box c2 fs2),some (Sl.own (some 2) l2)=>if c2=c/\inlB 2 fs2=true then some (.nx,List.set (List.set ρ i (.box c (rtg k fs2))) j (.own (some k) l2)) else none
    | _,_=>none
   | _=>none
  else none
 | _,_=>none
section
variable{K:Fg9}{X:Cx}{e o:Expr}{pos p2 apos:Pos}{i j:Nat}{cn m:Str}{g:Sd}
theorem ap2{τ:L2.St}{c:Str}{fs:List (Str×(Nat ⊕ D))}{d:D}{l:List D}{b z:Addr}{t:Option Nat}(hτ:τ[2]? = some (some (V.ref b)))(h:Own [.box c fs,.val d,.own t l] τ z):z=b:=by
 obtain⟨n,⟨t,l,e⟩,q⟩:=h
 match n,e,q with
 | 0,e,_=>cases e
 | 1,e,_=>cases e
 | 2,_,q=>rw[hτ] at q;cases q;rfl
 | n+3,e,_=>simp at e
theorem aor{tg:Nat->Addr}{F H:Hp}{c:Str}{fs:List (Str×(Nat ⊕ D))}{d:D}{l:List D}{a b:Addr}{v:V}{ws:List V}(g:Same F H)(h0:SlOk K tg F H (.box c fs) (some (.ref a)))(h1:Is K F d v)(hf:F b=none)(hh:H b=some (.lst ws))(hl:IsL K F l ws)(ht:tg 2=b) :
  Good K tg F H [.box c fs,.val d,.own (some 2) l] [some (V.ref a),some v,some (V.ref b)]:=⟨g,rfl,fun n s o e q=>by
 match n,e,q with
 | 0,e,q=>cases e;cases q;exact h0
 | 1,e,q=>cases e;cases q;exact⟨v,rfl,h1⟩
 | 2,e,q =>
  cases e;cases q;exact⟨b,ws,rfl,hf,hh,hl,fun k ek=>by cases ek;exact ht⟩
 | n+3,e,_=>simp at e,fun n n' z ⟨⟨t,l1,e⟩,q⟩ ⟨⟨t',l2,e'⟩,q'⟩=>by
 match n,n',e,e' with
 | 0,_,e,_=>cases e
 | 1,_,e,_=>cases e
 | 2,0,_,e'=>cases e'
 | 2,1,_,e'=>cases e'
 | 2,2,_,_=>rfl
 | 2,n'+3,_,e'=>simp at e'
 | n+3,_,e,_=>simp at e⟩
theorem aq3{tg:Nat->Addr}{F H F' H':Hp}{ρ:Ro}{σ:L2.St}{c:Str}{fs fs2:List (Str×(Nat ⊕ D))}{k:Nat}{l l2:List D}{a b:Addr}{ws:List V}{O O':Addr->Prop}(G:Good K tg F H ρ σ)(hB:Bnd H a)(ea:σ[i]? = some (some (.ref a)))(ei:(ρ:List Sl)[i]? = some (.box c fs))(ej:(ρ:List Sl)[j]? = some (.own (some k) l))(hij:i≠j)(hb:(List.set ρ i .emp).all ab7=true)(eb:σ[j]? = some (some (.ref b)))
  (hO:∀z,O z->z=b∨z=a) (x:Ext O O' F H F' H') (s':Same F' H') (hbx:SlOk K tg F' H' (.box c fs2) (some (.ref a))) (hf:F' b=none) (hh:H' b=some (.lst ws)) (hl:IsL K F' l2 ws) :
  Good K tg F' H' (List.set (List.set ρ i (.box c fs2)) j (.own (some k) l2)) σ/\Ext (Oi ρ σ a) (Oi (List.set (List.set ρ i (.box c fs2)) j (.own (some k) l2)) σ a) F H F' H':=by
 have hi:i < ρ.length:=(List.getElem?_eq_some_iff.mp ei).1;have hj:j < ρ.length:=(List.getElem?_eq_some_iff.mp ej).1;obtain⟨oj,hoj,b',ws0,rfl,hf0,hh0,hl0,ht0⟩:=G.at ej;rw[eb] at hoj;cases hoj;have gs:∀n,(List.set (List.set ρ i (.box c fs2)) j (.own (some k) l2))[n]? = if j=n then some (.own (some k) l2) else if i=n then some (.box c fs2) else (ρ:List Sl)[n]? := fun n=>by
  rw[List.getElem?_set,List.length_set,List.getElem?_set]
  by_cases q1:j=n
  ·subst q1;rw[if_pos rfl,if_pos rfl,if_pos hj]
  ·rw[if_neg q1,if_neg q1]
   by_cases q2:i=n
   ·subst q2;rw[if_pos rfl,if_pos rfl,if_pos hi]
   ·rw[if_neg q2,if_neg q2]
 have ow:∀n z,Owns (List.set (List.set ρ i (.box c fs2)) j (.own (some k) l2)) σ n z->Owns ρ σ n z:=fun n z ⟨⟨t,l',e⟩,q⟩=>by
  rw[gs] at e
  by_cases q1:j=n
  ·subst q1;exact⟨⟨_,_,ej⟩,q⟩
  ·rw[if_neg q1] at e
   by_cases q2:i=n
   ·subst q2;rw[if_pos rfl] at e;cases e
   ·rw[if_neg q2] at e;exact⟨⟨t,l',e⟩,q⟩
 refine⟨⟨s',by rw[List.length_set,List.length_set];exact G.len,fun n s o e q =>?_,fun n n' z w w'=>G.inj n n' z (ow n z w) (ow n' z w')⟩,x.sub,fun z o e =>?_,fun z o e n=>x.keep z o e fun w =>?_,fun z w=>.inl (w.imp (fun⟨n,w⟩=>⟨n,ow n z w⟩) id),x.there⟩
 ·rw[gs] at e
  by_cases q1:j=n
  ·subst q1;rw[if_pos rfl] at e;cases e;rw[eb] at q;cases q;exact⟨b,ws,rfl,hf,hh,hl,fun k' ek=>by cases ek;exact ht0 k rfl⟩
  ·rw[if_neg q1] at e
   by_cases q2:i=n
   ·subst q2;rw[if_pos rfl] at e;cases e;rw[ea] at q;cases q;exact hbx
   ·rw[if_neg q2] at e;have z:=G.sl n s o e q;cases s with
    | emp=>trivial
    | val d =>
     obtain⟨v,h1,h2⟩:=z;exact⟨v,h1,h2.mono x.sub⟩
    | lol ts =>
     obtain⟨a2,h1,h2⟩:=z;exact⟨a2,h1,x.sub _ _ h2⟩
    | lnk k2=>exact z
    | box c' fs' =>
     have hm:(List.set ρ i .emp)[n]? = some (.box c' fs'):=by rw[List.getElem?_set,if_neg q2];exact e
     exact absurd (List.all_eq_true.mp hb _ (List.mem_of_getElem? hm)) (by simp[ab7])
    | own t l' =>
     obtain⟨a2,vs,rfl,hf2,hh2,hl2,ht2⟩:=z;have no:¬O a2:=fun w=>by
      rcases hO a2 w with w | w
      ·subst w;exact q1 (G.inj j n _ ⟨⟨_,_,ej⟩,eb⟩ ⟨⟨_,_,e⟩,q⟩)
      ·subst w;obtain⟨C,dx,fvs,hc,_⟩:=hB;rw[hc] at hh2;cases hh2
     refine⟨a2,vs,rfl,?_,x.keep a2 _ hh2 no,hl2.mono x.sub,ht2⟩;cases z:F' a2 with
     | none=>rfl
     | some u =>
      rcases x.new a2 u z with z | z | z
      ·rw[hf2] at z;cases z
      ·rw[hh2] at z;cases z
      ·exact absurd z no
 ·rcases x.new z o e with w | w | w
  ·exact .inl w
  ·exact .inr (.inl w)
  ·rcases hO z w with w | w
   ·subst w;exact .inr (.inr (.inl ⟨j,⟨_,_,ej⟩,eb⟩))
   ·exact .inr (.inr (.inr w))
 ·rcases hO z w with w | w
  ·subst w;exact n (.inl ⟨j,⟨_,_,ej⟩,eb⟩)
  ·exact n (.inr w)
theorem axv{me:M D}{ps:List Str}{kk nl:Nat}(Dm:DfnM X.prog X.w X.K X.mg X.base cn m ps kk (at4 K 2 nl g))(hr:Room kk X.A)(ho:PE X o (tVar i))(h:EV K X e me){pl:Sem Bool}
  (hst:starEach [e] X.env=(false,eval e X.env)::starEach [] X.env:=by rfl) (hpl:(backTo pos (starEach [] X.env)).any (·.1)=false:=by rfl)
  (ht:eval (.Call (.Attribute o m apos) [e] [] pos) X.env=(do
   let ov <-eval o X.env
   standAt apos.atName
   let (f,first) <-holding [ov] (getMethod ov m pl)
   callWith pos f first (backTo pos (starEach [e] X.env)) (backToKw pos (keywordEach [] X.env))):=by rfl)
  (hs:swapsWith (.Call (.Attribute o m apos) [e] [] pos) none p2.line X.env=pure false:=by rfl) :
  SM K X i (.Expr (.Call (.Attribute o m apos) [e] [] pos) p2) (av6 cn m i j nl g me):=SM.mk fun hk=>by
 obtain⟨C,fa,fd,hC,hcl,hme,hF,hB⟩:=Dm.ex;refine PS.imp (aln (ayi (pl:=pl) ho hcl hme hF hr hB .nil ayp (zq (h hk) ajh hst) hst hpl ht) hs) fun E σ H z9 =>?_
 obtain⟨tg,F,ρ,ρ',a,G,ea,hBn,em,q⟩:=z9;obtain⟨fs0,ρ0,e0,em0⟩:=aph em;obtain⟨d,ρ1,e1,em1⟩:=aph em0
 clear em em0
 subst hk;obtain⟨rfl,_,a0,C0,dx0,fvs0,z1,z2,z3,z4,z5,z6,z7,z8⟩:=a3f G e0;rw[ea] at z1;cases z1;rw[hC] at z4;cases z4;split at em1
 ·rename_i c' fs k l ei ej;split at em1
  ·rename_i hz;obtain⟨rfl,hik,hb,hij⟩:=hz;split at em1
   ·rename_i ρ2 e2;split at em1
    ·rename_i c2 fs2 l2 e3 e4;split at em1
     ·rename_i hz2;obtain⟨rfl,hik2⟩:=hz2;cases em1;refine⟨_,ea,a,dx0,fvs0,rfl,z3,z6,tg,F,ρ0,d,ρ1,G,e1,fun v H1 F1 G1 x1 r1 =>?_⟩
      obtain⟨oi,hoi,hbx⟩:=G1.at ei;rw[ea] at hoi;cases hoi;obtain⟨oj,hoj,b,ws,rfl,hfb,hhb,hlb,htb⟩:=G1.at ej;have hB1:=hBn.step G x1;refine⟨rfl,b,a,F1,_,ρ2,rfl,hB1,aor G1.sub (SlOk.rtg (k1:=2) hbx hik (htb k rfl).symm) r1 hfb hhb hlb rfl,e2,fun σ' H' F' G' ea' hB' x' =>?_⟩
      obtain⟨o0,ho0,hbx'⟩:=G'.at e3;rw[ea'] at ho0;cases ho0;obtain⟨o2,ho2,b2,ws2,rfl,hf2,hh2,hl2,ht2⟩:=G'.at e4;have hb2:b=b2:=ht2 2 rfl;subst hb2;obtain⟨G3,x3⟩:=aq3 (fs2:=rtg k fs2) (O:=Oi _ _ a) G1 hB1 ea ei ej hij hb hoj (fun z w=>w.imp (fun w=>ap2 rfl w) id) x' G'.sub (hbx'.rtg hik2 (htb k rfl)) hf2 hh2 hl2
      exact q σ H' F' G3 ea hB' (x1.oi.trans x3)
     ·cases em1
    ·cases em1
   ·cases em1
  ·cases em1
 ·cases em1
end
abbrev BF:=List (Str×(Nat ⊕ D))
def awl(K:Fg9)(F H:Hp)(c:Str)(fs:BF)(l:List D)(a b:Addr):Prop:=SlOk K (fun _=>b) F H (.box c fs) (some (.ref a))/\Bnd H a/\F b=none/\∃vs,H b=some (.lst vs)/\IsL K F l vs
abbrev MS:=Ro->Option ((BF×List D)×Ro)
def TEs(K:Fg9)(c:Str)(m:MS):TE:=fun σ H Q=>∃tg F ρ fs l ρ1,Good K tg F H ρ σ/\m ρ=some ((fs,l),ρ1) /\
 ∀a b H' F',Good K tg F' H' ρ1 σ->Ext (Own ρ σ) (Own ρ1 σ) F H F' H'->H a=none->(Own ρ σ b∨H b=none)->¬Own ρ1 σ b->awl K F' H' c fs l a b->Q (.ref a) H'
structure ES (K:Fg9) (X:Cx) (c:Str) (e:Expr) (m:MS):Prop where
 go:X.K=K->PE X e (TEs K c m)
def frs:List (Str×Rv)->List (List D)
 | []=>[]
 | (_,.fr l)::r=>l::frs r
 | (_,.v _)::r=>frs r
 | (_,.tf _ _)::r=>frs r
section
variable{K:Fg9}{X:Cx}{tg tg1:Nat->Addr}{F H F1 H1:Hp}{O:Addr->Prop}{ρ ρ1:Ro}{σ:L2.St}
theorem FdR.lens{rs:List (Str×Rv)}{fvs:List (Str×V)}{A:List Addr}(h:FdR K F H O rs fvs A):fvs.length=rs.length:=by
 induction h with
 | nil=>rfl
 | v h t ih=>rw[List.length_cons,List.length_cons,ih]
 | fr hf hn hh h ne t ih=>rw[List.length_cons,List.length_cons,ih]
theorem FdR.zero{rs:List (Str×Rv)}{fvs:List (Str×V)}{A:List Addr}(h:FdR K F H O rs fvs A):frs rs=[]->A=[]:=by
 induction h with
 | nil=>exact fun _=>rfl
 | v h t ih=>exact ih
 | fr hf hn hh h ne t ih=>exact fun z=>by cases z
theorem FdR.one{rs:List (Str×Rv)}{fvs:List (Str×V)}{A:List Addr}{l:List D}(h:FdR K F H O rs fvs A):frs rs=[l]->∃b,A=[b]/\F b=none/\∃ws,H b=some (.lst ws)/\IsL K F l ws:=by
 induction h with
 | nil=>exact fun z=>by cases z
 | v h t ih=>exact ih
 | @fr f l' e ws rs fvs A hf hn hh h ne t ih =>
  intro z;have z:l'::frs rs=[l]:=z;obtain⟨rfl,z2⟩:=List.cons.inj z;obtain rfl:=t.zero z2;exact⟨e,rfl,hf,ws,hh,h⟩
theorem SlOk.rtgC{c:Str}{fs:BF}{o:Option V}{k1:Nat}{b:Addr}(h:SlOk K (fun _=>b) F H (.box c fs) o)(ht:tg1 k1=b):SlOk K tg1 F H (.box c (Dn.rtg k1 fs)) o:=by
 obtain⟨a,C,dx,fvs,e1,e2,e3,e4,e7,e5,e6⟩:=h;refine⟨a,C,dx,fvs,e1,e2,e3,e4,fun f hf =>?_,fun f k' hf =>?_,fun f d hf =>?_⟩
 all_goals rw[ad6] at hf
 ·exact e7 f (Option.map_eq_none_iff.mp hf)
 ·obtain⟨y,hy,hz⟩:=Option.map_eq_some_iff.mp hf;cases y with
  | inl k2 =>
   cases hz;rw[e5 f k2 hy,ht]
  | inr d=>cases hz
 ·obtain⟨y,hy,hz⟩:=Option.map_eq_some_iff.mp hf;cases y with
  | inl k2=>cases hz
  | inr d' =>
   cases hz;exact e6 f _ hy
theorem SlOk.cst{c:Str}{fs:BF}{o:Option V}{k:Nat}{b:Addr}(h:SlOk K tg F H (.box c fs) o)(hk:inlB k fs=true)(ht:tg k=b):SlOk K (fun _=>b) F H (.box c fs) o:=by
 obtain⟨a,C,dx,fvs,e1,e2,e3,e4,e7,e5,e6⟩:=h;refine⟨a,C,dx,fvs,e1,e2,e3,e4,e7,fun f k' hf =>?_,e6⟩
 rw[e5 f k' hf,art hk hf,ht]
end
def aq5(n nl:Nat)(fms:List (Str×M Rv))(js:List (Option Nat))(ms:M (List (Option D))):MS:=fun ρ=>match ms ρ with
 | some (.ok ds,ρ1)=>if okJs ρ1 (none::js)=true then match iniD fms (lend ρ1 (none::js) (none::ds)++List.replicate (nl - n) .emp) with
  | some (rs,ρc)=>match frs rs with
   | [l]=>if rs.length < 1000 then some ((mkFs rs 0,l),putB ρ1 (none::js) (ρc.take n)) else none
   | _=>none
  | none=>none
  else none
 | _=>none
section
variable{K:Fg9}{X:Cx}{e:Expr}{es:List Expr}{p p2 pos pos2:Pos}{x c:Str}{i j kk n nl:Nat}{fms:List (Str×M Rv)}{ps:List Str}{js:List (Option Nat)}{ms:M (List (Option D))}
theorem a3s(D:DfnI X.prog X.w X.K X.mg X.base c ps kk (aou K n nl fms))(hr:Room (kk+1) X.A)(hgl:Gl X c)(ha:EG K X (e::es) js ms)(hn:1+js.length=n:=by rfl)
  (hdb:(c==("__debug__" : Str))=false:=by decide) (he:starEach (e::es) X.env=(false,eval e X.env)::starEach es X.env:=by rfl) (hpl:(backTo pos (starEach es X.env)).any (·.1)=false:=by rfl) :
  ES K X c (.Call (.Name c p2) (e::es) [] pos) (aq5 n nl fms js ms):=ES.mk fun hk=>by
 obtain⟨C,fa,fd,hC,hmg,hM,hF,hB⟩:=D.ex;subst hk;refine PE.imp (ayj hM hF hr hgl hmg hB .nil ayp (ha rfl) hdb he hpl) fun σ H Q z9 =>?_
 obtain⟨tg,F,ρ,fs,l,ρ9,G,em,q⟩:=z9;unfold aq5 at em;split at em
 ·rename_i ds ρ1 e1;split at em
  ·rename_i hj;split at em
   ·rename_i rs ρc e2;split at em
    ·rename_i l' hfr;split at em
     ·rename_i hlen;cases em;refine⟨tg,F,ρ,ds,ρ1,G,e1,fun vs H1 F1 G1 x1 ar x0 dx hx0 hdx hne =>?_⟩
      have vl:=ar.length;have L:Lent X.K F1 σ ((V.ref x0::vs).map some) (none::js) (none::ds):=by
       have:=ay4 (a:=x0) (gs:=[]) (gv:=[]) ar rfl (fun n j v h=>by simp at h)
       simpa using this
      have hx1:(upd H1 dx (.own x0)) x0=none:=by rw[bc (Ne.symm hne)];exact hx0
      have G2:=(G1.fresh hdx (.own x0)).fresh hx1 (.ins C dx []);have Gl:=ac1 G2 hj L;show aou X.K n nl fms C (V.ref x0::(vs++[])) _ _ E0;rw[List.append_nil];refine⟨by rw[List.length_cons,vl];omega,x0,dx,F1,_,rs,ρc,rfl,dh,G1.freeF hx0,Gl,e2,fun H' F' fvs A O' s' g1 g2 g3 g4 fin=>⟨rfl,?_⟩⟩
      have y:Ext (Own (lend ρ1 (none::js) (none::ds)) ((V.ref x0::vs).map some)) (fun z=>O' z∨z=x0∨z∈A) F1 H1 F' H':=by
       have up:∀z o,H1 z=some o->(upd (upd H1 dx (.own x0)) x0 (.ins C dx [])) z=some o:=fun z o hz=>by
        rw[bc (fc hz hx0),bc (fc hz hdx)];exact hz
       have dn:∀z,(upd (upd H1 dx (.own x0)) x0 (.ins C dx [])) z=none->H1 z=none:=fun z hz=>by
        cases q:H1 z with
        | none=>rfl
        | some o=>rw[up z o q] at hz;cases hz
       refine⟨g4.sub,fun z o hz =>?_,fun z o hz nz =>?_,fun z hz =>?_,fun z hz=>dn z (g4.there z hz)⟩
       ·rcases g4.new z o hz with w | w | w | w
        ·exact .inl w
        ·exact .inr (.inl (dn z w))
        ·exact .inr (.inr w)
        ·subst w;rw[g2] at hz;cases hz
       ·exact g4.keep z o (up z o hz) fun w=>w.elim nz fun w=>by subst w;rw[hx0] at hz;cases hz
       ·rcases g4.own z hz with(w | w) | w
        ·exact .inl w
        ·subst w;exact .inr hx0
        ·exact .inr (dn z w)
      have fin':=fin.mono (O':=fun z=>O' z∨z=x0∨z∈A) fun z hz=>.inl hz
      have Gb:=agb G1 L y s' fin';have xb:=ai0 (ps:=ρc.take n) G1 L y;obtain⟨b,rfl,hfb,ws,hhb,hlb⟩:=g3.one hfr;have hA:¬Own (putB ρ1 (none::js) (ρc.take n)) σ b/\(Own ρ1 σ b∨H1 b=none):=by
       obtain⟨o1,o2,ws',o3,l3,o4⟩:=g3.out b (List.mem_cons_self ..);have w:=y.own b (.inr (.inr (List.mem_cons_self ..)));have rr:relR X.K (.fr l3) (.ref b) H1 (Own (lend ρ1 (none::js) (none::ds)) ((V.ref x0::vs).map some)) F' H' O':=⟨b,ws',rfl,w.symm,o2,o3,o4,o1⟩;obtain⟨a,vs',e',h1,h2,h3,h4,h5⟩:=aof (ps:=ρc.take n) G1 L fin rr;cases e';exact⟨h5,h1.symm⟩
      obtain⟨k1,k2,k3⟩:=ay1 (tg1:=fun _=>b) (n:=0) g3 (fun m e' he'=>by
       cases m with
       | zero=>cases he';rfl
       | succ m=>simp at he')
      refine q x0 b H' F' Gb (x1.trans xb) (x1.there x0 hx0) ?_ hA.1 ⟨⟨x0,C,dx,fvs,rfl,g2,g1,hC,k1,k2,k3⟩,⟨C,dx,fvs,g1,by rw[g3.lens];exact hlen⟩,hfb,ws,hhb,hlb⟩
      rcases hA.2 with w | w
      ·exact x1.own b w
      ·exact .inr (x1.there b w)
     ·cases em
    ·cases em
   ·cases em
  ·cases em
 ·cases em
def azb:Sl->Bool
 | .val _=>true
 | _=>false
def ap6(K:Fg9)(n:Nat)(c:Str)(f:Ro->Option (BF×List D)):Sp:=fun vs H Q _=>vs.length=n/\∃F as fs l,Good K (tgOf (vs.map some)) F H as (vs.map some)/\(as:List Sl).all azb=true/\f as=some (fs,l) /\
 ∀a b H' F',Same F' H'->Same F F'->(∀z o,F' z=some o->F z=some o∨H z=none)->Same H H'->H a=none->H b=none->awl K F' H' c fs l a b->Q (.ref a) H'
def ajq(f:Ro->Option (BF×List D))(js:List (Option Nat))(ms:M (List (Option D))):MS:=fun ρ=>match ms ρ with
 | some (.ok ds,ρ1)=>if okJs ρ1 js=true/\(lend ρ1 js ds:List Sl).all azb=true then match f (lend ρ1 js ds) with
  | some (fs,l)=>some ((fs,l),ρ1)
  | none=>none
  else none
 | _=>none
theorem a72{f:Ro->Option (BF×List D)}{k:Nat}{pn:List Str}(F:Dfn X.prog X.w X.K X.mg X.base x pn k (ap6 K n c f))(hr:Room k X.A)(hg:Gl X x)(ha:EG K X (e::es) js ms)(hn:js.length=n:=by rfl)(hdb:(x==("__debug__" : Str))=false:=by decide)
  (he:starEach (e::es) X.env=(false,eval e X.env)::starEach es X.env:=by rfl) (hpl:(backTo pos (starEach es X.env)).any (·.1)=false:=by rfl):ES K X c (.Call (.Name x p) (e::es) [] pos) (ajq f js ms):=ES.mk fun hk=>PE.imp (a1m F hr hg (ha hk) hdb he hpl) fun σ H Q z9=>by
 obtain⟨tg,F,ρ,fs,l,ρ9,G,em,q⟩:=z9;unfold ajq at em;split at em
 ·rename_i ds ρ1 e1;split at em
  ·rename_i hz;obtain⟨hj,hv⟩:=hz;split at em
   ·rename_i fs' l' e2;cases em;refine⟨tg,F,ρ,ds,ρ9,G,e1,fun vs H1 F1 G1 x1 ar =>?_⟩
    have L:=ar.lent;show ap6 K n c f (vs++[]) H1 Q E0;rw[List.append_nil];refine⟨by rw[ar.length];exact hn,F1,_,fs,l,ac1 G1 hj L,hv,e2,fun a b H' F' s1 s2 s3 s4 h1 h2 bx =>?_⟩
    have no:∀z,H1 z≠none->F1 z=none->F' z=none:=fun z hz hf=>by
     cases w:F' z with
     | none=>rfl
     | some o =>
      rcases s3 z o w with w | w
      ·rw[hf] at w;cases w
      ·exact absurd w hz
    have G2:Good K tg F' H' ρ9 σ:=G1.grow s2 s1 (fun z w=>by
     obtain⟨w1,ws,w2⟩:=G1.ownAt w;exact⟨no z (by rw[w2];simp) w1,by rw[w2,s4 z _ w2]⟩) fun z C dx fvs w1 w2=>⟨no z (by rw[w2];simp) w1,by rw[w2,s4 z _ w2]⟩
    have x2:Ext (Own ρ9 σ) (Own ρ9 σ) F1 H1 F' H':=⟨s2,fun z o w=>(s3 z o w).imp id .inl,fun z o w _=>s4 z o w,fun z w=>.inl w,fun z w=>Same.free s4 w⟩
    exact q a b H' F' G2 (x1.trans x2) (x1.there a h1) (.inr (x1.there b h2)) (fun w=>G1.own_ne h2 w rfl) bx
   ·cases em
  ·cases em
 ·cases em
end
def TSr(K:Fg9)(i:Nat)(g:Sd):TS:=fun D σ H=>∃tg F ρ ρ' a,Good K tg F H ρ σ/\σ[i]? = some (some (.ref a))/\Bnd H a/\g ρ=some (.nx,ρ') /\
 ∀σ' H' F',Good K tg F' H' ρ' σ'->σ'[i]? = some (some (.ref a))->Bnd H' a->Ext (Oi ρ σ a) (Oi ρ' σ' a) F H F' H'->D.rt (.ref a) H'
structure SRs (K:Fg9) (X:Cx) (i:Nat) (ss:List Stmt) (g:Sd):Prop where
 go:X.K=K->PSs X ss (TSr K i g)
def strD(nl np:Nat)(g:Ro->Option (BF×List D)):Ro->Option (BF×List D):=fun as=>g (as++List.replicate (nl - np) .emp)
def TSf(K:Fg9)(c:Str)(g:Ro->Option (BF×List D)):TS:=fun D σ H=>∃tg F ρ fs l,Good K tg F H ρ σ/\(∀z,¬Own ρ σ z)/\g ρ=some (fs,l) /\
 ∀a b H' F',Same F' H'->Same F F'->(∀z o,F' z=some o->F z=some o∨H z=none)->Same H H'->H a=none->H b=none->awl K F' H' c fs l a b->D.rt (.ref a) H'
structure SF (K:Fg9) (X:Cx) (c:Str) (ss:List Stmt) (g:Ro->Option (BF×List D)):Prop where
 go:X.K=K->PSs X ss (TSf K c g)
def an8(c:Str)(i j:Nat)(m:MS)(k:Sd):Ro->Option (BF×List D):=fun ρ=>match m ρ with
 | some ((fs,l),ρ1)=>if (ρ1:List Sl).all tagB=true/\i≠j/\i < (ρ1:List Sl).length then match k (List.set (List.set ρ1 i (.box c (rtg 1000 fs))) j (.own (some 1000) l)) with
  | some (.nx,ρ')=>match (ρ':List Sl)[i]?,(ρ':List Sl)[j]? with
   | some (Sl.box c2 fs2),some (Sl.own (some 1000) l2)=>if c2=c/\inlB 1000 fs2=true then some (fs2,l2) else none
   | _,_=>none
  | _=>none
  else none
 | none=>none
def dGot(c:Str)(i j:Nat)(m:MS)(k:Sd):Sd:=fun ρ=>match m ρ with
 | some ((fs,l),ρ1)=>if (ρ1:List Sl).all tagB=true/\i≠j then match k (List.set (List.set ρ1 i (.box c (rtg 1000 fs))) j (.own (some 1000) l)) with
  | some (fl,ρ4)=>if (offs ρ4 [i,j]:List Sl).all tagB=true then some (fl,offs ρ4 [i,j]) else none
  | none=>none
  else none
 | none=>none
section
variable{K:Fg9}{X:Cx}{e o:Expr}{es:List Expr}{st:Stmt}{ss:List Stmt}{p p2 pos pos2:Pos}{x c:Str}{i j:Nat}{m:MS}{g k:Sd}
theorem axt(ho:PE X o (tVar i)):SRs K X i [.Return (some o) pos] dNx:=SRs.mk fun _=>PSs.imp (ah2 (awt ho)) fun E σ H z9=>by
 obtain⟨tg,F,ρ,ρ',a,G,ea,hB,em,q⟩:=z9;cases em;exact⟨_,ea,q σ H F G ea hB (Ext.refl _ _ _)⟩
theorem atz(h:SM K X i st g)(t:SRs K X i ss k):SRs K X i (st::ss) (dSeq g k):=SRs.mk fun hk=>PSs.imp (lr (h.go hk) (t.go hk)) fun E σ H z9=>by
 obtain⟨tg,F,ρ,ρ',a,G,ea,hB,em,q⟩:=z9;obtain⟨ρ1,e1,e2⟩:=awq em;exact⟨tg,F,ρ,ρ1,a,G,ea,hB,e1,fun σ' H' F' G' ea' hB' x=>⟨tg,F',ρ1,ρ',a,G',ea',hB',e2,fun σ2 H2 F2 G2 ea2 hB2 x2=>q σ2 H2 F2 G2 ea2 hB2 (x.trans x2)⟩⟩
theorem aws{tg:Nat->Addr}{F H:Hp}{ρ:Ro}{σ:L2.St}{fs:BF}{l:List D}{a b:Addr}(G:Good K tg F H ρ σ)(hb:(ρ:List Sl).all tagB=true)(hn:¬Own ρ σ b)(bx:awl K F H c fs l a b) :
  ∃tg1,(∀m,m < 1000->tg1 m=tg m)/\tg1 1000=b/\Good K tg1 F H (List.set (List.set ρ i (.box c (rtg 1000 fs))) j (.own (some 1000) l)) (List.set (List.set σ i (some (V.ref a))) j (some (V.ref b))) /\
   ∀z,Own (List.set (List.set ρ i (.box c (rtg 1000 fs))) j (.own (some 1000) l)) (List.set (List.set σ i (some (V.ref a))) j (some (V.ref b))) z->Own ρ σ z∨z=b:=by
 obtain⟨b1,b2,b3,ws,b4,b5⟩:=bx;refine⟨fun m=>if m < 1000 then tg m else b,fun m hm=>by simp[hm],by simp,?_⟩
 have Gt:=G.retag (tg1:=fun m=>if m < 1000 then tg m else b) hb (fun m hm=>by simp[hm])
 have Gi:=Gt.put (s:=.box c (rtg 1000 fs)) (v:=.ref a) i (SlOk.rtgC b1 (by simp)) (fun t l a z=>by cases z)
 have ob:∀z,Own (List.set ρ i (.box c (rtg 1000 fs))) (List.set σ i (some (V.ref a))) z->Own ρ σ z:=fun z hz=>by
  rcases ae9 G.len hz with w | ⟨⟨t,l,w⟩,_⟩
  ·exact w
  ·cases w
 refine⟨Gi.put (s:=.own (some 1000) l) (v:=.ref b) j ⟨b,ws,rfl,b3,b4,b5,fun k' ek=>by cases ek;simp⟩ (fun t l' a' _ ea w=>by cases ea;exact hn (ob _ w)),fun z hz =>?_⟩
 rcases ae9 Gi.len hz with w | ⟨_,w⟩
 ·exact .inl (ob z w)
 ·cases w;exact .inr rfl
theorem aw9{σ:L2.St}{a b:Addr}(hgh:∀y,X.N[j]? = some y->¬Vis X.env.scope y):GH X (List.set σ i (some (V.ref a))) (List.set (List.set σ i (some (V.ref a))) j (some (V.ref b))):=⟨by rw[List.length_set],fun n y v hn hv vis=>by
 rw[List.getElem?_set] at hv
 by_cases q:j=n
 ·subst q;exact absurd vis (hgh y hn)
 ·rw[if_neg q] at hv;exact hv⟩
theorem aua(hN:X.N.Nodup)(hi:X.N[i]? = some x)(hx:Loc X.env.scope x)(h:ES K X c e m)(t:SRs K X i ss k)(hgh:∀y,X.N[j]? = some y->¬Vis X.env.scope y)
  (hs:swapsWith e (some (.Name x p)) pos.line X.env=pure false:=by rfl) (hf:X.fn x=true∨X.env.scope.names.lookup x=some .local:=by first | exact .inl rfl | exact .inr rfl | assumption) :
  SF K X c (.Assign [.Name x p] e pos::ss) (an8 c i j m k):=SF.mk fun hk=>PSs.imp (lr (ag0 hN hi hx (h.go hk) hs hf) (aqm (t.go hk))) fun E σ H z9=>by
 obtain⟨tg,F,ρ,fs2,l2,G,hno,em,q⟩:=z9;unfold an8 at em;split at em
 ·rename_i fs l ρ1 e1;split at em
  ·rename_i hz;obtain⟨hb,hij,hlt⟩:=hz;split at em
   ·rename_i ρ' e2;split at em
    ·rename_i c2 fs3 l3 e3 e4;split at em
     ·rename_i hz2;obtain⟨rfl,hik⟩:=hz2;cases em;refine⟨tg,F,ρ,fs,l,ρ1,G,e1,fun a b H1 F1 G1 x1 ha hbb hnb bx =>?_⟩
      obtain⟨tg1,ht,ht1,Gj,ow⟩:=aws (i:=i) (j:=j) G1 hb hnb bx;have hBn:Bnd H1 a:=bx.2.1;have hlt2:i < σ.length:=by rw[<-G1.len];exact hlt
      refine⟨_,aw9 (b:=b) hgh,tg1,F1,_,ρ',a,Gj,?_,hBn,e2,fun σ' H' F' G' ea' hB' x' =>?_⟩
      ·rw[List.getElem?_set,if_neg (Ne.symm hij),List.getElem?_set,if_pos rfl,if_pos hlt2]
      obtain⟨oi,hoi,hbx'⟩:=G'.at e3;rw[ea'] at hoi;cases hoi;obtain⟨oj,hoj,b2,ws2,rfl,hf2,hh2,hl2,ht2⟩:=G'.at e4;have hb2:b=b2:=ht1.symm.trans (ht2 1000 rfl);subst hb2;have hb0:H b=none:=hbb.elim (fun w=>absurd w (hno b)) id
      have hO:∀z,Oi (List.set (List.set ρ1 i (.box c2 (rtg 1000 fs))) j (.own (some 1000) l)) (List.set (List.set σ i (some (V.ref a))) j (some (V.ref b))) a z->H z=none:=fun z w=>by
       rcases w with w | w
       ·rcases ow z w with w | w
        ·exact(x1.own z w).elim (fun w=>absurd w (hno z)) id
        ·subst w;exact hb0
       ·subst w;exact ha
      refine q a b H' F' G'.sub (x1.sub.trans x'.sub) (fun z o w =>?_) (fun z o w =>?_) ha hb0 ⟨SlOk.cst hbx' hik ht1,hB',hf2,ws2,hh2,hl2⟩
      ·rcases x'.new z o w with w | w | w
       ·rcases x1.new z o w with w | w | w
        ·exact .inl w
        ·exact .inr w
        ·exact absurd w (hno z)
       ·exact .inr (x1.there z w)
       ·exact .inr (hO z w)
      ·refine x'.keep z o (x1.keep z o w (hno z)) fun w2 =>?_
       rw[hO z w2] at w;cases w
     ·cases em
    ·cases em
   ·cases em
  ·cases em
 ·cases em
theorem a3n{P:Program}{w:World}{mg:Str->Option Value}{base:Heap}{qual:Str}{st:Stmt}{f:Addr}{fd:FuncData}{N ps:List Str}{kk nl np:Nat}{g:Ro->Option (BF×List D)}(F:Fun K x qual st f fd)(S:FnScope N ps (aa st))(h1:N.length=nl)(h2:ps.length=np)
  (body:∀(cdv:Value) (A:Around) (outer:List Env) (s:Shared) (H:Hp) (E:XK),Room kk (A.deeper (envOfC qual (aa st) s.heap.objs.size f cdv))->SF K (cxOf CX0 P w K mg base N qual (aa st) f cdv A outer s H E).nox c (ig st) g) :
  FnOk P w K mg base CX0 (kk+1) f fd ps (ap6 K np c (strD nl np g)):=by
 subst h1 h2;refine F.ok S (fun vs H Q E h=>h.1) (fun cdv A outer s H vs Q E hr h=>⟨_,(body cdv A outer s H E hr).go rfl,?_⟩)
 obtain⟨hn,F,as,fs,l,G,hv,em,q⟩:=h;have hl:as.length=(vs.map some).length:=G.len;have G1:=G.app (N.length - vs.length);unfold strD at em;rw[<-hn] at em;refine⟨_,F,_,fs,l,G1,fun z w =>?_,em,q⟩
 have w:Own (as++List.replicate (N.length - vs.length) .emp) (vs.map some++List.replicate (N.length - vs.length) none) z:=w;rw[yl hl] at w;obtain⟨n,⟨t,l',e⟩,_⟩:=w;have:=List.all_eq_true.mp hv _ (List.mem_of_getElem? e);cases this
theorem axr(hN:X.N.Nodup)(hi:X.N[i]? = some x)(hx:Loc X.env.scope x)(h:ES K X c e m)(t:SVs K X ss k)(hgh:∀y,X.N[j]? = some y->¬Vis X.env.scope y)
  (hs:swapsWith e (some (.Name x p)) pos.line X.env=pure false:=by rfl) (hf:X.fn x=true∨X.env.scope.names.lookup x=some .local:=by first | exact .inl rfl | exact .inr rfl | assumption) :
  SVs K X (.Assign [.Name x p] e pos::ss) (dGot c i j m k):=SVs.mk fun hk=>PSs.imp (lr (ag0 hN hi hx (h.go hk) hs hf) (aqm (t.go hk))) fun E σ H z9=>by
 obtain⟨tg,F,ρ,fl,ρ',G,em,q⟩:=z9;unfold dGot at em;split at em
 ·rename_i fs l ρ1 e1;split at em
  ·rename_i hz;obtain⟨hb,hij⟩:=hz;split at em
   ·rename_i fl' ρ4 e4;split at em
    ·rename_i hb4;cases em;refine⟨tg,F,ρ,fs,l,ρ1,G,e1,fun a b H1 F1 G1 x1 ha hbb hnb bx =>?_⟩
     obtain⟨tg1,ht,ht1,Gj,ow⟩:=aws (i:=i) (j:=j) G1 hb hnb bx;refine⟨_,aw9 (b:=b) hgh,tg1,F1,_,_,ρ4,Gj,e4,FlOk.off ht hb4 (FlOk.back ⟨x1.sub,x1.new,x1.keep,fun z w =>?_,x1.there⟩ q)⟩
     rcases ow z w with w | w
     ·exact x1.own z w
     ·subst w;exact hbb
    ·cases em
   ·cases em
  ·cases em
 ·cases em
theorem eg_f{c f:Str}{js:List (Option Nat)}{ms:M (List (Option D))}(hc:FldT K c f)(h:PE X o (tVar i))(t:EG K X es js ms)(hb:attributeBase o f X.env (eval o X.env)=eval o X.env:=by rfl)(hs:starEach (.Attribute o f pos::es) X.env=(false,eval (.Attribute o f pos) X.env)::starEach es X.env:=by rfl) :
  EG K X (.Attribute o f pos::es) (some j::js) ((mLnk c i f j).bind fun _=>b8 j ms):=EG.mk fun hk=>by
 subst hk;refine PA.imp (zq (a1o h hb) (t rfl) hs) fun σ H Q z9 =>?_
 obtain⟨tg,F,ρ,ds,ρ',G,em,q⟩:=z9;obtain⟨u,ρ9,e9,em1⟩:=au em;obtain⟨rfl,a,C,dx,fvs,v,h1,h2,h3,h4,h5,h6⟩:=a2r G hc e9;obtain⟨d0,ρ0,e0,em2⟩:=au em1;obtain⟨r,ρ2,e2,em3⟩:=au em2;obtain⟨rfl,rfl⟩:=jh em3;obtain⟨rfl,v',hv',_⟩:=uh G e0;rw[h6] at hv';cases hv';exact⟨_,h1,a,C,dx,fvs,v,rfl,h2,h3,h4,h5,tg,F,ρ0,r,_,G,e2,fun vs H2 F2 G2 x2 r2=>q _ H2 F2 G2 x2 (.nm h6 r2)⟩
end
theorem axa{N:List Str}{j:Nat}{sc:Scope}(h:ghB N [j] sc=true):∀y,N[j]? = some y->¬Vis sc y:=a7q h j (List.mem_cons_self ..)
end Dn
namespace Mn
open L2
theorem aui{X:Cx}{tg iter elt:Expr}{ifs:List Expr}{scope:Scope}{cpos pos px:Pos}{wi:TI}{g:TG}{ti:TT}{te:TE}{i:Nat}{x:Str}(y:Str)(fr N:List Str)(src:List (Option Nat))(hN:X.N.Nodup)(hxi:X.N[i]? = some x)(hx:Loc X.env.scope x)(hc:X.calm=true)(hi:PI X tg iter wi)
  (hg:∀fp s H,PG (cxY y X N scope fr fp s H) tg g) (ht:∀fp s H,PIf (cxY y X N scope fr fp s H) ifs ti) (he:∀fp s H,PE (cxY y X N scope fr fp s H) elt te)
  (hsw:swapsWith (.ListComp elt [⟨tg,iter,ifs,0⟩] scope cpos) (some (.Name x px)) pos.line X.env=pure true:=by rfl)
  (hok:aef y X.env X.N scope fr N src=true:=by rfl) (hcf:∀a l,cellsFrom a scope.names l=(y,a)::l:=by intro _ _;rfl) (hkind:scope.kind=.function:=by rfl) (hclos:closureFor scope X.env=pure (mq X.env fr):=by rfl)
  (hs:∀x,foldedSetIterable iter X.env x=pure x:=by intro _;rfl) (hf:X.fn x=true∨X.env.scope.names.lookup x=some .local:=by first | exact .inl rfl | exact .inr rfl | assumption) :
  PS X (.Assign [.Name x px] (.ListComp elt [⟨tg,iter,ifs,0⟩] scope cpos) pos) (tAsg (ap3 wi g ti te src) (avt i)):=by
 have C:=CompOkY.of hok;intro qv s σ H D I h;rw[exec_Assign_Name_used _ _ _ _ hsw];refine wpAny_bind (wpAny_standAt (wpAny_bind ?_));show wpAny _ _ (comprehension (.ListComp elt [⟨tg,iter,ifs,0⟩] scope cpos) scope X.env (firstIterPos [⟨tg,iter,ifs,0⟩] cpos) (newList []) (firstAsync [⟨tg,iter,ifs,0⟩]) (firstIter [⟨tg,iter,ifs,0⟩] X.env) (some (assign (.Name x px) X.env)) >>= fun _=>pure ()) _ _ _
 refine wpAny_bind (wpAny_comprehension_free (use:=some (assign (.Name x px) X.env)) (Q:=fun _ s'=>wpAny (model X.prog X.w) X.A (pure ()) (fun _ s''=>wpAny (model X.prog X.w) X.A (pure Flow.next) (SP X qv D) X.xe s'') X.xe s') rfl hs hclos hkind C.loc (wpAny_mono (hi qv s σ H _ I h) (fun v s1 h1=>wpAny_mono h1 (fun itv s2 h2 =>?_) fun _ _ e=>e) fun _ _ e=>e))
 obtain⟨it,fp,tn,J,H2,e,I2,T,st2,f2,q2⟩:=h2;subst e;have hd0:H2 s2.heap.objs.size=none:=I2.hok.fresh (Nat.le_refl _);obtain⟨W,⟨m0,w0⟩,turn⟩:=q2 s2.heap.objs.size hd0;refine wpAny_newObj_type ?_;generalize hs3:({ s2 with heap:=s2.heap.push { cls:=.type "list", dict:=none,data:=.seq ([]:List Value).toArray } }:Shared)=s3
 have keep2:∀b o,s2.heap.get? b=some o->s3.heap.get? b=some o:=fun b o e=>by rw[<-hs3];exact Heap.get?_push_of_some _ e
 have I3:Inv X qv σ (upd H2 s2.heap.objs.size (.lst [])) s3:=by
  rw[<-hs3];exact I2.laid (t':=s2.toks) (fun b u q=>Heap.get?_push_of_some _ q) (Nat.le_refl _) ⟨Nat.zero_le _,[],0,.nil,Heap.get?_push_size _ rfl⟩
 have ne0:∀b∈fp,b≠s2.heap.objs.size:=fun b hb=>by
  obtain⟨o,e,_⟩:=T.obj _ _ st2 b hb;exact Nat.ne_of_lt (Heap.lt_size e)
 have f3:∀b∈fp,FpOk X qv (upd H2 s2.heap.objs.size (.lst [])) b:=fun b hb=>⟨by rw[bc (ne0 b hb)];exact(f2 b hb).1,(f2 b hb).2⟩
 have lt3:∀b∈fp,b < s3.heap.objs.size:=fun b hb=>by
  obtain⟨o,e,_⟩:=T.obj _ _ st2 b hb;exact Heap.lt_size (keep2 b o e)
 refine kh ?_;rw[hcf];have ok:=cellsFrom_ok scope.names (s3.heap.push { cls:=.type "dict", data:=.dict #[] }) (s3.heap.objs.size+1) [] ⟨fun _ _ hm=>(nomatch hm),List.Pairwise.nil⟩ (by rw[Heap.size_push];exact Nat.le_refl _)
 rw[Heap.size_push,hcf] at ok;have hns₁:=(Heap.Ns.new s3.heap (.type "dict")).keeps (pushCells_keeps scope.names _);have keep3:∀b o,s3.heap.get? b=some o->(pushCells (s3.heap.push { cls:=.type "dict", data:=.dict #[] }) scope.names).get? b=some o:=fun b o e=>pushCells_keeps _ _ b o (Heap.get?_push_of_some _ e)
 have hcl:=(ok.empty y (s3.heap.objs.size+1) List.mem_cons_self).1;generalize pushCells (s3.heap.push { cls:=.type "dict", data:=.dict #[] }) scope.names=h₁ at hns₁ keep3 hcl ⊢
 have st4:tn 0 h₁:=T.keep _ _ _ st2 fun b hb o e=>keep3 b o (keep2 b o e)
 have I4:=ajz (tk:=s3.toks) I3 C hkind f3 lt3 hns₁ keep3 hcl;have loop:=adn (X:=cxY y X N scope fr fp s3 (upd H2 s2.heap.objs.size (.lst []))) (iter:=iter) (scope:=scope) (pos:=cpos) (d:=s2.heap.objs.size) (Q:=fun v H1=>D.nx (σ.set i (some v)) H1)
  (R:=compPost (model X.prog X.w) X.A X.xe (some (assign (.Name x px) X.env)) (fun _ s'=>wpAny (model X.prog X.w) X.A (pure ()) (fun _ s''=>wpAny (model X.prog X.w) X.A (pure Flow.next) (SP X qv D) X.xe s'') X.xe s') (.ref s2.heap.objs.size) s3.heap.objs.size) hc rfl T
  (fun H' hn b hb=>⟨hn b hb,Nat.ne_of_lt (lt3 b hb),I4.ok.exfs b hb,.inl hb,(I4.ok.exf b hb).2,fun p hp=>absurd (show p∈([]:List (Addr×Obj)) from hp) (by simp)⟩)
  (hg fp s3 _) (ht fp s3 _) (he fp s3 _) turn w0 I4 st4 (fun b hb=>(f3 b hb).1) (fun σ' H' s' I6 qn=>by
   obtain⟨m6,hn6,_⟩:=I6.loc;have fC:FpOk X qv H' s3.heap.objs.size:=I3.fpOk (Nat.le_refl _) I6.free;have I7:Inv X qv σ H' s':=aj0 I3 f3 I6 (Heap.SameBut.refl ..);refine wpAny_assign_Name (aey I7 hN hxi hx (v:=.ref s2.heap.objs.size) rfl (fun s8 I8 ⟨a,sb,ha⟩ =>?_) hf)
   have hne:s3.heap.objs.size≠a:=by
    rcases ha with rfl | ha
    ·exact fC.2.1
    ·exact(fC.2.2.2.2.1 x a ha).symm
   obtain⟨o6,es6,ep6,g6,r6⟩:=hn6;refine⟨m6,⟨o6,es6,ep6,(sb.2 _ hne).trans g6,r6⟩,fun h9 sb9=>wpAny_pure (wpAny_pure ⟨_,H',?_,qn⟩)⟩
   exact I8.turned (t':=s8.toks) (it:=s3.heap.objs.size) (fun b o hb e=>(sb9.2 b hb).trans e) fC.1 fC.2.1 fC.2.2.2.1 fC.2.2.2.2.1 fC.2.2.2.2.2)
 exact codeAny_compStart_list loop (T.self _ 0 _ _ _ st4 loop)
end Mn
namespace Dn
open L2 Mn
theorem atw{K:Fg9}{X:Cx}{tgt iter elt:Expr}{pos p:Pos}{i:Nat}{x:Str}{ifs:List Expr}{scope:Scope}{cpos:Pos}{mi:M (List D)}{bb:D->Ro->Option Ro}{mc:M Bool}{me:M D}(y:Str)(fr N:List Str)(src:List (Option Nat))(hN:X.N.Nodup)(hxi:X.N[i]? = some x)(hx:Loc X.env.scope x)(hc:X.calm=true)(hi:IT K X tgt iter mi)
  (hg:∀fp s H,GV K (cxY y X N scope fr fp s H) tgt bb) (ht:∀fp s H,EIf K (cxY y X N scope fr fp s H) ifs mc) (he:∀fp s H,EV K (cxY y X N scope fr fp s H) elt me)
  (hsw:swapsWith (.ListComp elt [⟨tgt,iter,ifs,0⟩] scope cpos) (some (.Name x p)) pos.line X.env=pure true:=by rfl)
  (hok:aef y X.env X.N scope fr N src=true:=by rfl) (hcf:∀a l,cellsFrom a scope.names l=(y,a)::l:=by intro _ _;rfl) (hkind:scope.kind=.function:=by rfl) (hclos:closureFor scope X.env=pure (mq X.env fr):=by rfl)
  (hs:∀x,foldedSetIterable iter X.env x=pure x:=by intro _;rfl) (hf:X.fn x=true∨X.env.scope.names.lookup x=some .local:=by first | exact .inl rfl | exact .inr rfl | assumption) :
  SV K X (.Assign [.Name x p] (.ListComp elt [⟨tgt,iter,ifs,0⟩] scope cpos) pos) (dSet i (tu src mi bb mc me)):=SV.mk fun hk=>by
 have hkc:∀fp s H,(cxY y X N scope fr fp s H).K=K:=fun _ _ _=>hk
 refine PS.imp (aui y fr N src hN hxi hx hc (hi hk) (fun fp s H=>(hg fp s H).go (hkc _ _ _)) (fun fp s H=>(ht fp s H).go (hkc _ _ _)) (fun fp s H=>(he fp s H).go (hkc _ _ _)) hsw hok hcf hkind hclos hs hf) fun E σ H z9 =>?_
 obtain⟨tg,F,ρ,fl,ρ',G,em,q⟩:=z9;refine qu em q fun r ρ1 e1 em =>?_
 cases em;refine aet σ H _ ⟨tg,F,ρ,r,ρ1,G,e1,fun v H' F' G' x rr =>?_⟩
 obtain⟨G2,x2⟩:=G'.store x i rr;exact q _ H' F' G2 x2
end Dn
end
namespace Dn
open PySem L2
@[simp] abbrev gL9(d:D):Option Rv:=(itemsD d).map fun l=>.v (.int l.length)
@[simp] abbrev gT9(d:D):Option Rv:=(itemsD d).map fun l=>.v (.tup l)
end Dn
namespace My
open PySem L2 Mn Dn
def ag7:Sd :=
 (dRet (M.v (mAnd (mIsi .int (di 0)) (mUn gNot (mIsi .bool (di 0))))))
def yx:Fd:=fnD 1 1 ag7
def yq:Sd :=
 (dRet (M.v (mAnd (M.d (mFn yx [some 0] (b8 0 gn))) (ajr (fun i j=>decide (i<=j)) (fun i j=>decide (i<=j)) (mVar 1) (mVar 0) (mVar 2)))))
def ir:Fd:=fnD 3 3 yq
def yt:Sd :=
 (dRet (M.v (mAnd (mIsi .tuple (di 0)) (ajr (fun i j=>decide (i<=j)) (fun i j=>decide (i<=j)) (mVar 1) (M.d (gq (g1 gL9) (dq 0 mNil))) (mVar 2)))))
def jo:Fd:=fnD 3 3 yt
def aaf:Sd :=
 (dRet (mFn ir [none,none,none] (bf (mVar 1) (bf (ret (.int 0)) (bf (M.d (mOp (gInt fSub) (jb (M.d (gq (g1 gL9) (dq 0 mNil))) (ret (.int 1))))) gn)))))
def jw:Fd:=fnD 2 2 aaf
def ut:Sd :=
 (dIf (afi (aai (M.d (mFn jw [some 0,none] (b8 0 (bf (mVar 1) gn)))))) (fun _=>none) dNx)
def fj:Fd:=fnD 2 2 ut
def u9:Sd :=
 (dIf (ay3 (ou (gCmp fun i j=>decide (j<=i)) (cu 5 (ret (.int 0)))) (ou (gIn true) (cu 5 (di 2)))) (adm (M.v (mMut 2 vy (bw (mVar 5) mNil)))) dNx)
def ye:M Bool :=
 (ou (gCmp fun i j=>decide (i < j)) (cu 3 (M.d (gq (g1 gL9) (dq 2 mNil)))))
def aba:Sd :=
 (dSeq (dSet 4 (mOp gIx (cu 0 (M.d (mOp gIx (cu 2 (di 3))))))) (dSeq (dFor (ph (mVar 4)) (bj 5) u9) (dAug (fun i j=>i+j) 3 (ret (.int 1)))))
def aj7:Sd :=
 (dSeq (adm (mFn fj [some 0,none] (b8 0 (bf (mVar 1) gn)))) (dSeq (dSet 2 (mLst (bw (mVar 1) mNil))) (dSeq (dSet 3 (M.v (ret (.int 0)))) (dSeq (whileD ye aba fuel) (dRet (gq (g1 gT9) (bw (M.d (gq (g1 aik) (dq 2 mNil))) mNil)))))))
def uc:Fd:=fnD 6 2 aj7
def abl:M D :=
 (M.d (mOp (gCmp fun i j=>decide (j<=i)) (jb (M.d (gq (g1 azh) (dq 0 mNil))) (ret (.int 0)))))
def aj6:Sd :=
 (dRet (gq (g1 gAll) (bw (M.d (tu [none] (ph (mVar 0)) (bj 0) (ret true) abl)) mNil)))
def aaz:Fd:=fnD 1 1 aj6
def yo:Sd :=
 (dIf (afi (aai (M.d (mFn aaz [none] (bf (mVar 0) gn))))) (fun _=>none) dNx)
def jm:Fd:=fnD 1 1 yo
def aa1:M D :=
 (M.d (mFn ir [some 0,none,none] (b8 0 (bf (ret (.int 0)) (bf (M.d (mOp (gInt fSub) (jb (M.d (gq (g1 gL9) (dq 1 mNil))) (ret (.int 1))))) gn)))))
def afv:Sd :=
 (dSeq (dIf (afi (aai (M.d (mFn jo [some 1,none,none] (b8 1 (bf (M.d (gq (g1 gL9) (dq 0 mNil))) (bf (M.d (gq (g1 gL9) (dq 0 mNil))) gn))))))) (dRet (M.v (ret (.bl false)))) dNx) (dRet (gq (g1 gAll) (bw (M.d (tu [none,none] (mGet al4 (bw (mVar 1) (bw (mVar 0) mNil))) (bTup 2 (jg (bj 0) (jg (bj 1) bNil))) (ret true) aa1)) mNil))))
def vz:Fd:=fnD 2 2 afv
def wy:Sd :=
 (dIf (afi (aai (M.d (mFn vz [none,none] (bf (mVar 0) (bf (mVar 1) gn)))))) (fun _=>none) dNx)
def jd:Fd:=fnD 2 2 wy
def aiu:M D :=
 (M.d (mOp gIx (jb (M.d (mOp gIx (cu 1 (di 2)))) (di 0))))
def aes:M D :=
 (M.d (tu [none,some 1,some 0] (ph (mVar 2)) (bj 0) (ret true) aiu))
def ar5:Sd :=
 (dRet (tu [none,some 0,some 1] (ph (mVar 1)) (bj 0) (ret true) aes))
def afz:Fd:=fnD 2 2 ar5
def ab9:Sd :=
 (dIf (ou (gEq true) (jb (M.d (mOp gIx (jb (M.d (mOp gIx (cu 0 (di 2)))) (di 1)))) (ret (.int 0)))) (dRet (aif 2)) dNx)
def ag6:Sd :=
 (dSeq (dFor (mGet aim (bw (mVar 1) (bw (M.d (gq (g1 gL9) (dq 0 mNil))) mNil))) (bj 2) ab9) (dRet (M.v (ret .non))))
def yw:Fd:=fnD 3 2 ag6
def aed:M D :=
 (M.d (gq (g1 fun d=>(itemsD d).map fun l=>.fr l) (dq 0 mNil)))
def apf:M D :=
 (mUn gNeg (mVar 0))
def aj5:Sd :=
 (dSeq (dSet 3 (tu [none] (ph (mVar 0)) (bj 0) (ret true) aed)) (dSeq (dIf (ou (gEq true) (cu 1 (di 2))) (dSeq (dSub 3 (mVar 1) (M.d (gq (g1 fun d=>(itemsD d).map fun l=>.fr l) (bw (M.d (mOp gIx (cu 0 (di 2)))) mNil)))) (dSub 3 (mVar 2) (M.d (tu [none] (ph (M.d (mOp gIx (cu 0 (di 1))))) (bj 0) (ret true) apf)))) dNx) (dRet (aif 3))))
def aay:Fd:=fnD 4 3 aj5
def abm:M D :=
 (M.d (mOp (gInt fDiv) (jb (M.d (mOp (gInt fSub) (jb (M.d (mOp gMul (jb (M.d (mOp gIx (cu 3 (di 5)))) (di 0)))) (M.d (mOp gMul (jb (M.d (mOp gIx (cu 2 (di 5)))) (di 1))))))) (di 4))))
def abi:Sd :=
 (dIf (ou (gEq false) (cu 5 (di 1))) (adm (M.v (mMut 4 vy (bw (M.d (gq (g1 fun d=>(itemsD d).map fun l=>.fr l) (dq 3 mNil))) mNil)))) (adm (M.v (mMut 4 vy (bw (M.d (tu [none,none,some 6,some 3,some 2,some 1] (mGet al4 (bw (mVar 6) (bw (mVar 3) mNil))) (bTup 2 (jg (bj 0) (jg (bj 1) bNil))) (ret true) abm)) mNil)))))
def aj8:Sd :=
 (dSeq (dSet 3 (mOp gIx (cu 0 (di 1)))) (dSeq (dSet 4 (mLst mNil)) (dSeq (dFor (mGet avx (bw (mVar 0) mNil)) (bTup 2 (jg (bj 5) (jg (bj 6) bNil))) abi) (dRet (aif 4)))))
def aa0:Fd:=fnD 7 3 aj8
def adh:M D :=
 (M.d (mOp gAdd (jb (M.d (gq (g1 fun d=>(itemsD d).map fun l=>.fr l) (dq 0 mNil))) (M.d (mLst (bw (mVar 1) mNil))))))
def ac2:Sd :=
 (dSeq (dSet 5 (mFn yw [some 2,none] (b8 2 (bf (mVar 4) gn)))) (dSeq (dIf (aai (mIsN false (di 5))) (dRet (M.v (ret .non))) dNx) (dSeq (dSet 2 (mFn aay [none,none,none] (bf (mVar 2) (bf (mVar 4) (bf (mVar 5) gn))))) (dSeq (dSet 2 (mFn aa0 [none,some 4,some 3] (bf (mVar 2) (b8 4 (b8 3 gn))))) (dSet 3 (mOp gIx (jb (M.d (mOp gIx (cu 2 (di 4)))) (di 4))))))))
def af2:M D :=
 (M.d (mOp gIx (cu 0 (M.d (gq (g1 gL9) (dq 1 mNil))))))
def anw:Sd :=
 (dSeq (dSet 2 (tu [none,none] (mGet al4 (bw (mVar 0) (bw (mVar 1) mNil))) (bTup 2 (jg (bj 0) (jg (bj 1) bNil))) (ret true) adh)) (dSeq (dSet 3 (M.v (ret (.int 1)))) (dSeq (dFor (mGet nq (bw (M.d (gq (g1 gL9) (dq 0 mNil))) mNil)) (bj 4) ac2) (dRet (M.v (mTup (bw (M.d (tu [none,some 0] (ph (mVar 2)) (bj 0) (ret true) af2)) (bw (mVar 3) mNil))))))))
def adc:Fd:=fnD 6 2 anw
def ac8:Sd :=
 (dSeq (dSet 1 (mFn adc [none,none] (bf (mVar 0) (bf (M.d (mOp gMul (jb (M.d (mLst (bw (ret (.int 0)) mNil))) (M.d (gq (g1 gL9) (dq 0 mNil)))))) gn)))) (dRet (mIf (aai (mIsN false (di 1))) (M.v (ret (.int 0))) (mOp gIx (cu 1 (ret (.int 1)))))))
def ju:Fd:=fnD 2 1 ac8
def qd:M Bool :=
 (ou (gEq true) (cu 3 (ret (.int 0))))
def qb:Sd :=
 (dSeq (dSet 4 (mOp (gInt fMod) (cu 1 (di 3)))) (dSeq (dSet 1 (M.v (mVar 3))) (dSet 3 (M.v (mVar 4)))))
def l1_common_divisor:Sd :=
 (dSeq (dSet 3 (gq (g1 gAbs) (dq 2 mNil))) (whileD qd qb fuel))
def aag:Sd :=
 (dSeq (dSet 1 (M.v (ret (.int 0)))) (dSeq (dFor (ph (mVar 0)) (bj 2) l1_common_divisor) (dRet (aif 1))))
def jx:Fd:=fnD 5 1 aag
def wk:M D :=
 (mUn gNeg (aq6 1 (bw (mVar 0) mNil)))
def l1_doors_square:Sd :=
 (dSeq (dSet 4 (tu [none,some 3] (mGet nq (bw (M.d (gq (g1 gL9) (dq 0 mNil))) mNil)) (bj 0) (ret true) wk)) (dSeq (amc (fun i j=>i+j) 4 (mVar 2) (M.d (gq (g1 gL9) (dq 3 mNil)))) (adm (M.v (mMut 1 vy (bw (mVar 4) mNil))))))
def abx:Sd :=
 (dSeq (dSet 1 (mLst mNil)) (dSeq (dFor (mGet avx (bw (mVar 0) mNil)) (bTup 2 (jg (bj 2) (jg (bj 3) bNil))) l1_doors_square) (dRet (aif 1))))
def lq:Fd:=fnD 5 1 abx
def yp:Sd :=
 (dSeq (adm (mFn jd [none,none] (bf (mVar 0) (bf (mVar 1) gn)))) (adm (mFn fj [some 0,none] (b8 0 (bf (mVar 2) gn)))))
def jn:Fd:=fnD 3 3 yp
def ar6:Sd :=
 (dSeq (dSet 3 (mOp gIx (cu 1 (di 2)))) (dSeq (dSub 1 (mVar 2) (M.d (mOp (gInt fMod) (jb (M.d (mOp gAdd (cu 3 (ret (.int 1))))) (M.d (gq (g1 gL9) (bw (M.d (mOp gIx (cu 0 (di 2)))) mNil))))))) (dRet (mOp gIx (jb (M.d (mOp gIx (cu 0 (di 2)))) (di 3))))))
def acf:Fd:=fnD 4 3 ar6
def pq:Sd :=
 (dSeq (adm (mFn jn [none,none,none] (bf (mVar 0) (bf (mVar 1) (bf (mVar 2) gn))))) (adm (mFn jm [none] (bf (mVar 0) gn))))
def gb:Fd:=fnD 3 3 pq
def aa6:M Bool :=
 (ou (gIn true) (cu 1 (M.d (mFn uc [some 2,some 0] (b8 2 (b8 0 gn))))))
def aa2:M D :=
 (mVar 0)
def afw:Sd :=
 (dRet (tu [none,some 1,some 0] (ph (M.d (mFn uc [some 0,none] (b8 0 (bf (mVar 1) gn))))) (bj 0) aa6 aa2))
def wg:Fd:=fnD 2 2 afw
def jj:M Bool :=
 (ou (gIn true) (jb (mFV "Stroll" 0 "place") (di 1)))
def ji:Sd :=
 (dSeq (dFld "Stroll" 0 "place" (M.d (mFn acf [none,some 2,none] (bf (mFV "Stroll" 0 "house") ((mLnk "Stroll" 0 "turning" 2).bind fun _=>b8 2 (bf (mFV "Stroll" 0 "place") gn)))))) (aix "Stroll" 0 "steps" (ret (.int 1))))
def dj:Sd :=
 (whileD jj (akj ji) fuel)
def abj:List (Str×M Rv) :=
 [("house", (M.v (mVar 1))),("turning", (gq (g1 fun d=>(itemsD d).map fun l=>.fr l) (dq 2 mNil))),("place", (M.v (mVar 3))),("steps", (M.v (ret (.int 0))))]
def jl:M Bool :=
 (ou (gEq false) (jb (M.d (mFn wg [some 1,some 0] (b8 1 (b8 0 gn)))) (M.d (mLst mNil))))
def jk:M D :=
 (mVar 0)
def vq:Ro->Option (BF×List D) :=
 (an8 "Stroll" 3 4 (aq5 4 4 abj [some 0,some 1,some 2] (b8 0 (b8 1 (b8 2 gn)))) (dSeq (av6 "Stroll" "go_till_in" 3 4 3 dj (M.d (tu [none,some 0] (mGet nq (bw (M.d (gq (g1 gL9) (dq 0 mNil))) mNil)) (bj 0) jl jk))) dNx))
def gk:Ro->Option (BF×List D):=strD 5 3 vq
def xu:M Bool :=
 (ou (gEq true) (cu 0 (di 1)))
def xn:M D :=
 (mVar 0)
def qz:M D :=
 (M.d (mFn ju [none] (bf (M.d (mFn afz [some 1,none] (b8 1 (bf (M.d (tu [none,some 0] (ph (mVar 2)) (bj 0) xu xn)) gn)))) gn)))
def qy:Sd :=
 (dSub 5 (mVar 6) (M.d (mOp (gInt fDiv) (cu 7 (di 4)))))
def ac7:Sd :=
 (dSeq (dSet 2 (mFn lq [none] (bf (mVar 0) gn))) (dSeq (dSet 3 (tu [none,some 2,some 1] (ph (mVar 1)) (bj 0) (ret true) qz)) (dSeq (dSet 4 (mFn jx [none] (bf (mVar 3) gn))) (dSeq (dSet 5 (mOp gMul (jb (M.d (mLst (bw (ret (.int 0)) mNil))) (M.d (gq (g1 gL9) (dq 0 mNil)))))) (dSeq (dFor (mGet al4 (bw (mVar 1) (bw (mVar 3) mNil))) (bTup 2 (jg (bj 6) (jg (bj 7) bNil))) qy) (dRet (gq (g1 gT9) (dq 5 mNil))))))))
def j8:Fd:=fnD 8 2 ac7
def ag5:Sd :=
 (dSeq (adm (mFn gb [none,none,none] (bf (mVar 0) (bf (mVar 1) (bf (mVar 2) gn))))) (dGot "Stroll" 3 4 (ajq gk [some 0,some 1,some 2] (b8 0 (b8 1 (b8 2 gn)))) (dRet (mFn j8 [none,none] (bf (mVar 0) (bf (M.d (mFn uc [some 0,none] (b8 0 (bf (mFV "Stroll" 3 "place") gn)))) gn))))))
def yu:Fd:=fnD 5 3 ag5
def ace:Sd :=
 (dSeq (dIf (ou (gCmp fun i j=>decide (i < j)) (cu 1 (M.d (gq (g1 gL9) (dq 0 mNil))))) (dRet (mOp gIx (cu 0 (di 1)))) dNx) (dRet (M.v (ret (.int 0)))))
def f__law_cell:Fd:=fnD 2 2 ace
def ag8:Sd :=
 (dSeq (dSet 1 (gq (g2 (gInt fun i j=>some (if j > i then j else i))) (dq 0 (bw (M.d (mOp (gInt fSub) (jb (ret (.int 0)) (di 0)))) mNil)))) (dRet (mLst (bw (mVar 1) (bw (M.d (gq (g1 avv) (bw (M.d (mOp (gCmp fun i j=>decide (j<=i)) (cu 1 (M.d (mOp (gInt fPow) (jb (ret (.int 10)) (ret (.int 18)))))))) mNil))) mNil)))))
def f__law_pen:Fd:=fnD 2 1 ag8
def acd:Sd :=
 (dSeq (dIf (ou (gEq false) (jb (M.d (mOp gIx (cu 0 (ret (.int 1))))) (ret (.int 1)))) (dSeq (dAsg (M.d (gq (g2 ain) (bw (M.d (mOp gIx (cu 0 (ret (.int 0))))) (dq 1 mNil)))) (bTup 2 (jg (bj 2) (jg (bj 3) bNil)))) (dSeq (dSub 0 (ret (.int 0)) (mVar 2)) (dRet (aif 3)))) dNx) (dSeq (dSet 4 (mOp (gInt fMod) (jb (M.d (mOp gMul (jb (M.d (mOp gAdd (jb (M.d (mOp (gInt fMod) (jb (M.d (mOp gIx (cu 0 (ret (.int 0))))) (ret (.int 2147483647))))) (ret (.int 40503))))) (ret (.int 69621))))) (ret (.int 2147483629))))) (dSeq (dSet 4 (mOp (gInt fMod) (jb (M.d (mOp gAdd (jb (M.d (mOp gMul (cu 4 (di 4)))) (ret (.int 7817))))) (ret (.int 2147483587))))) (dSeq (dSub 0 (ret (.int 0)) (M.d (mOp (gInt fMod) (jb (M.d (mOp gAdd (jb (M.d (mOp gMul (cu 4 (ret (.int 48271))))) (ret (.int 11))))) (ret (.int 2147483629)))))) (dRet (mOp (gInt fMod) (jb (M.d (mOp (gInt fDiv) (jb (M.d (mOp gIx (cu 0 (ret (.int 0))))) (ret (.int 32))))) (di 1))))))))
def f__law_draw:Fd:=fnD 5 2 acd
def ael:Sd :=
 (dRet (M.v (mAnd (mIsi .int (di 0)) (mUn gNot (mIsi .bool (di 0))))))
def ud:Fd:=fnD 1 1 ael
def aa3:M D :=
 (M.d (mFn f__law_draw [some 1,some 2] (b8 1 (b8 2 gn))))
def l1__law_shut:Sd :=
 (dSeq (dSet 6 (mOp gAdd (jb (ret (.int 1)) (M.d (mFn f__law_draw [some 0,some 2] (b8 0 (b8 2 gn))))))) (dSeq (dSet 7 (tu [none,some 0,some 3] (mGet nq (bw (mVar 6) mNil)) (bj 0) (ret true) aa3)) (dSeq (dIf (ou (gEq false) (jb (M.d (mFn f__law_draw [some 0,none] (b8 0 (bf (ret (.int 2)) gn)))) (ret (.int 1)))) (dSub 7 (ret (.int 0)) (M.d (mOp (gInt fMod) (jb (M.d (mOp gAdd (cu 5 (ret (.int 1))))) (di 3))))) dNx) (adm (M.v (mMut 4 vy (bw (M.d (gq (g1 gT9) (dq 7 mNil))) mNil)))))))
def afx:Sd :=
 (dSeq (dSet 3 (mOp gAdd (jb (ret (.int 1)) (M.d (mFn f__law_draw [some 0,some 1] (b8 0 (b8 1 gn))))))) (dSeq (dSet 4 (mLst mNil)) (dSeq (dFor (mGet nq (bw (mVar 3) mNil)) (bj 5) l1__law_shut) (dRet (gq (g1 gT9) (dq 4 mNil))))))
def f__law_shut:Fd:=fnD 8 3 afx
def xq:M D :=
 (M.d (mFn f__law_draw [some 1,none] (b8 1 (bf (M.d (gq (g1 gL9) (dq 0 mNil))) gn))))
def ac9:Sd :=
 (dRet (gq (g1 gT9) (bw (M.d (tu [none,some 0] (ph (mVar 1)) (bj 0) (ret true) xq)) mNil)))
def f__law_arrows:Fd:=fnD 2 2 ac9
def afy:Sd :=
 (dSeq (dSet 3 (mOp gIx (cu 1 (di 2)))) (dSeq (dSet 4 (gq (g1 fun d=>(itemsD d).map fun l=>.fr l) (dq 1 mNil))) (dSeq (dSub 4 (mVar 2) (M.d (mOp (gInt fMod) (jb (M.d (mOp gAdd (cu 3 (ret (.int 1))))) (M.d (gq (g1 gL9) (bw (M.d (mOp gIx (cu 0 (di 2)))) mNil))))))) (dRet (M.v (mTup (bw (M.d (gq (g1 gT9) (dq 4 mNil))) (bw (M.d (mOp gIx (jb (M.d (mOp gIx (cu 0 (di 2)))) (di 3)))) mNil))))))))
def qt:Fd:=fnD 5 3 afy
def aaa:M D :=
 (M.d (mFn ud [some 0] (b8 0 gn)))
def aem:Sd :=
 (dSeq (dIf (mOrB (afi (aai (mIsi .tuple (di 0)))) (ou (gEq true) (cu 0 (di 1)))) (dRet (M.v (ret (.bl false)))) dNx) (dRet (gq (g1 gAll) (bw (M.d (tu [none] (ph (mVar 0)) (bj 0) (ret true) aaa)) mNil))))
def mj:Fd:=fnD 2 2 aem
def aax:Sd :=
 (azv 3 4 1 2 5 (mLst mNil) (mTup (bw (mVar 1) (bw (mVar 2) mNil))) (M.d (gq (g1 gL9) (dq 4 mNil))) (M.v (mMut 4 vy (bw (mTup (bw (mVar 1) (bw (mVar 2) mNil))) mNil))) (M.d (mFn qt [some 0,some 1,none] (b8 0 (b8 1 (bf (mVar 2) gn))))) fuel (dRet (M.v (mTup (bw (mVar 5) (bw (M.d (mOp (gInt fSub) (jb (M.d (gq (g1 gL9) (dq 4 mNil))) (di 5)))) (bw (mVar 4) mNil)))))))
def ue:Fd:=fnD 6 3 aax
def uz:Sd :=
 (dSub 6 (mVar 8) (M.d (mOp gAdd (jb (M.d (mOp gIx (cu 6 (di 8)))) (ret (.int 1))))))
def uy:Sd :=
 (dSeq (dIf (ou (gEq true) (jb (M.d (mOp (gInt fMod) (cu 10 (M.d (gq (g1 gL9) (dq 11 mNil)))))) (ret (.int 0)))) (dRet (M.v (ret (.bl false)))) dNx) (adm (M.v (mMut 9 vy (bw (M.d (mOp (gInt fDiv) (cu 10 (M.d (gq (g1 gL9) (dq 11 mNil)))))) mNil)))))
def zy:Sd :=
 (dIf (afi (aai (M.d (mFn mj [none,none] (bf (M.d (mFn yu [none,none,none] (bf (mVar 0) (bf (mVar 1) (bf (mVar 2) gn))))) (bf (M.d (gq (g1 gT9) (dq 9 mNil))) gn)))))) (dRet (M.v (ret (.bl false)))) dNx)
def aen:Sd :=
 (dSeq (dAsg (M.d (mFn ue [some 0,none,none] (b8 0 (bf (mVar 1) (bf (mVar 2) gn))))) (bTup 3 (jg (bj 3) (jg (bj 4) (jg (bj 5) bNil))))) (dSeq (dSet 6 (mOp gMul (jb (M.d (mLst (bw (ret (.int 0)) mNil))) (M.d (gq (g1 gL9) (dq 0 mNil)))))) (dSeq (dFor (ph (M.d (au9 5 (aq4 (mVar 3)) (ret none)))) (bTup 2 (jg (bj 7) (jg (bj 8) bNil))) uz) (dSeq (dSet 9 (mLst mNil)) (dSeq (dFor (mGet al4 (bw (mVar 6) (bw (mVar 0) mNil))) (bTup 2 (jg (bj 10) (jg (bj 11) bNil))) uy) (dSeq (dFor (mGet nq (bw (ret (.int 2)) mNil)) (bj 12) zy) (dRet (M.v (ret (.bl true))))))))))
def jr:Fd:=fnD 13 3 aen
def ang:Sd :=
 (dIf (afi (aai (M.d (mFn jr [none,none,none] (bf (mVar 3) (bf (mVar 4) (bf (mVar 5) gn))))))) (dRet (M.v (ret (.bl false)))) dNx)
def l2_law:Sd :=
 (dSeq (dSet 2 (mFn f__law_pen [some 1] (b8 1 gn))) (dSeq (dSet 3 (mFn f__law_shut [some 2,none,none] (b8 2 (bf (M.d (mOp gIx (jb (M.d (mLst (bw (ret (.int 3)) (bw (ret (.int 4)) (bw (ret (.int 5)) mNil))))) (M.d (mFn f__law_draw [some 2,none] (b8 2 (bf (ret (.int 3)) gn))))))) (bf (ret (.int 3)) gn))))) (dSeq (dSet 4 (mFn f__law_arrows [some 2,none] (b8 2 (bf (mVar 3) gn)))) (dFor (mGet nq (bw (M.d (gq (g1 gL9) (dq 3 mNil))) mNil)) (bj 5) ang))))
def a3i:Sd :=
 (dSeq (dIf (mOrB (afi (aai (M.d (mFn jr [none,none,none] (bf (mTup (bw (mTup (bw (ret (.int 0)) mNil)) mNil)) (bf (mTup (bw (ret (.int 0)) mNil)) (bf (ret (.int 0)) gn))))))) (afi (aai (M.d (mFn jr [none,none,none] (bf (mTup (bw (mTup (bw (ret (.int 0)) (bw (ret (.int 1)) mNil))) (bw (mTup (bw (ret (.int 1)) mNil)) mNil))) (bf (mTup (bw (ret (.int 0)) (bw (ret (.int 0)) mNil))) (bf (ret (.int 0)) gn)))))))) (dRet (M.v (ret (.bl false)))) dNx) (dSeq (dFor (ph (M.d (mOp gAdd (jb (M.d (mLst (bw (M.d (mFn f__law_cell [some 0,none] (b8 0 (bf (ret (.int 0)) gn)))) mNil))) (M.d (au9 0 (aq4 (ret (.int 1))) (aq4 (ret (.int 3))))))))) (bj 1) l2_law) (dRet (M.v (ret (.bl true))))))
def asb:Fd:=fnD 6 1 a3i
def agp:D->Bool
 | .int _=>true
 | _=>false
def adt(a b:Int):D->Bool
 | .int i=>decide (a<=i)&&decide (i<=b)
 | _=>false
@[simp] theorem aza(d:D):yx [.val d]=some (.ok (.v (.bl (agp d))),[.val d]):=by
 cases d <;> simp[yx,ag7,isTy,agp]
@[simp] theorem anl(d:D)(a b:Int):ir [.val d,.val (.int a),.val (.int b)]=some (.ok (.v (.bl (adt a b d))),[.val d,.val (.int a),.val (.int b)]):=by
 cases d <;> simp[ir,yq,agp,adt]
theorem asy(ns:List Int)(k:Int)(h:0<=k):∃n,f__law_cell [.val (.kst (ns.map D.int)),.val (.int k)]=some (.ok (.v (.int n)),[.val (.kst (ns.map D.int)),.val (.int k)]):=by
 by_cases hk:k < (ns.length:Int)
 ·have e:atI (ns.map D.int) k=some (.int (ns[k.toNat]'(by omega))):=by
   have h2:atI (ns.map D.int) ((k.toNat:Nat):Int)=some (.int (ns[k.toNat]'(by omega))):=ai1 (by simp[List.getElem?_map,List.getElem?_eq_getElem (show k.toNat < ns.length by omega)])
   rw[show((k.toNat:Nat):Int)=k by omega] at h2
   exact h2
  exact⟨ns[k.toNat]'(by omega),by simp[f__law_cell,ace,hk,e]⟩
 ·exact⟨0,by simp[f__law_cell,ace,hk]⟩
def pen(P:Int×Int):List D:=[.int P.1,.int P.2]
theorem aum(n:Int):∃P,f__law_pen [.val (.int n)]=some (.ok (.fr (pen P)),[.val (.int n)]):=by
 refine⟨(if 0 - n > n then 0 - n else n,if 10 ^ 18<=(if 0 - n > n then 0 - n else n) then 1 else 0),?_⟩
 simp[f__law_pen,ag8,pen,fPow]
theorem yz(P:Int×Int)(m:Int)(h0:0 < m)(h1:m < 1000000000000000000000000000000000000000000000000000000000000):∃r P',f__law_draw [.own (some 0) (pen P),.val (.int m)]=some (.ok (.v (.int r)),[.own (some 0) (pen P'),.val (.int m)])/\0<=r/\r < m:=by
 obtain⟨a,b⟩:=P
 by_cases hb:b=1
 ·refine⟨a % m,(a / m,b),?_,Int.emod_nonneg _ (by omega),Int.emod_lt_of_pos _ h0⟩
  simp[f__law_draw,acd,pen,hb,h0,h1,atI,ixN]
 ·have z0:0<=(a % 2147483647+40503)*69621 % 2147483629:=Int.emod_nonneg _ (by decide)
  have z1:(a % 2147483647+40503)*69621 % 2147483629 < 2147483629:=Int.emod_lt_of_pos _ (by decide)
  generalize hz:(a % 2147483647+40503)*69621 % 2147483629=z at z0 z1;have hm:fMul z z=some (z*z):=by
   unfold fMul;rw[if_pos (.inl ⟨by omega,by omega⟩)]
  refine⟨((z*z+7817) % 2147483587*48271+11) % 2147483629 / 32 % m,(((z*z+7817) % 2147483587*48271+11) % 2147483629,b),?_,Int.emod_nonneg _ (by omega),Int.emod_lt_of_pos _ h0⟩
  have h69:∀x:Int,fMul x 69621=some (x*69621):=fun x=>by unfold fMul;rw[if_pos (.inr (by decide))]
  have h48:∀x:Int,fMul x 48271=some (x*48271):=fun x=>by unfold fMul;rw[if_pos (.inr (by decide))]
  simp[f__law_draw,acd,pen,hb,h0,h1,atI,ixN,h69,h48,hm,fMod,fDiv,hz]
structure HouseOk (m w:Int) (qq:LL9):Prop where
 one:1<=qq.length
 most:(qq.length:Int)<=m
 room:∀r∈qq,1<=r.length/\(r.length:Int)<=w/\∀x∈r,0<=x/\x < (qq.length:Int)
def hDs(qq:LL9):List D:=qq.map fun r=>D.tup (r.map D.int)
def hD(qq:LL9):D:=.tup (hDs qq)
theorem aqb(P:Int×Int)(m w:Int)(w1:1<=w)(w2:w<=6){n:Int}(n1:1<=n)(n2:n<=10)(i:Nat)(hi:(i:Int) < n)(qq:LL9)(hl:qq.length<=10)(o1 o2:Sl):∃ns P' q1 q2,l1__law_shut [.own (some 0) (pen P),.val (.int m),.val (.int w),.val (.int n),.own none (hDs qq),.val (.int (i:Int)),o1,o2]=some (.nx,[.own (some 0) (pen P'),.val (.int m),.val (.int w),.val (.int n),.own none (hDs (qq++[ns])),.val (.int (i:Int)),q1,q2])
  /\ 1<=ns.length/\(ns.length:Int)<=w/\∀x∈ns,0<=x/\x < n:=by
 obtain⟨r5,P5,e5,r5a,r5b⟩:=yz P w (by omega) (by omega)
 have comp:=za (b:=bj 0) (mc:=ret true) (me:=aa3) (fun j ys ρ=>∃ns P o,ρ=[o,.own (some 1) (pen P),.val (.int n)]/\ys=ns.map D.int/\ns.length=j/\∀x∈ns,0<=x/\x < n)
  (l:=rangeD 0 (1+r5).toNat) (ys:=[]) (ρ:=[.emp,.own (some 1) (pen P5),.val (.int n)]) 0 ⟨[],P5,.emp,rfl,rfl,rfl,by simp⟩ ?_
 ·obtain⟨ys,ρ',e6,ns,P6,o,rfl,rfl,hn,hx⟩:=comp;have hn:ns.length=(1+r5).toNat:=by simpa[rangeD] using hn
  have hb:(1+r5).natAbs < 4611686018427387904:=by omega
  have hc1:ns.length<=capS:=b7 (by omega)
  have hc2:(hDs qq).length < capS:=by simp[hDs,capS];omega
  obtain⟨r7,P7,e7,r7a,r7b⟩:=yz P6 2 (by decide) (by decide)
  have hm:fMod ((i:Int)+1) n=some (((i:Int)+1) % n):=by
   unfold fMod;rw[if_pos (by omega)]
  cases ns with
  | nil=>simp at hn;omega
  | cons x r =>
   have hc1:r.length+1<=capS:=by simpa using hc1
   by_cases q:r7=1
   ·refine⟨((i:Int)+1) % n::r,P7,.val (.int (1+r5)),.own none ((((i:Int)+1) % n::r).map D.int),?_,by simp,by simp at hn ⊢;omega,fun y hy =>?_⟩
    ·have e8:ixN (r.length+1) 0=some 0:=by simp[ixN]
     simp[l1__law_shut,e5,hb,e6,hc1,e7,q,hm,hc2,e8];simp[hDs]
    ·rcases List.mem_cons.mp hy with rfl | hy
     ·exact⟨Int.emod_nonneg _ (by omega),Int.emod_lt_of_pos _ (by omega)⟩
     ·exact hx y (List.mem_cons_of_mem _ hy)
   ·refine⟨x::r,P7,.val (.int (1+r5)),.own none ((x::r).map D.int),?_,by simp,by simp at hn ⊢;omega,hx⟩
    simp[l1__law_shut,e5,hb,e6,hc1,e7,q,hc2];simp[hDs]
 ·rintro j d ys ρ hd ⟨ns,P6,o,rfl,rfl,hn,hx⟩
  obtain⟨r7,P7,e7,r7a,r7b⟩:=yz P6 n (by omega) (by omega)
  refine⟨_,_,true,rfl,rfl,.inr ⟨rfl,.int r7,_,by simp[aa3,e7];rfl,ns++[r7],P7,_,rfl,by simp,by simp[hn],fun x h =>?_⟩⟩
  rcases List.mem_append.mp h with h | h
  ·exact hx x h
  ·obtain rfl:x=r7:=by simpa using h
   omega
theorem aqc(P:Int×Int)(m w:Int)(m1:1<=m)(m2:m<=10)(w1:1<=w)(w2:w<=6):∃qq P',f__law_shut [.own (some 0) (pen P),.val (.int m),.val (.int w)]=some (.ok (.v (hD qq)),[.own (some 0) (pen P'),.val (.int m),.val (.int w)])/\HouseOk m w qq:=by
 obtain⟨r1,P1,e1,r1a,r1b⟩:=yz P m (by omega) (by omega)
 have loop:=ada (b:=bj 5) (g:=l1__law_shut) (fun i ρ=>∃qq P o o1 o2,ρ=[.own (some 0) (pen P),.val (.int m),.val (.int w),.val (.int (1+r1)),.own none (hDs qq),o,o1,o2]/\qq.length=i/\∀r∈qq,1<=r.length/\(r.length:Int)<=w/\∀x∈r,0<=x/\x < 1+r1)
  (l:=rangeD 0 (1+r1).toNat) (ρ:=[.own (some 0) (pen P1),.val (.int m),.val (.int w),.val (.int (1+r1)),.own none [],.emp,.emp,.emp]) 0 ⟨[],P1,.emp,.emp,.emp,rfl,rfl,by simp⟩ ?_
 ·obtain⟨ρ',e3,qq,P3,o,o1,o2,rfl,hl,hr⟩:=loop;have hl:qq.length=(1+r1).toNat:=by simpa[rangeD] using hl
  refine⟨qq,P3,?_,by omega,by omega,fun r h =>?_⟩
  ·have hb:(1+r1).natAbs < 4611686018427387904:=by omega
   simp[f__law_shut,afx,e1,hb,e3,hD]
  ·obtain⟨a,b,c⟩:=hr r h;exact⟨a,b,fun x hx=>by have:=c x hx;omega⟩
 ·rintro i d ρ hd ⟨qq,P4,o,o1,o2,rfl,hl,hr⟩
  have hi:i < (1+r1).toNat:=by
   have:=(List.getElem?_eq_some_iff.mp hd).1
   simpa[rangeD] using this
  have ed:d=.int (i:Int):=by
   unfold rangeD at hd;rw[List.getElem?_map,List.getElem?_range hi] at hd;have:=Option.some.inj hd
   simpa using this.symm
  subst ed;obtain⟨ns,P5,q1,q2,e,z1,z2,z3⟩:=aqb P4 m w w1 w2 (n:=1+r1) (by omega) (by omega) i (by omega) qq (by omega) o1 o2
  refine⟨_,_,rfl,.inl e,qq++[ns],P5,_,_,_,rfl,by simp[hl],fun r h =>?_⟩
  rcases List.mem_append.mp h with h | h
  ·exact hr r h
  ·obtain rfl:r=ns:=by simpa using h
   exact⟨z1,z2,z3⟩
structure Hs (qq:LL9):Prop where
 one:1<=qq.length
 most:qq.length<=10
 room:∀r∈qq,1<=r.length/\r.length<=6/\∀x∈r,-3<=x/\x < (qq.length:Int)
def dr(qq:LL9)(x:Int):List Int:=qq.getD x.toNat []
inductive Rch (qq:LL9) (a:Int):Int->Prop
 | base:Rch qq a a
 | step {x d:Int}:Rch qq a x->0<=x->d∈dr qq x->Rch qq a d
theorem ame{qq:LL9}{x:Int}(h0:0<=x)(h1:x < (qq.length:Int)):atI (hDs qq) x=some (.tup ((dr qq x).map D.int)):=by
 have hk:x.toNat < qq.length:=by omega
 have q:atI (hDs qq) ((x.toNat:Nat):Int)=some (.tup ((dr qq x).map D.int)):=ai1 (by simp[hDs,dr,List.getElem?_eq_getElem hk])
 rw[show((x.toNat:Nat):Int)=x by omega] at q
 exact q
theorem Hs.dr{qq:LL9}(h:Hs qq){x:Int}(h0:0<=x)(h1:x < (qq.length:Int)):1<=(dr qq x).length/\(My.dr qq x).length<=6/\∀y∈My.dr qq x,-3<=y/\y < (qq.length:Int):=by
 have hk:x.toNat < qq.length:=by omega
 have e:My.dr qq x=qq[x.toNat]:=by simp[My.dr,hk]
 rw[e];exact h.room _ (List.getElem_mem hk)
theorem Rch.range{qq:LL9}(h:Hs qq){a x:Int}(ha:0<=a/\a < (qq.length:Int))(r:Rch qq a x) : -3<=x/\x < (qq.length:Int):=by
 induction r with
 | base=>omega
 | step r h0 hd ih=>exact(h.dr h0 ih.2).2.2 _ hd
theorem afh:∀(m:Nat) (l:List Int),l.Nodup->(∀x∈l,-3<=x/\x < (m:Int) - 3)->l.length<=m
 | 0,l,_,h=>by
  cases l with
  | nil=>simp
  | cons x r=>have:=h x (List.mem_cons_self ..);omega
 | m+1,l,hn,h=>by
  have h1:(l.erase ((m:Int) - 3)).length<=m:=afh m _ (hn.erase _) fun x hx=>by
   rw[hn.mem_erase_iff] at hx;have:=h x hx.2;have:=hx.1;omega
  have h2:l.length<=(l.erase ((m:Int) - 3)).length+1:=by
   rw[List.length_erase];split <;> omega
  omega
theorem ax7{qq:LL9}(h:Hs qq){a:Int}(ha:0<=a/\a < (qq.length:Int)){ns:List Int}(hn:ns.Nodup)(hr:∀x∈ns,Rch qq a x):ns.length<=13:=by
 have:=afh (qq.length+3) ns hn fun x hx=>by have:=Rch.range h ha (hr x hx);omega
 have:=h.most;omega
theorem alm{qq:LL9}{a:Int}{ns:List Int}(h0:a∈ns)(hc:∀x∈ns,∀d∈dr qq x,0<=d->d∈ns){x:Int}(r:Rch qq a x)(hx:0<=x):x∈ns:=by
 induction r with
 | base=>exact h0
 | step r h0 hd ih=>exact hc _ (ih h0) _ hd hx
theorem a4g{ns:List Int}{i:Nat}(h:i < ns.length):atI (ns.map D.int) (i:Int)=some (.int ns[i]):=ai1 (by simp[List.getElem?_eq_getElem h])
def Sh(qq:LL9):Prop:=∀r∈qq,∀x∈r,0<=x
theorem HouseOk.hs{m w:Int}{qq:LL9}(h:HouseOk m w qq)(hm:m<=10)(hw:w<=6):Hs qq :=
 ⟨h.one,by have:=h.most;omega,fun r hr=>by obtain⟨a,b,c⟩:=h.room r hr;exact⟨a,by omega,fun x hx=>by have:=c x hx;omega⟩⟩
theorem HouseOk.sh{m w:Int}{qq:LL9}(h:HouseOk m w qq):Sh qq:=fun r hr x hx=>((h.room r hr).2.2 x hx).1
open Classical in
noncomputable def caught(qq:LL9)(a:Int):Bool:=decide (∀x,Rch qq a x->0<=x)
theorem zb(qq:LL9)(a:Int):caught qq a=true↔∀x,Rch qq a x->0<=x:=by
 unfold caught;exact @decide_eq_true_iff _ (Classical.propDecidable _)
def upto(n:Nat):List Int:=(List.range n).map fun i=>((i:Nat):Int)
theorem ae8(n:Nat):rangeD 0 n=(upto n).map D.int:=by
 unfold rangeD upto;rw[List.map_map];apply List.map_congr_left;intro i _;simp
theorem ux{n:Nat}{x:Int}(h:x∈upto n):0<=x/\x < (n:Int):=by
 obtain⟨i,hi,rfl⟩:=List.mem_map.mp h;have:=List.mem_range.mp hi;omega
noncomputable def ie(qq:LL9):List Int:=(upto qq.length).filter (caught qq)
theorem ale{qq:LL9}(h:Hs qq):(qq.length:Int).natAbs < 4611686018427387904:=by have:=h.most;omega
theorem aqi{qq:LL9}(h:Hs qq):nq [.int (qq.length:Int)]=some (rangeD 0 qq.length):=by
 rw[al5,if_pos (ale h),Int.toNat_natCast]
theorem aw1{qq:LL9}(h:Hs qq):∃L:Int,((hDs qq).length:Int)=L/\nq [.int L]=some (rangeD 0 qq.length) :=
 ⟨_,rfl,by rw[show(hDs qq).length=qq.length by simp[hDs]];exact aqi h⟩
theorem avb{src:List (Option Nat)}{mi:M (List D)}{b:D->Ro->Option Ro}{mc:M Bool}{me:M D}{ρ ρ1 ps:Ro}{l ys:List D}(e:mi ρ=some (.ok l,ρ1))(hj:okJs ρ1 src=true)(ec:compD b mc me l [] (lend ρ1 src (src.map fun _=>none))=some (.ok ys,ps))(hc:ys.length<=capS) :
  tu src mi b mc me ρ=some (.ok (.fr ys),putB ρ1 src ps):=by
 rw[avc,az3,e];dsimp only;rw[if_pos hj,ec];dsimp only;rw[if_pos hc]
theorem zz(qq:LL9):(hDs qq).length=qq.length:=by simp[hDs]
theorem arz{qq:LL9}{i:Nat}{d:D}(h:(hDs qq)[i]? = some d):∃r,qq[i]? = some r/\d=.tup (r.map D.int):=by
 unfold hDs at h;rw[List.getElem?_map] at h;obtain⟨r,e,rfl⟩:=Option.map_eq_some_iff.mp h;exact⟨r,e,rfl⟩
structure Arr (qq:LL9) (as:List Int):Prop where
 len:as.length=qq.length
 ok:∀(i:Nat) (a:Int) (r:List Int),as[i]? = some a->qq[i]? = some r->0<=a/\a < (r.length:Int)
def ar(as:List Int)(x:Int):Int:=as.getD x.toNat 0
theorem Arr.at{qq:LL9}{as:List Int}(h:Arr qq as){x:Int}(h0:0<=x)(h1:x < (qq.length:Int)):0<=ar as x/\ar as x < ((dr qq x).length:Int):=by
 have hk:x.toNat < qq.length:=by omega
 have hk2:x.toNat < as.length:=by rw[h.len];exact hk
 have:=h.ok x.toNat as[x.toNat] qq[x.toNat] (List.getElem?_eq_getElem hk2) (List.getElem?_eq_getElem hk)
 simpa[ar,dr,hk,hk2] using this
theorem amg(P:Int×Int){qq:LL9}(h:Hs qq):∃as P',f__law_arrows [.own (some 0) (pen P),.val (hD qq)]=some (.ok (.v (.tup (as.map D.int))),[.own (some 0) (pen P'),.val (hD qq)])/\Arr qq as:=by
 have comp:=za (b:=bj 0) (mc:=ret true) (me:=xq) (fun j ys ρ=>∃ns P o,ρ=[o,.own (some 1) (pen P)]/\ys=ns.map D.int/\ns.length=j/\∀(i:Nat) (a:Int) (r:List Int),ns[i]? = some a->qq[i]? = some r->0<=a/\a < (r.length:Int))
  (l:=hDs qq) (ys:=[]) (ρ:=[.emp,.own (some 1) (pen P)]) 0 ⟨[],P,.emp,rfl,rfl,rfl,by simp⟩ ?_
 ·obtain⟨ys,ρ',e6,ns,P6,o,rfl,rfl,hn,hx⟩:=comp;rw[zz,Nat.zero_add] at hn;have hc:ns.length<=capS:=b7 (by have:=h.most;omega)
  exact⟨ns,P6,by simp[f__law_arrows,ac9,hD,e6,hc],hn,hx⟩
 ·rintro j d ys ρ hd ⟨ns,P6,o,rfl,rfl,hn,hx⟩
  obtain⟨r,hr,rfl⟩:=arz hd;obtain⟨k1,k2,k3⟩:=h.room r (List.mem_of_getElem? hr);obtain⟨r7,P7,e7,r7a,r7b⟩:=yz P6 (r.length:Int) (by omega) (by omega)
  refine⟨_,_,true,rfl,rfl,.inr ⟨rfl,.int r7,[.val (.tup (r.map D.int)),.own (some 1) (pen P7)],by simp[xq,e7],ns++[r7],P7,_,rfl,by simp,by simp[hn],fun i a q ha hq =>?_⟩⟩
  rcases Nat.lt_or_ge i ns.length with z | z
  ·rw[List.getElem?_append_left z] at ha;exact hx i a q ha hq
  ·have hi:i=ns.length:=by
    have:=(List.getElem?_eq_some_iff.mp ha).1;simp at this;omega
   subst hi;simp at ha;subst ha;have:ns.length=j:=by omega
   rw[this,hr] at hq;cases hq;exact⟨r7a,r7b⟩
def gone(qq:LL9)(as:List Int)(k:Int):List Int:=as.set k.toNat ((ar as k+1) % ((dr qq k).length:Int))
def led(qq:LL9)(as:List Int)(k:Int):Int:=(dr qq k).getD (ar as k).toNat 0
section
variable{qq:LL9}(h:Hs qq){as:List Int}(ha:Arr qq as){k:Int}(h0:0<=k)(h1:k < (qq.length:Int))
include h ha h0 h1
theorem aoh:atI (as.map D.int) k=some (.int (ar as k)):=ai2 h0 (by rw[ha.len];exact h1)
theorem ath:atI ((dr qq k).map D.int) (ar as k)=some (.int (led qq as k)):=ai2 (ha.at h0 h1).1 (ha.at h0 h1).2
theorem aka(x:Int):fMod x ((dr qq k).length:Int)=some (x % ((dr qq k).length:Int)):=by
 have:=(h.dr h0 h1).1;unfold fMod;rw[if_pos (by omega)]
theorem ay5:qt [.val (hD qq),.val (.tup (as.map D.int)),.val (.int k)]=some (.ok (.v (.tup [.tup ((gone qq as k).map D.int),.int (led qq as k)])),[.val (hD qq),.val (.tup (as.map D.int)),.val (.int k)]):=by
 have e1:=ame h0 h1;have e2:=aoh h ha h0 h1;have e3:=ath h ha h0 h1;have e4:=aka h ha h0 h1 (ar as k+1);have e5:ixN as.length k=some k.toNat:=aca h0 (by rw[ha.len];exact h1)
 have e6:as.length<=capS:=b7 (by have:=h.most;rw[ha.len];omega)
 simp[qt,afy,hD,e1,e2,e3,e4,e5,e6,gone]
end
section
variable{qq:LL9}(h:Hs qq){as:List Int}(ha:Arr qq as){k:Int}(h0:0<=k)(h1:k < (qq.length:Int))
include h ha h0 h1
theorem aij:Arr qq (gone qq as k):=by
 have hd:=(h.dr h0 h1).1;refine⟨by unfold gone;rw[List.length_set];exact ha.len,fun i a r g1 g2 =>?_⟩
 unfold gone at g1;rw[List.getElem?_set] at g1;split at g1
 ·rename_i hi;subst hi;split at g1
  ·cases g1;have:dr qq k=r:=by simp[dr,g2]
   rw[this] at hd ⊢
   exact⟨Int.emod_nonneg _ (by omega),Int.emod_lt_of_pos _ (by omega)⟩
  ·cases g1
 ·exact ha.ok i a r g1 g2
end
theorem a2u{qq:LL9}(h:Hs qq){as:List Int}(ha:Arr qq as){k:Int}(h0:0<=k)(h1:k < (qq.length:Int)) : -3<=led qq as k/\led qq as k < (qq.length:Int):=by
 obtain⟨a1,a2⟩:=ha.at h0 h1;have hk:(ar as k).toNat < (dr qq k).length:=by omega
 have:led qq as k∈dr qq k:=by
  unfold led;simp[hk]
 exact(h.dr h0 h1).2.2 _ this
def wd(qq:LL9)(k:Int):Int:=((dr qq k).length:Int)
def ad7(qq:LL9)(as:List Int)(k:Int):Int:=(dr qq k).getD ((ar as k - 1) % wd qq k).toNat 0
def lasts(qq:LL9)(as:List Int):List Int:=(List.range qq.length).map fun(i:Nat)=>ad7 qq as (i:Int)
theorem vh(qq:LL9)(as:List Int):(lasts qq as).length=qq.length:=by unfold lasts;rw[List.length_map,List.length_range]
def lp(L:List Int):LL9:=L.map fun y=>[y]
theorem ajs(L:List Int):(lp L).length=L.length:=List.length_map ..
theorem a3u{L:List Int}{x:Int}(h0:0<=x)(h1:x < (L.length:Int)):dr (lp L) x=[L.getD x.toNat 0]:=by
 have hk:x.toNat < L.length:=by omega
 simp[dr,lp,hk]
structure Ways (L:List Int):Prop where
 one:1<=L.length
 most:L.length<=10
 ok:∀y∈L,-3<=y/\y < (L.length:Int)
theorem Ways.hs{L:List Int}(w:Ways L):Hs (lp L):=⟨by rw[ajs];exact w.one,by rw[ajs];exact w.most,fun r hr=>by
 obtain⟨y,hy,rfl⟩:=List.mem_map.mp hr;rw[ajs];exact⟨by simp,by simp,fun x hx=>by rw[List.mem_singleton] at hx;rw[hx];exact w.ok _ hy⟩⟩
theorem ag2:∀(m:Nat) (l:List Int),l.Nodup->(∀x∈l,0<=x/\x < (m:Int))->l.length<=m
 | 0,l,_,h=>by
  cases l with
  | nil=>simp
  | cons x r=>have:=h x (List.mem_cons_self ..);omega
 | m+1,l,hn,h=>by
  have h1:(l.erase (m:Int)).length<=m:=ag2 m _ (hn.erase _) fun x hx=>by
   rw[hn.mem_erase_iff] at hx;have:=h x hx.2;have:=hx.1;omega
  have h2:l.length<=(l.erase (m:Int)).length+1:=by
   rw[List.length_erase];split <;> omega
  omega
theorem pig(f:Nat->Int)(n:Nat)(hf:∀i,i<=n->0<=f i/\f i < (n:Int)):∃i j,i < j/\j<=n/\f i=f j:=by
 apply Classical.byContradiction;intro H;have hn:((List.range (n+1)).map f).Nodup:=by
  rw[List.Nodup,List.pairwise_map];refine List.Pairwise.imp_of_mem (fun{a b} ha hb hlt e=>H ⟨a,b,hlt,?_,e⟩) List.pairwise_lt_range
  have:=List.mem_range.mp hb;omega
 have:=ag2 n _ hn fun x hx=>by
  obtain⟨i,hi,rfl⟩:=List.mem_map.mp hx;have:=List.mem_range.mp hi;exact hf i (by omega)
 rw[List.length_map,List.length_range] at this;omega
theorem least{P:Nat->Prop}:∀n,P n->∃m,P m/\∀i < m,¬P i:=fun n=>by
 induction n using Nat.strongRecOn with
 | _ n ih =>
  intro hn
  by_cases q:∃i,i < n/\P i
  ·obtain⟨i,hi,hp⟩:=q;exact ih i hi hp
  ·exact⟨n,hn,fun i hi hp=>q ⟨i,hi,hp⟩⟩
def nxt(L:List Int)(p:Int):Int:=if 0<=p then L.getD p.toNat 0 else p
def itr(L:List Int)(p:Int):Nat->Int
 | 0=>p
 | t+1=>itr L (nxt L p) t
theorem ad8(L:List Int):∀(s t:Nat) (p:Int),itr L p (s+t)=itr L (itr L p s) t
 | 0,t,p=>by rw[Nat.zero_add];rfl
 | s+1,t,p=>by
  rw[show s+1+t=(s+t)+1 by omega]
  exact ad8 L s t (nxt L p)
theorem a2b{L:List Int}(w:Ways L){p:Int}(hp:p < (L.length:Int)):nxt L p < (L.length:Int):=by
 unfold nxt;split
 ·rename_i h0;have hk:p.toNat < L.length:=by omega
  rw[List.getD_eq_getElem?_getD,List.getElem?_eq_getElem hk];exact(w.ok _ (List.getElem_mem hk)).2
 ·exact hp
theorem arl{L:List Int}(w:Ways L):∀(t:Nat) {p:Int},p < (L.length:Int)->itr L p t < (L.length:Int)
 | 0,_,h=>h
 | t+1,_,h=>arl w t (a2b w h)
theorem ug{qq:LL9}{bs:List Int}{p:Int}(hp:p.toNat < bs.length):ar (gone qq bs p) p=(ar bs p+1) % ((dr qq p).length:Int):=by
 unfold gone;generalize (ar bs p+1) % ((dr qq p).length:Int)=z;unfold ar;simp[hp]
theorem abn{qq:LL9}{bs:List Int}{p x:Int}(hx:0<=x)(hp:0<=p)(hne:x≠p):ar (gone qq bs p) x=ar bs x:=by
 have:p.toNat≠x.toNat:=by omega
 unfold gone;generalize (ar bs p+1) % ((dr qq p).length:Int)=z;unfold ar;simp[List.getD_eq_getElem?_getD,List.getElem?_set,this]
def run(qq:LL9)(as:List Int)(k:Int):Nat->List Int×Int
 | 0=>(as,k)
 | n+1=>(gone qq (run qq as k n).1 (run qq as k n).2,led qq (run qq as k n).1 (run qq as k n).2)
def bump(l:List Int)(x:Int):List Int:=l.set x.toNat (l.getD x.toNat 0+1)
def cnt(qq:LL9)(as:List Int)(k:Int):Nat->List Int
 | 0=>List.replicate qq.length 0
 | t+1=>bump (cnt qq as k t) (run qq as k t).2
section
variable{qq:LL9}(h:Hs qq){as:List Int}(ha:Arr qq as){k:Int}(h0:0<=k)(h1:k < (qq.length:Int))
include h ha h0 h1
end
theorem am8{a w:Int}(h0:0<=a)(h1:a < w):((a+1) % w - 1) % w=a:=by
 rcases Int.lt_or_le (a+1) w with q | q
 ·rw[Int.emod_eq_of_lt (by omega) q,show a+1 - 1=a by omega,Int.emod_eq_of_lt h0 h1]
 ·have e0:a+1=w:=by omega
  have e:=Int.add_emod_right (-1) w;rw[e0,Int.emod_self,show(0:Int) - 1 = -1 by omega,<-e,Int.emod_eq_of_lt (by omega) (by omega)]
  omega
theorem afn{qq:LL9}{as:List Int}{i:Nat}(hi:i < qq.length):(lasts qq as)[i]? = some (ad7 qq as (i:Int)):=by
 unfold lasts;rw[List.getElem?_map,List.getElem?_range hi];rfl
section
variable{qq:LL9}(h:Hs qq){bs:List Int}(hb:Arr qq bs){p:Int}(p0:0<=p)(p1:p < (qq.length:Int))
include h hb p0 p1
theorem apb:ad7 qq (gone qq bs p) p=led qq bs p:=by
 have a:=hb.at p0 p1;have hl:=hb.len;unfold ad7 wd led;rw[ug (by omega),am8 a.1 a.2]
theorem abh:lasts qq (gone qq bs p)=(lasts qq bs).set p.toNat (led qq bs p):=by
 apply List.ext_getElem?;intro i
 by_cases hi:i < qq.length
 ·rw[afn hi,List.getElem?_set]
  by_cases q:p.toNat=i
  ·rw[if_pos q,if_pos (by rw[vh];omega)]
   have:((i:Nat):Int)=p:=by omega
   rw[this,apb h hb p0 p1]
  ·rw[if_neg q,afn hi];unfold ad7;rw[abn (by omega) p0 (by omega)]
 ·rw[List.getElem?_eq_none (by rw[vh];omega),List.getElem?_eq_none (by rw[List.length_set,vh];omega)]
theorem ahh:(ar (gone qq bs p) p - 1) % ((dr qq p).length:Int)=ar bs p:=by
 have a:=hb.at p0 p1;have hl:=hb.len;rw[ug (by omega)]
 exact am8 a.1 a.2
theorem aj2:(gone qq bs p).set p.toNat (ar bs p)=bs:=by
 have hl:=hb.len;unfold gone;rw[List.set_set];apply List.ext_getElem?;intro i;rw[List.getElem?_set]
 by_cases q:p.toNat=i
 ·have hk:i < bs.length:=by omega
  rw[if_pos q,if_pos (by omega),List.getElem?_eq_getElem hk]
  unfold ar;rw[q,List.getD_eq_getElem?_getD,List.getElem?_eq_getElem hk];rfl
 ·rw[if_neg q]
end
def code:List Int->Int
 | []=>0
 | a::r=>a+6*code r
theorem asv:∀{l:List Int},(∀a∈l,0<=a/\a < 6)->0<=code l/\code l < ((6 ^ l.length:Nat):Int)
 | [],_=>⟨Int.le_refl 0,by show(0:Int) < ((6 ^ 0:Nat):Int);decide⟩
 | a::r,h=>by
  obtain⟨h1,h2⟩:=asv (l:=r) fun x hx=>h x (List.mem_cons_of_mem _ hx)
  have h3:=h a (List.mem_cons_self ..);have e:6 ^ (a::r).length=6*6 ^ r.length:=by rw[List.length_cons,Nat.pow_succ,Nat.mul_comm]
  rw[e];show 0<=a+6*code r/\a+6*code r < _;generalize 6 ^ r.length=q at *;constructor <;> omega
theorem code_inj:∀{l m:List Int},l.length=m.length->(∀a∈l,0<=a/\a < 6)->(∀a∈m,0<=a/\a < 6)->code l=code m->l=m
 | [],[],_,_,_,_=>rfl
 | [],_::_,h,_,_,_=>by simp at h
 | _::_,[],h,_,_,_=>by simp at h
 | a::r,b::t,h,h1,h2,e=>by
  have a1:=h1 a (List.mem_cons_self ..);have b1:=h2 b (List.mem_cons_self ..);have e:a+6*code r=b+6*code t:=e;have hab:a=b:=by omega
  have hr:code r=code t:=by omega
  rw[hab,code_inj (by simpa using h) (fun x hx=>h1 x (List.mem_cons_of_mem _ hx)) (fun x hx=>h2 x (List.mem_cons_of_mem _ hx)) hr]
theorem amh{qq:LL9}(h:Hs qq){bs:List Int}(hb:Arr qq bs):∀a∈bs,0<=a/\a < 6:=fun a ha=>by
 obtain⟨i,hi,rfl⟩:=List.mem_iff_getElem.mp ha;have hr:i < qq.length:=by rw[<-hb.len];exact hi
 have h1:=hb.ok i bs[i] qq[i] (List.getElem?_eq_getElem hi) (List.getElem?_eq_getElem hr);have h2:=(h.room qq[i] (List.getElem_mem hr)).2.1;omega
theorem acr(qq:LL9)(as:List Int)(k:Int){i j:Nat}(e:run qq as k i=run qq as k j):∀m,run qq as k (i+m)=run qq as k (j+m)
 | 0=>e
 | m+1=>by
  have ih:=acr qq as k e m;show(gone qq (run qq as k (i+m)).1 (run qq as k (i+m)).2,led qq (run qq as k (i+m)).1 (run qq as k (i+m)).2)=(gone qq (run qq as k (j+m)).1 (run qq as k (j+m)).2,led qq (run qq as k (j+m)).1 (run qq as k (j+m)).2);rw[ih]
theorem agy{qq:LL9}(h:Hs qq)(f:Nat->List Int×Int)(hf:∀i,i<=10*6 ^ qq.length->Arr qq (f i).1/\0<=(f i).2/\(f i).2 < (qq.length:Int)):∃i j,i < j/\j<=10*6 ^ qq.length/\f i=f j:=by
 have hm:=h.most;have cd:∀i,i<=10*6 ^ qq.length->0<=code (f i).1/\code (f i).1 < ((6 ^ qq.length:Nat):Int):=fun i hi=>by
  have a:=(hf i hi).1;have:=asv (amh h a);rw[a.len] at this;exact this
 obtain⟨i,j,hij,hj,e⟩:=pig (fun i=>10*code (f i).1+(f i).2) (10*6 ^ qq.length) fun i hi=>by
  have a:=hf i hi;have b:=cd i hi;generalize 6 ^ qq.length=q6 at *;constructor <;> omega
 have ai:=hf i (by omega)
 have aj:=hf j hj;have e:10*code (f i).1+(f i).2=10*code (f j).1+(f j).2:=e;have e1:(f i).2=(f j).2:=by omega
 have e2:(f i).1=(f j).1:=code_inj (by rw[ai.1.len,aj.1.len]) (amh h ai.1) (amh h aj.1) (by omega)
 exact⟨i,j,hij,hj,Prod.ext e2 e1⟩
theorem Sh.dr{qq:LL9}(s:Sh qq){x:Int}{d:Int}(hd:d∈dr qq x):0<=d:=by
 unfold My.dr at hd;rw[List.getD_eq_getElem?_getD] at hd;cases e:qq[x.toNat]? with
 | none=>rw[e] at hd;cases hd
 | some r =>
  rw[e] at hd;exact s r (List.mem_of_getElem? e) d hd
theorem aid{L:List Int}{p d:Int}(p0:0<=p)(p1:p < (L.length:Int))(x:Int):nxt (L.set p.toNat d) x=if x=p then d else nxt L x:=by
 unfold nxt
 by_cases hx:x=p
 ·subst hx;have hk:x.toNat < L.length:=by omega
  rw[if_pos p0,if_pos rfl,List.getD_eq_getElem?_getD,List.getElem?_set];simp[hk]
 ·rw[if_neg hx]
  by_cases h0:0<=x
  ·have:p.toNat≠x.toNat:=by omega
   rw[if_pos h0,if_pos h0,List.getD_eq_getElem?_getD,List.getElem?_set,if_neg this,<-List.getD_eq_getElem?_getD]
  ·rw[if_neg h0,if_neg h0]
theorem aaw(L:List Int)(x:Int)(m:Nat):itr L x (m+1)=nxt L (itr L x m):=ad8 L m 1 x
theorem afp{L:List Int}{p d:Int}(p0:0<=p)(p1:p < (L.length:Int)):∀(m:Nat) {x:Int},(∀i,i < m->itr L x i≠p)->itr (L.set p.toNat d) x m=itr L x m
 | 0,_,_=>rfl
 | m+1,x,h=>by
  have h0:x≠p:=h 0 (by omega)
  show itr (L.set p.toNat d) (nxt (L.set p.toNat d) x) m=itr L (nxt L x) m;rw[aid p0 p1,if_neg h0];exact afp p0 p1 m fun i hi=>h (i+1) (by omega)
theorem ajv{L:List Int}{p d x:Int}(p0:0<=p)(p1:p < (L.length:Int))(h:∃m,itr L x m=p):∃m,itr (L.set p.toNat d) x m=d:=by
 obtain⟨m0,e0⟩:=h;obtain⟨m,e,hmin⟩:=least (P:=fun m=>itr L x m=p) m0 e0
 refine⟨m+1,?_⟩;rw[aaw,afp p0 p1 m hmin,e,aid p0 p1,if_pos rfl]
theorem anc{L:List Int}{p d:Int}(p0:0<=p)(p1:p < (L.length:Int))(h:∃m,itr L d m=p):∃m,itr (L.set p.toNat d) d m=p/\(∀i,i < m->itr (L.set p.toNat d) d i≠p)/\nxt (L.set p.toNat d) p=d:=by
 obtain⟨m0,e0⟩:=h;obtain⟨m,e,hmin⟩:=least (P:=fun m=>itr L d m=p) m0 e0
 refine⟨m,?_,fun i hi =>?_,?_⟩
 ·rw[afp p0 p1 m hmin];exact e
 ·rw[afp p0 p1 i fun j hj=>hmin j (by omega)]
  exact hmin i hi
 ·rw[aid p0 p1,if_pos rfl]
theorem aeq{L:List Int}{d k1 k2:Int}{m1 m2:Nat}(e1:itr L d m1=k1)(n1:nxt L k1=d)(e2:itr L d m2=k2)(h2:∀i,i < m2->itr L d i≠k2):¬m1 < m2:=fun q=>by
 have z:itr L d (m1+1)=d:=by rw[aaw,e1,n1]
 have:itr L d (m2 - (m1+1))=k2:=by
  have y:=ad8 L (m1+1) (m2 - (m1+1)) d;rw[show m1+1+(m2 - (m1+1))=m2 by omega,z,e2] at y
  exact y.symm
 exact h2 _ (by omega) this
theorem su{qq:LL9}{a b c:Int}(h1:Rch qq a b)(h2:Rch qq b c):Rch qq a c:=by
 induction h2 with
 | base=>exact h1
 | step r h0 hd ih=>exact .step ih h0 hd
theorem afl{qq:LL9}{as:List Int}(ha:Arr qq as){k:Int}(h0:0<=k)(h1:k < (qq.length:Int)):led qq as k∈dr qq k:=by
 have a:=ha.at h0 h1;unfold led;have hk:(ar as k).toNat < (dr qq k).length:=by omega
 rw[List.getD_eq_getElem?_getD,List.getElem?_eq_getElem hk];exact List.getElem_mem hk
structure InG (qq:LL9) (as:List Int) (k:Int):Prop where
 back:∀x,Rch qq k x->Rch qq x k
 lead:∀x,Rch qq k x->∃m,itr (lasts qq as) x m=k
section
variable{qq:LL9}(h:Hs qq)(sh:Sh qq)
include h sh
theorem a2t{as:List Int}(ha:Arr qq as){k:Int}(h0:0<=k)(h1:k < (qq.length:Int)):0<=led qq as k/\led qq as k < (qq.length:Int) :=
 ⟨sh.dr (afl ha h0 h1),(a2u h ha h0 h1).2⟩
theorem InG.step{as:List Int}(ha:Arr qq as){k:Int}(h0:0<=k)(h1:k < (qq.length:Int))(g:InG qq as k):InG qq (gone qq as k) (led qq as k):=by
 have rk:Rch qq k (led qq as k):=.step .base h0 (afl ha h0 h1);refine⟨fun x hx=>su (g.back x (su rk hx)) rk,fun x hx =>?_⟩
 rw[abh h ha h0 h1];exact ajv h0 (by rw[vh];exact h1) (g.lead x (su rk hx))
theorem atx{as1 as2:List Int}(ha1:Arr qq as1)(ha2:Arr qq as2){k1 k2:Int}(h01:0<=k1)(h11:k1 < (qq.length:Int))(h02:0<=k2)(h12:k2 < (qq.length:Int))(g1:InG qq as1 k1)(g2:InG qq as2 k2)
  (e1:gone qq as1 k1=gone qq as2 k2) (e2:led qq as1 k1=led qq as2 k2):as1=as2/\k1=k2:=by
 have r1:Rch qq k1 (led qq as1 k1):=.step .base h01 (afl ha1 h01 h11);have r2:Rch qq k2 (led qq as2 k2):=.step .base h02 (afl ha2 h02 h12);obtain⟨m1,a1,b1,c1⟩:=anc h01 (by rw[vh];exact h11) (g1.lead _ r1)
 obtain⟨m2,a2,b2,c2⟩:=anc h02 (by rw[vh];exact h12) (g2.lead _ r2)
 rw[<-abh h ha1 h01 h11] at a1 b1 c1;rw[<-abh h ha2 h02 h12,<-e1,<-e2] at a2 b2 c2;have q1:=aeq a1 c1 a2 b2;have q2:=aeq a2 c2 a1 b1;have:m1=m2:=by omega
 subst this;have ek:k1=k2:=a1.symm.trans a2;subst ek;refine⟨?_,rfl⟩;have u1:=ahh h ha1 h01 h11;have u2:=ahh h ha2 h02 h12;rw[e1] at u1;rw[<-aj2 h ha1 h01 h11,<-aj2 h ha2 h02 h12,e1,<-u1,<-u2]
variable{as:List Int}(ha:Arr qq as){k:Int}(h0:0<=k)(h1:k < (qq.length:Int))
include ha h0 h1
theorem srun:∀t:Nat,Arr qq (run qq as k t).1/\0<=(run qq as k t).2/\(run qq as k t).2 < (qq.length:Int)
 | 0=>⟨ha,h0,h1⟩
 | t+1=>by
  obtain⟨a1,a2,a3⟩:=srun t;exact⟨aij h a1 a2 a3,a2t h sh a1 a2 a3⟩
theorem ax3(g:InG qq as k):∀t:Nat,InG qq (run qq as k t).1 (run qq as k t).2
 | 0=>g
 | t+1=>by
  obtain⟨a1,a2,a3⟩:=srun h sh ha h0 h1 t;exact InG.step h sh a1 a2 a3 (ax3 g t)
theorem amv(g:InG qq as k):∀i j:Nat,i < j->run qq as k i=run qq as k j->run qq as k (j - i)=(as,k)
 | 0,j,_,e=>by rw[Nat.sub_zero,<-e];rfl
 | i+1,0,q,_=>by omega
 | i+1,j+1,q,e=>by
  obtain⟨a1,a2,a3⟩:=srun h sh ha h0 h1 i;obtain⟨b1,b2,b3⟩:=srun h sh ha h0 h1 j;have ee:(gone qq (run qq as k i).1 (run qq as k i).2,led qq (run qq as k i).1 (run qq as k i).2)=(gone qq (run qq as k j).1 (run qq as k j).2,led qq (run qq as k j).1 (run qq as k j).2):=e;obtain⟨f1,f2⟩:=Prod.mk.inj ee;obtain⟨z1,z2⟩:=atx h sh a1 b1 a2 a3 b2 b3 (ax3 h sh ha h0 h1 g i) (ax3 h sh ha h0 h1 g j) f1 f2;have:=amv g i j (by omega) (Prod.ext z1 z2)
  rw[show j+1 - (i+1)=j - i by omega]
  exact this
theorem aox(g:InG qq as k):∃T,1<=T/\run qq as k T=(as,k):=by
 obtain⟨i,j,hij,_,e⟩:=agy h (run qq as k) fun i _=>srun h sh ha h0 h1 i
 exact⟨j - i,by omega,amv h sh ha h0 h1 g i j hij e⟩
theorem alj(i:Nat):∀m:Nat,Rch qq (run qq as k i).2 (run qq as k (i+m)).2
 | 0=>.base
 | m+1=>by
  obtain⟨a1,a2,a3⟩:=srun h sh ha h0 h1 (i+m);exact .step (alj i m) a2 (afl a1 a2 a3)
theorem atk{x:Int}(hx:0<=x)(t:Nat):ar (run qq as k (t+1)).1 x=if x=(run qq as k t).2 then (ar (run qq as k t).1 x+1) % ((dr qq x).length:Int) else ar (run qq as k t).1 x:=by
 obtain⟨a1,a2,a3⟩:=srun h sh ha h0 h1 t;show ar (gone qq (run qq as k t).1 (run qq as k t).2) x=_
 by_cases e:x=(run qq as k t).2
 ·rw[if_pos e,e];exact ug (by have:=a1.len;omega)
 ·rw[if_neg e];exact abn hx a2 e
theorem atl{x:Int}(hx:0<=x)(i:Nat):∀d:Nat,(∀j,i<=j->j < i+d->(run qq as k j).2≠x)->ar (run qq as k (i+d)).1 x=ar (run qq as k i).1 x
 | 0,_=>rfl
 | d+1,q=>by
  have e:=atk h sh ha h0 h1 hx (i+d);rw[if_neg (fun z=>q (i+d) (by omega) (by omega) z.symm)] at e
  rw[show i+(d+1)=i+d+1 by omega,e]
  exact atl hx i d fun j j1 j2=>q j j1 (by omega)
variable{T:Nat}(hT:1<=T)(eT:run qq as k T=(as,k))
include hT eT
theorem per(i:Nat):run qq as k (i+T)=run qq as k i:=by
 have:=acr qq as k (i:=T) (j:=0) eT i;rw[Nat.zero_add,Nat.add_comm] at this;exact this
theorem ab5:∀n:Nat,run qq as k (n*T)=(as,k)
 | 0=>by rw[Nat.zero_mul];rfl
 | n+1=>by rw[Nat.succ_mul,per h sh ha h0 h1 hT eT];exact ab5 n
theorem turns{x:Int}(hx:0<=x){i:Nat}(hi:(run qq as k i).2=x):∀n:Nat,∃i',(run qq as k i').2=x/\ar (run qq as k i').1 x=(ar (run qq as k i).1 x+n) % ((dr qq x).length:Int)
 | 0=>by
  obtain⟨a1,a2,a3⟩:=srun h sh ha h0 h1 i;rw[hi] at a2 a3;have b:=a1.at a2 a3;exact⟨i,hi,by rw[show((0:Nat):Int)=0 from rfl,Int.add_zero,Int.emod_eq_of_lt b.1 b.2]⟩
 | n+1=>by
  obtain⟨i',e1,e2⟩:=turns hx hi n;obtain⟨d,⟨d1,d2⟩,dm⟩:=least (P:=fun d=>1<=d/\(run qq as k (i'+d)).2=x) T ⟨hT,by rw[per h sh ha h0 h1 hT eT];exact e1⟩
  refine⟨i'+d,d2,?_⟩;have s1:=atk h sh ha h0 h1 hx i';rw[if_pos e1.symm,e2] at s1;have s2:=atl h sh ha h0 h1 hx (i'+1) (d - 1) fun j j1 j2 z=>dm (j - i') (by omega) ⟨by omega,by rw[show i'+(j - i')=j by omega];exact z⟩
  rw[show i'+1+(d - 1)=i'+d by omega,s1] at s2
  rw[s2,show((n+1:Nat):Int)=(n:Int)+1 by omega,Int.emod_add_emod]
  congr 1
  omega
theorem aok{x:Int}(r:Rch qq k x):∃i,(run qq as k i).2=x:=by
 induction r with
 | base=>exact⟨0,rfl⟩
 | @step x d r q hd ih =>
  obtain⟨i,hi⟩:=ih;obtain⟨a1,a2,a3⟩:=srun h sh ha h0 h1 i;rw[hi] at a2 a3;have b:=a1.at a2 a3;obtain⟨j,hj,ej⟩:=List.mem_iff_getElem.mp hd;obtain⟨i',e1,e2⟩:=turns h sh ha h0 h1 hT eT q hi (j+(dr qq x).length - (ar (run qq as k i).1 x).toNat);have e3:ar (run qq as k i').1 x=(j:Int):=by
   rw[e2,show ar (run qq as k i).1 x+((j+(dr qq x).length - (ar (run qq as k i).1 x).toNat:Nat):Int)=(j:Int)+((dr qq x).length:Int) by omega,Int.add_emod_right]
   exact Int.emod_eq_of_lt (by omega) (by omega)
  refine⟨i'+1,?_⟩;show led qq (run qq as k i').1 (run qq as k i').2=d;rw[e1];unfold led;rw[e3,Int.toNat_natCast,List.getD_eq_getElem?_getD,List.getElem?_eq_getElem (by omega)]
  exact ej
theorem apr:InG qq as k:=by
 have led:∀t j:Nat,j<=t->∃m,itr (lasts qq (run qq as k t).1) (run qq as k j).2 m=(run qq as k t).2:=by
  intro t
  induction t with
  | zero=>intro j hj;exact⟨0,by rw[show j=0 by omega];rfl⟩
  | succ t ih =>
   intro j hj;obtain⟨a1,a2,a3⟩:=srun h sh ha h0 h1 t
   by_cases e:j=t+1
   ·exact⟨0,by rw[e];rfl⟩
   ·have z:=ajv (d:=(run qq as k (t+1)).2) a2 (by rw[vh];exact a3) (ih j (by omega))
    have l:=abh h a1 a2 a3;show ∃m,itr (lasts qq (gone qq (run qq as k t).1 (run qq as k t).2)) (run qq as k j).2 m=_
    rw[l];exact z
 refine⟨fun x hx =>?_,fun x hx =>?_⟩
 ·obtain⟨i,rfl⟩:=aok h sh ha h0 h1 hT eT hx;have:=alj h sh ha h0 h1 i (i*T+T - i);have e:i+(i*T+T - i)=(i+1)*T:=by
   have:i<=i*T:=Nat.le_mul_of_pos_right i (by omega)
   rw[Nat.succ_mul];omega
  rw[e,ab5 h sh ha h0 h1 hT eT] at this;exact this
 ·obtain⟨i,rfl⟩:=aok h sh ha h0 h1 hT eT hx;have:=led ((i+1)*T) i (by
   have:i<=i*T:=Nat.le_mul_of_pos_right i (by omega)
   rw[Nat.succ_mul];omega)
  rw[ab5 h sh ha h0 h1 hT eT] at this;exact this
end
@[simp] theorem apd(qq:LL9)(d:D):jw [.val (hD qq),.val d]=some (.ok (.v (.bl (adt 0 ((qq.length:Int) - 1) d))),[.val (hD qq),.val d]):=by
 simp[jw,aaf,hD,hDs]
theorem agi{qq:LL9}{a:Int}(h0:0<=a)(h1:a < (qq.length:Int)):fj [.val (hD qq),.val (.int a)]=some (.ok (.v .non),[.val (hD qq),.val (.int a)]):=by
 have h1:a<=(qq.length:Int) - 1:=by omega
 simp[fj,ut,adt,h0,h1]
theorem ajy{qq:LL9}(h:Hs qq){as:List Int}(ha:Arr qq as):vz [.val (hD qq),.val (.tup (as.map D.int))]=some (.ok (.v (.bl true)),[.val (hD qq),.val (.tup (as.map D.int))]):=by
 have hl:=ha.len;have hle:(as.map D.int).length<=(hDs qq).length:=by rw[zz,List.length_map];omega
 have comp:=za (b:=bTup 2 (jg (bj 0) (jg (bj 1) bNil))) (mc:=ret true) (me:=aa1) (fun j ys ρ=>∃o1 o2,ρ=[o1,o2]/\ys=(List.replicate j true).map D.bl)
  (l:=mz (as.map D.int) (hDs qq)) (ys:=[]) (ρ:=[.emp,.emp]) 0 ⟨.emp,.emp,rfl,rfl⟩ ?_
 ·obtain⟨ys,ρ',e6,o1,o2,rfl,rfl⟩:=comp;rw[apt hle,List.length_map,Nat.zero_add] at e6;have hc:as.length<=capS:=b7 (by have:=h.most;omega)
  have e1:jo [.val (.tup (as.map D.int)),.val (.int (qq.length:Int)),.val (.int (qq.length:Int))]=some (.ok (.v (.bl true)),[.val (.tup (as.map D.int)),.val (.int (qq.length:Int)),.val (.int (qq.length:Int))]):=by
   have:(as.length:Int)=qq.length:=by omega
   simp[jo,yt,isTy,this]
  have hle2:as.length<=(hDs qq).length:=by simpa using hle
  have hl3:=zz qq;have hl4:qq.length<=capS:=hl▸hc;have hbl:aah (List.replicate qq.length (D.bl true))=some (List.replicate qq.length true):=by
   have:=ahd (List.replicate qq.length true);rwa[List.map_replicate] at this
  simp only[hD];simp[vz,afv,hl3,e1,e6,hl,hl4,hbl]
 ·rintro j d ys ρ hd ⟨o1,o2,rfl,rfl⟩
  obtain⟨d1,d2,g1,g2,rfl⟩:=ai3 hd;obtain⟨r,hr,rfl⟩:=arz g2;rw[List.getElem?_map] at g1;obtain⟨a,ga,rfl⟩:=Option.map_eq_some_iff.mp g1;obtain⟨b0,b1⟩:=ha.ok j a r ga hr;have b2:a<=(r.length:Int) - 1:=by omega
  refine⟨[.val (.int a),.val (.tup (r.map D.int))],_,true,by simp,rfl,.inr ⟨rfl,.bl true,[.val (.int a),.val (.tup (r.map D.int))],by simp[aa1,adt,b0,b2],_,_,rfl,?_⟩⟩
  rw[List.replicate_succ',List.map_append];rfl
theorem ae6{qq:LL9}(h:Hs qq){as:List Int}(ha:Arr qq as){k:Int}(h0:0<=k)(h1:k < (qq.length:Int)):jn [.val (hD qq),.val (.tup (as.map D.int)),.val (.int k)]=some (.ok (.v .non),[.val (hD qq),.val (.tup (as.map D.int)),.val (.int k)]):=by
 have r1:jd [.val (hD qq),.val (.tup (as.map D.int))]=some (.ok (.v .non),[.val (hD qq),.val (.tup (as.map D.int))]):=by
  simp[jd,wy,ajy h ha]
 have r2:=agi h0 h1;simp[jn,yp,r1,r2]
def axw(qq:LL9):Bool:=qq.all fun r=>decide (0<=minI r)
theorem a4i{C:M Rv}{s:Sl}{f:List Int->Bool}{qq:LL9}(e:C [s]=some (.ok (.fr (qq.map fun r=>D.bl (f r))),[s])):fnD 1 1 (dRet (gq (g1 gAll) (bw (M.d C) mNil))) [s]=some (.ok (.v (.bl (qq.all f))),[s]):=by
 simp[e,Function.comp_def]
theorem apc{qq:LL9}(h:Hs qq):aaz [.val (hD qq)]=some (.ok (.v (.bl (axw qq))),[.val (hD qq)]):=by
 have ef:compD (bj 0) (ret true) abl (hDs qq) [] [.emp]=some (.ok (qq.map fun r=>.bl (decide (0<=minI r))),zx .emp (hDs qq)::[]):=by
  rw[oh (f:=fun d=>match d with | .tup l=>.bl (decide (0<=minI ((vp l).getD []))) | _=>.non)]
  ·simp[hDs,Function.comp_def]
  ·intro d hd;obtain⟨r,hr,rfl⟩:=List.mem_map.mp hd;have hne:r≠[]:=fun z=>by have:=(h.room r hr).1;rw[z] at this;simp at this
   simp[abl,avu hne]
 have hc:(qq.map fun r=>D.bl (decide (0<=minI r))).length<=capS:=by rw[List.length_map];exact b7 (Nat.le_trans h.most (by decide))
 have e1:=avb (src:=[none]) (mi:=ph (mVar 0)) (ρ:=[.val (hD qq)]) (ρ1:=[.val (hD qq)]) (b:=bj 0) (mc:=ret true) (me:=abl) (l:=hDs qq) rfl rfl ef hc;unfold aaz aj6;exact a4i e1
theorem ay2:∀{r:List Int},r≠[]->minI r∈r
 | [],h=>absurd rfl h
 | x::r,_=>by
  have:∀(r:List Int) (x:Int),r.foldl (fun m y=>if decide (y < m)=true then y else m) x∈x::r:=by
   intro r
   induction r with
   | nil=>intro x;simp
   | cons z t ih =>
    intro x;rw[List.foldl_cons];have:=ih (if decide (z < x)=true then z else x)
    rcases List.mem_cons.mp this with e | e
    ·rw[e];split <;> simp
    ·exact List.mem_cons_of_mem _ (List.mem_cons_of_mem _ e)
  exact this r x
theorem at9{qq:LL9}(h:Hs qq)(s:Sh qq):axw qq=true:=by
 unfold axw;rw[List.all_eq_true];intro r hr;have hne:r≠[]:=fun z=>by have:=(h.room r hr).1;rw[z] at this;simp at this
 exact decide_eq_true (s r hr _ (ay2 hne))
theorem agh{qq:LL9}(h:Hs qq)(s:Sh qq):jm [.val (hD qq)]=some (.ok (.v .non),[.val (hD qq)]):=by
 have e:=apc h;rw[at9 h s] at e;simp[jm,yo,e]
def addD(ms:List Int)(d:Int):List Int:=if 0<=d/\d∉ms then ms++[d] else ms
theorem awi(ms:List Int)(d x:Int):x∈addD ms d↔x∈ms∨(x=d/\0<=d):=by
 unfold addD;split
 ·rename_i h;simp only[List.mem_append,List.mem_singleton];constructor
  ·rintro(q | q)
   ·exact .inl q
   ·exact .inr ⟨q,h.1⟩
  ·rintro(q | ⟨q,_⟩)
   ·exact .inl q
   ·exact .inr q
 ·rename_i h;constructor
  ·exact .inl
  ·rintro(q | ⟨rfl,q⟩)
   ·exact q
   ·exact Classical.byContradiction fun z=>h ⟨q,z⟩
theorem apo{ms:List Int}(h:ms.Nodup)(d:Int):(addD ms d).Nodup:=by
 unfold addD;split
 ·rename_i q;rw[List.nodup_append];refine⟨h,by simp,fun x hx y hy e =>?_⟩
  rw[List.mem_singleton] at hy;subst hy;subst e;exact q.2 hx
 ·exact h
theorem awh(ms:List Int)(d:Int):∃t,addD ms d=ms++t:=by
 unfold addD;split
 ·exact⟨_,rfl⟩
 ·exact⟨[],by simp⟩
theorem awj(ms:List Int)(d:Int):(addD ms d).length<=ms.length+1:=by
 unfold addD;split <;> simp
theorem adb:∀(ds ms:List Int) (x:Int),x∈ds.foldl addD ms↔x∈ms∨(x∈ds/\0<=x)
 | [],ms,x=>by simp
 | d::r,ms,x=>by
  rw[List.foldl_cons,adb r,awi];simp only[List.mem_cons];constructor
  ·rintro((q | ⟨rfl,q⟩) | ⟨q,w⟩)
   ·exact .inl q
   ·exact .inr ⟨.inl rfl,q⟩
   ·exact .inr ⟨.inr q,w⟩
  ·rintro(q | ⟨rfl | q,w⟩)
   ·exact .inl (.inl q)
   ·exact .inl (.inr ⟨rfl,w⟩)
   ·exact .inr ⟨q,w⟩
theorem ag9:∀(ds:List Int) {ms:List Int},ms.Nodup->(ds.foldl addD ms).Nodup
 | [],_,h=>h
 | d::r,_,h=>ag9 r (apo h d)
theorem aiq:∀(ds ms:List Int),∃t,ds.foldl addD ms=ms++t
 | [],ms=>⟨[],by simp⟩
 | d::r,ms=>by
  obtain⟨t,e⟩:=awh ms d;obtain⟨u,e2⟩:=aiq r (addD ms d);exact⟨t++u,by rw[List.foldl_cons,e2,e,List.append_assoc]⟩
theorem ahc(a b c e:Sl):∀(ds ms:List Int) (o:Sl),ms.length+ds.length<=100->∃o',forD (bj 5) u9 (ds.map D.int) [a,b,.own none (ms.map D.int),c,e,o]=some (.nx,[a,b,.own none ((ds.foldl addD ms).map D.int),c,e,o'])
 | [],ms,o,_=>⟨o,rfl⟩
 | d::r,ms,o,hl=>by
  rw[List.length_cons] at hl;have hal:=awj ms d;obtain⟨o',q⟩:=ahc a b c e r (addD ms d) (.val (.int d)) (by omega)
  refine⟨o',?_⟩;have hc:ms.length < capS:=by rw[azy];omega
  have es:u9 [a,b,.own none (ms.map D.int),c,e,.val (.int d)]=some (.nx,[a,b,.own none ((addD ms d).map D.int),c,e,.val (.int d)]):=by
   have ei:=al6 true d ms
   by_cases h0:0<=d
   ·by_cases h1:d∈ms
    ·have:addD ms d=ms:=if_neg fun z=>z.2 h1
     rw[this];simp[u9,h0,ei,h1]
    ·have:addD ms d=ms++[d]:=if_pos ⟨h0,h1⟩;rw[this,List.map_append];simp[u9,h0,ei,h1,hc]
   ·have:addD ms d=ms:=if_neg fun z=>h0 z.1
    rw[this];simp[u9,h0]
  rw[List.map_cons,lg,List.foldl_cons];simp only[aog,List.set_cons_succ,List.set_cons_zero];rw[es];exact q
theorem at6{l:List Int}(h:l.Nodup):(sortI l).Pairwise (· < ·):=by
 have h1:=aal l;have h2:(sortI l).Nodup:=(sortI_perm l).nodup_iff.mpr h;have:=h1.and h2;exact this.imp fun⟨a,b⟩=>by omega
structure Come (qq:LL9) (a:Int) (cs:List Int):Prop where
 lt:cs.Pairwise (· < ·)
 mem:∀x,x∈cs↔Rch qq a x/\0<=x
 len:cs.length<=10
theorem aeo{qq:LL9}(h:Hs qq){a:Int}(ha:0<=a/\a < (qq.length:Int)) :
  ∃cs:List Int,uc [.val (hD qq),.val (.int a)]=some (.ok (.v (.tup (cs.map D.int))),[.val (hD qq),.val (.int a)])/\Come qq a cs:=by
 have hm:=h.most;have loop:=aa9 (c:=ye) (g:=aba)
  (fun k ρ=>∃(ms:List Int) (i:Nat) (o4 o5:Sl),ρ=[.val (hD qq),.val (.int a),.own none (ms.map D.int),.val (.int (i:Nat)),o4,o5]/\k=20 - i/\i<=ms.length/\ms.Nodup/\a∈ms/\(∀x∈ms,Rch qq a x/\0<=x)/\∀j (hj:j < ms.length),j < i->∀d∈dr qq ms[j],0<=d->d∈ms)
  (fun ρ=>∃(ms:List Int) (o3 o4 o5:Sl),ρ=[.val (hD qq),.val (.int a),.own none (ms.map D.int),o3,o4,o5]/\ms.Nodup/\∀x,x∈ms↔Rch qq a x/\0<=x) ?_ fuel 20 [.val (hD qq),.val (.int a),.own none ([a].map D.int),.val (.int ((0:Nat):Int)),.emp,.emp] (Nat.lt_trans (by decide) aip)
  ⟨[a],0,.emp,.emp,rfl,rfl,by simp,by simp,by simp,by simp;exact⟨.base,ha.1⟩,fun j hj hlt=>absurd hlt (Nat.not_lt_zero _)⟩
 ·obtain⟨ρ',e,ms,o3,o4,o5,rfl,hn,hm'⟩:=loop;have e:whileD ye aba fuel [.val (hD qq),.val (.int a),.own none [.int a],.val (.int 0),.emp,.emp]=some (.nx,[.val (hD qq),.val (.int a),.own none (ms.map D.int),o3,o4,o5]):=e;have hlen:ms.length<=10:=by
   have:=afh (qq.length+3) ([-3,-2,-1]++ms) (by
    rw[List.nodup_append];refine⟨by decide,hn,fun x hx y hy e =>?_⟩
    subst e;have:=((hm' x).mp hy).2;simp at hx;omega) (fun x hx=>by
    rcases List.mem_append.mp hx with hx | hx
    ·simp at hx;omega
    ·have:=(hm' x).mp hx;have:=Rch.range h ha this.1;omega)
   simp at this;omega
  have es:=aj9 (ns:=ms) (by omega)
  have hp:=sortI_perm ms;refine⟨sortI ms,?_,at6 hn,fun x=>by rw[hp.mem_iff];exact hm' x,by rw[hp.length_eq];exact hlen⟩
  have er:fj [.val (hD qq),.val (.int a)]=some (.ok (.v .non),[.val (hD qq),.val (.int a)]):=by
   have h1:a<=(qq.length:Int) - 1:=by omega
   simp[fj,ut,adt,ha.1,h1]
  simp only[hD] at e er ⊢
  simp[uc,aj7,er,e,es]
 ·rintro k ρ ⟨ms,i,o4,o5,rfl,rfl,hi,hn,h0,hr,hc⟩
  have hz:=ax7 h ha hn fun x hx=>(hr x hx).1
  by_cases hlt:i < ms.length
  ·obtain⟨q1,q2⟩:=hr _ (List.getElem_mem hlt);have q3:=(Rch.range h ha q1).2;obtain⟨d1,d2,d3⟩:=h.dr q2 q3;have er:=ame q2 q3;have ei:=a4g hlt;obtain⟨o5',el⟩:=ahc (.val (hD qq)) (.val (.int a)) (.val (.int (i:Nat))) (.val (.tup ((dr qq ms[i]).map D.int))) (dr qq ms[i]) ms o5 (by omega)
   refine .inr ⟨[.val (hD qq),.val (.int a),.own none (ms.map D.int),.val (.int (i:Nat)),o4,o5],[.val (hD qq),.val (.int a),.own none (((dr qq ms[i]).foldl addD ms).map D.int),.val (.int ((i+1:Nat):Int)),.val (.tup ((dr qq ms[i]).map D.int)),o5'],20 - (i+1),?_,?_,by omega,(dr qq ms[i]).foldl addD ms,i+1,_,_,rfl,rfl,?_,ag9 _ hn,(adb _ _ _).mpr (.inl h0),fun x hx =>?_,fun j hj hji d hd hd0 =>?_⟩
   ·have:(i:Int) < (ms.length:Int):=by omega
    simp[ye,this]
   ·have hcast:((i+1:Nat):Int)=(i:Int)+1:=by omega
    rw[hcast];simp only[hD] at el ⊢
    generalize (dr qq ms[i]).map D.int=dd at er el;simp[aba,ei,er,el]
   ·obtain⟨t,et⟩:=aiq (dr qq ms[i]) ms;rw[et,List.length_append];omega
   ·rcases(adb _ _ _).mp hx with hx | ⟨hx,hx0⟩
    ·exact hr x hx
    ·exact⟨.step q1 q2 hx,hx0⟩
   ·obtain⟨t,et⟩:=aiq (dr qq ms[i]) ms;have hjl:j < ms.length:=by omega
    have ej:((dr qq ms[i]).foldl addD ms)[j]=ms[j]:=by
     simp only[et];exact List.getElem_append_left hjl
    rw[ej] at hd;rcases Nat.lt_or_ge j i with z | z
    ·exact(adb _ _ _).mpr (.inl (hc j hjl z d hd hd0))
    ·have:j=i:=by omega
     subst this;exact(adb _ _ _).mpr (.inr ⟨hd,hd0⟩)
  ·refine .inl ⟨[.val (hD qq),.val (.int a),.own none (ms.map D.int),.val (.int (i:Nat)),o4,o5],?_,ms,_,_,_,rfl,hn,fun x=>⟨fun hx=>hr x hx,fun⟨hx,hx0⟩ =>?_⟩⟩
   ·have:¬(i:Int) < (ms.length:Int):=by omega
    simp[ye,this]
   ·exact alm h0 (fun y hy d hd hd0=>by
     obtain⟨j,hj,rfl⟩:=List.mem_iff_getElem.mp hy;exact hc j hj (by omega) d hd hd0) hx hx0
open Classical in
noncomputable def f9(qq:LL9)(a:Int):List Int:=if q:Hs qq/\0<=a/\a < (qq.length:Int) then (aeo q.1 q.2).choose else []
section
variable{qq:LL9}(h:Hs qq){a:Int}(ha:0<=a/\a < (qq.length:Int))
include h ha
theorem jq:uc [.val (hD qq),.val (.int a)]=some (.ok (.v (.tup ((f9 qq a).map D.int))),[.val (hD qq),.val (.int a)])/\Come qq a (f9 qq a):=by
 unfold f9;rw[dif_pos ⟨h,ha⟩];exact(aeo h ha).choose_spec
theorem qw:∀x∈f9 qq a,0<=x/\x < (qq.length:Int):=fun x hx=>by
 obtain⟨q,q0⟩:=((jq h ha).2.mem x).mp hx;exact⟨q0,(Rch.range h ha q).2⟩
end
theorem azi(neg:Bool)(a:Int)(ns:List Int):gIn neg (.int a) (.tup (ns.map D.int))=some (.v (.bl (if neg then !decide (a∈ns) else decide (a∈ns)))):=al6 neg a ns
noncomputable def ac6(qq:LL9)(k:Int):List Int:=(f9 qq k).filter fun x => !decide (k∈f9 qq x)
section
variable{qq:LL9}(h:Hs qq){k:Int}(hk:0<=k/\k < (qq.length:Int))
include h hk
theorem aj3:wg [.val (hD qq),.val (.int k)]=some (.ok (.fr ((ac6 qq k).map D.int)),[.val (hD qq),.val (.int k)]):=by
 obtain⟨e1,C⟩:=jq h hk;have ef:compD (bj 0) aa6 aa2 ((f9 qq k).map D.int) [] [.emp,.val (.int k),.val (hD qq)]=some (.ok ((ac6 qq k).map D.int),zx .emp ((f9 qq k).map D.int)::[.val (.int k),.val (hD qq)]):=by
  rw[uf (p:=fun d=>match d with | .int x => !decide (k∈f9 qq x) | _=>false) (f:=fun d=>d)]
  ·rw[List.nil_append,List.map_id',List.filter_map];rfl
  ·intro d hd;obtain⟨x,hx,rfl⟩:=List.mem_map.mp hd;have hr:=qw h hk x hx;obtain⟨e2,_⟩:=jq h hr;have e3:=azi true k (f9 qq x);generalize (f9 qq x).map D.int=cc at *;generalize hD qq=hh at *;simp[aa6,e2,e3]
  ·intro d hd _;obtain⟨x,hx,rfl⟩:=List.mem_map.mp hd;simp[aa2]
 have hc:((ac6 qq k).map D.int).length<=capS:=by
  rw[List.length_map];exact b7 (Nat.le_trans (List.length_filter_le _ _) (Nat.le_trans C.len (by decide)))
 generalize (ac6 qq k).map D.int=gg at *;generalize (f9 qq k).map D.int=cc at *;generalize hD qq=hh at *;simp[wg,afw,e1,ef,hc]
theorem qx(sh:Sh qq){x:Int}:x∈f9 qq k↔Rch qq k x:=by
 obtain⟨_,C⟩:=jq h hk;rw[C.mem];refine⟨fun q=>q.1,fun q=>⟨q,?_⟩⟩
 cases q with
 | base=>exact hk.1
 | step r h0 hd=>exact sh.dr hd
theorem aii(sh:Sh qq):ac6 qq k=[]↔∀x,Rch qq k x->Rch qq x k:=by
 unfold ac6;rw[List.filter_eq_nil_iff];constructor
 ·intro q x hx;have hm:=(qx h hk sh).mpr hx;have:=q x hm;have hr:=qw h hk x hm;exact(qx h hr sh).mp (by simpa using this)
 ·intro q x hx;have hr:=qw h hk x hx;have:=(qx h hr sh).mpr (q x ((qx h hk sh).mp hx));simp[this]
end
theorem ay8{L:List Int}(w:Ways L){s:Int}(hs:s∈ie (lp L))(m:Nat):0<=itr L s m/\itr L s m < (L.length:Int):=by
 have tI:ie (lp L)=(upto L.length).filter (caught (lp L)):=by unfold ie;rw[ajs]
 rw[tI] at hs;obtain⟨a1,a2⟩:=List.mem_filter.mp hs;have a0:=ux a1;have hc:=(zb _ _).mp a2;have hr:∀m:Nat,Rch (lp L) s (itr L s m):=fun m=>by
  induction m with
  | zero=>exact .base
  | succ m ih =>
   have h0:=hc _ ih;have hl:=arl w m a0.2;rw[ad8];refine .step ih h0 ?_;rw[a3u h0 hl,List.mem_singleton];show nxt L (itr L s m)=_;exact if_pos h0
 exact⟨hc _ (hr m),arl w m a0.2⟩
def rg(L:List Int)(p:Int)(t:Nat):List Int:=(List.range (t+1)).map fun i=>itr L p i
section
variable{qq:LL9}(h:Hs qq)(sh:Sh qq){as:List Int}(ha:Arr qq as)
include h sh ha
theorem apa{x:Int}(h0:0<=x)(h1:x < (qq.length:Int)):(lasts qq as).getD x.toNat 0=ad7 qq as x:=by
 have hx:x.toNat < qq.length:=by omega
 rw[List.getD_eq_getElem?_getD,afn hx,show((x.toNat:Nat):Int)=x by omega]
 rfl
theorem arc{x:Int}(h0:0<=x)(h1:x < (qq.length:Int)):ad7 qq as x∈dr qq x:=by
 have a:=(h.dr h0 h1).1;unfold ad7;have w0:0 < wd qq x:=by unfold wd;omega
 have b0:=Int.emod_nonneg (ar as x - 1) (show wd qq x≠0 by omega)
 have b1:=Int.emod_lt_of_pos (ar as x - 1) w0;have hk:((ar as x - 1) % wd qq x).toNat < (dr qq x).length:=by unfold wd at *;omega
 rw[List.getD_eq_getElem?_getD,List.getElem?_eq_getElem hk];exact List.getElem_mem hk
theorem au2{x:Int}(h0:0<=x)(h1:x < (qq.length:Int)):nxt (lasts qq as) x=ad7 qq as x:=by
 unfold nxt;rw[if_pos h0];exact apa h sh ha h0 h1
end
def stO(s:List Int×Int):D:=.tup [.tup (s.1.map D.int),.int s.2]
def stD(qq:LL9)(as:List Int)(k:Int)(t:Nat):List D:=(List.range t).map fun i=>stO (run qq as k i)
def kvR(qq:LL9)(as:List Int)(k:Int)(t:Nat):Kvs:=(List.range t).map fun i=>(run qq as k i,(i:Int))
theorem ald(qq:LL9)(as:List Int)(k:Int)(t:Nat):(stD qq as k t).length=t:=by unfold stD;simp
theorem aty(qq:LL9)(as:List Int)(k:Int)(t:Nat):stD qq as k (t+1)=stD qq as k t++[stO (run qq as k t)]:=by
 unfold stD;rw[List.range_succ,List.map_append];rfl
theorem anh(qq:LL9)(as:List Int)(k:Int)(t:Nat):kvR qq as k (t+1)=kvR qq as k t++[(run qq as k t,(t:Int))]:=by
 unfold kvR;rw[List.range_succ,List.map_append];rfl
theorem ay6(qq:LL9)(as:List Int)(k:Int)(t:Nat):(kvR qq as k t).length=t:=by unfold kvR;simp
theorem alx{qq:LL9}{as:List Int}{k:Int}{t:Nat}{s:StK}:s∈(kvR qq as k t).map (·.1)↔∃i,i < t/\s=run qq as k i:=by
 unfold kvR;rw[List.map_map,List.mem_map];constructor
 ·rintro⟨i,hi,rfl⟩
  exact⟨i,List.mem_range.mp hi,rfl⟩
 ·rintro⟨i,hi,rfl⟩
  exact⟨i,List.mem_range.mpr hi,rfl⟩
theorem ana{qq:LL9}{as:List Int}{k:Int}:∀{N:Nat},(∀i j,i < j->j < N->run qq as k i≠run qq as k j)->∀{a:Nat},a < N->(kvR qq as k N).lookup (run qq as k a)=some (a:Int)
 | 0,_,a,h=>by omega
 | N+1,hd,a,h=>by
  rw[anh,List.lookup_append]
  by_cases q:a < N
  ·rw[ana (fun i j x y=>hd i j x (by omega)) q]
   rfl
  ·have e:a=N:=by omega
   subst e;have:(kvR qq as k a).lookup (run qq as k a)=none:=by
    rw[List.lookup_eq_none_iff];intro p hp;obtain⟨i,hi,rfl⟩:=List.mem_map.mp hp;have:=hd i a (List.mem_range.mp hi) (by omega)
    simpa using fun z=>this z.symm
   rw[this];simp
abbrev mkR:M D:=mTup (bw (mVar 1) (bw (mVar 2) mNil))
abbrev mvR:M D:=M.d (gq (g1 gL9) (dq 4 mNil))
abbrev maR:M Rv:=M.v (mMut 4 vy (bw (mTup (bw (mVar 1) (bw (mVar 2) mNil))) mNil))
abbrev mlR:M D:=M.d (mFn qt [some 0,some 1,none] (b8 0 (b8 1 (bf (mVar 2) gn))))
abbrev roR(hh:D)(as:List D)(k:Int)(S:List D):Ro:=[.val hh,.val (.tup as),.val (.int k),.emp,.own none S,.emp]
section
variable{qq:LL9}(h:Hs qq)(sh:Sh qq){as:List Int}(ha:Arr qq as){k:Int}(h0:0<=k)(h1:k < (qq.length:Int))
include h sh ha h0 h1
theorem aqe(t:Nat)(ht:t<=100000)(hn:∀i,i < t->run qq as k i≠run qq as k t) :
  axy mkR mvR maR mlR 1 2 (kvR qq as k t) (roR (hD qq) ((run qq as k t).1.map D.int) (run qq as k t).2 (stD qq as k t))=some (kvR qq as k (t+1),roR (hD qq) ((run qq as k (t+1)).1.map D.int) (run qq as k (t+1)).2 (stD qq as k (t+1))):=by
 obtain⟨a1,a2,a3⟩:=srun h sh ha h0 h1 t;have el:=ay5 h a1 a2 a3;have hl:=ald qq as k t;have hcap:(stD qq as k t).length < capS:=by rw[hl];unfold capS;omega
 have ek:keyD (.tup [.tup ((run qq as k t).1.map D.int),.int (run qq as k t).2])=some (run qq as k t):=al0 _ _;have e1:okR mvR (roR (hD qq) ((run qq as k t).1.map D.int) (run qq as k t).2 (stD qq as k t))=some (.int (t:Int),roR (hD qq) ((run qq as k t).1.map D.int) (run qq as k t).2 (stD qq as k t)):=afe (by
  generalize stD qq as k t=SS at *;simp[roR,hl])
 have e2:okR mkR (roR (hD qq) ((run qq as k t).1.map D.int) (run qq as k t).2 (stD qq as k t))=some (.tup [.tup ((run qq as k t).1.map D.int),.int (run qq as k t).2],roR (hD qq) ((run qq as k t).1.map D.int) (run qq as k t).2 (stD qq as k t)):=afe (by simp[roR])
 have e3:okR maR (roR (hD qq) ((run qq as k t).1.map D.int) (run qq as k t).2 (stD qq as k t))=some (.v .non,roR (hD qq) ((run qq as k t).1.map D.int) (run qq as k t).2 (stD qq as k t++[.tup [.tup ((run qq as k t).1.map D.int),.int (run qq as k t).2]])):=afe (by
  generalize stD qq as k t=SS at *;simp[roR,hcap])
 have e4:okR mlR (roR (hD qq) ((run qq as k t).1.map D.int) (run qq as k t).2 (stD qq as k t++[.tup [.tup ((run qq as k t).1.map D.int),.int (run qq as k t).2]]))=some (.tup [.tup ((gone qq (run qq as k t).1 (run qq as k t).2).map D.int),.int (led qq (run qq as k t).1 (run qq as k t).2)],roR (hD qq) ((run qq as k t).1.map D.int) (run qq as k t).2 (stD qq as k t++[.tup [.tup ((run qq as k t).1.map D.int),.int (run qq as k t).2]])):=afe (by
  generalize stD qq as k t++[.tup [.tup ((run qq as k t).1.map D.int),.int (run qq as k t).2]]=SS at *;generalize hD qq=hh at *;simp[roR,el])
 have hb:(decide (run qq as k t∈(kvR qq as k t).map (·.1))||decide (100000 < (kvR qq as k t).length))=false:=by
  rw[decide_eq_false,decide_eq_false]
  ·rfl
  ·rw[ay6];omega
  ·intro z;obtain⟨i,hi,e⟩:=alx.mp z;exact hn i hi e.symm
 unfold axy;rw[e1];dsimp only[Option.bind_some];rw[show asI (D.int (t:Int))=some (t:Int) from rfl]
 dsimp only[Option.bind_some];rw[e2];dsimp only[Option.bind_some];rw[ek];dsimp only[Option.bind_some];rw[hb,if_neg (by simp),e3]
 dsimp only[Option.bind_some];rw[e4];dsimp only[Option.bind_some,pairD];rw[anh,aty];rfl
theorem ai9{N:Nat}(hN:N<=100000)(hd:∀i j,i < j->j < N->run qq as k i≠run qq as k j)(hl:∃i,i < N/\run qq as k N=run qq as k i):∀(d t n:Nat),t+d=N->d < n ->
  alf mkR mvR maR mlR 1 2 n (kvR qq as k t) (roR (hD qq) ((run qq as k t).1.map D.int) (run qq as k t).2 (stD qq as k t))=some (kvR qq as k N,roR (hD qq) ((run qq as k N).1.map D.int) (run qq as k N).2 (stD qq as k N))
 | d,t,0,_,h=>absurd h (Nat.not_lt_zero _)
 | d,t,n+1,e,hn=>by
  have ek:keyD (.tup [.tup ((run qq as k t).1.map D.int),.int (run qq as k t).2])=some (run qq as k t):=al0 _ _;have e2:okR mkR (roR (hD qq) ((run qq as k t).1.map D.int) (run qq as k t).2 (stD qq as k t))=some (.tup [.tup ((run qq as k t).1.map D.int),.int (run qq as k t).2],roR (hD qq) ((run qq as k t).1.map D.int) (run qq as k t).2 (stD qq as k t)):=afe (by simp[roR])
  unfold alf;rw[e2];dsimp only[Option.bind_some];rw[ek];dsimp only[Option.bind_some];cases d with
  | zero =>
   have:t=N:=by omega
   subst this;rw[if_pos];obtain⟨i,hi,ei⟩:=hl;exact decide_eq_true (alx.mpr ⟨i,hi,ei⟩)
  | succ d =>
   rw[if_neg]
   ·rw[aqe h sh ha h0 h1 t (by omega) fun i hi=>hd i t hi (by omega)]
    dsimp only[Option.bind_some];exact ai9 hN hd hl d (t+1) n (by omega) (by omega)
   ·simp only[decide_eq_true_eq];intro z;obtain⟨i,hi,ei⟩:=alx.mp z;exact hd i t hi (by omega) ei.symm
theorem ajx(h5:qq.length<=5):∃a m:Nat,1<=m/\a+m<=77760/\(∀i j,i < j->j < a+m->run qq as k i≠run qq as k j)/\run qq as k (a+m)=run qq as k a /\
  ue [.val (hD qq),.val (.tup (as.map D.int)),.val (.int k)]=some (.ok (.v (.tup [.int (a:Int),.int (m:Int),.lst (stD qq as k (a+m))])),[.val (hD qq),.val (.tup ((run qq as k (a+m)).1.map D.int)),.val (.int (run qq as k (a+m)).2)]):=by
 have hp:10*6 ^ qq.length<=77760:=by
  have:6 ^ qq.length<=6 ^ 5:=Nat.pow_le_pow_right (by decide) h5
  omega
 obtain⟨i0,j0,hij,hj,e0⟩:=agy h (run qq as k) fun i _=>srun h sh ha h0 h1 i
 obtain⟨N,⟨a,haN,eN⟩,hmin⟩:=least (P:=fun N=>∃i,i < N/\run qq as k i=run qq as k N) j0 ⟨i0,hij,e0⟩
 have hNj:N<=j0:=by
  rcases Nat.lt_or_ge j0 N with q | q
  ·exact absurd ⟨i0,hij,e0⟩ (hmin j0 q)
  ·exact q
 have hd:∀i j,i < j->j < N->run qq as k i≠run qq as k j:=fun i j x y z=>hmin j y ⟨i,x,z⟩
 refine⟨a,N - a,by omega,by omega,by rw[show a+(N - a)=N by omega];exact hd,by rw[show a+(N - a)=N by omega];exact eN.symm,?_⟩
 rw[show a+(N - a)=N by omega]
 have lo:=ai9 h sh ha h0 h1 (by omega) hd ⟨a,haN,eN.symm⟩ N 0 fuel (by omega) (Nat.lt_trans (show N < 100000 by omega) aip)
 have lo:alf mkR mvR maR mlR 1 2 fuel [] [.val (hD qq),.val (.tup (as.map D.int)),.val (.int k),.emp,.own none [],.emp]=some (kvR qq as k N,roR (hD qq) ((run qq as k N).1.map D.int) (run qq as k N).2 (stD qq as k N)):=lo;have lk:=ana hd haN;rw[eN] at lk;have ek:keyD (.tup [.tup ((run qq as k N).1.map D.int),.int (run qq as k N).2])=some (run qq as k N):=al0 _ _;have e2:okR mkR (roR (hD qq) ((run qq as k N).1.map D.int) (run qq as k N).2 (stD qq as k N))=some (.tup [.tup ((run qq as k N).1.map D.int),.int (run qq as k N).2],roR (hD qq) ((run qq as k N).1.map D.int) (run qq as k N).2 (stD qq as k N)):=afe (by simp[roR])
 have hl:=ald qq as k N;have e0':okR (mLst mNil) [.val (hD qq),.val (.tup (as.map D.int)),.val (.int k),.emp,.emp,.emp]=some (.fr [],[.val (hD qq),.val (.tup (as.map D.int)),.val (.int k),.emp,.emp,.emp]):=afe (by simp)
 have eg:aax [.val (hD qq),.val (.tup (as.map D.int)),.val (.int k),.emp,.emp,.emp]=some (.ret (.v (.tup [.int (a:Int),.int ((N - a:Nat):Int),.lst (stD qq as k N)])),[.val (hD qq),.val (.tup ((run qq as k N).1.map D.int)),.val (.int (run qq as k N).2),.emp,.val (.lst (stD qq as k N)),.val (.int (a:Int))]):=by
  unfold aax azv;simp only[List.getElem?_cons_succ,List.getElem?_cons_zero,Option.bind_some,List.set_cons_succ,List.set_cons_zero];rw[e0'];simp only[Option.bind_some,List.set_cons_succ,List.set_cons_zero,Rv.sl];rw[lo];dsimp only[Option.bind_some];rw[e2];dsimp only[Option.bind_some];rw[ek];dsimp only[Option.bind_some];rw[lk];dsimp only[Option.bind_some];have ec:(N:Int) - (a:Int)=((N - a:Nat):Int):=by omega
  generalize stD qq as k N=SS at *;simp[roR,hl,ec]
 unfold ue;generalize stD qq as k N=SS at *;generalize hD qq=hh at *;simp[fnD,eg]
end
theorem ad2(qq:LL9)(as:List Int)(k:Int)(t:Nat):∀m:Nat,run qq (run qq as k t).1 (run qq as k t).2 m=run qq as k (t+m)
 | 0=>rfl
 | m+1=>by
  show(gone qq (run qq (run qq as k t).1 (run qq as k t).2 m).1 (run qq (run qq as k t).1 (run qq as k t).2 m).2,led qq (run qq (run qq as k t).1 (run qq as k t).2 m).1 (run qq (run qq as k t).1 (run qq as k t).2 m).2)=_;rw[ad2 qq as k t m];rfl
section
variable{qq:LL9}{as:List Int}{k:Int}{a m:Nat}(hm:1<=m)(e:run qq as k (a+m)=run qq as k a)
include hm e
theorem aul(y:Nat):run qq as k (a+y+m)=run qq as k (a+y):=by
 have:=acr qq as k e y;rw[show a+y+m=a+m+y by omega]
 exact this
theorem arb(h:Hs qq)(sh:Sh qq)(ha:Arr qq as)(h0:0<=k)(h1:k < (qq.length:Int)){t:Nat}(ht:a<=t):InG qq (run qq as k t).1 (run qq as k t).2:=by
 obtain⟨a1,a2,a3⟩:=srun h sh ha h0 h1 t;refine apr h sh a1 a2 a3 (T:=m) hm ?_;rw[ad2];have:=aul hm e (t - a);rw[show a+(t - a)+m=t+m by omega,show a+(t - a)=t by omega] at this
 exact this
end
section
variable{qq:LL9}(h:Hs qq)(sh:Sh qq){as:List Int}(ha:Arr qq as){k:Int}(h0:0<=k)(h1:k < (qq.length:Int))
include h sh ha h0 h1
theorem aht:gb [.val (hD qq),.val (.tup (as.map D.int)),.val (.int k)]=some (.ok (.v .non),[.val (hD qq),.val (.tup (as.map D.int)),.val (.int k)]):=by
 have e1:=ae6 h ha h0 h1;have e2:=agh h sh;generalize hD qq=hh at *;simp[gb,pq,e1,e2]
end
theorem al8{n:Nat}(h:n<=1000000):n < fuel:=Nat.lt_of_le_of_lt h (by unfold fuel;decide)
def bxS(t:Nat)(hh:D)(k n:Int):List (Str×(Nat ⊕ D)):=[("house", .inr hh),("turning", .inl t),("place", .inr (.int k)),("steps", .inr (.int n))]
section
variable(t:Nat)(hh:D)(k n x:Int)(a:Sl)(l:List D)(r:Ro)
theorem sp_h:mFV "Stroll" 0 "house" (.box "Stroll" (bxS t hh k n)::r)=some (.ok hh,.box "Stroll" (bxS t hh k n)::r):=by rfl
theorem sp_p:mFV "Stroll" 0 "place" (.box "Stroll" (bxS t hh k n)::r)=some (.ok (.int k),.box "Stroll" (bxS t hh k n)::r):=by rfl
theorem sp_s:mFV "Stroll" 0 "steps" (.box "Stroll" (bxS t hh k n)::r)=some (.ok (.int n),.box "Stroll" (bxS t hh k n)::r):=by rfl
theorem sp_t:mLnk "Stroll" 0 "turning" 2 (.box "Stroll" (bxS 2 hh k n)::a::.own (some 2) l::r)=some (.ok (),.box "Stroll" (bxS 2 hh k n)::a::.own (some 2) l::r):=by rfl
theorem a6e:putA "place" (.int x) (bxS t hh k n)=bxS t hh x n:=by rfl
theorem a6d:putA "steps" (.int x) (bxS t hh k n)=bxS t hh k x:=by rfl
theorem is_p:((bxS t hh k n).lookup ("place" : Str)).isSome=true:=by rfl
theorem is_s:((bxS t hh k n).lookup ("steps" : Str)).isSome=true:=by rfl
end
theorem ave{qq:LL9}(h:Hs qq){bs:List Int}(hb:Arr qq bs){p:Int}(p0:0<=p)(p1:p < (qq.length:Int)):acf [.val (hD qq),.own (some 1) (bs.map D.int),.val (.int p)]=some (.ok (.v (.int (led qq bs p))),[.val (hD qq),.own (some 1) ((gone qq bs p).map D.int),.val (.int p)]):=by
 have e1:=ame p0 p1;have e2:=aoh h hb p0 p1;have e3:=ath h hb p0 p1;have e4:=aka h hb p0 p1 (ar bs p+1);have e5:ixN bs.length p=some p.toNat:=aca p0 (by rw[hb.len];exact p1)
 simp[acf,ar6,hD,e1,e2,e3,e4,e5,gone]
abbrev stF(hh R:D)(as:List D)(k n:Int):Ro:=[.box "Stroll" (bxS 2 hh k n),.val R,.own (some 2) as]
theorem a0t(hh R:D)(as bs:List D)(k n k':Int)(el:acf [.val hh,.own (some 1) as,.val (.int k)]=some (.ok (.v (.int k')),[.val hh,.own (some 1) bs,.val (.int k)])) :
  dFld "Stroll" 0 "place" (M.d (mFn acf [none,some 2,none] (bf (mFV "Stroll" 0 "house") ((mLnk "Stroll" 0 "turning" 2).bind fun _=>b8 2 (bf (mFV "Stroll" 0 "place") gn))))) (stF hh R as k n)=some (.nx,stF hh R bs k' n):=by
 simp[dFld,stF,sp_h,sp_t,sp_p,el,a6e,is_p,ab7]
theorem a0s(hh R:D)(as:List D)(k n:Int):aix "Stroll" 0 "steps" (ret (.int 1)) (stF hh R as k n)=some (.nx,stF hh R as k (n+1)):=by
 simp[aix,stF,sp_s,a6d,is_s,ab7]
section
variable{qq:LL9}(h:Hs qq)(sh:Sh qq){as:List Int}(ha:Arr qq as){k:Int}(h0:0<=k)(h1:k < (qq.length:Int))
include h sh ha h0 h1
theorem azd(R:D)(t:Nat)(n:Int):ji (stF (hD qq) R ((run qq as k t).1.map D.int) (run qq as k t).2 n)=some (.nx,stF (hD qq) R ((run qq as k (t+1)).1.map D.int) (run qq as k (t+1)).2 (n+1)):=by
 obtain⟨a1,a2,a3⟩:=srun h sh ha h0 h1 t;have e1:=a0t (hD qq) R _ _ _ n _ (ave h a1 a2 a3);have e2:=a0s (hD qq) R ((run qq as k (t+1)).1.map D.int) (run qq as k (t+1)).2 n;unfold ji dSeq;rw[e1];exact e2
theorem a7p{R:D}{rs:List Int}(hR:∀x:Int,gIn true (.int x) R=some (.v (.bl (!decide (x∈rs))))){s T:Nat}(hn:∀t,s<=t->t < T->(run qq as k t).2∉rs)(hT:(run qq as k T).2∈rs)(hs:s<=T)(hf:T < 1000000)(n:Int) :
  dj (stF (hD qq) R ((run qq as k s).1.map D.int) (run qq as k s).2 n)=some (.nx,stF (hD qq) R ((run qq as k T).1.map D.int) (run qq as k T).2 (n+((T - s:Nat):Int))):=by
 have test:∀(AA:List D) (p:Int) (n:Int),jj (stF (hD qq) R AA p n)=some (.ok (!decide (p∈rs)),stF (hD qq) R AA p n):=fun AA p n=>by
  have e:=hR p;generalize hD qq=hh at *;simp[jj,stF,sp_p,e]
 obtain⟨ρ',e,rfl⟩:=aa9 (c:=jj) (g:=akj ji) (fun j ρ=>∃t,s<=t/\t+j=T/\ρ=stF (hD qq) R ((run qq as k t).1.map D.int) (run qq as k t).2 (n+((t - s:Nat):Int)))
  (fun ρ=>ρ=stF (hD qq) R ((run qq as k T).1.map D.int) (run qq as k T).2 (n+((T - s:Nat):Int))) (fun j ρ z9=>by
   obtain⟨t,ht,hj,rfl⟩:=z9
   by_cases q:t=T
   ·subst q;refine .inl ⟨_,?_,rfl⟩;rw[test,decide_eq_true hT];rfl
   ·refine .inr ⟨stF (hD qq) R ((run qq as k t).1.map D.int) (run qq as k t).2 (n+((t - s:Nat):Int)),stF (hD qq) R ((run qq as k (t+1)).1.map D.int) (run qq as k (t+1)).2 (n+((t+1 - s:Nat):Int)),j - 1,?_,?_,by omega,t+1,by omega,by omega,rfl⟩
    ·rw[test,decide_eq_false (hn t ht (by omega))]
     rfl
    ·unfold akj;rw[azd h sh ha h0 h1 R t,show n+((t - s:Nat):Int)+1=n+((t+1 - s:Nat):Int) by omega]) fuel (T - s) (stF (hD qq) R ((run qq as k s).1.map D.int) (run qq as k s).2 n) (al8 (by omega)) ⟨s,Nat.le_refl _,by omega,by rw[Nat.sub_self];simp⟩
 exact e
end
theorem aud(t t':Nat)(hh:D)(k n:Int):rtg t' (bxS t hh k n)=bxS t' hh k n:=by rfl
theorem a6s(t:Nat)(hh:D)(k n:Int):(bxS t hh k n).lookup ("go_till_in" : Str)=none:=by rfl
theorem azc(t:Nat)(hh:D)(k n:Int):inlB t (bxS t hh k n)=true:=by simp[inlB,bxS]
abbrev fr4(a b c:D)(hh:D)(as:List D)(k n:Int):Ro:=[.val a,.val b,.val c,.box "Stroll" (bxS 1000 hh k n),.own (some 1000) as]
theorem a6u(a b c hh R:D)(as bs:List D)(k n k' n':Int)(me:M D)(e1:me (fr4 a b c hh as k n)=some (.ok R,fr4 a b c hh as k n))(e2:dj (stF hh R as k n)=some (.nx,stF hh R bs k' n')) :
  av6 "Stroll" "go_till_in" 3 4 3 dj me (fr4 a b c hh as k n)=some (.nx,fr4 a b c hh bs k' n'):=by
 have e0:mIsB "Stroll" 3 "go_till_in" (fr4 a b c hh as k n)=some (.ok (bxS 1000 hh k n),fr4 a b c hh as k n):=by
  simp[mIsB,fr4,a6s]
 unfold av6 dM;rw[e0];dsimp only;rw[e1];simp[fr4,azc,ab7,aud];rw[show[Sl.box "Stroll" (bxS 2 hh k n),.val R,.own (some 2) as]=stF hh R as k n from rfl,e2]
 simp[stF,azc,aud]
noncomputable def abt(qq:LL9):List Int:=(upto qq.length).filter fun x=>decide (ac6 qq x=[])
theorem azj(l:List Int):gEq false (.lst (l.map D.int)) (.lst [])=some (.v (.bl (decide (l=[])))):=by
 cases l with
 | nil=>kernel_rfl
 | cons x r =>
  have h1:okD 30 (.lst ((x::r).map D.int))=true:=ajo 29 (x::r);have h2:eqD (.lst ((x::r).map D.int)) (.lst [])=false:=rfl;have h3:okD 30 (.lst [])=true:=rfl;simp only[gEq,h1,h2,h3,Bool.and_self,if_true];rfl
theorem aot{qq:LL9}(h:Hs qq):compD (bj 0) jl jk (rangeD 0 qq.length) [] [.emp,.val (hD qq)]=some (.ok ((abt qq).map D.int),zx .emp (rangeD 0 qq.length)::[.val (hD qq)]):=by
 rw[ae8,uf (p:=fun d=>match d with | .int x=>decide (ac6 qq x=[]) | _=>false) (f:=fun d=>d)]
 ·rw[List.nil_append,List.map_id',List.filter_map];rfl
 ·intro d hd;obtain⟨x,hx,rfl⟩:=List.mem_map.mp hd;have e2:=aj3 h (ux hx);have e3:=azj (ac6 qq x);generalize (ac6 qq x).map D.int=cc at *;generalize hD qq=hh at *;simp[jl,e2,e3]
 ·intro d hd _;obtain⟨x,hx,rfl⟩:=List.mem_map.mp hd;simp[jk]
theorem ai5{qq:LL9}{x:Int}(h0:0<=x)(h1:x < (qq.length:Int)):x∈abt qq↔ac6 qq x=[]:=by
 unfold abt;rw[List.mem_filter,decide_eq_true_iff];exact⟨fun q=>q.2,fun q=>⟨by unfold upto;exact List.mem_map.mpr ⟨x.toNat,List.mem_range.mpr (by omega),by omega⟩,q⟩⟩
theorem a2d(hh A:D)(as:List D)(k:Int)(hA:itemsD A=some as):aq5 4 4 abj [some 0,some 1,some 2] (b8 0 (b8 1 (b8 2 gn))) [.val hh,.val A,.val (.int k),.emp,.emp]=some ((bxS 1000 hh k 0,as),[.val hh,.val A,.val (.int k),.emp,.emp]):=by
 simp[aq5,abj,iniD,hA,ab7,Dn.frs,mkFs,bxS]
section
variable{qq:LL9}(h:Hs qq)(sh:Sh qq){as:List Int}(ha:Arr qq as){k:Int}(h0:0<=k)(h1:k < (qq.length:Int))
include h sh ha h0 h1
theorem ak7{T:Nat}(hn:∀t,t < T->ac6 qq (run qq as k t).2≠[])(hT:ac6 qq (run qq as k T).2=[])(hf:T < 1000000) :
  gk [.val (hD qq),.val (.tup (as.map D.int)),.val (.int k)]=some (bxS 1000 (hD qq) (run qq as k T).2 (T:Int),(run qq as k T).1.map D.int):=by
 have e1:=a2d (hD qq) (.tup (as.map D.int)) (as.map D.int) k rfl;have eg:=a7p h sh ha h0 h1 (R:=.lst ((abt qq).map D.int)) (rs:=abt qq) (fun x=>al6 true x _) (s:=0) (T:=T) (fun t _ ht z=>by
  obtain⟨_,b0,b1⟩:=srun h sh ha h0 h1 t;exact hn t ht ((ai5 b0 b1).mp z)) (by
  obtain⟨_,b0,b1⟩:=srun h sh ha h0 h1 T;exact(ai5 b0 b1).mpr hT) (Nat.zero_le _) hf 0
 rw[show(0:Int)+((T - 0:Nat):Int)=(T:Int) by omega] at eg
 have eg:dj (stF (hD qq) (.lst ((abt qq).map D.int)) (as.map D.int) k 0)=some (.nx,stF (hD qq) (.lst ((abt qq).map D.int)) ((run qq as k T).1.map D.int) (run qq as k T).2 (T:Int)):=eg;have ec:=aot h;have hc:((abt qq).map D.int).length<=capS:=by
  rw[List.length_map];have:=h.most;exact b7 (Nat.le_trans (List.length_filter_le _ _) (by simp[upto];omega))
 obtain⟨L,hL,eL⟩:=aw1 h;have em:(M.d (tu [none,some 0] (mGet nq (bw (M.d (gq (g1 gL9) (dq 0 mNil))) mNil)) (bj 0) jl jk)) (fr4 (hD qq) (.tup (as.map D.int)) (.int k) (hD qq) (as.map D.int) k 0)=some (.ok (.lst ((abt qq).map D.int)),fr4 (hD qq) (.tup (as.map D.int)) (.int k) (hD qq) (as.map D.int) k 0):=by
  generalize (abt qq).map D.int=ss at *;generalize as.map D.int=AA at *;generalize rangeD 0 qq.length=RR at *;simp only[hD] at *;generalize hDs qq=hh at *;simp[fr4,hL,eL,ec,hc]
 have e3:=a6u (hD qq) (.tup (as.map D.int)) (.int k) (hD qq) _ _ _ _ _ _ _ _ em eg;unfold gk strD vq an8;rw[show[Sl.val (hD qq),.val (.tup (as.map D.int)),.val (.int k)]++List.replicate (5 - 3) Sl.emp=[.val (hD qq),.val (.tup (as.map D.int)),.val (.int k),.emp,.emp] from rfl,e1]
 dsimp only;rw[aud];have hq:(([Sl.val (hD qq),.val (.tup (as.map D.int)),.val (.int k),.emp,.emp]:List Sl).all tagB=true/\3≠4/\3 < ([Sl.val (hD qq),.val (.tup (as.map D.int)),.val (.int k),.emp,.emp]:List Sl).length):=⟨by simp[tagB],by decide,by simp⟩
 rw[if_pos hq];rw[show List.set (List.set [Sl.val (hD qq),.val (.tup (as.map D.int)),.val (.int k),.emp,.emp] 3 (.box "Stroll" (bxS 1000 (hD qq) k 0))) 4 (.own (some 1000) (as.map D.int))=fr4 (hD qq) (.tup (as.map D.int)) (.int k) (hD qq) (as.map D.int) k 0 from rfl]
 unfold dSeq;rw[e3];simp[dNx,fr4,azc]
end
def go(qq:LL9):List Int->List Int->List Int
 | as,[]=>as
 | as,x::s=>go qq (gone qq as x) s
def arv(qq:LL9)(d:Int):List Int->List Int->Nat
 | _,[]=>0
 | as,x::s=>(if led qq as x=d then 1 else 0)+arv qq d (gone qq as x) s
def us(qq:LL9)(as:List Int)(y d:Int):Nat->Nat
 | 0=>0
 | n+1=>us qq as y d n+if (dr qq y).getD ((ar as y+(n:Int)) % ((dr qq y).length:Int)).toNat 0=d then 1 else 0
def InR(qq:LL9)(s:List Int):Prop:=∀x∈s,0<=x/\x < (qq.length:Int)
theorem aj4(qq:LL9):∀(s t as:List Int),go qq as (s++t)=go qq (go qq as s) t
 | [],t,as=>rfl
 | x::s,t,as=>aj4 qq s t (gone qq as x)
theorem ahg(qq:LL9)(d:Int):∀(s t as:List Int),arv qq d as (s++t)=arv qq d as s+arv qq d (go qq as s) t
 | [],t,as=>by simp[arv,go]
 | x::s,t,as=>by
  show(if led qq as x=d then 1 else 0)+arv qq d (gone qq as x) (s++t)=(if led qq as x=d then 1 else 0)+arv qq d (gone qq as x) s+arv qq d (go qq (gone qq as x) s) t
  rw[ahg qq d s t];omega
theorem ik(x y:Int)(s:List Int):(x::s).count y=s.count y+if x=y then 1 else 0:=by
 rw[List.count_cons];simp
theorem ajp{a c w:Int}(hw:0 < w):((a+1) % w+c) % w=(a+(c+1)) % w:=by
 rw[Int.emod_add_emod]
 congr 1
 omega
theorem ak3(qq:LL9)(as:List Int)(y d:Int){m n:Nat}(h:m<=n):us qq as y d m<=us qq as y d n:=by
 induction n with
 | zero =>
  have:m=0:=by omega
  rw[this];exact Nat.le_refl _
 | succ n ih =>
  by_cases q:m=n+1
  ·rw[q];exact Nat.le_refl _
  ·have:=ih (by omega)
   have e:us qq as y d (n+1)=us qq as y d n+if (dr qq y).getD ((ar as y+(n:Int)) % ((dr qq y).length:Int)).toNat 0=d then 1 else 0:=rfl
   omega
theorem ahn(f g:Int->Nat):∀l:List Int,(∀x∈l,f x<=g x)->(l.map f).sum<=(l.map g).sum
 | [],_=>Nat.le_refl _
 | x::l,h=>by
  rw[List.map_cons,List.map_cons,List.sum_cons,List.sum_cons];have:=h x (List.mem_cons_self ..);have:=ahn f g l fun y hy=>h y (List.mem_cons_of_mem _ hy)
  omega
theorem abd(f g:Int->Nat):∀l:List Int,(∀x∈l,f x=g x)->(l.map f).sum=(l.map g).sum
 | [],_=>rfl
 | x::l,h=>by
  rw[List.map_cons,List.map_cons,List.sum_cons,List.sum_cons,h x (List.mem_cons_self ..),abd f g l fun y hy=>h y (List.mem_cons_of_mem _ hy)]
theorem alb(f g:Int->Nat)(x:Int)(k:Nat)(hx:f x=k+g x):∀l:List Int,l.Nodup->x∈l->(∀y∈l,y≠x->f y=g y)->(l.map f).sum=k+(l.map g).sum
 | [],_,h,_=>by cases h
 | y::l,hn,h,hs=>by
  obtain⟨h1,h2⟩:=List.pairwise_cons.mp hn;rw[List.map_cons,List.map_cons,List.sum_cons,List.sum_cons]
  by_cases e:y=x
  ·subst e;rw[hx,abd f g l fun z hz=>hs z (List.mem_cons_of_mem _ hz) fun q=>h1 z hz q.symm]
   omega
  ·have hm:x∈l:=by
    rcases List.mem_cons.mp h with q | q
    ·exact absurd q.symm e
    ·exact q
   rw[hs y (List.mem_cons_self ..) e,alb f g x k hx l h2 hm fun z hz=>hs z (List.mem_cons_of_mem _ hz)]
   omega
theorem adu(n:Nat):(upto n).Nodup:=by
 unfold upto;rw[List.Nodup,List.pairwise_map];exact List.Pairwise.imp (fun{a b} hab=>by omega) List.pairwise_lt_range
theorem aep{n:Nat}{x:Int}(h0:0<=x)(h1:x < (n:Int)):x∈upto n:=by
 unfold upto;exact List.mem_map.mpr ⟨x.toNat,List.mem_range.mpr (by omega),by omega⟩
section
variable{qq:LL9}(h:Hs qq)
include h
theorem az8{y:Int}(y0:0<=y)(y1:y < (qq.length:Int)):∀(s:List Int) {as:List Int},Arr qq as->InR qq s->ar (go qq as s) y=(ar as y+(s.count y:Int)) % ((dr qq y).length:Int)
 | [],as,ha,_=>by
  have a:=ha.at y0 y1;show ar as y=(ar as y+0) % _;rw[Int.add_zero,Int.emod_eq_of_lt a.1 a.2]
 | x::s,as,ha,hs=>by
  have hx:=hs x (List.mem_cons_self ..);have hd:=(h.dr y0 y1).1;have hal:=ha.len;have ih:=az8 y0 y1 s (aij h ha hx.1 hx.2) fun z hz=>hs z (List.mem_cons_of_mem _ hz)
  show ar (go qq (gone qq as x) s) y=_;rw[ih,ik]
  by_cases e:x=y
  ·subst e;rw[ug (by omega),if_pos rfl,ajp (by omega),Int.natCast_add]
   rfl
  ·rw[abn y0 hx.1 (Ne.symm e),if_neg e];rfl
theorem a0k{as:List Int}{x y d:Int}(x0:0<=x)(y0:0<=y)(e:y≠x):∀n,us qq (gone qq as x) y d n=us qq as y d n
 | 0=>rfl
 | n+1=>by
  unfold us;rw[a0k x0 y0 e n,abn y0 x0 e]
theorem apx{as:List Int}(ha:Arr qq as){x d:Int}(x0:0<=x)(x1:x < (qq.length:Int)):∀n,us qq as x d (n+1)=(if led qq as x=d then 1 else 0)+us qq (gone qq as x) x d n
 | 0=>by
  have a:=ha.at x0 x1;show 0+(if (dr qq x).getD ((ar as x+0) % ((dr qq x).length:Int)).toNat 0=d then 1 else 0)=_+0
  rw[Int.add_zero,Int.emod_eq_of_lt a.1 a.2];unfold led;omega
 | n+1=>by
  have ih:=apx ha (d:=d) x0 x1 n;have hd:=(h.dr x0 x1).1;have hal:=ha.len;have e1:us qq as x d (n+2)=us qq as x d (n+1)+if (dr qq x).getD ((ar as x+((n+1:Nat):Int)) % ((dr qq x).length:Int)).toNat 0=d then 1 else 0:=rfl
  have e2:us qq (gone qq as x) x d (n+1)=us qq (gone qq as x) x d n+if (dr qq x).getD ((ar (gone qq as x) x+(n:Int)) % ((dr qq x).length:Int)).toNat 0=d then 1 else 0:=rfl
  rw[e1,e2,ih,ug (by omega),ajp (by omega),Int.natCast_add]
  show _+_+(if (dr qq x).getD ((ar as x+((n:Int)+1)) % ((dr qq x).length:Int)).toNat 0=d then 1 else 0)=_
  omega
theorem ati(d:Int):∀(s:List Int) {as:List Int},Arr qq as->InR qq s->arv qq d as s=((upto qq.length).map fun y=>us qq as y d (s.count y)).sum
 | [],as,_,_=>by
  show 0=_
  symm
  rw[abd (fun y=>us qq as y d (([]:List Int).count y)) (fun _=>0) _ fun x _=>rfl]
  generalize upto qq.length=l
  induction l with
  | nil=>rfl
  | cons x l ih=>rw[List.map_cons,List.sum_cons,ih]
 | x::s,as,ha,hs=>by
  have hx:=hs x (List.mem_cons_self ..);have ih:=ati d s (aij h ha hx.1 hx.2) fun z hz=>hs z (List.mem_cons_of_mem _ hz)
  show(if led qq as x=d then 1 else 0)+arv qq d (gone qq as x) s=_
  rw[ih]
  symm
  refine alb _ _ x _ ?_ _ (adu _) (aep hx.1 hx.2) fun y hy e =>?_
  ·show us qq as x d ((x::s).count x)=_;rw[ik,if_pos rfl,apx h ha hx.1 hx.2]
  ·show us qq as y d ((x::s).count y)=us qq (gone qq as x) y d (s.count y);rw[ik,if_neg (Ne.symm e),a0k h hx.1 (ux hy).1 e];rfl
end
def vis(qq:LL9)(as:List Int)(k:Int)(T:Nat):List Int:=(List.range T).map fun i=>(run qq as k i).2
theorem ach(qq:LL9)(as:List Int)(k:Int)(t:Nat):vis qq as k (t+1)=vis qq as k t++[(run qq as k t).2]:=by
 unfold vis;rw[List.range_succ,List.map_append];rfl
theorem anr(qq:LL9)(as:List Int)(k:Int):∀t,go qq as (vis qq as k t)=(run qq as k t).1
 | 0=>rfl
 | t+1=>by
  rw[ach,aj4,anr qq as k t];rfl
theorem ak2(qq:LL9)(as:List Int)(k d:Int):∀t,(vis qq as k t).count d+(if (run qq as k t).2=d then 1 else 0)=(if k=d then 1 else 0)+arv qq d as (vis qq as k t)
 | 0=>by
  show 0+(if k=d then 1 else 0)=(if k=d then 1 else 0)+0
  omega
 | t+1=>by
  have ih:=ak2 qq as k d t;rw[ach,List.count_append,ahg,anr,ik];show(vis qq as k t).count d+(([]:List Int).count d+(if (run qq as k t).2=d then 1 else 0))+(if led qq (run qq as k t).1 (run qq as k t).2=d then 1 else 0)=(if k=d then 1 else 0)+(arv qq d as (vis qq as k t)+((if led qq (run qq as k t).1 (run qq as k t).2=d then 1 else 0)+0))
  have z:([]:List Int).count d=0:=rfl;omega
def ldo(qq:LL9)(as:List Int)(x:Int)(m:Nat):Int:=(dr qq x).getD ((ar as x+((m:Int) - 1)) % ((dr qq x).length:Int)).toNat 0
theorem axm(qq:LL9)(as:List Int)(x:Int){m n:Nat}(hm:m < n):us qq as x (ldo qq as x n) m < us qq as x (ldo qq as x n) n:=by
 obtain⟨n,rfl⟩:∃k,n=k+1:=⟨n - 1,by omega⟩
 have e:us qq as x (ldo qq as x (n+1)) (n+1)=us qq as x (ldo qq as x (n+1)) n+1:=by
  show us qq as x (ldo qq as x (n+1)) n+(if (dr qq x).getD ((ar as x+(n:Int)) % ((dr qq x).length:Int)).toNat 0=ldo qq as x (n+1) then 1 else 0)=_
  rw[if_pos];unfold ldo;rw[show(((n+1:Nat):Int) - 1)=(n:Int) by omega]
 have:=ak3 qq as x (ldo qq as x (n+1)) (show m<=n by omega)
 omega
theorem amo(f g:Int->Nat)(x:Int)(hx:f x < g x):∀l:List Int,x∈l->(∀y∈l,f y<=g y)->(l.map f).sum < (l.map g).sum
 | [],h,_=>by cases h
 | y::l,h,hs=>by
  rw[List.map_cons,List.map_cons,List.sum_cons,List.sum_cons];have h1:=ahn f g l fun z hz=>hs z (List.mem_cons_of_mem _ hz)
  have h2:=hs y (List.mem_cons_self ..);rcases List.mem_cons.mp h with rfl | h
  ·omega
  ·have:=amo f g x hx l h fun z hz=>hs z (List.mem_cons_of_mem _ hz)
   omega
def fdo(l:List Int)(d m:Int):Nat:=if l.getD (m % (l.length:Int)).toNat 0=d then 1 else 0
def gsm(l:List Int)(d a:Int):Nat->Nat
 | 0=>0
 | n+1=>gsm l d a n+fdo l d (a+(n:Int))
theorem awn(qq:LL9)(as:List Int)(y d:Int):∀n,us qq as y d n=gsm (dr qq y) d (ar as y) n
 | 0=>rfl
 | n+1=>by
  show us qq as y d n+_=gsm (dr qq y) d (ar as y) n+_;rw[awn qq as y d n];rfl
theorem asa(l:List Int)(d m:Int):fdo l d (m+(l.length:Int))=fdo l d m:=by
 unfold fdo;rw[Int.add_emod_right]
theorem ar0(l:List Int)(d a:Int):∀n,gsm l d a (n+l.length)=gsm l d a n+gsm l d a l.length
 | 0=>by rw[Nat.zero_add];show _=0+_;omega
 | n+1=>by
  rw[show n+1+l.length=(n+l.length)+1 by omega]
  show gsm l d a (n+l.length)+fdo l d (a+((n+l.length:Nat):Int))=gsm l d a n+fdo l d (a+(n:Int))+gsm l d a l.length;rw[ar0 l d a n,show a+((n+l.length:Nat):Int)=a+(n:Int)+(l.length:Int) by omega,asa]
  omega
theorem aj1(l:List Int)(d a:Int):∀n,gsm l d a (n+1)=fdo l d a+gsm l d (a+1) n
 | 0=>by
  show 0+fdo l d (a+((0:Nat):Int))=fdo l d a+0;rw[show a+((0:Nat):Int)=a by omega]
  omega
 | n+1=>by
  show gsm l d a (n+1)+fdo l d (a+((n+1:Nat):Int))=fdo l d a+(gsm l d (a+1) n+fdo l d (a+1+(n:Int)));rw[aj1 l d a n,show a+((n+1:Nat):Int)=a+1+(n:Int) by omega]
  omega
theorem avq(l:List Int)(d a:Int):gsm l d (a+1) l.length=gsm l d a l.length:=by
 have e1:=aj1 l d a l.length;have e2:gsm l d a (l.length+1)=gsm l d a l.length+fdo l d (a+(l.length:Int)):=rfl;rw[asa] at e2;omega
theorem anq(l:List Int)(d:Int):∀n,n<=l.length->gsm l d 0 n=(l.take n).count d
 | 0,_=>by simp[gsm]
 | n+1,hn=>by
  show gsm l d 0 n+fdo l d (0+(n:Int))=_;rw[anq l d n (by omega),List.take_add_one,List.getElem?_eq_getElem (by omega),List.count_append]
  unfold fdo;rw[Int.zero_add,Int.emod_eq_of_lt (by omega) (by omega),Int.toNat_natCast,List.getD_eq_getElem?_getD,List.getElem?_eq_getElem (by omega)]
  show _+(if l[n]=d then 1 else 0)=_+[l[n]].count d
  rw[ik];simp
theorem ar3(l:List Int)(d:Int):∀a:Nat,gsm l d (a:Int) l.length=l.count d
 | 0=>by
  have:=anq l d l.length (Nat.le_refl _);rw[List.take_length] at this;exact this
 | a+1=>by
  rw[show((a+1:Nat):Int)=(a:Int)+1 by omega,avq,ar3 l d a]
theorem ar4(l:List Int)(d:Int)(a n:Nat):∀k,gsm l d (a:Int) (n+k*l.length)=gsm l d (a:Int) n+k*l.count d
 | 0=>by simp
 | k+1=>by
  rw[Nat.succ_mul,<-Nat.add_assoc,ar0,ar4 l d a n k,ar3,Nat.succ_mul];omega
theorem az7{qq:LL9}{as:List Int}(ha:Arr qq as){bs:List Int}(hb:Arr qq bs)(e:∀i:Nat,i < qq.length->ar as (i:Int)=ar bs (i:Int)):as=bs:=by
 have l1:=ha.len;have l2:=hb.len;apply List.ext_getElem?;intro i
 by_cases hi:i < qq.length
 ·have e1:=e i hi;unfold ar at e1;rw[show((i:Nat):Int).toNat=i by omega,List.getD_eq_getElem?_getD,List.getD_eq_getElem?_getD,List.getElem?_eq_getElem (by omega),List.getElem?_eq_getElem (by omega)] at e1
  rw[List.getElem?_eq_getElem (by omega),List.getElem?_eq_getElem (by omega)]
  exact congrArg some e1
 ·rw[List.getElem?_eq_none (by omega),List.getElem?_eq_none (by omega)]
section
variable{qq:LL9}(h:Hs qq)(sh:Sh qq){as:List Int}(ha:Arr qq as){k:Int}(h0:0<=k)(h1:k < (qq.length:Int))
include h sh ha h0 h1
theorem ak0(t:Nat):InR qq (vis qq as k t):=fun x hx=>by
 obtain⟨i,_,rfl⟩:=List.mem_map.mp hx;exact(srun h sh ha h0 h1 i).2
theorem ak1(t:Nat)(x:Int):(vis qq as k (t+1)).count x=(vis qq as k t).count x+if (run qq as k t).2=x then 1 else 0:=by
 rw[ach,List.count_append,ik];simp
theorem av8{s t:Nat}(hst:s<=t)(x:Int):(vis qq as k s).count x<=(vis qq as k t).count x:=by
 induction t with
 | zero=>rw[show s=0 by omega];exact Nat.le_refl _
 | succ t ih =>
  by_cases q:s=t+1
  ·rw[q];exact Nat.le_refl _
  ·have:=ih (by omega)
   rw[ak1 h sh ha h0 h1];omega
theorem apy{y:Int}(y0:0<=y)(y1:y < (qq.length:Int))(d:Int)(z:Nat):us qq as y d (z*(dr qq y).length)=z*(dr qq y).count d:=by
 have a:=ha.at y0 y1;obtain⟨n,hn⟩:=Int.eq_ofNat_of_zero_le a.1;rw[awn,hn];have:=ar4 (dr qq y) d n 0 z;rw[Nat.zero_add] at this;rw[this];show 0+_=_;omega
theorem avf{y:Int}(y0:0<=y)(y1:y < (qq.length:Int)){z:Nat}(hz:0 < z):ldo qq as y (z*(dr qq y).length)=ad7 qq as y:=by
 unfold ldo ad7 wd;have hd:=(h.dr y0 y1).1
 congr 2
 rw[Int.natCast_mul];obtain⟨m,rfl⟩:∃m,z=m+1:=⟨z - 1,by omega⟩
 rw[show ar as y+(((m+1:Nat):Int)*((dr qq y).length:Int) - 1)=(ar as y - 1)+((m+1:Nat):Int)*((dr qq y).length:Int) by omega,Int.add_mul_emod_self_right]
theorem ax4(g:InG qq as k){z:Int->Nat}(hz1:∀x,Rch qq k x->0 < z x)(hz0:∀x,¬Rch qq k x->z x=0)
  (ker:∀v,0<=v->v < (qq.length:Int)->((upto qq.length).map fun w=>z w*(dr qq w).count v).sum=z v*(dr qq v).length) :
  ∃T,1<=T/\run qq as k T=(as,k)/\∀x,0<=x->x < (qq.length:Int)->(vis qq as k T).count x=z x*(dr qq x).length:=by
 obtain⟨T0,hT0,eT0⟩:=aox h sh ha h0 h1 g;have many:∀n,n<=(vis qq as k (n*T0)).count k:=fun n=>by
  induction n with
  | zero=>exact Nat.zero_le _
  | succ n ih =>
   have e:=ak1 h sh ha h0 h1 (n*T0) k;rw[ab5 h sh ha h0 h1 hT0 eT0 n,if_pos rfl] at e;have:=av8 h sh ha h0 h1 (s:=n*T0+1) (t:=(n+1)*T0) (by rw[Nat.succ_mul];omega) k
   omega
 obtain⟨T,hT,hm⟩:=least (P:=fun t=>z (run qq as k t).2*(dr qq (run qq as k t).2).length<=(vis qq as k t).count (run qq as k t).2) ((z k*(dr qq k).length)*T0) (by
  rw[ab5 h sh ha h0 h1 hT0 eT0];exact many _)
 have le:∀t,t<=T->∀x,(vis qq as k t).count x<=z x*(dr qq x).length:=fun t=>by
  induction t with
  | zero=>intro _ x;exact Nat.zero_le _
  | succ t ih =>
   intro ht x;have i1:=ih (by omega) x
   have i2:=hm t (by omega)
   rw[ak1 h sh ha h0 h1]
   by_cases q:(run qq as k t).2=x
   ·rw[q] at i2;rw[if_pos q];omega
   ·rw[if_neg q];omega
 have inr:=ak0 h sh ha h0 h1 T;have top:∀d,0<=d->d < (qq.length:Int)->arv qq d as (vis qq as k T)<=z d*(dr qq d).length:=fun d d0 d1=>by
  rw[ati h d _ ha inr,<-ker d d0 d1];refine ahn _ _ _ fun y hy =>?_
  have hy:=ux hy;rw[<-apy h sh ha h0 h1 hy.1 hy.2];exact ak3 _ _ _ _ (le T (Nat.le_refl _) y)
 obtain⟨_,p0,p1⟩:=srun h sh ha h0 h1 T;have bal:=ak2 qq as k (run qq as k T).2 T;have eqp:=Nat.le_antisymm (le T (Nat.le_refl _) _) hT;have hk:k=(run qq as k T).2:=by
  refine Classical.byContradiction fun q =>?_
  rw[if_pos rfl,if_neg q] at bal;have:=top _ p0 p1;omega
 have bal2:∀x,(vis qq as k T).count x=arv qq x as (vis qq as k T):=fun x=>by
  have:=ak2 qq as k x T;rw[<-hk] at this;omega
 have full:∀(m:Nat) (x:Int),0<=x->x < (qq.length:Int)->itr (lasts qq as) x m=k->(vis qq as k T).count x=z x*(dr qq x).length:=fun m=>by
  induction m with
  | zero =>
   intro x x0 x1 e;have e:x=k:=e;rw[<-hk] at eqp;rw[e];exact eqp
  | succ m ih =>
   intro x x0 x1 e;have e:itr (lasts qq as) (nxt (lasts qq as) x) m=k:=e;rw[au2 h sh ha x0 x1] at e;have hmem:=arc h sh ha x0 x1;have y0:=sh.dr hmem;have y1:=((h.dr x0 x1).2.2 _ hmem).2;have fy:=ih _ y0 y1 e;refine Classical.byContradiction fun q =>?_
   have hlt:(vis qq as k T).count x < z x*(dr qq x).length:=Nat.lt_of_le_of_ne (le T (Nat.le_refl _) x) q;have hz:0 < z x:=by
    rcases Nat.eq_zero_or_pos (z x) with w | w
    ·rw[w] at hlt;omega
    ·exact w
   have l1:=axm qq as x hlt;rw[avf h sh ha h0 h1 x0 x1 hz] at l1;have l2:=amo (fun y=>us qq as y (ad7 qq as x) ((vis qq as k T).count y)) (fun y=>us qq as y (ad7 qq as x) (z y*(dr qq y).length)) x l1 (upto qq.length) (aep x0 x1) fun y hy=>ak3 _ _ _ _ (le T (Nat.le_refl _) y)
   rw[<-ati h _ _ ha inr,<-bal2,fy,<-ker _ y0 y1] at l2;refine absurd l2 (Nat.not_lt.mpr (Nat.le_of_eq ?_));refine abd _ _ _ fun y hy =>?_
   have hy:=ux hy;exact apy h sh ha h0 h1 hy.1 hy.2 _ _
 have all:∀x,0<=x->x < (qq.length:Int)->(vis qq as k T).count x=z x*(dr qq x).length:=fun x x0 x1=>by
  by_cases q:Rch qq k x
  ·obtain⟨m,e⟩:=g.lead x q;exact full m x x0 x1 e
  ·have:=le T (Nat.le_refl _) x;rw[hz0 x q] at this ⊢
   omega
 refine⟨T,?_,?_,all⟩
 ·have:=all k h0 h1;have z1:=hz1 k .base;have d1:=(h.dr h0 h1).1;have:1<=(vis qq as k T).count k:=by
   rw[this];exact Nat.mul_pos z1 d1
  rcases Nat.eq_zero_or_pos T with w | w
  ·rw[w] at this;simp[vis] at this
  ·exact w
 ·refine Prod.ext ?_ hk.symm;show(run qq as k T).1=as
  symm
  refine az7 ha (srun h sh ha h0 h1 T).1 fun i hi =>?_
  have e:=az8 h (y:=(i:Int)) (by omega) (by omega) (vis qq as k T) ha inr
  rw[anr,all _ (by omega) (by omega),Int.natCast_mul,Int.add_mul_emod_self_right] at e
  have b:=ha.at (x:=(i:Int)) (by omega) (by omega)
  rw[e,Int.emod_eq_of_lt b.1 b.2]
end
theorem apw(qq:LL9)(as:List Int)(k:Int)(s:Nat):∀t,vis qq as k (s+t)=vis qq as k s++vis qq (run qq as k s).1 (run qq as k s).2 t
 | 0=>by simp[vis]
 | t+1=>by
  rw[<-Nat.add_assoc,ach,apw qq as k s t,ach,ad2,List.append_assoc]
theorem ags{n:Nat}:∀s:List Int,(∀x∈s,0<=x/\x < (n:Int))->s.length=((upto n).map fun x=>s.count x).sum
 | [],_=>by
  symm
  rw[abd (fun x=>([]:List Int).count x) (fun _=>0) _ fun x _=>rfl]
  generalize upto n=l
  induction l with
  | nil=>rfl
  | cons x l ih=>rw[List.map_cons,List.sum_cons,ih];rfl
 | y::s,hs=>by
  have hy:=hs y (List.mem_cons_self ..);have ih:=ags s fun x hx=>hs x (List.mem_cons_of_mem _ hx)
  rw[List.length_cons,ih];have:=alb (fun x=>(y::s).count x) (fun x=>s.count x) y 1 (by rw[ik,if_pos rfl];omega) (upto n) (adu n) (aep hy.1 hy.2) fun x _ e=>by rw[ik,if_neg (Ne.symm e)];rfl
  omega
section
variable{qq:LL9}(h:Hs qq)(sh:Sh qq){as:List Int}(ha:Arr qq as){k:Int}(h0:0<=k)(h1:k < (qq.length:Int))
include h sh ha h0 h1
theorem ax5{m:Nat}(hm:1<=m)(em:run qq as k m=(as,k))(hd:∀r,0 < r->r < m->run qq as k r≠(as,k))(g:InG qq as k){z:Int->Nat}(hz1:∀x,Rch qq k x->0 < z x)(hz0:∀x,¬Rch qq k x->z x=0)
  (ker:∀v,0<=v->v < (qq.length:Int)->((upto qq.length).map fun w=>z w*(dr qq w).count v).sum=z v*(dr qq v).length) (hg:∀q:Nat,(∀x,Rch qq k x->q ∣ z x)->q=1) :
  (∀x,0<=x->x < (qq.length:Int)->(vis qq as k m).count x=z x*(dr qq x).length)/\m=((upto qq.length).map fun x=>z x*(dr qq x).length).sum:=by
 obtain⟨T,hT,eT,cT⟩:=ax4 h sh ha h0 h1 g hz1 hz0 ker;have hdm:=Nat.div_add_mod T m;have hlt:=Nat.mod_lt T (show 0 < m by omega)
 have hr:T % m=0:=by
  rcases Nat.eq_zero_or_pos (T % m) with q | q
  ·exact q
  ·refine absurd ?_ (hd _ q hlt);have:=acr qq as k (i:=(T / m)*m) (j:=0) (ab5 h sh ha h0 h1 hm em (T / m)) (T % m);rw[Nat.zero_add,show T / m*m+T % m=T by rw[Nat.mul_comm];exact hdm,eT] at this
   exact this.symm
 have hq:T=(T / m)*m:=by rw[Nat.mul_comm];omega
 generalize hQ:T / m=Q at hq;have cnt:∀n x,(vis qq as k (n*m)).count x=n*(vis qq as k m).count x:=fun n x=>by
  induction n with
  | zero=>simp[vis]
  | succ n ih =>
   have e:=apw qq as k (n*m) m;rw[ab5 h sh ha h0 h1 hm em n] at e;rw[Nat.succ_mul,e,List.count_append,ih,Nat.succ_mul]
 have dv:∀x,0<=x->x < (qq.length:Int)->∃y,(vis qq as k m).count x=y*(dr qq x).length:=fun x x0 x1=>by
  have e:=az8 h x0 x1 (vis qq as k m) ha (ak0 h sh ha h0 h1 m);rw[anr,em] at e;have b:=ha.at x0 x1;have hd:=(h.dr x0 x1).1;have e:ar as x=(ar as x+((vis qq as k m).count x:Int)) % ((dr qq x).length:Int):=e;have:((vis qq as k m).count x:Int) % ((dr qq x).length:Int)=0:=by
   have:=Int.emod_add_mul_ediv (ar as x+((vis qq as k m).count x:Int)) ((dr qq x).length:Int);rw[<-e] at this;have e2:((vis qq as k m).count x:Int)=((dr qq x).length:Int)*((ar as x+((vis qq as k m).count x:Int)) / ((dr qq x).length:Int)):=by omega
   rw[e2];exact Int.mul_emod_right _ _
  obtain⟨y,hy⟩:=Int.dvd_of_emod_eq_zero this;have y0:0<=y:=by
   rcases Int.lt_or_le y 0 with q | q
   ·have:((dr qq x).length:Int)*y < 0:=Int.mul_neg_of_pos_of_neg (by omega) q
    omega
   ·exact q
  obtain⟨n,rfl⟩:=Int.eq_ofNat_of_zero_le y0;refine⟨n,?_⟩;have:(((vis qq as k m).count x:Nat):Int)=((n*(dr qq x).length:Nat):Int):=by rw[hy,Int.natCast_mul,Int.mul_comm]
  omega
 have q1:Q=1:=hg Q fun x hx=>by
  have rg:=Rch.range h ⟨h0,h1⟩ hx;have x0:0<=x:=by
   cases hx with
   | base=>exact h0
   | step r q hd=>exact sh.dr hd
  obtain⟨y,hy⟩:=dv x x0 rg.2;have e:=cT x x0 rg.2;rw[hq,cnt,hy,<-Nat.mul_assoc] at e;have hd:=(h.dr x0 rg.2).1;exact⟨y,(Nat.eq_of_mul_eq_mul_right (by omega) e).symm⟩
 have hTm:T=m:=by rw[q1,Nat.one_mul] at hq;exact hq
 rw[hTm] at cT;refine⟨cT,?_⟩;have l:=ags (vis qq as k m) (ak0 h sh ha h0 h1 m);have lm:(vis qq as k m).length=m:=by simp[vis]
 rw[lm] at l;rw[l];refine abd _ _ _ fun x hx =>?_
 have hx:=ux hx;exact cT x hx.1 hx.2
end
theorem ak6{qq:LL9}{y:Int}(y0:0<=y)(y1:y < (qq.length:Int))(h:∀z,Rch qq y z->0<=z):y∈ie qq:=List.mem_filter.mpr ⟨by
 unfold upto;exact List.mem_map.mpr ⟨y.toNat,List.mem_range.mpr (by omega),by omega⟩,(zb qq y).mpr h⟩
abbrev Rw:=Nat->Int
def lap(c:Nat)(F:List Rw->Int):List Rw->List Rw->Int
 | _,[]=>0
 | pre,r::rs=>r c*F (pre++rs) - lap c F (pre++[r]) rs
def det:List Nat->List Rw->Int
 | [],[]=>1
 | [],_::_=>0
 | c::cs,rows=>lap c (det cs) [] rows
def SW(F:List Rw->Int):Prop:=∀p a b q,F (p++a::b::q) = - F (p++b::a::q)
theorem arf{c:Nat}{F:List Rw->Int}(hF:SW F)(a b:Rw):∀(q p1 p2:List Rw),lap c F (p1++a::b::p2) q = - lap c F (p1++b::a::p2) q
 | [],_,_=>by simp[lap]
 | r::q,p1,p2=>by
  have ih:=arf (c:=c) hF a b q p1 (p2++[r]);have e:=hF p1 a b (p2++q);simp only[lap,List.append_assoc,List.cons_append] at ih e ⊢
  rw[ih,e,Int.mul_neg];omega
theorem aw4{c:Nat}{F:List Rw->Int}(hF:SW F)(a b:Rw)(q:List Rw):∀(p pre:List Rw),lap c F pre (p++a::b::q) = - lap c F pre (p++b::a::q)
 | [],pre=>by
  have h:=arf (c:=c) hF a b q pre [];simp only[lap,List.nil_append,List.append_assoc,List.cons_append] at h ⊢
  rw[h];omega
 | r::p,pre=>by
  have ih:=aw4 (c:=c) hF a b q p (pre++[r]);have e:=hF (pre++p) a b q;simp only[lap,List.append_assoc,List.cons_append] at ih e ⊢
  rw[ih,e,Int.mul_neg];omega
theorem akf:∀cs,SW (det cs)
 | []=>fun p a b q=>by
  have e:∀x:List Rw,x≠[]->det [] x=0:=fun x hx=>by
   cases x with
   | nil=>exact absurd rfl hx
   | cons=>rfl
  rw[e _ (by simp),e _ (by simp)]
  rfl
 | c::cs=>fun p a b q=>aw4 (akf cs) a b q p []
def LN(F:List Rw->Int):Prop:=∀p (x y:Int) (a b:Rw) q,F (p++(fun j=>x*a j+y*b j)::q)=x*F (p++a::q)+y*F (p++b::q)
theorem ari{c:Nat}{F:List Rw->Int}(hF:LN F)(x y:Int)(a b:Rw):∀(q p1 p2:List Rw),lap c F (p1++(fun j=>x*a j+y*b j)::p2) q=x*lap c F (p1++a::p2) q+y*lap c F (p1++b::p2) q
 | [],_,_=>by simp[lap]
 | r::q,p1,p2=>by
  have ih:=ari (c:=c) hF x y a b q p1 (p2++[r]);have e:=hF p1 x y a b (p2++q);simp only[lap,List.append_assoc,List.cons_append] at ih e ⊢
  rw[ih,e,Int.mul_add,Int.mul_sub,Int.mul_sub,Int.mul_left_comm,Int.mul_left_comm (r c)];omega
theorem aw5{c:Nat}{F:List Rw->Int}(hF:LN F)(x y:Int)(a b:Rw)(q:List Rw):∀(p pre:List Rw),lap c F pre (p++(fun j=>x*a j+y*b j)::q)=x*lap c F pre (p++a::q)+y*lap c F pre (p++b::q)
 | [],pre=>by
  have h:=ari (c:=c) hF x y a b q pre [];simp only[lap,List.nil_append] at h ⊢
  rw[h,Int.add_mul,Int.mul_sub,Int.mul_sub,Int.mul_assoc,Int.mul_assoc];omega
 | r::p,pre=>by
  have ih:=aw5 (c:=c) hF x y a b q p (pre++[r]);have e:=hF (pre++p) x y a b q;simp only[lap,List.append_assoc,List.cons_append] at ih e ⊢
  rw[ih,e,Int.mul_add,Int.mul_sub,Int.mul_sub,Int.mul_left_comm,Int.mul_left_comm (r c)];omega
theorem akh:∀cs,LN (det cs)
 | []=>fun p x y a b q=>by
  have e:∀z:List Rw,z≠[]->det [] z=0:=fun z hx=>by
   cases z with
   | nil=>exact absurd rfl hx
   | cons=>rfl
  rw[e _ (by simp),e _ (by simp),e _ (by simp)]
  simp
 | c::cs=>fun p x y a b q=>aw5 (akh cs) x y a b q p []
theorem an6(cs:List Nat)(a:Rw):∀(q p r:List Rw),det cs (p++a::(q++a::r))=0
 | [],p,r=>by
  have:=akf cs p a a r;simp only[List.nil_append];omega
 | x::q,p,r=>by
  have h:=akf cs p a x (q++a::r);have ih:=an6 cs a q (p++[x]) r;simp only[List.append_assoc,List.cons_append,List.nil_append] at h ih ⊢
  rw[h,ih];rfl
theorem axh(cs:List Nat)(a:Rw):∀(q p r:List Rw),det cs (p++(q++a::r))=det cs (p++a::(q++r))∨det cs (p++(q++a::r)) = - det cs (p++a::(q++r))
 | [],p,r=>.inl rfl
 | x::q,p,r=>by
  have h:=akf cs p x a (q++r);have ih:=axh cs a q (p++[x]) r;simp only[List.append_assoc,List.cons_append,List.nil_append] at h ih ⊢
  rcases ih with e | e
  ·right;rw[e,h]
  ·left;rw[e,h];omega
def clr(x u:Int)(r k:Rw):Rw:=fun j=>x*r j+(-u)*k j
theorem aiv(C:List Nat)(k:Rw)(x:Int)(u:Rw->Int):∀(rs pre:List Rw),det C (k::(pre++rs.map fun r=>clr x (u r) r k))=x ^ rs.length*det C (k::(pre++rs))
 | [],pre=>by simp
 | r::rs,pre=>by
  have e:=akh C (k::pre) x (-(u r)) r k (rs.map fun r=>clr x (u r) r k)
  have z:=an6 C k pre [] (rs.map fun r=>clr x (u r) r k)
  have ih:=aiv C k x u rs (pre++[r]);simp only[List.append_assoc,List.cons_append,List.nil_append,List.map_cons,List.length_cons] at e z ih ⊢
  show det C (k::(pre++(fun j=>x*r j+(-(u r))*k j)::_))=_
  rw[e,z,ih,Int.mul_zero,Int.add_zero,Int.pow_succ,Int.mul_comm (x ^ rs.length) x,Int.mul_assoc]
theorem aer{c:Nat}{F:List Rw->Int}:∀(rs pre:List Rw),(∀r∈rs,r c=0)->lap c F pre rs=0
 | [],_,_=>rfl
 | r::rs,pre,h=>by
  show r c*F (pre++rs) - lap c F (pre++[r]) rs=0;rw[h r (List.mem_cons_self ..),aer rs _ fun x hx=>h x (List.mem_cons_of_mem _ hx)]
  simp
theorem chio(c:Nat)(cs:List Nat)(k:Rw)(rs:List Rw):k c*det cs (rs.map fun r=>clr (k c) (r c) r k)=k c ^ rs.length*det (c::cs) (k::rs):=by
 have e:=aiv (c::cs) k (k c) (fun r=>r c) rs []
 rw[List.nil_append,List.nil_append] at e;rw[<-e];show _=lap c (det cs) [] (k::_);show _=k c*det cs ([]++_) - lap c (det cs) ([]++[k]) _;rw[aer]
 ·simp
 ·intro r hr;obtain⟨r0,_,rfl⟩:=List.mem_map.mp hr;show k c*r0 c+(-(r0 c))*k c=0;rw[Int.neg_mul,Int.mul_comm];omega
theorem adk(cs:List Nat)(x:Int):∀(rs pre:List Rw),det cs (pre++rs.map fun r j=>x*r j)=x ^ rs.length*det cs (pre++rs)
 | [],pre=>by simp
 | r::rs,pre=>by
  have e:=akh cs pre x 0 r r (rs.map fun r j=>x*r j)
  have ih:=adk cs x rs (pre++[r]);have z:(fun j=>x*r j+0*r j)=fun j=>x*r j:=by funext j;simp
  rw[z] at e;simp only[List.append_assoc,List.cons_append,List.nil_append,List.map_cons,List.length_cons] at e ih ⊢
  rw[e,ih,Int.zero_mul,Int.add_zero,Int.pow_succ,Int.mul_comm (x ^ rs.length) x,Int.mul_assoc]
def Dvd(d:Int)(n:Nat)(M:Nat->Rw):Prop:=∀(is cs:List Nat),(∀i∈is,i < n)->is≠[]->d ^ (is.length - 1) ∣ det cs (is.map M)
theorem Dvd.one(n:Nat)(M:Nat->Rw):Dvd 1 n M:=fun is cs _ _=>by rw[Int.one_pow];exact Int.one_dvd _
theorem Dvd.two{d:Int}{n:Nat}{M:Nat->Rw}(h:Dvd d n M){i k:Nat}(hi:i < n)(hk:k < n)(c j:Nat):d ∣ M k c*M i j - M i c*M k j:=by
 have:=h [k,i] [c,j] (fun x hx=>by simp at hx;omega) (by simp)
 simp[det,lap] at this;have e:d ^ 1=d:=by rw[Int.pow_succ,Int.pow_zero,Int.one_mul]
 rwa[e] at this
def stM(d:Int)(k:Nat)(M:Nat->Rw):Nat->Rw:=fun i j=>if i=k then M k j else (M k k*M i j - M i k*M k j) / d
section
variable{d:Int}{n:Nat}{M:Nat->Rw}(h:Dvd d n M){k:Nat}(hk:k < n)(hd:d≠0)
include h hk hd
omit hd in
theorem ap5{i:Nat}(hi:i < n)(hne:i≠k)(j:Nat):d*stM d k M i j=M k k*M i j - M i k*M k j:=by
 unfold stM;rw[if_neg hne];exact Int.mul_ediv_cancel' (h.two hi hk k j)
theorem ahp(is:List Nat)(hi:∀i∈is,i < n)(hn:k∉is):(is.map (stM d k M)).map (fun r j=>d*r j)=(is.map M).map fun r=>clr (M k k) (r k) r (M k):=by
 rw[List.map_map,List.map_map];apply List.map_congr_left;intro i hm
 funext j
 have:=ap5 h hk (hi i hm) (fun e=>hn (e▸hm)) j
 show d*stM d k M i j=M k k*M i j+(-(M i k))*M k j;rw[this,Int.neg_mul];omega
theorem Dvd.step(hp:M k k≠0):Dvd (M k k) n (stM d k M):=fun is cs hi hne=>by
 by_cases hm:k∈is
 ·obtain⟨a,b,rfl⟩:=List.append_of_mem hm
  by_cases ha:k∈a++b
  ·-- twice
   have z:det cs ((a++k::b).map (stM d k M))=0:=by
    rw[List.map_append,List.map_cons];rcases List.mem_append.mp ha with q | q
    ·obtain⟨a1,a2,rfl⟩:=List.append_of_mem q;rw[List.map_append,List.map_cons,List.append_assoc,List.cons_append];exact an6 cs _ _ _ _
    ·obtain⟨b1,b2,rfl⟩:=List.append_of_mem q;rw[List.map_append,List.map_cons];exact an6 cs _ _ _ _
   rw[z];exact Int.dvd_zero _
  ·have hab:∀i∈a++b,i < n:=fun i q=>hi i (by
    rcases List.mem_append.mp q with q | q
    ·exact List.mem_append_left _ q
    ·exact List.mem_append_right _ (List.mem_cons_of_mem _ q))
   have e1:=ahp h hk hd (a++b) hab ha;have ek:stM d k M k=M k:=by funext j;unfold stM;rw[if_pos rfl]
   have e2:=adk cs d ((a++b).map (stM d k M)) [M k];have e3:=aiv cs (M k) (M k k) (fun r=>r k) ((a++b).map M) []
   obtain⟨q,e4⟩:=h (k::(a++b)) cs (fun i hi'=>by
    rcases List.mem_cons.mp hi' with rfl | z
    ·exact hk
    ·exact hab i z) (by simp)
   rw[e1] at e2;simp only[List.nil_append,List.cons_append,List.length_map,List.map_cons,List.length_cons,Nat.add_sub_cancel] at e2 e3 e4;rw[e3,e4] at e2;have e5:det cs (M k::(a++b).map (stM d k M))=M k k ^ (a++b).length*q:=by
    refine Int.eq_of_mul_eq_mul_left (Int.pow_ne_zero hd) ((e2.symm).trans ?_);rw[Int.mul_left_comm]
   have e6:=axh cs (M k) (a.map (stM d k M)) [] (b.map (stM d k M));rw[List.nil_append,List.nil_append,<-List.map_append,e5] at e6;rw[List.map_append,List.map_cons,ek,show(a++k::b).length - 1=(a++b).length by simp]
   rcases e6 with z | z
   ·exact⟨q,z⟩
   ·exact⟨-q,by rw[z,Int.mul_neg]⟩
 ·have e1:=ahp h hk hd is hi hm;have e2:=adk cs d (is.map (stM d k M)) [];have e3:=chio k cs (M k) (is.map M);obtain⟨q,e4⟩:=h (k::is) (k::cs) (fun i hi'=>by
   rcases List.mem_cons.mp hi' with rfl | z
   ·exact hk
   ·exact hi i z) (by simp)
  rw[e1] at e2;simp only[List.nil_append,List.length_map,List.map_cons,List.length_cons,Nat.add_sub_cancel] at e2 e3 e4;rw[e2,e4] at e3;have e5:M k k*det cs (is.map (stM d k M))=M k k ^ is.length*q:=by
   refine Int.eq_of_mul_eq_mul_left (show d ^ is.length≠0 from Int.pow_ne_zero hd) ?_
   rw[Int.mul_left_comm,e3,Int.mul_left_comm]
  have hl:is.length=is.length - 1+1:=by have:=List.length_pos_iff.mpr hne;omega
  rw[hl,Int.pow_succ,Int.mul_comm (M k k ^ (is.length - 1)) (M k k),Int.mul_assoc] at e5;exact⟨q,Int.eq_of_mul_eq_mul_left hp e5⟩
end
theorem ala{f:Int->Int}{m:Int}:∀{l:List Int},(∀d∈l,f d<=m)->(l.map f).sum<=m*(l.length:Int)
 | [],_=>by simp
 | d::l,h=>by
  have a:=h d (List.mem_cons_self ..);have b:=ala (l:=l) fun x hx=>h x (List.mem_cons_of_mem _ hx)
  rw[List.map_cons,List.sum_cons,List.length_cons,Int.natCast_add,Int.mul_add];simp;omega
theorem agr{f:Int->Int}{m:Int}:∀{l:List Int},(∀d∈l,f d<=m)->m*(l.length:Int)<=(l.map f).sum->∀d∈l,f d=m
 | d::l,h,hs,x,hx=>by
  have a:=h d (List.mem_cons_self ..);have b:=ala (l:=l) fun x hx=>h x (List.mem_cons_of_mem _ hx)
  rw[List.map_cons,List.sum_cons,List.length_cons,Int.natCast_add,Int.mul_add] at hs;simp at hs;rcases List.mem_cons.mp hx with rfl | q
  ·omega
  ·exact agr (fun x hx=>h x (List.mem_cons_of_mem _ hx)) (by omega) x q
theorem atj(X:Int->Int):∀n:Nat,0 < n->∃i:Int,0<=i/\i < (n:Int)/\∀j:Int,0<=j->j < (n:Int)->X j<=X i
 | 1,_=>⟨0,by omega,by omega,fun j a b=>by
  have:j=0:=by omega
  rw[this];exact Int.le_refl _⟩
 | n+2,_=>by
  obtain⟨i,i0,i1,h⟩:=atj X (n+1) (by omega)
  by_cases q:X i<=X ((n+1:Nat):Int)
  ·refine⟨((n+1:Nat):Int),by omega,by omega,fun j a b =>?_⟩
   by_cases e:j=((n+1:Nat):Int)
   ·rw[e];exact Int.le_refl _
   ·exact Int.le_trans (h j a (by omega)) q
  ·refine⟨i,i0,by omega,fun j a b =>?_⟩
   by_cases e:j=((n+1:Nat):Int)
   ·rw[e];omega
   ·exact h j a (by omega)
section
variable{qq:LL9}(h:Hs qq)(hop:ie qq=[])
include h hop
theorem am9{X:Int->Int}(hg:∀d,d < 0->X d=0)(hX:∀i,0<=i->i < (qq.length:Int)->0 < X i->((dr qq i).length:Int)*X i<=((dr qq i).map X).sum)(i:Int)(i0:0<=i)(i1:i < (qq.length:Int)):X i<=0:=by
 apply Classical.byContradiction;intro hi;obtain⟨t,t0,t1,ht⟩:=atj X qq.length h.one;have hpos:0 < X t:=by have:=ht i i0 i1;omega
 have le:∀y,0<=y->y < (qq.length:Int)->∀d∈dr qq y,X d<=X t:=fun y y0 y1 d hd=>by
  have b:=(h.dr y0 y1).2.2 d hd;rcases Int.lt_or_le d 0 with q | q
  ·rw[hg d q];omega
  ·exact ht d q b.2
 have all:∀z,Rch qq t z->(0<=z/\z < (qq.length:Int))/\X z=X t:=fun z hz=>by
  induction hz with
  | base=>exact⟨⟨t0,t1⟩,rfl⟩
  | @step x d r _ hd ih =>
   obtain⟨⟨x0,x1⟩,e⟩:=ih;have a:=hX x x0 x1 (by omega)
   rw[e,Int.mul_comm] at a;have q:=agr (le x x0 x1) a d hd;have b:=(h.dr x0 x1).2.2 d hd;refine⟨⟨?_,b.2⟩,q⟩;rcases Int.lt_or_le d 0 with z | z
   ·rw[hg d z] at q;omega
   ·exact z
 have:=ak6 t0 t1 fun z hz=>(all z hz).1.1
 rw[hop] at this;cases this
end
def dot:Nat->Rw->Rw->Int
 | 0,_,_=>0
 | m+1,r,y=>dot m r y+r m*y m
theorem af4(x z:Int)(a b y:Rw):∀m,dot m (fun j=>x*a j+z*b j) y=x*dot m a y+z*dot m b y
 | 0=>by simp[dot]
 | m+1=>by
  show dot m _ y+(x*a m+z*b m)*y m=x*(dot m a y+a m*y m)+z*(dot m b y+b m*y m);rw[af4 x z a b y m,Int.add_mul,Int.mul_add,Int.mul_add,Int.mul_assoc,Int.mul_assoc];omega
theorem aa4{a b y z:Rw}:∀m,(∀j < m,a j=b j)->(∀j < m,y j=z j)->dot m a y=dot m b z
 | 0,_,_=>rfl
 | m+1,h,g=>by
  show dot m a y+_=dot m b z+_;rw[aa4 m (fun j hj=>h j (by omega)) (fun j hj=>g j (by omega)),h m (by omega),g m (by omega)]
theorem adi{a y:Rw}:∀m,(∀j < m,a j*y j=0)->dot m a y=0
 | 0,_=>rfl
 | m+1,h=>by
  show dot m a y+_=0;rw[adi m fun j hj=>h j (by omega),h m (by omega)]
  rfl
theorem af3{a y:Rw}{i:Nat}:∀m,i < m->(∀j < m,j≠i->a j*y j=0)->dot m a y=a i*y i
 | m+1,hi,h=>by
  show dot m a y+a m*y m=_
  by_cases e:i=m
  ·subst e;rw[adi i fun j hj=>h j (by omega) (by omega)]
   omega
  ·rw[af3 m (by omega) fun j hj=>h j (by omega),h m (by omega) (Ne.symm e)]
   omega
theorem asi{a y z:Rw}:∀m,dot m a (fun j=>y j+z j)=dot m a y+dot m a z
 | 0=>rfl
 | m+1=>by
  show dot m a _+a m*(y m+z m)=dot m a y+a m*y m+(dot m a z+a m*z m);rw[asi m,Int.mul_add];omega
def BS(M0:Nat->Rw):Nat->Int×(Nat->Rw)
 | 0=>(1,M0)
 | k+1=>((BS M0 k).2 k k,stM (BS M0 k).1 k (BS M0 k).2)
structure BJ (n m:Nat) (M0:Nat->Rw) (P:Nat->Prop) (d:Int) (M:Nat->Rw):Prop where
 pos:0 < d
 dvd:Dvd d n M
 pin:∀j,P j->j < n
 shape:∀i < n,∀j,P j->M i j=if i=j then d else 0
 back:∀y,(∀j,P j->dot m (M j) y=0)->(∀j,P j->dot m (M0 j) y=0)/\∀i,i < n->¬P i->dot m (M i) y=d*dot m (M0 i) y
theorem BJ.zero(n m:Nat)(M0:Nat->Rw):BJ n m M0 (fun _=>False) 1 M0:=⟨by decide,Dvd.one n M0,fun _ h=>h.elim,fun _ _ _ h=>h.elim,fun y _=>⟨fun j hj=>hj.elim,fun i _ _=>by rw[Int.one_mul]⟩⟩
theorem BJ.to{n m:Nat}{M0:Nat->Rw}{P Q:Nat->Prop}{d:Int}{M:Nat->Rw}(b:BJ n m M0 P d M)(h:∀j,P j↔Q j):BJ n m M0 Q d M:=by
 have:P=Q:=funext fun j=>propext (h j)
 rwa[<-this]
theorem BJ.step{n m:Nat}{M0:Nat->Rw}{P:Nat->Prop}{d:Int}{M:Nat->Rw}(b:BJ n m M0 P d M){k:Nat}(hk:k < n)(hnk:¬P k)(hp:0 < M k k):BJ n m M0 (fun j=>P j∨j=k) (M k k) (stM d k M):=by
 obtain⟨p1,p2,pin,p3,p4⟩:=b;have mul:=fun{i:Nat} (hi:i < n) (hne:i≠k) j=>ap5 p2 hk hi hne j
 have hd:d≠0:=by omega
 have st:=p2.step hk hd (by omega)
 have ek:stM d k M k=M k:=by funext j;unfold stM;rw[if_pos rfl]
 have dm:∀i,i < n->i≠k->∀y,d*dot m (stM d k M i) y=M k k*dot m (M i) y - M i k*dot m (M k) y:=fun i hi hne y=>by
  have a:=af4 d 0 (stM d k M i) (stM d k M i) y m;have c:=af4 (M k k) (-(M i k)) (M i) (M k) y m;rw[Int.zero_mul,Int.add_zero] at a;rw[<-a,Int.sub_eq_add_neg,<-Int.neg_mul,<-c];refine aa4 m (fun j _ =>?_) fun _ _=>rfl
  rw[Int.zero_mul,Int.add_zero,mul hi hne j,Int.neg_mul];omega
 refine⟨hp,st,fun j hj =>?_,fun i hi j hj =>?_,fun y hy =>?_⟩
 ·rcases hj with z | z
  ·exact pin j z
  ·omega
 ·by_cases hik:i=k
  ·subst hik;rw[ek]
   by_cases hjk:j=i
   ·subst hjk;rw[if_pos rfl]
   ·have hPj:P j:=hj.elim id fun z=>absurd z hjk
    rw[if_neg (Ne.symm hjk),p3 i hi j hPj,if_neg (Ne.symm hjk)]
  ·refine Int.eq_of_mul_eq_mul_left hd ?_;rw[mul hi hik j]
   by_cases hjk:j=k
   ·subst hjk;rw[if_neg hik,Int.mul_comm];omega
   ·have hPj:P j:=hj.elim id fun z=>absurd z hjk
    rw[p3 i hi j hPj,p3 k hk j hPj,if_neg (show ¬k=j from Ne.symm hjk)]
    by_cases hij:i=j
    ·rw[if_pos hij,if_pos hij,Int.mul_comm];omega
    ·rw[if_neg hij,if_neg hij];simp
 ·have hkk:dot m (M k) y=0:=by have:=hy k (.inr rfl);rwa[ek] at this
  have hj:∀j,P j->dot m (M j) y=0:=fun j hj=>by
   have hjk:j≠k:=fun e=>hnk (e▸hj)
   have a:=dm j (pin j hj) hjk y;rw[hy j (.inl hj),hkk,Int.mul_zero,Int.mul_zero,Int.sub_zero] at a;rcases Int.mul_eq_zero.mp a.symm with z | z
   ·omega
   ·exact z
  obtain⟨b1,b2⟩:=p4 y hj;refine⟨fun j hj' =>?_,fun i hi hki =>?_⟩
  ·rcases hj' with z | z
   ·exact b1 j z
   ·subst z;have:=b2 j hk hnk;rw[hkk] at this;rcases Int.mul_eq_zero.mp this.symm with z | z
    ·omega
    ·exact z
  ·have hik:i≠k:=fun e=>hki (.inr e)
   have a:=dm i hi hik y;rw[hkk,Int.mul_zero,Int.sub_zero,b2 i hi (fun z=>hki (.inl z)),Int.mul_left_comm] at a
   exact Int.eq_of_mul_eq_mul_left hd a
def dsq(qq:LL9):Nat->Rw:=fun i j=>(if i=j then ((dr qq (i:Int)).length:Int) else 0) - ((dr qq (i:Int)).count (j:Int):Int)
def xt(y:Rw)(d:Int):Int:=if d < 0 then 0 else y d.toNat
theorem ake(y:Rw){n:Nat}:∀l:List Int,(∀d∈l,d < (n:Int))->dot n (fun j=>(l.count (j:Int):Int)) y=(l.map (xt y)).sum
 | [],_=>adi n fun j _=>by simp
 | d::l,h=>by
  have ih:=ake y l fun x hx=>h x (List.mem_cons_of_mem _ hx)
  have hd:=h d (List.mem_cons_self ..);have e:=af4 1 1 (fun j=>(l.count (j:Int):Int)) (fun j=>if d=(j:Int) then 1 else 0) y n
  rw[ih,Int.one_mul,Int.one_mul] at e;rw[List.map_cons,List.sum_cons];have e1:dot n (fun j=>(((d::l).count (j:Int):Nat):Int)) y=dot n (fun j=>1*(l.count (j:Int):Int)+1*(if d=(j:Int) then 1 else 0)) y:=by
   refine aa4 n (fun j _ =>?_) fun _ _=>rfl
   rw[List.count_cons]
   by_cases q:d=(j:Int)
   ·simp[q]
   ·simp[q]
  have e2:dot n (fun j=>if d=(j:Int) then 1 else 0) y=xt y d:=by
   unfold xt
   by_cases q:d < 0
   ·rw[if_pos q];exact adi n fun j _=>by rw[if_neg (by omega),Int.zero_mul]
   ·rw[if_neg q,af3 (i:=d.toNat) n (by omega) fun j _ hj=>by rw[if_neg (by omega),Int.zero_mul],if_pos (by omega),Int.one_mul]
  rw[e1,e,e2];omega
section
variable{qq:LL9}(h:Hs qq)
include h
theorem ash(y:Rw){i:Nat}(hi:i < qq.length):dot qq.length (dsq qq i) y=((dr qq (i:Int)).length:Int)*y i - ((dr qq (i:Int)).map (xt y)).sum:=by
 have e:=af4 1 (-1) (fun j=>if i=j then ((dr qq (i:Int)).length:Int) else 0) (fun j=>((dr qq (i:Int)).count (j:Int):Int)) y qq.length
 rw[ake y _ fun d hd=>((h.dr (x:=(i:Int)) (by omega) (by omega)).2.2 d hd).2] at e
 have e1:dot qq.length (dsq qq i) y=dot qq.length (fun j=>1*(if i=j then ((dr qq (i:Int)).length:Int) else 0)+(-1)*((dr qq (i:Int)).count (j:Int):Int)) y:=by
  refine aa4 _ (fun j _ =>?_) fun _ _=>rfl
  unfold dsq;omega
 have e2:dot qq.length (fun j=>if i=j then ((dr qq (i:Int)).length:Int) else 0) y=((dr qq (i:Int)).length:Int)*y i:=by
  rw[af3 (i:=i) _ hi fun j _ hj=>by rw[if_neg (Ne.symm hj),Int.zero_mul],if_pos rfl]
 rw[e1,e,e2];omega
variable(hop:ie qq=[])
include hop
theorem aq0(y:Rw)(l:List Int):(l.map fun d => - xt y d).sum = - (l.map (xt y)).sum:=by
 induction l with
 | nil=>rfl
 | cons x l ih=>rw[List.map_cons,List.map_cons,List.sum_cons,List.sum_cons,ih];omega
open Classical in
theorem colY{M0:Nat->Rw}(hM:∀i < qq.length,∀j < qq.length,M0 i j=dsq qq i j){P:Nat->Prop}{d:Int}{M:Nat->Rw}(b:BJ qq.length (qq.length+1) M0 P d M){k:Nat}(hk:k < qq.length)(hnk:¬P k):∃Y:Rw,Y k=d/\(∀j,¬P j->j≠k->Y j=0)/\(∀i,P i->M i k = - Y i)/\(∀i,P i->((dr qq (i:Int)).length:Int)*Y i - ((dr qq (i:Int)).map (xt Y)).sum=0)/\∀i < qq.length,¬P i->((dr qq (i:Int)).length:Int)*Y i - ((dr qq (i:Int)).map (xt Y)).sum=M i k:=by
 obtain⟨p1,p2,pin,p3,p4⟩:=b;have ds:∀i,dot (qq.length+1) (M i) (fun j=>(if P j then - M j k else 0)+(if j=k then d else 0))=dot (qq.length+1) (M i) (fun j=>if P j then - M j k else 0)+M i k*d:=fun i=>by
  rw[asi,af3 (i:=k) (y:=fun j=>if j=k then d else 0) _ (by omega) fun j _ hj=>by rw[if_neg hj,Int.mul_zero]]
  rw[if_pos rfl]
 obtain⟨q1,q2⟩:=p4 (fun j=>(if P j then - M j k else 0)+(if j=k then d else 0)) fun j hj=>by
  have hjn:=pin j hj;rw[ds j,af3 (i:=j) _ (by omega) fun j' hj' hne=>by
   by_cases q:P j'
   ·rw[p3 j hjn j' q,if_neg (Ne.symm hne),Int.zero_mul]
   ·rw[if_neg q,Int.mul_zero],p3 j hjn j hj,if_pos rfl,if_pos hj,Int.mul_neg,Int.mul_comm]
  omega
 have q2:∀i,i < qq.length->¬P i->dot (qq.length+1) (M0 i) (fun j=>(if P j then - M j k else 0)+(if j=k then d else 0))=M i k:=fun i hi hki=>by
  have q2:=q2 i hi hki;rw[ds i,adi _ fun j' hj'=>by
   by_cases q:P j'
   ·rw[p3 i hi j' q,if_neg (fun e:i=j'=>hki (by rw[e];exact q)),Int.zero_mul]
   ·rw[if_neg q,Int.mul_zero],Int.zero_add,Int.mul_comm] at q2
  exact(Int.eq_of_mul_eq_mul_left (by omega) q2).symm
 have hPn:¬P qq.length:=fun z=>by have:=pin _ z;omega
 have lo:∀i,i < qq.length->dot (qq.length+1) (M0 i) (fun j=>(if P j then - M j k else 0)+(if j=k then d else 0))=((dr qq (i:Int)).length:Int)*((if P i then - M i k else 0)+(if i=k then d else 0)) - ((dr qq (i:Int)).map (xt fun j=>(if P j then - M j k else 0)+(if j=k then d else 0))).sum:=fun i hi=>by
  rw[<-ash h (fun j=>(if P j then - M j k else 0)+(if j=k then d else 0)) hi]
  show dot qq.length _ _+M0 i qq.length*((if P qq.length then - M qq.length k else 0)+(if qq.length=k then d else 0))=_
  rw[if_neg hPn,if_neg (by omega),Int.add_zero,Int.mul_zero,Int.add_zero]
  exact aa4 _ (fun j hj=>hM i hi j hj) fun _ _=>rfl
 refine⟨fun j=>(if P j then - M j k else 0)+(if j=k then d else 0),?_,fun j hj hjk =>?_,fun i hi =>?_,fun i hi =>?_,fun i hi hki =>?_⟩
 ·show(if P k then _ else _)+(if k=k then d else 0)=d
  rw[if_neg hnk,if_pos rfl,Int.zero_add]
 ·show(if P j then _ else _)+(if j=k then d else 0)=0
  rw[if_neg hj,if_neg hjk];rfl
 ·show M i k = - ((if P i then - M i k else 0)+(if i=k then d else 0))
  rw[if_pos hi,if_neg (fun e:i=k=>hnk (by rw[<-e];exact hi))]
  omega
 ·rw[<-lo i (pin i hi),q1 i hi]
 ·rw[<-lo i hi,q2 i hi hki]
theorem awv{M0:Nat->Rw}(hM:∀i < qq.length,∀j < qq.length,M0 i j=dsq qq i j){P:Nat->Prop}{d:Int}{M:Nat->Rw}(b:BJ qq.length (qq.length+1) M0 P d M){k:Nat}(hk:k < qq.length)(hnk:¬P k):0 < M k k/\M k k<=6*d/\∀i < qq.length,-(6*d)<=M i k/\M i k<=6*d:=by
 have p1:=b.pos;have pin:=b.pin;obtain⟨Y,Yk,Yb,m1,q1,q2⟩:=colY h hop hM b hk hnk;have hx0:∀d,d < 0->xt Y d=0:=fun d hd=>by unfold xt;rw[if_pos hd]
 have xi:∀i:Int,0<=i->xt Y i=Y i.toNat:=fun i hi=>by unfold xt;rw[if_neg (by omega)]
 have nn:∀i:Int,0<=i->i < (qq.length:Int)->0<=xt Y i:=fun i i0 i1=>by
  have:=am9 h hop (X:=fun d => - xt Y d) (fun d hd=>by show - xt Y d=0;rw[hx0 d hd];rfl) (fun i i0 i1 hi=>by
   have hik:P i.toNat:=by
    apply Classical.byContradiction;intro z
    by_cases e:i.toNat=k
    ·rw[xi i i0,e,Yk] at hi;omega
    ·rw[xi i i0,Yb _ z e] at hi;omega
   have a:=q1 _ hik;rw[show((i.toNat:Nat):Int)=i by omega] at a
   rw[aq0 h hop,xi i i0,Int.mul_neg];omega) i i0 i1
  omega
 have up:∀i:Int,0<=i->i < (qq.length:Int)->xt Y i<=d:=fun i i0 i1=>by
  have:=am9 h hop (X:=xt fun j=>Y j+(-d)) (fun d hd=>by unfold xt;rw[if_pos hd]) (fun i i0 i1 hi=>by
   have e:xt (fun j=>Y j+(-d)) i=Y i.toNat+(-d):=by unfold xt;rw[if_neg (by omega)]
   rw[e] at hi ⊢
   have hik:P i.toNat:=by
    apply Classical.byContradiction;intro z
    by_cases e:i.toNat=k
    ·rw[e,Yk] at hi;omega
    ·rw[Yb _ z e] at hi;omega
   have a:=q1 _ hik;rw[show((i.toNat:Nat):Int)=i by omega] at a
   have s:∀l:List Int,(l.map (xt Y)).sum - d*(l.length:Int)<=(l.map (xt fun j=>Y j+(-d))).sum:=fun l=>by
    induction l with
    | nil=>simp
    | cons x l ih =>
     rw[List.map_cons,List.map_cons,List.sum_cons,List.sum_cons,List.length_cons,Int.natCast_add,Int.mul_add];have:xt Y x - d<=xt (fun j=>Y j+(-d)) x:=by
      unfold xt;split
      ·omega
      ·show Y x.toNat - d<=Y x.toNat+(-d);omega
     simp;omega
   have:=s (dr qq i);rw[Int.mul_add,Int.mul_neg,Int.mul_comm _ d];omega) i i0 i1
  have e:xt (fun j=>Y j+(-d)) i=xt Y i+(-d):=by unfold xt;rw[if_neg (by omega),if_neg (by omega)]
  rw[e] at this;omega
 have sb:∀i:Nat,i < qq.length->0<=((dr qq (i:Int)).map (xt Y)).sum/\((dr qq (i:Int)).map (xt Y)).sum<=6*d:=fun i hi=>by
  obtain⟨_,l6,hb⟩:=h.dr (x:=(i:Int)) (by omega) (by omega)
  have s1:∀x∈dr qq (i:Int),0<=xt Y x/\xt Y x<=d:=fun x hx=>by
   rcases Int.lt_or_le x 0 with z | z
   ·rw[hx0 x z];omega
   ·exact⟨nn x z (hb x hx).2,up x z (hb x hx).2⟩
  have s2:=ala (f:=xt Y) (m:=d) fun x hx=>(s1 x hx).2
  have s3:d*((dr qq (i:Int)).length:Int)<=d*6:=Int.mul_le_mul_of_nonneg_left (by omega) (by omega)
  refine⟨?_,by omega⟩
  have s4:∀l:List Int,(∀x∈l,0<=xt Y x)->0<=(l.map (xt Y)).sum:=fun l=>by
   induction l with
   | nil=>intro _;simp
   | cons x l ih =>
    intro hl;rw[List.map_cons,List.sum_cons];have:=ih fun y hy=>hl y (List.mem_cons_of_mem _ hy)
    have:=hl x (List.mem_cons_self ..);omega
  exact s4 _ fun x hx=>(s1 x hx).1
 have dk:=h.dr (x:=(k:Int)) (by omega) (by omega)
 have a:=q2 k hk hnk;rw[Yk] at a;have kd:((dr qq (k:Int)).length:Int)*d<=6*d:=Int.mul_le_mul_of_nonneg_right (by omega) (by omega)
 have pos:0 < M k k:=by
  apply Classical.byContradiction;intro hneg;have:=am9 h hop (X:=xt Y) hx0 (fun i i0 i1 hi=>by
   rw[xi i i0] at hi ⊢
   by_cases z:P i.toNat
   ·have c:=q1 _ z;rw[show((i.toNat:Nat):Int)=i by omega] at c
    omega
   ·by_cases e:i.toNat=k
    ·have c:=q2 i.toNat (by omega) z
     rw[show((i.toNat:Nat):Int)=i by omega,e] at c
     rw[e];omega
    ·rw[Yb _ z e] at hi;omega) (k:Int) (by omega) (by omega)
  rw[xi _ (by omega),Int.toNat_natCast,Yk] at this
  omega
 have sk:=sb k hk;refine⟨pos,by omega,fun i hi =>?_⟩
 by_cases z:P i
 ·rw[m1 i z];have u:=up (i:Int) (by omega) (by omega)
  have l:=nn (i:Int) (by omega) (by omega)
  rw[xi _ (by omega),Int.toNat_natCast] at u l
  omega
 ·by_cases e:i=k
  ·subst e;omega
  ·have c:=q2 i hi z;rw[Yb i z e,Int.mul_zero] at c;have:=sb i hi;omega
theorem aky{M0:Nat->Rw}(hM:∀i < qq.length,∀j < qq.length,M0 i j=dsq qq i j):∀k,k<=qq.length->BJ qq.length (qq.length+1) M0 (fun j=>j < k) (BS M0 k).1 (BS M0 k).2/\(BS M0 k).1<=6 ^ k
 | 0,_=>⟨(BJ.zero ..).to fun j=>⟨fun z=>z.elim,fun z=>by omega⟩,by show(1:Int)<=1;omega⟩
 | k+1,hk=>by
  obtain⟨a,c⟩:=aky hM k (by omega)
  obtain⟨p1,p2,_⟩:=awv h hop hM a (k:=k) (by omega) (by omega)
  refine⟨(a.step (by omega) (by omega) p1).to fun j=>by omega,?_⟩
  show(BS M0 k).2 k k<=6 ^ (k+1);rw[Int.pow_succ,Int.mul_comm];omega
theorem a6m{M0:Nat->Rw}(hM:∀i < qq.length,∀j < qq.length,M0 i j=dsq qq i j){k:Nat}(b:BJ qq.length (qq.length+1) M0 (fun j=>j < k) (BS M0 k).1 (BS M0 k).2)(hk:k < qq.length):0 < (BS M0 k).2 k k/\(BS M0 k).2 k k<=6*(BS M0 k).1/\∀i < qq.length,-(6*(BS M0 k).1)<=(BS M0 k).2 i k/\(BS M0 k).2 i k<=6*(BS M0 k).1:=awv h hop hM b hk (by omega)
end
section
variable{qq:LL9}(h:Hs qq)(hop:ie qq=[])
include h hop
end
def rwD(m:Nat)(r:Rw):D:=.lst ((List.range m).map fun j=>.int (r j))
def mtD(n m:Nat)(M:Nat->Rw):List D:=(List.range n).map fun i=>rwD m (M i)
theorem qp(n m:Nat)(M:Nat->Rw):(mtD n m M).length=n:=by simp[mtD]
theorem aie(n m:Nat)(M:Nat->Rw):mtD (n+1) m M=mtD n m M++[rwD m (M n)]:=by unfold mtD;rw[List.range_succ,List.map_append];rfl
theorem am7{n m:Nat}{M:Nat->Rw}{k:Nat}(hk:k < n):atI (mtD n m M) (k:Int)=some (rwD m (M k)):=by
 unfold atI;rw[aca (by omega) (by rw[qp];omega),Int.toNat_natCast]
 show(mtD n m M)[k]? = _;unfold mtD;rw[List.getElem?_map,List.getElem?_range hk];rfl
theorem agz{m:Nat}{r:Rw}{k:Nat}(hk:k < m):atI ((List.range m).map fun j=>D.int (r j)) (k:Int)=some (.int (r k)):=by
 unfold atI;rw[aca (by omega) (by simp;omega),Int.toNat_natCast]
 show((List.range m).map fun j=>D.int (r j))[k]? = _
 rw[List.getElem?_map,List.getElem?_range hk];rfl
theorem ur(m:Nat)(r:Rw):((List.range m).map fun j=>D.int (r j)).length=m:=by simp
theorem aoy{k n:Nat}(hk:k < n):∃rest,rangeD (k:Int) (n - k)=.int (k:Int)::rest:=by
 obtain⟨c,hc⟩:∃c,n - k=c+1:=⟨n - k - 1,by omega⟩
 rw[hc];refine⟨(List.range c).map fun i=>.int ((k:Int)+((i+1:Nat):Int)),?_⟩
 unfold rangeD;rw[List.range_succ_eq_map,List.map_cons,List.map_map];show D.int ((k:Int)+((0:Nat):Int))::_=_;rw[show(k:Int)+((0:Nat):Int)=k by omega]
 rfl
theorem alk{n m:Nat}{M:Nat->Rw}{k:Nat}(hk:k < n)(hm:k < m)(hn:n < 1000)(h0:M k k≠0):yw [.own (some 0) (mtD n m M),.val (.int (k:Int))]=some (.ok (.v (.int (k:Int))),[.own (some 0) (mtD n m M),.val (.int (k:Int))]):=by
 have e1:=am7 (m:=m) (M:=M) hk;have e2:=agz (r:=M k) hm;have hl:=qp n m M;obtain⟨rest,er⟩:=aoy hk;unfold rwD at e1;generalize (List.range m).map (fun j=>D.int (M k j))=rr at *
 generalize M k k=v at *;generalize mtD n m M=mm at *;have e3:ab9 [.own (some 0) mm,.val (.int (k:Int)),.val (.int (k:Int))]=some (.ret (.v (.int (k:Int))),[.own (some 0) mm,.val (.int (k:Int)),.val (.int (k:Int))]):=by
  simp[ab9,e1,e2,h0]
 have hb:((n:Int) - (k:Int)).toNat=n - k:=by omega
 have hb1:k < 4611686018427387904:=by omega
 have hb2:n < 4611686018427387904:=by omega
 simp[yw,ag6,hl,hb,hb1,hb2,er,lg,e3]
theorem ass(n m:Nat)(M:Nat->Rw)(hm:m<=1000):compD (bj 0) (ret true) aed (mtD n m M) [] [.emp]=some (.ok (mtD n m M),zx .emp (mtD n m M)::[]):=by
 rw[oh (f:=id)]
 ·simp
 ·intro d hd;unfold mtD at hd;obtain⟨i,_,rfl⟩:=List.mem_map.mp hd;have hl:=ur m (M i);unfold rwD;have hc:((List.range m).map fun j=>D.int (M i j)).length<=capS:=by rw[hl];exact b7 hm
  generalize (List.range m).map (fun j=>D.int (M i j))=rr at *
  simp[aed,hc]
theorem aos{n m:Nat}{M:Nat->Rw}(k:Int)(hn:n<=1000)(hm:m<=1000):aay [.val (.lst (mtD n m M)),.val (.int k),.val (.int k)]=some (.ok (.fr (mtD n m M)),[.val (.lst (mtD n m M)),.val (.int k),.val (.int k)]):=by
 have e:=ass n m M hm;have hl:=qp n m M;have hc:(mtD n m M).length<=capS:=by rw[hl];exact b7 hn
 generalize mtD n m M=mm at *;simp[aay,aj5,e,hc]
theorem apk{m:Nat}{k i:Nat}{M:Nat->Rw}{d:Int}(hk:k < m)(hd0:0 < d)(hd1:d < 1000000000000000000000000000000000000000000000000000000000000)(hik:i≠k)(hkk : -18446744073709551616 < M k k/\M k k < 18446744073709551616)(hic : -18446744073709551616 < M i k/\M i k < 18446744073709551616):∃q1 q2,compD (bTup 2 (jg (bj 0) (jg (bj 1) bNil))) (ret true) abm (mz ((List.range m).map fun j=>D.int (M i j)) ((List.range m).map fun j=>D.int (M k j))) [] [.emp,.emp,.val (rwD m (M i)),.val (rwD m (M k)),.val (.int d),.val (.int (k:Int))] =
  some (.ok ((List.range m).map fun j=>D.int (stM d k M i j)),[q1,q2,.val (rwD m (M i)),.val (rwD m (M k)),.val (.int d),.val (.int (k:Int))]):=by
 have ek:=agz (r:=M k) hk;have ei:=agz (r:=M i) hk;have comp:=za (b:=bTup 2 (jg (bj 0) (jg (bj 1) bNil))) (mc:=ret true) (me:=abm) (fun j ys ρ=>∃o1 o2:Sl,ρ=[o1,o2,.val (rwD m (M i)),.val (rwD m (M k)),.val (.int d),.val (.int (k:Int))]/\ys=(List.range j).map fun j=>D.int (stM d k M i j))
  (l:=mz ((List.range m).map fun j=>D.int (M i j)) ((List.range m).map fun j=>D.int (M k j))) (ys:=[]) (ρ:=[.emp,.emp,.val (rwD m (M i)),.val (rwD m (M k)),.val (.int d),.val (.int (k:Int))]) 0 ⟨.emp,.emp,rfl,rfl⟩ ?_
 ·obtain⟨ys,ρ',e6,o1,o2,rfl,rfl⟩:=comp;have hz:(mz ((List.range m).map fun j=>D.int (M i j)) ((List.range m).map fun j=>D.int (M k j))).length=m:=by unfold mz;rw[List.length_zipWith,ur,ur];omega
  rw[hz,Nat.zero_add] at e6;exact⟨o1,o2,e6⟩
 ·rintro j z ys ρ hd ⟨o1,o2,rfl,rfl⟩
  have hj:j < m:=by
   rcases Nat.lt_or_ge j m with q | q
   ·exact q
   ·rw[List.getElem?_eq_none (by unfold mz;rw[List.length_zipWith,ur];omega)] at hd
    cases hd
  have ed:z=.tup [.int (M i j),.int (M k j)]:=by
   unfold mz at hd;rw[List.getElem?_zipWith,List.getElem?_map,List.getElem?_map,List.getElem?_range hj] at hd;exact(Option.some.inj hd).symm
  subst ed;have es:stM d k M i j=(M k k*M i j - M i k*M k j) / d:=by unfold stM;rw[if_neg hik]
  have fd:fDiv (M k k*M i j - M i k*M k j) d=some ((M k k*M i j - M i k*M k j) / d):=by unfold fDiv;rw[if_pos ⟨hd0,hd1⟩]
  refine⟨[.val (.int (M i j)),.val (.int (M k j)),.val (rwD m (M i)),.val (rwD m (M k)),.val (.int d),.val (.int (k:Int))],_,true,by simp,rfl,.inr ⟨rfl,.int (stM d k M i j),[.val (.int (M i j)),.val (.int (M k j)),.val (rwD m (M i)),.val (rwD m (M k)),.val (.int d),.val (.int (k:Int))],?_,_,_,rfl,?_⟩⟩
  ·rw[es];unfold rwD;generalize (List.range m).map (fun j=>D.int (M k j))=rk at *
   generalize (List.range m).map (fun j=>D.int (M i j))=ri at *
   generalize M k k=a1 at *;generalize M i j=a2 at *;generalize M i k=a3 at *;generalize M k j=a4 at *;have m1:fMul a1 a2=some (a1*a2):=by unfold fMul;rw[if_pos (.inl hkk)]
   have m2:fMul a3 a4=some (a3*a4):=by unfold fMul;rw[if_pos (.inl hic)]
   simp[abm,ek,ei,m1,m2,fd]
  ·rw[Nat.zero_add,List.range_succ,List.map_append];rfl
theorem apj{n m:Nat}{k:Nat}{M:Nat->Rw}{d:Int}(hkn:k < n)(hk:k < m)(hn:n<=1000)(hm:m<=1000)(hd0:0 < d)(hd1:d < 1000000000000000000000000000000000000000000000000000000000000)(hcol:∀i < n,-18446744073709551616 < M i k/\M i k < 18446744073709551616):aa0 [.val (.lst (mtD n m M)),.val (.int (k:Int)),.val (.int d)]=some (.ok (.fr (mtD n m (stM d k M))),[.val (.lst (mtD n m M)),.val (.int (k:Int)),.val (.int d)]):=by
 have loop:=ada (b:=bTup 2 (jg (bj 5) (jg (bj 6) bNil))) (g:=abi) (fun i ρ=>∃o5 o6,ρ=[.val (.lst (mtD n m M)),.val (.int (k:Int)),.val (.int d),.val (rwD m (M k)),.own none (mtD i m (stM d k M)),o5,o6])
  (l:=agn (mtD n m M)) (ρ:=[.val (.lst (mtD n m M)),.val (.int (k:Int)),.val (.int d),.val (rwD m (M k)),.own none [],.emp,.emp]) 0 ⟨.emp,.emp,rfl⟩ ?_
 ·obtain⟨ρ',e,o5,o6,rfl⟩:=loop;rw[adg,qp,Nat.zero_add] at e;have e1:=am7 (m:=m) (M:=M) hkn;generalize mtD n m (stM d k M)=m2 at *;generalize mtD n m M=mm at *;generalize rwD m (M k)=rk at *;simp[aa0,aj8,e1,e]
 ·rintro i z ρ hd ⟨o5,o6,rfl⟩
  rw[Nat.zero_add];obtain⟨d0,g1,rfl⟩:=af1 hd;have hi:i < n:=by
   have:=(List.getElem?_eq_some_iff.mp g1).1;rwa[qp] at this
  have ed:d0=rwD m (M i):=by
   unfold mtD at g1;rw[List.getElem?_map,List.getElem?_range hi] at g1;exact(Option.some.inj g1).symm
  subst ed;refine⟨[.val (.lst (mtD n m M)),.val (.int (k:Int)),.val (.int d),.val (rwD m (M k)),.own none (mtD i m (stM d k M)),.val (.int (i:Int)),.val (rwD m (M i))],[.val (.lst (mtD n m M)),.val (.int (k:Int)),.val (.int d),.val (rwD m (M k)),.own none (mtD (i+1) m (stM d k M)),.val (.int (i:Int)),.val (rwD m (M i))],rfl,.inl ?_,_,_,rfl⟩;have hcap:(mtD i m (stM d k M)).length < capS:=by rw[qp];unfold capS;omega
  rw[aie]
  by_cases hik:i=k
  ·subst hik;have ek:stM d i M i=M i:=by funext j;unfold stM;rw[if_pos rfl]
   rw[ek];have hl:=ur m (M i);have hc:((List.range m).map fun j=>D.int (M i j)).length<=capS:=by rw[hl];exact b7 hm
   unfold rwD;generalize (List.range m).map (fun j=>D.int (M i j))=rr at *
   generalize mtD i m (stM d i M)=m2 at *;generalize mtD n m M=mm at *;simp[abi,hc,hcap]
  ·obtain⟨q1,q2,e⟩:=apk (M:=M) hk hd0 hd1 hik (hcol k hkn) (hcol i hi);have l1:=ur m (M i);have l2:=ur m (M k);have l3:=ur m (stM d k M i);have hle:((List.range m).map fun j=>D.int (M i j)).length<=((List.range m).map fun j=>D.int (M k j)).length:=by rw[l1,l2];exact Nat.le_refl _
   have hc:((List.range m).map fun j=>D.int (stM d k M i j)).length<=capS:=by rw[l3];exact b7 hm
   have hne:¬((i:Int)=(k:Int)):=by omega
   unfold rwD at e ⊢
   generalize (List.range m).map (fun j=>D.int (stM d k M i j))=rs at *
   generalize (List.range m).map (fun j=>D.int (M i j))=ri at *
   generalize (List.range m).map (fun j=>D.int (M k j))=rk at *
   generalize mtD i m (stM d k M)=m2 at *;generalize mtD n m M=mm at *;simp[abi,hne,hle,e,hc,hcap]
def aug(A:Nat->Rw)(n:Nat)(c:Rw):Nat->Rw:=fun i j=>if j < n then A i j else c i
theorem ax2(A:Nat->Rw)(n:Nat)(c:Rw)(i:Nat):rwD (n+1) (aug A n c i)=.lst (((List.range n).map fun j=>.int (A i j))++[.int (c i)]):=by
 unfold rwD;rw[List.range_succ,List.map_append]
 congr 2
 ·apply List.map_congr_left;intro j hj;have:=List.mem_range.mp hj;unfold aug;rw[if_pos this]
 ·show[D.int (aug A n c i n)]=_;unfold aug;rw[if_neg (by omega)]
theorem awg{A:Nat->Rw}{n:Nat}{c:Rw}(hn:n<=100):∃q1 q2,compD (bTup 2 (jg (bj 0) (jg (bj 1) bNil))) (ret true) adh (mz (mtD n n A) ((List.range n).map fun i=>.int (c i))) [] [.emp,.emp]=some (.ok (mtD n (n+1) (aug A n c)),[q1,q2]):=by
 have comp:=za (b:=bTup 2 (jg (bj 0) (jg (bj 1) bNil))) (mc:=ret true) (me:=adh) (fun j ys ρ=>∃o1 o2:Sl,ρ=[o1,o2]/\ys=mtD j (n+1) (aug A n c))
  (l:=mz (mtD n n A) ((List.range n).map fun i=>D.int (c i))) (ys:=[]) (ρ:=[.emp,.emp]) 0 ⟨.emp,.emp,rfl,rfl⟩ ?_
 ·obtain⟨ys,ρ',e6,o1,o2,rfl,rfl⟩:=comp;have hz:(mz (mtD n n A) ((List.range n).map fun i=>D.int (c i))).length=n:=by unfold mz;rw[List.length_zipWith,qp,ur];omega
  rw[hz,Nat.zero_add] at e6;exact⟨o1,o2,e6⟩
 ·rintro j z ys ρ hd ⟨o1,o2,rfl,rfl⟩
  have hj:j < n:=by
   rcases Nat.lt_or_ge j n with q | q
   ·exact q
   ·rw[List.getElem?_eq_none (by unfold mz;rw[List.length_zipWith,qp];omega)] at hd
    cases hd
  have ed:z=.tup [rwD n (A j),.int (c j)]:=by
   unfold mz mtD at hd;rw[List.getElem?_zipWith,List.getElem?_map,List.getElem?_map,List.getElem?_range hj] at hd;exact(Option.some.inj hd).symm
  subst ed;have hl:=ur n (A j);have hc:((List.range n).map fun i=>D.int (A j i)).length<=capS:=by rw[hl];exact b7 (by omega)
  have hc2:((List.range n).map fun i=>D.int (A j i)).length+1<=capS:=by rw[hl];exact b7 (by omega)
  refine⟨[.val (rwD n (A j)),.val (.int (c j))],_,true,by simp,rfl,.inr ⟨rfl,rwD (n+1) (aug A n c j),[.val (rwD n (A j)),.val (.int (c j))],?_,_,_,rfl,?_⟩⟩
  ·rw[ax2];unfold rwD;generalize (List.range n).map (fun i=>D.int (A j i))=rr at *
   simp[adh,hc,hc2]
  ·rw[Nat.zero_add,aie]
def tops(qq:LL9)(c:Rw):Nat->Int:=fun i=>(BS (aug (dsq qq) qq.length c) qq.length).2 i qq.length
def botm(qq:LL9)(c:Rw):Int:=(BS (aug (dsq qq) qq.length c) qq.length).1
section
variable{qq:LL9}(h:Hs qq)(hop:ie qq=[])(c:Rw)
include h hop
theorem agc:∀i < qq.length,∀j < qq.length,aug (dsq qq) qq.length c i j=dsq qq i j:=fun i _ j hj=>by unfold aug;rw[if_pos hj]
theorem azz:0 < botm qq c/\botm qq c<=60466176:=by
 obtain⟨a,b⟩:=aky h hop (agc h hop c) qq.length (Nat.le_refl _);refine⟨a.pos,Int.le_trans b ?_⟩;have:(6:Int) ^ qq.length<=6 ^ 10:=by
  have:=Nat.pow_le_pow_right (show 0 < 6 by decide) h.most
  exact_mod_cast this
 exact this
theorem ap7:adc [.val (.lst (mtD qq.length qq.length (dsq qq))),.val (.lst ((List.range qq.length).map fun i=>.int (c i)))]=some (.ok (.v (.tup [.lst ((List.range qq.length).map fun i=>.int (tops qq c i)),.int (botm qq c)])),[.val (.lst (mtD qq.length qq.length (dsq qq))),.val (.lst ((List.range qq.length).map fun i=>.int (c i)))]):=by
 have hm:=h.most;generalize hM:aug (dsq qq) qq.length c=M0;have hM0:=agc h hop c;rw[hM] at hM0;have all:=aky h hop hM0;have loop:=ada (b:=bj 4) (g:=ac2) (fun k ρ=>k<=qq.length->∃o4 o5,ρ=[.val (.lst (mtD qq.length qq.length (dsq qq))),.val (.lst ((List.range qq.length).map fun i=>D.int (c i))),.own none (mtD qq.length (qq.length+1) (BS M0 k).2),.val (.int (BS M0 k).1),o4,o5])
  (l:=rangeD 0 qq.length) (ρ:=[.val (.lst (mtD qq.length qq.length (dsq qq))),.val (.lst ((List.range qq.length).map fun i=>D.int (c i))),.own none (mtD qq.length (qq.length+1) M0),.val (.int 1),.emp,.emp]) 0 (fun _=>⟨.emp,.emp,rfl⟩) ?_
 ·obtain⟨ρ',e,hρ⟩:=loop;have rl:(rangeD 0 qq.length).length=qq.length:=by simp[rangeD]
  rw[rl,Nat.zero_add] at hρ;obtain⟨o4,o5,rfl⟩:=hρ (Nat.le_refl _);obtain⟨q1,q2,e1⟩:=awg (A:=dsq qq) (n:=qq.length) (c:=c) (by omega)
  rw[hM] at e1;have ec:compD (bj 0) (ret true) af2 (mtD qq.length (qq.length+1) (BS M0 qq.length).2) [] [.emp,.val (.lst (mtD qq.length qq.length (dsq qq)))]=some (.ok ((List.range qq.length).map fun i=>.int (tops qq c i)),zx .emp (mtD qq.length (qq.length+1) (BS M0 qq.length).2)::[.val (.lst (mtD qq.length qq.length (dsq qq)))]):=by
   have hl:=qp qq.length qq.length (dsq qq);have et:=fun i=>agz (r:=(BS M0 qq.length).2 i) (m:=qq.length+1) (k:=qq.length) (by omega)
   have eg:∀i,((List.range (qq.length+1)).map fun j=>D.int ((BS M0 qq.length).2 i j))[qq.length]? = some (.int ((BS M0 qq.length).2 i qq.length)):=fun i=>by
    rw[List.getElem?_map,List.getElem?_range (by omega)]
    rfl
   rw[oh (f:=fun d=>match d with | .lst l=>(l[qq.length]?).getD .non | d=>d)]
   ·congr 3
    unfold mtD;rw[List.nil_append,List.map_map];apply List.map_congr_left;intro i _;show(((List.range (qq.length+1)).map fun j=>D.int ((BS M0 qq.length).2 i j))[qq.length]?).getD .non=.int (tops qq c i)
    rw[eg i];unfold tops;rw[hM];rfl
   ·intro d hd;unfold mtD at hd;obtain⟨i,_,rfl⟩:=List.mem_map.mp hd;have k1:=et i;have k2:=eg i
    clear e1 e hρ
    unfold rwD;generalize (List.range (qq.length+1)).map (fun j=>D.int ((BS M0 qq.length).2 i j))=rr at *
    generalize mtD qq.length qq.length (dsq qq)=mm at *;simp[af2,hl,k1,k2]
  have hl1:=qp qq.length qq.length (dsq qq);have hl2:=ur qq.length c;have hle:(mtD qq.length qq.length (dsq qq)).length<=((List.range qq.length).map fun i=>D.int (c i)).length:=by rw[hl1,hl2];exact Nat.le_refl _
  have hc1:(mtD qq.length (qq.length+1) M0).length<=capS:=by rw[qp];exact b7 (by omega)
  have hc2:((List.range qq.length).map fun i=>D.int (tops qq c i)).length<=capS:=by rw[ur qq.length (tops qq c)];exact b7 (by omega)
  have hb:qq.length < 4611686018427387904:=by omega
  have ed:botm qq c=(BS M0 qq.length).1:=by unfold botm;rw[hM]
  rw[ed];generalize (List.range qq.length).map (fun i=>D.int (tops qq c i))=tt at *
  generalize mtD qq.length (qq.length+1) (BS M0 qq.length).2=m3 at *;generalize mtD qq.length (qq.length+1) M0=m2 at *;generalize (List.range qq.length).map (fun i=>D.int (c i))=cc at *
  generalize mtD qq.length qq.length (dsq qq)=mm at *;generalize (BS M0 qq.length).1=dn at *;simp[adc,anw,e1,hc1,hl1,hl2,hb,e,ec,hc2]
 ·rintro k z ρ hd hρ
  rw[Nat.zero_add];have hk:k < qq.length:=by
   have:=(List.getElem?_eq_some_iff.mp hd).1
   simpa[rangeD] using this
  rw[Nat.zero_add] at hρ;obtain⟨o4,o5,rfl⟩:=hρ (by omega)
  have ez:z=.int (k:Int):=by
   unfold rangeD at hd;rw[List.getElem?_map,List.getElem?_range hk] at hd;have:=(Option.some.inj hd).symm
   simpa using this
  subst ez;obtain⟨b1,b2⟩:=all k (by omega)
  obtain⟨p1,p2,p3⟩:=a6m h hop hM0 b1 hk;have d0:=b1.pos;have d2:(BS M0 k).1<=60466176:=by
   have:(6:Int) ^ k<=6 ^ 10:=by
    have:=Nat.pow_le_pow_right (show 0 < 6 by decide) (show k<=10 by omega)
    exact_mod_cast this
   have e10:(6:Int) ^ 10=60466176:=by decide
   omega
  have d1:(BS M0 k).1 < 1000000000000000000000000000000000000000000000000000000000000:=by omega
  have e1:=alk (M:=(BS M0 k).2) hk (show k < qq.length+1 by omega) (by omega) (by omega)
  have e2:=aos (n:=qq.length) (m:=qq.length+1) (M:=(BS M0 k).2) (k:Int) (by omega) (by omega)
  have e3:=apj (M:=(BS M0 k).2) hk (show k < qq.length+1 by omega) (by omega) (by omega) d0 d1 (fun i hi=>by have:=p3 i hi;omega)
  have e4:=am7 (m:=qq.length+1) (M:=stM (BS M0 k).1 k (BS M0 k).2) hk;have e5:=agz (r:=stM (BS M0 k).1 k (BS M0 k).2 k) (show k < qq.length+1 by omega)
  have e6:stM (BS M0 k).1 k (BS M0 k).2 k k=(BS M0 k).2 k k:=by unfold stM;rw[if_pos rfl]
  rw[e6] at e5;refine⟨_,[.val (.lst (mtD qq.length qq.length (dsq qq))),.val (.lst ((List.range qq.length).map fun i=>D.int (c i))),.own none (mtD qq.length (qq.length+1) (BS M0 (k+1)).2),.val (.int (BS M0 (k+1)).1),.val (.int (k:Int)),.val (.int (k:Int))],rfl,.inl ?_,fun _=>⟨_,_,rfl⟩⟩
  show ac2 [.val (.lst (mtD qq.length qq.length (dsq qq))),.val (.lst ((List.range qq.length).map fun i=>D.int (c i))),.own none (mtD qq.length (qq.length+1) (BS M0 k).2),.val (.int (BS M0 k).1),.val (.int (k:Int)),o5]=some (Fl.nx,[.val (.lst (mtD qq.length qq.length (dsq qq))),.val (.lst ((List.range qq.length).map fun i=>D.int (c i))),.own none (mtD qq.length (qq.length+1) (stM (BS M0 k).1 k (BS M0 k).2)),.val (.int ((BS M0 k).2 k k)),.val (.int (k:Int)),.val (.int (k:Int))])
  unfold rwD at e4;generalize (List.range (qq.length+1)).map (fun j=>D.int (stM (BS M0 k).1 k (BS M0 k).2 k j))=rk at *
  generalize mtD qq.length (qq.length+1) (stM (BS M0 k).1 k (BS M0 k).2)=m3 at *;generalize mtD qq.length (qq.length+1) (BS M0 k).2=m2 at *;generalize (List.range qq.length).map (fun i=>D.int (c i))=cc at *
  generalize mtD qq.length qq.length (dsq qq)=mm at *;generalize (BS M0 k).2 k k=pk at *;generalize (BS M0 k).1=dk at *;simp[ac2,e1,isN,e2,e3,e4,e5]
end
theorem af7(x:Int):∀V:List Int,(V.map D.int).countP (fun y=>eqD y (.int x))=V.count x
 | []=>rfl
 | a::V=>by
  have e:=ais a x;rw[List.map_cons,List.countP_cons,af7 x V,List.count_cons,e]
  by_cases q:a=x <;> simp[q]
theorem au5(n:Nat)(r:List Int):compD (bj 0) (ret true) wk (rangeD 0 n) [] [.emp,.val (.tup (r.map D.int))]=some (.ok ((List.range n).map fun(j:Nat)=>.int (-((r.count (j:Int):Nat):Int))),zx .emp (rangeD 0 n)::[.val (.tup (r.map D.int))]):=by
 have ok:=ajo 30 r;have hc:=fun x=>af7 x r
 rw[oh (f:=fun d=>match d with | .int k=>.int (-((r.count k:Nat):Int)) | d=>d)]
 ·unfold rangeD;rw[List.nil_append,List.map_map]
  congr 3
  apply List.map_congr_left;intro i _;simp
 ·intro d hd;unfold rangeD at hd;obtain⟨k,_,rfl⟩:=List.mem_map.mp hd;have hk:=hc (k:Int);generalize r.map D.int=vv at *;simp[wk,ok,hk,okD]
section
variable{qq:LL9}(h:Hs qq)
include h
theorem axu{i:Nat}(hi:i < qq.length)(o4:Sl):∃q4,l1_doors_square [.val (hD qq),.own none (mtD i qq.length (dsq qq)),.val (.int (i:Int)),.val (.tup ((dr qq (i:Int)).map D.int)),o4]=some (.nx,[.val (hD qq),.own none (mtD (i+1) qq.length (dsq qq)),.val (.int (i:Int)),.val (.tup ((dr qq (i:Int)).map D.int)),q4]):=by
 have hm:=h.most;have hl:=zz qq;have e1:=au5 qq.length (dr qq (i:Int));have hb:qq.length < 4611686018427387904:=by omega
 have rl:((List.range qq.length).map fun(j:Nat)=>D.int (-(((dr qq (i:Int)).count (j:Int):Nat):Int))).length=qq.length:=by simp
 have hc:((List.range qq.length).map fun(j:Nat)=>D.int (-(((dr qq (i:Int)).count (j:Int):Nat):Int))).length<=capS:=by rw[rl];exact b7 (by omega)
 have ix:ixN ((List.range qq.length).map fun(j:Nat)=>D.int (-(((dr qq (i:Int)).count (j:Int):Nat):Int))).length (i:Int)=some i:=by
  rw[rl,aca (by omega) (by omega),Int.toNat_natCast]
 have ia:((List.range qq.length).map fun(j:Nat)=>D.int (-(((dr qq (i:Int)).count (j:Int):Nat):Int)))[i]? = some (.int (-(((dr qq (i:Int)).count (i:Int):Nat):Int))):=by
  rw[List.getElem?_map,List.getElem?_range hi];rfl
 have es:((List.range qq.length).map fun(j:Nat)=>D.int (-(((dr qq (i:Int)).count (j:Int):Nat):Int))).set i (.int (-(((dr qq (i:Int)).count (i:Int):Nat):Int)+((dr qq (i:Int)).length:Int)))=(List.range qq.length).map fun j=>D.int (dsq qq i j):=by
  apply List.ext_getElem?;intro j;rw[List.getElem?_set,rl]
  by_cases hj:j < qq.length
  ·rw[List.getElem?_map,List.getElem?_map,List.getElem?_range hj]
   by_cases e:i=j
   ·subst e;rw[if_pos rfl,if_pos hj];show _=some (D.int (dsq qq i i));unfold dsq;rw[if_pos rfl]
    congr 2
    omega
   ·rw[if_neg e];show some (D.int _)=some (D.int (dsq qq i j));unfold dsq;rw[if_neg e]
    congr 2
    omega
  ·rw[if_neg (by omega),List.getElem?_eq_none (by simp;omega),List.getElem?_eq_none (by simp;omega)]
 have dl:((dr qq (i:Int)).map D.int).length=(dr qq (i:Int)).length:=List.length_map ..
 have hcap:(mtD i qq.length (dsq qq)).length < capS:=by rw[qp];unfold capS;omega
 rw[aie];unfold rwD;rw[<-es];generalize ((List.range qq.length).map fun(j:Nat)=>D.int (-(((dr qq (i:Int)).count (j:Int):Nat):Int)))=rr at *
 generalize (-(((dr qq (i:Int)).count (i:Int):Nat):Int))=v at *;generalize (dr qq (i:Int)).length=ln at *;generalize (dr qq (i:Int)).map D.int=dd at *;generalize mtD i qq.length (dsq qq)=mm at *;refine⟨.val (.lst (rr.set i (.int (v+(ln:Int))))),?_⟩;have hc':qq.length<=capS:=b7 (by omega)
 have ix':ixN qq.length (i:Int)=some i:=by rw[<-rl];exact ix
 simp only[hD] at *;simp[l1_doors_square,hl,hb,e1,hc',rl,dl,ix',ia,hcap]
theorem af5:lq [.val (hD qq)]=some (.ok (.fr (mtD qq.length qq.length (dsq qq))),[.val (hD qq)]):=by
 have loop:=ada (b:=bTup 2 (jg (bj 2) (jg (bj 3) bNil))) (g:=l1_doors_square) (fun i ρ=>∃o2 o3 o4,ρ=[.val (hD qq),.own none (mtD i qq.length (dsq qq)),o2,o3,o4])
  (l:=agn (hDs qq)) (ρ:=[.val (hD qq),.own none [],.emp,.emp,.emp]) 0 ⟨.emp,.emp,.emp,rfl⟩ ?_
 ·obtain⟨ρ',e,o2,o3,o4,rfl⟩:=loop;rw[adg,zz,Nat.zero_add] at e;generalize mtD qq.length qq.length (dsq qq)=mm at *;simp only[hD] at *;simp[lq,abx,e]
 ·rintro i z ρ hd ⟨o2,o3,o4,rfl⟩
  rw[Nat.zero_add];obtain⟨d0,g1,rfl⟩:=af1 hd;have hi:i < qq.length:=by
   have:=(List.getElem?_eq_some_iff.mp g1).1;rwa[zz] at this
  have ed:d0=.tup ((dr qq (i:Int)).map D.int):=by
   unfold hDs at g1;rw[List.getElem?_map,List.getElem?_eq_getElem hi] at g1;unfold dr;rw[Int.toNat_natCast,List.getD_eq_getElem?_getD,List.getElem?_eq_getElem hi];exact(Option.some.inj g1).symm
  subst ed;obtain⟨q4,e⟩:=axu h hi o4;exact⟨_,_,rfl,.inl e,_,_,_,rfl⟩
end
section
variable{qq:LL9}(h:Hs qq)(hop:ie qq=[])
include h hop
end
theorem aki(cs:List Nat)(k:Rw):∀(a p r:List Rw),det cs (p++(a++k::r))=(-1) ^ a.length*det cs (p++k::(a++r))
 | [],p,r=>by simp
 | x::a,p,r=>by
  have ih:=aki cs k a (p++[x]) r;have h:=akf cs p x k (a++r);simp only[List.append_assoc,List.cons_append,List.nil_append] at ih h ⊢
  rw[ih,h,List.length_cons,Int.pow_succ,Int.mul_assoc,Int.mul_neg,Int.neg_mul,Int.one_mul,Int.mul_neg]
theorem av4{d:Int}{n:Nat}{M:Nat->Rw}(h:Dvd d n M){k:Nat}(hk:k < n)(hd:d≠0)(cs a b:List Nat)(hi:∀i∈a++b,i < n)(hn:k∉a++b):d ^ (a++b).length*det cs ((a++k::b).map (stM d k M))=(M k k) ^ (a++b).length*det cs ((a++k::b).map M):=by
 have e1:=ahp h hk hd (a++b) hi hn;have ek:stM d k M k=M k:=by funext j;unfold stM;rw[if_pos rfl]
 have e2:=adk cs d ((a++b).map (stM d k M)) [M k];have e3:=aiv cs (M k) (M k k) (fun r=>r k) ((a++b).map M) []
 rw[e1] at e2;simp only[List.nil_append,List.cons_append,List.length_map] at e2 e3;rw[e3] at e2;have f1:=aki cs (M k) (a.map (stM d k M)) [] (b.map (stM d k M));have f2:=aki cs (M k) (a.map M) [] (b.map M);rw[List.nil_append,List.nil_append,List.length_map,<-List.map_append] at f1 f2;have g1:(a++k::b).map (stM d k M)=a.map (stM d k M)++M k::b.map (stM d k M):=by rw[List.map_append,List.map_cons,ek]
 have g2:(a++k::b).map M=a.map M++M k::b.map M:=by rw[List.map_append,List.map_cons]
 rw[g1,f1,g2,f2,Int.mul_left_comm,Int.mul_left_comm ((M k k) ^ _),e2]
theorem at3{n k:Nat}(hk:k < n):∃a b,List.range n=a++k::b/\(∀i∈a++b,i < n)/\k∉a++b/\(a++b).length=n - 1:=by
 obtain⟨a,b,e⟩:=List.append_of_mem (List.mem_range.mpr hk);have nd:=List.nodup_range (n:=n);rw[e] at nd;have l:=congrArg List.length e;refine⟨a,b,e,fun i hi =>?_,?_,?_⟩
 ·have:i∈List.range n:=by
   rw[e];rcases List.mem_append.mp hi with z | z
   ·exact List.mem_append_left _ z
   ·exact List.mem_append_right _ (List.mem_cons_of_mem _ z)
  exact List.mem_range.mp this
 ·intro z;rw[List.nodup_append] at nd;rcases List.mem_append.mp z with q | q
  ·exact nd.2.2 k q k (List.mem_cons_self ..) rfl
  ·exact(List.nodup_cons.mp nd.2.1).1 q
 ·simp at l;simp;omega
theorem an7{d:Int}{M:Nat->Rw}:∀(is:List Nat),is.Nodup->(∀i∈is,∀j∈is,M i j=if i=j then d else 0)->det is (is.map M)=d ^ is.length
 | [],_,_=>by simp[det]
 | c::cs,nd,h=>by
  show lap c (det cs) [] (M c::cs.map M)=_;show M c c*det cs ([]++cs.map M) - lap c (det cs) ([]++[M c]) (cs.map M)=_;rw[aer,List.nil_append,an7 cs (List.nodup_cons.mp nd).2 fun i hi j hj=>h i (List.mem_cons_of_mem _ hi) j (List.mem_cons_of_mem _ hj),h c (List.mem_cons_self ..) c (List.mem_cons_self ..),if_pos rfl,List.length_cons,Int.pow_succ,Int.mul_comm,Int.sub_zero]
  intro r hr;obtain⟨i,hi,rfl⟩:=List.mem_map.mp hr;rw[h i (List.mem_cons_of_mem _ hi) c (List.mem_cons_self ..),if_neg];intro e;exact(List.nodup_cons.mp nd).1 (e▸hi)
theorem anf{c:Nat}{F:List Rw->Int}{A B:Nat->Rw}:∀(q p:List Nat),(∀l:List Nat,(∀i∈l,i∈p++q)->F (l.map A)=F (l.map B))->(∀i∈q,A i c=B i c)->lap c F (p.map A) (q.map A)=lap c F (p.map B) (q.map B)
 | [],p,_,_=>rfl
 | r::q,p,hF,hc=>by
  show A r c*F (p.map A++q.map A) - lap c F (p.map A++[A r]) (q.map A)=B r c*F (p.map B++q.map B) - lap c F (p.map B++[B r]) (q.map B);have e1:=hF (p++q) fun i hi=>by
   rcases List.mem_append.mp hi with z | z
   ·exact List.mem_append_left _ z
   ·exact List.mem_append_right _ (List.mem_cons_of_mem _ z)
  have e2:=anf (c:=c) (F:=F) (A:=A) (B:=B) q (p++[r]) (fun l hl=>hF l fun i hi=>by have:=hl i hi;simpa using this) fun i hi=>hc i (List.mem_cons_of_mem _ hi)
  rw[List.map_append,List.map_append] at e1;rw[List.map_append,List.map_append] at e2;have e2:lap c F (p.map A++[A r]) (q.map A)=lap c F (p.map B++[B r]) (q.map B):=e2;rw[e1,e2,hc r (List.mem_cons_self ..)]
theorem adl:∀(cs is:List Nat) (A B:Nat->Rw),(∀i∈is,∀j∈cs,A i j=B i j)->det cs (is.map A)=det cs (is.map B)
 | [],[],_,_,_=>rfl
 | [],_::_,_,_,_=>rfl
 | c::cs,is,A,B,h=>by
  have:=anf (c:=c) (F:=det cs) (A:=A) (B:=B) is [] (fun l hl=>adl cs l A B fun i hi j hj=>h i (by simpa using hl i hi) j (List.mem_cons_of_mem _ hj)) fun i hi=>h i hi c (List.mem_cons_self ..)
  exact this
theorem av5(cs:List Nat)(A B:Nat->Rw)(h:∀i∈cs,∀j∈cs,A i j=B i j):det cs (cs.map A)=det cs (cs.map B):=adl cs cs A B h
theorem awe{n:Nat}{A:Nat->Rw}{c:Rw}(one:1<=n)(all:∀k,k<=n->BJ n (n+1) (aug A n c) (fun j=>j < k) (BS (aug A n c) k).1 (BS (aug A n c) k).2):(BS (aug A n c) n).1=det (List.range n) ((List.range n).map A):=by
 have inv:∀k,k<=n->det (List.range n) ((List.range n).map (BS (aug A n c) k).2)=(BS (aug A n c) k).1 ^ (n - 1)*det (List.range n) ((List.range n).map (aug A n c)):=fun k=>by
  induction k with
  | zero =>
   intro _;show _=(1:Int) ^ _*_;rw[Int.one_pow,Int.one_mul];rfl
  | succ k ih =>
   intro hk;have ih:=ih (by omega)
   have a:=all k (by omega)
   obtain⟨x,y,e,h1,h2,h3⟩:=at3 (n:=n) (k:=k) (by omega)
   have s:=av4 a.dvd (k:=k) (by omega) (by have:=a.pos;omega) (List.range n) x y h1 h2
   rw[h3,<-e,ih] at s;refine Int.eq_of_mul_eq_mul_left (a:=(BS (aug A n c) k).1 ^ (n - 1)) (Int.pow_ne_zero (by have:=a.pos;omega)) ?_
   show _*det _ ((List.range n).map (stM (BS (aug A n c) k).1 k (BS (aug A n c) k).2))=_*((BS (aug A n c) k).2 k k ^ _*_);rw[s,Int.mul_left_comm]
 have q:=inv n (Nat.le_refl _);have a:=all n (Nat.le_refl _);have d:=an7 (d:=(BS (aug A n c) n).1) (M:=(BS (aug A n c) n).2) (List.range n) List.nodup_range fun i hi j hj=>a.shape i (List.mem_range.mp hi) j (List.mem_range.mp hj)
 rw[d,List.length_range] at q;have q2:(BS (aug A n c) n).1 ^ (n - 1)*(BS (aug A n c) n).1=(BS (aug A n c) n).1 ^ (n - 1)*det (List.range n) ((List.range n).map (aug A n c)):=by
  rw[<-q,<-Int.pow_succ]
  congr 1
  omega
 have q3:=Int.eq_of_mul_eq_mul_left (Int.pow_ne_zero (by have:=a.pos;omega)) q2
 rw[q3];exact av5 (List.range n) _ _ fun i _ j hj=>by unfold aug;rw[if_pos (List.mem_range.mp hj)]
theorem aeu{qq:LL9}(h:Hs qq)(hop:ie qq=[])(c:Rw):botm qq c=det (List.range qq.length) ((List.range qq.length).map (dsq qq)):=awe h.one fun k hk=>(aky h hop (agc h hop c) k hk).1
def cdot:List Nat->Rw->Rw->Int
 | [],_,_=>0
 | c::cs,x,r=>x c*r c+cdot cs x r
theorem aob(x a b:Rw)(p q:Int):∀cs,cdot cs x (fun j=>p*a j+q*b j)=p*cdot cs x a+q*cdot cs x b
 | []=>by simp[cdot]
 | c::cs=>by
  show x c*(p*a c+q*b c)+cdot cs x _=p*(x c*a c+cdot cs x a)+q*(x c*b c+cdot cs x b);rw[aob x a b p q cs,Int.mul_add,Int.mul_add,Int.mul_add,Int.mul_left_comm (x c) p,Int.mul_left_comm (x c) q];omega
theorem akl{x:Rw}(r:Rw):∀cs,(∀j∈cs,x j=0)->cdot cs x r=0
 | [],_=>rfl
 | c::cs,h=>by
  show x c*r c+cdot cs x r=0;rw[h c (List.mem_cons_self ..),akl r cs fun j hj=>h j (List.mem_cons_of_mem _ hj),Int.zero_mul]
  rfl
theorem asp(x:Rw):∀(cs:List Nat) (rows:List Rw),(∀r∈rows,cdot cs x r=0)->(∃j∈cs,x j≠0)->det cs rows=0
 | [],_,_,⟨_,h,_⟩=>by cases h
 | c::cs,rows,hr,hx=>by
  by_cases hz:∀r∈rows,r c=0
  ·exact aer rows [] hz
  ·obtain⟨k,hk,hkc⟩:∃k,k∈rows/\k c≠0:=by
    apply Classical.byContradiction;intro z;exact hz fun r hr'=>Classical.byContradiction fun q=>z ⟨r,hr',q⟩
   obtain⟨a,b,rfl⟩:=List.append_of_mem hk;have e:=chio c cs k (a++b);have hx':∃j∈cs,x j≠0:=by
    apply Classical.byContradiction;intro z;have z0:∀j∈cs,x j=0:=fun j hj=>Classical.byContradiction fun q=>z ⟨j,hj,q⟩
    have q:=hr k hk;have q:x c*k c+cdot cs x k=0:=q;rw[akl k cs z0,Int.add_zero] at q;obtain⟨j,hj,hne⟩:=hx;rcases List.mem_cons.mp hj with w | w
    ·subst w;rcases Int.mul_eq_zero.mp q with v | v
     ·exact hne v
     ·exact hkc v
    ·exact hne (z0 j w)
   have d0:=asp x cs ((a++b).map fun r=>clr (k c) (r c) r k) (fun r hr'=>by
    obtain⟨r0,h0,rfl⟩:=List.mem_map.mp hr';have h1:x c*r0 c+cdot cs x r0=0:=hr r0 (by
     rcases List.mem_append.mp h0 with w | w
     ·exact List.mem_append_left _ w
     ·exact List.mem_append_right _ (List.mem_cons_of_mem _ w))
    have h2:x c*k c+cdot cs x k=0:=hr k hk;show cdot cs x (fun j=>k c*r0 j+(-(r0 c))*k j)=0
    rw[aob,show cdot cs x r0 = -(x c*r0 c) by omega,show cdot cs x k = -(x c*k c) by omega,Int.mul_neg,Int.neg_mul,Int.mul_neg,Int.neg_neg,Int.mul_left_comm (k c),Int.mul_left_comm (r0 c),Int.mul_comm (k c) (r0 c)]
    omega) hx'
   rw[d0,Int.mul_zero] at e;have e2:det (c::cs) (k::(a++b))=0:=by
    rcases Int.mul_eq_zero.mp e.symm with w | w
    ·exact absurd w (Int.pow_ne_zero hkc)
    ·exact w
   have f:=aki (c::cs) k a [] b;rw[List.nil_append,List.nil_append,e2,Int.mul_zero] at f;exact f
theorem asl{α:Type}(cs:List Nat)(p q:List Rw)(r:α->Rw):∀l:List α,det cs (p++(fun j=>(l.map fun d=>r d j).sum)::q)=(l.map fun d=>det cs (p++r d::q)).sum
 | []=>by
  have:=akh cs p 0 0 (fun _=>0) (fun _=>0) q
  have e:(fun j=>(([]:List α).map fun d=>r d j).sum)=fun j=>(0:Int)*(fun _=>(0:Int)) j+0*(fun _=>(0:Int)) j:=by funext j;simp
  rw[e,this];simp
 | d::l=>by
  have:=akh cs p 1 1 (r d) (fun j=>(l.map fun d=>r d j).sum) q
  have e:(fun j=>((d::l).map fun d=>r d j).sum)=fun j=>1*r d j+1*(l.map fun d=>r d j).sum:=by funext j;simp
  rw[e,this,asl cs p q r l,List.map_cons,List.sum_cons];omega
def picks{α:Type}:List (List α)->List (List α)
 | []=>[[]]
 | l::ls=>l.flatMap fun d=>(picks ls).map fun c=>d::c
theorem sum_map_add{α:Type}(f:α->Int):∀a b:List α,((a++b).map f).sum=(a.map f).sum+(b.map f).sum:=fun a b=>by rw[List.map_append,List.sum_append]
theorem qe{α β:Type}(f:β->Int)(g:α->List β):∀l:List α,((l.flatMap g).map f).sum=(l.map fun d=>((g d).map f).sum).sum
 | []=>rfl
 | d::l=>by
  rw[List.flatMap_cons,sum_map_add,qe f g l,List.map_cons,List.sum_cons]
theorem akg(cs:List Nat):∀(ls:List (List Rw)) (p:List Rw),det cs (p++ls.map fun l j=>(l.map fun r=>r j).sum)=((picks ls).map fun c=>det cs (p++c)).sum
 | [],p=>by simp[picks]
 | l::ls,p=>by
  rw[List.map_cons,asl cs p _ (fun r=>r) l]
  unfold picks;rw[qe]
  congr 1
  apply List.map_congr_left;intro r _;have:=akg cs ls (p++[r]);rw[List.append_assoc] at this;rw[List.map_map];have e:(fun c=>det cs (p++c))∘(fun c=>r::c)=fun c=>det cs ((p++[r])++c):=by
   funext c
   simp
  rw[e,<-this];rfl
section
variable{qq:LL9}(h:Hs qq)(hop:ie qq=[])
include h hop
theorem a1c{M0:Nat->Rw}(hM:∀i < qq.length,∀j < qq.length,M0 i j=dsq qq i j){P:Nat->Prop}{d:Int}{M:Nat->Rw}(b:BJ qq.length (qq.length+1) M0 P d M){k:Nat}(hk:k < qq.length)(hnk:¬P k):M k k<=((dr qq (k:Int)).length:Int)*d:=by
 obtain⟨Y,Yk,Yb,m1,q1,q2⟩:=colY h hop hM b hk hnk;have p1:=b.pos;have hx0:∀d,d < 0->xt Y d=0:=fun d hd=>by unfold xt;rw[if_pos hd]
 have xi:∀i:Int,0<=i->xt Y i=Y i.toNat:=fun i hi=>by unfold xt;rw[if_neg (by omega)]
 have nn:∀i:Int,0<=i->i < (qq.length:Int)->0<=xt Y i:=fun i i0 i1=>by
  have:=am9 h hop (X:=fun d => - xt Y d) (fun d hd=>by show - xt Y d=0;rw[hx0 d hd];rfl) (fun i i0 i1 hi=>by
   have hik:P i.toNat:=by
    apply Classical.byContradiction;intro z
    by_cases e:i.toNat=k
    ·rw[xi i i0,e,Yk] at hi;omega
    ·rw[xi i i0,Yb _ z e] at hi;omega
   have a:=q1 _ hik;rw[show((i.toNat:Nat):Int)=i by omega] at a
   rw[aq0 h hop,xi i i0,Int.mul_neg];omega) i i0 i1
  omega
 have a:=q2 k hk hnk;rw[Yk] at a;have s4:∀l:List Int,(∀x∈l,0<=xt Y x)->0<=(l.map (xt Y)).sum:=fun l=>by
  induction l with
  | nil=>intro _;simp
  | cons x l ih =>
   intro hl;rw[List.map_cons,List.sum_cons];have:=ih fun y hy=>hl y (List.mem_cons_of_mem _ hy)
   have:=hl x (List.mem_cons_self ..);omega
 have:=s4 (dr qq (k:Int)) fun x hx=>by
  rcases Int.lt_or_le x 0 with z | z
  ·rw[hx0 x z];omega
  ·exact nn x z ((h.dr (x:=(k:Int)) (by omega) (by omega)).2.2 x hx).2
 omega
theorem az0(h1:∀k,k < qq.length->(dr qq (k:Int)).length=1):botm qq (fun _=>0)=1:=by
 have all:=aky h hop (agc h hop fun _=>0)
 have le:∀k,k<=qq.length->(BS (aug (dsq qq) qq.length fun _=>0) k).1<=1:=fun k=>by
  induction k with
  | zero=>intro _;exact Int.le_refl _
  | succ k ih =>
   intro hk;have a:=ih (by omega)
   have p:=a1c h hop (agc h hop fun _=>0) (all k (by omega)).1 (k:=k) (by omega) (by omega)
   rw[h1 k (by omega)] at p
   show(BS (aug (dsq qq) qq.length fun _=>0) k).2 k k<=1
   omega
 have a:=(all qq.length (Nat.le_refl _)).1.pos;have b:=le qq.length (Nat.le_refl _);unfold botm;omega
end
def ch(v:List Int):LL9:=v.map fun d=>[d]
theorem apg{v:List Int}{i:Nat}(hi:i < v.length):dr (ch v) (i:Int)=[v[i]]:=by
 unfold dr ch;rw[Int.toNat_natCast,List.getD_eq_getElem?_getD,List.getElem?_map,List.getElem?_eq_getElem hi];rfl
theorem an9(v:List Int):(ch v).length=v.length:=by simp[ch]
theorem a8b{v:List Int}(h1:1<=v.length)(h2:v.length<=10)(hv:∀d∈v,-3<=d/\d < (v.length:Int)):Hs (ch v):=⟨by rw[an9];exact h1,by rw[an9];exact h2,fun r hr=>by
 obtain⟨d,hd,rfl⟩:=List.mem_map.mp hr;refine⟨by simp,by simp,fun x hx =>?_⟩
 rw[List.mem_singleton] at hx;rw[hx,an9];exact hv d hd⟩
theorem aod(x r:Rw):∀a b,cdot (a++b) x r=cdot a x r+cdot b x r
 | [],b=>by simp[cdot]
 | c::a,b=>by
  show x c*r c+cdot (a++b) x r=x c*r c+cdot a x r+cdot b x r;rw[aod x r a b];omega
theorem aoc(x r:Rw):∀n,cdot (List.range n) x r=dot n r x
 | 0=>rfl
 | n+1=>by
  rw[List.range_succ,aod,aoc x r n];show _+(x n*r n+0)=dot n r x+r n*x n;rw[Int.mul_comm (x n)];omega
theorem ax6{v:List Int}{i:Nat}(hi:i < v.length){z:Int}(h:Rch (ch v) (i:Int) z):z=(i:Int)∨Rch (ch v) v[i] z:=by
 induction h with
 | base=>exact .inl rfl
 | @step x d hr hx hd ih =>
  rcases ih with e | e
  ·right
   rw[e,apg hi,List.mem_singleton] at hd;rw[hd];exact .base
  ·exact .inr (.step e hx hd)
theorem ax8{v:List Int}{i:Nat}(hi:i < v.length){z:Int}(h:Rch (ch v) v[i] z):Rch (ch v) (i:Int) z:=by
 induction h with
 | base=>exact .step .base (by omega) (by rw[apg hi];simp)
 | step hr hx hd ih=>exact .step ih hx hd
theorem ahj(qq:LL9)(i:Nat)(hi:i < qq.length):(i:Int)∈ie qq↔∀z,Rch qq (i:Int) z->0<=z:=⟨fun h=>(zb qq _).mp (List.mem_filter.mp h).2,fun h=>ak6 (by omega) (by omega) h⟩
theorem leaf{v:List Int}(h1:1<=v.length)(h2:v.length<=10)(hv:∀d∈v,-3<=d/\d < (v.length:Int)):det (List.range v.length) ((List.range v.length).map (dsq (ch v)))=if ie (ch v)=[] then 1 else 0:=by
 have h:=a8b h1 h2 hv;have hl:=an9 v
 by_cases q:ie (ch v)=[]
 ·rw[if_pos q];have e:=aeu h q (fun _=>0)
  rw[az0 h q fun k hk=>by rw[apg (by omega)];rfl,hl] at e
  exact e.symm
 ·rw[if_neg q];have x0:∀i:Nat,i < v.length->dot v.length (dsq (ch v) i) (fun j=>if (j:Int)∈ie (ch v) then 1 else 0)=0:=fun i hi=>by
   have e:=ash h (fun j=>if (j:Int)∈ie (ch v) then 1 else 0) (i:=i) (by omega)
   rw[hl,apg hi] at e;rw[e];have hb:=hv v[i] (List.getElem_mem hi);show((1:Nat):Int)*(if (i:Int)∈ie (ch v) then 1 else 0) - (([v[i]].map (xt _)).sum)=0
   rw[List.map_cons,List.map_nil,List.sum_cons,List.sum_nil]
   by_cases g:v[i] < 0
   ·have ni:¬(i:Int)∈ie (ch v):=fun w=>by
     have:=(ahj (ch v) i (by omega)).mp w v[i] (.step .base (by omega) (by rw[apg hi];simp))
     omega
    unfold xt;rw[if_neg ni,if_pos g];rfl
   ·have eq:((i:Int)∈ie (ch v))↔((v[i].toNat:Nat):Int)∈ie (ch v):=by
     rw[ahj (ch v) i (by omega),ahj (ch v) v[i].toNat (by omega),show((v[i].toNat:Nat):Int)=v[i] by omega]
     exact⟨fun w z hz=>w z (ax8 hi hz),fun w z hz=>by
      rcases ax6 hi hz with e | e
      ·omega
      ·exact w z e⟩
    unfold xt;rw[if_neg g];show((1:Nat):Int)*(if (i:Int)∈ie (ch v) then 1 else 0) - ((if ((v[i].toNat:Nat):Int)∈ie (ch v) then 1 else 0)+0)=0
    by_cases w:(i:Int)∈ie (ch v)
    ·rw[if_pos w,if_pos (eq.mp w)];rfl
    ·rw[if_neg w,if_neg fun z=>w (eq.mpr z)]
     rfl
  refine asp (fun j=>if (j:Int)∈ie (ch v) then 1 else 0) (List.range v.length) _ (fun r hr =>?_) ?_
  ·obtain⟨i,hi,rfl⟩:=List.mem_map.mp hr;rw[aoc];exact x0 i (List.mem_range.mp hi)
  ·obtain⟨t,ht⟩:=List.exists_mem_of_ne_nil _ q;have:=(List.mem_filter.mp ht).1;unfold upto at this;obtain⟨k,hk,rfl⟩:=List.mem_map.mp this;refine⟨k,by rw[<-hl];exact hk,?_⟩
   show(if ((k:Nat):Int)∈ie (ch v) then (1:Int) else 0)≠0
   rw[if_pos ht]
   decide
def rowC(i:Nat)(d:Int):Rw:=fun j=>(if i=j then 1 else 0) - (if d=(j:Int) then 1 else 0)
theorem amw(i j:Nat):∀l:List Int,(l.map fun d=>rowC i d j).sum=(if i=j then (l.length:Int) else 0) - ((l.count (j:Int):Nat):Int)
 | []=>by simp
 | d::l=>by
  rw[List.map_cons,List.sum_cons,amw i j l,List.count_cons,List.length_cons];unfold rowC
  by_cases a:i=j <;> by_cases b:d=(j:Int) <;> simp[a,b] <;> omega
def lsF:Nat->LL9->List (List Rw)
 | _,[]=>[]
 | k,r::rs=>r.map (rowC k)::lsF (k+1) rs
def rwF:Nat->List Int->List Rw
 | _,[]=>[]
 | k,d::v=>rowC k d::rwF (k+1) v
theorem aq7:∀(rs:LL9) (k i:Nat),(lsF k rs)[i]? = (rs[i]?).map fun r=>r.map (rowC (k+i))
 | [],k,i=>by simp[lsF]
 | r::rs,k,0=>by simp[lsF]
 | r::rs,k,i+1=>by
  show(lsF (k+1) rs)[i]? = _;rw[aq7 rs (k+1) i,show k+1+i=k+(i+1) by omega]
  simp
theorem aqg:∀(v:List Int) (k i:Nat),(rwF k v)[i]? = (v[i]?).map (rowC (k+i))
 | [],k,i=>by simp[rwF]
 | d::v,k,0=>by simp[rwF]
 | d::v,k,i+1=>by
  show(rwF (k+1) v)[i]? = _;rw[aqg v (k+1) i,show k+1+i=k+(i+1) by omega]
  simp
theorem ajg:∀(rs:LL9) (k:Nat),picks (lsF k rs)=(picks rs).map (rwF k)
 | [],k=>rfl
 | r::rs,k=>by
  show(r.map (rowC k)).flatMap (fun d=>(picks (lsF (k+1) rs)).map fun c=>d::c)=(r.flatMap fun d=>(picks rs).map fun c=>d::c).map (rwF k)
  rw[ajg rs (k+1),List.flatMap_map,List.map_flatMap]
  congr 1
  funext d
  rw[List.map_map,List.map_map];rfl
theorem ajf:∀{rs:LL9} {v:List Int},v∈picks rs->v.length=rs.length/\∀d∈v,∃r∈rs,d∈r
 | [],v,h=>by
  have:v=[]:=by simpa[picks] using h
  subst this;exact⟨rfl,fun d hd=>by cases hd⟩
 | r::rs,v,h=>by
  unfold picks at h;obtain⟨d,hd,hv⟩:=List.mem_flatMap.mp h;obtain⟨c,hc,rfl⟩:=List.mem_map.mp hv;obtain⟨a,b⟩:=ajf hc;refine⟨by rw[List.length_cons,List.length_cons,a],fun x hx =>?_⟩
  rcases List.mem_cons.mp hx with e | e
  ·exact⟨r,List.mem_cons_self ..,e▸hd⟩
  ·obtain⟨q,hq,z⟩:=b x e;exact⟨q,List.mem_cons_of_mem _ hq,z⟩
theorem aue(qq:LL9):((lsF 0 qq).map fun l j=>(l.map fun r=>r j).sum)=(List.range qq.length).map (dsq qq):=by
 apply List.ext_getElem?;intro i;rw[List.getElem?_map,List.getElem?_map,aq7]
 by_cases hi:i < qq.length
 ·rw[List.getElem?_eq_getElem hi,List.getElem?_range hi];show some _=some _
  congr 1
  funext j
  show((qq[i].map (rowC (0+i))).map fun r=>r j).sum=dsq qq i j
  rw[List.map_map];have:=amw (0+i) j qq[i];have e:dr qq (i:Int)=qq[i]:=by
   unfold dr;rw[Int.toNat_natCast,List.getD_eq_getElem?_getD,List.getElem?_eq_getElem hi];rfl
  unfold dsq;rw[e];rw[Nat.zero_add] at this ⊢
  exact this
 ·rw[List.getElem?_eq_none (by omega),List.getElem?_eq_none (by simp;omega)]
  rfl
theorem ax1(v:List Int):rwF 0 v=(List.range v.length).map (dsq (ch v)):=by
 apply List.ext_getElem?;intro i;rw[aqg,List.getElem?_map]
 by_cases hi:i < v.length
 ·rw[List.getElem?_eq_getElem hi,List.getElem?_range hi];show some _=some _
  congr 1
  funext j
  unfold dsq rowC;rw[apg hi,Nat.zero_add];generalize v[i]=x;have e:(([x].count (j:Int):Nat):Int)=if x=(j:Int) then 1 else 0:=by
   rw[List.count_cons,List.count_nil]
   by_cases b:x=(j:Int) <;> simp[b]
  rw[e];rfl
 ·rw[List.getElem?_eq_none (by omega),List.getElem?_eq_none (by simp;omega)]
  rfl
theorem tree{qq:LL9}(h:Hs qq)(hop:ie qq=[])(c:Rw):botm qq c=((picks qq).map fun v=>if ie (ch v)=[] then (1:Int) else 0).sum:=by
 rw[aeu h hop c,<-aue];have e:=akg (List.range qq.length) (lsF 0 qq) [];rw[List.nil_append] at e;rw[e,ajg,List.map_map]
 congr 1
 apply List.map_congr_left;intro v hv;obtain⟨a,b⟩:=ajf hv;show det (List.range qq.length) ([]++rwF 0 v)=_;rw[List.nil_append,ax1,<-a];have h1:=h.one;have h2:=h.most;exact leaf (by omega) (by omega) fun d hd=>by
  obtain⟨r,hr,hdr⟩:=b d hd;have:=(h.room r hr).2.2 d hdr;omega
theorem aje(G:Int->Int)(c:Int):∀(H:LL9) (r:Nat) (F:List Int->Int) (l:List Int),H[r]? = some l->((picks H).map fun v=>G (v.getD r 0)*F (v.set r c)).sum=(l.map G).sum*((picks (H.set r [c])).map F).sum
 | [],_,_,_,h=>by simp at h
 | l0::H,0,F,l,h=>by
  simp at h;subst h;unfold picks;rw[qe,List.set_cons_zero];have e2:(((([c]:List Int).flatMap fun d=>(picks H).map fun c=>d::c)).map F).sum=((picks H).map fun t=>F (c::t)).sum:=by
   rw[qe];simp[List.map_map,Function.comp_def]
  show _=(l0.map G).sum*((([c]:List Int).flatMap fun d=>(picks H).map fun c=>d::c).map F).sum
  rw[e2]
  induction l0 with
  | nil=>simp
  | cons d l0 ih =>
   rw[List.map_cons,List.sum_cons,ih,List.map_cons,List.sum_cons,Int.add_mul]
   congr 1
   rw[List.map_map];have:((fun v:List Int=>G (v.getD 0 0)*F (v.set 0 c))∘fun c=>d::c)=fun t=>G d*F (c::t):=by
    funext t
    simp
   rw[this];generalize picks H=P
   induction P with
   | nil=>simp
   | cons t P ih=>rw[List.map_cons,List.sum_cons,ih,List.map_cons,List.sum_cons,Int.mul_add]
 | l0::H,r+1,F,l,h=>by
  have hh:H[r]? = some l:=by simpa using h
  clear h
  rw[List.set_cons_succ];unfold picks;rw[qe,qe]
  induction l0 with
  | nil=>simp
  | cons d l0 ih =>
   rw[List.map_cons,List.sum_cons,ih,List.map_cons,List.sum_cons,Int.mul_add]
   congr 1
   have e:=aje G c H r (fun u=>F (d::u)) l hh
   rw[List.map_map,List.map_map];have e1:((fun v:List Int=>G (v.getD (r+1) 0)*F (v.set (r+1) c))∘fun c=>d::c)=fun t=>G (t.getD r 0)*F (d::t.set r c):=by
    funext t
    simp
   rw[e1,e];rfl
theorem amm{α β:Type}(f:α->β->Int)(lb:List β):∀la:List α,(la.map fun a=>(lb.map fun b=>f a b).sum).sum=(lb.map fun b=>(la.map fun a=>f a b).sum).sum
 | []=>by
  show 0=_
  induction lb with
  | nil=>rfl
  | cons b lb ih=>rw[List.map_cons,List.sum_cons,<-ih];rfl
 | a::la=>by
  rw[List.map_cons,List.sum_cons,amm f lb la]
  induction lb with
  | nil=>rfl
  | cons b lb ih =>
   simp only[List.map_cons,List.sum_cons] at ih ⊢
   omega
theorem amq(P:Int->Prop)[DecidablePred P](w:Int)(hw:P w):∀l:List Int,l.Nodup->w∈l->(∀y∈l,P y->y=w)->(l.map fun y=>if P y then (1:Int) else 0).sum=1
 | [],_,h,_=>by cases h
 | y::l,hn,h,hu=>by
  obtain⟨n1,n2⟩:=List.nodup_cons.mp hn;rw[List.map_cons,List.sum_cons]
  by_cases e:y=w
  ·subst e;rw[if_pos hw];have:(l.map fun y=>if P y then (1:Int) else 0).sum=0:=by
    have hz:∀x∈l,¬P x:=fun x hx hp=>by
     have:=hu x (List.mem_cons_of_mem _ hx) hp;subst this;exact n1 hx
    clear hu h hn n1 n2
    induction l with
    | nil=>rfl
    | cons x l ih=>rw[List.map_cons,List.sum_cons,if_neg (hz x (List.mem_cons_self ..)),ih fun y hy=>hz y (List.mem_cons_of_mem _ hy)];rfl
   rw[this];rfl
  ·rw[if_neg fun hp=>e (hu y (List.mem_cons_self ..) hp)]
   have hm:w∈l:=by
    rcases List.mem_cons.mp h with q | q
    ·exact absurd q.symm e
    ·exact q
   rw[amq P w hw l n2 hm fun x hx=>hu x (List.mem_cons_of_mem _ hx)]
   rfl
theorem amn(P:Int->Prop)[DecidablePred P]:∀l:List Int,(∀y∈l,¬P y)->(l.map fun y=>if P y then (1:Int) else 0).sum=0
 | [],_=>rfl
 | x::l,hz=>by rw[List.map_cons,List.sum_cons,if_neg (hz x (List.mem_cons_self ..)),amn P l fun y hy=>hz y (List.mem_cons_of_mem _ hy)];rfl
def AllR(C:List Int)(v:List Int)(r:Int):Prop:=∀x∈C,∃m,itr v x m=r
theorem ayu(C v:List Int)(hC:∀x∈C,0<=x/\x < (v.length:Int))(cl:∀x∈C,v.getD x.toNat 0∈C){r:Int}(hr:r∈C) :
  (AllR C v r->∃w∈C,v.getD w.toNat 0=r/\AllR C v w)/\(∀w∈C,v.getD w.toNat 0=r->AllR C v w->AllR C v r)/\∀w∈C,∀w'∈C,v.getD w.toNat 0=r->AllR C v w->v.getD w'.toNat 0=r->AllR C v w'->w=w':=by
 have nx:∀x∈C,nxt v x=v.getD x.toNat 0:=fun x hx=>by
  unfold nxt;rw[if_pos (hC x hx).1]
 have inC:∀m x,x∈C->itr v x m∈C:=fun m=>by
  induction m with
  | zero=>exact fun x hx=>hx
  | succ m ih =>
   intro x hx;rw[aaw,nx _ (ih x hx)];exact cl _ (ih x hx)
 refine⟨fun A =>?_,fun w hw e A x hx =>?_,fun w hw w' hw' e A e' A' =>?_⟩
 ·obtain⟨m,hm⟩:=A _ (cl r hr);have hm:itr v (v.getD r.toNat 0) m=r:=hm;cases m with
  | zero =>
   have hm:v.getD r.toNat 0=r:=hm;exact⟨r,hr,hm,A⟩
  | succ m =>
   rw[aaw] at hm;have hc:=inC m _ (cl r hr);rw[nx _ hc] at hm;refine⟨_,hc,hm,fun x hx =>?_⟩
   obtain⟨j,hj⟩:=A x hx;refine⟨j+(1+m),?_⟩;rw[ad8,hj,ad8];show itr v (nxt v r) m=_;rw[nx r hr]
 ·obtain⟨m,hm⟩:=A x hx;exact⟨m+1,by rw[aaw,hm,nx w hw,e]⟩
 ·obtain⟨m,hm,lm⟩:=least (P:=fun m=>itr v r m=w) _ (A r hr).choose_spec
  obtain⟨m',hm',lm'⟩:=least (P:=fun m=>itr v r m=w') _ (A' r hr).choose_spec
  have n1:nxt v w=r:=by rw[nx w hw,e]
  have n2:nxt v w'=r:=by rw[nx w' hw',e']
  have q1:=aeq hm n1 hm' lm';have q2:=aeq hm' n2 hm lm;have:m=m':=by omega
  subst this;rw[<-hm,hm']
theorem ah4:∀{H:LL9} {v:List Int},v∈picks H->∀(i:Nat) (l:List Int),H[i]? = some l->∃d∈l,v[i]? = some d
 | [],v,_,i,l,e=>by simp at e
 | l0::H,v,hv,i,l,e=>by
  unfold picks at hv;obtain⟨d,hd,hv⟩:=List.mem_flatMap.mp hv;obtain⟨t,ht,rfl⟩:=List.mem_map.mp hv;cases i with
  | zero=>simp at e;subst e;exact⟨d,hd,rfl⟩
  | succ i =>
   obtain⟨d',h1,h2⟩:=ah4 ht i l (by simpa using e)
   exact⟨d',h1,by simpa using h2⟩
theorem acs:∀{H:LL9} {v:List Int},v∈picks H->v.length=H.length
 | [],v,hv=>by simp[picks] at hv;subst hv;rfl
 | l0::H,v,hv=>by
  unfold picks at hv;obtain⟨d,hd,hv⟩:=List.mem_flatMap.mp hv;obtain⟨t,ht,rfl⟩:=List.mem_map.mp hv;rw[List.length_cons,List.length_cons,acs ht]
def Hc(qq:LL9)(C:List Int):LL9:=(List.range qq.length).map fun(i:Nat)=>if (i:Int)∈C then dr qq (i:Int) else [-1]
def Hr(qq:LL9)(C:List Int)(r:Int):LL9:=(Hc qq C).set r.toNat [-1]
noncomputable def xr(qq:LL9)(C:List Int)(r:Int):Int:=((picks (Hr qq C r)).map fun v=>if ie (ch v)=[] then (1:Int) else 0).sum
theorem akx(qq:LL9)(C:List Int):(Hc qq C).length=qq.length:=by simp[Hc]
theorem awk{qq:LL9}{C:List Int}{i:Nat}(hi:i < qq.length):(Hc qq C)[i]? = some (if (i:Int)∈C then dr qq (i:Int) else [-1]):=by
 unfold Hc;rw[List.getElem?_map,List.getElem?_range hi];rfl
structure Cl (qq:LL9) (C:List Int):Prop where
 rng:∀x∈C,0<=x/\x < (qq.length:Int)
 cls:∀x∈C,∀d∈dr qq x,d∈C
 all:∀x∈C,∀y∈C,Rch qq x y
section
variable{qq:LL9}(h:Hs qq){C:List Int}(c:Cl qq C)
include h c
theorem alo{v:List Int}(hv:v∈picks (Hc qq C)){x:Int}(hx:x∈C):v.getD x.toNat 0∈dr qq x:=by
 have hr:=c.rng x hx;obtain⟨d,hd,e⟩:=ah4 hv x.toNat _ (awk (by omega))
 rw[show((x.toNat:Nat):Int)=x by omega,if_pos hx] at hd
 rw[List.getD_eq_getElem?_getD,e];exact hd
theorem am1{v:List Int}(hv:v∈picks (Hc qq C)){x:Int}(x0:0<=x)(x1:x < (qq.length:Int))(hx:x∉C):v.getD x.toNat 0 = -1:=by
 obtain⟨d,hd,e⟩:=ah4 hv x.toNat _ (awk (by omega))
 rw[show((x.toNat:Nat):Int)=x by omega,if_neg hx,List.mem_singleton] at hd
 rw[List.getD_eq_getElem?_getD,e,hd];rfl
theorem aqp{v:List Int}(hv:v∈picks (Hc qq C))(r:Int):Ways (v.set r.toNat (-1)):=by
 have hl:=acs hv;rw[akx] at hl;refine⟨by rw[List.length_set,hl];exact h.one,by rw[List.length_set,hl];exact h.most,fun y hy =>?_⟩
 rw[List.length_set];have h1:=h.one;rcases List.mem_or_eq_of_mem_set hy with q | q
 ·obtain⟨i,hi,e⟩:=List.mem_iff_getElem.mp q;have hir:i < qq.length:=by omega
  have eg:v.getD i 0=y:=by rw[List.getD_eq_getElem?_getD,List.getElem?_eq_getElem hi,e];rfl
  by_cases z:(i:Int)∈C
  ·have m:=alo h c hv z;rw[show((i:Nat):Int).toNat=i by omega,eg] at m
   have:=(h.dr (x:=(i:Int)) (by omega) (by omega)).2.2 y m
   omega
  ·have m:=am1 h c hv (x:=(i:Int)) (by omega) (by omega) z
   rw[show((i:Nat):Int).toNat=i by omega,eg] at m
   omega
 ·rw[q];omega
theorem acv{v:List Int}(hv:v∈picks (Hc qq C)){r:Int}(hr:r∈C):ie (ch (v.set r.toNat (-1)))=[]↔AllR C v r:=by
 have hl:=acs hv;rw[akx] at hl;have hrr:=c.rng r hr;have w:=aqp h c hv r;have eL:ch (v.set r.toNat (-1))=lp (v.set r.toNat (-1)):=rfl;rw[eL];have nx:∀x∈C,nxt v x∈C:=fun x hx=>by
  unfold nxt;rw[if_pos (c.rng x hx).1];exact c.cls x hx _ (alo h c hv hx)
 have inC:∀m x,x∈C->itr v x m∈C:=fun m=>by
  induction m with
  | zero=>exact fun x hx=>hx
  | succ m ih =>
   intro x hx;rw[aaw];exact nx _ (ih x hx)
 have ns:∀x,nxt (v.set r.toNat (-1)) x=if x=r then -1 else nxt v x:=aid hrr.1 (by omega)
 constructor
 ·intro ht x hx;refine Classical.byContradiction fun no =>?_
  have no:∀m,itr v x m≠r:=fun m e=>no ⟨m,e⟩
  have rc:∀z,Rch (lp (v.set r.toNat (-1))) x z->∃m,z=itr v x m:=fun z hz=>by
   induction hz with
   | base=>exact⟨0,rfl⟩
   | @step y d _ q hd ih =>
    obtain⟨m,rfl⟩:=ih;have hy:=c.rng _ (inC m x hx);rw[a3u q (by rw[List.length_set];omega),List.mem_singleton] at hd
    refine⟨m+1,?_⟩;have e:=ns (itr v x m);rw[if_neg (no m)] at e;rw[aaw,<-e];unfold nxt;rw[if_pos hy.1];exact hd
  have hx':=c.rng x hx;have:=ak6 (qq:=lp (v.set r.toNat (-1))) hx'.1 (by rw[ajs,List.length_set];omega) fun z hz=>by
   obtain⟨m,rfl⟩:=rc z hz;exact(c.rng _ (inC m x hx)).1
  rw[ht] at this;cases this
 ·intro A;cases ht:ie (lp (v.set r.toNat (-1))) with
  | nil=>rfl
  | cons s l =>
   exfalso;have hs:s∈ie (lp (v.set r.toNat (-1))):=by rw[ht];exact List.mem_cons_self ..
   have pos:=ay8 w hs;have s0:=pos 0;rw[List.length_set] at s0;have s0:0<=s/\s < (v.length:Int):=s0
   by_cases q:s∈C
   ·obtain⟨m,hm,lm⟩:=least (P:=fun m=>itr v s m=r) _ (A s q).choose_spec
    have e:=afp (L:=v) (d := -1) hrr.1 (by omega) m fun i hi=>lm i hi
    have p:=(pos (m+1)).1;rw[aaw,e,hm,ns,if_pos rfl] at p;omega
   ·have p:=(pos 1).1;have e:itr (v.set r.toNat (-1)) s 1=nxt (v.set r.toNat (-1)) s:=rfl;rw[e,ns,if_neg (show ¬s=r from fun z=>q (by rw[z];exact hr))] at p
    unfold nxt at p;rw[if_pos s0.1,am1 h c hv s0.1 (by omega) q] at p
    omega
theorem a7g{r:Int}(hr:r∈C):((upto qq.length).map fun w=>if w∈C then xr qq C w*((dr qq w).count r:Int) else 0).sum=xr qq C r*((dr qq r).length:Int):=by
 have one:∀w∈C,∀G:Int->Int,((picks (Hc qq C)).map fun v=>G (v.getD w.toNat 0)*(if ie (ch (v.set w.toNat (-1)))=[] then (1:Int) else 0)).sum=((dr qq w).map G).sum*xr qq C w:=fun w hw G=>by
  have hwr:=c.rng w hw;have e:=awk (qq:=qq) (C:=C) (i:=w.toNat) (by omega)
  rw[show((w.toNat:Nat):Int)=w by omega,if_pos hw] at e
  exact aje G (-1) (Hc qq C) w.toNat (fun v=>if ie (ch v)=[] then (1:Int) else 0) _ e
 have e1:=one r hr fun _=>1
 have e2:((dr qq r).map fun _=>(1:Int)).sum=((dr qq r).length:Int):=by
  generalize dr qq r=l
  induction l with
  | nil=>rfl
  | cons x l ih=>rw[List.map_cons,List.sum_cons,ih,List.length_cons];omega
 rw[e2,Int.mul_comm] at e1;rw[<-e1];have pt:∀v∈picks (Hc qq C),(1:Int)*(if ie (ch (v.set r.toNat (-1)))=[] then (1:Int) else 0)=((upto qq.length).map fun w=>if w∈C/\v.getD w.toNat 0=r/\ie (ch (v.set w.toNat (-1)))=[] then (1:Int) else 0).sum:=fun v hv=>by
  have hl:=acs hv;rw[akx] at hl;obtain⟨o1,o2,o3⟩:=ayu C v (fun x hx=>by rw[hl];exact c.rng x hx) (fun x hx=>c.cls x hx _ (alo h c hv hx)) hr
  rw[Int.one_mul]
  by_cases q:ie (ch (v.set r.toNat (-1)))=[]
  ·rw[if_pos q];obtain⟨w,hw,ew,aw⟩:=o1 ((acv h c hv hr).mp q);have hwr:=c.rng w hw;exact(amq (fun w=>w∈C/\v.getD w.toNat 0=r/\ie (ch (v.set w.toNat (-1)))=[]) w ⟨hw,ew,(acv h c hv hw).mpr aw⟩ _ (adu _) (aep hwr.1 hwr.2) fun y _ hy=>o3 y hy.1 w hw hy.2.1 ((acv h c hv hy.1).mp hy.2.2) ew aw).symm
  ·rw[if_neg q];exact(amn (fun w=>w∈C/\v.getD w.toNat 0=r/\ie (ch (v.set w.toNat (-1)))=[]) _ fun y _ hy=>q ((acv h c hv hr).mpr (o2 y hy.1 hy.2.1 ((acv h c hv hy.1).mp hy.2.2)))).symm
 have e3:((picks (Hc qq C)).map fun v=>(1:Int)*(if ie (ch (v.set r.toNat (-1)))=[] then (1:Int) else 0))=(picks (Hc qq C)).map fun v=>((upto qq.length).map fun w=>if w∈C/\v.getD w.toNat 0=r/\ie (ch (v.set w.toNat (-1)))=[] then (1:Int) else 0).sum:=List.map_congr_left pt
 rw[e3,amm (fun v w=>if w∈C/\v.getD w.toNat 0=r/\ie (ch (v.set w.toNat (-1)))=[] then (1:Int) else 0) (upto qq.length) (picks (Hc qq C))]
 congr 1
 refine List.map_congr_left fun w _ =>?_
 by_cases q:w∈C
 ·rw[if_pos q];have e:=one w q fun d=>if d=r then 1 else 0
  have e4:((dr qq w).map fun d=>if d=r then (1:Int) else 0).sum=((dr qq w).count r:Int):=by
   generalize dr qq w=l
   induction l with
   | nil=>rfl
   | cons x l ih =>
    rw[List.map_cons,List.sum_cons,ih,ik]
    by_cases z:x=r
    ·rw[if_pos z,if_pos z];omega
    ·rw[if_neg z,if_neg z];omega
  rw[e4,Int.mul_comm] at e;rw[<-e]
  congr 1
  refine List.map_congr_left fun v _ =>?_
  by_cases z1:v.getD w.toNat 0=r
  ·by_cases z2:ie (ch (v.set w.toNat (-1)))=[]
   ·rw[if_pos z1,if_pos z2,if_pos ⟨q,z1,z2⟩];rfl
   ·rw[if_pos z1,if_neg z2,if_neg fun z=>z2 z.2.2];rfl
  ·rw[if_neg z1,Int.zero_mul,if_neg (show ¬(w∈C/\v.getD w.toNat 0=r/\ie (ch (v.set w.toNat (-1)))=[]) from fun z=>z1 z.2.1)]
 ·rw[if_neg q]
  symm
  have:∀v∈picks (Hc qq C),(if w∈C/\v.getD w.toNat 0=r/\ie (ch (v.set w.toNat (-1)))=[] then (1:Int) else 0)=0:=fun v _=>if_neg fun z=>q z.1
  rw[List.map_congr_left this];generalize picks (Hc qq C)=P
  induction P with
  | nil=>rfl
  | cons x P ih=>rw[List.map_cons,List.sum_cons,ih];rfl
end
theorem arj{c:Nat}{F:List Rw->Int}{e:Rw}(hF:∀p q,F (p++e::q)=0):∀(rs p1 p2:List Rw),lap c F (p1++e::p2) rs=0
 | [],_,_=>rfl
 | r::rs,p1,p2=>by
  have ih:=arj (c:=c) hF rs p1 (p2++[r]);have e1:=hF p1 (p2++rs);simp only[lap,List.append_assoc,List.cons_append] at ih ⊢
  rw[e1,ih,Int.mul_zero];rfl
theorem ard{c:Nat}{F:List Rw->Int}{e:Rw}(hF:∀p q,F (p++e::q)=0)(hc:e c=0)(q:List Rw):∀(p pre:List Rw),lap c F pre (p++e::q)=0
 | [],pre=>by
  have i:=arj (c:=c) hF q pre [];show e c*_ - lap c F (pre++[e]) q=0;rw[i,hc,Int.zero_mul];rfl
 | r::p,pre=>by
  show r c*F (pre++(p++e::q)) - lap c F (pre++[r]) (p++e::q)=0;rw[ard hF hc q p (pre++[r]),<-List.append_assoc,hF,Int.mul_zero];rfl
theorem an5{e:Rw}:∀(cs:List Nat),(∀j∈cs,e j=0)->∀p q,det cs (p++e::q)=0
 | [],_,p,q=>by
  cases h:p++e::q with
  | nil=>simp at h
  | cons _ _=>rfl
 | c::cs,h,p,q=>ard (an5 cs fun j hj=>h j (List.mem_cons_of_mem _ hj)) (h c (List.mem_cons_self ..)) q p []
theorem ane{c:Nat}{F F':List Rw->Int}{e:Rw}{s:Int}(hF:∀X,F (e::X)=s*F' X):∀(rs pre:List Rw),lap c F (e::pre) rs=s*lap c F' pre rs
 | [],_=>by show 0=s*0;rw[Int.mul_zero]
 | r::rs,pre=>by
  have ih:=ane (c:=c) hF rs (pre++[r]);show r c*F (e::(pre++rs)) - lap c F (e::(pre++[r])) rs=s*(r c*F' (pre++rs) - lap c F' (pre++[r]) rs);rw[ih,hF,Int.mul_sub,Int.mul_left_comm]
theorem an4{e:Rw}{q:Nat}(h1:e q=1):∀(a b:List Nat) (rs:List Rw),(∀j∈a++b,e j=0)->det (a++q::b) (e::rs)=(-1) ^ a.length*det (a++b) rs
 | [],b,rs,h=>by
  have z:=arj (c:=q) (F:=det b) (e:=e) (an5 b h) rs [] [];show e q*det b ([]++rs) - lap q (det b) ([]++[e]) rs=_;have z:lap q (det b) ([]++[e]) rs=0:=z;rw[z,h1];simp
 | c::a,b,rs,h=>by
  have ih:=fun X=>an4 h1 a b X fun j hj=>h j (List.mem_cons_of_mem _ hj)
  have z:=ane (c:=c) (F:=det (a++q::b)) (F':=det (a++b)) (e:=e) ih rs [];show e c*det (a++q::b) ([]++rs) - lap c (det (a++q::b)) [e] rs=_;rw[h c (List.mem_cons_self ..),z,Int.zero_mul,List.length_cons,Int.pow_succ];show 0 - _=_*det (c::(a++b)) rs;have:det (c::(a++b)) rs=lap c (det (a++b)) [] rs:=rfl;rw[this,Int.mul_neg_one,Int.neg_mul];omega
theorem aw0:∀n:Nat,((-1:Int) ^ n)*((-1) ^ n)=1
 | 0=>rfl
 | n+1=>by
  rw[Int.pow_succ];have:=aw0 n;rw[Int.mul_neg_one,Int.neg_mul_neg];exact this
theorem aso{M:Nat->Rw}{q:Nat}(a b:List Nat)(h1:M q q=1)(h0:∀j∈a++b,M q j=0):det (a++q::b) ((a++q::b).map M)=det (a++b) ((a++b).map M):=by
 have e:=aki (a++q::b) (M q) (a.map M) [] (b.map M);rw[List.nil_append,List.nil_append,List.length_map] at e;rw[List.map_append,List.map_cons,e,an4 h1 a b _ h0,<-Int.mul_assoc,aw0,Int.one_mul,List.map_append]
theorem aee{M:Nat->Rw}(P:Nat->Bool):∀(l a:List Nat),(a++l).Nodup->(∀q∈l,P q=false->M q q=1/\∀j,j≠q->M q j=0)->det (a++l) ((a++l).map M)=det (a++l.filter P) ((a++l.filter P).map M)
 | [],a,_,_=>rfl
 | q::l,a,hn,h=>by
  cases hp:P q with
  | true =>
   have e:=aee P l (a++[q]) (by rw[List.append_assoc];exact hn) fun x hx=>h x (List.mem_cons_of_mem _ hx)
   rw[List.append_assoc,List.append_assoc] at e;rw[List.filter_cons,hp,if_pos rfl];exact e
  | false =>
   obtain⟨h1,h0⟩:=h q (List.mem_cons_self ..) hp;rw[List.filter_cons,hp,if_neg (by simp)]
   have hn2:q∉a++l:=by
    have:=(List.perm_middle.nodup_iff.mp hn);exact(List.nodup_cons.mp this).1
   rw[aso a l h1 fun j hj=>h0 j fun z=>hn2 (z▸hj)]
   exact aee P l a ((List.nodup_cons.mp (List.perm_middle.nodup_iff.mp hn)).2) fun x hx=>h x (List.mem_cons_of_mem _ hx)
theorem arh{f:Nat->Nat}{c:Nat}{F F':List Rw->Int}(hF:∀X:List Rw,F X=F' (X.map fun r j=>r (f j))):∀rs pre:List Rw,lap (f c) F pre rs=lap c F' (pre.map fun r j=>r (f j)) (rs.map fun r j=>r (f j))
 | [],_=>rfl
 | r::rs,pre=>by
  have ih:=arh (c:=c) hF rs (pre++[r]);rw[List.map_append] at ih;show r (f c)*F (pre++rs) - lap (f c) F (pre++[r]) rs=_;rw[ih,hF,List.map_append];rfl
theorem asn(f:Nat->Nat):∀(cs:List Nat) (rows:List Rw),det (cs.map f) rows=det cs (rows.map fun r j=>r (f j))
 | [],[]=>rfl
 | [],_::_=>rfl
 | c::cs,rows=>by
  show lap (f c) (det (cs.map f)) [] rows=lap c (det cs) [] _;rw[arh (F':=det cs) (asn f cs)];rfl
theorem agd(qq:LL9)(C:List Int)(r:Int):(Hr qq C r).length=qq.length:=by unfold Hr;rw[List.length_set,akx]
section
variable{qq:LL9}(h:Hs qq){C:List Int}(c:Cl qq C){r:Int}(hr:r∈C)
include h c hr
theorem atm{i:Nat}(hi:i < qq.length):dr (Hr qq C r) (i:Int)=if (i:Int)∈C/\(i:Int)≠r then dr qq (i:Int) else [-1]:=by
 have hrr:=c.rng r hr;unfold dr Hr;rw[List.getD_eq_getElem?_getD,Int.toNat_natCast,List.getElem?_set]
 by_cases q:r.toNat=i
 ·have:(i:Int)=r:=by omega
  rw[if_pos q,akx,if_pos (by omega),if_neg fun z=>z.2 this]
  rfl
 ·rw[if_neg q,awk hi];have ne:(i:Int)≠r:=fun z=>q (by omega)
  by_cases z:(i:Int)∈C
  ·rw[if_pos z,if_pos ⟨z,ne⟩];rfl
  ·rw[if_neg z,if_neg fun y=>z y.1];rfl
theorem a0c:Hs (Hr qq C r):=by
 refine⟨by rw[agd];exact h.one,by rw[agd];exact h.most,fun l hl =>?_⟩
 obtain⟨i,hi,e⟩:=List.mem_iff_getElem.mp hl;rw[agd] at hi;have e2:dr (Hr qq C r) (i:Int)=l:=by
  unfold dr;rw[List.getD_eq_getElem?_getD,Int.toNat_natCast,List.getElem?_eq_getElem (by rw[agd];exact hi),e]
  rfl
 rw[atm h c hr hi] at e2;rw[agd];split at e2
 ·rw[<-e2];exact h.dr (x:=(i:Int)) (by omega) (by omega)
 ·rw[<-e2];refine⟨by simp,by simp,fun x hx =>?_⟩
  rw[List.mem_singleton] at hx;rw[hx];omega
theorem amk:ie (Hr qq C r)=[]:=by
 have hrr:=c.rng r hr;have out:∀i:Int,0<=i->i < (qq.length:Int)->¬(i∈C/\i≠r)->Rch (Hr qq C r) i (-1):=fun i i0 i1 hi=>by
  refine .step .base i0 ?_;have e:=atm h c hr (i:=i.toNat) (by omega)
  rw[show((i.toNat:Nat):Int)=i by omega,if_neg hi] at e
  rw[e];exact List.mem_singleton.mpr rfl
 have all:∀i:Int,0<=i->i < (qq.length:Int)->Rch (Hr qq C r) i (-1):=fun i i0 i1=>by
  by_cases q:i∈C/\i≠r
  ·have go:∀y,Rch qq i y->y∈C/\(Rch (Hr qq C r) i y∨Rch (Hr qq C r) i (-1)):=fun y hy=>by
    induction hy with
    | base=>exact⟨q.1,.inl .base⟩
    | @step y d _ y0 hd ih =>
     obtain⟨yc,ih⟩:=ih;refine⟨c.cls y yc d hd,?_⟩;rcases ih with ih | ih
     ·have yr:=c.rng y yc
      by_cases z:y=r
      ·exact .inr (su ih (out y yr.1 yr.2 fun w=>w.2 z))
      ·refine .inl (.step ih y0 ?_);have e:=atm h c hr (i:=y.toNat) (by omega)
       rw[show((y.toNat:Nat):Int)=y by omega,if_pos ⟨yc,z⟩] at e
       rw[e];exact hd
     ·exact .inr ih
   rcases(go r (c.all i q.1 r hr)).2 with z | z
   ·exact su z (out r hrr.1 hrr.2 fun w=>w.2 rfl)
   ·exact z
  ·exact out i i0 i1 q
 cases ht:ie (Hr qq C r) with
 | nil=>rfl
 | cons s l =>
  exfalso;have hs:s∈ie (Hr qq C r):=by rw[ht];exact List.mem_cons_self ..
  have hs2:=List.mem_filter.mp hs;have b:=ux hs2.1;rw[agd] at b;have:=(zb _ _).mp hs2.2 _ (all s b.1 b.2);omega
theorem awm(cc:Rw):xr qq C r=botm (Hr qq C r) cc:=(tree (a0c h c hr) (amk h c hr) cc).symm
theorem atr:0 < xr qq C r/\xr qq C r<=60466176:=by
 rw[awm h c hr fun _=>0]
 exact azz (a0c h c hr) (amk h c hr) _
theorem a0j:xr qq C r=det ((List.range qq.length).filter fun(i:Nat)=>decide ((i:Int)∈C/\(i:Int)≠r)) (((List.range qq.length).filter fun(i:Nat)=>decide ((i:Int)∈C/\(i:Int)≠r)).map (dsq qq)):=by
 rw[awm h c hr fun _=>0,aeu (a0c h c hr) (amk h c hr),agd]
 have e:=aee (M:=dsq (Hr qq C r)) (fun(i:Nat)=>decide ((i:Int)∈C/\(i:Int)≠r)) (List.range qq.length) [] (by rw[List.nil_append];exact List.nodup_range) fun q hq hp=>by
  have e:=atm h c hr (i:=q) (List.mem_range.mp hq);rw[if_neg (of_decide_eq_false hp)] at e;unfold dsq;rw[e];refine⟨?_,fun j hj =>?_⟩
  ·rw[if_pos rfl,List.count_eq_zero.mpr (by rw[List.mem_singleton];omega)]
   rfl
  ·rw[if_neg (Ne.symm hj),List.count_eq_zero.mpr (by rw[List.mem_singleton];omega)]
   rfl
 rw[List.nil_append,List.nil_append] at e;rw[e];refine adl _ _ _ _ fun i hi j _ =>?_
 obtain⟨h1,h2⟩:=List.mem_filter.mp hi;have e:=atm h c hr (i:=i) (List.mem_range.mp h1);rw[if_pos (of_decide_eq_true h2)] at e;unfold dsq;rw[e]
end
def mu(x y:Nat):Nat:=if y=0 then 0 else (x*y).log2+(if x < y then 2 else 1)
theorem ayy{x y:Nat}(hy:y≠0):mu y (x % y) < mu x y:=by
 unfold mu;rw[if_neg hy]
 by_cases hr:x % y=0
 ·rw[if_pos hr];split <;> omega
 ·rw[if_neg hr];have hlt:x % y < y:=Nat.mod_lt _ (by omega)
  rw[if_neg (show ¬y < x % y by omega)]
  by_cases hxy:x < y
  ·rw[if_pos hxy,Nat.mod_eq_of_lt hxy,Nat.mul_comm];omega
  ·rw[if_neg hxy];have h2:2*(x % y)<=x:=by
    have:=Nat.div_add_mod x y;have h1:1<=x / y:=(Nat.one_le_div_iff (by omega)).mpr (by omega)
    have:y*1<=y*(x / y):=Nat.mul_le_mul_left _ h1;omega
   have h3:2*(y*(x % y))<=x*y:=by
    rw[Nat.mul_left_comm,Nat.mul_comm x y];exact Nat.mul_le_mul_left _ h2
   have h4:y*(x % y)≠0:=Nat.mul_ne_zero hy hr;have h5:(y*(x % y)).log2 < (x*y).log2:=by
    have a:=Nat.log2_self_le h4;have b:2 ^ ((y*(x % y)).log2+1)<=x*y:=by rw[Nat.pow_succ];omega
    have:=(Nat.le_log2 (by omega)).mpr b
    omega
   omega
theorem a6t{x y:Nat}(h:x*y < 2 ^ 1000):mu x y < 2000:=by
 unfold mu;split
 ·decide
 ·by_cases z:x*y=0
  ·rw[z];split <;> decide
  ·have:=(Nat.log2_lt z).mpr h;split <;> omega
theorem euclid{c:M Bool}{g:Sd}(fr:Int->Int->Sl->Ro)(hc:∀x y o,c (fr x y o)=some (.ok (decide (y≠0)),fr x y o))(hg:∀x y o,0 < y->∃o',g (fr x y o)=some (.nx,fr y (x % y) o'))(x y:Nat)(hb:x*y < 2 ^ 1000)(o:Sl):∃o',whileD c g fuel (fr x y o)=some (.nx,fr ((Nat.gcd x y:Nat):Int) 0 o'):=by
 have loop:=aa9 (c:=c) (g:=g)
  (fun n ρ=>∃(a b:Nat) (o:Sl),n=mu a b/\Nat.gcd a b=Nat.gcd x y/\ρ=fr a b o)
  (fun ρ=>∃o:Sl,ρ=fr ((Nat.gcd x y:Nat):Int) 0 o)
  ?_ fuel (mu x y) (fr x y o) (Nat.lt_trans (a6t hb) (Nat.lt_trans (by decide) aip)) ⟨x,y,o,rfl,rfl,rfl⟩
 ·obtain⟨ρ',e,o',rfl⟩:=loop;exact⟨o',e⟩
 ·rintro n ρ ⟨a,b,o,rfl,hab,rfl⟩
  by_cases hz:b=0
  ·subst hz;refine .inl ⟨fr a (0:Nat) o,?_,o,?_⟩
   ·have:=hc a (0:Nat) o;rw[this];rfl
   ·rw[<-hab,Nat.gcd_zero_right];rfl
  ·obtain⟨o',e⟩:=hg a b o (by omega)
   refine .inr ⟨fr a b o,fr b ((a:Int) % (b:Int)) o',mu b (a % b),?_,e,ayy hz,b,a % b,o',rfl,?_,?_⟩
   ·rw[hc a b o,decide_eq_true (by omega)]
   ·rw[<-hab,Nat.gcd_comm b,<-Nat.gcd_rec,Nat.gcd_comm]
   ·rw[Int.natCast_emod]
theorem a4k(t:Int):gAbs (.int t)=some (.v (.int (t.natAbs:Int))):=by
 show some (Rv.v (.int _))=_
 congr 3
 try omega
theorem cd_one(t:Int)(x:Nat)(hb:x*t.natAbs < 2 ^ 1000)(a0 a3 a4:Sl):∃b3 b4,l1_common_divisor [a0,.val (.int (x:Int)),.val (.int t),a3,a4]=some (.nx,[a0,.val (.int ((Nat.gcd x t.natAbs:Nat):Int)),.val (.int t),b3,b4]):=by
 obtain⟨o',e⟩:=euclid (c:=qd) (g:=qb) (fun x y o=>[a0,.val (.int x),.val (.int t),.val (.int y),o])
  (fun x y o=>by by_cases z:y=0 <;> simp[qd,z]) (fun x y o hy=>⟨.val (.int (x % y)),by
   have e:fMod x y=some (x % y):=by unfold fMod;rw[if_pos hy]
   simp[qb,e]⟩) x t.natAbs hb a4
 have e2:=a4k t;refine⟨.val (.int 0),o',?_⟩;simp[l1_common_divisor,e2,e]
def gcdL:Nat->List Int->Nat
 | x,[]=>x
 | x,t::l=>gcdL (Nat.gcd x t.natAbs) l
theorem anv:∀(l:List Int) (x:Nat),gcdL x l ∣ x/\∀t∈l,gcdL x l ∣ t.natAbs
 | [],x=>⟨Nat.dvd_refl _,fun t ht=>by cases ht⟩
 | t::l,x=>by
  obtain⟨a,b⟩:=anv l (Nat.gcd x t.natAbs);refine⟨Nat.dvd_trans a (Nat.gcd_dvd_left ..),fun u hu =>?_⟩
  rcases List.mem_cons.mp hu with z | z
  ·rw[z];exact Nat.dvd_trans a (Nat.gcd_dvd_right ..)
  ·exact b u z
theorem anu(d m:Nat):∀(l:List Int) (x:Nat),d ∣ m*x->(∀t∈l,d ∣ m*t.natAbs)->d ∣ m*gcdL x l
 | [],x,hx,_=>hx
 | t::l,x,hx,hl=>anu d m l (Nat.gcd x t.natAbs) (by
  rw[<-Nat.gcd_mul_left];exact Nat.dvd_gcd hx (hl t (List.mem_cons_self ..))) fun u hu=>hl u (List.mem_cons_of_mem _ hu)
theorem a3h{x t B:Nat}(hx:x < B)(ht:t < B):Nat.gcd x t < B:=by
 by_cases z:t=0
 ·subst z;rw[Nat.gcd_zero_right];exact hx
 ·exact Nat.lt_of_le_of_lt (Nat.gcd_le_right _ (by omega)) ht
theorem as3(a0:Sl):∀(l:List Int) (x:Nat) (o2 o3 o4:Sl),x < 2 ^ 400->(∀t∈l,t.natAbs < 2 ^ 400)->∃q2 q3 q4,forD (bj 2) l1_common_divisor (l.map D.int) [a0,.val (.int (x:Int)),o2,o3,o4]=some (.nx,[a0,.val (.int ((gcdL x l:Nat):Int)),q2,q3,q4])
 | [],x,o2,o3,o4,_,_=>⟨o2,o3,o4,rfl⟩
 | t::l,x,o2,o3,o4,hx,hl=>by
  have ht:=hl t (List.mem_cons_self ..);have hb:x*t.natAbs < 2 ^ 1000:=by
   have:=Nat.mul_lt_mul_of_lt_of_lt hx ht;rw[<-Nat.pow_add] at this;exact Nat.lt_trans this (Nat.pow_lt_pow_right (by decide) (by decide))
  obtain⟨b3,b4,e1⟩:=cd_one t x hb a0 o3 o4;obtain⟨q2,q3,q4,e2⟩:=as3 a0 l (Nat.gcd x t.natAbs) (.val (.int t)) b3 b4 (a3h hx ht) fun u hu=>hl u (List.mem_cons_of_mem _ hu)
  refine⟨q2,q3,q4,?_⟩;rw[List.map_cons,lg];generalize l.map D.int=LL at *;show _=some (Fl.nx,[a0,.val (.int ((gcdL (Nat.gcd x t.natAbs) l:Nat):Int)),q2,q3,q4]);generalize gcdL (Nat.gcd x t.natAbs) l=gg at *;generalize Nat.gcd x t.natAbs=g0 at *;simp[e1,e2]
theorem a3y{l:List Int}(hl:∀t∈l,t.natAbs < 2 ^ 400):jx [.val (.lst (l.map D.int))]=some (.ok (.v (.int ((gcdL 0 l:Nat):Int))),[.val (.lst (l.map D.int))]):=by
 obtain⟨q2,q3,q4,e⟩:=as3 (.val (.lst (l.map D.int))) l 0 .emp .emp .emp (Nat.two_pow_pos _) hl;have e:forD (bj 2) l1_common_divisor (l.map D.int) [.val (.lst (l.map D.int)),.val (.int 0),.emp,.emp,.emp]=_:=e;generalize gcdL 0 l=gg at *;generalize l.map D.int=LL at *;simp[jx,aag,e]
section
variable{qq:LL9}(h:Hs qq)
include h
theorem ago(hop:ie qq=[]):ju [.val (.lst (mtD qq.length qq.length (dsq qq)))]=some (.ok (.v (.int (botm qq fun _=>0))),[.val (.lst (mtD qq.length qq.length (dsq qq)))]):=by
 have hm:=h.most;have e:=ap7 h hop fun _=>0
 have er:((List.range qq.length).map fun _=>D.int 0)=List.replicate qq.length (D.int 0):=by
  rw[List.map_const'];simp
 rw[er] at e;have ml:=qp qq.length qq.length (dsq qq);have hc:qq.length<=capS:=b7 (by omega)
 have hb:qq.length < 9223372036854775808:=by omega
 have a1:∀x y:D,atI [x,y] 1=some y:=fun x y=>by simp[atI,ixN]
 generalize (List.range qq.length).map (fun i=>D.int (tops qq (fun _=>0) i))=TT at *
 generalize botm qq (fun _=>0)=bb at *
 generalize mtD qq.length qq.length (dsq qq)=MM at *;simp[ju,ac8,ml,hc,hb,e,a1,isN]
end
theorem au7{n:Nat}{M:Nat->Rw}{R:List Int}(hR:∀x∈R,0<=x/\x < (n:Int))(hl:R.length<=100):afz [.own (some 0) (mtD n n M),.val (.lst (R.map D.int))]=some (.ok (.fr (R.map fun i=>D.lst (R.map fun j=>.int (M i.toNat j.toNat)))),[.own (some 0) (mtD n n M),.val (.lst (R.map D.int))]):=by
 have inner:∀i∈R,compD (bj 0) (ret true) aiu (R.map D.int) [] [.emp,.own (some 1) (mtD n n M),.val (.int i)]=some (.ok (R.map fun j=>.int (M i.toNat j.toNat)),zx .emp (R.map D.int)::[.own (some 1) (mtD n n M),.val (.int i)]):=fun i hi=>by
  rw[oh (f:=fun d=>match d with | .int j=>.int (M i.toNat j.toNat) | d=>d)]
  ·rw[List.nil_append,List.map_map];rfl
  ·intro d hd;obtain⟨j,hj,rfl⟩:=List.mem_map.mp hd;have hir:=hR i hi;have hjr:=hR j hj;have k1:=am7 (n:=n) (m:=n) (M:=M) (k:=i.toNat) (by omega)
   rw[show((i.toNat:Nat):Int)=i by omega] at k1
   have k2:=agz (m:=n) (r:=M i.toNat) (k:=j.toNat) (by omega)
   rw[show((j.toNat:Nat):Int)=j by omega] at k2
   unfold rwD at k1;generalize (List.range n).map (fun j=>D.int (M i.toNat j))=rr at *
   generalize mtD n n M=mm at *;simp[aiu,k1,k2]
 have outer:compD (bj 0) (ret true) aes (R.map D.int) [] [.emp,.own (some 1) (mtD n n M),.val (.lst (R.map D.int))]=some (.ok (R.map fun i=>D.lst (R.map fun j=>.int (M i.toNat j.toNat))),zx .emp (R.map D.int)::[.own (some 1) (mtD n n M),.val (.lst (R.map D.int))]):=by
  rw[oh (f:=fun d=>match d with | .int i=>.lst (R.map fun j=>.int (M i.toNat j.toNat)) | d=>d)]
  ·rw[List.nil_append,List.map_map];rfl
  ·intro d hd;obtain⟨i,hi,rfl⟩:=List.mem_map.mp hd;have e:=inner i hi;have hc:(R.map fun j=>D.int (M i.toNat j.toNat)).length<=capS:=by rw[List.length_map];exact b7 (by omega)
   show aes [.val (.int i),.own (some 1) (mtD n n M),.val (.lst (R.map D.int))]=some (.ok (.lst (R.map fun j=>D.int (M i.toNat j.toNat))),[.val (.int i),.own (some 1) (mtD n n M),.val (.lst (R.map D.int))])
   generalize (R.map fun j=>D.int (M i.toNat j.toNat))=rr at *
   generalize R.map D.int=RR at *;generalize mtD n n M=mm at *;simp[aes,e,hc]
 have hc:(R.map fun i=>D.lst (R.map fun j=>.int (M i.toNat j.toNat))).length<=capS:=by rw[List.length_map];exact b7 (by omega)
 generalize (R.map fun i=>D.lst (R.map fun j=>.int (M i.toNat j.toNat)))=r2 at *
 generalize R.map D.int=RR at *;generalize mtD n n M=mm at *;simp[afz,ar5,outer,hc]
def ren(R:List Int)(y:Int):Int:=if y∈R then (R.idxOf y:Int) else -1
def Hn(qq:LL9)(R:List Int):LL9:=R.map fun i=>(dr qq i).map (ren R)
theorem anp{R:List Int}(hn:R.Nodup){j:Nat}(hj:j < R.length):R.idxOf R[j]=j:=hn.idxOf_getElem j hj
theorem aqh{R:List Int}(hn:R.Nodup){j:Nat}(hj:j < R.length)(y:Int):ren R y=(j:Int)↔y=R[j]:=by
 unfold ren;constructor
 ·intro e;split at e
  ·rename_i hy;have e:R.idxOf y=j:=by omega
   have hlt:=List.idxOf_lt_length_iff.mpr hy;have:=List.getElem_idxOf hlt;rw[<-this]
   congr 1
  ·omega
 ·intro e;subst e;rw[if_pos (List.getElem_mem hj),anp hn hj]
theorem akk{R:List Int}(hn:R.Nodup){j:Nat}(hj:j < R.length):∀l:List Int,(l.map (ren R)).count (j:Int)=l.count R[j]
 | []=>rfl
 | y::l=>by
  rw[List.map_cons,List.count_cons,List.count_cons,akk hn hj l]
  by_cases e:y=R[j]
  ·rw[(aqh hn hj y).mpr e,e];simp
  ·have:ren R y≠(j:Int):=fun z=>e ((aqh hn hj y).mp z)
   simp[e,this]
section
variable{qq:LL9}(h:Hs qq){C:List Int}(c:Cl qq C){r:Int}(hr:r∈C)(hlt:C.Pairwise (· < ·))(h10:C.length<=10)
include h c hr hlt
theorem a4l{R:List Int}{i:Nat}(hi:i < R.length):dr (Hn qq R) (i:Int)=(dr qq R[i]).map (ren R):=by
 unfold Hn;show((R.map fun i=>(dr qq i).map (ren R)).getD ((i:Nat):Int).toNat [])=_
 rw[List.getD_eq_getElem?_getD,Int.toNat_natCast,List.getElem?_map,List.getElem?_eq_getElem hi];rfl
theorem axk{R:List Int}(hn:R.Nodup)(hR:∀x∈R,0<=x/\x < (qq.length:Int)){i j:Nat}(hi:i < R.length)(hj:j < R.length):dsq (Hn qq R) i j=dsq qq R[i].toNat R[j].toNat:=by
 have a:=hR _ (List.getElem_mem hi);have b:=hR _ (List.getElem_mem hj);unfold dsq;rw[a4l h c hr hlt hi,List.length_map,akk hn hj,show((R[i].toNat:Nat):Int)=R[i] by omega,show((R[j].toNat:Nat):Int)=R[j] by omega]
 by_cases e:i=j
 ·subst e;rw[if_pos rfl,if_pos rfl]
 ·have:R[i].toNat≠R[j].toNat:=fun z=>e (by
   have q:R[i]=R[j]:=by omega
   have q1:=anp hn hi;rw[q,anp hn hj] at q1;exact q1.symm)
  rw[if_neg e,if_neg this]
end
theorem ahq:∀{l m:List Nat},l.Pairwise (· < ·)->m.Pairwise (· < ·)->(∀x,x∈l↔x∈m)->l=m
 | [],[],_,_,_=>rfl
 | [],y::m,_,_,h=>by have:=(h y).mpr (List.mem_cons_self ..);cases this
 | x::l,[],_,_,h=>by have:=(h x).mp (List.mem_cons_self ..);cases this
 | x::l,y::m,hl,hm,h=>by
  obtain⟨l1,l2⟩:=List.pairwise_cons.mp hl;obtain⟨m1,m2⟩:=List.pairwise_cons.mp hm;have e:x=y:=by
   rcases List.mem_cons.mp ((h x).mp (List.mem_cons_self ..)) with q | q
   ·exact q
   ·rcases List.mem_cons.mp ((h y).mpr (List.mem_cons_self ..)) with p | p
    ·exact p.symm
    ·have:=l1 y p;have:=m1 x q;omega
  subst e
  congr 1
  refine ahq l2 m2 fun z=>⟨fun hz =>?_,fun hz =>?_⟩
  ·rcases List.mem_cons.mp ((h z).mp (List.mem_cons_of_mem _ hz)) with q | q
   ·have:=l1 z hz;omega
   ·exact q
  ·rcases List.mem_cons.mp ((h z).mpr (List.mem_cons_of_mem _ hz)) with q | q
   ·have:=m1 z hz;omega
   ·exact q
theorem azu:ju [.val (.lst [])]=some (.ok (.v (.int 1)),[.val (.lst [])]):=by kernel_rfl
section
variable{qq:LL9}(h:Hs qq){C:List Int}(c:Cl qq C){r:Int}(hr:r∈C)(hlt:C.Pairwise (· < ·))(h10:C.length<=10)
include h c hr hlt
theorem a8f{R:List Int}(h1:1<=R.length)(hR:∀x∈R,x∈C)(h10:R.length<=10):Hs (Hn qq R):=by
 have hl:(Hn qq R).length=R.length:=by unfold Hn;rw[List.length_map]
 refine⟨by rw[hl];exact h1,by rw[hl];exact h10,fun l hl2 =>?_⟩
 obtain⟨i,hi,rfl⟩:=List.mem_map.mp hl2;have hir:=c.rng i (hR i hi);have d:=h.dr hir.1 hir.2;rw[hl,List.length_map];refine⟨d.1,d.2.1,fun y hy =>?_⟩
 obtain⟨z,hz,rfl⟩:=List.mem_map.mp hy;unfold ren;split
 ·rename_i hm;have:=List.idxOf_lt_length_iff.mpr hm;omega
 ·omega
theorem a0d{R:List Int}(hn:R.Nodup)(hR:∀x,x∈R↔x∈C/\x≠r):ie (Hn qq R)=[]:=by
 have hl:(Hn qq R).length=R.length:=by unfold Hn;rw[List.length_map]
 have all:∀i:Nat,(hi:i < R.length)->Rch (Hn qq R) (i:Int) (-1):=fun i hi=>by
  have mem:=(hR _).mp (List.getElem_mem hi);have go:∀y,Rch qq R[i] y->y∈C/\((y∈R/\Rch (Hn qq R) (i:Int) (R.idxOf y:Int))∨Rch (Hn qq R) (i:Int) (-1)):=fun y hy=>by
   induction hy with
   | base=>exact⟨mem.1,.inl ⟨List.getElem_mem hi,by rw[anp hn hi];exact .base⟩⟩
   | @step y d _ y0 hd ih =>
    obtain⟨yc,ih⟩:=ih;refine⟨c.cls y yc d hd,?_⟩;rcases ih with⟨yr,ih⟩ | ih
    ·have hlt2:=List.idxOf_lt_length_iff.mpr yr;have e:=a4l h c hr hlt (R:=R) hlt2;rw[List.getElem_idxOf hlt2] at e;have st:Rch (Hn qq R) (i:Int) (ren R d):=.step ih (by omega) (by rw[e];exact List.mem_map.mpr ⟨d,hd,rfl⟩)
     unfold ren at st
     by_cases z:d∈R
     ·rw[if_pos z] at st;exact .inl ⟨z,st⟩
     ·rw[if_neg z] at st;exact .inr st
    ·exact .inr ih
  rcases(go r (c.all _ mem.1 r hr)).2 with z | z
  ·exact absurd rfl ((hR r).mp z.1).2
  ·exact z
 cases ht:ie (Hn qq R) with
 | nil=>rfl
 | cons s l =>
  exfalso;have hs:s∈ie (Hn qq R):=by rw[ht];exact List.mem_cons_self ..
  have hs2:=List.mem_filter.mp hs;have b:=ux hs2.1;rw[hl] at b;have:=(zb _ _).mp hs2.2 _ (by
   have:=all s.toNat (by omega)
   rw[show((s.toNat:Nat):Int)=s by omega] at this
   exact this)
  omega
include h10
theorem asm{R:List Int}(hRe:R=C.filter fun x=>decide (x≠r)):ju [.val (.lst (R.map fun i=>D.lst (R.map fun j=>.int (dsq qq i.toNat j.toNat))))]=some (.ok (.v (.int (xr qq C r))),[.val (.lst (R.map fun i=>D.lst (R.map fun j=>.int (dsq qq i.toNat j.toNat))))]):=by
 have hR:∀x,x∈R↔x∈C/\x≠r:=fun x=>by rw[hRe,List.mem_filter,decide_eq_true_iff]
 have hRl:R.Pairwise (· < ·):=by rw[hRe];exact hlt.sublist List.filter_sublist
 have hn:R.Nodup:=hRl.imp fun q z=>by omega
 have hR10:R.length<=10:=by rw[hRe];exact Nat.le_trans (List.length_filter_le _ _) h10
 have hrng:∀x∈R,0<=x/\x < (qq.length:Int):=fun x hx=>c.rng x ((hR x).mp hx).1
 have ex:xr qq C r=det (R.map Int.toNat) ((R.map Int.toNat).map (dsq qq)):=by
  rw[a0j h c hr];have:((List.range qq.length).filter fun(i:Nat)=>decide ((i:Int)∈C/\(i:Int)≠r))=R.map Int.toNat:=by
   refine ahq (List.pairwise_lt_range.sublist List.filter_sublist) ?_ fun i =>?_
   ·rw[List.pairwise_map];refine List.Pairwise.imp_of_mem (fun{a b} ha hb q =>?_) hRl
    have:=hrng a ha;have:=hrng b hb;omega
   ·rw[List.mem_filter,List.mem_range,decide_eq_true_iff,List.mem_map];constructor
    ·intro q;exact⟨(i:Int),(hR _).mpr q.2,by omega⟩
    ·intro q;obtain⟨x,hx,rfl⟩:=q;have a:=hrng x hx;refine⟨by omega,?_⟩
     rw[show((x.toNat:Nat):Int)=x by omega]
     exact(hR x).mp hx
  rw[this]
 cases hz:R with
 | nil =>
  rw[hz] at ex;have ex:xr qq C r=1:=ex;rw[ex];exact azu
 | cons y R' =>
  rw[<-hz];have h1:1<=R.length:=by rw[hz];simp
  have H:=a8f h c hr hlt h1 (fun x hx=>((hR x).mp hx).1) hR10
  have hop:=a0d h c hr hlt hn hR;have hl:(Hn qq R).length=R.length:=by unfold Hn;rw[List.length_map]
  have e:=ago H hop;rw[hl] at e;have em:mtD R.length R.length (dsq (Hn qq R))=R.map fun i=>D.lst (R.map fun j=>.int (dsq qq i.toNat j.toNat)):=by
   unfold mtD rwD;apply List.ext_getElem?;intro i;rw[List.getElem?_map,List.getElem?_map]
   by_cases hi:i < R.length
   ·rw[List.getElem?_range hi,List.getElem?_eq_getElem hi];show some (D.lst ((List.range R.length).map fun j=>D.int (dsq (Hn qq R) i j)))=some (D.lst (R.map fun j=>D.int (dsq qq R[i].toNat j.toNat)))
    congr 2
    apply List.ext_getElem?;intro j;rw[List.getElem?_map,List.getElem?_map]
    by_cases hj:j < R.length
    ·rw[List.getElem?_range hj,List.getElem?_eq_getElem hj];show some (D.int (dsq (Hn qq R) i j))=some (D.int (dsq qq R[i].toNat R[j].toNat));rw[axk h c hr hlt hn hrng hi hj]
    ·rw[List.getElem?_eq_none (by simp;omega),List.getElem?_eq_none (by omega)]
     rfl
   ·rw[List.getElem?_eq_none (by simp;omega),List.getElem?_eq_none (by omega)]
    rfl
  have eb:botm (Hn qq R) (fun _=>0)=xr qq C r:=by
   rw[ex,aeu H hop,hl];have ef:R.map Int.toNat=(List.range R.length).map fun i=>(R.getD i 0).toNat:=by
    apply List.ext_getElem?;intro i;rw[List.getElem?_map,List.getElem?_map]
    by_cases hi:i < R.length
    ·rw[List.getElem?_range hi,List.getElem?_eq_getElem hi];show some R[i].toNat=some (R.getD i 0).toNat;rw[List.getD_eq_getElem?_getD,List.getElem?_eq_getElem hi];rfl
    ·rw[List.getElem?_eq_none (by omega),List.getElem?_eq_none (by simp;omega)]
     rfl
   rw[ef,asn,List.map_map,List.map_map];refine adl _ _ _ _ fun i hi j hj =>?_
   have hi:=List.mem_range.mp hi;have hj:=List.mem_range.mp hj;rw[axk h c hr hlt hn hrng hi hj];show _=dsq qq (R.getD i 0).toNat (R.getD j 0).toNat;rw[List.getD_eq_getElem?_getD,List.getD_eq_getElem?_getD,List.getElem?_eq_getElem hi,List.getElem?_eq_getElem hj];rfl
  rw[em,eb] at e;exact e
end
noncomputable def gdC(qq:LL9)(C:List Int):Nat:=gcdL 0 (C.map (xr qq C))
noncomputable def zC(qq:LL9)(C:List Int)(x:Int):Int:=if x∈C then xr qq C x / (gdC qq C:Int) else 0
noncomputable def aex(qq:LL9)(C:List Int):List Int:=(upto qq.length).map (zC qq C)
section
variable{qq:LL9}(h:Hs qq){C:List Int}(c:Cl qq C)(hlt:C.Pairwise (· < ·))(h10:C.length<=10){r:Int}(hr:r∈C)
include h c hlt h10
theorem aoq:compD (bj 0) (ret true) qz (C.map D.int) [] [.emp,.own (some 1) (mtD qq.length qq.length (dsq qq)),.val (.tup (C.map D.int))]=some (.ok ((C.map (xr qq C)).map D.int),zx .emp (C.map D.int)::[.own (some 1) (mtD qq.length qq.length (dsq qq)),.val (.tup (C.map D.int))]):=by
 rw[oh (f:=fun d=>match d with | .int r=>.int (xr qq C r) | d=>d)]
 ·rw[List.nil_append,List.map_map,List.map_map];rfl
 ·intro d hd;obtain⟨r,hr,rfl⟩:=List.mem_map.mp hd;have e1:compD (bj 0) xu xn (C.map D.int) [] [.emp,.val (.int r)]=some (.ok ((C.filter fun x=>decide (x≠r)).map D.int),zx .emp (C.map D.int)::[.val (.int r)]):=by
   rw[uf (p:=fun d=>match d with | .int x=>decide (x≠r) | _=>false) (f:=fun d=>d)]
   ·rw[List.nil_append,List.map_id',List.filter_map];rfl
   ·intro d hd;obtain⟨x,hx,rfl⟩:=List.mem_map.mp hd
    by_cases e:x=r <;> simp[xu,e]
   ·intro d hd _;obtain⟨x,hx,rfl⟩:=List.mem_map.mp hd;simp[xn]
  have hm:=h.most;have hl2:(C.filter fun x=>decide (x≠r)).length<=10:=Nat.le_trans (List.length_filter_le _ _) h10
  have e2:=au7 (n:=qq.length) (M:=dsq qq) (R:=C.filter fun x=>decide (x≠r)) (fun x hx=>c.rng x (List.mem_filter.mp hx).1) (by omega)
  have e3:=asm h c hr hlt h10 (R:=C.filter fun x=>decide (x≠r)) rfl
  have hc:((C.filter fun x=>decide (x≠r)).map D.int).length<=capS:=by rw[List.length_map];exact b7 (by omega)
  show qz [.val (.int r),.own (some 1) (mtD qq.length qq.length (dsq qq)),.val (.tup (C.map D.int))]=some (.ok (.int (xr qq C r)),[.val (.int r),.own (some 1) (mtD qq.length qq.length (dsq qq)),.val (.tup (C.map D.int))]);generalize xr qq C r=xx at *;generalize ((C.filter fun x=>decide (x≠r)).map fun i=>D.lst ((C.filter fun x=>decide (x≠r)).map fun j=>.int (dsq qq i.toNat j.toNat)))=MN at *
  generalize (C.filter fun x=>decide (x≠r)).map D.int=RR at *
  generalize C.map D.int=CC at *;generalize mtD qq.length qq.length (dsq qq)=mm at *;simp[qz,e1,hc,e2,e3]
theorem ant(hr:r∈C):0 < gdC qq C/\gdC qq C<=60466176/\∀x∈C,((gdC qq C:Nat):Int) ∣ xr qq C x:=by
 have d:=anv (C.map (xr qq C)) 0;have x:=atr h c hr;have dv:∀x∈C,gdC qq C ∣ (xr qq C x).natAbs:=fun x hx=>d.2 _ (List.mem_map.mpr ⟨x,hx,rfl⟩)
 have d1:=dv r hr;have hp:0 < (xr qq C r).natAbs:=by omega
 refine⟨Nat.pos_of_dvd_of_pos d1 hp,Nat.le_trans (Nat.le_of_dvd hp d1) (by omega),fun x hx =>?_⟩
 have:=Int.natCast_dvd_natCast.mpr (dv x hx);have hx:=atr h c hx;rwa[show(((xr qq C x).natAbs:Nat):Int)=xr qq C x by omega] at this
end
def setT(f:Int->Int)(T:List Int)(r:Int):List Int:=T.set r.toNat (f r)
theorem ams(f:Int->Int):∀(cs T:List Int),(cs.foldl (setT f) T).length=T.length
 | [],_=>rfl
 | r::cs,T=>by
  rw[List.foldl_cons,ams f cs];unfold setT;rw[List.length_set]
theorem amt(f:Int->Int):∀(cs T:List Int),(∀x∈cs,0<=x)->∀i,i < T.length->(cs.foldl (setT f) T)[i]? = some (if (i:Int)∈cs then f (i:Int) else T.getD i 0)
 | [],T,_,i,hi=>by
  rw[if_neg List.not_mem_nil,List.getD_eq_getElem?_getD];show T[i]? = _;rw[List.getElem?_eq_getElem hi];rfl
 | r::cs,T,h,i,hi=>by
  have r0:=h r (List.mem_cons_self ..);rw[List.foldl_cons,amt f cs _ (fun x hx=>h x (List.mem_cons_of_mem _ hx)) i (by unfold setT;rw[List.length_set];exact hi)]
  congr 1
  by_cases q:(i:Int)∈cs
  ·rw[if_pos q,if_pos (List.mem_cons_of_mem _ q)]
  ·rw[if_neg q];unfold setT;rw[List.getD_eq_getElem?_getD,List.getElem?_set]
   by_cases z:r.toNat=i
   ·have:(i:Int)=r:=by omega
    rw[if_pos z,if_pos (by omega),if_pos (by rw[this];exact List.mem_cons_self ..),this]
    rfl
   ·rw[if_neg z,if_neg fun w=>by
     rcases List.mem_cons.mp w with w | w
     ·exact z (by omega)
     ·exact q w,List.getD_eq_getElem?_getD]
theorem agq(hh CC RW TT:Sl){g:Nat}(g0:0 < g)(g1:g<=60466176)(X:Int->Int)(n:Nat):∀(cs T:List Int) (o6 o7:Sl),T.length=n->(∀x∈cs,0<=x/\x < (n:Int)) ->
  ∃q6 q7,forD (bTup 2 (jg (bj 6) (jg (bj 7) bNil))) qy (mz (cs.map D.int) ((cs.map X).map D.int)) [hh,CC,RW,TT,.val (.int (g:Int)),.own none (T.map D.int),o6,o7]=some (.nx,[hh,CC,RW,TT,.val (.int (g:Int)),.own none ((cs.foldl (setT fun r=>X r / (g:Int)) T).map D.int),q6,q7])
 | [],T,o6,o7,_,_=>⟨o6,o7,rfl⟩
 | r::cs,T,o6,o7,hT,hc=>by
  have hr:=hc r (List.mem_cons_self ..);have e1:fDiv (X r) (g:Int)=some (X r / (g:Int)):=by
   unfold fDiv;rw[if_pos ⟨by omega,by omega⟩]
  have ix:ixN (T.map D.int).length r=some r.toNat:=aca hr.1 (by rw[List.length_map];omega)
  have m3:(T.map D.int).set r.toNat (.int (X r / (g:Int)))=(setT (fun r=>X r / (g:Int)) T r).map D.int:=by unfold setT;rw[List.map_set]
  obtain⟨q6,q7,e2⟩:=agq hh CC RW TT g0 g1 X n cs (setT (fun r=>X r / (g:Int)) T r) (.val (.int r)) (.val (.int (X r))) (by unfold setT;rw[List.length_set];exact hT) fun x hx=>hc x (List.mem_cons_of_mem _ hx)
  refine⟨q6,q7,?_⟩;rw[List.foldl_cons];generalize (cs.foldl (setT fun r=>X r / (g:Int)) (setT (fun r=>X r / (g:Int)) T r)).map D.int=FF at *
  rw[<-m3] at e2;generalize T.map D.int=TM at *;rw[List.map_cons,List.map_cons,List.map_cons];show forD _ _ (.tup [.int r,.int (X r)]::mz (cs.map D.int) ((cs.map X).map D.int)) _=_;generalize mz (cs.map D.int) ((cs.map X).map D.int)=ZZ at *;generalize X r / (g:Int)=xx at *;have step:qy [hh,CC,RW,TT,.val (.int (g:Int)),.own none TM,.val (.int r),.val (.int (X r))]=some (.nx,[hh,CC,RW,TT,.val (.int (g:Int)),.own none (TM.set r.toNat (.int xx)),.val (.int r),.val (.int (X r))]):=by
   simp[qy,e1,ix]
  rw[lg];simp[step,e2]
section
variable{qq:LL9}(h:Hs qq){C:List Int}(c:Cl qq C)(hlt:C.Pairwise (· < ·))(h10:C.length<=10){r:Int}(hr:r∈C)
include h c hlt h10 hr
theorem age:j8 [.val (hD qq),.val (.tup (C.map D.int))]=some (.ok (.v (.tup ((aex qq C).map D.int))),[.val (hD qq),.val (.tup (C.map D.int))]):=by
 have hm:=h.most;have e1:=af5 h;have e2:=aoq h c hlt h10;have hx:∀t∈C.map (xr qq C),t.natAbs < 2 ^ 400:=fun t ht=>by
  obtain⟨x,hx,rfl⟩:=List.mem_map.mp ht;have b:=atr h c hx;refine Nat.lt_of_lt_of_le (m:=2 ^ 30) (by omega) (Nat.pow_le_pow_right (by decide) (by decide))
 have e3:=a3y hx;obtain⟨g0,g1,_⟩:=ant h c hlt h10 hr;have hC:C.length<=(C.map (xr qq C)).length:=by simp
 have hc:((C.map (xr qq C)).map D.int).length<=capS:=by rw[List.length_map,List.length_map];exact b7 (by omega)
 obtain⟨q6,q7,e4⟩:=agq (.val (hD qq)) (.val (.tup (C.map D.int))) (.own none (mtD qq.length qq.length (dsq qq))) (.val (.lst ((C.map (xr qq C)).map D.int))) g0 g1 (xr qq C) qq.length C (List.replicate qq.length 0) .emp .emp (by simp) c.rng
 have e5:C.foldl (setT fun r=>xr qq C r / (gdC qq C:Int)) (List.replicate qq.length 0)=aex qq C:=by
  apply List.ext_getElem?;intro i
  by_cases hi:i < qq.length
  ·rw[amt _ C _ (fun x hx=>(c.rng x hx).1) i (by simpa using hi)]
   unfold aex upto zC;rw[List.map_map,List.getElem?_map,List.getElem?_range hi];show some _=some (if (i:Int)∈C then xr qq C (i:Int) / (gdC qq C:Int) else 0)
   congr 1
   split
   ·rfl
   ·rw[List.getD_eq_getElem?_getD,List.getElem?_replicate,if_pos hi];rfl
  ·rw[List.getElem?_eq_none (by rw[ams];simpa using hi),List.getElem?_eq_none (by unfold aex upto;simpa using hi)]
 rw[e5] at e4;have e6:(List.replicate qq.length (0:Int)).map D.int=List.replicate qq.length (D.int 0):=by simp
 rw[e6] at e4;have hl:=zz qq;have hlc:qq.length<=capS:=b7 (by omega)
 have hb:qq.length < 9223372036854775808:=by omega
 have hz:(C.map D.int).length<=((C.map (xr qq C)).map D.int).length:=by simp
 unfold gdC at e4;generalize gcdL 0 (C.map (xr qq C))=gg at *;generalize (C.map (xr qq C)).map D.int=XX at *;generalize (aex qq C).map D.int=TT at *;generalize C.map D.int=CC at *;generalize mtD qq.length qq.length (dsq qq)=mm at *;simp only[hD] at *;generalize hDs qq=hh at *;simp[j8,ac7,e1,e2,e3,hc,hl,hlc,hb,hz,e4]
end
section
variable{qq:LL9}(h:Hs qq)(sh:Sh qq){as:List Int}(ha:Arr qq as){k:Int}(h0:0<=k)(h1:k < (qq.length:Int))(b:∀x,Rch qq k x->Rch qq x k)
include h sh h0 h1 b
theorem aiy:Cl qq (f9 qq k):=by
 have mem:∀x,x∈f9 qq k↔Rch qq k x:=fun x=>qx h ⟨h0,h1⟩ sh
 refine⟨qw h ⟨h0,h1⟩,fun x hx d hd=>(mem d).mpr (.step ((mem x).mp hx) (qw h ⟨h0,h1⟩ x hx).1 hd),fun x hx y hy=>su (b x ((mem x).mp hx)) ((mem y).mp hy)⟩
noncomputable def zN(qq:LL9)(k x:Int):Nat:=(zC qq (f9 qq k) x).toNat
theorem apv(x:Int)(hx:x∈f9 qq k):0 < zC qq (f9 qq k) x/\zC qq (f9 qq k) x<=60466176/\xr qq (f9 qq k) x=(gdC qq (f9 qq k):Int)*zC qq (f9 qq k) x:=by
 have c:=aiy h sh h0 h1 b;obtain⟨_,K⟩:=jq h ⟨h0,h1⟩;obtain⟨g0,g1,gd⟩:=ant h c K.lt K.len hx;have hp:=atr h c hx;obtain⟨q,hq⟩:=gd x hx;have e:zC qq (f9 qq k) x=q:=by
  unfold zC;rw[if_pos hx,hq];exact Int.mul_ediv_cancel_left _ (by omega)
 rw[e];have q0:0 < q:=by
  rcases Int.lt_or_le 0 q with z | z
  ·exact z
  ·have:(gdC qq (f9 qq k):Int)*q<=0:=Int.mul_nonpos_of_nonneg_of_nonpos (by omega) z
   omega
 refine⟨q0,?_,hq⟩;have:1*q<=(gdC qq (f9 qq k):Int)*q:=Int.mul_le_mul_of_nonneg_right (by omega) (by omega)
 omega
theorem zN_c(x:Int):((zN qq k x:Nat):Int)=zC qq (f9 qq k) x:=by
 unfold zN
 by_cases q:x∈f9 qq k
 ·have:=(apv h sh h0 h1 b x q).1;omega
 ·have:zC qq (f9 qq k) x=0:=if_neg q;rw[this];rfl
theorem a0i(v:Int)(v0:0<=v)(v1:v < (qq.length:Int)):((upto qq.length).map fun w=>zN qq k w*(dr qq w).count v).sum=zN qq k v*(dr qq v).length:=by
 have c:=aiy h sh h0 h1 b;obtain⟨_,K⟩:=jq h ⟨h0,h1⟩
 by_cases q:v∈f9 qq k
 ·have kx:=a7g h c q;obtain⟨g0,g1,gd⟩:=ant h c K.lt K.len q;have e:∀l:List Int,(((l.map fun w=>zN qq k w*(dr qq w).count v).sum:Nat):Int)*(gdC qq (f9 qq k):Int)=(l.map fun w=>if w∈f9 qq k then xr qq (f9 qq k) w*((dr qq w).count v:Int) else 0).sum:=fun l=>by
   induction l with
   | nil=>simp
   | cons w l ih =>
    rw[List.map_cons,List.sum_cons,List.map_cons,List.sum_cons,Int.natCast_add,Int.add_mul,ih]
    congr 1
    rw[Int.natCast_mul,zN_c h sh h0 h1 b]
    by_cases z:w∈f9 qq k
    ·rw[if_pos z,(apv h sh h0 h1 b w z).2.2,Int.mul_comm,Int.mul_assoc]
    ·have e0:zC qq (f9 qq k) w=0:=if_neg z;rw[if_neg z,e0,Int.zero_mul,Int.zero_mul]
  have e:=e (upto qq.length);rw[kx,(apv h sh h0 h1 b v q).2.2,<-zN_c h sh h0 h1 b,Int.mul_comm (gdC qq (f9 qq k):Int),Int.mul_assoc,Int.mul_comm (gdC qq (f9 qq k):Int),<-Int.mul_assoc] at e;have e:=Int.eq_of_mul_eq_mul_right (by omega) e
  rw[<-Int.natCast_mul] at e;omega
 ·have e0:zC qq (f9 qq k) v=0:=if_neg q;have z0:zN qq k v=0:=by unfold zN;rw[e0];rfl
  rw[z0,Nat.zero_mul];have:∀w∈upto qq.length,zN qq k w*(dr qq w).count v=0:=fun w _=>by
   by_cases z:w∈f9 qq k
   ·rw[List.count_eq_zero.mpr fun hd=>q (c.cls w z v hd),Nat.mul_zero]
   ·have e1:zC qq (f9 qq k) w=0:=if_neg z;have:zN qq k w=0:=by unfold zN;rw[e1];rfl
    rw[this,Nat.zero_mul]
  rw[List.map_congr_left this];generalize upto qq.length=l
  induction l with
  | nil=>rfl
  | cons x l ih=>rw[List.map_cons,List.sum_cons,ih]
theorem a0h(q:Nat)(hq:∀x,Rch qq k x->q ∣ zN qq k x):q=1:=by
 have c:=aiy h sh h0 h1 b;obtain⟨_,K⟩:=jq h ⟨h0,h1⟩;have mem:∀x,x∈f9 qq k↔Rch qq k x:=fun x=>qx h ⟨h0,h1⟩ sh
 have hk:=(mem k).mpr .base;obtain⟨g0,g1,gd⟩:=ant h c K.lt K.len hk;have:=anu (q*gdC qq (f9 qq k)) 1 ((f9 qq k).map (xr qq (f9 qq k))) 0 (by simp) fun t ht=>by
  obtain⟨x,hx,rfl⟩:=List.mem_map.mp ht;rw[Nat.one_mul];obtain⟨p,hp⟩:=hq x ((mem x).mp hx);have e:=(apv h sh h0 h1 b x hx).2.2;rw[<-zN_c h sh h0 h1 b,hp] at e;refine⟨p,?_⟩;have e2:(xr qq (f9 qq k) x).natAbs=gdC qq (f9 qq k)*(q*p):=by
   rw[e,<-Int.natCast_mul,Int.natAbs_natCast]
  rw[e2,Nat.mul_left_comm,<-Nat.mul_assoc]
 rw[Nat.one_mul] at this;have this:q*gdC qq (f9 qq k) ∣ gdC qq (f9 qq k):=this;obtain⟨p,hp⟩:=this;have:1=q*p:=by
  have:gdC qq (f9 qq k)*1=gdC qq (f9 qq k)*(q*p):=by
   rw[Nat.mul_one,<-Nat.mul_assoc,Nat.mul_comm _ q];exact hp
  exact Nat.eq_of_mul_eq_mul_left g0 this
 exact Nat.eq_one_of_mul_eq_one_right this.symm
include ha
theorem auf{m:Nat}(hm:1<=m)(em:run qq as k m=(as,k))(hd:∀r,0 < r->r < m->run qq as k r≠(as,k))(g:InG qq as k) :
  (∀x,0<=x->x < (qq.length:Int)->(vis qq as k m).count x=zN qq k x*(dr qq x).length)/\m=((upto qq.length).map fun x=>zN qq k x*(dr qq x).length).sum:=by
 have mem:∀x,x∈f9 qq k↔Rch qq k x:=fun x=>qx h ⟨h0,h1⟩ sh
 refine ax5 h sh ha h0 h1 hm em hd g (fun x hx =>?_) (fun x hx =>?_) (a0i h sh h0 h1 b) (a0h h sh h0 h1 b)
 ·have:=(apv h sh h0 h1 b x ((mem x).mpr hx)).1;unfold zN;omega
 ·have e0:zC qq (f9 qq k) x=0:=if_neg fun z=>hx ((mem x).mp z)
  unfold zN;rw[e0];rfl
theorem aol:j8 [.val (hD qq),.val (.tup ((f9 qq k).map D.int))]=some (.ok (.v (.tup (((upto qq.length).map fun x=>((zN qq k x:Nat):Int)).map D.int))),[.val (hD qq),.val (.tup ((f9 qq k).map D.int))]):=by
 have c:=aiy h sh h0 h1 b;obtain⟨_,K⟩:=jq h ⟨h0,h1⟩;have e:=age h c K.lt K.len ((qx h ⟨h0,h1⟩ sh).mpr .base);have:aex qq (f9 qq k)=(upto qq.length).map fun x=>((zN qq k x:Nat):Int):=by
  unfold aex;exact List.map_congr_left fun x _=>(zN_c h sh h0 h1 b x).symm
 rw[this] at e;exact e
end
@[simp] theorem aw3(d:D):ud [.val d]=some (.ok (.v (.bl (agp d))),[.val d]):=by
 cases d <;> simp[ud,ael,isTy,agp]
theorem ajw{l:List Int}(hl:l.length<=1000):mj [.val (.tup (l.map D.int)),.val (.tup (l.map D.int))]=some (.ok (.v (.bl true)),[.val (.tup (l.map D.int)),.val (.tup (l.map D.int))]):=by
 have e1:gEq true (.tup (l.map D.int)) (.tup (l.map D.int))=some (.v (.bl false)):=by rw[avw];simp
 have e4:compD (bj 0) (ret true) aaa (l.map D.int) [] [.emp]=some (.ok (l.map fun _=>.bl true),zx .emp (l.map D.int)::[]):=by
  rw[oh (f:=fun _=>.bl true)]
  ·simp
  ·intro d hd;obtain⟨k,_,rfl⟩:=List.mem_map.mp hd;simp[aaa,agp]
 have hc:l.length<=capS:=b7 hl;simp[mj,aem,isTy,e1,e4,hc,Function.comp_def]
def tal(n:Nat)(s:List Int):List Int:=(List.range n).map fun i=>((s.count ((i:Nat):Int):Nat):Int)
theorem ahk(n:Nat)(s:List Int):(tal n s).length=n:=by simp[tal]
theorem axp(n:Nat):tal n []=List.replicate n 0:=by
 apply List.ext_getElem?;intro i
 by_cases hi:i < n
 ·simp[tal,hi]
 ·simp[tal,hi]
theorem ak9{n:Nat}(s:List Int){i:Nat}(hi:i < n):(tal n s)[i]? = some ((s.count ((i:Nat):Int):Nat):Int):=by
 unfold tal;rw[List.getElem?_map,List.getElem?_range hi];rfl
theorem awd{n:Nat}{s:List Int}{x:Int}(x0:0<=x)(x1:x < (n:Int)):bump (tal n s) x=tal n (s++[x]):=by
 apply List.ext_getElem?;intro i;unfold bump
 by_cases hi:i < n
 ·rw[ak9 _ hi,List.getElem?_set,ahk,List.count_append,ik]
  by_cases q:x.toNat=i
  ·rw[if_pos q,if_pos (by omega),List.getD_eq_getElem?_getD,ak9 _ (by omega),if_pos (by omega)]
   have:((x.toNat:Nat):Int)=x:=by omega
   have e:x=((i:Nat):Int):=by omega
   subst e;simp
  ·rw[if_neg q,ak9 _ hi,if_neg (by omega)]
   simp
 ·rw[List.getElem?_eq_none (by rw[List.length_set,ahk];omega),List.getElem?_eq_none (by rw[ahk];omega)]
theorem at5{l m:List Int}(hl:l.Pairwise (· < ·))(hm:m.Pairwise (· < ·))(h0l:∀x∈l,0<=x)(h0m:∀x∈m,0<=x)(h:∀x,x∈l↔x∈m):l=m:=by
 have e:l.map Int.toNat=m.map Int.toNat:=by
  refine ahq ?_ ?_ fun n =>?_
  ·rw[List.pairwise_map];exact List.Pairwise.imp_of_mem (fun{a b} ha hb q=>by have:=h0l a ha;have:=h0l b hb;omega) hl
  ·rw[List.pairwise_map];exact List.Pairwise.imp_of_mem (fun{a b} ha hb q=>by have:=h0m a ha;have:=h0m b hb;omega) hm
  ·rw[List.mem_map,List.mem_map];exact⟨fun⟨x,hx,e⟩=>⟨x,(h x).mp hx,e⟩,fun⟨x,hx,e⟩=>⟨x,(h x).mpr hx,e⟩⟩
 have r:∀l:List Int,(∀x∈l,0<=x)->(l.map Int.toNat).map (fun n:Nat=>(n:Int))=l:=fun l hl=>by
  rw[List.map_map];have:l.map ((fun n:Nat=>(n:Int))∘Int.toNat)=l.map id:=List.map_congr_left fun x hx=>by have:=hl x hx;show((x.toNat:Nat):Int)=x;omega
  rw[this,List.map_id]
 rw[<-r l h0l,<-r m h0m,e]
section
variable{qq:LL9}(h:Hs qq)(sh:Sh qq){as:List Int}(ha:Arr qq as){k:Int}(h0:0<=k)(h1:k < (qq.length:Int))
include h sh
theorem asu{p q:Int}(hp:0<=p/\p < (qq.length:Int))(hq:0<=q/\q < (qq.length:Int))(r1:Rch qq p q)(r2:Rch qq q p):f9 qq p=f9 qq q:=by
 obtain⟨_,K1⟩:=jq h hp;obtain⟨_,K2⟩:=jq h hq;refine at5 K1.lt K2.lt (fun x hx=>(qw h hp x hx).1) (fun x hx=>(qw h hq x hx).1) fun x =>?_
 rw[qx h hp sh,qx h hq sh];exact⟨fun z=>su r2 z,fun z=>su r1 z⟩
include ha h0 h1
theorem ak5{a m:Nat}(hm:1<=m)(hf:a+m<=77760)(e:run qq as k (a+m)=run qq as k a) :
  yu [.val (hD qq),.val (.tup (as.map D.int)),.val (.int k)]=some (.ok (.v (.tup (((upto qq.length).map fun x=>((zN qq (run qq as k a).2 x:Nat):Int)).map D.int))),[.val (hD qq),.val (.tup (as.map D.int)),.val (.int k)]):=by
 have ga:=arb hm e h sh ha h0 h1 (Nat.le_refl a);have pl:∀t,0<=(run qq as k t).2/\(run qq as k t).2 < (qq.length:Int):=fun t=>(srun h sh ha h0 h1 t).2
 obtain⟨T,hT,hmi⟩:=least (P:=fun t=>ac6 qq (run qq as k t).2=[]) a ((aii h (pl a) sh).mpr ga.back)
 have hTa:T<=a:=by
  rcases Nat.lt_or_ge a T with q | q
  ·exact absurd ((aii h (pl a) sh).mpr ga.back) (hmi a q)
  ·exact q
 have bT:=(aii h (pl T) sh).mp hT;have r1:=alj h sh ha h0 h1 T (a - T);rw[show T+(a - T)=a by omega] at r1
 have ec:=asu h sh (pl T) (pl a) r1 (bT _ r1);have e0:=aht h sh ha h0 h1;have e1:=ak7 h sh ha h0 h1 hmi hT (by omega)
 obtain⟨e2,_⟩:=jq h (pl T);have e3:=aol h sh (srun h sh ha h0 h1 T).1 (pl T).1 (pl T).2 bT;have ez:∀x,zN qq (run qq as k T).2 x=zN qq (run qq as k a).2 x:=fun x=>by
  unfold zN;rw[ec]
 simp only[ez] at e3
 clear ez ec r1 bT ga
 generalize ((upto qq.length).map fun x=>((zN qq (run qq as k a).2 x:Nat):Int)).map D.int=TT at *
 generalize (f9 qq (run qq as k T).2).map D.int=CC at *;generalize as.map D.int=AA at *;generalize (run qq as k T).1.map D.int=BB at *;generalize (run qq as k T).2=pp at *;generalize hD qq=hh at *;have eg:ajq gk [some 0,some 1,some 2] (b8 0 (b8 1 (b8 2 gn))) [.val hh,.val (.tup AA),.val (.int k),.emp,.emp]=some ((bxS 1000 hh pp (T:Int),BB),[.val hh,.val (.tup AA),.val (.int k),.emp,.emp]):=by
  simp[ajq,azb,e1]
 have sp:∀(a b c:Sl) (r:Ro),mFV "Stroll" 3 "place" (a::b::c::.box "Stroll" (bxS 1000 hh pp (T:Int))::r)=some (.ok (.int pp),a::b::c::.box "Stroll" (bxS 1000 hh pp (T:Int))::r):=fun _ _ _ _=>rfl
 simp[yu,ag5,e0,dGot,eg,tagB,aud,sp,e2,e3,offs]
end
theorem axz{n d:Nat}{k:Int}(h0:0<=k):HT.sIx n d (some k)=min k.toNat n:=by
 show(if k < 0 then (k+(n:Int)).toNat else min k.toNat n)=_
 rw[if_neg (by omega)]
theorem cutF{l:List D}{k:Int}(h0:0<=k)(h1:k.toNat<=l.length):cutD l (some k) none=l.drop k.toNat:=by
 unfold cutD;rw[axz h0];have:HT.sIx l.length l.length none=l.length:=rfl;rw[this,Nat.min_eq_left h1];exact List.take_of_length_le (by simp)
section
variable{qq:LL9}(h:Hs qq)(sh:Sh qq){as:List Int}(ha:Arr qq as){k:Int}(h0:0<=k)(h1:k < (qq.length:Int))
include h sh ha h0 h1
theorem api(A B C E F G:Sl)(S:List Int)(t:Nat)(T9 T10 T11 T12:Sl)(o7 o8:Sl):uz [A,B,C,E,F,G,.own none ((tal qq.length S).map D.int),o7,.val (.int (run qq as k t).2),T9,T10,T11,T12]=some (.nx,[A,B,C,E,F,G,.own none ((tal qq.length (S++[(run qq as k t).2])).map D.int),o7,.val (.int (run qq as k t).2),T9,T10,T11,T12]):=by
 obtain⟨_,p0,p1⟩:=srun h sh ha h0 h1 t;generalize (run qq as k t).2=p at *;rw[<-awd p0 p1];have hl:=ahk qq.length S;have e1:atI ((tal qq.length S).map D.int) p=some (.int ((tal qq.length S).getD p.toNat 0)):=ai2 p0 (by rw[hl];exact p1)
 have ix:ixN ((tal qq.length S).map D.int).length p=some p.toNat:=aca p0 (by rw[List.length_map,hl];exact p1)
 unfold bump;rw[List.map_set];generalize (tal qq.length S).getD p.toNat 0=v at *;generalize (tal qq.length S).map D.int=TT at *;simp[uz,e1,ix]
theorem count_loop(A B C E F G T9 T10 T11 T12:Sl):∀(n a:Nat) (S:List Int) (o7 o8:Sl),∃q7 q8,forD (bTup 2 (jg (bj 7) (jg (bj 8) bNil))) uz ((List.range n).map fun i=>stO (run qq as k (a+i))) [A,B,C,E,F,G,.own none ((tal qq.length S).map D.int),o7,o8,T9,T10,T11,T12]=some (.nx,[A,B,C,E,F,G,.own none ((tal qq.length (S++(List.range n).map fun i=>(run qq as k (a+i)).2)).map D.int),q7,q8,T9,T10,T11,T12])
 | 0,a,S,o7,o8=>⟨o7,o8,by simp[forD]⟩
 | n+1,a,S,o7,o8=>by
  have e1:=api h sh ha h0 h1 A B C E F G S a T9 T10 T11 T12 (.val (.tup ((run qq as k a).1.map D.int))) o8;obtain⟨q7,q8,e2⟩:=count_loop A B C E F G T9 T10 T11 T12 n (a+1) (S++[(run qq as k a).2]) (.val (.tup ((run qq as k a).1.map D.int))) (.val (.int (run qq as k a).2));refine⟨q7,q8,?_⟩;have r1:((List.range (n+1)).map fun i=>stO (run qq as k (a+i)))=stO (run qq as k a)::(List.range n).map fun i=>stO (run qq as k (a+1+i)):=by
   rw[List.range_succ_eq_map,List.map_cons,List.map_map]
   congr 1
   exact List.map_congr_left fun i _=>by show stO (run qq as k (a+(i+1)))=_;rw[show a+(i+1)=a+1+i by omega]
  have r2:S++((List.range (n+1)).map fun i=>(run qq as k (a+i)).2)=(S++[(run qq as k a).2])++(List.range n).map fun i=>(run qq as k (a+1+i)).2:=by
   rw[List.range_succ_eq_map,List.map_cons,List.map_map,List.append_assoc];show S++((run qq as k (a+0)).2::_)=S++((run qq as k a).2::_)
   congr 2
   exact List.map_congr_left fun i _=>by show(run qq as k (a+(i+1))).2=_;rw[show a+(i+1)=a+1+i by omega]
  rw[r1,r2];generalize (tal qq.length ((S++[(run qq as k a).2])++(List.range n).map fun i=>(run qq as k (a+1+i)).2)).map D.int=FF at *
  generalize ((List.range n).map fun i=>stO (run qq as k (a+1+i)))=RR at *
  generalize (tal qq.length (S++[(run qq as k a).2])).map D.int=SS at *;generalize (tal qq.length S).map D.int=S0 at *;unfold stO;generalize (run qq as k a).1.map D.int=AA at *;generalize (run qq as k a).2=pp at *;rw[lg];simp[e1,e2]
end
theorem a2e{z w:Nat}(hw:1<=w):fMod ((z*w:Nat):Int) (w:Int)=some 0:=by
 unfold fMod;rw[if_pos (by omega),Int.natCast_mul,Int.mul_emod_left]
theorem a3v{z w:Nat}(hw:1<=w)(h6:w<=6):fDiv ((z*w:Nat):Int) (w:Int)=some (z:Int):=by
 unfold fDiv;rw[if_pos ⟨by omega,by omega⟩,Int.natCast_mul,Int.mul_ediv_cancel _ (by omega)]
theorem av3(A B C E F G H6 o7 o8 T12:Sl)(DD:List D)(hl:DD.length<=1000)(x z:Int)(rr:List D)(e1:fMod x (rr.length:Int)=some 0)(e2:fDiv x (rr.length:Int)=some z):uy [A,B,C,E,F,G,H6,o7,o8,.own none DD,.val (.int x),.val (.tup rr),T12]=some (.nx,[A,B,C,E,F,G,H6,o7,o8,.own none (DD++[.int z]),.val (.int x),.val (.tup rr),T12]):=by
 have hc:DD.length < capS:=by unfold capS;omega
 simp[uy,e1,e2,vy,hc]
theorem an3(A B C E F G H6 o7 o8 T12:Sl)(z:Int->Nat)(qq:LL9)(h:Hs qq):∀(n i:Nat) (o10 o11:Sl),i+n=qq.length->∃q10 q11,forD (bTup 2 (jg (bj 10) (jg (bj 11) bNil))) uy ((List.range n).map fun j=>D.tup [.int ((z ((i+j:Nat):Int)*(dr qq ((i+j:Nat):Int)).length:Nat):Int),.tup ((dr qq ((i+j:Nat):Int)).map D.int)]) [A,B,C,E,F,G,H6,o7,o8,.own none (((upto i).map fun x=>((z x:Nat):Int)).map D.int),o10,o11,T12]=some (.nx,[A,B,C,E,F,G,H6,o7,o8,.own none (((upto (i+n)).map fun x=>((z x:Nat):Int)).map D.int),q10,q11,T12])
 | 0,i,o10,o11,_=>⟨o10,o11,by simp[forD]⟩
 | n+1,i,o10,o11,hi=>by
  have d:=h.dr (x:=(i:Int)) (by omega) (by omega)
  have hmo:=h.most;have e1:=av3 A B C E F G H6 o7 o8 T12 (((upto i).map fun x=>((z x:Nat):Int)).map D.int) (by simp[upto];omega) ((z (i:Int)*(dr qq (i:Int)).length:Nat):Int) ((z (i:Int):Nat):Int) ((dr qq (i:Int)).map D.int) (by rw[List.length_map];exact a2e d.1) (by rw[List.length_map];exact a3v d.1 d.2.1)
  have eu:(((upto i).map fun x=>((z x:Nat):Int)).map D.int)++[D.int ((z (i:Int):Nat):Int)]=((upto (i+1)).map fun x=>((z x:Nat):Int)).map D.int:=by
   unfold upto;rw[List.range_succ,List.map_append,List.map_append,List.map_append];rfl
  rw[eu] at e1;obtain⟨q10,q11,e2⟩:=an3 A B C E F G H6 o7 o8 T12 z qq h n (i+1) (.val (.int ((z (i:Int)*(dr qq (i:Int)).length:Nat):Int))) (.val (.tup ((dr qq (i:Int)).map D.int))) (by omega)
  refine⟨q10,q11,?_⟩;have r1:((List.range (n+1)).map fun j=>D.tup [.int ((z ((i+j:Nat):Int)*(dr qq ((i+j:Nat):Int)).length:Nat):Int),.tup ((dr qq ((i+j:Nat):Int)).map D.int)])=D.tup [.int ((z (i:Int)*(dr qq (i:Int)).length:Nat):Int),.tup ((dr qq (i:Int)).map D.int)]::(List.range n).map fun j=>D.tup [.int ((z ((i+1+j:Nat):Int)*(dr qq ((i+1+j:Nat):Int)).length:Nat):Int),.tup ((dr qq ((i+1+j:Nat):Int)).map D.int)]:=by
   rw[List.range_succ_eq_map,List.map_cons,List.map_map]
   congr 1
   exact List.map_congr_left fun j _=>by
    show D.tup [.int ((z ((i+(j+1):Nat):Int)*(dr qq ((i+(j+1):Nat):Int)).length:Nat):Int),.tup ((dr qq ((i+(j+1):Nat):Int)).map D.int)]=_;rw[show i+(j+1)=i+1+j by omega]
  rw[r1,show i+(n+1)=i+1+n by omega]
  generalize ((upto (i+1+n)).map fun x=>((z x:Nat):Int)).map D.int=FF at *
  generalize ((upto (i+1)).map fun x=>((z x:Nat):Int)).map D.int=GG at *
  generalize ((upto i).map fun x=>((z x:Nat):Int)).map D.int=G0 at *
  generalize ((z (i:Int)*(dr qq (i:Int)).length:Nat):Int)=xx at *;generalize (dr qq (i:Int)).map D.int=rr at *;generalize ((List.range n).map fun j=>D.tup [.int ((z ((i+1+j:Nat):Int)*(dr qq ((i+1+j:Nat):Int)).length:Nat):Int),.tup ((dr qq ((i+1+j:Nat):Int)).map D.int)])=LL at *
  rw[lg];simp[e1,e2]
section
variable{qq:LL9}(h:Hs qq)(sh:Sh qq){as:List Int}(ha:Arr qq as){k:Int}(h0:0<=k)(h1:k < (qq.length:Int))(h5:qq.length<=5)
include h sh ha h0 h1 h5
theorem amx:jr [.val (hD qq),.val (.tup (as.map D.int)),.val (.int k)]=some (.ok (.v (.bl true)),[.val (hD qq),.val (.tup (as.map D.int)),.val (.int k)]):=by
 obtain⟨a,m,hm,hf,hd,e,er⟩:=ajx h sh ha h0 h1 h5;have ga:=arb hm e h sh ha h0 h1 (Nat.le_refl a);obtain⟨b1,b2,b3⟩:=srun h sh ha h0 h1 a;have rm:=(auf h sh b1 b2 b3 ga.back hm (by rw[ad2];exact e) (fun r r0 r1 z=>hd a (a+r) (by omega) (by omega) (by rw[ad2] at z;exact z.symm)) ga).1
 have e1:=ak5 h sh ha h0 h1 hm hf e;have e2:mj [.val (.tup (((upto qq.length).map fun x=>((zN qq (run qq as k a).2 x:Nat):Int)).map D.int)),.val (.tup (((upto qq.length).map fun x=>((zN qq (run qq as k a).2 x:Nat):Int)).map D.int))]=some (.ok (.v (.bl true)),[.val (.tup (((upto qq.length).map fun x=>((zN qq (run qq as k a).2 x:Nat):Int)).map D.int)),.val (.tup (((upto qq.length).map fun x=>((zN qq (run qq as k a).2 x:Nat):Int)).map D.int))]):=ajw (by simp[upto];omega)
 have ecut:cutD (stD qq as k (a+m)) (some (a:Int)) none=(List.range m).map fun i=>stO (run qq as k (a+i)):=by
  rw[cutF (by omega) (by rw[ald];omega),Int.toNat_natCast]
  unfold stD;apply List.ext_getElem?;intro i;rw[List.getElem?_drop,List.getElem?_map,List.getElem?_map]
  by_cases hi:i < m
  ·rw[List.getElem?_range (by omega),List.getElem?_range hi]
   rfl
  ·rw[List.getElem?_eq_none (by simp;omega),List.getElem?_eq_none (by simp;omega)]
   rfl
 have ev:((List.range m).map fun i=>(run qq as k (a+i)).2)=vis qq (run qq as k a).1 (run qq as k a).2 m:=by
  unfold vis;exact List.map_congr_left fun i _=>by rw[ad2]
 have hn6:((hDs qq).length:Int)=(qq.length:Int):=by rw[zz]
 obtain⟨q7,q8,e3⟩:=count_loop h sh ha h0 h1 (.val (hD qq)) (.val (.tup (as.map D.int))) (.val (.int k)) (.val (.int (a:Int))) (.val (.int (m:Int))) (.val (.lst (stD qq as k (a+m)))) .emp .emp .emp .emp m a [] .emp .emp;rw[<-ecut,List.nil_append,ev,axp] at e3;have et:tal qq.length (vis qq (run qq as k a).1 (run qq as k a).2 m)=(upto qq.length).map fun x=>((zN qq (run qq as k a).2 x*(dr qq x).length:Nat):Int):=by
  unfold tal upto;rw[List.map_map];exact List.map_congr_left fun i hi=>by
   have hi:=List.mem_range.mp hi;show(((vis qq (run qq as k a).1 (run qq as k a).2 m).count ((i:Nat):Int):Nat):Int)=_;rw[rm (i:Int) (by omega) (by omega)]
   rfl
 rw[et] at e3;have ezip:mz (((upto qq.length).map fun x=>((zN qq (run qq as k a).2 x*(dr qq x).length:Nat):Int)).map D.int) (hDs qq)=(List.range qq.length).map fun j=>D.tup [.int ((zN qq (run qq as k a).2 ((0+j:Nat):Int)*(dr qq ((0+j:Nat):Int)).length:Nat):Int),.tup ((dr qq ((0+j:Nat):Int)).map D.int)]:=by
  unfold mz;apply List.ext_getElem?;intro i;rw[List.getElem?_zipWith,List.getElem?_map,List.getElem?_map,List.getElem?_map];unfold upto;rw[List.getElem?_map]
  by_cases hi:i < qq.length
  ·have e9:(hDs qq)[i]? = some (.tup ((dr qq (i:Int)).map D.int)):=by
    unfold hDs dr;rw[List.getElem?_map,List.getD_eq_getElem?_getD,Int.toNat_natCast,List.getElem?_eq_getElem hi];rfl
   rw[List.getElem?_range hi,e9];show some (D.tup [.int ((zN qq (run qq as k a).2 (i:Int)*(dr qq (i:Int)).length:Nat):Int),.tup ((dr qq (i:Int)).map D.int)])=some (D.tup [.int ((zN qq (run qq as k a).2 ((0+i:Nat):Int)*(dr qq ((0+i:Nat):Int)).length:Nat):Int),.tup ((dr qq ((0+i:Nat):Int)).map D.int)]);rw[Nat.zero_add]
  ·rw[List.getElem?_eq_none (l:=List.range qq.length) (by simp;omega)]
   rfl
 obtain⟨q10,q11,e4⟩:=an3 (.val (hD qq)) (.val (.tup (as.map D.int))) (.val (.int k)) (.val (.int (a:Int))) (.val (.int (m:Int))) (.val (.lst (stD qq as k (a+m)))) (.val (.lst (((upto qq.length).map fun x=>((zN qq (run qq as k a).2 x*(dr qq x).length:Nat):Int)).map D.int))) q7 q8 .emp (zN qq (run qq as k a).2) qq h qq.length 0 .emp .emp (by omega)
 rw[<-ezip,Nat.zero_add] at e4;have hle:(((upto qq.length).map fun x=>((zN qq (run qq as k a).2 x*(dr qq x).length:Nat):Int)).map D.int).length<=qq.length:=by simp[upto]
 have hl:=zz qq;have hmo:=h.most;have hlc:qq.length<=capS:=b7 (by omega)
 have hb:qq.length < 9223372036854775808:=by omega
 have e6:(List.replicate qq.length (0:Int)).map D.int=List.replicate qq.length (D.int 0):=by simp
 rw[e6] at e3;have u0:((upto 0).map fun x=>((zN qq (run qq as k a).2 x:Nat):Int)).map D.int=[]:=rfl
 rw[u0] at e4
 clear rm et ezip ev hd e ga b1 hn6
 have r2:nq [.int 2]=some [.int 0,.int 1]:=by kernel_rfl
 generalize ((upto qq.length).map fun x=>((zN qq (run qq as k a).2 x*(dr qq x).length:Nat):Int)).map D.int=CC at *
 generalize ((upto qq.length).map fun x=>((zN qq (run qq as k a).2 x:Nat):Int)).map D.int=ZZ at *
 generalize stD qq as k (a+m)=SS at *;generalize (run qq as k (a+m)).1.map D.int=RR at *;generalize (run qq as k (a+m)).2=pp at *;generalize as.map D.int=AA at *;generalize (a:Int)=x at *;generalize (m:Int)=y at *;simp only[hD] at *;generalize hDs qq=hh at *;have turn:∀q:Sl,zy [.val (.tup hh),.val (.tup AA),.val (.int k),.val (.int x),.val (.int y),.val (.lst SS),.val (.lst CC),q7,q8,.own none ZZ,q10,q11,q]=some (.nx,[.val (.tup hh),.val (.tup AA),.val (.int k),.val (.int x),.val (.int y),.val (.lst SS),.val (.lst CC),q7,q8,.own none ZZ,q10,q11,q]):=fun q=>by
  simp[zy,e1,e2]
 simp[jr,aen,er,hl,hlc,hb,e3,hle,e4,r2,lg,turn]
end
theorem a7f(S C P:Sl){qq:LL9}(h:Hs qq)(h5:qq.length<=5)(sh:Sh qq){as:List Int}(ha:Arr qq as){k:Int}(h0:0<=k)(h1:k < (qq.length:Int)) :
  ang [S,C,P,.val (hD qq),.val (.tup (as.map D.int)),.val (.int k)]=some (.nx,[S,C,P,.val (hD qq),.val (.tup (as.map D.int)),.val (.int k)]):=by
 have e:=amx h sh ha h0 h1 h5;generalize as.map D.int=AA at *;generalize hD qq=hh at *;simp[ang,e]
theorem a2q(S C P:Sl){qq:LL9}(h:Hs qq)(h5:qq.length<=5)(sh:Sh qq){as:List Int}(ha:Arr qq as):∀(ks:List Int) (o5:Sl),(∀k∈ks,0<=k/\k < (qq.length:Int)) ->
  ∃q5,forD (bj 5) ang (ks.map D.int) [S,C,P,.val (hD qq),.val (.tup (as.map D.int)),o5]=some (.nx,[S,C,P,.val (hD qq),.val (.tup (as.map D.int)),q5])
 | [],o5,_=>⟨_,rfl⟩
 | k::ks,o5,hk=>by
  obtain⟨k0,k1⟩:=hk k (List.mem_cons_self ..);have e1:=a7f S C P h h5 sh ha k0 k1;obtain⟨q5,e2⟩:=a2q S C P h h5 sh ha ks (.val (.int k)) fun x hx=>hk x (List.mem_cons_of_mem _ hx)
  refine⟨q5,?_⟩;rw[List.map_cons,lg];simp only[aog,List.set_cons_succ,List.set_cons_zero];rw[e1];exact e2
theorem a7e(S:D)(n:Int)(a2 a3 a4 a5:Sl):∃b2 b3 b4 b5,l2_law [.val S,.val (.int n),a2,a3,a4,a5]=some (.nx,[.val S,.val (.int n),b2,b3,b4,b5]):=by
 obtain⟨P,e0⟩:=aum n;obtain⟨r,P1,e1,r0,r1⟩:=yz P 3 (by decide) (by decide)
 have ei:∃m:Int,atI [D.int 3,.int 4,.int 5] r=some (.int m)/\1<=m/\m<=5:=by
  have:r=0∨r=1∨r=2:=by omega
  rcases this with rfl | rfl | rfl
  ·exact⟨3,rfl,by decide,by decide⟩
  ·exact⟨4,rfl,by decide,by decide⟩
  ·exact⟨5,rfl,by decide,by decide⟩
 obtain⟨m,em,m1,m2⟩:=ei;obtain⟨qq,P2,e2,hk⟩:=aqc P1 m 3 m1 (by omega) (by decide) (by decide)
 have h:Hs qq:=hk.hs (by omega) (by decide)
 have h5:qq.length<=5:=by have:=hk.most;omega
 obtain⟨as,P3,e3,ha⟩:=amg P2 h;obtain⟨q5,e4⟩:=a2q (.val S) (.val (.int n)) (.own none (pen P3)) h h5 hk.sh ha (upto qq.length) a5 fun x hx=>ux hx
 rw[<-ae8] at e4;obtain⟨L,hL,eL⟩:=aw1 h;refine⟨.own none (pen P3),.val (hD qq),.val (.tup (as.map D.int)),q5,?_⟩;generalize as.map D.int=la at *;generalize rangeD 0 qq.length=RR at *;simp only[hD] at *;generalize hDs qq=hh at *;simp[l2_law,e0,e1,em,e2,e3,hL,eL,e4]
theorem a2p(S:D):∀(ns:List Int) (q a2 a3 a4 a5:Sl),∃ρ,forD (bj 1) l2_law (ns.map D.int) [.val S,q,a2,a3,a4,a5]=some (.nx,.val S::ρ)
 | [],q,a2,a3,a4,a5=>⟨_,rfl⟩
 | n::r,q,a2,a3,a4,a5=>by
  obtain⟨b2,b3,b4,b5,z⟩:=a7e S n a2 a3 a4 a5;obtain⟨ρ,z2⟩:=a2p S r (.val (.int n)) b2 b3 b4 b5;exact⟨ρ,by rw[List.map_cons,lg];simp[z,z2]⟩
theorem right_of{d e:D}{k:Int}(qq:LL9)(as:List Int)(e1:hD qq=d)(e2:D.tup (as.map D.int)=e)(h:Hs qq)(sh:Sh qq)(ha:Arr qq as)(h0:0<=k)(h1:k < (qq.length:Int))(h5:qq.length<=5):jr [.val d,.val e,.val (.int k)]=some (.ok (.v (.bl true)),[.val d,.val e,.val (.int k)]):=by
 subst e1 e2;exact amx h sh ha h0 h1 h5
theorem az6{r:List Int}{a:Int}(h0:0<=a)(h1:a < (r.length:Int)):Arr [r] [a]:=⟨rfl,fun i x q g1 g2=>by
 cases i with
 | zero=>simp at g1 g2;subst g1 g2;exact⟨h0,h1⟩
 | succ i=>simp at g1⟩
theorem az5:Arr [[0,1],[1]] [0,0]:=⟨rfl,fun i x q g1 g2=>by
 match i,g1,g2 with
 | 0,g1,g2=>simp at g1 g2;subst g1 g2;exact⟨by decide,by decide⟩
 | 1,g1,g2=>simp at g1 g2;subst g1 g2;exact⟨by decide,by decide⟩
 | i+2,g1,_=>simp at g1⟩
theorem avh:amj asb:=fun ns hn=>by
 obtain⟨n0,e0⟩:=asy ns 0 (by decide)
 obtain⟨ms,em,hm⟩:=asr ns (some 1) (some 3);have hc:1+ms.length<=capS:=b7 (by omega)
 have r1:=right_of (d:=.tup [.tup [.int 0]]) (e:=.tup [.int 0]) (k:=0) [[0]] [0] rfl rfl ⟨by decide,by decide,by decide⟩ (by unfold Sh;decide) (az6 (by decide) (by decide)) (by decide) (by decide) (by decide)
 have r2:=right_of (d:=.tup [.tup [.int 0,.int 1],.tup [.int 1]]) (e:=.tup [.int 0,.int 0]) (k:=0) [[0,1],[1]] [0,0] rfl rfl ⟨by decide,by decide,by decide⟩ (by unfold Sh;decide) az5 (by decide) (by decide) (by decide)
 obtain⟨ρ,q⟩:=a2p (.kst (ns.map D.int)) (n0::ms) .emp .emp .emp .emp .emp;simp only[List.map_cons] at q;simp[asb,a3i,r1,r2,e0,em,hc,q]
end My
set_option maxHeartbeats 0
namespace My
open PySem L2 Mn Dn
def top(i:Nat):Stmt:=PySem.Challenge.pw_turnarrows_k26_turns_in_a_round.main.body.getD i (.Pass ⟨0,0,0,0⟩)
abbrev ad0:Stmt:=top 6
theorem alg:FnScope ["thing"] ["thing"] (aa ad0):=mkSc rfl rfl rfl rfl (by decide +kernel)
abbrev qj:Stmt:=top 7
theorem aco:FnScope ["thing","least","most"] ["thing","least","most"] (aa qj):=mkSc rfl rfl rfl rfl (by decide +kernel)
abbrev ql:Stmt:=top 8
theorem acp:FnScope ["thing","least","most"] ["thing","least","most"] (aa ql):=mkSc rfl rfl rfl rfl (by decide +kernel)
abbrev uo:Stmt:=top 10
theorem adx:FnScope ["house","thing"] ["house","thing"] (aa uo):=mkSc rfl rfl rfl rfl (by decide +kernel)
abbrev um:Stmt:=top 11
theorem adw:FnScope ["house","thing"] ["house","thing"] (aa um):=mkSc rfl rfl rfl rfl (by decide +kernel)
abbrev ae4:Stmt:=top 12
theorem u6:FnScope ["house","room","met","looked_at","doors","door"] ["house","room"] (aa ae4):=mkSc rfl rfl rfl rfl (by decide +kernel)
abbrev ae3:Stmt:=top 13
theorem aow:FnScope ["house"] ["house"] (aa ae3):=mkSc rfl rfl rfl rfl (by decide +kernel)
abbrev qg:Stmt:=top 14
theorem acl:FnScope ["house"] ["house"] (aa qg):=mkSc rfl rfl rfl rfl (by decide +kernel)
abbrev abz:Stmt:=top 16
theorem aja:FnScope ["house","thing"] ["house","thing"] (aa abz):=mkSc rfl rfl rfl rfl (by decide +kernel)
abbrev nj:Stmt:=top 17
theorem aby:FnScope ["house","thing"] ["house","thing"] (aa nj):=mkSc rfl rfl rfl rfl (by decide +kernel)
abbrev alh:Stmt:=top 19
theorem aub:FnScope ["rows","chosen"] ["rows","chosen"] (aa alh):=mkSc rfl rfl rfl rfl (by decide +kernel)
abbrev adz:Stmt:=top 20
theorem ae0:FnScope ["rows","at","number"] ["rows","at"] (aa adz):=mkSc rfl rfl rfl rfl (by decide +kernel)
abbrev ae2:Stmt:=top 21
theorem agw:FnScope ["rows","one","other","told"] ["rows","one","other"] (aa ae2):=mkSc rfl rfl rfl rfl (by decide +kernel)
abbrev ae5:Stmt:=top 22
theorem yh:FnScope ["rows","at","bottom","head","told","number","row"] ["rows","at","bottom"] (aa ae5):=mkSc rfl rfl rfl rfl (by decide +kernel)
abbrev ahx:Stmt:=top 23
theorem rn:FnScope ["rows","right","work","bottom","at","found"] ["rows","right"] (aa ahx):=mkSc rfl rfl rfl rfl (by decide +kernel)
abbrev zj:Stmt:=top 24
theorem abu:FnScope ["rows","told"] ["rows"] (aa zj):=mkSc rfl rfl rfl rfl (by decide +kernel)
abbrev uq:Stmt:=top 25
theorem gf:FnScope ["numbers","told","number","other","over"] ["numbers"] (aa uq):=mkSc rfl rfl rfl rfl (by decide +kernel)
abbrev xg:Stmt:=top 26
theorem j6:FnScope ["house","rows","room","doors","row"] ["house"] (aa xg):=mkSc rfl rfl rfl rfl (by decide +kernel)
abbrev qi:Stmt:=top 28
theorem acn:FnScope ["house","arrows","room"] ["house","arrows","room"] (aa qi):=mkSc rfl rfl rfl rfl (by decide +kernel)
abbrev ali:Stmt:=top 29
theorem amu:FnScope ["house","turning","room","door"] ["house","turning","room"] (aa ali):=mkSc rfl rfl rfl rfl (by decide +kernel)
abbrev jy:Stmt:=top 31
theorem zc:FnScope ["house","arrows","room"] ["house","arrows","room"] (aa jy):=mkSc rfl rfl rfl rfl (by decide +kernel)
abbrev ab0:Stmt:=top 33
theorem ajb:FnScope ["house","room"] ["house","room"] (aa ab0):=mkSc rfl rfl rfl rfl (by decide +kernel)
abbrev lu:Stmt:=top 34
theorem uv:FnScope ["house","arrows","room","stroll","stroll.turning"] ["house","arrows","room"] (aa lu):=mkSc rfl rfl rfl rfl (by decide +kernel)
abbrev zg:Stmt:=top 35
theorem jf:FnScope ["house","rooms","rows","trees","divisor","turns","room","many"] ["house","rooms"] (aa zg):=mkSc rfl rfl rfl rfl (by decide +kernel)
abbrev ady:Stmt:=top 36
theorem aez:FnScope ["house","arrows","room","stroll","stroll.turning"] ["house","arrows","room"] (aa ady):=mkSc rfl rfl rfl rfl (by decide +kernel)
abbrev ab4:Stmt:=top 38
theorem ajc:FnScope ["script","k"] ["script","k"] (aa ab4):=mkSc rfl rfl rfl rfl (by decide +kernel)
abbrev ad1:Stmt:=top 39
theorem ae1:FnScope ["cell","left"] ["cell"] (aa ad1):=mkSc rfl rfl rfl rfl (by decide +kernel)
abbrev ab3:Stmt:=top 40
theorem sr:FnScope ["pen","many","left","found","stir"] ["pen","many"] (aa ab3):=mkSc rfl rfl rfl rfl (by decide +kernel)
abbrev aan:Stmt:=top 41
theorem ahv:FnScope ["thing"] ["thing"] (aa aan):=mkSc rfl rfl rfl rfl (by decide +kernel)
abbrev ab1:Stmt:=top 42
theorem lw:FnScope ["pen","most","doors","many","house","room","wide","some"] ["pen","most","doors"] (aa ab1):=mkSc rfl rfl rfl rfl (by decide +kernel)
abbrev zm:Stmt:=top 43
theorem agf:FnScope ["pen","house"] ["pen","house"] (aa zm):=mkSc rfl rfl rfl rfl (by decide +kernel)
abbrev ab2:Stmt:=top 44
theorem aam:FnScope ["house","arrows","room","door","later"] ["house","arrows","room"] (aa ab2):=mkSc rfl rfl rfl rfl (by decide +kernel)
abbrev aao:Stmt:=top 45
theorem ahw:FnScope ["found","due"] ["found","due"] (aa aao):=mkSc rfl rfl rfl rfl (by decide +kernel)
abbrev aap:Stmt:=top 46
theorem acq:FnScope ["house","arrows","room","seen","states","ahead"] ["house","arrows","room"] (aa aap):=mkSc rfl rfl rfl rfl (by decide +kernel)
abbrev aaq:Stmt:=top 47
theorem dw:FnScope ["house","arrows","room","ahead","many","states","counts","here","place","due","count","doors","turn"] ["house","arrows","room"] (aa aaq):=mkSc rfl rfl rfl rfl (by decide +kernel)
abbrev ahy:Stmt:=top 48
theorem agx:FnScope ["script","cell","pen","house","arrows","room"] ["script"] (aa ahy):=mkSc rfl rfl rfl rfl (by decide +kernel)
abbrev j7:Stmt:=axi (top 32) 0
theorem agg:FnScope ["self","house","arrows","room"] ["self","house","arrows","room"] (aa j7):=mkSc rfl rfl rfl rfl (by decide +kernel)
abbrev gj:Stmt:=axi (top 32) 1
theorem abp:FnScope ["self","rooms","self.turning"] ["self","rooms"] (aa gj):=mkSc rfl rfl rfl rfl (by decide +kernel)
theorem lnS{k:Nat}{us:List Value}(h:us.length=k+1):∃a r,us=a::r/\r.length=k:=by
 cases us with
 | nil=>cases h
 | cons a r=>exact⟨a,r,rfl,Nat.succ.inj h⟩
theorem ln1{us:List Value}(h:us.length=1):∃a0,us=[a0]:=by
 obtain⟨a,r,rfl,h'⟩:=lnS h;cases List.eq_nil_of_length_eq_zero h';exact⟨a,rfl⟩
theorem ln2{us:List Value}(h:us.length=2):∃a0 a1,us=[a0,a1]:=by
 obtain⟨a,r,rfl,h'⟩:=lnS h;obtain⟨_,rfl⟩:=ln1 h';exact⟨_,_,rfl⟩
theorem ln3{us:List Value}(h:us.length=3):∃a0 a1 a2,us=[a0,a1,a2]:=by
 obtain⟨a,r,rfl,h'⟩:=lnS h;obtain⟨_,_,rfl⟩:=ln2 h';exact⟨_,_,_,rfl⟩
theorem ln4{us:List Value}(h:us.length=4):∃a0 a1 a2 a3,us=[a0,a1,a2,a3]:=by
 obtain⟨a,r,rfl,h'⟩:=lnS h;obtain⟨_,_,_,rfl⟩:=ln3 h';exact⟨_,_,_,_,rfl⟩
structure Txt (K:Fg9) (mg:Str->Option Value):Prop where
 z_abs:mg "abs" = none
 z_all:mg "all" = none
 z_bool:mg "bool" = none
 z_divmod:mg "divmod" = none
 z_enumerate:mg "enumerate" = none
 z_int:mg "int" = none
 z_isinstance:mg "isinstance" = none
 z_len:mg "len" = none
 z_list:mg "list" = none
 z_max:mg "max" = none
 z_min:mg "min" = none
 z_range:mg "range" = none
 z_sorted:mg "sorted" = none
 z_tuple:mg "tuple" = none
 z_zip:mg "zip" = none
 f_Stroll_house:FldT K "Stroll" "house"
 f_Stroll_turning:FldT K "Stroll" "turning"
 f_Stroll_place:FldT K "Stroll" "place"
 f_Stroll_steps:FldT K "Stroll" "steps"
section
variable(P:Program)(w:World)(K:Fg9)(mg:Str->Option Value)(base:Heap)
abbrev Dd0:Prop:=Dfn P w K mg base "is_whole" ["thing"] 1 (spOf K 1 yx)
abbrev Dd1:Prop:=Dfn P w K mg base "is_whole_within" ["thing","least","most"] 2 (spOf K 3 ir)
abbrev Dd3:Prop:=Dfn P w K mg base "is_room_number" ["house","thing"] 3 (spOf K 2 jw)
abbrev Dd4:Prop:=Dfn P w K mg base "refuse_no_room" ["house","thing"] 4 (spOf K 2 fj)
abbrev Dd6:Prop:=Dfn P w K mg base "is_shut" ["house"] 1 (spOf K 1 aaz)
abbrev Dd2:Prop:=Dfn P w K mg base "is_tuple_within" ["thing","least","most"] 1 (spOf K 3 jo)
abbrev Dd8:Prop:=Dfn P w K mg base "is_arrows" ["house","thing"] 3 (spOf K 2 vz)
abbrev Dd11:Prop:=Dfn P w K mg base "row_with" ["rows","at"] 1 (spOf K 2 yw)
abbrev Dd12:Prop:=Dfn P w K mg base "swapped" ["rows","one","other"] 1 (spOf K 3 aay)
abbrev Dd13:Prop:=Dfn P w K mg base "cleared" ["rows","at","bottom"] 1 (spOf K 3 aa0)
abbrev Dd14:Prop:=Dfn P w K mg base "solved" ["rows","right"] 2 (spOf K 2 adc)
abbrev Dd9:Prop:=Dfn P w K mg base "refuse_no_arrows" ["house","thing"] 4 (spOf K 2 jd)
abbrev Dd18:Prop:=Dfn P w K mg base "refuse_no_state" ["house","arrows","room"] 5 (spOf K 3 jn)
abbrev Dd7:Prop:=Dfn P w K mg base "refuse_not_shut" ["house"] 2 (spOf K 1 jm)
abbrev Dd5:Prop:=Dfn P w K mg base "come_to" ["house","room"] 5 (spOf K 2 uc)
abbrev Dd19:Prop:=Dfn P w K mg base "leave" ["house","turning","room"] 1 (spOf K 3 acf)
abbrev Dd21:Prop:=Dfn P w K mg base "gone_from" ["house","room"] 6 (spOf K 2 wg)
abbrev Dd17:Prop:=Dfn P w K mg base "doors_square" ["house"] 1 (spOf K 1 lq)
abbrev Dd10:Prop:=Dfn P w K mg base "minor" ["rows","chosen"] 1 (spOf K 2 afz)
abbrev Dd15:Prop:=Dfn P w K mg base "determinant" ["rows"] 3 (spOf K 1 ju)
abbrev Dd16:Prop:=Dfn P w K mg base "common_divisor" ["numbers"] 1 (spOf K 1 jx)
abbrev Dd20:Prop:=Dfn P w K mg base "refuse_no_shut_state" ["house","arrows","room"] 6 (spOf K 3 gb)
abbrev Dd23:Prop:=Dfn P w K mg base "turns_among" ["house","rooms"] 4 (spOf K 2 j8)
abbrev Dd27:Prop:=Dfn P w K mg base "_law_draw" ["pen","many"] 1 (spOf K 2 f__law_draw)
abbrev Dd28:Prop:=Dfn P w K mg base "_law_whole" ["thing"] 1 (spOf K 1 ud)
abbrev Dd31:Prop:=Dfn P w K mg base "_law_left" ["house","arrows","room"] 1 (spOf K 3 qt)
abbrev Dd33:Prop:=Dfn P w K mg base "_law_round" ["house","arrows","room"] 2 (spOf K 3 ue)
abbrev Dd24:Prop:=Dfn P w K mg base "turns_of" ["house","arrows","room"] 8 (spOf K 3 yu)
abbrev Dd32:Prop:=Dfn P w K mg base "_law_tuple" ["found","due"] 2 (spOf K 2 mj)
abbrev Dd34:Prop:=Dfn P w K mg base "_law_right" ["house","arrows","room"] 9 (spOf K 3 jr)
abbrev Dd25:Prop:=Dfn P w K mg base "_law_cell" ["script","k"] 1 (spOf K 2 f__law_cell)
abbrev Dd26:Prop:=Dfn P w K mg base "_law_pen" ["cell"] 1 (spOf K 1 f__law_pen)
abbrev Dd29:Prop:=Dfn P w K mg base "_law_shut" ["pen","most","doors"] 2 (spOf K 3 f__law_shut)
abbrev Dd30:Prop:=Dfn P w K mg base "_law_arrows" ["pen","house"] 2 (spOf K 2 f__law_arrows)
end
section
variable{P:Program}{w:World}{K:Fg9}{mg:Str->Option Value}{base:Heap}{f:Addr}{fd:FuncData}
theorem alu(F:Fun K "is_whole" "is_whole" ad0 f fd)(T:Txt K mg):FnOk P w K mg base CX0 1 f fd ["thing"] (spOf K 1 yx) :=
 gr F alg rfl rfl fun cdv A outer s H E hr =>
  (aq (du (EV.toR (an1 (aha (t:=.int) (ao0 (by rfl) T.z_int atb) (by rfl) T.z_isinstance j9 (cz (pv 0))) (anz (axd (aha (t:=.bool) (ao0 (by rfl) T.z_bool atd) (by rfl) T.z_isinstance j9 (cz (pv 0)))))))))
theorem acy(F:Fun K "is_whole_within" "is_whole_within" qj f fd)(T:Txt K mg)(d0:Dd0 P w K mg base):FnOk P w K mg base CX0 2 f fd ["thing","least","most"] (spOf K 3 ir) :=
 gr F aco rfl rfl fun cdv A outer s H E hr =>
  (aq (du (EV.toR (an1 (ER.toD (jc d0 (hr.mono (by decide)) (by rfl) (eg_n (pv 0) cj))) (anz (an0 auy auy (ao (pv 1)) (ao (pv 0)) (ao (pv 2))))))))
theorem acz(F:Fun K "is_tuple_within" "is_tuple_within" ql f fd)(T:Txt K mg):FnOk P w K mg base CX0 1 f fd ["thing","least","most"] (spOf K 3 jo) :=
 gr F acp rfl rfl fun cdv A outer s H E hr =>
  (aq (du (EV.toR (an1 (aha (t:=.tuple) (ao0 (by rfl) T.z_tuple u5) (by rfl) T.z_isinstance j9 (cz (pv 0))) (anz (an0 auy auy (ao (pv 1)) (ER.toD (bz j4 (by rfl) T.z_len j5 (ea_n (pv 0) dg))) (ao (pv 2))))))))
theorem ad4(F:Fun K "is_room_number" "is_room_number" uo f fd)(T:Txt K mg)(d1:Dd1 P w K mg base):FnOk P w K mg base CX0 3 f fd ["house","thing"] (spOf K 2 jw) :=
 gr F adx rfl rfl fun cdv A outer s H E hr =>
  (aq (du (jc d1 (hr.mono (by decide)) (by rfl) (eg_v (ao (pv 1)) (eg_v bh (eg_v (ER.toD (dz afb (e2_v (ER.toD (bz j4 (by rfl) T.z_len j5 (ea_n (pv 0) dg))) (EV.toB bh)))) cj))))))
theorem ad3(F:Fun K "refuse_no_room" "refuse_no_room" um f fd)(T:Txt K mg)(d3:Dd3 P w K mg base):FnOk P w K mg base CX0 4 f fd ["house","thing"] (spOf K 2 fj) :=
 gr F adw rfl rfl fun cdv A outer s H E hr =>
  (aq (aak (adf (ade (ER.toD (jc d3 (hr.mono (by decide)) (by rfl) (eg_n (pv 0) (eg_v (ao (pv 1)) cj)))))) (aq ahm) kj))
theorem ao4(F:Fun K "come_to" "come_to" ae4 f fd)(T:Txt K mg)(d4:Dd4 P w K mg base):FnOk P w K mg base CX0 5 f fd ["house","room"] (spOf K 2 uc) :=
 gr F u6 rfl rfl fun cdv A outer s H E hr =>
  (ak (ul (jc d4 (hr.mono (by decide)) (by rfl) (eg_n (pv 0) (eg_v (ao (pv 1)) cj)))) (ak (gw (i:=2) u6.nd rfl (Or.inl rfl) (xf (az (ao (pv 1)) cg))) (ak (gw (i:=3) u6.nd rfl (Or.inl rfl) (EV.toR bh)) (ak (aml fuel PassesOwn.never (uw awy (e2_n (pv 3) (EV.toB (ER.toD (bz j4 (by rfl) T.z_len j5 (ea_n (pv 2) dg))))) (vg _)) (ak (gw (i:=4) u6.nd rfl (Or.inl rfl) (my (e2_n (pv 0) (EV.toB (ER.toD (my (e2_n (pv 2) (cz (pv 3))) (fun _ _=>by rfl))))) (fun _ _=>by rfl))) (ak (yg PassesOwn.never rfl (vm (ao (pv 4))) (bu (i:=5) u6.nd rfl (Or.inl rfl)) (aq (aak (EW.pt (a3r (uw aqw (e2_n (pv 5) (EV.toB bh)) (vg _)) (azp (uw (afc hr.units) (e2_n (pv 5) (cz (pv 2))) (by with_unfolding_all rfl))))) (aq (ul (EV.toR (af0 qm PySem.F.slot_list_append PySem.F.type_list_append sy (pv 2) (az (ao (pv 5)) cg))))) kj))) (aq (a0r (i:=3) u6.nd rfl (Or.inl rfl) bh aw8))))) (aq (du (je aab (by rfl) T.z_tuple u5 (ea_v (ER.toD (bz apm (by rfl) T.z_sorted ata (ea_n (pv 2) dg))) dg))))))))
theorem ao3(F:Fun K "is_shut" "is_shut" ae3 f fd)(T:Txt K mg):FnOk P w K mg base CX0 1 f fd ["house"] (spOf K 1 aaz) :=
 gr F aow rfl rfl fun cdv A outer s H E hr =>
  (aq (du (bz (as5 rfl) (by rfl) T.z_all ate (ea_v (ER.toD (wj [] ["doors"] [none] rfl (vm (ao (pv 0))) (fun _ _ _=>(bu (i:=0) (show(["doors"]:List Str).Nodup by decide +kernel) rfl (Or.inl rfl))) (fun _ _ _=>nu) (fun _ _ _=>(ER.toD (axg aqw (e2_v (ER.toD (bz (azw rfl) (by rfl) T.z_min a4d (ea_n (pv 0) dg))) (EV.toB bh)) (vg _)))))) dg))))
theorem acw(F:Fun K "refuse_not_shut" "refuse_not_shut" qg f fd)(T:Txt K mg)(d6:Dd6 P w K mg base):FnOk P w K mg base CX0 2 f fd ["house"] (spOf K 1 jm) :=
 gr F acl rfl rfl fun cdv A outer s H E hr =>
  (aq (aak (adf (ade (ER.toD (jc d6 (hr.mono (by decide)) (by rfl) (eg_v (ao (pv 0)) cj))))) (aq ahm) kj))
theorem aji(F:Fun K "is_arrows" "is_arrows" abz f fd)(T:Txt K mg)(d2:Dd2 P w K mg base)(d1:Dd1 P w K mg base):FnOk P w K mg base CX0 3 f fd ["house","thing"] (spOf K 2 vz) :=
 gr F aja rfl rfl fun cdv A outer s H E hr =>
  (ak (aak (adf (ade (ER.toD (jc d2 (hr.mono (by decide)) (by rfl) (eg_n (pv 1) (eg_v (ER.toD (bz j4 (by rfl) T.z_len j5 (ea_n (pv 0) dg))) (eg_v (ER.toD (bz j4 (by rfl) T.z_len j5 (ea_n (pv 0) dg))) cj))))))) (aq (du (EV.toR akb))) kj) (aq (du (bz (as5 rfl) (by rfl) T.z_all ate (ea_v (ER.toD (wj [] ["arrow","doors"] [none,none] rfl (afq (by rfl) T.z_zip (az (ao (pv 1)) (az (ao (pv 0)) cg))) (fun _ _ _=>(abw rfl (gm (bu (i:=0) (show(["arrow","doors"]:List Str).Nodup by decide +kernel) rfl (Or.inl rfl)) (gm (bu (i:=1) (show(["arrow","doors"]:List Str).Nodup by decide +kernel) rfl (Or.inl rfl)) xm)))) (fun _ _ _=>nu) (fun _ _ _=>(ER.toD (jc d1 (hr.mono (by decide)) (by rfl) (eg_n (pv 0) (eg_v bh (eg_v (ER.toD (dz afb (e2_v (ER.toD (bz j4 (by rfl) T.z_len j5 (ea_n (pv 1) dg))) (EV.toB bh)))) cj)))))))) dg)))))
theorem ab6(F:Fun K "refuse_no_arrows" "refuse_no_arrows" nj f fd)(T:Txt K mg)(d8:Dd8 P w K mg base):FnOk P w K mg base CX0 4 f fd ["house","thing"] (spOf K 2 jd) :=
 gr F aby rfl rfl fun cdv A outer s H E hr =>
  (aq (aak (adf (ade (ER.toD (jc d8 (hr.mono (by decide)) (by rfl) (eg_v (ao (pv 0)) (eg_v (ao (pv 1)) cj)))))) (aq ahm) kj))
theorem au0(F:Fun K "minor" "minor" alh f fd)(T:Txt K mg):FnOk P w K mg base CX0 1 f fd ["rows","chosen"] (spOf K 2 afz) :=
 gr F aub rfl rfl fun cdv A outer s H E hr =>
  (aq (du (av2 "row" ["rows","chosen"] ["row","rows","chosen"] [none,some 0,some 1] rfl (vm (ao (pv 1))) (fun _ _ _=>(bu (i:=0) (show(["row","rows","chosen"]:List Str).Nodup by decide +kernel) rfl (Or.inr rfl))) (fun _ _ _=>nu) (fun _ _ _=>(ER.toD (wj ["rows","row"] ["column","rows","row"] [none,some 1,some 0] rfl (vm (ao (pv 2))) (fun _ _ _=>(bu (i:=0) (show(["column","rows","row"]:List Str).Nodup by decide +kernel) rfl (Or.inl rfl))) (fun _ _ _=>nu) (fun _ _ _=>(ER.toD (my (e2_v (ER.toD (my (e2_n (pv 1) (cz (pv 2))) (fun _ _=>by rfl))) (cz (pv 0))) (fun _ _=>by rfl))))))))))
theorem als(F:Fun K "row_with" "row_with" adz f fd)(T:Txt K mg):FnOk P w K mg base CX0 1 f fd ["rows","at"] (spOf K 2 yw) :=
 gr F ae0 rfl rfl fun cdv A outer s H E hr =>
  (ak (yg PassesOwn.never rfl (arn (by rfl) T.z_range (az (ao (pv 1)) (az (ER.toD (bz j4 (by rfl) T.z_len j5 (ea_n (pv 0) dg))) cg))) (bu (i:=2) ae0.nd rfl (Or.inl rfl)) (aq (aak (uw (ag1 hr.units) (e2_v (ER.toD (my (e2_v (ER.toD (my (e2_n (pv 0) (cz (pv 2))) (fun _ _=>by rfl))) (cz (pv 1))) (fun _ _=>by rfl))) (EV.toB bh)) (vg _)) (aq (du (aeb (pv 2)))) kj))) (aq (du (EV.toR axe))))
theorem ao2(F:Fun K "swapped" "swapped" ae2 f fd)(T:Txt K mg):FnOk P w K mg base CX0 1 f fd ["rows","one","other"] (spOf K 3 aay) :=
 gr F agw rfl rfl fun cdv A outer s H E hr =>
  (ak (ahl (i:=3) [] ["row"] [none] agw.nd rfl (Or.inl rfl) rfl (vm (ao (pv 0))) (fun _ _ _=>(bu (i:=0) (show(["row"]:List Str).Nodup by decide +kernel) rfl (Or.inl rfl))) (fun _ _ _=>nu) (fun _ _ _=>(ER.toD (je aeg (by rfl) T.z_list aeh (ea_n (pv 0) dg))))) (ak (aak (uw (ag1 hr.units) (e2_n (pv 1) (cz (pv 2))) (vg _)) (ak (aci (ER.toD (je aeg (by rfl) T.z_list aeh (ea_v (ER.toD (my (e2_n (pv 0) (cz (pv 2))) (fun _ _=>by rfl))) dg))) (pv 3) (ao (pv 1))) (aq (aci (ER.toD (wj [] ["number"] [none] rfl (vm (ER.toD (my (e2_n (pv 0) (cz (pv 1))) (fun _ _=>by rfl)))) (fun _ _ _=>(bu (i:=0) (show(["number"]:List Str).Nodup by decide +kernel) rfl (Or.inl rfl))) (fun _ _ _=>nu) (fun _ _ _=>(axf (ao (pv 0)))))) (pv 3) (ao (pv 2))))) kj) (aq (du (aeb (pv 3))))))
theorem ao5(F:Fun K "cleared" "cleared" ae5 f fd)(T:Txt K mg):FnOk P w K mg base CX0 1 f fd ["rows","at","bottom"] (spOf K 3 aa0) :=
 gr F yh rfl rfl fun cdv A outer s H E hr =>
  (ak (gw (i:=3) yh.nd rfl (Or.inr rfl) (my (e2_n (pv 0) (cz (pv 1))) (fun _ _=>by rfl))) (ak (gw (i:=4) yh.nd rfl (Or.inl rfl) (xf cg)) (ak (yg PassesOwn.never rfl (aro (by rfl) T.z_enumerate (az (ao (pv 0)) cg)) (abw rfl (gm (bu (i:=5) yh.nd rfl (Or.inl rfl)) (gm (bu (i:=6) yh.nd rfl (Or.inr rfl)) xm))) (aq (aak (uw (am4 hr.units) (e2_n (pv 5) (cz (pv 1))) (vg _)) (aq (ul (EV.toR (af0 qm PySem.F.slot_list_append PySem.F.type_list_append sy (pv 4) (az (ER.toD (je aeg (by rfl) T.z_list aeh (ea_n (pv 3) dg))) cg))))) (aq (ul (EV.toR (af0 qm PySem.F.slot_list_append PySem.F.type_list_append sy (pv 4) (az (ER.toD (wj ["row","head","bottom","at"] ["own","over","row","head","bottom","at"] [none,none,some 6,some 3,some 2,some 1] rfl (afq (by rfl) T.z_zip (az (ao (pv 6)) (az (ao (pv 3)) cg))) (fun _ _ _=>(abw rfl (gm (bu (i:=0) (show(["own","over","row","head","bottom","at"]:List Str).Nodup by decide +kernel) rfl (Or.inl rfl)) (gm (bu (i:=1) (show(["own","over","row","head","bottom","at"]:List Str).Nodup by decide +kernel) rfl (Or.inl rfl)) xm)))) (fun _ _ _=>nu) (fun _ _ _=>(ER.toD (dz ah6 (e2_v (ER.toD (dz afb (e2_v (ER.toD (dz aau (e2_v (ER.toD (my (e2_n (pv 3) (cz (pv 5))) (fun _ _=>by rfl))) (cz (pv 0))))) (EV.toB (ER.toD (dz aau (e2_v (ER.toD (my (e2_n (pv 2) (cz (pv 5))) (fun _ _=>by rfl))) (cz (pv 1))))))))) (cz (pv 4)))))))) cg)))))))) (aq (du (aeb (pv 4)))))))
theorem aqy(F:Fun K "solved" "solved" ahx f fd)(T:Txt K mg)(d11:Dd11 P w K mg base)(d12:Dd12 P w K mg base)(d13:Dd13 P w K mg base):FnOk P w K mg base CX0 2 f fd ["rows","right"] (spOf K 2 adc) :=
 gr F rn rfl rfl fun cdv A outer s H E hr =>
  (ak (ahl (i:=2) [] ["row","number"] [none,none] rn.nd rfl (Or.inl rfl) rfl (afq (by rfl) T.z_zip (az (ao (pv 0)) (az (ao (pv 1)) cg))) (fun _ _ _=>(abw rfl (gm (bu (i:=0) (show(["row","number"]:List Str).Nodup by decide +kernel) rfl (Or.inl rfl)) (gm (bu (i:=1) (show(["row","number"]:List Str).Nodup by decide +kernel) rfl (Or.inl rfl)) xm)))) (fun _ _ _=>nu) (fun _ _ _=>(ER.toD (dz vf (e2_v (ER.toD (je aeg (by rfl) T.z_list aeh (ea_n (pv 0) dg))) (EV.toB (ER.toD (xf (az (ao (pv 1)) cg))))))))) (ak (gw (i:=3) rn.nd rfl (Or.inl rfl) (EV.toR bh)) (ak (yg PassesOwn.never rfl (vo (by rfl) T.z_range (az (ER.toD (bz j4 (by rfl) T.z_len j5 (ea_n (pv 0) dg))) cg)) (bu (i:=4) rn.nd rfl (Or.inl rfl)) (ak (gw (i:=5) rn.nd rfl (Or.inl rfl) (jc d11 (hr.mono (by decide)) (by rfl) (eg_n (pv 2) (eg_v (ao (pv 4)) cj)))) (ak (aak (akc (cz (pv 5))) (aq (du (EV.toR axe))) kj) (ak (gw (i:=2) rn.nd rfl (Or.inl rfl) (jc d12 (hr.mono (by decide)) (by rfl) (eg_v (ao (pv 2)) (eg_v (ao (pv 4)) (eg_v (ao (pv 5)) cj))))) (ak (gw (i:=2) rn.nd rfl (Or.inl rfl) (jc d13 (hr.mono (by decide)) (by rfl) (eg_v (ao (pv 2)) (eg_n (pv 4) (eg_n (pv 3) cj))))) (aq (gw (i:=3) rn.nd rfl (Or.inl rfl) (my (e2_v (ER.toD (my (e2_n (pv 2) (cz (pv 4))) (fun _ _=>by rfl))) (cz (pv 4))) (fun _ _=>by rfl))))))))) (aq (du (EV.toR (wz (az (ER.toD (wj ["rows"] ["row","rows"] [none,some 0] rfl (vm (ao (pv 2))) (fun _ _ _=>(bu (i:=0) (show(["row","rows"]:List Str).Nodup by decide +kernel) rfl (Or.inl rfl))) (fun _ _ _=>nu) (fun _ _ _=>(ER.toD (my (e2_n (pv 0) (EV.toB (ER.toD (bz j4 (by rfl) T.z_len j5 (ea_n (pv 1) dg))))) (fun _ _=>by rfl)))))) (az (ao (pv 3)) cg)))))))))
theorem agk(F:Fun K "determinant" "determinant" zj f fd)(T:Txt K mg)(d14:Dd14 P w K mg base):FnOk P w K mg base CX0 3 f fd ["rows"] (spOf K 1 ju) :=
 gr F abu rfl rfl fun cdv A outer s H E hr =>
  (ak (gw (i:=1) abu.nd rfl (Or.inl rfl) (jc d14 (hr.mono (by decide)) (by rfl) (eg_v (ao (pv 0)) (eg_v (ER.toD (dz aau (e2_v (ER.toD (xf (az bh cg))) (EV.toB (ER.toD (bz j4 (by rfl) T.z_len j5 (ea_n (pv 0) dg))))))) cj)))) (aq (du (a73 (akc (cz (pv 1))) (EV.toR bh) (my (e2_n (pv 1) (EV.toB bh)) (fun _ _=>by rfl))))))
theorem ad5(F:Fun K "common_divisor" "common_divisor" uq f fd)(T:Txt K mg):FnOk P w K mg base CX0 1 f fd ["numbers"] (spOf K 1 jx) :=
 gr F gf rfl rfl fun cdv A outer s H E hr =>
  (ak (gw (i:=1) gf.nd rfl (Or.inl rfl) (EV.toR bh)) (ak (yg PassesOwn.never rfl (vm (ao (pv 0))) (bu (i:=2) gf.nd rfl (Or.inl rfl)) (ak (gw (i:=3) gf.nd rfl (Or.inl rfl) (bz a4b (by rfl) T.z_abs a4f (ea_n (pv 2) dg))) (aq (aml fuel PassesOwn.never (uw (ag1 hr.units) (e2_n (pv 3) (EV.toB bh)) (vg _)) (ak (gw (i:=4) gf.nd rfl (Or.inl rfl) (dz xj (e2_n (pv 1) (cz (pv 3))))) (ak (gw (i:=1) gf.nd rfl (Or.inl rfl) (EV.toR (ao (pv 3)))) (aq (gw (i:=3) gf.nd rfl (Or.inl rfl) (EV.toR (ao (pv 4))))))))))) (aq (du (aeb (pv 1))))))
theorem afd(F:Fun K "doors_square" "doors_square" xg f fd)(T:Txt K mg):FnOk P w K mg base CX0 1 f fd ["house"] (spOf K 1 lq) :=
 gr F j6 rfl rfl fun cdv A outer s H E hr =>
  (ak (gw (i:=1) j6.nd rfl (Or.inl rfl) (xf cg)) (ak (yg PassesOwn.never rfl (aro (by rfl) T.z_enumerate (az (ao (pv 0)) cg)) (abw rfl (gm (bu (i:=2) j6.nd rfl (Or.inl rfl)) (gm (bu (i:=3) j6.nd rfl (Or.inr rfl)) xm))) (ak (ahl (i:=4) ["doors"] ["other","doors"] [none,some 3] j6.nd rfl (Or.inl rfl) rfl (vo (by rfl) T.z_range (az (ER.toD (bz j4 (by rfl) T.z_len j5 (ea_n (pv 0) dg))) cg)) (fun _ _ _=>(bu (i:=0) (show(["other","doors"]:List Str).Nodup by decide +kernel) rfl (Or.inl rfl))) (fun _ _ _=>nu) (fun _ _ _=>(axf (av1 hr.units (pv 1) (az (ao (pv 0)) cg))))) (ak (ap4 (pv 4) (ao (pv 2)) (ER.toD (bz j4 (by rfl) T.z_len j5 (ea_n (pv 3) dg))) aw8) (aq (ul (EV.toR (af0 qm PySem.F.slot_list_append PySem.F.type_list_append sy (pv 1) (az (ao (pv 4)) cg)))))))) (aq (du (aeb (pv 1))))))
theorem acx(F:Fun K "refuse_no_state" "refuse_no_state" qi f fd)(T:Txt K mg)(d9:Dd9 P w K mg base)(d4:Dd4 P w K mg base):FnOk P w K mg base CX0 5 f fd ["house","arrows","room"] (spOf K 3 jn) :=
 gr F acn rfl rfl fun cdv A outer s H E hr =>
  (ak (ul (jc d9 (hr.mono (by decide)) (by rfl) (eg_v (ao (pv 0)) (eg_v (ao (pv 1)) cj)))) (aq (ul (jc d4 (hr.mono (by decide)) (by rfl) (eg_n (pv 0) (eg_v (ao (pv 2)) cj))))))
theorem au1(F:Fun K "leave" "leave" ali f fd)(T:Txt K mg):FnOk P w K mg base CX0 1 f fd ["house","turning","room"] (spOf K 3 acf) :=
 gr F amu rfl rfl fun cdv A outer s H E hr =>
  (ak (gw (i:=3) amu.nd rfl (Or.inl rfl) (my (e2_n (pv 1) (cz (pv 2))) (fun _ _=>by rfl))) (ak (aci (ER.toD (dz xj (e2_v (ER.toD (dz vf (e2_n (pv 3) (EV.toB bh)))) (EV.toB (ER.toD (bz j4 (by rfl) T.z_len j5 (ea_v (ER.toD (my (e2_n (pv 0) (cz (pv 2))) (fun _ _=>by rfl))) dg))))))) (pv 1) (ao (pv 2))) (aq (du (my (e2_v (ER.toD (my (e2_n (pv 0) (cz (pv 2))) (fun _ _=>by rfl))) (cz (pv 3))) (fun _ _=>by rfl))))))
theorem zr(F:Fun K "refuse_no_shut_state" "refuse_no_shut_state" jy f fd)(T:Txt K mg)(d18:Dd18 P w K mg base)(d7:Dd7 P w K mg base):FnOk P w K mg base CX0 6 f fd ["house","arrows","room"] (spOf K 3 gb) :=
 gr F zc rfl rfl fun cdv A outer s H E hr =>
  (ak (ul (jc d18 (hr.mono (by decide)) (by rfl) (eg_v (ao (pv 0)) (eg_v (ao (pv 1)) (eg_v (ao (pv 2)) cj))))) (aq (ul (jc d7 (hr.mono (by decide)) (by rfl) (eg_v (ao (pv 0)) cj)))))
theorem ajj(F:Fun K "gone_from" "gone_from" ab0 f fd)(T:Txt K mg)(d5:Dd5 P w K mg base):FnOk P w K mg base CX0 6 f fd ["house","room"] (spOf K 2 wg) :=
 gr F ajb rfl rfl fun cdv A outer s H E hr =>
  (aq (du (wj ["room","house"] ["there","room","house"] [none,some 1,some 0] rfl (vm (ER.toD (jc d5 (hr.mono (by decide)) (by rfl) (eg_n (pv 0) (eg_v (ao (pv 1)) cj))))) (fun _ _ _=>(bu (i:=0) (show(["there","room","house"]:List Str).Nodup by decide +kernel) rfl (Or.inl rfl))) (fun _ _ _=>(amb (uw (afc hr.units) (e2_n (pv 1) (EV.toB (ER.toD (jc d5 (hr.mono (by decide)) (by rfl) (eg_n (pv 2) (eg_n (pv 0) cj)))))) (by with_unfolding_all rfl)))) (fun _ _ _=>(ao (pv 0))))))
theorem abr(F:Fun K "go_till_in" "Stroll.go_till_in" gj f fd)(T:Txt K mg)(d19:Dd19 P w K mg base):FnOk P w K mg base CX0 2 f fd ["self","rooms"] (at4 K 2 3 dj) :=
 a3o F abp rfl rfl (by decide) (by decide) (by decide +kernel) fun cdv A outer s H E hr =>
  (ap8 (at8 fuel PassesOwn.never (uw (afc hr.units) (e2_v (av0 T.f_Stroll_place (pv 0)) (cz (pv 1))) (by with_unfolding_all rfl)) (at7 (a0v T.f_Stroll_place (ER.toD (jc d19 (hr.mono (by decide)) (by rfl) (eg_v (av0 T.f_Stroll_house (pv 0)) (eg_f T.f_Stroll_turning (pv 0) (eg_v (av0 T.f_Stroll_place (pv 0)) cj))))) (pv 0)) (ap8 (ap9 T.f_Stroll_steps bh (pv 0))))))
theorem agm{C:Addr}(F:Fun K "__init__" "Stroll.__init__" j7 f fd)(T:Txt K mg)(hC:nsIn K mainGlobals "Stroll" = some (some (.ref C))):FnOk P w K mg base CX0 1 f fd ["self","house","arrows","room"] (aou K 4 4 abj C) :=
 a3p F agg rfl rfl (by decide) (by decide) fun cdv A outer s H E hr =>
  (ahs (T.f_Stroll_house C hC).1 (T.f_Stroll_house C hC).2 (EV.toR (ao (pv 1))) (pv 0) (ahs (T.f_Stroll_turning C hC).1 (T.f_Stroll_turning C hC).2 (je aeg (by rfl) T.z_list aeh (ea_n (pv 2) dg)) (pv 0) (ahs (T.f_Stroll_place C hC).1 (T.f_Stroll_place C hC).2 (EV.toR (ao (pv 3))) (pv 0) (ahs (T.f_Stroll_steps C hC).1 (T.f_Stroll_steps C hC).2 (EV.toR bh) (pv 0) a0x))))
theorem abq(F:Fun K "to_where_it_stays" "to_where_it_stays" lu f fd)(T:Txt K mg)(d21:Dd21 P w K mg base)(m_Stroll_go_till_in:DfnM P w K mg base "Stroll" "go_till_in" ["self","rooms"] 2 (at4 K 2 3 dj))(n_Stroll:DfnI P w K mg base "Stroll" ["self","house","arrows","room"] 1 (aou K 4 4 abj)):FnOk P w K mg base CX0 7 f fd ["house","arrows","room"] (ap6 K 3 "Stroll" gk) :=
 a3n F uv rfl rfl fun cdv A outer s H E hr =>
  (aua (i:=3) (j:=4) uv.nd rfl (Or.inl rfl) (a3s n_Stroll (hr.mono (by decide)) (by rfl) (eg_n (pv 0) (eg_n (pv 1) (eg_n (pv 2) cj)))) (atz (axv (j:=4) m_Stroll_go_till_in (hr.mono (by decide)) (pv 3) (ER.toD (wj ["house"] ["place","house"] [none,some 0] rfl (vo (by rfl) T.z_range (az (ER.toD (bz j4 (by rfl) T.z_len j5 (ea_n (pv 0) dg))) cg)) (fun _ _ _=>(bu (i:=0) (show(["place","house"]:List Str).Nodup by decide +kernel) rfl (Or.inl rfl))) (fun _ _ _=>(amb (uw (am4 hr.units) (e2_v (ER.toD (jc d21 (hr.mono (by decide)) (by rfl) (eg_n (pv 1) (eg_n (pv 0) cj)))) (EV.toB (ER.toD (xf cg)))) (vg _)))) (fun _ _ _=>(ao (pv 0)))))) (axt (pv 3))) (axa (by rfl)))
theorem agj(F:Fun K "turns_among" "turns_among" zg f fd)(T:Txt K mg)(d17:Dd17 P w K mg base)(d10:Dd10 P w K mg base)(d15:Dd15 P w K mg base)(d16:Dd16 P w K mg base):FnOk P w K mg base CX0 4 f fd ["house","rooms"] (spOf K 2 j8) :=
 gr F jf rfl rfl fun cdv A outer s H E hr =>
  (ak (gw (i:=2) jf.nd rfl (Or.inr rfl) (jc d17 (hr.mono (by decide)) (by rfl) (eg_v (ao (pv 0)) cj))) (ak (atw (i:=3) "room" ["rows","rooms"] ["room","rows","rooms"] [none,some 2,some 1] jf.nd rfl (Or.inl rfl) rfl (vm (ao (pv 1))) (fun _ _ _=>(bu (i:=0) (show(["room","rows","rooms"]:List Str).Nodup by decide +kernel) rfl (Or.inr rfl))) (fun _ _ _=>nu) (fun _ _ _=>(ER.toD (jc d15 (hr.mono (by decide)) (by rfl) (eg_v (ER.toD (jc d10 (hr.mono (by decide)) (by rfl) (eg_n (pv 1) (eg_v (ER.toD (wj ["room"] ["other","room"] [none,some 0] rfl (vm (ao (pv 2))) (fun _ _ _=>(bu (i:=0) (show(["other","room"]:List Str).Nodup by decide +kernel) rfl (Or.inl rfl))) (fun _ _ _=>(amb (uw (ag1 hr.units) (e2_n (pv 0) (cz (pv 1))) (vg _)))) (fun _ _ _=>(ao (pv 0))))) cj)))) cj))))) (ak (gw (i:=4) jf.nd rfl (Or.inl rfl) (jc d16 (hr.mono (by decide)) (by rfl) (eg_v (ao (pv 3)) cj))) (ak (gw (i:=5) jf.nd rfl (Or.inl rfl) (dz aau (e2_v (ER.toD (xf (az bh cg))) (EV.toB (ER.toD (bz j4 (by rfl) T.z_len j5 (ea_n (pv 0) dg))))))) (ak (yg PassesOwn.never rfl (afq (by rfl) T.z_zip (az (ao (pv 1)) (az (ao (pv 3)) cg))) (abw rfl (gm (bu (i:=6) jf.nd rfl (Or.inl rfl)) (gm (bu (i:=7) jf.nd rfl (Or.inl rfl)) xm))) (aq (aci (ER.toD (dz ah6 (e2_n (pv 7) (cz (pv 4))))) (pv 5) (ao (pv 6))))) (aq (du (je aab (by rfl) T.z_tuple u5 (ea_n (pv 5) dg)))))))))
theorem alr(F:Fun K "turns_of" "turns_of" ady f fd)(T:Txt K mg)(d20:Dd20 P w K mg base)(d22:Dfn P w K mg base "to_where_it_stays" ["house","arrows","room"] 7 (ap6 K 3 "Stroll" gk))(d5:Dd5 P w K mg base)(d23:Dd23 P w K mg base):FnOk P w K mg base CX0 8 f fd ["house","arrows","room"] (spOf K 3 yu) :=
 gr F aez rfl rfl fun cdv A outer s H E hr =>
  (ak (ul (jc d20 (hr.mono (by decide)) (by rfl) (eg_v (ao (pv 0)) (eg_v (ao (pv 1)) (eg_v (ao (pv 2)) cj))))) (axr (i:=3) (j:=4) aez.nd rfl (Or.inl rfl) (a72 d22 (hr.mono (by decide)) (by rfl) (eg_n (pv 0) (eg_n (pv 1) (eg_n (pv 2) cj)))) (aq (du (jc d23 (hr.mono (by decide)) (by rfl) (eg_v (ao (pv 0)) (eg_v (ER.toD (jc d5 (hr.mono (by decide)) (by rfl) (eg_n (pv 0) (eg_v (av0 T.f_Stroll_place (pv 3)) cj)))) cj))))) (axa (by rfl))))
theorem ajn(F:Fun K "_law_cell" "_law_cell" ab4 f fd)(T:Txt K mg):FnOk P w K mg base CX0 1 f fd ["script","k"] (spOf K 2 f__law_cell) :=
 gr F ajc rfl rfl fun cdv A outer s H E hr =>
  (ak (aak (uw awy (e2_n (pv 1) (EV.toB (ER.toD (bz j4 (by rfl) T.z_len j5 (ea_n (pv 0) dg))))) (vg _)) (aq (du (my (e2_n (pv 0) (cz (pv 1))) (fun _ _=>by rfl)))) kj) (aq (du (EV.toR bh))))
theorem alv(F:Fun K "_law_pen" "_law_pen" ad1 f fd)(T:Txt K mg):FnOk P w K mg base CX0 1 f fd ["cell"] (spOf K 1 f__law_pen) :=
 gr F ae1 rfl rfl fun cdv A outer s H E hr =>
  (ak (gw (i:=1) ae1.nd rfl (Or.inl rfl) (bz (a3z rfl) (by rfl) T.z_max a4e (ea_n (pv 0) (ea_v (ER.toD (dz afb (e2_v bh (cz (pv 0))))) dg)))) (aq (du (xf (az (ao (pv 1)) (az (ER.toD (je a4a (by rfl) T.z_int atb (ea_v (ER.toD (axg aqw (e2_n (pv 1) (EV.toB (ER.toD (dz ayr (e2_v bh (EV.toB bh)))))) (vg _))) dg))) cg))))))
theorem ajm(F:Fun K "_law_draw" "_law_draw" ab3 f fd)(T:Txt K mg):FnOk P w K mg base CX0 1 f fd ["pen","many"] (spOf K 2 f__law_draw) :=
 gr F sr rfl rfl fun cdv A outer s H E hr =>
  (ak (aak (uw (am4 hr.units) (e2_v (ER.toD (my (e2_n (pv 0) (EV.toB bh)) (fun _ _=>by rfl))) (EV.toB bh)) (vg _)) (ak (awp (ER.toD (bz as4 (by rfl) T.z_divmod atc (ea_v (ER.toD (my (e2_n (pv 0) (EV.toB bh)) (fun _ _=>by rfl))) (ea_n (pv 1) dg)))) (abw rfl (gm (bu (i:=2) sr.nd rfl (Or.inl rfl)) (gm (bu (i:=3) sr.nd rfl (Or.inl rfl)) xm)))) (ak (aci (ao (pv 2)) (pv 0) bh) (aq (du (aeb (pv 3)))))) kj) (ak (gw (i:=4) sr.nd rfl (Or.inl rfl) (dz xj (e2_v (ER.toD (dz aau (e2_v (ER.toD (dz vf (e2_v (ER.toD (dz xj (e2_v (ER.toD (my (e2_n (pv 0) (EV.toB bh)) (fun _ _=>by rfl))) (EV.toB bh)))) (EV.toB bh)))) (EV.toB bh)))) (EV.toB bh)))) (ak (gw (i:=4) sr.nd rfl (Or.inl rfl) (dz xj (e2_v (ER.toD (dz vf (e2_v (ER.toD (dz aau (e2_n (pv 4) (cz (pv 4))))) (EV.toB bh)))) (EV.toB bh)))) (ak (aci (ER.toD (dz xj (e2_v (ER.toD (dz vf (e2_v (ER.toD (dz aau (e2_n (pv 4) (EV.toB bh)))) (EV.toB bh)))) (EV.toB bh)))) (pv 0) bh) (aq (du (dz xj (e2_v (ER.toD (dz ah6 (e2_v (ER.toD (my (e2_n (pv 0) (EV.toB bh)) (fun _ _=>by rfl))) (EV.toB bh)))) (cz (pv 1))))))))))
theorem ah7(F:Fun K "_law_whole" "_law_whole" aan f fd)(T:Txt K mg):FnOk P w K mg base CX0 1 f fd ["thing"] (spOf K 1 ud) :=
 gr F ahv rfl rfl fun cdv A outer s H E hr =>
  (aq (du (EV.toR (an1 (aha (t:=.int) (ao0 (by rfl) T.z_int atb) (by rfl) T.z_isinstance j9 (cz (pv 0))) (anz (axd (aha (t:=.bool) (ao0 (by rfl) T.z_bool atd) (by rfl) T.z_isinstance j9 (cz (pv 0)))))))))
theorem ajk(F:Fun K "_law_shut" "_law_shut" ab1 f fd)(T:Txt K mg)(d27:Dd27 P w K mg base):FnOk P w K mg base CX0 2 f fd ["pen","most","doors"] (spOf K 3 f__law_shut) :=
 gr F lw rfl rfl fun cdv A outer s H E hr =>
  (ak (gw (i:=3) lw.nd rfl (Or.inr rfl) (dz vf (e2_v bh (EV.toB (ER.toD (jc d27 (hr.mono (by decide)) (by rfl) (eg_n (pv 0) (eg_n (pv 1) cj)))))))) (ak (gw (i:=4) lw.nd rfl (Or.inl rfl) (xf cg)) (ak (yg PassesOwn.never rfl (vo (by rfl) T.z_range (az (ao (pv 3)) cg)) (bu (i:=5) lw.nd rfl (Or.inl rfl)) (ak (gw (i:=6) lw.nd rfl (Or.inl rfl) (dz vf (e2_v bh (EV.toB (ER.toD (jc d27 (hr.mono (by decide)) (by rfl) (eg_n (pv 0) (eg_n (pv 2) cj)))))))) (ak (ahl (i:=7) ["pen","many"] ["door","pen","many"] [none,some 0,some 3] lw.nd rfl (Or.inl rfl) rfl (vo (by rfl) T.z_range (az (ao (pv 6)) cg)) (fun _ _ _=>(bu (i:=0) (show(["door","pen","many"]:List Str).Nodup by decide +kernel) rfl (Or.inl rfl))) (fun _ _ _=>nu) (fun _ _ _=>(ER.toD (jc d27 (hr.mono (by decide)) (by rfl) (eg_n (pv 1) (eg_n (pv 2) cj)))))) (ak (aak (uw (am4 hr.units) (e2_v (ER.toD (jc d27 (hr.mono (by decide)) (by rfl) (eg_n (pv 0) (eg_v bh cj)))) (EV.toB bh)) (vg _)) (aq (aci (ER.toD (dz xj (e2_v (ER.toD (dz vf (e2_n (pv 5) (EV.toB bh)))) (cz (pv 3))))) (pv 7) bh)) kj) (aq (ul (EV.toR (af0 qm PySem.F.slot_list_append PySem.F.type_list_append sy (pv 4) (az (ER.toD (je aab (by rfl) T.z_tuple u5 (ea_n (pv 7) dg))) cg))))))))) (aq (du (je aab (by rfl) T.z_tuple u5 (ea_n (pv 4) dg)))))))
theorem agl(F:Fun K "_law_arrows" "_law_arrows" zm f fd)(T:Txt K mg)(d27:Dd27 P w K mg base):FnOk P w K mg base CX0 2 f fd ["pen","house"] (spOf K 2 f__law_arrows) :=
 gr F agf rfl rfl fun cdv A outer s H E hr =>
  (aq (du (je aab (by rfl) T.z_tuple u5 (ea_v (ER.toD (wj ["pen"] ["doors","pen"] [none,some 0] rfl (vm (ao (pv 1))) (fun _ _ _=>(bu (i:=0) (show(["doors","pen"]:List Str).Nodup by decide +kernel) rfl (Or.inl rfl))) (fun _ _ _=>nu) (fun _ _ _=>(ER.toD (jc d27 (hr.mono (by decide)) (by rfl) (eg_n (pv 1) (eg_v (ER.toD (bz j4 (by rfl) T.z_len j5 (ea_n (pv 0) dg))) cj))))))) dg))))
theorem ajl(F:Fun K "_law_left" "_law_left" ab2 f fd)(T:Txt K mg):FnOk P w K mg base CX0 1 f fd ["house","arrows","room"] (spOf K 3 qt) :=
 gr F aam rfl rfl fun cdv A outer s H E hr =>
  (ak (gw (i:=3) aam.nd rfl (Or.inl rfl) (my (e2_n (pv 1) (cz (pv 2))) (fun _ _=>by rfl))) (ak (gw (i:=4) aam.nd rfl (Or.inl rfl) (je aeg (by rfl) T.z_list aeh (ea_n (pv 1) dg))) (ak (aci (ER.toD (dz xj (e2_v (ER.toD (dz vf (e2_n (pv 3) (EV.toB bh)))) (EV.toB (ER.toD (bz j4 (by rfl) T.z_len j5 (ea_v (ER.toD (my (e2_n (pv 0) (cz (pv 2))) (fun _ _=>by rfl))) dg))))))) (pv 4) (ao (pv 2))) (aq (du (EV.toR (wz (az (ER.toD (je aab (by rfl) T.z_tuple u5 (ea_n (pv 4) dg))) (az (ER.toD (my (e2_v (ER.toD (my (e2_n (pv 0) (cz (pv 2))) (fun _ _=>by rfl))) (cz (pv 3))) (fun _ _=>by rfl))) cg)))))))))
theorem ah8(F:Fun K "_law_tuple" "_law_tuple" aao f fd)(T:Txt K mg)(d28:Dd28 P w K mg base):FnOk P w K mg base CX0 2 f fd ["found","due"] (spOf K 2 mj) :=
 gr F ahw rfl rfl fun cdv A outer s H E hr =>
  (ak (aak (EW.pt (a3q (adf (ade (aha (t:=.tuple) (ao0 (by rfl) T.z_tuple u5) (by rfl) T.z_isinstance j9 (cz (pv 0))))) (axc (uw (ag1 hr.units) (e2_n (pv 0) (cz (pv 1))) (vg _))))) (aq (du (EV.toR akb))) kj) (aq (du (bz (as5 rfl) (by rfl) T.z_all ate (ea_v (ER.toD (wj [] ["one"] [none] rfl (vm (ao (pv 0))) (fun _ _ _=>(bu (i:=0) (show(["one"]:List Str).Nodup by decide +kernel) rfl (Or.inl rfl))) (fun _ _ _=>nu) (fun _ _ _=>(ER.toD (jc d28 (hr.mono (by decide)) (by rfl) (eg_n (pv 0) cj)))))) dg)))))
theorem ah9(F:Fun K "_law_round" "_law_round" aap f fd)(T:Txt K mg)(d31:Dd31 P w K mg base):FnOk P w K mg base CX0 2 f fd ["house","arrows","room"] (spOf K 3 ue) :=
 gr F acq rfl rfl fun cdv A outer s H E hr =>
  (atv (iS:=3) (iL:=4) (iA:=1) (iR:=2) (iH:=5) fuel hr.units PassesOwn.never rfl acq.nd rfl rfl rfl rfl rfl (Or.inl rfl) (Or.inl rfl) (Or.inl rfl) (Or.inl rfl) (Or.inl rfl) (by decide) (by decide) (by decide) (pv 3) (pv 3) (pv 3) (xf cg) (wz (az (ao (pv 1)) (az (ao (pv 2)) cg))) (wz (az (ao (pv 1)) (az (ao (pv 2)) cg))) (wz (az (ao (pv 1)) (az (ao (pv 2)) cg))) (ER.toD (bz j4 (by rfl) T.z_len j5 (ea_n (pv 4) dg))) (EV.toR (af0 qm PySem.F.slot_list_append PySem.F.type_list_append sy (pv 4) (az (wz (az (ao (pv 1)) (az (ao (pv 2)) cg))) cg))) (ER.toD (jc d31 (hr.mono (by decide)) (by rfl) (eg_n (pv 0) (eg_n (pv 1) (eg_v (ao (pv 2)) cj))))) (aq (du (EV.toR (wz (az (ao (pv 5)) (az (ER.toD (dz afb (e2_v (ER.toD (bz j4 (by rfl) T.z_len j5 (ea_n (pv 4) dg))) (cz (pv 5))))) (az (ao (pv 4)) cg))))))) (fun _ _=>by rfl))
theorem aia(F:Fun K "_law_right" "_law_right" aaq f fd)(T:Txt K mg)(d33:Dd33 P w K mg base)(d24:Dd24 P w K mg base)(d32:Dd32 P w K mg base):FnOk P w K mg base CX0 9 f fd ["house","arrows","room"] (spOf K 3 jr) :=
 gr F dw rfl rfl fun cdv A outer s H E hr =>
  (ak (awp (ER.toD (jc d33 (hr.mono (by decide)) (by rfl) (eg_n (pv 0) (eg_v (ao (pv 1)) (eg_v (ao (pv 2)) cj))))) (abw rfl (gm (bu (i:=3) dw.nd rfl (Or.inl rfl)) (gm (bu (i:=4) dw.nd rfl (Or.inl rfl)) (gm (bu (i:=5) dw.nd rfl (Or.inl rfl)) xm))))) (ak (gw (i:=6) dw.nd rfl (Or.inl rfl) (dz aau (e2_v (ER.toD (xf (az bh cg))) (EV.toB (ER.toD (bz j4 (by rfl) T.z_len j5 (ea_n (pv 0) dg))))))) (ak (yg PassesOwn.never rfl (vm (ER.toD (ase (pv 5) (ama (ao (pv 3))) azq))) (abw rfl (gm (bu (i:=7) dw.nd rfl (Or.inl rfl)) (gm (bu (i:=8) dw.nd rfl (Or.inl rfl)) xm))) (aq (aci (ER.toD (dz vf (e2_v (ER.toD (my (e2_n (pv 6) (cz (pv 8))) (fun _ _=>by rfl))) (EV.toB bh)))) (pv 6) (ao (pv 8))))) (ak (gw (i:=9) dw.nd rfl (Or.inl rfl) (xf cg)) (ak (yg PassesOwn.never rfl (afq (by rfl) T.z_zip (az (ao (pv 6)) (az (ao (pv 0)) cg))) (abw rfl (gm (bu (i:=10) dw.nd rfl (Or.inl rfl)) (gm (bu (i:=11) dw.nd rfl (Or.inl rfl)) xm))) (ak (aak (uw (ag1 hr.units) (e2_v (ER.toD (dz xj (e2_n (pv 10) (EV.toB (ER.toD (bz j4 (by rfl) T.z_len j5 (ea_n (pv 11) dg))))))) (EV.toB bh)) (vg _)) (aq (du (EV.toR akb))) kj) (aq (ul (EV.toR (af0 qm PySem.F.slot_list_append PySem.F.type_list_append sy (pv 9) (az (ER.toD (dz ah6 (e2_n (pv 10) (EV.toB (ER.toD (bz j4 (by rfl) T.z_len j5 (ea_n (pv 11) dg))))))) cg))))))) (ak (yg PassesOwn.never rfl (vo (by rfl) T.z_range (az bh cg)) (bu (i:=12) dw.nd rfl (Or.inl rfl)) (aq (aak (adf (ade (ER.toD (jc d32 (hr.mono (by decide)) (by rfl) (eg_v (ER.toD (jc d24 (hr.mono (by decide)) (by rfl) (eg_v (ao (pv 0)) (eg_v (ao (pv 1)) (eg_v (ao (pv 2)) cj))))) (eg_v (ER.toD (je aab (by rfl) T.z_tuple u5 (ea_n (pv 9) dg))) cj)))))) (aq (du (EV.toR akb))) kj))) (aq (du (EV.toR akb)))))))))
theorem a1y(F:Fun K "law" "law" ahy f fd)(T:Txt K mg)(d34:Dd34 P w K mg base)(d25:Dd25 P w K mg base)(d26:Dd26 P w K mg base)(d27:Dd27 P w K mg base)(d29:Dd29 P w K mg base)(d30:Dd30 P w K mg base):FnOk P w K mg base CX0 10 f fd ["script"] (spOf K 1 asb) :=
 gr F agx rfl rfl fun cdv A outer s H E hr =>
  (ak (aak (EW.pt (a3q (adf (ade (ER.toD (jc d34 (hr.mono (by decide)) (by rfl) (eg_v (wz (az (wz (az bh cg)) cg)) (eg_v (wz (az bh cg)) (eg_v bh cj))))))) (axc (adf (ade (ER.toD (jc d34 (hr.mono (by decide)) (by rfl) (eg_v (wz (az (wz (az bh (az bh cg))) (az (wz (az bh cg)) cg))) (eg_v (wz (az bh (az bh cg))) (eg_v bh cj)))))))))) (aq (du (EV.toR akb))) kj) (ak (yg PassesOwn.never rfl (vm (ER.toD (dz vf (e2_v (ER.toD (xf (az (ER.toD (jc d25 (hr.mono (by decide)) (by rfl) (eg_n (pv 0) (eg_v bh cj)))) cg))) (EV.toB (ER.toD (ase (pv 0) (ama bh) (ama bh)))))))) (bu (i:=1) agx.nd rfl (Or.inl rfl)) (ak (gw (i:=2) agx.nd rfl (Or.inl rfl) (jc d26 (hr.mono (by decide)) (by rfl) (eg_n (pv 1) cj))) (ak (gw (i:=3) agx.nd rfl (Or.inl rfl) (jc d29 (hr.mono (by decide)) (by rfl) (eg_n (pv 2) (eg_v (ER.toD (my (e2_v (ER.toD (xf (az bh (az bh (az bh cg))))) (EV.toB (ER.toD (jc d27 (hr.mono (by decide)) (by rfl) (eg_n (pv 2) (eg_v bh cj)))))) (fun _ _=>by rfl))) (eg_v bh cj))))) (ak (gw (i:=4) agx.nd rfl (Or.inl rfl) (jc d30 (hr.mono (by decide)) (by rfl) (eg_n (pv 2) (eg_v (ao (pv 3)) cj)))) (aq (yg PassesOwn.never rfl (vo (by rfl) T.z_range (az (ER.toD (bz j4 (by rfl) T.z_len j5 (ea_n (pv 3) dg))) cg)) (bu (i:=5) agx.nd rfl (Or.inl rfl)) (aq (aak (adf (ade (ER.toD (jc d34 (hr.mono (by decide)) (by rfl) (eg_v (ao (pv 3)) (eg_v (ao (pv 4)) (eg_v (ao (pv 5)) cj))))))) (aq (du (EV.toR akb))) kj)))))))) (aq (du (EV.toR akb)))))
end
abbrev Q(K:Fg9)(x:Str)(st:Stmt)(f:Addr)(oc:Value)(od:Option Addr)(kV dc pm:Value)(an:Option Addr)(cd ct:Value)(sl:Array (Option Value)):Prop:=nsIn K mainGlobals x=some (some (.ref f))/\K.lookup f=some ⟨oc,od,.func (fnOf x x (jz st) (ig st) (aa st) .none kV dc pm an cd ct),sl⟩/\codeIn K cd x=true/\keepIn K (.ref f)=true
section
variable{K:Fg9}{x:Str}{st:Stmt}{f:Addr}{oc:Value}{od:Option Addr}{kV dc pm:Value}{an:Option Addr}{cd ct:Value}{sl:Array (Option Value)}(q:Q K x st f oc od kV dc pm an cd ct sl){h:Heap}{mg:Str->Option Value}
include q
theorem Q.F:Fun K x x st f (fnOf x x (jz st) (ig st) (aa st) .none kV dc pm an cd ct):=anx q.2.1 q.2.2.1 q.2.2.2
theorem Q.E{ps:List Str}(X:K.In h)(G:h.Ns mainGlobals mg)(b:∀(kV doc pm:Value) (an:Option Addr) (cdv ct:Value) (us:List Value),us.length=ps.length->bindArgs (fnOf x x (jz st) (ig st) (aa st) .none kV doc pm an cdv ct) ⟨us,[]⟩=pure (ps.zip us)):mg x=some (.ref f)/\keepIn K (.ref f)=true/\Binds K (fnOf x x (jz st) (ig st) (aa st) .none kV dc pm an cd ct) ps []:=⟨mg_of X G q.1,q.2.2.2,(Q.F q).binds b⟩
theorem Q.E1{p0:Str}(X:K.In h)(G:h.Ns mainGlobals mg)(b:∀(kV doc pm:Value) (an:Option Addr) (cdv ct u0:Value),bindArgs (fnOf x x (jz st) (ig st) (aa st) .none kV doc pm an cdv ct) ⟨[u0],[]⟩=pure ([p0].zip [u0]):=by intros;rfl):mg x=some (.ref f)/\keepIn K (.ref f)=true/\Binds K (fnOf x x (jz st) (ig st) (aa st) .none kV dc pm an cd ct) [p0] []:=q.E X G fun _ _ _ _ _ _ us hl=>by obtain⟨_,rfl⟩:=ln1 hl;apply b
theorem Q.E2{p0 p1:Str}(X:K.In h)(G:h.Ns mainGlobals mg)(b:∀(kV doc pm:Value) (an:Option Addr) (cdv ct u0 u1:Value),bindArgs (fnOf x x (jz st) (ig st) (aa st) .none kV doc pm an cdv ct) ⟨[u0,u1],[]⟩=pure ([p0,p1].zip [u0,u1]):=by intros;rfl):mg x=some (.ref f)/\keepIn K (.ref f)=true/\Binds K (fnOf x x (jz st) (ig st) (aa st) .none kV dc pm an cd ct) [p0,p1] []:=q.E X G fun _ _ _ _ _ _ us hl=>by obtain⟨_,_,rfl⟩:=ln2 hl;apply b
theorem Q.E3{p0 p1 p2:Str}(X:K.In h)(G:h.Ns mainGlobals mg)(b:∀(kV doc pm:Value) (an:Option Addr) (cdv ct u0 u1 u2:Value),bindArgs (fnOf x x (jz st) (ig st) (aa st) .none kV doc pm an cdv ct) ⟨[u0,u1,u2],[]⟩=pure ([p0,p1,p2].zip [u0,u1,u2]):=by intros;rfl):mg x=some (.ref f)/\keepIn K (.ref f)=true/\Binds K (fnOf x x (jz st) (ig st) (aa st) .none kV dc pm an cd ct) [p0,p1,p2] []:=q.E X G fun _ _ _ _ _ _ us hl=>by obtain⟨_,_,_,rfl⟩:=ln3 hl;apply b
end
theorem a4j{l:PySem.W.OpenLaw}{w:World}{K:Fg9}{h:Heap}{mg:Str->Option Value}(X:K.In h)(G:h.Ns mainGlobals mg)(hfa:mg "law" = some (.ref fa))
  {B_Stroll:Addr} (aB_Stroll:nsIn K mainGlobals "Stroll" = some (some (.ref B_Stroll))) (e_B_Stroll:boxB K B_Stroll ["house","turning","place","steps"]=true)
  (q0:Q K "is_whole" ad0 f0' o0 p0 v0 t0 m0 n0 c0 r0 z0)
  (q1:Q K "is_whole_within" qj f1' o1 p1 v1 t1 m1 n1 c1 r1 z1)
  (q2:Q K "is_tuple_within" ql f2' o2 p2 v2 t2 m2 n2 c2 r2 z2)
  (q3:Q K "is_room_number" uo f3' o3 p3 v3 t3 m3 n3 c3 r3 z3)
  (q4:Q K "refuse_no_room" um f4' o4 p4 v4 t4 m4 n4 c4 r4 z4)
  (q5:Q K "come_to" ae4 f5' o5 p5 v5 t5 m5 n5 c5 r5 z5)
  (q6:Q K "is_shut" ae3 f6' o6 p6 v6 t6 m6 n6 c6 r6 z6)
  (q7:Q K "refuse_not_shut" qg f7' o7 p7 v7 t7 m7 n7 c7 r7 z7)
  (q8:Q K "is_arrows" abz f8' o8 p8 v8 t8 m8 n8 c8 r8 z8)
  (q9:Q K "refuse_no_arrows" nj f9' o9 p9 v9 t9 m9 n9 c9 r9 z9)
  (q10:Q K "minor" alh f10' o10 p10 v10 t10 m10 n10 c10 r10 z10)
  (q11:Q K "row_with" adz f11' o11 p11 v11 t11 m11 n11 c11 r11 z11)
  (q12:Q K "swapped" ae2 f12' o12 p12 v12 t12 m12 n12 c12 r12 z12)
  (q13:Q K "cleared" ae5 f13' o13 p13 v13 t13 m13 n13 c13 r13 z13)
  (q14:Q K "solved" ahx f14' o14 p14 v14 t14 m14 n14 c14 r14 z14)
  (q15:Q K "determinant" zj f15' o15 p15 v15 t15 m15 n15 c15 r15 z15)
  (q16:Q K "common_divisor" uq f16' o16 p16 v16 t16 m16 n16 c16 r16 z16)
  (q17:Q K "doors_square" xg f17' o17 p17 v17 t17 m17 n17 c17 r17 z17)
  (q18:Q K "refuse_no_state" qi f18' o18 p18 v18 t18 m18 n18 c18 r18 z18)
  (q19:Q K "leave" ali f19' o19 p19 v19 t19 m19 n19 c19 r19 z19)
  (q20:Q K "refuse_no_shut_state" jy f20' o20 p20 v20 t20 m20 n20 c20 r20 z20)
  (q21:Q K "gone_from" ab0 f21' o21 p21 v21 t21 m21 n21 c21 r21 z21)
  (q22:Q K "to_where_it_stays" lu f22' o22 p22 v22 t22 m22 n22 c22 r22 z22)
  (q23:Q K "turns_among" zg f23' o23 p23 v23 t23 m23 n23 c23 r23 z23)
  (q24:Q K "turns_of" ady f24' o24 p24 v24 t24 m24 n24 c24 r24 z24)
  (q25:Q K "_law_cell" ab4 f25' o25 p25 v25 t25 m25 n25 c25 r25 z25)
  (q26:Q K "_law_pen" ad1 f26' o26 p26 v26 t26 m26 n26 c26 r26 z26)
  (q27:Q K "_law_draw" ab3 f27' o27 p27 v27 t27 m27 n27 c27 r27 z27)
  (q28:Q K "_law_whole" aan f28' o28 p28 v28 t28 m28 n28 c28 r28 z28)
  (q29:Q K "_law_shut" ab1 f29' o29 p29 v29 t29 m29 n29 c29 r29 z29)
  (q30:Q K "_law_arrows" zm f30' o30 p30 v30 t30 m30 n30 c30 r30 z30)
  (q31:Q K "_law_left" ab2 f31' o31 p31 v31 t31 m31 n31 c31 r31 z31)
  (q32:Q K "_law_tuple" aao f32' o32 p32 v32 t32 m32 n32 c32 r32 z32)
  (q33:Q K "_law_round" aap f33' o33 p33 v33 t33 m33 n33 c33 r33 z33)
  (q34:Q K "_law_right" aaq f34' o34 p34 v34 t34 m34 n34 c34 r34 z34)
  (a35:nsIn K mainGlobals "law" = some (some (.ref f35'))) (l35:K.lookup f35'=some ⟨oc35,od35,.func (fnOf "law" "law" (jz ahy) (ig ahy) (aa ahy) .none kV35 dc35 pm35 an35 cd35 ct35),sl35⟩) (c35:codeIn K cd35 "law" = true) (k35:keepIn K (.ref f35')=true)
  (a36:findIn K (.ref B_Stroll) "__init__" = some (some (.ref f36'))) (l36:K.lookup f36'=some ⟨oc36,od36,.func (fnOf "__init__" "Stroll.__init__" (jz j7) (ig j7) (aa j7) .none kV36 dc36 pm36 an36 cd36 ct36),sl36⟩) (c36:codeIn K cd36 "Stroll.__init__" = true) (k36:keepIn K (.ref f36')=true) (e_F_Stroll_init:PySem.W.isFn K (.ref f36')=true)
  (a37:findIn K (.ref B_Stroll) "go_till_in" = some (some (.ref f37'))) (l37:K.lookup f37'=some ⟨oc37,od37,.func (fnOf "go_till_in" "Stroll.go_till_in" (jz gj) (ig gj) (aa gj) .none kV37 dc37 pm37 an37 cd37 ct37),sl37⟩) (c37:codeIn K cd37 "Stroll.go_till_in" = true) (k37:keepIn K (.ref f37')=true) (e_F_Stroll_go_till_in:PySem.W.isFn K (.ref f37')=true)
  (y_abs:nsIn K mainGlobals "abs" = some none)
  (y_all:nsIn K mainGlobals "all" = some none)
  (y_bool:nsIn K mainGlobals "bool" = some none)
  (y_divmod:nsIn K mainGlobals "divmod" = some none)
  (y_enumerate:nsIn K mainGlobals "enumerate" = some none)
  (y_int:nsIn K mainGlobals "int" = some none)
  (y_isinstance:nsIn K mainGlobals "isinstance" = some none)
  (y_len:nsIn K mainGlobals "len" = some none)
  (y_list:nsIn K mainGlobals "list" = some none)
  (y_max:nsIn K mainGlobals "max" = some none)
  (y_min:nsIn K mainGlobals "min" = some none)
  (y_range:nsIn K mainGlobals "range" = some none)
  (y_sorted:nsIn K mainGlobals "sorted" = some none)
  (y_tuple:nsIn K mainGlobals "tuple" = some none)
  (y_zip:nsIn K mainGlobals "zip" = some none)
  : ∃fd:FuncData,(∀(s:Shared) (v:Value),BindsTo s fd ⟨[v],[]⟩ [("script", v)])/\∀base:Heap,K.In base->base.Ns mainGlobals mg->FnOk l.prog w K mg base CX0 10 fa fd ["script"] (spOf K 1 asb):=by
 have e:=hfa.symm.trans (mg_of X G a35);cases e;have T:Txt K mg:=⟨mg_none_of X G y_abs,mg_none_of X G y_all,mg_none_of X G y_bool,mg_none_of X G y_divmod,mg_none_of X G y_enumerate,mg_none_of X G y_int,mg_none_of X G y_isinstance,mg_none_of X G y_len,mg_none_of X G y_list,mg_none_of X G y_max,mg_none_of X G y_min,mg_none_of X G y_range,mg_none_of X G y_sorted,mg_none_of X G y_tuple,mg_none_of X G y_zip,air aB_Stroll e_B_Stroll (by decide +kernel),air aB_Stroll e_B_Stroll (by decide +kernel),air aB_Stroll e_B_Stroll (by decide +kernel),air aB_Stroll e_B_Stroll (by decide +kernel)⟩
 have F35:=anx (st:=ahy) l35 c35 k35;have F36:=anx (st:=j7) l36 c36 k36;have b36:=F36.binds (ps:=["self","house","arrows","room"]) fun _ _ _ _ _ _ us hl=>by obtain⟨_,_,_,_,rfl⟩:=ln4 hl;rfl
 have F37:=anx (st:=gj) l37 c37 k37;have b37:=F37.binds (ps:=["self","rooms"]) fun _ _ _ _ _ _ us hl=>by obtain⟨_,_,rfl⟩:=ln2 hl;rfl
 refine⟨fnOf "law" "law" (jz ahy) (ig ahy) (aa ahy) .none kV35 dc35 pm35 an35 cd35 ct35,fun s v=>.of_eq rfl,fun base _ _ =>?_⟩
 have d0:Dd0 l.prog w K mg base:=⟨_,_,alu q0.F T,q0.E1 X G⟩;have d1:Dd1 l.prog w K mg base:=⟨_,_,acy q1.F T d0,q1.E3 X G⟩;have d2:Dd2 l.prog w K mg base:=⟨_,_,acz q2.F T,q2.E3 X G⟩;have d3:Dd3 l.prog w K mg base:=⟨_,_,ad4 q3.F T d1,q3.E2 X G⟩;have d4:Dd4 l.prog w K mg base:=⟨_,_,ad3 q4.F T d3,q4.E2 X G⟩;have d5:Dd5 l.prog w K mg base:=⟨_,_,ao4 q5.F T d4,q5.E2 X G⟩;have d6:Dd6 l.prog w K mg base:=⟨_,_,ao3 q6.F T,q6.E1 X G⟩;have d7:Dd7 l.prog w K mg base:=⟨_,_,acw q7.F T d6,q7.E1 X G⟩;have d8:Dd8 l.prog w K mg base:=⟨_,_,aji q8.F T d2 d1,q8.E2 X G⟩;have d9:Dd9 l.prog w K mg base:=⟨_,_,ab6 q9.F T d8,q9.E2 X G⟩;have d10:Dd10 l.prog w K mg base:=⟨_,_,au0 q10.F T,q10.E2 X G⟩;have d11:Dd11 l.prog w K mg base:=⟨_,_,als q11.F T,q11.E2 X G⟩;have d12:Dd12 l.prog w K mg base:=⟨_,_,ao2 q12.F T,q12.E3 X G⟩;have d13:Dd13 l.prog w K mg base:=⟨_,_,ao5 q13.F T,q13.E3 X G⟩;have d14:Dd14 l.prog w K mg base:=⟨_,_,aqy q14.F T d11 d12 d13,q14.E2 X G⟩;have d15:Dd15 l.prog w K mg base:=⟨_,_,agk q15.F T d14,q15.E1 X G⟩;have d16:Dd16 l.prog w K mg base:=⟨_,_,ad5 q16.F T,q16.E1 X G⟩;have d17:Dd17 l.prog w K mg base:=⟨_,_,afd q17.F T,q17.E1 X G⟩;have d18:Dd18 l.prog w K mg base:=⟨_,_,acx q18.F T d9 d4,q18.E3 X G⟩;have d19:Dd19 l.prog w K mg base:=⟨_,_,au1 q19.F T,q19.E3 X G⟩;have d20:Dd20 l.prog w K mg base:=⟨_,_,zr q20.F T d18 d7,q20.E3 X G⟩;have d21:Dd21 l.prog w K mg base:=⟨_,_,ajj q21.F T d5,q21.E2 X G⟩;have m_Stroll_go_till_in:DfnM l.prog w K mg base _ _ _ _ _:=azs aB_Stroll e_B_Stroll a37 e_F_Stroll_go_till_in k37 (abr (P:=l.prog) (w:=w) (base:=base) F37 T d19) b37;have n_Stroll:DfnI l.prog w K mg base _ _ _ (aou K _ _ abj):=azt aB_Stroll (mg_of X G aB_Stroll) e_B_Stroll a36 e_F_Stroll_init (agm (P:=l.prog) (w:=w) (base:=base) F36 T aB_Stroll) b36;have d22:Dfn l.prog w K mg base _ _ _ _:=⟨_,_,abq (P:=l.prog) (w:=w) (base:=base) q22.F T d21 m_Stroll_go_till_in n_Stroll,q22.E3 X G⟩;have d23:Dd23 l.prog w K mg base:=⟨_,_,agj q23.F T d17 d10 d15 d16,q23.E2 X G⟩;have d24:Dd24 l.prog w K mg base:=⟨_,_,alr q24.F T d20 d22 d5 d23,q24.E3 X G⟩;have d25:Dd25 l.prog w K mg base:=⟨_,_,ajn q25.F T,q25.E2 X G⟩;have d26:Dd26 l.prog w K mg base:=⟨_,_,alv q26.F T,q26.E1 X G⟩;have d27:Dd27 l.prog w K mg base:=⟨_,_,ajm q27.F T,q27.E2 X G⟩;have d28:Dd28 l.prog w K mg base:=⟨_,_,ah7 q28.F T,q28.E1 X G⟩;have d29:Dd29 l.prog w K mg base:=⟨_,_,ajk q29.F T d27,q29.E3 X G⟩;have d30:Dd30 l.prog w K mg base:=⟨_,_,agl q30.F T d27,q30.E2 X G⟩;have d31:Dd31 l.prog w K mg base:=⟨_,_,ajl q31.F T,q31.E3 X G⟩;have d32:Dd32 l.prog w K mg base:=⟨_,_,ah8 q32.F T d28,q32.E2 X G⟩;have d33:Dd33 l.prog w K mg base:=⟨_,_,ah9 q33.F T d31,q33.E3 X G⟩;have d34:Dd34 l.prog w K mg base:=⟨_,_,aia q34.F T d33 d24 d32,q34.E3 X G⟩;exact a1y F35 T d34 d25 d26 d27 d29 d30
end My
set_option genInjectivity false in
structure PySem.W.Fast where(tw16558266156421030400 tw3438040993407625985 tw16992649730486008770 tw14724235328018376356 tw2937531418331261892 tw13985481014667446310 tw7635172603241662566 tw326318725779541095 tw11420663394860401351 tw5214337563669925767 tw7508891046707353224 tw9540164994147973960 tw1100673479085850472 tw15380963633952770346 tw2448050272179173770 tw17638469790434729898 tw8607836324899636491 tw5611194890554670124 tw14782080408925364300 tw5298640555817009260 tw184614754723556652 tw15535903215891997837 tw80107634816581965 tw148178409149869421 tw14879038926422045326 tw14440119627156056143 tw8945038555069674959 tw16802315627929491600 tw16021769719724853456 tw16494903112032854576 tw9437269172921564720 tw12764911230753469681 tw12156961477420933042 tw3894159967237851412 tw16098774762802138964 tw9737730576257208212 tw15624688620985957141 tw8072416935846613238 tw6651314595344668151 tw5376276024500283159 tw4709468877240390682 tw2653969922385228666 tw4595442440341176347 tw14397922263352577723 tw6698502746102686364 tw10491827328609736605 tw8455834361933157102 tw10522724927782653106 tw5207816317343891465 tw8434049145585348756 tw37584814385271761 tw16539452408249371110 tw12860696116999571013 tw17985788452772330792 tw8630636558104860080 tw5749565805057750517 tw1864629896025588251 tw17185804025089055010 tw10703365643867171174 tw12461143034590660371 tw15921113797519962764 tw13688157950840163113 tw14118803745331053177 tw3857504799727199025 tw1616068354464713926 tw17335847696458842636 tw12698139964954139085 tw6815356104267725609 tw11390482110631735944 tw2885137806872092724 tw4334909622653672843 tw2749423640848136020 tw4802456083140784608 tw12081925932261238609 tw3047021930587704006 tw2803663551513311589 tw1686713240178856274 tw541973496515742314 tw15302724244221076147 tw13144416142705639294 tw8071018506285333905 tw3334036196502602353 tw17079970905793688573 tw15894387662482345233 tw3403810300631023011 tw8343178561698259162 tw7156802521719407048 tw6360370810256004343 tw15232071777099256754 tw16165301815652699316 tw127418535032271629 tw13065318185966131328 tw17756389076243816970 tw1695807273553253176 tw7188490238642532055 tw14499619014286611288 tw1835692156917125302 tw11074635144655725011 tw7854944721835907371 tw10853979322656823224 tw2864855819144971273 tw4951862538827643818 tw2841678093574148050 tw11479676147521789115 tw8602140003896177106 tw888254121448896062 tw5706790282660775416 tw9404449891684026428 tw6344283956800540439 tw13761473669500205964 tw5016899417650077558 tw14419526895724078903 tw16129790866851714003 tw9665075982852947356 tw9309065973575606911 tw15197931449685053948 tw1953991429875263627 tw12458837275949151587 tw2887548544901230743 tw855544821629788731 tw17182900301260748921 tw12494812569079626474 tw8192130369084537504 tw2108784052431928334 tw10214049729365637886 tw3223734055644671010 tw4953540517411158194 tw16032140261026812321 tw10456066336372675219 tw10762773926316318412 tw8083476486683417255:Unit)
open PySem PySem.W PyProof.Rows
set_option maxRecDepth 100000 in
set_option maxHeartbeats 0 in
theorem PySem.Challenge.cw_turnarrows_k26_turns_in_a_round_holds : PySem.Challenge.rw_turnarrows_k26_turns_in_a_round.Holds := by
 w_on;o_law;k_head;(case hw=>w_witness2)
 k_fill
 refine Dn.walk (l:=PySem.Challenge.rw_turnarrows_k26_turns_in_a_round) (f:=My.asb) (k:=10) My.avh rfl rfl ⟨rfl,by decide,by decide,rfl⟩ (fun w h Y=>PySem.W.kIn_of Y) ?F
 case F =>
  intro w mg fa h KX G hmg;refine' My.a4j KX G hmg ?_ ?_ ?_ ?_ ?_ ?_ ?_ ?_ ?_ ?_ ?_ ?_ ?_ ?_ ?_ ?_ ?_ ?_ ?_ ?_ ?_ ?_ ?_ ?_ ?_ ?_ ?_ ?_ ?_ ?_ ?_ ?_ ?_ ?_ ?_ ?_ ?_ ?_ ?_ ?_ ?_ ?_ ?_ ?_ ?_ ?_ ?_ ?_ ?_ ?_ ?_ ?_ ?_ ?_ ?_ ?_ ?_ ?_ ?_ ?_ ?_ ?_ ?_ ?_ ?_ ?_
  all_goals try refine' And.intro ?_ (And.intro ?_ (And.intro ?_ ?_))
  any_goals k_is
  all_goals kernel_rfl
