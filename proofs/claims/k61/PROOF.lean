import PyProof.Rows.All
import Wide.All
import OpenK.AllK
import Wide.FinOn
import Lean
import PyProof.EqAt
import PyProof.EqKinds
import PyProof.TupleCall
import PySem.Challenge.RW_turnarrows_k61_least_rows_and_kinds
set_option Elab.async false
set_option linter.all false
set_option maxRecDepth 100000
noncomputable section
open PySem.W (nsIn mg_of keepIn fnOf codeIn findIn mg_none_of)
abbrev Fg9:=PySem.W.Frag
abbrev LL9:=List (List Int)
section
open PySem PySem.Spec PyProof.Rows
namespace L2
abbrev Key:=Sum Int Str
def a0t:Key->Value->Bool
 | .inl k,v=>Value.isInt k v
 | .inr x,v=>Value.isStrOf x v
def keyH(w:World):Key->Int
 | .inl k=>hashInt k
 | .inr x=>hashStr w x
theorem km:∀{k:Key} {v:Value},a0t k v=true->(∃i t,k=Sum.inl i/\v=Value.int i t)∨(∃x t,k=Sum.inr x/\v=Value.str x t)
 | .inl i,v,h=>by
  obtain⟨t,e⟩:=Value.isInt_shape (k:=i) (v:=v) h;exact .inl ⟨i,t,rfl,e⟩
 | .inr x,v,h=>by
  obtain⟨t,e⟩:=Value.isStrOf_shape (x:=x) (v:=v) h;exact .inr ⟨x,t,rfl,e⟩
theorem a0s(a b:Int):decide ((Sum.inl a:Key)=Sum.inl b)=(a==b):=by
 by_cases e:a=b
 ·subst e;simp
 ·have h:¬(Sum.inl a:Key)=Sum.inl b:=fun q=>e (Sum.inl.inj q)
  rw[decide_eq_false h];exact(beq_eq_false_iff_ne.mpr e).symm
theorem a0p(a b:Str):decide ((Sum.inr a:Key)=Sum.inr b)=decide (a=b):=by
 by_cases e:a=b
 ·subst e;simp
 ·have h:¬(Sum.inr a:Key)=Sum.inr b:=fun q=>e (Sum.inr.inj q)
  rw[decide_eq_false h,decide_eq_false e]
theorem a0r(a:Int)(b:Str):decide ((Sum.inl a:Key)=Sum.inr b)=false:=decide_eq_false (fun q=>nomatch q)
theorem a0q(a:Str)(b:Int):decide ((Sum.inr a:Key)=Sum.inl b)=false:=decide_eq_false (fun q=>nomatch q)
def ap5(prog:Program)(w:World):PySem.KeyKind prog w Key where
 is:=a0t
 hash:=keyH w
 inj:=fun v a b ha hb=>by
  rcases km ha with⟨i,t,rfl,rfl⟩ | ⟨x,t,rfl,rfl⟩
  ·rcases km hb with⟨j,u,rfl,e⟩ | ⟨y,u,rfl,e⟩
   ·injection e with e1 _;rw[e1]
   ·exact nomatch e
  ·rcases km hb with⟨j,u,rfl,e⟩ | ⟨y,u,rfl,e⟩
   ·exact nomatch e
   ·injection e with e1 _;rw[e1]
 byValue:=fun k v h=>by
  rcases km h with⟨i,t,rfl,rfl⟩ | ⟨x,t,rfl,rfl⟩ <;> rfl
 pyHash:=fun hv h=>by
  rcases km hv with⟨i,t,rfl,rfl⟩ | ⟨x,t,rfl,rfl⟩
  ·exact wpAny_pyHash_int h
  ·exact wpAny_pyHash_str h
 eqBool:=fun hu hv h=>by
  rcases km hu with⟨i,t,rfl,rfl⟩ | ⟨x,t,rfl,rfl⟩
  ·rcases km hv with⟨j,u,rfl,rfl⟩ | ⟨y,u,rfl,rfl⟩
   ·rw[a0s] at h;exact wpAny_eqBool_int h
   ·rw[a0r] at h;exact SeqAt.EqAt.int_str i t y u _ _ _ _ h
  ·rcases km hv with⟨j,u,rfl,rfl⟩ | ⟨y,u,rfl,rfl⟩
   ·rw[a0q] at h;exact SeqAt.EqAt.str_int x t j u _ _ _ _ h
   ·rw[a0p] at h;exact wpAny_eqBool_str h
 «strs» := fun k x t v h=>by
  rcases km h with⟨i,u,rfl,e⟩ | ⟨y,u,rfl,e⟩
  ·exact nomatch e
  ·injection e with e1 _
   subst e1;cases v <;> rfl
def IsTp(h:Heap)(a:Addr)(items:Array Value):Prop:=∃o,h.get? a=some o/\o.cls=.type "tuple" /\ o.dict=none/\∃n,o.data=.seq items n
theorem IsTp.tup{h:Heap}{a:Addr}{items:Array Value}(x:IsTp h a items):IsTup h a items:=let ⟨o,e,c,_,n,d⟩:=x;⟨o,e,c,n,d⟩
theorem IsTp.new(h:Heap)(items:Array Value):IsTp (h.push { cls:=.type "tuple", data:=.seq items }) h.objs.size items:=⟨_,Heap.get?_push_size _ rfl,rfl,rfl,_,rfl⟩
inductive V where
 | non | bl (b:Bool) | int (i:Int) | str (x:Str) | byt (b:Array UInt8) | flt (b:UInt64) | ref (a:Addr) | ty (n:String)
 deriving DecidableEq
def RelV:V->Value->Prop
 | .non,u=>u=Value.none
 | .bl b,u=>u=Value.bool b
 | .int i,u=>∃t,u=Value.int i t
 | .str x,u=>∃t,u=Value.str x t
 | .byt b,u=>∃t,u=Value.bytes b t
 | .flt b,u=>∃t,u=Value.float b t
 | .ref a,u=>u=Value.ref a
 | .ty n,u=>u=Value.type n
abbrev Vals:List V->List Value->Prop:=Paired RelV
theorem Vals.length{xs:List V}{us:List Value}(r:Vals xs us):xs.length=us.length:=Paired.length r
theorem Vals.get:∀{xs:List V} {us:List Value} {i:Nat} {x:V},Vals xs us->xs[i]? = some x->∃u,us[i]? = some u/\RelV x u
 | _,_,_,_,.nil,e=>by simp at e
 | _,_,0,_,.cons r _,e=>by simp at e;subst e;exact⟨_,rfl,r⟩
 | _,_,i+1,x,.cons _ t,e=>by
  obtain⟨u,h1,h2⟩:=Vals.get (i:=i) (x:=x) t (by simpa using e)
  exact⟨u,by simpa using h1,h2⟩
theorem Vals.set{x:V}{u:Value}(r:RelV x u):∀{xs:List V} {us:List Value} (i:Nat),Vals xs us->Vals (xs.set i x) (us.set i u)
 | _,_,_,.nil=>.nil
 | _,_,0,.cons _ t=>.cons r t
 | _,_,i+1,.cons q t=>.cons q (Vals.set r i t)
theorem Vals.append:∀{xs ys:List V} {us ws:List Value},Vals xs us->Vals ys ws->Vals (xs++ys) (us++ws)
 | _,_,_,_,.nil,s=>s
 | _,_,_,_,.cons r t,s=>.cons r (Vals.append t s)
theorem Vals.take:∀{xs:List V} {us:List Value} (n:Nat),Vals xs us->Vals (xs.take n) (us.take n)
 | _,_,0,_=>.nil
 | _,_,_+1,.nil=>.nil
 | _,_,n+1,.cons r t=>.cons r (Vals.take n t)
theorem Vals.drop:∀{xs:List V} {us:List Value} (n:Nat),Vals xs us->Vals (xs.drop n) (us.drop n)
 | _,_,0,r=>r
 | _,_,_+1,.nil=>.nil
 | _,_,n+1,.cons _ t=>Vals.drop n t
def RelO:Option V->Option Value->Prop
 | some v,some u=>RelV v u
 | none,none=>True
 | _,_=>False
def KV{κ:Type}:List (κ×V)->List (κ×Value)->Prop:=Paired fun(p:κ×V) (q:κ×Value)=>p.1=q.1/\RelV p.2 q.2
def kV:Key->V
 | .inl i=>.int i
 | .inr x=>.str x
inductive HO where
 | lst (xs:List V)
 | tup (xs:List V)
 | dK (kvs:List (Key×V)) | dT (kvs:List (List Key×V))
 | set (S:Int->Bool) (n:Nat)
 | ins (C dx:Addr) (fs:List (Str×V))
 | own (x:Addr)
 | xd (fs:List (Str×V))
 | met (f x:Addr)
 | rng (lo hi:Int)
 | frz (o:Obj) (u:HO)
 | tbl (ps:Array Value)
 | ext (φ:Heap->Prop)
abbrev Hp:=Addr->Option HO
def upd(H:Hp)(a:Addr)(o:HO):Hp:=fun b=>if b=a then some o else H b
theorem jh{H:Hp}{a:Addr}{o:HO}:upd H a o a=some o:=by unfold upd;rw[if_pos rfl]
theorem dw{H:Hp}{a b:Addr}{o:HO}(h:b≠a):upd H a o b=H b:=by unfold upd;rw[if_neg h]
theorem f9{H:Hp}{a b:Addr}{o:HO}(h:H a=some o)(h':H b=none):a≠b:=by
 intro e;subst e;rw[h] at h';cases h'
abbrev LamN:Str := "folded"
abbrev LamQ:Str := "folded.<locals>.<lambda>"
def aym(oc:Obj):Prop:=∃vs t,oc.data=.fields vs/\vs[1]? = some (.str LamQ t)
def TabO(H:Hp)(h:Heap)(a:Addr):Prop:=∃qs:Array Value,h.get? a=some { cls:=.none,data:=.fields qs }/\TriplesOk qs.toList/\∀pos cv,codeAmong pos qs.toList=some cv->∃c oc,cv=.ref c/\H c=some (.frz oc (.own a))/\aym oc
section
variable(P:Program)(w:World)
def zg(H:Hp)(h:Heap)(a:Addr):HO->Prop
 | .lst xs=>xs.length<=sizeLine/\∃(its:List Value) (n:Nat),Vals xs its/\h.get? a=some { cls:=.type "list", data:=.seq its.toArray n }
 | .tup xs=>xs.length<=sizeLine/\∃its:List Value,Vals xs its/\IsTp h a its.toArray
 | .dK kvs=>kvs.length<=sizeLine/\(a==sysModules)=false/\∃vs,KV kvs vs/\h.DictOf (ap5 P w) a vs
 | .dT kvs=>kvs.length<=sizeLine/\(a==sysModules)=false/\∃xs:List (List Key×Addr×Value),
   Paired (fun(p:List Key×V) (q:List Key×Addr×Value)=>p.1=q.1/\H q.2.1=some (.tup (p.1.map kV))/\RelV p.2 q.2.2) kvs xs /\
   ∃o es ep,h.get? a=some o/\o.ExactDict/\o.data=.dict es ep/\es.toList=xs.map (entryOfKey (tupleKind (ap5 P w)))/\(xs.map (·.1)).Nodup
 | .set S n=>h.SetOf (intKind P w) a S n
 | .ins C dx fs=>H dx=some (.own a)/\fs.length<=1000/\dx≠a/\h.get? a=some (PySem.W.instObj C dx) /\
   ∃mA,h.Ns1 dx mA/\(∀f,RelO (fs.lookup f) (mA f))/\PySem.Within mA (fs.map (·.1))
 | .own _=>∃o,h.get? a=some o
 | .xd fs=>∃mA,h.Ns1 a mA/\∀f,RelO (fs.lookup f) (mA f)
 | .rng lo hi=>∃t u v,h.get? a=some { cls:=.type "range", data:=.fields #[.int lo t,.int hi u,.int 1 v] }
 | .frz o u=>h.get? a=some o/\zg H h a u
 | .tbl _=>TabO H h a
 | .met f x=>h.get? a=some (PySem.W.methodObj (.ref f) (.ref x))
 | .ext φ=>φ h/\(∃o,h.get? a=some o)/\∀h1 h2:Heap,φ h1->(∀o,h1.get? a=some o->h2.get? a=some o)->φ h2
def HOk(H:Hp)(h:Heap):Prop:=∀a o,H a=some o->zg P w H h a o
end
section
variable{P:Program}{w:World}{H H':Hp}{h h':Heap}{a:Addr}{o:HO}
theorem zg.lt(x:zg P w H h a o):a < h.objs.size:=by
 cases o with
 | lst xs=>obtain⟨_,_,_,_,e⟩:=x;exact Heap.lt_size e
 | tup xs=>obtain⟨_,_,_,p⟩:=x;exact p.tup.lt
 | dK kvs=>obtain⟨_,_,_,_,o,_,_,e,_⟩:=x;exact Heap.lt_size e
 | dT kvs=>obtain⟨_,_,_,_,o,_,_,e,_⟩:=x;exact Heap.lt_size e
 | set S n=>obtain⟨o,_,_,_,e,_⟩:=x;exact Heap.lt_size e
 | ins C dx fs=>obtain⟨_,_,_,e,_⟩:=x;exact Heap.lt_size e
 | own y=>obtain⟨_,e⟩:=x;exact Heap.lt_size e
 | xd fs=>obtain⟨_,⟨_,_,_,e,_⟩,_⟩:=x;exact Heap.lt_size e
 | rng lo hi=>obtain⟨_,_,_,e⟩:=x;exact Heap.lt_size e
 | frz ob u=>obtain⟨e,_⟩:=x;exact Heap.lt_size e
 | tbl ps=>obtain⟨_,e,_⟩:=x;exact Heap.lt_size e
 | met f y=>exact Heap.lt_size (show h.get? a=some _ from x)
 | ext φ=>obtain⟨_,⟨_,e⟩,_⟩:=x;exact Heap.lt_size e
theorem Paired.mapP{α β:Type}{F G:α->β->Prop}:∀{l₁:List α} {l₂:List β},Paired F l₁ l₂->(∀a b,F a b->G a b)->Paired G l₁ l₂
 | _,_,.nil,_=>.nil
 | _,_,.cons r t,f=>.cons (f _ _ r) (Paired.mapP t f)
theorem zg.stay(x:zg P w H h a o)(k:∀b u,(b=a∨H b=some (.own a))->h.get? b=some u->h'.get? b=some u)
  (ho:∀b,H b=some (.own a)->H' b=some (.own a)) (ht:∀b xs,H b=some (.tup xs)->H' b=some (.tup xs)) (hz:∀b o u,H b=some (.frz o u)->H' b=some (.frz o u):=by exact fun _ _ _ q=>q):zg P w H' h' a o:=by
 induction o with
 | lst xs=>obtain⟨z,its,n,r,e⟩:=x;exact⟨z,its,n,r,k _ _ (.inl rfl) e⟩
 | tup xs=>obtain⟨z,its,r,ob,e,c⟩:=x;exact⟨z,its,r,ob,k _ _ (.inl rfl) e,c⟩
 | dK kvs=>obtain⟨z,y,vs,r,ob,es,ep,e,c⟩:=x;exact⟨z,y,vs,r,ob,es,ep,k _ _ (.inl rfl) e,c⟩
 | dT kvs =>
  obtain⟨z,y,xs,r,ob,es,ep,e,c⟩:=x;exact⟨z,y,xs,Paired.mapP r fun p q z=>⟨z.1,ht _ _ z.2.1,z.2.2⟩,ob,es,ep,k _ _ (.inl rfl) e,c⟩
 | set S n=>obtain⟨ob,es,ep,t,e,c⟩:=x;exact⟨ob,es,ep,t,k _ _ (.inl rfl) e,c⟩
 | ins C dx fs =>
  obtain⟨d,z,ne,e,mA,⟨od,es,ep,e2,c⟩,r⟩:=x;exact⟨ho _ d,z,ne,k _ _ (.inl rfl) e,mA,⟨od,es,ep,k _ _ (.inr d) e2,c⟩,r⟩
 | own y=>obtain⟨ob,e⟩:=x;exact⟨ob,k _ _ (.inl rfl) e⟩
 | xd fs=>obtain⟨mA,⟨od,es,ep,e,c⟩,r⟩:=x;exact⟨mA,⟨od,es,ep,k _ _ (.inl rfl) e,c⟩,r⟩
 | rng lo hi=>obtain⟨t,u,v,e⟩:=x;exact⟨t,u,v,k _ _ (.inl rfl) e⟩
 | frz ob u ih=>obtain⟨e,q⟩:=x;exact⟨k _ _ (.inl rfl) e,ih q⟩
 | tbl ps =>
  obtain⟨qs,e,tr,f⟩:=x;refine⟨qs,k _ _ (.inl rfl) e,tr,fun p cv q =>?_⟩
  obtain⟨c,oc,r,hc,rc⟩:=f p cv q;exact⟨c,oc,r,hz _ _ _ hc,rc⟩
 | met f y =>
  have e:h.get? a=some (PySem.W.methodObj (.ref f) (.ref y)):=x;show h'.get? a=some (PySem.W.methodObj (.ref f) (.ref y));exact k a _ (.inl rfl) e
 | ext φ=>obtain⟨p,⟨o,e⟩,st⟩:=x;exact⟨st _ _ p fun o q=>k _ _ (.inl rfl) q,⟨o,k _ _ (.inl rfl) e⟩,st⟩
theorem HOk.lt(x:HOk P w H h)(e:H a=some o):a < h.objs.size:=(x a o e).lt
theorem HOk.fresh(x:HOk P w H h)(e:h.objs.size<=a):H a=none:=by
 cases q:H a with
 | none=>rfl
 | some u=>exact absurd (Nat.lt_of_lt_of_le (x.lt q) e) (Nat.lt_irrefl _)
theorem HOk.kept(x:HOk P w H h)(k:∀b u,h.get? b=some u->h'.get? b=some u):HOk P w H h':=fun a o e =>
 (x a o e).stay (fun b u _ q=>k b u q) (fun _ q=>q) fun _ _ q=>q
theorem HOk.laid(x:HOk P w H h)(k:∀b u,h.get? b=some u->h'.get? b=some u)(hp:h.objs.size<=a)(new:zg P w (upd H a o) h' a o):HOk P w (upd H a o) h':=fun b u e=>by
 have hn:=x.fresh hp
 by_cases hb:b=a
 ·subst hb;rw[jh] at e;cases e;exact new
 ·rw[dw hb] at e;exact(x b u e).stay (fun c v _ q=>k c v q) (fun c q=>by rw[dw (f9 q hn)];exact q) (fun c xs q=>by rw[dw (f9 q hn)];exact q) fun c _ _ q=>by rw[dw (f9 q hn)];exact q
end
def Rd(H:Hp)(a:Addr)(u:HO):Prop:=H a=some u∨∃o,H a=some (.frz o u)
theorem Rd.ok{P:Program}{w:World}{H:Hp}{h:Heap}{a:Addr}{u:HO}(r:Rd H a u)(x:HOk P w H h):zg P w H h a u:=by
 rcases r with r | ⟨o,r⟩
 ·exact x a u r
 ·obtain⟨_,q⟩:=x a _ r;exact q
def Mut:Option HO->Prop
 | some (.lst _)=>True
 | some (.dK _)=>True
 | some (.dT _)=>True
 | some (.set _ _)=>True
 | some (.ins _ _ _)=>True
 | some (.ext _)=>True
 | _=>False
section
variable{P:Program}{w:World}{H:Hp}{h h':Heap}{x e:Addr}{o':HO}
theorem HOk.write(ok:HOk P w H h)(mu:Mut (H x))(he:e=x∨H e=some (.own x))(k:∀b u,b≠e->h.get? b=some u->h'.get? b=some u)(heo:∃u,h'.get? e=some u)
  (new:zg P w (upd H x o') h' x o'):HOk P w (upd H x o') h':=fun b u q=>by
 have nown:∀c y,H c=some (.own y)->c≠x:=fun c y r z=>by subst z;rw[r] at mu;exact mu
 have ntup:∀c xs,H c=some (.tup xs)->c≠x:=fun c xs r z=>by subst z;rw[r] at mu;exact mu
 have nfrz:∀c o u,H c=some (.frz o u)->c≠x:=fun c o u r z=>by subst z;rw[r] at mu;exact mu
 by_cases hb:b=x
 ·subst hb;rw[jh] at q;cases q;exact new
 ·rw[dw hb] at q
  by_cases hbe:b=e
  ·have q':H b=some (.own x):=by
    rcases he with z | z
    ·exact absurd (hbe.trans z) hb
    ·rw[hbe];exact z
   rw[q] at q';cases q';obtain⟨v,hv⟩:=heo;exact⟨v,by rw[hbe];exact hv⟩
  ·refine(ok b u q).stay (fun c v hc r=>k c v ?_ r) (fun c r=>by rw[dw (nown c b r)];exact r) (fun c xs r=>by rw[dw (ntup c xs r)];exact r) fun c o u r=>by rw[dw (nfrz c o u r)];exact r
   rcases hc with rfl | hc
   ·exact hbe
   ·rintro rfl
    rcases he with z | z
    ·exact nown c b hc z
    ·rw[hc] at z;cases z;exact hb rfl
end
structure Un (fs ex:List Addr) (H H':Hp) (h h':Heap):Prop where
 keep:∀b o,h.get? b=some o->H b=none->b∉fs->b∉ex->h'.get? b=some o
 slot:∀b o,h.get? b=some o->H b=none->b∈fs->b∉ex->∃sl,h'.get? b=some { o with slots:=sl }
 free:∀b o,h.get? b=some o->H b=none->b∉ex->H' b=none
 there:∀b o,h.get? b=some o->b∉ex->∃o',h'.get? b=some o'
 tups:∀b xs,H b=some (.tup xs)->H' b=some (.tup xs)
 frzs:∀b o u,H b=some (.frz o u)->H' b=some (.frz o u)
 tbls:∀b ps,H b=some (.tbl ps)->∃more,H' b=some (.tbl (ps++more))
section
variable{fs fs' ex ex':List Addr}{H H1 H2:Hp}{h h1 h2 h':Heap}{a x e:Addr}{o:HO}
theorem Un.any(u:Un fs ex H H1 h h1){b:Addr}{ob:Obj}(q:h.get? b=some ob)(n:H b=none)(hx:b∉ex):∃sl,h1.get? b=some { ob with slots:=sl }:=by
 by_cases hb:b∈fs
 ·exact u.slot b ob q n hb hx
 ·exact⟨ob.slots,u.keep b ob q n hb hx⟩
theorem Un.kept(k:∀b u,h.get? b=some u->h'.get? b=some u):Un fs ex H H h h' :=
 ⟨fun b ob q _ _ _=>k b ob q,fun b ob q _ _ _=>⟨ob.slots,k b ob q⟩,fun _ _ _ n _=>n,fun b ob q _=>⟨ob,k b ob q⟩,fun _ _ q=>q,fun _ _ _ q=>q,fun _ ps q=>⟨#[],by rw[q];simp⟩⟩
theorem Un.refl:Un fs ex H H h h:=Un.kept fun _ _ q=>q
theorem Un.laid(k:∀b u,h.get? b=some u->h'.get? b=some u)(hp:h.objs.size<=a)(hn:H a=none):Un fs ex H (upd H a o) h h' where
 keep:=fun b u q _ _ _=>k b u q
 slot:=fun b u q _ _ _=>⟨u.slots,k b u q⟩
 free:=fun b u q n _=>by rw[dw (Nat.ne_of_lt (Nat.lt_of_lt_of_le (Heap.lt_size q) hp))];exact n
 there:=fun b u q _=>⟨u,k b u q⟩
 tups:=fun b xs q=>by rw[dw (f9 q hn)];exact q
 frzs:=fun b u xs q=>by rw[dw (f9 q hn)];exact q
 tbls:=fun b ps q=>⟨#[],by rw[dw (f9 q hn),q];simp⟩
theorem Un.write(mu:Mut (H x))(he:e=x∨H e=some (.own x))(k:∀b u,b≠e->h.get? b=some u->h'.get? b=some u)(heo:∃u,h'.get? e=some u):Un fs ex H (upd H x o) h h':=by
 have hx:∀b,H b=none->b≠x:=fun b n z=>by subst z;rw[n] at mu;exact mu
 have hb:∀b,H b=none->b≠e:=fun b n z=>by
  subst z;rcases he with r | r
  ·exact hx b n r
  ·rw[n] at r;cases r
 have hm:∀b u,H b=some u->¬Mut (some u)->b≠x:=fun b u q nm z=>by subst z;rw[q] at mu;exact nm mu
 refine⟨fun b u q n _ _=>k b u (hb b n) q,fun b u q n _ _=>⟨u.slots,k b u (hb b n) q⟩,fun b u q n _=>by rw[dw (hx b n)];exact n,fun b u q _ =>?_,
  fun b xs q=>by rw[dw (hm b _ q fun z=>z)];exact q,fun b u xs q=>by rw[dw (hm b _ q fun z=>z)];exact q,fun b ps q=>⟨#[],by rw[dw (hm b _ q fun z=>z),q];simp⟩⟩
 by_cases hbe:b=e
 ·subst hbe;exact heo
 ·exact⟨u,k b u hbe q⟩
end
def trk(h:Heap)(H:Hp):List Addr:=(List.range h.objs.size).filter fun a=>(H a).isSome
def hidT(h:Heap)(H:Hp):Heap:=PySem.W.hideAll h (trk h H)
theorem aqo(h:Heap)(H:Hp):(hidT h H).objs.size=h.objs.size:=PySem.W.hideAll_size _ _
theorem auc{h:Heap}{H:Hp}{b:Addr}{o:Obj}(e:h.get? b=some o)(n:H b=none):(hidT h H).get? b=some o :=
 PySem.W.hideAll_get _ e fun hm=>by
  have q:(H b).isSome=true:=(List.mem_filter.mp hm).2;rw[n] at q;simp at q
theorem axd{h:Heap}{H:Hp}{b:Addr}{o:Obj}(e:(hidT h H).get? b=some o):h.get? b=some o/\H b=none:=by
 have e':h.get? b=some o:=PySem.W.of_hideAll (trk h H) e;refine⟨e',?_⟩;cases q:H b with
 | none=>rfl
 | some x =>
  have hm:b∈trk h H:=List.mem_filter.mpr ⟨List.mem_range.mpr (Heap.lt_size e'),by simp[q]⟩
  have z:(hidT h H).get? b=none:=PySem.W.hideAll_none (trk h H) hm;rw[z] at e;cases e
def ayg(g h:Heap)(L:Addr):List (Addr×Obj):=(List.range h.objs.size).filterMap fun a=>if a=L∨(g.get? a).isSome=true then none else (h.get? a).map fun o=>(a,o)
def rest(g h:Heap)(L d:Addr):List (Addr×Obj):=(ayg g h L).filter fun p=>decide (p.1≠d)
structure Mod (K:Fg9) (mg:Str->Option Value) (base:Heap):Prop where
 kin:K.In base
 glob:base.Ns mainGlobals mg
 blt:∃mb,base.Ns builtinsNs mb/\∀x:Str,x ≠ "__name__" -> mb x=bootBuiltins x
 nolimit:base.NoLimit
structure Tb (K:Fg9) (mg:Str->Option Value) (base:Heap) (H:Hp):Prop where
 tb:∀c P,PySem.W.tabIn K LamN=some (c,P)->PySem.W.CodeHd base c P/\∃ps,H P=some (.tbl ps)
 bm:∃bm o,mg "__builtins__" = some (.ref bm)/\bm≠builtinsNs/\base.get? bm=some o/\o.cls=.type "module" /\ o.dict=some builtinsNs/\o.data=.plain
structure Cx where
 prog:Program
 w:World
 K:Fg9
 mg:Str->Option Value
 base:Heap
 A:Around
 N:List Str
 s₀:Shared
 H₀:Hp
 env:Env
 outer:List Env
 stack:List Env
 ex:List Addr
 fn:Str->Bool
 calm:Bool
 pn:List (Addr×Obj)
 xe:Value->Shared->Prop
def frs(l:List Env):List Addr:=l.filterMap (·.frame)
abbrev Cx.fs(X:Cx):List Addr:=frs X.outer
def Vis(sc:Scope)(x:Str):Prop:=sc.names.lookup x=some .local∨sc.names.lookup x=some .cell∨sc.names.lookup x=some .free
def Loc(sc:Scope)(x:Str):Prop:=sc.names.lookup x=some .local∨sc.names.lookup x=some .cell
def Look(env:Env)(h:Heap)(m:Str->Option Value)(x:Str)(u:Value):Prop :=
 (env.kindOf x=some .local/\m x=some u)∨((env.kindOf x=some .cell∨env.kindOf x=some .free)/\∃c,env.cells.lookup x=some c/\h.IsCell c (some u))
structure Cx.Ok (X:Cx):Prop where
 mod:Mod X.K X.mg X.base
 kind:X.env.scope.kind=.function
 glob:X.env.globals=mainGlobals
 blt:X.env.builtins=builtinsNs
 above:X.s₀.heap.objs.size<=X.env.locals
 inj:∀x y c,X.env.cells.lookup x=some c->X.env.cells.lookup y=some c->x=y
 has:∀x,(X.env.kindOf x=some .cell∨X.env.kindOf x=some .free)->∃c,X.env.cells.lookup x=some c
 cab:∀x c,X.fn x=true->X.env.cells.lookup x=some c->X.s₀.heap.objs.size<=c
 hd:X.calm=true->X.A.handled=none
 frames:X.A.frames=some X.stack
 stk:X.stack=X.outer∨(X.stack=X.env::X.outer/\X.env.frame=some X.env.locals)
 exf:∀b∈X.ex,b≠X.env.locals/\∀x c,X.env.cells.lookup x=some c->c≠b
 bs:∀b o,X.base.get? b=some o->X.s₀.heap.get? b=some o/\X.H₀ b=none
 bsz:X.base.objs.size<=X.s₀.heap.objs.size
 noex:∀b o,X.base.get? b=some o->b∉X.ex
 exfs:∀b∈X.ex,b∉X.fs
 funs:X.s₀.heap.FunFrames X.base X.outer
 frf:∀b∈X.fs,X.H₀ b=none
 tb:Tb X.K X.mg X.base X.H₀
structure Inv (X:Cx) (zv:List (Addr×Obj)) (σ:List (Option V)) (H:Hp) (s:Shared):Prop where
 ok:X.Ok
 os:s.os=X.s₀.os
 bare:AllBare s.gens
 base:Un X.fs X.ex X.H₀ H X.s₀.heap s.heap
 loc:∃m,s.heap.Ns X.env.locals m/\∀(i:Nat) (x:Str) (v:V),X.N[i]? = some x->σ[i]? = some (some v)->Vis X.env.scope x->∃u,RelV v u/\Look X.env s.heap m x u
 cell:∀x c,X.env.cells.lookup x=some c->∃v,s.heap.IsCell c v
 free:H X.env.locals=none
 freeC:∀x c,X.env.cells.lookup x=some c->H c=none
 pin:∀p∈X.pn++zv,s.heap.get? p.1=some p.2/\H p.1=none/\p.1≠X.env.locals/\p.1∉X.fs/\∀v,p.2.data≠.cell v
 hok:HOk X.prog X.w H s.heap
 len:σ.length=X.N.length
section
variable{X:Cx}{zv:List (Addr×Obj)}{σ:List (Option V)}{H H':Hp}{s:Shared}{h':Heap}
theorem Cx.Ok.nofr(ok:X.Ok){b:Addr}{o:Obj}(e:X.base.get? b=some o):b∉X.fs:=fun hb=>by
 have:=(ok.funs.mem hb).1;rw[e] at this;cases this
theorem Inv.bs(I:Inv X zv σ H s):∀b o,X.base.get? b=some o->s.heap.get? b=some o/\H b=none:=fun b o e =>
 ⟨I.base.keep b o (I.ok.bs b o e).1 (I.ok.bs b o e).2 (I.ok.nofr e) (I.ok.noex b o e),I.base.free b o (I.ok.bs b o e).1 (I.ok.bs b o e).2 (I.ok.noex b o e)⟩
theorem Inv.bk(I:Inv X zv σ H s):∀b o,X.base.get? b=some o->s.heap.get? b=some o:=fun b o e=>(I.bs b o e).1
theorem Inv.mod(I:Inv X zv σ H s):Mod X.K X.mg X.base:=I.ok.mod
theorem Inv.kIn(I:Inv X zv σ H s):X.K.In s.heap:=I.ok.mod.kin.keeps I.bk
theorem Inv.nolimit(I:Inv X zv σ H s):s.heap.NoLimit:=I.ok.mod.nolimit.keeps I.bk
theorem Inv.lt(I:Inv X zv σ H s):X.env.locals < s.heap.objs.size:=let ⟨_,hn,_⟩:=I.loc;hn.lt
theorem Inv.sz(I:Inv X zv σ H s):X.s₀.heap.objs.size<=s.heap.objs.size:=Nat.le_trans I.ok.above (Nat.le_of_lt I.lt)
theorem Inv.nofs(I:Inv X zv σ H s){a:Addr}(h:s.heap.objs.size<=a):a∉X.fs:=fun hb=>by
 obtain⟨_,o,ho,_⟩:=I.ok.funs.mem hb;exact absurd (Nat.lt_of_lt_of_le (Heap.lt_size ho) (Nat.le_trans I.sz h)) (Nat.lt_irrefl _)
theorem Inv.cne(I:Inv X zv σ H s):∀x c,X.env.cells.lookup x=some c->c≠X.env.locals:=fun x c e z=>by
 obtain⟨v,o,ho,hd⟩:=I.cell x c e;obtain⟨m,⟨o',es,ep,ho',hd',_⟩,_⟩:=I.loc;rw[z,ho'] at ho;cases ho;rw[hd'] at hd;cases hd
theorem Inv.funs(I:Inv X zv σ H s):s.heap.FunFrames X.base X.outer:=by
 have all:∀(l:List Env),(∀b∈frs l,b∈X.fs)->X.s₀.heap.FunFrames X.base l->s.heap.FunFrames X.base l:=by
  intro l
  induction l with
  | nil=>intro _ _;trivial
  | cons env r ih =>
   intro hs hl;obtain⟨hk,⟨L,o,hf,hn,ho,hd⟩,hr⟩:=hl;have hL:L∈X.fs:=hs L (by unfold frs;rw[List.filterMap_cons,hf];exact List.mem_cons_self)
   obtain⟨sl,e⟩:=I.base.slot L o ho (I.ok.frf L hL) hL fun z=>I.ok.exfs L z hL
   exact⟨hk,⟨L,_,hf,hn,e,hd⟩,ih (fun b hb=>hs b (by unfold frs;rw[List.filterMap_cons,hf];exact List.mem_cons_of_mem _ hb)) hr⟩
 exact all X.outer (fun _ hb=>hb) I.ok.funs
theorem Inv.stack(I:Inv X zv σ H s):s.heap.FunFrames X.base X.stack:=by
 rcases I.ok.stk with e | ⟨e,hf⟩
 ·rw[e];exact I.funs
 ·rw[e];obtain⟨m,hn,_⟩:=I.loc;refine .cons (by rw[I.ok.kind];decide) hf hn ?_ I.funs
  exact Heap.get?_none_of_le (Nat.le_trans I.ok.bsz I.ok.above)
theorem Inv.stkSub(I:Inv X zv σ H s):∀b∈frs X.stack,b∈X.env.locals::X.fs:=fun b hb=>by
 rcases I.ok.stk with e | ⟨e,hf⟩
 ·rw[e] at hb;exact List.mem_cons_of_mem _ hb
 ·rw[e] at hb;unfold frs at hb;rw[List.filterMap_cons,hf] at hb;exact hb
theorem Inv.stkFree(I:Inv X zv σ H s):∀b∈frs X.stack,H b=none:=fun b hb=>by
 rcases List.mem_cons.mp (I.stkSub b hb) with e | hb
 ·rw[e];exact I.free
 ·obtain⟨_,o,ho,_⟩:=I.ok.funs.mem hb;exact I.base.free b o ho (I.ok.frf b hb) fun z=>I.ok.exfs b z hb
theorem Inv.step{g':Array GenState}{t':Nat}{d':Drawn}{ch:List Addr}(I:Inv X zv σ H s)
  (hch:∀b∈ch,(b∈X.ex∨X.s₀.heap.objs.size<=b)/\b≠X.env.locals/\(∀x c,X.env.cells.lookup x=some c->c≠b)/\∀p∈X.pn++zv,p.1≠b)
  (keep:∀b o,b≠X.env.locals->b∉X.fs->b∉ch->s.heap.get? b=some o->H b=none->h'.get? b=some o)
  (slot:∀b o,b≠X.env.locals->b∈X.fs->b∉ch->s.heap.get? b=some o->H b=none->∃sl,h'.get? b=some { o with slots:=sl }) (free:∀b o,b∉ch->s.heap.get? b=some o->H b=none->H' b=none)
  (there:∀b o,b∉ch->s.heap.get? b=some o->∃o',h'.get? b=some o')
  (tups:∀b xs,H b=some (.tup xs)->H' b=some (.tup xs)) (frzs:∀b o u,H b=some (.frz o u)->H' b=some (.frz o u)) (tbls:∀b ps,H b=some (.tbl ps)->∃more,H' b=some (.tbl (ps++more)))
  (ns:∀m,s.heap.Ns X.env.locals m->h'.Ns X.env.locals m) (hok:HOk X.prog X.w H' h') (hg:AllBare g') :
  Inv X zv σ H' { s with heap:=h',gens:=g',drawn:=d',toks:=t' }:=by
 have neL:∀b o,X.s₀.heap.get? b=some o->b≠X.env.locals:=fun b o e=>Nat.ne_of_lt (Nat.lt_of_lt_of_le (Heap.lt_size e) I.ok.above)
 have neC:∀b o,X.s₀.heap.get? b=some o->b∉X.ex->b∉ch:=fun b o e hx hb=>by
  rcases(hch b hb).1 with z | z
  ·exact hx z
  ·exact absurd (Nat.lt_of_lt_of_le (Heap.lt_size e) z) (Nat.lt_irrefl _)
 have cellK:∀x c,X.env.cells.lookup x=some c->∀v,s.heap.IsCell c v->h'.IsCell c v:=fun x c e v hq0=>by
  obtain⟨o,ho,hd⟩:=hq0;have nch:c∉ch:=fun z=>(hch c z).2.2.1 x c e rfl
  by_cases hc:c∈X.fs
  ·obtain⟨sl,q⟩:=slot c o (I.cne x c e) hc nch ho (I.freeC x c e);exact⟨_,q,hd⟩
  ·exact⟨o,keep c o (I.cne x c e) hc nch ho (I.freeC x c e),hd⟩
 refine⟨I.ok,I.os,hg,⟨fun b o e n hb hx =>?_,fun b o e n hb hx =>?_,fun b o e n hx =>?_,fun b o e hx =>?_,fun b xs e=>tups b xs (I.base.tups b xs e),fun b o xs e=>frzs b o xs (I.base.frzs b o xs e),fun b ps e =>?_⟩,?_,fun x c e =>?_,?_,fun x c e =>?_,fun p hp =>?_,hok,I.len⟩
 ·exact keep b o (neL b o e) hb (neC b o e hx) (I.base.keep b o e n hb hx) (I.base.free b o e n hx)
 ·obtain⟨sl,e1⟩:=I.base.slot b o e n hb hx;obtain⟨sl',e2⟩:=slot b _ (neL b o e) hb (neC b o e hx) e1 (I.base.free b o e n hx);exact⟨sl',e2⟩
 ·obtain⟨o',e1⟩:=I.base.there b o e hx;exact free b o' (neC b o e hx) e1 (I.base.free b o e n hx)
 ·obtain⟨o',e1⟩:=I.base.there b o e hx;exact there b o' (neC b o e hx) e1
 ·obtain⟨m1,e1⟩:=I.base.tbls b ps e;obtain⟨m2,e2⟩:=tbls b _ e1;exact⟨m1++m2,by rw[e2,Array.append_assoc]⟩
 ·obtain⟨m,hn,hl⟩:=I.loc;refine⟨m,ns m hn,fun i x v e1 e2 e3 =>?_⟩
  obtain⟨u,r,l⟩:=hl i x v e1 e2 e3;refine⟨u,r,?_⟩;rcases l with l | ⟨k,c,e,z⟩
  ·exact .inl l
  ·exact .inr ⟨k,c,e,cellK x c e _ z⟩
 ·obtain⟨v,z⟩:=I.cell x c e;exact⟨v,cellK x c e v z⟩
 ·obtain⟨m,⟨o,_,_,ho,_⟩,_⟩:=I.loc;exact free _ o (fun z=>(hch _ z).2.1 rfl) ho I.free
 ·obtain⟨v,o,ho,hd⟩:=I.cell x c e;exact free c o (fun z=>(hch c z).2.2.1 x c e rfl) ho (I.freeC x c e)
 ·obtain⟨e,n,ne,nf,d⟩:=I.pin p hp;have nch:p.1∉ch:=fun z=>(hch p.1 z).2.2.2 p hp rfl
  exact⟨keep p.1 p.2 ne nf nch e n,free p.1 p.2 nch e n,ne,nf,d⟩
theorem Inv.un{t':Nat}(I:Inv X zv σ H s)(u:Un X.fs [] H H' s.heap h')(hok:HOk X.prog X.w H' h'):Inv X zv σ H' { s with heap:=h',toks:=t' }:=by
 obtain⟨m,⟨o,es,ep,ho,r⟩,_⟩:=id I.loc;obtain⟨sl,hL⟩:=u.any ho I.free (by simp)
 exact I.step (g':=s.gens) (d':=s.drawn) (ch:=[]) (fun _ z=>nomatch z) (fun b o _ hb _ e n=>u.keep b o e n hb (by simp)) (fun b o _ hb _ e n=>u.slot b o e n hb (by simp)) (fun b o _ e n=>u.free b o e n (by simp)) (fun b o _ e=>u.there b o e (by simp)) u.tups u.frzs u.tbls (fun m' hm=>by
  obtain⟨o',es',ep',ho',r'⟩:=hm;rw[ho] at ho';cases ho';exact⟨_,es',ep',hL,r'⟩) hok I.bare
theorem Inv.call{g':Array GenState}{t':Nat}{d':Drawn}{ch:List Addr}(I:Inv X zv σ H s)(u:Un (frs X.stack) ch H H' s.heap h')(hok:HOk X.prog X.w H' h')(hg:AllBare g')
  (hch:∀b∈ch,(b∈X.ex∨X.s₀.heap.objs.size<=b)/\b≠X.env.locals/\(∀x c,X.env.cells.lookup x=some c->c≠b)/\∀p∈X.pn++zv,p.1≠b) :
  Inv X zv σ H' { s with heap:=h',gens:=g',drawn:=d',toks:=t' }:=by
 obtain⟨m,⟨o,es,ep,ho,r⟩,_⟩:=id I.loc;obtain⟨sl,hL⟩:=u.any ho I.free fun z=>(hch _ z).2.1 rfl
 exact I.step (ch:=ch) hch (fun b o hL hb hc e n=>u.keep b o e n (fun z=>(List.mem_cons.mp (I.stkSub b z)).elim hL hb) hc) (fun b o _ _ hc e n=>u.any e n hc) (fun b o hc e n=>u.free b o e n hc) (fun b o hc e=>u.there b o e hc) u.tups u.frzs u.tbls (fun m' hm=>by
  obtain⟨o',es',ep',ho',r'⟩:=hm;rw[ho] at ho';cases ho';exact⟨_,es',ep',hL,r'⟩) hok hg
theorem Inv.turned{t':Nat}{it:Addr}(I:Inv X zv σ H s)(k:∀b o,b≠it->s.heap.get? b=some o->h'.get? b=some o)(hn:H it=none)(hL:it≠X.env.locals)
  (h1:it∈X.ex∨X.s₀.heap.objs.size<=it) (h2:∀x c,X.env.cells.lookup x=some c->c≠it) (h3:∀p∈X.pn++zv,p.1≠it):Inv X zv σ H { s with heap:=h',toks:=t' }:=by
 have nit:∀b u,H b=some u->b≠it:=fun b u e z=>by rw[z,hn] at e;cases e
 refine I.step (g':=s.gens) (d':=s.drawn) (ch:=[it]) (fun b hb =>?_) (fun b o _ _ hc e _=>k b o (fun z=>hc (by simp[z])) e) (fun b o _ _ hc e _=>⟨o.slots,k b o (fun z=>hc (by simp[z])) e⟩) (fun _ _ _ _ n=>n)
  (fun b o hc e=>⟨o,k b o (fun z=>hc (by simp[z])) e⟩) (fun _ _ e=>e) (fun _ _ _ e=>e) (fun b ps e=>⟨#[],by rw[e];simp⟩) (fun m hm =>?_) (fun b u e =>?_) I.bare
 ·have e:b=it:=by simpa using hb
  subst e;exact⟨h1,hL,h2,h3⟩
 ·obtain⟨o,es,ep,ho,r⟩:=hm;exact⟨o,es,ep,k _ o (Ne.symm hL) ho,r⟩
 ·refine(I.hok b u e).stay (fun c v hc q=>k c v ?_ q) (fun _ q=>q) fun _ _ q=>q
  rcases hc with z | z
  ·rw[z];exact nit b u e
  ·exact nit c _ z
theorem Inv.tok(I:Inv X zv σ H s)(t:Nat):Inv X zv σ H { s with toks:=t }:=I.un (h':=s.heap) (t':=t) Un.refl I.hok
theorem Inv.kept{t':Nat}(I:Inv X zv σ H s)(k:∀b u,s.heap.get? b=some u->h'.get? b=some u):Inv X zv σ H { s with heap:=h',toks:=t' }:=I.un (Un.kept k) (I.hok.kept k)
theorem Inv.laid{a:Addr}{o:HO}{t':Nat}(I:Inv X zv σ H s)(k:∀b u,s.heap.get? b=some u->h'.get? b=some u)(hp:s.heap.objs.size<=a)(new:zg X.prog X.w (upd H a o) h' a o) :
  Inv X zv σ (upd H a o) { s with heap:=h',toks:=t' }:=I.un (Un.laid k hp (I.hok.fresh hp)) (I.hok.laid k hp new)
theorem Inv.write{x e:Addr}{o:HO}{t':Nat}(I:Inv X zv σ H s)(mu:Mut (H x))(he:e=x∨H e=some (.own x))(k:∀b u,b≠e->s.heap.get? b=some u->h'.get? b=some u)(heo:∃u,h'.get? e=some u)
  (new:zg X.prog X.w (upd H x o) h' x o):Inv X zv σ (upd H x o) { s with heap:=h',toks:=t' }:=I.un (Un.write mu he k heo) (I.hok.write mu he k heo new)
theorem Inv.pins_of{pins':List (Addr×Obj)}(I:Inv X zv σ H s)(h:∀p∈pins',s.heap.get? p.1=some p.2/\H p.1=none/\p.1≠X.env.locals/\p.1∉X.fs/\∀v,p.2.data≠.cell v):Inv X pins' σ H s :=
 ⟨I.ok,I.os,I.bare,I.base,I.loc,I.cell,I.free,I.freeC,fun p hp=>(List.mem_append.mp hp).elim (fun z=>I.pin p (List.mem_append_left _ z)) (h p),I.hok,I.len⟩
theorem ama{N:List Str}(hN:N.Nodup){i j:Nat}{x:Str}(a:N[i]? = some x)(b:N[j]? = some x):i=j:=by
 obtain⟨h1,e1⟩:=List.getElem?_eq_some_iff.mp a;obtain⟨h2,e2⟩:=List.getElem?_eq_some_iff.mp b;exact(List.getElem_inj hN).mp (e1.trans e2.symm)
theorem ai0{M:Model}{A:Around}{E:Value->Shared->Prop}{i:Nat}{x:Str}{v:V}{u:Value}{Q:Unit->Shared->Prop}(I:Inv X zv σ H s)(hN:X.N.Nodup)(hi:X.N[i]? = some x)(hx:Loc X.env.scope x)(r:RelV v u)
  (h:∀s',Inv X zv (σ.set i (some v)) H s'->(∃a,Heap.SameBut a s.heap s'.heap/\(a=X.env.locals∨X.env.cells.lookup x=some a))->Q () s') (hf:X.fn x=true∨X.env.scope.names.lookup x=some .local:=by first | exact .inl rfl | exact .inr rfl | assumption):wpAny M A (storeName X.env x u) Q E s:=by
 obtain⟨m,hn,hl⟩:=id I.loc;have hcls:(X.env.scope.kind==.class||(X.env.scope.kind==.module&&X.env.locals != X.env.globals))=false:=by rw[I.ok.kind];rfl
 have hiσ:i < σ.length:=by rw[I.len];exact(List.getElem?_eq_some_iff.mp hi).1
 have cne:=I.cne;have tracked:∀{a:Addr} {h':Heap},(∃o,s.heap.get? a=some o/\H a=none)->Heap.SameBut a s.heap h'->HOk X.prog X.w H h':=fun{a h'} ha hs b ob e=>by
  obtain⟨_,_,hfree⟩:=ha;refine(I.hok b ob e).stay (fun c w' hc q=>(hs.2 c ?_).trans q) (fun _ q=>q) fun _ _ q=>q
  rintro rfl
  rcases hc with rfl | hc
  ·rw[hfree] at e;cases e
  ·rw[hfree] at hc;cases hc
 rcases hx with hk | hk
 ·refine wpAny_storeName_local hk hn (fun h' hn' hs =>?_) hcls
  obtain⟨oL,_,_,hoL,_⟩:=id hn;refine h _ ⟨I.ok,I.os,I.bare,⟨fun b o e n hb hx =>?_,fun b o e n hb hx =>?_,I.base.free,fun b o e hx =>?_,I.base.tups,I.base.frzs,I.base.tbls⟩,⟨_,hn',fun j y v' e1 e2 e3 =>?_⟩,fun y c e =>?_,I.free,I.freeC,fun p hp =>?_,tracked ⟨oL,hoL,I.free⟩ hs,by simpa using I.len⟩ ⟨_,hs,.inl rfl⟩
  ·exact(hs.2 b (Nat.ne_of_lt (Nat.lt_of_lt_of_le (Heap.lt_size e) I.ok.above))).trans (I.base.keep b o e n hb hx)
  ·obtain⟨sl,e1⟩:=I.base.slot b o e n hb hx;exact⟨sl,(hs.2 b (Nat.ne_of_lt (Nat.lt_of_lt_of_le (Heap.lt_size e) I.ok.above))).trans e1⟩
  ·obtain⟨o',e1⟩:=I.base.there b o e hx;exact⟨o',(hs.2 b (Nat.ne_of_lt (Nat.lt_of_lt_of_le (Heap.lt_size e) I.ok.above))).trans e1⟩
  ·by_cases hj:j=i
   ·subst hj;rw[hi] at e1;cases e1;rw[List.getElem?_set_self hiσ] at e2;cases e2;exact⟨u,r,.inl ⟨hk,by simp⟩⟩
   ·rw[List.getElem?_set_ne (Ne.symm hj)] at e2;obtain⟨u',r',q⟩:=hl j y v' e1 e2 e3;refine⟨u',r',?_⟩;rcases q with⟨k,e⟩ | ⟨k,c,e,z⟩
    ·refine .inl ⟨k,?_⟩;have:y≠x:=fun e=>hj (ama hN e1 (e▸hi))
     simp[this,e]
    ·exact .inr ⟨k,c,e,z.sameBut hs (cne y c e)⟩
  ·obtain⟨w',z⟩:=I.cell y c e;exact⟨w',z.sameBut hs (cne y c e)⟩
  ·obtain⟨e,n,ne,nf,d⟩:=I.pin p hp;exact⟨(hs.2 p.1 ne).trans e,n,ne,nf,d⟩
 ·have hfn:X.fn x=true:=by
   rcases hf with z | z
   ·exact z
   ·rw[z] at hk;cases hk
  obtain⟨c,hc⟩:=I.ok.has x (.inl hk);obtain⟨w',z⟩:=I.cell x c hc;refine wpAny_storeName_cell I.ok.kind hk hc z (fun h' hc' hs =>?_)
  obtain⟨oc,hoc,hocd⟩:=id z;refine h { s with heap:=h' } ⟨I.ok,I.os,I.bare,⟨fun b o e n hb hx =>?_,fun b o e n hb hx =>?_,I.base.free,fun b o e hx =>?_,I.base.tups,I.base.frzs,I.base.tbls⟩,⟨m,hn.sameBut hs (Ne.symm (cne x c hc)),fun j y v' e1 e2 e3 =>?_⟩,fun y c' e =>?_,I.free,I.freeC,fun p hp =>?_,tracked ⟨oc,hoc,I.freeC x c hc⟩ hs,by simpa using I.len⟩ ⟨c,hs,.inr hc⟩
  ·exact(hs.2 b (Nat.ne_of_lt (Nat.lt_of_lt_of_le (Heap.lt_size e) (I.ok.cab x c hfn hc)))).trans (I.base.keep b o e n hb hx)
  ·obtain⟨sl,e1⟩:=I.base.slot b o e n hb hx;exact⟨sl,(hs.2 b (Nat.ne_of_lt (Nat.lt_of_lt_of_le (Heap.lt_size e) (I.ok.cab x c hfn hc)))).trans e1⟩
  ·obtain⟨o',e1⟩:=I.base.there b o e hx;exact⟨o',(hs.2 b (Nat.ne_of_lt (Nat.lt_of_lt_of_le (Heap.lt_size e) (I.ok.cab x c hfn hc)))).trans e1⟩
  ·by_cases hj:j=i
   ·subst hj;rw[hi] at e1;cases e1;rw[List.getElem?_set_self hiσ] at e2;cases e2;exact⟨u,r,.inr ⟨.inl hk,c,hc,hc'⟩⟩
   ·rw[List.getElem?_set_ne (Ne.symm hj)] at e2;obtain⟨u',r',q⟩:=hl j y v' e1 e2 e3;refine⟨u',r',?_⟩;rcases q with q | ⟨k,c',e,z'⟩
    ·exact .inl q
    ·refine .inr ⟨k,c',e,z'.sameBut hs ?_⟩
     rintro rfl
     exact hj (ama hN e1 (I.ok.inj _ _ _ e hc▸hi))
  ·by_cases hcc:c'=c
   ·subst hcc;exact⟨_,hc'⟩
   ·obtain⟨w2,z2⟩:=I.cell y c' e;exact⟨w2,z2.sameBut hs hcc⟩
  ·obtain⟨e,n,ne,nf,d⟩:=I.pin p hp;refine⟨(hs.2 p.1 ?_).trans e,n,ne,nf,d⟩;intro q;rw[q,hoc] at e;have q':oc=p.2:=Option.some.inj e;exact d w' (by rw[<-q'];exact hocd)
theorem afb{M:Model}{A:Around}{E:Value->Shared->Prop}{i:Nat}{x:Str}{v:V}{u:Value}{Q:Unit->Shared->Prop}(I:Inv X zv σ H s)(hN:X.N.Nodup)(hi:X.N[i]? = some x)(hx:Loc X.env.scope x)(r:RelV v u)
  (h:∀s',Inv X zv (σ.set i (some v)) H s'->Q () s') (hf:X.fn x=true∨X.env.scope.names.lookup x=some .local:=by first | exact .inl rfl | exact .inr rfl | assumption):wpAny M A (storeName X.env x u) Q E s :=
 ai0 I hN hi hx r (fun s' I' _=>h s' I') hf
theorem Inv.call'{s':Shared}{ch:List Addr}(I:Inv X zv σ H s)(ho:s'.os=s.os)(u:Un (frs X.stack) ch H H' s.heap s'.heap)(hok:HOk X.prog X.w H' s'.heap)(hg:AllBare s'.gens)
  (hch:∀b∈ch,(b∈X.ex∨X.s₀.heap.objs.size<=b)/\b≠X.env.locals/\(∀x c,X.env.cells.lookup x=some c->c≠b)/\∀p∈X.pn++zv,p.1≠b):Inv X zv σ H' s':=by
 obtain⟨h',g',d',t',o'⟩:=s';have e:o'=s.os:=ho;subst e;exact I.call (g':=g') (t':=t') (d':=d') u hok hg hch
end
abbrev XK:=Value->Option Addr->Hp->Prop
abbrev St:=List (Option V)
abbrev VK:=V->Hp->Prop
abbrev TE:=St->Hp->VK->Prop
abbrev TT:=St->Hp->(Bool->Hp->Prop)->Prop
abbrev TA:=St->Hp->(List V->Hp->Prop)->Prop
structure Ends where
 nx:St->Hp->Prop
 rt:VK
 bk:St->Hp->Prop:=fun _ _=>False
 ct:St->Hp->Prop:=fun _ _=>False
abbrev TS:=Ends->St->Hp->Prop
def EP(X:Cx)(zv:List (Addr×Obj))(σ:St)(Q:VK)(u:Value)(s':Shared):Prop:=∃v H',Inv X zv σ H' s'/\RelV v u/\Q v H'
def TP(X:Cx)(zv:List (Addr×Obj))(σ:St)(Q:Bool->Hp->Prop)(b:Bool)(s':Shared):Prop:=∃H',Inv X zv σ H' s'/\Q b H'
def AP(X:Cx)(zv:List (Addr×Obj))(σ:St)(Q:List V->Hp->Prop)(us:List Value)(s':Shared):Prop:=∃vs H',Inv X zv σ H' s'/\Vals vs us/\Q vs H'
def SP(X:Cx)(zv:List (Addr×Obj))(D:Ends)(f:Flow)(s':Shared):Prop :=
 match f with
 | .next=>∃σ' H',Inv X zv σ' H' s'/\D.nx σ' H'
 | .brk=>∃σ' H',Inv X zv σ' H' s'/\D.bk σ' H'
 | .cont=>∃σ' H',Inv X zv σ' H' s'/\D.ct σ' H'
 | .ret u=>∃v σ' H',Inv X zv σ' H' s'/\RelV v u/\D.rt v H'
def PE(X:Cx)(e:Expr)(t:TE):Prop :=
 ∀(zv:List (Addr×Obj)) (s:Shared) (σ:St) (H:Hp) (Q:VK),Inv X zv σ H s->t σ H Q->wpAny (model X.prog X.w) X.A (eval e X.env) (EP X zv σ Q) X.xe s
def PT(X:Cx)(e:Expr)(t:TT):Prop :=
 ∀(zv:List (Addr×Obj)) (s:Shared) (σ:St) (H:Hp) (Q:Bool->Hp->Prop),Inv X zv σ H s->t σ H Q->wpAny (model X.prog X.w) X.A (isTrue e X.env (eval e X.env)) (TP X zv σ Q) X.xe s
def PW(X:Cx)(e:Expr)(t:TT):Prop :=
 ∀(whole:Sem Value) (zv:List (Addr×Obj)) (s:Shared) (σ:St) (H:Hp) (Q:Bool->Hp->Prop),Inv X zv σ H s->t σ H Q->wpAny (model X.prog X.w) X.A (isTrue e X.env whole) (TP X zv σ Q) X.xe s
theorem PW.pt{X:Cx}{e:Expr}{t:TT}(h:PW X e t):PT X e t:=h _
def PA(X:Cx)(es:List Expr)(t:TA):Prop :=
 ∀(pos:Pos) (zv:List (Addr×Obj)) (s:Shared) (σ:St) (H:Hp) (Q:List V->Hp->Prop),Inv X zv σ H s->t σ H Q->wpAny (model X.prog X.w) X.A (spliced (backTo pos (starEach es X.env))) (AP X zv σ Q) X.xe s
def PS(X:Cx)(st:Stmt)(t:TS):Prop :=
 ∀(zv:List (Addr×Obj)) (s:Shared) (σ:St) (H:Hp) (D:Ends),Inv X zv σ H s->t D σ H->wpAny (model X.prog X.w) X.A (exec st X.env) (SP X zv D) X.xe s
def PSs(X:Cx)(st:List Stmt)(t:TS):Prop :=
 ∀(zv:List (Addr×Obj)) (s:Shared) (σ:St) (H:Hp) (D:Ends),Inv X zv σ H s->t D σ H->wpAny (model X.prog X.w) X.A (execs st X.env) (SP X zv D) X.xe s
theorem thn{α:Type}{t:Sem α}{Q Q':α->Shared->Prop}{M:Model}{A:Around}{E:Value->Shared->Prop}{s:Shared}(h:wpAny M A t Q E s)(hQ:∀a s,Q a s->Q' a s):wpAny M A t Q' E s:=wpAny_mono h hQ fun _ _ x=>x
section
variable{X:Cx}
def tVar(i:Nat):TE:=fun σ H Q=>∃v,σ[i]? = some (some v)/\Q v H
def tC(v:V):TE:=fun _ H Q=>Q v H
theorem azo{i:Nat}{x:Str}{pos:Pos}(hN:X.N[i]? = some x)(hv:Vis X.env.scope x)(hd:(x==("__debug__" : Str))=false:=by decide)(hcd:(x==("__classdict__" : Str))=false:=by decide):PE X (.Name x pos) (tVar i):=by
 intro zv s σ H Q I h;obtain⟨v,e,h⟩:=h;obtain⟨m,hn,hl⟩:=I.loc;obtain⟨u,r,l⟩:=hl i x v hN e hv;have fin:EP X zv σ Q u s:=⟨v,H,I,r,h⟩;rcases l with⟨hk,hm⟩ | ⟨hk,c,hc,hcell⟩
 ·exact wpAny_Name (wpAny_loadName_local I.ok.kind hk hn hm fin) hd
 ·rcases hk with hk | hk
  ·exact wpAny_Name (wpAny_loadName_cell I.ok.kind hk hc hcell fin) hd
  ·exact wpAny_Name (wpAny_loadName_free I.ok.kind hk hc hcell fin hcd) hd
theorem azv{i j pos}:PE X (.Constant (.int i) j pos) (tC (.int i)):=fun _ _ _ H _ I h=>wpAny_Constant_int ⟨.int i,H,I.tok _,⟨_,rfl⟩,h⟩
theorem a3r{b j pos}:PE X (.Constant (.bool b) j pos) (tC (.bl b)):=fun _ _ _ H _ I h=>Constant_bool ⟨.bl b,H,I,rfl,h⟩
theorem azs{j pos}:PE X (.Constant .none j pos) (tC .non):=fun _ _ _ H _ I h=>Constant_none ⟨.non,H,I,rfl,h⟩
def Gl(X:Cx)(x:Str):Prop:=X.env.kindOf x=some .globalImplicit
theorem aqe{E:Value->Shared->Prop}{zv:List (Addr×Obj)}{s:Shared}{σ:St}{H:Hp}{x:Str}{u:Value}{pos:Pos}{Q:Value->Shared->Prop}(I:Inv X zv σ H s)(hg:Gl X x)(hm:X.mg x=some u)(h:Q u s)
  (hd:(x==("__debug__" : Str))=false:=by decide):wpAny (model X.prog X.w) X.A (eval (.Name x pos) X.env) Q E s :=
 Calls.Name_function_global I.ok.kind hg (Calls.loadGlobal_global (by rw[I.ok.glob];exact I.mod.glob.keeps I.bk) hm h) hd
theorem aer{E:Value->Shared->Prop}{zv:List (Addr×Obj)}{s:Shared}{σ:St}{H:Hp}{x:Str}{u:Value}{pos:Pos}{Q:Value->Shared->Prop}(I:Inv X zv σ H s)(hg:Gl X x)(hm:X.mg x=none)(hv:bootBuiltins x=some u)(h:Q u s)
  (hn:x ≠ "__name__" := by decide) (hd:(x==("__debug__" : Str))=false:=by decide):wpAny (model X.prog X.w) X.A (eval (.Name x pos) X.env) Q E s:=by
 obtain⟨mb,h1,h2⟩:=I.mod.blt;exact Calls.Name_function_global I.ok.kind hg (Calls.loadGlobal_builtin (by rw[I.ok.glob];exact I.mod.glob.keeps I.bk) hm (by rw[I.ok.blt];exact h1.keeps I.bk) ((h2 x hn).trans hv) h) hd
theorem aw1{x:Str}{v:V}{u:Value}{pos:Pos}(hg:Gl X x)(hm:X.mg x=some u)(r:RelV v u)(hd:(x==("__debug__" : Str))=false:=by decide):PE X (.Name x pos) (tC v) :=
 fun _ _ _ H _ I h=>aqe I hg hm ⟨v,H,I,r,h⟩ hd
theorem aw6{x:Str}{v:V}{u:Value}{pos:Pos}(hg:Gl X x)(hm:X.mg x=none)(hv:bootBuiltins x=some u)(r:RelV v u)(hn:x ≠ "__name__" := by decide)(hd:(x==("__debug__" : Str))=false:=by decide):PE X (.Name x pos) (tC v) :=
 fun _ _ _ H _ I h=>aer I hg hm hv ⟨v,H,I,r,h⟩ hn hd
variable{a b:Expr}{ta tb:TE}{pos:Pos}
def PC(X:Cx)(op:CmpOp)(a b:Expr)(t:TE):Prop :=
 ∀(zv:List (Addr×Obj)) (s:Shared) (σ:St) (H:Hp) (Q:VK),Inv X zv σ H s->t σ H Q ->
  wpAny (model X.prog X.w) X.A (eval a X.env) (fun v s₁=>wpAny (model X.prog X.w) X.A (eval b X.env) (fun u s₂=>wpAny (model X.prog X.w) X.A (compareOp op v u) (EP X zv σ Q) X.xe s₂) X.xe s₁) X.xe s
theorem atp(b:Expr){op:CmpOp}(h:op≠.In)(h2:op≠.NotIn):behindInMarks op b=false:=by
 have e1:(op==CmpOp.In)=false:=by cases op <;> first | rfl | exact absurd rfl h
 have e2:(op==CmpOp.NotIn)=false:=by cases op <;> first | rfl | exact absurd rfl h2
 cases b <;> simp[behindInMarks,e1,e2]
def tIsN(ta:TE):TE:=fun σ H Q=>ta σ H fun x H1=>Q (.bl (decide (x=.non))) H1
theorem RelV.none_iff{x:V}{v:Value}(r:RelV x v):(v==Value.none)=decide (x=.non):=by
 cases x with
 | non=>cases r;rfl
 | bl _=>cases r;rfl
 | int _=>obtain⟨t,rfl⟩:=r;rfl
 | str _=>obtain⟨t,rfl⟩:=r;rfl
 | byt _=>obtain⟨t,rfl⟩:=r;rfl
 | flt _=>obtain⟨t,rfl⟩:=r;rfl
 | ref _=>cases r;rfl
 | ty _=>cases r;rfl
theorem azx{j pos'}(ha:PE X a ta):PC X .Is a (.Constant .none j pos') (tIsN ta):=by
 intro zv s σ H Q I h;refine thn (ha zv s σ H _ I h) fun v s1 ⟨x,H1,I1,r1,q1⟩ =>?_
 exact Constant_none (is_none_gen ⟨.bl _,H1,I1,by rw[r1.none_iff];rfl,q1⟩)
def tB(t:TE):TT:=fun σ H Q=>t σ H fun x H1=>∃c,x=.bl c/\Q c H1
theorem azf{op:CmpOp}{t:TE}(h:PC X op a b t)(h1:behindInMarks op b=false:=by first | exact atp _ (by decide) (by decide) | rfl):PT X (.Compare a [op] [b] pos) (tB t):=by
 intro zv s σ H Q I hw;refine wpAny_isTrue_Compare1 (thn (h zv s σ H _ I hw) fun v s1 h1=>thn h1 fun u s2 h2=>thn h2 fun c s3 ⟨x,H1,I1,r1,q1⟩ =>?_) h1
 obtain⟨d,rfl,q⟩:=q1;cases r1;exact wpAny_truthy_bool ⟨H1,I1,q⟩
theorem azd{e:Expr}{t:TE}(h:PE X e t)(he:∀whole,isTrue e X.env whole=(do let v <-whole;standAt e.pos;holding [v] (truthy v)):=by intro _;rfl):PT X e (tB t):=by
 intro zv s σ H Q I hw;refine isTrue_plain (thn (h zv s σ H _ I hw) fun v s1 ⟨x,H1,I1,r1,q1⟩ =>?_) (he _)
 obtain⟨d,rfl,q⟩:=q1;cases r1;exact wpAny_truthy_bool ⟨H1,I1,q⟩
variable{tA tB':TT}{rest:List Expr}
def tOr(t u:TT):TT:=fun σ H Q=>t σ H fun c H1=>if c=true then Q true H1 else u σ H1 Q
def tNot(t:TT):TT:=fun σ H Q=>t σ H fun c H1=>Q (!c) H1
theorem ay7(ha:PT X a tA):PW X (.BoolOp .Or [a] pos) tA:=by
 intro wh zv s σ H Q I h;refine isTrue_or (thn (ha zv s σ H Q I h) fun c s1 e =>?_)
 cases c with
 | false=>exact isTrue_or_nil e
 | true=>exact e
theorem a3k(ha:PT X a tA)(hb:PW X (.BoolOp .Or (b::rest) pos) tB'):PW X (.BoolOp .Or (a::b::rest) pos) (tOr tA tB'):=by
 intro wh zv s σ H Q I h;refine isTrue_or (thn (ha zv s σ H _ I h) fun c s1 ⟨H1,I1,q1⟩ =>?_)
 cases c with
 | true=>exact⟨H1,I1,q1⟩
 | false=>exact hb wh zv s1 σ H1 Q I1 q1
theorem aze(ha:PT X a tA):PT X (.UnaryOp .Not a pos) (tNot tA):=by
 intro zv s σ H Q I h;exact isTrue_not (ha zv s σ H (fun c H1=>Q (!c) H1) I h)
def a3d(ta tb:TE):TE:=fun σ H Q=>ta σ H fun x H1=>∃c,x=.bl c/\if c=true then tb σ H1 Q else Q (.bl false) H1
def a2y(ta:TE):TE:=fun σ H Q=>ta σ H fun x H1=>∃c,x=.bl c/\Q (.bl (!c)) H1
theorem azq{op}{t:TE}(h:PE X a t):PE X (.BoolOp op [a] pos) t:=fun zv s σ H Q I hw=>BoolOp_one (h zv s σ H Q I hw)
theorem azw(ha:PE X a ta)(hb:PE X (.BoolOp .And (b::rest) pos) tb):PE X (.BoolOp .And (a::b::rest) pos) (a3d ta tb):=by
 intro zv s σ H Q I h;refine BoolOp_and (thn (ha zv s σ H _ I h) fun v s1 ⟨x,H1,I1,r1,q1⟩ =>?_)
 obtain⟨c,rfl,q1⟩:=q1;cases r1;refine wpAny_truthy_bool ?_;cases c with
 | true=>exact hb zv s1 σ H1 Q I1 q1
 | false=>exact⟨.bl false,H1,I1,rfl,q1⟩
theorem azr(ha:PE X a ta):PE X (.UnaryOp .Not a pos) (a2y ta):=by
 intro zv s σ H Q I h;refine UnaryOp_ (thn (ha zv s σ H _ I h) fun v s1 ⟨x,H1,I1,r1,q1⟩ =>?_)
 obtain⟨c,rfl,q1⟩:=q1;cases r1;exact not_of (wpAny_truthy_bool ⟨.bl (!c),H1,I1,rfl,q1⟩)
def tIf(t:TT)(ta tb:TE):TE:=fun σ H Q=>t σ H fun c H1=>if c=true then ta σ H1 Q else tb σ H1 Q
theorem atf{c:Expr}(hc:PT X c tA)(ha:PE X a ta)(hb:PE X b tb):PE X (.IfExp c a b pos) (tIf tA ta tb):=by
 intro zv s σ H Q I h;refine wpAny_IfExp (thn (hc zv s σ H _ I h) fun d s1 ⟨H1,I1,q1⟩ =>?_)
 cases d with
 | true=>exact ha zv s1 σ H1 Q I1 q1
 | false=>exact hb zv s1 σ H1 Q I1 q1
end
def SqL(K:Fg9)(H:Hp)(a:Addr)(xs:List V):Prop :=
 Rd H a (.lst xs) ∨
  ∃(o:Obj) (its:Array Value) (n:Nat),K.lookup a=some o/\o.cls=.type "list" /\ o.dict=none/\o.data=.seq its n/\its.size<=sizeLine/\Vals xs its.toList
def SqT(K:Fg9)(H:Hp)(a:Addr)(xs:List V):Prop :=
 Rd H a (.tup xs) ∨
  ∃(o:Obj) (its:Array Value) (n:Nat),K.lookup a=some o/\o.cls=.type "tuple" /\ o.data=.seq its n/\its.size<=sizeLine/\Vals xs its.toList
def absV:Value->Option V
 | .none=>some .non
 | .bool b=>some (.bl b)
 | .int i _=>some (.int i)
 | .str x _=>some (.str x)
 | .bytes b _=>some (.byt b)
 | .float b _=>some (.flt b)
 | .ref a=>some (.ref a)
 | .type n=>some (.ty n)
 | _=>none
theorem RelV.abs{x:V}{u:Value}(r:RelV x u):absV u=some x:=by
 cases x with
 | non=>cases r;rfl
 | bl _=>cases r;rfl
 | int _=>obtain⟨t,rfl⟩:=r;rfl
 | str _=>obtain⟨t,rfl⟩:=r;rfl
 | byt _=>obtain⟨t,rfl⟩:=r;rfl
 | flt _=>obtain⟨t,rfl⟩:=r;rfl
 | ref _=>cases r;rfl
 | ty _=>cases r;rfl
theorem RelV.inj{x y:V}{u:Value}(r:RelV x u)(q:RelV y u):x=y:=Option.some.inj (r.abs.symm.trans q.abs)
theorem Vals.inj:∀{xs ys:List V} {us:List Value},Vals xs us->Vals ys us->xs=ys
 | _,_,_,.nil,.nil=>rfl
 | _,_,_,.cons r t,.cons r' t'=>by rw[r.inj r',Vals.inj t t']
section
variable{X:Cx}{zv:List (Addr×Obj)}{σ:St}{H:Hp}{s:Shared}{a:Addr}{xs ys:List V}
theorem SqL.of{K:Fg9}(h:H a=some (.lst xs)):SqL K H a xs:=.inl (.inl h)
theorem SqT.of{K:Fg9}(h:H a=some (.tup xs)):SqT K H a xs:=.inl (.inl h)
theorem Inv.list(I:Inv X zv σ H s)(h:SqL X.K H a xs):∃its:List Value,Vals xs its/\PlainL s.heap a its.toArray/\xs.length<=sizeLine:=by
 rcases h with h | ⟨o,its,n,hk,hc,hd,hs,hz,r⟩
 ·obtain⟨z,its,n,r,e⟩:=h.ok I.hok;exact⟨its,r,⟨_,n,e,rfl,rfl,rfl⟩,z⟩
 ·refine⟨its.toList,r,⟨o,n,I.kIn a o hk,hc,hd,by simpa using hs⟩,?_⟩
  have e:=r.length;simp only[Array.length_toList] at e;omega
theorem Inv.tuple(I:Inv X zv σ H s)(h:SqT X.K H a xs):∃its:List Value,Vals xs its/\IsTup s.heap a its.toArray/\xs.length<=sizeLine:=by
 rcases h with h | ⟨o,its,n,hk,hc,hs,hz,r⟩
 ·obtain⟨z,its,r,p⟩:=h.ok I.hok;exact⟨its,r,p.tup,z⟩
 ·refine⟨its.toList,r,⟨o,I.kIn a o hk,hc,n,by simpa using hs⟩,?_⟩
  have e:=r.length;simp only[Array.length_toList] at e;omega
theorem Inv.list_inj(I:Inv X zv σ H s)(h:SqL X.K H a xs)(h':SqL X.K H a ys):xs=ys:=by
 obtain⟨its,r,⟨o,n,e,_,_,d⟩,_⟩:=I.list h;obtain⟨its',r',⟨o',n',e',_,_,d'⟩,_⟩:=I.list h';rw[e] at e';cases e';rw[d] at d'
 injection d' with d1 _
 have:its=its':=by simpa using congrArg Array.toList d1
 subst this;exact r.inj r'
theorem Inv.tuple_inj(I:Inv X zv σ H s)(h:SqT X.K H a xs)(h':SqT X.K H a ys):xs=ys:=by
 obtain⟨its,r,⟨o,e,_,n,d⟩,_⟩:=I.tuple h;obtain⟨its',r',⟨o',e',_,n',d'⟩,_⟩:=I.tuple h';rw[e] at e';cases e';rw[d] at d'
 injection d' with d1 _
 have:its=its':=by simpa using congrArg Array.toList d1
 subst this;exact r.inj r'
end
abbrev Cx.wish(X:Cx)(E:Value->Shared->Prop):Cx:={ X with xe:=E }
abbrev Cx.nox(X:Cx):Cx:=X.wish fun _ _=>False
theorem Cx.Ok.wish{X:Cx}(ok:X.Ok)(E:Value->Shared->Prop):(X.wish E).Ok :=
 ⟨ok.mod,ok.kind,ok.glob,ok.blt,ok.above,ok.inj,ok.has,ok.cab,ok.hd,ok.frames,ok.stk,ok.exf,ok.bs,ok.bsz,ok.noex,ok.exfs,ok.funs,ok.frf,ok.tb⟩
theorem Cx.Ok.unwish{X:Cx}{E:Value->Shared->Prop}(ok:(X.wish E).Ok):X.Ok :=
 ⟨ok.mod,ok.kind,ok.glob,ok.blt,ok.above,ok.inj,ok.has,ok.cab,ok.hd,ok.frames,ok.stk,ok.exf,ok.bs,ok.bsz,ok.noex,ok.exfs,ok.funs,ok.frf,ok.tb⟩
section
variable{X:Cx}{zv:List (Addr×Obj)}{σ:St}{H:Hp}{s:Shared}{E:Value->Shared->Prop}
theorem Inv.wish(I:Inv X zv σ H s)(E:Value->Shared->Prop):Inv (X.wish E) zv σ H s:=⟨I.ok.wish E,I.os,I.bare,I.base,I.loc,I.cell,I.free,I.freeC,I.pin,I.hok,I.len⟩
theorem Inv.unwish(I:Inv (X.wish E) zv σ H s):Inv X zv σ H s:=⟨I.ok.unwish,I.os,I.bare,I.base,I.loc,I.cell,I.free,I.freeC,I.pin,I.hok,I.len⟩
theorem SP.unwish{D:Ends}{f:Flow}{s':Shared}(h:SP (X.wish E) zv D f s'):SP X zv D f s':=by
 cases f with
 | next=>obtain⟨σ',H',I,q⟩:=h;exact⟨σ',H',I.unwish,q⟩
 | brk=>obtain⟨σ',H',I,q⟩:=h;exact⟨σ',H',I.unwish,q⟩
 | cont=>obtain⟨σ',H',I,q⟩:=h;exact⟨σ',H',I.unwish,q⟩
 | ret u=>obtain⟨v,σ',H',I,r,q⟩:=h;exact⟨v,σ',H',I.unwish,r,q⟩
theorem PSs.nox{st:List Stmt}{t:TS}(h:PSs X.nox st t):PSs X st t:=fun zv s σ H D I hw =>
 wpAny_mono (h zv s σ H D (I.wish _) hw) (fun _ _ q=>q.unwish) fun _ _ z=>False.elim z
end
section
variable{X:Cx}{st:Stmt}{rest:List Stmt}{t u:TS}{e:Expr}{te:TE}{pos:Pos}
def a2z:TS:=fun D σ H=>D.nx σ H
def tSeq(t u:TS):TS:=fun D σ H=>t { D with nx:=u D } σ H
theorem awn:PSs X [] a2z:=fun _ _ σ H _ I h=>wpAny_execs_nil ⟨σ,H,I,h⟩
theorem as9(h1:PS X st t)(h2:PSs X rest u):PSs X (st::rest) (tSeq t u):=by
 intro zv s σ H D I h;refine wpAny_execs_cons (thn (h1 zv s σ H { D with nx:=u D } I h) fun f s1 q =>?_)
 cases f with
 | next =>
  obtain⟨σ',H',I',q⟩:=q;exact h2 zv s1 σ' H' D I' q
 | ret v=>exact q
 | brk=>exact q
 | cont=>exact q
theorem awm(h1:PS X st t):PSs X [st] t:=by
 intro zv s σ H D I h;refine wpAny_execs_cons (thn (h1 zv s σ H D I h) fun f s1 q =>?_)
 cases f with
 | next=>exact wpAny_execs_nil q
 | ret v=>exact q
 | brk=>exact q
 | cont=>exact q
theorem Inv.quiet{zv:List (Addr×Obj)}{σ:St}{H:Hp}{s:Shared}(I:Inv X zv σ H s):interactive X.env=false:=by simp[interactive,I.ok.kind]
def a3a(te:TE):TS:=fun D σ H=>te σ H fun _ H1=>D.nx σ H1
theorem awo(he:PE X e te)(hs:swapsWith e none pos.line X.env=pure false:=by rfl):PS X (.Expr e pos) (a3a te):=by
 intro zv s σ H D I h;exact wpAny_Expr_any (thn (he zv s σ H _ I h) fun v s1 ⟨x,H1,I1,r1,q1⟩=>⟨σ,H1,I1,q1⟩) I.quiet hs
def tRet(te:TE):TS:=fun D σ H=>te σ H D.rt
theorem azh(he:PE X e te):PS X (.Return (some e) pos) (tRet te):=by
 intro zv s σ H D I h;exact wpAny_Return_some (thn (he zv s σ H _ I h) fun v s1 ⟨x,H1,I1,r1,q1⟩=>⟨x,σ,H1,I1,r1,q1⟩)
def tIfS(c:TT)(t u:TS):TS:=fun D σ H=>c σ H fun b H1=>if b=true then t D σ H1 else u D σ H1
theorem a3m{c:Expr}{a b:List Stmt}{tc:TT}(hc:PT X c tc)(ha:PSs X a t)(hb:PSs X b u):PS X (.If c a b pos) (tIfS tc t u):=by
 intro zv s σ H D I h;refine wpAny_If (thn (hc zv s σ H _ I h) fun d s1 ⟨H1,I1,q1⟩ =>?_)
 cases d with
 | true=>exact ha zv s1 σ H1 D I1 q1
 | false=>exact hb zv s1 σ H1 D I1 q1
def ayw:TS:=fun _ _ _=>False
theorem atb:PS X st ayw:=fun _ _ _ _ _ _ h=>h.elim
end
abbrev TG:=V->St->Hp->(St->Hp->Prop)->Prop
abbrev TGs:=List V->St->Hp->(St->Hp->Prop)->Prop
def PG(X:Cx)(target:Expr)(t:TG):Prop :=
 ∀(zv:List (Addr×Obj)) (s:Shared) (σ:St) (H:Hp) (v:V) (u:Value) (Q:St->Hp->Prop),Inv X zv σ H s->RelV v u->t v σ H Q ->
  wpAny (model X.prog X.w) X.A (assign target X.env u) (fun _ s'=>∃σ' H',Inv X zv σ' H' s'/\Q σ' H') X.xe s
def PGs(X:Cx)(ts:List Expr)(t:TGs):Prop :=
 ∀(zv:List (Addr×Obj)) (s:Shared) (σ:St) (H:Hp) (vs:List V) (us:List Value) (Q:St->Hp->Prop),Inv X zv σ H s->Vals vs us->t vs σ H Q ->
  wpAny (model X.prog X.w) X.A (assignInOrder ((assignEach ts X.env).map (·.2)) us) (fun _ s'=>∃σ' H',Inv X zv σ' H' s'/\Q σ' H') X.xe s
abbrev TSet:=V->V->V->Hp->(Hp->Prop)->Prop
def PSet(X:Cx)(t:TSet):Prop :=
 ∀(zv:List (Addr×Obj)) (s:Shared) (σ:St) (H:Hp) (o i v:V) (ov iv u:Value) (Q:Hp->Prop),Inv X zv σ H s->RelV o ov->RelV i iv->RelV v u->t o i v H Q ->
  wpAny (model X.prog X.w) X.A (setItem ov iv u) (fun _ s'=>∃H',Inv X zv σ H' s'/\Q H') X.xe s
abbrev TIp:=V->V->Hp->VK->Prop
def PIp(X:Cx)(op:Operator)(t:TIp):Prop :=
 ∀(zv:List (Addr×Obj)) (s:Shared) (σ:St) (H:Hp) (x y:V) (v u:Value) (Q:VK),Inv X zv σ H s->RelV x v->RelV y u->t x y H Q ->
  wpAny (model X.prog X.w) X.A (inplaceOp op v u) (EP X zv σ Q) X.xe s
section
variable{X:Cx}{pos:Pos}
def axt(i:Nat):TG:=fun v σ H Q=>Q (σ.set i (some v)) H
theorem awy{i:Nat}{x:Str}(hN:X.N.Nodup)(hi:X.N[i]? = some x)(hx:Loc X.env.scope x)(hf:X.fn x=true∨X.env.scope.names.lookup x=some .local:=by first | exact .inl rfl | exact .inr rfl | assumption):PG X (.Name x pos) (axt i):=by
 intro zv s σ H v u Q I r h;exact wpAny_assign_Name (afb I hN hi hx r (fun s' I'=>⟨_,H,I',h⟩) hf)
def gNil:TGs:=fun vs σ H Q=>vs=[]/\Q σ H
def a5b(t:TG)(u:TGs):TGs:=fun vs σ H Q=>∃v r,vs=v::r/\t v σ H fun σ' H'=>u r σ' H' Q
theorem awx:PGs X [] gNil:=by
 intro zv s σ H vs us Q I r h;obtain⟨e,h⟩:=h;subst e;cases r;exact assignInOrder_nil ⟨σ,H,I,h⟩
theorem atd{e:Expr}{es:List Expr}{t:TG}{u:TGs}(h1:PG X e t)(h2:PGs X es u)
  (hs:(assignEach (e::es) X.env).map (·.2)=assign e X.env::(assignEach es X.env).map (·.2):=by rfl):PGs X (e::es) (a5b t u):=by
 intro zv s σ H vs us Q I r h;obtain⟨v,vr,e1,h⟩:=h;subst e1;cases r with
 | cons r rr =>
  rw[hs];refine assignInOrder_cons (thn (h1 zv s σ H _ _ _ I r h) fun _ s1 ⟨σ1,H1,I1,q1⟩ =>?_)
  exact h2 zv s1 σ1 H1 _ _ Q I1 rr q1
def gTup(K:Fg9)(n:Nat)(t:TGs):TG:=fun v σ H Q=>∃a xs,v=.ref a/\SqT K H a xs/\xs.length=n/\t xs σ H Q
theorem azm{es:List Expr}{k:Nat}{t:TGs}{n:Nat}(hc:X.calm=true)(h:PGs X es t)
  (hn:(assignEach es X.env).length=n:=by rfl) (hst:(assignEach es X.env).findIdx? (·.1)=none:=by rfl):PG X (.Tuple es k pos) (gTup X.K n t):=by
 intro zv s σ H v u Q I r hw;obtain⟨a,xs,e1,hq,hl,hw⟩:=hw;subst e1;cases r;obtain⟨its,rv,ht,hz⟩:=I.tuple hq;refine assign_Tuple_tuple (I.ok.hd hc) ht (by simp[hn,<-hl,rv.length]) hst fun h' hx =>?_
 have I1:Inv X zv σ H { s with heap:=h' }:=I.kept (t':=s.toks) fun b o e=>hx b o (Nat.ne_of_lt (Heap.lt_size e)) e
 exact h zv _ σ H xs _ Q I1 (by simpa using rv) hw
def gSub(to ti:TE)(t:TSet):TG:=fun v σ H Q=>to σ H fun o H1=>ti σ H1 fun i H2=>t o i v H2 fun H3=>Q σ H3
theorem azn{o i:Expr}{to ti:TE}{t:TSet}(ho:PE X o to)(hi:PE X i ti)(hs:PSet X t)
  (ha:∀v,assign (.Subscript o i pos) X.env v=(do
   let ov <-holding [v] (eval o X.env)
   let iv <-holding [v,ov] (eval i X.env)
   standAt pos
   holding [v,ov,iv] (setItem ov iv v)
   release [v,ov,iv] []):=by intro _;rfl):PG X (.Subscript o i pos) (gSub to ti t):=by
 intro zv s σ H v u Q I r h;rw[ha];refine wpAny_bind (wpAny_holding (thn (ho zv s σ H _ I h) fun ov s1 ⟨x,H1,I1,r1,q1⟩ =>?_))
 refine wpAny_bind (wpAny_holding (thn (hi zv s1 σ H1 _ I1 q1) fun iv s2 ⟨y,H2,I2,r2,q2⟩ =>?_))
 refine wpAny_bind (wpAny_standAt (wpAny_bind (wpAny_holding (thn (hs zv s2 σ H2 x y v ov iv u _ I2 r1 r2 r q2) fun _ s3 ⟨H3,I3,q3⟩ =>?_))))
 exact wpAny_release ⟨σ,H3,I3,q3⟩
def tAsg(te:TE)(g:TG):TS:=fun D σ H=>te σ H fun x H1=>g x σ H1 D.nx
theorem au9{tg e:Expr}{te:TE}{g:TG}(he:PE X e te)(hg:PG X tg g)(hs:swapsWithSole [tg] e pos.line X.env=pure false:=by rfl)(hw:swappedStores [tg] e X.env=pure none:=by rfl)
  (h1:(assignEach [tg] X.env).map (·.2)=[assign tg X.env]:=by rfl):PS X (.Assign [tg] e pos) (tAsg te g):=by
 intro zv s σ H D I h;refine wpAny_Assign_stores (thn (he zv s σ H _ I h) fun v s1 ⟨x,H1,I1,r1,q1⟩ =>?_) hs hw
 rw[h1];exact thn (hg zv s1 σ H1 x v _ I1 r1 q1) fun _ s2 q=>q
theorem azg{i:Nat}{x:Str}{e:Expr}{te:TE}{pos':Pos}(hN:X.N.Nodup)(hi:X.N[i]? = some x)(hx:Loc X.env.scope x)(he:PE X e te)(hs:swapsWith e (some (.Name x pos')) pos.line X.env=pure false:=by rfl)(hf:X.fn x=true∨X.env.scope.names.lookup x=some .local:=by first | exact .inl rfl | exact .inr rfl | assumption) :
  PS X (.Assign [.Name x pos'] e pos) (tAsg te (axt i)):=by
 intro zv s σ H D I h;refine wpAny_Assign_Name (thn (he zv s σ H _ I h) fun v s1 ⟨y,H1,I1,r1,q1⟩ =>?_) hs
 exact afb I1 hN hi hx r1 (fun s2 I2=>⟨_,H1,I2,q1⟩) hf
def tPar(i j:Nat)(ta:TA):TS:=fun D σ H=>ta σ H fun vs H1=>∃v w,vs=[v,w]/\D.nx ((σ.set i (some v)).set j (some w)) H1
theorem azi{i j:Nat}{x y:Str}{a b:Expr}{ta:TA}{px py pt:Pos}{kt k2 pt2}(hc:X.calm=true)(hN:X.N.Nodup)(hi:X.N[i]? = some x)(hj:X.N[j]? = some y)(hij:i≠j)
  (hx:X.env.scope.names.lookup x=some .local) (hy:X.env.scope.names.lookup y=some .local) (ha:PA X [a,b] ta)
  (hw:swappedStores [.Tuple [.Name x px,.Name y py] kt pt] (.Tuple [a,b] k2 pt2) X.env=pure (some [x,y]))
  (hs:swapsWithSole [.Tuple [.Name x px,.Name y py] kt pt] (.Tuple [a,b] k2 pt2) pos.line X.env=pure false:=by rfl) :
  PS X (.Assign [.Tuple [.Name x px,.Name y py] kt pt] (.Tuple [a,b] k2 pt2) pos) (tPar i j ta):=by
 intro zv s σ H D I h;rw[exec_Assign_arm];refine wpAny_bind (wpAny_standAt ?_);rw[hs];refine wpAny_bind (wpAny_pure ?_);rw[if_neg (by decide)]
 refine wpAny_bind (Tuple_ (thn (ha _ zv s σ H _ I h) fun us s1 ⟨vs,H1,I1,r1,q1⟩ =>?_))
 obtain⟨v,w,e1,q1⟩:=q1;subst e1;obtain⟨u1,u2,rfl,rv,rw'⟩:∃u1 u2,us=[u1,u2]/\RelV v u1/\RelV w u2:=by
  cases r1 with
  | cons p q =>
   cases q with
   | cons p' q' =>
    cases q';exact⟨_,_,rfl,p,p'⟩
 refine wpAny_newObj_type ?_ (by show 2<=sizeLine;decide)
 have I2:Inv X zv σ H1 { s1 with heap:=s1.heap.push { cls:=.type "tuple", data:=.seq [u1,u2].toArray } }:=I1.kept (t':=s1.toks) fun b o e=>Heap.get?_push_of_some _ e
 rw[hw];refine wpAny_bind (wpAny_pure ?_);show wpAny (model X.prog X.w) X.A (do rule "assign.swapped-stores";let items <-unpackItems (.ref s1.heap.objs.size) 2 none;assignInOrder [fun v=>bindName X.env y v,fun v=>bindName X.env x v] items.reverse;pure Flow.next) _ _ _
 refine wpAny_bind (wpAny_rule (wpAny_bind (unpackItems_tuple (items := #[u1,u2]) (I.ok.hd hc) (IsTup.new s1.heap _) fun h' hx' =>?_)))
 have I3:=I2.kept (h':=h') (t':=s1.toks) fun b o e=>hx' b o (Nat.ne_of_lt (Heap.lt_size e)) e
 show wpAny _ _ (assignInOrder [fun v=>bindName X.env y v,fun v=>bindName X.env x v] [u2,u1] >>= fun _=>pure Flow.next) _ _ _
 refine wpAny_bind (assignInOrder_cons (wpAny_bindName (afb I3 hN hj (.inl hy) rw' (fun s2 I4 =>?_) (.inr hy))))
 refine assignInOrder_cons (wpAny_bindName (afb I4 hN hi (.inl hx) rv (fun s3 I5=>assignInOrder_nil (wpAny_pure ?_)) (.inr hx)))
 rw[List.set_comm _ _ (Ne.symm hij)] at I5;exact⟨_,H1,I5,q1⟩
def a3c(to ti te:TE)(tget:V->V->Hp->VK->Prop)(tip:TIp)(tset:TSet):TS:=fun D σ H=>to σ H fun o H1=>ti σ H1 fun i H2=>tget o i H2 fun x H3=>te σ H3 fun y H4=>tip x y H4 fun z H5=>tset o i z H5 fun H6=>D.nx σ H6
def PGet(X:Cx)(t:V->V->Hp->VK->Prop):Prop :=
 ∀(zv:List (Addr×Obj)) (s:Shared) (σ:St) (H:Hp) (o i:V) (ov iv:Value) (Q:VK),Inv X zv σ H s->RelV o ov->RelV i iv->t o i H Q ->
  wpAny (model X.prog X.w) X.A (getItem ov iv) (EP X zv σ Q) X.xe s
theorem awp{o i e:Expr}{to ti te:TE}{tget:V->V->Hp->VK->Prop}{tip:TIp}{tset:TSet}{op:Operator}{tpos:Pos}(ho:PE X o to)(hi:PE X i ti)(hg:PGet X tget)(he:PE X e te)(hp:PIp X op tip)(hs:PSet X tset)
  (ha:∀ov iv new,augStore i ov iv new=(do holding [new,ov,iv] (setItem ov iv new);release [new,ov,iv] [];pure .next):=by intros;rfl):PS X (.AugAssign (.Subscript o i tpos) op e pos) (a3c to ti te tget tip tset):=by
 intro zv s σ H D I h;refine wpAny_AugAssign_SubscriptAny (thn (ho zv s σ H _ I h) fun ov s1 ⟨x1,H1,I1,r1,q1⟩ =>?_) ha
 refine thn (hi zv s1 σ H1 _ I1 q1) fun iv s2 ⟨x2,H2,I2,r2,q2⟩ =>?_
 refine thn (hg zv s2 σ H2 x1 x2 ov iv _ I2 r1 r2 q2) fun old s3 ⟨x3,H3,I3,r3,q3⟩ =>?_
 refine thn (he zv s3 σ H3 _ I3 q3) fun v s4 ⟨x4,H4,I4,r4,q4⟩ =>?_
 refine thn (hp zv s4 σ H4 x3 x4 old v _ I4 r3 r4 q4) fun new s5 ⟨x5,H5,I5,r5,q5⟩ =>?_
 exact thn (hs zv s5 σ H5 x1 x2 x5 ov iv new _ I5 r1 r2 r5 q5) fun _ s6 ⟨H6,I6,q6⟩=>⟨σ,H6,I6,q6⟩
def ipI(f:Int->Int->Int):TIp:=fun x y H Q=>∃i j,x=.int i/\y=.int j/\Q (.int (f i j)) H
theorem a0z:PIp X .Add (ipI fun i j=>i+j):=by
 intro zv s σ H x y v u Q I r1 r2 h;obtain⟨i,j,e1,e2,q⟩:=h;subst e1;subst e2;obtain⟨t,rfl⟩:=r1;obtain⟨t',rfl⟩:=r2;exact iadd_int ⟨.int _,H,I.tok _,⟨_,rfl⟩,q⟩
end
section
variable{X:Cx}{pos:Pos}
def ayv(c:TT)(tb:TS):TS:=fun D σ H=>∃W:Nat->St->Hp->Prop,(∃m,W m σ H)/\∀m σ H,W m σ H ->
 c σ H fun b H1=>if b=true then ∃N:St->Hp->Prop,(∀σ' H',N σ' H'->∃m',m' < m/\W m' σ' H')/\tb { D with nx:=N,ct:=N,bk:=D.nx } σ H1 else D.nx σ H1
theorem ata{c:Expr}{body:List Stmt}{tc:TT}{tb:TS}(hp:PassesOwn (model X.prog X.w) X.A X.env X.xe)(hc:PT X c tc)(hb:PSs X body tb):PS X (.While c body [] pos) (ayv tc tb):=by
 intro zv s σ H D I h;obtain⟨W,⟨m0,w0⟩,turn⟩:=h;refine wpAny_While (codeAny_whileLoop (fun n s'=>∃σ' H',Inv X zv σ' H' s'/\W n σ' H') ?_ m0 ⟨σ,H,I,w0⟩)
 rintro n s1 ⟨σ1,H1,I1,w1⟩
 refine wpAny_passesOwn hp (thn (hc zv s1 σ1 H1 _ I1 (turn n σ1 H1 w1)) fun b s2 ⟨H2,I2,q2⟩ =>?_)
 cases b with
 | true =>
  obtain⟨N,hN,q2⟩:=q2;rw[if_pos rfl];refine wpAny_passesOwn hp (thn (hb zv s2 σ1 H2 _ I2 q2) fun f s3 q3 =>?_)
  cases f with
  | next =>
   obtain⟨σ3,H3,I3,n3⟩:=q3;obtain⟨m',hm,w3⟩:=hN σ3 H3 n3;exact⟨m',hm,σ3,H3,I3,w3⟩
  | cont =>
   obtain⟨σ3,H3,I3,n3⟩:=q3;obtain⟨m',hm,w3⟩:=hN σ3 H3 n3;exact⟨m',hm,σ3,H3,I3,w3⟩
  | brk=>exact q3
  | ret v=>exact q3
 | false =>
  rw[if_neg Bool.false_ne_true];exact wpAny_execs_nil ⟨σ1,H2,I2,q2⟩
end
structure It where
 go:Nat->Hp->Prop
 yld:Nat->Hp->V->Hp->Prop
 stop:Nat->Hp->Prop
def FpOk(X:Cx)(zv:List (Addr×Obj))(H:Hp)(b:Addr):Prop :=
 H b=none/\b≠X.env.locals/\b∉X.fs/\(b∈X.ex∨X.s₀.heap.objs.size<=b)/\(∀x c,X.env.cells.lookup x=some c->c≠b)/\∀p∈X.pn++zv,p.1≠b
theorem Inv.fpOk{X:Cx}{zv:List (Addr×Obj)}{σ:St}{H H':Hp}{s:Shared}{b:Addr}(I:Inv X zv σ H s)(hb:s.heap.objs.size<=b)(hn:H' b=none):FpOk X zv H' b:=by
 refine⟨hn,Nat.ne_of_gt (Nat.lt_of_lt_of_le I.lt hb),I.nofs hb,.inr (Nat.le_trans I.sz hb),fun x c e z =>?_,fun p hp z =>?_⟩
 ·obtain⟨v,q⟩:=I.cell x c e;exact absurd (Nat.lt_of_lt_of_le q.lt (by rw[z];exact hb)) (Nat.lt_irrefl _)
 ·exact absurd (Nat.lt_of_lt_of_le (Heap.lt_size (I.pin p hp).1) (by rw[z];exact hb)) (Nat.lt_irrefl _)
structure Turn (P:Program) (w:World) (K:Fg9) (tg:Expr) (J:It) (fp:List Addr) (it:Addr) (tn:Nat->Heap->Prop):Prop where
 mem:it∈fp
 obj:∀i h,tn i h->∀b∈fp,∃o,h.get? b=some o/\∀v,o.data≠.cell v
 keep:∀i h h',tn i h->(∀b∈fp,∀o,h.get? b=some o->h'.get? b=some o)->tn i h'
 item:∀(X:Cx),X.prog=P->X.w=w->X.K=K->X.calm=true->∀(i:Nat) (zv:List (Addr×Obj)) (s:Shared) (σ:St) (H:Hp) (E:Value->Shared->Prop),Inv X zv σ H s->(∀b∈fp,FpOk X zv H b)->tn i s.heap->J.go i H ->
  wpAny (model P w) X.A (pyNext (.ref it)) (fun r s1=>∃u,r=some u /\
   wpAny (model P w) X.A (letOwnedTupleGo tg (.ref it) u) (fun _ s2=>∃x H',Inv X zv σ H' s2/\RelV x u/\J.yld i H x H'/\tn (i+1) s2.heap/\∀b∈fp,H' b=none) E s1) E s
 done:∀(X:Cx),X.prog=P->X.w=w->X.K=K->X.calm=true->∀(i:Nat) (zv:List (Addr×Obj)) (s:Shared) (σ:St) (H:Hp) (E:Value->Shared->Prop),Inv X zv σ H s->(∀b∈fp,FpOk X zv H b)->tn i s.heap->J.stop i H ->
  wpAny (model P w) X.A (pyNext (.ref it)) (fun r s1=>r=none/\Inv X zv σ H s1) E s
 self:∀(A:Around) (i:Nat) (s:Shared) (Q:Value->Shared->Prop) (E:Value->Shared->Prop),tn i s.heap->Q (.ref it) s->wpAny (model P w) A (pyIter (.ref it)) Q E s
abbrev TI:=St->Hp->(It->Hp->Prop)->Prop
def PIE(X:Cx)(zv:List (Addr×Obj))(σ:St)(tg:Expr)(R:It->Hp->Prop)(itv:Value)(s2:Shared):Prop :=
 ∃(it:Addr) (fp:List Addr) (tn:Nat->Heap->Prop) (J:It) (H':Hp),itv=.ref it/\Inv X zv σ H' s2/\Turn X.prog X.w X.K tg J fp it tn/\tn 0 s2.heap/\(∀b∈fp,FpOk X zv H' b)/\R J H'
def PI(X:Cx)(tg iter:Expr)(wi:TI):Prop :=
 ∀(zv:List (Addr×Obj)) (s:Shared) (σ:St) (H:Hp) (R:It->Hp->Prop),Inv X zv σ H s->wi σ H R ->
  wpAny (model X.prog X.w) X.A (eval iter X.env) (fun v s1=>wpAny (model X.prog X.w) X.A (pyIter v) (PIE X zv σ tg R) X.xe s1) X.xe s
theorem axr{M:Model}{A:Around}{E:Value->Shared->Prop}{s:Shared}{tg:Expr}{it:Addr}{u:Value}{o:Obj}{n:String}{vs:Array Value}{Q:Unit->Shared->Prop}(ho:s.heap.get? it=some o)(hc:o.cls=.type n)(hd:o.data=.fields vs)
  (hn:["enumerate","zip","dict_itemiterator","dict_reverseitemiterator","odict_iterator","itertools.zip_longest","itertools.pairwise"].contains n=false) (hQ:Q () s):wpAny M A (letOwnedTupleGo tg (.ref it) u) Q E s:=by
 unfold letOwnedTupleGo;cases tg <;> first
  | exact wpAny_pure hQ
  | (cases u <;> first
    | exact wpAny_pure hQ
    | (refine wpAny_bind (wpAny_load ho ?_)
       rw[hc,hd];show wpAny M A (if (["enumerate","zip","dict_itemiterator","dict_reverseitemiterator","odict_iterator","itertools.zip_longest","itertools.pairwise"].contains n&&vs[0]? == some (rawInt _))=true then _ else _) Q E s
       rw[if_neg (by intro h;rw[hn,Bool.false_and] at h;cases h)]
       exact wpAny_pure hQ))
def Itl(K:Fg9)(a:Addr):It :=
 ⟨fun i H=>∃xs x,SqL K H a xs/\xs[i]? = some x,fun i H x H'=>H'=H/\∀xs,SqL K H a xs->xs[i]? = some x,fun i H=>∃xs,SqL K H a xs/\xs.length<=i⟩
def Itt(K:Fg9)(a:Addr):It :=
 ⟨fun i H=>∃xs x,SqT K H a xs/\xs[i]? = some x,fun i H x H'=>H'=H/\∀xs,SqT K H a xs->xs[i]? = some x,fun i H=>∃xs,SqT K H a xs/\xs.length<=i⟩
def Itr(lo:Int)(n:Nat):It:=⟨fun i _=>i < n,fun i H x H'=>H'=H/\x=.int (lo+i),fun i _=>n<=i⟩
theorem aou{P:Program}{w:World}{K:Fg9}{tg:Expr}(a it:Addr):Turn P w K tg (Itl K a) [it] it (fun i h=>h.IsListIter it a i) where
 mem:=by simp
 obj:=fun i h st b hb=>by
  have e:b=it:=by simpa using hb
  subst e;obtain⟨o,e,c,d⟩:=st;exact⟨o,e,fun v z=>by rw[d] at z;cases z⟩
 keep:=fun i h h' st k=>st.at fun o e=>k it (by simp) o e
 item:=by
  intro X hP hw hK hc i zv s σ H E I hf st hg;subst hP hw hK;obtain⟨xs,x,hq,hx⟩:=hg;obtain⟨its,rv,p,hz⟩:=I.list hq;obtain⟨u,hu,ru⟩:=rv.get hx;obtain⟨f0,f1,f2,f3,f4,f5⟩:=hf it (by simp)
  refine wpAny_pyNext_list_item st p.isList (x:=u) (by simpa using hu) fun h' st' sb =>?_
  have I1:Inv X zv σ H { s with heap:=h' }:=I.turned (t':=s.toks) (fun b o hb e=>(sb.2 b hb).trans e) f0 f1 f3 f4 f5
  obtain⟨o,e,c,d⟩:=id st';exact⟨u,rfl,axr (s:={ s with heap:=h' }) e c d (by decide) ⟨x,H,I1,ru,⟨rfl,fun ys hy=>by rw[I.list_inj hy hq];exact hx⟩,st',fun b hb=>(hf b hb).1⟩⟩
 done:=by
  intro X hP hw hK hc i zv s σ H E I hf st hg;subst hP hw hK;obtain⟨xs,hq,hx⟩:=hg;obtain⟨its,rv,p,hz⟩:=I.list hq;obtain⟨f0,f1,f2,f3,f4,f5⟩:=hf it (by simp)
  have hl:=rv.length;exact wpAny_pyNext_list_end (I.ok.hd hc) st p.isList (by simp;omega) fun h' eb=>⟨rfl,I.turned (t':=s.toks) (fun b o hb e=>eb b o hb e) f0 f1 f3 f4 f5⟩
 self:=fun _ _ _ _ _ st h=>wpAny_pyIter_listiter st h
theorem ang{P:Program}{w:World}{K:Fg9}{tg:Expr}(a it:Addr):Turn P w K tg (Itt K a) [it] it (fun i h=>h.IsTupleIter it a i) where
 mem:=by simp
 obj:=fun i h st b hb=>by
  have e:b=it:=by simpa using hb
  subst e;obtain⟨o,e,c,d⟩:=st;exact⟨o,e,fun v z=>by rw[d] at z;cases z⟩
 keep:=fun i h h' st k=>st.at fun o e=>k it (by simp) o e
 item:=by
  intro X hP hw hK hc i zv s σ H E I hf st hg;subst hP hw hK;obtain⟨xs,x,hq,hx⟩:=hg;obtain⟨its,rv,p,hz⟩:=I.tuple hq;obtain⟨u,hu,ru⟩:=rv.get hx;obtain⟨f0,f1,f2,f3,f4,f5⟩:=hf it (by simp)
  refine wpAny_pyNext_tuple_item st (show s.heap.IsTuple a its.toArray from p) (x:=u) (by simpa using hu) fun h' st' sb =>?_
  have I1:Inv X zv σ H { s with heap:=h' }:=I.turned (t':=s.toks) (fun b o hb e=>(sb.2 b hb).trans e) f0 f1 f3 f4 f5
  obtain⟨o,e,c,d⟩:=id st';exact⟨u,rfl,axr (s:={ s with heap:=h' }) e c d (by decide) ⟨x,H,I1,ru,⟨rfl,fun ys hy=>by rw[I.tuple_inj hy hq];exact hx⟩,st',fun b hb=>(hf b hb).1⟩⟩
 done:=by
  intro X hP hw hK hc i zv s σ H E I hf st hg;subst hP hw hK;obtain⟨xs,hq,hx⟩:=hg;obtain⟨its,rv,p,hz⟩:=I.tuple hq;obtain⟨f0,f1,f2,f3,f4,f5⟩:=hf it (by simp)
  have hl:=rv.length;exact wpAny_pyNext_tuple_end (I.ok.hd hc) st (show s.heap.IsTuple a its.toArray from p) (by simp;omega) fun h' eb=>⟨rfl,I.turned (t':=s.toks) (fun b o hb e=>eb b o hb e) f0 f1 f3 f4 f5⟩
 self:=fun _ _ _ _ _ st h=>wpAny_pyIter_tupleiter st h
theorem anh{P:Program}{w:World}{K:Fg9}{tg:Expr}(it:Addr)(lo:Int)(n:Nat):Turn P w K tg (Itr lo n) [it] it (fun i h=>IsRangeIter h it (lo+(i:Nat)*1) ((n:Int) - (i:Nat)) 1) where
 mem:=by simp
 obj:=fun i h st b hb=>by
  have e:b=it:=by simpa using hb
  subst e;exact⟨_,st,fun v z=>by
   have z':Data.fields _=Data.cell v:=z;cases z'⟩
 keep:=fun i h h' st k=>k it (by simp) _ st
 item:=by
  intro X hP hw hK hc i zv s σ H E I hf st hg;subst hP hw hK;obtain⟨f0,f1,f2,f3,f4,f5⟩:=hf it (by simp)
  have W:=Walks.range (prog:=X.prog) (w:=X.w) (I.ok.hd hc) it lo 1 n;refine W.item i s _ _ hg st fun v h' tk hv st' kk =>?_
  obtain⟨t,rfl⟩:=hv;have I1:Inv X zv σ H { s with heap:=h',toks:=tk }:=I.turned (fun b o hb e=>kk b o (by simpa using hb) e) f0 f1 f3 f4 f5
  refine⟨_,rfl,axr (s:={ s with heap:=h',toks:=tk }) (n := "range_iterator") st' rfl rfl (by decide) ⟨.int (lo+i),H,I1,⟨t,?_⟩,⟨rfl,rfl⟩,st',fun b hb=>(hf b hb).1⟩⟩
  rw[Int.mul_one]
 done:=by
  intro X hP hw hK hc i zv s σ H E I hf st hg;subst hP hw hK;obtain⟨f0,f1,f2,f3,f4,f5⟩:=hf it (by simp)
  exact wpAny_pyNext_range_end (I.ok.hd hc) st (by have:n<=i:=hg;omega) fun h' eb=>⟨rfl,I.turned (t':=s.toks) (fun b o hb e=>eb b o hb e) f0 f1 f3 f4 f5⟩
 self:=fun _ _ _ _ _ st h=>wpAny_pyIter_rangeiter st h
section
variable{X:Cx}{tg:Expr}
def a4u(K:Fg9)(tl:TE):TI:=fun σ H R=>tl σ H fun x H1=>∃a,x=.ref a/\(∃xs,SqL K H1 a xs)/\R (Itl K a) H1
def iTup(K:Fg9)(tl:TE):TI:=fun σ H R=>tl σ H fun x H1=>∃a,x=.ref a/\(∃xs,SqT K H1 a xs)/\R (Itt K a) H1
theorem apo{l:Expr}{tl:TE}(hl:PE X l tl):PI X tg l (a4u X.K tl):=by
 intro zv s σ H R I h;refine thn (hl zv s σ H _ I h) fun v s1 ⟨x,H1,I1,r1,q1⟩ =>?_
 obtain⟨a,e,⟨xs,hq⟩,q⟩:=q1;subst e;cases r1;obtain⟨its,rv,p,hz⟩:=I1.list hq;refine wpAny_pyIter_list p.isList ?_;refine⟨s1.heap.objs.size,[s1.heap.objs.size],_,_,H1,rfl,I1.kept (t':=s1.toks) fun b o e=>Heap.get?_push_of_some _ e,aou a _,⟨_,Heap.get?_push_size _ rfl,rfl,rfl⟩,fun b hb =>?_,q⟩
 have e:b=s1.heap.objs.size:=by simpa using hb
 subst e;exact I1.fpOk (Nat.le_refl _) (I1.hok.fresh (Nat.le_refl _))
theorem azl{l:Expr}{tl:TE}(hl:PE X l tl):PI X tg l (iTup X.K tl):=by
 intro zv s σ H R I h;refine thn (hl zv s σ H _ I h) fun v s1 ⟨x,H1,I1,r1,q1⟩ =>?_
 obtain⟨a,e,⟨xs,hq⟩,q⟩:=q1;subst e;cases r1;obtain⟨its,rv,p,hz⟩:=I1.tuple hq;refine wpAny_pyIter_tuple (show s1.heap.IsTuple a its.toArray from p) ?_
 refine⟨s1.heap.objs.size,[s1.heap.objs.size],_,_,H1,rfl,I1.kept (t':=s1.toks) fun b o e=>Heap.get?_push_of_some _ e,ang a _,⟨_,Heap.get?_push_size _ rfl,rfl,rfl⟩,fun b hb =>?_,q⟩
 have e:b=s1.heap.objs.size:=by simpa using hb
 subst e;exact I1.fpOk (Nat.le_refl _) (I1.hok.fresh (Nat.le_refl _))
theorem al3{zv:List (Addr×Obj)}{σ:St}{H:Hp}{s:Shared}{R:It->Hp->Prop}{E:Value->Shared->Prop}{lo hi:Int}{t u v:Tok}{tk:Nat}(I:Inv X zv σ H s)(h1 : -(2 ^ 62)<=lo)(h2:lo < 2 ^ 62)(h3 : -(2 ^ 62)<=hi)(h4:hi < 2 ^ 62)
  (q:R (Itr lo (hi - lo).toNat) H):wpAny (model X.prog X.w) X.A (pyIter (.ref s.heap.objs.size)) (PIE X zv σ tg R) E { s with heap:=s.heap.push { cls:=.type "range", data:=.fields #[.int lo t,.int hi u,.int 1 v] },toks:=tk }:=by
 refine wpAny_pyIter_range (IsRange.new ..) (small_one h1 h2 h3 h4) ?_;have I1:Inv X zv σ H { s with heap:=s.heap.push { cls:=.type "range", data:=.fields #[.int lo t,.int hi u,.int 1 v] },toks:=tk }:=I.kept fun b o e=>Heap.get?_push_of_some _ e
 refine⟨(s.heap.push { cls:=.type "range", data:=.fields #[.int lo t,.int hi u,.int 1 v] }).objs.size,[(s.heap.push { cls:=.type "range", data:=.fields #[.int lo t,.int hi u,.int 1 v] }).objs.size],_,_,H,rfl,
  I1.kept (t':=tk) fun b o e=>Heap.get?_push_of_some _ e,anh _ lo (hi - lo).toNat,?_,fun b hb =>?_,q⟩
 ·have e1:lo+((0:Nat):Int)*1=lo:=by simp
  have e2:(((hi - lo).toNat:Nat):Int) - ((0:Nat):Int)=Builtin.Range.rangeSize lo hi 1:=by rw[rangeSize_one];split <;> omega
  show IsRangeIter _ _ (lo+((0:Nat):Int)*1) ((((hi - lo).toNat:Nat):Int) - ((0:Nat):Int)) 1;rw[e1,e2];exact Heap.get?_push_size _ rfl
 ·have e:b=(s.heap.push { cls:=.type "range", data:=.fields #[.int lo t,.int hi u,.int 1 v] }).objs.size:=by simpa using hb
  subst e;exact I1.fpOk (Nat.le_refl _) (I1.hok.fresh (Nat.le_refl _))
def a4t(ta:TA):TI:=fun σ H R=>ta σ H fun vs H1=>∃j:Int,vs=[.int j] /\ -(2 ^ 62)<=j/\j < 2 ^ 62/\R (Itr 0 j.toNat) H1
def a4s(ta:TA):TI:=fun σ H R=>ta σ H fun vs H1=>∃i j:Int,vs=[.int i,.int j]/\(-(2 ^ 62)<=i/\i < 2 ^ 62 /\ -(2 ^ 62)<=j/\j < 2 ^ 62)/\R (Itr i (j - i).toNat) H1
theorem apn{a:Expr}{ta:TA}{p pos:Pos}(hg:Gl X "range")(hm:X.mg "range" = none)(ha:PA X [a] ta)(hs:starEach [a] X.env=[(false,eval a X.env)]:=by rfl):PI X tg (.Call (.Name "range" p) [a] [] pos) (a4t ta):=by
 intro zv s σ H R I h;refine Call_ (aer I hg hm boot_range (PyProof.Rows.callWith_type1 (thn (ha pos zv s σ H _ I h) fun us s1 ⟨vs,H1,I1,r1,q1⟩ =>?_) hs rfl))
 obtain⟨j,e,q1,q2,q⟩:=q1;subst e;cases r1 with
 | cons r rr =>
  cases rr;obtain⟨t,rfl⟩:=r;exact call_range_1 (al3 I1 (by omega) (by omega) q1 q2 (by simpa using q))
theorem apm{a b:Expr}{ta:TA}{p pos:Pos}(hg:Gl X "range")(hm:X.mg "range" = none)(ha:PA X [a,b] ta)(hs:starEach [a,b] X.env=[(false,eval a X.env),(false,eval b X.env)]:=by rfl)(hs2:starEach [b] X.env=[(false,eval b X.env)]:=by rfl) :
  PI X tg (.Call (.Name "range" p) [a,b] [] pos) (a4s ta):=by
 intro zv s σ H R I h;refine Call_ (aer I hg hm boot_range (PyProof.Rows.callWith_type1 (thn (ha pos zv s σ H _ I h) fun us s1 ⟨vs,H1,I1,r1,q1⟩ =>?_) (by rw[hs,hs2]) (by rw[hs2];rfl)))
 obtain⟨i,j,e,⟨q1,q2,q3,q4⟩,q⟩:=q1;subst e;cases r1 with
 | cons r rr =>
  cases rr with
  | cons r' rr =>
   cases rr;obtain⟨t,rfl⟩:=r;obtain⟨t',rfl⟩:=r';exact call_range_2 (al3 I1 q1 q2 q3 q4 q)
def tFor(wi:TI)(g:TG)(tb:TS):TS:=fun D σ H=>wi σ H fun J H1=>∃W:Nat->Nat->St->Hp->Prop,(∃m,W 0 m σ H1)/\∀i m σ H,W i m σ H ->
 (J.stop i H/\D.nx σ H)∨(J.go i H/\∃N:St->Hp->Prop,(∀σ' H',N σ' H'->∃m',m' < m/\W (i+1) m' σ' H')/\∀x H',J.yld i H x H'->g x σ H' fun σ2 H2=>tb { D with nx:=N,ct:=N,bk:=D.nx } σ2 H2)
def ai7(fp:List Addr)(h:Heap):List (Addr×Obj):=fp.filterMap fun b=>(h.get? b).map fun o=>(b,o)
theorem acb{fp:List Addr}{h:Heap}{b:Addr}{o:Obj}(hb:b∈fp)(e:h.get? b=some o):(b,o)∈ai7 fp h:=List.mem_filterMap.mpr ⟨b,hb,by rw[e];rfl⟩
theorem apz{fp:List Addr}{h:Heap}{p:Addr×Obj}(hp:p∈ai7 fp h):p.1∈fp/\h.get? p.1=some p.2:=by
 obtain⟨b,hb,e⟩:=List.mem_filterMap.mp hp;cases q:h.get? b with
 | none=>rw[q] at e;cases e
 | some o =>
  rw[q] at e;have e':(b,o)=p:=Option.some.inj e;subst e';exact⟨hb,q⟩
theorem Inv.pinned{zv:List (Addr×Obj)}{σ:St}{H:Hp}{s:Shared}{fp:List Addr}(I:Inv X zv σ H s)(hf:∀b∈fp,FpOk X zv H b)(ho:∀b∈fp,∃o,s.heap.get? b=some o/\∀v,o.data≠.cell v):Inv X (zv++ai7 fp s.heap) σ H s :=
 I.pins_of fun p hp=>(List.mem_append.mp hp).elim (fun z=>I.pin p (List.mem_append_right _ z)) fun z=>by
  obtain⟨hb,e⟩:=apz z;obtain⟨f0,f1,f2,_⟩:=hf p.1 hb;obtain⟨o,e',d⟩:=ho p.1 hb;rw[e] at e';cases e';exact⟨e,f0,f1,f2,d⟩
theorem Inv.unpinned{zv pl:List (Addr×Obj)}{σ:St}{H:Hp}{s:Shared}(I:Inv X (zv++pl) σ H s):Inv X zv σ H s:=I.pins_of fun p hp=>I.pin p (List.mem_append_right _ (List.mem_append_left _ hp))
theorem azj{iter:Expr}{body:List Stmt}{wi:TI}{g:TG}{tb:TS}{pos:Pos}(hp:PassesOwn (model X.prog X.w) X.A X.env X.xe)(hc:X.calm=true)(hi:PI X tg iter wi)(hg:PG X tg g)(hb:PSs X body tb)
  (hs:∀x,foldedSetIterable iter X.env x=pure x:=by intro _;rfl):PS X (.For tg iter body [] pos) (tFor wi g tb):=by
 intro zv s σ H D I h;refine wpAny_For (thn (hi zv s σ H _ I h) fun v s1 h1=>thn h1 fun itv s2 h2 =>?_) hs
 obtain⟨it,fp,tn,J,H2,e,I2,T,st2,f2,W,⟨m0,w0⟩,turn⟩:=h2;subst e;have stat:∀{H':Hp},(∀b∈fp,H' b=none)->∀b∈fp,FpOk X zv H' b:=fun hn b hb=>⟨hn b hb,(f2 b hb).2⟩
 refine codeAny_forLoop_any (fun n s'=>∃i σ' H',Inv X zv σ' H' s'/\tn i s'.heap/\(∀b∈fp,H' b=none)/\W i n σ' H') ?_ m0 ⟨0,σ,H2,I2,st2,fun b hb=>(f2 b hb).1,w0⟩
 rintro n s3 ⟨i,σ3,H3,I3,st3,fr3,w3⟩
 rcases turn i n σ3 H3 w3 with⟨stop,qn⟩ | ⟨go,N,hN,step⟩
 ·refine wpAny_passesOwn hp (thn (T.done X rfl rfl rfl hc i zv s3 σ3 H3 X.xe I3 (stat fr3) st3 stop) fun r s4 ⟨hr,I4⟩ =>?_)
  subst hr;exact wpAny_execs_nil ⟨σ3,H3,I4,qn⟩
 ·refine wpAny_passesOwn hp (thn (T.item X rfl rfl rfl hc i zv s3 σ3 H3 X.xe I3 (stat fr3) st3 go) fun r s4 ⟨u,hr,h4⟩ =>?_)
  subst hr;refine wpAny_passesOwn hp (thn h4 fun _ s5 ⟨x,H5,I5,r5,y5,st5,fr5⟩ =>?_)
  have I5':=I5.pinned (stat fr5) (T.obj _ _ st5);refine wpAny_passesOwn hp (thn (hg _ s5 σ3 H5 x u _ I5' r5 (step x H5 y5)) fun _ s6 ⟨σ6,H6,I6,q6⟩ =>?_)
  refine wpAny_passesOwn hp (thn (hb _ s6 σ6 H6 _ I6 q6) fun f s7 q7 =>?_)
  have again:∀{σ7:St} {H7:Hp},Inv X (zv++ai7 fp s5.heap) σ7 H7 s7->N σ7 H7->∃m,m < n/\∃i σ' H',Inv X zv σ' H' s7/\tn i s7.heap/\(∀b∈fp,H' b=none)/\W i m σ' H':=fun{σ7 H7} I7 n7=>by
   obtain⟨m',hm,w7⟩:=hN σ7 H7 n7;refine⟨m',hm,i+1,σ7,H7,I7.unpinned,T.keep _ _ _ st5 fun b hb o e=>(I7.pin (b,o) (List.mem_append_right _ (List.mem_append_right _ (acb hb e)))).1,fun b hb =>?_,w7⟩
   obtain⟨o,e,d⟩:=T.obj _ _ st5 b hb;exact(I7.pin (b,o) (List.mem_append_right _ (List.mem_append_right _ (acb hb e)))).2.1
  cases f with
  | next=>obtain⟨σ7,H7,I7,n7⟩:=q7;exact again I7 n7
  | cont=>obtain⟨σ7,H7,I7,n7⟩:=q7;exact again I7 n7
  | brk=>obtain⟨σ7,H7,I7,q7⟩:=q7;exact⟨σ7,H7,I7.unpinned,q7⟩
  | ret v=>obtain⟨x7,σ7,H7,I7,r7,q7⟩:=q7;exact⟨x7,σ7,H7,I7.unpinned,r7,q7⟩
end
abbrev R2:=V->V->Hp->VK->Prop
def OpR(X:Cx)(f:Value->Value->Sem Value)(r:R2):Prop :=
 ∀(zv:List (Addr×Obj)) (s:Shared) (σ:St) (H:Hp) (x y:V) (v u:Value) (Q:VK),Inv X zv σ H s->RelV x v->RelV y u->r x y H Q ->
  wpAny (model X.prog X.w) X.A (f v u) (EP X zv σ Q) X.xe s
def UnR(X:Cx)(f:Value->Sem Value)(r:V->Hp->VK->Prop):Prop :=
 ∀(zv:List (Addr×Obj)) (s:Shared) (σ:St) (H:Hp) (x:V) (v:Value) (Q:VK),Inv X zv σ H s->RelV x v->r x H Q ->
  wpAny (model X.prog X.w) X.A (f v) (EP X zv σ Q) X.xe s
def ab6(X:Cx)(f:Value)(r:List V->Hp->VK->Prop):Prop :=
 ∀(zv:List (Addr×Obj)) (s:Shared) (σ:St) (H:Hp) (xs:List V) (us:List Value) (Q:VK),Inv X zv σ H s->Vals xs us->r xs H Q ->
  wpAny (model X.prog X.w) X.A (call f us) (EP X zv σ Q) X.xe s
def tOp(r:R2)(ta tb:TE):TE:=fun σ H Q=>ta σ H fun x H1=>tb σ H1 fun y H2=>r x y H2 Q
def tUn(r:V->Hp->VK->Prop)(ta:TE):TE:=fun σ H Q=>ta σ H fun x H1=>r x H1 Q
def rI(C:Int->Int->Prop)(g:Int->Int->V):R2:=fun x y H Q=>∃i j,x=.int i/\y=.int j/\C i j/\Q (g i j) H
def rI0(g:Int->Int->V):R2:=fun x y H Q=>∃i j,x=.int i/\y=.int j/\Q (g i j) H
def rU(g:Int->V):V->Hp->VK->Prop:=fun x H Q=>∃i,x=.int i/\Q (g i) H
section
variable{X:Cx}{a b c:Expr}{ta tb tc:TE}{pos:Pos}
theorem binT(ha:PE X a ta)(hb:PE X b tb){zv:List (Addr×Obj)}{s:Shared}{σ:St}{H:Hp}{R:V->V->Hp->Prop}(I:Inv X zv σ H s)
  (h:ta σ H fun x H1=>tb σ H1 fun y H2=>R x y H2) {Q:Value->Shared->Prop} {f:Value->Value->Sem Value}
  (hf:∀v u s2 x y H2,Inv X zv σ H2 s2->RelV x v->RelV y u->R x y H2->wpAny (model X.prog X.w) X.A (f v u) Q X.xe s2) :
  wpAny (model X.prog X.w) X.A (eval a X.env) (fun v s₁=>wpAny (model X.prog X.w) X.A (eval b X.env) (fun u s₂=>wpAny (model X.prog X.w) X.A (f v u) Q X.xe s₂) X.xe s₁) X.xe s:=by
 refine thn (ha zv s σ H _ I h) fun v s1 ⟨x,H1,I1,r1,q1⟩ =>?_
 refine thn (hb zv s1 σ H1 _ I1 q1) fun u s2 ⟨y,H2,I2,r2,q2⟩ =>?_
 exact hf v u s2 x y H2 I2 r1 r2 q2
theorem a3o{op:Operator}{r:R2}(ho:OpR X (binaryOp op) r)(ha:PE X a ta)(hb:PE X b tb):PE X (.BinOp a op b pos) (tOp r ta tb):=by
 intro zv s σ H Q I h;exact wpAny_BinOp (binT ha hb I h fun v u s2 x y H2 I2 rx ry q=>ho zv s2 σ H2 x y v u Q I2 rx ry q)
theorem a3n{op:UnaryOp}{r:V->Hp->VK->Prop}(ho:UnR X (unaryOp op) r)(ha:PE X a ta):PE X (.UnaryOp op a pos) (tUn r ta):=by
 intro zv s σ H Q I h;exact UnaryOp_ (thn (ha zv s σ H _ I h) fun v s1 ⟨x,H1,I1,r1,q1⟩=>ho zv s1 σ H1 x v Q I1 r1 q1)
theorem opI{f:Value->Value->Sem Value}{C:Int->Int->Prop}{g:Int->Int->Int}
  (rule:∀(i j:Int) (t u:Tok) (s:Shared) (Q:Value->Shared->Prop) (E:Value->Shared->Prop),C i j->Q (.int (g i j) s.toks) { s with toks:=s.toks+1 }->wpAny (model X.prog X.w) X.A (f (.int i t) (.int j u)) Q E s) :
  OpR X f (rI C fun i j=>.int (g i j)):=by
 intro zv s σ H x y v u Q I rx ry h;obtain⟨i,j,rfl,rfl,hc,q⟩:=h;obtain⟨t,rfl⟩:=rx;obtain⟨t',rfl⟩:=ry;exact rule i j t t' s _ _ hc ⟨.int (g i j),H,I.tok _,⟨_,rfl⟩,q⟩
theorem opI0{f:Value->Value->Sem Value}{g:Int->Int->Int}
  (rule:∀(i j:Int) (t u:Tok) (s:Shared) (Q:Value->Shared->Prop) (E:Value->Shared->Prop),Q (.int (g i j) s.toks) { s with toks:=s.toks+1 }->wpAny (model X.prog X.w) X.A (f (.int i t) (.int j u)) Q E s) :
  OpR X f (rI0 fun i j=>.int (g i j)):=by
 intro zv s σ H x y v u Q I rx ry h;obtain⟨i,j,rfl,rfl,q⟩:=h;obtain⟨t,rfl⟩:=rx;obtain⟨t',rfl⟩:=ry;exact rule i j t t' s _ _ ⟨.int (g i j),H,I.tok _,⟨_,rfl⟩,q⟩
theorem opB0{f:Value->Value->Sem Value}{g:Int->Int->Bool}
  (rule:∀(i j:Int) (t u:Tok) (s:Shared) (Q:Value->Shared->Prop) (E:Value->Shared->Prop),Q (.bool (g i j)) s->wpAny (model X.prog X.w) X.A (f (.int i t) (.int j u)) Q E s) :
  OpR X f (rI0 fun i j=>.bl (g i j)):=by
 intro zv s σ H x y v u Q I rx ry h;obtain⟨i,j,rfl,rfl,q⟩:=h;obtain⟨t,rfl⟩:=rx;obtain⟨t',rfl⟩:=ry;exact rule i j t t' s _ _ ⟨.bl (g i j),H,I,rfl,q⟩
def CPow(i j:Int):Prop:=0<=j/\j<=1000000/\i.natAbs < 2 ^ 64
def CMul(i j:Int):Prop:=(-(2 ^ 64) < i/\i < 2 ^ 64)∨(-(2 ^ 64) < j/\j < 2 ^ 64)
theorem CMul.ok{i j:Int}(h:CMul i j):IntMulOk i j:=by
 rcases h with⟨h1,h2⟩ | ⟨h1,h2⟩
 ·exact .of_left (intBits_le_64 h1 h2)
 ·exact .of_right (intBits_le_64 h1 h2)
theorem az6:OpR X (binaryOp .Add) (rI0 fun i j=>.int (i+j)):=opI0 fun _ _ _ _ _ _ _ q=>add_int q
theorem az0:OpR X (binaryOp .Sub) (rI0 fun i j=>.int (i - j)):=opI0 fun _ _ _ _ _ _ _ q=>sub_int q
theorem az3:OpR X (binaryOp .Mult) (rI CMul fun i j=>.int (i*j)):=opI fun _ _ _ _ _ _ _ hc q=>mul_int q hc.ok
theorem az4:OpR X (binaryOp .Mod) (rI (fun _ j=>0 < j) fun i j=>.int (i % j)):=opI fun i j _ _ _ _ _ hc q=>by
 have h1:(0:Int) < j:=hc;exact mod_int' (by omega) (by rw[Int.fmod_eq_emod_of_nonneg i (by omega)];exact q)
theorem az2:OpR X (binaryOp .Pow) (rI CPow fun i j=>.int (i ^ j.toNat)):=opI fun _ _ _ _ _ _ _ hc q=>pow_int_small hc.1 hc.2.1 hc.2.2 q
theorem unI{f:Value->Sem Value}{g:Int->Int}
  (rule:∀(i:Int) (t:Tok) (s:Shared) (Q:Value->Shared->Prop) (E:Value->Shared->Prop),Q (.int (g i) s.toks) { s with toks:=s.toks+1 }->wpAny (model X.prog X.w) X.A (f (.int i t)) Q E s) :
  UnR X f (rU fun i=>.int (g i)):=by
 intro zv s σ H x v Q I rx h;obtain⟨i,rfl,q⟩:=h;obtain⟨t,rfl⟩:=rx;exact rule i t s _ _ ⟨.int (g i),H,I.tok _,⟨_,rfl⟩,q⟩
theorem ays:UnR X (unaryOp .USub) (rU fun i=>.int (-i)):=unI fun _ _ _ _ _ q=>neg_int q
end
section
variable{X:Cx}{a b c:Expr}{ta tb tc:TE}{pos:Pos}
theorem a3t:OpR X (compareOp .Lt) (rI0 fun i j=>.bl (decide (i < j))):=opB0 fun _ _ _ _ _ _ _ q=>lt_int q
theorem atl:OpR X (compareOp .LtE) (rI0 fun i j=>.bl (decide (i<=j))):=opB0 fun _ _ _ _ _ _ _ q=>le_int q
theorem a3u:OpR X (compareOp .Gt) (rI0 fun i j=>.bl (decide (j < i))):=opB0 fun _ _ _ _ _ _ _ q=>gt_int q
theorem a3v:OpR X (compareOp .GtE) (rI0 fun i j=>.bl (decide (j<=i))):=opB0 fun _ _ _ _ _ _ _ q=>ge_int q
theorem lu(b:Expr){op:CmpOp}(h:op≠.In:=by decide)(h2:op≠.NotIn:=by decide):behindInMarks op b=false:=by
 have e1:(op==CmpOp.In)=false:=by cases op <;> first | rfl | exact absurd rfl h
 have e2:(op==CmpOp.NotIn)=false:=by cases op <;> first | rfl | exact absurd rfl h2
 cases b <;> simp[behindInMarks,e1,e2]
theorem aw3{op:CmpOp}{r:R2}(ho:OpR X (compareOp op) r)(ha:PE X a ta)(hb:PE X b tb)(hm:behindInMarks op b=false):PE X (.Compare a [op] [b] pos) (tOp r ta tb):=by
 intro zv s σ H Q I h;exact wpAny_Compare1 (binT ha hb I h fun v u s2 x y H2 I2 rx ry q=>ho zv s2 σ H2 x y v u Q I2 rx ry q) hm
def a2w(t:TE):TT:=fun σ H Q=>t σ H fun x H'=>∃k,x=.bl k/\Q k H'
theorem awl{op:CmpOp}{r:R2}(ho:OpR X (compareOp op) r)(ha:PE X a ta)(hb:PE X b tb)(hm:behindInMarks op b=false):PT X (.Compare a [op] [b] pos) (a2w (tOp r ta tb)):=by
 intro zv s σ H Q I h;refine wpAny_isTrue_Compare1 (thn (ha zv s σ H _ I h) fun v s1 ⟨x,H1,I1,r1,q1⟩=>thn (hb zv s1 σ H1 _ I1 q1) fun u s2 ⟨y,H2,I2,r2,q2⟩ =>
  thn (ho zv s2 σ H2 x y v u _ I2 r1 r2 q2) fun c s3 ⟨z,H3,I3,r3,k,e,q3⟩ =>?_) hm
 subst e;cases r3;exact wpAny_truthy_bool ⟨H3,I3,q3⟩
def au3(r r':R2)(ta tb tc:TE):TE:=fun σ H Q=>ta σ H fun x H1=>tb σ H1 fun y H2=>r x y H2 fun z H3=>∃k,z=.bl k /\
 (if k=true then tc σ H3 fun w' H4=>r' y w' H4 Q else Q (.bl false) H3)
theorem atg{op op':CmpOp}{r r':R2}(ho:OpR X (compareOp op) r)(ho':OpR X (compareOp op') r')(ha:PE X a ta)(hb:PE X b tb)(hc:PE X c tc)
  (hm:lastMarks [op,op'] [b,c]=false:=by with_unfolding_all rfl):PE X (.Compare a [op,op'] [b,c] pos) (au3 r r' ta tb tc):=by
 intro zv s σ H Q I h;refine Compare_chain (thn (ha zv s σ H _ I h) fun v s1 ⟨x,H1,I1,r1,q1⟩=>chain_link (thn (hb zv s1 σ H1 _ I1 q1) fun u s2 ⟨y,H2,I2,r2,q2⟩ =>
  thn (ho zv s2 σ H2 x y v u _ I2 r1 r2 q2) fun d s3 ⟨z,H3,I3,r3,k,e,q3⟩ =>?_)) hm
 subst e;cases r3;refine wpAny_truthy_bool ?_;cases k with
 | false=>exact ite_ff ⟨.bl false,H3,I3,rfl,q3⟩
 | true=>exact ite_tt (chain_last (thn (hc zv s3 σ H3 _ I3 q3) fun w' s4 ⟨z',H4,I4,r4,q4⟩=>ho' zv s4 σ H4 y z' u w' Q I4 r2 r4 q4))
theorem aji:(sizeLine:Nat) < 2 ^ 63:=by rw[sizeLine_eq];decide
theorem anx:OpR X (binaryOp .Add) (fun x y H Q=>∃i j,x=.str i/\y=.str j/\i.length+j.length<=sizeLine/\Q (.str (i++j)) H):=by
 intro zv s σ H x y v u Q I rx ry h;obtain⟨i,j,rfl,rfl,hz,q⟩:=h;obtain⟨t,rfl⟩:=rx;obtain⟨t',rfl⟩:=ry;exact add_str (fun t' tk=>⟨.str (i++j),H,I.tok _,⟨_,rfl⟩,q⟩) hz
theorem vals1{x:V}{us:List Value}(r:Vals [x] us):∃u,us=[u]/\RelV x u:=by
 cases r with
 | cons r1 r2=>cases r2;exact⟨_,rfl,r1⟩
theorem vals2{x y:V}{us:List Value}(r:Vals [x,y] us):∃u w',us=[u,w']/\RelV x u/\RelV y w':=by
 cases r with
 | cons r1 r2 =>
  cases r2 with
  | cons r3 r4=>cases r4;exact⟨_,_,rfl,r1,r3⟩
theorem auu:ab6 X (.builtin "abs") (fun xs H Q=>∃i,xs=[.int i]/\Q (.int (if i < 0 then -i else i)) H):=by
 intro zv s σ H xs us Q I r h;obtain⟨i,rfl,q⟩:=h;obtain⟨u,rfl,t,rfl⟩:=vals1 r;exact call_abs_int fun u tk=>⟨.int (if i < 0 then -i else i),H,I.tok _,⟨_,rfl⟩,q⟩
theorem ars(hc:X.calm=true):ab6 X (.builtin "max") (fun xs H Q=>∃i j,xs=[.int i,.int j]/\Q (.int (if j > i then j else i)) H):=by
 intro zv s σ H xs us Q I r h;obtain⟨i,j,rfl,q⟩:=h;obtain⟨u,w',rfl,⟨t,rfl⟩,⟨t',rfl⟩⟩:=vals2 r;refine max_two_ints (I.ok.hd hc) fun h' tk k=>⟨_,H,I.kept k,?_,q⟩
 by_cases hj:j > i
 ·rw[if_pos hj,if_pos hj];exact⟨_,rfl⟩
 ·rw[if_neg hj,if_neg hj];exact⟨_,rfl⟩
theorem aj4:ab6 X (.type "int") (fun xs H Q=>(∃i,xs=[.int i]/\Q (.int i) H)∨∃k,xs=[.bl k]/\Q (.int (if k then 1 else 0)) H):=by
 intro zv s σ H xs us Q I r h;rcases h with⟨i,rfl,q⟩ | ⟨k,rfl,q⟩
 ·obtain⟨u,rfl,t,rfl⟩:=vals1 r;exact call_int_int ⟨.int i,H,I,⟨_,rfl⟩,q⟩
 ·obtain⟨u,rfl,r1⟩:=vals1 r;cases r1;exact call_int_bool ⟨.int (if k then 1 else 0),H,I.tok _,⟨_,rfl⟩,q⟩
end
structure ObjM (h:Heap) (x dx C:Addr) (mA:Str->Option Value):Prop where
 obj:h.get? x=some (PySem.W.instObj C dx)
 ns:h.Ns1 dx mA
 ne:dx≠x
theorem aqc{h:Heap}{dx:Addr}{mA:Str->Option Value}(n:h.Ns1 dx mA):∃od,h.get? dx=some od/\∀name,PySem.W.lookIn name od=some (mA name):=by
 obtain⟨o,es,ep,ho,hd,hk,_,hm⟩:=n;refine⟨o,ho,fun name =>?_⟩
 have e:=hm name;unfold nsFind findBy at e;rw[<-Array.find?_toList] at e;unfold PySem.W.lookIn;rw[hd];dsimp only;split
 ·rename_i y q;rw[q] at e;exact congrArg some e
 ·rename_i q;rw[q] at e;have a:es.toList.any (·.refKey)=false:=by
   rw[List.any_eq_false];intro y hy;obtain⟨z,t,hkey⟩:=hk y (Array.mem_toList_iff.mp hy);simp[DictEntry.refKey,hkey]
  have a':¬es.toList.any (·.refKey)=true:=by rw[a];exact Bool.false_ne_true
  rw[if_neg a'];exact congrArg some e
theorem ObjM.look{h:Heap}{x dx C:Addr}{mA:Str->Option Value}(I:ObjM h x dx C mA):∃od,PySem.W.InstAt h x (PySem.W.instObj C dx) C (some od)/\∀name,PySem.W.lookIn name od=some (mA name) :=
 let ⟨od,ho,hl⟩:=aqc I.ns
 ⟨od,⟨I.obj,rfl,rfl,ho⟩,hl⟩
section
variable{prog:Program}{w:World}{A:Around}{E:Value->Shared->Prop}{s:Shared}{K:Fg9}{x dx C f:Addr}{mA:Str->Option Value}{name:Str}{v:Value}
end
section
variable{P:Program}{w:World}{H H':Hp}{h h':Heap}{a C dx:Addr}{fs fs':List (Str×V)}
theorem axp(hok:HOk P w H h)(e:H a=some (.ins C dx fs)):∃mA,ObjM h a dx C mA/\(∀f,RelO (fs.lookup f) (mA f))/\PySem.Within mA (fs.map (·.1))/\fs.length<=1000/\H dx=some (.own a):=by
 obtain⟨d,z,ne,ob,mA,n,r,q⟩:=(show zg P w H h a (.ins C dx fs) from hok a _ e)
 exact⟨mA,⟨ob,n,ne⟩,r,q,z,d⟩
end
structure Cls (K:Fg9) (C:Addr):Prop where
 pg:PySem.W.plainGet K C Str.empty=true
 hd:PySem.W.hasDictIn K C=true
 po:PySem.W.plainOver K C=true
 sa:findIn K (.ref C) "__setattr__" = some (some (.builtin "object.__setattr__"))
theorem Cls.get{K:Fg9}{C:Addr}(c:Cls K C)(f:Str):PySem.W.plainGet K C f=true:=c.pg
structure Con (K:Fg9) (C:Addr) (f:Str) (v:V) (u:Value):Prop where
 at_:findIn K (.ref C) f=some (some u)
 rel:RelV v u
 get:PySem.W.specialIn K u "__get__" = some none
 cp:PySem.W.copiedNames.contains f=false
structure Meth (K:Fg9) (C:Addr) (m:Str) (f:Addr):Prop where
 at_:findIn K (.ref C) m=some (some (.ref f))
 fn:PySem.W.isFn K (.ref f)=true
 kp:keepIn K (.ref f)=true
section
variable{X:Cx}{zv:List (Addr×Obj)}{σ:St}{H:Hp}{s:Shared}{a C dx:Addr}{fs:List (Str×V)}{f:Str}{v:V}{A:Around}{E:Value->Shared->Prop}
theorem Inv.made(I:Inv X zv σ H s):Inv X zv σ (upd (upd H s.heap.objs.size (.own (s.heap.objs.size+1))) (s.heap.objs.size+1) (.ins C s.heap.objs.size []))
  { s with heap:=(s.heap.push PySem.W.emptyDict).push (PySem.W.instObj C s.heap.objs.size) }:=by
 have e1:(s.heap.push PySem.W.emptyDict).get? s.heap.objs.size=some PySem.W.emptyDict:=Heap.get?_push_size s.heap rfl;have e2:((s.heap.push PySem.W.emptyDict).push (PySem.W.instObj C s.heap.objs.size)).get? (s.heap.objs.size+1)=some (PySem.W.instObj C s.heap.objs.size):=by
  have:=Heap.get?_push_size (s.heap.push PySem.W.emptyDict) (o:=PySem.W.instObj C s.heap.objs.size) rfl;rwa[Heap.size_push] at this
 have e3:(s.heap.push PySem.W.emptyDict).Ns s.heap.objs.size (fun _=>none):=⟨PySem.W.emptyDict,#[],_,e1,rfl,(fun e he=>absurd he (by simp)),fun _=>rfl⟩
 have I1:=I.laid (a:=s.heap.objs.size) (o:=.own (s.heap.objs.size+1)) (h':=s.heap.push PySem.W.emptyDict) (t':=s.toks) (fun b u q=>Heap.get?_push_of_some _ q) (Nat.le_refl _) ⟨_,e1⟩
 refine I1.laid (a:=s.heap.objs.size+1) (o:=.ins C s.heap.objs.size []) (t':=s.toks) (fun b u q=>Heap.get?_push_of_some _ q) (Nat.le_of_eq (Heap.size_push _ _)) ?_
 have ne:s.heap.objs.size≠s.heap.objs.size+1:=Nat.ne_of_lt (Nat.lt_succ_self _);refine⟨by rw[dw ne,jh],Nat.zero_le _,ne,e2,fun _=>none,(Heap.Ns1.of_empty e3).at fun o q=>Heap.get?_push_of_some _ q,fun _=>True.intro,fun y hy=>absurd rfl hy⟩
end
section
variable{X:Cx}{o e value:Expr}{f:Str}{pos pos' tpos:Pos}{ta tv:TE}
end
section
variable{X:Cx}{zv:List (Addr×Obj)}{σ:St}{H:Hp}{s:Shared}{A:Around}{E:Value->Shared->Prop}{Q:Value->Shared->Prop}{c:Value}{b:Bool}
inductive TyOf (K:Fg9) (H:Hp):V->Value->Prop where
 | non:TyOf K H .non (.type "NoneType")
 | bl (x:Bool):TyOf K H (.bl x) (.type "bool")
 | int (i:Int):TyOf K H (.int i) (.type "int")
 | str (x:Str):TyOf K H (.str x) (.type "str")
 | flt (x:UInt64):TyOf K H (.flt x) (.type "float")
 | lst {a:Addr} {xs:List V} (e:H a=some (.lst xs)):TyOf K H (.ref a) (.type "list")
 | frz {a:Addr} {o:Obj} {xs:List V} (e:H a=some (.frz o (.lst xs))):TyOf K H (.ref a) (.type "list")
 | tup {a:Addr} {xs:List V} (e:H a=some (.tup xs)):TyOf K H (.ref a) (.type "tuple")
 | dK {a:Addr} {kvs:List (Key×V)} (e:H a=some (.dK kvs)):TyOf K H (.ref a) (.type "dict")
 | dT {a:Addr} {kvs:List (List Key×V)} (e:H a=some (.dT kvs)):TyOf K H (.ref a) (.type "dict")
 | ins {a C dx:Addr} {fs:List (Str×V)} (e:H a=some (.ins C dx fs)) (cl:Cls K C) (ha:findIn K (.ref C) "__class__" = some (some (.builtin "object.__class__")))
   (hn:PySem.W.specialIn K (.builtin "object.__class__") "__get__" = some (some (.builtin "getset_descriptor.__get__"))) (htk:PySem.W.takesIn K (.builtin "object.__class__")=some true)
   (hm:PySem.W.mroIn K C (.type "object")=some true):TyOf K H (.ref a) (.ref C)
theorem aql{x:V}{u t:Value}(I:Inv X zv σ H s)(rx:RelV x u)(ty:TyOf X.K H x t)(e:PySem.W.kitOne X.K t c=some b)(h:∀tk,Q (.bool b) { s with toks:=tk }) :
  wpAny (model X.prog X.w) A (call (.builtin "isinstance") [u,c]) Q E s:=by
 cases ty with
 | non=>cases(show u=Value.none from rx);exact PySem.W.kia_one PySem.W.kitx_none I.kIn True.intro e (fun z=>nomatch z) h
 | bl y=>cases(show u=Value.bool y from rx);exact PySem.W.kia_one PySem.W.kitx_bool I.kIn True.intro e (fun z=>nomatch z) h
 | int i=>obtain⟨t,q⟩:=(show ∃t,u=Value.int i t from rx);cases q;exact PySem.W.kia_one PySem.W.kitx_int I.kIn True.intro e (fun z=>nomatch z) h
 | str y=>obtain⟨t,q⟩:=(show ∃t,u=Value.str y t from rx);cases q;exact PySem.W.kia_one PySem.W.kitx_str I.kIn True.intro e (fun z=>nomatch z) h
 | flt y=>obtain⟨t,q⟩:=(show ∃t,u=Value.float y t from rx);cases q;exact PySem.W.kia_one PySem.W.kitx_float I.kIn True.intro e (fun z=>nomatch z) h
 | @lst a xs ea =>
  cases(show u=Value.ref a from rx)
  obtain⟨_,_,n,_,h1⟩:=(show zg X.prog X.w H s.heap a (.lst xs) from I.hok a _ ea)
  exact PySem.W.kia_one PySem.W.kitx_list I.kIn ⟨_,h1,rfl⟩ e (fun z=>nomatch z) h
 | @frz a ob xs ea =>
  cases(show u=Value.ref a from rx)
  obtain⟨_,_,_,n,_,h1⟩:=(show zg X.prog X.w H s.heap a (.frz ob (.lst xs)) from I.hok a _ ea)
  exact PySem.W.kia_one PySem.W.kitx_list I.kIn ⟨_,h1,rfl⟩ e (fun z=>nomatch z) h
 | @tup a xs ea =>
  cases(show u=Value.ref a from rx)
  obtain⟨_,_,_,p⟩:=(show zg X.prog X.w H s.heap a (.tup xs) from I.hok a _ ea)
  obtain⟨o,h1,h2,_⟩:=p;exact PySem.W.kia_one PySem.W.kitx_tuple I.kIn ⟨o,h1,h2⟩ e (fun z=>nomatch z) h
 | @dK a kvs ea =>
  cases(show u=Value.ref a from rx)
  obtain⟨_,_,vs,_,p⟩:=(show zg X.prog X.w H s.heap a (.dK kvs) from I.hok a _ ea)
  obtain⟨o,es,ep,h1,h2,_⟩:=p;exact PySem.W.kia_one PySem.W.kitx_dict I.kIn ⟨o,h1,h2.1⟩ e (fun z=>nomatch z) h
 | @dT a kvs ea =>
  cases(show u=Value.ref a from rx)
  obtain⟨_,_,xs,_,o,es,ep,h1,h2,_⟩:=(show zg X.prog X.w H s.heap a (.dT kvs) from I.hok a _ ea)
  exact PySem.W.kia_one PySem.W.kitx_dict I.kIn ⟨o,h1,h2.1⟩ e (fun z=>nomatch z) h
 | @ins a C dx fs ea cl ha hn htk hm =>
  cases(show u=Value.ref a from rx)
  obtain⟨mA,O,_⟩:=axp I.hok ea;obtain⟨od,J,_⟩:=O.look;exact PySem.W.kia_one (PySem.W.kitx_own (cl.get _) cl.hd ha hn htk hm) I.kIn J e (fun z=>nomatch z) h
end
structure Room (k:Nat) (A:Around):Prop where
 hd:A.handled=none
 dp:A.depth+3*k+5 < recursionLimit
 un:A.units+16*k+200 < cLine
 gd:A.guards=some []
theorem Room.mono{j k:Nat}{A:Around}(r:Room k A)(h:j<=k):Room j A:=⟨r.hd,by have:=r.dp;omega,by have:=r.un;omega,r.gd⟩
theorem Room.deeper{k:Nat}{A:Around}(r:Room (k+1) A)(env:Env):Room k (A.deeper env) :=
 ⟨r.hd,by have:=r.dp;show A.depth+1+3*k+5 < _;omega,by have:=r.un;show A.units+3+16*k+200 < _;omega,r.gd⟩
theorem Room.in1{k:Nat}{A:Around}(r:Room (k+1) A):Room k A.in1 :=
 ⟨r.hd,by have:=r.dp;show A.depth+3*k+5 < _;omega,by have:=r.un;show A.units+1+16*k+200 < _;omega,r.gd⟩
theorem Room.depth{k:Nat}{A:Around}(r:Room k A):A.depth < recursionLimit:=by have:=r.dp;omega
theorem Room.units{k:Nat}{A:Around}(r:Room k A):A.units+64 < cLine:=by have:=r.un;omega
def tNil:TA:=fun _ H Q=>Q [] H
def a3b(ta:TE)(tr:TA):TA:=fun σ H Q=>ta σ H fun x H1=>tr σ H1 fun xs H2=>Q (x::xs) H2
section
variable{X:Cx}{e:Expr}{es:List Expr}{te:TE}{t:TA}{pos:Pos}
theorem aeq:PA X [] tNil:=fun _ _ _ _ H Q I h=>Calls.spliced_nil ⟨[],H,I,.nil,h⟩
theorem yl(ha:PE X e te)(hr:PA X es t)(hs:starEach (e::es) X.env=(false,eval e X.env)::starEach es X.env:=by rfl):PA X (e::es) (a3b te t):=by
 intro pos zv s σ H Q I h;rw[hs];show wpAny _ _ (spliced ((false,eval e X.env)::backTo pos (starEach es X.env))) _ _ s;refine Calls.spliced_cons (thn (ha zv s σ H _ I h) fun u s1 ⟨x,H1,I1,r1,q1⟩ =>?_)
 exact thn (hr pos zv s1 σ H1 _ I1 q1) fun us s2 ⟨xs,H2,I2,r2,q2⟩=>⟨x::xs,H2,I2,.cons r1 r2,q2⟩
def tTup(t:TA):TE:=fun σ H Q=>t σ H fun xs H1=>xs.length<=sizeLine/\∀p,H1 p=none->Q (.ref p) (upd H1 p (.tup xs))
def tLst(t:TA):TE:=fun σ H Q=>t σ H fun xs H1=>xs.length<=sizeLine/\∀p,H1 p=none->Q (.ref p) (upd H1 p (.lst xs))
theorem azp{x1}(h:PA X es t):PE X (.Tuple es x1 pos) (tTup t):=by
 intro zv s σ H Q I hq;refine wpAny_Tuple_spliced (thn (h pos zv s σ H _ I hq) fun us s1 ⟨xs,H1,I1,r,z,q⟩=>⟨by rw[<-r.length];exact z,?_⟩)
 have hf:H1 s1.heap.objs.size=none:=I1.hok.fresh (Nat.le_refl _);refine⟨.ref s1.heap.objs.size,upd H1 s1.heap.objs.size (.tup xs),I1.laid (t':=s1.toks) (fun b u e=>Heap.get?_push_of_some _ e) (Nat.le_refl _) ?_,rfl,q _ hf⟩
 exact⟨z,us,r,⟨_,Heap.get?_push_size _ rfl,rfl,rfl,_,rfl⟩⟩
theorem azt(h:PA X es t):PE X (.List es pos) (tLst t):=by
 intro zv s σ H Q I hq;refine wpAny_List_spliced (thn (h pos zv s σ H _ I hq) fun us s1 ⟨xs,H1,I1,r,z,q⟩=>⟨by rw[<-r.length];exact z,?_⟩)
 have hf:H1 s1.heap.objs.size=none:=I1.hok.fresh (Nat.le_refl _);refine⟨.ref s1.heap.objs.size,upd H1 s1.heap.objs.size (.lst xs),I1.laid (t':=s1.toks) (fun b u e=>Heap.get?_push_of_some _ e) (Nat.le_refl _) ?_,rfl,q _ hf⟩
 exact⟨z,us,0,r,Heap.get?_push_size _ rfl⟩
end
abbrev Sp:=List V->Hp->VK->XK->Prop
abbrev CXT:=List Env->Hp->Shared->XK->Value->Shared->Prop
structure Env0 (P:Program) (w:World) (K:Fg9) (mg:Str->Option Value) (base:Heap) (A:Around) (outer:List Env) (s:Shared) (H:Hp):Prop where
 frames:A.frames=some outer
 mod:Mod K mg base
 bs:∀b o,base.get? b=some o->s.heap.get? b=some o/\H b=none
 bsz:base.objs.size<=s.heap.objs.size
 funs:s.heap.FunFrames base outer
 frf:∀b∈frs outer,H b=none
 hok:HOk P w H s.heap
 bare:AllBare s.gens
 tb:Tb K mg base H
def CE(outer:List Env)(P:Program)(w:World)(H:Hp)(s:Shared)(Q:VK)(u:Value)(s':Shared):Prop :=
 ∃v H',s'.os=s.os/\AllBare s'.gens/\Un (frs outer) [] H H' s.heap s'.heap/\HOk P w H' s'.heap/\RelV v u/\Q v H'
def CR(CX:CXT)(outer:List Env)(P:Program)(w:World)(H:Hp)(s:Shared)(Q:VK)(E:XK)(r:Result)(s':Shared):Prop :=
 match r with
 | .ok (.ret u)=>CE outer P w H s Q u s'
 | .ok _=>False
 | .error e=>CX outer H s E e s'
structure FnOk (P:Program) (w:World) (K:Fg9) (mg:Str->Option Value) (base:Heap) (CX:CXT) (k:Nat) (f:Addr) (fd:FuncData) (ps:List Str) (sp:Sp):Prop where
 len:∀vs H Q E,sp vs H Q E->vs.length=ps.length
 run:∀(A:Around) (outer:List Env) (s:Shared) (H:Hp) (args:Args) (us:List Value) (vs:List V) (Q:VK) (E:XK),Room k A->Env0 P w K mg base A outer s H->BindsTo s fd args (ps.zip us)->Vals vs us->sp vs H Q E ->
  codeAny (model P w) A (.call (.ref f) args) (CR CX outer P w H s Q E) s
section
variable{X:Cx}{zv:List (Addr×Obj)}{σ:St}{H:Hp}{s s':Shared}
theorem Inv.tb(I:Inv X zv σ H s):Tb X.K X.mg X.base H:=by
 refine⟨fun c P h =>?_,I.ok.tb.bm⟩
 obtain⟨h1,ps,e⟩:=I.ok.tb.tb c P h;obtain⟨m,e2⟩:=I.base.tbls P ps e;exact⟨h1,_,e2⟩
theorem Inv.env0(I:Inv X zv σ H s):Env0 X.prog X.w X.K X.mg X.base X.A X.stack s H :=
 ⟨I.ok.frames,I.ok.mod,I.bs,Nat.le_trans I.ok.bsz I.sz,I.stack,I.stkFree,I.hok,I.bare,I.tb⟩
theorem Inv.after{Q:VK}{u:Value}(I:Inv X zv σ H s)(h:CE X.stack X.prog X.w H s Q u s'):EP X zv σ Q u s':=by
 obtain⟨v,H',os,bare,un,hok,r,q⟩:=h;obtain⟨hh,g,d,t,os'⟩:=s';obtain rfl:os'=s.os:=os;exact⟨v,H',I.call (h':=hh) (g':=g) (d':=d) (t':=t) (ch:=[]) un hok bare (fun b z=>absurd z (by simp)),r,q⟩
end
def ayy(sp:Sp)(dvs:List V)(E:XK)(t:TA):TE:=fun σ H Q=>t σ H fun vs H1=>sp (vs++dvs) H1 Q E
def Binds(K:Fg9)(fd:FuncData)(ps:List Str)(ds:List Value):Prop :=
 ∀(s:Shared) (us:List Value),K.In s.heap->(us++ds).length=ps.length->BindsTo s fd ⟨us,[]⟩ (ps.zip (us++ds))
theorem Binds.all{K:Fg9}{fd:FuncData}{ps:List Str}(h:∀us:List Value,us.length=ps.length->bindArgs fd ⟨us,[]⟩=pure (ps.zip us)):Binds K fd ps []:=fun s us _ hl=>by
 rw[List.append_nil] at hl ⊢
 exact .of_eq (h us hl)
def asi(CX:CXT)(X:Cx)(E:XK):Prop:=∀(zv:List (Addr×Obj)) (σ:St) (H:Hp) (s:Shared) (e:Value) (s':Shared),Inv X zv σ H s->CX X.stack H s E e s'->X.xe e s'
section
variable{X:Cx}{CX:CXT}{k:Nat}{f C:Addr}{fd:FuncData}{ps:List Str}{sp:Sp}{dvs:List V}{ds:List Value}{E:XK}{x m:Str}{p pos apos:Pos}{e o:Expr}{es:List Expr}{ta:TE}{t:TA}
theorem ay4{zv:List (Addr×Obj)}{σ:St}{H:Hp}{s:Shared}{Q:VK}{us:List Value}{vs:List V}(F:FnOk X.prog X.w X.K X.mg X.base CX k f fd ps sp)(hr:Room k X.A)(hb:Binds X.K fd ps ds)(hd:Vals dvs ds)(hx:asi CX X E)
  (I:Inv X zv σ H s) (r:Vals vs us) (h:sp (vs++dvs) H Q E):wpAny (model X.prog X.w) X.A (call (.ref f) us) (EP X zv σ Q) X.xe s:=by
 have r2:Vals (vs++dvs) (us++ds):=r.append hd;have hl:(us++ds).length=ps.length:=by rw[<-r2.length];exact F.len _ _ _ _ h
 refine wpAny_call (codeAny_mono (F.run X.A X.stack s H ⟨us,[]⟩ (us++ds) (vs++dvs) Q E hr I.env0 (hb s us I.kIn hl) r2 h) fun r s' hq =>?_)
 cases r with
 | error e=>exact hx zv σ H s e s' I hq
 | ok fl =>
  cases fl with
  | ret u=>exact I.after hq
  | next=>exact False.elim hq
  | brk=>exact False.elim hq
  | cont=>exact False.elim hq
theorem aw4(F:FnOk X.prog X.w X.K X.mg X.base CX k f fd ps sp)(hr:Room k X.A)(hg:Gl X x)(hm:X.mg x=some (.ref f))(hk:keepIn X.K (.ref f)=true)(hb:Binds X.K fd ps ds)(hd:Vals dvs ds)(hx:asi CX X E)
  (ha:PA X (e::es) t) (hdb:(x==("__debug__" : Str))=false:=by decide) (he:starEach (e::es) X.env=(false,eval e X.env)::starEach es X.env:=by rfl) (hpl:(backTo pos (starEach es X.env)).any (·.1)=false:=by rfl) :
  PE X (.Call (.Name x p) (e::es) [] pos) (ayy sp dvs E t):=by
 intro zv s σ H Q I h;refine wpAny_Call_Name_kw (aqe I hg hm ?_ hdb);refine PySem.W.callWith_K (h₀:=X.base) I.ok.mod.kin hk (thn (ha pos zv s σ H _ I h) fun us s1 ⟨vs,H1,I1,r,q⟩=>⟨I1.kIn,?_⟩) he hpl
 exact ay4 F hr hb hd hx I1 r q
structure Mk (K:Fg9) (C f:Addr):Prop where
 makes:PySem.W.makesIn K C=true
 init:findIn K (.ref C) "__init__" = some (some (.ref f))
 fn:PySem.W.isFn K (.ref f)=true
 kp:keepIn K (.ref C)=true
end
section
variable{X:Cx}{CX:CXT}{k:Nat}{f C:Addr}{fd:FuncData}{ps ks:List Str}{sp:Sp}{E:XK}{x m:Str}{p pos apos kpos:Pos}{e o:Expr}{es:List Expr}{kws:List Keyword}{te ta:TE}{t tk:TA}{nm:Option Str}
structure KBinds (K:Fg9) (fd:FuncData) (ps ks:List Str) (g:List Value->List Value->List Value) (gV:List V->List V->List V):Prop where
 to:∀(s:Shared) (us ws:List Value),K.In s.heap->(g us ws).length=ps.length->BindsTo s fd ⟨us,ks.zip ws⟩ (ps.zip (g us ws))
 rel:∀{vs:List V} {us:List Value} {zs:List V} {ws:List Value},Vals vs us->Vals zs ws->Vals (gV vs zs) (g us ws)
variable{g:List Value->List Value->List Value}{gV:List V->List V->List V}
end
structure FnScope (N P:List Str) (sc:Scope):Prop where
 kind:sc.kind=.function
 co:sc.isCoroutine=false
 gen:sc.isGenerator=false
 nd:N.Nodup
 pre:N.take P.length=P
 par:∀x∈P,sc.names.lookup x=some .local∨sc.names.lookup x=some .cell
 nofree:∀y∈sc.names,y.2≠.free
theorem aj8{kindOf:Str->Option NameKind}{x:Str}:∀{binds:List (Str×Value)} {m:Str->Option Value},(∀v,(x,v)∉binds)->bindL kindOf binds m x=m x
 | [],_,_=>rfl
 | (n,v)::r,m,h=>by
  unfold bindL;rw[aj8 fun w hw=>h w (List.mem_cons_of_mem _ hw)]
  split
  ·have:x≠n:=by rintro rfl;exact h v List.mem_cons_self
   simp[this]
  ·rfl
theorem aka{kindOf:Str->Option NameKind}{x:Str}:∀{binds:List (Str×Value)} {m:Str->Option Value},(∀v,(x,v)∉binds)->bindC kindOf binds m x=m x
 | [],_,_=>rfl
 | (n,v)::r,m,h=>by
  unfold bindC;rw[aka fun w hw=>h w (List.mem_cons_of_mem _ hw)]
  split
  ·rfl
  ·have:x≠n:=by rintro rfl;exact h v List.mem_cons_self
   simp[this]
theorem aj9{kindOf:Str->Option NameKind}{x:Str}{v:Value}:∀{P:List Str} {vs:List Value} {i:Nat} {m:Str->Option Value},P.Nodup->P[i]? = some x->vs[i]? = some v->kindOf x=some .local ->
  bindL kindOf (P.zip vs) m x=some v
 | [],_,_,_,_,h,_,_=>by simp at h
 | _::_,[],_,_,_,_,h,_=>by simp at h
 | p::P,w::vs,0,m,nd,h1,h2,hk=>by
  simp at h1 h2;subst h1;subst h2;show bindL kindOf ((p,w)::P.zip vs) m p=_;unfold bindL;rw[aj8 fun v hv=>(List.nodup_cons.mp nd).1 (List.of_mem_zip hv).1,if_pos hk]
  simp
 | p::P,w::vs,i+1,m,nd,h1,h2,hk=>by
  show bindL kindOf ((p,w)::P.zip vs) m x=_;unfold bindL;exact aj9 (i:=i) (List.nodup_cons.mp nd).2 (by simpa using h1) (by simpa using h2) hk
theorem akb{kindOf:Str->Option NameKind}{x:Str}{v:Value}:∀{P:List Str} {vs:List Value} {i:Nat} {m:Str->Option Value},P.Nodup->P[i]? = some x->vs[i]? = some v->kindOf x≠some .local ->
  bindC kindOf (P.zip vs) m x=some v
 | [],_,_,_,_,h,_,_=>by simp at h
 | _::_,[],_,_,_,_,h,_=>by simp at h
 | p::P,w::vs,0,m,nd,h1,h2,hk=>by
  simp at h1 h2;subst h1;subst h2;show bindC kindOf ((p,w)::P.zip vs) m p=_;unfold bindC;rw[aka fun v hv=>(List.nodup_cons.mp nd).1 (List.of_mem_zip hv).1,if_neg hk]
  simp
 | p::P,w::vs,i+1,m,nd,h1,h2,hk=>by
  show bindC kindOf ((p,w)::P.zip vs) m x=_;unfold bindC;exact akb (i:=i) (List.nodup_cons.mp nd).2 (by simpa using h1) (by simpa using h2) hk
def start(N:List Str)(vs:List V):St:=vs.map some++List.replicate (N.length - vs.length) none
def cxOf(CX:CXT)(P:Program)(w:World)(K:Fg9)(mg:Str->Option Value)(base:Heap)(N:List Str)(qual:Str)(scope:Scope)(f:Addr)(cd:Value)(A:Around)(outer:List Env)(s:Shared)(H:Hp)(E:XK):Cx where
 prog:=P
 w:=w
 K:=K
 mg:=mg
 base:=base
 A:=A.deeper (envOfC qual scope s.heap.objs.size f cd)
 N:=N
 s₀:=s
 H₀:=H
 env:=envOfC qual scope s.heap.objs.size f cd
 outer:=outer
 stack:=envOfC qual scope s.heap.objs.size f cd::outer
 ex:=[]
 calm:=true
 fn:=fun _=>true
 pn:=[]
 xe:=fun e s'=>wpAny (model P w) (A.deeper (envOfC qual scope s.heap.objs.size f cd)) (leaving (envOfC qual scope s.heap.objs.size f cd) e) (fun _ s''=>CX outer H s E e s'') (fun e' s''=>CX outer H s E e' s'') s'
theorem am4{sc:Scope}{n:Nat}{x:Str}(h:sc.names.lookup x=some .cell):∃c,(cellsFrom n sc.names []).lookup x=some c:=by
 have q:=PySem.W.cellsFrom_some sc.names n [] (.inl h);exact Option.isSome_iff_exists.mp q
theorem aqm{CX:CXT}{P:Program}{w:World}{K:Fg9}{mg:Str->Option Value}{base:Heap}{N ps:List Str}{qual:Str}{scope:Scope}{f:Addr}{cd:Value}{A:Around}{outer:List Env}{s s1:Shared}{H:Hp}{E:XK}{us:List Value}{vs:List V}
  (S:FnScope N ps scope) (hd:A.handled=none) (e0:Env0 P w K mg base A outer s H) (hl:vs.length=ps.length) (r:Vals vs us)
  (x:InCallC s s.heap.objs.size (bindL (envOfC qual scope s.heap.objs.size f cd).kindOf (ps.zip us) fun _=>none) (cellsFrom (s.heap.objs.size+1) scope.names []) (bindC (envOfC qual scope s.heap.objs.size f cd).kindOf (ps.zip us) fun _=>none) s1) :
  Inv (cxOf CX P w K mg base N qual scope f cd A outer s H E) [] (start N vs) H s1:=by
 have hpl:ps.length<=N.length:=by have:=congrArg List.length S.pre;rw[List.length_take] at this;omega
 obtain⟨h1,tk,rfl,hk⟩:=x.done;have noA:∀b:Addr,b∉(cxOf CX P w K mg base N qual scope f cd A outer s H E).ex:=fun b z=>absurd (show b∈([]:List Addr) from z) (by simp)
 refine⟨⟨e0.mod,S.kind,rfl,rfl,Nat.le_refl _,fun y z c h1 h2 =>?_,fun y hy =>?_,fun y c _ h =>?_,fun _=>hd,Around.frames_deeper e0.frames,.inr ⟨rfl,rfl⟩,fun b z=>absurd z (noA b),e0.bs,e0.bsz,fun b _ _=>noA b,fun b z=>absurd z (noA b),e0.funs,e0.frf,e0.tb⟩,
  rfl,e0.bare,Un.kept hk,⟨_,x.toInCall.ns,fun i y v h1 h2 h3 =>?_⟩,fun y c h=>⟨_,x.cell y c h⟩,e0.hok.fresh (Nat.le_refl _),fun y c h =>?_,fun p hp=>absurd (show p∈([]:List (Addr×Obj)) from hp) (by simp),e0.hok.kept hk,?_⟩
 ·exact name_of_addr x.apart (PySem.mem_of_lookup h1) (PySem.mem_of_lookup h2)
 ·have hy:scope.names.lookup y=some .cell∨scope.names.lookup y=some .free:=hy;rcases hy with hy | hy
  ·exact am4 hy
  ·exact absurd rfl (S.nofree _ (PySem.mem_of_lookup hy))
 ·exact Nat.le_of_lt (x.above y c (PySem.mem_of_lookup h))
 ·have hi:i < vs.length:=by
   unfold start at h2
   by_cases hi:i < vs.length
   ·exact hi
   ·rw[List.getElem?_append_right (by simpa using hi)] at h2
    rw[List.getElem?_replicate] at h2;split at h2 <;> cases h2
  have ha:vs[i]? = some v:=by
   unfold start at h2;rw[List.getElem?_append_left (by simpa using hi),List.getElem?_map] at h2
   cases e:vs[i]? with
   | none=>rw[e] at h2;cases h2
   | some a=>rw[e] at h2;cases h2;rfl
  obtain⟨u,hu,rv⟩:=r.get ha;have hp:ps[i]? = some y:=by
   rw[<-S.pre,List.getElem?_take_of_lt (by omega)];exact h1
  have ndP:ps.Nodup:=by rw[<-S.pre];exact S.nd.sublist (List.take_sublist _ _)
  refine⟨u,rv,?_⟩;rcases S.par y (List.mem_of_getElem? hp) with k | k
  ·exact .inl ⟨k,aj9 ndP hp hu k⟩
  ·obtain⟨c,e⟩:=am4 (n:=s.heap.objs.size+1) k;refine .inr ⟨.inl k,c,e,?_⟩;have q:=x.cell y c e;rw[akb ndP hp hu (by show scope.names.lookup y≠_;rw[k];decide)] at q
   exact q
 ·exact e0.hok.fresh (Nat.le_of_lt (x.above y c (PySem.mem_of_lookup h)))
 ·unfold start;show _=N.length;rw[List.length_append,List.length_map,List.length_replicate];omega
theorem a08{CX:CXT}{P:Program}{w:World}{K:Fg9}{mg:Str->Option Value}{base:Heap}{k:Nat}{f:Addr}{name qual:Str}{params:Arguments}{body:List Stmt}{scope:Scope}{dV kV doc pm cdv ct oc:Value}{an od:Option Addr}
  {osl:Array (Option Value)} {N ps:List Str} {sp:Sp} (lk:K.lookup f=some ⟨oc,od,.func (fnOf name qual params body scope dV kV doc pm an cdv ct),osl⟩) (hcd:codeIn K cdv qual=true) (S:FnScope N ps scope)
  (len:∀vs H Q E,sp vs H Q E->vs.length=ps.length)
  (hbody:∀(A:Around) (outer:List Env) (s:Shared) (H:Hp) (vs:List V) (Q:VK) (E:XK),Room k (A.deeper (envOfC qual scope s.heap.objs.size f cdv))->sp vs H Q E ->
   ∃t,PSs (cxOf CX P w K mg base N qual scope f cdv A outer s H E) body t/\t { nx:=fun _ H'=>Q .non H',rt:=Q } (start N vs) H) :
  FnOk P w K mg base CX (k+1) f (fnOf name qual params body scope dV kV doc pm an cdv ct) ps sp:=by
 refine⟨len,fun A outer s H args us vs Q E hr e0 hb r hsp =>?_⟩
 have hl:=len _ _ _ _ hsp;have KX:K.In s.heap:=e0.mod.kin.keeps fun b o e=>(e0.bs b o e).1
 have lim:s.heap.NoLimit:=e0.mod.nolimit.keeps fun b o e=>(e0.bs b o e).1
 have hkind:∀y∈ps.zip us,scope.names.lookup y.1=some .local∨(scope.names.lookup y.1=some .cell/\((cellsFrom (s.heap.objs.size+1) scope.names []).lookup y.1).isSome=true):=fun⟨n,v⟩ hy=>by
  rcases S.par n (List.of_mem_zip hy).1 with q | q
  ·exact .inl q
  ·exact .inr ⟨q,PySem.W.cellsFrom_some _ _ _ (.inl q)⟩
 refine codeAny_call_function hr.depth (KX _ _ lk) rfl S.co S.gen rfl (PySem.W.codeRec_of KX hcd) (hb _ _ _ _ ?_);refine wpAny_newFunctionEnv_cells S.kind hkind fun env he s1 x =>?_
 subst he;refine⟨lim.keeps x.toInCall.keep,codeAny_func ?_⟩;obtain⟨t,ht,hq⟩:=hbody A outer s H vs Q E (hr.deeper _) hsp;have I:Inv (cxOf CX P w K mg base N qual scope f cdv A outer s H E) [] (start N vs) H s1:=aqm S hr.hd e0 hl r x;refine wpAny_mono (ht [] s1 (start N vs) H _ I hq) (fun fl s' hs =>?_) fun e s' hs=>hs
 have fin:∀{σ':St} {H':Hp} {v:V} {u:Value},Inv (cxOf CX P w K mg base N qual scope f cdv A outer s H E) [] σ' H' s'->RelV v u->Q v H'->CE outer P w H s Q u s' :=
  fun{σ' H' v u} J rv q=>⟨v,H',J.os,J.bare,J.base,J.hok,rv,q⟩
 cases fl with
 | ret u =>
  obtain⟨v,σ',H',J,rv,q⟩:=hs;exact fin J rv q
 | next =>
  obtain⟨σ',H',J,q⟩:=hs;exact fin (v:=V.non) (u:=Value.none) J rfl q
 | brk =>
  obtain⟨_,_,_,q⟩:=hs;exact False.elim q
 | cont =>
  obtain⟨_,_,_,q⟩:=hs;exact False.elim q
section
variable{X:Cx}{x:Str}{p pos:Pos}{e:Expr}{es:List Expr}{t:TA}{id T:String}{r:List V->Hp->VK->Prop}
def tCB(r:List V->Hp->VK->Prop)(t:TA):TE:=fun σ H Q=>t σ H fun vs H1=>r vs H1 Q
theorem afd(hc:ab6 X (.builtin id) r)(hg:Gl X x)(hm:X.mg x=none)(hv:bootBuiltins x=some (.builtin id))(ha:PA X (e::es) t)(hn:x ≠ "__name__" := by decide)(hdb:(x==("__debug__" : Str))=false:=by decide)
  (he:starEach (e::es) X.env=(false,eval e X.env)::starEach es X.env:=by rfl) (hpl:(backTo pos (starEach es X.env)).any (·.1)=false:=by rfl):PE X (.Call (.Name x p) (e::es) [] pos) (tCB r t):=by
 intro zv s σ H Q I h;refine wpAny_Call_Name_kw (aer I hg hm hv ?_ hn hdb);exact PyProof.Rows.callWith_builtin1 (thn (ha pos zv s σ H _ I h) fun us s1 ⟨vs,H1,I1,r1,q1⟩=>hc zv s1 σ H1 vs us Q I1 r1 q1) he hpl
theorem adb(hc:ab6 X (.type T) r)(hg:Gl X x)(hm:X.mg x=none)(hv:bootBuiltins x=some (.type T))(ha:PA X (e::es) t)(hn:x ≠ "__name__" := by decide)(hdb:(x==("__debug__" : Str))=false:=by decide)
  (he:starEach (e::es) X.env=(false,eval e X.env)::starEach es X.env:=by rfl) (hpl:(backTo pos (starEach es X.env)).any (·.1)=false:=by rfl):PE X (.Call (.Name x p) (e::es) [] pos) (tCB r t):=by
 intro zv s σ H Q I h;refine wpAny_Call_Name_kw (aer I hg hm hv ?_ hn hdb);exact PyProof.Rows.callWith_type1 (thn (ha pos zv s σ H _ I h) fun us s1 ⟨vs,H1,I1,r1,q1⟩=>hc zv s1 σ H1 vs us Q I1 r1 q1) he hpl
end
end L2
namespace HT
open PySem PyProof.Rows
section
open PySem.SeqAt
open PySem.AutoSeq1 (wpAny_loadPart')
open PySem.MeetsSeq PySem.MeetsSeq2 PySem.MeetsSeq3
end
section
variable{prog:Program}{w:World}{A:Around}{E:Value->Shared->Prop}{s:Shared}
theorem ax9{t b:Addr}{vs ws:List Value}{Q:Value->Shared->Prop}(ht:IsTup s.heap t vs.toArray)(hb:IsTup s.heap b ws.toArray)(hv:vs≠[])
  (h1:ws=[]->Q (.ref t) s) (h2:ws≠[]->Q (.ref s.heap.objs.size) { s with heap:=s.heap.push { cls:=.type "tuple", data:=.seq (vs++ws).toArray } })
  (hsz:vs.length+ws.length<=sizeLine):wpAny (model prog w) A (binaryOp .Add (.ref t) (.ref b)) Q E s:=by
 obtain⟨⟨cls,dd,data,sl⟩,ho,hc,n,hd⟩:=id ht;obtain⟨⟨cls2,dd2,data2,sl2⟩,ho2,hc2,n2,hd2⟩:=id hb;simp only at hc hd hc2 hd2;subst hc hd hc2 hd2;have e:vs.toArray++ws.toArray=(vs++ws).toArray:=by simp
 by_cases hw:ws=[]
 ·exact concat_meets ⟨_,ho,rfl⟩ ⟨_,ho2,rfl⟩ noFill_tuple_add seq_tuple_add PySem.F.slot_tuple_add PySem.F.entry_tuple_add (PySem.F.args_tuple_add_2 _ _)
   (tuple_addW1 t b vs.toArray ws.toArray n n2 dd dd2 sl sl2 (by simpa using hv) (by simp[hw])) ⟨ho,ho2,h1 hw⟩
 ·refine concat_meets ⟨_,ho,rfl⟩ ⟨_,ho2,rfl⟩ noFill_tuple_add seq_tuple_add PySem.F.slot_tuple_add PySem.F.entry_tuple_add (PySem.F.args_tuple_add_2 _ _)
   (tuple_addW2 t b vs.toArray ws.toArray n n2 dd dd2 sl sl2 (by simpa using hv) (by simpa using hw) (by rw[List.size_toArray,List.size_toArray];exact hsz)) ⟨ho,ho2,?_⟩
  rw[e];exact h2 hw
def sIx(n d:Nat):Option Int->Nat
 | none=>d
 | some v=>if v < 0 then (v+(n:Int)).toNat else min v.toNat n
theorem ay3(n d:Nat)(hd:d<=n)(o:Option Int):sIx n d o<=n:=by
 cases o with
 | none=>exact hd
 | some v =>
  show(if v < 0 then (v+(n:Int)).toNat else min v.toNat n)<=n
  by_cases hv:v < 0
  ·rw[if_pos hv];omega
  ·rw[if_neg hv];exact Nat.min_le_right _ _
theorem arj(v:Int)(n d:Nat):(if v < 0 then max (v+(n:Int)) 0 else min v (n:Int))=((sIx n d (some v):Nat):Int):=by
 show(if v < 0 then max (v+(n:Int)) 0 else min v (n:Int))=(((if v < 0 then (v+(n:Int)).toNat else min v.toNat n):Nat):Int)
 by_cases hv:v < 0
 ·simp only[if_pos hv];omega
 ·simp only[if_neg hv];omega
theorem aol(lo hi:Option Int)(n:Nat):Builtin.Slice.sliceAdjust lo hi 1 (n:Int)=(((sIx n 0 lo:Nat):Int),((sIx n n hi:Nat):Int)):=by
 have h1:¬((1:Int) < 0):=by omega
 unfold Builtin.Slice.sliceAdjust;simp only[h1,if_false];refine Prod.ext ?_ ?_
 ·cases lo with
  | none=>rfl
  | some v=>exact arj v n 0
 ·cases hi with
  | none=>rfl
  | some v=>exact arj v n n
theorem anu(i j:Nat):Builtin.Slice.slicePlaces (i:Int) (j:Int) 1=j - i:=by
 unfold Builtin.Slice.slicePlaces;have h1:(1:Int) > 0:=by omega
 simp only[h1,if_true,Int.ediv_one];split <;> omega
theorem ag3{v:Value}{o:Option Int}{Q:Option Int->Shared->Prop}(p:IsPart v o)(h:Q o s):wpAny (model prog w) A (Builtin.Slice.slicePartIndex v) Q E s:=by
 cases p with
 | none=>exact slicePart_none h
 | int i t=>exact slicePart_int h
theorem abf{sl:Addr}{vl vu:Value}{lo hi:Option Int}{n:Nat}{Q:Int×Int×Nat->Shared->Prop}(hs:s.heap.IsSliceOf sl vl vu .none)(pl:IsPart vl lo)(pu:IsPart vu hi)
  (h:Q (((sIx n 0 lo:Nat):Int),1,sIx n n hi - sIx n 0 lo) s):wpAny (model prog w) A (Builtin.Slice.sliceApplied (.ref sl) (pure (n:Int))) Q E s:=by
 obtain⟨os,hos,hcs,hds⟩:=id hs;unfold Builtin.Slice.sliceApplied Builtin.Slice.sliceFields;refine wpAny_bind (wpAny_bind (wpAny_field hos hds (x:=vl) rfl (wpAny_bind (wpAny_field hos hds (x:=vu) rfl (wpAny_bind (wpAny_field hos hds (x:=.none) rfl (wpAny_pure ?_)))))));refine wpAny_bind (slicePart_none ?_);show wpAny _ _ (if ((1:Int)==0)=true then _ else _) _ _ s
 rw[if_neg (by decide)]
 refine wpAny_bind (ag3 pl (wpAny_bind (ag3 pu (wpAny_bind (wpAny_pure ?_)))));show wpAny _ _ (match Builtin.Slice.sliceAdjust lo hi 1 (n:Int) with | (lo,hi)=>pure (lo,(1:Int),Builtin.Slice.slicePlaces lo hi 1)) _ _ s
 rw[aol lo hi n];show wpAny _ _ (pure (((sIx n 0 lo:Nat):Int),(1:Int),Builtin.Slice.slicePlaces ((sIx n 0 lo:Nat):Int) ((sIx n n hi:Nat):Int) 1)) _ _ s;rw[anu];exact wpAny_pure h
theorem atc(xs:Array Value)(i k:Nat):((List.range k).filterMap fun(m:Nat)=>xs[((i:Int)+(m:Int)*1).toNat]?).toArray=((xs.toList.drop i).take k).toArray:=by
 have e:(fun(m:Nat)=>xs[((i:Int)+(m:Int)*1).toNat]?)=fun m=>xs[i+m]? := by
  funext m
  have:((i:Int)+(m:Int)*1).toNat=i+m:=by omega
  rw[this]
 rw[e];have:=pick_run xs i k;rw[List.filterMap_map] at this;have e2:((fun x=>xs[x]?)∘fun x=>i+x)=fun m=>xs[i+m]? := rfl
 rw[e2] at this;rw[this]
theorem aeg{t sl:Addr}{items:Array Value}{vl vu:Value}{lo hi:Option Int}{Q:Value->Shared->Prop}(ht:IsTup s.heap t items)(hs:s.heap.IsSliceOf sl vl vu .none)(pl:IsPart vl lo)(pu:IsPart vu hi)
  (hw:¬(sIx items.size 0 lo=0/\sIx items.size items.size hi=items.size))
  (h:Q (.ref s.heap.objs.size) { s with heap:=s.heap.push { cls:=.type "tuple", data:=.seq ((items.toList.drop (sIx items.size 0 lo)).take (sIx items.size items.size hi - sIx items.size 0 lo)).toArray } })
  (hsz:items.size<=sizeLine):wpAny (model prog w) A (getItem (.ref t) (.ref sl)) Q E s:=by
 have htake:sizeOk (.seq ((items.toList.drop (sIx items.size 0 lo)).take (sIx items.size items.size hi - sIx items.size 0 lo)).toArray):=by
  show((items.toList.drop (sIx items.size 0 lo)).take (sIx items.size items.size hi - sIx items.size 0 lo)).toArray.size<=sizeLine;rw[List.size_toArray,List.length_take,List.length_drop,Array.length_toList];omega
 have hj:sIx items.size items.size hi<=items.size:=ay3 _ _ (Nat.le_refl _) hi;obtain⟨os,hos,hcs,hds⟩:=id hs;have hTs:s.TypeIs (.ref sl) "slice" := ⟨os,hos,hcs⟩;unfold getItem
 try with_reducible refine wpAny_holding ?_
 first | refine wpAny_bind (wpAny_pure ?_) | skip
 refine wpAny_bind (wpAny_sequenceKey ht.typeIs (by decide) ?_)
 refine wpAny_bind (wpAny_callSpecial?_slot (name:=Str.ofString "__getitem__") ht.typeIs PyProof.Rows.slot_tuple_getitem
  (wpAny_call_entry PyProof.Rows.slot_tuple_getitem ht.typeIs entry_tuple_getitem ?_ (args_tuple_getitem _ _)))
 show wpAny _ _ (Builtin.Tuple.tupleItemsOf (.ref t) >>= _) _ _ s;refine wpAny_bind (tupleItemsOf_ ht ?_);refine wpAny_bind (wpAny_typeOf hTs ?_);rw[if_pos (by decide)]
 refine wpAny_bind (abf hs pl pu ?_);have hno:¬((((sIx items.size 0 lo:Nat):Int)==0&&(1:Int)==1&&(sIx items.size items.size hi - sIx items.size 0 lo)==items.size)=true):=by
  intro q;rw[Bool.and_eq_true,Bool.and_eq_true] at q;have q1:((sIx items.size 0 lo:Nat):Int)=0:=eq_of_beq q.1.1;have q2:sIx items.size items.size hi - sIx items.size 0 lo=items.size:=eq_of_beq q.2;exact hw ⟨by omega,by omega⟩
 show wpAny _ _ (if (((sIx items.size 0 lo:Nat):Int)==0&&(1:Int)==1&&(sIx items.size items.size hi - sIx items.size 0 lo)==items.size)=true then _ else _) _ _ s
 rw[if_neg hno,atc]
 first
  | exact wpAny_bind (m:=Builtin.Tuple.tupleExact _) (wpAny_newObj_type (wpAny_pure ⟨_,rfl,wpAny_pure h⟩) htake)
  | exact wpAny_bind (m:=Builtin.Tuple.tupleExact _) (wpAny_newObj_type (wpAny_bind (wpAny_pure (wpAny_pure ⟨_,rfl,wpAny_pure h⟩))) htake)
  | exact wpAny_bind (wpAny_bind (m:=Builtin.Tuple.tupleExact _) (wpAny_newObj_type (wpAny_pure (wpAny_pure ⟨_,rfl,wpAny_pure h⟩)) htake))
  | exact wpAny_bind (wpAny_bind (m:=Builtin.Tuple.tupleExact _) (wpAny_newObj_type (wpAny_pure ⟨_,rfl,wpAny_pure h⟩) htake))
end
end HT
namespace L2
abbrev TO:=St->Hp->(Option Int->Hp->Prop)->Prop
def PO(X:Cx)(e:Option Expr)(t:TO):Prop :=
 ∀(zv:List (Addr×Obj)) (s:Shared) (σ:St) (H:Hp) (Q:Option Int->Hp->Prop),Inv X zv σ H s->t σ H Q ->
  wpAny (model X.prog X.w) X.A (evalPart e X.env) (fun u s'=>∃o H',Inv X zv σ H' s'/\IsPart u o/\Q o H') X.xe s
def awb:TO:=fun _ H Q=>Q none H
def a2x(t:TE):TO:=fun σ H Q=>t σ H fun x H1=>∃i,x=.int i/\Q (some i) H1
theorem intsAre_of{ns:List Int}:∀{us:List Value},Vals (ns.map V.int) us->IntsAre us ns:=by
 induction ns with
 | nil=>intro us r;rw[List.map_nil] at r;cases r;exact .nil
 | cons n ns ih =>
  intro us r;rw[List.map_cons] at r;cases r with
  | cons r1 r2 =>
   obtain⟨t,e⟩:=r1;subst e;exact .cons n t (ih r2)
section
variable{X:Cx}{e:Expr}{te:TE}{lo hi:Option Expr}{tl th:TO}{pos p2:Pos}
theorem aws:PO X none awb:=by
 intro zv s σ H Q I h;rw[evalPart_none];exact wpAny_pure ⟨none,H,I,.none,h⟩
theorem awr(h:PE X e te):PO X (some e) (a2x te):=by
 intro zv s σ H Q I hw;rw[evalPart_some];refine thn (h zv s σ H _ I hw) fun u s1 ⟨x,H1,I1,r1,q1⟩ =>?_
 obtain⟨i,rfl,q⟩:=q1;obtain⟨t,rfl⟩:=r1;exact⟨some i,H1,I1,.int i t,q⟩
def SlR(X:Cx)(r:V->Option Int->Option Int->Hp->VK->Prop):Prop :=
 ∀(zv:List (Addr×Obj)) (s:Shared) (σ:St) (H:Hp) (x:V) (v vl vu:Value) (lo hi:Option Int) (sl:Addr) (Q:VK),Inv X zv σ H s->RelV x v->s.heap.IsSliceOf sl vl vu .none->IsPart vl lo->IsPart vu hi->r x lo hi H Q ->
  ∃T id,typeLookup (.type T) "__getitem__" = pure (some (.builtin id))/\s.TypeIs v T/\wpAny (model X.prog X.w) X.A (getItem v (.ref sl)) (EP X zv σ Q) X.xe s
def tSl(r:V->Option Int->Option Int->Hp->VK->Prop)(te:TE)(tl th:TO):TE:=fun σ H Q=>te σ H fun x H1=>tl σ H1 fun l H2=>th σ H2 fun u H3=>r x l u H3 Q
theorem al5{r:V->Option Int->Option Int->Hp->VK->Prop}(hr:SlR X r)(he:PE X e te)(hl:PO X lo tl)(hu:PO X hi th):PE X (.Subscript e (.Slice lo hi none p2) pos) (tSl r te tl th):=by
 intro zv s σ H Q I h;refine Subscript_ (thn (he zv s σ H _ I h) fun v s1 ⟨x,H1,I1,r1,q1⟩ =>?_)
 refine wpAny_Slice (thn (hl zv s1 σ H1 _ I1 q1) fun vl s2 ⟨l,H2,I2,pl,q2⟩=>thn (hu zv s2 σ H2 _ I2 q2) fun vu s3 ⟨u,H3,I3,pu,q3⟩ =>?_)
 rw[evalPart_none];refine wpAny_pure ?_;have I4:Inv X zv σ H3 { s3 with heap:=s3.heap.push { cls:=.type "slice", data:=.fields #[vl,vu,.none] } }:=I3.kept (t':=s3.toks) fun b ob q=>Heap.get?_push_of_some _ q
 obtain⟨T,id,hT,ht,hg⟩:=hr zv { s3 with heap:=s3.heap.push { cls:=.type "slice", data:=.fields #[vl,vu,.none] } } σ H3 x v vl vu l u s3.heap.objs.size Q I4 r1 (Heap.IsSliceOf.new ..) pl pu q3
 show wpAny (model X.prog X.w) X.A (subscriptTail e (.Slice lo hi none p2) v (.ref s3.heap.objs.size)) (EP X zv σ Q) X.xe { s3 with heap:=s3.heap.push { cls:=.type "slice", data:=.fields #[vl,vu,.none] } }
 exact tail_any (ops:=[.ref s3.heap.objs.size,v]) ht hT hg (by with_unfolding_all rfl)
def cutV(xs:List V)(lo hi:Option Int):List V:=(xs.drop (HT.sIx xs.length 0 lo)).take (HT.sIx xs.length xs.length hi - HT.sIx xs.length 0 lo)
theorem agn(xs:List V)(lo hi:Option Int):(cutV xs lo hi).length<=xs.length:=by
 unfold cutV;rw[List.length_take,List.length_drop];omega
def rSlT(K:Fg9):V->Option Int->Option Int->Hp->VK->Prop:=fun x lo hi H Q=>∃a xs,x=.ref a/\SqT K H a xs /\
 ¬(HT.sIx xs.length 0 lo=0/\HT.sIx xs.length xs.length hi=xs.length)/\∀p,H p=none->Q (.ref p) (upd H p (.tup (cutV xs lo hi)))
theorem ay1:SlR X (rSlT X.K):=by
 intro zv s σ H x v vl vu lo hi sl Q I rx hs pl pu h;obtain⟨a,xs,rfl,hx,hw,q⟩:=h;cases rx;obtain⟨its,r,ht,hz⟩:=I.tuple hx;have hlen:its.toArray.size=xs.length:=by rw[List.size_toArray];exact r.length.symm
 refine⟨"tuple", _,PyProof.Rows.slot_tuple_getitem.lookup,ht.typeIs,?_⟩;refine HT.aeg ht hs pl pu (by rw[hlen];exact hw) ?_ (by rw[hlen];exact hz)
 rw[hlen];refine⟨.ref s.heap.objs.size,_,I.laid (t':=s.toks) (o:=.tup (cutV xs lo hi)) (fun b ob q=>Heap.get?_push_of_some _ q) (Nat.le_refl _) ?_,rfl,q _ (I.hok.fresh (Nat.le_refl _))⟩
 exact⟨Nat.le_trans (agn xs lo hi) hz,_,(r.drop (HT.sIx xs.length 0 lo)).take (HT.sIx xs.length xs.length hi - HT.sIx xs.length 0 lo),IsTp.new _ _⟩
def a3j(K:Fg9):R2:=fun x y H Q=>∃a b xs ys,x=.ref a/\y=.ref b/\SqT K H a xs/\SqT K H b ys/\xs≠[]/\xs.length+ys.length<=sizeLine /\
 (ys=[]->Q (.ref a) H)/\(ys≠[]->∀p,H p=none->Q (.ref p) (upd H p (.tup (xs++ys))))
theorem Vals.nil_iff{xs:List V}{us:List Value}(r:Vals xs us):us=[]↔xs=[]:=by
 cases r with
 | nil=>simp
 | cons _ _=>simp
theorem axa:OpR X (binaryOp .Add) (a3j X.K):=by
 intro zv s σ H x y v u Q I rx ry h;obtain⟨a,b,xs,ys,rfl,rfl,ha,hb,hx,hz,q1,q2⟩:=h;cases rx;cases ry;obtain⟨its,r1,p1,_⟩:=I.tuple ha;obtain⟨its2,r2,p2,_⟩:=I.tuple hb;refine HT.ax9 p1 p2 (fun z=>hx (r1.nil_iff.mp z)) (fun z=>⟨.ref a,H,I,rfl,q1 (r2.nil_iff.mp z)⟩) (fun z =>?_) (by rw[<-r1.length,<-r2.length];exact hz)
 refine⟨.ref s.heap.objs.size,_,I.laid (t':=s.toks) (o:=.tup (xs++ys)) (fun b ob q=>Heap.get?_push_of_some _ q) (Nat.le_refl _) ?_,rfl,q2 (fun w=>z (r2.nil_iff.mpr w)) _ (I.hok.fresh (Nat.le_refl _))⟩
 exact⟨by rw[List.length_append];exact hz,_,r1.append r2,IsTp.new _ _⟩
end
def ixN(n:Nat)(i:Int):Option Nat:=if 0<=i then (if i < n then some i.toNat else none) else if -(n:Int)<=i then some (i+n).toNat else none
def atI{α:Type}(xs:List α)(i:Int):Option α:=(ixN xs.length i).bind fun j=>xs[j]?
theorem aqi{n:Nat}{i:Int}{j:Nat}(h:ixN n i=some j):seqIndex? i n=some j/\j < n /\ -(n:Int)<=i/\i < n:=by
 unfold ixN at h
 by_cases h0:0<=i
 ·rw[if_pos h0] at h
  by_cases h1:i < n
  ·rw[if_pos h1] at h;have e:i.toNat=j:=Option.some.inj h;exact⟨by rw[seqIndex_of h0 h1,e],by omega,by omega,h1⟩
  ·rw[if_neg h1] at h;cases h
 ·rw[if_neg h0] at h
  by_cases h1 : -(n:Int)<=i
  ·rw[if_pos h1] at h;have e:(i+n).toNat=j:=Option.some.inj h;exact⟨by rw[seqIndex_neg (by omega) h1,e],by omega,h1,by omega⟩
  ·rw[if_neg h1] at h;cases h
theorem alr{α:Type}{xs:List α}{i:Int}{v:α}(h:atI xs i=some v):∃j,seqIndex? i xs.length=some j/\xs[j]? = some v/\j < xs.length /\ -(xs.length:Int)<=i/\i < xs.length:=by
 unfold atI at h;cases e:ixN xs.length i with
 | none=>rw[e] at h;cases h
 | some j =>
  rw[e] at h;obtain⟨h1,h2,h3,h4⟩:=aqi e;exact⟨j,h1,h,h2,h3,h4⟩
theorem alq{α:Type}{xs:List α}{j:Nat}{v:α}(h:xs[j]? = some v):atI xs (j:Int)=some v:=by
 have hj:j < xs.length:=(List.getElem?_eq_some_iff.mp h).1;have e:ixN xs.length (j:Int)=some j:=by
  unfold ixN;rw[if_pos (by omega),if_pos (by omega)];simp
 unfold atI;rw[e];exact h
def ash(b:Expr):Prop:=∀o i,subscripted b false o i=operate [o,i] (getItem o i)
def IxR(X:Cx)(r:R2):Prop :=
 ∀(value slice:Expr) (zv:List (Addr×Obj)) (s:Shared) (σ:St) (H:Hp) (x y:V) (v u:Value) (Q:VK),Inv X zv σ H s->RelV x v->RelV y u->r x y H Q ->
  subscripted slice false v u=operate [v,u] (getItem v u)->wpAny (model X.prog X.w) X.A (subscriptTail value slice v u) (EP X zv σ Q) X.xe s
def MtR(X:Cx)(id:String)(r:V->List V->Hp->VK->Prop):Prop :=
 ∀(zv:List (Addr×Obj)) (s:Shared) (σ:St) (H:Hp) (x:V) (xs:List V) (v:Value) (us:List Value) (Q:VK),Inv X zv σ H s->RelV x v->Vals xs us->r x xs H Q ->
  wpAny (model X.prog X.w) X.A (call (.builtin id) (v::us)) (EP X zv σ Q) X.xe s
section
variable{X:Cx}{a b:Expr}{ta tb:TE}{pos:Pos}
theorem aw0{r:R2}(hr:IxR X r)(ha:PE X a ta)(hb:PE X b tb)(hs:ash b):PE X (.Subscript a b pos) (tOp r ta tb):=by
 intro zv s σ H Q I h;exact Subscript_ (binT ha hb I h fun v u s2 x y H2 I2 rx ry q=>hr a b zv s2 σ H2 x y v u Q I2 rx ry q (hs _ _))
def rIxL(K:Fg9):R2:=fun x y H Q=>∃p xs i v,x=.ref p/\y=.int i/\SqL K H p xs/\atI xs i=some v/\Q v H
def rIxT(K:Fg9):R2:=fun x y H Q=>∃p xs i v,x=.ref p/\y=.int i/\SqT K H p xs/\atI xs i=some v/\Q v H
theorem ak2:IxR X (rIxL X.K):=by
 intro value slice zv s σ H x y v u Q I rx ry h hs;obtain⟨p,xs,i,z,rfl,rfl,hq,he,q⟩:=h;cases rx;obtain⟨t,rfl⟩:=ry;obtain⟨its,r,pl,hz⟩:=I.list hq;obtain⟨j,h1,h2,h3,h4,h5⟩:=alr he;obtain⟨w,ew,rw'⟩:=r.get h2;have hl:=r.length;have hn:=aji;have fin:EP X zv σ Q w s:=⟨z,H,I,rw',q⟩
 by_cases h0:0<=i
 ·have hj:i.toNat=j:=by
   rw[seqIndex_of h0 h5] at h1;exact Option.some.inj h1
  exact item_listR pl.isList h0 (by omega) (by rw[hj];simpa using ew) fin hs
 ·have hj:(i+(its.toArray.size:Int)).toNat=j:=by
   rw[seqIndex_neg (by omega) h4] at h1
   rw[List.size_toArray,<-hl];exact Option.some.inj h1
  exact subscriptTail_builtinR (x:=w) pl.isList.typeIs slot_list_getitem.lookup
   (wpAny_getItem_list_neg (Q:=fun r s'=>r=w/\EP X zv σ Q r s') pl.isList (by omega) (by rw[List.size_toArray] <;> omega) (by omega) (by rw[hj];simpa using ew) ⟨rfl,fin⟩) hs
theorem a0u:IxR X (rIxT X.K):=by
 intro value slice zv s σ H x y v u Q I rx ry h hs;obtain⟨p,xs,i,z,rfl,rfl,hq,he,q⟩:=h;cases rx;obtain⟨t,rfl⟩:=ry;obtain⟨its,r,pl,hz⟩:=I.tuple hq;obtain⟨j,h1,h2,h3,h4,h5⟩:=alr he;obtain⟨w,ew,rw'⟩:=r.get h2;have hl:=r.length;have hn:=aji;have fin:EP X zv σ Q w s:=⟨z,H,I,rw',q⟩;exact subscriptTail_builtinR (x:=w) pl.typeIs slot_tuple_getitem.lookup
  (getItem_tuple (j:=j) (Q:=fun r s'=>r=w/\EP X zv σ Q r s') pl (by omega) (by omega) (by rw[List.size_toArray,<-hl];exact h1) (by simpa using ew) ⟨rfl,fin⟩) hs
theorem an4(its:List Value)(n j:Nat)(u:Value):Obj.mapSeq (·.setIfInBounds j u) { cls:=.type "list", data:=.seq its.toArray n }={ cls:=.type "list", data:=.seq (its.set j u).toArray n }:=by
 simp[Obj.mapSeq]
theorem Inv.lst{zv:List (Addr×Obj)}{σ:St}{H:Hp}{s:Shared}{p:Addr}{xs:List V}(I:Inv X zv σ H s)(h:H p=some (.lst xs)) :
  ∃(its:List Value) (n:Nat),Vals xs its/\s.heap.get? p=some { cls:=.type "list", data:=.seq its.toArray n }/\xs.length<=sizeLine:=by
 obtain⟨z,its,n,r,e⟩:=I.hok p _ h;exact⟨its,n,r,e,z⟩
theorem Inv.lstUpd{zv:List (Addr×Obj)}{σ:St}{H:Hp}{s:Shared}{p:Addr}{xs ys:List V}{its its':List Value}{n n':Nat}{f:Obj->Obj}(I:Inv X zv σ H s)(h:H p=some (.lst xs))
  (ho:s.heap.get? p=some { cls:=.type "list", data:=.seq its.toArray n }) (hf:f { cls:=.type "list", data:=.seq its.toArray n }={ cls:=.type "list", data:=.seq its'.toArray n' }) (r:Vals ys its') (hz:ys.length<=sizeLine) (t:Nat) :
  Inv X zv σ (upd H p (.lst ys)) { s with heap:=s.heap.update p f,toks:=t }:=by
 have e:(s.heap.update p f).get? p=some { cls:=.type "list", data:=.seq its'.toArray n' }:=by
  rw[Heap.get?_update_self f ho (by rw[hf] <;> rfl),hf]
 refine I.write (x:=p) (e:=p) (by rw[h];trivial) (.inl rfl) (fun b u hb q=>(Heap.get?_update_other _ _ (Ne.symm hb)).trans q) ⟨_,e⟩ ?_
 exact⟨hz,its',n',r,e⟩
def a3i:V->V->V->Hp->(Hp->Prop)->Prop:=fun o i v H Q=>∃p xs k j,o=.ref p/\i=.int k/\H p=some (.lst xs)/\ixN xs.length k=some j/\Q (upd H p (.lst (xs.set j v)))
theorem set_list:PSet X a3i:=by
 intro zv s σ H o i v ov iv u Q I ro ri rv h;obtain⟨p,xs,k,j,rfl,rfl,hp,hj,q⟩:=h;cases ro;obtain⟨t,rfl⟩:=ri;obtain⟨its,n,r,ho,hz⟩:=I.lst hp;obtain⟨h1,h2,h3,h4⟩:=aqi hj;have hl:=r.length;have hn:=aji;have I':Inv X zv σ (upd H p (.lst (xs.set j v))) { s with heap:=s.heap.update p (Obj.mapSeq (·.setIfInBounds j u)) } :=
  I.lstUpd hp ho (an4 its n j u) (r.set rv j) (by rw[List.length_set];exact hz) s.toks
 by_cases h0:0<=k
 ·have hk:k.toNat=j:=by
   rw[seqIndex_of h0 h4] at h1;exact Option.some.inj h1
  exact PySem.W.ki_setAt ho h0 (by omega) (by rw[List.size_toArray,<-hl];exact h4) (by rw[hk];exact⟨_,I',q⟩)
 ·have hk:(k+(its.toArray.size:Int)).toNat=j:=by
   rw[seqIndex_neg (by omega) h3] at h1
   rw[List.size_toArray,<-hl];exact Option.some.inj h1
  exact PySem.W.ki_setBack ho (by omega) (by rw[List.size_toArray,<-hl];exact h3) (by omega) (by rw[hk];exact⟨_,I',q⟩)
theorem ai2(lo hi:Option Int)(n:Nat):(sliceBounds lo hi none n).1=((HT.sIx n 0 lo:Nat):Int)/\(sliceBounds lo hi none n).2.1=((HT.sIx n n hi:Nat):Int)/\(sliceBounds lo hi none n).2.2=1:=by
 refine⟨?_,?_,rfl⟩
 ·cases lo with
  | none=>simp[sliceBounds,HT.sIx]
  | some i =>
   simp only[sliceBounds,HT.sIx,Option.getD_none,show(1:Int) > 0 by decide,if_true]
   by_cases h:i < 0
   ·simp only[h,if_true] <;> omega
   ·simp only[h,if_false] <;> omega
 ·cases hi with
  | none=>simp[sliceBounds,HT.sIx]
  | some i =>
   simp only[sliceBounds,HT.sIx,Option.getD_none,show(1:Int) > 0 by decide,if_true]
   by_cases h:i < 0
   ·simp only[h,if_true] <;> omega
   ·simp only[h,if_false] <;> omega
theorem aho(its:List Value)(lo hi:Option Int):slicePick its.toArray lo hi none=((its.drop (HT.sIx its.length 0 lo)).take (HT.sIx its.length its.length hi - HT.sIx its.length 0 lo)).toArray:=by
 obtain⟨h1,h2,h3⟩:=ai2 lo hi its.toArray.size;unfold slicePick;rw[h1,h2,h3];simp only[sliceRange_one,pick_run,List.size_toArray] <;> rfl
def rSlL(K:Fg9):V->Option Int->Option Int->Hp->VK->Prop:=fun x lo hi H Q=>∃a xs,x=.ref a/\SqL K H a xs/\∀p,H p=none->Q (.ref p) (upd H p (.lst (cutV xs lo hi)))
theorem ao5:SlR X (rSlL X.K):=by
 intro zv s σ H x v vl vu lo hi sl Q I rx hs pl pu h;obtain⟨a,xs,rfl,hx,q⟩:=h;cases rx;obtain⟨its,r,ht,hz⟩:=I.list hx;have hlen:=r.length;refine⟨"list", _,slot_list_getitem.lookup,ht.isList.typeIs,?_⟩;refine wpAny_getItem_list_slice ht.isList hs pl pu .none (by simp) ?_ (by rw[List.size_toArray] <;> omega)
 rw[aho,<-hlen];refine⟨.ref s.heap.objs.size,_,I.laid (t':=s.toks) (o:=.lst (cutV xs lo hi)) (fun b ob q=>Heap.get?_push_of_some _ q) (Nat.le_refl _) ?_,rfl,q _ (I.hok.fresh (Nat.le_refl _))⟩
 exact⟨Nat.le_trans (agn xs lo hi) hz,_,0,(r.drop (HT.sIx xs.length 0 lo)).take (HT.sIx xs.length xs.length hi - HT.sIx xs.length 0 lo),Heap.get?_push_size _ rfl⟩
theorem aj3:ab6 X (.builtin "len") (fun xs H Q=>∃p ys,xs=[.ref p]/\(SqL X.K H p ys∨SqT X.K H p ys)/\Q (.int ys.length) H):=by
 intro zv s σ H xs us Q I r h;obtain⟨p,ys,rfl,hq,q⟩:=h;obtain⟨u,rfl,rx⟩:=vals1 r;cases rx;have hn:=aji;rcases hq with hq | hq
 ·obtain⟨its,r',pl,hz⟩:=I.list hq;have hlen:=r'.length;exact Calls.call_len_list pl.isList (by simp only[List.size_toArray] <;> omega) ⟨.int ys.length,H,I.tok _,⟨s.toks+1,by rw[List.size_toArray,hlen]⟩,q⟩
 ·obtain⟨its,r',pl,hz⟩:=I.tuple hq;have hlen:=r'.length;exact len_tuple pl (by simp only[List.size_toArray] <;> omega) ⟨.int ys.length,H,I.tok _,⟨s.toks+1,by rw[List.size_toArray,hlen]⟩,q⟩
theorem aj2:ab6 X (.type "list") (fun xs H Q=>∃p ys,xs=[.ref p]/\(SqL X.K H p ys∨SqT X.K H p ys)/\∀l,H l=none->Q (.ref l) (upd H l (.lst ys))):=by
 intro zv s σ H xs us Q I r h;obtain⟨p,ys,rfl,hq,q⟩:=h;obtain⟨u,rfl,rx⟩:=vals1 r;cases rx;have fin:∀(its:List Value),Vals ys its->ys.length<=sizeLine->∀(h':Heap) (c':Nat),(∀b o',s.heap.get? b=some o'->h'.get? b=some o') ->
   h'.get? s.heap.objs.size=some { cls:=.type "list", dict:=none,data:=.seq its.toArray c',slots := #[] }->EP X zv σ Q (.ref s.heap.objs.size) { s with heap:=h' }:=fun its r' hz h' c' kp e =>
  ⟨.ref s.heap.objs.size,_,I.laid (t':=s.toks) kp (Nat.le_refl _) (show zg X.prog X.w _ h' _ (.lst ys) from⟨hz,its,c',r',e⟩),rfl,q _ (I.hok.fresh (Nat.le_refl _))⟩
 rcases hq with hq | hq
 ·obtain⟨its,r',pl,hz⟩:=I.list hq;have hlen:=r'.length;obtain⟨o,ho,hc,n,hd⟩:=pl.isList;exact call_list_seq p (.inl rfl) ho hc hd (fun h' c' kp e=>fin its r' hz h' c' kp e) (by simp only[List.size_toArray] <;> omega)
 ·obtain⟨its,r',pl,hz⟩:=I.tuple hq;have hlen:=r'.length;obtain⟨o,ho,hc,n,hd⟩:=pl;exact call_list_seq p (.inr rfl) ho hc hd (fun h' c' kp e=>fin its r' hz h' c' kp e) (by simp only[List.size_toArray] <;> omega)
theorem abe:ab6 X (.type "tuple") (fun xs H Q=>∃p ys,xs=[.ref p]/\((SqL X.K H p ys/\∀l,H l=none->Q (.ref l) (upd H l (.tup ys)))∨(SqT X.K H p ys/\Q (.ref p) H))):=by
 intro zv s σ H xs us Q I r h;obtain⟨p,ys,rfl,h⟩:=h;obtain⟨u,rfl,rx⟩:=vals1 r;cases rx;rcases h with⟨hq,q⟩ | ⟨hq,q⟩
 ·obtain⟨its,r',pl,hz⟩:=I.list hq;have hlen:=r'.length;refine call_tuple_list pl.isList (fun h' kp =>?_) (by simp only[List.size_toArray] <;> omega)
  have I1:Inv X zv σ H { s with heap:=h' }:=I.kept (t':=s.toks) kp
  have I2:Inv X zv σ (upd H h'.objs.size (.tup ys)) { s with heap:=h'.push { cls:=.type "tuple", data:=.seq its.toArray } } :=
   I1.laid (t':=s.toks) (fun b o e=>Heap.get?_push_of_some _ e) (Nat.le_refl _) (show zg X.prog X.w _ _ _ (.tup ys) from⟨hz,its,r',IsTp.new _ _⟩)
  exact⟨.ref h'.objs.size,_,I2,rfl,q _ (I1.hok.fresh (Nat.le_refl _))⟩
 ·obtain⟨its,r',pl,hz⟩:=I.tuple hq;exact call_tuple_same pl ⟨.ref p,H,I,rfl,q⟩
def tyV(K:Fg9)(T:String)(x:V)(H:Hp):Prop:=match x with
 | .str _=>T = "str"
 | .int _=>T = "int"
 | .ref p=>(T = "list" /\ ∃xs,SqL K H p xs)∨(T = "tuple" /\ ((∃o,K.lookup p=some o/\o.cls=.type "tuple" /\ o.dict=none)∨∃xs,H p=some (.tup xs))) ∨
   (T = "dict" /\ ((∃kvs,H p=some (.dK kvs))∨∃kvs,H p=some (.dT kvs)))∨(T = "set" /\ ∃S n,H p=some (.set S n))
 | _=>False
theorem ayt{zv:List (Addr×Obj)}{σ:St}{H:Hp}{s:Shared}{T:String}{x:V}{v:Value}(I:Inv X zv σ H s)(r:RelV x v)(ty:tyV X.K T x H) :
  s.TypeIs v T/\∀a,v=.ref a->∃ob,s.heap.get? a=some ob/\ob.dict=none:=by
 cases x with
 | str z =>
  obtain⟨t,rfl⟩:=r;cases(show T = "str" from ty)
  exact⟨typeIs_str s z t,fun _ e=>nomatch e⟩
 | int i =>
  obtain⟨t,rfl⟩:=r;cases(show T = "int" from ty)
  exact⟨typeIs_int s i t,fun _ e=>nomatch e⟩
 | ref p =>
  cases r;rcases ty with⟨rfl,xs,hq⟩ | ⟨rfl,⟨o,hk,hc,hd⟩ | ⟨xs,hk⟩⟩ | ⟨rfl,hk⟩ | ⟨rfl,S,n,hk⟩
  ·obtain⟨its,_,pl,_⟩:=I.list hq;refine⟨pl.isList.typeIs,fun a e =>?_⟩
   cases e;obtain⟨o,n,e,c,hd,_⟩:=pl;exact⟨o,e,hd⟩
  ·refine⟨⟨o,I.kIn p o hk,hc⟩,fun a e =>?_⟩
   cases e;exact⟨o,I.kIn _ o hk,hd⟩
  ·obtain⟨_,_,_,o,e,hc,hd,_⟩:=I.hok p _ hk;refine⟨⟨o,e,hc⟩,fun a e2 =>?_⟩
   cases e2;exact⟨o,e,hd⟩
  ·have z:∃o,s.heap.get? p=some o/\o.ExactDict:=by
    rcases hk with⟨kvs,hk⟩ | ⟨kvs,hk⟩
    ·obtain⟨_,_,_,_,o,_,_,e,ex,_⟩:=I.hok p _ hk;exact⟨o,e,ex⟩
    ·obtain⟨_,_,_,_,o,_,_,e,ex,_⟩:=I.hok p _ hk;exact⟨o,e,ex⟩
   obtain⟨o,e,ex⟩:=z;refine⟨⟨o,e,ex.1⟩,fun a e2 =>?_⟩
   cases e2;exact⟨o,e,ex.2.1⟩
  ·obtain⟨o,_,_,_,e,ex,_⟩:=I.hok p _ hk;refine⟨⟨o,e,ex.1⟩,fun a e2 =>?_⟩
   cases e2;exact⟨o,e,ex.2.1⟩
 | _=>exact False.elim ty
def tBM(K:Fg9)(T:String)(r:V->List V->Hp->VK->Prop)(to:TE)(t:TA):TE:=fun σ H Q=>to σ H fun x H1=>tyV K T x H1/\t σ H1 fun xs H2=>r x xs H2 Q
variable{o e:Expr}{es:List Expr}{to:TE}{t:TA}{name:Str}{apos cpos:Pos}{T id:String}{r:V->List V->Hp->VK->Prop}
theorem aw5(pa:PlainAttrs T)(slot:Slot T name id)(hty:typeOf (.builtin id)=pure (.type "method_descriptor"))(hm:MtR X id r)(ho:PE X o to)(ha:PA X (e::es) t)
  (hbase:attributeBase o name X.env (eval o X.env)=eval o X.env:=by rfl)
  (hfew:((backTo cpos (starEach (e::es) X.env)).all (fun x => !x.1)&&(backToKw cpos (keywordEach [] X.env)).all (fun x=>x.1.isSome)
   && decide ((e::es).length+([]:List Keyword).length+(if ([]:List Keyword).isEmpty then 0 else 1) < 30))=true:=by rfl)
  (hline:(apos.endLine==cpos.line)=true:=by rfl) (hs:starEach (e::es) X.env=(false,eval e X.env)::starEach es X.env:=by rfl) (hplain:(backTo cpos (starEach es X.env)).any (·.1)=false:=by rfl) :
  PE X (.Call (.Attribute o name apos) (e::es) [] cpos) (tBM X.K T r to t):=by
 intro zv s σ H Q I h;refine wpAny_Call_method_late hbase hfew hline rfl (thn (ho zv s σ H _ I h) fun v s1 ⟨x,H1,I1,r1,ty,q1⟩ =>?_)
 obtain⟨h1,h2⟩:=ayt I1 r1 ty;refine⟨T,id,pa,slot,hty,h1,h2,?_⟩;have hA:=ha cpos zv s1 σ H1 _ I1 q1;rw[hs] at hA ⊢
 refine Calls.callWith_builtin (by show(false||(backTo cpos (starEach es X.env)).any (·.1))=false;rw[hplain] <;> rfl) (Calls.evalArgs_plain ?_)
 exact thn hA fun us s2 ⟨vs,H2,I2,r2,q2⟩=>hm zv s2 σ H2 x vs v us Q I2 r1 r2 q2
end
def MtM(X:Cx)(id:String)(r:V->List V->Hp->VK->Prop):Prop :=
 ∀(zv:List (Addr×Obj)) (s:Shared) (σ:St) (H:Hp) (x:V) (xs:List V) (v:Value) (us:List Value) (Q:VK),Inv X zv σ H s->RelV x v->Vals xs us->r x xs H Q ->
  wpAny (model X.prog X.w) X.A (call (.builtin id) (v::us)) (EP X zv σ Q) X.xe s
theorem Vals.one:∀{x:V} {us:List Value},Vals [x] us->∃u,us=[u]/\RelV x u
 | _,_,.cons r .nil=>⟨_,rfl,r⟩
theorem Vals.rep{xs:List V}{us:List Value}(h:Vals xs us):∀k:Nat,Vals (List.replicate k xs).flatten (List.replicate k us).flatten
 | 0=>.nil
 | k+1=>by
  rw[List.replicate_succ,List.replicate_succ,List.flatten_cons,List.flatten_cons];exact Vals.append h (Vals.rep h k)
theorem foldl_rep(its:List Value):∀(k:Nat) (acc:List Value),
  List.foldl (fun x1 x2=>x1++x2) acc.toArray (List.replicate k its.toArray)=(acc++(List.replicate k its).flatten).toArray
 | 0,acc=>by simp
 | k+1,acc=>by
  have e:acc.toArray++its.toArray=(acc++its).toArray:=by simp
  have e2:(acc++its)++(List.replicate k its).flatten=acc++(List.replicate (k+1) its).flatten:=by
   rw[List.replicate_succ,List.flatten_cons,List.append_assoc]
  rw[<-e2,<-foldl_rep its k (acc++its),<-e,List.replicate_succ,List.foldl_cons]
section
variable{X:Cx}{zv:List (Addr×Obj)}{σ:St}{H:Hp}{s:Shared}{l b:Addr}{xs ys zs:List V}
theorem Inv.lset{its its':List Value}{n:Nat}{f:Array Value->Array Value}{t':Nat}(I:Inv X zv σ H s)(hH:H l=some (.lst xs))
  (e:s.heap.get? l=some { cls:=.type "list", data:=.seq its.toArray n }) (hf:f its.toArray=its'.toArray) (hv:Vals ys its') (hz:ys.length<=sizeLine) :
  Inv X zv σ (upd H l (.lst ys)) { s with heap:=s.heap.update l (Obj.mapSeq f),toks:=t' }:=by
 have q:=PySem.IsL.update e f;rw[hf] at q;refine I.write (x:=l) (e:=l) (by rw[hH];exact trivial) (.inl rfl) (fun b' u hb hu=>(Heap.get?_update_other s.heap (Obj.mapSeq f) (Ne.symm hb)).trans hu) ⟨_,q⟩ ?_
 exact⟨hz,its',_,hv,q⟩
theorem Inv.lnew{its:List Value}{t':Nat}(I:Inv X zv σ H s)(hv:Vals ys its)(hz:ys.length<=sizeLine) :
  Inv X zv σ (upd H s.heap.objs.size (.lst ys)) { s with heap:=s.heap.push { cls:=.type "list", data:=.seq its.toArray },toks:=t' } :=
 I.laid (fun _ _ q=>Heap.get?_push_of_some _ q) (Nat.le_refl _) ⟨hz,its,0,hv,Heap.get?_push_size _ rfl⟩
theorem Inv.fresh(I:Inv X zv σ H s):H s.heap.objs.size=none:=I.hok.fresh (Nat.le_refl _)
theorem Inv.lstM(I:Inv X zv σ H s)(hH:H l=some (.lst xs)):xs.length<=sizeLine/\∃(its:List Value) (n:Nat),Vals xs its/\xs.length=its.length/\s.heap.get? l=some { cls:=.type "list", data:=.seq its.toArray n }:=by
 obtain⟨z,its,n,r,e⟩:=I.hok l _ hH;exact⟨z,its,n,r,r.length,e⟩
theorem ato{n:Nat}(h:n<=sizeLine):Builtin.List.listTooLong n=false:=by
 unfold Builtin.List.listTooLong;exact decide_eq_false (by omega)
end
section
variable{X:Cx}
def apf:V->List V->Hp->VK->Prop:=fun x vs H Q=>∃l xs y,x=.ref l/\vs=[y]/\H l=some (.lst xs)/\xs.length < sizeLine/\Q .non (upd H l (.lst (xs++[y])))
theorem uq:MtM X "list.append" apf:=by
 intro zv s σ H x vs v us Q I rx rv h;obtain⟨l,xs,y,rfl,rfl,hH,hz,q⟩:=h;cases rx;obtain⟨u,rfl,ru⟩:=rv.one;obtain⟨z,its,n,r,hl,e⟩:=I.lstM hH;refine call_meets F.slot_list_append ⟨_,e,rfl⟩ F.entry_list_append (F.args_list_append_2 _ _) (PySem.list_append l its.toArray n u (by rw[List.size_toArray];omega)) ⟨e,?_⟩
 refine⟨.non,_,I.lset (its':=its++[u]) hH e (by simp) (r.append (.cons ru .nil)) ?_,rfl,q⟩
 rw[List.length_append,List.length_singleton];omega
def rCat:R2:=fun x y H Q=>∃l b xs zs,x=.ref l/\y=.ref b/\H l=some (.lst xs)/\H b=some (.lst zs)/\xs.length+zs.length<=sizeLine/\∀p,H p=none->Q (.ref p) (upd H p (.lst (xs++zs)))
theorem az5:OpR X (binaryOp .Add) rCat:=by
 intro zv s σ H x y v u Q I rx ry h;obtain⟨l,b,xs,zs,rfl,rfl,hH,hB,hz,q⟩:=h;cases rx;cases ry;obtain⟨z,its,n,r,hl,e⟩:=I.lstM hH;obtain⟨z2,its2,n2,r2,hl2,e2⟩:=I.lstM hB;refine PySem.P.add_list e e2 ?_ (by rw[List.size_toArray,List.size_toArray];omega)
 have ea:its.toArray++its2.toArray=(its++its2).toArray:=by simp
 rw[ea];exact⟨.ref _,_,I.lnew (t':=s.toks) (r.append r2) (by rw[List.length_append];omega),rfl,q _ I.fresh⟩
def rRep:R2:=fun x y H Q=>∃l k xs,x=.ref l/\y=.int k/\H l=some (.lst xs) /\ -(2 ^ 63)<=k/\k < 2 ^ 63/\xs.length*k.toNat<=sizeLine /\
 ∀p,H p=none->Q (.ref p) (upd H p (.lst (List.replicate k.toNat xs).flatten))
theorem len_rep{α:Type}(xs:List α)(k:Nat):(List.replicate k xs).flatten.length=k*xs.length:=by
 induction k with
 | zero=>simp
 | succ k ih=>rw[List.replicate_succ,List.flatten_cons,List.length_append,ih,Nat.succ_mul,Nat.add_comm]
theorem az1:OpR X (binaryOp .Mult) rRep:=by
 intro zv s σ H x y v u Q I rx ry h;obtain⟨l,k,xs,rfl,rfl,hH,h1,h2,hz,q⟩:=h;cases rx;obtain⟨t,rfl⟩:=ry;obtain⟨z,its,n,r,hl,e⟩:=I.lstM hH;have hlen:its.toArray.size*k.toNat<=sizeLine:=by rw[List.size_toArray,<-hl];exact hz
 have hcap:¬its.toArray.size*k.toNat > (2 ^ 63 - 1) / 8:=by
  have:(sizeLine:Nat)<=(2 ^ 63 - 1) / 8:=by decide
  omega
 have hfit:¬(!Builtin.List.listFitsIndex k)=true:=by
  rw[fitsIndex_both h1 h2];exact Bool.false_ne_true
 have hlong:¬Builtin.List.listTooLong (its.toArray.size*k.toNat)=true:=by
  rw[ato hlen];exact Bool.false_ne_true
 have hnew:List.foldl (fun x1 x2=>x1++x2) #[] (List.replicate (if its.toArray.isEmpty=true then 0 else k.toNat) its.toArray)=(List.replicate k.toNat its).flatten.toArray:=by
  have f0:∀m:Nat,List.foldl (fun x1 x2=>x1++x2) #[] (List.replicate m its.toArray)=(List.replicate m its).flatten.toArray:=fun m=>by
   have:=foldl_rep its m [];rw[List.nil_append] at this;exact this
  rw[f0];cases its with
  | nil=>simp
  | cons a r'=>rw[if_neg (by simp)]
 refine wpAny_binaryOp_repeat_ref (T := "list") (U := "int") (by decide) ⟨_,e,rfl⟩ (fun s'=>typeIs_int s' k t) noFill_list_mul F.fills_int_mul F.slot_int_rmul repeat_list F.slot_int_index.lookup
  (call_meets F.slot_int_rmul (typeIs_int s k t) F.entry_int_rmul (F.args_int_rmul_2 _ _) (int___rmul___int_list k t l its.toArray n)
   ⟨e,rfl,⟨_,e,rfl⟩,call_meets F.slot_list_mul ⟨_,e,rfl⟩ F.entry_list_mul (F.args_list_mul_2 _ _) (AutoListH.list___mul___list_int_3 l its.toArray n k t hfit hcap hlong) ⟨e,?_⟩⟩)
 rw[hnew];exact⟨.ref _,_,I.lnew (t':=s.toks) (r.rep k.toNat) (by rw[len_rep,Nat.mul_comm];exact hz),rfl,q _ I.fresh⟩
end
section
variable{prog:Program}{w:World}{A:Around}{E:Value->Shared->Prop}{s:Shared}
end
section
variable{X:Cx}
end
end L2
namespace Att
open PySem PySem.W PySem.Calls PyProof.Rows
theorem af9{P:Params}{h:Heap}:∀(ns:List Int) (vs:List Value),WellAll P h vs (ns.map WData.int)->IntsAre vs ns:=by
 intro ns
 induction ns with
 | nil =>
  intro vs w;rw[List.map_nil] at w;cases w;exact .nil
 | cons n ns ih =>
  intro vs w;rw[List.map_cons] at w;cases w with
  | cons a b =>
   cases a;exact .cons _ _ (ih _ b)
theorem ao9{l:OpenLaw}{n:Nat}(hn:l.most=some n){P:Params}{h:Heap}{args:List WData}{vals:List Value}
  (hpre:l.row.toRowW.claim.pre args=true) (hwl:WellAll P h vals args) :
  ∃a vs ns,vals=[Value.ref a]/\args=[WData.list (ns.map WData.int)]/\h.get? a=some { cls:=.type "list", data:=.seq vs.toArray }/\IntsAre vs ns/\ns.length<=n:=by
 have hsh:WShape.hasAll [] args [.list .int]=true:=(pre_splitW hpre).1;have hc:l.pre.holds [] { args:=args }=true:=(pre_splitW hpre).2;obtain⟨d,r,rfl,h1,h2⟩:=hasAllW_cons hsh;obtain rfl:=hasAllW_nil h2;obtain⟨xs,rfl,h3⟩:=hasW_list h1;obtain⟨ns,rfl⟩:=items_int h3;have hlen:ns.length<=n:=by
  unfold OpenLaw.pre at hc;have h4:(WTm.not (.lt (.lit (.int (n:Int))) (.len (.arg 0)))).holds [] { args:=[.list (ns.map .int)] }=true:=by
   have h4:=(holds_andW hc).1;rw[hn] at h4;exact h4
  have h5:=condW_of h4 (w_not (w_lt w_lit (w_len_list (w_arg rfl))));rw[List.length_map] at h5;refine Nat.le_of_not_lt fun q =>?_
  have q':(n:Int) < ((ns.length:Nat):Int):=by omega
  first
   | (rw[decide_eq_true q'] at h5;exact absurd h5 (by decide))
   | (simp at h5;omega)
 cases hwl with
 | cons w1 w2 =>
  cases w2;cases w1 with
  | list ho hall=>exact⟨_,_,ns,rfl,rfl,ho,af9 ns _ hall,hlen⟩
theorem apj(l:OpenLaw)(args:List WData):l.row.toRowW.claim.post args (.bool true) args=true :=
 postW_of (r:=l.row.toRowW) (X:=(true==true))
  (show WShape.has [] (.bool true) .bool=true by first | rfl | decide | simp[WShape.has,WShape.arms,WShape.armsAll])
  (show(WTm.eq .res (.lit (.bool true))).value [] { args:=args,res:=some (.bool true),after:=args }=some (.bool (true==true)) from w_eq_bool (w_res rfl) w_lit) rfl
theorem alo{l:OpenLaw}{n:Nat}{q:Program}{loose:List Str}{XP:(Str->Option Value)->Heap->Prop}{YP:World->Heap->Prop}{d:DefRec}
  (hn:l.most=some n) (hdf:d.params.defaults=[])
  (call:∀(w:World) (s₀ s₁:Shared) (mg mb:Str->Option Value) (fa:Addr) (o:Obj) (pm cd doc:Value) (a:Addr) (vs:List Value) (ns:List Int),
   Ground q loose [] XP w s₀ mg mb s₁.heap->YP w s₁.heap ->
   s₁.heap.get? fa=some o->o.data=.func (docDef d.name d.params d.body d.scope pm cd doc)->s₁.heap.CodeRec cd d.name->mg d.name=some (.ref fa) ->
   s₁.heap.get? a=some { cls:=.type "list", data:=.seq vs.toArray }->IntsAre vs ns->ns.length<=n->s₁.gens = #[] ->
   codeAny (model l.prog w) callerA (.call (.ref fa) ⟨[.ref a],[]⟩) (fun r s'=>r=.ok (.ret (.bool true))/\OldK s₁.heap s'.heap/\s'.os=s₁.os/\AllBare s'.gens) s₁) :
  WalkO q loose XP YP l.row.toRowW d [] (fun f vs=>PySem.call f vs):=by
 intro w s₀ s₁ mg mb G Y fa o pm cd doc dV kV ho hd hcd hD hmg hg args vals as hpre hlay hrd hwl hlo;obtain rfl:dV=.none:=Dflts.none hD hdf;obtain rfl:kV=.none:=Dflts.noKw hD;obtain⟨a,vs,ns,rfl,rfl,hobj,hints,hlen⟩:=ao9 hn hpre hwl;refine enter_call (codeAny_mono (call w s₀ s₁ mg mb fa o pm cd doc a vs ns G Y ho (fd_plain hd) hcd hmg hobj hints hlen hg) fun r s' hq =>?_)
 obtain⟨rfl,h2,h3,h4⟩:=hq;exact⟨.inl ⟨.bool true,.bool true,[],rfl,fun _=>rfl,.bool true,apj l _,fun _=>⟨List.Pairwise.nil,fun _ hm=>(nomatch hm)⟩⟩,h2,h3,h4⟩
section
variable{prog:Program}{w:World}{A:Around}{E:Value->Shared->Prop}{s:Shared}{K:Frag}
end
end Att
namespace L2
theorem aix:∀{vs:List Value} {ns:List Int},IntsAre vs ns->Vals (ns.map V.int) vs
 | _,_,.nil=>.nil
 | _,_,.cons n t h=>.cons ⟨t,rfl⟩ (aix h)
theorem atz{P:Program}{w:World}{K:Fg9}{mg mb:Str->Option Value}{CX:CXT}{k:Nat}{fa a:Addr}{fd:FuncData}{x:Str}{sp:Sp}{s₁:Shared}{vs:List Value}{ns:List Int}{c P₀:Addr}
  (KX:K.In s₁.heap) (hns:s₁.heap.Ns mainGlobals mg) (hb:s₁.heap.Ns builtinsNs mb) (hbb:∀x:Str,x ≠ "__name__" -> mb x=bootBuiltins x) (hlim:s₁.heap.NoLimit) (hg:s₁.gens = #[])
  (ha:s₁.heap.get? a=some { cls:=.type "list", data:=.seq vs.toArray }) (hi:IntsAre vs ns) (hl:ns.length<=sizeLine) (hr:Room k callerA)
  (hT:PySem.W.tabIn K LamN=some (c,P₀)) (hC:PySem.W.codeHdIn K c P₀=true) (hP:s₁.heap.get? P₀=some (PySem.W.tabObj #[])) (hKP:K.lookup P₀=none)
  (hbm:∃bm o,mg "__builtins__" = some (.ref bm)/\bm≠builtinsNs/\s₁.heap.get? bm=some o/\o.cls=.type "module" /\ o.dict=some builtinsNs/\o.data=.plain)
  (F:∀base:Heap,K.In base->base.Ns mainGlobals mg->FnOk P w K mg base CX k fa fd [x] sp) (hbind:∀(s:Shared) (u:Value),BindsTo s fd ⟨[u],[]⟩ [(x,u)])
  (hsp:∀H:Hp,SqL K H a (ns.map V.int)->sp [.ref a] H (fun v _=>v=.bl true) fun _ _ _=>False)
  (hCX:∀H e s',CX [] H s₁ (fun _ _ _=>False) e s'->False) :
  codeAny (model P w) callerA (.call (.ref fa) ⟨[.ref a],[]⟩) (fun r s'=>r=.ok (.ret (.bool true))/\OldK s₁.heap s'.heap/\s'.os=s₁.os/\AllBare s'.gens) s₁:=by
 have rv:=aix hi;have lenV:=hi.length;have neA:a≠P₀:=fun z=>by
  rw[z,hP] at ha;cases ha
 have core:∀H:Hp,SqL K H a (ns.map V.int)->HOk P w H s₁.heap->(∀b,H b≠none->b=a∨b=P₀)->H P₀=some (.tbl #[])->(∀u,H a=some u->K.lookup a=none/\∃o xs,u=.frz o (.lst xs)) ->
   codeAny (model P w) callerA (.call (.ref fa) ⟨[.ref a],[]⟩) (fun r s'=>r=.ok (.ret (.bool true))/\OldK s₁.heap s'.heap/\s'.os=s₁.os/\AllBare s'.gens) s₁:=by
  intro H hS hok hA hHP hK;have base_of:∀{b:Addr} {o:Obj},s₁.heap.get? b=some o->H b=none->(hidT s₁.heap H).get? b=some o:=fun e n=>auc e n
  have noO:∀{b:Addr} {o:Obj},s₁.heap.get? b=some o->o.cls≠.none->o.cls≠.type "list" -> H b=none:=fun{b o} e d1 d2=>by
   cases q:H b with
   | none=>rfl
   | some u =>
    rcases hA b (by rw[q];simp) with e' | e'
    ·subst e';rw[ha] at e;cases e;exact absurd rfl d2
    ·subst e';rw[hP] at e;cases e;exact absurd rfl d1
  have noA:∀{b:Addr} {o:Obj} {es:Array DictEntry} {ep:Nat},s₁.heap.get? b=some o->o.data=.dict es ep->H b=none:=fun{b o es ep} e d=>by
   cases q:H b with
   | none=>rfl
   | some u =>
    rcases hA b (by rw[q];simp) with e' | e'
    ·subst e';rw[ha] at e;cases e;have d':Data.seq vs.toArray _=Data.dict es ep:=d;cases d'
    ·subst e';rw[hP] at e;cases e;have d':Data.fields (#[]:Array Value)=Data.dict es ep:=d;cases d'
  have nsK:∀{b:Addr} {m:Str->Option Value},s₁.heap.Ns b m->(hidT s₁.heap H).Ns b m:=fun{b m} ⟨o,es,ep,e,d,r⟩=>⟨o,es,ep,base_of e (noA e d),d,r⟩
  have hKb:K.In (hidT s₁.heap H):=fun b o e=>base_of (KX b o e) (by
   cases q:H b with
   | none=>rfl
   | some u =>
    rcases hA b (by rw[q];simp) with e' | e'
    ·subst e';rw[(hK u q).1] at e;cases e
    ·subst e';rw[hKP] at e;cases e)
  have hM:Mod K mg (hidT s₁.heap H):=⟨hKb,nsK hns,⟨mb,nsK hb,hbb⟩,let ⟨mc,h1,h2⟩:=hlim;⟨mc,nsK h1,h2⟩⟩
  have hTb:Tb K mg (hidT s₁.heap H) H:=by
   obtain⟨bm,o,b1,b2,b3,b4,b5⟩:=hbm;refine⟨fun c' P' h =>?_,bm,o,b1,b2,base_of b3 (noO b3 (by rw[b4];simp) (by rw[b4];simp)),b4,b5⟩
   rw[hT] at h;cases h;exact⟨PySem.W.codeHd_of_K hKb hC,_,hHP⟩
  have e0:Env0 P w K mg (hidT s₁.heap H) callerA [] s₁ H:=⟨rfl,hM,fun b o e=>axd e,Nat.le_of_eq (aqo _ _),trivial,fun b hb=>absurd (show b∈([]:List Addr) from hb) (by simp),hok,.of_eq hg,hTb⟩
  refine codeAny_mono ((F _ hKb (nsK hns)).run callerA [] s₁ H ⟨[.ref a],[]⟩ [.ref a] [.ref a] _ _ hr e0 (hbind s₁ (.ref a)) (.cons rfl .nil) (hsp H hS)) fun r s' h =>?_
  cases r with
  | error e=>exact(hCX H e s' h).elim
  | ok fl =>
   cases fl with
   | next=>exact False.elim h
   | brk=>exact False.elim h
   | cont=>exact False.elim h
   | ret u =>
    obtain⟨v,H',os,bare,un,hok',r',q⟩:=h;have q':v=.bl true:=q;subst q';obtain rfl:u=Value.bool true:=r';obtain⟨more,hP'⟩:=un.tbls P₀ _ hHP;obtain⟨qs,hqs,_⟩:=hok' P₀ _ hP';have kp:∀b o,b≠P₀->s₁.heap.get? b=some o->s'.heap.get? b=some o:=fun b o nb e=>by
     cases q:H b with
     | none=>exact un.keep b o e q (by intro z;exact absurd (show b∈([]:List Addr) from z) (by simp)) (by simp)
     | some u =>
      rcases hA b (by rw[q];simp) with e' | e'
      ·subst e';obtain⟨_,ob,xs,rfl⟩:=hK u q;have z2:=un.frzs b ob _ q;obtain⟨e1,_⟩:=hok b _ q;obtain⟨e2,_⟩:=hok' b _ z2;rw[e] at e1;cases e1;exact e2
      ·exact absurd e' nb
    refine⟨rfl,⟨fun b o e =>?_,fun b o e =>?_⟩,os,bare⟩
    ·by_cases hb:b=P₀
     ·subst hb;rw[hP] at e;cases e;exact .inr (.inl ⟨((PySem.W.codeHd_of_K KX hC).tab hP).isCodeTable,rfl,#[],qs,rfl,by rw[Array.empty_append];exact hqs⟩)
     ·exact .inl (kp b o hb e)
    ·by_cases hb:b=P₀
     ·subst hb;exact⟨_,hqs⟩
     ·exact⟨o,kp b o hb e⟩
 have tabK:∀H:Hp,TabO H s₁.heap P₀:=fun H=>⟨#[],hP,trivial,fun pos cv e=>by cases(show(none:Option Value)=some cv from e)⟩
 cases hk:K.lookup a with
 | some o =>
  have e:=KX a o hk;rw[ha] at e;cases e;refine core (fun b=>if b=P₀ then some (.tbl #[]) else none) (.inr ⟨_,vs.toArray,_,hk,rfl,rfl,rfl,by rw[List.size_toArray,lenV];exact hl,by simpa using rv⟩) (fun b u z =>?_) (fun b z =>?_) (if_pos rfl) fun u z =>?_
  ·by_cases hb:b=P₀
   ·have z':=(if_pos hb).symm.trans z;cases z';subst hb;exact tabK _
   ·have z':=(if_neg hb).symm.trans z;cases z'
  ·by_cases hb:b=P₀
   ·exact .inr hb
   ·exact absurd (if_neg hb) z
  ·have z':=(if_neg neA).symm.trans z;cases z'
 | none =>
  refine core (fun b=>if b=a then some (.frz { cls:=.type "list", data:=.seq vs.toArray } (.lst (ns.map V.int))) else if b=P₀ then some (.tbl #[]) else none) (.inl (.inr ⟨{ cls:=.type "list", data:=.seq vs.toArray },if_pos rfl⟩)) (fun b u z =>?_) (fun b z =>?_) ((if_neg (Ne.symm neA)).trans (if_pos rfl)) fun u z =>?_
  ·by_cases hb:b=a
   ·have z':=(if_pos hb).symm.trans z;cases z';subst hb;exact⟨ha,by rw[List.length_map];exact hl,vs,_,rv,ha⟩
   ·by_cases hb2:b=P₀
    ·have z':=((if_neg hb).trans (if_pos hb2)).symm.trans z;cases z';subst hb2;exact tabK _
    ·have z':=((if_neg hb).trans (if_neg hb2)).symm.trans z;cases z'
  ·by_cases hb:b=a
   ·exact .inl hb
   ·by_cases hb2:b=P₀
    ·exact .inr hb2
    ·exact absurd ((if_neg hb).trans (if_neg hb2)) z
  ·have z':=(if_pos rfl).symm.trans z;cases z';exact⟨hk,_,_,rfl⟩
theorem av0{l:PySem.W.OpenLaw}{n k:Nat}{q:Program}{loose:List Str}{XP:(Str->Option Value)->Heap->Prop}{YP:World->Heap->Prop}{d:DefRec}{K:Params->Fg9}{CX:World->CXT}{sp:World->Sp}{x:Str}
  (hn:l.most=some n) (hn2:n<=sizeLine) (hdf:d.params.defaults=[]) (hr:Room k callerA)
  (hY:∀(w:World) (h:Heap),YP w h->(K w.params).In h/\∃c P₀,PySem.W.tabIn (K w.params) LamN=some (c,P₀)/\PySem.W.codeHdIn (K w.params) c P₀=true/\h.get? P₀=some (PySem.W.tabObj #[])/\(K w.params).lookup P₀=none)
  (F:∀(w:World) (mg:Str->Option Value) (fa:Addr) (h:Heap),(K w.params).In h->h.Ns mainGlobals mg->mg d.name=some (.ref fa) ->
   ∃fd:FuncData,(∀(s:Shared) (u:Value),BindsTo s fd ⟨[u],[]⟩ [(x,u)]) /\
    ∀base:Heap,(K w.params).In base->base.Ns mainGlobals mg->FnOk l.prog w (K w.params) mg base (CX w) k fa fd [x] (sp w))
  (hsp:∀(w:World) (H:Hp) (a:Addr) (ns:List Int),ns.length<=n->SqL (K w.params) H a (ns.map V.int)->sp w [.ref a] H (fun v _=>v=.bl true) fun _ _ _=>False)
  (hCX:∀(w:World) (H:Hp) (s:Shared) (e:Value) (s':Shared),CX w [] H s (fun _ _ _=>False) e s'->False) :
  PySem.W.WalkO q loose XP YP l.row.toRowW d [] (fun f vs=>PySem.call f vs):=by
 refine Att.alo hn hdf fun w s₀ s₁ mg mb fa o pm cd doc a vs ns G Y ho hd hcd hmg hobj hints hlen hg =>?_
 obtain⟨KX,c,P₀,h1,h2,h3,h4⟩:=hY w _ Y;obtain⟨fd,hb,hF⟩:=F w mg fa _ KX G.T.g hmg;obtain⟨bm,ob,b1,b2,b3,b4,b5,b6⟩:=G.T.bmain;exact atz KX G.T.g G.T.b G.T.builtins G.T.nolimit hg hobj hints (Nat.le_trans hlen hn2) hr h1 h2 h3 h4 ⟨bm,ob,b1,b2,b3,b4,b5,b6⟩ hF hb (fun H hS=>hsp w H a ns hlen hS) fun H e s'=>hCX w H s₁ e s'
def qw(s:Stmt):Arguments:=match s with
 | .FunctionDef _ a _ _ _ _ _ _ _ _=>a
 | _=>{ posonlyargs:=[],args:=[],vararg:=none,kwonlyargs:=[],kw_defaults:=[],kwarg:=none,defaults:=[] }
def jr(s:Stmt):List Stmt:=match s with
 | .FunctionDef _ _ b _ _ _ _ _ _ _=>b
 | _=>[]
def ao(s:Stmt):Scope:=match s with
 | .FunctionDef _ _ _ _ _ _ sc _ _ _=>sc
 | _=>{ kind:=.function,names:=[],isGenerator:=false,isCoroutine:=false }
abbrev CX0:CXT:=fun _ _ _ _ _ _=>False
abbrev E0:XK:=fun _ _ _=>False
theorem a3s{X:Cx}:asi CX0 X E0:=fun _ _ _ _ _ _ _ h=>h.elim
structure Fun (K:Fg9) (x qual:Str) (st:Stmt) (f:Addr) (fd:FuncData):Prop where
 ex:∃(oc:Value) (od:Option Addr) (kV doc pm:Value) (an:Option Addr) (cdv ct:Value) (osl:Array (Option Value)),
  fd=fnOf x qual (qw st) (jr st) (ao st) .none kV doc pm an cdv ct/\K.lookup f=some ⟨oc,od,.func fd,osl⟩/\codeIn K cdv qual=true
 kp:keepIn K (.ref f)=true
section
variable{P:Program}{w:World}{K:Fg9}{mg:Str->Option Value}{base:Heap}
theorem Fun.ok{x qual:Str}{st:Stmt}{f:Addr}{fd:FuncData}{N ps:List Str}{k:Nat}{sp:Sp}(F:Fun K x qual st f fd)(S:FnScope N ps (ao st))(len:∀vs H Q E,sp vs H Q E->vs.length=ps.length)
  (hbody:∀(cdv:Value) (A:Around) (outer:List Env) (s:Shared) (H:Hp) (vs:List V) (Q:VK) (E:XK),Room k (A.deeper (envOfC qual (ao st) s.heap.objs.size f cdv))->sp vs H Q E ->
   ∃t,PSs (cxOf CX0 P w K mg base N qual (ao st) f cdv A outer s H E).nox (jr st) t/\t { nx:=fun _ H'=>Q .non H',rt:=Q } (start N vs) H):FnOk P w K mg base CX0 (k+1) f fd ps sp:=by
 obtain⟨oc,od,kV,doc,pm,an,cdv,ct,osl,rfl,lk,hcd⟩:=F.ex;refine a08 lk hcd S len fun A outer s H vs Q E hr hsp =>?_
 obtain⟨t,h,q⟩:=hbody cdv A outer s H vs Q E hr hsp;exact⟨t,h.nox,q⟩
theorem Fun.binds{x qual:Str}{st:Stmt}{f:Addr}{fd:FuncData}{ps:List Str}(F:Fun K x qual st f fd)
  (h:∀(kV doc pm:Value) (an:Option Addr) (cdv ct:Value) (us:List Value),us.length=ps.length->bindArgs (fnOf x qual (qw st) (jr st) (ao st) .none kV doc pm an cdv ct) ⟨us,[]⟩=pure (ps.zip us)):Binds K fd ps []:=by
 obtain⟨oc,od,kV,doc,pm,an,cdv,ct,osl,rfl,lk,hcd⟩:=F.ex;exact .all (h kV doc pm an cdv ct)
theorem avm{x qual:Str}{st:Stmt}{f:Addr}{oc:Value}{od an:Option Addr}{osl:Array (Option Value)}{kV doc pm cdv ct:Value}(l:K.lookup f=some ⟨oc,od,.func (fnOf x qual (qw st) (jr st) (ao st) .none kV doc pm an cdv ct),osl⟩)
  (c:codeIn K cdv qual=true) (k:keepIn K (.ref f)=true):Fun K x qual st f (fnOf x qual (qw st) (jr st) (ao st) .none kV doc pm an cdv ct):=⟨⟨oc,od,kV,doc,pm,an,cdv,ct,osl,rfl,l,c⟩,k⟩
end
theorem ao4{n:Nat}(h:n<=1000):n < sizeLine:=Nat.lt_of_le_of_lt h (by decide)
section
variable{X:Cx}
theorem pv(i:Nat){x:Str}{pos:Pos}(hN:X.N[i]? = some x:=by rfl)(hv:Vis X.env.scope x:=by first | exact Or.inl rfl | exact Or.inr (Or.inl rfl) | exact Or.inr (Or.inr rfl))(hd:(x==("__debug__" : Str))=false:=by decide)
  (hcd:(x==("__classdict__" : Str))=false:=by decide):PE X (.Name x pos) (tVar i):=azo hN hv hd hcd
end
theorem iteF{A B:Prop}(h:B):if false=true then A else B:=by
 rw[if_neg Bool.false_ne_true];exact h
theorem iteT{A B:Prop}(h:A):if true=true then A else B:=by
 rw[if_pos rfl];exact h
def Same(H H':Hp):Prop:=∀b o,H b=some o->H' b=some o
theorem Same.refl(H:Hp):Same H H:=fun _ _ h=>h
theorem Same.trans{H H1 H2:Hp}(a:Same H H1)(b:Same H1 H2):Same H H2:=fun c o h=>b c o (a c o h)
theorem Same.free{H H':Hp}(e:Same H H'){l:Addr}(h:H' l=Option.none):H l=Option.none:=by
 cases q:H l with
 | none=>rfl
 | some o =>
  rw[e l o q] at h;cases h
theorem Same.seq{K:Fg9}{H H':Hp}{a:Addr}{xs:List V}(e:Same H H')(h:SqL K H a xs):SqL K H' a xs:=by
 rcases h with(h | ⟨o,h⟩) | h
 ·exact .inl (.inl (e _ _ h))
 ·exact .inl (.inr ⟨o,e _ _ h⟩)
 ·exact .inr h
end L2
namespace Mn
open L2
def kh(env:Env)(fr:List Str):List (Str×Addr):=fr.filterMap fun n=>(env.cells.lookup n).map fun c=>(n,c)
theorem agp(e:env.cells.lookup n=none):kh env (n::r)=kh env r:=by
 unfold kh;rw[List.filterMap_cons,e];rfl
theorem ac5(e:env.cells.lookup n=some c):kh env (n::r)=(n,c)::kh env r:=by
 unfold kh;rw[List.filterMap_cons,e];rfl
theorem look_same{x:Str}{c:Addr}{l:List (Str×Addr)}:List.lookup x ((x,c)::l)=some c:=by
 have hb:(x==x)=true:=beq_iff_eq.mpr rfl;simp only[List.lookup,hb]
theorem ag7{x n:Str}{c:Addr}{l:List (Str×Addr)}(h:x≠n):List.lookup x ((n,c)::l)=l.lookup x:=by
 have hb:(x==n)=false:=beq_eq_false_iff_ne.mpr h;simp only[List.lookup,hb]
theorem j6{env:Env}:∀{fr:List Str} {x:Str} {c:Addr},(kh env fr).lookup x=some c->env.cells.lookup x=some c
 | [],x,c,h=>by
  have h':(none:Option Addr)=some c:=h;cases h'
 | n::r,x,c,h=>by
  cases e:env.cells.lookup n with
  | none =>
   rw[agp e] at h;exact j6 h
  | some d =>
   rw[ac5 e] at h
   by_cases hx:x=n
   ·subst hx;rw[look_same] at h;rw[e];exact h
   ·rw[ag7 hx] at h;exact j6 h
theorem xx{env:Env}:∀{fr:List Str} {x:Str} {c:Addr},x∈fr->env.cells.lookup x=some c->(kh env fr).lookup x=some c
 | [],x,c,hm,h=>absurd hm (by simp)
 | n::r,x,c,hm,h=>by
  by_cases hx:x=n
  ·subst hx;rw[ac5 h,look_same]
  ·have hm':x∈r:=(List.mem_cons.mp hm).elim (fun e=>absurd e hx) id
   cases e:env.cells.lookup n with
   | none =>
    rw[agp e];exact xx hm' h
   | some d =>
    rw[ac5 e,ag7 hx];exact xx hm' h
def afo(XN fr:List Str):List Str->List (Option Nat)->Bool
 | [],[]=>true
 | _::N,none::r=>afo XN fr N r
 | x::N,some j::r=>XN[j]? == some x&&fr.contains x&&afo XN fr N r
 | _,_=>false
theorem ac7:∀{N:List Str} {src:List (Option Nat)} {i j:Nat} {x:Str},afo XN fr N src=true->N[i]? = some x->src[i]? = some (some j)->XN[j]? = some x/\x∈fr
 | [],[],i,j,x,_,h,_=>by simp at h
 | [],_::_,i,j,x,_,h,_=>by simp at h
 | _::_,[],i,j,x,_,_,h=>by simp at h
 | y::N,none::r,0,j,x,_,_,h=>by simp at h
 | y::N,none::r,i+1,j,x,hk,h1,h2=>ac7 (N:=N) (src:=r) (i:=i) hk (by simpa using h1) (by simpa using h2)
 | y::N,some k::r,0,j,x,hk,h1,h2=>by
  simp only[afo,Bool.and_eq_true] at hk;obtain⟨⟨a,b⟩,_⟩:=hk;simp at h1 h2;subst h1 h2;exact⟨by simpa using a,by simpa using b⟩
 | y::N,some k::r,i+1,j,x,hk,h1,h2=>by
  simp only[afo,Bool.and_eq_true] at hk;exact ac7 (N:=N) (src:=r) (i:=i) hk.2 (by simpa using h1) (by simpa using h2)
theorem ac6:∀{N:List Str} {src:List (Option Nat)},afo XN fr N src=true->src.length=N.length
 | [],[],_=>rfl
 | [],_::_,h=>by simp[afo] at h
 | _::_,[],h=>by simp[afo] at h
 | _::N,none::r,h=>by
  have:=ac6 (N:=N) (src:=r) h;simp[this]
 | _::N,some k::r,h=>by
  simp only[afo,Bool.and_eq_true] at h;have:=ac6 (N:=N) (src:=r) h.2;simp[this]
def pick(src:List (Option Nat))(σ:L2.St):L2.St:=src.map fun o=>o.bind fun j=>(σ[j]?).bind id
theorem al4{src:List (Option Nat)}{σ:L2.St}{i:Nat}{v:V}(h:(pick src σ)[i]? = some (some v)):∃j,src[i]? = some (some j)/\σ[j]? = some (some v):=by
 unfold pick at h;rw[List.getElem?_map] at h;cases e:src[i]? with
 | none=>rw[e] at h;cases h
 | some o =>
  rw[e] at h;have h':(o.bind fun j=>(σ[j]?).bind id)=some v:=Option.some.inj h
  cases o with
  | none=>cases h'
  | some j =>
   refine⟨j,rfl,?_⟩;have h2:(σ[j]?).bind id=some v:=h';cases q:σ[j]? with
   | none=>rw[q] at h2;cases h2
   | some z =>
    rw[q] at h2;have h3:z=some v:=h2;rw[h3]
def ae6(env:Env)(XN:List Str)(scope:Scope)(fr N:List Str)(src:List (Option Nat)):Bool :=
 scope.names.all (fun y=>y.2 != .cell&&(y.2 != .local||scope.names.lookup y.1==some .local)&&(y.2 != .free||fr.contains y.1)) &&
 fr.all (fun x=>scope.names.lookup x==some .free&&(env.kindOf x==some .cell||env.kindOf x==some .free))&&afo XN fr N src
structure CompOk (env:Env) (XN:List Str) (scope:Scope) (fr N:List Str) (src:List (Option Nat)):Prop where
 cell:∀y∈scope.names,y.2≠.cell
 loc:∀y∈scope.names,y.2=.local->scope.names.lookup y.1=some .local
 free:∀y∈scope.names,y.2=.free->y.1∈fr
 frk:∀x∈fr,scope.names.lookup x=some .free
 out:∀x∈fr,env.kindOf x=some .cell∨env.kindOf x=some .free
 src:afo XN fr N src=true
theorem CompOk.of{env:Env}{XN:List Str}{scope:Scope}{fr N:List Str}{src:List (Option Nat)}(h:ae6 env XN scope fr N src=true):CompOk env XN scope fr N src:=by
 simp only[ae6,Bool.and_eq_true,List.all_eq_true] at h;obtain⟨⟨h1,h2⟩,h3⟩:=h;refine⟨fun y hy =>?_,fun y hy e =>?_,fun y hy e =>?_,fun x hx =>?_,fun x hx =>?_,h3⟩
 ·have:=(h1 y hy).1.1
  simpa using this
 ·have:=(h1 y hy).1.2;rw[e] at this
  simpa using this
 ·have:=(h1 y hy).2;rw[e] at this
  simpa using this
 ·have:=(h2 x hx).1
  simpa using this
 ·have:=(h2 x hx).2
  simpa using this
theorem aep{env:Env}:∀{names:List (Str×NameKind)} {x:Str} {k:NameKind},
  (names.map fun(n,k)=>if (k==NameKind.free&&env.scope.kind==.function&&env.kindOf n==some .cell) then (n,NameKind.cell) else (n,k)).lookup x=some k ->
  ∃k0,names.lookup x=some k0/\(k=k0∨(k0=.free/\k=.cell))
 | [],x,k,h=>by simp at h
 | (n,q)::r,x,k,h=>by
  by_cases hx:x=n
  ·subst hx;have hb:(x==x)=true:=beq_iff_eq.mpr rfl;refine⟨q,by simp only[List.lookup,hb],?_⟩
   by_cases hc:(q==NameKind.free&&env.scope.kind==.function&&env.kindOf x==some .cell)=true
   ·rw[List.map_cons] at h;simp only[hc,if_true,List.lookup,hb] at h;simp only[Bool.and_eq_true] at hc;exact .inr ⟨by simpa using hc.1.1,(Option.some.inj h).symm⟩
   ·rw[List.map_cons] at h;simp only[hc,List.lookup,hb] at h;exact .inl (by simpa using h.symm)
  ·have hb:(x==n)=false:=beq_eq_false_iff_ne.mpr hx;have h':(r.map fun(n,k)=>if (k==NameKind.free&&env.scope.kind==.function&&env.kindOf n==some .cell) then (n,NameKind.cell) else (n,k)).lookup x=some k:=by
    rw[List.map_cons] at h
    by_cases hc:(q==NameKind.free&&env.scope.kind==.function&&env.kindOf n==some .cell)=true
    ·simp only[hc,if_true,List.lookup,hb] at h;exact h
    ·have h2:List.lookup x ((if (q==NameKind.free&&env.scope.kind==.function&&env.kindOf n==some .cell)=true then (n,NameKind.cell) else (n,q))::(r.map fun(n,k)=>if (k==NameKind.free&&env.scope.kind==.function&&env.kindOf n==some .cell) then (n,NameKind.cell) else (n,k)))=some k:=h
     rw[if_neg hc] at h2;simp only[List.lookup,hb] at h2;exact h2
   obtain⟨k0,e,d⟩:=aep h';exact⟨k0,by simp only[List.lookup,hb];exact e,d⟩
theorem abv{env:Env}:∀{names:List (Str×NameKind)} {x:Str},names.lookup x=some .free ->
  (names.map fun(n,k)=>if (k==NameKind.free&&env.scope.kind==.function&&env.kindOf n==some .cell) then (n,NameKind.cell) else (n,k)).lookup x=some .free ∨
  (names.map fun(n,k)=>if (k==NameKind.free&&env.scope.kind==.function&&env.kindOf n==some .cell) then (n,NameKind.cell) else (n,k)).lookup x=some .cell
 | [],x,h=>by simp at h
 | (n,q)::r,x,h=>by
  by_cases hx:x=n
  ·subst hx;have hb:(x==x)=true:=beq_iff_eq.mpr rfl;simp only[List.lookup,hb] at h;have hq:q=.free:=Option.some.inj h;subst hq
   by_cases hc:(NameKind.free==NameKind.free&&env.scope.kind==.function&&env.kindOf x==some .cell)=true
   ·right
    rw[List.map_cons];simp only[hc,if_true,List.lookup,hb]
   ·left
    show List.lookup x ((if (NameKind.free==NameKind.free&&env.scope.kind==.function&&env.kindOf x==some .cell)=true then (x,NameKind.cell) else (x,NameKind.free))::_)=some NameKind.free
    rw[if_neg hc];simp only[List.lookup,hb]
  ·have hb:(x==n)=false:=beq_eq_false_iff_ne.mpr hx;simp only[List.lookup,hb] at h;rw[List.map_cons]
   by_cases hc:(q==NameKind.free&&env.scope.kind==.function&&env.kindOf n==some .cell)=true
   ·simp only[hc,if_true,List.lookup,hb];exact abv h
   ·simp only[hc,List.lookup,hb]
    simpa[List.lookup,hb] using abv (env:=env) h
def cxC(X:Cx)(N:List Str)(scope:Scope)(fr:List Str)(fp:List Addr)(s:Shared)(H:Hp):Cx where
 prog:=X.prog
 w:=X.w
 K:=X.K
 mg:=X.mg
 base:=X.base
 A:=X.A
 N:=N
 s₀:=s
 H₀:=H
 env:=compEnvC scope (kh X.env fr) s.heap.objs.size X.env
 outer:=X.stack
 stack:=X.stack
 ex:=fp
 fn:=fun _=>false
 calm:=X.calm
 pn:=[]
 xe:=fun _ _=>False
section
variable{X:Cx}{zv:List (Addr×Obj)}{σ:L2.St}{H:Hp}{s:Shared}{scope:Scope}{fr N:List Str}{src:List (Option Nat)}{fp:List Addr}
theorem a1c(I:Inv X zv σ H s)(C:CompOk X.env X.N scope fr N src)(hkind:scope.kind=.function)(hf:∀b∈fp,FpOk X zv H b)(hl:∀b∈fp,b < s.heap.objs.size):(cxC X N scope fr fp s H).Ok where
 mod:=I.ok.mod
 kind:=hkind
 glob:=I.ok.glob
 blt:=I.ok.blt
 above:=Nat.le_refl _
 inj:=fun x y c h1 h2=>I.ok.inj x y c (j6 h1) (j6 h2)
 has:=fun x hx=>by
  have mem:∀k,(k=NameKind.cell∨k=NameKind.free)->(cxC X N scope fr fp s H).env.kindOf x=some k->x∈fr:=fun k hk e=>by
   obtain⟨k0,e0,d⟩:=aep (env:=X.env) (names:=scope.names) e;have hm:=PySem.mem_of_lookup e0;rcases d with rfl | ⟨rfl,_⟩
   ·rcases hk with rfl | rfl
    ·exact absurd rfl (C.cell _ hm)
    ·exact C.free _ hm rfl
   ·exact C.free _ hm rfl
  have hm:x∈fr:=by
   rcases hx with e | e
   ·exact mem _ (.inl rfl) e
   ·exact mem _ (.inr rfl) e
  obtain⟨c,hc⟩:=I.ok.has x (C.out x hm);exact⟨c,xx hm hc⟩
 cab:=fun _ _ h _=>absurd h Bool.false_ne_true
 hd:=I.ok.hd
 frames:=I.ok.frames
 stk:=.inl rfl
 exf:=fun b hb=>⟨Nat.ne_of_lt (hl b hb),fun x c e=>(hf b hb).2.2.2.2.1 x c (j6 e)⟩
 bs:=I.bs
 bsz:=Nat.le_trans I.ok.bsz I.sz
 noex:=fun b o e hb=>by
  rcases(hf b hb).2.2.2.1 with z | z
  ·exact I.ok.noex b o e z
  ·exact absurd (Nat.lt_of_lt_of_le (Heap.lt_size e) (Nat.le_trans I.ok.bsz z)) (Nat.lt_irrefl _)
 exfs:=fun b hb z=>by
  rcases List.mem_cons.mp (I.stkSub b z) with e | e
  ·exact(hf b hb).2.1 e
  ·exact(hf b hb).2.2.1 e
 funs:=I.stack
 frf:=I.stkFree
 tb:=I.tb
theorem amo(I:Inv X zv σ H s)(C:CompOk X.env X.N scope fr N src)(hkind:scope.kind=.function)(hf:∀b∈fp,FpOk X zv H b)(hl:∀b∈fp,b < s.heap.objs.size){h':Heap}{tk:Nat}{m:Str->Option Value}
  (hns:h'.Ns s.heap.objs.size m) (hk:∀b o,s.heap.get? b=some o->h'.get? b=some o):Inv (cxC X N scope fr fp s H) [] (pick src σ) H { s with heap:=h',toks:=tk } where
 ok:=a1c I C hkind hf hl
 os:=rfl
 bare:=I.bare
 base:=Un.kept hk
 loc:=by
  refine⟨m,hns,fun i x v h1 h2 h3 =>?_⟩
  obtain⟨j,hj,hv⟩:=al4 h2;obtain⟨hN,hm⟩:=ac7 C.src h1 hj;obtain⟨mo,_,hlo⟩:=I.loc;have vis:Vis X.env.scope x:=by
   rcases C.out x hm with e | e
   ·exact .inr (.inl e)
   ·exact .inr (.inr e)
  obtain⟨u,r,l⟩:=hlo j x v hN hv vis;refine⟨u,r,.inr ⟨?_,?_⟩⟩
  ·rcases abv (env:=X.env) (C.frk x hm) with e | e
   ·exact .inr e
   ·exact .inl e
  ·rcases l with⟨e,_⟩ | ⟨_,c,hc,z⟩
   ·rcases C.out x hm with q | q
    ·rw[q] at e;cases e
    ·rw[q] at e;cases e
   ·obtain⟨o,ho,hd⟩:=z;exact⟨c,xx hm hc,o,hk c o ho,hd⟩
 cell:=fun x c e=>by
  obtain⟨v,o,ho,hd⟩:=I.cell x c (j6 e);exact⟨v,o,hk c o ho,hd⟩
 free:=I.hok.fresh (Nat.le_refl _)
 freeC:=fun x c e=>I.freeC x c (j6 e)
 pin:=fun p hp=>absurd (show p∈([]:List (Addr×Obj)) from hp) (by simp)
 hok:=I.hok.kept hk
 len:=by
  unfold pick;rw[List.length_map];exact ac6 C.src
theorem amq(I:Inv X zv σ H s)(hf:∀b∈fp,FpOk X zv H b)(J:Inv (cxC X N scope fr fp s H) pins' σ' H' s')
  (hs:Heap.SameBut s.heap.objs.size s'.heap h''):Inv X zv σ H' { s' with heap:=h'' }:=by
 have k:∀b o,b≠s.heap.objs.size->s'.heap.get? b=some o->h''.get? b=some o:=fun b o hb e=>(hs.2 b hb).trans e
 have old:∀b o,s.heap.get? b=some o->b≠s.heap.objs.size:=fun b o e=>Nat.ne_of_lt (Heap.lt_size e)
 have un:Un (frs X.stack) fp H H' s.heap h'':=by
  have u:Un (frs X.stack) fp H H' s.heap s'.heap:=J.base;refine⟨fun b o e n hb hx=>k b o (old b o e) (u.keep b o e n hb hx),fun b o e n hb hx =>?_,u.free,fun b o e hx =>?_,u.tups,u.frzs,u.tbls⟩
  ·obtain⟨sl,q⟩:=u.slot b o e n hb hx;exact⟨sl,k b _ (old b o e) q⟩
  ·obtain⟨o',q⟩:=u.there b o e hx;exact⟨o',k b _ (old b o e) q⟩
 have hok:HOk X.prog X.w H' h'':=fun b u e=>by
  have nC:∀c z,H' c=some z->c≠s.heap.objs.size:=fun c z q w=>by
   have f:H' s.heap.objs.size=none:=J.free;rw[w,f] at q;cases q
  refine(J.hok b u e).stay (fun c v hc q=>k c v ?_ q) (fun _ q=>q) fun _ _ q=>q
  rcases hc with z | z
  ·rw[z];exact nC b u e
  ·exact nC c _ z
 have os:s'.os=s.os:=J.os;refine Inv.call' (s':={ s' with heap:=h'' }) I os un hok J.bare fun b hb =>?_
 obtain⟨_,f1,_,f3,f4,f5⟩:=hf b hb;exact⟨f3,f1,f4,f5⟩
end
def akj(ifs:List Expr)(env:Env):Sem Bool:=forIn ifs true fun c r=>if r=true then do let ok <-isTrue c env (eval c env);pure (ForInStep.yield ok) else pure (ForInStep.yield r)
def PIf(X:Cx)(ifs:List Expr)(t:TT):Prop :=
 ∀(zv:List (Addr×Obj)) (s:Shared) (σ:L2.St) (H:Hp) (Q:Bool->Hp->Prop),Inv X zv σ H s->t σ H Q->wpAny (model X.prog X.w) X.A (akj ifs X.env) (TP X zv σ Q) X.xe s
def tYes:TT:=fun _ H Q=>Q true H
theorem awu:PIf X [] tYes:=fun zv s σ H Q I h=>by
 show wpAny _ _ (pure true) _ _ s;exact wpAny_pure ⟨H,I,h⟩
theorem awt(hc:PT X c t):PIf X [c] t:=fun zv s σ H Q I h=>by
 unfold akj;rw[List.forIn_cons];rw[if_pos rfl];refine wpAny_bind (wpAny_bind (thn (hc zv s σ H _ I h) fun b s1 q=>wpAny_pure ?_))
 show wpAny _ _ (forIn [] b _) _ _ s1;exact wpAny_pure q
section
variable{prog:Program}{w:World}{A:Around}{R:Result->Shared->Prop}{s:Shared}
theorem compLoop(I:Nat->Shared->Prop)
  (turn:∀n s,I n s->wpAny (model prog w) A (pyNext it) (fun r s₁=>match r with
   | none=>R (.ok .next) s₁
   | some v=>wpAny (model prog w) A (letOwnedTupleGo target it v) (fun _ s₁'=>wpAny (model prog w) A (assign target env v) (fun _ s₂ =>
     wpAny (model prog w) A (akj ifs env) (fun ok s₃ =>
      if ok=true then wpAny (model prog w) A (eval elt env) (fun x s₄ =>
       wpAny (model prog w) A (call (.builtin "list.append") [acc,x]) (fun _ s₅=>∃m,m < n/\I m s₅) (fun _ _=>False) s₄) (fun _ _=>False) s₃
      else ∃m,m < n/\I m s₃) (fun _ _=>False) s₂) (fun _ _=>False) s₁') (fun _ _=>False) s₁) (fun _ _=>False) s)
  (n:Nat) (h:I n s) :
  codeAny (model prog w) A (.compLoop (.ListComp elt [⟨target,iter,ifs,0⟩] scope pos) 0 it acc env) R s:=by
 refine codeAny_loop rfl I (fun n s hI =>?_) n h
 show wpAny _ A ((compTurn (.ListComp elt [⟨target,iter,ifs,0⟩] scope pos) 0 it acc env).onRaise (fun x=>do noteFrame x env;theTreesLotGoes x)) _ _ s
 refine wpAny_noted ?_;rw[compTurn_list];refine wpAny_bind (wpAny_standAt (wpAny_bind (wpAny_mono (turn n s hI) (fun r s₁ h₁ =>?_) fun _ _ h'=>h'.elim)))
 cases r with
 | none=>exact wpAny_pure h₁
 | some v =>
  refine wpAny_bind (wpAny_mono h₁ (fun _ s₁' h₁' =>?_) fun _ _ h'=>h'.elim)
  refine wpAny_bind (wpAny_mono h₁' (fun _ s₂ h₂=>wpAny_bind (wpAny_mono h₂ (fun ok s₃ h₃ =>?_) fun _ _ h'=>h'.elim)) fun _ _ h'=>h'.elim)
  cases ok with
  | false=>exact wpAny_pure ⟨rfl,h₃⟩
  | true =>
   exact wpAny_bind (wpAny_bind (wpAny_mono h₃ (fun x s₄ h₄=>wpAny_bind (wpAny_mono h₄ (fun _ s₅ h₅=>wpAny_pure (wpAny_pure ⟨rfl,h₅⟩)) fun _ _ h'=>h'.elim)) fun _ _ h'=>h'.elim))
end
def a1o(J:It)(g:TG)(ti:TT)(te:TE)(Q:VK)(d:Addr)(σ0:L2.St)(H1:Hp):Prop :=
 ∃W:Nat->Nat->List V->L2.St->Hp->Prop,(∃m,W 0 m [] σ0 (upd H1 d (.lst [])))/\∀i m ys σ H2,W i m ys σ H2->H2 d=some (.lst ys) /\
  ((J.stop i H2/\Q (.ref d) H2)∨(J.go i H2/\∀x H3,J.yld i H2 x H3->g x σ H3 fun σ4 H4=>ti σ4 H4 fun b H5 =>
   if b=true then te σ4 H5 fun y H6=>H6 d=some (.lst ys)/\ys.length < sizeLine/\∃m',m' < m/\W (i+1) m' (ys++[y]) σ4 (upd H6 d (.lst (ys++[y]))) else ∃m',m' < m/\W (i+1) m' ys σ4 H5))
def awc(wi:TI)(g:TG)(ti:TT)(te:TE)(src:List (Option Nat)):TE:=fun σ H Q=>wi σ H fun J H1=>∀d,H1 d=none->a1o J g ti te Q d (pick src σ) H1
theorem aj0{X:Cx}{tg iter elt:Expr}{ifs:List Expr}{scope:Scope}{pos:Pos}{J:It}{fp:List Addr}{it d:Addr}{tn:Nat->Heap->Prop}{g:TG}{ti:TT}{te:TE}{Q:VK}{R:Result->Shared->Prop}
  {W:Nat->Nat->List V->L2.St->Hp->Prop} {m0:Nat} {σ0:L2.St} {H0:Hp} {s:Shared} (hc:X.calm=true) (hE:X.xe=fun _ _=>False) (T:Turn X.prog X.w X.K tg J fp it tn)
  (hf:∀H':Hp,(∀b∈fp,H' b=none)->∀b∈fp,FpOk X [] H' b) (hg:PG X tg g) (ht:PIf X ifs ti) (he:PE X elt te)
  (turn:∀i m ys σ H2,W i m ys σ H2->H2 d=some (.lst ys) /\
   ((J.stop i H2/\Q (.ref d) H2)∨(J.go i H2/\∀x H3,J.yld i H2 x H3->g x σ H3 fun σ4 H4=>ti σ4 H4 fun b H5 =>
    if b=true then te σ4 H5 fun y H6=>H6 d=some (.lst ys)/\ys.length < sizeLine/\∃m',m' < m/\W (i+1) m' (ys++[y]) σ4 (upd H6 d (.lst (ys++[y]))) else ∃m',m' < m/\W (i+1) m' ys σ4 H5)))
  (w0:W 0 m0 [] σ0 H0) (I0:Inv X [] σ0 H0 s) (st0:tn 0 s.heap) (fr0:∀b∈fp,H0 b=none)
  (hR:∀σ' H' s',Inv X [] σ' H' s'->Q (.ref d) H'->R (.ok .next) s') :
  codeAny (model X.prog X.w) X.A (.compLoop (.ListComp elt [⟨tg,iter,ifs,0⟩] scope pos) 0 (.ref it) (.ref d) X.env) R s:=by
 have hE':∀e s',X.xe e s'->False:=fun e s' h=>by rw[hE] at h;exact h
 refine compLoop (fun n s'=>∃i ys σ' H',Inv X [] σ' H' s'/\tn i s'.heap/\(∀b∈fp,H' b=none)/\W i n ys σ' H') ?_ m0 ⟨0,[],σ0,H0,I0,st0,fr0,w0⟩
 rintro n s5 ⟨i,ys,σ5,H5,I5,st5,fr5,w5⟩
 obtain⟨hD,alt⟩:=turn i n ys σ5 H5 w5;rcases alt with⟨stop,qn⟩ | ⟨go,step⟩
 ·refine wpAny_mono (T.done X rfl rfl rfl hc i [] s5 σ5 H5 (fun _ _=>False) I5 (hf _ fr5) st5 stop) (fun r s6 ⟨hr,I6⟩ =>?_) fun _ _ e=>e
  subst hr;exact hR σ5 H5 s6 I6 qn
 ·refine wpAny_mono (T.item X rfl rfl rfl hc i [] s5 σ5 H5 (fun _ _=>False) I5 (hf _ fr5) st5 go) (fun r s6 ⟨u,hr,h6⟩ =>?_) fun _ _ e=>e
  subst hr;refine wpAny_mono h6 (fun _ s7 ⟨x,H7,I7,r7,y7,st7,fr7⟩ =>?_) fun _ _ e=>e
  have I7':=I7.pinned (hf _ fr7) (T.obj _ _ st7);have again:∀{σ':L2.St} {H':Hp} {s':Shared} {ys':List V} {m':Nat},Inv X ([]++ai7 fp s7.heap) σ' H' s'->W (i+1) m' ys' σ' H'->∃i ys σ' H',Inv X [] σ' H' s'/\tn i s'.heap/\(∀b∈fp,H' b=none)/\W i m' ys σ' H':=fun{σ' H' s' ys' m'} Ia wa=>by
   refine⟨i+1,ys',σ',H',Ia.unpinned,T.keep _ _ _ st7 fun b hb o e=>(Ia.pin (b,o) (List.mem_append_right _ (List.mem_append_right _ (acb hb e)))).1,fun b hb =>?_,wa⟩
   obtain⟨o,e,d⟩:=T.obj _ _ st7 b hb;exact(Ia.pin (b,o) (List.mem_append_right _ (List.mem_append_right _ (acb hb e)))).2.1
  refine wpAny_mono (hg _ s7 σ5 H7 x u _ I7' r7 (step x H7 y7)) (fun _ s8 ⟨σ8,H8,I8,q8⟩ =>?_) hE'
  refine wpAny_mono (ht _ s8 σ8 H8 _ I8 q8) (fun ok s9 ⟨H9,I9,q9⟩ =>?_) hE'
  cases ok with
  | false =>
   rw[if_neg Bool.false_ne_true] at q9 ⊢
   obtain⟨m',hm,wa⟩:=q9;exact⟨m',hm,again I9 wa⟩
  | true =>
   rw[if_pos rfl] at q9 ⊢
   refine wpAny_mono (he _ s9 σ8 H9 _ I9 q9) (fun z s10 ⟨y,H10,I10,r10,hd10,hz,m',hm,wa⟩ =>?_) hE'
   refine wpAny_mono (uq _ s10 σ8 H10 (.ref d) [y] (.ref d) [z] (fun _ H'=>H'=upd H10 d (.lst (ys++[y]))) I10 rfl (.cons r10 .nil) ⟨d,ys,y,rfl,rfl,hd10,hz,rfl⟩) (fun _ s11 ⟨_,H11,I11,_,e11⟩ =>?_) hE'
   subst e11;exact⟨m',hm,again I11 wa⟩
theorem aw2(fr N:List Str)(src:List (Option Nat))(hc:X.calm=true)(hi:PI X tg iter wi)
  (hg:∀fp s H,PG (cxC X N scope fr fp s H) tg g) (ht:∀fp s H,PIf (cxC X N scope fr fp s H) ifs ti) (he:∀fp s H,PE (cxC X N scope fr fp s H) elt te)
  (hok:ae6 X.env X.N scope fr N src=true:=by rfl) (hkind:scope.kind=.function:=by rfl) (hclos:closureFor scope X.env=pure (kh X.env fr):=by rfl)
  (hs:∀x,foldedSetIterable iter X.env x=pure x:=by intro _;rfl):PE X (.ListComp elt [⟨tg,iter,ifs,0⟩] scope pos) (awc wi g ti te src):=by
 have C:=CompOk.of hok;intro zv s σ H Q I h;rw[eval_ListComp];refine wpAny_comprehension_free (use:=none) rfl hs hclos hkind C.loc (wpAny_mono (hi zv s σ H _ I h) (fun v s1 h1=>wpAny_mono h1 (fun itv s2 h2 =>?_) fun _ _ e=>e) fun _ _ e=>e)
 obtain⟨it,fp,tn,J,H2,e,I2,T,st2,f2,q2⟩:=h2;subst e;have hd0:H2 s2.heap.objs.size=none:=I2.hok.fresh (Nat.le_refl _);obtain⟨W,⟨m0,w0⟩,turn⟩:=q2 s2.heap.objs.size hd0;refine wpAny_newObj_type ?_;generalize hs3:({ s2 with heap:=s2.heap.push { cls:=.type "list", dict:=none,data:=.seq ([]:List Value).toArray } }:Shared)=s3
 have keep2:∀b o,s2.heap.get? b=some o->s3.heap.get? b=some o:=fun b o e=>by rw[<-hs3];exact Heap.get?_push_of_some _ e
 have I3:Inv X zv σ (upd H2 s2.heap.objs.size (.lst [])) s3:=by
  rw[<-hs3];exact I2.laid (t':=s2.toks) (fun b u q=>Heap.get?_push_of_some _ q) (Nat.le_refl _) ⟨Nat.zero_le _,[],0,.nil,Heap.get?_push_size _ rfl⟩
 have ne0:∀b∈fp,b≠s2.heap.objs.size:=fun b hb=>by
  obtain⟨o,e,_⟩:=T.obj _ _ st2 b hb;exact Nat.ne_of_lt (Heap.lt_size e)
 have f3:∀b∈fp,FpOk X zv (upd H2 s2.heap.objs.size (.lst [])) b:=fun b hb=>⟨by rw[dw (ne0 b hb)];exact(f2 b hb).1,(f2 b hb).2⟩
 have lt3:∀b∈fp,b < s3.heap.objs.size:=fun b hb=>by
  obtain⟨o,e,_⟩:=T.obj _ _ st2 b hb;exact Heap.lt_size (keep2 b o e)
 refine wpAny_newFunctionEnv C.cell (by intro y hy;simp at hy) (fun h₁ hns₁ hsb₁ =>?_) hkind
 have keep3:∀b o,s3.heap.get? b=some o->h₁.get? b=some o:=fun b o e=>hsb₁.extBut b o (Nat.ne_of_lt (Heap.lt_size e)) (Heap.get?_push_of_some _ e)
 have st4:tn 0 h₁:=T.keep _ _ _ st2 fun b hb o e=>keep3 b o (keep2 b o e)
 have I4:=amo (tk:=s3.toks+([]:List (Str×Value)).length) I3 C hkind f3 lt3 hns₁ keep3;have loop:=aj0 (X:=cxC X N scope fr fp s3 (upd H2 s2.heap.objs.size (.lst []))) (iter:=iter) (scope:=scope) (pos:=pos) (d:=s2.heap.objs.size)
  (R:=compPost (model X.prog X.w) X.A X.xe none (EP X zv σ Q) (.ref s2.heap.objs.size) s3.heap.objs.size) hc rfl T
  (fun H' hn b hb=>⟨hn b hb,Nat.ne_of_lt (lt3 b hb),I4.ok.exfs b hb,.inl hb,(I4.ok.exf b hb).2,fun p hp=>absurd (show p∈([]:List (Addr×Obj)) from hp) (by simp)⟩)
  (hg fp s3 _) (ht fp s3 _) (he fp s3 _) turn w0 I4 st4 (fun b hb=>(f3 b hb).1) (fun σ' H' s' I6 qn=>by
   obtain⟨m6,hn6,_⟩:=I6.loc;exact⟨m6,hn6,fun h'' hs''=>⟨.ref s2.heap.objs.size,H',amq I3 f3 I6 hs'',rfl,qn⟩⟩)
 exact codeAny_compStart_list loop (T.self _ 0 _ _ _ st4 loop)
theorem Same.new(h:H p=none)(o:HO):Same H (upd H p o):=fun b u q=>by rw[dw (f9 q h)];exact q
structure ItOf (J:It) (xs:List V) (S:Hp->Prop):Prop where
 go:∀i H,S H->i < xs.length->J.go i H
 yld:∀i H x H',S H->J.yld i H x H'->H'=H/\(i < xs.length->xs[i]? = some x)
 stop:∀i H,S H->xs.length<=i->J.stop i H
theorem aua{K:Fg9}{a:Addr}{xs:List V}:ItOf (Itt K a) xs fun H=>SqT K H a xs :=
 ⟨fun i H h hi=>⟨xs,xs[i],h,by simp[hi]⟩,fun i H x H' h y=>⟨y.1,fun _=>y.2 xs h⟩,fun i H h hi=>⟨xs,h,hi⟩⟩
theorem amm{K:Fg9}{a:Addr}{xs:List V}:ItOf (Itl K a) xs fun H=>SqL K H a xs :=
 ⟨fun i H h hi=>⟨xs,xs[i],h,by simp[hi]⟩,fun i H x H' h y=>⟨y.1,fun _=>y.2 xs h⟩,fun i H h hi=>⟨xs,h,hi⟩⟩
def ups(lo:Int)(n:Nat):List V:=(List.range n).map fun i=>V.int (lo+(i:Nat))
theorem ahj(lo:Int)(n:Nat):(ups lo n).length=n:=by simp[ups]
theorem av2{lo:Int}{n i:Nat}(h:i < n):(ups lo n)[i]? = some (.int (lo+(i:Nat))):=by
 unfold ups;rw[List.getElem?_map,List.getElem?_range h];rfl
theorem aml{lo:Int}{n:Nat}:ItOf (Itr lo n) (ups lo n) fun _=>True :=
 ⟨fun i H _ hi=>by rw[ahj] at hi;exact hi,fun i H x H' _ y=>⟨y.1,fun hi=>by rw[ahj] at hi;rw[av2 hi,y.2]⟩,fun i H _ hi=>by rw[ahj] at hi;exact hi⟩
section
variable{X:Cx}
def rAll(K:Fg9):List V->Hp->VK->Prop:=fun xs H Q=>∃(p:Addr) (bs:List Bool),xs=[.ref p]/\SqL K H p (bs.map V.bl)/\Q (.bl (bs.all id)) H
theorem aut(hc:X.calm=true):ab6 X (.builtin "all") (rAll X.K):=by
 intro zv s σ H xs us Q I r h;obtain⟨p,bs,rfl,hq,q⟩:=h;obtain⟨u,rfl,ru⟩:=vals1 r;cases ru;obtain⟨its,rv,pl,hz⟩:=I.list hq;have hl:=pl.isList;have hlen:=rv.length;rw[List.length_map] at hlen;have hlt:p < s.heap.objs.size:=by obtain⟨_,e,_⟩:=hl;exact Heap.lt_size e
 refine call_all_walk (wpAny_pyIter_list hl ?_);refine⟨s.heap.objs.size,[s.heap.objs.size,p],[s.heap.objs.size],its.toArray.size,_,_,fun i=>(bs[i]?).getD true,rfl,Walks.list (A:=X.A.in1) (I.ok.hd hc) _ p (Nat.ne_of_lt hlt) its.toArray,
  ⟨⟨_,Heap.get?_push_size _ rfl,rfl,rfl⟩,hl.push _⟩,fun i v s' Q' E' hP hQ =>?_,fun h' tk hk =>?_⟩
 ·have hi:its[i]? = some v:=by simpa using hP
  cases e:bs[i]? with
  | none =>
   have h1:bs.length<=i:=List.getElem?_eq_none_iff.mp e;have h2:i < its.length:=(List.getElem?_eq_some_iff.mp hi).1;omega
  | some b =>
   obtain⟨u,hu,ru⟩:=rv.get (i:=i) (x:=V.bl b) (by rw[List.getElem?_map,e];rfl)
   rw[hi] at hu;cases hu;obtain rfl:v=Value.bool b:=ru;simp only[e,Option.getD_some] at hQ;exact wpAny_truthy_bool hQ
 ·have e:((List.range its.toArray.size).all fun i=>(bs[i]?).getD true)=bs.all id:=by
   rw[List.size_toArray,<-hlen];exact LSm.range_all bs
  rw[e];exact⟨.bl (bs.all id),H,I.kept (t':=tk) (LSm.kept_iter hk),rfl,q⟩
end
def Dfn(P:Program)(w:World)(K:Fg9)(mg:Str->Option Value)(base:Heap)(x:Str)(ps:List Str)(k:Nat)(sp:Sp):Prop :=
 ∃(f:Addr) (fd:FuncData),FnOk P w K mg base CX0 k f fd ps sp/\mg x=some (.ref f)/\keepIn K (.ref f)=true/\Binds K fd ps []
section
variable{X:Cx}{x:Str}{ps:List Str}{k:Nat}{sp:Sp}{e:Expr}{es:List Expr}{t:TA}{p pos:Pos}
theorem a3q(F:Dfn X.prog X.w X.K X.mg X.base x ps k sp)(hr:Room k X.A)(hg:Gl X x)(ha:PA X (e::es) t)(hdb:(x==("__debug__" : Str))=false:=by decide)
  (he:starEach (e::es) X.env=(false,eval e X.env)::starEach es X.env:=by rfl) (hpl:(backTo pos (starEach es X.env)).any (·.1)=false:=by rfl):PE X (.Call (.Name x p) (e::es) [] pos) (ayy sp [] E0 t):=by
 obtain⟨f,fd,F,hm,hk,hb⟩:=F;exact aw4 F hr hg hm hk hb .nil a3s ha hdb he hpl
theorem a3p(hg:Gl X x)(hm:∃t,X.mg x=some (.int n t))(hd:(x==("__debug__" : Str))=false:=by decide):PE X (.Name x pos) (tC (.int n)):=by
 obtain⟨t,hm⟩:=hm;exact aw1 hg hm ⟨t,rfl⟩ hd
theorem anw(hg:Gl X x)(hm:X.mg x=none)(hv:bootBuiltins x=some (.type T))(hn:x ≠ "__name__" := by decide)(hd:(x==("__debug__" : Str))=false:=by decide):PE X (.Name x pos) (tC (.ty T)) :=
 aw6 hg hm hv rfl hn hd
end
section
variable{X:Cx}
end
section
variable{prog:Program}{w:World}{A:Around}{E:Value->Shared->Prop}{s:Shared}
theorem aur{t b:Addr}{vs ws:List Value}{Q:Value->Shared->Prop}(ht:IsTup s.heap t vs.toArray)(hb:IsTup s.heap b ws.toArray)(hv:vs=[])(h:Q (.ref b) s):wpAny (model prog w) A (binaryOp .Add (.ref t) (.ref b)) Q E s:=by
 obtain⟨⟨cls,dd,data,sl⟩,ho,hc,n,hd⟩:=id ht;obtain⟨⟨cls2,dd2,data2,sl2⟩,ho2,hc2,n2,hd2⟩:=id hb;simp only at hc hd hc2 hd2;subst hc hd hc2 hd2;exact concat_meets ⟨_,ho,rfl⟩ ⟨_,ho2,rfl⟩ noFill_tuple_add seq_tuple_add PySem.F.slot_tuple_add PySem.F.entry_tuple_add (PySem.F.args_tuple_add_2 _ _)
  (tuple_addW0 t b vs.toArray ws.toArray n n2 dd dd2 sl sl2 (by simp[hv])) ⟨ho,ho2,h⟩
end
section
variable{X:Cx}
end
section
variable{X:Cx}
end
theorem abg:fillsNumberSlot (.type "tuple") "mul" = pure false :=
 PySem.fillsNumberSlot_seq (id := "tuple.__mul__") (r:=some (.builtin "tuple.__rmul__")) F.slot_tuple_mul.lookup (by decide +kernel) F.slot_tuple_rmul.lookup (by decide +kernel)
theorem aeo:seqRepeat? (.type "tuple")=pure (some (.builtin "tuple.__mul__")):=by
 unfold seqRepeat?;rw[PySem.seqSlot_of (T := "tuple") (name := "__mul__") (id := "tuple.__mul__") F.slot_tuple_mul.lookup (by decide +kernel),PySem.seqSlot_of (T := "tuple") (name := "__rmul__") (id := "tuple.__rmul__") F.slot_tuple_rmul.lookup (by decide +kernel)]
 rfl
theorem acl(a:Int)(t:Tok)(l:Addr)(items:Array Value)(n:Nat)(dd:Option Addr)(sl:Array (Option Value)) :
  Meets (Builtin.«int.__rmul__» ⟨[.int a t,.ref l],[]⟩) (fun _ R s=>s.heap.get? l=some { cls:=.type "tuple", dict:=dd,data:=.seq items n,slots:=sl }/\R (.ok (.ret Value.notImplemented)) s) :=
 .of_wp fun prog w A R s h=>by obtain⟨hp,g,d,tk,os⟩:=s;obtain⟨hl,h⟩:=h;wp_walk;exact⟨_,rfl,h⟩
theorem ani(l:Addr)(items:Array Value)(n:Nat)(dd:Option Addr)(sl:Array (Option Value))(x:Int)(u:Tok)(h0:items.isEmpty=false)(h2:2<=x)(h63:x < 2 ^ 63)(hsz:items.size*x.toNat<=sizeLine) :
  Meets (Builtin.«tuple.__mul__» ⟨[.ref l,.int x u],[]⟩) (fun _ R s=>s.heap.get? l=some { cls:=.type "tuple", dict:=dd,data:=.seq items n,slots:=sl } /\
   R (.ok (.ret (Value.ref s.heap.objs.size))) { s with heap:=s.heap.push { cls:=Value.type "tuple", data:=Data.seq (List.foldl (fun x1 x2=>x1++x2) #[] (List.replicate x.toNat items)) },toks:=s.toks }) :=
 .of_wp fun prog w A R s h=>by
  obtain⟨hp,g,d,tk,os⟩:=s;obtain⟨hl,h⟩:=h;have c1:(decide (x < -2 ^ 63)||decide (x≥2 ^ 63))=false:=by
   rw[Bool.or_eq_false_iff];exact⟨decide_eq_false (by omega),decide_eq_false (by omega)⟩
  have c2:(items.isEmpty||x==1)=false:=by
   rw[h0,Bool.false_or,beq_eq_false_iff_ne];omega
  have c3:(decide (x<=0)||items.isEmpty)=false:=by
   rw[h0,Bool.or_false];exact decide_eq_false (by omega)
  have e4:((items.size:Int)*x)=((items.size*x.toNat:Nat):Int):=by
   have:x=(x.toNat:Int):=by omega
   rw[Int.natCast_mul,<-this]
  have h4:(sizeLine:Int)<=(2 ^ 63 - 1) / 8:=by decide
  have c4:¬((items.size:Int)*x > (2 ^ 63 - 1) / 8):=by rw[e4];omega
  have c5:Builtin.Tuple.tupleTooMany ((items.size:Int)*x)=false:=by
   unfold Builtin.Tuple.tupleTooMany;rw[e4];exact decide_eq_false (by omega)
  wp_walk;refine wpAny_ite_false (by rw[c1];rfl) ?_
  wp_walk;refine wpAny_ite_false (by rw[c2];rfl) ?_
  try dsimp only
  refine wpAny_ite_false (by rw[c3];rfl) ?_
  try dsimp only
  refine wpAny_ite_false (decide_eq_false c4) ?_
  try dsimp only
  refine wpAny_ite_false (by rw[c5];rfl) ?_
  have hso:sizeOk (.seq (List.foldl (fun x1 x2=>x1++x2) #[] (List.replicate x.toNat items))):=by
   show(List.foldl (fun x1 x2=>x1++x2) #[] (List.replicate x.toNat items)).size<=sizeLine
   have hn:=foldl_rep items.toList x.toNat [];rw[List.nil_append] at hn;have hn':List.foldl (fun x1 x2=>x1++x2) #[] (List.replicate x.toNat items)=(List.replicate x.toNat items.toList).flatten.toArray:=hn
   rw[hn',List.size_toArray,len_rep,Array.length_toList,Nat.mul_comm];exact hsz
  refine wpAny_bind (m:=Builtin.Tuple.tupleExact _) (wpAny_newObj_type (wpAny_pure ⟨_,rfl,h⟩) hso)
theorem anj(l:Addr)(items:Array Value)(n:Nat)(dd:Option Addr)(sl:Array (Option Value))(x:Int)(u:Tok)(hx:x=1) :
  Meets (Builtin.«tuple.__mul__» ⟨[.ref l,.int x u],[]⟩) (fun _ R s=>s.heap.get? l=some { cls:=.type "tuple", dict:=dd,data:=.seq items n,slots:=sl }/\R (.ok (.ret (Value.ref l))) s) :=
 .of_wp fun prog w A R s h=>by
  obtain⟨hp,g,d,tk,os⟩:=s;obtain⟨hl,h⟩:=h;have c1:(decide (x < -2 ^ 63)||decide (x≥2 ^ 63))=false:=by
   rw[Bool.or_eq_false_iff];exact⟨decide_eq_false (by omega),decide_eq_false (by omega)⟩
  have c2:(items.isEmpty||x==1)=true:=by rw[hx];simp
  wp_walk;exact⟨_,rfl,h⟩
section
variable{X:Cx}
theorem aw9:OpR X (binaryOp .Mult) (fun x y H Q=>∃a xs,x=.ref a/\y=.int 1/\H a=some (.tup xs)/\Q (.ref a) H):=by
 intro zv s σ H x y v u Q I rx ry h;obtain⟨a,xs,rfl,rfl,ha,q⟩:=h;cases rx;obtain⟨t,rfl⟩:=ry;obtain⟨its,r1,p1,_⟩:=I.tuple (SqT.of ha);obtain⟨⟨cls,dd,data,sl⟩,ho,hc,n,hd⟩:=id p1;simp only at hc hd;subst hc hd;exact wpAny_binaryOp_repeat_ref (T := "tuple") (U := "int") (by decide) ⟨_,ho,rfl⟩ (fun s'=>typeIs_int s' 1 t) abg F.fills_int_mul F.slot_int_rmul aeo F.slot_int_index.lookup
  (call_meets F.slot_int_rmul (typeIs_int s 1 t) F.entry_int_rmul (F.args_int_rmul_2 _ _) (acl 1 t a its.toArray n dd sl)
   ⟨ho,rfl,⟨_,ho,rfl⟩,call_meets F.slot_tuple_mul ⟨_,ho,rfl⟩ F.entry_tuple_mul (F.args_tuple_mul_2 _ _) (anj a its.toArray n dd sl 1 t rfl) ⟨ho,⟨.ref a,H,I,rfl,q⟩⟩⟩)
def ay6:R2:=fun x y H Q=>∃a xs k,x=.ref a/\y=.int k/\H a=some (.tup xs)/\xs≠[]/\2<=k/\k < 2 ^ 63/\xs.length*k.toNat<=sizeLine/\∀p,H p=none->Q (.ref p) (upd H p (.tup (List.replicate k.toNat xs).flatten))
theorem atk:OpR X (binaryOp .Mult) ay6:=by
 intro zv s σ H x y v u Q I rx ry h;obtain⟨a,xs,k,rfl,rfl,ha,hx,h2,h63,hz,q⟩:=h;cases rx;obtain⟨t,rfl⟩:=ry;obtain⟨its,r1,p1,_⟩:=I.tuple (SqT.of ha);obtain⟨⟨cls,dd,data,sl⟩,ho,hc,n,hd⟩:=id p1;simp only at hc hd;subst hc hd;have hnew:List.foldl (fun x1 x2=>x1++x2) #[] (List.replicate k.toNat its.toArray)=(List.replicate k.toNat its).flatten.toArray:=by
  have:=foldl_rep its k.toNat [];rw[List.nil_append] at this;exact this
 refine wpAny_binaryOp_repeat_ref (T := "tuple") (U := "int") (by decide) ⟨_,ho,rfl⟩ (fun s'=>typeIs_int s' k t) abg F.fills_int_mul F.slot_int_rmul aeo F.slot_int_index.lookup
  (call_meets F.slot_int_rmul (typeIs_int s k t) F.entry_int_rmul (F.args_int_rmul_2 _ _) (acl k t a its.toArray n dd sl)
   ⟨ho,rfl,⟨_,ho,rfl⟩,call_meets F.slot_tuple_mul ⟨_,ho,rfl⟩ F.entry_tuple_mul (F.args_tuple_mul_2 _ _) (ani a its.toArray n dd sl k t ?_ h2 h63 ?_) ⟨ho,?_⟩⟩)
 ·cases its with
  | nil=>exact absurd (r1.nil_iff.mp rfl) hx
  | cons _ _=>rfl
 ·rw[List.size_toArray,<-r1.length];exact hz
 ·rw[hnew];refine⟨.ref s.heap.objs.size,_,I.laid (t':=s.toks) (o:=.tup (List.replicate k.toNat xs).flatten) (fun b ob q=>Heap.get?_push_of_some _ q) (Nat.le_refl _) ?_,rfl,q _ (I.hok.fresh (Nat.le_refl _))⟩
  exact⟨by rw[len_rep,Nat.mul_comm];exact hz,_,r1.rep k.toNat,IsTp.new _ _⟩
end
section
variable{prog:Program}{w:World}{A:Around}{E:Value->Shared->Prop}{s:Shared}
theorem acy{t sl:Addr}{items:Array Value}{vl vu:Value}{lo hi:Option Int}{Q:Value->Shared->Prop}(ht:IsTup s.heap t items)(hs:s.heap.IsSliceOf sl vl vu .none)(pl:IsPart vl lo)(pu:IsPart vu hi)
  (h1:HT.sIx items.size 0 lo=0) (h2:HT.sIx items.size items.size hi=items.size) (h:Q (.ref t) s):wpAny (model prog w) A (getItem (.ref t) (.ref sl)) Q E s:=by
 obtain⟨os,hos,hcs,hds⟩:=id hs;have hTs:s.TypeIs (.ref sl) "slice" := ⟨os,hos,hcs⟩;unfold getItem
 try with_reducible refine wpAny_holding ?_
 first | refine wpAny_bind (wpAny_pure ?_) | skip
 refine wpAny_bind (wpAny_sequenceKey ht.typeIs (by decide) ?_)
 refine wpAny_bind (wpAny_callSpecial?_slot (name:=Str.ofString "__getitem__") ht.typeIs PyProof.Rows.slot_tuple_getitem
  (wpAny_call_entry PyProof.Rows.slot_tuple_getitem ht.typeIs entry_tuple_getitem ?_ (args_tuple_getitem _ _)))
 show wpAny _ _ (Builtin.Tuple.tupleItemsOf (.ref t) >>= _) _ _ s;refine wpAny_bind (tupleItemsOf_ ht ?_);refine wpAny_bind (wpAny_typeOf hTs ?_);rw[if_pos (by decide)]
 refine wpAny_bind (HT.abf hs pl pu ?_);have hyes:(((HT.sIx items.size 0 lo:Nat):Int)==0&&(1:Int)==1&&(HT.sIx items.size items.size hi - HT.sIx items.size 0 lo)==items.size)=true:=by
  rw[h1,h2];simp
 show wpAny _ _ (if (((HT.sIx items.size 0 lo:Nat):Int)==0&&(1:Int)==1&&(HT.sIx items.size items.size hi - HT.sIx items.size 0 lo)==items.size)=true then _ else _) _ _ s
 rw[if_pos hyes];refine wpAny_bind (wpAny_bind (wpAny_typeOf ht.typeIs (wpAny_pure ?_)));rw[if_pos (by decide)]
 exact wpAny_bind (wpAny_rule (wpAny_pure ⟨_,rfl,wpAny_pure h⟩))
end
section
variable{X:Cx}
end
section
variable{X:Cx}(K:Fg9)(hK:X.K=K)
include hK
variable{tg:Expr}
end
theorem rz:bootBuiltins "len" = some (.builtin "len"):=by decide +kernel
theorem arz:bootBuiltins "all" = some (.builtin "all"):=by decide +kernel
theorem qp:bootBuiltins "isinstance" = some (.builtin "isinstance"):=by decide +kernel
theorem avt:bootBuiltins "max" = some (.builtin "max"):=by decide +kernel
theorem a1h:bootBuiltins "min" = some (.builtin "min"):=by decide +kernel
theorem arv:bootBuiltins "sorted" = some (.builtin "sorted"):=by decide +kernel
theorem arw:bootBuiltins "divmod" = some (.builtin "divmod"):=by decide +kernel
theorem am6:bootBuiltins "int" = some (.type "int"):=by decide +kernel
theorem arx:bootBuiltins "bool" = some (.type "bool"):=by decide +kernel
theorem lr:bootBuiltins "tuple" = some (.type "tuple"):=by decide +kernel
theorem yz:bootBuiltins "list" = some (.type "list"):=by decide +kernel
theorem auv:bootBuiltins "range" = some (.type "range"):=by decide +kernel
theorem a1g:bootBuiltins "set" = some (.type "set"):=by decide +kernel
theorem aj6:bootBuiltins "enumerate" = some (.type "enumerate"):=by decide +kernel
structure ExcK (K:Fg9) (C:Addr):Prop where
 ga:findIn K (.ref C) "__getattribute__" = some (some (.builtin "BaseException.__getattribute__"))
 gh:findIn K (.ref C) "__getattr__" = some none
 be:PySem.W.mroIn K C (.type "BaseException")=some true
 hd:PySem.W.hasDictIn K C=true
 cl:findIn K (.ref C) "__class__" = some (some (.builtin "object.__class__"))
 sp:PySem.W.specialIn K (.builtin "object.__class__") "__get__" = some (some (.builtin "getset_descriptor.__get__"))
 tk:PySem.W.takesIn K (.builtin "object.__class__")=some true
 ob:PySem.W.mroIn K C (.type "object")=some true
 no:∀T∈["int","bool","tuple","list","str","dict"],PySem.W.subIn K (.ref C) (.type T)=some false
theorem ala{K:Fg9}{C:Addr}{od:Option Obj}{name:Str}{a g:Value}(hc:(PySem.W.clsIn K C).isSome=true)(ha:findIn K (.ref C) name=some (some a))(hg:PySem.W.specialIn K a "__get__" = some (some g))(ht:PySem.W.takesIn K a=some true):PySem.W.findObj K C od name=some (.bind g a):=by
 obtain⟨cd,hc⟩:=Option.isSome_iff_exists.mp hc;unfold PySem.W.findObj;rw[hc,Option.bind_some,ha,Option.bind_some];simp[hg,ht]
section
variable{prog:Program}{w:World}{A:Around}{E:Value->Shared->Prop}{s:Shared}{K:Fg9}{x D:Addr}{ox:Obj}{od:Option Obj}{name:Str}
theorem auh{fill expr:Bool}{tk:Tok}{Q:Value->Shared->Prop}(X:K.In s.heap)(I:PySem.W.InstAt s.heap x ox D od)(k:ExcK K D)
  (h:wpAny (model prog w) A.in1 (Builtin.«object.__getattribute__» ⟨[.ref x,.str name tk],[]⟩)
   (fun fin s'=>match fin with | .done (.ret v)=>wpAny (model prog w) A (handedOut v) Q E s' | _=>False) (fun _ _=>False) s) :
  wpAny (model prog w) A (getAttrBy (.ref x) (.str name tk) fill expr) Q E s:=by
 obtain⟨hh,g,d,t,os⟩:=s;have L0:=I.type (M:=model prog w);have L1:=PySem.W.looks_findIn (M:=model prog w) X k.ga;have L2:=PySem.W.looks_findIn (M:=model prog w) X k.gh;have L3:PySem.W.Looks (model prog w) hh (isInstance (.ref x) (.type "BaseException")) true:=L0.andThen (PySem.W.looks_mroIn X k.be);unfold getAttrBy;refine wpAny_holding (wpAny_bind (L0.at (wpAny_bind (L1.at ?_))));have hx2:(Value.builtin "BaseException.__getattribute__" == Value.builtin "object.__getattribute__")=false:=by decide +kernel
 have hx1:(onTheHeap (Value.ref D)&&Value.builtin "BaseException.__getattribute__" == Value.builtin "object.__getattribute__")=false:=by rw[hx2,Bool.and_false]
 simp only[hx1,Bool.false_eq_true,if_false];unfold getAttrByItsOwn hookBefore;rw[if_pos (show onTheHeap (Value.ref D)=true from rfl)]
 refine wpAny_bind ?_;refine L2.at (wpAny_bind (wpAny_attempt (wpAny_holding ?_)));have hx0:(expr&&onTheHeap (Value.builtin "BaseException.__getattribute__"))=false:=by cases expr <;> rfl
 unfold callGetattribute;rw[if_neg (by rw[hx0];exact Bool.false_ne_true)]
 unfold boundAndCalled;refine wpAny_bind (wpAny_of_eq (PySem.F.attr_ValueError.ga.bind (.ref x)) ?_);have hk1:builtinKind "BaseException.__getattribute__" = some .slot:=by decide +kernel
 have hs1:splitId "BaseException.__getattribute__" = some ("BaseException","__getattribute__"):=by decide +kernel
 have ha1:=PySem.F.args_bexc_ga (.ref x) (.str name tk);dsimp only[List.cons_append,List.nil_append];refine wpAny_call (codeAny_call_builtin (id := "BaseException.__getattribute__") (args:=⟨[.ref x,.str name tk],[]⟩) PySem.F.attr_ValueError.ga.plain PySem.F.entry_bexc_ga ?_);refine PySem.W.check_slot (i := "BaseException.__getattribute__") (owner := "BaseException") (n := "__getattribute__") (self:=.ref x) (rest:=[.str name tk]) (kw:=[]) hk1 hs1 L3 ha1 ?_;refine wpAny_mono h (fun fin s' z =>?_) fun _ _ z=>z.elim
 rcases fin with(_ | _ | _ | _) | _ <;> first | exact z | exact z.elim
theorem aui(X:K.In s.heap)(I:PySem.W.InstAt s.heap x ox D od)(hf:PySem.W.findObj K D od name=some (.bind g a))
  (h:wpAny (model prog w) A (call g [a,.ref x,.ref D]) P E s) :
  wpAny (model prog w) A (Builtin.«object.__getattribute__» ⟨[.ref x,.str name tk],[]⟩) (fun fin s'=>match fin with | .done (.ret v)=>P v s' | _=>False) E s:=by
 obtain⟨hh,gg,d,t,os⟩:=s;have L0:=I.type (M:=model prog w);have L1:=PySem.W.looks_find (M:=model prog w) X I hf;unfold Builtin.«object.__getattribute__»
 refine wpAny_bind (wpAny_pure (wpAny_bind (wpAny_pure (wpAny_bind (L0.at (wpAny_bind (L1.at ?_)))))));show wpAny _ _ (Builtin.ObjectAttr.bindTo g a (.ref x) (.ref D)) _ _ _;show wpAny _ _ (holding [a] (call g [a,.ref x,.ref D]) >>= ret) _ _ _;exact wpAny_bind (wpAny_holding (wpAny_mono h (fun v s' z=>wpAny_pure z) fun _ _ z=>z))
end
theorem at5{K:Fg9}{x D:Addr}(k:ExcK K D):PySem.W.KitX K (.ref x) (.ref D) (fun h=>∃ox od,PySem.W.InstAt h x ox D od) where
 ty:=fun _ _ _ ⟨_,_,I⟩=>I.type
 it:=fun _ _ X _=>by
  obtain⟨cdD,hcD,_⟩:=PySem.W.any_some k.hd;unfold PySem.W.clsIn at hcD;split at hcD
  ·rename_i c' d' cd' sl' ho;intro A' Q' E' s' k q;unfold isType loadHead;exact wpAny_bind (wpAny_loadPart (k _ _ (X _ _ ho)) (wpAny_pure q))
  ·cases hcD
 ne:=fun h tp dd its n sl X htp=>by
  obtain⟨cdD,hcD,_⟩:=PySem.W.any_some k.hd;refine Bool.eq_false_iff.mpr fun q =>?_
  have e:D=tp:=Value.ref.inj (beq_iff_eq.mp q);subst e;unfold PySem.W.clsIn at hcD;split at hcD
  ·rename_i c' d' cd' sl' ho;have z:=(X _ _ ho).symm.trans htp;cases z
  ·cases hcD
 ca:=fun{prog w A E Q s} X ⟨ox,od,I⟩ q=>by
  have hf:PySem.W.findObj K D od "__class__" = some (.bind (.builtin "getset_descriptor.__get__") (.builtin "object.__class__")):=ala (by obtain⟨cd,hc,_⟩:=PySem.W.any_some k.hd;rw[hc];rfl) k.cl k.sp k.tk
  unfold getAttr? getAttrBy?;refine wpAny_bind (wpAny_mkText (wpAny_bind (wpAny_attempt (auh (s:={ s with toks:=s.toks+1 }) X I k (aui (s:={ s with toks:=s.toks+1 }) X I hf
   (wpAny_call (PySem.W.class_get (s:={ s with toks:=s.toks+1 }) (ox:=ox) (od:=od) X I k.ob (PySem.W.handed_on rfl (wpAny_pure q)))))))))
end Mn
namespace Dn
open L2 Mn
inductive D where
 | non | bl (b:Bool) | int (i:Int) | str (x:Str) | tup (l:List D) | lst (l:List D) | kst (l:List D) | dct (kvs:List (Key×D)) | exn (c:Str) (fs:List (Str×Int)) | dtt (kvs:List (List Int×Int))
def exO(a C:Addr)(dx:Option Addr):Heap->Prop:=fun h=>∃oe vs,h.get? a=some oe/\oe.cls=.ref C/\oe.dict=dx/\oe.data=.fields vs
section
variable(K:Fg9)(F:Hp)
mutual
inductive Is:D->V->Prop
 | non:Is .non .non
 | bl (b:Bool):Is (.bl b) (.bl b)
 | int (i:Int):Is (.int i) (.int i)
 | str (x:Str):Is (.str x) (.str x)
 | tup {a:Addr} {vs:List V} {ds:List D} (e:F a=some (.tup vs)) (h:IsL ds vs):Is (.tup ds) (.ref a)
 | lst {a:Addr} {vs:List V} {ds:List D} (e:F a=some (.lst vs)) (h:IsL ds vs):Is (.lst ds) (.ref a)
 | kst {a:Addr} {vs:List V} {ds:List D} (e:SqL K F a vs) (h:IsL ds vs):Is (.kst ds) (.ref a)
 | dct {a:Addr} {kvs:List (Key×V)} {ds:List (Key×D)} (e:F a=some (.dK kvs)) (h:IsK ds kvs):Is (.dct ds) (.ref a)
 | exn {a C:Addr} {c:Str} {dx:Option Addr} {fs:List (Str×Int)} (e:F a=some (.ext (exO a C dx))) (hc:nsIn K mainGlobals c=some (some (.ref C))) (hk:ExcK K C)
   (hf:(dx=none/\fs=[])∨∃d,dx=some d/\F d=some (.xd (fs.map fun p=>(p.1,V.int p.2)))):Is (.exn c fs) (.ref a)
 | dtt {a:Addr} {ds:List (List Int×Int)} (e:F a=some (.dT (ds.map fun p=>(p.1.map Sum.inl,V.int p.2)))):Is (.dtt ds) (.ref a)
inductive IsL:List D->List V->Prop
 | nil:IsL [] []
 | cons {d:D} {v:V} {ds:List D} {vs:List V} (h:Is d v) (t:IsL ds vs):IsL (d::ds) (v::vs)
inductive IsK:List (Key×D)->List (Key×V)->Prop
 | nil:IsK [] []
 | cons {k:Key} {d:D} {v:V} {ds:List (Key×D)} {vs:List (Key×V)} (h:Is d v) (t:IsK ds vs):IsK ((k,d)::ds) ((k,v)::vs)
end
end
section
variable{K:Fg9}{F F':Hp}
mutual
theorem Is.mono(g:Same F F'):∀{d:D} {v:V},Is K F d v->Is K F' d v
 | _,_,.non=>.non
 | _,_,.bl b=>.bl b
 | _,_,.int i=>.int i
 | _,_,.str x=>.str x
 | _,_,.tup e h=>.tup (g _ _ e) (IsL.mono g h)
 | _,_,.lst e h=>.lst (g _ _ e) (IsL.mono g h)
 | _,_,.kst e h=>.kst (L2.Same.seq g e) (IsL.mono g h)
 | _,_,.dct e h=>.dct (g _ _ e) (IsK.mono g h)
 | _,_,.exn e hc hk hf=>.exn (g _ _ e) hc hk (hf.imp id fun⟨d,h1,h2⟩=>⟨d,h1,g _ _ h2⟩)
 | _,_,.dtt e=>.dtt (g _ _ e)
theorem IsL.mono(g:Same F F'):∀{ds:List D} {vs:List V},IsL K F ds vs->IsL K F' ds vs
 | _,_,.nil=>.nil
 | _,_,.cons h t=>.cons (Is.mono g h) (IsL.mono g t)
theorem IsK.mono(g:Same F F'):∀{ds:List (Key×D)} {vs:List (Key×V)},IsK K F ds vs->IsK K F' ds vs
 | _,_,.nil=>.nil
 | _,_,.cons h t=>.cons (Is.mono g h) (IsK.mono g t)
end
theorem IsL.length:∀{ds:List D} {vs:List V},IsL K F ds vs->ds.length=vs.length
 | _,_,.nil=>rfl
 | _,_,.cons _ t=>by simp[IsL.length t]
theorem IsL.append:∀{ds es:List D} {vs ws:List V},IsL K F ds vs->IsL K F es ws->IsL K F (ds++es) (vs++ws)
 | _,_,_,_,.nil,h=>h
 | _,_,_,_,.cons h t,k=>.cons h (IsL.append t k)
theorem IsL.take:∀{ds:List D} {vs:List V} (n:Nat),IsL K F ds vs->IsL K F (ds.take n) (vs.take n)
 | _,_,0,_=>by simpa using IsL.nil
 | _,_,_+1,.nil=>.nil
 | _,_,n+1,.cons h t=>.cons h (IsL.take n t)
theorem IsL.drop:∀{ds:List D} {vs:List V} (n:Nat),IsL K F ds vs->IsL K F (ds.drop n) (vs.drop n)
 | _,_,0,h=>h
 | _,_,_+1,.nil=>.nil
 | _,_,n+1,.cons _ t=>IsL.drop n t
theorem IsL.get:∀{ds:List D} {vs:List V} {i:Nat} {d:D},IsL K F ds vs->ds[i]? = some d->∃v,vs[i]? = some v/\Is K F d v
 | _,_,_,_,.nil,e=>by simp at e
 | _,_,0,_,.cons h _,e=>by simp at e;subst e;exact⟨_,rfl,h⟩
 | _,_,i+1,v,.cons _ t,e=>by
  obtain⟨d,h1,h2⟩:=IsL.get (i:=i) (d:=v) t (by simpa using e)
  exact⟨d,by simpa using h1,h2⟩
theorem IsL.set(h:Is K F d v):∀{ds:List D} {vs:List V} (i:Nat),IsL K F ds vs->IsL K F (ds.set i d) (vs.set i v)
 | _,_,_,.nil=>.nil
 | _,_,0,.cons _ t=>.cons h t
 | _,_,i+1,.cons q t=>.cons q (IsL.set h i t)
theorem IsL.rep(h:IsL K F ds vs):∀k:Nat,IsL K F (List.replicate k ds).flatten (List.replicate k vs).flatten
 | 0=>by simpa using IsL.nil
 | k+1=>by
  rw[List.replicate_succ,List.replicate_succ,List.flatten_cons,List.flatten_cons];exact h.append (IsL.rep h k)
theorem IsL.int_inv{ns:List Int}:∀{vs:List V},IsL K F (ns.map D.int) vs->vs=ns.map V.int:=by
 induction ns with
 | nil =>
  intro _ h;cases h;rfl
 | cons n r ih =>
  intro _ h;cases h with
  | cons h t =>
   cases h;rw[ih t];rfl
theorem IsL.bl_inv{ns:List Bool}:∀{vs:List V},IsL K F (ns.map D.bl) vs->vs=ns.map V.bl:=by
 induction ns with
 | nil =>
  intro _ h;cases h;rfl
 | cons n r ih =>
  intro _ h;cases h with
  | cons h t =>
   cases h;rw[ih t];rfl
theorem afk:∀ns:List Int,IsL K F (ns.map D.int) (ns.map V.int)
 | []=>.nil
 | n::r=>.cons (.int n) (afk r)
end
inductive Sl where
 | emp | val (d:D) | own (t:Option Nat) (l:List D) | box (c:Str) (fs:List (Str×(Nat ⊕ D))) | lol (ts:List Nat) | lnk (k:Nat)
abbrev Ro:=List Sl
def Owns(ρ:Ro)(σ:L2.St)(i:Nat)(a:Addr):Prop:=(∃t l,ρ[i]? = some (.own t l))/\σ[i]? = some (some (.ref a))
def Own(ρ:Ro)(σ:L2.St)(a:Addr):Prop:=∃i,Owns ρ σ i a
def SlOk(K:Fg9)(tg:Nat->Addr)(F H:Hp):Sl->Option V->Prop
 | .emp,_=>True
 | .val d,o=>∃v,o=some v/\Is K F d v
 | .own t l,o=>∃a vs,o=some (.ref a)/\F a=none/\H a=some (.lst vs)/\IsL K F l vs/\∀k,t=some k->tg k=a
 | .box c fs,o=>∃a C dx fvs,o=some (.ref a)/\F a=none/\H a=some (.ins C dx fvs)/\nsIn K mainGlobals c=some (some (.ref C))/\(∀f,fs.lookup f=none->fvs.lookup f=none)/\(∀f k,fs.lookup f=some (.inl k)->fvs.lookup f=some (.ref (tg k)))/\∀f d,fs.lookup f=some (.inr d)->∃v,fvs.lookup f=some v/\Is K F d v
 | .lol ts,o=>∃a,o=some (.ref a)/\F a=some (.lst (ts.map fun k=>V.ref (tg k)))
 | .lnk k,o=>o=some (.ref (tg k))
structure Good (K:Fg9) (tg:Nat->Addr) (F H:Hp) (ρ:Ro) (σ:L2.St):Prop where
 sub:Same F H
 len:ρ.length=σ.length
 sl:∀(i:Nat) (s:Sl) (o:Option V),ρ[i]? = some s->σ[i]? = some o->SlOk K tg F H s o
 inj:∀(i j:Nat) (a:Addr),Owns ρ σ i a->Owns ρ σ j a->i=j
structure Ext (O O':Addr->Prop) (F H F' H':Hp):Prop where
 sub:Same F F'
 new:∀a o,F' a=some o->F a=some o∨H a=none∨O a
 keep:∀a o,H a=some o->¬O a->H' a=some o
 own:∀a,O' a->O a∨H a=none
 there:∀a,H' a=none->H a=none
theorem Ext.refl(O:Addr->Prop)(F H:Hp):Ext O O F H F H:=⟨fun _ _ e=>e,fun _ _ e=>.inl e,fun _ _ e _=>e,fun _ h=>.inl h,fun _ h=>h⟩
theorem Ext.trans(a:Ext O O1 F H F1 H1)(b:Ext O1 O2 F1 H1 F2 H2):Ext O O2 F H F2 H2 where
 sub:=a.sub.trans b.sub
 new:=fun c o e=>by
  rcases b.new c o e with q | q | q
  ·exact a.new c o q
  ·exact .inr (.inl (a.there c q))
  ·rcases a.own c q with z | z
   ·exact .inr (.inr z)
   ·exact .inr (.inl z)
 keep:=fun c o e n=>b.keep c o (a.keep c o e n) fun z=>by
  rcases a.own c z with q | q
  ·exact n q
  ·rw[e] at q;cases q
 own:=fun c z=>by
  rcases b.own c z with q | q
  ·exact a.own c q
  ·exact .inr (a.there c q)
 there:=fun c z=>a.there c (b.there c z)
section
variable{K:Fg9}{tg:Nat->Addr}{F H F' H':Hp}{ρ ρ':Ro}{σ:L2.St}
theorem Good.ownAt(G:Good K tg F H ρ σ)(h:Own ρ σ a):F a=none/\∃vs,H a=some (.lst vs):=by
 obtain⟨i,⟨t,l,e⟩,q⟩:=h;obtain⟨b,vs,e1,f,e2,_⟩:=G.sl i _ _ e q;cases e1;exact⟨f,vs,e2⟩
theorem Good.grow(G:Good K tg F H ρ σ)(s:Same F F')(s':Same F' H')(k:∀a,Own ρ σ a->F' a=none/\H' a=H a)(kb:∀a C dx fvs,F a=none->H a=some (.ins C dx fvs)->F' a=none/\H' a=H a):Good K tg F' H' ρ σ where
 sub:=s'
 len:=G.len
 inj:=G.inj
 sl:=fun i sl o e q=>by
  have z:=G.sl i sl o e q;cases sl with
  | emp=>trivial
  | val d =>
   obtain⟨v,e1,h⟩:=z;exact⟨v,e1,h.mono s⟩
  | lol ts =>
   obtain⟨a,e1,e2⟩:=z;exact⟨a,e1,s _ _ e2⟩
  | lnk k=>exact z
  | box c fs =>
   obtain⟨a,C,dx,fvs,e1,e2,e3,e4,e7,e5,e6⟩:=z;obtain⟨f1,f2⟩:=kb a C dx fvs e2 e3;exact⟨a,C,dx,fvs,e1,f1,f2.trans e3,e4,e7,e5,fun f d h=>(e6 f d h).imp fun v h=>⟨h.1,h.2.mono s⟩⟩
  | own t l =>
   obtain⟨a,vs,e1,f,e2,h,ht⟩:=z;have w:=k a ⟨i,⟨t,l,e⟩,by rw[q,e1]⟩
   exact⟨a,vs,e1,w.1,by rw[w.2];exact e2,h.mono s,ht⟩
theorem Same.put(s:Same F H)(h:H p=none)(o:HO):Same (upd F p o) (upd H p o):=fun b u e=>by
 by_cases hb:b=p
 ·subst hb;rw[jh] at e ⊢
  exact e
 ·rw[dw hb] at e ⊢
  exact s b u e
theorem Good.freeF(G:Good K tg F H ρ σ)(h:H p=none):F p=none:=by
 cases e:F p with
 | none=>rfl
 | some o=>rw[G.sub p o e] at h;cases h
theorem Good.own_ne(G:Good K tg F H ρ σ)(h:H p=none)(w:Own ρ σ a):a≠p:=by
 obtain⟨_,vs,e⟩:=G.ownAt w;exact f9 e h
theorem Good.new(G:Good K tg F H ρ σ)(h:H p=none)(o:HO):Good K tg (upd F p o) (upd H p o) ρ σ :=
 G.grow (Same.new (G.freeF h) o) (Same.put G.sub h o) (fun a w=>by
  rw[dw (G.own_ne h w),dw (G.own_ne h w)];exact⟨(G.ownAt w).1,rfl⟩) fun a C dx fvs h1 h2=>by
  rw[dw (f9 h2 h),dw (f9 h2 h)];exact⟨h1,rfl⟩
theorem Good.newX(G:Good K tg F H ρ σ)(h:H p=none)(o:HO):Ext (Own ρ σ) (Own ρ σ) F H (upd F p o) (upd H p o) where
 sub:=Same.new (G.freeF h) o
 new:=fun a u e=>by
  by_cases ha:a=p
  ·subst ha;exact .inr (.inl h)
  ·rw[dw ha] at e;exact .inl e
 keep:=fun a u e _=>by rw[dw (f9 e h)];exact e
 own:=fun a w=>.inl w
 there:=fun a e=>by
  by_cases ha:a=p
  ·subst ha;exact h
  ·rw[dw ha] at e;exact e
theorem Good.fresh(G:Good K tg F H ρ σ)(h:H p=none)(o:HO):Good K tg F (upd H p o) ρ σ :=
 G.grow (Same.refl F) (fun b u e=>by rw[dw (f9 (G.sub b u e) h)];exact G.sub b u e) (fun a w=>by
  rw[dw (G.own_ne h w)];exact⟨(G.ownAt w).1,rfl⟩) fun a C dx fvs h1 h2=>⟨h1,dw (f9 h2 h)⟩
theorem Good.freshX(G:Good K tg F H ρ σ)(h:H p=none)(o:HO):Ext (Own ρ σ) (Own ρ σ) F H F (upd H p o) where
 sub:=Same.refl F
 new:=fun a u e=>.inl e
 keep:=fun a u e _=>by rw[dw (f9 e h)];exact e
 own:=fun a w=>.inl w
 there:=fun a e=>by
  by_cases ha:a=p
  ·subst ha;exact h
  ·rw[dw ha] at e;exact e
theorem Good.freeze(G:Good K tg F H ρ σ)(h:H p=some o)(n:¬Own ρ σ p)(hf:F p=none)(hi:∀C dx fs,o≠.ins C dx fs:=by intro _ _ _ z;cases z):Good K tg (upd F p o) H ρ σ :=
 G.grow (Same.new hf o) (fun b u e=>by
  by_cases hb:b=p
  ·subst hb;rw[jh] at e;cases e;exact h
  ·rw[dw hb] at e;exact G.sub b u e) (fun a w=>by
  have:a≠p:=fun z=>n (z▸w)
  rw[dw this];exact⟨(G.ownAt w).1,rfl⟩) fun a C dx fvs h1 h2=>by
  have:a≠p:=fun z=>by
   subst z;rw[h] at h2;exact hi _ _ _ (Option.some.inj h2)
  rw[dw this];exact⟨h1,rfl⟩
end
end Dn
namespace Dn
open L2 Mn
structure Exn where
 cls:Str
 fs:List (Str×Int)
inductive Out (α:Type) where
 | ok (a:α) | exc (x:Exn)
abbrev M(α:Type):=Ro->Option (Out α×Ro)
noncomputable def M.bind{α β:Type}(m:M α)(k:α->M β):M β:=fun ρ=>match m ρ with
 | some (.ok a,ρ1)=>k a ρ1
 | some (.exc x,ρ1)=>some (.exc x,ρ1)
 | none=>none
noncomputable def ret{α:Type}(a:α):M α:=fun ρ=>some (.ok a,ρ)
noncomputable def lift{α:Type}(o:Option α):M α:=fun ρ=>match o with
 | some a=>some (.ok a,ρ)
 | none=>none
section
variable{α β:Type}
theorem bj{m:M α}{k:α->M β}{ρ ρ2:Ro}{b:β}(h:m.bind k ρ=some (.ok b,ρ2)):∃a ρ1,m ρ=some (.ok a,ρ1)/\k a ρ1=some (.ok b,ρ2):=by
 unfold M.bind at h;split at h
 ·exact⟨_,_,by assumption,h⟩
 ·cases h
 ·cases h
theorem jc(h:lift o ρ=some (.ok b,ρ2)):o=some b/\ρ2=ρ:=by
 unfold lift at h;split at h
 ·cases h;exact⟨rfl,rfl⟩
 ·cases h
theorem jy(h:ret a ρ=some (.ok b,ρ2)):a=b/\ρ2=ρ:=by
 unfold ret at h;cases h;exact⟨rfl,rfl⟩
@[simp] theorem a1p(a:α)(k:α->M β):(ret a).bind k=k a:=rfl
@[simp] theorem a0o(a:α):lift (some a)=ret a:=rfl
end
inductive Rv where
 | v (d:D) | fr (l:List D)
 | tf (d:D) (l:List D)
abbrev Rel(α:Type):=α->V->(H:Hp)->(O:Addr->Prop)->(F' H':Hp)->(O':Addr->Prop)->Prop
def relD(K:Fg9):Rel D:=fun d v _ _ F' _ _=>Is K F' d v
def Bor(K:Fg9)(F H:Hp)(d:D)(v:V):Prop:=Is K F d v∨∃a vs l,d=.lst l/\v=.ref a/\H a=some (.lst vs)/\IsL K F l vs
def relB(K:Fg9):Rel D:=fun d v _ _ F' H' _=>Bor K F' H' d v
def relR(K:Fg9):Rel Rv:=fun r v H O F' H' O'=>match r with
 | .v d=>Is K F' d v
 | .fr l=>∃a vs,v=.ref a/\(H a=none∨O a)/\F' a=none/\H' a=some (.lst vs)/\IsL K F' l vs/\¬O' a
 | .tf d l=>∃t u a vs,v=.ref t/\F' t=some (.tup [u,.ref a])/\Is K F' d u/\(H a=none∨O a)/\F' a=none/\H' a=some (.lst vs)/\IsL K F' l vs/\¬O' a
def T{α:Type}(K:Fg9)(rel:Rel α)(m:M α):TE:=fun σ H Q=>∃tg F ρ a ρ',Good K tg F H ρ σ/\m ρ=some (.ok a,ρ') /\
 ∀v H' F',Good K tg F' H' ρ' σ->Ext (Own ρ σ) (Own ρ' σ) F H F' H'->rel a v H (Own ρ σ) F' H' (Own ρ' σ)->Q v H'
structure EV (K:Fg9) (X:Cx) (e:Expr) (m:M D):Prop where
 go:X.K=K->PE X e (T K (relD K) m)
instance {K:Fg9} {X:Cx} {e:Expr} {m:M D}:CoeFun (EV K X e m) fun _=>X.K=K->PE X e (T K (relD K) m):=⟨EV.go⟩
structure EB (K:Fg9) (X:Cx) (e:Expr) (m:M D):Prop where
 go:X.K=K->PE X e (T K (relB K) m)
instance {K:Fg9} {X:Cx} {e:Expr} {m:M D}:CoeFun (EB K X e m) fun _=>X.K=K->PE X e (T K (relB K) m):=⟨EB.go⟩
structure ER (K:Fg9) (X:Cx) (e:Expr) (m:M Rv):Prop where
 go:X.K=K->PE X e (T K (relR K) m)
instance {K:Fg9} {X:Cx} {e:Expr} {m:M Rv}:CoeFun (ER K X e m) fun _=>X.K=K->PE X e (T K (relR K) m):=⟨ER.go⟩
theorem PE.imp(h:PE X e t)(w:∀σ H Q,t' σ H Q->t σ H Q):PE X e t':=fun zv s σ H Q I q=>h zv s σ H Q I (w σ H Q q)
section
variable{K:Fg9}{X:Cx}{e a b:Expr}{pos:Pos}
theorem EV.toB(h:EV K X e m):EB K X e m:=EB.mk fun hk=>PE.imp (h hk) fun σ H Q ⟨tg,F,ρ,d,ρ',G,em,q⟩=>⟨tg,F,ρ,d,ρ',G,em,fun v H' F' G' x r=>q v H' F' G' x (.inl r)⟩
def M.v(m:M D):M Rv:=m.bind fun d=>ret (.v d)
theorem EV.toR{m:M D}(h:EV K X e m):ER K X e m.v:=ER.mk fun hk=>PE.imp (h hk) fun σ H Q z9=>by
 obtain⟨tg,F,ρ,r,ρ',G,em,q⟩:=z9;obtain⟨d,ρ1,e1,e2⟩:=bj em;obtain⟨rfl,rfl⟩:=jy e2;exact⟨tg,F,ρ,d,_,G,e1,fun v H' F' G' x r=>q v H' F' G' x r⟩
def Rv.d:Rv->D
 | .v d=>d
 | .fr l=>.lst l
 | .tf d l=>.tup [d,.lst l]
def M.d(m:M Rv):M D:=m.bind fun r=>ret r.d
theorem frz(G:Good K tg F' H' ρ' σ')(x:Ext O (Own ρ' σ') F H F' H')(h:relR K r v H O F' H' (Own ρ' σ')) :
  ∃F2,Good K tg F2 H' ρ' σ'/\Ext O (Own ρ' σ') F H F2 H'/\Is K F2 r.d v:=by
 cases r with
 | v d=>exact⟨F',G,x,h⟩
 | fr l =>
  obtain⟨a,vs,rfl,ha,hf,hh,hl,hn⟩:=h;refine⟨upd F' a (.lst vs),G.freeze hh hn hf,⟨x.sub.trans (Same.new hf _),fun b o e =>?_,x.keep,x.own,x.there⟩,.lst jh (hl.mono (Same.new hf _))⟩
  by_cases hb:b=a
  ·subst hb;exact .inr ha
  ·rw[dw hb] at e;exact x.new b o e
 | tf d l =>
  obtain⟨t,u,a,vs,rfl,ht,hd,ha,hf,hh,hl,hn⟩:=h;have hta:t≠a:=fun z=>by rw[z,hf] at ht;cases ht
  refine⟨upd F' a (.lst vs),G.freeze hh hn hf,⟨x.sub.trans (Same.new hf _),fun b o e =>?_,x.keep,x.own,x.there⟩,.tup (by rw[dw hta];exact ht) (.cons (hd.mono (Same.new hf _)) (.cons (.lst jh (hl.mono (Same.new hf _))) .nil))⟩
  by_cases hb:b=a
  ·subst hb;exact .inr ha
  ·rw[dw hb] at e;exact x.new b o e
theorem ER.toD{m:M Rv}(h:ER K X e m):EV K X e m.d:=EV.mk fun hk=>PE.imp (h hk) fun σ H Q z9=>by
 obtain⟨tg,F,ρ,d,ρ',G,em,q⟩:=z9;obtain⟨r,ρ1,e1,e2⟩:=bj em;obtain⟨rfl,rfl⟩:=jy e2;refine⟨tg,F,ρ,r,_,G,e1,fun v H' F' G' x w =>?_⟩
 obtain⟨F2,G2,x2,i2⟩:=frz G' x w;exact q v H' F2 G2 x2 i2
noncomputable def dq(i:Nat):M D:=fun ρ=>match ρ[i]? with
 | some (.val d)=>some (.ok d,ρ)
 | some (.own _ l)=>some (.ok (.lst l),ρ)
 | _=>none
theorem Good.at{tg:Nat->Addr}{F H:Hp}{ρ:Ro}{σ:L2.St}(G:Good K tg F H ρ σ){i:Nat}{s:Sl}(e:ρ[i]? = some s):∃o,σ[i]? = some o/\SlOk K tg F H s o:=by
 have hi:i < σ.length:=by rw[<-G.len];exact(List.getElem?_eq_some_iff.mp e).1
 exact⟨σ[i],List.getElem?_eq_getElem hi,G.sl i s _ e (List.getElem?_eq_getElem hi)⟩
theorem yg{tg:Nat->Addr}{F H:Hp}{ρ ρ':Ro}{σ:L2.St}(G:Good K tg F H ρ σ){i:Nat}{d:D}(em:dq i ρ=some (.ok d,ρ')):ρ'=ρ/\∃v,σ[i]? = some (some v)/\Bor K F H d v:=by
 unfold dq at em;split at em
 ·rename_i d' e';cases em;obtain⟨o,ho,v,rfl,hv⟩:=G.at e';exact⟨rfl,v,ho,.inl hv⟩
 ·rename_i t l e';cases em;obtain⟨o,ho,a,vs,rfl,hf,hh,hl,_⟩:=G.at e';exact⟨rfl,_,ho,.inr ⟨a,vs,l,rfl,rfl,hh,hl⟩⟩
 ·cases em
theorem cz(h:PE X e (tVar i)):EB K X e (dq i):=EB.mk fun _=>PE.imp h fun σ H Q z9=>by
 obtain⟨tg,F,ρ,d,ρ',G,em,q⟩:=z9;obtain⟨rfl,v,ho,hv⟩:=yg G em;exact⟨v,ho,q v H F G (Ext.refl _ _ _) hv⟩
def adk(i:Nat):M Rv:=fun ρ=>match ρ[i]? with
 | some (.val d)=>some (.ok (.v d),ρ)
 | some (.own none l)=>some (.ok (.fr l),ρ.set i .emp)
 | _=>none
theorem getset{α:Type}{l:List α}{i:Nat}{x y:α}(e:l[i]? = some y)(j:Nat):(l.set i x)[j]? = if i=j then some x else l[j]? := by
 rw[List.getElem?_set];have hi:=(List.getElem?_eq_some_iff.mp e).1
 by_cases h:i=j
 ·subst h;simp[hi]
 ·simp[h]
theorem Good.drop(G:Good K tg F H ρ σ)(i:Nat):Good K tg F H (ρ.set i .emp) σ:=by
 have sub:∀j t l,(List.set ρ i Sl.emp)[j]? = some (Sl.own t l)->(ρ:List Sl)[j]? = some (Sl.own t l):=fun j t l e=>by
  rw[List.getElem?_set] at e;split at e
  ·split at e <;> cases e
  ·exact e
 refine⟨G.sub,by rw[List.length_set];exact G.len,fun j s o e q =>?_,fun j k a ⟨⟨t,l,e⟩,q⟩ ⟨⟨t',l',e'⟩,q'⟩=>G.inj j k a ⟨⟨t,l,sub _ _ _ e⟩,q⟩ ⟨⟨t',l',sub _ _ _ e'⟩,q'⟩⟩
 rw[List.getElem?_set] at e;split at e
 ·split at e
  ·cases e;trivial
  ·cases e
 ·exact G.sl j s o e q
theorem afe{ρ:Ro}{σ:L2.St}{i:Nat}{a:Addr}(h:Own (ρ.set i .emp) σ a):Own ρ σ a/\∀t l,ρ[i]? = some (.own t l)->∀(inj:∀i j a,Owns ρ σ i a->Owns ρ σ j a->i=j),¬Owns ρ σ i a:=by
 obtain⟨j,⟨t,l,e⟩,q⟩:=h;rw[List.getElem?_set] at e;split at e
 ·split at e <;> cases e
 ·rename_i hne;have w:Owns ρ σ j a:=⟨⟨t,l,e⟩,q⟩;exact⟨⟨j,w⟩,fun t' l' _ inj z=>hne (inj _ _ _ z w)⟩
theorem yq{i:Nat}(h:PE X e (tVar i)):ER K X e (adk i):=ER.mk fun _=>PE.imp h fun σ H Q z9=>by
 obtain⟨tg,F,ρ,d,ρ',G,em,q⟩:=z9;unfold adk at em;split at em
 ·rename_i d' e';cases em;obtain⟨o,ho,v,rfl,hv⟩:=G.at e';exact⟨v,ho,q v H F G (Ext.refl _ _ _) hv⟩
 ·rename_i l e';cases em;obtain⟨o,ho,a,vs,rfl,hf,hh,hl,_⟩:=G.at e';have w:Owns ρ σ i a:=⟨⟨_,_,e'⟩,ho⟩;refine⟨_,ho,q _ H F (G.drop i) ⟨Same.refl _,fun _ _ e=>.inl e,fun _ _ e _=>e,fun b z=>.inl (afe z).1,fun _ z=>z⟩ ⟨a,vs,rfl,.inr ⟨i,w⟩,hf,hh,hl,fun z=>(afe z).2 _ _ e' G.inj w⟩⟩
 ·cases em
noncomputable def mVar(i:Nat):M D:=fun ρ=>match ρ[i]? with
 | some (.val d)=>some (.ok d,ρ)
 | some (.own none l)=>some (.ok (.lst l),ρ.set i (.val (.lst l)))
 | _=>none
theorem ati{ρ:Ro}{σ:L2.St}{i:Nat}{d:D}{a:Addr}(h:Own (ρ.set i (.val d)) σ a):Own (ρ.set i .emp) σ a:=by
 obtain⟨j,⟨t,l,e⟩,q⟩:=h;refine⟨j,⟨t,l,?_⟩,q⟩;rw[List.getElem?_set] at e ⊢
 split at e
 ·split at e <;> cases e
 ·rename_i hne;rw[if_neg hne];exact e
theorem Good.setv{tg:Nat->Addr}{F H:Hp}{ρ:Ro}{σ:L2.St}{i:Nat}{d:D}{v:V}(G:Good K tg F H (ρ.set i .emp) σ)(e:σ[i]? = some (some v))(h:Is K F d v):Good K tg F H (ρ.set i (.val d)) σ:=by
 have sub:∀j t l,(List.set ρ i (Sl.val d))[j]? = some (Sl.own t l)->(List.set ρ i Sl.emp)[j]? = some (Sl.own t l):=fun j t l z=>by
  rw[List.getElem?_set] at z ⊢
  split at z
  ·split at z <;> cases z
  ·rename_i hne;rw[if_neg hne];exact z
 refine⟨G.sub,by have:=G.len;rw[List.length_set] at this ⊢;exact this,fun j s o z q =>?_,fun j k a ⟨⟨t,l,z⟩,q⟩ ⟨⟨t',l',z'⟩,q'⟩=>G.inj j k a ⟨⟨t,l,sub _ _ _ z⟩,q⟩ ⟨⟨t',l',sub _ _ _ z'⟩,q'⟩⟩
 by_cases hij:i=j
 ·subst hij;rw[List.getElem?_set,if_pos rfl] at z;split at z
  ·cases z;rw[e] at q;cases q;exact⟨v,rfl,h⟩
  ·cases z
 ·refine G.sl j s o ?_ q;rw[List.getElem?_set,if_neg hij] at z ⊢
  exact z
theorem aq{i:Nat}(h:PE X e (tVar i)):EV K X e (mVar i):=EV.mk fun _=>PE.imp h fun σ H Q z9=>by
 obtain⟨tg,F,ρ,d,ρ',G,em,q⟩:=z9;unfold mVar at em;split at em
 ·rename_i d' e';cases em;obtain⟨o,ho,v,rfl,hv⟩:=G.at e';exact⟨v,ho,q v H F G (Ext.refl _ _ _) hv⟩
 ·rename_i l e';cases em;obtain⟨o,ho,a,vs,rfl,hf,hh,hl,_⟩:=G.at e';have w:Owns ρ σ i a:=⟨⟨_,_,e'⟩,ho⟩;have nown:¬Own (ρ.set i .emp) σ a:=fun z=>(afe z).2 _ _ e' G.inj w
  have G2:=(G.drop i).freeze hh nown hf;have i2:Is K (upd F a (.lst vs)) (.lst l) (.ref a):=.lst jh (hl.mono (Same.new hf _));refine⟨_,ho,q _ H _ (G2.setv ho i2) ⟨Same.new hf _,fun b o z =>?_,fun _ _ z _=>z,fun b z=>.inl (afe (ati z)).1,fun _ z=>z⟩ i2⟩
  by_cases hb:b=a
  ·subst hb;exact .inr (.inr ⟨i,w⟩)
  ·rw[dw hb] at z;exact .inl z
 ·cases em
theorem ev_c(h:PE X e (tC v))(hi:∀F,Is K F d v):EV K X e (ret d):=EV.mk fun _=>PE.imp h fun σ H Q z9=>by
 obtain⟨tg,F,ρ,d',ρ',G,em,q⟩:=z9;obtain⟨rfl,rfl⟩:=jy em;exact q v H F G (Ext.refl _ _ _) (hi F)
theorem bu:EV K X (.Constant (.int i) j pos) (ret (.int i)):=ev_c azv fun _=>.int i
theorem aik:EV K X (.Constant (.bool i) j pos) (ret (.bl i)):=ev_c a3r fun _=>.bl i
theorem avo:EV K X (.Constant .none j pos) (ret .non):=ev_c azs fun _=>.non
def T2(K:Fg9)(m:M (D×D))(σ:L2.St)(H:Hp)(R:V->V->Hp->Prop):Prop:=∃tg F ρ p ρ',Good K tg F H ρ σ/\m ρ=some (.ok p,ρ') /\
 ∀x y H' F',Good K tg F' H' ρ' σ->Ext (Own ρ σ) (Own ρ' σ) F H F' H'->Bor K F' H' p.1 x->Bor K F' H' p.2 y->R x y H'
structure E2 (K:Fg9) (X:Cx) (a b:Expr) (m:M (D×D)):Prop where
 go:X.K=K->∃ta tb,PE X a ta/\PE X b tb/\∀σ H R,T2 K m σ H R->ta σ H fun x H1=>tb σ H1 fun y H2=>R x y H2
instance {K:Fg9} {X:Cx} {a b:Expr} {m:M (D×D)}:CoeFun (E2 K X a b m) fun _=>X.K=K->∃ta tb,PE X a ta/\PE X b tb/\∀σ H R,T2 K m σ H R->ta σ H fun x H1=>tb σ H1 fun y H2=>R x y H2:=⟨E2.go⟩
def ie(m1 m2:M D):M (D×D):=m1.bind fun x=>m2.bind fun y=>ret (x,y)
def bz(i:Nat)(m2:M D):M (D×D):=(dq i).bind fun _=>m2.bind fun y=>(dq i).bind fun x=>ret (x,y)
theorem e2_v{m1 m2:M D}(ha:EV K X a m1)(hb:EB K X b m2):E2 K X a b (ie m1 m2):=E2.mk fun hk=>⟨_,_,ha hk,hb hk,fun σ H R z9=>by
 obtain⟨tg,F,ρ,p,ρ',G,em,q⟩:=z9;obtain⟨d1,ρ1,e1,em⟩:=bj em;obtain⟨d2,ρ2,e2,em⟩:=bj em;obtain⟨rfl,rfl⟩:=jy em;exact⟨tg,F,ρ,d1,ρ1,G,e1,fun x H1 F1 G1 x1 r1=>⟨tg,F1,ρ1,d2,_,G1,e2,fun y H2 F2 G2 x2 r2=>q x y H2 F2 G2 (x1.trans x2) (.inl (r1.mono x2.sub)) r2⟩⟩⟩
theorem e2_n{i:Nat}{m2:M D}(ha:PE X a (tVar i))(hb:EB K X b m2):E2 K X a b (bz i m2):=E2.mk fun hk=>⟨_,_,ha,hb hk,fun σ H R z9=>by
 obtain⟨tg,F,ρ,p,ρ',G,em,q⟩:=z9;obtain⟨d0,ρ0,e0,em⟩:=bj em;obtain⟨d2,ρ2,e2,em⟩:=bj em;obtain⟨d1,ρ1,e1,em⟩:=bj em;obtain⟨rfl,rfl⟩:=jy em;obtain⟨rfl,v,hv,_⟩:=yg G e0;exact⟨v,hv,tg,F,ρ0,d2,ρ2,G,e2,fun y H2 F2 G2 x2 r2=>by
  obtain⟨rfl,v',hv',b'⟩:=yg G2 e1;rw[hv] at hv';cases hv';exact q v y H2 F2 G2 x2 b' r2⟩⟩
end
section
variable{K:Fg9}{X:Cx}{e a b c:Expr}{es:List Expr}{pos p:Pos}
section
variable{F H:Hp}{x:V}
theorem Bor.lst(g:Same F H)(h:Bor K F H (.lst l) x):∃a vs,x=.ref a/\H a=some (.lst vs)/\IsL K F l vs:=by
 rcases h with h | ⟨a,vs,l',e1,e2,e3,h⟩
 ·cases h with
  | lst e h=>exact⟨_,_,rfl,g _ _ e,h⟩
 ·cases e1;exact⟨a,vs,e2,e3,h⟩
theorem Bor.tup(h:Bor K F H (.tup l) x):∃a vs,x=.ref a/\F a=some (.tup vs)/\IsL K F l vs:=by
 rcases h with h | ⟨a,vs,l',e1,_⟩
 ·cases h with
  | tup e h=>exact⟨_,_,rfl,e,h⟩
 ·cases e1
theorem Bor.kst(h:Bor K F H (.kst l) x):∃a vs,x=.ref a/\SqL K F a vs/\IsL K F l vs:=by
 rcases h with h | ⟨a,vs,l',e1,_⟩
 ·cases h with
  | kst e h=>exact⟨_,_,rfl,e,h⟩
 ·cases e1
theorem Bor.int(h:Bor K F H (.int i) x):x=.int i:=by
 rcases h with h | ⟨a,vs,l',e1,_⟩
 ·cases h;rfl
 ·cases e1
theorem Bor.bl(h:Bor K F H (.bl i) x):x=.bl i:=by
 rcases h with h | ⟨a,vs,l',e1,_⟩
 ·cases h;rfl
 ·cases e1
theorem Bor.str(h:Bor K F H (.str i) x):x=.str i:=by
 rcases h with h | ⟨a,vs,l',e1,_⟩
 ·cases h;rfl
 ·cases e1
theorem Bor.non(h:Bor K F H .non x):x=.non:=by
 rcases h with h | ⟨a,vs,l',e1,_⟩
 ·cases h;rfl
 ·cases e1
end
def Res(K:Fg9)(tg:Nat->Addr)(F H:Hp)(ρ:Ro)(σ:L2.St)(r:Rv)(Q:VK):Prop :=
 ∀v H' F',Good K tg F' H' ρ σ->Ext (Own ρ σ) (Own ρ σ) F H F' H'->relR K r v H (Own ρ σ) F' H' (Own ρ σ)->Q v H'
section
variable{tg:Nat->Addr}{F H:Hp}{ρ:Ro}{σ:L2.St}{Q:VK}
theorem Res.same(G:Good K tg F H ρ σ)(q:Res K tg F H ρ σ (.v d) Q)(h:Is K F d v):Q v H:=q v H F G (Ext.refl _ _ _) h
theorem Res.tup{l:List D}{vs:List V}(G:Good K tg F H ρ σ)(q:Res K tg F H ρ σ (.v (.tup l)) Q)(h:IsL K F l vs){p:Addr}(hp:H p=none):Q (.ref p) (upd H p (.tup vs)) :=
 q _ _ _ (G.new hp _) (G.newX hp _) (.tup jh (h.mono (Same.new (G.freeF hp) _)))
theorem Res.lst{l:List D}{vs:List V}(G:Good K tg F H ρ σ)(q:Res K tg F H ρ σ (.fr l) Q)(h:IsL K F l vs){p:Addr}(hp:H p=none):Q (.ref p) (upd H p (.lst vs)) :=
 q _ _ _ (G.fresh hp _) (G.freshX hp _) ⟨p,vs,rfl,.inl hp,G.freeF hp,jh,h,fun z=>G.own_ne hp z rfl⟩
end
def rOf(K:Fg9)(g:D->D->Option Rv):R2:=fun x y H Q=>∃tg F ρ σ d1 d2 r,Good K tg F H ρ σ/\Bor K F H d1 x/\Bor K F H d2 y/\g d1 d2=some r/\Res K tg F H ρ σ r Q
structure OpD (K:Fg9) (X:Cx) (f:Value->Value->Sem Value) (g:D->D->Option Rv):Prop where
 go:X.K=K->OpR X f (rOf K g)
instance {K:Fg9} {X:Cx} {f:Value->Value->Sem Value} {g:D->D->Option Rv}:CoeFun (OpD K X f g) fun _=>X.K=K->OpR X f (rOf K g):=⟨OpD.go⟩
def mOp(g:D->D->Option Rv)(m:M (D×D)):M Rv:=m.bind fun p=>lift (g p.1 p.2)
theorem al9(h:∀σ H R,T2 K m σ H R->ta σ H fun x H1=>tb σ H1 fun y H2=>R x y H2)(σ:L2.St)(H:Hp)(Q:VK)(t:T K (relR K) (mOp g m) σ H Q):tOp (rOf K g) ta tb σ H Q:=by
 obtain⟨tg,F,ρ,r,ρ',G,em,q⟩:=t;obtain⟨p,ρ1,e1,em⟩:=bj em;obtain⟨e2,rfl⟩:=jc em;refine h σ H _ ⟨tg,F,ρ,p,_,G,e1,fun x y H' F' G' x' bx by'=>⟨tg,F',_,σ,p.1,p.2,r,G',bx,by',e2,fun v H2 F2 G2 x2 rr=>q v H2 F2 G2 (x'.trans x2) ?_⟩⟩
 cases r with
 | v d=>exact rr
 | fr l =>
  obtain⟨a,vs,ev,ha,w⟩:=rr;refine⟨a,vs,ev,?_,w⟩;rcases ha with ha | ha
  ·exact .inl (x'.there a ha)
  ·exact(x'.own a ha).symm
 | tf d l =>
  obtain⟨t,u,a,vs,ev,ht,hd,ha,w⟩:=rr;refine⟨t,u,a,vs,ev,ht,hd,?_,w⟩;rcases ha with ha | ha
  ·exact .inl (x'.there a ha)
  ·exact(x'.own a ha).symm
theorem dz(ho:OpD K X (binaryOp op) g)(h:E2 K X a b m):ER K X (.BinOp a op b pos) (mOp g m):=ER.mk fun hk=>by
 obtain⟨ta,tb,ha,hb,h⟩:=h hk;exact PE.imp (a3o (ho hk) ha hb) (al9 h)
theorem am0(ho:OpD K X (compareOp op) g)(h:E2 K X a b m)(hm:behindInMarks op b=false):ER K X (.Compare a [op] [b] pos) (mOp g m):=ER.mk fun hk=>by
 obtain⟨ta,tb,ha,hb,h⟩:=h hk;exact PE.imp (aw3 (ho hk) ha hb hm) (al9 h)
def capS:Nat:=16777216
theorem agq(h:n<=capS):n<=sizeLine:=by rw[sizeLine_eq];exact h
def gAdd:D->D->Option Rv
 | .int i,.int j=>some (.v (.int (i+j)))
 | .tup l,.tup k=>if l.length+k.length<=capS then some (.v (.tup (l++k))) else none
 | .lst l,.lst k=>if l.length+k.length<=capS then some (.fr (l++k)) else none
 | .str i,.str j=>if i.length+j.length<=capS then some (.v (.str (i++j))) else none
 | _,_=>none
theorem jz:OpD K X (binaryOp .Add) gAdd:=OpD.mk fun hk=>by
 intro zv s σ0 H x y v u Q I rx ry z9;obtain⟨tg,F,ρ,σ,d1,d2,r,G,b1,b2,eg,q⟩:=z9;subst hk;unfold gAdd at eg;split at eg
 ·cases eg;obtain rfl:=b1.int;obtain rfl:=b2.int;exact az6 zv s σ0 H _ _ v u Q I rx ry ⟨_,_,rfl,rfl,Res.same G q (.int _)⟩
 ·split at eg
  ·rename_i hz;cases eg;obtain⟨a1,vs1,rfl,s1,i1⟩:=b1.tup;obtain⟨a2,vs2,rfl,s2,i2⟩:=b2.tup;have l1:=i1.length;have l2:=i2.length
   by_cases hx:vs1=[]
   ·subst hx;cases i1;cases rx;cases ry;obtain⟨its,r1,p1,_⟩:=I.tuple (SqT.of (G.sub _ _ s1));obtain⟨its2,r2,p2,_⟩:=I.tuple (SqT.of (G.sub _ _ s2));exact aur p1 p2 (r1.nil_iff.mpr rfl) ⟨.ref a2,H,I,rfl,Res.same G q (.tup s2 i2)⟩
   ·refine axa zv s σ0 H _ _ v u Q I rx ry ⟨a1,a2,vs1,vs2,rfl,rfl,SqT.of (G.sub _ _ s1),SqT.of (G.sub _ _ s2),hx,by rw[<-l1,<-l2];exact agq hz,fun e =>?_,fun _ p hp=>Res.tup G q (i1.append i2) hp⟩
    subst e;cases i2;exact Res.same G q (.tup s1 (by simpa using i1))
  ·cases eg
 ·split at eg
  ·rename_i hz;cases eg;obtain⟨a1,vs1,rfl,s1,i1⟩:=b1.lst G.sub;obtain⟨a2,vs2,rfl,s2,i2⟩:=b2.lst G.sub;have l1:=i1.length;have l2:=i2.length;exact az5 zv s σ0 H _ _ v u Q I rx ry ⟨a1,a2,vs1,vs2,rfl,rfl,s1,s2,by rw[<-l1,<-l2];exact agq hz,fun p hp=>Res.lst G q (i1.append i2) hp⟩
  ·cases eg
 ·split at eg
  ·rename_i hz;cases eg;obtain rfl:=b1.str;obtain rfl:=b2.str;exact anx zv s σ0 H _ _ v u Q I rx ry ⟨_,_,rfl,rfl,agq hz,Res.same G q (.str _)⟩
  ·cases eg
 ·cases eg
def gInt(f:Int->Int->Option Int):D->D->Option Rv
 | .int i,.int j=>(f i j).map fun k=>.v (.int k)
 | _,_=>none
theorem af1{op:Operator}{f:Int->Int->Option Int}{C:Int->Int->Prop}{g:Int->Int->Int}(h:OpR X (binaryOp op) (rI C fun i j=>.int (g i j)))(hf:∀i j k,f i j=some k->C i j/\k=g i j):OpD K X (binaryOp op) (gInt f):=OpD.mk fun hk=>by
 intro zv s σ0 H x y v u Q I rx ry z9;obtain⟨tg,F,ρ,σ,d1,d2,r,G,b1,b2,eg,q⟩:=z9;unfold gInt at eg;split at eg
 ·rename_i i j;obtain rfl:=b1.int;obtain rfl:=b2.int;cases z:f i j with
  | none=>rw[z] at eg;cases eg
  | some k =>
   rw[z] at eg;cases eg;obtain⟨h1,rfl⟩:=hf i j k z;exact h zv s σ0 H _ _ v u Q I rx ry ⟨_,_,rfl,rfl,h1,Res.same G q (.int _)⟩
 ·cases eg
def fSub(i j:Int):Option Int:=some (i - j)
def fMul(i j:Int):Option Int:=if (-18446744073709551616 < i/\i < 18446744073709551616)∨(-18446744073709551616 < j/\j < 18446744073709551616) then some (i*j) else none
theorem az9(h0:0 < j)(h:j < 1000000000000000000000000000000000000000000000000000000000000):Builtin.divisionGoesByPylong i j=false:=by
 have e2:(2:Nat) ^ 200=1606938044258990275541962092341162602522202993782792835301376:=by decide +kernel
 have hl:j.natAbs.log2 < 200:=(Nat.log2_lt (by omega)).2 (by rw[e2];omega)
 have hd:¬(j.natAbs.log2 / 30+1 > 300):=by omega
 have hj:(j==0)=false:=by
  rw[beq_eq_false_iff_ne];omega
 unfold Builtin.divisionGoesByPylong;simp only[hj,Bool.false_eq_true,if_false,hd,decide_false,Bool.false_and]
theorem atn:OpR X (binaryOp .FloorDiv) (rI (fun _ j=>0 < j/\j < 1000000000000000000000000000000000000000000000000000000000000) fun i j=>.int (i / j)):=opI fun i j _ _ _ _ _ hc q=>by
 have h1:(0:Int) < j:=hc.1;exact floordiv_int (by omega) (by rw[Int.fdiv_eq_ediv_of_nonneg i (by omega)];exact q) (.inl (az9 hc.1 hc.2))
def fDiv(i j:Int):Option Int:=if 0 < j/\j < 1000000000000000000000000000000000000000000000000000000000000 then some (i / j) else none
def fMod(i j:Int):Option Int:=if 0 < j then some (i % j) else none
def fPow(i j:Int):Option Int:=if 0<=j/\j<=1000000/\i.natAbs < 18446744073709551616 then some (i ^ j.toNat) else none
theorem u9:OpD K X (binaryOp .Sub) (gInt fSub):=OpD.mk fun hk=>by
 intro zv s σ0 H x y v u Q I rx ry z9;obtain⟨tg,F,ρ,σ,d1,d2,r,G,b1,b2,eg,q⟩:=z9;unfold gInt at eg;split at eg
 ·obtain rfl:=b1.int;obtain rfl:=b2.int;cases eg;exact az0 zv s σ0 H _ _ v u Q I rx ry ⟨_,_,rfl,rfl,Res.same G q (.int _)⟩
 ·cases eg
end
mutual
def toPy:D->PyData
 | .non=>.none
 | .bl b=>.bool b
 | .int i=>.int i
 | .str x=>.str x
 | .tup l=>.tuple (ad2 l)
 | .lst l=>.list (ad2 l)
 | .kst l=>.list (ad2 l)
 | .dct _=>.dict []
 | .exn _ _=>.dict []
 | .dtt _=>.dict []
def ad2:List D->List PyData
 | []=>[]
 | d::r=>toPy d::ad2 r
end
def okD:Nat->D->Bool
 | _,.non=>true
 | _,.bl _=>true
 | _,.int _=>true
 | _,.str x=>PyData.strOk x
 | n+1,.tup l=>l.all (okD n)
 | n+1,.lst l=>l.all (okD n)
 | n+1,.kst l=>l.all (okD n)
 | _,_=>false
theorem aia(ih:∀d,okD n d=true->(toPy d).canLay0=true/\(toPy d).depth<=n):∀l:List D,l.all (okD n)=true->PyData.canLayAll0 (ad2 l)=true/\PyData.depthAll (ad2 l)<=n
 | [],_=>⟨rfl,Nat.zero_le _⟩
 | d::r,h=>by
  rw[List.all_cons,Bool.and_eq_true] at h;obtain⟨h1,h2⟩:=ih d h.1;obtain⟨h3,h4⟩:=aia ih r h.2;refine⟨?_,?_⟩
  ·show(PyData.canLay0 (toPy d)&&PyData.canLayAll0 (ad2 r))=true;rw[h1,h3];rfl
  ·show max (PyData.depth (toPy d)) (PyData.depthAll (ad2 r))<=n;omega
theorem ack:∀(n:Nat) (d:D),okD n d=true->(toPy d).canLay0=true/\(toPy d).depth<=n
 | n,.non,_=>⟨rfl,Nat.zero_le _⟩
 | n,.bl _,_=>⟨rfl,Nat.zero_le _⟩
 | n,.int _,_=>⟨rfl,Nat.zero_le _⟩
 | n,.str x,h=>by
  refine⟨?_,Nat.zero_le _⟩;cases n <;> exact h
 | n+1,.tup l,h=>by
  obtain⟨h1,h2⟩:=aia (ack n) l h;exact⟨h1,Nat.succ_le_succ h2⟩
 | n+1,.lst l,h=>by
  obtain⟨h1,h2⟩:=aia (ack n) l h;exact⟨h1,Nat.succ_le_succ h2⟩
 | n+1,.kst l,h=>by
  obtain⟨h1,h2⟩:=aia (ack n) l h;exact⟨h1,Nat.succ_le_succ h2⟩
 | 0,.tup l,h=>by cases h
 | 0,.lst l,h=>by cases h
 | 0,.kst l,h=>by cases h
 | 0,.dct l,h=>by cases h
 | n+1,.dct l,h=>by cases h
 | 0,.exn _ _,h=>by cases h
 | n+1,.exn _ _,h=>by cases h
 | 0,.dtt _,h=>by cases h
 | n+1,.dtt _,h=>by cases h
def eqD(a b:D):Bool:=PyData.eqv (toPy a) (toPy b)
def eqDs:List D->List D->Bool
 | [],[]=>true
 | a::r,b::t=>eqD a b&&eqDs r t
 | _,_=>false
theorem ald:∀a b:List D,PyData.eqvAll (ad2 a) (ad2 b)=eqDs a b
 | [],[]=>rfl
 | a::r,b::t=>by
  show(PyData.eqv (toPy a) (toPy b)&&PyData.eqvAll (ad2 r) (ad2 t))=_;rw[ald r t];rfl
 | [],_::_=>rfl
 | _::_,[]=>rfl
section
variable{K:Fg9}{X:Cx}
section
variable{zv:List (Addr×Obj)}{σ:L2.St}{F H:Hp}{s:Shared}
mutual
theorem ab8(I:Inv X zv σ H s)(g:Same F H):∀{n:Nat} {d:D} {v:V} {u:Value},Is X.K F d v->okD n d=true->RelV v u->∃as,Reads s.heap u (toPy d) as
 | _,_,_,_,.non,_,r=>by cases r;exact⟨_,.none⟩
 | _,_,_,_,.bl b,_,r=>by cases r;exact⟨_,.bool b⟩
 | _,_,_,_,.int i,_,r=>by obtain⟨t,rfl⟩:=r;exact⟨_,.int i t⟩
 | _,_,_,_,.str i,_,r=>by obtain⟨t,rfl⟩:=r;exact⟨_,.str i t⟩
 | 0,_,_,_,.tup e h,k,r=>by cases k
 | n+1,_,_,_,.tup e h,k,r=>by
  cases r;obtain⟨its,rv,p1,_⟩:=I.tuple (SqT.of (g _ _ e));obtain⟨o,ho,hc,m,hd⟩:=p1;obtain⟨as,ra⟩:=abw I g h k rv;exact⟨_,.tuple ho hc hd (by simpa using ra)⟩
 | 0,_,_,_,.lst e h,k,r=>by cases k
 | n+1,_,_,_,.lst e h,k,r=>by
  cases r;obtain⟨its,rv,p1,_⟩:=I.list (SqL.of (g _ _ e));obtain⟨o,ho,hc,m,hd⟩:=p1.isList;obtain⟨as,ra⟩:=abw I g h k rv;exact⟨_,.list ho hc hd (by simpa using ra)⟩
 | 0,_,_,_,.kst e h,k,r=>by cases k
 | n+1,_,_,_,.kst e h,k,r=>by
  cases r;obtain⟨its,rv,p1,_⟩:=I.list (L2.Same.seq g e);obtain⟨o,ho,hc,m,hd⟩:=p1.isList;obtain⟨as,ra⟩:=abw I g h k rv;exact⟨_,.list ho hc hd (by simpa using ra)⟩
 | 0,_,_,_,.dct e h,k,r=>by cases k
 | n+1,_,_,_,.dct e h,k,r=>by cases k
 | 0,_,_,_,.exn ..,k,r=>by cases k
 | n+1,_,_,_,.exn ..,k,r=>by cases k
 | 0,_,_,_,.dtt ..,k,r=>by cases k
 | n+1,_,_,_,.dtt ..,k,r=>by cases k
theorem abw(I:Inv X zv σ H s)(g:Same F H):∀{n:Nat} {ds:List D} {vs:List V} {us:List Value},IsL X.K F ds vs->ds.all (okD n)=true->Vals vs us->∃as,ReadsAll s.heap us (ad2 ds) as
 | _,_,_,_,.nil,_,r=>by cases r;exact⟨_,.nil⟩
 | n,_,_,_,.cons h t,k,r=>by
  rw[List.all_cons,Bool.and_eq_true] at k;cases r with
  | cons r1 r2 =>
   obtain⟨as,ra⟩:=ab8 I g h k.1 r1;obtain⟨bs,rb⟩:=abw I g t k.2 r2;exact⟨_,.cons ra rb⟩
end
theorem aal(I:Inv X zv σ H s)(g:Same F H)(h:Bor X.K F H d v)(k:okD n d=true)(r:RelV v u):∃as,Reads s.heap u (toPy d) as:=by
 rcases h with h | ⟨a,vs,l,rfl,rfl,e,h⟩
 ·exact ab8 I g h k r
 ·cases r;cases n with
  | zero=>cases k
  | succ n =>
   obtain⟨its,rv,p1,_⟩:=I.list (SqL.of e);obtain⟨o,ho,hc,m,hd⟩:=p1.isList;obtain⟨as,ra⟩:=abw I g h k rv;exact⟨_,.list ho hc hd (by simpa using ra)⟩
end
def gEq(neg:Bool)(a b:D):Option Rv:=if okD 30 a&&okD 30 b then some (.v (.bl (if neg then !eqD a b else eqD a b))) else none
theorem ag5(hu:X.A.units+64 < cLine):OpD K X (compareOp .Eq) (gEq false):=OpD.mk fun hk=>by
 intro zv s σ0 H x y v u Q I rx ry z9;obtain⟨tg,F,ρ,σ,d1,d2,r,G,b1,b2,eg,q⟩:=z9;subst hk;unfold gEq at eg;split at eg
 ·rename_i ho;rw[Bool.and_eq_true] at ho;cases eg;obtain⟨as,ra⟩:=aal I G.sub b1 ho.1 rx;obtain⟨bs,rb⟩:=aal I G.sub b2 ho.2 ry;obtain⟨c1,p1⟩:=ack _ _ ho.1;obtain⟨c2,p2⟩:=ack _ _ ho.2;exact PySem.SeqAt.compareEq_reads ra rb c1 c2 (by omega) ⟨.bl _,H,I,rfl,Res.same G q (.bl _)⟩
 ·cases eg
theorem abx(hu:X.A.units+64 < cLine):OpD K X (compareOp .NotEq) (gEq true):=OpD.mk fun hk=>by
 intro zv s σ0 H x y v u Q I rx ry z9;obtain⟨tg,F,ρ,σ,d1,d2,r,G,b1,b2,eg,q⟩:=z9;subst hk;unfold gEq at eg;split at eg
 ·rename_i ho;rw[Bool.and_eq_true] at ho;cases eg;obtain⟨as,ra⟩:=aal I G.sub b1 ho.1 rx;obtain⟨bs,rb⟩:=aal I G.sub b2 ho.2 ry;obtain⟨c1,p1⟩:=ack _ _ ho.1;obtain⟨c2,p2⟩:=ack _ _ ho.2;exact PySem.SeqAt.compareNe_reads ra rb c1 c2 (by omega) ⟨.bl _,H,I,rfl,Res.same G q (.bl _)⟩
 ·cases eg
def itemsD:D->Option (List D)
 | .tup l=>some l
 | .lst l=>some l
 | .kst l=>some l
 | _=>none
def gIn(neg:Bool)(a b:D):Option Rv:=match itemsD b with
 | some l=>if okD 30 a&&l.all (okD 30) then some (.v (.bl (if neg then !l.any (fun y=>eqD y a) else l.any (fun y=>eqD y a)))) else none
 | none=>none
open Classical in
noncomputable def aa3(h:Heap)(dx:PyData)(u:Value):Bool:=decide (∃d as,Reads h u d as/\d.canLay0=true/\PyData.eqv d dx=true)
open Classical in
theorem aim(r:Reads h u d as)(c:d.canLay0=true):aa3 h dx u=PyData.eqv d dx:=by
 unfold aa3;cases e:PyData.eqv d dx with
 | true=>exact decide_eq_true ⟨d,as,r,c,e⟩
 | false =>
  refine decide_eq_false ?_
  rintro⟨d',as',r',c',e'⟩
  rw[<-PySem.SeqAt.Reads.unique d d' u as as' c r r'] at e';rw[e] at e';cases e'
theorem za(I:Inv X zv σ H s)(g:Same F H):∀{ds:List D} {vs:List V} {us:List Value},IsL X.K F ds vs->ds.all (okD n)=true->Vals vs us ->
  us.any (aa3 s.heap (toPy a))=ds.any (fun y=>eqD y a)/\∀u∈us,∃d as,Reads s.heap u d as/\d.canLay0=true/\d.depth<=n
 | _,_,_,.nil,_,r=>by cases r;exact⟨rfl,fun u hu=>by cases hu⟩
 | _,_,_,.cons h t,k,r=>by
  rw[List.all_cons,Bool.and_eq_true] at k;cases r with
  | cons r1 r2 =>
   obtain⟨as,ra⟩:=ab8 I g h k.1 r1;obtain⟨c,p⟩:=ack _ _ k.1;obtain⟨e,z⟩:=za I g (a:=a) t k.2 r2;refine⟨?_,fun u hu =>?_⟩
   ·rw[List.any_cons,List.any_cons,e,aim ra c];rfl
   ·rcases List.mem_cons.mp hu with rfl | hu
    ·exact⟨_,as,ra,c,p⟩
    ·exact z u hu
theorem xu{s:Shared}{A:Around}(hu:A.units+64 < cLine){us:List Value}{a:D}{v:Value}{as:List Addr}(ra:Reads s.heap v (toPy a) as)(ka:okD 30 a=true)(z:∀u∈us,∃d as,Reads s.heap u d as/\d.canLay0=true/\d.depth<=30) :
  ∀u∈us,SeqAt.EqAt A.in1 s u v (aa3 s.heap (toPy a) u):=fun u hm=>by
 obtain⟨d,bs,rb,c,p⟩:=z u hm;obtain⟨c2,p2⟩:=ack _ _ ka;rw[aim rb c];refine PySem.SeqAt.eqAt_reads d (toPy a) A.in1 s u v bs as rb ra c c2 ?_;show A.units+1+_ < _;omega
theorem ajo(h:gIn neg a b=some r):∃l,itemsD b=some l/\okD 30 a=true/\l.all (okD 30)=true/\r=.v (.bl (if neg then !l.any (fun y=>eqD y a) else l.any (fun y=>eqD y a))):=by
 unfold gIn at h;split at h
 ·rename_i l e;split at h
  ·rename_i ho;rw[Bool.and_eq_true] at ho;cases h;exact⟨l,e,ho.1,ho.2,rfl⟩
  ·cases h
 ·cases h
theorem afq(g:Same F H)(e:itemsD d=some l)(h:Bor K F H d x):∃a vs,x=.ref a/\IsL K F l vs/\(SqL K H a vs∨SqT K H a vs):=by
 cases d with
 | tup k =>
  cases e;obtain⟨a,vs,rfl,e,h⟩:=h.tup;exact⟨a,vs,rfl,h,.inr (SqT.of (g _ _ e))⟩
 | lst k =>
  cases e;obtain⟨a,vs,rfl,e,h⟩:=h.lst g;exact⟨a,vs,rfl,h,.inl (SqL.of e)⟩
 | kst k =>
  cases e;obtain⟨a,vs,rfl,e,h⟩:=h.kst;exact⟨a,vs,rfl,h,.inl (L2.Same.seq g e)⟩
 | _=>cases e
theorem azy(hu:X.A.units+64 < cLine):OpD K X (compareOp .In) (gIn false):=OpD.mk fun hk=>by
 intro zv s σ0 H x y v u Q I rx ry z9;obtain⟨tg,F,ρ,σ,d1,d2,r,G,b1,b2,eg,q⟩:=z9;subst hk;obtain⟨l,e,k1,k2,rfl⟩:=ajo eg;obtain⟨as,ra⟩:=aal I G.sub b1 k1 rx;obtain⟨p,vs,rfl,hl,hs⟩:=afq G.sub e b2;cases ry;rcases hs with hs | hs
 ·obtain⟨its,rv,pl,_⟩:=I.list hs;obtain⟨ea,z⟩:=za I G.sub (a:=d1) hl k2 rv;refine SeqAt.in_listAt (aa3 s.heap (toPy d1)) pl.isList (fun w hw=>xu hu ra k1 z w (by simpa using hw)) ⟨.bl _,H,I,rfl,?_⟩
  rw[show its.toArray.any (aa3 s.heap (toPy d1))=its.any (aa3 s.heap (toPy d1)) by simp,ea]
  exact Res.same G q (.bl _)
 ·obtain⟨its,rv,pl,_⟩:=I.tuple hs;obtain⟨ea,z⟩:=za I G.sub (a:=d1) hl k2 rv;refine SeqAt.in_tupleAt (aa3 s.heap (toPy d1)) pl (fun w hw=>xu hu ra k1 z w (by simpa using hw)) ⟨.bl _,H,I,rfl,?_⟩
  rw[show its.toArray.any (aa3 s.heap (toPy d1))=its.any (aa3 s.heap (toPy d1)) by simp,ea]
  exact Res.same G q (.bl _)
theorem aps(hu:X.A.units+64 < cLine):OpD K X (compareOp .NotIn) (gIn true):=OpD.mk fun hk=>by
 intro zv s σ0 H x y v u Q I rx ry z9;obtain⟨tg,F,ρ,σ,d1,d2,r,G,b1,b2,eg,q⟩:=z9;subst hk;obtain⟨l,e,k1,k2,rfl⟩:=ajo eg;obtain⟨as,ra⟩:=aal I G.sub b1 k1 rx;obtain⟨p,vs,rfl,hl,hs⟩:=afq G.sub e b2;cases ry;rcases hs with hs | hs
 ·obtain⟨its,rv,pl,_⟩:=I.list hs;obtain⟨ea,z⟩:=za I G.sub (a:=d1) hl k2 rv;refine SeqAt.notIn_listAt (aa3 s.heap (toPy d1)) pl.isList (fun w hw=>xu hu ra k1 z w (by simpa using hw)) ⟨.bl _,H,I,rfl,?_⟩
  rw[show its.toArray.any (aa3 s.heap (toPy d1))=its.any (aa3 s.heap (toPy d1)) by simp,ea]
  exact Res.same G q (.bl _)
 ·obtain⟨its,rv,pl,_⟩:=I.tuple hs;obtain⟨ea,z⟩:=za I G.sub (a:=d1) hl k2 rv;refine SeqAt.notIn_tupleAt (aa3 s.heap (toPy d1)) pl (fun w hw=>xu hu ra k1 z w (by simpa using hw)) ⟨.bl _,H,I,rfl,?_⟩
  rw[show its.toArray.any (aa3 s.heap (toPy d1))=its.any (aa3 s.heap (toPy d1)) by simp,ea]
  exact Res.same G q (.bl _)
end
end Dn
namespace Dn
open L2 Mn
section
variable{K:Fg9}{X:Cx}{e a b c:Expr}{es:List Expr}{pos p:Pos}
theorem apu:OpD K X (binaryOp .FloorDiv) (gInt fDiv):=af1 atn fun i j k h=>by
 unfold fDiv at h;split at h
 ·cases h;exact⟨by assumption,rfl⟩
 ·cases h
theorem aeb:OpD K X (binaryOp .Mod) (gInt fMod):=af1 az4 fun i j k h=>by
 unfold fMod at h;split at h
 ·cases h;exact⟨by assumption,rfl⟩
 ·cases h
theorem apr:OpD K X (binaryOp .Pow) (gInt fPow):=af1 az2 fun i j k h=>by
 unfold fPow at h;split at h
 ·rename_i hc;cases h;exact⟨⟨hc.1,hc.2.1,hc.2.2⟩,rfl⟩
 ·cases h
def gMul:D->D->Option Rv
 | .int i,.int j=>(fMul i j).map fun k=>.v (.int k)
 | .tup l,.int k=>if k=1 then some (.v (.tup l)) else if l≠[]/\2<=k/\k < 9223372036854775808/\l.length*k.toNat<=capS then some (.v (.tup (List.replicate k.toNat l).flatten)) else none
 | .lst l,.int k=>if k.natAbs < 9223372036854775808/\l.length*k.toNat<=capS then some (.fr (List.replicate k.toNat l).flatten) else none
 | _,_=>none
theorem wz:OpD K X (binaryOp .Mult) gMul:=OpD.mk fun hk=>by
 intro zv s σ0 H x y v u Q I rx ry z9;obtain⟨tg,F,ρ,σ,d1,d2,r,G,b1,b2,eg,q⟩:=z9;subst hk;unfold gMul at eg;split at eg
 ·rename_i i j;obtain rfl:=b1.int;obtain rfl:=b2.int;unfold fMul at eg;split at eg
  ·rename_i hc;cases eg;exact az3 zv s σ0 H _ _ v u Q I rx ry ⟨_,_,rfl,rfl,hc,Res.same G q (.int _)⟩
  ·cases eg
 ·rename_i l k;split at eg
  ·rename_i hk1;subst hk1;cases eg;obtain⟨a1,vs1,rfl,s1,i1⟩:=b1.tup;obtain rfl:=b2.int;exact aw9 zv s σ0 H _ _ v u Q I rx ry ⟨a1,vs1,rfl,rfl,G.sub _ _ s1,Res.same G q (.tup s1 i1)⟩
  split at eg
  ·rename_i hc;obtain⟨h0,h2,h3,hz⟩:=hc;cases eg;obtain⟨a1,vs1,rfl,s1,i1⟩:=b1.tup;obtain rfl:=b2.int;have l1:=i1.length;refine atk zv s σ0 H _ _ v u Q I rx ry ⟨a1,vs1,k,rfl,rfl,G.sub _ _ s1,?_,h2,h3,by rw[<-l1];exact agq hz,fun p hp=>Res.tup G q (i1.rep _) hp⟩
   intro z;subst z;cases i1;exact h0 rfl
  ·cases eg
 ·rename_i l k;split at eg
  ·rename_i hc;obtain⟨hab,hz⟩:=hc;have h0 : -9223372036854775808<=k:=by omega
   have h2:k < 9223372036854775808:=by omega
   cases eg;obtain⟨a1,vs1,rfl,s1,i1⟩:=b1.lst G.sub;obtain rfl:=b2.int;have l1:=i1.length;exact az1 zv s σ0 H _ _ v u Q I rx ry ⟨a1,k,vs1,rfl,rfl,s1,h0,h2,by rw[<-l1];exact agq hz,fun p hp=>Res.lst G q (i1.rep _) hp⟩
  ·cases eg
 ·cases eg
def gCmp(f:Int->Int->Bool):D->D->Option Rv
 | .int i,.int j=>some (.v (.bl (f i j)))
 | _,_=>none
theorem akr(h:OpR X (compareOp op) (rI0 fun i j=>.bl (f i j))):OpD K X (compareOp op) (gCmp f):=OpD.mk fun hk=>by
 intro zv s σ0 H x y v u Q I rx ry z9;obtain⟨tg,F,ρ,σ,d1,d2,r,G,b1,b2,eg,q⟩:=z9;unfold gCmp at eg;split at eg
 ·cases eg;obtain rfl:=b1.int;obtain rfl:=b2.int;exact h zv s σ0 H _ _ v u Q I rx ry ⟨_,_,rfl,rfl,Res.same G q (.bl _)⟩
 ·cases eg
theorem al8:OpD K X (compareOp .Lt) (gCmp fun i j=>decide (i < j)):=akr a3t
theorem azz:OpD K X (compareOp .Gt) (gCmp fun i j=>decide (j < i)):=akr a3u
theorem apt:OpD K X (compareOp .GtE) (gCmp fun i j=>decide (j<=i)):=akr a3v
def gNeg:D->Option D
 | .int i=>some (.int (-i))
 | _=>none
def mUn(g:D->Option D)(m:M D):M D:=m.bind fun d=>lift (g d)
theorem agg(h:EV K X a m):EV K X (.UnaryOp .USub a pos) (mUn gNeg m):=EV.mk fun hk=>PE.imp (a3n ays (h hk)) fun σ H Q z9=>by
 obtain⟨tg,F,ρ,d,ρ',G,em,q⟩:=z9;obtain⟨d1,ρ1,e1,em⟩:=bj em;obtain⟨e2,rfl⟩:=jc em;refine⟨tg,F,ρ,d1,_,G,e1,fun v H' F' G' x r =>?_⟩
 cases d1 with
 | int i =>
  cases e2;cases r;exact⟨i,rfl,q _ H' F' G' x (.int _)⟩
 | _=>cases e2
def asB:D->Option Bool
 | .bl b=>some b
 | _=>none
def gNot(d:D):Option D:=(asB d).map fun k=>.bl (!k)
theorem ana(h:asB d=some k):d=.bl k:=by
 cases d with
 | bl b=>cases h;rfl
 | _=>cases h
theorem avn(h:EV K X a m):EV K X (.UnaryOp .Not a pos) (mUn gNot m):=EV.mk fun hk=>PE.imp (azr (h hk)) fun σ H Q z9=>by
 obtain⟨tg,F,ρ,d,ρ',G,em,q⟩:=z9;obtain⟨d1,ρ1,e1,em⟩:=bj em;obtain⟨e2,rfl⟩:=jc em;refine⟨tg,F,ρ,d1,_,G,e1,fun v H' F' G' x r =>?_⟩
 cases d1 with
 | bl i =>
  cases e2;cases r;exact⟨i,rfl,q _ H' F' G' x (.bl _)⟩
 | _=>cases e2
def mAnd(m1 m2:M D):M D:=m1.bind fun d=>(lift (asB d)).bind fun k=>if k=true then m2 else ret (.bl false)
theorem amw{op}(h:EV K X a m):EV K X (.BoolOp op [a] pos) m:=EV.mk fun hk=>azq (h hk)
theorem amz{m1 m2:M D}{rest:List Expr}(h1:EV K X a m1)(h2:EV K X (.BoolOp .And (b::rest) pos) m2):EV K X (.BoolOp .And (a::b::rest) pos) (mAnd m1 m2):=EV.mk fun hk=>PE.imp (azw (h1 hk) (h2 hk)) fun σ H Q z9=>by
 obtain⟨tg,F,ρ,d,ρ',G,em,q⟩:=z9;obtain⟨d1,ρ1,e1,em⟩:=bj em;obtain⟨k,ρ2,e2,em⟩:=bj em;obtain⟨e3,rfl⟩:=jc e2;obtain rfl:=ana e3;refine⟨tg,F,ρ,_,_,G,e1,fun v H' F' G' x r =>?_⟩
 cases r;refine⟨k,rfl,?_⟩;cases k with
 | true=>exact iteT ⟨tg,F',_,d,ρ',G',em,fun v2 H2 F2 G2 x2 r2=>q v2 H2 F2 G2 (x.trans x2) r2⟩
 | false =>
  obtain⟨rfl,rfl⟩:=jy (show ret (D.bl false) _=_ from em)
  exact iteF (q _ H' F' G' x (.bl _))
def TB(K:Fg9)(m:M Bool):TT:=fun σ H Q=>∃tg F ρ k ρ',Good K tg F H ρ σ/\m ρ=some (.ok k,ρ')/\∀H' F',Good K tg F' H' ρ' σ->Ext (Own ρ σ) (Own ρ' σ) F H F' H'->Q k H'
structure ET (K:Fg9) (X:Cx) (e:Expr) (m:M Bool):Prop where
 go:X.K=K->PT X e (TB K m)
instance {K:Fg9} {X:Cx} {e:Expr} {m:M Bool}:CoeFun (ET K X e m) fun _=>X.K=K->PT X e (TB K m):=⟨ET.go⟩
structure EW (K:Fg9) (X:Cx) (e:Expr) (m:M Bool):Prop where
 go:X.K=K->PW X e (TB K m)
instance {K:Fg9} {X:Cx} {e:Expr} {m:M Bool}:CoeFun (EW K X e m) fun _=>X.K=K->PW X e (TB K m):=⟨EW.go⟩
theorem PT.imp(h:PT X e t)(w:∀σ H Q,t' σ H Q->t σ H Q):PT X e t':=fun zv s σ H Q I q=>h zv s σ H Q I (w σ H Q q)
theorem PW.imp(h:PW X e t)(w:∀σ H Q,t' σ H Q->t σ H Q):PW X e t':=fun wh zv s σ H Q I q=>h wh zv s σ H Q I (w σ H Q q)
theorem EW.pt(h:EW K X e m):ET K X e m:=ET.mk fun hk=>(h hk).pt
def aam(m:M D):M Bool:=m.bind fun d=>lift (asB d)
theorem asu(σ:L2.St)(H:Hp)(Q:Bool->Hp->Prop)(t:TB K (aam m) σ H Q):tB (T K (relD K) m) σ H Q:=by
 obtain⟨tg,F,ρ,k,ρ',G,em,q⟩:=t;obtain⟨d1,ρ1,e1,em⟩:=bj em;obtain⟨e3,rfl⟩:=jc em;obtain rfl:=ana e3;refine⟨tg,F,ρ,_,_,G,e1,fun v H' F' G' x r =>?_⟩
 cases r;exact⟨k,rfl,q H' F' G' x⟩
theorem ab1(h:EV K X e m)(he:∀whole,isTrue e X.env whole=(do let v <-whole;standAt e.pos;holding [v] (truthy v)):=by intro _;rfl):ET K X e (aam m):=ET.mk fun hk=>PT.imp (azd (h hk) he) asu
def mj(g:D->D->Option Rv)(m:M (D×D)):M Bool:=aam (mOp g m).d
theorem pq(ho:OpD K X (compareOp op) g)(h:E2 K X a b m)(hm:behindInMarks op b=false):ET K X (.Compare a [op] [b] pos) (mj g m):=ET.mk fun hk=>by
 obtain⟨ta,tb,ha,hb,h⟩:=h hk;refine PT.imp (awl (ho hk) ha hb hm) fun σ H Q t =>?_
 obtain⟨tg,F,ρ,k,ρ',G,em,q⟩:=t;obtain⟨d1,ρ1,e1,em⟩:=bj em;obtain⟨e3,rfl⟩:=jc em;obtain rfl:=ana e3;obtain⟨r,ρ2,e1,em⟩:=bj e1;obtain⟨er,rfl⟩:=jy em;refine al9 h σ H _ ⟨tg,F,ρ,r,_,G,e1,fun v H' F' G' x w =>?_⟩
 cases r with
 | v d =>
  have er:d=.bl k:=er;subst er;have w:Is K F' (.bl k) v:=w;cases w;exact⟨k,rfl,q H' F' G' x⟩
 | fr l=>cases er
 | tf d l=>cases er
def af8(m:M Bool):M Bool:=m.bind fun k=>ret (!k)
theorem adu(h:ET K X a m):ET K X (.UnaryOp .Not a pos) (af8 m):=ET.mk fun hk=>PT.imp (aze (h hk)) fun σ H Q z9=>by
 obtain⟨tg,F,ρ,k,ρ',G,em,q⟩:=z9;obtain⟨d1,ρ1,e1,em⟩:=bj em;obtain⟨rfl,rfl⟩:=jy em;exact⟨tg,F,ρ,d1,_,G,e1,fun H' F' G' x=>q H' F' G' x⟩
def mOrB(m1 m2:M Bool):M Bool:=m1.bind fun k=>if k=true then ret true else m2
theorem aqz(h:ET K X a m):EW K X (.BoolOp .Or [a] pos) m:=EW.mk fun hk=>ay7 (h hk)
theorem auj{m1 m2:M Bool}{rest:List Expr}(h1:ET K X a m1)(h2:EW K X (.BoolOp .Or (b::rest) pos) m2):EW K X (.BoolOp .Or (a::b::rest) pos) (mOrB m1 m2):=EW.mk fun hk=>PW.imp (a3k (h1 hk) (h2 hk)) fun σ H Q z9=>by
 obtain⟨tg,F,ρ,d,ρ',G,em,q⟩:=z9;obtain⟨k,ρ1,e1,em⟩:=bj em;refine⟨tg,F,ρ,k,_,G,e1,fun H' F' G' x =>?_⟩
 cases k with
 | false=>exact iteF ⟨tg,F',_,d,ρ',G',em,fun H2 F2 G2 x2=>q H2 F2 G2 (x.trans x2)⟩
 | true =>
  obtain⟨rfl,rfl⟩:=jy (show ret true _=_ from em)
  exact iteT (q H' F' G' x)
def ajh(f g:Int->Int->Bool)(m1 m2 m3:M D):M D:=m1.bind fun x=>m2.bind fun y=>match x,y with
 | .int i,.int j=>if f i j=true then m3.bind fun z=>match z with
  | .int k=>ret (.bl (g j k))
  | _=>lift none
  else ret (.bl false)
 | _,_=>lift none
theorem ark(σ:L2.St)(H:Hp)(Q:VK)(t:T K (relD K) (ajh f g m1 m2 m3) σ H Q) :
  au3 (rI0 fun i j=>.bl (f i j)) (rI0 fun i j=>.bl (g i j)) (T K (relD K) m1) (T K (relD K) m2) (T K (relD K) m3) σ H Q:=by
 obtain⟨tg,F,ρ,d,ρ',G,em,q⟩:=t;obtain⟨d1,ρ1,e1,em⟩:=bj em;obtain⟨d2,ρ2,e2,em⟩:=bj em;have bad:∀{ρ:Ro},(lift (none:Option D)) ρ=some (.ok d,ρ')->False:=fun z=>by
  obtain⟨z,_⟩:=jc z;cases z
 cases d1 with
 | int i =>
  cases d2 with
  | int j =>
   refine⟨tg,F,ρ,_,ρ1,G,e1,fun v H1 F1 G1 x1 r1=>⟨tg,F1,ρ1,_,ρ2,G1,e2,fun v2 H2 F2 G2 x2 r2 =>?_⟩⟩
   cases r1;cases r2;refine⟨i,j,rfl,rfl,f i j,rfl,?_⟩;have em:(if f i j=true then m3.bind fun z=>match z with
    | .int k=>ret (.bl (g j k))
    | _=>lift none
    else ret (.bl false)) ρ2=some (.ok d,ρ'):=em
   by_cases hf:f i j=true
   ·rw[if_pos hf] at em ⊢
    obtain⟨d3,ρ3,e3,em⟩:=bj em;refine⟨tg,F2,ρ2,d3,ρ3,G2,e3,fun v3 H3 F3 G3 x3 r3 =>?_⟩
    cases d3 with
    | int k =>
     obtain⟨rfl,rfl⟩:=jy (show ret (D.bl (g j k)) _=_ from em)
     cases r3;exact⟨j,k,rfl,rfl,q _ H3 F3 G3 ((x1.trans x2).trans x3) (.bl _)⟩
    | _=>exact(bad em).elim
   ·rw[if_neg hf] at em ⊢
    obtain⟨rfl,rfl⟩:=jy em;exact q _ H2 F2 G2 (x1.trans x2) (.bl _)
  | _=>exact(bad em).elim
 | _=>cases d2 <;> exact(bad em).elim
theorem amy(ho:OpR X (compareOp op) (rI0 fun i j=>.bl (f i j)))(ho':OpR X (compareOp op') (rI0 fun i j=>.bl (g i j)))(h1:EV K X a m1)(h2:EV K X b m2)(h3:EV K X c m3)
  (hm:lastMarks [op,op'] [b,c]=false:=by with_unfolding_all rfl):EV K X (.Compare a [op,op'] [b,c] pos) (ajh f g m1 m2 m3):=EV.mk fun hk=>PE.imp (atg ho ho' (h1 hk) (h2 hk) (h3 hk) hm) ark
def mIf{α:Type}(m:M Bool)(m1 m2:M α):M α:=m.bind fun k=>if k=true then m1 else m2
theorem a09(h:ET K X c m)(h1:ER K X a m1)(h2:ER K X b m2):ER K X (.IfExp c a b pos) (mIf m m1 m2):=ER.mk fun hk=>PE.imp (atf (h hk) (h1 hk) (h2 hk)) fun σ H Q z9=>by
 obtain⟨tg,F,ρ,d,ρ',G,em,q⟩:=z9;obtain⟨k,ρ1,e1,em⟩:=bj em;refine⟨tg,F,ρ,k,_,G,e1,fun H' F' G' x =>?_⟩
 have fin:∀{m':M Rv},m' ρ1=some (.ok d,ρ')->T K (relR K) m' σ H' Q:=fun{m'} e'=>⟨tg,F',ρ1,d,ρ',G',e',fun v H2 F2 G2 x2 r2=>q v H2 F2 G2 (x.trans x2) (by
  cases d with
  | v d=>exact r2
  | fr l =>
   obtain⟨a,vs,ev,ha,w⟩:=r2;refine⟨a,vs,ev,?_,w⟩;rcases ha with ha | ha
   ·exact .inl (x.there a ha)
   ·exact(x.own a ha).symm
  | tf d l =>
   obtain⟨t,u,a,vs,ev,ht,hd,ha,w⟩:=r2;refine⟨t,u,a,vs,ev,ht,hd,?_,w⟩;rcases ha with ha | ha
   ·exact .inl (x.there a ha)
   ·exact(x.own a ha).symm)⟩
 cases k with
 | true=>exact iteT (fin em)
 | false=>exact iteF (fin em)
end
section
variable{K:Fg9}{X:Cx}{e a b c:Expr}{es:List Expr}{pos p p2:Pos}
def TL(K:Fg9)(m:M (List D)):TA:=fun σ H Q=>∃tg F ρ ds ρ',Good K tg F H ρ σ/\m ρ=some (.ok ds,ρ')/\∀vs H' F',Good K tg F' H' ρ' σ->Ext (Own ρ σ) (Own ρ' σ) F H F' H'->IsL K F' ds vs->Q vs H'
structure ED (K:Fg9) (X:Cx) (es:List Expr) (m:M (List D)):Prop where
 go:X.K=K->PA X es (TL K m)
instance {K:Fg9} {X:Cx} {es:List Expr} {m:M (List D)}:CoeFun (ED K X es m) fun _=>X.K=K->PA X es (TL K m):=⟨ED.go⟩
theorem PA.imp(h:PA X es t)(w:∀σ H Q,t' σ H Q->t σ H Q):PA X es t':=fun ps zv s σ H Q I q=>h ps zv s σ H Q I (w σ H Q q)
def mNil:M (List D):=ret []
def bw(m:M D)(ms:M (List D)):M (List D):=m.bind fun d=>ms.bind fun ds=>ret (d::ds)
theorem cj:ED K X [] mNil:=ED.mk fun _=>PA.imp aeq fun σ H Q z9=>by
 obtain⟨tg,F,ρ,ds,ρ',G,em,q⟩:=z9;obtain⟨rfl,rfl⟩:=jy em;exact q [] H F G (Ext.refl _ _ _) .nil
theorem ak(h:EV K X e m)(t:ED K X es ms)(hs:starEach (e::es) X.env=(false,eval e X.env)::starEach es X.env:=by rfl):ED K X (e::es) (bw m ms):=ED.mk fun hk=>PA.imp (yl (h hk) (t hk) hs) fun σ H Q z9=>by
 obtain⟨tg,F,ρ,ds,ρ',G,em,q⟩:=z9;obtain⟨d,ρ1,e1,em⟩:=bj em;obtain⟨r,ρ2,e2,em⟩:=bj em;obtain⟨rfl,rfl⟩:=jy em;exact⟨tg,F,ρ,d,ρ1,G,e1,fun v H1 F1 G1 x1 r1=>⟨tg,F1,ρ1,r,_,G1,e2,fun vs H2 F2 G2 x2 r2=>q _ H2 F2 G2 (x1.trans x2) (.cons (r1.mono x2.sub) r2)⟩⟩
def gTup(ds:List D):Option D:=if ds.length<=capS then some (.tup ds) else none
def gLst(ds:List D):Option Rv:=if ds.length<=capS then some (.fr ds) else none
def mTup(m:M (List D)):M D:=m.bind fun ds=>lift (gTup ds)
def mLst(m:M (List D)):M Rv:=m.bind fun ds=>lift (gLst ds)
theorem yp{k}(h:ED K X es m):EV K X (.Tuple es k pos) (mTup m):=EV.mk fun hk=>PE.imp (azp (h hk)) fun σ H Q z9=>by
 obtain⟨tg,F,ρ,d,ρ',G,em,q⟩:=z9;obtain⟨ds,ρ1,e1,em⟩:=bj em;obtain⟨e2,rfl⟩:=jc em;unfold gTup at e2;split at e2
 ·rename_i hz;cases e2;refine⟨tg,F,ρ,ds,_,G,e1,fun vs H1 F1 G1 x1 r1=>⟨by rw[<-r1.length];exact agq hz,fun p hp=>q _ _ _ (G1.new hp _) (x1.trans (G1.newX hp _)) (.tup jh (r1.mono (Same.new (G1.freeF hp) _)))⟩⟩
 ·cases e2
theorem ue(h:ED K X es m):ER K X (.List es pos) (mLst m):=ER.mk fun hk=>PE.imp (azt (h hk)) fun σ H Q z9=>by
 obtain⟨tg,F,ρ,d,ρ',G,em,q⟩:=z9;obtain⟨ds,ρ1,e1,em⟩:=bj em;obtain⟨e2,rfl⟩:=jc em;unfold gLst at e2;split at e2
 ·rename_i hz;cases e2;refine⟨tg,F,ρ,ds,_,G,e1,fun vs H1 F1 G1 x1 r1=>⟨by rw[<-r1.length];exact agq hz,fun p hp=>q _ _ _ (G1.fresh hp _) (x1.trans (G1.freshX hp _)) ⟨p,vs,rfl,.inl (x1.there p hp),G1.freeF hp,jh,r1,fun z=>G1.own_ne hp z rfl⟩⟩⟩
 ·cases e2
inductive BorL (K:Fg9) (F H:Hp):List D->List V->Prop
 | nil:BorL K F H [] []
 | cons {d:D} {v:V} {ds:List D} {vs:List V} (h:Bor K F H d v) (t:BorL K F H ds vs):BorL K F H (d::ds) (v::vs)
def TA'(K:Fg9)(m:M (List D)):TA:=fun σ H Q=>∃tg F ρ ds ρ',Good K tg F H ρ σ/\m ρ=some (.ok ds,ρ')/\∀vs H' F',Good K tg F' H' ρ' σ->Ext (Own ρ σ) (Own ρ' σ) F H F' H'->BorL K F' H' ds vs->Q vs H'
structure EA (K:Fg9) (X:Cx) (es:List Expr) (m:M (List D)):Prop where
 go:X.K=K->PA X es (TA' K m)
instance {K:Fg9} {X:Cx} {es:List Expr} {m:M (List D)}:CoeFun (EA K X es m) fun _=>X.K=K->PA X es (TA' K m):=⟨EA.go⟩
def jg(i:Nat)(ms:M (List D)):M (List D):=(dq i).bind fun _=>ms.bind fun ds=>(dq i).bind fun d=>ret (d::ds)
theorem fu:EA K X [] mNil:=EA.mk fun _=>PA.imp aeq fun σ H Q z9=>by
 obtain⟨tg,F,ρ,ds,ρ',G,em,q⟩:=z9;obtain⟨rfl,rfl⟩:=jy em;exact q [] H F G (Ext.refl _ _ _) .nil
theorem ea_v(h:EV K X e m)(t:EA K X es ms)(hs:starEach (e::es) X.env=(false,eval e X.env)::starEach es X.env:=by rfl):EA K X (e::es) (bw m ms):=EA.mk fun hk=>PA.imp (yl (h hk) (t hk) hs) fun σ H Q z9=>by
 obtain⟨tg,F,ρ,ds,ρ',G,em,q⟩:=z9;obtain⟨d,ρ1,e1,em⟩:=bj em;obtain⟨r,ρ2,e2,em⟩:=bj em;obtain⟨rfl,rfl⟩:=jy em;exact⟨tg,F,ρ,d,ρ1,G,e1,fun v H1 F1 G1 x1 r1=>⟨tg,F1,ρ1,r,_,G1,e2,fun vs H2 F2 G2 x2 r2=>q _ H2 F2 G2 (x1.trans x2) (.cons (.inl (r1.mono x2.sub)) r2)⟩⟩
theorem ea_n(h:PE X e (tVar i))(t:EA K X es ms)(hs:starEach (e::es) X.env=(false,eval e X.env)::starEach es X.env:=by rfl):EA K X (e::es) (jg i ms):=EA.mk fun hk=>PA.imp (yl h (t hk) hs) fun σ H Q z9=>by
 obtain⟨tg,F,ρ,ds,ρ',G,em,q⟩:=z9;obtain⟨d0,ρ0,e0,em⟩:=bj em;obtain⟨r,ρ2,e2,em⟩:=bj em;obtain⟨d,ρ1,e1,em⟩:=bj em;obtain⟨rfl,rfl⟩:=jy em;obtain⟨rfl,v,hv,_⟩:=yg G e0;exact⟨v,hv,tg,F,ρ0,r,_,G,e2,fun vs H2 F2 G2 x2 r2=>by
  obtain⟨rfl,v',hv',b'⟩:=yg G2 e1;rw[hv] at hv';cases hv';exact q _ H2 F2 G2 x2 (.cons b' r2)⟩
def rcOf(K:Fg9)(g:List D->Option Rv):List V->Hp->VK->Prop:=fun vs H Q=>∃tg F ρ σ ds r,Good K tg F H ρ σ/\BorL K F H ds vs/\g ds=some r/\Res K tg F H ρ σ r Q
structure CallD (K:Fg9) (X:Cx) (f:Value) (g:List D->Option Rv):Prop where
 go:X.K=K->ab6 X f (rcOf K g)
instance {K:Fg9} {X:Cx} {f:Value} {g:List D->Option Rv}:CoeFun (CallD K X f g) fun _=>X.K=K->ab6 X f (rcOf K g):=⟨CallD.go⟩
def jb(g:List D->Option Rv)(m:M (List D)):M Rv:=m.bind fun ds=>lift (g ds)
theorem uo(x:Ext O O1 F H F1 H1)(h:relR K r v H1 O1 F2 H2 O2):relR K r v H O F2 H2 O2:=by
 cases r with
 | v d=>exact h
 | fr l =>
  obtain⟨a,vs,ev,ha,w⟩:=h;refine⟨a,vs,ev,?_,w⟩;rcases ha with ha | ha
  ·exact .inl (x.there a ha)
  ·exact(x.own a ha).symm
 | tf d l =>
  obtain⟨t,u,a,vs,ev,ht,hd,ha,w⟩:=h;refine⟨t,u,a,vs,ev,ht,hd,?_,w⟩;rcases ha with ha | ha
  ·exact .inl (x.there a ha)
  ·exact(x.own a ha).symm
theorem am5(σ:L2.St)(H:Hp)(Q:VK)(t:T K (relR K) (jb g m) σ H Q):tCB (rcOf K g) (TA' K m) σ H Q:=by
 obtain⟨tg,F,ρ,r,ρ',G,em,q⟩:=t;obtain⟨ds,ρ1,e1,em⟩:=bj em;obtain⟨e2,rfl⟩:=jc em;exact⟨tg,F,ρ,ds,_,G,e1,fun vs H' F' G' x' bl=>⟨tg,F',_,σ,ds,r,G',bl,e2,fun v H2 F2 G2 x2 rr=>q v H2 F2 G2 (x'.trans x2) (uo x' rr)⟩⟩
section
variable{x:Str}{id Ty:String}{g:List D->Option Rv}{m:M (List D)}
theorem gm(hc:CallD K X (.builtin id) g)(hg:Gl X x)(hm:X.mg x=none)(hv:bootBuiltins x=some (.builtin id))(ha:EA K X (e::es) m)(hn:x ≠ "__name__" := by decide)(hdb:(x==("__debug__" : Str))=false:=by decide)
  (he:starEach (e::es) X.env=(false,eval e X.env)::starEach es X.env:=by rfl) (hpl:(backTo pos (starEach es X.env)).any (·.1)=false:=by rfl):ER K X (.Call (.Name x p) (e::es) [] pos) (jb g m):=ER.mk fun hk=>PE.imp (afd (hc hk) hg hm hv (ha hk) hn hdb he hpl) am5
theorem gf(hc:CallD K X (.type Ty) g)(hg:Gl X x)(hm:X.mg x=none)(hv:bootBuiltins x=some (.type Ty))(ha:EA K X (e::es) m)(hn:x ≠ "__name__" := by decide)(hdb:(x==("__debug__" : Str))=false:=by decide)
  (he:starEach (e::es) X.env=(false,eval e X.env)::starEach es X.env:=by rfl) (hpl:(backTo pos (starEach es X.env)).any (·.1)=false:=by rfl):ER K X (.Call (.Name x p) (e::es) [] pos) (jb g m):=ER.mk fun hk=>PE.imp (adb (hc hk) hg hm hv (ha hk) hn hdb he hpl) am5
end
theorem BorL.one(h:BorL K F H [d] vs):∃v,vs=[v]/\Bor K F H d v:=by
 cases h with
 | cons h t=>cases t;exact⟨_,rfl,h⟩
theorem BorL.two(h:BorL K F H [d,d'] vs):∃v v',vs=[v,v']/\Bor K F H d v/\Bor K F H d' v':=by
 cases h with
 | cons h t =>
  obtain⟨v',rfl,h'⟩:=t.one;exact⟨_,_,rfl,h,h'⟩
def g1(f:D->Option Rv):List D->Option Rv
 | [d]=>f d
 | _=>none
def g2(f:D->D->Option Rv):List D->Option Rv
 | [d,d']=>f d d'
 | _=>none
theorem ahh (h:X.K=K->∀(zv:List (Addr×Obj)) (s:Shared) (σ0:L2.St) (H:Hp) (x:V) (u:Value) (Q:VK) (tg:Nat->Addr) (F:Hp) (ρ:Ro) (σ:L2.St) (d:D) (r:Rv),Inv X zv σ0 H s->RelV x u->Good K tg F H ρ σ->Bor K F H d x->f d=some r->Res K tg F H ρ σ r Q ->
  wpAny (model X.prog X.w) X.A (call w [u]) (EP X zv σ0 Q) X.xe s):CallD K X w (g1 f):=CallD.mk fun hk=>by
 intro zv s σ0 H xs us Q I r z9;obtain⟨tg,F,ρ,σ,ds,rv,G,bl,eg,q⟩:=z9
 match ds,eg with
 | [d],eg =>
  obtain⟨v,rfl,bv⟩:=bl.one;obtain⟨u,rfl,ru⟩:=vals1 r;exact h hk zv s σ0 H v u Q tg F ρ σ d rv I ru G bv eg q
theorem rn:CallD K X (.builtin "len") (g1 fun d=>(itemsD d).map fun l=>.v (.int l.length)):=ahh fun hk zv s σ0 H x u Q tg F ρ σ d r I ru G bd eg q=>by
 subst hk;cases e:itemsD d with
 | none=>rw[e] at eg;cases eg
 | some l =>
  rw[e] at eg;cases eg;obtain⟨a,vs,rfl,hl,hs⟩:=afq G.sub e bd;have q':=Res.same G q (.int _);rw[hl.length] at q';exact aj3 zv s σ0 H [.ref a] [u] Q I (.cons ru .nil) ⟨a,vs,rfl,hs,q'⟩
def boolsD:List D->Option (List Bool)
 | []=>some []
 | .bl b::r=>(boolsD r).map (b :: ·)
 | _::_=>none
theorem aj7:∀{l:List D} {bs:List Bool},boolsD l=some bs->l=bs.map D.bl
 | [],_,h=>by cases h;rfl
 | .bl b::r,bs,h=>by
  have h':(boolsD r).map (b :: ·)=some bs:=h;cases e:boolsD r with
  | none=>rw[e] at h';cases h'
  | some t =>
   rw[e] at h';cases h';rw[aj7 e];rfl
 | .non::_,_,h=>by cases h
 | .int _::_,_,h=>by cases h
 | .str _::_,_,h=>by cases h
 | .tup _::_,_,h=>by cases h
 | .lst _::_,_,h=>by cases h
 | .kst _::_,_,h=>by cases h
 | .dct _::_,_,h=>by cases h
@[simp] theorem aog(bs:List Bool):boolsD (bs.map D.bl)=some bs:=by
 induction bs with
 | nil=>rfl
 | cons b r ih=>show(boolsD (r.map D.bl)).map (b :: ·)=_;rw[ih];rfl
def gAll:D->Option Rv
 | .lst l=>(boolsD l).map fun bs=>.v (.bl (bs.all id))
 | _=>none
theorem aro(hc:X.calm=true):CallD K X (.builtin "all") (g1 gAll):=ahh fun hk zv s σ0 H x u Q tg F ρ σ d r I ru G bd eg q=>by
 subst hk;cases d with
 | lst l =>
  have eg:(boolsD l).map (fun bs=>Rv.v (.bl (bs.all id)))=some r:=eg
  cases e:boolsD l with
  | none=>rw[e] at eg;cases eg
  | some bs =>
   rw[e] at eg;cases eg;obtain⟨a,vs,rfl,ea,hl⟩:=bd.lst G.sub;rw[aj7 e] at hl;rw[hl.bl_inv] at ea;exact aut hc zv s σ0 H [.ref a] [u] Q I (.cons ru .nil) ⟨a,bs,rfl,SqL.of ea,Res.same G q (.bl _)⟩
 | _=>cases eg
def aoa:D->Option Rv
 | .int i=>some (.v (.int i))
 | .bl k=>some (.v (.int (if k then 1 else 0)))
 | _=>none
theorem avs:CallD K X (.type "int") (g1 aoa):=ahh fun hk zv s σ0 H x u Q tg F ρ σ d r I ru G bd eg q=>by
 cases d with
 | int i =>
  cases eg;obtain rfl:=bd.int;exact aj4 zv s σ0 H [_] [u] Q I (.cons ru .nil) (.inl ⟨i,rfl,Res.same G q (.int _)⟩)
 | bl k =>
  cases eg;obtain rfl:=bd.bl;exact aj4 zv s σ0 H [_] [u] Q I (.cons ru .nil) (.inr ⟨k,rfl,Res.same G q (.int _)⟩)
 | _=>cases eg
theorem qm:CallD K X (.type "tuple") (g1 fun d=>(itemsD d).map fun l=>.v (.tup l)):=ahh fun hk zv s σ0 H x u Q tg F ρ σ d r I ru G bd eg q=>by
 subst hk;cases d with
 | tup l =>
  cases eg;obtain⟨a,vs,rfl,ea,hl⟩:=bd.tup;exact abe zv s σ0 H [_] [u] Q I (.cons ru .nil) ⟨a,vs,rfl,.inr ⟨SqT.of (G.sub _ _ ea),Res.same G q (.tup ea hl)⟩⟩
 | lst l =>
  cases eg;obtain⟨a,vs,rfl,ea,hl⟩:=bd.lst G.sub;exact abe zv s σ0 H [_] [u] Q I (.cons ru .nil) ⟨a,vs,rfl,.inl ⟨SqL.of ea,fun p hp=>Res.tup G q hl hp⟩⟩
 | kst l =>
  cases eg;obtain⟨a,vs,rfl,ea,hl⟩:=bd.kst;exact abe zv s σ0 H [_] [u] Q I (.cons ru .nil) ⟨a,vs,rfl,.inl ⟨L2.Same.seq G.sub ea,fun p hp=>Res.tup G q hl hp⟩⟩
 | _=>cases eg
theorem aah:CallD K X (.type "list") (g1 fun d=>(itemsD d).map fun l=>.fr l):=ahh fun hk zv s σ0 H x u Q tg F ρ σ d r I ru G bd eg q=>by
 subst hk;cases e:itemsD d with
 | none=>rw[e] at eg;cases eg
 | some l =>
  rw[e] at eg;cases eg;obtain⟨a,vs,rfl,hl,hs⟩:=afq G.sub e bd;exact aj2 zv s σ0 H [_] [u] Q I (.cons ru .nil) ⟨a,vs,rfl,hs,fun p hp=>Res.lst G q hl hp⟩
theorem avq (h:X.K=K->∀(zv:List (Addr×Obj)) (s:Shared) (σ0:L2.St) (H:Hp) (x y:V) (u v:Value) (Q:VK) (tg:Nat->Addr) (F:Hp) (ρ:Ro) (σ:L2.St) (d d':D) (r:Rv),Inv X zv σ0 H s->RelV x u->RelV y v->Good K tg F H ρ σ->Bor K F H d x->Bor K F H d' y->f d d'=some r->Res K tg F H ρ σ r Q ->
  wpAny (model X.prog X.w) X.A (call w [u,v]) (EP X zv σ0 Q) X.xe s):CallD K X w (g2 f):=CallD.mk fun hk=>by
 intro zv s σ0 H xs us Q I r z9;obtain⟨tg,F,ρ,σ,ds,rv,G,bl,eg,q⟩:=z9
 match ds,eg with
 | [d,d'],eg =>
  obtain⟨v,v',rfl,bv,bv'⟩:=bl.two;obtain⟨u,w,rfl,ru,rw'⟩:=vals2 r;exact h hk zv s σ0 H v v' u w Q tg F ρ σ d d' rv I ru rw' G bv bv' eg q
theorem avr(hc:X.calm=true):CallD K X (.builtin "max") (g2 (gInt fun i j=>some (if j > i then j else i))):=avq fun hk zv s σ0 H x y u v Q tg F ρ σ d d' r I ru rv G bd bd' eg q=>by
 unfold gInt at eg;split at eg
 ·cases eg;obtain rfl:=bd.int;obtain rfl:=bd'.int;exact ars hc zv s σ0 H [_,_] [u,v] Q I (.cons ru (.cons rv .nil)) ⟨_,_,rfl,Res.same G q (.int _)⟩
 ·cases eg
theorem aj5:ab6 X (.builtin "divmod") (fun xs H Q=>∃i j,xs=[.int i,.int j]/\(0 < j/\j < 1000000000000000000000000000000000000000000000000000000000000)/\∀p,H p=none->Q (.ref p) (upd H p (.tup [.int (i / j),.int (i % j)]))):=by
 intro zv s σ H xs us Q I r h;obtain⟨i,j,rfl,hj,q⟩:=h;obtain⟨u,w',rfl,⟨t,rfl⟩,⟨t',rfl⟩⟩:=vals2 r;have h1:=hj.1;refine divmod_int (by omega) ?_ (.inl (az9 hj.1 hj.2))
 rw[Int.fdiv_eq_ediv_of_nonneg i (by omega),Int.fmod_eq_emod_of_nonneg i (by omega)]
 refine⟨.ref s.heap.objs.size,_,?_,rfl,q _ (I.hok.fresh (Nat.le_refl _))⟩;exact I.laid (fun b o e=>Heap.get?_push_of_some _ e) (Nat.le_refl _) ⟨by simp only[List.length_cons,List.length_nil];rw[sizeLine_eq];decide,[.int (i / j) s.toks,.int (i % j) (s.toks+1)],.cons ⟨_,rfl⟩ (.cons ⟨_,rfl⟩ .nil),⟨_,Heap.get?_push_size s.heap rfl,rfl,rfl,0,rfl⟩⟩
def aii:D->D->Option Rv
 | .int i,.int j=>if 0 < j/\j < 1000000000000000000000000000000000000000000000000000000000000 then some (.v (.tup [.int (i / j),.int (i % j)])) else none
 | _,_=>none
theorem arn:CallD K X (.builtin "divmod") (g2 aii):=avq fun hk zv s σ0 H x y u v Q tg F ρ σ d d' r I ru rv G bd bd' eg q=>by
 unfold aii at eg;split at eg
 ·split at eg
  ·rename_i hc;cases eg;obtain rfl:=bd.int;obtain rfl:=bd'.int;exact aj5 zv s σ0 H [_,_] [u,v] Q I (.cons ru (.cons rv .nil)) ⟨_,_,rfl,hc,fun p hp=>Res.tup G q (.cons (.int _) (.cons (.int _) .nil)) hp⟩
  ·cases eg
 ·cases eg
inductive Ty where
 | int | bool | tuple | list | str | dict
def Ty.nm:Ty->String
 | .int => "int" | .bool => "bool" | .tuple => "tuple" | .list => "list" | .str => "str" | .dict => "dict"
def tyD:D->Value
 | .non=>.type "NoneType"
 | .bl _=>.type "bool"
 | .int _=>.type "int"
 | .str _=>.type "str"
 | .tup _=>.type "tuple"
 | .lst _=>.type "list"
 | .kst _=>.type "list"
 | .dct _=>.type "dict"
 | .exn _ _=>.type "NoneType"
 | .dtt _=>.type "dict"
def isTy:Ty->D->Bool
 | .int,.int _=>true
 | .int,.bl _=>true
 | .bool,.bl _=>true
 | .tuple,.tup _=>true
 | .list,.lst _=>true
 | .list,.kst _=>true
 | .str,.str _=>true
 | .dict,.dct _=>true
 | .dict,.dtt _=>true
 | _,_=>false
theorem avh(t:Ty)(d:D):PySem.W.kitOne K (tyD d) (.type t.nm)=some (isTy t d):=by
 cases d <;> cases t <;> kernel_rfl
theorem art:ab6 X (.builtin "isinstance") (fun xs H Q=>∃F d x t,xs=[x,.ty (Ty.nm t)]/\Same F H/\Bor X.K F H d x/\Q (.bl (isTy t d)) H):=by
 intro zv s σ H xs us Q I r z9;obtain⟨F,d,x,t,e,g,h,q⟩:=z9;subst e;obtain⟨u,w',rfl,r1,r2⟩:=vals2 r;obtain rfl:w'=Value.type t.nm:=r2;have fin:∀tk,EP X zv σ Q (.bool (isTy t d)) { s with toks:=tk }:=fun tk=>⟨.bl _,H,I.tok tk,rfl,q⟩
 have go:TyOf X.K H x (tyD d)->wpAny (model X.prog X.w) X.A (call (.builtin "isinstance") [u,.type t.nm]) (EP X zv σ Q) X.xe s:=fun ty=>aql I r1 ty (avh t d) fin
 cases d with
 | non=>obtain rfl:=h.non;exact go .non
 | bl b=>obtain rfl:=h.bl;exact go (.bl b)
 | int b=>obtain rfl:=h.int;exact go (.int b)
 | str b=>obtain rfl:=h.str;exact go (.str b)
 | tup b=>obtain⟨a,vs,rfl,e,_⟩:=h.tup;exact go (.tup (g _ _ e))
 | lst b=>obtain⟨a,vs,rfl,e,_⟩:=h.lst g;exact go (.lst e)
 | kst b =>
  obtain⟨a,vs,rfl,e,_⟩:=h.kst;cases(show u=Value.ref a from r1)
  obtain⟨its,_,pl,_⟩:=I.list (L2.Same.seq g e);obtain⟨o,ho,hc,n,hd⟩:=pl.isList;exact PySem.W.kia_one PySem.W.kitx_list I.kIn ⟨o,ho,hc⟩ (avh t (.kst b)) (fun z=>nomatch z) fin
 | dct b =>
  rcases h with h | ⟨a,vs,l',e1,_⟩
  ·cases h with
   | dct e h=>exact go (.dK (g _ _ e))
  ·cases e1
 | dtt b =>
  rcases h with h | ⟨a,vs,l',e1,_⟩
  ·cases h with
   | dtt e=>exact go (.dT (g _ _ e))
  ·cases e1
 | exn c fs =>
  rcases h with h | ⟨a,vs,l',e1,_⟩
  ·cases h with
   | @exn a C c dx fs e hc hk hf =>
    cases(show u=Value.ref a from r1)
    obtain⟨⟨oe,ws,h1,h2,h3,h4⟩,_⟩:=(show zg X.prog X.w H s.heap a (.ext (exO a C dx)) from I.hok a _ (g _ _ e))
    have hno:PySem.W.notCls oe=true:=by unfold PySem.W.notCls;rw[h4]
    have ia:∃ox od,PySem.W.InstAt s.heap a ox C od:=by
     rcases hf with⟨rfl,_⟩ | ⟨d,rfl,hd⟩
     ·exact⟨oe,none,h1,h2,hno,by rw[h3];trivial⟩
     ·obtain⟨mA,⟨od,_,_,e1,_⟩,_⟩:=(show zg X.prog X.w H s.heap d (.xd _) from I.hok d _ (g _ _ hd))
      exact⟨oe,some od,h1,h2,hno,by rw[h3];exact e1⟩
    have kq:PySem.W.kitOne X.K (.ref C) (.type t.nm)=some false:=by
     have h5:PySem.W.subIn X.K (.ref C) (.type t.nm)=some false:=hk.no _ (by cases t <;> simp[Ty.nm])
     have h6:PySem.W.kitMeta t.nm=true:=by cases t <;> kernel_rfl
     unfold PySem.W.kitOne PySem.W.kitCls;rw[if_neg (by simp)]
     show(if PySem.W.kitMeta t.nm=true then PySem.W.subIn X.K (.ref C) (.type t.nm) else none)=some false
     rw[if_pos h6];exact h5
    have e7:isTy t (.exn c fs)=false:=by cases t <;> rfl
    exact PySem.W.kia_one (at5 hk) I.kIn ia kq (fun z=>nomatch z) fun tk=>e7▸fin tk
  ·cases e1
def mIsi(t:Ty)(m:M D):M D:=m.bind fun d=>ret (.bl (isTy t d))
theorem ahf(ht:PE X tn (tC (.ty t.nm)))(hg:Gl X x)(hm:X.mg x=none)(hv:bootBuiltins x=some (.builtin "isinstance"))(h:EB K X e m)(hn:x ≠ "__name__" := by decide)(hdb:(x==("__debug__" : Str))=false:=by decide)
  (h1:starEach [tn] X.env=(false,eval tn X.env)::starEach [] X.env:=by rfl) (he:starEach [e,tn] X.env=(false,eval e X.env)::starEach [tn] X.env:=by rfl) (hpl:(backTo pos (starEach [tn] X.env)).any (·.1)=false:=by rfl) :
  EV K X (.Call (.Name x p) [e,tn] [] pos) (mIsi t m):=EV.mk fun hk=>by
 refine PE.imp (afd art hg hm hv (yl (h hk) (yl ht aeq h1) he) hn hdb he hpl) fun σ H Q z9 =>?_
 obtain⟨tg,F,ρ,d,ρ',G,em,q⟩:=z9;obtain⟨d1,ρ1,e1,em⟩:=bj em;obtain⟨rfl,rfl⟩:=jy em;subst hk;exact⟨tg,F,ρ,d1,_,G,e1,fun v H' F' G' x bv=>⟨F',d1,v,t,rfl,G'.sub,bv,q _ H' F' G' x (.bl _)⟩⟩
def gIx(d i:D):Option Rv:=match i with
 | .int k=>(itemsD d).bind fun l=>(atI l k).map fun x=>.v x
 | _=>none
theorem a1j(h:IsL K F l vs)(e:atI l k=some d):∃v,atI vs k=some v/\Is K F d v:=by
 unfold atI at e ⊢
 rw[h.length] at e;cases q:ixN vs.length k with
 | none=>rw[q] at e;cases e
 | some j =>
  rw[q] at e;obtain⟨v,e1,e2⟩:=h.get (i:=j) e;exact⟨v,e1,e2⟩
theorem ixd:X.K=K->IxR X (rOf K gIx):=fun hk=>by
 intro value slice zv s σ0 H x y v u Q I rx ry z9 hs;obtain⟨tg,F,ρ,σ,d1,d2,r,G,b1,b2,eg,q⟩:=z9;subst hk;cases d2 with
 | int k =>
  have eg:(itemsD d1).bind (fun l=>(atI l k).map fun x=>Rv.v x)=some r:=eg
  cases e:itemsD d1 with
  | none=>rw[e] at eg;cases eg
  | some l =>
   rw[e] at eg;have eg:(atI l k).map (fun x=>Rv.v x)=some r:=eg
   cases e2:atI l k with
   | none=>rw[e2] at eg;cases eg
   | some d =>
    rw[e2] at eg;cases eg;obtain⟨a,vs,rfl,hl,hq⟩:=afq G.sub e b1;obtain rfl:=b2.int;obtain⟨z,hz,iz⟩:=a1j hl e2;rcases hq with hq | hq
    ·exact ak2 value slice zv s σ0 H _ _ v u Q I rx ry ⟨a,vs,k,z,rfl,rfl,hq,hz,Res.same G q iz⟩ hs
    ·exact a0u value slice zv s σ0 H _ _ v u Q I rx ry ⟨a,vs,k,z,rfl,rfl,hq,hz,Res.same G q iz⟩ hs
 | _=>cases eg
theorem jm(h:E2 K X a b m)(hs:ash b):ER K X (.Subscript a b pos) (mOp gIx m):=ER.mk fun hk=>by
 obtain⟨ta,tb,ha,hb,h⟩:=h hk;exact PE.imp (aw0 (ixd hk) ha hb hs) (al9 h)
def TOp(K:Fg9)(m:M (Option Int)):TO:=fun σ H Q=>∃tg F ρ o ρ',Good K tg F H ρ σ/\m ρ=some (.ok o,ρ')/\∀H' F',Good K tg F' H' ρ' σ->Ext (Own ρ σ) (Own ρ' σ) F H F' H'->Q o H'
structure EO (K:Fg9) (X:Cx) (e:Option Expr) (m:M (Option Int)):Prop where
 go:X.K=K->PO X e (TOp K m)
instance {K:Fg9} {X:Cx} {e:Option Expr} {m:M (Option Int)}:CoeFun (EO K X e m) fun _=>X.K=K->PO X e (TOp K m):=⟨EO.go⟩
theorem PO.imp(h:PO X eo t)(w:∀σ H Q,t' σ H Q->t σ H Q):PO X eo t':=fun zv s σ H Q I q=>h zv s σ H Q I (w σ H Q q)
theorem ac2:EO K X none (ret none):=EO.mk fun _=>PO.imp aws fun σ H Q z9=>by
 obtain⟨tg,F,ρ,o,ρ',G,em,q⟩:=z9;obtain⟨rfl,rfl⟩:=jy em;exact q H F G (Ext.refl _ _ _)
def asI:D->Option Int
 | .int i=>some i
 | _=>none
theorem am9(h:asI d=some k):d=.int k:=by
 cases d with
 | int b=>cases h;rfl
 | _=>cases h
def af7(m:M D):M (Option Int):=m.bind fun d=>lift ((asI d).map some)
theorem aa4(h:EV K X e m):EO K X (some e) (af7 m):=EO.mk fun hk=>PO.imp (awr (h hk)) fun σ H Q z9=>by
 obtain⟨tg,F,ρ,o,ρ',G,em,q⟩:=z9;obtain⟨d,ρ1,e1,em⟩:=bj em;obtain⟨e2,rfl⟩:=jc em;refine⟨tg,F,ρ,d,_,G,e1,fun v H' F' G' x r =>?_⟩
 cases d with
 | int i =>
  cases e2;cases r;exact⟨i,rfl,q H' F' G' x⟩
 | _=>cases e2
def cutD(l:List D)(lo hi:Option Int):List D:=(l.drop (HT.sIx l.length 0 lo)).take (HT.sIx l.length l.length hi - HT.sIx l.length 0 lo)
theorem ard(h:IsL K F l vs)(lo hi:Option Int):IsL K F (cutD l lo hi) (cutV vs lo hi):=by
 unfold cutD cutV;rw[h.length];exact(h.drop _).take _
def gCut(d:D)(lo hi:Option Int):Option Rv:=match d with
 | .tup l=>some (.v (.tup (cutD l lo hi)))
 | .lst l=>some (.fr (cutD l lo hi))
 | .kst l=>some (.fr (cutD l lo hi))
 | _=>none
def rsOf(K:Fg9):V->Option Int->Option Int->Hp->VK->Prop:=fun x lo hi H Q=>∃tg F ρ σ d r,Good K tg F H ρ σ/\Bor K F H d x/\gCut d lo hi=some r/\Res K tg F H ρ σ r Q
theorem sld(hk:X.K=K):SlR X (rsOf K):=by
 intro zv s σ0 H x v vl vu lo hi sl Q I rx hs pl pu z9;obtain⟨tg,F,ρ,σ,d,r,G,bd,eg,q⟩:=z9;subst hk;cases d with
 | tup l =>
  cases eg;obtain⟨a,vs,rfl,ea,hl⟩:=bd.tup
  by_cases hw:HT.sIx vs.length 0 lo=0/\HT.sIx vs.length vs.length hi=vs.length
  ·have ec:cutD l lo hi=l:=by
    unfold cutD;rw[hl.length,hw.1,hw.2,List.drop_zero,Nat.sub_zero,<-hl.length,List.take_length]
   rw[ec] at q;cases rx;obtain⟨its,r,ht,hz⟩:=I.tuple (SqT.of (G.sub _ _ ea));have hlen:its.toArray.size=vs.length:=by rw[List.size_toArray];exact r.length.symm
   refine⟨"tuple", _,PyProof.Rows.slot_tuple_getitem.lookup,ht.typeIs,?_⟩;exact acy ht hs pl pu (by rw[hlen];exact hw.1) (by rw[hlen];exact hw.2) ⟨.ref a,H,I,rfl,Res.same G q (.tup ea hl)⟩
  ·exact ay1 zv s σ0 H _ v vl vu lo hi sl Q I rx hs pl pu ⟨a,vs,rfl,SqT.of (G.sub _ _ ea),hw,fun p hp=>Res.tup G q (ard hl lo hi) hp⟩
 | lst l =>
  cases eg;obtain⟨a,vs,rfl,ea,hl⟩:=bd.lst G.sub;exact ao5 zv s σ0 H _ v vl vu lo hi sl Q I rx hs pl pu ⟨a,vs,rfl,SqL.of ea,fun p hp=>Res.lst G q (ard hl lo hi) hp⟩
 | kst l =>
  cases eg;obtain⟨a,vs,rfl,ea,hl⟩:=bd.kst;exact ao5 zv s σ0 H _ v vl vu lo hi sl Q I rx hs pl pu ⟨a,vs,rfl,L2.Same.seq G.sub ea,fun p hp=>Res.lst G q (ard hl lo hi) hp⟩
 | _=>cases eg
def mCut(m:M D)(ml mh:M (Option Int)):M Rv:=m.bind fun d=>ml.bind fun lo=>mh.bind fun hi=>lift (gCut d lo hi)
def ajf(i:Nat)(ml mh:M (Option Int)):M Rv:=(dq i).bind fun _=>ml.bind fun lo=>mh.bind fun hi=>(dq i).bind fun d=>lift (gCut d lo hi)
theorem avp{m:M D}{ml mh:M (Option Int)}{lo hi:Option Expr}(h:EV K X a m)(hl:EO K X lo ml)(hh:EO K X hi mh):ER K X (.Subscript a (.Slice lo hi none p2) pos) (mCut m ml mh):=ER.mk fun hk=>PE.imp (al5 (sld hk) (h hk) (hl hk) (hh hk)) fun σ H Q z9=>by
 obtain⟨tg,F,ρ,r,ρ',G,em,q⟩:=z9;obtain⟨d,ρ1,e1,em⟩:=bj em;obtain⟨o1,ρ2,e2,em⟩:=bj em;obtain⟨o2,ρ3,e3,em⟩:=bj em;obtain⟨e4,rfl⟩:=jc em;refine⟨tg,F,ρ,d,ρ1,G,e1,fun v H1 F1 G1 x1 r1=>⟨tg,F1,ρ1,o1,ρ2,G1,e2,fun H2 F2 G2 x2=>⟨tg,F2,ρ2,o2,_,G2,e3,fun H3 F3 G3 x3 =>?_⟩⟩⟩
 exact⟨tg,F3,_,σ,d,r,G3,.inl ((r1.mono x2.sub).mono x3.sub),e4,fun v' H4 F4 G4 x4 rr=>q v' H4 F4 G4 (((x1.trans x2).trans x3).trans x4) (uo ((x1.trans x2).trans x3) rr)⟩
theorem aei{i:Nat}{ml mh:M (Option Int)}{lo hi:Option Expr}(h:PE X a (tVar i))(hl:EO K X lo ml)(hh:EO K X hi mh):ER K X (.Subscript a (.Slice lo hi none p2) pos) (ajf i ml mh):=ER.mk fun hk=>PE.imp (al5 (sld hk) h (hl hk) (hh hk)) fun σ H Q z9=>by
 obtain⟨tg,F,ρ,r,ρ',G,em,q⟩:=z9;obtain⟨d0,ρ0,e0,em⟩:=bj em;obtain⟨o1,ρ2,e2,em⟩:=bj em;obtain⟨o2,ρ3,e3,em⟩:=bj em;obtain⟨d,ρ4,e1,em⟩:=bj em;obtain⟨e4,rfl⟩:=jc em;obtain⟨rfl,v,hv,_⟩:=yg G e0;refine⟨v,hv,tg,F,ρ0,o1,ρ2,G,e2,fun H2 F2 G2 x2=>⟨tg,F2,ρ2,o2,_,G2,e3,fun H3 F3 G3 x3 =>?_⟩⟩
 obtain⟨rfl,v',hv',b'⟩:=yg G3 e1;rw[hv] at hv';cases hv';exact⟨tg,F3,_,σ,d,r,G3,b',e4,fun v' H4 F4 G4 x4 rr=>q v' H4 F4 G4 ((x2.trans x3).trans x4) (uo (x2.trans x3) rr)⟩
end
inductive Fl where
 | nx | ret (r:Rv) | brk | cont | exc (x:Exn)
abbrev Sd:=Ro->Option (Fl×Ro)
section
variable{K:Fg9}{X:Cx}{e a b c tgt:Expr}{es:List Expr}{pos p p2:Pos}{st:Stmt}{ss:List Stmt}
def FlOk(K:Fg9)(tg:Nat->Addr)(ρ:Ro)(σ:L2.St)(F H:Hp)(E:Ends)(fl:Fl)(ρ':Ro):Prop:=match fl with
 | .nx=>∀σ' H' F',Good K tg F' H' ρ' σ'->Ext (Own ρ σ) (Own ρ' σ') F H F' H'->E.nx σ' H'
 | .brk=>∀σ' H' F',Good K tg F' H' ρ' σ'->Ext (Own ρ σ) (Own ρ' σ') F H F' H'->E.bk σ' H'
 | .cont=>∀σ' H' F',Good K tg F' H' ρ' σ'->Ext (Own ρ σ) (Own ρ' σ') F H F' H'->E.ct σ' H'
 | .ret r=>∀v σ' H' F',Good K tg F' H' ρ' σ'->Ext (Own ρ σ) (Own ρ' σ') F H F' H'->relR K r v H (Own ρ σ) F' H' (Own ρ' σ')->E.rt v H'
 | .exc _=>False
def TSd(K:Fg9)(g:Sd):TS:=fun E σ H=>∃tg F ρ fl ρ',Good K tg F H ρ σ/\g ρ=some (fl,ρ')/\FlOk K tg ρ σ F H E fl ρ'
structure SV (K:Fg9) (X:Cx) (st:Stmt) (g:Sd):Prop where
 go:X.K=K->PS X st (TSd K g)
instance {K:Fg9} {X:Cx} {st:Stmt} {g:Sd}:CoeFun (SV K X st g) fun _=>X.K=K->PS X st (TSd K g):=⟨SV.go⟩
structure SVs (K:Fg9) (X:Cx) (ss:List Stmt) (g:Sd):Prop where
 go:X.K=K->PSs X ss (TSd K g)
instance {K:Fg9} {X:Cx} {ss:List Stmt} {g:Sd}:CoeFun (SVs K X ss g) fun _=>X.K=K->PSs X ss (TSd K g):=⟨SVs.go⟩
theorem PS.imp(h:PS X st t)(w:∀E σ H,t' E σ H->t E σ H):PS X st t':=fun zv s σ H E I q=>h zv s σ H E I (w E σ H q)
theorem PSs.imp(h:PSs X ss t)(w:∀E σ H,t' E σ H->t E σ H):PSs X ss t':=fun zv s σ H E I q=>h zv s σ H E I (w E σ H q)
theorem FlOk.back(x:Ext (Own ρ σ) (Own ρ1 σ1) F H F1 H1)(h:FlOk K tg ρ σ F H E fl ρ'):FlOk K tg ρ1 σ1 F1 H1 E fl ρ':=by
 cases fl with
 | nx=>exact fun σ' H' F' G' x'=>h σ' H' F' G' (x.trans x')
 | brk=>exact fun σ' H' F' G' x'=>h σ' H' F' G' (x.trans x')
 | cont=>exact fun σ' H' F' G' x'=>h σ' H' F' G' (x.trans x')
 | ret r=>exact fun v σ' H' F' G' x' rr=>h v σ' H' F' G' (x.trans x') (uo x rr)
 | exc _=>exact h
def dNx:Sd:=fun ρ=>some (.nx,ρ)
noncomputable def dSeq(g k:Sd):Sd:=fun ρ=>match g ρ with
 | some (.nx,ρ1)=>k ρ1
 | r=>r
theorem jw:SVs K X [] dNx:=SVs.mk fun _=>PSs.imp awn fun E σ H z9=>by
 obtain⟨tg,F,ρ,fl,ρ',G,em,q⟩:=z9;cases em;exact q σ H F G (Ext.refl _ _ _)
theorem au(h:SV K X st g):SVs K X [st] g:=SVs.mk fun hk=>awm (h hk)
theorem aj(h:SV K X st g)(t:SVs K X ss k):SVs K X (st::ss) (dSeq g k):=SVs.mk fun hk=>PSs.imp (as9 (h hk) (t hk)) fun E σ H z9=>by
 obtain⟨tg,F,ρ,fl,ρ',G,em,q⟩:=z9;unfold dSeq at em;split at em
 ·rename_i ρ1 e1;exact⟨tg,F,ρ,.nx,ρ1,G,e1,fun σ' H' F' G' x=>⟨tg,F',ρ1,fl,ρ',G',em,q.back x⟩⟩
 ·rename_i hn;refine⟨tg,F,ρ,fl,ρ',G,em,?_⟩;cases fl with
  | nx=>exact absurd em (hn ρ')
  | brk=>exact q
  | cont=>exact q
  | ret r=>exact q
  | exc _=>exact q
theorem aly:SV K X st (fun _=>none):=SV.mk fun _=>PS.imp atb fun E σ H ⟨tg,F,ρ,fl,ρ',G,em,q⟩=>by cases em
noncomputable def dM{α:Type}(m:M α)(k:α->Sd):Sd:=fun ρ=>match m ρ with
 | some (.ok x,ρ1)=>k x ρ1
 | some (.exc x,ρ1)=>some (.exc x,ρ1)
 | none=>none
theorem w6{α:Type}{m:M α}{k:α->Sd}{ρ ρ':Ro}{fl:Fl}{P:Prop}(h:dM m k ρ=some (fl,ρ'))(hx:FlOk K tg ρ0 σ0 F0 H0 E0' fl ρ')(go:∀x ρ1,m ρ=some (.ok x,ρ1)->k x ρ1=some (fl,ρ')->P):P:=by
 unfold dM at h;split at h
 ·exact go _ _ (by assumption) h
 ·cases h;exact(show False from hx).elim
 ·cases h
noncomputable def dRet(m:M Rv):Sd:=dM m fun r ρ=>some (.ret r,ρ)
theorem gn{m:M Rv}(h:ER K X e m):SV K X (.Return (some e) pos) (dRet m):=SV.mk fun hk=>PS.imp (azh (h hk)) fun E σ H ⟨tg,F,ρ,fl,ρ',G,em,q⟩=>w6 em q fun r ρ1 e1 em=>by
 cases em;exact⟨tg,F,ρ,r,_,G,e1,fun v H' F' G' x rr=>q v σ H' F' G' x rr⟩
noncomputable def dIf(m:M Bool)(g k:Sd):Sd:=dM m fun z=>if z=true then g else k
theorem zb{m:M Bool}{g k:Sd}{ss':List Stmt}(h:ET K X c m)(h1:SVs K X ss g)(h2:SVs K X ss' k):SV K X (.If c ss ss' pos) (dIf m g k):=SV.mk fun hk=>PS.imp (a3m (h hk) (h1 hk) (h2 hk)) fun E σ H ⟨tg,F,ρ,fl,ρ',G,em,q⟩=>w6 em q fun z ρ1 e1 em=>by
 refine⟨tg,F,ρ,z,ρ1,G,e1,fun H' F' G' x =>?_⟩
 cases z with
 | true=>exact iteT ⟨tg,F',ρ1,fl,ρ',G',em,q.back x⟩
 | false=>exact iteF ⟨tg,F',ρ1,fl,ρ',G',em,q.back x⟩
def adz{α:Type}(m:M α):Sd:=dM m fun _ ρ=>some (.nx,ρ)
theorem wu{m:M Rv}(h:ER K X e m)(hs:swapsWith e none pos.line X.env=pure false:=by rfl):SV K X (.Expr e pos) (adz m):=SV.mk fun hk=>PS.imp (awo (h hk) hs) fun E σ H ⟨tg,F,ρ,fl,ρ',G,em,q⟩=>w6 em q fun r ρ1 e1 em=>by
 cases em;exact⟨tg,F,ρ,r,_,G,e1,fun v H' F' G' x rr=>q σ H' F' G' x⟩
section
variable{tg:Nat->Addr}{F H:Hp}{ρ:Ro}{σ:L2.St}
theorem akq{i:Nat}{s:Sl}{v:V}{b:Addr}(hl:ρ.length=σ.length)(h:Own (List.set ρ i s) (List.set σ i (some v)) b):Own ρ σ b∨((∃t l,s=.own t l)/\v=.ref b):=by
 obtain⟨j,⟨t,l,e⟩,q⟩:=h;rw[List.getElem?_set] at e q
 by_cases hj:i=j
 ·subst hj;rw[if_pos rfl] at e q;split at e
  ·rename_i hi;rw[if_pos (by rw[<-hl];exact hi)] at q
   cases e;cases q;exact .inr ⟨⟨t,l,rfl⟩,rfl⟩
  ·cases e
 ·rw[if_neg hj] at e q;exact .inl ⟨j,⟨t,l,e⟩,q⟩
theorem Good.put(G:Good K tg F H ρ σ)(i:Nat)(h:SlOk K tg F H s (some v))(n:∀t l a,s=.own t l->v=.ref a->¬Own ρ σ a):Good K tg F H (List.set ρ i s) (List.set σ i (some v)) where
 sub:=G.sub
 len:=by rw[List.length_set,List.length_set];exact G.len
 sl:=fun j s' o e q=>by
  rw[List.getElem?_set] at e q
  by_cases hj:i=j
  ·subst hj;rw[if_pos rfl] at e q;split at e
   ·rename_i hi;rw[if_pos (by rw[<-G.len];exact hi)] at q
    cases e;cases q;exact h
   ·cases e
  ·rw[if_neg hj] at e q;exact G.sl j s' o e q
 inj:=fun j k a ⟨⟨t,l,e⟩,q⟩ ⟨⟨t',l',e'⟩,q'⟩=>by
  rw[List.getElem?_set] at e q e' q'
  by_cases hj:i=j
  ·subst hj;rw[if_pos rfl] at e q
   by_cases hk:i=k
   ·exact hk
   ·rw[if_neg hk] at e' q';split at e
    ·rename_i hi;rw[if_pos (by rw[<-G.len];exact hi)] at q
     cases e;cases q;exact absurd ⟨k,⟨t',l',e'⟩,q'⟩ (n t l a rfl rfl)
    ·cases e
  ·rw[if_neg hj] at e q
   by_cases hk:i=k
   ·subst hk;rw[if_pos rfl] at e' q';split at e'
    ·rename_i hi;rw[if_pos (by rw[<-G.len];exact hi)] at q'
     cases e';cases q';exact absurd ⟨j,⟨t,l,e⟩,q⟩ (n t' l' a rfl rfl)
    ·cases e'
   ·rw[if_neg hk] at e' q';exact G.inj j k a ⟨⟨t,l,e⟩,q⟩ ⟨⟨t',l',e'⟩,q'⟩
def Rv.sl:Rv->Sl
 | .v d=>.val d
 | .fr l=>.own none l
 | .tf _ _=>.emp
theorem Good.store(G:Good K tg F H ρ σ)(x:Ext O (Own ρ σ) F0 H0 F H)(i:Nat)(h:relR K r v H0 O F H (Own ρ σ)) :
  Good K tg F H (List.set ρ i r.sl) (List.set σ i (some v))/\Ext O (Own (List.set ρ i r.sl) (List.set σ i (some v))) F0 H0 F H:=by
 cases r with
 | v d =>
  refine⟨G.put i ⟨v,rfl,h⟩ (fun t l a e=>by cases e),x.sub,x.new,x.keep,fun b w =>?_,x.there⟩
  rcases akq G.len w with w | ⟨⟨t,l,e⟩,_⟩
  ·exact x.own b w
  ·cases e
 | fr l =>
  obtain⟨a,vs,rfl,ha,hf,hh,hl,hn⟩:=h;refine⟨G.put i ⟨a,vs,rfl,hf,hh,hl,fun k e=>by cases e⟩ (fun t l' b _ e2=>by cases e2;exact hn),x.sub,x.new,x.keep,fun b w =>?_,x.there⟩
  rcases akq G.len w with w | ⟨_,e⟩
  ·exact x.own b w
  ·cases e;exact ha.symm
 | tf d l =>
  refine⟨G.put i trivial (fun t l a e=>by cases e),x.sub,x.new,x.keep,fun b w =>?_,x.there⟩
  rcases akq G.len w with w | ⟨⟨t,l,e⟩,_⟩
  ·exact x.own b w
  ·cases e
end
def dSet(i:Nat)(m:M Rv):Sd:=dM m fun r ρ=>some (.nx,List.set ρ i r.sl)
theorem fj{i:Nat}{x:Str}{m:M Rv}(hN:X.N.Nodup)(hi:X.N[i]? = some x)(hx:Loc X.env.scope x)(h:ER K X e m)(hs:swapsWith e (some (.Name x p)) pos.line X.env=pure false:=by rfl)(hf:X.fn x=true∨X.env.scope.names.lookup x=some .local:=by first | exact .inl rfl | exact .inr rfl | assumption) :
  SV K X (.Assign [.Name x p] e pos) (dSet i m):=SV.mk fun hk=>PS.imp (azg hN hi hx (h hk) hs hf) fun E σ H ⟨tg,F,ρ,fl,ρ',G,em,q⟩=>w6 em q fun r ρ1 e1 em=>by
 cases em;refine⟨tg,F,ρ,r,ρ1,G,e1,fun v H' F' G' x rr =>?_⟩
 obtain⟨G2,x2⟩:=G'.store x i rr;exact q _ H' F' G2 x2
def TGd(K:Fg9)(b:D->Ro->Option Ro):TG:=fun v σ H Q=>∃tg F ρ d ρ',Good K tg F H ρ σ/\Is K F d v/\b d ρ=some ρ'/\∀σ' H' F',Good K tg F' H' ρ' σ'->Ext (Own ρ σ) (Own ρ' σ') F H F' H'->Q σ' H'
structure GV (K:Fg9) (X:Cx) (e:Expr) (b:D->Ro->Option Ro):Prop where
 go:X.K=K->PG X e (TGd K b)
instance {K:Fg9} {X:Cx} {e:Expr} {b:D->Ro->Option Ro}:CoeFun (GV K X e b) fun _=>X.K=K->PG X e (TGd K b):=⟨GV.go⟩
theorem PG.imp(h:PG X e t)(w:∀v σ H Q,t' v σ H Q->t v σ H Q):PG X e t':=fun zv s σ H v u Q I r q=>h zv s σ H v u Q I r (w v σ H Q q)
def az(i:Nat):D->Ro->Option Ro:=fun d ρ=>some (List.set ρ i (.val d))
theorem Good.storeV(G:Good K tg F H ρ σ)(i:Nat)(h:Is K F d v):Good K tg F H (List.set ρ i (.val d)) (List.set σ i (some v))/\Ext (Own ρ σ) (Own (List.set ρ i (.val d)) (List.set σ i (some v))) F H F H :=
 G.store (r:=.v d) (Ext.refl _ _ _) i h
theorem bf(hN:X.N.Nodup)(hi:X.N[i]? = some x)(hx:Loc X.env.scope x)(hf:X.fn x=true∨X.env.scope.names.lookup x=some .local:=by first | exact .inl rfl | exact .inr rfl | assumption):GV K X (.Name x pos) (az i):=GV.mk fun _=>PG.imp (awy hN hi hx hf) fun v σ H Q z9=>by
 obtain⟨tg,F,ρ,d,ρ',G,h,em,q⟩:=z9;cases em;obtain⟨G2,x2⟩:=G.storeV i h;exact q _ H F G2 x2
def TGsd(K:Fg9)(b:List D->Ro->Option Ro):TGs:=fun vs σ H Q=>∃tg F ρ ds ρ',Good K tg F H ρ σ/\IsL K F ds vs/\b ds ρ=some ρ'/\∀σ' H' F',Good K tg F' H' ρ' σ'->Ext (Own ρ σ) (Own ρ' σ') F H F' H'->Q σ' H'
structure GVs (K:Fg9) (X:Cx) (es:List Expr) (b:List D->Ro->Option Ro):Prop where
 go:X.K=K->PGs X es (TGsd K b)
instance {K:Fg9} {X:Cx} {es:List Expr} {b:List D->Ro->Option Ro}:CoeFun (GVs K X es b) fun _=>X.K=K->PGs X es (TGsd K b):=⟨GVs.go⟩
theorem PGs.imp(h:PGs X es t)(w:∀v σ H Q,t' v σ H Q->t v σ H Q):PGs X es t':=fun zv s σ H v u Q I r q=>h zv s σ H v u Q I r (w v σ H Q q)
def bNil:List D->Ro->Option Ro:=fun ds ρ=>match ds with
 | []=>some ρ
 | _=>none
def dh(b:D->Ro->Option Ro)(bs:List D->Ro->Option Ro):List D->Ro->Option Ro:=fun ds ρ=>match ds with
 | d::r=>(b d ρ).bind (bs r)
 | _=>none
theorem jq:GVs K X [] bNil:=GVs.mk fun _=>PGs.imp awx fun vs σ H Q z9=>by
 obtain⟨tg,F,ρ,ds,ρ',G,h,em,q⟩:=z9;cases ds with
 | nil=>cases em;cases h;exact⟨rfl,q σ H F G (Ext.refl _ _ _)⟩
 | cons _ _=>cases em
theorem cg{b:D->Ro->Option Ro}{bs:List D->Ro->Option Ro}(h1:GV K X e b)(h2:GVs K X es bs)(hs:(assignEach (e::es) X.env).map (·.2)=assign e X.env::(assignEach es X.env).map (·.2):=by rfl):GVs K X (e::es) (dh b bs):=GVs.mk fun hk=>PGs.imp (atd (h1 hk) (h2 hk) hs) fun vs σ H Q z9=>by
 obtain⟨tg,F,ρ,ds,ρ',G,h,em,q⟩:=z9;cases h with
 | nil=>cases em
 | @cons d v ds vs hd ht =>
  have em:(b d ρ).bind (bs ds)=some ρ':=em;cases e1:b d ρ with
  | none=>rw[e1] at em;cases em
  | some ρ1 =>
   rw[e1] at em;exact⟨v,vs,rfl,tg,F,ρ,d,ρ1,G,hd,e1,fun σ' H' F' G' x=>⟨tg,F',ρ1,ds,ρ',G',ht.mono x.sub,em,fun σ2 H2 F2 G2 x2=>q σ2 H2 F2 G2 (x.trans x2)⟩⟩
def bTup(n:Nat)(bs:List D->Ro->Option Ro):D->Ro->Option Ro:=fun d ρ=>match d with
 | .tup l=>if l.length=n then bs l ρ else none
 | _=>none
theorem qt(hc:X.calm=true)(h:GVs K X es bs)(hn:(assignEach es X.env).length=n:=by rfl)(hst:(assignEach es X.env).findIdx? (·.1)=none:=by rfl):GV K X (.Tuple es k pos) (bTup n bs):=GV.mk fun hk=>PG.imp (azm hc (h hk) hn hst) fun v σ H Q z9=>by
 obtain⟨tg,F,ρ,d,ρ',G,hd,em,q⟩:=z9;cases hd with
 | @tup a vs ds e hl =>
  have em:(if ds.length=n then bs ds ρ else none)=some ρ':=em
  split at em
  ·rename_i hz;exact⟨a,vs,rfl,SqT.of (G.sub _ _ e),by rw[<-hl.length];exact hz,tg,F,ρ,ds,ρ',G,hl,em,q⟩
  ·cases em
 | _=>cases em
def dAsg(m:M D)(b:D->Ro->Option Ro):Sd:=dM m fun d ρ=>(b d ρ).map fun ρ'=>(.nx,ρ')
theorem au4{m:M D}{b:D->Ro->Option Ro}(h:EV K X e m)(hg:GV K X tgt b)(hs:swapsWithSole [tgt] e pos.line X.env=pure false:=by rfl)(hw:swappedStores [tgt] e X.env=pure none:=by rfl)
  (h1:(assignEach [tgt] X.env).map (·.2)=[assign tgt X.env]:=by rfl):SV K X (.Assign [tgt] e pos) (dAsg m b):=SV.mk fun hk=>PS.imp (au9 (h hk) (hg hk) hs hw h1) fun E σ H ⟨tg,F,ρ,fl,ρ',G,em,q⟩=>w6 em q fun d ρ1 e1 em=>by
 refine⟨tg,F,ρ,d,ρ1,G,e1,fun v H' F' G' x r =>?_⟩
 cases e2:b d ρ1 with
 | none=>rw[e2] at em;cases em
 | some ρ2 =>
  rw[e2] at em;cases em;exact⟨tg,F',ρ1,d,_,G',r,e2,fun σ2 H2 F2 G2 x2=>q σ2 H2 F2 G2 (x.trans x2)⟩
def dPar(i j:Nat)(m:M (List D)):Sd:=dM m fun ds ρ=>match ds with
 | [d,d']=>some (.nx,List.set (List.set ρ i (.val d)) j (.val d'))
 | _=>none
theorem ayz{i j:Nat}{x y:Str}{px py pt:Pos}{kt k2 pt2}{m:M (List D)}(hc:X.calm=true)(hN:X.N.Nodup)(hi:X.N[i]? = some x)(hj:X.N[j]? = some y)(hij:i≠j)
  (hx:X.env.scope.names.lookup x=some .local) (hy:X.env.scope.names.lookup y=some .local) (h:ED K X [a,b] m)
  (hw:swappedStores [.Tuple [.Name x px,.Name y py] kt pt] (.Tuple [a,b] k2 pt2) X.env=pure (some [x,y]):=by rfl)
  (hs:swapsWithSole [.Tuple [.Name x px,.Name y py] kt pt] (.Tuple [a,b] k2 pt2) pos.line X.env=pure false:=by rfl) :
  SV K X (.Assign [.Tuple [.Name x px,.Name y py] kt pt] (.Tuple [a,b] k2 pt2) pos) (dPar i j m):=SV.mk fun hk=>PS.imp (azi hc hN hi hj hij hx hy (h hk) hw hs) fun E σ H ⟨tg,F,ρ,fl,ρ',G,em,q⟩=>w6 em q fun ds ρ1 e1 em=>by
 refine⟨tg,F,ρ,ds,ρ1,G,e1,fun vs H' F' G' x r =>?_⟩
 match ds,em with
 | [d,d'],em =>
  cases em;cases r with
  | @cons _ v _ _ h1 r =>
   cases r with
   | @cons _ v' _ _ h2 r =>
    cases r;obtain⟨G2,x2⟩:=G'.storeV i h1;obtain⟨G3,x3⟩:=G2.storeV j h2;exact⟨v,v',rfl,q _ H' F' G3 ((x.trans x2).trans x3)⟩
theorem Good.mut{tg:Nat->Addr}{F H:Hp}{ρ:Ro}{σ:L2.St}(G:Good K tg F H ρ σ){i:Nat}{t:Option Nat}{l l':List D}{a:Addr}{ys:List V}(e:(ρ:List Sl)[i]? = some (.own t l))(q:σ[i]? = some (some (.ref a)))(h:IsL K F l' ys) :
  Good K tg F (upd H a (.lst ys)) (List.set ρ i (.own t l')) σ/\Ext (Own ρ σ) (Own (List.set ρ i (.own t l')) σ) F H F (upd H a (.lst ys)):=by
 obtain⟨a',vs,e1,hf,hh,hl,ht⟩:=G.sl i _ _ e q;cases e1;have ow:∀j b,Owns (List.set ρ i (.own t l')) σ j b->Owns ρ σ j b:=fun j b ⟨⟨t2,l2,e2⟩,q2⟩=>by
  rw[List.getElem?_set] at e2
  by_cases hj:i=j
  ·subst hj;exact⟨⟨t,l,e⟩,q2⟩
  ·rw[if_neg hj] at e2;exact⟨⟨t2,l2,e2⟩,q2⟩
 have me:Own ρ σ a:=⟨i,⟨t,l,e⟩,q⟩;refine⟨⟨fun b o z =>?_,by rw[List.length_set];exact G.len,fun j s o e2 q2 =>?_,fun j k b w1 w2=>G.inj j k b (ow _ _ w1) (ow _ _ w2)⟩,Same.refl F,fun _ _ z=>.inl z,fun b o z n =>?_,fun b ⟨j,w⟩=>.inl ⟨j,ow j b w⟩,fun b z =>?_⟩
 ·have hb:b≠a:=fun z2=>by
   subst z2;rw[hf] at z;cases z
  rw[dw hb];exact G.sub b o z
 ·rw[List.getElem?_set] at e2
  by_cases hj:i=j
  ·subst hj;rw[if_pos rfl] at e2;split at e2
   ·cases e2;rw[q] at q2;cases q2;exact⟨a,ys,rfl,hf,jh,h,ht⟩
   ·cases e2
  ·rw[if_neg hj] at e2;have z:=G.sl j s o e2 q2;cases s with
   | emp=>trivial
   | val d=>exact z
   | lol ts=>exact z
   | lnk k=>exact z
   | box c fs =>
    obtain⟨b,C,dx,fvs,e1,e2,e3,e4⟩:=z;have hb:b≠a:=fun z2=>by
     subst z2;rw[e3] at hh;cases hh
    exact⟨b,C,dx,fvs,e1,e2,by rw[dw hb];exact e3,e4⟩
   | own t2 l2 =>
    obtain⟨b,ws,e3,hf3,hh3,hl3,ht3⟩:=z;have hb:b≠a:=fun z2=>by
     subst z2;exact hj (G.inj i j b ⟨⟨t,l,e⟩,q⟩ ⟨⟨t2,l2,e2⟩,by rw[q2,e3]⟩)
    exact⟨b,ws,e3,hf3,by rw[dw hb];exact hh3,hl3,ht3⟩
 ·have hb:b≠a:=fun z2=>n (z2▸me)
  rw[dw hb];exact z
 ·by_cases hb:b=a
  ·subst hb;rw[jh] at z;cases z
  ·rw[dw hb] at z;exact z
def mOwn(i:Nat):M (List D):=fun ρ=>match ρ[i]? with
 | some (.own _ l)=>some (.ok l,ρ)
 | _=>none
theorem af0(G:Good K tg F H ρ σ)(em:mOwn i ρ=some (.ok l,ρ')):ρ'=ρ/\∃t a xs,(ρ:List Sl)[i]? = some (.own t l)/\σ[i]? = some (some (.ref a))/\H a=some (.lst xs)/\IsL K F l xs:=by
 unfold mOwn at em;split at em
 ·rename_i t l' e';cases em;obtain⟨o,ho,a,vs,rfl,hf,hh,hl,_⟩:=G.at e';exact⟨rfl,t,a,vs,e',ho,hh,hl⟩
 ·cases em
def adi(i:Nat)(l':List D):M Unit:=fun ρ=>match ρ[i]? with
 | some (.own t _)=>some (.ok (),List.set ρ i (.own t l'))
 | _=>none
def mMut(i:Nat)(g:List D->List D->Option (D×List D))(ms:M (List D)):M D:=(mOwn i).bind fun _=>ms.bind fun ds=>(mOwn i).bind fun l=>(lift (g l ds)).bind fun r=>(adi i r.2).bind fun _=>ret r.1
def MutD(K:Fg9)(r:V->List V->Hp->VK->Prop)(g:List D->List D->Option (D×List D)):Prop :=
 ∀(F H:Hp) (a:Addr) (xs vs:List V) (l ds:List D) (d:D) (l':List D) (Q:VK),Same F H->H a=some (.lst xs)->xs.length<=capS->IsL K F l xs->IsL K F ds vs->g l ds=some (d,l')->(∀v ys,Is K F d v->IsL K F l' ys->Q v (upd H a (.lst ys)))->r (.ref a) vs H Q
theorem aky{tg:Nat->Addr}{F H:Hp}{ρ ρ2:Ro}{σ:L2.St}(G:Good K tg F H ρ σ){i:Nat}{l':List D}{u:Unit}{a:Addr}{ys:List V}(e:adi i l' ρ=some (.ok u,ρ2))(q:σ[i]? = some (some (.ref a)))(h:IsL K F l' ys) :
  Good K tg F (upd H a (.lst ys)) ρ2 σ/\Ext (Own ρ σ) (Own ρ2 σ) F H F (upd H a (.lst ys)):=by
 unfold adi at e;split at e
 ·rename_i t l e';cases e;exact G.mut e' q h
 ·cases e
theorem ae5{i:Nat}{name:Str}{id:String}{r:V->List V->Hp->VK->Prop}{g:List D->List D->Option (D×List D)}{ms:M (List D)}{apos cpos:Pos}(hr:MutD K r g)(slot:Slot "list" name id)(hty:typeOf (.builtin id)=pure (.type "method_descriptor"))(hm:MtR X id r)(ho:PE X a (tVar i))(ha:ED K X (e::es) ms)
  (hbase:attributeBase a name X.env (eval a X.env)=eval a X.env:=by rfl)
  (hfew:((backTo cpos (starEach (e::es) X.env)).all (fun x => !x.1)&&(backToKw cpos (keywordEach [] X.env)).all (fun x=>x.1.isSome)
   && decide ((e::es).length+([]:List Keyword).length+(if ([]:List Keyword).isEmpty then 0 else 1) < 30))=true:=by rfl)
  (hline:(apos.endLine==cpos.line)=true:=by rfl) (hs:starEach (e::es) X.env=(false,eval e X.env)::starEach es X.env:=by rfl) (hplain:(backTo cpos (starEach es X.env)).any (·.1)=false:=by rfl) :
  EV K X (.Call (.Attribute a name apos) (e::es) [] cpos) (mMut i g ms):=EV.mk fun hk=>by
 intro zv s σ H Q I z9;obtain⟨tg,F,ρ,d,ρ',G,em,q⟩:=z9;obtain⟨l0,ρ0,e0,em1⟩:=bj em;obtain⟨ds,ρ1,e1,em2⟩:=bj em1;obtain⟨l,ρ2,e2,em3⟩:=bj em2;obtain⟨x,ρ3,e3,em4⟩:=bj em3;obtain⟨u,ρ4,e4,em5⟩:=bj em4;obtain⟨rfl,rfl⟩:=jy em5;obtain⟨eg,rfl⟩:=jc e3;obtain⟨rfl,t0,b,xs0,es0,hv,hh0,hl0⟩:=af0 G e0;refine aw5 (r:=fun x vs H Q=>(∀b xs,x=.ref b->H b=some (.lst xs)->xs.length<=capS)->r x vs H Q) PySem.F.plainAttrs_list slot hty (fun zv s σ H x xs v us Q I rx rv h=>hm zv s σ H x xs v us Q I rx rv (h fun b xs _ hb =>?_)) ho (ha hk) hbase hfew hline hs hplain zv s σ H Q I ?_
 ·obtain⟨z,_⟩:=I.lstM hb;rw[sizeLine_eq] at z;exact z
 refine⟨_,hv,.inl ⟨rfl,_,SqL.of hh0⟩,tg,F,ρ0,ds,ρ1,G,e1,fun vs H1 F1 G1 x1 r1 cap =>?_⟩
 obtain⟨rfl,t,a',xs,es',hv',hh,hl⟩:=af0 G1 e2;rw[hv] at hv';cases hv';refine hr F1 H1 _ xs vs l ds x.1 x.2 Q G1.sub hh (cap _ _ rfl hh) hl r1 eg fun w ys iw il =>?_
 obtain⟨G2,x2⟩:=aky G1 e4 hv il;exact q w _ F1 G2 (x1.trans x2) iw
def aaf(l ds:List D):Option (D×List D):=match ds with
 | [d]=>if l.length < capS then some (.non,l++[d]) else none
 | _=>none
theorem ud:MutD K apf aaf:=by
 intro F H a xs vs l ds d l' Q g hh hc hl hd eg q
 match ds,eg with
 | [d1],eg =>
  have eg:(if l.length < capS then some (D.non,l++[d1]) else none)=some (d,l'):=eg
  split at eg
  ·rename_i hz;cases eg;cases hd with
   | cons h t =>
    cases t;exact⟨a,xs,_,rfl,rfl,hh,by rw[sizeLine_eq,<-hl.length];exact hz,q _ _ .non (hl.append (.cons h .nil))⟩
  ·cases eg
def dSub(i:Nat)(mi m:M D):Sd:=dM m fun d=>dM (mOwn i) fun _=>dM mi fun k=>dM (mOwn i) fun l=>dM (lift ((asI k).bind (ixN l.length))) fun j=>dM (adi i (l.set j d)) fun _=>dNx
theorem ag0{i:Nat}{mi m:M D}(h:EV K X e m)(ho:PE X a (tVar i))(hi:EV K X b mi)(hs:swapsWithSole [.Subscript a b p] e pos.line X.env=pure false:=by rfl)(hw:swappedStores [.Subscript a b p] e X.env=pure none:=by rfl)
  (h1:(assignEach [.Subscript a b p] X.env).map (·.2)=[assign (.Subscript a b p) X.env]:=by rfl)
  (ha:∀v,assign (.Subscript a b p) X.env v=(do
   let ov <-holding [v] (eval a X.env)
   let iv <-holding [v,ov] (eval b X.env)
   standAt p
   holding [v,ov,iv] (setItem ov iv v)
   release [v,ov,iv] []):=by intro _;rfl):SV K X (.Assign [.Subscript a b p] e pos) (dSub i mi m):=SV.mk fun hk=>PS.imp (au9 (h hk) (azn ho (hi hk) set_list ha) hs hw h1) fun E σ H ⟨tg,F,ρ,fl,ρ',G,em,q⟩ =>
 w6 em q fun d ρ1 e1 em=>w6 em q fun l0 ρ0 e0 em=>w6 em q fun k ρ2 e2 em=>w6 em q fun l ρ3 e3 em=>w6 em q fun j ρ4 e4 em=>w6 em q fun u ρ5 e5 em=>by
 cases em;obtain⟨e6,rfl⟩:=jc e4;refine⟨tg,F,ρ,d,ρ1,G,e1,fun v H1 F1 G1 x1 r1 =>?_⟩
 obtain⟨rfl,t0,a0,xs0,es0,hv,hh0,hl0⟩:=af0 G1 e0;refine⟨_,hv,tg,F1,_,k,ρ2,G1,e2,fun w H2 F2 G2 x2 r2 =>?_⟩
 obtain⟨rfl,t,a1,xs,es1,hv',hh,hl⟩:=af0 G2 e3;rw[hv] at hv';cases hv';cases ek:asI k with
 | none=>rw[ek] at e6;cases e6
 | some n =>
  rw[ek] at e6;obtain rfl:=am9 ek;cases r2;obtain⟨G3,x3⟩:=aky G2 e5 hv (hl.set (r1.mono x2.sub) j);exact⟨_,xs,n,j,rfl,rfl,hh,by rw[<-hl.length];exact e6,q _ _ F2 G3 ((x1.trans x2).trans x3)⟩
end
section
variable{K:Fg9}{X:Cx}{e a b c tgt iter elt:Expr}{es:List Expr}{pos p p2:Pos}{st:Stmt}{ss:List Stmt}
theorem _root_.Mn.ItOf.imp(Z:ItOf J xs S)(h:∀H,S' H->S H):ItOf J xs S':=⟨fun i H q=>Z.go i H (h H q),fun i H x H' q=>Z.yld i H x H' (h H q),fun i H q=>Z.stop i H (h H q)⟩
def Alt(K:Fg9)(F:Hp)(d:D)(x:V)(H H':Hp):Prop:=(H'=H/\Is K F d x)∨∃q vs ds,H q=none/\x=.ref q/\H'=upd H q (.tup vs)/\d=.tup ds/\IsL K F ds vs
structure ItD (K:Fg9) (J:It) (l:List D) (F:Hp):Prop where
 go:∀i H,Same F H->i < l.length->J.go i H
 yld:∀i H x H' d,Same F H->J.yld i H x H'->l[i]? = some d->Alt K F d x H H'
 stop:∀H,Same F H->J.stop l.length H
theorem ItD.of(il:IsL K F l vs)(Z:ItOf J vs fun H2=>Same F H2):ItD K J l F where
 go:=fun i H s hi=>Z.go i H s (by rw[<-il.length];exact hi)
 yld:=fun i H x H' d s y hd=>by
  obtain⟨v,hv,iv⟩:=il.get hd;obtain⟨e,z⟩:=Z.yld i H x H' s y;have:=z (List.getElem?_eq_some_iff.mp hv).1;rw[hv] at this;cases this;exact .inl ⟨e,iv⟩
 stop:=fun H s=>Z.stop _ H s (by rw[<-il.length];exact Nat.le_refl _)
theorem anb(G2:Good K tg F2 H2 ρ2 σ2)(x2:Ext O (Own ρ2 σ2) F H F2 H2)(s2:Same F1 F2)(a:Alt K F1 d x H2 H3) :
  ∃F3,Good K tg F3 H3 ρ2 σ2/\Ext O (Own ρ2 σ2) F H F3 H3/\Same F1 F3/\Is K F3 d x/\Ext (Own ρ2 σ2) (Own ρ2 σ2) F2 H2 F3 H3:=by
 rcases a with⟨rfl,id⟩ | ⟨q,vs,ds,hq,rfl,rfl,rfl,il⟩
 ·exact⟨F2,G2,x2,s2,id.mono s2,Ext.refl _ _ _⟩
 ·have z:=G2.newX hq (.tup vs);exact⟨_,G2.new hq _,x2.trans z,s2.trans z.sub,.tup jh (il.mono (s2.trans z.sub)),z⟩
theorem axz{J:It}{l:List D}{F:Hp}(Z:ItD K J l F){g:TG}{tb:TS}{D':Ends}{σ:L2.St}{H:Hp}(Pv:Nat->L2.St->Hp->Prop)(h0:Pv 0 σ H)(hl:∀i σ H,i<=l.length->Pv i σ H->Same F H)
  (hs:∀i d x σ H H',l[i]? = some d->Pv i σ H->Alt K F d x H H'->g x σ H' fun σ2 H2=>tb { D' with nx:=Pv (i+1),ct:=Pv (i+1),bk:=D'.nx } σ2 H2) (hd:∀σ H,Pv l.length σ H->D'.nx σ H) :
  ∃W:Nat->Nat->L2.St->Hp->Prop,(∃m,W 0 m σ H)/\∀i m σ H,W i m σ H ->
   (J.stop i H/\D'.nx σ H)∨(J.go i H/\∃N:L2.St->Hp->Prop,(∀σ' H',N σ' H'->∃m',m' < m/\W (i+1) m' σ' H')/\∀x H',J.yld i H x H'->g x σ H' fun σ2 H2=>tb { D' with nx:=N,ct:=N,bk:=D'.nx } σ2 H2):=by
 refine⟨fun i m σ H=>m=l.length - i/\i<=l.length/\Pv i σ H,⟨l.length,by simp,Nat.zero_le _,h0⟩,?_⟩
 rintro i m σ H ⟨rfl,hi,p⟩
 have q:=hl i σ H hi p
 by_cases hlt:i < l.length
 ·exact .inr ⟨Z.go i H q hlt,Pv (i+1),fun σ' H' p'=>⟨l.length - (i+1),by omega,rfl,hlt,p'⟩,fun x H' y=>hs i _ x σ H H' (List.getElem?_eq_getElem hlt) p (Z.yld i H x H' _ q y (List.getElem?_eq_getElem hlt))⟩
 ·have e:i=l.length:=by omega
  subst e;exact .inl ⟨Z.stop H q,hd σ H p⟩
theorem aup(Z:ItD K J l F)(Pv:Nat->List V->L2.St->Hp->Prop)(h0:Pv 0 [] σ0 (upd H1 d (.lst [])))
  (hl:∀i ys σ H,i<=l.length->Pv i ys σ H->Same F H/\H d=some (.lst ys))
  (hs:∀i e x ys σ H H' (M:List V->L2.St->Hp->Prop),l[i]? = some e->Pv i ys σ H->Alt K F e x H H'->(∀ys' σ' H',Pv (i+1) ys' σ' H'->M ys' σ' H') ->
   g x σ H' fun σ4 H4=>ti σ4 H4 fun b H5=>if b=true then te σ4 H5 fun y H6=>H6 d=some (.lst ys)/\ys.length < sizeLine/\M (ys++[y]) σ4 (upd H6 d (.lst (ys++[y]))) else M ys σ4 H5)
  (hd:∀ys σ H,Pv l.length ys σ H->Q (.ref d) H):a1o J g ti te Q d σ0 H1:=by
 refine⟨fun i m ys σ H=>m=l.length - i/\i<=l.length/\Pv i ys σ H,⟨l.length,by simp,Nat.zero_le _,h0⟩,?_⟩
 rintro i m ys σ H ⟨rfl,hi,p⟩
 obtain⟨q,e⟩:=hl i ys σ H hi p;refine⟨e,?_⟩
 by_cases hlt:i < l.length
 ·exact .inr ⟨Z.go i H q hlt,fun x H' y=>hs i _ x ys σ H H' (fun ys' σ' H'=>∃m',m' < l.length - i/\(m'=l.length - (i+1)/\i+1<=l.length/\Pv (i+1) ys' σ' H')) (List.getElem?_eq_getElem hlt) p (Z.yld i H x H' _ q y (List.getElem?_eq_getElem hlt)) fun ys' σ' H' p'=>⟨l.length - (i+1),by omega,rfl,hlt,p'⟩⟩
 ·have e:i=l.length:=by omega
  subst e;exact .inl ⟨Z.stop H q,hd ys σ H p⟩
def TIt(K:Fg9)(m:M (List D)):TI:=fun σ H R=>∃tg F ρ l ρ',Good K tg F H ρ σ/\m ρ=some (.ok l,ρ')/\∀J H' F',Good K tg F' H' ρ' σ->Ext (Own ρ σ) (Own ρ' σ) F H F' H'->ItD K J l F'->R J H'
structure IT (K:Fg9) (X:Cx) (tgt iter:Expr) (m:M (List D)):Prop where
 go:X.K=K->PI X tgt iter (TIt K m)
instance {K:Fg9} {X:Cx} {tgt iter:Expr} {m:M (List D)}:CoeFun (IT K X tgt iter m) fun _=>X.K=K->PI X tgt iter (TIt K m):=⟨IT.go⟩
def oh(m:M D):M (List D):=m.bind fun d=>lift (itemsD d)
theorem qx(h:EV K X iter m):IT K X tgt iter (oh m):=IT.mk fun hk=>by
 intro zv s σ H R I z9;obtain⟨tg,F,ρ,l,ρ',G,em,q⟩:=z9;obtain⟨d,ρ1,e1,em⟩:=bj em;obtain⟨e2,rfl⟩:=jc em;have h:=h hk;subst hk;cases d with
 | tup k =>
  cases e2;refine azl h zv s σ H R I ⟨tg,F,ρ,_,_,G,e1,fun v H' F' G' x r =>?_⟩
  cases r with
  | @tup a vs _ e hl=>exact⟨a,rfl,⟨vs,SqT.of (G'.sub _ _ e)⟩,q _ H' F' G' x (.of hl (aua.imp fun H2 g=>SqT.of (g _ _ e)))⟩
 | lst k =>
  cases e2;refine apo h zv s σ H R I ⟨tg,F,ρ,_,_,G,e1,fun v H' F' G' x r =>?_⟩
  cases r with
  | @lst a vs _ e hl=>exact⟨a,rfl,⟨vs,SqL.of (G'.sub _ _ e)⟩,q _ H' F' G' x (.of hl (amm.imp fun H2 g=>SqL.of (g _ _ e)))⟩
 | kst k =>
  cases e2;refine apo h zv s σ H R I ⟨tg,F,ρ,_,_,G,e1,fun v H' F' G' x r =>?_⟩
  cases r with
  | @kst a vs _ e hl=>exact⟨a,rfl,⟨vs,L2.Same.seq G'.sub e⟩,q _ H' F' G' x (.of hl (amm.imp fun H2 g=>L2.Same.seq g e))⟩
 | _=>cases e2
def rangeD(lo:Int)(n:Nat):List D:=(List.range n).map fun i=>D.int (lo+(i:Nat))
theorem ahy(lo:Int)(n:Nat):IsL K F (rangeD lo n) (ups lo n):=by
 have e1:rangeD lo n=((List.range n).map fun i=>lo+((i:Nat):Int)).map D.int:=by unfold rangeD;rw[List.map_map];rfl
 have e2:ups lo n=((List.range n).map fun i=>lo+((i:Nat):Int)).map V.int:=by unfold ups;rw[List.map_map];rfl
 rw[e1,e2];exact afk _
theorem aom(h:j.natAbs < 4611686018427387904) : -2 ^ 62<=j/\j < 2 ^ 62:=by
 have e:(2:Int) ^ 62=4611686018427387904:=by decide
 rw[e];omega
def vf:List D->Option (List D)
 | [.int j]=>if j.natAbs < 4611686018427387904 then some (rangeD 0 j.toNat) else none
 | _=>none
def aig:List D->Option (List D)
 | [.int i,.int j]=>if i.natAbs < 4611686018427387904/\j.natAbs < 4611686018427387904 then some (rangeD i (j - i).toNat) else none
 | _=>none
def mGet{α β:Type}(g:α->Option β)(m:M α):M β:=m.bind fun ds=>lift (g ds)
theorem vp(hg:Gl X "range")(hm:X.mg "range" = none)(h:ED K X [a] m)(hs:starEach [a] X.env=[(false,eval a X.env)]:=by rfl):IT K X tgt (.Call (.Name "range" p) [a] [] pos) (mGet vf m):=IT.mk fun hk=>by
 intro zv s σ H R I z9;obtain⟨tg,F,ρ,l,ρ',G,em,q⟩:=z9;obtain⟨ds,ρ1,e1,em⟩:=bj em;obtain⟨e2,rfl⟩:=jc em;refine apn hg hm (h hk) hs zv s σ H R I ⟨tg,F,ρ,ds,_,G,e1,fun vs H' F' G' x r =>?_⟩
 unfold vf at e2;split at e2
 ·split at e2
  ·rename_i j hc;cases e2;cases r with
   | cons h t =>
    cases t;cases h;exact⟨_,rfl,(aom hc).1,(aom hc).2,q _ H' F' G' x (.of (ahy 0 _) (aml.imp fun _ _=>trivial))⟩
  ·cases e2
 ·cases e2
theorem aqk(hg:Gl X "range")(hm:X.mg "range" = none)(h:ED K X [a,b] m)(hs:starEach [a,b] X.env=[(false,eval a X.env),(false,eval b X.env)]:=by rfl)(hs2:starEach [b] X.env=[(false,eval b X.env)]:=by rfl):IT K X tgt (.Call (.Name "range" p) [a,b] [] pos) (mGet aig m):=IT.mk fun hk=>by
 intro zv s σ H R I z9;obtain⟨tg,F,ρ,l,ρ',G,em,q⟩:=z9;obtain⟨ds,ρ1,e1,em⟩:=bj em;obtain⟨e2,rfl⟩:=jc em;refine apm hg hm (h hk) hs hs2 zv s σ H R I ⟨tg,F,ρ,ds,_,G,e1,fun vs H' F' G' x r =>?_⟩
 unfold aig at e2;split at e2
 ·split at e2
  ·rename_i i j hc;cases e2;cases r with
   | cons h t =>
    cases t with
    | cons h2 t =>
     cases t;cases h;cases h2;exact⟨_,_,rfl,⟨(aom hc.1).1,(aom hc.1).2,(aom hc.2).1,(aom hc.2).2⟩,q _ H' F' G' x (.of (ahy _ _) (aml.imp fun _ _=>trivial))⟩
  ·cases e2
 ·cases e2
noncomputable def forD(b:D->Ro->Option Ro)(g:Sd):List D->Sd
 | [],ρ=>some (.nx,ρ)
 | d::ds,ρ=>match b d ρ with
  | none=>none
  | some ρ1=>match g ρ1 with
   | some (.nx,ρ2)=>forD b g ds ρ2
   | some (.cont,ρ2)=>forD b g ds ρ2
   | some (.brk,ρ2)=>some (.nx,ρ2)
   | some (.ret r,ρ2)=>some (.ret r,ρ2)
   | some (.exc x,ρ2)=>some (.exc x,ρ2)
   | none=>none
def dFor(m:M (List D))(b:D->Ro->Option Ro)(g:Sd):Sd:=dM m (forD b g)
theorem ug{m:M (List D)}{b:D->Ro->Option Ro}{g:Sd}(hp:PassesOwn (model X.prog X.w) X.A X.env X.xe)(hc:X.calm=true)(hi:IT K X tgt iter m)(hg:GV K X tgt b)(hb:SVs K X ss g)
  (hs:∀x,foldedSetIterable iter X.env x=pure x:=by intro _;rfl):SV K X (.For tgt iter ss [] pos) (dFor m b g):=SV.mk fun hk=>PS.imp (azj hp hc (hi hk) (hg hk) (hb hk) hs) fun E σ H ⟨tg,F,ρ,fl,ρ',G,em,q⟩=>w6 em q fun l ρ1 e1 em=>by
 refine⟨tg,F,ρ,l,ρ1,G,e1,fun J H1 F1 G1 x1 Z =>?_⟩
 refine axz Z (fun i σ2 H2=>∃F2 ρ2,Good K tg F2 H2 ρ2 σ2/\Ext (Own ρ σ) (Own ρ2 σ2) F H F2 H2/\Same F1 F2/\forD b g (l.drop i) ρ2=some (fl,ρ')) ⟨F1,ρ1,G1,x1,Same.refl _,em⟩ (fun i σ2 H2 _ ⟨F2,ρ2,G2,_,s2,_⟩=>s2.trans G2.sub) ?_ ?_
 ·rintro i d x σ2 H2' H2 hd ⟨F2',ρ2,G2',x2',s2',em2⟩ al
  obtain⟨F2,G2,x2,s2,id,_⟩:=anb G2' x2' s2' al;have hlt:i < l.length:=(List.getElem?_eq_some_iff.mp hd).1;have ed:l[i]=d:=(List.getElem?_eq_some_iff.mp hd).2;rw[List.drop_eq_getElem_cons hlt,ed] at em2;unfold forD at em2;split at em2
  ·cases em2
  ·rename_i ρ3 e3;refine⟨tg,F2,ρ2,d,ρ3,G2,id,e3,fun σ3 H3 F3 G3 x3 =>?_⟩
   have again:∀{ρ4:Ro},forD b g (l.drop (i+1)) ρ4=some (fl,ρ')->∀σ' H' F',Good K tg F' H' ρ4 σ'->Ext (Own ρ3 σ3) (Own ρ4 σ') F3 H3 F' H' ->
     ∃F2 ρ2,Good K tg F2 H' ρ2 σ'/\Ext (Own ρ σ) (Own ρ2 σ') F H F2 H'/\Same F1 F2/\forD b g (l.drop (i+1)) ρ2=some (fl,ρ') :=
    fun{ρ4} e4 σ' H' F' G' x'=>⟨F',ρ4,G',(x2.trans x3).trans x',(s2.trans x3.sub).trans x'.sub,e4⟩
   split at em2
   ·rename_i ρ4 e4;exact⟨tg,F3,ρ3,.nx,ρ4,G3,e4,again em2⟩
   ·rename_i ρ4 e4;exact⟨tg,F3,ρ3,.cont,ρ4,G3,e4,again em2⟩
   ·rename_i ρ4 e4;cases em2;exact⟨tg,F3,ρ3,.brk,_,G3,e4,fun σ' H' F' G' x'=>q σ' H' F' G' ((x2.trans x3).trans x')⟩
   ·rename_i r ρ4 e4;cases em2;exact⟨tg,F3,ρ3,.ret r,_,G3,e4,fun v σ' H' F' G' x' rr=>q v σ' H' F' G' ((x2.trans x3).trans x') (uo (x2.trans x3) rr)⟩
   ·cases em2;exact(show False from q).elim
   ·cases em2
 ·rintro σ2 H2 ⟨F2,ρ2,G2,x2,s2,em2⟩
  rw[List.drop_eq_nil_of_le (Nat.le_refl _)] at em2;cases em2;exact q σ2 H2 F2 G2 x2
noncomputable def whileD(c:M Bool)(g:Sd):Nat->Sd
 | 0,_=>none
 | n+1,ρ=>match c ρ with
  | some (.ok true,ρ1)=>match g ρ1 with
   | some (.nx,ρ2)=>whileD c g n ρ2
   | some (.cont,ρ2)=>whileD c g n ρ2
   | some (.brk,ρ2)=>some (.nx,ρ2)
   | some (.ret r,ρ2)=>some (.ret r,ρ2)
   | some (.exc x,ρ2)=>some (.exc x,ρ2)
   | none=>none
  | some (.ok false,ρ1)=>some (.nx,ρ1)
  | some (.exc x,ρ1)=>some (.exc x,ρ1)
  | none=>none
theorem afa(n:Nat)(hp:PassesOwn (model X.prog X.w) X.A X.env X.xe)(hc:ET K X c m)(hb:SVs K X ss g):SV K X (.While c ss [] pos) (whileD m g n):=SV.mk fun hk=>PS.imp (ata hp (hc hk) (hb hk)) fun E σ H z9=>by
 obtain⟨tg,F,ρ,fl,ρ',G,em,q⟩:=z9;refine⟨fun k σ2 H2=>∃F2 ρ2,Good K tg F2 H2 ρ2 σ2/\Ext (Own ρ σ) (Own ρ2 σ2) F H F2 H2/\whileD m g k ρ2=some (fl,ρ'),⟨n,F,ρ,G,Ext.refl _ _ _,em⟩,?_⟩
 rintro k σ2 H2 ⟨F2,ρ2,G2,x2,em2⟩
 cases k with
 | zero=>cases em2
 | succ k =>
  unfold whileD at em2;split at em2
  ·rename_i ρ3 e3;refine⟨tg,F2,ρ2,true,ρ3,G2,e3,fun H3 F3 G3 x3=>iteT ?_⟩
   refine⟨fun σ' H'=>∃F2 ρ2,Good K tg F2 H' ρ2 σ'/\Ext (Own ρ σ) (Own ρ2 σ') F H F2 H'/\whileD m g k ρ2=some (fl,ρ'),fun σ' H' h=>⟨k,Nat.lt_succ_self k,h⟩,?_⟩
   split at em2
   ·rename_i ρ4 e4;exact⟨tg,F3,ρ3,.nx,ρ4,G3,e4,fun σ' H' F' G' x'=>⟨F',ρ4,G',(x2.trans x3).trans x',em2⟩⟩
   ·rename_i ρ4 e4;exact⟨tg,F3,ρ3,.cont,ρ4,G3,e4,fun σ' H' F' G' x'=>⟨F',ρ4,G',(x2.trans x3).trans x',em2⟩⟩
   ·rename_i ρ4 e4;cases em2;exact⟨tg,F3,ρ3,.brk,_,G3,e4,fun σ' H' F' G' x'=>q σ' H' F' G' ((x2.trans x3).trans x')⟩
   ·rename_i r ρ4 e4;cases em2;exact⟨tg,F3,ρ3,.ret r,_,G3,e4,fun v σ' H' F' G' x' rr=>q v σ' H' F' G' ((x2.trans x3).trans x') (uo (x2.trans x3) rr)⟩
   ·cases em2;exact(show False from q).elim
   ·cases em2
  ·rename_i ρ3 e3;cases em2;exact⟨tg,F2,ρ2,false,_,G2,e3,fun H3 F3 G3 x3=>iteF (q σ2 H3 F3 G3 (x2.trans x3))⟩
  ·cases em2;exact(show False from q).elim
  ·cases em2
end
def aid(ρ:Ro)(i:Nat)(o:Option Nat)(d:Option D):Sl:=match o with
 | some j=>match ρ[j]? with
  | some (.val d)=>.val d
  | some (.own _ l)=>.own (some i) l
  | _=>.emp
 | none=>match d with
  | some d=>.val d
  | none=>.emp
def lend(ρ:Ro)(js:List (Option Nat))(ds:List (Option D)):Ro:=(List.zip js ds).mapIdx fun i p=>aid ρ i p.1 p.2
def okJs(ρ:Ro):List (Option Nat)->Bool
 | []=>true
 | none::r=>okJs ρ r
 | some j::r=>(match ρ[j]? with
  | some (.own _ _) => !r.contains (some j)
  | _=>true)&&okJs ρ r
theorem aib:∀{js:List (Option Nat)} {i i' j:Nat} {t:Option Nat} {l:List D},okJs ρ js=true->js[i]? = some (some j)->js[i']? = some (some j)->ρ[j]? = some (.own t l)->i=i'
 | [],_,_,_,_,_,_,h,_,_=>by simp at h
 | o::r,0,0,_,_,_,_,_,_,_=>rfl
 | o::r,0,i'+1,j,t,l,hk,h,h',e=>by
  simp at h h';subst h;unfold okJs at hk;rw[e,Bool.and_eq_true] at hk;have:=List.mem_of_getElem? h';simp[this] at hk
 | o::r,i+1,0,j,t,l,hk,h,h',e=>by
  simp at h h';subst h';unfold okJs at hk;rw[e,Bool.and_eq_true] at hk;have:=List.mem_of_getElem? h;simp[this] at hk
 | none::r,i+1,i'+1,j,t,l,hk,h,h',e=>by
  rw[aib (js:=r) (i:=i) (i':=i') (j:=j) (by unfold okJs at hk;exact hk) (by simpa using h) (by simpa using h') e]
 | some k::r,i+1,i'+1,j,t,l,hk,h,h',e=>by
  unfold okJs at hk;rw[Bool.and_eq_true] at hk;rw[aib (js:=r) (i:=i) (i':=i') (j:=j) hk.2 (by simpa using h) (by simpa using h') e]
def putS(js:List (Option Nat))(ps:Ro)(j:Nat)(s:Sl):Sl:=match js.findIdx? (fun o=>o==some j) with
 | none=>s
 | some i=>match s with
  | .own t _=>match ps[i]? with
   | some (.own (some i') l')=>if i'=i then .own t l' else .emp
   | _=>.emp
  | s=>s
def putB(ρ:Ro)(js:List (Option Nat))(ps:Ro):Ro:=ρ.mapIdx fun j s=>putS js ps j s
def tgOf(τ:L2.St)(i:Nat):Addr:=match τ[i]? with
 | some (some (.ref a))=>a
 | _=>0
section
variable{K:Fg9}{tg:Nat->Addr}{F H F' H':Hp}{ρ ps:Ro}{σ τ:L2.St}{js:List (Option Nat)}{ds:List (Option D)}{O':Addr->Prop}
theorem amg(h:(lend ρ js ds:List Sl)[i]? = some s):∃o d,js[i]? = some o/\ds[i]? = some d/\s=aid ρ i o d:=by
 unfold lend at h;rw[List.getElem?_mapIdx] at h;cases e:(List.zip js ds)[i]? with
 | none=>rw[e] at h;cases h
 | some p =>
  rw[e] at h;cases h;rw[List.getElem?_zip_eq_some] at e;exact⟨p.1,p.2,e.1,e.2,rfl⟩
theorem atx{i:Nat}{t:Option Nat}{l:List D}(h:(lend ρ js ds:List Sl)[i]? = some (.own t l)):∃j t',js[i]? = some (some j)/\ρ[j]? = some (.own t' l)/\t=some i:=by
 obtain⟨o,d,e1,e2,e3⟩:=amg h;unfold aid at e3;cases o with
 | none=>cases d <;> cases e3
 | some j =>
  simp only at e3;cases e:ρ[j]? with
  | none=>rw[e] at e3;cases e3
  | some s =>
   rw[e] at e3;cases s with
   | emp=>cases e3
   | val _=>cases e3
   | box _ _=>cases e3
   | lol _=>cases e3
   | lnk _=>cases e3
   | own t' l'=>cases e3;exact⟨j,t',e1,e,rfl⟩
structure Lent (K:Fg9) (F:Hp) (σ τ:L2.St) (js:List (Option Nat)) (ds:List (Option D)):Prop where
 l1:τ.length=js.length
 l2:ds.length=js.length
 h1:∀(i j:Nat) (o:Option V),js[i]? = some (some j)->σ[j]? = some o->τ[i]? = some o
 h2:∀(i:Nat) (d:D),js[i]? = some none->ds[i]? = some (some d)->∃v,τ[i]? = some (some v)/\Is K F d v
theorem Good.σ_at(G:Good K tg F H ρ σ){j:Nat}{s:Sl}(e:(ρ:List Sl)[j]? = some s):∃o,σ[j]? = some o:=by
 obtain⟨o,h,_⟩:=G.at e;exact⟨o,h⟩
theorem acd(G:Good K tg F H ρ σ)(L:Lent K F σ τ js ds){i:Nat}{a:Addr}(h:Owns (lend ρ js ds) τ i a):∃j,js[i]? = some (some j)/\Owns ρ σ j a:=by
 obtain⟨⟨t,l,e⟩,q⟩:=h;obtain⟨j,t',e1,e2,_⟩:=atx e;obtain⟨o,ho⟩:=G.σ_at e2;have:=L.h1 i j o e1 ho;rw[q] at this;cases this;exact⟨j,e1,⟨t',l,e2⟩,ho⟩
theorem ajj(G:Good K tg F H ρ σ)(hk:okJs ρ js=true)(L:Lent K F σ τ js ds):Good K (tgOf τ) F H (lend ρ js ds) τ where
 sub:=G.sub
 len:=by
  unfold lend;rw[List.length_mapIdx,List.length_zip,L.l2,L.l1];omega
 sl:=fun i s o e q=>by
  obtain⟨oj,d,e1,e2,rfl⟩:=amg e;unfold aid;cases oj with
  | none =>
   cases d with
   | none=>trivial
   | some d =>
    obtain⟨v,h1,h2⟩:=L.h2 i d e1 e2;rw[q] at h1;cases h1;exact⟨v,rfl,h2⟩
  | some j =>
   simp only;cases e3:ρ[j]? with
   | none=>trivial
   | some s =>
    obtain⟨o',ho,w⟩:=G.at e3;have:=L.h1 i j o' e1 ho;rw[q] at this;cases this;cases s with
    | emp=>trivial
    | val d=>exact w
    | box _ _=>trivial
    | lol _=>trivial
    | lnk _=>trivial
    | own t l =>
     obtain⟨a,vs,rfl,hf,hh,hl,_⟩:=w;refine⟨a,vs,rfl,hf,hh,hl,fun k e =>?_⟩
     cases e;unfold tgOf;rw[q]
 inj:=fun i i' a w w'=>by
  obtain⟨j,e,v⟩:=acd G L w;obtain⟨j',e',v'⟩:=acd G L w';have:=G.inj j j' a v v';subst this;obtain⟨⟨t,l,z⟩,_⟩:=v;exact aib hk e e' z
structure Fin (K:Fg9) (F' H':Hp) (τ:L2.St) (ps:Ro) (O':Addr->Prop):Prop where
 at':∀(i:Nat) (l:List D),(ps:List Sl)[i]? = some (.own (some i) l)->O' (tgOf τ i)/\F' (tgOf τ i)=none/\∃vs,H' (tgOf τ i)=some (.lst vs)/\IsL K F' l vs
theorem ahz(h:(putB ρ js ps:List Sl)[j]? = some s):∃s0:Sl,(ρ:List Sl)[j]? = some s0/\((∃t l,s0=Sl.own t l/\∃i:Nat,js[i]? = some (some j)/\((∃l',(ps:List Sl)[i]? = some (Sl.own (some i) l')/\s=Sl.own t l')∨s=Sl.emp)) ∨
  (s=s0/\∀t l,s0=Sl.own t l->∀i:Nat,js[i]? ≠ some (some j))):=by
 unfold putB at h;rw[List.getElem?_mapIdx] at h;cases e:(ρ:List Sl)[j]? with
 | none=>rw[e] at h;cases h
 | some s0 =>
  rw[e] at h;refine⟨s0,rfl,?_⟩;have h:putS js ps j s0=s:=Option.some.inj h;unfold putS at h;cases ei:js.findIdx? (fun o=>o==some j) with
  | none =>
   rw[ei] at h;have h:s0=s:=h;refine .inr ⟨h.symm,fun _ _ _ i z =>?_⟩
   rw[List.findIdx?_eq_none_iff] at ei;have:=ei _ (List.mem_of_getElem? z);simp at this
  | some i =>
   rw[ei] at h;cases s0 with
   | emp=>exact .inr ⟨(show Sl.emp=s from h).symm,fun t l z=>by cases z⟩
   | val d=>exact .inr ⟨(show Sl.val d=s from h).symm,fun t l z=>by cases z⟩
   | box c fs=>exact .inr ⟨(show Sl.box c fs=s from h).symm,fun t l z=>by cases z⟩
   | lol ts=>exact .inr ⟨(show Sl.lol ts=s from h).symm,fun t l z=>by cases z⟩
   | lnk k=>exact .inr ⟨(show Sl.lnk k=s from h).symm,fun t l z=>by cases z⟩
   | own t l =>
    refine .inl ⟨t,l,rfl,i,?_,?_⟩
    ·obtain⟨hi,hb,_⟩:=List.findIdx?_eq_some_iff_getElem.mp ei;rw[List.getElem?_eq_getElem hi];exact congrArg some (eq_of_beq hb)
    ·have h:(match (ps:List Sl)[i]? with
      | some (.own (some i') l')=>if i'=i then Sl.own t l' else .emp
      | _=>.emp)=s:=h
     cases ep:(ps:List Sl)[i]? with
     | none=>rw[ep] at h;exact .inr h.symm
     | some sp =>
      rw[ep] at h;cases sp with
      | emp=>exact .inr h.symm
      | val _=>exact .inr h.symm
      | box _ _=>exact .inr h.symm
      | lol _=>exact .inr h.symm
      | lnk _=>exact .inr h.symm
      | own t' l' =>
       cases t' with
       | none=>exact .inr h.symm
       | some i' =>
        have h2:(if i'=i then Sl.own t l' else .emp)=s:=h
        by_cases z:i'=i
        ·subst z;rw[if_pos rfl] at h2;exact .inl ⟨l',rfl,h2.symm⟩
        ·rw[if_neg z] at h2;exact .inr h2.symm
theorem ad1(h:Owns (putB ρ js ps) σ j a):Owns ρ σ j a:=by
 obtain⟨⟨t,l,e⟩,q⟩:=h;obtain⟨s0,e0,h | ⟨rfl,_⟩⟩:=ahz e
 ·obtain⟨t',l',rfl,i,_,⟨l2,_,z⟩ | z⟩:=h
  ·exact⟨⟨t',l',e0⟩,q⟩
  ·cases z
 ·exact⟨⟨t,l,e0⟩,q⟩
theorem akc(G:Good K tg F H ρ σ)(L:Lent K F σ τ js ds)(x:Ext (Own (lend ρ js ds) τ) O' F H F' H')(s':Same F' H')(fin:Fin K F' H' τ ps O'):Good K tg F' H' (putB ρ js ps) σ where
 sub:=s'
 len:=by
  unfold putB;rw[List.length_mapIdx];exact G.len
 sl:=fun j s o e q=>by
  obtain⟨s0,e0,h | ⟨rfl,hn⟩⟩:=ahz e
  ·obtain⟨t,l,rfl,i,ei,⟨l',ep,rfl⟩ | rfl⟩:=h
   ·obtain⟨a,vs,rfl,hf,hh,hl,ht⟩:=G.sl j _ _ e0 q;obtain⟨_,hf',ws,hh',hl'⟩:=fin.at' i l' ep;have:=L.h1 i j _ ei q;have et:tgOf τ i=a:=by
     unfold tgOf;rw[this]
    rw[et] at hf' hh';exact⟨a,ws,rfl,hf',hh',hl',ht⟩
   ·trivial
  ·have w:=G.sl j _ _ e0 q;cases s with
   | emp=>trivial
   | val d =>
    obtain⟨v,h1,h2⟩:=w;exact⟨v,h1,h2.mono x.sub⟩
   | lol ts =>
    obtain⟨a,h1,h2⟩:=w;exact⟨a,h1,x.sub _ _ h2⟩
   | lnk k=>exact w
   | box c fs =>
    obtain⟨a,C,dx,fvs,e1,e2,e3,e4,e7,e5,e6⟩:=w;have no:¬Own (lend ρ js ds) τ a:=fun⟨i,z⟩=>by
     obtain⟨j',_,v⟩:=acd G L z;obtain⟨_,vs,hv⟩:=G.ownAt ⟨j',v⟩;rw[e3] at hv;cases hv
    have hf:F' a=none:=by
     cases z:F' a with
     | none=>rfl
     | some o =>
      rcases x.new a o z with z | z | z
      ·rw[e2] at z;cases z
      ·rw[e3] at z;cases z
      ·exact absurd z no
    exact⟨a,C,dx,fvs,e1,hf,x.keep a _ e3 no,e4,e7,e5,fun f d h=>(e6 f d h).imp fun v h=>⟨h.1,h.2.mono x.sub⟩⟩
   | own t l =>
    obtain⟨a,vs,rfl,hf,hh,hl,ht⟩:=w;have no:¬Own (lend ρ js ds) τ a:=fun⟨i,z⟩=>by
     obtain⟨j',e1,v⟩:=acd G L z;have:=G.inj j' j a v ⟨⟨t,l,e0⟩,q⟩;subst this;exact hn t l rfl i e1
    refine⟨a,vs,rfl,?_,x.keep a _ hh no,hl.mono x.sub,ht⟩;cases z:F' a with
    | none=>rfl
    | some o =>
     rcases x.new a o z with z | z | z
     ·rw[hf] at z;cases z
     ·rw[hh] at z;cases z
     ·exact absurd z no
 inj:=fun i j a w w'=>G.inj i j a (ad1 w) (ad1 w')
theorem aaw(G:Good K tg F H ρ σ)(L:Lent K F σ τ js ds)(h:Own (lend ρ js ds) τ a):Own ρ σ a:=by
 obtain⟨i,h⟩:=h;obtain⟨j,_,h⟩:=acd G L h;exact⟨j,h⟩
theorem am7(G:Good K tg F H ρ σ)(L:Lent K F σ τ js ds)(x:Ext (Own (lend ρ js ds) τ) O' F H F' H'):Ext (Own ρ σ) (Own (putB ρ js ps) σ) F H F' H' where
 sub:=x.sub
 new:=fun a o e=>by
  rcases x.new a o e with z | z | z
  ·exact .inl z
  ·exact .inr (.inl z)
  ·exact .inr (.inr (aaw G L z))
 keep:=fun a o e n=>x.keep a o e fun z=>n (aaw G L z)
 own:=fun a ⟨j,w⟩=>.inl ⟨j,ad1 w⟩
 there:=x.there
theorem ar6(G:Good K tg F H ρ σ)(L:Lent K F σ τ js ds)(fin:Fin K F' H' τ ps O')(ha:H a=none∨Own (lend ρ js ds) τ a)(hn:¬O' a):¬Own (putB ρ js ps) σ a:=fun⟨j,w⟩=>by
 have v:=ad1 w;obtain⟨⟨t,l2,e⟩,q⟩:=w;obtain⟨s0,e0,z | ⟨rfl,hno⟩⟩:=ahz e
 ·obtain⟨t',l',rfl,i,ei,⟨l3,ep,z⟩ | z⟩:=z
  ·have et:tgOf τ i=a:=by
    unfold tgOf;rw[L.h1 i j _ ei q]
   have:=(fin.at' i l3 ep).1;rw[et] at this;exact hn this
  ·cases z
 ·rcases ha with ha | ⟨i,z⟩
  ·obtain⟨a',vs',ea,_,e2,_⟩:=G.sl j _ _ e0 q;cases ea;rw[ha] at e2;cases e2
  ·obtain⟨j',e1,v'⟩:=acd G L z;have:=G.inj j' j a v' v;subst this;exact hno t l2 rfl i e1
theorem auz(G:Good K tg F H ρ σ)(L:Lent K F σ τ js ds)(fin:Fin K F' H' τ ps O')(h:relR K r v H (Own (lend ρ js ds) τ) F' H' O'):relR K r v H (Own ρ σ) F' H' (Own (putB ρ js ps) σ):=by
 cases r with
 | v d=>exact h
 | fr l =>
  obtain⟨a,vs,rfl,ha,hf,hh,hl,hn⟩:=h;exact⟨a,vs,rfl,ha.imp id (aaw G L),hf,hh,hl,ar6 G L fin ha hn⟩
 | tf d l =>
  obtain⟨t,u,a,vs,rfl,ht,hd,ha,hf,hh,hl,hn⟩:=h;exact⟨t,u,a,vs,rfl,ht,hd,ha.imp id (aaw G L),hf,hh,hl,ar6 G L fin ha hn⟩
end
abbrev Fd:=Ro->Option (Out Rv×Ro)
noncomputable def fnD(nl np:Nat)(g:Sd):Fd:=fun as=>match g (as++List.replicate (nl - np) .emp) with
 | some (.ret r,ρ)=>some (.ok r,ρ.take np)
 | some (.nx,ρ)=>some (.ok (.v .non),ρ.take np)
 | some (.exc x,ρ)=>some (.exc x,ρ.take np)
 | _=>none
def spOf(K:Fg9)(n:Nat)(f:Fd):Sp:=fun vs H Q _=>vs.length=n/\∃F as r ps,Good K (tgOf (vs.map some)) F H as (vs.map some)/\f as=some (.ok r,ps) /\
 ∀v H' F' O',Same F' H'->Ext (Own as (vs.map some)) O' F H F' H'->Fin K F' H' (vs.map some) ps O'->relR K r v H (Own as (vs.map some)) F' H' O'->Q v H'
section
variable{K:Fg9}
theorem aw7(hl:as.length=τ.length)(h:Own (as++List.replicate n .emp) (τ++List.replicate n none) a):Own as τ a:=by
 obtain⟨i,⟨t,l,e⟩,q⟩:=h
 by_cases hi:i < as.length
 ·rw[List.getElem?_append_left hi] at e;rw[List.getElem?_append_left (by omega)] at q
  exact⟨i,⟨t,l,e⟩,q⟩
 ·rw[List.getElem?_append_right (by omega),List.getElem?_replicate] at e
  split at e <;> cases e
theorem atj(hl:as.length=τ.length)(h:Own as τ a):Own (as++List.replicate n .emp) (τ++List.replicate n none) a:=by
 obtain⟨i,⟨t,l,e⟩,q⟩:=h;have hi:=(List.getElem?_eq_some_iff.mp e).1;exact⟨i,⟨t,l,by rw[List.getElem?_append_left hi];exact e⟩,by rw[List.getElem?_append_left (by omega)];exact q⟩
theorem ab9(hl:as.length=τ.length):Own (as++List.replicate n .emp) (τ++List.replicate n none)=Own as τ:=funext fun a=>propext ⟨aw7 hl,atj hl⟩
theorem Good.app(G:Good K tg F H as τ)(n:Nat):Good K tg F H (as++List.replicate n .emp) (τ++List.replicate n none) where
 sub:=G.sub
 len:=by rw[List.length_append,List.length_append,G.len,List.length_replicate,List.length_replicate]
 sl:=fun i s o e q=>by
  have hl:=G.len
  by_cases hi:i < as.length
  ·rw[List.getElem?_append_left hi] at e;rw[List.getElem?_append_left (by omega)] at q
   exact G.sl i s o e q
  ·rw[List.getElem?_append_right (by omega),List.getElem?_replicate] at e
   split at e
   ·cases e;trivial
   ·cases e
 inj:=fun i j a w w'=>by
  have hl:=G.len;have f:∀k,Owns (as++List.replicate n .emp) (τ++List.replicate n none) k a->Owns as τ k a:=fun k ⟨⟨t,l,e⟩,q⟩=>by
   by_cases hi:k < as.length
   ·rw[List.getElem?_append_left hi] at e;rw[List.getElem?_append_left (by omega)] at q
    exact⟨⟨t,l,e⟩,q⟩
   ·rw[List.getElem?_append_right (by omega),List.getElem?_replicate] at e
    split at e <;> cases e
  exact G.inj i j a (f i w) (f j w')
theorem a5d{P:Program}{w:World}{mg:Str->Option Value}{base:Heap}{x qual:Str}{st:Stmt}{f:Addr}{fd:FuncData}{N ps:List Str}{k:Nat}{g:Sd}(F:Fun K x qual st f fd)(S:FnScope N ps (ao st))
  (body:∀(cdv:Value) (A:Around) (outer:List Env) (s:Shared) (H:Hp) (E:XK),Room k (A.deeper (envOfC qual (ao st) s.heap.objs.size f cdv))->SVs K (cxOf CX0 P w K mg base N qual (ao st) f cdv A outer s H E).nox (jr st) g) :
  FnOk P w K mg base CX0 (k+1) f fd ps (spOf K ps.length (fnD N.length ps.length g)):=by
 refine F.ok S (fun vs H Q E h=>h.1) (fun cdv A outer s H vs Q E hr h=>⟨_,body cdv A outer s H E hr rfl,?_⟩)
 obtain⟨hn,F,as,r,ps',G,em,q⟩:=h;have hl:as.length=(vs.map some).length:=G.len;have G1:=G.app (N.length - vs.length);have es:start N vs=vs.map some++List.replicate (N.length - vs.length) none:=rfl;rw[es];unfold fnD at em;rw[<-hn] at em;have fin:∀{ρ':Ro} {σ':L2.St} {F' H':Hp},Good K (tgOf (vs.map some)) F' H' ρ' σ'->Fin K F' H' (vs.map some) (ρ'.take vs.length) (Own ρ' σ'):=fun{ρ' σ' F' H'} G'=>⟨fun i l e=>by
  have hi:=(List.getElem?_eq_some_iff.mp e).1;rw[List.length_take] at hi;rw[List.getElem?_take_of_lt (by omega)] at e
  obtain⟨o,ho,a,ws,rfl,hf,hh,hl,ht⟩:=G'.at e;rw[ht i rfl];exact⟨⟨i,⟨_,_,e⟩,ho⟩,hf,ws,hh,hl⟩⟩
 split at em
 ·rename_i r' ρ' e;cases em;refine⟨_,F,_,.ret r,ρ',G1,e,fun v σ' H' F' G' x' rr =>?_⟩
  rw[ab9 hl] at x' rr;exact q v H' F' (Own ρ' σ') G'.sub x' (fin G') rr
 ·rename_i ρ' e;cases em;refine⟨_,F,_,.nx,ρ',G1,e,fun σ' H' F' G' x' =>?_⟩
  rw[ab9 hl] at x';exact q .non H' F' (Own ρ' σ') G'.sub x' (fin G') .non
 ·cases em
 ·cases em
end
section
variable{K:Fg9}{X:Cx}{e a b c tgt iter elt:Expr}{es:List Expr}{pos p p2:Pos}
inductive AR (K:Fg9) (F:Hp) (σ:L2.St):List (Option Nat)->List (Option D)->List V->Prop
 | nil:AR K F σ [] [] []
 | ex {d:D} {v:V} {js:List (Option Nat)} {ds:List (Option D)} {vs:List V} (h:Is K F d v) (t:AR K F σ js ds vs):AR K F σ (none::js) (some d::ds) (v::vs)
 | nm {j:Nat} {v:V} {js:List (Option Nat)} {ds:List (Option D)} {vs:List V} (h:σ[j]? = some (some v)) (t:AR K F σ js ds vs):AR K F σ (some j::js) (none::ds) (v::vs)
theorem AR.lent:∀{js:List (Option Nat)} {ds:List (Option D)} {vs:List V},AR K F σ js ds vs->Lent K F σ (vs.map some) js ds
 | _,_,_,.nil=>⟨rfl,rfl,fun i j o h=>by simp at h,fun i d h=>by simp at h⟩
 | _,_,_,.ex h t=>by
  have L:=t.lent;refine⟨by simp[by simpa using L.l1],by simp[L.l2],fun i j o h q =>?_,fun i d h q =>?_⟩
  ·cases i with
   | zero=>simp at h
   | succ i=>simpa using L.h1 i j o (by simpa using h) q
  ·cases i with
   | zero=>simp at q;subst q;exact⟨_,rfl,‹_›⟩
   | succ i=>simpa using L.h2 i d (by simpa using h) (by simpa using q)
 | _,_,_,.nm h t=>by
  have L:=t.lent;refine⟨by simp[by simpa using L.l1],by simp[L.l2],fun i j o h' q =>?_,fun i d h' q =>?_⟩
  ·cases i with
   | zero =>
    simp at h';subst h';rw[h] at q;cases q;rfl
   | succ i=>simpa using L.h1 i j o (by simpa using h') q
  ·cases i with
   | zero=>simp at h'
   | succ i=>simpa using L.h2 i d (by simpa using h') (by simpa using q)
theorem AR.length(h:AR K F σ js ds vs):vs.length=js.length:=by
 have:=h.lent.l1
 simpa using this
def TAg(K:Fg9)(js:List (Option Nat))(m:M (List (Option D))):TA:=fun σ H Q=>∃tg F ρ ds ρ',Good K tg F H ρ σ/\m ρ=some (.ok ds,ρ')/\∀vs H' F',Good K tg F' H' ρ' σ->Ext (Own ρ σ) (Own ρ' σ) F H F' H'->AR K F' σ js ds vs->Q vs H'
structure EG (K:Fg9) (X:Cx) (es:List Expr) (js:List (Option Nat)) (m:M (List (Option D))):Prop where
 go:X.K=K->PA X es (TAg K js m)
instance {K:Fg9} {X:Cx} {es:List Expr} {js:List (Option Nat)} {m:M (List (Option D))}:CoeFun (EG K X es js m) fun _=>X.K=K->PA X es (TAg K js m):=⟨EG.go⟩
def ig:M (List (Option D)):=ret []
def di(m:M D)(ms:M (List (Option D))):M (List (Option D)):=m.bind fun d=>ms.bind fun ds=>ret (some d::ds)
def gj(j:Nat)(ms:M (List (Option D))):M (List (Option D)):=(dq j).bind fun _=>ms.bind fun ds=>ret (none::ds)
theorem fc:EG K X [] [] ig:=EG.mk fun _=>PA.imp aeq fun σ H Q z9=>by
 obtain⟨tg,F,ρ,ds,ρ',G,em,q⟩:=z9;obtain⟨rfl,rfl⟩:=jy em;exact q [] H F G (Ext.refl _ _ _) .nil
theorem eg_v(h:EV K X e m)(t:EG K X es js ms)(hs:starEach (e::es) X.env=(false,eval e X.env)::starEach es X.env:=by rfl):EG K X (e::es) (none::js) (di m ms):=EG.mk fun hk=>PA.imp (yl (h hk) (t hk) hs) fun σ H Q z9=>by
 obtain⟨tg,F,ρ,ds,ρ',G,em,q⟩:=z9;obtain⟨d,ρ1,e1,em⟩:=bj em;obtain⟨r,ρ2,e2,em⟩:=bj em;obtain⟨rfl,rfl⟩:=jy em;exact⟨tg,F,ρ,d,ρ1,G,e1,fun v H1 F1 G1 x1 r1=>⟨tg,F1,ρ1,r,_,G1,e2,fun vs H2 F2 G2 x2 r2=>q _ H2 F2 G2 (x1.trans x2) (.ex (r1.mono x2.sub) r2)⟩⟩
theorem eg_n(h:PE X e (tVar j))(t:EG K X es js ms)(hs:starEach (e::es) X.env=(false,eval e X.env)::starEach es X.env:=by rfl):EG K X (e::es) (some j::js) (gj j ms):=EG.mk fun hk=>PA.imp (yl h (t hk) hs) fun σ H Q z9=>by
 obtain⟨tg,F,ρ,ds,ρ',G,em,q⟩:=z9;obtain⟨d0,ρ0,e0,em⟩:=bj em;obtain⟨r,ρ2,e2,em⟩:=bj em;obtain⟨rfl,rfl⟩:=jy em;obtain⟨rfl,v,hv,_⟩:=yg G e0;exact⟨v,hv,tg,F,ρ0,r,_,G,e2,fun vs H2 F2 G2 x2 r2=>q _ H2 F2 G2 x2 (.nm hv r2)⟩
noncomputable def mFn(f:Fd)(js:List (Option Nat))(ms:M (List (Option D))):M Rv:=ms.bind fun ds ρ=>if okJs ρ js=true then match f (lend ρ js ds) with
  | some (.ok r,ps)=>some (.ok r,putB ρ js ps)
  | some (.exc x,ps)=>some (.exc x,putB ρ js ps)
  | none=>none
 else none
theorem a0i(h:mFn f js ms ρ=some (.ok r,ρ')):∃ds ρ1 ps,ms ρ=some (.ok ds,ρ1)/\okJs ρ1 js=true/\f (lend ρ1 js ds)=some (.ok r,ps)/\ρ'=putB ρ1 js ps:=by
 obtain⟨ds,ρ1,e1,em⟩:=bj h;have em:(if okJs ρ1 js=true then match f (lend ρ1 js ds) with
  | some (.ok r,ps)=>some (Out.ok r,putB ρ1 js ps)
  | some (.exc x,ps)=>some (.exc x,putB ρ1 js ps)
  | none=>none
  else none)=some (.ok r,ρ'):=em
 split at em
 ·rename_i hk;split at em
  ·rename_i r' ps e2;cases em;exact⟨ds,ρ1,ps,e1,hk,e2,rfl⟩
  ·cases em
  ·cases em
 ·cases em
theorem ir(F:Dfn X.prog X.w X.K X.mg X.base x pn k (spOf K n f))(hr:Room k X.A)(hg:Gl X x)(ha:EG K X (e::es) js ms)(hn:js.length=n:=by rfl)(hdb:(x==("__debug__" : Str))=false:=by decide)
  (he:starEach (e::es) X.env=(false,eval e X.env)::starEach es X.env:=by rfl) (hpl:(backTo pos (starEach es X.env)).any (·.1)=false:=by rfl):ER K X (.Call (.Name x p) (e::es) [] pos) (mFn f js ms):=ER.mk fun hk=>PE.imp (a3q F hr hg (ha hk) hdb he hpl) fun σ H Q z9=>by
 obtain⟨tg,F,ρ,r,ρ',G,em,q⟩:=z9;obtain⟨ds,ρ1,ps,e1,hj,e2,rfl⟩:=a0i em;refine⟨tg,F,ρ,ds,ρ1,G,e1,fun vs H1 F1 G1 x1 ar =>?_⟩
 have L:=ar.lent;show spOf K n f (vs++[]) H1 Q E0;rw[List.append_nil];refine⟨by rw[ar.length];exact hn,F1,_,r,ps,ajj G1 hj L,e2,fun v H' F' O' s' x' fin rr =>?_⟩
 exact q v H' F' (akc G1 L x' s' fin) (x1.trans (am7 G1 L x')) (uo x1 (auz G1 L fin rr))
structure EIf (K:Fg9) (X:Cx) (ifs:List Expr) (m:M Bool):Prop where
 go:X.K=K->PIf X ifs (TB K m)
instance {K:Fg9} {X:Cx} {ifs:List Expr} {m:M Bool}:CoeFun (EIf K X ifs m) fun _=>X.K=K->PIf X ifs (TB K m):=⟨EIf.go⟩
theorem jl:EIf K X [] (ret true):=EIf.mk fun _ zv s σ H Q I z9=>by
 obtain⟨tg,F,ρ,k,ρ',G,em,q⟩:=z9;obtain⟨rfl,rfl⟩:=jy em;exact awu zv s σ H Q I (q H F G (Ext.refl _ _ _))
theorem aio(h:ET K X c m):EIf K X [c] m:=EIf.mk fun hk=>awt (h hk)
noncomputable def compD(b:D->Ro->Option Ro)(mc:M Bool)(me:M D):List D->List D->M (List D)
 | [],ys=>ret ys
 | d::ds,ys=>fun ρ=>match b d ρ with
  | none=>none
  | some ρ1=>(mc.bind fun k=>if k=true then me.bind fun y=>compD b mc me ds (ys++[y]) else compD b mc me ds ys) ρ1
theorem ago{b:D->Ro->Option Ro}{mc:M Bool}{me:M D}:∀{l ys yf:List D} {ρ ρ':Ro},compD b mc me l ys ρ=some (.ok yf,ρ')->ys.length<=yf.length
 | [],ys,yf,ρ,ρ',h=>by
  obtain⟨rfl,_⟩:=jy (show ret ys ρ=_ from h)
  exact Nat.le_refl _
 | d::ds,ys,yf,ρ,ρ',h=>by
  unfold compD at h;split at h
  ·cases h
  ·obtain⟨k,ρ2,e2,h⟩:=bj h;split at h
   ·obtain⟨y,ρ3,e3,h⟩:=bj h;have:=ago h;rw[List.length_append] at this;omega
   ·exact ago h
def j7(src:List (Option Nat))(mi:M (List D))(b:D->Ro->Option Ro)(mc:M Bool)(me:M D):M Rv:=mi.bind fun l ρ=>if okJs ρ src=true then match compD b mc me l [] (lend ρ src (src.map fun _=>none)) with
  | some (.ok ys,ps)=>if ys.length<=capS then some (.ok (.fr ys),putB ρ src ps) else none
  | some (.exc x,ps)=>some (.exc x,putB ρ src ps)
  | none=>none
 else none
theorem amd{src:List (Option Nat)}{mi:M (List D)}{b:D->Ro->Option Ro}{mc:M Bool}{me:M D}{ρ ρ':Ro}{r:Rv}(h:j7 src mi b mc me ρ=some (.ok r,ρ')):∃l ρ1 ys ps,mi ρ=some (.ok l,ρ1)/\okJs ρ1 src=true/\compD b mc me l [] (lend ρ1 src (src.map fun _=>none))=some (.ok ys,ps)/\ys.length<=capS/\r=.fr ys/\ρ'=putB ρ1 src ps:=by
 obtain⟨l,ρ1,e1,em⟩:=bj h;have em:(if okJs ρ1 src=true then match compD b mc me l [] (lend ρ1 src (src.map fun _=>none)) with
  | some (.ok ys,ps)=>if ys.length<=capS then some (Out.ok (Rv.fr ys),putB ρ1 src ps) else none
  | some (.exc x,ps)=>some (.exc x,putB ρ1 src ps)
  | none=>none
  else none)=some (.ok r,ρ'):=em
 split at em
 ·rename_i hk;split at em
  ·rename_i ys ps e2;split at em
   ·rename_i hz;cases em;exact⟨l,ρ1,ys,ps,e1,hk,e2,hz,rfl,rfl⟩
   ·cases em
  ·cases em
  ·cases em
 ·cases em
theorem apk(src:List (Option Nat)):Lent K F σ (pick src σ) src (src.map fun _=>none):=by
 refine⟨by simp[pick],by simp,fun i j o h q =>?_,fun i d h q =>?_⟩
 ·unfold pick;rw[List.getElem?_map,h];show some ((σ[j]?).bind id)=some o;rw[q];rfl
 ·rw[List.getElem?_map,h] at q;cases q
theorem Ext.upd(x:Ext O O' F H F' H')(h:H d=none):Ext O O' F H F' (upd H' d o) :=
 ⟨x.sub,x.new,fun a u e n=>by rw[dw (f9 e h)];exact x.keep a u e n,x.own,fun a e=>by
  by_cases ha:a=d
  ·subst ha;exact h
  ·rw[dw ha] at e;exact x.there a e⟩
theorem Good.upd(G:Good K tg F H ρ σ)(hf:F d=none)(hn:¬Own ρ σ d)(o:HO)(hi:∀C dx fs,H d≠some (.ins C dx fs)):Good K tg F (upd H d o) ρ σ :=
 G.grow (Same.refl F) (fun b u e=>by
  have hb:b≠d:=fun z=>by
   subst z;rw[hf] at e;cases e
  rw[dw hb];exact G.sub b u e) (fun a w=>⟨(G.ownAt w).1,by
  have hb:a≠d:=fun z=>hn (z▸w)
  rw[dw hb]⟩) fun a C dx fvs h1 h2=>⟨h1,by
  have hb:a≠d:=fun z=>hi C dx fvs (z▸h2)
  rw[dw hb]⟩
theorem air(σ:L2.St)(H:Hp)(Q:VK)(t:T K (relR K) (j7 src mi bb mc me) σ H Q):awc (TIt K mi) (TGd K bb) (TB K mc) (T K (relD K) me) src σ H Q:=by
 obtain⟨tg,F,ρ,r,ρ',G,em,q⟩:=t;obtain⟨l,ρ1,yf,ps,e1,hj,e2,hz,rfl,rfl⟩:=amd em;refine⟨tg,F,ρ,l,ρ1,G,e1,fun J H1 F1 G1 x1 Z dd hd =>?_⟩
 have L:Lent K F1 σ (pick src σ) src (src.map fun _=>none):=apk src
 have Gl:=ajj G1 hj L;have own0:¬Own (lend ρ1 src (src.map fun _=>none)) (pick src σ) dd:=fun z=>Gl.own_ne hd z rfl
 refine aup Z (fun i ys σc Hc=>∃Fc ρc yd,Good K (tgOf (pick src σ)) Fc Hc ρc σc/\Ext (Own (lend ρ1 src (src.map fun _=>none)) (pick src σ)) (Own ρc σc) F1 H1 Fc Hc/\Fc dd=none/\¬Own ρc σc dd/\Hc dd=some (.lst ys)/\IsL K Fc yd ys/\compD bb mc me (l.drop i) yd ρc=some (.ok yf,ps))
  ⟨F1,_,[],Gl.upd (G1.freeF hd) own0 _ (fun _ _ _ z=>by rw[hd] at z;cases z),(Ext.refl _ _ _).upd hd,G1.freeF hd,own0,jh,.nil,e2⟩ ?_ ?_ ?_
 ·rintro i ys σc Hc _ ⟨Fc,ρc,yd,Gc,xc,_,_,hdd,_,_⟩
  exact⟨xc.sub.trans Gc.sub,hdd⟩
 ·rintro i d x ys σc Hc0 Hc M hdl ⟨Fc0,ρc,yd,Gc0,xc0,fd0,od0,hdd0,iy0,ec⟩ al hM
  obtain⟨Fc,Gc,xc,_,idl,xa⟩:=anb Gc0 xc0 xc0.sub al;have iy:=iy0.mono xa.sub;have hlt:i < l.length:=(List.getElem?_eq_some_iff.mp hdl).1;have edl:l[i]=d:=(List.getElem?_eq_some_iff.mp hdl).2;rw[List.drop_eq_getElem_cons hlt,edl] at ec;unfold compD at ec;have step:∀{F2 H2:Hp} {ρ2 ρ3:Ro} {σ2 σ3:L2.St} {F3 H3:Hp},F2 dd=none->¬Own ρ2 σ2 dd->H2 dd=some (.lst ys)->Ext (Own ρ2 σ2) (Own ρ3 σ3) F2 H2 F3 H3->F3 dd=none/\¬Own ρ3 σ3 dd/\H3 dd=some (.lst ys):=fun{F2 H2 ρ2 ρ3 σ2 σ3 F3 H3} h1 h2 h3 x3=>by
   refine⟨?_,fun z =>?_,x3.keep _ _ h3 h2⟩
   ·cases z:F3 dd with
    | none=>rfl
    | some o =>
     rcases x3.new _ _ z with z | z | z
     ·rw[h1] at z;cases z
     ·rw[h3] at z;cases z
     ·exact absurd z h2
   ·rcases x3.own _ z with z | z
    ·exact h2 z
    ·rw[h3] at z;cases z
  obtain⟨fd,od,hdd⟩:=step fd0 od0 hdd0 xa;split at ec
  ·cases ec
  ·rename_i ρ2 eb;refine⟨_,Fc,ρc,d,ρ2,Gc,idl,eb,fun σ2 H2 F2 G2 x2 =>?_⟩
   obtain⟨k,ρ3,ek,ec⟩:=bj ec;obtain⟨fd2,od2,hdd2⟩:=step fd od hdd x2;refine⟨_,F2,ρ2,k,ρ3,G2,ek,fun H3 F3 G3 x3 =>?_⟩
   obtain⟨fd3,od3,hdd3⟩:=step fd2 od2 hdd2 x3;cases k with
   | false =>
    refine iteF (hM _ _ _ ⟨F3,ρ3,yd,G3,(xc.trans x2).trans x3,fd3,od3,hdd3,(iy.mono x2.sub).mono x3.sub,ec⟩)
   | true =>
    obtain⟨y,ρ4,ey,ec⟩:=bj ec;refine iteT ⟨_,F3,ρ3,y,ρ4,G3,ey,fun v H4 F4 G4 x4 iv =>?_⟩
    obtain⟨fd4,od4,hdd4⟩:=step fd3 od3 hdd3 x4;refine⟨hdd4,?_,hM _ _ _ ⟨F4,ρ4,yd++[y],G4.upd fd4 od4 _ (fun _ _ _ z=>by rw[hdd4] at z;cases z),(((xc.trans x2).trans x3).trans x4).upd hd,fd4,od4,jh,?_,ec⟩⟩
    ·have:=ago ec;rw[List.length_append,iy.length] at this;rw[sizeLine_eq];exact Nat.lt_of_lt_of_le (by simpa using Nat.lt_succ_self ys.length) (Nat.le_trans this hz)
    ·exact(((iy.mono x2.sub).mono x3.sub).mono x4.sub).append (.cons iv .nil)
 ·rintro ys σc Hc ⟨Fc,ρc,yd,Gc,xc,fd,od,hdd,iy,ec⟩
  rw[List.drop_eq_nil_of_le (Nat.le_refl _)] at ec;obtain⟨rfl,rfl⟩:=jy (show ret yd ρc=_ from ec)
  have fin:Fin K Fc Hc (pick src σ) ps (Own ps σc):=⟨fun i l' e=>by
   obtain⟨o,ho,a,ws,rfl,hf,hh,hl,ht⟩:=Gc.at e;rw[ht i rfl];exact⟨⟨i,⟨_,_,e⟩,ho⟩,hf,ws,hh,hl⟩⟩
  refine q _ Hc Fc (akc G1 L xc Gc.sub fin) (x1.trans (am7 G1 L xc)) ⟨dd,ys,rfl,.inl (x1.there dd hd),fd,hdd,iy,fun⟨j,w⟩ =>?_⟩
  exact G1.own_ne hd ⟨j,ad1 w⟩ rfl
theorem lq(fr N:List Str)(src:List (Option Nat))(hc:X.calm=true)(hi:IT K X tgt iter mi)
  (hg:∀fp s H,GV K (cxC X N scope fr fp s H) tgt bb) (ht:∀fp s H,EIf K (cxC X N scope fr fp s H) ifs mc) (he:∀fp s H,EV K (cxC X N scope fr fp s H) elt me)
  (hok:ae6 X.env X.N scope fr N src=true:=by rfl) (hkind:scope.kind=.function:=by rfl) (hclos:closureFor scope X.env=pure (kh X.env fr):=by rfl)
  (hs:∀x,foldedSetIterable iter X.env x=pure x:=by intro _;rfl):ER K X (.ListComp elt [⟨tgt,iter,ifs,0⟩] scope pos) (j7 src mi bb mc me):=ER.mk fun hk=>by
 have hkc:∀fp s H,(cxC X N scope fr fp s H).K=K:=fun _ _ _=>hk
 refine PE.imp (aw2 fr N src hc (hi hk) (fun fp s H=>(hg fp s H).go (hkc _ _ _)) (fun fp s H=>(ht fp s H).go (hkc _ _ _)) (fun fp s H=>(he fp s H).go (hkc _ _ _)) hok hkind hclos hs) air
end
end Dn
namespace Mn
open L2
theorem aph(fr N:List Str)(src:List (Option Nat))(hN:X.N.Nodup)(hxi:X.N[i]? = some x)(hx:Loc X.env.scope x)(hc:X.calm=true)(hi:PI X tg iter wi)
  (hg:∀fp s H,PG (cxC X N scope fr fp s H) tg g) (ht:∀fp s H,PIf (cxC X N scope fr fp s H) ifs ti) (he:∀fp s H,PE (cxC X N scope fr fp s H) elt te)
  (hsw:swapsWith (.ListComp elt [⟨tg,iter,ifs,0⟩] scope cpos) (some (.Name x px)) pos.line X.env=pure true:=by rfl)
  (hok:ae6 X.env X.N scope fr N src=true:=by rfl) (hkind:scope.kind=.function:=by rfl) (hclos:closureFor scope X.env=pure (kh X.env fr):=by rfl)
  (hs:∀x,foldedSetIterable iter X.env x=pure x:=by intro _;rfl) (hf:X.fn x=true∨X.env.scope.names.lookup x=some .local:=by first | exact .inl rfl | exact .inr rfl | assumption) :
  PS X (.Assign [.Name x px] (.ListComp elt [⟨tg,iter,ifs,0⟩] scope cpos) pos) (tAsg (awc wi g ti te src) (axt i)):=by
 have C:=CompOk.of hok;intro zv s σ H D I h;rw[exec_Assign_Name_used _ _ _ _ hsw];refine wpAny_bind (wpAny_standAt (wpAny_bind ?_));show wpAny _ _ (comprehension (.ListComp elt [⟨tg,iter,ifs,0⟩] scope cpos) scope X.env (firstIterPos [⟨tg,iter,ifs,0⟩] cpos) (newList []) (firstAsync [⟨tg,iter,ifs,0⟩]) (firstIter [⟨tg,iter,ifs,0⟩] X.env) (some (assign (.Name x px) X.env)) >>= fun _=>pure ()) _ _ _
 refine wpAny_bind (wpAny_comprehension_free (use:=some (assign (.Name x px) X.env)) (Q:=fun _ s'=>wpAny (model X.prog X.w) X.A (pure ()) (fun _ s''=>wpAny (model X.prog X.w) X.A (pure Flow.next) (SP X zv D) X.xe s'') X.xe s') rfl hs hclos hkind C.loc (wpAny_mono (hi zv s σ H _ I h) (fun v s1 h1=>wpAny_mono h1 (fun itv s2 h2 =>?_) fun _ _ e=>e) fun _ _ e=>e))
 obtain⟨it,fp,tn,J,H2,e,I2,T,st2,f2,q2⟩:=h2;subst e;have hd0:H2 s2.heap.objs.size=none:=I2.hok.fresh (Nat.le_refl _);obtain⟨W,⟨m0,w0⟩,turn⟩:=q2 s2.heap.objs.size hd0;refine wpAny_newObj_type ?_;generalize hs3:({ s2 with heap:=s2.heap.push { cls:=.type "list", dict:=none,data:=.seq ([]:List Value).toArray } }:Shared)=s3
 have keep2:∀b o,s2.heap.get? b=some o->s3.heap.get? b=some o:=fun b o e=>by rw[<-hs3];exact Heap.get?_push_of_some _ e
 have I3:Inv X zv σ (upd H2 s2.heap.objs.size (.lst [])) s3:=by
  rw[<-hs3];exact I2.laid (t':=s2.toks) (fun b u q=>Heap.get?_push_of_some _ q) (Nat.le_refl _) ⟨Nat.zero_le _,[],0,.nil,Heap.get?_push_size _ rfl⟩
 have ne0:∀b∈fp,b≠s2.heap.objs.size:=fun b hb=>by
  obtain⟨o,e,_⟩:=T.obj _ _ st2 b hb;exact Nat.ne_of_lt (Heap.lt_size e)
 have f3:∀b∈fp,FpOk X zv (upd H2 s2.heap.objs.size (.lst [])) b:=fun b hb=>⟨by rw[dw (ne0 b hb)];exact(f2 b hb).1,(f2 b hb).2⟩
 have lt3:∀b∈fp,b < s3.heap.objs.size:=fun b hb=>by
  obtain⟨o,e,_⟩:=T.obj _ _ st2 b hb;exact Heap.lt_size (keep2 b o e)
 refine wpAny_newFunctionEnv C.cell (by intro y hy;simp at hy) (fun h₁ hns₁ hsb₁ =>?_) hkind
 have keep3:∀b o,s3.heap.get? b=some o->h₁.get? b=some o:=fun b o e=>hsb₁.extBut b o (Nat.ne_of_lt (Heap.lt_size e)) (Heap.get?_push_of_some _ e)
 have st4:tn 0 h₁:=T.keep _ _ _ st2 fun b hb o e=>keep3 b o (keep2 b o e)
 have I4:=amo (tk:=s3.toks+([]:List (Str×Value)).length) I3 C hkind f3 lt3 hns₁ keep3;have loop:=aj0 (X:=cxC X N scope fr fp s3 (upd H2 s2.heap.objs.size (.lst []))) (iter:=iter) (scope:=scope) (pos:=cpos) (d:=s2.heap.objs.size) (Q:=fun v H1=>D.nx (σ.set i (some v)) H1)
  (R:=compPost (model X.prog X.w) X.A X.xe (some (assign (.Name x px) X.env)) (fun _ s'=>wpAny (model X.prog X.w) X.A (pure ()) (fun _ s''=>wpAny (model X.prog X.w) X.A (pure Flow.next) (SP X zv D) X.xe s'') X.xe s') (.ref s2.heap.objs.size) s3.heap.objs.size) hc rfl T
  (fun H' hn b hb=>⟨hn b hb,Nat.ne_of_lt (lt3 b hb),I4.ok.exfs b hb,.inl hb,(I4.ok.exf b hb).2,fun p hp=>absurd (show p∈([]:List (Addr×Obj)) from hp) (by simp)⟩)
  (hg fp s3 _) (ht fp s3 _) (he fp s3 _) turn w0 I4 st4 (fun b hb=>(f3 b hb).1) (fun σ' H' s' I6 qn=>by
   obtain⟨m6,hn6,_⟩:=I6.loc;have fC:FpOk X zv H' s3.heap.objs.size:=I3.fpOk (Nat.le_refl _) I6.free;have I7:Inv X zv σ H' s':=amq I3 f3 I6 (Heap.SameBut.refl ..);refine wpAny_assign_Name (ai0 I7 hN hxi hx (v:=.ref s2.heap.objs.size) rfl (fun s8 I8 ⟨a,sb,ha⟩ =>?_) hf)
   have hne:s3.heap.objs.size≠a:=by
    rcases ha with rfl | ha
    ·exact fC.2.1
    ·exact(fC.2.2.2.2.1 x a ha).symm
   obtain⟨o6,es6,ep6,g6,r6⟩:=hn6;refine⟨m6,⟨o6,es6,ep6,(sb.2 _ hne).trans g6,r6⟩,fun h9 sb9=>wpAny_pure (wpAny_pure ⟨_,H',?_,qn⟩)⟩
   exact I8.turned (t':=s8.toks) (it:=s3.heap.objs.size) (fun b o hb e=>(sb9.2 b hb).trans e) fC.1 fC.2.1 fC.2.2.2.1 fC.2.2.2.2.1 fC.2.2.2.2.2)
 exact codeAny_compStart_list loop (T.self _ 0 _ _ _ st4 loop)
end Mn
namespace Dn
open L2 Mn
section
variable{K:Fg9}{X:Cx}{tgt iter elt:Expr}{pos p:Pos}
theorem aaa(fr N:List Str)(src:List (Option Nat))(hN:X.N.Nodup)(hxi:X.N[i]? = some x)(hx:Loc X.env.scope x)(hc:X.calm=true)(hi:IT K X tgt iter mi)
  (hg:∀fp s H,GV K (cxC X N scope fr fp s H) tgt bb) (ht:∀fp s H,EIf K (cxC X N scope fr fp s H) ifs mc) (he:∀fp s H,EV K (cxC X N scope fr fp s H) elt me)
  (hsw:swapsWith (.ListComp elt [⟨tgt,iter,ifs,0⟩] scope cpos) (some (.Name x p)) pos.line X.env=pure true:=by rfl)
  (hok:ae6 X.env X.N scope fr N src=true:=by rfl) (hkind:scope.kind=.function:=by rfl) (hclos:closureFor scope X.env=pure (kh X.env fr):=by rfl)
  (hs:∀x,foldedSetIterable iter X.env x=pure x:=by intro _;rfl) (hf:X.fn x=true∨X.env.scope.names.lookup x=some .local:=by first | exact .inl rfl | exact .inr rfl | assumption) :
  SV K X (.Assign [.Name x p] (.ListComp elt [⟨tgt,iter,ifs,0⟩] scope cpos) pos) (dSet i (j7 src mi bb mc me)):=SV.mk fun hk=>by
 have hkc:∀fp s H,(cxC X N scope fr fp s H).K=K:=fun _ _ _=>hk
 refine PS.imp (aph fr N src hN hxi hx hc (hi hk) (fun fp s H=>(hg fp s H).go (hkc _ _ _)) (fun fp s H=>(ht fp s H).go (hkc _ _ _)) (fun fp s H=>(he fp s H).go (hkc _ _ _)) hsw hok hkind hclos hs hf) fun E σ H ⟨tg,F,ρ,fl,ρ',G,em,q⟩=>w6 em q fun r ρ1 e1 em =>?_
 cases em;refine air σ H _ ⟨tg,F,ρ,r,ρ1,G,e1,fun v H' F' G' x rr =>?_⟩
 obtain⟨G2,x2⟩:=G'.store x i rr;exact q _ H' F' G2 x2
end
@[irreducible] def fuel:Nat:=1000000000
section
variable{K:Fg9}{X:Cx}{e a b c:Expr}{es:List Expr}{pos p p2:Pos}
def isN:D->Bool
 | .non=>true
 | _=>false
def mIsN(neg:Bool)(m:M D):M D:=m.bind fun d=>ret (.bl (if neg then !isN d else isN d))
theorem ayc(h:Bor K F H d x):decide (x=.non)=isN d:=by
 rcases h with h | ⟨a,vs,l',rfl,rfl,_⟩
 ·cases h <;> first | rfl | (simp[isN])
 ·simp[isN]
theorem axm{neg:Bool}{m:M D}{t:TE->TE}(ht:∀te σ H Q,t te σ H Q=te σ H fun x H1=>Q (.bl (if neg then !decide (x=.non) else decide (x=.non))) H1)(σ:L2.St)(H:Hp)(Q:VK)(h:T K (relD K) (mIsN neg m) σ H Q):t (T K (relB K) m) σ H Q:=by
 rw[ht];obtain⟨tg,F,ρ,d,ρ',G,em,q⟩:=h;obtain⟨d1,ρ1,e1,em⟩:=bj em;obtain⟨rfl,rfl⟩:=jy em;refine⟨tg,F,ρ,d1,_,G,e1,fun v H' F' G' x r =>?_⟩
 show Q (.bl (if neg then !decide (v=.non) else decide (v=.non))) H'
 rw[ayc r];exact q _ H' F' G' x (.bl _)
theorem aub{neg:Bool}{m:M D}{t:TE->TE}(ht:∀te σ H Q,t te σ H Q=te σ H fun x H1=>Q (.bl (if neg then !decide (x=.non) else decide (x=.non))) H1)(σ:L2.St)(H:Hp)(Q:Bool->Hp->Prop)(h:TB K (aam (mIsN neg m)) σ H Q):tB (t (T K (relB K) m)) σ H Q:=by
 obtain⟨tg,F,ρ,k,ρ',G,em,q⟩:=h;obtain⟨d1,ρ1,e1,em⟩:=bj em;obtain⟨e3,rfl⟩:=jc em;obtain rfl:=ana e3;refine axm ht σ H _ ⟨tg,F,ρ,_,_,G,e1,fun v H' F' G' x r =>?_⟩
 cases r;exact⟨k,rfl,q H' F' G' x⟩
theorem ajq{j:Nat}{m:M D}(h:EB K X a m):ET K X (.Compare a [.Is] [.Constant .none j p] p2) (aam (mIsN false m)):=ET.mk fun hk=>PT.imp (azf (azx (h hk))) (aub (t:=tIsN) fun _ _ _ _=>rfl)
end
def als(f:Fd):Prop:=∀ns:List Int,ns.length<=63->∃ps,f [.val (.kst (ns.map D.int))]=some (.ok (.v (.bl true)),ps)
theorem ay0{K:Fg9}{f:Fd}(h:als f)(H:Hp)(a:Addr)(ns:List Int)(hn:ns.length<=63)(hS:SqL K H a (ns.map V.int)):spOf K 1 f [.ref a] H (fun v _=>v=.bl true) fun _ _ _=>False:=by
 obtain⟨ps,e⟩:=h ns hn;refine⟨rfl,H,_,_,ps,⟨Same.refl H,rfl,fun i s o e1 e2 =>?_,fun i j b ⟨⟨t,l,e1⟩,_⟩ _=>by cases i <;> simp at e1⟩,e,fun v H' F' O' _ _ _ rr =>?_⟩
 ·cases i with
  | zero =>
   simp at e1 e2;subst e1 e2;exact⟨_,rfl,.kst hS (afk ns)⟩
  | succ i=>simp at e1
 ·have rr:Is K F' (.bl true) v:=rr;cases rr;rfl
theorem walk{l:PySem.W.OpenLaw}{q:Program}{loose:List Str}{XP:(Str->Option Value)->Heap->Prop}{YP:World->Heap->Prop}{d:DefRec}{K:Params->Fg9}{f:Fd}{k:Nat}(ht:als f)(hn:l.most=some 63)(hdf:d.params.defaults=[])(hr:Room k callerA)
  (hY:∀(w:World) (h:Heap),YP w h->(K w.params).In h/\∃c P₀,PySem.W.tabIn (K w.params) LamN=some (c,P₀)/\PySem.W.codeHdIn (K w.params) c P₀=true/\h.get? P₀=some (PySem.W.tabObj #[])/\(K w.params).lookup P₀=none)
  (F:∀(w:World) (mg:Str->Option Value) (fa:Addr) (h:Heap),(K w.params).In h->h.Ns mainGlobals mg->mg d.name=some (.ref fa) ->
   ∃fd:FuncData,(∀(s:Shared) (u:Value),BindsTo s fd ⟨[u],[]⟩ [("script", u)])/\∀base:Heap,(K w.params).In base->base.Ns mainGlobals mg->FnOk l.prog w (K w.params) mg base CX0 k fa fd ["script"] (spOf (K w.params) 1 f)) :
  PySem.W.WalkO q loose XP YP l.row.toRowW d [] (fun f vs=>PySem.call f vs) :=
 L2.av0 (n:=63) (k:=k) (x := "script") (CX:=fun _=>CX0) (sp:=fun w=>spOf (K w.params) 1 f) hn (by decide) hdf hr hY F (fun _ H a ns hl hS=>ay0 ht H a ns hl hS) fun _ _ _ _ _ z=>z
section
variable{α β:Type}(ρ:Ro)
@[simp] theorem a5x(a:α):ret a ρ=some (.ok a,ρ):=rfl
@[simp] theorem a4k(o:Option α):lift o ρ=match o with
 | some a=>some (.ok a,ρ)
 | none=>none:=rfl
@[simp] theorem a5n(m:M α)(k:α->M β):M.bind m k ρ=match m ρ with
 | some (.ok a,ρ1)=>k a ρ1
 | some (.exc x,ρ1)=>some (.exc x,ρ1)
 | none=>none:=rfl
@[simp] theorem v_ap(m:M D):M.v m ρ=(m.bind fun d=>ret (.v d)) ρ:=rfl
@[simp] theorem d_ap(m:M Rv):M.d m ρ=(m.bind fun r=>ret r.d) ρ:=rfl
@[simp] theorem a6x(d:D):(Rv.v d).d=d:=rfl
@[simp] theorem a5w(l:List D):(Rv.fr l).d=.lst l:=rfl
@[simp] theorem a5v(d:D)(l:List D):(Rv.tf d l).d=.tup [d,.lst l]:=rfl
@[simp] theorem a6w(d:D):(Rv.v d).sl=.val d:=rfl
@[simp] theorem a5u(l:List D):(Rv.fr l).sl=.own none l:=rfl
@[simp] theorem a3x(i:Nat):mVar i ρ=match ρ[i]? with
 | some (.val d)=>some (.ok d,ρ)
 | some (.own none l)=>some (.ok (.lst l),ρ.set i (.val (.lst l)))
 | _=>none:=rfl
@[simp] theorem a1s(i:Nat):dq i ρ=match ρ[i]? with
 | some (.val d)=>some (.ok d,ρ)
 | some (.own _ l)=>some (.ok (.lst l),ρ)
 | _=>none:=rfl
@[simp] theorem a1x(i:Nat):adk i ρ=match ρ[i]? with
 | some (.val d)=>some (.ok (.v d),ρ)
 | some (.own none l)=>some (.ok (.fr l),ρ.set i .emp)
 | _=>none:=rfl
@[simp] theorem a3z(i:Nat):mOwn i ρ=match ρ[i]? with
 | some (.own _ l)=>some (.ok l,ρ)
 | _=>none:=rfl
@[simp] theorem a0d(i:Nat)(l':List D):adi i l' ρ=match ρ[i]? with
 | some (.own t _)=>some (.ok (),List.set ρ i (.own t l'))
 | _=>none:=rfl
@[simp] theorem a1v(m1 m2:M D):ie m1 m2 ρ=(m1.bind fun x=>m2.bind fun y=>ret (x,y)) ρ:=rfl
@[simp] theorem a0e(i:Nat)(m2:M D):bz i m2 ρ=((dq i).bind fun _=>m2.bind fun y=>(dq i).bind fun x=>ret (x,y)) ρ:=rfl
@[simp] theorem a6c(g:D->D->Option Rv)(m:M (D×D)):mOp g m ρ=(m.bind fun p=>lift (g p.1 p.2)) ρ:=rfl
@[simp] theorem a6b(g:D->Option D)(m:M D):mUn g m ρ=(m.bind fun d=>lift (g d)) ρ:=rfl
@[simp] theorem a4j(m1 m2:M D):mAnd m1 m2 ρ=(m1.bind fun d=>(lift (asB d)).bind fun k=>if k=true then m2 else ret (.bl false)) ρ:=rfl
@[simp] theorem a1t(m:M D):aam m ρ=(m.bind fun d=>lift (asB d)) ρ:=rfl
@[simp] theorem a0c(g:D->D->Option Rv)(m:M (D×D)):mj g m ρ=aam (mOp g m).d ρ:=rfl
@[simp] theorem a1w(m:M Bool):af8 m ρ=(m.bind fun k=>ret (!k)) ρ:=rfl
@[simp] theorem a4a(m1 m2:M Bool):mOrB m1 m2 ρ=(m1.bind fun k=>if k=true then ret true else m2) ρ:=rfl
@[simp] theorem a6d(m:M Bool)(m1 m2:M α):mIf m m1 m2 ρ=(m.bind fun k=>if k=true then m1 else m2) ρ:=rfl
@[simp] theorem a6f(c:Prop)[Decidable c](m1 m2:M α):(if c then m1 else m2) ρ=if c then m1 ρ else m2 ρ:=by split <;> rfl
@[simp] theorem a4q(c:Prop)[Decidable c](m1 m2:Sd):(if c then m1 else m2) ρ=if c then m1 ρ else m2 ρ:=by split <;> rfl
@[simp] theorem a6v(b:Bool):asB (.bl b)=some b:=rfl
@[simp] theorem a5q(b:Int):asI (.int b)=some b:=rfl
@[simp] theorem a4x(b:Bool):gNot (.bl b)=some (.bl (!b)):=rfl
@[simp] theorem a2f(b:Int):gNeg (.int b)=some (.int (-b)):=rfl
@[simp] theorem a2r(i j:Int):gAdd (.int i) (.int j)=some (.v (.int (i+j))):=rfl
@[simp] theorem a2p(l k:List D):gAdd (.tup l) (.tup k)=if l.length+k.length<=capS then some (.v (.tup (l++k))) else none:=rfl
@[simp] theorem a2q(l k:List D):gAdd (.lst l) (.lst k)=if l.length+k.length<=capS then some (.fr (l++k)) else none:=rfl
@[simp] theorem a2j(f:Int->Int->Option Int)(i j:Int):gInt f (.int i) (.int j)=(f i j).map fun k=>.v (.int k):=rfl
@[simp] theorem a5f(i j:Int):fSub i j=some (i - j):=rfl
@[simp] theorem a2i(i j:Int):gMul (.int i) (.int j)=(fMul i j).map fun k=>.v (.int k):=rfl
@[simp] theorem a2g(l:List D)(k:Int):gMul (.tup l) (.int k)=if k=1 then some (.v (.tup l)) else if l≠[]/\2<=k/\k < 9223372036854775808/\l.length*k.toNat<=capS then some (.v (.tup (List.replicate k.toNat l).flatten)) else none:=rfl
@[simp] theorem a2h(l:List D)(k:Int):gMul (.lst l) (.int k)=if k.natAbs < 9223372036854775808/\l.length*k.toNat<=capS then some (.fr (List.replicate k.toNat l).flatten) else none:=rfl
@[simp] theorem a2o(f:Int->Int->Bool)(i j:Int):gCmp f (.int i) (.int j)=some (.v (.bl (f i j))):=rfl
@[simp] theorem a4e(t:Ty)(m:M D):mIsi t m ρ=(m.bind fun d=>ret (.bl (isTy t d))) ρ:=rfl
@[simp] theorem a0m(f g:Int->Int->Bool)(m1 m2 m3:M D):ajh f g m1 m2 m3 ρ=(m1.bind fun x=>m2.bind fun y=>match x,y with
 | .int i,.int j=>if f i j=true then m3.bind fun z=>match z with
  | .int k=>ret (.bl (g j k))
  | _=>lift none
  else ret (.bl false)
 | _,_=>lift none) ρ:=rfl
@[simp] theorem a4b:mNil ρ=some (.ok [],ρ):=rfl
@[simp] theorem a2a(m:M D)(ms:M (List D)):bw m ms ρ=(m.bind fun d=>ms.bind fun ds=>ret (d::ds)) ρ:=rfl
@[simp] theorem a0k(i:Nat)(ms:M (List D)):jg i ms ρ=((dq i).bind fun _=>ms.bind fun ds=>(dq i).bind fun d=>ret (d::ds)) ρ:=rfl
@[simp] theorem a3y(m:M (List D)):mTup m ρ=(m.bind fun ds=>lift (gTup ds)) ρ:=rfl
@[simp] theorem a4d(m:M (List D)):mLst m ρ=(m.bind fun ds=>lift (gLst ds)) ρ:=rfl
@[simp] theorem a2c(g:List D->Option Rv)(m:M (List D)):jb g m ρ=(m.bind fun ds=>lift (g ds)) ρ:=rfl
@[simp] theorem a6l(f:D->Option Rv)(d:D):g1 f [d]=f d:=rfl
@[simp] theorem a6k(f:D->D->Option Rv)(d d':D):g2 f [d,d']=f d d':=rfl
@[simp] theorem a0w(l:List D):itemsD (.tup l)=some l:=rfl
@[simp] theorem a0x(l:List D):itemsD (.lst l)=some l:=rfl
@[simp] theorem a0y(l:List D):itemsD (.kst l)=some l:=rfl
@[simp] theorem amv(l:List D):gAll (.lst l)=(boolsD l).map fun bs=>.v (.bl (bs.all id)):=rfl
@[simp] theorem a03(i:Int):aoa (.int i)=some (.v (.int i)):=rfl
@[simp] theorem a2k(i:Bool):aoa (.bl i)=some (.v (.int (if i then 1 else 0))):=rfl
@[simp] theorem a4z(d:D)(k:Int):gIx d (.int k)=(itemsD d).bind fun l=>(atI l k).map fun x=>.v x:=rfl
@[simp] theorem a4i(m:M D)(ml mh:M (Option Int)):mCut m ml mh ρ=(m.bind fun d=>ml.bind fun lo=>mh.bind fun hi=>lift (gCut d lo hi)) ρ:=rfl
@[simp] theorem a1z(i:Nat)(ml mh:M (Option Int)):ajf i ml mh ρ=((dq i).bind fun _=>ml.bind fun lo=>mh.bind fun hi=>(dq i).bind fun d=>lift (gCut d lo hi)) ρ:=rfl
@[simp] theorem a1u(m:M D):af7 m ρ=(m.bind fun d=>lift ((asI d).map some)) ρ:=rfl
@[simp] theorem a2l(l:List D)(lo hi:Option Int):gCut (.tup l) lo hi=some (.v (.tup (cutD l lo hi))):=rfl
@[simp] theorem a2m(l:List D)(lo hi:Option Int):gCut (.lst l) lo hi=some (.fr (cutD l lo hi)):=rfl
@[simp] theorem a2n(l:List D)(lo hi:Option Int):gCut (.kst l) lo hi=some (.fr (cutD l lo hi)):=rfl
@[simp] theorem a4f(neg:Bool)(m:M D):mIsN neg m ρ=(m.bind fun d=>ret (.bl (if neg then !isN d else isN d))) ρ:=rfl
@[simp] theorem a0f(m:M D):oh m ρ=(m.bind fun d=>lift (itemsD d)) ρ:=rfl
@[simp] theorem a4g(g:α->Option β)(m:M α):mGet g m ρ=(m.bind fun ds=>lift (g ds)) ρ:=rfl
@[simp] theorem ak6(j:Int):vf [.int j]=if j.natAbs < 4611686018427387904 then some (rangeD 0 j.toNat) else none:=rfl
@[simp] theorem axs(i j:Int):aig [.int i,.int j]=if i.natAbs < 4611686018427387904/\j.natAbs < 4611686018427387904 then some (rangeD i (j - i).toNat) else none:=rfl
@[simp] theorem axv(i j:Int):aii (.int i) (.int j)=if 0 < j/\j < 1000000000000000000000000000000000000000000000000000000000000 then some (.v (.tup [.int (i / j),.int (i % j)])) else none:=rfl
@[simp] theorem a4c(i:Nat)(g:List D->List D->Option (D×List D))(ms:M (List D)):mMut i g ms ρ=((mOwn i).bind fun _=>ms.bind fun ds=>(mOwn i).bind fun l=>(lift (g l ds)).bind fun r=>(adi i r.2).bind fun _=>ret r.1) ρ:=rfl
@[simp] theorem axy(l:List D)(d:D):aaf l [d]=if l.length < capS then some (.non,l++[d]) else none:=rfl
@[simp] theorem a1y:ig ρ=some (.ok [],ρ):=rfl
@[simp] theorem a0h(m:M D)(ms:M (List (Option D))):di m ms ρ=(m.bind fun d=>ms.bind fun ds=>ret (some d::ds)) ρ:=rfl
@[simp] theorem a0g(j:Nat)(ms:M (List (Option D))):gj j ms ρ=((dq j).bind fun _=>ms.bind fun ds=>ret (none::ds)) ρ:=rfl
@[simp] theorem a6e(f:Fd)(js:List (Option Nat))(ms:M (List (Option D))):mFn f js ms ρ=(ms.bind fun ds ρ=>if okJs ρ js=true then match f (lend ρ js ds) with
  | some (.ok r,ps)=>some (.ok r,putB ρ js ps)
  | some (.exc x,ps)=>some (.exc x,putB ρ js ps)
  | none=>none
 else none) ρ:=rfl
@[simp] theorem a2b(src:List (Option Nat))(mi:M (List D))(b:D->Ro->Option Ro)(mc:M Bool)(me:M D):j7 src mi b mc me ρ=(mi.bind fun l ρ=>if okJs ρ src=true then match compD b mc me l [] (lend ρ src (src.map fun _=>none)) with
  | some (.ok ys,ps)=>if ys.length<=capS then some (.ok (.fr ys),putB ρ src ps) else none
  | some (.exc x,ps)=>some (.exc x,putB ρ src ps)
  | none=>none
 else none) ρ:=rfl
@[simp] theorem a1q:okJs ρ []=true:=rfl
@[simp] theorem az8(r:List (Option Nat)):okJs ρ (none::r)=okJs ρ r:=rfl
@[simp] theorem apy(j:Nat)(r:List (Option Nat)):okJs ρ (some j::r)=((match ρ[j]? with
  | some (.own _ _) => !r.contains (some j)
  | _=>true)&&okJs ρ r):=rfl
@[simp] theorem lend_eq(js:List (Option Nat))(ds:List (Option D)):lend ρ js ds=(List.zip js ds).mapIdx fun i p=>aid ρ i p.1 p.2:=rfl
@[simp] theorem ayo(i j:Nat)(d:Option D):aid ρ i (some j) d=match ρ[j]? with
  | some (.val d)=>.val d
  | some (.own _ l)=>.own (some i) l
  | _=>.emp:=rfl
@[simp] theorem a4l(i:Nat)(d:D):aid ρ i none (some d)=.val d:=rfl
@[simp] theorem a4m(i:Nat):aid ρ i none none=.emp:=rfl
@[simp] theorem awk(js:List (Option Nat))(ps:Ro):putB ρ js ps=ρ.mapIdx fun j s=>putS js ps j s:=rfl
@[simp] theorem a3l(js:List (Option Nat))(ps:Ro)(j:Nat)(s:Sl):putS js ps j s=match js.findIdx? (fun o=>o==some j) with
 | none=>s
 | some i=>match s with
  | .own t _=>match ps[i]? with
   | some (.own (some i') l')=>if i'=i then .own t l' else .emp
   | _=>.emp
  | s=>s:=rfl
@[simp] theorem a6n(nl np:Nat)(g:Sd):fnD nl np g ρ=match g (ρ++List.replicate (nl - np) .emp) with
 | some (.ret r,ρ)=>some (.ok r,ρ.take np)
 | some (.nx,ρ)=>some (.ok (.v .non),ρ.take np)
 | some (.exc x,ρ)=>some (.exc x,ρ.take np)
 | _=>none:=rfl
@[simp] theorem a6s:dNx ρ=some (.nx,ρ):=rfl
@[simp] theorem a5i(g k:Sd):dSeq g k ρ=match g ρ with
 | some (.nx,ρ1)=>k ρ1
 | r=>r:=rfl
@[simp] theorem a67(m:M α)(k:α->Sd):dM m k ρ=match m ρ with
 | some (.ok x,ρ1)=>k x ρ1
 | some (.exc x,ρ1)=>some (.exc x,ρ1)
 | none=>none:=rfl
@[simp] theorem a5j(m:M Rv):dRet m ρ=dM m (fun r ρ=>some (.ret r,ρ)) ρ:=rfl
@[simp] theorem a6t(m:M Bool)(g k:Sd):dIf m g k ρ=dM m (fun z=>if z=true then g else k) ρ:=rfl
@[simp] theorem a2t(m:M α):adz m ρ=dM m (fun _ ρ=>some (.nx,ρ)) ρ:=rfl
@[simp] theorem a5h(i:Nat)(m:M Rv):dSet i m ρ=dM m (fun r ρ=>some (.nx,List.set ρ i r.sl)) ρ:=rfl
@[simp] theorem a5m(m:M D)(b:D->Ro->Option Ro):dAsg m b ρ=dM m (fun d ρ=>(b d ρ).map fun ρ'=>(.nx,ρ')) ρ:=rfl
@[simp] theorem a5k(i j:Nat)(m:M (List D)):dPar i j m ρ=dM m (fun ds ρ=>match ds with
 | [d,d']=>some (.nx,List.set (List.set ρ i (.val d)) j (.val d'))
 | _=>none) ρ:=rfl
@[simp] theorem a5g(i:Nat)(mi m:M D):dSub i mi m ρ=(dM m fun d=>dM (mOwn i) fun _=>dM mi fun k=>dM (mOwn i) fun l=>dM (lift ((asI k).bind (ixN l.length))) fun j=>dM (adi i (l.set j d)) fun _=>dNx) ρ:=rfl
@[simp] theorem a5l(m:M (List D))(b:D->Ro->Option Ro)(g:Sd):dFor m b g ρ=dM m (forD b g) ρ:=rfl
@[simp] theorem am8(i:Nat)(d:D):az i d ρ=some (List.set ρ i (.val d)):=rfl
@[simp] theorem a5p:bNil [] ρ=some ρ:=rfl
@[simp] theorem a2u(b:D->Ro->Option Ro)(bs:List D->Ro->Option Ro)(d:D)(r:List D):dh b bs (d::r) ρ=(b d ρ).bind (bs r):=rfl
@[simp] theorem a5o(n:Nat)(bs:List D->Ro->Option Ro)(l:List D):bTup n bs (.tup l) ρ=if l.length=n then bs l ρ else none:=rfl
end
section
variable(c:Prop)[Decidable c](b:Bool)(ρ:Ro)
@[simp] theorem a4p:(if c then some (Out.ok (D.bl b),ρ) else some (Out.ok (D.bl false),ρ))=some (.ok (.bl (decide c&&b)),ρ):=by by_cases h:c <;> simp[h]
end
@[simp] theorem bc(h:n<=1000):n<=capS:=Nat.le_trans h (by decide)
@[simp] theorem a4w(ds:List D):gTup ds=if ds.length<=capS then some (.tup ds) else none:=rfl
@[simp] theorem a4y(ds:List D):gLst ds=if ds.length<=capS then some (.fr ds) else none:=rfl
@[simp] theorem aln(l:List α)(f:α->Bool):boolsD (l.map fun d=>D.bl (f d))=some (l.map f):=by
 have:=aog (l.map f);rw[List.map_map] at this;exact this
def zc(s:Sl):List D->Sl
 | []=>s
 | d::r=>zc (.val d) r
theorem j5{me:M D}{rest:Ro}{f:D->D}:∀{l:List D} {ys:List D} {s:Sl},(∀d∈l,me (.val d::rest)=some (.ok (f d),.val d::rest))->compD (az 0) (ret true) me l ys (s::rest)=some (.ok (ys++l.map f),zc s l::rest)
 | [],ys,s,_=>by simp[compD,zc]
 | d::r,ys,s,h=>by
  have h1:=h d (List.mem_cons_self ..);have ih:=j5 (me:=me) (rest:=rest) (f:=f) (l:=r) (ys:=ys++[f d]) (s:=.val d) fun x hx=>h x (List.mem_cons_of_mem _ hx)
  simp[compD,h1,ih,zc]
theorem zx{mc:M Bool}{me:M D}{rest:Ro}{p:D->Bool}{f:D->D}:∀{l:List D} {ys:List D} {s:Sl},(∀d∈l,mc (.val d::rest)=some (.ok (p d),.val d::rest))->(∀d∈l,p d=true->me (.val d::rest)=some (.ok (f d),.val d::rest)) ->
  compD (az 0) mc me l ys (s::rest)=some (.ok (ys++(l.filter p).map f),zc s l::rest)
 | [],ys,s,_,_=>by simp[compD,zc]
 | d::r,ys,s,hc,h=>by
  have h0:=hc d (List.mem_cons_self ..);cases hp:p d with
  | true =>
   have h1:=h d (List.mem_cons_self ..) hp;have ih:=zx (mc:=mc) (me:=me) (rest:=rest) (p:=p) (f:=f) (l:=r) (ys:=ys++[f d]) (s:=.val d) (fun x hx=>hc x (List.mem_cons_of_mem _ hx)) fun x hx=>h x (List.mem_cons_of_mem _ hx)
   simp[compD,h0,h1,ih,zc,hp]
  | false =>
   have ih:=zx (mc:=mc) (me:=me) (rest:=rest) (p:=p) (f:=f) (l:=r) (ys:=ys) (s:=.val d) (fun x hx=>hc x (List.mem_cons_of_mem _ hx)) fun x hx=>h x (List.mem_cons_of_mem _ hx)
   simp[compD,h0,ih,zc,hp]
@[simp] theorem a2s(b:D->Ro->Option Ro)(g:Sd)(ρ:Ro):forD b g [] ρ=some (.nx,ρ):=rfl
theorem ut(b:D->Ro->Option Ro)(g:Sd)(d:D)(ds:List D)(ρ:Ro):forD b g (d::ds) ρ=match b d ρ with
  | none=>none
  | some ρ1=>match g ρ1 with
   | some (.nx,ρ2)=>forD b g ds ρ2
   | some (.cont,ρ2)=>forD b g ds ρ2
   | some (.brk,ρ2)=>some (.nx,ρ2)
   | some (.ret r,ρ2)=>some (.ret r,ρ2)
   | some (.exc x,ρ2)=>some (.exc x,ρ2)
   | none=>none:=rfl
@[simp] theorem alb(p:α->Bool)(a:α)(l:List α):List.findIdx? p (a::l)=if p a=true then some 0 else (List.findIdx? p l).map (· + 1):=by
 rw[List.findIdx?_cons]
@[simp] theorem a6o(p:α->Bool):List.findIdx? p ([]:List α)=none:=rfl
theorem getD_mem{l:List D}{n:Nat}(h:n < l.length):l.getD n .non∈l:=by
 simp[List.getD,List.getElem?_eq_getElem h]
theorem arf(ns:List Int)(lo hi:Option Int):∃ms:List Int,cutD (ns.map D.int) lo hi=ms.map D.int/\ms.length<=ns.length:=by
 refine⟨(ns.drop (HT.sIx ns.length 0 lo)).take (HT.sIx ns.length ns.length hi - HT.sIx ns.length 0 lo),?_,?_⟩
 ·unfold cutD;rw[List.length_map,List.map_take,List.map_drop]
 ·rw[List.length_take,List.length_drop];omega
theorem qi(Inv:Nat->Ro->Prop):∀{l:List D} {ρ:Ro} (k:Nat),Inv k ρ->(∀i d ρ,l[i]? = some d->Inv (k+i) ρ->∃ρ1 ρ2,b d ρ=some ρ1/\(g ρ1=some (.nx,ρ2)∨g ρ1=some (.cont,ρ2))/\Inv (k+i+1) ρ2) ->
  ∃ρ',forD b g l ρ=some (.nx,ρ')/\Inv (k+l.length) ρ'
 | [],ρ,k,h0,_=>⟨ρ,rfl,h0⟩
 | d::r,ρ,k,h0,hs=>by
  obtain⟨ρ1,ρ2,e1,e2,h1⟩:=hs 0 d ρ rfl h0;obtain⟨ρ',e3,h3⟩:=qi (b:=b) (g:=g) Inv (l:=r) (ρ:=ρ2) (k+1) h1 fun i x ρ hx hi=>by
   have:=hs (i+1) x ρ (by simpa using hx) ((show k+(i+1)=k+1+i by omega)▸hi)
   have e:k+(i+1)+1=k+1+i+1:=by omega
   rw[e] at this;exact this
  refine⟨ρ',?_,?_⟩
  ·rw[ut,e1];rcases e2 with e2 | e2 <;> simp only[e2] <;> exact e3
  ·have e:k+(d::r).length=k+1+r.length:=by simp;omega
   rw[e];exact h3
theorem mz(Inv:Nat->List D->Ro->Prop):∀{l:List D} {ys:List D} {ρ:Ro} (k:Nat),Inv k ys ρ ->
  (∀i d ys ρ,l[i]? = some d->Inv (k+i) ys ρ->∃ρ1 ρ2 z,b d ρ=some ρ1/\mc ρ1=some (.ok z,ρ2)/\((z=false/\Inv (k+i+1) ys ρ2)∨(z=true/\∃y ρ3,me ρ2=some (.ok y,ρ3)/\Inv (k+i+1) (ys++[y]) ρ3))) ->
  ∃ys' ρ',compD b mc me l ys ρ=some (.ok ys',ρ')/\Inv (k+l.length) ys' ρ'
 | [],ys,ρ,k,h0,_=>⟨ys,ρ,rfl,h0⟩
 | d::r,ys,ρ,k,h0,hs=>by
  obtain⟨ρ1,ρ2,z,e1,e2,h1⟩:=hs 0 d ys ρ rfl h0;have nxt:∀{ys':List D} {ρ':Ro},Inv (k+0+1) ys' ρ'->∃ys2 ρ2,compD b mc me r ys' ρ'=some (.ok ys2,ρ2)/\Inv (k+1+r.length) ys2 ρ2:=fun{ys' ρ'} hi =>
   mz (b:=b) (mc:=mc) (me:=me) Inv (l:=r) (ys:=ys') (ρ:=ρ') (k+1) hi fun i x ys ρ hx hi=>by
    have:=hs (i+1) x ys ρ (by simpa using hx) ((show k+(i+1)=k+1+i by omega)▸hi)
    have e:k+(i+1)+1=k+1+i+1:=by omega
    rw[e] at this;exact this
  have el:k+(d::r).length=k+1+r.length:=by simp;omega
  rw[el];rcases h1 with⟨rfl,h1⟩ | ⟨rfl,y,ρ3,e3,h1⟩
  ·obtain⟨ys2,ρ4,e4,h4⟩:=nxt h1;exact⟨ys2,ρ4,by simp[compD,e1,e2,e4],h4⟩
  ·obtain⟨ys2,ρ4,e4,h4⟩:=nxt h1;exact⟨ys2,ρ4,by simp[compD,e1,e2,e3,e4],h4⟩
@[simp] theorem a5a(neg:Bool)(a b:Int):gEq neg (.int a) (.int b)=some (.v (.bl (if neg then !(a==b) else (a==b)))):=rfl
@[simp] theorem a6j(neg:Bool)(a b:Bool):gEq neg (.bl a) (.bl b)=some (.v (.bl (if neg then !(a==b) else (a==b)))):=rfl
section
variable{K:Fg9}{X:Cx}{e a b c:Expr}{es:List Expr}{pos p p2:Pos}
def aa2:List D->Option (List Int)
 | []=>some []
 | .int i::r=>(aa2 r).map (i :: ·)
 | _::_=>none
theorem afl:∀{l:List D} {ns:List Int},aa2 l=some ns->l=ns.map D.int
 | [],_,h=>by cases h;rfl
 | .int b::r,bs,h=>by
  have h':(aa2 r).map (b :: ·)=some bs:=h;cases e:aa2 r with
  | none=>rw[e] at h';cases h'
  | some t =>
   rw[e] at h';cases h';rw[afl e];rfl
 | .non::_,_,h=>by cases h
 | .bl _::_,_,h=>by cases h
 | .str _::_,_,h=>by cases h
 | .tup _::_,_,h=>by cases h
 | .lst _::_,_,h=>by cases h
 | .kst _::_,_,h=>by cases h
 | .dct _::_,_,h=>by cases h
@[simp] theorem aga(ns:List Int):aa2 (ns.map D.int)=some ns:=by
 induction ns with
 | nil=>rfl
 | cons b r ih=>show(aa2 (r.map D.int)).map (b :: ·)=_;rw[ih];rfl
def insI(x:Int):List Int->List Int
 | []=>[x]
 | y::r=>if x<=y then x::y::r else y::insI x r
def sortI:List Int->List Int
 | []=>[]
 | x::r=>insI x (sortI r)
theorem insI_perm(x:Int):∀l:List Int,(insI x l).Perm (x::l)
 | []=>.refl _
 | y::r=>by
  unfold insI;split
  ·exact .refl _
  ·exact((insI_perm x r).cons y).trans (.swap x y r)
theorem sortI_perm:∀l:List Int,(sortI l).Perm l
 | []=>.refl _
 | x::r=>(insI_perm x (sortI r)).trans ((sortI_perm r).cons x)
theorem agc(x:Int):∀{l:List Int},l.Pairwise (· <= ·)->(insI x l).Pairwise (· <= ·)
 | [],_=>by simp[insI]
 | y::r,h=>by
  unfold insI;rw[List.pairwise_cons] at h;split
  ·rename_i hxy;rw[List.pairwise_cons,List.pairwise_cons];refine⟨fun z hz =>?_,h⟩
   rcases List.mem_cons.mp hz with rfl | hz
   ·exact hxy
   ·exact Int.le_trans hxy (h.1 z hz)
  ·rename_i hxy;rw[List.pairwise_cons];refine⟨fun z hz =>?_,agc x h.2⟩
   rcases List.mem_cons.mp ((insI_perm x r).mem_iff.mp hz) with rfl | hz
   ·omega
   ·exact h.1 z hz
theorem aem:∀l:List Int,(sortI l).Pairwise (· <= ·)
 | []=>.nil
 | x::r=>agc x (aem r)
theorem ag2:∀{l k:List Int},l.Perm k->l.Pairwise (· <= ·)->k.Pairwise (· <= ·)->l=k
 | [],k,h,_,_=>h.nil_eq
 | x::r,[],h,_,_=>absurd h.length_eq (by simp)
 | x::r,y::t,h,hl,hk=>by
  rw[List.pairwise_cons] at hl hk;have e:x=y:=by
   have h1:x∈y::t:=h.mem_iff.mp (List.mem_cons_self ..);have h2:y∈x::r:=h.mem_iff.mpr (List.mem_cons_self ..);rcases List.mem_cons.mp h1 with h1 | h1
   ·exact h1
   ·rcases List.mem_cons.mp h2 with h2 | h2
    ·exact h2.symm
    ·have a:=hk.1 x h1;have b:=hl.1 y h2;omega
  subst e;rw[ag2 ((List.perm_cons x).mp h) hl.2 hk.2]
theorem as3(h:l.Perm k)(hs:l.Pairwise (· <= ·)):l=sortI k:=ag2 (h.trans (sortI_perm k).symm) hs (aem k)
theorem ael:∀{ns:List Int} {us:List Value},IntsAre us ns->Vals (ns.map V.int) us
 | _,_,.nil=>.nil
 | _,_,.cons n t h=>.cons ⟨t,rfl⟩ (ael h)
end
section
variable{K:Fg9}{X:Cx}{e a b c:Expr}{es:List Expr}{pos p p2:Pos}
def ad0(lt:Int->Int->Bool):List Int->Int
 | []=>0
 | x::r=>r.foldl (fun m y=>if lt y m=true then y else m) x
theorem ar5(lt:Int->Int->Bool)(ns:List Int):∀k,k < ns.length->argBest (fun i j=>lt (ns.getD i 0) (ns.getD j 0)) k<=k/\ns.getD (argBest (fun i j=>lt (ns.getD i 0) (ns.getD j 0)) k) 0=ad0 lt (ns.take (k+1))
 | 0,h=>by
  cases ns with
  | nil=>simp at h
  | cons x r=>exact⟨Nat.le_refl _,rfl⟩
 | k+1,h=>by
  obtain⟨h1,h2⟩:=ar5 lt ns k (by omega)
  have ht:ns.take (k+1+1)=ns.take (k+1)++[ns.getD (k+1) 0]:=by
   rw[List.take_add_one,List.getElem?_eq_getElem h];simp[List.getD,List.getElem?_eq_getElem h]
  have hb:ad0 lt (ns.take (k+1+1))=if lt (ns.getD (k+1) 0) (ad0 lt (ns.take (k+1)))=true then ns.getD (k+1) 0 else ad0 lt (ns.take (k+1)):=by
   rw[ht];cases ns with
   | nil=>simp at h
   | cons x r=>simp[ad0,List.foldl_append]
  have ha:argBest (fun i j=>lt (ns.getD i 0) (ns.getD j 0)) (k+1)=if lt (ns.getD (k+1) 0) (ns.getD (argBest (fun i j=>lt (ns.getD i 0) (ns.getD j 0)) k) 0)=true then k+1 else argBest (fun i j=>lt (ns.getD i 0) (ns.getD j 0)) k:=rfl
  rw[hb,<-h2,ha]
  by_cases hc:lt (ns.getD (k+1) 0) (ns.getD (argBest (fun i j=>lt (ns.getD i 0) (ns.getD j 0)) k) 0)=true
  ·rw[if_pos hc,if_pos hc];exact⟨Nat.le_refl _,rfl⟩
  ·rw[if_neg hc,if_neg hc];exact⟨by omega,rfl⟩
theorem auy(lt:Int->Int->Bool)(ns:List Int)(h:ns≠[]):argBest (fun i j=>lt (ns.getD i 0) (ns.getD j 0)) (ns.length - 1) < ns.length/\ns.getD (argBest (fun i j=>lt (ns.getD i 0) (ns.getD j 0)) (ns.length - 1)) 0=ad0 lt ns:=by
 have hl:0 < ns.length:=List.length_pos_iff.mpr h;obtain⟨h1,h2⟩:=ar5 lt ns (ns.length - 1) (by omega)
 refine⟨by omega,?_⟩
 rw[h2,show ns.length - 1+1=ns.length by omega,List.take_length]
def a05(lt:Int->Int->Bool):D->Option Rv
 | .lst l=>(aa2 l).bind fun ns=>if ns=[] then none else some (.v (.int (ad0 lt ns)))
 | .tup l=>(aa2 l).bind fun ns=>if ns=[] then none else some (.v (.int (ad0 lt ns)))
 | _=>none
theorem ak7(h:a05 lt d=some r):∃ns:List Int,ns≠[]/\r=.v (.int (ad0 lt ns))/\(d=.lst (ns.map D.int)∨d=.tup (ns.map D.int)):=by
 have go:∀l,(aa2 l).bind (fun ns=>if ns=[] then none else some (Rv.v (.int (ad0 lt ns))))=some r->∃ns:List Int,ns≠[]/\r=.v (.int (ad0 lt ns))/\l=ns.map D.int:=fun l h=>by
  cases e:aa2 l with
  | none=>rw[e] at h;cases h
  | some ns =>
   rw[e] at h;have h:(if ns=[] then none else some (Rv.v (.int (ad0 lt ns))))=some r:=h
   split at h
   ·cases h
   ·rename_i hn;cases h;exact⟨ns,hn,rfl,afl e⟩
 cases d with
 | lst l=>obtain⟨ns,h1,h2,rfl⟩:=go l h;exact⟨ns,h1,h2,.inl rfl⟩
 | tup l=>obtain⟨ns,h1,h2,rfl⟩:=go l h;exact⟨ns,h1,h2,.inr rfl⟩
 | _=>cases h
theorem agb{ns:List Int}{its:List Value}(rv:Vals (ns.map V.int) its)(i:Nat)(v:Value)(h:its.toArray[i]? = some v):∃t,v=.int (ns.getD i 0) t:=by
 have h:its[i]? = some v:=by simpa using h
 have hi:i < its.length:=(List.getElem?_eq_some_iff.mp h).1;have hl:=rv.length;rw[List.length_map] at hl;have hi':i < ns.length:=by omega
 obtain⟨u,hu,t,rfl⟩:=rv.get (i:=i) (x:=V.int ns[i]) (by rw[List.getElem?_map,List.getElem?_eq_getElem hi'];rfl)
 rw[h] at hu;cases hu;exact⟨t,by simp[List.getD,List.getElem?_eq_getElem hi']⟩
def axu:D->Option Rv:=a05 fun i j=>decide (i < j)
theorem ax8(hc:X.calm=true):CallD K X (.builtin "min") (g1 axu):=ahh fun hk zv s σ0 H x u Q tg F ρ σ d r I ru G bd eg q=>by
 subst hk;obtain⟨ns,hn,rfl,hd⟩:=ak7 eg;have q':=Res.same G q (.int _);obtain⟨hb1,hb2⟩:=auy (fun i j=>decide (i < j)) ns hn
 have fin:∀{its:List Value} (rv:Vals (ns.map V.int) its) {v:Value} {h':Heap} {tk:Nat},its.toArray[argBest (fun i j=>decide (ns.getD i 0 < ns.getD j 0)) (its.toArray.size - 1)]? = some v->(∀b o,s.heap.get? b=some o->h'.get? b=some o)->EP X zv σ0 Q v { s with heap:=h',toks:=tk }:=fun{its} rv {v h' tk} hv hk=>by
  have hl:=rv.length;rw[List.length_map] at hl;rw[List.size_toArray,<-hl] at hv;obtain⟨t,rfl⟩:=agb rv _ v hv;exact⟨.int (ad0 (fun i j=>decide (i < j)) ns),H,I.kept hk,⟨t,by rw[hb2]⟩,q'⟩
 rcases hd with rfl | rfl
 ·obtain⟨a,vs,rfl,ea,hl⟩:=bd.lst G.sub;rw[hl.int_inv] at ea;cases ru;obtain⟨its,rv,pl,_⟩:=I.list (SqL.of ea);have hl':=pl.isList;have hlt:a < s.heap.objs.size:=by obtain⟨_,e,_⟩:=hl';exact Heap.lt_size e
  have hlen:=rv.length;rw[List.length_map] at hlen;refine call_min_walk (wpAny_pyIter_list hl' ⟨s.heap.objs.size,[s.heap.objs.size,a],[s.heap.objs.size],its.toArray.size,_,_,_,rfl,Walks.list (A:=X.A.in1) (I.ok.hd hc) _ a (Nat.ne_of_lt hlt) its.toArray,
   ⟨⟨_,Heap.get?_push_size _ rfl,rfl,rfl⟩,hl'.push _⟩,fun b hb =>?_,?_,CmpOf.ints_lt (fun i=>ns.getD i 0) (fun i v=>agb rv i v),fun v h' tk hP hk=>fin rv hP (LSm.kept_iter hk)⟩)
  ·have hs:∀o:Obj,(s.heap.push o).objs.size=s.heap.objs.size+1:=fun o=>Heap.size_push ..
   show b < (s.heap.push _).objs.size;rw[hs];rcases List.mem_cons.mp hb with hb | hb
   ·exact hb▸Nat.lt_succ_self _
   ·have hb:b=a:=by simpa using hb
    exact hb▸Nat.lt_succ_of_lt hlt
  ·rw[List.size_toArray,<-hlen];exact List.length_pos_iff.mpr hn
 ·obtain⟨a,vs,rfl,ea,hl⟩:=bd.tup;rw[hl.int_inv] at ea;cases ru;obtain⟨its,rv,pl,_⟩:=I.tuple (SqT.of (G.sub _ _ ea));have hlt:a < s.heap.objs.size:=by obtain⟨_,e,_⟩:=pl;exact Heap.lt_size e
  have hlen:=rv.length;rw[List.length_map] at hlen;refine call_min_walk (wpAny_pyIter_tuple pl ⟨s.heap.objs.size,[s.heap.objs.size,a],[s.heap.objs.size],its.toArray.size,_,_,_,rfl,Walks.tuple (A:=X.A.in1) (I.ok.hd hc) _ a (Nat.ne_of_lt hlt) its.toArray,
   ⟨⟨_,Heap.get?_push_size _ rfl,rfl,rfl⟩,pl.push _⟩,fun b hb =>?_,?_,CmpOf.ints_lt (fun i=>ns.getD i 0) (fun i v=>agb rv i v),fun v h' tk hP hk=>fin rv hP (LSm.kept_iter hk)⟩)
  ·have hs:∀o:Obj,(s.heap.push o).objs.size=s.heap.objs.size+1:=fun o=>Heap.size_push ..
   show b < (s.heap.push _).objs.size;rw[hs];rcases List.mem_cons.mp hb with hb | hb
   ·exact hb▸Nat.lt_succ_self _
   ·have hb:b=a:=by simpa using hb
    exact hb▸Nat.lt_succ_of_lt hlt
  ·rw[List.size_toArray,<-hlen];exact List.length_pos_iff.mpr hn
end
section
variable{K:Fg9}{X:Cx}{e a b c:Expr}{es:List Expr}{pos p p2:Pos}
def rmOf(K:Fg9)(g:D->List D->Option D):V->List V->Hp->VK->Prop:=fun x vs H Q=>∃F d ds r,Same F H/\Bor K F H d x/\IsL K F ds vs/\g d ds=some r/\∀v,Is K F r v->Q v H
def aqt(d:D)(ds:List D):Option D:=match d,ds with
 | .lst l,[x]=>if okD 30 x&&l.all (okD 30) then some (.int (l.countP fun y=>eqD y x)) else none
 | _,_=>none
theorem ab5{zv:List (Addr×Obj)}{σ:L2.St}{F H:Hp}{s:Shared}(I:Inv X zv σ H s)(g:Same F H){a:D}{n:Nat}:∀{ds:List D} {vs:List V} {us:List Value},IsL X.K F ds vs->ds.all (okD n)=true->Vals vs us ->
  us.countP (aa3 s.heap (toPy a))=ds.countP (fun y=>eqD y a)
 | _,_,_,.nil,_,r=>by cases r;rfl
 | _,_,_,.cons h t,k,r=>by
  rw[List.all_cons,Bool.and_eq_true] at k;cases r with
  | cons r1 r2 =>
   obtain⟨as,ra⟩:=ab8 I g h k.1 r1;obtain⟨c,p⟩:=ack _ _ k.1;rw[List.countP_cons,List.countP_cons,ab5 I g t k.2 r2,aim ra c];rfl
theorem atr(hu:X.A.units+64 < cLine):X.K=K->MtR X "list.count" (rmOf K aqt):=fun hk=>by
 subst hk;intro zv s σ H x vs v us Q I rx rv z9;obtain⟨F,d,ds,r,g,bd,il,eg,q⟩:=z9
 match d,ds,eg with
 | .lst l,[y],eg =>
  have eg:(if okD 30 y&&l.all (okD 30) then some (D.int (l.countP fun z=>eqD z y)) else none)=some r:=eg
  split at eg
  ·rename_i ho;rw[Bool.and_eq_true] at ho;cases eg;cases il with
   | cons hy t =>
    cases t;obtain⟨u,rfl,ru⟩:=rv.one;obtain⟨p,ws,rfl,ea,hl⟩:=bd.lst g;cases rx;obtain⟨its,rw',pl,_⟩:=I.list (SqL.of ea);obtain⟨as,ra⟩:=ab8 I g hy ho.1 ru;obtain⟨_,z⟩:=za I g (a:=y) hl ho.2 rw';obtain⟨⟨cls,dd,data,sl⟩,h1,hc,n,hd⟩:=pl.isList;simp only at hc hd;subst hc hd;refine call_meets PySem.F.slot_list_count ⟨_,h1,rfl⟩ PySem.F.entry_list_count (PySem.F.args_list_count_2 _ _) (SeqAt.list_countAt p its.toArray n dd sl u (aa3 s.heap (toPy y))) ⟨h1,fun w hw =>?_,?_⟩
    ·exact xu (A:=X.A) hu ra ho.1 z w (by simpa using hw)
    ·refine⟨.int (l.countP fun z=>eqD z y),H,I.tok _,⟨s.toks,?_⟩,q _ (.int _)⟩
     rw[ab5 I g (a:=y) hl ho.2 rw']
  ·cases eg
def aqs(d:D)(ds:List D):Option D:=match d,ds with
 | .tup l,[x]=>if okD 30 x&&l.all (okD 30) then some (.int (l.countP fun y=>eqD y x)) else none
 | _,_=>none
theorem ap2(hu:X.A.units+64 < cLine):X.K=K->MtR X "tuple.count" (rmOf K aqs):=fun hk=>by
 subst hk;intro zv s σ H x vs v us Q I rx rv z9;obtain⟨F,d,ds,r,g,bd,il,eg,q⟩:=z9
 match d,ds,eg with
 | .tup l,[y],eg =>
  have eg:(if okD 30 y&&l.all (okD 30) then some (D.int (l.countP fun z=>eqD z y)) else none)=some r:=eg
  split at eg
  ·rename_i ho;rw[Bool.and_eq_true] at ho;cases eg;cases il with
   | cons hy t =>
    cases t;obtain⟨u,rfl,ru⟩:=rv.one;obtain⟨p,ws,rfl,ea,hl⟩:=bd.tup;cases rx;obtain⟨its,rw',pl,_⟩:=I.tuple (SqT.of (g _ _ ea));obtain⟨as,ra⟩:=ab8 I g hy ho.1 ru;obtain⟨_,z⟩:=za I g (a:=y) hl ho.2 rw';obtain⟨⟨cls,dd,data,sl⟩,h1,hc,n,hd⟩:=pl;simp only at hc hd;subst hc hd;refine call_meets PySem.F.slot_tuple_count ⟨_,h1,rfl⟩ PySem.F.entry_tuple_count (PySem.F.args_tuple_count_2 _ _) (SeqAt.tuple_countAt p its.toArray n dd sl u (aa3 s.heap (toPy y))) ⟨h1,fun w hw =>?_,?_⟩
    ·exact xu (A:=X.A) hu ra ho.1 z w (by simpa using hw)
    ·refine⟨.int (l.countP fun z=>eqD z y),H,I.tok _,⟨s.toks,?_⟩,q _ (.int _)⟩
     rw[ab5 I g (a:=y) hl ho.2 rw']
  ·cases eg
theorem PE.or(h1:PE X e t1)(h2:PE X e t2):PE X e fun σ H Q=>t1 σ H Q∨t2 σ H Q:=fun zv s σ H Q I h=>h.elim (h1 zv s σ H Q I) (h2 zv s σ H Q I)
def aij(d:D)(ds:List D):Option D:=match d with
 | .lst _=>aqt d ds
 | .tup _=>aqs d ds
 | _=>none
def ajg(i:Nat)(ms:M (List D)):M D:=(dq i).bind fun d0=>ms.bind fun ds=>(dq i).bind fun d=>(lift (match d0,d with
 | .lst _,.lst _=>some ()
 | .tup _,.tup _=>some ()
 | _,_=>none)).bind fun _=>lift (aij d ds)
theorem auq{d0 d:D}{u:Unit} (h:(match d0,d with
 | .lst _,.lst _=>some ()
 | .tup _,.tup _=>some ()
 | _,_=>none)=some u):(∃l l1,d0=.lst l/\d=.lst l1)∨∃l l1,d0=.tup l/\d=.tup l1:=by
 split at h
 ·exact .inl ⟨_,_,rfl,rfl⟩
 ·exact .inr ⟨_,_,rfl,rfl⟩
 ·cases h
theorem amx{i:Nat}{ms:M (List D)}{apos cpos:Pos}(hu:X.A.units+64 < cLine)(ho:PE X a (tVar i))(ha:ED K X (e::es) ms)
  (hbase:attributeBase a "count" X.env (eval a X.env)=eval a X.env:=by rfl)
  (hfew:((backTo cpos (starEach (e::es) X.env)).all (fun x => !x.1)&&(backToKw cpos (keywordEach [] X.env)).all (fun x=>x.1.isSome)
   && decide ((e::es).length+([]:List Keyword).length+(if ([]:List Keyword).isEmpty then 0 else 1) < 30))=true:=by rfl)
  (hline:(apos.endLine==cpos.line)=true:=by rfl) (hs:starEach (e::es) X.env=(false,eval e X.env)::starEach es X.env:=by rfl) (hplain:(backTo cpos (starEach es X.env)).any (·.1)=false:=by rfl) :
  EV K X (.Call (.Attribute a "count" apos) (e::es) [] cpos) (ajg i ms):=EV.mk fun hk=>PE.imp (PE.or (aw5 PySem.F.plainAttrs_list PySem.F.slot_list_count PySem.F.type_list_count (atr hu hk) ho (ha hk) hbase hfew hline hs hplain) (aw5 PySem.F.plainAttrs_tuple PySem.F.slot_tuple_count PySem.F.type_tuple_count (ap2 hu hk) ho (ha hk) hbase hfew hline hs hplain)) fun σ H Q z9=>by
 obtain⟨tg,F,ρ,d,ρ',G,em,q⟩:=z9;obtain⟨d0,ρ0,e0,em1⟩:=bj em;obtain⟨ds,ρ1,e1,em3⟩:=bj em1;obtain⟨d1,ρ2,e2,em4⟩:=bj em3;obtain⟨u0,ρ9,e9,em5⟩:=bj em4;obtain⟨e3,rfl⟩:=jc em5;obtain⟨g9,rfl⟩:=jc e9;obtain⟨rfl,v,hv,bv⟩:=yg G e0;rcases auq g9 with⟨l,l1,rfl,rfl⟩ | ⟨l,l1,rfl,rfl⟩
 ·obtain⟨b,xs,rfl,hb,_⟩:=bv.lst G.sub;refine .inl ⟨_,hv,.inl ⟨rfl,xs,SqL.of hb⟩,tg,F,_,ds,ρ1,G,e1,fun vs H1 F1 G1 x1 r1 =>?_⟩
  obtain⟨rfl,v',hv',b'⟩:=yg G1 e2;rw[hv] at hv';cases hv';exact⟨F1,.lst l1,ds,d,G1.sub,b',r1,e3,fun w iw=>q w H1 F1 G1 x1 iw⟩
 ·obtain⟨b,xs,rfl,hb,_⟩:=bv.tup;refine .inr ⟨_,hv,.inr (.inl ⟨rfl,.inr ⟨xs,G.sub _ _ hb⟩⟩),tg,F,_,ds,ρ1,G,e1,fun vs H1 F1 G1 x1 r1 =>?_⟩
  obtain⟨rfl,v',hv',b'⟩:=yg G1 e2;rw[hv] at hv';cases hv';exact⟨F1,.tup l1,ds,d,G1.sub,b',r1,e3,fun w iw=>q w H1 F1 G1 x1 iw⟩
section
variable(ρ:Ro)
@[simp] theorem ayp(l:List D)(x:D):aqt (.lst l) [x]=if okD 30 x&&l.all (okD 30) then some (.int (l.countP fun y=>eqD y x)) else none:=rfl
end
end
end Dn
namespace En
open PySem PySem.Builtin
def It1(k:Bool)(h:Heap)(it l:Addr)(i:Nat):Prop:=cond k (h.IsTupleIter it l i) (h.IsListIter it l i)
def Sq1(k:Bool)(h:Heap)(l:Addr)(xs:Array Value):Prop:=cond k (h.IsTuple l xs) (h.IsList l xs)
section
variable{prog:Program}{w:World}{A:Around}{E:Value->Shared->Prop}{s:Shared}
theorem axe(h1:s.heap.IsTupleIter it t i)(h2:s.heap.IsTuple t xs)(hx:xs[i]? = some x)
  (q:∀h',h'.IsTupleIter it t (i+1)->Heap.SameBut it s.heap h'->Q x { s with heap:=h' }):wpAny (model prog w) A (SmallTypes.nextOf (.ref it)) Q E s:=by
 obtain⟨o1,e1,c1,d1⟩:=id h1;obtain⟨o2,e2,_,k2,d2⟩:=h2;have nn:¬((Value.ref t==Value.none)=true):=Bool.false_ne_true;unfold SmallTypes.nextOf;refine wpAny_bind (wpAny_callSpecial?_slot (name:=Str.ofString "__next__") h1.typeIs F.slot_tuple_iterator_next (wpAny_call_entry F.slot_tuple_iterator_next h1.typeIs F.entry_tuple_iterator_next ?_ (F.args_tuple_iterator_next_1 _)));refine wpAny_bind (m:=field (.ref it) 0) (wpAny_field e1 d1 (x:=.ref t) rfl ?_);show wpAny _ _ (if (Value.ref t==Value.none)=true then _ else (field (.ref it) 1 >>= _)) _ _ s;rw[if_neg nn]
 refine wpAny_bind (m:=field (.ref it) 1) (wpAny_field e1 d1 (x:=.int i 0) rfl ?_);refine wpAny_bind (m:=seqItems? (.ref t)) (wpAny_seqItems e2 d2 ?_);simp only[Int.toNat_natCast,hx];refine wpAny_bind (wpAny_setField e1 d1 (by simp) (wpAny_pure ⟨x,rfl,wpAny_pure (q _ ?_ (Heap.SameBut.update ..))⟩))
 refine⟨_,Heap.get?_update_self _ e1 (Obj.isFreed_of_fields (Obj.data_mapFields d1 _)),(Obj.cls_mapFields ..).trans c1,?_⟩;rw[Obj.data_mapFields d1];simp[rawInt]
theorem ax4(hh:A.handled=none)(h1:s.heap.IsTupleIter it t i)(h2:s.heap.IsTuple t xs)(hx:xs[i]? = none)
  (q:∀h' e,Heap.ExtBut it s.heap h'->(∃o,h'.get? e=some o/\o.cls=.type "StopIteration")->E (.ref e) { s with heap:=h' }):wpAny (model prog w) A (SmallTypes.nextOf (.ref it)) Q E s:=by
 obtain⟨o1,e1,c1,d1⟩:=id h1;obtain⟨o2,e2,_,k2,d2⟩:=h2;have nn:¬((Value.ref t==Value.none)=true):=Bool.false_ne_true;unfold SmallTypes.nextOf;refine wpAny_bind (wpAny_callSpecial?_slot (name:=Str.ofString "__next__") h1.typeIs F.slot_tuple_iterator_next (wpAny_call_entry F.slot_tuple_iterator_next h1.typeIs F.entry_tuple_iterator_next ?_ (F.args_tuple_iterator_next_1 _)));refine wpAny_bind (m:=field (.ref it) 0) (wpAny_field e1 d1 (x:=.ref t) rfl ?_);show wpAny _ _ (if (Value.ref t==Value.none)=true then _ else (field (.ref it) 1 >>= _)) _ _ s;rw[if_neg nn]
 refine wpAny_bind (m:=field (.ref it) 1) (wpAny_field e1 d1 (x:=.int i 0) rfl ?_);refine wpAny_bind (m:=seqItems? (.ref t)) (wpAny_seqItems e2 d2 ?_);simp only[Int.toNat_natCast,hx];refine wpAny_bind (wpAny_rule (wpAny_bind (wpAny_setField e1 d1 (by simp) ?_)))
 refine wpAny_bind (m:=newExc (.type "StopIteration") []) ?_;simp only[newExc,newTuple];refine wpAny_bind (wpAny_newObj_type ?_ (by size_fits))
 refine wpAny_bind (m:=firstArgMember _ _) (wpAny_of_eq (a:=Value.none) (by first | rfl | (simp only[firstArgMember];rfl)) (wpAny_newObj_type ?_ (by size_fits)))
 simp only[raiseNew];refine wpAny_bind (wpAny_handled ?_);first | rw[show A.in1.handled=none from hh] | rw[hh]
 refine wpAny_bind (wpAny_pure (wpAny_throw (q _ _ ?_ ⟨_,Heap.get?_push_size _ rfl,rfl⟩)));exact((Heap.SameBut.update ..).extBut.push _).push _
theorem src(hh:A.handled=none)(k:Bool)(it l:Addr)(ne:l≠it)(xs:Array Value):Draws prog w A it [it,l] xs.size (fun i v=>xs[i]? = some v) (fun i h=>It1 k h it l i/\Sq1 k h l xs):=by
 cases k with
 | false=>exact Draws.list hh it l ne xs
 | true=>exact{
   live:=fun _ _ z=>let ⟨o,e,_⟩:=z.1;⟨o,e⟩
   frame:=fun _ _ _ z kk=>⟨(let ⟨o,e,r⟩:=z.1;⟨o,kk it (by simp) o e,r⟩),(let ⟨o,e,r⟩:=z.2;⟨o,kk l (by simp) o e,r⟩)⟩
   item:=fun i s Q E hi z q=>axe z.1 z.2 (x:=xs[i]) (by simp[hi]) fun h' z' sb=>q _ h' s.toks (by simp[hi]) ⟨z',Heap.IsTuple.extBut z.2 sb.extBut ne⟩ sb
   done:=fun s Q E z q=>ax4 hh z.1 z.2 (by simp) q }
theorem It1.at(x:It1 k h it l i)(e:∀o,h.get? it=some o->h'.get? it=some o):It1 k h' it l i:=by
 cases k <;> exact(let ⟨o,z,r⟩:=x;⟨o,e _ z,r⟩)
theorem It1.got(x:It1 k h it l i):∃o,h.get? it=some o/\∀v,o.data≠.cell v:=by
 cases k <;> exact(let ⟨o,z,_,r⟩:=x;⟨o,z,fun v e=>by rw[r] at e;cases e⟩)
theorem Sq1.at(x:Sq1 k h l xs)(e:∀o,h.get? l=some o->h'.get? l=some o):Sq1 k h' l xs:=by
 cases k <;> exact(let ⟨o,z,r⟩:=x;⟨o,e _ z,r⟩)
theorem Sq1.got(x:Sq1 k h l xs):∃o,h.get? l=some o:=by
 cases k <;> exact(let ⟨o,z,_⟩:=x;⟨o,z⟩)
theorem at7(h:Sq1 k s.heap l xs)
  (q:Q (.ref s.heap.objs.size) { s with heap:=s.heap.push { cls:=.type (cond k "tuple_iterator" "list_iterator"),data:=.fields #[.ref l,.int 0 0] } }):wpAny (model prog w) A (pyIter (.ref l)) Q E s:=by
 cases k with
 | false=>exact wpAny_pyIter_list h q
 | true=>exact wpAny_pyIter_tuple h q
theorem ak4(e:h.get? a=some { cls:=.type (cond k "tuple_iterator" "list_iterator"),data:=.fields #[.ref l,.int 0 0] }):It1 k h a l 0:=by
 cases k <;> exact⟨_,e,rfl,rfl⟩
end
set_option maxRecDepth 100000
abbrev eh1(k:Bool)(h:Heap)(l:Addr):Heap:=h.push { cls:=.type (cond k "tuple_iterator" "list_iterator"),data:=.fields #[.ref l,.int 0 0] }
abbrev eh2(k:Bool)(h:Heap)(l:Addr):Heap:=(eh1 k h l).push { cls:=.type "enumerate", data:=.fields #[.none,.bool false,.ref h.objs.size,rawInt 0,.none,.none] }
theorem axk(k:Bool)(l:Addr)(o:Obj)(xs:Array Value) :
  Meets (Builtin.«enumerate.__new__» ⟨[.type "enumerate", .ref l],[]⟩) (fun _ R s=>s.heap.get? l=some o/\Sq1 k s.heap l xs/\R (.ok (.ret (.ref (eh1 k s.heap l).objs.size))) { s with heap:=eh2 k s.heap l }) :=
 .of_wp fun prog w A R s h=>by
  obtain⟨hp,g,d,tk,os⟩:=s;obtain⟨ho,r1,h⟩:=h;have sb:=sub_enumerate;have r1:Sq1 k (Shared.heap ⟨hp,g,d,tk,os⟩) l xs:=r1;wp_walk using AutoSeq1.wpAny_loadPart' ho;refine wpAny_stack_any fun st=>wpAny_pure ?_
  split
  ·rename_i c _ _ _ _ _;cases(c==Value.type "enumerate") <;> (wp_walk using AutoSeq1.wpAny_loadPart' ho,at7 r1;exact⟨_,rfl,h⟩)
  ·wp_walk using AutoSeq1.wpAny_loadPart' ho,at7 r1;exact⟨_,rfl,h⟩
theorem aru(s1:Sq1 k s.heap l xs)
  (q:∀h',IsEnum h' (s.heap.objs.size+1) s.heap.objs.size 0 .none->It1 k h' s.heap.objs.size l 0->h'.objs.size=s.heap.objs.size+2->(∀b o,s.heap.get? b=some o->h'.get? b=some o)->Q (.ref (s.heap.objs.size+1)) { s with heap:=h' }) :
  wpAny (model prog w) A (call (.type "enumerate") [.ref l]) Q E s:=by
 obtain⟨o,ho⟩:=s1.got;refine callType_new F.called_enumerate (by decide) (F.typeCall_enumerate_1 _) (F.newCall_enumerate_1 _) (fun obj=>F.args_object_init_2 obj _) F.entry_enumerate_new (axk k l o xs) ⟨ho,s1,?_⟩
 have z1:(eh1 k s.heap l).objs.size=s.heap.objs.size+1:=Heap.size_push ..
 have g2:(eh2 k s.heap l).get? (eh1 k s.heap l).objs.size=some _:=Heap.get?_push_size _ rfl;have g1:(eh2 k s.heap l).get? s.heap.objs.size=some _:=Heap.get?_push_of_some _ (Heap.get?_push_size _ rfl);rw[z1] at g2;show _/\_;rw[z1];exact⟨⟨_,g2,rfl⟩,q _ g2 (ak4 g1) (by rw[Heap.size_push,z1]) fun b o x=>Heap.get?_push_of_some _ (Heap.get?_push_of_some _ x)⟩
end En
namespace En
open PySem PySem.Builtin
set_option maxRecDepth 100000
theorem awa(v1 v2:Value):checkTypeCall "zip" ⟨[v1,v2],[]⟩=pure ():=by kernel_rfl
theorem axh(v1 v2:Value):checkBuiltinCall "zip.__new__" ⟨[.type "zip", v1,v2],[]⟩=pure ():=by kernel_rfl
theorem ayh(o v1 v2:Value):argsOk "object.__init__" ⟨[o,v1,v2],[]⟩:=by
 unfold argsOk;rw[signature?_of (id := "object.__init__") (n:=['_','_','t','i','n','i','_','_']) (o:=['t','c','e','j','b','o']) (by kernel_rfl) F.owner_object];kernel_rfl
abbrev Row2(h:Heap)(T:Addr)(v1 v2:Value):Prop:=h.get? T=some { cls:=.type "tuple", data:=.seq #[v1,v2] }
structure Apart2 (z TI TO i1 i2 l1 l2:Addr):Prop where
 nTIz:TI≠z
 nTOz:TO≠z
 nTOTI:TO≠TI
 ni1z:i1≠z
 ni1TI:i1≠TI
 ni1TO:i1≠TO
 ni2z:i2≠z
 ni2TI:i2≠TI
 ni2TO:i2≠TO
 ni2i1:i2≠i1
 nl1z:l1≠z
 nl1TO:l1≠TO
 nl1i1:l1≠i1
 nl1i2:l1≠i2
 nl2z:l2≠z
 nl2TO:l2≠TO
 nl2i1:l2≠i1
 nl2i2:l2≠i2
section
variable{prog:Program}{w:World}{A:Around}{E:Value->Shared->Prop}{s:Shared}
theorem azc(h:Row2 s.heap T v1 v2)(q:∀h',Row2 h' T x v2->Heap.SameBut T s.heap h'->Q () { s with heap:=h' }):wpAny (model prog w) A (updateSeq T (·.setIfInBounds 0 x)) Q E s:=by
 refine wpAny_updateSeq h rfl (q _ (show Heap.get? _ T=_ from ?_) (Heap.SameBut.update ..))
 rw[Heap.get?_update_self _ h rfl];simp[Obj.mapSeq]
theorem azb(h:Row2 s.heap T v1 v2)(q:∀h',Row2 h' T v1 x->Heap.SameBut T s.heap h'->Q () { s with heap:=h' }):wpAny (model prog w) A (updateSeq T (·.setIfInBounds 1 x)) Q E s:=by
 refine wpAny_updateSeq h rfl (q _ (show Heap.get? _ T=_ from ?_) (Heap.SameBut.update ..))
 rw[Heap.get?_update_self _ h rfl];simp[Obj.mapSeq]
theorem aoo{z TI TO i1 i2 l1 l2:Addr}{k1 k2:Bool}{i:Nat}{x1 x2:Array Value}{v1 v2:Value}{Q:Value->Shared->Prop}(hh:A.handled=none)(D:Apart2 z TI TO i1 i2 l1 l2)
  (hz:IsZip s.heap z TI TO .none) (hI:Row2 s.heap TI (.ref i1) (.ref i2)) (hO:Row2 s.heap TO v1 v2) (h1:It1 k1 s.heap i1 l1 i) (s1:Sq1 k1 s.heap l1 x1) (h2:It1 k2 s.heap i2 l2 i) (s2:Sq1 k2 s.heap l2 x2) (b1:i < x1.size) (b2:i < x2.size)
  (q:∀h' tk y1 y2,x1[i]? = some y1->x2[i]? = some y2->IsZip h' z TI TO (rawInt s.heap.objs.size)->Row2 h' TO y1 y2->It1 k1 h' i1 l1 (i+1)->It1 k2 h' i2 l2 (i+1)->Row2 h' s.heap.objs.size y1 y2->h'.objs.size=s.heap.objs.size+1 ->
   (∀c o,c≠z->c≠TO->c≠i1->c≠i2->s.heap.get? c=some o->h'.get? c=some o)->Q (.ref s.heap.objs.size) { s with heap:=h',toks:=tk }) :
  wpAny (model prog w) A (Builtin.«zip.__next__» ⟨[.ref z],[]⟩) (fun fin s'=>∃v,fin=.done (.ret v)/\Q v s') E s:=by
 refine wpAny_bind (m:=field (.ref z) 2) (wpAny_field hz rfl (x:=.bool false) rfl ?_);refine wpAny_bind (m:=field (.ref z) 3) (wpAny_field hz rfl (x:=.ref TI) rfl ?_);refine wpAny_bind (wpAny_seqItems hI rfl ?_);refine wpAny_bind (m:=SmallTypes.ownedTupleIsFree (.ref z)) ?_;unfold SmallTypes.ownedTupleIsFree;refine wpAny_bind (wpAny_field hz rfl (x:=.none) rfl (wpAny_pure ?_));simp only[if_true];refine wpAny_bind (wpAny_rule (wpAny_bind (wpAny_field hz rfl (x:=.ref TO) rfl ?_)));refine wpAny_bind (wpAny_setField_rec hz (by simp) fun g0 z0 a0 =>?_)
 have z0:IsZip g0 z TI TO .ellipsis:=z0;refine wpAny_bind ?_;simp only[List.zipIdx_cons,List.zipIdx_nil,List.forIn_cons,List.forIn_nil];refine wpAny_bind (wpAny_bind (wpAny_onRaise ?_));refine wpAny_bind (m:=SmallTypes.nextOf (.ref i1)) ((src hh k1 i1 l1 D.nl1i1 x1).item i _ _ _ b1 ⟨(h1.at fun _ e=>(a0.extBut _ _ D.ni1z e)),(s1.at fun _ e=>(a0.extBut _ _ D.nl1z e))⟩ fun y1 f1 t1 p1 q1 c1=>wpAny_pure ?_)
 have c1:Heap.SameBut i1 g0 f1:=c1;have P1:Row2 f1 TO v1 v2:=(c1.extBut _ _ D.ni1TO.symm (a0.extBut _ _ D.nTOz hO));refine wpAny_bind (wpAny_seqItems P1 rfl ?_);refine wpAny_bind (azc P1 fun g1 O1 a1 =>?_)
 have a1:Heap.SameBut TO f1 g1:=a1;refine wpAny_bind (wpAny_letGo (wpAny_pure ?_));refine wpAny_bind (wpAny_bind (wpAny_onRaise ?_));refine wpAny_bind (m:=SmallTypes.nextOf (.ref i2)) ((src hh k2 i2 l2 D.nl2i2 x2).item i _ _ _ b2 ⟨(h2.at fun _ e=>(a1.extBut _ _ D.ni2TO (c1.extBut _ _ D.ni2i1 (a0.extBut _ _ D.ni2z e)))),(s2.at fun _ e=>(a1.extBut _ _ D.nl2TO (c1.extBut _ _ D.nl2i1 (a0.extBut _ _ D.nl2z e))))⟩ fun y2 f2 t2 p2 q2 c2=>wpAny_pure ?_)
 have c2:Heap.SameBut i2 g1 f2:=c2;have P2:Row2 f2 TO y1 v2:=(c2.extBut _ _ D.ni2TO.symm O1);refine wpAny_bind (wpAny_seqItems P2 rfl ?_);refine wpAny_bind (azb P2 fun g2 O2 a2 =>?_)
 have a2:Heap.SameBut TO f2 g2:=a2;refine wpAny_bind (wpAny_letGo (wpAny_pure (wpAny_pure ?_)));refine wpAny_bind (wpAny_seqItems O2 rfl (wpAny_bind (wpAny_newTuple ?_)));have sz:g2.objs.size=s.heap.objs.size:=by rw[a2.1,c2.1,a1.1,c1.1,a0.1]
 have zn:IsZip g2 z TI TO .ellipsis:=(a2.extBut _ _ D.nTOz.symm (c2.extBut _ _ D.ni2z.symm (a1.extBut _ _ D.nTOz.symm (c1.extBut _ _ D.ni1z.symm z0))));have kn:∀c o,c≠z->c≠TO->c≠i1->c≠i2->s.heap.get? c=some o->g2.get? c=some o:=fun c o n0 n1 n2 n3 e=>(a2.extBut _ _ n1 (c2.extBut _ _ n3 (a1.extBut _ _ n1 (c1.extBut _ _ n2 (a0.extBut _ _ n0 e)))))
 have j1:It1 k1 g2 i1 l1 (i+1):=q1.1.at fun _ e=>(a2.extBut _ _ D.ni1TO (c2.extBut _ _ D.ni2i1.symm (a1.extBut _ _ D.ni1TO e)))
 have j2:It1 k2 g2 i2 l2 (i+1):=q2.1.at fun _ e=>(a2.extBut _ _ D.ni2TO e)
 have lz:z < g2.objs.size:=Heap.lt_size zn;refine wpAny_bind (m:=SmallTypes.ownedTupleHandOut (.ref z) (.ref g2.objs.size)) ?_;unfold SmallTypes.ownedTupleHandOut;have zp:IsZip (g2.push { cls:=.type "tuple", data:=.seq #[y1,y2] }) z TI TO .ellipsis:=Heap.get?_push_of_some _ zn;refine wpAny_bind (wpAny_setField_rec zp (by simp) fun e1 z1 b1' =>?_)
 have z1:IsZip e1 z TI TO (rawInt g2.objs.size):=z1;refine wpAny_setField_rec z1 (by simp) fun e2 z2 b2' =>?_
 have z2:IsZip e2 z TI TO (rawInt g2.objs.size):=z2;have up:∀c o,c≠z->g2.get? c=some o->e2.get? c=some o:=fun c o n1 e=>b2'.extBut _ _ n1 (b1'.extBut _ _ n1 (Heap.get?_push_of_some _ e))
 have t2:Row2 e2 g2.objs.size y1 y2:=b2'.extBut _ _ (Nat.ne_of_gt lz) (b1'.extBut _ _ (Nat.ne_of_gt lz) (Heap.get?_push_size _ rfl));have s2':e2.objs.size=g2.objs.size+1:=by rw[b2'.1,b1'.1,Heap.size_push]
 rw[sz] at z2 t2 s2';refine wpAny_pure ⟨_,rfl,?_⟩;show Q (.ref g2.objs.size) _;rw[sz];exact q e2 _ y1 y2 p1 p2 z2 (up _ _ D.nTOz O2) (j1.at fun _ e=>up _ _ D.ni1z e) (j2.at fun _ e=>up _ _ D.ni2z e) t2 s2' fun c o n0 n1 n2 n3 e=>up c o n0 (kn c o n0 n1 n2 n3 e)
theorem asl(hh:A.handled=none)(D:Apart2 z TI TO i1 i2 l1 l2)
  (hz:IsZip s.heap z TI TO .none) (hI:Row2 s.heap TI (.ref i1) (.ref i2)) (hO:Row2 s.heap TO v1 v2) (h1:It1 k1 s.heap i1 l1 x1.size) (s1:Sq1 k1 s.heap l1 x1)
  (q:∀h' e,(∀c o,c≠z->c≠i1->s.heap.get? c=some o->h'.get? c=some o)->(∃o,h'.get? e=some o/\o.cls=.type "StopIteration")->E (.ref e) { s with heap:=h' }) :
  wpAny (model prog w) A (Builtin.«zip.__next__» ⟨[.ref z],[]⟩) Q E s:=by
 refine wpAny_bind (m:=field (.ref z) 2) (wpAny_field hz rfl (x:=.bool false) rfl ?_);refine wpAny_bind (m:=field (.ref z) 3) (wpAny_field hz rfl (x:=.ref TI) rfl ?_);refine wpAny_bind (wpAny_seqItems hI rfl ?_);refine wpAny_bind (m:=SmallTypes.ownedTupleIsFree (.ref z)) ?_;unfold SmallTypes.ownedTupleIsFree;refine wpAny_bind (wpAny_field hz rfl (x:=.none) rfl (wpAny_pure ?_));simp only[if_true];refine wpAny_bind (wpAny_rule (wpAny_bind (wpAny_field hz rfl (x:=.ref TO) rfl ?_)));refine wpAny_bind (wpAny_setField_rec hz (by simp) fun g0 z0 a0 =>?_)
 have z0:IsZip g0 z TI TO .ellipsis:=z0;refine wpAny_bind ?_;simp only[List.zipIdx_cons,List.zipIdx_nil,List.forIn_cons,List.forIn_nil];refine wpAny_bind (wpAny_bind (wpAny_onRaise ?_));refine wpAny_bind (m:=SmallTypes.nextOf (.ref i1)) ((src hh k1 i1 l1 D.nl1i1 x1).done _ _ _ ⟨(h1.at fun _ e=>a0.extBut _ _ D.ni1z e),(s1.at fun _ e=>a0.extBut _ _ D.nl1z e)⟩ fun f1 e c1 ⟨oe,he,ce⟩ =>?_)
 have zf:IsZip f1 z TI TO .ellipsis:=c1 _ _ D.ni1z.symm z0;have ez:e≠z:=fun x=>by subst x;rw[zf] at he;cases he;simp at ce
 refine wpAny_setField_rec zf (by simp) fun f2 _ a1=>q f2 e (fun c o n1 n2 y=>a1.extBut _ _ n1 (c1 _ _ n2 (a0.extBut _ _ n1 y))) ⟨oe,a1.extBut _ _ ez he,ce⟩
abbrev aoq(h:Heap)(k1 k2:Bool)(l1 l2:Addr):Heap:=h.push { cls:=.type (cond k1 "tuple_iterator" "list_iterator"),data:=.fields #[.ref l1,.int 0 0] }
abbrev aso(h:Heap)(k1 k2:Bool)(l1 l2:Addr):Heap:=(aoq h k1 k2 l1 l2).push { cls:=.type (cond k2 "tuple_iterator" "list_iterator"),data:=.fields #[.ref l2,.int 0 0] }
abbrev asn(h:Heap)(k1 k2:Bool)(l1 l2:Addr):Heap:=(aso h k1 k2 l1 l2).push { cls:=.type "tuple", data:=.seq #[.ref h.objs.size,.ref (aoq h k1 k2 l1 l2).objs.size] }
abbrev asm(h:Heap)(k1 k2:Bool)(l1 l2:Addr):Heap:=(asn h k1 k2 l1 l2).push { cls:=.type "tuple", data:=.seq #[.none,.none] }
abbrev akg(h:Heap)(k1 k2:Bool)(l1 l2:Addr):Heap:=(asm h k1 k2 l1 l2).push { cls:=.type "zip", data:=.fields #[.none,.bool false,.bool false,.ref (aso h k1 k2 l1 l2).objs.size,.ref (asn h k1 k2 l1 l2).objs.size] }
theorem axj(k1 k2:Bool)(l1 l2:Addr)(x1 x2:Array Value) :
  Meets (Builtin.«zip.__new__» ⟨[.type "zip", .ref l1,.ref l2],[]⟩) (fun _ R s=>Sq1 k1 s.heap l1 x1/\Sq1 k2 s.heap l2 x2/\R (.ok (.ret (.ref (asm s.heap k1 k2 l1 l2).objs.size))) { s with heap:=akg s.heap k1 k2 l1 l2 }) :=
 .of_wp fun prog w A R s h=>by
  obtain⟨hp,g,d,tk,os⟩:=s;obtain⟨s1,s2,h⟩:=h;have sb:=sub_zip;have r1:Sq1 k1 (Shared.heap ⟨hp,g,d,tk,os⟩) l1 x1:=s1.at fun _ e=>e
  have r2:Sq1 k2 (Shared.heap ⟨aoq hp k1 k2 l1 l2,g,d,tk,os⟩) l2 x2:=s2.at fun _ e=>Heap.get?_push_of_some _ (e)
  wp_walk using at7 r1,at7 r2;exact⟨_,rfl,h⟩
theorem arp(s1:Sq1 k1 s.heap l1 x1)(s2:Sq1 k2 s.heap l2 x2)
  (q:∀h',IsZip h' (s.heap.objs.size+4) (s.heap.objs.size+2) (s.heap.objs.size+3) .none->Row2 h' (s.heap.objs.size+2) (.ref s.heap.objs.size) (.ref (s.heap.objs.size+1))->Row2 h' (s.heap.objs.size+3) .none .none->It1 k1 h' s.heap.objs.size l1 0->It1 k2 h' (s.heap.objs.size+1) l2 0->h'.objs.size=s.heap.objs.size+5->(∀c o,s.heap.get? c=some o->h'.get? c=some o)->Q (.ref (s.heap.objs.size+4)) { s with heap:=h' }) :
  wpAny (model prog w) A (call (.type "zip") [.ref l1,.ref l2]) Q E s:=by
 refine callType_new F.called_zip (by decide) (awa _ _) (axh _ _) (fun obj=>ayh obj _ _) F.entry_zip_new (axj k1 k2 l1 l2 x1 x2) ⟨s1,s2,?_⟩
 have e1:(aoq s.heap k1 k2 l1 l2).objs.size=s.heap.objs.size+1:=by rw[Heap.size_push]
 have e2:(aso s.heap k1 k2 l1 l2).objs.size=s.heap.objs.size+2:=by rw[Heap.size_push,e1]
 have eI:(asn s.heap k1 k2 l1 l2).objs.size=s.heap.objs.size+3:=by rw[Heap.size_push,e2]
 have eO:(asm s.heap k1 k2 l1 l2).objs.size=s.heap.objs.size+4:=by rw[Heap.size_push,eI]
 have eZ:(akg s.heap k1 k2 l1 l2).objs.size=s.heap.objs.size+5:=by rw[Heap.size_push,eO]
 have gZ:(akg s.heap k1 k2 l1 l2).get? (asm s.heap k1 k2 l1 l2).objs.size=some _:=Heap.get?_push_size _ rfl;have gO:(akg s.heap k1 k2 l1 l2).get? (asn s.heap k1 k2 l1 l2).objs.size=some _:=Heap.get?_push_of_some _ (Heap.get?_push_size _ rfl);have gI:(akg s.heap k1 k2 l1 l2).get? (aso s.heap k1 k2 l1 l2).objs.size=some _:=Heap.get?_push_of_some _ (Heap.get?_push_of_some _ (Heap.get?_push_size _ rfl));have j1:(akg s.heap k1 k2 l1 l2).get? s.heap.objs.size=some _:=Heap.get?_push_of_some _ (Heap.get?_push_of_some _ (Heap.get?_push_of_some _ (Heap.get?_push_of_some _ (Heap.get?_push_size _ rfl))));have j2:(akg s.heap k1 k2 l1 l2).get? (aoq s.heap k1 k2 l1 l2).objs.size=some _:=Heap.get?_push_of_some _ (Heap.get?_push_of_some _ (Heap.get?_push_of_some _ (Heap.get?_push_size _ rfl)));show _/\_;rw[e2,eI,eO] at gZ;rw[e1,e2] at gI;rw[eI] at gO;rw[e1] at j2;rw[eO];exact⟨⟨_,gZ,rfl⟩,q _ gZ gI gO (ak4 j1) (ak4 j2) eZ fun c o x=>Heap.get?_push_of_some _ (Heap.get?_push_of_some _ (Heap.get?_push_of_some _ (Heap.get?_push_of_some _ (Heap.get?_push_of_some _ (x)))))⟩
end
structure Apart3 (z TI TO i1 i2 i3 l1 l2 l3:Addr):Prop where
 nTIz:TI≠z
 nTOz:TO≠z
 nTOTI:TO≠TI
 ni1z:i1≠z
 ni1TI:i1≠TI
 ni1TO:i1≠TO
 ni2z:i2≠z
 ni2TI:i2≠TI
 ni2TO:i2≠TO
 ni2i1:i2≠i1
 ni3z:i3≠z
 ni3TI:i3≠TI
 ni3TO:i3≠TO
 ni3i1:i3≠i1
 ni3i2:i3≠i2
 nl1z:l1≠z
 nl1TO:l1≠TO
 nl1i1:l1≠i1
 nl1i2:l1≠i2
 nl1i3:l1≠i3
 nl2z:l2≠z
 nl2TO:l2≠TO
 nl2i1:l2≠i1
 nl2i2:l2≠i2
 nl2i3:l2≠i3
 nl3z:l3≠z
 nl3TO:l3≠TO
 nl3i1:l3≠i1
 nl3i2:l3≠i2
 nl3i3:l3≠i3
section
variable{prog:Program}{w:World}{A:Around}{E:Value->Shared->Prop}{s:Shared}
end
end En
namespace Mn
open L2 En
def SqK(k:Bool)(K:Fg9)(H:Hp)(a:Addr)(xs:List V):Prop:=cond k (SqT K H a xs) (SqL K H a xs)
theorem afn{xs:List V}{us:List Value}(r:Vals xs us){i:Nat}{x:V}{u:Value}(h:xs[i]? = some x)(h':us.toArray[i]? = some u):RelV x u:=by
 obtain⟨u',e,z⟩:=r.get h;have:us[i]? = some u:=by simpa using h'
 rw[this] at e;cases e;exact z
section
variable{X:Cx}{zv:List (Addr×Obj)}{σ:L2.St}{H:Hp}{s:Shared}{h':Heap}{a:Addr}{xs ys:List V}{k:Bool}
theorem aet(I:Inv X zv σ H s)(h:SqK k X.K H a xs):∃its:List Value,Vals xs its/\Sq1 k s.heap a its.toArray:=by
 cases k with
 | false =>
  obtain⟨its,r,p,_⟩:=I.list h;exact⟨its,r,p.isList⟩
 | true =>
  obtain⟨its,r,p,_⟩:=I.tuple h;exact⟨its,r,p⟩
theorem ak5(I:Inv X zv σ H s)(h:SqK k X.K H a xs)(h2:SqK k X.K H a ys):xs=ys:=by
 cases k with
 | false=>exact I.list_inj h h2
 | true=>exact I.tuple_inj h h2
theorem aef{t':Nat}{fp:List Addr}(I:Inv X zv σ H s)(kk:∀b o,b∉fp->s.heap.get? b=some o->h'.get? b=some o)(hf:∀b∈fp,FpOk X zv H b):Inv X zv σ H { s with heap:=h',toks:=t' }:=by
 have nit:∀b u,H b=some u->b∉fp:=fun b u e z=>by rw[(hf b z).1] at e;cases e
 have nL:X.env.locals∉fp:=fun z=>(hf _ z).2.1 rfl
 refine I.step (g':=s.gens) (d':=s.drawn) (ch:=fp) (fun b hb=>⟨(hf b hb).2.2.2.1,(hf b hb).2.1,(hf b hb).2.2.2.2.1,(hf b hb).2.2.2.2.2⟩) (fun b o _ _ hc e _=>kk b o hc e) (fun b o _ _ hc e _=>⟨o.slots,kk b o hc e⟩) (fun _ _ _ _ n=>n)
  (fun b o hc e=>⟨o,kk b o hc e⟩) (fun _ _ e=>e) (fun _ _ _ e=>e) (fun b ps e=>⟨#[],by rw[e];simp⟩) (fun m hm =>?_) (fun b u e =>?_) I.bare
 ·obtain⟨o,es,ep,ho,r⟩:=hm;exact⟨o,es,ep,kk _ o nL ho,r⟩
 ·refine(I.hok b u e).stay (fun c v hc q=>kk c v ?_ q) (fun _ q=>q) fun _ _ q=>q
  rcases hc with z | z
  ·rw[z];exact nit b u e
  ·exact nit c _ z
theorem aqn{t':Nat}{fp:List Addr}{vs:List V}{us:List Value}(I:Inv X zv σ H s)(kk:∀b o,b∉fp->s.heap.get? b=some o->h'.get? b=some o)(hf:∀b∈fp,FpOk X zv H b)(hb:∀b∈fp,b < s.heap.objs.size)
  (r:Vals vs us) (hz:vs.length<=sizeLine) (ht:h'.get? s.heap.objs.size=some { cls:=.type "tuple", data:=.seq us.toArray }):Inv X zv σ (upd H s.heap.objs.size (.tup vs)) { s with heap:=h',toks:=t' }:=by
 have I1:=I.laid (h':=s.heap.push { cls:=.type "tuple", data:=.seq us.toArray }) (t':=s.toks) (a:=s.heap.objs.size) (o:=.tup vs) (fun b u e=>Heap.get?_push_of_some _ e) (Nat.le_refl _) ⟨hz,us,r,⟨_,Heap.get?_push_size _ rfl,rfl,rfl,_,rfl⟩⟩
 have k2:∀b o,b∉fp->(s.heap.push { cls:=.type "tuple", data:=.seq us.toArray }).get? b=some o->h'.get? b=some o:=fun b o hn e=>by
  rcases Heap.get?_push_cases e with⟨rfl,rfl⟩ | e
  ·exact ht
  ·exact kk b o hn e
 have f2:∀b∈fp,FpOk X zv (upd H s.heap.objs.size (.tup vs)) b:=fun b hb'=>by
  obtain⟨f0,f⟩:=hf b hb';exact⟨by rw[dw (Nat.ne_of_lt (hb b hb'))];exact f0,f⟩
 have R:=aef (t':=t') (h':=h') (fp:=fp) I1 k2 f2;exact R
end
theorem avi(x:It1 k h it l i)(y:Sq1 k' h a xs):a≠it:=fun e=>by
 subst e;cases k <;> cases k' <;> exact(by
  obtain⟨o,e1,c1,_⟩:=x;obtain⟨o',e2,c2,_⟩:=y;rw[e1] at e2;cases e2;rw[c1] at c2;simp at c2)
theorem a3e(e:h.get? b=some o)(c:o.cls=.type n)(hn:n ≠ "list" /\ n ≠ "tuple")(y:Sq1 k h a xs):a≠b:=fun z=>by
 subst z;cases k <;> exact(by
  obtain⟨o',e2,c2,_⟩:=y;rw[e] at e2;cases e2;rw[c] at c2;simp at c2
  first | exact hn.1 c2 | exact hn.2 c2)
def Ite(K:Fg9)(k:Bool)(a:Addr):It :=
 ⟨fun i H=>∃xs x,SqK k K H a xs/\xs[i]? = some x,fun i H x H'=>∃q v,H q=none/\x=.ref q/\H'=upd H q (.tup [.int i,v])/\∀xs,SqK k K H a xs->xs[i]? = some v,fun i H=>∃xs,SqK k K H a xs/\xs.length=i⟩
theorem aov{P:Program}{w:World}{K:Fg9}{elts:List Expr}{n:Nat}{pos:Pos}(k:Bool)(a e it:Addr)(ne:e≠it) :
  Turn P w K (.Tuple elts n pos) (Ite K k a) [e,it] e (fun i h=>(∃old,IsEnum h e it i old)/\It1 k h it a i) where
 mem:=by simp
 obj:=fun i h st b hb=>by
  have hb:b=e∨b=it:=by simpa using hb
  rcases hb with rfl | rfl
  ·obtain⟨old,z⟩:=st.1;exact⟨_,z,fun v z=>by cases z⟩
  ·exact st.2.got
 keep:=fun i h h' st kk=>by
  obtain⟨⟨old,z⟩,y⟩:=st;exact⟨⟨old,kk e (by simp) _ z⟩,y.at fun o z=>kk it (by simp) o z⟩
 item:=by
  intro X hP hw hK hc i zv s σ H E I hf st hg;subst hP hw hK;obtain⟨⟨old,he⟩,hi⟩:=st;obtain⟨xs,x,hq,hx⟩:=hg;obtain⟨its,rv,sq⟩:=aet I hq;obtain⟨u,hu,ru⟩:=rv.get hx;have hlt:i < its.toArray.size:=by simpa using (List.getElem?_eq_some_iff.mp hu).1
  have nai:=avi hi sq;have nae:a≠e:=a3e he rfl (by decide) sq
  have D:=En.src (prog:=X.prog) (w:=X.w) (A:=X.A.in1) (I.ok.hd hc) k it a nai its.toArray;refine wpAny_pyNext_enum_itemD D he ⟨hi,sq⟩ hlt ne (by simp[ne,nae.symm]) fun y g tk hy ho hs hT hz hk =>?_
  refine⟨_,rfl,wpAny_letOwnedTupleGo_enum ho fun g2 he2 sb =>?_⟩
  have ry:=afn rv hx hy;have lte:e < s.heap.objs.size:=Heap.lt_size he;have lti:it < s.heap.objs.size:=by obtain⟨o,z,_⟩:=hi.got;exact Heap.lt_size z
  have fr:H s.heap.objs.size=none:=I.hok.fresh (Nat.le_refl _);refine⟨.ref s.heap.objs.size,upd H s.heap.objs.size (.tup [.int i,x]),?_,rfl,⟨_,x,fr,rfl,rfl,fun ys hy=>by rw[ak5 I hy hq];exact hx⟩,⟨⟨_,he2⟩,hs.1.at fun o z=>sb.extBut _ _ ne.symm z⟩,fun b hb =>?_⟩
  ·refine aqn (fp:=[e,it]) (us:=[.int i tk,y]) I (fun b o hn z =>?_) hf (fun b hb =>?_) (.cons ⟨tk,rfl⟩ (.cons ry .nil)) (by rw[sizeLine_eq];simp) (sb.extBut _ _ (Nat.ne_of_gt lte) hT)
   ·have h1:b≠e:=fun z=>hn (by simp[z])
    have h2:b≠it:=fun z=>hn (by simp[z])
    exact sb.extBut _ _ h1 (hk b o h1 h2 z)
   ·have hb:b=e∨b=it:=by simpa using hb
    rcases hb with rfl | rfl
    ·exact lte
    ·exact lti
  ·have hb':b=e∨b=it:=by simpa using hb
   rw[dw (by rcases hb' with rfl | rfl;exact Nat.ne_of_lt lte;exact Nat.ne_of_lt lti)]
   exact(hf b hb).1
 done:=by
  intro X hP hw hK hc i zv s σ H E I hf st hg;subst hP hw hK;obtain⟨⟨old,he⟩,hi⟩:=st;obtain⟨xs,hq,hx⟩:=hg;obtain⟨its,rv,sq⟩:=aet I hq;have hl:i=its.toArray.size:=by have:=rv.length;simp;omega
  subst hl;have D:=En.src (prog:=X.prog) (w:=X.w) (A:=X.A.in1) (I.ok.hd hc) k it a (avi hi sq) its.toArray;refine wpAny_pyNext_enum_endD D he ⟨hi,sq⟩ fun g eb=>⟨rfl,aef (t':=s.toks) (fp:=[e,it]) I (fun b o hn z=>eb b o (fun z=>hn (by simp[z])) z) hf⟩
 self:=fun _ _ _ _ _ st h=>let ⟨_,z⟩:=st.1;wpAny_pyIter_enum z h
theorem a1f:bootBuiltins "zip" = some (.type "zip"):=by decide +kernel
section
variable{X:Cx}
def a4v(K:Fg9)(ta:TA):TI:=fun σ H R=>ta σ H fun vs H1=>∃a k,vs=[.ref a]/\(∃xs,SqK k K H1 a xs)/\R (Ite K k a) H1
theorem aww{a:Expr}{ta:TA}{p pos:Pos}{elts:List Expr}{n:Nat}{tp:Pos}(hg:Gl X "enumerate")(hm:X.mg "enumerate" = none)(ha:PA X [a] ta)(hs:starEach [a] X.env=[(false,eval a X.env)]:=by rfl) :
  PI X (.Tuple elts n tp) (.Call (.Name "enumerate" p) [a] [] pos) (a4v X.K ta):=by
 intro zv s σ H R I h;refine Call_ (aer I hg hm aj6 (PyProof.Rows.callWith_type1 (thn (ha pos zv s σ H _ I h) fun us s1 ⟨vs,H1,I1,r1,q1⟩ =>?_) hs rfl))
 obtain⟨b,k,rfl,⟨xs,hq⟩,q⟩:=q1;obtain⟨u,rfl,ru⟩:=vals1 r1;cases ru;obtain⟨its,rv,sq⟩:=aet I1 hq;refine aru sq fun g he hi hz kk=>wpAny_pyIter_enum he ?_
 have I2:Inv X zv σ H1 { s1 with heap:=g }:=I1.kept (t':=s1.toks) kk
 refine⟨_,[s1.heap.objs.size+1,s1.heap.objs.size],_,_,H1,rfl,I2,aov k b _ _ (Nat.succ_ne_self _),⟨⟨_,he⟩,hi⟩,fun c hc =>?_,q⟩
 have hc:c=s1.heap.objs.size+1∨c=s1.heap.objs.size:=by simpa using hc
 rcases hc with rfl | rfl
 ·exact I1.fpOk (Nat.le_succ _) (I1.hok.fresh (Nat.le_succ _))
 ·exact I1.fpOk (Nat.le_refl _) (I1.hok.fresh (Nat.le_refl _))
end
end Mn
namespace En
open PySem PySem.Builtin
theorem avd(hz:IsZip s.heap z TI TO f0)
  (h:wpAny (model prog w) A.in1 (Builtin.«zip.__next__» ⟨[.ref z],[]⟩) (fun fin s'=>∃v,fin=.done (.ret v)/\Q (some v) s') (fun e s'=>∃a o,e=.ref a/\s'.heap.get? a=some o/\o.cls=.type "StopIteration" /\ Q none s') s) :
  wpAny (model prog w) A (pyNext (.ref z)) Q E s:=by
 have tz:s.TypeIs (.ref z) "zip" := ⟨_,hz,rfl⟩;unfold pyNext;refine wpAny_bind (wpAny_attempt (wpAny_callSpecial?_slot (name:=Str.ofString "__next__") tz F.slot_zip_next (wpAny_call_entry F.slot_zip_next tz F.entry_zip_next (wpAny_mono h (fun fin s' ⟨v,e,q⟩=>⟨v,e,wpAny_pure q⟩) fun e s' ⟨a,o,e1,e2,e3,q⟩ =>?_) (F.args_zip_next_1 _))))
 subst e1;exact wpAny_bind (wpAny_isInstance (T := "StopIteration") (b:=true) ⟨o,e2,e3⟩ isSubtype_stop (wpAny_pure q))
end En
namespace Mn
open L2 En
def Itz2(K:Fg9)(k1 k2:Bool)(a1 a2:Addr):It :=
 ⟨fun i H=>∃x1 x2 v1 v2,(SqK k1 K H a1 x1/\x1[i]? = some v1)/\(SqK k2 K H a2 x2/\x2[i]? = some v2),fun i H x H'=>∃q v1 v2,H q=none/\x=.ref q/\H'=upd H q (.tup [v1,v2])/\(∀xs,SqK k1 K H a1 xs->xs[i]? = some v1)/\(∀xs,SqK k2 K H a2 xs->xs[i]? = some v2),fun i H=>∃xs,SqK k1 K H a1 xs/\xs.length=i⟩
theorem aot{P:Program}{w:World}{K:Fg9}{elts:List Expr}{n:Nat}{pos:Pos}(k1 k2:Bool)(a1 a2 z TI TO i1 i2:Addr)(D:Apart2 z TI TO i1 i2 a1 a2) :
  Turn P w K (.Tuple elts n pos) (Itz2 K k1 k2 a1 a2) [z,TI,TO,i1,i2] z (fun i h=>IsZip h z TI TO .none/\Row2 h TI (.ref i1) (.ref i2)/\(∃v1 v2,Row2 h TO v1 v2)/\It1 k1 h i1 a1 i/\It1 k2 h i2 a2 i) where
 mem:=by simp
 obj:=fun i h ⟨hz,hI,⟨v1,v2,hO⟩,h1,h2⟩ b hb=>by
  have hb:b=z∨b=TI∨b=TO∨b=i1∨b=i2:=by simpa using hb
  rcases hb with rfl | rfl | rfl | rfl | rfl
  ·exact⟨_,hz,fun v z=>by cases z⟩
  ·exact⟨_,hI,fun v z=>by cases z⟩
  ·exact⟨_,hO,fun v z=>by cases z⟩
  ·exact h1.got
  ·exact h2.got
 keep:=fun i h h' ⟨hz,hI,⟨v1,v2,hO⟩,h1,h2⟩ kk=>⟨kk z (by simp) _ hz,kk TI (by simp) _ hI,⟨v1,v2,kk TO (by simp) _ hO⟩,h1.at fun o e=>kk i1 (by simp) o e,h2.at fun o e=>kk i2 (by simp) o e⟩
 item:=by
  intro X hP hw hK hc i zv s σ H E I hf st hg;subst hP hw hK;obtain⟨hz,hI,⟨o1,o2,hO⟩,h1,h2⟩:=st;obtain⟨x1,x2,v1,v2,⟨hq1,hx1⟩,⟨hq2,hx2⟩⟩:=hg;obtain⟨t1,r1,s1⟩:=aet I hq1;obtain⟨u1,hu1,_⟩:=r1.get hx1;have b1:i < t1.toArray.size:=by simpa using (List.getElem?_eq_some_iff.mp hu1).1
  obtain⟨t2,r2,s2⟩:=aet I hq2;obtain⟨u2,hu2,_⟩:=r2.get hx2;have b2:i < t2.toArray.size:=by simpa using (List.getElem?_eq_some_iff.mp hu2).1
  refine avd hz (aoo (I.ok.hd hc) D hz hI hO h1 s1 h2 s2 b1 b2 fun g tk y1 y2 p1 p2 z2 O2 j1 j2 T2 hsz hk =>?_)
  refine⟨_,rfl,wpAny_letOwnedTupleGo_zip z2 fun g2 he2 sb =>?_⟩
  have fr:H s.heap.objs.size=none:=I.hok.fresh (Nat.le_refl _);have lt:∀b∈[z,TI,TO,i1,i2],b < s.heap.objs.size:=fun b hb=>by
   have hb:b=z∨b=TI∨b=TO∨b=i1∨b=i2:=by simpa using hb
   rcases hb with rfl | rfl | rfl | rfl | rfl
   ·exact Heap.lt_size hz
   ·exact Heap.lt_size hI
   ·exact Heap.lt_size hO
   ·obtain⟨o,e,_⟩:=h1.got;exact Heap.lt_size e
   ·obtain⟨o,e,_⟩:=h2.got;exact Heap.lt_size e
  have up:∀b o,b∉[z,TI,TO,i1,i2]->s.heap.get? b=some o->g2.get? b=some o:=fun b o hn e=>sb.extBut _ _ (fun x=>hn (by simp[x])) (hk b o (fun x=>hn (by simp[x])) (fun x=>hn (by simp[x])) (fun x=>hn (by simp[x])) (fun x=>hn (by simp[x])) e)
  have TI2:g2.get? TI=_:=sb.extBut _ _ D.nTIz (hk TI _ D.nTIz D.nTOTI.symm D.ni1TI.symm D.ni2TI.symm hI);refine⟨.ref s.heap.objs.size,upd H s.heap.objs.size (.tup [v1,v2]),?_,rfl,⟨_,v1,v2,fr,rfl,rfl,fun ys hy=>by rw[ak5 I hy hq1];exact hx1,fun ys hy=>by rw[ak5 I hy hq2];exact hx2⟩,⟨he2,TI2,⟨y1,y2,sb.extBut _ _ D.nTOz O2⟩,(j1.at fun o e=>sb.extBut _ _ D.ni1z e),(j2.at fun o e=>sb.extBut _ _ D.ni2z e)⟩,fun b hb =>?_⟩
  ·exact aqn (fp:=[z,TI,TO,i1,i2]) (us:=[y1,y2]) I up hf lt (.cons (afn r1 hx1 p1) (.cons (afn r2 hx2 p2) .nil)) (by rw[sizeLine_eq];simp) (sb.extBut _ _ (Nat.ne_of_gt (lt z (by simp))) T2)
  ·rw[dw (Nat.ne_of_lt (lt b hb))];exact(hf b hb).1
 done:=by
  intro X hP hw hK hc i zv s σ H E I hf st hg;subst hP hw hK;obtain⟨hz,hI,⟨o1,o2,hO⟩,h1,h2⟩:=st;obtain⟨xs,hq,hx⟩:=hg;obtain⟨its,rv,sq⟩:=aet I hq;have hl:i=its.toArray.size:=by have:=rv.length;simp;omega
  subst hl;refine avd hz (asl (I.ok.hd hc) D hz hI hO h1 sq fun g e kk ⟨o,he,ce⟩=>⟨e,o,rfl,he,ce,rfl,aef (t':=s.toks) (fp:=[z,TI,TO,i1,i2]) I (fun b o hn z=>kk b o (fun z=>hn (by simp[z])) (fun z=>hn (by simp[z])) z) hf⟩)
 self:=fun _ _ _ _ _ st h=>wpAny_pyIter_zip st.1 h
theorem apart2{N l1 l2:Nat}(h1:l1 < N)(h2:l2 < N):Apart2 (N+4) (N+2) (N+3) N (N+1) l1 l2:=by
 constructor <;> (intro e;have e:(_:Nat)=_:=e;omega)
section
variable{X:Cx}
def a4r(K:Fg9)(ta:TA):TI:=fun σ H R=>ta σ H fun vs H1=>∃a1 a2 k1 k2,vs=[.ref a1,.ref a2]/\(∃xs,SqK k1 K H1 a1 xs)/\(∃xs,SqK k2 K H1 a2 xs)/\R (Itz2 K k1 k2 a1 a2) H1
theorem awv{e1 e2:Expr}{ta:TA}{p pos:Pos}{elts:List Expr}{n:Nat}{tp:Pos}(hg:Gl X "zip")(hm:X.mg "zip" = none)(ha:PA X [e1,e2] ta)(hs:starEach [e1,e2] X.env=[(false,eval e1 X.env),(false,eval e2 X.env)]:=by rfl)(hs2:starEach [e2] X.env=[(false,eval e2 X.env)]:=by rfl) :
  PI X (.Tuple elts n tp) (.Call (.Name "zip" p) [e1,e2] [] pos) (a4r X.K ta):=by
 intro zv s σ H R I h;refine Call_ (aer I hg hm a1f (PyProof.Rows.callWith_type1 (thn (ha pos zv s σ H _ I h) fun us s1 ⟨vs,H1,I1,r1,q1⟩ =>?_) (by rw[hs,hs2]) (by rw[hs2];rfl)))
 obtain⟨a1,a2,k1,k2,rfl,⟨x1,hq1⟩,⟨x2,hq2⟩,q⟩:=q1;obtain⟨u1,u2,rfl,ru1,ru2⟩:=vals2 r1;cases ru1;cases ru2;obtain⟨t1,r1',sq1⟩:=aet I1 hq1;have b1:a1 < s1.heap.objs.size:=by obtain⟨o,e⟩:=sq1.got;exact Heap.lt_size e
 obtain⟨t2,r2',sq2⟩:=aet I1 hq2;have b2:a2 < s1.heap.objs.size:=by obtain⟨o,e⟩:=sq2.got;exact Heap.lt_size e
 refine arp sq1 sq2 fun g hz hI hO h1 h2 hsz kk=>wpAny_pyIter_zip hz ?_
 have I2:Inv X zv σ H1 { s1 with heap:=g }:=I1.kept (t':=s1.toks) kk
 refine⟨_,[s1.heap.objs.size+4,s1.heap.objs.size+2,s1.heap.objs.size+3,s1.heap.objs.size,s1.heap.objs.size+1],_,_,H1,rfl,I2,aot k1 k2 a1 a2 _ _ _ _ _ (apart2 b1 b2),⟨hz,hI,⟨_,_,hO⟩,h1,h2⟩,fun c hc =>?_,q⟩
 have hc:s1.heap.objs.size<=c:=by
  simp only[List.mem_cons,List.not_mem_nil,or_false] at hc;rcases hc with rfl | rfl | rfl | rfl | rfl <;> first | exact Nat.le_refl _ | exact Nat.le_add_right _ _
 exact I1.fpOk hc (I1.hok.fresh hc)
end
section
variable{X:Cx}
end
end Mn
namespace Dn
open L2 Mn
section
variable{K:Fg9}{X:Cx}{e a b c:Expr}{es elts:List Expr}{pos p tp:Pos}{n:Nat}
theorem ao8(e:itemsD d=some l)(h:Is K F d v):∃a k vs,v=.ref a/\IsL K F l vs/\∀H,Same F H->SqK k K H a vs:=by
 cases h with
 | tup e1 h1=>cases e;exact⟨_,true,_,rfl,h1,fun H g=>SqT.of (g _ _ e1)⟩
 | lst e1 h1=>cases e;exact⟨_,false,_,rfl,h1,fun H g=>SqL.of (g _ _ e1)⟩
 | kst e1 h1=>cases e;exact⟨_,false,_,rfl,h1,fun H g=>L2.Same.seq g e1⟩
 | _=>cases e
def aag(l:List D):List D:=l.mapIdx fun i d=>.tup [.int (i:Nat),d]
def aby:List D->Option (List D)
 | [d]=>(itemsD d).map aag
 | _=>none
theorem qz(l:List D):(aag l).length=l.length:=by unfold aag;simp
theorem uw{l:List D}{i:Nat}{d:D}(h:(aag l)[i]? = some d):∃d0,l[i]? = some d0/\d=.tup [.int (i:Nat),d0]:=by
 unfold aag at h;rw[List.getElem?_mapIdx] at h;cases e:l[i]? with
 | none=>rw[e] at h;cases h
 | some d0=>rw[e] at h;cases h;exact⟨d0,rfl,rfl⟩
theorem at9{F:Hp}{k:Bool}{a:Addr}{l:List D}{vs:List V}(il:IsL K F l vs)(hs:∀H,Same F H->SqK k K H a vs):ItD K (Ite K k a) (aag l) F where
 go:=fun i H s hi=>by
  have hi:i < vs.length:=by rw[<-il.length,<-qz];exact hi
  exact⟨vs,_,hs H s,List.getElem?_eq_getElem hi⟩
 yld:=fun i H x H' d s y hd=>by
  obtain⟨d0,h0,rfl⟩:=uw hd;obtain⟨q,v,hq,rfl,rfl,hv⟩:=y;obtain⟨v',e1,i1⟩:=il.get h0;have:=hv _ (hs H s);rw[e1] at this;cases this;exact .inr ⟨q,_,_,hq,rfl,rfl,rfl,.cons (.int _) (.cons i1 .nil)⟩
 stop:=fun H s=>⟨vs,hs H s,by rw[qz,il.length]⟩
theorem aad(hg:Gl X "enumerate")(hm:X.mg "enumerate" = none)(h:ED K X [a] m)(hs:starEach [a] X.env=[(false,eval a X.env)]:=by rfl):IT K X (.Tuple elts n tp) (.Call (.Name "enumerate" p) [a] [] pos) (mGet aby m):=IT.mk fun hk=>by
 intro zv s σ H R I z9;obtain⟨tg,F,ρ,l,ρ',G,em,q⟩:=z9;obtain⟨ds,ρ1,e1,em⟩:=bj em;obtain⟨e2,rfl⟩:=jc em;have h:=h hk;subst hk;refine aww hg hm h hs zv s σ H R I ⟨tg,F,ρ,ds,_,G,e1,fun vs H' F' G' x r =>?_⟩
 match ds,e2 with
 | [d],e2 =>
  have e2:(itemsD d).map aag=some l:=e2;cases e3:itemsD d with
  | none=>rw[e3] at e2;cases e2
  | some l0 =>
   rw[e3] at e2;cases e2;cases r with
   | cons h1 t =>
    cases t;obtain⟨b,k,ws,rfl,il,hq⟩:=ao8 e3 h1;exact⟨b,k,rfl,⟨ws,hq _ G'.sub⟩,q _ H' F' G' x (at9 il hq)⟩
def ju(l1 l2:List D):List D:=List.zipWith (fun x y=>.tup [x,y]) l1 l2
def agf:List D->Option (List D)
 | [a,b]=>(itemsD a).bind fun l1=>(itemsD b).bind fun l2=>if l1.length<=l2.length then some (ju l1 l2) else none
 | _=>none
theorem aop{l1 l2:List D}{i:Nat}{d:D}(h:(ju l1 l2)[i]? = some d):∃d1 d2,l1[i]? = some d1/\l2[i]? = some d2/\d=.tup [d1,d2]:=by
 unfold ju at h;rw[List.getElem?_zipWith] at h;cases e1:l1[i]? with
 | none=>rw[e1] at h;cases h
 | some d1 =>
  cases e2:l2[i]? with
  | none=>rw[e1,e2] at h;cases h
  | some d2=>rw[e1,e2] at h;cases h;exact⟨_,_,rfl,rfl,rfl⟩
theorem at8{F:Hp}{k1 k2:Bool}{a1 a2:Addr}{l1 l2:List D}{x1 x2:List V}(h:l1.length<=l2.length)(i1:IsL K F l1 x1)(i2:IsL K F l2 x2)(s1:∀H,Same F H->SqK k1 K H a1 x1)(s2:∀H,Same F H->SqK k2 K H a2 x2):ItD K (Itz2 K k1 k2 a1 a2) (ju l1 l2) F where
 go:=fun i H s hi=>by
  have z1:=i1.length;have z2:=i2.length;have hi:i < l1.length:=by unfold ju at hi;simp at hi;omega
  exact⟨x1,x2,_,_,⟨s1 H s,List.getElem?_eq_getElem (by omega)⟩,s2 H s,List.getElem?_eq_getElem (by omega)⟩
 yld:=fun i H x H' d s y hd=>by
  obtain⟨d1,d2,h1,h2,rfl⟩:=aop hd;obtain⟨q,v1,v2,hq,rfl,rfl,y1,y2⟩:=y;obtain⟨w1,e1,j1⟩:=i1.get h1;obtain⟨w2,e2,j2⟩:=i2.get h2;have z1:=y1 _ (s1 H s);have z2:=y2 _ (s2 H s);rw[e1] at z1;rw[e2] at z2;cases z1;cases z2;exact .inr ⟨q,_,_,hq,rfl,rfl,rfl,.cons j1 (.cons j2 .nil)⟩
 stop:=fun H s=>⟨x1,s1 H s,by unfold ju;rw[List.length_zipWith,<-i1.length];omega⟩
theorem aa1(hg:Gl X "zip")(hm:X.mg "zip" = none)(h:ED K X [a,b] m)(hs:starEach [a,b] X.env=[(false,eval a X.env),(false,eval b X.env)]:=by rfl)(hs2:starEach [b] X.env=[(false,eval b X.env)]:=by rfl) :
  IT K X (.Tuple elts n tp) (.Call (.Name "zip" p) [a,b] [] pos) (mGet agf m):=IT.mk fun hk=>by
 intro zv s σ H R I z9;obtain⟨tg,F,ρ,l,ρ',G,em,q⟩:=z9;obtain⟨ds,ρ1,e1,em⟩:=bj em;obtain⟨e2,rfl⟩:=jc em;have h:=h hk;subst hk;refine awv hg hm h hs hs2 zv s σ H R I ⟨tg,F,ρ,ds,_,G,e1,fun vs H' F' G' x r =>?_⟩
 match ds,e2 with
 | [d,d'],e2 =>
  have e2:((itemsD d).bind fun l1=>(itemsD d').bind fun l2=>if l1.length<=l2.length then some (ju l1 l2) else none)=some l:=e2
  cases e3:itemsD d with
  | none=>rw[e3] at e2;cases e2
  | some l1 =>
   cases e4:itemsD d' with
   | none=>rw[e3,e4] at e2;cases e2
   | some l2 =>
    rw[e3,e4] at e2;have e2:(if l1.length<=l2.length then some (ju l1 l2) else none)=some l:=e2
    split at e2
    ·rename_i hle;cases e2;cases r with
     | cons h1 t =>
      cases t with
      | cons h2 t =>
       cases t;obtain⟨b1,k1,w1,rfl,il1,hq1⟩:=ao8 e3 h1;obtain⟨b2,k2,w2,rfl,il2,hq2⟩:=ao8 e4 h2;exact⟨b1,b2,k1,k2,rfl,⟨w1,hq1 _ G'.sub⟩,⟨w2,hq2 _ G'.sub⟩,q _ H' F' G' x (at8 hle il1 il2 hq1 hq2)⟩
    ·cases e2
end
end Dn
namespace Mn
open L2
theorem aud:PGet X (rIxL X.K):=by
 intro zv s σ H x y v u Q I rx ry h;obtain⟨p,xs,i,z,rfl,rfl,hq,he,q⟩:=h;cases rx;obtain⟨t,rfl⟩:=ry;obtain⟨its,r,pl,hz⟩:=I.list hq;obtain⟨j,h1,h2,h3,h4,h5⟩:=alr he;obtain⟨w,ew,rw'⟩:=r.get h2;have hl:=r.length;have hn:=aji;have fin:EP X zv σ Q w s:=⟨z,H,I,rw',q⟩
 by_cases h0:0<=i
 ·have hj:i.toNat=j:=by
   rw[seqIndex_of h0 h5] at h1;exact Option.some.inj h1
  exact wpAny_getItem_list pl.isList h0 (by omega) (by rw[hj];simpa using ew) fin
 ·have hj:(i+(its.toArray.size:Int)).toNat=j:=by
   rw[seqIndex_neg (by omega) h4] at h1
   have:=Option.some.inj h1;rw[List.size_toArray,<-hl];exact this
  exact wpAny_getItem_list_neg pl.isList (by omega) (by simp only[List.size_toArray];omega) (by omega) (by rw[hj];simpa using ew) fin
end Mn
namespace Dn
open L2 Mn
section
variable{K:Fg9}{X:Cx}{e a b:Expr}{pos p:Pos}
def alj(f:Int->Int->Int)(i:Nat)(mi m:M D):Sd:=dM (mOwn i) fun _=>dM mi fun k=>dM (mOwn i) fun l=>dM (lift ((asI k).bind (ixN l.length))) fun j=>dM (lift ((l[j]?).bind asI)) fun x=>dM m fun y=>dM (lift (asI y)) fun y=>dM (mOwn i) fun l2=>dM (lift (if l2.length=l.length then some () else none)) fun _=>dM (adi i (l2.set j (.int (f x y)))) fun _=>dNx
theorem a0v(hn:l.length=n)(h:ixN n k=some j):atI l k=l[j]? := by
 unfold atI;rw[hn,h];rfl
theorem aoy(ho:PE X a (tVar i))(hi:EV K X b mi)(h:EV K X e m)(hp:PIp X op (ipI f))
  (ha:∀ov iv new,augStore b ov iv new=(do holding [new,ov,iv] (setItem ov iv new);release [new,ov,iv] [];pure .next):=by intros;rfl):SV K X (.AugAssign (.Subscript a b p) op e pos) (alj f i mi m):=SV.mk fun hk=>by
 subst hk;refine PS.imp (awp ho (hi rfl) aud (h rfl) hp set_list ha) fun E σ H z9 =>?_
 obtain⟨tg,F,ρ,fl,ρ',G,em,q⟩:=z9;refine w6 em q fun l0 ρ0 e0 em=>w6 em q fun k ρ1 e1 em=>w6 em q fun l ρ2 e2 em=>w6 em q fun j ρ3 e3 em=>w6 em q fun x ρ4 e4 em=>w6 em q fun y ρ5 e5 em=>w6 em q fun y' ρ6 e6 em=>w6 em q fun l2 ρ7 e7 em=>w6 em q fun u ρ8 e8 em=>w6 em q fun u2 ρ9 e9 em =>?_
 cases em;obtain⟨rfl,t0,a0,xs0,es0,hv,hh0,hl0⟩:=af0 G e0;refine⟨_,hv,tg,F,_,k,ρ1,G,e1,fun w H1 F1 G1 x1 r1 =>?_⟩
 obtain⟨rfl,t1,a1,xs1,es1,hv1,hh1,hl1⟩:=af0 G1 e2;rw[hv] at hv1;cases hv1;obtain⟨g3,rfl⟩:=jc e3;obtain⟨g4,rfl⟩:=jc e4;cases ek:asI k with
 | none=>rw[ek] at g3;cases g3
 | some n =>
  rw[ek] at g3;obtain rfl:=am9 ek;cases r1;have e3:ixN l.length n=some j:=g3;cases ej:l[j]? with
  | none=>rw[ej] at g4;cases g4
  | some d =>
   rw[ej] at g4;have h4:asI d=some x:=g4;obtain rfl:=am9 h4;obtain⟨v,ev,iv⟩:=hl1.get ej;cases iv;refine⟨_,xs1,n,.int x,rfl,rfl,SqL.of hh1,by rw[a0v hl1.length.symm e3];exact ev,?_⟩
   refine⟨tg,F1,_,y,ρ5,G1,e5,fun w2 H2 F2 G2 x2 r2 =>?_⟩
   obtain⟨g6,rfl⟩:=jc e6;obtain rfl:=am9 g6;cases r2;refine⟨x,y',rfl,rfl,?_⟩;obtain⟨rfl,t2,a2,xs2,es2,hv2,hh2,hl2⟩:=af0 G2 e7;rw[hv] at hv2;cases hv2;obtain⟨g8,rfl⟩:=jc e8;split at g8
   ·rename_i hlen;obtain⟨G3,x3⟩:=aky G2 e9 hv (hl2.set (Is.int (f x y')) j);exact⟨_,xs2,n,j,rfl,rfl,hh2,by rw[<-hl2.length,hlen];exact e3,q _ _ F2 G3 ((x1.trans x2).trans x3)⟩
   ·cases g8
end
section
variable{K:Fg9}{X:Cx}{a:Expr}{pos p p2 pos2:Pos}
theorem arq:ab6 X (.type "range") (fun xs H Q=>∃b,xs=[.int b]/\∀q,H q=none->Q (.ref q) (upd H q (.rng 0 b))):=by
 intro zv s σ H xs us Q I r h;obtain⟨b,rfl,q⟩:=h;obtain⟨u,rfl,ru⟩:=vals1 r;obtain⟨t,rfl⟩:=ru;exact call_range_1 ⟨.ref s.heap.objs.size,_,I.laid (t':=s.toks+1+1) (o:=.rng 0 b) (fun b ob q=>Heap.get?_push_of_some _ q) (Nat.le_refl _) ⟨_,_,_,Heap.get?_push_size _ rfl⟩,rfl,q _ (I.hok.fresh (Nat.le_refl _))⟩
theorem asr(h:ItemsOf (fun i v=>∃t,v=.int (0+i*1) t) acc n):Vals (ups 0 n) acc.toList:=by
 have key:∀(l:List Value) (k:Nat),(∀j v,l[j]? = some v->∃t,v=Value.int ((k+j:Nat):Int) t)->Vals ((List.range' k l.length).map fun(i:Nat)=>V.int ((i:Nat):Int)) l:=by
  intro l
  induction l with
  | nil=>intro k _;exact .nil
  | cons x r ih =>
   intro k hk;rw[List.length_cons,List.range'_succ,List.map_cons];refine .cons ?_ (ih (k+1) fun j v hj =>?_)
   ·obtain⟨t,rfl⟩:=hk 0 x rfl;exact⟨t,by simp⟩
   ·obtain⟨t,rfl⟩:=hk (j+1) v (by simpa using hj)
    exact⟨t,by rw[show k+(j+1)=k+1+j by omega]⟩
 have e:=key acc.toList 0 fun j v hj=>by
  obtain⟨t,rfl⟩:=h.2 j v (by simpa using hj)
  exact⟨t,by simp⟩
 have hs:acc.toList.length=n:=by simpa using h.1
 rw[hs] at e;unfold ups;rw[List.range_eq_range']
 simpa using e
theorem aj1(hc:X.calm=true):ab6 X (.type "list") (fun xs H Q=>∃p b,xs=[.ref p]/\H p=some (.rng 0 b)/\b.natAbs < 1000000/\∀q,H q=none->Q (.ref q) (upd H q (.lst (ups 0 b.toNat)))):=by
 intro zv s σ H xs us Q I r h;obtain⟨p,b,rfl,hp,hb,q⟩:=h;obtain⟨u,rfl,ru⟩:=vals1 r;cases ru;obtain⟨t,u,v,e⟩:=I.hok p _ hp;have e62:(2:Int) ^ 62=4611686018427387904:=by decide
 have e24:(2:Nat) ^ 24=16777216:=by decide
 refine call_list_range (I.ok.hd hc) e (small_one (by omega) (by omega) (by omega) (by omega)) (n:=b.toNat) (by rw[rangeSize_one];split <;> omega) (by omega) fun h' tk acc c' kk e' it =>?_
 refine⟨.ref s.heap.objs.size,_,?_,rfl,q _ (I.hok.fresh (Nat.le_refl _))⟩;exact I.laid kk (Nat.le_refl _) ⟨by rw[ahj,sizeLine_eq];omega,acc.toList,c',asr it,by simpa using e'⟩
def acg:List D->Option Rv
 | [.int j]=>if j.natAbs < 1000000 then some (.fr (rangeD 0 j.toNat)) else none
 | _=>none
def aee(m:M (List D)):M Rv:=m.bind fun ds=>lift (acg ds)
@[simp] theorem atu(ρ:Ro)(m:M (List D)):aee m ρ=(m.bind fun ds=>lift (acg ds)) ρ:=rfl
@[simp] theorem asj(j:Int):acg [.int j]=if j.natAbs < 1000000 then some (.fr (rangeD 0 j.toNat)) else none:=rfl
theorem ajs(hc:X.calm=true)(hg1:Gl X "list")(hm1:X.mg "list" = none)(hg2:Gl X "range")(hm2:X.mg "range" = none)(h:ED K X [a] m)
  (he:starEach [a] X.env=[(false,eval a X.env)]:=by rfl) (he2:starEach [.Call (.Name "range" p2) [a] [] pos2] X.env=[(false,eval (.Call (.Name "range" p2) [a] [] pos2) X.env)]:=by rfl) :
  ER K X (.Call (.Name "list" p) [.Call (.Name "range" p2) [a] [] pos2] [] pos) (aee m):=ER.mk fun hk=>PE.imp (adb (aj1 hc) hg1 hm1 yz (yl (adb arq hg2 hm2 auv (h hk) (by decide) (by decide) he rfl) aeq he2) (by decide) (by decide) he2 rfl) fun σ H Q z9=>by
 obtain⟨tg,F,ρ,r,ρ',G,em,q⟩:=z9;obtain⟨ds,ρ1,e1,em⟩:=bj em;obtain⟨e2,rfl⟩:=jc em;refine⟨tg,F,ρ,ds,_,G,e1,fun vs H1 F1 G1 x1 bl =>?_⟩
 unfold acg at e2;split at e2
 ·rename_i j;split at e2
  ·rename_i hb;cases e2;cases bl with
   | cons hd t =>
    cases t;cases hd;refine⟨j,rfl,fun a hna =>?_⟩
    refine⟨a,j,rfl,jh,hb,fun b hnb =>?_⟩
    have G2:=G1.fresh hna (.rng 0 j);have X2:=G1.freshX hna (.rng 0 j);exact Res.lst G2 (fun v H3 F3 G3 x3 rr=>q v H3 F3 G3 ((x1.trans X2).trans x3) (uo (x1.trans X2) rr)) (ahy 0 _) hnb
  ·cases e2
 ·cases e2
end
section
variable{K:Fg9}{X:Cx}{a b e:Expr}{pos:Pos}{m1:M D}{m2 m:M Rv}
end
def ak9:D->Bool
 | .non | .bl _ | .int _ | .str _=>true
 | _=>false
theorem Is.flat{K:Fg9}{F F2:Hp}{d:D}{v:V}(h:Is K F d v)(hd:ak9 d=true):Is K F2 d v:=by
 cases h with
 | non=>exact .non
 | bl b=>exact .bl b
 | int i=>exact .int i
 | str x=>exact .str x
 | _=>cases hd
theorem IsL.flat{K:Fg9}{F F2:Hp}:∀{l:List D} {vs:List V},IsL K F l vs->l.all ak9=true->IsL K F2 l vs
 | [],_,h,_=>by cases h;exact .nil
 | d::r,_,h,hd=>by
  rw[List.all_cons,Bool.and_eq_true] at hd;cases h with
  | cons h t=>exact .cons (h.flat hd.1) (t.flat hd.2)
end Dn
namespace Stt
open PySem
def Rise(t:SetTable):Prop:=t.place.toList.Pairwise (· < ·)
theorem Rise.lt{t:SetTable}(h:Rise t){i j:Nat}{x y:Nat}(hij:i < j)(hx:t.place[i]? = some x)(hy:t.place[j]? = some y):x < y:=by
 obtain⟨hi,rfl⟩:=Array.getElem?_eq_some_iff.mp hx;obtain⟨hj,rfl⟩:=Array.getElem?_eq_some_iff.mp hy;have:=List.pairwise_iff_getElem.mp h i j (by simpa using hi) (by simpa using hj) hij
 simpa using this
def Cut(xs:Array Nat)(j p:Nat):Prop:=p<=xs.size/\(∀i x,i < p->xs[i]? = some x->x < j)/\∀i x,p<=i->xs[i]? = some x->j<=x
theorem aiv{xs:Array Nat}(hs:xs.toList.Pairwise (· < ·))(j:Nat):∀(fuel lo hi:Nat),hi - lo<=fuel->lo<=hi->hi<=xs.size->(∀i x,i < lo->xs[i]? = some x->x < j)->(∀i x,hi<=i->xs[i]? = some x->j<=x) ->
  Cut xs j (SetTable.below.go xs j fuel lo hi)
 | 0,lo,hi,hf,hle,hsz,a,b=>by
  have:lo=hi:=by omega
  subst this;exact⟨hsz,a,b⟩
 | fuel+1,lo,hi,hf,hle,hsz,a,b=>by
  unfold SetTable.below.go;split
  ·rename_i hlt;dsimp only;have hm:(lo+hi) / 2 < xs.size:=by omega
   have hg:xs.getD ((lo+hi) / 2) j=xs[(lo+hi) / 2]:=by simp[Array.getD,hm]
   have hx:xs[(lo+hi) / 2]? = some (xs[(lo+hi) / 2]):=by simp[hm]
   rw[hg]
   by_cases hc:xs[(lo+hi) / 2] < j
   ·rw[if_pos hc];refine aiv hs j fuel ((lo+hi) / 2+1) hi (by omega) (by omega) hsz (fun i x hi' hx' =>?_) b
    rcases Nat.lt_or_ge i ((lo+hi) / 2) with h | h
    ·exact Nat.lt_trans (Rise.lt (t:={ mask:=0,place:=xs,dummies := #[],finger:=0,led:=true,moves:=0,plain:=true }) hs h hx' hx) hc
    ·have:i=(lo+hi) / 2:=by omega
     subst this;rw[hx] at hx';cases hx';exact hc
   ·rw[if_neg hc];refine aiv hs j fuel lo ((lo+hi) / 2) (by omega) (by omega) (by omega) a (fun i x hi' hx' =>?_)
    rcases Nat.lt_or_ge ((lo+hi) / 2) i with h | h
    ·exact Nat.le_trans (Nat.not_lt.mp hc) (Nat.le_of_lt (Rise.lt (t:={ mask:=0,place:=xs,dummies := #[],finger:=0,led:=true,moves:=0,plain:=true }) hs h hx hx'))
    ·have:i=(lo+hi) / 2:=by omega
     subst this;rw[hx] at hx';cases hx';omega
  ·have:lo=hi:=by omega
   subst this;exact⟨hsz,a,b⟩
theorem ags(hs:xs.toList.Pairwise (· < ·))(j:Nat):Cut xs j (SetTable.below xs j) :=
 aiv hs j xs.size 0 xs.size (by omega) (Nat.zero_le _) (Nat.le_refl _) (fun i x h _=>absurd h (Nat.not_lt_zero _)) fun i x h hx=>by
  obtain⟨h',_⟩:=Array.getElem?_eq_some_iff.mp hx;omega
theorem aoh(h:Rise t):SetTable.below t.place 0=0:=by
 obtain⟨hp,a,b⟩:=ags h 0;rcases Nat.eq_zero_or_pos (SetTable.below t.place 0) with h0 | h0
 ·exact h0
 ·have h1:0 < t.place.size:=by omega
  exact absurd (a 0 t.place[0] h0 (by simp[h1])) (Nat.not_lt_zero _)
theorem aoi{t:SetTable}(h:Rise t){i x:Nat}(hx:t.place[i]? = some x):SetTable.below t.place (x+1)=i+1:=by
 obtain⟨hp,a,b⟩:=ags h (x+1);rcases Nat.lt_trichotomy (SetTable.below t.place (x+1)) (i+1) with h1 | h1 | h1
 ·have:=b i x (by omega) hx
  omega
 ·exact h1
 ·have h2:i+1 < t.place.size:=by omega
  have h3:t.place[i+1]? = some t.place[i+1]:=by simp[h2]
  have:=a (i+1) _ h1 h3;have:=h.lt (Nat.lt_succ_self i) hx h3;omega
theorem akp{t:SetTable}(h:Rise t){j:Nat}(hj:t.place[SetTable.below t.place j]? ≠ some j):(SetTable.insertAt t.place (SetTable.below t.place j) j).toList.Pairwise (· < ·):=by
 obtain⟨hp,a,b⟩:=ags h j;rw[SetTable.toList_insertAt];generalize hq:SetTable.below t.place j=p at *;rw[List.pairwise_append];refine⟨List.Pairwise.sublist (List.take_sublist _ _) h,?_,?_⟩
 ·rw[List.pairwise_cons];refine⟨fun y hy =>?_,List.Pairwise.sublist (List.drop_sublist _ _) h⟩
  obtain⟨i,hi,rfl⟩:=List.mem_iff_getElem.mp hy;rw[List.length_drop,Array.length_toList] at hi;rw[List.getElem_drop,Array.getElem_toList];have h1:t.place[p+i]? = some t.place[p+i]:=by simp
  have h2:=b (p+i) _ (by omega) h1
  rcases Nat.eq_or_lt_of_le h2 with e | e
  ·exfalso;rcases Nat.eq_zero_or_pos i with z | z
   ·subst z;exact hj (by rw[e];exact h1)
   ·have h3:t.place[p]? = some t.place[p]:=by simp
    have h4:=h.lt (show p < p+i by omega) h3 h1
    have h5:=b p _ (Nat.le_refl _) h3;omega
  ·exact e
 ·intro x hx y hy;have hxj:x < j:=by
   obtain⟨i,hi,rfl⟩:=List.mem_iff_getElem.mp hx;rw[List.length_take,Array.length_toList] at hi;rw[List.getElem_take,Array.getElem_toList];exact a i _ (by omega) (by simp)
  rcases List.mem_cons.mp hy with rfl | hy
  ·exact hxj
  ·obtain⟨i,hi,rfl⟩:=List.mem_iff_getElem.mp hy;rw[List.length_drop,Array.length_toList] at hi;rw[List.getElem_drop,Array.getElem_toList];have:=b (p+i) t.place[p+i] (by omega) (by simp)
   omega
def Away(t:SetTable)(j:Nat):Prop:=t.place[SetTable.below t.place j]? ≠ some j
theorem ai1(h:∀i,t.slot j≠.live i):Away t j:=fun e=>h (SetTable.below t.place j) (by
 unfold SetTable.slot;dsimp only;rw[if_pos (by rw[e];exact beq_self_eq_true _)])
theorem aea:∀(fuel:Nat) (p:SetTable.Probe) (j:Nat) (d:Option Nat),(∀x,p.dummy=some x->Away t x)->SetTable.probe.go t f h fuel p=some (.empty j d)->Away t (d.getD j)
 | 0,p,j,d,_,e=>by cases e
 | fuel+1,p,j,d,hd,e=>by
  unfold SetTable.probe.go at e;have adv:∀q:SetTable.Probe,(t.advance q).dummy=q.dummy:=fun q=>by unfold SetTable.advance;split <;> rfl
  split at e
  ·rename_i hs;cases e;cases hq:p.dummy with
   | none=>exact ai1 fun i z=>by rw[Option.getD_none,hs] at z;cases z
   | some x=>exact hd x hq
  ·rename_i hs;refine aea fuel _ j d (fun x hx =>?_) e
   rw[adv] at hx;cases hx;exact ai1 fun i z=>by rw[hs] at z;cases z
  ·split at e
   ·cases e
   ·exact aea fuel _ j d (fun x hx=>by rw[adv] at hx;exact hd x hx) e
theorem aqu(e:t.freeSlot h=some (j,b)):Away t j:=by
 unfold SetTable.freeSlot at e;split at e
 ·rename_i j' d hp;cases e;exact aea _ _ j' d (fun x hx=>by cases hx) hp
 ·cases e
theorem anr(n:Nat):(Array.range n).toList.Pairwise (· < ·):=by
 rw[Array.toList_range];exact List.pairwise_lt_range
def Kept(b:Bool)(t:SetTable):Prop:=Rise t/\t.led=b
theorem Kept.standIn(h:Kept b t)(n:Nat):Kept b (t.standIn n):=⟨anr n,h.2⟩
theorem ak1(h:Kept b t)(es:Array (Int×Value))(k:Int)(x:Value):Kept b (layNew t es k x).2.1:=by
 unfold layNew;split
 ·rename_i slot wd e;dsimp only;have h':Kept b (t.put slot).1:=⟨akp h.1 (aqu e),h.2⟩;unfold SetTable.orStandIn;split
  ·exact h'
  ·exact h'.standIn _
 ·exact h.standIn _
theorem aqh(e:SetTable.laid m f mv b p hs=some (t,o)):Kept b t:=by
 unfold SetTable.laid at e;cases e1:SetTable.layClean m hs with
 | none=>rw[e1] at e;cases e
 | some ow =>
  rw[e1] at e;cases e;refine⟨?_,rfl⟩;show List.Pairwise _ _;dsimp only;have h0:((List.range (m+1)).filterMap fun j=>(ow.getD j none).map (j,·)).map (·.1)=(List.range (m+1)).filter fun j=>(ow.getD j none).isSome:=by
   generalize List.range (m+1)=l
   induction l with
   | nil=>rfl
   | cons a r ih =>
    cases h:ow.getD a none with
    | none=>simp only[List.filterMap_cons,List.filter_cons,h,Option.map_none,Option.isSome_none];simpa using ih
    | some z=>simp only[List.filterMap_cons,List.filter_cons,h,Option.map_some,Option.isSome_some,List.map_cons];simpa using ih
  rw[h0];exact List.Pairwise.sublist List.filter_sublist List.pairwise_lt_range
theorem anp(h:Kept b t)(es:Array (Int×Value))(n:Nat):Kept b (relayAll t es n).2.1:=by
 unfold relayAll;split
 ·rename_i t' o e;dsimp only;split
  ·have:=aqh e;rw[h.2] at this;exact this
  ·exact h.standIn _
 ·exact h.standIn _
theorem aob(b:Bool):Kept b (.fresh 0 0 b):=⟨List.Pairwise.nil,rfl⟩
open PySem.Spec PyProof.Rows
def keyE(e:Int×Value):Int:=match e.2 with
 | .int k _=>k
 | _=>0
def Ent(e:Int×Value):Prop:=∃k u,e=(hashInt k,Value.int k u)
structure SetG (w:World) (es:Array (Int×Value)) (t:SetTable) (ns:List Int):Prop where
 ent:∀e∈es.toList,Ent e
 nd:(es.toList.map keyE).Nodup
 mem:∀k,k∈es.toList.map keyE↔k∈ns
 fit:t.fits es.size=true
 kept:Kept (!w.params.followText "set-order") t
def setO(es:Array (Int×Value))(ep:Nat)(t:SetTable):Obj:={ cls:=.type "set", dict:=none,data:=.set es ep t }
theorem SetG.elems(g:SetG w es t ns):ElemsOf (intKind prog w) es.toList:=fun e he=>by
 obtain⟨k,u,rfl⟩:=g.ent e he;exact⟨⟨k,intKind_is _ _ _ _,rfl⟩,rfl⟩
theorem SetG.empty(w:World):SetG w #[] (.fresh 0 0 (!w.params.followText "set-order")) []:=⟨fun e he=>by simp at he,List.Pairwise.nil,fun k=>by simp,rfl,aob _⟩
theorem aq3(h:Ent e)(k:Int):Value.isInt k e.2=true↔keyE e=k:=by
 obtain⟨j,u,rfl⟩:=h;simp[Value.isInt,keyE]
theorem SetG.push(g:SetG w es t ns)(hn:k∉es.toList.map keyE)(hp:es'.toList.Perm (es.push (hashInt k,.int k u)).toList)(hf:t'.fits es'.size=true)
  (hk:Kept (!w.params.followText "set-order") t'):SetG w es' t' (ns++[k]):=by
 rw[Array.toList_push] at hp;have hm:=hp.map keyE;rw[List.map_append] at hm;refine⟨fun e he =>?_,?_,fun j =>?_,hf,hk⟩
 ·rcases List.mem_append.mp (hp.mem_iff.mp he) with h | h
  ·exact g.ent e h
  ·rw[List.mem_singleton] at h;exact⟨k,u,h⟩
 ·rw[hm.nodup_iff,List.nodup_append];refine⟨g.nd,by simp,fun a ha b hb e =>?_⟩
  simp only[List.map_cons,List.map_nil,List.mem_singleton] at hb;subst hb;subst e;exact hn ha
 ·rw[hm.mem_iff,List.mem_append,List.mem_append,g.mem j];rfl
theorem SetG.perm(g:SetG w es t ns)(hp:es'.toList.Perm es.toList)(hf:t'.fits es'.size=true)(hk:Kept (!w.params.followText "set-order") t'):SetG w es' t' ns :=
 ⟨fun e he=>g.ent e (hp.mem_iff.mp he),(hp.map keyE).nodup_iff.mpr g.nd,fun k=>by rw[(hp.map keyE).mem_iff,g.mem k],hf,hk⟩
section
variable{prog:Program}{w:World}{A:Around}{E:Value->Shared->Prop}{s:Shared}
theorem alz{h:Heap}{a:Addr}{es es':Array (Int×Value)}{ep:Nat}{t t':SetTable}(ho:h.get? a=some (setO es ep t)):(h.update a (Obj.putSet es' t')).get? a=some (setO es' (ep+1) t'):=by
 have:=Heap.get?_update_self (Obj.putSet es' t') ho (by rw[putSet_of es' t' (o:=setO es ep t) rfl];rfl)
 rw[putSet_of es' t' (o:=setO es ep t) rfl] at this;exact this
theorem avw{a:Addr}{es es1:Array (Int×Value)}{ep:Nat}{t t2:SetTable}{ns:List Int}(g:Bool->Sem Unit)(hg:∀(b:Bool) (s₁:Shared) (Q':Unit->Shared->Prop),Q' () s₁->wpAny (model prog w) A (g b) Q' E s₁)
  (ho:s.heap.get? a=some (setO es ep t)) (G:SetG w es1 t2 ns) (hb:es1.size < scanBound) {wasDummy:Bool} {R:Option Bool->Shared->Prop}
  (h:∀h' es' ep' t',Heap.SameBut a s.heap h'->h'.get? a=some (setO es' ep' t')->SetG w es' t' ns->es'.size=es1.size->R (some true) { s with heap:=h' }) :
  wpAny (model prog w) A (do
    storeSet a es1 t2
    if (!wasDummy&&t2.tooFull)=true then do
      g (relayAll t2 es1 (SetTable.grown es1.size)).2.2
      storeSet a (relayAll t2 es1 (SetTable.grown es1.size)).1 (relayAll t2 es1 (SetTable.grown es1.size)).2.1
      pure (some true)
     else pure (some true)) R E s:=by
 refine wpAny_bind (wpAny_storeSet_of ho rfl ?_ (fits_of_scanBound hb));have h1:=alz (es':=es1) (t':=t2) ho;have b1:=Heap.SameBut.update s.heap a (Obj.putSet es1 t2);split
 ·have hp:=relayAll_perm t2 es1 (SetTable.grown es1.size);have hsz:(relayAll t2 es1 (SetTable.grown es1.size)).1.size=es1.size:=by rw[<-Array.length_toList,hp.length_eq,Array.length_toList]
  refine wpAny_bind (hg _ _ _ ?_);refine wpAny_bind (wpAny_storeSet_of h1 rfl ?_ (fits_of_scanBound (by rw[hsz];exact hb)))
  exact wpAny_pure (h _ _ _ _ (b1.trans (Heap.SameBut.update _ a _)) (alz h1) (G.perm hp (relayAll_fits _ _ _) (anp G.kept _ _)) hsz)
 ·exact wpAny_pure (h _ _ _ _ b1 h1 G rfl)
theorem a1l(ho:s.heap.get? a=some (setO es ep t))(G:SetG w es t ns)(hb:es.size+1 < scanBound)
  (h:∀h' es' ep' t' b,Heap.SameBut a s.heap h'->h'.get? a=some (setO es' ep' t')->SetG w es' t' (ns++[k])->es'.size<=es.size+1->Q b { s with heap:=h' }) :
  wpAny (model prog w) A (setAddHashed a (.int k u) (hashInt k)) Q E s:=by
 have hel:ElemsOf (intKind prog w) es.toList:=G.elems;have hkey:(intKind prog w).is k (.int k u)=true:=intKind_is _ _ _ _;unfold setAddHashed setAddHashedIn;refine wpAny_holding (wpAny_bind (wpAny_setState_of ho rfl G.fit ?_));dsimp only;rw[byScan_of (knd:=intKind prog w) rfl (by omega) hel]
 simp only[↓reduceIte];unfold setAddByScan;refine wpAny_bind ?_;refine wpAny_bind (wpAny_rule ?_);refine wpAny_bind (wpAny_setScan_of (knd:=intKind prog w) hkey ho rfl G.fit hel ?_);cases hr:List.findIdx? (fun e=>(intKind prog w).is k e.2) es.toList with
 | some j =>
  dsimp only;obtain⟨hj,hpj,_⟩:=List.findIdx?_eq_some_iff_getElem.mp hr;have hin:k∈es.toList.map keyE:=List.mem_map.mpr ⟨_,List.getElem_mem hj,(aq3 (G.ent _ (List.getElem_mem hj)) k).mp hpj⟩;refine wpAny_pure (wpAny_pure ?_);refine h s.heap es ep t _ (Heap.SameBut.refl a s.heap) ho ⟨G.ent,G.nd,fun j' =>?_,G.fit,G.kept⟩ (by omega)
  rw[List.mem_append,List.mem_singleton,G.mem j'];exact⟨.inl,fun z=>z.elim id fun z=>z▸(G.mem k).mp hin⟩
 | none =>
  dsimp only;have hout:k∉es.toList.map keyE:=fun z=>by
   obtain⟨e,he,hk⟩:=List.mem_map.mp z;have h1:=List.findIdx?_eq_none_iff.mp hr e he;have h2:(intKind prog w).is k e.2=true:=(aq3 (G.ent e he) k).mpr hk;rw[h2] at h1;cases h1
  have hgw:∀(b:Bool) {s₁:Shared} {Q':Unit->Shared->Prop},Q' () s₁->wpAny (model prog w) A (match b with | true=>rule "set.scan.the-table-gave-way" | false=>pure ()) Q' E s₁ :=
   fun b s₁ Q' hq=>by cases b <;> first | exact wpAny_pure hq | exact wpAny_rule hq
  have hperm:=layNew_perm t es (hashInt k) (.int k u);have hfits:=layNew_fits t es (hashInt k) (.int k u);have hkept:=ak1 G.kept es (hashInt k) (.int k u);show wpAny (model prog w) A _ _ _ _
  change wpAny (model prog w) A (match layNew t es (hashInt k) (.int k u) with | (es,t,wasDummy,gave)=>_) _ _ _
  generalize hL:layNew t es (hashInt k) (.int k u)=L at hperm hfits hkept ⊢
  obtain⟨es1,t1,wasDummy,gave⟩:=L;dsimp only at hperm hfits hkept ⊢
  have G1:=G.push hout hperm hfits hkept;have hsz1:es1.size=es.size+1:=by rw[<-Array.length_toList,hperm.length_eq,Array.length_toList,Array.size_push]
  refine wpAny_bind (hgw _ ?_);split
  ·refine wpAny_bind ?_;rw[hashByValue_scannable 8 rfl];refine wpAny_pure ?_;refine avw _ ?_ ho (ns:=ns++[k]) ?_ (by omega) ?_
   ·intro b s₁ Q' hq;cases b <;> first | exact wpAny_pure hq | exact wpAny_rule hq
   ·exact G1
   ·intro h' es' ep' t' hsb ho' G' hz;exact wpAny_pure (h h' es' ep' t' _ hsb ho' G' (by omega))
  ·refine wpAny_bind (wpAny_pure ?_);simp only[↓reduceIte];refine avw _ ?_ ho (ns:=ns++[k]) G1 (by omega) ?_
   ·intro b s₁ Q' hq;cases b <;> first | exact wpAny_pure hq | exact wpAny_rule hq
   ·intro h' es' ep' t' hsb ho' G' hz;exact wpAny_pure (h h' es' ep' t' _ hsb ho' G' (by omega))
end
section
variable{prog:Program}{w:World}{A:Around}{R:Result->Shared->Prop}{I:Addr}{fp wr:List Addr}{G:Array GenState->Array GenState->Prop}{n:Nat}{P:Nat->Value->Prop}{St:Nat->Shared->Prop}
theorem av3(W:WalksS prog w A.in1 I fp wr G n P St)(S:Addr)(hSf:S∉fp)(val:Nat->Int)(hval:∀i v,P i v->∃t,v=.int (val i) t)(hb:n+1 < scanBound) :
  ∀(k i:Nat) (s:Shared) (es:Array (Int×Value)) (ep:Nat) (t:SetTable),n - i=k->i<=n->St i s->s.heap.get? S=some (setO es ep t)->SetG w es t ((List.range i).map val)->es.size<=i ->
   (∀s' es' ep' t',Moved (S::wr) G s s'->s'.heap.get? S=some (setO es' ep' t')->SetG w es' t' ((List.range n).map val)->es'.size<=n->R (.ok (.ret .none)) s') ->
   codeAny (model prog w) A (.builtin "set.update.loop" ⟨[.ref S,.ref I],[]⟩) R s:=by
 have hSw:S∉wr:=fun h=>hSf (W.sub _ h)
 have hsub:∀b∈wr,b∈S::wr:=fun b hb=>List.mem_cons_of_mem _ hb
 intro k
 induction k with
 | zero =>
  intro i s es ep t hk hi hst ho g hz hR;have hin:i=n:=by omega
  subst hin;refine codeAny_builtin F.entry_set_update_loop ?_;rw[Around.under_plainId F.plain_set_update_loop _];show wpAny _ A.in1 (pyNext (.ref I) >>= _) _ _ s;refine wpAny_bind (W.done s _ _ hst fun s' hm =>?_)
  show wpAny _ A.in1 (ret Value.none) _ _ s';exact wpAny_pure (hR s' es ep t (hm.mono hsub) (hm.heap S _ hSw ho) g hz)
 | succ k ih =>
  intro i s es ep t hk hi hst ho g hz hR;have hlt:i < n:=by omega
  refine codeAny_builtin F.entry_set_update_loop ?_;rw[Around.under_plainId F.plain_set_update_loop _];show wpAny _ A.in1 (pyNext (.ref I) >>= _) _ _ s;refine wpAny_bind (W.item i s _ _ hlt hst fun v s' hP hst' hm =>?_)
  obtain⟨u,rfl⟩:=hval i v hP;have ho':s'.heap.get? S=some (setO es ep t):=hm.heap S _ hSw ho;show wpAny _ A.in1 (holding [Value.int (val i) u] (setAdd S (.int (val i) u)) >>= _) _ _ s';refine wpAny_bind (wpAny_holding ?_);unfold setAdd;refine wpAny_holding ?_;refine wpAny_bind ((intKind prog w).pyHash (k:=val i) (intKind_is _ _ _ _) ?_);refine a1l (s:={ s' with toks:=s'.toks+1 }) (u:=u) (k:=val i) ho' g (by omega) fun h' es' ep' t' b hsb ho2 g2 hz2 =>?_
  have g3:SetG w es' t' ((List.range (i+1)).map val):=by
   rw[List.range_succ,List.map_append];exact g2
  refine wpAny_pure ⟨plainId_quiet F.plain_set_update_loop _,ih (i+1) _ es' ep' t' (by omega) hlt (W.frame _ s' _ _ hst' (Nat.le_succ _) fun b hb o e =>?_) ho2 g3 (by omega) fun s'' es'' ep'' t'' hm'' ho'' g'' hz'' =>?_⟩
  ·rw[hsb.2 b (fun h:b=S=>hSf (by rw[<-h];exact hb))];exact e
  ·refine hR s'' es'' ep'' t'' (Moved.trans W.gtrans ((hm.mono hsub).then_heap (Nat.le_succ _) fun b o hb e =>?_) hm'') ho'' g'' hz''
   rw[hsb.2 b (fun h:b=S=>hb (by rw[h];exact List.mem_cons_self))];exact e
end
theorem sub_tuple_set:isSubtype (.type "tuple") (.type "set")=pure false:=by rw[isSubtype_type];kernel_rfl
theorem sub_tuple_frozenset:isSubtype (.type "tuple") (.type "frozenset")=pure false:=by rw[isSubtype_type];kernel_rfl
section
variable{prog:Program}{w:World}{A:Around}{E:Value->Shared->Prop}{s:Shared}
abbrev fresh0(w:World):Obj:=setO #[] 0 (.fresh 0 0 (!w.params.followText "set-order"))
theorem axf(a:Value)(h:Q₁ (.ref s.heap.objs.size) { s with heap:=s.heap.push (fresh0 w) }) :
  codeAny (model prog w) A (.call (.builtin "set.__new__") ⟨[.type "set", a],[]⟩) (wants Q₁ E) s:=by
 refine codeAny_of_tree ?_;show wpAny _ A.in1 (do checkBuiltinCall "set.__new__" ⟨[.type "set", a],[]⟩;again (.builtin "set.__new__" ⟨[.type "set", a],[]⟩)) _ _ s
 refine wpAny_bind (wpAny_of_eq (F.newCall_set_1 a) (wpAny_pure ⟨plainId_quiet F.plain_set_new _,codeAny_builtin F.entry_set_new ?_⟩));rw[Around.under_plainId F.plain_set_new _];unfold Builtin.«set.__new__» Builtin.Frozenset.newClass;have hsub:=sub_set_self;obtain⟨hp,g,d,tk,os⟩:=s;dsimp only;wp_walk;refine wpAny_askSetting (wpAny_pure ?_);dsimp only;simp only[newObj];refine wpAny_bind (wpAny_alloc (wpAny_pure ?_));exact wpAny_pure h
set_option maxRecDepth 100000 in
set_option maxHeartbeats 3200000 in
theorem ay2(hh:A.handled=none)(hl:s.heap.IsTuple l items)(hi:IntsAre items.toList ns)(hb:items.size+1 < scanBound)
  (h:∀(h':Heap) (tk:Nat) es ep t,h'.get? s.heap.objs.size=some (setO es ep t)->SetG w es t ns->es.size<=items.size->(∀b o,s.heap.get? b=some o->h'.get? b=some o)->Q (.ref s.heap.objs.size) { s with heap:=h',toks:=tk }) :
  wpAny (model prog w) A (call (.type "set") [.ref l]) Q E s:=by
 obtain⟨c,tl,hmro⟩:=F.called_set.mro;have hmade:=F.called_set.made;have hsub:=F.called_set.sub;refine wpAny_call (codeAny_of_tree ?_);show wpAny _ _ (callAny (.type "set") _) _ _ _;refine wpAny_pure ⟨Code.quiet_builtin _ (by decide +kernel),codeAny_builtin F.entry_type_call ?_⟩
 rw[Around.under_plain (weight_type_call_type "set" [.ref l] []) rfl];have h1:=F.called_set.notType;have h2:=F.called_set.canCreate;have hct:=F.typeCall_set_1 (.ref l)
 repeat (any_goals (first | assumption | wp_step))
 refine codeAny_mono (axf (.ref l) (E:=E) (Q₁:=fun obj s₁=>obj=.ref s.heap.objs.size/\s₁={ s with heap:=s.heap.push (fresh0 w) }) ⟨rfl,rfl⟩) fun r s₁ hr =>?_
 cases r with
 | error e=>exact hr
 | ok fl =>
  cases fl with
  | ret obj =>
   obtain⟨rfl,rfl⟩:=hr;have hS:(s.heap.push (fresh0 w)).get? s.heap.objs.size=some (fresh0 w):=Heap.get?_push_size _ rfl;have hT:Shared.TypeIs { s with heap:=s.heap.push (fresh0 w) } (.ref s.heap.objs.size) "set" := ⟨_,hS,rfl⟩
   have hli:=F.called_set.init.lookup;have hbi:=F.called_set.init.bind (.ref s.heap.objs.size)
   repeat (any_goals (first | assumption | wp_step))
   refine codeAny_mono (codeAny_call_builtin (R:=wants (fun r s₂=>r=.none/\∃h' tk es ep t,s₂={ s with heap:=h',toks:=tk }/\h'.get? s.heap.objs.size=some (setO es ep t)/\SetG w es t ns/\es.size<=items.size /\
     (∀b o,s.heap.get? b=some o->h'.get? b=some o)) E) F.called_set.init.plain F.entry_set_init (check_set_init_1 hT ?_)) fun r₂ s₂ hr₂ =>?_
   ·obtain⟨ol,hol,hcl,nl,hdl⟩:=hl;obtain⟨ocls,odict,odata,oslots⟩:=ol;simp only at hcl hdl;subst hcl;subst hdl;have hol':(s.heap.push (fresh0 w)).get? l=some { cls:=.type "tuple", dict:=odict,data:=.seq items nl,slots:=oslots }:=Heap.get?_push_of_some _ hol;have hsls:=sub_tuple_set;have hslf:=sub_tuple_frozenset;have hne:(Value.type "tuple" == Value.type "dict")=false:=by decide
    have hl1:(s.heap.push (fresh0 w)).IsTuple l items:=⟨_,hol',rfl,nl,rfl⟩;unfold Builtin.«set.__init__» noKeywords Builtin.Frozenset.updateFrom;generalize hPI:pyIter=PI;wp_walk;subst hPI;refine wpAny_pyIter_tuple hl1 ?_;refine wpAny_bind (wpAny_runValue ?_);have hlS:l < s.heap.objs.size:=Heap.lt_size hol;have hh3:A.in1.in1.in1.handled=none:=by simp[hh]
    have hneI:l≠(s.heap.push (fresh0 w)).objs.size:=by
     rw[Heap.size_push];exact Nat.ne_of_lt (Nat.lt_succ_of_lt hlS)
    have hSf:s.heap.objs.size∉[(s.heap.push (fresh0 w)).objs.size,l]:=by
     rw[Heap.size_push];simp only[List.mem_cons,List.mem_singleton,List.not_mem_nil,or_false,not_or];exact⟨Nat.ne_of_lt (Nat.lt_succ_self _),Nat.ne_of_gt hlS⟩
    have hval:∀(i:Nat) (v:Value),items[i]? = some v->∃t,v=.int ((fun i=>ns.getD i 0) i) t:=fun i v hv =>
     PyProof.Rows.IntsAre.int_at hi i v (by rw[Array.getElem?_toList];exact hv)
    have hlen:items.size=ns.length:=by rw[<-Array.length_toList];exact hi.length
    have hns:(List.range items.size).map (fun i=>ns.getD i 0)=ns:=by
     rw[hlen];apply List.ext_getElem
     ·simp
     ·intro i h1 h2;simp[List.getD_eq_getElem?_getD,h2]
    refine av3 ((Walks.tuple hh3 _ l hneI items).toS) s.heap.objs.size hSf (fun i=>ns.getD i 0) hval hb (items.size - 0) 0 _ #[] 0 _ (by omega) (Nat.zero_le _)
     ⟨⟨_,Heap.get?_push_size _ rfl,rfl,rfl⟩,(hl1.push _)⟩ (Heap.get?_push_of_some _ hS) (SetG.empty w) (Nat.zero_le _) ?hR
    case hR =>
     intro s' es ep t hm ho' g' hz';rw[hns] at g';obtain⟨h',g₀,d',tk',os'⟩:=s';have eg:g₀=s.gens:=hm.gens;have ed:d'=s.drawn:=hm.drawn;have eo:os'=s.os:=hm.os;subst eg;subst ed;subst eo;show wpAny _ _ _ _ _ _;refine wpAny_pure ?_;show wpAny _ _ (ret Value.none) _ _ _;refine wpAny_pure ⟨rfl,h',tk',es,ep,t,rfl,ho',g',hz',fun b o e =>?_⟩
     have hlt:=Heap.lt_size e;have hb1:b≠s.heap.objs.size:=Nat.ne_of_lt hlt;have hb2:b≠(s.heap.push (fresh0 w)).objs.size:=by
      rw[Heap.size_push];exact Nat.ne_of_lt (Nat.lt_succ_of_lt hlt)
     exact hm.heap b o (by simp only[List.mem_cons,List.mem_singleton,List.not_mem_nil,or_false,not_or];exact⟨hb1,hb2⟩) (Heap.get?_push_of_some _ (Heap.get?_push_of_some _ e))
   ·cases r₂ with
    | error e=>exact hr₂
    | ok fl₂ =>
     cases fl₂ with
     | ret r =>
      obtain⟨rfl,h',tk,es,ep,t,rfl,hS',g',hz',hk'⟩:=hr₂
      repeat (any_goals (first | assumption | wp_step))
      exact h _ _ _ _ _ hS' g' hz' hk'
     | _=>exact hr₂.elim
  | _=>exact hr.elim
end
theorem agy:entryFor table "set.__iter__" = some Builtin.«frozenset.__iter__» :=
 entryFor_alias (id' := "frozenset.__iter__") (by kernel_rfl) rfl (by decide +kernel) (by kernel_rfl)
theorem jf:Slot "set_iterator" "__next__" "set_iterator.__next__" :=
 .of (owner := "set_iterator") (n := "__next__") (by rw[typeLookup_type,builtinLookup_eq_fast];kernel_rfl) (by decide +kernel) (by decide +kernel) (by decide +kernel)
  (by first | exact .inl (by decide +kernel) | exact .inr (by decide +kernel)) (by rw[isSubtype_type];kernel_rfl)
theorem xm:entryFor table "set_iterator.__next__" = some Builtin.«set_iterator.__next__» := entryFor_of_tree (by kernel_rfl)
theorem aen:Slot "set_iterator" "__iter__" "set_iterator.__iter__" :=
 .of (owner := "set_iterator") (n := "__iter__") (by rw[typeLookup_type,builtinLookup_eq_fast];kernel_rfl) (by decide +kernel) (by decide +kernel) (by decide +kernel)
  (by first | exact .inl (by decide +kernel) | exact .inr (by decide +kernel)) (by rw[isSubtype_type];kernel_rfl)
theorem ain:entryFor table "set_iterator.__iter__" = some Builtin.«dict_keyiterator.__iter__» :=
 entryFor_alias (id' := "dict_keyiterator.__iter__") (by kernel_rfl) rfl (by decide +kernel) (by kernel_rfl)
theorem al6:Manifest.owners.lookup (String.ofList ['r','o','t','a','r','e','t','i','_','t','e','s'].reverse)=some Manifest.sig_set_iterator:=by kernel_rfl
theorem zy(a:Value):argsOk "set_iterator.__next__" ⟨[a],[]⟩:=by
 unfold argsOk;rw[signature?_of (id := "set_iterator.__next__") (n:=['_','_','t','x','e','n','_','_']) (o:=['r','o','t','a','r','e','t','i','_','t','e','s']) (by kernel_rfl) al6];kernel_rfl
theorem akd(a:Value):argsOk "set_iterator.__iter__" ⟨[a],[]⟩:=by
 unfold argsOk;rw[signature?_of (id := "set_iterator.__iter__") (n:=['_','_','r','e','t','i','_','_']) (o:=['r','o','t','a','r','e','t','i','_','t','e','s']) (by kernel_rfl) al6];kernel_rfl
def IsSI(h:Heap)(I S:Addr)(first:Value)(i n ep:Nat):Prop:=∃o,h.get? I=some o/\o.cls=.type "set_iterator" /\ o.data=.fields #[first,.int i 0,.ref S,.int n 0,.int ep 0]
theorem IsSI.typeIs{s:Shared}{I S:Addr}{first:Value}{i n ep:Nat}(x:IsSI s.heap I S first i n ep):s.TypeIs (.ref I) "set_iterator" := let ⟨o,ho,hc,_⟩:=x;⟨o,ho,hc⟩
theorem IsSI.at(x:IsSI h I S first i n ep)(e:∀o,h.get? I=some o->h'.get? I=some o):IsSI h' I S first i n ep:=let ⟨o,ho,r⟩:=x;⟨o,e _ ho,r⟩
section
variable{prog:Program}{w:World}{A:Around}{E:Value->Shared->Prop}{s:Shared}
theorem akl{I S:Addr}{first:Value}{i n ep:Nat}{Q:Value->Shared->Prop}(hit:IsSI s.heap I S first i n ep)(h:Q (.ref I) s):wpAny (model prog w) A (pyIter (.ref I)) Q E s:=by
 refine wpAny_pyIter_slot hit.typeIs aen (wpAny_call_entry aen hit.typeIs ain ?_ (akd _));show wpAny _ _ (ret (.ref I)) _ _ s;exact wpAny_pure ⟨_,rfl, "set_iterator", _,hit.typeIs,jf.lookup,h⟩
theorem ao6{I S:Addr}{slot i:Nat}{es:Array (Int×Value)}{ep:Nat}{t:SetTable}{Q:Option Value->Shared->Prop}{x:Value}{slot':Nat}(hit:IsSI s.heap I S (.int slot 0) i es.size ep)(ho:s.heap.get? S=some (setO es ep t))(hf:t.fits es.size=true)
  (hn:∀(A':Around) (Q':Option (Value×Nat)->Shared->Prop) (E':Value->Shared->Prop),Q' (some (x,slot')) s->wpAny (model prog w) A' (setNext S slot i ep) Q' E' s)
  (hQ:∀h',IsSI h' I S (.int slot' 0) (i+1) es.size ep->Heap.SameBut I s.heap h'->Q (some x) { s with heap:=h' }) :
  wpAny (model prog w) A (pyNext (.ref I)) Q E s:=by
 obtain⟨o,hI,hc,hd⟩:=id hit;unfold pyNext;refine wpAny_bind (wpAny_attempt (wpAny_callSpecial?_slot (name:=Str.ofString "__next__") hit.typeIs jf
  (wpAny_call_entry jf hit.typeIs xm ?_ (zy _))))
 refine wpAny_bind (wpAny_pure ?_);refine wpAny_bind (wpAny_fieldsOf hI hd ?_);dsimp only;refine wpAny_bind (wpAny_setEntries_of ho rfl hf ?_);rw[if_neg (by simp)]
 simp only[Int.toNat_natCast];refine wpAny_bind (hn _ _ _ ?_);dsimp only;refine wpAny_bind (wpAny_setField hI hd (by simp) ?_)
 have h1:=Heap.get?_update_self (Obj.mapFields (·.setIfInBounds 0 (rawInt (slot':Int)))) hI (Obj.isFreed_of_fields (Obj.data_mapFields hd _));refine wpAny_bind (wpAny_setField h1 (Obj.data_mapFields hd _) (by simp) ?_)
 refine wpAny_pure ⟨_,rfl,wpAny_pure (hQ _ ?_ ((Heap.SameBut.update ..).trans (Heap.SameBut.update ..)))⟩;exact⟨_,Heap.get?_update_self _ h1 (Obj.isFreed_of_fields (Obj.data_mapFields (Obj.data_mapFields hd _) _)),(Obj.cls_mapFields ..).trans ((Obj.cls_mapFields ..).trans hc),by
  rw[Obj.data_mapFields (Obj.data_mapFields hd _)];simp[rawInt]⟩
theorem au6{I S:Addr}{slot i:Nat}{es:Array (Int×Value)}{ep:Nat}{t:SetTable}{Q:Option Value->Shared->Prop}(hh:A.handled=none)(hit:IsSI s.heap I S (.int slot 0) i es.size ep)(ho:s.heap.get? S=some (setO es ep t))(hf:t.fits es.size=true)
  (hn:∀(A':Around) (Q':Option (Value×Nat)->Shared->Prop) (E':Value->Shared->Prop),Q' none s->wpAny (model prog w) A' (setNext S slot i ep) Q' E' s)
  (hQ:∀h',Heap.ExtBut I s.heap h'->Q none { s with heap:=h' }):wpAny (model prog w) A (pyNext (.ref I)) Q E s:=by
 obtain⟨o,hI,hc,hd⟩:=id hit;unfold pyNext;refine wpAny_bind (wpAny_attempt (wpAny_callSpecial?_slot (name:=Str.ofString "__next__") hit.typeIs jf
  (wpAny_call_entry jf hit.typeIs xm ?_ (zy _))))
 refine wpAny_bind (wpAny_pure ?_);refine wpAny_bind (wpAny_fieldsOf hI hd ?_);dsimp only;refine wpAny_bind (wpAny_setEntries_of ho rfl hf ?_);rw[if_neg (by simp)]
 simp only[Int.toNat_natCast];refine wpAny_bind (hn _ _ _ ?_);dsimp only;refine wpAny_bind (wpAny_setField hI hd (by simp) ?_)
 show wpAny _ _ (newExc (.type "StopIteration") [] >>= _) _ _ _;refine wpAny_bind ?_;simp only[newExc,newTuple];refine wpAny_bind (wpAny_newObj_type ?_ (by size_fits))
 refine wpAny_bind (m:=firstArgMember _ _) (wpAny_of_eq (a:=Value.none) (by first | rfl | (simp only[firstArgMember];rfl)) ?_)
 refine wpAny_newObj_type ?_ (by size_fits)
 simp only[raiseNew];refine wpAny_bind (wpAny_handled ?_);rw[show A.in1.handled=none from hh]
 refine wpAny_bind (wpAny_pure (wpAny_throw ?_));refine wpAny_bind (wpAny_isInstance (T := "StopIteration") (b:=true) ⟨_,Heap.get?_push_size _ rfl,rfl⟩ isSubtype_stop ?_);exact wpAny_pure (hQ _ (((Heap.SameBut.update ..).extBut.push _).push _))
theorem as5{I S q:Addr}{i j m:Nat}{es:Array (Int×Value)}{ep:Nat}{t:SetTable}{Q:Option Value->Shared->Prop}{x:Int×Value}{ps:Array Value}(hit:IsSI s.heap I S (.ref q) i es.size ep)(ho:s.heap.get? S=some (setO es ep t))(hf:t.fits es.size=true)
  (hq:∃oq,s.heap.get? q=some oq/\oq.data=.seq ps m) (hp:ps[i]? = some (.int (j:Nat) 0)) (hx:es[j]? = some x)
  (hQ:∀h',IsSI h' I S (.ref q) (i+1) es.size ep->Heap.SameBut I s.heap h'->Q (some x.2) { s with heap:=h' }) :
  wpAny (model prog w) A (pyNext (.ref I)) Q E s:=by
 obtain⟨o,hI,hc,hd⟩:=id hit;obtain⟨oq,hoq,hdq⟩:=hq;unfold pyNext;refine wpAny_bind (wpAny_attempt (wpAny_callSpecial?_slot (name:=Str.ofString "__next__") hit.typeIs jf
  (wpAny_call_entry jf hit.typeIs xm ?_ (zy _))))
 refine wpAny_bind (wpAny_pure ?_);refine wpAny_bind (wpAny_fieldsOf hI hd ?_);dsimp only;refine wpAny_bind (wpAny_setEntries_of ho rfl hf ?_);rw[if_neg (by simp)]
 refine wpAny_bind (wpAny_seqItems hoq hdq ?_);dsimp only;simp only[Int.toNat_natCast,hp];unfold setNextDrawn;refine wpAny_bind (wpAny_bind (wpAny_setState_of ho rfl hf ?_));dsimp only;rw[if_neg (by simp)]
 rw[hx];refine wpAny_pure ?_;refine wpAny_bind (wpAny_setField hI hd (by simp) ?_)
 refine wpAny_pure ⟨_,rfl,wpAny_pure (hQ _ ?_ (Heap.SameBut.update ..))⟩;exact⟨_,Heap.get?_update_self _ hI (Obj.isFreed_of_fields (Obj.data_mapFields hd _)),(Obj.cls_mapFields ..).trans hc,by
  rw[Obj.data_mapFields hd];simp[rawInt]⟩
theorem ai3{I S q:Addr}{i m:Nat}{es:Array (Int×Value)}{ep:Nat}{t:SetTable}{Q:Option Value->Shared->Prop}{ps:Array Value}(hh:A.handled=none)(hit:IsSI s.heap I S (.ref q) i es.size ep)(ho:s.heap.get? S=some (setO es ep t))(hf:t.fits es.size=true)
  (hq:∃oq,s.heap.get? q=some oq/\oq.data=.seq ps m) (hp:ps[i]? = none)
  (hQ:∀h',Heap.ExtBut I s.heap h'->Q none { s with heap:=h' }):wpAny (model prog w) A (pyNext (.ref I)) Q E s:=by
 obtain⟨o,hI,hc,hd⟩:=id hit;obtain⟨oq,hoq,hdq⟩:=hq;unfold pyNext;refine wpAny_bind (wpAny_attempt (wpAny_callSpecial?_slot (name:=Str.ofString "__next__") hit.typeIs jf
  (wpAny_call_entry jf hit.typeIs xm ?_ (zy _))))
 refine wpAny_bind (wpAny_pure ?_);refine wpAny_bind (wpAny_fieldsOf hI hd ?_);dsimp only;refine wpAny_bind (wpAny_setEntries_of ho rfl hf ?_);rw[if_neg (by simp)]
 refine wpAny_bind (wpAny_seqItems hoq hdq ?_);dsimp only;simp only[Int.toNat_natCast,hp];refine wpAny_bind (wpAny_setField hI hd (by simp) ?_)
 have h1:=Heap.get?_update_self (Obj.mapFields (·.setIfInBounds 0 (rawInt 0))) hI (Obj.isFreed_of_fields (Obj.data_mapFields hd _));refine wpAny_bind (wpAny_setField h1 (Obj.data_mapFields hd _) (by simp) ?_)
 show wpAny _ _ (newExc (.type "StopIteration") [] >>= _) _ _ _;refine wpAny_bind ?_;simp only[newExc,newTuple];refine wpAny_bind (wpAny_newObj_type ?_ (by size_fits))
 refine wpAny_bind (m:=firstArgMember _ _) (wpAny_of_eq (a:=Value.none) (by first | rfl | (simp only[firstArgMember];rfl)) ?_)
 refine wpAny_newObj_type ?_ (by size_fits)
 simp only[raiseNew];refine wpAny_bind (wpAny_handled ?_);rw[show A.in1.handled=none from hh]
 refine wpAny_bind (wpAny_pure (wpAny_throw ?_));refine wpAny_bind (wpAny_isInstance (T := "StopIteration") (b:=true) ⟨_,Heap.get?_push_size _ rfl,rfl⟩ isSubtype_stop ?_);exact wpAny_pure (hQ _ ((((Heap.SameBut.update ..).trans (Heap.SameBut.update ..)).extBut.push _).push _))
end
section
variable{prog:Program}{w:World}{A:Around}{E:Value->Shared->Prop}{s:Shared}
theorem agr(h:Q (w.params.followText "set-order") s):wpAny (model prog w) A setsByText Q E s:=by
 unfold setsByText;exact wpAny_bind (wpAny_askSetting (wpAny_pure h))
theorem an3(ho:s.heap.get? S=some (setO es ep t))(hf:t.fits es.size=true)
  (hw:w.params.followText "set-order" = false) (hd:(!t.plain&&decide (es.size > 1))=false) (hl:t.led=true) (hb:SetTable.below t.place slot=i) (he:es[i]? = some e) (hp:t.place[i]? = some j)
  (h:Q (some (e.2,j+1)) s):wpAny (model prog w) A (setNext S slot g ep) Q E s:=by
 unfold setNext;refine wpAny_bind (wpAny_setState_of ho rfl hf ?_);dsimp only;refine wpAny_bind (agr ?_);rw[hw,if_neg (by simp)]
 show wpAny _ _ (if (!t.plain&&decide (es.size > 1))=true then _ else _) _ _ _
 rw[hd,if_neg (by simp)]
 refine wpAny_bind (m:=if (!t.led && !es.isEmpty)=true then _ else _) ?_
 rw[hl,if_neg (by simp)]
 refine wpAny_pure ?_;rw[hb,he,hp];exact wpAny_pure h
theorem ap0(ho:s.heap.get? S=some (setO es ep t))(hf:t.fits es.size=true)
  (hw:w.params.followText "set-order" = false) (hd:(!t.plain&&decide (es.size > 1))=false) (hl:t.led=true) (hb:SetTable.below t.place slot=i) (he:es[i]? = none)
  (h:Q none s):wpAny (model prog w) A (setNext S slot g ep) Q E s:=by
 unfold setNext;refine wpAny_bind (wpAny_setState_of ho rfl hf ?_);dsimp only;refine wpAny_bind (agr ?_);rw[hw,if_neg (by simp)]
 show wpAny _ _ (if (!t.plain&&decide (es.size > 1))=true then _ else _) _ _ _
 rw[hd,if_neg (by simp)]
 refine wpAny_bind (m:=if (!t.led && !es.isEmpty)=true then _ else _) ?_
 rw[hl,if_neg (by simp)]
 refine wpAny_pure ?_;rw[hb,he];exact wpAny_pure h
theorem aje(ho:s.heap.get? S=some (setO es ep t))(hf:t.fits es.size=true)
  (hw:w.params.followText "set-order" = true) (h:Q (((pickOrder (w.params.setOrder S ep) es)[g]?).map fun e=>(e.2,slot)) s):wpAny (model prog w) A (setNext S slot g ep) Q E s:=by
 unfold setNext;refine wpAny_bind (wpAny_setState_of ho rfl hf ?_);dsimp only;refine wpAny_bind (agr ?_);rw[hw,if_pos rfl,if_neg (by simp)]
 unfold setWalk;refine wpAny_bind (wpAny_bind (wpAny_setState_of ho rfl hf ?_));dsimp only;refine wpAny_bind (agr ?_);rw[hw,if_pos rfl];exact wpAny_bind (wpAny_askSetting (wpAny_pure (wpAny_pure h)))
theorem aeh:∀(l:List α) (i:Nat) (x:α),l[i]? = some x->(x::l.eraseIdx i).Perm l
 | [],i,x,h=>by simp at h
 | a::r,0,x,h=>by simp at h;subst h;exact .refl _
 | a::r,i+1,x,h=>by
  rw[List.getElem?_cons_succ] at h;exact(List.Perm.swap a x _).trans ((aeh r i x h).cons a)
theorem apl(next:Nat->Nat):∀(fuel k:Nat) (left:List α) (out:Array α),left.length=fuel->(pickOrder.go next fuel k left out).toList.Perm (out.toList++left)
 | 0,k,left,out,h=>by
  have:left=[]:=List.length_eq_zero_iff.mp h;subst this;show out.toList.Perm _;simp
 | fuel+1,k,left,out,h=>by
  have hlt:next k % left.length < left.length:=Nat.mod_lt _ (by omega)
  unfold pickOrder.go;have hx:left[next k % left.length]? = some left[next k % left.length]:=List.getElem?_eq_getElem hlt;rw[hx];dsimp only;have hlen:(left.eraseIdx (next k % left.length)).length=fuel:=by rw[List.length_eraseIdx_of_lt hlt];omega
  refine(apl next fuel (k+1) _ _ hlen).trans ?_;rw[Array.toList_push,List.append_assoc];exact List.Perm.append_left _ (aeh _ _ _ hx)
theorem afz(next:Nat->Nat)(xs:Array α):(pickOrder next xs).toList.Perm xs.toList:=by
 have:=apl next xs.size 0 xs.toList #[] (by simp)
 simpa[pickOrder] using this
theorem ahg:∀(n:Nat) {α:Type} (xs:List α) (s:Shared) (Q:List α->Shared->Prop),xs.length=n->(∀ys d,ys.Perm xs->Q ys { s with drawn:=d })->wpAny (model prog w) A (drawOrder n xs) Q E s
 | 0,α,xs,s,Q,h,q=>by
  have:xs=[]:=List.length_eq_zero_iff.mp h;subst this;exact wpAny_pure (q [] s.drawn (.refl _))
 | n+1,α,[],s,Q,h,q=>by cases h
 | n+1,α,x::r,s,Q,h,q=>by
  unfold drawOrder;intro Γ p hΓ;show(x::r).length≠0/\_;refine⟨by simp,?_⟩
  revert Γ p hΓ
  show wpAny _ _ (match (x::r)[(model prog w).w.draws .order (s.drawn.get .order) % (x::r).length]? with | some y=>_ | none=>_) _ _ _
  have hlt:(model prog w).w.draws .order (s.drawn.get .order) % (x::r).length < (x::r).length:=Nat.mod_lt _ (by simp)
  have hx:=List.getElem?_eq_getElem hlt;rw[hx];refine wpAny_bind (ahg n _ _ _ (by rw[List.length_eraseIdx_of_lt hlt];simpa using h) fun ys d hp =>?_)
  exact wpAny_pure (q _ _ ((hp.cons _).trans (aeh _ _ _ hx)))
end
def PW(ord:Array (Int×Value))(i:Nat)(v:Value):Prop:=∃e,ord[i]? = some e/\v=e.2
theorem akm(hne:S≠I)(ho:h.get? S=some o)(hs:Heap.SameBut I h h'):h'.get? S=some o:=(hs.2 S hne).trans ho
theorem aqx{t:SetTable}{n:Nat}(h:t.fits n=true):t.place.size=n:=by
 unfold SetTable.fits at h;rw[Bool.and_eq_true] at h;exact eq_of_beq h.1
section
variable{prog:Program}{w:World}{A:Around}
theorem asq(hh:A.handled=none)(I S:Addr)(hne:S≠I)(hf:t.fits es.size=true)(hw:w.params.followText "set-order" = true) :
  Walks prog w A I [I,S] [I] es.size (PW (pickOrder (w.params.setOrder S ep) es)) (fun i h=>IsSI h I S (.int (0:Nat) 0) i es.size ep/\h.get? S=some (setO es ep t)) where
 sub:=fun b hb=>by simp at hb;simp[hb]
 frame:=fun _ _ _ st hk=>⟨st.1.at fun o e=>hk I (by simp) o e,hk S (by simp) _ st.2⟩
 item:=fun i s Q E hi st hQ=>by
  have hsz:(pickOrder (w.params.setOrder S ep) es).size=es.size:=by rw[<-Array.length_toList,(afz _ _).length_eq,Array.length_toList]
  have hx:(pickOrder (w.params.setOrder S ep) es)[i]? = some (pickOrder (w.params.setOrder S ep) es)[i]:=by simp[hsz,hi]
  refine ao6 (x:=((pickOrder (w.params.setOrder S ep) es)[i]).2) (slot':=0) st.1 st.2 hf (fun A' Q' E' q=>aje st.2 hf hw (by rw[hx];exact q)) fun h' hit' hs' =>?_
  exact hQ _ h' s.toks ⟨_,hx,rfl⟩ ⟨hit',akm hne st.2 hs'⟩ fun b o hb e=>hs'.extBut b o (fun h=>hb (by simp[h])) e
 done:=fun s Q E st hQ=>by
  have hsz:(pickOrder (w.params.setOrder S ep) es).size=es.size:=by rw[<-Array.length_toList,(afz _ _).length_eq,Array.length_toList]
  refine au6 hh st.1 st.2 hf (fun A' Q' E' q=>aje st.2 hf hw (by rw[Array.getElem?_eq_none (by omega)];exact q)) fun h' he'=>hQ h' s.toks fun b o hb e=>he' b o (fun h=>hb (by simp[h])) e
 self:=fun _ _ _ _ st hQ=>akl st.1 hQ
theorem aor(hh:A.handled=none)(I S:Addr)(hne:S≠I){es:Array (Int×Value)}{ep:Nat}{t:SetTable}(hf:t.fits es.size=true)(hw:w.params.followText "set-order" = false)(hr:Rise t)(hd:(!t.plain&&decide (es.size > 1))=false)(hl:t.led=true) :
  Walks prog w A I [I,S] [I] es.size (PW es) (fun i h=>(∃slot:Nat,SetTable.below t.place slot=i/\IsSI h I S (.int slot 0) i es.size ep)/\h.get? S=some (setO es ep t)) where
 sub:=fun b hb=>by simp at hb;simp[hb]
 frame:=fun _ _ _ ⟨⟨slot,hb,st⟩,ho⟩ hk=>⟨⟨slot,hb,st.at fun o e=>hk I (by simp) o e⟩,hk S (by simp) _ ho⟩
 item:=fun i s Q E hi ⟨⟨slot,hb,st⟩,ho⟩ hQ=>by
  have hx:es[i]? = some es[i]:=by simp[hi]
  have hps:=aqx hf;have hp:t.place[i]? = some (t.place[i]):=by simp[hps,hi]
  refine ao6 (x:=(es[i]).2) (slot':=t.place[i]+1) st ho hf (fun A' Q' E' q=>an3 ho hf hw hd hl hb hx hp q) fun h' hit' hs' =>?_
  exact hQ _ h' s.toks ⟨_,hx,rfl⟩ ⟨⟨_,aoi hr hp,hit'⟩,akm hne ho hs'⟩ fun b o hb e=>hs'.extBut b o (fun h=>hb (by simp[h])) e
 done:=fun s Q E ⟨⟨slot,hb,st⟩,ho⟩ hQ=>by
  refine au6 hh st ho hf (fun A' Q' E' q=>ap0 ho hf hw hd hl hb (Array.getElem?_eq_none (Nat.le_refl _)) q) fun h' he'=>hQ h' s.toks fun b o hb e=>he' b o (fun h=>hb (by simp[h])) e
 self:=fun _ _ _ _ ⟨⟨slot,hb,st⟩,ho⟩ hQ=>akl st hQ
theorem aos(hh:A.handled=none)(I S q:Addr)(hne:S≠I)(hq:q≠I)(hf:t.fits es.size=true)(js:List Nat)(hj:js.Perm (List.range es.size)) :
  Walks prog w A I [I,S,q] [I] es.size (PW (js.map fun j=>es.getD j (0,.none)).toArray) (fun i h=>IsSI h I S (.ref q) i es.size ep/\h.get? S=some (setO es ep t)/\∃oq m,h.get? q=some oq/\oq.data=.seq (js.map fun(j:Nat)=>rawInt j).toArray m) where
 sub:=fun b hb=>by simp at hb;simp[hb]
 frame:=fun _ _ _ ⟨st,ho,oq,m,h1,h2⟩ hk=>⟨st.at fun o e=>hk I (by simp) o e,hk S (by simp) _ ho,oq,m,hk q (by simp) _ h1,h2⟩
 item:=fun i s Q E hi ⟨st,ho,oq,m,h1,h2⟩ hQ=>by
  have hlen:js.length=es.size:=by rw[hj.length_eq,List.length_range]
  have hjlt:js[i] < es.size:=List.mem_range.mp (hj.mem_iff.mp (List.getElem_mem (by omega)))
  have hx:es[js[i]]? = some es[js[i]]:=by simp[hjlt]
  refine as5 (j:=js[i]) (x:=es[js[i]]) st ho hf ⟨oq,h1,h2⟩ (by simp[hlen,hi,rawInt]) hx fun h' hit' hs' =>?_
  refine hQ _ h' s.toks ⟨es[js[i]],?_,rfl⟩ ⟨hit',akm hne ho hs',oq,m,(hs'.2 q hq).trans h1,h2⟩ fun b o hb e=>hs'.extBut b o (fun h=>hb (by simp[h])) e
  simp[hlen,hi,Array.getD,hjlt]
 done:=fun s Q E ⟨st,ho,oq,m,h1,h2⟩ hQ=>by
  have hlen:js.length=es.size:=by rw[hj.length_eq,List.length_range]
  refine ai3 hh st ho hf ⟨oq,h1,h2⟩ (by simp[hlen]) fun h' he'=>hQ h' s.toks fun b o hb e=>he' b o (fun h=>hb (by simp[h])) e
 self:=fun _ _ _ _ st hQ=>akl st.1 hQ
variable{E:Value->Shared->Prop}{s:Shared}
theorem ao7(ho:s.heap.get? S=some (setO es ep t))(hf:t.fits es.size=true)(h:Q (!w.params.followText "set-order" && (!t.plain&&decide (es.size > 1))) s) :
  wpAny (model prog w) A (setDrawn S) Q E s:=by
 unfold setDrawn;refine wpAny_bind (wpAny_setState_of ho rfl hf ?_);dsimp only;refine wpAny_bind (agr ?_);exact wpAny_pure h
theorem as7(ho:s.heap.get? S=some (setO es ep t))(G:SetG w es t ns)(hb:es.size < scanBound)
  (h:∀(I:Addr) (fp:List Addr) (St:Nat->Heap->Prop) (ord:Array (Int×Value)) (s':Shared),(∀A':Around,A'.handled=none->Walks prog w A' I fp [I] es.size (PW ord) St)->St 0 s'.heap->ord.toList.Perm es.toList ->
   s.heap.objs.size<=I->(∀b∈fp,b=S∨s.heap.objs.size<=b)->(∀b o,s.heap.get? b=some o->s'.heap.get? b=some o)->s'.gens=s.gens->s'.os=s.os->s'.toks=s.toks->Q (.ref I) s') :
  wpAny (model prog w) A (pyIter (.ref S)) Q E s:=by
 have hT:s.TypeIs (.ref S) "set" := ⟨_,ho,rfl⟩;have hSlt:S < s.heap.objs.size:=Heap.lt_size ho;refine wpAny_pyIter_slot hT F.slot_set_iter (wpAny_call_entry F.slot_set_iter hT agy ?_ (F.args_set_iter_1 _));show wpAny _ _ (pure S >>= _) _ _ s;refine wpAny_bind (wpAny_pure ?_);unfold Builtin.Frozenset.sizeOf;refine wpAny_bind (wpAny_bind (wpAny_setEntries_of ho rfl G.fit (wpAny_pure ?_)));refine wpAny_bind (ao7 ho G.fit ?_);cases hw:w.params.followText "set-order" with
 | true =>
  rw[Bool.not_true,Bool.false_and,if_neg (by simp)]
  refine wpAny_bind (wpAny_pure ?_);refine wpAny_bind (wpAny_setEpoch_of ho rfl G.fit ?_);refine wpAny_bind (wpAny_newObj_type (wpAny_pure ⟨_,rfl, "set_iterator", _,⟨_,Heap.get?_push_size _ rfl,rfl⟩,jf.lookup,?_⟩));refine h s.heap.objs.size [s.heap.objs.size,S] _ _ _ (fun A' hh=>asq hh _ S (Nat.ne_of_lt hSlt) G.fit hw) ⟨⟨_,Heap.get?_push_size _ rfl,rfl,rfl⟩,Heap.get?_push_of_some _ ho⟩ (afz _ _) (Nat.le_refl _) (fun b hb =>?_) (fun b o e=>Heap.get?_push_of_some _ e) rfl rfl rfl
  simp only[List.mem_cons,List.not_mem_nil,or_false] at hb;rcases hb with rfl | rfl
  ·exact .inr (Nat.le_refl _)
  ·exact .inl rfl
 | false =>
  have hl:t.led=true:=by
   have:=G.kept.2;rw[hw] at this;exact this
  cases hd:(!t.plain&&decide (es.size > 1)) with
  | false =>
   rw[Bool.and_false,if_neg (by simp)]
   refine wpAny_bind (wpAny_pure ?_);refine wpAny_bind (wpAny_setEpoch_of ho rfl G.fit ?_);refine wpAny_bind (wpAny_newObj_type (wpAny_pure ⟨_,rfl, "set_iterator", _,⟨_,Heap.get?_push_size _ rfl,rfl⟩,jf.lookup,?_⟩));refine h s.heap.objs.size [s.heap.objs.size,S] _ _ _ (fun A' hh=>aor hh _ S (Nat.ne_of_lt hSlt) G.fit hw G.kept.1 hd hl) ⟨⟨0,aoh G.kept.1,_,Heap.get?_push_size _ rfl,rfl,rfl⟩,Heap.get?_push_of_some _ ho⟩ (.refl _) (Nat.le_refl _) (fun b hb =>?_) (fun b o e=>Heap.get?_push_of_some _ e) rfl rfl rfl
   simp only[List.mem_cons,List.not_mem_nil,or_false] at hb;rcases hb with rfl | rfl
   ·exact .inr (Nat.le_refl _)
   ·exact .inl rfl
  | true =>
   rw[Bool.not_false,Bool.true_and,if_pos rfl];refine wpAny_bind (ahg _ (List.range es.size) _ _ List.length_range fun js d hj =>?_)
   have hlen:js.length=es.size:=by rw[hj.length_eq,List.length_range]
   simp only[newTuple];refine wpAny_bind (wpAny_newObj_type ?_ (by show(js.map fun(i:Nat)=>rawInt i).toArray.size<=sizeLine;rw[List.size_toArray,List.length_map,hlen];exact fits_of_scanBound hb))
   refine wpAny_bind (wpAny_setEpoch_of (Heap.get?_push_of_some _ ho) rfl G.fit ?_);refine wpAny_bind (wpAny_newObj_type (wpAny_pure ⟨_,rfl, "set_iterator", _,⟨_,Heap.get?_push_size _ rfl,rfl⟩,jf.lookup,?_⟩));have hq:∀o:Obj,s.heap.objs.size≠(s.heap.push o).objs.size:=fun o=>by rw[Heap.size_push];exact Nat.ne_of_lt (Nat.lt_succ_self _)
   have hS2:∀o:Obj,S≠(s.heap.push o).objs.size:=fun o=>by rw[Heap.size_push];exact Nat.ne_of_lt (Nat.lt_succ_of_lt hSlt)
   refine h _ _ _ _ _ (fun A' hh=>aos hh _ S s.heap.objs.size (hS2 _) (hq _) G.fit js hj) ⟨⟨_,Heap.get?_push_size _ rfl,rfl,rfl⟩,Heap.get?_push_of_some _ (Heap.get?_push_of_some _ ho),_,_,Heap.get?_push_of_some _ (Heap.get?_push_size _ rfl),rfl⟩ ?_ ?_ (fun b hb =>?_) (fun b o e=>Heap.get?_push_of_some _ (Heap.get?_push_of_some _ e)) rfl rfl rfl
   ·refine(hj.map _).trans ?_;have e:(List.range es.size).map (fun j=>es.getD j (0,Value.none))=es.toList:=by
     apply List.ext_getElem
     ·simp
     ·intro i h1 h2;have h3:i < es.size:=by simpa using h2
      simp[Array.getD,h3]
    rw[e]
   ·rw[Heap.size_push];exact Nat.le_succ _
   ·simp only[List.mem_cons,List.not_mem_nil,or_false] at hb;rcases hb with rfl | rfl | rfl
    ·right;rw[Heap.size_push];exact Nat.le_succ _
    ·exact .inl rfl
    ·exact .inr (Nat.le_refl _)
end
theorem agu:typeLookup (.type "set") "__len__" = pure (some (.builtin "set.__len__")):=by rw[typeLookup_type,builtinLookup_eq_fast];kernel_rfl
theorem aeu:∀{es:List (Int×Value)},(∀e∈es,Ent e)->IntsAre (es.map (·.2)) (es.map keyE)
 | [],_=>.nil
 | e::r,h=>by
  obtain⟨k,u,he⟩:=h e (List.mem_cons_self ..);subst he;exact .cons k u (aeu fun e he=>h e (List.mem_cons_of_mem _ he))
theorem aqj(h:ItemsOf (PW ord) acc n)(hn:ord.size=n):acc.toList=ord.toList.map (·.2):=by
 apply List.ext_getElem
 ·rw[List.length_map,Array.length_toList,Array.length_toList,h.1,hn]
 ·intro i h1 h2;obtain⟨e,he,hv⟩:=h.2 i acc.toList[i] (by rw[<-Array.getElem?_toList];exact List.getElem?_eq_getElem h1)
  rw[hv,List.getElem_map];rw[<-Array.getElem?_toList] at he;have h3:i < ord.toList.length:=by simpa using h2
  rw[List.getElem?_eq_getElem h3] at he;cases he;rfl
theorem ao2(ho:h.get? a=some (seqObj "list" xs n))(vs:List Value)(out:Array Value):∃m,(sortedHeap h a vs out).get? a=some (seqObj "list" out m) :=
 ⟨_,get?_update_seq (Heap.get?_push_of_some _ (Heap.get?_push_of_some _ (get?_update_seq ho (fun _ => #[])))) (fun _=>out)⟩
theorem ano(e:h.get? b=some o)(hb:b≠a):(sortedHeap h a vs out).get? b=some o :=
 (Heap.get?_update_other _ _ (Ne.symm hb)).trans (Heap.get?_push_of_some _ (Heap.get?_push_of_some _ ((Heap.get?_update_other _ _ (Ne.symm hb)).trans e)))
section
variable{prog:Program}{w:World}{A:Around}{E:Value->Shared->Prop}{s:Shared}
theorem alk(hh:A.handled=none)(ho:s.heap.get? S=some (setO es ep t))(G:SetG w es t ns)(hb:es.size < scanBound)
  (hQ:∀(s':Shared) (acc:List Value) (ks:List Int),s.heap.objs.size < s'.heap.objs.size->(∀b o,s.heap.get? b=some o->s'.heap.get? b=some o)->s'.gens=s.gens->s'.os=s.os->IntsAre acc ks->ks.Perm (es.toList.map keyE)->Q acc s') :
  wpAny (model prog w) A (collect (.ref S)) Q E s:=by
 have hSlt:S < s.heap.objs.size:=Heap.lt_size ho;unfold collect;refine wpAny_bind (wpAny_runValue (codeAny_builtin F.entry_proto_collect ?_));rw[Around.under_plainId F.plain_proto_collect _];show wpAny _ A.in1 (newList [] >>= fun l=>again (.builtin "list.__iadd__" ⟨[l,.ref S],[]⟩)) _ _ s
 refine wpAny_bind (wpAny_newObj_type ?_);refine wpAny_pure ⟨plainId_quiet F.plain_list_iadd _,codeAny_builtin F.entry_list_iadd ?_⟩;rw[Around.under_plainId F.plain_list_iadd _];have ho1:(s.heap.push { cls:=.type "list", data:=.seq ([]:List Value).toArray }).get? S=some (setO es ep t):=Heap.get?_push_of_some _ ho;have hL:(s.heap.push { cls:=.type "list", data:=.seq ([]:List Value).toArray }).get? s.heap.objs.size=some { cls:=.type "list", data:=.seq ([]:List Value).toArray }:=Heap.get?_push_size _ rfl;have hold:∀b o,s.heap.get? b=some o->(s.heap.push { cls:=.type "list", data:=.seq ([]:List Value).toArray }).get? b=some o:=fun b o e=>Heap.get?_push_of_some _ e
 have hsz1:(s.heap.push { cls:=.type "list", data:=.seq ([]:List Value).toArray }).objs.size=s.heap.objs.size+1:=Heap.size_push _ _;show wpAny _ A.in1 (Builtin.List.listExtendWith (.ref s.heap.objs.size) (.ref S) (.ref s.heap.objs.size)) _ _ { s with heap:=s.heap.push { cls:=.type "list", data:=.seq ([]:List Value).toArray } }
 generalize s.heap.push { cls:=.type "list", data:=.seq ([]:List Value).toArray }=H1 at ho1 hL hold hsz1 ⊢
 unfold Builtin.List.listExtendWith;refine wpAny_bind (wpAny_typeOf (T := "set") ⟨_,ho1,rfl⟩ ?_);have h1:Builtin.List.listSameRef (.ref s.heap.objs.size) (.ref S)=false:=by simp[Builtin.List.listSameRef,Nat.ne_of_gt hSlt]
 have h2:(Value.type "set" == Value.type "list")=false:=by decide
 have h3:(Value.type "set" == Value.type "tuple")=false:=by decide
 simp only[h1,h2,h3,Bool.or_false,Bool.false_eq_true,if_false];refine wpAny_bind (as7 (s:={ s with heap:=H1 }) ho1 G hb fun I fp St ord s2 W hst hord hI hfp hk2 hg2 ho2 ht2 =>?_)
 have hSs:s2.heap.get? S=some (setO es ep t):=hk2 _ _ ho1;have hLs:s2.heap.get? s.heap.objs.size=some { cls:=.type "list", data:=.seq ([]:List Value).toArray }:=hk2 _ _ hL;refine wpAny_bind (wpAny_holding ?_);unfold Builtin.List.listLengthHint;refine wpAny_bind (wpAny_specialOf (T := "set") ⟨_,hSs,rfl⟩ agu ?_);generalize hid:("set.__len__" : String)=id0
 wp_delta
 rw[show splitId id0=some ("set","__len__") from by subst hid;decide +kernel]
 subst hid;refine wpAny_bind (wpAny_isInstance (T := "set") (b:=true) ⟨_,hSs,rfl⟩ (by rw[isSubtype_type];kernel_rfl) ?_)
 show wpAny _ A.in1 (typeOf (Value.ref S) >>= _) _ _ _;refine wpAny_bind (wpAny_typeOf (T := "set") ⟨_,hSs,rfl⟩ ?_);refine wpAny_pure ?_;rw[if_pos (by decide)]
 refine wpAny_bind (wpAny_rule ?_);refine wpAny_bind ?_;show wpAny _ A.in1 (updateSeq s.heap.objs.size (·.push .none) >>= fun _=>updateSeq s.heap.objs.size (·.pop)) _ _ _
 refine wpAny_bind (wpAny_updateSeq hLs rfl ?_);have hS₂:=Heap.get?_update_self (Obj.mapSeq (·.push Value.none)) hLs rfl;refine wpAny_updateSeq hS₂ rfl ?_;have hS₃:=Heap.get?_update_self (Obj.mapSeq (·.pop)) hS₂ rfl;have oth:∀b o,b≠s.heap.objs.size->s2.heap.get? b=some o ->
   ((s2.heap.update s.heap.objs.size (Obj.mapSeq (·.push Value.none))).update s.heap.objs.size (Obj.mapSeq (·.pop))).get? b=some o :=
  fun b o hb e=>(Heap.get?_update_other _ _ (Ne.symm hb)).trans ((Heap.get?_update_other _ _ (Ne.symm hb)).trans e)
 have hSf:s.heap.objs.size∉fp:=fun hm=>by
  rcases hfp _ hm with e | e
  ·exact Nat.ne_of_gt hSlt e
  ·have e':s.heap.objs.size+1<=s.heap.objs.size:=hsz1▸e;exact Nat.not_succ_le_self _ e'
 have hIne:s.heap.objs.size+1<=I:=hsz1▸hI;refine wpAny_pure ⟨plainId_quiet F.plain_extend_loop _,codeAny_extend_loopS (W A.in1 hh).toS (fits_of_scanBound hb) _ hSf _ es.size 0 _ _ _ rfl (Nat.zero_le _)
  ((W A.in1 hh).frame 0 s2.heap _ hst fun b hb o e=>oth b o (fun h=>hSf (h▸hb)) e) hS₃ (ItemsOf.nil _) fun s' acc' c' hm hS' hacc =>?_⟩
 show wpAny _ A (load s.heap.objs.size >>= _) _ _ s';refine wpAny_bind (wpAny_load hS' ?_);have hosz:ord.size=es.size:=by rw[<-Array.length_toList,hord.length_eq,Array.length_toList]
 have hacc':=aqj hacc hosz;refine wpAny_pure (hQ s' acc'.toList (ord.toList.map keyE) (Heap.lt_size hS') (fun b o e =>?_) (hm.gens.trans hg2) (hm.os.trans ho2) ?_ (hord.map _))
 ·have hlt:=Heap.lt_size e;refine hm.heap b o (fun hb =>?_) (oth b o (Nat.ne_of_lt hlt) (hk2 b o (hold b o e)))
  simp only[List.mem_cons,List.not_mem_nil,or_false] at hb;rcases hb with rfl | rfl
  ·exact Nat.lt_irrefl _ hlt
  ·exact absurd hlt (Nat.not_lt.mpr (Nat.le_trans (Nat.le_succ _) hIne))
 ·rw[hacc'];exact aeu fun e he=>G.ent e (hord.mem_iff.mp he)
set_option maxHeartbeats 1000000 in
theorem anm(hh:A.handled=none)(ho:s.heap.get? S=some (setO es ep t))(G:SetG w es t ns)(h64:es.size < 64)
  (h:∀(s':Shared) (a:Addr) (out:Array Value) (m:Nat) (ns':List Int),s.heap.objs.size<=a->(∀b o,s.heap.get? b=some o->s'.heap.get? b=some o)->s'.gens=s.gens->s'.os=s.os->s'.heap.get? a=some (seqObj "list" out m) ->
   IntsAre out.toList ns'->ns'.Perm (es.toList.map keyE)->ns'.Pairwise (· <= ·)->Q (.ref a) s') :
  wpAny (model prog w) A (call (.builtin "sorted") [.ref S]) Q E s:=by
 refine Calls.call_function_entry kind_sorted plain_sorted entry_sorted (args_sorted1 _) ?_;unfold Builtin.«sorted»
 refine wpAny_bind (m:=checkCount "sorted" 1 1 _) (wpAny_pure ?_);refine wpAny_bind (alk hh ho G (by unfold scanBound;omega) fun s1 acc ks hlt1 hk hg hos hI hp =>?_)
 have hlen:acc.length=es.size:=by rw[hI.length,hp.length_eq,List.length_map,Array.length_toList]
 refine wpAny_bind (wpAny_newList ?_);have hoL:(s1.heap.push (seqObj "list" acc.toArray 0)).get? s1.heap.objs.size=some (seqObj "list" acc.toArray 0):=Heap.get?_push_size _ rfl;show wpAny _ _ _ _ _ { s1 with heap:=s1.heap.push (seqObj "list" acc.toArray 0) }
 refine wpAny_bind (wpAny_holding (wpAny_call_entry slot_list_sort ⟨_,hoL,rfl⟩ entry_list_sort (list_sort_tree hoL hI (by omega) fun out ns' a1 a2 a3=>⟨_,rfl,?_⟩) (args_list_sort _)))
 obtain⟨m,hm⟩:=ao2 hoL acc out;refine wpAny_pure ⟨_,rfl,?_⟩;refine h _ s1.heap.objs.size out m ns' (Nat.le_of_lt hlt1) ?_ hg hos hm a1 (a2.trans hp) a3;intro b o e;exact ano (Heap.get?_push_of_some _ (hk b o e)) (Nat.ne_of_lt (Nat.lt_trans (Heap.lt_size e) hlt1))
end
end Stt
namespace Dn
open L2 Mn
def dedI:List Int->List Int
 | []=>[]
 | x::r=>if r.contains x then dedI r else x::dedI r
theorem adh:∀(l:List Int) (x:Int),x∈dedI l↔x∈l
 | [],x=>.rfl
 | y::r,x=>by
  unfold dedI;split
  ·rename_i h;rw[adh r x,List.mem_cons];exact⟨.inr,fun z=>z.elim (fun e=>e▸List.contains_iff_mem.mp h) id⟩
  ·rw[List.mem_cons,List.mem_cons,adh r x]
theorem aca:∀l:List Int,(dedI l).Nodup
 | []=>List.Pairwise.nil
 | y::r=>by
  unfold dedI;split
  ·exact aca r
  ·rename_i h;exact List.Pairwise.cons (fun z hz e=>h (List.contains_iff_mem.mpr (e▸(adh r z).mp hz))) (aca r)
theorem acv:∀l:List Int,(dedI l).length<=l.length
 | []=>Nat.le_refl _
 | y::r=>by
  unfold dedI;have:=acv r;split
  ·simp only[List.length_cons];omega
  ·simp only[List.length_cons];omega
theorem ada:∀{a b:List Int},a.Nodup->b.Nodup->(∀x,x∈a↔x∈b)->a.Perm b
 | [],b,_,_,h=>by
  cases b with
  | nil=>exact .refl _
  | cons y r=>exact absurd ((h y).mpr (List.mem_cons_self ..)) (List.not_mem_nil)
 | x::r,b,ha,hb,h=>by
  have hx:x∈b:=(h x).mp (List.mem_cons_self ..);have hp:=List.perm_cons_erase hx;refine(List.Perm.cons x (ada (List.Pairwise.of_cons ha) (hb.erase x) fun y =>?_)).trans hp.symm
  rw[hb.mem_erase_iff];have hxr:x∉r:=fun z=>(List.pairwise_cons.mp ha).1 x z rfl
  constructor
  ·intro hy;exact⟨fun e=>hxr (e▸hy),(h y).mp (List.mem_cons_of_mem _ hy)⟩
  ·rintro⟨hne,hy⟩
   exact(List.mem_cons.mp ((h y).mpr hy)).resolve_left hne
def setI(ns:List Int):List Int:=sortI (dedI ns)
section
variable{K:Fg9}{X:Cx}{e a b c:Expr}{es:List Expr}{pos p p2:Pos}
def SetH(w:World)(a:Addr)(ns:List Int):Heap->Prop:=fun h=>∃es ep t,h.get? a=some (Stt.setO es ep t)/\Stt.SetG w es t ns/\es.size<=ns.length
def a3h(w:World):List V->Hp->VK->Prop:=fun vs H Q=>∃p ns,vs=[.ref p]/\H p=some (.tup (ns.map V.int))/\ns.length < 4000/\∀a,H a=none->Q (.ref a) (upd H a (.ext (SetH w a ns)))
theorem aus(hc:X.calm=true):ab6 X (.type "set") (a3h X.w):=by
 intro zv s σ H xs us Q I r z9;obtain⟨p,ns,hv,hp,hz,q⟩:=z9;subst hv;obtain⟨u,rfl,ru⟩:=vals1 r;cases ru;obtain⟨its,rv,pt,_⟩:=I.tuple (SqT.of hp);have hlen:=rv.length;rw[List.length_map] at hlen;refine Stt.ay2 (I.ok.hd hc) pt (intsAre_of rv) (by rw[List.size_toArray];unfold scanBound;omega) fun h' tk es ep t ho g hsz hk =>?_
 have hn:H s.heap.objs.size=none:=I.hok.fresh (Nat.le_refl _);refine⟨.ref s.heap.objs.size,_,I.laid hk (Nat.le_refl _) ?_,rfl,q _ hn⟩;refine⟨⟨es,ep,t,ho,g,?_⟩,⟨_,ho⟩,fun h1 h2 ⟨es,ep,t,z,g,zz⟩ k=>⟨es,ep,t,k _ z,g,zz⟩⟩
 have hsz':es.size<=its.length:=by simpa using hsz
 omega
def rcSS(w:World):List V->Hp->VK->Prop:=fun vs H Q=>∃a ns,vs=[.ref a]/\H a=some (.ext (SetH w a ns))/\ns.length < 64/\∀b,H b=none->Q (.ref b) (upd H b (.lst ((setI ns).map V.int)))
theorem aya(hc:X.calm=true):ab6 X (.builtin "sorted") (rcSS X.w):=by
 intro zv s σ H xs us Q I r z9;obtain⟨a,ns,hv,ha,hz,q⟩:=z9;subst hv;obtain⟨u,rfl,ru⟩:=vals1 r;cases ru;obtain⟨⟨es,ep,t,ho,g,hsz⟩,_⟩:=I.hok a _ ha;refine Stt.anm (I.ok.hd hc) ho g (by omega) fun s' b out m ns' hb hk hg hos hob hI hp hs =>?_
 have hn:H b=none:=I.hok.fresh hb;have e':ns'=setI ns:=as3 (hp.trans (ada g.nd (aca ns) fun k=>by rw[g.mem k,adh])) hs
 subst e';obtain⟨h',g',d',tk',os'⟩:=s';subst hg;subst hos;have I1:Inv X zv σ (upd H b (.lst ((setI ns).map V.int))) { s with heap:=h',toks:=tk' }:=I.laid hk hb ⟨by
  rw[List.length_map];have h1:(setI ns).length=(dedI ns).length:=(sortI_perm _).length_eq;have h2:=acv ns;exact Nat.le_of_lt (ao4 (by omega)),out.toList,m,ael hI,by simpa using hob⟩
 exact⟨.ref b,_,⟨I1.ok,I1.os,I1.bare,I1.base,I1.loc,I1.cell,I1.free,I1.freeC,I1.pin,I1.hok,I1.len⟩,rfl,q b hn⟩
def gSet:D->Option Rv
 | .tup l=>(aa2 l).bind fun ns=>if ns.length < 64 then some (.fr ((setI ns).map D.int)) else none
 | _=>none
theorem ajr(hc:X.calm=true)(hg1:Gl X x)(hm1:X.mg x=none)(hv1:bootBuiltins x=some (.builtin "sorted"))(hg2:Gl X y)(hm2:X.mg y=none)(hv2:bootBuiltins y=some (.type "set"))
  (ha:EA K X [e] m) (hn1:x ≠ "__name__" := by decide) (hdb1:(x==("__debug__" : Str))=false:=by decide) (hn2:y ≠ "__name__" := by decide) (hdb2:(y==("__debug__" : Str))=false:=by decide)
  (he:starEach [e] X.env=[(false,eval e X.env)]:=by rfl) (he2:starEach [.Call (.Name y qq) [e] [] ppos] X.env=[(false,eval (.Call (.Name y qq) [e] [] ppos) X.env)]:=by rfl) :
  ER K X (.Call (.Name x pp) [.Call (.Name y qq) [e] [] ppos] [] pos) (jb (g1 gSet) m):=ER.mk fun hk=>PE.imp (afd (aya hc) hg1 hm1 hv1 (yl (adb (aus hc) hg2 hm2 hv2 (ha hk) hn2 hdb2 he rfl) aeq he2) hn1 hdb1 he2 rfl) fun σ H Q z9=>by
 obtain⟨tg,F,ρ,r,ρ',G,em,q⟩:=z9;obtain⟨ds,ρ1,e1,em⟩:=bj em;obtain⟨e2,rfl⟩:=jc em;refine⟨tg,F,ρ,ds,_,G,e1,fun vs H1 F1 G1 x1 bl =>?_⟩
 cases ds with
 | nil=>cases e2
 | cons d tl =>
  cases tl with
  | cons _ _=>cases e2
  | nil =>
   cases d with
   | tup l =>
    have e2:(aa2 l).bind (fun ns=>if ns.length < 64 then some (Rv.fr ((setI ns).map D.int)) else none)=some r:=e2
    cases ei:aa2 l with
    | none=>rw[ei] at e2;cases e2
    | some ns =>
     rw[ei] at e2;have e2:(if ns.length < 64 then some (Rv.fr ((setI ns).map D.int)) else none)=some r:=e2
     split at e2
     ·rename_i h64;cases e2;obtain⟨v,rfl,bv⟩:=bl.one;obtain⟨p,ws,rfl,ea,hl⟩:=bv.tup;rw[afl ei] at hl;rw[hl.int_inv] at ea;refine⟨p,ns,rfl,G1.sub _ _ ea,by omega,fun a hna =>?_⟩
      show rcSS X.w _ _ _;refine⟨a,ns,rfl,jh,h64,fun b hnb =>?_⟩
      have G2:=G1.fresh hna (.ext (SetH X.w a ns));have X2:=G1.freshX hna (.ext (SetH X.w a ns));exact Res.lst G2 (fun v H3 F3 G3 x3 rr=>q v H3 F3 G3 ((x1.trans X2).trans x3) (uo (x1.trans X2) rr)) (afk _) hnb
     ·cases e2
   | _=>cases e2
@[simp] theorem a2e(l:List D):gSet (.tup l)=(aa2 l).bind fun ns=>if ns.length < 64 then some (.fr ((setI ns).map D.int)) else none:=rfl
end
theorem ab7(Inv:Nat->Ro->Prop)(Done:Ro->Prop)(hs:∀k ρ,Inv k ρ->(∃ρ',c ρ=some (.ok false,ρ')/\Done ρ')∨∃ρ1 ρ2 k',c ρ=some (.ok true,ρ1)/\g ρ1=some (.nx,ρ2)/\k' < k/\Inv k' ρ2) :
  ∀(n k:Nat) (ρ:Ro),k < n->Inv k ρ->∃ρ',whileD c g n ρ=some (.nx,ρ')/\Done ρ'
 | 0,k,ρ,h,_=>absurd h (Nat.not_lt_zero _)
 | n+1,k,ρ,h,h0=>by
  unfold whileD;rcases hs k ρ h0 with⟨ρ',e,d⟩ | ⟨ρ1,ρ2,k',e1,e2,hk,h2⟩
  ·rw[e];exact⟨ρ',rfl,d⟩
  ·rw[e1];dsimp only;rw[e2];exact ab7 Inv Done hs n k' ρ2 (by omega) h2
theorem afm:100000 < fuel:=by unfold fuel;decide
theorem ale(a b:Int):eqD (.int a) (.int b)=decide (a=b):=by
 show(a==b)=_
 by_cases h:a=b <;> simp[h]
theorem ayf(ns:List Int)(a:Int):(ns.map D.int).any (fun y=>eqD y (.int a))=decide (a∈ns):=by
 induction ns with
 | nil=>simp
 | cons x r ih=>simp[ale,List.mem_cons,ih,eq_comm]
theorem af4(n:Nat)(ns:List Int):(ns.map D.int).all (okD n)=true:=by
 induction ns with
 | nil=>rfl
 | cons x r ih=>simp[okD]
theorem aqq(neg:Bool)(a:Int)(ns:List Int):gIn neg (.int a) (.lst (ns.map D.int))=some (.v (.bl (if neg then !decide (a∈ns) else decide (a∈ns)))):=by
 have h:=af4 30 ns;have h2:=ayf ns a;simp only[gIn,itemsD,h,h2];simp[okD]
theorem ail:∀(a b:List Int),eqDs (a.map D.int) (b.map D.int)=decide (a=b)
 | [],[]=>rfl
 | [],_::_=>rfl
 | _::_,[]=>rfl
 | x::r,y::t=>by
  show(eqD (.int x) (.int y)&&eqDs (r.map D.int) (t.map D.int))=_;rw[ale,ail r t]
  by_cases h:x=y <;> simp[h]
theorem aq2(a b:List Int):eqD (.tup (a.map D.int)) (.tup (b.map D.int))=decide (a=b):=by
 rw[<-ail];exact ald _ _
theorem aih(neg:Bool)(a b:List Int):gEq neg (.tup (a.map D.int)) (.tup (b.map D.int))=some (.v (.bl (if neg then !decide (a=b) else decide (a=b)))):=by
 have h1:okD 30 (.tup (a.map D.int))=true:=af4 29 a;have h2:okD 30 (.tup (b.map D.int))=true:=af4 29 b;simp only[gEq,h1,h2,aq2];simp
theorem aqv(r:List Int):∀x:Int,(0<=r.foldl (fun m y=>if decide (y < m)=true then y else m) x)↔0<=x/\∀y∈r,0<=y:=by
 induction r with
 | nil=>intro x;simp
 | cons z t ih =>
  intro x;rw[List.foldl_cons,ih]
  by_cases h:z < x
  ·simp only[h,decide_true,if_true,List.mem_cons,forall_eq_or_imp];constructor
   ·rintro⟨a,b⟩;exact⟨by omega,a,b⟩
   ·rintro⟨_,a,b⟩;exact⟨a,b⟩
  ·simp only[h,decide_false,Bool.false_eq_true,if_false,List.mem_cons,forall_eq_or_imp];constructor
   ·rintro⟨a,b⟩;exact⟨a,by omega,b⟩
   ·rintro⟨a,_,b⟩;exact⟨a,b⟩
def minI(ns:List Int):Int:=ad0 (fun i j=>decide (i < j)) ns
theorem amb(h:ns≠[]):0<=minI ns↔∀y∈ns,0<=y:=by
 cases ns with
 | nil=>exact absurd rfl h
 | cons x r =>
  show 0<=r.foldl (fun m y=>if decide (y < m)=true then y else m) x↔_
  rw[aqv];simp
theorem aue(h:ns≠[]):axu (.lst (ns.map D.int))=some (.v (.int (minI ns))):=by
 show(aa2 (ns.map D.int)).bind _=_;rw[aga];simp[h,minI]
theorem aqp(h:ns.length < 64):gSet (.tup (ns.map D.int))=some (.fr ((setI ns).map D.int)):=by
 show(aa2 (ns.map D.int)).bind _=_;rw[aga];simp[h]
theorem amc(ns:List Int)(x:Int):x∈setI ns↔x∈ns:=by
 unfold setI;rw[(sortI_perm _).mem_iff,adh]
theorem an1(ns:List Int):(setI ns).Nodup:=by
 unfold setI;rw[(sortI_perm _).nodup_iff];exact aca ns
@[simp] theorem a04(d:D):aby [d]=(itemsD d).map aag:=rfl
@[simp] theorem a02(a b:D):agf [a,b]=(itemsD a).bind fun l1=>(itemsD b).bind fun l2=>if l1.length<=l2.length then some (ju l1 l2) else none:=rfl
@[simp] theorem ayq(ρ:Ro)(f:Int->Int->Int)(i:Nat)(mi m:M D):alj f i mi m ρ=(dM (mOwn i) fun _=>dM mi fun k=>dM (mOwn i) fun l=>dM (lift ((asI k).bind (ixN l.length))) fun j=>dM (lift ((l[j]?).bind asI)) fun x=>dM m fun y=>dM (lift (asI y)) fun y=>dM (mOwn i) fun l2=>dM (lift (if l2.length=l.length then some () else none)) fun _=>dM (adi i (l2.set j (.int (f x y)))) fun _=>dNx) ρ:=rfl
@[simp] theorem a0j(ρ:Ro)(i:Nat)(ms:M (List D)):ajg i ms ρ=((dq i).bind fun d0=>ms.bind fun ds=>(dq i).bind fun d=>(lift (match d0,d with
 | .lst _,.lst _=>some ()
 | .tup _,.tup _=>some ()
 | _,_=>none)).bind fun _=>lift (aij d ds)) ρ:=rfl
@[simp] theorem axx(l:List D)(x:D):aij (.lst l) [x]=if okD 30 x&&l.all (okD 30) then some (.int (l.countP fun y=>eqD y x)) else none:=rfl
@[simp] theorem axw(l:List D)(x:D):aij (.tup l) [x]=if okD 30 x&&l.all (okD 30) then some (.int (l.countP fun y=>eqD y x)) else none:=rfl
theorem ak3{n:Nat}{k:Int}(h0:0<=k)(h1:k < (n:Int)):ixN n k=some k.toNat:=by
 unfold ixN;simp[h0,h1]
theorem jj{K:Fg9}{P:Program}{w:World}{mg:Str->Option Value}{base:Heap}{x qual:Str}{st:Stmt}{f:Addr}{fd:FuncData}{N ps:List Str}{k nl np:Nat}{g:Sd}(F:Fun K x qual st f fd)(S:FnScope N ps (ao st))(h1:N.length=nl)(h2:ps.length=np)
  (body:∀(cdv:Value) (A:Around) (outer:List Env) (s:Shared) (H:Hp) (E:XK),Room k (A.deeper (envOfC qual (ao st) s.heap.objs.size f cdv))->SVs K (cxOf CX0 P w K mg base N qual (ao st) f cdv A outer s H E).nox (jr st) g) :
  FnOk P w K mg base CX0 (k+1) f fd ps (spOf K np (fnD nl np g)):=by
 subst h1 h2;exact a5d F S body
end Dn
namespace Mn
open L2
section
variable{X:Cx}
end
end Mn
namespace Dn
open L2 Mn
section
variable{K:Fg9}{X:Cx}
end
theorem mkSc(a:sc.kind=.function)(b:sc.isCoroutine=false)(c:sc.isGenerator=false)(e:N.take P.length=P)(d:N.Nodup/\(∀x∈P,sc.names.lookup x=some .local∨sc.names.lookup x=some .cell)/\∀y∈sc.names,y.2≠.free):FnScope N P sc:=⟨a,b,c,d.1,e,d.2.1,d.2.2⟩
theorem ax1{P:Program}{w:World}{K:Fg9}{mg:Str->Option Value}{base:Heap}{k n:Nat}{f:Addr}{fd:FuncData}{ps:List Str}(hl:ps.length=n) :
  FnOk P w K mg base CX0 k f fd ps (spOf K n fun _=>none) :=
 ⟨fun _ _ _ _ h=>h.1.trans hl.symm,fun _ _ _ _ _ _ _ _ _ _ _ _ _ h=>by obtain⟨_,_,_,_,_,_,h,_⟩:=h;cases h⟩
@[irreducible] def bgM:Nat:=2 ^ 100000
@[irreducible] def bgD:Nat:=2 ^ 8000
def adq(i j:Int):Option Int:=if j≠0/\j.natAbs < bgD then some (i.fdiv j) else none
def agx(i j:Int):Option Int:=if i.natAbs < bgM/\j.natAbs < bgM then some (i*j) else none
section
variable{K:Fg9}{X:Cx}
theorem atm:OpR X (binaryOp .FloorDiv) (rI (fun _ j=>j≠0/\j.natAbs < bgD) fun i j=>.int (i.fdiv j)):=opI fun i j _ _ _ _ _ hc q =>
 floordiv_int hc.1 q (.inl (by
  have hl:j.natAbs.log2 < 8000:=(Nat.log2_lt (by have:=hc.1;omega)).2 (by have:=hc.2;unfold bgD at this;exact this)
  have hd:¬(j.natAbs.log2 / 30+1 > 300):=by omega
  have hj:(j==0)=false:=by
   rw[beq_eq_false_iff_ne];exact hc.1
  unfold Builtin.divisionGoesByPylong;simp only[hj,Bool.false_eq_true,if_false,hd,decide_false,Bool.false_and]))
theorem bits_le(h:i.natAbs < bgM):Builtin.Int.intBits i<=100000:=by
 unfold Builtin.Int.intBits;split
 ·omega
 ·rename_i z;have z:¬i=0:=by simpa using z
  have:i.natAbs.log2 < 100000:=(Nat.log2_lt (by omega)).2 (by unfold bgM at h;exact h)
  omega
theorem aw8:OpR X (binaryOp .Mult) (rI (fun i j=>i.natAbs < bgM/\j.natAbs < bgM) fun i j=>.int (i*j)):=opI fun i j _ _ _ _ _ hc q=>mul_int q (by
 have a:=bits_le hc.1;have b:=bits_le hc.2;have c:Builtin.Int.intTooBig (↑(Builtin.Int.intBits i) + ↑(Builtin.Int.intBits j))=false:=by
  unfold Builtin.Int.intTooBig;rw[decide_eq_false_iff_not];have:(200000:Int) <= ↑bitsLine:=by decide +kernel
  omega
 unfold IntMulOk;rw[c,Bool.and_false];exact Bool.false_ne_true)
theorem afh:OpD K X (binaryOp .FloorDiv) (gInt adq):=af1 atm fun i j k h=>by
 unfold adq at h;split at h
 ·cases h;exact⟨by assumption,rfl⟩
 ·cases h
theorem afg:OpD K X (binaryOp .Mult) (gInt agx):=af1 aw8 fun i j k h=>by
 unfold agx at h;split at h
 ·cases h;exact⟨by assumption,rfl⟩
 ·cases h
end
def ac1:D->Bool
 | .tup l=>l.all ak9
 | d=>ak9 d
def okT:Sl->Bool
 | .own _ l=>l.all ac1
 | .val _=>true
 | .emp=>true
 | _=>false
def ae7(F:Hp)(a:Addr):Hp:=fun b=>if b=a then none else F b
theorem afj(h:F b=some o)(hn:b≠a):ae7 F a b=some o:=by unfold ae7;rw[if_neg hn];exact h
theorem amf(h:ae7 F a b=some o):b≠a/\F b=some o:=by
 unfold ae7 at h
 by_cases q:b=a
 ·rw[if_pos q] at h;cases h
 ·rw[if_neg q] at h;exact⟨q,h⟩
theorem Is.ac1{K:Fg9}{F:Hp}{a:Addr}{xs:List V}(ha:F a=some (.lst xs)){d:D}{v:V}(h:Is K F d v)(hd:Dn.ac1 d=true):Is K (ae7 F a) d v:=by
 cases h with
 | tup e hl=>exact .tup (afj e fun q=>by rw[q,ha] at e;cases e) (hl.flat hd)
 | non=>exact .non
 | bl b=>exact .bl b
 | int i=>exact .int i
 | str s=>exact .str s
 | _=>cases hd
theorem IsL.ac1{K:Fg9}{F:Hp}{a:Addr}{xs:List V}(ha:F a=some (.lst xs)):∀{l:List D} {vs:List V},IsL K F l vs->l.all Dn.ac1=true->IsL K (ae7 F a) l vs
 | [],_,h,_=>by cases h;exact .nil
 | d::r,_,h,hd=>by
  rw[List.all_cons,Bool.and_eq_true] at hd;cases h with
  | cons h t=>exact .cons (h.ac1 ha hd.1) (IsL.ac1 ha t hd.2)
section
variable{ρ:Ro}
def fnO(js:List (Option Nat))(ρ:Ro)(x:Option (Out Rv×Ro)):Option (Out Rv×Ro):=match x with
 | some (.ok r,ps)=>some (.ok r,putB ρ js ps)
 | some (.exc x,ps)=>some (.exc x,putB ρ js ps)
 | none=>none
@[simp] theorem a6m(r:Rv)(ps:Ro)(js:List (Option Nat)):fnO js ρ (some (.ok r,ps))=some (.ok r,putB ρ js ps):=rfl
@[simp] theorem a5e(x:Exn)(ps:Ro)(js:List (Option Nat)):fnO js ρ (some (.exc x,ps))=some (.exc x,putB ρ js ps):=rfl
def okI(b:Bool)(x:Option (Out Rv×Ro)):Option (Out Rv×Ro):=if b=true then x else none
@[simp] theorem a6z(x:Option (Out Rv×Ro)):okI true x=x:=rfl
@[simp high] theorem a4h (f:Fd) (js:List (Option Nat)) (ms:M (List (Option D))):mFn f js ms ρ=(ms.bind fun ds ρ=>okI (okJs ρ js) (fnO js ρ (f (lend ρ js ds)))) ρ:=rfl
def cpO(js:List (Option Nat))(ρ:Ro)(x:Option (Out (List D)×Ro)):Option (Out Rv×Ro):=match x with
 | some (.ok ys,ps)=>if ys.length<=capS then some (.ok (.fr ys),putB ρ js ps) else none
 | some (.exc x,ps)=>some (.exc x,putB ρ js ps)
 | none=>none
@[simp] theorem a6u(ys:List D)(ps:Ro)(js:List (Option Nat)):cpO js ρ (some (.ok ys,ps))=if ys.length<=capS then some (.ok (.fr ys),putB ρ js ps) else none:=rfl
@[simp high] theorem a0l (src:List (Option Nat)) (mi:M (List D)) (b:D->Ro->Option Ro) (mc:M Bool) (me:M D):j7 src mi b mc me ρ=(mi.bind fun l ρ=>okI (okJs ρ src) (cpO src ρ (compD b mc me l [] (lend ρ src (src.map fun _=>none))))) ρ:=rfl
def gt:Ro->Nat->Option Sl
 | [],_=>none
 | s::_,0=>some s
 | _::ρ,i+1=>gt ρ i
@[simp] theorem gt_0(s:Sl):gt (s::ρ) 0=some s:=rfl
@[simp] theorem gt_s(s:Sl)(i:Nat):gt (s::ρ) (i+1)=gt ρ i:=rfl
theorem an8:∀(ρ:Ro) (i:Nat),gt ρ i=ρ[i]?
 | [],_=>rfl
 | _::_,0=>rfl
 | _::ρ,i+1=>an8 ρ i
def vB(x:Option Sl)(ρ:Ro):Option (Out D×Ro):=match x with
 | some (.val d)=>some (.ok d,ρ)
 | some (.own _ l)=>some (.ok (.lst l),ρ)
 | _=>none
@[simp] theorem vB_v(d:D):vB (some (.val d)) ρ=some (.ok d,ρ):=rfl
@[simp] theorem vB_o(t:Option Nat)(l:List D):vB (some (.own t l)) ρ=some (.ok (.lst l),ρ):=rfl
@[simp high] theorem a1r (i:Nat):dq i ρ=vB (gt ρ i) ρ:=by rw[an8];rfl
def vV(x:Option Sl)(i:Nat)(ρ:Ro):Option (Out D×Ro):=match x with
 | some (.val d)=>some (.ok d,ρ)
 | some (.own none l)=>some (.ok (.lst l),ρ.set i (.val (.lst l)))
 | _=>none
@[simp] theorem vV_v(i:Nat)(d:D):vV (some (.val d)) i ρ=some (.ok d,ρ):=rfl
@[simp] theorem vV_o(i:Nat)(l:List D):vV (some (.own none l)) i ρ=some (.ok (.lst l),ρ.set i (.val (.lst l))):=rfl
@[simp high] theorem a3w (i:Nat):mVar i ρ=vV (gt ρ i) i ρ:=by rw[an8];rfl
def ldS(i:Nat):Option Sl->Sl
 | some (.val d)=>.val d
 | some (.own _ l)=>.own (some i) l
 | _=>.emp
@[simp] theorem a65(i:Nat)(d:D):ldS i (some (.val d))=.val d:=rfl
@[simp] theorem a66(i:Nat)(t:Option Nat)(l:List D):ldS i (some (.own t l))=.own (some i) l:=rfl
@[simp high] theorem a2d (i j:Nat) (d:Option D):aid ρ i (some j) d=ldS i (gt ρ j):=by rw[an8];rfl
def eqb:Nat->Nat->Bool
 | 0,0=>true
 | n+1,m+1=>eqb n m
 | _,_=>false
@[simp] theorem a6r:eqb 0 0=true:=rfl
@[simp] theorem a6q(n:Nat):eqb 0 (n+1)=false:=rfl
@[simp] theorem a6p(n:Nat):eqb (n+1) 0=false:=rfl
@[simp] theorem a1a(n m:Nat):eqb (n+1) (m+1)=eqb n m:=rfl
theorem aq1:∀n m:Nat,eqb n m=(n==m)
 | 0,0 | 0,_+1 | _+1,0=>rfl
 | n+1,m+1=>by rw[a1a,aq1 n m];simp
def idxJ:List (Option Nat)->Nat->List Nat->Option Nat
 | [],_,_=>none
 | js,j,[]=>(js.findIdx? fun o=>o==some j).map (· + 10)
 | none::js,j,_::is=>idxJ js j is
 | some k::js,j,i::is=>bif eqb k j then some i else idxJ js j is
@[simp] theorem a6g(j i:Nat)(is:List Nat):idxJ [] j (i::is)=none:=rfl
@[simp] theorem a6i(js:List (Option Nat))(j i:Nat)(is:List Nat):idxJ (none::js) j (i::is)=idxJ js j is:=rfl
@[simp] theorem a6h(k:Nat)(js:List (Option Nat))(j i:Nat)(is:List Nat):idxJ (some k::js) j (i::is)=bif eqb k j then some i else idxJ js j is:=rfl
theorem aif(j:Nat):∀(n i:Nat),i+n=10->∀js:List (Option Nat),idxJ js j (List.range' i n)=(js.findIdx? fun o=>o==some j).map (· + i)
 | 0,_,_,[] | _+1,_,_,[]=>rfl
 | 0,i,h,o::js=>by
  obtain rfl:i=10:=h;cases o <;> rfl
 | n+1,i,h,o::js=>by
  have e:∀x:Option Nat,(x.map (· + (i+1)):Option Nat)=(x.map (· + 1)).map (· + i):=fun x=>by cases x <;> simp;omega
  cases o with
  | none=>exact(aif j n (i+1) (by omega) js).trans ((e _).trans (by rw[alb];rfl))
  | some k =>
   show(bif eqb k j then some i else idxJ js j (List.range' (i+1) n))=_
   rw[aif j n (i+1) (by omega) js,alb,aq1,e]
   show _=Option.map _ (if (k==j)=true then _ else _)
   cases k==j <;> simp
def oJ(b:Bool):Option Sl->Option Nat->Bool
 | some (.own _ _),some _=>false
 | _,_=>b
@[simp] theorem oJ_v(b:Bool)(d:D)(o:Option Nat):oJ b (some (.val d)) o=b:=rfl
@[simp] theorem oJ_o(b:Bool)(t:Option Nat)(l:List D):oJ b (some (.own t l)) none=b:=rfl
theorem ari(j:Nat):∀r:List (Option Nat),r.contains (some j)=(r.findIdx? fun o=>o==some j).isSome
 | []=>rfl
 | o::r=>by
  rw[List.contains_cons,alb,ari j r,BEq.comm];cases o==some j <;> cases r.findIdx? fun o=>o==some j <;> rfl
@[simp high] theorem a6a (j:Nat) (r:List (Option Nat)):okJs ρ (some j::r)=oJ (okJs ρ r) (gt ρ j) (idxJ r j [0,1,2,3,4,5,6,7,8,9]):=by
 rw[apy,show([0,1,2,3,4,5,6,7,8,9]:List Nat)=List.range' 0 10 from rfl,aif j 10 0 rfl,an8,ari]
 cases ρ[j]? with
 | none=>rfl
 | some s=>cases s <;> cases r.findIdx? fun o=>o==some j <;> rfl
def pO(t:Option Nat)(i:Nat):Option Sl->Sl
 | some (.own (some i') l')=>bif eqb i' i then .own t l' else .emp
 | _=>.emp
@[simp] theorem pO_o(t:Option Nat)(i i':Nat)(l':List D):pO t i (some (.own (some i') l'))=bif eqb i' i then .own t l' else .emp:=rfl
def pS(ps:Ro):Sl->Option Nat->Sl
 | .own t _,some i=>pO t i (gt ps i)
 | s,_=>s
@[simp] theorem pS_v(ps:Ro)(d:D)(o:Option Nat):pS ps (.val d) o=.val d:=rfl
@[simp] theorem pS_e(ps:Ro)(o:Option Nat):pS ps .emp o=.emp:=rfl
@[simp] theorem pS_o(ps:Ro)(t:Option Nat)(l:List D)(i:Nat):pS ps (.own t l) (some i)=pO t i (gt ps i):=rfl
@[simp] theorem a6y(ps:Ro)(t:Option Nat)(l:List D):pS ps (.own t l) none=.own t l:=rfl
@[simp] theorem pS_n(ps:Ro)(s:Sl):pS ps s none=s:=by cases s <;> rfl
theorem ay9(js:List (Option Nat))(ps:Ro)(j:Nat)(s:Sl):putS js ps j s=pS ps s (idxJ js j [0,1,2,3,4,5,6,7,8,9]):=by
 rw[show([0,1,2,3,4,5,6,7,8,9]:List Nat)=List.range' 0 10 from rfl,aif j 10 0 rfl]
 unfold putS;cases js.findIdx? fun o=>o==some j with
 | none=>exact(pS_n ps s).symm
 | some k =>
  cases s with
  | own t l =>
   show _=pO t k (gt ps k);rw[an8];dsimp only;split
   ·rename_i i' l' e;rw[e,pO_o,aq1]
    by_cases q:i'=k
    ·simp[q]
    ·rw[if_neg q,beq_eq_false_iff_ne.mpr q];rfl
   ·rename_i h;unfold pO;split
    ·rename_i i' l' e;exact absurd e (h i' l')
    ·rfl
  | _=>rfl
def putR(js:List (Option Nat))(ps:Ro):List Nat->Ro->Ro
 | _,[]=>[]
 | [],ρ=>ρ.mapIdx fun j s=>putS js ps (16+j) s
 | k::ks,s::ρ=>pS ps s (idxJ js k [0,1,2,3,4,5,6,7,8,9])::putR js ps ks ρ
@[simp] theorem a5y(js:List (Option Nat))(ps:Ro)(k:Nat)(ks:List Nat):putR js ps (k::ks) []=[]:=rfl
@[simp] theorem aza(js:List (Option Nat))(ps:Ro)(k:Nat)(ks:List Nat)(s:Sl):putR js ps (k::ks) (s::ρ)=pS ps s (idxJ js k [0,1,2,3,4,5,6,7,8,9])::putR js ps ks ρ:=rfl
theorem au8(js:List (Option Nat))(ps:Ro):∀(n k:Nat),k+n=16->∀ρ:Ro,ρ.mapIdx (fun j s=>putS js ps (k+j) s)=putR js ps (List.range' k n) ρ
 | 0,_,_,[] | _+1,_,_,[]=>rfl
 | 0,k,h,s::ρ=>by
  obtain rfl:k=16:=h;rfl
 | n+1,k,h,s::ρ=>by
  rw[List.mapIdx_cons,List.range'_succ,aza,<-ay9,<-au8 js ps n (k+1) (by omega) ρ]
  show putS js ps (k+0) s::_=_
  congr 2
  funext j s
  rw[show k+(j+1)=k+1+j by omega]
@[simp high] theorem a5z (js:List (Option Nat)) (ps:Ro):putB ρ js ps=putR js ps [0,1,2,3,4,5,6,7,8,9,10,11,12,13,14,15] ρ:=by
 rw[show([0,1,2,3,4,5,6,7,8,9,10,11,12,13,14,15]:List Nat)=List.range' 0 16 from rfl,<-au8 js ps 16 0 rfl,awk]
 simp
end
end Dn
namespace Mn
open L2
section
variable{prog:Program}{w:World}{A:Around}{l I S q:Addr}{ns:List Int}{R:Result->Shared->Prop}{kf:Nat->Int}{G:Shared->Prop}
def Bst(kf:Nat->Int)(j i:Nat):Prop:=∀j',j'<=j->kf i<=kf j'/\(j' < i->kf i < kf j')
structure MinH (prog:Program) (w:World) (A:Around) (l I S q:Addr) (ns:List Int) (R:Result->Shared->Prop) (kf:Nat->Int) (G:Shared->Prop):Prop where
 hh:A.handled=none
 hl:∀s,G s->∃vs,s.heap.IsList l (List.toArray vs)/\IntsAre vs ns
 lI:l≠I
 SI:S≠I
 gI:∀(s:Shared) h' tk,G s->(∀b o,b∉[I]->s.heap.get? b=some o->h'.get? b=some o)->G { s with heap:=h',toks:=tk }
 gS:∀(s:Shared) h',G s->Heap.SameBut S s.heap h'->G { s with heap:=h' }
 turn:∀i n t s oS oI,ns[i]? = some n->G s->s.heap.get? S=some oS->s.heap.get? I=some oI->(∃its n,oS.data=.seq its n)->(∃vs,oI.data=.fields vs) ->
  wpAny (model prog w) A.in1 (call (.ref q) [.int n t]) (fun x s'=>(∃t,x=.int (kf i) t)/\G s'/\s'.heap.get? S=some oS/\s'.heap.get? I=some oI) (fun _ _=>False) s
 hR:∀i n t s',ns[i]? = some n->Bst kf (ns.length - 1) i->G s'->R (.ok (.ret (.int n t))) s'
theorem aic:(toString "min" ++ toString ".loop" : String) = "min.loop" := by decide
theorem ap6(M:MinH prog w A l I S q ns R kf G):∀(r j i:Nat) (s:Shared) (nb:Int) (t0 tb:Tok) (c:Nat),ns.length - (j+1)=r->j+1<=ns.length->G s ->
  s.heap.get? S=some (seqObj "list" #[.int nb t0,.int (kf i) tb] c)->s.heap.IsListIter I l (j+1)->ns[i]? = some nb->i<=j->Bst kf j i ->
  codeAny (model prog w) A (.builtin "min.loop" ⟨[.ref I,.ref q,.ref S],[]⟩) R s:=by
 intro r
 induction r with
 | zero =>
  intro j i s nb t0 tb c hr hj g hS hit hvb hij hb;obtain⟨vs,hL,hi⟩:=M.hl s g;have W:=Walks.list (prog:=prog) (w:=w) (A:=A.in1) M.hh I l M.lI vs.toArray;have hsz:vs.toArray.size=vs.length:=List.size_toArray ..
  have hln:=hi.length;have hin:j+1=vs.length:=by omega
  refine codeAny_builtin PySem.F.entry_min_loop ?_;rw[Around.under_plainId PySem.F.plain_min_loop _];show wpAny _ A.in1 (seqItems? (.ref S) >>= _) _ _ _;refine wpAny_bind (wpAny_seqItems hS rfl ?_);show wpAny _ A.in1 (tryCatch (pyNext (.ref I)) _ >>= _) _ _ _;refine wpAny_bind (wpAny_tryCatch (W.done _ _ _ ⟨by rw[hsz,<-hin];exact hit,hL⟩ fun h' tk' hk' =>?_))
  have g1:=M.gI s h' tk' g hk';have hS':=hk' S _ (by simpa using M.SI) hS
  have s1:=Heap.SameBut.update h' S (Obj.mapSeq fun _=>(#[]:Array Value))
  show wpAny _ A.in1 (updateSeq S (fun _ => #[]) >>= _) _ _ _
  refine wpAny_bind ?_;refine wpAny_updateSeq hS' rfl (wpAny_bind (wpAny_letGo (wpAny_pure ?_)));exact M.hR i nb t0 _ hvb (by rw[show ns.length - 1=j from by omega];exact hb) (M.gS _ _ g1 s1)
 | succ r ih =>
  intro j i s nb t0 tb c hr hj g hS hit hvb hij hb;obtain⟨vs,hL,hi⟩:=M.hl s g;have W:=Walks.list (prog:=prog) (w:=w) (A:=A.in1) M.hh I l M.lI vs.toArray;have hsz:vs.toArray.size=vs.length:=List.size_toArray ..
  have hln:=hi.length;have hlt:j+1 < vs.length:=by omega
  have hlt':j+1 < ns.length:=by omega
  obtain⟨n,hn⟩:∃n,ns[j+1]? = some n:=⟨_,List.getElem?_eq_getElem hlt'⟩
  obtain⟨t1,ht1⟩:=hi.get (j+1) n hn;refine codeAny_builtin PySem.F.entry_min_loop ?_;rw[Around.under_plainId PySem.F.plain_min_loop _];show wpAny _ A.in1 (seqItems? (.ref S) >>= _) _ _ _;refine wpAny_bind (wpAny_seqItems hS rfl ?_);show wpAny _ A.in1 (tryCatch (pyNext (.ref I)) _ >>= _) _ _ _;refine wpAny_bind (wpAny_tryCatch (W.item (j+1) _ _ _ (by rw[hsz];exact hlt) ⟨hit,hL⟩ fun v h' tk' hP hst' hk' =>?_))
  have hv:vs[j+1]? = some v:=by simpa using hP
  rw[ht1] at hv;cases hv;obtain⟨oI,hoI,hoc,hod⟩:=id hst'.1;have g1:=M.gI s h' tk' g hk';have hS':=hk' S _ (by simpa using M.SI) hS
  show wpAny _ A.in1 (tryCatch (holding [.int n t1] (call (.ref q) [.int n t1])) _ >>= _) _ _ _;refine wpAny_bind (wpAny_tryCatch (wpAny_holding (wpAny_mono (M.turn (j+1) n t1 _ _ oI hn g1 hS' hoI ⟨_,_,rfl⟩ ⟨_,hod⟩) (fun x s2 he =>?_) fun _ _ hF=>hF.elim)))
  obtain⟨⟨t2,rfl⟩,g2,hS2,hI2⟩:=he;have hit2:s2.heap.IsListIter I l (j+1+1):=⟨oI,hI2,hoc,hod⟩;show wpAny _ A.in1 (tryCatch (holding [.int n t1,.int (kf (j+1)) t2] (richCompare .Lt (.int (kf (j+1)) t2) (.int (kf i) tb) >>= _)) _ >>= _) _ _ _;refine wpAny_bind (wpAny_tryCatch (wpAny_holding (wpAny_bind (CmpOf.ints_lt (prog:=prog) (w:=w) (A:=A.in1) (P:=fun i v=>∃t,v=.int (kf i) t) kf (fun i v h=>h) (j+1) i _ _ _ _ _ ⟨t2,rfl⟩ ⟨tb,rfl⟩ ?_))))
  refine wpAny_bind (wpAny_holding (wpAny_truthy_bool ?_));refine wpAny_bind (wpAny_letGo (wpAny_pure ?_))
  by_cases hb':kf (j+1) < kf i
  ·have s1:=Heap.SameBut.update s2.heap S (Obj.mapSeq fun _ => #[.int n t1,.int (kf (j+1)) t2])
   obtain⟨c2,hc2⟩:∃c2,(s2.heap.update S (Obj.mapSeq fun _ => #[.int n t1,.int (kf (j+1)) t2])).get? S=some (seqObj "list" #[.int n t1,.int (kf (j+1)) t2] c2):=⟨_,get?_update_seq hS2 fun _ => #[.int n t1,.int (kf (j+1)) t2]⟩
   simp only[hb',decide_true,if_true];refine wpAny_bind ?_;refine wpAny_updateSeq hS2 rfl (wpAny_bind (wpAny_letGo ?_));rw[aic];refine wpAny_pure ⟨plainId_quiet PySem.F.plain_min_loop _,ih (j+1) (j+1) _ n t1 t2 c2 (by omega) hlt' (M.gS _ _ g2 s1) hc2 ⟨oI,(s1.2 I M.SI.symm).trans hI2,hoc,hod⟩ hn (Nat.le_refl _) fun j' hj' =>?_⟩
   by_cases e:j'=j+1
   ·subst e;exact⟨by omega,fun _=>by omega⟩
   ·have hb1:=hb j' (by omega)
    have hb2:=hb1.1;exact⟨by omega,fun _=>by omega⟩
  ·simp only[hb',decide_false,Bool.false_eq_true,if_false];refine wpAny_bind (wpAny_letGo ?_);rw[aic];refine wpAny_pure ⟨plainId_quiet PySem.F.plain_min_loop _,ih (j+1) i _ nb t0 tb c (by omega) hlt' g2 hS2 hit2 hvb (by omega) fun j' hj' =>?_⟩
   by_cases e:j'=j+1
   ·subst e;exact⟨by omega,fun _=>by omega⟩
   ·exact hb j' (by omega)
end
theorem ap7(a v:Value):argsOk "min" ⟨[a],[(Str.ofString "key", v)]⟩:=by unfold argsOk;kernel_rfl
section
variable{prog:Program}{w:World}{A:Around}{E:Value->Shared->Prop}{s:Shared}{l q:Addr}{vs:List Value}{ns:List Int}{Q:Value->Shared->Prop}{kf:Nat->Int}{G:Shared->Prop}
theorem atw(hls:s.heap.IsList l vs.toArray)(hne:0 < ns.length)(hR:∀(r:Result) s',(∃v,r=.ok (.ret v)/\Q v s')->match r with | .ok (.ret v)=>Q v s' | .ok _=>False | .error e=>E e s')
  (g0:G { s with heap:=(s.heap.push { cls:=.type "list_iterator", data:=.fields #[.ref l,.int 0 0] }).push (seqObj "list" #[] 0) })
  (M:MinH prog w A l s.heap.objs.size (s.heap.objs.size+1) q ns (fun r s'=>∃v,r=.ok (.ret v)/\Q v s') kf G) :
  wpAny (model prog w) A (call (.builtin "min") [.ref l] [(Str.ofString "key", .ref q)]) Q E s:=by
 refine wpAny_call (codeAny_call_builtin PySem.F.plain_min PySem.F.entry_min ?_);have hS:(s.heap.push { cls:=.type "list_iterator", data:=.fields #[.ref l,.int 0 0] }).objs.size=s.heap.objs.size+1:=size_push' ..
 have tree:wpAny (model prog w) A.in1 (Builtin.min ⟨[.ref l],[(Str.ofString "key", .ref q)]⟩) (fun fin s'=>match fin with
   | .done f=>(match (Except.ok f:Result) with | .ok (.ret v)=>Q v s' | .ok _=>False | .error e=>E e s')
   | .again c'=>c'.quiet=true/\codeAny (model prog w) A c' (fun r s'=>match r with | .ok (.ret v)=>Q v s' | .ok _=>False | .error e=>E e s') s') E s:=by
  show wpAny _ A.in1 (Builtin.Builtins.bindParams "min" ["key","default"] 0 ⟨[],[(Str.ofString "key", .ref q)]⟩ >>= _) _ _ s;refine wpAny_bind (wpAny_of_eq (show Builtin.Builtins.bindParams "min" ["key","default"] 0 ⟨[],[(Str.ofString "key", .ref q)]⟩=pure [some (.ref q),none] from rfl) ?_)
  refine wpAny_bind (wpAny_pure ?_);refine wpAny_bind (wpAny_pyIter_list hls ?_);refine wpAny_bind (wpAny_newList ?_ (Nat.zero_le _));rw[aic,hS];refine wpAny_pure ⟨plainId_quiet PySem.F.plain_min_loop _,codeAny_mono (R:=fun r s'=>∃v,r=.ok (.ret v)/\Q v s') ?_ fun r s' h=>hR r s' h⟩
  generalize hs1:({ s with heap:=(s.heap.push { cls:=.type "list_iterator", data:=.fields #[.ref l,.int 0 0] }).push (seqObj "list" #[] 0) }:Shared)=s1 at g0
  have gI:s1.heap.get? s.heap.objs.size=some { cls:=.type "list_iterator", data:=.fields #[.ref l,.int 0 0] }:=by rw[<-hs1];exact Heap.get?_push_of_some _ (Heap.get?_push_size _ rfl)
  have gS:s1.heap.get? (s.heap.objs.size+1)=some (seqObj "list" #[] 0):=by rw[<-hs1,<-hS];exact Heap.get?_push_size _ rfl
  obtain⟨vs,hL,hi⟩:=M.hl _ g0;have W:=Walks.list (prog:=prog) (w:=w) (A:=A.in1) M.hh s.heap.objs.size l M.lI vs.toArray;have hsz:vs.toArray.size=vs.length:=List.size_toArray ..
  have hln:=hi.length;obtain⟨n,hn⟩:∃n,ns[0]? = some n:=⟨_,List.getElem?_eq_getElem hne⟩
  obtain⟨t1,ht1⟩:=hi.get 0 n hn;refine codeAny_builtin PySem.F.entry_min_loop ?_;rw[Around.under_plainId PySem.F.plain_min_loop _];show wpAny _ A.in1 (seqItems? (.ref (s.heap.objs.size+1)) >>= _) _ _ _;refine wpAny_bind (wpAny_seqItems gS rfl ?_);show wpAny _ A.in1 (tryCatch (pyNext (.ref s.heap.objs.size)) _ >>= _) _ _ _;refine wpAny_bind (wpAny_tryCatch (W.item 0 _ _ _ (by rw[hsz];omega) ⟨⟨_,gI,rfl,rfl⟩,hL⟩ fun v h' tk' hP hst' hk' =>?_))
  have hv:vs[0]? = some v:=by simpa using hP
  rw[ht1] at hv;cases hv;obtain⟨oI,hoI,hoc,hod⟩:=id hst'.1;have g1:=M.gI s1 h' tk' g0 hk';have gS':=hk' _ _ (by simpa using M.SI) gS
  show wpAny _ A.in1 (tryCatch (holding [.int n t1] (call (.ref q) [.int n t1])) _ >>= _) _ _ _;refine wpAny_bind (wpAny_tryCatch (wpAny_holding (wpAny_mono (M.turn 0 n t1 _ _ oI hn g1 gS' hoI ⟨_,_,rfl⟩ ⟨_,hod⟩) (fun x s2 he =>?_) fun _ _ hF=>hF.elim)))
  obtain⟨⟨t2,rfl⟩,g2,hS2,hI2⟩:=he;have s1':=Heap.SameBut.update s2.heap (s.heap.objs.size+1) (Obj.mapSeq fun _ => #[.int n t1,.int (kf 0) t2])
  obtain⟨c2,hc2⟩:∃c2,(s2.heap.update (s.heap.objs.size+1) (Obj.mapSeq fun _ => #[.int n t1,.int (kf 0) t2])).get? (s.heap.objs.size+1)=some (seqObj "list" #[.int n t1,.int (kf 0) t2] c2):=⟨_,get?_update_seq hS2 fun _ => #[.int n t1,.int (kf 0) t2]⟩
  show wpAny _ A.in1 (updateSeq (s.heap.objs.size+1) (fun _ => #[.int n t1,.int (kf 0) t2]) >>= _) _ _ _
  refine wpAny_bind ?_;refine wpAny_updateSeq hS2 rfl ?_;rw[aic];refine wpAny_pure ⟨plainId_quiet PySem.F.plain_min_loop _,ap6 M _ 0 0 _ n t1 t2 c2 rfl hne (M.gS _ _ g2 s1') hc2 ⟨oI,(s1'.2 _ M.SI.symm).trans hI2,hoc,hod⟩ hn (Nat.le_refl _) fun j' hj' =>?_⟩
  have e:j'=0:=by omega
  subst e;exact⟨by omega,fun h=>absurd h (Nat.lt_irrefl _)⟩
 simp only[checkBuiltinCall,PySem.F.kind_min];cases hsig:Manifest.signature? "min" with
 | none=>exact wpAny_pure tree
 | some sig =>
  have ha':Bind.checkArgs "min" sig ⟨[.ref l],[(Str.ofString "key", .ref q)]⟩=pure ():=by simpa only[argsOk,hsig] using ap7 (.ref l) (.ref q)
  simp only[ha'];exact wpAny_pure tree
end
open PySem.Calls
theorem aiy{qs:Array Value}{a b:Int}{v:Value}(h:TriplesOk qs.toList):TriplesOk (qs ++ #[rawInt a,rawInt b,v]).toList:=by
 rw[Array.toList_append];exact TriplesOk_snoc _ _ _ _ h
theorem ar9{p:Pos}{x y:Int}{v cv:Value}:∀{l:List Value},TriplesOk l->codeAmong p (l++[rawInt x,rawInt y,v])=some cv->codeAmong p l=some cv∨cv=v:=by
 intro l
 induction l using TriplesOk.induct with
 | case1 =>
  intro _ h;refine .inr ?_;have h':(if (x == ↑p.line&&y == ↑p.col)=true then some v else none)=some cv:=h
  split at h'
  ·cases h';rfl
  ·cases h'
 | case2 i t j t' c rest ih =>
  intro hk h;rw[TriplesOk.eq_2] at hk;rw[List.cons_append,List.cons_append,List.cons_append,codeAmong.eq_1] at h;rw[codeAmong.eq_1];split
  ·rename_i hc;rw[if_pos hc] at h;exact .inl h
  ·rename_i hc;rw[if_neg hc] at h;exact ih hk h
 | case3 l h1 h2 =>
  intro hk;rw[TriplesOk.eq_3 l h1 h2] at hk;exact hk.elim
theorem aoj{qs:Array Value}{p:Pos}{x y:Int}{v cv:Value}(ht:TriplesOk qs.toList)(h:codeAmong p (qs ++ #[rawInt x,rawInt y,v]).toList=some cv):codeAmong p qs.toList=some cv∨cv=v:=by
 rw[Array.toList_append] at h;exact ar9 ht h
def cxL(X:Cx)(N:List Str)(scope:Scope)(fr:List Str)(f:Addr)(cd:Value)(s:Shared)(H:Hp):Cx where
 prog:=X.prog
 w:=X.w
 K:=X.K
 mg:=X.mg
 base:=X.base
 A:=X.A.in1.deeper (PySem.W.envX LamQ scope s.heap.objs.size f cd (kh X.env fr))
 N:=N
 s₀:=s
 H₀:=H
 env:=PySem.W.envX LamQ scope s.heap.objs.size f cd (kh X.env fr)
 outer:=X.stack
 stack:=PySem.W.envX LamQ scope s.heap.objs.size f cd (kh X.env fr)::X.stack
 ex:=[]
 fn:=fun _=>false
 calm:=X.calm
 pn:=[]
 xe:=fun _ _=>False
section
variable{X:Cx}{zv:List (Addr×Obj)}{σ:L2.St}{H:Hp}{s:Shared}{scope:Scope}{fr N:List Str}{src:List (Option Nat)}{f:Addr}{cd:Value}{y:Str}
theorem a1b(I:Inv X zv σ H s)(C:CompOk X.env X.N scope fr N src)(hkind:scope.kind=.function):(cxL X N scope fr f cd s H).Ok where
 mod:=I.ok.mod
 kind:=hkind
 glob:=rfl
 blt:=rfl
 above:=Nat.le_refl _
 inj:=fun x y c h1 h2=>I.ok.inj x y c (j6 h1) (j6 h2)
 has:=fun x hx=>by
  have hm:x∈fr:=by
   rcases hx with e | e
   ·exact absurd rfl (C.cell _ (PySem.mem_of_lookup (show scope.names.lookup x=some .cell from e)))
   ·exact C.free _ (PySem.mem_of_lookup (show scope.names.lookup x=some .free from e)) rfl
  obtain⟨c,hc⟩:=I.ok.has x (C.out x hm);exact⟨c,xx hm hc⟩
 cab:=fun _ _ h _=>absurd h Bool.false_ne_true
 hd:=I.ok.hd
 frames:=Around.frames_deeper (A:=X.A.in1) I.ok.frames
 stk:=.inr ⟨rfl,rfl⟩
 exf:=fun b hb=>absurd (show b∈([]:List Addr) from hb) (by simp)
 bs:=I.bs
 bsz:=Nat.le_trans I.ok.bsz I.sz
 noex:=fun b o e hb=>absurd (show b∈([]:List Addr) from hb) (by simp)
 exfs:=fun b hb z=>absurd (show b∈([]:List Addr) from hb) (by simp)
 funs:=I.stack
 frf:=I.stkFree
 tb:=I.tb
theorem axo(I:Inv X zv σ H s)(C:CompOk X.env X.N scope fr (y::N) (none::src))(hkind:scope.kind=.function)(hy:scope.names.lookup y=some .local){v:V}{u:Value}(r:RelV v u){h':Heap}{tk:Nat}{m:Str->Option Value}
  (hns:h'.Ns s.heap.objs.size m) (hm:m y=some u) (hk:∀b o,s.heap.get? b=some o->h'.get? b=some o):Inv (cxL X (y::N) scope fr f cd s H) [] (some v::pick src σ) H { s with heap:=h',toks:=tk } where
 ok:=a1b I C hkind
 os:=rfl
 bare:=I.bare
 base:=Un.kept hk
 loc:=by
  refine⟨m,hns,fun i x v' h1 h2 h3 =>?_⟩
  cases i with
  | zero =>
   have e1:y=x:=by simpa[cxL] using h1
   have e2:v=v':=by simpa using h2
   subst e1 e2;exact⟨u,r,.inl ⟨hy,hm⟩⟩
  | succ i =>
   have h2':(pick (none::src) σ)[i+1]? = some (some v'):=by simpa[pick] using h2
   obtain⟨j,hj,hv⟩:=al4 h2';obtain⟨hN,hm⟩:=ac7 C.src h1 hj;obtain⟨mo,_,hlo⟩:=I.loc;have vis:Vis X.env.scope x:=by
    rcases C.out x hm with e | e
    ·exact .inr (.inl e)
    ·exact .inr (.inr e)
   obtain⟨u,r,l⟩:=hlo j x v' hN hv vis;refine⟨u,r,.inr ⟨.inr (C.frk x hm),?_⟩⟩;rcases l with⟨e,_⟩ | ⟨_,c,hc,z⟩
   ·rcases C.out x hm with q | q
    ·rw[q] at e;cases e
    ·rw[q] at e;cases e
   ·obtain⟨o,ho,hd⟩:=z;exact⟨c,xx hm hc,o,hk c o ho,hd⟩
 cell:=fun x c e=>by
  obtain⟨v,o,ho,hd⟩:=I.cell x c (j6 e);exact⟨v,o,hk c o ho,hd⟩
 free:=I.hok.fresh (Nat.le_refl _)
 freeC:=fun x c e=>I.freeC x c (j6 e)
 pin:=fun p hp=>absurd (show p∈([]:List (Addr×Obj)) from hp) (by simp)
 hok:=I.hok.kept hk
 len:=by
  have:=ac6 C.src;simp at this;simp[cxL,pick,this]
theorem at4{nm:Str}{params:Arguments}{body:Expr}{pm ctv u:Value}{c':Addr}{oc:Obj}{v:V}{t:TE}{Q:VK}(I:Inv X zv σ H s)(C:CompOk X.env X.N scope fr (y::N) (none::src))(hkind:scope.kind=.function)(hy:scope.names.lookup y=some .local)
  (hco:scope.isCoroutine=false) (hgen:scope.isGenerator=false) (hroom:X.A.in1.depth < recursionLimit)
  (hp:(f,PySem.W.kla_obj nm LamQ params body scope (kh X.env fr) pm c' ctv)∈zv) {P:Addr} (hc':H c'=some (.frz oc (.own P))) (hrec:aym oc)
  (hbind:bindArgs (PySem.W.kla_fn nm LamQ params body scope (kh X.env fr) pm (.ref c') ctv) ⟨[u],[]⟩=pure [(y,u)]) (hb:∀s H,PE (cxL X (y::N) scope fr f (.ref c') s H) body t) (r:RelV v u) (hq:t (some v::pick src σ) H Q) :
  wpAny (model X.prog X.w) X.A.in1 (call (.ref f) [u]) (EP X zv σ Q) (fun _ _=>False) s:=by
 have hcr:s.heap.CodeRec (.ref c') LamQ:=by
  obtain⟨e,_⟩:=I.hok c' _ hc';obtain⟨vs,tt,h1,h2⟩:=hrec;exact⟨c',oc,vs,tt,rfl,e,h1,h2⟩
 refine wpAny_call (PySem.W.kla_callFunE hroom (I.pin _ (List.mem_append_right _ hp)).1 rfl hco hgen rfl hcr ?_);rw[hbind];refine wpAny_pure (wpAny_newFunctionEnv C.cell (fun x hx =>?_) (fun h₁ hns hsb =>?_) hkind)
 ·have e:x=(y,u):=by simpa using hx
  subst e;exact hy
 have keep:∀b o,s.heap.get? b=some o->h₁.get? b=some o:=fun b o e=>hsb.extBut b o (Nat.ne_of_lt (Heap.lt_size e)) (Heap.get?_push_of_some _ e)
 refine⟨I.nolimit.keeps keep,?_⟩;show codeAny _ _ (.expr body (PySem.W.envX LamQ scope s.heap.objs.size f (.ref c') (kh X.env fr))) _ _;have J:=axo (f:=f) (cd:=.ref c') (tk:=s.toks+[(y,u)].length) I C hkind hy r hns (by simp[List.lookup]) keep
 refine PySem.W.kla_codeExpr (wpAny_mono (hb s H [] _ _ H Q J hq) (fun v s' h =>?_) fun _ _ h=>h.elim)
 obtain⟨x,H',J',r',q⟩:=h;exact⟨x,H',Inv.call' I J'.os (ch:=[]) J'.base J'.hok J'.bare (fun b hb=>absurd hb (by simp)),r',q⟩
end
section
variable{X:Cx}{zv:List (Addr×Obj)}{σ:L2.St}{H:Hp}{s:Shared}{scope:Scope}{fr:List Str}{params:Arguments}{body:Expr}{pos:Pos}{c P:Addr}{Q:Value->Shared->Prop}{E:Value->Shared->Prop}
def Mk(P:Addr)(H H':Hp)(c':Addr)(oc:Obj):Prop:=H' c'=some (.frz oc (.own P))/\(H'=H∨(H c'=none/\H'=upd H c' (.frz oc (.own P))))
theorem at3(I:Inv X zv σ H s)(hT:PySem.W.tabIn X.K LamN=some (c,P))(hcode:X.env.code=.ref c)(hq:X.env.qual ++ "<lambda>" = LamQ)(hcl:closureFor scope X.env=pure (kh X.env fr))(hdef:defaultsOf params X.env=([],[]))
  (h:∀f c' oc pm ctv H' s',Mk P H H' c' oc->aym oc->Inv X ((f,PySem.W.kla_obj "<lambda>" LamQ params body scope (kh X.env fr) pm c' ctv)::zv) σ H' s'->Q (.ref f) s') :
  wpAny (model X.prog X.w) X.A (eval (.Lambda params body scope pos) X.env) Q E s:=by
 refine PySem.W.kla_eval hdef ?_;rw[hq];obtain⟨CH,ps,hHP⟩:=I.tb.tb c P hT;obtain⟨qs,hP,htr,hcs⟩:=I.hok P _ hHP;have CS:PySem.W.CodeHd s.heap c P:=CH.keeps I.bk;have hgs:s.heap.Ns mainGlobals X.mg:=I.mod.glob.keeps I.bk;obtain⟨bm,ob,b1,b2,b3,b4,b5,b6⟩:=I.tb.bm;have hgP:mainGlobals≠P:=fun q=>by
  obtain⟨o,es,ep,e,hd,_⟩:=hgs;rw[q,hP] at e;cases e;cases hd
 have hbP:bm≠P:=fun q=>by
  have e:=I.bk _ _ b3;rw[q,hP] at e;cases e;cases b4
 have hbG:bm≠mainGlobals:=fun q=>by
  obtain⟨o,es,ep,e,hd,_⟩:=I.mod.glob;rw[q,e] at b3;cases b3;rw[hd] at b6;cases b6
 have hB:s.heap.BuiltinsAt X.mg P:=⟨bm,ob,b1,b2,hbG,hbP,I.bk _ _ b3,b4,b5,b6⟩;have pinF:∀{H':Hp} {s':Shared} {o:Obj} {f:Addr},Inv X zv σ H' s'->s'.heap.get? f=some o->H' f=none->s.heap.objs.size<=f->(∀v,o.data≠.cell v)->Inv X ((f,o)::zv) σ H' s':=fun{H' s' o f} J e n hf hd=>by
  refine J.pins_of fun p hp =>?_
  rcases List.mem_cons.mp hp with rfl | hp
  ·exact⟨e,n,Nat.ne_of_gt (Nat.lt_of_lt_of_le I.lt hf),I.nofs hf,hd⟩
  ·exact J.pin p (List.mem_append_right _ hp)
 cases hf:codeAmong pos qs.toList with
 | some cv =>
  obtain⟨c',oc,rfl,hc',hr⟩:=hcs pos cv hf;refine PySem.W.kla_makeFunctionHit hcl I.ok.glob hgs hcode CS hP htr hf hB fun ctv h' tk hk hsz =>?_
  have J:Inv X zv σ H { s with heap:=h'.push (PySem.W.kla_obj "<lambda>" LamQ params body scope (kh X.env fr) ((X.mg "__name__").getD .none) c' ctv),toks:=tk }:=I.kept fun b o e=>Heap.get?_push_of_some _ (hk b o e)
  exact h h'.objs.size c' oc _ ctv H _ ⟨hc',.inl rfl⟩ hr (pinF J (Heap.get?_push_size _ rfl) (I.hok.fresh hsz) hsz (fun _ z=>by cases z))
 | none =>
  refine PySem.W.kla_makeFunction hcl I.ok.glob hgs hcode CS hP htr hf hgP hB fun c' ctv h' tk hx hge hlt hrec htb =>?_
  obtain⟨c2,oc,vs,tt,e2,hoc,hd,hv⟩:=hrec;cases e2;have nH:H c'=none:=I.hok.fresh hge;have ncP:c'≠P:=fun z=>by
   rw[z,hHP] at nH;cases nH
  have old:∀b o,s.heap.get? b=some o->b≠c':=fun b o e z=>absurd (Nat.lt_of_lt_of_le (Heap.lt_size e) hge) (by rw[z];exact Nat.lt_irrefl _)
  generalize hF:PySem.W.kla_obj "<lambda>" LamQ params body scope (kh X.env fr) ((X.mg "__name__").getD .none) c' ctv=of;have kp:∀b o,b≠P->s.heap.get? b=some o->(h'.push of).get? b=some o:=fun b o nb e=>Heap.get?_push_of_some _ (hx b o nb e)
  have np:∀b,H b=none->b≠P:=fun b n z=>by rw[z,hHP] at n;cases n
  have u:Un X.fs [] H (upd H c' (.frz oc (.own P))) s.heap (h'.push of):=by
   refine⟨fun b o e n _ _=>kp b o (np b n) e,fun b o e n _ _=>⟨o.slots,kp b o (np b n) e⟩,fun b o e n _=>by rw[dw (old b o e)];exact n,fun b o e _ =>?_,fun b xs e=>by rw[dw (f9 e nH)];exact e,fun b o u e=>by rw[dw (f9 e nH)];exact e,fun b ps e=>⟨#[],by rw[dw (f9 e nH),e];simp⟩⟩
   by_cases nb:b=P
   ·subst nb;exact⟨_,Heap.get?_push_of_some _ htb⟩
   ·exact⟨o,kp b o nb e⟩
  have gc:(h'.push of).get? c'=some oc:=Heap.get?_push_of_some _ hoc;have hok:HOk X.prog X.w (upd H c' (.frz oc (.own P))) (h'.push of):=fun b z e=>by
   by_cases nb:b=c'
   ·subst nb;rw[jh] at e;cases e;exact⟨gc,oc,gc⟩
   ·rw[dw nb] at e
    by_cases nP:b=P
    ·subst nP;rw[hHP] at e;cases e;refine⟨_,Heap.get?_push_of_some _ htb,?_,fun p cv q =>?_⟩
     ·exact aiy htr
     ·rcases aoj htr q with q | q
      ·obtain⟨c1,o1,r1,h1,h2⟩:=hcs p cv q;exact⟨c1,o1,r1,by rw[dw (f9 h1 nH)];exact h1,h2⟩
      ·exact⟨c',oc,q,jh,vs,tt,hd,hv⟩
    ·refine(I.hok b z e).stay (fun c1 v hc q=>kp c1 v ?_ q) (fun c1 q=>by rw[dw (f9 q nH)];exact q) (fun c1 xs q=>by rw[dw (f9 q nH)];exact q) fun c1 _ _ q=>by rw[dw (f9 q nH)];exact q
     rcases hc with z1 | z1
     ·rw[z1];exact nP
     ·intro z2;rw[z2,hHP] at z1;cases z1
  have J:=I.un (t':=tk) u hok;have nf:h'.objs.size≠c':=Nat.ne_of_gt hlt;have sz:s.heap.objs.size<=h'.objs.size:=Nat.le_trans hge (Nat.le_of_lt hlt);refine h h'.objs.size c' oc ((X.mg "__name__").getD .none) ctv _ _ ⟨jh,.inr ⟨nH,rfl⟩⟩ ⟨vs,tt,hd,hv⟩ ?_;rw[hF];exact pinF J (Heap.get?_push_size _ (by rw[<-hF];rfl)) (by rw[dw nf];exact I.hok.fresh sz) sz (fun _ z=>by rw[<-hF] at z;cases z)
end
def aon(K:Fg9)(H:Hp)(w:Addr)(n k x:Int):Prop:=∃xs r ys a,SqL K H w xs/\atI xs n=some (.ref r)/\SqL K H r ys/\atI ys k=some (.int a)/\x=if a < 0 then -a else a
theorem aon.mono{K:Fg9}{H H':Hp}{w:Addr}{n k x:Int}(g:L2.Same H H')(h:aon K H w n k x):aon K H' w n k x:=by
 obtain⟨xs,r,ys,a,h1,h2,h3,h4⟩:=h;exact⟨xs,r,ys,a,g.seq h1,h2,g.seq h3,h4⟩
def tKey(K:Fg9):TE:=fun σ H Q=>∃n w k x,σ[0]? = some (some (.int n))/\σ[1]? = some (some (.ref w))/\σ[2]? = some (some (.int k))/\aon K H w n k x/\Q (.int x) H
theorem alu:∀{ns:List Int} {vs:List Value},Vals (ns.map V.int) vs->IntsAre vs ns
 | [],_,.nil=>.nil
 | n::r,_,.cons h t=>by
  obtain⟨k,rfl⟩:=h;exact .cons _ _ (alu t)
section
variable{X:Cx}
theorem azu{x y z:Str}{p1 p2 p3 p4 p5 p6 p7:Pos}(h0:PE X (.Name x p1) (tVar 0))(h1:PE X (.Name y p2) (tVar 1))(h2:PE X (.Name z p3) (tVar 2))(hg:Gl X "abs")(hm:X.mg "abs" = none):PE X (.Call (.Name "abs" p4) [.Subscript (.Subscript (.Name y p2) (.Name x p1) p5) (.Name z p3) p6] [] p7) (tKey X.K):=by
 intro zv s σ H Q I h;obtain⟨n,w,k,v,e0,e1,e2,⟨xs,r,ys,a,k1,k2,k3,k4,rfl⟩,q⟩:=h;exact afd auu hg hm (by rfl) (yl (aw0 ak2 (aw0 ak2 h1 h0 (fun _ _=>rfl)) h2 (fun _ _=>rfl)) aeq) (by decide) (by decide) rfl rfl zv s σ H Q I ⟨_,e1,_,e0,w,xs,n,_,rfl,rfl,k1,k2,_,e2,r,ys,k,_,rfl,rfl,k3,k4,a,rfl,q⟩
def ayx(K:Fg9)(ia iw ik:Nat):TE:=fun σ H Q=>∃(l w:Addr) (k:Int) (ns:List Int) (kf:Int->Int),σ[ia]? = some (some (.ref l))/\σ[iw]? = some (some (.ref w))/\σ[ik]? = some (some (.int k))/\SqL K H l (ns.map V.int)/\(∀n∈ns,aon K H w n k (kf n))/\0 < ns.length /\
 ∀i m H',L2.Same H H'->ns[i]? = some m->Bst (fun j=>kf (ns.getD j 0)) (ns.length - 1) i->Q (.int m) H'
theorem awz{al body:Expr}{p kp lpos pos:Pos}{params:Arguments}{scope:Scope}{fr:List Str}{y z1 z2:Str}{ia iw ik k:Nat}{c P:Addr}(hr:Room (k+1) X.A)(hc:X.calm=true)(hT:PySem.W.tabIn X.K LamN=some (c,P))(hcode:X.env.code=.ref c)
  (hq:X.env.qual ++ "<lambda>" = LamQ) (hva:PE X al (tVar ia)) (hg:Gl X "min") (hm:X.mg "min" = none) (hb:∀f cd s H,PE (cxL X [y,z1,z2] scope fr f cd s H) body (tKey X.K))
  (hy:scope.names.lookup y=some .local) (hok:ae6 X.env X.N scope fr [y,z1,z2] [none,some iw,some ik]=true) (hcl:closureFor scope X.env=pure (kh X.env fr)) (hdef:defaultsOf params X.env=([],[])) (hkind:scope.kind=.function)
  (hco:scope.isCoroutine=false) (hgen:scope.isGenerator=false) (hbind:∀cl pm cd ct u,bindArgs (PySem.W.kla_fn "<lambda>" LamQ params body scope cl pm cd ct) ⟨[u],[]⟩=pure [(y,u)])
  (he:starEach [al] X.env=[(false,eval al X.env)]:=by rfl) :
  PE X (.Call (.Name "min" p) [al] [⟨some "key", .Lambda params body scope lpos,kp⟩] pos) (ayx X.K ia iw ik):=by
 have C:=CompOk.of hok;intro zv s σ H Q I h;obtain⟨l,w,k,ns,kf,hl,hw,hk,hL,hkey,hne,q⟩:=h;refine wpAny_Call_Name_kw (aer I hg hm (by rfl) ?_)
 refine callWith_kw (env:=X.env) (thn (yl hva aeq he pos zv s σ H (fun vs H1=>vs=[.ref l]/\H1=H) I ⟨_,hl,rfl,rfl⟩) fun us s1 z9 =>?_) (by rw[he];rfl) (by rw[he];rfl) rfl rfl
 obtain⟨vs,H1,I1,r1,rfl,rfl⟩:=z9;obtain⟨u,rfl,ru⟩:=vals1 r1;cases ru;refine kws_cons (at3 I1 hT hcode hq hcl hdef fun f c' oc pm ctv H' s' mk hrec I2=>kws_nil ?_)
 have sm:L2.Same H1 H':=by
  rcases mk.2 with e | ⟨n,e⟩
  ·rw[e];exact fun _ _ h=>h
  ·rw[e];exact Same.new n _
 show wpAny _ _ (call (.builtin "min") [.ref l] [(Str.ofString "key", .ref f)]) _ _ _;generalize hpf:(f,PySem.W.kla_obj "<lambda>" LamQ params body scope (kh X.env fr) pm c' ctv)=pf at I2;have hls:∀s'',Inv X (pf::zv) σ H' s''->∃vs,s''.heap.IsList l (List.toArray vs)/\IntsAre vs ns:=fun s'' J=>by
  obtain⟨its,rv,pl,_⟩:=J.list (sm.seq hL);exact⟨its,pl.isList,alu rv⟩
 obtain⟨vs0,hl0,hi0⟩:=hls s' I2;have lt0:l < s'.heap.objs.size:=by obtain⟨_,e,_⟩:=hl0;exact Heap.lt_size e
 have fI:H' s'.heap.objs.size=none:=I2.hok.fresh (Nat.le_refl _);have fS:H' (s'.heap.objs.size+1)=none:=I2.hok.fresh (Nat.le_succ _);have FI:FpOk X (pf::zv) H' s'.heap.objs.size:=I2.fpOk (Nat.le_refl _) fI;have FS:FpOk X (pf::zv) H' (s'.heap.objs.size+1):=I2.fpOk (Nat.le_succ _) fS;refine atw (G:=fun s''=>Inv X (pf::zv) σ H' s'') (kf:=fun j=>kf (ns.getD j 0)) hl0 hne (fun r s'' z =>?_) (I2.kept (t':=s'.toks) fun b o e=>Heap.get?_push_of_some _ (Heap.get?_push_of_some _ e)) ?_
 ·obtain⟨v,rfl,z⟩:=z;exact z
 ·refine⟨I.ok.hd hc,hls,Nat.ne_of_lt lt0,Nat.succ_ne_self _,fun s1 h1 tk J kp =>?_,fun s1 h1 J sb =>?_,fun i n t s1 oS oI hn J eS eI dS dI =>?_,fun i n t s1 hn hB J =>?_⟩
  ·exact J.turned (fun b o nb e=>kp b o (by simpa using nb) e) FI.1 FI.2.1 FI.2.2.2.1 FI.2.2.2.2.1 FI.2.2.2.2.2
  ·exact J.turned (t':=s1.toks) (fun b o nb e=>(sb.2 b nb).trans e) FS.1 FS.2.1 FS.2.2.2.1 FS.2.2.2.2.1 FS.2.2.2.2.2
  ·obtain⟨its,nn,dS⟩:=dS;obtain⟨fvs,dI⟩:=dI;have J2:Inv X ((s'.heap.objs.size,oI)::(s'.heap.objs.size+1,oS)::pf::zv) σ H' s1:=J.pins_of fun p hp=>by
    rcases List.mem_cons.mp hp with rfl | hp
    ·exact⟨eI,FI.1,FI.2.1,FI.2.2.1,fun _ z=>by rw[dI] at z;cases z⟩
    rcases List.mem_cons.mp hp with rfl | hp
    ·exact⟨eS,FS.1,FS.2.1,FS.2.2.1,fun _ z=>by rw[dS] at z;cases z⟩
    exact J.pin p (List.mem_append_right _ hp)
   have hkn:=(hkey n (List.mem_of_getElem? hn)).mono sm;have e1:kf (ns.getD i 0)=kf n:=by rw[List.getD_eq_getElem?_getD,hn];rfl
   refine thn (at4 (v:=.int n) (Q:=fun v H2=>v=.int (kf n)/\H2=H') J2 C hkind hy hco hgen hr.in1.depth (by rw[hpf];simp) mk.1 hrec (hbind _ _ _ _ _) (fun s H=>hb f _ s H) ⟨t,rfl⟩ ⟨n,w,k,kf n,rfl,by simp[pick,hw],by simp[pick,hk],hkn,rfl,rfl⟩) fun x s2 z9 =>?_
   obtain⟨v,H2,J3,r3,rfl,rfl⟩:=z9;refine⟨?_,J3.pins_of fun p hp=>J3.pin p (List.mem_append_right _ (.tail _ (.tail _ hp))),(J3.pin _ (List.mem_append_right _ (.tail _ (.head _)))).1,(J3.pin _ (List.mem_append_right _ (.head _))).1⟩
   rw[e1];exact r3
  ·exact⟨_,rfl,.int n,H',J.pins_of fun p hp=>J.pin p (List.mem_append_right _ (.tail _ hp)),⟨t,rfl⟩,q i n H' sm hn hB⟩
end
end Mn
namespace Dn
open L2 Mn
theorem Fun.okC{P:Program}{w:World}{K:Fg9}{mg:Str->Option Value}{base:Heap}{x qual:Str}{st:Stmt}{f:Addr}{fd:FuncData}{N ps:List Str}{k:Nat}{sp:Sp}(F:Fun K x qual st f fd)(S:FnScope N ps (ao st))(len:∀vs H Q E,sp vs H Q E->vs.length=ps.length)
  (hbody:∀(cdv:Value) (A:Around) (outer:List Env) (s:Shared) (H:Hp) (vs:List V) (Q:VK) (E:XK),fd.code=cdv->Room k (A.deeper (envOfC qual (ao st) s.heap.objs.size f cdv))->sp vs H Q E ->
   ∃t,PSs (cxOf CX0 P w K mg base N qual (ao st) f cdv A outer s H E).nox (jr st) t/\t { nx:=fun _ H'=>Q .non H',rt:=Q } (start N vs) H):FnOk P w K mg base CX0 (k+1) f fd ps sp:=by
 obtain⟨oc,od,kV,doc,pm,an,cdv,ct,osl,rfl,lk,hcd⟩:=F.ex;refine a08 lk hcd S len fun A outer s H vs Q E hr hsp =>?_
 obtain⟨t,h,q⟩:=hbody cdv A outer s H vs Q E rfl hr hsp;exact⟨t,h.nox,q⟩
theorem a07{K:Fg9}{P:Program}{w:World}{mg:Str->Option Value}{base:Heap}{x qual:Str}{st:Stmt}{f:Addr}{fd:FuncData}{N ps:List Str}{k:Nat}{g:Sd}(F:Fun K x qual st f fd)(S:FnScope N ps (ao st))
  (body:∀(cdv:Value) (A:Around) (outer:List Env) (s:Shared) (H:Hp) (E:XK),fd.code=cdv->Room k (A.deeper (envOfC qual (ao st) s.heap.objs.size f cdv))->SVs K (cxOf CX0 P w K mg base N qual (ao st) f cdv A outer s H E).nox (jr st) g) :
  FnOk P w K mg base CX0 (k+1) f fd ps (spOf K ps.length (fnD N.length ps.length g)):=by
 refine Fun.okC F S (fun vs H Q E h=>h.1) (fun cdv A outer s H vs Q E hc hr h=>⟨_,body cdv A outer s H E hc hr rfl,?_⟩)
 obtain⟨hn,F,as,r,ps',G,em,q⟩:=h;have hl:as.length=(vs.map some).length:=G.len;have G1:=G.app (N.length - vs.length);have es:start N vs=vs.map some++List.replicate (N.length - vs.length) none:=rfl;rw[es];unfold fnD at em;rw[<-hn] at em;have fin:∀{ρ':Ro} {σ':L2.St} {F' H':Hp},Good K (tgOf (vs.map some)) F' H' ρ' σ'->Fin K F' H' (vs.map some) (ρ'.take vs.length) (Own ρ' σ'):=fun{ρ' σ' F' H'} G'=>⟨fun i l e=>by
  have hi:=(List.getElem?_eq_some_iff.mp e).1;rw[List.length_take] at hi;rw[List.getElem?_take_of_lt (by omega)] at e
  obtain⟨o,ho,a,ws,rfl,hf,hh,hl,ht⟩:=G'.at e;rw[ht i rfl];exact⟨⟨i,⟨_,_,e⟩,ho⟩,hf,ws,hh,hl⟩⟩
 split at em
 ·rename_i r' ρ' e;cases em;refine⟨_,F,_,.ret r,ρ',G1,e,fun v σ' H' F' G' x' rr =>?_⟩
  rw[ab9 hl] at x' rr;exact q v H' F' (Own ρ' σ') G'.sub x' (fin G') rr
 ·rename_i ρ' e;cases em;refine⟨_,F,_,.nx,ρ',G1,e,fun σ' H' F' G' x' =>?_⟩
  rw[ab9 hl] at x';exact q .non H' F' (Own ρ' σ') G'.sub x' (fin G') .non
 ·cases em
 ·cases em
theorem asw{K:Fg9}{qual:Str}{st:Stmt}{f c P:Addr}{fd:FuncData}{x y:Str}(F:Fun K x qual st f fd)(a:nsIn K mainGlobals y=some (some (.ref f)))(t:PySem.W.tabIn K y=some (c,P)):fd.code=.ref c:=by
 obtain⟨oc,od,kV,doc,pm,an,cdv,ct,osl,rfl,lk,hcd⟩:=F.ex;unfold PySem.W.tabIn at t;rw[a] at t;simp only[lk] at t;split at t
 ·split at t
  ·split at t
   ·cases t;rfl
   ·cases t
  ·cases t
 ·cases t
theorem a06{K:Fg9}{P:Program}{w:World}{mg:Str->Option Value}{base:Heap}{x qual:Str}{st:Stmt}{f c Pt:Addr}{fd:FuncData}{N ps:List Str}{k nl np:Nat}{g:Sd}(F:Fun K x qual st f fd)(S:FnScope N ps (ao st))(h1:N.length=nl)(h2:ps.length=np)
  (a:nsIn K mainGlobals LamN=some (some (.ref f))) (t:PySem.W.tabIn K LamN=some (c,Pt))
  (body:∀(A:Around) (outer:List Env) (s:Shared) (H:Hp) (E:XK),Room k (A.deeper (envOfC qual (ao st) s.heap.objs.size f (.ref c)))->SVs K (cxOf CX0 P w K mg base N qual (ao st) f (.ref c) A outer s H E).nox (jr st) g) :
  FnOk P w K mg base CX0 (k+1) f fd ps (spOf K np (fnD nl np g)):=by
 subst h1 h2;refine a07 F S fun cdv A outer s H E hc hr =>?_
 rw[asw F a t] at hc;subst hc;exact body A outer s H E hr
def keyM(l:List D)(k n:Int):Option Int:=match atI l n with
 | some (.lst r)=>(match atI r k with
  | some (.int a)=>some (if a < 0 then -a else a)
  | _=>none)
 | _=>none
def minK(kf:Int->Int):List Int->Int->Int
 | [],b=>b
 | n::r,b=>if kf n < kf b then minK kf r n else minK kf r b
theorem af6(kf:Int->Int):∀(r p:List Int) (b:Int) (i j:Nat),(p++r)[i]? = some b->i < p.length->(∀j',j' < p.length->kf b<=kf ((p++r).getD j' 0)/\(j' < i->kf b < kf ((p++r).getD j' 0))) ->
  (p++r)[j]? ≠ none->(∀j',j' < (p++r).length->kf ((p++r).getD j 0)<=kf ((p++r).getD j' 0)/\(j' < j->kf ((p++r).getD j 0) < kf ((p++r).getD j' 0)))->(p++r)[j]? = some (minK kf r b)
 | [],p,b,i,j,hb,hi,hm,hj,hbst=>by
  show _=some b;rw[List.append_nil] at *;have hj':j < p.length:=by
   cases Nat.lt_or_ge j p.length with
   | inl h=>exact h
   | inr h=>exact absurd (List.getElem?_eq_none h) hj
  have gd:∀q,q < p.length->p[q]? = some (p.getD q 0):=fun q hq=>by rw[List.getD_eq_getElem?_getD,List.getElem?_eq_getElem hq];rfl
  have hbd:p.getD i 0=b:=by rw[List.getD_eq_getElem?_getD,hb];rfl
  have e:i=j:=by
   rcases Nat.lt_trichotomy i j with h | h | h
   ·have h1:=(hbst i hi).2 h;rw[hbd] at h1;have h2:=(hm j hj').1;omega
   ·exact h
   ·have h1:=(hm j hj').2 h;have h2:=(hbst i hi).1;rw[hbd] at h2;omega
  rw[<-e];exact hb
 | n::r,p,b,i,j,hb,hi,hm,hj,hbst=>by
  have es:p++n::r=(p++[n])++r:=by simp
  have hn:(p++n::r)[p.length]? = some n:=by simp
  have hnd:(p++n::r).getD p.length 0=n:=by rw[List.getD_eq_getElem?_getD,hn];rfl
  by_cases c:kf n < kf b
  ·have:minK kf (n::r) b=minK kf r n:=by show(if _ then _ else _)=_;rw[if_pos c]
   rw[this];have:=af6 kf r (p++[n]) n p.length j (by rw[<-es];exact hn) (by simp) (fun j' hj'=>by
    rw[<-es];simp at hj';rcases Nat.lt_or_ge j' p.length with h | h
    ·have:=hm j' h;exact⟨by omega,fun _=>by omega⟩
    ·have e:j'=p.length:=by omega
     rw[e,hnd];exact⟨Int.le_refl _,fun h=>absurd h (Nat.lt_irrefl _)⟩) (by rw[<-es];exact hj) (by rw[<-es];exact hbst)
   rw[<-es] at this;exact this
  ·have:minK kf (n::r) b=minK kf r b:=by show(if _ then _ else _)=_;rw[if_neg c]
   rw[this];have:=af6 kf r (p++[n]) b i j (by rw[<-es];exact hb) (by simp;omega) (fun j' hj'=>by
    rw[<-es];simp at hj';rcases Nat.lt_or_ge j' p.length with h | h
    ·exact hm j' h
    ·have e:j'=p.length:=by omega
     rw[e,hnd];exact⟨by omega,fun h=>by omega⟩) (by rw[<-es];exact hj) (by rw[<-es];exact hbst)
   rw[<-es] at this;exact this
def ap9(ia iw ik:Nat):M D:=fun ρ=>match ρ[ia]?,ρ[iw]?,ρ[ik]? with
 | some (.own _ al),some (.own _ l),some (.val (.int k))=>(match aa2 al with
  | some (n::r)=>if (n::r).all (fun m=>(keyM l k m).isSome)=true then some (.ok (.int (minK (fun m=>(keyM l k m).getD 0) r n)),ρ) else none
  | _=>none)
 | _,_,_=>none
theorem ar7{K:Fg9}{F:Hp}{l:List D}{vs:List V}{n:Int}{d:D}(h:IsL K F l vs)(e:atI l n=some d):∃v,atI vs n=some v/\Is K F d v:=by
 unfold atI at e ⊢
 rw[h.length] at e;cases q:ixN vs.length n with
 | none=>rw[q] at e;cases e
 | some j =>
  rw[q] at e;have e':l[j]? = some d:=e;obtain⟨v,h1,h2⟩:=h.get e';exact⟨v,h1,h2⟩
theorem ax2{K:Fg9}{X:Cx}{e:Expr}{ia iw ik:Nat}(h:PE X e (ayx X.K ia iw ik)):EV K X e (ap9 ia iw ik):=EV.mk fun hk=>by
 subst hk;refine PE.imp h fun σ H Q z9 =>?_
 obtain⟨tg,F,ρ,d,ρ',G,em,q⟩:=z9;unfold ap9 at em;split at em
 ·rename_i t1 al t2 l k ea ew ek;split at em
  ·rename_i n r ei;split at em
   ·rename_i hc;cases em;obtain⟨o1,s1,a,vs,rfl,fa,ha,la,_⟩:=G.at ea;obtain⟨o2,s2,w,ws,rfl,fw,hw,lw,_⟩:=G.at ew;obtain⟨o3,s3,v3,rfl,hv3⟩:=G.at ek;cases hv3;rw[afl ei] at la;have ev:=la.int_inv;subst ev;refine⟨a,w,k,n::r,fun m=>(keyM l k m).getD 0,s1,s2,s3,SqL.of ha,fun m hm =>?_,by simp,fun i m H' sm hi hb =>?_⟩
    ·have h1:=List.all_eq_true.mp hc m hm;obtain⟨x,hx⟩:=Option.isSome_iff_exists.mp h1;show aon _ _ _ _ _ ((keyM l k m).getD 0);rw[hx];unfold keyM at hx;split at hx
     ·rename_i rr er;obtain⟨v,ev,iv⟩:=ar7 lw er;split at hx
      ·rename_i b eb;cases hx;cases iv with
       | lst e2 hl2 =>
        obtain⟨u,eu,iu⟩:=ar7 hl2 eb;cases iu;exact⟨ws,_,_,b,SqL.of hw,ev,SqL.of (G.sub _ _ e2),eu,rfl⟩
      ·cases hx
     ·cases hx
    ·have hm:m=minK (fun m=>(keyM l k m).getD 0) r n:=by
      have h1:=af6 (fun m=>(keyM l k m).getD 0) r [n] n 0 i rfl (by simp) (fun j' hj'=>by
       have e:j'=0:=by simpa using hj'
       subst e;exact⟨Int.le_refl _,fun h=>absurd h (Nat.lt_irrefl _)⟩) (by show(n::r)[i]? ≠ none;rw[hi];simp) (fun j' hj'=>by
       have h2:=hb j' (by have:j' < (n::r).length:=hj';omega)
       exact h2)
      have h2:(n::r)[i]? = _:=h1;rw[hi] at h2;exact Option.some.inj h2
     subst hm;refine q _ H' F ⟨fun b o e=>sm _ _ (G.sub _ _ e),G.len,fun j s o e1 e2 =>?_,G.inj⟩ ⟨fun _ _ e=>e,fun _ _ e=>.inl e,fun b o e _=>sm _ _ e,fun _ z=>.inl z,fun b z=>sm.free z⟩ (.int _)
     have s1:=G.sl j s o e1 e2;cases s with
     | own t l' =>
      obtain⟨b,vs1,rfl,hb1,hb2,hb3,hb4⟩:=s1;exact⟨b,vs1,rfl,hb1,sm _ _ hb2,hb3,hb4⟩
     | box c fs =>
      obtain⟨b,C,dx,fvs,rfl,hb1,hb2,hb3⟩:=s1;exact⟨b,C,dx,fvs,rfl,hb1,sm _ _ hb2,hb3⟩
     | _=>exact s1
   ·cases em
  ·cases em
 ·cases em
def agw:D->Bool
 | .lst l=>l.all ak9
 | d=>ac1 d
theorem ahd{K:Fg9}{F:Hp}:∀{l:List D} {vs:List V},IsL K F l vs->l.all ak9=true->∀a,V.ref a∉vs
 | [],_,h,_,a=>by cases h;simp
 | d::r,_,h,hd,a=>by
  rw[List.all_cons,Bool.and_eq_true] at hd;cases h with
  | cons h t =>
   intro hm;rcases List.mem_cons.mp hm with e | e
   ·subst e;cases h <;> cases hd.1
   ·exact ahd t hd.2 a e
theorem IsL.agw{K:Fg9}{F:Hp}{a:Addr}{xs:List V}(ha:F a=some (.lst xs)):∀{l:List D} {vs:List V},IsL K F l vs->(∀v∈vs,v∈xs)->l.all Dn.agw=true->IsL K (ae7 F a) l vs
 | [],_,h,_,_=>by cases h;exact .nil
 | d::r,_,h,hs,hd=>by
  rw[List.all_cons,Bool.and_eq_true] at hd;cases h with
  | cons h t =>
   refine .cons ?_ (IsL.agw ha t (fun v hv=>hs v (List.mem_cons_of_mem _ hv)) hd.2)
   cases h with
   | @lst b vs' ds e hl =>
    refine .lst (afj e fun q =>?_) (hl.flat hd.1)
    subst q;rw[ha] at e;cases e;exact ahd hl hd.1 b (hs _ (List.mem_cons_self ..))
   | tup e hl=>exact .tup (afj e fun q=>by rw[q,ha] at e;cases e) (hl.flat hd.1)
   | non=>exact .non
   | bl b=>exact .bl b
   | int i=>exact .int i
   | str s=>exact .str s
   | _=>cases hd.1
def ag6(i j:Nat)(m:M Rv):M Rv:=fun ρ=>match ρ[i]?,ρ[j]?,m ρ with
 | some (.own none l),some (.val _),some (.ok (.fr ys),ρ')=>if ys.all ac1=true/\l.all agw=true/\(List.set ρ i .emp).all okT=true then some (.ok (.fr ys),ρ) else none
 | _,_,_=>none
def avx(i j:Nat)(m:M Rv):Prop:=∀(ρ ρ':Ro) (l ys:List D),ρ[i]? = some (.own none l)->m ρ=some (.ok (.fr ys),ρ')->(∃d,ρ[j]? = some (.val d))->ρ'=List.set ρ i (.val (.lst l))
theorem an5:avx i j (j7 [none,none,some j] (mGet aby (bw (mVar i) mNil)) b mc me):=fun ρ ρ' l ys ei h hj=>by
 obtain⟨l2,ρ1,ys2,ps,e1,_,_,_,_,rfl⟩:=amd h;obtain⟨ds,ρ2,e2,e3⟩:=bj e1;obtain⟨_,rfl⟩:=jc e3;obtain⟨d,ρ3,e4,e5⟩:=bj e2;obtain⟨ds2,ρ4,e6,e7⟩:=bj e5;obtain⟨rfl,rfl⟩:=jy e6;obtain⟨rfl,rfl⟩:=jy e7;have e8:ρ1=List.set ρ i (.val (.lst l)):=by
  unfold mVar at e4;rw[ei] at e4;cases e4;rfl
 rw[e8];obtain⟨dj,hj⟩:=hj;refine List.ext_getElem? fun q =>?_
 unfold putB;rw[List.getElem?_mapIdx];have hset:(List.set ρ i (Sl.val (.lst l)))[q]? = if i=q then some (.val (.lst l)) else ρ[q]? := getset ei q
 by_cases hq:q=j
 ·subst hq;have:∃d,(List.set ρ i (Sl.val (.lst l)))[q]? = some (.val d):=by
   rw[hset];split
   ·exact⟨_,rfl⟩
   ·exact⟨_,hj⟩
  obtain⟨d,hd⟩:=this;rw[hd];exact congrArg some (by unfold putS;split <;> rfl)
 ·cases(List.set ρ i (Sl.val (.lst l)))[q]? with
  | none=>rfl
  | some s =>
   refine congrArg some ?_;unfold putS;have:([none,none,some j]:List (Option Nat)).findIdx? (fun o=>o==some q)=none:=by
    simp[List.findIdx?_cons];omega
   rw[this]
theorem an6{K:Fg9}{tg:Nat->Addr}{F H F' H':Hp}{ρ:Ro}{σ:L2.St}{i:Nat}{l ys:List D}{v:V}(ei:ρ[i]? = some (.own none l))(hy:ys.all ac1=true)(hl3:l.all agw=true)(hfl:(List.set ρ i .emp).all okT=true)(G:Good K tg F H ρ σ)
  (G':Good K tg F' H' (List.set ρ i (.val (.lst l))) σ) (x:Ext (Own ρ σ) (Own (List.set ρ i (.val (.lst l))) σ) F H F' H') (rr:relR K (.fr ys) v H (Own ρ σ) F' H' (Own (List.set ρ i (.val (.lst l))) σ)) :
  ∃F2,Good K tg F2 H' ρ σ/\Ext (Own ρ σ) (Own ρ σ) F H F2 H'/\relR K (.fr ys) v H (Own ρ σ) F2 H' (Own ρ σ):=by
 obtain⟨b,vs,rfl,hb,hfb,hhb,hlb,hnb⟩:=rr;obtain⟨oi,hoi,ai,vi,rfl,hfi,hhi,hli,hti⟩:=G.at ei;have hset:∀j,(List.set ρ i (.val (.lst l)))[j]? = if i=j then some (.val (.lst l)) else ρ[j]? := getset ei
 have hset2:∀j,(List.set ρ i Sl.emp)[j]? = if i=j then some Sl.emp else ρ[j]? := getset ei
 have frI:∃vs',F' ai=some (.lst vs')/\IsL K F' l vs':=by
  obtain⟨v',ev,hv⟩:=G'.sl i _ _ (by rw[hset,if_pos rfl]) hoi
  cases ev;cases hv with
  | lst e hl=>exact⟨_,e,hl⟩
 obtain⟨vi',hFi,hli'⟩:=frI;have okAt:∀(j:Nat) (s:Sl),i≠j->(ρ:List Sl)[j]? = some s->okT s=true:=fun j s hj e=>List.all_eq_true.mp hfl _ (List.mem_of_getElem? (by rw[hset2 j,if_neg hj];exact e))
 have sF:Same F (ae7 F' ai):=fun c o z=>afj (x.sub _ _ z) fun w=>by rw[w,hfi] at z;cases z
 refine⟨ae7 F' ai,⟨fun c o z=>G'.sub _ _ (amf z).2,G.len,fun j s o e1 e2 =>?_,G.inj⟩,⟨sF,fun c o z=>x.new c o (amf z).2,x.keep,fun c z=>.inl z,x.there⟩,⟨b,vs,rfl,hb,?_,hhb,IsL.ac1 hFi hlb hy,fun⟨j,⟨t,l',ej⟩,ev⟩ =>?_⟩⟩
 ·have s1:=G.sl j s o e1 e2
  by_cases hj:i=j
  ·subst hj;rw[ei] at e1;cases e1;obtain⟨a,vs1,rfl,ha,_,_,ht⟩:=s1;rw[hoi] at e2;cases e2;exact⟨ai,vi',rfl,by unfold ae7;rw[if_pos rfl],G'.sub _ _ hFi,IsL.agw hFi hli' (fun _ z=>z) hl3,ht⟩
  ·have s2:=okAt j s hj e1;cases s with
   | own t l' =>
    obtain⟨a,vs1,rfl,ha,_,_,ht⟩:=s1;obtain⟨a2,vs2,ea,hf2,hh2,hl2,_⟩:=G'.sl j _ _ (by rw[hset,if_neg hj];exact e1) e2
    cases ea;exact⟨a,vs2,rfl,by unfold ae7;split;rfl;exact hf2,hh2,IsL.ac1 hFi hl2 s2,ht⟩
   | val d =>
    obtain⟨v,ev,hv⟩:=s1;exact⟨v,ev,hv.mono sF⟩
   | emp=>exact s1
   | _=>cases s2
 ·unfold ae7;split;rfl;exact hfb
 ·by_cases hj:i=j
  ·subst hj;rw[hoi] at ev;cases ev;rw[hFi] at hfb;cases hfb
  ·exact hnb ⟨j,⟨t,l',by rw[hset,if_neg hj];exact ej⟩,ev⟩
theorem aqa{i j:Nat}{m:M Rv}{ρ ρ':Ro}{r:Rv}(em:ag6 i j m ρ=some (.ok r,ρ'))(hm:avx i j m):ρ'=ρ/\∃l ys,r=.fr ys/\ρ[i]? = some (.own none l)/\ys.all ac1=true/\l.all agw=true/\(List.set ρ i .emp).all okT=true/\m ρ=some (.ok (.fr ys),List.set ρ i (.val (.lst l))):=by
 unfold ag6 at em;split at em
 ·rename_i l dj ys ρ1 ei ej e1;split at em
  ·rename_i hc;obtain⟨hy,hl3,hfl⟩:=hc;have e:=hm _ _ _ _ ei e1 ⟨_,ej⟩;cases em;exact⟨rfl,l,ys,rfl,ei,hy,hl3,hfl,by rw[<-e];exact e1⟩
  ·cases em
 ·cases em
section
variable{K:Fg9}{X:Cx}{tgt iter elt:Expr}{pos p:Pos}
theorem asx(fr N:List Str)(j iw:Nat)(hN:X.N.Nodup)(hxi:X.N[i]? = some x)(hx:Loc X.env.scope x)(hc:X.calm=true)(hi:IT K X tgt iter (mGet aby (bw (mVar iw) mNil)))
  (hg:∀fp s H,GV K (cxC X N scope fr fp s H) tgt bb) (ht:∀fp s H,EIf K (cxC X N scope fr fp s H) ifs mc) (he:∀fp s H,EV K (cxC X N scope fr fp s H) elt me)
  (hsw:swapsWith (.ListComp elt [⟨tgt,iter,ifs,0⟩] scope cpos) (some (.Name x p)) pos.line X.env=pure true:=by rfl)
  (hok:ae6 X.env X.N scope fr N [none,none,some j]=true:=by rfl) (hkind:scope.kind=.function:=by rfl) (hclos:closureFor scope X.env=pure (kh X.env fr):=by rfl)
  (hs:∀x,foldedSetIterable iter X.env x=pure x:=by intro _;rfl) (hf:X.fn x=true∨X.env.scope.names.lookup x=some .local:=by first | exact .inl rfl | exact .inr rfl | assumption) :
  SV K X (.Assign [.Name x p] (.ListComp elt [⟨tgt,iter,ifs,0⟩] scope cpos) pos) (dSet i (ag6 iw j (j7 [none,none,some j] (mGet aby (bw (mVar iw) mNil)) bb mc me))):=SV.mk fun hk=>by
 have hkc:∀fp s H,(cxC X N scope fr fp s H).K=K:=fun _ _ _=>hk
 refine PS.imp (aph fr N _ hN hxi hx hc (hi hk) (fun fp s H=>(hg fp s H).go (hkc _ _ _)) (fun fp s H=>(ht fp s H).go (hkc _ _ _)) (fun fp s H=>(he fp s H).go (hkc _ _ _)) hsw hok hkind hclos hs hf) fun E σ H z9 =>?_
 obtain⟨tg,F,ρ,fl,ρ',G,em,q⟩:=z9;refine w6 em q fun r ρ1 e1 em =>?_
 cases em;obtain⟨rfl,l,ys,rfl,ei,hy,hl3,hfl,e2⟩:=aqa e1 an5;refine air σ H _ ⟨tg,F,_,_,_,G,e2,fun v H' F' G' x rr =>?_⟩
 obtain⟨F2,G3,x3,r3⟩:=an6 ei hy hl3 hfl G G' x rr;obtain⟨G2,x2⟩:=G3.store x3 i r3;exact q _ H' F2 G2 x2
end
@[simp] theorem aqb(i j:Nat)(m:M Rv)(ρ:Ro):ag6 i j m ρ=match ρ[i]?,ρ[j]?,m ρ with
 | some (.own none l),some (.val _),some (.ok (.fr ys),ρ')=>if ys.all ac1=true/\l.all agw=true/\(List.set ρ i .emp).all okT=true then some (.ok (.fr ys),ρ) else none
 | _,_,_=>none:=rfl
end Dn
end
namespace Dn
open PySem L2
@[simp] abbrev gL9(d:D):Option Rv:=(itemsD d).map fun l=>.v (.int l.length)
@[simp] abbrev gT9(d:D):Option Rv:=(itemsD d).map fun l=>.v (.tup l)
end Dn
namespace My
open PySem L2 Mn Dn
def aha:Sd :=
 (dRet (M.v (mAnd (mIsi .int (dq 0)) (mUn gNot (mIsi .bool (dq 0))))))
def aas:Fd:=fnD 1 1 aha
def aao:Sd :=
 (dRet (M.v (mAnd (M.d (mFn aas [some 0] (gj 0 ig))) (ajh (fun i j=>decide (i<=j)) (fun i j=>decide (i<=j)) (mVar 1) (mVar 0) (mVar 2)))))
def j0:Fd:=fnD 3 3 aao
def aap:Sd :=
 (dRet (M.v (mAnd (mIsi .tuple (dq 0)) (ajh (fun i j=>decide (i<=j)) (fun i j=>decide (i<=j)) (mVar 1) (M.d (jb (g1 gL9) (jg 0 mNil))) (mVar 2)))))
def j4:Fd:=fnD 3 3 aap
def alg:M D :=
 (M.d (mOp (gIn false) (bz 0 (dq 1))))
def ais:M Bool :=
 (aam (M.d (jb (g1 gAll) (bw (M.d (j7 [none,some 1] (oh (M.d (mOp gIx (bz 2 (dq 0))))) (az 0) (ret true) alg)) mNil))))
def alf:M D :=
 (mVar 0)
def ahm:M Bool :=
 (mj (gCmp fun i j=>decide (i < j)) (ie (M.d (jb (g1 gL9) (jg 1 mNil))) (dq 2)))
def ahi:Sd :=
 (dSeq (dSet 2 (jb (g1 gL9) (jg 1 mNil))) (dSet 1 (j7 [none,some 1,some 0] (oh (mVar 1)) (az 0) ais alf)))
def avj:Sd :=
 (dSeq (dSet 1 (aee (bw (M.d (jb (g1 gL9) (jg 0 mNil))) mNil))) (dSeq (dSet 2 (mOp gAdd (ie (M.d (jb (g1 gL9) (jg 1 mNil))) (ret (.int 1))))) (dSeq (whileD ahm ahi fuel) (dRet (jb (g1 gT9) (jg 1 mNil))))))
def ajp:Fd:=fnD 3 1 avj
def vd:Sd :=
 (dSeq (dSet 1 (mFn ajp [some 0] (gj 0 ig))) (dIf (mj (gEq true) (bz 1 (mTup mNil))) (fun _=>none) dNx))
def gr:Fd:=fnD 2 1 vd
def aa7:M D :=
 (M.d (mFn j0 [some 0,none,some 1] (gj 0 (di (ret (.int 0)) (gj 1 ig)))))
def aex:Sd :=
 (dSeq (dIf (af8 (aam (M.d (mFn j4 [some 1,none,none] (gj 1 (di (M.d (jb (g1 gL9) (jg 0 mNil))) (di (M.d (jb (g1 gL9) (jg 0 mNil))) ig))))))) (dRet (M.v (ret (.bl false)))) dNx) (dRet (jb (g1 gAll) (bw (M.d (j7 [none,some 2] (oh (mVar 1)) (az 0) (ret true) aa7)) mNil))))
def vy:Fd:=fnD 3 3 aex
def acw:Sd :=
 (dIf (mj (gEq true) (ie (M.d (mOp gIx (ie (M.d (mOp gIx (bz 0 (dq 2)))) (dq 1)))) (ret (.int 0)))) (dRet (adk 2)) dNx)
def ag8:Sd :=
 (dSeq (dFor (mGet aig (bw (mVar 1) (bw (M.d (jb (g1 gL9) (jg 0 mNil))) mNil))) (az 2) acw) (dRet (M.v (ret .non))))
def aaq:Fd:=fnD 3 2 ag8
def aej:M D :=
 (M.d (jb (g1 fun d=>(itemsD d).map fun l=>.fr l) (jg 0 mNil)))
def aod:M D :=
 (mUn gNeg (mVar 0))
def ajm:Sd :=
 (dSeq (dSet 3 (j7 [none] (oh (mVar 0)) (az 0) (ret true) aej)) (dSeq (dIf (mj (gEq true) (bz 1 (dq 2))) (dSeq (dSub 3 (mVar 1) (M.d (jb (g1 fun d=>(itemsD d).map fun l=>.fr l) (bw (M.d (mOp gIx (bz 0 (dq 2)))) mNil)))) (dSub 3 (mVar 2) (M.d (j7 [none] (oh (M.d (mOp gIx (bz 0 (dq 1))))) (az 0) (ret true) aod)))) dNx) (dRet (adk 3))))
def abz:Fd:=fnD 4 3 ajm
def ach:M D :=
 (M.d (mOp (gInt fDiv) (ie (M.d (mOp (gInt fSub) (ie (M.d (mOp gMul (ie (M.d (mOp gIx (bz 3 (dq 5)))) (dq 0)))) (M.d (mOp gMul (ie (M.d (mOp gIx (bz 2 (dq 5)))) (dq 1))))))) (dq 4))))
def ace:Sd :=
 (dIf (mj (gEq false) (bz 5 (dq 1))) (adz (M.v (mMut 4 aaf (bw (M.d (jb (g1 fun d=>(itemsD d).map fun l=>.fr l) (jg 3 mNil))) mNil)))) (adz (M.v (mMut 4 aaf (bw (M.d (j7 [none,none,some 6,some 3,some 2,some 1] (mGet agf (bw (mVar 6) (bw (mVar 3) mNil))) (bTup 2 (dh (az 0) (dh (az 1) bNil))) (ret true) ach)) mNil)))))
def ajn:Sd :=
 (dSeq (dSet 3 (mOp gIx (bz 0 (dq 1)))) (dSeq (dSet 4 (mLst mNil)) (dSeq (dFor (mGet aby (bw (mVar 0) mNil)) (bTup 2 (dh (az 5) (dh (az 6) bNil))) ace) (dRet (adk 4)))))
def ab0:Fd:=fnD 7 3 ajn
def adw:M D :=
 (M.d (mOp gAdd (ie (M.d (jb (g1 fun d=>(itemsD d).map fun l=>.fr l) (jg 0 mNil))) (M.d (mLst (bw (mVar 1) mNil))))))
def adm:Sd :=
 (dSeq (dSet 5 (mFn aaq [some 2,none] (gj 2 (di (mVar 4) ig)))) (dSeq (dIf (aam (mIsN false (dq 5))) (dRet (M.v (ret .non))) dNx) (dSeq (dSet 2 (mFn abz [none,none,none] (di (mVar 2) (di (mVar 4) (di (mVar 5) ig))))) (dSeq (dSet 2 (mFn ab0 [none,some 4,some 3] (di (mVar 2) (gj 4 (gj 3 ig))))) (dSet 3 (mOp gIx (ie (M.d (mOp gIx (bz 2 (dq 4)))) (dq 4))))))))
def agi:M D :=
 (M.d (mOp gIx (bz 0 (M.d (jb (g1 gL9) (jg 1 mNil))))))
def ams:Sd :=
 (dSeq (dSet 2 (j7 [none,none] (mGet agf (bw (mVar 0) (bw (mVar 1) mNil))) (bTup 2 (dh (az 0) (dh (az 1) bNil))) (ret true) adw)) (dSeq (dSet 3 (M.v (ret (.int 1)))) (dSeq (dFor (mGet vf (bw (M.d (jb (g1 gL9) (jg 0 mNil))) mNil)) (az 4) adm) (dRet (M.v (mTup (bw (M.d (j7 [none,some 0] (oh (mVar 2)) (az 0) (ret true) agi)) (bw (mVar 3) mNil))))))))
def ado:Fd:=fnD 6 2 ams
def adn:Sd :=
 (dSeq (dSet 1 (mFn ado [none,none] (di (mVar 0) (di (M.d (mOp gMul (ie (M.d (mLst (bw (ret (.int 0)) mNil))) (M.d (jb (g1 gL9) (jg 0 mNil)))))) ig)))) (dRet (mIf (aam (mIsN false (dq 1))) (M.v (ret (.int 0))) (mOp gIx (bz 1 (ret (.int 1)))))))
def uv:Fd:=fnD 2 1 adn
def aq4:M D :=
 (M.d (mOp (gInt fSub) (bz 0 (M.d (mOp (gInt agx) (bz 2 (dq 1)))))))
def avk:Sd :=
 (dRet (j7 [none,none,some 1] (mGet agf (bw (mVar 0) (bw (mVar 2) mNil))) (bTup 2 (dh (az 0) (dh (az 1) bNil))) (ret true) aq4))
def ahe:Fd:=fnD 3 3 avk
def agk:M D :=
 (M.d (jb (g1 fun d=>(itemsD d).map fun l=>.fr l) (jg 0 mNil)))
def aau:M Bool :=
 (mj (gEq true) (ie (M.d (mOp gIx (bz 1 (dq 2)))) (ret (.int 0))))
def aat:M D :=
 (mVar 0)
def agh:M D :=
 (M.d (mOp (gInt agx) (bz 1 (dq 0))))
def ym:Sd :=
 (dIf (mj (gEq true) (bz 7 (dq 4))) (dSub 2 (mVar 7) (M.d (mFn ahe [none,none,none] (di (M.d (mOp gIx (bz 2 (dq 7)))) (di (M.d (mOp (gInt adq) (ie (M.d (mOp gIx (ie (M.d (mOp gIx (bz 2 (dq 7)))) (dq 1)))) (M.d (mOp gIx (ie (M.d (mOp gIx (bz 2 (dq 4)))) (dq 1))))))) (di (M.d (mOp gIx (bz 2 (dq 4)))) ig)))))) dNx)
def aiz:M Bool :=
 (aam (ret (.bl true)))
def ye:Sd :=
 (dSeq (dSet 3 (ag6 2 1 (j7 [none,none,some 1] (mGet aby (bw (mVar 2) mNil)) (bTup 2 (dh (az 0) (dh (az 1) bNil))) aau aat))) (dSeq (dSet 4 (M.v (ap9 3 2 1))) (dSeq (dIf (mj (gEq false) (bz 3 (M.d (mLst (bw (mVar 4) mNil))))) (dSeq (dSet 5 (mIf (mj (gCmp fun i j=>decide (j < i)) (ie (M.d (mOp gIx (ie (M.d (mOp gIx (bz 2 (dq 4)))) (dq 1)))) (ret (.int 0)))) (M.v (ret (.int 1))) (M.v (mUn gNeg (ret (.int 1)))))) (dSeq (dSet 6 (j7 [none,some 5] (oh (M.d (mOp gIx (bz 2 (dq 4))))) (az 0) (ret true) agh)) (dRet (mOp gAdd (ie (M.d (mOp gAdd (ie (M.d (mLst (bw (mVar 6) mNil))) (M.d (ajf 2 (ret none) (af7 (mVar 4))))))) (M.d (ajf 2 (af7 (M.d (mOp gAdd (bz 4 (ret (.int 1)))))) (ret none)))))))) dNx) (dFor (oh (mVar 3)) (az 7) ym))))
def amt:Sd :=
 (dSeq (dSet 2 (j7 [none] (oh (mVar 0)) (az 0) (ret true) agk)) (whileD aiz ye fuel))
def adp:Fd:=fnD 8 2 amt
def agj:M D :=
 (M.d (jb (g1 fun d=>(itemsD d).map fun l=>.fr l) (jg 0 mNil)))
def adl:Sd :=
 (dSeq (dSet 2 (mFn adp [none,some 3] (di (mVar 2) (gj 3 ig)))) (dSeq (adz (M.v (mMut 1 aaf (bw (M.d (mOp gIx (bz 2 (ret (.int 0))))) mNil)))) (dSet 2 (ajf 2 (af7 (ret (.int 1))) (ret none)))))
def amr:Sd :=
 (dSeq (dSet 1 (mLst mNil)) (dSeq (dSet 2 (j7 [none] (oh (mVar 0)) (az 0) (ret true) agj)) (dSeq (dFor (mGet vf (bw (M.d (jb (g1 gL9) (jg 0 mNil))) mNil)) (az 3) adl) (dRet (adk 1)))))
def vh:Fd:=fnD 4 1 amr
def acx:Sd :=
 (dSet 2 (mFn ahe [none,none,none] (di (mVar 2) (di (M.d (mOp (gInt adq) (ie (M.d (mOp gIx (bz 2 (dq 3)))) (M.d (mOp gIx (bz 4 (dq 3))))))) (di (mVar 4) ig)))))
def ag9:Sd :=
 (dSeq (dSet 2 (jb (g1 fun d=>(itemsD d).map fun l=>.fr l) (jg 1 mNil))) (dSeq (dFor (mGet aby (bw (mVar 0) mNil)) (bTup 2 (dh (az 3) (dh (az 4) bNil))) acx) (dRet (adk 2))))
def aar:Fd:=fnD 5 2 ag9
def yr:M D :=
 (mUn gNeg (ajg 1 (bw (mVar 0) mNil)))
def l1_doors_square:Sd :=
 (dSeq (dSet 4 (j7 [none,some 3] (mGet vf (bw (M.d (jb (g1 gL9) (jg 0 mNil))) mNil)) (az 0) (ret true) yr)) (dSeq (alj (fun i j=>i+j) 4 (mVar 2) (M.d (jb (g1 gL9) (jg 3 mNil)))) (adz (M.v (mMut 1 aaf (bw (mVar 4) mNil))))))
def acn:Sd :=
 (dSeq (dSet 1 (mLst mNil)) (dSeq (dFor (mGet aby (bw (mVar 0) mNil)) (bTup 2 (dh (az 2) (dh (az 3) bNil))) l1_doors_square) (dRet (adk 1))))
def jx:Fd:=fnD 5 1 acn
def aan:Sd :=
 (dIf (af8 (aam (M.d (mFn vy [some 0,none,none] (gj 0 (di (mVar 2) (di (ret (.int 1000000000000000000000000000000)) ig))))))) (fun _=>none) dNx)
def abh:Sd :=
 (dSeq (dFor (oh (mVar 1)) (az 2) aan) (adz (mFn gr [some 0] (gj 0 ig))))
def mq:Fd:=fnD 3 2 abh
def aev:Sd :=
 (dSeq (adz (mFn mq [some 0,none] (gj 0 (di (M.d (mLst (bw (mVar 1) mNil))) ig)))) (dRet (jb (g1 gT9) (bw (M.d (mFn aar [none,some 1] (di (M.d (mFn vh [none] (di (M.d (mFn jx [none] (di (mVar 0) ig))) ig))) (gj 1 ig)))) mNil))))
def jk:Fd:=fnD 2 2 aev
def aa6:M D :=
 (M.d (mOp gIx (bz 1 (dq 0))))
def aew:Sd :=
 (dSeq (adz (mFn gr [some 0] (gj 0 ig))) (dRet (jb (g1 gT9) (bw (M.d (j7 [none,none] (mGet aby (bw (M.d (mFn vh [none] (di (M.d (mFn jx [none] (di (mVar 0) ig))) ig))) mNil)) (bTup 2 (dh (az 0) (dh (az 1) bNil))) (ret true) aa6)) mNil))))
def vq:Fd:=fnD 1 1 aew
def abi:Sd :=
 (dSeq (adz (mFn gr [some 0] (gj 0 ig))) (dRet (mFn uv [none] (di (M.d (mFn jx [none] (di (mVar 0) ig))) ig))))
def my:Fd:=fnD 1 1 abi
def ac0:Sd :=
 (dSeq (dIf (mj (gCmp fun i j=>decide (i < j)) (bz 1 (M.d (jb (g1 gL9) (jg 0 mNil))))) (dRet (mOp gIx (bz 0 (dq 1)))) dNx) (dRet (M.v (ret (.int 0)))))
def f__law_cell:Fd:=fnD 2 2 ac0
def ahc:Sd :=
 (dSeq (dSet 1 (jb (g2 (gInt fun i j=>some (if j > i then j else i))) (jg 0 (bw (M.d (mOp (gInt fSub) (ie (ret (.int 0)) (dq 0)))) mNil)))) (dRet (mLst (bw (mVar 1) (bw (M.d (jb (g1 aoa) (bw (M.d (mOp (gCmp fun i j=>decide (j<=i)) (bz 1 (M.d (mOp (gInt fPow) (ie (ret (.int 10)) (ret (.int 18)))))))) mNil))) mNil)))))
def f__law_pen:Fd:=fnD 2 1 ahc
def acz:Sd :=
 (dSeq (dIf (mj (gEq false) (ie (M.d (mOp gIx (bz 0 (ret (.int 1))))) (ret (.int 1)))) (dSeq (dAsg (M.d (jb (g2 aii) (bw (M.d (mOp gIx (bz 0 (ret (.int 0))))) (jg 1 mNil)))) (bTup 2 (dh (az 2) (dh (az 3) bNil)))) (dSeq (dSub 0 (ret (.int 0)) (mVar 2)) (dRet (adk 3)))) dNx) (dSeq (dSet 4 (mOp (gInt fMod) (ie (M.d (mOp gMul (ie (M.d (mOp gAdd (ie (M.d (mOp (gInt fMod) (ie (M.d (mOp gIx (bz 0 (ret (.int 0))))) (ret (.int 2147483647))))) (ret (.int 40503))))) (ret (.int 69621))))) (ret (.int 2147483629))))) (dSeq (dSet 4 (mOp (gInt fMod) (ie (M.d (mOp gAdd (ie (M.d (mOp gMul (bz 4 (dq 4)))) (ret (.int 7817))))) (ret (.int 2147483587))))) (dSeq (dSub 0 (ret (.int 0)) (M.d (mOp (gInt fMod) (ie (M.d (mOp gAdd (ie (M.d (mOp gMul (bz 4 (ret (.int 48271))))) (ret (.int 11))))) (ret (.int 2147483629)))))) (dRet (mOp (gInt fMod) (ie (M.d (mOp (gInt fDiv) (ie (M.d (mOp gIx (bz 0 (ret (.int 0))))) (ret (.int 32))))) (dq 1))))))))
def f__law_draw:Fd:=fnD 5 2 acz
def aey:Sd :=
 (dRet (M.v (mAnd (mIsi .int (dq 0)) (mUn gNot (mIsi .bool (dq 0))))))
def j8:Fd:=fnD 1 1 aey
def aba:M D :=
 (M.d (mOp (gInt fSub) (ie (M.d (mFn f__law_draw [some 1,none] (gj 1 (di (M.d (mOp gAdd (bz 2 (dq 3)))) ig)))) (dq 3))))
def aaz:Sd :=
 (dSeq (dSet 7 (mOp gAdd (ie (ret (.int 1)) (M.d (mFn f__law_draw [some 0,some 2] (gj 0 (gj 2 ig))))))) (adz (M.v (mMut 5 aaf (bw (M.d (jb (g1 gT9) (bw (M.d (j7 [none,some 0,some 3,some 4] (mGet vf (bw (mVar 7) mNil)) (az 0) (ret true) aba)) mNil))) mNil)))))
def ae3:Sd :=
 (dSeq (dSet 3 (mOp gAdd (ie (ret (.int 1)) (M.d (mFn f__law_draw [some 0,some 1] (gj 0 (gj 1 ig))))))) (dSeq (dSet 4 (mOp gIx (ie (M.d (mLst (bw (ret (.int 0)) (bw (ret (.int 1)) (bw (ret (.int 3)) (bw (ret (.int 3)) mNil)))))) (M.d (mFn f__law_draw [some 0,none] (gj 0 (di (ret (.int 4)) ig))))))) (dSeq (dSet 5 (mLst mNil)) (dSeq (dFor (mGet vf (bw (mVar 3) mNil)) (az 6) aaz) (dRet (jb (g1 gT9) (jg 5 mNil)))))))
def f__law_house:Fd:=fnD 8 3 ae3
def yx:M Bool :=
 (mj (gIn true) (bz 0 (dq 1)))
def yt:M D :=
 (mVar 0)
def nj:M Bool :=
 (mj (gCmp fun i j=>decide (i < j)) (bz 3 (M.d (jb (g1 gL9) (jg 2 mNil)))))
def jo:Sd :=
 (dSeq (dIf (mj (gCmp fun i j=>decide (j<=i)) (ie (M.d (mOp gIx (bz 2 (dq 3)))) (ret (.int 0)))) (dSet 2 (mOp gAdd (bz 2 (M.d (j7 [none,some 2] (oh (M.d (jb (g1 gSet) (bw (M.d (mOp gIx (bz 0 (M.d (mOp gIx (bz 2 (dq 3))))))) mNil)))) (az 0) yx yt))))) dNx) (dSet 3 (mOp gAdd (bz 3 (ret (.int 1))))))
def aco:Sd :=
 (dSeq (dSet 2 (mLst (bw (mVar 1) mNil))) (dSeq (dSet 3 (M.v (ret (.int 0)))) (dSeq (whileD nj jo fuel) (dRet (adk 2)))))
def qy:Fd:=fnD 4 2 aco
def l1__law_open:Sd :=
 (dIf (mj (gCmp fun i j=>decide (j<=i)) (ie (M.d (jb (g1 axu) (bw (M.d (mFn qy [some 3,none] (gj 3 (di (mVar 4) ig)))) mNil))) (ret (.int 0)))) (dSeq (dSet 5 (mFn f__law_draw [some 0,none] (gj 0 (di (M.d (jb (g1 gL9) (bw (M.d (mOp gIx (bz 3 (dq 4)))) mNil))) ig)))) (dSub 3 (mVar 4) (M.d (mOp gAdd (ie (M.d (mOp gAdd (ie (M.d (mCut (M.d (mOp gIx (bz 3 (dq 4)))) (ret none) (af7 (mVar 5)))) (mTup (bw (M.d (mOp (gInt fSub) (ie (mUn gNeg (ret (.int 1))) (M.d (mFn f__law_draw [some 0,none] (gj 0 (di (ret (.int 3)) ig))))))) mNil))))) (M.d (mCut (M.d (mOp gIx (bz 3 (dq 4)))) (af7 (M.d (mOp gAdd (bz 5 (ret (.int 1)))))) (ret none)))))))) dNx)
def agd:Sd :=
 (dSeq (dSet 3 (jb (g1 fun d=>(itemsD d).map fun l=>.fr l) (bw (M.d (mFn f__law_house [some 0,some 1,some 2] (gj 0 (gj 1 (gj 2 ig))))) mNil))) (dSeq (dFor (mGet vf (bw (M.d (jb (g1 gL9) (jg 3 mNil))) mNil)) (az 4) l1__law_open) (dRet (jb (g1 gT9) (jg 3 mNil)))))
def f__law_open:Fd:=fnD 6 3 agd
def aa8:M D :=
 (M.d (mFn j8 [some 0] (gj 0 ig)))
def aez:Sd :=
 (dSeq (dIf (mOrB (af8 (aam (mIsi .tuple (dq 0)))) (mj (gEq true) (bz 0 (dq 1)))) (dRet (M.v (ret (.bl false)))) dNx) (dRet (jb (g1 gAll) (bw (M.d (j7 [none] (oh (mVar 0)) (az 0) (ret true) aa8)) mNil))))
def jn:Fd:=fnD 2 2 aez
def aa9:M D :=
 (M.d (mOp (gInt fSub) (ie (M.d (mOp gMul (ie (M.d (jb (g1 gL9) (jg 2 mNil))) (M.d (jb (g1 aoa) (bw (M.d (mOp (gEq false) (bz 1 (dq 0)))) mNil)))))) (ajg 2 (bw (mVar 0) mNil)))))
def aax:Sd :=
 (adz (M.v (mMut 1 aaf (bw (M.d (j7 [none,some 2,some 3] (mGet vf (bw (M.d (jb (g1 gL9) (jg 0 mNil))) mNil)) (az 0) (ret true) aa9)) mNil))))
def ae0:Sd :=
 (dSeq (dSet 1 (mLst mNil)) (dSeq (dFor (mGet aby (bw (mVar 0) mNil)) (bTup 2 (dh (az 2) (dh (az 3) bNil))) aax) (dRet (adk 1))))
def ou:Fd:=fnD 4 1 ae0
def xn:M D :=
 (M.d (mOp (gInt fSub) (bz 0 (M.d (mOp gMul (bz 2 (dq 1)))))))
def aa0:Sd :=
 (dSet 3 (j7 [none,none,some 4] (mGet agf (bw (mVar 3) (bw (mVar 5) mNil))) (bTup 2 (dh (az 0) (dh (az 1) bNil))) (ret true) xn))
def ae4:Sd :=
 (dSeq (dSet 3 (jb (g1 fun d=>(itemsD d).map fun l=>.fr l) (jg 1 mNil))) (dSeq (dFor (mGet agf (bw (mVar 2) (bw (M.d (mFn ou [none] (di (mVar 0) ig))) mNil))) (bTup 2 (dh (az 4) (dh (az 5) bNil))) aa0) (dRet (jb (g1 gT9) (jg 3 mNil)))))
def vz:Fd:=fnD 6 3 ae4
def ac3:M D :=
 (M.d (mFn f__law_draw [some 1,some 2] (gj 1 (gj 2 ig))))
def ahb:Sd :=
 (dSeq (dSet 2 (mOp gIx (ie (M.d (mLst (bw (ret (.int 3)) (bw (ret (.int 9)) (bw (ret (.int 101)) (bw (M.d (mOp (gInt fPow) (ie (ret (.int 10)) (ret (.int 6))))) mNil)))))) (M.d (mFn f__law_draw [some 0,none] (gj 0 (di (ret (.int 4)) ig))))))) (dRet (jb (g1 gT9) (bw (M.d (j7 [none,some 0,some 2] (oh (mVar 1)) (az 0) (ret true) ac3)) mNil))))
def xr:Fd:=fnD 3 2 ahb
def zu:M D :=
 (M.d (mOp (gInt fSub) (ie (M.d (mFn f__law_draw [some 1,none] (gj 1 (di (ret (.int 9)) ig)))) (ret (.int 4)))))
def ab4:M D :=
 (M.d (jb (g2 (gInt fun i j=>some (if j > i then j else i))) (bw (ret (.int 0)) (bw (M.d (mOp (gInt fSub) (ie (ret (.int 0)) (dq 0)))) mNil))))
def ab3:M D :=
 (M.d (mOp gAdd (bz 0 (dq 1))))
def ab2:M D :=
 (M.d (mOp gAdd (bz 0 (dq 1))))
def age:Sd :=
 (dSeq (dSet 2 (mFn xr [some 0,none] (gj 0 (di (mVar 1) ig)))) (dSeq (dSet 3 (jb (g1 gT9) (bw (M.d (j7 [none,some 0] (oh (mVar 1)) (az 0) (ret true) zu)) mNil))) (dSeq (dSet 4 (mFn vz [none,some 2,none] (di (mVar 1) (gj 2 (di (mVar 3) ig))))) (dSeq (dSet 5 (j7 [none] (oh (mVar 4)) (az 0) (ret true) ab4)) (dSeq (dSet 2 (jb (g1 gT9) (bw (M.d (j7 [none,none] (mGet agf (bw (mVar 2) (bw (mVar 5) mNil))) (bTup 2 (dh (az 0) (dh (az 1) bNil))) (ret true) ab3)) mNil))) (dRet (M.v (mTup (bw (mVar 2) (bw (M.d (jb (g1 gT9) (bw (M.d (j7 [none,none] (mGet agf (bw (mVar 4) (bw (mVar 5) mNil))) (bTup 2 (dh (az 0) (dh (az 1) bNil))) (ret true) ab2)) mNil))) (bw (mVar 3) mNil)))))))))))
def yo:Fd:=fnD 6 2 age
def vg(φ:Fd):M Bool :=
 (mj (gEq true) (bz 0 (dq 2)))
def abb(φ:Fd):M D :=
 (M.d (ajf 1 (af7 (ret (.int 1))) (ret none)))
def l1__law_det(φ:Fd):Sd :=
 (dIf (mj (gEq true) (ie (M.d (mOp gIx (bz 3 (ret (.int 0))))) (ret (.int 0)))) (dSeq (dSet 4 (j7 [none,none,some 2] (mGet aby (bw (mVar 0) mNil)) (bTup 2 (dh (az 0) (dh (az 1) bNil))) (vg φ) (abb φ))) (dSet 1 (mOp gAdd (bz 1 (M.d (mOp gMul (ie (M.d (mOp gMul (ie (M.d (mOp gIx (bz 3 (ret (.int 0))))) (M.d (mOp (gInt fSub) (ie (ret (.int 1)) (M.d (mOp gMul (ie (ret (.int 2)) (M.d (mOp (gInt fMod) (bz 2 (ret (.int 2)))))))))))))) (M.d (mFn φ [none] (di (mVar 4) ig)))))))))) dNx)
def xq(φ:Fd):Sd :=
 (dSeq (dIf (mj (gEq false) (bz 0 (M.d (mLst mNil)))) (dRet (M.v (ret (.int 1)))) dNx) (dSeq (dSet 1 (M.v (ret (.int 0)))) (dSeq (dFor (mGet aby (bw (mVar 0) mNil)) (bTup 2 (dh (az 2) (dh (az 3) bNil))) (l1__law_det φ)) (dRet (adk 1)))))
def gw:Nat->Fd
 | 0=>fun _=>none
 | n+1=>fnD 5 1 (xq (gw n))
def qj:M D :=
 (M.d (mOp (gInt fSub) (bz 0 (M.d (mOp (gInt agx) (bz 2 (dq 1)))))))
def qd:M Bool :=
 (mj (gEq true) (ie (M.d (mOp gIx (bz 6 (dq 3)))) (ret (.int 0))))
def uf:Sd :=
 (dSeq (dSet 7 (mOp (gInt adq) (ie (M.d (mOp gIx (bz 4 (dq 3)))) (M.d (mOp gIx (bz 6 (dq 3))))))) (dPar 4 6 (bw (mVar 6) (bw (M.d (j7 [none,none,some 7] (mGet agf (bw (mVar 4) (bw (mVar 6) mNil))) (bTup 2 (dh (az 0) (dh (az 1) bNil))) (ret true) qj)) mNil))))
def kj:Sd :=
 (dSeq (whileD qd uf fuel) (adz (M.v (mMut 5 aaf (bw (mVar 6) mNil)))))
def aa5:M D :=
 (M.d (mOp (gInt fSub) (ie (ret (.int 0)) (dq 0))))
def ur:Sd :=
 (dSeq (dSet 4 (mOp gIx (bz 1 (ret (.int 0))))) (dSeq (dSet 5 (mLst mNil)) (dSeq (dFor (oh (M.d (ajf 1 (af7 (ret (.int 1))) (ret none)))) (az 6) kj) (dSeq (dIf (mj (gCmp fun i j=>decide (i < j)) (ie (M.d (mOp gIx (bz 4 (dq 3)))) (ret (.int 0)))) (dSet 4 (j7 [none] (oh (mVar 4)) (az 0) (ret true) aa5)) dNx) (dSeq (adz (M.v (mMut 2 aaf (bw (mVar 4) mNil)))) (dSet 1 (M.v (mVar 5))))))))
def ae1:Sd :=
 (dSeq (dSet 1 (mFn ou [none] (di (mVar 0) ig))) (dSeq (dSet 2 (mLst mNil)) (dSeq (dFor (mGet vf (bw (M.d (jb (g1 gL9) (jg 0 mNil))) mNil)) (az 3) ur) (dRet (adk 2)))))
def jt:Fd:=fnD 8 1 ae1
def adx:M D :=
 (M.d (mOp (gInt fSub) (bz 0 (M.d (mOp (gInt agx) (bz 2 (dq 1)))))))
def aay:Sd :=
 (dSeq (dSet 5 (mOp (gInt adq) (ie (M.d (mOp gIx (bz 2 (dq 3)))) (M.d (mOp gIx (bz 4 (dq 3))))))) (dSet 2 (j7 [none,none,some 5] (mGet agf (bw (mVar 2) (bw (mVar 4) mNil))) (bTup 2 (dh (az 0) (dh (az 1) bNil))) (ret true) adx)))
def ae2:Sd :=
 (dSeq (dSet 2 (jb (g1 fun d=>(itemsD d).map fun l=>.fr l) (jg 1 mNil))) (dSeq (dFor (mGet aby (bw (M.d (mFn jt [none] (di (mVar 0) ig))) mNil)) (bTup 2 (dh (az 3) (dh (az 4) bNil))) aay) (dRet (jb (g1 gT9) (jg 2 mNil)))))
def j9:Fd:=fnD 6 2 ae2
def sy:M D :=
 (M.d (mOp gIx (bz 1 (dq 0))))
def su:Sd :=
 (dSet 3 (mOp gMul (bz 3 (dq 4))))
def zq:Sd :=
 (dSeq (dSet 1 (jb (g1 gT9) (bw (M.d (j7 [none,none] (mGet aby (bw (M.d (mFn jt [none] (di (mVar 0) ig))) mNil)) (bTup 2 (dh (az 0) (dh (az 1) bNil))) (ret true) sy)) mNil))) (dSeq (dSet 2 (mFn my [none] (di (mVar 0) ig))) (dSeq (dIf (mOrB (af8 (aam (M.d (mFn jn [none,some 1] (di (M.d (mFn vq [none] (di (mVar 0) ig))) (gj 1 ig)))))) (mOrB (af8 (aam (M.d (mFn j8 [some 2] (gj 2 ig))))) (mj (gEq true) (bz 2 (M.d (mFn (gw 7) [none] (di (M.d (mFn ou [none] (di (mVar 0) ig))) ig))))))) (dRet (M.v (ret (.bl false)))) dNx) (dSeq (dSet 3 (M.v (ret (.int 1)))) (dSeq (dFor (oh (mVar 1)) (az 4) su) (dRet (mOp (gEq false) (bz 3 (dq 2)))))))))
def je:Fd:=fnD 5 1 zq
def amk:Sd :=
 (dIf (af8 (aam (M.d (mFn jn [none,some 10] (di (M.d (mFn jk [none,none] (di (mVar 3) (di (mVar 9) ig)))) (gj 10 ig)))))) (dRet (M.v (ret (.bl false)))) dNx)
def l2_law:Sd :=
 (dSeq (dSet 2 (mFn f__law_pen [some 1] (gj 1 ig))) (dSeq (dSet 3 (mFn f__law_open [some 2,none,none] (gj 2 (di (M.d (mOp gIx (ie (M.d (mLst (bw (ret (.int 2)) (bw (ret (.int 4)) (bw (ret (.int 6)) mNil))))) (M.d (mFn f__law_draw [some 2,none] (gj 2 (di (ret (.int 3)) ig))))))) (di (ret (.int 5)) ig))))) (dSeq (dIf (af8 (aam (M.d (mFn je [none] (di (mVar 3) ig))))) (dRet (M.v (ret (.bl false)))) dNx) (dSeq (dAsg (M.d (mFn yo [some 2,none] (gj 2 (di (mVar 3) ig)))) (bTup 3 (dh (az 4) (dh (az 5) (dh (az 6) bNil))))) (dSeq (dSet 7 (mFn j9 [none,some 4] (di (mVar 3) (gj 4 ig)))) (dSeq (dIf (mj (gEq true) (ie (M.d (mFn j9 [none,some 5] (di (mVar 3) (gj 5 ig)))) (dq 7))) (dRet (M.v (ret (.bl false)))) dNx) (dSeq (dSet 8 (mFn xr [some 2,none] (gj 2 (di (mVar 3) ig)))) (dFor (oh (M.d (mLst (bw (mTup (bw (mVar 4) (bw (mVar 7) mNil))) (bw (mTup (bw (mVar 5) (bw (mVar 7) mNil))) (bw (mTup (bw (mVar 8) (bw (M.d (mFn j9 [none,some 8] (di (mVar 3) (gj 8 ig)))) mNil))) (bw (mTup (bw (mVar 4) (bw (mVar 7) mNil))) (bw (mTup (bw (mVar 7) (bw (mVar 7) mNil))) mNil)))))))) (bTup 2 (dh (az 9) (dh (az 10) bNil))) amk))))))))
def a01:Sd :=
 (dSeq (dIf (mOrB (af8 (aam (M.d (mFn je [none] (di (mTup (bw (mTup (bw (mUn gNeg (ret (.int 2))) mNil)) mNil)) ig))))) (af8 (aam (M.d (mFn jn [none,none] (di (M.d (mFn jk [none,none] (di (mTup (bw (mTup (bw (ret (.int 0)) (bw (mUn gNeg (ret (.int 1))) (bw (mUn gNeg (ret (.int 1))) mNil)))) mNil)) (di (mTup (bw (ret (.int 5)) mNil)) ig)))) (di (mTup (bw (ret (.int 1)) mNil)) ig))))))) (dRet (M.v (ret (.bl false)))) dNx) (dSeq (dFor (oh (M.d (mOp gAdd (ie (M.d (mLst (bw (M.d (mFn f__law_cell [some 0,none] (gj 0 (di (ret (.int 0)) ig)))) mNil))) (M.d (ajf 0 (af7 (ret (.int 1))) (af7 (ret (.int 3))))))))) (az 1) l2_law) (dRet (M.v (ret (.bl true))))))
def aqy:Fd:=fnD 11 1 a01
def aiw:D->Bool
 | .int _=>true
 | _=>false
def akh(a b:Int):D->Bool
 | .int i=>decide (a<=i)&&decide (i<=b)
 | _=>false
@[simp] theorem axn(d:D):aas [.val d]=some (.ok (.v (.bl (aiw d))),[.val d]):=by
 cases d <;> simp[aas,aha,isTy,aiw]
@[simp] theorem amn(d:D)(a b:Int):j0 [.val d,.val (.int a),.val (.int b)]=some (.ok (.v (.bl (akh a b d))),[.val d,.val (.int a),.val (.int b)]):=by
 cases d <;> simp[j0,aao,aiw,akh]
theorem arl(ns:List Int)(k:Int)(h:0<=k):∃n,f__law_cell [.val (.kst (ns.map D.int)),.val (.int k)]=some (.ok (.v (.int n)),[.val (.kst (ns.map D.int)),.val (.int k)]):=by
 by_cases hk:k < (ns.length:Int)
 ·have e:atI (ns.map D.int) k=some (.int (ns[k.toNat]'(by omega))):=by
   have h2:atI (ns.map D.int) ((k.toNat:Nat):Int)=some (.int (ns[k.toNat]'(by omega))):=alq (by simp[List.getElem?_map,List.getElem?_eq_getElem (show k.toNat < ns.length by omega)])
   rw[show((k.toNat:Nat):Int)=k by omega] at h2
   exact h2
  exact⟨ns[k.toNat]'(by omega),by simp[f__law_cell,ac0,hk,e]⟩
 ·exact⟨0,by simp[f__law_cell,ac0,hk]⟩
def pen(P:Int×Int):List D:=[.int P.1,.int P.2]
theorem ate(n:Int):∃P,f__law_pen [.val (.int n)]=some (.ok (.fr (pen P)),[.val (.int n)]):=by
 refine⟨(if 0 - n > n then 0 - n else n,if 10 ^ 18<=(if 0 - n > n then 0 - n else n) then 1 else 0),?_⟩
 simp[f__law_pen,ahc,pen,fPow]
theorem rm(P:Int×Int)(m:Int)(h0:0 < m)(h1:m < 1000000000000000000000000000000000000000000000000000000000000):∃r P',f__law_draw [.own (some 0) (pen P),.val (.int m)]=some (.ok (.v (.int r)),[.own (some 0) (pen P'),.val (.int m)])/\0<=r/\r < m:=by
 obtain⟨a,b⟩:=P
 by_cases hb:b=1
 ·refine⟨a % m,(a / m,b),?_,Int.emod_nonneg _ (by omega),Int.emod_lt_of_pos _ h0⟩
  simp[f__law_draw,acz,pen,hb,h0,h1,atI,ixN]
 ·have z0:0<=(a % 2147483647+40503)*69621 % 2147483629:=Int.emod_nonneg _ (by decide)
  have z1:(a % 2147483647+40503)*69621 % 2147483629 < 2147483629:=Int.emod_lt_of_pos _ (by decide)
  generalize hz:(a % 2147483647+40503)*69621 % 2147483629=z at z0 z1;have hm:fMul z z=some (z*z):=by
   unfold fMul;rw[if_pos (.inl ⟨by omega,by omega⟩)]
  refine⟨((z*z+7817) % 2147483587*48271+11) % 2147483629 / 32 % m,(((z*z+7817) % 2147483587*48271+11) % 2147483629,b),?_,Int.emod_nonneg _ (by omega),Int.emod_lt_of_pos _ h0⟩
  have h69:∀x:Int,fMul x 69621=some (x*69621):=fun x=>by unfold fMul;rw[if_pos (.inr (by decide))]
  have h48:∀x:Int,fMul x 48271=some (x*48271):=fun x=>by unfold fMul;rw[if_pos (.inr (by decide))]
  simp[f__law_draw,acz,pen,hb,h0,h1,atI,ixN,h69,h48,hm,fMod,fDiv,hz]
structure HouseOk (m w:Int) (qv:LL9):Prop where
 one:1<=qv.length
 most:(qv.length:Int)<=m
 room:∀r∈qv,1<=r.length/\(r.length:Int)<=w/\∀x∈r,-3<=x/\x < (qv.length:Int)
def hDs(qv:LL9):List D:=qv.map fun r=>D.tup (r.map D.int)
def hD(qv:LL9):D:=.tup (hDs qv)
theorem an7(P:Int×Int)(m w:Int)(m1:1<=m)(m2:m<=10)(w1:1<=w)(w2:w<=6):∃qv P',f__law_house [.own (some 0) (pen P),.val (.int m),.val (.int w)]=some (.ok (.v (hD qv)),[.own (some 0) (pen P'),.val (.int m),.val (.int w)])/\HouseOk m w qv:=by
 obtain⟨r1,P1,e1,r1a,r1b⟩:=rm P m (by omega) (by omega)
 obtain⟨r2,P2,e2,r2a,r2b⟩:=rm P1 4 (by decide) (by decide)
 have hg:∃g:Int,atI [D.int 0,D.int 1,D.int 3,D.int 3] r2=some (.int g)/\0<=g/\g<=3:=by
  have:r2=0∨r2=1∨r2=2∨r2=3:=by omega
  rcases this with rfl | rfl | rfl | rfl
  ·exact⟨0,rfl,by decide,by decide⟩
  ·exact⟨1,rfl,by decide,by decide⟩
  ·exact⟨3,rfl,by decide,by decide⟩
  ·exact⟨3,rfl,by decide,by decide⟩
 obtain⟨g,eg,g0,g3⟩:=hg;have loop:=qi (b:=az 6) (g:=aaz) (fun i ρ=>∃qv P o1 o2,ρ=[.own (some 0) (pen P),.val (.int m),.val (.int w),.val (.int (1+r1)),.val (.int g),.own none (hDs qv),o1,o2]/\qv.length=i/\∀r∈qv,1<=r.length/\(r.length:Int)<=w/\∀x∈r,-3<=x/\x < 1+r1)
  (l:=rangeD 0 (1+r1).toNat) (ρ:=[.own (some 0) (pen P2),.val (.int m),.val (.int w),.val (.int (1+r1)),.val (.int g),.own none [],.emp,.emp]) 0 ⟨[],P2,.emp,.emp,rfl,rfl,by simp⟩ ?_
 ·obtain⟨ρ',e3,qv,P3,o1,o2,rfl,hl,hr⟩:=loop;have hl:qv.length=(1+r1).toNat:=by simpa[rangeD] using hl
  refine⟨qv,P3,?_,by omega,by omega,fun r h =>?_⟩
  ·have hb:(1+r1).natAbs < 4611686018427387904:=by omega
   simp[f__law_house,ae3,e1,e2,eg,hb,e3,hD]
  ·obtain⟨a,b,c⟩:=hr r h;exact⟨a,b,fun x hx=>by have:=c x hx;omega⟩
 ·rintro i d ρ hd ⟨qv,P4,o1,o2,rfl,hl,hr⟩
  obtain⟨r5,P5,e5,r5a,r5b⟩:=rm P4 w (by omega) (by omega)
  have comp:=mz (b:=az 0) (mc:=ret true) (me:=aba) (fun j ys ρ=>∃ns P o,ρ=[o,.own (some 1) (pen P),.val (.int (1+r1)),.val (.int g)]/\ys=ns.map D.int/\ns.length=j/\∀x∈ns,-3<=x/\x < 1+r1)
   (l:=rangeD 0 (1+r5).toNat) (ys:=[]) (ρ:=[.emp,.own (some 1) (pen P5),.val (.int (1+r1)),.val (.int g)]) 0 ⟨[],P5,.emp,rfl,rfl,rfl,by simp⟩ ?_
  ·obtain⟨ys,ρ',e6,ns,P6,o,rfl,rfl,hn,hx⟩:=comp;have hn:ns.length=(1+r5).toNat:=by simpa[rangeD] using hn
   have hb:(1+r5).natAbs < 4611686018427387904:=by omega
   have hc1:ns.length<=capS:=bc (by omega)
   have hi:i < (1+r1).toNat:=by
    have:=(List.getElem?_eq_some_iff.mp hd).1
    simpa[rangeD] using this
   have hc2:(hDs qv).length < capS:=by simp[hDs,capS];omega
   refine⟨_,[.own (some 0) (pen P6),.val (.int m),.val (.int w),.val (.int (1+r1)),.val (.int g),.own none (hDs (qv++[ns])),.val d,.val (.int (1+r5))],rfl,.inl (by simp[aaz,e5,hb,e6,hc1,hc2];simp[hDs]),qv++[ns],P6,_,_,rfl,by simp[hl],fun r h =>?_⟩
   rcases List.mem_append.mp h with h | h
   ·exact hr r h
   ·obtain rfl:r=ns:=by simpa using h
    exact⟨by omega,by omega,hx⟩
  ·rintro j d ys ρ hd ⟨ns,P6,o,rfl,rfl,hn,hx⟩
   obtain⟨r7,P7,e7,r7a,r7b⟩:=rm P6 (1+r1+g) (by omega) (by omega)
   refine⟨_,_,true,rfl,rfl,.inr ⟨rfl,.int (r7 - g),_,by simp[aba,e7];rfl,ns++[r7 - g],P7,_,rfl,by simp,by simp[hn],fun x h =>?_⟩⟩
   rcases List.mem_append.mp h with h | h
   ·exact hx x h
   ·obtain rfl:x=r7 - g:=by simpa using h
    omega
@[simp] theorem aes(d:D):j8 [.val d]=some (.ok (.v (.bl (aiw d))),[.val d]):=by
 cases d <;> simp[j8,aey,isTy,aiw]
structure Hs (qv:LL9):Prop where
 one:1<=qv.length
 most:qv.length<=10
 room:∀r∈qv,1<=r.length/\r.length<=6/\∀x∈r,-3<=x/\x < (qv.length:Int)
def dr(qv:LL9)(x:Int):List Int:=qv.getD x.toNat []
inductive Rch (qv:LL9) (a:Int):Int->Prop
 | base:Rch qv a a
 | step {x d:Int}:Rch qv a x->0<=x->d∈dr qv x->Rch qv a d
theorem alp{qv:LL9}{x:Int}(h0:0<=x)(h1:x < (qv.length:Int)):atI (hDs qv) x=some (.tup ((dr qv x).map D.int)):=by
 have hk:x.toNat < qv.length:=by omega
 have q:atI (hDs qv) ((x.toNat:Nat):Int)=some (.tup ((dr qv x).map D.int)):=alq (by simp[hDs,dr,List.getElem?_eq_getElem hk])
 rw[show((x.toNat:Nat):Int)=x by omega] at q
 exact q
theorem Hs.dr{qv:LL9}(h:Hs qv){x:Int}(h0:0<=x)(h1:x < (qv.length:Int)):1<=(dr qv x).length/\(My.dr qv x).length<=6/\∀y∈My.dr qv x,-3<=y/\y < (qv.length:Int):=by
 have hk:x.toNat < qv.length:=by omega
 have e:My.dr qv x=qv[x.toNat]:=by simp[My.dr,hk]
 rw[e];exact h.room _ (List.getElem_mem hk)
theorem Rch.range{qv:LL9}(h:Hs qv){a x:Int}(ha:0<=a/\a < (qv.length:Int))(r:Rch qv a x) : -3<=x/\x < (qv.length:Int):=by
 induction r with
 | base=>omega
 | step r h0 hd ih=>exact(h.dr h0 ih.2).2.2 _ hd
theorem ajd:∀(m:Nat) (l:List Int),l.Nodup->(∀x∈l,-3<=x/\x < (m:Int) - 3)->l.length<=m
 | 0,l,_,h=>by
  cases l with
  | nil=>simp
  | cons x r=>have:=h x (List.mem_cons_self ..);omega
 | m+1,l,hn,h=>by
  have h1:(l.erase ((m:Int) - 3)).length<=m:=ajd m _ (hn.erase _) fun x hx=>by
   rw[hn.mem_erase_iff] at hx;have:=h x hx.2;have:=hx.1;omega
  have h2:l.length<=(l.erase ((m:Int) - 3)).length+1:=by
   rw[List.length_erase];split <;> omega
  omega
theorem awj{qv:LL9}(h:Hs qv){a:Int}(ha:0<=a/\a < (qv.length:Int)){ns:List Int}(hn:ns.Nodup)(hr:∀x∈ns,Rch qv a x):ns.length<=13:=by
 have:=ajd (qv.length+3) ns hn fun x hx=>by have:=Rch.range h ha (hr x hx);omega
 have:=h.most;omega
theorem anq{qv:LL9}{a:Int}{ns:List Int}(h0:a∈ns)(hc:∀x∈ns,0<=x->∀d∈dr qv x,d∈ns){x:Int}(r:Rch qv a x):x∈ns:=by
 induction r with
 | base=>exact h0
 | step r h0 hd ih=>exact hc _ ih h0 _ hd
theorem a1i{ns:List Int}{i:Nat}(h:i < ns.length):atI (ns.map D.int) (i:Int)=some (.int ns[i]):=alq (by simp[List.getElem?_eq_getElem h])
def a1n(qv:LL9)(S:Sl):Prop:=S=.val (hD qv)∨S=.own (some 0) (hDs qv)
theorem ai5{qv:LL9}(h:Hs qv){S:Sl}(hS:a1n qv S){a:Int}{ns:List Int}{i:Nat}(hi:i < ns.length)(hz:ns.length<=13)(hx:ns[i] < (qv.length:Int)) :
  jo [S,.val (.int a),.own none (ns.map D.int),.val (.int (i:Nat))]=some (.nx,[S,.val (.int a),.own none ((if 0<=ns[i] then ns++(setI (dr qv ns[i])).filter (fun d => !decide (d∈ns)) else ns).map D.int),.val (.int ((i:Nat)+1))]):=by
 have ei:=a1i hi
 by_cases h0:0<=ns[i]
 ·obtain⟨k1,k2,k3⟩:=h.dr h0 hx;have er:=alp h0 hx;have es:=aqp (ns:=dr qv ns[i]) (by omega)
  have ef:compD (az 0) yx yt ((setI (dr qv ns[i])).map D.int) [] [.emp,.own (some 1) (ns.map D.int)]=some (.ok (((setI (dr qv ns[i])).filter (fun d => !decide (d∈ns))).map D.int),zc .emp ((setI (dr qv ns[i])).map D.int)::[.own (some 1) (ns.map D.int)]):=by
   rw[zx (p:=fun d=>match d with | .int k => !decide (k∈ns) | _=>false) (f:=id)]
   ·simp[List.filter_map,Function.comp_def]
   ·intro d hd;obtain⟨k,_,rfl⟩:=List.mem_map.mp hd;simp[yx,aqq]
   ·intro d hd _;simp[yt]
  have hlen:(setI (dr qv ns[i])).length<=6:=by
   unfold setI;rw[(sortI_perm _).length_eq];exact Nat.le_trans (acv _) k2
  have hc1:((setI (dr qv ns[i])).filter (fun d => !decide (d∈ns))).length<=6:=Nat.le_trans (List.length_filter_le _ _) hlen
  have hc2:ns.length+((setI (dr qv ns[i])).filter (fun d => !decide (d∈ns))).length<=capS:=bc (by omega)
  have hc3:((setI (dr qv ns[i])).filter (fun d => !decide (d∈ns))).length<=capS:=bc (by omega)
  rcases hS with rfl | rfl
  ·simp[jo,hD,ei,h0,er,es,ef,hc1,hc2,hc3]
  ·simp[jo,ei,h0,er,es,ef,hc1,hc2,hc3]
 ·simp[jo,ei,h0]
theorem ai6{qv:LL9}(h:Hs qv){S:Sl}(hS:a1n qv S){a:Int}(ha:0<=a/\a < (qv.length:Int)) :
  ∃ns:List Int,qy [S,.val (.int a)]=some (.ok (.fr (ns.map D.int)),[S,.val (.int a)])/\ns≠[]/\∀x,x∈ns↔Rch qv a x:=by
 have loop:=ab7 (c:=nj) (g:=jo)
  (fun k ρ=>∃(ns:List Int) (i:Nat),ρ=[S,.val (.int a),.own none (ns.map D.int),.val (.int (i:Nat))]/\k=20 - i/\i<=ns.length/\ns.Nodup/\a∈ns/\(∀x∈ns,Rch qv a x)/\∀j (hj:j < ns.length),j < i->0<=ns[j]->∀d∈dr qv ns[j],d∈ns)
  (fun ρ=>∃(ns:List Int) (o:Sl),ρ=[S,.val (.int a),.own none (ns.map D.int),o]/\ns≠[]/\∀x,x∈ns↔Rch qv a x) ?_ fuel 20 [S,.val (.int a),.own none ([a].map D.int),.val (.int ((0:Nat):Int))] (Nat.lt_trans (by decide) afm)
  ⟨[a],0,rfl,rfl,by simp,by simp,by simp,by simp;exact .base,fun j hj hlt=>absurd hlt (Nat.not_lt_zero _)⟩
 ·obtain⟨ρ',e,ns,o,rfl,hne,hm⟩:=loop;have e:whileD nj jo fuel [S,.val (.int a),.own none [.int a],.val (.int 0)]=some (.nx,[S,.val (.int a),.own none (ns.map D.int),o]):=e;refine⟨ns,?_,hne,hm⟩;rcases hS with rfl | rfl <;> simp[qy,aco,e]
 ·rintro k ρ ⟨ns,i,rfl,rfl,hi,hn,h0,hr,hc⟩
  have hz:=awj h ha hn hr
  by_cases hlt:i < ns.length
  ·refine .inr ⟨[S,.val (.int a),.own none (ns.map D.int),.val (.int (i:Nat))],_,20 - (i+1),?_,ai5 h hS hlt hz (Rch.range h ha (hr _ (List.getElem_mem hlt))).2,by omega,?_⟩
   ·have:(i:Int) < (ns.length:Int):=by omega
    rcases hS with rfl | rfl <;> simp[nj,this]
   ·by_cases hp:0<=ns[i]
    ·rw[if_pos hp];refine⟨_,i+1,rfl,rfl,by simp;omega,?_,List.mem_append_left _ h0,?_,?_⟩
     ·rw[List.nodup_append];refine⟨hn,List.Pairwise.sublist List.filter_sublist (an1 _),fun x hx y hy e =>?_⟩
      have:=(List.mem_filter.mp hy).2;subst e;simp[hx] at this
     ·intro x hx;rcases List.mem_append.mp hx with hx | hx
      ·exact hr x hx
      ·exact .step (hr _ (List.getElem_mem hlt)) hp ((amc _ _).mp (List.mem_filter.mp hx).1)
     ·intro j hj hji hjp d hd;have hjl:j < ns.length:=by omega
      rw[List.getElem_append_left hjl] at hjp hd;rcases Nat.lt_or_ge j i with z | z
      ·exact List.mem_append_left _ (hc j hjl z hjp d hd)
      ·have:j=i:=by omega
       subst this
       by_cases hdn:d∈ns
       ·exact List.mem_append_left _ hdn
       ·exact List.mem_append_right _ (List.mem_filter.mpr ⟨(amc _ _).mpr hd,by simp[hdn]⟩)
    ·rw[if_neg hp];refine⟨_,i+1,rfl,rfl,hlt,hn,h0,hr,?_⟩;intro j hj hji hjp d hd;rcases Nat.lt_or_ge j i with z | z
     ·exact hc j hj z hjp d hd
     ·have:j=i:=by omega
      subst this;exact absurd hjp hp
  ·refine .inl ⟨[S,.val (.int a),.own none (ns.map D.int),.val (.int (i:Nat))],?_,ns,_,rfl,List.ne_nil_of_mem h0,fun x=>⟨hr x,anq h0 fun y hy hp d hd =>?_⟩⟩
   ·have:¬(i:Int) < (ns.length:Int):=by omega
    rcases hS with rfl | rfl <;> simp[nj,this]
   ·obtain⟨j,hj,rfl⟩:=List.mem_iff_getElem.mp hy;exact hc j hj (by omega) hp d hd
open Classical in
noncomputable def caught(qv:LL9)(a:Int):Bool:=decide (∀x,Rch qv a x->0<=x)
theorem yc(qv:LL9)(a:Int):caught qv a=true↔∀x,Rch qv a x->0<=x:=by
 unfold caught;exact @decide_eq_true_iff _ (Classical.propDecidable _)
def upto(n:Nat):List Int:=(List.range n).map fun i=>((i:Nat):Int)
theorem afy(n:Nat):rangeD 0 n=(upto n).map D.int:=by
 unfold rangeD upto;rw[List.map_map];apply List.map_congr_left;intro i _;simp
theorem adg{n:Nat}{x:Int}(h:x∈upto n):0<=x/\x < (n:Int):=by
 obtain⟨i,hi,rfl⟩:=List.mem_map.mp h;have:=List.mem_range.mp hi;omega
noncomputable def ux(qv:LL9):List Int:=(upto qv.length).filter (caught qv)
theorem afp{qv:LL9}(h:Hs qv):(qv.length:Int).natAbs < 4611686018427387904:=by have:=h.most;omega
theorem ape{qv:LL9}(h:Hs qv):vf [.int (qv.length:Int)]=some (rangeD 0 qv.length):=by
 rw[ak6,if_pos (afp h),Int.toNat_natCast]
def keepI(qv:LL9)(S:List Int):List Int:=S.filter fun x=>(dr qv x).all fun d=>decide (d∈S)
theorem av7{qv:LL9}(h:Hs qv)(S:List Int){x:Int}(h0:0<=x)(h1:x < (qv.length:Int)) :
  ais [.val (.int x),.val (.lst (S.map D.int)),.val (hD qv)]=some (.ok ((dr qv x).all fun d=>decide (d∈S)),[.val (.int x),.val (.lst (S.map D.int)),.val (hD qv)]):=by
 have er:=alp h0 h1;obtain⟨k1,k2,k3⟩:=h.dr h0 h1;have ef:compD (az 0) (ret true) alg ((dr qv x).map D.int) [] [.emp,.val (.lst (S.map D.int))]=some (.ok ((dr qv x).map fun d=>.bl (decide (d∈S))),zc .emp ((dr qv x).map D.int)::[.val (.lst (S.map D.int))]):=by
  rw[j5 (f:=fun d=>match d with | .int k=>.bl (decide (k∈S)) | _=>.non)]
  ·simp
  ·intro d hd;obtain⟨k,_,rfl⟩:=List.mem_map.mp hd;simp[alg,aqq]
 have hc:(dr qv x).length<=capS:=bc (by omega)
 have hb:boolsD ((dr qv x).map fun d=>D.bl (decide (d∈S)))=some ((dr qv x).map fun d=>decide (d∈S)):=aln _ _
 simp[ais,hD,er,ef,hc,hb,Function.comp_def]
theorem aox{qv:LL9}(h:Hs qv)(S:List Int)(hS:∀x∈S,0<=x/\x < (qv.length:Int)) :
  compD (az 0) ais alf (S.map D.int) [] [.emp,.val (.lst (S.map D.int)),.val (hD qv)]=some (.ok ((keepI qv S).map D.int),zc .emp (S.map D.int)::[.val (.lst (S.map D.int)),.val (hD qv)]):=by
 rw[zx (p:=fun d=>match d with | .int x=>(dr qv x).all fun d=>decide (d∈S) | _=>false) (f:=id)]
 ·simp only[keepI,List.filter_map,Function.comp_def,List.map_id,List.nil_append]
 ·intro d hd;obtain⟨k,hk,rfl⟩:=List.mem_map.mp hd;exact av7 h S (hS k hk).1 (hS k hk).2
 ·intro d hd _;simp[alf]
theorem ayu{qv:LL9}(h:Hs qv){S:List Int}(hS:∀x∈S,0<=x/\x < (qv.length:Int))(hl:S.length<=10)(o:Sl) :
  ahi [.val (hD qv),.own none (S.map D.int),o]=some (.nx,[.val (hD qv),.own none ((keepI qv S).map D.int),.val (.int (S.length:Nat))]):=by
 have e:=aox h S hS;have hc:(keepI qv S).length<=capS:=bc (Nat.le_trans (List.length_filter_le _ _) (by omega))
 generalize keepI qv S=T at e hc;simp only[hD] at e ⊢
 simp[ahi,e,hc]
theorem as8{qv:LL9}{x d y:Int}(h0:0<=x)(hd:d∈dr qv x)(hy:Rch qv d y):Rch qv x y:=by
 induction hy with
 | base=>exact .step .base h0 hd
 | step r h1 hd1 ih=>exact .step ih h1 hd1
theorem aow{qv:LL9}(h:Hs qv):ajp [.val (hD qv)]=some (.ok (.v (.tup ((ux qv).map D.int))),[.val (hD qv)]):=by
 have hm:=h.most;have ul:(upto qv.length).length=qv.length:=by simp[upto]
 have e0:((upto qv.length).filter fun _=>true)=upto qv.length:=List.filter_eq_self.mpr fun _ _=>rfl
 have loop:=ab7 (c:=ahm) (g:=ahi)
  (fun k ρ=>∃(p:Int->Bool) (m:Nat),ρ=[.val (hD qv),.own none (((upto qv.length).filter p).map D.int),.val (.int (m:Nat))]/\k=m/\((upto qv.length).filter p).length<=m/\(m=((upto qv.length).filter p).length->keepI qv ((upto qv.length).filter p)=(upto qv.length).filter p)/\∀x∈ux qv,p x=true)
  (fun ρ=>∃o,ρ=[.val (hD qv),.own none ((ux qv).map D.int),o]) ?_ fuel (qv.length+1) [.val (hD qv),.own none (((upto qv.length).filter fun _=>true).map D.int),.val (.int ((qv.length+1:Nat):Int))] (Nat.lt_trans (show qv.length+1 < 100000 by omega) afm)
  ⟨fun _=>true,qv.length+1,rfl,rfl,by rw[e0,ul];omega,fun z=>by rw[e0,ul] at z;omega,fun _ _=>rfl⟩
 ·obtain⟨ρ',e,o,rfl⟩:=loop;rw[e0] at e;have hb:vf [.int (qv.length:Int)]=some (rangeD 0 qv.length):=ape h;have hb':qv.length < 1000000:=by omega
  have hl:(hDs qv).length=qv.length:=by simp[hDs]
  have er:=afy qv.length;have hcast:((qv.length+1:Nat):Int)=(qv.length:Int)+1:=by omega
  rw[hcast] at e;simp only[hD] at e ⊢
  simp[ajp,avj,hl,hb',er,ul,e]
 ·rintro k ρ ⟨p,m,rfl,hkm,hle,hcl,hp⟩
  subst hkm;have hS:∀x∈(upto qv.length).filter p,0<=x/\x < (qv.length:Int):=fun x hx=>adg (List.mem_filter.mp hx).1
  have hl:((upto qv.length).filter p).length<=10:=Nat.le_trans (List.length_filter_le _ _) (by omega)
  by_cases hlt:((upto qv.length).filter p).length < k
  ·refine .inr ⟨_,_,((upto qv.length).filter p).length,?_,ayu h hS hl (.val (.int (k:Nat))),hlt,(fun x=>((dr qv x).all fun d=>decide (d∈(upto qv.length).filter p))&&p x),((upto qv.length).filter p).length,?_,rfl,?_,?_,?_⟩
   ·generalize (upto qv.length).filter p=S at hlt;have:(S.length:Int) < (k:Int):=by omega
    simp[ahm,this]
   ·unfold keepI;rw[List.filter_filter]
   ·rw[<-List.filter_filter];exact List.length_filter_le _ _
   ·rw[<-List.filter_filter];intro z;have:keepI qv ((upto qv.length).filter p)=(upto qv.length).filter p:=List.filter_eq_self.mpr fun a ha=>by
     by_cases q:((dr qv a).all fun d=>decide (d∈(upto qv.length).filter p))=true
     ·exact q
     ·exfalso;have:(((upto qv.length).filter p).filter fun x=>(dr qv x).all fun d=>decide (d∈(upto qv.length).filter p)).length < ((upto qv.length).filter p).length:=List.length_filter_lt_length_iff_exists.mpr ⟨a,ha,by simpa using q⟩
      omega
    show keepI qv (keepI qv ((upto qv.length).filter p))=keepI qv ((upto qv.length).filter p);rw[this,this]
   ·intro x hx;rw[Bool.and_eq_true];refine⟨List.all_eq_true.mpr fun d hd=>decide_eq_true ?_,hp x hx⟩
    obtain⟨x1,x2⟩:=List.mem_filter.mp hx;have hx0:=adg x1;have hd0:0<=d:=(yc qv x).mp x2 d (.step .base hx0.1 hd);have hd1:=((h.dr hx0.1 hx0.2).2.2 d hd).2;have du:d∈upto qv.length:=by
     unfold upto;exact List.mem_map.mpr ⟨d.toNat,List.mem_range.mpr (by omega),by omega⟩
    have dt:d∈ux qv:=List.mem_filter.mpr ⟨du,(yc qv d).mpr fun y hy=>(yc qv x).mp x2 y (as8 hx0.1 hd hy)⟩
    exact List.mem_filter.mpr ⟨du,hp d dt⟩
  ·refine .inl ⟨[.val (hD qv),.own none (((upto qv.length).filter p).map D.int),.val (.int (k:Nat))],?_,.val (.int (k:Nat)),?_⟩
   ·generalize (upto qv.length).filter p=S at hlt;have:¬(S.length:Int) < (k:Int):=by omega
    simp[ahm,this]
   ·have hk:=hcl (by omega)
    have:(upto qv.length).filter p=ux qv:=by
     unfold ux;refine List.filter_congr fun x hx =>?_
     by_cases c:caught qv x=true
     ·rw[c];exact hp x (List.mem_filter.mpr ⟨hx,c⟩)
     ·have:p x=false:=by
       cases q:p x with
       | false=>rfl
       | true =>
        exfalso;refine c ((yc qv x).mpr fun y hy =>?_)
        have:y∈(upto qv.length).filter p:=by
         induction hy with
         | base=>exact List.mem_filter.mpr ⟨hx,q⟩
         | step r h0 hd ih =>
          rw[<-hk] at ih;have:=List.all_eq_true.mp (List.mem_filter.mp ih).2 _ hd
          simpa using this
        exact(hS y this).1
      rw[this]
      simpa using c
    rw[this]
theorem HouseOk.hs{m w:Int}{qv:LL9}(h:HouseOk m w qv)(hm:m<=10)(hw:w<=6):Hs qv :=
 ⟨h.one,by have:=h.most;omega,fun r hr=>by obtain⟨a,b,c⟩:=h.room r hr;exact⟨a,by omega,c⟩⟩
theorem afx{n d:Nat}{k:Int}(h0:0<=k):HT.sIx n d (some k)=min k.toNat n:=by
 show(if k < 0 then (k+(n:Int)).toNat else min k.toNat n)=_
 rw[if_neg (by omega)]
theorem a1d{ns:List Int}{k:Int}(h0:0<=k)(h1:k < (ns.length:Int)):cutD (ns.map D.int) none (some k)=(ns.take k.toNat).map D.int:=by
 unfold cutD;rw[afx h0,List.length_map,List.map_take];have:HT.sIx ns.length 0 none=0:=rfl;rw[this,Nat.min_eq_left (by omega),Nat.sub_zero,List.drop_zero]
theorem auo{ns:List Int}{k:Int}(h0:0<=k)(h1:k<=(ns.length:Int)):cutD (ns.map D.int) (some k) none=(ns.drop k.toNat).map D.int:=by
 unfold cutD;rw[afx h0,List.length_map,List.map_drop];have:HT.sIx ns.length ns.length none=ns.length:=rfl;rw[this,Nat.min_eq_left (by omega)]
 exact List.take_of_length_le (by simp)
def bend(r:List Int)(k:Nat)(x:Int):List Int:=r.take k++[x]++r.drop (k+1)
theorem as6(qv:LL9)(j:Nat)(r:List Int):(hDs qv).set j (.tup (r.map D.int))=hDs (qv.set j r):=by
 simp[hDs,List.map_set]
theorem Hs.set{qv:LL9}(h:Hs qv)(j:Nat){r:List Int}(hr:1<=r.length/\r.length<=6/\∀x∈r,-3<=x/\x < (qv.length:Int)):Hs (qv.set j r) :=
 ⟨by rw[List.length_set];exact h.one,by rw[List.length_set];exact h.most,fun q hq=>by
  rw[List.length_set];rcases List.mem_or_eq_of_mem_set hq with z | rfl
  ·exact h.room q z
  ·exact hr⟩
def Opn(qv:LL9)(a:Int):Prop:=∃x,Rch qv a x/\x < 0
theorem alh{qv:LL9}{k:Int}(h0:0<=k)(h1:k < (qv.length:Int))(r:List Int):dr (qv.set k.toNat r) k=r:=by
 have:k.toNat < qv.length:=by omega
 simp[dr,this]
theorem aq6{qv:LL9}{k y:Int}(h0:0<=k)(hy:0<=y)(hne:y≠k)(r:List Int):dr (qv.set k.toNat r) y=dr qv y:=by
 have:k.toNat≠y.toNat:=by omega
 simp[dr,List.getElem?_set,this]
theorem awi{qv:LL9}{k a y:Int}(h0:0<=k)(r:List Int)(h:Rch qv a y):Rch (qv.set k.toNat r) a y∨Rch qv k y:=by
 induction h with
 | base=>exact .inl .base
 | step p hp hd ih =>
  rename_i x d;rcases ih with ih | ih
  ·by_cases e:x=k
   ·subst e;exact .inr (.step .base hp hd)
   ·exact .inl (.step ih hp (by rw[aq6 h0 hp e];exact hd))
  ·exact .inr (.step ih hp hd)
theorem apq{qv:LL9}(h:Hs qv){W:Nat}(hW:∀r∈qv,r.length<=W)(P:Int×Int){A B o:Sl}{k:Int}(h0:0<=k)(h1:k < (qv.length:Int)) :
  ∃rooms' P' o',l1__law_open [.own (some 0) (pen P),A,B,.own none (hDs qv),.val (.int k),o]=some (.nx,[.own (some 0) (pen P'),A,B,.own none (hDs rooms'),.val (.int k),o'])/\Hs rooms'/\(∀r∈rooms',r.length<=W)/\rooms'.length=qv.length/\Opn rooms' k/\∀a,Opn qv a->Opn rooms' a:=by
 obtain⟨ns,e,hne,hm⟩:=ai6 h (S:=.own (some 0) (hDs qv)) (.inr rfl) ⟨h0,h1⟩;have em:=aue hne
 by_cases z:0<=minI ns
 ·have hcaught:∀x,Rch qv k x->0<=x:=fun x hx=>(amb hne).mp z x ((hm x).mpr hx)
  obtain⟨a1,a2,a3⟩:=h.dr h0 h1;have er:=alp h0 h1;have aw:=hW (dr qv k) (by
   have hk:k.toNat < qv.length:=by omega
   unfold dr;rw[List.getD_eq_getElem?_getD,List.getElem?_eq_getElem hk];exact List.getElem_mem hk)
  generalize hrow:dr qv k=r at a1 a2 a3 er aw;obtain⟨r1,P1,e1,r1a,r1b⟩:=rm P r.length (by omega) (by omega)
  obtain⟨r2,P2,e2,r2a,r2b⟩:=rm P1 3 (by decide) (by decide)
  have c1:=a1d (ns:=r) r1a r1b;have c2:=auo (ns:=r) (k:=r1+1) (by omega) (by omega)
  have hk:(r1+1).toNat=r1.toNat+1:=by omega
  rw[hk] at c2;have ix:ixN (hDs qv).length k=some k.toNat:=by
   have hl:(hDs qv).length=qv.length:=by simp[hDs]
   rw[hl];unfold ixN;simp[h0,h1]
  have k1:(r.take r1.toNat).length<=6:=by rw[List.length_take];omega
  have k2:(r.drop (r1.toNat+1)).length<=6:=by rw[List.length_drop];omega
  have k3:(r.take r1.toNat).length+1<=capS:=bc (by omega)
  have k4:(r.take r1.toNat).length+1+(r.drop (r1.toNat+1)).length<=capS:=bc (by omega)
  have hin:(-1 - r2)∈bend r r1.toNat (-1 - r2):=by simp[bend]
  refine⟨qv.set k.toNat (bend r r1.toNat (-1 - r2)),P2,.val (.int r1),?_,h.set _ ?_,fun q hq =>?_,List.length_set,⟨-1 - r2,.step .base h0 (by rw[alh h0 h1];exact hin),by omega⟩,fun a ⟨x,hx,hx0⟩ =>?_⟩
  ·rw[<-as6];unfold bend;generalize r.take r1.toNat=ta at c1 k3 k4;generalize r.drop (r1.toNat+1)=td at c2 k4;simp[l1__law_open,e,em,z,er,e1,e2,c1,c2,k3,k4,ix]
  ·refine⟨by simp[bend];omega,by simp[bend];omega,fun x hx =>?_⟩
   have:=h.one;unfold bend at hx;rcases List.mem_append.mp hx with hx | hx
   ·rcases List.mem_append.mp hx with hx | hx
    ·exact a3 x (List.mem_of_mem_take hx)
    ·rw[List.mem_singleton] at hx;omega
   ·exact a3 x (List.mem_of_mem_drop hx)
  ·rcases List.mem_or_eq_of_mem_set hq with z | rfl
   ·exact hW q z
   ·simp[bend];omega
  ·rcases awi h0 (bend r r1.toNat (-1 - r2)) hx with q | q
   ·exact⟨x,q,hx0⟩
   ·have:=hcaught x q;omega
 ·refine⟨qv,P,o,by simp[l1__law_open,e,em,z],h,hW,rfl,?_,fun _ x=>x⟩
  have:¬ ∀y∈ns,0<=y:=fun w=>z ((amb hne).mpr w)
  apply Classical.byContradiction;intro w;refine this fun y hy =>?_
  rcases Int.lt_or_le y 0 with q | q
  ·exact absurd ⟨y,(hm y).mp hy,q⟩ w
  ·exact q
theorem alx{qv:LL9}(h:∀a,0<=a->a < (qv.length:Int)->Opn qv a):ux qv=[]:=by
 unfold ux;refine List.filter_eq_nil_iff.mpr fun a ha hc =>?_
 obtain⟨x,hx,hx0⟩:=h a (adg ha).1 (adg ha).2;have:=(yc qv a).mp hc x hx;omega
theorem open_spec(P:Int×Int)(m w:Int)(m1:1<=m)(m2:m<=10)(w1:1<=w)(w2:w<=6):∃qv P',f__law_open [.own (some 0) (pen P),.val (.int m),.val (.int w)]=some (.ok (.v (hD qv)),[.own (some 0) (pen P'),.val (.int m),.val (.int w)])/\Hs qv/\ux qv=[]/\(qv.length:Int)<=m/\∀r∈qv,r.length<=w.toNat:=by
 obtain⟨qv,P1,e1,ho⟩:=an7 P m w m1 m2 w1 w2;have h:=ho.hs m2 w2;have loop:=qi (b:=az 4) (g:=l1__law_open) (fun i ρ=>∃rs P o1 o2,ρ=[.own (some 0) (pen P),.val (.int m),.val (.int w),.own none (hDs rs),o1,o2]/\Hs rs/\(∀r∈rs,r.length<=w.toNat)/\rs.length=qv.length/\∀a:Int,0<=a->a < (i:Int)->Opn rs a)
  (l:=rangeD 0 qv.length) (ρ:=[.own (some 0) (pen P1),.val (.int m),.val (.int w),.own none (hDs qv),.emp,.emp]) 0 ⟨qv,P1,.emp,.emp,rfl,h,fun r hr=>by have:=(ho.room r hr).2.1;omega,rfl,fun a x y=>by omega⟩ ?_
 ·obtain⟨ρ',e2,rs,P2,o1,o2,rfl,hs,hw,hl,hop⟩:=loop;refine⟨rs,P2,?_,hs,alx fun a x y=>hop a x (by simp[rangeD];omega),by rw[hl];exact ho.most,hw⟩
  have hl0:(hDs qv).length=qv.length:=by simp[hDs]
  have hb':qv.length < 4611686018427387904:=by simpa using afp h
  simp[f__law_open,agd,e1,hD,hl0,hb',e2]
 ·rintro i d ρ hd ⟨rs,P3,o1,o2,rfl,hs,hw,hl,hop⟩
  rw[afy,List.getElem?_map] at hd;obtain⟨k,hk,rfl⟩:=Option.map_eq_some_iff.mp hd;have hk':=adg (List.mem_of_getElem? hk);have hki:k=(i:Int):=by
   unfold upto at hk;rw[List.getElem?_map] at hk;obtain⟨j,hj,rfl⟩:=Option.map_eq_some_iff.mp hk;have hlt:i < qv.length:=by
    have:=(List.getElem?_eq_some_iff.mp hj).1
    simpa using this
   rw[List.getElem?_range hlt] at hj;cases hj;rfl
  obtain⟨rs',P4,o',e3,hs',hw',hl',h5,h6⟩:=apq hs hw P3 (A:=.val (.int m)) (B:=.val (.int w)) (o:=o2) hk'.1 (by rw[hl];exact hk'.2)
  refine⟨[.own (some 0) (pen P3),.val (.int m),.val (.int w),.own none (hDs rs),.val (.int k),o2],_,rfl,.inl e3,rs',P4,_,_,rfl,hs',hw',hl'.trans hl,fun a x y =>?_⟩
  by_cases q:a=k
  ·rw[q];exact h5
  ·exact h6 a (hop a x (by omega))
theorem aae(qv:LL9):(hDs qv).length=qv.length:=by simp[hDs]
structure Arr (qv:LL9) (as:List Int):Prop where
 len:as.length=qv.length
 ok:∀(i:Nat) (a:Int) (r:List Int),as[i]? = some a->qv[i]? = some r->0<=a/\a < (r.length:Int)
def ar(as:List Int)(x:Int):Int:=as.getD x.toNat 0
theorem Arr.at{qv:LL9}{as:List Int}(h:Arr qv as){x:Int}(h0:0<=x)(h1:x < (qv.length:Int)):0<=ar as x/\ar as x < ((dr qv x).length:Int):=by
 have hk:x.toNat < qv.length:=by omega
 have hk2:x.toNat < as.length:=by rw[h.len];exact hk
 have:=h.ok x.toNat as[x.toNat] qv[x.toNat] (List.getElem?_eq_getElem hk2) (List.getElem?_eq_getElem hk)
 simpa[ar,dr,hk,hk2] using this
theorem av6{qv:LL9}{y:Int}(y0:0<=y)(y1:y < (qv.length:Int))(h:∀z,Rch qv y z->0<=z):y∈ux qv:=List.mem_filter.mpr ⟨by
 unfold upto;exact List.mem_map.mpr ⟨y.toNat,List.mem_range.mpr (by omega),by omega⟩,(yc qv y).mpr h⟩
abbrev Rw:=Nat->Int
def lap(c:Nat)(F:List Rw->Int):List Rw->List Rw->Int
 | _,[]=>0
 | pre,r::rs=>r c*F (pre++rs) - lap c F (pre++[r]) rs
def det:List Nat->List Rw->Int
 | [],[]=>1
 | [],_::_=>0
 | c::cs,rows=>lap c (det cs) [] rows
def SW(F:List Rw->Int):Prop:=∀p a b q,F (p++a::b::q) = - F (p++b::a::q)
theorem aqf{c:Nat}{F:List Rw->Int}(hF:SW F)(a b:Rw):∀(q p1 p2:List Rw),lap c F (p1++a::b::p2) q = - lap c F (p1++b::a::p2) q
 | [],_,_=>by simp[lap]
 | r::q,p1,p2=>by
  have ih:=aqf (c:=c) hF a b q p1 (p2++[r]);have e:=hF p1 a b (p2++q);simp only[lap,List.append_assoc,List.cons_append] at ih e ⊢
  rw[ih,e,Int.mul_neg];omega
theorem ave{c:Nat}{F:List Rw->Int}(hF:SW F)(a b:Rw)(q:List Rw):∀(p pre:List Rw),lap c F pre (p++a::b::q) = - lap c F pre (p++b::a::q)
 | [],pre=>by
  have h:=aqf (c:=c) hF a b q pre [];simp only[lap,List.nil_append,List.append_assoc,List.cons_append] at h ⊢
  rw[h];omega
 | r::p,pre=>by
  have ih:=ave (c:=c) hF a b q p (pre++[r]);have e:=hF (pre++p) a b q;simp only[lap,List.append_assoc,List.cons_append] at ih e ⊢
  rw[ih,e,Int.mul_neg];omega
theorem ajx:∀cs,SW (det cs)
 | []=>fun p a b q=>by
  have e:∀x:List Rw,x≠[]->det [] x=0:=fun x hx=>by
   cases x with
   | nil=>exact absurd rfl hx
   | cons=>rfl
  rw[e _ (by simp),e _ (by simp)]
  rfl
 | c::cs=>fun p a b q=>ave (ajx cs) a b q p []
def LN(F:List Rw->Int):Prop:=∀p (x y:Int) (a b:Rw) q,F (p++(fun j=>x*a j+y*b j)::q)=x*F (p++a::q)+y*F (p++b::q)
theorem aqg{c:Nat}{F:List Rw->Int}(hF:LN F)(x y:Int)(a b:Rw):∀(q p1 p2:List Rw),lap c F (p1++(fun j=>x*a j+y*b j)::p2) q=x*lap c F (p1++a::p2) q+y*lap c F (p1++b::p2) q
 | [],_,_=>by simp[lap]
 | r::q,p1,p2=>by
  have ih:=aqg (c:=c) hF x y a b q p1 (p2++[r]);have e:=hF p1 x y a b (p2++q);simp only[lap,List.append_assoc,List.cons_append] at ih e ⊢
  rw[ih,e,Int.mul_add,Int.mul_sub,Int.mul_sub,Int.mul_left_comm,Int.mul_left_comm (r c)];omega
theorem avf{c:Nat}{F:List Rw->Int}(hF:LN F)(x y:Int)(a b:Rw)(q:List Rw):∀(p pre:List Rw),lap c F pre (p++(fun j=>x*a j+y*b j)::q)=x*lap c F pre (p++a::q)+y*lap c F pre (p++b::q)
 | [],pre=>by
  have h:=aqg (c:=c) hF x y a b q pre [];simp only[lap,List.nil_append] at h ⊢
  rw[h,Int.add_mul,Int.mul_sub,Int.mul_sub,Int.mul_assoc,Int.mul_assoc];omega
 | r::p,pre=>by
  have ih:=avf (c:=c) hF x y a b q p (pre++[r]);have e:=hF (pre++p) x y a b q;simp only[lap,List.append_assoc,List.cons_append] at ih e ⊢
  rw[ih,e,Int.mul_add,Int.mul_sub,Int.mul_sub,Int.mul_left_comm,Int.mul_left_comm (r c)];omega
theorem ajy:∀cs,LN (det cs)
 | []=>fun p x y a b q=>by
  have e:∀z:List Rw,z≠[]->det [] z=0:=fun z hx=>by
   cases z with
   | nil=>exact absurd rfl hx
   | cons=>rfl
  rw[e _ (by simp),e _ (by simp),e _ (by simp)]
  simp
 | c::cs=>fun p x y a b q=>avf (ajy cs) x y a b q p []
theorem ajz(cs:List Nat)(a:Rw):∀(q p r:List Rw),det cs (p++a::(q++a::r))=0
 | [],p,r=>by
  have:=ajx cs p a a r;simp only[List.nil_append];omega
 | x::q,p,r=>by
  have h:=ajx cs p a x (q++a::r);have ih:=ajz cs a q (p++[x]) r;simp only[List.append_assoc,List.cons_append,List.nil_append] at h ih ⊢
  rw[h,ih];rfl
theorem aq9(cs:List Nat)(a:Rw):∀(q p r:List Rw),det cs (p++(q++a::r))=det cs (p++a::(q++r))∨det cs (p++(q++a::r)) = - det cs (p++a::(q++r))
 | [],p,r=>.inl rfl
 | x::q,p,r=>by
  have h:=ajx cs p x a (q++r);have ih:=aq9 cs a q (p++[x]) r;simp only[List.append_assoc,List.cons_append,List.nil_append] at h ih ⊢
  rcases ih with e | e
  ·right;rw[e,h]
  ·left;rw[e,h];omega
def clr(x u:Int)(r k:Rw):Rw:=fun j=>x*r j+(-u)*k j
theorem aiq(C:List Nat)(k:Rw)(x:Int)(u:Rw->Int):∀(rs pre:List Rw),det C (k::(pre++rs.map fun r=>clr x (u r) r k))=x ^ rs.length*det C (k::(pre++rs))
 | [],pre=>by simp
 | r::rs,pre=>by
  have e:=ajy C (k::pre) x (-(u r)) r k (rs.map fun r=>clr x (u r) r k)
  have z:=ajz C k pre [] (rs.map fun r=>clr x (u r) r k)
  have ih:=aiq C k x u rs (pre++[r]);simp only[List.append_assoc,List.cons_append,List.nil_append,List.map_cons,List.length_cons] at e z ih ⊢
  show det C (k::(pre++(fun j=>x*r j+(-(u r))*k j)::_))=_
  rw[e,z,ih,Int.mul_zero,Int.add_zero,Int.pow_succ,Int.mul_comm (x ^ rs.length) x,Int.mul_assoc]
theorem aie{c:Nat}{F:List Rw->Int}:∀(rs pre:List Rw),(∀r∈rs,r c=0)->lap c F pre rs=0
 | [],_,_=>rfl
 | r::rs,pre,h=>by
  show r c*F (pre++rs) - lap c F (pre++[r]) rs=0;rw[h r (List.mem_cons_self ..),aie rs _ fun x hx=>h x (List.mem_cons_of_mem _ hx)]
  simp
theorem chio(c:Nat)(cs:List Nat)(k:Rw)(rs:List Rw):k c*det cs (rs.map fun r=>clr (k c) (r c) r k)=k c ^ rs.length*det (c::cs) (k::rs):=by
 have e:=aiq (c::cs) k (k c) (fun r=>r c) rs []
 rw[List.nil_append,List.nil_append] at e;rw[<-e];show _=lap c (det cs) [] (k::_);show _=k c*det cs ([]++_) - lap c (det cs) ([]++[k]) _;rw[aie]
 ·simp
 ·intro r hr;obtain⟨r0,_,rfl⟩:=List.mem_map.mp hr;show k c*r0 c+(-(r0 c))*k c=0;rw[Int.neg_mul,Int.mul_comm];omega
theorem ady(cs:List Nat)(x:Int):∀(rs pre:List Rw),det cs (pre++rs.map fun r j=>x*r j)=x ^ rs.length*det cs (pre++rs)
 | [],pre=>by simp
 | r::rs,pre=>by
  have e:=ajy cs pre x 0 r r (rs.map fun r j=>x*r j)
  have ih:=ady cs x rs (pre++[r]);have z:(fun j=>x*r j+0*r j)=fun j=>x*r j:=by funext j;simp
  rw[z] at e;simp only[List.append_assoc,List.cons_append,List.nil_append,List.map_cons,List.length_cons] at e ih ⊢
  rw[e,ih,Int.zero_mul,Int.add_zero,Int.pow_succ,Int.mul_comm (x ^ rs.length) x,Int.mul_assoc]
def Dvd(d:Int)(n:Nat)(M:Nat->Rw):Prop:=∀(is cs:List Nat),(∀i∈is,i < n)->is≠[]->d ^ (is.length - 1) ∣ det cs (is.map M)
theorem Dvd.one(n:Nat)(M:Nat->Rw):Dvd 1 n M:=fun is cs _ _=>by rw[Int.one_pow];exact Int.one_dvd _
theorem Dvd.two{d:Int}{n:Nat}{M:Nat->Rw}(h:Dvd d n M){i k:Nat}(hi:i < n)(hk:k < n)(c j:Nat):d ∣ M k c*M i j - M i c*M k j:=by
 have:=h [k,i] [c,j] (fun x hx=>by simp at hx;omega) (by simp)
 simp[det,lap] at this;have e:d ^ 1=d:=by rw[Int.pow_succ,Int.pow_zero,Int.one_mul]
 rwa[e] at this
def stM(d:Int)(k:Nat)(M:Nat->Rw):Nat->Rw:=fun i j=>if i=k then M k j else (M k k*M i j - M i k*M k j) / d
section
variable{d:Int}{n:Nat}{M:Nat->Rw}(h:Dvd d n M){k:Nat}(hk:k < n)(hd:d≠0)
include h hk hd
omit hd in
theorem ao0{i:Nat}(hi:i < n)(hne:i≠k)(j:Nat):d*stM d k M i j=M k k*M i j - M i k*M k j:=by
 unfold stM;rw[if_neg hne];exact Int.mul_ediv_cancel' (h.two hi hk k j)
theorem ahn(is:List Nat)(hi:∀i∈is,i < n)(hn:k∉is):(is.map (stM d k M)).map (fun r j=>d*r j)=(is.map M).map fun r=>clr (M k k) (r k) r (M k):=by
 rw[List.map_map,List.map_map];apply List.map_congr_left;intro i hm
 funext j
 have:=ao0 h hk (hi i hm) (fun e=>hn (e▸hm)) j
 show d*stM d k M i j=M k k*M i j+(-(M i k))*M k j;rw[this,Int.neg_mul];omega
theorem Dvd.step(hp:M k k≠0):Dvd (M k k) n (stM d k M):=fun is cs hi hne=>by
 by_cases hm:k∈is
 ·obtain⟨a,b,rfl⟩:=List.append_of_mem hm
  by_cases ha:k∈a++b
  ·-- twice
   have z:det cs ((a++k::b).map (stM d k M))=0:=by
    rw[List.map_append,List.map_cons];rcases List.mem_append.mp ha with q | q
    ·obtain⟨a1,a2,rfl⟩:=List.append_of_mem q;rw[List.map_append,List.map_cons,List.append_assoc,List.cons_append];exact ajz cs _ _ _ _
    ·obtain⟨b1,b2,rfl⟩:=List.append_of_mem q;rw[List.map_append,List.map_cons];exact ajz cs _ _ _ _
   rw[z];exact Int.dvd_zero _
  ·have hab:∀i∈a++b,i < n:=fun i q=>hi i (by
    rcases List.mem_append.mp q with q | q
    ·exact List.mem_append_left _ q
    ·exact List.mem_append_right _ (List.mem_cons_of_mem _ q))
   have e1:=ahn h hk hd (a++b) hab ha;have ek:stM d k M k=M k:=by funext j;unfold stM;rw[if_pos rfl]
   have e2:=ady cs d ((a++b).map (stM d k M)) [M k];have e3:=aiq cs (M k) (M k k) (fun r=>r k) ((a++b).map M) []
   obtain⟨q,e4⟩:=h (k::(a++b)) cs (fun i hi'=>by
    rcases List.mem_cons.mp hi' with rfl | z
    ·exact hk
    ·exact hab i z) (by simp)
   rw[e1] at e2;simp only[List.nil_append,List.cons_append,List.length_map,List.map_cons,List.length_cons,Nat.add_sub_cancel] at e2 e3 e4;rw[e3,e4] at e2;have e5:det cs (M k::(a++b).map (stM d k M))=M k k ^ (a++b).length*q:=by
    refine Int.eq_of_mul_eq_mul_left (Int.pow_ne_zero hd) ((e2.symm).trans ?_);rw[Int.mul_left_comm]
   have e6:=aq9 cs (M k) (a.map (stM d k M)) [] (b.map (stM d k M));rw[List.nil_append,List.nil_append,<-List.map_append,e5] at e6;rw[List.map_append,List.map_cons,ek,show(a++k::b).length - 1=(a++b).length by simp]
   rcases e6 with z | z
   ·exact⟨q,z⟩
   ·exact⟨-q,by rw[z,Int.mul_neg]⟩
 ·have e1:=ahn h hk hd is hi hm;have e2:=ady cs d (is.map (stM d k M)) [];have e3:=chio k cs (M k) (is.map M);obtain⟨q,e4⟩:=h (k::is) (k::cs) (fun i hi'=>by
   rcases List.mem_cons.mp hi' with rfl | z
   ·exact hk
   ·exact hi i z) (by simp)
  rw[e1] at e2;simp only[List.nil_append,List.length_map,List.map_cons,List.length_cons,Nat.add_sub_cancel] at e2 e3 e4;rw[e2,e4] at e3;have e5:M k k*det cs (is.map (stM d k M))=M k k ^ is.length*q:=by
   refine Int.eq_of_mul_eq_mul_left (show d ^ is.length≠0 from Int.pow_ne_zero hd) ?_
   rw[Int.mul_left_comm,e3,Int.mul_left_comm]
  have hl:is.length=is.length - 1+1:=by have:=List.length_pos_iff.mpr hne;omega
  rw[hl,Int.pow_succ,Int.mul_comm (M k k ^ (is.length - 1)) (M k k),Int.mul_assoc] at e5;exact⟨q,Int.eq_of_mul_eq_mul_left hp e5⟩
end
theorem akk{f:Int->Int}{m:Int}:∀{l:List Int},(∀d∈l,f d<=m)->(l.map f).sum<=m*(l.length:Int)
 | [],_=>by simp
 | d::l,h=>by
  have a:=h d (List.mem_cons_self ..);have b:=akk (l:=l) fun x hx=>h x (List.mem_cons_of_mem _ hx)
  rw[List.map_cons,List.sum_cons,List.length_cons,Int.natCast_add,Int.mul_add];simp;omega
theorem ag1{f:Int->Int}{m:Int}:∀{l:List Int},(∀d∈l,f d<=m)->m*(l.length:Int)<=(l.map f).sum->∀d∈l,f d=m
 | d::l,h,hs,x,hx=>by
  have a:=h d (List.mem_cons_self ..);have b:=akk (l:=l) fun x hx=>h x (List.mem_cons_of_mem _ hx)
  rw[List.map_cons,List.sum_cons,List.length_cons,Int.natCast_add,Int.mul_add] at hs;simp at hs;rcases List.mem_cons.mp hx with rfl | q
  ·omega
  ·exact ag1 (fun x hx=>h x (List.mem_cons_of_mem _ hx)) (by omega) x q
theorem ar8(X:Int->Int):∀n:Nat,0 < n->∃i:Int,0<=i/\i < (n:Int)/\∀j:Int,0<=j->j < (n:Int)->X j<=X i
 | 1,_=>⟨0,by omega,by omega,fun j a b=>by
  have:j=0:=by omega
  rw[this];exact Int.le_refl _⟩
 | n+2,_=>by
  obtain⟨i,i0,i1,h⟩:=ar8 X (n+1) (by omega)
  by_cases q:X i<=X ((n+1:Nat):Int)
  ·refine⟨((n+1:Nat):Int),by omega,by omega,fun j a b =>?_⟩
   by_cases e:j=((n+1:Nat):Int)
   ·rw[e];exact Int.le_refl _
   ·exact Int.le_trans (h j a (by omega)) q
  ·refine⟨i,i0,by omega,fun j a b =>?_⟩
   by_cases e:j=((n+1:Nat):Int)
   ·rw[e];omega
   ·exact h j a (by omega)
section
variable{qv:LL9}(h:Hs qv)(hop:ux qv=[])
include h hop
theorem ap8{X:Int->Int}(hg:∀d,d < 0->X d=0)(hX:∀i,0<=i->i < (qv.length:Int)->0 < X i->((dr qv i).length:Int)*X i<=((dr qv i).map X).sum)(i:Int)(i0:0<=i)(i1:i < (qv.length:Int)):X i<=0:=by
 apply Classical.byContradiction;intro hi;obtain⟨t,t0,t1,ht⟩:=ar8 X qv.length h.one;have hpos:0 < X t:=by have:=ht i i0 i1;omega
 have le:∀y,0<=y->y < (qv.length:Int)->∀d∈dr qv y,X d<=X t:=fun y y0 y1 d hd=>by
  have b:=(h.dr y0 y1).2.2 d hd;rcases Int.lt_or_le d 0 with q | q
  ·rw[hg d q];omega
  ·exact ht d q b.2
 have all:∀z,Rch qv t z->(0<=z/\z < (qv.length:Int))/\X z=X t:=fun z hz=>by
  induction hz with
  | base=>exact⟨⟨t0,t1⟩,rfl⟩
  | @step x d r _ hd ih =>
   obtain⟨⟨x0,x1⟩,e⟩:=ih;have a:=hX x x0 x1 (by omega)
   rw[e,Int.mul_comm] at a;have q:=ag1 (le x x0 x1) a d hd;have b:=(h.dr x0 x1).2.2 d hd;refine⟨⟨?_,b.2⟩,q⟩;rcases Int.lt_or_le d 0 with z | z
   ·rw[hg d z] at q;omega
   ·exact z
 have:=av6 t0 t1 fun z hz=>(all z hz).1.1
 rw[hop] at this;cases this
end
def dot:Nat->Rw->Rw->Int
 | 0,_,_=>0
 | m+1,r,y=>dot m r y+r m*y m
theorem aek(x z:Int)(a b y:Rw):∀m,dot m (fun j=>x*a j+z*b j) y=x*dot m a y+z*dot m b y
 | 0=>by simp[dot]
 | m+1=>by
  show dot m _ y+(x*a m+z*b m)*y m=x*(dot m a y+a m*y m)+z*(dot m b y+b m*y m);rw[aek x z a b y m,Int.add_mul,Int.mul_add,Int.mul_add,Int.mul_assoc,Int.mul_assoc];omega
theorem wj{a b y z:Rw}:∀m,(∀j < m,a j=b j)->(∀j < m,y j=z j)->dot m a y=dot m b z
 | 0,_,_=>rfl
 | m+1,h,g=>by
  show dot m a y+_=dot m b z+_;rw[wj m (fun j hj=>h j (by omega)) (fun j hj=>g j (by omega)),h m (by omega),g m (by omega)]
theorem abd{a y:Rw}:∀m,(∀j < m,a j*y j=0)->dot m a y=0
 | 0,_=>rfl
 | m+1,h=>by
  show dot m a y+_=0;rw[abd m fun j hj=>h j (by omega),h m (by omega)]
  rfl
theorem yu{a y:Rw}{i:Nat}:∀m,i < m->(∀j < m,j≠i->a j*y j=0)->dot m a y=a i*y i
 | m+1,hi,h=>by
  show dot m a y+a m*y m=_
  by_cases e:i=m
  ·subst e;rw[abd i fun j hj=>h j (by omega) (by omega)]
   omega
  ·rw[yu m (by omega) fun j hj=>h j (by omega),h m (by omega) (Ne.symm e)]
   omega
theorem aip{a y z:Rw}:∀m,dot m a (fun j=>y j+z j)=dot m a y+dot m a z
 | 0=>rfl
 | m+1=>by
  show dot m a _+a m*(y m+z m)=dot m a y+a m*y m+(dot m a z+a m*z m);rw[aip m,Int.mul_add];omega
def BS(M0:Nat->Rw):Nat->Int×(Nat->Rw)
 | 0=>(1,M0)
 | k+1=>((BS M0 k).2 k k,stM (BS M0 k).1 k (BS M0 k).2)
structure BJ (n m:Nat) (M0:Nat->Rw) (P:Nat->Prop) (d:Int) (M:Nat->Rw):Prop where
 pos:0 < d
 dvd:Dvd d n M
 pin:∀j,P j->j < n
 shape:∀i < n,∀j,P j->M i j=if i=j then d else 0
 back:∀y,(∀j,P j->dot m (M j) y=0)->(∀j,P j->dot m (M0 j) y=0)/\∀i,i < n->¬P i->dot m (M i) y=d*dot m (M0 i) y
theorem BJ.zero(n m:Nat)(M0:Nat->Rw):BJ n m M0 (fun _=>False) 1 M0:=⟨by decide,Dvd.one n M0,fun _ h=>h.elim,fun _ _ _ h=>h.elim,fun y _=>⟨fun j hj=>hj.elim,fun i _ _=>by rw[Int.one_mul]⟩⟩
theorem BJ.to{n m:Nat}{M0:Nat->Rw}{P Q:Nat->Prop}{d:Int}{M:Nat->Rw}(b:BJ n m M0 P d M)(h:∀j,P j↔Q j):BJ n m M0 Q d M:=by
 have:P=Q:=funext fun j=>propext (h j)
 rwa[<-this]
theorem BJ.step{n m:Nat}{M0:Nat->Rw}{P:Nat->Prop}{d:Int}{M:Nat->Rw}(b:BJ n m M0 P d M){k:Nat}(hk:k < n)(hnk:¬P k)(hp:0 < M k k):BJ n m M0 (fun j=>P j∨j=k) (M k k) (stM d k M):=by
 obtain⟨p1,p2,pin,p3,p4⟩:=b;have mul:=fun{i:Nat} (hi:i < n) (hne:i≠k) j=>ao0 p2 hk hi hne j
 have hd:d≠0:=by omega
 have st:=p2.step hk hd (by omega)
 have ek:stM d k M k=M k:=by funext j;unfold stM;rw[if_pos rfl]
 have dm:∀i,i < n->i≠k->∀y,d*dot m (stM d k M i) y=M k k*dot m (M i) y - M i k*dot m (M k) y:=fun i hi hne y=>by
  have a:=aek d 0 (stM d k M i) (stM d k M i) y m;have c:=aek (M k k) (-(M i k)) (M i) (M k) y m;rw[Int.zero_mul,Int.add_zero] at a;rw[<-a,Int.sub_eq_add_neg,<-Int.neg_mul,<-c];refine wj m (fun j _ =>?_) fun _ _=>rfl
  rw[Int.zero_mul,Int.add_zero,mul hi hne j,Int.neg_mul];omega
 refine⟨hp,st,fun j hj =>?_,fun i hi j hj =>?_,fun y hy =>?_⟩
 ·rcases hj with z | z
  ·exact pin j z
  ·omega
 ·by_cases hik:i=k
  ·subst hik;rw[ek]
   by_cases hjk:j=i
   ·subst hjk;rw[if_pos rfl]
   ·have hPj:P j:=hj.elim id fun z=>absurd z hjk
    rw[if_neg (Ne.symm hjk),p3 i hi j hPj,if_neg (Ne.symm hjk)]
  ·refine Int.eq_of_mul_eq_mul_left hd ?_;rw[mul hi hik j]
   by_cases hjk:j=k
   ·subst hjk;rw[if_neg hik,Int.mul_comm];omega
   ·have hPj:P j:=hj.elim id fun z=>absurd z hjk
    rw[p3 i hi j hPj,p3 k hk j hPj,if_neg (show ¬k=j from Ne.symm hjk)]
    by_cases hij:i=j
    ·rw[if_pos hij,if_pos hij,Int.mul_comm];omega
    ·rw[if_neg hij,if_neg hij];simp
 ·have hkk:dot m (M k) y=0:=by have:=hy k (.inr rfl);rwa[ek] at this
  have hj:∀j,P j->dot m (M j) y=0:=fun j hj=>by
   have hjk:j≠k:=fun e=>hnk (e▸hj)
   have a:=dm j (pin j hj) hjk y;rw[hy j (.inl hj),hkk,Int.mul_zero,Int.mul_zero,Int.sub_zero] at a;rcases Int.mul_eq_zero.mp a.symm with z | z
   ·omega
   ·exact z
  obtain⟨b1,b2⟩:=p4 y hj;refine⟨fun j hj' =>?_,fun i hi hki =>?_⟩
  ·rcases hj' with z | z
   ·exact b1 j z
   ·subst z;have:=b2 j hk hnk;rw[hkk] at this;rcases Int.mul_eq_zero.mp this.symm with z | z
    ·omega
    ·exact z
  ·have hik:i≠k:=fun e=>hki (.inr e)
   have a:=dm i hi hik y;rw[hkk,Int.mul_zero,Int.sub_zero,b2 i hi (fun z=>hki (.inl z)),Int.mul_left_comm] at a
   exact Int.eq_of_mul_eq_mul_left hd a
def dsq(qv:LL9):Nat->Rw:=fun i j=>(if i=j then ((dr qv (i:Int)).length:Int) else 0) - ((dr qv (i:Int)).count (j:Int):Int)
def xt(y:Rw)(d:Int):Int:=if d < 0 then 0 else y d.toNat
theorem ajv(y:Rw){n:Nat}:∀l:List Int,(∀d∈l,d < (n:Int))->dot n (fun j=>(l.count (j:Int):Int)) y=(l.map (xt y)).sum
 | [],_=>abd n fun j _=>by simp
 | d::l,h=>by
  have ih:=ajv y l fun x hx=>h x (List.mem_cons_of_mem _ hx)
  have hd:=h d (List.mem_cons_self ..);have e:=aek 1 1 (fun j=>(l.count (j:Int):Int)) (fun j=>if d=(j:Int) then 1 else 0) y n
  rw[ih,Int.one_mul,Int.one_mul] at e;rw[List.map_cons,List.sum_cons];have e1:dot n (fun j=>(((d::l).count (j:Int):Nat):Int)) y=dot n (fun j=>1*(l.count (j:Int):Int)+1*(if d=(j:Int) then 1 else 0)) y:=by
   refine wj n (fun j _ =>?_) fun _ _=>rfl
   rw[List.count_cons]
   by_cases q:d=(j:Int)
   ·simp[q]
   ·simp[q]
  have e2:dot n (fun j=>if d=(j:Int) then 1 else 0) y=xt y d:=by
   unfold xt
   by_cases q:d < 0
   ·rw[if_pos q];exact abd n fun j _=>by rw[if_neg (by omega),Int.zero_mul]
   ·rw[if_neg q,yu (i:=d.toNat) n (by omega) fun j _ hj=>by rw[if_neg (by omega),Int.zero_mul],if_pos (by omega),Int.one_mul]
  rw[e1,e,e2];omega
section
variable{qv:LL9}(h:Hs qv)
include h
theorem ax6(y:Rw){i:Nat}(hi:i < qv.length):dot qv.length (dsq qv i) y=((dr qv (i:Int)).length:Int)*y i - ((dr qv (i:Int)).map (xt y)).sum:=by
 have e:=aek 1 (-1) (fun j=>if i=j then ((dr qv (i:Int)).length:Int) else 0) (fun j=>((dr qv (i:Int)).count (j:Int):Int)) y qv.length
 rw[ajv y _ fun d hd=>((h.dr (x:=(i:Int)) (by omega) (by omega)).2.2 d hd).2] at e
 have e1:dot qv.length (dsq qv i) y=dot qv.length (fun j=>1*(if i=j then ((dr qv (i:Int)).length:Int) else 0)+(-1)*((dr qv (i:Int)).count (j:Int):Int)) y:=by
  refine wj _ (fun j _ =>?_) fun _ _=>rfl
  unfold dsq;omega
 have e2:dot qv.length (fun j=>if i=j then ((dr qv (i:Int)).length:Int) else 0) y=((dr qv (i:Int)).length:Int)*y i:=by
  rw[yu (i:=i) _ hi fun j _ hj=>by rw[if_neg (Ne.symm hj),Int.zero_mul],if_pos rfl]
 rw[e1,e,e2];omega
variable(hop:ux qv=[])
include hop
theorem axg(y:Rw)(l:List Int):(l.map fun d => - xt y d).sum = - (l.map (xt y)).sum:=by
 induction l with
 | nil=>rfl
 | cons x l ih=>rw[List.map_cons,List.map_cons,List.sum_cons,List.sum_cons,ih];omega
open Classical in
theorem colY{M0:Nat->Rw}(hM:∀i < qv.length,∀j < qv.length,M0 i j=dsq qv i j){P:Nat->Prop}{d:Int}{M:Nat->Rw}(b:BJ qv.length (qv.length+1) M0 P d M){k:Nat}(hk:k < qv.length)(hnk:¬P k):∃Y:Rw,Y k=d/\(∀j,¬P j->j≠k->Y j=0)/\(∀i,P i->M i k = - Y i)/\(∀i,P i->((dr qv (i:Int)).length:Int)*Y i - ((dr qv (i:Int)).map (xt Y)).sum=0)/\∀i < qv.length,¬P i->((dr qv (i:Int)).length:Int)*Y i - ((dr qv (i:Int)).map (xt Y)).sum=M i k:=by
 obtain⟨p1,p2,pin,p3,p4⟩:=b;have ds:∀i,dot (qv.length+1) (M i) (fun j=>(if P j then - M j k else 0)+(if j=k then d else 0))=dot (qv.length+1) (M i) (fun j=>if P j then - M j k else 0)+M i k*d:=fun i=>by
  rw[aip,yu (i:=k) (y:=fun j=>if j=k then d else 0) _ (by omega) fun j _ hj=>by rw[if_neg hj,Int.mul_zero]]
  rw[if_pos rfl]
 obtain⟨q1,q2⟩:=p4 (fun j=>(if P j then - M j k else 0)+(if j=k then d else 0)) fun j hj=>by
  have hjn:=pin j hj;rw[ds j,yu (i:=j) _ (by omega) fun j' hj' hne=>by
   by_cases q:P j'
   ·rw[p3 j hjn j' q,if_neg (Ne.symm hne),Int.zero_mul]
   ·rw[if_neg q,Int.mul_zero],p3 j hjn j hj,if_pos rfl,if_pos hj,Int.mul_neg,Int.mul_comm]
  omega
 have q2:∀i,i < qv.length->¬P i->dot (qv.length+1) (M0 i) (fun j=>(if P j then - M j k else 0)+(if j=k then d else 0))=M i k:=fun i hi hki=>by
  have q2:=q2 i hi hki;rw[ds i,abd _ fun j' hj'=>by
   by_cases q:P j'
   ·rw[p3 i hi j' q,if_neg (fun e:i=j'=>hki (by rw[e];exact q)),Int.zero_mul]
   ·rw[if_neg q,Int.mul_zero],Int.zero_add,Int.mul_comm] at q2
  exact(Int.eq_of_mul_eq_mul_left (by omega) q2).symm
 have hPn:¬P qv.length:=fun z=>by have:=pin _ z;omega
 have lo:∀i,i < qv.length->dot (qv.length+1) (M0 i) (fun j=>(if P j then - M j k else 0)+(if j=k then d else 0))=((dr qv (i:Int)).length:Int)*((if P i then - M i k else 0)+(if i=k then d else 0)) - ((dr qv (i:Int)).map (xt fun j=>(if P j then - M j k else 0)+(if j=k then d else 0))).sum:=fun i hi=>by
  rw[<-ax6 h (fun j=>(if P j then - M j k else 0)+(if j=k then d else 0)) hi]
  show dot qv.length _ _+M0 i qv.length*((if P qv.length then - M qv.length k else 0)+(if qv.length=k then d else 0))=_
  rw[if_neg hPn,if_neg (by omega),Int.add_zero,Int.mul_zero,Int.add_zero]
  exact wj _ (fun j hj=>hM i hi j hj) fun _ _=>rfl
 refine⟨fun j=>(if P j then - M j k else 0)+(if j=k then d else 0),?_,fun j hj hjk =>?_,fun i hi =>?_,fun i hi =>?_,fun i hi hki =>?_⟩
 ·show(if P k then _ else _)+(if k=k then d else 0)=d
  rw[if_neg hnk,if_pos rfl,Int.zero_add]
 ·show(if P j then _ else _)+(if j=k then d else 0)=0
  rw[if_neg hj,if_neg hjk];rfl
 ·show M i k = - ((if P i then - M i k else 0)+(if i=k then d else 0))
  rw[if_pos hi,if_neg (fun e:i=k=>hnk (by rw[<-e];exact hi))]
  omega
 ·rw[<-lo i (pin i hi),q1 i hi]
 ·rw[<-lo i hi,q2 i hi hki]
theorem avc{M0:Nat->Rw}(hM:∀i < qv.length,∀j < qv.length,M0 i j=dsq qv i j){P:Nat->Prop}{d:Int}{M:Nat->Rw}(b:BJ qv.length (qv.length+1) M0 P d M){k:Nat}(hk:k < qv.length)(hnk:¬P k):0 < M k k/\M k k<=6*d/\∀i < qv.length,-(6*d)<=M i k/\M i k<=6*d:=by
 have p1:=b.pos;have pin:=b.pin;obtain⟨Y,Yk,Yb,m1,q1,q2⟩:=colY h hop hM b hk hnk;have hx0:∀d,d < 0->xt Y d=0:=fun d hd=>by unfold xt;rw[if_pos hd]
 have xi:∀i:Int,0<=i->xt Y i=Y i.toNat:=fun i hi=>by unfold xt;rw[if_neg (by omega)]
 have nn:∀i:Int,0<=i->i < (qv.length:Int)->0<=xt Y i:=fun i i0 i1=>by
  have:=ap8 h hop (X:=fun d => - xt Y d) (fun d hd=>by show - xt Y d=0;rw[hx0 d hd];rfl) (fun i i0 i1 hi=>by
   have hik:P i.toNat:=by
    apply Classical.byContradiction;intro z
    by_cases e:i.toNat=k
    ·rw[xi i i0,e,Yk] at hi;omega
    ·rw[xi i i0,Yb _ z e] at hi;omega
   have a:=q1 _ hik;rw[show((i.toNat:Nat):Int)=i by omega] at a
   rw[axg h hop,xi i i0,Int.mul_neg];omega) i i0 i1
  omega
 have up:∀i:Int,0<=i->i < (qv.length:Int)->xt Y i<=d:=fun i i0 i1=>by
  have:=ap8 h hop (X:=xt fun j=>Y j+(-d)) (fun d hd=>by unfold xt;rw[if_pos hd]) (fun i i0 i1 hi=>by
   have e:xt (fun j=>Y j+(-d)) i=Y i.toNat+(-d):=by unfold xt;rw[if_neg (by omega)]
   rw[e] at hi ⊢
   have hik:P i.toNat:=by
    apply Classical.byContradiction;intro z
    by_cases e:i.toNat=k
    ·rw[e,Yk] at hi;omega
    ·rw[Yb _ z e] at hi;omega
   have a:=q1 _ hik;rw[show((i.toNat:Nat):Int)=i by omega] at a
   have s:∀l:List Int,(l.map (xt Y)).sum - d*(l.length:Int)<=(l.map (xt fun j=>Y j+(-d))).sum:=fun l=>by
    induction l with
    | nil=>simp
    | cons x l ih =>
     rw[List.map_cons,List.map_cons,List.sum_cons,List.sum_cons,List.length_cons,Int.natCast_add,Int.mul_add];have:xt Y x - d<=xt (fun j=>Y j+(-d)) x:=by
      unfold xt;split
      ·omega
      ·show Y x.toNat - d<=Y x.toNat+(-d);omega
     simp;omega
   have:=s (dr qv i);rw[Int.mul_add,Int.mul_neg,Int.mul_comm _ d];omega) i i0 i1
  have e:xt (fun j=>Y j+(-d)) i=xt Y i+(-d):=by unfold xt;rw[if_neg (by omega),if_neg (by omega)]
  rw[e] at this;omega
 have sb:∀i:Nat,i < qv.length->0<=((dr qv (i:Int)).map (xt Y)).sum/\((dr qv (i:Int)).map (xt Y)).sum<=6*d:=fun i hi=>by
  obtain⟨_,l6,hb⟩:=h.dr (x:=(i:Int)) (by omega) (by omega)
  have s1:∀x∈dr qv (i:Int),0<=xt Y x/\xt Y x<=d:=fun x hx=>by
   rcases Int.lt_or_le x 0 with z | z
   ·rw[hx0 x z];omega
   ·exact⟨nn x z (hb x hx).2,up x z (hb x hx).2⟩
  have s2:=akk (f:=xt Y) (m:=d) fun x hx=>(s1 x hx).2
  have s3:d*((dr qv (i:Int)).length:Int)<=d*6:=Int.mul_le_mul_of_nonneg_left (by omega) (by omega)
  refine⟨?_,by omega⟩
  have s4:∀l:List Int,(∀x∈l,0<=xt Y x)->0<=(l.map (xt Y)).sum:=fun l=>by
   induction l with
   | nil=>intro _;simp
   | cons x l ih =>
    intro hl;rw[List.map_cons,List.sum_cons];have:=ih fun y hy=>hl y (List.mem_cons_of_mem _ hy)
    have:=hl x (List.mem_cons_self ..);omega
  exact s4 _ fun x hx=>(s1 x hx).1
 have dk:=h.dr (x:=(k:Int)) (by omega) (by omega)
 have a:=q2 k hk hnk;rw[Yk] at a;have kd:((dr qv (k:Int)).length:Int)*d<=6*d:=Int.mul_le_mul_of_nonneg_right (by omega) (by omega)
 have pos:0 < M k k:=by
  apply Classical.byContradiction;intro hneg;have:=ap8 h hop (X:=xt Y) hx0 (fun i i0 i1 hi=>by
   rw[xi i i0] at hi ⊢
   by_cases z:P i.toNat
   ·have c:=q1 _ z;rw[show((i.toNat:Nat):Int)=i by omega] at c
    omega
   ·by_cases e:i.toNat=k
    ·have c:=q2 i.toNat (by omega) z
     rw[show((i.toNat:Nat):Int)=i by omega,e] at c
     rw[e];omega
    ·rw[Yb _ z e] at hi;omega) (k:Int) (by omega) (by omega)
  rw[xi _ (by omega),Int.toNat_natCast,Yk] at this
  omega
 have sk:=sb k hk;refine⟨pos,by omega,fun i hi =>?_⟩
 by_cases z:P i
 ·rw[m1 i z];have u:=up (i:Int) (by omega) (by omega)
  have l:=nn (i:Int) (by omega) (by omega)
  rw[xi _ (by omega),Int.toNat_natCast] at u l
  omega
 ·by_cases e:i=k
  ·subst e;omega
  ·have c:=q2 i hi z;rw[Yb i z e,Int.mul_zero] at c;have:=sb i hi;omega
theorem akf{M0:Nat->Rw}(hM:∀i < qv.length,∀j < qv.length,M0 i j=dsq qv i j):∀k,k<=qv.length->BJ qv.length (qv.length+1) M0 (fun j=>j < k) (BS M0 k).1 (BS M0 k).2/\(BS M0 k).1<=6 ^ k
 | 0,_=>⟨(BJ.zero ..).to fun j=>⟨fun z=>z.elim,fun z=>by omega⟩,by show(1:Int)<=1;omega⟩
 | k+1,hk=>by
  obtain⟨a,c⟩:=akf hM k (by omega)
  obtain⟨p1,p2,_⟩:=avc h hop hM a (k:=k) (by omega) (by omega)
  refine⟨(a.step (by omega) (by omega) p1).to fun j=>by omega,?_⟩
  show(BS M0 k).2 k k<=6 ^ (k+1);rw[Int.pow_succ,Int.mul_comm];omega
theorem azk{M0:Nat->Rw}(hM:∀i < qv.length,∀j < qv.length,M0 i j=dsq qv i j){k:Nat}(b:BJ qv.length (qv.length+1) M0 (fun j=>j < k) (BS M0 k).1 (BS M0 k).2)(hk:k < qv.length):0 < (BS M0 k).2 k k/\(BS M0 k).2 k k<=6*(BS M0 k).1/\∀i < qv.length,-(6*(BS M0 k).1)<=(BS M0 k).2 i k/\(BS M0 k).2 i k<=6*(BS M0 k).1:=avc h hop hM b hk (by omega)
end
def CS(n:Nat)(M0:Nat->Rw):Nat->Int×(Nat->Rw)
 | 0=>(1,M0)
 | k+1=>((CS n M0 k).2 (n - 1 - k) (n - 1 - k),stM (CS n M0 k).1 (n - 1 - k) (CS n M0 k).2)
section
variable{qv:LL9}(h:Hs qv)(hop:ux qv=[])
include h hop
end
def rwD(m:Nat)(r:Rw):D:=.lst ((List.range m).map fun j=>.int (r j))
def mtD(n m:Nat)(M:Nat->Rw):List D:=(List.range n).map fun i=>rwD m (M i)
theorem qu(n m:Nat)(M:Nat->Rw):(mtD n m M).length=n:=by simp[mtD]
theorem afi(n m:Nat)(M:Nat->Rw):mtD (n+1) m M=mtD n m M++[rwD m (M n)]:=by unfold mtD;rw[List.range_succ,List.map_append];rfl
theorem ap3{n m:Nat}{M:Nat->Rw}{k:Nat}(hk:k < n):atI (mtD n m M) (k:Int)=some (rwD m (M k)):=by
 unfold atI;rw[ak3 (by omega) (by rw[qu];omega),Int.toNat_natCast]
 show(mtD n m M)[k]? = _;unfold mtD;rw[List.getElem?_map,List.getElem?_range hk];rfl
theorem uc{m:Nat}{r:Rw}{k:Nat}(hk:k < m):atI ((List.range m).map fun j=>D.int (r j)) (k:Int)=some (.int (r k)):=by
 unfold atI;rw[ak3 (by omega) (by simp;omega),Int.toNat_natCast]
 show((List.range m).map fun j=>D.int (r j))[k]? = _
 rw[List.getElem?_map,List.getElem?_range hk];rfl
theorem cu(m:Nat)(r:Rw):((List.range m).map fun j=>D.int (r j)).length=m:=by simp
theorem ant{k n:Nat}(hk:k < n):∃rest,rangeD (k:Int) (n - k)=.int (k:Int)::rest:=by
 obtain⟨c,hc⟩:∃c,n - k=c+1:=⟨n - k - 1,by omega⟩
 rw[hc];refine⟨(List.range c).map fun i=>.int ((k:Int)+((i+1:Nat):Int)),?_⟩
 unfold rangeD;rw[List.range_succ_eq_map,List.map_cons,List.map_map];show D.int ((k:Int)+((0:Nat):Int))::_=_;rw[show(k:Int)+((0:Nat):Int)=k by omega]
 rfl
theorem ako{n m:Nat}{M:Nat->Rw}{k:Nat}(hk:k < n)(hm:k < m)(hn:n < 1000)(h0:M k k≠0):aaq [.own (some 0) (mtD n m M),.val (.int (k:Int))]=some (.ok (.v (.int (k:Int))),[.own (some 0) (mtD n m M),.val (.int (k:Int))]):=by
 have e1:=ap3 (m:=m) (M:=M) hk;have e2:=uc (r:=M k) hm;have hl:=qu n m M;obtain⟨rest,er⟩:=ant hk;unfold rwD at e1;generalize (List.range m).map (fun j=>D.int (M k j))=rr at *
 generalize M k k=v at *;generalize mtD n m M=mm at *;have e3:acw [.own (some 0) mm,.val (.int (k:Int)),.val (.int (k:Int))]=some (.ret (.v (.int (k:Int))),[.own (some 0) mm,.val (.int (k:Int)),.val (.int (k:Int))]):=by
  simp[acw,e1,e2,h0]
 have hb:((n:Int) - (k:Int)).toNat=n - k:=by omega
 have hb1:k < 4611686018427387904:=by omega
 have hb2:n < 4611686018427387904:=by omega
 simp[aaq,ag8,hl,hb,hb1,hb2,er,ut,e3]
theorem arh(n m:Nat)(M:Nat->Rw)(hm:m<=1000):compD (az 0) (ret true) aej (mtD n m M) [] [.emp]=some (.ok (mtD n m M),zc .emp (mtD n m M)::[]):=by
 rw[j5 (f:=id)]
 ·simp
 ·intro d hd;unfold mtD at hd;obtain⟨i,_,rfl⟩:=List.mem_map.mp hd;have hl:=cu m (M i);unfold rwD;have hc:((List.range m).map fun j=>D.int (M i j)).length<=capS:=by rw[hl];exact bc hm
  generalize (List.range m).map (fun j=>D.int (M i j))=rr at *
  simp[aej,hc]
theorem ank{n m:Nat}{M:Nat->Rw}(k:Int)(hn:n<=1000)(hm:m<=1000):abz [.val (.lst (mtD n m M)),.val (.int k),.val (.int k)]=some (.ok (.fr (mtD n m M)),[.val (.lst (mtD n m M)),.val (.int k),.val (.int k)]):=by
 have e:=arh n m M hm;have hl:=qu n m M;have hc:(mtD n m M).length<=capS:=by rw[hl];exact bc hn
 generalize mtD n m M=mm at *;simp[abz,ajm,e,hc]
theorem aof{m:Nat}{k i:Nat}{M:Nat->Rw}{d:Int}(hk:k < m)(hd0:0 < d)(hd1:d < 1000000000000000000000000000000000000000000000000000000000000)(hik:i≠k)(hkk : -18446744073709551616 < M k k/\M k k < 18446744073709551616)(hic : -18446744073709551616 < M i k/\M i k < 18446744073709551616):∃q1 q2,compD (bTup 2 (dh (az 0) (dh (az 1) bNil))) (ret true) ach (ju ((List.range m).map fun j=>D.int (M i j)) ((List.range m).map fun j=>D.int (M k j))) [] [.emp,.emp,.val (rwD m (M i)),.val (rwD m (M k)),.val (.int d),.val (.int (k:Int))] =
  some (.ok ((List.range m).map fun j=>D.int (stM d k M i j)),[q1,q2,.val (rwD m (M i)),.val (rwD m (M k)),.val (.int d),.val (.int (k:Int))]):=by
 have ek:=uc (r:=M k) hk;have ei:=uc (r:=M i) hk;have comp:=mz (b:=bTup 2 (dh (az 0) (dh (az 1) bNil))) (mc:=ret true) (me:=ach) (fun j ys ρ=>∃o1 o2:Sl,ρ=[o1,o2,.val (rwD m (M i)),.val (rwD m (M k)),.val (.int d),.val (.int (k:Int))]/\ys=(List.range j).map fun j=>D.int (stM d k M i j))
  (l:=ju ((List.range m).map fun j=>D.int (M i j)) ((List.range m).map fun j=>D.int (M k j))) (ys:=[]) (ρ:=[.emp,.emp,.val (rwD m (M i)),.val (rwD m (M k)),.val (.int d),.val (.int (k:Int))]) 0 ⟨.emp,.emp,rfl,rfl⟩ ?_
 ·obtain⟨ys,ρ',e6,o1,o2,rfl,rfl⟩:=comp;have hz:(ju ((List.range m).map fun j=>D.int (M i j)) ((List.range m).map fun j=>D.int (M k j))).length=m:=by unfold ju;rw[List.length_zipWith,cu,cu];omega
  rw[hz,Nat.zero_add] at e6;exact⟨o1,o2,e6⟩
 ·rintro j z ys ρ hd ⟨o1,o2,rfl,rfl⟩
  have hj:j < m:=by
   rcases Nat.lt_or_ge j m with q | q
   ·exact q
   ·rw[List.getElem?_eq_none (by unfold ju;rw[List.length_zipWith,cu];omega)] at hd
    cases hd
  have ed:z=.tup [.int (M i j),.int (M k j)]:=by
   unfold ju at hd;rw[List.getElem?_zipWith,List.getElem?_map,List.getElem?_map,List.getElem?_range hj] at hd;exact(Option.some.inj hd).symm
  subst ed;have es:stM d k M i j=(M k k*M i j - M i k*M k j) / d:=by unfold stM;rw[if_neg hik]
  have fd:fDiv (M k k*M i j - M i k*M k j) d=some ((M k k*M i j - M i k*M k j) / d):=by unfold fDiv;rw[if_pos ⟨hd0,hd1⟩]
  refine⟨[.val (.int (M i j)),.val (.int (M k j)),.val (rwD m (M i)),.val (rwD m (M k)),.val (.int d),.val (.int (k:Int))],_,true,by simp,rfl,.inr ⟨rfl,.int (stM d k M i j),[.val (.int (M i j)),.val (.int (M k j)),.val (rwD m (M i)),.val (rwD m (M k)),.val (.int d),.val (.int (k:Int))],?_,_,_,rfl,?_⟩⟩
  ·rw[es];unfold rwD;generalize (List.range m).map (fun j=>D.int (M k j))=rk at *
   generalize (List.range m).map (fun j=>D.int (M i j))=ri at *
   generalize M k k=a1 at *;generalize M i j=a2 at *;generalize M i k=a3 at *;generalize M k j=a4 at *;have m1:fMul a1 a2=some (a1*a2):=by unfold fMul;rw[if_pos (.inl hkk)]
   have m2:fMul a3 a4=some (a3*a4):=by unfold fMul;rw[if_pos (.inl hic)]
   simp[ach,ek,ei,m1,m2,fd]
  ·rw[Nat.zero_add,List.range_succ,List.map_append];rfl
theorem aoe{n m:Nat}{k:Nat}{M:Nat->Rw}{d:Int}(hkn:k < n)(hk:k < m)(hn:n<=1000)(hm:m<=1000)(hd0:0 < d)(hd1:d < 1000000000000000000000000000000000000000000000000000000000000)(hcol:∀i < n,-18446744073709551616 < M i k/\M i k < 18446744073709551616):ab0 [.val (.lst (mtD n m M)),.val (.int (k:Int)),.val (.int d)]=some (.ok (.fr (mtD n m (stM d k M))),[.val (.lst (mtD n m M)),.val (.int (k:Int)),.val (.int d)]):=by
 have loop:=qi (b:=bTup 2 (dh (az 5) (dh (az 6) bNil))) (g:=ace) (fun i ρ=>∃o5 o6,ρ=[.val (.lst (mtD n m M)),.val (.int (k:Int)),.val (.int d),.val (rwD m (M k)),.own none (mtD i m (stM d k M)),o5,o6])
  (l:=aag (mtD n m M)) (ρ:=[.val (.lst (mtD n m M)),.val (.int (k:Int)),.val (.int d),.val (rwD m (M k)),.own none [],.emp,.emp]) 0 ⟨.emp,.emp,rfl⟩ ?_
 ·obtain⟨ρ',e,o5,o6,rfl⟩:=loop;rw[qz,qu,Nat.zero_add] at e;have e1:=ap3 (m:=m) (M:=M) hkn;generalize mtD n m (stM d k M)=m2 at *;generalize mtD n m M=mm at *;generalize rwD m (M k)=rk at *;simp[ab0,ajn,e1,e]
 ·rintro i z ρ hd ⟨o5,o6,rfl⟩
  rw[Nat.zero_add];obtain⟨d0,g1,rfl⟩:=uw hd;have hi:i < n:=by
   have:=(List.getElem?_eq_some_iff.mp g1).1;rwa[qu] at this
  have ed:d0=rwD m (M i):=by
   unfold mtD at g1;rw[List.getElem?_map,List.getElem?_range hi] at g1;exact(Option.some.inj g1).symm
  subst ed;refine⟨[.val (.lst (mtD n m M)),.val (.int (k:Int)),.val (.int d),.val (rwD m (M k)),.own none (mtD i m (stM d k M)),.val (.int (i:Int)),.val (rwD m (M i))],[.val (.lst (mtD n m M)),.val (.int (k:Int)),.val (.int d),.val (rwD m (M k)),.own none (mtD (i+1) m (stM d k M)),.val (.int (i:Int)),.val (rwD m (M i))],rfl,.inl ?_,_,_,rfl⟩;have hcap:(mtD i m (stM d k M)).length < capS:=by rw[qu];unfold capS;omega
  rw[afi]
  by_cases hik:i=k
  ·subst hik;have ek:stM d i M i=M i:=by funext j;unfold stM;rw[if_pos rfl]
   rw[ek];have hl:=cu m (M i);have hc:((List.range m).map fun j=>D.int (M i j)).length<=capS:=by rw[hl];exact bc hm
   unfold rwD;generalize (List.range m).map (fun j=>D.int (M i j))=rr at *
   generalize mtD i m (stM d i M)=m2 at *;generalize mtD n m M=mm at *;simp[ace,hc,hcap]
  ·obtain⟨q1,q2,e⟩:=aof (M:=M) hk hd0 hd1 hik (hcol k hkn) (hcol i hi);have l1:=cu m (M i);have l2:=cu m (M k);have l3:=cu m (stM d k M i);have hle:((List.range m).map fun j=>D.int (M i j)).length<=((List.range m).map fun j=>D.int (M k j)).length:=by rw[l1,l2];exact Nat.le_refl _
   have hc:((List.range m).map fun j=>D.int (stM d k M i j)).length<=capS:=by rw[l3];exact bc hm
   have hne:¬((i:Int)=(k:Int)):=by omega
   unfold rwD at e ⊢
   generalize (List.range m).map (fun j=>D.int (stM d k M i j))=rs at *
   generalize (List.range m).map (fun j=>D.int (M i j))=ri at *
   generalize (List.range m).map (fun j=>D.int (M k j))=rk at *
   generalize mtD i m (stM d k M)=m2 at *;generalize mtD n m M=mm at *;simp[ace,hne,hle,e,hc,hcap]
def aug(A:Nat->Rw)(n:Nat)(c:Rw):Nat->Rw:=fun i j=>if j < n then A i j else c i
theorem awh(A:Nat->Rw)(n:Nat)(c:Rw)(i:Nat):rwD (n+1) (aug A n c i)=.lst (((List.range n).map fun j=>.int (A i j))++[.int (c i)]):=by
 unfold rwD;rw[List.range_succ,List.map_append]
 congr 2
 ·apply List.map_congr_left;intro j hj;have:=List.mem_range.mp hj;unfold aug;rw[if_pos this]
 ·show[D.int (aug A n c i n)]=_;unfold aug;rw[if_neg (by omega)]
theorem au0{A:Nat->Rw}{n:Nat}{c:Rw}(hn:n<=100):∃q1 q2,compD (bTup 2 (dh (az 0) (dh (az 1) bNil))) (ret true) adw (ju (mtD n n A) ((List.range n).map fun i=>.int (c i))) [] [.emp,.emp]=some (.ok (mtD n (n+1) (aug A n c)),[q1,q2]):=by
 have comp:=mz (b:=bTup 2 (dh (az 0) (dh (az 1) bNil))) (mc:=ret true) (me:=adw) (fun j ys ρ=>∃o1 o2:Sl,ρ=[o1,o2]/\ys=mtD j (n+1) (aug A n c))
  (l:=ju (mtD n n A) ((List.range n).map fun i=>D.int (c i))) (ys:=[]) (ρ:=[.emp,.emp]) 0 ⟨.emp,.emp,rfl,rfl⟩ ?_
 ·obtain⟨ys,ρ',e6,o1,o2,rfl,rfl⟩:=comp;have hz:(ju (mtD n n A) ((List.range n).map fun i=>D.int (c i))).length=n:=by unfold ju;rw[List.length_zipWith,qu,cu];omega
  rw[hz,Nat.zero_add] at e6;exact⟨o1,o2,e6⟩
 ·rintro j z ys ρ hd ⟨o1,o2,rfl,rfl⟩
  have hj:j < n:=by
   rcases Nat.lt_or_ge j n with q | q
   ·exact q
   ·rw[List.getElem?_eq_none (by unfold ju;rw[List.length_zipWith,qu];omega)] at hd
    cases hd
  have ed:z=.tup [rwD n (A j),.int (c j)]:=by
   unfold ju mtD at hd;rw[List.getElem?_zipWith,List.getElem?_map,List.getElem?_map,List.getElem?_range hj] at hd;exact(Option.some.inj hd).symm
  subst ed;have hl:=cu n (A j);have hc:((List.range n).map fun i=>D.int (A j i)).length<=capS:=by rw[hl];exact bc (by omega)
  have hc2:((List.range n).map fun i=>D.int (A j i)).length+1<=capS:=by rw[hl];exact bc (by omega)
  refine⟨[.val (rwD n (A j)),.val (.int (c j))],_,true,by simp,rfl,.inr ⟨rfl,rwD (n+1) (aug A n c j),[.val (rwD n (A j)),.val (.int (c j))],?_,_,_,rfl,?_⟩⟩
  ·rw[awh];unfold rwD;generalize (List.range n).map (fun i=>D.int (A j i))=rr at *
   simp[adw,hc,hc2]
  ·rw[Nat.zero_add,afi]
def tops(qv:LL9)(c:Rw):Nat->Int:=fun i=>(BS (aug (dsq qv) qv.length c) qv.length).2 i qv.length
def botm(qv:LL9)(c:Rw):Int:=(BS (aug (dsq qv) qv.length c) qv.length).1
section
variable{qv:LL9}(h:Hs qv)(hop:ux qv=[])(c:Rw)
include h hop
theorem agt:∀i < qv.length,∀j < qv.length,aug (dsq qv) qv.length c i j=dsq qv i j:=fun i _ j hj=>by unfold aug;rw[if_pos hj]
theorem ar3:0 < botm qv c/\botm qv c<=60466176:=by
 obtain⟨a,b⟩:=akf h hop (agt h hop c) qv.length (Nat.le_refl _);refine⟨a.pos,Int.le_trans b ?_⟩;have:(6:Int) ^ qv.length<=6 ^ 10:=by
  have:=Nat.pow_le_pow_right (show 0 < 6 by decide) h.most
  exact_mod_cast this
 exact this
theorem ao3:ado [.val (.lst (mtD qv.length qv.length (dsq qv))),.val (.lst ((List.range qv.length).map fun i=>.int (c i)))]=some (.ok (.v (.tup [.lst ((List.range qv.length).map fun i=>.int (tops qv c i)),.int (botm qv c)])),[.val (.lst (mtD qv.length qv.length (dsq qv))),.val (.lst ((List.range qv.length).map fun i=>.int (c i)))]):=by
 have hm:=h.most;generalize hM:aug (dsq qv) qv.length c=M0;have hM0:=agt h hop c;rw[hM] at hM0;have all:=akf h hop hM0;have loop:=qi (b:=az 4) (g:=adm) (fun k ρ=>k<=qv.length->∃o4 o5,ρ=[.val (.lst (mtD qv.length qv.length (dsq qv))),.val (.lst ((List.range qv.length).map fun i=>D.int (c i))),.own none (mtD qv.length (qv.length+1) (BS M0 k).2),.val (.int (BS M0 k).1),o4,o5])
  (l:=rangeD 0 qv.length) (ρ:=[.val (.lst (mtD qv.length qv.length (dsq qv))),.val (.lst ((List.range qv.length).map fun i=>D.int (c i))),.own none (mtD qv.length (qv.length+1) M0),.val (.int 1),.emp,.emp]) 0 (fun _=>⟨.emp,.emp,rfl⟩) ?_
 ·obtain⟨ρ',e,hρ⟩:=loop;have rl:(rangeD 0 qv.length).length=qv.length:=by simp[rangeD]
  rw[rl,Nat.zero_add] at hρ;obtain⟨o4,o5,rfl⟩:=hρ (Nat.le_refl _);obtain⟨q1,q2,e1⟩:=au0 (A:=dsq qv) (n:=qv.length) (c:=c) (by omega)
  rw[hM] at e1;have ec:compD (az 0) (ret true) agi (mtD qv.length (qv.length+1) (BS M0 qv.length).2) [] [.emp,.val (.lst (mtD qv.length qv.length (dsq qv)))]=some (.ok ((List.range qv.length).map fun i=>.int (tops qv c i)),zc .emp (mtD qv.length (qv.length+1) (BS M0 qv.length).2)::[.val (.lst (mtD qv.length qv.length (dsq qv)))]):=by
   have hl:=qu qv.length qv.length (dsq qv);have et:=fun i=>uc (r:=(BS M0 qv.length).2 i) (m:=qv.length+1) (k:=qv.length) (by omega)
   have eg:∀i,((List.range (qv.length+1)).map fun j=>D.int ((BS M0 qv.length).2 i j))[qv.length]? = some (.int ((BS M0 qv.length).2 i qv.length)):=fun i=>by
    rw[List.getElem?_map,List.getElem?_range (by omega)]
    rfl
   rw[j5 (f:=fun d=>match d with | .lst l=>(l[qv.length]?).getD .non | d=>d)]
   ·congr 3
    unfold mtD;rw[List.nil_append,List.map_map];apply List.map_congr_left;intro i _;show(((List.range (qv.length+1)).map fun j=>D.int ((BS M0 qv.length).2 i j))[qv.length]?).getD .non=.int (tops qv c i)
    rw[eg i];unfold tops;rw[hM];rfl
   ·intro d hd;unfold mtD at hd;obtain⟨i,_,rfl⟩:=List.mem_map.mp hd;have k1:=et i;have k2:=eg i
    clear e1 e hρ
    unfold rwD;generalize (List.range (qv.length+1)).map (fun j=>D.int ((BS M0 qv.length).2 i j))=rr at *
    generalize mtD qv.length qv.length (dsq qv)=mm at *;simp[agi,hl,k1,k2]
  have hl1:=qu qv.length qv.length (dsq qv);have hl2:=cu qv.length c;have hle:(mtD qv.length qv.length (dsq qv)).length<=((List.range qv.length).map fun i=>D.int (c i)).length:=by rw[hl1,hl2];exact Nat.le_refl _
  have hc1:(mtD qv.length (qv.length+1) M0).length<=capS:=by rw[qu];exact bc (by omega)
  have hc2:((List.range qv.length).map fun i=>D.int (tops qv c i)).length<=capS:=by rw[cu qv.length (tops qv c)];exact bc (by omega)
  have hb:qv.length < 4611686018427387904:=by omega
  have ed:botm qv c=(BS M0 qv.length).1:=by unfold botm;rw[hM]
  rw[ed];generalize (List.range qv.length).map (fun i=>D.int (tops qv c i))=tt at *
  generalize mtD qv.length (qv.length+1) (BS M0 qv.length).2=m3 at *;generalize mtD qv.length (qv.length+1) M0=m2 at *;generalize (List.range qv.length).map (fun i=>D.int (c i))=cc at *
  generalize mtD qv.length qv.length (dsq qv)=mm at *;generalize (BS M0 qv.length).1=dn at *;simp[ado,ams,e1,hc1,hl1,hl2,hb,e,ec,hc2]
 ·rintro k z ρ hd hρ
  rw[Nat.zero_add];have hk:k < qv.length:=by
   have:=(List.getElem?_eq_some_iff.mp hd).1
   simpa[rangeD] using this
  rw[Nat.zero_add] at hρ;obtain⟨o4,o5,rfl⟩:=hρ (by omega)
  have ez:z=.int (k:Int):=by
   unfold rangeD at hd;rw[List.getElem?_map,List.getElem?_range hk] at hd;have:=(Option.some.inj hd).symm
   simpa using this
  subst ez;obtain⟨b1,b2⟩:=all k (by omega)
  obtain⟨p1,p2,p3⟩:=azk h hop hM0 b1 hk;have d0:=b1.pos;have d2:(BS M0 k).1<=60466176:=by
   have:(6:Int) ^ k<=6 ^ 10:=by
    have:=Nat.pow_le_pow_right (show 0 < 6 by decide) (show k<=10 by omega)
    exact_mod_cast this
   have e10:(6:Int) ^ 10=60466176:=by decide
   omega
  have d1:(BS M0 k).1 < 1000000000000000000000000000000000000000000000000000000000000:=by omega
  have e1:=ako (M:=(BS M0 k).2) hk (show k < qv.length+1 by omega) (by omega) (by omega)
  have e2:=ank (n:=qv.length) (m:=qv.length+1) (M:=(BS M0 k).2) (k:Int) (by omega) (by omega)
  have e3:=aoe (M:=(BS M0 k).2) hk (show k < qv.length+1 by omega) (by omega) (by omega) d0 d1 (fun i hi=>by have:=p3 i hi;omega)
  have e4:=ap3 (m:=qv.length+1) (M:=stM (BS M0 k).1 k (BS M0 k).2) hk;have e5:=uc (r:=stM (BS M0 k).1 k (BS M0 k).2 k) (show k < qv.length+1 by omega)
  have e6:stM (BS M0 k).1 k (BS M0 k).2 k k=(BS M0 k).2 k k:=by unfold stM;rw[if_pos rfl]
  rw[e6] at e5;refine⟨_,[.val (.lst (mtD qv.length qv.length (dsq qv))),.val (.lst ((List.range qv.length).map fun i=>D.int (c i))),.own none (mtD qv.length (qv.length+1) (BS M0 (k+1)).2),.val (.int (BS M0 (k+1)).1),.val (.int (k:Int)),.val (.int (k:Int))],rfl,.inl ?_,fun _=>⟨_,_,rfl⟩⟩
  show adm [.val (.lst (mtD qv.length qv.length (dsq qv))),.val (.lst ((List.range qv.length).map fun i=>D.int (c i))),.own none (mtD qv.length (qv.length+1) (BS M0 k).2),.val (.int (BS M0 k).1),.val (.int (k:Int)),o5]=some (Fl.nx,[.val (.lst (mtD qv.length qv.length (dsq qv))),.val (.lst ((List.range qv.length).map fun i=>D.int (c i))),.own none (mtD qv.length (qv.length+1) (stM (BS M0 k).1 k (BS M0 k).2)),.val (.int ((BS M0 k).2 k k)),.val (.int (k:Int)),.val (.int (k:Int))])
  unfold rwD at e4;generalize (List.range (qv.length+1)).map (fun j=>D.int (stM (BS M0 k).1 k (BS M0 k).2 k j))=rk at *
  generalize mtD qv.length (qv.length+1) (stM (BS M0 k).1 k (BS M0 k).2)=m3 at *;generalize mtD qv.length (qv.length+1) (BS M0 k).2=m2 at *;generalize (List.range qv.length).map (fun i=>D.int (c i))=cc at *
  generalize mtD qv.length qv.length (dsq qv)=mm at *;generalize (BS M0 k).2 k k=pk at *;generalize (BS M0 k).1=dk at *;simp[adm,e1,isN,e2,e3,e4,e5]
end
theorem ac4(x:Int):∀V:List Int,(V.map D.int).countP (fun y=>eqD y (.int x))=V.count x
 | []=>rfl
 | a::V=>by
  have e:=ale a x;rw[List.map_cons,List.countP_cons,ac4 x V,List.count_cons,e]
  by_cases q:a=x <;> simp[q]
theorem atq(n:Nat)(r:List Int):compD (az 0) (ret true) yr (rangeD 0 n) [] [.emp,.val (.tup (r.map D.int))]=some (.ok ((List.range n).map fun(j:Nat)=>.int (-((r.count (j:Int):Nat):Int))),zc .emp (rangeD 0 n)::[.val (.tup (r.map D.int))]):=by
 have ok:=af4 30 r;have hc:=fun x=>ac4 x r
 rw[j5 (f:=fun d=>match d with | .int k=>.int (-((r.count k:Nat):Int)) | d=>d)]
 ·unfold rangeD;rw[List.nil_append,List.map_map]
  congr 3
  apply List.map_congr_left;intro i _;simp
 ·intro d hd;unfold rangeD at hd;obtain⟨k,_,rfl⟩:=List.mem_map.mp hd;have hk:=hc (k:Int);generalize r.map D.int=vv at *;simp[yr,ok,hk,okD]
section
variable{qv:LL9}(h:Hs qv)
include h
theorem awd{i:Nat}(hi:i < qv.length)(o4:Sl):∃q4,l1_doors_square [.val (hD qv),.own none (mtD i qv.length (dsq qv)),.val (.int (i:Int)),.val (.tup ((dr qv (i:Int)).map D.int)),o4]=some (.nx,[.val (hD qv),.own none (mtD (i+1) qv.length (dsq qv)),.val (.int (i:Int)),.val (.tup ((dr qv (i:Int)).map D.int)),q4]):=by
 have hm:=h.most;have hl:=aae qv;have e1:=atq qv.length (dr qv (i:Int));have hb:qv.length < 4611686018427387904:=by omega
 have rl:((List.range qv.length).map fun(j:Nat)=>D.int (-(((dr qv (i:Int)).count (j:Int):Nat):Int))).length=qv.length:=by simp
 have hc:((List.range qv.length).map fun(j:Nat)=>D.int (-(((dr qv (i:Int)).count (j:Int):Nat):Int))).length<=capS:=by rw[rl];exact bc (by omega)
 have ix:ixN ((List.range qv.length).map fun(j:Nat)=>D.int (-(((dr qv (i:Int)).count (j:Int):Nat):Int))).length (i:Int)=some i:=by
  rw[rl,ak3 (by omega) (by omega),Int.toNat_natCast]
 have ia:((List.range qv.length).map fun(j:Nat)=>D.int (-(((dr qv (i:Int)).count (j:Int):Nat):Int)))[i]? = some (.int (-(((dr qv (i:Int)).count (i:Int):Nat):Int))):=by
  rw[List.getElem?_map,List.getElem?_range hi];rfl
 have es:((List.range qv.length).map fun(j:Nat)=>D.int (-(((dr qv (i:Int)).count (j:Int):Nat):Int))).set i (.int (-(((dr qv (i:Int)).count (i:Int):Nat):Int)+((dr qv (i:Int)).length:Int)))=(List.range qv.length).map fun j=>D.int (dsq qv i j):=by
  apply List.ext_getElem?;intro j;rw[List.getElem?_set,rl]
  by_cases hj:j < qv.length
  ·rw[List.getElem?_map,List.getElem?_map,List.getElem?_range hj]
   by_cases e:i=j
   ·subst e;rw[if_pos rfl,if_pos hj];show _=some (D.int (dsq qv i i));unfold dsq;rw[if_pos rfl]
    congr 2
    omega
   ·rw[if_neg e];show some (D.int _)=some (D.int (dsq qv i j));unfold dsq;rw[if_neg e]
    congr 2
    omega
  ·rw[if_neg (by omega),List.getElem?_eq_none (by simp;omega),List.getElem?_eq_none (by simp;omega)]
 have dl:((dr qv (i:Int)).map D.int).length=(dr qv (i:Int)).length:=List.length_map ..
 have hcap:(mtD i qv.length (dsq qv)).length < capS:=by rw[qu];unfold capS;omega
 rw[afi];unfold rwD;rw[<-es];generalize ((List.range qv.length).map fun(j:Nat)=>D.int (-(((dr qv (i:Int)).count (j:Int):Nat):Int)))=rr at *
 generalize (-(((dr qv (i:Int)).count (i:Int):Nat):Int))=v at *;generalize (dr qv (i:Int)).length=ln at *;generalize (dr qv (i:Int)).map D.int=dd at *;generalize mtD i qv.length (dsq qv)=mm at *;refine⟨.val (.lst (rr.set i (.int (v+(ln:Int))))),?_⟩;have hc':qv.length<=capS:=bc (by omega)
 have ix':ixN qv.length (i:Int)=some i:=by rw[<-rl];exact ix
 simp only[hD] at *;simp[l1_doors_square,hl,hb,e1,hc',rl,dl,ix',ia,hcap]
theorem yw:jx [.val (hD qv)]=some (.ok (.fr (mtD qv.length qv.length (dsq qv))),[.val (hD qv)]):=by
 have loop:=qi (b:=bTup 2 (dh (az 2) (dh (az 3) bNil))) (g:=l1_doors_square) (fun i ρ=>∃o2 o3 o4,ρ=[.val (hD qv),.own none (mtD i qv.length (dsq qv)),o2,o3,o4])
  (l:=aag (hDs qv)) (ρ:=[.val (hD qv),.own none [],.emp,.emp,.emp]) 0 ⟨.emp,.emp,.emp,rfl⟩ ?_
 ·obtain⟨ρ',e,o2,o3,o4,rfl⟩:=loop;rw[qz,aae,Nat.zero_add] at e;generalize mtD qv.length qv.length (dsq qv)=mm at *;simp only[hD] at *;simp[jx,acn,e]
 ·rintro i z ρ hd ⟨o2,o3,o4,rfl⟩
  rw[Nat.zero_add];obtain⟨d0,g1,rfl⟩:=uw hd;have hi:i < qv.length:=by
   have:=(List.getElem?_eq_some_iff.mp g1).1;rwa[aae] at this
  have ed:d0=.tup ((dr qv (i:Int)).map D.int):=by
   unfold hDs at g1;rw[List.getElem?_map,List.getElem?_eq_getElem hi] at g1;unfold dr;rw[Int.toNat_natCast,List.getD_eq_getElem?_getD,List.getElem?_eq_getElem hi];exact(Option.some.inj g1).symm
  subst ed;obtain⟨q4,e⟩:=awd h hi o4;exact⟨_,_,rfl,.inl e,_,_,_,rfl⟩
end
section
variable{qv:LL9}(h:Hs qv)(hop:ux qv=[])
include h hop
end
theorem am1(A:Nat->Rw)(X Y:Rw)(n:Nat):∀m,dot m (fun i=>dot n (A i) X) Y=dot n (fun j=>dot m (fun i=>A i j) Y) X
 | 0=>by
  show(0:Int)=_;rw[abd];intro j _;show(0:Int)*_=0;simp
 | m+1=>by
  show dot m _ Y+dot n (A m) X*Y m=dot n (fun j=>dot m (fun i=>A i j) Y+A m j*Y m) X
  rw[am1 A X Y n m];have e:=aek 1 (Y m) (fun j=>dot m (fun i=>A i j) Y) (A m) X n
  rw[Int.one_mul] at e;have e2:dot n (fun j=>dot m (fun i=>A i j) Y+A m j*Y m) X=dot n (fun j=>1*dot m (fun i=>A i j) Y+Y m*A m j) X:=wj n (fun j _=>by rw[Int.one_mul,Int.mul_comm (A m j)]) fun _ _=>rfl
  rw[e2,e,Int.mul_comm]
open Classical in
theorem colG{n:Nat}{A M0:Nat->Rw}(hM:∀i,i < n->∀j,j < n->M0 i j=A i j){P:Nat->Prop}{d:Int}{M:Nat->Rw}(b:BJ n (n+1) M0 P d M){k:Nat}(hk:k < n)(hnk:¬P k):∃Y:Rw,Y k=d/\(∀j,¬P j->j≠k->Y j=0)/\(∀i,P i->dot n (A i) Y=0)/\∀i,i < n->¬P i->dot n (A i) Y=M i k:=by
 obtain⟨p1,p2,pin,p3,p4⟩:=b;have ds:∀i,dot (n+1) (M i) (fun j=>(if P j then - M j k else 0)+(if j=k then d else 0))=dot (n+1) (M i) (fun j=>if P j then - M j k else 0)+M i k*d:=fun i=>by
  rw[aip,yu (i:=k) (y:=fun j=>if j=k then d else 0) _ (by omega) fun j _ hj=>by rw[if_neg hj,Int.mul_zero]]
  rw[if_pos rfl]
 obtain⟨q1,q2⟩:=p4 (fun j=>(if P j then - M j k else 0)+(if j=k then d else 0)) fun j hj=>by
  have hjn:=pin j hj;rw[ds j,yu (i:=j) _ (by omega) fun j' hj' hne=>by
   by_cases q:P j'
   ·rw[p3 j hjn j' q,if_neg (Ne.symm hne),Int.zero_mul]
   ·rw[if_neg q,Int.mul_zero],p3 j hjn j hj,if_pos rfl,if_pos hj,Int.mul_neg,Int.mul_comm]
  omega
 have q2:∀i,i < n->¬P i->dot (n+1) (M0 i) (fun j=>(if P j then - M j k else 0)+(if j=k then d else 0))=M i k:=fun i hi hki=>by
  have q2:=q2 i hi hki;rw[ds i,abd _ fun j' hj'=>by
   by_cases q:P j'
   ·rw[p3 i hi j' q,if_neg (fun e:i=j'=>hki (by rw[e];exact q)),Int.zero_mul]
   ·rw[if_neg q,Int.mul_zero],Int.zero_add,Int.mul_comm] at q2
  exact(Int.eq_of_mul_eq_mul_left (by omega) q2).symm
 have hPn:¬P n:=fun z=>by have:=pin _ z;omega
 have lo:∀i,i < n->dot (n+1) (M0 i) (fun j=>(if P j then - M j k else 0)+(if j=k then d else 0))=dot n (A i) (fun j=>(if P j then - M j k else 0)+(if j=k then d else 0)):=fun i hi=>by
  show dot n _ _+M0 i n*((if P n then - M n k else 0)+(if n=k then d else 0))=_
  rw[if_neg hPn,if_neg (by omega),Int.add_zero,Int.mul_zero,Int.add_zero]
  exact wj _ (fun j hj=>hM i hi j hj) fun _ _=>rfl
 refine⟨fun j=>(if P j then - M j k else 0)+(if j=k then d else 0),?_,fun j hj hjk =>?_,fun i hi =>?_,fun i hi hki =>?_⟩
 ·show(if P k then _ else _)+(if k=k then d else 0)=d
  rw[if_neg hnk,if_pos rfl,Int.zero_add]
 ·show(if P j then _ else _)+(if j=k then d else 0)=0
  rw[if_neg hj,if_neg hjk];rfl
 ·rw[<-lo i (pin i hi),q1 i hi]
 ·rw[<-lo i hi,q2 i hi hki]
theorem ath{n:Nat}{A M0 N0:Nat->Rw}(hM:∀i,i < n->∀j,j < n->M0 i j=A i j)(hN:∀i,i < n->∀j,j < n->N0 i j=A j i){P:Nat->Prop}{d d':Int}{M N:Nat->Rw}(b:BJ n (n+1) M0 P d M)(b':BJ n (n+1) N0 P d' N){k:Nat}(hk:k < n)(hnk:¬P k):N k k*d=M k k*d':=by
 obtain⟨X,x1,x2,x3,x4⟩:=colG hM b hk hnk;obtain⟨Y,y1,y2,y3,y4⟩:=colG (A:=fun i j=>A j i) hN b' hk hnk
 have s:=am1 A X Y n n;rw[yu (i:=k) (a:=fun i=>dot n (A i) X) n hk fun j hj hne=>by
  by_cases q:P j
  ·show dot n (A j) X*Y j=0;rw[x3 j q,Int.zero_mul]
  ·rw[y2 j q hne,Int.mul_zero],yu (i:=k) (a:=fun j=>dot n (fun i=>A i j) Y) n hk fun j hj hne=>by
  by_cases q:P j
  ·show dot n (fun i=>A i j) Y*X j=0
   rw[y3 j q,Int.zero_mul]
  ·rw[x2 j q hne,Int.mul_zero]] at s
 rw[x4 k hk hnk,y4 k hk hnk,x1,y1] at s;exact s.symm
theorem alm{n:Nat}{A M0:Nat->Rw}(hM:∀i,i < n->∀j,j < n->M0 i j=A i j){P:Nat->Prop}(hP:∀j,j < n->P j){d:Int}{M:Nat->Rw}(b:BJ n (n+1) M0 P d M)(i:Nat)(hi:i < n):dot n (A i) (fun j=>M j n)=M0 i n*d:=by
 obtain⟨p1,p2,pin,p3,p4⟩:=b;obtain⟨q1,_⟩:=p4 (fun j=>if j < n then M j n else -d) fun j hj'=>by
  have hj:=pin j hj';show dot n (M j) _+M j n*(if n < n then _ else -d)=0
  rw[if_neg (by omega),yu (i:=j) _ hj fun j' hj' hne=>by rw[p3 j hj j' (hP j' hj'),if_neg (Ne.symm hne),Int.zero_mul],p3 j hj j (hP j hj),if_pos rfl,if_pos hj,Int.mul_neg,Int.mul_comm]
  omega
 have a:=q1 i (hP i hi);have a:dot n (M0 i) _+M0 i n*(if n < n then _ else -d)=0:=a
 rw[if_neg (by omega),Int.mul_neg] at a
 have e:=wj (a:=M0 i) (b:=A i) (y:=fun j=>if j < n then M j n else -d) (z:=fun j=>M j n) n (fun j hj=>hM i hi j hj) fun j hj=>if_pos hj
 rw[e] at a;omega
def trq(qv:LL9):Nat->Rw:=fun i j=>dsq qv j i
section
variable{qv:LL9}(h:Hs qv)(hop:ux qv=[])(c:Rw)
include h hop
theorem avy:∀k,k<=qv.length->BJ qv.length (qv.length+1) (aug (trq qv) qv.length c) (fun j=>j < k) (BS (aug (trq qv) qv.length c) k).1 (BS (aug (trq qv) qv.length c) k).2/\(BS (aug (trq qv) qv.length c) k).1=(BS (aug (dsq qv) qv.length c) k).1
 | 0,_=>⟨(BJ.zero ..).to fun j=>⟨fun z=>z.elim,fun z=>by omega⟩,rfl⟩
 | k+1,hk=>by
  obtain⟨a,e⟩:=avy k (by omega)
  obtain⟨a',_⟩:=akf h hop (agt h hop c) k (by omega)
  have p:=azk h hop (agt h hop c) a' (by omega)
  have q:=ath (A:=dsq qv) (fun i hi j hj=>by unfold aug;rw[if_pos hj]) (fun i hi j hj=>by unfold aug trq;rw[if_pos hj]) a' a (k:=k) (by omega) (by omega)
  have d0:=a'.pos;rw[e] at q;have q2:(BS (aug (trq qv) qv.length c) k).2 k k=(BS (aug (dsq qv) qv.length c) k).2 k k:=by
   rw[Int.mul_comm,Int.mul_comm _ (BS (aug (dsq qv) qv.length c) k).1] at q;exact Int.eq_of_mul_eq_mul_left (by omega) q
  refine⟨(a.step (by omega) (by omega) (by rw[q2];exact p.1)).to fun j=>by omega,?_⟩
  exact q2
def topT(qv:LL9)(c:Rw):Rw:=fun i=>(BS (aug (trq qv) qv.length c) qv.length).2 i qv.length
theorem av9(i:Nat)(hi:i < qv.length):dot qv.length (fun j=>dsq qv j i) (topT qv c)=c i*botm qv c:=by
 obtain⟨a,e⟩:=avy h hop c qv.length (Nat.le_refl _);have q:=alm (A:=trq qv) (fun i hi j hj=>by unfold aug;rw[if_pos hj]) (fun j hj=>hj) a i hi
 rw[e] at q;have e2:aug (trq qv) qv.length c i qv.length=c i:=by unfold aug;rw[if_neg (by omega)]
 rw[e2] at q;exact q
end
theorem arc(cs:List Nat)(k:Rw):∀(a p r:List Rw),det cs (p++(a++k::r))=(-1) ^ a.length*det cs (p++k::(a++r))
 | [],p,r=>by simp
 | x::a,p,r=>by
  have ih:=arc cs k a (p++[x]) r;have h:=ajx cs p x k (a++r);simp only[List.append_assoc,List.cons_append,List.nil_append] at ih h ⊢
  rw[ih,h,List.length_cons,Int.pow_succ,Int.mul_assoc,Int.mul_neg,Int.neg_mul,Int.one_mul,Int.mul_neg]
theorem auk{d:Int}{n:Nat}{M:Nat->Rw}(h:Dvd d n M){k:Nat}(hk:k < n)(hd:d≠0)(cs a b:List Nat)(hi:∀i∈a++b,i < n)(hn:k∉a++b):d ^ (a++b).length*det cs ((a++k::b).map (stM d k M))=(M k k) ^ (a++b).length*det cs ((a++k::b).map M):=by
 have e1:=ahn h hk hd (a++b) hi hn;have ek:stM d k M k=M k:=by funext j;unfold stM;rw[if_pos rfl]
 have e2:=ady cs d ((a++b).map (stM d k M)) [M k];have e3:=aiq cs (M k) (M k k) (fun r=>r k) ((a++b).map M) []
 rw[e1] at e2;simp only[List.nil_append,List.cons_append,List.length_map] at e2 e3;rw[e3] at e2;have f1:=arc cs (M k) (a.map (stM d k M)) [] (b.map (stM d k M));have f2:=arc cs (M k) (a.map M) [] (b.map M);rw[List.nil_append,List.nil_append,List.length_map,<-List.map_append] at f1 f2;have g1:(a++k::b).map (stM d k M)=a.map (stM d k M)++M k::b.map (stM d k M):=by rw[List.map_append,List.map_cons,ek]
 have g2:(a++k::b).map M=a.map M++M k::b.map M:=by rw[List.map_append,List.map_cons]
 rw[g1,f1,g2,f2,Int.mul_left_comm,Int.mul_left_comm ((M k k) ^ _),e2]
theorem asy{n k:Nat}(hk:k < n):∃a b,List.range n=a++k::b/\(∀i∈a++b,i < n)/\k∉a++b/\(a++b).length=n - 1:=by
 obtain⟨a,b,e⟩:=List.append_of_mem (List.mem_range.mpr hk);have nd:=List.nodup_range (n:=n);rw[e] at nd;have l:=congrArg List.length e;refine⟨a,b,e,fun i hi =>?_,?_,?_⟩
 ·have:i∈List.range n:=by
   rw[e];rcases List.mem_append.mp hi with z | z
   ·exact List.mem_append_left _ z
   ·exact List.mem_append_right _ (List.mem_cons_of_mem _ z)
  exact List.mem_range.mp this
 ·intro z;rw[List.nodup_append] at nd;rcases List.mem_append.mp z with q | q
  ·exact nd.2.2 k q k (List.mem_cons_self ..) rfl
  ·exact(List.nodup_cons.mp nd.2.1).1 q
 ·simp at l;simp;omega
theorem am3{d:Int}{M:Nat->Rw}:∀(is:List Nat),is.Nodup->(∀i∈is,∀j∈is,M i j=if i=j then d else 0)->det is (is.map M)=d ^ is.length
 | [],_,_=>by simp[det]
 | c::cs,nd,h=>by
  show lap c (det cs) [] (M c::cs.map M)=_;show M c c*det cs ([]++cs.map M) - lap c (det cs) ([]++[M c]) (cs.map M)=_;rw[aie,List.nil_append,am3 cs (List.nodup_cons.mp nd).2 fun i hi j hj=>h i (List.mem_cons_of_mem _ hi) j (List.mem_cons_of_mem _ hj),h c (List.mem_cons_self ..) c (List.mem_cons_self ..),if_pos rfl,List.length_cons,Int.pow_succ,Int.mul_comm,Int.sub_zero]
  intro r hr;obtain⟨i,hi,rfl⟩:=List.mem_map.mp hr;rw[h i (List.mem_cons_of_mem _ hi) c (List.mem_cons_self ..),if_neg];intro e;exact(List.nodup_cons.mp nd).1 (e▸hi)
theorem amj{c:Nat}{F:List Rw->Int}{A B:Nat->Rw}:∀(q p:List Nat),(∀l:List Nat,(∀i∈l,i∈p++q)->F (l.map A)=F (l.map B))->(∀i∈q,A i c=B i c)->lap c F (p.map A) (q.map A)=lap c F (p.map B) (q.map B)
 | [],p,_,_=>rfl
 | r::q,p,hF,hc=>by
  show A r c*F (p.map A++q.map A) - lap c F (p.map A++[A r]) (q.map A)=B r c*F (p.map B++q.map B) - lap c F (p.map B++[B r]) (q.map B);have e1:=hF (p++q) fun i hi=>by
   rcases List.mem_append.mp hi with z | z
   ·exact List.mem_append_left _ z
   ·exact List.mem_append_right _ (List.mem_cons_of_mem _ z)
  have e2:=amj (c:=c) (F:=F) (A:=A) (B:=B) q (p++[r]) (fun l hl=>hF l fun i hi=>by have:=hl i hi;simpa using this) fun i hi=>hc i (List.mem_cons_of_mem _ hi)
  rw[List.map_append,List.map_append] at e1;rw[List.map_append,List.map_append] at e2;have e2:lap c F (p.map A++[A r]) (q.map A)=lap c F (p.map B++[B r]) (q.map B):=e2;rw[e1,e2,hc r (List.mem_cons_self ..)]
theorem agm:∀(cs is:List Nat) (A B:Nat->Rw),(∀i∈is,∀j∈cs,A i j=B i j)->det cs (is.map A)=det cs (is.map B)
 | [],[],_,_,_=>rfl
 | [],_::_,_,_,_=>rfl
 | c::cs,is,A,B,h=>by
  have:=amj (c:=c) (F:=det cs) (A:=A) (B:=B) is [] (fun l hl=>agm cs l A B fun i hi j hj=>h i (by simpa using hl i hi) j (List.mem_cons_of_mem _ hj)) fun i hi=>h i hi c (List.mem_cons_self ..)
  exact this
theorem aun(cs:List Nat)(A B:Nat->Rw)(h:∀i∈cs,∀j∈cs,A i j=B i j):det cs (cs.map A)=det cs (cs.map B):=agm cs cs A B h
theorem auw{n:Nat}{A:Nat->Rw}{c:Rw}(one:1<=n)(all:∀k,k<=n->BJ n (n+1) (aug A n c) (fun j=>j < k) (BS (aug A n c) k).1 (BS (aug A n c) k).2):(BS (aug A n c) n).1=det (List.range n) ((List.range n).map A):=by
 have inv:∀k,k<=n->det (List.range n) ((List.range n).map (BS (aug A n c) k).2)=(BS (aug A n c) k).1 ^ (n - 1)*det (List.range n) ((List.range n).map (aug A n c)):=fun k=>by
  induction k with
  | zero =>
   intro _;show _=(1:Int) ^ _*_;rw[Int.one_pow,Int.one_mul];rfl
  | succ k ih =>
   intro hk;have ih:=ih (by omega)
   have a:=all k (by omega)
   obtain⟨x,y,e,h1,h2,h3⟩:=asy (n:=n) (k:=k) (by omega)
   have s:=auk a.dvd (k:=k) (by omega) (by have:=a.pos;omega) (List.range n) x y h1 h2
   rw[h3,<-e,ih] at s;refine Int.eq_of_mul_eq_mul_left (a:=(BS (aug A n c) k).1 ^ (n - 1)) (Int.pow_ne_zero (by have:=a.pos;omega)) ?_
   show _*det _ ((List.range n).map (stM (BS (aug A n c) k).1 k (BS (aug A n c) k).2))=_*((BS (aug A n c) k).2 k k ^ _*_);rw[s,Int.mul_left_comm]
 have q:=inv n (Nat.le_refl _);have a:=all n (Nat.le_refl _);have d:=am3 (d:=(BS (aug A n c) n).1) (M:=(BS (aug A n c) n).2) (List.range n) List.nodup_range fun i hi j hj=>a.shape i (List.mem_range.mp hi) j (List.mem_range.mp hj)
 rw[d,List.length_range] at q;have q2:(BS (aug A n c) n).1 ^ (n - 1)*(BS (aug A n c) n).1=(BS (aug A n c) n).1 ^ (n - 1)*det (List.range n) ((List.range n).map (aug A n c)):=by
  rw[<-q,<-Int.pow_succ]
  congr 1
  omega
 have q3:=Int.eq_of_mul_eq_mul_left (Int.pow_ne_zero (by have:=a.pos;omega)) q2
 rw[q3];exact aun (List.range n) _ _ fun i _ j hj=>by unfold aug;rw[if_pos (List.mem_range.mp hj)]
theorem ait{qv:LL9}(h:Hs qv)(hop:ux qv=[])(c:Rw):botm qv c=det (List.range qv.length) ((List.range qv.length).map (dsq qv)):=auw h.one fun k hk=>(akf h hop (agt h hop c) k hk).1
def atv(qv:LL9)(g:Rw)(i:Nat):Int:=dot qv.length (fun j=>dsq qv j i) g
theorem aye(qv:LL9)(a b:Rw)(i:Nat):atv qv (fun j=>a j+b j) i=atv qv a i+atv qv b i:=aip _
theorem ayd{qv:LL9}(g:Rw){r:Nat}(hr:r < qv.length)(t:Int)(i:Nat):atv qv (fun j=>g j+if j=r then t else 0) i=atv qv g i+t*dsq qv r i:=by
 rw[aye]
 congr 1
 unfold atv;rw[yu (i:=r) _ hr fun j _ hj=>by rw[if_neg hj,Int.mul_zero],if_pos rfl,Int.mul_comm]
theorem agl{qv:LL9}(h:Hs qv){i j:Nat}(hi:i < qv.length):(dsq qv i j).natAbs<=10:=by
 have:=(h.dr (x:=(i:Int)) (by omega) (by omega)).2.1
 have c2:=List.count_le_length (a:=(j:Int)) (l:=dr qv (i:Int));unfold dsq;split <;> omega
theorem a00{qv:LL9}{i:Nat}(hi:i < qv.length):(hDs qv)[i]? = some (.tup ((dr qv (i:Int)).map D.int)):=by
 unfold hDs dr;rw[List.getElem?_map,Int.toNat_natCast,List.getD_eq_getElem?_getD,List.getElem?_eq_getElem hi];rfl
def unit(k:Nat):Rw:=fun i=>if i=k then 1 else 0
theorem ajc:∀{a b:List Nat},a.Nodup->(∀x∈a,x∈b)->a.length<=b.length
 | [],b,_,_=>Nat.zero_le _
 | x::r,b,hn,h=>by
  have hx:=h x (List.mem_cons_self ..);have h1:r.length<=(b.erase x).length:=ajc (List.Pairwise.of_cons hn) fun y hy=>by
   have hne:y≠x:=fun e=>(List.pairwise_cons.mp hn).1 y hy e.symm
   exact(List.mem_erase_of_ne hne).mpr (h y (List.mem_cons_of_mem _ hy))
  rw[List.length_erase_of_mem hx] at h1;have:=List.length_pos_of_mem hx;rw[List.length_cons];omega
inductive Sp (n:Nat) (S:Rw->Prop):Rw->Prop
 | zero {v:Rw}:(∀j,j < n->v j=0)->Sp n S v
 | add {v r w:Rw} {c:Int}:Sp n S v->S r->(∀j,j < n->w j=v j+c*r j)->Sp n S w
theorem Sp.congr{n:Nat}{S:Rw->Prop}{v w:Rw}(h:Sp n S v)(e:∀j,j < n->w j=v j):Sp n S w:=by
 cases h with
 | zero z=>exact .zero fun j hj=>by rw[e j hj,z j hj]
 | add a b c=>exact .add a b fun j hj=>by rw[e j hj,c j hj]
theorem Sp.comb{n:Nat}{S:Rw->Prop}{r:Rw}(hr:Sp n S r):∀{v w:Rw} {c:Int},Sp n S v->(∀j,j < n->w j=v j+c*r j)->Sp n S w:=by
 induction hr with
 | @zero r z =>
  intro v w c hv e;exact hv.congr fun j hj=>by rw[e j hj,z j hj,Int.mul_zero,Int.add_zero]
 | @add r0 s r d a b hs ih =>
  intro v w c hv e;have h1:=ih (c:=c) hv (w:=fun j=>v j+c*r0 j) fun j _=>rfl
  exact .add (c:=c*d) h1 b fun j hj=>by rw[e j hj,hs j hj,Int.mul_add,Int.mul_assoc];omega
theorem Sp.one{n:Nat}{S:Rw->Prop}{r:Rw}(h:S r):Sp n S r:=.add (c:=1) (.zero (v:=fun _=>0) fun _ _=>rfl) h fun j _=>by omega
theorem Sp.sub{n:Nat}{S T:Rw->Prop}(h:∀r,S r->Sp n T r){v:Rw}(hv:Sp n S v):Sp n T v:=by
 induction hv with
 | zero z=>exact .zero z
 | add a b c ih=>exact(h _ b).comb ih c
theorem Sp.split{n k:Nat}{F:Nat->Rw}{L:Rw->Prop}{v:Rw}(h:Sp n (fun r=>(∃t,t < k/\r=F t)∨L r) v):∃(c:Rw) (w:Rw),Sp n L w/\∀j,j < n->v j=dot k (fun t=>F t j) c+w j:=by
 induction h with
 | @zero v z=>exact⟨fun _=>0,fun _=>0,.zero fun _ _=>rfl,fun j hj=>by
  have:∀k,dot k (fun t=>F t j) (fun _=>0)=0:=fun k=>by
   induction k with
   | zero=>rfl
   | succ k ih=>show dot k _ _+F k j*0=0;rw[ih];omega
  rw[z j hj,this];rfl⟩
 | @add v r w d a b e ih =>
  obtain⟨c,u,hu,hc⟩:=ih;rcases b with⟨t,ht,rfl⟩ | b
  ·refine⟨fun i=>c i+if i=t then d else 0,u,hu,fun j hj =>?_⟩
   have:∀k,dot k (fun t=>F t j) (fun i=>c i+if i=t then d else 0)=dot k (fun t=>F t j) c+if t < k then F t j*d else 0:=fun k=>by
    induction k with
    | zero=>rfl
    | succ k ih =>
     show dot k _ _+F k j*(c k+if k=t then d else 0)=dot k _ c+F k j*c k+_
     rw[ih,Int.mul_add]
     by_cases q:k=t
     ·subst q;rw[if_neg (by omega),if_pos rfl,if_pos (by omega)]
      omega
     ·rw[if_neg q]
      by_cases w:t < k
      ·rw[if_pos w,if_pos (by omega)];omega
      ·rw[if_neg w,if_neg (by omega)];omega
   rw[this,if_pos ht,e j hj,hc j hj,Int.mul_comm d];omega
  ·exact⟨c,fun j=>u j+d*r j,.add (c:=d) hu b fun j _=>rfl,fun j hj=>by
   show w j=dot k (fun t=>F t j) c+(u j+d*r j)
   rw[e j hj,hc j hj];omega⟩
structure Tri (n k:Nat) (F:Nat->Rw):Prop where
 zero:∀t,t < k->∀j,j < t->F t j=0
 pos:∀t,t < k->0 < F t t
theorem ali{n k:Nat}{F:Nat->Rw}(T:Tri n k F)(c:Rw){j:Nat}(hj:j < k)(h0:∀i,i < j->c i=0):dot k (fun t=>F t j) c=F j j*c j:=by
 have:∀m,m<=k->dot m (fun t=>F t j) c=if j < m then F j j*c j else 0:=fun m=>by
  induction m with
  | zero=>intro _;rfl
  | succ m ih =>
   intro hm;show dot m _ c+F m j*c m=_;rw[ih (by omega)]
   rcases Nat.lt_trichotomy m j with z | z | z
   ·rw[if_neg (by omega),if_neg (by omega),h0 m z];omega
   ·subst z;rw[if_neg (by omega),if_pos (by omega)];omega
   ·rw[if_pos z,if_pos (by omega),T.zero m (by omega) j z];omega
 rw[this k (Nat.le_refl _),if_pos hj]
theorem ass{n k:Nat}{F:Nat->Rw}(T:Tri n k F)(c:Rw)(h:∀j,j < k->dot k (fun t=>F t j) c=0):∀j,j < k->c j=0:=fun j=>by
 induction j using Nat.strongRecOn with
 | _ j ih =>
  intro hj;have e:=h j hj;rw[ali T c hj fun i hi=>ih i hi (by omega)] at e
  rcases Int.mul_eq_zero.mp e with z | z
  ·have:=T.pos j hj;omega
  ·exact z
def InL(qv:LL9)(v:Rw):Prop:=∃g:Rw,∀j,j < qv.length->atv qv g j=v j
theorem ao1(qv:LL9)(v:Rw):Sp qv.length (fun r=>∃i,i < qv.length/\r=dsq qv i) v↔InL qv v:=by
 constructor
 ·intro h
  induction h with
  | @zero v z=>exact⟨fun _=>0,fun j hj=>by
   rw[z j hj];unfold atv;have:∀k,dot k (fun t=>dsq qv t j) (fun _=>0)=0:=fun k=>by
    induction k with
    | zero=>rfl
    | succ k ih=>show dot k _ _+dsq qv k j*0=0;rw[ih];omega
   exact this _⟩
  | @add v r w d a b e ih =>
   obtain⟨g,hg⟩:=ih;obtain⟨i,hi,rfl⟩:=b;exact⟨fun j=>g j+if j=i then d else 0,fun j hj=>by rw[ayd g hi d j,hg j hj,e j hj]⟩
 ·rintro⟨g,hg⟩
  have:∀k,k<=qv.length->Sp qv.length (fun r=>∃i,i < qv.length/\r=dsq qv i) (fun j=>dot k (fun t=>dsq qv t j) g):=fun k=>by
   induction k with
   | zero=>intro _;exact .zero fun _ _=>rfl
   | succ k ih=>intro hk;exact .add (c:=g k) (ih (by omega)) ⟨k,by omega,rfl⟩ fun j _=>by show dot k _ g+dsq qv k j*g k=_;rw[Int.mul_comm]
  exact(this qv.length (Nat.le_refl _)).congr fun j hj=>(hg j hj).symm
theorem ahl{n:Nat}{G:Nat->Rw}(T:Tri n n G){v:Rw}(hv:Sp n (fun r=>∃t,t < n/\r=G t) v){t:Nat}(ht:t < n)(z:∀j,j < t->v j=0):∃c:Int,v t=G t t*c:=by
 obtain⟨c,w,hw,e⟩:=Sp.split (L:=fun _=>False) (hv.sub fun r hr=>.one (.inl hr))
 have w0:∀j,j < n->w j=0:=by
  cases hw with
  | zero z=>exact z
  | add _ b _=>exact b.elim
 have c0:∀j,j < t->c j=0:=fun j=>by
  induction j using Nat.strongRecOn with
  | _ j ih =>
   intro hj;have e1:=e j (by omega)
   rw[ali T c (by omega) fun i hi=>ih i hi (by omega),w0 j (by omega),Int.add_zero,z j hj] at e1
   rcases Int.mul_eq_zero.mp e1.symm with q | q
   ·have:=T.pos j (by omega);omega
   ·exact q
 have e1:=e t ht;rw[ali T c ht c0,w0 t ht,Int.add_zero] at e1;exact⟨c t,e1⟩
theorem alw{n:Nat}{F G:Nat->Rw}(TF:Tri n n F)(TG:Tri n n G)(s:∀v,Sp n (fun r=>∃t,t < n/\r=F t) v↔Sp n (fun r=>∃t,t < n/\r=G t) v){t:Nat}(ht:t < n):F t t=G t t:=by
 obtain⟨c,hc⟩:=ahl TG ((s _).mp (.one ⟨t,ht,rfl⟩)) ht fun j hj=>TF.zero t ht j hj
 obtain⟨d,hd⟩:=ahl TF ((s _).mpr (.one ⟨t,ht,rfl⟩)) ht fun j hj=>TG.zero t ht j hj
 have p1:=TF.pos t ht;have p2:=TG.pos t ht;exact Int.dvd_antisymm (by omega) (by omega) ⟨d,hd⟩ ⟨c,hc⟩
theorem av5{n:Nat}{F:Nat->Rw}(T:Tri n n F){v:Rw}(hv:Sp n (fun r=>∃t,t < n/\r=F t) v)(h:∀j,j < n->(v j).natAbs < (F j j).natAbs):∀j,j < n->v j=0:=fun j=>by
 induction j using Nat.strongRecOn with
 | _ j ih =>
  intro hj;obtain⟨c,hc⟩:=ahl T hv hj fun i hi=>ih i hi (by omega)
  have b:=h j hj;rw[hc,Int.natAbs_mul] at b;have:c.natAbs=0:=by
   cases q:c.natAbs with
   | zero=>rfl
   | succ m=>rw[q,Nat.mul_add] at b;omega
  rw[hc,show c=0 by omega,Int.mul_zero]
theorem map_getD{α:Type}(d:α)(l:List α):((List.range l.length).map fun i=>l.getD i d)=l:=by
 apply List.ext_getElem?;intro i;rw[List.getElem?_map]
 by_cases h:i < l.length
 ·rw[List.getElem?_range h,List.getElem?_eq_getElem h];simp[h]
 ·rw[List.getElem?_eq_none (by simp;omega),List.getElem?_eq_none (by omega)]
  rfl
theorem aq8(cs:List Nat)(p q:List Rw){u v:Rw}(h:∀j∈cs,u j=v j):det cs (p++u::q)=det cs (p++v::q):=by
 have e:=agm cs (List.range (p++u::q).length) (fun i=>(p++u::q).getD i u) (fun i=>(p++v::q).getD i u) fun i hi j hj=>by
  by_cases z:i=p.length
  ·subst z;simp[h j hj]
  ·rw[List.getD_eq_getElem?_getD,List.getD_eq_getElem?_getD];rcases Nat.lt_or_ge i p.length with w | w
   ·rw[List.getElem?_append_left w,List.getElem?_append_left w]
   ·rw[List.getElem?_append_right w,List.getElem?_append_right w,show i - p.length=(i - p.length - 1)+1 by omega]
    simp
 rw[map_getD] at e;have l:(p++u::q).length=(p++v::q).length:=by simp
 rw[l,map_getD] at e;exact e
theorem aul(cs:List Nat)(G:Nat->Rw){l l':List Nat}(h:l.Perm l'):∀p,det cs (p++l.map G)=det cs (p++l'.map G)∨det cs (p++l.map G) = - det cs (p++l'.map G):=by
 induction h with
 | nil=>exact fun p=>.inl rfl
 | cons x _ ih =>
  intro p;have:=ih (p++[G x])
  simpa[List.append_assoc] using this
 | swap x y l =>
  intro p;have:=aq9 cs (G x) [G y] p (l.map G)
  simpa using this
 | trans _ _ i1 i2 =>
  intro p;rcases i1 p with a | a <;> rcases i2 p with b | b
  ·exact .inl (a.trans b)
  ·exact .inr (a.trans b)
  ·exact .inr (by rw[a,b])
  ·exact .inl (by rw[a,b];omega)
theorem ajt:∀{l:List Nat},¬l.Nodup->∃a x b c,l=a++x::(b++x::c)
 | [],h=>absurd List.nodup_nil h
 | x::r,h=>by
  by_cases hx:x∈r
  ·obtain⟨b,c,e⟩:=List.append_of_mem hx;exact⟨[],x,b,c,by rw[e];rfl⟩
  ·obtain⟨a,y,b,c,e⟩:=ajt (l:=r) fun hr=>h (List.nodup_cons.mpr ⟨hx,hr⟩)
   exact⟨x::a,y,b,c,by rw[e];rfl⟩
theorem anv{n:Nat}{l:List Nat}(hn:l.Nodup)(hl:l.length=n)(h:∀i∈l,i < n):l.Perm (List.range n):=by
 refine(List.perm_ext_iff_of_nodup hn List.nodup_range).mpr fun x=>⟨fun hx=>List.mem_range.mpr (h x hx),fun hx =>?_⟩
 by_cases q:x∈l
 ·exact q
 ·have:=ajc (a:=x::l) (b:=List.range n) (List.nodup_cons.mpr ⟨q,hn⟩) fun y hy=>by
   rcases List.mem_cons.mp hy with e | e
   ·rw[e];exact hx
   ·exact List.mem_range.mpr (h y e)
  simp at this;omega
theorem arb{n:Nat}{G:Nat->Rw}:∀(q:List Rw) (is:List Nat),(∀i∈is,i < n)->is.length+q.length=n->(∀r∈q,Sp n (fun r=>∃t,t < n/\r=G t) r)->det (List.range n) ((List.range n).map G) ∣ det (List.range n) (is.map G++q)
 | [],is,hi,hl,_=>by
  rw[List.append_nil]
  by_cases nd:is.Nodup
  ·have:=aul (List.range n) G (anv nd (by simpa using hl) hi) []
   rcases this with e | e
   ·rw[show is.map G=[]++is.map G from rfl,e];exact⟨1,by simp⟩
   ·rw[show is.map G=[]++is.map G from rfl,e];exact⟨-1,by simp⟩
  ·obtain⟨a,x,b,c,e⟩:=ajt nd;have:=ajz (List.range n) (G x) (b.map G) (a.map G) (c.map G);rw[e,List.map_append,List.map_cons,List.map_append,List.map_cons,this];exact⟨0,by simp⟩
 | r::q,is,hi,hl,hr=>by
  simp only[List.length_cons] at hl;have hq:∀s∈q,Sp n (fun r=>∃t,t < n/\r=G t) s:=fun s hs=>hr s (List.mem_cons_of_mem _ hs)
  have h1:∀s,Sp n (fun r=>∃t,t < n/\r=G t) s->det (List.range n) ((List.range n).map G) ∣ det (List.range n) (is.map G++s::q):=fun s hs=>by
   induction hs with
   | @zero v z =>
    rw[aq8 (List.range n) (is.map G) q (u:=v) (v:=fun j=>0*v j+0*v j) fun j hj=>by rw[z j (List.mem_range.mp hj)];omega,ajy]
    exact⟨0,by simp⟩
   | @add v g w c _ hg e ih =>
    obtain⟨t,ht,rfl⟩:=hg;rw[aq8 (List.range n) (is.map G) q (u:=w) (v:=fun j=>1*v j+c*G t j) fun j hj=>by rw[e j (List.mem_range.mp hj)];omega,ajy]
    have i2:=arb q (is++[t]) (fun i h=>by
     rcases List.mem_append.mp h with h | h
     ·exact hi i h
     ·rw[List.mem_singleton.mp h];exact ht) (by simp;omega) hq
    rw[List.map_append,List.append_assoc] at i2;exact Int.dvd_add (by rw[Int.one_mul];exact ih) (Int.dvd_mul_of_dvd_right i2)
  exact h1 r (hr r (List.mem_cons_self ..))
theorem ami{c:Nat}{F:List Rw->Int}:∀(rs pre:List Rw),(∀r∈rs,r c=0)->lap c F pre rs=0
 | [],_,_=>rfl
 | r::rs,pre,h=>by
  show r c*_ - lap c F (pre++[r]) rs=0;rw[h r (List.mem_cons_self ..),ami rs _ fun s hs=>h s (List.mem_cons_of_mem _ hs),Int.zero_mul]
  rfl
def prd(F:Nat->Rw):List Nat->Int
 | []=>1
 | t::ts=>F t t*prd F ts
theorem aq7{F:Nat->Rw}:∀(ts:List Nat),ts.Pairwise (fun s t=>F t s=0)->det ts (ts.map F)=prd F ts
 | [],_=>rfl
 | t::ts,h=>by
  obtain⟨h1,h2⟩:=List.pairwise_cons.mp h;show F t t*det ts ([]++ts.map F) - lap t (det ts) ([]++[F t]) (ts.map F)=F t t*prd F ts;rw[ami _ _ fun r hr=>by obtain⟨s,hs,rfl⟩:=List.mem_map.mp hr;exact h1 s hs,List.nil_append,aq7 ts h2]
  omega
theorem awq{n:Nat}{F G:Nat->Rw}(T:Tri n n F)(s:∀v,Sp n (fun r=>∃t,t < n/\r=F t) v↔Sp n (fun r=>∃t,t < n/\r=G t) v)(hp:0 < det (List.range n) ((List.range n).map G)):prd F (List.range n)=det (List.range n) ((List.range n).map G):=by
 have e:det (List.range n) ((List.range n).map F)=prd F (List.range n):=aq7 _ (List.pairwise_iff_getElem.mpr fun i j hi hj hij=>by
  simp at hi hj;simp[T.zero j hj i hij])
 have d1:=arb (n:=n) (G:=G) ((List.range n).map F) [] (by simp) (by simp) fun r hr=>by
  obtain⟨t,ht,rfl⟩:=List.mem_map.mp hr;exact(s _).mp (.one ⟨t,List.mem_range.mp ht,rfl⟩)
 have d2:=arb (n:=n) (G:=F) ((List.range n).map G) [] (by simp) (by simp) fun r hr=>by
  obtain⟨t,ht,rfl⟩:=List.mem_map.mp hr;exact(s _).mpr (.one ⟨t,List.mem_range.mp ht,rfl⟩)
 have pp:∀ts:List Nat,(∀t∈ts,t < n)->0 < prd F ts:=fun ts=>by
  induction ts with
  | nil=>intro _;exact Int.one_pos
  | cons t ts ih=>intro h;exact Int.mul_pos (T.pos t (h t (List.mem_cons_self ..))) (ih fun u hu=>h u (List.mem_cons_of_mem _ hu))
 have p1:=pp (List.range n) fun t ht=>List.mem_range.mp ht
 simp only[List.map_nil,List.nil_append] at d1 d2;rw[e] at d1 d2;exact Int.dvd_antisymm (by omega) (by omega) d2 d1
def mu(x y:Nat):Nat:=if y=0 then 0 else (x*y).log2+(if x < y then 2 else 1)
theorem axi{x y:Nat}(hy:y≠0):mu y (x % y) < mu x y:=by
 unfold mu;rw[if_neg hy]
 by_cases hr:x % y=0
 ·rw[if_pos hr];split <;> omega
 ·rw[if_neg hr];have hlt:x % y < y:=Nat.mod_lt _ (by omega)
  rw[if_neg (show ¬y < x % y by omega)]
  by_cases hxy:x < y
  ·rw[if_pos hxy,Nat.mod_eq_of_lt hxy,Nat.mul_comm];omega
  ·rw[if_neg hxy];have h2:2*(x % y)<=x:=by
    have:=Nat.div_add_mod x y;have h1:1<=x / y:=(Nat.one_le_div_iff (by omega)).mpr (by omega)
    have:y*1<=y*(x / y):=Nat.mul_le_mul_left _ h1;omega
   have h3:2*(y*(x % y))<=x*y:=by
    rw[Nat.mul_left_comm,Nat.mul_comm x y];exact Nat.mul_le_mul_left _ h2
   have h4:y*(x % y)≠0:=Nat.mul_ne_zero hy hr;have h5:(y*(x % y)).log2 < (x*y).log2:=by
    have a:=Nat.log2_self_le h4;have b:2 ^ ((y*(x % y)).log2+1)<=x*y:=by rw[Nat.pow_succ];omega
    have:=(Nat.le_log2 (by omega)).mpr b
    omega
   omega
theorem a0a{x y N:Nat}(hN:1<=N)(h:x*y < 2 ^ N):mu x y < N+3:=by
 unfold mu;split
 ·omega
 ·have:(x*y).log2 < N:=by
   by_cases z:x*y=0
   ·rw[z];have:(0:Nat).log2=0:=by decide
    omega
   ·exact(Nat.log2_lt z).2 h
  split <;> omega
theorem adt{x y:Int}(hy:y≠0):(x - x.fdiv y*y).natAbs < y.natAbs/\(0 < y->0<=x - x.fdiv y*y)/\(y < 0->x - x.fdiv y*y<=0)/\(x.fdiv y).natAbs*y.natAbs<=x.natAbs+y.natAbs/\((0 < y/\0<=x)∨(y < 0/\x<=0)->x.natAbs=(x.fdiv y).natAbs*y.natAbs+(x - x.fdiv y*y).natAbs/\(x - x.fdiv y*y).natAbs=x.natAbs % y.natAbs):=by
 have key:∀X Y:Int,0 < Y->(0<=X - X / Y*Y/\X - X / Y*Y < Y)/\(0<=X->0<=X / Y*Y/\(X - X / Y*Y).natAbs=X.natAbs % Y.natAbs):=fun X Y hY=>by
  have e:=Int.emod_add_mul_ediv X Y;have e1:=Int.emod_nonneg X (show Y≠0 by omega)
  have e2:=Int.emod_lt_of_pos X hY;rw[Int.mul_comm] at e;have e3:X - X / Y*Y=X % Y:=by omega
  refine⟨by rw[e3];exact⟨e1,e2⟩,fun hX=>⟨Int.mul_nonneg (Int.ediv_nonneg hX (by omega)) (by omega),?_⟩⟩
  rw[e3];obtain⟨m,rfl⟩:=Int.eq_ofNat_of_zero_le hX;obtain⟨n,rfl⟩:=Int.eq_ofNat_of_zero_le (show 0<=Y by omega)
  rw[<-Int.natCast_emod];rfl
 rw[<-Int.natAbs_mul];rcases Int.lt_or_gt_of_ne hy with z | z
 ·have e:x.fdiv y=(-x) / (-y):=by rw[<-Int.neg_fdiv_neg,Int.fdiv_eq_ediv_of_nonneg _ (by omega)]
  obtain⟨⟨k1,k2⟩,k3⟩:=key (-x) (-y) (by omega)
  rw[e];have e2:(-x) / (-y)*(-y) = - ((-x) / (-y)*y):=Int.mul_neg _ _;rw[e2] at k1 k2 k3;generalize (-x) / (-y)*y=p at *;refine⟨by omega,by omega,by omega,by omega,fun hs =>?_⟩
  obtain⟨k4,k5⟩:=k3 (by omega)
  rw[Int.natAbs_neg,Int.natAbs_neg] at k5;refine⟨by omega,?_⟩
  rw[<-k5];omega
 ·have e:x.fdiv y=x / y:=Int.fdiv_eq_ediv_of_nonneg _ (by omega)
  obtain⟨⟨k1,k2⟩,k3⟩:=key x y z;rw[e];generalize x / y*y=p at *;refine⟨by omega,by omega,by omega,by omega,fun hs =>?_⟩
  obtain⟨k4,k5⟩:=k3 (by omega)
  exact⟨by omega,k5⟩
theorem alc{n:Nat}(f r:Rw)(t:Int)(ht:t.natAbs < bgM)(hr:∀j,j < n->(r j).natAbs < bgM):∃q1 q2,compD (bTup 2 (dh (az 0) (dh (az 1) bNil))) (ret true) qj (ju ((List.range n).map fun j=>D.int (f j)) ((List.range n).map fun j=>D.int (r j))) [] [.emp,.emp,.val (.int t)]=some (.ok ((List.range n).map fun j=>.int (f j - t*r j)),[q1,q2,.val (.int t)]):=by
 have comp:=mz (b:=bTup 2 (dh (az 0) (dh (az 1) bNil))) (mc:=ret true) (me:=qj) (fun j ys ρ=>∃o1 o2:Sl,ρ=[o1,o2,.val (.int t)]/\ys=(List.range j).map fun j=>.int (f j - t*r j))
  (l:=ju ((List.range n).map fun j=>D.int (f j)) ((List.range n).map fun j=>D.int (r j))) (ys:=[]) (ρ:=[.emp,.emp,.val (.int t)]) 0 ⟨.emp,.emp,rfl,rfl⟩ ?_
 ·obtain⟨ys,ρ',e6,o1,o2,rfl,rfl⟩:=comp;have hz:(ju ((List.range n).map fun j=>D.int (f j)) ((List.range n).map fun j=>D.int (r j))).length=n:=by unfold ju;rw[List.length_zipWith,cu,cu];omega
  rw[hz,Nat.zero_add] at e6;exact⟨o1,o2,e6⟩
 ·rintro j z ys ρ hd ⟨o1,o2,rfl,rfl⟩
  have hj:j < n:=by
   rcases Nat.lt_or_ge j n with q | q
   ·exact q
   ·rw[List.getElem?_eq_none (by unfold ju;rw[List.length_zipWith,cu,cu];omega)] at hd
    cases hd
  have ed:z=.tup [.int (f j),.int (r j)]:=by
   unfold ju at hd;rw[List.getElem?_zipWith,List.getElem?_map,List.getElem?_map,List.getElem?_range hj] at hd;exact(Option.some.inj hd).symm
  subst ed;have hf:agx t (r j)=some (t*r j):=by unfold agx;rw[if_pos ⟨ht,hr j hj⟩]
  refine⟨[.val (.int (f j)),.val (.int (r j)),.val (.int t)],_,true,by simp,rfl,.inr ⟨rfl,.int (f j - t*r j),[.val (.int (f j)),.val (.int (r j)),.val (.int t)],?_,_,_,rfl,?_⟩⟩
  ·generalize f j=a1 at *;generalize r j=a2 at *;simp[qj,hf]
  ·rw[Nat.zero_add,List.range_succ,List.map_append];rfl
theorem avv:bgD<=bgM:=by
 unfold bgD bgM;exact Nat.pow_le_pow_right (by decide) (by decide)
theorem av1{n a:Nat}(ha:a < n)(hn:n<=100)(h r:Rw)(hra:r a≠0)(hy:(r a).natAbs < bgD)(hq:((h a).fdiv (r a)).natAbs < bgM)(hr:∀j,j < n->(r j).natAbs < bgM)(c0 c1 c2 c5 o7:Sl):uf [c0,c1,c2,.val (.int (a:Int)),.val (rwD n h),c5,.val (rwD n r),o7]=some (.nx,[c0,c1,c2,.val (.int (a:Int)),.val (rwD n r),c5,.val (rwD n fun j=>h j - (h a).fdiv (r a)*r j),.val (.int ((h a).fdiv (r a)))]):=by
 obtain⟨q1,q2,e⟩:=alc (n:=n) h r ((h a).fdiv (r a)) hq hr;have x1:=uc (r:=h) ha;have x2:=uc (r:=r) ha;have fd:adq (h a) (r a)=some ((h a).fdiv (r a)):=by unfold adq;rw[if_pos ⟨hra,hy⟩]
 have l1:=cu n h;have l2:=cu n r;have l3:=cu n (fun j=>h j - (h a).fdiv (r a)*r j)
 have hc:((List.range n).map fun j=>D.int (h j - (h a).fdiv (r a)*r j)).length<=capS:=by rw[l3];exact bc (by omega)
 unfold rwD;generalize (h a).fdiv (r a)=q at *;generalize (List.range n).map (fun j=>D.int (h j - q*r j))=z3 at *
 generalize (List.range n).map (fun j=>D.int (h j))=z1 at *
 generalize (List.range n).map (fun j=>D.int (r j))=z2 at *
 have hle:z1.length<=z2.length:=by omega
 generalize (a:Int)=aa at *;simp[uf,x1,x2,fd,hle,e,hc]
def pr(x y:Rw):Rw->Prop:=fun s=>s=x∨s=y
structure Eqv (n:Nat) (h0 r0 h r:Rw):Prop where
 a:Sp n (pr h0 r0) h
 b:Sp n (pr h0 r0) r
 c:Sp n (pr h r) h0
 d:Sp n (pr h r) r0
theorem Eqv.refl(n:Nat)(h r:Rw):Eqv n h r h r:=⟨.one (.inl rfl),.one (.inr rfl),.one (.inl rfl),.one (.inr rfl)⟩
theorem Eqv.step{n:Nat}{h0 r0 h r:Rw}(e:Eqv n h0 r0 h r)(q:Int):Eqv n h0 r0 r (fun j=>h j - q*r j):=by
 have k:∀s,pr h r s->Sp n (pr r (fun j=>h j - q*r j)) s:=fun s hs=>by
  rcases hs with rfl | rfl
  ·exact(Sp.one (.inl rfl)).comb (c:=q) (v:=fun j=>s j - q*r j) (.one (.inr rfl)) fun j _=>by omega
  ·exact .one (.inl rfl)
 exact⟨e.b,e.b.comb (c := -q) e.a fun j _=>by rw[Int.neg_mul];omega,e.c.sub k,e.d.sub k⟩
theorem ax3{n a B C:Nat}(ha:a < n)(hn:n<=100)(hC1:1<=C)(hK:4*(C*B) < bgD)(h0 r0:Rw)(bh:∀j,j < n->(h0 j).natAbs<=B)(br:∀j,j < n->(r0 j).natAbs<=B)(ch:(h0 a).natAbs<=C)(cr:(r0 a).natAbs<=C)(zh:∀j,j < a->h0 j=0)(zr:∀j,j < a->r0 j=0)(c0 c1 c2 c5 o7:Sl) :
  ∃(h r:Rw) (q7:Sl),whileD qd uf fuel [c0,c1,c2,.val (.int (a:Int)),.val (rwD n h0),c5,.val (rwD n r0),o7]=some (.nx,[c0,c1,c2,.val (.int (a:Int)),.val (rwD n h),c5,.val (rwD n r),q7])/\r a=0/\Eqv n h0 r0 h r/\(∀j,j < n->(h j).natAbs<=4*(C*B)/\(r j).natAbs<=4*(C*B))/\(∀j,j < a->h j=0/\r j=0)/\(h a).natAbs<=C:=by
 have hBB:B<=C*B:=Nat.le_mul_of_pos_left _ hC1;have hM:=avv;have loop:=ab7 (c:=qd) (g:=uf)
  (fun m ρ=>∃(h r:Rw) (o:Sl),ρ=[c0,c1,c2,.val (.int (a:Int)),.val (rwD n h),c5,.val (rwD n r),o]/\Eqv n h0 r0 h r/\(∀j,j < a->h j=0/\r j=0)/\((h a).natAbs<=C/\(r a).natAbs<=C)/\((m=50000/\∀j,j < n->(h j).natAbs<=B/\(r j).natAbs<=B)∨(m=mu (h a).natAbs (r a).natAbs/\((0 < r a->0<=h a)/\(r a < 0->h a<=0))/\∃H R:Nat,H*(r a).natAbs+R*(h a).natAbs<=4*(C*B)/\H<=4*(C*B)/\R<=4*(C*B)/\∀j,j < n->(h j).natAbs<=H/\(r j).natAbs<=R)))
  (fun ρ=>∃(h r:Rw) (o:Sl),ρ=[c0,c1,c2,.val (.int (a:Int)),.val (rwD n h),c5,.val (rwD n r),o]/\r a=0/\Eqv n h0 r0 h r/\(∀j,j < n->(h j).natAbs<=4*(C*B)/\(r j).natAbs<=4*(C*B))/\(∀j,j < a->h j=0/\r j=0)/\(h a).natAbs<=C)
  ?_ fuel 50000 [c0,c1,c2,.val (.int (a:Int)),.val (rwD n h0),c5,.val (rwD n r0),o7] (Nat.lt_trans (by decide) afm) ⟨h0,r0,o7,rfl,.refl ..,fun j hj=>⟨zh j hj,zr j hj⟩,⟨ch,cr⟩,.inl ⟨rfl,fun j hj=>⟨bh j hj,br j hj⟩⟩⟩
 ·obtain⟨ρ',e,h,r,o,rfl,k1,k2,k3,k4⟩:=loop;exact⟨h,r,o,e,k1,k2,k3,k4⟩
 ·rintro m ρ ⟨h,r,o,rfl,ev,zz,cc,st⟩
  have bounds:∀j,j < n->(h j).natAbs<=4*(C*B)/\(r j).natAbs<=4*(C*B):=fun j hj=>by
   rcases st with⟨_,b⟩ | ⟨_,_,H,R,_,h1,h2,b⟩
   ·have:=b j hj;omega
   ·have:=b j hj;omega
  have x2:=uc (r:=r) ha
  by_cases z:r a=0
  ·refine .inl ⟨[c0,c1,c2,.val (.int (a:Int)),.val (rwD n h),c5,.val (rwD n r),o],?_,h,r,o,rfl,z,ev,bounds,zz,cc.1⟩;rw[z] at x2;unfold rwD;generalize (List.range n).map (fun j=>D.int (r j))=z2 at *
   generalize (a:Int)=aa at *;simp[qd,x2]
  ·obtain⟨n1,n2,n3,n4,n5⟩:=adt (x:=h a) (y:=r a) z;have ba:=bounds a ha;have y1:1<=(r a).natAbs:=by omega
   have qle:((h a).fdiv (r a)).natAbs<=(h a).natAbs+(r a).natAbs:=Nat.le_trans (Nat.le_mul_of_pos_right _ y1) n4;have qb:((h a).fdiv (r a)).natAbs < bgM:=by
    rcases st with⟨_,b⟩ | ⟨_,⟨s1,s2⟩,H,R,_,h1,h2,b⟩
    ·have:=b a ha;omega
    ·have:=(n5 (by omega)).1
     have:=Nat.le_mul_of_pos_right ((h a).fdiv (r a)).natAbs y1;omega
   have w:=av1 ha hn h r z (by omega) qb (fun j hj=>by have:=bounds j hj;omega) c0 c1 c2 c5 o
   have t1:qd [c0,c1,c2,.val (.int (a:Int)),.val (rwD n h),c5,.val (rwD n r),o]=some (.ok true,[c0,c1,c2,.val (.int (a:Int)),.val (rwD n h),c5,.val (rwD n r),o]):=by
    unfold rwD;generalize (List.range n).map (fun j=>D.int (r j))=z2 at *
    generalize (a:Int)=aa at *;simp[qd,x2,z]
   have nat:∀j,(h j - (h a).fdiv (r a)*r j).natAbs<=(h j).natAbs+((h a).fdiv (r a)).natAbs*(r j).natAbs:=fun j=>by
    rw[<-Int.natAbs_mul];omega
   have zz':∀j,j < a->r j=0/\h j - (h a).fdiv (r a)*r j=0:=fun j hj=>by
    obtain⟨e1,e2⟩:=zz j hj;rw[e1,e2];exact⟨rfl,by rw[Int.mul_zero];rfl⟩
   have mlt:mu (r a).natAbs (h a - (h a).fdiv (r a)*r a).natAbs < 50000:=by
    have:(r a).natAbs*(h a - (h a).fdiv (r a)*r a).natAbs < 2 ^ 16000:=by
     have pd:bgD=2 ^ 8000:=by
      unfold bgD;rfl
     have p1:(r a).natAbs < 2 ^ 8000:=by
      rw[<-pd];omega
     have p2:(h a - (h a).fdiv (r a)*r a).natAbs < 2 ^ 8000:=Nat.lt_trans n1 p1;have:=Nat.mul_lt_mul_of_lt_of_lt p1 p2;rw[<-Nat.pow_add] at this;exact this
    have:=a0a (N:=16000) (by decide) this
    omega
   refine .inr ⟨_,_,mu (r a).natAbs (h a - (h a).fdiv (r a)*r a).natAbs,t1,w,?_,r,_,_,rfl,ev.step _,zz',⟨cc.2,Nat.le_trans (Nat.le_of_lt n1) cc.2⟩,.inr ⟨rfl,⟨fun q =>?_,fun q =>?_⟩,?_⟩⟩
   ·rcases st with⟨hm,_⟩ | ⟨hm,⟨s1,s2⟩,_⟩
    ·omega
    ·rw[hm,(n5 (by omega)).2]
     exact axi (by omega)
   ·show 0<=r a;have q:0 < h a - (h a).fdiv (r a)*r a:=q;omega
   ·show r a<=0;have q:h a - (h a).fdiv (r a)*r a < 0:=q;omega
   ·show ∃H R:Nat,H*(h a - (h a).fdiv (r a)*r a).natAbs+R*(r a).natAbs<=_/\_
    rcases st with⟨_,b⟩ | ⟨_,⟨s1,s2⟩,H,R,hHR,h1,h2,b⟩
    ·have bA:=b a ha;refine⟨B,B+((h a).fdiv (r a)).natAbs*B,?_,by omega,?_,fun j hj=>⟨(b j hj).2,?_⟩⟩
     ·rw[Nat.add_mul,Nat.mul_right_comm];have m1:=Nat.mul_le_mul_left B (show(h a - (h a).fdiv (r a)*r a).natAbs<=C by omega)
      have m2:=Nat.mul_le_mul_left B cc.2;have m3:=Nat.mul_le_mul_right B (show((h a).fdiv (r a)).natAbs*(r a).natAbs<=C+C by omega)
      have mc:=Nat.mul_comm B C;rw[Nat.add_mul] at m3;omega
     ·have m3:=Nat.mul_le_mul_right B (show((h a).fdiv (r a)).natAbs<=C+C by omega)
      rw[Nat.add_mul] at m3;omega
     ·have m3:=Nat.mul_le_mul_left ((h a).fdiv (r a)).natAbs (b j hj).2;have:=nat j;have:=(b j hj).1;omega
    ·obtain⟨e1,e2⟩:=n5 (by omega)
     have keep:R*(h a - (h a).fdiv (r a)*r a).natAbs+(H+((h a).fdiv (r a)).natAbs*R)*(r a).natAbs=H*(r a).natAbs+R*(h a).natAbs:=by
      rw[e1,Nat.add_mul,Nat.mul_add,Nat.mul_right_comm,Nat.mul_comm R (_*_)];omega
     refine⟨R,H+((h a).fdiv (r a)).natAbs*R,by omega,h2,?_,fun j hj=>⟨(b j hj).2,?_⟩⟩
     ·have:=Nat.le_mul_of_pos_right (H+((h a).fdiv (r a)).natAbs*R) y1;omega
     ·have m3:=Nat.mul_le_mul_left ((h a).fdiv (r a)).natAbs (b j hj).2;have:=nat j;have:=(b j hj).1;omega
structure SpE (n:Nat) (l l':List Rw):Prop where
 a:∀r∈l,Sp n (fun s=>s∈l') r
 b:∀r∈l',Sp n (fun s=>s∈l) r
theorem SpE.trans{n:Nat}{l m k:List Rw}(x:SpE n l m)(y:SpE n m k):SpE n l k:=⟨fun r hr=>(x.a r hr).sub y.a,fun r hr=>(y.b r hr).sub x.b⟩
theorem asz{n:Nat}{h r h1 r1:Rw}(e:Eqv n h r h1 r1)(d l:List Rw):SpE n (h::(d++r::l)) (h1::((d++[r1])++l)):=by
 have k1:∀s,pr h r s->s∈h::(d++r::l):=fun s hs=>by rcases hs with rfl | rfl <;> simp
 have k2:∀s,pr h1 r1 s->s∈h1::((d++[r1])++l):=fun s hs=>by rcases hs with rfl | rfl <;> simp
 refine⟨fun s hs =>?_,fun s hs =>?_⟩
 ·by_cases q:s=h
  ·rw[q];exact e.c.sub fun t ht=>.one (k2 t ht)
  ·by_cases q2:s=r
   ·rw[q2];exact e.d.sub fun t ht=>.one (k2 t ht)
   ·refine .one ?_;simp[q,q2] at hs;rcases hs with z | z <;> simp[z]
 ·by_cases q:s=h1
  ·rw[q];exact e.a.sub fun t ht=>.one (k1 t ht)
  ·by_cases q2:s=r1
   ·rw[q2];exact e.b.sub fun t ht=>.one (k1 t ht)
   ·refine .one ?_;simp[q,q2] at hs;rcases hs with z | z <;> simp[z]
theorem auf(B C k:Nat):4*(C*B)*(4*C) ^ k=B*(4*C) ^ (k+1):=by
 rw[Nat.pow_succ]
 ac_rfl
theorem inner{n a C:Nat}(ha:a < n)(hn:n<=100)(hC:1<=C)(c0 c1 c2:Sl):∀(Ls done:List Rw) (h:Rw) (B:Nat) (o6 o7:Sl),B*(4*C) ^ Ls.length < bgD->done.length+Ls.length<=100->(∀r∈h::(done++Ls),∀j,j < n->(r j).natAbs<=B)->(∀r∈h::Ls,(r a).natAbs<=C)->(∀j,j < a->h j=0)->(∀r∈Ls,∀j,j < a->r j=0)->(∀r∈done,∀j,j<=a->r j=0) ->
  ∃(h':Rw) (done':List Rw) (q6 q7:Sl),forD (az 6) kj (Ls.map (rwD n)) [c0,c1,c2,.val (.int (a:Int)),.val (rwD n h),.own none (done.map (rwD n)),o6,o7]=some (.nx,[c0,c1,c2,.val (.int (a:Int)),.val (rwD n h'),.own none (done'.map (rwD n)),q6,q7])/\done'.length=done.length+Ls.length/\SpE n (h::(done++Ls)) (h'::done')/\(∀r∈h'::done',∀j,j < n->(r j).natAbs<=B*(4*C) ^ Ls.length)/\(∀j,j < a->h' j=0)/\∀r∈done',∀j,j<=a->r j=0
 | [],done,h,B,o6,o7,_,_,b,_,z1,_,z3=>⟨h,done,o6,o7,rfl,by simp,by rw[List.append_nil];exact⟨fun r hr=>.one hr,fun r hr=>.one hr⟩,by simpa using b,z1,z3⟩
 | r::Ls,done,h,B,o6,o7,hc,hl,b,cc,z1,z2,z3=>by
  simp only[List.length_cons] at hc hl;have p1:1<=(4*C) ^ Ls.length:=Nat.one_le_pow _ _ (by omega)
  have e4:=auf B C Ls.length;have hK:4*(C*B) < bgD:=by
   have:=Nat.le_mul_of_pos_right (4*(C*B)) p1;omega
  have hBB:B<=4*(C*B):=by
   have:=Nat.le_mul_of_pos_left B hC;omega
  obtain⟨h1,r1,q7,e,ra,ev,bd,zz,hC1⟩:=ax3 ha hn hC hK h r (b h (by simp)) (b r (by simp)) (cc h (by simp)) (cc r (by simp)) z1 (z2 r (by simp)) c0 c1 c2 (.own none (done.map (rwD n))) o7
  obtain⟨h',done',p6,p7,e2,l2,s2,b2,y1,y2⟩:=inner ha hn hC c0 c1 c2 Ls (done++[r1]) h1 (4*(C*B)) (.val (rwD n r1)) q7 (by omega) (by simp;omega) (fun s hs j hj=>by
    by_cases q:s=h1
    ·rw[q];exact(bd j hj).1
    ·by_cases q2:s=r1
     ·rw[q2];exact(bd j hj).2
     ·have:s∈h::(done++r::Ls):=by
       simp[q,q2] at hs;rcases hs with z | z <;> simp[z]
      exact Nat.le_trans (b s this j hj) hBB) (fun s hs=>by
    rcases List.mem_cons.mp hs with z | z
    ·rw[z];exact hC1
    ·exact cc s (by simp[z])) (fun j hj=>(zz j hj).1) (fun s hs=>z2 s (List.mem_cons_of_mem _ hs)) (fun s hs j hj=>by
    rcases List.mem_append.mp hs with z | z
    ·exact z3 s z j hj
    ·rw[List.mem_singleton] at z;rw[z];rcases Nat.lt_or_ge j a with w | w
     ·exact(zz j w).2
     ·have:j=a:=by omega
      rw[this];exact ra)
  refine⟨h',done',p6,p7,?_,by rw[l2];simp;omega,(asz ev done Ls).trans s2,by rw[List.length_cons,<-e4];exact b2,y1,y2⟩
  rw[List.map_cons,ut];rw[List.map_append] at e2;have e2:forD (az 6) kj (Ls.map (rwD n)) [c0,c1,c2,.val (.int (a:Int)),.val (rwD n h1),.own none (done.map (rwD n)++[rwD n r1]),.val (rwD n r1),q7]=_:=e2;have hc2:(done.map (rwD n)).length < capS:=by rw[List.length_map];unfold capS;omega
  generalize Ls.map (rwD n)=LL at *;generalize done.map (rwD n)=DD at *;generalize done'.map (rwD n)=D2 at *;generalize rwD n h'=x1 at *;generalize rwD n h1=x2 at *;generalize rwD n r1=x3 at *;generalize rwD n h=x4 at *;generalize rwD n r=x5 at *;have st:kj [c0,c1,c2,.val (.int (a:Int)),.val x4,.own none DD,.val x5,o7]=some (.nx,[c0,c1,c2,.val (.int (a:Int)),.val x2,.own none (DD++[x3]),.val x3,q7]):=by
   simp[kj,e,hc2]
  simp[st,e2]
theorem Sp.zero_at{n j:Nat}(hj:j < n){S:Rw->Prop}(h:∀r,S r->r j=0){v:Rw}(hv:Sp n S v):v j=0:=by
 induction hv with
 | zero z=>exact z j hj
 | @add v r w c a b e ih=>rw[e j hj,ih,h r b];omega
section
variable{qv:LL9}(h:Hs qv)(hop:ux qv=[])
include h hop
theorem av4{a:Nat}:InL qv (fun j=>botm qv (unit a)*unit a j):=⟨topT qv (unit a),fun j hj=>by
 show dot qv.length (fun i=>dsq qv i j) _=_
 rw[av9 h hop (unit a) j hj,Int.mul_comm]⟩
theorem amh{a:Nat}(ha:a < qv.length){F:Nat->Rw}(T:Tri qv.length a F){l:List Rw}(sp:∀v,InL qv v->Sp qv.length (fun r=>(∃t,t < a/\r=F t)∨r∈l) v)(zl:∀r∈l,∀j,j < a->r j=0):∃r∈l,r a≠0:=by
 refine Classical.byContradiction fun no =>?_
 have z:∀r∈l,r a=0:=fun r hr=>Classical.byContradiction fun q=>no ⟨r,hr,q⟩
 obtain⟨c,w,hw,e⟩:=(sp _ (av4 h hop (a:=a))).split (L:=fun r=>r∈l)
 have w0:∀j,j<=a->w j=0:=fun j hj=>Sp.zero_at (by omega) (fun r hr=>by
  rcases Nat.lt_or_ge j a with y | y
  ·exact zl r hr j y
  ·have:j=a:=by omega
   rw[this];exact z r hr) hw
 have c0:=ass T c fun j hj=>by
  have:=e j (by omega)
  rw[w0 j (by omega)] at this
  unfold unit at this;rw[if_neg (by omega),Int.mul_zero] at this
  omega
 have e1:=e a ha;rw[w0 a (Nat.le_refl _)] at e1;have:∀k,k<=a->dot k (fun t=>F t a) c=0:=fun k=>by
  induction k with
  | zero=>intro _;rfl
  | succ k ih=>intro hk;show dot k _ c+F k a*c k=0;rw[ih (by omega),c0 k (by omega)];omega
 rw[this a (Nat.le_refl _)] at e1;unfold unit at e1;rw[if_pos rfl] at e1;have:=(ar3 h hop (unit a)).1;unfold unit at this;omega
omit h hop in
theorem au5{a:Nat}{F:Nat->Rw}{l l':List Rw}(se:SpE qv.length l l')(sp:∀v,Sp qv.length (fun r=>(∃t,t < a/\r=F t)∨r∈l) v↔InL qv v)(v:Rw):Sp qv.length (fun r=>(∃t,t < a/\r=F t)∨r∈l') v↔InL qv v:=by
 rw[<-sp v];constructor
 ·exact Sp.sub fun r hr=>by
   rcases hr with z | z
   ·exact .one (.inl z)
   ·exact(se.b r z).sub fun s hs=>.one (.inr hs)
 ·exact Sp.sub fun r hr=>by
   rcases hr with z | z
   ·exact .one (.inl z)
   ·exact(se.a r z).sub fun s hs=>.one (.inr hs)
omit h hop in
theorem ahk{a:Nat}{F:Nat->Rw}{h' hh:Rw}{d':List Rw}(T:Tri qv.length a F)(sp2:∀v,Sp qv.length (fun r=>(∃t,t < a/\r=F t)∨r∈h'::d') v↔InL qv v)(y1:∀j,j < a->h' j=0){s:Int}(hs:s=1∨s = -1)(he:∀j,hh j=s*h' j)(hp:0 < hh a) :
  ∃F':Nat->Rw,((List.range (a+1)).map fun t=>rwD qv.length (F' t))=((List.range a).map fun t=>rwD qv.length (F t))++[rwD qv.length hh]/\(∀t,t < a->F' t=F t)/\F' a=hh/\Tri qv.length (a+1) F'/\∀v,Sp qv.length (fun r=>(∃t,t < a+1/\r=F' t)∨r∈d') v↔InL qv v:=by
 have F1:∀t,t < a->(fun t=>if t=a then hh else F t) t=F t:=fun t ht=>if_neg (by omega)
 have F2:(fun t=>if t=a then hh else F t) a=hh:=if_pos rfl
 have hz:∀j,j < a->hh j=0:=fun j hj=>by rw[he j,y1 j hj,Int.mul_zero]
 have hb:∀j,h' j=s*hh j:=fun j=>by
  rw[he j,<-Int.mul_assoc];rcases hs with rfl | rfl <;> omega
 refine⟨fun t=>if t=a then hh else F t,?_,F1,F2,⟨fun t ht j hj =>?_,fun t ht =>?_⟩,fun v =>?_⟩
 ·rw[List.range_succ,List.map_append]
  congr 1
  ·apply List.map_congr_left;intro t ht;exact congrArg (rwD qv.length) (F1 t (List.mem_range.mp ht))
  ·exact congrArg (fun x=>[rwD qv.length x]) F2
 ·rcases Nat.lt_or_ge t a with z | z
  ·show(fun t=>if t=a then hh else F t) t j=0
   rw[F1 t z];exact T.zero t z j hj
  ·have:t=a:=by omega
   subst this;show(fun s=>if s=t then hh else F s) t j=0
   rw[F2];exact hz j hj
 ·rcases Nat.lt_or_ge t a with z | z
  ·show 0 < (fun t=>if t=a then hh else F t) t t
   rw[F1 t z];exact T.pos t z
  ·have:t=a:=by omega
   subst this;show 0 < (fun s=>if s=t then hh else F s) t t
   rw[F2];exact hp
 ·rw[<-sp2 v];constructor
  ·exact Sp.sub fun r hr=>by
    rcases hr with⟨t,ht,rfl⟩ | z
    ·rcases Nat.lt_or_ge t a with z | z
     ·rw[F1 t z];exact .one (.inl ⟨t,z,rfl⟩)
     ·have:t=a:=by omega
      subst this;rw[F2];exact .add (c:=s) (.zero (v:=fun _=>0) fun _ _=>rfl) (.inr (List.mem_cons_self ..)) fun j _=>by rw[he j];omega
    ·exact .one (.inr (List.mem_cons_of_mem _ z))
  ·exact Sp.sub fun r hr=>by
    rcases hr with⟨t,ht,rfl⟩ | z
    ·exact .one (.inl ⟨t,by omega,(F1 t ht).symm⟩)
    ·rcases List.mem_cons.mp z with q | q
     ·rw[q];exact .add (c:=s) (.zero (v:=fun _=>0) fun _ _=>rfl) (.inl ⟨a,by omega,F2.symm⟩) fun j _=>by rw[hb j];omega
     ·exact .one (.inr q)
end
theorem aqd{n:Nat}(f r:Rw)(t:Int)(hr:∀j,j < n->(r j).natAbs<=10):∃q1 q2,compD (bTup 2 (dh (az 0) (dh (az 1) bNil))) (ret true) xn (ju ((List.range n).map fun j=>D.int (f j)) ((List.range n).map fun j=>D.int (r j))) [] [.emp,.emp,.val (.int t)]=some (.ok ((List.range n).map fun j=>.int (f j - t*r j)),[q1,q2,.val (.int t)]):=by
 have comp:=mz (b:=bTup 2 (dh (az 0) (dh (az 1) bNil))) (mc:=ret true) (me:=xn) (fun j ys ρ=>∃o1 o2:Sl,ρ=[o1,o2,.val (.int t)]/\ys=(List.range j).map fun j=>.int (f j - t*r j))
  (l:=ju ((List.range n).map fun j=>D.int (f j)) ((List.range n).map fun j=>D.int (r j))) (ys:=[]) (ρ:=[.emp,.emp,.val (.int t)]) 0 ⟨.emp,.emp,rfl,rfl⟩ ?_
 ·obtain⟨ys,ρ',e6,o1,o2,rfl,rfl⟩:=comp;have hz:(ju ((List.range n).map fun j=>D.int (f j)) ((List.range n).map fun j=>D.int (r j))).length=n:=by unfold ju;rw[List.length_zipWith,cu,cu];omega
  rw[hz,Nat.zero_add] at e6;exact⟨o1,o2,e6⟩
 ·rintro j z ys ρ hd ⟨o1,o2,rfl,rfl⟩
  have hj:j < n:=by
   rcases Nat.lt_or_ge j n with q | q
   ·exact q
   ·rw[List.getElem?_eq_none (by unfold ju;rw[List.length_zipWith,cu,cu];omega)] at hd
    cases hd
  have ed:z=.tup [.int (f j),.int (r j)]:=by
   unfold ju at hd;rw[List.getElem?_zipWith,List.getElem?_map,List.getElem?_map,List.getElem?_range hj] at hd;exact(Option.some.inj hd).symm
  subst ed;have b:=hr j hj;have hf:fMul t (r j)=some (t*r j):=by unfold fMul;rw[if_pos (.inr ⟨by omega,by omega⟩)]
  refine⟨[.val (.int (f j)),.val (.int (r j)),.val (.int t)],_,true,by simp,rfl,.inr ⟨rfl,.int (f j - t*r j),[.val (.int (f j)),.val (.int (r j)),.val (.int t)],?_,_,_,rfl,?_⟩⟩
  ·generalize f j=a1 at *;generalize r j=a2 at *;simp[xn,hf]
  ·rw[Nat.zero_add,List.range_succ,List.map_append];rfl
theorem tA1(k ii:Int)(dd:List D)(ln:Nat)(dn:dd.length=ln):(M.d (jb (g1 gL9) (jg 2 mNil))) [.val (.int k),.val (.int ii),.val (.tup dd)]=some (.ok (.int (ln:Int)),[.val (.int k),.val (.int ii),.val (.tup dd)]):=by
 simp[dn]
theorem tA2(k ii:Int)(dd:List D):(M.d (jb (g1 aoa) (bw (M.d (mOp (gEq false) (bz 1 (dq 0)))) mNil))) [.val (.int k),.val (.int ii),.val (.tup dd)]=some (.ok (.int (if ii=k then 1 else 0)),[.val (.int k),.val (.int ii),.val (.tup dd)]):=by
 simp
theorem tB(k ii:Int)(dd:List D){c:Nat}(ok:dd.all (okD 30)=true)(hk:dd.countP (fun y=>eqD y (.int k))=c):(ajg 2 (bw (mVar 0) mNil)) [.val (.int k),.val (.int ii),.val (.tup dd)]=some (.ok (.int (c:Int)),[.val (.int k),.val (.int ii),.val (.tup dd)]):=by
 simp[ok,okD,hk]
theorem tM{A1 A2:M D}{ρ:Ro}{a b c:Int}(h1:A1 ρ=some (.ok (.int a),ρ))(h2:A2 ρ=some (.ok (.int b),ρ))(m:fMul a b=some c):(M.d (mOp gMul (ie A1 A2))) ρ=some (.ok (.int c),ρ):=by
 simp[h1,h2,m]
theorem tS{A1 A2:M D}{ρ:Ro}{a b:Int}(h1:A1 ρ=some (.ok (.int a),ρ))(h2:A2 ρ=some (.ok (.int b),ρ)):(M.d (mOp (gInt fSub) (ie A1 A2))) ρ=some (.ok (.int (a - b)),ρ):=by
 simp[h1,h2]
theorem tabB(ii k:Int)(dd:List D)(ln c:Nat)(ok:dd.all (okD 30)=true)(hk:dd.countP (fun y=>eqD y (.int k))=c)(dn:dd.length=ln){x:Int}(m1:fMul (ln:Int) (if ii=k then 1 else 0)=some x):aa9 [.val (.int k),.val (.int ii),.val (.tup dd)]=some (.ok (.int (x - (c:Int))),[.val (.int k),.val (.int ii),.val (.tup dd)]) :=
 tS (tM (tA1 k ii dd ln dn) (tA2 k ii dd) m1) (tB k ii dd ok hk)
section
variable{qv:LL9}(h:Hs qv)
include h
theorem asv{i:Nat}(hi:i < qv.length):compD (az 0) (ret true) aa9 (rangeD 0 qv.length) [] [.emp,.val (.int (i:Int)),.val (.tup ((dr qv (i:Int)).map D.int))]=some (.ok ((List.range qv.length).map fun j=>.int (dsq qv i j)),zc .emp (rangeD 0 qv.length)::[.val (.int (i:Int)),.val (.tup ((dr qv (i:Int)).map D.int))]):=by
 have ok:=af4 30 (dr qv (i:Int));have hc:=fun x=>ac4 x (dr qv (i:Int))
 have dn:((dr qv (i:Int)).map D.int).length=(dr qv (i:Int)).length:=List.length_map ..
 have d6:=(h.dr (x:=(i:Int)) (by omega) (by omega)).2.1
 rw[j5 (f:=fun d=>match d with | .int k=>.int ((if (i:Int)=k then ((dr qv (i:Int)).length:Int) else 0) - (((dr qv (i:Int)).count k:Nat):Int)) | d=>d)]
 ·unfold rangeD;rw[List.nil_append,List.map_map]
  congr 3
  apply List.map_congr_left;intro j _;show D.int ((if (i:Int)=(0:Int)+((j:Nat):Int) then ((dr qv (i:Int)).length:Int) else 0) - (((dr qv (i:Int)).count ((0:Int)+((j:Nat):Int)):Nat):Int))=.int (dsq qv i j)
  rw[Int.zero_add];unfold dsq
  by_cases e:i=j
  ·rw[if_pos e,if_pos (by omega)]
  ·rw[if_neg e,if_neg (by omega)]
 ·intro d hd;unfold rangeD at hd;obtain⟨j,_,rfl⟩:=List.mem_map.mp hd;generalize (0:Int)+((j:Nat):Int)=k at *;have hk:=hc k
  clear hc hd
  generalize dr qv (i:Int)=R at *;generalize R.map D.int=dd at *;generalize R.length=ln at *;generalize (i:Int)=ii at *;refine tabB ii k dd ln _ ok hk dn ?_;unfold fMul;rw[if_pos (.inl ⟨by omega,by omega⟩)]
  by_cases e:ii=k
  ·rw[if_pos e,if_pos e,Int.mul_one]
  ·rw[if_neg e,if_neg e,Int.mul_zero]
theorem table_eq:ou [.val (hD qv)]=some (.ok (.fr (mtD qv.length qv.length (dsq qv))),[.val (hD qv)]):=by
 have hm:=h.most;have loop:=qi (b:=bTup 2 (dh (az 2) (dh (az 3) bNil))) (g:=aax) (fun i ρ=>∃o2 o3,ρ=[.val (hD qv),.own none (mtD i qv.length (dsq qv)),o2,o3])
  (l:=aag (hDs qv)) (ρ:=[.val (hD qv),.own none [],.emp,.emp]) 0 ⟨.emp,.emp,rfl⟩ ?_
 ·obtain⟨ρ',e,o2,o3,rfl⟩:=loop;rw[qz,aae,Nat.zero_add] at e;generalize mtD qv.length qv.length (dsq qv)=mm at *;simp only[hD] at *;simp[ou,ae0,e]
 ·rintro i z ρ hd ⟨o2,o3,rfl⟩
  rw[Nat.zero_add];obtain⟨d0,g1,rfl⟩:=uw hd;have hi:i < qv.length:=by
   have:=(List.getElem?_eq_some_iff.mp g1).1;rwa[aae] at this
  have ed:d0=.tup ((dr qv (i:Int)).map D.int):=by
   rw[a00 hi] at g1;exact(Option.some.inj g1).symm
  subst ed;have e:=asv h hi;have hl:=aae qv;have hb:qv.length < 4611686018427387904:=by omega
  have hc:((List.range qv.length).map fun j=>D.int (dsq qv i j)).length<=capS:=by rw[cu qv.length (dsq qv i)];exact bc (by omega)
  have hcap:(mtD i qv.length (dsq qv)).length < capS:=by rw[qu];unfold capS;omega
  refine⟨[.val (hD qv),.own none (mtD i qv.length (dsq qv)),.val (.int (i:Int)),.val (.tup ((dr qv (i:Int)).map D.int))],[.val (hD qv),.own none (mtD (i+1) qv.length (dsq qv)),.val (.int (i:Int)),.val (.tup ((dr qv (i:Int)).map D.int))],rfl,.inl ?_,_,_,rfl⟩;rw[afi];unfold rwD;generalize (List.range qv.length).map (fun j=>D.int (dsq qv i j))=rr at *
  generalize (dr qv (i:Int)).map D.int=dd at *;generalize mtD i qv.length (dsq qv)=mm at *;simp only[hD] at *;simp[aax,hl,hb,e,hc,hcap]
theorem ajl(w g:Rw):vz [.val (hD qv),.val (.tup ((List.range qv.length).map fun j=>.int (w j))),.val (.tup ((List.range qv.length).map fun j=>.int (g j)))]=some (.ok (.v (.tup ((List.range qv.length).map fun j=>.int (w j - atv qv g j)))),[.val (hD qv),.val (.tup ((List.range qv.length).map fun j=>.int (w j))),.val (.tup ((List.range qv.length).map fun j=>.int (g j)))]):=by
 have hm:=h.most;have e1:=table_eq h;have lg:=cu qv.length g;have lw:=cu qv.length w;have lm:=qu qv.length qv.length (dsq qv);have hz:(ju ((List.range qv.length).map fun j=>D.int (g j)) (mtD qv.length qv.length (dsq qv))).length=qv.length:=by unfold ju;rw[List.length_zipWith,lm,lg];omega
 have loop:=qi (b:=bTup 2 (dh (az 4) (dh (az 5) bNil))) (g:=aa0) (fun i ρ=>∃o1 o2,ρ=[.val (hD qv),.val (.tup ((List.range qv.length).map fun j=>D.int (w j))),.val (.tup ((List.range qv.length).map fun j=>D.int (g j))),.own none ((List.range qv.length).map fun j=>D.int (w j - dot i (fun k=>dsq qv k j) g)),o1,o2])
  (l:=ju ((List.range qv.length).map fun j=>D.int (g j)) (mtD qv.length qv.length (dsq qv))) (ρ:=[.val (hD qv),.val (.tup ((List.range qv.length).map fun j=>D.int (w j))),.val (.tup ((List.range qv.length).map fun j=>D.int (g j))),.own none ((List.range qv.length).map fun j=>D.int (w j)),.emp,.emp]) 0 ⟨.emp,.emp,by simp[dot]⟩ ?_
 ·obtain⟨ρ',e,o1,o2,rfl⟩:=loop;rw[hz,Nat.zero_add] at e;have hc:((List.range qv.length).map fun j=>D.int (w j)).length<=capS:=by rw[lw];exact bc (by omega)
  have l3:=cu qv.length (fun j=>w j - dot qv.length (fun k=>dsq qv k j) g)
  have hc3:((List.range qv.length).map fun j=>D.int (w j - dot qv.length (fun k=>dsq qv k j) g)).length<=capS:=by rw[l3];exact bc (by omega)
  have hle:((List.range qv.length).map fun j=>D.int (g j)).length<=(mtD qv.length qv.length (dsq qv)).length:=by omega
  unfold atv;generalize (List.range qv.length).map (fun j=>D.int (w j - dot qv.length (fun k=>dsq qv k j) g))=z3 at *
  generalize (List.range qv.length).map (fun j=>D.int (w j))=z1 at *
  generalize (List.range qv.length).map (fun j=>D.int (g j))=z2 at *
  generalize mtD qv.length qv.length (dsq qv)=mm at *;simp only[hD] at e e1 ⊢
  simp[vz,ae4,e1,hle,hc,e,hc3]
 ·rintro i d ρ hd ⟨o1,o2,rfl⟩
  rw[Nat.zero_add] at *;have hi:i < qv.length:=by
   have:=(List.getElem?_eq_some_iff.mp hd).1;omega
  have ed:d=.tup [.int (g i),rwD qv.length (dsq qv i)]:=by
   unfold ju mtD at hd;rw[List.getElem?_zipWith,List.getElem?_map,List.getElem?_map,List.getElem?_range hi] at hd;exact(Option.some.inj hd).symm
  subst ed;obtain⟨q1,q2,e2⟩:=aqd (n:=qv.length) (fun j=>w j - dot i (fun k=>dsq qv k j) g) (dsq qv i) (g i) (fun j _=>agl h hi)
  have e3:(fun j=>D.int (w j - dot (i+1) (fun k=>dsq qv k j) g))=fun j=>D.int (w j - dot i (fun k=>dsq qv k j) g - g i*dsq qv i j):=by
   funext j
   show D.int (w j - (dot i (fun k=>dsq qv k j) g+dsq qv i j*g i))=_
   rw[Int.mul_comm (g i)]
   congr 1
   omega
  refine⟨[.val (hD qv),.val (.tup ((List.range qv.length).map fun j=>D.int (w j))),.val (.tup ((List.range qv.length).map fun j=>D.int (g j))),.own none ((List.range qv.length).map fun j=>D.int (w j - dot i (fun k=>dsq qv k j) g)),.val (.int (g i)),.val (rwD qv.length (dsq qv i))],[.val (hD qv),.val (.tup ((List.range qv.length).map fun j=>D.int (w j))),.val (.tup ((List.range qv.length).map fun j=>D.int (g j))),.own none ((List.range qv.length).map fun j=>D.int (w j - dot (i+1) (fun k=>dsq qv k j) g)),.val (.int (g i)),.val (rwD qv.length (dsq qv i))],by simp,.inl ?_,_,_,rfl⟩
  have l4:=cu qv.length (fun j=>w j - dot i (fun k=>dsq qv k j) g)
  have l5:=cu qv.length (dsq qv i);have l6:=cu qv.length (fun j=>w j - dot i (fun k=>dsq qv k j) g - g i*dsq qv i j)
  rw[e3];unfold rwD;generalize (List.range qv.length).map (fun j=>D.int (w j - dot i (fun k=>dsq qv k j) g - g i*dsq qv i j))=z3 at *
  generalize (List.range qv.length).map (fun j=>D.int (w j - dot i (fun k=>dsq qv k j) g))=z4 at *
  generalize (List.range qv.length).map (fun j=>D.int (dsq qv i j))=z5 at *
  have hle:z4.length<=z5.length:=by omega
  have hc3:z3.length<=capS:=by rw[l6];exact bc (by omega)
  simp[aa0,hle,e2,hc3]
end
def Zb:Nat->Nat
 | 0=>10
 | a+1=>Zb a*(4*Zb a) ^ (5 - a)
theorem anf:∀k,1<=Zb k
 | 0=>by decide
 | k+1=>Nat.mul_pos (anf k) (Nat.pow_pos (by have:=anf k;omega))
theorem a1m(k:Nat):Zb k<=Zb (k+1):=Nat.le_mul_of_pos_right _ (Nat.pow_pos (by have:=anf k;omega))
theorem ayi{a b:Nat}(h:a<=b):Zb a<=Zb b:=by
 induction h with
 | refl=>exact Nat.le_refl _
 | step _ ih=>exact Nat.le_trans ih (a1m _)
@[irreducible] def B6:Nat:=Zb 6
theorem asb{a:Nat}(h:a<=6):Zb a<=B6:=by
 unfold B6;exact ayi h
theorem ayn:B6 < bgD:=by
 unfold B6 bgD
 decide +kernel
theorem ap1(n:Nat)(r:Rw):compD (az 0) (ret true) aa5 ((List.range n).map fun j=>.int (r j)) [] [.emp]=some (.ok ((List.range n).map fun j=>.int (0 - r j)),zc .emp ((List.range n).map fun j=>.int (r j))::[]):=by
 rw[j5 (f:=fun d=>match d with | .int x=>.int (0 - x) | _=>.non)]
 ·rw[List.nil_append,List.map_map];rfl
 ·intro d hd;obtain⟨k,_,rfl⟩:=List.mem_map.mp hd;generalize r k=x;simp[aa5]
section
variable{qv:LL9}(h:Hs qv)(hop:ux qv=[])(h6:qv.length<=6)
include h hop h6
theorem outer{a:Nat}(ha:a < qv.length){F:Nat->Rw}{Lr:List Rw}(T:Tri qv.length a F)(ll:Lr.length=qv.length - a)(zl:∀r∈Lr,∀j,j < a->r j=0)(sp:∀v,Sp qv.length (fun r=>(∃t,t < a/\r=F t)∨r∈Lr) v↔InL qv v)(bF:∀t,t < a->∀j,j < qv.length->(F t j).natAbs<=Zb a)(bL:∀r∈Lr,∀j,j < qv.length->(r j).natAbs<=Zb a)(S1 o4 o5 o6 o7:Sl)(hS:S1=.own none (Lr.map (rwD qv.length))∨S1=.val (.lst (Lr.map (rwD qv.length)))) :
  ∃(F':Nat->Rw) (Lr':List Rw) (q4 q5 q6 q7:Sl),ur [.val (hD qv),S1,.own none ((List.range a).map fun t=>rwD qv.length (F t)),.val (.int (a:Int)),o4,o5,o6,o7]=some (.nx,[.val (hD qv),.val (.lst (Lr'.map (rwD qv.length))),.own none ((List.range (a+1)).map fun t=>rwD qv.length (F' t)),.val (.int (a:Int)),q4,q5,q6,q7])/\Tri qv.length (a+1) F'/\Lr'.length=qv.length - (a+1)/\(∀r∈Lr',∀j,j < a+1->r j=0)/\(∀v,Sp qv.length (fun r=>(∃t,t < a+1/\r=F' t)∨r∈Lr') v↔InL qv v)/\(∀t,t < a+1->∀j,j < qv.length->(F' t j).natAbs<=Zb (a+1))/\∀r∈Lr',∀j,j < qv.length->(r j).natAbs<=Zb (a+1):=by
 cases Lr with
 | nil=>simp at ll;omega
 | cons h0 Ls =>
  have hk2:qv.length - (a+1)=Ls.length:=by simp at ll;omega
  have z1:=anf a;have up:Zb a*(4*Zb a) ^ Ls.length<=Zb (a+1):=Nat.mul_le_mul_left _ (Nat.pow_le_pow_right (by omega) (by omega))
  have lt:Zb a*(4*Zb a) ^ Ls.length < bgD:=Nat.lt_of_le_of_lt (Nat.le_trans up (asb (by omega))) ayn
  obtain⟨h',d',q6,q7,e,dl,se,bb,y1,y2⟩:=inner ha (by omega) z1 (.val (hD qv)) S1 (.own none ((List.range a).map fun t=>rwD qv.length (F t))) Ls [] h0 (Zb a) o6 o7 lt (by simp;omega) (by simpa using bL) (fun r hr=>bL r hr a ha) (zl h0 (by simp)) (fun r hr=>zl r (List.mem_cons_of_mem _ hr)) (fun r hr=>by cases hr)
  rw[List.nil_append] at se;have sp2:=fun v=>au5 se sp v
  have ne:h' a≠0:=fun z=>by
   obtain⟨r,hr,nz⟩:=amh h hop ha T (fun v hv=>(sp2 v).mpr hv) fun r hr j hj=>by
    rcases List.mem_cons.mp hr with q | q
    ·rw[q];exact y1 j hj
    ·exact y2 r q j (by omega)
   rcases List.mem_cons.mp hr with q | q
   ·rw[q] at nz;exact nz z
   ·exact nz (y2 r q a (Nat.le_refl _))
  have bF':∀{hh:Rw} {F':Nat->Rw},(∀j,(hh j).natAbs=(h' j).natAbs)->(∀t,t < a->F' t=F t)->F' a=hh->∀t,t < a+1->∀j,j < qv.length->(F' t j).natAbs<=Zb (a+1):=fun{hh F'} k1 k2 k3 t ht j hj=>by
   rcases Nat.lt_or_ge t a with z | z
   ·rw[k2 t z];exact Nat.le_trans (bF t z j hj) (a1m a)
   ·have:t=a:=by omega
    rw[this,k3,k1 j];exact Nat.le_trans (bb h' (by simp) j hj) up
  have bL':∀r∈d',∀j,j < qv.length->(r j).natAbs<=Zb (a+1):=fun r hr j hj=>Nat.le_trans (bb r (List.mem_cons_of_mem _ hr) j hj) up
  have x1:=uc (r:=h') ha;have hm:=h.most;have hcF:((List.range a).map fun t=>rwD qv.length (F t)).length < capS:=by rw[List.length_map,List.length_range];unfold capS;omega
  have cut:cutD ((h0::Ls).map (rwD qv.length)) (some 1) none=Ls.map (rwD qv.length):=by
   unfold cutD;rw[afx (by decide)]
   have:HT.sIx ((h0::Ls).map (rwD qv.length)).length ((h0::Ls).map (rwD qv.length)).length none=((h0::Ls).map (rwD qv.length)).length:=rfl;rw[this];simp;exact List.take_of_length_le (by simp)
  have at0':atI ((h0::Ls).map (rwD qv.length)) 0=some (rwD qv.length h0):=by simp[atI,ixN]
  have hcL:(Ls.map (rwD qv.length)).length<=capS:=by rw[List.length_map];exact bc (by omega)
  have hcl2:(d'.map (rwD qv.length)).length<=capS:=by rw[List.length_map,dl];exact bc (by simp;omega)
  have ld:d'.length=qv.length - (a+1):=by rw[dl,hk2];simp
  have zd:∀r∈d',∀j,j < a+1->r j=0:=fun r hr j hj=>y2 r hr j (by omega)
  by_cases neg:h' a < 0
  ·obtain⟨F',g1,g2,g3,g4,g5⟩:=ahk T sp2 y1 (s := -1) (.inr rfl) (hh:=fun j=>0 - h' j) (fun j=>by show 0 - h' j=_;omega) (by show 0 < 0 - h' a;omega)
   have nc:=ap1 qv.length h';have hcn:((List.range qv.length).map fun j=>D.int (0 - h' j)).length<=capS:=by rw[cu qv.length (fun j=>0 - h' j)];exact bc (by omega)
   refine⟨F',d',.val (rwD qv.length fun j=>0 - h' j),.val (.lst (d'.map (rwD qv.length))),q6,q7,?_,g4,ld,zd,g5,bF' (fun j=>by show(0 - h' j).natAbs=_;omega) g2 g3,bL'⟩
   rw[g1];generalize (List.range a).map (fun t=>rwD qv.length (F t))=FF at *
   have e:forD (az 6) kj (Ls.map (rwD qv.length)) [.val (hD qv),S1,.own none FF,.val (.int (a:Int)),.val (rwD qv.length h0),.own none [],o6,o7]=_:=e;unfold rwD at *;generalize (List.range qv.length).map (fun j=>D.int (0 - h' j))=z3 at *
   generalize (List.range qv.length).map (fun j=>D.int (h' j))=z1 at *
   generalize d'.map (fun r=>D.lst ((List.range qv.length).map fun j=>D.int (r j)))=DD at *
   generalize Ls.map (fun r=>D.lst ((List.range qv.length).map fun j=>D.int (r j)))=LL at *
   generalize (h0::Ls).map (fun r=>D.lst ((List.range qv.length).map fun j=>D.int (r j)))=L0 at *
   generalize (List.range qv.length).map (fun j=>D.int (h0 j))=z0 at *
   generalize h' a=xa at *;generalize (a:Int)=aa at *;generalize hD qv=hh at *;rcases hS with rfl | rfl <;> simp[ur,at0',cut,hcL,e,x1,neg,nc,hcn,hcF,hcl2]
  ·obtain⟨F',g1,g2,g3,g4,g5⟩:=ahk T sp2 y1 (s:=1) (.inl rfl) (hh:=h') (fun j=>by omega) (by omega)
   refine⟨F',d',.val (rwD qv.length h'),.val (.lst (d'.map (rwD qv.length))),q6,q7,?_,g4,ld,zd,g5,bF' (fun j=>rfl) g2 g3,bL'⟩
   rw[g1];generalize (List.range a).map (fun t=>rwD qv.length (F t))=FF at *
   have e:forD (az 6) kj (Ls.map (rwD qv.length)) [.val (hD qv),S1,.own none FF,.val (.int (a:Int)),.val (rwD qv.length h0),.own none [],o6,o7]=_:=e;unfold rwD at *;generalize (List.range qv.length).map (fun j=>D.int (h' j))=z1 at *
   generalize d'.map (fun r=>D.lst ((List.range qv.length).map fun j=>D.int (r j)))=DD at *
   generalize Ls.map (fun r=>D.lst ((List.range qv.length).map fun j=>D.int (r j)))=LL at *
   generalize (h0::Ls).map (fun r=>D.lst ((List.range qv.length).map fun j=>D.int (r j)))=L0 at *
   generalize (List.range qv.length).map (fun j=>D.int (h0 j))=z0 at *
   generalize h' a=xa at *;generalize (a:Int)=aa at *;generalize hD qv=hh at *;rcases hS with rfl | rfl <;> simp[ur,at0',cut,hcL,e,x1,neg,hcF,hcl2]
theorem as4:∃F:Nat->Rw,jt [.val (hD qv)]=some (.ok (.fr ((List.range qv.length).map fun t=>rwD qv.length (F t))),[.val (hD qv)])/\Tri qv.length qv.length F/\(∀v,Sp qv.length (fun r=>∃t,t < qv.length/\r=F t) v↔InL qv v)/\∀t,t < qv.length->∀j,j < qv.length->(F t j).natAbs<=B6:=by
 have hm:=h.most;have e0:=table_eq h;have loop:=qi (b:=az 3) (g:=ur) (fun a ρ=>∃(F:Nat->Rw) (Lr:List Rw) (S1 o3 o4 o5 o6 o7:Sl),ρ=[.val (hD qv),S1,.own none ((List.range a).map fun t=>rwD qv.length (F t)),o3,o4,o5,o6,o7]/\(S1=.own none (Lr.map (rwD qv.length))∨S1=.val (.lst (Lr.map (rwD qv.length))))/\Tri qv.length a F/\Lr.length=qv.length - a/\(∀r∈Lr,∀j,j < a->r j=0)/\(∀v,Sp qv.length (fun r=>(∃t,t < a/\r=F t)∨r∈Lr) v↔InL qv v)/\(∀t,t < a->∀j,j < qv.length->(F t j).natAbs<=Zb a)/\∀r∈Lr,∀j,j < qv.length->(r j).natAbs<=Zb a)
  (l:=rangeD 0 qv.length) (ρ:=[.val (hD qv),.own none (mtD qv.length qv.length (dsq qv)),.own none [],.emp,.emp,.emp,.emp,.emp]) 0
  ⟨fun _ _=>0,(List.range qv.length).map (dsq qv),_,.emp,.emp,.emp,.emp,.emp,rfl,.inl (by rw[List.map_map];rfl),⟨fun t ht=>by omega,fun t ht=>by omega⟩,by simp,fun r _ j hj=>by omega,fun v=>by
   rw[<-ao1 qv v];constructor
   ·exact Sp.sub fun r hr=>by
     rcases hr with⟨t,ht,_⟩ | z
     ·omega
     ·obtain⟨i,hi,rfl⟩:=List.mem_map.mp z;exact .one ⟨i,List.mem_range.mp hi,rfl⟩
   ·exact Sp.sub fun r hr=>by
     obtain⟨i,hi,rfl⟩:=hr;exact .one (.inr (List.mem_map.mpr ⟨i,List.mem_range.mpr hi,rfl⟩)),fun t ht=>by omega,fun r hr j _=>by
   obtain⟨i,hi,rfl⟩:=List.mem_map.mp hr;exact agl h (List.mem_range.mp hi)⟩ ?_
 ·obtain⟨ρ',e,F,Lr,S1,o3,o4,o5,o6,o7,rfl,_,T,ll,_,sp,bF,_⟩:=loop;have rl:(rangeD 0 qv.length).length=qv.length:=by simp[rangeD]
  rw[rl,Nat.zero_add] at e T ll sp bF;have hL:Lr=[]:=List.length_eq_zero_iff.mp (by omega)
  subst hL;refine⟨F,?_,T,fun v =>?_,fun t ht j hj=>Nat.le_trans (bF t ht j hj) (asb h6)⟩
  ·have hl:=aae qv;have hb:qv.length < 4611686018427387904:=by omega
   generalize (List.range qv.length).map (fun t=>rwD qv.length (F t))=FF at *
   generalize mtD qv.length qv.length (dsq qv)=MM at *;simp only[hD] at *;simp[jt,ae1,e0,hl,hb,e]
  ·rw[<-sp v];constructor
   ·exact Sp.sub fun r hr=>.one (.inl hr)
   ·exact Sp.sub fun r hr=>by
     rcases hr with z | z
     ·exact .one z
     ·cases z
 ·rintro a d ρ hd ⟨F,Lr,S1,o3,o4,o5,o6,o7,rfl,hS,T,ll,zl,sp,bF,bL⟩
  rw[Nat.zero_add] at *;have ha:a < qv.length:=by
   have:=(List.getElem?_eq_some_iff.mp hd).1
   simpa[rangeD] using this
  have ed:d=.int (a:Int):=by
   unfold rangeD at hd;rw[List.getElem?_map,List.getElem?_range ha] at hd;exact(Option.some.inj hd).symm.trans (by show D.int ((0:Int)+(a:Int))=_;rw[Int.zero_add])
  subst ed;obtain⟨F',Lr',q4,q5,q6,q7,e,T',l',z',s',f',b'⟩:=outer h hop h6 ha T ll zl sp bF bL S1 o4 o5 o6 o7 hS;exact⟨_,_,rfl,.inl e,F',Lr',_,_,q4,q5,q6,q7,rfl,.inr rfl,T',l',z',s',f',b'⟩
end
def zr:Rw:=fun _=>0
def sb(a:Nat)(r h:Rw):Rw:=fun j=>r j - (r a).fdiv (h a)*h j
def wg(a:Nat)(r:Rw):Nat:=if r a=0 then 1 else 2*(r a).natAbs
def pw(a:Nat):List Rw->Nat
 | []=>1
 | r::R=>wg a r*pw a R
theorem au2(a:Nat)(r:Rw):1<=wg a r:=by
 unfold wg;split <;> omega
theorem apg(a:Nat):∀R,1<=pw a R
 | []=>Nat.le_refl _
 | r::R=>Nat.mul_pos (au2 a r) (apg a R)
theorem ay8{a C:Nat}(hC:1<=C):∀R:List Rw,(∀r∈R,(r a).natAbs<=C)->pw a R<=(2*C) ^ R.length
 | [],_=>Nat.le_refl _
 | r::R,h=>by
  have h1:=h r (List.mem_cons_self ..);have h2:=ay8 hC R fun s hs=>h s (List.mem_cons_of_mem _ hs)
  show wg a r*pw a R<=(2*C) ^ (R.length+1);rw[Nat.pow_succ,Nat.mul_comm (wg a r)];refine Nat.mul_le_mul h2 ?_;unfold wg;split <;> omega
theorem au7(a:Nat)(r':Rw):∀(R:List Rw) (i:Nat),i < R.length->pw a (R.set i r')*wg a (R.getD i zr)=pw a R*wg a r'
 | [],i,h=>absurd h (Nat.not_lt_zero _)
 | r::R,0,_=>by
  show wg a r'*pw a R*wg a r=wg a r*pw a R*wg a r'
  ac_rfl
 | r::R,i+1,h=>by
  have ih:=au7 a r' R i (by simpa using h)
  show wg a r*pw a (R.set i r')*wg a (R.getD i zr)=wg a r*pw a R*wg a r';rw[Nat.mul_assoc,ih,Nat.mul_assoc]
def bts(x:Nat):Nat:=if x=0 then 0 else x.log2+1
def bsm(a:Nat):List Rw->Nat
 | []=>0
 | r::R=>bts (r a).natAbs+bsm a R
theorem ayb{x y:Nat}(hy:0 < y)(h:y<=x):bts (x % y) < bts x:=by
 have hm:=Nat.mod_lt x hy;have h2:x % y+y<=x:=by
  have e:=Nat.mod_add_div x y;have:y*1<=y*(x / y):=Nat.mul_le_mul_left y ((Nat.one_le_div_iff hy).mpr h);omega
 unfold bts;rw[if_neg (show ¬x=0 by omega)]
 split
 ·omega
 ·rename_i hz;have hx:=Nat.lt_log2_self (n:=x);rw[Nat.pow_succ] at hx;have:(x % y).log2 < x.log2:=(Nat.log2_lt hz).2 (by omega)
  omega
theorem a1e{x:Nat}(h:x < 2 ^ 8000):bts x<=8000:=by
 unfold bts;split
 ·omega
 ·rename_i hz;have:=(Nat.log2_lt hz).2 h;omega
theorem avu{a:Nat}:∀R:List Rw,(∀r∈R,(r a).natAbs < 2 ^ 8000)->bsm a R<=8000*R.length
 | [],_=>Nat.le_refl _
 | r::R,h=>by
  have h1:=a1e (h r (List.mem_cons_self ..));have h2:=avu R fun s hs=>h s (List.mem_cons_of_mem _ hs)
  show bts _+bsm a R<=8000*(R.length+1);omega
theorem ar0(a:Nat)(r':Rw):∀(R:List Rw) (i:Nat),i < R.length->bsm a (R.set i r')+bts ((R.getD i zr) a).natAbs=bsm a R+bts (r' a).natAbs
 | [],i,h=>absurd h (Nat.not_lt_zero _)
 | r::R,0,_=>by
  show bts (r' a).natAbs+bsm a R+bts (r a).natAbs=bts (r a).natAbs+bsm a R+bts (r' a).natAbs;omega
 | r::R,i+1,h=>by
  have ih:=ar0 a r' R i (by simpa using h)
  show bts (r a).natAbs+bsm a (R.set i r')+bts ((R.getD i zr) a).natAbs=bts (r a).natAbs+bsm a R+bts (r' a).natAbs;omega
theorem getD_mem{R:List Rw}{i:Nat}(h:i < R.length):R.getD i zr∈R:=by
 rw[List.getD_eq_getElem?_getD,List.getElem?_eq_getElem h];exact List.getElem_mem h
theorem acf(R:List Rw)(i k:Nat)(r:Rw)(hi:i < R.length):(R.set i r).getD k zr=if i=k then r else R.getD k zr:=by
 rw[List.getD_eq_getElem?_getD,List.getElem?_set,List.getD_eq_getElem?_getD]
 by_cases h:i=k
 ·subst h;simp[hi]
 ·simp[h]
theorem awe{n a:Nat}{R:List Rw}{i hd:Nat}(hi:i < R.length)(hh:hd < R.length)(ne:i≠hd):SpE n R (R.set i (sb a (R.getD i zr) (R.getD hd zr))):=by
 have mh:R.getD hd zr∈R.set i (sb a (R.getD i zr) (R.getD hd zr)):=by
  have:=getD_mem (R:=R.set i (sb a (R.getD i zr) (R.getD hd zr))) (i:=hd) (by simpa using hh)
  rwa[acf _ _ _ _ hi,if_neg ne] at this
 have mi:sb a (R.getD i zr) (R.getD hd zr)∈R.set i (sb a (R.getD i zr) (R.getD hd zr)):=by
  have:=getD_mem (R:=R.set i (sb a (R.getD i zr) (R.getD hd zr))) (i:=i) (by simpa using hi)
  rwa[acf _ _ _ _ hi,if_pos rfl] at this
 refine⟨fun r hr =>?_,fun r hr =>?_⟩
 ·obtain⟨k,hk,rfl⟩:=List.mem_iff_getElem.mp hr;have ek:R[k]=R.getD k zr:=by rw[List.getD_eq_getElem?_getD,List.getElem?_eq_getElem hk];rfl
  rw[ek]
  by_cases h:i=k
  ·subst h;exact(Sp.one (S:=fun s=>s∈R.set i (sb a (R.getD i zr) (R.getD hd zr))) mh).comb (c:=((R.getD i zr) a).fdiv ((R.getD hd zr) a)) (.one mi) fun j _=>by unfold sb;omega
  ·refine .one ?_;have:=getD_mem (R:=R.set i (sb a (R.getD i zr) (R.getD hd zr))) (i:=k) (by simpa using hk)
   rwa[acf _ _ _ _ hi,if_neg h] at this
 ·rcases List.mem_or_eq_of_mem_set hr with h | h
  ·exact .one h
  ·rw[h];exact(Sp.one (S:=fun s=>s∈R) (getD_mem hh)).comb (c := -((R.getD i zr) a).fdiv ((R.getD hd zr) a)) (.one (getD_mem hi)) fun j _=>by unfold sb;rw[Int.neg_mul];omega
structure Fo (n a m hd:Nat) (R0:List Rw) (C T u:Nat) (ph:Bool) (todo:List Nat) (R:List Rw):Prop where
 len:R.length=m
 hdl:hd < m
 sp:SpE n R0 R
 z:∀r∈R,∀j,j < a->r j=0
 col:∀r∈R,(r a).natAbs<=C
 hne:(R.getD hd zr) a≠0
 tod:∀i∈todo,i < m/\(R.getD i zr) a≠0/\((R.getD hd zr) a).natAbs<=((R.getD i zr) a).natAbs
 nd:todo.Nodup
 bd:∃M,(∀r∈R,∀j,j < n->(r j).natAbs<=M)/\M*pw a R*3 ^ (if ph then todo.length else 0)<=T
 us:ph=false->∀i,i < m->(0 < (R.getD hd zr) a->0<=(R.getD i zr) a)/\((R.getD hd zr) a < 0->(R.getD i zr) a<=0)
 dn:∀i,i < m->i∉todo->(0 < (R.getD hd zr) a->0<=(R.getD i zr) a)/\((R.getD hd zr) a < 0->(R.getD i zr) a<=0)
 ms:ph=false->bsm a R < u∨(bsm a R<=u/\∃i∈todo,i≠hd)
theorem Fo.skip{n a m hd:Nat}{R0 R:List Rw}{C T u:Nat}{ph:Bool}{todo:List Nat}(f:Fo n a m hd R0 C T u ph (hd::todo) R):Fo n a m hd R0 C T u ph todo R where
 len:=f.len
 hdl:=f.hdl
 sp:=f.sp
 z:=f.z
 col:=f.col
 hne:=f.hne
 tod:=fun i hi=>f.tod i (List.mem_cons_of_mem _ hi)
 nd:=(List.nodup_cons.mp f.nd).2
 bd:=by
  obtain⟨M,h1,h2⟩:=f.bd;refine⟨M,h1,Nat.le_trans (Nat.mul_le_mul_left _ (Nat.pow_le_pow_right (by decide) ?_)) h2⟩
  cases ph <;> simp
 us:=f.us
 dn:=fun i hi hn=>by
  by_cases e:i=hd
  ·subst e;exact⟨fun h=>Int.le_of_lt h,fun h=>Int.le_of_lt h⟩
  ·exact f.dn i hi (by simp[e,hn])
 ms:=fun h=>by
  rcases f.ms h with q | ⟨q,i,hi,hn⟩
  ·exact .inl q
  ·rcases List.mem_cons.mp hi with e | e
   ·exact absurd e hn
   ·exact .inr ⟨q,i,e,hn⟩
theorem Fo.all{n a m hd:Nat}{R0 R:List Rw}{C T u:Nat}{ph:Bool}{todo:List Nat}(f:Fo n a m hd R0 C T u ph todo R):∀r∈R,∀j,j < n->(r j).natAbs<=T:=fun r hr j hj=>by
 obtain⟨M,h1,h2⟩:=f.bd;have p1:=apg a R;have p2:1<=3 ^ (if ph then todo.length else 0):=Nat.one_le_pow _ _ (by decide)
 have:=Nat.le_mul_of_pos_right M p1;have:=Nat.le_mul_of_pos_right (M*pw a R) p2;have:=h1 r hr j hj;omega
theorem avz{a:Nat}{r h:Rw}(hr:r a≠0)(hh:h a≠0)(hl:(h a).natAbs<=(r a).natAbs):wg a (sb a r h)*(1+((r a).fdiv (h a)).natAbs)<=3*wg a r/\((0 < h a/\0<=r a)∨(h a < 0/\r a<=0)->wg a (sb a r h)*(1+((r a).fdiv (h a)).natAbs)<=wg a r):=by
 obtain⟨n1,_,_,n4,n5⟩:=adt (x:=r a) (y:=h a) hh;have es:(sb a r h) a=r a - (r a).fdiv (h a)*h a:=rfl;have y1:1<=(h a).natAbs:=by omega
 have ql:=Nat.le_mul_of_pos_right ((r a).fdiv (h a)).natAbs y1;have e1:wg a r=2*(r a).natAbs:=by unfold wg;rw[if_neg hr]
 rw[e1]
 by_cases z:r a - (r a).fdiv (h a)*h a=0
 ·have e2:wg a (sb a r h)=1:=by unfold wg;rw[es,if_pos z]
  have e3:((r a).fdiv (h a)).natAbs*(h a).natAbs=(r a).natAbs:=by
   rw[<-Int.natAbs_mul]
   congr 1
   omega
  rw[e2];exact⟨by omega,fun _=>by omega⟩
 ·have e2:wg a (sb a r h)=2*(r a - (r a).fdiv (h a)*h a).natAbs:=by unfold wg;rw[es,if_neg z]
  rw[e2];generalize hx':(r a - (r a).fdiv (h a)*h a).natAbs=x' at *;generalize ((r a).fdiv (h a)).natAbs=q at *;generalize (h a).natAbs=y at *;generalize (r a).natAbs=x at *;have m1:x'*q<=q*y:=by rw[Nat.mul_comm];exact Nat.mul_le_mul_left _ (by omega)
  refine⟨?_,fun s =>?_⟩
  ·simp only[Nat.mul_add,Nat.mul_assoc,Nat.mul_one];omega
  ·have:=(n5 s).1;simp only[Nat.mul_add,Nat.mul_assoc,Nat.mul_one];omega
theorem Fo.up{n a m hd:Nat}{R0 R:List Rw}{C T u:Nat}{ph:Bool}{todo:List Nat}{i:Nat}(f:Fo n a m hd R0 C T u ph (i::todo) R)(ne:i≠hd):Fo n a m hd R0 C T u ph todo (R.set i (sb a (R.getD i zr) (R.getD hd zr))):=by
 obtain⟨hi,hx,hxy⟩:=f.tod i (List.mem_cons_self ..);obtain⟨ni,nd⟩:=List.nodup_cons.mp f.nd;have hiR:i < R.length:=by rw[f.len];exact hi
 have hhR:hd < R.length:=by rw[f.len];exact f.hdl
 obtain⟨n1,n2,n3,n4,n5⟩:=adt (x:=(R.getD i zr) a) (y:=(R.getD hd zr) a) f.hne;obtain⟨w1,w2⟩:=avz hx f.hne hxy;have gh:(R.set i (sb a (R.getD i zr) (R.getD hd zr))).getD hd zr=R.getD hd zr:=by rw[acf _ _ _ _ hiR,if_neg ne]
 have gi:(R.set i (sb a (R.getD i zr) (R.getD hd zr))).getD i zr=sb a (R.getD i zr) (R.getD hd zr):=by rw[acf _ _ _ _ hiR,if_pos rfl]
 have gk:∀k,k≠i->(R.set i (sb a (R.getD i zr) (R.getD hd zr))).getD k zr=R.getD k zr:=fun k hk=>by rw[acf _ _ _ _ hiR,if_neg (Ne.symm hk)]
 have es:(sb a (R.getD i zr) (R.getD hd zr)) a=(R.getD i zr) a - ((R.getD i zr) a).fdiv ((R.getD hd zr) a)*(R.getD hd zr) a:=rfl;have sg:(0 < (R.getD hd zr) a->0<=(sb a (R.getD i zr) (R.getD hd zr)) a)/\((R.getD hd zr) a < 0->(sb a (R.getD i zr) (R.getD hd zr)) a<=0):=⟨n2,n3⟩;have same:ph=false->(0 < (R.getD hd zr) a/\0<=(R.getD i zr) a)∨((R.getD hd zr) a < 0/\(R.getD i zr) a<=0):=fun h=>by
  have:=f.us h i hi;have:=f.hne;omega
 have ps:=au7 a (sb a (R.getD i zr) (R.getD hd zr)) R i hiR;refine⟨by rw[List.length_set];exact f.len,f.hdl,f.sp.trans (awe hiR hhR ne),fun r hr j hj =>?_,fun r hr =>?_,by rw[gh];exact f.hne,fun k hk =>?_,nd,?_,fun h k hk =>?_,fun k hk hn =>?_,fun h=>.inl ?_⟩
 ·rcases List.mem_or_eq_of_mem_set hr with q | q
  ·exact f.z r q j hj
  ·rw[q];unfold sb;rw[f.z _ (getD_mem hiR) j hj,f.z _ (getD_mem hhR) j hj,Int.mul_zero];rfl
 ·rcases List.mem_or_eq_of_mem_set hr with q | q
  ·exact f.col r q
  ·rw[q,es];have:=f.col _ (getD_mem hhR);omega
 ·have nk:k≠i:=fun e=>ni (e▸hk)
  rw[gh,gk k nk];exact f.tod k (List.mem_cons_of_mem _ hk)
 ·obtain⟨M,h1,h2⟩:=f.bd;refine⟨M*(1+(((R.getD i zr) a).fdiv ((R.getD hd zr) a)).natAbs),fun r hr j hj =>?_,?_⟩
  ·rcases List.mem_or_eq_of_mem_set hr with q | q
   ·exact Nat.le_trans (h1 r q j hj) (Nat.le_mul_of_pos_right _ (by omega))
   ·rw[q];have a1:=h1 _ (getD_mem hiR) j hj;have a2:=h1 _ (getD_mem hhR) j hj;have a3:=Nat.mul_le_mul_left (((R.getD i zr) a).fdiv ((R.getD hd zr) a)).natAbs a2;have a4:((sb a (R.getD i zr) (R.getD hd zr)) j).natAbs<=((R.getD i zr) j).natAbs+(((R.getD i zr) a).fdiv ((R.getD hd zr) a)).natAbs*((R.getD hd zr) j).natAbs:=by
     rw[<-Int.natAbs_mul];unfold sb;omega
    rw[Nat.mul_add,Nat.mul_one,Nat.mul_comm M];omega
  ·generalize wg a (sb a (R.getD i zr) (R.getD hd zr))=w' at *;have wp:=au2 a (R.getD i zr);generalize wg a (R.getD i zr)=w at *;generalize (((R.getD i zr) a).fdiv ((R.getD hd zr) a)).natAbs=q at *;generalize pw a (R.set i (sb a (R.getD i zr) (R.getD hd zr)))=P' at *;generalize pw a R=P at *;have key:∀c,w'*(1+q)<=c*w->P'*(1+q)<=c*P:=fun c hc=>by
    refine Nat.le_of_mul_le_mul_right (c:=w) ?_ wp
    calc P'*(1+q)*w=P'*w*(1+q):=by ac_rfl
     _=P*(w'*(1+q)):=by rw[ps];ac_rfl
     _<=P*(c*w):=Nat.mul_le_mul_left _ hc
     _=c*P*w:=by ac_rfl
   cases ph with
   | true =>
    have k3:=key 3 w1;simp only[if_true,List.length_cons,Nat.pow_succ] at h2 ⊢
    refine Nat.le_trans ?_ h2
    calc M*(1+q)*P'*3 ^ todo.length=M*(P'*(1+q))*3 ^ todo.length:=by ac_rfl
     _<=M*(3*P)*3 ^ todo.length:=Nat.mul_le_mul_right _ (Nat.mul_le_mul_left _ k3)
     _=M*P*(3 ^ todo.length*3):=by ac_rfl
   | false =>
    have k1:=key 1 (by rw[Nat.one_mul];exact w2 (same rfl))
    simp only[Bool.false_eq_true,if_false] at h2 ⊢
    refine Nat.le_trans ?_ h2
    calc M*(1+q)*P'*3 ^ 0=M*(P'*(1+q))*3 ^ 0:=by ac_rfl
     _<=M*(1*P)*3 ^ 0:=Nat.mul_le_mul_right _ (Nat.mul_le_mul_left _ k1)
     _=M*P*3 ^ 0:=by rw[Nat.one_mul]
 ·rw[gh]
  by_cases e:k=i
  ·rw[e,gi];exact sg
  ·rw[gk k e];exact f.us h k hk
 ·rw[gh]
  by_cases e:k=i
  ·rw[e,gi];exact sg
  ·rw[gk k e];exact f.dn k hk (by simp[e,hn])
 ·have b1:=ar0 a (sb a (R.getD i zr) (R.getD hd zr)) R i hiR;have e5:=(n5 (same h)).2;rw[es,e5] at b1;have:=ayb (x:=((R.getD i zr) a).natAbs) (y:=((R.getD hd zr) a).natAbs) (by have:=f.hne;omega) hxy
  rcases f.ms h with q | ⟨q,_⟩ <;> omega
theorem ame{n:Nat}(hn:n<=100)(f r:Rw)(t:Int)(ht:t.natAbs < bgM)(hr:∀j,j < n->(r j).natAbs < bgM):ahe [.val (rwD n f),.val (.int t),.val (rwD n r)]=some (.ok (.fr ((List.range n).map fun j=>.int (f j - t*r j))),[.val (rwD n f),.val (.int t),.val (rwD n r)]):=by
 obtain⟨q1,q2,e⟩:=alc (n:=n) f r t ht hr;rw[show qj=aq4 from rfl] at e
 have l1:=cu n f;have l2:=cu n r;have l3:=cu n (fun j=>f j - t*r j)
 have hc:((List.range n).map fun j=>D.int (f j - t*r j)).length<=capS:=by rw[l3];exact bc (by omega)
 unfold rwD;generalize (List.range n).map (fun j=>D.int (f j - t*r j))=z3 at *
 generalize (List.range n).map (fun j=>D.int (f j))=z1 at *
 generalize (List.range n).map (fun j=>D.int (r j))=z2 at *
 have hle:z1.length<=z2.length:=by omega
 simp[ahe,avk,hle,e,hc]
theorem W_at{n:Nat}{R:List Rw}{i:Nat}(hi:i < R.length):atI (R.map (rwD n)) (i:Int)=some (rwD n (R.getD i zr)):=by
 have e:ixN (R.map (rwD n)).length (i:Int)=some i:=by
  unfold ixN;rw[List.length_map,if_pos (by omega)]
  simp[hi]
 unfold atI;rw[e];show(R.map (rwD n))[i]? = _;rw[List.getElem?_map,List.getElem?_eq_getElem hi,List.getD_eq_getElem?_getD,List.getElem?_eq_getElem hi];rfl
theorem ax0{n a hd:Nat}(W:List D)(S0 S3 o5 o6:Sl):ym [S0,.val (.int (a:Int)),.own none W,S3,.val (.int (hd:Int)),o5,o6,.val (.int (hd:Int))]=some (.nx,[S0,.val (.int (a:Int)),.own none W,S3,.val (.int (hd:Int)),o5,o6,.val (.int (hd:Int))]):=by
 generalize (a:Int)=aa;generalize (hd:Int)=hh;simp[ym]
theorem a5c{n a hd i:Nat}(hn:n<=100)(ha:a < n){R:List Rw}(hi:i < R.length)(hh:hd < R.length)(ne:i≠hd)(hne:(R.getD hd zr) a≠0)(hy:((R.getD hd zr) a).natAbs < bgD)(hq:(((R.getD i zr) a).fdiv ((R.getD hd zr) a)).natAbs < bgM)(hr:∀j,j < n->((R.getD hd zr) j).natAbs < bgM)(S0 S3 o5 o6:Sl) :
  ym [S0,.val (.int (a:Int)),.own none (R.map (rwD n)),S3,.val (.int (hd:Int)),o5,o6,.val (.int (i:Int))]=some (.nx,[S0,.val (.int (a:Int)),.own none ((R.set i (sb a (R.getD i zr) (R.getD hd zr))).map (rwD n)),S3,.val (.int (hd:Int)),o5,o6,.val (.int (i:Int))]):=by
 have e:=ame hn (R.getD i zr) (R.getD hd zr) (((R.getD i zr) a).fdiv ((R.getD hd zr) a)) hq hr;have x1:=W_at (n:=n) hi;have x2:=W_at (n:=n) hh;have y1:=uc (r:=R.getD i zr) ha;have y2:=uc (r:=R.getD hd zr) ha;have fd:adq ((R.getD i zr) a) ((R.getD hd zr) a)=some (((R.getD i zr) a).fdiv ((R.getD hd zr) a)):=by unfold adq;rw[if_pos ⟨hne,hy⟩]
 have ix:ixN (R.map (rwD n)).length (i:Int)=some i:=by
  unfold ixN;rw[List.length_map,if_pos (by omega)]
  simp[hi]
 have es:(R.set i (sb a (R.getD i zr) (R.getD hd zr))).map (rwD n)=(R.map (rwD n)).set i (rwD n fun j=>(R.getD i zr) j - ((R.getD i zr) a).fdiv ((R.getD hd zr) a)*(R.getD hd zr) j):=by
  rw[List.map_set];rfl
 have nei:¬(i:Int)=(hd:Int):=by omega
 rw[es];unfold rwD at *;generalize ((R.getD i zr) a).fdiv ((R.getD hd zr) a)=q at *;generalize (List.range n).map (fun j=>D.int ((R.getD i zr) j - q*(R.getD hd zr) j))=z3 at *
 generalize (List.range n).map (fun j=>D.int ((R.getD i zr) j))=z1 at *
 generalize (List.range n).map (fun j=>D.int ((R.getD hd zr) j))=z2 at *
 generalize R.map (fun r=>D.lst ((List.range n).map fun j=>D.int (r j)))=W at *
 generalize (R.getD i zr) a=xi at *;generalize (R.getD hd zr) a=xh at *;generalize (i:Int)=ii at *;generalize (hd:Int)=h9 at *;generalize (a:Int)=aa at *;simp[ym,nei,x1,x2,y1,y2,fd,e,asI,ix]
theorem ak8{n a m hd:Nat}{R0:List Rw}{C T u:Nat}{ph:Bool}(hn:n<=100)(ha:a < n)(hC:C < bgD)(hT:T < bgM)(S0 S3 o5 o6:Sl):∀(todo:List Nat) (R:List Rw) (o7:Sl),Fo n a m hd R0 C T u ph todo R ->
  ∃(R':List Rw) (q7:Sl),Fo n a m hd R0 C T u ph [] R'/\(q7=o7∨∃d,q7=.val d)/\forD (az 7) ym (todo.map fun i:Nat=>D.int (i:Int)) [S0,.val (.int (a:Int)),.own none (R.map (rwD n)),S3,.val (.int (hd:Int)),o5,o6,o7]=some (.nx,[S0,.val (.int (a:Int)),.own none (R'.map (rwD n)),S3,.val (.int (hd:Int)),o5,o6,q7])
 | [],R,o7,f=>⟨R,o7,f,.inl rfl,rfl⟩
 | i::todo,R,o7,f=>by
  by_cases e:i=hd
  ·subst e;obtain⟨R',q7,f',h7,e'⟩:=ak8 hn ha hC hT S0 S3 o5 o6 todo R (.val (.int (i:Int))) f.skip;refine⟨R',q7,f',.inr (by rcases h7 with h | h;exact⟨_,h⟩;exact h),?_⟩
   rw[List.map_cons,ut];simp only[am8,List.set_cons_succ,List.set_cons_zero];rw[ax0 (n:=n)];exact e'
  ·obtain⟨R',q7,f',h7,e'⟩:=ak8 hn ha hC hT S0 S3 o5 o6 todo _ (.val (.int (i:Int))) (f.up e);refine⟨R',q7,f',.inr (by rcases h7 with h | h;exact⟨_,h⟩;exact h),?_⟩
   obtain⟨hi,hx,hxy⟩:=f.tod i (List.mem_cons_self ..);have hiR:i < R.length:=by rw[f.len];exact hi
   have hhR:hd < R.length:=by rw[f.len];exact f.hdl
   have n4:=(adt (x:=(R.getD i zr) a) (y:=(R.getD hd zr) a) f.hne).2.2.2.1;have ql:=Nat.le_mul_of_pos_right (((R.getD i zr) a).fdiv ((R.getD hd zr) a)).natAbs (show 1<=((R.getD hd zr) a).natAbs by have:=f.hne;omega)
   have c1:=f.col _ (getD_mem hiR);have c2:=f.col _ (getD_mem hhR);have bb:C+C < bgM:=by
    have h1:bgD=2 ^ 8000:=by unfold bgD;rfl
    have h2:(2:Nat) ^ 8001<=bgM:=by unfold bgM;exact Nat.pow_le_pow_right (by decide) (by decide)
    have h3:(2:Nat) ^ 8001=2 ^ 8000*2:=Nat.pow_succ ..
    omega
   rw[List.map_cons,ut];simp only[am8,List.set_cons_succ,List.set_cons_zero];rw[a5c hn ha hiR hhR e f.hne (by omega) (by omega) (fun j hj=>Nat.lt_of_le_of_lt (f.all _ (getD_mem hhR) j hj) hT)]
   exact e'
def alv(a:Nat)(R:List Rw):List Nat:=(List.range R.length).filter fun i=>decide ((R.getD i zr) a≠0)
theorem xf{a:Nat}{R:List Rw}{i:Nat}:i∈alv a R↔i < R.length/\(R.getD i zr) a≠0:=by
 unfold alv;rw[List.mem_filter,List.mem_range,decide_eq_true_iff]
theorem aok{n a:Nat}(ha:a < n)(R:List Rw):∃q1 q2,compD (bTup 2 (dh (az 0) (dh (az 1) bNil))) aau aat (aag (R.map (rwD n))) [] [.emp,.emp,.val (.int (a:Int))]=some (.ok ((alv a R).map fun i:Nat=>D.int (i:Int)),[q1,q2,.val (.int (a:Int))]):=by
 have comp:=mz (b:=bTup 2 (dh (az 0) (dh (az 1) bNil))) (mc:=aau) (me:=aat) (fun j ys ρ=>∃o1 o2:Sl,ρ=[o1,o2,.val (.int (a:Int))]/\ys=((List.range j).filter fun i=>decide ((R.getD i zr) a≠0)).map fun i:Nat=>D.int (i:Int))
  (l:=aag (R.map (rwD n))) (ys:=[]) (ρ:=[.emp,.emp,.val (.int (a:Int))]) 0 ⟨.emp,.emp,rfl,rfl⟩ ?_
 ·obtain⟨ys,ρ',e6,o1,o2,rfl,rfl⟩:=comp;rw[qz,List.length_map,Nat.zero_add] at e6;exact⟨o1,o2,e6⟩
 ·rintro j z ys ρ hd ⟨o1,o2,rfl,rfl⟩
  obtain⟨d0,hd0,rfl⟩:=uw hd;have hj:j < R.length:=by
   have:=(List.getElem?_eq_some_iff.mp hd0).1
   simpa using this
  have ed:d0=rwD n (R.getD j zr):=by
   rw[List.getElem?_map,List.getElem?_eq_getElem hj] at hd0;rw[List.getD_eq_getElem?_getD,List.getElem?_eq_getElem hj];exact(Option.some.inj hd0).symm
  subst ed;have y1:=uc (r:=R.getD j zr) ha;rw[Nat.zero_add];refine⟨[.val (.int (j:Int)),.val (rwD n (R.getD j zr)),.val (.int (a:Int))],[.val (.int (j:Int)),.val (rwD n (R.getD j zr)),.val (.int (a:Int))],decide ((R.getD j zr) a≠0),by simp,?_,?_⟩
  ·unfold rwD;generalize (List.range n).map (fun k=>D.int ((R.getD j zr) k))=z1 at *
   generalize (R.getD j zr) a=x at *;generalize (a:Int)=aa at *
   by_cases hx0:x=0 <;> simp[aau,y1,hx0]
  ·rw[List.range_succ,List.filter_append]
   by_cases hx:(R.getD j zr) a=0
   ·have hx2:R[j]?.getD zr a=0:=by rw[<-List.getD_eq_getElem?_getD];exact hx
    refine .inl ⟨by simp[hx2],_,_,rfl,?_⟩
    simp[hx2]
   ·have hx2:¬R[j]?.getD zr a=0:=by rw[<-List.getD_eq_getElem?_getD];exact hx
    refine .inr ⟨by simp[hx2],.int (j:Int),[.val (.int (j:Int)),.val (rwD n (R.getD j zr)),.val (.int (a:Int))],by simp[aat],_,_,rfl,?_⟩
    simp[hx2]
theorem awg(n:Nat)(r:Rw):agw (rwD n r)=true:=by
 unfold rwD;show List.all _ ak9=true;rw[List.all_map];exact List.all_eq_true.mpr fun _ _=>rfl
theorem anc{n a:Nat}(ha:a < n)(R:List Rw)(hl:R.length<=100)(d0:D)(o3 o4 o5 o6 o7:Sl)(k3:okT o3=true)(k4:okT o4=true)(k5:okT o5=true)(k6:okT o6=true)(k7:okT o7=true) :
  ag6 2 1 (j7 [none,none,some 1] (mGet aby (bw (mVar 2) mNil)) (bTup 2 (dh (az 0) (dh (az 1) bNil))) aau aat) [.val d0,.val (.int (a:Int)),.own none (R.map (rwD n)),o3,o4,o5,o6,o7]=some (.ok (.fr ((alv a R).map fun i:Nat=>D.int (i:Int))),[.val d0,.val (.int (a:Int)),.own none (R.map (rwD n)),o3,o4,o5,o6,o7]):=by
 obtain⟨q1,q2,e⟩:=aok (n:=n) ha R;have hal:(alv a R).length<=R.length:=by
  unfold alv;exact Nat.le_trans (List.length_filter_le ..) (by simp)
 have hc:((alv a R).map fun i:Nat=>D.int (i:Int)).length<=capS:=by rw[List.length_map];exact bc (by omega)
 have hf2:((alv a R).map fun i:Nat=>D.int (i:Int)).all ac1=true:=by
  rw[List.all_map];exact List.all_eq_true.mpr fun _ _=>rfl
 have hf3:(R.map (rwD n)).all agw=true:=by
  rw[List.all_map];exact List.all_eq_true.mpr fun r _=>awg n r
 generalize (alv a R).map (fun i:Nat=>D.int (i:Int))=al at *
 generalize R.map (rwD n)=W at *;generalize (a:Int)=aa at *;have hm:j7 [none,none,some 1] (mGet aby (bw (mVar 2) mNil)) (bTup 2 (dh (az 0) (dh (az 1) bNil))) aau aat [.val d0,.val (.int aa),.own none W,o3,o4,o5,o6,o7]=some (.ok (.fr al),[.val d0,.val (.int aa),.val (.lst W),o3,o4,o5,o6,o7]):=by
  simp[e,hc]
 rw[aqb,hm];simp[hf2,hf3,okT];exact⟨k3,k4,k5,k6,k7⟩
theorem akz(kf:Int->Int):∀(r:List Int) (b:Int),minK kf r b∈b::r/\∀y∈b::r,kf (minK kf r b)<=kf y
 | [],b=>⟨List.mem_cons_self ..,fun y hy=>by
  rw[List.mem_singleton.mp hy];exact Int.le_refl _⟩
 | n::r,b=>by
  by_cases c:kf n < kf b
  ·have e:minK kf (n::r) b=minK kf r n:=by show(if _ then _ else _)=_;rw[if_pos c]
   obtain⟨h1,h2⟩:=akz kf r n;rw[e];refine⟨List.mem_cons_of_mem _ h1,fun y hy =>?_⟩
   rcases List.mem_cons.mp hy with q | q
   ·have:=h2 n (List.mem_cons_self ..);rw[q];omega
   ·exact h2 y q
  ·have e:minK kf (n::r) b=minK kf r b:=by show(if _ then _ else _)=_;rw[if_neg c]
   obtain⟨h1,h2⟩:=akz kf r b;rw[e];refine⟨?_,fun y hy =>?_⟩
   ·rcases List.mem_cons.mp h1 with q | q
    ·rw[q];exact List.mem_cons_self ..
    ·exact List.mem_cons_of_mem _ (List.mem_cons_of_mem _ q)
   ·rcases List.mem_cons.mp hy with q | q
    ·rw[q];exact h2 b (List.mem_cons_self ..)
    ·rcases List.mem_cons.mp q with w | w
     ·have:=h2 b (List.mem_cons_self ..);rw[w];omega
     ·exact h2 y (List.mem_cons_of_mem _ w)
theorem axq{n a:Nat}(ha:a < n)(R:List Rw)(hne:alv a R≠[])(S0 o4 o5 o6 o7:Sl):∃hd:Nat,hd∈alv a R/\(∀i∈alv a R,((R.getD hd zr) a).natAbs<=((R.getD i zr) a).natAbs)/\ap9 3 2 1 [S0,.val (.int (a:Int)),.own none (R.map (rwD n)),.own none ((alv a R).map fun i:Nat=>D.int (i:Int)),o4,o5,o6,o7]=some (.ok (.int (hd:Int)),[S0,.val (.int (a:Int)),.own none (R.map (rwD n)),.own none ((alv a R).map fun i:Nat=>D.int (i:Int)),o4,o5,o6,o7]):=by
 have key:∀i,i < R.length->keyM (R.map (rwD n)) (a:Int) (i:Int)=some (((R.getD i zr) a).natAbs:Int):=fun i hi=>by
  unfold keyM;rw[W_at hi];have y1:=uc (r:=R.getD i zr) ha;show(match atI ((List.range n).map fun j=>D.int ((R.getD i zr) j)) (a:Int) with
   | some (.int a)=>some (if a < 0 then -a else a)
   | _=>none)=_
  rw[y1];show some (if (R.getD i zr) a < 0 then -(R.getD i zr) a else (R.getD i zr) a)=_
  congr 1
  split <;> omega
 have ei:aa2 ((alv a R).map fun i:Nat=>D.int (i:Int))=some ((alv a R).map fun i:Nat=>(i:Int)):=by
  have:=aga ((alv a R).map fun i:Nat=>(i:Int))
  rw[List.map_map] at this;exact this
 cases hal:(alv a R).map fun i:Nat=>(i:Int) with
 | nil=>exact absurd (List.map_eq_nil_iff.mp hal) hne
 | cons b r =>
  obtain⟨h1,h2⟩:=akz (fun m=>(keyM (R.map (rwD n)) (a:Int) m).getD 0) r b
  rw[<-hal] at h1 h2;obtain⟨hd,hm,ehd⟩:=List.mem_map.mp h1;have hall:∀m∈b::r,(keyM (R.map (rwD n)) (a:Int) m).isSome=true:=fun m hmm=>by
   rw[<-hal] at hmm;obtain⟨i,hi,rfl⟩:=List.mem_map.mp hmm;rw[key i (xf.mp hi).1];rfl
  refine⟨hd,hm,fun i hi =>?_,?_⟩
  ·have h3:=h2 (i:Int) (List.mem_map.mpr ⟨i,hi,rfl⟩);rw[<-ehd] at h3;have h3:(keyM (R.map (rwD n)) (a:Int) (hd:Int)).getD 0<=(keyM (R.map (rwD n)) (a:Int) (i:Int)).getD 0:=h3;rw[key hd (xf.mp hm).1,key i (xf.mp hi).1] at h3;have h3:(((R.getD hd zr) a).natAbs:Int)<=(((R.getD i zr) a).natAbs:Int):=h3;omega
  ·rw[hal] at ei;rw[ehd];show(match aa2 ((alv a R).map fun i:Nat=>D.int (i:Int)) with
    | some (n'::r')=>if (n'::r').all (fun m=>(keyM (R.map (rwD n)) (a:Int) m).isSome)=true then some (Out.ok (D.int (minK (fun m=>(keyM (R.map (rwD n)) (a:Int) m).getD 0) r' n')),_) else none
    | _=>none)=_
   rw[ei];show(if (b::r).all _=true then _ else _)=_
   rw[if_pos (List.all_eq_true.mpr hall)]
theorem amu(neg:Bool)(a b:List Int):gEq neg (.lst (a.map D.int)) (.lst (b.map D.int))=some (.v (.bl (if neg then !decide (a=b) else decide (a=b)))):=by
 have h1:okD 30 (.lst (a.map D.int))=true:=af4 29 a;have h2:okD 30 (.lst (b.map D.int))=true:=af4 29 b;have h3:eqD (.lst (a.map D.int)) (.lst (b.map D.int))=decide (a=b):=by
  rw[<-ail];exact ald _ _
 simp only[gEq,h1,h2,h3];rfl
def rcD(cs:List Nat)(rows:List Rw):List D:=rows.map fun r=>.lst (cs.map fun c=>.int (r c))
theorem a3g(cs:List Nat)(rows:List Rw):(rcD cs rows).all (okD 29)=true:=by
 unfold rcD;rw[List.all_eq_true];intro d hd;obtain⟨i,_,rfl⟩:=List.mem_map.mp hd;show(cs.map fun c=>D.int (i c)).all (okD 28)=true
 rw[List.all_eq_true];intro d hd;obtain⟨c,_,rfl⟩:=List.mem_map.mp hd;rfl
theorem avl(cs:List Nat)(rows:List Rw):gEq false (.lst (rcD cs rows)) (.lst [])=some (.v (.bl rows.isEmpty)):=by
 have h1:okD 30 (.lst (rcD cs rows))=true:=a3g cs rows;have h2:okD 30 (.lst [])=true:=rfl;have h3:eqD (.lst (rcD cs rows)) (.lst [])=rows.isEmpty:=by cases rows <;> rfl
 simp only[gEq,h1,h2,h3];rfl
theorem cutF{l:List D}{k:Int}(h0:0<=k)(h1:k.toNat<=l.length):cutD l (some k) none=l.drop k.toNat:=by
 unfold cutD;rw[afx h0];have:HT.sIx l.length l.length none=l.length:=rfl;rw[this,Nat.min_eq_left h1];exact List.take_of_length_le (by simp)
theorem cutT{l:List D}{k:Nat}(h1:k<=l.length):cutD l none (some (k:Int))=l.take k:=by
 unfold cutD;rw[afx (by omega)]
 have:HT.sIx l.length 0 none=0:=rfl;rw[this,Int.toNat_natCast,Nat.min_eq_left h1,Nat.sub_zero,List.drop_zero]
theorem aum(φ:Fd)(c:Nat)(cs:List Nat)(R:List Rw)(k:Nat)(hl:cs.length<=100):∃o1 o2,compD (bTup 2 (dh (az 0) (dh (az 1) bNil))) (vg φ) (abb φ) (aag (rcD (c::cs) R)) [] [.emp,.emp,.val (.int (k:Int))]=some (.ok (rcD cs (R.eraseIdx k)),[o1,o2,.val (.int (k:Int))]):=by
 have comp:=mz (b:=bTup 2 (dh (az 0) (dh (az 1) bNil))) (mc:=vg φ) (me:=abb φ) (fun j ys ρ=>∃o1 o2:Sl,ρ=[o1,o2,.val (.int (k:Int))]/\ys=rcD cs ((R.take j).eraseIdx k))
  (l:=aag (rcD (c::cs) R)) (ys:=[]) (ρ:=[.emp,.emp,.val (.int (k:Int))]) 0 ⟨.emp,.emp,rfl,by simp[rcD]⟩ ?_
 ·obtain⟨ys,ρ',e6,o1,o2,rfl,rfl⟩:=comp;have:(rcD (c::cs) R).length=R.length:=List.length_map ..
  rw[qz,this,Nat.zero_add,List.take_length] at e6;exact⟨o1,o2,e6⟩
 ·rintro j d ys ρ hd ⟨o1,o2,rfl,rfl⟩
  obtain⟨d0,g1,rfl⟩:=uw hd;unfold rcD at g1;rw[List.getElem?_map] at g1;obtain⟨r,er,rfl⟩:=Option.map_eq_some_iff.mp g1;have hj:j < R.length:=(List.getElem?_eq_some_iff.mp er).1;have et:R.take (j+1)=R.take j++[r]:=by rw[List.take_add_one,er];rfl
  rw[Nat.zero_add,et];have tl:(R.take j).length=j:=by rw[List.length_take];omega
  have ec:∀l:List D,vg φ [.val (.int (j:Int)),.val (.lst l),.val (.int (k:Int))]=some (.ok (decide (j≠k)),[.val (.int (j:Int)),.val (.lst l),.val (.int (k:Int))]):=fun l=>by
   by_cases q:j=k
   ·subst q;simp[vg]
   ·have:¬(j:Int)=(k:Int):=by omega
    simp[vg,q,this]
  by_cases q:j=k
  ·subst q;have ec:=ec ((c::cs).map fun x=>D.int (r x))
   rw[decide_eq_false (by simp)] at ec
   refine⟨[.val (.int (j:Int)),.val (.lst ((c::cs).map fun x=>.int (r x))),.val (.int (j:Int))],_,false,by simp,ec,.inl ⟨rfl,_,_,rfl,?_⟩⟩
   rw[List.eraseIdx_append_of_length_le (by omega),tl,Nat.sub_self,List.eraseIdx_of_length_le (l:=R.take j) (by omega)]
   simp
  ·have ec:=ec ((c::cs).map fun x=>D.int (r x))
   rw[decide_eq_true q] at ec;have cut:cutD ((c::cs).map fun x=>D.int (r x)) (some 1) none=cs.map fun x=>D.int (r x):=by
    rw[cutF (by decide) (by simp)]
    rfl
   have hc:(cs.map fun x=>D.int (r x)).length<=capS:=by rw[List.length_map];exact bc (by omega)
   refine⟨[.val (.int (j:Int)),.val (.lst ((c::cs).map fun x=>.int (r x))),.val (.int (k:Int))],_,true,by simp,ec,.inr ⟨rfl,.lst (cs.map fun x=>.int (r x)),[.val (.int (j:Int)),.val (.lst ((c::cs).map fun x=>.int (r x))),.val (.int (k:Int))],?_,_,_,rfl,?_⟩⟩
   ·generalize (c::cs).map (fun x=>D.int (r x))=LL at *
    generalize cs.map (fun x=>D.int (r x))=L1 at *
    simp[abb,cut,hc]
   ·have:(R.take j++[r]).eraseIdx k=(R.take j).eraseIdx k++[r]:=by
     rcases Nat.lt_or_ge k j with z | z
     ·exact List.eraseIdx_append_of_lt_length (by omega) _
     ·rw[List.eraseIdx_of_length_le (by simp;omega),List.eraseIdx_of_length_le (by omega)]
    rw[this];unfold rcD;rw[List.map_append];rfl
def sgn(k:Nat):Int:=1 - 2*((k:Int) % 2)
theorem a3f(k:Nat):sgn (k+1) = - sgn k:=by
 unfold sgn;omega
theorem aq0(p q:List Rw)(r:Rw):(p++r::q).eraseIdx p.length=p++q:=by
 rw[List.eraseIdx_append_of_length_le (Nat.le_refl _),Nat.sub_self];rfl
section
variable{φ:Fd}{c:Nat}{cs:List Nat}{R:List Rw}(hi:cs.length<=20)(hcl:R.length<=21)(hb:∀r∈R,∀j,(r j).natAbs<=1000000000000)
include hi hcl hb
theorem ax7(p q:List Rw)(r:Rw)(hc:R=p++r::q)(hφ:φ [.val (.lst (rcD cs (p++q)))]=some (.ok (.v (.int (det cs (p++q)))),[.val (.lst (rcD cs (p++q)))]))(t:Int)(o4:Sl):∃q4,l1__law_det φ [.val (.lst (rcD (c::cs) R)),.val (.int t),.val (.int (p.length:Int)),.val (.lst ((c::cs).map fun x=>.int (r x))),o4]=some (.nx,[.val (.lst (rcD (c::cs) R)),.val (.int (t+r c*sgn p.length*det cs (p++q))),.val (.int (p.length:Int)),.val (.lst ((c::cs).map fun x=>.int (r x))),q4]):=by
 have a0:atI ((c::cs).map fun x=>D.int (r x)) 0=some (.int (r c)):=by simp[atI,ixN]
 by_cases z:r c=0
 ·refine⟨o4,?_⟩;rw[z] at a0;rw[z,Int.zero_mul,Int.zero_mul,Int.add_zero];generalize (c::cs).map (fun x=>D.int (r x))=LL at *
  simp[l1__law_det,a0]
 ·obtain⟨o1,o2,e1⟩:=aum φ c cs R p.length (by omega)
  have hr:=hb r (by rw[hc];simp) c
  rw[hc,aq0,<-hc] at e1;refine⟨.val (.lst (rcD cs (p++q))),?_⟩;have hlen:(p++q).length<=20:=by rw[hc] at hcl;simp at hcl ⊢;omega
  have hc2:(rcD cs (p++q)).length<=capS:=by unfold rcD;rw[List.length_map];exact bc (by omega)
  have es:1 - 2*((p.length:Int) % 2)=sgn p.length:=rfl;have m1:fMul 2 ((p.length:Int) % 2)=some (2*((p.length:Int) % 2)):=by unfold fMul;rw[if_pos (.inl (by decide))]
  have hsg:sgn p.length=1∨sgn p.length = -1:=by unfold sgn;omega
  have m2:fMul (r c) (sgn p.length)=some (r c*sgn p.length):=by unfold fMul;rw[if_pos (.inl (by omega))]
  have m3:fMul (r c*sgn p.length) (det cs (p++q))=some (r c*sgn p.length*det cs (p++q)):=by
   unfold fMul;rw[if_pos (.inl (by rcases hsg with w | w <;> rw[w] <;> omega))]
  have em:fMod (p.length:Int) 2=some ((p.length:Int) % 2):=rfl
  clear hsg hr hb hc hlen
  generalize (c::cs).map (fun x=>D.int (r x))=LL at *
  generalize det cs (p++q)=dd at *;generalize rcD (c::cs) R=RR at *;generalize rcD cs (p++q)=R2 at *;generalize r c=x at *;generalize sgn p.length=sg at *;generalize (p.length:Int)=k at *;simp[l1__law_det,a0,z,e1,hc2,hφ,em,es,m1,m2,m3]
theorem am2(hφ:∀R',R'.length=cs.length->(∀r∈R',∀j,(r j).natAbs<=1000000000000)->φ [.val (.lst (rcD cs R'))]=some (.ok (.v (.int (det cs R'))),[.val (.lst (rcD cs R'))])):∀(q p:List Rw) (t:Int) (o2 o3 o4:Sl),R=p++q->R.length=cs.length+1->∃q2 q3 q4,forD (bTup 2 (dh (az 2) (dh (az 3) bNil))) (l1__law_det φ) ((q.zipIdx p.length).map fun x=>.tup [.int (x.2:Int),.lst ((c::cs).map fun y=>.int (x.1 y))]) [.val (.lst (rcD (c::cs) R)),.val (.int t),o2,o3,o4]=some (.nx,[.val (.lst (rcD (c::cs) R)),.val (.int (t+sgn p.length*lap c (det cs) p q)),q2,q3,q4])
 | [],p,t,o2,o3,o4,_,_=>⟨o2,o3,o4,by
  show some _=some _;simp[lap]⟩
 | r::q,p,t,o2,o3,o4,hc,hl=>by
  obtain⟨q4,e1⟩:=ax7 (c:=c) hi hcl hb p q r hc (hφ (p++q) (by rw[hc] at hl;simp at hl ⊢;omega) fun x hx=>hb x (by rw[hc];rcases List.mem_append.mp hx with z | z <;> simp[z])) t o4
  obtain⟨q2,q3,q5,e2⟩:=am2 hφ q (p++[r]) (t+r c*sgn p.length*det cs (p++q)) (.val (.int (p.length:Int))) (.val (.lst ((c::cs).map fun x=>.int (r x)))) q4 (by rw[hc];simp) hl
  refine⟨q2,q3,q5,?_⟩;rw[List.length_append] at e2;rw[List.zipIdx_cons,List.map_cons,ut];have ez:(D.tup [.int ((r,p.length).2:Int),.lst ((c::cs).map fun y=>.int ((r,p.length).1 y))])=.tup [.int (p.length:Int),.lst ((c::cs).map fun x=>.int (r x))]:=rfl
  rw[ez];have ev:t+sgn p.length*lap c (det cs) p (r::q)=t+r c*sgn p.length*det cs (p++q)+sgn (p.length+1)*lap c (det cs) (p++[r]) q:=by
   show t+sgn p.length*(r c*det cs (p++q) - lap c (det cs) (p++[r]) q)=_;rw[a3f,Int.mul_sub,Int.neg_mul,Int.mul_comm (r c) (sgn _),Int.mul_assoc];omega
  rw[ev];have e2':forD (bTup 2 (dh (az 2) (dh (az 3) bNil))) (l1__law_det φ) ((q.zipIdx (p.length+1)).map fun x=>D.tup [.int (x.2:Int),.lst ((c::cs).map fun y=>.int (x.1 y))]) [.val (.lst (rcD (c::cs) R)),.val (.int (t+r c*sgn p.length*det cs (p++q))),.val (.int (p.length:Int)),.val (.lst ((c::cs).map fun x=>.int (r x))),q4]=some (.nx,[.val (.lst (rcD (c::cs) R)),.val (.int (t+r c*sgn p.length*det cs (p++q)+sgn (p.length+1)*lap c (det cs) (p++[r]) q)),q2,q3,q5]):=e2
  generalize (q.zipIdx (p.length+1)).map (fun x=>D.tup [.int (x.2:Int),.lst ((c::cs).map fun y=>.int (x.1 y))])=LL at *
  generalize t+r c*sgn p.length*det cs (p++q)+sgn (p.length+1)*lap c (det cs) (p++[r]) q=v2 at *;generalize t+r c*sgn p.length*det cs (p++q)=v1 at *;generalize rcD (c::cs) R=RR at *;generalize (c::cs).map (fun x=>D.int (r x))=L1 at *
  simp[e1,e2']
end
theorem ara:∀(cs:List Nat) (R:List Rw) (n:Nat),cs.length < n->cs.length<=20->R.length=cs.length->(∀r∈R,∀j,(r j).natAbs<=1000000000000)->gw n [.val (.lst (rcD cs R))]=some (.ok (.v (.int (det cs R))),[.val (.lst (rcD cs R))])
 | [],R,0,h,_,_,_=>by omega
 | _::_,R,0,h,_,_,_=>by omega
 | [],R,n+1,_,_,hc,_=>by
  have e:=avl [] R;have hc:R=[]:=List.length_eq_zero_iff.mp hc;subst hc;show fnD 5 1 (xq (gw n)) _=_;generalize rcD [] []=RR at *;generalize gw n=φ;simp[fnD,xq,e,det]
 | c::cs,R,n+1,hn,h20,hc,hb=>by
  have ih:∀R',R'.length=cs.length->(∀r∈R',∀j,(r j).natAbs<=1000000000000)->gw n [.val (.lst (rcD cs R'))]=some (.ok (.v (.int (det cs R'))),[.val (.lst (rcD cs R'))]):=fun R' h' h2=>ara cs R' n (by simp at hn;omega) (by simp at h20;omega) h' h2
  have e:=avl (c::cs) R;simp at hc h20;have hne:R.isEmpty=false:=by cases R with | nil=>simp at hc | cons _ _=>rfl
  rw[hne] at e;obtain⟨q2,q3,q4,e1⟩:=am2 (c:=c) (by omega) (by omega) hb ih R [] 0 .emp .emp .emp rfl hc
  have ee:aag (rcD (c::cs) R)=(R.zipIdx 0).map fun x=>D.tup [.int (x.2:Int),.lst ((c::cs).map fun y=>.int (x.1 y))]:=by
   unfold aag rcD;rw[List.mapIdx_eq_zipIdx_map,List.zipIdx_map,List.map_map];rfl
  show fnD 5 1 (xq (gw n)) _=_;have ev:(0:Int)+sgn ([]:List Rw).length*lap c (det cs) [] R=det (c::cs) R:=by
   show 0+sgn 0*lap c (det cs) [] R=lap c (det cs) [] R;have:sgn 0=1:=rfl;rw[this];omega
  rw[ev] at e1;have e1:forD (bTup 2 (dh (az 2) (dh (az 3) bNil))) (l1__law_det (gw n)) ((R.zipIdx 0).map fun x=>D.tup [.int (x.2:Int),.lst ((c::cs).map fun y=>.int (x.1 y))]) [.val (.lst (rcD (c::cs) R)),.val (.int 0),.emp,.emp,.emp]=some (.nx,[.val (.lst (rcD (c::cs) R)),.val (.int (det (c::cs) R)),q2,q3,q4]):=e1
  rw[<-ee] at e1;generalize rcD (c::cs) R=RR at *;generalize det (c::cs) R=dd at *;generalize gw n=φ at *;simp[fnD,xq,e,e1]
theorem sq9{g1 g2:Sd}{ρ ρ':Ro}(h:g1 ρ=some (.nx,ρ')):dSeq g1 g2 ρ=g2 ρ':=by
 show(match g1 ρ with | some (.nx,ρ1)=>g2 ρ1 | r=>r)=_
 rw[h]
theorem aq5{m:M Rv}{i:Nat}{ρ ρ1:Ro}{ys:List D}(h:m ρ=some (.ok (.fr ys),ρ1)):dSet i m ρ=some (.nx,List.set ρ1 i (.own none ys)):=by
 simp[h,Rv.sl]
theorem aoc(n:Nat)(r:Rw)(s:Int)(hs:s.natAbs < bgM)(hr:∀j,j < n->(r j).natAbs < bgM):compD (az 0) (ret true) agh ((List.range n).map fun j=>D.int (r j)) [] [.emp,.val (.int s)]=some (.ok ((List.range n).map fun j=>.int (s*r j)),zc .emp ((List.range n).map fun j=>.int (r j))::[.val (.int s)]):=by
 rw[j5 (f:=fun d=>match d with | .int x=>.int (s*x) | _=>.non)]
 ·rw[List.nil_append,List.map_map];rfl
 ·intro d hd;obtain⟨k,hk,rfl⟩:=List.mem_map.mp hd;have hf:agx s (r k)=some (s*r k):=by unfold agx;rw[if_pos ⟨hs,hr k (List.mem_range.mp hk)⟩]
  generalize r k=x at *;simp[agh,hf]
section
variable{n a:Nat}(hn:n<=100)(ha:a < n)(R:List Rw)(hl:R.length<=100)(d0:D)(o3 o4 o5 o6 o7:Sl)(k3:okT o3=true)(k4:okT o4=true)(k5:okT o5=true)(k6:okT o6=true)(k7:okT o7=true){hd:Nat}(hm:hd∈alv a R)
 (eh:ap9 3 2 1 [.val d0,.val (.int (a:Int)),.own none (R.map (rwD n)),.own none ((alv a R).map fun i:Nat=>D.int (i:Int)),o4,o5,o6,o7]=some (.ok (.int (hd:Int)),[.val d0,.val (.int (a:Int)),.own none (R.map (rwD n)),.own none ((alv a R).map fun i:Nat=>D.int (i:Int)),o4,o5,o6,o7]))
include hn ha hl k3 k4 k5 k6 k7 hm eh
theorem ayr(hal:alv a R=[hd])(hb:∀j,j < n->((R.getD hd zr) j).natAbs < bgM):∃(s:Int) (ρ:Ro),(s=1∨s = -1)/\0 < s*(R.getD hd zr) a/\ye [.val d0,.val (.int (a:Int)),.own none (R.map (rwD n)),o3,o4,o5,o6,o7]=some (.ret (.fr (rwD n (fun j=>s*(R.getD hd zr) j)::((R.take hd++R.drop (hd+1)).map (rwD n)))),.val d0::.val (.int (a:Int))::ρ):=by
 have e1:=anc ha R hl d0 o3 o4 o5 o6 o7 k3 k4 k5 k6 k7;obtain⟨hR,hx⟩:=xf.mp hm;have gq:gEq false (.lst ((alv a R).map fun i:Nat=>D.int (i:Int))) (.lst [.int (hd:Int)])=some (.v (.bl true)):=by
  rw[hal];have:=amu false [(hd:Int)] [(hd:Int)]
  simpa using this
 have x2:=W_at (n:=n) hR;have y2:=uc (r:=R.getD hd zr) ha;have c1:cutD (R.map (rwD n)) none (some (hd:Int))=(R.map (rwD n)).take hd:=cutT (by rw[List.length_map];omega)
 have c2:cutD (R.map (rwD n)) (some ((hd:Int)+1)) none=(R.map (rwD n)).drop (hd+1):=by
  have:=cutF (l:=R.map (rwD n)) (k:=(hd:Int)+1) (by omega) (by rw[List.length_map];omega)
  rw[this]
  congr 1
 have lt:((R.map (rwD n)).take hd).length<=capS:=by rw[List.length_take];exact bc (by simp;omega)
 have ld:((R.map (rwD n)).drop (hd+1)).length<=capS:=by rw[List.length_drop];exact bc (by simp;omega)
 have main:∀s:Int,(if 0 < (R.getD hd zr) a then (1:Int) else -1)=s->(s=1∨s = -1)->∃ρ:Ro,ye [.val d0,.val (.int (a:Int)),.own none (R.map (rwD n)),o3,o4,o5,o6,o7]=some (.ret (.fr (rwD n (fun j=>s*(R.getD hd zr) j)::((R.take hd++R.drop (hd+1)).map (rwD n)))),.val d0::.val (.int (a:Int))::ρ):=fun s es hs=>by
  have sM:s.natAbs < bgM:=by
   have:(2:Nat) ^ 1<=bgM:=by unfold bgM;exact Nat.pow_le_pow_right (by decide) (by decide)
   rcases hs with rfl | rfl <;> simp <;> omega
  have f1:=aoc n (R.getD hd zr) s sM hb;have hc6:((List.range n).map fun j=>D.int (s*(R.getD hd zr) j)).length<=capS:=by rw[cu n (fun j=>s*(R.getD hd zr) j)];exact bc (by omega)
  have er:rwD n (fun j=>s*(R.getD hd zr) j)::((R.take hd++R.drop (hd+1)).map (rwD n))=([rwD n (fun j=>s*(R.getD hd zr) j)]++(R.map (rwD n)).take hd)++(R.map (rwD n)).drop (hd+1):=by
   rw[List.map_append,List.map_take,List.map_drop];simp
  rw[er];have hcA:([rwD n (fun j=>s*(R.getD hd zr) j)]++(R.map (rwD n)).take hd).length<=capS:=by rw[List.length_append,List.length_take];exact bc (by simp;omega)
  have hcB:(([rwD n (fun j=>s*(R.getD hd zr) j)]++(R.map (rwD n)).take hd)++(R.map (rwD n)).drop (hd+1)).length<=capS:=by rw[List.length_append,List.length_append,List.length_take,List.length_drop];exact bc (by simp;omega)
  clear hm hal hb
  generalize (alv a R).map (fun i:Nat=>D.int (i:Int))=AL at *
  refine⟨[.own none (R.map (rwD n)),.own none AL,.val (.int (hd:Int)),.val (.int s),.val (rwD n (fun j=>s*(R.getD hd zr) j)),o7],?_⟩
  unfold ye;refine(sq9 (ρ':=[.val d0,.val (.int (a:Int)),.own none (R.map (rwD n)),.own none AL,o4,o5,o6,o7]) (aq5 e1)).trans ?_;refine(sq9 (ρ':=[.val d0,.val (.int (a:Int)),.own none (R.map (rwD n)),.own none AL,.val (.int (hd:Int)),o5,o6,o7]) (by simp[eh])).trans ?_
  unfold rwD at *;generalize (List.range n).map (fun j=>D.int (s*(R.getD hd zr) j))=z3 at *
  generalize (List.range n).map (fun j=>D.int ((R.getD hd zr) j))=z2 at *
  generalize (R.map (fun r=>D.lst ((List.range n).map fun j=>D.int (r j)))).take hd=W1 at *
  generalize (R.map (fun r=>D.lst ((List.range n).map fun j=>D.int (r j)))).drop (hd+1)=W2 at *
  generalize R.map (fun r=>D.lst ((List.range n).map fun j=>D.int (r j)))=W at *
  generalize (R.getD hd zr) a=xh at *;generalize (hd:Int)=h9 at *;generalize (a:Int)=aa at *
  by_cases pos:0 < xh
  ·rw[if_pos pos] at es;subst es;simp only[List.length_append,List.length_cons,List.length_nil] at hcA hcB;have hA1:1+W1.length<=capS:=by omega
   have hB1:W1.length+1+W2.length<=capS:=by omega
   have hB2:1+W1.length+W2.length<=capS:=by omega
   have hB3:W1.length+W2.length+1<=capS:=by omega
   simp[gq,x2,y2,pos,f1,hc6,c1,c2,lt,ld,hA1,hB1,hB2,hB3]
  ·rw[if_neg pos] at es;subst es;simp only[List.length_append,List.length_cons,List.length_nil] at hcA hcB;have hA1:1+W1.length<=capS:=by omega
   have hB1:W1.length+1+W2.length<=capS:=by omega
   have hB2:1+W1.length+W2.length<=capS:=by omega
   have hB3:W1.length+W2.length+1<=capS:=by omega
   simp[gq,x2,y2,pos,f1,hc6,c1,c2,lt,ld,hA1,hB1,hB2,hB3]
 by_cases pos:0 < (R.getD hd zr) a
 ·obtain⟨ρ,e⟩:=main 1 (if_pos pos) (.inl rfl);exact⟨1,ρ,.inl rfl,by omega,e⟩
 ·obtain⟨ρ,e⟩:=main (-1) (if_neg pos) (.inr rfl);exact⟨-1,ρ,.inr rfl,by omega,e⟩
theorem a2v(hal:alv a R≠[hd]){R':List Rw}{q7:Sl}(ef:forD (az 7) ym ((alv a R).map fun i:Nat=>D.int (i:Int)) [.val d0,.val (.int (a:Int)),.own none (R.map (rwD n)),.val (.lst ((alv a R).map fun i:Nat=>D.int (i:Int))),.val (.int (hd:Int)),o5,o6,o7]=some (.nx,[.val d0,.val (.int (a:Int)),.own none (R'.map (rwD n)),.val (.lst ((alv a R).map fun i:Nat=>D.int (i:Int))),.val (.int (hd:Int)),o5,o6,q7])) :
  ye [.val d0,.val (.int (a:Int)),.own none (R.map (rwD n)),o3,o4,o5,o6,o7]=some (.nx,[.val d0,.val (.int (a:Int)),.own none (R'.map (rwD n)),.val (.lst ((alv a R).map fun i:Nat=>D.int (i:Int))),.val (.int (hd:Int)),o5,o6,q7]):=by
 have e1:=anc ha R hl d0 o3 o4 o5 o6 o7 k3 k4 k5 k6 k7;have gq:gEq false (.lst ((alv a R).map fun i:Nat=>D.int (i:Int))) (.lst [.int (hd:Int)])=some (.v (.bl false)):=by
  have:=amu false ((alv a R).map fun i:Nat=>(i:Int)) [(hd:Int)]
  rw[List.map_map] at this;have hne:¬((alv a R).map fun i:Nat=>(i:Int))=[(hd:Int)]:=fun z=>hal (by
   cases q:alv a R with
   | nil=>rw[q] at z;simp at z
   | cons x r =>
    rw[q] at z;simp at z;rw[z.2,show x=hd by omega])
  rw[show(decide (((alv a R).map fun i:Nat=>(i:Int))=[(hd:Int)]))=false from decide_eq_false hne] at this
  exact this
 clear hm hal
 generalize (alv a R).map (fun i:Nat=>D.int (i:Int))=AL at *
 unfold ye;refine(sq9 (ρ':=[.val d0,.val (.int (a:Int)),.own none (R.map (rwD n)),.own none AL,o4,o5,o6,o7]) (aq5 e1)).trans ?_;refine(sq9 (ρ':=[.val d0,.val (.int (a:Int)),.own none (R.map (rwD n)),.own none AL,.val (.int (hd:Int)),o5,o6,o7]) (by simp[eh])).trans ?_
 generalize R.map (rwD n)=W at *;generalize R'.map (rwD n)=W' at *;generalize (hd:Int)=h9 at *;generalize (a:Int)=aa at *;simp[gq,ef]
end
theorem au1{c:M Bool}{g:Sd}(Inv:Nat->Ro->Prop)(Done:Rv->Ro->Prop)(hs:∀k ρ,Inv k ρ->c ρ=some (.ok true,ρ)/\((∃ρ2 k',g ρ=some (.nx,ρ2)/\k' < k/\Inv k' ρ2)∨∃r ρ2,g ρ=some (.ret r,ρ2)/\Done r ρ2)) :
  ∀(n k:Nat) (ρ:Ro),k < n->Inv k ρ->∃r ρ',whileD c g n ρ=some (.ret r,ρ')/\Done r ρ'
 | 0,k,ρ,h,_=>absurd h (Nat.not_lt_zero _)
 | n+1,k,ρ,h,h0=>by
  unfold whileD;obtain⟨e1,⟨ρ2,k',e2,hk,h2⟩ | ⟨r,ρ2,e2,d⟩⟩:=hs k ρ h0
  ·rw[e1];dsimp only;rw[e2];exact au1 Inv Done hs n k' ρ2 (by omega) h2
  ·rw[e1];dsimp only;rw[e2];exact⟨_,_,rfl,d⟩
structure Wk (n a m:Nat) (R0:List Rw) (C T k:Nat) (R:List Rw):Prop where
 len:R.length=m
 sp:SpE n R0 R
 z:∀r∈R,∀j,j < a->r j=0
 col:∀r∈R,(r a).natAbs<=C
 some:∃i,i < m/\(R.getD i zr) a≠0
 bd:∃M,(∀r∈R,∀j,j < n->(r j).natAbs<=M)/\((k=50000/\M*pw a R*3 ^ m<=T)∨(k=bsm a R/\M*pw a R<=T/\((∀i,i < m->0<=(R.getD i zr) a)∨∀i,i < m->(R.getD i zr) a<=0)))
theorem Wk.all{n a m:Nat}{R0:List Rw}{C T k:Nat}{R:List Rw}(w:Wk n a m R0 C T k R):∀r∈R,∀j,j < n->(r j).natAbs<=T:=fun r hr j hj=>by
 obtain⟨M,h1,h2⟩:=w.bd;have p1:=Nat.le_mul_of_pos_right M (apg a R);have p2:=Nat.le_mul_of_pos_right (M*pw a R) (Nat.one_le_pow m 3 (by decide))
 have:=h1 r hr j hj;rcases h2 with⟨_,h2⟩ | ⟨_,h2,_⟩ <;> omega
theorem asa(a:Nat)(R:List Rw):(alv a R).Nodup:=List.Pairwise.filter _ List.nodup_range
theorem Wk.fo{n a m:Nat}{R0:List Rw}{C T k:Nat}{R:List Rw}(w:Wk n a m R0 C T k R){hd:Nat}(hm:hd∈alv a R)(hmin:∀i∈alv a R,((R.getD hd zr) a).natAbs<=((R.getD i zr) a).natAbs)(hal:alv a R≠[hd]):∃ph,Fo n a m hd R0 C T (bsm a R) ph (alv a R) R/\((ph=true/\k=50000)∨(ph=false/\k=bsm a R)):=by
 obtain⟨M,h1,h2⟩:=w.bd;have hR:=xf.mp hm;have nd:=asa a R;have oth:∃i∈alv a R,i≠hd:=by
  refine Classical.byContradiction fun no=>hal ?_
  have all:∀i∈alv a R,i=hd:=fun i hi=>Classical.byContradiction fun q=>no ⟨i,hi,q⟩
  cases q:alv a R with
  | nil=>rw[q] at hm;cases hm
  | cons x r =>
   rw[q] at all nd;have ex:=all x (List.mem_cons_self ..);cases r with
   | nil=>rw[ex]
   | cons y r =>
    have ey:=all y (by simp)
    exact absurd (ex.trans ey.symm) (fun e=>(List.nodup_cons.mp nd).1 (by rw[e];simp))
 have tod:∀i∈alv a R,i < m/\(R.getD i zr) a≠0/\((R.getD hd zr) a).natAbs<=((R.getD i zr) a).natAbs:=fun i hi=>⟨by rw[<-w.len];exact(xf.mp hi).1,(xf.mp hi).2,hmin i hi⟩
 have dn:∀i,i < m->i∉alv a R->(0 < (R.getD hd zr) a->0<=(R.getD i zr) a)/\((R.getD hd zr) a < 0->(R.getD i zr) a<=0):=fun i hi hn=>by
  have:(R.getD i zr) a=0:=Classical.byContradiction fun q=>hn (xf.mpr ⟨by rw[w.len];exact hi,q⟩)
  rw[this];exact⟨fun _=>Int.le_refl _,fun _=>Int.le_refl _⟩
 have hl:hd < m:=by rw[<-w.len];exact hR.1
 rcases h2 with⟨hk,h2⟩ | ⟨hk,h2,us⟩
 ·refine⟨true,⟨w.len,hl,w.sp,w.z,w.col,hR.2,tod,nd,⟨M,h1,?_⟩,(fun h=>by cases h),dn,(fun h=>by cases h)⟩,.inl ⟨rfl,hk⟩⟩
  have:(alv a R).length<=m:=by
   rw[<-w.len];unfold alv;exact Nat.le_trans (List.length_filter_le ..) (by simp)
  exact Nat.le_trans (Nat.mul_le_mul_left _ (Nat.pow_le_pow_right (by decide) (by simpa using this))) h2
 ·refine⟨false,⟨w.len,hl,w.sp,w.z,w.col,hR.2,tod,nd,⟨M,h1,by simpa using h2⟩,fun _ i hi =>?_,dn,fun _=>.inr ⟨Nat.le_refl _,oth⟩⟩,.inr ⟨rfl,hk⟩⟩
  rcases us with q | q
  ·have:=q i hi;have:=q hd hl;exact⟨fun _=>by omega,fun _=>by omega⟩
  ·have:=q i hi;have:=q hd hl;exact⟨fun _=>by omega,fun _=>by omega⟩
theorem Fo.wk{n a m hd:Nat}{R0 R:List Rw}{C T u:Nat}{ph:Bool}(f:Fo n a m hd R0 C T u ph [] R):Wk n a m R0 C T (bsm a R) R where
 len:=f.len
 sp:=f.sp
 z:=f.z
 col:=f.col
 some:=⟨hd,f.hdl,f.hne⟩
 bd:=by
  obtain⟨M,h1,h2⟩:=f.bd;refine⟨M,h1,.inr ⟨rfl,?_,?_⟩⟩
  ·cases ph <;> simpa using h2
  ·have hne:=f.hne;rcases Int.lt_trichotomy ((R.getD hd zr) a) 0 with q | q | q
   ·exact .inr fun i hi=>(f.dn i hi (by simp)).2 q
   ·exact absurd q hne
   ·exact .inl fun i hi=>(f.dn i hi (by simp)).1 q
theorem xg{R:List Rw}{k:Nat}(hk:k < R.length)(r:Rw):r∈R↔r∈R.getD k zr::(R.take k++R.drop (k+1)):=by
 have e:R=R.take k++R.getD k zr::R.drop (k+1):=by
  have h1:=(List.take_append_drop k R).symm;rw[List.drop_eq_getElem_cons hk] at h1;rw[List.getD_eq_getElem?_getD,List.getElem?_eq_getElem hk];exact h1
 constructor
 ·intro h;rw[e] at h;rcases List.mem_append.mp h with q | q
  ·simp[q]
  ·rcases List.mem_cons.mp q with w | w
   ·simp[w]
   ·simp[w]
 ·intro h;rw[e];rcases List.mem_cons.mp h with q | q
  ·simp[q]
  ·rcases List.mem_append.mp q with w | w
   ·simp[w]
   ·simp[w]
theorem aqw{n a B C:Nat}(hn:n<=100)(ha:a < n)(R0:List Rw)(h6:R0.length<=6)(hC1:1<=C)(hC:2<=R0.length->C < bgD)(hT:B*(6*C) ^ R0.length < bgM)(bR:∀r∈R0,∀j,j < n->(r j).natAbs<=B)(cR:∀r∈R0,(r a).natAbs<=C)(zR:∀r∈R0,∀j,j < a->r j=0)(nz:∃r∈R0,r a≠0) :
  ∃(hh h':Rw) (d':List Rw) (s:Int),adp [.val (.lst (R0.map (rwD n))),.val (.int (a:Int))]=some (.ok (.fr (rwD n hh::d'.map (rwD n))),[.val (.lst (R0.map (rwD n))),.val (.int (a:Int))])/\(s=1∨s = -1)/\(∀j,hh j=s*h' j)/\0 < hh a/\SpE n R0 (h'::d')/\(∀j,j < a->h' j=0)/\(∀r∈d',∀j,j<=a->r j=0)/\d'.length+1=R0.length/\∀r∈h'::d',∀j,j < n->(r j).natAbs<=B*(6*C) ^ R0.length:=by
 generalize hTT:B*(6*C) ^ R0.length=T at *;have start:Wk n a R0.length R0 C T 50000 R0:=by
  refine⟨rfl,⟨fun r hr=>.one hr,fun r hr=>.one hr⟩,zR,cR,?_,B,bR,.inl ⟨rfl,?_⟩⟩
  ·obtain⟨r,hr,q⟩:=nz;obtain⟨k,hk,rfl⟩:=List.mem_iff_getElem.mp hr;exact⟨k,hk,by rw[List.getD_eq_getElem?_getD,List.getElem?_eq_getElem hk];exact q⟩
  ·have e:(6*C) ^ R0.length=(2*C) ^ R0.length*3 ^ R0.length:=by
    rw[<-Nat.mul_pow]
    congr 1
    omega
   rw[<-hTT,e,Nat.mul_assoc];exact Nat.mul_le_mul_left _ (Nat.mul_le_mul_right _ (ay8 hC1 R0 cR))
 have loop:=au1 (c:=aiz) (g:=ye)
  (fun k ρ=>∃(R:List Rw) (o3 o4 o5 o6 o7:Sl),ρ=[.val (.lst (R0.map (rwD n))),.val (.int (a:Int)),.own none (R.map (rwD n)),o3,o4,o5,o6,o7]/\okT o3=true/\okT o4=true/\okT o5=true/\okT o6=true/\okT o7=true/\Wk n a R0.length R0 C T k R)
  (fun r ρ=>∃(R:List Rw) (hd k:Nat) (s:Int) (ρ':Ro),r=.fr (rwD n (fun j=>s*(R.getD hd zr) j)::((R.take hd++R.drop (hd+1)).map (rwD n)))/\ρ=.val (.lst (R0.map (rwD n)))::.val (.int (a:Int))::ρ'/\(s=1∨s = -1)/\0 < s*(R.getD hd zr) a/\alv a R=[hd]/\Wk n a R0.length R0 C T k R)
  ?_ fuel 50000 [.val (.lst (R0.map (rwD n))),.val (.int (a:Int)),.own none (R0.map (rwD n)),.emp,.emp,.emp,.emp,.emp] (Nat.lt_trans (by decide) afm) ⟨R0,.emp,.emp,.emp,.emp,.emp,rfl,rfl,rfl,rfl,rfl,rfl,start⟩
 ·obtain⟨r,ρ,e,R,hd,k,s,ρ',rfl,rfl,hs,hp,hal,w⟩:=loop;have hm:hd∈alv a R:=by rw[hal];simp
  have hR:=(xf.mp hm).1;have lk:=w.len;refine⟨fun j=>s*(R.getD hd zr) j,R.getD hd zr,R.take hd++R.drop (hd+1),s,?_,hs,fun _=>rfl,hp,w.sp.trans ⟨fun r hr=>.one ((xg hR r).mp hr),fun r hr=>.one ((xg hR r).mpr hr)⟩,w.z _ (getD_mem hR),fun r hr j hj =>?_,?_,fun r hr j hj=>w.all r ((xg hR r).mpr hr) j hj⟩
  ·have comp:compD (az 0) (ret true) agk (R0.map (rwD n)) [] [.emp]=some (.ok (R0.map (rwD n)),zc .emp (R0.map (rwD n))::[]):=by
    rw[j5 (f:=id)]
    ·rw[List.nil_append,List.map_id]
    ·intro d hd;obtain⟨r,hr,rfl⟩:=List.mem_map.mp hd;unfold rwD;generalize (List.range n).map (fun j=>D.int (r j))=z1
     simp[agk]
   have hc:(R0.map (rwD n)).length<=capS:=by rw[List.length_map];exact bc (by omega)
   generalize (rwD n fun j=>s*(R.getD hd zr) j)::((R.take hd++R.drop (hd+1)).map (rwD n))=RR at *
   generalize R0.map (rwD n)=W at *;generalize (a:Int)=aa at *;simp[adp,amt,comp,hc,e]
  ·rcases Nat.lt_or_ge j a with q | q
   ·exact w.z r ((xg hR r).mpr (List.mem_cons_of_mem _ hr)) j q
   ·have ej:j=a:=by omega
    subst ej;refine Classical.byContradiction fun nzr =>?_
    have idx:∃i,i < R.length/\i≠hd/\R.getD i zr=r:=by
     rcases List.mem_append.mp hr with q | q
     ·obtain⟨i,hi,rfl⟩:=List.mem_iff_getElem.mp q;simp at hi;exact⟨i,by omega,by omega,by rw[List.getD_eq_getElem?_getD,List.getElem?_eq_getElem (by omega)];simp⟩
     ·obtain⟨i,hi,rfl⟩:=List.mem_iff_getElem.mp q;simp at hi;exact⟨hd+1+i,by omega,by omega,by rw[List.getD_eq_getElem?_getD,List.getElem?_eq_getElem (by omega)];simp⟩
    obtain⟨i,hi,ne,er⟩:=idx;have:i∈alv j R:=xf.mpr ⟨hi,by rw[er];exact nzr⟩
    rw[hal] at this;exact ne (List.mem_singleton.mp this)
  ·simp;omega
 ·rintro k ρ ⟨R,o3,o4,o5,o6,o7,rfl,k3,k4,k5,k6,k7,w⟩
  have lk:=w.len;have hl:R.length<=100:=by omega
  have hne:alv a R≠[]:=fun z=>by
   obtain⟨i,hi,q⟩:=w.some;have:i∈alv a R:=xf.mpr ⟨by omega,q⟩
   rw[z] at this;cases this
  obtain⟨hd,hm,hmin,eh⟩:=axq (n:=n) ha R hne (.val (.lst (R0.map (rwD n)))) o4 o5 o6 o7;refine⟨rfl,?_⟩
  by_cases hal:alv a R=[hd]
  ·obtain⟨s,ρ',hs,hp,e⟩:=ayr hn ha R hl _ o3 o4 o5 o6 o7 k3 k4 k5 k6 k7 hm eh hal (fun j hj=>Nat.lt_of_le_of_lt (w.all _ (getD_mem (xf.mp hm).1) j hj) hT)
   exact .inr ⟨_,_,e,R,hd,k,s,ρ',rfl,rfl,hs,hp,hal,w⟩
  ·obtain⟨ph,f,hk⟩:=w.fo hm hmin hal;have two:2<=R0.length:=by
    have l0:(alv a R).length<=R.length:=by
     unfold alv;exact Nat.le_trans (List.length_filter_le ..) (by simp)
    have l2:2<=(alv a R).length:=by
     cases q:alv a R with
     | nil=>exact absurd q hne
     | cons x r =>
      cases r with
      | nil =>
       rw[q] at hm hal;exact absurd (by rw[List.mem_singleton.mp hm]) hal
      | cons y r=>simp
    omega
   obtain⟨R',q7,f',h7,ef⟩:=ak8 hn ha (hC two) hT (.val (.lst (R0.map (rwD n)))) (.val (.lst ((alv a R).map fun i:Nat=>D.int (i:Int)))) o5 o6 (alv a R) R o7 f
   have e:=a2v hn ha R hl _ o3 o4 o5 o6 o7 k3 k4 k5 k6 k7 hm eh hal ef;have w':=f'.wk;refine .inl ⟨_,bsm a R',e,?_,R',_,_,o5,o6,q7,rfl,rfl,rfl,k5,k6,?_,w'⟩
   ·rcases hk with⟨hp,hk⟩ | ⟨hp,hk⟩
    ·have pd:bgD=2 ^ 8000:=by unfold bgD;rfl
     have:=avu (a:=a) R' fun r hr=>by
      rw[<-pd];exact Nat.lt_of_le_of_lt (w'.col r hr) (hC two)
     have:=w'.len;omega
    ·rcases f'.ms hp with q | ⟨_,i,hi,_⟩
     ·omega
     ·cases hi
   ·rcases h7 with h | ⟨d,h⟩
    ·rw[h];exact k7
    ·rw[h];rfl
def Yb:Nat->Nat
 | 0=>10
 | a+1=>Yb a*(6*Yb a) ^ (6 - a)
theorem ake:∀k,1<=Yb k
 | 0=>by decide
 | k+1=>Nat.mul_pos (ake k) (Nat.pow_pos (by have:=ake k;omega))
theorem a5r(k:Nat):Yb k<=Yb (k+1):=Nat.le_mul_of_pos_right _ (Nat.pow_pos (by have:=ake k;omega))
theorem ase{a b:Nat}(h:a<=b):Yb a<=Yb b:=by
 induction h with
 | refl=>exact Nat.le_refl _
 | step _ ih=>exact Nat.le_trans ih (a5r _)
@[irreducible] def Y6:Nat:=Yb 6
theorem asd{a:Nat}(h:a<=6):Yb a<=Y6:=by
 unfold Y6;exact ase h
theorem a5s:Y6*(Y6*4) < bgM:=by
 unfold Y6 bgM
 decide +kernel
theorem Y6_M:Y6 < bgM:=by
 have h1:=a5s;have h2:=asd (a:=6) (Nat.le_refl _);have h3:=ake 6;have:=Nat.le_mul_of_pos_right Y6 (show 0 < Y6*4 by omega)
 omega
theorem ayj:Yb 4 < bgD:=by
 unfold bgD
 decide +kernel
section
variable{qv:LL9}(h:Hs qv)(hop:ux qv=[])(h6:qv.length<=6)
include h hop h6
theorem anl{a:Nat}(ha:a < qv.length){F:Nat->Rw}{Lr:List Rw}(T:Tri qv.length a F)(ll:Lr.length=qv.length - a)(zl:∀r∈Lr,∀j,j < a->r j=0)(sp:∀v,Sp qv.length (fun r=>(∃t,t < a/\r=F t)∨r∈Lr) v↔InL qv v)(bF:∀t,t < a->∀j,j < qv.length->(F t j).natAbs<=Yb (t+1))(bL:∀r∈Lr,∀j,j < qv.length->(r j).natAbs<=Yb a)(S0:Sl) :
  ∃(F':Nat->Rw) (Lr':List Rw),adl [S0,.own none ((List.range a).map fun t=>rwD qv.length (F t)),.own none (Lr.map (rwD qv.length)),.val (.int (a:Int))]=some (.nx,[S0,.own none ((List.range (a+1)).map fun t=>rwD qv.length (F' t)),.own none (Lr'.map (rwD qv.length)),.val (.int (a:Int))])/\Tri qv.length (a+1) F'/\Lr'.length=qv.length - (a+1)/\(∀r∈Lr',∀j,j < a+1->r j=0)/\(∀v,Sp qv.length (fun r=>(∃t,t < a+1/\r=F' t)∨r∈Lr') v↔InL qv v)/\(∀t,t < a+1->∀j,j < qv.length->(F' t j).natAbs<=Yb (t+1))/\∀r∈Lr',∀j,j < qv.length->(r j).natAbs<=Yb (a+1):=by
 have hm:=h.most;have y1:=ake a;have up:Yb a*(6*Yb a) ^ Lr.length<=Yb (a+1):=Nat.mul_le_mul_left _ (Nat.pow_le_pow_right (by omega) (by omega))
 have lt:Yb a*(6*Yb a) ^ Lr.length < bgM:=Nat.lt_of_le_of_lt (Nat.le_trans up (asd (by omega))) Y6_M
 have nz:=amh h hop ha T (fun v hv=>(sp v).mpr hv) zl
 obtain⟨hh,h',d',s,e,hs,he,hp,se,z1,z2,dl,bb⟩:=aqw (n:=qv.length) (by omega) ha Lr (by omega) y1 (fun h2=>Nat.lt_of_le_of_lt (ase (show a<=4 by omega)) ayj) lt bL (fun r hr=>bL r hr a ha) zl nz
 have sp2:=fun v=>au5 se sp v
 obtain⟨F',g1,g2,g3,g4,g5⟩:=ahk T sp2 z1 hs he hp;have nh:∀j,(hh j).natAbs=(h' j).natAbs:=fun j=>by
  rw[he j,Int.natAbs_mul];rcases hs with rfl | rfl <;> simp
 refine⟨F',d',?_,g4,by omega,fun r hr j hj=>z2 r hr j (by omega),g5,fun t ht j hj =>?_,fun r hr j hj=>Nat.le_trans (bb r (List.mem_cons_of_mem _ hr) j hj) up⟩
 ·rw[g1];have hcF:((List.range a).map fun t=>rwD qv.length (F t)).length < capS:=by rw[List.length_map,List.length_range];unfold capS;omega
  have cut:cutD (rwD qv.length hh::d'.map (rwD qv.length)) (some 1) none=d'.map (rwD qv.length):=by
   have:=cutF (l:=rwD qv.length hh::d'.map (rwD qv.length)) (k:=1) (by decide) (by simp)
   rw[this];rfl
  have at0':atI (rwD qv.length hh::d'.map (rwD qv.length)) 0=some (rwD qv.length hh):=by simp[atI,ixN]
  have hcL:(d'.map (rwD qv.length)).length<=capS:=by rw[List.length_map];exact bc (by omega)
  generalize (List.range a).map (fun t=>rwD qv.length (F t))=FF at *
  generalize rwD qv.length hh=x1 at *;generalize d'.map (rwD qv.length)=DD at *;generalize Lr.map (rwD qv.length)=LL at *;generalize (a:Int)=aa at *;simp[adl,e,at0',hcF,cut,hcL]
 ·rcases Nat.lt_or_ge t a with z | z
  ·rw[g2 t z];exact bF t z j hj
  ·have:t=a:=by omega
   rw[this,g3,nh j];exact Nat.le_trans (bb h' (by simp) j hj) up
theorem aoz:∃F:Nat->Rw,vh [.val (.lst (mtD qv.length qv.length (dsq qv)))]=some (.ok (.fr ((List.range qv.length).map fun t=>rwD qv.length (F t))),[.val (.lst (mtD qv.length qv.length (dsq qv)))])/\Tri qv.length qv.length F/\(∀v,Sp qv.length (fun r=>∃t,t < qv.length/\r=F t) v↔InL qv v)/\∀t,t < qv.length->∀j,j < qv.length->(F t j).natAbs<=Yb (t+1):=by
 have hm:=h.most;have loop:=qi (b:=az 3) (g:=adl) (fun a ρ=>∃(F:Nat->Rw) (Lr:List Rw) (o3:Sl),ρ=[.val (.lst (mtD qv.length qv.length (dsq qv))),.own none ((List.range a).map fun t=>rwD qv.length (F t)),.own none (Lr.map (rwD qv.length)),o3]/\Tri qv.length a F/\Lr.length=qv.length - a/\(∀r∈Lr,∀j,j < a->r j=0)/\(∀v,Sp qv.length (fun r=>(∃t,t < a/\r=F t)∨r∈Lr) v↔InL qv v)/\(∀t,t < a->∀j,j < qv.length->(F t j).natAbs<=Yb (t+1))/\∀r∈Lr,∀j,j < qv.length->(r j).natAbs<=Yb a)
  (l:=rangeD 0 qv.length) (ρ:=[.val (.lst (mtD qv.length qv.length (dsq qv))),.own none [],.own none (mtD qv.length qv.length (dsq qv)),.emp]) 0
  ⟨fun _ _=>0,(List.range qv.length).map (dsq qv),.emp,by rw[List.map_map];rfl,⟨fun t ht=>by omega,fun t ht=>by omega⟩,by simp,fun r _ j hj=>by omega,fun v=>by
   rw[<-ao1 qv v];constructor
   ·exact Sp.sub fun r hr=>by
     rcases hr with⟨t,ht,_⟩ | z
     ·omega
     ·obtain⟨i,hi,rfl⟩:=List.mem_map.mp z;exact .one ⟨i,List.mem_range.mp hi,rfl⟩
   ·exact Sp.sub fun r hr=>by
     obtain⟨i,hi,rfl⟩:=hr;exact .one (.inr (List.mem_map.mpr ⟨i,List.mem_range.mpr hi,rfl⟩)),fun t ht=>by omega,fun r hr j _=>by
   obtain⟨i,hi,rfl⟩:=List.mem_map.mp hr;exact agl h (List.mem_range.mp hi)⟩ ?_
 ·obtain⟨ρ',e,F,Lr,o3,rfl,T,ll,_,sp,bF,_⟩:=loop;have rl:(rangeD 0 qv.length).length=qv.length:=by simp[rangeD]
  rw[rl,Nat.zero_add] at e T ll sp bF;have hL:Lr=[]:=List.length_eq_zero_iff.mp (by omega)
  subst hL;refine⟨F,?_,T,fun v =>?_,bF⟩
  ·have comp:compD (az 0) (ret true) agj (mtD qv.length qv.length (dsq qv)) [] [.emp]=some (.ok (mtD qv.length qv.length (dsq qv)),zc .emp (mtD qv.length qv.length (dsq qv))::[]):=by
    rw[j5 (f:=id)]
    ·rw[List.nil_append,List.map_id]
    ·intro d hd;unfold mtD at hd;obtain⟨r,hr,rfl⟩:=List.mem_map.mp hd;unfold rwD;generalize (List.range qv.length).map (fun j=>D.int (dsq qv r j))=z1
     simp[agj]
   have ml:=qu qv.length qv.length (dsq qv);have hc:qv.length<=capS:=bc (by omega)
   have hb:qv.length < 4611686018427387904:=by omega
   generalize (List.range qv.length).map (fun t=>rwD qv.length (F t))=FF at *
   generalize mtD qv.length qv.length (dsq qv)=MM at *;simp[vh,amr,comp,ml,hc,hb,e]
  ·rw[<-sp v];constructor
   ·exact Sp.sub fun r hr=>.one (.inl hr)
   ·exact Sp.sub fun r hr=>by
     rcases hr with z | z
     ·exact .one z
     ·cases z
 ·rintro a d ρ hd ⟨F,Lr,o3,rfl,T,ll,zl,sp,bF,bL⟩
  rw[Nat.zero_add] at *;have ha:a < qv.length:=by
   have:=(List.getElem?_eq_some_iff.mp hd).1
   simpa[rangeD] using this
  have ed:d=.int (a:Int):=by
   unfold rangeD at hd;rw[List.getElem?_map,List.getElem?_range ha] at hd;exact(Option.some.inj hd).symm.trans (by show D.int ((0:Int)+(a:Int))=_;rw[Int.zero_add])
  subst ed;obtain⟨F',Lr',e,T',l',z',s',f',b'⟩:=anl h hop h6 ha T ll zl sp bF bL (.val (.lst (mtD qv.length qv.length (dsq qv))));exact⟨_,_,rfl,.inl e,F',Lr',_,rfl,T',l',z',s',f',b'⟩
end
def rd(F:Nat->Rw)(v:Rw):Nat->Rw
 | 0=>v
 | t+1=>fun j=>rd F v t j - (rd F v t t).fdiv (F t t)*F t j
theorem al2{n:Nat}{F:Nat->Rw}(T:Tri n n F)(v:Rw){j:Nat}:∀t,t<=n->j < t->0<=rd F v t j/\rd F v t j < F j j
 | 0,_,h=>by omega
 | t+1,ht,hj=>by
  rcases Nat.lt_or_ge j t with z | z
  ·have:=al2 T v t (by omega) z
   show 0<=rd F v t j - (rd F v t t).fdiv (F t t)*F t j/\rd F v t j - (rd F v t t).fdiv (F t t)*F t j < F j j;rw[T.zero t (by omega) j z,Int.mul_zero,Int.sub_zero]
   exact this
  ·have:j=t:=by omega
   subst this;have p:=T.pos j (by omega)
   obtain⟨a,b,_⟩:=adt (x:=rd F v j j) (y:=F j j) (by omega)
   have:=b p;show 0<=rd F v j j - (rd F v j j).fdiv (F j j)*F j j/\rd F v j j - (rd F v j j).fdiv (F j j)*F j j < F j j;omega
theorem ay5{n:Nat}{F:Nat->Rw}(T:Tri n n F){B:Nat}(hB:3<=B)(bF:∀t,t < n->∀j,j < n->(F t j).natAbs<=B){v:Rw}(bv:∀j,j < n->(v j).natAbs<=B):∀t,t<=n->∀j,j < n->(rd F v t j).natAbs<=B ^ (1+2*t)
 | 0,_,j,hj=>by
  rw[Nat.mul_zero,Nat.add_zero,Nat.pow_one];exact bv j hj
 | t+1,ht,j,hj=>by
  have ih:=ay5 T hB bF bv t (by omega)
  have p:=T.pos t (by omega)
  obtain⟨_,_,_,n4,_⟩:=adt (x:=rd F v t t) (y:=F t t) (by omega)
  have i1:=ih j hj;have i2:=ih t (by omega)
  have f1:=bF t (by omega) j hj
  have f2:=bF t (by omega) t (by omega)
  have q1:((rd F v t t).fdiv (F t t)).natAbs<=(rd F v t t).natAbs+(F t t).natAbs:=Nat.le_trans (Nat.le_mul_of_pos_right _ (by omega)) n4
  have up:B<=B ^ (1+2*t):=by
   have:=Nat.pow_le_pow_right (show 0 < B by omega) (show 1<=1+2*t by omega)
   rwa[Nat.pow_one] at this
  show(rd F v t j - (rd F v t t).fdiv (F t t)*F t j).natAbs<=_;have m:((rd F v t t).fdiv (F t t)*F t j).natAbs<=(B ^ (1+2*t)+B ^ (1+2*t))*B:=by
   rw[Int.natAbs_mul];exact Nat.mul_le_mul (by omega) f1
  have e:B ^ (1+2*(t+1))=B ^ (1+2*t)*(B*B):=by
   rw[show 1+2*(t+1)=(1+2*t)+2 by omega,Nat.pow_add]
   congr 1
   exact Nat.pow_two B
  rw[e];generalize B ^ (1+2*t)=G at *;have m2:G*3*B<=G*B*B:=Nat.mul_le_mul_right _ (Nat.mul_le_mul_left _ hB);have m3:G<=G*B:=Nat.le_mul_of_pos_right _ (by omega)
  rw[<-Nat.mul_assoc];rw[Nat.add_mul] at m;have m4:G*3*B=G*B+G*B+G*B:=by rw[Nat.mul_right_comm];omega
  omega
theorem al1{n:Nat}{F:Nat->Rw}(v:Rw):∀t,t<=n->Sp n (fun r=>∃t,t < n/\r=F t) (fun j=>v j - rd F v t j)
 | 0,_=>.zero fun j _=>by show v j - v j=0;omega
 | t+1,ht=>.add (c:=(rd F v t t).fdiv (F t t)) (al1 v t (by omega)) ⟨t,by omega,rfl⟩ fun j _=>by
  show v j - (rd F v t j - (rd F v t t).fdiv (F t t)*F t j)=v j - rd F v t j+_;omega
theorem Sp.plus{n:Nat}{S:Rw->Prop}{r v:Rw}(hr:Sp n S r)(hv:Sp n S v)(c:Int):Sp n S (fun j=>v j+c*r j):=hr.comb hv fun _ _=>rfl
theorem apd{n:Nat}{F G:Nat->Rw}(TF:Tri n n F)(TG:Tri n n G)(s:∀v,Sp n (fun r=>∃t,t < n/\r=F t) v↔Sp n (fun r=>∃t,t < n/\r=G t) v)(v w:Rw)(hvw:Sp n (fun r=>∃t,t < n/\r=F t) (fun j=>v j - w j)):∀j,j < n->rd F v n j=rd G w n j:=by
 have h1:=al1 (n:=n) (F:=F) v n (Nat.le_refl _);have h2:=(s _).mpr (al1 (n:=n) (F:=G) w n (Nat.le_refl _));have h3:=(h2.plus (h1.plus hvw (-1)) 1).congr (w:=fun j=>rd F v n j - rd G w n j) fun j _=>by omega
 intro j hj;have:=av5 TF h3 (fun k hk=>by
  have a:=al2 TF v n (Nat.le_refl _) hk;have b:=al2 TG w n (Nat.le_refl _) hk;rw[<-alw TF TG s hk] at b;show(rd F v n k - rd G w n k).natAbs < _;omega) j hj
 have:rd F v n j - rd G w n j=0:=this;omega
def Vb:Nat->Nat
 | 0=>2 ^ 110
 | t+1=>Vb t*(1+2*Yb (t+1))
theorem asf:∀t,1<=Vb t
 | 0=>Nat.one_le_pow _ _ (by decide)
 | t+1=>Nat.mul_pos (asf t) (by omega)
theorem a5t(t:Nat):Vb t<=Vb (t+1):=Nat.le_mul_of_pos_right _ (by omega)
theorem ayk{a b:Nat}(h:a<=b):Vb a<=Vb b:=by
 induction h with
 | refl=>exact Nat.le_refl _
 | step _ ih=>exact Nat.le_trans ih (a5t _)
theorem ayl:2*Vb 5 < bgM:=by
 unfold bgM
 decide +kernel
theorem rd_V{n:Nat}{F:Nat->Rw}(T:Tri n n F)(bF:∀t,t < n->∀j,j < n->(F t j).natAbs<=Yb (t+1)){v:Rw}(bv:∀j,j < n->(v j).natAbs<=2 ^ 110):∀t,t<=n->∀j,j < n->(rd F v t j).natAbs<=Vb t
 | 0,_,j,hj=>bv j hj
 | t+1,ht,j,hj=>by
  have ih:=rd_V T bF bv t (by omega)
  have p:=T.pos t (by omega)
  obtain⟨_,_,_,n4,_⟩:=adt (x:=rd F v t t) (y:=F t t) (by omega)
  have i1:=ih j hj;have i2:=ih t (by omega)
  have f1:=bF t (by omega) j hj
  have v1:=asf t;have q2:((rd F v t t).fdiv (F t t)).natAbs<=2*Vb t:=by
   rcases Nat.lt_or_ge (rd F v t t).natAbs (F t t).natAbs with z | z
   ·have:((rd F v t t).fdiv (F t t)).natAbs*(F t t).natAbs < 2*(F t t).natAbs:=by omega
    have:=Nat.lt_of_mul_lt_mul_right this;omega
   ·have:((rd F v t t).fdiv (F t t)).natAbs<=((rd F v t t).fdiv (F t t)).natAbs*(F t t).natAbs:=Nat.le_mul_of_pos_right _ (by omega)
    omega
  have m:=Nat.mul_le_mul q2 f1;show(rd F v t j - (rd F v t t).fdiv (F t t)*F t j).natAbs<=Vb t*(1+2*Yb (t+1));have e:(rd F v t j - (rd F v t t).fdiv (F t t)*F t j).natAbs<=(rd F v t j).natAbs+((rd F v t t).fdiv (F t t)).natAbs*(F t j).natAbs:=by
   rw[<-Int.natAbs_mul];omega
  have e2:Vb t*(1+2*Yb (t+1))=Vb t+2*Vb t*Yb (t+1):=by
   rw[Nat.mul_add,Nat.mul_one]
   congr 1
   ac_rfl
  rw[e2];omega
def tpD(n:Nat)(w:Rw):D:=.tup ((List.range n).map fun j=>.int (w j))
theorem ak0{n:Nat}(hn:n<=6){F:Nat->Rw}(T:Tri n n F)(bF:∀t,t < n->∀j,j < n->(F t j).natAbs<=Yb (t+1))(bd:∀t,t < n->(F t t).natAbs < bgD){v:Rw}(bv:∀j,j < n->(v j).natAbs<=2 ^ 110):aar [.val (.lst ((List.range n).map fun t=>rwD n (F t))),.val (tpD n v)]=some (.ok (.fr ((List.range n).map fun j=>.int (rd F v n j))),[.val (.lst ((List.range n).map fun t=>rwD n (F t))),.val (tpD n v)]):=by
 have le:=rd_V T bF bv;have fl:((List.range n).map fun t=>rwD n (F t)).length=n:=by simp
 have loop:=qi (b:=bTup 2 (dh (az 3) (dh (az 4) bNil))) (g:=acx) (fun t ρ=>∃o3 o4,ρ=[.val (.lst ((List.range n).map fun t=>rwD n (F t))),.val (tpD n v),.own none ((List.range n).map fun j=>.int (rd F v t j)),o3,o4])
  (l:=aag ((List.range n).map fun t=>rwD n (F t))) (ρ:=[.val (.lst ((List.range n).map fun t=>rwD n (F t))),.val (tpD n v),.own none ((List.range n).map fun j=>.int (v j)),.emp,.emp]) 0 ⟨.emp,.emp,rfl⟩ ?_
 ·obtain⟨ρ',e,o3,o4,rfl⟩:=loop;rw[qz,fl,Nat.zero_add] at e;have hc:((List.range n).map fun j=>D.int (v j)).length<=capS:=by rw[cu];exact bc (by omega)
  unfold tpD at *;generalize (List.range n).map (fun t=>rwD n (F t))=FF at *
  generalize (List.range n).map (fun j=>D.int (rd F v n j))=RR at *
  generalize (List.range n).map (fun j=>D.int (v j))=VV at *
  simp[aar,ag9,hc,e]
 ·rintro t d ρ hd ⟨o3,o4,rfl⟩
  rw[Nat.zero_add] at *;obtain⟨d0,g1,rfl⟩:=uw hd;have ht:t < n:=by
   have:=(List.getElem?_eq_some_iff.mp g1).1;rwa[fl] at this
  rw[List.getElem?_map,List.getElem?_range ht] at g1;have ed:d0=rwD n (F t):=(Option.some.inj g1).symm;subst ed;have p:=T.pos t ht;obtain⟨_,_,_,n4,_⟩:=adt (x:=rd F v t t) (y:=F t t) (by omega)
  have b1:=le t (by omega) t ht
  have b3:=ayk (show t<=5 by omega)
  have v5:=ayl;have q2:((rd F v t t).fdiv (F t t)).natAbs < bgM:=by
   rcases Nat.lt_or_ge (rd F v t t).natAbs (F t t).natAbs with z | z
   ·have:((rd F v t t).fdiv (F t t)).natAbs*(F t t).natAbs < 2*(F t t).natAbs:=by omega
    have:=Nat.lt_of_mul_lt_mul_right this;have:=asf 5;omega
   ·have:((rd F v t t).fdiv (F t t)).natAbs<=((rd F v t t).fdiv (F t t)).natAbs*(F t t).natAbs:=Nat.le_mul_of_pos_right _ (by omega)
    omega
  have e:=ame (n:=n) (by omega) (rd F v t) (F t) ((rd F v t t).fdiv (F t t)) q2 fun j hj=>Nat.lt_of_le_of_lt (Nat.le_trans (bF t ht j hj) (asd (by omega))) Y6_M
  have x1:=uc (r:=rd F v t) ht;have x2:=uc (r:=F t) ht;have fd:adq (rd F v t t) (F t t)=some ((rd F v t t).fdiv (F t t)):=by unfold adq;rw[if_pos ⟨by omega,bd t ht⟩]
  refine⟨[.val (.lst ((List.range n).map fun t=>rwD n (F t))),.val (tpD n v),.own none ((List.range n).map fun j=>.int (rd F v t j)),.val (.int (t:Int)),.val (rwD n (F t))],[.val (.lst ((List.range n).map fun t=>rwD n (F t))),.val (tpD n v),.own none ((List.range n).map fun j=>.int (rd F v t j - (rd F v t t).fdiv (F t t)*F t j)),.val (.int (t:Int)),.val (rwD n (F t))],by simp,.inl ?_,_,_,rfl⟩
  generalize (List.range n).map (fun t=>rwD n (F t))=FF at *
  unfold rwD at *;generalize (rd F v t t).fdiv (F t t)=q at *;generalize (List.range n).map (fun j=>D.int (rd F v t j - q*F t j))=z3 at *
  generalize (List.range n).map (fun j=>D.int (rd F v t j))=y1 at *
  generalize (List.range n).map (fun j=>D.int (F t j))=y2 at *
  generalize rd F v t t=xa at *;generalize F t t=xb at *;generalize (t:Int)=tt at *;generalize tpD n v=vv at *;simp[acx,x1,x2,fd,e]
section
variable{qv:LL9}(h:Hs qv)
include h
theorem agz(hop:ux qv=[]):uv [.val (.lst (mtD qv.length qv.length (dsq qv)))]=some (.ok (.v (.int (botm qv fun _=>0))),[.val (.lst (mtD qv.length qv.length (dsq qv)))]):=by
 have hm:=h.most;have e:=ao3 h hop fun _=>0
 have er:((List.range qv.length).map fun _=>D.int 0)=List.replicate qv.length (D.int 0):=by
  rw[List.map_const'];simp
 rw[er] at e;have ml:=qu qv.length qv.length (dsq qv);have hc:qv.length<=capS:=bc (by omega)
 have hb:qv.length < 9223372036854775808:=by omega
 have a1:∀x y:D,atI [x,y] 1=some y:=fun x y=>by simp[atI,ixN]
 generalize (List.range qv.length).map (fun i=>D.int (tops qv (fun _=>0) i))=TT at *
 generalize botm qv (fun _=>0)=bb at *
 generalize mtD qv.length qv.length (dsq qv)=MM at *;simp[uv,adn,ml,hc,hb,e,a1,isN]
end
section
variable{qv:LL9}(h:Hs qv)(hop:ux qv=[])(w:Rw)
include h hop
theorem an2(hw:∀j,j < qv.length->0<=w j/\w j<=1000000000000000000000000000000):mq [.val (hD qv),.val (.lst [.tup ((List.range qv.length).map fun j=>.int (w j))])]=some (.ok (.v .non),[.val (hD qv),.val (.lst [.tup ((List.range qv.length).map fun j=>.int (w j))])]):=by
 have hm:=h.most;have hl:=aae qv;have lw:=cu qv.length w;have e1:vy [.val (hD qv),.val (.tup ((List.range qv.length).map fun j=>.int (w j))),.val (.int 1000000000000000000000000000000)]=some (.ok (.v (.bl true)),[.val (hD qv),.val (.tup ((List.range qv.length).map fun j=>.int (w j))),.val (.int 1000000000000000000000000000000)]):=by
  have e4:compD (az 0) (ret true) aa7 ((List.range qv.length).map fun j=>.int (w j)) [] [.emp,.val (.int 1000000000000000000000000000000)]=some (.ok ((List.range qv.length).map fun _=>.bl true),zc .emp ((List.range qv.length).map fun j=>.int (w j))::[.val (.int 1000000000000000000000000000000)]):=by
   rw[j5 (f:=fun _=>.bl true)]
   ·rw[List.nil_append,List.map_map];rfl
   ·intro d hd;obtain⟨k,hk,rfl⟩:=List.mem_map.mp hd;obtain⟨a,b⟩:=hw k (List.mem_range.mp hk);generalize w k=x at *;simp[aa7,akh,a,b]
  have t1:j4 [.val (.tup ((List.range qv.length).map fun j=>.int (w j))),.val (.int (qv.length:Int)),.val (.int (qv.length:Int))]=some (.ok (.v (.bl true)),[.val (.tup ((List.range qv.length).map fun j=>.int (w j))),.val (.int (qv.length:Int)),.val (.int (qv.length:Int))]):=by
   generalize (List.range qv.length).map (fun j=>D.int (w j))=z at *
   simp[j4,aap,isTy,lw]
  have hc:qv.length<=capS:=bc (by omega)
  generalize (List.range qv.length).map (fun j=>D.int (w j))=z at *
  simp only[hD] at *;simp[vy,aex,hl,t1,e4,hc,Function.comp_def]
 have r2:gr [.val (hD qv)]=some (.ok (.v .non),[.val (hD qv)]):=by
  have q:=aow h;rw[hop] at q;have e3:gEq true (.tup []) (.tup [])=some (.v (.bl false)):=aih true [] [];simp[gr,vd,q,e3]
 generalize (List.range qv.length).map (fun j=>D.int (w j))=z at *
 simp[mq,abh,aan,ut,e1,r2]
end
theorem a0b(qv:LL9)(is:List Nat):(is.map fun i=>rwD qv.length (dsq qv i))=rcD (List.range qv.length) (is.map (dsq qv)):=by
 unfold rcD rwD;rw[List.map_map];rfl
section
variable{qv:LL9}(h:Hs qv)(hop:ux qv=[])(h6:qv.length<=6)
include h
theorem ax5(i j:Nat):(dsq qv i j).natAbs<=1000000000000:=by
 by_cases hi:i < qv.length
 ·have:=agl h (j:=j) hi;omega
 ·unfold dsq;have:dr qv (i:Int)=[]:=by
   unfold dr;rw[Int.toNat_natCast,List.getD_eq_getElem?_getD,List.getElem?_eq_none (by omega)]
   rfl
  rw[this];split <;> simp
include hop h6
theorem asp(c:Rw):gw 7 [.val (.lst (mtD qv.length qv.length (dsq qv)))]=some (.ok (.v (.int (botm qv c))),[.val (.lst (mtD qv.length qv.length (dsq qv)))]):=by
 have d:=ara (List.range qv.length) ((List.range qv.length).map (dsq qv)) 7 (by simp;omega) (by simp;omega) (by simp) (fun r hr j=>by
  obtain⟨i,_,rfl⟩:=List.mem_map.mp hr;exact ax5 h i j)
 rw[<-a0b,<-ait h hop c] at d;exact d
end
def rwL(l:List Int):Rw:=fun j=>l.getD j 0
theorem aki{n:Nat}{l:List Int}(hl:l.length=n):D.tup (l.map D.int)=tpD n (rwL l):=by
 subst hl;unfold tpD rwL
 congr 1
 apply List.ext_getElem?;intro i;rw[List.getElem?_map,List.getElem?_map]
 by_cases hi:i < l.length
 ·rw[List.getElem?_range hi,List.getElem?_eq_getElem hi];simp[hi]
 ·rw[List.getElem?_eq_none (by omega),List.getElem?_eq_none (by simp;omega)]
  rfl
theorem apc{l:List Int}{a b:Int}(h0:a<=0)(h1:0<=b)(hl:∀x∈l,a<=x/\x<=b)(j:Nat):a<=rwL l j/\rwL l j<=b:=by
 unfold rwL;rw[List.getD_eq_getElem?_getD]
 by_cases hi:j < l.length
 ·rw[List.getElem?_eq_getElem hi];exact hl _ (List.getElem_mem hi)
 ·rw[List.getElem?_eq_none (by omega)]
  exact⟨h0,h1⟩
theorem al0(P:Int×Int){qv:LL9}(h:Hs qv):∃(ws:List Int) (P':Int×Int),xr [.own (some 0) (pen P),.val (hD qv)]=some (.ok (.v (.tup (ws.map D.int))),[.own (some 0) (pen P'),.val (hD qv)])/\ws.length=qv.length/\∀w∈ws,0<=w/\w<=1000000:=by
 have hm:=h.most;obtain⟨r1,P1,e1,r1a,r1b⟩:=rm P 4 (by decide) (by decide)
 have hg:∃g:Int,atI [D.int 3,D.int 9,D.int 101,D.int 1000000] r1=some (.int g)/\0 < g/\g<=1000000:=by
  have:r1=0∨r1=1∨r1=2∨r1=3:=by omega
  rcases this with rfl | rfl | rfl | rfl
  ·exact⟨3,rfl,by decide,by decide⟩
  ·exact⟨9,rfl,by decide,by decide⟩
  ·exact⟨101,rfl,by decide,by decide⟩
  ·exact⟨1000000,rfl,by decide,by decide⟩
 obtain⟨g,eg,g0,g1⟩:=hg;have comp:=mz (b:=az 0) (mc:=ret true) (me:=ac3) (fun j ys ρ=>∃ns P o,ρ=[o,.own (some 1) (pen P),.val (.int g)]/\ys=ns.map D.int/\ns.length=j/\∀x∈ns,0<=x/\x<=1000000)
  (l:=hDs qv) (ys:=[]) (ρ:=[.emp,.own (some 1) (pen P1),.val (.int g)]) 0 ⟨[],P1,.emp,rfl,rfl,rfl,by simp⟩ ?_
 ·obtain⟨ys,ρ',e6,ns,P6,o,rfl,rfl,hn,hx⟩:=comp;rw[aae,Nat.zero_add] at hn;refine⟨ns,P6,?_,hn,hx⟩;have hc:(ns.map D.int).length<=capS:=by rw[List.length_map];exact bc (by omega)
  have fp:fPow 10 6=some 1000000:=by decide +kernel
  generalize ns.map D.int=NN at *;simp only[hD] at *;simp[xr,ahb,e1,fp,eg,e6,hc]
 ·rintro j d ys ρ hd ⟨ns,P6,o,rfl,rfl,hn,hx⟩
  obtain⟨r7,P7,e7,r7a,r7b⟩:=rm P6 g (by omega) (by omega)
  refine⟨_,_,true,rfl,rfl,.inr ⟨rfl,.int r7,_,by simp[ac3,e7];rfl,ns++[r7],P7,_,rfl,by simp,by simp[hn],fun x hh =>?_⟩⟩
  rcases List.mem_append.mp hh with hh | hh
  ·exact hx x hh
  ·obtain rfl:x=r7:=by simpa using hh
   omega
theorem an9(P:Int×Int)(qv:LL9):∃(gs:List Int) (P':Int×Int) (o:Sl),compD (az 0) (ret true) zu (hDs qv) [] [.emp,.own (some 1) (pen P)]=some (.ok (gs.map D.int),[o,.own (some 1) (pen P')])/\gs.length=qv.length/\∀x∈gs,-4<=x/\x<=4:=by
 have comp:=mz (b:=az 0) (mc:=ret true) (me:=zu) (fun j ys ρ=>∃ns P o,ρ=[o,.own (some 1) (pen P)]/\ys=ns.map D.int/\ns.length=j/\∀x∈ns,-4<=x/\x<=4)
  (l:=hDs qv) (ys:=[]) (ρ:=[.emp,.own (some 1) (pen P)]) 0 ⟨[],P,.emp,rfl,rfl,rfl,by simp⟩ ?_
 ·obtain⟨ys,ρ',e6,ns,P6,o,rfl,rfl,hn,hx⟩:=comp;rw[aae,Nat.zero_add] at hn;exact⟨ns,P6,o,e6,hn,hx⟩
 ·rintro j d ys ρ hd ⟨ns,P6,o,rfl,rfl,hn,hx⟩
  obtain⟨r7,P7,e7,r7a,r7b⟩:=rm P6 9 (by omega) (by omega)
  refine⟨_,_,true,rfl,rfl,.inr ⟨rfl,.int (r7 - 4),_,by simp[zu,e7];rfl,ns++[r7 - 4],P7,_,rfl,by simp,by simp[hn],fun x hh =>?_⟩⟩
  rcases List.mem_append.mp hh with hh | hh
  ·exact hx x hh
  ·obtain rfl:x=r7 - 4:=by simpa using hh
   omega
def lowM(o:Rw):Rw:=fun j=>if 0 - o j > 0 then 0 - o j else 0
theorem ap4{n:Nat}(o:Rw):compD (az 0) (ret true) ab4 ((List.range n).map fun j=>.int (o j)) [] [.emp]=some (.ok ((List.range n).map fun j=>.int (lowM o j)),zc .emp ((List.range n).map fun j=>.int (o j))::[]):=by
 rw[j5 (f:=fun d=>match d with | .int x=>.int (if 0 - x > 0 then 0 - x else 0) | _=>.non)]
 ·rw[List.nil_append,List.map_map];rfl
 ·intro d hd;obtain⟨k,_,rfl⟩:=List.mem_map.mp hd;generalize o k=x;simp[ab4]
theorem ane{me:M D}(hme:∀x y:Int,me [.val (.int x),.val (.int y)]=some (.ok (.int (x+y)),[.val (.int x),.val (.int y)])){n:Nat}(f r:Rw):∃q1 q2,compD (bTup 2 (dh (az 0) (dh (az 1) bNil))) (ret true) me (ju ((List.range n).map fun j=>D.int (f j)) ((List.range n).map fun j=>D.int (r j))) [] [.emp,.emp]=some (.ok ((List.range n).map fun j=>.int (f j+r j)),[q1,q2]):=by
 have comp:=mz (b:=bTup 2 (dh (az 0) (dh (az 1) bNil))) (mc:=ret true) (me:=me) (fun j ys ρ=>∃o1 o2:Sl,ρ=[o1,o2]/\ys=(List.range j).map fun j=>.int (f j+r j))
  (l:=ju ((List.range n).map fun j=>D.int (f j)) ((List.range n).map fun j=>D.int (r j))) (ys:=[]) (ρ:=[.emp,.emp]) 0 ⟨.emp,.emp,rfl,rfl⟩ ?_
 ·obtain⟨ys,ρ',e6,o1,o2,rfl,rfl⟩:=comp;have hz:(ju ((List.range n).map fun j=>D.int (f j)) ((List.range n).map fun j=>D.int (r j))).length=n:=by unfold ju;rw[List.length_zipWith,cu,cu];omega
  rw[hz,Nat.zero_add] at e6;exact⟨o1,o2,e6⟩
 ·rintro j z ys ρ hd ⟨o1,o2,rfl,rfl⟩
  have hj:j < n:=by
   rcases Nat.lt_or_ge j n with q | q
   ·exact q
   ·rw[List.getElem?_eq_none (by unfold ju;rw[List.length_zipWith,cu,cu];omega)] at hd
    cases hd
  have ed:z=.tup [.int (f j),.int (r j)]:=by
   unfold ju at hd;rw[List.getElem?_zipWith,List.getElem?_map,List.getElem?_map,List.getElem?_range hj] at hd;exact(Option.some.inj hd).symm
  subst ed;refine⟨[.val (.int (f j)),.val (.int (r j))],_,true,by simp,rfl,.inr ⟨rfl,.int (f j+r j),[.val (.int (f j)),.val (.int (r j))],hme _ _,_,_,rfl,?_⟩⟩
  rw[Nat.zero_add,List.range_succ,List.map_append];rfl
theorem aju{x y:Rw}{X Y:Nat}:∀n,(∀k,k < n->(x k).natAbs<=X)->(∀k,k < n->(y k).natAbs<=Y)->(dot n x y).natAbs<=n*(X*Y)
 | 0,_,_=>by simp[dot]
 | n+1,hx,hy=>by
  have a:=aju n (fun k hk=>hx k (by omega)) fun k hk=>hy k (by omega)
  have b:=Nat.mul_le_mul (hx n (by omega)) (hy n (by omega))
  have c:(x n*y n).natAbs<=X*Y:=by rw[Int.natAbs_mul];exact b
  show(dot n x y+x n*y n).natAbs<=_;rw[Nat.succ_mul];omega
section
variable{qv:LL9}(h:Hs qv)
include h
theorem ar4(P:Int×Int):∃(a b g:Rw) (P':Int×Int),yo [.own (some 0) (pen P),.val (hD qv)]=some (.ok (.v (.tup [tpD qv.length a,tpD qv.length b,tpD qv.length g])),[.own (some 0) (pen P'),.val (hD qv)])/\(∀j,0<=a j/\a j<=100000000)/\(∀j,0<=b j/\b j<=100000000)/\∀j,atv qv g j=a j - b j:=by
 have hm:=h.most;obtain⟨ws,P1,e1,w1,w2⟩:=al0 P h;obtain⟨gs,P2,o,e2,g1,g2⟩:=an9 P1 qv;have wb:=apc (a:=0) (b:=1000000) (by decide) (by decide) w2
 have gb:=apc (a := -4) (b:=4) (by decide) (by decide) g2
 have hcg:(gs.map D.int).length<=capS:=by rw[List.length_map];exact bc (by omega)
 have tg:=aki g1;rw[aki w1] at e1;have e3:=ajl h (rwL ws) (rwL gs);have ab:∀j,(atv qv (rwL gs) j).natAbs<=400:=fun j=>by
  have:=aju (x:=fun k=>dsq qv k j) (y:=rwL gs) (X:=10) (Y:=4) qv.length (fun k hk=>agl h hk) fun k _=>by have:=gb k;omega
  unfold atv;omega
 have e4:=ap4 (n:=qv.length) fun j=>rwL ws j - atv qv (rwL gs) j
 obtain⟨q1,q2,e5⟩:=ane (me:=ab3) (fun x y=>by simp[ab3]) (n:=qv.length) (rwL ws) (lowM fun j=>rwL ws j - atv qv (rwL gs) j)
 obtain⟨q3,q4,e6⟩:=ane (me:=ab2) (fun x y=>by simp[ab2]) (n:=qv.length) (fun j=>rwL ws j - atv qv (rwL gs) j) (lowM fun j=>rwL ws j - atv qv (rwL gs) j)
 refine⟨fun j=>rwL ws j+lowM (fun j=>rwL ws j - atv qv (rwL gs) j) j,fun j=>(rwL ws j - atv qv (rwL gs) j)+lowM (fun j=>rwL ws j - atv qv (rwL gs) j) j,rwL gs,P2,?_,fun j =>?_,fun j =>?_,fun j =>?_⟩
 ·have l0:=cu qv.length (rwL ws);have l1:=cu qv.length (fun j=>rwL ws j - atv qv (rwL gs) j)
  have l2:=cu qv.length (lowM fun j=>rwL ws j - atv qv (rwL gs) j)
  have l3:=cu qv.length (fun j=>rwL ws j+lowM (fun j=>rwL ws j - atv qv (rwL gs) j) j)
  have l4:=cu qv.length (fun j=>(rwL ws j - atv qv (rwL gs) j)+lowM (fun j=>rwL ws j - atv qv (rwL gs) j) j)
  unfold tpD at *;generalize (List.range qv.length).map (fun j=>D.int (rwL ws j+lowM (fun j=>rwL ws j - atv qv (rwL gs) j) j))=Z3 at *
  generalize (List.range qv.length).map (fun j=>D.int ((rwL ws j - atv qv (rwL gs) j)+lowM (fun j=>rwL ws j - atv qv (rwL gs) j) j))=Z4 at *
  generalize (List.range qv.length).map (fun j=>D.int (lowM (fun j=>rwL ws j - atv qv (rwL gs) j) j))=Z2 at *
  generalize (List.range qv.length).map (fun j=>D.int (rwL ws j - atv qv (rwL gs) j))=Z1 at *
  generalize (List.range qv.length).map (fun j=>D.int (rwL ws j))=Z0 at *
  rw[<-tg] at e3 ⊢
  generalize gs.map D.int=GG at *;have c2:Z2.length<=capS:=by rw[l2];exact bc (by omega)
  have c3:Z3.length<=capS:=by rw[l3];exact bc (by omega)
  have c4:Z4.length<=capS:=by rw[l4];exact bc (by omega)
  have m1:Z0.length<=Z2.length:=by omega
  have m2:Z1.length<=Z2.length:=by omega
  clear l0 l1 l2 l3 l4 tg
  simp only[hD] at *;simp[yo,age,e1,e2,hcg,e3,e4,c2,m1,e5,c3,m2,e6,c4]
 ·have:=wb j;have:=ab j;show 0<=rwL ws j+(if 0 - (rwL ws j - atv qv (rwL gs) j) > 0 then 0 - (rwL ws j - atv qv (rwL gs) j) else 0)/\rwL ws j+(if 0 - (rwL ws j - atv qv (rwL gs) j) > 0 then 0 - (rwL ws j - atv qv (rwL gs) j) else 0)<=_
  split <;> omega
 ·have:=wb j;have:=ab j;show 0<=(rwL ws j - atv qv (rwL gs) j)+(if 0 - (rwL ws j - atv qv (rwL gs) j) > 0 then 0 - (rwL ws j - atv qv (rwL gs) j) else 0)/\(rwL ws j - atv qv (rwL gs) j)+(if 0 - (rwL ws j - atv qv (rwL gs) j) > 0 then 0 - (rwL ws j - atv qv (rwL gs) j) else 0)<=_
  split <;> omega
 ·show _=rwL ws j+lowM _ j - ((rwL ws j - atv qv (rwL gs) j)+lowM _ j);omega
end
theorem av8(n:Nat)(w:Rw):tpD n w=.tup (((List.range n).map w).map D.int):=by
 unfold tpD;rw[List.map_map];rfl
theorem aqr(neg:Bool)(n:Nat)(w:Rw):gEq neg (tpD n w) (tpD n w)=some (.v (.bl (!neg))):=by
 rw[av8,aih];cases neg <;> simp
theorem ae9{n:Nat}{v w:Rw}(h:∀j,j < n->v j=w j):tpD n v=tpD n w:=by
 unfold tpD
 congr 1
 exact List.map_congr_left fun j hj=>by rw[h j (List.mem_range.mp hj)]
theorem ae8{n:Nat}(hn:n<=100)(w:Rw)(d:D)(hd:d=tpD n w):jn [.val (tpD n w),.val d]=some (.ok (.v (.bl true)),[.val (tpD n w),.val d]):=by
 have hw:∀x:Int,j8 [.val (.int x)]=some (.ok (.v (.bl true)),[.val (.int x)]):=fun x=>aes (.int x)
 have comp:compD (az 0) (ret true) aa8 ((List.range n).map fun j=>D.int (w j)) [] [.emp]=some (.ok ((List.range n).map fun _=>D.bl true),zc .emp ((List.range n).map fun j=>.int (w j))::[]):=by
  rw[j5 (f:=fun _=>.bl true)]
  ·rw[List.nil_append,List.map_map];rfl
  ·intro d hd;obtain⟨k,_,rfl⟩:=List.mem_map.mp hd;have:=hw (w k);generalize w k=x at *;simp[aa8,this]
 have ga:gAll (.lst ((List.range n).map fun _=>D.bl true))=some (.v (.bl true)):=by
  have:∀k,boolsD (List.replicate k (D.bl true))=some (List.replicate k true):=fun k=>by
   induction k with
   | zero=>rfl
   | succ k ih =>
    rw[List.replicate_succ,List.replicate_succ];show(boolsD (List.replicate k (D.bl true))).map _=_;rw[ih];rfl
  rw[List.map_const',List.length_range,amv,this];simp
 have hc:((List.range n).map fun _=>D.bl true).length<=capS:=by simp;exact bc (by omega)
 have gq:=aqr true n w;subst hd;unfold tpD at *;generalize (List.range n).map (fun _=>D.bl true)=BB at *
 generalize (List.range n).map (fun j=>D.int (w j))=WW at *
 have ty:isTy .tuple (D.tup WW)=true:=rfl;simp[-amv,jn,aez,ty,gq,comp,hc,ga]
theorem ajw{me:M D}(n:Nat)(F:Nat->Rw)(hme:∀t,t < n->me [.val (.int (t:Int)),.val (rwD n (F t))]=some (.ok (.int (F t t)),[.val (.int (t:Int)),.val (rwD n (F t))])):∃q1 q2,compD (bTup 2 (dh (az 0) (dh (az 1) bNil))) (ret true) me (aag ((List.range n).map fun t=>rwD n (F t))) [] [.emp,.emp]=some (.ok ((List.range n).map fun t=>D.int (F t t)),[q1,q2]):=by
 have comp:=mz (b:=bTup 2 (dh (az 0) (dh (az 1) bNil))) (mc:=ret true) (me:=me) (fun j ys ρ=>∃o1 o2:Sl,ρ=[o1,o2]/\ys=(List.range j).map fun t=>D.int (F t t))
  (l:=aag ((List.range n).map fun t=>rwD n (F t))) (ys:=[]) (ρ:=[.emp,.emp]) 0 ⟨.emp,.emp,rfl,rfl⟩ ?_
 ·obtain⟨ys,ρ',e6,o1,o2,rfl,rfl⟩:=comp;rw[qz,List.length_map,List.length_range,Nat.zero_add] at e6;exact⟨o1,o2,e6⟩
 ·rintro t z ys ρ hd ⟨o1,o2,rfl,rfl⟩
  obtain⟨d0,g1,rfl⟩:=uw hd;have ht:t < n:=by
   have:=(List.getElem?_eq_some_iff.mp g1).1
   simpa using this
  rw[List.getElem?_map,List.getElem?_range ht] at g1;have ed:d0=rwD n (F t):=(Option.some.inj g1).symm;subst ed;rw[Nat.zero_add];refine⟨[.val (.int (t:Int)),.val (rwD n (F t))],_,true,by simp,rfl,.inr ⟨rfl,_,_,hme t ht,_,_,rfl,?_⟩⟩
  rw[List.range_succ,List.map_append];rfl
section
variable{qv:LL9}(h:Hs qv)(hop:ux qv=[])
include h hop
theorem af5:gr [.val (hD qv)]=some (.ok (.v .non),[.val (hD qv)]):=by
 have q:=aow h;rw[hop] at q;have e3:gEq true (.tup []) (.tup [])=some (.v (.bl false)):=aih true [] [];simp[gr,vd,q,e3]
theorem axl:my [.val (hD qv)]=some (.ok (.v (.int (botm qv fun _=>0))),[.val (hD qv)]):=by
 have e1:=af5 h hop;have e2:=yw h;have e3:=agz h hop;generalize mtD qv.length qv.length (dsq qv)=MM at *;generalize hD qv=hh at *;simp[my,abi,e1,e2,e3]
variable(h6:qv.length<=6)
include h6
theorem at6{G:Nat->Rw}(eG:vh [.val (.lst (mtD qv.length qv.length (dsq qv)))]=some (.ok (.fr ((List.range qv.length).map fun t=>rwD qv.length (G t))),[.val (.lst (mtD qv.length qv.length (dsq qv)))])):vq [.val (hD qv)]=some (.ok (.v (tpD qv.length fun t=>G t t)),[.val (hD qv)]):=by
 have e1:=af5 h hop;have e2:=yw h;obtain⟨q1,q2,e3⟩:=ajw (me:=aa6) qv.length G fun t ht=>by
  have x2:=uc (r:=G t) ht;unfold rwD;generalize (List.range qv.length).map (fun j=>D.int (G t j))=z1 at *
  generalize G t t=x at *;generalize (t:Int)=tt at *;simp[aa6,x2]
 have hc:((List.range qv.length).map fun t=>D.int (G t t)).length<=capS:=by rw[cu qv.length fun t=>G t t];exact bc (by omega)
 have hc2:((List.range qv.length).map fun t=>rwD qv.length (G t)).length<=capS:=by rw[List.length_map,List.length_range];exact bc (by omega)
 unfold tpD;generalize (List.range qv.length).map (fun t=>D.int (G t t))=DD at *
 generalize (List.range qv.length).map (fun t=>rwD qv.length (G t))=GG at *
 generalize mtD qv.length qv.length (dsq qv)=MM at *;generalize hD qv=hh at *;simp[vq,aew,e1,e2,eG,e3,hc]
theorem like_eq{G:Nat->Rw}(eG:vh [.val (.lst (mtD qv.length qv.length (dsq qv)))]=some (.ok (.fr ((List.range qv.length).map fun t=>rwD qv.length (G t))),[.val (.lst (mtD qv.length qv.length (dsq qv)))]))(T:Tri qv.length qv.length G)(bG:∀t,t < qv.length->∀j,j < qv.length->(G t j).natAbs<=Yb (t+1))(bd:∀t,t < qv.length->(G t t).natAbs < bgD){v:Rw}(hv:∀j,j < qv.length->0<=v j/\v j<=1000000000000000000000000000000) :
  jk [.val (hD qv),.val (tpD qv.length v)]=some (.ok (.v (tpD qv.length (rd G v qv.length))),[.val (hD qv),.val (tpD qv.length v)]):=by
 have e1:=an2 h hop v hv;have e2:=yw h;have e3:=ak0 h6 T bG bd (v:=v) fun j hj=>by have:=hv j hj;omega
 have hc:((List.range qv.length).map fun j=>D.int (rd G v qv.length j)).length<=capS:=by rw[cu qv.length (rd G v qv.length)];exact bc (by omega)
 unfold tpD at *;generalize (List.range qv.length).map (fun j=>D.int (rd G v qv.length j))=RR at *
 generalize (List.range qv.length).map (fun j=>D.int (v j))=VV at *
 generalize (List.range qv.length).map (fun t=>rwD qv.length (G t))=GG at *
 generalize mtD qv.length qv.length (dsq qv)=MM at *;generalize hD qv=hh at *;simp[jk,aev,e1,e2,eG,e3,hc]
theorem ajk{F:Nat->Rw}(eF:jt [.val (hD qv)]=some (.ok (.fr ((List.range qv.length).map fun t=>rwD qv.length (F t))),[.val (hD qv)]))(T:Tri qv.length qv.length F)(bF:∀t,t < qv.length->∀j,j < qv.length->(F t j).natAbs<=B6){v:Rw}(bv:∀j,j < qv.length->(v j).natAbs<=1000000000000000000000000000000) :
  j9 [.val (hD qv),.val (tpD qv.length v)]=some (.ok (.v (tpD qv.length (rd F v qv.length))),[.val (hD qv),.val (tpD qv.length v)]):=by
 have b3:1000000000000000000000000000000<=B6:=Nat.le_trans (show 1000000000000000000000000000000<=Zb 2 by decide +kernel) (asb (by decide))
 have bd:=ayn;have bM:=avv;have le:=ay5 T (B:=B6) (by omega) bF (v:=v) fun j hj=>Nat.le_trans (bv j hj) b3
 have big:∀t,t < qv.length->B6 ^ (1+2*t)+B6 < bgM:=fun t ht=>by
  have h1:B6 ^ (1+2*t)<=B6 ^ 11:=Nat.pow_le_pow_right (by omega) (by omega)
  have h2:B6 ^ 11+B6<=B6 ^ 12:=by
   rw[Nat.pow_succ _ 11];have a:B6<=B6 ^ 11:=by
    have:=Nat.pow_le_pow_right (show 0 < B6 by omega) (show 1<=11 by decide)
    rwa[Nat.pow_one] at this
   have:=Nat.mul_le_mul_left (B6 ^ 11) (show 2<=B6 by omega)
   omega
  have h3:B6 ^ 12 < bgM:=by
   have:B6 < 2 ^ 8000:=by
    have:=ayn;unfold bgD at this;exact this
   have:=Nat.pow_lt_pow_left this (show 12≠0 by decide)
   rw[<-Nat.pow_mul] at this;unfold bgM;exact Nat.lt_trans this (Nat.pow_lt_pow_right (by decide) (by decide))
  omega
 have fl:((List.range qv.length).map fun t=>rwD qv.length (F t)).length=qv.length:=by simp
 have loop:=qi (b:=bTup 2 (dh (az 3) (dh (az 4) bNil))) (g:=aay) (fun t ρ=>∃o3 o4 o5,ρ=[.val (hD qv),.val (tpD qv.length v),.own none ((List.range qv.length).map fun j=>.int (rd F v t j)),o3,o4,o5])
  (l:=aag ((List.range qv.length).map fun t=>rwD qv.length (F t))) (ρ:=[.val (hD qv),.val (tpD qv.length v),.own none ((List.range qv.length).map fun j=>.int (v j)),.emp,.emp,.emp]) 0 ⟨.emp,.emp,.emp,rfl⟩ ?_
 ·obtain⟨ρ',e,o3,o4,o5,rfl⟩:=loop;rw[qz,fl,Nat.zero_add] at e;have hc:((List.range qv.length).map fun j=>D.int (v j)).length<=capS:=by rw[cu];exact bc (by omega)
  have hc2:((List.range qv.length).map fun j=>D.int (rd F v qv.length j)).length<=capS:=by rw[cu qv.length (rd F v qv.length)];exact bc (by omega)
  unfold tpD at *;generalize (List.range qv.length).map (fun t=>rwD qv.length (F t))=FF at *
  generalize (List.range qv.length).map (fun j=>D.int (rd F v qv.length j))=RR at *
  generalize (List.range qv.length).map (fun j=>D.int (v j))=VV at *
  generalize hD qv=hh at *;simp[j9,ae2,hc,eF,e,hc2]
 ·rintro t d ρ hd ⟨o3,o4,o5,rfl⟩
  rw[Nat.zero_add] at *;obtain⟨d0,g1,rfl⟩:=uw hd;have ht:t < qv.length:=by
   have:=(List.getElem?_eq_some_iff.mp g1).1;rwa[fl] at this
  rw[List.getElem?_map,List.getElem?_range ht] at g1;have ed:d0=rwD qv.length (F t):=(Option.some.inj g1).symm;subst ed;have p:=T.pos t ht;obtain⟨_,_,_,n4,_⟩:=adt (x:=rd F v t t) (y:=F t t) (by omega)
  have q1:((rd F v t t).fdiv (F t t)).natAbs<=(rd F v t t).natAbs+(F t t).natAbs:=Nat.le_trans (Nat.le_mul_of_pos_right _ (by omega)) n4
  have b1:=le t (by omega) t ht
  have b2:=bF t ht t ht;have b4:=big t ht;obtain⟨z1,z2,e⟩:=alc (n:=qv.length) (rd F v t) (F t) ((rd F v t t).fdiv (F t t)) (by omega) fun j hj=>by have:=bF t ht j hj;omega
  rw[show qj=adx from rfl] at e
  have x1:=uc (r:=rd F v t) ht;have x2:=uc (r:=F t) ht;have fd:adq (rd F v t t) (F t t)=some ((rd F v t t).fdiv (F t t)):=by unfold adq;rw[if_pos ⟨by omega,by omega⟩]
  have l1:=cu qv.length (rd F v t);have l2:=cu qv.length (F t);have l3:=cu qv.length (fun j=>rd F v t j - (rd F v t t).fdiv (F t t)*F t j)
  have hc:((List.range qv.length).map fun j=>D.int (rd F v t j - (rd F v t t).fdiv (F t t)*F t j)).length<=capS:=by rw[l3];exact bc (by omega)
  refine⟨[.val (hD qv),.val (tpD qv.length v),.own none ((List.range qv.length).map fun j=>.int (rd F v t j)),.val (.int (t:Int)),.val (rwD qv.length (F t)),o5],[.val (hD qv),.val (tpD qv.length v),.own none ((List.range qv.length).map fun j=>.int (rd F v t j - (rd F v t t).fdiv (F t t)*F t j)),.val (.int (t:Int)),.val (rwD qv.length (F t)),.val (.int ((rd F v t t).fdiv (F t t)))],by simp,.inl ?_,_,_,_,rfl⟩
  unfold rwD at *;generalize (rd F v t t).fdiv (F t t)=q at *;generalize (List.range qv.length).map (fun j=>D.int (rd F v t j - q*F t j))=z3 at *
  generalize (List.range qv.length).map (fun j=>D.int (rd F v t j))=y1 at *
  generalize (List.range qv.length).map (fun j=>D.int (F t j))=y2 at *
  have hle:y1.length<=y2.length:=by omega
  generalize rd F v t t=xa at *;generalize F t t=xb at *;generalize (t:Int)=tt at *;generalize tpD qv.length v=vv at *;generalize hD qv=hh at *;simp[aay,x1,x2,fd,hle,e,hc]
end
theorem afc(F:Nat->Rw)(t:Nat):∀l:List Nat,prd F (l++[t])=prd F l*F t t
 | []=>by show F t t*1=1*F t t;omega
 | s::l=>by
  show F s s*prd F (l++[t])=F s s*prd F l*F t t;rw[afc F t l,Int.mul_assoc]
theorem api{n:Nat}{F:Nat->Rw}(T:Tri n n F):∀t,t<=n->1<=prd F (List.range t)
 | 0,_=>Int.le_refl 1
 | t+1,ht=>by
  rw[List.range_succ,afc];have:=Int.mul_pos (show 0 < prd F (List.range t) by have:=api T t (by omega);omega) (T.pos t (by omega))
  omega
theorem ava{n:Nat}{F:Nat->Rw}(T:Tri n n F){t:Nat}(ht:t < n):prd F (List.range t)<=prd F (List.range (t+1))/\F t t<=prd F (List.range (t+1)):=by
 rw[List.range_succ,afc];have p:=api T t (by omega)
 have q:=T.pos t ht;have m1:=Int.mul_le_mul_of_nonneg_left (show(1:Int)<=F t t by omega) (show 0<=prd F (List.range t) by omega)
 have m2:=Int.mul_le_mul_of_nonneg_right p (show 0<=F t t by omega)
 rw[Int.mul_one] at m1;rw[Int.one_mul] at m2;exact⟨m1,m2⟩
theorem avb{n:Nat}{F:Nat->Rw}(T:Tri n n F):∀k t,t+k=n->prd F (List.range t)<=prd F (List.range n)
 | 0,t,h=>by rw[show t=n by omega];exact Int.le_refl _
 | k+1,t,h=>Int.le_trans (ava T (show t < n by omega)).1 (avb T k (t+1) (by omega))
section
variable{qv:LL9}(h:Hs qv)(hop:ux qv=[])(h6:qv.length<=6)
include h hop h6
theorem aiu:∃F G:Nat->Rw,jt [.val (hD qv)]=some (.ok (.fr ((List.range qv.length).map fun t=>rwD qv.length (F t))),[.val (hD qv)])/\vh [.val (.lst (mtD qv.length qv.length (dsq qv)))]=some (.ok (.fr ((List.range qv.length).map fun t=>rwD qv.length (G t))),[.val (.lst (mtD qv.length qv.length (dsq qv)))])/\Tri qv.length qv.length F/\Tri qv.length qv.length G/\(∀v,Sp qv.length (fun r=>∃t,t < qv.length/\r=F t) v↔InL qv v)/\(∀v,Sp qv.length (fun r=>∃t,t < qv.length/\r=F t) v↔Sp qv.length (fun r=>∃t,t < qv.length/\r=G t) v)/\(∀t,t < qv.length->∀j,j < qv.length->(F t j).natAbs<=B6)/\(∀t,t < qv.length->∀j,j < qv.length->(G t j).natAbs<=Yb (t+1))/\prd F (List.range qv.length)=botm qv (fun _=>0)/\∀t,t < qv.length->F t t=G t t/\0 < F t t/\F t t<=60466176:=by
 obtain⟨F,eF,TF,sF,bF⟩:=as4 h hop h6;obtain⟨G,eG,TG,sG,bG⟩:=aoz h hop h6;have s:∀v,Sp qv.length (fun r=>∃t,t < qv.length/\r=F t) v↔Sp qv.length (fun r=>∃t,t < qv.length/\r=G t) v:=fun v=>(sF v).trans (sG v).symm
 have bi:=ar3 h hop fun _=>0
 have bd:=ait h hop fun _=>0
 have pd:prd F (List.range qv.length)=botm qv (fun _=>0):=by
  rw[bd];exact awq TF (fun v=>(sF v).trans (ao1 qv v).symm) (by rw[<-bd];exact bi.1)
 refine⟨F,G,eF,eG,TF,TG,sF,s,bF,bG,pd,fun t ht=>⟨alw TF TG s ht,TF.pos t ht,?_⟩⟩
 have h1:=(ava TF ht).2;have h2:=avb TF (qv.length - (t+1)) (t+1) (by omega)
 omega
variable{F G:Nat->Rw}(eF:jt [.val (hD qv)]=some (.ok (.fr ((List.range qv.length).map fun t=>rwD qv.length (F t))),[.val (hD qv)]))(eG:vh [.val (.lst (mtD qv.length qv.length (dsq qv)))]=some (.ok (.fr ((List.range qv.length).map fun t=>rwD qv.length (G t))),[.val (.lst (mtD qv.length qv.length (dsq qv)))]))(TF:Tri qv.length qv.length F)(pd:prd F (List.range qv.length)=botm qv (fun _=>0))(dg:∀t,t < qv.length->F t t=G t t/\0 < F t t/\F t t<=60466176)
include eF eG TF pd dg
theorem aci:je [.val (hD qv)]=some (.ok (.v (.bl true)),[.val (hD qv)]):=by
 have e1:=axl h hop;have e2:=at6 h hop h6 eG;have ec:tpD qv.length (fun t=>F t t)=tpD qv.length (fun t=>G t t):=ae9 fun t ht=>(dg t ht).1
 have e3:=ae8 (n:=qv.length) (by omega) (fun t=>G t t) _ ec
 have e4:=table_eq h;have e5:=asp h hop h6 fun _=>0
 obtain⟨q1,q2,e6⟩:=ajw (me:=sy) qv.length F fun t ht=>by
  have x2:=uc (r:=F t) ht;unfold rwD;generalize (List.range qv.length).map (fun j=>D.int (F t j))=z1 at *
  generalize F t t=x at *;generalize (t:Int)=tt at *;simp[sy,x2]
 have hc:((List.range qv.length).map fun t=>D.int (F t t)).length<=capS:=by rw[cu qv.length fun t=>F t t];exact bc (by omega)
 have hw:=aes (.int (botm qv fun _=>0))
 have loop:=qi (b:=az 4) (g:=su) (fun t ρ=>∃o4,ρ=[.val (hD qv),.val (tpD qv.length fun t=>F t t),.val (.int (botm qv fun _=>0)),.val (.int (prd F (List.range t))),o4])
  (l:=(List.range qv.length).map fun t=>D.int (F t t)) (ρ:=[.val (hD qv),.val (tpD qv.length fun t=>F t t),.val (.int (botm qv fun _=>0)),.val (.int 1),.emp]) 0 ⟨.emp,rfl⟩ ?_
 ·obtain⟨ρ',e,o4,rfl⟩:=loop;rw[cu qv.length fun t=>F t t,Nat.zero_add,pd] at e
  unfold tpD at *;generalize (List.range qv.length).map (fun t=>D.int (F t t))=DF at *
  generalize (List.range qv.length).map (fun t=>D.int (G t t))=DG at *
  generalize (List.range qv.length).map (fun t=>rwD qv.length (F t))=FF at *
  generalize mtD qv.length qv.length (dsq qv)=MM at *;generalize botm qv (fun _=>0)=bb at *
  generalize hD qv=hh at *;have hw2:j8 [.val (.int bb)]=some (.ok (.v (.bl true)),[.val (.int bb)]):=hw
  clear hw
  simp[je,zq,eF,e6,hc,e1,e2,e3,hw2,e4,e5,e]
 ·rintro t d ρ hd ⟨o4,rfl⟩
  rw[Nat.zero_add] at *;have ht:t < qv.length:=by
   have:=(List.getElem?_eq_some_iff.mp hd).1
   simpa using this
  rw[List.getElem?_map,List.getElem?_range ht] at hd;have ed:d=.int (F t t):=(Option.some.inj hd).symm;subst ed;have b:=dg t ht;have hf:fMul (prd F (List.range t)) (F t t)=some (prd F (List.range t)*F t t):=by unfold fMul;rw[if_pos (.inr ⟨by omega,by omega⟩)]
  refine⟨[.val (hD qv),.val (tpD qv.length fun t=>F t t),.val (.int (botm qv fun _=>0)),.val (.int (prd F (List.range t))),.val (.int (F t t))],[.val (hD qv),.val (tpD qv.length fun t=>F t t),.val (.int (botm qv fun _=>0)),.val (.int (prd F (List.range t)*F t t)),.val (.int (F t t))],by simp,.inl ?_,_,by rw[List.range_succ,afc]⟩
  generalize prd F (List.range t)=p at *;generalize F t t=x at *;simp[su,hf]
end
theorem a4o{hh W U:D}(e1:jk [.val hh,.val W]=some (.ok (.v U),[.val hh,.val W]))(e2:jn [.val U,.val U]=some (.ok (.v (.bl true)),[.val U,.val U]))(a0 a1 a2 a4 a5 a6 a7 a8:Sl):amk [a0,a1,a2,.val hh,a4,a5,a6,a7,a8,.val W,.val U]=some (.nx,[a0,a1,a2,.val hh,a4,a5,a6,a7,a8,.val W,.val U]):=by
 simp[amk,e1,e2]
theorem for5{hh:D}(a0 a1 a2 a4 a5 a6 a7 a8:Sl):∀(L:List (D×D)) (o9 o10:Sl),(∀p∈L,jk [.val hh,.val p.1]=some (.ok (.v p.2),[.val hh,.val p.1])/\jn [.val p.2,.val p.2]=some (.ok (.v (.bl true)),[.val p.2,.val p.2])) ->
  ∃q9 q10,forD (bTup 2 (dh (az 9) (dh (az 10) bNil))) amk (L.map fun p=>D.tup [p.1,p.2]) [a0,a1,a2,.val hh,a4,a5,a6,a7,a8,o9,o10]=some (.nx,[a0,a1,a2,.val hh,a4,a5,a6,a7,a8,q9,q10])
 | [],o9,o10,_=>⟨o9,o10,rfl⟩
 | p::L,o9,o10,hp=>by
  obtain⟨q9,q10,e⟩:=for5 a0 a1 a2 a4 a5 a6 a7 a8 L (.val p.1) (.val p.2) fun q hq=>hp q (List.mem_cons_of_mem _ hq)
  obtain⟨h1,h2⟩:=hp p (List.mem_cons_self ..);have st:=a4o h1 h2 a0 a1 a2 a4 a5 a6 a7 a8;refine⟨q9,q10,?_⟩;rw[List.map_cons,ut];generalize (L.map fun p=>D.tup [p.1,p.2])=LL at *
  simp[st,e]
theorem a4n(S:D)(n:Int)(a2 a3 a4 a5 a6 a7 a8 a9 a10:Sl):∃ρ,l2_law [.val S,.val (.int n),a2,a3,a4,a5,a6,a7,a8,a9,a10]=some (.nx,.val S::ρ)/\ρ.length=10:=by
 obtain⟨P,e0⟩:=ate n;obtain⟨r1,P1,e1,r1a,r1b⟩:=rm P 3 (by decide) (by decide)
 have hg:∃g:Int,atI [D.int 2,D.int 4,D.int 6] r1=some (.int g)/\1<=g/\g<=6:=by
  have:r1=0∨r1=1∨r1=2:=by omega
  rcases this with rfl | rfl | rfl
  ·exact⟨2,rfl,by decide,by decide⟩
  ·exact⟨4,rfl,by decide,by decide⟩
  ·exact⟨6,rfl,by decide,by decide⟩
 obtain⟨g,eg,g0,g1⟩:=hg;obtain⟨qv,P2,e2,h,hop,hl,_⟩:=open_spec P1 g 5 (by omega) (by omega) (by decide) (by decide)
 have h6:qv.length<=6:=by omega
 obtain⟨F,G,eF,eG,TF,TG,sF,s,bF,bG,pd,dg⟩:=aiu h hop h6;have e3:=aci h hop h6 eF eG TF pd dg;obtain⟨a,b,gv,P3,e4,ha,hb,hgv⟩:=ar4 h P2;obtain⟨ws,P4,e5,w1,w2⟩:=al0 P3 h;have wb:=apc (a:=0) (b:=1000000) (by decide) (by decide) w2
 rw[aki w1] at e5;have bdG:∀t,t < qv.length->(G t t).natAbs < bgD:=fun t ht=>by
  have:=dg t ht;have h1:(2:Nat) ^ 26<=bgD:=by unfold bgD;exact Nat.pow_le_pow_right (by decide) (by decide)
  omega
 have like:∀v:Rw,(∀j,j < qv.length->0<=v j/\v j<=1000000000)->jk [.val (hD qv),.val (tpD qv.length v)]=some (.ok (.v (tpD qv.length (rd G v qv.length))),[.val (hD qv),.val (tpD qv.length v)]):=fun v hv=>like_eq h hop h6 eG TG bG bdG fun j hj=>by have:=hv j hj;omega
 have least:∀v:Rw,(∀j,j < qv.length->0<=v j/\v j<=1000000000)->j9 [.val (hD qv),.val (tpD qv.length v)]=some (.ok (.v (tpD qv.length (rd F v qv.length))),[.val (hD qv),.val (tpD qv.length v)]):=fun v hv=>ajk h hop h6 eF TF bF fun j hj=>by have:=hv j hj;omega
 have zero:∀v:Rw,Sp qv.length (fun r=>∃t,t < qv.length/\r=F t) (fun j=>v j - v j):=fun v=>.zero fun j _=>by omega
 have ab:Sp qv.length (fun r=>∃t,t < qv.length/\r=F t) (fun j=>a j - b j):=(sF _).mpr ⟨gv,fun j _=>hgv j⟩
 have ba:Sp qv.length (fun r=>∃t,t < qv.length/\r=F t) (fun j=>b j - a j):=(ab.plus (.zero (v:=fun _=>0) fun _ _=>rfl) (-1)).congr fun j _=>by omega
 have eFG:∀v:Rw,tpD qv.length (rd F v qv.length)=tpD qv.length (rd G v qv.length):=fun v=>ae9 (apd TF TG s v v (zero v))
 have d1:tpD qv.length (rd G b qv.length)=tpD qv.length (rd G a qv.length):=(ae9 (apd TF TG s a b ab)).symm.trans (eFG a);have d2:tpD qv.length (rd G (rd G a qv.length) qv.length)=tpD qv.length (rd G a qv.length):=by
  have hs:=(s _).mpr (al1 (n:=qv.length) (F:=G) a qv.length (Nat.le_refl _));exact(ae9 (apd TF TG s a (rd G a qv.length) hs)).symm.trans (eFG a)
 have ra:∀j,j < qv.length->0<=rd G a qv.length j/\rd G a qv.length j<=1000000000:=fun j hj=>by
  have:=al2 TG a qv.length (Nat.le_refl _) hj;have:=dg j hj;omega
 have aB:∀j,j < qv.length->0<=a j/\a j<=1000000000:=fun j _=>by have:=ha j;omega
 have bB:∀j,j < qv.length->0<=b j/\b j<=1000000000:=fun j _=>by have:=hb j;omega
 have wB:∀j,j < qv.length->0<=rwL ws j/\rwL ws j<=1000000000:=fun j _=>by have:=wb j;omega
 have la:=least a aB;have lb:=least b bB;have lw:=least (rwL ws) wB;rw[eFG a] at la;rw[eFG b,d1] at lb;rw[eFG] at lw;have ka:=like a aB;have kb:=like b bB;have kw:=like (rwL ws) wB;have kd:=like (rd G a qv.length) ra;rw[d1] at kb;rw[d2] at kd;have hn:qv.length<=100:=by omega
 have ta:=ae8 hn (rd G a qv.length) _ rfl;have tw:=ae8 hn (rd G (rwL ws) qv.length) _ rfl;have gq:=aqr true qv.length (rd G a qv.length);generalize tpD qv.length (rd G a qv.length)=U at *;generalize tpD qv.length (rd G (rwL ws) qv.length)=V at *;generalize tpD qv.length (rwL ws)=W at *;generalize tpD qv.length a=A at *;generalize tpD qv.length b=B at *;generalize tpD qv.length gv=C at *;generalize hD qv=hh at *;obtain⟨q9,q10,e6⟩:=for5 (hh:=hh) (.val S) (.val (.int n)) (.own none (pen P4)) (.val A) (.val B) (.val C) (.val U) (.val W) [(A,U),(B,U),(W,V),(A,U),(U,U)] a9 a10 (by
  intro p hp;simp at hp;rcases hp with rfl | rfl | rfl | rfl | rfl
  ·exact⟨ka,ta⟩
  ·exact⟨kb,ta⟩
  ·exact⟨kw,tw⟩
  ·exact⟨ka,ta⟩
  ·exact⟨kd,ta⟩)
 simp only[List.map_cons,List.map_nil] at e6;refine⟨[.val (.int n),.own none (pen P4),.val hh,.val A,.val B,.val C,.val U,.val W,q9,q10],?_,rfl⟩;simp[l2_law,e0,e1,eg,e2,e3,e4,la,lb,gq,e5,lw,e6]
theorem a0n(S:D):∀(ns:List Int) (q a2 a3 a4 a5 a6 a7 a8 a9 a10:Sl),∃ρ,forD (az 1) l2_law (ns.map D.int) [.val S,q,a2,a3,a4,a5,a6,a7,a8,a9,a10]=some (.nx,.val S::ρ)
 | [],q,a2,a3,a4,a5,a6,a7,a8,a9,a10=>⟨_,rfl⟩
 | n::ns,q,a2,a3,a4,a5,a6,a7,a8,a9,a10=>by
  obtain⟨ρ,e,hl⟩:=a4n S n a2 a3 a4 a5 a6 a7 a8 a9 a10
  match ρ,hl with
  | [b1,b2,b3,b4,b5,b6,b7,b8,b9,b10],_ =>
   obtain⟨ρ',e'⟩:=a0n S ns b1 b2 b3 b4 b5 b6 b7 b8 b9 b10;exact⟨ρ',by rw[List.map_cons,ut];simp[e,e']⟩
theorem al7{r:List Int}{d:Int}(hd:d∈r)(h0:d < 0):ux [r]=[]:=alx fun a a0 a1=>by
 have:a=0:=by simp at a1;omega
 rw[this];exact⟨d,.step .base (by decide) hd,h0⟩
theorem aty:als aqy:=fun ns hn=>by
 obtain⟨n0,e0⟩:=arl ns 0 (by decide)
 obtain⟨ms,em,hm⟩:=arf ns (some 1) (some 3);have hc:1+ms.length<=capS:=bc (by omega)
 obtain⟨ρ,q⟩:=a0n (.kst (ns.map D.int)) (n0::ms) .emp .emp .emp .emp .emp .emp .emp .emp .emp .emp;simp only[List.map_cons] at q;have k1:je [.val (.tup [.tup [.int (-2)]])]=some (.ok (.v (.bl true)),[.val (.tup [.tup [.int (-2)]])]):=by
  have h:Hs [[-2]]:=⟨by decide,by decide,by decide⟩
  have hop:ux [[-2]]=[]:=al7 (d := -2) (by decide) (by decide)
  obtain⟨F,G,eF,eG,TF,TG,sF,s,bF,bG,pd,dg⟩:=aiu h hop (by decide)
  exact aci h hop (by decide) eF eG TF pd dg
 have k2:jk [.val (.tup [.tup [.int 0,.int (-1),.int (-1)]]),.val (.tup [.int 5])]=some (.ok (.v (.tup [.int 1])),[.val (.tup [.tup [.int 0,.int (-1),.int (-1)]]),.val (.tup [.int 5])]):=by
  have h:Hs [[0,-1,-1]]:=⟨by decide,by decide,by decide⟩
  have hop:ux [[0,-1,-1]]=[]:=al7 (d := -1) (by decide) (by decide)
  obtain⟨F,G,eF,eG,TF,TG,sF,s,bF,bG,pd,dg⟩:=aiu h hop (by decide)
  have f2:F 0 0=2:=by
   have b:=ait h hop fun _=>0
   rw[<-pd] at b;have b1:F 0 0*1=dsq [[0,-1,-1]] 0 0*1 - 0:=b;have b2:dsq [[0,-1,-1]] 0 0=2:=by decide
   rw[b2] at b1;omega
  have d0:=dg 0 (by decide)
  have k:=like_eq h hop (by decide) eG TG bG (fun t ht=>by
   have:=dg t ht;have h1:(2:Nat) ^ 26<=bgD:=by unfold bgD;exact Nat.pow_le_pow_right (by decide) (by decide)
   omega) (v:=fun _=>5) fun j _=>⟨by decide,by decide⟩
  have r:rd G (fun _=>5) 1 0=1:=by
   show(5:Int) - (5:Int).fdiv (G 0 0)*G 0 0=1;rw[<-d0.1,f2]
   decide
  have k':jk [.val (hD [[0,-1,-1]]),.val (.tup [.int 5])]=some (.ok (.v (.tup [.int (rd G (fun _=>5) 1 0)])),[.val (hD [[0,-1,-1]]),.val (.tup [.int 5])]):=k
  rw[r] at k';exact k'
 have k3:jn [.val (.tup [.int 1]),.val (.tup [.int 1])]=some (.ok (.v (.bl true)),[.val (.tup [.int 1]),.val (.tup [.int 1])]):=ae8 (n:=1) (by decide) (fun _=>1) _ rfl
 simp[aqy,a01,k1,k2,k3,e0,em,hc,q]
end My
set_option maxHeartbeats 0
namespace My
open PySem L2 Mn Dn
def top(i:Nat):Stmt:=PySem.Challenge.pw_turnarrows_k61_least_rows_and_kinds.main.body.getD i (.Pass ⟨0,0,0,0⟩)
abbrev ad6:Stmt:=top 5
theorem akn:FnScope ["thing"] ["thing"] (ao ad6):=mkSc rfl rfl rfl rfl (by decide +kernel)
abbrev u5:Stmt:=top 6
theorem ac8:FnScope ["thing","least","most"] ["thing","least","most"] (ao u5):=mkSc rfl rfl rfl rfl (by decide +kernel)
abbrev u6:Stmt:=top 7
theorem ac9:FnScope ["thing","least","most"] ["thing","least","most"] (ao u6):=mkSc rfl rfl rfl rfl (by decide +kernel)
abbrev apa:Stmt:=top 9
theorem afr:FnScope ["house","staying","many"] ["house"] (ao apa):=mkSc rfl rfl rfl rfl (by decide +kernel)
abbrev uz:Stmt:=top 10
theorem zj:FnScope ["house","rooms"] ["house"] (ao uz):=mkSc rfl rfl rfl rfl (by decide +kernel)
abbrev abm:Stmt:=top 12
theorem ahr:FnScope ["house","thing","most"] ["house","thing","most"] (ao abm):=mkSc rfl rfl rfl rfl (by decide +kernel)
abbrev ad4:Stmt:=top 14
theorem afs:FnScope ["rows","at","number"] ["rows","at"] (ao ad4):=mkSc rfl rfl rfl rfl (by decide +kernel)
abbrev afv:Stmt:=top 15
theorem ag4:FnScope ["rows","one","other","told"] ["rows","one","other"] (ao afv):=mkSc rfl rfl rfl rfl (by decide +kernel)
abbrev afw:Stmt:=top 16
theorem aak:FnScope ["rows","at","bottom","head","told","number","row"] ["rows","at","bottom"] (ao afw):=mkSc rfl rfl rfl rfl (by decide +kernel)
abbrev ahv:Stmt:=top 17
theorem vm:FnScope ["rows","right","work","bottom","at","found"] ["rows","right"] (ao ahv):=mkSc rfl rfl rfl rfl (by decide +kernel)
abbrev aav:Stmt:=top 18
theorem acj:FnScope ["rows","told"] ["rows"] (ao aav):=mkSc rfl rfl rfl rfl (by decide +kernel)
abbrev apb:Stmt:=top 19
theorem awf:FnScope ["row","times","other"] ["row","times","other"] (ao apb):=mkSc rfl rfl rfl rfl (by decide +kernel)
abbrev ahx:Stmt:=top 20
theorem yj:FnScope ["rows","at","work","alive","head","sign","first","number"] ["rows","at"] (ao ahx):=mkSc rfl rfl rfl rfl (by decide +kernel)
abbrev ahu:Stmt:=top 21
theorem aai:FnScope ["rows","told","work","at"] ["rows"] (ao ahu):=mkSc rfl rfl rfl rfl (by decide +kernel)
abbrev ad5:Stmt:=top 22
theorem yh:FnScope ["steps","row","told","at","stair"] ["steps","row"] (ao ad5):=mkSc rfl rfl rfl rfl (by decide +kernel)
abbrev aab:Stmt:=top 23
theorem nq:FnScope ["house","rows","room","doors","row"] ["house"] (ao aab):=mkSc rfl rfl rfl rfl (by decide +kernel)
abbrev ww:Stmt:=top 26
theorem aaj:FnScope ["house","rows","walkers"] ["house","rows"] (ao ww):=mkSc rfl rfl rfl rfl (by decide +kernel)
abbrev abk:Stmt:=top 27
theorem ahp:FnScope ["house","walkers"] ["house","walkers"] (ao abk):=mkSc rfl rfl rfl rfl (by decide +kernel)
abbrev abl:Stmt:=top 28
theorem ahq:FnScope ["house"] ["house"] (ao abl):=mkSc rfl rfl rfl rfl (by decide +kernel)
abbrev wy:Stmt:=top 29
theorem ad3:FnScope ["house"] ["house"] (ao wy):=mkSc rfl rfl rfl rfl (by decide +kernel)
abbrev acr:Stmt:=top 31
theorem ai4:FnScope ["script","k"] ["script","k"] (ao acr):=mkSc rfl rfl rfl rfl (by decide +kernel)
abbrev ad8:Stmt:=top 32
theorem afu:FnScope ["cell","left"] ["cell"] (ao ad8):=mkSc rfl rfl rfl rfl (by decide +kernel)
abbrev acq:Stmt:=top 33
theorem vo:FnScope ["pen","many","left","found","stir"] ["pen","many"] (ao acq):=mkSc rfl rfl rfl rfl (by decide +kernel)
abbrev abn:Stmt:=top 34
theorem ahs:FnScope ["thing"] ["thing"] (ao abn):=mkSc rfl rfl rfl rfl (by decide +kernel)
abbrev abt:Stmt:=top 35
theorem qg:FnScope ["pen","most","doors","many","gates","house","room","wide"] ["pen","most","doors"] (ao abt):=mkSc rfl rfl rfl rfl (by decide +kernel)
abbrev aac:Stmt:=top 36
theorem nu:FnScope ["house","room","found","at"] ["house","room"] (ao aac):=mkSc rfl rfl rfl rfl (by decide +kernel)
abbrev acp:Stmt:=top 37
theorem zm:FnScope ["pen","most","doors","house","room","at"] ["pen","most","doors"] (ao acp):=mkSc rfl rfl rfl rfl (by decide +kernel)
abbrev abo:Stmt:=top 38
theorem aht:FnScope ["found","due"] ["found","due"] (ao abo):=mkSc rfl rfl rfl rfl (by decide +kernel)
abbrev abp:Stmt:=top 39
theorem xj:FnScope ["house","rows","room","doors"] ["house"] (ao abp):=mkSc rfl rfl rfl rfl (by decide +kernel)
abbrev abu:Stmt:=top 40
theorem uh:FnScope ["house","walkers","gives","found","often","row"] ["house","walkers","gives"] (ao abu):=mkSc rfl rfl rfl rfl (by decide +kernel)
abbrev ad7:Stmt:=top 41
theorem aft:FnScope ["pen","house","most"] ["pen","house"] (ao ad7):=mkSc rfl rfl rfl rfl (by decide +kernel)
abbrev acs:Stmt:=top 42
theorem tu:FnScope ["pen","house","one","gives","other","more"] ["pen","house"] (ao acs):=mkSc rfl rfl rfl rfl (by decide +kernel)
abbrev ad9:Stmt:=top 43
theorem uy:FnScope ["rows","total","at","row","left"] ["rows"] (ao ad9):=mkSc rfl rfl rfl rfl (by decide +kernel)
abbrev abq:Stmt:=top 44
theorem jd:FnScope ["house","left","found","at","here","others","row","often"] ["house"] (ao abq):=mkSc rfl rfl rfl rfl (by decide +kernel)
abbrev abr:Stmt:=top 45
theorem qe:FnScope ["house","walkers","found","at","row","often"] ["house","walkers"] (ao abr):=mkSc rfl rfl rfl rfl (by decide +kernel)
abbrev um:Stmt:=top 46
theorem ji:FnScope ["house","due","many","product","size"] ["house"] (ao um):=mkSc rfl rfl rfl rfl (by decide +kernel)
abbrev ahw:Stmt:=top 47
theorem abj:FnScope ["script","cell","pen","house","one","other","gives","due","third","walkers","least"] ["script"] (ao ahw):=mkSc rfl rfl rfl rfl (by decide +kernel)
theorem lnS{k:Nat}{us:List Value}(h:us.length=k+1):∃a r,us=a::r/\r.length=k:=by
 cases us with
 | nil=>cases h
 | cons a r=>exact⟨a,r,rfl,Nat.succ.inj h⟩
theorem ln1{us:List Value}(h:us.length=1):∃a0,us=[a0]:=by
 obtain⟨a,r,rfl,h'⟩:=lnS h;cases List.eq_nil_of_length_eq_zero h';exact⟨a,rfl⟩
theorem ln2{us:List Value}(h:us.length=2):∃a0 a1,us=[a0,a1]:=by
 obtain⟨a,r,rfl,h'⟩:=lnS h;obtain⟨_,rfl⟩:=ln1 h';exact⟨_,_,rfl⟩
theorem ln3{us:List Value}(h:us.length=3):∃a0 a1 a2,us=[a0,a1,a2]:=by
 obtain⟨a,r,rfl,h'⟩:=lnS h;obtain⟨_,_,rfl⟩:=ln2 h';exact⟨_,_,_,rfl⟩
structure Txt (K:Fg9) (mg:Str->Option Value):Prop where
 c_MOST_ALIKE:∃t,mg "MOST_ALIKE" = some (.int 1000000000000000000000000000000 t)
 z_abs:mg "abs" = none
 z_all:mg "all" = none
 z_bool:mg "bool" = none
 z_divmod:mg "divmod" = none
 z_enumerate:mg "enumerate" = none
 z_int:mg "int" = none
 z_isinstance:mg "isinstance" = none
 z_len:mg "len" = none
 z_list:mg "list" = none
 z_max:mg "max" = none
 z_min:mg "min" = none
 z_range:mg "range" = none
 z_set:mg "set" = none
 z_sorted:mg "sorted" = none
 z_tuple:mg "tuple" = none
 z_zip:mg "zip" = none
structure Cz where
 P:Program
 w:World
 K:Fg9
 mg:Str->Option Value
 base:Heap
abbrev Cz.d(z:Cz)(x:Str)(ps:List Str)(k n:Nat)(F:Fd):Prop:=Dfn z.P z.w z.K z.mg z.base x ps k (spOf z.K n F)
abbrev Cz.F(z:Cz)(x:Str)(st:Stmt)(f:Addr)(fd:FuncData):Prop:=Fun z.K x x st f fd
abbrev Cz.o(z:Cz)(k:Nat)(f:Addr)(fd:FuncData)(ps:List Str)(n:Nat)(F:Fd):Prop:=FnOk z.P z.w z.K z.mg z.base CX0 k f fd ps (spOf z.K n F)
abbrev Dd0(z:Cz):Prop:=z.d "is_whole" ["thing"] 1 1 aas
abbrev Dd3(z:Cz):Prop:=z.d "trap" ["house"] 1 1 ajp
abbrev Dd2(z:Cz):Prop:=z.d "is_tuple_within" ["thing","least","most"] 1 3 j4
abbrev Dd1(z:Cz):Prop:=z.d "is_whole_within" ["thing","least","most"] 2 3 j0
abbrev Dd6(z:Cz):Prop:=z.d "row_with" ["rows","at"] 1 2 aaq
abbrev Dd7(z:Cz):Prop:=z.d "swapped" ["rows","one","other"] 1 3 abz
abbrev Dd8(z:Cz):Prop:=z.d "cleared" ["rows","at","bottom"] 1 3 ab0
abbrev Dd9(z:Cz):Prop:=z.d "solved" ["rows","right"] 2 2 ado
abbrev Dd11(z:Cz):Prop:=z.d "less" ["row","times","other"] 1 3 ahe
abbrev Dd12(z:Cz):Prop:=z.d "folded" ["rows","at"] 2 2 adp
abbrev Dd5(z:Cz):Prop:=z.d "is_walkers" ["house","thing","most"] 3 3 vy
abbrev Dd4(z:Cz):Prop:=z.d "refuse_not_open" ["house"] 2 1 gr
abbrev Dd16(z:Cz):Prop:=z.d "refuse_no_rows" ["house","rows"] 4 2 mq
abbrev Dd15(z:Cz):Prop:=z.d "doors_square" ["house"] 1 1 jx
abbrev Dd13(z:Cz):Prop:=z.d "stairs" ["rows"] 3 1 vh
abbrev Dd14(z:Cz):Prop:=z.d "least_by" ["steps","row"] 2 2 aar
abbrev Dd10(z:Cz):Prop:=z.d "determinant" ["rows"] 3 1 uv
abbrev Dd22(z:Cz):Prop:=z.d "_law_draw" ["pen","many"] 1 2 f__law_draw
abbrev Dd24(z:Cz):Prop:=z.d "_law_house" ["pen","most","doors"] 2 3 f__law_house
abbrev Dd25(z:Cz):Prop:=z.d "_law_reached" ["house","room"] 1 2 qy
abbrev Dd23(z:Cz):Prop:=z.d "_law_whole" ["thing"] 1 1 j8
abbrev Dd28(z:Cz):Prop:=z.d "_law_table" ["house"] 1 1 ou
abbrev Dd30(z:Cz):Prop:=z.d "_law_row" ["pen","house"] 2 2 xr
abbrev Dd29(z:Cz):Prop:=z.d "_law_given" ["house","walkers","gives"] 2 3 vz
abbrev Dd33(z:Cz):Prop:=z.d "_law_sizes" ["house"] 2 1 jt
abbrev Dd19(z:Cz):Prop:=z.d "how_many_kinds" ["house"] 4 1 my
abbrev Dd18(z:Cz):Prop:=z.d "kind_sizes" ["house"] 4 1 vq
abbrev Dd27(z:Cz):Prop:=z.d "_law_tuple" ["found","due"] 2 2 jn
abbrev Dd35(z:Cz):Prop:=z.d "_law_sizes_right" ["house"] 8 1 je
abbrev Dd17(z:Cz):Prop:=z.d "least_like" ["house","walkers"] 5 2 jk
abbrev Dd20(z:Cz):Prop:=z.d "_law_cell" ["script","k"] 1 2 f__law_cell
abbrev Dd21(z:Cz):Prop:=z.d "_law_pen" ["cell"] 1 1 f__law_pen
abbrev Dd26(z:Cz):Prop:=z.d "_law_open" ["pen","most","doors"] 3 3 f__law_open
abbrev Dd31(z:Cz):Prop:=z.d "_law_both" ["pen","house"] 3 2 yo
abbrev Dd34(z:Cz):Prop:=z.d "_law_least" ["house","walkers"] 3 2 j9
section
variable(z:Cz){f:Addr}{fd:FuncData}(T:Txt z.K z.mg)
include T
theorem aku(F:z.F "is_whole" ad6 f fd):z.o 1 f fd ["thing"] 1 aas :=
 jj F akn rfl rfl fun _ _ _ _ _ _ hr =>
  (au (gn (EV.toR (amz (ahf (t:=.int) (anw (by rfl) T.z_int am6) (by rfl) T.z_isinstance qp (cz (pv 0))) (amw (avn (ahf (t:=.bool) (anw (by rfl) T.z_bool arx) (by rfl) T.z_isinstance qp (cz (pv 0)))))))))
theorem ade(F:z.F "is_whole_within" u5 f fd)(d0:Dd0 z):z.o 2 f fd ["thing","least","most"] 3 j0 :=
 jj F ac8 rfl rfl fun _ _ _ _ _ _ hr =>
  (au (gn (EV.toR (amz (ER.toD (ir d0 (hr.mono (by decide)) (by rfl) (eg_n (pv 0) fc))) (amw (amy atl atl (aq (pv 1)) (aq (pv 0)) (aq (pv 2))))))))
theorem adf(F:z.F "is_tuple_within" u6 f fd):z.o 1 f fd ["thing","least","most"] 3 j4 :=
 jj F ac9 rfl rfl fun _ _ _ _ _ _ hr =>
  (au (gn (EV.toR (amz (ahf (t:=.tuple) (anw (by rfl) T.z_tuple lr) (by rfl) T.z_isinstance qp (cz (pv 0))) (amw (amy atl atl (aq (pv 1)) (ER.toD (gm rn (by rfl) T.z_len rz (ea_n (pv 0) fu))) (aq (pv 2))))))))
theorem axb(F:z.F "trap" apa f fd):z.o 1 f fd ["house"] 1 ajp :=
 jj F afr rfl rfl fun _ _ _ _ _ _ hr =>
  (aj (fj (i:=1) afr.nd rfl (Or.inr rfl) (ajs rfl (by rfl) T.z_list (by rfl) T.z_range (ak (ER.toD (gm rn (by rfl) T.z_len rz (ea_n (pv 0) fu))) cj))) (aj (fj (i:=2) afr.nd rfl (Or.inl rfl) (dz jz (e2_v (ER.toD (gm rn (by rfl) T.z_len rz (ea_n (pv 1) fu))) (EV.toB bu)))) (aj (afa fuel PassesOwn.never (pq al8 (e2_v (ER.toD (gm rn (by rfl) T.z_len rz (ea_n (pv 1) fu))) (cz (pv 2))) (lu _)) (aj (fj (i:=2) afr.nd rfl (Or.inl rfl) (gm rn (by rfl) T.z_len rz (ea_n (pv 1) fu))) (au (fj (i:=1) afr.nd rfl (Or.inr rfl) (lq ["staying","house"] ["room","staying","house"] [none,some 1,some 0] rfl (qx (aq (pv 1))) (fun _ _ _=>(bf (i:=0) (show(["room","staying","house"]:List Str).Nodup by decide +kernel) rfl (Or.inl rfl))) (fun _ _ _=>(aio (ab1 (ER.toD (gm (aro rfl) (by rfl) T.z_all arz (ea_v (ER.toD (lq ["staying"] ["door","staying"] [none,some 1] rfl (qx (ER.toD (jm (e2_n (pv 2) (cz (pv 0))) (fun _ _=>by rfl)))) (fun _ _ _=>(bf (i:=0) (show(["door","staying"]:List Str).Nodup by decide +kernel) rfl (Or.inl rfl))) (fun _ _ _=>jl) (fun _ _ _=>(ER.toD (am0 (azy hr.units) (e2_n (pv 0) (cz (pv 1))) (by with_unfolding_all rfl)))))) fu)))))) (fun _ _ _=>(aq (pv 0)))))))) (au (gn (gf qm (by rfl) T.z_tuple lr (ea_n (pv 1) fu)))))))
theorem adc(F:z.F "refuse_not_open" uz f fd)(d3:Dd3 z):z.o 2 f fd ["house"] 1 gr :=
 jj F zj rfl rfl fun _ _ _ _ _ _ hr =>
  (aj (fj (i:=1) zj.nd rfl (Or.inl rfl) (ir d3 (hr.mono (by decide)) (by rfl) (eg_n (pv 0) fc))) (au (zb (pq (abx hr.units) (e2_n (pv 1) (EV.toB (yp cj))) (lu _)) (au aly) jw)))
theorem ah2(F:z.F "is_walkers" abm f fd)(d2:Dd2 z)(d1:Dd1 z):z.o 3 f fd ["house","thing","most"] 3 vy :=
 jj F ahr rfl rfl fun _ _ _ _ _ _ hr =>
  (aj (zb (adu (ab1 (ER.toD (ir d2 (hr.mono (by decide)) (by rfl) (eg_n (pv 1) (eg_v (ER.toD (gm rn (by rfl) T.z_len rz (ea_n (pv 0) fu))) (eg_v (ER.toD (gm rn (by rfl) T.z_len rz (ea_n (pv 0) fu))) fc))))))) (au (gn (EV.toR aik))) jw) (au (gn (gm (aro rfl) (by rfl) T.z_all arz (ea_v (ER.toD (lq ["most"] ["many","most"] [none,some 2] rfl (qx (aq (pv 1))) (fun _ _ _=>(bf (i:=0) (show(["many","most"]:List Str).Nodup by decide +kernel) rfl (Or.inl rfl))) (fun _ _ _=>jl) (fun _ _ _=>(ER.toD (ir d1 (hr.mono (by decide)) (by rfl) (eg_n (pv 0) (eg_v bu (eg_n (pv 1) fc)))))))) fu)))))
theorem aks(F:z.F "row_with" ad4 f fd):z.o 1 f fd ["rows","at"] 2 aaq :=
 jj F afs rfl rfl fun _ _ _ _ _ _ hr =>
  (aj (ug PassesOwn.never rfl (aqk (by rfl) T.z_range (ak (aq (pv 1)) (ak (ER.toD (gm rn (by rfl) T.z_len rz (ea_n (pv 0) fu))) cj))) (bf (i:=2) afs.nd rfl (Or.inl rfl)) (au (zb (pq (abx hr.units) (e2_v (ER.toD (jm (e2_v (ER.toD (jm (e2_n (pv 0) (cz (pv 2))) (fun _ _=>by rfl))) (cz (pv 1))) (fun _ _=>by rfl))) (EV.toB bu)) (lu _)) (au (gn (yq (pv 2)))) jw))) (au (gn (EV.toR avo))))
theorem anz(F:z.F "swapped" afv f fd):z.o 1 f fd ["rows","one","other"] 3 abz :=
 jj F ag4 rfl rfl fun _ _ _ _ _ _ hr =>
  (aj (aaa (i:=3) [] ["row"] [none] ag4.nd rfl (Or.inl rfl) rfl (qx (aq (pv 0))) (fun _ _ _=>(bf (i:=0) (show(["row"]:List Str).Nodup by decide +kernel) rfl (Or.inl rfl))) (fun _ _ _=>jl) (fun _ _ _=>(ER.toD (gf aah (by rfl) T.z_list yz (ea_n (pv 0) fu))))) (aj (zb (pq (abx hr.units) (e2_n (pv 1) (cz (pv 2))) (lu _)) (aj (ag0 (ER.toD (gf aah (by rfl) T.z_list yz (ea_v (ER.toD (jm (e2_n (pv 0) (cz (pv 2))) (fun _ _=>by rfl))) fu))) (pv 3) (aq (pv 1))) (au (ag0 (ER.toD (lq [] ["number"] [none] rfl (qx (ER.toD (jm (e2_n (pv 0) (cz (pv 1))) (fun _ _=>by rfl)))) (fun _ _ _=>(bf (i:=0) (show(["number"]:List Str).Nodup by decide +kernel) rfl (Or.inl rfl))) (fun _ _ _=>jl) (fun _ _ _=>(agg (aq (pv 0)))))) (pv 3) (aq (pv 2))))) jw) (au (gn (yq (pv 3))))))
theorem an0(F:z.F "cleared" afw f fd):z.o 1 f fd ["rows","at","bottom"] 3 ab0 :=
 jj F aak rfl rfl fun _ _ _ _ _ _ hr =>
  (aj (fj (i:=3) aak.nd rfl (Or.inr rfl) (jm (e2_n (pv 0) (cz (pv 1))) (fun _ _=>by rfl))) (aj (fj (i:=4) aak.nd rfl (Or.inl rfl) (ue cj)) (aj (ug PassesOwn.never rfl (aad (by rfl) T.z_enumerate (ak (aq (pv 0)) cj)) (qt rfl (cg (bf (i:=5) aak.nd rfl (Or.inl rfl)) (cg (bf (i:=6) aak.nd rfl (Or.inr rfl)) jq))) (au (zb (pq (ag5 hr.units) (e2_n (pv 5) (cz (pv 1))) (lu _)) (au (wu (EV.toR (ae5 ud PySem.F.slot_list_append PySem.F.type_list_append uq (pv 4) (ak (ER.toD (gf aah (by rfl) T.z_list yz (ea_n (pv 3) fu))) cj))))) (au (wu (EV.toR (ae5 ud PySem.F.slot_list_append PySem.F.type_list_append uq (pv 4) (ak (ER.toD (lq ["row","head","bottom","at"] ["own","over","row","head","bottom","at"] [none,none,some 6,some 3,some 2,some 1] rfl (aa1 (by rfl) T.z_zip (ak (aq (pv 6)) (ak (aq (pv 3)) cj))) (fun _ _ _=>(qt rfl (cg (bf (i:=0) (show(["own","over","row","head","bottom","at"]:List Str).Nodup by decide +kernel) rfl (Or.inl rfl)) (cg (bf (i:=1) (show(["own","over","row","head","bottom","at"]:List Str).Nodup by decide +kernel) rfl (Or.inl rfl)) jq)))) (fun _ _ _=>jl) (fun _ _ _=>(ER.toD (dz apu (e2_v (ER.toD (dz u9 (e2_v (ER.toD (dz wz (e2_v (ER.toD (jm (e2_n (pv 3) (cz (pv 5))) (fun _ _=>by rfl))) (cz (pv 0))))) (EV.toB (ER.toD (dz wz (e2_v (ER.toD (jm (e2_n (pv 2) (cz (pv 5))) (fun _ _=>by rfl))) (cz (pv 1))))))))) (cz (pv 4)))))))) cj)))))))) (au (gn (yq (pv 4)))))))
theorem apw(F:z.F "solved" ahv f fd)(d6:Dd6 z)(d7:Dd7 z)(d8:Dd8 z):z.o 2 f fd ["rows","right"] 2 ado :=
 jj F vm rfl rfl fun _ _ _ _ _ _ hr =>
  (aj (aaa (i:=2) [] ["row","number"] [none,none] vm.nd rfl (Or.inl rfl) rfl (aa1 (by rfl) T.z_zip (ak (aq (pv 0)) (ak (aq (pv 1)) cj))) (fun _ _ _=>(qt rfl (cg (bf (i:=0) (show(["row","number"]:List Str).Nodup by decide +kernel) rfl (Or.inl rfl)) (cg (bf (i:=1) (show(["row","number"]:List Str).Nodup by decide +kernel) rfl (Or.inl rfl)) jq)))) (fun _ _ _=>jl) (fun _ _ _=>(ER.toD (dz jz (e2_v (ER.toD (gf aah (by rfl) T.z_list yz (ea_n (pv 0) fu))) (EV.toB (ER.toD (ue (ak (aq (pv 1)) cj))))))))) (aj (fj (i:=3) vm.nd rfl (Or.inl rfl) (EV.toR bu)) (aj (ug PassesOwn.never rfl (vp (by rfl) T.z_range (ak (ER.toD (gm rn (by rfl) T.z_len rz (ea_n (pv 0) fu))) cj)) (bf (i:=4) vm.nd rfl (Or.inl rfl)) (aj (fj (i:=5) vm.nd rfl (Or.inl rfl) (ir d6 (hr.mono (by decide)) (by rfl) (eg_n (pv 2) (eg_v (aq (pv 4)) fc)))) (aj (zb (ajq (cz (pv 5))) (au (gn (EV.toR avo))) jw) (aj (fj (i:=2) vm.nd rfl (Or.inl rfl) (ir d7 (hr.mono (by decide)) (by rfl) (eg_v (aq (pv 2)) (eg_v (aq (pv 4)) (eg_v (aq (pv 5)) fc))))) (aj (fj (i:=2) vm.nd rfl (Or.inl rfl) (ir d8 (hr.mono (by decide)) (by rfl) (eg_v (aq (pv 2)) (eg_n (pv 4) (eg_n (pv 3) fc))))) (au (fj (i:=3) vm.nd rfl (Or.inl rfl) (jm (e2_v (ER.toD (jm (e2_n (pv 2) (cz (pv 4))) (fun _ _=>by rfl))) (cz (pv 4))) (fun _ _=>by rfl))))))))) (au (gn (EV.toR (yp (ak (ER.toD (lq ["rows"] ["row","rows"] [none,some 0] rfl (qx (aq (pv 2))) (fun _ _ _=>(bf (i:=0) (show(["row","rows"]:List Str).Nodup by decide +kernel) rfl (Or.inl rfl))) (fun _ _ _=>jl) (fun _ _ _=>(ER.toD (jm (e2_n (pv 0) (EV.toB (ER.toD (gm rn (by rfl) T.z_len rz (ea_n (pv 1) fu))))) (fun _ _=>by rfl)))))) (ak (aq (pv 3)) cj)))))))))
theorem agv(F:z.F "determinant" aav f fd)(d9:Dd9 z):z.o 3 f fd ["rows"] 1 uv :=
 jj F acj rfl rfl fun _ _ _ _ _ _ hr =>
  (aj (fj (i:=1) acj.nd rfl (Or.inl rfl) (ir d9 (hr.mono (by decide)) (by rfl) (eg_v (aq (pv 0)) (eg_v (ER.toD (dz wz (e2_v (ER.toD (ue (ak bu cj))) (EV.toB (ER.toD (gm rn (by rfl) T.z_len rz (ea_n (pv 0) fu))))))) fc)))) (au (gn (a09 (ajq (cz (pv 1))) (EV.toR bu) (jm (e2_n (pv 1) (EV.toB bu)) (fun _ _=>by rfl))))))
theorem axc(F:z.F "less" apb f fd):z.o 1 f fd ["row","times","other"] 3 ahe :=
 jj F awf rfl rfl fun _ _ _ _ _ _ hr =>
  (au (gn (lq ["times"] ["number","over","times"] [none,none,some 1] rfl (aa1 (by rfl) T.z_zip (ak (aq (pv 0)) (ak (aq (pv 2)) cj))) (fun _ _ _=>(qt rfl (cg (bf (i:=0) (show(["number","over","times"]:List Str).Nodup by decide +kernel) rfl (Or.inl rfl)) (cg (bf (i:=1) (show(["number","over","times"]:List Str).Nodup by decide +kernel) rfl (Or.inl rfl)) jq)))) (fun _ _ _=>jl) (fun _ _ _=>(ER.toD (dz u9 (e2_n (pv 0) (EV.toB (ER.toD (dz afg (e2_n (pv 2) (cz (pv 1)))))))))))))
theorem apx{cTb pTb:Addr}(aTb:nsIn z.K mainGlobals LamN=some (some (.ref f)))(tbH:PySem.W.tabIn z.K LamN=some (cTb,pTb))(F:z.F "folded" ahx f fd)(d11:Dd11 z):z.o 2 f fd ["rows","at"] 2 adp :=
 a06 F yj rfl rfl aTb tbH fun A outer s H E hr =>
  (aj (fj (i:=2) yj.nd rfl (Or.inr rfl) (lq [] ["row"] [none] rfl (qx (aq (pv 0))) (fun _ _ _=>(bf (i:=0) (show(["row"]:List Str).Nodup by decide +kernel) rfl (Or.inl rfl))) (fun _ _ _=>jl) (fun _ _ _=>(ER.toD (gf aah (by rfl) T.z_list yz (ea_n (pv 0) fu)))))) (au (afa fuel PassesOwn.never (ab1 aik) (aj (asx (i:=3) ["at"] ["number","row","at"] 1 2 yj.nd rfl (Or.inl rfl) rfl (aad (by rfl) T.z_enumerate (ak (aq (pv 2)) cj)) (fun _ _ _=>(qt rfl (cg (bf (i:=0) (show(["number","row","at"]:List Str).Nodup by decide +kernel) rfl (Or.inl rfl)) (cg (bf (i:=1) (show(["number","row","at"]:List Str).Nodup by decide +kernel) rfl (Or.inl rfl)) jq)))) (fun _ _ _=>(aio (pq (abx hr.units) (e2_v (ER.toD (jm (e2_n (pv 1) (cz (pv 2))) (fun _ _=>by rfl))) (EV.toB bu)) (lu _)))) (fun _ _ _=>(aq (pv 0)))) (aj (fj (i:=4) yj.nd rfl (Or.inl rfl) (EV.toR (ax2 (awz (fr:=["work","at"]) (y := "number") (z1 := "work") (z2 := "at") hr rfl tbH rfl rfl (pv 3) (by rfl) T.z_min (fun _ _ _ _=>azu (pv 0) (pv 1) (pv 2) (by rfl) T.z_abs) rfl rfl rfl rfl rfl rfl rfl fun _ _ _ _ _=>rfl)))) (aj (zb (pq (ag5 hr.units) (e2_n (pv 3) (EV.toB (ER.toD (ue (ak (aq (pv 4)) cj))))) (lu _)) (aj (fj (i:=5) yj.nd rfl (Or.inr rfl) (a09 (pq azz (e2_v (ER.toD (jm (e2_v (ER.toD (jm (e2_n (pv 2) (cz (pv 4))) (fun _ _=>by rfl))) (cz (pv 1))) (fun _ _=>by rfl))) (EV.toB bu)) (lu _)) (EV.toR bu) (EV.toR (agg bu)))) (aj (aaa (i:=6) ["sign"] ["number","sign"] [none,some 5] yj.nd rfl (Or.inl rfl) rfl (qx (ER.toD (jm (e2_n (pv 2) (cz (pv 4))) (fun _ _=>by rfl)))) (fun _ _ _=>(bf (i:=0) (show(["number","sign"]:List Str).Nodup by decide +kernel) rfl (Or.inl rfl))) (fun _ _ _=>jl) (fun _ _ _=>(ER.toD (dz afg (e2_n (pv 1) (cz (pv 0))))))) (au (gn (dz jz (e2_v (ER.toD (dz jz (e2_v (ER.toD (ue (ak (aq (pv 6)) cj))) (EV.toB (ER.toD (aei (pv 2) ac2 (aa4 (aq (pv 4))))))))) (EV.toB (ER.toD (aei (pv 2) (aa4 (ER.toD (dz jz (e2_n (pv 4) (EV.toB bu))))) ac2))))))))) jw) (au (ug PassesOwn.never rfl (qx (aq (pv 3))) (bf (i:=7) yj.nd rfl (Or.inl rfl)) (au (zb (pq (abx hr.units) (e2_n (pv 7) (cz (pv 4))) (lu _)) (au (ag0 (ER.toD (ir d11 (hr.mono (by decide)) (by rfl) (eg_v (ER.toD (jm (e2_n (pv 2) (cz (pv 7))) (fun _ _=>by rfl))) (eg_v (ER.toD (dz afh (e2_v (ER.toD (jm (e2_v (ER.toD (jm (e2_n (pv 2) (cz (pv 7))) (fun _ _=>by rfl))) (cz (pv 1))) (fun _ _=>by rfl))) (EV.toB (ER.toD (jm (e2_v (ER.toD (jm (e2_n (pv 2) (cz (pv 4))) (fun _ _=>by rfl))) (cz (pv 1))) (fun _ _=>by rfl))))))) (eg_v (ER.toD (jm (e2_n (pv 2) (cz (pv 4))) (fun _ _=>by rfl))) fc))))) (pv 2) (aq (pv 7)))) jw))))))))))
theorem apv(F:z.F "stairs" ahu f fd)(d12:Dd12 z):z.o 3 f fd ["rows"] 1 vh :=
 jj F aai rfl rfl fun _ _ _ _ _ _ hr =>
  (aj (fj (i:=1) aai.nd rfl (Or.inl rfl) (ue cj)) (aj (aaa (i:=2) [] ["row"] [none] aai.nd rfl (Or.inl rfl) rfl (qx (aq (pv 0))) (fun _ _ _=>(bf (i:=0) (show(["row"]:List Str).Nodup by decide +kernel) rfl (Or.inl rfl))) (fun _ _ _=>jl) (fun _ _ _=>(ER.toD (gf aah (by rfl) T.z_list yz (ea_n (pv 0) fu))))) (aj (ug PassesOwn.never rfl (vp (by rfl) T.z_range (ak (ER.toD (gm rn (by rfl) T.z_len rz (ea_n (pv 0) fu))) cj)) (bf (i:=3) aai.nd rfl (Or.inl rfl)) (aj (fj (i:=2) aai.nd rfl (Or.inl rfl) (ir d12 (hr.mono (by decide)) (by rfl) (eg_v (aq (pv 2)) (eg_n (pv 3) fc)))) (aj (wu (EV.toR (ae5 ud PySem.F.slot_list_append PySem.F.type_list_append uq (pv 1) (ak (ER.toD (jm (e2_n (pv 2) (EV.toB bu)) (fun _ _=>by rfl))) cj)))) (au (fj (i:=2) aai.nd rfl (Or.inl rfl) (aei (pv 2) (aa4 bu) ac2)))))) (au (gn (yq (pv 1)))))))
theorem akt(F:z.F "least_by" ad5 f fd)(d11:Dd11 z):z.o 2 f fd ["steps","row"] 2 aar :=
 jj F yh rfl rfl fun _ _ _ _ _ _ hr =>
  (aj (fj (i:=2) yh.nd rfl (Or.inl rfl) (gf aah (by rfl) T.z_list yz (ea_n (pv 1) fu))) (aj (ug PassesOwn.never rfl (aad (by rfl) T.z_enumerate (ak (aq (pv 0)) cj)) (qt rfl (cg (bf (i:=3) yh.nd rfl (Or.inl rfl)) (cg (bf (i:=4) yh.nd rfl (Or.inl rfl)) jq))) (au (fj (i:=2) yh.nd rfl (Or.inl rfl) (ir d11 (hr.mono (by decide)) (by rfl) (eg_v (aq (pv 2)) (eg_v (ER.toD (dz afh (e2_v (ER.toD (jm (e2_n (pv 2) (cz (pv 3))) (fun _ _=>by rfl))) (EV.toB (ER.toD (jm (e2_n (pv 4) (cz (pv 3))) (fun _ _=>by rfl))))))) (eg_v (aq (pv 4)) fc))))))) (au (gn (yq (pv 2))))))
theorem af2(F:z.F "doors_square" aab f fd):z.o 1 f fd ["house"] 1 jx :=
 jj F nq rfl rfl fun _ _ _ _ _ _ hr =>
  (aj (fj (i:=1) nq.nd rfl (Or.inl rfl) (ue cj)) (aj (ug PassesOwn.never rfl (aad (by rfl) T.z_enumerate (ak (aq (pv 0)) cj)) (qt rfl (cg (bf (i:=2) nq.nd rfl (Or.inl rfl)) (cg (bf (i:=3) nq.nd rfl (Or.inr rfl)) jq))) (aj (aaa (i:=4) ["doors"] ["other","doors"] [none,some 3] nq.nd rfl (Or.inl rfl) rfl (vp (by rfl) T.z_range (ak (ER.toD (gm rn (by rfl) T.z_len rz (ea_n (pv 0) fu))) cj)) (fun _ _ _=>(bf (i:=0) (show(["other","doors"]:List Str).Nodup by decide +kernel) rfl (Or.inl rfl))) (fun _ _ _=>jl) (fun _ _ _=>(agg (amx hr.units (pv 1) (ak (aq (pv 0)) cj))))) (aj (aoy (pv 4) (aq (pv 2)) (ER.toD (gm rn (by rfl) T.z_len rz (ea_n (pv 3) fu))) a0z) (au (wu (EV.toR (ae5 ud PySem.F.slot_list_append PySem.F.type_list_append uq (pv 1) (ak (aq (pv 4)) cj)))))))) (au (gn (yq (pv 1))))))
theorem aec(F:z.F "refuse_no_rows" ww f fd)(d5:Dd5 z)(d4:Dd4 z):z.o 4 f fd ["house","rows"] 2 mq :=
 jj F aaj rfl rfl fun _ _ _ _ _ _ hr =>
  (aj (ug PassesOwn.never rfl (qx (aq (pv 1))) (bf (i:=2) aaj.nd rfl (Or.inl rfl)) (au (zb (adu (ab1 (ER.toD (ir d5 (hr.mono (by decide)) (by rfl) (eg_n (pv 0) (eg_v (aq (pv 2)) (eg_v (ev_c (a3p (by rfl) T.c_MOST_ALIKE) fun _=>.int _) fc))))))) (au aly) jw))) (au (wu (ir d4 (hr.mono (by decide)) (by rfl) (eg_n (pv 0) fc)))))
theorem ah0(F:z.F "least_like" abk f fd)(d16:Dd16 z)(d15:Dd15 z)(d13:Dd13 z)(d14:Dd14 z):z.o 5 f fd ["house","walkers"] 2 jk :=
 jj F ahp rfl rfl fun _ _ _ _ _ _ hr =>
  (aj (wu (ir d16 (hr.mono (by decide)) (by rfl) (eg_n (pv 0) (eg_v (ER.toD (ue (ak (aq (pv 1)) cj))) fc)))) (au (gn (gf qm (by rfl) T.z_tuple lr (ea_v (ER.toD (ir d14 (hr.mono (by decide)) (by rfl) (eg_v (ER.toD (ir d13 (hr.mono (by decide)) (by rfl) (eg_v (ER.toD (ir d15 (hr.mono (by decide)) (by rfl) (eg_v (aq (pv 0)) fc))) fc))) (eg_n (pv 1) fc)))) fu)))))
theorem ah1(F:z.F "kind_sizes" abl f fd)(d4:Dd4 z)(d15:Dd15 z)(d13:Dd13 z):z.o 4 f fd ["house"] 1 vq :=
 jj F ahq rfl rfl fun _ _ _ _ _ _ hr =>
  (aj (wu (ir d4 (hr.mono (by decide)) (by rfl) (eg_n (pv 0) fc))) (au (gn (gf qm (by rfl) T.z_tuple lr (ea_v (ER.toD (lq [] ["at","stair"] [none,none] rfl (aad (by rfl) T.z_enumerate (ak (ER.toD (ir d13 (hr.mono (by decide)) (by rfl) (eg_v (ER.toD (ir d15 (hr.mono (by decide)) (by rfl) (eg_v (aq (pv 0)) fc))) fc))) cj)) (fun _ _ _=>(qt rfl (cg (bf (i:=0) (show(["at","stair"]:List Str).Nodup by decide +kernel) rfl (Or.inl rfl)) (cg (bf (i:=1) (show(["at","stair"]:List Str).Nodup by decide +kernel) rfl (Or.inl rfl)) jq)))) (fun _ _ _=>jl) (fun _ _ _=>(ER.toD (jm (e2_n (pv 1) (cz (pv 0))) (fun _ _=>by rfl)))))) fu)))))
theorem aed(F:z.F "how_many_kinds" wy f fd)(d4:Dd4 z)(d15:Dd15 z)(d10:Dd10 z):z.o 4 f fd ["house"] 1 my :=
 jj F ad3 rfl rfl fun _ _ _ _ _ _ hr =>
  (aj (wu (ir d4 (hr.mono (by decide)) (by rfl) (eg_n (pv 0) fc))) (au (gn (ir d10 (hr.mono (by decide)) (by rfl) (eg_v (ER.toD (ir d15 (hr.mono (by decide)) (by rfl) (eg_v (aq (pv 0)) fc))) fc)))))
theorem aja(F:z.F "_law_cell" acr f fd):z.o 1 f fd ["script","k"] 2 f__law_cell :=
 jj F ai4 rfl rfl fun _ _ _ _ _ _ hr =>
  (aj (zb (pq al8 (e2_n (pv 1) (EV.toB (ER.toD (gm rn (by rfl) T.z_len rz (ea_n (pv 0) fu))))) (lu _)) (au (gn (jm (e2_n (pv 0) (cz (pv 1))) (fun _ _=>by rfl)))) jw) (au (gn (EV.toR bu))))
theorem akx(F:z.F "_law_pen" ad8 f fd):z.o 1 f fd ["cell"] 1 f__law_pen :=
 jj F afu rfl rfl fun _ _ _ _ _ _ hr =>
  (aj (fj (i:=1) afu.nd rfl (Or.inl rfl) (gm (avr rfl) (by rfl) T.z_max avt (ea_n (pv 0) (ea_v (ER.toD (dz u9 (e2_v bu (cz (pv 0))))) fu)))) (au (gn (ue (ak (aq (pv 1)) (ak (ER.toD (gf avs (by rfl) T.z_int am6 (ea_v (ER.toD (am0 apt (e2_n (pv 1) (EV.toB (ER.toD (dz apr (e2_v bu (EV.toB bu)))))) (lu _))) fu))) cj))))))
theorem ai9(F:z.F "_law_draw" acq f fd):z.o 1 f fd ["pen","many"] 2 f__law_draw :=
 jj F vo rfl rfl fun _ _ _ _ _ _ hr =>
  (aj (zb (pq (ag5 hr.units) (e2_v (ER.toD (jm (e2_n (pv 0) (EV.toB bu)) (fun _ _=>by rfl))) (EV.toB bu)) (lu _)) (aj (au4 (ER.toD (gm arn (by rfl) T.z_divmod arw (ea_v (ER.toD (jm (e2_n (pv 0) (EV.toB bu)) (fun _ _=>by rfl))) (ea_n (pv 1) fu)))) (qt rfl (cg (bf (i:=2) vo.nd rfl (Or.inl rfl)) (cg (bf (i:=3) vo.nd rfl (Or.inl rfl)) jq)))) (aj (ag0 (aq (pv 2)) (pv 0) bu) (au (gn (yq (pv 3)))))) jw) (aj (fj (i:=4) vo.nd rfl (Or.inl rfl) (dz aeb (e2_v (ER.toD (dz wz (e2_v (ER.toD (dz jz (e2_v (ER.toD (dz aeb (e2_v (ER.toD (jm (e2_n (pv 0) (EV.toB bu)) (fun _ _=>by rfl))) (EV.toB bu)))) (EV.toB bu)))) (EV.toB bu)))) (EV.toB bu)))) (aj (fj (i:=4) vo.nd rfl (Or.inl rfl) (dz aeb (e2_v (ER.toD (dz jz (e2_v (ER.toD (dz wz (e2_n (pv 4) (cz (pv 4))))) (EV.toB bu)))) (EV.toB bu)))) (aj (ag0 (ER.toD (dz aeb (e2_v (ER.toD (dz jz (e2_v (ER.toD (dz wz (e2_n (pv 4) (EV.toB bu)))) (EV.toB bu)))) (EV.toB bu)))) (pv 0) bu) (au (gn (dz aeb (e2_v (ER.toD (dz apu (e2_v (ER.toD (jm (e2_n (pv 0) (EV.toB bu)) (fun _ _=>by rfl))) (EV.toB bu)))) (cz (pv 1))))))))))
theorem ah3(F:z.F "_law_whole" abn f fd):z.o 1 f fd ["thing"] 1 j8 :=
 jj F ahs rfl rfl fun _ _ _ _ _ _ hr =>
  (au (gn (EV.toR (amz (ahf (t:=.int) (anw (by rfl) T.z_int am6) (by rfl) T.z_isinstance qp (cz (pv 0))) (amw (avn (ahf (t:=.bool) (anw (by rfl) T.z_bool arx) (by rfl) T.z_isinstance qp (cz (pv 0)))))))))
theorem ah8(F:z.F "_law_house" abt f fd)(d22:Dd22 z):z.o 2 f fd ["pen","most","doors"] 3 f__law_house :=
 jj F qg rfl rfl fun _ _ _ _ _ _ hr =>
  (aj (fj (i:=3) qg.nd rfl (Or.inr rfl) (dz jz (e2_v bu (EV.toB (ER.toD (ir d22 (hr.mono (by decide)) (by rfl) (eg_n (pv 0) (eg_n (pv 1) fc)))))))) (aj (fj (i:=4) qg.nd rfl (Or.inr rfl) (jm (e2_v (ER.toD (ue (ak bu (ak bu (ak bu (ak bu cj)))))) (EV.toB (ER.toD (ir d22 (hr.mono (by decide)) (by rfl) (eg_n (pv 0) (eg_v bu fc)))))) (fun _ _=>by rfl))) (aj (fj (i:=5) qg.nd rfl (Or.inl rfl) (ue cj)) (aj (ug PassesOwn.never rfl (vp (by rfl) T.z_range (ak (aq (pv 3)) cj)) (bf (i:=6) qg.nd rfl (Or.inl rfl)) (aj (fj (i:=7) qg.nd rfl (Or.inl rfl) (dz jz (e2_v bu (EV.toB (ER.toD (ir d22 (hr.mono (by decide)) (by rfl) (eg_n (pv 0) (eg_n (pv 2) fc)))))))) (au (wu (EV.toR (ae5 ud PySem.F.slot_list_append PySem.F.type_list_append uq (pv 5) (ak (ER.toD (gf qm (by rfl) T.z_tuple lr (ea_v (ER.toD (lq ["pen","many","gates"] ["door","pen","many","gates"] [none,some 0,some 3,some 4] rfl (vp (by rfl) T.z_range (ak (aq (pv 7)) cj)) (fun _ _ _=>(bf (i:=0) (show(["door","pen","many","gates"]:List Str).Nodup by decide +kernel) rfl (Or.inl rfl))) (fun _ _ _=>jl) (fun _ _ _=>(ER.toD (dz u9 (e2_v (ER.toD (ir d22 (hr.mono (by decide)) (by rfl) (eg_n (pv 1) (eg_v (ER.toD (dz jz (e2_n (pv 2) (cz (pv 3))))) fc)))) (cz (pv 3)))))))) fu))) cj))))))) (au (gn (gf qm (by rfl) T.z_tuple lr (ea_n (pv 5) fu))))))))
theorem af3(F:z.F "_law_reached" aac f fd):z.o 1 f fd ["house","room"] 2 qy :=
 jj F nu rfl rfl fun _ _ _ _ _ _ hr =>
  (aj (fj (i:=2) nu.nd rfl (Or.inr rfl) (ue (ak (aq (pv 1)) cj))) (aj (fj (i:=3) nu.nd rfl (Or.inl rfl) (EV.toR bu)) (aj (afa fuel PassesOwn.never (pq al8 (e2_n (pv 3) (EV.toB (ER.toD (gm rn (by rfl) T.z_len rz (ea_n (pv 2) fu))))) (lu _)) (aj (zb (pq apt (e2_v (ER.toD (jm (e2_n (pv 2) (cz (pv 3))) (fun _ _=>by rfl))) (EV.toB bu)) (lu _)) (au (fj (i:=2) nu.nd rfl (Or.inr rfl) (dz jz (e2_n (pv 2) (EV.toB (ER.toD (lq ["found"] ["door","found"] [none,some 2] rfl (qx (ER.toD (ajr rfl (by rfl) T.z_sorted arv (by rfl) T.z_set a1g (ea_v (ER.toD (jm (e2_n (pv 0) (EV.toB (ER.toD (jm (e2_n (pv 2) (cz (pv 3))) (fun _ _=>by rfl))))) (fun _ _=>by rfl))) fu)))) (fun _ _ _=>(bf (i:=0) (show(["door","found"]:List Str).Nodup by decide +kernel) rfl (Or.inl rfl))) (fun _ _ _=>(aio (pq (aps hr.units) (e2_n (pv 0) (cz (pv 1))) (by with_unfolding_all rfl)))) (fun _ _ _=>(aq (pv 0)))))))))) jw) (au (fj (i:=3) nu.nd rfl (Or.inl rfl) (dz jz (e2_n (pv 3) (EV.toB bu))))))) (au (gn (yq (pv 2)))))))
theorem ai8(F:z.F "_law_open" acp f fd)(d24:Dd24 z)(d25:Dd25 z)(d22:Dd22 z):z.o 3 f fd ["pen","most","doors"] 3 f__law_open :=
 jj F zm rfl rfl fun _ _ _ _ _ _ hr =>
  (aj (fj (i:=3) zm.nd rfl (Or.inl rfl) (gf aah (by rfl) T.z_list yz (ea_v (ER.toD (ir d24 (hr.mono (by decide)) (by rfl) (eg_n (pv 0) (eg_n (pv 1) (eg_n (pv 2) fc))))) fu))) (aj (ug PassesOwn.never rfl (vp (by rfl) T.z_range (ak (ER.toD (gm rn (by rfl) T.z_len rz (ea_n (pv 3) fu))) cj)) (bf (i:=4) zm.nd rfl (Or.inl rfl)) (au (zb (pq apt (e2_v (ER.toD (gm (ax8 rfl) (by rfl) T.z_min a1h (ea_v (ER.toD (ir d25 (hr.mono (by decide)) (by rfl) (eg_n (pv 3) (eg_v (aq (pv 4)) fc)))) fu))) (EV.toB bu)) (lu _)) (aj (fj (i:=5) zm.nd rfl (Or.inl rfl) (ir d22 (hr.mono (by decide)) (by rfl) (eg_n (pv 0) (eg_v (ER.toD (gm rn (by rfl) T.z_len rz (ea_v (ER.toD (jm (e2_n (pv 3) (cz (pv 4))) (fun _ _=>by rfl))) fu))) fc)))) (au (ag0 (ER.toD (dz jz (e2_v (ER.toD (dz jz (e2_v (ER.toD (avp (ER.toD (jm (e2_n (pv 3) (cz (pv 4))) (fun _ _=>by rfl))) ac2 (aa4 (aq (pv 5))))) (EV.toB (yp (ak (ER.toD (dz u9 (e2_v (agg bu) (EV.toB (ER.toD (ir d22 (hr.mono (by decide)) (by rfl) (eg_n (pv 0) (eg_v bu fc)))))))) cj)))))) (EV.toB (ER.toD (avp (ER.toD (jm (e2_n (pv 3) (cz (pv 4))) (fun _ _=>by rfl))) (aa4 (ER.toD (dz jz (e2_n (pv 5) (EV.toB bu))))) ac2)))))) (pv 3) (aq (pv 4))))) jw))) (au (gn (gf qm (by rfl) T.z_tuple lr (ea_n (pv 3) fu))))))
theorem ah4(F:z.F "_law_tuple" abo f fd)(d23:Dd23 z):z.o 2 f fd ["found","due"] 2 jn :=
 jj F aht rfl rfl fun _ _ _ _ _ _ hr =>
  (aj (zb (EW.pt (auj (adu (ab1 (ahf (t:=.tuple) (anw (by rfl) T.z_tuple lr) (by rfl) T.z_isinstance qp (cz (pv 0))))) (aqz (pq (abx hr.units) (e2_n (pv 0) (cz (pv 1))) (lu _))))) (au (gn (EV.toR aik))) jw) (au (gn (gm (aro rfl) (by rfl) T.z_all arz (ea_v (ER.toD (lq [] ["one"] [none] rfl (qx (aq (pv 0))) (fun _ _ _=>(bf (i:=0) (show(["one"]:List Str).Nodup by decide +kernel) rfl (Or.inl rfl))) (fun _ _ _=>jl) (fun _ _ _=>(ER.toD (ir d23 (hr.mono (by decide)) (by rfl) (eg_n (pv 0) fc)))))) fu)))))
theorem ah5(F:z.F "_law_table" abp f fd):z.o 1 f fd ["house"] 1 ou :=
 jj F xj rfl rfl fun _ _ _ _ _ _ hr =>
  (aj (fj (i:=1) xj.nd rfl (Or.inl rfl) (ue cj)) (aj (ug PassesOwn.never rfl (aad (by rfl) T.z_enumerate (ak (aq (pv 0)) cj)) (qt rfl (cg (bf (i:=2) xj.nd rfl (Or.inr rfl)) (cg (bf (i:=3) xj.nd rfl (Or.inr rfl)) jq))) (au (wu (EV.toR (ae5 ud PySem.F.slot_list_append PySem.F.type_list_append uq (pv 1) (ak (ER.toD (lq ["room","doors"] ["other","room","doors"] [none,some 2,some 3] rfl (vp (by rfl) T.z_range (ak (ER.toD (gm rn (by rfl) T.z_len rz (ea_n (pv 0) fu))) cj)) (fun _ _ _=>(bf (i:=0) (show(["other","room","doors"]:List Str).Nodup by decide +kernel) rfl (Or.inl rfl))) (fun _ _ _=>jl) (fun _ _ _=>(ER.toD (dz u9 (e2_v (ER.toD (dz wz (e2_v (ER.toD (gm rn (by rfl) T.z_len rz (ea_n (pv 2) fu))) (EV.toB (ER.toD (gf avs (by rfl) T.z_int am6 (ea_v (ER.toD (am0 (ag5 hr.units) (e2_n (pv 1) (cz (pv 0))) (lu _))) fu))))))) (EV.toB (amx hr.units (pv 2) (ak (aq (pv 0)) cj))))))))) cj)))))) (au (gn (yq (pv 1))))))
theorem ah9(F:z.F "_law_given" abu f fd)(d28:Dd28 z):z.o 2 f fd ["house","walkers","gives"] 3 vz :=
 jj F uh rfl rfl fun _ _ _ _ _ _ hr =>
  (aj (fj (i:=3) uh.nd rfl (Or.inl rfl) (gf aah (by rfl) T.z_list yz (ea_n (pv 1) fu))) (aj (ug PassesOwn.never rfl (aa1 (by rfl) T.z_zip (ak (aq (pv 2)) (ak (ER.toD (ir d28 (hr.mono (by decide)) (by rfl) (eg_v (aq (pv 0)) fc))) cj))) (qt rfl (cg (bf (i:=4) uh.nd rfl (Or.inr rfl)) (cg (bf (i:=5) uh.nd rfl (Or.inl rfl)) jq))) (au (aaa (i:=3) ["often"] ["one","two","often"] [none,none,some 4] uh.nd rfl (Or.inl rfl) rfl (aa1 (by rfl) T.z_zip (ak (aq (pv 3)) (ak (aq (pv 5)) cj))) (fun _ _ _=>(qt rfl (cg (bf (i:=0) (show(["one","two","often"]:List Str).Nodup by decide +kernel) rfl (Or.inl rfl)) (cg (bf (i:=1) (show(["one","two","often"]:List Str).Nodup by decide +kernel) rfl (Or.inl rfl)) jq)))) (fun _ _ _=>jl) (fun _ _ _=>(ER.toD (dz u9 (e2_n (pv 0) (EV.toB (ER.toD (dz wz (e2_n (pv 2) (cz (pv 1))))))))))))) (au (gn (gf qm (by rfl) T.z_tuple lr (ea_n (pv 3) fu))))))
theorem akv(F:z.F "_law_row" ad7 f fd)(d22:Dd22 z):z.o 2 f fd ["pen","house"] 2 xr :=
 jj F aft rfl rfl fun _ _ _ _ _ _ hr =>
  (aj (fj (i:=2) aft.nd rfl (Or.inr rfl) (jm (e2_v (ER.toD (ue (ak bu (ak bu (ak bu (ak (ER.toD (dz apr (e2_v bu (EV.toB bu)))) cj)))))) (EV.toB (ER.toD (ir d22 (hr.mono (by decide)) (by rfl) (eg_n (pv 0) (eg_v bu fc)))))) (fun _ _=>by rfl))) (au (gn (gf qm (by rfl) T.z_tuple lr (ea_v (ER.toD (lq ["pen","most"] ["room","pen","most"] [none,some 0,some 2] rfl (qx (aq (pv 1))) (fun _ _ _=>(bf (i:=0) (show(["room","pen","most"]:List Str).Nodup by decide +kernel) rfl (Or.inl rfl))) (fun _ _ _=>jl) (fun _ _ _=>(ER.toD (ir d22 (hr.mono (by decide)) (by rfl) (eg_n (pv 1) (eg_n (pv 2) fc))))))) fu)))))
theorem ajb(F:z.F "_law_both" acs f fd)(d30:Dd30 z)(d22:Dd22 z)(d29:Dd29 z):z.o 3 f fd ["pen","house"] 2 yo :=
 jj F tu rfl rfl fun _ _ _ _ _ _ hr =>
  (aj (fj (i:=2) tu.nd rfl (Or.inl rfl) (ir d30 (hr.mono (by decide)) (by rfl) (eg_n (pv 0) (eg_v (aq (pv 1)) fc)))) (aj (fj (i:=3) tu.nd rfl (Or.inl rfl) (gf qm (by rfl) T.z_tuple lr (ea_v (ER.toD (lq ["pen"] ["room","pen"] [none,some 0] rfl (qx (aq (pv 1))) (fun _ _ _=>(bf (i:=0) (show(["room","pen"]:List Str).Nodup by decide +kernel) rfl (Or.inl rfl))) (fun _ _ _=>jl) (fun _ _ _=>(ER.toD (dz u9 (e2_v (ER.toD (ir d22 (hr.mono (by decide)) (by rfl) (eg_n (pv 1) (eg_v bu fc)))) (EV.toB bu))))))) fu))) (aj (fj (i:=4) tu.nd rfl (Or.inl rfl) (ir d29 (hr.mono (by decide)) (by rfl) (eg_v (aq (pv 1)) (eg_n (pv 2) (eg_v (aq (pv 3)) fc))))) (aj (aaa (i:=5) [] ["left"] [none] tu.nd rfl (Or.inl rfl) rfl (qx (aq (pv 4))) (fun _ _ _=>(bf (i:=0) (show(["left"]:List Str).Nodup by decide +kernel) rfl (Or.inl rfl))) (fun _ _ _=>jl) (fun _ _ _=>(ER.toD (gm (avr rfl) (by rfl) T.z_max avt (ea_v bu (ea_v (ER.toD (dz u9 (e2_v bu (cz (pv 0))))) fu)))))) (aj (fj (i:=2) tu.nd rfl (Or.inl rfl) (gf qm (by rfl) T.z_tuple lr (ea_v (ER.toD (lq [] ["a","b"] [none,none] rfl (aa1 (by rfl) T.z_zip (ak (aq (pv 2)) (ak (aq (pv 5)) cj))) (fun _ _ _=>(qt rfl (cg (bf (i:=0) (show(["a","b"]:List Str).Nodup by decide +kernel) rfl (Or.inl rfl)) (cg (bf (i:=1) (show(["a","b"]:List Str).Nodup by decide +kernel) rfl (Or.inl rfl)) jq)))) (fun _ _ _=>jl) (fun _ _ _=>(ER.toD (dz jz (e2_n (pv 0) (cz (pv 1)))))))) fu))) (au (gn (EV.toR (yp (ak (aq (pv 2)) (ak (ER.toD (gf qm (by rfl) T.z_tuple lr (ea_v (ER.toD (lq [] ["a","b"] [none,none] rfl (aa1 (by rfl) T.z_zip (ak (aq (pv 4)) (ak (aq (pv 5)) cj))) (fun _ _ _=>(qt rfl (cg (bf (i:=0) (show(["a","b"]:List Str).Nodup by decide +kernel) rfl (Or.inl rfl)) (cg (bf (i:=1) (show(["a","b"]:List Str).Nodup by decide +kernel) rfl (Or.inl rfl)) jq)))) (fun _ _ _=>jl) (fun _ _ _=>(ER.toD (dz jz (e2_n (pv 0) (cz (pv 1)))))))) fu))) (ak (aq (pv 3)) cj))))))))))))
theorem sr{m:Nat}{φ:Fd}(F:z.F "_law_det" ad9 f fd)(d32:Dfn z.P z.w z.K z.mg z.base "_law_det" ["rows"] (m+0) (spOf z.K 1 φ)):FnOk z.P z.w z.K z.mg z.base CX0 (m+0+1) f fd ["rows"] (spOf z.K 1 (fnD 5 1 (xq φ))) :=
 jj F uy rfl rfl fun _ _ _ _ _ _ hr =>
  (aj (zb (pq (ag5 hr.units) (e2_n (pv 0) (EV.toB (ER.toD (ue cj)))) (lu _)) (au (gn (EV.toR bu))) jw) (aj (fj (i:=1) uy.nd rfl (Or.inl rfl) (EV.toR bu)) (aj (ug PassesOwn.never rfl (aad (by rfl) T.z_enumerate (ak (aq (pv 0)) cj)) (qt rfl (cg (bf (i:=2) uy.nd rfl (Or.inr rfl)) (cg (bf (i:=3) uy.nd rfl (Or.inl rfl)) jq))) (au (zb (pq (abx hr.units) (e2_v (ER.toD (jm (e2_n (pv 3) (EV.toB bu)) (fun _ _=>by rfl))) (EV.toB bu)) (lu _)) (aj (aaa (i:=4) ["at"] ["place","other","at"] [none,none,some 2] uy.nd rfl (Or.inl rfl) rfl (aad (by rfl) T.z_enumerate (ak (aq (pv 0)) cj)) (fun _ _ _=>(qt rfl (cg (bf (i:=0) (show(["place","other","at"]:List Str).Nodup by decide +kernel) rfl (Or.inl rfl)) (cg (bf (i:=1) (show(["place","other","at"]:List Str).Nodup by decide +kernel) rfl (Or.inl rfl)) jq)))) (fun _ _ _=>(aio (pq (abx hr.units) (e2_n (pv 0) (cz (pv 2))) (lu _)))) (fun _ _ _=>(ER.toD (aei (pv 1) (aa4 bu) ac2)))) (au (fj (i:=1) uy.nd rfl (Or.inl rfl) (dz jz (e2_n (pv 1) (EV.toB (ER.toD (dz wz (e2_v (ER.toD (dz wz (e2_v (ER.toD (jm (e2_n (pv 3) (EV.toB bu)) (fun _ _=>by rfl))) (EV.toB (ER.toD (dz u9 (e2_v bu (EV.toB (ER.toD (dz wz (e2_v bu (EV.toB (ER.toD (dz aeb (e2_n (pv 2) (EV.toB bu)))))))))))))))) (EV.toB (ER.toD (ir d32 (hr.mono (by omega)) (by rfl) (eg_v (aq (pv 4)) fc))))))))))))) jw))) (au (gn (yq (pv 1)))))))
theorem ah6(F:z.F "_law_sizes" abq f fd)(d28:Dd28 z):z.o 2 f fd ["house"] 1 jt :=
 jj F jd rfl rfl fun _ _ _ _ _ _ hr =>
  (aj (fj (i:=1) jd.nd rfl (Or.inl rfl) (ir d28 (hr.mono (by decide)) (by rfl) (eg_v (aq (pv 0)) fc))) (aj (fj (i:=2) jd.nd rfl (Or.inl rfl) (ue cj)) (aj (ug PassesOwn.never rfl (vp (by rfl) T.z_range (ak (ER.toD (gm rn (by rfl) T.z_len rz (ea_n (pv 0) fu))) cj)) (bf (i:=3) jd.nd rfl (Or.inl rfl)) (aj (fj (i:=4) jd.nd rfl (Or.inl rfl) (jm (e2_n (pv 1) (EV.toB bu)) (fun _ _=>by rfl))) (aj (fj (i:=5) jd.nd rfl (Or.inl rfl) (ue cj)) (aj (ug PassesOwn.never rfl (qx (ER.toD (aei (pv 1) (aa4 bu) ac2))) (bf (i:=6) jd.nd rfl (Or.inl rfl)) (aj (afa fuel PassesOwn.never (pq (abx hr.units) (e2_v (ER.toD (jm (e2_n (pv 6) (cz (pv 3))) (fun _ _=>by rfl))) (EV.toB bu)) (lu _)) (aj (fj (i:=7) jd.nd rfl (Or.inr rfl) (dz afh (e2_v (ER.toD (jm (e2_n (pv 4) (cz (pv 3))) (fun _ _=>by rfl))) (EV.toB (ER.toD (jm (e2_n (pv 6) (cz (pv 3))) (fun _ _=>by rfl))))))) (au (ayz (i:=4) (j:=6) rfl jd.nd rfl rfl (by decide) rfl rfl (ak (aq (pv 6)) (ak (ER.toD (lq ["often"] ["a","b","often"] [none,none,some 7] rfl (aa1 (by rfl) T.z_zip (ak (aq (pv 4)) (ak (aq (pv 6)) cj))) (fun _ _ _=>(qt rfl (cg (bf (i:=0) (show(["a","b","often"]:List Str).Nodup by decide +kernel) rfl (Or.inl rfl)) (cg (bf (i:=1) (show(["a","b","often"]:List Str).Nodup by decide +kernel) rfl (Or.inl rfl)) jq)))) (fun _ _ _=>jl) (fun _ _ _=>(ER.toD (dz u9 (e2_n (pv 0) (EV.toB (ER.toD (dz afg (e2_n (pv 2) (cz (pv 1)))))))))))) cj)))))) (au (wu (EV.toR (ae5 ud PySem.F.slot_list_append PySem.F.type_list_append uq (pv 5) (ak (aq (pv 6)) cj))))))) (aj (zb (pq al8 (e2_v (ER.toD (jm (e2_n (pv 4) (cz (pv 3))) (fun _ _=>by rfl))) (EV.toB bu)) (lu _)) (au (aaa (i:=4) [] ["one"] [none] jd.nd rfl (Or.inl rfl) rfl (qx (aq (pv 4))) (fun _ _ _=>(bf (i:=0) (show(["one"]:List Str).Nodup by decide +kernel) rfl (Or.inl rfl))) (fun _ _ _=>jl) (fun _ _ _=>(ER.toD (dz u9 (e2_v bu (cz (pv 0)))))))) jw) (aj (wu (EV.toR (ae5 ud PySem.F.slot_list_append PySem.F.type_list_append uq (pv 2) (ak (aq (pv 4)) cj)))) (au (fj (i:=1) jd.nd rfl (Or.inl rfl) (EV.toR (aq (pv 5))))))))))) (au (gn (yq (pv 2)))))))
theorem ah7(F:z.F "_law_least" abr f fd)(d33:Dd33 z):z.o 3 f fd ["house","walkers"] 2 j9 :=
 jj F qe rfl rfl fun _ _ _ _ _ _ hr =>
  (aj (fj (i:=2) qe.nd rfl (Or.inl rfl) (gf aah (by rfl) T.z_list yz (ea_n (pv 1) fu))) (aj (ug PassesOwn.never rfl (aad (by rfl) T.z_enumerate (ak (ER.toD (ir d33 (hr.mono (by decide)) (by rfl) (eg_v (aq (pv 0)) fc))) cj)) (qt rfl (cg (bf (i:=3) qe.nd rfl (Or.inl rfl)) (cg (bf (i:=4) qe.nd rfl (Or.inl rfl)) jq))) (aj (fj (i:=5) qe.nd rfl (Or.inr rfl) (dz afh (e2_v (ER.toD (jm (e2_n (pv 2) (cz (pv 3))) (fun _ _=>by rfl))) (EV.toB (ER.toD (jm (e2_n (pv 4) (cz (pv 3))) (fun _ _=>by rfl))))))) (au (aaa (i:=2) ["often"] ["a","b","often"] [none,none,some 5] qe.nd rfl (Or.inl rfl) rfl (aa1 (by rfl) T.z_zip (ak (aq (pv 2)) (ak (aq (pv 4)) cj))) (fun _ _ _=>(qt rfl (cg (bf (i:=0) (show(["a","b","often"]:List Str).Nodup by decide +kernel) rfl (Or.inl rfl)) (cg (bf (i:=1) (show(["a","b","often"]:List Str).Nodup by decide +kernel) rfl (Or.inl rfl)) jq)))) (fun _ _ _=>jl) (fun _ _ _=>(ER.toD (dz u9 (e2_n (pv 0) (EV.toB (ER.toD (dz afg (e2_n (pv 2) (cz (pv 1)))))))))))))) (au (gn (gf qm (by rfl) T.z_tuple lr (ea_n (pv 2) fu))))))
theorem acu(F:z.F "_law_sizes_right" um f fd)(d33:Dd33 z)(d19:Dd19 z)(d18:Dd18 z)(d27:Dd27 z)(d23:Dd23 z)(d28:Dd28 z)(d32:Dfn z.P z.w z.K z.mg z.base "_law_det" ["rows"] 7 (spOf z.K 1 (gw 7))):z.o 8 f fd ["house"] 1 je :=
 jj F ji rfl rfl fun _ _ _ _ _ _ hr =>
  (aj (fj (i:=1) ji.nd rfl (Or.inl rfl) (gf qm (by rfl) T.z_tuple lr (ea_v (ER.toD (lq [] ["at","row"] [none,none] rfl (aad (by rfl) T.z_enumerate (ak (ER.toD (ir d33 (hr.mono (by decide)) (by rfl) (eg_v (aq (pv 0)) fc))) cj)) (fun _ _ _=>(qt rfl (cg (bf (i:=0) (show(["at","row"]:List Str).Nodup by decide +kernel) rfl (Or.inl rfl)) (cg (bf (i:=1) (show(["at","row"]:List Str).Nodup by decide +kernel) rfl (Or.inl rfl)) jq)))) (fun _ _ _=>jl) (fun _ _ _=>(ER.toD (jm (e2_n (pv 1) (cz (pv 0))) (fun _ _=>by rfl)))))) fu))) (aj (fj (i:=2) ji.nd rfl (Or.inl rfl) (ir d19 (hr.mono (by decide)) (by rfl) (eg_v (aq (pv 0)) fc))) (aj (zb (EW.pt (auj (adu (ab1 (ER.toD (ir d27 (hr.mono (by decide)) (by rfl) (eg_v (ER.toD (ir d18 (hr.mono (by decide)) (by rfl) (eg_v (aq (pv 0)) fc))) (eg_n (pv 1) fc)))))) (auj (adu (ab1 (ER.toD (ir d23 (hr.mono (by decide)) (by rfl) (eg_n (pv 2) fc))))) (aqz (pq (abx hr.units) (e2_n (pv 2) (EV.toB (ER.toD (ir d32 (hr.mono (by decide)) (by rfl) (eg_v (ER.toD (ir d28 (hr.mono (by decide)) (by rfl) (eg_v (aq (pv 0)) fc))) fc))))) (lu _)))))) (au (gn (EV.toR aik))) jw) (aj (fj (i:=3) ji.nd rfl (Or.inl rfl) (EV.toR bu)) (aj (ug PassesOwn.never rfl (qx (aq (pv 1))) (bf (i:=4) ji.nd rfl (Or.inl rfl)) (au (fj (i:=3) ji.nd rfl (Or.inl rfl) (dz wz (e2_n (pv 3) (cz (pv 4))))))) (au (gn (am0 (ag5 hr.units) (e2_n (pv 3) (cz (pv 2))) (lu _)))))))))
theorem az7(F:z.F "law" ahw f fd)(d35:Dd35 z)(d17:Dd17 z)(d27:Dd27 z)(d20:Dd20 z)(d21:Dd21 z)(d22:Dd22 z)(d26:Dd26 z)(d31:Dd31 z)(d34:Dd34 z)(d30:Dd30 z):z.o 9 f fd ["script"] 1 aqy :=
 jj F abj rfl rfl fun _ _ _ _ _ _ hr =>
  (aj (zb (EW.pt (auj (adu (ab1 (ER.toD (ir d35 (hr.mono (by decide)) (by rfl) (eg_v (yp (ak (yp (ak (agg bu) cj)) cj)) fc))))) (aqz (adu (ab1 (ER.toD (ir d27 (hr.mono (by decide)) (by rfl) (eg_v (ER.toD (ir d17 (hr.mono (by decide)) (by rfl) (eg_v (yp (ak (yp (ak bu (ak (agg bu) (ak (agg bu) cj)))) cj)) (eg_v (yp (ak bu cj)) fc)))) (eg_v (yp (ak bu cj)) fc))))))))) (au (gn (EV.toR aik))) jw) (aj (ug PassesOwn.never rfl (qx (ER.toD (dz jz (e2_v (ER.toD (ue (ak (ER.toD (ir d20 (hr.mono (by decide)) (by rfl) (eg_n (pv 0) (eg_v bu fc)))) cj))) (EV.toB (ER.toD (aei (pv 0) (aa4 bu) (aa4 bu)))))))) (bf (i:=1) abj.nd rfl (Or.inl rfl)) (aj (fj (i:=2) abj.nd rfl (Or.inl rfl) (ir d21 (hr.mono (by decide)) (by rfl) (eg_n (pv 1) fc))) (aj (fj (i:=3) abj.nd rfl (Or.inl rfl) (ir d26 (hr.mono (by decide)) (by rfl) (eg_n (pv 2) (eg_v (ER.toD (jm (e2_v (ER.toD (ue (ak bu (ak bu (ak bu cj))))) (EV.toB (ER.toD (ir d22 (hr.mono (by decide)) (by rfl) (eg_n (pv 2) (eg_v bu fc)))))) (fun _ _=>by rfl))) (eg_v bu fc))))) (aj (zb (adu (ab1 (ER.toD (ir d35 (hr.mono (by decide)) (by rfl) (eg_v (aq (pv 3)) fc))))) (au (gn (EV.toR aik))) jw) (aj (au4 (ER.toD (ir d31 (hr.mono (by decide)) (by rfl) (eg_n (pv 2) (eg_v (aq (pv 3)) fc)))) (qt rfl (cg (bf (i:=4) abj.nd rfl (Or.inl rfl)) (cg (bf (i:=5) abj.nd rfl (Or.inl rfl)) (cg (bf (i:=6) abj.nd rfl (Or.inl rfl)) jq))))) (aj (fj (i:=7) abj.nd rfl (Or.inl rfl) (ir d34 (hr.mono (by decide)) (by rfl) (eg_v (aq (pv 3)) (eg_n (pv 4) fc)))) (aj (zb (pq (abx hr.units) (e2_v (ER.toD (ir d34 (hr.mono (by decide)) (by rfl) (eg_v (aq (pv 3)) (eg_n (pv 5) fc)))) (cz (pv 7))) (lu _)) (au (gn (EV.toR aik))) jw) (aj (fj (i:=8) abj.nd rfl (Or.inl rfl) (ir d30 (hr.mono (by decide)) (by rfl) (eg_n (pv 2) (eg_v (aq (pv 3)) fc)))) (au (ug PassesOwn.never rfl (qx (ER.toD (ue (ak (yp (ak (aq (pv 4)) (ak (aq (pv 7)) cj))) (ak (yp (ak (aq (pv 5)) (ak (aq (pv 7)) cj))) (ak (yp (ak (aq (pv 8)) (ak (ER.toD (ir d34 (hr.mono (by decide)) (by rfl) (eg_v (aq (pv 3)) (eg_n (pv 8) fc)))) cj))) (ak (yp (ak (aq (pv 4)) (ak (aq (pv 7)) cj))) (ak (yp (ak (aq (pv 7)) (ak (aq (pv 7)) cj))) cj)))))))) (qt rfl (cg (bf (i:=9) abj.nd rfl (Or.inl rfl)) (cg (bf (i:=10) abj.nd rfl (Or.inl rfl)) jq))) (au (zb (adu (ab1 (ER.toD (ir d27 (hr.mono (by decide)) (by rfl) (eg_v (ER.toD (ir d17 (hr.mono (by decide)) (by rfl) (eg_v (aq (pv 3)) (eg_v (aq (pv 9)) fc)))) (eg_n (pv 10) fc)))))) (au (gn (EV.toR aik))) jw)))))))))))) (au (gn (EV.toR aik)))))
end
abbrev Q(K:Fg9)(x:Str)(st:Stmt)(f:Addr)(oc:Value)(od:Option Addr)(kV dc pm:Value)(an:Option Addr)(cd ct:Value)(sl:Array (Option Value)):Prop:=nsIn K mainGlobals x=some (some (.ref f))/\K.lookup f=some ⟨oc,od,.func (fnOf x x (qw st) (jr st) (ao st) .none kV dc pm an cd ct),sl⟩/\codeIn K cd x=true/\keepIn K (.ref f)=true
section
variable{K:Fg9}{x:Str}{st:Stmt}{f:Addr}{oc:Value}{od:Option Addr}{kV dc pm:Value}{an:Option Addr}{cd ct:Value}{sl:Array (Option Value)}(q:Q K x st f oc od kV dc pm an cd ct sl){h:Heap}{mg:Str->Option Value}
include q
theorem Q.F:Fun K x x st f (fnOf x x (qw st) (jr st) (ao st) .none kV dc pm an cd ct):=avm q.2.1 q.2.2.1 q.2.2.2
theorem Q.E{ps:List Str}(X:K.In h)(G:h.Ns mainGlobals mg)(b:∀(kV doc pm:Value) (an:Option Addr) (cdv ct:Value) (us:List Value),us.length=ps.length->bindArgs (fnOf x x (qw st) (jr st) (ao st) .none kV doc pm an cdv ct) ⟨us,[]⟩=pure (ps.zip us)):mg x=some (.ref f)/\keepIn K (.ref f)=true/\Binds K (fnOf x x (qw st) (jr st) (ao st) .none kV dc pm an cd ct) ps []:=⟨mg_of X G q.1,q.2.2.2,(Q.F q).binds b⟩
theorem Q.E1{p0:Str}(X:K.In h)(G:h.Ns mainGlobals mg)(b:∀(kV doc pm:Value) (an:Option Addr) (cdv ct u0:Value),bindArgs (fnOf x x (qw st) (jr st) (ao st) .none kV doc pm an cdv ct) ⟨[u0],[]⟩=pure ([p0].zip [u0]):=by intros;rfl):mg x=some (.ref f)/\keepIn K (.ref f)=true/\Binds K (fnOf x x (qw st) (jr st) (ao st) .none kV dc pm an cd ct) [p0] []:=q.E X G fun _ _ _ _ _ _ us hl=>by obtain⟨_,rfl⟩:=ln1 hl;apply b
theorem Q.E2{p0 p1:Str}(X:K.In h)(G:h.Ns mainGlobals mg)(b:∀(kV doc pm:Value) (an:Option Addr) (cdv ct u0 u1:Value),bindArgs (fnOf x x (qw st) (jr st) (ao st) .none kV doc pm an cdv ct) ⟨[u0,u1],[]⟩=pure ([p0,p1].zip [u0,u1]):=by intros;rfl):mg x=some (.ref f)/\keepIn K (.ref f)=true/\Binds K (fnOf x x (qw st) (jr st) (ao st) .none kV dc pm an cd ct) [p0,p1] []:=q.E X G fun _ _ _ _ _ _ us hl=>by obtain⟨_,_,rfl⟩:=ln2 hl;apply b
theorem Q.E3{p0 p1 p2:Str}(X:K.In h)(G:h.Ns mainGlobals mg)(b:∀(kV doc pm:Value) (an:Option Addr) (cdv ct u0 u1 u2:Value),bindArgs (fnOf x x (qw st) (jr st) (ao st) .none kV doc pm an cdv ct) ⟨[u0,u1,u2],[]⟩=pure ([p0,p1,p2].zip [u0,u1,u2]):=by intros;rfl):mg x=some (.ref f)/\keepIn K (.ref f)=true/\Binds K (fnOf x x (qw st) (jr st) (ao st) .none kV dc pm an cd ct) [p0,p1,p2] []:=q.E X G fun _ _ _ _ _ _ us hl=>by obtain⟨_,_,_,rfl⟩:=ln3 hl;apply b
end
theorem a1k{l:PySem.W.OpenLaw}{w:World}{K:Fg9}{h:Heap}{mg:Str->Option Value}(X:K.In h)(G:h.Ns mainGlobals mg)(hfa:mg "law" = some (.ref fa))
  {tk_MOST_ALIKE:Tok}
  (q0:Q K "is_whole" ad6 f0' o0 p0 v0 t0 m0 n0 c0 r0 z0)
  (q1:Q K "is_whole_within" u5 f1' o1 p1 v1 t1 m1 n1 c1 r1 z1)
  (q2:Q K "is_tuple_within" u6 f2' o2 p2 v2 t2 m2 n2 c2 r2 z2)
  (q3:Q K "trap" apa f3' o3 p3 v3 t3 m3 n3 c3 r3 z3)
  (q4:Q K "refuse_not_open" uz f4' o4 p4 v4 t4 m4 n4 c4 r4 z4)
  (q5:Q K "is_walkers" abm f5' o5 p5 v5 t5 m5 n5 c5 r5 z5)
  (q6:Q K "row_with" ad4 f6' o6 p6 v6 t6 m6 n6 c6 r6 z6)
  (q7:Q K "swapped" afv f7' o7 p7 v7 t7 m7 n7 c7 r7 z7)
  (q8:Q K "cleared" afw f8' o8 p8 v8 t8 m8 n8 c8 r8 z8)
  (q9:Q K "solved" ahv f9' o9 p9 v9 t9 m9 n9 c9 r9 z9)
  (q10:Q K "determinant" aav f10' o10 p10 v10 t10 m10 n10 c10 r10 z10)
  (q11:Q K "less" apb f11' o11 p11 v11 t11 m11 n11 c11 r11 z11)
  (q12:Q K "folded" ahx f12' o12 p12 v12 t12 m12 n12 c12 r12 z12)
  (q13:Q K "stairs" ahu f13' o13 p13 v13 t13 m13 n13 c13 r13 z13)
  (q14:Q K "least_by" ad5 f14' o14 p14 v14 t14 m14 n14 c14 r14 z14)
  (q15:Q K "doors_square" aab f15' o15 p15 v15 t15 m15 n15 c15 r15 z15)
  (q16:Q K "refuse_no_rows" ww f16' o16 p16 v16 t16 m16 n16 c16 r16 z16)
  (q17:Q K "least_like" abk f17' o17 p17 v17 t17 m17 n17 c17 r17 z17)
  (q18:Q K "kind_sizes" abl f18' o18 p18 v18 t18 m18 n18 c18 r18 z18)
  (q19:Q K "how_many_kinds" wy f19' o19 p19 v19 t19 m19 n19 c19 r19 z19)
  (q20:Q K "_law_cell" acr f20' o20 p20 v20 t20 m20 n20 c20 r20 z20)
  (q21:Q K "_law_pen" ad8 f21' o21 p21 v21 t21 m21 n21 c21 r21 z21)
  (q22:Q K "_law_draw" acq f22' o22 p22 v22 t22 m22 n22 c22 r22 z22)
  (q23:Q K "_law_whole" abn f23' o23 p23 v23 t23 m23 n23 c23 r23 z23)
  (q24:Q K "_law_house" abt f24' o24 p24 v24 t24 m24 n24 c24 r24 z24)
  (q25:Q K "_law_reached" aac f25' o25 p25 v25 t25 m25 n25 c25 r25 z25)
  (q26:Q K "_law_open" acp f26' o26 p26 v26 t26 m26 n26 c26 r26 z26)
  (q27:Q K "_law_tuple" abo f27' o27 p27 v27 t27 m27 n27 c27 r27 z27)
  (q28:Q K "_law_table" abp f28' o28 p28 v28 t28 m28 n28 c28 r28 z28)
  (q29:Q K "_law_given" abu f29' o29 p29 v29 t29 m29 n29 c29 r29 z29)
  (q30:Q K "_law_row" ad7 f30' o30 p30 v30 t30 m30 n30 c30 r30 z30)
  (q31:Q K "_law_both" acs f31' o31 p31 v31 t31 m31 n31 c31 r31 z31)
  (q32:Q K "_law_det" ad9 f32' o32 p32 v32 t32 m32 n32 c32 r32 z32)
  (q33:Q K "_law_sizes" abq f33' o33 p33 v33 t33 m33 n33 c33 r33 z33)
  (q34:Q K "_law_least" abr f34' o34 p34 v34 t34 m34 n34 c34 r34 z34)
  (q35:Q K "_law_sizes_right" um f35' o35 p35 v35 t35 m35 n35 c35 r35 z35)
  (a36:nsIn K mainGlobals "law" = some (some (.ref f36'))) (l36:K.lookup f36'=some ⟨oc36,od36,.func (fnOf "law" "law" (qw ahw) (jr ahw) (ao ahw) .none kV36 dc36 pm36 an36 cd36 ct36),sl36⟩) (c36:codeIn K cd36 "law" = true) (k36:keepIn K (.ref f36')=true)
  (g_MOST_ALIKE:nsIn K mainGlobals "MOST_ALIKE" = some (some (.int 1000000000000000000000000000000 tk_MOST_ALIKE)))
  (y_abs:nsIn K mainGlobals "abs" = some none)
  (y_all:nsIn K mainGlobals "all" = some none)
  (y_bool:nsIn K mainGlobals "bool" = some none)
  (y_divmod:nsIn K mainGlobals "divmod" = some none)
  (y_enumerate:nsIn K mainGlobals "enumerate" = some none)
  (y_int:nsIn K mainGlobals "int" = some none)
  (y_isinstance:nsIn K mainGlobals "isinstance" = some none)
  (y_len:nsIn K mainGlobals "len" = some none)
  (y_list:nsIn K mainGlobals "list" = some none)
  (y_max:nsIn K mainGlobals "max" = some none)
  (y_min:nsIn K mainGlobals "min" = some none)
  (y_range:nsIn K mainGlobals "range" = some none)
  (y_set:nsIn K mainGlobals "set" = some none)
  (y_sorted:nsIn K mainGlobals "sorted" = some none)
  (y_tuple:nsIn K mainGlobals "tuple" = some none)
  (y_zip:nsIn K mainGlobals "zip" = some none)
  (tbH:PySem.W.tabIn K LamN=some (134,132))
  : ∃fd:FuncData,(∀(s:Shared) (v:Value),BindsTo s fd ⟨[v],[]⟩ [("script", v)])/\∀base:Heap,K.In base->base.Ns mainGlobals mg->FnOk l.prog w K mg base CX0 9 fa fd ["script"] (spOf K 1 aqy):=by
 have e:=hfa.symm.trans (mg_of X G a36);cases e;have T:Txt K mg:=⟨⟨_,mg_of X G g_MOST_ALIKE⟩,mg_none_of X G y_abs,mg_none_of X G y_all,mg_none_of X G y_bool,mg_none_of X G y_divmod,mg_none_of X G y_enumerate,mg_none_of X G y_int,mg_none_of X G y_isinstance,mg_none_of X G y_len,mg_none_of X G y_list,mg_none_of X G y_max,mg_none_of X G y_min,mg_none_of X G y_range,mg_none_of X G y_set,mg_none_of X G y_sorted,mg_none_of X G y_tuple,mg_none_of X G y_zip⟩;have F36:=avm (st:=ahw) l36 c36 k36;refine⟨fnOf "law" "law" (qw ahw) (jr ahw) (ao ahw) .none kV36 dc36 pm36 an36 cd36 ct36,fun s v=>.of_eq rfl,fun base _ _ =>?_⟩
 let z:Cz:=⟨l.prog,w,K,mg,base⟩
 have d0:Dd0 z:=⟨_,_,aku z T q0.F,q0.E1 X G⟩;have d1:Dd1 z:=⟨_,_,ade z T q1.F d0,q1.E3 X G⟩;have d2:Dd2 z:=⟨_,_,adf z T q2.F,q2.E3 X G⟩;have d3:Dd3 z:=⟨_,_,axb z T q3.F,q3.E1 X G⟩;have d4:Dd4 z:=⟨_,_,adc z T q4.F d3,q4.E1 X G⟩;have d5:Dd5 z:=⟨_,_,ah2 z T q5.F d2 d1,q5.E3 X G⟩;have d6:Dd6 z:=⟨_,_,aks z T q6.F,q6.E2 X G⟩;have d7:Dd7 z:=⟨_,_,anz z T q7.F,q7.E3 X G⟩;have d8:Dd8 z:=⟨_,_,an0 z T q8.F,q8.E3 X G⟩;have d9:Dd9 z:=⟨_,_,apw z T q9.F d6 d7 d8,q9.E2 X G⟩;have d10:Dd10 z:=⟨_,_,agv z T q10.F d9,q10.E1 X G⟩;have d11:Dd11 z:=⟨_,_,axc z T q11.F,q11.E3 X G⟩;have d12:Dd12 z:=⟨_,_,apx z T q12.1 tbH q12.F d11,q12.E2 X G⟩;have d13:Dd13 z:=⟨_,_,apv z T q13.F d12,q13.E1 X G⟩;have d14:Dd14 z:=⟨_,_,akt z T q14.F d11,q14.E2 X G⟩;have d15:Dd15 z:=⟨_,_,af2 z T q15.F,q15.E1 X G⟩;have d16:Dd16 z:=⟨_,_,aec z T q16.F d5 d4,q16.E2 X G⟩;have d17:Dd17 z:=⟨_,_,ah0 z T q17.F d16 d15 d13 d14,q17.E2 X G⟩;have d18:Dd18 z:=⟨_,_,ah1 z T q18.F d4 d15 d13,q18.E1 X G⟩;have d19:Dd19 z:=⟨_,_,aed z T q19.F d4 d15 d10,q19.E1 X G⟩;have d20:Dd20 z:=⟨_,_,aja z T q20.F,q20.E2 X G⟩;have d21:Dd21 z:=⟨_,_,akx z T q21.F,q21.E1 X G⟩;have d22:Dd22 z:=⟨_,_,ai9 z T q22.F,q22.E2 X G⟩;have d23:Dd23 z:=⟨_,_,ah3 z T q23.F,q23.E1 X G⟩;have d24:Dd24 z:=⟨_,_,ah8 z T q24.F d22,q24.E3 X G⟩;have d25:Dd25 z:=⟨_,_,af3 z T q25.F,q25.E2 X G⟩;have d26:Dd26 z:=⟨_,_,ai8 z T q26.F d24 d25 d22,q26.E3 X G⟩;have d27:Dd27 z:=⟨_,_,ah4 z T q27.F d23,q27.E2 X G⟩;have d28:Dd28 z:=⟨_,_,ah5 z T q28.F,q28.E1 X G⟩;have d29:Dd29 z:=⟨_,_,ah9 z T q29.F d28,q29.E3 X G⟩;have d30:Dd30 z:=⟨_,_,akv z T q30.F d22,q30.E2 X G⟩;have d31:Dd31 z:=⟨_,_,ajb z T q31.F d30 d22 d29,q31.E2 X G⟩;have d32:Dfn l.prog w K mg base "_law_det" ["rows"] 0 (spOf K 1 (gw 0)):=⟨_,_,ax1 rfl,q32.E1 X G⟩
 replace d32:Dfn l.prog w K mg base "_law_det" ["rows"] 1 (spOf K 1 (gw 1)):=⟨_,_,sr z T (m:=0) q32.F d32,q32.E1 X G⟩
 replace d32:Dfn l.prog w K mg base "_law_det" ["rows"] 2 (spOf K 1 (gw 2)):=⟨_,_,sr z T (m:=1) q32.F d32,q32.E1 X G⟩
 replace d32:Dfn l.prog w K mg base "_law_det" ["rows"] 3 (spOf K 1 (gw 3)):=⟨_,_,sr z T (m:=2) q32.F d32,q32.E1 X G⟩
 replace d32:Dfn l.prog w K mg base "_law_det" ["rows"] 4 (spOf K 1 (gw 4)):=⟨_,_,sr z T (m:=3) q32.F d32,q32.E1 X G⟩
 replace d32:Dfn l.prog w K mg base "_law_det" ["rows"] 5 (spOf K 1 (gw 5)):=⟨_,_,sr z T (m:=4) q32.F d32,q32.E1 X G⟩
 replace d32:Dfn l.prog w K mg base "_law_det" ["rows"] 6 (spOf K 1 (gw 6)):=⟨_,_,sr z T (m:=5) q32.F d32,q32.E1 X G⟩
 replace d32:Dfn l.prog w K mg base "_law_det" ["rows"] 7 (spOf K 1 (gw 7)):=⟨_,_,sr z T (m:=6) q32.F d32,q32.E1 X G⟩
 have d33:Dd33 z:=⟨_,_,ah6 z T q33.F d28,q33.E1 X G⟩;have d34:Dd34 z:=⟨_,_,ah7 z T q34.F d33,q34.E2 X G⟩;have d35:Dd35 z:=⟨_,_,acu z T q35.F d33 d19 d18 d27 d23 d28 d32,q35.E1 X G⟩;exact az7 z T F36 d35 d17 d27 d20 d21 d22 d26 d31 d34 d30
end My
set_option genInjectivity false in
structure PySem.W.Fast where(tw12078362897130887136 tw51132676261519393 tw7063426074259336001 tw9859079814160062114 tw6574572980043304067 tw1000667812217390435 tw6497537223021136611 tw10424720022481918116 tw4581020713007931108 tw3433341050799788837 tw13203547090022492230 tw345227787948144486 tw5650257584704693255 tw17393645634714823911 tw915189158957323369 tw5807783348650879081 tw6799118032698735945 tw122744415749685673 tw7142592502925168297 tw2584996312175697930 tw12359124029371875914 tw11157927383007112075 tw8208435127081462828 tw5460079748319205228 tw10634713394690967468 tw9650219435704332943 tw16011580354382374703 tw16515438213655053199 tw15678287987386138768 tw2270501748770653840 tw7078653499739602800 tw8458320761339617969 tw12960194698239101202 tw6169672363460291603 tw13821650575096745395 tw3502452260855529652 tw1675344950535922964 tw10865247288324153429 tw13797852399672222901 tw3491941757322593525 tw3199948812400861781 tw16020830545847025461 tw7425764081467632501 tw10484786734358131959 tw4177070080325445016 tw4449583422282875897 tw1312469282439639579 tw11530640586893524540 tw14083915350913658269 tw18004427710895941213 tw3138371870616884606 tw8347554556257864319 tw18130966724091285375 tw18332332367315358592 tw4760296713358594710 tw14948636252192296239 tw17283397849865549255 tw13568580718997739153 tw17641010732058102252 tw6742897904910403158 tw9747479753990332521 tw12239595791975801782 tw7834761746800750251 tw17202716205174734381 tw954831093098371402 tw12523526167970949123 tw1198399551210154910 tw5888387177148332628 tw18154622220150773247 tw15454082699912436530 tw9984914928534571885 tw1658905894587471507 tw1018486938885628440 tw13050365251724811695 tw1643462745041824529 tw70250034165068955 tw7907780085834695216 tw12012144731745477033 tw17343607765777148993 tw448523450175694161 tw6313339750381183884 tw11791560539962080952 tw9980775716649124068 tw4162759049517319952 tw9133010935216741688 tw7469932037692853348 tw9299135086994323179 tw15226227801357789696 tw15005660655554059209 tw6400899538217859970 tw3361833507099519751 tw5873170503055966447 tw9244693058606303914 tw7867926686614376330 tw16332876506610515335 tw11751071500402758962 tw159357348197707234 tw13051796304254325649 tw3632397134147519872 tw3456950917989903044 tw3355649065664172593 tw866913025650253935 tw3134777742870922368 tw3417632064624568988 tw8050271850919657541 tw3640458298520138649 tw12694857380099106626 tw18377629746000323841 tw7590332912654895049 tw17911854636035689184 tw5116081248300401581 tw12109585529955550431 tw3276018067342337071 tw18260305615481075125 tw5191976776492481336:Unit)
open PySem PySem.W PyProof.Rows
set_option maxRecDepth 100000 in
set_option maxHeartbeats 0 in
theorem PySem.Challenge.cw_turnarrows_k61_least_rows_and_kinds_holds : PySem.Challenge.rw_turnarrows_k61_least_rows_and_kinds.Holds := by
 w_on;o_law;k_head;(case hw=>w_witness2)
 k_fill
 refine Dn.walk (l:=PySem.Challenge.rw_turnarrows_k61_least_rows_and_kinds) (f:=My.aqy) (k:=9) My.aty rfl rfl ⟨rfl,by decide,by decide,rfl⟩ (fun w h Y=>⟨PySem.W.km_in_of Y,134,132,by kernel_rfl,by kernel_rfl,PySem.W.km_tabs_of Y _ (List.mem_cons_self ..),by kernel_rfl⟩) ?F
 case F =>
  intro w mg fa h KX G hmg;refine' My.a1k KX G hmg ?_ ?_ ?_ ?_ ?_ ?_ ?_ ?_ ?_ ?_ ?_ ?_ ?_ ?_ ?_ ?_ ?_ ?_ ?_ ?_ ?_ ?_ ?_ ?_ ?_ ?_ ?_ ?_ ?_ ?_ ?_ ?_ ?_ ?_ ?_ ?_ ?_ ?_ ?_ ?_ ?_ ?_ ?_ ?_ ?_ ?_ ?_ ?_ ?_ ?_ ?_ ?_ ?_ ?_ ?_ ?_ ?_ ?_
  all_goals try refine' And.intro ?_ (And.intro ?_ (And.intro ?_ ?_))
  any_goals k_is
  all_goals kernel_rfl
