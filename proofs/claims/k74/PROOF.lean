import PyProof.Rows.All
import Wide.All
import OpenK.AllK
import Wide.FinOn
import Lean
import PyProof.EqAt
import PyProof.EqKinds
import PyProof.TupleCall
import PySem.Challenge.RW_turnarrows_k74_texts_of_no_house
set_option Elab.async false
set_option linter.all false
set_option maxRecDepth 100000
noncomputable section
open PySem.W (nsIn mg_of keepIn fnOf codeIn findIn mg_none_of)
abbrev Fg9:=PySem.W.Frag
abbrev LL9:=List (List Int)
section
open PySem PySem.Spec PyProof.Rows
namespace L2
abbrev Key:=Sum Int Str
def aj3:Key->Value->Bool
 | .inl k,v=>Value.isInt k v
 | .inr x,v=>Value.isStrOf x v
def keyH(w:World):Key->Int
 | .inl k=>hashInt k
 | .inr x=>hashStr w x
theorem ie:∀{k:Key} {v:Value},aj3 k v=true->(∃i t,k=Sum.inl i/\v=Value.int i t)∨(∃x t,k=Sum.inr x/\v=Value.str x t)
 | .inl i,v,h=>by
  obtain⟨t,e⟩:=Value.isInt_shape (k:=i) (v:=v) h;exact .inl ⟨i,t,rfl,e⟩
 | .inr x,v,h=>by
  obtain⟨t,e⟩:=Value.isStrOf_shape (x:=x) (v:=v) h;exact .inr ⟨x,t,rfl,e⟩
theorem ah8(x:Str)(t:Tok):aj3 (.inr x) (.str x t)=true:=by simp[aj3,Value.isStrOf]
theorem apy(a b:Int):decide ((Sum.inl a:Key)=Sum.inl b)=(a==b):=by
 by_cases e:a=b
 ·subst e;simp
 ·have h:¬(Sum.inl a:Key)=Sum.inl b:=fun q=>e (Sum.inl.inj q)
  rw[decide_eq_false h];exact(beq_eq_false_iff_ne.mpr e).symm
theorem apv(a b:Str):decide ((Sum.inr a:Key)=Sum.inr b)=decide (a=b):=by
 by_cases e:a=b
 ·subst e;simp
 ·have h:¬(Sum.inr a:Key)=Sum.inr b:=fun q=>e (Sum.inr.inj q)
  rw[decide_eq_false h,decide_eq_false e]
theorem apx(a:Int)(b:Str):decide ((Sum.inl a:Key)=Sum.inr b)=false:=decide_eq_false (fun q=>nomatch q)
theorem apw(a:Str)(b:Int):decide ((Sum.inr a:Key)=Sum.inl b)=false:=decide_eq_false (fun q=>nomatch q)
def acy(prog:Program)(w:World):PySem.KeyKind prog w Key where
 is:=aj3
 hash:=keyH w
 inj:=fun v a b ha hb=>by
  rcases ie ha with⟨i,t,rfl,rfl⟩ | ⟨x,t,rfl,rfl⟩
  ·rcases ie hb with⟨j,u,rfl,e⟩ | ⟨y,u,rfl,e⟩
   ·injection e with e1 _;rw[e1]
   ·exact nomatch e
  ·rcases ie hb with⟨j,u,rfl,e⟩ | ⟨y,u,rfl,e⟩
   ·exact nomatch e
   ·injection e with e1 _;rw[e1]
 byValue:=fun k v h=>by
  rcases ie h with⟨i,t,rfl,rfl⟩ | ⟨x,t,rfl,rfl⟩ <;> rfl
 pyHash:=fun hv h=>by
  rcases ie hv with⟨i,t,rfl,rfl⟩ | ⟨x,t,rfl,rfl⟩
  ·exact wpAny_pyHash_int h
  ·exact wpAny_pyHash_str h
 eqBool:=fun hu hv h=>by
  rcases ie hu with⟨i,t,rfl,rfl⟩ | ⟨x,t,rfl,rfl⟩
  ·rcases ie hv with⟨j,u,rfl,rfl⟩ | ⟨y,u,rfl,rfl⟩
   ·rw[apy] at h;exact wpAny_eqBool_int h
   ·rw[apx] at h;exact SeqAt.EqAt.int_str i t y u _ _ _ _ h
  ·rcases ie hv with⟨j,u,rfl,rfl⟩ | ⟨y,u,rfl,rfl⟩
   ·rw[apw] at h;exact SeqAt.EqAt.str_int x t j u _ _ _ _ h
   ·rw[apv] at h;exact wpAny_eqBool_str h
 «strs» := fun k x t v h=>by
  rcases ie h with⟨i,u,rfl,e⟩ | ⟨y,u,rfl,e⟩
  ·exact nomatch e
  ·injection e with e1 _
   subst e1;cases v <;> rfl
theorem aer(prog:Program)(w:World)(x:Str)(t:Tok):(acy prog w).is (.inr x) (.str x t)=true:=ah8 x t
def IsTp(h:Heap)(a:Addr)(items:Array Value):Prop:=∃o,h.get? a=some o/\o.cls=.type "tuple" /\ o.dict=none/\∃n,o.data=.seq items n
theorem IsTp.tup{h:Heap}{a:Addr}{items:Array Value}(x:IsTp h a items):IsTup h a items:=let ⟨o,e,c,_,n,d⟩:=x;⟨o,e,c,n,d⟩
theorem IsTp.new(h:Heap)(items:Array Value):IsTp (h.push { cls:=.type "tuple", data:=.seq items }) h.objs.size items:=⟨_,Heap.get?_push_size _ rfl,rfl,rfl,_,rfl⟩
inductive V where
 | non | bl (b:Bool) | int (i:Int) | str (x:Str) | byt (b:Array UInt8) | flt (b:UInt64) | ref (a:Addr) | ty (n:String)
 deriving DecidableEq
def RelV:V->Value->Prop
 | .non,u=>u=Value.none
 | .bl b,u=>u=Value.bool b
 | .int i,u=>∃t,u=Value.int i t
 | .str x,u=>∃t,u=Value.str x t
 | .byt b,u=>∃t,u=Value.bytes b t
 | .flt b,u=>∃t,u=Value.float b t
 | .ref a,u=>u=Value.ref a
 | .ty n,u=>u=Value.type n
abbrev Vals:List V->List Value->Prop:=Paired RelV
theorem Vals.length{xs:List V}{us:List Value}(r:Vals xs us):xs.length=us.length:=Paired.length r
theorem Vals.get:∀{xs:List V} {us:List Value} {i:Nat} {x:V},Vals xs us->xs[i]? = some x->∃u,us[i]? = some u/\RelV x u
 | _,_,_,_,.nil,e=>by simp at e
 | _,_,0,_,.cons r _,e=>by simp at e;subst e;exact⟨_,rfl,r⟩
 | _,_,i+1,x,.cons _ t,e=>by
  obtain⟨u,h1,h2⟩:=Vals.get (i:=i) (x:=x) t (by simpa using e)
  exact⟨u,by simpa using h1,h2⟩
theorem Vals.set{x:V}{u:Value}(r:RelV x u):∀{xs:List V} {us:List Value} (i:Nat),Vals xs us->Vals (xs.set i x) (us.set i u)
 | _,_,_,.nil=>.nil
 | _,_,0,.cons _ t=>.cons r t
 | _,_,i+1,.cons q t=>.cons q (Vals.set r i t)
theorem Vals.append:∀{xs ys:List V} {us ws:List Value},Vals xs us->Vals ys ws->Vals (xs++ys) (us++ws)
 | _,_,_,_,.nil,s=>s
 | _,_,_,_,.cons r t,s=>.cons r (Vals.append t s)
theorem Vals.take:∀{xs:List V} {us:List Value} (n:Nat),Vals xs us->Vals (xs.take n) (us.take n)
 | _,_,0,_=>.nil
 | _,_,_+1,.nil=>.nil
 | _,_,n+1,.cons r t=>.cons r (Vals.take n t)
theorem Vals.drop:∀{xs:List V} {us:List Value} (n:Nat),Vals xs us->Vals (xs.drop n) (us.drop n)
 | _,_,0,r=>r
 | _,_,_+1,.nil=>.nil
 | _,_,n+1,.cons _ t=>Vals.drop n t
def RelO:Option V->Option Value->Prop
 | some v,some u=>RelV v u
 | none,none=>True
 | _,_=>False
def KV{κ:Type}:List (κ×V)->List (κ×Value)->Prop:=Paired fun(p:κ×V) (q:κ×Value)=>p.1=q.1/\RelV p.2 q.2
def kV:Key->V
 | .inl i=>.int i
 | .inr x=>.str x
inductive HO where
 | lst (xs:List V)
 | tup (xs:List V)
 | dK (kvs:List (Key×V)) | dT (kvs:List (List Key×V))
 | set (S:Int->Bool) (n:Nat)
 | ins (C dx:Addr) (fs:List (Str×V))
 | own (x:Addr)
 | xd (fs:List (Str×V))
 | met (f x:Addr)
 | rng (lo hi:Int)
 | frz (o:Obj) (u:HO)
 | tbl (ps:Array Value)
 | ext (φ:Heap->Prop)
abbrev Hp:=Addr->Option HO
def upd(H:Hp)(a:Addr)(o:HO):Hp:=fun b=>if b=a then some o else H b
theorem cj{H:Hp}{a:Addr}{o:HO}:upd H a o a=some o:=by unfold upd;rw[if_pos rfl]
theorem bj{H:Hp}{a b:Addr}{o:HO}(h:b≠a):upd H a o b=H b:=by unfold upd;rw[if_neg h]
theorem alj{H:Hp}{a:Addr}{o u:HO}:upd (upd H a o) a u=upd H a u:=by
 funext b;unfold upd;split <;> rfl
theorem dq{H:Hp}{a b:Addr}{o:HO}(h:H a=some o)(h':H b=none):a≠b:=by
 intro e;subst e;rw[h] at h';cases h'
section
variable(P:Program)(w:World)
def lq(H:Hp)(h:Heap)(a:Addr):HO->Prop
 | .lst xs=>xs.length<=sizeLine/\∃(its:List Value) (n:Nat),Vals xs its/\h.get? a=some { cls:=.type "list", data:=.seq its.toArray n }
 | .tup xs=>xs.length<=sizeLine/\∃its:List Value,Vals xs its/\IsTp h a its.toArray
 | .dK kvs=>kvs.length<=sizeLine/\(a==sysModules)=false/\∃vs,KV kvs vs/\h.DictOf (acy P w) a vs
 | .dT kvs=>kvs.length<=sizeLine/\(a==sysModules)=false/\∃xs:List (List Key×Addr×Value),
   Paired (fun(p:List Key×V) (q:List Key×Addr×Value)=>p.1=q.1/\H q.2.1=some (.tup (p.1.map kV))/\RelV p.2 q.2.2) kvs xs /\
   ∃o es ep,h.get? a=some o/\o.ExactDict/\o.data=.dict es ep/\es.toList=xs.map (entryOfKey (tupleKind (acy P w)))/\(xs.map (·.1)).Nodup
 | .set S n=>h.SetOf (intKind P w) a S n
 | .ins C dx fs=>H dx=some (.own a)/\fs.length<=1000/\dx≠a/\h.get? a=some (PySem.W.instObj C dx) /\
   ∃mA,h.Ns1 dx mA/\(∀f,RelO (fs.lookup f) (mA f))/\PySem.Within mA (fs.map (·.1))
 | .own _=>∃o,h.get? a=some o
 | .xd fs=>∃mA,h.Ns1 a mA/\∀f,RelO (fs.lookup f) (mA f)
 | .rng lo hi=>∃t u v,h.get? a=some { cls:=.type "range", data:=.fields #[.int lo t,.int hi u,.int 1 v] }
 | .frz o u=>h.get? a=some o/\lq H h a u
 | .tbl ps=>h.get? a=some { cls:=.none,data:=.fields ps }
 | .met f x=>h.get? a=some (PySem.W.methodObj (.ref f) (.ref x))
 | .ext φ=>φ h/\(∃o,h.get? a=some o)/\∀h1 h2:Heap,φ h1->(∀o,h1.get? a=some o->h2.get? a=some o)->φ h2
def HOk(H:Hp)(h:Heap):Prop:=∀a o,H a=some o->lq P w H h a o
end
section
variable{P:Program}{w:World}{H H':Hp}{h h':Heap}{a:Addr}{o:HO}
theorem lq.lt(x:lq P w H h a o):a < h.objs.size:=by
 cases o with
 | lst xs=>obtain⟨_,_,_,_,e⟩:=x;exact Heap.lt_size e
 | tup xs=>obtain⟨_,_,_,p⟩:=x;exact p.tup.lt
 | dK kvs=>obtain⟨_,_,_,_,o,_,_,e,_⟩:=x;exact Heap.lt_size e
 | dT kvs=>obtain⟨_,_,_,_,o,_,_,e,_⟩:=x;exact Heap.lt_size e
 | set S n=>obtain⟨o,_,_,_,e,_⟩:=x;exact Heap.lt_size e
 | ins C dx fs=>obtain⟨_,_,_,e,_⟩:=x;exact Heap.lt_size e
 | own y=>obtain⟨_,e⟩:=x;exact Heap.lt_size e
 | xd fs=>obtain⟨_,⟨_,_,_,e,_⟩,_⟩:=x;exact Heap.lt_size e
 | rng lo hi=>obtain⟨_,_,_,e⟩:=x;exact Heap.lt_size e
 | frz ob u=>obtain⟨e,_⟩:=x;exact Heap.lt_size e
 | tbl ps=>exact Heap.lt_size (show h.get? a=some _ from x)
 | met f y=>exact Heap.lt_size (show h.get? a=some _ from x)
 | ext φ=>obtain⟨_,⟨_,e⟩,_⟩:=x;exact Heap.lt_size e
theorem Paired.mapP{α β:Type}{F G:α->β->Prop}:∀{l₁:List α} {l₂:List β},Paired F l₁ l₂->(∀a b,F a b->G a b)->Paired G l₁ l₂
 | _,_,.nil,_=>.nil
 | _,_,.cons r t,f=>.cons (f _ _ r) (Paired.mapP t f)
theorem lq.stay(x:lq P w H h a o)(k:∀b u,(b=a∨H b=some (.own a))->h.get? b=some u->h'.get? b=some u)
  (ho:∀b,H b=some (.own a)->H' b=some (.own a)) (ht:∀b xs,H b=some (.tup xs)->H' b=some (.tup xs)):lq P w H' h' a o:=by
 induction o with
 | lst xs=>obtain⟨z,its,n,r,e⟩:=x;exact⟨z,its,n,r,k _ _ (.inl rfl) e⟩
 | tup xs=>obtain⟨z,its,r,ob,e,c⟩:=x;exact⟨z,its,r,ob,k _ _ (.inl rfl) e,c⟩
 | dK kvs=>obtain⟨z,y,vs,r,ob,es,ep,e,c⟩:=x;exact⟨z,y,vs,r,ob,es,ep,k _ _ (.inl rfl) e,c⟩
 | dT kvs =>
  obtain⟨z,y,xs,r,ob,es,ep,e,c⟩:=x;exact⟨z,y,xs,Paired.mapP r fun p q z=>⟨z.1,ht _ _ z.2.1,z.2.2⟩,ob,es,ep,k _ _ (.inl rfl) e,c⟩
 | set S n=>obtain⟨ob,es,ep,t,e,c⟩:=x;exact⟨ob,es,ep,t,k _ _ (.inl rfl) e,c⟩
 | ins C dx fs =>
  obtain⟨d,z,ne,e,mA,⟨od,es,ep,e2,c⟩,r⟩:=x;exact⟨ho _ d,z,ne,k _ _ (.inl rfl) e,mA,⟨od,es,ep,k _ _ (.inr d) e2,c⟩,r⟩
 | own y=>obtain⟨ob,e⟩:=x;exact⟨ob,k _ _ (.inl rfl) e⟩
 | xd fs=>obtain⟨mA,⟨od,es,ep,e,c⟩,r⟩:=x;exact⟨mA,⟨od,es,ep,k _ _ (.inl rfl) e,c⟩,r⟩
 | rng lo hi=>obtain⟨t,u,v,e⟩:=x;exact⟨t,u,v,k _ _ (.inl rfl) e⟩
 | frz ob u ih=>obtain⟨e,q⟩:=x;exact⟨k _ _ (.inl rfl) e,ih q⟩
 | tbl ps =>
  have e:h.get? a=some { cls:=.none,data:=.fields ps }:=x;show h'.get? a=some { cls:=.none,data:=.fields ps };exact k a _ (.inl rfl) e
 | met f y =>
  have e:h.get? a=some (PySem.W.methodObj (.ref f) (.ref y)):=x;show h'.get? a=some (PySem.W.methodObj (.ref f) (.ref y));exact k a _ (.inl rfl) e
 | ext φ=>obtain⟨p,⟨o,e⟩,st⟩:=x;exact⟨st _ _ p fun o q=>k _ _ (.inl rfl) q,⟨o,k _ _ (.inl rfl) e⟩,st⟩
theorem HOk.lt(x:HOk P w H h)(e:H a=some o):a < h.objs.size:=(x a o e).lt
theorem HOk.fresh(x:HOk P w H h)(e:h.objs.size<=a):H a=none:=by
 cases q:H a with
 | none=>rfl
 | some u=>exact absurd (Nat.lt_of_lt_of_le (x.lt q) e) (Nat.lt_irrefl _)
theorem HOk.kept(x:HOk P w H h)(k:∀b u,h.get? b=some u->h'.get? b=some u):HOk P w H h':=fun a o e =>
 (x a o e).stay (fun b u _ q=>k b u q) (fun _ q=>q) fun _ _ q=>q
theorem HOk.laid(x:HOk P w H h)(k:∀b u,h.get? b=some u->h'.get? b=some u)(hp:h.objs.size<=a)(new:lq P w (upd H a o) h' a o):HOk P w (upd H a o) h':=fun b u e=>by
 have hn:=x.fresh hp
 by_cases hb:b=a
 ·subst hb;rw[cj] at e;cases e;exact new
 ·rw[bj hb] at e;exact(x b u e).stay (fun c v _ q=>k c v q) (fun c q=>by rw[bj (dq q hn)];exact q) fun c xs q=>by rw[bj (dq q hn)];exact q
end
def Rd(H:Hp)(a:Addr)(u:HO):Prop:=H a=some u∨∃o,H a=some (.frz o u)
theorem Rd.ok{P:Program}{w:World}{H:Hp}{h:Heap}{a:Addr}{u:HO}(r:Rd H a u)(x:HOk P w H h):lq P w H h a u:=by
 rcases r with r | ⟨o,r⟩
 ·exact x a u r
 ·obtain⟨_,q⟩:=x a _ r;exact q
def Mut:Option HO->Prop
 | some (.lst _)=>True
 | some (.dK _)=>True
 | some (.dT _)=>True
 | some (.set _ _)=>True
 | some (.ins _ _ _)=>True
 | some (.ext _)=>True
 | _=>False
section
variable{P:Program}{w:World}{H:Hp}{h h':Heap}{x e:Addr}{o':HO}
theorem HOk.write(ok:HOk P w H h)(mu:Mut (H x))(he:e=x∨H e=some (.own x))(k:∀b u,b≠e->h.get? b=some u->h'.get? b=some u)(heo:∃u,h'.get? e=some u)
  (new:lq P w (upd H x o') h' x o'):HOk P w (upd H x o') h':=fun b u q=>by
 have nown:∀c y,H c=some (.own y)->c≠x:=fun c y r z=>by subst z;rw[r] at mu;exact mu
 have ntup:∀c xs,H c=some (.tup xs)->c≠x:=fun c xs r z=>by subst z;rw[r] at mu;exact mu
 by_cases hb:b=x
 ·subst hb;rw[cj] at q;cases q;exact new
 ·rw[bj hb] at q
  by_cases hbe:b=e
  ·have q':H b=some (.own x):=by
    rcases he with z | z
    ·exact absurd (hbe.trans z) hb
    ·rw[hbe];exact z
   rw[q] at q';cases q';obtain⟨v,hv⟩:=heo;exact⟨v,by rw[hbe];exact hv⟩
  ·refine(ok b u q).stay (fun c v hc r=>k c v ?_ r) (fun c r=>by rw[bj (nown c b r)];exact r) fun c xs r=>by rw[bj (ntup c xs r)];exact r
   rcases hc with rfl | hc
   ·exact hbe
   ·rintro rfl
    rcases he with z | z
    ·exact nown c b hc z
    ·rw[hc] at z;cases z;exact hb rfl
end
structure Un (fs ex:List Addr) (H H':Hp) (h h':Heap):Prop where
 keep:∀b o,h.get? b=some o->H b=none->b∉fs->b∉ex->h'.get? b=some o
 slot:∀b o,h.get? b=some o->H b=none->b∈fs->b∉ex->∃sl,h'.get? b=some { o with slots:=sl }
 free:∀b o,h.get? b=some o->H b=none->b∉ex->H' b=none
 there:∀b o,h.get? b=some o->b∉ex->∃o',h'.get? b=some o'
 tups:∀b xs,H b=some (.tup xs)->H' b=some (.tup xs)
 frzs:∀b o u,H b=some (.frz o u)->H' b=some (.frz o u)
 tbls:∀b ps,H b=some (.tbl ps)->∃more,H' b=some (.tbl (ps++more))
section
variable{fs fs' ex ex':List Addr}{H H1 H2:Hp}{h h1 h2 h':Heap}{a x e:Addr}{o:HO}
theorem Un.any(u:Un fs ex H H1 h h1){b:Addr}{ob:Obj}(q:h.get? b=some ob)(n:H b=none)(hx:b∉ex):∃sl,h1.get? b=some { ob with slots:=sl }:=by
 by_cases hb:b∈fs
 ·exact u.slot b ob q n hb hx
 ·exact⟨ob.slots,u.keep b ob q n hb hx⟩
theorem Un.kept(k:∀b u,h.get? b=some u->h'.get? b=some u):Un fs ex H H h h' :=
 ⟨fun b ob q _ _ _=>k b ob q,fun b ob q _ _ _=>⟨ob.slots,k b ob q⟩,fun _ _ _ n _=>n,fun b ob q _=>⟨ob,k b ob q⟩,fun _ _ q=>q,fun _ _ _ q=>q,fun _ ps q=>⟨#[],by rw[q];simp⟩⟩
theorem Un.refl:Un fs ex H H h h:=Un.kept fun _ _ q=>q
theorem Un.laid(k:∀b u,h.get? b=some u->h'.get? b=some u)(hp:h.objs.size<=a)(hn:H a=none):Un fs ex H (upd H a o) h h' where
 keep:=fun b u q _ _ _=>k b u q
 slot:=fun b u q _ _ _=>⟨u.slots,k b u q⟩
 free:=fun b u q n _=>by rw[bj (Nat.ne_of_lt (Nat.lt_of_lt_of_le (Heap.lt_size q) hp))];exact n
 there:=fun b u q _=>⟨u,k b u q⟩
 tups:=fun b xs q=>by rw[bj (dq q hn)];exact q
 frzs:=fun b u xs q=>by rw[bj (dq q hn)];exact q
 tbls:=fun b ps q=>⟨#[],by rw[bj (dq q hn),q];simp⟩
theorem Un.write(mu:Mut (H x))(he:e=x∨H e=some (.own x))(k:∀b u,b≠e->h.get? b=some u->h'.get? b=some u)(heo:∃u,h'.get? e=some u):Un fs ex H (upd H x o) h h':=by
 have hx:∀b,H b=none->b≠x:=fun b n z=>by subst z;rw[n] at mu;exact mu
 have hb:∀b,H b=none->b≠e:=fun b n z=>by
  subst z;rcases he with r | r
  ·exact hx b n r
  ·rw[n] at r;cases r
 have hm:∀b u,H b=some u->¬Mut (some u)->b≠x:=fun b u q nm z=>by subst z;rw[q] at mu;exact nm mu
 refine⟨fun b u q n _ _=>k b u (hb b n) q,fun b u q n _ _=>⟨u.slots,k b u (hb b n) q⟩,fun b u q n _=>by rw[bj (hx b n)];exact n,fun b u q _ =>?_,
  fun b xs q=>by rw[bj (hm b _ q fun z=>z)];exact q,fun b u xs q=>by rw[bj (hm b _ q fun z=>z)];exact q,fun b ps q=>⟨#[],by rw[bj (hm b _ q fun z=>z),q];simp⟩⟩
 by_cases hbe:b=e
 ·subst hbe;exact heo
 ·exact⟨u,k b u hbe q⟩
end
def trk(h:Heap)(H:Hp):List Addr:=(List.range h.objs.size).filter fun a=>(H a).isSome
def hidT(h:Heap)(H:Hp):Heap:=PySem.W.hideAll h (trk h H)
theorem aie(h:Heap)(H:Hp):(hidT h H).objs.size=h.objs.size:=PySem.W.hideAll_size _ _
theorem akb{h:Heap}{H:Hp}{b:Addr}{o:Obj}(e:h.get? b=some o)(n:H b=none):(hidT h H).get? b=some o :=
 PySem.W.hideAll_get _ e fun hm=>by
  have q:(H b).isSome=true:=(List.mem_filter.mp hm).2;rw[n] at q;simp at q
theorem amh{h:Heap}{H:Hp}{b:Addr}{o:Obj}(e:(hidT h H).get? b=some o):h.get? b=some o/\H b=none:=by
 have e':h.get? b=some o:=PySem.W.of_hideAll (trk h H) e;refine⟨e',?_⟩;cases q:H b with
 | none=>rfl
 | some x =>
  have hm:b∈trk h H:=List.mem_filter.mpr ⟨List.mem_range.mpr (Heap.lt_size e'),by simp[q]⟩
  have z:(hidT h H).get? b=none:=PySem.W.hideAll_none (trk h H) hm;rw[z] at e;cases e
def anr(g h:Heap)(L:Addr):List (Addr×Obj):=(List.range h.objs.size).filterMap fun a=>if a=L∨(g.get? a).isSome=true then none else (h.get? a).map fun o=>(a,o)
def rest(g h:Heap)(L d:Addr):List (Addr×Obj):=(anr g h L).filter fun p=>decide (p.1≠d)
structure Mod (K:Fg9) (mg:Str->Option Value) (base:Heap):Prop where
 kin:K.In base
 glob:base.Ns mainGlobals mg
 blt:∃mb,base.Ns builtinsNs mb/\∀x:Str,x ≠ "__name__" -> mb x=bootBuiltins x
 nolimit:base.NoLimit
structure Cx where
 prog:Program
 w:World
 K:Fg9
 mg:Str->Option Value
 base:Heap
 A:Around
 N:List Str
 s₀:Shared
 H₀:Hp
 env:Env
 outer:List Env
 stack:List Env
 ex:List Addr
 fn:Str->Bool
 calm:Bool
 pn:List (Addr×Obj)
 xe:Value->Shared->Prop
def frs(l:List Env):List Addr:=l.filterMap (·.frame)
abbrev Cx.fs(X:Cx):List Addr:=frs X.outer
def Vis(sc:Scope)(x:Str):Prop:=sc.names.lookup x=some .local∨sc.names.lookup x=some .cell∨sc.names.lookup x=some .free
def Loc(sc:Scope)(x:Str):Prop:=sc.names.lookup x=some .local∨sc.names.lookup x=some .cell
def Look(env:Env)(h:Heap)(m:Str->Option Value)(x:Str)(u:Value):Prop :=
 (env.kindOf x=some .local/\m x=some u)∨((env.kindOf x=some .cell∨env.kindOf x=some .free)/\∃c,env.cells.lookup x=some c/\h.IsCell c (some u))
structure Cx.Ok (X:Cx):Prop where
 mod:Mod X.K X.mg X.base
 kind:X.env.scope.kind=.function
 glob:X.env.globals=mainGlobals
 blt:X.env.builtins=builtinsNs
 above:X.s₀.heap.objs.size<=X.env.locals
 inj:∀x y c,X.env.cells.lookup x=some c->X.env.cells.lookup y=some c->x=y
 has:∀x,(X.env.kindOf x=some .cell∨X.env.kindOf x=some .free)->∃c,X.env.cells.lookup x=some c
 cab:∀x c,X.fn x=true->X.env.cells.lookup x=some c->X.s₀.heap.objs.size<=c
 hd:X.calm=true->X.A.handled=none
 frames:X.A.frames=some X.stack
 stk:X.stack=X.outer∨(X.stack=X.env::X.outer/\X.env.frame=some X.env.locals)
 exf:∀b∈X.ex,b≠X.env.locals/\∀x c,X.env.cells.lookup x=some c->c≠b
 bs:∀b o,X.base.get? b=some o->X.s₀.heap.get? b=some o/\X.H₀ b=none
 bsz:X.base.objs.size<=X.s₀.heap.objs.size
 noex:∀b o,X.base.get? b=some o->b∉X.ex
 exfs:∀b∈X.ex,b∉X.fs
 funs:X.s₀.heap.FunFrames X.base X.outer
 frf:∀b∈X.fs,X.H₀ b=none
structure Inv (X:Cx) (zv:List (Addr×Obj)) (σ:List (Option V)) (H:Hp) (s:Shared):Prop where
 ok:X.Ok
 os:s.os=X.s₀.os
 bare:AllBare s.gens
 base:Un X.fs X.ex X.H₀ H X.s₀.heap s.heap
 loc:∃m,s.heap.Ns X.env.locals m/\∀(i:Nat) (x:Str) (v:V),X.N[i]? = some x->σ[i]? = some (some v)->Vis X.env.scope x->∃u,RelV v u/\Look X.env s.heap m x u
 cell:∀x c,X.env.cells.lookup x=some c->∃v,s.heap.IsCell c v
 free:H X.env.locals=none
 freeC:∀x c,X.env.cells.lookup x=some c->H c=none
 pin:∀p∈X.pn++zv,s.heap.get? p.1=some p.2/\H p.1=none/\p.1≠X.env.locals/\p.1∉X.fs/\∀v,p.2.data≠.cell v
 hok:HOk X.prog X.w H s.heap
 len:σ.length=X.N.length
section
variable{X:Cx}{zv:List (Addr×Obj)}{σ:List (Option V)}{H H':Hp}{s:Shared}{h':Heap}
theorem Cx.Ok.nofr(ok:X.Ok){b:Addr}{o:Obj}(e:X.base.get? b=some o):b∉X.fs:=fun hb=>by
 have:=(ok.funs.mem hb).1;rw[e] at this;cases this
theorem Inv.bs(I:Inv X zv σ H s):∀b o,X.base.get? b=some o->s.heap.get? b=some o/\H b=none:=fun b o e =>
 ⟨I.base.keep b o (I.ok.bs b o e).1 (I.ok.bs b o e).2 (I.ok.nofr e) (I.ok.noex b o e),I.base.free b o (I.ok.bs b o e).1 (I.ok.bs b o e).2 (I.ok.noex b o e)⟩
theorem Inv.bk(I:Inv X zv σ H s):∀b o,X.base.get? b=some o->s.heap.get? b=some o:=fun b o e=>(I.bs b o e).1
theorem Inv.mod(I:Inv X zv σ H s):Mod X.K X.mg X.base:=I.ok.mod
theorem Inv.kIn(I:Inv X zv σ H s):X.K.In s.heap:=I.ok.mod.kin.keeps I.bk
theorem Inv.lt(I:Inv X zv σ H s):X.env.locals < s.heap.objs.size:=let ⟨_,hn,_⟩:=I.loc;hn.lt
theorem Inv.sz(I:Inv X zv σ H s):X.s₀.heap.objs.size<=s.heap.objs.size:=Nat.le_trans I.ok.above (Nat.le_of_lt I.lt)
theorem Inv.nofs(I:Inv X zv σ H s){a:Addr}(h:s.heap.objs.size<=a):a∉X.fs:=fun hb=>by
 obtain⟨_,o,ho,_⟩:=I.ok.funs.mem hb;exact absurd (Nat.lt_of_lt_of_le (Heap.lt_size ho) (Nat.le_trans I.sz h)) (Nat.lt_irrefl _)
theorem Inv.cne(I:Inv X zv σ H s):∀x c,X.env.cells.lookup x=some c->c≠X.env.locals:=fun x c e z=>by
 obtain⟨v,o,ho,hd⟩:=I.cell x c e;obtain⟨m,⟨o',es,ep,ho',hd',_⟩,_⟩:=I.loc;rw[z,ho'] at ho;cases ho;rw[hd'] at hd;cases hd
theorem Inv.funs(I:Inv X zv σ H s):s.heap.FunFrames X.base X.outer:=by
 have all:∀(l:List Env),(∀b∈frs l,b∈X.fs)->X.s₀.heap.FunFrames X.base l->s.heap.FunFrames X.base l:=by
  intro l
  induction l with
  | nil=>intro _ _;trivial
  | cons env r ih =>
   intro hs hl;obtain⟨hk,⟨L,o,hf,hn,ho,hd⟩,hr⟩:=hl;have hL:L∈X.fs:=hs L (by unfold frs;rw[List.filterMap_cons,hf];exact List.mem_cons_self)
   obtain⟨sl,e⟩:=I.base.slot L o ho (I.ok.frf L hL) hL fun z=>I.ok.exfs L z hL
   exact⟨hk,⟨L,_,hf,hn,e,hd⟩,ih (fun b hb=>hs b (by unfold frs;rw[List.filterMap_cons,hf];exact List.mem_cons_of_mem _ hb)) hr⟩
 exact all X.outer (fun _ hb=>hb) I.ok.funs
theorem Inv.stack(I:Inv X zv σ H s):s.heap.FunFrames X.base X.stack:=by
 rcases I.ok.stk with e | ⟨e,hf⟩
 ·rw[e];exact I.funs
 ·rw[e];obtain⟨m,hn,_⟩:=I.loc;refine .cons (by rw[I.ok.kind];decide) hf hn ?_ I.funs
  exact Heap.get?_none_of_le (Nat.le_trans I.ok.bsz I.ok.above)
theorem Inv.stkSub(I:Inv X zv σ H s):∀b∈frs X.stack,b∈X.env.locals::X.fs:=fun b hb=>by
 rcases I.ok.stk with e | ⟨e,hf⟩
 ·rw[e] at hb;exact List.mem_cons_of_mem _ hb
 ·rw[e] at hb;unfold frs at hb;rw[List.filterMap_cons,hf] at hb;exact hb
theorem Inv.stkFree(I:Inv X zv σ H s):∀b∈frs X.stack,H b=none:=fun b hb=>by
 rcases List.mem_cons.mp (I.stkSub b hb) with e | hb
 ·rw[e];exact I.free
 ·obtain⟨_,o,ho,_⟩:=I.ok.funs.mem hb;exact I.base.free b o ho (I.ok.frf b hb) fun z=>I.ok.exfs b z hb
theorem Inv.step{g':Array GenState}{t':Nat}{d':Drawn}{ch:List Addr}(I:Inv X zv σ H s)
  (hch:∀b∈ch,(b∈X.ex∨X.s₀.heap.objs.size<=b)/\b≠X.env.locals/\(∀x c,X.env.cells.lookup x=some c->c≠b)/\∀p∈X.pn++zv,p.1≠b)
  (keep:∀b o,b≠X.env.locals->b∉X.fs->b∉ch->s.heap.get? b=some o->H b=none->h'.get? b=some o)
  (slot:∀b o,b≠X.env.locals->b∈X.fs->b∉ch->s.heap.get? b=some o->H b=none->∃sl,h'.get? b=some { o with slots:=sl }) (free:∀b o,b∉ch->s.heap.get? b=some o->H b=none->H' b=none)
  (there:∀b o,b∉ch->s.heap.get? b=some o->∃o',h'.get? b=some o')
  (tups:∀b xs,H b=some (.tup xs)->H' b=some (.tup xs)) (frzs:∀b o u,H b=some (.frz o u)->H' b=some (.frz o u)) (tbls:∀b ps,H b=some (.tbl ps)->∃more,H' b=some (.tbl (ps++more)))
  (ns:∀m,s.heap.Ns X.env.locals m->h'.Ns X.env.locals m) (hok:HOk X.prog X.w H' h') (hg:AllBare g') :
  Inv X zv σ H' { s with heap:=h',gens:=g',drawn:=d',toks:=t' }:=by
 have neL:∀b o,X.s₀.heap.get? b=some o->b≠X.env.locals:=fun b o e=>Nat.ne_of_lt (Nat.lt_of_lt_of_le (Heap.lt_size e) I.ok.above)
 have neC:∀b o,X.s₀.heap.get? b=some o->b∉X.ex->b∉ch:=fun b o e hx hb=>by
  rcases(hch b hb).1 with z | z
  ·exact hx z
  ·exact absurd (Nat.lt_of_lt_of_le (Heap.lt_size e) z) (Nat.lt_irrefl _)
 have cellK:∀x c,X.env.cells.lookup x=some c->∀v,s.heap.IsCell c v->h'.IsCell c v:=fun x c e v hq0=>by
  obtain⟨o,ho,hd⟩:=hq0;have nch:c∉ch:=fun z=>(hch c z).2.2.1 x c e rfl
  by_cases hc:c∈X.fs
  ·obtain⟨sl,q⟩:=slot c o (I.cne x c e) hc nch ho (I.freeC x c e);exact⟨_,q,hd⟩
  ·exact⟨o,keep c o (I.cne x c e) hc nch ho (I.freeC x c e),hd⟩
 refine⟨I.ok,I.os,hg,⟨fun b o e n hb hx =>?_,fun b o e n hb hx =>?_,fun b o e n hx =>?_,fun b o e hx =>?_,fun b xs e=>tups b xs (I.base.tups b xs e),fun b o xs e=>frzs b o xs (I.base.frzs b o xs e),fun b ps e =>?_⟩,?_,fun x c e =>?_,?_,fun x c e =>?_,fun p hp =>?_,hok,I.len⟩
 ·exact keep b o (neL b o e) hb (neC b o e hx) (I.base.keep b o e n hb hx) (I.base.free b o e n hx)
 ·obtain⟨sl,e1⟩:=I.base.slot b o e n hb hx;obtain⟨sl',e2⟩:=slot b _ (neL b o e) hb (neC b o e hx) e1 (I.base.free b o e n hx);exact⟨sl',e2⟩
 ·obtain⟨o',e1⟩:=I.base.there b o e hx;exact free b o' (neC b o e hx) e1 (I.base.free b o e n hx)
 ·obtain⟨o',e1⟩:=I.base.there b o e hx;exact there b o' (neC b o e hx) e1
 ·obtain⟨m1,e1⟩:=I.base.tbls b ps e;obtain⟨m2,e2⟩:=tbls b _ e1;exact⟨m1++m2,by rw[e2,Array.append_assoc]⟩
 ·obtain⟨m,hn,hl⟩:=I.loc;refine⟨m,ns m hn,fun i x v e1 e2 e3 =>?_⟩
  obtain⟨u,r,l⟩:=hl i x v e1 e2 e3;refine⟨u,r,?_⟩;rcases l with l | ⟨k,c,e,z⟩
  ·exact .inl l
  ·exact .inr ⟨k,c,e,cellK x c e _ z⟩
 ·obtain⟨v,z⟩:=I.cell x c e;exact⟨v,cellK x c e v z⟩
 ·obtain⟨m,⟨o,_,_,ho,_⟩,_⟩:=I.loc;exact free _ o (fun z=>(hch _ z).2.1 rfl) ho I.free
 ·obtain⟨v,o,ho,hd⟩:=I.cell x c e;exact free c o (fun z=>(hch c z).2.2.1 x c e rfl) ho (I.freeC x c e)
 ·obtain⟨e,n,ne,nf,d⟩:=I.pin p hp;have nch:p.1∉ch:=fun z=>(hch p.1 z).2.2.2 p hp rfl
  exact⟨keep p.1 p.2 ne nf nch e n,free p.1 p.2 nch e n,ne,nf,d⟩
theorem Inv.un{t':Nat}(I:Inv X zv σ H s)(u:Un X.fs [] H H' s.heap h')(hok:HOk X.prog X.w H' h'):Inv X zv σ H' { s with heap:=h',toks:=t' }:=by
 obtain⟨m,⟨o,es,ep,ho,r⟩,_⟩:=id I.loc;obtain⟨sl,hL⟩:=u.any ho I.free (by simp)
 exact I.step (g':=s.gens) (d':=s.drawn) (ch:=[]) (fun _ z=>nomatch z) (fun b o _ hb _ e n=>u.keep b o e n hb (by simp)) (fun b o _ hb _ e n=>u.slot b o e n hb (by simp)) (fun b o _ e n=>u.free b o e n (by simp)) (fun b o _ e=>u.there b o e (by simp)) u.tups u.frzs u.tbls (fun m' hm=>by
  obtain⟨o',es',ep',ho',r'⟩:=hm;rw[ho] at ho';cases ho';exact⟨_,es',ep',hL,r'⟩) hok I.bare
theorem Inv.call{g':Array GenState}{t':Nat}{d':Drawn}{ch:List Addr}(I:Inv X zv σ H s)(u:Un (frs X.stack) ch H H' s.heap h')(hok:HOk X.prog X.w H' h')(hg:AllBare g')
  (hch:∀b∈ch,(b∈X.ex∨X.s₀.heap.objs.size<=b)/\b≠X.env.locals/\(∀x c,X.env.cells.lookup x=some c->c≠b)/\∀p∈X.pn++zv,p.1≠b) :
  Inv X zv σ H' { s with heap:=h',gens:=g',drawn:=d',toks:=t' }:=by
 obtain⟨m,⟨o,es,ep,ho,r⟩,_⟩:=id I.loc;obtain⟨sl,hL⟩:=u.any ho I.free fun z=>(hch _ z).2.1 rfl
 exact I.step (ch:=ch) hch (fun b o hL hb hc e n=>u.keep b o e n (fun z=>(List.mem_cons.mp (I.stkSub b z)).elim hL hb) hc) (fun b o _ _ hc e n=>u.any e n hc) (fun b o hc e n=>u.free b o e n hc) (fun b o hc e=>u.there b o e hc) u.tups u.frzs u.tbls (fun m' hm=>by
  obtain⟨o',es',ep',ho',r'⟩:=hm;rw[ho] at ho';cases ho';exact⟨_,es',ep',hL,r'⟩) hok hg
theorem Inv.turned{t':Nat}{it:Addr}(I:Inv X zv σ H s)(k:∀b o,b≠it->s.heap.get? b=some o->h'.get? b=some o)(hn:H it=none)(hL:it≠X.env.locals)
  (h1:it∈X.ex∨X.s₀.heap.objs.size<=it) (h2:∀x c,X.env.cells.lookup x=some c->c≠it) (h3:∀p∈X.pn++zv,p.1≠it):Inv X zv σ H { s with heap:=h',toks:=t' }:=by
 have nit:∀b u,H b=some u->b≠it:=fun b u e z=>by rw[z,hn] at e;cases e
 refine I.step (g':=s.gens) (d':=s.drawn) (ch:=[it]) (fun b hb =>?_) (fun b o _ _ hc e _=>k b o (fun z=>hc (by simp[z])) e) (fun b o _ _ hc e _=>⟨o.slots,k b o (fun z=>hc (by simp[z])) e⟩) (fun _ _ _ _ n=>n)
  (fun b o hc e=>⟨o,k b o (fun z=>hc (by simp[z])) e⟩) (fun _ _ e=>e) (fun _ _ _ e=>e) (fun b ps e=>⟨#[],by rw[e];simp⟩) (fun m hm =>?_) (fun b u e =>?_) I.bare
 ·have e:b=it:=by simpa using hb
  subst e;exact⟨h1,hL,h2,h3⟩
 ·obtain⟨o,es,ep,ho,r⟩:=hm;exact⟨o,es,ep,k _ o (Ne.symm hL) ho,r⟩
 ·refine(I.hok b u e).stay (fun c v hc q=>k c v ?_ q) (fun _ q=>q) fun _ _ q=>q
  rcases hc with z | z
  ·rw[z];exact nit b u e
  ·exact nit c _ z
theorem Inv.tok(I:Inv X zv σ H s)(t:Nat):Inv X zv σ H { s with toks:=t }:=I.un (h':=s.heap) (t':=t) Un.refl I.hok
theorem Inv.kept{t':Nat}(I:Inv X zv σ H s)(k:∀b u,s.heap.get? b=some u->h'.get? b=some u):Inv X zv σ H { s with heap:=h',toks:=t' }:=I.un (Un.kept k) (I.hok.kept k)
theorem Inv.laid{a:Addr}{o:HO}{t':Nat}(I:Inv X zv σ H s)(k:∀b u,s.heap.get? b=some u->h'.get? b=some u)(hp:s.heap.objs.size<=a)(new:lq X.prog X.w (upd H a o) h' a o) :
  Inv X zv σ (upd H a o) { s with heap:=h',toks:=t' }:=I.un (Un.laid k hp (I.hok.fresh hp)) (I.hok.laid k hp new)
theorem Inv.write{x e:Addr}{o:HO}{t':Nat}(I:Inv X zv σ H s)(mu:Mut (H x))(he:e=x∨H e=some (.own x))(k:∀b u,b≠e->s.heap.get? b=some u->h'.get? b=some u)(heo:∃u,h'.get? e=some u)
  (new:lq X.prog X.w (upd H x o) h' x o):Inv X zv σ (upd H x o) { s with heap:=h',toks:=t' }:=I.un (Un.write mu he k heo) (I.hok.write mu he k heo new)
theorem Inv.pins_of{pins':List (Addr×Obj)}(I:Inv X zv σ H s)(h:∀p∈pins',s.heap.get? p.1=some p.2/\H p.1=none/\p.1≠X.env.locals/\p.1∉X.fs/\∀v,p.2.data≠.cell v):Inv X pins' σ H s :=
 ⟨I.ok,I.os,I.bare,I.base,I.loc,I.cell,I.free,I.freeC,fun p hp=>(List.mem_append.mp hp).elim (fun z=>I.pin p (List.mem_append_left _ z)) (h p),I.hok,I.len⟩
theorem acx{N:List Str}(hN:N.Nodup){i j:Nat}{x:Str}(a:N[i]? = some x)(b:N[j]? = some x):i=j:=by
 obtain⟨h1,e1⟩:=List.getElem?_eq_some_iff.mp a;obtain⟨h2,e2⟩:=List.getElem?_eq_some_iff.mp b;exact(List.getElem_inj hN).mp (e1.trans e2.symm)
theorem ag9{M:Model}{A:Around}{E:Value->Shared->Prop}{i:Nat}{x:Str}{v:V}{u:Value}{Q:Unit->Shared->Prop}(I:Inv X zv σ H s)(hN:X.N.Nodup)(hi:X.N[i]? = some x)(hx:Loc X.env.scope x)(r:RelV v u)
  (h:∀s',Inv X zv (σ.set i (some v)) H s'->(∃a,Heap.SameBut a s.heap s'.heap/\(a=X.env.locals∨X.env.cells.lookup x=some a))->Q () s') (hf:X.fn x=true∨X.env.scope.names.lookup x=some .local:=by first | exact .inl rfl | exact .inr rfl | assumption):wpAny M A (storeName X.env x u) Q E s:=by
 obtain⟨m,hn,hl⟩:=id I.loc;have hcls:(X.env.scope.kind==.class||(X.env.scope.kind==.module&&X.env.locals != X.env.globals))=false:=by rw[I.ok.kind];rfl
 have hiσ:i < σ.length:=by rw[I.len];exact(List.getElem?_eq_some_iff.mp hi).1
 have cne:=I.cne;have tracked:∀{a:Addr} {h':Heap},(∃o,s.heap.get? a=some o/\H a=none)->Heap.SameBut a s.heap h'->HOk X.prog X.w H h':=fun{a h'} ha hs b ob e=>by
  obtain⟨_,_,hfree⟩:=ha;refine(I.hok b ob e).stay (fun c w' hc q=>(hs.2 c ?_).trans q) (fun _ q=>q) fun _ _ q=>q
  rintro rfl
  rcases hc with rfl | hc
  ·rw[hfree] at e;cases e
  ·rw[hfree] at hc;cases hc
 rcases hx with hk | hk
 ·refine wpAny_storeName_local hk hn (fun h' hn' hs =>?_) hcls
  obtain⟨oL,_,_,hoL,_⟩:=id hn;refine h _ ⟨I.ok,I.os,I.bare,⟨fun b o e n hb hx =>?_,fun b o e n hb hx =>?_,I.base.free,fun b o e hx =>?_,I.base.tups,I.base.frzs,I.base.tbls⟩,⟨_,hn',fun j y v' e1 e2 e3 =>?_⟩,fun y c e =>?_,I.free,I.freeC,fun p hp =>?_,tracked ⟨oL,hoL,I.free⟩ hs,by simpa using I.len⟩ ⟨_,hs,.inl rfl⟩
  ·exact(hs.2 b (Nat.ne_of_lt (Nat.lt_of_lt_of_le (Heap.lt_size e) I.ok.above))).trans (I.base.keep b o e n hb hx)
  ·obtain⟨sl,e1⟩:=I.base.slot b o e n hb hx;exact⟨sl,(hs.2 b (Nat.ne_of_lt (Nat.lt_of_lt_of_le (Heap.lt_size e) I.ok.above))).trans e1⟩
  ·obtain⟨o',e1⟩:=I.base.there b o e hx;exact⟨o',(hs.2 b (Nat.ne_of_lt (Nat.lt_of_lt_of_le (Heap.lt_size e) I.ok.above))).trans e1⟩
  ·by_cases hj:j=i
   ·subst hj;rw[hi] at e1;cases e1;rw[List.getElem?_set_self hiσ] at e2;cases e2;exact⟨u,r,.inl ⟨hk,by simp⟩⟩
   ·rw[List.getElem?_set_ne (Ne.symm hj)] at e2;obtain⟨u',r',q⟩:=hl j y v' e1 e2 e3;refine⟨u',r',?_⟩;rcases q with⟨k,e⟩ | ⟨k,c,e,z⟩
    ·refine .inl ⟨k,?_⟩;have:y≠x:=fun e=>hj (acx hN e1 (e▸hi))
     simp[this,e]
    ·exact .inr ⟨k,c,e,z.sameBut hs (cne y c e)⟩
  ·obtain⟨w',z⟩:=I.cell y c e;exact⟨w',z.sameBut hs (cne y c e)⟩
  ·obtain⟨e,n,ne,nf,d⟩:=I.pin p hp;exact⟨(hs.2 p.1 ne).trans e,n,ne,nf,d⟩
 ·have hfn:X.fn x=true:=by
   rcases hf with z | z
   ·exact z
   ·rw[z] at hk;cases hk
  obtain⟨c,hc⟩:=I.ok.has x (.inl hk);obtain⟨w',z⟩:=I.cell x c hc;refine wpAny_storeName_cell I.ok.kind hk hc z (fun h' hc' hs =>?_)
  obtain⟨oc,hoc,hocd⟩:=id z;refine h { s with heap:=h' } ⟨I.ok,I.os,I.bare,⟨fun b o e n hb hx =>?_,fun b o e n hb hx =>?_,I.base.free,fun b o e hx =>?_,I.base.tups,I.base.frzs,I.base.tbls⟩,⟨m,hn.sameBut hs (Ne.symm (cne x c hc)),fun j y v' e1 e2 e3 =>?_⟩,fun y c' e =>?_,I.free,I.freeC,fun p hp =>?_,tracked ⟨oc,hoc,I.freeC x c hc⟩ hs,by simpa using I.len⟩ ⟨c,hs,.inr hc⟩
  ·exact(hs.2 b (Nat.ne_of_lt (Nat.lt_of_lt_of_le (Heap.lt_size e) (I.ok.cab x c hfn hc)))).trans (I.base.keep b o e n hb hx)
  ·obtain⟨sl,e1⟩:=I.base.slot b o e n hb hx;exact⟨sl,(hs.2 b (Nat.ne_of_lt (Nat.lt_of_lt_of_le (Heap.lt_size e) (I.ok.cab x c hfn hc)))).trans e1⟩
  ·obtain⟨o',e1⟩:=I.base.there b o e hx;exact⟨o',(hs.2 b (Nat.ne_of_lt (Nat.lt_of_lt_of_le (Heap.lt_size e) (I.ok.cab x c hfn hc)))).trans e1⟩
  ·by_cases hj:j=i
   ·subst hj;rw[hi] at e1;cases e1;rw[List.getElem?_set_self hiσ] at e2;cases e2;exact⟨u,r,.inr ⟨.inl hk,c,hc,hc'⟩⟩
   ·rw[List.getElem?_set_ne (Ne.symm hj)] at e2;obtain⟨u',r',q⟩:=hl j y v' e1 e2 e3;refine⟨u',r',?_⟩;rcases q with q | ⟨k,c',e,z'⟩
    ·exact .inl q
    ·refine .inr ⟨k,c',e,z'.sameBut hs ?_⟩
     rintro rfl
     exact hj (acx hN e1 (I.ok.inj _ _ _ e hc▸hi))
  ·by_cases hcc:c'=c
   ·subst hcc;exact⟨_,hc'⟩
   ·obtain⟨w2,z2⟩:=I.cell y c' e;exact⟨w2,z2.sameBut hs hcc⟩
  ·obtain⟨e,n,ne,nf,d⟩:=I.pin p hp;refine⟨(hs.2 p.1 ?_).trans e,n,ne,nf,d⟩;intro q;rw[q,hoc] at e;have q':oc=p.2:=Option.some.inj e;exact d w' (by rw[<-q'];exact hocd)
theorem aal{M:Model}{A:Around}{E:Value->Shared->Prop}{i:Nat}{x:Str}{v:V}{u:Value}{Q:Unit->Shared->Prop}(I:Inv X zv σ H s)(hN:X.N.Nodup)(hi:X.N[i]? = some x)(hx:Loc X.env.scope x)(r:RelV v u)
  (h:∀s',Inv X zv (σ.set i (some v)) H s'->Q () s') (hf:X.fn x=true∨X.env.scope.names.lookup x=some .local:=by first | exact .inl rfl | exact .inr rfl | assumption):wpAny M A (storeName X.env x u) Q E s :=
 ag9 I hN hi hx r (fun s' I' _=>h s' I') hf
theorem Inv.call'{s':Shared}{ch:List Addr}(I:Inv X zv σ H s)(ho:s'.os=s.os)(u:Un (frs X.stack) ch H H' s.heap s'.heap)(hok:HOk X.prog X.w H' s'.heap)(hg:AllBare s'.gens)
  (hch:∀b∈ch,(b∈X.ex∨X.s₀.heap.objs.size<=b)/\b≠X.env.locals/\(∀x c,X.env.cells.lookup x=some c->c≠b)/\∀p∈X.pn++zv,p.1≠b):Inv X zv σ H' s':=by
 obtain⟨h',g',d',t',o'⟩:=s';have e:o'=s.os:=ho;subst e;exact I.call (g':=g') (t':=t') (d':=d') u hok hg hch
end
abbrev XK:=Value->Option Addr->Hp->Prop
abbrev St:=List (Option V)
abbrev VK:=V->Hp->Prop
abbrev TE:=St->Hp->VK->Prop
abbrev TT:=St->Hp->(Bool->Hp->Prop)->Prop
abbrev TA:=St->Hp->(List V->Hp->Prop)->Prop
structure Ends where
 nx:St->Hp->Prop
 rt:VK
 bk:St->Hp->Prop:=fun _ _=>False
 ct:St->Hp->Prop:=fun _ _=>False
abbrev TS:=Ends->St->Hp->Prop
def EP(X:Cx)(zv:List (Addr×Obj))(σ:St)(Q:VK)(u:Value)(s':Shared):Prop:=∃v H',Inv X zv σ H' s'/\RelV v u/\Q v H'
def TP(X:Cx)(zv:List (Addr×Obj))(σ:St)(Q:Bool->Hp->Prop)(b:Bool)(s':Shared):Prop:=∃H',Inv X zv σ H' s'/\Q b H'
def AP(X:Cx)(zv:List (Addr×Obj))(σ:St)(Q:List V->Hp->Prop)(us:List Value)(s':Shared):Prop:=∃vs H',Inv X zv σ H' s'/\Vals vs us/\Q vs H'
def SP(X:Cx)(zv:List (Addr×Obj))(D:Ends)(f:Flow)(s':Shared):Prop :=
 match f with
 | .next=>∃σ' H',Inv X zv σ' H' s'/\D.nx σ' H'
 | .brk=>∃σ' H',Inv X zv σ' H' s'/\D.bk σ' H'
 | .cont=>∃σ' H',Inv X zv σ' H' s'/\D.ct σ' H'
 | .ret u=>∃v σ' H',Inv X zv σ' H' s'/\RelV v u/\D.rt v H'
def PE(X:Cx)(e:Expr)(t:TE):Prop :=
 ∀(zv:List (Addr×Obj)) (s:Shared) (σ:St) (H:Hp) (Q:VK),Inv X zv σ H s->t σ H Q->wpAny (model X.prog X.w) X.A (eval e X.env) (EP X zv σ Q) X.xe s
def PT(X:Cx)(e:Expr)(t:TT):Prop :=
 ∀(zv:List (Addr×Obj)) (s:Shared) (σ:St) (H:Hp) (Q:Bool->Hp->Prop),Inv X zv σ H s->t σ H Q->wpAny (model X.prog X.w) X.A (isTrue e X.env (eval e X.env)) (TP X zv σ Q) X.xe s
def PW(X:Cx)(e:Expr)(t:TT):Prop :=
 ∀(whole:Sem Value) (zv:List (Addr×Obj)) (s:Shared) (σ:St) (H:Hp) (Q:Bool->Hp->Prop),Inv X zv σ H s->t σ H Q->wpAny (model X.prog X.w) X.A (isTrue e X.env whole) (TP X zv σ Q) X.xe s
theorem PW.pt{X:Cx}{e:Expr}{t:TT}(h:PW X e t):PT X e t:=h _
def PA(X:Cx)(es:List Expr)(t:TA):Prop :=
 ∀(pos:Pos) (zv:List (Addr×Obj)) (s:Shared) (σ:St) (H:Hp) (Q:List V->Hp->Prop),Inv X zv σ H s->t σ H Q->wpAny (model X.prog X.w) X.A (spliced (backTo pos (starEach es X.env))) (AP X zv σ Q) X.xe s
def PS(X:Cx)(st:Stmt)(t:TS):Prop :=
 ∀(zv:List (Addr×Obj)) (s:Shared) (σ:St) (H:Hp) (D:Ends),Inv X zv σ H s->t D σ H->wpAny (model X.prog X.w) X.A (exec st X.env) (SP X zv D) X.xe s
def PSs(X:Cx)(st:List Stmt)(t:TS):Prop :=
 ∀(zv:List (Addr×Obj)) (s:Shared) (σ:St) (H:Hp) (D:Ends),Inv X zv σ H s->t D σ H->wpAny (model X.prog X.w) X.A (execs st X.env) (SP X zv D) X.xe s
theorem thn{α:Type}{t:Sem α}{Q Q':α->Shared->Prop}{M:Model}{A:Around}{E:Value->Shared->Prop}{s:Shared}(h:wpAny M A t Q E s)(hQ:∀a s,Q a s->Q' a s):wpAny M A t Q' E s:=wpAny_mono h hQ fun _ _ x=>x
section
variable{X:Cx}
def tVar(i:Nat):TE:=fun σ H Q=>∃v,σ[i]? = some (some v)/\Q v H
def tC(v:V):TE:=fun _ H Q=>Q v H
theorem aoq{i:Nat}{x:Str}{pos:Pos}(hN:X.N[i]? = some x)(hv:Vis X.env.scope x)(hd:(x==("__debug__" : Str))=false:=by decide)(hcd:(x==("__classdict__" : Str))=false:=by decide):PE X (.Name x pos) (tVar i):=by
 intro zv s σ H Q I h;obtain⟨v,e,h⟩:=h;obtain⟨m,hn,hl⟩:=I.loc;obtain⟨u,r,l⟩:=hl i x v hN e hv;have fin:EP X zv σ Q u s:=⟨v,H,I,r,h⟩;rcases l with⟨hk,hm⟩ | ⟨hk,c,hc,hcell⟩
 ·exact wpAny_Name (wpAny_loadName_local I.ok.kind hk hn hm fin) hd
 ·rcases hk with hk | hk
  ·exact wpAny_Name (wpAny_loadName_cell I.ok.kind hk hc hcell fin) hd
  ·exact wpAny_Name (wpAny_loadName_free I.ok.kind hk hc hcell fin hcd) hd
theorem aoz{i j pos}:PE X (.Constant (.int i) j pos) (tC (.int i)):=fun _ _ _ H _ I h=>wpAny_Constant_int ⟨.int i,H,I.tok _,⟨_,rfl⟩,h⟩
theorem asi{b j pos}:PE X (.Constant (.bool b) j pos) (tC (.bl b)):=fun _ _ _ H _ I h=>Constant_bool ⟨.bl b,H,I,rfl,h⟩
theorem aow{j pos}:PE X (.Constant .none j pos) (tC .non):=fun _ _ _ H _ I h=>Constant_none ⟨.non,H,I,rfl,h⟩
theorem aos{x j pos}:PE X (.Constant (.str x) j pos) (tC (.str x)):=fun _ _ _ H _ I h=>Calls.Constant_str ⟨.str x,H,I.tok _,⟨_,rfl⟩,h⟩
def Gl(X:Cx)(x:Str):Prop:=X.env.kindOf x=some .globalImplicit
theorem zr{E:Value->Shared->Prop}{zv:List (Addr×Obj)}{s:Shared}{σ:St}{H:Hp}{x:Str}{u:Value}{pos:Pos}{Q:Value->Shared->Prop}(I:Inv X zv σ H s)(hg:Gl X x)(hm:X.mg x=some u)(h:Q u s)
  (hd:(x==("__debug__" : Str))=false:=by decide):wpAny (model X.prog X.w) X.A (eval (.Name x pos) X.env) Q E s :=
 Calls.Name_function_global I.ok.kind hg (Calls.loadGlobal_global (by rw[I.ok.glob];exact I.mod.glob.keeps I.bk) hm h) hd
theorem ab6{E:Value->Shared->Prop}{zv:List (Addr×Obj)}{s:Shared}{σ:St}{H:Hp}{x:Str}{u:Value}{pos:Pos}{Q:Value->Shared->Prop}(I:Inv X zv σ H s)(hg:Gl X x)(hm:X.mg x=none)(hv:bootBuiltins x=some u)(h:Q u s)
  (hn:x ≠ "__name__" := by decide) (hd:(x==("__debug__" : Str))=false:=by decide):wpAny (model X.prog X.w) X.A (eval (.Name x pos) X.env) Q E s:=by
 obtain⟨mb,h1,h2⟩:=I.mod.blt;exact Calls.Name_function_global I.ok.kind hg (Calls.loadGlobal_builtin (by rw[I.ok.glob];exact I.mod.glob.keeps I.bk) hm (by rw[I.ok.blt];exact h1.keeps I.bk) ((h2 x hn).trans hv) h) hd
theorem acl{x:Str}{v:V}{u:Value}{pos:Pos}(hg:Gl X x)(hm:X.mg x=some u)(r:RelV v u)(hd:(x==("__debug__" : Str))=false:=by decide):PE X (.Name x pos) (tC v) :=
 fun _ _ _ H _ I h=>zr I hg hm ⟨v,H,I,r,h⟩ hd
theorem ama{x:Str}{v:V}{u:Value}{pos:Pos}(hg:Gl X x)(hm:X.mg x=none)(hv:bootBuiltins x=some u)(r:RelV v u)(hn:x ≠ "__name__" := by decide)(hd:(x==("__debug__" : Str))=false:=by decide):PE X (.Name x pos) (tC v) :=
 fun _ _ _ H _ I h=>ab6 I hg hm hv ⟨v,H,I,r,h⟩ hn hd
variable{a b:Expr}{ta tb:TE}{pos:Pos}
def tB(t:TE):TT:=fun σ H Q=>t σ H fun x H1=>∃c,x=.bl c/\Q c H1
theorem aoj{e:Expr}{t:TE}(h:PE X e t)(he:∀whole,isTrue e X.env whole=(do let v <-whole;standAt e.pos;holding [v] (truthy v)):=by intro _;rfl):PT X e (tB t):=by
 intro zv s σ H Q I hw;refine isTrue_plain (thn (h zv s σ H _ I hw) fun v s1 ⟨x,H1,I1,r1,q1⟩ =>?_) (he _)
 obtain⟨d,rfl,q⟩:=q1;cases r1;exact wpAny_truthy_bool ⟨H1,I1,q⟩
variable{tA tB':TT}{rest:List Expr}
def tOr(t u:TT):TT:=fun σ H Q=>t σ H fun c H1=>if c=true then Q true H1 else u σ H1 Q
def tNot(t:TT):TT:=fun σ H Q=>t σ H fun c H1=>Q (!c) H1
theorem aoi(ha:PT X a tA):PW X (.BoolOp .Or [a] pos) tA:=by
 intro wh zv s σ H Q I h;refine isTrue_or (thn (ha zv s σ H Q I h) fun c s1 e =>?_)
 cases c with
 | false=>exact isTrue_or_nil e
 | true=>exact e
theorem ar9(ha:PT X a tA)(hb:PW X (.BoolOp .Or (b::rest) pos) tB'):PW X (.BoolOp .Or (a::b::rest) pos) (tOr tA tB'):=by
 intro wh zv s σ H Q I h;refine isTrue_or (thn (ha zv s σ H _ I h) fun c s1 ⟨H1,I1,q1⟩ =>?_)
 cases c with
 | true=>exact⟨H1,I1,q1⟩
 | false=>exact hb wh zv s1 σ H1 Q I1 q1
theorem aok(ha:PT X a tA):PT X (.UnaryOp .Not a pos) (tNot tA):=by
 intro zv s σ H Q I h;exact isTrue_not (ha zv s σ H (fun c H1=>Q (!c) H1) I h)
def ar5(ta tb:TE):TE:=fun σ H Q=>ta σ H fun x H1=>∃c,x=.bl c/\if c=true then tb σ H1 Q else Q (.bl false) H1
def arz(ta:TE):TE:=fun σ H Q=>ta σ H fun x H1=>∃c,x=.bl c/\Q (.bl (!c)) H1
theorem aou{op}{t:TE}(h:PE X a t):PE X (.BoolOp op [a] pos) t:=fun zv s σ H Q I hw=>BoolOp_one (h zv s σ H Q I hw)
theorem ao1(ha:PE X a ta)(hb:PE X (.BoolOp .And (b::rest) pos) tb):PE X (.BoolOp .And (a::b::rest) pos) (ar5 ta tb):=by
 intro zv s σ H Q I h;refine BoolOp_and (thn (ha zv s σ H _ I h) fun v s1 ⟨x,H1,I1,r1,q1⟩ =>?_)
 obtain⟨c,rfl,q1⟩:=q1;cases r1;refine wpAny_truthy_bool ?_;cases c with
 | true=>exact hb zv s1 σ H1 Q I1 q1
 | false=>exact⟨.bl false,H1,I1,rfl,q1⟩
theorem aov(ha:PE X a ta):PE X (.UnaryOp .Not a pos) (arz ta):=by
 intro zv s σ H Q I h;refine UnaryOp_ (thn (ha zv s σ H _ I h) fun v s1 ⟨x,H1,I1,r1,q1⟩ =>?_)
 obtain⟨c,rfl,q1⟩:=q1;cases r1;exact not_of (wpAny_truthy_bool ⟨.bl (!c),H1,I1,rfl,q1⟩)
end
def SqL(K:Fg9)(H:Hp)(a:Addr)(xs:List V):Prop :=
 Rd H a (.lst xs) ∨
  ∃(o:Obj) (its:Array Value) (n:Nat),K.lookup a=some o/\o.cls=.type "list" /\ o.dict=none/\o.data=.seq its n/\its.size<=sizeLine/\Vals xs its.toList
def SqT(K:Fg9)(H:Hp)(a:Addr)(xs:List V):Prop :=
 Rd H a (.tup xs) ∨
  ∃(o:Obj) (its:Array Value) (n:Nat),K.lookup a=some o/\o.cls=.type "tuple" /\ o.data=.seq its n/\its.size<=sizeLine/\Vals xs its.toList
def absV:Value->Option V
 | .none=>some .non
 | .bool b=>some (.bl b)
 | .int i _=>some (.int i)
 | .str x _=>some (.str x)
 | .bytes b _=>some (.byt b)
 | .float b _=>some (.flt b)
 | .ref a=>some (.ref a)
 | .type n=>some (.ty n)
 | _=>none
theorem RelV.abs{x:V}{u:Value}(r:RelV x u):absV u=some x:=by
 cases x with
 | non=>cases r;rfl
 | bl _=>cases r;rfl
 | int _=>obtain⟨t,rfl⟩:=r;rfl
 | str _=>obtain⟨t,rfl⟩:=r;rfl
 | byt _=>obtain⟨t,rfl⟩:=r;rfl
 | flt _=>obtain⟨t,rfl⟩:=r;rfl
 | ref _=>cases r;rfl
 | ty _=>cases r;rfl
theorem RelV.inj{x y:V}{u:Value}(r:RelV x u)(q:RelV y u):x=y:=Option.some.inj (r.abs.symm.trans q.abs)
theorem Vals.inj:∀{xs ys:List V} {us:List Value},Vals xs us->Vals ys us->xs=ys
 | _,_,_,.nil,.nil=>rfl
 | _,_,_,.cons r t,.cons r' t'=>by rw[r.inj r',Vals.inj t t']
section
variable{X:Cx}{zv:List (Addr×Obj)}{σ:St}{H:Hp}{s:Shared}{a:Addr}{xs ys:List V}
theorem SqL.of{K:Fg9}(h:H a=some (.lst xs)):SqL K H a xs:=.inl (.inl h)
theorem SqT.of{K:Fg9}(h:H a=some (.tup xs)):SqT K H a xs:=.inl (.inl h)
theorem Inv.list(I:Inv X zv σ H s)(h:SqL X.K H a xs):∃its:List Value,Vals xs its/\PlainL s.heap a its.toArray/\xs.length<=sizeLine:=by
 rcases h with h | ⟨o,its,n,hk,hc,hd,hs,hz,r⟩
 ·obtain⟨z,its,n,r,e⟩:=h.ok I.hok;exact⟨its,r,⟨_,n,e,rfl,rfl,rfl⟩,z⟩
 ·refine⟨its.toList,r,⟨o,n,I.kIn a o hk,hc,hd,by simpa using hs⟩,?_⟩
  have e:=r.length;simp only[Array.length_toList] at e;omega
theorem Inv.tuple(I:Inv X zv σ H s)(h:SqT X.K H a xs):∃its:List Value,Vals xs its/\IsTup s.heap a its.toArray/\xs.length<=sizeLine:=by
 rcases h with h | ⟨o,its,n,hk,hc,hs,hz,r⟩
 ·obtain⟨z,its,r,p⟩:=h.ok I.hok;exact⟨its,r,p.tup,z⟩
 ·refine⟨its.toList,r,⟨o,I.kIn a o hk,hc,n,by simpa using hs⟩,?_⟩
  have e:=r.length;simp only[Array.length_toList] at e;omega
theorem Inv.list_inj(I:Inv X zv σ H s)(h:SqL X.K H a xs)(h':SqL X.K H a ys):xs=ys:=by
 obtain⟨its,r,⟨o,n,e,_,_,d⟩,_⟩:=I.list h;obtain⟨its',r',⟨o',n',e',_,_,d'⟩,_⟩:=I.list h';rw[e] at e';cases e';rw[d] at d'
 injection d' with d1 _
 have:its=its':=by simpa using congrArg Array.toList d1
 subst this;exact r.inj r'
theorem Inv.tuple_inj(I:Inv X zv σ H s)(h:SqT X.K H a xs)(h':SqT X.K H a ys):xs=ys:=by
 obtain⟨its,r,⟨o,e,_,n,d⟩,_⟩:=I.tuple h;obtain⟨its',r',⟨o',e',_,n',d'⟩,_⟩:=I.tuple h';rw[e] at e';cases e';rw[d] at d'
 injection d' with d1 _
 have:its=its':=by simpa using congrArg Array.toList d1
 subst this;exact r.inj r'
end
abbrev Cx.wish(X:Cx)(E:Value->Shared->Prop):Cx:={ X with xe:=E }
abbrev Cx.nox(X:Cx):Cx:=X.wish fun _ _=>False
theorem Cx.Ok.wish{X:Cx}(ok:X.Ok)(E:Value->Shared->Prop):(X.wish E).Ok :=
 ⟨ok.mod,ok.kind,ok.glob,ok.blt,ok.above,ok.inj,ok.has,ok.cab,ok.hd,ok.frames,ok.stk,ok.exf,ok.bs,ok.bsz,ok.noex,ok.exfs,ok.funs,ok.frf⟩
theorem Cx.Ok.unwish{X:Cx}{E:Value->Shared->Prop}(ok:(X.wish E).Ok):X.Ok :=
 ⟨ok.mod,ok.kind,ok.glob,ok.blt,ok.above,ok.inj,ok.has,ok.cab,ok.hd,ok.frames,ok.stk,ok.exf,ok.bs,ok.bsz,ok.noex,ok.exfs,ok.funs,ok.frf⟩
section
variable{X:Cx}{zv:List (Addr×Obj)}{σ:St}{H:Hp}{s:Shared}{E:Value->Shared->Prop}
theorem Inv.wish(I:Inv X zv σ H s)(E:Value->Shared->Prop):Inv (X.wish E) zv σ H s:=⟨I.ok.wish E,I.os,I.bare,I.base,I.loc,I.cell,I.free,I.freeC,I.pin,I.hok,I.len⟩
theorem Inv.unwish(I:Inv (X.wish E) zv σ H s):Inv X zv σ H s:=⟨I.ok.unwish,I.os,I.bare,I.base,I.loc,I.cell,I.free,I.freeC,I.pin,I.hok,I.len⟩
theorem SP.unwish{D:Ends}{f:Flow}{s':Shared}(h:SP (X.wish E) zv D f s'):SP X zv D f s':=by
 cases f with
 | next=>obtain⟨σ',H',I,q⟩:=h;exact⟨σ',H',I.unwish,q⟩
 | brk=>obtain⟨σ',H',I,q⟩:=h;exact⟨σ',H',I.unwish,q⟩
 | cont=>obtain⟨σ',H',I,q⟩:=h;exact⟨σ',H',I.unwish,q⟩
 | ret u=>obtain⟨v,σ',H',I,r,q⟩:=h;exact⟨v,σ',H',I.unwish,r,q⟩
theorem PSs.nox{st:List Stmt}{t:TS}(h:PSs X.nox st t):PSs X st t:=fun zv s σ H D I hw =>
 wpAny_mono (h zv s σ H D (I.wish _) hw) (fun _ _ q=>q.unwish) fun _ _ z=>False.elim z
end
section
variable{X:Cx}{st:Stmt}{rest:List Stmt}{t u:TS}{e:Expr}{te:TE}{pos:Pos}
def ar0:TS:=fun D σ H=>D.nx σ H
def tSeq(t u:TS):TS:=fun D σ H=>t { D with nx:=u D } σ H
theorem alx:PSs X [] ar0:=fun _ _ σ H _ I h=>wpAny_execs_nil ⟨σ,H,I,h⟩
theorem aje(h1:PS X st t)(h2:PSs X rest u):PSs X (st::rest) (tSeq t u):=by
 intro zv s σ H D I h;refine wpAny_execs_cons (thn (h1 zv s σ H { D with nx:=u D } I h) fun f s1 q =>?_)
 cases f with
 | next =>
  obtain⟨σ',H',I',q⟩:=q;exact h2 zv s1 σ' H' D I' q
 | ret v=>exact q
 | brk=>exact q
 | cont=>exact q
theorem ahn(h1:PS X st t):PSs X [st] t:=by
 intro zv s σ H D I h;refine wpAny_execs_cons (thn (h1 zv s σ H D I h) fun f s1 q =>?_)
 cases f with
 | next=>exact wpAny_execs_nil q
 | ret v=>exact q
 | brk=>exact q
 | cont=>exact q
theorem Inv.quiet{zv:List (Addr×Obj)}{σ:St}{H:Hp}{s:Shared}(I:Inv X zv σ H s):interactive X.env=false:=by simp[interactive,I.ok.kind]
def ar3(te:TE):TS:=fun D σ H=>te σ H fun _ H1=>D.nx σ H1
theorem alz(he:PE X e te)(hs:swapsWith e none pos.line X.env=pure false:=by rfl):PS X (.Expr e pos) (ar3 te):=by
 intro zv s σ H D I h;exact wpAny_Expr_any (thn (he zv s σ H _ I h) fun v s1 ⟨x,H1,I1,r1,q1⟩=>⟨σ,H1,I1,q1⟩) I.quiet hs
def tRet(te:TE):TS:=fun D σ H=>te σ H D.rt
theorem aom(he:PE X e te):PS X (.Return (some e) pos) (tRet te):=by
 intro zv s σ H D I h;exact wpAny_Return_some (thn (he zv s σ H _ I h) fun v s1 ⟨x,H1,I1,r1,q1⟩=>⟨x,σ,H1,I1,r1,q1⟩)
def tIfS(c:TT)(t u:TS):TS:=fun D σ H=>c σ H fun b H1=>if b=true then t D σ H1 else u D σ H1
theorem asd{c:Expr}{a b:List Stmt}{tc:TT}(hc:PT X c tc)(ha:PSs X a t)(hb:PSs X b u):PS X (.If c a b pos) (tIfS tc t u):=by
 intro zv s σ H D I h;refine wpAny_If (thn (hc zv s σ H _ I h) fun d s1 ⟨H1,I1,q1⟩ =>?_)
 cases d with
 | true=>exact ha zv s1 σ H1 D I1 q1
 | false=>exact hb zv s1 σ H1 D I1 q1
def an6:TS:=fun _ _ _=>False
theorem ajf:PS X st an6:=fun _ _ _ _ _ _ h=>h.elim
end
abbrev TG:=V->St->Hp->(St->Hp->Prop)->Prop
abbrev TGs:=List V->St->Hp->(St->Hp->Prop)->Prop
def PG(X:Cx)(target:Expr)(t:TG):Prop :=
 ∀(zv:List (Addr×Obj)) (s:Shared) (σ:St) (H:Hp) (v:V) (u:Value) (Q:St->Hp->Prop),Inv X zv σ H s->RelV v u->t v σ H Q ->
  wpAny (model X.prog X.w) X.A (assign target X.env u) (fun _ s'=>∃σ' H',Inv X zv σ' H' s'/\Q σ' H') X.xe s
def PGs(X:Cx)(ts:List Expr)(t:TGs):Prop :=
 ∀(zv:List (Addr×Obj)) (s:Shared) (σ:St) (H:Hp) (vs:List V) (us:List Value) (Q:St->Hp->Prop),Inv X zv σ H s->Vals vs us->t vs σ H Q ->
  wpAny (model X.prog X.w) X.A (assignInOrder ((assignEach ts X.env).map (·.2)) us) (fun _ s'=>∃σ' H',Inv X zv σ' H' s'/\Q σ' H') X.xe s
abbrev TSet:=V->V->V->Hp->(Hp->Prop)->Prop
def PSet(X:Cx)(t:TSet):Prop :=
 ∀(zv:List (Addr×Obj)) (s:Shared) (σ:St) (H:Hp) (o i v:V) (ov iv u:Value) (Q:Hp->Prop),Inv X zv σ H s->RelV o ov->RelV i iv->RelV v u->t o i v H Q ->
  wpAny (model X.prog X.w) X.A (setItem ov iv u) (fun _ s'=>∃H',Inv X zv σ H' s'/\Q H') X.xe s
section
variable{X:Cx}{pos:Pos}
def ap9(i:Nat):TG:=fun v σ H Q=>Q (σ.set i (some v)) H
theorem al6{i:Nat}{x:Str}(hN:X.N.Nodup)(hi:X.N[i]? = some x)(hx:Loc X.env.scope x)(hf:X.fn x=true∨X.env.scope.names.lookup x=some .local:=by first | exact .inl rfl | exact .inr rfl | assumption):PG X (.Name x pos) (ap9 i):=by
 intro zv s σ H v u Q I r h;exact wpAny_assign_Name (aal I hN hi hx r (fun s' I'=>⟨_,H,I',h⟩) hf)
def gNil:TGs:=fun vs σ H Q=>vs=[]/\Q σ H
def atn(t:TG)(u:TGs):TGs:=fun vs σ H Q=>∃v r,vs=v::r/\t v σ H fun σ' H'=>u r σ' H' Q
theorem al5:PGs X [] gNil:=by
 intro zv s σ H vs us Q I r h;obtain⟨e,h⟩:=h;subst e;cases r;exact assignInOrder_nil ⟨σ,H,I,h⟩
theorem aji{e:Expr}{es:List Expr}{t:TG}{u:TGs}(h1:PG X e t)(h2:PGs X es u)
  (hs:(assignEach (e::es) X.env).map (·.2)=assign e X.env::(assignEach es X.env).map (·.2):=by rfl):PGs X (e::es) (atn t u):=by
 intro zv s σ H vs us Q I r h;obtain⟨v,vr,e1,h⟩:=h;subst e1;cases r with
 | cons r rr =>
  rw[hs];refine assignInOrder_cons (thn (h1 zv s σ H _ _ _ I r h) fun _ s1 ⟨σ1,H1,I1,q1⟩ =>?_)
  exact h2 zv s1 σ1 H1 _ _ Q I1 rr q1
def gTup(K:Fg9)(n:Nat)(t:TGs):TG:=fun v σ H Q=>∃a xs,v=.ref a/\SqT K H a xs/\xs.length=n/\t xs σ H Q
theorem aoo{es:List Expr}{k:Nat}{t:TGs}{n:Nat}(hc:X.calm=true)(h:PGs X es t)
  (hn:(assignEach es X.env).length=n:=by rfl) (hst:(assignEach es X.env).findIdx? (·.1)=none:=by rfl):PG X (.Tuple es k pos) (gTup X.K n t):=by
 intro zv s σ H v u Q I r hw;obtain⟨a,xs,e1,hq,hl,hw⟩:=hw;subst e1;cases r;obtain⟨its,rv,ht,hz⟩:=I.tuple hq;refine assign_Tuple_tuple (I.ok.hd hc) ht (by simp[hn,<-hl,rv.length]) hst fun h' hx =>?_
 have I1:Inv X zv σ H { s with heap:=h' }:=I.kept (t':=s.toks) fun b o e=>hx b o (Nat.ne_of_lt (Heap.lt_size e)) e
 exact h zv _ σ H xs _ Q I1 (by simpa using rv) hw
def gSub(to ti:TE)(t:TSet):TG:=fun v σ H Q=>to σ H fun o H1=>ti σ H1 fun i H2=>t o i v H2 fun H3=>Q σ H3
theorem aop{o i:Expr}{to ti:TE}{t:TSet}(ho:PE X o to)(hi:PE X i ti)(hs:PSet X t)
  (ha:∀v,assign (.Subscript o i pos) X.env v=(do
   let ov <-holding [v] (eval o X.env)
   let iv <-holding [v,ov] (eval i X.env)
   standAt pos
   holding [v,ov,iv] (setItem ov iv v)
   release [v,ov,iv] []):=by intro _;rfl):PG X (.Subscript o i pos) (gSub to ti t):=by
 intro zv s σ H v u Q I r h;rw[ha];refine wpAny_bind (wpAny_holding (thn (ho zv s σ H _ I h) fun ov s1 ⟨x,H1,I1,r1,q1⟩ =>?_))
 refine wpAny_bind (wpAny_holding (thn (hi zv s1 σ H1 _ I1 q1) fun iv s2 ⟨y,H2,I2,r2,q2⟩ =>?_))
 refine wpAny_bind (wpAny_standAt (wpAny_bind (wpAny_holding (thn (hs zv s2 σ H2 x y v ov iv u _ I2 r1 r2 r q2) fun _ s3 ⟨H3,I3,q3⟩ =>?_))))
 exact wpAny_release ⟨σ,H3,I3,q3⟩
def tAsg(te:TE)(g:TG):TS:=fun D σ H=>te σ H fun x H1=>g x σ H1 D.nx
theorem ak1{tg e:Expr}{te:TE}{g:TG}(he:PE X e te)(hg:PG X tg g)(hs:swapsWithSole [tg] e pos.line X.env=pure false:=by rfl)(hw:swappedStores [tg] e X.env=pure none:=by rfl)
  (h1:(assignEach [tg] X.env).map (·.2)=[assign tg X.env]:=by rfl):PS X (.Assign [tg] e pos) (tAsg te g):=by
 intro zv s σ H D I h;refine wpAny_Assign_stores (thn (he zv s σ H _ I h) fun v s1 ⟨x,H1,I1,r1,q1⟩ =>?_) hs hw
 rw[h1];exact thn (hg zv s1 σ H1 x v _ I1 r1 q1) fun _ s2 q=>q
theorem aol{i:Nat}{x:Str}{e:Expr}{te:TE}{pos':Pos}(hN:X.N.Nodup)(hi:X.N[i]? = some x)(hx:Loc X.env.scope x)(he:PE X e te)(hs:swapsWith e (some (.Name x pos')) pos.line X.env=pure false:=by rfl)(hf:X.fn x=true∨X.env.scope.names.lookup x=some .local:=by first | exact .inl rfl | exact .inr rfl | assumption) :
  PS X (.Assign [.Name x pos'] e pos) (tAsg te (ap9 i)):=by
 intro zv s σ H D I h;refine wpAny_Assign_Name (thn (he zv s σ H _ I h) fun v s1 ⟨y,H1,I1,r1,q1⟩ =>?_) hs
 exact aal I1 hN hi hx r1 (fun s2 I2=>⟨_,H1,I2,q1⟩) hf
end
section
variable{X:Cx}{pos:Pos}
end
structure It where
 go:Nat->Hp->Prop
 yld:Nat->Hp->V->Hp->Prop
 stop:Nat->Hp->Prop
def FpOk(X:Cx)(zv:List (Addr×Obj))(H:Hp)(b:Addr):Prop :=
 H b=none/\b≠X.env.locals/\b∉X.fs/\(b∈X.ex∨X.s₀.heap.objs.size<=b)/\(∀x c,X.env.cells.lookup x=some c->c≠b)/\∀p∈X.pn++zv,p.1≠b
theorem Inv.fpOk{X:Cx}{zv:List (Addr×Obj)}{σ:St}{H H':Hp}{s:Shared}{b:Addr}(I:Inv X zv σ H s)(hb:s.heap.objs.size<=b)(hn:H' b=none):FpOk X zv H' b:=by
 refine⟨hn,Nat.ne_of_gt (Nat.lt_of_lt_of_le I.lt hb),I.nofs hb,.inr (Nat.le_trans I.sz hb),fun x c e z =>?_,fun p hp z =>?_⟩
 ·obtain⟨v,q⟩:=I.cell x c e;exact absurd (Nat.lt_of_lt_of_le q.lt (by rw[z];exact hb)) (Nat.lt_irrefl _)
 ·exact absurd (Nat.lt_of_lt_of_le (Heap.lt_size (I.pin p hp).1) (by rw[z];exact hb)) (Nat.lt_irrefl _)
structure Turn (P:Program) (w:World) (K:Fg9) (tg:Expr) (J:It) (fp:List Addr) (it:Addr) (tn:Nat->Heap->Prop):Prop where
 mem:it∈fp
 obj:∀i h,tn i h->∀b∈fp,∃o,h.get? b=some o/\∀v,o.data≠.cell v
 keep:∀i h h',tn i h->(∀b∈fp,∀o,h.get? b=some o->h'.get? b=some o)->tn i h'
 item:∀(X:Cx),X.prog=P->X.w=w->X.K=K->X.calm=true->∀(i:Nat) (zv:List (Addr×Obj)) (s:Shared) (σ:St) (H:Hp) (E:Value->Shared->Prop),Inv X zv σ H s->(∀b∈fp,FpOk X zv H b)->tn i s.heap->J.go i H ->
  wpAny (model P w) X.A (pyNext (.ref it)) (fun r s1=>∃u,r=some u /\
   wpAny (model P w) X.A (letOwnedTupleGo tg (.ref it) u) (fun _ s2=>∃x H',Inv X zv σ H' s2/\RelV x u/\J.yld i H x H'/\tn (i+1) s2.heap/\∀b∈fp,H' b=none) E s1) E s
 done:∀(X:Cx),X.prog=P->X.w=w->X.K=K->X.calm=true->∀(i:Nat) (zv:List (Addr×Obj)) (s:Shared) (σ:St) (H:Hp) (E:Value->Shared->Prop),Inv X zv σ H s->(∀b∈fp,FpOk X zv H b)->tn i s.heap->J.stop i H ->
  wpAny (model P w) X.A (pyNext (.ref it)) (fun r s1=>r=none/\Inv X zv σ H s1) E s
 self:∀(A:Around) (i:Nat) (s:Shared) (Q:Value->Shared->Prop) (E:Value->Shared->Prop),tn i s.heap->Q (.ref it) s->wpAny (model P w) A (pyIter (.ref it)) Q E s
abbrev TI:=St->Hp->(It->Hp->Prop)->Prop
def PIE(X:Cx)(zv:List (Addr×Obj))(σ:St)(tg:Expr)(R:It->Hp->Prop)(itv:Value)(s2:Shared):Prop :=
 ∃(it:Addr) (fp:List Addr) (tn:Nat->Heap->Prop) (J:It) (H':Hp),itv=.ref it/\Inv X zv σ H' s2/\Turn X.prog X.w X.K tg J fp it tn/\tn 0 s2.heap/\(∀b∈fp,FpOk X zv H' b)/\R J H'
def PI(X:Cx)(tg iter:Expr)(wi:TI):Prop :=
 ∀(zv:List (Addr×Obj)) (s:Shared) (σ:St) (H:Hp) (R:It->Hp->Prop),Inv X zv σ H s->wi σ H R ->
  wpAny (model X.prog X.w) X.A (eval iter X.env) (fun v s1=>wpAny (model X.prog X.w) X.A (pyIter v) (PIE X zv σ tg R) X.xe s1) X.xe s
theorem am1{M:Model}{A:Around}{E:Value->Shared->Prop}{s:Shared}{tg:Expr}{it:Addr}{u:Value}{o:Obj}{n:String}{vs:Array Value}{Q:Unit->Shared->Prop}(ho:s.heap.get? it=some o)(hc:o.cls=.type n)(hd:o.data=.fields vs)
  (hn:["enumerate","zip","dict_itemiterator","dict_reverseitemiterator","odict_iterator","itertools.zip_longest","itertools.pairwise"].contains n=false) (hQ:Q () s):wpAny M A (letOwnedTupleGo tg (.ref it) u) Q E s:=by
 unfold letOwnedTupleGo;cases tg <;> first
  | exact wpAny_pure hQ
  | (cases u <;> first
    | exact wpAny_pure hQ
    | (refine wpAny_bind (wpAny_load ho ?_)
       rw[hc,hd];show wpAny M A (if (["enumerate","zip","dict_itemiterator","dict_reverseitemiterator","odict_iterator","itertools.zip_longest","itertools.pairwise"].contains n&&vs[0]? == some (rawInt _))=true then _ else _) Q E s
       rw[if_neg (by intro h;rw[hn,Bool.false_and] at h;cases h)]
       exact wpAny_pure hQ))
def Itl(K:Fg9)(a:Addr):It :=
 ⟨fun i H=>∃xs x,SqL K H a xs/\xs[i]? = some x,fun i H x H'=>H'=H/\∀xs,SqL K H a xs->xs[i]? = some x,fun i H=>∃xs,SqL K H a xs/\xs.length<=i⟩
def Itt(K:Fg9)(a:Addr):It :=
 ⟨fun i H=>∃xs x,SqT K H a xs/\xs[i]? = some x,fun i H x H'=>H'=H/\∀xs,SqT K H a xs->xs[i]? = some x,fun i H=>∃xs,SqT K H a xs/\xs.length<=i⟩
def Itr(lo:Int)(n:Nat):It:=⟨fun i _=>i < n,fun i H x H'=>H'=H/\x=.int (lo+i),fun i _=>n<=i⟩
theorem ag7{P:Program}{w:World}{K:Fg9}{tg:Expr}(a it:Addr):Turn P w K tg (Itl K a) [it] it (fun i h=>h.IsListIter it a i) where
 mem:=by simp
 obj:=fun i h st b hb=>by
  have e:b=it:=by simpa using hb
  subst e;obtain⟨o,e,c,d⟩:=st;exact⟨o,e,fun v z=>by rw[d] at z;cases z⟩
 keep:=fun i h h' st k=>st.at fun o e=>k it (by simp) o e
 item:=by
  intro X hP hw hK hc i zv s σ H E I hf st hg;subst hP hw hK;obtain⟨xs,x,hq,hx⟩:=hg;obtain⟨its,rv,p,hz⟩:=I.list hq;obtain⟨u,hu,ru⟩:=rv.get hx;obtain⟨f0,f1,f2,f3,f4,f5⟩:=hf it (by simp)
  refine wpAny_pyNext_list_item st p.isList (x:=u) (by simpa using hu) fun h' st' sb =>?_
  have I1:Inv X zv σ H { s with heap:=h' }:=I.turned (t':=s.toks) (fun b o hb e=>(sb.2 b hb).trans e) f0 f1 f3 f4 f5
  obtain⟨o,e,c,d⟩:=id st';exact⟨u,rfl,am1 (s:={ s with heap:=h' }) e c d (by decide) ⟨x,H,I1,ru,⟨rfl,fun ys hy=>by rw[I.list_inj hy hq];exact hx⟩,st',fun b hb=>(hf b hb).1⟩⟩
 done:=by
  intro X hP hw hK hc i zv s σ H E I hf st hg;subst hP hw hK;obtain⟨xs,hq,hx⟩:=hg;obtain⟨its,rv,p,hz⟩:=I.list hq;obtain⟨f0,f1,f2,f3,f4,f5⟩:=hf it (by simp)
  have hl:=rv.length;exact wpAny_pyNext_list_end (I.ok.hd hc) st p.isList (by simp;omega) fun h' eb=>⟨rfl,I.turned (t':=s.toks) (fun b o hb e=>eb b o hb e) f0 f1 f3 f4 f5⟩
 self:=fun _ _ _ _ _ st h=>wpAny_pyIter_listiter st h
theorem agd{P:Program}{w:World}{K:Fg9}{tg:Expr}(a it:Addr):Turn P w K tg (Itt K a) [it] it (fun i h=>h.IsTupleIter it a i) where
 mem:=by simp
 obj:=fun i h st b hb=>by
  have e:b=it:=by simpa using hb
  subst e;obtain⟨o,e,c,d⟩:=st;exact⟨o,e,fun v z=>by rw[d] at z;cases z⟩
 keep:=fun i h h' st k=>st.at fun o e=>k it (by simp) o e
 item:=by
  intro X hP hw hK hc i zv s σ H E I hf st hg;subst hP hw hK;obtain⟨xs,x,hq,hx⟩:=hg;obtain⟨its,rv,p,hz⟩:=I.tuple hq;obtain⟨u,hu,ru⟩:=rv.get hx;obtain⟨f0,f1,f2,f3,f4,f5⟩:=hf it (by simp)
  refine wpAny_pyNext_tuple_item st (show s.heap.IsTuple a its.toArray from p) (x:=u) (by simpa using hu) fun h' st' sb =>?_
  have I1:Inv X zv σ H { s with heap:=h' }:=I.turned (t':=s.toks) (fun b o hb e=>(sb.2 b hb).trans e) f0 f1 f3 f4 f5
  obtain⟨o,e,c,d⟩:=id st';exact⟨u,rfl,am1 (s:={ s with heap:=h' }) e c d (by decide) ⟨x,H,I1,ru,⟨rfl,fun ys hy=>by rw[I.tuple_inj hy hq];exact hx⟩,st',fun b hb=>(hf b hb).1⟩⟩
 done:=by
  intro X hP hw hK hc i zv s σ H E I hf st hg;subst hP hw hK;obtain⟨xs,hq,hx⟩:=hg;obtain⟨its,rv,p,hz⟩:=I.tuple hq;obtain⟨f0,f1,f2,f3,f4,f5⟩:=hf it (by simp)
  have hl:=rv.length;exact wpAny_pyNext_tuple_end (I.ok.hd hc) st (show s.heap.IsTuple a its.toArray from p) (by simp;omega) fun h' eb=>⟨rfl,I.turned (t':=s.toks) (fun b o hb e=>eb b o hb e) f0 f1 f3 f4 f5⟩
 self:=fun _ _ _ _ _ st h=>wpAny_pyIter_tupleiter st h
theorem age{P:Program}{w:World}{K:Fg9}{tg:Expr}(it:Addr)(lo:Int)(n:Nat):Turn P w K tg (Itr lo n) [it] it (fun i h=>IsRangeIter h it (lo+(i:Nat)*1) ((n:Int) - (i:Nat)) 1) where
 mem:=by simp
 obj:=fun i h st b hb=>by
  have e:b=it:=by simpa using hb
  subst e;exact⟨_,st,fun v z=>by
   have z':Data.fields _=Data.cell v:=z;cases z'⟩
 keep:=fun i h h' st k=>k it (by simp) _ st
 item:=by
  intro X hP hw hK hc i zv s σ H E I hf st hg;subst hP hw hK;obtain⟨f0,f1,f2,f3,f4,f5⟩:=hf it (by simp)
  have W:=Walks.range (prog:=X.prog) (w:=X.w) (I.ok.hd hc) it lo 1 n;refine W.item i s _ _ hg st fun v h' tk hv st' kk =>?_
  obtain⟨t,rfl⟩:=hv;have I1:Inv X zv σ H { s with heap:=h',toks:=tk }:=I.turned (fun b o hb e=>kk b o (by simpa using hb) e) f0 f1 f3 f4 f5
  refine⟨_,rfl,am1 (s:={ s with heap:=h',toks:=tk }) (n := "range_iterator") st' rfl rfl (by decide) ⟨.int (lo+i),H,I1,⟨t,?_⟩,⟨rfl,rfl⟩,st',fun b hb=>(hf b hb).1⟩⟩
  rw[Int.mul_one]
 done:=by
  intro X hP hw hK hc i zv s σ H E I hf st hg;subst hP hw hK;obtain⟨f0,f1,f2,f3,f4,f5⟩:=hf it (by simp)
  exact wpAny_pyNext_range_end (I.ok.hd hc) st (by have:n<=i:=hg;omega) fun h' eb=>⟨rfl,I.turned (t':=s.toks) (fun b o hb e=>eb b o hb e) f0 f1 f3 f4 f5⟩
 self:=fun _ _ _ _ _ st h=>wpAny_pyIter_rangeiter st h
section
variable{X:Cx}{tg:Expr}
def ate(K:Fg9)(tl:TE):TI:=fun σ H R=>tl σ H fun x H1=>∃a,x=.ref a/\(∃xs,SqL K H1 a xs)/\R (Itl K a) H1
def iTup(K:Fg9)(tl:TE):TI:=fun σ H R=>tl σ H fun x H1=>∃a,x=.ref a/\(∃xs,SqT K H1 a xs)/\R (Itt K a) H1
theorem aht{l:Expr}{tl:TE}(hl:PE X l tl):PI X tg l (ate X.K tl):=by
 intro zv s σ H R I h;refine thn (hl zv s σ H _ I h) fun v s1 ⟨x,H1,I1,r1,q1⟩ =>?_
 obtain⟨a,e,⟨xs,hq⟩,q⟩:=q1;subst e;cases r1;obtain⟨its,rv,p,hz⟩:=I1.list hq;refine wpAny_pyIter_list p.isList ?_;refine⟨s1.heap.objs.size,[s1.heap.objs.size],_,_,H1,rfl,I1.kept (t':=s1.toks) fun b o e=>Heap.get?_push_of_some _ e,ag7 a _,⟨_,Heap.get?_push_size _ rfl,rfl,rfl⟩,fun b hb =>?_,q⟩
 have e:b=s1.heap.objs.size:=by simpa using hb
 subst e;exact I1.fpOk (Nat.le_refl _) (I1.hok.fresh (Nat.le_refl _))
theorem aon{l:Expr}{tl:TE}(hl:PE X l tl):PI X tg l (iTup X.K tl):=by
 intro zv s σ H R I h;refine thn (hl zv s σ H _ I h) fun v s1 ⟨x,H1,I1,r1,q1⟩ =>?_
 obtain⟨a,e,⟨xs,hq⟩,q⟩:=q1;subst e;cases r1;obtain⟨its,rv,p,hz⟩:=I1.tuple hq;refine wpAny_pyIter_tuple (show s1.heap.IsTuple a its.toArray from p) ?_
 refine⟨s1.heap.objs.size,[s1.heap.objs.size],_,_,H1,rfl,I1.kept (t':=s1.toks) fun b o e=>Heap.get?_push_of_some _ e,agd a _,⟨_,Heap.get?_push_size _ rfl,rfl,rfl⟩,fun b hb =>?_,q⟩
 have e:b=s1.heap.objs.size:=by simpa using hb
 subst e;exact I1.fpOk (Nat.le_refl _) (I1.hok.fresh (Nat.le_refl _))
theorem afb{zv:List (Addr×Obj)}{σ:St}{H:Hp}{s:Shared}{R:It->Hp->Prop}{E:Value->Shared->Prop}{lo hi:Int}{t u v:Tok}{tk:Nat}(I:Inv X zv σ H s)(h1 : -(2 ^ 62)<=lo)(h2:lo < 2 ^ 62)(h3 : -(2 ^ 62)<=hi)(h4:hi < 2 ^ 62)
  (q:R (Itr lo (hi - lo).toNat) H):wpAny (model X.prog X.w) X.A (pyIter (.ref s.heap.objs.size)) (PIE X zv σ tg R) E { s with heap:=s.heap.push { cls:=.type "range", data:=.fields #[.int lo t,.int hi u,.int 1 v] },toks:=tk }:=by
 refine wpAny_pyIter_range (IsRange.new ..) (small_one h1 h2 h3 h4) ?_;have I1:Inv X zv σ H { s with heap:=s.heap.push { cls:=.type "range", data:=.fields #[.int lo t,.int hi u,.int 1 v] },toks:=tk }:=I.kept fun b o e=>Heap.get?_push_of_some _ e
 refine⟨(s.heap.push { cls:=.type "range", data:=.fields #[.int lo t,.int hi u,.int 1 v] }).objs.size,[(s.heap.push { cls:=.type "range", data:=.fields #[.int lo t,.int hi u,.int 1 v] }).objs.size],_,_,H,rfl,
  I1.kept (t':=tk) fun b o e=>Heap.get?_push_of_some _ e,age _ lo (hi - lo).toNat,?_,fun b hb =>?_,q⟩
 ·have e1:lo+((0:Nat):Int)*1=lo:=by simp
  have e2:(((hi - lo).toNat:Nat):Int) - ((0:Nat):Int)=Builtin.Range.rangeSize lo hi 1:=by rw[rangeSize_one];split <;> omega
  show IsRangeIter _ _ (lo+((0:Nat):Int)*1) ((((hi - lo).toNat:Nat):Int) - ((0:Nat):Int)) 1;rw[e1,e2];exact Heap.get?_push_size _ rfl
 ·have e:b=(s.heap.push { cls:=.type "range", data:=.fields #[.int lo t,.int hi u,.int 1 v] }).objs.size:=by simpa using hb
  subst e;exact I1.fpOk (Nat.le_refl _) (I1.hok.fresh (Nat.le_refl _))
def atd(ta:TA):TI:=fun σ H R=>ta σ H fun vs H1=>∃j:Int,vs=[.int j] /\ -(2 ^ 62)<=j/\j < 2 ^ 62/\R (Itr 0 j.toNat) H1
def atc(ta:TA):TI:=fun σ H R=>ta σ H fun vs H1=>∃i j:Int,vs=[.int i,.int j]/\(-(2 ^ 62)<=i/\i < 2 ^ 62 /\ -(2 ^ 62)<=j/\j < 2 ^ 62)/\R (Itr i (j - i).toNat) H1
theorem ahs{a:Expr}{ta:TA}{p pos:Pos}(hg:Gl X "range")(hm:X.mg "range" = none)(ha:PA X [a] ta)(hs:starEach [a] X.env=[(false,eval a X.env)]:=by rfl):PI X tg (.Call (.Name "range" p) [a] [] pos) (atd ta):=by
 intro zv s σ H R I h;refine Call_ (ab6 I hg hm boot_range (PyProof.Rows.callWith_type1 (thn (ha pos zv s σ H _ I h) fun us s1 ⟨vs,H1,I1,r1,q1⟩ =>?_) hs rfl))
 obtain⟨j,e,q1,q2,q⟩:=q1;subst e;cases r1 with
 | cons r rr =>
  cases rr;obtain⟨t,rfl⟩:=r;exact call_range_1 (afb I1 (by omega) (by omega) q1 q2 (by simpa using q))
theorem ahr{a b:Expr}{ta:TA}{p pos:Pos}(hg:Gl X "range")(hm:X.mg "range" = none)(ha:PA X [a,b] ta)(hs:starEach [a,b] X.env=[(false,eval a X.env),(false,eval b X.env)]:=by rfl)(hs2:starEach [b] X.env=[(false,eval b X.env)]:=by rfl) :
  PI X tg (.Call (.Name "range" p) [a,b] [] pos) (atc ta):=by
 intro zv s σ H R I h;refine Call_ (ab6 I hg hm boot_range (PyProof.Rows.callWith_type1 (thn (ha pos zv s σ H _ I h) fun us s1 ⟨vs,H1,I1,r1,q1⟩ =>?_) (by rw[hs,hs2]) (by rw[hs2];rfl)))
 obtain⟨i,j,e,⟨q1,q2,q3,q4⟩,q⟩:=q1;subst e;cases r1 with
 | cons r rr =>
  cases rr with
  | cons r' rr =>
   cases rr;obtain⟨t,rfl⟩:=r;obtain⟨t',rfl⟩:=r';exact call_range_2 (afb I1 q1 q2 q3 q4 q)
def tFor(wi:TI)(g:TG)(tb:TS):TS:=fun D σ H=>wi σ H fun J H1=>∃W:Nat->Nat->St->Hp->Prop,(∃m,W 0 m σ H1)/\∀i m σ H,W i m σ H ->
 (J.stop i H/\D.nx σ H)∨(J.go i H/\∃N:St->Hp->Prop,(∀σ' H',N σ' H'->∃m',m' < m/\W (i+1) m' σ' H')/\∀x H',J.yld i H x H'->g x σ H' fun σ2 H2=>tb { D with nx:=N,ct:=N,bk:=D.nx } σ2 H2)
def adm(fp:List Addr)(h:Heap):List (Addr×Obj):=fp.filterMap fun b=>(h.get? b).map fun o=>(b,o)
theorem vy{fp:List Addr}{h:Heap}{b:Addr}{o:Obj}(hb:b∈fp)(e:h.get? b=some o):(b,o)∈adm fp h:=List.mem_filterMap.mpr ⟨b,hb,by rw[e];rfl⟩
theorem ah0{fp:List Addr}{h:Heap}{p:Addr×Obj}(hp:p∈adm fp h):p.1∈fp/\h.get? p.1=some p.2:=by
 obtain⟨b,hb,e⟩:=List.mem_filterMap.mp hp;cases q:h.get? b with
 | none=>rw[q] at e;cases e
 | some o =>
  rw[q] at e;have e':(b,o)=p:=Option.some.inj e;subst e';exact⟨hb,q⟩
theorem Inv.pinned{zv:List (Addr×Obj)}{σ:St}{H:Hp}{s:Shared}{fp:List Addr}(I:Inv X zv σ H s)(hf:∀b∈fp,FpOk X zv H b)(ho:∀b∈fp,∃o,s.heap.get? b=some o/\∀v,o.data≠.cell v):Inv X (zv++adm fp s.heap) σ H s :=
 I.pins_of fun p hp=>(List.mem_append.mp hp).elim (fun z=>I.pin p (List.mem_append_right _ z)) fun z=>by
  obtain⟨hb,e⟩:=ah0 z;obtain⟨f0,f1,f2,_⟩:=hf p.1 hb;obtain⟨o,e',d⟩:=ho p.1 hb;rw[e] at e';cases e';exact⟨e,f0,f1,f2,d⟩
theorem Inv.unpinned{zv pl:List (Addr×Obj)}{σ:St}{H:Hp}{s:Shared}(I:Inv X (zv++pl) σ H s):Inv X zv σ H s:=I.pins_of fun p hp=>I.pin p (List.mem_append_right _ (List.mem_append_left _ hp))
theorem ak0{iter:Expr}{body:List Stmt}{wi:TI}{g:TG}{tb:TS}{pos:Pos}(hp:PassesOwn (model X.prog X.w) X.A X.env X.xe)(hc:X.calm=true)(hi:PI X tg iter wi)(hg:PG X tg g)(hb:PSs X body tb)
  (hs:∀x,foldedSetIterable iter X.env x=pure x:=by intro _;rfl):PS X (.For tg iter body [] pos) (tFor wi g tb):=by
 intro zv s σ H D I h;refine wpAny_For (thn (hi zv s σ H _ I h) fun v s1 h1=>thn h1 fun itv s2 h2 =>?_) hs
 obtain⟨it,fp,tn,J,H2,e,I2,T,st2,f2,W,⟨m0,w0⟩,turn⟩:=h2;subst e;have stat:∀{H':Hp},(∀b∈fp,H' b=none)->∀b∈fp,FpOk X zv H' b:=fun hn b hb=>⟨hn b hb,(f2 b hb).2⟩
 refine codeAny_forLoop_any (fun n s'=>∃i σ' H',Inv X zv σ' H' s'/\tn i s'.heap/\(∀b∈fp,H' b=none)/\W i n σ' H') ?_ m0 ⟨0,σ,H2,I2,st2,fun b hb=>(f2 b hb).1,w0⟩
 rintro n s3 ⟨i,σ3,H3,I3,st3,fr3,w3⟩
 rcases turn i n σ3 H3 w3 with⟨stop,qn⟩ | ⟨go,N,hN,step⟩
 ·refine wpAny_passesOwn hp (thn (T.done X rfl rfl rfl hc i zv s3 σ3 H3 X.xe I3 (stat fr3) st3 stop) fun r s4 ⟨hr,I4⟩ =>?_)
  subst hr;exact wpAny_execs_nil ⟨σ3,H3,I4,qn⟩
 ·refine wpAny_passesOwn hp (thn (T.item X rfl rfl rfl hc i zv s3 σ3 H3 X.xe I3 (stat fr3) st3 go) fun r s4 ⟨u,hr,h4⟩ =>?_)
  subst hr;refine wpAny_passesOwn hp (thn h4 fun _ s5 ⟨x,H5,I5,r5,y5,st5,fr5⟩ =>?_)
  have I5':=I5.pinned (stat fr5) (T.obj _ _ st5);refine wpAny_passesOwn hp (thn (hg _ s5 σ3 H5 x u _ I5' r5 (step x H5 y5)) fun _ s6 ⟨σ6,H6,I6,q6⟩ =>?_)
  refine wpAny_passesOwn hp (thn (hb _ s6 σ6 H6 _ I6 q6) fun f s7 q7 =>?_)
  have again:∀{σ7:St} {H7:Hp},Inv X (zv++adm fp s5.heap) σ7 H7 s7->N σ7 H7->∃m,m < n/\∃i σ' H',Inv X zv σ' H' s7/\tn i s7.heap/\(∀b∈fp,H' b=none)/\W i m σ' H':=fun{σ7 H7} I7 n7=>by
   obtain⟨m',hm,w7⟩:=hN σ7 H7 n7;refine⟨m',hm,i+1,σ7,H7,I7.unpinned,T.keep _ _ _ st5 fun b hb o e=>(I7.pin (b,o) (List.mem_append_right _ (List.mem_append_right _ (vy hb e)))).1,fun b hb =>?_,w7⟩
   obtain⟨o,e,d⟩:=T.obj _ _ st5 b hb;exact(I7.pin (b,o) (List.mem_append_right _ (List.mem_append_right _ (vy hb e)))).2.1
  cases f with
  | next=>obtain⟨σ7,H7,I7,n7⟩:=q7;exact again I7 n7
  | cont=>obtain⟨σ7,H7,I7,n7⟩:=q7;exact again I7 n7
  | brk=>obtain⟨σ7,H7,I7,q7⟩:=q7;exact⟨σ7,H7,I7.unpinned,q7⟩
  | ret v=>obtain⟨x7,σ7,H7,I7,r7,q7⟩:=q7;exact⟨x7,σ7,H7,I7.unpinned,r7,q7⟩
end
abbrev R2:=V->V->Hp->VK->Prop
def OpR(X:Cx)(f:Value->Value->Sem Value)(r:R2):Prop :=
 ∀(zv:List (Addr×Obj)) (s:Shared) (σ:St) (H:Hp) (x y:V) (v u:Value) (Q:VK),Inv X zv σ H s->RelV x v->RelV y u->r x y H Q ->
  wpAny (model X.prog X.w) X.A (f v u) (EP X zv σ Q) X.xe s
def UnR(X:Cx)(f:Value->Sem Value)(r:V->Hp->VK->Prop):Prop :=
 ∀(zv:List (Addr×Obj)) (s:Shared) (σ:St) (H:Hp) (x:V) (v:Value) (Q:VK),Inv X zv σ H s->RelV x v->r x H Q ->
  wpAny (model X.prog X.w) X.A (f v) (EP X zv σ Q) X.xe s
def zz(X:Cx)(f:Value)(r:List V->Hp->VK->Prop):Prop :=
 ∀(zv:List (Addr×Obj)) (s:Shared) (σ:St) (H:Hp) (xs:List V) (us:List Value) (Q:VK),Inv X zv σ H s->Vals xs us->r xs H Q ->
  wpAny (model X.prog X.w) X.A (call f us) (EP X zv σ Q) X.xe s
def tOp(r:R2)(ta tb:TE):TE:=fun σ H Q=>ta σ H fun x H1=>tb σ H1 fun y H2=>r x y H2 Q
def tUn(r:V->Hp->VK->Prop)(ta:TE):TE:=fun σ H Q=>ta σ H fun x H1=>r x H1 Q
def rI(C:Int->Int->Prop)(g:Int->Int->V):R2:=fun x y H Q=>∃i j,x=.int i/\y=.int j/\C i j/\Q (g i j) H
def rI0(g:Int->Int->V):R2:=fun x y H Q=>∃i j,x=.int i/\y=.int j/\Q (g i j) H
def rU(g:Int->V):V->Hp->VK->Prop:=fun x H Q=>∃i,x=.int i/\Q (g i) H
section
variable{X:Cx}{a b c:Expr}{ta tb tc:TE}{pos:Pos}
theorem binT(ha:PE X a ta)(hb:PE X b tb){zv:List (Addr×Obj)}{s:Shared}{σ:St}{H:Hp}{R:V->V->Hp->Prop}(I:Inv X zv σ H s)
  (h:ta σ H fun x H1=>tb σ H1 fun y H2=>R x y H2) {Q:Value->Shared->Prop} {f:Value->Value->Sem Value}
  (hf:∀v u s2 x y H2,Inv X zv σ H2 s2->RelV x v->RelV y u->R x y H2->wpAny (model X.prog X.w) X.A (f v u) Q X.xe s2) :
  wpAny (model X.prog X.w) X.A (eval a X.env) (fun v s₁=>wpAny (model X.prog X.w) X.A (eval b X.env) (fun u s₂=>wpAny (model X.prog X.w) X.A (f v u) Q X.xe s₂) X.xe s₁) X.xe s:=by
 refine thn (ha zv s σ H _ I h) fun v s1 ⟨x,H1,I1,r1,q1⟩ =>?_
 refine thn (hb zv s1 σ H1 _ I1 q1) fun u s2 ⟨y,H2,I2,r2,q2⟩ =>?_
 exact hf v u s2 x y H2 I2 r1 r2 q2
theorem asf{op:Operator}{r:R2}(ho:OpR X (binaryOp op) r)(ha:PE X a ta)(hb:PE X b tb):PE X (.BinOp a op b pos) (tOp r ta tb):=by
 intro zv s σ H Q I h;exact wpAny_BinOp (binT ha hb I h fun v u s2 x y H2 I2 rx ry q=>ho zv s2 σ H2 x y v u Q I2 rx ry q)
theorem ase{op:UnaryOp}{r:V->Hp->VK->Prop}(ho:UnR X (unaryOp op) r)(ha:PE X a ta):PE X (.UnaryOp op a pos) (tUn r ta):=by
 intro zv s σ H Q I h;exact UnaryOp_ (thn (ha zv s σ H _ I h) fun v s1 ⟨x,H1,I1,r1,q1⟩=>ho zv s1 σ H1 x v Q I1 r1 q1)
theorem opI{f:Value->Value->Sem Value}{C:Int->Int->Prop}{g:Int->Int->Int}
  (rule:∀(i j:Int) (t u:Tok) (s:Shared) (Q:Value->Shared->Prop) (E:Value->Shared->Prop),C i j->Q (.int (g i j) s.toks) { s with toks:=s.toks+1 }->wpAny (model X.prog X.w) X.A (f (.int i t) (.int j u)) Q E s) :
  OpR X f (rI C fun i j=>.int (g i j)):=by
 intro zv s σ H x y v u Q I rx ry h;obtain⟨i,j,rfl,rfl,hc,q⟩:=h;obtain⟨t,rfl⟩:=rx;obtain⟨t',rfl⟩:=ry;exact rule i j t t' s _ _ hc ⟨.int (g i j),H,I.tok _,⟨_,rfl⟩,q⟩
theorem opI0{f:Value->Value->Sem Value}{g:Int->Int->Int}
  (rule:∀(i j:Int) (t u:Tok) (s:Shared) (Q:Value->Shared->Prop) (E:Value->Shared->Prop),Q (.int (g i j) s.toks) { s with toks:=s.toks+1 }->wpAny (model X.prog X.w) X.A (f (.int i t) (.int j u)) Q E s) :
  OpR X f (rI0 fun i j=>.int (g i j)):=by
 intro zv s σ H x y v u Q I rx ry h;obtain⟨i,j,rfl,rfl,q⟩:=h;obtain⟨t,rfl⟩:=rx;obtain⟨t',rfl⟩:=ry;exact rule i j t t' s _ _ ⟨.int (g i j),H,I.tok _,⟨_,rfl⟩,q⟩
theorem opB0{f:Value->Value->Sem Value}{g:Int->Int->Bool}
  (rule:∀(i j:Int) (t u:Tok) (s:Shared) (Q:Value->Shared->Prop) (E:Value->Shared->Prop),Q (.bool (g i j)) s->wpAny (model X.prog X.w) X.A (f (.int i t) (.int j u)) Q E s) :
  OpR X f (rI0 fun i j=>.bl (g i j)):=by
 intro zv s σ H x y v u Q I rx ry h;obtain⟨i,j,rfl,rfl,q⟩:=h;obtain⟨t,rfl⟩:=rx;obtain⟨t',rfl⟩:=ry;exact rule i j t t' s _ _ ⟨.bl (g i j),H,I,rfl,q⟩
def CPow(i j:Int):Prop:=0<=j/\j<=1000000/\i.natAbs < 2 ^ 64
def CMul(i j:Int):Prop:=(-(2 ^ 64) < i/\i < 2 ^ 64)∨(-(2 ^ 64) < j/\j < 2 ^ 64)
theorem CMul.ok{i j:Int}(h:CMul i j):IntMulOk i j:=by
 rcases h with⟨h1,h2⟩ | ⟨h1,h2⟩
 ·exact .of_left (intBits_le_64 h1 h2)
 ·exact .of_right (intBits_le_64 h1 h2)
theorem apa:OpR X (binaryOp .Add) (rI0 fun i j=>.int (i+j)):=opI0 fun _ _ _ _ _ _ _ q=>add_int q
theorem ao4:OpR X (binaryOp .Sub) (rI0 fun i j=>.int (i - j)):=opI0 fun _ _ _ _ _ _ _ q=>sub_int q
theorem ao7:OpR X (binaryOp .Mult) (rI CMul fun i j=>.int (i*j)):=opI fun _ _ _ _ _ _ _ hc q=>mul_int q hc.ok
theorem ao8:OpR X (binaryOp .Mod) (rI (fun _ j=>0 < j) fun i j=>.int (i % j)):=opI fun i j _ _ _ _ _ hc q=>by
 have h1:(0:Int) < j:=hc;exact mod_int' (by omega) (by rw[Int.fmod_eq_emod_of_nonneg i (by omega)];exact q)
theorem ao6:OpR X (binaryOp .Pow) (rI CPow fun i j=>.int (i ^ j.toNat)):=opI fun _ _ _ _ _ _ _ hc q=>pow_int_small hc.1 hc.2.1 hc.2.2 q
theorem unI{f:Value->Sem Value}{g:Int->Int}
  (rule:∀(i:Int) (t:Tok) (s:Shared) (Q:Value->Shared->Prop) (E:Value->Shared->Prop),Q (.int (g i) s.toks) { s with toks:=s.toks+1 }->wpAny (model X.prog X.w) X.A (f (.int i t)) Q E s) :
  UnR X f (rU fun i=>.int (g i)):=by
 intro zv s σ H x v Q I rx h;obtain⟨i,rfl,q⟩:=h;obtain⟨t,rfl⟩:=rx;exact rule i t s _ _ ⟨.int (g i),H,I.tok _,⟨_,rfl⟩,q⟩
theorem an2:UnR X (unaryOp .USub) (rU fun i=>.int (-i)):=unI fun _ _ _ _ _ q=>neg_int q
end
section
variable{X:Cx}{a b c:Expr}{ta tb tc:TE}{pos:Pos}
theorem asl:OpR X (compareOp .Lt) (rI0 fun i j=>.bl (decide (i < j))):=opB0 fun _ _ _ _ _ _ _ q=>lt_int q
theorem asm:OpR X (compareOp .LtE) (rI0 fun i j=>.bl (decide (i<=j))):=opB0 fun _ _ _ _ _ _ _ q=>le_int q
theorem asn:OpR X (compareOp .Gt) (rI0 fun i j=>.bl (decide (j < i))):=opB0 fun _ _ _ _ _ _ _ q=>gt_int q
theorem aso:OpR X (compareOp .GtE) (rI0 fun i j=>.bl (decide (j<=i))):=opB0 fun _ _ _ _ _ _ _ q=>ge_int q
theorem jt(b:Expr){op:CmpOp}(h:op≠.In:=by decide)(h2:op≠.NotIn:=by decide):behindInMarks op b=false:=by
 have e1:(op==CmpOp.In)=false:=by cases op <;> first | rfl | exact absurd rfl h
 have e2:(op==CmpOp.NotIn)=false:=by cases op <;> first | rfl | exact absurd rfl h2
 cases b <;> simp[behindInMarks,e1,e2]
theorem ahu{op:CmpOp}{r:R2}(ho:OpR X (compareOp op) r)(ha:PE X a ta)(hb:PE X b tb)(hm:behindInMarks op b=false):PE X (.Compare a [op] [b] pos) (tOp r ta tb):=by
 intro zv s σ H Q I h;exact wpAny_Compare1 (binT ha hb I h fun v u s2 x y H2 I2 rx ry q=>ho zv s2 σ H2 x y v u Q I2 rx ry q) hm
def arv(t:TE):TT:=fun σ H Q=>t σ H fun x H'=>∃k,x=.bl k/\Q k H'
theorem alw{op:CmpOp}{r:R2}(ho:OpR X (compareOp op) r)(ha:PE X a ta)(hb:PE X b tb)(hm:behindInMarks op b=false):PT X (.Compare a [op] [b] pos) (arv (tOp r ta tb)):=by
 intro zv s σ H Q I h;refine wpAny_isTrue_Compare1 (thn (ha zv s σ H _ I h) fun v s1 ⟨x,H1,I1,r1,q1⟩=>thn (hb zv s1 σ H1 _ I1 q1) fun u s2 ⟨y,H2,I2,r2,q2⟩ =>
  thn (ho zv s2 σ H2 x y v u _ I2 r1 r2 q2) fun c s3 ⟨z,H3,I3,r3,k,e,q3⟩ =>?_) hm
 subst e;cases r3;exact wpAny_truthy_bool ⟨H3,I3,q3⟩
theorem afj:(sizeLine:Nat) < 2 ^ 63:=by rw[sizeLine_eq];decide
theorem ago:OpR X (binaryOp .Add) (fun x y H Q=>∃i j,x=.str i/\y=.str j/\i.length+j.length<=sizeLine/\Q (.str (i++j)) H):=by
 intro zv s σ H x y v u Q I rx ry h;obtain⟨i,j,rfl,rfl,hz,q⟩:=h;obtain⟨t,rfl⟩:=rx;obtain⟨t',rfl⟩:=ry;exact add_str (fun t' tk=>⟨.str (i++j),H,I.tok _,⟨_,rfl⟩,q⟩) hz
theorem vals1{x:V}{us:List Value}(r:Vals [x] us):∃u,us=[u]/\RelV x u:=by
 cases r with
 | cons r1 r2=>cases r2;exact⟨_,rfl,r1⟩
theorem vals2{x y:V}{us:List Value}(r:Vals [x,y] us):∃u w',us=[u,w']/\RelV x u/\RelV y w':=by
 cases r with
 | cons r1 r2 =>
  cases r2 with
  | cons r3 r4=>cases r4;exact⟨_,_,rfl,r1,r3⟩
theorem ai3(hc:X.calm=true):zz X (.builtin "max") (fun xs H Q=>∃i j,xs=[.int i,.int j]/\Q (.int (if j > i then j else i)) H):=by
 intro zv s σ H xs us Q I r h;obtain⟨i,j,rfl,q⟩:=h;obtain⟨u,w',rfl,⟨t,rfl⟩,⟨t',rfl⟩⟩:=vals2 r;refine max_two_ints (I.ok.hd hc) fun h' tk k=>⟨_,H,I.kept k,?_,q⟩
 by_cases hj:j > i
 ·rw[if_pos hj,if_pos hj];exact⟨_,rfl⟩
 ·rw[if_neg hj,if_neg hj];exact⟨_,rfl⟩
theorem ai2(hc:X.calm=true):zz X (.builtin "min") (fun xs H Q=>∃i j,xs=[.int i,.int j]/\Q (.int (if j < i then j else i)) H):=by
 intro zv s σ H xs us Q I r h;obtain⟨i,j,rfl,q⟩:=h;obtain⟨u,w',rfl,⟨t,rfl⟩,⟨t',rfl⟩⟩:=vals2 r;refine min_two_ints (I.ok.hd hc) fun h' tk k=>⟨_,H,I.kept k,?_,q⟩
 by_cases hj:j < i
 ·rw[if_pos hj,if_pos hj];exact⟨_,rfl⟩
 ·rw[if_neg hj,if_neg hj];exact⟨_,rfl⟩
theorem ad8:zz X (.type "int") (fun xs H Q=>(∃i,xs=[.int i]/\Q (.int i) H)∨∃k,xs=[.bl k]/\Q (.int (if k then 1 else 0)) H):=by
 intro zv s σ H xs us Q I r h;rcases h with⟨i,rfl,q⟩ | ⟨k,rfl,q⟩
 ·obtain⟨u,rfl,t,rfl⟩:=vals1 r;exact call_int_int ⟨.int i,H,I,⟨_,rfl⟩,q⟩
 ·obtain⟨u,rfl,r1⟩:=vals1 r;cases r1;exact call_int_bool ⟨.int (if k then 1 else 0),H,I.tok _,⟨_,rfl⟩,q⟩
end
structure ObjM (h:Heap) (x dx C:Addr) (mA:Str->Option Value):Prop where
 obj:h.get? x=some (PySem.W.instObj C dx)
 ns:h.Ns1 dx mA
 ne:dx≠x
theorem adw{h:Heap}{dx:Addr}{mA:Str->Option Value}(n:h.Ns1 dx mA):∃od,h.get? dx=some od/\∀name,PySem.W.lookIn name od=some (mA name):=by
 obtain⟨o,es,ep,ho,hd,hk,_,hm⟩:=n;refine⟨o,ho,fun name =>?_⟩
 have e:=hm name;unfold nsFind findBy at e;rw[<-Array.find?_toList] at e;unfold PySem.W.lookIn;rw[hd];dsimp only;split
 ·rename_i y q;rw[q] at e;exact congrArg some e
 ·rename_i q;rw[q] at e;have a:es.toList.any (·.refKey)=false:=by
   rw[List.any_eq_false];intro y hy;obtain⟨z,t,hkey⟩:=hk y (Array.mem_toList_iff.mp hy);simp[DictEntry.refKey,hkey]
  have a':¬es.toList.any (·.refKey)=true:=by rw[a];exact Bool.false_ne_true
  rw[if_neg a'];exact congrArg some e
theorem ObjM.look{h:Heap}{x dx C:Addr}{mA:Str->Option Value}(I:ObjM h x dx C mA):∃od,PySem.W.InstAt h x (PySem.W.instObj C dx) C (some od)/\∀name,PySem.W.lookIn name od=some (mA name) :=
 let ⟨od,ho,hl⟩:=adw I.ns
 ⟨od,⟨I.obj,rfl,rfl,ho⟩,hl⟩
section
variable{prog:Program}{w:World}{A:Around}{E:Value->Shared->Prop}{s:Shared}{K:Fg9}{x dx C f:Addr}{mA:Str->Option Value}{name:Str}{v:Value}
end
section
variable{P:Program}{w:World}{H H':Hp}{h h':Heap}{a C dx:Addr}{fs fs':List (Str×V)}
theorem amz(hok:HOk P w H h)(e:H a=some (.ins C dx fs)):∃mA,ObjM h a dx C mA/\(∀f,RelO (fs.lookup f) (mA f))/\PySem.Within mA (fs.map (·.1))/\fs.length<=1000/\H dx=some (.own a):=by
 obtain⟨d,z,ne,ob,mA,n,r,q⟩:=(show lq P w H h a (.ins C dx fs) from hok a _ e)
 exact⟨mA,⟨ob,n,ne⟩,r,q,z,d⟩
end
structure Cls (K:Fg9) (C:Addr):Prop where
 pg:PySem.W.plainGet K C Str.empty=true
 hd:PySem.W.hasDictIn K C=true
 po:PySem.W.plainOver K C=true
 sa:findIn K (.ref C) "__setattr__" = some (some (.builtin "object.__setattr__"))
theorem Cls.get{K:Fg9}{C:Addr}(c:Cls K C)(f:Str):PySem.W.plainGet K C f=true:=c.pg
structure Con (K:Fg9) (C:Addr) (f:Str) (v:V) (u:Value):Prop where
 at_:findIn K (.ref C) f=some (some u)
 rel:RelV v u
 get:PySem.W.specialIn K u "__get__" = some none
 cp:PySem.W.copiedNames.contains f=false
structure Meth (K:Fg9) (C:Addr) (m:Str) (f:Addr):Prop where
 at_:findIn K (.ref C) m=some (some (.ref f))
 fn:PySem.W.isFn K (.ref f)=true
 kp:keepIn K (.ref f)=true
section
variable{X:Cx}{zv:List (Addr×Obj)}{σ:St}{H:Hp}{s:Shared}{a C dx:Addr}{fs:List (Str×V)}{f:Str}{v:V}{A:Around}{E:Value->Shared->Prop}
theorem anp{prog:Program}{w:World}{env:Env}{e:Expr}{f:Str}{pos:Pos}{s:Shared}{Q:Value->Shared->Prop}(hb:attributeBase e f env (eval e env)=eval e env)
  (h:wpAny (model prog w) A (eval e env) (fun o s₁=>wpAny (model prog w) A (getAttr o f true) Q E s₁) E s):wpAny (model prog w) A (eval (.Attribute e f pos) env) Q E s :=
 Attribute_any_ h (by rw[arm_eval_Attribute,hb])
end
section
variable{X:Cx}{o e value:Expr}{f:Str}{pos pos' tpos:Pos}{ta tv:TE}
end
section
variable{X:Cx}{zv:List (Addr×Obj)}{σ:St}{H:Hp}{s:Shared}{A:Around}{E:Value->Shared->Prop}{Q:Value->Shared->Prop}{c:Value}{b:Bool}
inductive TyOf (K:Fg9) (H:Hp):V->Value->Prop where
 | non:TyOf K H .non (.type "NoneType")
 | bl (x:Bool):TyOf K H (.bl x) (.type "bool")
 | int (i:Int):TyOf K H (.int i) (.type "int")
 | str (x:Str):TyOf K H (.str x) (.type "str")
 | flt (x:UInt64):TyOf K H (.flt x) (.type "float")
 | lst {a:Addr} {xs:List V} (e:H a=some (.lst xs)):TyOf K H (.ref a) (.type "list")
 | frz {a:Addr} {o:Obj} {xs:List V} (e:H a=some (.frz o (.lst xs))):TyOf K H (.ref a) (.type "list")
 | tup {a:Addr} {xs:List V} (e:H a=some (.tup xs)):TyOf K H (.ref a) (.type "tuple")
 | dK {a:Addr} {kvs:List (Key×V)} (e:H a=some (.dK kvs)):TyOf K H (.ref a) (.type "dict")
 | dT {a:Addr} {kvs:List (List Key×V)} (e:H a=some (.dT kvs)):TyOf K H (.ref a) (.type "dict")
 | ins {a C dx:Addr} {fs:List (Str×V)} (e:H a=some (.ins C dx fs)) (cl:Cls K C) (ha:findIn K (.ref C) "__class__" = some (some (.builtin "object.__class__")))
   (hn:PySem.W.specialIn K (.builtin "object.__class__") "__get__" = some (some (.builtin "getset_descriptor.__get__"))) (htk:PySem.W.takesIn K (.builtin "object.__class__")=some true)
   (hm:PySem.W.mroIn K C (.type "object")=some true):TyOf K H (.ref a) (.ref C)
theorem aic{x:V}{u t:Value}(I:Inv X zv σ H s)(rx:RelV x u)(ty:TyOf X.K H x t)(e:PySem.W.kitOne X.K t c=some b)(h:∀tk,Q (.bool b) { s with toks:=tk }) :
  wpAny (model X.prog X.w) A (call (.builtin "isinstance") [u,c]) Q E s:=by
 cases ty with
 | non=>cases(show u=Value.none from rx);exact PySem.W.kia_one PySem.W.kitx_none I.kIn True.intro e (fun z=>nomatch z) h
 | bl y=>cases(show u=Value.bool y from rx);exact PySem.W.kia_one PySem.W.kitx_bool I.kIn True.intro e (fun z=>nomatch z) h
 | int i=>obtain⟨t,q⟩:=(show ∃t,u=Value.int i t from rx);cases q;exact PySem.W.kia_one PySem.W.kitx_int I.kIn True.intro e (fun z=>nomatch z) h
 | str y=>obtain⟨t,q⟩:=(show ∃t,u=Value.str y t from rx);cases q;exact PySem.W.kia_one PySem.W.kitx_str I.kIn True.intro e (fun z=>nomatch z) h
 | flt y=>obtain⟨t,q⟩:=(show ∃t,u=Value.float y t from rx);cases q;exact PySem.W.kia_one PySem.W.kitx_float I.kIn True.intro e (fun z=>nomatch z) h
 | @lst a xs ea =>
  cases(show u=Value.ref a from rx)
  obtain⟨_,_,n,_,h1⟩:=(show lq X.prog X.w H s.heap a (.lst xs) from I.hok a _ ea)
  exact PySem.W.kia_one PySem.W.kitx_list I.kIn ⟨_,h1,rfl⟩ e (fun z=>nomatch z) h
 | @frz a ob xs ea =>
  cases(show u=Value.ref a from rx)
  obtain⟨_,_,_,n,_,h1⟩:=(show lq X.prog X.w H s.heap a (.frz ob (.lst xs)) from I.hok a _ ea)
  exact PySem.W.kia_one PySem.W.kitx_list I.kIn ⟨_,h1,rfl⟩ e (fun z=>nomatch z) h
 | @tup a xs ea =>
  cases(show u=Value.ref a from rx)
  obtain⟨_,_,_,p⟩:=(show lq X.prog X.w H s.heap a (.tup xs) from I.hok a _ ea)
  obtain⟨o,h1,h2,_⟩:=p;exact PySem.W.kia_one PySem.W.kitx_tuple I.kIn ⟨o,h1,h2⟩ e (fun z=>nomatch z) h
 | @dK a kvs ea =>
  cases(show u=Value.ref a from rx)
  obtain⟨_,_,vs,_,p⟩:=(show lq X.prog X.w H s.heap a (.dK kvs) from I.hok a _ ea)
  obtain⟨o,es,ep,h1,h2,_⟩:=p;exact PySem.W.kia_one PySem.W.kitx_dict I.kIn ⟨o,h1,h2.1⟩ e (fun z=>nomatch z) h
 | @dT a kvs ea =>
  cases(show u=Value.ref a from rx)
  obtain⟨_,_,xs,_,o,es,ep,h1,h2,_⟩:=(show lq X.prog X.w H s.heap a (.dT kvs) from I.hok a _ ea)
  exact PySem.W.kia_one PySem.W.kitx_dict I.kIn ⟨o,h1,h2.1⟩ e (fun z=>nomatch z) h
 | @ins a C dx fs ea cl ha hn htk hm =>
  cases(show u=Value.ref a from rx)
  obtain⟨mA,O,_⟩:=amz I.hok ea;obtain⟨od,J,_⟩:=O.look;exact PySem.W.kia_one (PySem.W.kitx_own (cl.get _) cl.hd ha hn htk hm) I.kIn J e (fun z=>nomatch z) h
end
structure Room (k:Nat) (A:Around):Prop where
 hd:A.handled=none
 dp:A.depth+3*k+5 < recursionLimit
 un:A.units+16*k+200 < cLine
 gd:A.guards=some []
theorem Room.mono{j k:Nat}{A:Around}(r:Room k A)(h:j<=k):Room j A:=⟨r.hd,by have:=r.dp;omega,by have:=r.un;omega,r.gd⟩
theorem Room.deeper{k:Nat}{A:Around}(r:Room (k+1) A)(env:Env):Room k (A.deeper env) :=
 ⟨r.hd,by have:=r.dp;show A.depth+1+3*k+5 < _;omega,by have:=r.un;show A.units+3+16*k+200 < _;omega,r.gd⟩
theorem ags{A:Around}{C:Addr}{us:List Value}{kw:List (Str×Value)}:(A.under (.builtin "type.__call__" ⟨.ref C::us,kw⟩)).depth=A.depth+1:=by
 first | rfl | simp[Around.under,Code.weight,Code.isCreation,Code.isGuard,Code.isCaller,Code.frames,Code.isFrame,guardIds]
theorem agr{A:Around}{C:Addr}{us:List Value}{kw:List (Str×Value)}:(A.under (.builtin "type.__call__" ⟨.ref C::us,kw⟩)).units=A.units+1:=by
 first | rfl | simp[Around.under,Code.cUnits,Code.frames,Code.isFrame]
theorem aes{A:Around}{C:Addr}{us:List Value}{kw:List (Str×Value)}:(A.under (.builtin "type.__call__" ⟨.ref C::us,kw⟩)).guards=A.guards:=by first | rfl | simp[Around.under,Code.weight,Code.isCreation,Code.isGuard,Code.isCaller,Code.frames,Code.isFrame,guardIds]
theorem Room.make{k:Nat}{A:Around}(r:Room (k+1) A)(C:Addr)(us:List Value)(kw:List (Str×Value)):Room k (A.under (.builtin "type.__call__" ⟨.ref C::us,kw⟩)) :=
 ⟨r.hd,by have:=r.dp;rw[ags];omega,by have:=r.un;rw[agr];omega,by rw[aes];exact r.gd⟩
theorem Room.depth{k:Nat}{A:Around}(r:Room k A):A.depth < recursionLimit:=by have:=r.dp;omega
theorem Room.units{k:Nat}{A:Around}(r:Room k A):A.units+64 < cLine:=by have:=r.un;omega
def tNil:TA:=fun _ H Q=>Q [] H
def ar4(ta:TE)(tr:TA):TA:=fun σ H Q=>ta σ H fun x H1=>tr σ H1 fun xs H2=>Q (x::xs) H2
section
variable{X:Cx}{e:Expr}{es:List Expr}{te:TE}{t:TA}{pos:Pos}
theorem aa2:PA X [] tNil:=fun _ _ _ _ H Q I h=>Calls.spliced_nil ⟨[],H,I,.nil,h⟩
theorem lg(ha:PE X e te)(hr:PA X es t)(hs:starEach (e::es) X.env=(false,eval e X.env)::starEach es X.env:=by rfl):PA X (e::es) (ar4 te t):=by
 intro pos zv s σ H Q I h;rw[hs];show wpAny _ _ (spliced ((false,eval e X.env)::backTo pos (starEach es X.env))) _ _ s;refine Calls.spliced_cons (thn (ha zv s σ H _ I h) fun u s1 ⟨x,H1,I1,r1,q1⟩ =>?_)
 exact thn (hr pos zv s1 σ H1 _ I1 q1) fun us s2 ⟨xs,H2,I2,r2,q2⟩=>⟨x::xs,H2,I2,.cons r1 r2,q2⟩
def tTup(t:TA):TE:=fun σ H Q=>t σ H fun xs H1=>xs.length<=sizeLine/\∀p,H1 p=none->Q (.ref p) (upd H1 p (.tup xs))
def tLst(t:TA):TE:=fun σ H Q=>t σ H fun xs H1=>xs.length<=sizeLine/\∀p,H1 p=none->Q (.ref p) (upd H1 p (.lst xs))
theorem aor{x1}(h:PA X es t):PE X (.Tuple es x1 pos) (tTup t):=by
 intro zv s σ H Q I hq;refine wpAny_Tuple_spliced (thn (h pos zv s σ H _ I hq) fun us s1 ⟨xs,H1,I1,r,z,q⟩=>⟨by rw[<-r.length];exact z,?_⟩)
 have hf:H1 s1.heap.objs.size=none:=I1.hok.fresh (Nat.le_refl _);refine⟨.ref s1.heap.objs.size,upd H1 s1.heap.objs.size (.tup xs),I1.laid (t':=s1.toks) (fun b u e=>Heap.get?_push_of_some _ e) (Nat.le_refl _) ?_,rfl,q _ hf⟩
 exact⟨z,us,r,⟨_,Heap.get?_push_size _ rfl,rfl,rfl,_,rfl⟩⟩
theorem aox(h:PA X es t):PE X (.List es pos) (tLst t):=by
 intro zv s σ H Q I hq;refine wpAny_List_spliced (thn (h pos zv s σ H _ I hq) fun us s1 ⟨xs,H1,I1,r,z,q⟩=>⟨by rw[<-r.length];exact z,?_⟩)
 have hf:H1 s1.heap.objs.size=none:=I1.hok.fresh (Nat.le_refl _);refine⟨.ref s1.heap.objs.size,upd H1 s1.heap.objs.size (.lst xs),I1.laid (t':=s1.toks) (fun b u e=>Heap.get?_push_of_some _ e) (Nat.le_refl _) ?_,rfl,q _ hf⟩
 exact⟨z,us,0,r,Heap.get?_push_size _ rfl⟩
end
abbrev Sp:=List V->Hp->VK->XK->Prop
abbrev CXT:=List Env->Hp->Shared->XK->Value->Shared->Prop
structure Env0 (P:Program) (w:World) (K:Fg9) (mg:Str->Option Value) (base:Heap) (A:Around) (outer:List Env) (s:Shared) (H:Hp):Prop where
 frames:A.frames=some outer
 mod:Mod K mg base
 bs:∀b o,base.get? b=some o->s.heap.get? b=some o/\H b=none
 bsz:base.objs.size<=s.heap.objs.size
 funs:s.heap.FunFrames base outer
 frf:∀b∈frs outer,H b=none
 hok:HOk P w H s.heap
 bare:AllBare s.gens
def CE(outer:List Env)(P:Program)(w:World)(H:Hp)(s:Shared)(Q:VK)(u:Value)(s':Shared):Prop :=
 ∃v H',s'.os=s.os/\AllBare s'.gens/\Un (frs outer) [] H H' s.heap s'.heap/\HOk P w H' s'.heap/\RelV v u/\Q v H'
def CR(CX:CXT)(outer:List Env)(P:Program)(w:World)(H:Hp)(s:Shared)(Q:VK)(E:XK)(r:Result)(s':Shared):Prop :=
 match r with
 | .ok (.ret u)=>CE outer P w H s Q u s'
 | .ok _=>False
 | .error e=>CX outer H s E e s'
structure FnOk (P:Program) (w:World) (K:Fg9) (mg:Str->Option Value) (base:Heap) (CX:CXT) (k:Nat) (f:Addr) (fd:FuncData) (ps:List Str) (sp:Sp):Prop where
 len:∀vs H Q E,sp vs H Q E->vs.length=ps.length
 run:∀(A:Around) (outer:List Env) (s:Shared) (H:Hp) (args:Args) (us:List Value) (vs:List V) (Q:VK) (E:XK),Room k A->Env0 P w K mg base A outer s H->BindsTo s fd args (ps.zip us)->Vals vs us->sp vs H Q E ->
  codeAny (model P w) A (.call (.ref f) args) (CR CX outer P w H s Q E) s
theorem Env0.make{P:Program}{w:World}{K:Fg9}{mg:Str->Option Value}{base:Heap}{A:Around}{outer:List Env}{s:Shared}{H:Hp}(e:Env0 P w K mg base A outer s H)(C:Addr)(us:List Value)(kw:List (Str×Value)) :
  Env0 P w K mg base (A.under (.builtin "type.__call__" ⟨.ref C::us,kw⟩)) outer s H:=⟨by first | exact e.frames | (simpa[Around.under,Code.envs,Code.isFrame,pushEnvs] using e.frames),e.mod,e.bs,e.bsz,e.funs,e.frf,e.hok,e.bare⟩
section
variable{X:Cx}{zv:List (Addr×Obj)}{σ:St}{H:Hp}{s s':Shared}
theorem Inv.env0(I:Inv X zv σ H s):Env0 X.prog X.w X.K X.mg X.base X.A X.stack s H :=
 ⟨I.ok.frames,I.ok.mod,I.bs,Nat.le_trans I.ok.bsz I.sz,I.stack,I.stkFree,I.hok,I.bare⟩
theorem Inv.after{Q:VK}{u:Value}(I:Inv X zv σ H s)(h:CE X.stack X.prog X.w H s Q u s'):EP X zv σ Q u s':=by
 obtain⟨v,H',os,bare,un,hok,r,q⟩:=h;obtain⟨hh,g,d,t,os'⟩:=s';obtain rfl:os'=s.os:=os;exact⟨v,H',I.call (h':=hh) (g':=g) (d':=d) (t':=t) (ch:=[]) un hok bare (fun b z=>absurd z (by simp)),r,q⟩
end
def alp(sp:Sp)(dvs:List V)(E:XK)(t:TA):TE:=fun σ H Q=>t σ H fun vs H1=>sp (vs++dvs) H1 Q E
def Binds(K:Fg9)(fd:FuncData)(ps:List Str)(ds:List Value):Prop :=
 ∀(s:Shared) (us:List Value),K.In s.heap->(us++ds).length=ps.length->BindsTo s fd ⟨us,[]⟩ (ps.zip (us++ds))
theorem Binds.all{K:Fg9}{fd:FuncData}{ps:List Str}(h:∀us:List Value,us.length=ps.length->bindArgs fd ⟨us,[]⟩=pure (ps.zip us)):Binds K fd ps []:=fun s us _ hl=>by
 rw[List.append_nil] at hl ⊢
 exact .of_eq (h us hl)
def ajb(CX:CXT)(X:Cx)(E:XK):Prop:=∀(zv:List (Addr×Obj)) (σ:St) (H:Hp) (s:Shared) (e:Value) (s':Shared),Inv X zv σ H s->CX X.stack H s E e s'->X.xe e s'
section
variable{X:Cx}{CX:CXT}{k:Nat}{f C:Addr}{fd:FuncData}{ps:List Str}{sp:Sp}{dvs:List V}{ds:List Value}{E:XK}{x m:Str}{p pos apos:Pos}{e o:Expr}{es:List Expr}{ta:TE}{t:TA}
theorem aog{zv:List (Addr×Obj)}{σ:St}{H:Hp}{s:Shared}{Q:VK}{us:List Value}{vs:List V}(F:FnOk X.prog X.w X.K X.mg X.base CX k f fd ps sp)(hr:Room k X.A)(hb:Binds X.K fd ps ds)(hd:Vals dvs ds)(hx:ajb CX X E)
  (I:Inv X zv σ H s) (r:Vals vs us) (h:sp (vs++dvs) H Q E):wpAny (model X.prog X.w) X.A (call (.ref f) us) (EP X zv σ Q) X.xe s:=by
 have r2:Vals (vs++dvs) (us++ds):=r.append hd;have hl:(us++ds).length=ps.length:=by rw[<-r2.length];exact F.len _ _ _ _ h
 refine wpAny_call (codeAny_mono (F.run X.A X.stack s H ⟨us,[]⟩ (us++ds) (vs++dvs) Q E hr I.env0 (hb s us I.kIn hl) r2 h) fun r s' hq =>?_)
 cases r with
 | error e=>exact hx zv σ H s e s' I hq
 | ok fl =>
  cases fl with
  | ret u=>exact I.after hq
  | next=>exact False.elim hq
  | brk=>exact False.elim hq
  | cont=>exact False.elim hq
theorem al9(F:FnOk X.prog X.w X.K X.mg X.base CX k f fd ps sp)(hr:Room k X.A)(hg:Gl X x)(hm:X.mg x=some (.ref f))(hk:keepIn X.K (.ref f)=true)(hb:Binds X.K fd ps ds)(hd:Vals dvs ds)(hx:ajb CX X E)
  (ha:PA X (e::es) t) (hdb:(x==("__debug__" : Str))=false:=by decide) (he:starEach (e::es) X.env=(false,eval e X.env)::starEach es X.env:=by rfl) (hpl:(backTo pos (starEach es X.env)).any (·.1)=false:=by rfl) :
  PE X (.Call (.Name x p) (e::es) [] pos) (alp sp dvs E t):=by
 intro zv s σ H Q I h;refine wpAny_Call_Name_kw (zr I hg hm ?_ hdb);refine PySem.W.callWith_K (h₀:=X.base) I.ok.mod.kin hk (thn (ha pos zv s σ H _ I h) fun us s1 ⟨vs,H1,I1,r,q⟩=>⟨I1.kIn,?_⟩) he hpl
 exact aog F hr hb hd hx I1 r q
structure Mk (K:Fg9) (C f:Addr):Prop where
 makes:PySem.W.makesIn K C=true
 init:findIn K (.ref C) "__init__" = some (some (.ref f))
 fn:PySem.W.isFn K (.ref f)=true
 kp:keepIn K (.ref C)=true
end
section
variable{X:Cx}{CX:CXT}{k:Nat}{f C:Addr}{fd:FuncData}{ps ks:List Str}{sp:Sp}{E:XK}{x m:Str}{p pos apos kpos:Pos}{e o:Expr}{es:List Expr}{kws:List Keyword}{te ta:TE}{t tk:TA}{nm:Option Str}
structure KBinds (K:Fg9) (fd:FuncData) (ps ks:List Str) (g:List Value->List Value->List Value) (gV:List V->List V->List V):Prop where
 to:∀(s:Shared) (us ws:List Value),K.In s.heap->(g us ws).length=ps.length->BindsTo s fd ⟨us,ks.zip ws⟩ (ps.zip (g us ws))
 rel:∀{vs:List V} {us:List Value} {zs:List V} {ws:List Value},Vals vs us->Vals zs ws->Vals (gV vs zs) (g us ws)
variable{g:List Value->List Value->List Value}{gV:List V->List V->List V}
end
structure FnScope (N P:List Str) (sc:Scope):Prop where
 kind:sc.kind=.function
 co:sc.isCoroutine=false
 gen:sc.isGenerator=false
 nd:N.Nodup
 pre:N.take P.length=P
 par:∀x∈P,sc.names.lookup x=some .local∨sc.names.lookup x=some .cell
 nofree:∀y∈sc.names,y.2≠.free
theorem aec{kindOf:Str->Option NameKind}{x:Str}:∀{binds:List (Str×Value)} {m:Str->Option Value},(∀v,(x,v)∉binds)->bindL kindOf binds m x=m x
 | [],_,_=>rfl
 | (n,v)::r,m,h=>by
  unfold bindL;rw[aec fun w hw=>h w (List.mem_cons_of_mem _ hw)]
  split
  ·have:x≠n:=by rintro rfl;exact h v List.mem_cons_self
   simp[this]
  ·rfl
theorem aee{kindOf:Str->Option NameKind}{x:Str}:∀{binds:List (Str×Value)} {m:Str->Option Value},(∀v,(x,v)∉binds)->bindC kindOf binds m x=m x
 | [],_,_=>rfl
 | (n,v)::r,m,h=>by
  unfold bindC;rw[aee fun w hw=>h w (List.mem_cons_of_mem _ hw)]
  split
  ·rfl
  ·have:x≠n:=by rintro rfl;exact h v List.mem_cons_self
   simp[this]
theorem aed{kindOf:Str->Option NameKind}{x:Str}{v:Value}:∀{P:List Str} {vs:List Value} {i:Nat} {m:Str->Option Value},P.Nodup->P[i]? = some x->vs[i]? = some v->kindOf x=some .local ->
  bindL kindOf (P.zip vs) m x=some v
 | [],_,_,_,_,h,_,_=>by simp at h
 | _::_,[],_,_,_,_,h,_=>by simp at h
 | p::P,w::vs,0,m,nd,h1,h2,hk=>by
  simp at h1 h2;subst h1;subst h2;show bindL kindOf ((p,w)::P.zip vs) m p=_;unfold bindL;rw[aec fun v hv=>(List.nodup_cons.mp nd).1 (List.of_mem_zip hv).1,if_pos hk]
  simp
 | p::P,w::vs,i+1,m,nd,h1,h2,hk=>by
  show bindL kindOf ((p,w)::P.zip vs) m x=_;unfold bindL;exact aed (i:=i) (List.nodup_cons.mp nd).2 (by simpa using h1) (by simpa using h2) hk
theorem aef{kindOf:Str->Option NameKind}{x:Str}{v:Value}:∀{P:List Str} {vs:List Value} {i:Nat} {m:Str->Option Value},P.Nodup->P[i]? = some x->vs[i]? = some v->kindOf x≠some .local ->
  bindC kindOf (P.zip vs) m x=some v
 | [],_,_,_,_,h,_,_=>by simp at h
 | _::_,[],_,_,_,_,h,_=>by simp at h
 | p::P,w::vs,0,m,nd,h1,h2,hk=>by
  simp at h1 h2;subst h1;subst h2;show bindC kindOf ((p,w)::P.zip vs) m p=_;unfold bindC;rw[aee fun v hv=>(List.nodup_cons.mp nd).1 (List.of_mem_zip hv).1,if_neg hk]
  simp
 | p::P,w::vs,i+1,m,nd,h1,h2,hk=>by
  show bindC kindOf ((p,w)::P.zip vs) m x=_;unfold bindC;exact aef (i:=i) (List.nodup_cons.mp nd).2 (by simpa using h1) (by simpa using h2) hk
def start(N:List Str)(vs:List V):St:=vs.map some++List.replicate (N.length - vs.length) none
def cxOf(CX:CXT)(P:Program)(w:World)(K:Fg9)(mg:Str->Option Value)(base:Heap)(N:List Str)(qual:Str)(scope:Scope)(f:Addr)(cd:Value)(A:Around)(outer:List Env)(s:Shared)(H:Hp)(E:XK):Cx where
 prog:=P
 w:=w
 K:=K
 mg:=mg
 base:=base
 A:=A.deeper (envOfC qual scope s.heap.objs.size f cd)
 N:=N
 s₀:=s
 H₀:=H
 env:=envOfC qual scope s.heap.objs.size f cd
 outer:=outer
 stack:=envOfC qual scope s.heap.objs.size f cd::outer
 ex:=[]
 calm:=true
 fn:=fun _=>true
 pn:=[]
 xe:=fun e s'=>wpAny (model P w) (A.deeper (envOfC qual scope s.heap.objs.size f cd)) (leaving (envOfC qual scope s.heap.objs.size f cd) e) (fun _ s''=>CX outer H s E e s'') (fun e' s''=>CX outer H s E e' s'') s'
theorem af7{sc:Scope}{n:Nat}{x:Str}(h:sc.names.lookup x=some .cell):∃c,(cellsFrom n sc.names []).lookup x=some c:=by
 have q:=PySem.W.cellsFrom_some sc.names n [] (.inl h);exact Option.isSome_iff_exists.mp q
theorem ady{CX:CXT}{P:Program}{w:World}{K:Fg9}{mg:Str->Option Value}{base:Heap}{N ps:List Str}{qual:Str}{scope:Scope}{f:Addr}{cd:Value}{A:Around}{outer:List Env}{s s1:Shared}{H:Hp}{E:XK}{us:List Value}{vs:List V}
  (S:FnScope N ps scope) (hd:A.handled=none) (e0:Env0 P w K mg base A outer s H) (hl:vs.length=ps.length) (r:Vals vs us)
  (x:InCallC s s.heap.objs.size (bindL (envOfC qual scope s.heap.objs.size f cd).kindOf (ps.zip us) fun _=>none) (cellsFrom (s.heap.objs.size+1) scope.names []) (bindC (envOfC qual scope s.heap.objs.size f cd).kindOf (ps.zip us) fun _=>none) s1) :
  Inv (cxOf CX P w K mg base N qual scope f cd A outer s H E) [] (start N vs) H s1:=by
 have hpl:ps.length<=N.length:=by have:=congrArg List.length S.pre;rw[List.length_take] at this;omega
 obtain⟨h1,tk,rfl,hk⟩:=x.done;have noA:∀b:Addr,b∉(cxOf CX P w K mg base N qual scope f cd A outer s H E).ex:=fun b z=>absurd (show b∈([]:List Addr) from z) (by simp)
 refine⟨⟨e0.mod,S.kind,rfl,rfl,Nat.le_refl _,fun y z c h1 h2 =>?_,fun y hy =>?_,fun y c _ h =>?_,fun _=>hd,Around.frames_deeper e0.frames,.inr ⟨rfl,rfl⟩,fun b z=>absurd z (noA b),e0.bs,e0.bsz,fun b _ _=>noA b,fun b z=>absurd z (noA b),e0.funs,e0.frf⟩,
  rfl,e0.bare,Un.kept hk,⟨_,x.toInCall.ns,fun i y v h1 h2 h3 =>?_⟩,fun y c h=>⟨_,x.cell y c h⟩,e0.hok.fresh (Nat.le_refl _),fun y c h =>?_,fun p hp=>absurd (show p∈([]:List (Addr×Obj)) from hp) (by simp),e0.hok.kept hk,?_⟩
 ·exact name_of_addr x.apart (PySem.mem_of_lookup h1) (PySem.mem_of_lookup h2)
 ·have hy:scope.names.lookup y=some .cell∨scope.names.lookup y=some .free:=hy;rcases hy with hy | hy
  ·exact af7 hy
  ·exact absurd rfl (S.nofree _ (PySem.mem_of_lookup hy))
 ·exact Nat.le_of_lt (x.above y c (PySem.mem_of_lookup h))
 ·have hi:i < vs.length:=by
   unfold start at h2
   by_cases hi:i < vs.length
   ·exact hi
   ·rw[List.getElem?_append_right (by simpa using hi)] at h2
    rw[List.getElem?_replicate] at h2;split at h2 <;> cases h2
  have ha:vs[i]? = some v:=by
   unfold start at h2;rw[List.getElem?_append_left (by simpa using hi),List.getElem?_map] at h2
   cases e:vs[i]? with
   | none=>rw[e] at h2;cases h2
   | some a=>rw[e] at h2;cases h2;rfl
  obtain⟨u,hu,rv⟩:=r.get ha;have hp:ps[i]? = some y:=by
   rw[<-S.pre,List.getElem?_take_of_lt (by omega)];exact h1
  have ndP:ps.Nodup:=by rw[<-S.pre];exact S.nd.sublist (List.take_sublist _ _)
  refine⟨u,rv,?_⟩;rcases S.par y (List.mem_of_getElem? hp) with k | k
  ·exact .inl ⟨k,aed ndP hp hu k⟩
  ·obtain⟨c,e⟩:=af7 (n:=s.heap.objs.size+1) k;refine .inr ⟨.inl k,c,e,?_⟩;have q:=x.cell y c e;rw[aef ndP hp hu (by show scope.names.lookup y≠_;rw[k];decide)] at q
   exact q
 ·exact e0.hok.fresh (Nat.le_of_lt (x.above y c (PySem.mem_of_lookup h)))
 ·unfold start;show _=N.length;rw[List.length_append,List.length_map,List.length_replicate];omega
theorem aqc{CX:CXT}{P:Program}{w:World}{K:Fg9}{mg:Str->Option Value}{base:Heap}{k:Nat}{f:Addr}{name qual:Str}{params:Arguments}{body:List Stmt}{scope:Scope}{dV kV doc pm cdv ct oc:Value}{an od:Option Addr}
  {osl:Array (Option Value)} {N ps:List Str} {sp:Sp} (lk:K.lookup f=some ⟨oc,od,.func (fnOf name qual params body scope dV kV doc pm an cdv ct),osl⟩) (hcd:codeIn K cdv qual=true) (S:FnScope N ps scope)
  (len:∀vs H Q E,sp vs H Q E->vs.length=ps.length)
  (hbody:∀(A:Around) (outer:List Env) (s:Shared) (H:Hp) (vs:List V) (Q:VK) (E:XK),Room k (A.deeper (envOfC qual scope s.heap.objs.size f cdv))->sp vs H Q E ->
   ∃t,PSs (cxOf CX P w K mg base N qual scope f cdv A outer s H E) body t/\t { nx:=fun _ H'=>Q .non H',rt:=Q } (start N vs) H) :
  FnOk P w K mg base CX (k+1) f (fnOf name qual params body scope dV kV doc pm an cdv ct) ps sp:=by
 refine⟨len,fun A outer s H args us vs Q E hr e0 hb r hsp =>?_⟩
 have hl:=len _ _ _ _ hsp;have KX:K.In s.heap:=e0.mod.kin.keeps fun b o e=>(e0.bs b o e).1
 have lim:s.heap.NoLimit:=e0.mod.nolimit.keeps fun b o e=>(e0.bs b o e).1
 have hkind:∀y∈ps.zip us,scope.names.lookup y.1=some .local∨(scope.names.lookup y.1=some .cell/\((cellsFrom (s.heap.objs.size+1) scope.names []).lookup y.1).isSome=true):=fun⟨n,v⟩ hy=>by
  rcases S.par n (List.of_mem_zip hy).1 with q | q
  ·exact .inl q
  ·exact .inr ⟨q,PySem.W.cellsFrom_some _ _ _ (.inl q)⟩
 refine codeAny_call_function hr.depth (KX _ _ lk) rfl S.co S.gen rfl (PySem.W.codeRec_of KX hcd) (hb _ _ _ _ ?_);refine wpAny_newFunctionEnv_cells S.kind hkind fun env he s1 x =>?_
 subst he;refine⟨lim.keeps x.toInCall.keep,codeAny_func ?_⟩;obtain⟨t,ht,hq⟩:=hbody A outer s H vs Q E (hr.deeper _) hsp;have I:Inv (cxOf CX P w K mg base N qual scope f cdv A outer s H E) [] (start N vs) H s1:=ady S hr.hd e0 hl r x;refine wpAny_mono (ht [] s1 (start N vs) H _ I hq) (fun fl s' hs =>?_) fun e s' hs=>hs
 have fin:∀{σ':St} {H':Hp} {v:V} {u:Value},Inv (cxOf CX P w K mg base N qual scope f cdv A outer s H E) [] σ' H' s'->RelV v u->Q v H'->CE outer P w H s Q u s' :=
  fun{σ' H' v u} J rv q=>⟨v,H',J.os,J.bare,J.base,J.hok,rv,q⟩
 cases fl with
 | ret u =>
  obtain⟨v,σ',H',J,rv,q⟩:=hs;exact fin J rv q
 | next =>
  obtain⟨σ',H',J,q⟩:=hs;exact fin (v:=V.non) (u:=Value.none) J rfl q
 | brk =>
  obtain⟨_,_,_,q⟩:=hs;exact False.elim q
 | cont =>
  obtain⟨_,_,_,q⟩:=hs;exact False.elim q
section
variable{X:Cx}{x:Str}{p pos:Pos}{e:Expr}{es:List Expr}{t:TA}{id T:String}{r:List V->Hp->VK->Prop}
def tCB(r:List V->Hp->VK->Prop)(t:TA):TE:=fun σ H Q=>t σ H fun vs H1=>r vs H1 Q
theorem aam(hc:zz X (.builtin id) r)(hg:Gl X x)(hm:X.mg x=none)(hv:bootBuiltins x=some (.builtin id))(ha:PA X (e::es) t)(hn:x ≠ "__name__" := by decide)(hdb:(x==("__debug__" : Str))=false:=by decide)
  (he:starEach (e::es) X.env=(false,eval e X.env)::starEach es X.env:=by rfl) (hpl:(backTo pos (starEach es X.env)).any (·.1)=false:=by rfl):PE X (.Call (.Name x p) (e::es) [] pos) (tCB r t):=by
 intro zv s σ H Q I h;refine wpAny_Call_Name_kw (ab6 I hg hm hv ?_ hn hdb);exact PyProof.Rows.callWith_builtin1 (thn (ha pos zv s σ H _ I h) fun us s1 ⟨vs,H1,I1,r1,q1⟩=>hc zv s1 σ H1 vs us Q I1 r1 q1) he hpl
theorem ahv(hc:zz X (.type T) r)(hg:Gl X x)(hm:X.mg x=none)(hv:bootBuiltins x=some (.type T))(ha:PA X (e::es) t)(hn:x ≠ "__name__" := by decide)(hdb:(x==("__debug__" : Str))=false:=by decide)
  (he:starEach (e::es) X.env=(false,eval e X.env)::starEach es X.env:=by rfl) (hpl:(backTo pos (starEach es X.env)).any (·.1)=false:=by rfl):PE X (.Call (.Name x p) (e::es) [] pos) (tCB r t):=by
 intro zv s σ H Q I h;refine wpAny_Call_Name_kw (ab6 I hg hm hv ?_ hn hdb);exact PyProof.Rows.callWith_type1 (thn (ha pos zv s σ H _ I h) fun us s1 ⟨vs,H1,I1,r1,q1⟩=>hc zv s1 σ H1 vs us Q I1 r1 q1) he hpl
end
end L2
namespace HT
open PySem PyProof.Rows
section
open PySem.SeqAt
open PySem.AutoSeq1 (wpAny_loadPart')
open PySem.MeetsSeq PySem.MeetsSeq2 PySem.MeetsSeq3
end
section
variable{prog:Program}{w:World}{A:Around}{E:Value->Shared->Prop}{s:Shared}
theorem anm{t b:Addr}{vs ws:List Value}{Q:Value->Shared->Prop}(ht:IsTup s.heap t vs.toArray)(hb:IsTup s.heap b ws.toArray)(hv:vs≠[])
  (h1:ws=[]->Q (.ref t) s) (h2:ws≠[]->Q (.ref s.heap.objs.size) { s with heap:=s.heap.push { cls:=.type "tuple", data:=.seq (vs++ws).toArray } })
  (hsz:vs.length+ws.length<=sizeLine):wpAny (model prog w) A (binaryOp .Add (.ref t) (.ref b)) Q E s:=by
 obtain⟨⟨cls,dd,data,sl⟩,ho,hc,n,hd⟩:=id ht;obtain⟨⟨cls2,dd2,data2,sl2⟩,ho2,hc2,n2,hd2⟩:=id hb;simp only at hc hd hc2 hd2;subst hc hd hc2 hd2;have e:vs.toArray++ws.toArray=(vs++ws).toArray:=by simp
 by_cases hw:ws=[]
 ·exact concat_meets ⟨_,ho,rfl⟩ ⟨_,ho2,rfl⟩ noFill_tuple_add seq_tuple_add PySem.F.slot_tuple_add PySem.F.entry_tuple_add (PySem.F.args_tuple_add_2 _ _)
   (tuple_addW1 t b vs.toArray ws.toArray n n2 dd dd2 sl sl2 (by simpa using hv) (by simp[hw])) ⟨ho,ho2,h1 hw⟩
 ·refine concat_meets ⟨_,ho,rfl⟩ ⟨_,ho2,rfl⟩ noFill_tuple_add seq_tuple_add PySem.F.slot_tuple_add PySem.F.entry_tuple_add (PySem.F.args_tuple_add_2 _ _)
   (tuple_addW2 t b vs.toArray ws.toArray n n2 dd dd2 sl sl2 (by simpa using hv) (by simpa using hw) (by rw[List.size_toArray,List.size_toArray];exact hsz)) ⟨ho,ho2,?_⟩
  rw[e];exact h2 hw
def sIx(n d:Nat):Option Int->Nat
 | none=>d
 | some v=>if v < 0 then (v+(n:Int)).toNat else min v.toNat n
theorem aoe(n d:Nat)(hd:d<=n)(o:Option Int):sIx n d o<=n:=by
 cases o with
 | none=>exact hd
 | some v =>
  show(if v < 0 then (v+(n:Int)).toNat else min v.toNat n)<=n
  by_cases hv:v < 0
  ·rw[if_pos hv];omega
  ·rw[if_neg hv];exact Nat.min_le_right _ _
theorem aiy(v:Int)(n d:Nat):(if v < 0 then max (v+(n:Int)) 0 else min v (n:Int))=((sIx n d (some v):Nat):Int):=by
 show(if v < 0 then max (v+(n:Int)) 0 else min v (n:Int))=(((if v < 0 then (v+(n:Int)).toNat else min v.toNat n):Nat):Int)
 by_cases hv:v < 0
 ·simp only[if_pos hv];omega
 ·simp only[if_neg hv];omega
theorem agz(lo hi:Option Int)(n:Nat):Builtin.Slice.sliceAdjust lo hi 1 (n:Int)=(((sIx n 0 lo:Nat):Int),((sIx n n hi:Nat):Int)):=by
 have h1:¬((1:Int) < 0):=by omega
 unfold Builtin.Slice.sliceAdjust;simp only[h1,if_false];refine Prod.ext ?_ ?_
 ·cases lo with
  | none=>rfl
  | some v=>exact aiy v n 0
 ·cases hi with
  | none=>rfl
  | some v=>exact aiy v n n
theorem agl(i j:Nat):Builtin.Slice.slicePlaces (i:Int) (j:Int) 1=j - i:=by
 unfold Builtin.Slice.slicePlaces;have h1:(1:Int) > 0:=by omega
 simp only[h1,if_true,Int.ediv_one];split <;> omega
theorem abv{v:Value}{o:Option Int}{Q:Option Int->Shared->Prop}(p:IsPart v o)(h:Q o s):wpAny (model prog w) A (Builtin.Slice.slicePartIndex v) Q E s:=by
 cases p with
 | none=>exact slicePart_none h
 | int i t=>exact slicePart_int h
theorem ud{sl:Addr}{vl vu:Value}{lo hi:Option Int}{n:Nat}{Q:Int×Int×Nat->Shared->Prop}(hs:s.heap.IsSliceOf sl vl vu .none)(pl:IsPart vl lo)(pu:IsPart vu hi)
  (h:Q (((sIx n 0 lo:Nat):Int),1,sIx n n hi - sIx n 0 lo) s):wpAny (model prog w) A (Builtin.Slice.sliceApplied (.ref sl) (pure (n:Int))) Q E s:=by
 obtain⟨os,hos,hcs,hds⟩:=id hs;unfold Builtin.Slice.sliceApplied Builtin.Slice.sliceFields;refine wpAny_bind (wpAny_bind (wpAny_field hos hds (x:=vl) rfl (wpAny_bind (wpAny_field hos hds (x:=vu) rfl (wpAny_bind (wpAny_field hos hds (x:=.none) rfl (wpAny_pure ?_)))))));refine wpAny_bind (slicePart_none ?_);show wpAny _ _ (if ((1:Int)==0)=true then _ else _) _ _ s
 rw[if_neg (by decide)]
 refine wpAny_bind (abv pl (wpAny_bind (abv pu (wpAny_bind (wpAny_pure ?_)))));show wpAny _ _ (match Builtin.Slice.sliceAdjust lo hi 1 (n:Int) with | (lo,hi)=>pure (lo,(1:Int),Builtin.Slice.slicePlaces lo hi 1)) _ _ s
 rw[agz lo hi n];show wpAny _ _ (pure (((sIx n 0 lo:Nat):Int),(1:Int),Builtin.Slice.slicePlaces ((sIx n 0 lo:Nat):Int) ((sIx n n hi:Nat):Int) 1)) _ _ s;rw[agl];exact wpAny_pure h
theorem ajh(xs:Array Value)(i k:Nat):((List.range k).filterMap fun(m:Nat)=>xs[((i:Int)+(m:Int)*1).toNat]?).toArray=((xs.toList.drop i).take k).toArray:=by
 have e:(fun(m:Nat)=>xs[((i:Int)+(m:Int)*1).toNat]?)=fun m=>xs[i+m]? := by
  funext m
  have:((i:Int)+(m:Int)*1).toNat=i+m:=by omega
  rw[this]
 rw[e];have:=pick_run xs i k;rw[List.filterMap_map] at this;have e2:((fun x=>xs[x]?)∘fun x=>i+x)=fun m=>xs[i+m]? := rfl
 rw[e2] at this;rw[this]
theorem zx{t sl:Addr}{items:Array Value}{vl vu:Value}{lo hi:Option Int}{Q:Value->Shared->Prop}(ht:IsTup s.heap t items)(hs:s.heap.IsSliceOf sl vl vu .none)(pl:IsPart vl lo)(pu:IsPart vu hi)
  (hw:¬(sIx items.size 0 lo=0/\sIx items.size items.size hi=items.size))
  (h:Q (.ref s.heap.objs.size) { s with heap:=s.heap.push { cls:=.type "tuple", data:=.seq ((items.toList.drop (sIx items.size 0 lo)).take (sIx items.size items.size hi - sIx items.size 0 lo)).toArray } })
  (hsz:items.size<=sizeLine):wpAny (model prog w) A (getItem (.ref t) (.ref sl)) Q E s:=by
 have htake:sizeOk (.seq ((items.toList.drop (sIx items.size 0 lo)).take (sIx items.size items.size hi - sIx items.size 0 lo)).toArray):=by
  show((items.toList.drop (sIx items.size 0 lo)).take (sIx items.size items.size hi - sIx items.size 0 lo)).toArray.size<=sizeLine;rw[List.size_toArray,List.length_take,List.length_drop,Array.length_toList];omega
 have hj:sIx items.size items.size hi<=items.size:=aoe _ _ (Nat.le_refl _) hi;obtain⟨os,hos,hcs,hds⟩:=id hs;have hTs:s.TypeIs (.ref sl) "slice" := ⟨os,hos,hcs⟩;unfold getItem
 try with_reducible refine wpAny_holding ?_
 first | refine wpAny_bind (wpAny_pure ?_) | skip
 refine wpAny_bind (wpAny_sequenceKey ht.typeIs (by decide) ?_)
 refine wpAny_bind (wpAny_callSpecial?_slot (name:=Str.ofString "__getitem__") ht.typeIs PyProof.Rows.slot_tuple_getitem
  (wpAny_call_entry PyProof.Rows.slot_tuple_getitem ht.typeIs entry_tuple_getitem ?_ (args_tuple_getitem _ _)))
 show wpAny _ _ (Builtin.Tuple.tupleItemsOf (.ref t) >>= _) _ _ s;refine wpAny_bind (tupleItemsOf_ ht ?_);refine wpAny_bind (wpAny_typeOf hTs ?_);rw[if_pos (by decide)]
 refine wpAny_bind (ud hs pl pu ?_);have hno:¬((((sIx items.size 0 lo:Nat):Int)==0&&(1:Int)==1&&(sIx items.size items.size hi - sIx items.size 0 lo)==items.size)=true):=by
  intro q;rw[Bool.and_eq_true,Bool.and_eq_true] at q;have q1:((sIx items.size 0 lo:Nat):Int)=0:=eq_of_beq q.1.1;have q2:sIx items.size items.size hi - sIx items.size 0 lo=items.size:=eq_of_beq q.2;exact hw ⟨by omega,by omega⟩
 show wpAny _ _ (if (((sIx items.size 0 lo:Nat):Int)==0&&(1:Int)==1&&(sIx items.size items.size hi - sIx items.size 0 lo)==items.size)=true then _ else _) _ _ s
 rw[if_neg hno,ajh]
 first
  | exact wpAny_bind (m:=Builtin.Tuple.tupleExact _) (wpAny_newObj_type (wpAny_pure ⟨_,rfl,wpAny_pure h⟩) htake)
  | exact wpAny_bind (m:=Builtin.Tuple.tupleExact _) (wpAny_newObj_type (wpAny_bind (wpAny_pure (wpAny_pure ⟨_,rfl,wpAny_pure h⟩))) htake)
  | exact wpAny_bind (wpAny_bind (m:=Builtin.Tuple.tupleExact _) (wpAny_newObj_type (wpAny_pure (wpAny_pure ⟨_,rfl,wpAny_pure h⟩)) htake))
  | exact wpAny_bind (wpAny_bind (m:=Builtin.Tuple.tupleExact _) (wpAny_newObj_type (wpAny_pure ⟨_,rfl,wpAny_pure h⟩) htake))
end
end HT
namespace L2
abbrev TO:=St->Hp->(Option Int->Hp->Prop)->Prop
def PO(X:Cx)(e:Option Expr)(t:TO):Prop :=
 ∀(zv:List (Addr×Obj)) (s:Shared) (σ:St) (H:Hp) (Q:Option Int->Hp->Prop),Inv X zv σ H s->t σ H Q ->
  wpAny (model X.prog X.w) X.A (evalPart e X.env) (fun u s'=>∃o H',Inv X zv σ H' s'/\IsPart u o/\Q o H') X.xe s
def alo:TO:=fun _ H Q=>Q none H
def arx(t:TE):TO:=fun σ H Q=>t σ H fun x H1=>∃i,x=.int i/\Q (some i) H1
section
variable{X:Cx}{e:Expr}{te:TE}{lo hi:Option Expr}{tl th:TO}{pos p2:Pos}
theorem al1:PO X none alo:=by
 intro zv s σ H Q I h;rw[evalPart_none];exact wpAny_pure ⟨none,H,I,.none,h⟩
theorem al0(h:PE X e te):PO X (some e) (arx te):=by
 intro zv s σ H Q I hw;rw[evalPart_some];refine thn (h zv s σ H _ I hw) fun u s1 ⟨x,H1,I1,r1,q1⟩ =>?_
 obtain⟨i,rfl,q⟩:=q1;obtain⟨t,rfl⟩:=r1;exact⟨some i,H1,I1,.int i t,q⟩
def SlR(X:Cx)(r:V->Option Int->Option Int->Hp->VK->Prop):Prop :=
 ∀(zv:List (Addr×Obj)) (s:Shared) (σ:St) (H:Hp) (x:V) (v vl vu:Value) (lo hi:Option Int) (sl:Addr) (Q:VK),Inv X zv σ H s->RelV x v->s.heap.IsSliceOf sl vl vu .none->IsPart vl lo->IsPart vu hi->r x lo hi H Q ->
  ∃T id,typeLookup (.type T) "__getitem__" = pure (some (.builtin id))/\s.TypeIs v T/\wpAny (model X.prog X.w) X.A (getItem v (.ref sl)) (EP X zv σ Q) X.xe s
def tSl(r:V->Option Int->Option Int->Hp->VK->Prop)(te:TE)(tl th:TO):TE:=fun σ H Q=>te σ H fun x H1=>tl σ H1 fun l H2=>th σ H2 fun u H3=>r x l u H3 Q
theorem ajk{r:V->Option Int->Option Int->Hp->VK->Prop}(hr:SlR X r)(he:PE X e te)(hl:PO X lo tl)(hu:PO X hi th):PE X (.Subscript e (.Slice lo hi none p2) pos) (tSl r te tl th):=by
 intro zv s σ H Q I h;refine Subscript_ (thn (he zv s σ H _ I h) fun v s1 ⟨x,H1,I1,r1,q1⟩ =>?_)
 refine wpAny_Slice (thn (hl zv s1 σ H1 _ I1 q1) fun vl s2 ⟨l,H2,I2,pl,q2⟩=>thn (hu zv s2 σ H2 _ I2 q2) fun vu s3 ⟨u,H3,I3,pu,q3⟩ =>?_)
 rw[evalPart_none];refine wpAny_pure ?_;have I4:Inv X zv σ H3 { s3 with heap:=s3.heap.push { cls:=.type "slice", data:=.fields #[vl,vu,.none] } }:=I3.kept (t':=s3.toks) fun b ob q=>Heap.get?_push_of_some _ q
 obtain⟨T,id,hT,ht,hg⟩:=hr zv { s3 with heap:=s3.heap.push { cls:=.type "slice", data:=.fields #[vl,vu,.none] } } σ H3 x v vl vu l u s3.heap.objs.size Q I4 r1 (Heap.IsSliceOf.new ..) pl pu q3
 show wpAny (model X.prog X.w) X.A (subscriptTail e (.Slice lo hi none p2) v (.ref s3.heap.objs.size)) (EP X zv σ Q) X.xe { s3 with heap:=s3.heap.push { cls:=.type "slice", data:=.fields #[vl,vu,.none] } }
 exact tail_any (ops:=[.ref s3.heap.objs.size,v]) ht hT hg (by with_unfolding_all rfl)
def cutV(xs:List V)(lo hi:Option Int):List V:=(xs.drop (HT.sIx xs.length 0 lo)).take (HT.sIx xs.length xs.length hi - HT.sIx xs.length 0 lo)
theorem abi(xs:List V)(lo hi:Option Int):(cutV xs lo hi).length<=xs.length:=by
 unfold cutV;rw[List.length_take,List.length_drop];omega
def rSlT(K:Fg9):V->Option Int->Option Int->Hp->VK->Prop:=fun x lo hi H Q=>∃a xs,x=.ref a/\SqT K H a xs /\
 ¬(HT.sIx xs.length 0 lo=0/\HT.sIx xs.length xs.length hi=xs.length)/\∀p,H p=none->Q (.ref p) (upd H p (.tup (cutV xs lo hi)))
theorem aoc:SlR X (rSlT X.K):=by
 intro zv s σ H x v vl vu lo hi sl Q I rx hs pl pu h;obtain⟨a,xs,rfl,hx,hw,q⟩:=h;cases rx;obtain⟨its,r,ht,hz⟩:=I.tuple hx;have hlen:its.toArray.size=xs.length:=by rw[List.size_toArray];exact r.length.symm
 refine⟨"tuple", _,PyProof.Rows.slot_tuple_getitem.lookup,ht.typeIs,?_⟩;refine HT.zx ht hs pl pu (by rw[hlen];exact hw) ?_ (by rw[hlen];exact hz)
 rw[hlen];refine⟨.ref s.heap.objs.size,_,I.laid (t':=s.toks) (o:=.tup (cutV xs lo hi)) (fun b ob q=>Heap.get?_push_of_some _ q) (Nat.le_refl _) ?_,rfl,q _ (I.hok.fresh (Nat.le_refl _))⟩
 exact⟨Nat.le_trans (abi xs lo hi) hz,_,(r.drop (HT.sIx xs.length 0 lo)).take (HT.sIx xs.length xs.length hi - HT.sIx xs.length 0 lo),IsTp.new _ _⟩
def ar8(K:Fg9):R2:=fun x y H Q=>∃a b xs ys,x=.ref a/\y=.ref b/\SqT K H a xs/\SqT K H b ys/\xs≠[]/\xs.length+ys.length<=sizeLine /\
 (ys=[]->Q (.ref a) H)/\(ys≠[]->∀p,H p=none->Q (.ref p) (upd H p (.tup (xs++ys))))
theorem Vals.nil_iff{xs:List V}{us:List Value}(r:Vals xs us):us=[]↔xs=[]:=by
 cases r with
 | nil=>simp
 | cons _ _=>simp
theorem amf:OpR X (binaryOp .Add) (ar8 X.K):=by
 intro zv s σ H x y v u Q I rx ry h;obtain⟨a,b,xs,ys,rfl,rfl,ha,hb,hx,hz,q1,q2⟩:=h;cases rx;cases ry;obtain⟨its,r1,p1,_⟩:=I.tuple ha;obtain⟨its2,r2,p2,_⟩:=I.tuple hb;refine HT.anm p1 p2 (fun z=>hx (r1.nil_iff.mp z)) (fun z=>⟨.ref a,H,I,rfl,q1 (r2.nil_iff.mp z)⟩) (fun z =>?_) (by rw[<-r1.length,<-r2.length];exact hz)
 refine⟨.ref s.heap.objs.size,_,I.laid (t':=s.toks) (o:=.tup (xs++ys)) (fun b ob q=>Heap.get?_push_of_some _ q) (Nat.le_refl _) ?_,rfl,q2 (fun w=>z (r2.nil_iff.mpr w)) _ (I.hok.fresh (Nat.le_refl _))⟩
 exact⟨by rw[List.length_append];exact hz,_,r1.append r2,IsTp.new _ _⟩
end
def ixN(n:Nat)(i:Int):Option Nat:=if 0<=i then (if i < n then some i.toNat else none) else if -(n:Int)<=i then some (i+n).toNat else none
def atI{α:Type}(xs:List α)(i:Int):Option α:=(ixN xs.length i).bind fun j=>xs[j]?
theorem aia{n:Nat}{i:Int}{j:Nat}(h:ixN n i=some j):seqIndex? i n=some j/\j < n /\ -(n:Int)<=i/\i < n:=by
 unfold ixN at h
 by_cases h0:0<=i
 ·rw[if_pos h0] at h
  by_cases h1:i < n
  ·rw[if_pos h1] at h;have e:i.toNat=j:=Option.some.inj h;exact⟨by rw[seqIndex_of h0 h1,e],by omega,by omega,h1⟩
  ·rw[if_neg h1] at h;cases h
 ·rw[if_neg h0] at h
  by_cases h1 : -(n:Int)<=i
  ·rw[if_pos h1] at h;have e:(i+n).toNat=j:=Option.some.inj h;exact⟨by rw[seqIndex_neg (by omega) h1,e],by omega,h1,by omega⟩
  ·rw[if_neg h1] at h;cases h
theorem ai9{α:Type}{xs:List α}{i:Int}{v:α}(h:atI xs i=some v):∃j,seqIndex? i xs.length=some j/\xs[j]? = some v/\j < xs.length /\ -(xs.length:Int)<=i/\i < xs.length:=by
 unfold atI at h;cases e:ixN xs.length i with
 | none=>rw[e] at h;cases h
 | some j =>
  rw[e] at h;obtain⟨h1,h2,h3,h4⟩:=aia e;exact⟨j,h1,h,h2,h3,h4⟩
theorem anq{α:Type}{xs:List α}{j:Nat}{v:α}(h:xs[j]? = some v):atI xs (j:Int)=some v:=by
 have hj:j < xs.length:=(List.getElem?_eq_some_iff.mp h).1;have e:ixN xs.length (j:Int)=some j:=by
  unfold ixN;rw[if_pos (by omega),if_pos (by omega)];simp
 unfold atI;rw[e];exact h
def ae0(b:Expr):Prop:=∀o i,subscripted b false o i=operate [o,i] (getItem o i)
def IxR(X:Cx)(r:R2):Prop :=
 ∀(value slice:Expr) (zv:List (Addr×Obj)) (s:Shared) (σ:St) (H:Hp) (x y:V) (v u:Value) (Q:VK),Inv X zv σ H s->RelV x v->RelV y u->r x y H Q ->
  subscripted slice false v u=operate [v,u] (getItem v u)->wpAny (model X.prog X.w) X.A (subscriptTail value slice v u) (EP X zv σ Q) X.xe s
def MtR(X:Cx)(id:String)(r:V->List V->Hp->VK->Prop):Prop :=
 ∀(zv:List (Addr×Obj)) (s:Shared) (σ:St) (H:Hp) (x:V) (xs:List V) (v:Value) (us:List Value) (Q:VK),Inv X zv σ H s->RelV x v->Vals xs us->r x xs H Q ->
  wpAny (model X.prog X.w) X.A (call (.builtin id) (v::us)) (EP X zv σ Q) X.xe s
section
variable{X:Cx}{a b:Expr}{ta tb:TE}{pos:Pos}
theorem aoy{r:R2}(hr:IxR X r)(ha:PE X a ta)(hb:PE X b tb)(hs:ae0 b):PE X (.Subscript a b pos) (tOp r ta tb):=by
 intro zv s σ H Q I h;exact Subscript_ (binT ha hb I h fun v u s2 x y H2 I2 rx ry q=>hr a b zv s2 σ H2 x y v u Q I2 rx ry q (hs _ _))
def rIxL(K:Fg9):R2:=fun x y H Q=>∃p xs i v,x=.ref p/\y=.int i/\SqL K H p xs/\atI xs i=some v/\Q v H
def rIxT(K:Fg9):R2:=fun x y H Q=>∃p xs i v,x=.ref p/\y=.int i/\SqT K H p xs/\atI xs i=some v/\Q v H
theorem amu:IxR X (rIxL X.K):=by
 intro value slice zv s σ H x y v u Q I rx ry h hs;obtain⟨p,xs,i,z,rfl,rfl,hq,he,q⟩:=h;cases rx;obtain⟨t,rfl⟩:=ry;obtain⟨its,r,pl,hz⟩:=I.list hq;obtain⟨j,h1,h2,h3,h4,h5⟩:=ai9 he;obtain⟨w,ew,rw'⟩:=r.get h2;have hl:=r.length;have hn:=afj;have fin:EP X zv σ Q w s:=⟨z,H,I,rw',q⟩
 by_cases h0:0<=i
 ·have hj:i.toNat=j:=by
   rw[seqIndex_of h0 h5] at h1;exact Option.some.inj h1
  exact item_listR pl.isList h0 (by omega) (by rw[hj];simpa using ew) fin hs
 ·have hj:(i+(its.toArray.size:Int)).toNat=j:=by
   rw[seqIndex_neg (by omega) h4] at h1
   rw[List.size_toArray,<-hl];exact Option.some.inj h1
  exact subscriptTail_builtinR (x:=w) pl.isList.typeIs slot_list_getitem.lookup
   (wpAny_getItem_list_neg (Q:=fun r s'=>r=w/\EP X zv σ Q r s') pl.isList (by omega) (by rw[List.size_toArray] <;> omega) (by omega) (by rw[hj];simpa using ew) ⟨rfl,fin⟩) hs
theorem ap0:IxR X (rIxT X.K):=by
 intro value slice zv s σ H x y v u Q I rx ry h hs;obtain⟨p,xs,i,z,rfl,rfl,hq,he,q⟩:=h;cases rx;obtain⟨t,rfl⟩:=ry;obtain⟨its,r,pl,hz⟩:=I.tuple hq;obtain⟨j,h1,h2,h3,h4,h5⟩:=ai9 he;obtain⟨w,ew,rw'⟩:=r.get h2;have hl:=r.length;have hn:=afj;have fin:EP X zv σ Q w s:=⟨z,H,I,rw',q⟩;exact subscriptTail_builtinR (x:=w) pl.typeIs slot_tuple_getitem.lookup
  (getItem_tuple (j:=j) (Q:=fun r s'=>r=w/\EP X zv σ Q r s') pl (by omega) (by omega) (by rw[List.size_toArray,<-hl];exact h1) (by simpa using ew) ⟨rfl,fin⟩) hs
theorem agq(its:List Value)(n j:Nat)(u:Value):Obj.mapSeq (·.setIfInBounds j u) { cls:=.type "list", data:=.seq its.toArray n }={ cls:=.type "list", data:=.seq (its.set j u).toArray n }:=by
 simp[Obj.mapSeq]
theorem Inv.lst{zv:List (Addr×Obj)}{σ:St}{H:Hp}{s:Shared}{p:Addr}{xs:List V}(I:Inv X zv σ H s)(h:H p=some (.lst xs)) :
  ∃(its:List Value) (n:Nat),Vals xs its/\s.heap.get? p=some { cls:=.type "list", data:=.seq its.toArray n }/\xs.length<=sizeLine:=by
 obtain⟨z,its,n,r,e⟩:=I.hok p _ h;exact⟨its,n,r,e,z⟩
theorem Inv.lstUpd{zv:List (Addr×Obj)}{σ:St}{H:Hp}{s:Shared}{p:Addr}{xs ys:List V}{its its':List Value}{n n':Nat}{f:Obj->Obj}(I:Inv X zv σ H s)(h:H p=some (.lst xs))
  (ho:s.heap.get? p=some { cls:=.type "list", data:=.seq its.toArray n }) (hf:f { cls:=.type "list", data:=.seq its.toArray n }={ cls:=.type "list", data:=.seq its'.toArray n' }) (r:Vals ys its') (hz:ys.length<=sizeLine) (t:Nat) :
  Inv X zv σ (upd H p (.lst ys)) { s with heap:=s.heap.update p f,toks:=t }:=by
 have e:(s.heap.update p f).get? p=some { cls:=.type "list", data:=.seq its'.toArray n' }:=by
  rw[Heap.get?_update_self f ho (by rw[hf] <;> rfl),hf]
 refine I.write (x:=p) (e:=p) (by rw[h];trivial) (.inl rfl) (fun b u hb q=>(Heap.get?_update_other _ _ (Ne.symm hb)).trans q) ⟨_,e⟩ ?_
 exact⟨hz,its',n',r,e⟩
def ar7:V->V->V->Hp->(Hp->Prop)->Prop:=fun o i v H Q=>∃p xs k j,o=.ref p/\i=.int k/\H p=some (.lst xs)/\ixN xs.length k=some j/\Q (upd H p (.lst (xs.set j v)))
theorem set_list:PSet X ar7:=by
 intro zv s σ H o i v ov iv u Q I ro ri rv h;obtain⟨p,xs,k,j,rfl,rfl,hp,hj,q⟩:=h;cases ro;obtain⟨t,rfl⟩:=ri;obtain⟨its,n,r,ho,hz⟩:=I.lst hp;obtain⟨h1,h2,h3,h4⟩:=aia hj;have hl:=r.length;have hn:=afj;have I':Inv X zv σ (upd H p (.lst (xs.set j v))) { s with heap:=s.heap.update p (Obj.mapSeq (·.setIfInBounds j u)) } :=
  I.lstUpd hp ho (agq its n j u) (r.set rv j) (by rw[List.length_set];exact hz) s.toks
 by_cases h0:0<=k
 ·have hk:k.toNat=j:=by
   rw[seqIndex_of h0 h4] at h1;exact Option.some.inj h1
  exact PySem.W.ki_setAt ho h0 (by omega) (by rw[List.size_toArray,<-hl];exact h4) (by rw[hk];exact⟨_,I',q⟩)
 ·have hk:(k+(its.toArray.size:Int)).toNat=j:=by
   rw[seqIndex_neg (by omega) h3] at h1
   rw[List.size_toArray,<-hl];exact Option.some.inj h1
  exact PySem.W.ki_setBack ho (by omega) (by rw[List.size_toArray,<-hl];exact h3) (by omega) (by rw[hk];exact⟨_,I',q⟩)
theorem adi(lo hi:Option Int)(n:Nat):(sliceBounds lo hi none n).1=((HT.sIx n 0 lo:Nat):Int)/\(sliceBounds lo hi none n).2.1=((HT.sIx n n hi:Nat):Int)/\(sliceBounds lo hi none n).2.2=1:=by
 refine⟨?_,?_,rfl⟩
 ·cases lo with
  | none=>simp[sliceBounds,HT.sIx]
  | some i =>
   simp only[sliceBounds,HT.sIx,Option.getD_none,show(1:Int) > 0 by decide,if_true]
   by_cases h:i < 0
   ·simp only[h,if_true] <;> omega
   ·simp only[h,if_false] <;> omega
 ·cases hi with
  | none=>simp[sliceBounds,HT.sIx]
  | some i =>
   simp only[sliceBounds,HT.sIx,Option.getD_none,show(1:Int) > 0 by decide,if_true]
   by_cases h:i < 0
   ·simp only[h,if_true] <;> omega
   ·simp only[h,if_false] <;> omega
theorem aci(its:List Value)(lo hi:Option Int):slicePick its.toArray lo hi none=((its.drop (HT.sIx its.length 0 lo)).take (HT.sIx its.length its.length hi - HT.sIx its.length 0 lo)).toArray:=by
 obtain⟨h1,h2,h3⟩:=adi lo hi its.toArray.size;unfold slicePick;rw[h1,h2,h3];simp only[sliceRange_one,pick_run,List.size_toArray] <;> rfl
def rSlL(K:Fg9):V->Option Int->Option Int->Hp->VK->Prop:=fun x lo hi H Q=>∃a xs,x=.ref a/\SqL K H a xs/\∀p,H p=none->Q (.ref p) (upd H p (.lst (cutV xs lo hi)))
theorem ahd:SlR X (rSlL X.K):=by
 intro zv s σ H x v vl vu lo hi sl Q I rx hs pl pu h;obtain⟨a,xs,rfl,hx,q⟩:=h;cases rx;obtain⟨its,r,ht,hz⟩:=I.list hx;have hlen:=r.length;refine⟨"list", _,slot_list_getitem.lookup,ht.isList.typeIs,?_⟩;refine wpAny_getItem_list_slice ht.isList hs pl pu .none (by simp) ?_ (by rw[List.size_toArray] <;> omega)
 rw[aci,<-hlen];refine⟨.ref s.heap.objs.size,_,I.laid (t':=s.toks) (o:=.lst (cutV xs lo hi)) (fun b ob q=>Heap.get?_push_of_some _ q) (Nat.le_refl _) ?_,rfl,q _ (I.hok.fresh (Nat.le_refl _))⟩
 exact⟨Nat.le_trans (abi xs lo hi) hz,_,0,(r.drop (HT.sIx xs.length 0 lo)).take (HT.sIx xs.length xs.length hi - HT.sIx xs.length 0 lo),Heap.get?_push_size _ rfl⟩
theorem ad6:zz X (.builtin "len") (fun xs H Q=>∃p ys,xs=[.ref p]/\(SqL X.K H p ys∨SqT X.K H p ys)/\Q (.int ys.length) H):=by
 intro zv s σ H xs us Q I r h;obtain⟨p,ys,rfl,hq,q⟩:=h;obtain⟨u,rfl,rx⟩:=vals1 r;cases rx;have hn:=afj;rcases hq with hq | hq
 ·obtain⟨its,r',pl,hz⟩:=I.list hq;have hlen:=r'.length;exact Calls.call_len_list pl.isList (by simp only[List.size_toArray] <;> omega) ⟨.int ys.length,H,I.tok _,⟨s.toks+1,by rw[List.size_toArray,hlen]⟩,q⟩
 ·obtain⟨its,r',pl,hz⟩:=I.tuple hq;have hlen:=r'.length;exact len_tuple pl (by simp only[List.size_toArray] <;> omega) ⟨.int ys.length,H,I.tok _,⟨s.toks+1,by rw[List.size_toArray,hlen]⟩,q⟩
theorem uc:zz X (.type "tuple") (fun xs H Q=>∃p ys,xs=[.ref p]/\((SqL X.K H p ys/\∀l,H l=none->Q (.ref l) (upd H l (.tup ys)))∨(SqT X.K H p ys/\Q (.ref p) H))):=by
 intro zv s σ H xs us Q I r h;obtain⟨p,ys,rfl,h⟩:=h;obtain⟨u,rfl,rx⟩:=vals1 r;cases rx;rcases h with⟨hq,q⟩ | ⟨hq,q⟩
 ·obtain⟨its,r',pl,hz⟩:=I.list hq;have hlen:=r'.length;refine call_tuple_list pl.isList (fun h' kp =>?_) (by simp only[List.size_toArray] <;> omega)
  have I1:Inv X zv σ H { s with heap:=h' }:=I.kept (t':=s.toks) kp
  have I2:Inv X zv σ (upd H h'.objs.size (.tup ys)) { s with heap:=h'.push { cls:=.type "tuple", data:=.seq its.toArray } } :=
   I1.laid (t':=s.toks) (fun b o e=>Heap.get?_push_of_some _ e) (Nat.le_refl _) (show lq X.prog X.w _ _ _ (.tup ys) from⟨hz,its,r',IsTp.new _ _⟩)
  exact⟨.ref h'.objs.size,_,I2,rfl,q _ (I1.hok.fresh (Nat.le_refl _))⟩
 ·obtain⟨its,r',pl,hz⟩:=I.tuple hq;exact call_tuple_same pl ⟨.ref p,H,I,rfl,q⟩
def tyV(K:Fg9)(T:String)(x:V)(H:Hp):Prop:=match x with
 | .str _=>T = "str"
 | .int _=>T = "int"
 | .ref p=>(T = "list" /\ ∃xs,SqL K H p xs)∨(T = "tuple" /\ ((∃o,K.lookup p=some o/\o.cls=.type "tuple" /\ o.dict=none)∨∃xs,H p=some (.tup xs))) ∨
   (T = "dict" /\ ((∃kvs,H p=some (.dK kvs))∨∃kvs,H p=some (.dT kvs)))∨(T = "set" /\ ∃S n,H p=some (.set S n))
 | _=>False
theorem an3{zv:List (Addr×Obj)}{σ:St}{H:Hp}{s:Shared}{T:String}{x:V}{v:Value}(I:Inv X zv σ H s)(r:RelV x v)(ty:tyV X.K T x H) :
  s.TypeIs v T/\∀a,v=.ref a->∃ob,s.heap.get? a=some ob/\ob.dict=none:=by
 cases x with
 | str z =>
  obtain⟨t,rfl⟩:=r;cases(show T = "str" from ty)
  exact⟨typeIs_str s z t,fun _ e=>nomatch e⟩
 | int i =>
  obtain⟨t,rfl⟩:=r;cases(show T = "int" from ty)
  exact⟨typeIs_int s i t,fun _ e=>nomatch e⟩
 | ref p =>
  cases r;rcases ty with⟨rfl,xs,hq⟩ | ⟨rfl,⟨o,hk,hc,hd⟩ | ⟨xs,hk⟩⟩ | ⟨rfl,hk⟩ | ⟨rfl,S,n,hk⟩
  ·obtain⟨its,_,pl,_⟩:=I.list hq;refine⟨pl.isList.typeIs,fun a e =>?_⟩
   cases e;obtain⟨o,n,e,c,hd,_⟩:=pl;exact⟨o,e,hd⟩
  ·refine⟨⟨o,I.kIn p o hk,hc⟩,fun a e =>?_⟩
   cases e;exact⟨o,I.kIn _ o hk,hd⟩
  ·obtain⟨_,_,_,o,e,hc,hd,_⟩:=I.hok p _ hk;refine⟨⟨o,e,hc⟩,fun a e2 =>?_⟩
   cases e2;exact⟨o,e,hd⟩
  ·have z:∃o,s.heap.get? p=some o/\o.ExactDict:=by
    rcases hk with⟨kvs,hk⟩ | ⟨kvs,hk⟩
    ·obtain⟨_,_,_,_,o,_,_,e,ex,_⟩:=I.hok p _ hk;exact⟨o,e,ex⟩
    ·obtain⟨_,_,_,_,o,_,_,e,ex,_⟩:=I.hok p _ hk;exact⟨o,e,ex⟩
   obtain⟨o,e,ex⟩:=z;refine⟨⟨o,e,ex.1⟩,fun a e2 =>?_⟩
   cases e2;exact⟨o,e,ex.2.1⟩
  ·obtain⟨o,_,_,_,e,ex,_⟩:=I.hok p _ hk;refine⟨⟨o,e,ex.1⟩,fun a e2 =>?_⟩
   cases e2;exact⟨o,e,ex.2.1⟩
 | _=>exact False.elim ty
def tBM(K:Fg9)(T:String)(r:V->List V->Hp->VK->Prop)(to:TE)(t:TA):TE:=fun σ H Q=>to σ H fun x H1=>tyV K T x H1/\t σ H1 fun xs H2=>r x xs H2 Q
variable{o e:Expr}{es:List Expr}{to:TE}{t:TA}{name:Str}{apos cpos:Pos}{T id:String}{r:V->List V->Hp->VK->Prop}
theorem ahw(pa:PlainAttrs T)(slot:Slot T name id)(hty:typeOf (.builtin id)=pure (.type "method_descriptor"))(hm:MtR X id r)(ho:PE X o to)(ha:PA X (e::es) t)
  (hbase:attributeBase o name X.env (eval o X.env)=eval o X.env:=by rfl)
  (hfew:((backTo cpos (starEach (e::es) X.env)).all (fun x => !x.1)&&(backToKw cpos (keywordEach [] X.env)).all (fun x=>x.1.isSome)
   && decide ((e::es).length+([]:List Keyword).length+(if ([]:List Keyword).isEmpty then 0 else 1) < 30))=true:=by rfl)
  (hline:(apos.endLine==cpos.line)=true:=by rfl) (hs:starEach (e::es) X.env=(false,eval e X.env)::starEach es X.env:=by rfl) (hplain:(backTo cpos (starEach es X.env)).any (·.1)=false:=by rfl) :
  PE X (.Call (.Attribute o name apos) (e::es) [] cpos) (tBM X.K T r to t):=by
 intro zv s σ H Q I h;refine wpAny_Call_method_late hbase hfew hline rfl (thn (ho zv s σ H _ I h) fun v s1 ⟨x,H1,I1,r1,ty,q1⟩ =>?_)
 obtain⟨h1,h2⟩:=an3 I1 r1 ty;refine⟨T,id,pa,slot,hty,h1,h2,?_⟩;have hA:=ha cpos zv s1 σ H1 _ I1 q1;rw[hs] at hA ⊢
 refine Calls.callWith_builtin (by show(false||(backTo cpos (starEach es X.env)).any (·.1))=false;rw[hplain] <;> rfl) (Calls.evalArgs_plain ?_)
 exact thn hA fun us s2 ⟨vs,H2,I2,r2,q2⟩=>hm zv s2 σ H2 x vs v us Q I2 r1 r2 q2
end
def MtM(X:Cx)(id:String)(r:V->List V->Hp->VK->Prop):Prop :=
 ∀(zv:List (Addr×Obj)) (s:Shared) (σ:St) (H:Hp) (x:V) (xs:List V) (v:Value) (us:List Value) (Q:VK),Inv X zv σ H s->RelV x v->Vals xs us->r x xs H Q ->
  wpAny (model X.prog X.w) X.A (call (.builtin id) (v::us)) (EP X zv σ Q) X.xe s
theorem Vals.one:∀{x:V} {us:List Value},Vals [x] us->∃u,us=[u]/\RelV x u
 | _,_,.cons r .nil=>⟨_,rfl,r⟩
theorem Vals.rep{xs:List V}{us:List Value}(h:Vals xs us):∀k:Nat,Vals (List.replicate k xs).flatten (List.replicate k us).flatten
 | 0=>.nil
 | k+1=>by
  rw[List.replicate_succ,List.replicate_succ,List.flatten_cons,List.flatten_cons];exact Vals.append h (Vals.rep h k)
theorem foldl_rep(its:List Value):∀(k:Nat) (acc:List Value),
  List.foldl (fun x1 x2=>x1++x2) acc.toArray (List.replicate k its.toArray)=(acc++(List.replicate k its).flatten).toArray
 | 0,acc=>by simp
 | k+1,acc=>by
  have e:acc.toArray++its.toArray=(acc++its).toArray:=by simp
  have e2:(acc++its)++(List.replicate k its).flatten=acc++(List.replicate (k+1) its).flatten:=by
   rw[List.replicate_succ,List.flatten_cons,List.append_assoc]
  rw[<-e2,<-foldl_rep its k (acc++its),<-e,List.replicate_succ,List.foldl_cons]
section
variable{X:Cx}{zv:List (Addr×Obj)}{σ:St}{H:Hp}{s:Shared}{l b:Addr}{xs ys zs:List V}
theorem Inv.lset{its its':List Value}{n:Nat}{f:Array Value->Array Value}{t':Nat}(I:Inv X zv σ H s)(hH:H l=some (.lst xs))
  (e:s.heap.get? l=some { cls:=.type "list", data:=.seq its.toArray n }) (hf:f its.toArray=its'.toArray) (hv:Vals ys its') (hz:ys.length<=sizeLine) :
  Inv X zv σ (upd H l (.lst ys)) { s with heap:=s.heap.update l (Obj.mapSeq f),toks:=t' }:=by
 have q:=PySem.IsL.update e f;rw[hf] at q;refine I.write (x:=l) (e:=l) (by rw[hH];exact trivial) (.inl rfl) (fun b' u hb hu=>(Heap.get?_update_other s.heap (Obj.mapSeq f) (Ne.symm hb)).trans hu) ⟨_,q⟩ ?_
 exact⟨hz,its',_,hv,q⟩
theorem Inv.lnew{its:List Value}{t':Nat}(I:Inv X zv σ H s)(hv:Vals ys its)(hz:ys.length<=sizeLine) :
  Inv X zv σ (upd H s.heap.objs.size (.lst ys)) { s with heap:=s.heap.push { cls:=.type "list", data:=.seq its.toArray },toks:=t' } :=
 I.laid (fun _ _ q=>Heap.get?_push_of_some _ q) (Nat.le_refl _) ⟨hz,its,0,hv,Heap.get?_push_size _ rfl⟩
theorem Inv.fresh(I:Inv X zv σ H s):H s.heap.objs.size=none:=I.hok.fresh (Nat.le_refl _)
theorem Inv.lstM(I:Inv X zv σ H s)(hH:H l=some (.lst xs)):xs.length<=sizeLine/\∃(its:List Value) (n:Nat),Vals xs its/\xs.length=its.length/\s.heap.get? l=some { cls:=.type "list", data:=.seq its.toArray n }:=by
 obtain⟨z,its,n,r,e⟩:=I.hok l _ hH;exact⟨z,its,n,r,r.length,e⟩
theorem aju{n:Nat}(h:n<=sizeLine):Builtin.List.listTooLong n=false:=by
 unfold Builtin.List.listTooLong;exact decide_eq_false (by omega)
end
section
variable{X:Cx}
def ahm:V->List V->Hp->VK->Prop:=fun x vs H Q=>∃l xs y,x=.ref l/\vs=[y]/\H l=some (.lst xs)/\xs.length < sizeLine/\Q .non (upd H l (.lst (xs++[y])))
theorem mj:MtM X "list.append" ahm:=by
 intro zv s σ H x vs v us Q I rx rv h;obtain⟨l,xs,y,rfl,rfl,hH,hz,q⟩:=h;cases rx;obtain⟨u,rfl,ru⟩:=rv.one;obtain⟨z,its,n,r,hl,e⟩:=I.lstM hH;refine call_meets F.slot_list_append ⟨_,e,rfl⟩ F.entry_list_append (F.args_list_append_2 _ _) (PySem.list_append l its.toArray n u (by rw[List.size_toArray];omega)) ⟨e,?_⟩
 refine⟨.non,_,I.lset (its':=its++[u]) hH e (by simp) (r.append (.cons ru .nil)) ?_,rfl,q⟩
 rw[List.length_append,List.length_singleton];omega
def rCat:R2:=fun x y H Q=>∃l b xs zs,x=.ref l/\y=.ref b/\H l=some (.lst xs)/\H b=some (.lst zs)/\xs.length+zs.length<=sizeLine/\∀p,H p=none->Q (.ref p) (upd H p (.lst (xs++zs)))
theorem ao9:OpR X (binaryOp .Add) rCat:=by
 intro zv s σ H x y v u Q I rx ry h;obtain⟨l,b,xs,zs,rfl,rfl,hH,hB,hz,q⟩:=h;cases rx;cases ry;obtain⟨z,its,n,r,hl,e⟩:=I.lstM hH;obtain⟨z2,its2,n2,r2,hl2,e2⟩:=I.lstM hB;refine PySem.P.add_list e e2 ?_ (by rw[List.size_toArray,List.size_toArray];omega)
 have ea:its.toArray++its2.toArray=(its++its2).toArray:=by simp
 rw[ea];exact⟨.ref _,_,I.lnew (t':=s.toks) (r.append r2) (by rw[List.length_append];omega),rfl,q _ I.fresh⟩
def rRep:R2:=fun x y H Q=>∃l k xs,x=.ref l/\y=.int k/\H l=some (.lst xs) /\ -(2 ^ 63)<=k/\k < 2 ^ 63/\xs.length*k.toNat<=sizeLine /\
 ∀p,H p=none->Q (.ref p) (upd H p (.lst (List.replicate k.toNat xs).flatten))
theorem len_rep{α:Type}(xs:List α)(k:Nat):(List.replicate k xs).flatten.length=k*xs.length:=by
 induction k with
 | zero=>simp
 | succ k ih=>rw[List.replicate_succ,List.flatten_cons,List.length_append,ih,Nat.succ_mul,Nat.add_comm]
theorem ao5:OpR X (binaryOp .Mult) rRep:=by
 intro zv s σ H x y v u Q I rx ry h;obtain⟨l,k,xs,rfl,rfl,hH,h1,h2,hz,q⟩:=h;cases rx;obtain⟨t,rfl⟩:=ry;obtain⟨z,its,n,r,hl,e⟩:=I.lstM hH;have hlen:its.toArray.size*k.toNat<=sizeLine:=by rw[List.size_toArray,<-hl];exact hz
 have hcap:¬its.toArray.size*k.toNat > (2 ^ 63 - 1) / 8:=by
  have:(sizeLine:Nat)<=(2 ^ 63 - 1) / 8:=by decide
  omega
 have hfit:¬(!Builtin.List.listFitsIndex k)=true:=by
  rw[fitsIndex_both h1 h2];exact Bool.false_ne_true
 have hlong:¬Builtin.List.listTooLong (its.toArray.size*k.toNat)=true:=by
  rw[aju hlen];exact Bool.false_ne_true
 have hnew:List.foldl (fun x1 x2=>x1++x2) #[] (List.replicate (if its.toArray.isEmpty=true then 0 else k.toNat) its.toArray)=(List.replicate k.toNat its).flatten.toArray:=by
  have f0:∀m:Nat,List.foldl (fun x1 x2=>x1++x2) #[] (List.replicate m its.toArray)=(List.replicate m its).flatten.toArray:=fun m=>by
   have:=foldl_rep its m [];rw[List.nil_append] at this;exact this
  rw[f0];cases its with
  | nil=>simp
  | cons a r'=>rw[if_neg (by simp)]
 refine wpAny_binaryOp_repeat_ref (T := "list") (U := "int") (by decide) ⟨_,e,rfl⟩ (fun s'=>typeIs_int s' k t) noFill_list_mul F.fills_int_mul F.slot_int_rmul repeat_list F.slot_int_index.lookup
  (call_meets F.slot_int_rmul (typeIs_int s k t) F.entry_int_rmul (F.args_int_rmul_2 _ _) (int___rmul___int_list k t l its.toArray n)
   ⟨e,rfl,⟨_,e,rfl⟩,call_meets F.slot_list_mul ⟨_,e,rfl⟩ F.entry_list_mul (F.args_list_mul_2 _ _) (AutoListH.list___mul___list_int_3 l its.toArray n k t hfit hcap hlong) ⟨e,?_⟩⟩)
 rw[hnew];exact⟨.ref _,_,I.lnew (t':=s.toks) (r.rep k.toNat) (by rw[len_rep,Nat.mul_comm];exact hz),rfl,q _ I.fresh⟩
end
section
variable{prog:Program}{w:World}{A:Around}{E:Value->Shared->Prop}{s:Shared}
end
section
variable{X:Cx}
end
end L2
namespace Att
open PySem PySem.W PySem.Calls PyProof.Rows
theorem aba{P:Params}{h:Heap}:∀(ns:List Int) (vs:List Value),WellAll P h vs (ns.map WData.int)->IntsAre vs ns:=by
 intro ns
 induction ns with
 | nil =>
  intro vs w;rw[List.map_nil] at w;cases w;exact .nil
 | cons n ns ih =>
  intro vs w;rw[List.map_cons] at w;cases w with
  | cons a b =>
   cases a;exact .cons _ _ (ih _ b)
theorem ahf{l:OpenLaw}{n:Nat}(hn:l.most=some n){P:Params}{h:Heap}{args:List WData}{vals:List Value}
  (hpre:l.row.toRowW.claim.pre args=true) (hwl:WellAll P h vals args) :
  ∃a vs ns,vals=[Value.ref a]/\args=[WData.list (ns.map WData.int)]/\h.get? a=some { cls:=.type "list", data:=.seq vs.toArray }/\IntsAre vs ns/\ns.length<=n:=by
 have hsh:WShape.hasAll [] args [.list .int]=true:=(pre_splitW hpre).1;have hc:l.pre.holds [] { args:=args }=true:=(pre_splitW hpre).2;obtain⟨d,r,rfl,h1,h2⟩:=hasAllW_cons hsh;obtain rfl:=hasAllW_nil h2;obtain⟨xs,rfl,h3⟩:=hasW_list h1;obtain⟨ns,rfl⟩:=items_int h3;have hlen:ns.length<=n:=by
  unfold OpenLaw.pre at hc;have h4:(WTm.not (.lt (.lit (.int (n:Int))) (.len (.arg 0)))).holds [] { args:=[.list (ns.map .int)] }=true:=by
   have h4:=(holds_andW hc).1;rw[hn] at h4;exact h4
  have h5:=condW_of h4 (w_not (w_lt w_lit (w_len_list (w_arg rfl))));rw[List.length_map] at h5;refine Nat.le_of_not_lt fun q =>?_
  have q':(n:Int) < ((ns.length:Nat):Int):=by omega
  first
   | (rw[decide_eq_true q'] at h5;exact absurd h5 (by decide))
   | (simp at h5;omega)
 cases hwl with
 | cons w1 w2 =>
  cases w2;cases w1 with
  | list ho hall=>exact⟨_,_,ns,rfl,rfl,ho,aba ns _ hall,hlen⟩
theorem aho(l:OpenLaw)(args:List WData):l.row.toRowW.claim.post args (.bool true) args=true :=
 postW_of (r:=l.row.toRowW) (X:=(true==true))
  (show WShape.has [] (.bool true) .bool=true by first | rfl | decide | simp[WShape.has,WShape.arms,WShape.armsAll])
  (show(WTm.eq .res (.lit (.bool true))).value [] { args:=args,res:=some (.bool true),after:=args }=some (.bool (true==true)) from w_eq_bool (w_res rfl) w_lit) rfl
theorem aez{l:OpenLaw}{n:Nat}{q:Program}{loose:List Str}{XP:(Str->Option Value)->Heap->Prop}{YP:World->Heap->Prop}{d:DefRec}
  (hn:l.most=some n) (hdf:d.params.defaults=[])
  (call:∀(w:World) (s₀ s₁:Shared) (mg mb:Str->Option Value) (fa:Addr) (o:Obj) (pm cd doc:Value) (a:Addr) (vs:List Value) (ns:List Int),
   Ground q loose [] XP w s₀ mg mb s₁.heap->YP w s₁.heap ->
   s₁.heap.get? fa=some o->o.data=.func (docDef d.name d.params d.body d.scope pm cd doc)->s₁.heap.CodeRec cd d.name->mg d.name=some (.ref fa) ->
   s₁.heap.get? a=some { cls:=.type "list", data:=.seq vs.toArray }->IntsAre vs ns->ns.length<=n->s₁.gens = #[] ->
   codeAny (model l.prog w) callerA (.call (.ref fa) ⟨[.ref a],[]⟩) (fun r s'=>r=.ok (.ret (.bool true))/\OldK s₁.heap s'.heap/\s'.os=s₁.os/\AllBare s'.gens) s₁) :
  WalkO q loose XP YP l.row.toRowW d [] (fun f vs=>PySem.call f vs):=by
 intro w s₀ s₁ mg mb G Y fa o pm cd doc dV kV ho hd hcd hD hmg hg args vals as hpre hlay hrd hwl hlo;obtain rfl:dV=.none:=Dflts.none hD hdf;obtain rfl:kV=.none:=Dflts.noKw hD;obtain⟨a,vs,ns,rfl,rfl,hobj,hints,hlen⟩:=ahf hn hpre hwl;refine enter_call (codeAny_mono (call w s₀ s₁ mg mb fa o pm cd doc a vs ns G Y ho (fd_plain hd) hcd hmg hobj hints hlen hg) fun r s' hq =>?_)
 obtain⟨rfl,h2,h3,h4⟩:=hq;exact⟨.inl ⟨.bool true,.bool true,[],rfl,fun _=>rfl,.bool true,aho l _,fun _=>⟨List.Pairwise.nil,fun _ hm=>(nomatch hm)⟩⟩,h2,h3,h4⟩
section
variable{prog:Program}{w:World}{A:Around}{E:Value->Shared->Prop}{s:Shared}{K:Frag}
end
end Att
namespace L2
theorem adc:∀{vs:List Value} {ns:List Int},IntsAre vs ns->Vals (ns.map V.int) vs
 | _,_,.nil=>.nil
 | _,_,.cons n t h=>.cons ⟨t,rfl⟩ (adc h)
def Only(H:Hp):Prop:=∀b,H b=none∨∃o xs,H b=some (.frz o (.lst xs))
theorem aj2{P:Program}{w:World}{K:Fg9}{mg mb:Str->Option Value}{CX:CXT}{k:Nat}{fa a:Addr}{fd:FuncData}{x:Str}{sp:Sp}{s₁:Shared}{vs:List Value}{ns:List Int}
  (KX:K.In s₁.heap) (hns:s₁.heap.Ns mainGlobals mg) (hb:s₁.heap.Ns builtinsNs mb) (hbb:∀x:Str,x ≠ "__name__" -> mb x=bootBuiltins x) (hlim:s₁.heap.NoLimit) (hg:s₁.gens = #[])
  (ha:s₁.heap.get? a=some { cls:=.type "list", data:=.seq vs.toArray }) (hi:IntsAre vs ns) (hl:ns.length<=sizeLine) (hr:Room k callerA)
  (F:∀base:Heap,K.In base->base.Ns mainGlobals mg->FnOk P w K mg base CX k fa fd [x] sp) (hbind:∀(s:Shared) (u:Value),BindsTo s fd ⟨[u],[]⟩ [(x,u)])
  (hsp:∀H:Hp,Only H->SqL K H a (ns.map V.int)->sp [.ref a] H (fun v _=>v=.bl true) fun _ _ _=>False)
  (hCX:∀H e s',CX [] H s₁ (fun _ _ _=>False) e s'->False) :
  codeAny (model P w) callerA (.call (.ref fa) ⟨[.ref a],[]⟩) (fun r s'=>r=.ok (.ret (.bool true))/\OldK s₁.heap s'.heap/\s'.os=s₁.os/\AllBare s'.gens) s₁:=by
 have rv:=adc hi;have lenV:=hi.length;have core:∀H:Hp,Only H->SqL K H a (ns.map V.int)->HOk P w H s₁.heap->(∀b,H b≠none->b=a)->(H a≠none->K.lookup a=none) ->
   codeAny (model P w) callerA (.call (.ref fa) ⟨[.ref a],[]⟩) (fun r s'=>r=.ok (.ret (.bool true))/\OldK s₁.heap s'.heap/\s'.os=s₁.os/\AllBare s'.gens) s₁:=by
  intro H hO hS hok hA hK;have base_of:∀{b:Addr} {o:Obj},s₁.heap.get? b=some o->H b=none->(hidT s₁.heap H).get? b=some o:=fun e n=>akb e n
  have noA:∀{b:Addr} {o:Obj} {es:Array DictEntry} {ep:Nat},s₁.heap.get? b=some o->o.data=.dict es ep->H b=none:=fun{b o es ep} e d=>by
   cases q:H b with
   | none=>rfl
   | some u =>
    have e':b=a:=hA b (by rw[q];simp)
    subst e';rw[ha] at e;cases e;have d':Data.seq vs.toArray _=Data.dict es ep:=d;cases d'
  have nsK:∀{b:Addr} {m:Str->Option Value},s₁.heap.Ns b m->(hidT s₁.heap H).Ns b m:=fun{b m} ⟨o,es,ep,e,d,r⟩=>⟨o,es,ep,base_of e (noA e d),d,r⟩
  have hKb:K.In (hidT s₁.heap H):=fun b o e=>base_of (KX b o e) (by
   cases q:H b with
   | none=>rfl
   | some u =>
    have e':b=a:=hA b (by rw[q];simp)
    subst e';rw[hK (by rw[q];simp)] at e;cases e)
  have hM:Mod K mg (hidT s₁.heap H):=⟨hKb,nsK hns,⟨mb,nsK hb,hbb⟩,let ⟨mc,h1,h2⟩:=hlim;⟨mc,nsK h1,h2⟩⟩
  have e0:Env0 P w K mg (hidT s₁.heap H) callerA [] s₁ H:=⟨rfl,hM,fun b o e=>amh e,Nat.le_of_eq (aie _ _),trivial,fun b hb=>absurd (show b∈([]:List Addr) from hb) (by simp),hok,.of_eq hg⟩
  refine codeAny_mono ((F _ hKb (nsK hns)).run callerA [] s₁ H ⟨[.ref a],[]⟩ [.ref a] [.ref a] _ _ hr e0 (hbind s₁ (.ref a)) (.cons rfl .nil) (hsp H hO hS)) fun r s' h =>?_
  cases r with
  | error e=>exact(hCX H e s' h).elim
  | ok fl =>
   cases fl with
   | next=>exact False.elim h
   | brk=>exact False.elim h
   | cont=>exact False.elim h
   | ret u =>
    obtain⟨v,H',os,bare,un,hok',r',q⟩:=h;have q':v=.bl true:=q;subst q';obtain rfl:u=Value.bool true:=r';refine⟨rfl,OldK.of_keep fun b o e =>?_,os,bare⟩
    cases q:H b with
    | none=>exact un.keep b o e q (by intro z;exact absurd (show b∈([]:List Addr) from z) (by simp)) (by simp)
    | some u =>
     rcases hO b with z | ⟨ob,xs,z⟩
     ·rw[q] at z;cases z
     ·have z2:=un.frzs b ob _ z;obtain⟨e1,_⟩:=hok b _ z;obtain⟨e2,_⟩:=hok' b _ z2;rw[e] at e1;cases e1;exact e2
 cases hk:K.lookup a with
 | some o =>
  have e:=KX a o hk;rw[ha] at e;cases e;refine core (fun _=>none) (fun _=>.inl rfl) (.inr ⟨_,vs.toArray,_,hk,rfl,rfl,rfl,by rw[List.size_toArray,lenV];exact hl,by simpa using rv⟩) (fun b u z=>by have z':(none:Option HO)=some u:=z;cases z') (fun b z=>absurd rfl z) fun z=>absurd rfl z
 | none =>
  refine core (fun b=>if b=a then some (.frz { cls:=.type "list", data:=.seq vs.toArray } (.lst (ns.map V.int))) else none) (fun b =>?_) (.inl (.inr ⟨{ cls:=.type "list", data:=.seq vs.toArray },if_pos rfl⟩)) (fun b u z =>?_) (fun b z =>?_) fun _=>hk
  ·by_cases hb:b=a
   ·exact .inr ⟨_,_,if_pos hb⟩
   ·exact .inl (if_neg hb)
  ·by_cases hb:b=a
   ·have z':=(if_pos hb).symm.trans z;cases z';subst hb;exact⟨ha,by rw[List.length_map];exact hl,vs,_,rv,ha⟩
   ·have z':=(if_neg hb).symm.trans z;cases z'
  ·by_cases hb:b=a
   ·exact hb
   ·exact absurd (if_neg hb) z
theorem alh{l:PySem.W.OpenLaw}{n k:Nat}{q:Program}{loose:List Str}{XP:(Str->Option Value)->Heap->Prop}{YP:World->Heap->Prop}{d:DefRec}{K:Params->Fg9}{CX:World->CXT}{sp:World->Sp}{x:Str}
  (hn:l.most=some n) (hn2:n<=sizeLine) (hdf:d.params.defaults=[]) (hr:Room k callerA)
  (hY:∀(w:World) (h:Heap),YP w h->(K w.params).In h)
  (F:∀(w:World) (mg:Str->Option Value) (fa:Addr) (h:Heap),(K w.params).In h->h.Ns mainGlobals mg->mg d.name=some (.ref fa) ->
   ∃fd:FuncData,(∀(s:Shared) (u:Value),BindsTo s fd ⟨[u],[]⟩ [(x,u)]) /\
    ∀base:Heap,(K w.params).In base->base.Ns mainGlobals mg->FnOk l.prog w (K w.params) mg base (CX w) k fa fd [x] (sp w))
  (hsp:∀(w:World) (H:Hp) (a:Addr) (ns:List Int),ns.length<=n->Only H->SqL (K w.params) H a (ns.map V.int)->sp w [.ref a] H (fun v _=>v=.bl true) fun _ _ _=>False)
  (hCX:∀(w:World) (H:Hp) (s:Shared) (e:Value) (s':Shared),CX w [] H s (fun _ _ _=>False) e s'->False) :
  PySem.W.WalkO q loose XP YP l.row.toRowW d [] (fun f vs=>PySem.call f vs):=by
 refine Att.aez hn hdf fun w s₀ s₁ mg mb fa o pm cd doc a vs ns G Y ho hd hcd hmg hobj hints hlen hg =>?_
 have KX:=hY w _ Y;obtain⟨fd,hb,hF⟩:=F w mg fa _ KX G.T.g hmg;exact aj2 KX G.T.g G.T.b G.T.builtins G.T.nolimit hg hobj hints (Nat.le_trans hlen hn2) hr hF hb (fun H hO hS=>hsp w H a ns hlen hO hS) fun H e s'=>hCX w H s₁ e s'
def jb(s:Stmt):Arguments:=match s with
 | .FunctionDef _ a _ _ _ _ _ _ _ _=>a
 | _=>{ posonlyargs:=[],args:=[],vararg:=none,kwonlyargs:=[],kw_defaults:=[],kwarg:=none,defaults:=[] }
def dm(s:Stmt):List Stmt:=match s with
 | .FunctionDef _ _ b _ _ _ _ _ _ _=>b
 | _=>[]
def ao(s:Stmt):Scope:=match s with
 | .FunctionDef _ _ _ _ _ _ sc _ _ _=>sc
 | _=>{ kind:=.function,names:=[],isGenerator:=false,isCoroutine:=false }
abbrev CX0:CXT:=fun _ _ _ _ _ _=>False
abbrev E0:XK:=fun _ _ _=>False
theorem asj{X:Cx}:ajb CX0 X E0:=fun _ _ _ _ _ _ _ h=>h.elim
structure Fun (K:Fg9) (x qual:Str) (st:Stmt) (f:Addr) (fd:FuncData):Prop where
 ex:∃(oc:Value) (od:Option Addr) (kV doc pm:Value) (an:Option Addr) (cdv ct:Value) (osl:Array (Option Value)),
  fd=fnOf x qual (jb st) (dm st) (ao st) .none kV doc pm an cdv ct/\K.lookup f=some ⟨oc,od,.func fd,osl⟩/\codeIn K cdv qual=true
 kp:keepIn K (.ref f)=true
section
variable{P:Program}{w:World}{K:Fg9}{mg:Str->Option Value}{base:Heap}
theorem Fun.ok{x qual:Str}{st:Stmt}{f:Addr}{fd:FuncData}{N ps:List Str}{k:Nat}{sp:Sp}(F:Fun K x qual st f fd)(S:FnScope N ps (ao st))(len:∀vs H Q E,sp vs H Q E->vs.length=ps.length)
  (hbody:∀(cdv:Value) (A:Around) (outer:List Env) (s:Shared) (H:Hp) (vs:List V) (Q:VK) (E:XK),Room k (A.deeper (envOfC qual (ao st) s.heap.objs.size f cdv))->sp vs H Q E ->
   ∃t,PSs (cxOf CX0 P w K mg base N qual (ao st) f cdv A outer s H E).nox (dm st) t/\t { nx:=fun _ H'=>Q .non H',rt:=Q } (start N vs) H):FnOk P w K mg base CX0 (k+1) f fd ps sp:=by
 obtain⟨oc,od,kV,doc,pm,an,cdv,ct,osl,rfl,lk,hcd⟩:=F.ex;refine aqc lk hcd S len fun A outer s H vs Q E hr hsp =>?_
 obtain⟨t,h,q⟩:=hbody cdv A outer s H vs Q E hr hsp;exact⟨t,h.nox,q⟩
theorem Fun.binds{x qual:Str}{st:Stmt}{f:Addr}{fd:FuncData}{ps:List Str}(F:Fun K x qual st f fd)
  (h:∀(kV doc pm:Value) (an:Option Addr) (cdv ct:Value) (us:List Value),us.length=ps.length->bindArgs (fnOf x qual (jb st) (dm st) (ao st) .none kV doc pm an cdv ct) ⟨us,[]⟩=pure (ps.zip us)):Binds K fd ps []:=by
 obtain⟨oc,od,kV,doc,pm,an,cdv,ct,osl,rfl,lk,hcd⟩:=F.ex;exact .all (h kV doc pm an cdv ct)
theorem ail{x qual:Str}{st:Stmt}{f:Addr}{oc:Value}{od an:Option Addr}{osl:Array (Option Value)}{kV doc pm cdv ct:Value}(l:K.lookup f=some ⟨oc,od,.func (fnOf x qual (jb st) (dm st) (ao st) .none kV doc pm an cdv ct),osl⟩)
  (c:codeIn K cdv qual=true) (k:keepIn K (.ref f)=true):Fun K x qual st f (fnOf x qual (jb st) (dm st) (ao st) .none kV doc pm an cdv ct):=⟨⟨oc,od,kV,doc,pm,an,cdv,ct,osl,rfl,l,c⟩,k⟩
end
section
variable{X:Cx}
theorem pv(i:Nat){x:Str}{pos:Pos}(hN:X.N[i]? = some x:=by rfl)(hv:Vis X.env.scope x:=by first | exact Or.inl rfl | exact Or.inr (Or.inl rfl) | exact Or.inr (Or.inr rfl))(hd:(x==("__debug__" : Str))=false:=by decide)
  (hcd:(x==("__classdict__" : Str))=false:=by decide):PE X (.Name x pos) (tVar i):=aoq hN hv hd hcd
end
theorem iteF{A B:Prop}(h:B):if false=true then A else B:=by
 rw[if_neg Bool.false_ne_true];exact h
theorem iteT{A B:Prop}(h:A):if true=true then A else B:=by
 rw[if_pos rfl];exact h
def Same(H H':Hp):Prop:=∀b o,H b=some o->H' b=some o
theorem Same.refl(H:Hp):Same H H:=fun _ _ h=>h
theorem Same.trans{H H1 H2:Hp}(a:Same H H1)(b:Same H1 H2):Same H H2:=fun c o h=>b c o (a c o h)
theorem Same.seq{K:Fg9}{H H':Hp}{a:Addr}{xs:List V}(e:Same H H')(h:SqL K H a xs):SqL K H' a xs:=by
 rcases h with(h | ⟨o,h⟩) | h
 ·exact .inl (.inl (e _ _ h))
 ·exact .inl (.inr ⟨o,e _ _ h⟩)
 ·exact .inr h
end L2
namespace Mn
open L2
def vm(env:Env)(fr:List Str):List (Str×Addr):=fr.filterMap fun n=>(env.cells.lookup n).map fun c=>(n,c)
theorem abl{env:Env}{n:Str}{r:List Str}(e:env.cells.lookup n=none):vm env (n::r)=vm env r:=by
 unfold vm;rw[List.filterMap_cons,e];rfl
theorem yl{env:Env}{n:Str}{r:List Str}{c:Addr}(e:env.cells.lookup n=some c):vm env (n::r)=(n,c)::vm env r:=by
 unfold vm;rw[List.filterMap_cons,e];rfl
theorem look_same{x:Str}{c:Addr}{l:List (Str×Addr)}:List.lookup x ((x,c)::l)=some c:=by
 have hb:(x==x)=true:=beq_iff_eq.mpr rfl;simp only[List.lookup,hb]
theorem ab5{x n:Str}{c:Addr}{l:List (Str×Addr)}(h:x≠n):List.lookup x ((n,c)::l)=l.lookup x:=by
 have hb:(x==n)=false:=beq_eq_false_iff_ne.mpr h;simp only[List.lookup,hb]
theorem j7{env:Env}:∀{fr:List Str} {x:Str} {c:Addr},(vm env fr).lookup x=some c->env.cells.lookup x=some c
 | [],x,c,h=>by
  have h':(none:Option Addr)=some c:=h;cases h'
 | n::r,x,c,h=>by
  cases e:env.cells.lookup n with
  | none =>
   rw[abl e] at h;exact j7 h
  | some d =>
   rw[yl e] at h
   by_cases hx:x=n
   ·subst hx;rw[look_same] at h;rw[e];exact h
   ·rw[ab5 hx] at h;exact j7 h
theorem wj{env:Env}:∀{fr:List Str} {x:Str} {c:Addr},x∈fr->env.cells.lookup x=some c->(vm env fr).lookup x=some c
 | [],x,c,hm,h=>absurd hm (by simp)
 | n::r,x,c,hm,h=>by
  by_cases hx:x=n
  ·subst hx;rw[yl h,look_same]
  ·have hm':x∈r:=(List.mem_cons.mp hm).elim (fun e=>absurd e hx) id
   cases e:env.cells.lookup n with
   | none =>
    rw[abl e];exact wj hm' h
   | some d =>
    rw[yl e,ab5 hx];exact wj hm' h
def aaw(XN fr:List Str):List Str->List (Option Nat)->Bool
 | [],[]=>true
 | _::N,none::r=>aaw XN fr N r
 | x::N,some j::r=>XN[j]? == some x&&fr.contains x&&aaw XN fr N r
 | _,_=>false
theorem aav{XN fr:List Str}:∀{N:List Str} {src:List (Option Nat)} {i j:Nat} {x:Str},aaw XN fr N src=true->N[i]? = some x->src[i]? = some (some j)->XN[j]? = some x/\x∈fr
 | [],[],i,j,x,_,h,_=>by simp at h
 | [],_::_,i,j,x,_,h,_=>by simp at h
 | _::_,[],i,j,x,_,_,h=>by simp at h
 | y::N,none::r,0,j,x,_,_,h=>by simp at h
 | y::N,none::r,i+1,j,x,hk,h1,h2=>aav (N:=N) (src:=r) (i:=i) hk (by simpa using h1) (by simpa using h2)
 | y::N,some k::r,0,j,x,hk,h1,h2=>by
  simp only[aaw,Bool.and_eq_true] at hk;obtain⟨⟨a,b⟩,_⟩:=hk;simp at h1 h2;subst h1 h2;exact⟨by simpa using a,by simpa using b⟩
 | y::N,some k::r,i+1,j,x,hk,h1,h2=>by
  simp only[aaw,Bool.and_eq_true] at hk;exact aav (N:=N) (src:=r) (i:=i) hk.2 (by simpa using h1) (by simpa using h2)
theorem aau{XN fr:List Str}:∀{N:List Str} {src:List (Option Nat)},aaw XN fr N src=true->src.length=N.length
 | [],[],_=>rfl
 | [],_::_,h=>by simp[aaw] at h
 | _::_,[],h=>by simp[aaw] at h
 | _::N,none::r,h=>by
  have:=aau (N:=N) (src:=r) h;simp[this]
 | _::N,some k::r,h=>by
  simp only[aaw,Bool.and_eq_true] at h;have:=aau (N:=N) (src:=r) h.2;simp[this]
def pick(src:List (Option Nat))(σ:L2.St):L2.St:=src.map fun o=>o.bind fun j=>(σ[j]?).bind id
theorem ajg{src:List (Option Nat)}{σ:L2.St}{i:Nat}{v:V}(h:(pick src σ)[i]? = some (some v)):∃j,src[i]? = some (some j)/\σ[j]? = some (some v):=by
 unfold pick at h;rw[List.getElem?_map] at h;cases e:src[i]? with
 | none=>rw[e] at h;cases h
 | some o =>
  rw[e] at h;have h':(o.bind fun j=>(σ[j]?).bind id)=some v:=Option.some.inj h
  cases o with
  | none=>cases h'
  | some j =>
   refine⟨j,rfl,?_⟩;have h2:(σ[j]?).bind id=some v:=h';cases q:σ[j]? with
   | none=>rw[q] at h2;cases h2
   | some z =>
    rw[q] at h2;have h3:z=some v:=h2;rw[h3]
def af5(env:Env)(XN:List Str)(scope:Scope)(fr N:List Str)(src:List (Option Nat)):Bool :=
 scope.names.all (fun y=>y.2 != .cell&&(y.2 != .local||scope.names.lookup y.1==some .local)&&(y.2 != .free||fr.contains y.1)) &&
 fr.all (fun x=>scope.names.lookup x==some .free&&(env.kindOf x==some .cell||env.kindOf x==some .free))&&aaw XN fr N src
structure CompOk (env:Env) (XN:List Str) (scope:Scope) (fr N:List Str) (src:List (Option Nat)):Prop where
 cell:∀y∈scope.names,y.2≠.cell
 loc:∀y∈scope.names,y.2=.local->scope.names.lookup y.1=some .local
 free:∀y∈scope.names,y.2=.free->y.1∈fr
 frk:∀x∈fr,scope.names.lookup x=some .free
 out:∀x∈fr,env.kindOf x=some .cell∨env.kindOf x=some .free
 src:aaw XN fr N src=true
theorem CompOk.of{env:Env}{XN:List Str}{scope:Scope}{fr N:List Str}{src:List (Option Nat)}(h:af5 env XN scope fr N src=true):CompOk env XN scope fr N src:=by
 simp only[af5,Bool.and_eq_true,List.all_eq_true] at h;obtain⟨⟨h1,h2⟩,h3⟩:=h;refine⟨fun y hy =>?_,fun y hy e =>?_,fun y hy e =>?_,fun x hx =>?_,fun x hx =>?_,h3⟩
 ·have:=(h1 y hy).1.1
  simpa using this
 ·have:=(h1 y hy).1.2;rw[e] at this
  simpa using this
 ·have:=(h1 y hy).2;rw[e] at this
  simpa using this
 ·have:=(h2 x hx).1
  simpa using this
 ·have:=(h2 x hx).2
  simpa using this
theorem aad{env:Env}:∀{names:List (Str×NameKind)} {x:Str} {k:NameKind},
  (names.map fun(n,k)=>if (k==NameKind.free&&env.scope.kind==.function&&env.kindOf n==some .cell) then (n,NameKind.cell) else (n,k)).lookup x=some k ->
  ∃k0,names.lookup x=some k0/\(k=k0∨(k0=.free/\k=.cell))
 | [],x,k,h=>by simp at h
 | (n,q)::r,x,k,h=>by
  by_cases hx:x=n
  ·subst hx;have hb:(x==x)=true:=beq_iff_eq.mpr rfl;refine⟨q,by simp only[List.lookup,hb],?_⟩
   by_cases hc:(q==NameKind.free&&env.scope.kind==.function&&env.kindOf x==some .cell)=true
   ·rw[List.map_cons] at h;simp only[hc,if_true,List.lookup,hb] at h;simp only[Bool.and_eq_true] at hc;exact .inr ⟨by simpa using hc.1.1,(Option.some.inj h).symm⟩
   ·rw[List.map_cons] at h;simp only[hc,List.lookup,hb] at h;exact .inl (by simpa using h.symm)
  ·have hb:(x==n)=false:=beq_eq_false_iff_ne.mpr hx;have h':(r.map fun(n,k)=>if (k==NameKind.free&&env.scope.kind==.function&&env.kindOf n==some .cell) then (n,NameKind.cell) else (n,k)).lookup x=some k:=by
    rw[List.map_cons] at h
    by_cases hc:(q==NameKind.free&&env.scope.kind==.function&&env.kindOf n==some .cell)=true
    ·simp only[hc,if_true,List.lookup,hb] at h;exact h
    ·have h2:List.lookup x ((if (q==NameKind.free&&env.scope.kind==.function&&env.kindOf n==some .cell)=true then (n,NameKind.cell) else (n,q))::(r.map fun(n,k)=>if (k==NameKind.free&&env.scope.kind==.function&&env.kindOf n==some .cell) then (n,NameKind.cell) else (n,k)))=some k:=h
     rw[if_neg hc] at h2;simp only[List.lookup,hb] at h2;exact h2
   obtain⟨k0,e,d⟩:=aad h';exact⟨k0,by simp only[List.lookup,hb];exact e,d⟩
theorem uq{env:Env}:∀{names:List (Str×NameKind)} {x:Str},names.lookup x=some .free ->
  (names.map fun(n,k)=>if (k==NameKind.free&&env.scope.kind==.function&&env.kindOf n==some .cell) then (n,NameKind.cell) else (n,k)).lookup x=some .free ∨
  (names.map fun(n,k)=>if (k==NameKind.free&&env.scope.kind==.function&&env.kindOf n==some .cell) then (n,NameKind.cell) else (n,k)).lookup x=some .cell
 | [],x,h=>by simp at h
 | (n,q)::r,x,h=>by
  by_cases hx:x=n
  ·subst hx;have hb:(x==x)=true:=beq_iff_eq.mpr rfl;simp only[List.lookup,hb] at h;have hq:q=.free:=Option.some.inj h;subst hq
   by_cases hc:(NameKind.free==NameKind.free&&env.scope.kind==.function&&env.kindOf x==some .cell)=true
   ·right
    rw[List.map_cons];simp only[hc,if_true,List.lookup,hb]
   ·left
    show List.lookup x ((if (NameKind.free==NameKind.free&&env.scope.kind==.function&&env.kindOf x==some .cell)=true then (x,NameKind.cell) else (x,NameKind.free))::_)=some NameKind.free
    rw[if_neg hc];simp only[List.lookup,hb]
  ·have hb:(x==n)=false:=beq_eq_false_iff_ne.mpr hx;simp only[List.lookup,hb] at h;rw[List.map_cons]
   by_cases hc:(q==NameKind.free&&env.scope.kind==.function&&env.kindOf n==some .cell)=true
   ·simp only[hc,if_true,List.lookup,hb];exact uq h
   ·simp only[hc,List.lookup,hb]
    simpa[List.lookup,hb] using uq (env:=env) h
def cxC(X:Cx)(N:List Str)(scope:Scope)(fr:List Str)(fp:List Addr)(s:Shared)(H:Hp):Cx where
 prog:=X.prog
 w:=X.w
 K:=X.K
 mg:=X.mg
 base:=X.base
 A:=X.A
 N:=N
 s₀:=s
 H₀:=H
 env:=compEnvC scope (vm X.env fr) s.heap.objs.size X.env
 outer:=X.stack
 stack:=X.stack
 ex:=fp
 fn:=fun _=>false
 calm:=X.calm
 pn:=[]
 xe:=fun _ _=>False
section
variable{X:Cx}{zv:List (Addr×Obj)}{σ:L2.St}{H:Hp}{s:Shared}{scope:Scope}{fr N:List Str}{src:List (Option Nat)}{fp:List Addr}
theorem aqg(I:Inv X zv σ H s)(C:CompOk X.env X.N scope fr N src)(hkind:scope.kind=.function)(hf:∀b∈fp,FpOk X zv H b)(hl:∀b∈fp,b < s.heap.objs.size):(cxC X N scope fr fp s H).Ok where
 mod:=I.ok.mod
 kind:=hkind
 glob:=I.ok.glob
 blt:=I.ok.blt
 above:=Nat.le_refl _
 inj:=fun x y c h1 h2=>I.ok.inj x y c (j7 h1) (j7 h2)
 has:=fun x hx=>by
  have mem:∀k,(k=NameKind.cell∨k=NameKind.free)->(cxC X N scope fr fp s H).env.kindOf x=some k->x∈fr:=fun k hk e=>by
   obtain⟨k0,e0,d⟩:=aad (env:=X.env) (names:=scope.names) e;have hm:=PySem.mem_of_lookup e0;rcases d with rfl | ⟨rfl,_⟩
   ·rcases hk with rfl | rfl
    ·exact absurd rfl (C.cell _ hm)
    ·exact C.free _ hm rfl
   ·exact C.free _ hm rfl
  have hm:x∈fr:=by
   rcases hx with e | e
   ·exact mem _ (.inl rfl) e
   ·exact mem _ (.inr rfl) e
  obtain⟨c,hc⟩:=I.ok.has x (C.out x hm);exact⟨c,wj hm hc⟩
 cab:=fun _ _ h _=>absurd h Bool.false_ne_true
 hd:=I.ok.hd
 frames:=I.ok.frames
 stk:=.inl rfl
 exf:=fun b hb=>⟨Nat.ne_of_lt (hl b hb),fun x c e=>(hf b hb).2.2.2.2.1 x c (j7 e)⟩
 bs:=I.bs
 bsz:=Nat.le_trans I.ok.bsz I.sz
 noex:=fun b o e hb=>by
  rcases(hf b hb).2.2.2.1 with z | z
  ·exact I.ok.noex b o e z
  ·exact absurd (Nat.lt_of_lt_of_le (Heap.lt_size e) (Nat.le_trans I.ok.bsz z)) (Nat.lt_irrefl _)
 exfs:=fun b hb z=>by
  rcases List.mem_cons.mp (I.stkSub b z) with e | e
  ·exact(hf b hb).2.1 e
  ·exact(hf b hb).2.2.1 e
 funs:=I.stack
 frf:=I.stkFree
theorem aj7(I:Inv X zv σ H s)(C:CompOk X.env X.N scope fr N src)(hkind:scope.kind=.function)(hf:∀b∈fp,FpOk X zv H b)(hl:∀b∈fp,b < s.heap.objs.size){h':Heap}{tk:Nat}{m:Str->Option Value}
  (hns:h'.Ns s.heap.objs.size m) (hk:∀b o,s.heap.get? b=some o->h'.get? b=some o):Inv (cxC X N scope fr fp s H) [] (pick src σ) H { s with heap:=h',toks:=tk } where
 ok:=aqg I C hkind hf hl
 os:=rfl
 bare:=I.bare
 base:=Un.kept hk
 loc:=by
  refine⟨m,hns,fun i x v h1 h2 h3 =>?_⟩
  obtain⟨j,hj,hv⟩:=ajg h2;obtain⟨hN,hm⟩:=aav C.src h1 hj;obtain⟨mo,_,hlo⟩:=I.loc;have vis:Vis X.env.scope x:=by
   rcases C.out x hm with e | e
   ·exact .inr (.inl e)
   ·exact .inr (.inr e)
  obtain⟨u,r,l⟩:=hlo j x v hN hv vis;refine⟨u,r,.inr ⟨?_,?_⟩⟩
  ·rcases uq (env:=X.env) (C.frk x hm) with e | e
   ·exact .inr e
   ·exact .inl e
  ·rcases l with⟨e,_⟩ | ⟨_,c,hc,z⟩
   ·rcases C.out x hm with q | q
    ·rw[q] at e;cases e
    ·rw[q] at e;cases e
   ·obtain⟨o,ho,hd⟩:=z;exact⟨c,wj hm hc,o,hk c o ho,hd⟩
 cell:=fun x c e=>by
  obtain⟨v,o,ho,hd⟩:=I.cell x c (j7 e);exact⟨v,o,hk c o ho,hd⟩
 free:=I.hok.fresh (Nat.le_refl _)
 freeC:=fun x c e=>I.freeC x c (j7 e)
 pin:=fun p hp=>absurd (show p∈([]:List (Addr×Obj)) from hp) (by simp)
 hok:=I.hok.kept hk
 len:=by
  unfold pick;rw[List.length_map];exact aau C.src
theorem aj8{pins':List (Addr×Obj)}{σ':L2.St}{H':Hp}{s':Shared}{h'':Heap}(I:Inv X zv σ H s)(hf:∀b∈fp,FpOk X zv H b)(J:Inv (cxC X N scope fr fp s H) pins' σ' H' s')
  (hs:Heap.SameBut s.heap.objs.size s'.heap h''):Inv X zv σ H' { s' with heap:=h'' }:=by
 have k:∀b o,b≠s.heap.objs.size->s'.heap.get? b=some o->h''.get? b=some o:=fun b o hb e=>(hs.2 b hb).trans e
 have old:∀b o,s.heap.get? b=some o->b≠s.heap.objs.size:=fun b o e=>Nat.ne_of_lt (Heap.lt_size e)
 have un:Un (frs X.stack) fp H H' s.heap h'':=by
  have u:Un (frs X.stack) fp H H' s.heap s'.heap:=J.base;refine⟨fun b o e n hb hx=>k b o (old b o e) (u.keep b o e n hb hx),fun b o e n hb hx =>?_,u.free,fun b o e hx =>?_,u.tups,u.frzs,u.tbls⟩
  ·obtain⟨sl,q⟩:=u.slot b o e n hb hx;exact⟨sl,k b _ (old b o e) q⟩
  ·obtain⟨o',q⟩:=u.there b o e hx;exact⟨o',k b _ (old b o e) q⟩
 have hok:HOk X.prog X.w H' h'':=fun b u e=>by
  have nC:∀c z,H' c=some z->c≠s.heap.objs.size:=fun c z q w=>by
   have f:H' s.heap.objs.size=none:=J.free;rw[w,f] at q;cases q
  refine(J.hok b u e).stay (fun c v hc q=>k c v ?_ q) (fun _ q=>q) fun _ _ q=>q
  rcases hc with z | z
  ·rw[z];exact nC b u e
  ·exact nC c _ z
 have os:s'.os=s.os:=J.os;refine Inv.call' (s':={ s' with heap:=h'' }) I os un hok J.bare fun b hb =>?_
 obtain⟨_,f1,_,f3,f4,f5⟩:=hf b hb;exact⟨f3,f1,f4,f5⟩
end
def aeh(ifs:List Expr)(env:Env):Sem Bool:=forIn ifs true fun c r=>if r=true then do let ok <-isTrue c env (eval c env);pure (ForInStep.yield ok) else pure (ForInStep.yield r)
def PIf(X:Cx)(ifs:List Expr)(t:TT):Prop :=
 ∀(zv:List (Addr×Obj)) (s:Shared) (σ:L2.St) (H:Hp) (Q:Bool->Hp->Prop),Inv X zv σ H s->t σ H Q->wpAny (model X.prog X.w) X.A (aeh ifs X.env) (TP X zv σ Q) X.xe s
def tYes:TT:=fun _ H Q=>Q true H
theorem al3{X:Cx}:PIf X [] tYes:=fun zv s σ H Q I h=>by
 show wpAny _ _ (pure true) _ _ s;exact wpAny_pure ⟨H,I,h⟩
theorem al2{X:Cx}{c:Expr}{t:TT}(hc:PT X c t):PIf X [c] t:=fun zv s σ H Q I h=>by
 unfold aeh;rw[List.forIn_cons];rw[if_pos rfl];refine wpAny_bind (wpAny_bind (thn (hc zv s σ H _ I h) fun b s1 q=>wpAny_pure ?_))
 show wpAny _ _ (forIn [] b _) _ _ s1;exact wpAny_pure q
section
variable{prog:Program}{w:World}{A:Around}{R:Result->Shared->Prop}{s:Shared}
theorem compLoop{elt target iter:Expr}{ifs:List Expr}{scope:Scope}{pos:Pos}{it acc:Value}{env:Env}(I:Nat->Shared->Prop)
  (turn:∀n s,I n s->wpAny (model prog w) A (pyNext it) (fun r s₁=>match r with
   | none=>R (.ok .next) s₁
   | some v=>wpAny (model prog w) A (letOwnedTupleGo target it v) (fun _ s₁'=>wpAny (model prog w) A (assign target env v) (fun _ s₂ =>
     wpAny (model prog w) A (aeh ifs env) (fun ok s₃ =>
      if ok=true then wpAny (model prog w) A (eval elt env) (fun x s₄ =>
       wpAny (model prog w) A (call (.builtin "list.append") [acc,x]) (fun _ s₅=>∃m,m < n/\I m s₅) (fun _ _=>False) s₄) (fun _ _=>False) s₃
      else ∃m,m < n/\I m s₃) (fun _ _=>False) s₂) (fun _ _=>False) s₁') (fun _ _=>False) s₁) (fun _ _=>False) s)
  (n:Nat) (h:I n s) :
  codeAny (model prog w) A (.compLoop (.ListComp elt [⟨target,iter,ifs,0⟩] scope pos) 0 it acc env) R s:=by
 refine codeAny_loop rfl I (fun n s hI =>?_) n h
 show wpAny _ A ((compTurn (.ListComp elt [⟨target,iter,ifs,0⟩] scope pos) 0 it acc env).onRaise (fun x=>do noteFrame x env;theTreesLotGoes x)) _ _ s
 refine wpAny_noted ?_;rw[compTurn_list];refine wpAny_bind (wpAny_standAt (wpAny_bind (wpAny_mono (turn n s hI) (fun r s₁ h₁ =>?_) fun _ _ h'=>h'.elim)))
 cases r with
 | none=>exact wpAny_pure h₁
 | some v =>
  refine wpAny_bind (wpAny_mono h₁ (fun _ s₁' h₁' =>?_) fun _ _ h'=>h'.elim)
  refine wpAny_bind (wpAny_mono h₁' (fun _ s₂ h₂=>wpAny_bind (wpAny_mono h₂ (fun ok s₃ h₃ =>?_) fun _ _ h'=>h'.elim)) fun _ _ h'=>h'.elim)
  cases ok with
  | false=>exact wpAny_pure ⟨rfl,h₃⟩
  | true =>
   exact wpAny_bind (wpAny_bind (wpAny_mono h₃ (fun x s₄ h₄=>wpAny_bind (wpAny_mono h₄ (fun _ s₅ h₅=>wpAny_pure (wpAny_pure ⟨rfl,h₅⟩)) fun _ _ h'=>h'.elim)) fun _ _ h'=>h'.elim))
end
def aqr(J:It)(g:TG)(ti:TT)(te:TE)(Q:VK)(d:Addr)(σ0:L2.St)(H1:Hp):Prop :=
 ∃W:Nat->Nat->List V->L2.St->Hp->Prop,(∃m,W 0 m [] σ0 (upd H1 d (.lst [])))/\∀i m ys σ H2,W i m ys σ H2->H2 d=some (.lst ys) /\
  ((J.stop i H2/\Q (.ref d) H2)∨(J.go i H2/\∀x H3,J.yld i H2 x H3->g x σ H3 fun σ4 H4=>ti σ4 H4 fun b H5 =>
   if b=true then te σ4 H5 fun y H6=>H6 d=some (.lst ys)/\ys.length < sizeLine/\∃m',m' < m/\W (i+1) m' (ys++[y]) σ4 (upd H6 d (.lst (ys++[y]))) else ∃m',m' < m/\W (i+1) m' ys σ4 H5))
def an8(wi:TI)(g:TG)(ti:TT)(te:TE)(src:List (Option Nat)):TE:=fun σ H Q=>wi σ H fun J H1=>∀d,H1 d=none->aqr J g ti te Q d (pick src σ) H1
theorem aix{X:Cx}{tg iter elt:Expr}{ifs:List Expr}{scope:Scope}{pos:Pos}{J:It}{fp:List Addr}{it d:Addr}{tn:Nat->Heap->Prop}{g:TG}{ti:TT}{te:TE}{Q:VK}{R:Result->Shared->Prop}
  {W:Nat->Nat->List V->L2.St->Hp->Prop} {m0:Nat} {σ0:L2.St} {H0:Hp} {s:Shared} (hc:X.calm=true) (hE:X.xe=fun _ _=>False) (T:Turn X.prog X.w X.K tg J fp it tn)
  (hf:∀H':Hp,(∀b∈fp,H' b=none)->∀b∈fp,FpOk X [] H' b) (hg:PG X tg g) (ht:PIf X ifs ti) (he:PE X elt te)
  (turn:∀i m ys σ H2,W i m ys σ H2->H2 d=some (.lst ys) /\
   ((J.stop i H2/\Q (.ref d) H2)∨(J.go i H2/\∀x H3,J.yld i H2 x H3->g x σ H3 fun σ4 H4=>ti σ4 H4 fun b H5 =>
    if b=true then te σ4 H5 fun y H6=>H6 d=some (.lst ys)/\ys.length < sizeLine/\∃m',m' < m/\W (i+1) m' (ys++[y]) σ4 (upd H6 d (.lst (ys++[y]))) else ∃m',m' < m/\W (i+1) m' ys σ4 H5)))
  (w0:W 0 m0 [] σ0 H0) (I0:Inv X [] σ0 H0 s) (st0:tn 0 s.heap) (fr0:∀b∈fp,H0 b=none)
  (hR:∀σ' H' s',Inv X [] σ' H' s'->Q (.ref d) H'->R (.ok .next) s') :
  codeAny (model X.prog X.w) X.A (.compLoop (.ListComp elt [⟨tg,iter,ifs,0⟩] scope pos) 0 (.ref it) (.ref d) X.env) R s:=by
 have hE':∀e s',X.xe e s'->False:=fun e s' h=>by rw[hE] at h;exact h
 refine compLoop (fun n s'=>∃i ys σ' H',Inv X [] σ' H' s'/\tn i s'.heap/\(∀b∈fp,H' b=none)/\W i n ys σ' H') ?_ m0 ⟨0,[],σ0,H0,I0,st0,fr0,w0⟩
 rintro n s5 ⟨i,ys,σ5,H5,I5,st5,fr5,w5⟩
 obtain⟨hD,alt⟩:=turn i n ys σ5 H5 w5;rcases alt with⟨stop,qn⟩ | ⟨go,step⟩
 ·refine wpAny_mono (T.done X rfl rfl rfl hc i [] s5 σ5 H5 (fun _ _=>False) I5 (hf _ fr5) st5 stop) (fun r s6 ⟨hr,I6⟩ =>?_) fun _ _ e=>e
  subst hr;exact hR σ5 H5 s6 I6 qn
 ·refine wpAny_mono (T.item X rfl rfl rfl hc i [] s5 σ5 H5 (fun _ _=>False) I5 (hf _ fr5) st5 go) (fun r s6 ⟨u,hr,h6⟩ =>?_) fun _ _ e=>e
  subst hr;refine wpAny_mono h6 (fun _ s7 ⟨x,H7,I7,r7,y7,st7,fr7⟩ =>?_) fun _ _ e=>e
  have I7':=I7.pinned (hf _ fr7) (T.obj _ _ st7);have again:∀{σ':L2.St} {H':Hp} {s':Shared} {ys':List V} {m':Nat},Inv X ([]++adm fp s7.heap) σ' H' s'->W (i+1) m' ys' σ' H'->∃i ys σ' H',Inv X [] σ' H' s'/\tn i s'.heap/\(∀b∈fp,H' b=none)/\W i m' ys σ' H':=fun{σ' H' s' ys' m'} Ia wa=>by
   refine⟨i+1,ys',σ',H',Ia.unpinned,T.keep _ _ _ st7 fun b hb o e=>(Ia.pin (b,o) (List.mem_append_right _ (List.mem_append_right _ (vy hb e)))).1,fun b hb =>?_,wa⟩
   obtain⟨o,e,d⟩:=T.obj _ _ st7 b hb;exact(Ia.pin (b,o) (List.mem_append_right _ (List.mem_append_right _ (vy hb e)))).2.1
  refine wpAny_mono (hg _ s7 σ5 H7 x u _ I7' r7 (step x H7 y7)) (fun _ s8 ⟨σ8,H8,I8,q8⟩ =>?_) hE'
  refine wpAny_mono (ht _ s8 σ8 H8 _ I8 q8) (fun ok s9 ⟨H9,I9,q9⟩ =>?_) hE'
  cases ok with
  | false =>
   rw[if_neg Bool.false_ne_true] at q9 ⊢
   obtain⟨m',hm,wa⟩:=q9;exact⟨m',hm,again I9 wa⟩
  | true =>
   rw[if_pos rfl] at q9 ⊢
   refine wpAny_mono (he _ s9 σ8 H9 _ I9 q9) (fun z s10 ⟨y,H10,I10,r10,hd10,hz,m',hm,wa⟩ =>?_) hE'
   refine wpAny_mono (mj _ s10 σ8 H10 (.ref d) [y] (.ref d) [z] (fun _ H'=>H'=upd H10 d (.lst (ys++[y]))) I10 rfl (.cons r10 .nil) ⟨d,ys,y,rfl,rfl,hd10,hz,rfl⟩) (fun _ s11 ⟨_,H11,I11,_,e11⟩ =>?_) hE'
   subst e11;exact⟨m',hm,again I11 wa⟩
theorem al8{X:Cx}{tg iter elt:Expr}{ifs:List Expr}{scope:Scope}{pos:Pos}{wi:TI}{g:TG}{ti:TT}{te:TE}(fr N:List Str)(src:List (Option Nat))(hc:X.calm=true)(hi:PI X tg iter wi)
  (hg:∀fp s H,PG (cxC X N scope fr fp s H) tg g) (ht:∀fp s H,PIf (cxC X N scope fr fp s H) ifs ti) (he:∀fp s H,PE (cxC X N scope fr fp s H) elt te)
  (hok:af5 X.env X.N scope fr N src=true:=by rfl) (hkind:scope.kind=.function:=by rfl) (hclos:closureFor scope X.env=pure (vm X.env fr):=by rfl)
  (hs:∀x,foldedSetIterable iter X.env x=pure x:=by intro _;rfl):PE X (.ListComp elt [⟨tg,iter,ifs,0⟩] scope pos) (an8 wi g ti te src):=by
 have C:=CompOk.of hok;intro zv s σ H Q I h;rw[eval_ListComp];refine wpAny_comprehension_free (use:=none) rfl hs hclos hkind C.loc (wpAny_mono (hi zv s σ H _ I h) (fun v s1 h1=>wpAny_mono h1 (fun itv s2 h2 =>?_) fun _ _ e=>e) fun _ _ e=>e)
 obtain⟨it,fp,tn,J,H2,e,I2,T,st2,f2,q2⟩:=h2;subst e;have hd0:H2 s2.heap.objs.size=none:=I2.hok.fresh (Nat.le_refl _);obtain⟨W,⟨m0,w0⟩,turn⟩:=q2 s2.heap.objs.size hd0;refine wpAny_newObj_type ?_;generalize hs3:({ s2 with heap:=s2.heap.push { cls:=.type "list", dict:=none,data:=.seq ([]:List Value).toArray } }:Shared)=s3
 have keep2:∀b o,s2.heap.get? b=some o->s3.heap.get? b=some o:=fun b o e=>by rw[<-hs3];exact Heap.get?_push_of_some _ e
 have I3:Inv X zv σ (upd H2 s2.heap.objs.size (.lst [])) s3:=by
  rw[<-hs3];exact I2.laid (t':=s2.toks) (fun b u q=>Heap.get?_push_of_some _ q) (Nat.le_refl _) ⟨Nat.zero_le _,[],0,.nil,Heap.get?_push_size _ rfl⟩
 have ne0:∀b∈fp,b≠s2.heap.objs.size:=fun b hb=>by
  obtain⟨o,e,_⟩:=T.obj _ _ st2 b hb;exact Nat.ne_of_lt (Heap.lt_size e)
 have f3:∀b∈fp,FpOk X zv (upd H2 s2.heap.objs.size (.lst [])) b:=fun b hb=>⟨by rw[bj (ne0 b hb)];exact(f2 b hb).1,(f2 b hb).2⟩
 have lt3:∀b∈fp,b < s3.heap.objs.size:=fun b hb=>by
  obtain⟨o,e,_⟩:=T.obj _ _ st2 b hb;exact Heap.lt_size (keep2 b o e)
 refine wpAny_newFunctionEnv C.cell (by intro y hy;simp at hy) (fun h₁ hns₁ hsb₁ =>?_) hkind
 have keep3:∀b o,s3.heap.get? b=some o->h₁.get? b=some o:=fun b o e=>hsb₁.extBut b o (Nat.ne_of_lt (Heap.lt_size e)) (Heap.get?_push_of_some _ e)
 have st4:tn 0 h₁:=T.keep _ _ _ st2 fun b hb o e=>keep3 b o (keep2 b o e)
 have I4:=aj7 (tk:=s3.toks+([]:List (Str×Value)).length) I3 C hkind f3 lt3 hns₁ keep3;have loop:=aix (X:=cxC X N scope fr fp s3 (upd H2 s2.heap.objs.size (.lst []))) (iter:=iter) (scope:=scope) (pos:=pos) (d:=s2.heap.objs.size)
  (R:=compPost (model X.prog X.w) X.A X.xe none (EP X zv σ Q) (.ref s2.heap.objs.size) s3.heap.objs.size) hc rfl T
  (fun H' hn b hb=>⟨hn b hb,Nat.ne_of_lt (lt3 b hb),I4.ok.exfs b hb,.inl hb,(I4.ok.exf b hb).2,fun p hp=>absurd (show p∈([]:List (Addr×Obj)) from hp) (by simp)⟩)
  (hg fp s3 _) (ht fp s3 _) (he fp s3 _) turn w0 I4 st4 (fun b hb=>(f3 b hb).1) (fun σ' H' s' I6 qn=>by
   obtain⟨m6,hn6,_⟩:=I6.loc;exact⟨m6,hn6,fun h'' hs''=>⟨.ref s2.heap.objs.size,H',aj8 I3 f3 I6 hs'',rfl,qn⟩⟩)
 exact codeAny_compStart_list loop (T.self _ 0 _ _ _ st4 loop)
theorem Same.new{H:Hp}{p:Addr}(h:H p=none)(o:HO):Same H (upd H p o):=fun b u q=>by rw[bj (dq q h)];exact q
structure ItOf (J:It) (xs:List V) (S:Hp->Prop):Prop where
 go:∀i H,S H->i < xs.length->J.go i H
 yld:∀i H x H',S H->J.yld i H x H'->H'=H/\(i < xs.length->xs[i]? = some x)
 stop:∀i H,S H->xs.length<=i->J.stop i H
theorem aj6{K:Fg9}{a:Addr}{xs:List V}:ItOf (Itt K a) xs fun H=>SqT K H a xs :=
 ⟨fun i H h hi=>⟨xs,xs[i],h,by simp[hi]⟩,fun i H x H' h y=>⟨y.1,fun _=>y.2 xs h⟩,fun i H h hi=>⟨xs,h,hi⟩⟩
theorem afq{K:Fg9}{a:Addr}{xs:List V}:ItOf (Itl K a) xs fun H=>SqL K H a xs :=
 ⟨fun i H h hi=>⟨xs,xs[i],h,by simp[hi]⟩,fun i H x H' h y=>⟨y.1,fun _=>y.2 xs h⟩,fun i H h hi=>⟨xs,h,hi⟩⟩
def ups(lo:Int)(n:Nat):List V:=(List.range n).map fun i=>V.int (lo+(i:Nat))
theorem aeg(lo:Int)(n:Nat):(ups lo n).length=n:=by simp[ups]
theorem ali{lo:Int}{n i:Nat}(h:i < n):(ups lo n)[i]? = some (.int (lo+(i:Nat))):=by
 unfold ups;rw[List.getElem?_map,List.getElem?_range h];rfl
theorem afp{lo:Int}{n:Nat}:ItOf (Itr lo n) (ups lo n) fun _=>True :=
 ⟨fun i H _ hi=>by rw[aeg] at hi;exact hi,fun i H x H' _ y=>⟨y.1,fun hi=>by rw[aeg] at hi;rw[ali hi,y.2]⟩,fun i H _ hi=>by rw[aeg] at hi;exact hi⟩
section
variable{X:Cx}
def rAll(K:Fg9):List V->Hp->VK->Prop:=fun xs H Q=>∃(p:Addr) (bs:List Bool),xs=[.ref p]/\SqL K H p (bs.map V.bl)/\Q (.bl (bs.all id)) H
theorem akr(hc:X.calm=true):zz X (.builtin "all") (rAll X.K):=by
 intro zv s σ H xs us Q I r h;obtain⟨p,bs,rfl,hq,q⟩:=h;obtain⟨u,rfl,ru⟩:=vals1 r;cases ru;obtain⟨its,rv,pl,hz⟩:=I.list hq;have hl:=pl.isList;have hlen:=rv.length;rw[List.length_map] at hlen;have hlt:p < s.heap.objs.size:=by obtain⟨_,e,_⟩:=hl;exact Heap.lt_size e
 refine call_all_walk (wpAny_pyIter_list hl ?_);refine⟨s.heap.objs.size,[s.heap.objs.size,p],[s.heap.objs.size],its.toArray.size,_,_,fun i=>(bs[i]?).getD true,rfl,Walks.list (A:=X.A.in1) (I.ok.hd hc) _ p (Nat.ne_of_lt hlt) its.toArray,
  ⟨⟨_,Heap.get?_push_size _ rfl,rfl,rfl⟩,hl.push _⟩,fun i v s' Q' E' hP hQ =>?_,fun h' tk hk =>?_⟩
 ·have hi:its[i]? = some v:=by simpa using hP
  cases e:bs[i]? with
  | none =>
   have h1:bs.length<=i:=List.getElem?_eq_none_iff.mp e;have h2:i < its.length:=(List.getElem?_eq_some_iff.mp hi).1;omega
  | some b =>
   obtain⟨u,hu,ru⟩:=rv.get (i:=i) (x:=V.bl b) (by rw[List.getElem?_map,e];rfl)
   rw[hi] at hu;cases hu;obtain rfl:v=Value.bool b:=ru;simp only[e,Option.getD_some] at hQ;exact wpAny_truthy_bool hQ
 ·have e:((List.range its.toArray.size).all fun i=>(bs[i]?).getD true)=bs.all id:=by
   rw[List.size_toArray,<-hlen];exact LSm.range_all bs
  rw[e];exact⟨.bl (bs.all id),H,I.kept (t':=tk) (LSm.kept_iter hk),rfl,q⟩
end
def Dfn(P:Program)(w:World)(K:Fg9)(mg:Str->Option Value)(base:Heap)(x:Str)(ps:List Str)(k:Nat)(sp:Sp):Prop :=
 ∃(f:Addr) (fd:FuncData),FnOk P w K mg base CX0 k f fd ps sp/\mg x=some (.ref f)/\keepIn K (.ref f)=true/\Binds K fd ps []
section
variable{X:Cx}{x:Str}{ps:List Str}{k:Nat}{sp:Sp}{e:Expr}{es:List Expr}{t:TA}{p pos:Pos}
theorem ash(F:Dfn X.prog X.w X.K X.mg X.base x ps k sp)(hr:Room k X.A)(hg:Gl X x)(ha:PA X (e::es) t)(hdb:(x==("__debug__" : Str))=false:=by decide)
  (he:starEach (e::es) X.env=(false,eval e X.env)::starEach es X.env:=by rfl) (hpl:(backTo pos (starEach es X.env)).any (·.1)=false:=by rfl):PE X (.Call (.Name x p) (e::es) [] pos) (alp sp [] E0 t):=by
 obtain⟨f,fd,F,hm,hk,hb⟩:=F;exact al9 F hr hg hm hk hb .nil asj ha hdb he hpl
theorem agm{n:Int}(hg:Gl X x)(hm:∃t,X.mg x=some (.int n t))(hd:(x==("__debug__" : Str))=false:=by decide):PE X (.Name x pos) (tC (.int n)):=by
 obtain⟨t,hm⟩:=hm;exact acl hg hm ⟨t,rfl⟩ hd
theorem abp{T:String}(hg:Gl X x)(hm:X.mg x=none)(hv:bootBuiltins x=some (.type T))(hn:x ≠ "__name__" := by decide)(hd:(x==("__debug__" : Str))=false:=by decide):PE X (.Name x pos) (tC (.ty T)) :=
 ama hg hm hv rfl hn hd
end
section
variable{X:Cx}
end
section
variable{prog:Program}{w:World}{A:Around}{E:Value->Shared->Prop}{s:Shared}
theorem akq{t b:Addr}{vs ws:List Value}{Q:Value->Shared->Prop}(ht:IsTup s.heap t vs.toArray)(hb:IsTup s.heap b ws.toArray)(hv:vs=[])(h:Q (.ref b) s):wpAny (model prog w) A (binaryOp .Add (.ref t) (.ref b)) Q E s:=by
 obtain⟨⟨cls,dd,data,sl⟩,ho,hc,n,hd⟩:=id ht;obtain⟨⟨cls2,dd2,data2,sl2⟩,ho2,hc2,n2,hd2⟩:=id hb;simp only at hc hd hc2 hd2;subst hc hd hc2 hd2;exact concat_meets ⟨_,ho,rfl⟩ ⟨_,ho2,rfl⟩ noFill_tuple_add seq_tuple_add PySem.F.slot_tuple_add PySem.F.entry_tuple_add (PySem.F.args_tuple_add_2 _ _)
  (tuple_addW0 t b vs.toArray ws.toArray n n2 dd dd2 sl sl2 (by simp[hv])) ⟨ho,ho2,h⟩
end
section
variable{X:Cx}
end
section
variable{X:Cx}
def an7(x:Str)(n:Int):TE:=fun _ H Q=>∀p,H p=none->Q (.ref p) (upd H p (.dK [(Sum.inr x,.int n)]))
theorem ajl{x:Str}{n:Int}{j1 j2:Nat}{p1 p2 pos:Pos}:PE X (.Dict [some (.Constant (.str x) j1 p1)] [.Constant (.int n) j2 p2] pos) (an7 x n):=by
 intro zv s σ H Q I q;have big:sysModules < s.heap.objs.size:=by
  have h:mainGlobals < s.heap.objs.size:=(I.mod.glob.keeps I.bk).lt;exact Nat.lt_trans (by decide) h
 have hn:=I.hok.fresh (Nat.le_refl s.heap.objs.size);refine wpAny_Dict_walk (knd:=acy X.prog X.w) rfl rfl (by simp) (by show 1<=15;decide) ?_
 refine pairTrees_cons_walk (Calls.Constant_str (wpAny_Constant_int (pairTrees_nil_walk ?_)));refine⟨[((Sum.inr x:Key),Value.int n (s.toks+1))],⟨aer X.prog X.w x s.toks,rfl,True.intro⟩,Heap.DictOf.new s.heap,fun h' dd hs =>?_⟩
 refine⟨.ref s.heap.objs.size,upd H s.heap.objs.size (.dK [(Sum.inr x,.int n)]),?_,rfl,q _ hn⟩;refine I.laid (fun b u e=>hs.extBut b u (Nat.ne_of_lt (Heap.lt_size e)) (Heap.get?_push_of_some _ e)) (Nat.le_refl _) ?_
 exact⟨by show 1<=sizeLine;decide,beq_eq_false_iff_ne.mpr (Ne.symm (Nat.ne_of_lt big)),_,.cons ⟨rfl,_,rfl⟩ .nil,dd⟩
end
theorem uf:fillsNumberSlot (.type "tuple") "mul" = pure false :=
 PySem.fillsNumberSlot_seq (id := "tuple.__mul__") (r:=some (.builtin "tuple.__rmul__")) F.slot_tuple_mul.lookup (by decide +kernel) F.slot_tuple_rmul.lookup (by decide +kernel)
theorem aac:seqRepeat? (.type "tuple")=pure (some (.builtin "tuple.__mul__")):=by
 unfold seqRepeat?;rw[PySem.seqSlot_of (T := "tuple") (name := "__mul__") (id := "tuple.__mul__") F.slot_tuple_mul.lookup (by decide +kernel),PySem.seqSlot_of (T := "tuple") (name := "__rmul__") (id := "tuple.__rmul__") F.slot_tuple_rmul.lookup (by decide +kernel)]
 rfl
theorem ww(a:Int)(t:Tok)(l:Addr)(items:Array Value)(n:Nat)(dd:Option Addr)(sl:Array (Option Value)) :
  Meets (Builtin.«int.__rmul__» ⟨[.int a t,.ref l],[]⟩) (fun _ R s=>s.heap.get? l=some { cls:=.type "tuple", dict:=dd,data:=.seq items n,slots:=sl }/\R (.ok (.ret Value.notImplemented)) s) :=
 .of_wp fun prog w A R s h=>by obtain⟨hp,g,d,tk,os⟩:=s;obtain⟨hl,h⟩:=h;wp_walk;exact⟨_,rfl,h⟩
theorem agf(l:Addr)(items:Array Value)(n:Nat)(dd:Option Addr)(sl:Array (Option Value))(x:Int)(u:Tok)(h0:items.isEmpty=false)(h2:2<=x)(h63:x < 2 ^ 63)(hsz:items.size*x.toNat<=sizeLine) :
  Meets (Builtin.«tuple.__mul__» ⟨[.ref l,.int x u],[]⟩) (fun _ R s=>s.heap.get? l=some { cls:=.type "tuple", dict:=dd,data:=.seq items n,slots:=sl } /\
   R (.ok (.ret (Value.ref s.heap.objs.size))) { s with heap:=s.heap.push { cls:=Value.type "tuple", data:=Data.seq (List.foldl (fun x1 x2=>x1++x2) #[] (List.replicate x.toNat items)) },toks:=s.toks }) :=
 .of_wp fun prog w A R s h=>by
  obtain⟨hp,g,d,tk,os⟩:=s;obtain⟨hl,h⟩:=h;have c1:(decide (x < -2 ^ 63)||decide (x≥2 ^ 63))=false:=by
   rw[Bool.or_eq_false_iff];exact⟨decide_eq_false (by omega),decide_eq_false (by omega)⟩
  have c2:(items.isEmpty||x==1)=false:=by
   rw[h0,Bool.false_or,beq_eq_false_iff_ne];omega
  have c3:(decide (x<=0)||items.isEmpty)=false:=by
   rw[h0,Bool.or_false];exact decide_eq_false (by omega)
  have e4:((items.size:Int)*x)=((items.size*x.toNat:Nat):Int):=by
   have:x=(x.toNat:Int):=by omega
   rw[Int.natCast_mul,<-this]
  have h4:(sizeLine:Int)<=(2 ^ 63 - 1) / 8:=by decide
  have c4:¬((items.size:Int)*x > (2 ^ 63 - 1) / 8):=by rw[e4];omega
  have c5:Builtin.Tuple.tupleTooMany ((items.size:Int)*x)=false:=by
   unfold Builtin.Tuple.tupleTooMany;rw[e4];exact decide_eq_false (by omega)
  wp_walk;refine wpAny_ite_false (by rw[c1];rfl) ?_
  wp_walk;refine wpAny_ite_false (by rw[c2];rfl) ?_
  try dsimp only
  refine wpAny_ite_false (by rw[c3];rfl) ?_
  try dsimp only
  refine wpAny_ite_false (decide_eq_false c4) ?_
  try dsimp only
  refine wpAny_ite_false (by rw[c5];rfl) ?_
  have hso:sizeOk (.seq (List.foldl (fun x1 x2=>x1++x2) #[] (List.replicate x.toNat items))):=by
   show(List.foldl (fun x1 x2=>x1++x2) #[] (List.replicate x.toNat items)).size<=sizeLine
   have hn:=foldl_rep items.toList x.toNat [];rw[List.nil_append] at hn;have hn':List.foldl (fun x1 x2=>x1++x2) #[] (List.replicate x.toNat items)=(List.replicate x.toNat items.toList).flatten.toArray:=hn
   rw[hn',List.size_toArray,len_rep,Array.length_toList,Nat.mul_comm];exact hsz
  refine wpAny_bind (m:=Builtin.Tuple.tupleExact _) (wpAny_newObj_type (wpAny_pure ⟨_,rfl,h⟩) hso)
theorem agg(l:Addr)(items:Array Value)(n:Nat)(dd:Option Addr)(sl:Array (Option Value))(x:Int)(u:Tok)(hx:x=1) :
  Meets (Builtin.«tuple.__mul__» ⟨[.ref l,.int x u],[]⟩) (fun _ R s=>s.heap.get? l=some { cls:=.type "tuple", dict:=dd,data:=.seq items n,slots:=sl }/\R (.ok (.ret (Value.ref l))) s) :=
 .of_wp fun prog w A R s h=>by
  obtain⟨hp,g,d,tk,os⟩:=s;obtain⟨hl,h⟩:=h;have c1:(decide (x < -2 ^ 63)||decide (x≥2 ^ 63))=false:=by
   rw[Bool.or_eq_false_iff];exact⟨decide_eq_false (by omega),decide_eq_false (by omega)⟩
  have c2:(items.isEmpty||x==1)=true:=by rw[hx];simp
  wp_walk;exact⟨_,rfl,h⟩
section
variable{X:Cx}
theorem ame:OpR X (binaryOp .Mult) (fun x y H Q=>∃a xs,x=.ref a/\y=.int 1/\H a=some (.tup xs)/\Q (.ref a) H):=by
 intro zv s σ H x y v u Q I rx ry h;obtain⟨a,xs,rfl,rfl,ha,q⟩:=h;cases rx;obtain⟨t,rfl⟩:=ry;obtain⟨its,r1,p1,_⟩:=I.tuple (SqT.of ha);obtain⟨⟨cls,dd,data,sl⟩,ho,hc,n,hd⟩:=id p1;simp only at hc hd;subst hc hd;exact wpAny_binaryOp_repeat_ref (T := "tuple") (U := "int") (by decide) ⟨_,ho,rfl⟩ (fun s'=>typeIs_int s' 1 t) uf F.fills_int_mul F.slot_int_rmul aac F.slot_int_index.lookup
  (call_meets F.slot_int_rmul (typeIs_int s 1 t) F.entry_int_rmul (F.args_int_rmul_2 _ _) (ww 1 t a its.toArray n dd sl)
   ⟨ho,rfl,⟨_,ho,rfl⟩,call_meets F.slot_tuple_mul ⟨_,ho,rfl⟩ F.entry_tuple_mul (F.args_tuple_mul_2 _ _) (agg a its.toArray n dd sl 1 t rfl) ⟨ho,⟨.ref a,H,I,rfl,q⟩⟩⟩)
def aoh:R2:=fun x y H Q=>∃a xs k,x=.ref a/\y=.int k/\H a=some (.tup xs)/\xs≠[]/\2<=k/\k < 2 ^ 63/\xs.length*k.toNat<=sizeLine/\∀p,H p=none->Q (.ref p) (upd H p (.tup (List.replicate k.toNat xs).flatten))
theorem ajp:OpR X (binaryOp .Mult) aoh:=by
 intro zv s σ H x y v u Q I rx ry h;obtain⟨a,xs,k,rfl,rfl,ha,hx,h2,h63,hz,q⟩:=h;cases rx;obtain⟨t,rfl⟩:=ry;obtain⟨its,r1,p1,_⟩:=I.tuple (SqT.of ha);obtain⟨⟨cls,dd,data,sl⟩,ho,hc,n,hd⟩:=id p1;simp only at hc hd;subst hc hd;have hnew:List.foldl (fun x1 x2=>x1++x2) #[] (List.replicate k.toNat its.toArray)=(List.replicate k.toNat its).flatten.toArray:=by
  have:=foldl_rep its k.toNat [];rw[List.nil_append] at this;exact this
 refine wpAny_binaryOp_repeat_ref (T := "tuple") (U := "int") (by decide) ⟨_,ho,rfl⟩ (fun s'=>typeIs_int s' k t) uf F.fills_int_mul F.slot_int_rmul aac F.slot_int_index.lookup
  (call_meets F.slot_int_rmul (typeIs_int s k t) F.entry_int_rmul (F.args_int_rmul_2 _ _) (ww k t a its.toArray n dd sl)
   ⟨ho,rfl,⟨_,ho,rfl⟩,call_meets F.slot_tuple_mul ⟨_,ho,rfl⟩ F.entry_tuple_mul (F.args_tuple_mul_2 _ _) (agf a its.toArray n dd sl k t ?_ h2 h63 ?_) ⟨ho,?_⟩⟩)
 ·cases its with
  | nil=>exact absurd (r1.nil_iff.mp rfl) hx
  | cons _ _=>rfl
 ·rw[List.size_toArray,<-r1.length];exact hz
 ·rw[hnew];refine⟨.ref s.heap.objs.size,_,I.laid (t':=s.toks) (o:=.tup (List.replicate k.toNat xs).flatten) (fun b ob q=>Heap.get?_push_of_some _ q) (Nat.le_refl _) ?_,rfl,q _ (I.hok.fresh (Nat.le_refl _))⟩
  exact⟨by rw[len_rep,Nat.mul_comm];exact hz,_,r1.rep k.toNat,IsTp.new _ _⟩
end
section
variable{prog:Program}{w:World}{A:Around}{E:Value->Shared->Prop}{s:Shared}
theorem xu{t sl:Addr}{items:Array Value}{vl vu:Value}{lo hi:Option Int}{Q:Value->Shared->Prop}(ht:IsTup s.heap t items)(hs:s.heap.IsSliceOf sl vl vu .none)(pl:IsPart vl lo)(pu:IsPart vu hi)
  (h1:HT.sIx items.size 0 lo=0) (h2:HT.sIx items.size items.size hi=items.size) (h:Q (.ref t) s):wpAny (model prog w) A (getItem (.ref t) (.ref sl)) Q E s:=by
 obtain⟨os,hos,hcs,hds⟩:=id hs;have hTs:s.TypeIs (.ref sl) "slice" := ⟨os,hos,hcs⟩;unfold getItem
 try with_reducible refine wpAny_holding ?_
 first | refine wpAny_bind (wpAny_pure ?_) | skip
 refine wpAny_bind (wpAny_sequenceKey ht.typeIs (by decide) ?_)
 refine wpAny_bind (wpAny_callSpecial?_slot (name:=Str.ofString "__getitem__") ht.typeIs PyProof.Rows.slot_tuple_getitem
  (wpAny_call_entry PyProof.Rows.slot_tuple_getitem ht.typeIs entry_tuple_getitem ?_ (args_tuple_getitem _ _)))
 show wpAny _ _ (Builtin.Tuple.tupleItemsOf (.ref t) >>= _) _ _ s;refine wpAny_bind (tupleItemsOf_ ht ?_);refine wpAny_bind (wpAny_typeOf hTs ?_);rw[if_pos (by decide)]
 refine wpAny_bind (HT.ud hs pl pu ?_);have hyes:(((HT.sIx items.size 0 lo:Nat):Int)==0&&(1:Int)==1&&(HT.sIx items.size items.size hi - HT.sIx items.size 0 lo)==items.size)=true:=by
  rw[h1,h2];simp
 show wpAny _ _ (if (((HT.sIx items.size 0 lo:Nat):Int)==0&&(1:Int)==1&&(HT.sIx items.size items.size hi - HT.sIx items.size 0 lo)==items.size)=true then _ else _) _ _ s
 rw[if_pos hyes];refine wpAny_bind (wpAny_bind (wpAny_typeOf ht.typeIs (wpAny_pure ?_)));rw[if_pos (by decide)]
 exact wpAny_bind (wpAny_rule (wpAny_pure ⟨_,rfl,wpAny_pure h⟩))
end
section
variable{X:Cx}
end
section
variable{X:Cx}(K:Fg9)(hK:X.K=K)
include hK
variable{tg:Expr}
end
theorem qe:bootBuiltins "len" = some (.builtin "len"):=by decide +kernel
theorem aqn:bootBuiltins "all" = some (.builtin "all"):=by decide +kernel
theorem aj:bootBuiltins "isinstance" = some (.builtin "isinstance"):=by decide +kernel
theorem aqm:bootBuiltins "max" = some (.builtin "max"):=by decide +kernel
theorem aql:bootBuiltins "min" = some (.builtin "min"):=by decide +kernel
theorem ai6:bootBuiltins "divmod" = some (.builtin "divmod"):=by decide +kernel
theorem af9:bootBuiltins "int" = some (.type "int"):=by decide +kernel
theorem ai7:bootBuiltins "bool" = some (.type "bool"):=by decide +kernel
theorem lw:bootBuiltins "tuple" = some (.type "tuple"):=by decide +kernel
theorem ace:bootBuiltins "str" = some (.type "str"):=by decide +kernel
theorem aea:bootBuiltins "enumerate" = some (.type "enumerate"):=by decide +kernel
structure ExcK (K:Fg9) (C:Addr):Prop where
 ga:findIn K (.ref C) "__getattribute__" = some (some (.builtin "BaseException.__getattribute__"))
 gh:findIn K (.ref C) "__getattr__" = some none
 be:PySem.W.mroIn K C (.type "BaseException")=some true
 hd:PySem.W.hasDictIn K C=true
 cl:findIn K (.ref C) "__class__" = some (some (.builtin "object.__class__"))
 sp:PySem.W.specialIn K (.builtin "object.__class__") "__get__" = some (some (.builtin "getset_descriptor.__get__"))
 tk:PySem.W.takesIn K (.builtin "object.__class__")=some true
 ob:PySem.W.mroIn K C (.type "object")=some true
 no:∀T∈["int","bool","tuple","list","str","dict"],PySem.W.subIn K (.ref C) (.type T)=some false
theorem aex{K:Fg9}{C:Addr}{od:Option Obj}{name:Str}{a g:Value}(hc:(PySem.W.clsIn K C).isSome=true)(ha:findIn K (.ref C) name=some (some a))(hg:PySem.W.specialIn K a "__get__" = some (some g))(ht:PySem.W.takesIn K a=some true):PySem.W.findObj K C od name=some (.bind g a):=by
 obtain⟨cd,hc⟩:=Option.isSome_iff_exists.mp hc;unfold PySem.W.findObj;rw[hc,Option.bind_some,ha,Option.bind_some];simp[hg,ht]
section
variable{prog:Program}{w:World}{A:Around}{E:Value->Shared->Prop}{s:Shared}{K:Fg9}{x D:Addr}{ox:Obj}{od:Option Obj}{name:Str}
theorem afx{fill expr:Bool}{tk:Tok}{Q:Value->Shared->Prop}(X:K.In s.heap)(I:PySem.W.InstAt s.heap x ox D od)(k:ExcK K D)
  (h:wpAny (model prog w) A.in1 (Builtin.«object.__getattribute__» ⟨[.ref x,.str name tk],[]⟩)
   (fun fin s'=>match fin with | .done (.ret v)=>wpAny (model prog w) A (handedOut v) Q E s' | _=>False) (fun _ _=>False) s) :
  wpAny (model prog w) A (getAttrBy (.ref x) (.str name tk) fill expr) Q E s:=by
 obtain⟨hh,g,d,t,os⟩:=s;have L0:=I.type (M:=model prog w);have L1:=PySem.W.looks_findIn (M:=model prog w) X k.ga;have L2:=PySem.W.looks_findIn (M:=model prog w) X k.gh;have L3:PySem.W.Looks (model prog w) hh (isInstance (.ref x) (.type "BaseException")) true:=L0.andThen (PySem.W.looks_mroIn X k.be);unfold getAttrBy;refine wpAny_holding (wpAny_bind (L0.at (wpAny_bind (L1.at ?_))));have hx2:(Value.builtin "BaseException.__getattribute__" == Value.builtin "object.__getattribute__")=false:=by decide +kernel
 have hx1:(onTheHeap (Value.ref D)&&Value.builtin "BaseException.__getattribute__" == Value.builtin "object.__getattribute__")=false:=by rw[hx2,Bool.and_false]
 simp only[hx1,Bool.false_eq_true,if_false];unfold getAttrByItsOwn hookBefore;rw[if_pos (show onTheHeap (Value.ref D)=true from rfl)]
 refine wpAny_bind ?_;refine L2.at (wpAny_bind (wpAny_attempt (wpAny_holding ?_)));have hx0:(expr&&onTheHeap (Value.builtin "BaseException.__getattribute__"))=false:=by cases expr <;> rfl
 unfold callGetattribute;rw[if_neg (by rw[hx0];exact Bool.false_ne_true)]
 unfold boundAndCalled;refine wpAny_bind (wpAny_of_eq (PySem.F.attr_ValueError.ga.bind (.ref x)) ?_);have hk1:builtinKind "BaseException.__getattribute__" = some .slot:=by decide +kernel
 have hs1:splitId "BaseException.__getattribute__" = some ("BaseException","__getattribute__"):=by decide +kernel
 have ha1:=PySem.F.args_bexc_ga (.ref x) (.str name tk);dsimp only[List.cons_append,List.nil_append];refine wpAny_call (codeAny_call_builtin (id := "BaseException.__getattribute__") (args:=⟨[.ref x,.str name tk],[]⟩) PySem.F.attr_ValueError.ga.plain PySem.F.entry_bexc_ga ?_);refine PySem.W.check_slot (i := "BaseException.__getattribute__") (owner := "BaseException") (n := "__getattribute__") (self:=.ref x) (rest:=[.str name tk]) (kw:=[]) hk1 hs1 L3 ha1 ?_;refine wpAny_mono h (fun fin s' z =>?_) fun _ _ z=>z.elim
 rcases fin with(_ | _ | _ | _) | _ <;> first | exact z | exact z.elim
theorem aki{g a:Value}{tk:Tok}{P:Value->Shared->Prop}(X:K.In s.heap)(I:PySem.W.InstAt s.heap x ox D od)(hf:PySem.W.findObj K D od name=some (.bind g a))
  (h:wpAny (model prog w) A (call g [a,.ref x,.ref D]) P E s) :
  wpAny (model prog w) A (Builtin.«object.__getattribute__» ⟨[.ref x,.str name tk],[]⟩) (fun fin s'=>match fin with | .done (.ret v)=>P v s' | _=>False) E s:=by
 obtain⟨hh,gg,d,t,os⟩:=s;have L0:=I.type (M:=model prog w);have L1:=PySem.W.looks_find (M:=model prog w) X I hf;unfold Builtin.«object.__getattribute__»
 refine wpAny_bind (wpAny_pure (wpAny_bind (wpAny_pure (wpAny_bind (L0.at (wpAny_bind (L1.at ?_)))))));show wpAny _ _ (Builtin.ObjectAttr.bindTo g a (.ref x) (.ref D)) _ _ _;show wpAny _ _ (holding [a] (call g [a,.ref x,.ref D]) >>= ret) _ _ _;exact wpAny_bind (wpAny_holding (wpAny_mono h (fun v s' z=>wpAny_pure z) fun _ _ z=>z))
theorem exc_value{v:Value}{tk:Tok}{Q:Fin->Shared->Prop}(X:K.In s.heap)(I:PySem.W.InstAt s.heap x ox D od)(hf:PySem.W.findObj K D od name=some (.value v))(h:Q (.done (.ret v)) s) :
  wpAny (model prog w) A (Builtin.«object.__getattribute__» ⟨[.ref x,.str name tk],[]⟩) Q E s:=by
 obtain⟨hh,gg,d,t,os⟩:=s;have L0:=I.type (M:=model prog w);have L1:=PySem.W.looks_find (M:=model prog w) X I hf;unfold Builtin.«object.__getattribute__»
 refine wpAny_bind (wpAny_pure (wpAny_bind (wpAny_pure (wpAny_bind (L0.at (wpAny_bind (L1.at ?_)))))));exact wpAny_pure h
end
theorem afn{K:Fg9}{x D:Addr}(k:ExcK K D):PySem.W.KitX K (.ref x) (.ref D) (fun h=>∃ox od,PySem.W.InstAt h x ox D od) where
 ty:=fun _ _ _ ⟨_,_,I⟩=>I.type
 it:=fun _ _ X _=>by
  obtain⟨cdD,hcD,_⟩:=PySem.W.any_some k.hd;unfold PySem.W.clsIn at hcD;split at hcD
  ·rename_i c' d' cd' sl' ho;intro A' Q' E' s' k q;unfold isType loadHead;exact wpAny_bind (wpAny_loadPart (k _ _ (X _ _ ho)) (wpAny_pure q))
  ·cases hcD
 ne:=fun h tp dd its n sl X htp=>by
  obtain⟨cdD,hcD,_⟩:=PySem.W.any_some k.hd;refine Bool.eq_false_iff.mpr fun q =>?_
  have e:D=tp:=Value.ref.inj (beq_iff_eq.mp q);subst e;unfold PySem.W.clsIn at hcD;split at hcD
  ·rename_i c' d' cd' sl' ho;have z:=(X _ _ ho).symm.trans htp;cases z
  ·cases hcD
 ca:=fun{prog w A E Q s} X ⟨ox,od,I⟩ q=>by
  have hf:PySem.W.findObj K D od "__class__" = some (.bind (.builtin "getset_descriptor.__get__") (.builtin "object.__class__")):=aex (by obtain⟨cd,hc,_⟩:=PySem.W.any_some k.hd;rw[hc];rfl) k.cl k.sp k.tk
  unfold getAttr? getAttrBy?;refine wpAny_bind (wpAny_mkText (wpAny_bind (wpAny_attempt (afx (s:={ s with toks:=s.toks+1 }) X I k (aki (s:={ s with toks:=s.toks+1 }) X I hf
   (wpAny_call (PySem.W.class_get (s:={ s with toks:=s.toks+1 }) (ox:=ox) (od:=od) X I k.ob (PySem.W.handed_on rfl (wpAny_pure q)))))))))
end Mn
namespace Dn
open L2 Mn
inductive D where
 | non | bl (b:Bool) | int (i:Int) | str (x:Str) | tup (l:List D) | lst (l:List D) | kst (l:List D) | dct (kvs:List (Key×D)) | exn (c:Str) (fs:List (Str×Int))
def exO(a C:Addr)(dx:Option Addr):Heap->Prop:=fun h=>∃oe vs,h.get? a=some oe/\oe.cls=.ref C/\oe.dict=dx/\oe.data=.fields vs
section
variable(K:Fg9)(F:Hp)
mutual
inductive Is:D->V->Prop
 | non:Is .non .non
 | bl (b:Bool):Is (.bl b) (.bl b)
 | int (i:Int):Is (.int i) (.int i)
 | str (x:Str):Is (.str x) (.str x)
 | tup {a:Addr} {vs:List V} {ds:List D} (e:F a=some (.tup vs)) (h:IsL ds vs):Is (.tup ds) (.ref a)
 | lst {a:Addr} {vs:List V} {ds:List D} (e:F a=some (.lst vs)) (h:IsL ds vs):Is (.lst ds) (.ref a)
 | kst {a:Addr} {vs:List V} {ds:List D} (e:SqL K F a vs) (h:IsL ds vs):Is (.kst ds) (.ref a)
 | dct {a:Addr} {kvs:List (Key×V)} {ds:List (Key×D)} (e:F a=some (.dK kvs)) (h:IsK ds kvs):Is (.dct ds) (.ref a)
 | exn {a C:Addr} {c:Str} {dx:Option Addr} {fs:List (Str×Int)} (e:F a=some (.ext (exO a C dx))) (hc:nsIn K mainGlobals c=some (some (.ref C))) (hk:ExcK K C)
   (hf:(dx=none/\fs=[])∨∃d,dx=some d/\F d=some (.xd (fs.map fun p=>(p.1,V.int p.2)))):Is (.exn c fs) (.ref a)
inductive IsL:List D->List V->Prop
 | nil:IsL [] []
 | cons {d:D} {v:V} {ds:List D} {vs:List V} (h:Is d v) (t:IsL ds vs):IsL (d::ds) (v::vs)
inductive IsK:List (Key×D)->List (Key×V)->Prop
 | nil:IsK [] []
 | cons {k:Key} {d:D} {v:V} {ds:List (Key×D)} {vs:List (Key×V)} (h:Is d v) (t:IsK ds vs):IsK ((k,d)::ds) ((k,v)::vs)
end
end
section
variable{K:Fg9}{F F':Hp}
mutual
theorem Is.mono(g:Same F F'):∀{d:D} {v:V},Is K F d v->Is K F' d v
 | _,_,.non=>.non
 | _,_,.bl b=>.bl b
 | _,_,.int i=>.int i
 | _,_,.str x=>.str x
 | _,_,.tup e h=>.tup (g _ _ e) (IsL.mono g h)
 | _,_,.lst e h=>.lst (g _ _ e) (IsL.mono g h)
 | _,_,.kst e h=>.kst (L2.Same.seq g e) (IsL.mono g h)
 | _,_,.dct e h=>.dct (g _ _ e) (IsK.mono g h)
 | _,_,.exn e hc hk hf=>.exn (g _ _ e) hc hk (hf.imp id fun⟨d,h1,h2⟩=>⟨d,h1,g _ _ h2⟩)
theorem IsL.mono(g:Same F F'):∀{ds:List D} {vs:List V},IsL K F ds vs->IsL K F' ds vs
 | _,_,.nil=>.nil
 | _,_,.cons h t=>.cons (Is.mono g h) (IsL.mono g t)
theorem IsK.mono(g:Same F F'):∀{ds:List (Key×D)} {vs:List (Key×V)},IsK K F ds vs->IsK K F' ds vs
 | _,_,.nil=>.nil
 | _,_,.cons h t=>.cons (Is.mono g h) (IsK.mono g t)
end
theorem IsL.length:∀{ds:List D} {vs:List V},IsL K F ds vs->ds.length=vs.length
 | _,_,.nil=>rfl
 | _,_,.cons _ t=>by simp[IsL.length t]
theorem IsL.append:∀{ds es:List D} {vs ws:List V},IsL K F ds vs->IsL K F es ws->IsL K F (ds++es) (vs++ws)
 | _,_,_,_,.nil,h=>h
 | _,_,_,_,.cons h t,k=>.cons h (IsL.append t k)
theorem IsL.take:∀{ds:List D} {vs:List V} (n:Nat),IsL K F ds vs->IsL K F (ds.take n) (vs.take n)
 | _,_,0,_=>by simpa using IsL.nil
 | _,_,_+1,.nil=>.nil
 | _,_,n+1,.cons h t=>.cons h (IsL.take n t)
theorem IsL.drop:∀{ds:List D} {vs:List V} (n:Nat),IsL K F ds vs->IsL K F (ds.drop n) (vs.drop n)
 | _,_,0,h=>h
 | _,_,_+1,.nil=>.nil
 | _,_,n+1,.cons _ t=>IsL.drop n t
theorem IsL.get:∀{ds:List D} {vs:List V} {i:Nat} {d:D},IsL K F ds vs->ds[i]? = some d->∃v,vs[i]? = some v/\Is K F d v
 | _,_,_,_,.nil,e=>by simp at e
 | _,_,0,_,.cons h _,e=>by simp at e;subst e;exact⟨_,rfl,h⟩
 | _,_,i+1,v,.cons _ t,e=>by
  obtain⟨d,h1,h2⟩:=IsL.get (i:=i) (d:=v) t (by simpa using e)
  exact⟨d,by simpa using h1,h2⟩
theorem IsL.set{d:D}{v:V}(h:Is K F d v):∀{ds:List D} {vs:List V} (i:Nat),IsL K F ds vs->IsL K F (ds.set i d) (vs.set i v)
 | _,_,_,.nil=>.nil
 | _,_,0,.cons _ t=>.cons h t
 | _,_,i+1,.cons q t=>.cons q (IsL.set h i t)
theorem IsL.rep{ds:List D}{vs:List V}(h:IsL K F ds vs):∀k:Nat,IsL K F (List.replicate k ds).flatten (List.replicate k vs).flatten
 | 0=>by simpa using IsL.nil
 | k+1=>by
  rw[List.replicate_succ,List.replicate_succ,List.flatten_cons,List.flatten_cons];exact h.append (IsL.rep h k)
theorem IsL.bl_inv:∀{ns:List Bool} {vs:List V},IsL K F (ns.map D.bl) vs->vs=ns.map V.bl
 | [],_,.nil=>rfl
 | n::r,_,.cons (.bl _) t=>by rw[List.map_cons,IsL.bl_inv t]
theorem ac2:∀ns:List Int,IsL K F (ns.map D.int) (ns.map V.int)
 | []=>.nil
 | n::r=>.cons (.int n) (ac2 r)
end
inductive Sl where
 | emp | val (d:D) | own (t:Option Nat) (l:List D) | box (c:Str) (fs:List (Str×(Nat ⊕ D)))
abbrev Ro:=List Sl
def Owns(ρ:Ro)(σ:L2.St)(i:Nat)(a:Addr):Prop:=(∃t l,ρ[i]? = some (.own t l))/\σ[i]? = some (some (.ref a))
def Own(ρ:Ro)(σ:L2.St)(a:Addr):Prop:=∃i,Owns ρ σ i a
def SlOk(K:Fg9)(tg:Nat->Addr)(F H:Hp):Sl->Option V->Prop
 | .emp,_=>True
 | .val d,o=>∃v,o=some v/\Is K F d v
 | .own t l,o=>∃a vs,o=some (.ref a)/\F a=none/\H a=some (.lst vs)/\IsL K F l vs/\∀k,t=some k->tg k=a
 | .box c fs,o=>∃a C dx fvs,o=some (.ref a)/\F a=none/\H a=some (.ins C dx fvs)/\nsIn K mainGlobals c=some (some (.ref C))/\(∀f,fs.lookup f=none->fvs.lookup f=none)/\(∀f k,fs.lookup f=some (.inl k)->fvs.lookup f=some (.ref (tg k)))/\∀f d,fs.lookup f=some (.inr d)->∃v,fvs.lookup f=some v/\Is K F d v
structure Good (K:Fg9) (tg:Nat->Addr) (F H:Hp) (ρ:Ro) (σ:L2.St):Prop where
 sub:Same F H
 len:ρ.length=σ.length
 sl:∀(i:Nat) (s:Sl) (o:Option V),ρ[i]? = some s->σ[i]? = some o->SlOk K tg F H s o
 inj:∀(i j:Nat) (a:Addr),Owns ρ σ i a->Owns ρ σ j a->i=j
structure Ext (O O':Addr->Prop) (F H F' H':Hp):Prop where
 sub:Same F F'
 new:∀a o,F' a=some o->F a=some o∨H a=none∨O a
 keep:∀a o,H a=some o->¬O a->H' a=some o
 own:∀a,O' a->O a∨H a=none
 there:∀a,H' a=none->H a=none
theorem Ext.refl(O:Addr->Prop)(F H:Hp):Ext O O F H F H:=⟨fun _ _ e=>e,fun _ _ e=>.inl e,fun _ _ e _=>e,fun _ h=>.inl h,fun _ h=>h⟩
theorem Ext.trans{O O1 O2:Addr->Prop}{F H F1 H1 F2 H2:Hp}(a:Ext O O1 F H F1 H1)(b:Ext O1 O2 F1 H1 F2 H2):Ext O O2 F H F2 H2 where
 sub:=a.sub.trans b.sub
 new:=fun c o e=>by
  rcases b.new c o e with q | q | q
  ·exact a.new c o q
  ·exact .inr (.inl (a.there c q))
  ·rcases a.own c q with z | z
   ·exact .inr (.inr z)
   ·exact .inr (.inl z)
 keep:=fun c o e n=>b.keep c o (a.keep c o e n) fun z=>by
  rcases a.own c z with q | q
  ·exact n q
  ·rw[e] at q;cases q
 own:=fun c z=>by
  rcases b.own c z with q | q
  ·exact a.own c q
  ·exact .inr (a.there c q)
 there:=fun c z=>a.there c (b.there c z)
section
variable{K:Fg9}{tg:Nat->Addr}{F H F' H':Hp}{ρ ρ':Ro}{σ:L2.St}
theorem Good.ownAt(G:Good K tg F H ρ σ){a:Addr}(h:Own ρ σ a):F a=none/\∃vs,H a=some (.lst vs):=by
 obtain⟨i,⟨t,l,e⟩,q⟩:=h;obtain⟨b,vs,e1,f,e2,_⟩:=G.sl i _ _ e q;cases e1;exact⟨f,vs,e2⟩
theorem Good.grow(G:Good K tg F H ρ σ)(s:Same F F')(s':Same F' H')(k:∀a,Own ρ σ a->F' a=none/\H' a=H a)(kb:∀a C dx fvs,F a=none->H a=some (.ins C dx fvs)->F' a=none/\H' a=H a):Good K tg F' H' ρ σ where
 sub:=s'
 len:=G.len
 inj:=G.inj
 sl:=fun i sl o e q=>by
  have z:=G.sl i sl o e q;cases sl with
  | emp=>trivial
  | val d =>
   obtain⟨v,e1,h⟩:=z;exact⟨v,e1,h.mono s⟩
  | box c fs =>
   obtain⟨a,C,dx,fvs,e1,e2,e3,e4,e7,e5,e6⟩:=z;obtain⟨f1,f2⟩:=kb a C dx fvs e2 e3;exact⟨a,C,dx,fvs,e1,f1,f2.trans e3,e4,e7,e5,fun f d h=>(e6 f d h).imp fun v h=>⟨h.1,h.2.mono s⟩⟩
  | own t l =>
   obtain⟨a,vs,e1,f,e2,h,ht⟩:=z;have w:=k a ⟨i,⟨t,l,e⟩,by rw[q,e1]⟩
   exact⟨a,vs,e1,w.1,by rw[w.2];exact e2,h.mono s,ht⟩
theorem Same.put{p:Addr}(s:Same F H)(h:H p=none)(o:HO):Same (upd F p o) (upd H p o):=fun b u e=>by
 by_cases hb:b=p
 ·subst hb;rw[cj] at e ⊢
  exact e
 ·rw[bj hb] at e ⊢
  exact s b u e
theorem Good.freeF(G:Good K tg F H ρ σ){p:Addr}(h:H p=none):F p=none:=by
 cases e:F p with
 | none=>rfl
 | some o=>rw[G.sub p o e] at h;cases h
theorem Good.own_ne(G:Good K tg F H ρ σ){p a:Addr}(h:H p=none)(w:Own ρ σ a):a≠p:=by
 obtain⟨_,vs,e⟩:=G.ownAt w;exact dq e h
theorem Good.new(G:Good K tg F H ρ σ){p:Addr}(h:H p=none)(o:HO):Good K tg (upd F p o) (upd H p o) ρ σ :=
 G.grow (Same.new (G.freeF h) o) (Same.put G.sub h o) (fun a w=>by
  rw[bj (G.own_ne h w),bj (G.own_ne h w)];exact⟨(G.ownAt w).1,rfl⟩) fun a C dx fvs h1 h2=>by
  rw[bj (dq h2 h),bj (dq h2 h)];exact⟨h1,rfl⟩
theorem Good.newX(G:Good K tg F H ρ σ){p:Addr}(h:H p=none)(o:HO):Ext (Own ρ σ) (Own ρ σ) F H (upd F p o) (upd H p o) where
 sub:=Same.new (G.freeF h) o
 new:=fun a u e=>by
  by_cases ha:a=p
  ·subst ha;exact .inr (.inl h)
  ·rw[bj ha] at e;exact .inl e
 keep:=fun a u e _=>by rw[bj (dq e h)];exact e
 own:=fun a w=>.inl w
 there:=fun a e=>by
  by_cases ha:a=p
  ·subst ha;exact h
  ·rw[bj ha] at e;exact e
theorem Good.fresh(G:Good K tg F H ρ σ){p:Addr}(h:H p=none)(o:HO):Good K tg F (upd H p o) ρ σ :=
 G.grow (Same.refl F) (fun b u e=>by rw[bj (dq (G.sub b u e) h)];exact G.sub b u e) (fun a w=>by
  rw[bj (G.own_ne h w)];exact⟨(G.ownAt w).1,rfl⟩) fun a C dx fvs h1 h2=>⟨h1,bj (dq h2 h)⟩
theorem Good.freshX(G:Good K tg F H ρ σ){p:Addr}(h:H p=none)(o:HO):Ext (Own ρ σ) (Own ρ σ) F H F (upd H p o) where
 sub:=Same.refl F
 new:=fun a u e=>.inl e
 keep:=fun a u e _=>by rw[bj (dq e h)];exact e
 own:=fun a w=>.inl w
 there:=fun a e=>by
  by_cases ha:a=p
  ·subst ha;exact h
  ·rw[bj ha] at e;exact e
theorem Good.freeze(G:Good K tg F H ρ σ){p:Addr}{o:HO}(h:H p=some o)(n:¬Own ρ σ p)(hf:F p=none)(hi:∀C dx fs,o≠.ins C dx fs:=by intro _ _ _ z;cases z):Good K tg (upd F p o) H ρ σ :=
 G.grow (Same.new hf o) (fun b u e=>by
  by_cases hb:b=p
  ·subst hb;rw[cj] at e;cases e;exact h
  ·rw[bj hb] at e;exact G.sub b u e) (fun a w=>by
  have:a≠p:=fun z=>n (z▸w)
  rw[bj this];exact⟨(G.ownAt w).1,rfl⟩) fun a C dx fvs h1 h2=>by
  have:a≠p:=fun z=>by
   subst z;rw[h] at h2;exact hi _ _ _ (Option.some.inj h2)
  rw[bj this];exact⟨h1,rfl⟩
end
end Dn
namespace Dn
open L2 Mn
structure Exn where
 cls:Str
 fs:List (Str×Int)
inductive Out (α:Type) where
 | ok (a:α) | exc (x:Exn)
abbrev M(α:Type):=Ro->Option (Out α×Ro)
noncomputable def M.bind{α β:Type}(m:M α)(k:α->M β):M β:=fun ρ=>match m ρ with
 | some (.ok a,ρ1)=>k a ρ1
 | some (.exc x,ρ1)=>some (.exc x,ρ1)
 | none=>none
noncomputable def ret{α:Type}(a:α):M α:=fun ρ=>some (.ok a,ρ)
noncomputable def lift{α:Type}(o:Option α):M α:=fun ρ=>match o with
 | some a=>some (.ok a,ρ)
 | none=>none
section
variable{α β:Type}
theorem au{m:M α}{k:α->M β}{ρ ρ2:Ro}{b:β}(h:m.bind k ρ=some (.ok b,ρ2)):∃a ρ1,m ρ=some (.ok a,ρ1)/\k a ρ1=some (.ok b,ρ2):=by
 unfold M.bind at h;split at h
 ·exact⟨_,_,by assumption,h⟩
 ·cases h
 ·cases h
theorem dg{o:Option α}{ρ ρ2:Ro}{b:α}(h:lift o ρ=some (.ok b,ρ2)):o=some b/\ρ2=ρ:=by
 unfold lift at h;split at h
 ·cases h;exact⟨rfl,rfl⟩
 ·cases h
theorem jc{a b:α}{ρ ρ2:Ro}(h:ret a ρ=some (.ok b,ρ2)):a=b/\ρ2=ρ:=by
 unfold ret at h;cases h;exact⟨rfl,rfl⟩
@[simp] theorem aqs(a:α)(k:α->M β):(ret a).bind k=k a:=rfl
@[simp] theorem apt(a:α):lift (some a)=ret a:=rfl
end
inductive Rv where
 | v (d:D) | fr (l:List D)
 | tf (d:D) (l:List D)
abbrev Rel(α:Type):=α->V->(H:Hp)->(O:Addr->Prop)->(F' H':Hp)->(O':Addr->Prop)->Prop
def relD(K:Fg9):Rel D:=fun d v _ _ F' _ _=>Is K F' d v
def Bor(K:Fg9)(F H:Hp)(d:D)(v:V):Prop:=Is K F d v∨∃a vs l,d=.lst l/\v=.ref a/\H a=some (.lst vs)/\IsL K F l vs
def relB(K:Fg9):Rel D:=fun d v _ _ F' H' _=>Bor K F' H' d v
def relR(K:Fg9):Rel Rv:=fun r v H O F' H' O'=>match r with
 | .v d=>Is K F' d v
 | .fr l=>∃a vs,v=.ref a/\(H a=none∨O a)/\F' a=none/\H' a=some (.lst vs)/\IsL K F' l vs/\¬O' a
 | .tf d l=>∃t u a vs,v=.ref t/\F' t=some (.tup [u,.ref a])/\Is K F' d u/\(H a=none∨O a)/\F' a=none/\H' a=some (.lst vs)/\IsL K F' l vs/\¬O' a
def T{α:Type}(K:Fg9)(rel:Rel α)(m:M α):TE:=fun σ H Q=>∃tg F ρ a ρ',Good K tg F H ρ σ/\m ρ=some (.ok a,ρ') /\
 ∀v H' F',Good K tg F' H' ρ' σ->Ext (Own ρ σ) (Own ρ' σ) F H F' H'->rel a v H (Own ρ σ) F' H' (Own ρ' σ)->Q v H'
structure EV (K:Fg9) (X:Cx) (e:Expr) (m:M D):Prop where
 go:X.K=K->PE X e (T K (relD K) m)
instance {K:Fg9} {X:Cx} {e:Expr} {m:M D}:CoeFun (EV K X e m) fun _=>X.K=K->PE X e (T K (relD K) m):=⟨EV.go⟩
structure EB (K:Fg9) (X:Cx) (e:Expr) (m:M D):Prop where
 go:X.K=K->PE X e (T K (relB K) m)
instance {K:Fg9} {X:Cx} {e:Expr} {m:M D}:CoeFun (EB K X e m) fun _=>X.K=K->PE X e (T K (relB K) m):=⟨EB.go⟩
structure ER (K:Fg9) (X:Cx) (e:Expr) (m:M Rv):Prop where
 go:X.K=K->PE X e (T K (relR K) m)
instance {K:Fg9} {X:Cx} {e:Expr} {m:M Rv}:CoeFun (ER K X e m) fun _=>X.K=K->PE X e (T K (relR K) m):=⟨ER.go⟩
theorem PE.imp{X:Cx}{e:Expr}{t t':TE}(h:PE X e t)(w:∀σ H Q,t' σ H Q->t σ H Q):PE X e t':=fun zv s σ H Q I q=>h zv s σ H Q I (w σ H Q q)
section
variable{K:Fg9}{X:Cx}{e a b:Expr}{pos:Pos}
theorem EV.toB{m:M D}(h:EV K X e m):EB K X e m:=EB.mk fun hk=>PE.imp (h hk) fun σ H Q ⟨tg,F,ρ,d,ρ',G,em,q⟩=>⟨tg,F,ρ,d,ρ',G,em,fun v H' F' G' x r=>q v H' F' G' x (.inl r)⟩
def M.v(m:M D):M Rv:=m.bind fun d=>ret (.v d)
theorem EV.toR{m:M D}(h:EV K X e m):ER K X e m.v:=ER.mk fun hk=>PE.imp (h hk) fun σ H Q z9=>by
 obtain⟨tg,F,ρ,r,ρ',G,em,q⟩:=z9;obtain⟨d,ρ1,e1,e2⟩:=au em;obtain⟨rfl,rfl⟩:=jc e2;exact⟨tg,F,ρ,d,_,G,e1,fun v H' F' G' x r=>q v H' F' G' x r⟩
def Rv.d:Rv->D
 | .v d=>d
 | .fr l=>.lst l
 | .tf d l=>.tup [d,.lst l]
def M.d(m:M Rv):M D:=m.bind fun r=>ret r.d
theorem frz{tg:Nat->Addr}{O:Addr->Prop}{F H F' H':Hp}{ρ':Ro}{σ':L2.St}{r:Rv}{v:V}(G:Good K tg F' H' ρ' σ')(x:Ext O (Own ρ' σ') F H F' H')(h:relR K r v H O F' H' (Own ρ' σ')) :
  ∃F2,Good K tg F2 H' ρ' σ'/\Ext O (Own ρ' σ') F H F2 H'/\Is K F2 r.d v:=by
 cases r with
 | v d=>exact⟨F',G,x,h⟩
 | fr l =>
  obtain⟨a,vs,rfl,ha,hf,hh,hl,hn⟩:=h;refine⟨upd F' a (.lst vs),G.freeze hh hn hf,⟨x.sub.trans (Same.new hf _),fun b o e =>?_,x.keep,x.own,x.there⟩,.lst cj (hl.mono (Same.new hf _))⟩
  by_cases hb:b=a
  ·subst hb;exact .inr ha
  ·rw[bj hb] at e;exact x.new b o e
 | tf d l =>
  obtain⟨t,u,a,vs,rfl,ht,hd,ha,hf,hh,hl,hn⟩:=h;have hta:t≠a:=fun z=>by rw[z,hf] at ht;cases ht
  refine⟨upd F' a (.lst vs),G.freeze hh hn hf,⟨x.sub.trans (Same.new hf _),fun b o e =>?_,x.keep,x.own,x.there⟩,.tup (by rw[bj hta];exact ht) (.cons (hd.mono (Same.new hf _)) (.cons (.lst cj (hl.mono (Same.new hf _))) .nil))⟩
  by_cases hb:b=a
  ·subst hb;exact .inr ha
  ·rw[bj hb] at e;exact x.new b o e
theorem ER.toD{m:M Rv}(h:ER K X e m):EV K X e m.d:=EV.mk fun hk=>PE.imp (h hk) fun σ H Q z9=>by
 obtain⟨tg,F,ρ,d,ρ',G,em,q⟩:=z9;obtain⟨r,ρ1,e1,e2⟩:=au em;obtain⟨rfl,rfl⟩:=jc e2;refine⟨tg,F,ρ,r,_,G,e1,fun v H' F' G' x w =>?_⟩
 obtain⟨F2,G2,x2,i2⟩:=frz G' x w;exact q v H' F2 G2 x2 i2
noncomputable def dh(i:Nat):M D:=fun ρ=>match ρ[i]? with
 | some (.val d)=>some (.ok d,ρ)
 | some (.own _ l)=>some (.ok (.lst l),ρ)
 | _=>none
theorem Good.at{tg:Nat->Addr}{F H:Hp}{ρ:Ro}{σ:L2.St}(G:Good K tg F H ρ σ){i:Nat}{s:Sl}(e:ρ[i]? = some s):∃o,σ[i]? = some o/\SlOk K tg F H s o:=by
 have hi:i < σ.length:=by rw[<-G.len];exact(List.getElem?_eq_some_iff.mp e).1
 exact⟨σ[i],List.getElem?_eq_getElem hi,G.sl i s _ e (List.getElem?_eq_getElem hi)⟩
theorem jx{tg:Nat->Addr}{F H:Hp}{ρ ρ':Ro}{σ:L2.St}(G:Good K tg F H ρ σ){i:Nat}{d:D}(em:dh i ρ=some (.ok d,ρ')):ρ'=ρ/\∃v,σ[i]? = some (some v)/\Bor K F H d v:=by
 unfold dh at em;split at em
 ·rename_i d' e';cases em;obtain⟨o,ho,v,rfl,hv⟩:=G.at e';exact⟨rfl,v,ho,.inl hv⟩
 ·rename_i t l e';cases em;obtain⟨o,ho,a,vs,rfl,hf,hh,hl,_⟩:=G.at e';exact⟨rfl,_,ho,.inr ⟨a,vs,l,rfl,rfl,hh,hl⟩⟩
 ·cases em
theorem b7{i:Nat}(h:PE X e (tVar i)):EB K X e (dh i):=EB.mk fun _=>PE.imp h fun σ H Q z9=>by
 obtain⟨tg,F,ρ,d,ρ',G,em,q⟩:=z9;obtain⟨rfl,v,ho,hv⟩:=jx G em;exact⟨v,ho,q v H F G (Ext.refl _ _ _) hv⟩
def ajy(i:Nat):M Rv:=fun ρ=>match ρ[i]? with
 | some (.val d)=>some (.ok (.v d),ρ)
 | some (.own none l)=>some (.ok (.fr l),ρ.set i .emp)
 | _=>none
theorem Good.drop{tg:Nat->Addr}{F H:Hp}{ρ:Ro}{σ:L2.St}(G:Good K tg F H ρ σ)(i:Nat):Good K tg F H (ρ.set i .emp) σ:=by
 have sub:∀j t l,(List.set ρ i Sl.emp)[j]? = some (Sl.own t l)->(ρ:List Sl)[j]? = some (Sl.own t l):=fun j t l e=>by
  rw[List.getElem?_set] at e;split at e
  ·split at e <;> cases e
  ·exact e
 refine⟨G.sub,by rw[List.length_set];exact G.len,fun j s o e q =>?_,fun j k a ⟨⟨t,l,e⟩,q⟩ ⟨⟨t',l',e'⟩,q'⟩=>G.inj j k a ⟨⟨t,l,sub _ _ _ e⟩,q⟩ ⟨⟨t',l',sub _ _ _ e'⟩,q'⟩⟩
 rw[List.getElem?_set] at e;split at e
 ·split at e
  ·cases e;trivial
  ·cases e
 ·exact G.sl j s o e q
theorem aan{ρ:Ro}{σ:L2.St}{i:Nat}{a:Addr}(h:Own (ρ.set i .emp) σ a):Own ρ σ a/\∀t l,ρ[i]? = some (.own t l)->∀(inj:∀i j a,Owns ρ σ i a->Owns ρ σ j a->i=j),¬Owns ρ σ i a:=by
 obtain⟨j,⟨t,l,e⟩,q⟩:=h;rw[List.getElem?_set] at e;split at e
 ·split at e <;> cases e
 ·rename_i hne;have w:Owns ρ σ j a:=⟨⟨t,l,e⟩,q⟩;exact⟨⟨j,w⟩,fun t' l' _ inj z=>hne (inj _ _ _ z w)⟩
theorem anf{i:Nat}(h:PE X e (tVar i)):ER K X e (ajy i):=ER.mk fun _=>PE.imp h fun σ H Q z9=>by
 obtain⟨tg,F,ρ,d,ρ',G,em,q⟩:=z9;unfold ajy at em;split at em
 ·rename_i d' e';cases em;obtain⟨o,ho,v,rfl,hv⟩:=G.at e';exact⟨v,ho,q v H F G (Ext.refl _ _ _) hv⟩
 ·rename_i l e';cases em;obtain⟨o,ho,a,vs,rfl,hf,hh,hl,_⟩:=G.at e';have w:Owns ρ σ i a:=⟨⟨_,_,e'⟩,ho⟩;refine⟨_,ho,q _ H F (G.drop i) ⟨Same.refl _,fun _ _ e=>.inl e,fun _ _ e _=>e,fun b z=>.inl (aan z).1,fun _ z=>z⟩ ⟨a,vs,rfl,.inr ⟨i,w⟩,hf,hh,hl,fun z=>(aan z).2 _ _ e' G.inj w⟩⟩
 ·cases em
noncomputable def mVar(i:Nat):M D:=fun ρ=>match ρ[i]? with
 | some (.val d)=>some (.ok d,ρ)
 | some (.own none l)=>some (.ok (.lst l),ρ.set i (.val (.lst l)))
 | _=>none
theorem ajm{ρ:Ro}{σ:L2.St}{i:Nat}{d:D}{a:Addr}(h:Own (ρ.set i (.val d)) σ a):Own (ρ.set i .emp) σ a:=by
 obtain⟨j,⟨t,l,e⟩,q⟩:=h;refine⟨j,⟨t,l,?_⟩,q⟩;rw[List.getElem?_set] at e ⊢
 split at e
 ·split at e <;> cases e
 ·rename_i hne;rw[if_neg hne];exact e
theorem Good.setv{tg:Nat->Addr}{F H:Hp}{ρ:Ro}{σ:L2.St}{i:Nat}{d:D}{v:V}(G:Good K tg F H (ρ.set i .emp) σ)(e:σ[i]? = some (some v))(h:Is K F d v):Good K tg F H (ρ.set i (.val d)) σ:=by
 have sub:∀j t l,(List.set ρ i (Sl.val d))[j]? = some (Sl.own t l)->(List.set ρ i Sl.emp)[j]? = some (Sl.own t l):=fun j t l z=>by
  rw[List.getElem?_set] at z ⊢
  split at z
  ·split at z <;> cases z
  ·rename_i hne;rw[if_neg hne];exact z
 refine⟨G.sub,by have:=G.len;rw[List.length_set] at this ⊢;exact this,fun j s o z q =>?_,fun j k a ⟨⟨t,l,z⟩,q⟩ ⟨⟨t',l',z'⟩,q'⟩=>G.inj j k a ⟨⟨t,l,sub _ _ _ z⟩,q⟩ ⟨⟨t',l',sub _ _ _ z'⟩,q'⟩⟩
 by_cases hij:i=j
 ·subst hij;rw[List.getElem?_set,if_pos rfl] at z;split at z
  ·cases z;rw[e] at q;cases q;exact⟨v,rfl,h⟩
  ·cases z
 ·refine G.sl j s o ?_ q;rw[List.getElem?_set,if_neg hij] at z ⊢
  exact z
theorem bh{i:Nat}(h:PE X e (tVar i)):EV K X e (mVar i):=EV.mk fun _=>PE.imp h fun σ H Q z9=>by
 obtain⟨tg,F,ρ,d,ρ',G,em,q⟩:=z9;unfold mVar at em;split at em
 ·rename_i d' e';cases em;obtain⟨o,ho,v,rfl,hv⟩:=G.at e';exact⟨v,ho,q v H F G (Ext.refl _ _ _) hv⟩
 ·rename_i l e';cases em;obtain⟨o,ho,a,vs,rfl,hf,hh,hl,_⟩:=G.at e';have w:Owns ρ σ i a:=⟨⟨_,_,e'⟩,ho⟩;have nown:¬Own (ρ.set i .emp) σ a:=fun z=>(aan z).2 _ _ e' G.inj w
  have G2:=(G.drop i).freeze hh nown hf;have i2:Is K (upd F a (.lst vs)) (.lst l) (.ref a):=.lst cj (hl.mono (Same.new hf _));refine⟨_,ho,q _ H _ (G2.setv ho i2) ⟨Same.new hf _,fun b o z =>?_,fun _ _ z _=>z,fun b z=>.inl (aan (ajm z)).1,fun _ z=>z⟩ i2⟩
  by_cases hb:b=a
  ·subst hb;exact .inr (.inr ⟨i,w⟩)
  ·rw[bj hb] at z;exact .inl z
 ·cases em
theorem ev_c{d:D}{v:V}(h:PE X e (tC v))(hi:∀F,Is K F d v):EV K X e (ret d):=EV.mk fun _=>PE.imp h fun σ H Q z9=>by
 obtain⟨tg,F,ρ,d',ρ',G,em,q⟩:=z9;obtain⟨rfl,rfl⟩:=jc em;exact q v H F G (Ext.refl _ _ _) (hi F)
theorem bc{i:Int}{j:Nat}:EV K X (.Constant (.int i) j pos) (ret (.int i)):=ev_c aoz fun _=>.int i
theorem ac6{i:Bool}{j:Nat}:EV K X (.Constant (.bool i) j pos) (ret (.bl i)):=ev_c asi fun _=>.bl i
theorem ala{j:Nat}:EV K X (.Constant .none j pos) (ret .non):=ev_c aow fun _=>.non
theorem az{i:Str}{j:Nat}:EV K X (.Constant (.str i) j pos) (ret (.str i)):=ev_c aos fun _=>.str i
def T2(K:Fg9)(m:M (D×D))(σ:L2.St)(H:Hp)(R:V->V->Hp->Prop):Prop:=∃tg F ρ p ρ',Good K tg F H ρ σ/\m ρ=some (.ok p,ρ') /\
 ∀x y H' F',Good K tg F' H' ρ' σ->Ext (Own ρ σ) (Own ρ' σ) F H F' H'->Bor K F' H' p.1 x->Bor K F' H' p.2 y->R x y H'
structure E2 (K:Fg9) (X:Cx) (a b:Expr) (m:M (D×D)):Prop where
 go:X.K=K->∃ta tb,PE X a ta/\PE X b tb/\∀σ H R,T2 K m σ H R->ta σ H fun x H1=>tb σ H1 fun y H2=>R x y H2
instance {K:Fg9} {X:Cx} {a b:Expr} {m:M (D×D)}:CoeFun (E2 K X a b m) fun _=>X.K=K->∃ta tb,PE X a ta/\PE X b tb/\∀σ H R,T2 K m σ H R->ta σ H fun x H1=>tb σ H1 fun y H2=>R x y H2:=⟨E2.go⟩
def dj(m1 m2:M D):M (D×D):=m1.bind fun x=>m2.bind fun y=>ret (x,y)
def cu(i:Nat)(m2:M D):M (D×D):=(dh i).bind fun _=>m2.bind fun y=>(dh i).bind fun x=>ret (x,y)
theorem e2_v{m1 m2:M D}(ha:EV K X a m1)(hb:EB K X b m2):E2 K X a b (dj m1 m2):=E2.mk fun hk=>⟨_,_,ha hk,hb hk,fun σ H R z9=>by
 obtain⟨tg,F,ρ,p,ρ',G,em,q⟩:=z9;obtain⟨d1,ρ1,e1,em⟩:=au em;obtain⟨d2,ρ2,e2,em⟩:=au em;obtain⟨rfl,rfl⟩:=jc em;exact⟨tg,F,ρ,d1,ρ1,G,e1,fun x H1 F1 G1 x1 r1=>⟨tg,F1,ρ1,d2,_,G1,e2,fun y H2 F2 G2 x2 r2=>q x y H2 F2 G2 (x1.trans x2) (.inl (r1.mono x2.sub)) r2⟩⟩⟩
theorem e2_n{i:Nat}{m2:M D}(ha:PE X a (tVar i))(hb:EB K X b m2):E2 K X a b (cu i m2):=E2.mk fun hk=>⟨_,_,ha,hb hk,fun σ H R z9=>by
 obtain⟨tg,F,ρ,p,ρ',G,em,q⟩:=z9;obtain⟨d0,ρ0,e0,em⟩:=au em;obtain⟨d2,ρ2,e2,em⟩:=au em;obtain⟨d1,ρ1,e1,em⟩:=au em;obtain⟨rfl,rfl⟩:=jc em;obtain⟨rfl,v,hv,_⟩:=jx G e0;exact⟨v,hv,tg,F,ρ0,d2,ρ2,G,e2,fun y H2 F2 G2 x2 r2=>by
  obtain⟨rfl,v',hv',b'⟩:=jx G2 e1;rw[hv] at hv';cases hv';exact q v y H2 F2 G2 x2 b' r2⟩⟩
end
section
variable{K:Fg9}{X:Cx}{e a b c:Expr}{es:List Expr}{pos p:Pos}
section
variable{F H:Hp}{x:V}
theorem Bor.lst{l:List D}(g:Same F H)(h:Bor K F H (.lst l) x):∃a vs,x=.ref a/\H a=some (.lst vs)/\IsL K F l vs:=by
 rcases h with h | ⟨a,vs,l',e1,e2,e3,h⟩
 ·cases h with
  | lst e h=>exact⟨_,_,rfl,g _ _ e,h⟩
 ·cases e1;exact⟨a,vs,e2,e3,h⟩
theorem Bor.tup{l:List D}(h:Bor K F H (.tup l) x):∃a vs,x=.ref a/\F a=some (.tup vs)/\IsL K F l vs:=by
 rcases h with h | ⟨a,vs,l',e1,_⟩
 ·cases h with
  | tup e h=>exact⟨_,_,rfl,e,h⟩
 ·cases e1
theorem Bor.kst{l:List D}(h:Bor K F H (.kst l) x):∃a vs,x=.ref a/\SqL K F a vs/\IsL K F l vs:=by
 rcases h with h | ⟨a,vs,l',e1,_⟩
 ·cases h with
  | kst e h=>exact⟨_,_,rfl,e,h⟩
 ·cases e1
theorem Bor.int{i:Int}(h:Bor K F H (.int i) x):x=.int i:=by
 rcases h with h | ⟨a,vs,l',e1,_⟩
 ·cases h;rfl
 ·cases e1
theorem Bor.bl{i:Bool}(h:Bor K F H (.bl i) x):x=.bl i:=by
 rcases h with h | ⟨a,vs,l',e1,_⟩
 ·cases h;rfl
 ·cases e1
theorem Bor.str{i:Str}(h:Bor K F H (.str i) x):x=.str i:=by
 rcases h with h | ⟨a,vs,l',e1,_⟩
 ·cases h;rfl
 ·cases e1
theorem Bor.non(h:Bor K F H .non x):x=.non:=by
 rcases h with h | ⟨a,vs,l',e1,_⟩
 ·cases h;rfl
 ·cases e1
end
def Res(K:Fg9)(tg:Nat->Addr)(F H:Hp)(ρ:Ro)(σ:L2.St)(r:Rv)(Q:VK):Prop :=
 ∀v H' F',Good K tg F' H' ρ σ->Ext (Own ρ σ) (Own ρ σ) F H F' H'->relR K r v H (Own ρ σ) F' H' (Own ρ σ)->Q v H'
section
variable{tg:Nat->Addr}{F H:Hp}{ρ:Ro}{σ:L2.St}{Q:VK}
theorem Res.same{d:D}{v:V}(G:Good K tg F H ρ σ)(q:Res K tg F H ρ σ (.v d) Q)(h:Is K F d v):Q v H:=q v H F G (Ext.refl _ _ _) h
theorem Res.tup{l:List D}{vs:List V}(G:Good K tg F H ρ σ)(q:Res K tg F H ρ σ (.v (.tup l)) Q)(h:IsL K F l vs){p:Addr}(hp:H p=none):Q (.ref p) (upd H p (.tup vs)) :=
 q _ _ _ (G.new hp _) (G.newX hp _) (.tup cj (h.mono (Same.new (G.freeF hp) _)))
theorem Res.lst{l:List D}{vs:List V}(G:Good K tg F H ρ σ)(q:Res K tg F H ρ σ (.fr l) Q)(h:IsL K F l vs){p:Addr}(hp:H p=none):Q (.ref p) (upd H p (.lst vs)) :=
 q _ _ _ (G.fresh hp _) (G.freshX hp _) ⟨p,vs,rfl,.inl hp,G.freeF hp,cj,h,fun z=>G.own_ne hp z rfl⟩
end
def rOf(K:Fg9)(g:D->D->Option Rv):R2:=fun x y H Q=>∃tg F ρ σ d1 d2 r,Good K tg F H ρ σ/\Bor K F H d1 x/\Bor K F H d2 y/\g d1 d2=some r/\Res K tg F H ρ σ r Q
structure OpD (K:Fg9) (X:Cx) (f:Value->Value->Sem Value) (g:D->D->Option Rv):Prop where
 go:X.K=K->OpR X f (rOf K g)
instance {K:Fg9} {X:Cx} {f:Value->Value->Sem Value} {g:D->D->Option Rv}:CoeFun (OpD K X f g) fun _=>X.K=K->OpR X f (rOf K g):=⟨OpD.go⟩
def mOp(g:D->D->Option Rv)(m:M (D×D)):M Rv:=m.bind fun p=>lift (g p.1 p.2)
theorem afg{g:D->D->Option Rv}{m:M (D×D)}{ta tb:TE}(h:∀σ H R,T2 K m σ H R->ta σ H fun x H1=>tb σ H1 fun y H2=>R x y H2)(σ:L2.St)(H:Hp)(Q:VK)(t:T K (relR K) (mOp g m) σ H Q):tOp (rOf K g) ta tb σ H Q:=by
 obtain⟨tg,F,ρ,r,ρ',G,em,q⟩:=t;obtain⟨p,ρ1,e1,em⟩:=au em;obtain⟨e2,rfl⟩:=dg em;refine h σ H _ ⟨tg,F,ρ,p,_,G,e1,fun x y H' F' G' x' bx by'=>⟨tg,F',_,σ,p.1,p.2,r,G',bx,by',e2,fun v H2 F2 G2 x2 rr=>q v H2 F2 G2 (x'.trans x2) ?_⟩⟩
 cases r with
 | v d=>exact rr
 | fr l =>
  obtain⟨a,vs,ev,ha,w⟩:=rr;refine⟨a,vs,ev,?_,w⟩;rcases ha with ha | ha
  ·exact .inl (x'.there a ha)
  ·exact(x'.own a ha).symm
 | tf d l =>
  obtain⟨t,u,a,vs,ev,ht,hd,ha,w⟩:=rr;refine⟨t,u,a,vs,ev,ht,hd,?_,w⟩;rcases ha with ha | ha
  ·exact .inl (x'.there a ha)
  ·exact(x'.own a ha).symm
theorem bw{op:Operator}{g:D->D->Option Rv}{m:M (D×D)}(ho:OpD K X (binaryOp op) g)(h:E2 K X a b m):ER K X (.BinOp a op b pos) (mOp g m):=ER.mk fun hk=>by
 obtain⟨ta,tb,ha,hb,h⟩:=h hk;exact PE.imp (asf (ho hk) ha hb) (afg h)
theorem air{op:CmpOp}{g:D->D->Option Rv}{m:M (D×D)}(ho:OpD K X (compareOp op) g)(h:E2 K X a b m)(hm:behindInMarks op b=false):ER K X (.Compare a [op] [b] pos) (mOp g m):=ER.mk fun hk=>by
 obtain⟨ta,tb,ha,hb,h⟩:=h hk;exact PE.imp (ahu (ho hk) ha hb hm) (afg h)
def capS:Nat:=16777216
theorem vo{n:Nat}(h:n<=capS):n<=sizeLine:=by rw[sizeLine_eq];exact h
def gAdd:D->D->Option Rv
 | .int i,.int j=>some (.v (.int (i+j)))
 | .tup l,.tup k=>if l.length+k.length<=capS then some (.v (.tup (l++k))) else none
 | .lst l,.lst k=>if l.length+k.length<=capS then some (.fr (l++k)) else none
 | .str i,.str j=>if i.length+j.length<=capS then some (.v (.str (i++j))) else none
 | _,_=>none
theorem bz:OpD K X (binaryOp .Add) gAdd:=OpD.mk fun hk=>by
 intro zv s σ0 H x y v u Q I rx ry ⟨tg,F,ρ,σ,d1,d2,r,G,b1,b2,eg,q⟩;subst hk;unfold gAdd at eg;split at eg
 ·cases eg;obtain rfl:=b1.int;obtain rfl:=b2.int;exact apa zv s σ0 H _ _ v u Q I rx ry ⟨_,_,rfl,rfl,Res.same G q (.int _)⟩
 ·split at eg
  ·rename_i hz;cases eg;obtain⟨a1,vs1,rfl,s1,i1⟩:=b1.tup;obtain⟨a2,vs2,rfl,s2,i2⟩:=b2.tup;have l1:=i1.length;have l2:=i2.length
   by_cases hx:vs1=[]
   ·subst hx;cases i1;cases rx;cases ry;obtain⟨its,r1,p1,_⟩:=I.tuple (SqT.of (G.sub _ _ s1));obtain⟨its2,r2,p2,_⟩:=I.tuple (SqT.of (G.sub _ _ s2));exact akq p1 p2 (r1.nil_iff.mpr rfl) ⟨.ref a2,H,I,rfl,Res.same G q (.tup s2 i2)⟩
   ·refine amf zv s σ0 H _ _ v u Q I rx ry ⟨a1,a2,vs1,vs2,rfl,rfl,SqT.of (G.sub _ _ s1),SqT.of (G.sub _ _ s2),hx,by rw[<-l1,<-l2];exact vo hz,fun e =>?_,fun _ p hp=>Res.tup G q (i1.append i2) hp⟩
    subst e;cases i2;exact Res.same G q (.tup s1 (by simpa using i1))
  ·cases eg
 ·split at eg
  ·rename_i hz;cases eg;obtain⟨a1,vs1,rfl,s1,i1⟩:=b1.lst G.sub;obtain⟨a2,vs2,rfl,s2,i2⟩:=b2.lst G.sub;have l1:=i1.length;have l2:=i2.length;exact ao9 zv s σ0 H _ _ v u Q I rx ry ⟨a1,a2,vs1,vs2,rfl,rfl,s1,s2,by rw[<-l1,<-l2];exact vo hz,fun p hp=>Res.lst G q (i1.append i2) hp⟩
  ·cases eg
 ·split at eg
  ·rename_i hz;cases eg;obtain rfl:=b1.str;obtain rfl:=b2.str;exact ago zv s σ0 H _ _ v u Q I rx ry ⟨_,_,rfl,rfl,vo hz,Res.same G q (.str _)⟩
  ·cases eg
 ·cases eg
def gInt(f:Int->Int->Option Int):D->D->Option Rv
 | .int i,.int j=>(f i j).map fun k=>.v (.int k)
 | _,_=>none
theorem aen{op:Operator}{f:Int->Int->Option Int}{C:Int->Int->Prop}{g:Int->Int->Int}(h:OpR X (binaryOp op) (rI C fun i j=>.int (g i j)))(hf:∀i j k,f i j=some k->C i j/\k=g i j):OpD K X (binaryOp op) (gInt f):=OpD.mk fun hk=>by
 intro zv s σ0 H x y v u Q I rx ry ⟨tg,F,ρ,σ,d1,d2,r,G,b1,b2,eg,q⟩;unfold gInt at eg;split at eg
 ·rename_i i j;obtain rfl:=b1.int;obtain rfl:=b2.int;cases z:f i j with
  | none=>rw[z] at eg;cases eg
  | some k =>
   rw[z] at eg;cases eg;obtain⟨h1,rfl⟩:=hf i j k z;exact h zv s σ0 H _ _ v u Q I rx ry ⟨_,_,rfl,rfl,h1,Res.same G q (.int _)⟩
 ·cases eg
def fSub(i j:Int):Option Int:=some (i - j)
def fMul(i j:Int):Option Int:=if (-18446744073709551616 < i/\i < 18446744073709551616)∨(-18446744073709551616 < j/\j < 18446744073709551616) then some (i*j) else none
theorem ape{i j:Int}(h0:0 < j)(h:j < 1000000000000000000000000000000000000000000000000000000000000):Builtin.divisionGoesByPylong i j=false:=by
 have e2:(2:Nat) ^ 200=1606938044258990275541962092341162602522202993782792835301376:=by decide +kernel
 have hl:j.natAbs.log2 < 200:=(Nat.log2_lt (by omega)).2 (by rw[e2];omega)
 have hd:¬(j.natAbs.log2 / 30+1 > 300):=by omega
 have hj:(j==0)=false:=by
  rw[beq_eq_false_iff_ne];omega
 unfold Builtin.divisionGoesByPylong;simp only[hj,Bool.false_eq_true,if_false,hd,decide_false,Bool.false_and]
theorem ajq:OpR X (binaryOp .FloorDiv) (rI (fun _ j=>0 < j/\j < 1000000000000000000000000000000000000000000000000000000000000) fun i j=>.int (i / j)):=opI fun i j _ _ _ _ _ hc q=>by
 have h1:(0:Int) < j:=hc.1;exact floordiv_int (by omega) (by rw[Int.fdiv_eq_ediv_of_nonneg i (by omega)];exact q) (.inl (ape hc.1 hc.2))
def fDiv(i j:Int):Option Int:=if 0 < j/\j < 1000000000000000000000000000000000000000000000000000000000000 then some (i / j) else none
def fMod(i j:Int):Option Int:=if 0 < j then some (i % j) else none
def fPow(i j:Int):Option Int:=if 0<=j/\j<=1000000/\i.natAbs < 18446744073709551616 then some (i ^ j.toNat) else none
theorem acn:OpD K X (binaryOp .Sub) (gInt fSub):=OpD.mk fun hk=>by
 intro zv s σ0 H x y v u Q I rx ry ⟨tg,F,ρ,σ,d1,d2,r,G,b1,b2,eg,q⟩;unfold gInt at eg;split at eg
 ·obtain rfl:=b1.int;obtain rfl:=b2.int;cases eg;exact ao4 zv s σ0 H _ _ v u Q I rx ry ⟨_,_,rfl,rfl,Res.same G q (.int _)⟩
 ·cases eg
end
mutual
def toPy:D->PyData
 | .non=>.none
 | .bl b=>.bool b
 | .int i=>.int i
 | .str x=>.str x
 | .tup l=>.tuple (acf l)
 | .lst l=>.list (acf l)
 | .kst l=>.list (acf l)
 | .dct _=>.dict []
 | .exn _ _=>.dict []
def acf:List D->List PyData
 | []=>[]
 | d::r=>toPy d::acf r
end
def okD:Nat->D->Bool
 | _,.non=>true
 | _,.bl _=>true
 | _,.int _=>true
 | _,.str x=>PyData.strOk x
 | n+1,.tup l=>l.all (okD n)
 | n+1,.lst l=>l.all (okD n)
 | n+1,.kst l=>l.all (okD n)
 | _,_=>false
theorem acu{n:Nat}(ih:∀d,okD n d=true->(toPy d).canLay0=true/\(toPy d).depth<=n):∀l:List D,l.all (okD n)=true->PyData.canLayAll0 (acf l)=true/\PyData.depthAll (acf l)<=n
 | [],_=>⟨rfl,Nat.zero_le _⟩
 | d::r,h=>by
  rw[List.all_cons,Bool.and_eq_true] at h;obtain⟨h1,h2⟩:=ih d h.1;obtain⟨h3,h4⟩:=acu ih r h.2;refine⟨?_,?_⟩
  ·show(PyData.canLay0 (toPy d)&&PyData.canLayAll0 (acf r))=true;rw[h1,h3];rfl
  ·show max (PyData.depth (toPy d)) (PyData.depthAll (acf r))<=n;omega
theorem ue:∀(n:Nat) (d:D),okD n d=true->(toPy d).canLay0=true/\(toPy d).depth<=n
 | n,.non,_=>⟨rfl,Nat.zero_le _⟩
 | n,.bl _,_=>⟨rfl,Nat.zero_le _⟩
 | n,.int _,_=>⟨rfl,Nat.zero_le _⟩
 | n,.str x,h=>by
  refine⟨?_,Nat.zero_le _⟩;cases n <;> exact h
 | n+1,.tup l,h=>by
  obtain⟨h1,h2⟩:=acu (ue n) l h;exact⟨h1,Nat.succ_le_succ h2⟩
 | n+1,.lst l,h=>by
  obtain⟨h1,h2⟩:=acu (ue n) l h;exact⟨h1,Nat.succ_le_succ h2⟩
 | n+1,.kst l,h=>by
  obtain⟨h1,h2⟩:=acu (ue n) l h;exact⟨h1,Nat.succ_le_succ h2⟩
 | 0,.tup l,h=>by cases h
 | 0,.lst l,h=>by cases h
 | 0,.kst l,h=>by cases h
 | 0,.dct l,h=>by cases h
 | n+1,.dct l,h=>by cases h
 | 0,.exn _ _,h=>by cases h
 | n+1,.exn _ _,h=>by cases h
def eqD(a b:D):Bool:=PyData.eqv (toPy a) (toPy b)
section
variable{K:Fg9}{X:Cx}
section
variable{zv:List (Addr×Obj)}{σ:L2.St}{F H:Hp}{s:Shared}
mutual
theorem nu(I:Inv X zv σ H s)(g:Same F H):∀{n:Nat} {d:D} {v:V} {u:Value},Is X.K F d v->okD n d=true->RelV v u->∃as,Reads s.heap u (toPy d) as
 | _,_,_,_,.non,_,r=>by cases r;exact⟨_,.none⟩
 | _,_,_,_,.bl b,_,r=>by cases r;exact⟨_,.bool b⟩
 | _,_,_,_,.int i,_,r=>by obtain⟨t,rfl⟩:=r;exact⟨_,.int i t⟩
 | _,_,_,_,.str i,_,r=>by obtain⟨t,rfl⟩:=r;exact⟨_,.str i t⟩
 | 0,_,_,_,.tup e h,k,r=>by cases k
 | n+1,_,_,_,.tup e h,k,r=>by
  cases r;obtain⟨its,rv,p1,_⟩:=I.tuple (SqT.of (g _ _ e));obtain⟨o,ho,hc,m,hd⟩:=p1;obtain⟨as,ra⟩:=ut I g h k rv;exact⟨_,.tuple ho hc hd (by simpa using ra)⟩
 | 0,_,_,_,.lst e h,k,r=>by cases k
 | n+1,_,_,_,.lst e h,k,r=>by
  cases r;obtain⟨its,rv,p1,_⟩:=I.list (SqL.of (g _ _ e));obtain⟨o,ho,hc,m,hd⟩:=p1.isList;obtain⟨as,ra⟩:=ut I g h k rv;exact⟨_,.list ho hc hd (by simpa using ra)⟩
 | 0,_,_,_,.kst e h,k,r=>by cases k
 | n+1,_,_,_,.kst e h,k,r=>by
  cases r;obtain⟨its,rv,p1,_⟩:=I.list (L2.Same.seq g e);obtain⟨o,ho,hc,m,hd⟩:=p1.isList;obtain⟨as,ra⟩:=ut I g h k rv;exact⟨_,.list ho hc hd (by simpa using ra)⟩
 | 0,_,_,_,.dct e h,k,r=>by cases k
 | n+1,_,_,_,.dct e h,k,r=>by cases k
 | 0,_,_,_,.exn ..,k,r=>by cases k
 | n+1,_,_,_,.exn ..,k,r=>by cases k
theorem ut(I:Inv X zv σ H s)(g:Same F H):∀{n:Nat} {ds:List D} {vs:List V} {us:List Value},IsL X.K F ds vs->ds.all (okD n)=true->Vals vs us->∃as,ReadsAll s.heap us (acf ds) as
 | _,_,_,_,.nil,_,r=>by cases r;exact⟨_,.nil⟩
 | n,_,_,_,.cons h t,k,r=>by
  rw[List.all_cons,Bool.and_eq_true] at k;cases r with
  | cons r1 r2 =>
   obtain⟨as,ra⟩:=nu I g h k.1 r1;obtain⟨bs,rb⟩:=ut I g t k.2 r2;exact⟨_,.cons ra rb⟩
end
theorem ur(I:Inv X zv σ H s)(g:Same F H){n:Nat}{d:D}{v:V}{u:Value}(h:Bor X.K F H d v)(k:okD n d=true)(r:RelV v u):∃as,Reads s.heap u (toPy d) as:=by
 rcases h with h | ⟨a,vs,l,rfl,rfl,e,h⟩
 ·exact nu I g h k r
 ·cases r;cases n with
  | zero=>cases k
  | succ n =>
   obtain⟨its,rv,p1,_⟩:=I.list (SqL.of e);obtain⟨o,ho,hc,m,hd⟩:=p1.isList;obtain⟨as,ra⟩:=ut I g h k rv;exact⟨_,.list ho hc hd (by simpa using ra)⟩
end
def gEq(neg:Bool)(a b:D):Option Rv:=if okD 30 a&&okD 30 b then some (.v (.bl (if neg then !eqD a b else eqD a b))) else none
theorem ao3(hu:X.A.units+64 < cLine):OpD K X (compareOp .Eq) (gEq false):=OpD.mk fun hk=>by
 intro zv s σ0 H x y v u Q I rx ry ⟨tg,F,ρ,σ,d1,d2,r,G,b1,b2,eg,q⟩;subst hk;unfold gEq at eg;split at eg
 ·rename_i ho;rw[Bool.and_eq_true] at ho;cases eg;obtain⟨as,ra⟩:=ur I G.sub b1 ho.1 rx;obtain⟨bs,rb⟩:=ur I G.sub b2 ho.2 ry;obtain⟨c1,p1⟩:=ue _ _ ho.1;obtain⟨c2,p2⟩:=ue _ _ ho.2;exact PySem.SeqAt.compareEq_reads ra rb c1 c2 (by omega) ⟨.bl _,H,I,rfl,Res.same G q (.bl _)⟩
 ·cases eg
theorem ab0(hu:X.A.units+64 < cLine):OpD K X (compareOp .NotEq) (gEq true):=OpD.mk fun hk=>by
 intro zv s σ0 H x y v u Q I rx ry ⟨tg,F,ρ,σ,d1,d2,r,G,b1,b2,eg,q⟩;subst hk;unfold gEq at eg;split at eg
 ·rename_i ho;rw[Bool.and_eq_true] at ho;cases eg;obtain⟨as,ra⟩:=ur I G.sub b1 ho.1 rx;obtain⟨bs,rb⟩:=ur I G.sub b2 ho.2 ry;obtain⟨c1,p1⟩:=ue _ _ ho.1;obtain⟨c2,p2⟩:=ue _ _ ho.2;exact PySem.SeqAt.compareNe_reads ra rb c1 c2 (by omega) ⟨.bl _,H,I,rfl,Res.same G q (.bl _)⟩
 ·cases eg
def itemsD:D->Option (List D)
 | .tup l=>some l
 | .lst l=>some l
 | .kst l=>some l
 | _=>none
def gIn(neg:Bool)(a b:D):Option Rv:=match itemsD b with
 | some l=>if okD 30 a&&l.all (okD 30) then some (.v (.bl (if neg then !l.any (fun y=>eqD y a) else l.any (fun y=>eqD y a)))) else none
 | none=>none
open Classical in
noncomputable def yj(h:Heap)(dx:PyData)(u:Value):Bool:=decide (∃d as,Reads h u d as/\d.canLay0=true/\PyData.eqv d dx=true)
open Classical in
theorem aap{h:Heap}{dx d:PyData}{u:Value}{as:List Addr}(r:Reads h u d as)(c:d.canLay0=true):yj h dx u=PyData.eqv d dx:=by
 unfold yj;cases e:PyData.eqv d dx with
 | true=>exact decide_eq_true ⟨d,as,r,c,e⟩
 | false =>
  refine decide_eq_false ?_
  rintro⟨d',as',r',c',e'⟩
  rw[<-PySem.SeqAt.Reads.unique d d' u as as' c r r'] at e';rw[e] at e';cases e'
theorem qy{zv:List (Addr×Obj)}{σ:L2.St}{F H:Hp}{s:Shared}(I:Inv X zv σ H s)(g:Same F H){a:D}{n:Nat}:∀{ds:List D} {vs:List V} {us:List Value},IsL X.K F ds vs->ds.all (okD n)=true->Vals vs us ->
  us.any (yj s.heap (toPy a))=ds.any (fun y=>eqD y a)/\∀u∈us,∃d as,Reads s.heap u d as/\d.canLay0=true/\d.depth<=n
 | _,_,_,.nil,_,r=>by cases r;exact⟨rfl,fun u hu=>by cases hu⟩
 | _,_,_,.cons h t,k,r=>by
  rw[List.all_cons,Bool.and_eq_true] at k;cases r with
  | cons r1 r2 =>
   obtain⟨as,ra⟩:=nu I g h k.1 r1;obtain⟨c,p⟩:=ue _ _ k.1;obtain⟨e,z⟩:=qy I g (a:=a) t k.2 r2;refine⟨?_,fun u hu =>?_⟩
   ·rw[List.any_cons,List.any_cons,e,aap ra c];rfl
   ·rcases List.mem_cons.mp hu with rfl | hu
    ·exact⟨_,as,ra,c,p⟩
    ·exact z u hu
theorem qu{s:Shared}{A:Around}(hu:A.units+64 < cLine){us:List Value}{a:D}{v:Value}{as:List Addr}(ra:Reads s.heap v (toPy a) as)(ka:okD 30 a=true)(z:∀u∈us,∃d as,Reads s.heap u d as/\d.canLay0=true/\d.depth<=30) :
  ∀u∈us,SeqAt.EqAt A.in1 s u v (yj s.heap (toPy a) u):=fun u hm=>by
 obtain⟨d,bs,rb,c,p⟩:=z u hm;obtain⟨c2,p2⟩:=ue _ _ ka;rw[aap rb c];refine PySem.SeqAt.eqAt_reads d (toPy a) A.in1 s u v bs as rb ra c c2 ?_;show A.units+1+_ < _;omega
theorem aii{a b:D}{neg:Bool}{r:Rv}(h:gIn neg a b=some r):∃l,itemsD b=some l/\okD 30 a=true/\l.all (okD 30)=true/\r=.v (.bl (if neg then !l.any (fun y=>eqD y a) else l.any (fun y=>eqD y a))):=by
 unfold gIn at h;split at h
 ·rename_i l e;split at h
  ·rename_i ho;rw[Bool.and_eq_true] at ho;cases h;exact⟨l,e,ho.1,ho.2,rfl⟩
  ·cases h
 ·cases h
theorem aej{F H:Hp}{d:D}{l:List D}{x:V}(g:Same F H)(e:itemsD d=some l)(h:Bor K F H d x):∃a vs,x=.ref a/\IsL K F l vs/\(SqL K H a vs∨SqT K H a vs):=by
 cases d with
 | tup k =>
  cases e;obtain⟨a,vs,rfl,e,h⟩:=h.tup;exact⟨a,vs,rfl,h,.inr (SqT.of (g _ _ e))⟩
 | lst k =>
  cases e;obtain⟨a,vs,rfl,e,h⟩:=h.lst g;exact⟨a,vs,rfl,h,.inl (SqL.of e)⟩
 | kst k =>
  cases e;obtain⟨a,vs,rfl,e,h⟩:=h.kst;exact⟨a,vs,rfl,h,.inl (L2.Same.seq g e)⟩
 | _=>cases e
theorem ahy(hu:X.A.units+64 < cLine):OpD K X (compareOp .NotIn) (gIn true):=OpD.mk fun hk=>by
 intro zv s σ0 H x y v u Q I rx ry ⟨tg,F,ρ,σ,d1,d2,r,G,b1,b2,eg,q⟩;subst hk;obtain⟨l,e,k1,k2,rfl⟩:=aii eg;obtain⟨as,ra⟩:=ur I G.sub b1 k1 rx;obtain⟨p,vs,rfl,hl,hs⟩:=aej G.sub e b2;cases ry;rcases hs with hs | hs
 ·obtain⟨its,rv,pl,_⟩:=I.list hs;obtain⟨ea,z⟩:=qy I G.sub (a:=d1) hl k2 rv;refine SeqAt.notIn_listAt (yj s.heap (toPy d1)) pl.isList (fun w hw=>qu hu ra k1 z w (by simpa using hw)) ⟨.bl _,H,I,rfl,?_⟩
  rw[show its.toArray.any (yj s.heap (toPy d1))=its.any (yj s.heap (toPy d1)) by simp,ea]
  exact Res.same G q (.bl _)
 ·obtain⟨its,rv,pl,_⟩:=I.tuple hs;obtain⟨ea,z⟩:=qy I G.sub (a:=d1) hl k2 rv;refine SeqAt.notIn_tupleAt (yj s.heap (toPy d1)) pl (fun w hw=>qu hu ra k1 z w (by simpa using hw)) ⟨.bl _,H,I,rfl,?_⟩
  rw[show its.toArray.any (yj s.heap (toPy d1))=its.any (yj s.heap (toPy d1)) by simp,ea]
  exact Res.same G q (.bl _)
end
end Dn
namespace Dn
open L2 Mn
section
variable{K:Fg9}{X:Cx}{e a b c:Expr}{es:List Expr}{pos p:Pos}
theorem amd:OpD K X (binaryOp .FloorDiv) (gInt fDiv):=aen ajq fun i j k h=>by
 unfold fDiv at h;split at h
 ·cases h;exact⟨by assumption,rfl⟩
 ·cases h
theorem aa4:OpD K X (binaryOp .Mod) (gInt fMod):=aen ao8 fun i j k h=>by
 unfold fMod at h;split at h
 ·cases h;exact⟨by assumption,rfl⟩
 ·cases h
theorem ahx:OpD K X (binaryOp .Pow) (gInt fPow):=aen ao6 fun i j k h=>by
 unfold fPow at h;split at h
 ·rename_i hc;cases h;exact⟨⟨hc.1,hc.2.1,hc.2.2⟩,rfl⟩
 ·cases h
def gMul:D->D->Option Rv
 | .int i,.int j=>(fMul i j).map fun k=>.v (.int k)
 | .tup l,.int k=>if k=1 then some (.v (.tup l)) else if l≠[]/\2<=k/\k < 9223372036854775808/\l.length*k.toNat<=capS then some (.v (.tup (List.replicate k.toNat l).flatten)) else none
 | .lst l,.int k=>if k.natAbs < 9223372036854775808/\l.length*k.toNat<=capS then some (.fr (List.replicate k.toNat l).flatten) else none
 | _,_=>none
theorem aa3:OpD K X (binaryOp .Mult) gMul:=OpD.mk fun hk=>by
 intro zv s σ0 H x y v u Q I rx ry ⟨tg,F,ρ,σ,d1,d2,r,G,b1,b2,eg,q⟩;subst hk;unfold gMul at eg;split at eg
 ·rename_i i j;obtain rfl:=b1.int;obtain rfl:=b2.int;unfold fMul at eg;split at eg
  ·rename_i hc;cases eg;exact ao7 zv s σ0 H _ _ v u Q I rx ry ⟨_,_,rfl,rfl,hc,Res.same G q (.int _)⟩
  ·cases eg
 ·rename_i l k;split at eg
  ·rename_i hk1;subst hk1;cases eg;obtain⟨a1,vs1,rfl,s1,i1⟩:=b1.tup;obtain rfl:=b2.int;exact ame zv s σ0 H _ _ v u Q I rx ry ⟨a1,vs1,rfl,rfl,G.sub _ _ s1,Res.same G q (.tup s1 i1)⟩
  split at eg
  ·rename_i hc;obtain⟨h0,h2,h3,hz⟩:=hc;cases eg;obtain⟨a1,vs1,rfl,s1,i1⟩:=b1.tup;obtain rfl:=b2.int;have l1:=i1.length;refine ajp zv s σ0 H _ _ v u Q I rx ry ⟨a1,vs1,k,rfl,rfl,G.sub _ _ s1,?_,h2,h3,by rw[<-l1];exact vo hz,fun p hp=>Res.tup G q (i1.rep _) hp⟩
   intro z;subst z;cases i1;exact h0 rfl
  ·cases eg
 ·rename_i l k;split at eg
  ·rename_i hc;obtain⟨hab,hz⟩:=hc;have h0 : -9223372036854775808<=k:=by omega
   have h2:k < 9223372036854775808:=by omega
   cases eg;obtain⟨a1,vs1,rfl,s1,i1⟩:=b1.lst G.sub;obtain rfl:=b2.int;have l1:=i1.length;exact ao5 zv s σ0 H _ _ v u Q I rx ry ⟨a1,k,vs1,rfl,rfl,s1,h0,h2,by rw[<-l1];exact vo hz,fun p hp=>Res.lst G q (i1.rep _) hp⟩
  ·cases eg
 ·cases eg
def gCmp(f:Int->Int->Bool):D->D->Option Rv
 | .int i,.int j=>some (.v (.bl (f i j)))
 | _,_=>none
theorem aco{op:CmpOp}{f:Int->Int->Bool}(h:OpR X (compareOp op) (rI0 fun i j=>.bl (f i j))):OpD K X (compareOp op) (gCmp f):=OpD.mk fun hk=>by
 intro zv s σ0 H x y v u Q I rx ry ⟨tg,F,ρ,σ,d1,d2,r,G,b1,b2,eg,q⟩;unfold gCmp at eg;split at eg
 ·cases eg;obtain rfl:=b1.int;obtain rfl:=b2.int;exact h zv s σ0 H _ _ v u Q I rx ry ⟨_,_,rfl,rfl,Res.same G q (.bl _)⟩
 ·cases eg
theorem ahz:OpD K X (compareOp .Lt) (gCmp fun i j=>decide (i < j)):=aco asl
theorem ao2:OpD K X (compareOp .LtE) (gCmp fun i j=>decide (i<=j)):=aco asm
theorem ak2:OpD K X (compareOp .Gt) (gCmp fun i j=>decide (j < i)):=aco asn
theorem ab1:OpD K X (compareOp .GtE) (gCmp fun i j=>decide (j<=i)):=aco aso
def gNeg:D->Option D
 | .int i=>some (.int (-i))
 | _=>none
def mUn(g:D->Option D)(m:M D):M D:=m.bind fun d=>lift (g d)
theorem ad2{m:M D}(h:EV K X a m):EV K X (.UnaryOp .USub a pos) (mUn gNeg m):=EV.mk fun hk=>PE.imp (ase an2 (h hk)) fun σ H Q z9=>by
 obtain⟨tg,F,ρ,d,ρ',G,em,q⟩:=z9;obtain⟨d1,ρ1,e1,em⟩:=au em;obtain⟨e2,rfl⟩:=dg em;refine⟨tg,F,ρ,d1,_,G,e1,fun v H' F' G' x r =>?_⟩
 cases d1 with
 | int i =>
  cases e2;cases r;exact⟨i,rfl,q _ H' F' G' x (.int _)⟩
 | _=>cases e2
def asB:D->Option Bool
 | .bl b=>some b
 | _=>none
def gNot(d:D):Option D:=(asB d).map fun k=>.bl (!k)
theorem aja{d:D}{k:Bool}(h:asB d=some k):d=.bl k:=by
 cases d with
 | bl b=>cases h;rfl
 | _=>cases h
theorem ak9{m:M D}(h:EV K X a m):EV K X (.UnaryOp .Not a pos) (mUn gNot m):=EV.mk fun hk=>PE.imp (aov (h hk)) fun σ H Q z9=>by
 obtain⟨tg,F,ρ,d,ρ',G,em,q⟩:=z9;obtain⟨d1,ρ1,e1,em⟩:=au em;obtain⟨e2,rfl⟩:=dg em;refine⟨tg,F,ρ,d1,_,G,e1,fun v H' F' G' x r =>?_⟩
 cases d1 with
 | bl i =>
  cases e2;cases r;exact⟨i,rfl,q _ H' F' G' x (.bl _)⟩
 | _=>cases e2
def mAnd(m1 m2:M D):M D:=m1.bind fun d=>(lift (asB d)).bind fun k=>if k=true then m2 else ret (.bl false)
theorem afy{op}{m:M D}(h:EV K X a m):EV K X (.BoolOp op [a] pos) m:=EV.mk fun hk=>aou (h hk)
theorem af0{m1 m2:M D}{rest:List Expr}(h1:EV K X a m1)(h2:EV K X (.BoolOp .And (b::rest) pos) m2):EV K X (.BoolOp .And (a::b::rest) pos) (mAnd m1 m2):=EV.mk fun hk=>PE.imp (ao1 (h1 hk) (h2 hk)) fun σ H Q z9=>by
 obtain⟨tg,F,ρ,d,ρ',G,em,q⟩:=z9;obtain⟨d1,ρ1,e1,em⟩:=au em;obtain⟨k,ρ2,e2,em⟩:=au em;obtain⟨e3,rfl⟩:=dg e2;obtain rfl:=aja e3;refine⟨tg,F,ρ,_,_,G,e1,fun v H' F' G' x r =>?_⟩
 cases r;refine⟨k,rfl,?_⟩;cases k with
 | true=>exact iteT ⟨tg,F',_,d,ρ',G',em,fun v2 H2 F2 G2 x2 r2=>q v2 H2 F2 G2 (x.trans x2) r2⟩
 | false =>
  obtain⟨rfl,rfl⟩:=jc (show ret (D.bl false) _=_ from em)
  exact iteF (q _ H' F' G' x (.bl _))
def TB(K:Fg9)(m:M Bool):TT:=fun σ H Q=>∃tg F ρ k ρ',Good K tg F H ρ σ/\m ρ=some (.ok k,ρ')/\∀H' F',Good K tg F' H' ρ' σ->Ext (Own ρ σ) (Own ρ' σ) F H F' H'->Q k H'
structure ET (K:Fg9) (X:Cx) (e:Expr) (m:M Bool):Prop where
 go:X.K=K->PT X e (TB K m)
instance {K:Fg9} {X:Cx} {e:Expr} {m:M Bool}:CoeFun (ET K X e m) fun _=>X.K=K->PT X e (TB K m):=⟨ET.go⟩
structure EW (K:Fg9) (X:Cx) (e:Expr) (m:M Bool):Prop where
 go:X.K=K->PW X e (TB K m)
instance {K:Fg9} {X:Cx} {e:Expr} {m:M Bool}:CoeFun (EW K X e m) fun _=>X.K=K->PW X e (TB K m):=⟨EW.go⟩
theorem PT.imp{t t':TT}(h:PT X e t)(w:∀σ H Q,t' σ H Q->t σ H Q):PT X e t':=fun zv s σ H Q I q=>h zv s σ H Q I (w σ H Q q)
theorem PW.imp{t t':TT}(h:PW X e t)(w:∀σ H Q,t' σ H Q->t σ H Q):PW X e t':=fun wh zv s σ H Q I q=>h wh zv s σ H Q I (w σ H Q q)
theorem EW.pt{m:M Bool}(h:EW K X e m):ET K X e m:=ET.mk fun hk=>(h hk).pt
def aa5(m:M D):M Bool:=m.bind fun d=>lift (asB d)
theorem ajd{m:M D}(σ:L2.St)(H:Hp)(Q:Bool->Hp->Prop)(t:TB K (aa5 m) σ H Q):tB (T K (relD K) m) σ H Q:=by
 obtain⟨tg,F,ρ,k,ρ',G,em,q⟩:=t;obtain⟨d1,ρ1,e1,em⟩:=au em;obtain⟨e3,rfl⟩:=dg em;obtain rfl:=aja e3;refine⟨tg,F,ρ,_,_,G,e1,fun v H' F' G' x r =>?_⟩
 cases r;exact⟨k,rfl,q H' F' G' x⟩
theorem qt{m:M D}(h:EV K X e m)(he:∀whole,isTrue e X.env whole=(do let v <-whole;standAt e.pos;holding [v] (truthy v)):=by intro _;rfl):ET K X e (aa5 m):=ET.mk fun hk=>PT.imp (aoj (h hk) he) ajd
def oh(g:D->D->Option Rv)(m:M (D×D)):M Bool:=aa5 (mOp g m).d
theorem km{op:CmpOp}{g:D->D->Option Rv}{m:M (D×D)}(ho:OpD K X (compareOp op) g)(h:E2 K X a b m)(hm:behindInMarks op b=false):ET K X (.Compare a [op] [b] pos) (oh g m):=ET.mk fun hk=>by
 obtain⟨ta,tb,ha,hb,h⟩:=h hk;refine PT.imp (alw (ho hk) ha hb hm) fun σ H Q t =>?_
 obtain⟨tg,F,ρ,k,ρ',G,em,q⟩:=t;obtain⟨d1,ρ1,e1,em⟩:=au em;obtain⟨e3,rfl⟩:=dg em;obtain rfl:=aja e3;obtain⟨r,ρ2,e1,em⟩:=au e1;obtain⟨er,rfl⟩:=jc em;refine afg h σ H _ ⟨tg,F,ρ,r,_,G,e1,fun v H' F' G' x w =>?_⟩
 cases r with
 | v d =>
  have er:d=.bl k:=er;subst er;have w:Is K F' (.bl k) v:=w;cases w;exact⟨k,rfl,q H' F' G' x⟩
 | fr l=>cases er
 | tf d l=>cases er
def aet(m:M Bool):M Bool:=m.bind fun k=>ret (!k)
theorem ug{m:M Bool}(h:ET K X a m):ET K X (.UnaryOp .Not a pos) (aet m):=ET.mk fun hk=>PT.imp (aok (h hk)) fun σ H Q z9=>by
 obtain⟨tg,F,ρ,k,ρ',G,em,q⟩:=z9;obtain⟨d1,ρ1,e1,em⟩:=au em;obtain⟨rfl,rfl⟩:=jc em;exact⟨tg,F,ρ,d1,_,G,e1,fun H' F' G' x=>q H' F' G' x⟩
def mOrB(m1 m2:M Bool):M Bool:=m1.bind fun k=>if k=true then ret true else m2
theorem yz{m:M Bool}(h:ET K X a m):EW K X (.BoolOp .Or [a] pos) m:=EW.mk fun hk=>aoi (h hk)
theorem abt{m1 m2:M Bool}{rest:List Expr}(h1:ET K X a m1)(h2:EW K X (.BoolOp .Or (b::rest) pos) m2):EW K X (.BoolOp .Or (a::b::rest) pos) (mOrB m1 m2):=EW.mk fun hk=>PW.imp (ar9 (h1 hk) (h2 hk)) fun σ H Q z9=>by
 obtain⟨tg,F,ρ,d,ρ',G,em,q⟩:=z9;obtain⟨k,ρ1,e1,em⟩:=au em;refine⟨tg,F,ρ,k,_,G,e1,fun H' F' G' x =>?_⟩
 cases k with
 | false=>exact iteF ⟨tg,F',_,d,ρ',G',em,fun H2 F2 G2 x2=>q H2 F2 G2 (x.trans x2)⟩
 | true =>
  obtain⟨rfl,rfl⟩:=jc (show ret true _=_ from em)
  exact iteT (q H' F' G' x)
end
section
variable{K:Fg9}{X:Cx}{e a b c:Expr}{es:List Expr}{pos p p2:Pos}
def TL(K:Fg9)(m:M (List D)):TA:=fun σ H Q=>∃tg F ρ ds ρ',Good K tg F H ρ σ/\m ρ=some (.ok ds,ρ')/\∀vs H' F',Good K tg F' H' ρ' σ->Ext (Own ρ σ) (Own ρ' σ) F H F' H'->IsL K F' ds vs->Q vs H'
structure ED (K:Fg9) (X:Cx) (es:List Expr) (m:M (List D)):Prop where
 go:X.K=K->PA X es (TL K m)
instance {K:Fg9} {X:Cx} {es:List Expr} {m:M (List D)}:CoeFun (ED K X es m) fun _=>X.K=K->PA X es (TL K m):=⟨ED.go⟩
theorem PA.imp{t t':TA}(h:PA X es t)(w:∀σ H Q,t' σ H Q->t σ H Q):PA X es t':=fun ps zv s σ H Q I q=>h ps zv s σ H Q I (w σ H Q q)
def mNil:M (List D):=ret []
def ak(m:M D)(ms:M (List D)):M (List D):=m.bind fun d=>ms.bind fun ds=>ret (d::ds)
theorem bf:ED K X [] mNil:=ED.mk fun _=>PA.imp aa2 fun σ H Q z9=>by
 obtain⟨tg,F,ρ,ds,ρ',G,em,q⟩:=z9;obtain⟨rfl,rfl⟩:=jc em;exact q [] H F G (Ext.refl _ _ _) .nil
theorem aa{m:M D}{ms:M (List D)}(h:EV K X e m)(t:ED K X es ms)(hs:starEach (e::es) X.env=(false,eval e X.env)::starEach es X.env:=by rfl):ED K X (e::es) (ak m ms):=ED.mk fun hk=>PA.imp (lg (h hk) (t hk) hs) fun σ H Q z9=>by
 obtain⟨tg,F,ρ,ds,ρ',G,em,q⟩:=z9;obtain⟨d,ρ1,e1,em⟩:=au em;obtain⟨r,ρ2,e2,em⟩:=au em;obtain⟨rfl,rfl⟩:=jc em;exact⟨tg,F,ρ,d,ρ1,G,e1,fun v H1 F1 G1 x1 r1=>⟨tg,F1,ρ1,r,_,G1,e2,fun vs H2 F2 G2 x2 r2=>q _ H2 F2 G2 (x1.trans x2) (.cons (r1.mono x2.sub) r2)⟩⟩
def gTup(ds:List D):Option D:=if ds.length<=capS then some (.tup ds) else none
def gLst(ds:List D):Option Rv:=if ds.length<=capS then some (.fr ds) else none
def mTup(m:M (List D)):M D:=m.bind fun ds=>lift (gTup ds)
def mLst(m:M (List D)):M Rv:=m.bind fun ds=>lift (gLst ds)
theorem lr{k}{m:M (List D)}(h:ED K X es m):EV K X (.Tuple es k pos) (mTup m):=EV.mk fun hk=>PE.imp (aor (h hk)) fun σ H Q z9=>by
 obtain⟨tg,F,ρ,d,ρ',G,em,q⟩:=z9;obtain⟨ds,ρ1,e1,em⟩:=au em;obtain⟨e2,rfl⟩:=dg em;unfold gTup at e2;split at e2
 ·rename_i hz;cases e2;refine⟨tg,F,ρ,ds,_,G,e1,fun vs H1 F1 G1 x1 r1=>⟨by rw[<-r1.length];exact vo hz,fun p hp=>q _ _ _ (G1.new hp _) (x1.trans (G1.newX hp _)) (.tup cj (r1.mono (Same.new (G1.freeF hp) _)))⟩⟩
 ·cases e2
theorem cz{m:M (List D)}(h:ED K X es m):ER K X (.List es pos) (mLst m):=ER.mk fun hk=>PE.imp (aox (h hk)) fun σ H Q z9=>by
 obtain⟨tg,F,ρ,d,ρ',G,em,q⟩:=z9;obtain⟨ds,ρ1,e1,em⟩:=au em;obtain⟨e2,rfl⟩:=dg em;unfold gLst at e2;split at e2
 ·rename_i hz;cases e2;refine⟨tg,F,ρ,ds,_,G,e1,fun vs H1 F1 G1 x1 r1=>⟨by rw[<-r1.length];exact vo hz,fun p hp=>q _ _ _ (G1.fresh hp _) (x1.trans (G1.freshX hp _)) ⟨p,vs,rfl,.inl (x1.there p hp),G1.freeF hp,cj,r1,fun z=>G1.own_ne hp z rfl⟩⟩⟩
 ·cases e2
theorem akl{x:Str}{n:Int}{j1 j2:Nat}{p1 p2:Pos}:EV K X (.Dict [some (.Constant (.str x) j1 p1)] [.Constant (.int n) j2 p2] pos) (ret (.dct [(Sum.inr x,.int n)])):=EV.mk fun _=>PE.imp ajl fun σ H Q z9=>by
 obtain⟨tg,F,ρ,d,ρ',G,em,q⟩:=z9;obtain⟨rfl,rfl⟩:=jc em;exact fun p hp=>q _ _ _ (G.new hp _) (G.newX hp _) (.dct cj (.cons (.int n) .nil))
inductive BorL (K:Fg9) (F H:Hp):List D->List V->Prop
 | nil:BorL K F H [] []
 | cons {d:D} {v:V} {ds:List D} {vs:List V} (h:Bor K F H d v) (t:BorL K F H ds vs):BorL K F H (d::ds) (v::vs)
def TA'(K:Fg9)(m:M (List D)):TA:=fun σ H Q=>∃tg F ρ ds ρ',Good K tg F H ρ σ/\m ρ=some (.ok ds,ρ')/\∀vs H' F',Good K tg F' H' ρ' σ->Ext (Own ρ σ) (Own ρ' σ) F H F' H'->BorL K F' H' ds vs->Q vs H'
structure EA (K:Fg9) (X:Cx) (es:List Expr) (m:M (List D)):Prop where
 go:X.K=K->PA X es (TA' K m)
instance {K:Fg9} {X:Cx} {es:List Expr} {m:M (List D)}:CoeFun (EA K X es m) fun _=>X.K=K->PA X es (TA' K m):=⟨EA.go⟩
def jo(i:Nat)(ms:M (List D)):M (List D):=(dh i).bind fun _=>ms.bind fun ds=>(dh i).bind fun d=>ret (d::ds)
theorem b8:EA K X [] mNil:=EA.mk fun _=>PA.imp aa2 fun σ H Q z9=>by
 obtain⟨tg,F,ρ,ds,ρ',G,em,q⟩:=z9;obtain⟨rfl,rfl⟩:=jc em;exact q [] H F G (Ext.refl _ _ _) .nil
theorem ea_v{m:M D}{ms:M (List D)}(h:EV K X e m)(t:EA K X es ms)(hs:starEach (e::es) X.env=(false,eval e X.env)::starEach es X.env:=by rfl):EA K X (e::es) (ak m ms):=EA.mk fun hk=>PA.imp (lg (h hk) (t hk) hs) fun σ H Q z9=>by
 obtain⟨tg,F,ρ,ds,ρ',G,em,q⟩:=z9;obtain⟨d,ρ1,e1,em⟩:=au em;obtain⟨r,ρ2,e2,em⟩:=au em;obtain⟨rfl,rfl⟩:=jc em;exact⟨tg,F,ρ,d,ρ1,G,e1,fun v H1 F1 G1 x1 r1=>⟨tg,F1,ρ1,r,_,G1,e2,fun vs H2 F2 G2 x2 r2=>q _ H2 F2 G2 (x1.trans x2) (.cons (.inl (r1.mono x2.sub)) r2)⟩⟩
theorem ea_n{i:Nat}{ms:M (List D)}(h:PE X e (tVar i))(t:EA K X es ms)(hs:starEach (e::es) X.env=(false,eval e X.env)::starEach es X.env:=by rfl):EA K X (e::es) (jo i ms):=EA.mk fun hk=>PA.imp (lg h (t hk) hs) fun σ H Q z9=>by
 obtain⟨tg,F,ρ,ds,ρ',G,em,q⟩:=z9;obtain⟨d0,ρ0,e0,em⟩:=au em;obtain⟨r,ρ2,e2,em⟩:=au em;obtain⟨d,ρ1,e1,em⟩:=au em;obtain⟨rfl,rfl⟩:=jc em;obtain⟨rfl,v,hv,_⟩:=jx G e0;exact⟨v,hv,tg,F,ρ0,r,_,G,e2,fun vs H2 F2 G2 x2 r2=>by
  obtain⟨rfl,v',hv',b'⟩:=jx G2 e1;rw[hv] at hv';cases hv';exact q _ H2 F2 G2 x2 (.cons b' r2)⟩
def rcOf(K:Fg9)(g:List D->Option Rv):List V->Hp->VK->Prop:=fun vs H Q=>∃tg F ρ σ ds r,Good K tg F H ρ σ/\BorL K F H ds vs/\g ds=some r/\Res K tg F H ρ σ r Q
structure CallD (K:Fg9) (X:Cx) (f:Value) (g:List D->Option Rv):Prop where
 go:X.K=K->zz X f (rcOf K g)
instance {K:Fg9} {X:Cx} {f:Value} {g:List D->Option Rv}:CoeFun (CallD K X f g) fun _=>X.K=K->zz X f (rcOf K g):=⟨CallD.go⟩
def jw(g:List D->Option Rv)(m:M (List D)):M Rv:=m.bind fun ds=>lift (g ds)
theorem jm{O O1 O2:Addr->Prop}{F H F1 H1 F2 H2:Hp}{r:Rv}{v:V}(x:Ext O O1 F H F1 H1)(h:relR K r v H1 O1 F2 H2 O2):relR K r v H O F2 H2 O2:=by
 cases r with
 | v d=>exact h
 | fr l =>
  obtain⟨a,vs,ev,ha,w⟩:=h;refine⟨a,vs,ev,?_,w⟩;rcases ha with ha | ha
  ·exact .inl (x.there a ha)
  ·exact(x.own a ha).symm
 | tf d l =>
  obtain⟨t,u,a,vs,ev,ht,hd,ha,w⟩:=h;refine⟨t,u,a,vs,ev,ht,hd,?_,w⟩;rcases ha with ha | ha
  ·exact .inl (x.there a ha)
  ·exact(x.own a ha).symm
theorem af8{g:List D->Option Rv}{m:M (List D)}(σ:L2.St)(H:Hp)(Q:VK)(t:T K (relR K) (jw g m) σ H Q):tCB (rcOf K g) (TA' K m) σ H Q:=by
 obtain⟨tg,F,ρ,r,ρ',G,em,q⟩:=t;obtain⟨ds,ρ1,e1,em⟩:=au em;obtain⟨e2,rfl⟩:=dg em;exact⟨tg,F,ρ,ds,_,G,e1,fun vs H' F' G' x' bl=>⟨tg,F',_,σ,ds,r,G',bl,e2,fun v H2 F2 G2 x2 rr=>q v H2 F2 G2 (x'.trans x2) (jm x' rr)⟩⟩
section
variable{x:Str}{id Ty:String}{g:List D->Option Rv}{m:M (List D)}
theorem f9(hc:CallD K X (.builtin id) g)(hg:Gl X x)(hm:X.mg x=none)(hv:bootBuiltins x=some (.builtin id))(ha:EA K X (e::es) m)(hn:x ≠ "__name__" := by decide)(hdb:(x==("__debug__" : Str))=false:=by decide)
  (he:starEach (e::es) X.env=(false,eval e X.env)::starEach es X.env:=by rfl) (hpl:(backTo pos (starEach es X.env)).any (·.1)=false:=by rfl):ER K X (.Call (.Name x p) (e::es) [] pos) (jw g m):=ER.mk fun hk=>PE.imp (aam (hc hk) hg hm hv (ha hk) hn hdb he hpl) af8
theorem iu(hc:CallD K X (.type Ty) g)(hg:Gl X x)(hm:X.mg x=none)(hv:bootBuiltins x=some (.type Ty))(ha:EA K X (e::es) m)(hn:x ≠ "__name__" := by decide)(hdb:(x==("__debug__" : Str))=false:=by decide)
  (he:starEach (e::es) X.env=(false,eval e X.env)::starEach es X.env:=by rfl) (hpl:(backTo pos (starEach es X.env)).any (·.1)=false:=by rfl):ER K X (.Call (.Name x p) (e::es) [] pos) (jw g m):=ER.mk fun hk=>PE.imp (ahv (hc hk) hg hm hv (ha hk) hn hdb he hpl) af8
end
theorem BorL.one{F H:Hp}{d:D}{vs:List V}(h:BorL K F H [d] vs):∃v,vs=[v]/\Bor K F H d v:=by
 cases h with
 | cons h t=>cases t;exact⟨_,rfl,h⟩
theorem BorL.two{F H:Hp}{d d':D}{vs:List V}(h:BorL K F H [d,d'] vs):∃v v',vs=[v,v']/\Bor K F H d v/\Bor K F H d' v':=by
 cases h with
 | cons h t =>
  obtain⟨v',rfl,h'⟩:=t.one;exact⟨_,_,rfl,h,h'⟩
def g1(f:D->Option Rv):List D->Option Rv
 | [d]=>f d
 | _=>none
def g2(f:D->D->Option Rv):List D->Option Rv
 | [d,d']=>f d d'
 | _=>none
theorem acd{f:D->Option Rv}{w:Value} (h:X.K=K->∀(zv:List (Addr×Obj)) (s:Shared) (σ0:L2.St) (H:Hp) (x:V) (u:Value) (Q:VK) (tg:Nat->Addr) (F:Hp) (ρ:Ro) (σ:L2.St) (d:D) (r:Rv),Inv X zv σ0 H s->RelV x u->Good K tg F H ρ σ->Bor K F H d x->f d=some r->Res K tg F H ρ σ r Q ->
  wpAny (model X.prog X.w) X.A (call w [u]) (EP X zv σ0 Q) X.xe s):CallD K X w (g1 f):=CallD.mk fun hk=>by
 intro zv s σ0 H xs us Q I r ⟨tg,F,ρ,σ,ds,rv,G,bl,eg,q⟩
 match ds,eg with
 | [d],eg =>
  obtain⟨v,rfl,bv⟩:=bl.one;obtain⟨u,rfl,ru⟩:=vals1 r;exact h hk zv s σ0 H v u Q tg F ρ σ d rv I ru G bv eg q
theorem qd:CallD K X (.builtin "len") (g1 fun d=>(itemsD d).map fun l=>.v (.int l.length)):=acd fun hk zv s σ0 H x u Q tg F ρ σ d r I ru G bd eg q=>by
 subst hk;cases e:itemsD d with
 | none=>rw[e] at eg;cases eg
 | some l =>
  rw[e] at eg;cases eg;obtain⟨a,vs,rfl,hl,hs⟩:=aej G.sub e bd;have q':=Res.same G q (.int _);rw[hl.length] at q';exact ad6 zv s σ0 H [.ref a] [u] Q I (.cons ru .nil) ⟨a,vs,rfl,hs,q'⟩
def w6:List D->Option (List Bool)
 | []=>some []
 | .bl b::r=>(w6 r).map (b :: ·)
 | _::_=>none
theorem aeb:∀{l:List D} {bs:List Bool},w6 l=some bs->l=bs.map D.bl
 | [],_,h=>by cases h;rfl
 | .bl b::r,bs,h=>by
  have h':(w6 r).map (b :: ·)=some bs:=h;cases e:w6 r with
  | none=>rw[e] at h';cases h'
  | some t =>
   rw[e] at h';cases h';rw[aeb e];rfl
 | .non::_,_,h=>by cases h
 | .int _::_,_,h=>by cases h
 | .str _::_,_,h=>by cases h
 | .tup _::_,_,h=>by cases h
 | .lst _::_,_,h=>by cases h
 | .kst _::_,_,h=>by cases h
 | .dct _::_,_,h=>by cases h
@[simp] theorem agx(bs:List Bool):w6 (bs.map D.bl)=some bs:=by
 induction bs with
 | nil=>rfl
 | cons b r ih=>show(w6 (r.map D.bl)).map (b :: ·)=_;rw[ih];rfl
def gAll:D->Option Rv
 | .lst l=>(w6 l).map fun bs=>.v (.bl (bs.all id))
 | _=>none
theorem aqk(hc:X.calm=true):CallD K X (.builtin "all") (g1 gAll):=acd fun hk zv s σ0 H x u Q tg F ρ σ d r I ru G bd eg q=>by
 subst hk;cases d with
 | lst l =>
  have eg:(w6 l).map (fun bs=>Rv.v (.bl (bs.all id)))=some r:=eg
  cases e:w6 l with
  | none=>rw[e] at eg;cases eg
  | some bs =>
   rw[e] at eg;cases eg;obtain⟨a,vs,rfl,ea,hl⟩:=bd.lst G.sub;rw[aeb e] at hl;rw[hl.bl_inv] at ea;exact akr hc zv s σ0 H [.ref a] [u] Q I (.cons ru .nil) ⟨a,bs,rfl,SqL.of ea,Res.same G q (.bl _)⟩
 | _=>cases eg
def ake:D->Option Rv
 | .int i=>some (.v (.int i))
 | .bl k=>some (.v (.int (if k then 1 else 0)))
 | _=>none
theorem aqj:CallD K X (.type "int") (g1 ake):=acd fun hk zv s σ0 H x u Q tg F ρ σ d r I ru G bd eg q=>by
 cases d with
 | int i =>
  cases eg;obtain rfl:=bd.int;exact ad8 zv s σ0 H [_] [u] Q I (.cons ru .nil) (.inl ⟨i,rfl,Res.same G q (.int _)⟩)
 | bl k =>
  cases eg;obtain rfl:=bd.bl;exact ad8 zv s σ0 H [_] [u] Q I (.cons ru .nil) (.inr ⟨k,rfl,Res.same G q (.int _)⟩)
 | _=>cases eg
theorem qb:CallD K X (.type "tuple") (g1 fun d=>(itemsD d).map fun l=>.v (.tup l)):=acd fun hk zv s σ0 H x u Q tg F ρ σ d r I ru G bd eg q=>by
 subst hk;cases d with
 | tup l =>
  cases eg;obtain⟨a,vs,rfl,ea,hl⟩:=bd.tup;exact uc zv s σ0 H [_] [u] Q I (.cons ru .nil) ⟨a,vs,rfl,.inr ⟨SqT.of (G.sub _ _ ea),Res.same G q (.tup ea hl)⟩⟩
 | lst l =>
  cases eg;obtain⟨a,vs,rfl,ea,hl⟩:=bd.lst G.sub;exact uc zv s σ0 H [_] [u] Q I (.cons ru .nil) ⟨a,vs,rfl,.inl ⟨SqL.of ea,fun p hp=>Res.tup G q hl hp⟩⟩
 | kst l =>
  cases eg;obtain⟨a,vs,rfl,ea,hl⟩:=bd.kst;exact uc zv s σ0 H [_] [u] Q I (.cons ru .nil) ⟨a,vs,rfl,.inl ⟨L2.Same.seq G.sub ea,fun p hp=>Res.tup G q hl hp⟩⟩
 | _=>cases eg
theorem ai0{f:D->D->Option Rv}{w:Value} (h:X.K=K->∀(zv:List (Addr×Obj)) (s:Shared) (σ0:L2.St) (H:Hp) (x y:V) (u v:Value) (Q:VK) (tg:Nat->Addr) (F:Hp) (ρ:Ro) (σ:L2.St) (d d':D) (r:Rv),Inv X zv σ0 H s->RelV x u->RelV y v->Good K tg F H ρ σ->Bor K F H d x->Bor K F H d' y->f d d'=some r->Res K tg F H ρ σ r Q ->
  wpAny (model X.prog X.w) X.A (call w [u,v]) (EP X zv σ0 Q) X.xe s):CallD K X w (g2 f):=CallD.mk fun hk=>by
 intro zv s σ0 H xs us Q I r ⟨tg,F,ρ,σ,ds,rv,G,bl,eg,q⟩
 match ds,eg with
 | [d,d'],eg =>
  obtain⟨v,v',rfl,bv,bv'⟩:=bl.two;obtain⟨u,w,rfl,ru,rw'⟩:=vals2 r;exact h hk zv s σ0 H v v' u w Q tg F ρ σ d d' rv I ru rw' G bv bv' eg q
theorem aqi(hc:X.calm=true):CallD K X (.builtin "max") (g2 (gInt fun i j=>some (if j > i then j else i))):=ai0 fun hk zv s σ0 H x y u v Q tg F ρ σ d d' r I ru rv G bd bd' eg q=>by
 unfold gInt at eg;split at eg
 ·cases eg;obtain rfl:=bd.int;obtain rfl:=bd'.int;exact ai3 hc zv s σ0 H [_,_] [u,v] Q I (.cons ru (.cons rv .nil)) ⟨_,_,rfl,Res.same G q (.int _)⟩
 ·cases eg
theorem aqh(hc:X.calm=true):CallD K X (.builtin "min") (g2 (gInt fun i j=>some (if j < i then j else i))):=ai0 fun hk zv s σ0 H x y u v Q tg F ρ σ d d' r I ru rv G bd bd' eg q=>by
 unfold gInt at eg;split at eg
 ·cases eg;obtain rfl:=bd.int;obtain rfl:=bd'.int;exact ai2 hc zv s σ0 H [_,_] [u,v] Q I (.cons ru (.cons rv .nil)) ⟨_,_,rfl,Res.same G q (.int _)⟩
 ·cases eg
theorem ad9:zz X (.builtin "divmod") (fun xs H Q=>∃i j,xs=[.int i,.int j]/\(0 < j/\j < 1000000000000000000000000000000000000000000000000000000000000)/\∀p,H p=none->Q (.ref p) (upd H p (.tup [.int (i / j),.int (i % j)]))):=by
 intro zv s σ H xs us Q I r h;obtain⟨i,j,rfl,hj,q⟩:=h;obtain⟨u,w',rfl,⟨t,rfl⟩,⟨t',rfl⟩⟩:=vals2 r;have h1:=hj.1;refine divmod_int (by omega) ?_ (.inl (ape hj.1 hj.2))
 rw[Int.fdiv_eq_ediv_of_nonneg i (by omega),Int.fmod_eq_emod_of_nonneg i (by omega)]
 refine⟨.ref s.heap.objs.size,_,?_,rfl,q _ (I.hok.fresh (Nat.le_refl _))⟩;exact I.laid (fun b o e=>Heap.get?_push_of_some _ e) (Nat.le_refl _) ⟨by simp only[List.length_cons,List.length_nil];rw[sizeLine_eq];decide,[.int (i / j) s.toks,.int (i % j) (s.toks+1)],.cons ⟨_,rfl⟩ (.cons ⟨_,rfl⟩ .nil),⟨_,Heap.get?_push_size s.heap rfl,rfl,rfl,0,rfl⟩⟩
def ac4:D->D->Option Rv
 | .int i,.int j=>if 0 < j/\j < 1000000000000000000000000000000000000000000000000000000000000 then some (.v (.tup [.int (i / j),.int (i % j)])) else none
 | _,_=>none
theorem ai1:CallD K X (.builtin "divmod") (g2 ac4):=ai0 fun hk zv s σ0 H x y u v Q tg F ρ σ d d' r I ru rv G bd bd' eg q=>by
 unfold ac4 at eg;split at eg
 ·split at eg
  ·rename_i hc;cases eg;obtain rfl:=bd.int;obtain rfl:=bd'.int;exact ad9 zv s σ0 H [_,_] [u,v] Q I (.cons ru (.cons rv .nil)) ⟨_,_,rfl,hc,fun p hp=>Res.tup G q (.cons (.int _) (.cons (.int _) .nil)) hp⟩
  ·cases eg
 ·cases eg
inductive Ty where
 | int | bool | tuple | list | str | dict
def Ty.nm:Ty->String
 | .int => "int" | .bool => "bool" | .tuple => "tuple" | .list => "list" | .str => "str" | .dict => "dict"
def tyD:D->Value
 | .non=>.type "NoneType"
 | .bl _=>.type "bool"
 | .int _=>.type "int"
 | .str _=>.type "str"
 | .tup _=>.type "tuple"
 | .lst _=>.type "list"
 | .kst _=>.type "list"
 | .dct _=>.type "dict"
 | .exn _ _=>.type "NoneType"
def isTy:Ty->D->Bool
 | .int,.int _=>true
 | .int,.bl _=>true
 | .bool,.bl _=>true
 | .tuple,.tup _=>true
 | .list,.lst _=>true
 | .list,.kst _=>true
 | .str,.str _=>true
 | .dict,.dct _=>true
 | _,_=>false
theorem ak5(t:Ty)(d:D):PySem.W.kitOne K (tyD d) (.type t.nm)=some (isTy t d):=by
 cases d <;> cases t <;> kernel_rfl
theorem ai4{X:Cx}:zz X (.builtin "isinstance") (fun xs H Q=>∃F d x t,xs=[x,.ty (Ty.nm t)]/\Same F H/\Bor X.K F H d x/\Q (.bl (isTy t d)) H):=by
 intro zv s σ H xs us Q I r ⟨F,d,x,t,e,g,h,q⟩;subst e;obtain⟨u,w',rfl,r1,r2⟩:=vals2 r;obtain rfl:w'=Value.type t.nm:=r2;have fin:∀tk,EP X zv σ Q (.bool (isTy t d)) { s with toks:=tk }:=fun tk=>⟨.bl _,H,I.tok tk,rfl,q⟩
 have go:TyOf X.K H x (tyD d)->wpAny (model X.prog X.w) X.A (call (.builtin "isinstance") [u,.type t.nm]) (EP X zv σ Q) X.xe s:=fun ty=>aic I r1 ty (ak5 t d) fin
 cases d with
 | non=>obtain rfl:=h.non;exact go .non
 | bl b=>obtain rfl:=h.bl;exact go (.bl b)
 | int b=>obtain rfl:=h.int;exact go (.int b)
 | str b=>obtain rfl:=h.str;exact go (.str b)
 | tup b=>obtain⟨a,vs,rfl,e,_⟩:=h.tup;exact go (.tup (g _ _ e))
 | lst b=>obtain⟨a,vs,rfl,e,_⟩:=h.lst g;exact go (.lst e)
 | kst b =>
  obtain⟨a,vs,rfl,e,_⟩:=h.kst;cases(show u=Value.ref a from r1)
  obtain⟨its,_,pl,_⟩:=I.list (L2.Same.seq g e);obtain⟨o,ho,hc,n,hd⟩:=pl.isList;exact PySem.W.kia_one PySem.W.kitx_list I.kIn ⟨o,ho,hc⟩ (ak5 t (.kst b)) (fun z=>nomatch z) fin
 | dct b =>
  rcases h with h | ⟨a,vs,l',e1,_⟩
  ·cases h with
   | dct e h=>exact go (.dK (g _ _ e))
  ·cases e1
 | exn c fs =>
  rcases h with h | ⟨a,vs,l',e1,_⟩
  ·cases h with
   | @exn a C c dx fs e hc hk hf =>
    cases(show u=Value.ref a from r1)
    obtain⟨⟨oe,ws,h1,h2,h3,h4⟩,_⟩:=(show lq X.prog X.w H s.heap a (.ext (exO a C dx)) from I.hok a _ (g _ _ e))
    have hno:PySem.W.notCls oe=true:=by unfold PySem.W.notCls;rw[h4]
    have ia:∃ox od,PySem.W.InstAt s.heap a ox C od:=by
     rcases hf with⟨rfl,_⟩ | ⟨d,rfl,hd⟩
     ·exact⟨oe,none,h1,h2,hno,by rw[h3];trivial⟩
     ·obtain⟨mA,⟨od,_,_,e1,_⟩,_⟩:=(show lq X.prog X.w H s.heap d (.xd _) from I.hok d _ (g _ _ hd))
      exact⟨oe,some od,h1,h2,hno,by rw[h3];exact e1⟩
    have kq:PySem.W.kitOne X.K (.ref C) (.type t.nm)=some false:=by
     have h5:PySem.W.subIn X.K (.ref C) (.type t.nm)=some false:=hk.no _ (by cases t <;> simp[Ty.nm])
     have h6:PySem.W.kitMeta t.nm=true:=by cases t <;> kernel_rfl
     unfold PySem.W.kitOne PySem.W.kitCls;rw[if_neg (by simp)]
     show(if PySem.W.kitMeta t.nm=true then PySem.W.subIn X.K (.ref C) (.type t.nm) else none)=some false
     rw[if_pos h6];exact h5
    have e7:isTy t (.exn c fs)=false:=by cases t <;> rfl
    exact PySem.W.kia_one (afn hk) I.kIn ia kq (fun z=>nomatch z) fun tk=>e7▸fin tk
  ·cases e1
def mIsi(t:Ty)(m:M D):M D:=m.bind fun d=>ret (.bl (isTy t d))
theorem za{t:Ty}{tn:Expr}{m:M D}{x:Str}(ht:PE X tn (tC (.ty t.nm)))(hg:Gl X x)(hm:X.mg x=none)(hv:bootBuiltins x=some (.builtin "isinstance"))(h:EB K X e m)(hn:x ≠ "__name__" := by decide)(hdb:(x==("__debug__" : Str))=false:=by decide)
  (h1:starEach [tn] X.env=(false,eval tn X.env)::starEach [] X.env:=by rfl) (he:starEach [e,tn] X.env=(false,eval e X.env)::starEach [tn] X.env:=by rfl) (hpl:(backTo pos (starEach [tn] X.env)).any (·.1)=false:=by rfl) :
  EV K X (.Call (.Name x p) [e,tn] [] pos) (mIsi t m):=EV.mk fun hk=>by
 refine PE.imp (aam ai4 hg hm hv (lg (h hk) (lg ht aa2 h1) he) hn hdb he hpl) fun σ H Q z9 =>?_
 obtain⟨tg,F,ρ,d,ρ',G,em,q⟩:=z9;obtain⟨d1,ρ1,e1,em⟩:=au em;obtain⟨rfl,rfl⟩:=jc em;subst hk;exact⟨tg,F,ρ,d1,_,G,e1,fun v H' F' G' x bv=>⟨F',d1,v,t,rfl,G'.sub,bv,q _ H' F' G' x (.bl _)⟩⟩
def gIx(d i:D):Option Rv:=match i with
 | .int k=>(itemsD d).bind fun l=>(atI l k).map fun x=>.v x
 | _=>none
theorem aqo{F:Hp}{l:List D}{vs:List V}{k:Int}{d:D}(h:IsL K F l vs)(e:atI l k=some d):∃v,atI vs k=some v/\Is K F d v:=by
 unfold atI at e ⊢
 rw[h.length] at e;cases q:ixN vs.length k with
 | none=>rw[q] at e;cases e
 | some j =>
  rw[q] at e;obtain⟨v,e1,e2⟩:=h.get (i:=j) e;exact⟨v,e1,e2⟩
theorem ixd:X.K=K->IxR X (rOf K gIx):=fun hk=>by
 intro value slice zv s σ0 H x y v u Q I rx ry ⟨tg,F,ρ,σ,d1,d2,r,G,b1,b2,eg,q⟩ hs;subst hk;cases d2 with
 | int k =>
  have eg:(itemsD d1).bind (fun l=>(atI l k).map fun x=>Rv.v x)=some r:=eg
  cases e:itemsD d1 with
  | none=>rw[e] at eg;cases eg
  | some l =>
   rw[e] at eg;have eg:(atI l k).map (fun x=>Rv.v x)=some r:=eg
   cases e2:atI l k with
   | none=>rw[e2] at eg;cases eg
   | some d =>
    rw[e2] at eg;cases eg;obtain⟨a,vs,rfl,hl,hq⟩:=aej G.sub e b1;obtain rfl:=b2.int;obtain⟨z,hz,iz⟩:=aqo hl e2;rcases hq with hq | hq
    ·exact amu value slice zv s σ0 H _ _ v u Q I rx ry ⟨a,vs,k,z,rfl,rfl,hq,hz,Res.same G q iz⟩ hs
    ·exact ap0 value slice zv s σ0 H _ _ v u Q I rx ry ⟨a,vs,k,z,rfl,rfl,hq,hz,Res.same G q iz⟩ hs
 | _=>cases eg
theorem wk{m:M (D×D)}(h:E2 K X a b m)(hs:ae0 b):ER K X (.Subscript a b pos) (mOp gIx m):=ER.mk fun hk=>by
 obtain⟨ta,tb,ha,hb,h⟩:=h hk;exact PE.imp (aoy (ixd hk) ha hb hs) (afg h)
def TOp(K:Fg9)(m:M (Option Int)):TO:=fun σ H Q=>∃tg F ρ o ρ',Good K tg F H ρ σ/\m ρ=some (.ok o,ρ')/\∀H' F',Good K tg F' H' ρ' σ->Ext (Own ρ σ) (Own ρ' σ) F H F' H'->Q o H'
structure EO (K:Fg9) (X:Cx) (e:Option Expr) (m:M (Option Int)):Prop where
 go:X.K=K->PO X e (TOp K m)
instance {K:Fg9} {X:Cx} {e:Option Expr} {m:M (Option Int)}:CoeFun (EO K X e m) fun _=>X.K=K->PO X e (TOp K m):=⟨EO.go⟩
theorem PO.imp{eo:Option Expr}{t t':TO}(h:PO X eo t)(w:∀σ H Q,t' σ H Q->t σ H Q):PO X eo t':=fun zv s σ H Q I q=>h zv s σ H Q I (w σ H Q q)
theorem ik:EO K X none (ret none):=EO.mk fun _=>PO.imp al1 fun σ H Q z9=>by
 obtain⟨tg,F,ρ,o,ρ',G,em,q⟩:=z9;obtain⟨rfl,rfl⟩:=jc em;exact q H F G (Ext.refl _ _ _)
def asI:D->Option Int
 | .int i=>some i
 | _=>none
theorem aqp{d:D}{k:Int}(h:asI d=some k):d=.int k:=by
 cases d with
 | int b=>cases h;rfl
 | _=>cases h
def mq(m:M D):M (Option Int):=m.bind fun d=>lift ((asI d).map some)
theorem gn{m:M D}(h:EV K X e m):EO K X (some e) (mq m):=EO.mk fun hk=>PO.imp (al0 (h hk)) fun σ H Q z9=>by
 obtain⟨tg,F,ρ,o,ρ',G,em,q⟩:=z9;obtain⟨d,ρ1,e1,em⟩:=au em;obtain⟨e2,rfl⟩:=dg em;refine⟨tg,F,ρ,d,_,G,e1,fun v H' F' G' x r =>?_⟩
 cases d with
 | int i =>
  cases e2;cases r;exact⟨i,rfl,q H' F' G' x⟩
 | _=>cases e2
def cutD(l:List D)(lo hi:Option Int):List D:=(l.drop (HT.sIx l.length 0 lo)).take (HT.sIx l.length l.length hi - HT.sIx l.length 0 lo)
theorem aiu{F:Hp}{l:List D}{vs:List V}(h:IsL K F l vs)(lo hi:Option Int):IsL K F (cutD l lo hi) (cutV vs lo hi):=by
 unfold cutD cutV;rw[h.length];exact(h.drop _).take _
def gCut(d:D)(lo hi:Option Int):Option Rv:=match d with
 | .tup l=>some (.v (.tup (cutD l lo hi)))
 | .lst l=>some (.fr (cutD l lo hi))
 | .kst l=>some (.fr (cutD l lo hi))
 | _=>none
def rsOf(K:Fg9):V->Option Int->Option Int->Hp->VK->Prop:=fun x lo hi H Q=>∃tg F ρ σ d r,Good K tg F H ρ σ/\Bor K F H d x/\gCut d lo hi=some r/\Res K tg F H ρ σ r Q
theorem sld(hk:X.K=K):SlR X (rsOf K):=by
 intro zv s σ0 H x v vl vu lo hi sl Q I rx hs pl pu ⟨tg,F,ρ,σ,d,r,G,bd,eg,q⟩;subst hk;cases d with
 | tup l =>
  cases eg;obtain⟨a,vs,rfl,ea,hl⟩:=bd.tup
  by_cases hw:HT.sIx vs.length 0 lo=0/\HT.sIx vs.length vs.length hi=vs.length
  ·have ec:cutD l lo hi=l:=by
    unfold cutD;rw[hl.length,hw.1,hw.2,List.drop_zero,Nat.sub_zero,<-hl.length,List.take_length]
   rw[ec] at q;cases rx;obtain⟨its,r,ht,hz⟩:=I.tuple (SqT.of (G.sub _ _ ea));have hlen:its.toArray.size=vs.length:=by rw[List.size_toArray];exact r.length.symm
   refine⟨"tuple", _,PyProof.Rows.slot_tuple_getitem.lookup,ht.typeIs,?_⟩;exact xu ht hs pl pu (by rw[hlen];exact hw.1) (by rw[hlen];exact hw.2) ⟨.ref a,H,I,rfl,Res.same G q (.tup ea hl)⟩
  ·exact aoc zv s σ0 H _ v vl vu lo hi sl Q I rx hs pl pu ⟨a,vs,rfl,SqT.of (G.sub _ _ ea),hw,fun p hp=>Res.tup G q (aiu hl lo hi) hp⟩
 | lst l =>
  cases eg;obtain⟨a,vs,rfl,ea,hl⟩:=bd.lst G.sub;exact ahd zv s σ0 H _ v vl vu lo hi sl Q I rx hs pl pu ⟨a,vs,rfl,SqL.of ea,fun p hp=>Res.lst G q (aiu hl lo hi) hp⟩
 | kst l =>
  cases eg;obtain⟨a,vs,rfl,ea,hl⟩:=bd.kst;exact ahd zv s σ0 H _ v vl vu lo hi sl Q I rx hs pl pu ⟨a,vs,rfl,L2.Same.seq G.sub ea,fun p hp=>Res.lst G q (aiu hl lo hi) hp⟩
 | _=>cases eg
def nj(i:Nat)(ml mh:M (Option Int)):M Rv:=(dh i).bind fun _=>ml.bind fun lo=>mh.bind fun hi=>(dh i).bind fun d=>lift (gCut d lo hi)
theorem gq{i:Nat}{ml mh:M (Option Int)}{lo hi:Option Expr}(h:PE X a (tVar i))(hl:EO K X lo ml)(hh:EO K X hi mh):ER K X (.Subscript a (.Slice lo hi none p2) pos) (nj i ml mh):=ER.mk fun hk=>PE.imp (ajk (sld hk) h (hl hk) (hh hk)) fun σ H Q z9=>by
 obtain⟨tg,F,ρ,r,ρ',G,em,q⟩:=z9;obtain⟨d0,ρ0,e0,em⟩:=au em;obtain⟨o1,ρ2,e2,em⟩:=au em;obtain⟨o2,ρ3,e3,em⟩:=au em;obtain⟨d,ρ4,e1,em⟩:=au em;obtain⟨e4,rfl⟩:=dg em;obtain⟨rfl,v,hv,_⟩:=jx G e0;refine⟨v,hv,tg,F,ρ0,o1,ρ2,G,e2,fun H2 F2 G2 x2=>⟨tg,F2,ρ2,o2,_,G2,e3,fun H3 F3 G3 x3 =>?_⟩⟩
 obtain⟨rfl,v',hv',b'⟩:=jx G3 e1;rw[hv] at hv';cases hv';exact⟨tg,F3,_,σ,d,r,G3,b',e4,fun v' H4 F4 G4 x4 rr=>q v' H4 F4 G4 ((x2.trans x3).trans x4) (jm (x2.trans x3) rr)⟩
end
inductive Fl where
 | nx | ret (r:Rv) | brk | cont | exc (x:Exn)
abbrev Sd:=Ro->Option (Fl×Ro)
section
variable{K:Fg9}{X:Cx}{e a b c tgt:Expr}{es:List Expr}{pos p p2:Pos}{st:Stmt}{ss:List Stmt}
def FlOk(K:Fg9)(tg:Nat->Addr)(ρ:Ro)(σ:L2.St)(F H:Hp)(E:Ends)(fl:Fl)(ρ':Ro):Prop:=match fl with
 | .nx=>∀σ' H' F',Good K tg F' H' ρ' σ'->Ext (Own ρ σ) (Own ρ' σ') F H F' H'->E.nx σ' H'
 | .brk=>∀σ' H' F',Good K tg F' H' ρ' σ'->Ext (Own ρ σ) (Own ρ' σ') F H F' H'->E.bk σ' H'
 | .cont=>∀σ' H' F',Good K tg F' H' ρ' σ'->Ext (Own ρ σ) (Own ρ' σ') F H F' H'->E.ct σ' H'
 | .ret r=>∀v σ' H' F',Good K tg F' H' ρ' σ'->Ext (Own ρ σ) (Own ρ' σ') F H F' H'->relR K r v H (Own ρ σ) F' H' (Own ρ' σ')->E.rt v H'
 | .exc _=>False
def TSd(K:Fg9)(g:Sd):TS:=fun E σ H=>∃tg F ρ fl ρ',Good K tg F H ρ σ/\g ρ=some (fl,ρ')/\FlOk K tg ρ σ F H E fl ρ'
structure SV (K:Fg9) (X:Cx) (st:Stmt) (g:Sd):Prop where
 go:X.K=K->PS X st (TSd K g)
instance {K:Fg9} {X:Cx} {st:Stmt} {g:Sd}:CoeFun (SV K X st g) fun _=>X.K=K->PS X st (TSd K g):=⟨SV.go⟩
structure SVs (K:Fg9) (X:Cx) (ss:List Stmt) (g:Sd):Prop where
 go:X.K=K->PSs X ss (TSd K g)
instance {K:Fg9} {X:Cx} {ss:List Stmt} {g:Sd}:CoeFun (SVs K X ss g) fun _=>X.K=K->PSs X ss (TSd K g):=⟨SVs.go⟩
theorem PS.imp{t t':TS}(h:PS X st t)(w:∀E σ H,t' E σ H->t E σ H):PS X st t':=fun zv s σ H E I q=>h zv s σ H E I (w E σ H q)
theorem PSs.imp{t t':TS}(h:PSs X ss t)(w:∀E σ H,t' E σ H->t E σ H):PSs X ss t':=fun zv s σ H E I q=>h zv s σ H E I (w E σ H q)
theorem FlOk.back{tg:Nat->Addr}{ρ ρ1 ρ':Ro}{σ σ1:L2.St}{F H F1 H1:Hp}{E:Ends}{fl:Fl}(x:Ext (Own ρ σ) (Own ρ1 σ1) F H F1 H1)(h:FlOk K tg ρ σ F H E fl ρ'):FlOk K tg ρ1 σ1 F1 H1 E fl ρ':=by
 cases fl with
 | nx=>exact fun σ' H' F' G' x'=>h σ' H' F' G' (x.trans x')
 | brk=>exact fun σ' H' F' G' x'=>h σ' H' F' G' (x.trans x')
 | cont=>exact fun σ' H' F' G' x'=>h σ' H' F' G' (x.trans x')
 | ret r=>exact fun v σ' H' F' G' x' rr=>h v σ' H' F' G' (x.trans x') (jm x rr)
 | exc _=>exact h
def dNx:Sd:=fun ρ=>some (.nx,ρ)
noncomputable def dSeq(g k:Sd):Sd:=fun ρ=>match g ρ with
 | some (.nx,ρ1)=>k ρ1
 | r=>r
theorem jd:SVs K X [] dNx:=SVs.mk fun _=>PSs.imp alx fun E σ H z9=>by
 obtain⟨tg,F,ρ,fl,ρ',G,em,q⟩:=z9;cases em;exact q σ H F G (Ext.refl _ _ _)
theorem bu{g:Sd}(h:SV K X st g):SVs K X [st] g:=SVs.mk fun hk=>ahn (h hk)
theorem aq{g k:Sd}(h:SV K X st g)(t:SVs K X ss k):SVs K X (st::ss) (dSeq g k):=SVs.mk fun hk=>PSs.imp (aje (h hk) (t hk)) fun E σ H z9=>by
 obtain⟨tg,F,ρ,fl,ρ',G,em,q⟩:=z9;unfold dSeq at em;split at em
 ·rename_i ρ1 e1;exact⟨tg,F,ρ,.nx,ρ1,G,e1,fun σ' H' F' G' x=>⟨tg,F',ρ1,fl,ρ',G',em,q.back x⟩⟩
 ·rename_i hn;refine⟨tg,F,ρ,fl,ρ',G,em,?_⟩;cases fl with
  | nx=>exact absurd em (hn ρ')
  | brk=>exact q
  | cont=>exact q
  | ret r=>exact q
  | exc _=>exact q
noncomputable def dM{α:Type}(m:M α)(k:α->Sd):Sd:=fun ρ=>match m ρ with
 | some (.ok x,ρ1)=>k x ρ1
 | some (.exc x,ρ1)=>some (.exc x,ρ1)
 | none=>none
theorem aaj{α:Type}{m:M α}{k:α->Sd}{ρ ρ':Ro}{fl:Fl}{P:Prop}(h:dM m k ρ=some (fl,ρ'))(hx:FlOk K tg ρ0 σ0 F0 H0 E0' fl ρ')(go:∀x ρ1,m ρ=some (.ok x,ρ1)->k x ρ1=some (fl,ρ')->P):P:=by
 unfold dM at h;split at h
 ·exact go _ _ (by assumption) h
 ·cases h;exact(show False from hx).elim
 ·cases h
noncomputable def dRet(m:M Rv):Sd:=dM m fun r ρ=>some (.ret r,ρ)
theorem fu{m:M Rv}(h:ER K X e m):SV K X (.Return (some e) pos) (dRet m):=SV.mk fun hk=>PS.imp (aom (h hk)) fun E σ H ⟨tg,F,ρ,fl,ρ',G,em,q⟩=>aaj em q fun r ρ1 e1 em=>by
 cases em;exact⟨tg,F,ρ,r,_,G,e1,fun v H' F' G' x rr=>q v σ H' F' G' x rr⟩
noncomputable def dIf(m:M Bool)(g k:Sd):Sd:=dM m fun z=>if z=true then g else k
theorem uh{m:M Bool}{g k:Sd}{ss':List Stmt}(h:ET K X c m)(h1:SVs K X ss g)(h2:SVs K X ss' k):SV K X (.If c ss ss' pos) (dIf m g k):=SV.mk fun hk=>PS.imp (asd (h hk) (h1 hk) (h2 hk)) fun E σ H ⟨tg,F,ρ,fl,ρ',G,em,q⟩=>aaj em q fun z ρ1 e1 em=>by
 refine⟨tg,F,ρ,z,ρ1,G,e1,fun H' F' G' x =>?_⟩
 cases z with
 | true=>exact iteT ⟨tg,F',ρ1,fl,ρ',G',em,q.back x⟩
 | false=>exact iteF ⟨tg,F',ρ1,fl,ρ',G',em,q.back x⟩
def agv{α:Type}(m:M α):Sd:=dM m fun _ ρ=>some (.nx,ρ)
theorem zj{m:M Rv}(h:ER K X e m)(hs:swapsWith e none pos.line X.env=pure false:=by rfl):SV K X (.Expr e pos) (agv m):=SV.mk fun hk=>PS.imp (alz (h hk) hs) fun E σ H ⟨tg,F,ρ,fl,ρ',G,em,q⟩=>aaj em q fun r ρ1 e1 em=>by
 cases em;exact⟨tg,F,ρ,r,_,G,e1,fun v H' F' G' x rr=>q σ H' F' G' x⟩
section
variable{tg:Nat->Addr}{F H:Hp}{ρ:Ro}{σ:L2.St}
theorem aem{i:Nat}{s:Sl}{v:V}{b:Addr}(hl:ρ.length=σ.length)(h:Own (List.set ρ i s) (List.set σ i (some v)) b):Own ρ σ b∨((∃t l,s=.own t l)/\v=.ref b):=by
 obtain⟨j,⟨t,l,e⟩,q⟩:=h;rw[List.getElem?_set] at e q
 by_cases hj:i=j
 ·subst hj;rw[if_pos rfl] at e q;split at e
  ·rename_i hi;rw[if_pos (by rw[<-hl];exact hi)] at q
   cases e;cases q;exact .inr ⟨⟨t,l,rfl⟩,rfl⟩
  ·cases e
 ·rw[if_neg hj] at e q;exact .inl ⟨j,⟨t,l,e⟩,q⟩
theorem Good.put(G:Good K tg F H ρ σ){s:Sl}{v:V}(i:Nat)(h:SlOk K tg F H s (some v))(n:∀t l a,s=.own t l->v=.ref a->¬Own ρ σ a):Good K tg F H (List.set ρ i s) (List.set σ i (some v)) where
 sub:=G.sub
 len:=by rw[List.length_set,List.length_set];exact G.len
 sl:=fun j s' o e q=>by
  rw[List.getElem?_set] at e q
  by_cases hj:i=j
  ·subst hj;rw[if_pos rfl] at e q;split at e
   ·rename_i hi;rw[if_pos (by rw[<-G.len];exact hi)] at q
    cases e;cases q;exact h
   ·cases e
  ·rw[if_neg hj] at e q;exact G.sl j s' o e q
 inj:=fun j k a ⟨⟨t,l,e⟩,q⟩ ⟨⟨t',l',e'⟩,q'⟩=>by
  rw[List.getElem?_set] at e q e' q'
  by_cases hj:i=j
  ·subst hj;rw[if_pos rfl] at e q
   by_cases hk:i=k
   ·exact hk
   ·rw[if_neg hk] at e' q';split at e
    ·rename_i hi;rw[if_pos (by rw[<-G.len];exact hi)] at q
     cases e;cases q;exact absurd ⟨k,⟨t',l',e'⟩,q'⟩ (n t l a rfl rfl)
    ·cases e
  ·rw[if_neg hj] at e q
   by_cases hk:i=k
   ·subst hk;rw[if_pos rfl] at e' q';split at e'
    ·rename_i hi;rw[if_pos (by rw[<-G.len];exact hi)] at q'
     cases e';cases q';exact absurd ⟨j,⟨t,l,e⟩,q⟩ (n t' l' a rfl rfl)
    ·cases e'
   ·rw[if_neg hk] at e' q';exact G.inj j k a ⟨⟨t,l,e⟩,q⟩ ⟨⟨t',l',e'⟩,q'⟩
def Rv.sl:Rv->Sl
 | .v d=>.val d
 | .fr l=>.own none l
 | .tf _ _=>.emp
theorem Good.store{F0 H0:Hp}{O:Addr->Prop}(G:Good K tg F H ρ σ)(x:Ext O (Own ρ σ) F0 H0 F H){r:Rv}{v:V}(i:Nat)(h:relR K r v H0 O F H (Own ρ σ)) :
  Good K tg F H (List.set ρ i r.sl) (List.set σ i (some v))/\Ext O (Own (List.set ρ i r.sl) (List.set σ i (some v))) F0 H0 F H:=by
 cases r with
 | v d =>
  refine⟨G.put i ⟨v,rfl,h⟩ (fun t l a e=>by cases e),x.sub,x.new,x.keep,fun b w =>?_,x.there⟩
  rcases aem G.len w with w | ⟨⟨t,l,e⟩,_⟩
  ·exact x.own b w
  ·cases e
 | fr l =>
  obtain⟨a,vs,rfl,ha,hf,hh,hl,hn⟩:=h;refine⟨G.put i ⟨a,vs,rfl,hf,hh,hl,fun k e=>by cases e⟩ (fun t l' b _ e2=>by cases e2;exact hn),x.sub,x.new,x.keep,fun b w =>?_,x.there⟩
  rcases aem G.len w with w | ⟨_,e⟩
  ·exact x.own b w
  ·cases e;exact ha.symm
 | tf d l =>
  refine⟨G.put i trivial (fun t l a e=>by cases e),x.sub,x.new,x.keep,fun b w =>?_,x.there⟩
  rcases aem G.len w with w | ⟨⟨t,l,e⟩,_⟩
  ·exact x.own b w
  ·cases e
end
def dSet(i:Nat)(m:M Rv):Sd:=dM m fun r ρ=>some (.nx,List.set ρ i r.sl)
theorem cg{i:Nat}{x:Str}{m:M Rv}(hN:X.N.Nodup)(hi:X.N[i]? = some x)(hx:Loc X.env.scope x)(h:ER K X e m)(hs:swapsWith e (some (.Name x p)) pos.line X.env=pure false:=by rfl)(hf:X.fn x=true∨X.env.scope.names.lookup x=some .local:=by first | exact .inl rfl | exact .inr rfl | assumption) :
  SV K X (.Assign [.Name x p] e pos) (dSet i m):=SV.mk fun hk=>PS.imp (aol hN hi hx (h hk) hs hf) fun E σ H ⟨tg,F,ρ,fl,ρ',G,em,q⟩=>aaj em q fun r ρ1 e1 em=>by
 cases em;refine⟨tg,F,ρ,r,ρ1,G,e1,fun v H' F' G' x rr =>?_⟩
 obtain⟨G2,x2⟩:=G'.store x i rr;exact q _ H' F' G2 x2
def TGd(K:Fg9)(b:D->Ro->Option Ro):TG:=fun v σ H Q=>∃tg F ρ d ρ',Good K tg F H ρ σ/\Is K F d v/\b d ρ=some ρ'/\∀σ' H' F',Good K tg F' H' ρ' σ'->Ext (Own ρ σ) (Own ρ' σ') F H F' H'->Q σ' H'
structure GV (K:Fg9) (X:Cx) (e:Expr) (b:D->Ro->Option Ro):Prop where
 go:X.K=K->PG X e (TGd K b)
instance {K:Fg9} {X:Cx} {e:Expr} {b:D->Ro->Option Ro}:CoeFun (GV K X e b) fun _=>X.K=K->PG X e (TGd K b):=⟨GV.go⟩
theorem PG.imp{t t':TG}(h:PG X e t)(w:∀v σ H Q,t' v σ H Q->t v σ H Q):PG X e t':=fun zv s σ H v u Q I r q=>h zv s σ H v u Q I r (w v σ H Q q)
def gf(i:Nat):D->Ro->Option Ro:=fun d ρ=>some (List.set ρ i (.val d))
theorem Good.storeV{tg:Nat->Addr}{F H:Hp}{ρ:Ro}{σ:L2.St}(G:Good K tg F H ρ σ){d:D}{v:V}(i:Nat)(h:Is K F d v):Good K tg F H (List.set ρ i (.val d)) (List.set σ i (some v))/\Ext (Own ρ σ) (Own (List.set ρ i (.val d)) (List.set σ i (some v))) F H F H :=
 G.store (r:=.v d) (Ext.refl _ _ _) i h
theorem du{i:Nat}{x:Str}(hN:X.N.Nodup)(hi:X.N[i]? = some x)(hx:Loc X.env.scope x)(hf:X.fn x=true∨X.env.scope.names.lookup x=some .local:=by first | exact .inl rfl | exact .inr rfl | assumption):GV K X (.Name x pos) (gf i):=GV.mk fun _=>PG.imp (al6 hN hi hx hf) fun v σ H Q z9=>by
 obtain⟨tg,F,ρ,d,ρ',G,h,em,q⟩:=z9;cases em;obtain⟨G2,x2⟩:=G.storeV i h;exact q _ H F G2 x2
def TGsd(K:Fg9)(b:List D->Ro->Option Ro):TGs:=fun vs σ H Q=>∃tg F ρ ds ρ',Good K tg F H ρ σ/\IsL K F ds vs/\b ds ρ=some ρ'/\∀σ' H' F',Good K tg F' H' ρ' σ'->Ext (Own ρ σ) (Own ρ' σ') F H F' H'->Q σ' H'
structure GVs (K:Fg9) (X:Cx) (es:List Expr) (b:List D->Ro->Option Ro):Prop where
 go:X.K=K->PGs X es (TGsd K b)
instance {K:Fg9} {X:Cx} {es:List Expr} {b:List D->Ro->Option Ro}:CoeFun (GVs K X es b) fun _=>X.K=K->PGs X es (TGsd K b):=⟨GVs.go⟩
theorem PGs.imp{t t':TGs}(h:PGs X es t)(w:∀v σ H Q,t' v σ H Q->t v σ H Q):PGs X es t':=fun zv s σ H v u Q I r q=>h zv s σ H v u Q I r (w v σ H Q q)
def bNil:List D->Ro->Option Ro:=fun ds ρ=>match ds with
 | []=>some ρ
 | _=>none
def wu(b:D->Ro->Option Ro)(bs:List D->Ro->Option Ro):List D->Ro->Option Ro:=fun ds ρ=>match ds with
 | d::r=>(b d ρ).bind (bs r)
 | _=>none
theorem abd:GVs K X [] bNil:=GVs.mk fun _=>PGs.imp al5 fun vs σ H Q z9=>by
 obtain⟨tg,F,ρ,ds,ρ',G,h,em,q⟩:=z9;cases ds with
 | nil=>cases em;cases h;exact⟨rfl,q σ H F G (Ext.refl _ _ _)⟩
 | cons _ _=>cases em
theorem j9{b:D->Ro->Option Ro}{bs:List D->Ro->Option Ro}(h1:GV K X e b)(h2:GVs K X es bs)(hs:(assignEach (e::es) X.env).map (·.2)=assign e X.env::(assignEach es X.env).map (·.2):=by rfl):GVs K X (e::es) (wu b bs):=GVs.mk fun hk=>PGs.imp (aji (h1 hk) (h2 hk) hs) fun vs σ H Q z9=>by
 obtain⟨tg,F,ρ,ds,ρ',G,h,em,q⟩:=z9;cases h with
 | nil=>cases em
 | @cons d v ds vs hd ht =>
  have em:(b d ρ).bind (bs ds)=some ρ':=em;cases e1:b d ρ with
  | none=>rw[e1] at em;cases em
  | some ρ1 =>
   rw[e1] at em;exact⟨v,vs,rfl,tg,F,ρ,d,ρ1,G,hd,e1,fun σ' H' F' G' x=>⟨tg,F',ρ1,ds,ρ',G',ht.mono x.sub,em,fun σ2 H2 F2 G2 x2=>q σ2 H2 F2 G2 (x.trans x2)⟩⟩
def bTup(n:Nat)(bs:List D->Ro->Option Ro):D->Ro->Option Ro:=fun d ρ=>match d with
 | .tup l=>if l.length=n then bs l ρ else none
 | _=>none
theorem adz{k n:Nat}{bs:List D->Ro->Option Ro}(hc:X.calm=true)(h:GVs K X es bs)(hn:(assignEach es X.env).length=n:=by rfl)(hst:(assignEach es X.env).findIdx? (·.1)=none:=by rfl):GV K X (.Tuple es k pos) (bTup n bs):=GV.mk fun hk=>PG.imp (aoo hc (h hk) hn hst) fun v σ H Q z9=>by
 obtain⟨tg,F,ρ,d,ρ',G,hd,em,q⟩:=z9;cases hd with
 | @tup a vs ds e hl =>
  have em:(if ds.length=n then bs ds ρ else none)=some ρ':=em
  split at em
  ·rename_i hz;exact⟨a,vs,rfl,SqT.of (G.sub _ _ e),by rw[<-hl.length];exact hz,tg,F,ρ,ds,ρ',G,hl,em,q⟩
  ·cases em
 | _=>cases em
def dAsg(m:M D)(b:D->Ro->Option Ro):Sd:=dM m fun d ρ=>(b d ρ).map fun ρ'=>(.nx,ρ')
theorem aoa{m:M D}{b:D->Ro->Option Ro}(h:EV K X e m)(hg:GV K X tgt b)(hs:swapsWithSole [tgt] e pos.line X.env=pure false:=by rfl)(hw:swappedStores [tgt] e X.env=pure none:=by rfl)
  (h1:(assignEach [tgt] X.env).map (·.2)=[assign tgt X.env]:=by rfl):SV K X (.Assign [tgt] e pos) (dAsg m b):=SV.mk fun hk=>PS.imp (ak1 (h hk) (hg hk) hs hw h1) fun E σ H ⟨tg,F,ρ,fl,ρ',G,em,q⟩=>aaj em q fun d ρ1 e1 em=>by
 refine⟨tg,F,ρ,d,ρ1,G,e1,fun v H' F' G' x r =>?_⟩
 cases e2:b d ρ1 with
 | none=>rw[e2] at em;cases em
 | some ρ2 =>
  rw[e2] at em;cases em;exact⟨tg,F',ρ1,d,_,G',r,e2,fun σ2 H2 F2 G2 x2=>q σ2 H2 F2 G2 (x.trans x2)⟩
theorem Good.mut{tg:Nat->Addr}{F H:Hp}{ρ:Ro}{σ:L2.St}(G:Good K tg F H ρ σ){i:Nat}{t:Option Nat}{l l':List D}{a:Addr}{ys:List V}(e:(ρ:List Sl)[i]? = some (.own t l))(q:σ[i]? = some (some (.ref a)))(h:IsL K F l' ys) :
  Good K tg F (upd H a (.lst ys)) (List.set ρ i (.own t l')) σ/\Ext (Own ρ σ) (Own (List.set ρ i (.own t l')) σ) F H F (upd H a (.lst ys)):=by
 obtain⟨a',vs,e1,hf,hh,hl,ht⟩:=G.sl i _ _ e q;cases e1;have ow:∀j b,Owns (List.set ρ i (.own t l')) σ j b->Owns ρ σ j b:=fun j b ⟨⟨t2,l2,e2⟩,q2⟩=>by
  rw[List.getElem?_set] at e2
  by_cases hj:i=j
  ·subst hj;exact⟨⟨t,l,e⟩,q2⟩
  ·rw[if_neg hj] at e2;exact⟨⟨t2,l2,e2⟩,q2⟩
 have me:Own ρ σ a:=⟨i,⟨t,l,e⟩,q⟩;refine⟨⟨fun b o z =>?_,by rw[List.length_set];exact G.len,fun j s o e2 q2 =>?_,fun j k b w1 w2=>G.inj j k b (ow _ _ w1) (ow _ _ w2)⟩,Same.refl F,fun _ _ z=>.inl z,fun b o z n =>?_,fun b ⟨j,w⟩=>.inl ⟨j,ow j b w⟩,fun b z =>?_⟩
 ·have hb:b≠a:=fun z2=>by
   subst z2;rw[hf] at z;cases z
  rw[bj hb];exact G.sub b o z
 ·rw[List.getElem?_set] at e2
  by_cases hj:i=j
  ·subst hj;rw[if_pos rfl] at e2;split at e2
   ·cases e2;rw[q] at q2;cases q2;exact⟨a,ys,rfl,hf,cj,h,ht⟩
   ·cases e2
  ·rw[if_neg hj] at e2;have z:=G.sl j s o e2 q2;cases s with
   | emp=>trivial
   | val d=>exact z
   | box c fs =>
    obtain⟨b,C,dx,fvs,e1,e2,e3,e4⟩:=z;have hb:b≠a:=fun z2=>by
     subst z2;rw[e3] at hh;cases hh
    exact⟨b,C,dx,fvs,e1,e2,by rw[bj hb];exact e3,e4⟩
   | own t2 l2 =>
    obtain⟨b,ws,e3,hf3,hh3,hl3,ht3⟩:=z;have hb:b≠a:=fun z2=>by
     subst z2;exact hj (G.inj i j b ⟨⟨t,l,e⟩,q⟩ ⟨⟨t2,l2,e2⟩,by rw[q2,e3]⟩)
    exact⟨b,ws,e3,hf3,by rw[bj hb];exact hh3,hl3,ht3⟩
 ·have hb:b≠a:=fun z2=>n (z2▸me)
  rw[bj hb];exact z
 ·by_cases hb:b=a
  ·subst hb;rw[cj] at z;cases z
  ·rw[bj hb] at z;exact z
def mOwn(i:Nat):M (List D):=fun ρ=>match ρ[i]? with
 | some (.own _ l)=>some (.ok l,ρ)
 | _=>none
theorem afe{tg:Nat->Addr}{F H:Hp}{ρ ρ':Ro}{σ:L2.St}(G:Good K tg F H ρ σ){i:Nat}{l:List D}(em:mOwn i ρ=some (.ok l,ρ')):ρ'=ρ/\∃t a xs,(ρ:List Sl)[i]? = some (.own t l)/\σ[i]? = some (some (.ref a))/\H a=some (.lst xs)/\IsL K F l xs:=by
 unfold mOwn at em;split at em
 ·rename_i t l' e';cases em;obtain⟨o,ho,a,vs,rfl,hf,hh,hl,_⟩:=G.at e';exact⟨rfl,t,a,vs,e',ho,hh,hl⟩
 ·cases em
def aa6(i:Nat)(l':List D):M Unit:=fun ρ=>match ρ[i]? with
 | some (.own t _)=>some (.ok (),List.set ρ i (.own t l'))
 | _=>none
def mMut(i:Nat)(g:List D->List D->Option (D×List D))(ms:M (List D)):M D:=(mOwn i).bind fun _=>ms.bind fun ds=>(mOwn i).bind fun l=>(lift (g l ds)).bind fun r=>(aa6 i r.2).bind fun _=>ret r.1
def MutD(K:Fg9)(r:V->List V->Hp->VK->Prop)(g:List D->List D->Option (D×List D)):Prop :=
 ∀(F H:Hp) (a:Addr) (xs vs:List V) (l ds:List D) (d:D) (l':List D) (Q:VK),Same F H->H a=some (.lst xs)->xs.length<=capS->IsL K F l xs->IsL K F ds vs->g l ds=some (d,l')->(∀v ys,Is K F d v->IsL K F l' ys->Q v (upd H a (.lst ys)))->r (.ref a) vs H Q
theorem ah5{tg:Nat->Addr}{F H:Hp}{ρ ρ2:Ro}{σ:L2.St}(G:Good K tg F H ρ σ){i:Nat}{l':List D}{u:Unit}{a:Addr}{ys:List V}(e:aa6 i l' ρ=some (.ok u,ρ2))(q:σ[i]? = some (some (.ref a)))(h:IsL K F l' ys) :
  Good K tg F (upd H a (.lst ys)) ρ2 σ/\Ext (Own ρ σ) (Own ρ2 σ) F H F (upd H a (.lst ys)):=by
 unfold aa6 at e;split at e
 ·rename_i t l e';cases e;exact G.mut e' q h
 ·cases e
theorem acb{i:Nat}{name:Str}{id:String}{r:V->List V->Hp->VK->Prop}{g:List D->List D->Option (D×List D)}{ms:M (List D)}{apos cpos:Pos}(hr:MutD K r g)(slot:Slot "list" name id)(hty:typeOf (.builtin id)=pure (.type "method_descriptor"))(hm:MtR X id r)(ho:PE X a (tVar i))(ha:ED K X (e::es) ms)
  (hbase:attributeBase a name X.env (eval a X.env)=eval a X.env:=by rfl)
  (hfew:((backTo cpos (starEach (e::es) X.env)).all (fun x => !x.1)&&(backToKw cpos (keywordEach [] X.env)).all (fun x=>x.1.isSome)
   && decide ((e::es).length+([]:List Keyword).length+(if ([]:List Keyword).isEmpty then 0 else 1) < 30))=true:=by rfl)
  (hline:(apos.endLine==cpos.line)=true:=by rfl) (hs:starEach (e::es) X.env=(false,eval e X.env)::starEach es X.env:=by rfl) (hplain:(backTo cpos (starEach es X.env)).any (·.1)=false:=by rfl) :
  EV K X (.Call (.Attribute a name apos) (e::es) [] cpos) (mMut i g ms):=EV.mk fun hk=>by
 intro zv s σ H Q I ⟨tg,F,ρ,d,ρ',G,em,q⟩;obtain⟨l0,ρ0,e0,em1⟩:=au em;obtain⟨ds,ρ1,e1,em2⟩:=au em1;obtain⟨l,ρ2,e2,em3⟩:=au em2;obtain⟨x,ρ3,e3,em4⟩:=au em3;obtain⟨u,ρ4,e4,em5⟩:=au em4;obtain⟨rfl,rfl⟩:=jc em5;obtain⟨eg,rfl⟩:=dg e3;obtain⟨rfl,t0,b,xs0,es0,hv,hh0,hl0⟩:=afe G e0;refine ahw (r:=fun x vs H Q=>(∀b xs,x=.ref b->H b=some (.lst xs)->xs.length<=capS)->r x vs H Q) PySem.F.plainAttrs_list slot hty (fun zv s σ H x xs v us Q I rx rv h=>hm zv s σ H x xs v us Q I rx rv (h fun b xs _ hb =>?_)) ho (ha hk) hbase hfew hline hs hplain zv s σ H Q I ?_
 ·obtain⟨z,_⟩:=I.lstM hb;rw[sizeLine_eq] at z;exact z
 refine⟨_,hv,.inl ⟨rfl,_,SqL.of hh0⟩,tg,F,ρ0,ds,ρ1,G,e1,fun vs H1 F1 G1 x1 r1 cap =>?_⟩
 obtain⟨rfl,t,a',xs,es',hv',hh,hl⟩:=afe G1 e2;rw[hv] at hv';cases hv';refine hr F1 H1 _ xs vs l ds x.1 x.2 Q G1.sub hh (cap _ _ rfl hh) hl r1 eg fun w ys iw il =>?_
 obtain⟨G2,x2⟩:=ah5 G1 e4 hv il;exact q w _ F1 G2 (x1.trans x2) iw
def zy(l ds:List D):Option (D×List D):=match ds with
 | [d]=>if l.length < capS then some (.non,l++[d]) else none
 | _=>none
theorem lz:MutD K ahm zy:=by
 intro F H a xs vs l ds d l' Q g hh hc hl hd eg q
 match ds,eg with
 | [d1],eg =>
  have eg:(if l.length < capS then some (D.non,l++[d1]) else none)=some (d,l'):=eg
  split at eg
  ·rename_i hz;cases eg;cases hd with
   | cons h t =>
    cases t;exact⟨a,xs,_,rfl,rfl,hh,by rw[sizeLine_eq,<-hl.length];exact hz,q _ _ .non (hl.append (.cons h .nil))⟩
  ·cases eg
def dSub(i:Nat)(mi m:M D):Sd:=dM m fun d=>dM (mOwn i) fun _=>dM mi fun k=>dM (mOwn i) fun l=>dM (lift ((asI k).bind (ixN l.length))) fun j=>dM (aa6 i (l.set j d)) fun _=>dNx
theorem aky{i:Nat}{mi m:M D}(h:EV K X e m)(ho:PE X a (tVar i))(hi:EV K X b mi)(hs:swapsWithSole [.Subscript a b p] e pos.line X.env=pure false:=by rfl)(hw:swappedStores [.Subscript a b p] e X.env=pure none:=by rfl)
  (h1:(assignEach [.Subscript a b p] X.env).map (·.2)=[assign (.Subscript a b p) X.env]:=by rfl)
  (ha:∀v,assign (.Subscript a b p) X.env v=(do
   let ov <-holding [v] (eval a X.env)
   let iv <-holding [v,ov] (eval b X.env)
   standAt p
   holding [v,ov,iv] (setItem ov iv v)
   release [v,ov,iv] []):=by intro _;rfl):SV K X (.Assign [.Subscript a b p] e pos) (dSub i mi m):=SV.mk fun hk=>PS.imp (ak1 (h hk) (aop ho (hi hk) set_list ha) hs hw h1) fun E σ H ⟨tg,F,ρ,fl,ρ',G,em,q⟩ =>
 aaj em q fun d ρ1 e1 em=>aaj em q fun l0 ρ0 e0 em=>aaj em q fun k ρ2 e2 em=>aaj em q fun l ρ3 e3 em=>aaj em q fun j ρ4 e4 em=>aaj em q fun u ρ5 e5 em=>by
 cases em;obtain⟨e6,rfl⟩:=dg e4;refine⟨tg,F,ρ,d,ρ1,G,e1,fun v H1 F1 G1 x1 r1 =>?_⟩
 obtain⟨rfl,t0,a0,xs0,es0,hv,hh0,hl0⟩:=afe G1 e0;refine⟨_,hv,tg,F1,_,k,ρ2,G1,e2,fun w H2 F2 G2 x2 r2 =>?_⟩
 obtain⟨rfl,t,a1,xs,es1,hv',hh,hl⟩:=afe G2 e3;rw[hv] at hv';cases hv';cases ek:asI k with
 | none=>rw[ek] at e6;cases e6
 | some n =>
  rw[ek] at e6;obtain rfl:=aqp ek;cases r2;obtain⟨G3,x3⟩:=ah5 G2 e5 hv (hl.set (r1.mono x2.sub) j);exact⟨_,xs,n,j,rfl,rfl,hh,by rw[<-hl.length];exact e6,q _ _ F2 G3 ((x1.trans x2).trans x3)⟩
end
section
variable{K:Fg9}{X:Cx}{e a b c tgt iter elt:Expr}{es:List Expr}{pos p p2:Pos}{st:Stmt}{ss:List Stmt}
theorem _root_.Mn.ItOf.imp{J:It}{xs:List V}{S S':Hp->Prop}(Z:ItOf J xs S)(h:∀H,S' H->S H):ItOf J xs S':=⟨fun i H q=>Z.go i H (h H q),fun i H x H' q=>Z.yld i H x H' (h H q),fun i H q=>Z.stop i H (h H q)⟩
def Alt(K:Fg9)(F:Hp)(d:D)(x:V)(H H':Hp):Prop:=(H'=H/\Is K F d x)∨∃q vs ds,H q=none/\x=.ref q/\H'=upd H q (.tup vs)/\d=.tup ds/\IsL K F ds vs
structure ItD (K:Fg9) (J:It) (l:List D) (F:Hp):Prop where
 go:∀i H,Same F H->i < l.length->J.go i H
 yld:∀i H x H' d,Same F H->J.yld i H x H'->l[i]? = some d->Alt K F d x H H'
 stop:∀H,Same F H->J.stop l.length H
theorem ItD.of{J:It}{l:List D}{vs:List V}{F:Hp}(il:IsL K F l vs)(Z:ItOf J vs fun H2=>Same F H2):ItD K J l F where
 go:=fun i H s hi=>Z.go i H s (by rw[<-il.length];exact hi)
 yld:=fun i H x H' d s y hd=>by
  obtain⟨v,hv,iv⟩:=il.get hd;obtain⟨e,z⟩:=Z.yld i H x H' s y;have:=z (List.getElem?_eq_some_iff.mp hv).1;rw[hv] at this;cases this;exact .inl ⟨e,iv⟩
 stop:=fun H s=>Z.stop _ H s (by rw[<-il.length];exact Nat.le_refl _)
theorem ac7{tg:Nat->Addr}{O:Addr->Prop}{F H F1 F2 H2 H3:Hp}{ρ2:Ro}{σ2:L2.St}{d:D}{x:V}(G2:Good K tg F2 H2 ρ2 σ2)(x2:Ext O (Own ρ2 σ2) F H F2 H2)(s2:Same F1 F2)(a:Alt K F1 d x H2 H3) :
  ∃F3,Good K tg F3 H3 ρ2 σ2/\Ext O (Own ρ2 σ2) F H F3 H3/\Same F1 F3/\Is K F3 d x/\Ext (Own ρ2 σ2) (Own ρ2 σ2) F2 H2 F3 H3:=by
 rcases a with⟨rfl,id⟩ | ⟨q,vs,ds,hq,rfl,rfl,rfl,il⟩
 ·exact⟨F2,G2,x2,s2,id.mono s2,Ext.refl _ _ _⟩
 ·have z:=G2.newX hq (.tup vs);exact⟨_,G2.new hq _,x2.trans z,s2.trans z.sub,.tup cj (il.mono (s2.trans z.sub)),z⟩
theorem aim{J:It}{l:List D}{F:Hp}(Z:ItD K J l F){g:TG}{tb:TS}{D':Ends}{σ:L2.St}{H:Hp}(Pv:Nat->L2.St->Hp->Prop)(h0:Pv 0 σ H)(hl:∀i σ H,i<=l.length->Pv i σ H->Same F H)
  (hs:∀i d x σ H H',l[i]? = some d->Pv i σ H->Alt K F d x H H'->g x σ H' fun σ2 H2=>tb { D' with nx:=Pv (i+1),ct:=Pv (i+1),bk:=D'.nx } σ2 H2) (hd:∀σ H,Pv l.length σ H->D'.nx σ H) :
  ∃W:Nat->Nat->L2.St->Hp->Prop,(∃m,W 0 m σ H)/\∀i m σ H,W i m σ H ->
   (J.stop i H/\D'.nx σ H)∨(J.go i H/\∃N:L2.St->Hp->Prop,(∀σ' H',N σ' H'->∃m',m' < m/\W (i+1) m' σ' H')/\∀x H',J.yld i H x H'->g x σ H' fun σ2 H2=>tb { D' with nx:=N,ct:=N,bk:=D'.nx } σ2 H2):=by
 refine⟨fun i m σ H=>m=l.length - i/\i<=l.length/\Pv i σ H,⟨l.length,by simp,Nat.zero_le _,h0⟩,?_⟩
 rintro i m σ H ⟨rfl,hi,p⟩
 have q:=hl i σ H hi p
 by_cases hlt:i < l.length
 ·exact .inr ⟨Z.go i H q hlt,Pv (i+1),fun σ' H' p'=>⟨l.length - (i+1),by omega,rfl,hlt,p'⟩,fun x H' y=>hs i _ x σ H H' (List.getElem?_eq_getElem hlt) p (Z.yld i H x H' _ q y (List.getElem?_eq_getElem hlt))⟩
 ·have e:i=l.length:=by omega
  subst e;exact .inl ⟨Z.stop H q,hd σ H p⟩
theorem ako{J:It}{l:List D}{F:Hp}(Z:ItD K J l F){d:Addr}{g:TG}{ti:TT}{te:TE}{Q:VK}{σ0:L2.St}{H1:Hp}(Pv:Nat->List V->L2.St->Hp->Prop)(h0:Pv 0 [] σ0 (upd H1 d (.lst [])))
  (hl:∀i ys σ H,i<=l.length->Pv i ys σ H->Same F H/\H d=some (.lst ys))
  (hs:∀i e x ys σ H H' (M:List V->L2.St->Hp->Prop),l[i]? = some e->Pv i ys σ H->Alt K F e x H H'->(∀ys' σ' H',Pv (i+1) ys' σ' H'->M ys' σ' H') ->
   g x σ H' fun σ4 H4=>ti σ4 H4 fun b H5=>if b=true then te σ4 H5 fun y H6=>H6 d=some (.lst ys)/\ys.length < sizeLine/\M (ys++[y]) σ4 (upd H6 d (.lst (ys++[y]))) else M ys σ4 H5)
  (hd:∀ys σ H,Pv l.length ys σ H->Q (.ref d) H):aqr J g ti te Q d σ0 H1:=by
 refine⟨fun i m ys σ H=>m=l.length - i/\i<=l.length/\Pv i ys σ H,⟨l.length,by simp,Nat.zero_le _,h0⟩,?_⟩
 rintro i m ys σ H ⟨rfl,hi,p⟩
 obtain⟨q,e⟩:=hl i ys σ H hi p;refine⟨e,?_⟩
 by_cases hlt:i < l.length
 ·exact .inr ⟨Z.go i H q hlt,fun x H' y=>hs i _ x ys σ H H' (fun ys' σ' H'=>∃m',m' < l.length - i/\(m'=l.length - (i+1)/\i+1<=l.length/\Pv (i+1) ys' σ' H')) (List.getElem?_eq_getElem hlt) p (Z.yld i H x H' _ q y (List.getElem?_eq_getElem hlt)) fun ys' σ' H' p'=>⟨l.length - (i+1),by omega,rfl,hlt,p'⟩⟩
 ·have e:i=l.length:=by omega
  subst e;exact .inl ⟨Z.stop H q,hd ys σ H p⟩
def TIt(K:Fg9)(m:M (List D)):TI:=fun σ H R=>∃tg F ρ l ρ',Good K tg F H ρ σ/\m ρ=some (.ok l,ρ')/\∀J H' F',Good K tg F' H' ρ' σ->Ext (Own ρ σ) (Own ρ' σ) F H F' H'->ItD K J l F'->R J H'
structure IT (K:Fg9) (X:Cx) (tgt iter:Expr) (m:M (List D)):Prop where
 go:X.K=K->PI X tgt iter (TIt K m)
instance {K:Fg9} {X:Cx} {tgt iter:Expr} {m:M (List D)}:CoeFun (IT K X tgt iter m) fun _=>X.K=K->PI X tgt iter (TIt K m):=⟨IT.go⟩
def uw(m:M D):M (List D):=m.bind fun d=>lift (itemsD d)
theorem uy{m:M D}(h:EV K X iter m):IT K X tgt iter (uw m):=IT.mk fun hk=>by
 intro zv s σ H R I ⟨tg,F,ρ,l,ρ',G,em,q⟩;obtain⟨d,ρ1,e1,em⟩:=au em;obtain⟨e2,rfl⟩:=dg em;have h:=h hk;subst hk;cases d with
 | tup k =>
  cases e2;refine aon h zv s σ H R I ⟨tg,F,ρ,_,_,G,e1,fun v H' F' G' x r =>?_⟩
  cases r with
  | @tup a vs _ e hl=>exact⟨a,rfl,⟨vs,SqT.of (G'.sub _ _ e)⟩,q _ H' F' G' x (.of hl (aj6.imp fun H2 g=>SqT.of (g _ _ e)))⟩
 | lst k =>
  cases e2;refine aht h zv s σ H R I ⟨tg,F,ρ,_,_,G,e1,fun v H' F' G' x r =>?_⟩
  cases r with
  | @lst a vs _ e hl=>exact⟨a,rfl,⟨vs,SqL.of (G'.sub _ _ e)⟩,q _ H' F' G' x (.of hl (afq.imp fun H2 g=>SqL.of (g _ _ e)))⟩
 | kst k =>
  cases e2;refine aht h zv s σ H R I ⟨tg,F,ρ,_,_,G,e1,fun v H' F' G' x r =>?_⟩
  cases r with
  | @kst a vs _ e hl=>exact⟨a,rfl,⟨vs,L2.Same.seq G'.sub e⟩,q _ H' F' G' x (.of hl (afq.imp fun H2 g=>L2.Same.seq g e))⟩
 | _=>cases e2
def ir(lo:Int)(n:Nat):List D:=(List.range n).map fun i=>D.int (lo+(i:Nat))
theorem afc{F:Hp}(lo:Int)(n:Nat):IsL K F (ir lo n) (ups lo n):=by
 have e1:ir lo n=((List.range n).map fun i=>lo+((i:Nat):Int)).map D.int:=by unfold ir;rw[List.map_map];rfl
 have e2:ups lo n=((List.range n).map fun i=>lo+((i:Nat):Int)).map V.int:=by unfold ups;rw[List.map_map];rfl
 rw[e1,e2];exact ac2 _
theorem ag0{j:Int}(h:j.natAbs < 4611686018427387904) : -2 ^ 62<=j/\j < 2 ^ 62:=by
 have e:(2:Int) ^ 62=4611686018427387904:=by decide
 rw[e];omega
def yh:List D->Option (List D)
 | [.int j]=>if j.natAbs < 4611686018427387904 then some (ir 0 j.toNat) else none
 | _=>none
def abg:List D->Option (List D)
 | [.int i,.int j]=>if i.natAbs < 4611686018427387904/\j.natAbs < 4611686018427387904 then some (ir i (j - i).toNat) else none
 | _=>none
def mGet{α β:Type}(g:α->Option β)(m:M α):M β:=m.bind fun ds=>lift (g ds)
theorem aa9{m:M (List D)}(hg:Gl X "range")(hm:X.mg "range" = none)(h:ED K X [a] m)(hs:starEach [a] X.env=[(false,eval a X.env)]:=by rfl):IT K X tgt (.Call (.Name "range" p) [a] [] pos) (mGet yh m):=IT.mk fun hk=>by
 intro zv s σ H R I ⟨tg,F,ρ,l,ρ',G,em,q⟩;obtain⟨ds,ρ1,e1,em⟩:=au em;obtain⟨e2,rfl⟩:=dg em;refine ahs hg hm (h hk) hs zv s σ H R I ⟨tg,F,ρ,ds,_,G,e1,fun vs H' F' G' x r =>?_⟩
 unfold yh at e2;split at e2
 ·split at e2
  ·rename_i j hc;cases e2;cases r with
   | cons h t =>
    cases t;cases h;exact⟨_,rfl,(ag0 hc).1,(ag0 hc).2,q _ H' F' G' x (.of (afc 0 _) (afp.imp fun _ _=>trivial))⟩
  ·cases e2
 ·cases e2
theorem aib{m:M (List D)}(hg:Gl X "range")(hm:X.mg "range" = none)(h:ED K X [a,b] m)(hs:starEach [a,b] X.env=[(false,eval a X.env),(false,eval b X.env)]:=by rfl)(hs2:starEach [b] X.env=[(false,eval b X.env)]:=by rfl):IT K X tgt (.Call (.Name "range" p) [a,b] [] pos) (mGet abg m):=IT.mk fun hk=>by
 intro zv s σ H R I ⟨tg,F,ρ,l,ρ',G,em,q⟩;obtain⟨ds,ρ1,e1,em⟩:=au em;obtain⟨e2,rfl⟩:=dg em;refine ahr hg hm (h hk) hs hs2 zv s σ H R I ⟨tg,F,ρ,ds,_,G,e1,fun vs H' F' G' x r =>?_⟩
 unfold abg at e2;split at e2
 ·split at e2
  ·rename_i i j hc;cases e2;cases r with
   | cons h t =>
    cases t with
    | cons h2 t =>
     cases t;cases h;cases h2;exact⟨_,_,rfl,⟨(ag0 hc.1).1,(ag0 hc.1).2,(ag0 hc.2).1,(ag0 hc.2).2⟩,q _ H' F' G' x (.of (afc _ _) (afp.imp fun _ _=>trivial))⟩
  ·cases e2
 ·cases e2
noncomputable def forD(b:D->Ro->Option Ro)(g:Sd):List D->Sd
 | [],ρ=>some (.nx,ρ)
 | d::ds,ρ=>match b d ρ with
  | none=>none
  | some ρ1=>match g ρ1 with
   | some (.nx,ρ2)=>forD b g ds ρ2
   | some (.cont,ρ2)=>forD b g ds ρ2
   | some (.brk,ρ2)=>some (.nx,ρ2)
   | some (.ret r,ρ2)=>some (.ret r,ρ2)
   | some (.exc x,ρ2)=>some (.exc x,ρ2)
   | none=>none
def dFor(m:M (List D))(b:D->Ro->Option Ro)(g:Sd):Sd:=dM m (forD b g)
theorem aaa{m:M (List D)}{b:D->Ro->Option Ro}{g:Sd}(hp:PassesOwn (model X.prog X.w) X.A X.env X.xe)(hc:X.calm=true)(hi:IT K X tgt iter m)(hg:GV K X tgt b)(hb:SVs K X ss g)
  (hs:∀x,foldedSetIterable iter X.env x=pure x:=by intro _;rfl):SV K X (.For tgt iter ss [] pos) (dFor m b g):=SV.mk fun hk=>PS.imp (ak0 hp hc (hi hk) (hg hk) (hb hk) hs) fun E σ H ⟨tg,F,ρ,fl,ρ',G,em,q⟩=>aaj em q fun l ρ1 e1 em=>by
 refine⟨tg,F,ρ,l,ρ1,G,e1,fun J H1 F1 G1 x1 Z =>?_⟩
 refine aim Z (fun i σ2 H2=>∃F2 ρ2,Good K tg F2 H2 ρ2 σ2/\Ext (Own ρ σ) (Own ρ2 σ2) F H F2 H2/\Same F1 F2/\forD b g (l.drop i) ρ2=some (fl,ρ')) ⟨F1,ρ1,G1,x1,Same.refl _,em⟩ (fun i σ2 H2 _ ⟨F2,ρ2,G2,_,s2,_⟩=>s2.trans G2.sub) ?_ ?_
 ·rintro i d x σ2 H2' H2 hd ⟨F2',ρ2,G2',x2',s2',em2⟩ al
  obtain⟨F2,G2,x2,s2,id,_⟩:=ac7 G2' x2' s2' al;have hlt:i < l.length:=(List.getElem?_eq_some_iff.mp hd).1;have ed:l[i]=d:=(List.getElem?_eq_some_iff.mp hd).2;rw[List.drop_eq_getElem_cons hlt,ed] at em2;unfold forD at em2;split at em2
  ·cases em2
  ·rename_i ρ3 e3;refine⟨tg,F2,ρ2,d,ρ3,G2,id,e3,fun σ3 H3 F3 G3 x3 =>?_⟩
   have again:∀{ρ4:Ro},forD b g (l.drop (i+1)) ρ4=some (fl,ρ')->∀σ' H' F',Good K tg F' H' ρ4 σ'->Ext (Own ρ3 σ3) (Own ρ4 σ') F3 H3 F' H' ->
     ∃F2 ρ2,Good K tg F2 H' ρ2 σ'/\Ext (Own ρ σ) (Own ρ2 σ') F H F2 H'/\Same F1 F2/\forD b g (l.drop (i+1)) ρ2=some (fl,ρ') :=
    fun{ρ4} e4 σ' H' F' G' x'=>⟨F',ρ4,G',(x2.trans x3).trans x',(s2.trans x3.sub).trans x'.sub,e4⟩
   split at em2
   ·rename_i ρ4 e4;exact⟨tg,F3,ρ3,.nx,ρ4,G3,e4,again em2⟩
   ·rename_i ρ4 e4;exact⟨tg,F3,ρ3,.cont,ρ4,G3,e4,again em2⟩
   ·rename_i ρ4 e4;cases em2;exact⟨tg,F3,ρ3,.brk,_,G3,e4,fun σ' H' F' G' x'=>q σ' H' F' G' ((x2.trans x3).trans x')⟩
   ·rename_i r ρ4 e4;cases em2;exact⟨tg,F3,ρ3,.ret r,_,G3,e4,fun v σ' H' F' G' x' rr=>q v σ' H' F' G' ((x2.trans x3).trans x') (jm (x2.trans x3) rr)⟩
   ·cases em2;exact(show False from q).elim
   ·cases em2
 ·rintro σ2 H2 ⟨F2,ρ2,G2,x2,s2,em2⟩
  rw[List.drop_eq_nil_of_le (Nat.le_refl _)] at em2;cases em2;exact q σ2 H2 F2 G2 x2
end
def adx(ρ:Ro)(i:Nat)(o:Option Nat)(d:Option D):Sl:=match o with
 | some j=>match ρ[j]? with
  | some (.val d)=>.val d
  | some (.own _ l)=>.own (some i) l
  | _=>.emp
 | none=>match d with
  | some d=>.val d
  | none=>.emp
def lend(ρ:Ro)(js:List (Option Nat))(ds:List (Option D)):Ro:=(List.zip js ds).mapIdx fun i p=>adx ρ i p.1 p.2
def okJs(ρ:Ro):List (Option Nat)->Bool
 | []=>true
 | none::r=>okJs ρ r
 | some j::r=>(match ρ[j]? with
  | some (.own _ _) => !r.contains (some j)
  | _=>true)&&okJs ρ r
theorem acv{ρ:Ro}:∀{js:List (Option Nat)} {i i' j:Nat} {t:Option Nat} {l:List D},okJs ρ js=true->js[i]? = some (some j)->js[i']? = some (some j)->ρ[j]? = some (.own t l)->i=i'
 | [],_,_,_,_,_,_,h,_,_=>by simp at h
 | o::r,0,0,_,_,_,_,_,_,_=>rfl
 | o::r,0,i'+1,j,t,l,hk,h,h',e=>by
  simp at h h';subst h;unfold okJs at hk;rw[e,Bool.and_eq_true] at hk;have:=List.mem_of_getElem? h';simp[this] at hk
 | o::r,i+1,0,j,t,l,hk,h,h',e=>by
  simp at h h';subst h';unfold okJs at hk;rw[e,Bool.and_eq_true] at hk;have:=List.mem_of_getElem? h;simp[this] at hk
 | none::r,i+1,i'+1,j,t,l,hk,h,h',e=>by
  rw[acv (js:=r) (i:=i) (i':=i') (j:=j) (by unfold okJs at hk;exact hk) (by simpa using h) (by simpa using h') e]
 | some k::r,i+1,i'+1,j,t,l,hk,h,h',e=>by
  unfold okJs at hk;rw[Bool.and_eq_true] at hk;rw[acv (js:=r) (i:=i) (i':=i') (j:=j) hk.2 (by simpa using h) (by simpa using h') e]
def putS(js:List (Option Nat))(ps:Ro)(j:Nat)(s:Sl):Sl:=match js.findIdx? (fun o=>o==some j) with
 | none=>s
 | some i=>match s with
  | .own t _=>match ps[i]? with
   | some (.own (some i') l')=>if i'=i then .own t l' else .emp
   | _=>.emp
  | s=>s
def putB(ρ:Ro)(js:List (Option Nat))(ps:Ro):Ro:=ρ.mapIdx fun j s=>putS js ps j s
def tgOf(τ:L2.St)(i:Nat):Addr:=match τ[i]? with
 | some (some (.ref a))=>a
 | _=>0
section
variable{K:Fg9}{tg:Nat->Addr}{F H F' H':Hp}{ρ ps:Ro}{σ τ:L2.St}{js:List (Option Nat)}{ds:List (Option D)}{O':Addr->Prop}
theorem afk{i:Nat}{s:Sl}(h:(lend ρ js ds:List Sl)[i]? = some s):∃o d,js[i]? = some o/\ds[i]? = some d/\s=adx ρ i o d:=by
 unfold lend at h;rw[List.getElem?_mapIdx] at h;cases e:(List.zip js ds)[i]? with
 | none=>rw[e] at h;cases h
 | some p =>
  rw[e] at h;cases h;rw[List.getElem?_zip_eq_some] at e;exact⟨p.1,p.2,e.1,e.2,rfl⟩
theorem aj0{i:Nat}{t:Option Nat}{l:List D}(h:(lend ρ js ds:List Sl)[i]? = some (.own t l)):∃j t',js[i]? = some (some j)/\ρ[j]? = some (.own t' l)/\t=some i:=by
 obtain⟨o,d,e1,e2,e3⟩:=afk h;unfold adx at e3;cases o with
 | none=>cases d <;> cases e3
 | some j =>
  simp only at e3;cases e:ρ[j]? with
  | none=>rw[e] at e3;cases e3
  | some s =>
   rw[e] at e3;cases s with
   | emp=>cases e3
   | val _=>cases e3
   | box _ _=>cases e3
   | own t' l'=>cases e3;exact⟨j,t',e1,e,rfl⟩
structure Lent (K:Fg9) (F:Hp) (σ τ:L2.St) (js:List (Option Nat)) (ds:List (Option D)):Prop where
 l1:τ.length=js.length
 l2:ds.length=js.length
 h1:∀(i j:Nat) (o:Option V),js[i]? = some (some j)->σ[j]? = some o->τ[i]? = some o
 h2:∀(i:Nat) (d:D),js[i]? = some none->ds[i]? = some (some d)->∃v,τ[i]? = some (some v)/\Is K F d v
theorem Good.σ_at(G:Good K tg F H ρ σ){j:Nat}{s:Sl}(e:(ρ:List Sl)[j]? = some s):∃o,σ[j]? = some o:=by
 obtain⟨o,h,_⟩:=G.at e;exact⟨o,h⟩
theorem vz(G:Good K tg F H ρ σ)(L:Lent K F σ τ js ds){i:Nat}{a:Addr}(h:Owns (lend ρ js ds) τ i a):∃j,js[i]? = some (some j)/\Owns ρ σ j a:=by
 obtain⟨⟨t,l,e⟩,q⟩:=h;obtain⟨j,t',e1,e2,_⟩:=aj0 e;obtain⟨o,ho⟩:=G.σ_at e2;have:=L.h1 i j o e1 ho;rw[q] at this;cases this;exact⟨j,e1,⟨t',l,e2⟩,ho⟩
theorem ux(G:Good K tg F H ρ σ)(hk:okJs ρ js=true)(L:Lent K F σ τ js ds):Good K (tgOf τ) F H (lend ρ js ds) τ where
 sub:=G.sub
 len:=by
  unfold lend;rw[List.length_mapIdx,List.length_zip,L.l2,L.l1];omega
 sl:=fun i s o e q=>by
  obtain⟨oj,d,e1,e2,rfl⟩:=afk e;unfold adx;cases oj with
  | none =>
   cases d with
   | none=>trivial
   | some d =>
    obtain⟨v,h1,h2⟩:=L.h2 i d e1 e2;rw[q] at h1;cases h1;exact⟨v,rfl,h2⟩
  | some j =>
   simp only;cases e3:ρ[j]? with
   | none=>trivial
   | some s =>
    obtain⟨o',ho,w⟩:=G.at e3;have:=L.h1 i j o' e1 ho;rw[q] at this;cases this;cases s with
    | emp=>trivial
    | val d=>exact w
    | box _ _=>trivial
    | own t l =>
     obtain⟨a,vs,rfl,hf,hh,hl,_⟩:=w;refine⟨a,vs,rfl,hf,hh,hl,fun k e =>?_⟩
     cases e;unfold tgOf;rw[q]
 inj:=fun i i' a w w'=>by
  obtain⟨j,e,v⟩:=vz G L w;obtain⟨j',e',v'⟩:=vz G L w';have:=G.inj j j' a v v';subst this;obtain⟨⟨t,l,z⟩,_⟩:=v;exact acv hk e e' z
structure Fin (K:Fg9) (F' H':Hp) (τ:L2.St) (ps:Ro) (O':Addr->Prop):Prop where
 at':∀(i:Nat) (l:List D),(ps:List Sl)[i]? = some (.own (some i) l)->O' (tgOf τ i)/\F' (tgOf τ i)=none/\∃vs,H' (tgOf τ i)=some (.lst vs)/\IsL K F' l vs
theorem ack{j:Nat}{s:Sl}(h:(putB ρ js ps:List Sl)[j]? = some s):∃s0:Sl,(ρ:List Sl)[j]? = some s0/\((∃t l,s0=Sl.own t l/\∃i:Nat,js[i]? = some (some j)/\((∃l',(ps:List Sl)[i]? = some (Sl.own (some i) l')/\s=Sl.own t l')∨s=Sl.emp)) ∨
  (s=s0/\∀t l,s0=Sl.own t l->∀i:Nat,js[i]? ≠ some (some j))):=by
 unfold putB at h;rw[List.getElem?_mapIdx] at h;cases e:(ρ:List Sl)[j]? with
 | none=>rw[e] at h;cases h
 | some s0 =>
  rw[e] at h;refine⟨s0,rfl,?_⟩;have h:putS js ps j s0=s:=Option.some.inj h;unfold putS at h;cases ei:js.findIdx? (fun o=>o==some j) with
  | none =>
   rw[ei] at h;have h:s0=s:=h;refine .inr ⟨h.symm,fun _ _ _ i z =>?_⟩
   rw[List.findIdx?_eq_none_iff] at ei;have:=ei _ (List.mem_of_getElem? z);simp at this
  | some i =>
   rw[ei] at h;cases s0 with
   | emp=>exact .inr ⟨(show Sl.emp=s from h).symm,fun t l z=>by cases z⟩
   | val d=>exact .inr ⟨(show Sl.val d=s from h).symm,fun t l z=>by cases z⟩
   | box c fs=>exact .inr ⟨(show Sl.box c fs=s from h).symm,fun t l z=>by cases z⟩
   | own t l =>
    refine .inl ⟨t,l,rfl,i,?_,?_⟩
    ·obtain⟨hi,hb,_⟩:=List.findIdx?_eq_some_iff_getElem.mp ei;rw[List.getElem?_eq_getElem hi];exact congrArg some (eq_of_beq hb)
    ·have h:(match (ps:List Sl)[i]? with
      | some (.own (some i') l')=>if i'=i then Sl.own t l' else .emp
      | _=>.emp)=s:=h
     cases ep:(ps:List Sl)[i]? with
     | none=>rw[ep] at h;exact .inr h.symm
     | some sp =>
      rw[ep] at h;cases sp with
      | emp=>exact .inr h.symm
      | val _=>exact .inr h.symm
      | box _ _=>exact .inr h.symm
      | own t' l' =>
       cases t' with
       | none=>exact .inr h.symm
       | some i' =>
        have h2:(if i'=i then Sl.own t l' else .emp)=s:=h
        by_cases z:i'=i
        ·subst z;rw[if_pos rfl] at h2;exact .inl ⟨l',rfl,h2.symm⟩
        ·rw[if_neg z] at h2;exact .inr h2.symm
theorem zf{j:Nat}{a:Addr}(h:Owns (putB ρ js ps) σ j a):Owns ρ σ j a:=by
 obtain⟨⟨t,l,e⟩,q⟩:=h;obtain⟨s0,e0,h | ⟨rfl,_⟩⟩:=ack e
 ·obtain⟨t',l',rfl,i,_,⟨l2,_,z⟩ | z⟩:=h
  ·exact⟨⟨t',l',e0⟩,q⟩
  ·cases z
 ·exact⟨⟨t,l,e0⟩,q⟩
theorem zg(G:Good K tg F H ρ σ)(L:Lent K F σ τ js ds)(x:Ext (Own (lend ρ js ds) τ) O' F H F' H')(s':Same F' H')(fin:Fin K F' H' τ ps O'):Good K tg F' H' (putB ρ js ps) σ where
 sub:=s'
 len:=by
  unfold putB;rw[List.length_mapIdx];exact G.len
 sl:=fun j s o e q=>by
  obtain⟨s0,e0,h | ⟨rfl,hn⟩⟩:=ack e
  ·obtain⟨t,l,rfl,i,ei,⟨l',ep,rfl⟩ | rfl⟩:=h
   ·obtain⟨a,vs,rfl,hf,hh,hl,ht⟩:=G.sl j _ _ e0 q;obtain⟨_,hf',ws,hh',hl'⟩:=fin.at' i l' ep;have:=L.h1 i j _ ei q;have et:tgOf τ i=a:=by
     unfold tgOf;rw[this]
    rw[et] at hf' hh';exact⟨a,ws,rfl,hf',hh',hl',ht⟩
   ·trivial
  ·have w:=G.sl j _ _ e0 q;cases s with
   | emp=>trivial
   | val d =>
    obtain⟨v,h1,h2⟩:=w;exact⟨v,h1,h2.mono x.sub⟩
   | box c fs =>
    obtain⟨a,C,dx,fvs,e1,e2,e3,e4,e7,e5,e6⟩:=w;have no:¬Own (lend ρ js ds) τ a:=fun⟨i,z⟩=>by
     obtain⟨j',_,v⟩:=vz G L z;obtain⟨_,vs,hv⟩:=G.ownAt ⟨j',v⟩;rw[e3] at hv;cases hv
    have hf:F' a=none:=by
     cases z:F' a with
     | none=>rfl
     | some o =>
      rcases x.new a o z with z | z | z
      ·rw[e2] at z;cases z
      ·rw[e3] at z;cases z
      ·exact absurd z no
    exact⟨a,C,dx,fvs,e1,hf,x.keep a _ e3 no,e4,e7,e5,fun f d h=>(e6 f d h).imp fun v h=>⟨h.1,h.2.mono x.sub⟩⟩
   | own t l =>
    obtain⟨a,vs,rfl,hf,hh,hl,ht⟩:=w;have no:¬Own (lend ρ js ds) τ a:=fun⟨i,z⟩=>by
     obtain⟨j',e1,v⟩:=vz G L z;have:=G.inj j' j a v ⟨⟨t,l,e0⟩,q⟩;subst this;exact hn t l rfl i e1
    refine⟨a,vs,rfl,?_,x.keep a _ hh no,hl.mono x.sub,ht⟩;cases z:F' a with
    | none=>rfl
    | some o =>
     rcases x.new a o z with z | z | z
     ·rw[hf] at z;cases z
     ·rw[hh] at z;cases z
     ·exact absurd z no
 inj:=fun i j a w w'=>G.inj i j a (zf w) (zf w')
theorem rz(G:Good K tg F H ρ σ)(L:Lent K F σ τ js ds){a:Addr}(h:Own (lend ρ js ds) τ a):Own ρ σ a:=by
 obtain⟨i,h⟩:=h;obtain⟨j,_,h⟩:=vz G L h;exact⟨j,h⟩
theorem aar(G:Good K tg F H ρ σ)(L:Lent K F σ τ js ds)(x:Ext (Own (lend ρ js ds) τ) O' F H F' H'):Ext (Own ρ σ) (Own (putB ρ js ps) σ) F H F' H' where
 sub:=x.sub
 new:=fun a o e=>by
  rcases x.new a o e with z | z | z
  ·exact .inl z
  ·exact .inr (.inl z)
  ·exact .inr (.inr (rz G L z))
 keep:=fun a o e n=>x.keep a o e fun z=>n (rz G L z)
 own:=fun a ⟨j,w⟩=>.inl ⟨j,zf w⟩
 there:=x.there
theorem ai8(G:Good K tg F H ρ σ)(L:Lent K F σ τ js ds)(fin:Fin K F' H' τ ps O'){a:Addr}(ha:H a=none∨Own (lend ρ js ds) τ a)(hn:¬O' a):¬Own (putB ρ js ps) σ a:=fun⟨j,w⟩=>by
 have v:=zf w;obtain⟨⟨t,l2,e⟩,q⟩:=w;obtain⟨s0,e0,z | ⟨rfl,hno⟩⟩:=ack e
 ·obtain⟨t',l',rfl,i,ei,⟨l3,ep,z⟩ | z⟩:=z
  ·have et:tgOf τ i=a:=by
    unfold tgOf;rw[L.h1 i j _ ei q]
   have:=(fin.at' i l3 ep).1;rw[et] at this;exact hn this
  ·cases z
 ·rcases ha with ha | ⟨i,z⟩
  ·obtain⟨a',vs',ea,_,e2,_⟩:=G.sl j _ _ e0 q;cases ea;rw[ha] at e2;cases e2
  ·obtain⟨j',e1,v'⟩:=vz G L z;have:=G.inj j' j a v' v;subst this;exact hno t l2 rfl i e1
theorem aga(G:Good K tg F H ρ σ)(L:Lent K F σ τ js ds)(fin:Fin K F' H' τ ps O'){r:Rv}{v:V}(h:relR K r v H (Own (lend ρ js ds) τ) F' H' O'):relR K r v H (Own ρ σ) F' H' (Own (putB ρ js ps) σ):=by
 cases r with
 | v d=>exact h
 | fr l =>
  obtain⟨a,vs,rfl,ha,hf,hh,hl,hn⟩:=h;exact⟨a,vs,rfl,ha.imp id (rz G L),hf,hh,hl,ai8 G L fin ha hn⟩
 | tf d l =>
  obtain⟨t,u,a,vs,rfl,ht,hd,ha,hf,hh,hl,hn⟩:=h;exact⟨t,u,a,vs,rfl,ht,hd,ha.imp id (rz G L),hf,hh,hl,ai8 G L fin ha hn⟩
end
abbrev Fd:=Ro->Option (Out Rv×Ro)
noncomputable def fnD(nl np:Nat)(g:Sd):Fd:=fun as=>match g (as++List.replicate (nl - np) .emp) with
 | some (.ret r,ρ)=>some (.ok r,ρ.take np)
 | some (.nx,ρ)=>some (.ok (.v .non),ρ.take np)
 | some (.exc x,ρ)=>some (.exc x,ρ.take np)
 | _=>none
def spOf(K:Fg9)(n:Nat)(f:Fd):Sp:=fun vs H Q _=>vs.length=n/\∃F as r ps,Good K (tgOf (vs.map some)) F H as (vs.map some)/\f as=some (.ok r,ps) /\
 ∀v H' F' O',Same F' H'->Ext (Own as (vs.map some)) O' F H F' H'->Fin K F' H' (vs.map some) ps O'->relR K r v H (Own as (vs.map some)) F' H' O'->Q v H'
section
variable{K:Fg9}
theorem amb{as:Ro}{τ:L2.St}{n:Nat}{a:Addr}(hl:as.length=τ.length)(h:Own (as++List.replicate n .emp) (τ++List.replicate n none) a):Own as τ a:=by
 obtain⟨i,⟨t,l,e⟩,q⟩:=h
 by_cases hi:i < as.length
 ·rw[List.getElem?_append_left hi] at e;rw[List.getElem?_append_left (by omega)] at q
  exact⟨i,⟨t,l,e⟩,q⟩
 ·rw[List.getElem?_append_right (by omega),List.getElem?_replicate] at e
  split at e <;> cases e
theorem ajn{as:Ro}{τ:L2.St}{n:Nat}{a:Addr}(hl:as.length=τ.length)(h:Own as τ a):Own (as++List.replicate n .emp) (τ++List.replicate n none) a:=by
 obtain⟨i,⟨t,l,e⟩,q⟩:=h;have hi:=(List.getElem?_eq_some_iff.mp e).1;exact⟨i,⟨t,l,by rw[List.getElem?_append_left hi];exact e⟩,by rw[List.getElem?_append_left (by omega)];exact q⟩
theorem qp{as:Ro}{τ:L2.St}{n:Nat}(hl:as.length=τ.length):Own (as++List.replicate n .emp) (τ++List.replicate n none)=Own as τ:=funext fun a=>propext ⟨amb hl,ajn hl⟩
theorem Good.app{tg:Nat->Addr}{F H:Hp}{as:Ro}{τ:L2.St}(G:Good K tg F H as τ)(n:Nat):Good K tg F H (as++List.replicate n .emp) (τ++List.replicate n none) where
 sub:=G.sub
 len:=by rw[List.length_append,List.length_append,G.len,List.length_replicate,List.length_replicate]
 sl:=fun i s o e q=>by
  have hl:=G.len
  by_cases hi:i < as.length
  ·rw[List.getElem?_append_left hi] at e;rw[List.getElem?_append_left (by omega)] at q
   exact G.sl i s o e q
  ·rw[List.getElem?_append_right (by omega),List.getElem?_replicate] at e
   split at e
   ·cases e;trivial
   ·cases e
 inj:=fun i j a w w'=>by
  have hl:=G.len;have f:∀k,Owns (as++List.replicate n .emp) (τ++List.replicate n none) k a->Owns as τ k a:=fun k ⟨⟨t,l,e⟩,q⟩=>by
   by_cases hi:k < as.length
   ·rw[List.getElem?_append_left hi] at e;rw[List.getElem?_append_left (by omega)] at q
    exact⟨⟨t,l,e⟩,q⟩
   ·rw[List.getElem?_append_right (by omega),List.getElem?_replicate] at e
    split at e <;> cases e
  exact G.inj i j a (f i w) (f j w')
theorem ato{P:Program}{w:World}{mg:Str->Option Value}{base:Heap}{x qual:Str}{st:Stmt}{f:Addr}{fd:FuncData}{N ps:List Str}{k:Nat}{g:Sd}(F:Fun K x qual st f fd)(S:FnScope N ps (ao st))
  (body:∀(cdv:Value) (A:Around) (outer:List Env) (s:Shared) (H:Hp) (E:XK),Room k (A.deeper (envOfC qual (ao st) s.heap.objs.size f cdv))->SVs K (cxOf CX0 P w K mg base N qual (ao st) f cdv A outer s H E).nox (dm st) g) :
  FnOk P w K mg base CX0 (k+1) f fd ps (spOf K ps.length (fnD N.length ps.length g)):=by
 refine F.ok S (fun vs H Q E h=>h.1) (fun cdv A outer s H vs Q E hr h=>⟨_,body cdv A outer s H E hr rfl,?_⟩)
 obtain⟨hn,F,as,r,ps',G,em,q⟩:=h;have hl:as.length=(vs.map some).length:=G.len;have G1:=G.app (N.length - vs.length);have es:start N vs=vs.map some++List.replicate (N.length - vs.length) none:=rfl;rw[es];unfold fnD at em;rw[<-hn] at em;have fin:∀{ρ':Ro} {σ':L2.St} {F' H':Hp},Good K (tgOf (vs.map some)) F' H' ρ' σ'->Fin K F' H' (vs.map some) (ρ'.take vs.length) (Own ρ' σ'):=fun{ρ' σ' F' H'} G'=>⟨fun i l e=>by
  have hi:=(List.getElem?_eq_some_iff.mp e).1;rw[List.length_take] at hi;rw[List.getElem?_take_of_lt (by omega)] at e
  obtain⟨o,ho,a,ws,rfl,hf,hh,hl,ht⟩:=G'.at e;rw[ht i rfl];exact⟨⟨i,⟨_,_,e⟩,ho⟩,hf,ws,hh,hl⟩⟩
 split at em
 ·rename_i r' ρ' e;cases em;refine⟨_,F,_,.ret r,ρ',G1,e,fun v σ' H' F' G' x' rr =>?_⟩
  rw[qp hl] at x' rr;exact q v H' F' (Own ρ' σ') G'.sub x' (fin G') rr
 ·rename_i ρ' e;cases em;refine⟨_,F,_,.nx,ρ',G1,e,fun σ' H' F' G' x' =>?_⟩
  rw[qp hl] at x';exact q .non H' F' (Own ρ' σ') G'.sub x' (fin G') .non
 ·cases em
 ·cases em
end
section
variable{K:Fg9}{X:Cx}{e a b c tgt iter elt:Expr}{es:List Expr}{pos p p2:Pos}
inductive AR (K:Fg9) (F:Hp) (σ:L2.St):List (Option Nat)->List (Option D)->List V->Prop
 | nil:AR K F σ [] [] []
 | ex {d:D} {v:V} {js:List (Option Nat)} {ds:List (Option D)} {vs:List V} (h:Is K F d v) (t:AR K F σ js ds vs):AR K F σ (none::js) (some d::ds) (v::vs)
 | nm {j:Nat} {v:V} {js:List (Option Nat)} {ds:List (Option D)} {vs:List V} (h:σ[j]? = some (some v)) (t:AR K F σ js ds vs):AR K F σ (some j::js) (none::ds) (v::vs)
theorem AR.lent{F:Hp}{σ:L2.St}:∀{js:List (Option Nat)} {ds:List (Option D)} {vs:List V},AR K F σ js ds vs->Lent K F σ (vs.map some) js ds
 | _,_,_,.nil=>⟨rfl,rfl,fun i j o h=>by simp at h,fun i d h=>by simp at h⟩
 | _,_,_,.ex h t=>by
  have L:=t.lent;refine⟨by simp[by simpa using L.l1],by simp[L.l2],fun i j o h q =>?_,fun i d h q =>?_⟩
  ·cases i with
   | zero=>simp at h
   | succ i=>simpa using L.h1 i j o (by simpa using h) q
  ·cases i with
   | zero=>simp at q;subst q;exact⟨_,rfl,‹_›⟩
   | succ i=>simpa using L.h2 i d (by simpa using h) (by simpa using q)
 | _,_,_,.nm h t=>by
  have L:=t.lent;refine⟨by simp[by simpa using L.l1],by simp[L.l2],fun i j o h' q =>?_,fun i d h' q =>?_⟩
  ·cases i with
   | zero =>
    simp at h';subst h';rw[h] at q;cases q;rfl
   | succ i=>simpa using L.h1 i j o (by simpa using h') q
  ·cases i with
   | zero=>simp at h'
   | succ i=>simpa using L.h2 i d (by simpa using h') (by simpa using q)
theorem AR.length{F:Hp}{σ:L2.St}{js:List (Option Nat)}{ds:List (Option D)}{vs:List V}(h:AR K F σ js ds vs):vs.length=js.length:=by
 have:=h.lent.l1
 simpa using this
def TAg(K:Fg9)(js:List (Option Nat))(m:M (List (Option D))):TA:=fun σ H Q=>∃tg F ρ ds ρ',Good K tg F H ρ σ/\m ρ=some (.ok ds,ρ')/\∀vs H' F',Good K tg F' H' ρ' σ->Ext (Own ρ σ) (Own ρ' σ) F H F' H'->AR K F' σ js ds vs->Q vs H'
structure EG (K:Fg9) (X:Cx) (es:List Expr) (js:List (Option Nat)) (m:M (List (Option D))):Prop where
 go:X.K=K->PA X es (TAg K js m)
instance {K:Fg9} {X:Cx} {es:List Expr} {js:List (Option Nat)} {m:M (List (Option D))}:CoeFun (EG K X es js m) fun _=>X.K=K->PA X es (TAg K js m):=⟨EG.go⟩
def jn:M (List (Option D)):=ret []
def gj(m:M D)(ms:M (List (Option D))):M (List (Option D)):=m.bind fun d=>ms.bind fun ds=>ret (some d::ds)
def gw(j:Nat)(ms:M (List (Option D))):M (List (Option D)):=(dh j).bind fun _=>ms.bind fun ds=>ret (none::ds)
theorem di:EG K X [] [] jn:=EG.mk fun _=>PA.imp aa2 fun σ H Q z9=>by
 obtain⟨tg,F,ρ,ds,ρ',G,em,q⟩:=z9;obtain⟨rfl,rfl⟩:=jc em;exact q [] H F G (Ext.refl _ _ _) .nil
theorem eg_v{m:M D}{js:List (Option Nat)}{ms:M (List (Option D))}(h:EV K X e m)(t:EG K X es js ms)(hs:starEach (e::es) X.env=(false,eval e X.env)::starEach es X.env:=by rfl):EG K X (e::es) (none::js) (gj m ms):=EG.mk fun hk=>PA.imp (lg (h hk) (t hk) hs) fun σ H Q z9=>by
 obtain⟨tg,F,ρ,ds,ρ',G,em,q⟩:=z9;obtain⟨d,ρ1,e1,em⟩:=au em;obtain⟨r,ρ2,e2,em⟩:=au em;obtain⟨rfl,rfl⟩:=jc em;exact⟨tg,F,ρ,d,ρ1,G,e1,fun v H1 F1 G1 x1 r1=>⟨tg,F1,ρ1,r,_,G1,e2,fun vs H2 F2 G2 x2 r2=>q _ H2 F2 G2 (x1.trans x2) (.ex (r1.mono x2.sub) r2)⟩⟩
theorem eg_n{j:Nat}{js:List (Option Nat)}{ms:M (List (Option D))}(h:PE X e (tVar j))(t:EG K X es js ms)(hs:starEach (e::es) X.env=(false,eval e X.env)::starEach es X.env:=by rfl):EG K X (e::es) (some j::js) (gw j ms):=EG.mk fun hk=>PA.imp (lg h (t hk) hs) fun σ H Q z9=>by
 obtain⟨tg,F,ρ,ds,ρ',G,em,q⟩:=z9;obtain⟨d0,ρ0,e0,em⟩:=au em;obtain⟨r,ρ2,e2,em⟩:=au em;obtain⟨rfl,rfl⟩:=jc em;obtain⟨rfl,v,hv,_⟩:=jx G e0;exact⟨v,hv,tg,F,ρ0,r,_,G,e2,fun vs H2 F2 G2 x2 r2=>q _ H2 F2 G2 x2 (.nm hv r2)⟩
noncomputable def mFn(f:Fd)(js:List (Option Nat))(ms:M (List (Option D))):M Rv:=ms.bind fun ds ρ=>if okJs ρ js=true then match f (lend ρ js ds) with
  | some (.ok r,ps)=>some (.ok r,putB ρ js ps)
  | some (.exc x,ps)=>some (.exc x,putB ρ js ps)
  | none=>none
 else none
theorem ak3{f:Fd}{js:List (Option Nat)}{ms:M (List (Option D))}{ρ ρ':Ro}{r:Rv}(h:mFn f js ms ρ=some (.ok r,ρ')):∃ds ρ1 ps,ms ρ=some (.ok ds,ρ1)/\okJs ρ1 js=true/\f (lend ρ1 js ds)=some (.ok r,ps)/\ρ'=putB ρ1 js ps:=by
 obtain⟨ds,ρ1,e1,em⟩:=au h;have em:(if okJs ρ1 js=true then match f (lend ρ1 js ds) with
  | some (.ok r,ps)=>some (Out.ok r,putB ρ1 js ps)
  | some (.exc x,ps)=>some (.exc x,putB ρ1 js ps)
  | none=>none
  else none)=some (.ok r,ρ'):=em
 split at em
 ·rename_i hk;split at em
  ·rename_i r' ps e2;cases em;exact⟨ds,ρ1,ps,e1,hk,e2,rfl⟩
  ·cases em
  ·cases em
 ·cases em
theorem jk{f:Fd}{n k:Nat}{x:Str}{pn:List Str}{js:List (Option Nat)}{ms:M (List (Option D))}(F:Dfn X.prog X.w X.K X.mg X.base x pn k (spOf K n f))(hr:Room k X.A)(hg:Gl X x)(ha:EG K X (e::es) js ms)(hn:js.length=n:=by rfl)(hdb:(x==("__debug__" : Str))=false:=by decide)
  (he:starEach (e::es) X.env=(false,eval e X.env)::starEach es X.env:=by rfl) (hpl:(backTo pos (starEach es X.env)).any (·.1)=false:=by rfl):ER K X (.Call (.Name x p) (e::es) [] pos) (mFn f js ms):=ER.mk fun hk=>PE.imp (ash F hr hg (ha hk) hdb he hpl) fun σ H Q z9=>by
 obtain⟨tg,F,ρ,r,ρ',G,em,q⟩:=z9;obtain⟨ds,ρ1,ps,e1,hj,e2,rfl⟩:=ak3 em;refine⟨tg,F,ρ,ds,ρ1,G,e1,fun vs H1 F1 G1 x1 ar =>?_⟩
 have L:=ar.lent;show spOf K n f (vs++[]) H1 Q E0;rw[List.append_nil];refine⟨by rw[ar.length];exact hn,F1,_,r,ps,ux G1 hj L,e2,fun v H' F' O' s' x' fin rr =>?_⟩
 exact q v H' F' (zg G1 L x' s' fin) (x1.trans (aar G1 L x')) (jm x1 (aga G1 L fin rr))
structure EIf (K:Fg9) (X:Cx) (ifs:List Expr) (m:M Bool):Prop where
 go:X.K=K->PIf X ifs (TB K m)
instance {K:Fg9} {X:Cx} {ifs:List Expr} {m:M Bool}:CoeFun (EIf K X ifs m) fun _=>X.K=K->PIf X ifs (TB K m):=⟨EIf.go⟩
theorem sy:EIf K X [] (ret true):=EIf.mk fun _ zv s σ H Q I z9=>by
 obtain⟨tg,F,ρ,k,ρ',G,em,q⟩:=z9;obtain⟨rfl,rfl⟩:=jc em;exact al3 zv s σ H Q I (q H F G (Ext.refl _ _ _))
theorem ani{m:M Bool}(h:ET K X c m):EIf K X [c] m:=EIf.mk fun hk=>al2 (h hk)
noncomputable def compD(b:D->Ro->Option Ro)(mc:M Bool)(me:M D):List D->List D->M (List D)
 | [],ys=>ret ys
 | d::ds,ys=>fun ρ=>match b d ρ with
  | none=>none
  | some ρ1=>(mc.bind fun k=>if k=true then me.bind fun y=>compD b mc me ds (ys++[y]) else compD b mc me ds ys) ρ1
theorem abj{b:D->Ro->Option Ro}{mc:M Bool}{me:M D}:∀{l ys yf:List D} {ρ ρ':Ro},compD b mc me l ys ρ=some (.ok yf,ρ')->ys.length<=yf.length
 | [],ys,yf,ρ,ρ',h=>by
  obtain⟨rfl,_⟩:=jc (show ret ys ρ=_ from h)
  exact Nat.le_refl _
 | d::ds,ys,yf,ρ,ρ',h=>by
  unfold compD at h;split at h
  ·cases h
  ·obtain⟨k,ρ2,e2,h⟩:=au h;split at h
   ·obtain⟨y,ρ3,e3,h⟩:=au h;have:=abj h;rw[List.length_append] at this;omega
   ·exact abj h
def aai(src:List (Option Nat))(mi:M (List D))(b:D->Ro->Option Ro)(mc:M Bool)(me:M D):M Rv:=mi.bind fun l ρ=>if okJs ρ src=true then match compD b mc me l [] (lend ρ src (src.map fun _=>none)) with
  | some (.ok ys,ps)=>if ys.length<=capS then some (.ok (.fr ys),putB ρ src ps) else none
  | some (.exc x,ps)=>some (.exc x,putB ρ src ps)
  | none=>none
 else none
theorem ajz{src:List (Option Nat)}{mi:M (List D)}{b:D->Ro->Option Ro}{mc:M Bool}{me:M D}{ρ ρ':Ro}{r:Rv}(h:aai src mi b mc me ρ=some (.ok r,ρ')):∃l ρ1 ys ps,mi ρ=some (.ok l,ρ1)/\okJs ρ1 src=true/\compD b mc me l [] (lend ρ1 src (src.map fun _=>none))=some (.ok ys,ps)/\ys.length<=capS/\r=.fr ys/\ρ'=putB ρ1 src ps:=by
 obtain⟨l,ρ1,e1,em⟩:=au h;have em:(if okJs ρ1 src=true then match compD b mc me l [] (lend ρ1 src (src.map fun _=>none)) with
  | some (.ok ys,ps)=>if ys.length<=capS then some (Out.ok (Rv.fr ys),putB ρ1 src ps) else none
  | some (.exc x,ps)=>some (.exc x,putB ρ1 src ps)
  | none=>none
  else none)=some (.ok r,ρ'):=em
 split at em
 ·rename_i hk;split at em
  ·rename_i ys ps e2;split at em
   ·rename_i hz;cases em;exact⟨l,ρ1,ys,ps,e1,hk,e2,hz,rfl,rfl⟩
   ·cases em
  ·cases em
  ·cases em
 ·cases em
theorem ahq{F:Hp}{σ:L2.St}(src:List (Option Nat)):Lent K F σ (pick src σ) src (src.map fun _=>none):=by
 refine⟨by simp[pick],by simp,fun i j o h q =>?_,fun i d h q =>?_⟩
 ·unfold pick;rw[List.getElem?_map,h];show some ((σ[j]?).bind id)=some o;rw[q];rfl
 ·rw[List.getElem?_map,h] at q;cases q
theorem Ext.upd{O O':Addr->Prop}{F H F' H':Hp}{d:Addr}{o:HO}(x:Ext O O' F H F' H')(h:H d=none):Ext O O' F H F' (upd H' d o) :=
 ⟨x.sub,x.new,fun a u e n=>by rw[bj (dq e h)];exact x.keep a u e n,x.own,fun a e=>by
  by_cases ha:a=d
  ·subst ha;exact h
  ·rw[bj ha] at e;exact x.there a e⟩
theorem Good.upd{tg:Nat->Addr}{F H:Hp}{ρ:Ro}{σ:L2.St}{d:Addr}(G:Good K tg F H ρ σ)(hf:F d=none)(hn:¬Own ρ σ d)(o:HO)(hi:∀C dx fs,H d≠some (.ins C dx fs)):Good K tg F (upd H d o) ρ σ :=
 G.grow (Same.refl F) (fun b u e=>by
  have hb:b≠d:=fun z=>by
   subst z;rw[hf] at e;cases e
  rw[bj hb];exact G.sub b u e) (fun a w=>⟨(G.ownAt w).1,by
  have hb:a≠d:=fun z=>hn (z▸w)
  rw[bj hb]⟩) fun a C dx fvs h1 h2=>⟨h1,by
  have hb:a≠d:=fun z=>hi C dx fvs (z▸h2)
  rw[bj hb]⟩
theorem akn{mi:M (List D)}{bb:D->Ro->Option Ro}{mc:M Bool}{me:M D}{src:List (Option Nat)}(σ:L2.St)(H:Hp)(Q:VK)(t:T K (relR K) (aai src mi bb mc me) σ H Q):an8 (TIt K mi) (TGd K bb) (TB K mc) (T K (relD K) me) src σ H Q:=by
 obtain⟨tg,F,ρ,r,ρ',G,em,q⟩:=t;obtain⟨l,ρ1,yf,ps,e1,hj,e2,hz,rfl,rfl⟩:=ajz em;refine⟨tg,F,ρ,l,ρ1,G,e1,fun J H1 F1 G1 x1 Z dd hd =>?_⟩
 have L:Lent K F1 σ (pick src σ) src (src.map fun _=>none):=ahq src
 have Gl:=ux G1 hj L;have own0:¬Own (lend ρ1 src (src.map fun _=>none)) (pick src σ) dd:=fun z=>Gl.own_ne hd z rfl
 refine ako Z (fun i ys σc Hc=>∃Fc ρc yd,Good K (tgOf (pick src σ)) Fc Hc ρc σc/\Ext (Own (lend ρ1 src (src.map fun _=>none)) (pick src σ)) (Own ρc σc) F1 H1 Fc Hc/\Fc dd=none/\¬Own ρc σc dd/\Hc dd=some (.lst ys)/\IsL K Fc yd ys/\compD bb mc me (l.drop i) yd ρc=some (.ok yf,ps))
  ⟨F1,_,[],Gl.upd (G1.freeF hd) own0 _ (fun _ _ _ z=>by rw[hd] at z;cases z),(Ext.refl _ _ _).upd hd,G1.freeF hd,own0,cj,.nil,e2⟩ ?_ ?_ ?_
 ·rintro i ys σc Hc _ ⟨Fc,ρc,yd,Gc,xc,_,_,hdd,_,_⟩
  exact⟨xc.sub.trans Gc.sub,hdd⟩
 ·rintro i d x ys σc Hc0 Hc M hdl ⟨Fc0,ρc,yd,Gc0,xc0,fd0,od0,hdd0,iy0,ec⟩ al hM
  obtain⟨Fc,Gc,xc,_,idl,xa⟩:=ac7 Gc0 xc0 xc0.sub al;have iy:=iy0.mono xa.sub;have hlt:i < l.length:=(List.getElem?_eq_some_iff.mp hdl).1;have edl:l[i]=d:=(List.getElem?_eq_some_iff.mp hdl).2;rw[List.drop_eq_getElem_cons hlt,edl] at ec;unfold compD at ec;have step:∀{F2 H2:Hp} {ρ2 ρ3:Ro} {σ2 σ3:L2.St} {F3 H3:Hp},F2 dd=none->¬Own ρ2 σ2 dd->H2 dd=some (.lst ys)->Ext (Own ρ2 σ2) (Own ρ3 σ3) F2 H2 F3 H3->F3 dd=none/\¬Own ρ3 σ3 dd/\H3 dd=some (.lst ys):=fun{F2 H2 ρ2 ρ3 σ2 σ3 F3 H3} h1 h2 h3 x3=>by
   refine⟨?_,fun z =>?_,x3.keep _ _ h3 h2⟩
   ·cases z:F3 dd with
    | none=>rfl
    | some o =>
     rcases x3.new _ _ z with z | z | z
     ·rw[h1] at z;cases z
     ·rw[h3] at z;cases z
     ·exact absurd z h2
   ·rcases x3.own _ z with z | z
    ·exact h2 z
    ·rw[h3] at z;cases z
  obtain⟨fd,od,hdd⟩:=step fd0 od0 hdd0 xa;split at ec
  ·cases ec
  ·rename_i ρ2 eb;refine⟨_,Fc,ρc,d,ρ2,Gc,idl,eb,fun σ2 H2 F2 G2 x2 =>?_⟩
   obtain⟨k,ρ3,ek,ec⟩:=au ec;obtain⟨fd2,od2,hdd2⟩:=step fd od hdd x2;refine⟨_,F2,ρ2,k,ρ3,G2,ek,fun H3 F3 G3 x3 =>?_⟩
   obtain⟨fd3,od3,hdd3⟩:=step fd2 od2 hdd2 x3;cases k with
   | false =>
    refine iteF (hM _ _ _ ⟨F3,ρ3,yd,G3,(xc.trans x2).trans x3,fd3,od3,hdd3,(iy.mono x2.sub).mono x3.sub,ec⟩)
   | true =>
    obtain⟨y,ρ4,ey,ec⟩:=au ec;refine iteT ⟨_,F3,ρ3,y,ρ4,G3,ey,fun v H4 F4 G4 x4 iv =>?_⟩
    obtain⟨fd4,od4,hdd4⟩:=step fd3 od3 hdd3 x4;refine⟨hdd4,?_,hM _ _ _ ⟨F4,ρ4,yd++[y],G4.upd fd4 od4 _ (fun _ _ _ z=>by rw[hdd4] at z;cases z),(((xc.trans x2).trans x3).trans x4).upd hd,fd4,od4,cj,?_,ec⟩⟩
    ·have:=abj ec;rw[List.length_append,iy.length] at this;rw[sizeLine_eq];exact Nat.lt_of_lt_of_le (by simpa using Nat.lt_succ_self ys.length) (Nat.le_trans this hz)
    ·exact(((iy.mono x2.sub).mono x3.sub).mono x4.sub).append (.cons iv .nil)
 ·rintro ys σc Hc ⟨Fc,ρc,yd,Gc,xc,fd,od,hdd,iy,ec⟩
  rw[List.drop_eq_nil_of_le (Nat.le_refl _)] at ec;obtain⟨rfl,rfl⟩:=jc (show ret yd ρc=_ from ec)
  have fin:Fin K Fc Hc (pick src σ) ps (Own ps σc):=⟨fun i l' e=>by
   obtain⟨o,ho,a,ws,rfl,hf,hh,hl,ht⟩:=Gc.at e;rw[ht i rfl];exact⟨⟨i,⟨_,_,e⟩,ho⟩,hf,ws,hh,hl⟩⟩
  refine q _ Hc Fc (zg G1 L xc Gc.sub fin) (x1.trans (aar G1 L xc)) ⟨dd,ys,rfl,.inl (x1.there dd hd),fd,hdd,iy,fun⟨j,w⟩ =>?_⟩
  exact G1.own_ne hd ⟨j,zf w⟩ rfl
theorem qi{ifs:List Expr}{scope:Scope}{mi:M (List D)}{bb:D->Ro->Option Ro}{mc:M Bool}{me:M D}(fr N:List Str)(src:List (Option Nat))(hc:X.calm=true)(hi:IT K X tgt iter mi)
  (hg:∀fp s H,GV K (cxC X N scope fr fp s H) tgt bb) (ht:∀fp s H,EIf K (cxC X N scope fr fp s H) ifs mc) (he:∀fp s H,EV K (cxC X N scope fr fp s H) elt me)
  (hok:af5 X.env X.N scope fr N src=true:=by rfl) (hkind:scope.kind=.function:=by rfl) (hclos:closureFor scope X.env=pure (vm X.env fr):=by rfl)
  (hs:∀x,foldedSetIterable iter X.env x=pure x:=by intro _;rfl):ER K X (.ListComp elt [⟨tgt,iter,ifs,0⟩] scope pos) (aai src mi bb mc me):=ER.mk fun hk=>by
 have hkc:∀fp s H,(cxC X N scope fr fp s H).K=K:=fun _ _ _=>hk
 refine PE.imp (al8 fr N src hc (hi hk) (fun fp s H=>(hg fp s H).go (hkc _ _ _)) (fun fp s H=>(ht fp s H).go (hkc _ _ _)) (fun fp s H=>(he fp s H).go (hkc _ _ _)) hok hkind hclos hs) akn
end
@[irreducible] def fuel:Nat:=1000000000
section
variable{K:Fg9}{X:Cx}{e a b c:Expr}{es:List Expr}{pos p p2:Pos}
end
def ae1(f:Fd):Prop:=∀ns:List Int,ns.length<=63->∃ps,f [.val (.kst (ns.map D.int))]=some (.ok (.v (.bl true)),ps)
theorem aob{K:Fg9}{f:Fd}(h:ae1 f)(H:Hp)(a:Addr)(ns:List Int)(hn:ns.length<=63)(hS:SqL K H a (ns.map V.int)):spOf K 1 f [.ref a] H (fun v _=>v=.bl true) fun _ _ _=>False:=by
 obtain⟨ps,e⟩:=h ns hn;refine⟨rfl,H,_,_,ps,⟨Same.refl H,rfl,fun i s o e1 e2 =>?_,fun i j b ⟨⟨t,l,e1⟩,_⟩ _=>by cases i <;> simp at e1⟩,e,fun v H' F' O' _ _ _ rr =>?_⟩
 ·cases i with
  | zero =>
   simp at e1 e2;subst e1 e2;exact⟨_,rfl,.kst hS (ac2 ns)⟩
  | succ i=>simp at e1
 ·have rr:Is K F' (.bl true) v:=rr;cases rr;rfl
theorem walk{l:PySem.W.OpenLaw}{q:Program}{loose:List Str}{XP:(Str->Option Value)->Heap->Prop}{YP:World->Heap->Prop}{d:DefRec}{K:Params->Fg9}{f:Fd}{k:Nat}(ht:ae1 f)(hn:l.most=some 63)(hdf:d.params.defaults=[])(hr:Room k callerA)
  (hY:∀(w:World) (h:Heap),YP w h->(K w.params).In h)
  (F:∀(w:World) (mg:Str->Option Value) (fa:Addr) (h:Heap),(K w.params).In h->h.Ns mainGlobals mg->mg d.name=some (.ref fa) ->
   ∃fd:FuncData,(∀(s:Shared) (u:Value),BindsTo s fd ⟨[u],[]⟩ [("script", u)])/\∀base:Heap,(K w.params).In base->base.Ns mainGlobals mg->FnOk l.prog w (K w.params) mg base CX0 k fa fd ["script"] (spOf (K w.params) 1 f)) :
  PySem.W.WalkO q loose XP YP l.row.toRowW d [] (fun f vs=>PySem.call f vs) :=
 L2.alh (n:=63) (k:=k) (x := "script") (CX:=fun _=>CX0) (sp:=fun w=>spOf (K w.params) 1 f) hn (by decide) hdf hr hY F (fun _ H a ns hl _ hS=>aob ht H a ns hl hS) fun _ _ _ _ _ z=>z
section
variable{α β:Type}(ρ:Ro)
@[simp] theorem aub(a:α):ret a ρ=some (.ok a,ρ):=rfl
@[simp] theorem as5(o:Option α):lift o ρ=match o with
 | some a=>some (.ok a,ρ)
 | none=>none:=rfl
@[simp] theorem at3(m:M α)(k:α->M β):M.bind m k ρ=match m ρ with
 | some (.ok a,ρ1)=>k a ρ1
 | some (.exc x,ρ1)=>some (.exc x,ρ1)
 | none=>none:=rfl
@[simp] theorem v_ap(m:M D):M.v m ρ=(m.bind fun d=>ret (.v d)) ρ:=rfl
@[simp] theorem d_ap(m:M Rv):M.d m ρ=(m.bind fun r=>ret r.d) ρ:=rfl
@[simp] theorem aus(d:D):(Rv.v d).d=d:=rfl
@[simp] theorem aua(l:List D):(Rv.fr l).d=.lst l:=rfl
@[simp] theorem at9(d:D)(l:List D):(Rv.tf d l).d=.tup [d,.lst l]:=rfl
@[simp] theorem aur(d:D):(Rv.v d).sl=.val d:=rfl
@[simp] theorem at8(l:List D):(Rv.fr l).sl=.own none l:=rfl
@[simp] theorem asp(i:Nat):mVar i ρ=match ρ[i]? with
 | some (.val d)=>some (.ok d,ρ)
 | some (.own none l)=>some (.ok (.lst l),ρ.set i (.val (.lst l)))
 | _=>none:=rfl
@[simp] theorem aqu(i:Nat):dh i ρ=match ρ[i]? with
 | some (.val d)=>some (.ok d,ρ)
 | some (.own _ l)=>some (.ok (.lst l),ρ)
 | _=>none:=rfl
@[simp] theorem aq0(i:Nat):ajy i ρ=match ρ[i]? with
 | some (.val d)=>some (.ok (.v d),ρ)
 | some (.own none l)=>some (.ok (.fr l),ρ.set i .emp)
 | _=>none:=rfl
@[simp] theorem asr(i:Nat):mOwn i ρ=match ρ[i]? with
 | some (.own _ l)=>some (.ok l,ρ)
 | _=>none:=rfl
@[simp] theorem aph(i:Nat)(l':List D):aa6 i l' ρ=match ρ[i]? with
 | some (.own t _)=>some (.ok (),List.set ρ i (.own t l'))
 | _=>none:=rfl
@[simp] theorem aqy(m1 m2:M D):dj m1 m2 ρ=(m1.bind fun x=>m2.bind fun y=>ret (x,y)) ρ:=rfl
@[simp] theorem api(i:Nat)(m2:M D):cu i m2 ρ=((dh i).bind fun _=>m2.bind fun y=>(dh i).bind fun x=>ret (x,y)) ρ:=rfl
@[simp] theorem aue(g:D->D->Option Rv)(m:M (D×D)):mOp g m ρ=(m.bind fun p=>lift (g p.1 p.2)) ρ:=rfl
@[simp] theorem aud(g:D->Option D)(m:M D):mUn g m ρ=(m.bind fun d=>lift (g d)) ρ:=rfl
@[simp] theorem as4(m1 m2:M D):mAnd m1 m2 ρ=(m1.bind fun d=>(lift (asB d)).bind fun k=>if k=true then m2 else ret (.bl false)) ρ:=rfl
@[simp] theorem aqv(m:M D):aa5 m ρ=(m.bind fun d=>lift (asB d)) ρ:=rfl
@[simp] theorem apg(g:D->D->Option Rv)(m:M (D×D)):oh g m ρ=aa5 (mOp g m).d ρ:=rfl
@[simp] theorem aqz(m:M Bool):aet m ρ=(m.bind fun k=>ret (!k)) ρ:=rfl
@[simp] theorem ass(m1 m2:M Bool):mOrB m1 m2 ρ=(m1.bind fun k=>if k=true then ret true else m2) ρ:=rfl
@[simp] theorem auh(c:Prop)[Decidable c](m1 m2:M α):(if c then m1 else m2) ρ=if c then m1 ρ else m2 ρ:=by split <;> rfl
@[simp] theorem atb(c:Prop)[Decidable c](m1 m2:Sd):(if c then m1 else m2) ρ=if c then m1 ρ else m2 ρ:=by split <;> rfl
@[simp] theorem auq(b:Bool):asB (.bl b)=some b:=rfl
@[simp] theorem at6(b:Int):asI (.int b)=some b:=rfl
@[simp] theorem atj(b:Bool):gNot (.bl b)=some (.bl (!b)):=rfl
@[simp] theorem aq8(b:Int):gNeg (.int b)=some (.int (-b)):=rfl
@[simp] theorem arn(i j:Int):gAdd (.int i) (.int j)=some (.v (.int (i+j))):=rfl
@[simp] theorem ark(l k:List D):gAdd (.tup l) (.tup k)=if l.length+k.length<=capS then some (.v (.tup (l++k))) else none:=rfl
@[simp] theorem arl(l k:List D):gAdd (.lst l) (.lst k)=if l.length+k.length<=capS then some (.fr (l++k)) else none:=rfl
@[simp] theorem arc(f:Int->Int->Option Int)(i j:Int):gInt f (.int i) (.int j)=(f i j).map fun k=>.v (.int k):=rfl
@[simp] theorem atq(i j:Int):fSub i j=some (i - j):=rfl
@[simp] theorem ara(i j:Int):gMul (.int i) (.int j)=(fMul i j).map fun k=>.v (.int k):=rfl
@[simp] theorem aq9(l:List D)(k:Int):gMul (.tup l) (.int k)=if k=1 then some (.v (.tup l)) else if l≠[]/\2<=k/\k < 9223372036854775808/\l.length*k.toNat<=capS then some (.v (.tup (List.replicate k.toNat l).flatten)) else none:=rfl
@[simp] theorem yx(l:List D)(k:Int):gMul (.lst l) (.int k)=if k.natAbs < 9223372036854775808/\l.length*k.toNat<=capS then some (.fr (List.replicate k.toNat l).flatten) else none:=rfl
@[simp] theorem arj(f:Int->Int->Bool)(i j:Int):gCmp f (.int i) (.int j)=some (.v (.bl (f i j))):=rfl
@[simp] theorem asx(t:Ty)(m:M D):mIsi t m ρ=(m.bind fun d=>ret (.bl (isTy t d))) ρ:=rfl
@[simp] theorem asu:mNil ρ=some (.ok [],ρ):=rfl
@[simp] theorem aq4(m:M D)(ms:M (List D)):ak m ms ρ=(m.bind fun d=>ms.bind fun ds=>ret (d::ds)) ρ:=rfl
@[simp] theorem apn(i:Nat)(ms:M (List D)):jo i ms ρ=((dh i).bind fun _=>ms.bind fun ds=>(dh i).bind fun d=>ret (d::ds)) ρ:=rfl
@[simp] theorem asq(m:M (List D)):mTup m ρ=(m.bind fun ds=>lift (gTup ds)) ρ:=rfl
@[simp] theorem asw(m:M (List D)):mLst m ρ=(m.bind fun ds=>lift (gLst ds)) ρ:=rfl
@[simp] theorem aq6(g:List D->Option Rv)(m:M (List D)):jw g m ρ=(m.bind fun ds=>lift (g ds)) ρ:=rfl
@[simp] theorem auk(f:D->Option Rv)(d:D):g1 f [d]=f d:=rfl
@[simp] theorem auj(f:D->D->Option Rv)(d d':D):g2 f [d,d']=f d d':=rfl
@[simp] theorem ap2(l:List D):itemsD (.tup l)=some l:=rfl
@[simp] theorem ap3(l:List D):itemsD (.lst l)=some l:=rfl
@[simp] theorem ap4(l:List D):itemsD (.kst l)=some l:=rfl
@[simp] theorem akg(l:List D):gAll (.lst l)=(w6 l).map fun bs=>.v (.bl (bs.all id)):=rfl
@[simp] theorem aqa(i:Int):ake (.int i)=some (.v (.int i)):=rfl
@[simp] theorem ard(i:Bool):ake (.bl i)=some (.v (.int (if i then 1 else 0))):=rfl
@[simp] theorem atl(d:D)(k:Int):gIx d (.int k)=(itemsD d).bind fun l=>(atI l k).map fun x=>.v x:=rfl
@[simp] theorem aq3(i:Nat)(ml mh:M (Option Int)):nj i ml mh ρ=((dh i).bind fun _=>ml.bind fun lo=>mh.bind fun hi=>(dh i).bind fun d=>lift (gCut d lo hi)) ρ:=rfl
@[simp] theorem aqx(m:M D):mq m ρ=(m.bind fun d=>lift ((asI d).map some)) ρ:=rfl
@[simp] theorem arf(l:List D)(lo hi:Option Int):gCut (.tup l) lo hi=some (.v (.tup (cutD l lo hi))):=rfl
@[simp] theorem arh(l:List D)(lo hi:Option Int):gCut (.lst l) lo hi=some (.fr (cutD l lo hi)):=rfl
@[simp] theorem ari(l:List D)(lo hi:Option Int):gCut (.kst l) lo hi=some (.fr (cutD l lo hi)):=rfl
@[simp] theorem apj(m:M D):uw m ρ=(m.bind fun d=>lift (itemsD d)) ρ:=rfl
@[simp] theorem asz(g:α->Option β)(m:M α):mGet g m ρ=(m.bind fun ds=>lift (g ds)) ρ:=rfl
@[simp] theorem am3(j:Int):yh [.int j]=if j.natAbs < 4611686018427387904 then some (ir 0 j.toNat) else none:=rfl
@[simp] theorem am2(i j:Int):abg [.int i,.int j]=if i.natAbs < 4611686018427387904/\j.natAbs < 4611686018427387904 then some (ir i (j - i).toNat) else none:=rfl
@[simp] theorem am5(i j:Int):ac4 (.int i) (.int j)=if 0 < j/\j < 1000000000000000000000000000000000000000000000000000000000000 then some (.v (.tup [.int (i / j),.int (i % j)])) else none:=rfl
@[simp] theorem asv(i:Nat)(g:List D->List D->Option (D×List D))(ms:M (List D)):mMut i g ms ρ=((mOwn i).bind fun _=>ms.bind fun ds=>(mOwn i).bind fun l=>(lift (g l ds)).bind fun r=>(aa6 i r.2).bind fun _=>ret r.1) ρ:=rfl
@[simp] theorem am8(l:List D)(d:D):zy l [d]=if l.length < capS then some (.non,l++[d]) else none:=rfl
@[simp] theorem aq2:jn ρ=some (.ok [],ρ):=rfl
@[simp] theorem apl(m:M D)(ms:M (List (Option D))):gj m ms ρ=(m.bind fun d=>ms.bind fun ds=>ret (some d::ds)) ρ:=rfl
@[simp] theorem apk(j:Nat)(ms:M (List (Option D))):gw j ms ρ=((dh j).bind fun _=>ms.bind fun ds=>ret (none::ds)) ρ:=rfl
@[simp] theorem auf(f:Fd)(js:List (Option Nat))(ms:M (List (Option D))):mFn f js ms ρ=(ms.bind fun ds ρ=>if okJs ρ js=true then match f (lend ρ js ds) with
  | some (.ok r,ps)=>some (.ok r,putB ρ js ps)
  | some (.exc x,ps)=>some (.exc x,putB ρ js ps)
  | none=>none
 else none) ρ:=rfl
@[simp] theorem aq5(src:List (Option Nat))(mi:M (List D))(b:D->Ro->Option Ro)(mc:M Bool)(me:M D):aai src mi b mc me ρ=(mi.bind fun l ρ=>if okJs ρ src=true then match compD b mc me l [] (lend ρ src (src.map fun _=>none)) with
  | some (.ok ys,ps)=>if ys.length<=capS then some (.ok (.fr ys),putB ρ src ps) else none
  | some (.exc x,ps)=>some (.exc x,putB ρ src ps)
  | none=>none
 else none) ρ:=rfl
@[simp] theorem aqt:okJs ρ []=true:=rfl
@[simp] theorem apd(r:List (Option Nat)):okJs ρ (none::r)=okJs ρ r:=rfl
@[simp] theorem apc(j:Nat)(r:List (Option Nat)):okJs ρ (some j::r)=((match ρ[j]? with
  | some (.own _ _) => !r.contains (some j)
  | _=>true)&&okJs ρ r):=rfl
@[simp] theorem lend_eq(js:List (Option Nat))(ds:List (Option D)):lend ρ js ds=(List.zip js ds).mapIdx fun i p=>adx ρ i p.1 p.2:=rfl
@[simp] theorem anu(i j:Nat)(d:Option D):adx ρ i (some j) d=match ρ[j]? with
  | some (.val d)=>.val d
  | some (.own _ l)=>.own (some i) l
  | _=>.emp:=rfl
@[simp] theorem as6(i:Nat)(d:D):adx ρ i none (some d)=.val d:=rfl
@[simp] theorem as7(i:Nat):adx ρ i none none=.emp:=rfl
@[simp] theorem asb(js:List (Option Nat))(ps:Ro):putB ρ js ps=ρ.mapIdx fun j s=>putS js ps j s:=rfl
@[simp] theorem asa(js:List (Option Nat))(ps:Ro)(j:Nat)(s:Sl):putS js ps j s=match js.findIdx? (fun o=>o==some j) with
 | none=>s
 | some i=>match s with
  | .own t _=>match ps[i]? with
   | some (.own (some i') l')=>if i'=i then .own t l' else .emp
   | _=>.emp
  | s=>s:=rfl
@[simp] theorem aul(nl np:Nat)(g:Sd):fnD nl np g ρ=match g (ρ++List.replicate (nl - np) .emp) with
 | some (.ret r,ρ)=>some (.ok r,ρ.take np)
 | some (.nx,ρ)=>some (.ok (.v .non),ρ.take np)
 | some (.exc x,ρ)=>some (.exc x,ρ.take np)
 | _=>none:=rfl
@[simp] theorem auo:dNx ρ=some (.nx,ρ):=rfl
@[simp] theorem atw(g k:Sd):dSeq g k ρ=match g ρ with
 | some (.nx,ρ1)=>k ρ1
 | r=>r:=rfl
@[simp] theorem aut(m:M α)(k:α->Sd):dM m k ρ=match m ρ with
 | some (.ok x,ρ1)=>k x ρ1
 | some (.exc x,ρ1)=>some (.exc x,ρ1)
 | none=>none:=rfl
@[simp] theorem atx(m:M Rv):dRet m ρ=dM m (fun r ρ=>some (.ret r,ρ)) ρ:=rfl
@[simp] theorem aup(m:M Bool)(g k:Sd):dIf m g k ρ=dM m (fun z=>if z=true then g else k) ρ:=rfl
@[simp] theorem arp(m:M α):agv m ρ=dM m (fun _ ρ=>some (.nx,ρ)) ρ:=rfl
@[simp] theorem atv(i:Nat)(m:M Rv):dSet i m ρ=dM m (fun r ρ=>some (.nx,List.set ρ i r.sl)) ρ:=rfl
@[simp] theorem atz(m:M D)(b:D->Ro->Option Ro):dAsg m b ρ=dM m (fun d ρ=>(b d ρ).map fun ρ'=>(.nx,ρ')) ρ:=rfl
@[simp] theorem atu(i:Nat)(mi m:M D):dSub i mi m ρ=(dM m fun d=>dM (mOwn i) fun _=>dM mi fun k=>dM (mOwn i) fun l=>dM (lift ((asI k).bind (ixN l.length))) fun j=>dM (aa6 i (l.set j d)) fun _=>dNx) ρ:=rfl
@[simp] theorem aty(m:M (List D))(b:D->Ro->Option Ro)(g:Sd):dFor m b g ρ=dM m (forD b g) ρ:=rfl
@[simp] theorem arq(i:Nat)(d:D):gf i d ρ=some (List.set ρ i (.val d)):=rfl
@[simp] theorem at5:bNil [] ρ=some ρ:=rfl
@[simp] theorem ars(b:D->Ro->Option Ro)(bs:List D->Ro->Option Ro)(d:D)(r:List D):wu b bs (d::r) ρ=(b d ρ).bind (bs r):=rfl
@[simp] theorem at4(n:Nat)(bs:List D->Ro->Option Ro)(l:List D):bTup n bs (.tup l) ρ=if l.length=n then bs l ρ else none:=rfl
end
section
variable(c:Prop)[Decidable c](b:Bool)(ρ:Ro)
end
@[simp] theorem abm{n:Nat}(h:n<=1000):n<=capS:=Nat.le_trans h (by decide)
@[simp] theorem ati(ds:List D):gTup ds=if ds.length<=capS then some (.tup ds) else none:=rfl
@[simp] theorem atk(ds:List D):gLst ds=if ds.length<=capS then some (.fr ds) else none:=rfl
def yw(s:Sl):List D->Sl
 | []=>s
 | d::r=>yw (.val d) r
theorem qx{me:M D}{rest:Ro}{f:D->D}:∀{l:List D} {ys:List D} {s:Sl},(∀d∈l,me (.val d::rest)=some (.ok (f d),.val d::rest))->compD (gf 0) (ret true) me l ys (s::rest)=some (.ok (ys++l.map f),yw s l::rest)
 | [],ys,s,_=>by simp[compD,yw]
 | d::r,ys,s,h=>by
  have h1:=h d (List.mem_cons_self ..);have ih:=qx (me:=me) (rest:=rest) (f:=f) (l:=r) (ys:=ys++[f d]) (s:=.val d) fun x hx=>h x (List.mem_cons_of_mem _ hx)
  simp[compD,h1,ih,yw]
theorem vh{mc:M Bool}{me:M D}{rest:Ro}{p:D->Bool}{f:D->D}:∀{l:List D} {ys:List D} {s:Sl},(∀d∈l,mc (.val d::rest)=some (.ok (p d),.val d::rest))->(∀d∈l,p d=true->me (.val d::rest)=some (.ok (f d),.val d::rest)) ->
  compD (gf 0) mc me l ys (s::rest)=some (.ok (ys++(l.filter p).map f),yw s l::rest)
 | [],ys,s,_,_=>by simp[compD,yw]
 | d::r,ys,s,hc,h=>by
  have h0:=hc d (List.mem_cons_self ..);cases hp:p d with
  | true =>
   have h1:=h d (List.mem_cons_self ..) hp;have ih:=vh (mc:=mc) (me:=me) (rest:=rest) (p:=p) (f:=f) (l:=r) (ys:=ys++[f d]) (s:=.val d) (fun x hx=>hc x (List.mem_cons_of_mem _ hx)) fun x hx=>h x (List.mem_cons_of_mem _ hx)
   simp[compD,h0,h1,ih,yw,hp]
  | false =>
   have ih:=vh (mc:=mc) (me:=me) (rest:=rest) (p:=p) (f:=f) (l:=r) (ys:=ys) (s:=.val d) (fun x hx=>hc x (List.mem_cons_of_mem _ hx)) fun x hx=>h x (List.mem_cons_of_mem _ hx)
   simp[compD,h0,ih,yw,hp]
@[simp] theorem aro(b:D->Ro->Option Ro)(g:Sd)(ρ:Ro):forD b g [] ρ=some (.nx,ρ):=rfl
theorem my(b:D->Ro->Option Ro)(g:Sd)(d:D)(ds:List D)(ρ:Ro):forD b g (d::ds) ρ=match b d ρ with
  | none=>none
  | some ρ1=>match g ρ1 with
   | some (.nx,ρ2)=>forD b g ds ρ2
   | some (.cont,ρ2)=>forD b g ds ρ2
   | some (.brk,ρ2)=>some (.nx,ρ2)
   | some (.ret r,ρ2)=>some (.ret r,ρ2)
   | some (.exc x,ρ2)=>some (.exc x,ρ2)
   | none=>none:=rfl
@[simp] theorem atp{α:Type}(p:α->Bool)(a:α)(l:List α):List.findIdx? p (a::l)=if p a=true then some 0 else (List.findIdx? p l).map (· + 1):=by
 rw[List.findIdx?_cons]
@[simp] theorem aum{α:Type}(p:α->Bool):List.findIdx? p ([]:List α)=none:=rfl
theorem aiv(ns:List Int)(lo hi:Option Int):∃ms:List Int,cutD (ns.map D.int) lo hi=ms.map D.int/\ms.length<=ns.length:=by
 refine⟨(ns.drop (HT.sIx ns.length 0 lo)).take (HT.sIx ns.length ns.length hi - HT.sIx ns.length 0 lo),?_,?_⟩
 ·unfold cutD;rw[List.length_map,List.map_take,List.map_drop]
 ·rw[List.length_take,List.length_drop];omega
theorem aft{b:D->Ro->Option Ro}{g:Sd}(Inv:Nat->Ro->Prop):∀{l:List D} {ρ:Ro} (k:Nat),Inv k ρ->(∀i d ρ,l[i]? = some d->Inv (k+i) ρ->∃ρ1 ρ2,b d ρ=some ρ1/\(g ρ1=some (.nx,ρ2)∨g ρ1=some (.cont,ρ2))/\Inv (k+i+1) ρ2) ->
  ∃ρ',forD b g l ρ=some (.nx,ρ')/\Inv (k+l.length) ρ'
 | [],ρ,k,h0,_=>⟨ρ,rfl,h0⟩
 | d::r,ρ,k,h0,hs=>by
  obtain⟨ρ1,ρ2,e1,e2,h1⟩:=hs 0 d ρ rfl h0;obtain⟨ρ',e3,h3⟩:=aft (b:=b) (g:=g) Inv (l:=r) (ρ:=ρ2) (k+1) h1 fun i x ρ hx hi=>by
   have:=hs (i+1) x ρ (by simpa using hx) ((show k+(i+1)=k+1+i by omega)▸hi)
   have e:k+(i+1)+1=k+1+i+1:=by omega
   rw[e] at this;exact this
  refine⟨ρ',?_,?_⟩
  ·rw[my,e1];rcases e2 with e2 | e2 <;> simp only[e2] <;> exact e3
  ·have e:k+(d::r).length=k+1+r.length:=by simp;omega
   rw[e];exact h3
theorem abk{b:D->Ro->Option Ro}{mc:M Bool}{me:M D}(Inv:Nat->List D->Ro->Prop):∀{l:List D} {ys:List D} {ρ:Ro} (k:Nat),Inv k ys ρ ->
  (∀i d ys ρ,l[i]? = some d->Inv (k+i) ys ρ->∃ρ1 ρ2 z,b d ρ=some ρ1/\mc ρ1=some (.ok z,ρ2)/\((z=false/\Inv (k+i+1) ys ρ2)∨(z=true/\∃y ρ3,me ρ2=some (.ok y,ρ3)/\Inv (k+i+1) (ys++[y]) ρ3))) ->
  ∃ys' ρ',compD b mc me l ys ρ=some (.ok ys',ρ')/\Inv (k+l.length) ys' ρ'
 | [],ys,ρ,k,h0,_=>⟨ys,ρ,rfl,h0⟩
 | d::r,ys,ρ,k,h0,hs=>by
  obtain⟨ρ1,ρ2,z,e1,e2,h1⟩:=hs 0 d ys ρ rfl h0;have nxt:∀{ys':List D} {ρ':Ro},Inv (k+0+1) ys' ρ'->∃ys2 ρ2,compD b mc me r ys' ρ'=some (.ok ys2,ρ2)/\Inv (k+1+r.length) ys2 ρ2:=fun{ys' ρ'} hi =>
   abk (b:=b) (mc:=mc) (me:=me) Inv (l:=r) (ys:=ys') (ρ:=ρ') (k+1) hi fun i x ys ρ hx hi=>by
    have:=hs (i+1) x ys ρ (by simpa using hx) ((show k+(i+1)=k+1+i by omega)▸hi)
    have e:k+(i+1)+1=k+1+i+1:=by omega
    rw[e] at this;exact this
  have el:k+(d::r).length=k+1+r.length:=by simp;omega
  rw[el];rcases h1 with⟨rfl,h1⟩ | ⟨rfl,y,ρ3,e3,h1⟩
  ·obtain⟨ys2,ρ4,e4,h4⟩:=nxt h1;exact⟨ys2,ρ4,by simp[compD,e1,e2,e4],h4⟩
  ·obtain⟨ys2,ρ4,e4,h4⟩:=nxt h1;exact⟨ys2,ρ4,by simp[compD,e1,e2,e3,e4],h4⟩
@[simp] theorem atm(neg:Bool)(a b:Int):gEq neg (.int a) (.int b)=some (.v (.bl (if neg then !(a==b) else (a==b)))):=rfl
@[simp] theorem aui(neg:Bool)(a b:Bool):gEq neg (.bl a) (.bl b)=some (.v (.bl (if neg then !(a==b) else (a==b)))):=rfl
section
variable{K:Fg9}{X:Cx}{e a b c:Expr}{es:List Expr}{pos p p2:Pos}
def rmOf(K:Fg9)(g:D->List D->Option D):V->List V->Hp->VK->Prop:=fun x vs H Q=>∃F d ds r,Same F H/\Bor K F H d x/\IsL K F ds vs/\g d ds=some r/\∀v,Is K F r v->Q v H
def ams(i:Nat)(g:D->List D->Option D)(ms:M (List D)):M D:=(dh i).bind fun d0=>(lift (match d0 with
 | .lst _=>some ()
 | _=>none)).bind fun _=>ms.bind fun ds=>(dh i).bind fun d=>lift (g d ds)
theorem aip{i:Nat}{name:Str}{id:String}{g:D->List D->Option D}{ms:M (List D)}{apos cpos:Pos}(slot:Slot "list" name id)(hty:typeOf (.builtin id)=pure (.type "method_descriptor"))(hm:X.K=K->MtR X id (rmOf K g))(ho:PE X a (tVar i))(ha:ED K X (e::es) ms)
  (hbase:attributeBase a name X.env (eval a X.env)=eval a X.env:=by rfl)
  (hfew:((backTo cpos (starEach (e::es) X.env)).all (fun x => !x.1)&&(backToKw cpos (keywordEach [] X.env)).all (fun x=>x.1.isSome)
   && decide ((e::es).length+([]:List Keyword).length+(if ([]:List Keyword).isEmpty then 0 else 1) < 30))=true:=by rfl)
  (hline:(apos.endLine==cpos.line)=true:=by rfl) (hs:starEach (e::es) X.env=(false,eval e X.env)::starEach es X.env:=by rfl) (hplain:(backTo cpos (starEach es X.env)).any (·.1)=false:=by rfl) :
  EV K X (.Call (.Attribute a name apos) (e::es) [] cpos) (ams i g ms):=EV.mk fun hk=>PE.imp (ahw PySem.F.plainAttrs_list slot hty (hm hk) ho (ha hk) hbase hfew hline hs hplain) fun σ H Q z9=>by
 obtain⟨tg,F,ρ,d,ρ',G,em,q⟩:=z9;obtain⟨d0,ρ0,e0,em1⟩:=au em;obtain⟨u0,ρ9,e9,em2⟩:=au em1;obtain⟨ds,ρ1,e1,em3⟩:=au em2;obtain⟨d1,ρ2,e2,em4⟩:=au em3;obtain⟨e3,rfl⟩:=dg em4;obtain⟨e9,rfl⟩:=dg e9;obtain⟨rfl,v,hv,bv⟩:=jx G e0;have ty:∃b,v=.ref b/\∃xs,SqL X.K H b xs:=by
  cases d0 with
  | lst l =>
   obtain⟨b,xs,rfl,hb,_⟩:=bv.lst G.sub;exact⟨b,rfl,xs,SqL.of hb⟩
  | _=>cases e9
 obtain⟨b,rfl,hty'⟩:=ty;refine⟨_,hv,.inl ⟨rfl,hty'⟩,tg,F,_,ds,ρ1,G,e1,fun vs H1 F1 G1 x1 r1 =>?_⟩
 obtain⟨rfl,v',hv',b'⟩:=jx G1 e2;rw[hv] at hv';cases hv';exact⟨F1,d1,ds,d,G1.sub,b',r1,e3,fun w iw=>q w H1 F1 G1 x1 iw⟩
def aik(d:D)(ds:List D):Option D:=match d,ds with
 | .lst l,[x]=>if okD 30 x&&l.all (okD 30) then some (.int (l.countP fun y=>eqD y x)) else none
 | _,_=>none
theorem vg{zv:List (Addr×Obj)}{σ:L2.St}{F H:Hp}{s:Shared}(I:Inv X zv σ H s)(g:Same F H){a:D}{n:Nat}:∀{ds:List D} {vs:List V} {us:List Value},IsL X.K F ds vs->ds.all (okD n)=true->Vals vs us ->
  us.countP (yj s.heap (toPy a))=ds.countP (fun y=>eqD y a)
 | _,_,_,.nil,_,r=>by cases r;rfl
 | _,_,_,.cons h t,k,r=>by
  rw[List.all_cons,Bool.and_eq_true] at k;cases r with
  | cons r1 r2 =>
   obtain⟨as,ra⟩:=nu I g h k.1 r1;obtain⟨c,p⟩:=ue _ _ k.1;rw[List.countP_cons,List.countP_cons,vg I g t k.2 r2,aap ra c];rfl
theorem ajv(hu:X.A.units+64 < cLine):X.K=K->MtR X "list.count" (rmOf K aik):=fun hk=>by
 subst hk;intro zv s σ H x vs v us Q I rx rv ⟨F,d,ds,r,g,bd,il,eg,q⟩
 match d,ds,eg with
 | .lst l,[y],eg =>
  have eg:(if okD 30 y&&l.all (okD 30) then some (D.int (l.countP fun z=>eqD z y)) else none)=some r:=eg
  split at eg
  ·rename_i ho;rw[Bool.and_eq_true] at ho;cases eg;cases il with
   | cons hy t =>
    cases t;obtain⟨u,rfl,ru⟩:=rv.one;obtain⟨p,ws,rfl,ea,hl⟩:=bd.lst g;cases rx;obtain⟨its,rw',pl,_⟩:=I.list (SqL.of ea);obtain⟨as,ra⟩:=nu I g hy ho.1 ru;obtain⟨_,z⟩:=qy I g (a:=y) hl ho.2 rw';obtain⟨⟨cls,dd,data,sl⟩,h1,hc,n,hd⟩:=pl.isList;simp only at hc hd;subst hc hd;refine call_meets PySem.F.slot_list_count ⟨_,h1,rfl⟩ PySem.F.entry_list_count (PySem.F.args_list_count_2 _ _) (SeqAt.list_countAt p its.toArray n dd sl u (yj s.heap (toPy y))) ⟨h1,fun w hw =>?_,?_⟩
    ·exact qu (A:=X.A) hu ra ho.1 z w (by simpa using hw)
    ·refine⟨.int (l.countP fun z=>eqD z y),H,I.tok _,⟨s.toks,?_⟩,q _ (.int _)⟩
     rw[vg I g (a:=y) hl ho.2 rw']
  ·cases eg
def aij(d:D)(ds:List D):Option D:=match d,ds with
 | .tup l,[x]=>if okD 30 x&&l.all (okD 30) then some (.int (l.countP fun y=>eqD y x)) else none
 | _,_=>none
theorem ah6(hu:X.A.units+64 < cLine):X.K=K->MtR X "tuple.count" (rmOf K aij):=fun hk=>by
 subst hk;intro zv s σ H x vs v us Q I rx rv ⟨F,d,ds,r,g,bd,il,eg,q⟩
 match d,ds,eg with
 | .tup l,[y],eg =>
  have eg:(if okD 30 y&&l.all (okD 30) then some (D.int (l.countP fun z=>eqD z y)) else none)=some r:=eg
  split at eg
  ·rename_i ho;rw[Bool.and_eq_true] at ho;cases eg;cases il with
   | cons hy t =>
    cases t;obtain⟨u,rfl,ru⟩:=rv.one;obtain⟨p,ws,rfl,ea,hl⟩:=bd.tup;cases rx;obtain⟨its,rw',pl,_⟩:=I.tuple (SqT.of (g _ _ ea));obtain⟨as,ra⟩:=nu I g hy ho.1 ru;obtain⟨_,z⟩:=qy I g (a:=y) hl ho.2 rw';obtain⟨⟨cls,dd,data,sl⟩,h1,hc,n,hd⟩:=pl;simp only at hc hd;subst hc hd;refine call_meets PySem.F.slot_tuple_count ⟨_,h1,rfl⟩ PySem.F.entry_tuple_count (PySem.F.args_tuple_count_2 _ _) (SeqAt.tuple_countAt p its.toArray n dd sl u (yj s.heap (toPy y))) ⟨h1,fun w hw =>?_,?_⟩
    ·exact qu (A:=X.A) hu ra ho.1 z w (by simpa using hw)
    ·refine⟨.int (l.countP fun z=>eqD z y),H,I.tok _,⟨s.toks,?_⟩,q _ (.int _)⟩
     rw[vg I g (a:=y) hl ho.2 rw']
  ·cases eg
theorem PE.or{t1 t2:TE}(h1:PE X e t1)(h2:PE X e t2):PE X e fun σ H Q=>t1 σ H Q∨t2 σ H Q:=fun zv s σ H Q I h=>h.elim (h1 zv s σ H Q I) (h2 zv s σ H Q I)
def ac5(d:D)(ds:List D):Option D:=match d with
 | .lst _=>aik d ds
 | .tup _=>aij d ds
 | _=>none
def ah7(i:Nat)(ms:M (List D)):M D:=(dh i).bind fun d0=>ms.bind fun ds=>(dh i).bind fun d=>(lift (match d0,d with
 | .lst _,.lst _=>some ()
 | .tup _,.tup _=>some ()
 | _,_=>none)).bind fun _=>lift (ac5 d ds)
theorem akp{d0 d:D}{u:Unit} (h:(match d0,d with
 | .lst _,.lst _=>some ()
 | .tup _,.tup _=>some ()
 | _,_=>none)=some u):(∃l l1,d0=.lst l/\d=.lst l1)∨∃l l1,d0=.tup l/\d=.tup l1:=by
 split at h
 ·exact .inl ⟨_,_,rfl,rfl⟩
 ·exact .inr ⟨_,_,rfl,rfl⟩
 ·cases h
theorem afz{i:Nat}{ms:M (List D)}{apos cpos:Pos}(hu:X.A.units+64 < cLine)(ho:PE X a (tVar i))(ha:ED K X (e::es) ms)
  (hbase:attributeBase a "count" X.env (eval a X.env)=eval a X.env:=by rfl)
  (hfew:((backTo cpos (starEach (e::es) X.env)).all (fun x => !x.1)&&(backToKw cpos (keywordEach [] X.env)).all (fun x=>x.1.isSome)
   && decide ((e::es).length+([]:List Keyword).length+(if ([]:List Keyword).isEmpty then 0 else 1) < 30))=true:=by rfl)
  (hline:(apos.endLine==cpos.line)=true:=by rfl) (hs:starEach (e::es) X.env=(false,eval e X.env)::starEach es X.env:=by rfl) (hplain:(backTo cpos (starEach es X.env)).any (·.1)=false:=by rfl) :
  EV K X (.Call (.Attribute a "count" apos) (e::es) [] cpos) (ah7 i ms):=EV.mk fun hk=>PE.imp (PE.or (ahw PySem.F.plainAttrs_list PySem.F.slot_list_count PySem.F.type_list_count (ajv hu hk) ho (ha hk) hbase hfew hline hs hplain) (ahw PySem.F.plainAttrs_tuple PySem.F.slot_tuple_count PySem.F.type_tuple_count (ah6 hu hk) ho (ha hk) hbase hfew hline hs hplain)) fun σ H Q z9=>by
 obtain⟨tg,F,ρ,d,ρ',G,em,q⟩:=z9;obtain⟨d0,ρ0,e0,em1⟩:=au em;obtain⟨ds,ρ1,e1,em3⟩:=au em1;obtain⟨d1,ρ2,e2,em4⟩:=au em3;obtain⟨u0,ρ9,e9,em5⟩:=au em4;obtain⟨e3,rfl⟩:=dg em5;obtain⟨g9,rfl⟩:=dg e9;obtain⟨rfl,v,hv,bv⟩:=jx G e0;rcases akp g9 with⟨l,l1,rfl,rfl⟩ | ⟨l,l1,rfl,rfl⟩
 ·obtain⟨b,xs,rfl,hb,_⟩:=bv.lst G.sub;refine .inl ⟨_,hv,.inl ⟨rfl,xs,SqL.of hb⟩,tg,F,_,ds,ρ1,G,e1,fun vs H1 F1 G1 x1 r1 =>?_⟩
  obtain⟨rfl,v',hv',b'⟩:=jx G1 e2;rw[hv] at hv';cases hv';exact⟨F1,.lst l1,ds,d,G1.sub,b',r1,e3,fun w iw=>q w H1 F1 G1 x1 iw⟩
 ·obtain⟨b,xs,rfl,hb,_⟩:=bv.tup;refine .inr ⟨_,hv,.inr (.inl ⟨rfl,.inr ⟨xs,G.sub _ _ hb⟩⟩),tg,F,_,ds,ρ1,G,e1,fun vs H1 F1 G1 x1 r1 =>?_⟩
  obtain⟨rfl,v',hv',b'⟩:=jx G1 e2;rw[hv] at hv';cases hv';exact⟨F1,.tup l1,ds,d,G1.sub,b',r1,e3,fun w iw=>q w H1 F1 G1 x1 iw⟩
def aih(d:D)(ds:List D):Option D:=match d,ds with
 | .lst l,[x]=>if okD 30 x&&l.all (okD 30) then (l.findIdx? fun y=>eqD y x).map fun i=>.int i else none
 | _,_=>none
theorem agc{zv:List (Addr×Obj)}{σ:L2.St}{F H:Hp}{s:Shared}(I:Inv X zv σ H s)(g:Same F H){a:D}{n:Nat}{ds:List D}{vs:List V}{us:List Value}(il:IsL X.K F ds vs)(k:ds.all (okD n)=true)(rv:Vals vs us)(i:Nat)(hi:i < us.length)(hd:i < ds.length) :
  yj s.heap (toPy a) us[i]=eqD ds[i] a:=by
 obtain⟨v,hv,iv⟩:=il.get (i:=i) (List.getElem?_eq_getElem hd);obtain⟨u,hu,ru⟩:=rv.get hv;rw[List.getElem?_eq_getElem hi] at hu;cases hu;have ko:okD n ds[i]=true:=List.all_eq_true.mp k _ (List.getElem_mem hd);obtain⟨as,ra⟩:=nu I g iv ko ru;rw[aap ra (ue _ _ ko).1];rfl
theorem afh(hu:X.A.units+64 < cLine):X.K=K->MtR X "list.index" (rmOf K aih):=fun hk=>by
 subst hk;intro zv s σ H x vs v us Q I rx rv ⟨F,d,ds,r,g,bd,il,eg,q⟩
 match d,ds,eg with
 | .lst l,[y],eg =>
  have eg:(if okD 30 y&&l.all (okD 30) then (l.findIdx? fun z=>eqD z y).map (fun i=>D.int i) else none)=some r:=eg
  split at eg
  ·rename_i ho;rw[Bool.and_eq_true] at ho;cases ei:l.findIdx? (fun z=>eqD z y) with
   | none=>rw[ei] at eg;cases eg
   | some j =>
    rw[ei] at eg;cases eg;obtain⟨hj,hhit,hno⟩:=List.findIdx?_eq_some_iff_getElem.mp ei;cases il with
    | cons hy t =>
     cases t;obtain⟨u,rfl,ru⟩:=rv.one;obtain⟨p,ws,rfl,ea,hl⟩:=bd.lst g;cases rx;obtain⟨its,rw',pl,hz⟩:=I.list (SqL.of ea);have l1:=hl.length;have l2:=rw'.length;rw[sizeLine_eq] at hz;obtain⟨as,ra⟩:=nu I g hy ho.1 ru;obtain⟨_,z⟩:=qy I g (a:=y) hl ho.2 rw';obtain⟨⟨cls,dd,data,sl⟩,h1,hc,n,hd⟩:=pl.isList;simp only at hc hd;subst hc hd;have hj':j < its.toArray.size:=by rw[List.size_toArray];omega
     refine call_meets PySem.F.slot_list_index ⟨_,h1,rfl⟩ PySem.F.entry_list_index (PySem.F.args_list_index_2 _ _) (SeqAt.list_indexAt p its.toArray n dd sl u (yj s.heap (toPy y)) j hj' (by omega) ?_ fun m hm hlt =>?_) ⟨h1,fun w hw =>?_,?_⟩
     ·have:=agc I g (a:=y) hl ho.2 rw' j (by omega) hj
      simpa[this] using hhit
     ·rw[List.size_toArray] at hm;have:=agc I g (a:=y) hl ho.2 rw' m hm (by omega)
      have hn:=hno m hlt
      simpa[this] using hn
     ·exact qu (A:=X.A) hu ra ho.1 z w (by simpa using hw)
     ·exact⟨.int j,H,I.tok _,⟨_,rfl⟩,q _ (.int _)⟩
  ·cases eg
section
variable(ρ:Ro)
@[simp] theorem aq1(i:Nat)(g:D->List D->Option D)(ms:M (List D)):ams i g ms ρ=((dh i).bind fun d0=>(lift (match d0 with
 | .lst _=>some ()
 | _=>none)).bind fun _=>ms.bind fun ds=>(dh i).bind fun d=>lift (g d ds)) ρ:=rfl
@[simp] theorem anw(l:List D)(x:D):aik (.lst l) [x]=if okD 30 x&&l.all (okD 30) then some (.int (l.countP fun y=>eqD y x)) else none:=rfl
@[simp] theorem anv(l:List D)(x:D):aih (.lst l) [x]=if okD 30 x&&l.all (okD 30) then (l.findIdx? fun y=>eqD y x).map (fun i=>D.int i) else none:=rfl
end
end
end Dn
namespace En
open PySem PySem.Builtin
def It1(k:Bool)(h:Heap)(it l:Addr)(i:Nat):Prop:=cond k (h.IsTupleIter it l i) (h.IsListIter it l i)
def Sq1(k:Bool)(h:Heap)(l:Addr)(xs:Array Value):Prop:=cond k (h.IsTuple l xs) (h.IsList l xs)
section
variable{prog:Program}{w:World}{A:Around}{E:Value->Shared->Prop}{s:Shared}
theorem amj{it t:Addr}{i:Nat}{xs:Array Value}{x:Value}{Q:Value->Shared->Prop}(h1:s.heap.IsTupleIter it t i)(h2:s.heap.IsTuple t xs)(hx:xs[i]? = some x)
  (q:∀h',h'.IsTupleIter it t (i+1)->Heap.SameBut it s.heap h'->Q x { s with heap:=h' }):wpAny (model prog w) A (SmallTypes.nextOf (.ref it)) Q E s:=by
 obtain⟨o1,e1,c1,d1⟩:=id h1;obtain⟨o2,e2,_,k2,d2⟩:=h2;have nn:¬((Value.ref t==Value.none)=true):=Bool.false_ne_true;unfold SmallTypes.nextOf;refine wpAny_bind (wpAny_callSpecial?_slot (name:=Str.ofString "__next__") h1.typeIs F.slot_tuple_iterator_next (wpAny_call_entry F.slot_tuple_iterator_next h1.typeIs F.entry_tuple_iterator_next ?_ (F.args_tuple_iterator_next_1 _)));refine wpAny_bind (m:=field (.ref it) 0) (wpAny_field e1 d1 (x:=.ref t) rfl ?_);show wpAny _ _ (if (Value.ref t==Value.none)=true then _ else (field (.ref it) 1 >>= _)) _ _ s;rw[if_neg nn]
 refine wpAny_bind (m:=field (.ref it) 1) (wpAny_field e1 d1 (x:=.int i 0) rfl ?_);refine wpAny_bind (m:=seqItems? (.ref t)) (wpAny_seqItems e2 d2 ?_);simp only[Int.toNat_natCast,hx];refine wpAny_bind (wpAny_setField e1 d1 (by simp) (wpAny_pure ⟨x,rfl,wpAny_pure (q _ ?_ (Heap.SameBut.update ..))⟩))
 refine⟨_,Heap.get?_update_self _ e1 (Obj.isFreed_of_fields (Obj.data_mapFields d1 _)),(Obj.cls_mapFields ..).trans c1,?_⟩;rw[Obj.data_mapFields d1];simp[rawInt]
theorem anh{it t:Addr}{i:Nat}{xs:Array Value}{Q:Value->Shared->Prop}(hh:A.handled=none)(h1:s.heap.IsTupleIter it t i)(h2:s.heap.IsTuple t xs)(hx:xs[i]? = none)
  (q:∀h' e,Heap.ExtBut it s.heap h'->(∃o,h'.get? e=some o/\o.cls=.type "StopIteration")->E (.ref e) { s with heap:=h' }):wpAny (model prog w) A (SmallTypes.nextOf (.ref it)) Q E s:=by
 obtain⟨o1,e1,c1,d1⟩:=id h1;obtain⟨o2,e2,_,k2,d2⟩:=h2;have nn:¬((Value.ref t==Value.none)=true):=Bool.false_ne_true;unfold SmallTypes.nextOf;refine wpAny_bind (wpAny_callSpecial?_slot (name:=Str.ofString "__next__") h1.typeIs F.slot_tuple_iterator_next (wpAny_call_entry F.slot_tuple_iterator_next h1.typeIs F.entry_tuple_iterator_next ?_ (F.args_tuple_iterator_next_1 _)));refine wpAny_bind (m:=field (.ref it) 0) (wpAny_field e1 d1 (x:=.ref t) rfl ?_);show wpAny _ _ (if (Value.ref t==Value.none)=true then _ else (field (.ref it) 1 >>= _)) _ _ s;rw[if_neg nn]
 refine wpAny_bind (m:=field (.ref it) 1) (wpAny_field e1 d1 (x:=.int i 0) rfl ?_);refine wpAny_bind (m:=seqItems? (.ref t)) (wpAny_seqItems e2 d2 ?_);simp only[Int.toNat_natCast,hx];refine wpAny_bind (wpAny_rule (wpAny_bind (wpAny_setField e1 d1 (by simp) ?_)))
 refine wpAny_bind (m:=newExc (.type "StopIteration") []) ?_;simp only[newExc,newTuple];refine wpAny_bind (wpAny_newObj_type ?_ (by size_fits))
 refine wpAny_bind (m:=firstArgMember _ _) (wpAny_of_eq (a:=Value.none) (by first | rfl | (simp only[firstArgMember];rfl)) (wpAny_newObj_type ?_ (by size_fits)))
 simp only[raiseNew];refine wpAny_bind (wpAny_handled ?_);first | rw[show A.in1.handled=none from hh] | rw[hh]
 refine wpAny_bind (wpAny_pure (wpAny_throw (q _ _ ?_ ⟨_,Heap.get?_push_size _ rfl,rfl⟩)));exact((Heap.SameBut.update ..).extBut.push _).push _
theorem src(hh:A.handled=none)(k:Bool)(it l:Addr)(ne:l≠it)(xs:Array Value):Draws prog w A it [it,l] xs.size (fun i v=>xs[i]? = some v) (fun i h=>It1 k h it l i/\Sq1 k h l xs):=by
 cases k with
 | false=>exact Draws.list hh it l ne xs
 | true=>exact{
   live:=fun _ _ z=>let ⟨o,e,_⟩:=z.1;⟨o,e⟩
   frame:=fun _ _ _ z kk=>⟨(let ⟨o,e,r⟩:=z.1;⟨o,kk it (by simp) o e,r⟩),(let ⟨o,e,r⟩:=z.2;⟨o,kk l (by simp) o e,r⟩)⟩
   item:=fun i s Q E hi z q=>amj z.1 z.2 (x:=xs[i]) (by simp[hi]) fun h' z' sb=>q _ h' s.toks (by simp[hi]) ⟨z',Heap.IsTuple.extBut z.2 sb.extBut ne⟩ sb
   done:=fun s Q E z q=>anh hh z.1 z.2 (by simp) q }
theorem It1.at{k:Bool}{h h':Heap}{it l:Addr}{i:Nat}(x:It1 k h it l i)(e:∀o,h.get? it=some o->h'.get? it=some o):It1 k h' it l i:=by
 cases k <;> exact(let ⟨o,z,r⟩:=x;⟨o,e _ z,r⟩)
theorem It1.got{k:Bool}{h:Heap}{it l:Addr}{i:Nat}(x:It1 k h it l i):∃o,h.get? it=some o/\∀v,o.data≠.cell v:=by
 cases k <;> exact(let ⟨o,z,_,r⟩:=x;⟨o,z,fun v e=>by rw[r] at e;cases e⟩)
theorem Sq1.at{k:Bool}{h h':Heap}{l:Addr}{xs:Array Value}(x:Sq1 k h l xs)(e:∀o,h.get? l=some o->h'.get? l=some o):Sq1 k h' l xs:=by
 cases k <;> exact(let ⟨o,z,r⟩:=x;⟨o,e _ z,r⟩)
theorem Sq1.got{k:Bool}{h:Heap}{l:Addr}{xs:Array Value}(x:Sq1 k h l xs):∃o,h.get? l=some o:=by
 cases k <;> exact(let ⟨o,z,_⟩:=x;⟨o,z⟩)
theorem ap1{k:Bool}{l:Addr}{xs:Array Value}{Q:Value->Shared->Prop}(h:Sq1 k s.heap l xs)
  (q:Q (.ref s.heap.objs.size) { s with heap:=s.heap.push { cls:=.type (cond k "tuple_iterator" "list_iterator"),data:=.fields #[.ref l,.int 0 0] } }):wpAny (model prog w) A (pyIter (.ref l)) Q E s:=by
 cases k with
 | false=>exact wpAny_pyIter_list h q
 | true=>exact wpAny_pyIter_tuple h q
theorem amw{k:Bool}{h:Heap}{l a:Addr}(e:h.get? a=some { cls:=.type (cond k "tuple_iterator" "list_iterator"),data:=.fields #[.ref l,.int 0 0] }):It1 k h a l 0:=by
 cases k <;> exact⟨_,e,rfl,rfl⟩
end
set_option maxRecDepth 100000
abbrev eh1(k:Bool)(h:Heap)(l:Addr):Heap:=h.push { cls:=.type (cond k "tuple_iterator" "list_iterator"),data:=.fields #[.ref l,.int 0 0] }
abbrev eh2(k:Bool)(h:Heap)(l:Addr):Heap:=(eh1 k h l).push { cls:=.type "enumerate", data:=.fields #[.none,.bool false,.ref h.objs.size,rawInt 0,.none,.none] }
theorem amq(k:Bool)(l:Addr)(o:Obj)(xs:Array Value) :
  Meets (Builtin.«enumerate.__new__» ⟨[.type "enumerate", .ref l],[]⟩) (fun _ R s=>s.heap.get? l=some o/\Sq1 k s.heap l xs/\R (.ok (.ret (.ref (eh1 k s.heap l).objs.size))) { s with heap:=eh2 k s.heap l }) :=
 .of_wp fun prog w A R s h=>by
  obtain⟨hp,g,d,tk,os⟩:=s;obtain⟨ho,r1,h⟩:=h;have sb:=sub_enumerate;have r1:Sq1 k (Shared.heap ⟨hp,g,d,tk,os⟩) l xs:=r1;wp_walk using AutoSeq1.wpAny_loadPart' ho;refine wpAny_stack_any fun st=>wpAny_pure ?_
  split
  ·rename_i c _ _ _ _ _;cases(c==Value.type "enumerate") <;> (wp_walk using AutoSeq1.wpAny_loadPart' ho,ap1 r1;exact⟨_,rfl,h⟩)
  ·wp_walk using AutoSeq1.wpAny_loadPart' ho,ap1 r1;exact⟨_,rfl,h⟩
theorem ai5{prog:Program}{w:World}{A:Around}{E:Value->Shared->Prop}{s:Shared}{k:Bool}{l:Addr}{xs:Array Value}{Q:Value->Shared->Prop}(s1:Sq1 k s.heap l xs)
  (q:∀h',IsEnum h' (s.heap.objs.size+1) s.heap.objs.size 0 .none->It1 k h' s.heap.objs.size l 0->h'.objs.size=s.heap.objs.size+2->(∀b o,s.heap.get? b=some o->h'.get? b=some o)->Q (.ref (s.heap.objs.size+1)) { s with heap:=h' }) :
  wpAny (model prog w) A (call (.type "enumerate") [.ref l]) Q E s:=by
 obtain⟨o,ho⟩:=s1.got;refine callType_new F.called_enumerate (by decide) (F.typeCall_enumerate_1 _) (F.newCall_enumerate_1 _) (fun obj=>F.args_object_init_2 obj _) F.entry_enumerate_new (amq k l o xs) ⟨ho,s1,?_⟩
 have z1:(eh1 k s.heap l).objs.size=s.heap.objs.size+1:=Heap.size_push ..
 have g2:(eh2 k s.heap l).get? (eh1 k s.heap l).objs.size=some _:=Heap.get?_push_size _ rfl;have g1:(eh2 k s.heap l).get? s.heap.objs.size=some _:=Heap.get?_push_of_some _ (Heap.get?_push_size _ rfl);rw[z1] at g2;show _/\_;rw[z1];exact⟨⟨_,g2,rfl⟩,q _ g2 (amw g1) (by rw[Heap.size_push,z1]) fun b o x=>Heap.get?_push_of_some _ (Heap.get?_push_of_some _ x)⟩
end En
namespace Mn
open L2 En
def SqK(k:Bool)(K:Fg9)(H:Hp)(a:Addr)(xs:List V):Prop:=cond k (SqT K H a xs) (SqL K H a xs)
theorem ag6{xs:List V}{us:List Value}(r:Vals xs us){i:Nat}{x:V}{u:Value}(h:xs[i]? = some x)(h':us.toArray[i]? = some u):RelV x u:=by
 obtain⟨u',e,z⟩:=r.get h;have:us[i]? = some u:=by simpa using h'
 rw[this] at e;cases e;exact z
section
variable{X:Cx}{zv:List (Addr×Obj)}{σ:L2.St}{H:Hp}{s:Shared}{h':Heap}{a:Addr}{xs ys:List V}{k:Bool}
theorem aid(I:Inv X zv σ H s)(h:SqK k X.K H a xs):∃its:List Value,Vals xs its/\Sq1 k s.heap a its.toArray:=by
 cases k with
 | false =>
  obtain⟨its,r,p,_⟩:=I.list h;exact⟨its,r,p.isList⟩
 | true =>
  obtain⟨its,r,p,_⟩:=I.tuple h;exact⟨its,r,p⟩
theorem amy(I:Inv X zv σ H s)(h:SqK k X.K H a xs)(h2:SqK k X.K H a ys):xs=ys:=by
 cases k with
 | false=>exact I.list_inj h h2
 | true=>exact I.tuple_inj h h2
theorem ab7{t':Nat}{fp:List Addr}(I:Inv X zv σ H s)(kk:∀b o,b∉fp->s.heap.get? b=some o->h'.get? b=some o)(hf:∀b∈fp,FpOk X zv H b):Inv X zv σ H { s with heap:=h',toks:=t' }:=by
 have nit:∀b u,H b=some u->b∉fp:=fun b u e z=>by rw[(hf b z).1] at e;cases e
 have nL:X.env.locals∉fp:=fun z=>(hf _ z).2.1 rfl
 refine I.step (g':=s.gens) (d':=s.drawn) (ch:=fp) (fun b hb=>⟨(hf b hb).2.2.2.1,(hf b hb).2.1,(hf b hb).2.2.2.2.1,(hf b hb).2.2.2.2.2⟩) (fun b o _ _ hc e _=>kk b o hc e) (fun b o _ _ hc e _=>⟨o.slots,kk b o hc e⟩) (fun _ _ _ _ n=>n)
  (fun b o hc e=>⟨o,kk b o hc e⟩) (fun _ _ e=>e) (fun _ _ _ e=>e) (fun b ps e=>⟨#[],by rw[e];simp⟩) (fun m hm =>?_) (fun b u e =>?_) I.bare
 ·obtain⟨o,es,ep,ho,r⟩:=hm;exact⟨o,es,ep,kk _ o nL ho,r⟩
 ·refine(I.hok b u e).stay (fun c v hc q=>kk c v ?_ q) (fun _ q=>q) fun _ _ q=>q
  rcases hc with z | z
  ·rw[z];exact nit b u e
  ·exact nit c _ z
theorem amx{t':Nat}{fp:List Addr}{vs:List V}{us:List Value}(I:Inv X zv σ H s)(kk:∀b o,b∉fp->s.heap.get? b=some o->h'.get? b=some o)(hf:∀b∈fp,FpOk X zv H b)(hb:∀b∈fp,b < s.heap.objs.size)
  (r:Vals vs us) (hz:vs.length<=sizeLine) (ht:h'.get? s.heap.objs.size=some { cls:=.type "tuple", data:=.seq us.toArray }):Inv X zv σ (upd H s.heap.objs.size (.tup vs)) { s with heap:=h',toks:=t' }:=by
 have I1:=I.laid (h':=s.heap.push { cls:=.type "tuple", data:=.seq us.toArray }) (t':=s.toks) (a:=s.heap.objs.size) (o:=.tup vs) (fun b u e=>Heap.get?_push_of_some _ e) (Nat.le_refl _) ⟨hz,us,r,⟨_,Heap.get?_push_size _ rfl,rfl,rfl,_,rfl⟩⟩
 have k2:∀b o,b∉fp->(s.heap.push { cls:=.type "tuple", data:=.seq us.toArray }).get? b=some o->h'.get? b=some o:=fun b o hn e=>by
  rcases Heap.get?_push_cases e with⟨rfl,rfl⟩ | e
  ·exact ht
  ·exact kk b o hn e
 have f2:∀b∈fp,FpOk X zv (upd H s.heap.objs.size (.tup vs)) b:=fun b hb'=>by
  obtain⟨f0,f⟩:=hf b hb';exact⟨by rw[bj (Nat.ne_of_lt (hb b hb'))];exact f0,f⟩
 have R:=ab7 (t':=t') (h':=h') (fp:=fp) I1 k2 f2;exact R
end
theorem ak7{k:Bool}{h:Heap}{it a l:Addr}{i:Nat}{xs:Array Value}(x:It1 k h it l i){k':Bool}(y:Sq1 k' h a xs):a≠it:=fun e=>by
 subst e;cases k <;> cases k' <;> exact(by
  obtain⟨o,e1,c1,_⟩:=x;obtain⟨o',e2,c2,_⟩:=y;rw[e1] at e2;cases e2;rw[c1] at c2;simp at c2)
theorem ar6{h:Heap}{a b:Addr}{o:Obj}{n:String}{k:Bool}{xs:Array Value}(e:h.get? b=some o)(c:o.cls=.type n)(hn:n ≠ "list" /\ n ≠ "tuple")(y:Sq1 k h a xs):a≠b:=fun z=>by
 subst z;cases k <;> exact(by
  obtain⟨o',e2,c2,_⟩:=y;rw[e] at e2;cases e2;rw[c] at c2;simp at c2
  first | exact hn.1 c2 | exact hn.2 c2)
def Ite(K:Fg9)(k:Bool)(a:Addr):It :=
 ⟨fun i H=>∃xs x,SqK k K H a xs/\xs[i]? = some x,fun i H x H'=>∃q v,H q=none/\x=.ref q/\H'=upd H q (.tup [.int i,v])/\∀xs,SqK k K H a xs->xs[i]? = some v,fun i H=>∃xs,SqK k K H a xs/\xs.length=i⟩
theorem ag8{P:Program}{w:World}{K:Fg9}{elts:List Expr}{n:Nat}{pos:Pos}(k:Bool)(a e it:Addr)(ne:e≠it) :
  Turn P w K (.Tuple elts n pos) (Ite K k a) [e,it] e (fun i h=>(∃old,IsEnum h e it i old)/\It1 k h it a i) where
 mem:=by simp
 obj:=fun i h st b hb=>by
  have hb:b=e∨b=it:=by simpa using hb
  rcases hb with rfl | rfl
  ·obtain⟨old,z⟩:=st.1;exact⟨_,z,fun v z=>by cases z⟩
  ·exact st.2.got
 keep:=fun i h h' st kk=>by
  obtain⟨⟨old,z⟩,y⟩:=st;exact⟨⟨old,kk e (by simp) _ z⟩,y.at fun o z=>kk it (by simp) o z⟩
 item:=by
  intro X hP hw hK hc i zv s σ H E I hf st hg;subst hP hw hK;obtain⟨⟨old,he⟩,hi⟩:=st;obtain⟨xs,x,hq,hx⟩:=hg;obtain⟨its,rv,sq⟩:=aid I hq;obtain⟨u,hu,ru⟩:=rv.get hx;have hlt:i < its.toArray.size:=by simpa using (List.getElem?_eq_some_iff.mp hu).1
  have nai:=ak7 hi sq;have nae:a≠e:=ar6 he rfl (by decide) sq
  have D:=En.src (prog:=X.prog) (w:=X.w) (A:=X.A.in1) (I.ok.hd hc) k it a nai its.toArray;refine wpAny_pyNext_enum_itemD D he ⟨hi,sq⟩ hlt ne (by simp[ne,nae.symm]) fun y g tk hy ho hs hT hz hk =>?_
  refine⟨_,rfl,wpAny_letOwnedTupleGo_enum ho fun g2 he2 sb =>?_⟩
  have ry:=ag6 rv hx hy;have lte:e < s.heap.objs.size:=Heap.lt_size he;have lti:it < s.heap.objs.size:=by obtain⟨o,z,_⟩:=hi.got;exact Heap.lt_size z
  have fr:H s.heap.objs.size=none:=I.hok.fresh (Nat.le_refl _);refine⟨.ref s.heap.objs.size,upd H s.heap.objs.size (.tup [.int i,x]),?_,rfl,⟨_,x,fr,rfl,rfl,fun ys hy=>by rw[amy I hy hq];exact hx⟩,⟨⟨_,he2⟩,hs.1.at fun o z=>sb.extBut _ _ ne.symm z⟩,fun b hb =>?_⟩
  ·refine amx (fp:=[e,it]) (us:=[.int i tk,y]) I (fun b o hn z =>?_) hf (fun b hb =>?_) (.cons ⟨tk,rfl⟩ (.cons ry .nil)) (by rw[sizeLine_eq];simp) (sb.extBut _ _ (Nat.ne_of_gt lte) hT)
   ·have h1:b≠e:=fun z=>hn (by simp[z])
    have h2:b≠it:=fun z=>hn (by simp[z])
    exact sb.extBut _ _ h1 (hk b o h1 h2 z)
   ·have hb:b=e∨b=it:=by simpa using hb
    rcases hb with rfl | rfl
    ·exact lte
    ·exact lti
  ·have hb':b=e∨b=it:=by simpa using hb
   rw[bj (by rcases hb' with rfl | rfl;exact Nat.ne_of_lt lte;exact Nat.ne_of_lt lti)]
   exact(hf b hb).1
 done:=by
  intro X hP hw hK hc i zv s σ H E I hf st hg;subst hP hw hK;obtain⟨⟨old,he⟩,hi⟩:=st;obtain⟨xs,hq,hx⟩:=hg;obtain⟨its,rv,sq⟩:=aid I hq;have hl:i=its.toArray.size:=by have:=rv.length;simp;omega
  subst hl;have D:=En.src (prog:=X.prog) (w:=X.w) (A:=X.A.in1) (I.ok.hd hc) k it a (ak7 hi sq) its.toArray;refine wpAny_pyNext_enum_endD D he ⟨hi,sq⟩ fun g eb=>⟨rfl,ab7 (t':=s.toks) (fp:=[e,it]) I (fun b o hn z=>eb b o (fun z=>hn (by simp[z])) z) hf⟩
 self:=fun _ _ _ _ _ st h=>let ⟨_,z⟩:=st.1;wpAny_pyIter_enum z h
section
variable{X:Cx}
def atf(K:Fg9)(ta:TA):TI:=fun σ H R=>ta σ H fun vs H1=>∃a k,vs=[.ref a]/\(∃xs,SqK k K H1 a xs)/\R (Ite K k a) H1
theorem al4{a:Expr}{ta:TA}{p pos:Pos}{elts:List Expr}{n:Nat}{tp:Pos}(hg:Gl X "enumerate")(hm:X.mg "enumerate" = none)(ha:PA X [a] ta)(hs:starEach [a] X.env=[(false,eval a X.env)]:=by rfl) :
  PI X (.Tuple elts n tp) (.Call (.Name "enumerate" p) [a] [] pos) (atf X.K ta):=by
 intro zv s σ H R I h;refine Call_ (ab6 I hg hm aea (PyProof.Rows.callWith_type1 (thn (ha pos zv s σ H _ I h) fun us s1 ⟨vs,H1,I1,r1,q1⟩ =>?_) hs rfl))
 obtain⟨b,k,rfl,⟨xs,hq⟩,q⟩:=q1;obtain⟨u,rfl,ru⟩:=vals1 r1;cases ru;obtain⟨its,rv,sq⟩:=aid I1 hq;refine ai5 sq fun g he hi hz kk=>wpAny_pyIter_enum he ?_
 have I2:Inv X zv σ H1 { s1 with heap:=g }:=I1.kept (t':=s1.toks) kk
 refine⟨_,[s1.heap.objs.size+1,s1.heap.objs.size],_,_,H1,rfl,I2,ag8 k b _ _ (Nat.succ_ne_self _),⟨⟨_,he⟩,hi⟩,fun c hc =>?_,q⟩
 have hc:c=s1.heap.objs.size+1∨c=s1.heap.objs.size:=by simpa using hc
 rcases hc with rfl | rfl
 ·exact I1.fpOk (Nat.le_succ _) (I1.hok.fresh (Nat.le_succ _))
 ·exact I1.fpOk (Nat.le_refl _) (I1.hok.fresh (Nat.le_refl _))
end
end Mn
namespace Dn
open L2 Mn
section
variable{K:Fg9}{X:Cx}{e a b c:Expr}{es elts:List Expr}{pos p tp:Pos}{n:Nat}
theorem aod{F:Hp}{d:D}{l:List D}{v:V}(e:itemsD d=some l)(h:Is K F d v):∃a k vs,v=.ref a/\IsL K F l vs/\∀H,Same F H->SqK k K H a vs:=by
 cases h with
 | tup e1 h1=>cases e;exact⟨_,true,_,rfl,h1,fun H g=>SqT.of (g _ _ e1)⟩
 | lst e1 h1=>cases e;exact⟨_,false,_,rfl,h1,fun H g=>SqL.of (g _ _ e1)⟩
 | kst e1 h1=>cases e;exact⟨_,false,_,rfl,h1,fun H g=>L2.Same.seq g e1⟩
 | _=>cases e
def abu(l:List D):List D:=l.mapIdx fun i d=>.tup [.int (i:Nat),d]
def akf:List D->Option (List D)
 | [d]=>(itemsD d).map abu
 | _=>none
theorem ad3(l:List D):(abu l).length=l.length:=by unfold abu;simp
theorem ais{l:List D}{i:Nat}{d:D}(h:(abu l)[i]? = some d):∃d0,l[i]? = some d0/\d=.tup [.int (i:Nat),d0]:=by
 unfold abu at h;rw[List.getElem?_mapIdx] at h;cases e:l[i]? with
 | none=>rw[e] at h;cases h
 | some d0=>rw[e] at h;cases h;exact⟨d0,rfl,rfl⟩
theorem aj5{F:Hp}{k:Bool}{a:Addr}{l:List D}{vs:List V}(il:IsL K F l vs)(hs:∀H,Same F H->SqK k K H a vs):ItD K (Ite K k a) (abu l) F where
 go:=fun i H s hi=>by
  have hi:i < vs.length:=by rw[<-il.length,<-ad3];exact hi
  exact⟨vs,_,hs H s,List.getElem?_eq_getElem hi⟩
 yld:=fun i H x H' d s y hd=>by
  obtain⟨d0,h0,rfl⟩:=ais hd;obtain⟨q,v,hq,rfl,rfl,hv⟩:=y;obtain⟨v',e1,i1⟩:=il.get h0;have:=hv _ (hs H s);rw[e1] at this;cases this;exact .inr ⟨q,_,_,hq,rfl,rfl,rfl,.cons (.int _) (.cons i1 .nil)⟩
 stop:=fun H s=>⟨vs,hs H s,by rw[ad3,il.length]⟩
theorem ac0{m:M (List D)}(hg:Gl X "enumerate")(hm:X.mg "enumerate" = none)(h:ED K X [a] m)(hs:starEach [a] X.env=[(false,eval a X.env)]:=by rfl):IT K X (.Tuple elts n tp) (.Call (.Name "enumerate" p) [a] [] pos) (mGet akf m):=IT.mk fun hk=>by
 intro zv s σ H R I ⟨tg,F,ρ,l,ρ',G,em,q⟩;obtain⟨ds,ρ1,e1,em⟩:=au em;obtain⟨e2,rfl⟩:=dg em;have h:=h hk;subst hk;refine al4 hg hm h hs zv s σ H R I ⟨tg,F,ρ,ds,_,G,e1,fun vs H' F' G' x r =>?_⟩
 match ds,e2 with
 | [d],e2 =>
  have e2:(itemsD d).map abu=some l:=e2;cases e3:itemsD d with
  | none=>rw[e3] at e2;cases e2
  | some l0 =>
   rw[e3] at e2;cases e2;cases r with
   | cons h1 t =>
    cases t;obtain⟨b,k,ws,rfl,il,hq⟩:=aod e3 h1;exact⟨b,k,rfl,⟨ws,hq _ G'.sub⟩,q _ H' F' G' x (aj5 il hq)⟩
end
end Dn
namespace Mn
open L2
section
variable{prog:Program}{w:World}{A:Around}{E:Value->Shared->Prop}{s:Shared}
theorem agy(n:Nat):Builtin.Slice.sliceAdjust none none (-1) (n:Int)=((n:Int) - 1,-1):=rfl
theorem agk(n:Nat):Builtin.Slice.slicePlaces ((n:Int) - 1) (-1) (-1)=n:=by
 unfold Builtin.Slice.slicePlaces;have h1:¬((-1:Int) > 0):=by omega
 have h2:(- -1:Int)=1:=by decide
 simp only[h1,if_false,h2,Int.ediv_one];split <;> omega
theorem afu{α β:Type}{f g:α->Option β}:∀l:List α,(∀x∈l,f x=g x)->l.filterMap f=l.filterMap g
 | [],_=>rfl
 | x::r,h=>by rw[List.filterMap_cons,List.filterMap_cons,h x (List.mem_cons_self ..),afu r fun y hy=>h y (List.mem_cons_of_mem _ hy)]
theorem afd(xs:Array Value):((List.range xs.size).filterMap fun(m:Nat)=>xs[(((xs.size:Int) - 1)+(m:Int)*(-1)).toNat]?).toArray=xs.toList.reverse.toArray:=by
 congr 1
 have e:(List.range xs.size).filterMap (fun(m:Nat)=>xs[(((xs.size:Int) - 1)+(m:Int)*(-1)).toNat]?)=(List.range xs.size).filterMap (fun m=>xs.toList.reverse[m]?):=by
  refine afu _ fun m hm =>?_
  have hm':m < xs.size:=List.mem_range.mp hm;have e2:(((xs.size:Int) - 1)+(m:Int)*(-1)).toNat=xs.size - 1 - m:=by omega
  rw[e2,List.getElem?_reverse (by simpa using hm')]
  simp
 rw[e];have key:∀l:List Value,(List.range l.length).filterMap (fun m=>l[m]?)=l:=by
  intro l
  induction l with
  | nil=>rfl
  | cons x r ih =>
   rw[List.length_cons,List.range_succ_eq_map,List.filterMap_cons];simp only[List.getElem?_cons_zero,List.filterMap_map]
   congr 1
 have:=key xs.toList.reverse
 simpa using this
theorem zu{t sl:Addr}{items:Array Value}{u:Tok}{Q:Value->Shared->Prop}(ht:IsTup s.heap t items)(hs:s.heap.IsSliceOf sl .none .none (.int (-1) u))
  (h:Q (.ref s.heap.objs.size) { s with heap:=s.heap.push { cls:=.type "tuple", data:=.seq items.toList.reverse.toArray } })
  (hsz:items.size<=sizeLine):wpAny (model prog w) A (getItem (.ref t) (.ref sl)) Q E s:=by
 have htake:sizeOk (.seq items.toList.reverse.toArray):=by
  show items.toList.reverse.toArray.size<=sizeLine
  simpa using hsz
 obtain⟨os,hos,hcs,hds⟩:=id hs;have hTs:s.TypeIs (.ref sl) "slice" := ⟨os,hos,hcs⟩;unfold getItem
 try with_reducible refine wpAny_holding ?_
 first | refine wpAny_bind (wpAny_pure ?_) | skip
 refine wpAny_bind (wpAny_sequenceKey ht.typeIs (by decide) ?_)
 refine wpAny_bind (wpAny_callSpecial?_slot (name:=Str.ofString "__getitem__") ht.typeIs PyProof.Rows.slot_tuple_getitem
  (wpAny_call_entry PyProof.Rows.slot_tuple_getitem ht.typeIs entry_tuple_getitem ?_ (args_tuple_getitem _ _)))
 show wpAny _ _ (Builtin.Tuple.tupleItemsOf (.ref t) >>= _) _ _ s;refine wpAny_bind (tupleItemsOf_ ht ?_);refine wpAny_bind (wpAny_typeOf hTs ?_);rw[if_pos (by decide)]
 have happ:∀{Q:Int×Int×Nat->Shared->Prop} {E:Value->Shared->Prop} {A:Around},Q ((items.size:Int) - 1,-1,items.size) s->wpAny (model prog w) A (Builtin.Slice.sliceApplied (.ref sl) (pure (items.size:Int))) Q E s:=by
  intro Q E A h;unfold Builtin.Slice.sliceApplied Builtin.Slice.sliceFields;refine wpAny_bind (wpAny_bind (wpAny_field hos hds (x:=.none) rfl (wpAny_bind (wpAny_field hos hds (x:=.none) rfl (wpAny_bind (wpAny_field hos hds (x:=.int (-1) u) rfl (wpAny_pure ?_)))))));refine wpAny_bind (slicePart_int ?_);show wpAny _ _ (if ((-1:Int)==0)=true then _ else _) _ _ s
  rw[if_neg (by decide)]
  refine wpAny_bind (slicePart_none (wpAny_bind (slicePart_none (wpAny_bind (wpAny_pure ?_)))));show wpAny _ _ (match Builtin.Slice.sliceAdjust none none (-1) (items.size:Int) with | (lo,hi)=>pure (lo,(-1:Int),Builtin.Slice.slicePlaces lo hi (-1))) _ _ s
  rw[agy];show wpAny _ _ (pure ((items.size:Int) - 1,(-1:Int),Builtin.Slice.slicePlaces ((items.size:Int) - 1) (-1) (-1))) _ _ s;rw[agk];exact wpAny_pure h
 refine wpAny_bind (happ ?_);have hno:¬((((items.size:Int) - 1)==0&&(-1:Int)==1&&items.size==items.size)=true):=by
  intro q;rw[Bool.and_eq_true,Bool.and_eq_true] at q;exact absurd q.1.2 (by decide)
 show wpAny _ _ (if (((items.size:Int) - 1)==0&&(-1:Int)==1&&items.size==items.size)=true then _ else _) _ _ s
 rw[if_neg hno,afd]
 first
  | exact wpAny_bind (m:=Builtin.Tuple.tupleExact _) (wpAny_newObj_type (wpAny_pure ⟨_,rfl,wpAny_pure h⟩) htake)
  | exact wpAny_bind (m:=Builtin.Tuple.tupleExact _) (wpAny_newObj_type (wpAny_bind (wpAny_pure (wpAny_pure ⟨_,rfl,wpAny_pure h⟩))) htake)
  | exact wpAny_bind (wpAny_bind (m:=Builtin.Tuple.tupleExact _) (wpAny_newObj_type (wpAny_pure (wpAny_pure ⟨_,rfl,wpAny_pure h⟩)) htake))
  | exact wpAny_bind (wpAny_bind (m:=Builtin.Tuple.tupleExact _) (wpAny_newObj_type (wpAny_pure ⟨_,rfl,wpAny_pure h⟩) htake))
end
section
variable{X:Cx}{e:Expr}{te:TE}{pos p2 p3:Pos}{st:Expr}{ts:TE}
def tRev(K:Fg9)(te ts:TE):TE:=fun σ H Q=>te σ H fun x H1=>ts σ H1 fun k H2=>k=.int (-1)/\∃a xs,x=.ref a/\SqT K H2 a xs/\∀p,H2 p=none->Q (.ref p) (upd H2 p (.tup xs.reverse))
theorem Vals.rev{xs:List V}{us:List Value}(h:Vals xs us):Vals xs.reverse us.reverse:=by
 induction h with
 | nil=>exact .nil
 | cons h1 h2 ih =>
  rw[List.reverse_cons,List.reverse_cons];exact ih.append (.cons h1 .nil)
theorem aot(he:PE X e te)(hs:PE X st ts):PE X (.Subscript e (.Slice none none (some st) p2) pos) (tRev X.K te ts):=by
 intro zv s σ H Q I h;refine Subscript_ (thn (he zv s σ H _ I h) fun v s1 ⟨x,H1,I1,r1,q1⟩ =>?_)
 refine wpAny_Slice ?_;rw[evalPart_none];refine wpAny_pure (wpAny_pure ?_);rw[evalPart_some];refine thn (hs zv s1 σ H1 _ I1 q1) fun k s2 z9 =>?_
 obtain⟨y,H2,I2,r2,q2⟩:=z9;obtain⟨rfl,a,xs,rfl,hx,q⟩:=q2;obtain⟨t,rfl⟩:=r2;cases r1;have I4:Inv X zv σ H2 { s2 with heap:=s2.heap.push { cls:=.type "slice", data:=.fields #[.none,.none,.int (-1) t] } }:=I2.kept (t':=s2.toks) fun b ob q=>Heap.get?_push_of_some _ q
 obtain⟨its,r,ht,hz⟩:=I4.tuple hx;have hlen:its.toArray.size=xs.length:=by rw[List.size_toArray];exact r.length.symm
 show wpAny (model X.prog X.w) X.A (subscriptTail e (.Slice none none (some st) p2) (.ref a) (.ref s2.heap.objs.size)) (EP X zv σ Q) X.xe { s2 with heap:=s2.heap.push { cls:=.type "slice", data:=.fields #[.none,.none,.int (-1) t] } }
 have hg:wpAny (model X.prog X.w) X.A (getItem (.ref a) (.ref s2.heap.objs.size)) (EP X zv σ Q) X.xe { s2 with heap:=s2.heap.push { cls:=.type "slice", data:=.fields #[.none,.none,.int (-1) t] } }:=by
  refine zu ht (Heap.IsSliceOf.new ..) ?_ (by rw[hlen];exact hz)
  refine⟨.ref _,_,I4.laid (t':=s2.toks) (o:=.tup xs.reverse) (fun b ob q=>Heap.get?_push_of_some _ q) (Nat.le_refl _) ?_,rfl,q _ (I4.hok.fresh (Nat.le_refl _))⟩
  exact⟨by rw[List.length_reverse];exact hz,_,Vals.rev r,IsTp.new _ _⟩
 exact tail_any (ops:=[.ref a,.ref s2.heap.objs.size]) ht.typeIs PyProof.Rows.slot_tuple_getitem.lookup hg (by with_unfolding_all rfl)
end
end Mn
namespace Dn
open L2 Mn
section
variable{K:Fg9}{X:Cx}{a st:Expr}{pos p p2 pos2:Pos}
def gRev:D->D->Option Rv
 | .tup l,.int k=>if k = -1 then some (.v (.tup l.reverse)) else none
 | _,_=>none
@[simp] theorem aq7(l:List D):gRev (.tup l) (.int (-1))=some (.v (.tup l.reverse)):=rfl
theorem IsL.rev{F:Hp}:∀{ds:List D} {vs:List V},IsL K F ds vs->IsL K F ds.reverse vs.reverse
 | _,_,.nil=>.nil
 | _,_,.cons h t=>by
  rw[List.reverse_cons,List.reverse_cons];exact(IsL.rev t).append (.cons h .nil)
end
section
variable{K:Fg9}{X:Cx}
end
end Dn
namespace Mn
open L2
theorem ach(its:List Value):slicePick its.toArray none none (some (-1))=its.reverse.toArray:=by
 have h1:sliceBounds none none (some (-1)) its.toArray.size=((its.toArray.size:Int) - 1,-1,-1):=rfl;unfold slicePick;rw[h1];dsimp only;have h2:sliceRange ((its.toArray.size:Int) - 1) (-1) (-1)=(List.range its.toArray.size).map fun(k:Nat)=>((its.toArray.size:Int) - 1+(k:Int)*(-1)).toNat:=by
  unfold sliceRange;have hc:(if (-1:Int) > 0 then (if ((its.toArray.size:Int) - 1) < -1 then (-1 - ((its.toArray.size:Int) - 1) + -1 - 1) / -1 else 0) else (if ((its.toArray.size:Int) - 1) > -1 then (((its.toArray.size:Int) - 1) - -1 - -1 - 1) / (- -1) else 0)).toNat=its.toArray.size:=by
   have h0:¬((-1:Int) > 0):=by decide
   have e:(- -1:Int)=1:=by decide
   simp only[h0,if_false,e,Int.ediv_one];split <;> omega
  dsimp only;rw[hc];apply List.map_congr_left;intro k _
  congr 1
  omega
 rw[h2,List.filterMap_map];have:=afd its.toArray
 simpa[Function.comp_def] using this
section
variable{X:Cx}{e:Expr}{te:TE}{pos p2 p3:Pos}{st:Expr}{ts:TE}
def arw(K:Fg9)(te ts:TE):TE:=fun σ H Q=>te σ H fun x H1=>ts σ H1 fun k H2=>k=.int (-1)/\∃a xs,x=.ref a/\SqL K H2 a xs/\∀p,H2 p=none->Q (.ref p) (upd H2 p (.lst xs.reverse))
theorem al7(he:PE X e te)(hs:PE X st ts):PE X (.Subscript e (.Slice none none (some st) p2) pos) (arw X.K te ts):=by
 intro zv s σ H Q I h;refine Subscript_ (thn (he zv s σ H _ I h) fun v s1 ⟨x,H1,I1,r1,q1⟩ =>?_)
 refine wpAny_Slice ?_;rw[evalPart_none];refine wpAny_pure (wpAny_pure ?_);rw[evalPart_some];refine thn (hs zv s1 σ H1 _ I1 q1) fun k s2 z9 =>?_
 obtain⟨y,H2,I2,r2,q2⟩:=z9;obtain⟨rfl,a,xs,rfl,hx,q⟩:=q2;obtain⟨t,rfl⟩:=r2;cases r1;have I4:Inv X zv σ H2 { s2 with heap:=s2.heap.push { cls:=.type "slice", data:=.fields #[.none,.none,.int (-1) t] } }:=I2.kept (t':=s2.toks) fun b ob q=>Heap.get?_push_of_some _ q
 obtain⟨its,r,ht,hz⟩:=I4.list hx;have hlen:=r.length;show wpAny (model X.prog X.w) X.A (subscriptTail e (.Slice none none (some st) p2) (.ref a) (.ref s2.heap.objs.size)) (EP X zv σ Q) X.xe { s2 with heap:=s2.heap.push { cls:=.type "slice", data:=.fields #[.none,.none,.int (-1) t] } }
 have hg:wpAny (model X.prog X.w) X.A (getItem (.ref a) (.ref s2.heap.objs.size)) (EP X zv σ Q) X.xe { s2 with heap:=s2.heap.push { cls:=.type "slice", data:=.fields #[.none,.none,.int (-1) t] } }:=by
  refine wpAny_getItem_list_slice ht.isList (Heap.IsSliceOf.new ..) .none .none (.int (-1) t) (by simp) ?_ (by rw[List.size_toArray] <;> omega)
  rw[ach];refine⟨.ref _,_,I4.laid (t':=s2.toks) (o:=.lst xs.reverse) (fun b ob q=>Heap.get?_push_of_some _ q) (Nat.le_refl _) ?_,rfl,q _ (I4.hok.fresh (Nat.le_refl _))⟩
  exact⟨by rw[List.length_reverse];exact hz,_,0,Mn.Vals.rev r,Heap.get?_push_size _ rfl⟩
 exact tail_any (ops:=[.ref a,.ref s2.heap.objs.size]) ht.isList.typeIs slot_list_getitem.lookup hg (by with_unfolding_all rfl)
end
end Mn
namespace Dn
open L2 Mn
section
variable{K:Fg9}{X:Cx}{a st:Expr}{pos p p2 pos2:Pos}
def akd:D->D->Option Rv
 | .lst l,.int k=>if k = -1 then some (.fr l.reverse) else none
 | d,k=>gRev d k
@[simp] theorem ap8(l:List D):akd (.lst l) (.int (-1))=some (.fr l.reverse):=rfl
@[simp] theorem ap7(l:List D):akd (.tup l) (.int (-1))=some (.v (.tup l.reverse)):=rfl
def amr(m ms:M D):M Rv:=m.bind fun d=>ms.bind fun k=>lift (akd d k)
@[simp] theorem aqw(ρ:Ro)(m ms:M D):amr m ms ρ=(m.bind fun d=>ms.bind fun k=>lift (akd d k)) ρ:=rfl
theorem ane{m ms:M D}(h:EV K X a m)(hs:EV K X st ms):ER K X (.Subscript a (.Slice none none (some st) p2) pos) (amr m ms):=ER.mk fun hk=>by
 subst hk;have p1:=aot (pos:=pos) (p2:=p2) (h rfl) (hs rfl);have p2':=al7 (pos:=pos) (p2:=p2) (h rfl) (hs rfl);intro zv s σ H Q I ⟨tg,F,ρ,r,ρ',G,em,q⟩;obtain⟨d,ρ1,e1,em⟩:=au em;obtain⟨k,ρ2,e2,em⟩:=au em;obtain⟨e4,rfl⟩:=dg em;cases d with
 | tup l =>
  refine p1 zv s σ H Q I ⟨tg,F,ρ,.tup l,ρ1,G,e1,fun v H1 F1 G1 x1 r1=>⟨tg,F1,ρ1,k,_,G1,e2,fun v2 H2 F2 G2 x2 r2 =>?_⟩⟩
  have e4:gRev (.tup l) k=some r:=e4;unfold gRev at e4;split at e4
  ·split at e4
   ·rename_i l' j ez _ hj;cases ez;subst hj;cases e4;cases r2;refine⟨rfl,?_⟩;cases r1.mono x2.sub with
    | tup ea hl =>
     exact⟨_,_,rfl,SqT.of (G2.sub _ _ ea),fun p hp=>Res.tup G2 (fun v' H4 F4 G4 x4 rr=>q v' H4 F4 G4 ((x1.trans x2).trans x4) (jm (x1.trans x2) rr)) hl.rev hp⟩
   ·cases e4
  ·cases e4
 | lst l =>
  refine p2' zv s σ H Q I ⟨tg,F,ρ,.lst l,ρ1,G,e1,fun v H1 F1 G1 x1 r1=>⟨tg,F1,ρ1,k,_,G1,e2,fun v2 H2 F2 G2 x2 r2 =>?_⟩⟩
  cases k with
  | int j =>
   have e4:(if j = -1 then some (Rv.fr l.reverse) else none)=some r:=e4
   split at e4
   ·rename_i hj;subst hj;cases e4;cases r2;refine⟨rfl,?_⟩;cases r1.mono x2.sub with
    | lst ea hl =>
     exact⟨_,_,rfl,SqL.of (G2.sub _ _ ea),fun p hp=>Res.lst G2 (fun v' H4 F4 G4 x4 rr=>q v' H4 F4 G4 ((x1.trans x2).trans x4) (jm (x1.trans x2) rr)) hl.rev hp⟩
   ·cases e4
  | _=>cases e4
 | _=>cases e4
end
end Dn
namespace Mn
open PySem
end Mn
namespace L2
section
variable{M:Model}{A:Around}{E:Value->Shared->Prop}{s:Shared}
structure KeptBut (fs ch:List Addr) (h h':Heap):Prop where
 keep:∀b o,b∉ch->b∉fs->h.get? b=some o->h'.get? b=some o
 slot:∀b o,b∉ch->h.get? b=some o->∃sl,h'.get? b=some { o with slots:=sl }
theorem KeptBut.trans{fs ch:List Addr}{h h1 h2:Heap}(a:KeptBut fs ch h h1)(b:KeptBut fs ch h1 h2):KeptBut fs ch h h2 :=
 ⟨fun c o n1 n2 e=>b.keep c o n1 n2 (a.keep c o n1 n2 e),fun c o n e=>let ⟨_,e1⟩:=a.slot c o n e;let ⟨sl,e2⟩:=b.slot c _ n e1;⟨sl,e2⟩⟩
theorem KeptBut.sub{fs ch ch':List Addr}{h h':Heap}(a:KeptBut fs ch h h')(q:∀b∈ch,b∈ch'):KeptBut fs ch' h h' :=
 ⟨fun c o n1 n2 e=>a.keep c o (fun z=>n1 (q c z)) n2 e,fun c o n e=>a.slot c o (fun z=>n (q c z)) e⟩
theorem KeptBut.upd{fs:List Addr}{h:Heap}{a:Addr}{f:Obj->Obj}:KeptBut fs [a] h (h.update a f) :=
 ⟨fun b o n _ e=>by rw[Heap.get?_update_other _ _ (fun z=>n (by simp[z]))];exact e,fun b o n e=>⟨o.slots,by rw[Heap.get?_update_other _ _ (fun z=>n (by simp[z]))];exact e⟩⟩
theorem adv{base:Heap}{env:Env}{outer:List Env}{L e:Addr}{oe:Obj}{vs:Array Value}{head:Value}{hadNext:Bool}{Q:Unit->Shared->Prop}
  (hfr:A.frames=some (env::outer)) (hl:s.heap.FunFrames base (env::outer)) (hf:env.frame=some L) (he:s.heap.get? e=some oe) (hd:oe.data=.fields vs) (hsz:1 < vs.size)
  (h:∀h' T ts,s.heap.objs.size<=T->KeptBut (frs (env::outer)) [e] s.heap h'->h'.get? e=some (oe.mapFields (·.setIfInBounds 1 (.ref T)))->h'.get? T=some { cls:=.type "traceback", dict:=none,data:=.fields ts }->ts[3]? = some (rawInt L)->Q () { s with heap:=h' }) :
  wpAny M A (do let a <-frameOf env;let pl <-entryPlaceOf L hadNext;let b <-EntryCells.newEntry head a .none (rawInt L) .none pl;setField (.ref e) 1 b) Q E s:=by
 have hene:e∉frs (env::outer):=fun hm=>by
  obtain⟨_,o,ho,hnf⟩:=hl.mem hm;rw[he] at ho;injection ho with ho;subst ho;exact hnf vs hd
 refine wpAny_bind (wpAny_frameOf_fun hfr hl hf fun h₁ hs₁ =>?_)
 refine wpAny_bind (wpAny_entryPlaceOf fun pl hpl =>?_)
 unfold EntryCells.newEntry newFields;refine wpAny_bind (wpAny_newObj_type ?_ (hpl.sizeOk5 _ _ _ _ _));have he₁:h₁.get? e=some oe:=(hs₁.2.1 e hene).trans he;have he₂:=Heap.get?_push_of_some (h:=h₁) { cls:=.type "traceback", dict:=none,data:=.fields ([head,.ref L,.none,rawInt L,.none]++(if pl.isEmpty then List.replicate 6 Value.none else pl)).toArray } he₁
 refine wpAny_setField he₂ hd hsz (h _ h₁.objs.size ([head,.ref L,.none,rawInt L,.none]++(if pl.isEmpty then List.replicate 6 Value.none else pl)).toArray ?_ ?_ ?_ ?_ ?_)
 ·exact Nat.le_of_eq hs₁.1.symm
 ·have keep:∀b o,b≠e->h₁.get? b=some o->((h₁.push { cls:=.type "traceback", dict:=none,data:=.fields ([head,.ref L,.none,rawInt L,.none]++(if pl.isEmpty then List.replicate 6 Value.none else pl)).toArray }).update e (Obj.mapFields (·.setIfInBounds 1 (Value.ref h₁.objs.size)))).get? b=some o:=fun b o hbe hb=>by
   rw[Heap.get?_update_other _ _ (Ne.symm hbe)];exact Heap.get?_push_of_some _ hb
  refine⟨fun b o n1 n2 hb=>keep b o (fun z=>n1 (by simp[z])) ((hs₁.2.1 b n2).trans hb),fun b o n hb =>?_⟩
  obtain⟨sl,q⟩:=hs₁.2.2 b o hb;exact⟨sl,keep b _ (fun z=>n (by simp[z])) q⟩
 ·exact Heap.get?_update_self _ he₂ (Obj.isFreed_of_fields (Obj.data_mapFields hd _))
 ·rw[Heap.get?_update_other _ _ (Ne.symm (Nat.ne_of_gt (Heap.lt_size he₁)))];exact Heap.get?_push_size h₁ rfl
 ·rcases hpl with rfl | ⟨_,_,_,_,_,_,_,rfl⟩ <;> simp
end
structure FlyAt (h:Heap) (a:Addr) (C:Addr) (dx:Option Addr) (ch:List Addr) (L:Addr):Prop where
 obj:∃oe vs,h.get? a=some oe/\oe.cls=.ref C/\oe.dict=dx/\oe.data=.fields vs/\1 < vs.size /\
  ((vs[1]? = some .none/\ch=[a])∨∃T oT ts fl,ch=[a,T]/\vs[1]? = some (.ref T)/\T≠a/\h.get? T=some oT/\oT.data=.fields ts/\ts[3]? = some fl/\(fl=.none∨fl=rawInt L))
theorem FlyAt.fresh{h:Heap}{a C L:Addr}{dx:Option Addr}{ch:List Addr}(x:FlyAt h a C dx ch L):a∈ch:=by
 obtain⟨oe,vs,_,_,_,_,_,⟨_,e⟩ | ⟨T,_,_,_,e,_⟩⟩:=x.obj <;> simp[e]
section
variable{M:Model}{A:Around}{E:Value->Shared->Prop}{s:Shared}
theorem wz(o:Obj)(f):(o.mapFields f).dict=o.dict:=by
 obtain⟨c,d,dt,sl⟩:=o;cases dt <;> rfl
theorem amm{base:Heap}{env:Env}{outer:List Env}{L a C:Addr}{dx:Option Addr}{ch:List Addr}{Q:Unit->Shared->Prop}
  (hfr:A.frames=some (env::outer)) (hl:s.heap.FunFrames base (env::outer)) (hf:env.frame=some L) (x:FlyAt s.heap a C dx ch L)
  (h:∀h' T oT ts oe vs,(T∈ch∨s.heap.objs.size<=T)->KeptBut (frs (env::outer)) ch s.heap h'->h'.get? a=some oe->oe.cls=.ref C->oe.dict=dx->oe.data=.fields vs->1 < vs.size->vs[1]? = some (.ref T)->T≠a->h'.get? T=some oT->oT.data=.fields ts->ts[3]? = some (rawInt L)->Q () { s with heap:=h' }) :
  wpAny M A (noteFrame (.ref a) env) Q E s:=by
 obtain⟨oe,vs,he,hc,hdx,hd,hsz,alt⟩:=x.obj;unfold noteFrame;simp only[hf];rcases alt with⟨h1,rfl⟩ | ⟨T,oT,ts,fl,rfl,h1,hTa,hT,hdT,h3,hfl⟩
 ·refine wpAny_bind (wpAny_field he hd h1 ?_);rw[if_neg (by decide)]
  refine adv hfr hl hf he hd hsz fun h' T ts hT k e1 e2 e3 =>?_
  refine h h' T _ ts _ _ (.inr hT) k e1 (by rw[Obj.cls_mapFields];exact hc) (by rw[wz];exact hdx) (Obj.data_mapFields hd _) (by simpa using hsz) (by simp[hsz]) ?_ e2 rfl e3
  exact Nat.ne_of_gt (Nat.lt_of_lt_of_le (Heap.lt_size he) hT)
 ·refine wpAny_bind (wpAny_field he hd h1 ?_);rw[if_pos (show(Value.ref T != Value.none)=true from by simp)]
  refine wpAny_bind (wpAny_field hT hdT h3 ?_);rcases hfl with rfl | rfl
  ·rw[if_neg (show ¬((Value.none==rawInt L)=true) from by simp[rawInt])]
   refine wpAny_bind (wpAny_setField hT hdT (Array.getElem?_eq_some_iff.mp h3).1 ?_);have k0:KeptBut (frs (env::outer)) [T] s.heap (s.heap.update T (Obj.mapFields (·.setIfInBounds 3 Value.none))):=KeptBut.upd;have he':=(Heap.get?_update_other s.heap (Obj.mapFields (·.setIfInBounds 3 Value.none)) hTa).trans he;refine adv hfr (hl.of_keeps fun b o hb hnf =>?_) hf he' hd hsz fun h' T' ts' hT' k e1 e2 e3 =>?_
   ·exact⟨o,(Heap.get?_update_other _ _ fun z=>by rw[<-z,hT] at hb;cases hb;exact hnf _ hdT).trans hb,rfl⟩
   ·have hsz':s.heap.objs.size<=T':=by
     have:(s.heap.update T (Obj.mapFields (·.setIfInBounds 3 Value.none))).objs.size=s.heap.objs.size:=Heap.size_after_update ..
     exact this▸hT'
    refine h h' T' _ ts' _ _ (.inr hsz') ((k0.sub (by simp)).trans (k.sub (by simp))) e1 (by rw[Obj.cls_mapFields];exact hc) (by rw[wz];exact hdx) (Obj.data_mapFields hd _) (by simpa using hsz) (by simp[hsz]) ?_ e2 rfl e3
    exact Nat.ne_of_gt (Nat.lt_of_lt_of_le (Heap.lt_size he) hsz')
  ·rw[if_pos (show(rawInt L==rawInt L)=true from by simp)]
   refine wpAny_pure (h s.heap T oT ts oe vs (.inl (by simp)) ⟨fun _ _ _ _ e=>e,fun _ o _ e=>⟨o.slots,e⟩⟩ he hc hdx hd hsz h1 hTa hT hdT h3)
theorem apu{base:Heap}{env:Env}{outer:List Env}{L a C:Addr}{dx:Option Addr}{ch:List Addr}{Q:Unit->Shared->Prop}
  (hfr:A.frames=some (env::outer)) (hl:s.heap.FunFrames base (env::outer)) (hf:env.frame=some L) (x:FlyAt s.heap a C dx ch L)
  (h:∀h' ch',(∀b∈ch',b∈ch∨s.heap.objs.size<=b)->KeptBut (frs (env::outer)) ch s.heap h'->(∀L',FlyAt h' a C dx ch' L')->Q () { s with heap:=h' }) :
  wpAny M A (leaving env (.ref a)) Q E s:=by
 unfold leaving;refine wpAny_bind (amm hfr hl hf x fun h' T oT ts oe vs hT k e1 e2 e3 e4 e5 e6 e7 e8 e9 e10 =>?_)
 unfold setFlight;refine wpAny_bind (wpAny_field e1 e4 e6 ?_);rw[if_pos (show(Value.ref T != Value.none)=true from by simp)]
 have hsz3:3 < ts.size:=(Array.getElem?_eq_some_iff.mp e10).1;refine wpAny_setField e8 e9 hsz3 (h _ [a,T] (fun b hb =>?_) ?_ fun L'=>⟨oe,vs,(Heap.get?_update_other _ _ e7).trans e1,e2,e3,e4,e5,.inr ⟨T,_,_,.none,rfl,e6,e7,Heap.get?_update_self _ e8 (Obj.isFreed_of_fields (Obj.data_mapFields e9 _)),Obj.data_mapFields e9 _,by simp[hsz3],.inl rfl⟩⟩)
 ·have:b=a∨b=T:=by simpa using hb
  rcases this with rfl | rfl
  ·exact .inl x.fresh
  ·exact hT
 ·rcases hT with hT | hT
  ·exact k.trans (KeptBut.upd.sub (by simp[hT]))
  ·refine⟨fun b o n1 n2 e =>?_,fun b o n e =>?_⟩
   ·rw[Heap.get?_update_other _ _ fun z=>absurd (Heap.lt_size e) (by rw[<-z];exact Nat.not_lt.mpr hT)]
    exact k.keep b o n1 n2 e
   ·obtain⟨sl,q⟩:=k.slot b o n e;exact⟨sl,by rw[Heap.get?_update_other _ _ fun z=>absurd (Heap.lt_size e) (by rw[<-z];exact Nat.not_lt.mpr hT)];exact q⟩
end
end L2
namespace Dn
open L2 Mn
def ant(F:Hp)(dx:Option Addr)(fs:List (Str×Int)):Prop:=(dx=none/\fs=[])∨∃d,dx=some d/\F d=some (.xd (fs.map fun p=>(p.1,V.int p.2)))
structure ClsOk (K:Fg9) (c:Str) (C:Addr):Prop where
 ns:nsIn K mainGlobals c=some (some (.ref C))
 ok:ExcK K C
def FpX(X:Cx)(zv:List (Addr×Obj))(H:Hp)(b:Addr):Prop :=
 H b=none/\b≠X.env.locals/\b∉X.fs/\(b∈X.ex∨X.s₀.heap.get? b=none)/\(∀x c,X.env.cells.lookup x=some c->c≠b)/\∀p∈X.pn++zv,p.1≠b
section
variable{X:Cx}{zv:List (Addr×Obj)}{σ:L2.St}{H H':Hp}{s:Shared}
theorem Inv.fpX{b:Addr}(I:Inv X zv σ H s)(hb:s.heap.get? b=none)(hn:H' b=none):FpX X zv H' b:=by
 have no:∀{o},s.heap.get? b=some o->False:=fun e=>by rw[hb] at e;cases e
 refine⟨hn,fun z =>?_,fun z =>?_,?_,fun x c e z =>?_,fun p hp z =>?_⟩
 ·obtain⟨m,⟨o,_,_,ho,_⟩,_⟩:=I.loc;rw[<-z] at ho;exact no ho
 ·obtain⟨_,o,ho,_⟩:=I.funs.mem z;exact no ho
 ·by_cases hx:b∈X.ex
  ·exact .inl hx
  ·refine .inr ?_;cases e:X.s₀.heap.get? b with
   | none=>rfl
   | some o =>
    obtain⟨o',e'⟩:=I.base.there b o e hx;exact(no e').elim
 ·obtain⟨v,o,ho,_⟩:=I.cell x c e;rw[z] at ho;exact no ho
 ·have:=(I.pin p hp).1;rw[z] at this;exact no this
theorem Inv.records{h':Heap}{ch:List Addr}(I:Inv X zv σ H s)(k:KeptBut (frs X.stack) ch s.heap h')(hch:∀b∈ch,FpX X zv H b):Inv X zv σ H { s with heap:=h' }:=by
 have nt:∀c z,H c=some z->c∉ch/\c∉frs X.stack:=fun c z q=>⟨(fun m=>by have:=(hch c m).1;rw[q] at this;cases this),(fun m=>by have:=I.stkFree c m;rw[q] at this;cases this)⟩
 have nb:∀b o,X.s₀.heap.get? b=some o->b∉X.ex->b∉ch:=fun b o e hx m=>by
  rcases(hch b m).2.2.2.1 with z | z
  ·exact hx z
  ·rw[z] at e;cases e
 have nl:∀b o,X.s₀.heap.get? b=some o->b∉X.fs->b∉frs X.stack:=fun b o e hf m=>by
  rcases List.mem_cons.mp (I.stkSub b m) with z | z
  ·exact absurd (Heap.lt_size e) (by rw[z];exact Nat.not_lt.mpr I.ok.above)
  ·exact hf z
 have cellK:∀x c,X.env.cells.lookup x=some c->∀v,s.heap.IsCell c v->h'.IsCell c v:=fun x c e v hq0=>by
  obtain⟨o,ho,hd⟩:=hq0;obtain⟨sl,q⟩:=k.slot c o (fun m=>(hch c m).2.2.2.2.1 x c e rfl) ho
  exact⟨_,q,hd⟩
 refine⟨I.ok,I.os,I.bare,⟨fun b o e n hb hx=>k.keep b o (nb b o e hx) (nl b o e hb) (I.base.keep b o e n hb hx),fun b o e n hb hx =>?_,I.base.free,fun b o e hx =>?_,I.base.tups,I.base.frzs,I.base.tbls⟩,?_,fun x c e =>?_,I.free,I.freeC,fun p hp =>?_,fun b u e =>?_,I.len⟩
 ·obtain⟨sl,e1⟩:=I.base.slot b o e n hb hx;obtain⟨sl',e2⟩:=k.slot b _ (nb b o e hx) e1;exact⟨sl',e2⟩
 ·obtain⟨o',e1⟩:=I.base.there b o e hx;obtain⟨sl,e2⟩:=k.slot b o' (nb b o e hx) e1;exact⟨_,e2⟩
 ·obtain⟨m,⟨o,es,ep,ho,r⟩,hl⟩:=I.loc;obtain⟨sl,q⟩:=k.slot _ o (fun m=>(hch _ m).2.1 rfl) ho
  refine⟨m,⟨_,es,ep,q,r⟩,fun i x v e1 e2 e3 =>?_⟩
  obtain⟨u,rv,l⟩:=hl i x v e1 e2 e3;refine⟨u,rv,?_⟩;rcases l with l | ⟨kk,c,e,z⟩
  ·exact .inl l
  ·exact .inr ⟨kk,c,e,cellK x c e _ z⟩
 ·obtain⟨v,z⟩:=I.cell x c e;exact⟨v,cellK x c e v z⟩
 ·obtain⟨e,n,ne,nf,d⟩:=I.pin p hp;refine⟨k.keep p.1 p.2 (fun m=>(hch _ m).2.2.2.2.2 p hp rfl) (fun m =>?_) e,n,ne,nf,d⟩
  rcases List.mem_cons.mp (I.stkSub _ m) with z | z
  ·exact ne z
  ·exact nf z
 ·refine(I.hok b u e).stay (fun c v hc q =>?_) (fun _ q=>q) fun _ _ q=>q
  rcases hc with z | z
  ·rw[z] at q ⊢;exact k.keep _ _ (nt b u e).1 (nt b u e).2 q
  ·exact k.keep _ _ (nt c _ z).1 (nt c _ z).2 q
end
def FlyX(K:Fg9)(X:Cx)(zv:List (Addr×Obj))(x:Exn)(F H:Hp)(h:Heap)(e:Value):Prop :=
 ∃a C dx ch,e=.ref a/\ClsOk K x.cls C/\ant F dx x.fs/\FlyAt h a C dx ch X.env.locals/\∀b∈ch,FpX X zv H b
def RX(K:Fg9)(X:Cx)(zv:List (Addr×Obj))(tg:Nat->Addr)(ρ:Ro)(σ:L2.St)(F H:Hp)(x:Exn)(ρ':Ro)(e:Value)(s':Shared):Prop :=
 ∃σ' H' F',Inv X zv σ' H' s'/\Good K tg F' H' ρ' σ'/\Ext (Own ρ σ) (Own ρ' σ') F H F' H'/\FlyX K X zv x F' H' s'.heap e
theorem RX.back{K:Fg9}{X:Cx}{zv:List (Addr×Obj)}{tg:Nat->Addr}{ρ ρ1 ρ':Ro}{σ σ1:L2.St}{F H F1 H1:Hp}{x:Exn}{e:Value}{s':Shared}(q:Ext (Own ρ σ) (Own ρ1 σ1) F H F1 H1)(h:RX K X zv tg ρ1 σ1 F1 H1 x ρ' e s'):RX K X zv tg ρ σ F H x ρ' e s' :=
 let ⟨σ',H',F',I,G,y,f⟩:=h;⟨σ',H',F',I,G,q.trans y,f⟩
abbrev XGo(K:Fg9)(X:Cx)(α:Type)(c:Sem α)(m:Ro->Option (Exn×Ro)):Prop :=
 X.K=K->X.xe=(fun _ _=>False)->∀zv s σ H tg F ρ x ρ',Inv X zv σ H s->Good K tg F H ρ σ->m ρ=some (x,ρ')->wpAny (model X.prog X.w) X.A c (fun _ _=>False) (RX K X zv tg ρ σ F H x ρ') s
def exE{α:Type}(m:M α):Ro->Option (Exn×Ro):=fun ρ=>match m ρ with
 | some (.exc x,ρ')=>some (x,ρ')
 | _=>none
def exS(g:Sd):Ro->Option (Exn×Ro):=fun ρ=>match g ρ with
 | some (.exc x,ρ')=>some (x,ρ')
 | _=>none
theorem jg{α:Type}{m:M α}{ρ ρ':Ro}{x:Exn}:exE m ρ=some (x,ρ')↔m ρ=some (.exc x,ρ'):=by
 unfold exE;split
 ·rename_i y ρ1 e;rw[e];constructor
  ·intro h;cases h;rfl
  ·intro h;cases h;rfl
 ·rename_i hn;constructor
  ·intro h;cases h
  ·intro h;exact absurd h (hn x ρ')
theorem j6{g:Sd}{ρ ρ':Ro}{x:Exn}:exS g ρ=some (x,ρ')↔g ρ=some (.exc x,ρ'):=by
 unfold exS;split
 ·rename_i y ρ1 e;rw[e];constructor
  ·intro h;cases h;rfl
  ·intro h;cases h;rfl
 ·rename_i hn;constructor
  ·intro h;cases h
  ·intro h;exact absurd h (hn x ρ')
structure XE (K:Fg9) (X:Cx) (e:Expr) {α:Type} (m:M α):Prop where
 go:XGo K X Value (eval e X.env) (exE m)
structure XA (K:Fg9) (X:Cx) (es:List Expr) {α:Type} (m:M α):Prop where
 go:∀(pos:Pos),XGo K X (List Value) (spliced (backTo pos (starEach es X.env))) (exE m)
structure XS (K:Fg9) (X:Cx) (st:Stmt) (g:Sd):Prop where
 go:XGo K X Flow (exec st X.env) (exS g)
structure XSs (K:Fg9) (X:Cx) (ss:List Stmt) (g:Sd):Prop where
 go:XGo K X Flow (execs ss X.env) (exS g)
def NoX{α:Type}(m:M α):Prop:=∀ρ x ρ',m ρ≠some (.exc x,ρ')
def NoS(g:Sd):Prop:=∀ρ x ρ',g ρ≠some (.exc x,ρ')
section
variable{K:Fg9}{X:Cx}{e a b c:Expr}{es:List Expr}{pos p:Pos}{st:Stmt}{ss:List Stmt}
theorem XE.no{α:Type}{m:M α}(h:NoX m):XE K X e m:=⟨fun _ _ zv s σ H tg F ρ x ρ' I G em=>absurd (jg.mp em) (h ρ x ρ')⟩
theorem XS.no{g:Sd}(h:NoS g):XS K X st g:=⟨fun _ _ zv s σ H tg F ρ x ρ' I G em=>absurd (j6.mp em) (h ρ x ρ')⟩
theorem ait{α:Type}{m:M α}{k:α->Sd}{ρ ρ':Ro}{x:Exn}(h:dM m k ρ=some (.exc x,ρ')):m ρ=some (.exc x,ρ')∨∃a ρ1,m ρ=some (.ok a,ρ1)/\k a ρ1=some (.exc x,ρ'):=by
 unfold dM at h;split at h
 ·exact .inr ⟨_,_,by assumption,h⟩
 ·cases h;exact .inl (by assumption)
 ·cases h
theorem qg{α β:Type}{m:M α}{k:α->M β}{ρ ρ':Ro}{x:Exn}(h:m.bind k ρ=some (.exc x,ρ')):m ρ=some (.exc x,ρ')∨∃a ρ1,m ρ=some (.ok a,ρ1)/\k a ρ1=some (.exc x,ρ'):=by
 unfold M.bind at h;split at h
 ·exact .inr ⟨_,_,by assumption,h⟩
 ·cases h;exact .inl (by assumption)
 ·cases h
theorem XA.no{α:Type}{m:M α}(h:NoX m):XA K X es m:=⟨fun _ _ _ zv s σ H tg F ρ x ρ' I G em=>absurd (jg.mp em) (h ρ x ρ')⟩
theorem ag1:XSs K X [] dNx:=⟨fun _ _ zv s σ H tg F ρ x ρ' I G em=>by cases em⟩
theorem aas{g:Sd}(h:XS K X st g):XSs K X [st] g:=⟨fun hk hn zv s σ H tg F ρ x ρ' I G em=>wpAny_execs_cons (wpAny_mono (h.go hk hn zv s σ H tg F ρ x ρ' I G em) (fun _ _ z=>z.elim) fun _ _ z=>z)⟩
theorem vq{g k:Sd}(h:SV K X st g)(hx:XS K X st g)(t:XSs K X ss k):XSs K X (st::ss) (dSeq g k):=⟨fun hk hn zv s σ H tg F ρ x ρ' I G em=>by
 have em:=j6.mp em;unfold dSeq at em;split at em
 ·rename_i ρ1 e1;refine wpAny_execs_cons (wpAny_mono (h.go hk zv s σ H { nx:=fun σ1 H1=>∃F1,Good K tg F1 H1 ρ1 σ1/\Ext (Own ρ σ) (Own ρ1 σ1) F H F1 H1,rt:=fun _ _=>False } I ⟨tg,F,ρ,.nx,ρ1,G,e1,fun σ' H' F' G' x=>⟨F',G',x⟩⟩) (fun f s1 q =>?_) fun e s1 q=>by rw[hn] at q;exact q.elim)
  cases f with
  | next =>
   obtain⟨σ1,H1,I1,F1,G1,x1⟩:=q;exact wpAny_mono (t.go hk hn zv s1 σ1 H1 tg F1 ρ1 x ρ' I1 G1 (j6.mpr em)) (fun _ _ z=>z.elim) fun _ _ z=>z.back x1
  | ret v=>obtain⟨_,_,_,_,_,z⟩:=q;exact z.elim
  | brk=>obtain⟨_,_,_,z⟩:=q;exact z.elim
  | cont=>obtain⟨_,_,_,z⟩:=q;exact z.elim
 ·exact wpAny_execs_cons (wpAny_mono (hx.go hk hn zv s σ H tg F ρ x ρ' I G (j6.mpr em)) (fun _ _ z=>z.elim) fun _ _ z=>z)⟩
theorem anx{m:M Rv}(h:XE K X e m):XS K X (.Return (some e) pos) (dRet m):=⟨fun hk hn zv s σ H tg F ρ x ρ' I G em=>by
 rcases ait (j6.mp em) with em | ⟨_,_,_,em⟩
 ·exact wpAny_Return_some (wpAny_mono (h.go hk hn zv s σ H tg F ρ x ρ' I G (jg.mpr em)) (fun _ _ z=>z.elim) fun _ _ z=>z)
 ·cases em⟩
theorem anz{m:M Bool}{g k:Sd}{ss':List Stmt}(h:ET K X c m)(hm:NoX m)(h1:XSs K X ss g)(h2:XSs K X ss' k):XS K X (.If c ss ss' pos) (dIf m g k):=⟨fun hk hn zv s σ H tg F ρ x ρ' I G em=>by
 rcases ait (j6.mp em) with em | ⟨z,ρ1,e1,em⟩
 ·exact absurd em (hm _ _ _)
 ·refine wpAny_If (wpAny_mono (h.go hk zv s σ H (fun b H1=>b=z/\∃F1,Good K tg F1 H1 ρ1 σ/\Ext (Own ρ σ) (Own ρ1 σ) F H F1 H1) I ⟨tg,F,ρ,z,ρ1,G,e1,fun H' F' G' x=>⟨rfl,F',G',x⟩⟩) (fun d s1 ⟨H1,I1,hz,F1,G1,x1⟩ =>?_) fun e s1 q=>by rw[hn] at q;exact q.elim)
  subst hz;cases d with
  | true=>exact wpAny_mono (h1.go hk hn zv s1 σ H1 tg F1 ρ1 x ρ' I1 G1 (j6.mpr em)) (fun _ _ z=>z.elim) fun _ _ z=>z.back x1
  | false=>exact wpAny_mono (h2.go hk hn zv s1 σ H1 tg F1 ρ1 x ρ' I1 G1 (j6.mpr em)) (fun _ _ z=>z.elim) fun _ _ z=>z.back x1⟩
def CX1(P:Program)(w:World):CXT:=fun outer H s E e s'=>∃H' a C dx ch,e=.ref a/\s'.os=s.os/\AllBare s'.gens/\Un (frs outer) [] H H' s.heap s'.heap/\HOk P w H' s'.heap /\
 (∀L',FlyAt s'.heap a C dx ch L')/\(∀b∈ch,s.heap.get? b=none/\H' b=none)/\E (.ref C) dx H'
def spX(K:Fg9)(n:Nat)(f:Fd):Sp:=fun vs H _ E=>vs.length=n/\∃F as x ps,Good K (tgOf (vs.map some)) F H as (vs.map some)/\f as=some (.exc x,ps) /\
 ∀C dx H' F' O',Same F' H'->Ext (Own as (vs.map some)) O' F H F' H'->Fin K F' H' (vs.map some) ps O'->ClsOk K x.cls C->ant F' dx x.fs->E (.ref C) dx H'
def DfnX(P:Program)(w:World)(K:Fg9)(mg:Str->Option Value)(base:Heap)(x:Str)(ps:List Str)(k:Nat)(sp:Sp):Prop :=
 ∃(f:Addr) (fd:FuncData),FnOk P w K mg base (CX1 P w) k f fd ps sp/\mg x=some (.ref f)/\keepIn K (.ref f)=true/\Binds K fd ps []
theorem amt{f:Fd}{js:List (Option Nat)}{ms:M (List (Option D))}{ρ ρ':Ro}{x:Exn}(h:mFn f js ms ρ=some (.exc x,ρ')) :
  ms ρ=some (.exc x,ρ')∨∃ds ρ1 ps,ms ρ=some (.ok ds,ρ1)/\okJs ρ1 js=true/\f (lend ρ1 js ds)=some (.exc x,ps)/\ρ'=putB ρ1 js ps:=by
 rcases qg h with h | ⟨ds,ρ1,e1,em⟩
 ·exact .inl h
 ·split at em
  ·rename_i hj;split at em
   ·cases em
   ·rename_i y ps e2;cases em;exact .inr ⟨ds,ρ1,ps,e1,hj,e2,rfl⟩
   ·cases em
  ·cases em
theorem art{f:Fd}{n k:Nat}{x:Str}{pn:List Str}{js:List (Option Nat)}{ms:M (List (Option D))}(F:DfnX X.prog X.w X.K X.mg X.base x pn k (spX K n f))(hr:Room k X.A)(hg:Gl X x)(ha:EG K X (e::es) js ms)(hxa:XA K X (e::es) ms)(hn:js.length=n:=by rfl)(hdb:(x==("__debug__" : Str))=false:=by decide)
  (he:starEach (e::es) X.env=(false,eval e X.env)::starEach es X.env:=by rfl) (hpl:(backTo pos (starEach es X.env)).any (·.1)=false:=by rfl):XE K X (.Call (.Name x p) (e::es) [] pos) (mFn f js ms):=⟨fun hk hno zv s σ H tg F0 ρ y ρ' I G em=>by
 obtain⟨fa,fd,Fo,hm,hkp,hb⟩:=F;refine wpAny_Call_Name_kw (zr I hg hm ?_ hdb);rcases amt (jg.mp em) with em | ⟨ds,ρ1,ps,e1,hj,e2,rfl⟩
 ·exact PySem.W.callWith_K (h₀:=X.base) I.ok.mod.kin hkp (wpAny_mono (hxa.go pos hk hno zv s σ H tg F0 ρ y ρ' I G (jg.mpr em)) (fun _ _ z=>z.elim) fun _ _ z=>z) he hpl
 ·refine PySem.W.callWith_K (h₀:=X.base) I.ok.mod.kin hkp (wpAny_mono (ha.go hk pos zv s σ H (fun vs H1=>∃F1,Good K tg F1 H1 ρ1 σ/\Ext (Own ρ σ) (Own ρ1 σ) F0 H F1 H1/\AR K F1 σ js ds vs) I ⟨tg,F0,ρ,ds,ρ1,G,e1,fun vs H1 F1 G1 x1 ar=>⟨F1,G1,x1,ar⟩⟩) (fun us s1 ⟨vs,H1,I1,r,F1,G1,x1,ar⟩=>⟨I1.kIn,?_⟩) fun e s1 q=>by rw[hno] at q;exact q.elim) he hpl
  have L:=ar.lent;have hl:(us++[]).length=pn.length:=by
   rw[List.append_nil,<-r.length];exact Fo.len vs H1 (fun _ _=>True) (fun _ _ _=>True) ⟨by rw[ar.length];exact hn,F1,_,y,ps,ux G1 hj L,e2,fun _ _ _ _ _ _ _ _ _ _=>trivial⟩
  have hbn:=hb s1 us I1.kIn hl;rw[List.append_nil] at hbn;refine wpAny_call (codeAny_mono (Fo.run X.A X.stack s1 H1 ⟨[]++us,[]⟩ us vs (fun _ _=>False) (fun cv dx H2=>∃C F2,cv=.ref C/\Good K tg F2 H2 (putB ρ1 js ps) σ/\Ext (Own ρ σ) (Own (putB ρ1 js ps) σ) F0 H F2 H2/\ClsOk K y.cls C/\ant F2 dx y.fs) hr I1.env0 hbn r
   ⟨by rw[ar.length];exact hn,F1,_,y,ps,ux G1 hj L,e2,fun C dx H2 F2 O2 s2 x2 fin hc hf=>⟨C,F2,rfl,zg G1 L x2 s2 fin,x1.trans (aar G1 L x2),hc,hf⟩⟩) fun r s' hq =>?_)
  cases r with
  | ok fl =>
   cases fl with
   | ret u=>obtain⟨_,_,_,_,_,_,_,z⟩:=hq;exact z.elim
   | next=>exact False.elim hq
   | brk=>exact False.elim hq
   | cont=>exact False.elim hq
  | error er =>
   obtain⟨H',a,C,dx,ch,rfl,os,bare,un,hok,fl,hch,C',F2,ce,G2,x2,hc,hf⟩:=hq;cases ce;exact⟨σ,H',F2,I1.call' os un hok bare (fun b z=>absurd z (by simp)),G2,x2,a,C,dx,ch,rfl,hc,hf,fl _,fun b hb=>Inv.fpX I1 (hch b hb).1 (hch b hb).2⟩⟩
end
theorem fn_x{K:Fg9}{P:Program}{w:World}{mg:Str->Option Value}{base:Heap}{x qual:Str}{st:Stmt}{f:Addr}{fd:FuncData}{N ps:List Str}{k nl np:Nat}{g:Sd}(F:Fun K x qual st f fd)(S:FnScope N ps (ao st))(h1:N.length=nl)(h2:ps.length=np)
  (body:∀(cdv:Value) (A:Around) (outer:List Env) (s:Shared) (H:Hp) (E:XK),Room k (A.deeper (envOfC qual (ao st) s.heap.objs.size f cdv))->XSs K (cxOf CX0 P w K mg base N qual (ao st) f cdv A outer s H E).nox (dm st) g) :
  FnOk P w K mg base (CX1 P w) (k+1) f fd ps (spX K np (fnD nl np g)):=by
 subst h1 h2;obtain⟨oc,od,kV,doc,pm,an,cdv,ct,osl,rfl,lk,hcd⟩:=F.ex;refine aqc lk hcd S (fun vs H Q E h=>h.1) fun A outer s H vs Q E hr hsp =>?_
 obtain⟨hn,F0,as,y,ps',G,em,q⟩:=hsp;have hl:as.length=(vs.map some).length:=G.len;have G1:=G.app (N.length - vs.length);have es:start N vs=vs.map some++List.replicate (N.length - vs.length) none:=rfl;unfold fnD at em;rw[<-hn] at em;have fin:∀{ρ':Ro} {σ':L2.St} {F' H':Hp},Good K (tgOf (vs.map some)) F' H' ρ' σ'->Fin K F' H' (vs.map some) (ρ'.take vs.length) (Own ρ' σ'):=fun{ρ' σ' F' H'} G'=>⟨fun i l e=>by
  have hi:=(List.getElem?_eq_some_iff.mp e).1;rw[List.length_take] at hi;rw[List.getElem?_take_of_lt (by omega)] at e
  obtain⟨o,ho,a,ws,rfl,hf,hh,hl,ht⟩:=G'.at e;rw[ht i rfl];exact⟨⟨i,⟨_,_,e⟩,ho⟩,hf,ws,hh,hl⟩⟩
 refine⟨fun _ σ0 H0=>σ0=start N vs/\H0=H,fun zv s1 σ0 H0 D I hs =>?_,rfl,rfl⟩
 obtain⟨hs1,hs2⟩:=hs;subst hs2;rw[hs1,es] at I;split at em
 ·cases em
 ·cases em
 ·rename_i y' ρ' e;cases em;have run:=(body cdv A outer s H0 E hr).go rfl rfl zv s1 _ H0 (tgOf (vs.map some)) F0 _ y ρ' (I.wish _) G1 (j6.mpr e);refine wpAny_mono run (fun _ _ z=>z.elim) fun er s' z9 =>?_
  obtain⟨σ',H',F',J,G',x',a,C,dx,ch,e1,hc,hf,fl,hch⟩:=z9;subst e1;rw[qp hl] at x';show wpAny _ _ (leaving _ (.ref a)) _ _ s';refine apu J.ok.frames J.stack rfl fl fun h' ch' hc' kb fl' =>?_
  have J2:=Inv.records J kb hch;have hsz:s.heap.objs.size<=s'.heap.objs.size:=J.sz;refine⟨H',a,C,dx,ch',rfl,J.os,J.bare,J2.base,J2.hok,fl',fun b hb =>?_,q C dx H' F' (Own ρ' σ') G'.sub x' (fin G') hc hf⟩
  rcases hc' b hb with z | z
  ·obtain⟨f1,_,_,f3,_⟩:=hch b z;rcases f3 with f3 | f3
   ·exact absurd (show b∈([]:List Addr) from f3) (by simp)
   ·exact⟨f3,f1⟩
  ·exact⟨Heap.get?_none_of_le (Nat.le_trans hsz z),J.hok.fresh z⟩
 ·cases em
theorem ah2{P:Program}{w:World}{H:Hp}{h:Heap}{a:Addr}{o:HO}(x:lq P w H h a o):∃ob,h.get? a=some ob:=by
 cases o with
 | lst xs=>obtain⟨_,_,_,_,e⟩:=x;exact⟨_,e⟩
 | tup xs=>obtain⟨_,_,_,ob,e,_⟩:=x;exact⟨_,e⟩
 | dK kvs=>obtain⟨_,_,_,_,o,_,_,e,_⟩:=x;exact⟨_,e⟩
 | dT kvs=>obtain⟨_,_,_,_,o,_,_,e,_⟩:=x;exact⟨_,e⟩
 | set S n=>obtain⟨o,_,_,_,e,_⟩:=x;exact⟨_,e⟩
 | ins C dx fs=>obtain⟨_,_,_,e,_⟩:=x;exact⟨_,e⟩
 | own y=>exact x
 | xd fs=>obtain⟨_,⟨_,_,_,e,_⟩,_⟩:=x;exact⟨_,e⟩
 | rng lo hi=>obtain⟨_,_,_,e⟩:=x;exact⟨_,e⟩
 | frz ob u=>exact⟨_,x.1⟩
 | tbl ps=>exact⟨_,x⟩
 | met f y=>exact⟨_,x⟩
 | ext φ=>exact x.2.1
abbrev bmV:List Value:=[.type "ValueError", .type "Exception", .type "BaseException", .type "object"]
section
variable{K:Fg9}{X:Cx}{c:Str}{C:Addr}{np cpos pos:Pos}
end
end Dn
namespace L2
section
variable{X:Cx}{zv:List (Addr×Obj)}{σ:List (Option V)}{H:Hp}{s:Shared}
theorem aqf{M:Model}{A:Around}{E:Value->Shared->Prop}{i:Nat}{x:Str}{v:V}{Q:Unit->Shared->Prop}(I:Inv X zv σ H s)(hN:X.N.Nodup)(hi:X.N[i]? = some x)(hk:X.env.scope.names.lookup x=some .local)(hv:σ[i]? = some (some v))
  (h:∀s',Inv X zv (σ.set i none) H s'->Q () s'):wpAny M A (unbindName X.env x) Q E s:=by
 obtain⟨m,hn,hl⟩:=id I.loc;have hcls:(X.env.scope.kind==.class||(X.env.scope.kind==.module&&X.env.locals != X.env.globals))=false:=by rw[I.ok.kind];rfl
 have hiσ:i < σ.length:=(List.getElem?_eq_some_iff.mp hv).1;obtain⟨u,_,lk⟩:=hl i x v hi hv (.inl hk);have hmx:∃u,m x=some u:=by
  rcases lk with⟨_,e⟩ | ⟨k,_⟩
  ·exact⟨u,e⟩
  ·rcases k with k | k
   ·exact absurd (hk.symm.trans k) (by simp)
   ·exact absurd (hk.symm.trans k) (by simp)
 obtain⟨u0,hmx⟩:=hmx;refine wpAny_unbindName_local hk hn hmx hcls fun h' u' hn' hs=>h _ ?_
 have ne0:∀b o,X.s₀.heap.get? b=some o->b≠X.env.locals:=fun b o e=>Nat.ne_of_lt (Nat.lt_of_lt_of_le (Heap.lt_size e) I.ok.above)
 refine⟨I.ok,I.os,I.bare,⟨fun b o e n hb hx=>(hs.2 b (ne0 b o e)).trans (I.base.keep b o e n hb hx),fun b o e n hb hx =>?_,I.base.free,fun b o e hx =>?_,I.base.tups,I.base.frzs,I.base.tbls⟩,⟨_,hn',fun j y v' e1 e2 e3 =>?_⟩,fun y c e =>?_,I.free,I.freeC,fun p hp =>?_,fun b ob e =>?_,by simpa using I.len⟩
 ·obtain⟨sl,e1⟩:=I.base.slot b o e n hb hx;exact⟨sl,(hs.2 b (ne0 b o e)).trans e1⟩
 ·obtain⟨o',e1⟩:=I.base.there b o e hx;exact⟨o',(hs.2 b (ne0 b o e)).trans e1⟩
 ·by_cases hj:j=i
  ·subst hj;rw[List.getElem?_set_self hiσ] at e2;cases e2
  ·rw[List.getElem?_set_ne (Ne.symm hj)] at e2;obtain⟨u',r',q⟩:=hl j y v' e1 e2 e3;refine⟨u',r',?_⟩;rcases q with⟨k,e⟩ | ⟨k,c,e,z⟩
   ·refine .inl ⟨k,?_⟩;have:y≠x:=fun e=>hj (acx hN e1 (e▸hi))
    simp[this,e]
   ·exact .inr ⟨k,c,e,z.sameBut hs (I.cne y c e)⟩
 ·obtain⟨w',z⟩:=I.cell y c e;exact⟨w',z.sameBut hs (I.cne y c e)⟩
 ·obtain⟨e,n,ne,nf,d⟩:=I.pin p hp;exact⟨(hs.2 p.1 ne).trans e,n,ne,nf,d⟩
 ·have nL:∀c z,H c=some z->c≠X.env.locals:=fun c z q w=>by
   have:=I.free;rw[<-w,q] at this;cases this
  refine(I.hok b ob e).stay (fun c w' hc q=>(hs.2 c ?_).trans q) (fun _ q=>q) fun _ _ q=>q
  rcases hc with z | z
  ·rw[z];exact nL b ob e
  ·exact nL c _ z
end
section
variable{M:Model}{A:Around}{E:Value->Shared->Prop}{s:Shared}
theorem alk{fs:List Addr}{a C:Addr}{dx:Option Addr}{ch:List Addr}{L:Addr}{Q:Unit->Shared->Prop}(x:FlyAt s.heap a C dx ch L)(hT:ch≠[a])
  (h:∀h',KeptBut fs ch s.heap h'->(∀L',FlyAt h' a C dx ch L')->h'.get? a=s.heap.get? a->Q () { s with heap:=h' }):wpAny M A (setFlight (.ref a) none) Q E s:=by
 obtain⟨oe,vs,he,hc,hdx,hd,hsz,⟨_,e⟩ | ⟨T,oT,ts,fl,rfl,h1,hTa,hT,hdT,h3,hfl⟩⟩:=x.obj
 ·exact absurd e hT
 ·unfold setFlight;refine wpAny_bind (wpAny_field he hd h1 ?_);rw[if_pos (show(Value.ref T != Value.none)=true from by simp)]
  have hsz3:3 < ts.size:=(Array.getElem?_eq_some_iff.mp h3).1;refine wpAny_setField hT hdT hsz3 (h _ (KeptBut.upd.sub (by simp)) (fun L'=>⟨oe,vs,(Heap.get?_update_other _ _ hTa).trans he,hc,hdx,hd,hsz,.inr ⟨T,_,_,.none,rfl,h1,hTa,Heap.get?_update_self _ hT (Obj.isFreed_of_fields (Obj.data_mapFields hdT _)),Obj.data_mapFields hdT _,by simp[hsz3],.inl rfl⟩⟩) (Heap.get?_update_other _ _ hTa))
theorem ah3{base:Heap}{env:Env}{outer:List Env}{L a C:Addr}{dx:Option Addr}{ch:List Addr}{Q:Unit->Shared->Prop}
  (hfr:A.frames=some (env::outer)) (hl:s.heap.FunFrames base (env::outer)) (hf:env.frame=some L) (x:FlyAt s.heap a C dx ch L)
  (h:∀h' ch',ch'≠[a]->(∀b∈ch',b∈ch∨s.heap.objs.size<=b)->KeptBut (frs (env::outer)) ch s.heap h'->(∀L',FlyAt h' a C dx ch' L')->Q () { s with heap:=h' }) :
  wpAny M A (noteFrame (.ref a) env) (fun _ s'=>wpAny M A (setFlight (.ref a) none) Q E s') E s:=by
 refine amm hfr hl hf x fun h' T oT ts oe vs hT k e1 e2 e3 e4 e5 e6 e7 e8 e9 e10 =>?_
 unfold setFlight;refine wpAny_bind (wpAny_field e1 e4 e6 ?_);rw[if_pos (show(Value.ref T != Value.none)=true from by simp)]
 have hsz3:3 < ts.size:=(Array.getElem?_eq_some_iff.mp e10).1;refine wpAny_setField e8 e9 hsz3 (h _ [a,T] (by simp) (fun b hb =>?_) ?_ fun L'=>⟨oe,vs,(Heap.get?_update_other _ _ e7).trans e1,e2,e3,e4,e5,.inr ⟨T,_,_,.none,rfl,e6,e7,Heap.get?_update_self _ e8 (Obj.isFreed_of_fields (Obj.data_mapFields e9 _)),Obj.data_mapFields e9 _,by simp[hsz3],.inl rfl⟩⟩)
 ·have:b=a∨b=T:=by simpa using hb
  rcases this with rfl | rfl
  ·exact .inl x.fresh
  ·exact hT
 ·rcases hT with hT | hT
  ·exact k.trans (KeptBut.upd.sub (by simp[hT]))
  ·refine⟨fun b o n1 n2 e =>?_,fun b o n e =>?_⟩
   ·rw[Heap.get?_update_other _ _ fun z=>absurd (Heap.lt_size e) (by rw[<-z];exact Nat.not_lt.mpr hT)]
    exact k.keep b o n1 n2 e
   ·obtain⟨sl,q⟩:=k.slot b o n e;exact⟨sl,by rw[Heap.get?_update_other _ _ fun z=>absurd (Heap.lt_size e) (by rw[<-z];exact Nat.not_lt.mpr hT)];exact q⟩
structure CatK (K:Fg9) (B:Addr):Prop where
 cls:(PySem.W.clsIn K B).isSome=true
 ty:PySem.W.typeIn K (.ref B)=some (.type "type")
 base:PySem.W.subIn K (.ref B) (.type "BaseException")=some true
theorem ajx{K:Fg9}{a C B:Addr}{oe:Obj}{b:Bool}{Q:Bool->Shared->Prop}(X:K.In s.heap)(k:CatK K B)(he:s.heap.get? a=some oe)(hc:oe.cls=.ref C)(hs:PySem.W.subIn K (.ref C) (.ref B)=some b)(h:Q b s):wpAny M A (excMatches (.ref a) (.ref B)) Q E s:=by
 obtain⟨hp,g,d,tk,os⟩:=s;have L0:PySem.W.Looks M hp (isInstance (.ref B) (.type "tuple")) false:=(PySem.W.looks_typeIn X k.ty).andThen (PySem.W.Looks.of_pure (by rw[isSubtype_type];kernel_rfl))
 have L1:PySem.W.Looks M hp (isType (.ref B)) true:=by
  have z:=k.cls;unfold PySem.W.clsIn at z;split at z
  ·rename_i c' d' cd' sl' ho;intro A' Q' E' s' kk q;unfold isType loadHead;exact wpAny_bind (wpAny_loadPart (kk _ _ (X _ _ ho)) (wpAny_pure q))
  ·cases z
 have L2:=PySem.W.looks_subIn (M:=M) X k.base;have L3:=PySem.W.looks_subIn (M:=M) X hs;have L4:PySem.W.Looks M hp (isExcClass (.ref B)) true:=L1.andThen (by rw[if_pos rfl];exact L2)
 have L5:PySem.W.Looks M hp (typeOf (.ref a)) (.ref C):=(PySem.W.Looks.ld he).andThen (PySem.W.Looks.of_pure (by rw[hc]))
 unfold excMatches;refine wpAny_bind (L0.at ?_);simp only[Bool.false_eq_true,if_false];refine wpAny_bind (wpAny_pure ?_);simp only[List.forIn_cons,List.forIn_nil];refine wpAny_bind (wpAny_bind (wpAny_bind (L4.at ?_)));rw[if_neg (by simp)]
 refine wpAny_pure (wpAny_pure (wpAny_bind (L5.at (wpAny_bind (wpAny_bind (wpAny_bind (L3.at ?_)))))));cases b with
 | true =>
  rw[if_pos rfl];exact wpAny_pure (wpAny_pure (wpAny_pure h))
 | false =>
  rw[if_neg Bool.false_ne_true];exact wpAny_pure (wpAny_pure (wpAny_pure h))
end
end L2
namespace Dn
open L2 Mn
def ac1(c0 c:Str):Bool:=c0==c||c == "ArrowError" || c == "ValueError"
def clsAt(K:Fg9)(c:Str):Option Addr:=match nsIn K mainGlobals c with
 | some (some (.ref C))=>some C
 | _=>none
def acg(K:Fg9)(ns:List Str):Bool:=ns.all fun c0=>match clsAt K c0 with
 | some C0=>(ns.all fun c=>match clsAt K c with
  | some C=>PySem.W.kitOne K (.ref C0) (.ref C)==some (ac1 c0 c)
  | none=>false)&&PySem.W.kitOne K (.ref C0) (.type "ValueError")==some true
 | none=>false
theorem zb{K:Fg9}{c:Str}{C:Addr}(h:nsIn K mainGlobals c=some (some (.ref C))):clsAt K c=some C:=by
 unfold clsAt;rw[h]
theorem ae4{K:Fg9}{ns:List Str}{c0 c:Str}{C0 C:Addr}(h:acg K ns=true)(h0:ns.contains c0=true)(h1:ns.contains c=true)(e0:nsIn K mainGlobals c0=some (some (.ref C0)))(e1:nsIn K mainGlobals c=some (some (.ref C))) :
  PySem.W.kitOne K (.ref C0) (.ref C)=some (ac1 c0 c):=by
 have z:=List.all_eq_true.mp h c0 (List.contains_iff_mem.mp h0);rw[zb e0] at z;have z1:=List.all_eq_true.mp (Bool.and_eq_true_iff.mp z).1 c (List.contains_iff_mem.mp h1);rw[zb e1] at z1;exact beq_iff_eq.mp z1
theorem alr{K:Fg9}{ns:List Str}{c0:Str}{C0:Addr}(h:acg K ns=true)(h0:ns.contains c0=true)(e0:nsIn K mainGlobals c0=some (some (.ref C0))):PySem.W.kitOne K (.ref C0) (.type "ValueError")=some true:=by
 have z:=List.all_eq_true.mp h c0 (List.contains_iff_mem.mp h0);rw[zb e0] at z;exact beq_iff_eq.mp (Bool.and_eq_true_iff.mp z).2
def gIsC(ns:List Str)(c:Str):D->Option D
 | .exn c0 _=>if ns.contains c0 then some (.bl (ac1 c0 c)) else none
 | _=>none
def mIsC(ns:List Str)(c:Str)(m:M D):M D:=m.bind fun d=>lift (gIsC ns c d)
section
variable{K:Fg9}{X:Cx}{e:Expr}{pos p:Pos}
theorem ad7{X:Cx}{cv:Value}{cV:V}(rc:∀u,RelV cV u->u=cv):zz X (.builtin "isinstance") (fun xs H Q=>∃F c0 fs x b,xs=[x,cV]/\Same F H/\Is X.K F (.exn c0 fs) x/\(∀C0,nsIn X.K mainGlobals c0=some (some (.ref C0))->PySem.W.kitOne X.K (.ref C0) cv=some b)/\Q (.bl b) H):=by
 intro zv s σ H xs us Q I r ⟨F,c0,fs,x,b,e,g,h,hk1,q⟩;subst e;obtain⟨u,w',rfl,r1,r2⟩:=vals2 r;obtain rfl:=rc w' r2;have fin:∀tk,EP X zv σ Q (.bool b) { s with toks:=tk }:=fun tk=>⟨.bl _,H,I.tok tk,rfl,q⟩
 cases h with
 | @exn a C c dx fs e hc hk hf =>
  cases(show u=Value.ref a from r1)
  obtain⟨⟨oe,ws,h1,h2,h3,h4⟩,_⟩:=(show lq X.prog X.w H s.heap a (.ext (exO a C dx)) from I.hok a _ (g _ _ e))
  have hno:PySem.W.notCls oe=true:=by unfold PySem.W.notCls;rw[h4]
  have ia:∃ox od,PySem.W.InstAt s.heap a ox C od:=by
   rcases hf with⟨rfl,_⟩ | ⟨d,rfl,hd⟩
   ·exact⟨oe,none,h1,h2,hno,by rw[h3];trivial⟩
   ·obtain⟨mA,⟨od,_,_,e1,_⟩,_⟩:=(show lq X.prog X.w H s.heap d (.xd _) from I.hok d _ (g _ _ hd))
    exact⟨oe,some od,h1,h2,hno,by rw[h3];exact e1⟩
  exact PySem.W.kia_one (afn hk) I.kIn ia (hk1 C hc) (fun z=>nomatch z) fin
theorem ak8{F H:Hp}{d:D}{v:V}{ns:List Str}{c:Str}{r:D}(b:Bor K F H d v)(e:gIsC ns c d=some r):∃c0 fs,d=.exn c0 fs/\Is K F (.exn c0 fs) v/\ns.contains c0=true/\r=.bl (ac1 c0 c):=by
 cases d with
 | exn c0 fs =>
  have e:(if ns.contains c0 then some (D.bl (ac1 c0 c)) else none)=some r:=e
  split at e
  ·rename_i hn;cases e;refine⟨c0,fs,rfl,?_,hn,rfl⟩;rcases b with b | ⟨_,_,_,z,_⟩
   ·exact b
   ·cases z
  ·cases e
 | _=>cases e
theorem anc{ns:List Str}{c:Str}{C:Addr}{m:M D}{x:Str}{pc:Pos}(sub:acg K ns=true)(h1:ns.contains c=true)(hgC:Gl X c)(hmC:X.mg c=some (.ref C))(hnC:nsIn K mainGlobals c=some (some (.ref C)))
  (hg:Gl X x) (hm:X.mg x=none) (hv:bootBuiltins x=some (.builtin "isinstance")) (h:EB K X e m) (hdC:(c==("__debug__" : Str))=false:=by decide) (hn:x ≠ "__name__" := by decide) (hdb:(x==("__debug__" : Str))=false:=by decide)
  (h1':starEach [.Name c pc] X.env=(false,eval (.Name c pc) X.env)::starEach [] X.env:=by rfl) (he:starEach [e,.Name c pc] X.env=(false,eval e X.env)::starEach [.Name c pc] X.env:=by rfl) (hpl:(backTo pos (starEach [.Name c pc] X.env)).any (·.1)=false:=by rfl) :
  EV K X (.Call (.Name x p) [e,.Name c pc] [] pos) (mIsC ns c m):=EV.mk fun hk=>by
 refine PE.imp (aam (ad7 (cv:=.ref C) (cV:=.ref C) fun u r=>r) hg hm hv (lg (h hk) (lg (acl (v:=.ref C) hgC hmC rfl hdC) aa2 h1') he) hn hdb he hpl) fun σ H Q z9 =>?_
 obtain⟨tg,F,ρ,d,ρ',G,em,q⟩:=z9;obtain⟨d1,ρ1,e1,em⟩:=au em;obtain⟨e2,rfl⟩:=dg em;subst hk;refine⟨tg,F,ρ,d1,_,G,e1,fun v H' F' G' x bv =>?_⟩
 obtain⟨c0,fs,rfl,hi,h0,rfl⟩:=ak8 bv e2;exact⟨F',c0,fs,v,_,rfl,G'.sub,hi,fun C0 e0=>ae4 sub h0 h1 e0 hnC,q _ H' F' G' x (.bl _)⟩
theorem aiq{ns:List Str}{m:M D}{x:Str}{pc:Pos}(sub:acg K ns=true)(hgC:Gl X "ValueError")(hmC:X.mg "ValueError" = none)(hvC:bootBuiltins "ValueError" = some (.type "ValueError"))
  (hg:Gl X x) (hm:X.mg x=none) (hv:bootBuiltins x=some (.builtin "isinstance")) (h:EB K X e m) (hn:x ≠ "__name__" := by decide) (hdb:(x==("__debug__" : Str))=false:=by decide)
  (h1':starEach [.Name "ValueError" pc] X.env=(false,eval (.Name "ValueError" pc) X.env)::starEach [] X.env:=by rfl) (he:starEach [e,.Name "ValueError" pc] X.env=(false,eval e X.env)::starEach [.Name "ValueError" pc] X.env:=by rfl) (hpl:(backTo pos (starEach [.Name "ValueError" pc] X.env)).any (·.1)=false:=by rfl) :
  EV K X (.Call (.Name x p) [e,.Name "ValueError" pc] [] pos) (mIsC ns "ValueError" m):=EV.mk fun hk=>by
 refine PE.imp (aam (ad7 (cv:=.type "ValueError") (cV:=.ty "ValueError") fun u r=>r) hg hm hv (lg (h hk) (lg (abp hgC hmC hvC) aa2 h1') he) hn hdb he hpl) fun σ H Q z9 =>?_
 obtain⟨tg,F,ρ,d,ρ',G,em,q⟩:=z9;obtain⟨d1,ρ1,e1,em⟩:=au em;obtain⟨e2,rfl⟩:=dg em;subst hk;refine⟨tg,F,ρ,d1,_,G,e1,fun v H' F' G' x bv =>?_⟩
 obtain⟨c0,fs,rfl,hi,h0,rfl⟩:=ak8 bv e2;refine⟨F',c0,fs,v,ac1 c0 "ValueError", rfl,G'.sub,hi,fun C0 e0 =>?_,q _ H' F' G' x (.bl _)⟩
 rw[alr sub h0 e0];simp[ac1]
end
theorem zc:bootBuiltins "ValueError" = some (.type "ValueError"):=by decide +kernel
@[simp] theorem asy(ns:List Str)(c:Str)(m:M D)(ρ:Ro):mIsC ns c m ρ=(m.bind fun d=>lift (gIsC ns c d)) ρ:=rfl
@[simp] theorem arb(ns:List Str)(c c0:Str)(fs:List (Str×Int)):gIsC ns c (.exn c0 fs)=if ns.contains c0 then some (.bl (ac1 c0 c)) else none:=rfl
end Dn
namespace L2
structure RoomU (k:Nat) (A:Around):Prop where
 dp:A.depth+3*k+5 < recursionLimit
 un:A.units+16*k+200 < cLine
 gd:A.guards=some []
theorem RoomU.mono{j k:Nat}{A:Around}(r:RoomU k A)(h:j<=k):RoomU j A:=⟨by have:=r.dp;omega,by have:=r.un;omega,r.gd⟩
theorem RoomU.deeper{k:Nat}{A:Around}(r:RoomU (k+1) A)(env:Env):RoomU k (A.deeper env) :=
 ⟨by have:=r.dp;show A.depth+1+3*k+5 < _;omega,by have:=r.un;show A.units+3+16*k+200 < _;omega,r.gd⟩
theorem RoomU.depth{k:Nat}{A:Around}(r:RoomU k A):A.depth < recursionLimit:=by have:=r.dp;omega
theorem RoomU.units{k:Nat}{A:Around}(r:RoomU k A):A.units+64 < cLine:=by have:=r.un;omega
theorem Room.mark{k:Nat}{A:Around}(r:Room k A)(e:Value):RoomU k (A.mark (some e)):=⟨r.dp,r.un,r.gd⟩
def cxU(P:Program)(w:World)(K:Fg9)(mg:Str->Option Value)(base:Heap)(N:List Str)(qual:Str)(scope:Scope)(f:Addr)(cd:Value)(A:Around)(outer:List Env)(s:Shared)(H:Hp):Cx :=
 { (cxOf CX0 P w K mg base N qual scope f cd A outer s H E0).nox with calm:=false }
structure FnOkU (P:Program) (w:World) (K:Fg9) (mg:Str->Option Value) (base:Heap) (k:Nat) (f:Addr) (fd:FuncData) (ps:List Str) (sp:Sp):Prop where
 len:∀vs H Q E,sp vs H Q E->vs.length=ps.length
 run:∀(A:Around) (outer:List Env) (s:Shared) (H:Hp) (args:Args) (us:List Value) (vs:List V) (Q:VK),RoomU k A->Env0 P w K mg base A outer s H->BindsTo s fd args (ps.zip us)->Vals vs us->sp vs H Q E0 ->
  codeAny (model P w) A (.call (.ref f) args) (CR CX0 outer P w H s Q E0) s
theorem Fun.okU{P:Program}{w:World}{K:Fg9}{mg:Str->Option Value}{base:Heap}{x qual:Str}{st:Stmt}{f:Addr}{fd:FuncData}{N ps:List Str}{k:Nat}{sp:Sp}(F:Fun K x qual st f fd)(S:FnScope N ps (ao st))(len:∀vs H Q E,sp vs H Q E->vs.length=ps.length)
  (hbody:∀(cdv:Value) (A:Around) (outer:List Env) (s:Shared) (H:Hp) (vs:List V) (Q:VK),RoomU k (A.deeper (envOfC qual (ao st) s.heap.objs.size f cdv))->sp vs H Q E0 ->
   ∃t,PSs (cxU P w K mg base N qual (ao st) f cdv A outer s H) (dm st) t/\t { nx:=fun _ H'=>Q .non H',rt:=Q } (start N vs) H):FnOkU P w K mg base (k+1) f fd ps sp:=by
 obtain⟨oc,od,kV,doc,pm,an,cdv,ct,osl,rfl,lk,hcd⟩:=F.ex;refine⟨len,fun A outer s H args us vs Q hr e0 hb r hsp =>?_⟩
 have hl:=len _ _ _ _ hsp;have KX:K.In s.heap:=e0.mod.kin.keeps fun b o e=>(e0.bs b o e).1
 have lim:s.heap.NoLimit:=e0.mod.nolimit.keeps fun b o e=>(e0.bs b o e).1
 have hkind:∀y∈ps.zip us,(ao st).names.lookup y.1=some .local∨((ao st).names.lookup y.1=some .cell/\((cellsFrom (s.heap.objs.size+1) (ao st).names []).lookup y.1).isSome=true):=fun y hy=>by
  rcases S.par y.1 (List.of_mem_zip hy).1 with q | q
  ·exact .inl q
  ·exact .inr ⟨q,PySem.W.cellsFrom_some _ _ _ (.inl q)⟩
 refine codeAny_call_function hr.depth (KX _ _ lk) rfl S.co S.gen rfl (PySem.W.codeRec_of KX hcd) (hb _ _ _ _ ?_);refine wpAny_newFunctionEnv_cells S.kind hkind fun env he s1 x =>?_
 subst he;refine⟨lim.keeps x.toInCall.keep,codeAny_func ?_⟩;obtain⟨t,ht,hq⟩:=hbody cdv A outer s H vs Q (hr.deeper _) hsp;have e1:Env0 P w K mg base { A with handled:=none } outer s H:=⟨e0.frames,e0.mod,e0.bs,e0.bsz,e0.funs,e0.frf,e0.hok,e0.bare⟩
 have J:Inv (cxOf CX0 P w K mg base N qual (ao st) f cdv { A with handled:=none } outer s H E0) [] (start N vs) H s1:=ady S rfl e1 hl r x
 have I:Inv (cxU P w K mg base N qual (ao st) f cdv A outer s H) [] (start N vs) H s1 :=
  ⟨⟨J.ok.mod,J.ok.kind,J.ok.glob,J.ok.blt,J.ok.above,J.ok.inj,J.ok.has,J.ok.cab,(fun z=>absurd z Bool.false_ne_true),Around.frames_deeper e0.frames,J.ok.stk,J.ok.exf,J.ok.bs,J.ok.bsz,J.ok.noex,J.ok.exfs,J.ok.funs,J.ok.frf⟩,J.os,J.bare,J.base,J.loc,J.cell,J.free,J.freeC,J.pin,J.hok,J.len⟩
 refine wpAny_mono (ht [] s1 (start N vs) H _ I hq) (fun fl s' hs =>?_) fun e s' hs=>False.elim hs
 have fin:∀{σ':St} {H':Hp} {v:V} {u:Value},Inv (cxU P w K mg base N qual (ao st) f cdv A outer s H) [] σ' H' s'->RelV v u->Q v H'->CE outer P w H s Q u s' :=
  fun{σ' H' v u} J rv q=>⟨v,H',J.os,J.bare,J.base,J.hok,rv,q⟩
 cases fl with
 | ret u =>
  obtain⟨v,σ',H',J,rv,q⟩:=hs;exact fin J rv q
 | next =>
  obtain⟨σ',H',J,q⟩:=hs;exact fin (v:=V.non) (u:=Value.none) J rfl q
 | brk =>
  obtain⟨_,_,_,q⟩:=hs;exact False.elim q
 | cont =>
  obtain⟨_,_,_,q⟩:=hs;exact False.elim q
def DfnU(P:Program)(w:World)(K:Fg9)(mg:Str->Option Value)(base:Heap)(x:Str)(ps:List Str)(k:Nat)(sp:Sp):Prop :=
 ∃(f:Addr) (fd:FuncData),FnOkU P w K mg base k f fd ps sp/\mg x=some (.ref f)/\keepIn K (.ref f)=true/\Binds K fd ps []
theorem ao0{X:Cx}{x:Str}{ps:List Str}{k:Nat}{sp:Sp}{e:Expr}{es:List Expr}{t:TA}{p pos:Pos}(F:DfnU X.prog X.w X.K X.mg X.base x ps k sp)(hr:RoomU k X.A)(hg:Gl X x)(ha:PA X (e::es) t)(hdb:(x==("__debug__" : Str))=false:=by decide)
  (he:starEach (e::es) X.env=(false,eval e X.env)::starEach es X.env:=by rfl) (hpl:(backTo pos (starEach es X.env)).any (·.1)=false:=by rfl):PE X (.Call (.Name x p) (e::es) [] pos) (alp sp [] E0 t):=by
 obtain⟨f,fd,F,hm,hk,hb⟩:=F;intro zv s σ H Q I h;refine wpAny_Call_Name_kw (zr I hg hm ?_ hdb);refine PySem.W.callWith_K (h₀:=X.base) I.ok.mod.kin hk (thn (ha pos zv s σ H _ I h) fun us s1 ⟨vs,H1,I1,r,q⟩=>⟨I1.kIn,?_⟩) he hpl
 have q:sp (vs++[]) H1 Q E0:=q;rw[List.append_nil] at q;have hl:(us++[]).length=ps.length:=by rw[List.append_nil,<-r.length];exact F.len _ _ _ _ q
 have hbn:=hb s1 us I1.kIn hl;rw[List.append_nil] at hbn;refine wpAny_call (codeAny_mono (F.run X.A X.stack s1 H1 ⟨[]++us,[]⟩ us vs Q hr I1.env0 hbn r q) fun r s' hq =>?_)
 cases r with
 | error e=>exact False.elim hq
 | ok fl =>
  cases fl with
  | ret u=>exact I1.after hq
  | next=>exact False.elim hq
  | brk=>exact False.elim hq
  | cont=>exact False.elim hq
end L2
namespace Dn
open L2 Mn
theorem alc{K:Fg9}{X:Cx}{e:Expr}{es:List Expr}{pos p:Pos}{f:Fd}{n k:Nat}{x:Str}{pn:List Str}{js:List (Option Nat)}{ms:M (List (Option D))}(F:DfnU X.prog X.w X.K X.mg X.base x pn k (spOf K n f))(hr:RoomU k X.A)(hg:Gl X x)(ha:EG K X (e::es) js ms)(hn:js.length=n:=by rfl)(hdb:(x==("__debug__" : Str))=false:=by decide)
  (he:starEach (e::es) X.env=(false,eval e X.env)::starEach es X.env:=by rfl) (hpl:(backTo pos (starEach es X.env)).any (·.1)=false:=by rfl):ER K X (.Call (.Name x p) (e::es) [] pos) (mFn f js ms):=ER.mk fun hk=>PE.imp (ao0 F hr hg (ha hk) hdb he hpl) fun σ H Q z9=>by
 obtain⟨tg,F,ρ,r,ρ',G,em,q⟩:=z9;obtain⟨ds,ρ1,ps,e1,hj,e2,rfl⟩:=ak3 em;refine⟨tg,F,ρ,ds,ρ1,G,e1,fun vs H1 F1 G1 x1 ar =>?_⟩
 have L:=ar.lent;show spOf K n f (vs++[]) H1 Q E0;rw[List.append_nil];refine⟨by rw[ar.length];exact hn,F1,_,r,ps,ux G1 hj L,e2,fun v H' F' O' s' x' fin rr =>?_⟩
 exact q v H' F' (zg G1 L x' s' fin) (x1.trans (aar G1 L x')) (jm x1 (aga G1 L fin rr))
theorem ain{K:Fg9}{P:Program}{w:World}{mg:Str->Option Value}{base:Heap}{x qual:Str}{st:Stmt}{f:Addr}{fd:FuncData}{N ps:List Str}{k nl np:Nat}{g:Sd}(F:Fun K x qual st f fd)(S:FnScope N ps (ao st))(h1:N.length=nl)(h2:ps.length=np)
  (body:∀(cdv:Value) (A:Around) (outer:List Env) (s:Shared) (H:Hp),RoomU k (A.deeper (envOfC qual (ao st) s.heap.objs.size f cdv))->SVs K (cxU P w K mg base N qual (ao st) f cdv A outer s H) (dm st) g) :
  FnOkU P w K mg base (k+1) f fd ps (spOf K np (fnD nl np g)):=by
 subst h1 h2;refine F.okU S (fun vs H Q E h=>h.1) fun cdv A outer s H vs Q hr h=>⟨_,body cdv A outer s H hr rfl,?_⟩
 obtain⟨hn,F,as,r,ps',G,em,q⟩:=h;have hl:as.length=(vs.map some).length:=G.len;have G1:=G.app (N.length - vs.length);have es:start N vs=vs.map some++List.replicate (N.length - vs.length) none:=rfl;rw[es];unfold fnD at em;rw[<-hn] at em;have fin:∀{ρ':Ro} {σ':L2.St} {F' H':Hp},Good K (tgOf (vs.map some)) F' H' ρ' σ'->Fin K F' H' (vs.map some) (ρ'.take vs.length) (Own ρ' σ'):=fun{ρ' σ' F' H'} G'=>⟨fun i l e=>by
  have hi:=(List.getElem?_eq_some_iff.mp e).1;rw[List.length_take] at hi;rw[List.getElem?_take_of_lt (by omega)] at e
  obtain⟨o,ho,a,ws,rfl,hf,hh,hl,ht⟩:=G'.at e;rw[ht i rfl];exact⟨⟨i,⟨_,_,e⟩,ho⟩,hf,ws,hh,hl⟩⟩
 split at em
 ·rename_i r' ρ' e;cases em;refine⟨_,F,_,.ret r,ρ',G1,e,fun v σ' H' F' G' x' rr =>?_⟩
  rw[qp hl] at x' rr;exact q v H' F' (Own ρ' σ') G'.sub x' (fin G') rr
 ·rename_i ρ' e;cases em;refine⟨_,F,_,.nx,ρ',G1,e,fun σ' H' F' G' x' =>?_⟩
  rw[qp hl] at x';exact q .non H' F' (Own ρ' σ') G'.sub x' (fin G') .non
 ·cases em
 ·cases em
def cxH(X:Cx)(ev:Value):Cx:={ X with A:=X.A.mark (some ev),calm:=false }
section
variable{K:Fg9}{X:Cx}{zv:List (Addr×Obj)}{σ:L2.St}{H:Hp}{s:Shared}{tg:Nat->Addr}{F:Hp}{ρ:Ro}
theorem Inv.hnd(I:Inv X zv σ H s)(ev:Value):Inv (cxH X ev) zv σ H s :=
 ⟨⟨I.ok.mod,I.ok.kind,I.ok.glob,I.ok.blt,I.ok.above,I.ok.inj,I.ok.has,I.ok.cab,(fun z=>absurd z Bool.false_ne_true),I.ok.frames,I.ok.stk,I.ok.exf,I.ok.bs,I.ok.bsz,I.ok.noex,I.ok.exfs,I.ok.funs,I.ok.frf⟩,I.os,I.bare,I.base,I.loc,I.cell,I.free,I.freeC,I.pin,I.hok,I.len⟩
theorem Inv.unhnd{ev:Value}(hd:X.calm=true->X.A.handled=none)(I:Inv (cxH X ev) zv σ H s):Inv X zv σ H s :=
 ⟨⟨I.ok.mod,I.ok.kind,I.ok.glob,I.ok.blt,I.ok.above,I.ok.inj,I.ok.has,I.ok.cab,hd,I.ok.frames,I.ok.stk,I.ok.exf,I.ok.bs,I.ok.bsz,I.ok.noex,I.ok.exfs,I.ok.funs,I.ok.frf⟩,I.os,I.bare,I.base,I.loc,I.cell,I.free,I.freeC,I.pin,I.hok,I.len⟩
theorem Inv.track{a:Addr}{o:HO}(I:Inv X zv σ H s)(f:FpX X zv H a)(new:lq X.prog X.w (upd H a o) s.heap a o):Inv X zv σ (upd H a o) s:=by
 have ne:∀b z,H b=some z->b≠a:=fun b z q w=>by rw[w,f.1] at q;cases q
 refine⟨I.ok,I.os,I.bare,⟨I.base.keep,I.base.slot,fun b o' e n hx =>?_,I.base.there,fun b xs q =>?_,fun b ob u q =>?_,fun b ps q =>?_⟩,I.loc,I.cell,?_,fun x c e =>?_,fun p hp =>?_,fun b u e =>?_,I.len⟩
 ·rw[bj (fun w=>by
   rcases f.2.2.2.1 with z | z
   ·exact hx (w▸z)
   ·rw[w,z] at e;cases e)]
  exact I.base.free b o' e n hx
 ·have:=I.base.tups b xs q;rw[bj (ne _ _ this)];exact this
 ·have:=I.base.frzs b ob u q;rw[bj (ne _ _ this)];exact this
 ·obtain⟨more,h1⟩:=I.base.tbls b ps q;exact⟨more,by rw[bj (ne _ _ h1)];exact h1⟩
 ·rw[bj (Ne.symm f.2.1)];exact I.free
 ·rw[bj (f.2.2.2.2.1 x c e)];exact I.freeC x c e
 ·obtain⟨h1,h2,h3,h4,h5⟩:=I.pin p hp;exact⟨h1,by rw[bj (f.2.2.2.2.2 p hp)];exact h2,h3,h4,h5⟩
 ·by_cases hb:b=a
  ·subst hb;rw[cj] at e;cases e;exact new
  ·rw[bj hb] at e;refine(I.hok b u e).stay (fun c v _ q=>q) (fun c q =>?_) fun c xs q =>?_
   ·rw[bj (ne _ _ q)];exact q
   ·rw[bj (ne _ _ q)];exact q
theorem agn{i:Nat}{a:Addr}{σ':L2.St}(hs:∀j,j≠i->σ'[j]? = σ[j]?)(h:Own (List.set ρ i .emp) σ' a):Own ρ σ a:=by
 obtain⟨j,⟨t,l,e⟩,q⟩:=h;rw[List.getElem?_set] at e
 by_cases hj:i=j
 ·subst hj;rw[if_pos rfl] at e;split at e <;> cases e
 ·rw[if_neg hj] at e;exact⟨j,⟨t,l,e⟩,by rw[<-hs j (Ne.symm hj)];exact q⟩
theorem Good.forget(G:Good K tg F H ρ σ)(i:Nat):Good K tg F H (List.set ρ i .emp) (List.set σ i none) where
 sub:=G.sub
 len:=by rw[List.length_set,List.length_set];exact G.len
 sl:=fun j s o e q=>by
  rw[List.getElem?_set] at e q
  by_cases hj:i=j
  ·subst hj;rw[if_pos rfl] at e;split at e
   ·cases e;trivial
   ·cases e
  ·rw[if_neg hj] at e q;exact G.sl j s o e q
 inj:=fun j k a ⟨⟨t,l,e⟩,q⟩ ⟨⟨t',l',e'⟩,q'⟩=>by
  have f:∀{j t l},(List.set ρ i Sl.emp)[j]? = some (Sl.own t l)->i≠j:=fun{j t l} e z=>by
   subst z;rw[List.getElem?_set,if_pos rfl] at e;split at e <;> cases e
  have n1:=f e;have n2:=f e';rw[List.getElem?_set,if_neg n1] at e q;rw[List.getElem?_set,if_neg n2] at e' q';exact G.inj j k a ⟨⟨t,l,e⟩,q⟩ ⟨⟨t',l',e'⟩,q'⟩
theorem Ext.less{O O' O2:Addr->Prop}{F H F' H':Hp}(x:Ext O O' F H F' H')(h:∀a,O2 a->O' a):Ext O O2 F H F' H':=⟨x.sub,x.new,x.keep,fun a z=>x.own a (h a z),x.there⟩
theorem ahj{O O' O2:Addr->Prop}{F' H H':Hp}{r:Rv}{v:V}(x:relR K r v H O F' H' O')(h:∀a,O2 a->O' a):relR K r v H O F' H' O2:=by
 cases r with
 | v d=>exact x
 | fr l =>
  obtain⟨a,vs,e1,e2,e3,e4,e5,e6⟩:=x;exact⟨a,vs,e1,e2,e3,e4,e5,fun z=>e6 (h a z)⟩
 | tf d l =>
  obtain⟨t,u,a,vs,e0,e1,e2,e3,e4,e5,e6,e7⟩:=x;exact⟨t,u,a,vs,e0,e1,e2,e3,e4,e5,e6,fun z=>e7 (h a z)⟩
end
def dTry(ns:List Str)(gb:Sd)(i:Nat)(gh:Sd):Sd:=fun ρ=>match gb ρ with
 | some (.exc x,ρ1)=>if ns.contains x.cls then match gh (List.set ρ1 i (.val (.exn x.cls x.fs))) with
   | some (.exc _,_)=>none
   | some (fl,ρ2)=>some (fl,List.set ρ2 i .emp)
   | none=>none
  else none
 | r=>r
structure CatN (K:Fg9) (B:Addr):Prop extends CatK K B where
 ns:nsIn K mainGlobals "ArrowError" = some (some (.ref B))
 self:PySem.W.subIn K (.ref B) (.ref B)=some true
theorem agh{K:Fg9}{C B:Addr}(k:CatN K B)(h:PySem.W.kitOne K (.ref C) (.ref B)=some true):PySem.W.subIn K (.ref C) (.ref B)=some true:=by
 by_cases e:C=B
 ·rw[e];exact k.self
 ·have h1:(if (Value.ref C==Value.ref B)=true then some true else PySem.W.kitCls K (.ref C) (.ref B))=some true:=h
  rw[if_neg (fun z=>e (Value.ref.inj (beq_iff_eq.mp z)))] at h1
  have h2:(if ((PySem.W.clsIn K B).isSome&&PySem.W.typeIn K (.ref B)==some (.type "type"))=true then PySem.W.subIn K (.ref C) (.ref B) else none)=some true:=h1
  split at h2
  ·exact h2
  ·cases h2
def at7(K:Fg9)(tg:Nat->Addr)(ρ:Ro)(σ:L2.St)(F H:Hp)(ρ2:Ro)(fl:Fl):Ends where
 nx:=fun σ6 H6=>fl=.nx/\∃F6,Good K tg F6 H6 ρ2 σ6/\Ext (Own ρ σ) (Own ρ2 σ6) F H F6 H6
 bk:=fun σ6 H6=>fl=.brk/\∃F6,Good K tg F6 H6 ρ2 σ6/\Ext (Own ρ σ) (Own ρ2 σ6) F H F6 H6
 ct:=fun σ6 H6=>fl=.cont/\∃F6,Good K tg F6 H6 ρ2 σ6/\Ext (Own ρ σ) (Own ρ2 σ6) F H F6 H6
 rt:=fun v H6=>∃r σ6 F6,fl=.ret r/\Good K tg F6 H6 ρ2 σ6/\Ext (Own ρ σ) (Own ρ2 σ6) F H F6 H6/\relR K r v H (Own ρ σ) F6 H6 (Own ρ2 σ6)
section
variable{K:Fg9}{X:Cx}{pos hpos bp:Pos}{n:Str}{B:Addr}{i:Nat}{b₀:Stmt}{body suite:List Stmt}{ns:List Str}{gb gh:Sd}
theorem an9(hcalm:X.calm=true)(hno:X.xe=fun _ _=>False)(hfr:X.env.frame=some X.env.locals)(hst:X.stack=X.env::X.outer)(hN:X.N.Nodup)(hi:X.N[i]? = some n)(hk0:X.env.scope.names.lookup n=some .local)
  (hgB:Gl X "ArrowError") (hmB:X.mg "ArrowError" = some (.ref B)) (cat:CatN K B) (sub:acg K ns=true) (hB:ns.contains "ArrowError" = true) (hb:SVs K X body gb) (hx:XSs K X body gb) (hh:∀ev,SVs K (cxH X ev) (b₀::suite) gh) :
  SV K X (.Try body [.ExceptHandler (some (.Name "ArrowError" bp)) (some n) (b₀::suite) hpos] [] [] pos) (dTry ns gb i gh):=SV.mk fun hk zv s σ H E I z9=>by
 obtain⟨tg,F,ρ,fl,ρ',G,em,q⟩:=z9;refine wpAny_Try_except ?_;unfold dTry at em;split at em
 ·rename_i x ρ1 e1;split at em
  ·rename_i hc0;split at em
   ·cases em
   ·rename_i fl' ρ2 hne e2;cases em;refine wpAny_mono (hx.go hk hno zv s σ H tg F ρ x ρ1 I G (j6.mpr e1)) (fun _ _ z=>z.elim) fun er s1 z9 =>?_
    obtain⟨σ1,H1,F1,I1,G1,x1,a,C,dx,ch,ea,hc,hf,fly,hch⟩:=z9;subst ea;have hl1:=I1.stack;rw[hst] at hl1;refine ah3 (by rw[<-hst];exact I1.ok.frames) hl1 hfr fly fun h2 ch2 hne2 hch2 kb2 fly2 =>?_
    rw[<-hst] at kb2;have I2:=Inv.records I1 kb2 hch;have fp2:∀b∈ch2,FpX X zv H1 b:=fun b hb=>by
     rcases hch2 b hb with z | z
     ·exact hch b z
     ·exact Inv.fpX I1 (Heap.get?_none_of_le z) (I1.hok.fresh z)
    obtain⟨oe,vs,he,hcl,_⟩:=(fly2 X.env.locals).obj;have hsub:=agh cat (by have z:=ae4 sub hc0 hB hc.ns cat.ns;rw[z];simp[ac1])
    refine wpAny_handleBy_cons (codeAny_handlers_test (zr (X:=cxH X (.ref a)) (Inv.hnd I2 _) hgB hmB ?_ (by decide))) (by intro z;cases z)
    refine ajx (hk▸I2.kIn) cat.toCatK he hcl hsub ?_;refine codeAny_handlers_suite_as ?_;refine alk (fs:=frs X.stack) (fly2 X.env.locals) hne2 fun h3 kb3 fly3 ha3 =>?_
    have I3:=Inv.records I2 kb3 fp2;obtain⟨oe3,vs3,he3,hcl3,hdx3,hd3,_⟩:=(fly3 X.env.locals).obj;have fa:FpX X zv H1 a:=fp2 a (fly2 X.env.locals).fresh;have I4:=Inv.track (o:=.ext (exO a C dx)) I3 fa ⟨⟨oe3,vs3,he3,hcl3,hdx3,hd3⟩,⟨oe3,he3⟩,fun g1 g2 ⟨o,vs',h1,h2,h3,h4⟩ kp=>⟨o,vs',kp o h1,h2,h3,h4⟩⟩
    have G4:=G1.new fa.1 (.ext (exO a C dx));have x4:=G1.newX fa.1 (.ext (exO a C dx));have isE:Is K (upd F1 a (.ext (exO a C dx))) (.exn x.cls x.fs) (.ref a):=.exn cj hc.ns hc.ok (hf.imp id fun⟨d,h1,h2⟩=>⟨d,h1,x4.sub _ _ h2⟩)
    obtain⟨G5,x5⟩:=G4.storeV i isE;refine aal I4 hN hi (.inl hk0) (v:=.ref a) rfl (fun s5 I5 =>?_) (.inr hk0)
    have hx5:=(x1.trans x4).trans x5;have back:∀{f:Flow} {s6:Shared} {σ6:L2.St} {H6:Hp},Inv (cxH X (.ref a)) zv σ6 H6 s6->(∀s7,Inv X zv (List.set σ6 i none) H6 s7->SP X zv E f s7) ->
      wpAny (model X.prog X.w) X.A (do bindName X.env n .none;unbindBehindTheSuite X.env n hpos) (fun _ s7=>SP X zv E f s7) X.xe s6:=fun{f s6 σ6 H6} I6 fin=>by
     have I6:=Inv.unhnd I.ok.hd I6;refine wpAny_bind (wpAny_bindName (aal I6 hN hi (.inl hk0) (v:=.non) rfl (fun s7 I7 =>?_) (.inr hk0)))
     unfold unbindBehindTheSuite;refine wpAny_onRaise (aqf I7 hN hi hk0 (v:=.non) (List.getElem?_set_self (by rw[I6.len];exact(List.getElem?_eq_some_iff.mp hi).1)) fun s8 I8=>fin s8 ?_)
     rw[List.set_set] at I8;exact I8
    refine wpAny_mono ((hh (.ref a)).go hk zv s5 _ _ (at7 K tg ρ σ F H ρ2 fl) (Inv.hnd I5 (.ref a))
      ⟨tg,_,_,fl,ρ2,G5,e2,?_⟩) (fun f s6 hs =>?_) fun _ _ z=>by
       have z:X.xe _ _:=z;rw[hno] at z;exact z.elim
    ·cases fl with
     | nx=>exact fun σ6 H6 F6 G6 x6=>⟨rfl,F6,G6,hx5.trans x6⟩
     | brk=>exact fun σ6 H6 F6 G6 x6=>⟨rfl,F6,G6,hx5.trans x6⟩
     | cont=>exact fun σ6 H6 F6 G6 x6=>⟨rfl,F6,G6,hx5.trans x6⟩
     | ret r=>exact fun v σ6 H6 F6 G6 x6 rr=>⟨r,σ6,F6,rfl,G6,hx5.trans x6,jm hx5 rr⟩
     | exc y=>exact(hne y rfl).elim
    ·have sub6:∀(σ6:L2.St) (a:Addr),Own (List.set ρ2 i .emp) (List.set σ6 i none) a->Own ρ2 σ6 a:=fun σ6 a z=>agn (fun j hj=>List.getElem?_set_ne (Ne.symm hj)) z
     cases f with
     | next =>
      obtain⟨σ6,H6,I6,rfl,F6,G6,x6⟩:=hs;exact back I6 fun s7 I7=>⟨_,H6,I7,q _ H6 F6 (G6.forget i) (x6.less (sub6 σ6))⟩
     | brk =>
      obtain⟨σ6,H6,I6,rfl,F6,G6,x6⟩:=hs;exact back I6 fun s7 I7=>⟨_,H6,I7,q _ H6 F6 (G6.forget i) (x6.less (sub6 σ6))⟩
     | cont =>
      obtain⟨σ6,H6,I6,rfl,F6,G6,x6⟩:=hs;exact back I6 fun s7 I7=>⟨_,H6,I7,q _ H6 F6 (G6.forget i) (x6.less (sub6 σ6))⟩
     | ret u =>
      obtain⟨v,σ6,H6,I6,rv,r,σ6',F6,rfl,G6,x6,rr⟩:=hs;exact back I6 fun s7 I7=>⟨v,_,H6,I7,rv,q v _ H6 F6 (G6.forget i) (x6.less (sub6 σ6')) (ahj rr (sub6 σ6'))⟩
   ·cases em
  ·cases em
 ·rename_i hn;refine wpAny_mono (hb.go hk zv s σ H E I ⟨tg,F,ρ,fl,ρ',G,em,q⟩) (fun f s1 z =>?_) fun er s1 z=>by rw[hno] at z;exact z.elim
  cases f with
  | next=>exact wpAny_execs_nil z
  | ret v=>exact z
  | brk=>exact z
  | cont=>exact z
end
def okS{α:Type}(m:M α):M α:=fun ρ=>match m ρ with
 | some (.ok a,ρ1)=>some (.ok a,ρ1)
 | _=>none
def dOk(g:Sd):Sd:=fun ρ=>match g ρ with
 | some (.exc _,_)=>none
 | r=>r
@[simp] theorem auc{α:Type}(m:M α)(ρ:Ro):okS m ρ=match m ρ with
 | some (.ok a,ρ1)=>some (.ok a,ρ1)
 | _=>none:=rfl
@[simp] theorem aun(g:Sd)(ρ:Ro):dOk g ρ=match g ρ with
 | some (.exc _,_)=>none
 | r=>r:=rfl
theorem ab2{α:Type}{m:M α}{ρ ρ':Ro}{o:Out α}(h:okS m ρ=some (o,ρ')):m ρ=some (o,ρ')/\∃a,o=.ok a:=by
 unfold okS at h;split at h
 ·rename_i a ρ1 e;cases h;exact⟨e,a,rfl⟩
 ·cases h
theorem ald{g:Sd}{ρ ρ':Ro}{fl:Fl}(h:dOk g ρ=some (fl,ρ')):g ρ=some (fl,ρ')/\∀x,fl≠.exc x:=by
 unfold dOk at h;split at h
 ·cases h
 ·rename_i hn;exact⟨h,fun x e=>hn x ρ' (by rw[h,e])⟩
theorem xr{α:Type}{m:M α}:NoX (okS m):=fun ρ x ρ' h=>by
 obtain⟨_,a,e⟩:=ab2 h;cases e
theorem amn{g:Sd}:NoS (dOk g):=fun ρ x ρ' h=>(ald h).2 x rfl
section
variable{K:Fg9}{X:Cx}{e a b c:Expr}{es:List Expr}{pos p:Pos}{st:Stmt}{ss:List Stmt}
theorem SV.s{g:Sd}(h:SV K X st g):SV K X st (dOk g):=SV.mk fun hk=>PS.imp (h.go hk) fun E σ H ⟨tg,F,ρ,fl,ρ',G,em,q⟩=>⟨tg,F,ρ,fl,ρ',G,(ald em).1,q⟩
theorem EV.s{m:M D}(h:EV K X e m):EV K X e (okS m):=EV.mk fun hk=>PE.imp (h.go hk) fun σ H Q ⟨tg,F,ρ,d,ρ',G,em,q⟩=>⟨tg,F,ρ,d,ρ',G,(ab2 em).1,q⟩
theorem ER.s{m:M Rv}(h:ER K X e m):ER K X e (okS m):=ER.mk fun hk=>PE.imp (h.go hk) fun σ H Q ⟨tg,F,ρ,d,ρ',G,em,q⟩=>⟨tg,F,ρ,d,ρ',G,(ab2 em).1,q⟩
theorem ET.s{m:M Bool}(h:ET K X e m):ET K X e (okS m):=ET.mk fun hk=>fun zv s σ H Q I ⟨tg,F,ρ,d,ρ',G,em,q⟩=>h.go hk zv s σ H Q I ⟨tg,F,ρ,d,ρ',G,(ab2 em).1,q⟩
theorem EG.s{js:List (Option Nat)}{m:M (List (Option D))}(h:EG K X es js m):EG K X es js (okS m):=EG.mk fun hk=>PA.imp (h.go hk) fun σ H Q ⟨tg,F,ρ,d,ρ',G,em,q⟩=>⟨tg,F,ρ,d,ρ',G,(ab2 em).1,q⟩
theorem ac9{g:Sd}:XS K X st (dOk g):=XS.no amn
theorem XE.d{m:M Rv}(h:XE K X e m):XE K X e m.d:=⟨fun hk hn zv s σ H tg F ρ x ρ' I G em=>by
 rcases qg (jg.mp em) with em | ⟨_,_,_,em⟩
 ·exact h.go hk hn zv s σ H tg F ρ x ρ' I G (jg.mpr em)
 ·cases em⟩
theorem XE.v{m:M D}(h:XE K X e m):XE K X e m.v:=⟨fun hk hn zv s σ H tg F ρ x ρ' I G em=>by
 rcases qg (jg.mp em) with em | ⟨_,_,_,em⟩
 ·exact h.go hk hn zv s σ H tg F ρ x ρ' I G (jg.mpr em)
 ·cases em⟩
theorem akt{α:Type}{l:α}:XA K X [] (ret l):=XA.no fun ρ x ρ' h=>by cases h
theorem xa_v{m:M D}{js:List (Option Nat)}{ms:M (List (Option D))}(h:EV K X e m)(hx:XE K X e m)(t:XA K X es ms)(hs:starEach (e::es) X.env=(false,eval e X.env)::starEach es X.env:=by rfl):XA K X (e::es) (gj m ms):=⟨fun pos hk hn zv s σ H tg F ρ x ρ' I G em=>by
 rw[hs];refine Calls.spliced_cons ?_;rcases qg (jg.mp em) with em | ⟨d,ρ1,e1,em⟩
 ·exact wpAny_mono (hx.go hk hn zv s σ H tg F ρ x ρ' I G (jg.mpr em)) (fun _ _ z=>z.elim) fun _ _ z=>z
 ·rcases qg em with em | ⟨_,_,_,em⟩
  ·refine wpAny_mono (h.go hk zv s σ H (fun _ H1=>∃F1,Good K tg F1 H1 ρ1 σ/\Ext (Own ρ σ) (Own ρ1 σ) F H F1 H1) I ⟨tg,F,ρ,d,ρ1,G,e1,fun v H1 F1 G1 x1 _=>⟨F1,G1,x1⟩⟩) (fun u s1 ⟨v,H1,I1,_,F1,G1,x1⟩ =>?_) fun e s1 q=>by rw[hn] at q;exact q.elim
   exact wpAny_mono (t.go pos hk hn zv s1 σ H1 tg F1 ρ1 x ρ' I1 G1 (jg.mpr em)) (fun _ _ z=>z.elim) fun _ _ z=>z.back x1
  ·cases em⟩
theorem ag3{m:M D}{ms:M (List D)}(h:EV K X e m)(hx:XE K X e m)(t:XA K X es ms)(hs:starEach (e::es) X.env=(false,eval e X.env)::starEach es X.env:=by rfl):XA K X (e::es) (ak m ms):=⟨fun pos hk hn zv s σ H tg F ρ x ρ' I G em=>by
 rw[hs];refine Calls.spliced_cons ?_;rcases qg (jg.mp em) with em | ⟨d,ρ1,e1,em⟩
 ·exact wpAny_mono (hx.go hk hn zv s σ H tg F ρ x ρ' I G (jg.mpr em)) (fun _ _ z=>z.elim) fun _ _ z=>z
 ·rcases qg em with em | ⟨_,_,_,em⟩
  ·refine wpAny_mono (h.go hk zv s σ H (fun _ H1=>∃F1,Good K tg F1 H1 ρ1 σ/\Ext (Own ρ σ) (Own ρ1 σ) F H F1 H1) I ⟨tg,F,ρ,d,ρ1,G,e1,fun v H1 F1 G1 x1 _=>⟨F1,G1,x1⟩⟩) (fun u s1 ⟨v,H1,I1,_,F1,G1,x1⟩ =>?_) fun e s1 q=>by rw[hn] at q;exact q.elim
   exact wpAny_mono (t.go pos hk hn zv s1 σ H1 tg F1 ρ1 x ρ' I1 G1 (jg.mpr em)) (fun _ _ z=>z.elim) fun _ _ z=>z.back x1
  ·cases em⟩
theorem an1{k}{ms:M (List D)}(h:XA K X es ms):XE K X (.Tuple es k pos) (mTup ms):=⟨fun hk hn zv s σ H tg F ρ x ρ' I G em=>by
 rcases qg (jg.mp em) with em | ⟨_,_,_,em⟩
 ·exact wpAny_Tuple_spliced (wpAny_mono (h.go pos hk hn zv s σ H tg F ρ x ρ' I G (jg.mpr em)) (fun _ _ z=>z.elim) fun _ _ z=>z)
 ·unfold lift at em;split at em <;> cases em⟩
end
section
variable{K:Fg9}{X:Cx}{e:Expr}{es:List Expr}{pos p:Pos}
end
def ClsT(K:Fg9)(mg:Str->Option Value)(c:Str):Prop:=∃C,mg c=some (.ref C)/\ClsOk K c C
def RaiT(K:Fg9)(mg:Str->Option Value)(c:Str):Prop:=∃C,mg c=some (.ref C)/\ClsOk K c C/\PySem.W.excIn K C bmV "ValueError.__new__" = true
def CatT(K:Fg9)(mg:Str->Option Value):Prop:=∃B,mg "ArrowError" = some (.ref B)/\CatN K B
section
variable{K:Fg9}{X:Cx}{e:Expr}{pos p np cpos hpos bp:Pos}{c:Str}
theorem dw{ns:List Str}{m:M D}{x:Str}{pc:Pos}(sub:acg K ns=true)(h1:ns.contains c=true)(hgC:Gl X c)(hC:ClsT K X.mg c)(hg:Gl X x)(hm:X.mg x=none)(hv:bootBuiltins x=some (.builtin "isinstance"))(h:EB K X e m)
  (hdC:(c==("__debug__" : Str))=false:=by decide) (hn:x ≠ "__name__" := by decide) (hdb:(x==("__debug__" : Str))=false:=by decide)
  (h1':starEach [.Name c pc] X.env=(false,eval (.Name c pc) X.env)::starEach [] X.env:=by rfl) (he:starEach [e,.Name c pc] X.env=(false,eval e X.env)::starEach [.Name c pc] X.env:=by rfl) (hpl:(backTo pos (starEach [.Name c pc] X.env)).any (·.1)=false:=by rfl) :
  EV K X (.Call (.Name x p) [e,.Name c pc] [] pos) (mIsC ns c m):=by
 obtain⟨C,hmC,k⟩:=hC;exact anc sub h1 hgC hmC k.ns hg hm hv h hdC hn hdb h1' he hpl
theorem alq{n:Str}{i:Nat}{b₀:Stmt}{body suite:List Stmt}{ns:List Str}{gb gh:Sd}(hcalm:X.calm=true)(hno:X.xe=fun _ _=>False)(hfr:X.env.frame=some X.env.locals)(hst:X.stack=X.env::X.outer)(hN:X.N.Nodup)(hi:X.N[i]? = some n)(hk0:X.env.scope.names.lookup n=some .local)
  (hgB:Gl X "ArrowError") (hB:CatT K X.mg) (sub:acg K ns=true) (hB2:ns.contains "ArrowError" = true) (hb:SVs K X body gb) (hx:XSs K X body gb) (hh:∀ev,SVs K (cxH X ev) (b₀::suite) gh) :
  SV K X (.Try body [.ExceptHandler (some (.Name "ArrowError" bp)) (some n) (b₀::suite) hpos] [] [] pos) (dTry ns gb i gh):=by
 obtain⟨B,hm,cat⟩:=hB;exact an9 hcalm hno hfr hst hN hi hk0 hgB hm cat sub hB2 hb hx hh
end
def anb(K:Fg9)(C:Addr):Bool:=(findIn K (.ref C) "__getattribute__" == some (some (.builtin "BaseException.__getattribute__")))&&(findIn K (.ref C) "__getattr__" == some none)&&(PySem.W.mroIn K C (.type "BaseException")==some true)&&PySem.W.hasDictIn K C&&(findIn K (.ref C) "__class__" == some (some (.builtin "object.__class__")))&&(PySem.W.specialIn K (.builtin "object.__class__") "__get__" == some (some (.builtin "getset_descriptor.__get__"))) &&
 (PySem.W.takesIn K (.builtin "object.__class__")==some true)&&(PySem.W.mroIn K C (.type "object")==some true)&&["int","bool","tuple","list","str","dict"].all fun T=>PySem.W.subIn K (.ref C) (.type T)==some false
theorem akj{K:Fg9}{C:Addr}(h:anb K C=true):ExcK K C:=by
 unfold anb at h;simp only[Bool.and_eq_true,beq_iff_eq] at h;obtain⟨⟨⟨⟨⟨⟨⟨⟨h0,h1⟩,h8⟩,h2⟩,h3⟩,h4⟩,h5⟩,h6⟩,h7⟩:=h;exact⟨h0,h1,h8,h2,h3,h4,h5,h6,fun T hT=>beq_iff_eq.mp (List.all_eq_true.mp h7 T hT)⟩
def af6(K:Fg9)(ns:List Str):Bool:=ns.all fun c=>match clsAt K c with
 | some C=>anb K C
 | none=>false
def akz(K:Fg9)(ns:List Str):Bool:=ns.all fun c=>match clsAt K c with
 | some C=>PySem.W.excIn K C bmV "ValueError.__new__"
 | none=>false
def catB(K:Fg9):Bool:=match clsAt K "ArrowError" with
 | some B=>PySem.W.hasDictIn K B&&(PySem.W.typeIn K (.ref B)==some (.type "type"))&&(PySem.W.subIn K (.ref B) (.type "BaseException")==some true)&&(PySem.W.subIn K (.ref B) (.ref B)==some true)
 | none=>false
theorem aaq{K:Fg9}{c:Str}{C:Addr}(h:clsAt K c=some C):nsIn K mainGlobals c=some (some (.ref C)):=by
 unfold clsAt at h;split at h
 ·rename_i C' e;cases h;exact e
 ·cases h
section
variable{K:Fg9}{h:Heap}{mg:Str->Option Value}{ns:List Str}{c:Str}
theorem jq(X:K.In h)(G:h.Ns mainGlobals mg)(e:af6 K ns=true)(hc:ns.contains c=true):ClsT K mg c:=by
 have z:=List.all_eq_true.mp e c (List.contains_iff_mem.mp hc);split at z
 ·rename_i C q;exact⟨C,mg_of X G (aaq q),aaq q,akj z⟩
 ·cases z
theorem uv{rs:List Str}(X:K.In h)(G:h.Ns mainGlobals mg)(e:af6 K ns=true)(hc:ns.contains c=true)(e2:akz K rs=true)(hr:rs.contains c=true):RaiT K mg c:=by
 obtain⟨C,h1,h2⟩:=jq X G e hc;have z:=List.all_eq_true.mp e2 c (List.contains_iff_mem.mp hr);rw[zb h2.ns] at z;exact⟨C,h1,h2,z⟩
theorem ano(X:K.In h)(G:h.Ns mainGlobals mg)(e:catB K=true):CatT K mg:=by
 unfold catB at e;split at e
 ·rename_i B q;simp only[Bool.and_eq_true,beq_iff_eq] at e;obtain⟨⟨⟨h1,h2⟩,h3⟩,h4⟩:=e;obtain⟨cd,hc,_⟩:=PySem.W.any_some h1;exact⟨B,mg_of X G (aaq q),⟨by rw[hc];rfl,h2,h3⟩,aaq q,h4⟩
 ·cases e
end
end Dn
namespace Mn
open L2
section
variable{prog:Program}{w:World}{A:Around}{E:Value->Shared->Prop}{h:Heap}{g:Array GenState}{d:Drawn}{t:Nat}{os:OsState}
variable{nm q:Str}{C N:Addr}{bs bm bmB:List Value}{hdct:Bool}{sn:List Str}{sub:List Value}{ab:Bool}{col:Option Bool}{dd:Option Addr}{k0 k1 k2 k3 k5:Option Value}{B Bn newId nid initId inN:String}{bmN:List Value}
theorem aat(Fn:ExcBaseFacts Bn newId inN bmN)(hBn:bmB.contains (.type Bn)=true)(F:ExcBaseFacts B nid initId bmB)(T:OwnTail h bmB bm){mN:Str->Option Value}{rest:List Value}{fI:Addr}{oI:Obj}{Q:Fin->Shared->Prop}
  (hC:h.get? C=some (excClassObj nm q C N bs bm hdct sn sub ab col dd k0 k1 k2 k3 k5 newId)) (hn:h.Ns N mN) (hi:mN "__init__" = some (.ref fI)) (hfI:h.get? fI=some oI) (hfc:oI.cls=.type "function")
  (hq:∀h' e,Heap.MadeExcOf h h' e (.ref C) rest->wpAny (model prog w) A (call (.ref fI) (.ref e::rest)) (fun r s'=>r=.none/\Q (.done (.ret (.ref e))) s') E ⟨h',g,d,t,os⟩) (hrest:rest.length<=sizeLine:=by size_fits) :
  wpAny (model prog w) A (Builtin.«type.__call__» ⟨.ref C::rest,[]⟩) Q E ⟨h,g,d,t,os⟩:=by
 repeat (first | with_reducible refine wpAny_loadPart_at hC ?_ | with_reducible refine wpAny_madeBy_exc hC ?_ | wp_step)
 refine codeAny_call_builtin_code (Code.quiet_builtin _ Fn.quiet) (wpAny_check_new_subU Fn hBn T hC ?_);refine codeAny_exc_new_subU Fn hBn F T hC ?_ hrest;show wpAny _ _ _ _ _ _
 let o1:Obj:={ cls:=.type "tuple", data:=.seq rest.toArray }
 let o2:Obj:={ cls:=.ref C,data:=.fields #[.ref h.objs.size,.none,.none,.none,.bool false,.none] }
 have keep:∀b o,h.get? b=some o->((h.push o1).push o2).get? b=some o:=fun b o e=>Heap.get?_push_of_some _ (Heap.get?_push_of_some _ e)
 have hC1:=keep _ _ hC;have hf1:=keep _ _ hfI;have hn1:((h.push o1).push o2).Ns N mN:=let ⟨o,es,ep,e,r⟩:=hn;⟨o,es,ep,keep _ _ e,r⟩
 have hget:((h.push o1).push o2).get? (h.objs.size+1)=some o2:=by heap_get
 have hcC:(Value.ref C::bm).contains (.ref C)=true:=by simp
 have T1:=T.keeps (h':=(h.push o1).push o2) keep;unfold isInstance
 repeat (first | with_reducible refine wpAny_loadPart_at hget ?_ | (with_reducible refine wpAny_isSubtype_exc hC1 ?_;rw[hcC]) | wp_step)
 show wpAny _ _ (typeLookup (.ref C) _) _ _ _;refine wpAny_typeLookup_tail hC1 hn1 T1 F.mroIs F.init.lookup ?_;rw[hi];refine wpAny_holding (wpAny_bind ?_);unfold bindSpecial;refine wpAny_bind (wpAny_typeOf (T := "function") ⟨_,hf1,hfc⟩ ?_);rw[if_pos (by decide)]
 refine wpAny_pure (wpAny_bind (wpAny_mono (hq _ (h.objs.size+1) ⟨keep,Heap.get?_none_of_le (Nat.le_succ _),h.objs.size,hget,Heap.get?_none_of_le (Nat.le_refl _),?_⟩) (fun r s' hr =>?_) fun _ _ x=>x))
 ·exact Heap.get?_push_of_some _ (Heap.get?_push_at rfl rfl)
 ·obtain⟨rfl,hQ⟩:=hr;wp_walk;exact hQ
theorem agw(Fn:ExcBaseFacts Bn newId inN bmN)(hBn:bmB.contains (.type Bn)=true)(F:ExcBaseFacts B nid initId bmB)(T:OwnTail h bmB bm){mN:Str->Option Value}{rest:List Value}{fI:Addr}{oI:Obj}{Q:Value->Shared->Prop}
  (hC:h.get? C=some (excClassObj nm q C N bs bm hdct sn sub ab col dd k0 k1 k2 k3 k5 newId)) (hn:h.Ns N mN) (hi:mN "__init__" = some (.ref fI)) (hfI:h.get? fI=some oI) (hfc:oI.cls=.type "function")
  (hq:∀h' e,Heap.MadeExcOf h h' e (.ref C) rest->wpAny (model prog w) (A.under (.builtin "type.__call__" ⟨.ref C::rest,[]⟩)) (call (.ref fI) (.ref e::rest)) (fun r s'=>r=.none/\Q (.ref e) s') E ⟨h',g,d,t,os⟩) (hrest:rest.length<=sizeLine:=by size_fits) :
  wpAny (model prog w) A (call (.ref C) rest) Q E ⟨h,g,d,t,os⟩:=by
 have f1:=tc_lookup;have f2:=tc_bind (.ref C);have hT:(⟨h,g,d,t,os⟩:Shared).TypeIs (.ref C) "type" := ⟨_,hC,rfl⟩;refine wpAny_call (codeAny_of_tree ?_);show wpAny _ _ (callAny (.ref C) _) _ _ _
 repeat (any_goals (first | assumption | with_reducible refine wpAny_loadPart_at hC ?_ | wp_step))
 refine⟨rfl,?_⟩;exact codeAny_call_builtin_at (Code.quiet_builtin _ (by decide +kernel)) entry_typeCall (wpAny_check_type_call_sub hC (aat (hrest:=hrest) Fn hBn F T hC hn hi hfI hfc fun h' e hm=>hq h' e hm))
end
end Mn
namespace Dn
open L2 Mn
def refB:Value->Bool
 | .ref _=>true
 | _=>false
def abh(K:Fg9)(C:Addr):Bool:=(PySem.W.clsIn K C).any fun cd=>cd.mro.dropWhile refB==bmV
theorem aby(self:Value):∀{l:List Value},l.dropWhile refB=bmV->refuseLoop self "__setattr__" l=pure ()
 | .ref c::r,e=>by rw[refuseLoop_ref];exact aby self (by simpa[List.dropWhile,refB] using e)
 | [],e=>by cases e
 | .type n::r,e=>by
  have:(Value.type n::r)=bmV:=by simpa[List.dropWhile,refB] using e
  rw[this];exact PySem.F.store_ValueError.passes self
 | .none::r,e=>nomatch (show(Value.none::r:List Value)=bmV from e)
 | .ellipsis::r,e=>nomatch (show(Value.ellipsis::r:List Value)=bmV from e)
 | .notImplemented::r,e=>nomatch (show(Value.notImplemented::r:List Value)=bmV from e)
 | .bool b::r,e=>nomatch (show(Value.bool b::r:List Value)=bmV from e)
 | .int i t::r,e=>nomatch (show(Value.int i t::r:List Value)=bmV from e)
 | .float b t::r,e=>nomatch (show(Value.float b t::r:List Value)=bmV from e)
 | .str x t::r,e=>nomatch (show(Value.str x t::r:List Value)=bmV from e)
 | .bytes b t::r,e=>nomatch (show(Value.bytes b t::r:List Value)=bmV from e)
 | .builtin i::r,e=>nomatch (show(Value.builtin i::r:List Value)=bmV from e)
section
variable{prog:Program}{w:World}{A:Around}{E:Value->Shared->Prop}{s:Shared}{K:Fg9}{x C:Addr}{ox:Obj}{od:Option Obj}{name:Str}{v:Value}
theorem amc{tk:Tok}{R:Result->Shared->Prop}(X:K.In s.heap)(I:PySem.W.InstAt s.heap x ox C od)(hp:abh K C=true)(hob:PySem.W.mroIn K C (.type "object")=some true)(ht:PySem.W.takerIn K C name=some none)
  (h:∀b,wpAny (model prog w) A.in1 (Builtin.ObjectAttr.storeInOwnDict (.ref x) (.ref C) (.str name tk) name v b)
   (fun fin s'=>match fin with | .done f=>R (.ok f) s' | .again c'=>c'.quiet=true/\codeAny (model prog w) A c' R s') (fun e s'=>R (.error e) s') s) :
  codeAny (model prog w) A (.call (.builtin "object.__setattr__") ⟨[.ref x,.str name tk,v],[]⟩) R s:=by
 have SF:=PySem.F.store_object;obtain⟨cd,hc,ho⟩:=PySem.W.any_some hp;have ho:=beq_iff_eq.mp ho;have sub:PySem.W.Looks (model prog w) s.heap (isInstance (.ref x) (.type "object")) true:=I.type.andThen (PySem.W.looks_mroIn X hob);refine codeAny_call_builtin SF.slot.plain SF.entry (@PySem.W.check_slot (model prog w) _ _ s "object.__setattr__" "object" "__setattr__" (.ref x) [.str name tk,v] [] _ SF.kind SF.split sub (SF.args (.ref x) (.str name tk) v) ?_);obtain⟨attr,ha,hr⟩:=Option.bind_eq_some_iff.mp ht;have hm:PySem.W.Looks (model prog w) s.heap (mroOf (.ref C)) cd.mro:=(PySem.W.looks_clsIn X hc).andThen .now;have L3:PySem.W.Looks (model prog w) s.heap (Builtin.ObjectAttr.storeTaker? attr) none:=by
  cases attr with
  | none=>exact .now
  | some a =>
   obtain⟨b,hb,hz⟩:=Option.map_eq_some_iff.mp hr;refine(PySem.W.looks_takesIn X hb).andThen ?_;cases b with
   | true=>cases hz
   | false=>exact .now
 rw[PySem.W.osa_eq,refuse_eq];refine wpAny_bind (wpAny_bind (I.type.here (wpAny_bind (hm.here ?_))));rw[aby _ ho];refine wpAny_pure (wpAny_bind (I.type.here (wpAny_bind ((PySem.W.looks_findIn X ha).here (wpAny_bind (L3.here ?_))))));exact h _
theorem aei{vs:Array Value}{Q:Unit->Shared->Prop}(X:K.In s.heap)(I:PySem.W.InstAt s.heap x ox C none)(hx:s.heap.get? x=some ox)(hc:ox.cls=.ref C)(hdn:ox.dict=none)(hdt:ox.data=.fields vs)
  (hs:findIn K (.ref C) "__setattr__" = some (some (.builtin "object.__setattr__"))) (hp:abh K C=true) (hob:PySem.W.mroIn K C (.type "object")=some true) (ht:PySem.W.takerIn K C name=some none) (hh:PySem.W.hasDictIn K C=true)
  (h:∀h' tk',h'.get? x=some { ox with dict:=some s.heap.objs.size }->h'.Ns1 s.heap.objs.size (fun y=>if y=name then some v else none)->(∀b o,b≠x->s.heap.get? b=some o->h'.get? b=some o)->Q () { s with heap:=h',toks:=tk' }) :
  wpAny (model prog w) A (setAttr (.ref x) name v) Q E s:=by
 obtain⟨oc,odict,odata,osl⟩:=ox;simp only at hc hdn hdt;subst hc hdn hdt;refine PySem.W.set_plain X I hs (amc (s:={ s with toks:=s.toks+1 }) X I hp hob ht fun b =>?_)
 obtain⟨cd,hcd,hd'⟩:=PySem.W.any_some hh;have hxs:x≠s.heap.objs.size:=Nat.ne_of_lt (Heap.lt_size hx);refine wpAny_bind (wpAny_pure (wpAny_bind (wpAny_bind (wpAny_loadPart hx (wpAny_bind (PySem.W.Looks.here (s:={ s with toks:=s.toks+1 }) (PySem.W.looks_clsIn X hcd) ?_))))))
 rw[hd']
 let o0:Obj:={ cls:=.type "dict", data:=.dict #[] }
 have hx1:(s.heap.push o0).get? x=some ⟨.ref C,none,.fields vs,osl⟩:=Heap.get?_push_of_some _ hx;have hgd:((s.heap.push o0).update x fun o=>{ cls:=o.cls,dict:=some s.heap.objs.size,data:=o.data,slots:=o.slots }).get? s.heap.objs.size=some o0:=(Heap.get?_update_ne _ _ _ _ hxs.symm).trans (Heap.get?_push_at rfl rfl)
 have hnd:((s.heap.push o0).update x fun o=>{ cls:=o.cls,dict:=some s.heap.objs.size,data:=o.data,slots:=o.slots }).Ns s.heap.objs.size (fun _=>none):=⟨_,#[],_,hgd,rfl,fun e he=>absurd he (by simp),fun _=>rfl⟩
 refine wpAny_bind (wpAny_alloc' (wpAny_bind (wpAny_update' hx1 (wpAny_pure ?_))));show wpAny _ _ (Builtin.ObjectAttr.storeInDict s.heap.objs.size (.str name _) name v) _ _ _;unfold Builtin.ObjectAttr.storeInDict Builtin.ObjectAttr.newKeyGuard;refine wpAny_bind (wpAny_pure (wpAny_bind (wpAny_nsSet1 (Heap.Ns1.of_empty hnd) fun h' hn' hs' =>?_)))
 obtain⟨oD,esD,epD,hoD,hdD,hcD⟩:=hn'.count (Within.cons name v Within.nil);refine wpAny_bind (wpAny_lookBehind hoD (by rw[hdD];exact pastItsLine_dict (Nat.le_trans hcD (by rw[List.length_cons,List.length_nil,sizeLine_eq];omega))) (wpAny_pure ?_))
 refine h h' _ ((hs'.2 x hxs).trans (Heap.get?_update_self _ hx1 rfl)) hn' fun b o hb e=>(hs'.2 b (Nat.ne_of_lt (Heap.lt_size e))).trans ((Heap.get?_update_ne _ _ _ _ hb).trans (Heap.get?_push_of_some _ e))
end
def exV(a C:Addr)(dx:Option Addr)(vs:Array Value):Heap->Prop:=fun h=>∃oe,h.get? a=some oe/\oe.cls=.ref C/\oe.dict=dx/\oe.data=.fields vs
section
variable{vs:Array Value}{X:Cx}{zv:List (Addr×Obj)}{σ:L2.St}{H:Hp}{s:Shared}{A:Around}{E:Value->Shared->Prop}{a C:Addr}{f:Str}
theorem ahe{y:V}{u:Value}{Q:Unit->Shared->Prop}(I:Inv X zv σ H s)(e:H a=some (.ext (exV a C none vs)))(k:ExcK X.K C)(hs:findIn X.K (.ref C) "__setattr__" = some (some (.builtin "object.__setattr__")))(hp:abh X.K C=true)(ht:PySem.W.takerIn X.K C f=some none)(ry:RelV y u)
  (h:∀d s',H d=none->Inv X zv σ (upd (upd H a (.ext (exV a C (some d) vs))) d (.xd [(f,y)])) s'->Q () s'):wpAny (model X.prog X.w) A (setAttr (.ref a) f u) Q E s:=by
 obtain⟨⟨oe,he,hc,hdn,hdt⟩,_,_⟩:=I.hok _ _ e;refine aei I.kIn ⟨he,hc,by unfold PySem.W.notCls;rw[hdt],by rw[hdn];trivial⟩ he hc hdn hdt hs hp k.ob ht k.hd fun h' tk' e1 e2 e3 =>?_
 have hd:H s.heap.objs.size=none:=I.hok.fresh (Nat.le_refl _);have hda:s.heap.objs.size≠a:=Nat.ne_of_gt (Heap.lt_size he);have I2:=I.write (x:=a) (e:=a) (o:=.ext (exV a C (some s.heap.objs.size) vs)) (t':=tk') (h':=h') (by rw[e];trivial) (.inl rfl) (fun b u hb q=>e3 b u hb q) ⟨_,e1⟩ ⟨⟨_,e1,hc,rfl,hdt⟩,⟨_,e1⟩,fun h1 h2 p q=>by obtain⟨oe,z1,z2⟩:=p;exact⟨oe,q _ z1,z2⟩⟩
 have fp:FpX X zv (upd H a (.ext (exV a C (some s.heap.objs.size) vs))) s.heap.objs.size:=Inv.fpX I (Heap.get?_none_of_le (Nat.le_refl _)) (by rw[bj hda];exact hd)
 refine h s.heap.objs.size _ hd (Inv.track I2 fp ⟨_,e2,fun g =>?_⟩)
 by_cases q:g=f
 ·subst q;have e1:[(g,y)].lookup g=some y:=by simp[List.lookup]
  rw[e1];show RelO (some y) (if g=g then some u else none)
  rw[if_pos rfl];exact ry
 ·have:(g==f)=false:=beq_eq_false_iff_ne.mpr q;simp[List.lookup,this,q,RelO]
structure FldK (K:Fg9) (C:Addr) (f:Str):Prop where
 k:ExcK K C
 sa:findIn K (.ref C) "__setattr__" = some (some (.builtin "object.__setattr__"))
 ov:abh K C=true
 tk:PySem.W.takerIn K C f=some none
def aof(C:Addr)(vs:Array Value)(ta tv:TE)(f:Str):TS:=fun D σ H=>tv σ H fun y H1=>ta σ H1 fun x H2=>∃a,x=.ref a/\H2 a=some (.ext (exV a C none vs))/\∀d,H2 d=none->D.nx σ (upd (upd H2 a (.ext (exV a C (some d) vs))) d (.xd [(f,y)]))
theorem aly{o value:Expr}{ta tv:TE}{pos pos':Pos}(k:FldK X.K C f)(ha:PE X o ta)(hv:PE X value tv)(hs:swapsWith value (some (.Attribute o f pos')) pos.line X.env=pure false):PS X (.Assign [.Attribute o f pos'] value pos) (aof C vs ta tv f):=by
 intro zv s σ H D I h;refine plainObj_wpAny_Assign_Attribute (thn (hv zv s σ H _ I h) fun u s1 ⟨y,H1,I1,ry,q⟩=>thn (ha zv s1 σ H1 _ I1 q) fun ov s2 ⟨x,H2,I2,rx,a,ex,ea,q2⟩ =>?_) hs
 subst ex;obtain rfl:ov=Value.ref a:=rx;exact ahe I2 ea k.k k.sa k.ov k.tk ry fun d s3 hd I3=>⟨σ,_,I3,q2 d hd⟩
def spI(C:Addr)(vs:Array Value)(f:Str):Sp:=fun us H Q _=>∃a i,us=[.ref a,.int i]/\H a=some (.ext (exV a C none vs))/\∀d,H d=none->Q .non (upd (upd H a (.ext (exV a C (some d) vs))) d (.xd [(f,.int i)]))
theorem am9{K:Fg9}{P:Program}{w:World}{mg:Str->Option Value}{base:Heap}{x qual:Str}{st:Stmt}{fa:Addr}{fd:FuncData}{k:Nat}{p1 p2 p3 p4:Pos}(F:Fun K x qual st fa fd)(S:FnScope ["self", f] ["self", f] (ao st))(hf:FldK K C f)
  (hb:dm st=[.Assign [.Attribute (.Name "self" p1) f p2] (.Name f p3) p4]) (h1:(f==("__debug__" : Str))=false) (h2:(f==("__classdict__" : Str))=false)
  (hs:∀env,swapsWith (.Name f p3) (some (.Attribute (.Name "self" p1) f p2)) p4.line env=pure false) (hv1:Vis (ao st) "self") (hv2:Vis (ao st) f) :
  FnOk P w K mg base CX0 (k+1) fa fd ["self", f] (spI C vs f):=by
 refine F.ok S (fun us H Q E h =>?_) fun cdv A outer s H us Q E hr h=>⟨aof C vs (tVar 0) (tVar 1) f,?_,?_⟩
 ·obtain⟨a,i,rfl,_⟩:=h;rfl
 ·rw[hb];exact ahn (aly hf (pv 0 rfl hv1) (pv 1 rfl hv2 h1 h2) (hs _))
 ·obtain⟨a,i,rfl,e,q⟩:=h;exact⟨_,rfl,_,rfl,a,rfl,e,fun d hd=>q d hd⟩
end
end Dn
namespace Mn
open L2
section
variable{M:Model}{A:Around}{E:Value->Shared->Prop}{env:Env}
variable{nm q:Str}{C N:Addr}{bs bm:List Value}{hdct:Bool}{sn:List Str}{sub:List Value}{ab:Bool}{col:Option Bool}{dd:Option Addr}{k0 k1 k2 k3 k5:Option Value}{newId:String}
theorem abz{s:Shared}{x:Sem Value}{Q:Flow->Shared->Prop}(hbase:bm.contains (.type "BaseException")=true)(hh:A.handled=none)
  (h:wpAny M A x (fun v s₁=>∃e oe vs,v=.ref e/\s₁.heap.get? C=some (excClassObj nm q C N bs bm hdct sn sub ab col dd k0 k1 k2 k3 k5 newId)/\s₁.heap.get? e=some oe/\oe.cls=.ref C/\oe.data=.fields vs/\vs[1]? = some .none/\E (.ref e) s₁) E s) :
  wpAny M A (raiseStmt env (some x) none) Q E s:=by
 have hcB:(Value.ref C::bm).contains (.type "BaseException")=true:=by rw[List.contains_cons,hbase,Bool.or_true]
 unfold raiseStmt;refine wpAny_bind (wpAny_mono h (fun v s₁ h₁ =>?_) fun _ _ x=>x)
 obtain⟨e,⟨oc,od,odt,osl⟩,vs,rfl,hC,he,hc,hd,h1,hE⟩:=h₁;simp only at hc hd;subst hc hd;obtain⟨hp,g,d,tk,os⟩:=s₁
 repeat (first | with_reducible refine wpAny_loadPart_at he ?_ | with_reducible refine wpAny_loadPart_at hC ?_ | (with_reducible refine wpAny_isSubtype_exc hC ?_;rw[hcB]) | wp_step)
 rw[h1];exact wpAny_pure (wpAny_pure (wpAny_raiseNew_none hh hE))
end
section
variable{prog:Program}{w:World}{A:Around}{E:Value->Shared->Prop}{s:Shared}{env:Env}
variable{nm q:Str}{C N:Addr}{bs bm bmB:List Value}{hdct:Bool}{sn:List Str}{sub:List Value}{ab:Bool}{col:Option Bool}{dd:Option Addr}{k0 k1 k2 k3 k5:Option Value}{B Bn newId nid initId inN:String}{bmN:List Value}
theorem ael(Fn:ExcBaseFacts Bn newId inN bmN)(hBn:bmB.contains (.type Bn)=true)(F:ExcBaseFacts B nid initId bmB){x:Str}{np cpos pos:Pos}{args:List Expr}{Q:Flow->Shared->Prop}{fI:Addr}
  (hbase:bm.contains (.type "BaseException")=true) (hh:A.handled=none) (hplain:(backTo cpos (starEach args env)).any (·.1)=false)
  (h:wpAny (model prog w) A (eval (.Name x np) env) (fun f s₁=>f=.ref C/\wpAny (model prog w) A (evalArgs (.ref C) true (backTo cpos (starEach args env)) [])
   (fun a s₂=>a.kw=[]/\a.pos.length<=sizeLine/\s₂.heap.get? C=some (excClassObj nm q C N bs bm hdct sn sub ab col dd k0 k1 k2 k3 k5 newId)/\(∃mN,s₂.heap.Ns N mN/\mN "__init__" = some (.ref fI))/\OwnTail s₂.heap bmB bm/\(∃oI,s₂.heap.get? fI=some oI/\oI.cls=.type "function") /\
    ∀h' e,Heap.MadeExcOf s₂.heap h' e (.ref C) a.pos->wpAny (model prog w) (A.under (.builtin "type.__call__" ⟨.ref C::a.pos,[]⟩)) (call (.ref fI) (.ref e::a.pos))
     (fun r s'=>r=.none/\s'.heap.get? C=some (excClassObj nm q C N bs bm hdct sn sub ab col dd k0 k1 k2 k3 k5 newId)/\∃oe vs,s'.heap.get? e=some oe/\oe.cls=.ref C/\oe.data=.fields vs/\vs[1]? = some .none/\E (.ref e) s') E { s₂ with heap:=h' }) E s₁) E s) :
  wpAny (model prog w) A (exec (.Raise (some (.Call (.Name x np) args [] cpos)) none pos) env) Q E s:=by
 rw[arm_exec_Raise]
 first
  | refine wpAny_bind (wpAny_standAt (abz (C:=C) (nm:=nm) (q:=q) (N:=N) (bs:=bs) (bm:=bm) (hdct:=hdct) (sn:=sn) (sub:=sub) (ab:=ab) (col:=col) (dd:=dd) (k0:=k0) (k1:=k1) (k2:=k2) (k3:=k3) (k5:=k5) (newId:=newId) hbase hh (wpAny_bind (wpAny_mono (wpAny_Call_ofName (wpAny_mono h (fun f s₁ h₁ =>?_) fun _ _ x=>x)) (fun v s₃ h₃=>wpAny_bind (wpAny_standAt (wpAny_pure h₃))) fun _ _ x=>x))))
  | (simp only[evalOpt,Option.map];refine wpAny_bind (wpAny_standAt (abz (C:=C) (nm:=nm) (q:=q) (N:=N) (bs:=bs) (bm:=bm) (hdct:=hdct) (sn:=sn) (sub:=sub) (ab:=ab) (col:=col) (dd:=dd) (k0:=k0) (k1:=k1) (k2:=k2) (k3:=k3) (k5:=k5) (newId:=newId) hbase hh (wpAny_bind (wpAny_mono (wpAny_Call_ofName (wpAny_mono h (fun f s₁ h₁ =>?_) fun _ _ x=>x)) (fun v s₃ h₃=>wpAny_bind (wpAny_standAt (wpAny_pure h₃))) fun _ _ x=>x)))))
 obtain⟨rfl,h₁⟩:=h₁;unfold callWith;refine wpAny_bind (wpAny_holding (wpAny_mono h₁ (fun a s₂ h₂=>wpAny_bind (wpAny_standAt ?_)) fun _ _ x=>x))
 obtain⟨apos,akw⟩:=a;obtain⟨hkw,hlen,hC,⟨mN,hn,hi⟩,T,⟨oI,hfI,hfc⟩,h₂⟩:=h₂;obtain rfl:akw=[]:=hkw;obtain⟨hp,g,d,tk,os⟩:=s₂;simp only[hplain];refine wpAny_bind (wpAny_keeperOf_exc hC ?_);refine wpAny_bind (agw (hrest:=hlen) Fn hBn F T hC hn hi hfI hfc fun h' e hm=>wpAny_mono (h₂ h' e hm) (fun r s' ⟨hr,hC',oe,vs,he,hc,hd,h1,hE⟩=>⟨hr,wpAny_bind (wpAny_holding (wpAny_point (wpAny_pure ?_)))⟩) fun _ _ z=>z)
 exact⟨e,oe,vs,rfl,hC',he,hc,hd,h1,hE⟩
end
end Mn
namespace Dn
open L2 Mn
theorem aak{H:Hp}{a b:Addr}{o:HO}(h:upd H a o b=none):H b=none:=by
 by_cases z:b=a
 ·rw[z,cj] at h;cases h
 ·rw[bj z] at h;exact h
theorem ym{H:Hp}{a b:Addr}{φ:Heap->Prop}{u:HO}(h:upd H a (.ext φ) b=some u)(hu:∀ψ,u≠.ext ψ):H b=some u:=by
 by_cases z:b=a
 ·rw[z,cj] at h;cases h;exact absurd rfl (hu φ)
 ·rw[bj z] at h;exact h
theorem Inv.untrack{X:Cx}{zv:List (Addr×Obj)}{σ:L2.St}{H:Hp}{s:Shared}{a:Addr}{φ:Heap->Prop}(I:L2.Inv X zv σ (upd H a (.ext φ)) s)(hn:H a=none):L2.Inv X zv σ H s :=
 ⟨I.ok,I.os,I.bare,⟨I.base.keep,I.base.slot,fun b o e n hx=>aak (I.base.free b o e n hx),I.base.there,fun b xs q=>ym (I.base.tups b xs q) (fun _ z=>by cases z),fun b ob u q=>ym (I.base.frzs b ob u q) (fun _ z=>by cases z),fun b ps q=>let ⟨more,h⟩:=I.base.tbls b ps q;⟨more,ym h (fun _ z=>by cases z)⟩⟩,
  I.loc,I.cell,aak I.free,fun x c e=>aak (I.freeC x c e),fun p hp=>let ⟨h1,h2,h3⟩:=I.pin p hp;⟨h1,aak h2,h3⟩,fun b u e=>by
   have hb:b≠a:=fun z=>by rw[z,hn] at e;cases e
   exact(I.hok b u (by rw[bj hb];exact e)).stay (fun c v _ q=>q) (fun c q=>ym q (fun _ z=>by cases z)) fun c xs q=>ym q (fun _ z=>by cases z),I.len⟩
def ad1(K:Fg9)(C fI:Addr):Bool:=match K.lookup C with
 | some ⟨.type "type", _,.cls cd,sl⟩=>(match cd.mro,sl.toList with
  | .ref C'::bm,[_,_,_,_,some (.builtin n),_]=>C'==C&&n == "ValueError.__new__" && !cd.hasDel&&PySem.W.tailIn K bmV bm&&PySem.W.nsOkIn K cd.ns&&nsIn K cd.ns "__init__" == some (some (.ref fI))&&PySem.W.typeIn K (.ref fI)==some (.type "function")
  | _,_=>false)
 | _=>false
theorem aml{K:Fg9}{h:Heap}{N:Addr}{mg:Str->Option Value}{n:Str}{v:Value}(X:K.In h)(G:h.Ns N mg)(e:nsIn K N n=some (some v)):mg n=some v:=by
 obtain⟨o,es,ep,ho,hd,_,hf⟩:=G;unfold nsIn at e;split at e
 ·rename_i c d es' n' sl q;have:=X _ _ q;rw[ho] at this;cases this;cases hd;split at e
  ·rename_i en he;cases e;rw[<-hf];unfold nsFind findBy;rw[<-Array.find?_toList,he];rfl
  ·split at e <;> cases e
 ·cases e
theorem akh{K:Fg9}{C fI:Addr}(q:ad1 K C fI=true) :
  ∃bm N nm qn bs hdct sn sub ab col dd k0 k1 k2 k3 k5,∀h:Heap,K.In h->h.get? C=some (excClassObj nm qn C N bs bm hdct sn sub ab col dd k0 k1 k2 k3 k5 "ValueError.__new__")/\(∃mN,h.Ns N mN/\mN "__init__" = some (.ref fI))/\OwnTail h bmV bm/\∃oI,h.get? fI=some oI/\oI.cls=.type "function" := by
 unfold ad1 at q;split at q
 ·rename_i dd cd sl ho;split at q
  ·rename_i C' bm k0 k1 k2 k3 n k5 hm hs;simp only[Bool.and_eq_true,beq_iff_eq,Bool.not_eq_true'] at q;obtain⟨⟨⟨⟨⟨⟨e1,e2⟩,e3⟩,e4⟩,e5⟩,e6⟩,e7⟩:=q;subst e1 e2;obtain⟨nm,bs,mro,ns,qn,hd,sn,sub,ab,col,del⟩:=cd;have hm:mro=_:=hm;have e3:del=false:=e3;subst hm e3;have z:sl = #[k0,k1,k2,k3,some (.builtin "ValueError.__new__"),k5]:=Array.toList_inj.mp hs;subst z;refine⟨bm,ns,nm,qn,bs,hd,sn,sub,ab,col,dd,k0,k1,k2,k3,k5,fun h X=>⟨X _ _ ho,⟨h.nsMap ns,.of_isNs (PySem.W.isNs_of_in X e5),?_⟩,PySem.W.tail_of_in X e4,?_⟩⟩
   ·exact aml X (.of_isNs (PySem.W.isNs_of_in X e5)) e6
   ·obtain⟨o,ho2,hc2⟩:=Option.map_eq_some_iff.mp e7;exact⟨o,X _ _ ho2,hc2⟩
  ·cases q
 ·cases q
def qj(c f:Str)(m:M D):Sd:=dM m fun d ρ=>match d with
 | .int i=>some (.exc ⟨c,[(f,i)]⟩,ρ)
 | _=>none
section
variable{K:Fg9}{X:Cx}{c f:Str}{C fI:Addr}{fd:FuncData}{kk:Nat}{e1:Expr}{m:M D}{np cpos pos:Pos}
theorem ag2(hcalm:X.calm=true)(hg:Gl X c)(hm:X.mg c=some (.ref C))(k:ClsOk X.K c C)(qq:ad1 X.K C fI=true)(Fi:∀vs,FnOk X.prog X.w X.K X.mg X.base CX0 kk fI fd ["self", f] (spI C vs f))(hb:∀s us,us.length=2->BindsTo s fd ⟨us,[]⟩ ((["self", f]:List Str).zip us))
  (hr:Room (kk+1) X.A) (h:EV K X e1 m) (hn:NoX m) (hs:starEach [e1] X.env=(false,eval e1 X.env)::starEach [] X.env:=by rfl) (hd:(c==("__debug__" : Str))=false:=by decide) :
  XS K X (.Raise (some (.Call (.Name c np) [e1] [] cpos)) none pos) (qj c f m):=⟨fun hk hnx zv s σ H tg F ρ x ρ' I G em=>by
 have em:=j6.mp em;unfold qj dM at em;split at em
 ·rename_i d ρ1 em1;dsimp only at em;split at em
  ·rename_i i;cases em;have h:=h hk;subst hk;obtain⟨bm,N,nm,qn,bs,hdct,sn,sub,ab,col,dd,k0,k1,k2,k3,k5,hobj⟩:=akh qq;have T0:=(hobj _ I.kIn).2.2.1;refine ael (C:=C) (nm:=nm) (q:=qn) (N:=N) (bs:=bs) (bm:=bm) (hdct:=hdct) (sn:=sn) (sub:=sub) (ab:=ab) (col:=col) (dd:=dd) (k0:=k0) (k1:=k1) (k2:=k2) (k3:=k3) (k5:=k5) (fI:=fI)
    PySem.F.excBase_ValueError (by decide +kernel) PySem.F.excBase_ValueError (T0.hasType PySem.F.excBase_ValueError.hasBase) (I.ok.hd hcalm) (by rw[hs];rfl) ?_
   refine zr I hg hm ⟨rfl,?_⟩ hd;have pa:=lg h aa2 hs cpos zv s σ H (fun vs H1=>∃F1,vs=[.int i]/\Good X.K tg F1 H1 ρ' σ/\Ext (Own ρ σ) (Own ρ' σ) F H F1 H1) I ⟨tg,F,ρ,.int i,ρ',G,em1,fun v H' F' G' x' r=>by
    cases r;exact⟨F',rfl,G',x'⟩⟩
   rw[hs] at pa ⊢
   refine Calls.evalArgs_plain (wpAny_mono pa (fun us s2 ⟨vs,H2,I2,r2,F2,ev,G2,x2⟩ =>?_) fun e s1 q=>by rw[hnx] at q;exact q.elim)
   subst ev;have hlen:us.length=1:=r2.length.symm;obtain⟨o1,o2,o3,o4⟩:=hobj _ I2.kIn;refine⟨rfl,by rw[sizeLine_eq];show us.length<=_;omega,o1,o2,o3,o4,fun h' e hme =>?_⟩
   obtain⟨t,he,_,_⟩:=hme.there;have hnH:H2 e=none:=by
    cases z:H2 e with
    | none=>rfl
    | some o =>
     obtain⟨ob,h1⟩:=ah2 (I2.hok e o z);have h2:s2.heap.get? e=none:=hme.new;rw[h2] at h1;cases h1
   have J:L2.Inv X zv σ H2 { s2 with heap:=h' }:=I2.kept (t':=s2.toks) hme.keeps
   have J1:L2.Inv X zv σ (upd H2 e (.ext (exV e C none #[.ref t,.none,.none,.none,.bool false,.none]))) { s2 with heap:=h' } :=
    Inv.track J (Inv.fpX I2 hme.new hnH) ⟨⟨_,he,rfl,rfl,rfl⟩,⟨_,he⟩,fun h1 h2 p q=>by obtain⟨oe,z1,z2⟩:=p;exact⟨oe,q _ z1,z2⟩⟩
   refine wpAny_call (codeAny_mono ((Fi #[.ref t,.none,.none,.none,.bool false,.none]).run (X.A.under (.builtin "type.__call__" ⟨.ref C::us,[]⟩)) X.stack _ _ ⟨.ref e::us,[]⟩ (.ref e::us) [.ref e,.int i]
    (fun v H3=>v=.non/\∃d,upd H2 e (.ext (exV e C none #[.ref t,.none,.none,.none,.bool false,.none])) d=none/\H3=upd (upd (upd H2 e (.ext (exV e C none #[.ref t,.none,.none,.none,.bool false,.none]))) e (.ext (exV e C (some d) #[.ref t,.none,.none,.none,.bool false,.none]))) d (.xd [(f,.int i)]))
    (fun _ _ _=>False) (hr.make C us []) (J1.env0.make C us []) (hb _ _ (by rw[List.length_cons,hlen])) (.cons rfl r2) ⟨e,i,rfl,cj,fun d hd=>⟨rfl,d,hd,rfl⟩⟩) fun r s' z =>?_)
   cases r with
   | error er=>exact z.elim
   | ok fl =>
    cases fl with
    | ret u =>
    obtain⟨v,H3,J3,rv,rfl,d,hd,rfl⟩:=Inv.after J1 z;have hde:d≠e:=fun q=>by rw[q,cj] at hd;cases hd
    have hd2:H2 d=none:=by rw[bj hde] at hd;exact hd
    have eq:upd (upd (upd H2 e (.ext (exV e C none #[.ref t,.none,.none,.none,.bool false,.none]))) e (.ext (exV e C (some d) #[.ref t,.none,.none,.none,.bool false,.none]))) d (.xd [(f,.int i)])=upd (upd H2 d (.xd [(f,.int i)])) e (.ext (exV e C (some d) #[.ref t,.none,.none,.none,.bool false,.none])):=by
     rw[alj]
     funext b
     unfold upd
     by_cases q1:b=d
     ·rw[if_pos q1,if_neg (fun q=>hde (q1.symm.trans q)),if_pos q1]
     ·rw[if_neg q1,if_neg q1]
    rw[eq] at J3;obtain⟨⟨oe,he2,hc2,hdx2,hdt2⟩,_⟩:=J3.hok e _ cj;have hne:upd H2 d (.xd [(f,.int i)]) e=none:=by rw[bj (Ne.symm hde)];exact hnH
    have J4:=Inv.untrack J3 hne;have rv:u=Value.none:=rv;refine⟨rv,(hobj _ J4.kIn).1,oe,_,he2,hc2,hdt2,rfl,σ,upd H2 d (.xd [(f,.int i)]),upd F2 d (.xd [(f,.int i)]),J4,G2.new hd2 _,x2.trans (G2.newX hd2 _),e,C,some d,[e],rfl,k,.inr ⟨d,rfl,cj⟩,⟨oe,_,he2,hc2,hdx2,hdt2,by simp,.inl ⟨rfl,rfl⟩⟩,fun b hb =>?_⟩
    obtain rfl:=List.mem_singleton.mp hb;exact Inv.fpX I2 hme.new hne
    | _=>exact z.elim
  ·cases em
 ·rename_i y ρ1 em1;exact absurd em1 (hn _ _ _)
 ·cases em⟩
end
theorem aa7(f:Str):∀fs:List (Str×Int),(fs.map fun p=>(p.1,V.int p.2)).lookup f=(fs.lookup f).map V.int
 | []=>rfl
 | (g,i)::r=>by
  rw[List.map_cons,List.lookup_cons,List.lookup_cons];cases f==g
  ·exact aa7 f r
  ·rfl
def mFld(cs:List Str)(f:Str)(m:M D):M D:=m.bind fun d=>match d with
 | .exn c fs=>if cs.contains c=true then lift ((fs.lookup f).map D.int) else lift none
 | _=>lift none
@[simp] theorem as3(cs:List Str)(f:Str)(m:M D)(ρ:Ro):mFld cs f m ρ=(m.bind fun d=>match d with
 | .exn c fs=>if cs.contains c=true then lift ((fs.lookup f).map D.int) else lift none
 | _=>lift none) ρ:=rfl
theorem alb{K:Fg9}{X:Cx}{e:Expr}{m:M D}{cs:List Str}{f:Str}{pos:Pos}(hF:∀c C,cs.contains c=true->nsIn K mainGlobals c=some (some (.ref C))->findIn K (.ref C) f=some none)(h:EV K X e m)(hb:attributeBase e f X.env (eval e X.env)=eval e X.env:=by rfl) :
  EV K X (.Attribute e f pos) (mFld cs f m):=EV.mk fun hk=>by
 intro zv s σ H Q I ⟨tg,F,ρ,d,ρ',G,em,q⟩;obtain⟨d1,ρ1,e1,em⟩:=au em;refine anp hb (thn (h hk zv s σ H (fun x H1=>∃F1,Good K tg F1 H1 ρ1 σ/\Ext (Own ρ σ) (Own ρ1 σ) F H F1 H1/\Is K F1 d1 x) I ⟨tg,F,ρ,d1,ρ1,G,e1,fun v H' F' G' x' r=>⟨F',G',x',r⟩⟩) fun u s1 ⟨x,H1,I1,rx,F1,G1,x1,i1⟩ =>?_)
 subst hk;cases i1 with
 | @exn a C c dx fs ea hc hk hf =>
  dsimp only at em;split at em
  ·rename_i hcs;obtain⟨e2,rfl⟩:=dg em;obtain⟨i,hi,rfl⟩:=Option.map_eq_some_iff.mp e2;rcases hf with⟨_,rfl⟩ | ⟨d,rfl,hFd⟩
   ·cases hi
   ·obtain rfl:u=Value.ref a:=rx;obtain⟨⟨oe,vs,he,hcl,hdx,hdt⟩,_⟩:=I1.hok a _ (G1.sub _ _ ea);obtain⟨mA,hns,hrel⟩:=I1.hok d _ (G1.sub _ _ hFd);obtain⟨od,ho,hl⟩:=adw hns;have J:PySem.W.InstAt s1.heap a oe C (some od):=⟨he,hcl,by unfold PySem.W.notCls;rw[hdt],by rw[hdx];exact ho⟩
    have hr:=hrel f;rw[aa7,hi] at hr;cases hm:mA f with
    | none=>rw[hm] at hr;exact hr.elim
    | some v =>
     rw[hm] at hr;obtain⟨t,rfl⟩:∃t,v=.int i t:=hr
     have hfo:=PySem.W.findObj_own (od:=od) hk.hd (hF c C hcs hc) rfl (by rw[hl,hm])
     unfold getAttr;refine wpAny_bind (wpAny_mkText (afx (s:={ s1 with toks:=s1.toks+1 }) I1.kIn J hk (exc_value (s:={ s1 with toks:=s1.toks+1 }) I1.kIn J hfo ?_)))
     exact wpAny_pure ⟨.int i,H1,I1.kept (t':=s1.toks+1) (fun _ _ z=>z),⟨t,rfl⟩,q _ H1 F1 G1 x1 (.int i)⟩
  ·cases em
 | _=>cases em
def ank(s:Stmt):Stmt:=match s with
 | .ClassDef _ _ _ b _ _ _ _ _ _ _=>b.getD 0 s
 | _=>s
section
variable{K:Fg9}{X:Cx}{c f:Str}{st st':Stmt}{e1:Expr}{m:M D}{np cpos pos p1 p2 p3 p4:Pos}
theorem ql:SV K X st (qj c f m):=SV.mk fun _=>PS.imp ajf fun E σ H z9=>by
 obtain⟨tg,F,ρ,fl,ρ',G,em,q⟩:=z9;unfold qj dM at em;split at em
 ·dsimp only at em;split at em
  ·cases em;exact(show False from q).elim
  ·cases em
 ·cases em;exact(show False from q).elim
 ·cases em
structure IniT (K:Fg9) (mg:Str->Option Value) (c f q:Str) (st:Stmt):Prop where
 ex:∃C fI fd,mg c=some (.ref C)/\ClsOk K c C/\ad1 K C fI=true/\FldK K C f/\Fun K "__init__" q st fI fd
theorem ac8{q:Str}(hk:X.K=K)(hcalm:X.calm=true)(hg:Gl X c)(h:IniT K X.mg c f q st)(S:FnScope ["self", f] ["self", f] (ao st))(hb:dm st=[.Assign [.Attribute (.Name "self" p1) f p2] (.Name f p3) p4])(h1:(f==("__debug__" : Str))=false)(h2:(f==("__classdict__" : Str))=false)
  (hs:∀env,swapsWith (.Name f p3) (some (.Attribute (.Name "self" p1) f p2)) p4.line env=pure false) (hv1:Vis (ao st) "self") (hv2:Vis (ao st) f)
  (hbd:∀fI fd,Fun K "__init__" q st fI fd->∀s us,us.length=2->BindsTo s fd ⟨us,[]⟩ ((["self", f]:List Str).zip us))
  (hr:Room 2 X.A) (he:EV K X e1 m) (hn:NoX m) (hst:starEach [e1] X.env=(false,eval e1 X.env)::starEach [] X.env:=by rfl) (hd:(c==("__debug__" : Str))=false:=by decide) :
  XS K X (.Raise (some (.Call (.Name c np) [e1] [] cpos)) none pos) (qj c f m):=by
 subst hk;obtain⟨C,fI,fd,hm,k,qq,kf,F⟩:=h.ex;exact ag2 (kk:=1) hcalm hg hm k qq (fun vs=>am9 F S kf hb h1 h2 hs hv1 hv2) (hbd fI fd F) hr he hn hst hd
theorem ab8{q:Str}(h:∀(kV doc pm:Value) (an:Option Addr) (cdv ct:Value) (us:List Value),us.length=2->bindArgs (fnOf "__init__" q (jb st) (dm st) (ao st) .none kV doc pm an cdv ct) ⟨us,[]⟩=pure ((["self", f]:List Str).zip us)) :
  ∀fI fd,Fun K "__init__" q st fI fd->∀s us,us.length=2->BindsTo s fd ⟨us,[]⟩ ((["self", f]:List Str).zip us):=fun fI fd F s us hl=>by
 obtain⟨oc,od,kV,doc,pm,an,cdv,ct,osl,rfl,lk,hcd⟩:=F.ex;exact .of_eq (h kV doc pm an cdv ct us hl)
def am0(K:Fg9)(C fI:Addr)(f:Str):Bool:=ad1 K C fI&&(findIn K (.ref C) "__setattr__" == some (some (.builtin "object.__setattr__")))&&abh K C&&(PySem.W.takerIn K C f==some none)
theorem aka{h:Heap}{mg:Str->Option Value}{ns:List Str}{q:Str}{C fI:Addr}{fd:FuncData}(X:K.In h)(G:h.Ns mainGlobals mg)(e:af6 K ns=true)(hc:ns.contains c=true)(aC:nsIn K mainGlobals c=some (some (.ref C)))(e2:am0 K C fI f=true)(F:Fun K "__init__" q st fI fd):IniT K mg c f q st:=by
 obtain⟨C',h1,h2⟩:=jq X G e hc;have z:=h2.ns.symm.trans aC;cases z;unfold am0 at e2;simp only[Bool.and_eq_true,beq_iff_eq] at e2;obtain⟨⟨⟨a1,a2⟩,a3⟩,a4⟩:=e2;exact⟨C,fI,fd,h1,h2,a1,⟨h2.ok,a2,a3,a4⟩,F⟩
def ana(K:Fg9)(cs:List Str)(f:Str):Bool:=cs.all fun c=>match clsAt K c with
 | some C=>findIn K (.ref C) f==some none
 | none=>false
theorem afv{cs:List Str}(h:ana K cs f=true):∀c C,cs.contains c=true->nsIn K mainGlobals c=some (some (.ref C))->findIn K (.ref C) f=some none:=fun c C hc hn=>by
 have z:=List.all_eq_true.mp h c (List.contains_iff_mem.mp hc);rw[zb hn] at z;exact beq_iff_eq.mp z
end
@[simp] theorem aqb(d:D):akf [d]=(itemsD d).map abu:=rfl
@[simp] theorem apm(ρ:Ro)(i:Nat)(ms:M (List D)):ah7 i ms ρ=((dh i).bind fun d0=>ms.bind fun ds=>(dh i).bind fun d=>(lift (match d0,d with
 | .lst _,.lst _=>some ()
 | .tup _,.tup _=>some ()
 | _,_=>none)).bind fun _=>lift (ac5 d ds)) ρ:=rfl
@[simp] theorem am7(l:List D)(x:D):ac5 (.lst l) [x]=if okD 30 x&&l.all (okD 30) then some (.int (l.countP fun y=>eqD y x)) else none:=rfl
@[simp] theorem am6(l:List D)(x:D):ac5 (.tup l) [x]=if okD 30 x&&l.all (okD 30) then some (.int (l.countP fun y=>eqD y x)) else none:=rfl
theorem amv{n:Nat}{k:Int}(h0:0<=k)(h1:k < (n:Int)):ixN n k=some k.toNat:=by
 unfold ixN;simp[h0,h1]
theorem kj{K:Fg9}{P:Program}{w:World}{mg:Str->Option Value}{base:Heap}{x qual:Str}{st:Stmt}{f:Addr}{fd:FuncData}{N ps:List Str}{k nl np:Nat}{g:Sd}(F:Fun K x qual st f fd)(S:FnScope N ps (ao st))(h1:N.length=nl)(h2:ps.length=np)
  (body:∀(cdv:Value) (A:Around) (outer:List Env) (s:Shared) (H:Hp) (E:XK),Room k (A.deeper (envOfC qual (ao st) s.heap.objs.size f cdv))->SVs K (cxOf CX0 P w K mg base N qual (ao st) f cdv A outer s H E).nox (dm st) g) :
  FnOk P w K mg base CX0 (k+1) f fd ps (spOf K np (fnD nl np g)):=by
 subst h1 h2;exact ato F S body
end Dn
namespace Mn
open L2
section
variable{X:Cx}
end
end Mn
namespace Dn
open L2 Mn
section
variable{K:Fg9}{X:Cx}
end
theorem mkSc{N P:List Str}{sc:Scope}(a:sc.kind=.function)(b:sc.isCoroutine=false)(c:sc.isGenerator=false)(e:N.take P.length=P)(d:N.Nodup/\(∀x∈P,sc.names.lookup x=some .local∨sc.names.lookup x=some .cell)/\∀y∈sc.names,y.2≠.free):FnScope N P sc:=⟨a,b,c,d.1,e,d.2.1,d.2.2⟩
def cxE(X:Cx)(ps:List (Addr×Obj))(R:Value->Shared->Prop):Cx:={ X with pn:=X.pn++ps,xe:=R }
section
variable{K:Fg9}{X:Cx}{ps zv:List (Addr×Obj)}{R:Value->Shared->Prop}{σ:L2.St}{H:Hp}{s:Shared}
theorem Inv.toE(I:Inv X (ps++zv) σ H s):Inv (cxE X ps R) zv σ H s :=
 ⟨⟨I.ok.mod,I.ok.kind,I.ok.glob,I.ok.blt,I.ok.above,I.ok.inj,I.ok.has,I.ok.cab,I.ok.hd,I.ok.frames,I.ok.stk,I.ok.exf,I.ok.bs,I.ok.bsz,I.ok.noex,I.ok.exfs,I.ok.funs,I.ok.frf⟩,I.os,I.bare,I.base,I.loc,I.cell,I.free,I.freeC,fun p hp=>I.pin p (by rw[<-List.append_assoc];exact hp),I.hok,I.len⟩
theorem Inv.ofE(I:Inv (cxE X ps R) zv σ H s):Inv X (ps++zv) σ H s :=
 ⟨⟨I.ok.mod,I.ok.kind,I.ok.glob,I.ok.blt,I.ok.above,I.ok.inj,I.ok.has,I.ok.cab,I.ok.hd,I.ok.frames,I.ok.stk,I.ok.exf,I.ok.bs,I.ok.bsz,I.ok.noex,I.ok.exfs,I.ok.funs,I.ok.frf⟩,I.os,I.bare,I.base,I.loc,I.cell,I.free,I.freeC,fun p hp=>I.pin p (by show p∈(X.pn++ps)++zv;rw[List.append_assoc];exact hp),I.hok,I.len⟩
theorem RX.unpin{tg:Nat->Addr}{ρ ρ':Ro}{F:Hp}{x:Exn}{e:Value}{s':Shared}(h:RX K X (ps++zv) tg ρ σ F H x ρ' e s'):RX K X ps tg ρ σ F H x ρ' e s':=by
 obtain⟨σ',H',F',I,G,y,a,C,dx,ch,ea,hc,hf,fly,hch⟩:=h;refine⟨σ',H',F',I.unpinned,G,y,a,C,dx,ch,ea,hc,hf,fly,fun b hb =>?_⟩
 obtain⟨h1,h2,h3,h4,h5,h6⟩:=hch b hb;refine⟨h1,h2,h3,h4,h5,fun p hp=>h6 p ?_⟩
 rcases List.mem_append.mp hp with z | z
 ·exact List.mem_append_left _ z
 ·exact List.mem_append_right _ (List.mem_append_left _ z)
theorem ahh{tg:Nat->Addr}{ρ ρ':Ro}{F:Hp}{x:Exn}(hfr:X.env.frame=some X.env.locals)(hst:X.stack=X.env::X.outer):PassesOwn (model X.prog X.w) X.A X.env (RX K X zv tg ρ σ F H x ρ'):=fun e s' z9=>by
 obtain⟨σ1,H1,F1,I1,G1,x1,a,C,dx,ch,ea,hc,hf,fly,hch⟩:=z9;subst ea;have hl1:=I1.stack;rw[hst] at hl1;unfold notedBy;refine amm (by rw[<-hst];exact I1.ok.frames) hl1 hfr fly fun h' T oT ts oe vs hT kb e1 e2 e3 e4 e5 e6 e7 e8 e9 e10 =>?_
 rw[<-hst] at kb;have I2:=Inv.records I1 kb hch;have hsz3:3 < ts.size:=(Array.getElem?_eq_some_iff.mp e10).1;have fin:RX K X zv tg ρ σ F H x ρ' (.ref a) { s' with heap:=h' }:=by
  refine⟨σ1,H1,F1,I2,G1,x1,a,C,dx,[a,T],rfl,hc,hf,⟨oe,vs,e1,e2,e3,e4,e5,.inr ⟨T,oT,ts,_,rfl,e6,e7,e8,e9,e10,.inr rfl⟩⟩,fun b hb =>?_⟩
  have hb':b=a∨b=T:=by simpa using hb
  rcases hb' with rfl | rfl
  ·exact hch _ fly.fresh
  ·rcases hT with z | z
   ·exact hch _ z
   ·exact Inv.fpX I1 (Heap.get?_none_of_le z) (I1.hok.fresh z)
 have same:h'.update T (Obj.mapFields (·.setIfInBounds 3 (rawInt X.env.locals)))=h':=Heap.update_setField_same h' T oT ts 3 (rawInt X.env.locals) e8 e9 e10;have step:wpAny (model X.prog X.w) X.A (setFlight (.ref a) X.env.frame) (fun _ s''=>RX K X zv tg ρ σ F H x ρ' (.ref a) s'') (RX K X zv tg ρ σ F H x ρ') { s' with heap:=h' }:=by
  rw[hfr];unfold setFlight;refine wpAny_bind (wpAny_field e1 e4 e6 ?_);rw[if_pos (show(Value.ref T != Value.none)=true from by simp)]
  show wpAny (model X.prog X.w) X.A (setField (.ref T) 3 (rawInt X.env.locals)) _ _ _;refine wpAny_setField e8 e9 hsz3 ?_;show RX K X zv tg ρ σ F H x ρ' (.ref a) { s' with heap:=h'.update T (Obj.mapFields (·.setIfInBounds 3 (rawInt X.env.locals))) }
  rw[same];exact fin
 unfold cameBackBy;refine wpAny_bind (wpAny_field e1 e4 e6 ?_);rw[if_neg (show ¬((Value.ref T==Value.none)=true) from by simp)]
 first
  | exact wpAny_bind (wpAny_pure step)
  | exact step
end
section
variable{K:Fg9}{X:Cx}{tgt iter:Expr}{ss:List Stmt}{pos:Pos}
theorem IT.s{m:M (List D)}(h:IT K X tgt iter m):IT K X tgt iter (okS m):=IT.mk fun hk zv s σ H R I ⟨tg,F,ρ,l,ρ',G,em,q⟩=>h.go hk zv s σ H R I ⟨tg,F,ρ,l,ρ',G,(ab2 em).1,q⟩
def TSx(K:Fg9)(tg:Nat->Addr)(g:Sd)(ρ:Ro)(σ:L2.St)(F H:Hp)(x:Exn)(ρ':Ro):TS:=fun E σ3 H3=>∃F3 ρ3 fl ρ4,Good K tg F3 H3 ρ3 σ3/\g ρ3=some (fl,ρ4)/\((fl=.exc x/\ρ4=ρ'/\Ext (Own ρ σ) (Own ρ3 σ3) F H F3 H3)∨FlOk K tg ρ3 σ3 F3 H3 E fl ρ4)
theorem an0{m:M (List D)}{b:D->Ro->Option Ro}{g:Sd}(hfr:X.env.frame=some X.env.locals)(hst:X.stack=X.env::X.outer)(hc:X.calm=true)(hi:IT K X tgt iter m)(hm:NoX m)(hg:GV K X tgt b)(hb:SVs K X ss g)(hx:XSs K X ss g)
  (hs:∀x,foldedSetIterable iter X.env x=pure x:=by intro _;rfl):XS K X (.For tgt iter ss [] pos) (dFor m b g):=⟨fun hk hn zv s σ H tg F ρ x ρ' I G em=>by
 rcases ait (j6.mp em) with em | ⟨l,ρ1,e1,em⟩
 ·exact absurd em (hm _ _ _)
 have no:∀{e:Value} {s':Shared},X.xe e s'->False:=fun z=>by rw[hn] at z;exact z
 have pi':PI (cxE X zv (RX K X zv tg ρ σ F H x ρ')) tgt iter (TIt K m):=fun q s0 σ0 H0 R I0 h0 =>
  wpAny_mono (hi hk (zv++q) s0 σ0 H0 R (Inv.ofE I0) h0) (fun v s1 h1=>wpAny_mono h1 (fun itv s2 ⟨it,fp,tn,J,H2,ea,I2,T,st2,f2,r⟩=>⟨it,fp,tn,J,H2,ea,(Inv.toE I2),T,st2,fun b hb=>by
   obtain⟨z1,z2,z3,z4,z5,z6⟩:=f2 b hb;exact⟨z1,z2,z3,z4,z5,fun p hp=>z6 p (by rw[<-List.append_assoc];exact hp)⟩,r⟩) fun _ _ z=>(no z).elim) fun _ _ z=>(no z).elim
 have pg':PG (cxE X zv (RX K X zv tg ρ σ F H x ρ')) tgt (TGd K b):=fun q s0 σ0 H0 v u Q I0 r h0 =>
  wpAny_mono (hg hk (zv++q) s0 σ0 H0 v u Q (Inv.ofE I0) r h0) (fun _ s1 ⟨σ1,H1,I1,z⟩=>⟨σ1,H1,(Inv.toE I1),z⟩) fun _ _ z=>(no z).elim
 have pb':PSs (cxE X zv (RX K X zv tg ρ σ F H x ρ')) ss (TSx K tg g ρ σ F H x ρ'):=fun q s3 σ3 H3 E I3 z9=>by
  obtain⟨F3,ρ3,fl,ρ4,G3,e3,q3⟩:=z9;rcases q3 with⟨rfl,rfl,x3⟩ | q3
  ·exact wpAny_mono (hx.go hk hn (zv++q) s3 σ3 H3 tg F3 ρ3 x _ (Inv.ofE I3) G3 (j6.mpr e3)) (fun _ _ z=>z.elim) fun _ _ z=>(RX.unpin z).back x3
  ·refine wpAny_mono (hb.go hk (zv++q) s3 σ3 H3 E (Inv.ofE I3) ⟨tg,F3,ρ3,fl,ρ4,G3,e3,q3⟩) (fun f s4 z =>?_) fun _ _ z=>(no z).elim
   cases f with
   | next=>obtain⟨σ5,H5,I5,z⟩:=z;exact⟨σ5,H5,(Inv.toE I5),z⟩
   | brk=>obtain⟨σ5,H5,I5,z⟩:=z;exact⟨σ5,H5,(Inv.toE I5),z⟩
   | cont=>obtain⟨σ5,H5,I5,z⟩:=z;exact⟨σ5,H5,(Inv.toE I5),z⟩
   | ret u=>obtain⟨v,σ5,H5,I5,r,z⟩:=z;exact⟨v,σ5,H5,(Inv.toE I5),r,z⟩
 have I0:Inv X (zv++[]) σ H s:=by rw[List.append_nil];exact I
 refine wpAny_mono (ak0 (X:=cxE X zv (RX K X zv tg ρ σ F H x ρ')) (ahh hfr hst) hc pi' pg' pb' hs [] s σ H { nx:=fun _ _=>False,rt:=fun _ _=>False } (Inv.toE I0) ?_) (fun f s1 z =>?_) fun _ _ z=>z
 ·refine⟨tg,F,ρ,l,ρ1,G,e1,fun J H1 F1 G1 x1 Z =>?_⟩
  refine aim (g:=TGd K b) (tb:=TSx K tg g ρ σ F H x ρ') (D':={ nx:=fun _ _=>False,rt:=fun _ _=>False }) Z (fun i σ2 H2=>∃F2 ρ2,Good K tg F2 H2 ρ2 σ2/\Ext (Own ρ σ) (Own ρ2 σ2) F H F2 H2/\Same F1 F2/\forD b g (l.drop i) ρ2=some (.exc x,ρ')) ⟨F1,ρ1,G1,x1,Same.refl _,em⟩ (fun i σ2 H2 _ ⟨F2,ρ2,G2,_,s2,_⟩=>s2.trans G2.sub) ?_ ?_
  ·rintro i d xv σ2 H2' H2 hd ⟨F2',ρ2,G2',x2',s2',em2⟩ al
   obtain⟨F2,G2,x2,s2,id,_⟩:=ac7 G2' x2' s2' al;have hlt:i < l.length:=(List.getElem?_eq_some_iff.mp hd).1;have ed:l[i]=d:=(List.getElem?_eq_some_iff.mp hd).2;rw[List.drop_eq_getElem_cons hlt,ed] at em2;unfold forD at em2;split at em2
   ·cases em2
   ·rename_i ρ3 e3;refine⟨tg,F2,ρ2,d,ρ3,G2,id,e3,fun σ3 H3 F3 G3 x3 =>?_⟩
    split at em2
    ·rename_i ρ4 e4;exact⟨F3,ρ3,.nx,ρ4,G3,e4,.inr fun σ' H' F' G' x'=>⟨F',ρ4,G',(x2.trans x3).trans x',(s2.trans x3.sub).trans x'.sub,em2⟩⟩
    ·rename_i ρ4 e4;exact⟨F3,ρ3,.cont,ρ4,G3,e4,.inr fun σ' H' F' G' x'=>⟨F',ρ4,G',(x2.trans x3).trans x',(s2.trans x3.sub).trans x'.sub,em2⟩⟩
    ·cases em2
    ·cases em2
    ·rename_i y ρ4 e4;cases em2;exact⟨F3,ρ3,.exc _,_,G3,e4,.inl ⟨rfl,rfl,x2.trans x3⟩⟩
    ·cases em2
  ·rintro σ2 H2 ⟨F2,ρ2,G2,x2,s2,em2⟩
   rw[List.drop_eq_nil_of_le (Nat.le_refl _)] at em2;cases em2
 ·cases f with
  | next=>obtain⟨_,_,_,z⟩:=z;exact z.elim
  | brk=>obtain⟨_,_,_,z⟩:=z;exact z.elim
  | cont=>obtain⟨_,_,_,z⟩:=z;exact z.elim
  | ret u=>obtain⟨_,_,_,_,_,z⟩:=z;exact z.elim⟩
end
section
variable{K:Fg9}{X:Cx}
def gStr:D->Option Rv
 | .int i=>if i.natAbs < 2 ^ 62 then some (.v (.str (toString i))) else none
 | _=>none
theorem alg:CallD K X (.type "str") (g1 gStr):=acd fun hk zv s σ0 H x u Q tg F ρ σ d r I ru G bd eg q=>by
 cases d with
 | int i =>
  simp only[gStr] at eg;split at eg
  ·rename_i hi;cases eg;obtain rfl:=bd.int;obtain⟨t,rfl⟩:=ru;have hl:i.natAbs.log2 < 1920:=by
    by_cases h0:i.natAbs=0
    ·rw[h0];decide
    ·exact Nat.lt_of_lt_of_le ((Nat.log2_lt h0).2 hi) (by decide)
   exact P.str_of_int hl ⟨.str _,H,I.tok _,⟨_,rfl⟩,Res.same G q (.str _)⟩
  ·cases eg
 | _=>cases eg
end
section
variable{K:Fg9}{X:Cx}{e a b:Expr}{es:List Expr}
def rsM(K:Fg9)(g:D->List D->Option Rv):V->List V->Hp->VK->Prop:=fun x vs H Q=>∃tg F ρ σ d ds r,Good K tg F H ρ σ/\Is K F d x/\BorL K F H ds vs/\g d ds=some r/\Res K tg F H ρ σ r Q
def mSM(g:D->List D->Option Rv)(m:M D)(ms:M (List D)):M Rv:=m.bind fun d=>ms.bind fun ds=>lift (g d ds)
structure SMt (K:Fg9) (X:Cx) (id:String) (g:D->List D->Option Rv):Prop where
 go:X.K=K->MtR X id (rsM K g)
 st:∀d ds r,g d ds=some r->∃x,d=.str x
theorem ig{g:D->List D->Option Rv}{m:M D}{ms:M (List D)}{name:Str}{id:String}{apos cpos:Pos}(hm:SMt K X id g)(slot:Slot "str" name id)(hty:typeOf (.builtin id)=pure (.type "method_descriptor"))(ho:EV K X a m)(ha:EA K X (e::es) ms)
  (hbase:attributeBase a name X.env (eval a X.env)=eval a X.env:=by rfl)
  (hfew:((backTo cpos (starEach (e::es) X.env)).all (fun x => !x.1)&&(backToKw cpos (keywordEach [] X.env)).all (fun x=>x.1.isSome)
   && decide ((e::es).length+([]:List Keyword).length+(if ([]:List Keyword).isEmpty then 0 else 1) < 30))=true:=by rfl)
  (hline:(apos.endLine==cpos.line)=true:=by rfl) (hs:starEach (e::es) X.env=(false,eval e X.env)::starEach es X.env:=by rfl) (hplain:(backTo cpos (starEach es X.env)).any (·.1)=false:=by rfl) :
  ER K X (.Call (.Attribute a name apos) (e::es) [] cpos) (mSM g m ms):=ER.mk fun hk=>PE.imp (ahw PySem.F.plainAttrs_str slot hty (hm.go hk) (ho hk) (ha hk) hbase hfew hline hs hplain) fun σ H Q z9=>by
 obtain⟨tg,F,ρ,r,ρ',G,em,q⟩:=z9;obtain⟨d,ρ1,e1,em⟩:=au em;obtain⟨ds,ρ2,e2,em⟩:=au em;obtain⟨e3,rfl⟩:=dg em;obtain⟨x,rfl⟩:=hm.st _ _ _ e3;refine⟨tg,F,ρ,_,ρ1,G,e1,fun v H1 F1 G1 x1 r1 =>?_⟩
 cases r1;exact⟨rfl,tg,F1,ρ1,ds,_,G1,e2,fun vs H2 F2 G2 x2 r2=>⟨tg,F2,_,σ,.str x,ds,r,G2,.str x,r2,e3,fun v H3 F3 G3 x3 r3=>q v H3 F3 G3 ((x1.trans x2).trans x3) (jm (x1.trans x2) r3)⟩⟩
def abo:List D->Option (List Str)
 | []=>some []
 | .str x::l=>(abo l).map (x :: ·)
 | _=>none
theorem ae7:∀{l:List D} {xs:List Str},abo l=some xs->l=xs.map D.str
 | [],_,h=>by cases h;rfl
 | .str x::l,xs,h=>by
  have h:(abo l).map (x :: ·)=some xs:=h;cases e:abo l with
  | none=>rw[e] at h;cases h
  | some ys =>
   rw[e] at h;cases h;rw[ae7 e];rfl
@[simp] theorem adh:∀xs:List Str,abo (xs.map D.str)=some xs
 | []=>rfl
 | x::r=>by
  show(abo (r.map D.str)).map (x :: ·)=_;rw[adh r];rfl
theorem ae6{F:Hp}:∀{xs:List Str} {vs:List V},IsL K F (xs.map D.str) vs->vs=xs.map V.str
 | [],_,.nil=>rfl
 | _::_,_,.cons (.str _) t=>by rw[List.map_cons,ae6 t]
theorem ae5{F:Hp}:∀xs:List Str,IsL K F (xs.map D.str) (xs.map V.str)
 | []=>.nil
 | x::r=>.cons (.str x) (ae5 r)
theorem adg:∀{xs:List Str} {us:List Value},Vals (xs.map V.str) us->∃l:List (Str×Tok),us=strValues l/\l.map (·.1)=xs
 | [],_,.nil=>⟨[],rfl,rfl⟩
 | x::_,_,.cons ⟨t,e⟩ h=>by
  obtain⟨l,rfl,rfl⟩:=adg h;exact⟨(x,t)::l,by rw[e];rfl,rfl⟩
theorem adb:∀l:List (Str×Tok),Vals ((l.map (·.1)).map V.str) (strValues l)
 | []=>.nil
 | p::r=>.cons ⟨p.2,rfl⟩ (adb r)
def gJoin:D->List D->Option Rv
 | .str y,[.lst l]=>(abo l).bind fun xs=>if (xs.map (·.length)).sum+xs.length*y.length<=capS then some (.v (.str (Str.join y xs))) else none
 | _,_=>none
theorem ac3{y:Str}{xs:List Str}(h:(xs.map (·.length)).sum+xs.length*y.length<=capS):gJoin (.str y) [.lst (xs.map D.str)]=some (.v (.str (Str.join y xs))):=by
 show(abo (xs.map D.str)).bind _=_;rw[adh];exact if_pos h
theorem joinOk_of{y:Str}{xs:List Str}(h:(xs.map (·.length)).sum+xs.length*y.length<=capS):JoinOk y xs=true:=by
 unfold JoinOk;rw[StrLaws.joinTotal];simp only[Builtin.Str.tooLong,Bool.not_eq_true',decide_eq_false_iff_not,gt_iff_lt,Nat.not_lt];exact vo h
theorem aay:SMt K X "str.join" gJoin where
 st:=fun d ds r h=>by
  cases d with
  | str x=>exact⟨x,rfl⟩
  | _=>cases h
 go:=fun hk=>by
  subst hk;intro zv s σ H x vs v us Q I rx rv ⟨tg,F,ρ,σ1,d,ds,r,G,id',bl,eg,q⟩
  match d,ds,eg with
  | .str y,[.lst l],eg =>
   have eg:(abo l).bind (fun xs=>if (xs.map (·.length)).sum+xs.length*y.length<=capS then some (Rv.v (.str (Str.join y xs))) else none)=some r:=eg
   cases el:abo l with
   | none=>rw[el] at eg;cases eg
   | some xs =>
    rw[el] at eg;have eg:(if (xs.map (·.length)).sum+xs.length*y.length<=capS then some (Rv.v (.str (Str.join y xs))) else none)=some r:=eg
    split at eg
    ·rename_i hz;cases eg;cases id';obtain⟨t,rfl⟩:=rx;obtain⟨v',rfl,bv⟩:=bl.one;obtain⟨u,rfl,ru⟩:=rv.one;obtain⟨a,ws,rfl,ea,hl⟩:=bv.lst G.sub;cases ru;rw[ae7 el] at hl;rw[ae6 hl] at ea;obtain⟨its,r',pl,_⟩:=I.list (SqL.of ea);obtain⟨ps,rfl,ep⟩:=adg r';refine SC.join pl.isList ep (joinOk_of hz) fun t' k=>⟨.str _,H,I.tok _,⟨_,rfl⟩,?_⟩
     show Q (.str (Builtin.Str.glued y xs)) H;rw[StrLaws.glued_eq_join];exact Res.same G q (.str _)
    ·cases eg
theorem ahc{prog:Program}{w:World}{A:Around}{E:Value->Shared->Prop}{s:Shared}{x y:Str}{t u:Tok}{Q:Value->Shared->Prop}(hy:(y.length==0)=false)(hx:x.length+2<=sizeLine)
  (q:∀(l:List (Str×Tok)) (k:Nat),l.map (·.1)=Txt.split x y->Q (.ref s.heap.objs.size) { s with heap:=s.heap.push { cls:=.type "list", data:=.seq (strValues l).toArray },toks:=k }) :
  wpAny (model prog w) A (call (.builtin "str.split") [.str x t,.str y u]) Q E s:=by
 have hn:(Builtin.Str.partsBetween x (Builtin.Str.occurrences x y 0 x.length (x.length+1)) y.length).length<=sizeLine:=by
  have h1:=StrLaws.occ_length_le_len x y 0 x.length (x.length+1);have h2:∀(l:List Nat),(Builtin.Str.partsBetween x l y.length).length=l.length+1:=fun l=>by
   unfold Builtin.Str.partsBetween;simp
  rw[h2];omega
 by_cases h1:(decide (x.length < y.length)||decide (Builtin.Str.strKind x < Builtin.Str.strKind y))=true
 ·have e0:Txt.split x y=[x]:=by unfold Txt.split;exact if_pos h1
  exact call_meets F.slot_str_split (typeIs_str _ _ _) F.entry_str_split (F.args_str_split_2 _ _) (meets_str_split_cannot_occur x y t u h1) (q [(x,t)] s.toks e0.symm)
 ·have h1':=Bool.eq_false_iff.mpr h1
  by_cases hf:(Builtin.Str.occurrences x y 0 x.length (x.length+1)).isEmpty=true
  ·have e0:Txt.split x y=[x]:=by unfold Txt.split;rw[if_neg h1];exact if_pos hf
   exact call_meets F.slot_str_split (typeIs_str _ _ _) F.entry_str_split (F.args_str_split_2 _ _) (meets_str_split_not_found x y t u h1' hy hf) (q [(x,t)] s.toks e0.symm)
  ·have hf':=Bool.eq_false_iff.mpr hf;have e0:Txt.split x y=Builtin.Str.partsBetween x (Builtin.Str.occurrences x y 0 x.length (x.length+1)) y.length:=by unfold Txt.split;rw[if_neg h1];exact if_neg hf
   have z:=fun k=>q (numbered s.toks (Builtin.Str.partsBetween x (Builtin.Str.occurrences x y 0 x.length (x.length+1)) y.length)) k ((numbered_texts _ _).trans e0.symm)
   rw[<-strsFrom_eq] at z;exact call_meets F.slot_str_split (typeIs_str _ _ _) F.entry_str_split (F.args_str_split_2 _ _) (meets_str_split_sep x y t u h1' hy hf' (by omega) hn) (z _)
def wy:D->List D->Option Rv
 | .str x,[.str y]=>if y.length≠0/\x.length+2<=capS then some (.fr ((Txt.split x y).map D.str)) else none
 | _,_=>none
theorem ad0{x y:Str}(h:y.length≠0)(h2:x.length+2<=capS):wy (.str x) [.str y]=some (.fr ((Txt.split x y).map D.str)):=if_pos ⟨h,h2⟩
theorem qz(x y:Str):(Txt.split x y).length<=x.length+2:=by
 unfold Txt.split;split
 ·simp
 ·split
  ·simp
  ·have h1:=StrLaws.occ_length_le_len x y 0 x.length (x.length+1);unfold Builtin.Str.partsBetween;simp;omega
theorem j8:SMt K X "str.split" wy where
 st:=fun d ds r h=>by
  cases d with
  | str x=>exact⟨x,rfl⟩
  | _=>cases h
 go:=fun hk=>by
  subst hk;intro zv s σ H x vs v us Q I rx rv ⟨tg,F,ρ,σ1,d,ds,r,G,id',bl,eg,q⟩
  match d,ds,eg with
  | .str z,[.str y],eg =>
   have eg:(if y.length≠0/\z.length+2<=capS then some (Rv.fr ((Txt.split z y).map D.str)) else none)=some r:=eg
   split at eg
   ·rename_i hz;cases eg;cases id';obtain⟨t,rfl⟩:=rx;obtain⟨v',rfl,bv⟩:=bl.one;obtain⟨u,rfl,ru⟩:=rv.one;obtain rfl:=bv.str;obtain⟨t2,rfl⟩:=ru;refine ahc (beq_false_of_ne hz.1) (vo hz.2) fun l k el=>⟨.ref s.heap.objs.size,upd H s.heap.objs.size (.lst ((Txt.split z y).map V.str)),?_,rfl,Res.lst G q (ae5 _) (I.hok.fresh (Nat.le_refl _))⟩
    refine I.laid (fun b o e=>Heap.get?_push_of_some _ e) (Nat.le_refl _) ⟨?_,strValues l,0,el▸adb l,Heap.get?_push_size _ rfl⟩
    rw[List.length_map];exact Nat.le_trans (qz z y) (vo hz.2)
   ·cases eg
def tabAt(T:List (Str×Int))(x:Str):Option Int:=(T.find? fun p=>decide (x=p.1)).map (·.2)
def tabD(T:List (Str×Int)):List (Str×KTD.Dat):=T.map fun p=>(p.1,.flat (.int p.2))
def TabT(K:Fg9)(mg:Str->Option Value)(nm:Str)(T:List (Str×Int)):Prop :=
 ∃a,mg nm=some (.ref a)/\KTD.tabLook (KTD.datLooks fun b=>K.lookup b) (fun b=>K.lookup b) a (tabD T)=true
theorem ad5(x:Str):∀T:List (Str×Int),KTD.datumAt x (tabD T)=(tabAt T x).map fun n=>KTD.Dat.flat (.int n)
 | []=>rfl
 | p::r=>by
  show(if decide (x=p.1)=true then some (KTD.Dat.flat (.int p.2)) else KTD.datumAt x (tabD r))=_
  by_cases h:x=p.1
  ·rw[if_pos (decide_eq_true h)];simp[tabAt,h]
  ·rw[if_neg (by simpa using h),ad5 x r];simp[tabAt,List.find?_cons,h]
theorem afo(x:Str)(T:List (Str×Int)):KTD.inKeys x (tabD T)=(tabAt T x).isSome:=by
 rw[<-KTD.isSome_datumAt,ad5];cases tabAt T x <;> rfl
theorem ahp(T:List (Str×Int)):((tabD T).all fun p=>KTD.plain p.2)=true:=by
 simp[tabD,KTD.plain]
theorem af3{h:Heap}{x:Str}{n:Int}{P:Value->Prop}(q:∀t,P (.int n t)):∀T:List (Str×Int),tabAt T x=some n->KTD.EachL h x P (tabD T)
 | [],_=>trivial
 | p::r,e=>by
  by_cases hx:x=p.1
  ·refine KTD.eachL_hit hx ?_;have:p.2=n:=by simpa[tabAt,hx] using e
   rw[this];exact fun t=>q t
  ·exact KTD.eachL_miss hx (af3 q r (by simpa[tabAt,List.find?_cons,hx] using e))
def afi(T:List (Str×Int))(m:M D):M D:=m.bind fun d=>lift (match d with | .str x=>some (.bl (tabAt T x).isSome) | _=>none)
def ab3(T:List (Str×Int))(m:M D):M D:=m.bind fun d=>lift (match d with | .str x=>(tabAt T x).map .int | _=>none)
theorem akk{T:List (Str×Int)}{m:M D}{nm:Str}{p pos:Pos}(hT:TabT X.K X.mg nm T)(hg:Gl X nm)(h:EV K X a m)(hm:behindInMarks .In (.Name nm p)=false:=by with_unfolding_all rfl)(hd:(nm==("__debug__" : Str))=false:=by decide) :
  EV K X (.Compare a [.In] [.Name nm p] pos) (afi T m):=EV.mk fun hk=>by
 obtain⟨at',hmg,hl⟩:=hT;have ho:OpR X (compareOp .In) (fun x y H Q=>∃k,x=.str k/\y=.ref at'/\Q (.bl (tabAt T k).isSome) H):=by
  intro zv s σ0 H x y v u Q I rx ry ⟨k,e1,e2,q⟩;subst e1 e2;obtain⟨t,rfl⟩:=rx;cases ry;refine KTD.in_text (h₀:=s.heap) ⟨PySem.W.kt_text_in I.kIn hl,fun _ _ e=>e⟩ ⟨.bl _,H,I.tok _,rfl,?_⟩
  rw[afo];exact q
 refine PE.imp (ahu ho (h hk) (acl (v:=.ref at') hg hmg rfl hd) hm) fun σ H Q z9 =>?_
 obtain⟨tg,F,ρ,r,ρ',G,em,q⟩:=z9;obtain⟨d,ρ1,e1,em⟩:=au em;obtain⟨e3,rfl⟩:=dg em;refine⟨tg,F,ρ,d,_,G,e1,fun v H1 F1 G1 x1 r1 =>?_⟩
 cases d with
 | str x =>
  cases e3;cases r1;exact⟨x,rfl,rfl,q _ H1 F1 G1 x1 (.bl _)⟩
 | _=>cases e3
theorem aao{T:List (Str×Int)}{m:M D}{nm:Str}{p pos:Pos}(hT:TabT X.K X.mg nm T)(hg:Gl X nm)(h:EV K X b m)(hs:ae0 b)(hd:(nm==("__debug__" : Str))=false:=by decide) :
  EV K X (.Subscript (.Name nm p) b pos) (ab3 T m):=EV.mk fun hk=>by
 obtain⟨at',hmg,hl⟩:=hT;have ho:IxR X (fun x y H Q=>∃k n,x=.ref at'/\y=.str k/\tabAt T k=some n/\Q (.int n) H):=by
  intro value slice zv s σ0 H x y v u Q I rx ry ⟨k,n,e1,e2,e3,q⟩ hs;subst e1 e2;cases rx;obtain⟨t,rfl⟩:=ry;exact KTD.item_textA (h₀:=s.heap) ⟨PySem.W.kt_text_in I.kIn hl,fun _ _ e=>e⟩ (ahp T) (by rw[afo,e3];rfl) (af3 (fun t=>⟨.int n,H,I.tok _,⟨_,rfl⟩,q⟩) T e3) hs
 refine PE.imp (aoy ho (acl (v:=.ref at') hg hmg rfl hd) (h hk) hs) fun σ H Q z9 =>?_
 obtain⟨tg,F,ρ,r,ρ',G,em,q⟩:=z9;obtain⟨d,ρ1,e1,em⟩:=au em;obtain⟨e3,rfl⟩:=dg em;refine⟨tg,F,ρ,d,_,G,e1,fun v H1 F1 G1 x1 r1 =>?_⟩
 cases d with
 | str x =>
  have e3:(tabAt T x).map D.int=some r:=e3;cases et:tabAt T x with
  | none=>rw[et] at e3;cases e3
  | some n =>
   rw[et] at e3;cases e3;cases r1;exact⟨x,n,rfl,rfl,et,q _ H1 F1 G1 x1 (.int _)⟩
 | _=>cases e3
end
section
variable{K:Fg9}{X:Cx}
def am4:D->Option Rv
 | .str x=>if x.length<=640 then (PySem.intText? x).map fun n=>.v (.int n) else none
 | _=>none
theorem anl:CallD K X (.type "int") (g1 am4):=acd fun hk zv s σ0 H x u Q tg F ρ σ d r I ru G bd eg q=>by
 cases d with
 | str z =>
  have eg:(if z.length<=640 then (PySem.intText? z).map (fun n=>Rv.v (.int n)) else none)=some r:=eg
  split at eg
  ·rename_i hl;cases en:PySem.intText? z with
   | none=>rw[en] at eg;cases eg
   | some n =>
    rw[en] at eg;cases eg;obtain rfl:=bd.str;obtain⟨t,rfl⟩:=ru;exact PySem.W.KIN.call_text en hl ⟨.int n,H,I.tok _,⟨_,rfl⟩,Res.same G q (.int _)⟩
  ·cases eg
 | _=>cases eg
def aig:D->D->Option Rv
 | .str x,.int n=>if 0<=n/\n<=100/\x.length<=100 then some (.v (.str (Txt.mul x n))) else none
 | _,_=>none
theorem ajo:OpD K X (binaryOp .Mult) aig:=OpD.mk fun hk=>by
 intro zv s σ0 H x y v u Q I rx ry ⟨tg,F,ρ,σ,d1,d2,r,G,b1,b2,eg,q⟩;subst hk;unfold aig at eg;split at eg
 ·rename_i z n;split at eg
  ·rename_i hz;obtain⟨h0,h1,h2⟩:=hz;cases eg;obtain rfl:=b1.str;obtain rfl:=b2.int;obtain⟨t,rfl⟩:=rx;obtain⟨t2,rfl⟩:=ry;refine SB.mul ⟨?_,fun h3 h4 =>?_,fun h3 h4 =>?_⟩ fun t' k=>⟨.str _,H,I.tok _,⟨_,rfl⟩,Res.same G q (.str _)⟩
   ·rw[Bool.or_eq_false_iff];exact⟨decide_eq_false (by omega),decide_eq_false (by omega)⟩
   ·have h6:100<=(2 ^ 63 - 1) / n:=(Int.le_ediv_iff_mul_le (by omega)).mpr (by omega)
    omega
   ·have h6:z.length*n.toNat<=100*100:=Nat.mul_le_mul h2 (by omega)
    simp only[Builtin.Str.tooLong,decide_eq_false_iff_not,gt_iff_lt,Nat.not_lt];exact Nat.le_trans h6 (vo (by decide))
  ·cases eg
 ·cases eg
end
end Dn
end
namespace Dn
open PySem L2
@[simp] abbrev gL9(d:D):Option Rv:=(itemsD d).map fun l=>.v (.int l.length)
@[simp] abbrev gT9(d:D):Option Rv:=(itemsD d).map fun l=>.v (.tup l)
end Dn
namespace My
open PySem L2 Mn Dn
def tab_WRITTEN_DOORS:List (Str×Int):=[("-3", -3),("-2", -2),("-1", -1),("0", 0),("1", 1),("2", 2),("3", 3),("4", 4),("5", 5),("6", 6),("7", 7),("8", 8),("9", 9)]
def NS:List Str:=["ArrowError","NoArrows","NoRoom","NoWalkers","NotShut","NeverBack","NoTour","NoRow","NoHouse","NotOpen","Nobody","NoText","TooGreat"]
def j4:Sd :=
 (dRet (M.v (mAnd (afi tab_WRITTEN_DOORS (mVar 0)) (M.d (mOp (gCmp fun i j=>decide (i < j)) (dj (ab3 tab_WRITTEN_DOORS (mVar 0)) (dh 1)))))))
def fj:Fd:=fnD 2 2 j4
def ju:M D :=
 (M.d (mFn fj [some 0,some 1] (gw 0 (gw 1 jn))))
def j0:Sd :=
 (dRet (M.v (mAnd (M.d (mOp (gCmp fun i j=>decide (i<=j)) (dj (M.d (jw (g1 gL9) (jo 0 mNil))) (ret (.int 6))))) (M.d (jw (g1 gAll) (ak (M.d (aai [none,some 1] (uw (mVar 0)) (gf 0) (ret true) ju)) mNil))))))
def fc:Fd:=fnD 2 2 j0
def aey:M D :=
 (ab3 tab_WRITTEN_DOORS (mVar 0))
def l1_read:Sd :=
 (dSeq (dOk (dSet 5 (mSM wy (mVar 4) (ak (ret (.str "\x20")) mNil)))) (dSeq (dIf (okS (mOrB (oh (gCmp fun i j=>decide (j<=i)) (cu 3 (ret (.int 10)))) (aet (aa5 (M.d (mFn fc [none,none] (gj (mVar 5) (gj (M.d (jw (g1 gL9) (jo 1 mNil))) jn)))))))) (qj "NoText" "at" (okS (M.d (mOp gAdd (cu 3 (ret (.int 1))))))) dNx) (dOk (agv (M.v (mMut 2 zy (ak (M.d (jw (g1 gT9) (ak (M.d (aai [none] (uw (mVar 5)) (gf 0) (ret true) aey)) mNil))) mNil)))))))
def afr:Sd :=
 (dSeq (dIf (okS (aet (aa5 (mIsi .str (dh 0))))) (qj "NoText" "at" (okS (ret (.int 0)))) dNx) (dSeq (dOk (dSet 1 (mSM wy (mVar 0) (ak (ret (.str "\n")) mNil)))) (dSeq (dOk (dSet 2 (mLst mNil))) (dSeq (dFor (okS (mGet akf (ak (mVar 1) mNil))) (bTup 2 (wu (gf 3) (wu (gf 4) bNil))) l1_read) (dOk (dRet (jw (g1 gT9) (jo 2 mNil))))))))
def uz:Fd:=fnD 6 1 afr
def yg:Sd :=
 (dSeq (dIf (oh (gCmp fun i j=>decide (i < j)) (cu 1 (M.d (jw (g1 gL9) (jo 0 mNil))))) (dRet (mOp gIx (cu 0 (dh 1)))) dNx) (dRet (M.v (ret (.int 0)))))
def f__law_cell:Fd:=fnD 2 2 yg
def ab9:Sd :=
 (dSeq (dSet 1 (jw (g2 (gInt fun i j=>some (if j > i then j else i))) (jo 0 (ak (M.d (mOp (gInt fSub) (dj (ret (.int 0)) (dh 0)))) mNil)))) (dRet (mLst (ak (mVar 1) (ak (M.d (jw (g1 ake) (ak (M.d (mOp (gCmp fun i j=>decide (j<=i)) (cu 1 (M.d (mOp (gInt fPow) (dj (ret (.int 10)) (ret (.int 18)))))))) mNil))) mNil)))))
def f__law_pen:Fd:=fnD 2 1 ab9
def ye:Sd :=
 (dSeq (dIf (oh (gEq false) (dj (M.d (mOp gIx (cu 0 (ret (.int 1))))) (ret (.int 1)))) (dSeq (dAsg (M.d (jw (g2 ac4) (ak (M.d (mOp gIx (cu 0 (ret (.int 0))))) (jo 1 mNil)))) (bTup 2 (wu (gf 2) (wu (gf 3) bNil)))) (dSeq (dSub 0 (ret (.int 0)) (mVar 2)) (dRet (ajy 3)))) dNx) (dSeq (dSet 4 (mOp (gInt fMod) (dj (M.d (mOp gMul (dj (M.d (mOp gAdd (dj (M.d (mOp (gInt fMod) (dj (M.d (mOp gIx (cu 0 (ret (.int 0))))) (ret (.int 2147483647))))) (ret (.int 40503))))) (ret (.int 69621))))) (ret (.int 2147483629))))) (dSeq (dSet 4 (mOp (gInt fMod) (dj (M.d (mOp gAdd (dj (M.d (mOp gMul (cu 4 (dh 4)))) (ret (.int 7817))))) (ret (.int 2147483587))))) (dSeq (dSub 0 (ret (.int 0)) (M.d (mOp (gInt fMod) (dj (M.d (mOp gAdd (dj (M.d (mOp gMul (cu 4 (ret (.int 48271))))) (ret (.int 11))))) (ret (.int 2147483629)))))) (dRet (mOp (gInt fMod) (dj (M.d (mOp (gInt fDiv) (dj (M.d (mOp gIx (cu 0 (ret (.int 0))))) (ret (.int 32))))) (dh 1))))))))
def f__law_draw:Fd:=fnD 5 2 ye
def aag:Sd :=
 (dRet (M.v (mAnd (mIsi .int (dh 0)) (mUn gNot (mIsi .bool (dh 0))))))
def jr:Fd:=fnD 1 1 aag
def aca:Sd :=
 (dSeq (dSet 1 (mLst (ak (ret .non) (ak (ret (.bl true)) (ak (ret (.bl false)) (ak (mUn gNeg (ret (.int 1))) (ak (ret (.str "1")) (ak (ret (.str "")) (ak (mTup mNil) (ak (M.d (mLst mNil)) (ak (mTup (ak (ret (.int 0)) mNil)) (ak (M.d (mLst (ak (ret (.int 0)) mNil))) (ak (ret (.dct [(Sum.inr "a", .int 1)])) (ak (mTup (ak (ret (.int 0)) (ak (ret (.int 1)) mNil))) (ak (M.d (mOp (gInt fPow) (dj (ret (.int 10)) (ret (.int 30))))) (ak (mTup (ak (mTup (ak (ret (.int 0)) mNil)) mNil)) (ak (ret (.str "ab")) mNil))))))))))))))))) (dRet (mOp gIx (dj (M.d (mOp gAdd (cu 1 (M.d (mLst (ak (mTup (ak (mTup (ak (mUn gNeg (ret (.int 1))) mNil)) (ak (mTup (ak (ret (.int 0)) (ak (ret (.int 1)) mNil))) mNil))) mNil)))))) (M.d (mFn f__law_draw [some 0,none] (gw 0 (gj (ret (.int 16)) jn))))))))
def f__law_odd:Fd:=fnD 2 1 aca
def tu:M D :=
 (M.d (mOp (gInt fSub) (dj (M.d (mFn f__law_draw [some 1,none] (gw 1 (gj (M.d (mOp gAdd (cu 2 (dh 3)))) jn)))) (dh 3))))
def sr:Sd :=
 (dSeq (dSet 7 (mOp gAdd (dj (ret (.int 1)) (M.d (mFn f__law_draw [some 0,some 2] (gw 0 (gw 2 jn))))))) (agv (M.v (mMut 5 zy (ak (M.d (jw (g1 gT9) (ak (M.d (aai [none,some 0,some 3,some 4] (mGet yh (ak (mVar 7) mNil)) (gf 0) (ret true) tu)) mNil))) mNil)))))
def aah:Sd :=
 (dSeq (dSet 3 (mOp gAdd (dj (ret (.int 1)) (M.d (mFn f__law_draw [some 0,some 1] (gw 0 (gw 1 jn))))))) (dSeq (dSet 4 (mOp gIx (dj (M.d (mLst (ak (ret (.int 0)) (ak (ret (.int 1)) (ak (ret (.int 3)) (ak (ret (.int 3)) mNil)))))) (M.d (mFn f__law_draw [some 0,none] (gw 0 (gj (ret (.int 4)) jn))))))) (dSeq (dSet 5 (mLst mNil)) (dSeq (dFor (mGet yh (ak (mVar 3) mNil)) (gf 6) sr) (dRet (jw (g1 gT9) (jo 5 mNil)))))))
def f__law_house:Fd:=fnD 8 3 aah
def aew:Sd :=
 (dSeq (dSet 1 (mLst (ak (mIsC NS "NoArrows" (dh 0)) (ak (mIsC NS "NoRoom" (dh 0)) (ak (mIsC NS "NoWalkers" (dh 0)) (ak (mIsC NS "NotShut" (dh 0)) mNil)))))) (dSeq (dSet 1 (mOp gAdd (cu 1 (M.d (mLst (ak (mIsC NS "NeverBack" (dh 0)) (ak (mIsC NS "NoTour" (dh 0)) (ak (mIsC NS "NoRow" (dh 0)) (ak (mIsC NS "NoHouse" (dh 0)) mNil))))))))) (dSeq (dSet 1 (mOp gAdd (cu 1 (M.d (mLst (ak (mIsC NS "NotOpen" (dh 0)) (ak (mIsC NS "Nobody" (dh 0)) (ak (mIsC NS "NoText" (dh 0)) (ak (mIsC NS "TooGreat" (dh 0)) mNil))))))))) (dSeq (dIf (mOrB (aet (aa5 (mIsC NS "ValueError" (dh 0)))) (oh (gEq true) (dj (ah7 1 (ak (ret (.bl true)) mNil)) (ret (.int 1))))) (dRet (M.v (ret (.str "other")))) dNx) (dSeq (dSet 2 (mLst (ak (ret (.str "arrows")) (ak (ret (.str "room")) (ak (ret (.str "walkers")) (ak (ret (.str "shut")) (ak (ret (.str "never")) (ak (ret (.str "tour")) (ak (ret (.str "row")) (ak (ret (.str "house")) (ak (ret (.str "open")) (ak (ret (.str "nobody")) (ak (ret (.str "text")) (ak (ret (.str "great")) mNil)))))))))))))) (dRet (mOp gIx (cu 2 (ams 1 aih (ak (ret (.bl true)) mNil))))))))))
def ni:Fd:=fnD 3 1 aew
def vf:M D :=
 (M.d (jw (g1 gStr) (jo 0 mNil)))
def ou:Sd :=
 (agv (M.v (mMut 1 zy (ak (M.d (mSM gJoin (ret (.str "\x20")) (ak (M.d (aai [none] (uw (mVar 2)) (gf 0) (ret true) vf)) mNil))) mNil))))
def abf:Sd :=
 (dSeq (dSet 1 (mLst mNil)) (dSeq (dFor (uw (mVar 0)) (gf 2) ou) (dRet (mSM gJoin (ret (.str "\n")) (jo 1 mNil)))))
def mz:Fd:=fnD 3 1 abf
def pq:M D :=
 (M.d (jw (g1 gStr) (jo 0 mNil)))
def vp:M Bool :=
 (oh (gIn true) (cu 0 (dh 1)))
def vd:M D :=
 (mVar 0)
def u5:M D :=
 (M.d (jw (g1 am4) (jo 0 mNil)))
def l1__law_read:Sd :=
 (dSeq (dSet 5 (mSM wy (mVar 4) (ak (ret (.str "\x20")) mNil))) (dSeq (dSet 6 (aai [none] (mGet abg (ak (mUn gNeg (ret (.int 3))) (ak (M.d (jw (g2 (gInt fun i j=>some (if j < i then j else i))) (ak (ret (.int 10)) (ak (M.d (jw (g1 gL9) (jo 1 mNil))) mNil)))) mNil))) (gf 0) (ret true) pq)) (dSeq (dIf (mOrB (oh (gCmp fun i j=>decide (j < i)) (cu 3 (ret (.int 9)))) (mOrB (oh (gCmp fun i j=>decide (j < i)) (dj (M.d (jw (g1 gL9) (jo 5 mNil))) (ret (.int 6)))) (oh (gEq true) (dj (M.d (aai [none,some 6] (uw (mVar 5)) (gf 0) vp vd)) (M.d (mLst mNil)))))) (dRet (mOp gAdd (cu 3 (ret (.int 1))))) dNx) (agv (M.v (mMut 2 zy (ak (M.d (jw (g1 gT9) (ak (M.d (aai [none] (uw (mVar 5)) (gf 0) (ret true) u5)) mNil))) mNil)))))))
def yc:Sd :=
 (dSeq (dSet 1 (mSM wy (mVar 0) (ak (ret (.str "\n")) mNil))) (dSeq (dSet 2 (mLst mNil)) (dSeq (dFor (mGet akf (ak (mVar 1) mNil)) (bTup 2 (wu (gf 3) (wu (gf 4) bNil))) l1__law_read) (dRet (jw (g1 gT9) (jo 2 mNil))))))
def j5:Fd:=fnD 7 1 yc
def wg:Sd :=
 (dSeq (dIf (aet (aa5 (mIsi .str (dh 0)))) (dRet (M.v (mTup (ak (ret (.str "text")) (ak (ret (.int 0)) mNil))))) dNx) (dSeq (dSet 1 (mFn j5 [none] (gj (mVar 0) jn))) (dSeq (dIf (aa5 (mIsi .tuple (dh 1))) (dRet (M.v (mTup (ak (ret (.str "told")) (ak (mVar 1) mNil))))) dNx) (dRet (M.v (mTup (ak (ret (.str "text")) (ak (mVar 1) mNil))))))))
def ji:Fd:=fnD 2 1 wg
def aae:Sd :=
 (dSeq (dIf (mOrB (oh (gEq true) (dj (M.d (mFn ni [some 1] (gw 1 jn))) (ret (.str "text")))) (aet (aa5 (M.d (mFn jr [none] (gj (mFld ["NoHouse","Nobody","NoText"] "at" (mVar 1)) jn)))))) (dRet (M.v (mTup (ak (ret (.str "other")) (ak (ret (.int 0)) mNil))))) dNx) (dRet (M.v (mTup (ak (ret (.str "text")) (ak (mFld ["NoHouse","Nobody","NoText"] "at" (mVar 1)) mNil))))))
def xx:Sd :=
 (dTry NS (dRet (M.v (mTup (ak (okS (ret (.str "told"))) (ak (M.d (mFn uz [none] (gj (okS (mVar 0)) jn))) mNil))))) 1 aae)
def f__law_told:Fd:=fnD 2 1 xx
def aaf:Sd :=
 (dSeq (dSet 2 (mSM wy (mVar 1) (ak (ret (.str "\x20")) mNil))) (dSeq (dSet 3 (mFn f__law_draw [some 0,none] (gw 0 (gj (M.d (jw (g1 gL9) (jo 2 mNil))) jn)))) (dSeq (dSet 4 (mLst (ak (ret (.str "0")) (ak (ret (.str "9")) (ak (ret (.str "10")) (ak (ret (.str "-0")) (ak (ret (.str "-3")) (ak (ret (.str "-4")) (ak (ret (.str "00")) (ak (ret (.str "01")) (ak (ret (.str "+1")) (ak (ret (.str "")) (ak (ret (.str "a")) (ak (ret (.str "-")) (ak (ret (.str "1.0")) (ak (ret (.str "--1")) (ak (ret (.str "5")) (ak (ret (.str "-1")) (ak (ret (.str "3")) (ak (ret (.str "door")) mNil)))))))))))))))))))) (dSeq (dSet 5 (mOp gIx (cu 4 (M.d (mFn f__law_draw [some 0,none] (gw 0 (gj (ret (.int 18)) jn))))))) (dSeq (dSet 6 (mLst (ak (M.d (mOp gAdd (dj (M.d (nj 2 (ret none) (mq (mVar 3)))) (M.d (nj 2 (mq (M.d (mOp gAdd (cu 3 (ret (.int 1)))))) (ret none)))))) (ak (M.d (mOp gAdd (dj (M.d (nj 2 (ret none) (mq (M.d (mOp gAdd (cu 3 (ret (.int 1)))))))) (M.d (nj 2 (mq (mVar 3)) (ret none)))))) (ak (M.d (mOp gAdd (dj (M.d (mOp gAdd (dj (M.d (nj 2 (ret none) (mq (mVar 3)))) (M.d (mLst (ak (mVar 5) mNil)))))) (M.d (nj 2 (mq (mVar 3)) (ret none)))))) mNil))))) (dSeq (dSet 6 (mOp gAdd (cu 6 (M.d (mLst (ak (M.d (mOp gAdd (cu 2 (M.d (mOp gMul (dj (M.d (mLst (ak (mVar 5) mNil))) (M.d (mOp (gInt fSub) (dj (ret (.int 7)) (M.d (jw (g1 gL9) (jo 2 mNil)))))))))))) (ak (M.d (mOp gAdd (dj (M.d (mOp gAdd (dj (M.d (nj 2 (ret none) (mq (mVar 3)))) (M.d (mLst (ak (mVar 5) mNil)))))) (M.d (nj 2 (mq (M.d (mOp gAdd (cu 3 (ret (.int 1)))))) (ret none)))))) mNil))))))) (dRet (mSM gJoin (ret (.str "\x20")) (ak (M.d (mOp gIx (cu 6 (M.d (mFn f__law_draw [some 0,none] (gw 0 (gj (ret (.int 5)) jn))))))) mNil)))))))))
def f__law_words:Fd:=fnD 7 2 aaf
def su:Sd :=
 (dSeq (dSet 2 (mFn f__law_draw [some 0,none] (gw 0 (gj (M.d (jw (g1 gL9) (jo 1 mNil))) jn)))) (dSeq (dSet 3 (mFn f__law_draw [some 0,none] (gw 0 (gj (M.d (jw (g1 gL9) (jo 1 mNil))) jn)))) (dSeq (dSet 4 (mOp gIx (dj (M.d (mLst (ak (ret (.str "")) (ak (ret (.str "0")) (ak (ret (.str "-1\x20-1")) (ak (ret (.str "\x20")) (ak (ret (.str "9")) mNil))))))) (M.d (mFn f__law_draw [some 0,none] (gw 0 (gj (ret (.int 5)) jn))))))) (dSeq (dSet 5 (mLst (ak (M.d (mOp gAdd (dj (M.d (nj 1 (ret none) (mq (mVar 2)))) (M.d (nj 1 (mq (M.d (mOp gAdd (cu 2 (ret (.int 1)))))) (ret none)))))) (ak (M.d (mOp gAdd (dj (M.d (nj 1 (ret none) (mq (M.d (mOp gAdd (cu 2 (ret (.int 1)))))))) (M.d (nj 1 (mq (mVar 2)) (ret none)))))) (ak (M.d (mOp gAdd (dj (M.d (mOp gAdd (dj (M.d (nj 1 (ret none) (mq (mVar 2)))) (M.d (mLst (ak (M.d (mOp gIx (cu 1 (dh 3)))) mNil)))))) (M.d (nj 1 (mq (M.d (mOp gAdd (cu 2 (ret (.int 1)))))) (ret none)))))) (ak (M.d (mOp gAdd (cu 1 (M.d (mLst (ak (ret (.str "")) mNil)))))) mNil)))))) (dSeq (dSet 5 (mOp gAdd (cu 5 (M.d (mLst (ak (M.d (mOp gAdd (dj (M.d (mOp gAdd (dj (M.d (nj 1 (ret none) (mq (mVar 2)))) (M.d (mLst (ak (mVar 4) mNil)))))) (M.d (nj 1 (mq (mVar 2)) (ret none)))))) (ak (M.d (mOp gAdd (cu 1 (M.d (mOp gMul (dj (M.d (mLst (ak (ret (.str "-1")) mNil))) (M.d (mOp (gInt fSub) (dj (ret (.int 11)) (M.d (jw (g1 gL9) (jo 1 mNil)))))))))))) (ak (M.d (amr (mVar 1) (mUn gNeg (ret (.int 1))))) (ak (M.d (nj 1 (ret none) (mq (mVar 2)))) mNil))))))))) (dSeq (dSet 6 (mFn f__law_draw [some 0,none] (gw 0 (gj (ret (.int 16)) jn)))) (dSeq (dIf (oh (gCmp fun i j=>decide (i < j)) (cu 6 (ret (.int 8)))) (dRet (mSM gJoin (ret (.str "\n")) (ak (M.d (mOp gIx (cu 5 (dh 6)))) mNil))) dNx) (dRet (mSM gJoin (ret (.str "\n")) (ak (M.d (mOp gAdd (dj (M.d (mOp gAdd (dj (M.d (nj 1 (ret none) (mq (mVar 2)))) (M.d (mLst (ak (M.d (mFn f__law_words [some 0,none] (gw 0 (gj (M.d (mOp gIx (cu 1 (dh 2)))) jn)))) mNil)))))) (M.d (nj 1 (mq (M.d (mOp gAdd (cu 2 (ret (.int 1)))))) (ret none)))))) mNil))))))))))
def f__law_spoilt:Fd:=fnD 7 2 su
def afm:Sd :=
 (dIf (oh (gEq true) (dj (M.d (mFn f__law_told [none] (gj (mVar 1) jn))) (M.d (mFn ji [none] (gj (mVar 1) jn))))) (dRet (M.v (ret (.bl false)))) dNx)
def af4:M D :=
 (M.d (mFn f__law_spoilt [some 2,none] (gw 2 (gj (M.d (mSM wy (mVar 1) (ak (ret (.str "\n")) mNil))) jn))))
def afl:Sd :=
 (dIf (oh (gEq true) (dj (M.d (mFn f__law_told [none] (gj (mVar 4) jn))) (M.d (mFn ji [none] (gj (mVar 4) jn))))) (dRet (M.v (ret (.bl false)))) dNx)
def l3_law:Sd :=
 (dSeq (dSet 3 (mFn f__law_pen [some 2] (gw 2 jn))) (dSeq (dSet 1 (mFn mz [none] (gj (M.d (mFn f__law_house [some 3,none,none] (gw 3 (gj (M.d (mOp gIx (dj (M.d (mLst (ak (ret (.int 3)) (ak (ret (.int 6)) (ak (ret (.int 10)) mNil))))) (M.d (mFn f__law_draw [some 3,none] (gw 3 (gj (ret (.int 3)) jn))))))) (gj (ret (.int 6)) jn))))) jn))) (dFor (uw (M.d (mOp gAdd (dj (M.d (aai [none,some 1,some 3] (mGet yh (ak (ret (.int 5)) mNil)) (gf 0) (ret true) af4)) (M.d (mLst (ak (M.d (mFn f__law_odd [some 3] (gw 3 jn))) (ak (mVar 1) mNil)))))))) (gf 4) afl)))
def ap6:Sd :=
 (dSeq (dFor (uw (M.d (mLst (ak (ret (.str "")) (ak (ret (.str "\n")) (ak (ret (.str "-1")) (ak (ret (.str "0")) (ak (ret (.str "1")) (ak (ret (.str "0\n1")) (ak (ret (.str "0\n2")) (ak (ret (.str "-1\x20")) (ak (ret (.str "\x20-1")) (ak (M.d (mOp gAdd (dj (M.d (mOp aig (dj (ret (.str "-1\n")) (ret (.int 10))))) (ret (.str "-1"))))) (ak (ret .non) (ak (ret (.int 0)) (ak (M.d (mLst (ak (ret (.str "-1")) mNil))) (ak (mTup (ak (mTup (ak (mUn gNeg (ret (.int 1))) mNil)) mNil)) mNil))))))))))))))))) (gf 1) afm) (dSeq (dFor (uw (M.d (mOp gAdd (dj (M.d (mLst (ak (M.d (mFn f__law_cell [some 0,none] (gw 0 (gj (ret (.int 0)) jn)))) mNil))) (M.d (nj 0 (mq (ret (.int 1))) (mq (ret (.int 4))))))))) (gf 2) l3_law) (dRet (M.v (ret (.bl true))))))
def aio:Fd:=fnD 5 1 ap6
def ag4:D->Bool
 | .int _=>true
 | _=>false
theorem aiz(ns:List Int)(k:Int)(h:0<=k):∃n,f__law_cell [.val (.kst (ns.map D.int)),.val (.int k)]=some (.ok (.v (.int n)),[.val (.kst (ns.map D.int)),.val (.int k)]):=by
 by_cases hk:k < (ns.length:Int)
 ·have e:atI (ns.map D.int) k=some (.int (ns[k.toNat]'(by omega))):=by
   have h2:atI (ns.map D.int) ((k.toNat:Nat):Int)=some (.int (ns[k.toNat]'(by omega))):=anq (by simp[List.getElem?_map,List.getElem?_eq_getElem (show k.toNat < ns.length by omega)])
   rw[show((k.toNat:Nat):Int)=k by omega] at h2
   exact h2
  exact⟨ns[k.toNat]'(by omega),by simp[f__law_cell,yg,hk,e]⟩
 ·exact⟨0,by simp[f__law_cell,yg,hk]⟩
def pen(P:Int×Int):List D:=[.int P.1,.int P.2]
theorem ajj(n:Int):∃P,f__law_pen [.val (.int n)]=some (.ok (.fr (pen P)),[.val (.int n)]):=by
 refine⟨(if 0 - n > n then 0 - n else n,if 10 ^ 18<=(if 0 - n > n then 0 - n else n) then 1 else 0),?_⟩
 simp[f__law_pen,ab9,pen,fPow]
theorem gr(P:Int×Int)(m:Int)(h0:0 < m)(h1:m < 1000000000000000000000000000000000000000000000000000000000000):∃r P',f__law_draw [.own (some 0) (pen P),.val (.int m)]=some (.ok (.v (.int r)),[.own (some 0) (pen P'),.val (.int m)])/\0<=r/\r < m:=by
 obtain⟨a,b⟩:=P
 by_cases hb:b=1
 ·refine⟨a % m,(a / m,b),?_,Int.emod_nonneg _ (by omega),Int.emod_lt_of_pos _ h0⟩
  simp[f__law_draw,ye,pen,hb,h0,h1,atI,ixN]
 ·have z0:0<=(a % 2147483647+40503)*69621 % 2147483629:=Int.emod_nonneg _ (by decide)
  have z1:(a % 2147483647+40503)*69621 % 2147483629 < 2147483629:=Int.emod_lt_of_pos _ (by decide)
  generalize hz:(a % 2147483647+40503)*69621 % 2147483629=z at z0 z1;have hm:fMul z z=some (z*z):=by
   unfold fMul;rw[if_pos (.inl ⟨by omega,by omega⟩)]
  refine⟨((z*z+7817) % 2147483587*48271+11) % 2147483629 / 32 % m,(((z*z+7817) % 2147483587*48271+11) % 2147483629,b),?_,Int.emod_nonneg _ (by omega),Int.emod_lt_of_pos _ h0⟩
  have h69:∀x:Int,fMul x 69621=some (x*69621):=fun x=>by unfold fMul;rw[if_pos (.inr (by decide))]
  have h48:∀x:Int,fMul x 48271=some (x*48271):=fun x=>by unfold fMul;rw[if_pos (.inr (by decide))]
  simp[f__law_draw,ye,pen,hb,h0,h1,atI,ixN,h69,h48,hm,fMod,fDiv,hz]
structure HouseOk (m w:Int) (qv:LL9):Prop where
 one:1<=qv.length
 most:(qv.length:Int)<=m
 room:∀r∈qv,1<=r.length/\(r.length:Int)<=w/\∀x∈r,-3<=x/\x < (qv.length:Int)
def hDs(qv:LL9):List D:=qv.map fun r=>D.tup (r.map D.int)
def hD(qv:LL9):D:=.tup (hDs qv)
theorem agu(P:Int×Int)(m w:Int)(m1:1<=m)(m2:m<=10)(w1:1<=w)(w2:w<=6):∃qv P',f__law_house [.own (some 0) (pen P),.val (.int m),.val (.int w)]=some (.ok (.v (hD qv)),[.own (some 0) (pen P'),.val (.int m),.val (.int w)])/\HouseOk m w qv:=by
 obtain⟨r1,P1,e1,r1a,r1b⟩:=gr P m (by omega) (by omega)
 obtain⟨r2,P2,e2,r2a,r2b⟩:=gr P1 4 (by decide) (by decide)
 have hg:∃g:Int,atI [D.int 0,D.int 1,D.int 3,D.int 3] r2=some (.int g)/\0<=g/\g<=3:=by
  have:r2=0∨r2=1∨r2=2∨r2=3:=by omega
  rcases this with rfl | rfl | rfl | rfl
  ·exact⟨0,rfl,by decide,by decide⟩
  ·exact⟨1,rfl,by decide,by decide⟩
  ·exact⟨3,rfl,by decide,by decide⟩
  ·exact⟨3,rfl,by decide,by decide⟩
 obtain⟨g,eg,g0,g3⟩:=hg;have loop:=aft (b:=gf 6) (g:=sr) (fun i ρ=>∃qv P o1 o2,ρ=[.own (some 0) (pen P),.val (.int m),.val (.int w),.val (.int (1+r1)),.val (.int g),.own none (hDs qv),o1,o2]/\qv.length=i/\∀r∈qv,1<=r.length/\(r.length:Int)<=w/\∀x∈r,-3<=x/\x < 1+r1)
  (l:=ir 0 (1+r1).toNat) (ρ:=[.own (some 0) (pen P2),.val (.int m),.val (.int w),.val (.int (1+r1)),.val (.int g),.own none [],.emp,.emp]) 0 ⟨[],P2,.emp,.emp,rfl,rfl,by simp⟩ ?_
 ·obtain⟨ρ',e3,qv,P3,o1,o2,rfl,hl,hr⟩:=loop;have hl:qv.length=(1+r1).toNat:=by simpa[ir] using hl
  refine⟨qv,P3,?_,by omega,by omega,fun r h =>?_⟩
  ·have hb:(1+r1).natAbs < 4611686018427387904:=by omega
   simp[f__law_house,aah,e1,e2,eg,hb,e3,hD]
  ·obtain⟨a,b,c⟩:=hr r h;exact⟨a,b,fun x hx=>by have:=c x hx;omega⟩
 ·rintro i d ρ hd ⟨qv,P4,o1,o2,rfl,hl,hr⟩
  obtain⟨r5,P5,e5,r5a,r5b⟩:=gr P4 w (by omega) (by omega)
  have comp:=abk (b:=gf 0) (mc:=ret true) (me:=tu) (fun j ys ρ=>∃ns P o,ρ=[o,.own (some 1) (pen P),.val (.int (1+r1)),.val (.int g)]/\ys=ns.map D.int/\ns.length=j/\∀x∈ns,-3<=x/\x < 1+r1)
   (l:=ir 0 (1+r5).toNat) (ys:=[]) (ρ:=[.emp,.own (some 1) (pen P5),.val (.int (1+r1)),.val (.int g)]) 0 ⟨[],P5,.emp,rfl,rfl,rfl,by simp⟩ ?_
  ·obtain⟨ys,ρ',e6,ns,P6,o,rfl,rfl,hn,hx⟩:=comp;have hn:ns.length=(1+r5).toNat:=by simpa[ir] using hn
   have hb:(1+r5).natAbs < 4611686018427387904:=by omega
   have hc1:ns.length<=capS:=abm (by omega)
   have hi:i < (1+r1).toNat:=by
    have:=(List.getElem?_eq_some_iff.mp hd).1
    simpa[ir] using this
   have hc2:(hDs qv).length < capS:=by simp[hDs,capS];omega
   refine⟨_,[.own (some 0) (pen P6),.val (.int m),.val (.int w),.val (.int (1+r1)),.val (.int g),.own none (hDs (qv++[ns])),.val d,.val (.int (1+r5))],rfl,.inl (by simp[sr,e5,hb,e6,hc1,hc2];simp[hDs]),qv++[ns],P6,_,_,rfl,by simp[hl],fun r h =>?_⟩
   rcases List.mem_append.mp h with h | h
   ·exact hr r h
   ·obtain rfl:r=ns:=by simpa using h
    exact⟨by omega,by omega,hx⟩
  ·rintro j d ys ρ hd ⟨ns,P6,o,rfl,rfl,hn,hx⟩
   obtain⟨r7,P7,e7,r7a,r7b⟩:=gr P6 (1+r1+g) (by omega) (by omega)
   refine⟨_,_,true,rfl,rfl,.inr ⟨rfl,.int (r7 - g),_,by simp[tu,e7];rfl,ns++[r7 - g],P7,_,rfl,by simp,by simp[hn],fun x h =>?_⟩⟩
   rcases List.mem_append.mp h with h | h
   ·exact hx x h
   ·obtain rfl:x=r7 - g:=by simpa using h
    omega
@[simp] theorem ak4(d:D):jr [.val d]=some (.ok (.v (.bl (ag4 d))),[.val d]):=by
 cases d <;> simp[jr,aag,isTy,ag4]
section
variable(c:Nat)
def fre(x:Str):Prop:=c∉x.cps.toList
theorem acw(x:Str)(limit:Nat):∀(n a:Nat) (st:Array Nat×Nat),st.2<=a->st.1.size<=a->a+n<=limit ->
  (forIn (List.range' a n) st (StrLaws.occBody x ⟨#[c]⟩ x.length limit)).run.fst.toList=st.1.toList++(List.range' a n).filter fun i=>decide (x.cps.toList[i]? = some c)
 | 0,a,st,_,_,_=>by simp
 | n+1,a,st,h1,h2,h3=>by
  rw[List.range'_succ,List.forIn_cons,List.filter_cons];have key:=StrLaws.subAt_one x c a
  by_cases hx:x.cps.toList[a]? = some c
  ·have hb:StrLaws.occBody x ⟨#[c]⟩ x.length limit a st=pure (ForInStep.yield (st.1.push a,a+1)):=by
    unfold StrLaws.occBody;rw[if_pos ⟨⟨⟨by omega,h1⟩,(key.mpr hx).1⟩,(key.mpr hx).2⟩]
    rfl
   rw[hb,if_pos (decide_eq_true hx)];have ih:=acw x limit n (a+1) (st.1.push a,a+1) (Nat.le_refl _) (by simp;omega) (by omega)
   show(forIn (List.range' (a+1) n) (st.1.push a,a+1) (StrLaws.occBody x ⟨#[c]⟩ x.length limit)).run.fst.toList=_;rw[ih];simp
  ·have hb:StrLaws.occBody x ⟨#[c]⟩ x.length limit a st=pure (ForInStep.yield (st.1,st.2)):=by
    unfold StrLaws.occBody;rw[if_neg fun z=>hx (key.mp ⟨z.1.2,z.2⟩)]
   rw[hb,if_neg (by simpa using hx)]
   exact acw x limit n (a+1) st (by omega) (by omega) (by omega)
theorem ah1(x:Str)(i:Nat):x.cps.toList[i]? = some c->i∈Builtin.Str.occurrences x ⟨#[c]⟩ 0 x.length (x.length+1):=fun h=>by
 rw[StrLaws.occ_eq,acw c x (x.length+1) (x.length+1 - 0) 0 (#[],0) (Nat.le_refl _) (Nat.le_refl _) (by omega)]
 have hi:=(List.getElem?_eq_some_iff.mp h).1;have hl:x.cps.toList.length=x.length:=by simp[Str.length]
 simp only[List.nil_append,List.mem_filter,List.mem_range'_1];exact⟨⟨by omega,by omega⟩,decide_eq_true h⟩
theorem agp(x:Str):(Builtin.Str.occurrences x ⟨#[c]⟩ 0 x.length (x.length+1)).Pairwise (· < ·):=by
 rw[StrLaws.occ_eq,acw c x (x.length+1) (x.length+1 - 0) 0 (#[],0) (Nat.le_refl _) (Nat.le_refl _) (by omega)]
 have z:=(List.pairwise_lt_range' (s:=0) (n:=x.length+1 - 0)).filter fun i=>decide (x.cps.toList[i]? = some c)
 exact z
theorem ae3{x:Str}{a b:Nat}(h:∀j,a<=j->j < b->x.cps.toList[j]? ≠ some c):fre c (Builtin.Str.strSub x a b):=fun z=>by
 rw[StrLaws.strSub_toList] at z;obtain⟨k,hk⟩:=List.mem_iff_getElem?.mp z;have hk2:=(List.getElem?_eq_some_iff.mp hk).1;rw[List.length_take] at hk2;rw[List.getElem?_take_of_lt (by omega),List.getElem?_drop] at hk
 exact h (a+k) (by omega) (by omega) hk
theorem parts_free(x:Str):∀(cuts:List Nat) (a:Nat),(∀j,a<=j->x.cps.toList[j]? = some c->j∈cuts)->(∀k∈cuts,a<=k)->cuts.Pairwise (· < ·)->∀p∈StrLaws.partsFrom x 1 a cuts,fre c p
 | [],a,h,_,_,p,hp=>by
  rw[List.mem_singleton.mp hp];exact ae3 c fun j h1 h2 z=>by cases h j h1 z
 | k::r,a,h,ha,hs,p,hp=>by
  rw[List.pairwise_cons] at hs;rcases List.mem_cons.mp hp with rfl | hp
  ·refine ae3 c fun j h1 h2 z =>?_
   rcases List.mem_cons.mp (h j h1 z) with e | e
   ·omega
   ·have:=hs.1 j e;omega
  ·have hk:=ha k (List.mem_cons_self ..);refine parts_free x r (k+1) (fun j h1 z =>?_) (fun j hj=>hs.1 j hj) hs.2 p hp
   rcases List.mem_cons.mp (h j (by omega) z) with e | e
   ·omega
   ·exact e
theorem split_free(x:Str):∀p∈Txt.split x ⟨#[c]⟩,fre c p:=fun p hp=>by
 have e:Builtin.Str.strKind x < Builtin.Str.strKind ⟨#[c]⟩->fre c x:=fun hlt z=>by
  unfold Builtin.Str.strKind at hlt;have hz:c∈x.cps:=by simpa using z
  have h1:x.cps.all (fun y=>decide (y < 256))=true->c < 256:=fun q=>by simpa using Array.all_eq_true'.mp q c hz
  have h2:x.cps.all (fun y=>decide (y < 65536))=true->c < 65536:=fun q=>by simpa using Array.all_eq_true'.mp q c hz
  have g1:((⟨#[c]⟩:Str).cps.all fun y=>decide (y < 256))=decide (c < 256):=by simp
  have g2:((⟨#[c]⟩:Str).cps.all fun y=>decide (y < 65536))=decide (c < 65536):=by simp
  rw[g1,g2] at hlt
  by_cases a1:x.cps.all (fun y=>decide (y < 256))=true
  ·rw[if_pos a1,if_pos (decide_eq_true (h1 a1))] at hlt;omega
  ·rw[if_neg a1] at hlt
   by_cases a2:x.cps.all (fun y=>decide (y < 65536))=true
   ·have:=h2 a2;rw[if_pos a2,if_pos (decide_eq_true this)] at hlt;split at hlt <;> omega
   ·rw[if_neg a2] at hlt;split at hlt
    ·omega
    ·split at hlt <;> omega
 unfold Txt.split at hp;split at hp
 ·rename_i h1;rw[List.mem_singleton.mp hp];rw[Bool.or_eq_true] at h1;rcases h1 with h1 | h1
  ·have h1:x.length < 1:=of_decide_eq_true h1;intro z;have:x.cps.toList.length=x.length:=by simp[Str.length]
   have:=List.length_pos_of_mem z;omega
  ·exact e (by simpa using h1)
 ·split at hp
  ·rename_i h2;rw[List.mem_singleton.mp hp];intro z;obtain⟨k,hk⟩:=List.mem_iff_getElem?.mp z;have:=ah1 c x k hk;rw[List.isEmpty_iff.mp h2] at this;cases this
  ·rw[StrLaws.partsBetween_eq] at hp;exact parts_free c x _ 0 (fun j _ z=>ah1 c x j z) (fun _ _=>Nat.zero_le _) (agp c x) p hp
theorem ae8(x y:Str):Txt.split x y≠[]:=by
 unfold Txt.split;split
 ·simp
 ·split
  ·simp
  ·rw[StrLaws.partsBetween_eq];obtain⟨p,r,e⟩:=StrLaws.partsFrom_ne x y.length 0 (Builtin.Str.occurrences x y 0 x.length (x.length+1));rw[e];simp
def jl:List (List Nat)->List Nat
 | []=>[]
 | [x]=>x
 | x::y::r=>x++c::jl (y::r)
theorem aa8:∀l:List Str,(Str.join ⟨#[c]⟩ l).cps.toList=jl c (l.map fun x=>x.cps.toList)
 | []=>rfl
 | [x]=>rfl
 | x::y::r=>by
  show(x++(⟨#[c]⟩:Str)++Str.join ⟨#[c]⟩ (y::r)).cps.toList=_;rw[Str.cps_append,Str.cps_append,Array.toList_append,Array.toList_append,aa8 (y::r)];simp[jl]
theorem alf:∀{p q s t:List Nat},c∉p->c∉q->p++c::s=q++c::t->p=q/\s=t
 | [],[],s,t,_,_,e=>by simpa using e
 | [],y::q,s,t,_,h,e=>by simp at e h;exact absurd e.1 h.1
 | x::p,[],s,t,h,_,e=>by simp at e h;exact absurd e.1.symm h.1
 | x::p,y::q,s,t,h1,h2,e=>by
  simp at e h1 h2;obtain⟨e1,e2⟩:=alf h1.2 h2.2 e.2;exact⟨by rw[e.1,e1],e2⟩
theorem ale{p q t:List Nat}(h:c∉p)(e:p=q++c::t):False:=h (by rw[e];simp)
theorem ah9:∀{ps qs:List (List Nat)},ps≠[]->qs≠[]->(∀p∈ps,c∉p)->(∀p∈qs,c∉p)->jl c ps=jl c qs->ps=qs
 | [],_,h,_,_,_,_=>absurd rfl h
 | _,[],_,h,_,_,_=>absurd rfl h
 | [x],[y],_,_,_,_,e=>by rw[show x=y from e]
 | [x],y::z::r,_,_,h1,h2,e=>(ale c (h1 x (List.mem_singleton.mpr rfl)) (show x=y++c::jl c (z::r) from e)).elim
 | x::w::s,[y],_,_,h1,h2,e=>(ale c (h2 y (List.mem_singleton.mpr rfl)) (show y=x++c::jl c (w::s) from Eq.symm e)).elim
 | x::w::s,y::z::r,_,_,h1,h2,e=>by
  obtain⟨e1,e2⟩:=alf c (h1 x (List.mem_cons_self ..)) (h2 y (List.mem_cons_self ..)) (show x++c::jl c (w::s)=y++c::jl c (z::r) from e)
  rw[e1,ah9 (by simp) (by simp) (fun p hp=>h1 p (List.mem_cons_of_mem _ hp)) (fun p hp=>h2 p (List.mem_cons_of_mem _ hp)) e2]
theorem aiw:∀{a b:List Str},(a.map fun x=>x.cps.toList)=(b.map fun x=>x.cps.toList)->a=b
 | [],[],_=>rfl
 | [],_::_,e=>by cases e
 | _::_,[],e=>by cases e
 | x::a,y::b,e=>by
  simp only[List.map_cons,List.cons.injEq] at e;rw[aiw e.2,Str.ext' (Array.toList_inj.mp e.1)]
theorem agj{l:List Str}(h:l≠[])(hf:∀x∈l,fre c x):Txt.split (Str.join ⟨#[c]⟩ l) ⟨#[c]⟩=l:=by
 refine aiw (ah9 c (by simpa using ae8 _ _) (by simpa using h) ?_ ?_ ?_)
 ·intro p hp;obtain⟨x,hx,rfl⟩:=List.mem_map.mp hp;exact split_free c _ x hx
 ·intro p hp;obtain⟨x,hx,rfl⟩:=List.mem_map.mp hp;exact hf x hx
 ·rw[<-aa8,<-aa8,StrLaws.join_split]
theorem ak6{y:Nat}:∀{l:List (List Nat)},y∈jl c l->y=c∨∃p∈l,y∈p
 | [],h=>by cases h
 | [x],h=>.inr ⟨x,List.mem_singleton.mpr rfl,h⟩
 | x::z::r,h=>by
  have h:y∈x++c::jl c (z::r):=h;rcases List.mem_append.mp h with h | h
  ·exact .inr ⟨x,List.mem_cons_self ..,h⟩
  ·rcases List.mem_cons.mp h with h | h
   ·exact .inl h
   ·rcases ak6 h with q | ⟨p,hp,q⟩
    ·exact .inl q
    ·exact .inr ⟨p,List.mem_cons_of_mem _ hp,q⟩
theorem acz{y:Nat}{l:List Str}(h:y∈(Str.join ⟨#[c]⟩ l).cps.toList):y=c∨∃x∈l,y∈x.cps.toList:=by
 rw[aa8] at h;rcases ak6 c h with q | ⟨p,hp,q⟩
 ·exact .inl q
 ·obtain⟨x,hx,rfl⟩:=List.mem_map.mp hp;exact .inr ⟨x,hx,q⟩
end
def wd(i:Int):Str:=Str.ofString (toString i)
def rowS(r:List Int):Str:=Str.join (Str.ofString "\x20") (r.map wd)
def txS(qv:LL9):Str:=Str.join (Str.ofString "\n") (qv.map rowS)
theorem sp32:Str.ofString "\x20" = ⟨#[32]⟩:=by decide +kernel
theorem nl10:Str.ofString "\n" = ⟨#[10]⟩:=by decide +kernel
theorem ada{i:Int}(h0 : -3<=i)(h1:i<=9):tabAt tab_WRITTEN_DOORS (wd i)=some i/\(wd i).length<=2/\((wd i).cps.toList.all fun y=>decide (y≠32/\y≠10/\y < 128))=true:=by
 have:i = -3∨i = -2∨i = -1∨i=0∨i=1∨i=2∨i=3∨i=4∨i=5∨i=6∨i=7∨i=8∨i=9:=by omega
 rcases this with rfl | rfl | rfl | rfl | rfl | rfl | rfl | rfl | rfl | rfl | rfl | rfl | rfl <;> decide +kernel
structure Hw (qv:LL9):Prop where
 one:1<=qv.length
 most:qv.length<=10
 room:∀r∈qv,1<=r.length/\r.length<=6/\∀x∈r,-3<=x/\x < (qv.length:Int)
theorem afs{d:D}(hd:okD 30 d=true)(neg:Bool):gEq neg d d=some (.v (.bl (!neg))):=by
 have e:eqD d d=true:=PySem.SeqAt.eqv_refl _ (ue _ _ hd).1;unfold gEq;rw[hd,e];cases neg <;> rfl
theorem akm{me:M D}{r:List Int}(h:∀i∈r,-3<=i/\i<=9)(hm:∀i,-3<=i->i<=9->me [.val (.int i)]=some (.ok (.str (wd i)),[.val (.int i)])) :
  compD (gf 0) (ret true) me (r.map D.int) [] [.emp]=some (.ok ((r.map wd).map D.str),yw .emp (r.map D.int)::[]):=by
 rw[qx (f:=fun d=>match d with | .int i=>.str (wd i) | _=>.non)]
 ·rw[List.nil_append,List.map_map,List.map_map];rfl
 ·intro d hd;obtain⟨i,hi,rfl⟩:=List.mem_map.mp hd;exact hm i (h i hi).1 (h i hi).2
theorem aru(i:Int)(h0 : -3<=i)(h1:i<=9):vf [.val (.int i)]=some (.ok (.str (wd i)),[.val (.int i)]):=by
 have e:gStr (.int i)=some (.v (.str (wd i))):=if_pos (by omega)
 simp[vf,e]
section
variable{r:List Int}(h6:r.length<=6)(hr:∀i∈r,-3<=i/\i<=9)
include h6 hr
theorem ag5:((r.map wd).map (·.length)).sum+(r.map wd).length*(Str.ofString "\x20").length<=18:=by
 have h1:=StrLaws.sumLen_le (B:=2) (r.map wd) fun y hy=>by
  obtain⟨i,hi,rfl⟩:=List.mem_map.mp hy;exact(ada (hr i hi).1 (hr i hi).2).2.1
 have h2:(Str.ofString "\x20").length=1:=by rw[sp32];rfl
 rw[h2];rw[List.length_map] at *;omega
theorem aj4:gJoin (.str (Str.ofString "\x20")) [.lst ((r.map wd).map D.str)]=some (.v (.str (rowS r))):=ac3 (Nat.le_trans (ag5 h6 hr) (by decide))
theorem ahi:(rowS r).length<=18:=Nat.le_trans (StrLaws.join_length_le _ _) (ag5 h6 hr)
theorem aek:∀y∈(rowS r).cps.toList,y≠10/\y < 128:=fun y hy=>by
 unfold rowS at hy;rw[sp32] at hy;rcases acz 32 hy with q | ⟨x,hx,q⟩
 ·subst q;decide
 ·obtain⟨i,hi,rfl⟩:=List.mem_map.mp hx;have:=List.all_eq_true.mp (ada (hr i hi).1 (hr i hi).2).2.2 y q;exact(of_decide_eq_true this).2
end
section
variable{qv:LL9}(h:Hw qv)
include h
theorem abb{r:List Int}(hr:r∈qv):∀i∈r,-3<=i/\i<=9:=fun i hi=>by
 have:=(h.room r hr).2.2 i hi;have:=h.most;omega
theorem afa:((qv.map rowS).map (·.length)).sum+(qv.map rowS).length*(Str.ofString "\n").length<=190:=by
 have h1:=StrLaws.sumLen_le (B:=18) (qv.map rowS) fun y hy=>by
  obtain⟨i,hi,rfl⟩:=List.mem_map.mp hy;exact ahi (h.room i hi).2.1 (abb h hi)
 have h2:(Str.ofString "\n").length=1:=by rw[nl10];rfl
 have:=h.most;rw[h2];rw[List.length_map] at *;omega
theorem join_rows:gJoin (.str (Str.ofString "\n")) [.lst ((qv.map rowS).map D.str)]=some (.v (.str (txS qv))):=ac3 (Nat.le_trans (afa h) (by decide))
theorem an4:(txS qv).length<=190:=Nat.le_trans (StrLaws.join_length_le _ _) (afa h)
theorem adf(S:Sl):∀(rs:LL9) (xs:List Str) (o:Sl),(∀r∈rs,r∈qv)->xs.length+rs.length<=10->∃o',forD (gf 2) ou (hDs rs) [S,.own none (xs.map D.str),o]=some (.nx,[S,.own none ((xs++rs.map rowS).map D.str),o'])
 | [],xs,o,_,_=>⟨o,by simp[hDs]⟩
 | r::rs,xs,o,hs,hl=>by
  have hr:=hs r (List.mem_cons_self ..);obtain⟨o',ih⟩:=adf S rs (xs++[rowS r]) (.val (.tup (r.map D.int))) (fun x hx=>hs x (List.mem_cons_of_mem _ hx)) (by simp at *;omega)
  refine⟨o',?_⟩;have ec:=akm (abb h hr) aru;have ej:=aj4 (h.room r hr).2.1 (abb h hr);have h6:=(h.room r hr).2.1;have hc:((r.map wd).map D.str).length<=capS:=by rw[List.length_map,List.length_map];exact abm (by omega)
  have hc2:(xs.map D.str).length < capS:=by
   rw[List.length_map];have:xs.length<=10:=by omega
   exact Nat.lt_of_le_of_lt this (by decide)
  have e:xs++(r::rs).map rowS=xs++[rowS r]++rs.map rowS:=by simp
  rw[e,<-ih];show forD (gf 2) ou (.tup (r.map D.int)::hDs rs) _=_;rw[my];rw[List.map_append];generalize (r.map wd).map D.str=TT at *;generalize r.map D.int=RR at *;generalize xs.map D.str=XX at *;simp[ou,mSM,ec,ej,hc,hc2]
theorem aeu:mz [.val (hD qv)]=some (.ok (.v (.str (txS qv))),[.val (hD qv)]):=by
 have hm:=h.most;obtain⟨o',e⟩:=adf h (.val (hD qv)) qv [] .emp (fun _ z=>z) (by simpa using hm)
 have ej:=join_rows h;rw[List.nil_append] at e;simp only[List.map_nil] at e;generalize (qv.map rowS).map D.str=TT at *;simp only[hD] at *;generalize hDs qv=hh at *;simp[mz,abf,mSM,e,ej]
end
theorem atg{m w:Int}(m2:m<=10)(w2:w<=6){qv:LL9}(h:HouseOk m w qv):Hw qv :=
 ⟨h.one,by have:=h.most;omega,fun r hr=>⟨(h.room r hr).1,by have:=(h.room r hr).2.1;omega,(h.room r hr).2.2⟩⟩
def TOk(n:Nat)(x:Str):Prop:=x.length<=n/\∀y∈x.cps.toList,y < 128
theorem TOk.ok{n:Nat}{x:Str}(h:TOk n x)(k:Nat):okD k (.str x)=true:=by
 have z:PyData.strOk x=true:=by
  show x.cps.all (fun x=>decide (x < 0x110000))=true
  rw[Array.all_eq_true'];intro y hy;have:=h.2 y (by simpa using hy)
  exact decide_eq_true (by omega)
 cases k <;> exact z
theorem TOk.mono{n m:Nat}{x:Str}(h:TOk n x)(hm:n<=m):TOk m x:=⟨Nat.le_trans h.1 hm,h.2⟩
theorem apz{c y:Nat}:∀{l:List (List Nat)} {p:List Nat},p∈l->y∈p->y∈jl c l
 | [],_,h,_=>by cases h
 | [x],p,h,hy=>by rw[List.mem_singleton.mp h] at hy;exact hy
 | x::z::r,p,h,hy=>by
  show y∈x++c::jl c (z::r);rcases List.mem_cons.mp h with rfl | h
  ·exact List.mem_append_left _ hy
  ·exact List.mem_append_right _ (List.mem_cons_of_mem _ (apz h hy))
theorem aax{n c:Nat}{x p:Str}(h:TOk n x)(hp:p∈Txt.split x ⟨#[c]⟩):TOk n p:=by
 refine⟨Nat.le_trans (PyProof.Rows.part_short hp) h.1,fun y hy=>h.2 y ?_⟩
 have e:=StrLaws.join_split x ⟨#[c]⟩;rw[<-e,aa8];exact apz (List.mem_map.mpr ⟨p,hp,rfl⟩) hy
def sps(x:Str):List Str:=Txt.split x (Str.ofString "\x20")
def nls(x:Str):List Str:=Txt.split x (Str.ofString "\n")
def goodW(m:Int)(x:Str):Bool:=match tabAt tab_WRITTEN_DOORS x with
 | some i=>decide (i < m)
 | none=>false
def rowB(m:Int)(i:Nat)(x:Str):Bool:=decide (i < 10)&&(decide ((sps x).length<=6)&&(sps x).all (goodW m))
def qw(l:List Str):List D:=l.map fun w=>.int ((tabAt tab_WRITTEN_DOORS w).getD 0)
def xq(l:List Str):List D:=l.map fun x=>.tup (qw (sps x))
def ph(m:Int):Nat->List Str->Option Nat
 | _,[]=>none
 | i,x::l=>if rowB m i x=true then ph m (i+1) l else some i
def enA(i:Nat)(l:List D):List D:=l.mapIdx fun j d=>.tup [.int ((i+j:Nat):Int),d]
theorem af2(i:Nat)(d:D)(l:List D):enA i (d::l)=.tup [.int (i:Int),d]::enA (i+1) l:=by
 unfold enA;rw[List.mapIdx_cons]
 congr 1
 congr 1
 funext j d
 rw[show i+(j+1)=i+1+j by omega]
theorem af1(l:List D):abu l=enA 0 l:=by
 unfold abu enA
 congr 1
 funext j d
 rw[Nat.zero_add]
theorem anj(x:Str)(m:Int):fj [.val (.str x),.val (.int m)]=some (.ok (.v (.bl (goodW m x))),[.val (.str x),.val (.int m)]):=by
 unfold goodW;cases e:tabAt tab_WRITTEN_DOORS x with
 | none=>simp[fj,j4,afi,ab3,e]
 | some i=>simp[fj,j4,afi,ab3,e]
theorem als(l:List Str)(hl:l.length<=capS)(m:Int):fc [.val (.lst (l.map D.str)),.val (.int m)]=some (.ok (.v (.bl (decide (l.length<=6)&&l.all (goodW m)))),[.val (.lst (l.map D.str)),.val (.int m)]):=by
 have ec:compD (gf 0) (ret true) ju (l.map D.str) [] [.emp,.val (.int m)]=some (.ok ((l.map (goodW m)).map D.bl),yw .emp (l.map D.str)::[.val (.int m)]):=by
  rw[qx (f:=fun d=>match d with | .str x=>.bl (goodW m x) | _=>.non)]
  ·rw[List.nil_append,List.map_map,List.map_map];rfl
  ·intro d hd;obtain⟨x,hx,rfl⟩:=List.mem_map.mp hd;have e:=anj x m;simp[ju,e]
 have hc:((l.map (goodW m)).map D.bl).length<=capS:=by rw[List.length_map,List.length_map];exact hl
 have ea:gAll (.lst ((l.map (goodW m)).map D.bl))=some (.v (.bl (l.all (goodW m)))):=by
  rw[akg,agx];simp[Function.comp_def]
 have hL:(l.map D.str).length=l.length:=List.length_map ..
 by_cases h6:l.length<=6
 ·have h6':((l.map D.str).length:Int)<=6:=by omega
  rw[decide_eq_true h6,Bool.true_and];generalize (l.map (goodW m)).map D.bl=BB at *;generalize l.map D.str=TT at *;generalize l.all (goodW m)=bb at *;simp[fc,j0,ec,hc,ea,h6']
 ·have h6':¬((l.map D.str).length:Int)<=6:=by omega
  rw[decide_eq_false h6,Bool.false_and];generalize l.map D.str=TT at *;simp[fc,j0,h6']
theorem gSp{x:Str}(h:x.length<=20000):wy (.str x) [.str (Str.ofString "\x20")]=some (.fr ((sps x).map D.str)):=ad0 (by rw[sp32];decide) (Nat.le_trans (show _<=20002 by omega) (by decide))
theorem gNl{x:Str}(h:x.length<=20000):wy (.str x) [.str (Str.ofString "\n")]=some (.fr ((nls x).map D.str)):=ad0 (by rw[nl10];decide) (Nat.le_trans (show _<=20002 by omega) (by decide))
theorem aha{x:Str}(h:x.length<=20000):(sps x).length<=20002:=Nat.le_trans (qz x _) (by omega)
theorem ah4{x:Str}(h:x.length<=20000):(nls x).length<=20002:=Nat.le_trans (qz x _) (by omega)
theorem je{n:Nat}(h:n<=30000):n<=capS:=Nat.le_trans h (by decide)
theorem ad4(l:List Str):(qw l).length=l.length:=List.length_map ..
theorem abe{m:Int}{x:Str}(h:goodW m x=true):∃i,tabAt tab_WRITTEN_DOORS x=some i/\i < m:=by
 unfold goodW at h;split at h
 ·exact⟨_,by assumption,of_decide_eq_true h⟩
 ·cases h
theorem ahl{m:Int}{l:List Str}(h:l.all (goodW m)=true):compD (gf 0) (ret true) aey (l.map D.str) [] [.emp]=some (.ok (qw l),yw .emp (l.map D.str)::[]):=by
 rw[qx (f:=fun d=>match d with | .str x=>.int ((tabAt tab_WRITTEN_DOORS x).getD 0) | _=>.non)]
 ·rw[List.nil_append,List.map_map];rfl
 ·intro d hd;obtain⟨x,hx,rfl⟩:=List.mem_map.mp hd;obtain⟨i,e,_⟩:=abe (List.all_eq_true.mp h x hx);simp[aey,ab3,e]
theorem ahk(T:Sl)(RL:List D)(i:Nat){x:Str}(hx:x.length<=20000)(ys:List D)(hy:ys.length<=30000)(o5:Sl) :
  ∃o,l1_read [T,.val (.lst RL),.own none ys,.val (.int (i:Int)),.val (.str x),o5]=some (if rowB (RL.length:Int) i x=true then .nx else .exc ⟨"NoText", [("at", (i:Int)+1)]⟩,[T,.val (.lst RL),.own none (if rowB (RL.length:Int) i x=true then ys++[.tup (qw (sps x))] else ys),.val (.int (i:Int)),.val (.str x),o]):=by
 have e1:=gSp hx;have hs:=aha hx;have e2:=als (sps x) (je (by omega)) (RL.length:Int)
 have hc2:ys.length < capS:=Nat.lt_of_le_of_lt hy (by decide)
 have hc:(qw (sps x)).length<=capS:=by rw[ad4];exact je (by omega)
 unfold rowB
 by_cases hi:i < 10
 ·have hlt:¬(10:Int)<=(i:Int):=by omega
  refine⟨.val (.lst ((sps x).map D.str)),?_⟩;rw[decide_eq_true hi,Bool.true_and];cases hb:(decide ((sps x).length<=6)&&(sps x).all (goodW (RL.length:Int))) with
  | true =>
   rw[hb] at e2;rw[Bool.and_eq_true] at hb;have e3:=ahl hb.2;rw[if_pos rfl,if_pos rfl];generalize qw (sps x)=DD at *;generalize (sps x).map D.str=TT at *;generalize (i:Int)=ii at *;simp[l1_read,mSM,e1,e2,e3,hlt,hc,hc2]
  | false =>
   rw[hb] at e2;rw[if_neg (by decide),if_neg (by decide)]
   generalize (sps x).map D.str=TT at *;generalize (i:Int)=ii at *;simp[l1_read,mSM,e1,e2,hlt,qj]
 ·have hlt:(10:Int)<=(i:Int):=by omega
  refine⟨.own none ((sps x).map D.str),?_⟩;rw[decide_eq_false hi,Bool.false_and,if_neg (by decide),if_neg (by decide)]
  generalize (sps x).map D.str=TT at *;generalize (i:Int)=ii at *;simp[l1_read,mSM,e1,hlt,qj]
theorem adl(T:Sl)(RL:List D):∀(l:List Str) (i:Nat) (ys:List D) (a3 a4 a5:Sl),(∀x∈l,x.length<=20000)->ys.length+l.length<=30000->∃b2 b3 b4 b5,forD (bTup 2 (wu (gf 3) (wu (gf 4) bNil))) l1_read (enA i (l.map D.str)) [T,.val (.lst RL),.own none ys,a3,a4,a5]=some (match ph (RL.length:Int) i l with | none=>.nx | some k=>.exc ⟨"NoText", [("at", (k:Int)+1)]⟩,[T,.val (.lst RL),b2,b3,b4,b5])/\(ph (RL.length:Int) i l=none->b2=.own none (ys++xq l))
 | [],i,ys,a3,a4,a5,_,_=>⟨_,a3,a4,a5,rfl,fun _=>by simp[xq]⟩
 | x::l,i,ys,a3,a4,a5,hx,hl=>by
  obtain⟨o,t⟩:=ahk T RL i (hx x (List.mem_cons_self ..)) ys (by omega) a5
  rw[List.map_cons,af2,my];unfold ph;have eb:(bTup 2 (wu (gf 3) (wu (gf 4) bNil))) (.tup [.int (i:Int),.str x]) [T,.val (.lst RL),.own none ys,a3,a4,a5]=some [T,.val (.lst RL),.own none ys,.val (.int (i:Int)),.val (.str x),a5]:=rfl;rw[eb];cases hb:rowB (RL.length:Int) i x with
  | true =>
   rw[hb,if_pos rfl,if_pos rfl] at t;obtain⟨b2,b3,b4,b5,e,h2⟩:=adl T RL l (i+1) (ys++[.tup (qw (sps x))]) (.val (.int (i:Int))) (.val (.str x)) o (fun y hy=>hx y (List.mem_cons_of_mem _ hy)) (by simp at *;omega)
   refine⟨b2,b3,b4,b5,?_,fun z =>?_⟩
   ·rw[if_pos rfl];simp only[t];exact e
   ·rw[if_pos rfl] at z;rw[h2 z];simp[xq]
  | false =>
   rw[hb,if_neg (by decide),if_neg (by decide)] at t
   refine⟨.own none ys,.val (.int (i:Int)),.val (.str x),o,?_,fun z =>?_⟩
   ·rw[if_neg (by decide)]
    simp only[t]
   ·rw[if_neg (by decide)] at z
    cases z
theorem alv{t:Str}(ht:t.length<=20000):uz [.val (.str t)]=some (match ph ((nls t).length:Int) 0 (nls t) with | none=>.ok (.v (.tup (xq (nls t)))) | some k=>.exc ⟨"NoText", [("at", (k:Int)+1)]⟩,[.val (.str t)]):=by
 have e1:=gNl ht;have hn:=ah4 ht;obtain⟨b2,b3,b4,b5,e,h2⟩:=adl (.val (.str t)) ((nls t).map D.str) (nls t) 0 [] .emp .emp .emp (fun x hx=>Nat.le_trans (PyProof.Rows.part_short hx) ht) (by simp;omega)
 rw[<-af1,List.length_map] at e;rw[List.length_map] at h2;cases hf:ph ((nls t).length:Int) 0 (nls t) with
 | some k =>
  rw[hf] at e;generalize (nls t).map D.str=TT at *;simp[uz,afr,mSM,isTy,e1,e]
 | none =>
  rw[hf] at e;have:=h2 hf;subst this;rw[List.nil_append] at e;generalize (nls t).map D.str=TT at *;generalize xq (nls t)=RR at *;simp[uz,afr,mSM,isTy,e1,e]
theorem alu{d:D}(h:isTy .str d=false):uz [.val d]=some (.exc ⟨"NoText", [("at", 0)]⟩,[.val d]):=by
 simp[uz,afr,h,qj]
def lu(m:Int):List Str:=(List.range ((if m < 10 then m else 10)+3).toNat).map fun i=>wd (-3+(i:Nat))
theorem an5:(tab_WRITTEN_DOORS.all fun p=>decide (p.1=wd p.2 /\ -3<=p.2/\p.2<=9))=true:=by decide +kernel
theorem akx{x:Str}{i:Int}(h:tabAt tab_WRITTEN_DOORS x=some i):x=wd i /\ -3<=i/\i<=9:=by
 unfold tabAt at h;cases e:tab_WRITTEN_DOORS.find? fun p=>decide (x=p.1) with
 | none=>rw[e] at h;cases h
 | some p =>
  rw[e] at h;have hi:p.2=i:=by simpa using h
  have hx:x=p.1:=by simpa using List.find?_some e
  have:=of_decide_eq_true (List.all_eq_true.mp an5 p (List.mem_of_find?_eq_some e));rw[hi] at this;exact⟨hx.trans this.1,this.2⟩
theorem akc(m:Int)(x:Str):goodW m x=(lu m).any fun y=>decide (y=x):=by
 rw[Bool.eq_iff_iff];constructor
 ·intro h;obtain⟨i,e,hi⟩:=abe h;obtain⟨rfl,h0,h1⟩:=akx e;refine List.any_eq_true.mpr ⟨wd i,List.mem_map.mpr ⟨(i+3).toNat,List.mem_range.mpr ?_,?_⟩,decide_eq_true rfl⟩
  ·split <;> omega
  ·rw[show -3+(((i+3).toNat:Nat):Int)=i by omega]
 ·intro h;obtain⟨y,hy,e⟩:=List.any_eq_true.mp h;have e:=of_decide_eq_true e;subst e;obtain⟨k,hk,rfl⟩:=List.mem_map.mp hy;have hk:=List.mem_range.mp hk;have hb : -3+(k:Int) < (if m < 10 then m else 10):=by omega
  have hb2 : -3+(k:Int)<=9 /\ -3+(k:Int) < m:=by split at hb <;> omega
  have e:=(ada (i := -3+(k:Int)) (by omega) hb2.1).1
  unfold goodW;rw[e];exact decide_eq_true hb2.2
theorem aku{i:Int}(h0 : -3<=i)(h1:i<=9):TOk 2 (wd i):=⟨(ada h0 h1).2.1,fun y hy=>(of_decide_eq_true (List.all_eq_true.mp (ada h0 h1).2.2 y hy)).2.2⟩
theorem aif{m:Int}{x:Str}(h:x∈lu m):TOk 2 x:=by
 obtain⟨k,hk,rfl⟩:=List.mem_map.mp h;have hk:=List.mem_range.mp hk;have hb : -3+(k:Int) < (if m < 10 then m else 10):=by omega
 exact aku (by omega) (by split at hb <;> omega)
theorem apo(i:Int)(h0 : -3<=i)(h1:i<=9):pq [.val (.int i)]=some (.ok (.str (wd i)),[.val (.int i)]):=by
 have e:gStr (.int i)=some (.v (.str (wd i))):=if_pos (by omega)
 simp[pq,e]
theorem ath(m:Int):compD (gf 0) (ret true) pq (ir (-3) ((if m < 10 then m else 10) - -3).toNat) [] [.emp]=some (.ok ((lu m).map D.str),yw .emp (ir (-3) ((if m < 10 then m else 10) - -3).toNat)::[]):=by
 rw[qx (f:=fun d=>match d with | .int i=>.str (wd i) | _=>.non)]
 ·rw[List.nil_append];unfold ir lu;rw[List.map_map,List.map_map,Int.sub_neg];rfl
 ·intro d hd;unfold ir at hd;obtain⟨k,hk,rfl⟩:=List.mem_map.mp hd;have hk:=List.mem_range.mp hk;have hb : -3+(k:Int) < (if m < 10 then m else 10):=by omega
  exact apo _ (by omega) (by split at hb <;> omega)
theorem ang(a b:Str):eqD (.str a) (.str b)=decide (a=b):=by
 show PyData.eqv (.str a) (.str b)=_;unfold PyData.eqv
 by_cases h:a=b <;> simp[h]
theorem ajt{n:Nat}{x:Str}(hx:TOk n x)(m:Int):gIn true (.str x) (.lst ((lu m).map D.str))=some (.v (.bl (!goodW m x))):=by
 have h1:((lu m).map D.str).all (okD 30)=true:=by
  rw[List.all_eq_true];intro d hd;obtain⟨y,hy,rfl⟩:=List.mem_map.mp hd;exact(aif hy).ok 30
 have h2:((lu m).map D.str).any (fun y=>eqD y (.str x))=goodW m x:=by
  rw[akc,List.any_map];exact congrArg (fun f=>(lu m).any f) (funext fun y=>ang y x)
 show(if okD 30 (.str x)&&((lu m).map D.str).all (okD 30) then some (Rv.v (.bl (if true=true then !((lu m).map D.str).any (fun y=>eqD y (.str x)) else ((lu m).map D.str).any (fun y=>eqD y (.str x))))) else none)=_
 rw[hx.ok 30,h1,h2];rfl
theorem aks{n:Nat}{l:List Str}(h:∀x∈l,TOk n x)(m:Int):compD (gf 0) vp vd (l.map D.str) [] [.emp,.own (some 1) ((lu m).map D.str)]=some (.ok ((l.filter fun x => !goodW m x).map D.str),yw .emp (l.map D.str)::[.own (some 1) ((lu m).map D.str)]):=by
 rw[vh (p:=fun d=>match d with | .str x => !goodW m x | _=>false) (f:=id)]
 ·rw[List.nil_append,List.map_id,List.filter_map];rfl
 ·intro d hd;obtain⟨x,hx,rfl⟩:=List.mem_map.mp hd;have e:=ajt (h x hx) m;generalize (lu m).map D.str=GG at *;simp[vp,e]
 ·intro d hd _;simp[vd]
theorem apf{n:Nat}{l:List Str}(h:∀x∈l,TOk n x):gEq true (.lst (l.map D.str)) (.lst [])=some (.v (.bl (!l.isEmpty))):=by
 have h1:okD 30 (.lst (l.map D.str))=true:=by
  show(l.map D.str).all (okD 29)=true;rw[List.all_eq_true];intro d hd;obtain⟨y,hy,rfl⟩:=List.mem_map.mp hd;exact(h y hy).ok 29
 have h2:eqD (.lst (l.map D.str)) (.lst [])=l.isEmpty:=by
  cases l <;> rfl
 unfold gEq;rw[h1,h2];rfl
theorem afw(m:Int):∀l:List Str,(l.filter fun x => !goodW m x).isEmpty=l.all (goodW m)
 | []=>rfl
 | x::l=>by
  rw[List.filter_cons,List.all_cons];cases goodW m x with
  | true=>simpa using afw m l
  | false=>rfl
theorem ap5{i:Int}(h0 : -3<=i)(h1:i<=9):PySem.intText? (wd i)=some i:=by
 have:i = -3∨i = -2∨i = -1∨i=0∨i=1∨i=2∨i=3∨i=4∨i=5∨i=6∨i=7∨i=8∨i=9:=by omega
 rcases this with rfl | rfl | rfl | rfl | rfl | rfl | rfl | rfl | rfl | rfl | rfl | rfl | rfl <;> decide +kernel
theorem aj9{m:Int}{l:List Str}(h:l.all (goodW m)=true):compD (gf 0) (ret true) u5 (l.map D.str) [] [.emp]=some (.ok (qw l),yw .emp (l.map D.str)::[]):=by
 rw[qx (f:=fun d=>match d with | .str x=>.int ((tabAt tab_WRITTEN_DOORS x).getD 0) | _=>.non)]
 ·rw[List.nil_append,List.map_map];rfl
 ·intro d hd;obtain⟨x,hx,rfl⟩:=List.mem_map.mp hd;obtain⟨i,e,_⟩:=abe (List.all_eq_true.mp h x hx);obtain⟨ew,h0,h1⟩:=akx e;have e2:am4 (.str x)=some (.v (.int i)):=by
   show(if x.length<=640 then (PySem.intText? x).map (fun n=>Rv.v (.int n)) else none)=_
   rw[ew,if_pos (Nat.le_trans (aku h0 h1).1 (by decide)),ap5 h0 h1]
   rfl
  simp[u5,e2,e]
theorem agt(T:Sl)(RL:List D)(hR:RL.length<=30000)(i:Nat){x:Str}(hx:TOk 20000 x)(ys:List D)(hy:ys.length<=30000)(o5 o6:Sl) :
  ∃o o',l1__law_read [T,.val (.lst RL),.own none ys,.val (.int (i:Int)),.val (.str x),o5,o6]=some (if rowB (RL.length:Int) i x=true then .nx else .ret (.v (.int ((i:Int)+1))),[T,.val (.lst RL),.own none (if rowB (RL.length:Int) i x=true then ys++[.tup (qw (sps x))] else ys),.val (.int (i:Int)),.val (.str x),o,o']):=by
 have e1:=gSp hx.1;have hs:=aha hx.1;have hm:∀y∈sps x,TOk 20000 y:=fun y hy=>by
  unfold sps at hy;rw[sp32] at hy;exact aax hx hy
 have e0:abg [.int (-3),.int (if (RL.length:Int) < 10 then (RL.length:Int) else 10)]=some (ir (-3) ((if (RL.length:Int) < 10 then (RL.length:Int) else 10) - -3).toNat):=if_pos ⟨by decide,by split <;> omega⟩
 have e2:=ath (RL.length:Int);have e3:=aks hm (RL.length:Int);have e4:=apf (l:=(sps x).filter fun x => !goodW (RL.length:Int) x) fun y hy=>hm y (List.mem_filter.mp hy).1
 rw[afw] at e4;have hc0:((lu (RL.length:Int)).map D.str).length<=capS:=by
  rw[List.length_map];unfold lu;rw[List.length_map,List.length_range];refine je ?_;split <;> omega
 have hc1:(((sps x).filter fun x => !goodW (RL.length:Int) x).map D.str).length<=capS:=by
  rw[List.length_map];exact je (Nat.le_trans (List.length_filter_le ..) (by omega))
 have hc2:ys.length < capS:=Nat.lt_of_le_of_lt hy (by decide)
 have hc:(qw (sps x)).length<=capS:=by rw[ad4];exact je (by omega)
 have hL:((sps x).map D.str).length=(sps x).length:=List.length_map ..
 unfold rowB
 by_cases hi:i < 10
 ·have hlt:¬(9:Int) < (i:Int):=by omega
  rw[decide_eq_true hi,Bool.true_and]
  by_cases h6:(sps x).length<=6
  ·have h6':¬(6:Int) < (((sps x).map D.str).length:Int):=by omega
   rw[decide_eq_true h6,Bool.true_and];cases hb:(sps x).all (goodW (RL.length:Int)) with
   | true =>
    rw[hb] at e4;have e5:=aj9 hb;refine⟨.val (.lst ((sps x).map D.str)),.own none ((lu (RL.length:Int)).map D.str),?_⟩;rw[if_pos rfl,if_pos rfl];generalize ((sps x).filter fun x => !goodW (RL.length:Int) x).map D.str=FF at *
    generalize (lu (RL.length:Int)).map D.str=GG at *;generalize qw (sps x)=DD at *;generalize (sps x).map D.str=TT at *;generalize (i:Int)=ii at *;generalize ir (-3) ((if (RL.length:Int) < 10 then (RL.length:Int) else 10) - -3).toNat=RR at *
    simp[l1__law_read,mSM,e0,e1,e2,e3,e4,e5,hlt,h6',hc,hc0,hc1,hc2]
   | false =>
    rw[hb] at e4;refine⟨.val (.lst ((sps x).map D.str)),.own none ((lu (RL.length:Int)).map D.str),?_⟩;rw[if_neg (by decide),if_neg (by decide)]
    generalize ((sps x).filter fun x => !goodW (RL.length:Int) x).map D.str=FF at *
    generalize (lu (RL.length:Int)).map D.str=GG at *;generalize (sps x).map D.str=TT at *;generalize (i:Int)=ii at *;generalize ir (-3) ((if (RL.length:Int) < 10 then (RL.length:Int) else 10) - -3).toNat=RR at *
    simp[l1__law_read,mSM,e0,e1,e2,e3,e4,hlt,h6',hc0,hc1]
  ·have h6':(6:Int) < (((sps x).map D.str).length:Int):=by omega
   rw[decide_eq_false h6,Bool.false_and,if_neg (by decide),if_neg (by decide)]
   refine⟨.own none ((sps x).map D.str),.own none ((lu (RL.length:Int)).map D.str),?_⟩;generalize (lu (RL.length:Int)).map D.str=GG at *;generalize (sps x).map D.str=TT at *;generalize (i:Int)=ii at *;generalize ir (-3) ((if (RL.length:Int) < 10 then (RL.length:Int) else 10) - -3).toNat=RR at *
   simp[l1__law_read,mSM,e0,e1,e2,hlt,h6',hc0]
 ·have hlt:(9:Int) < (i:Int):=by omega
  rw[decide_eq_false hi,Bool.false_and,if_neg (by decide),if_neg (by decide)]
  refine⟨.own none ((sps x).map D.str),.own none ((lu (RL.length:Int)).map D.str),?_⟩;generalize (lu (RL.length:Int)).map D.str=GG at *;generalize (sps x).map D.str=TT at *;generalize (i:Int)=ii at *;generalize ir (-3) ((if (RL.length:Int) < 10 then (RL.length:Int) else 10) - -3).toNat=RR at *
  simp[l1__law_read,mSM,e0,e1,e2,hlt,hc0]
theorem ab4(T:Sl)(RL:List D)(hR:RL.length<=30000):∀(l:List Str) (i:Nat) (ys:List D) (a3 a4 a5 a6:Sl),(∀x∈l,TOk 20000 x)->ys.length+l.length<=30000->∃b2 b3 b4 b5 b6,forD (bTup 2 (wu (gf 3) (wu (gf 4) bNil))) l1__law_read (enA i (l.map D.str)) [T,.val (.lst RL),.own none ys,a3,a4,a5,a6]=some (match ph (RL.length:Int) i l with | none=>.nx | some k=>.ret (.v (.int ((k:Int)+1))),[T,.val (.lst RL),b2,b3,b4,b5,b6])/\(ph (RL.length:Int) i l=none->b2=.own none (ys++xq l))
 | [],i,ys,a3,a4,a5,a6,_,_=>⟨_,a3,a4,a5,a6,rfl,fun _=>by simp[xq]⟩
 | x::l,i,ys,a3,a4,a5,a6,hx,hl=>by
  obtain⟨o,o',t⟩:=agt T RL hR i (hx x (List.mem_cons_self ..)) ys (by omega) a5 a6
  rw[List.map_cons,af2,my];unfold ph;have eb:(bTup 2 (wu (gf 3) (wu (gf 4) bNil))) (.tup [.int (i:Int),.str x]) [T,.val (.lst RL),.own none ys,a3,a4,a5,a6]=some [T,.val (.lst RL),.own none ys,.val (.int (i:Int)),.val (.str x),a5,a6]:=rfl;rw[eb];cases hb:rowB (RL.length:Int) i x with
  | true =>
   rw[hb,if_pos rfl,if_pos rfl] at t;obtain⟨b2,b3,b4,b5,b6,e,h2⟩:=ab4 T RL hR l (i+1) (ys++[.tup (qw (sps x))]) (.val (.int (i:Int))) (.val (.str x)) o o' (fun y hy=>hx y (List.mem_cons_of_mem _ hy)) (by simp at *;omega)
   refine⟨b2,b3,b4,b5,b6,?_,fun z =>?_⟩
   ·rw[if_pos rfl];simp only[t];exact e
   ·rw[if_pos rfl] at z;rw[h2 z];simp[xq]
  | false =>
   rw[hb,if_neg (by decide),if_neg (by decide)] at t
   refine⟨.own none ys,.val (.int (i:Int)),.val (.str x),o,o',?_,fun z =>?_⟩
   ·rw[if_neg (by decide)]
    simp only[t]
   ·rw[if_neg (by decide)] at z
    cases z
theorem aev{t:Str}(ht:TOk 20000 t):j5 [.val (.str t)]=some (.ok (.v (match ph ((nls t).length:Int) 0 (nls t) with | none=>.tup (xq (nls t)) | some k=>.int ((k:Int)+1))),[.val (.str t)]):=by
 have e1:=gNl ht.1;have hn:=ah4 ht.1;obtain⟨b2,b3,b4,b5,b6,e,h2⟩:=ab4 (.val (.str t)) ((nls t).map D.str) (by rw[List.length_map];omega) (nls t) 0 [] .emp .emp .emp .emp (fun x hx=>by
  unfold nls at hx;rw[nl10] at hx;exact aax ht hx) (by simp;omega)
 rw[<-af1,List.length_map] at e;rw[List.length_map] at h2;cases hf:ph ((nls t).length:Int) 0 (nls t) with
 | some k =>
  rw[hf] at e;generalize (nls t).map D.str=TT at *;simp[j5,yc,mSM,e1,e]
 | none =>
  rw[hf] at e;have:=h2 hf;subst this;rw[List.nil_append] at e;generalize (nls t).map D.str=TT at *;generalize xq (nls t)=RR at *;simp[j5,yc,mSM,e1,e]
def dueT(t:Str):D:=match ph ((nls t).length:Int) 0 (nls t) with
 | none=>.tup [.str "told", .tup (xq (nls t))]
 | some k=>.tup [.str "text", .int ((k:Int)+1)]
theorem aqe{t:Str}(ht:TOk 20000 t):ji [.val (.str t)]=some (.ok (.v (dueT t)),[.val (.str t)]):=by
 have e:=aev ht;unfold dueT;cases hf:ph ((nls t).length:Int) 0 (nls t) with
 | some k =>
  rw[hf] at e;simp only at e;simp[ji,wg,isTy,e]
 | none =>
  rw[hf] at e;simp only at e;generalize xq (nls t)=RR at *;simp[ji,wg,isTy,e]
theorem kind_text(i:Int):ni [.val (.exn "NoText" [("at", i)])]=some (.ok (.v (.str "text")),[.val (.exn "NoText" [("at", i)])]):=by kernel_rfl
theorem amk:("NoText" : Str)∈NS:=List.contains_iff_mem.mp (by decide +kernel)
theorem atr:gEq true (.str "text") (.str "text")=some (.v (.bl false)):=by kernel_rfl
theorem ae2{d:D}{k:Int}(e:uz [.val d]=some (.exc ⟨"NoText", [("at", k)]⟩,[.val d])):f__law_told [.val d]=some (.ok (.v (.tup [.str "text", .int k])),[.val d]):=by
 have k1:=kind_text k;have n1:=amk;have q:=atr;simp[f__law_told,xx,aae,dTry,e,k1,n1,q,ag4,List.lookup]
theorem aln{t:Str}(ht:TOk 20000 t):f__law_told [.val (.str t)]=some (.ok (.v (dueT t)),[.val (.str t)]):=by
 have e:=alv ht.1;unfold dueT;cases hf:ph ((nls t).length:Int) 0 (nls t) with
 | some k =>
  rw[hf] at e;exact ae2 e
 | none =>
  rw[hf] at e;simp only at e;generalize xq (nls t)=RR at *;simp[f__law_told,xx,dTry,e]
theorem aqd(t:Str):okD 30 (dueT t)=true:=by
 unfold dueT;split
 ·show(okD 29 (.str "told")&&((xq (nls t)).all (okD 28)&&true))=true;rw[show okD 29 (.str "told")=true by decide +kernel]
  simp[xq,qw,okD]
 ·show(okD 29 (.str "text")&&(true&&true))=true;rw[show okD 29 (.str "text")=true by decide +kernel]
  rfl
def abn(d:D):Prop:=∃r,f__law_told [.val d]=some (.ok (.v r),[.val d])/\ji [.val d]=some (.ok (.v r),[.val d])/\okD 30 r=true
theorem yr{t:Str}(ht:TOk 20000 t):abn (.str t):=⟨dueT t,aln ht,aqe ht,aqd t⟩
theorem ahg{d:D}(h:isTy .str d=false):abn d:=⟨.tup [.str "text", .int 0],ae2 (alu h),by simp[ji,wg,h],by decide +kernel⟩
theorem agb{l:List D}{k:Int}(h0:0<=k)(h1:k < (l.length:Int)):∃d,atI l k=some d/\d∈l:=by
 refine⟨l[k.toNat]'(by omega),?_,List.getElem_mem _⟩
 unfold atI;rw[amv h0 h1];exact List.getElem?_eq_getElem (by omega)
def SL(n k:Nat)(l:List D):Prop:=∃V:List Str,l=V.map D.str/\V.length<=k/\∀x∈V,TOk n x
section
variable{n k m:Nat}{l l':List D}
theorem SL.len(h:SL n k l):l.length<=k:=by obtain⟨V,rfl,h1,_⟩:=h;rwa[List.length_map]
theorem SL.app(h:SL n k l)(h':SL n m l'):SL n (k+m) (l++l'):=by
 obtain⟨V,rfl,h1,h2⟩:=h;obtain⟨W,rfl,h3,h4⟩:=h';exact⟨V++W,by rw[List.map_append],by rw[List.length_append];omega,fun x hx=>(List.mem_append.mp hx).elim (h2 x) (h4 x)⟩
theorem SL.cut(h:SL n k l)(lo hi:Option Int):SL n k (cutD l lo hi):=by
 obtain⟨V,rfl,h1,h2⟩:=h;refine⟨(V.drop (HT.sIx V.length 0 lo)).take (HT.sIx V.length V.length hi - HT.sIx V.length 0 lo),?_,?_,fun x hx=>h2 x (List.mem_of_mem_drop (List.mem_of_mem_take hx))⟩
 ·unfold cutD;rw[List.length_map,List.map_take,List.map_drop]
 ·rw[List.length_take,List.length_drop];omega
theorem SL.rev(h:SL n k l):SL n k l.reverse:=by
 obtain⟨V,rfl,h1,h2⟩:=h;exact⟨V.reverse,by rw[List.map_reverse],by rwa[List.length_reverse],fun x hx=>h2 x (List.mem_reverse.mp hx)⟩
theorem SL.one{x:Str}(h:TOk n x):SL n 1 [.str x]:=⟨[x],rfl,Nat.le_refl _,fun y hy=>by rw[List.mem_singleton.mp hy];exact h⟩
theorem SL.rep{x:Str}(h:TOk n x):∀{j k:Nat},j<=k->SL n k (List.replicate j [D.str x]).flatten
 | 0,k,_=>⟨[],rfl,Nat.zero_le _,fun _ z=>by cases z⟩
 | j+1,k,hk=>by
  rw[List.replicate_succ,List.flatten_cons];obtain⟨V,e,h1,h2⟩:=(SL.one h).app (SL.rep h (Nat.le_refl j));exact⟨V,e,by omega,h2⟩
theorem SL.mono(h:SL n k l){n' k':Nat}(hn:n<=n')(hk:k<=k'):SL n' k' l:=by
 obtain⟨V,e,h1,h2⟩:=h;exact⟨V,e,by omega,fun x hx=>(h2 x hx).mono hn⟩
theorem SL.at(h:SL n k l){r:Int}(h0:0<=r)(h1:r < (l.length:Int)):∃x,atI l r=some (.str x)/\TOk n x:=by
 obtain⟨d,e,hd⟩:=agb h0 h1;obtain⟨V,rfl,_,h2⟩:=h;obtain⟨x,hx,rfl⟩:=List.mem_map.mp hd;exact⟨x,e,h2 x hx⟩
theorem SL.join(h:SL n k l){c:Nat}(hc:c < 128)(hk:k*n+k<=20000):∃t,gJoin (.str ⟨#[c]⟩) [.lst l]=some (.v (.str t))/\TOk 20000 t/\TOk (k*n+k) t:=by
 obtain⟨V,rfl,h1,h2⟩:=h;have hs:=StrLaws.sumLen_le (B:=n) V fun y hy=>(h2 y hy).1
 have hm:V.length*n<=k*n:=Nat.mul_le_mul_right _ h1;have hs2:(V.map (·.length)).sum+V.length*(⟨#[c]⟩:Str).length<=k*n+k:=by
  have:(⟨#[c]⟩:Str).length=1:=rfl;rw[this];omega
 have hl:=Nat.le_trans (StrLaws.join_length_le ⟨#[c]⟩ V) hs2;have hch:∀y∈(Str.join ⟨#[c]⟩ V).cps.toList,y < 128:=fun y hy=>by
  rcases acz c hy with q | ⟨x,hx,q⟩
  ·omega
  ·exact(h2 x hx).2 y q
 exact⟨_,ac3 (je (by omega)),⟨by omega,hch⟩,hl,hch⟩
theorem SL.ok(h:SL n k l)(hk:k<=30000):l.length<=capS:=je (Nat.le_trans h.len hk)
end
def tokB(n:Nat)(x:Str):Bool:=decide (x.length<=n)&&x.cps.toList.all fun y=>decide (y < 128)
theorem ade{n:Nat}{x:Str}(h:tokB n x=true):TOk n x:=by
 unfold tokB at h;rw[Bool.and_eq_true] at h;exact⟨of_decide_eq_true h.1,fun y hy=>of_decide_eq_true (List.all_eq_true.mp h.2 y hy)⟩
theorem SL.of{n k:Nat}{V:List Str}(h:V.all (tokB n)=true)(hk:V.length<=k):SL n k (V.map D.str):=⟨V,rfl,hk,fun x hx=>ade (List.all_eq_true.mp h x hx)⟩
def oddW:List Str:=["0","9","10","-0","-3","-4","00","01","+1","","a","-","1.0","--1","5","-1","3","door"]
theorem ami:SL 4 18 (oddW.map D.str):=SL.of (by decide +kernel) (by decide)
theorem ajc(P:Int×Int){x:Str}(hx:TOk 18 x):∃t P',f__law_words [.own (some 0) (pen P),.val (.str x)]=some (.ok (.v (.str t)),[.own (some 0) (pen P'),.val (.str x)])/\TOk 780 t:=by
 have e1:=gSp (Nat.le_trans hx.1 (by decide))
 have hW:SL 18 20 ((sps x).map D.str):=⟨sps x,rfl,Nat.le_trans (qz x _) (by have:=hx.1;omega),fun y hy=>by
  unfold sps at hy;rw[sp32] at hy;exact aax hx hy⟩
 have hW1:1<=((sps x).map D.str).length:=by
  rw[List.length_map];exact List.length_pos_iff.mpr (ae8 x _)
 generalize (sps x).map D.str=W at *;have hWl:=hW.len;obtain⟨a,P1,e2,a0,a1⟩:=gr P (W.length:Int) (by omega) (by omega)
 obtain⟨r,P2,e3,r0,r1⟩:=gr P1 18 (by decide) (by decide)
 obtain⟨w,e4,hw⟩:=ami.at r0 (show r < ((oddW.map D.str).length:Int) from r1)
 have hw:=hw.mono (show 4<=18 by decide)
 have ho:oddW.map D.str=[.str "0", .str "9", .str "10", .str "-0", .str "-3", .str "-4", .str "00", .str "01", .str "+1", .str "", .str "a", .str "-", .str "1.0", .str "--1", .str "5", .str "-1", .str "3", .str "door"]:=rfl;rw[ho] at e4;have c1:=hW.cut none (some a);have c2:=hW.cut (some (a+1)) none;have c3:=hW.cut none (some (a+1));have c4:=hW.cut (some a) none;have hr7:((7:Int) - (W.length:Int)).natAbs < 9223372036854775808:=by omega
 have c5:=SL.rep hw (show((7:Int) - (W.length:Int)).toNat<=7 by omega)
 have hr8:((7:Int) - (W.length:Int)).toNat<=capS:=je (by omega)
 obtain⟨b,P3,e5,b0,b1⟩:=gr P2 5 (by decide) (by decide)
 generalize q1:cutD W none (some a)=V1 at *;generalize q2:cutD W (some (a+1)) none=V2 at *;generalize q3:cutD W none (some (a+1))=V3 at *;generalize q4:cutD W (some a) none=V4 at *;generalize q5:(List.replicate ((7:Int) - (W.length:Int)).toNat [D.str w]).flatten=V5 at *;have one:=SL.one hw;have l1:=c1.len;have l2:=c2.len;have l3:=c3.len;have l4:=c4.len;have l5:=c5.len;have f:∀{j:Nat},j<=100->j<=capS:=fun h=>je (by omega)
 have g1:V1.length+V2.length<=capS:=f (by omega)
 have g2:V3.length+V4.length<=capS:=f (by omega)
 have g3:V1.length+1<=capS:=f (by omega)
 have g4:V1.length+1+V4.length<=capS:=f (by omega)
 have g5:W.length+V5.length<=capS:=f (by omega)
 have g6:V1.length+1+V2.length<=capS:=f (by omega)
 have all:∀d∈[D.lst (V1++V2),.lst (V3++V4),.lst (V1++[.str w]++V4),.lst (W++V5),.lst (V1++[.str w]++V2)],∃A,d=.lst A/\SL 18 41 A:=fun d hd=>by
  simp only[List.mem_cons,List.not_mem_nil,or_false] at hd;rcases hd with rfl | rfl | rfl | rfl | rfl
  ·exact⟨_,rfl,(c1.app c2).mono (by decide) (by decide)⟩
  ·exact⟨_,rfl,(c3.app c4).mono (by decide) (by decide)⟩
  ·exact⟨_,rfl,((c1.app one).app c4).mono (by decide) (by decide)⟩
  ·exact⟨_,rfl,(hW.app c5).mono (by decide) (by decide)⟩
  ·exact⟨_,rfl,((c1.app one).app c2).mono (by decide) (by decide)⟩
 obtain⟨d,e6,hd⟩:=agb b0 (show b < (([D.lst (V1++V2),.lst (V3++V4),.lst (V1++[.str w]++V4),.lst (W++V5),.lst (V1++[.str w]++V2)].length:Nat):Int) from b1)
 obtain⟨A,rfl,hA⟩:=all d hd;obtain⟨t,e7,_,ht⟩:=hA.join (c:=32) (by decide) (by decide)
 rw[<-sp32] at e7;refine⟨t,P3,?_,ht.mono (by decide)⟩
 simp only[List.append_assoc,List.cons_append,List.nil_append] at e6;have gm:gMul (.lst [.str w]) (.int (7 - (W.length:Int)))=some (.fr V5):=by
  rw[yx,if_pos ⟨hr7,by rw[List.length_singleton,Nat.one_mul];exact hr8⟩,q5]
 simp[-yx,f__law_words,aaf,mSM,e1,e2,e3,e4,e5,e6,e7,q1,q2,q3,q4,gm,g1,g2,g3,g4,g5,g6]
def amo:List Str:=["","0","-1\x20-1","\x20","9"]
theorem ajw:SL 18 5 (amo.map D.str):=SL.of (by decide +kernel) (by decide)
theorem ahb(P:Int×Int){R:List D}(hR:SL 18 12 R)(h1:1<=R.length):∃t P',f__law_spoilt [.own (some 0) (pen P),.val (.lst R)]=some (.ok (.v (.str t)),[.own (some 0) (pen P'),.val (.lst R)])/\TOk 20000 t:=by
 have hRl:=hR.len;obtain⟨a,P1,e1,a0,a1⟩:=gr P (R.length:Int) (by omega) (by omega)
 obtain⟨b,P2,e2,b0,b1⟩:=gr P1 (R.length:Int) (by omega) (by omega)
 obtain⟨r,P3,e3,r0,r1⟩:=gr P2 5 (by decide) (by decide)
 obtain⟨w,e4,hw⟩:=ajw.at r0 (show r < ((amo.map D.str).length:Int) from r1)
 have ho:amo.map D.str=[.str "", .str "0", .str "-1\x20-1", .str "\x20", .str "9"]:=rfl;rw[ho] at e4;obtain⟨y,e5,hy⟩:=hR.at b0 b1;obtain⟨x,e6,hx⟩:=hR.at a0 a1;obtain⟨c,P4,e7,c0,c1⟩:=gr P3 16 (by decide) (by decide)
 obtain⟨u,P5,e8,hu⟩:=ajc P4 hx;have k1:=hR.cut none (some a);have k2:=hR.cut (some (a+1)) none;have k3:=hR.cut none (some (a+1));have k4:=hR.cut (some a) none;have hr7:((11:Int) - (R.length:Int)).natAbs < 9223372036854775808:=by omega
 have hm1:TOk 18 "-1" := ade (by decide +kernel)
 have k5:=SL.rep hm1 (show((11:Int) - (R.length:Int)).toNat<=11 by omega)
 have hr8:((11:Int) - (R.length:Int)).toNat<=capS:=je (by omega)
 have k6:=hR.rev;have emp:SL 18 1 [.str ""]:=SL.one (ade (by decide +kernel))
 generalize q1:cutD R none (some a)=V1 at *;generalize q2:cutD R (some (a+1)) none=V2 at *;generalize q3:cutD R none (some (a+1))=V3 at *;generalize q4:cutD R (some a) none=V4 at *;generalize q5:(List.replicate ((11:Int) - (R.length:Int)).toNat [D.str "-1"]).flatten=V5 at *;generalize q6:R.reverse=V6 at *;have l1:=k1.len;have l2:=k2.len;have l3:=k3.len;have l4:=k4.len;have l5:=k5.len;have f:∀{j:Nat},j<=100->j<=capS:=fun h=>je (by omega)
 have g1:V1.length+V2.length<=capS:=f (by omega)
 have g2:V3.length+V4.length<=capS:=f (by omega)
 have g3:V1.length+1<=capS:=f (by omega)
 have g4:V1.length+1+V4.length<=capS:=f (by omega)
 have g5:R.length+V5.length<=capS:=f (by omega)
 have g6:V1.length+1+V2.length<=capS:=f (by omega)
 have g7:R.length+1<=capS:=f (by omega)
 have gm:gMul (.lst [.str "-1"]) (.int (11 - (R.length:Int)))=some (.fr V5):=by
  rw[yx,if_pos ⟨hr7,by rw[List.length_singleton,Nat.one_mul];exact hr8⟩,q5]
 by_cases h8:c < 8
 ·have all:∀d∈[D.lst (V1++V2),.lst (V3++V4),.lst (V1++[.str y]++V2),.lst (R++[.str ""]),.lst (V1++[.str w]++V4),.lst (R++V5),.lst V6,.lst V1],∃A,d=.lst A/\SL 18 25 A:=fun d hd=>by
   simp only[List.mem_cons,List.not_mem_nil,or_false] at hd;rcases hd with rfl | rfl | rfl | rfl | rfl | rfl | rfl | rfl
   ·exact⟨_,rfl,(k1.app k2).mono (by decide) (by decide)⟩
   ·exact⟨_,rfl,(k3.app k4).mono (by decide) (by decide)⟩
   ·exact⟨_,rfl,((k1.app (SL.one hy)).app k2).mono (by decide) (by decide)⟩
   ·exact⟨_,rfl,(hR.app emp).mono (by decide) (by decide)⟩
   ·exact⟨_,rfl,((k1.app (SL.one hw)).app k4).mono (by decide) (by decide)⟩
   ·exact⟨_,rfl,(hR.app k5).mono (by decide) (by decide)⟩
   ·exact⟨_,rfl,k6.mono (by decide) (by decide)⟩
   ·exact⟨_,rfl,k1.mono (by decide) (by decide)⟩
  obtain⟨d,e9,hd⟩:=agb c0 (show c < (([D.lst (V1++V2),.lst (V3++V4),.lst (V1++[.str y]++V2),.lst (R++[.str ""]),.lst (V1++[.str w]++V4),.lst (R++V5),.lst V6,.lst V1].length:Nat):Int) from h8)
  obtain⟨A,rfl,hA⟩:=all d hd;obtain⟨t,e10,ht,_⟩:=hA.join (c:=10) (by decide) (by decide)
  rw[<-nl10] at e10;refine⟨t,P4,?_,ht⟩;simp only[List.append_assoc,List.cons_append,List.nil_append] at e9;simp[-yx,f__law_spoilt,su,mSM,e1,e2,e3,e4,e5,e7,h8,e9,e10,q1,q2,q3,q4,q6,gm,g1,g2,g3,g4,g5,g6,g7]
 ·have hA:SL 780 25 (V1++[.str u]++V2):=((k1.mono (show 18<=780 by decide) (Nat.le_refl _)).app (SL.one hu)).app (k2.mono (show 18<=780 by decide) (Nat.le_refl _))
  obtain⟨t,e10,ht,_⟩:=hA.join (c:=10) (by decide) (by decide)
  rw[<-nl10] at e10;refine⟨t,P5,?_,ht⟩;simp only[List.append_assoc,List.cons_append,List.nil_append] at e10;simp[-yx,f__law_spoilt,su,mSM,e1,e2,e3,e4,e5,e6,e7,e8,h8,e10,q1,q2,q3,q4,q6,gm,g1,g2,g3,g4,g5,g6,g7]
theorem akv{qv:LL9}(h:Hw qv):TOk 190 (txS qv):=⟨an4 h,fun y hy=>by
 unfold txS at hy;rw[nl10] at hy;rcases acz 10 hy with q | ⟨x,hx,q⟩
 ·omega
 ·obtain⟨r,hr,rfl⟩:=List.mem_map.mp hx;exact(aek (h.room r hr).2.1 (abb h hr) y q).2⟩
theorem alm{qv:LL9}(h:Hw qv):SL 18 12 ((nls (txS qv)).map D.str)/\1<=((nls (txS qv)).map D.str).length:=by
 have e:nls (txS qv)=qv.map rowS:=by
  unfold nls txS;rw[nl10];refine agj 10 (fun z =>?_) fun x hx =>?_
  ·rw[List.map_eq_nil_iff] at z;have:=h.one;subst z;exact absurd this (by decide)
  ·obtain⟨r,hr,rfl⟩:=List.mem_map.mp hx;intro z;exact(aek (h.room r hr).2.1 (abb h hr) 10 z).1 rfl
 have hm:=h.most;have ho:=h.one;refine⟨⟨_,rfl,by rw[e,List.length_map];omega,fun x hx =>?_⟩,by rw[e,List.length_map,List.length_map];exact ho⟩
 rw[e] at hx;obtain⟨r,hr,rfl⟩:=List.mem_map.mp hx;exact⟨ahi (h.room r hr).2.1 (abb h hr),fun y hy=>(aek (h.room r hr).2.1 (abb h hr) y hy).2⟩
theorem agi{qv:LL9}(h:Hw qv)(P:Int×Int):∃ys P' o,compD (gf 0) (ret true) af4 (ir 0 5) [] [.emp,.val (.str (txS qv)),.own (some 2) (pen P)]=some (.ok ys,[o,.val (.str (txS qv)),.own (some 2) (pen P')])/\ys.length=5/\∀d∈ys,abn d:=by
 have comp:=abk (b:=gf 0) (mc:=ret true) (me:=af4) (fun j ys ρ=>∃P o,ρ=[o,.val (.str (txS qv)),.own (some 2) (pen P)]/\ys.length=j/\∀d∈ys,abn d)
  (l:=ir 0 5) (ys:=[]) (ρ:=[.emp,.val (.str (txS qv)),.own (some 2) (pen P)]) 0 ⟨P,.emp,rfl,rfl,fun _ z=>by cases z⟩ ?_
 ·obtain⟨ys,ρ',e,P',o,rfl,hl,hs⟩:=comp;exact⟨ys,P',o,e,hl,hs⟩
 ·rintro j d ys ρ hd ⟨P,o,rfl,hl,hs⟩
  obtain⟨hR,h1⟩:=alm h;have e1:=gNl (Nat.le_trans (akv h).1 (by decide))
  obtain⟨t,P',e,ht⟩:=ahb P hR h1;refine⟨_,_,true,rfl,rfl,.inr ⟨rfl,.str t,[.val d,.val (.str (txS qv)),.own (some 2) (pen P')],?_,P',_,rfl,by simp[hl],fun x hx =>?_⟩⟩
  ·generalize (nls (txS qv)).map D.str=RR at *;simp[af4,mSM,e1,e]
  ·rcases List.mem_append.mp hx with z | z
   ·exact hs x z
   ·rw[List.mem_singleton.mp z];exact yr ht
theorem ajs(P:Int×Int):∃d P',f__law_odd [.own (some 0) (pen P)]=some (.ok (.v d),[.own (some 0) (pen P')])/\abn d:=by
 obtain⟨r,P',e,h0,h1⟩:=gr P 16 (by decide) (by decide)
 have big:fPow 10 30=some 1000000000000000000000000000000:=by decide +kernel
 obtain⟨d,e2,hd⟩:=agb (l:=[.non,.bl true,.bl false,.int (-1),.str "1", .str "", .tup [],.lst [],.tup [.int 0],.lst [.int 0],.dct [(Sum.inr "a", .int 1)],.tup [.int 0,.int 1],.int 1000000000000000000000000000000,.tup [.tup [.int 0]],.str "ab", .tup [.tup [.int (-1)],.tup [.int 0,.int 1]]]) h0 h1;refine⟨d,P',?_,?_⟩
 ·have hc:(16:Nat)<=capS:=by decide
  simp[f__law_odd,aca,e,big,e2,hc]
 ·have tk:∀{x:Str},tokB 2 x=true->abn (.str x):=fun hx=>yr ((ade hx).mono (by decide))
  simp only[List.mem_cons,List.not_mem_nil,or_false] at hd;rcases hd with rfl | rfl | rfl | rfl | rfl | rfl | rfl | rfl | rfl | rfl | rfl | rfl | rfl | rfl | rfl | rfl
  all_goals first
   | exact ahg rfl
   | exact tk (by decide +kernel)
theorem ata(S:Sl){d:D}(h:abn d)(a2 a3 a4:Sl):afm [S,.val d,a2,a3,a4]=some (.nx,[S,.val d,a2,a3,a4]):=by
 obtain⟨r,e1,e2,hr⟩:=h;have q:=afs hr true;simp[afm,e1,e2,q]
theorem as9(S:Sl){d:D}(h:abn d)(a1 a2 a3:Sl):afl [S,a1,a2,a3,.val d]=some (.nx,[S,a1,a2,a3,.val d]):=by
 obtain⟨r,e1,e2,hr⟩:=h;have q:=afs hr true;simp[afl,e1,e2,q]
theorem aps(S:Sl)(a2 a3 a4:Sl):∀(l:List D) (o:Sl),(∀d∈l,abn d)->∃o',forD (gf 1) afm l [S,o,a2,a3,a4]=some (.nx,[S,o',a2,a3,a4])
 | [],o,_=>⟨o,rfl⟩
 | d::r,o,h=>by
  obtain⟨o',z⟩:=aps S a2 a3 a4 r (.val d) fun x hx=>h x (List.mem_cons_of_mem _ hx)
  have t:=ata S (h d (List.mem_cons_self ..)) a2 a3 a4;exact⟨o',by rw[my];simp[t,z]⟩
theorem apr(S:Sl)(a1 a2 a3:Sl):∀(l:List D) (o:Sl),(∀d∈l,abn d)->∃o',forD (gf 4) afl l [S,a1,a2,a3,o]=some (.nx,[S,a1,a2,a3,o'])
 | [],o,_=>⟨o,rfl⟩
 | d::r,o,h=>by
  obtain⟨o',z⟩:=apr S a1 a2 a3 r (.val d) fun x hx=>h x (List.mem_cons_of_mem _ hx)
  have t:=as9 S (h d (List.mem_cons_self ..)) a1 a2 a3;exact⟨o',by rw[my];simp[t,z]⟩
theorem as8(S:D)(n:Int)(a1 a3 a4:Sl):∃b1 b3 b4,l3_law [.val S,a1,.val (.int n),a3,a4]=some (.nx,[.val S,b1,.val (.int n),b3,b4]):=by
 obtain⟨P,e0⟩:=ajj n;obtain⟨r,P1,e1,r0,r1⟩:=gr P 3 (by decide) (by decide)
 have ei:∃m:Int,atI [D.int 3,.int 6,.int 10] r=some (.int m)/\1<=m/\m<=10:=by
  have:r=0∨r=1∨r=2:=by omega
  rcases this with rfl | rfl | rfl
  ·exact⟨3,rfl,by decide,by decide⟩
  ·exact⟨6,rfl,by decide,by decide⟩
  ·exact⟨10,rfl,by decide,by decide⟩
 obtain⟨m,em,m1,m2⟩:=ei;obtain⟨qv,P2,e2,hk⟩:=agu P1 m 6 m1 m2 (by decide) (by decide)
 have h:=atg m2 (by decide) hk
 have e3:=aeu h;obtain⟨ys,P3,o,e4,hl,hs⟩:=agi h P2;obtain⟨d,P4,e5,hd⟩:=ajs P3;have ht:=yr ((akv h).mono (show 190<=20000 by decide))
 have hc:ys.length<=capS:=by rw[hl];decide
 have hc2:ys.length+2<=capS:=by rw[hl];decide
 obtain⟨o',z⟩:=apr (.val S) (.val (.str (txS qv))) (.val (.int n)) (.own none (pen P4)) (ys++[d,.str (txS qv)]) a4 fun x hx=>by
  rcases List.mem_append.mp hx with q | q
  ·exact hs x q
  ·simp only[List.mem_cons,List.not_mem_nil,or_false] at q;rcases q with rfl | rfl
   ·exact hd
   ·exact ht
 refine⟨.val (.str (txS qv)),.own none (pen P4),o',?_⟩;have e8:yh [.int 5]=some (ir 0 5):=rfl;generalize ir 0 5=R5 at *;generalize txS qv=tx at *;simp only[hD] at *;generalize hDs qv=hh at *;simp[l3_law,e0,e1,em,e2,e3,e4,e5,e8,hc,hc2,z]
theorem apq(S:D):∀(ns:List Int) (a1 q a3 a4:Sl),∃ρ,forD (gf 2) l3_law (ns.map D.int) [.val S,a1,q,a3,a4]=some (.nx,.val S::ρ)
 | [],a1,q,a3,a4=>⟨_,rfl⟩
 | n::r,a1,q,a3,a4=>by
  obtain⟨b1,b3,b4,z⟩:=as8 S n a1 a3 a4;obtain⟨ρ,z2⟩:=apq S r b1 (.val (.int n)) b3 b4;exact⟨ρ,by rw[List.map_cons,my];simp[z,z2]⟩
theorem aj1:ae1 aio:=fun ns hn=>by
 obtain⟨n0,e0⟩:=aiz ns 0 (by decide)
 obtain⟨ms,em,hm⟩:=aiv ns (some 1) (some 4);have hc:1+ms.length<=capS:=abm (by omega)
 have g1:aig (.str "-1\n") (.int 10)=some (.v (.str (Txt.mul "-1\n" 10))):=by
  have:∀(x:Str) (n:Int),aig (.str x) (.int n)=if 0<=n/\n<=100/\x.length<=100 then some (.v (.str (Txt.mul x n))) else none:=fun _ _=>rfl
  rw[this,if_pos ⟨by decide,by decide,by decide +kernel⟩]
 have g2:gAdd (.str (Txt.mul "-1\n" 10)) (.str "-1")=some (.v (.str (Txt.mul "-1\n" 10 ++ "-1"))):=by
  have:∀(x y:Str),gAdd (.str x) (.str y)=if x.length+y.length<=capS then some (.v (.str (x++y))) else none:=fun _ _=>rfl
  rw[this,if_pos (by decide +kernel)]
 have tk:∀{x:Str},tokB 100 x=true->abn (.str x):=fun hx=>yr ((ade hx).mono (by decide))
 have tb:tokB 100 (Txt.mul "-1\n" 10 ++ "-1")=true:=by decide +kernel
 generalize Txt.mul "-1\n" 10 ++ "-1" = L11 at *;generalize Txt.mul "-1\n" 10=L10 at *;obtain⟨o1,z⟩:=aps (.val (.kst (ns.map D.int))) .emp .emp .emp [.str "", .str "\n", .str "-1", .str "0", .str "1", .str "0\n1", .str "0\n2", .str "-1\x20", .str "\x20-1", .str L11,.non,.int 0,.lst [.str "-1"],.tup [.tup [.int (-1)]]] .emp fun d hd=>by
  simp only[List.mem_cons,List.not_mem_nil,or_false] at hd;rcases hd with rfl | rfl | rfl | rfl | rfl | rfl | rfl | rfl | rfl | rfl | rfl | rfl | rfl | rfl
  all_goals first
   | exact ahg rfl
   | exact tk tb
   | exact tk (by decide +kernel)
 obtain⟨ρ,q⟩:=apq (.kst (ns.map D.int)) (n0::ms) o1 .emp .emp .emp;simp only[List.map_cons] at q;have hc14:(14:Nat)<=capS:=by decide
 simp[aio,ap6,g1,g2,z,e0,em,hc,q,hc14]
end My
set_option maxHeartbeats 0
namespace My
open PySem L2 Mn Dn
def top(i:Nat):Stmt:=PySem.Challenge.pw_turnarrows_k74_texts_of_no_house.main.body.getD i (.Pass ⟨0,0,0,0⟩)
abbrev jz:Stmt:=top 18
theorem yp:FnScope ["word","rooms_many"] ["word","rooms_many"] (ao jz):=mkSc rfl rfl rfl rfl (by decide +kernel)
abbrev jy:Stmt:=top 19
theorem yo:FnScope ["words","rooms_many"] ["words","rooms_many"] (ao jy):=mkSc rfl rfl rfl rfl (by decide +kernel)
abbrev ae9:Stmt:=top 20
theorem jj:FnScope ["text","rows","house","at","row","words"] ["text"] (ao ae9):=mkSc rfl rfl rfl rfl (by decide +kernel)
abbrev xn:Stmt:=top 22
theorem adk:FnScope ["script","k"] ["script","k"] (ao xn):=mkSc rfl rfl rfl rfl (by decide +kernel)
abbrev zm:Stmt:=top 23
theorem aaz:FnScope ["cell","left"] ["cell"] (ao zm):=mkSc rfl rfl rfl rfl (by decide +kernel)
abbrev xm:Stmt:=top 24
theorem kh:FnScope ["pen","many","left","found","stir"] ["pen","many"] (ao xm):=mkSc rfl rfl rfl rfl (by decide +kernel)
abbrev nq:Stmt:=top 25
theorem yq:FnScope ["thing"] ["thing"] (ao nq):=mkSc rfl rfl rfl rfl (by decide +kernel)
abbrev zp:Stmt:=top 26
theorem aa0:FnScope ["pen","some"] ["pen"] (ao zp):=mkSc rfl rfl rfl rfl (by decide +kernel)
abbrev uo:Stmt:=top 27
theorem jh:FnScope ["pen","most","doors","many","gates","house","room","wide"] ["pen","most","doors"] (ao uo):=mkSc rfl rfl rfl rfl (by decide +kernel)
abbrev rn:Stmt:=top 28
theorem dz:FnScope ["e","marks","words"] ["e"] (ao rn):=mkSc rfl rfl rfl rfl (by decide +kernel)
abbrev xg:Stmt:=top 29
theorem ul:FnScope ["house","rows","doors"] ["house"] (ao xg):=mkSc rfl rfl rfl rfl (by decide +kernel)
abbrev xj:Stmt:=top 30
theorem jf:FnScope ["text","rows","house","at","row","words","good"] ["text"] (ao xj):=mkSc rfl rfl rfl rfl (by decide +kernel)
abbrev zq:Stmt:=top 31
theorem aa1:FnScope ["text","found"] ["text"] (ao zq):=mkSc rfl rfl rfl rfl (by decide +kernel)
abbrev xf:Stmt:=top 32
theorem aab:FnScope ["text","e"] ["text"] (ao xf):=mkSc rfl rfl rfl rfl (by decide +kernel)
abbrev um:Stmt:=top 33
theorem g8:FnScope ["pen","row","words","at","odd","word","some"] ["pen","row"] (ao um):=mkSc rfl rfl rfl rfl (by decide +kernel)
abbrev rm:Stmt:=top 34
theorem gk:FnScope ["pen","rows","at","to","more","some","way"] ["pen","rows"] (ao rm):=mkSc rfl rfl rfl rfl (by decide +kernel)
abbrev acj:Stmt:=top 35
theorem abx:FnScope ["script","text","cell","pen","other"] ["script"] (ao acj):=mkSc rfl rfl rfl rfl (by decide +kernel)
theorem lnS{k:Nat}{us:List Value}(h:us.length=k+1):∃a r,us=a::r/\r.length=k:=by
 cases us with
 | nil=>cases h
 | cons a r=>exact⟨a,r,rfl,Nat.succ.inj h⟩
theorem ln1{us:List Value}(h:us.length=1):∃a0,us=[a0]:=by
 obtain⟨a,r,rfl,h'⟩:=lnS h;cases List.eq_nil_of_length_eq_zero h';exact⟨a,rfl⟩
theorem ln2{us:List Value}(h:us.length=2):∃a0 a1,us=[a0,a1]:=by
 obtain⟨a,r,rfl,h'⟩:=lnS h;obtain⟨_,rfl⟩:=ln1 h';exact⟨_,_,rfl⟩
theorem ln3{us:List Value}(h:us.length=3):∃a0 a1 a2,us=[a0,a1,a2]:=by
 obtain⟨a,r,rfl,h'⟩:=lnS h;obtain⟨_,_,rfl⟩:=ln2 h';exact⟨_,_,_,rfl⟩
abbrev qm:Stmt:=ank (top 12)
theorem abw:FnScope ["self","at"] ["self","at"] (ao qm):=mkSc rfl rfl rfl rfl (by decide +kernel)
structure Txt (K:Fg9) (mg:Str->Option Value):Prop where
 c_MOST_ROOMS:∃t,mg "MOST_ROOMS" = some (.int 10 t)
 c_MOST_DOORS:∃t,mg "MOST_DOORS" = some (.int 6 t)
 z_ValueError:mg "ValueError" = none
 z_all:mg "all" = none
 z_bool:mg "bool" = none
 z_divmod:mg "divmod" = none
 z_enumerate:mg "enumerate" = none
 z_int:mg "int" = none
 z_isinstance:mg "isinstance" = none
 z_len:mg "len" = none
 z_max:mg "max" = none
 z_min:mg "min" = none
 z_range:mg "range" = none
 z_str:mg "str" = none
 z_tuple:mg "tuple" = none
 t_WRITTEN_DOORS:TabT K mg "WRITTEN_DOORS" tab_WRITTEN_DOORS
 sub:acg K NS=true
 cat:CatT K mg
 k_ArrowError:ClsT K mg "ArrowError"
 k_NoArrows:ClsT K mg "NoArrows"
 k_NoRoom:ClsT K mg "NoRoom"
 k_NoWalkers:ClsT K mg "NoWalkers"
 k_NotShut:ClsT K mg "NotShut"
 k_NeverBack:ClsT K mg "NeverBack"
 k_NoTour:ClsT K mg "NoTour"
 k_NoRow:ClsT K mg "NoRow"
 k_NoHouse:ClsT K mg "NoHouse"
 k_NotOpen:ClsT K mg "NotOpen"
 k_Nobody:ClsT K mg "Nobody"
 k_NoText:ClsT K mg "NoText"
 k_TooGreat:ClsT K mg "TooGreat"
 r_ArrowError:RaiT K mg "ArrowError"
 r_NoArrows:RaiT K mg "NoArrows"
 r_NoRoom:RaiT K mg "NoRoom"
 r_NoWalkers:RaiT K mg "NoWalkers"
 r_NotShut:RaiT K mg "NotShut"
 r_NeverBack:RaiT K mg "NeverBack"
 r_NoTour:RaiT K mg "NoTour"
 r_NoRow:RaiT K mg "NoRow"
 i_NoText:IniT K mg "NoText" "at" "NoText.__init__" qm
 n_at:ana K ["NoHouse","Nobody","NoText"] "at" = true
section
variable(P:Program)(w:World)(K:Fg9)(mg:Str->Option Value)(base:Heap)
abbrev Dd0:Prop:=Dfn P w K mg base "is_written_door" ["word","rooms_many"] 1 (spOf K 2 fj)
abbrev Dd1:Prop:=Dfn P w K mg base "is_written_room" ["words","rooms_many"] 2 (spOf K 2 fc)
abbrev Dd5:Prop:=Dfn P w K mg base "_law_draw" ["pen","many"] 1 (spOf K 2 f__law_draw)
abbrev Dd11:Prop:=Dfn P w K mg base "_law_read" ["text"] 1 (spOf K 1 j5)
abbrev Dd2:Prop:=Dfn P w K mg base "read" ["text"] 3 (spOf K 1 uz)
abbrev Dx2:Prop:=DfnX P w K mg base "read" ["text"] 3 (spX K 1 uz)
abbrev Du9:Prop:=DfnU P w K mg base "_law_kind" ["e"] 1 (spOf K 1 ni)
abbrev Du6:Prop:=DfnU P w K mg base "_law_whole" ["thing"] 1 (spOf K 1 jr)
abbrev Dd14:Prop:=Dfn P w K mg base "_law_words" ["pen","row"] 2 (spOf K 2 f__law_words)
abbrev Dd12:Prop:=Dfn P w K mg base "_law_due" ["text"] 2 (spOf K 1 ji)
abbrev Dd13:Prop:=Dfn P w K mg base "_law_told" ["text"] 4 (spOf K 1 f__law_told)
abbrev Dd3:Prop:=Dfn P w K mg base "_law_cell" ["script","k"] 1 (spOf K 2 f__law_cell)
abbrev Dd4:Prop:=Dfn P w K mg base "_law_pen" ["cell"] 1 (spOf K 1 f__law_pen)
abbrev Dd8:Prop:=Dfn P w K mg base "_law_house" ["pen","most","doors"] 2 (spOf K 3 f__law_house)
abbrev Dd10:Prop:=Dfn P w K mg base "_law_text" ["house"] 1 (spOf K 1 mz)
abbrev Dd7:Prop:=Dfn P w K mg base "_law_odd" ["pen"] 2 (spOf K 1 f__law_odd)
abbrev Dd15:Prop:=Dfn P w K mg base "_law_spoilt" ["pen","rows"] 3 (spOf K 2 f__law_spoilt)
end
section
variable{P:Program}{w:World}{K:Fg9}{mg:Str->Option Value}{base:Heap}{f:Addr}{fd:FuncData}
theorem yu(F:Fun K "is_written_door" "is_written_door" jz f fd)(T:Txt K mg):FnOk P w K mg base CX0 1 f fd ["word","rooms_many"] (spOf K 2 fj) :=
 kj F yp rfl rfl fun cdv A outer s H E hr =>
  (bu (fu (EV.toR (af0 (akk T.t_WRITTEN_DOORS (by rfl) (bh (pv 0))) (afy (ER.toD (air ahz (e2_v (aao T.t_WRITTEN_DOORS (by rfl) (bh (pv 0)) (fun _ _=>by rfl)) (b7 (pv 1))) (jt _))))))))
theorem yt(F:Fun K "is_written_room" "is_written_room" jy f fd)(T:Txt K mg)(d0:Dd0 P w K mg base):FnOk P w K mg base CX0 2 f fd ["words","rooms_many"] (spOf K 2 fc) :=
 kj F yo rfl rfl fun cdv A outer s H E hr =>
  (bu (fu (EV.toR (af0 (ER.toD (air ao2 (e2_v (ER.toD (f9 qd (by rfl) T.z_len qe (ea_n (pv 0) b8))) (EV.toB (ev_c (agm (by rfl) T.c_MOST_DOORS) fun _=>.int _))) (jt _))) (afy (ER.toD (f9 (aqk rfl) (by rfl) T.z_all aqn (ea_v (ER.toD (qi ["rooms_many"] ["word","rooms_many"] [none,some 1] rfl (uy (bh (pv 0))) (fun _ _ _=>(du (i:=0) (show(["word","rooms_many"]:List Str).Nodup by decide +kernel) rfl (Or.inl rfl))) (fun _ _ _=>sy) (fun _ _ _=>(ER.toD (jk d0 (hr.mono (by decide)) (by rfl) (eg_n (pv 0) (eg_n (pv 1) di))))))) b8))))))))
theorem amg(F:Fun K "read" "read" ae9 f fd)(T:Txt K mg)(d1:Dd1 P w K mg base):FnOk P w K mg base CX0 3 f fd ["text"] (spOf K 1 uz) :=
 kj F jj rfl rfl fun cdv A outer s H E hr =>
  (aq (uh (ET.s (ug (qt (za (t:=.str) (abp (by rfl) T.z_str ace) (by rfl) T.z_isinstance aj (b7 (pv 0)))))) (bu ql) jd) (aq (SV.s (cg (i:=1) jj.nd rfl (Or.inl rfl) (ig j8 PySem.F.slot_str_split PySem.F.type_str_split (bh (pv 0)) (ea_v az b8)))) (aq (SV.s (cg (i:=2) jj.nd rfl (Or.inl rfl) (cz bf))) (aq (aaa PassesOwn.never rfl (IT.s (ac0 (by rfl) T.z_enumerate (aa (bh (pv 1)) bf))) (adz rfl (j9 (du (i:=3) jj.nd rfl (Or.inl rfl)) (j9 (du (i:=4) jj.nd rfl (Or.inl rfl)) abd))) (aq (SV.s (cg (i:=5) jj.nd rfl (Or.inl rfl) (ig j8 PySem.F.slot_str_split PySem.F.type_str_split (bh (pv 4)) (ea_v az b8)))) (aq (uh (ET.s (EW.pt (abt (km ab1 (e2_n (pv 3) (EV.toB (ev_c (agm (by rfl) T.c_MOST_ROOMS) fun _=>.int _))) (jt _)) (yz (ug (qt (ER.toD (jk d1 (hr.mono (by decide)) (by rfl) (eg_v (bh (pv 5)) (eg_v (ER.toD (f9 qd (by rfl) T.z_len qe (ea_n (pv 1) b8))) di)))))))))) (bu ql) jd) (bu (SV.s (zj (EV.toR (acb lz PySem.F.slot_list_append PySem.F.type_list_append mj (pv 2) (aa (ER.toD (iu qb (by rfl) T.z_tuple lw (ea_v (ER.toD (qi [] ["word"] [none] rfl (uy (bh (pv 5))) (fun _ _ _=>(du (i:=0) (show(["word"]:List Str).Nodup by decide +kernel) rfl (Or.inl rfl))) (fun _ _ _=>sy) (fun _ _ _=>(aao T.t_WRITTEN_DOORS (by rfl) (bh (pv 0)) (fun _ _=>by rfl))))) b8))) bf))))))))) (bu (SV.s (fu (iu qb (by rfl) T.z_tuple lw (ea_n (pv 2) b8)))))))))
theorem ajr(F:Fun K "read" "read" ae9 f fd)(T:Txt K mg)(d1:Dd1 P w K mg base):FnOk P w K mg base (CX1 P w) 3 f fd ["text"] (spX K 1 uz) :=
 fn_x F jj rfl rfl fun cdv A outer s H E hr =>
  (vq (uh (ET.s (ug (qt (za (t:=.str) (abp (by rfl) T.z_str ace) (by rfl) T.z_isinstance aj (b7 (pv 0)))))) (bu ql) jd) (anz (ET.s (ug (qt (za (t:=.str) (abp (by rfl) T.z_str ace) (by rfl) T.z_isinstance aj (b7 (pv 0)))))) xr (aas (ac8 rfl rfl (by rfl) T.i_NoText abw rfl (by decide) (by decide) (fun _=>rfl) (Or.inl rfl) (Or.inl rfl) (ab8 fun _ _ _ _ _ _ us hl=>by obtain⟨_,_,rfl⟩:=ln2 hl;rfl) (hr.mono (by decide)) (EV.s bc) xr)) ag1) (vq (SV.s (cg (i:=1) jj.nd rfl (Or.inl rfl) (ig j8 PySem.F.slot_str_split PySem.F.type_str_split (bh (pv 0)) (ea_v az b8)))) ac9 (vq (SV.s (cg (i:=2) jj.nd rfl (Or.inl rfl) (cz bf))) ac9 (vq (aaa PassesOwn.never rfl (IT.s (ac0 (by rfl) T.z_enumerate (aa (bh (pv 1)) bf))) (adz rfl (j9 (du (i:=3) jj.nd rfl (Or.inl rfl)) (j9 (du (i:=4) jj.nd rfl (Or.inl rfl)) abd))) (aq (SV.s (cg (i:=5) jj.nd rfl (Or.inl rfl) (ig j8 PySem.F.slot_str_split PySem.F.type_str_split (bh (pv 4)) (ea_v az b8)))) (aq (uh (ET.s (EW.pt (abt (km ab1 (e2_n (pv 3) (EV.toB (ev_c (agm (by rfl) T.c_MOST_ROOMS) fun _=>.int _))) (jt _)) (yz (ug (qt (ER.toD (jk d1 (hr.mono (by decide)) (by rfl) (eg_v (bh (pv 5)) (eg_v (ER.toD (f9 qd (by rfl) T.z_len qe (ea_n (pv 1) b8))) di)))))))))) (bu ql) jd) (bu (SV.s (zj (EV.toR (acb lz PySem.F.slot_list_append PySem.F.type_list_append mj (pv 2) (aa (ER.toD (iu qb (by rfl) T.z_tuple lw (ea_v (ER.toD (qi [] ["word"] [none] rfl (uy (bh (pv 5))) (fun _ _ _=>(du (i:=0) (show(["word"]:List Str).Nodup by decide +kernel) rfl (Or.inl rfl))) (fun _ _ _=>sy) (fun _ _ _=>(aao T.t_WRITTEN_DOORS (by rfl) (bh (pv 0)) (fun _ _=>by rfl))))) b8))) bf))))))))) (an0 rfl rfl rfl (IT.s (ac0 (by rfl) T.z_enumerate (aa (bh (pv 1)) bf))) xr (adz rfl (j9 (du (i:=3) jj.nd rfl (Or.inl rfl)) (j9 (du (i:=4) jj.nd rfl (Or.inl rfl)) abd))) (aq (SV.s (cg (i:=5) jj.nd rfl (Or.inl rfl) (ig j8 PySem.F.slot_str_split PySem.F.type_str_split (bh (pv 4)) (ea_v az b8)))) (aq (uh (ET.s (EW.pt (abt (km ab1 (e2_n (pv 3) (EV.toB (ev_c (agm (by rfl) T.c_MOST_ROOMS) fun _=>.int _))) (jt _)) (yz (ug (qt (ER.toD (jk d1 (hr.mono (by decide)) (by rfl) (eg_v (bh (pv 5)) (eg_v (ER.toD (f9 qd (by rfl) T.z_len qe (ea_n (pv 1) b8))) di)))))))))) (bu ql) jd) (bu (SV.s (zj (EV.toR (acb lz PySem.F.slot_list_append PySem.F.type_list_append mj (pv 2) (aa (ER.toD (iu qb (by rfl) T.z_tuple lw (ea_v (ER.toD (qi [] ["word"] [none] rfl (uy (bh (pv 5))) (fun _ _ _=>(du (i:=0) (show(["word"]:List Str).Nodup by decide +kernel) rfl (Or.inl rfl))) (fun _ _ _=>sy) (fun _ _ _=>(aao T.t_WRITTEN_DOORS (by rfl) (bh (pv 0)) (fun _ _=>by rfl))))) b8))) bf)))))))) (vq (SV.s (cg (i:=5) jj.nd rfl (Or.inl rfl) (ig j8 PySem.F.slot_str_split PySem.F.type_str_split (bh (pv 4)) (ea_v az b8)))) ac9 (vq (uh (ET.s (EW.pt (abt (km ab1 (e2_n (pv 3) (EV.toB (ev_c (agm (by rfl) T.c_MOST_ROOMS) fun _=>.int _))) (jt _)) (yz (ug (qt (ER.toD (jk d1 (hr.mono (by decide)) (by rfl) (eg_v (bh (pv 5)) (eg_v (ER.toD (f9 qd (by rfl) T.z_len qe (ea_n (pv 1) b8))) di)))))))))) (bu ql) jd) (anz (ET.s (EW.pt (abt (km ab1 (e2_n (pv 3) (EV.toB (ev_c (agm (by rfl) T.c_MOST_ROOMS) fun _=>.int _))) (jt _)) (yz (ug (qt (ER.toD (jk d1 (hr.mono (by decide)) (by rfl) (eg_v (bh (pv 5)) (eg_v (ER.toD (f9 qd (by rfl) T.z_len qe (ea_n (pv 1) b8))) di)))))))))) xr (aas (ac8 rfl rfl (by rfl) T.i_NoText abw rfl (by decide) (by decide) (fun _=>rfl) (Or.inl rfl) (Or.inl rfl) (ab8 fun _ _ _ _ _ _ us hl=>by obtain⟨_,_,rfl⟩:=ln2 hl;rfl) (hr.mono (by decide)) (EV.s (ER.toD (bw bz (e2_n (pv 3) (EV.toB bc))))) xr)) ag1) (aas ac9)))) (aas ac9)))))
theorem adu(F:Fun K "_law_cell" "_law_cell" xn f fd)(T:Txt K mg):FnOk P w K mg base CX0 1 f fd ["script","k"] (spOf K 2 f__law_cell) :=
 kj F adk rfl rfl fun cdv A outer s H E hr =>
  (aq (uh (km ahz (e2_n (pv 1) (EV.toB (ER.toD (f9 qd (by rfl) T.z_len qe (ea_n (pv 0) b8))))) (jt _)) (bu (fu (wk (e2_n (pv 0) (b7 (pv 1))) (fun _ _=>by rfl)))) jd) (bu (fu (EV.toR bc))))
theorem aeo(F:Fun K "_law_pen" "_law_pen" zm f fd)(T:Txt K mg):FnOk P w K mg base CX0 1 f fd ["cell"] (spOf K 1 f__law_pen) :=
 kj F aaz rfl rfl fun cdv A outer s H E hr =>
  (aq (cg (i:=1) aaz.nd rfl (Or.inl rfl) (f9 (aqi rfl) (by rfl) T.z_max aqm (ea_n (pv 0) (ea_v (ER.toD (bw acn (e2_v bc (b7 (pv 0))))) b8)))) (bu (fu (cz (aa (bh (pv 1)) (aa (ER.toD (iu aqj (by rfl) T.z_int af9 (ea_v (ER.toD (air ab1 (e2_n (pv 1) (EV.toB (ER.toD (bw ahx (e2_v bc (EV.toB bc)))))) (jt _))) b8))) bf))))))
theorem adt(F:Fun K "_law_draw" "_law_draw" xm f fd)(T:Txt K mg):FnOk P w K mg base CX0 1 f fd ["pen","many"] (spOf K 2 f__law_draw) :=
 kj F kh rfl rfl fun cdv A outer s H E hr =>
  (aq (uh (km (ao3 hr.units) (e2_v (ER.toD (wk (e2_n (pv 0) (EV.toB bc)) (fun _ _=>by rfl))) (EV.toB bc)) (jt _)) (aq (aoa (ER.toD (f9 ai1 (by rfl) T.z_divmod ai6 (ea_v (ER.toD (wk (e2_n (pv 0) (EV.toB bc)) (fun _ _=>by rfl))) (ea_n (pv 1) b8)))) (adz rfl (j9 (du (i:=2) kh.nd rfl (Or.inl rfl)) (j9 (du (i:=3) kh.nd rfl (Or.inl rfl)) abd)))) (aq (aky (bh (pv 2)) (pv 0) bc) (bu (fu (anf (pv 3)))))) jd) (aq (cg (i:=4) kh.nd rfl (Or.inl rfl) (bw aa4 (e2_v (ER.toD (bw aa3 (e2_v (ER.toD (bw bz (e2_v (ER.toD (bw aa4 (e2_v (ER.toD (wk (e2_n (pv 0) (EV.toB bc)) (fun _ _=>by rfl))) (EV.toB bc)))) (EV.toB bc)))) (EV.toB bc)))) (EV.toB bc)))) (aq (cg (i:=4) kh.nd rfl (Or.inl rfl) (bw aa4 (e2_v (ER.toD (bw bz (e2_v (ER.toD (bw aa3 (e2_n (pv 4) (b7 (pv 4))))) (EV.toB bc)))) (EV.toB bc)))) (aq (aky (ER.toD (bw aa4 (e2_v (ER.toD (bw bz (e2_v (ER.toD (bw aa3 (e2_n (pv 4) (EV.toB bc)))) (EV.toB bc)))) (EV.toB bc)))) (pv 0) bc) (bu (fu (bw aa4 (e2_v (ER.toD (bw amd (e2_v (ER.toD (wk (e2_n (pv 0) (EV.toB bc)) (fun _ _=>by rfl))) (EV.toB bc)))) (b7 (pv 1))))))))))
theorem acr(F:Fun K "_law_whole" "_law_whole" nq f fd)(T:Txt K mg):FnOk P w K mg base CX0 1 f fd ["thing"] (spOf K 1 jr) :=
 kj F yq rfl rfl fun cdv A outer s H E hr =>
  (bu (fu (EV.toR (af0 (za (t:=.int) (abp (by rfl) T.z_int af9) (by rfl) T.z_isinstance aj (b7 (pv 0))) (afy (ak9 (za (t:=.bool) (abp (by rfl) T.z_bool ai7) (by rfl) T.z_isinstance aj (b7 (pv 0)))))))))
theorem abq(F:Fun K "_law_whole" "_law_whole" nq f fd)(T:Txt K mg):FnOkU P w K mg base 1 f fd ["thing"] (spOf K 1 jr) :=
 ain F yq rfl rfl fun cdv A outer s H hr =>
  (bu (fu (EV.toR (af0 (za (t:=.int) (abp (by rfl) T.z_int af9) (by rfl) T.z_isinstance aj (b7 (pv 0))) (afy (ak9 (za (t:=.bool) (abp (by rfl) T.z_bool ai7) (by rfl) T.z_isinstance aj (b7 (pv 0)))))))))
theorem aep(F:Fun K "_law_odd" "_law_odd" zp f fd)(T:Txt K mg)(d5:Dd5 P w K mg base):FnOk P w K mg base CX0 2 f fd ["pen"] (spOf K 1 f__law_odd) :=
 kj F aa0 rfl rfl fun cdv A outer s H E hr =>
  (aq (cg (i:=1) aa0.nd rfl (Or.inl rfl) (cz (aa ala (aa ac6 (aa ac6 (aa (ad2 bc) (aa az (aa az (aa (lr bf) (aa (ER.toD (cz bf)) (aa (lr (aa bc bf)) (aa (ER.toD (cz (aa bc bf))) (aa akl (aa (lr (aa bc (aa bc bf))) (aa (ER.toD (bw ahx (e2_v bc (EV.toB bc)))) (aa (lr (aa (lr (aa bc bf)) bf)) (aa az bf))))))))))))))))) (bu (fu (wk (e2_v (ER.toD (bw bz (e2_n (pv 1) (EV.toB (ER.toD (cz (aa (lr (aa (lr (aa (ad2 bc) bf)) (aa (lr (aa bc (aa bc bf))) bf))) bf))))))) (EV.toB (ER.toD (jk d5 (hr.mono (by decide)) (by rfl) (eg_n (pv 0) (eg_v bc di)))))) (fun _ _=>by rfl)))))
theorem acs(F:Fun K "_law_house" "_law_house" uo f fd)(T:Txt K mg)(d5:Dd5 P w K mg base):FnOk P w K mg base CX0 2 f fd ["pen","most","doors"] (spOf K 3 f__law_house) :=
 kj F jh rfl rfl fun cdv A outer s H E hr =>
  (aq (cg (i:=3) jh.nd rfl (Or.inr rfl) (bw bz (e2_v bc (EV.toB (ER.toD (jk d5 (hr.mono (by decide)) (by rfl) (eg_n (pv 0) (eg_n (pv 1) di)))))))) (aq (cg (i:=4) jh.nd rfl (Or.inr rfl) (wk (e2_v (ER.toD (cz (aa bc (aa bc (aa bc (aa bc bf)))))) (EV.toB (ER.toD (jk d5 (hr.mono (by decide)) (by rfl) (eg_n (pv 0) (eg_v bc di)))))) (fun _ _=>by rfl))) (aq (cg (i:=5) jh.nd rfl (Or.inl rfl) (cz bf)) (aq (aaa PassesOwn.never rfl (aa9 (by rfl) T.z_range (aa (bh (pv 3)) bf)) (du (i:=6) jh.nd rfl (Or.inl rfl)) (aq (cg (i:=7) jh.nd rfl (Or.inl rfl) (bw bz (e2_v bc (EV.toB (ER.toD (jk d5 (hr.mono (by decide)) (by rfl) (eg_n (pv 0) (eg_n (pv 2) di)))))))) (bu (zj (EV.toR (acb lz PySem.F.slot_list_append PySem.F.type_list_append mj (pv 5) (aa (ER.toD (iu qb (by rfl) T.z_tuple lw (ea_v (ER.toD (qi ["pen","many","gates"] ["door","pen","many","gates"] [none,some 0,some 3,some 4] rfl (aa9 (by rfl) T.z_range (aa (bh (pv 7)) bf)) (fun _ _ _=>(du (i:=0) (show(["door","pen","many","gates"]:List Str).Nodup by decide +kernel) rfl (Or.inl rfl))) (fun _ _ _=>sy) (fun _ _ _=>(ER.toD (bw acn (e2_v (ER.toD (jk d5 (hr.mono (by decide)) (by rfl) (eg_n (pv 1) (eg_v (ER.toD (bw bz (e2_n (pv 2) (b7 (pv 3))))) di)))) (b7 (pv 3)))))))) b8))) bf))))))) (bu (fu (iu qb (by rfl) T.z_tuple lw (ea_n (pv 5) b8))))))))
theorem adq(F:Fun K "_law_kind" "_law_kind" rn f fd)(T:Txt K mg):FnOk P w K mg base CX0 1 f fd ["e"] (spOf K 1 ni) :=
 kj F dz rfl rfl fun cdv A outer s H E hr =>
  (aq (cg (i:=1) dz.nd rfl (Or.inl rfl) (cz (aa (dw T.sub (by decide +kernel) (by rfl) T.k_NoArrows (by rfl) T.z_isinstance aj (b7 (pv 0))) (aa (dw T.sub (by decide +kernel) (by rfl) T.k_NoRoom (by rfl) T.z_isinstance aj (b7 (pv 0))) (aa (dw T.sub (by decide +kernel) (by rfl) T.k_NoWalkers (by rfl) T.z_isinstance aj (b7 (pv 0))) (aa (dw T.sub (by decide +kernel) (by rfl) T.k_NotShut (by rfl) T.z_isinstance aj (b7 (pv 0))) bf)))))) (aq (cg (i:=1) dz.nd rfl (Or.inl rfl) (bw bz (e2_n (pv 1) (EV.toB (ER.toD (cz (aa (dw T.sub (by decide +kernel) (by rfl) T.k_NeverBack (by rfl) T.z_isinstance aj (b7 (pv 0))) (aa (dw T.sub (by decide +kernel) (by rfl) T.k_NoTour (by rfl) T.z_isinstance aj (b7 (pv 0))) (aa (dw T.sub (by decide +kernel) (by rfl) T.k_NoRow (by rfl) T.z_isinstance aj (b7 (pv 0))) (aa (dw T.sub (by decide +kernel) (by rfl) T.k_NoHouse (by rfl) T.z_isinstance aj (b7 (pv 0))) bf)))))))))) (aq (cg (i:=1) dz.nd rfl (Or.inl rfl) (bw bz (e2_n (pv 1) (EV.toB (ER.toD (cz (aa (dw T.sub (by decide +kernel) (by rfl) T.k_NotOpen (by rfl) T.z_isinstance aj (b7 (pv 0))) (aa (dw T.sub (by decide +kernel) (by rfl) T.k_Nobody (by rfl) T.z_isinstance aj (b7 (pv 0))) (aa (dw T.sub (by decide +kernel) (by rfl) T.k_NoText (by rfl) T.z_isinstance aj (b7 (pv 0))) (aa (dw T.sub (by decide +kernel) (by rfl) T.k_TooGreat (by rfl) T.z_isinstance aj (b7 (pv 0))) bf)))))))))) (aq (uh (EW.pt (abt (ug (qt (aiq T.sub (by rfl) T.z_ValueError zc (by rfl) T.z_isinstance aj (b7 (pv 0))))) (yz (km (ab0 hr.units) (e2_v (afz hr.units (pv 1) (aa ac6 bf)) (EV.toB bc)) (jt _))))) (bu (fu (EV.toR az))) jd) (aq (cg (i:=2) dz.nd rfl (Or.inl rfl) (cz (aa az (aa az (aa az (aa az (aa az (aa az (aa az (aa az (aa az (aa az (aa az (aa az bf)))))))))))))) (bu (fu (wk (e2_n (pv 2) (EV.toB (aip PySem.F.slot_list_index PySem.F.type_list_index (afh hr.units) (pv 1) (aa ac6 bf)))) (fun _ _=>by rfl)))))))))
theorem acp(F:Fun K "_law_kind" "_law_kind" rn f fd)(T:Txt K mg):FnOkU P w K mg base 1 f fd ["e"] (spOf K 1 ni) :=
 ain F dz rfl rfl fun cdv A outer s H hr =>
  (aq (cg (i:=1) dz.nd rfl (Or.inl rfl) (cz (aa (dw T.sub (by decide +kernel) (by rfl) T.k_NoArrows (by rfl) T.z_isinstance aj (b7 (pv 0))) (aa (dw T.sub (by decide +kernel) (by rfl) T.k_NoRoom (by rfl) T.z_isinstance aj (b7 (pv 0))) (aa (dw T.sub (by decide +kernel) (by rfl) T.k_NoWalkers (by rfl) T.z_isinstance aj (b7 (pv 0))) (aa (dw T.sub (by decide +kernel) (by rfl) T.k_NotShut (by rfl) T.z_isinstance aj (b7 (pv 0))) bf)))))) (aq (cg (i:=1) dz.nd rfl (Or.inl rfl) (bw bz (e2_n (pv 1) (EV.toB (ER.toD (cz (aa (dw T.sub (by decide +kernel) (by rfl) T.k_NeverBack (by rfl) T.z_isinstance aj (b7 (pv 0))) (aa (dw T.sub (by decide +kernel) (by rfl) T.k_NoTour (by rfl) T.z_isinstance aj (b7 (pv 0))) (aa (dw T.sub (by decide +kernel) (by rfl) T.k_NoRow (by rfl) T.z_isinstance aj (b7 (pv 0))) (aa (dw T.sub (by decide +kernel) (by rfl) T.k_NoHouse (by rfl) T.z_isinstance aj (b7 (pv 0))) bf)))))))))) (aq (cg (i:=1) dz.nd rfl (Or.inl rfl) (bw bz (e2_n (pv 1) (EV.toB (ER.toD (cz (aa (dw T.sub (by decide +kernel) (by rfl) T.k_NotOpen (by rfl) T.z_isinstance aj (b7 (pv 0))) (aa (dw T.sub (by decide +kernel) (by rfl) T.k_Nobody (by rfl) T.z_isinstance aj (b7 (pv 0))) (aa (dw T.sub (by decide +kernel) (by rfl) T.k_NoText (by rfl) T.z_isinstance aj (b7 (pv 0))) (aa (dw T.sub (by decide +kernel) (by rfl) T.k_TooGreat (by rfl) T.z_isinstance aj (b7 (pv 0))) bf)))))))))) (aq (uh (EW.pt (abt (ug (qt (aiq T.sub (by rfl) T.z_ValueError zc (by rfl) T.z_isinstance aj (b7 (pv 0))))) (yz (km (ab0 hr.units) (e2_v (afz hr.units (pv 1) (aa ac6 bf)) (EV.toB bc)) (jt _))))) (bu (fu (EV.toR az))) jd) (aq (cg (i:=2) dz.nd rfl (Or.inl rfl) (cz (aa az (aa az (aa az (aa az (aa az (aa az (aa az (aa az (aa az (aa az (aa az (aa az bf)))))))))))))) (bu (fu (wk (e2_n (pv 2) (EV.toB (aip PySem.F.slot_list_index PySem.F.type_list_index (afh hr.units) (pv 1) (aa ac6 bf)))) (fun _ _=>by rfl)))))))))
theorem ado(F:Fun K "_law_text" "_law_text" xg f fd)(T:Txt K mg):FnOk P w K mg base CX0 1 f fd ["house"] (spOf K 1 mz) :=
 kj F ul rfl rfl fun cdv A outer s H E hr =>
  (aq (cg (i:=1) ul.nd rfl (Or.inl rfl) (cz bf)) (aq (aaa PassesOwn.never rfl (uy (bh (pv 0))) (du (i:=2) ul.nd rfl (Or.inl rfl)) (bu (zj (EV.toR (acb lz PySem.F.slot_list_append PySem.F.type_list_append mj (pv 1) (aa (ER.toD (ig aay PySem.F.slot_str_join PySem.F.type_str_join az (ea_v (ER.toD (qi [] ["door"] [none] rfl (uy (bh (pv 2))) (fun _ _ _=>(du (i:=0) (show(["door"]:List Str).Nodup by decide +kernel) rfl (Or.inl rfl))) (fun _ _ _=>sy) (fun _ _ _=>(ER.toD (iu alg (by rfl) T.z_str ace (ea_n (pv 0) b8)))))) b8))) bf)))))) (bu (fu (ig aay PySem.F.slot_str_join PySem.F.type_str_join az (ea_n (pv 1) b8))))))
theorem adp(F:Fun K "_law_read" "_law_read" xj f fd)(T:Txt K mg):FnOk P w K mg base CX0 1 f fd ["text"] (spOf K 1 j5) :=
 kj F jf rfl rfl fun cdv A outer s H E hr =>
  (aq (cg (i:=1) jf.nd rfl (Or.inl rfl) (ig j8 PySem.F.slot_str_split PySem.F.type_str_split (bh (pv 0)) (ea_v az b8))) (aq (cg (i:=2) jf.nd rfl (Or.inl rfl) (cz bf)) (aq (aaa PassesOwn.never rfl (ac0 (by rfl) T.z_enumerate (aa (bh (pv 1)) bf)) (adz rfl (j9 (du (i:=3) jf.nd rfl (Or.inl rfl)) (j9 (du (i:=4) jf.nd rfl (Or.inl rfl)) abd))) (aq (cg (i:=5) jf.nd rfl (Or.inl rfl) (ig j8 PySem.F.slot_str_split PySem.F.type_str_split (bh (pv 4)) (ea_v az b8))) (aq (cg (i:=6) jf.nd rfl (Or.inr rfl) (qi [] ["door"] [none] rfl (aib (by rfl) T.z_range (aa (ad2 bc) (aa (ER.toD (f9 (aqh rfl) (by rfl) T.z_min aql (ea_v bc (ea_v (ER.toD (f9 qd (by rfl) T.z_len qe (ea_n (pv 1) b8))) b8)))) bf))) (fun _ _ _=>(du (i:=0) (show(["door"]:List Str).Nodup by decide +kernel) rfl (Or.inl rfl))) (fun _ _ _=>sy) (fun _ _ _=>(ER.toD (iu alg (by rfl) T.z_str ace (ea_n (pv 0) b8)))))) (aq (uh (EW.pt (abt (km ak2 (e2_n (pv 3) (EV.toB bc)) (jt _)) (abt (km ak2 (e2_v (ER.toD (f9 qd (by rfl) T.z_len qe (ea_n (pv 5) b8))) (EV.toB bc)) (jt _)) (yz (km (ab0 hr.units) (e2_v (ER.toD (qi ["good"] ["word","good"] [none,some 6] rfl (uy (bh (pv 5))) (fun _ _ _=>(du (i:=0) (show(["word","good"]:List Str).Nodup by decide +kernel) rfl (Or.inl rfl))) (fun _ _ _=>(ani (km (ahy hr.units) (e2_n (pv 0) (b7 (pv 1))) (by with_unfolding_all rfl)))) (fun _ _ _=>(bh (pv 0))))) (EV.toB (ER.toD (cz bf)))) (jt _)))))) (bu (fu (bw bz (e2_n (pv 3) (EV.toB bc))))) jd) (bu (zj (EV.toR (acb lz PySem.F.slot_list_append PySem.F.type_list_append mj (pv 2) (aa (ER.toD (iu qb (by rfl) T.z_tuple lw (ea_v (ER.toD (qi [] ["word"] [none] rfl (uy (bh (pv 5))) (fun _ _ _=>(du (i:=0) (show(["word"]:List Str).Nodup by decide +kernel) rfl (Or.inl rfl))) (fun _ _ _=>sy) (fun _ _ _=>(ER.toD (iu anl (by rfl) T.z_int af9 (ea_n (pv 0) b8)))))) b8))) bf))))))))) (bu (fu (iu qb (by rfl) T.z_tuple lw (ea_n (pv 2) b8)))))))
theorem aeq(F:Fun K "_law_due" "_law_due" zq f fd)(T:Txt K mg)(d11:Dd11 P w K mg base):FnOk P w K mg base CX0 2 f fd ["text"] (spOf K 1 ji) :=
 kj F aa1 rfl rfl fun cdv A outer s H E hr =>
  (aq (uh (ug (qt (za (t:=.str) (abp (by rfl) T.z_str ace) (by rfl) T.z_isinstance aj (b7 (pv 0))))) (bu (fu (EV.toR (lr (aa az (aa bc bf)))))) jd) (aq (cg (i:=1) aa1.nd rfl (Or.inl rfl) (jk d11 (hr.mono (by decide)) (by rfl) (eg_v (bh (pv 0)) di))) (aq (uh (qt (za (t:=.tuple) (abp (by rfl) T.z_tuple lw) (by rfl) T.z_isinstance aj (b7 (pv 1)))) (bu (fu (EV.toR (lr (aa az (aa (bh (pv 1)) bf)))))) jd) (bu (fu (EV.toR (lr (aa az (aa (bh (pv 1)) bf)))))))))
theorem adn(F:Fun K "_law_told" "_law_told" xf f fd)(T:Txt K mg)(d2:Dd2 P w K mg base)(x2:Dx2 P w K mg base)(u9:Du9 P w K mg base)(u6:Du6 P w K mg base):FnOk P w K mg base CX0 4 f fd ["text"] (spOf K 1 f__law_told) :=
 kj F aab rfl rfl fun cdv A outer s H E hr =>
  (bu (alq rfl rfl rfl rfl aab.nd rfl rfl (by rfl) T.cat T.sub (by decide +kernel) (bu (fu (EV.toR (lr (aa (EV.s az) (aa (ER.toD (jk d2 (hr.mono (by decide)) (by rfl) (eg_v (EV.s (bh (pv 0))) di))) bf)))))) (aas (anx (XE.v (an1 (ag3 (EV.s az) (XE.no xr) (ag3 (ER.toD (jk d2 (hr.mono (by decide)) (by rfl) (eg_v (EV.s (bh (pv 0))) di))) (XE.d (art x2 (hr.mono (by decide)) (by rfl) (eg_v (EV.s (bh (pv 0))) di) (xa_v (js:=[]) (EV.s (bh (pv 0))) (XE.no xr) akt))) akt)))))) (fun ev=>(aq (uh (EW.pt (abt (km (ab0 (hr.mark ev).units) (e2_v (ER.toD (alc u9 ((hr.mark ev).mono (by decide)) (by rfl) (eg_n (pv 1) di))) (EV.toB az)) (jt _)) (yz (ug (qt (ER.toD (alc u6 ((hr.mark ev).mono (by decide)) (by rfl) (eg_v (alb (afv T.n_at) (bh (pv 1))) di)))))))) (bu (fu (EV.toR (lr (aa az (aa bc bf)))))) jd) (bu (fu (EV.toR (lr (aa az (aa (alb (afv T.n_at) (bh (pv 1))) bf))))))))))
theorem acq(F:Fun K "_law_words" "_law_words" um f fd)(T:Txt K mg)(d5:Dd5 P w K mg base):FnOk P w K mg base CX0 2 f fd ["pen","row"] (spOf K 2 f__law_words) :=
 kj F g8 rfl rfl fun cdv A outer s H E hr =>
  (aq (cg (i:=2) g8.nd rfl (Or.inl rfl) (ig j8 PySem.F.slot_str_split PySem.F.type_str_split (bh (pv 1)) (ea_v az b8))) (aq (cg (i:=3) g8.nd rfl (Or.inl rfl) (jk d5 (hr.mono (by decide)) (by rfl) (eg_n (pv 0) (eg_v (ER.toD (f9 qd (by rfl) T.z_len qe (ea_n (pv 2) b8))) di)))) (aq (cg (i:=4) g8.nd rfl (Or.inl rfl) (cz (aa az (aa az (aa az (aa az (aa az (aa az (aa az (aa az (aa az (aa az (aa az (aa az (aa az (aa az (aa az (aa az (aa az (aa az bf)))))))))))))))))))) (aq (cg (i:=5) g8.nd rfl (Or.inl rfl) (wk (e2_n (pv 4) (EV.toB (ER.toD (jk d5 (hr.mono (by decide)) (by rfl) (eg_n (pv 0) (eg_v bc di)))))) (fun _ _=>by rfl))) (aq (cg (i:=6) g8.nd rfl (Or.inl rfl) (cz (aa (ER.toD (bw bz (e2_v (ER.toD (gq (pv 2) ik (gn (bh (pv 3))))) (EV.toB (ER.toD (gq (pv 2) (gn (ER.toD (bw bz (e2_n (pv 3) (EV.toB bc))))) ik)))))) (aa (ER.toD (bw bz (e2_v (ER.toD (gq (pv 2) ik (gn (ER.toD (bw bz (e2_n (pv 3) (EV.toB bc))))))) (EV.toB (ER.toD (gq (pv 2) (gn (bh (pv 3))) ik)))))) (aa (ER.toD (bw bz (e2_v (ER.toD (bw bz (e2_v (ER.toD (gq (pv 2) ik (gn (bh (pv 3))))) (EV.toB (ER.toD (cz (aa (bh (pv 5)) bf))))))) (EV.toB (ER.toD (gq (pv 2) (gn (bh (pv 3))) ik)))))) bf))))) (aq (cg (i:=6) g8.nd rfl (Or.inl rfl) (bw bz (e2_n (pv 6) (EV.toB (ER.toD (cz (aa (ER.toD (bw bz (e2_n (pv 2) (EV.toB (ER.toD (bw aa3 (e2_v (ER.toD (cz (aa (bh (pv 5)) bf))) (EV.toB (ER.toD (bw acn (e2_v bc (EV.toB (ER.toD (f9 qd (by rfl) T.z_len qe (ea_n (pv 2) b8))))))))))))))) (aa (ER.toD (bw bz (e2_v (ER.toD (bw bz (e2_v (ER.toD (gq (pv 2) ik (gn (bh (pv 3))))) (EV.toB (ER.toD (cz (aa (bh (pv 5)) bf))))))) (EV.toB (ER.toD (gq (pv 2) (gn (ER.toD (bw bz (e2_n (pv 3) (EV.toB bc))))) ik)))))) bf)))))))) (bu (fu (ig aay PySem.F.slot_str_join PySem.F.type_str_join az (ea_v (ER.toD (wk (e2_n (pv 6) (EV.toB (ER.toD (jk d5 (hr.mono (by decide)) (by rfl) (eg_n (pv 0) (eg_v bc di)))))) (fun _ _=>by rfl))) b8))))))))))
theorem abr(F:Fun K "_law_spoilt" "_law_spoilt" rm f fd)(T:Txt K mg)(d5:Dd5 P w K mg base)(d14:Dd14 P w K mg base):FnOk P w K mg base CX0 3 f fd ["pen","rows"] (spOf K 2 f__law_spoilt) :=
 kj F gk rfl rfl fun cdv A outer s H E hr =>
  (aq (cg (i:=2) gk.nd rfl (Or.inl rfl) (jk d5 (hr.mono (by decide)) (by rfl) (eg_n (pv 0) (eg_v (ER.toD (f9 qd (by rfl) T.z_len qe (ea_n (pv 1) b8))) di)))) (aq (cg (i:=3) gk.nd rfl (Or.inl rfl) (jk d5 (hr.mono (by decide)) (by rfl) (eg_n (pv 0) (eg_v (ER.toD (f9 qd (by rfl) T.z_len qe (ea_n (pv 1) b8))) di)))) (aq (cg (i:=4) gk.nd rfl (Or.inl rfl) (wk (e2_v (ER.toD (cz (aa az (aa az (aa az (aa az (aa az bf))))))) (EV.toB (ER.toD (jk d5 (hr.mono (by decide)) (by rfl) (eg_n (pv 0) (eg_v bc di)))))) (fun _ _=>by rfl))) (aq (cg (i:=5) gk.nd rfl (Or.inl rfl) (cz (aa (ER.toD (bw bz (e2_v (ER.toD (gq (pv 1) ik (gn (bh (pv 2))))) (EV.toB (ER.toD (gq (pv 1) (gn (ER.toD (bw bz (e2_n (pv 2) (EV.toB bc))))) ik)))))) (aa (ER.toD (bw bz (e2_v (ER.toD (gq (pv 1) ik (gn (ER.toD (bw bz (e2_n (pv 2) (EV.toB bc))))))) (EV.toB (ER.toD (gq (pv 1) (gn (bh (pv 2))) ik)))))) (aa (ER.toD (bw bz (e2_v (ER.toD (bw bz (e2_v (ER.toD (gq (pv 1) ik (gn (bh (pv 2))))) (EV.toB (ER.toD (cz (aa (ER.toD (wk (e2_n (pv 1) (b7 (pv 3))) (fun _ _=>by rfl))) bf))))))) (EV.toB (ER.toD (gq (pv 1) (gn (ER.toD (bw bz (e2_n (pv 2) (EV.toB bc))))) ik)))))) (aa (ER.toD (bw bz (e2_n (pv 1) (EV.toB (ER.toD (cz (aa az bf))))))) bf)))))) (aq (cg (i:=5) gk.nd rfl (Or.inl rfl) (bw bz (e2_n (pv 5) (EV.toB (ER.toD (cz (aa (ER.toD (bw bz (e2_v (ER.toD (bw bz (e2_v (ER.toD (gq (pv 1) ik (gn (bh (pv 2))))) (EV.toB (ER.toD (cz (aa (bh (pv 4)) bf))))))) (EV.toB (ER.toD (gq (pv 1) (gn (bh (pv 2))) ik)))))) (aa (ER.toD (bw bz (e2_n (pv 1) (EV.toB (ER.toD (bw aa3 (e2_v (ER.toD (cz (aa az bf))) (EV.toB (ER.toD (bw acn (e2_v bc (EV.toB (ER.toD (f9 qd (by rfl) T.z_len qe (ea_n (pv 1) b8))))))))))))))) (aa (ER.toD (ane (bh (pv 1)) (ad2 bc))) (aa (ER.toD (gq (pv 1) ik (gn (bh (pv 2))))) bf)))))))))) (aq (cg (i:=6) gk.nd rfl (Or.inl rfl) (jk d5 (hr.mono (by decide)) (by rfl) (eg_n (pv 0) (eg_v bc di)))) (aq (uh (km ahz (e2_n (pv 6) (EV.toB bc)) (jt _)) (bu (fu (ig aay PySem.F.slot_str_join PySem.F.type_str_join az (ea_v (ER.toD (wk (e2_n (pv 5) (b7 (pv 6))) (fun _ _=>by rfl))) b8)))) jd) (bu (fu (ig aay PySem.F.slot_str_join PySem.F.type_str_join az (ea_v (ER.toD (bw bz (e2_v (ER.toD (bw bz (e2_v (ER.toD (gq (pv 1) ik (gn (bh (pv 2))))) (EV.toB (ER.toD (cz (aa (ER.toD (jk d14 (hr.mono (by decide)) (by rfl) (eg_n (pv 0) (eg_v (ER.toD (wk (e2_n (pv 1) (b7 (pv 2))) (fun _ _=>by rfl))) di)))) bf))))))) (EV.toB (ER.toD (gq (pv 1) (gn (ER.toD (bw bz (e2_n (pv 2) (EV.toB bc))))) ik)))))) b8)))))))))))
theorem apb(F:Fun K "law" "law" acj f fd)(T:Txt K mg)(d12:Dd12 P w K mg base)(d13:Dd13 P w K mg base)(d3:Dd3 P w K mg base)(d4:Dd4 P w K mg base)(d5:Dd5 P w K mg base)(d8:Dd8 P w K mg base)(d10:Dd10 P w K mg base)(d7:Dd7 P w K mg base)(d15:Dd15 P w K mg base):FnOk P w K mg base CX0 5 f fd ["script"] (spOf K 1 aio) :=
 kj F abx rfl rfl fun cdv A outer s H E hr =>
  (aq (aaa PassesOwn.never rfl (uy (ER.toD (cz (aa az (aa az (aa az (aa az (aa az (aa az (aa az (aa az (aa az (aa (ER.toD (bw bz (e2_v (ER.toD (bw ajo (e2_v az (EV.toB bc)))) (EV.toB az)))) (aa ala (aa bc (aa (ER.toD (cz (aa az bf))) (aa (lr (aa (lr (aa (ad2 bc) bf)) bf)) bf))))))))))))))))) (du (i:=1) abx.nd rfl (Or.inr rfl)) (bu (uh (km (ab0 hr.units) (e2_v (ER.toD (jk d13 (hr.mono (by decide)) (by rfl) (eg_v (bh (pv 1)) di))) (EV.toB (ER.toD (jk d12 (hr.mono (by decide)) (by rfl) (eg_v (bh (pv 1)) di))))) (jt _)) (bu (fu (EV.toR ac6))) jd))) (aq (aaa PassesOwn.never rfl (uy (ER.toD (bw bz (e2_v (ER.toD (cz (aa (ER.toD (jk d3 (hr.mono (by decide)) (by rfl) (eg_n (pv 0) (eg_v bc di)))) bf))) (EV.toB (ER.toD (gq (pv 0) (gn bc) (gn bc)))))))) (du (i:=2) abx.nd rfl (Or.inl rfl)) (aq (cg (i:=3) abx.nd rfl (Or.inr rfl) (jk d4 (hr.mono (by decide)) (by rfl) (eg_n (pv 2) di))) (aq (cg (i:=1) abx.nd rfl (Or.inr rfl) (jk d10 (hr.mono (by decide)) (by rfl) (eg_v (ER.toD (jk d8 (hr.mono (by decide)) (by rfl) (eg_n (pv 3) (eg_v (ER.toD (wk (e2_v (ER.toD (cz (aa bc (aa bc (aa bc bf))))) (EV.toB (ER.toD (jk d5 (hr.mono (by decide)) (by rfl) (eg_n (pv 3) (eg_v bc di)))))) (fun _ _=>by rfl))) (eg_v bc di))))) di))) (bu (aaa PassesOwn.never rfl (uy (ER.toD (bw bz (e2_v (ER.toD (qi ["text","pen"] ["turn","text","pen"] [none,some 1,some 3] rfl (aa9 (by rfl) T.z_range (aa bc bf)) (fun _ _ _=>(du (i:=0) (show(["turn","text","pen"]:List Str).Nodup by decide +kernel) rfl (Or.inl rfl))) (fun _ _ _=>sy) (fun _ _ _=>(ER.toD (jk d15 (hr.mono (by decide)) (by rfl) (eg_n (pv 2) (eg_v (ER.toD (ig j8 PySem.F.slot_str_split PySem.F.type_str_split (bh (pv 1)) (ea_v az b8))) di))))))) (EV.toB (ER.toD (cz (aa (ER.toD (jk d7 (hr.mono (by decide)) (by rfl) (eg_n (pv 3) di))) (aa (bh (pv 1)) bf))))))))) (du (i:=4) abx.nd rfl (Or.inl rfl)) (bu (uh (km (ab0 hr.units) (e2_v (ER.toD (jk d13 (hr.mono (by decide)) (by rfl) (eg_v (bh (pv 4)) di))) (EV.toB (ER.toD (jk d12 (hr.mono (by decide)) (by rfl) (eg_v (bh (pv 4)) di))))) (jt _)) (bu (fu (EV.toR ac6))) jd))))))) (bu (fu (EV.toR ac6)))))
end
abbrev Q(K:Fg9)(x:Str)(st:Stmt)(f:Addr)(oc:Value)(od:Option Addr)(kV dc pm:Value)(an:Option Addr)(cd ct:Value)(sl:Array (Option Value)):Prop:=nsIn K mainGlobals x=some (some (.ref f))/\K.lookup f=some ⟨oc,od,.func (fnOf x x (jb st) (dm st) (ao st) .none kV dc pm an cd ct),sl⟩/\codeIn K cd x=true/\keepIn K (.ref f)=true
section
variable{K:Fg9}{x:Str}{st:Stmt}{f:Addr}{oc:Value}{od:Option Addr}{kV dc pm:Value}{an:Option Addr}{cd ct:Value}{sl:Array (Option Value)}(q:Q K x st f oc od kV dc pm an cd ct sl){h:Heap}{mg:Str->Option Value}
include q
theorem Q.F:Fun K x x st f (fnOf x x (jb st) (dm st) (ao st) .none kV dc pm an cd ct):=ail q.2.1 q.2.2.1 q.2.2.2
theorem Q.E{ps:List Str}(X:K.In h)(G:h.Ns mainGlobals mg)(b:∀(kV doc pm:Value) (an:Option Addr) (cdv ct:Value) (us:List Value),us.length=ps.length->bindArgs (fnOf x x (jb st) (dm st) (ao st) .none kV doc pm an cdv ct) ⟨us,[]⟩=pure (ps.zip us)):mg x=some (.ref f)/\keepIn K (.ref f)=true/\Binds K (fnOf x x (jb st) (dm st) (ao st) .none kV dc pm an cd ct) ps []:=⟨mg_of X G q.1,q.2.2.2,(Q.F q).binds b⟩
theorem Q.E1{p0:Str}(X:K.In h)(G:h.Ns mainGlobals mg)(b:∀(kV doc pm:Value) (an:Option Addr) (cdv ct u0:Value),bindArgs (fnOf x x (jb st) (dm st) (ao st) .none kV doc pm an cdv ct) ⟨[u0],[]⟩=pure ([p0].zip [u0]):=by intros;rfl):mg x=some (.ref f)/\keepIn K (.ref f)=true/\Binds K (fnOf x x (jb st) (dm st) (ao st) .none kV dc pm an cd ct) [p0] []:=q.E X G fun _ _ _ _ _ _ us hl=>by obtain⟨_,rfl⟩:=ln1 hl;apply b
theorem Q.E2{p0 p1:Str}(X:K.In h)(G:h.Ns mainGlobals mg)(b:∀(kV doc pm:Value) (an:Option Addr) (cdv ct u0 u1:Value),bindArgs (fnOf x x (jb st) (dm st) (ao st) .none kV doc pm an cdv ct) ⟨[u0,u1],[]⟩=pure ([p0,p1].zip [u0,u1]):=by intros;rfl):mg x=some (.ref f)/\keepIn K (.ref f)=true/\Binds K (fnOf x x (jb st) (dm st) (ao st) .none kV dc pm an cd ct) [p0,p1] []:=q.E X G fun _ _ _ _ _ _ us hl=>by obtain⟨_,_,rfl⟩:=ln2 hl;apply b
theorem Q.E3{p0 p1 p2:Str}(X:K.In h)(G:h.Ns mainGlobals mg)(b:∀(kV doc pm:Value) (an:Option Addr) (cdv ct u0 u1 u2:Value),bindArgs (fnOf x x (jb st) (dm st) (ao st) .none kV doc pm an cdv ct) ⟨[u0,u1,u2],[]⟩=pure ([p0,p1,p2].zip [u0,u1,u2]):=by intros;rfl):mg x=some (.ref f)/\keepIn K (.ref f)=true/\Binds K (fnOf x x (jb st) (dm st) (ao st) .none kV dc pm an cd ct) [p0,p1,p2] []:=q.E X G fun _ _ _ _ _ _ us hl=>by obtain⟨_,_,_,rfl⟩:=ln3 hl;apply b
end
theorem aqq{l:PySem.W.OpenLaw}{w:World}{K:Fg9}{h:Heap}{mg:Str->Option Value}(X:K.In h)(G:h.Ns mainGlobals mg)(hfa:mg "law" = some (.ref fa))
  {tk_MOST_ROOMS tk_MOST_DOORS:Tok}
  (q0:Q K "is_written_door" jz f0' o0 p0 v0 t0 m0 n0 c0 r0 z0)
  (q1:Q K "is_written_room" jy f1' o1 p1 v1 t1 m1 n1 c1 r1 z1)
  (q2:Q K "read" ae9 f2' o2 p2 v2 t2 m2 n2 c2 r2 z2)
  (q3:Q K "_law_cell" xn f3' o3 p3 v3 t3 m3 n3 c3 r3 z3)
  (q4:Q K "_law_pen" zm f4' o4 p4 v4 t4 m4 n4 c4 r4 z4)
  (q5:Q K "_law_draw" xm f5' o5 p5 v5 t5 m5 n5 c5 r5 z5)
  (q6:Q K "_law_whole" nq f6' o6 p6 v6 t6 m6 n6 c6 r6 z6)
  (q7:Q K "_law_odd" zp f7' o7 p7 v7 t7 m7 n7 c7 r7 z7)
  (q8:Q K "_law_house" uo f8' o8 p8 v8 t8 m8 n8 c8 r8 z8)
  (q9:Q K "_law_kind" rn f9' o9 p9 v9 t9 m9 n9 c9 r9 z9)
  (q10:Q K "_law_text" xg f10' o10 p10 v10 t10 m10 n10 c10 r10 z10)
  (q11:Q K "_law_read" xj f11' o11 p11 v11 t11 m11 n11 c11 r11 z11)
  (q12:Q K "_law_due" zq f12' o12 p12 v12 t12 m12 n12 c12 r12 z12)
  (q13:Q K "_law_told" xf f13' o13 p13 v13 t13 m13 n13 c13 r13 z13)
  (q14:Q K "_law_words" um f14' o14 p14 v14 t14 m14 n14 c14 r14 z14)
  (q15:Q K "_law_spoilt" rm f15' o15 p15 v15 t15 m15 n15 c15 r15 z15)
  (a16:nsIn K mainGlobals "law" = some (some (.ref f16'))) (l16:K.lookup f16'=some ⟨oc16,od16,.func (fnOf "law" "law" (jb acj) (dm acj) (ao acj) .none kV16 dc16 pm16 an16 cd16 ct16),sl16⟩) (c16:codeIn K cd16 "law" = true) (k16:keepIn K (.ref f16')=true)
  (g_MOST_ROOMS:nsIn K mainGlobals "MOST_ROOMS" = some (some (.int 10 tk_MOST_ROOMS)))
  (g_MOST_DOORS:nsIn K mainGlobals "MOST_DOORS" = some (some (.int 6 tk_MOST_DOORS)))
  {T_WRITTEN_DOORS:Addr} (aT_WRITTEN_DOORS:nsIn K mainGlobals "WRITTEN_DOORS" = some (some (.ref T_WRITTEN_DOORS))) (e_T_WRITTEN_DOORS:PyProof.Rows.KTD.tabLook (PyProof.Rows.KTD.datLooks fun b=>K.lookup b) (fun b=>K.lookup b) T_WRITTEN_DOORS (tabD tab_WRITTEN_DOORS)=true)
  {fi_NoText:Addr} {ci0_NoText:Addr} {odi_NoText ani_NoText:Option Addr} {sli_NoText:Array (Option Value)} {oci_NoText kVi_NoText dci_NoText pmi_NoText cdi_NoText cti_NoText:Value} (aj_NoText:nsIn K mainGlobals "NoText" = some (some (.ref ci0_NoText))) (ai_NoText:findIn K (.ref ci0_NoText) "__init__" = some (some (.ref fi_NoText))) (li_NoText:K.lookup fi_NoText=some ⟨oci_NoText,odi_NoText,.func (fnOf "__init__" "NoText.__init__" (jb qm) (dm qm) (ao qm) .none kVi_NoText dci_NoText pmi_NoText ani_NoText cdi_NoText cti_NoText),sli_NoText⟩) (ci_NoText:codeIn K cdi_NoText "NoText.__init__" = true) (ki_NoText:keepIn K (.ref fi_NoText)=true) (e_iNoText:am0 K ci0_NoText fi_NoText "at" = true)
  (e_nat:ana K ["NoHouse","Nobody","NoText"] "at" = true)
  (e_cls:af6 K NS=true) (e_sub:acg K NS=true) (e_rai:akz K ["ArrowError","NoArrows","NoRoom","NoWalkers","NotShut","NeverBack","NoTour","NoRow"]=true) (e_cat:catB K=true)
  (y_ValueError:nsIn K mainGlobals "ValueError" = some none)
  (y_all:nsIn K mainGlobals "all" = some none)
  (y_bool:nsIn K mainGlobals "bool" = some none)
  (y_divmod:nsIn K mainGlobals "divmod" = some none)
  (y_enumerate:nsIn K mainGlobals "enumerate" = some none)
  (y_int:nsIn K mainGlobals "int" = some none)
  (y_isinstance:nsIn K mainGlobals "isinstance" = some none)
  (y_len:nsIn K mainGlobals "len" = some none)
  (y_max:nsIn K mainGlobals "max" = some none)
  (y_min:nsIn K mainGlobals "min" = some none)
  (y_range:nsIn K mainGlobals "range" = some none)
  (y_str:nsIn K mainGlobals "str" = some none)
  (y_tuple:nsIn K mainGlobals "tuple" = some none)
  : ∃fd:FuncData,(∀(s:Shared) (v:Value),BindsTo s fd ⟨[v],[]⟩ [("script", v)])/\∀base:Heap,K.In base->base.Ns mainGlobals mg->FnOk l.prog w K mg base CX0 5 fa fd ["script"] (spOf K 1 aio):=by
 have e:=hfa.symm.trans (mg_of X G a16);cases e;have T:Txt K mg:=⟨⟨_,mg_of X G g_MOST_ROOMS⟩,⟨_,mg_of X G g_MOST_DOORS⟩,mg_none_of X G y_ValueError,mg_none_of X G y_all,mg_none_of X G y_bool,mg_none_of X G y_divmod,mg_none_of X G y_enumerate,mg_none_of X G y_int,mg_none_of X G y_isinstance,mg_none_of X G y_len,mg_none_of X G y_max,mg_none_of X G y_min,mg_none_of X G y_range,mg_none_of X G y_str,mg_none_of X G y_tuple,⟨_,mg_of X G aT_WRITTEN_DOORS,e_T_WRITTEN_DOORS⟩,e_sub,ano X G e_cat,jq X G e_cls (by decide +kernel),jq X G e_cls (by decide +kernel),jq X G e_cls (by decide +kernel),jq X G e_cls (by decide +kernel),jq X G e_cls (by decide +kernel),jq X G e_cls (by decide +kernel),jq X G e_cls (by decide +kernel),jq X G e_cls (by decide +kernel),jq X G e_cls (by decide +kernel),jq X G e_cls (by decide +kernel),jq X G e_cls (by decide +kernel),jq X G e_cls (by decide +kernel),jq X G e_cls (by decide +kernel),uv X G e_cls (by decide +kernel) e_rai (by decide +kernel),uv X G e_cls (by decide +kernel) e_rai (by decide +kernel),uv X G e_cls (by decide +kernel) e_rai (by decide +kernel),uv X G e_cls (by decide +kernel) e_rai (by decide +kernel),uv X G e_cls (by decide +kernel) e_rai (by decide +kernel),uv X G e_cls (by decide +kernel) e_rai (by decide +kernel),uv X G e_cls (by decide +kernel) e_rai (by decide +kernel),uv X G e_cls (by decide +kernel) e_rai (by decide +kernel),aka X G e_cls (by decide +kernel) aj_NoText e_iNoText (ail (st:=qm) li_NoText ci_NoText ki_NoText),e_nat⟩
 have F16:=ail (st:=acj) l16 c16 k16;refine⟨fnOf "law" "law" (jb acj) (dm acj) (ao acj) .none kV16 dc16 pm16 an16 cd16 ct16,fun s v=>.of_eq rfl,fun base _ _ =>?_⟩
 have d0:Dd0 l.prog w K mg base:=⟨_,_,yu q0.F T,q0.E2 X G⟩;have d1:Dd1 l.prog w K mg base:=⟨_,_,yt q1.F T d0,q1.E2 X G⟩;have d2:Dd2 l.prog w K mg base:=⟨_,_,amg q2.F T d1,q2.E1 X G⟩;have x2:Dx2 l.prog w K mg base:=⟨_,_,ajr q2.F T d1,q2.E1 X G⟩;have d3:Dd3 l.prog w K mg base:=⟨_,_,adu q3.F T,q3.E2 X G⟩;have d4:Dd4 l.prog w K mg base:=⟨_,_,aeo q4.F T,q4.E1 X G⟩;have d5:Dd5 l.prog w K mg base:=⟨_,_,adt q5.F T,q5.E2 X G⟩;have u6:Du6 l.prog w K mg base:=⟨_,_,abq q6.F T,q6.E1 X G⟩;have d6:Dfn l.prog w K mg base _ _ _ _:=⟨_,_,acr (P:=l.prog) (w:=w) (base:=base) q6.F T,q6.E1 X G⟩;have d7:Dd7 l.prog w K mg base:=⟨_,_,aep q7.F T d5,q7.E1 X G⟩;have d8:Dd8 l.prog w K mg base:=⟨_,_,acs q8.F T d5,q8.E3 X G⟩;have u9:Du9 l.prog w K mg base:=⟨_,_,acp q9.F T,q9.E1 X G⟩;have d9:Dfn l.prog w K mg base _ _ _ _:=⟨_,_,adq (P:=l.prog) (w:=w) (base:=base) q9.F T,q9.E1 X G⟩;have d10:Dd10 l.prog w K mg base:=⟨_,_,ado q10.F T,q10.E1 X G⟩;have d11:Dd11 l.prog w K mg base:=⟨_,_,adp q11.F T,q11.E1 X G⟩;have d12:Dd12 l.prog w K mg base:=⟨_,_,aeq q12.F T d11,q12.E1 X G⟩;have d13:Dd13 l.prog w K mg base:=⟨_,_,adn q13.F T d2 x2 u9 u6,q13.E1 X G⟩;have d14:Dd14 l.prog w K mg base:=⟨_,_,acq q14.F T d5,q14.E2 X G⟩;have d15:Dd15 l.prog w K mg base:=⟨_,_,abr q15.F T d5 d14,q15.E2 X G⟩;exact apb F16 T d12 d13 d3 d4 d5 d8 d10 d7 d15
end My
set_option genInjectivity false in
structure PySem.W.Fast where(tw14572964372752603392 tw5524041664196359362 tw17514520243217300834 tw9157419167908548290 tw6643705323932216226 tw13518343284623921475 tw13112926242948533635 tw11948883651776293508 tw6286627285551137861 tw18205526211351561767 tw11085810975105414632 tw10740830579282977193 tw4753234968611191529 tw1670555607942623977 tw3934666891664131945 tw7389179320274696137 tw3154424208492993546 tw3522513472344294634 tw17796657500950477482 tw10414887189934814026 tw11432941838045993834 tw9384841819855530699 tw331813066029790987 tw14068393883628093612 tw16497936717343299884 tw1687541224145319500 tw8926877957443732045 tw16338847669924744270 tw6788973153078063598 tw8662179361313672942 tw1716578782802806607 tw4081411857036463312 tw11361405461539714640 tw9693881783952064144 tw14346759321304738480 tw16700863866682213040 tw290311889562498032 tw12929300478383072370 tw12268500455425581459 tw16699601447957839764 tw2003063722789641717 tw15199968873146508885 tw12349031923559340021 tw1585885750657100598 tw13888961302208064567 tw11752170389647925335 tw16639577656899090231 tw8660066938201984376 tw4871419861474738584 tw15207459169327590105 tw10307134869756725020 tw5107570701933186078 tw10588259652083195006 tw7404814378246451454 tw10611531407745102302 tw12065331977145570014 tw18439104061148172129 tw8655545937671828209 tw16022103161760308049 tw5134378317831780988 tw11335547631584575734 tw11652934885800740230 tw5715509329027706077 tw7249467936398628300 tw7436532179445097959 tw8591813910173615511 tw17255184979316969058 tw11295238786726273830 tw15753223572918783760 tw6910879747590503040 tw16655629161250450607 tw2399374896706469776 tw4736801670054837347 tw16865350830504032411 tw10969200664030701759 tw5885886087020190479 tw12299725531229130562 tw4335618809534282730 tw15422469014497711395 tw12334880454070843030 tw1060695276571329464 tw9501525912906511687 tw16890166859384100350 tw17369230153475143487 tw3576575208601326182 tw5818475083254763955 tw18289342914660134231 tw12167982722389039397 tw13625662227343345618 tw13146840563200972522 tw15325943551536417404 tw7666008493488039221 tw3165230477932947963 tw2944741803761477450 tw13938809622278059950 tw179700947670842915 tw9914556294630376919 tw14821514996129264641 tw9092380911336054560 tw17806466500835410404 tw3068895987998836973 tw4233295459606955742 tw11270498737828761871 tw3400531974315184483 tw2244238850646471406 tw3755306588891582598 tw11432935760249329799 tw15031340070050657966 tw14964539639276354267 tw4189651588815767034 tw13453871795411113118 tw9640123085801043111 tw11525151866394757724 tw11785652082738297557 tw11431664156332541209 tw10816729043983796437 tw1968364772083745807 tw11347294984095502599 tw17046608415598523637 tw670867619915046378 tw7226214148581966934 tw7736607514817520717 tw13572933988452165115 tw12380561616235615535 tw14828160108068450243 tw16058175382298821804 tw4214368853481632703 tw1762391411687452644 tw4735269392793787125 tw9056738975127731098 tw12990449555462132277 tw17087131828617829346 tw18095857559234422376 tw17734935454365331706 tw13651843867070531584 tw14378192088425893568 tw2891871072414802192 tw13630137236133749070 tw17449697616284061921 tw1206730854719650084 tw8638322266251483505 tw1131456529916467350 tw11717914136911893982 tw17677124030848060944 tw10700772201609769603 tw4935152818443400039 tw9811452218979774119 tw11956199446788253785 tw12396838064837931088 tw14025339532525341911:Unit)
open PySem PySem.W PyProof.Rows
set_option maxRecDepth 100000 in
set_option maxHeartbeats 0 in
theorem PySem.Challenge.cw_turnarrows_k74_texts_of_no_house_holds : PySem.Challenge.rw_turnarrows_k74_texts_of_no_house.Holds := by
 w_on;o_law;k_head;(case hw=>w_witness2)
 k_fill
 refine Dn.walk (l:=PySem.Challenge.rw_turnarrows_k74_texts_of_no_house) (f:=My.aio) (k:=5) My.aj1 rfl rfl ⟨rfl,by decide,by decide,rfl⟩ (fun w h Y=>PySem.W.kIn_of Y) ?F
 case F =>
  intro w mg fa h KX G hmg;refine' My.aqq KX G hmg ?_ ?_ ?_ ?_ ?_ ?_ ?_ ?_ ?_ ?_ ?_ ?_ ?_ ?_ ?_ ?_ ?_ ?_ ?_ ?_ ?_ ?_ ?_ ?_ ?_ ?_ ?_ ?_ ?_ ?_ ?_ ?_ ?_ ?_ ?_ ?_ ?_ ?_ ?_ ?_ ?_ ?_ ?_ ?_ ?_ ?_ ?_ ?_
  all_goals try refine' And.intro ?_ (And.intro ?_ (And.intro ?_ ?_))
  any_goals k_is
  all_goals kernel_rfl
