import PyProof.Rows.All
import Wide.All
import OpenK.AllK
import Wide.FinOn
import Lean
import PyProof.EqAt
import PyProof.EqKinds
import PyProof.TupleCall
import PySem.Challenge.RW_turnarrows_k48_rounds_led_back
set_option Elab.async false
set_option linter.all false
set_option maxRecDepth 100000
noncomputable section
open PySem.W (nsIn mg_of keepIn fnOf codeIn findIn mg_none_of)
abbrev Fg9:=PySem.W.Frag
abbrev LL9:=List (List Int)
section
open PySem PySem.Spec PyProof.Rows
namespace L2
abbrev Key:=Sum Int Str
def atb:Key->Value->Bool
 | .inl k,v=>Value.isInt k v
 | .inr x,v=>Value.isStrOf x v
def keyH(w:World):Key->Int
 | .inl k=>hashInt k
 | .inr x=>hashStr w x
theorem j5:∀{k:Key} {v:Value},atb k v=true->(∃i t,k=Sum.inl i/\v=Value.int i t)∨(∃x t,k=Sum.inr x/\v=Value.str x t)
 | .inl i,v,h=>by
  obtain⟨t,e⟩:=Value.isInt_shape (k:=i) (v:=v) h;exact .inl ⟨i,t,rfl,e⟩
 | .inr x,v,h=>by
  obtain⟨t,e⟩:=Value.isStrOf_shape (x:=x) (v:=v) h;exact .inr ⟨x,t,rfl,e⟩
theorem ap2(x:Str)(t:Tok):atb (.inr x) (.str x t)=true:=by simp[atb,Value.isStrOf]
theorem az6(a b:Int):decide ((Sum.inl a:Key)=Sum.inl b)=(a==b):=by
 by_cases e:a=b
 ·subst e;simp
 ·have h:¬(Sum.inl a:Key)=Sum.inl b:=fun q=>e (Sum.inl.inj q)
  rw[decide_eq_false h];exact(beq_eq_false_iff_ne.mpr e).symm
theorem az3(a b:Str):decide ((Sum.inr a:Key)=Sum.inr b)=decide (a=b):=by
 by_cases e:a=b
 ·subst e;simp
 ·have h:¬(Sum.inr a:Key)=Sum.inr b:=fun q=>e (Sum.inr.inj q)
  rw[decide_eq_false h,decide_eq_false e]
theorem az5(a:Int)(b:Str):decide ((Sum.inl a:Key)=Sum.inr b)=false:=decide_eq_false (fun q=>nomatch q)
theorem az4(a:Str)(b:Int):decide ((Sum.inr a:Key)=Sum.inl b)=false:=decide_eq_false (fun q=>nomatch q)
def air(prog:Program)(w:World):PySem.KeyKind prog w Key where
 is:=atb
 hash:=keyH w
 inj:=fun v a b ha hb=>by
  rcases j5 ha with⟨i,t,rfl,rfl⟩ | ⟨x,t,rfl,rfl⟩
  ·rcases j5 hb with⟨j,u,rfl,e⟩ | ⟨y,u,rfl,e⟩
   ·injection e with e1 _;rw[e1]
   ·exact nomatch e
  ·rcases j5 hb with⟨j,u,rfl,e⟩ | ⟨y,u,rfl,e⟩
   ·exact nomatch e
   ·injection e with e1 _;rw[e1]
 byValue:=fun k v h=>by
  rcases j5 h with⟨i,t,rfl,rfl⟩ | ⟨x,t,rfl,rfl⟩ <;> rfl
 pyHash:=fun hv h=>by
  rcases j5 hv with⟨i,t,rfl,rfl⟩ | ⟨x,t,rfl,rfl⟩
  ·exact wpAny_pyHash_int h
  ·exact wpAny_pyHash_str h
 eqBool:=fun hu hv h=>by
  rcases j5 hu with⟨i,t,rfl,rfl⟩ | ⟨x,t,rfl,rfl⟩
  ·rcases j5 hv with⟨j,u,rfl,rfl⟩ | ⟨y,u,rfl,rfl⟩
   ·rw[az6] at h;exact wpAny_eqBool_int h
   ·rw[az5] at h;exact SeqAt.EqAt.int_str i t y u _ _ _ _ h
  ·rcases j5 hv with⟨j,u,rfl,rfl⟩ | ⟨y,u,rfl,rfl⟩
   ·rw[az4] at h;exact SeqAt.EqAt.str_int x t j u _ _ _ _ h
   ·rw[az3] at h;exact wpAny_eqBool_str h
 «strs» := fun k x t v h=>by
  rcases j5 h with⟨i,u,rfl,e⟩ | ⟨y,u,rfl,e⟩
  ·exact nomatch e
  ·injection e with e1 _
   subst e1;cases v <;> rfl
theorem alu(prog:Program)(w:World)(x:Str)(t:Tok):(air prog w).is (.inr x) (.str x t)=true:=ap2 x t
def IsTp(h:Heap)(a:Addr)(items:Array Value):Prop:=∃o,h.get? a=some o/\o.cls=.type "tuple" /\ o.dict=none/\∃n,o.data=.seq items n
theorem IsTp.tup{h:Heap}{a:Addr}{items:Array Value}(x:IsTp h a items):IsTup h a items:=let ⟨o,e,c,_,n,d⟩:=x;⟨o,e,c,n,d⟩
theorem IsTp.new(h:Heap)(items:Array Value):IsTp (h.push { cls:=.type "tuple", data:=.seq items }) h.objs.size items:=⟨_,Heap.get?_push_size _ rfl,rfl,rfl,_,rfl⟩
inductive V where
 | non | bl (b:Bool) | int (i:Int) | str (x:Str) | byt (b:Array UInt8) | flt (b:UInt64) | ref (a:Addr) | ty (n:String)
 deriving DecidableEq
def RelV:V->Value->Prop
 | .non,u=>u=Value.none
 | .bl b,u=>u=Value.bool b
 | .int i,u=>∃t,u=Value.int i t
 | .str x,u=>∃t,u=Value.str x t
 | .byt b,u=>∃t,u=Value.bytes b t
 | .flt b,u=>∃t,u=Value.float b t
 | .ref a,u=>u=Value.ref a
 | .ty n,u=>u=Value.type n
abbrev Vals:List V->List Value->Prop:=Paired RelV
theorem Vals.length{xs:List V}{us:List Value}(r:Vals xs us):xs.length=us.length:=Paired.length r
theorem Vals.get:∀{xs:List V} {us:List Value} {i:Nat} {x:V},Vals xs us->xs[i]? = some x->∃u,us[i]? = some u/\RelV x u
 | _,_,_,_,.nil,e=>by simp at e
 | _,_,0,_,.cons r _,e=>by simp at e;subst e;exact⟨_,rfl,r⟩
 | _,_,i+1,x,.cons _ t,e=>by
  obtain⟨u,h1,h2⟩:=Vals.get (i:=i) (x:=x) t (by simpa using e)
  exact⟨u,by simpa using h1,h2⟩
theorem Vals.set{x:V}{u:Value}(r:RelV x u):∀{xs:List V} {us:List Value} (i:Nat),Vals xs us->Vals (xs.set i x) (us.set i u)
 | _,_,_,.nil=>.nil
 | _,_,0,.cons _ t=>.cons r t
 | _,_,i+1,.cons q t=>.cons q (Vals.set r i t)
theorem Vals.append:∀{xs ys:List V} {us ws:List Value},Vals xs us->Vals ys ws->Vals (xs++ys) (us++ws)
 | _,_,_,_,.nil,s=>s
 | _,_,_,_,.cons r t,s=>.cons r (Vals.append t s)
theorem Vals.take:∀{xs:List V} {us:List Value} (n:Nat),Vals xs us->Vals (xs.take n) (us.take n)
 | _,_,0,_=>.nil
 | _,_,_+1,.nil=>.nil
 | _,_,n+1,.cons r t=>.cons r (Vals.take n t)
theorem Vals.drop:∀{xs:List V} {us:List Value} (n:Nat),Vals xs us->Vals (xs.drop n) (us.drop n)
 | _,_,0,r=>r
 | _,_,_+1,.nil=>.nil
 | _,_,n+1,.cons _ t=>Vals.drop n t
def RelO:Option V->Option Value->Prop
 | some v,some u=>RelV v u
 | none,none=>True
 | _,_=>False
def KV{κ:Type}:List (κ×V)->List (κ×Value)->Prop:=Paired fun(p:κ×V) (q:κ×Value)=>p.1=q.1/\RelV p.2 q.2
def kV:Key->V
 | .inl i=>.int i
 | .inr x=>.str x
inductive HO where
 | lst (xs:List V)
 | tup (xs:List V)
 | dK (kvs:List (Key×V)) | dT (kvs:List (List Key×V))
 | set (S:Int->Bool) (n:Nat)
 | ins (C dx:Addr) (fs:List (Str×V))
 | own (x:Addr)
 | xd (fs:List (Str×V))
 | met (f x:Addr)
 | rng (lo hi:Int)
 | frz (o:Obj) (u:HO)
 | tbl (ps:Array Value)
 | ext (φ:Heap->Prop)
abbrev Hp:=Addr->Option HO
def upd(H:Hp)(a:Addr)(o:HO):Hp:=fun b=>if b=a then some o else H b
theorem gw{H:Hp}{a:Addr}{o:HO}:upd H a o a=some o:=by unfold upd;rw[if_pos rfl]
theorem cu{H:Hp}{a b:Addr}{o:HO}(h:b≠a):upd H a o b=H b:=by unfold upd;rw[if_neg h]
theorem jc{H:Hp}{a b:Addr}{o:HO}(h:H a=some o)(h':H b=none):a≠b:=by
 intro e;subst e;rw[h] at h';cases h'
section
variable(P:Program)(w:World)
def uo(H:Hp)(h:Heap)(a:Addr):HO->Prop
 | .lst xs=>xs.length<=sizeLine/\∃(its:List Value) (n:Nat),Vals xs its/\h.get? a=some { cls:=.type "list", data:=.seq its.toArray n }
 | .tup xs=>xs.length<=sizeLine/\∃its:List Value,Vals xs its/\IsTp h a its.toArray
 | .dK kvs=>kvs.length<=sizeLine/\(a==sysModules)=false/\∃vs,KV kvs vs/\h.DictOf (air P w) a vs
 | .dT kvs=>kvs.length<=sizeLine/\(a==sysModules)=false/\∃xs:List (List Key×Addr×Value),
   Paired (fun(p:List Key×V) (q:List Key×Addr×Value)=>p.1=q.1/\H q.2.1=some (.tup (p.1.map kV))/\RelV p.2 q.2.2) kvs xs /\
   ∃o es ep,h.get? a=some o/\o.ExactDict/\o.data=.dict es ep/\es.toList=xs.map (entryOfKey (tupleKind (air P w)))/\(xs.map (·.1)).Nodup
 | .set S n=>h.SetOf (intKind P w) a S n
 | .ins C dx fs=>H dx=some (.own a)/\fs.length<=1000/\dx≠a/\h.get? a=some (PySem.W.instObj C dx) /\
   ∃mA,h.Ns1 dx mA/\(∀f,RelO (fs.lookup f) (mA f))/\PySem.Within mA (fs.map (·.1))
 | .own _=>∃o,h.get? a=some o
 | .xd fs=>∃mA,h.Ns1 a mA/\∀f,RelO (fs.lookup f) (mA f)
 | .rng lo hi=>∃t u v,h.get? a=some { cls:=.type "range", data:=.fields #[.int lo t,.int hi u,.int 1 v] }
 | .frz o u=>h.get? a=some o/\uo H h a u
 | .tbl ps=>h.get? a=some { cls:=.none,data:=.fields ps }
 | .met f x=>h.get? a=some (PySem.W.methodObj (.ref f) (.ref x))
 | .ext φ=>φ h/\(∃o,h.get? a=some o)/\∀h1 h2:Heap,φ h1->(∀o,h1.get? a=some o->h2.get? a=some o)->φ h2
def HOk(H:Hp)(h:Heap):Prop:=∀a o,H a=some o->uo P w H h a o
end
section
variable{P:Program}{w:World}{H H':Hp}{h h':Heap}{a:Addr}{o:HO}
theorem uo.lt(x:uo P w H h a o):a < h.objs.size:=by
 cases o with
 | lst xs=>obtain⟨_,_,_,_,e⟩:=x;exact Heap.lt_size e
 | tup xs=>obtain⟨_,_,_,p⟩:=x;exact p.tup.lt
 | dK kvs=>obtain⟨_,_,_,_,o,_,_,e,_⟩:=x;exact Heap.lt_size e
 | dT kvs=>obtain⟨_,_,_,_,o,_,_,e,_⟩:=x;exact Heap.lt_size e
 | set S n=>obtain⟨o,_,_,_,e,_⟩:=x;exact Heap.lt_size e
 | ins C dx fs=>obtain⟨_,_,_,e,_⟩:=x;exact Heap.lt_size e
 | own y=>obtain⟨_,e⟩:=x;exact Heap.lt_size e
 | xd fs=>obtain⟨_,⟨_,_,_,e,_⟩,_⟩:=x;exact Heap.lt_size e
 | rng lo hi=>obtain⟨_,_,_,e⟩:=x;exact Heap.lt_size e
 | frz ob u=>obtain⟨e,_⟩:=x;exact Heap.lt_size e
 | tbl ps=>exact Heap.lt_size (show h.get? a=some _ from x)
 | met f y=>exact Heap.lt_size (show h.get? a=some _ from x)
 | ext φ=>obtain⟨_,⟨_,e⟩,_⟩:=x;exact Heap.lt_size e
theorem Paired.mapP{α β:Type}{F G:α->β->Prop}:∀{l₁:List α} {l₂:List β},Paired F l₁ l₂->(∀a b,F a b->G a b)->Paired G l₁ l₂
 | _,_,.nil,_=>.nil
 | _,_,.cons r t,f=>.cons (f _ _ r) (Paired.mapP t f)
theorem uo.stay(x:uo P w H h a o)(k:∀b u,(b=a∨H b=some (.own a))->h.get? b=some u->h'.get? b=some u)
  (ho:∀b,H b=some (.own a)->H' b=some (.own a)) (ht:∀b xs,H b=some (.tup xs)->H' b=some (.tup xs)):uo P w H' h' a o:=by
 induction o with
 | lst xs=>obtain⟨z,its,n,r,e⟩:=x;exact⟨z,its,n,r,k _ _ (.inl rfl) e⟩
 | tup xs=>obtain⟨z,its,r,ob,e,c⟩:=x;exact⟨z,its,r,ob,k _ _ (.inl rfl) e,c⟩
 | dK kvs=>obtain⟨z,y,vs,r,ob,es,ep,e,c⟩:=x;exact⟨z,y,vs,r,ob,es,ep,k _ _ (.inl rfl) e,c⟩
 | dT kvs =>
  obtain⟨z,y,xs,r,ob,es,ep,e,c⟩:=x;exact⟨z,y,xs,Paired.mapP r fun p q z=>⟨z.1,ht _ _ z.2.1,z.2.2⟩,ob,es,ep,k _ _ (.inl rfl) e,c⟩
 | set S n=>obtain⟨ob,es,ep,t,e,c⟩:=x;exact⟨ob,es,ep,t,k _ _ (.inl rfl) e,c⟩
 | ins C dx fs =>
  obtain⟨d,z,ne,e,mA,⟨od,es,ep,e2,c⟩,r⟩:=x;exact⟨ho _ d,z,ne,k _ _ (.inl rfl) e,mA,⟨od,es,ep,k _ _ (.inr d) e2,c⟩,r⟩
 | own y=>obtain⟨ob,e⟩:=x;exact⟨ob,k _ _ (.inl rfl) e⟩
 | xd fs=>obtain⟨mA,⟨od,es,ep,e,c⟩,r⟩:=x;exact⟨mA,⟨od,es,ep,k _ _ (.inl rfl) e,c⟩,r⟩
 | rng lo hi=>obtain⟨t,u,v,e⟩:=x;exact⟨t,u,v,k _ _ (.inl rfl) e⟩
 | frz ob u ih=>obtain⟨e,q⟩:=x;exact⟨k _ _ (.inl rfl) e,ih q⟩
 | tbl ps =>
  have e:h.get? a=some { cls:=.none,data:=.fields ps }:=x;show h'.get? a=some { cls:=.none,data:=.fields ps };exact k a _ (.inl rfl) e
 | met f y =>
  have e:h.get? a=some (PySem.W.methodObj (.ref f) (.ref y)):=x;show h'.get? a=some (PySem.W.methodObj (.ref f) (.ref y));exact k a _ (.inl rfl) e
 | ext φ=>obtain⟨p,⟨o,e⟩,st⟩:=x;exact⟨st _ _ p fun o q=>k _ _ (.inl rfl) q,⟨o,k _ _ (.inl rfl) e⟩,st⟩
theorem HOk.lt(x:HOk P w H h)(e:H a=some o):a < h.objs.size:=(x a o e).lt
theorem HOk.fresh(x:HOk P w H h)(e:h.objs.size<=a):H a=none:=by
 cases q:H a with
 | none=>rfl
 | some u=>exact absurd (Nat.lt_of_lt_of_le (x.lt q) e) (Nat.lt_irrefl _)
theorem HOk.kept(x:HOk P w H h)(k:∀b u,h.get? b=some u->h'.get? b=some u):HOk P w H h':=fun a o e =>
 (x a o e).stay (fun b u _ q=>k b u q) (fun _ q=>q) fun _ _ q=>q
theorem HOk.laid(x:HOk P w H h)(k:∀b u,h.get? b=some u->h'.get? b=some u)(hp:h.objs.size<=a)(new:uo P w (upd H a o) h' a o):HOk P w (upd H a o) h':=fun b u e=>by
 have hn:=x.fresh hp
 by_cases hb:b=a
 ·subst hb;rw[gw] at e;cases e;exact new
 ·rw[cu hb] at e;exact(x b u e).stay (fun c v _ q=>k c v q) (fun c q=>by rw[cu (jc q hn)];exact q) fun c xs q=>by rw[cu (jc q hn)];exact q
end
def Rd(H:Hp)(a:Addr)(u:HO):Prop:=H a=some u∨∃o,H a=some (.frz o u)
theorem Rd.ok{P:Program}{w:World}{H:Hp}{h:Heap}{a:Addr}{u:HO}(r:Rd H a u)(x:HOk P w H h):uo P w H h a u:=by
 rcases r with r | ⟨o,r⟩
 ·exact x a u r
 ·obtain⟨_,q⟩:=x a _ r;exact q
def Mut:Option HO->Prop
 | some (.lst _)=>True
 | some (.dK _)=>True
 | some (.dT _)=>True
 | some (.set _ _)=>True
 | some (.ins _ _ _)=>True
 | some (.ext _)=>True
 | _=>False
section
variable{P:Program}{w:World}{H:Hp}{h h':Heap}{x e:Addr}{o':HO}
theorem HOk.write(ok:HOk P w H h)(mu:Mut (H x))(he:e=x∨H e=some (.own x))(k:∀b u,b≠e->h.get? b=some u->h'.get? b=some u)(heo:∃u,h'.get? e=some u)
  (new:uo P w (upd H x o') h' x o'):HOk P w (upd H x o') h':=fun b u q=>by
 have nown:∀c y,H c=some (.own y)->c≠x:=fun c y r z=>by subst z;rw[r] at mu;exact mu
 have ntup:∀c xs,H c=some (.tup xs)->c≠x:=fun c xs r z=>by subst z;rw[r] at mu;exact mu
 by_cases hb:b=x
 ·subst hb;rw[gw] at q;cases q;exact new
 ·rw[cu hb] at q
  by_cases hbe:b=e
  ·have q':H b=some (.own x):=by
    rcases he with z | z
    ·exact absurd (hbe.trans z) hb
    ·rw[hbe];exact z
   rw[q] at q';cases q';obtain⟨v,hv⟩:=heo;exact⟨v,by rw[hbe];exact hv⟩
  ·refine(ok b u q).stay (fun c v hc r=>k c v ?_ r) (fun c r=>by rw[cu (nown c b r)];exact r) fun c xs r=>by rw[cu (ntup c xs r)];exact r
   rcases hc with rfl | hc
   ·exact hbe
   ·rintro rfl
    rcases he with z | z
    ·exact nown c b hc z
    ·rw[hc] at z;cases z;exact hb rfl
end
structure Un (fs ex:List Addr) (H H':Hp) (h h':Heap):Prop where
 keep:∀b o,h.get? b=some o->H b=none->b∉fs->b∉ex->h'.get? b=some o
 slot:∀b o,h.get? b=some o->H b=none->b∈fs->b∉ex->∃sl,h'.get? b=some { o with slots:=sl }
 free:∀b o,h.get? b=some o->H b=none->b∉ex->H' b=none
 there:∀b o,h.get? b=some o->b∉ex->∃o',h'.get? b=some o'
 tups:∀b xs,H b=some (.tup xs)->H' b=some (.tup xs)
 frzs:∀b o u,H b=some (.frz o u)->H' b=some (.frz o u)
 tbls:∀b ps,H b=some (.tbl ps)->∃more,H' b=some (.tbl (ps++more))
section
variable{fs fs' ex ex':List Addr}{H H1 H2:Hp}{h h1 h2 h':Heap}{a x e:Addr}{o:HO}
theorem Un.any(u:Un fs ex H H1 h h1){b:Addr}{ob:Obj}(q:h.get? b=some ob)(n:H b=none)(hx:b∉ex):∃sl,h1.get? b=some { ob with slots:=sl }:=by
 by_cases hb:b∈fs
 ·exact u.slot b ob q n hb hx
 ·exact⟨ob.slots,u.keep b ob q n hb hx⟩
theorem Un.kept(k:∀b u,h.get? b=some u->h'.get? b=some u):Un fs ex H H h h' :=
 ⟨fun b ob q _ _ _=>k b ob q,fun b ob q _ _ _=>⟨ob.slots,k b ob q⟩,fun _ _ _ n _=>n,fun b ob q _=>⟨ob,k b ob q⟩,fun _ _ q=>q,fun _ _ _ q=>q,fun _ ps q=>⟨#[],by rw[q];simp⟩⟩
theorem Un.refl:Un fs ex H H h h:=Un.kept fun _ _ q=>q
theorem Un.laid(k:∀b u,h.get? b=some u->h'.get? b=some u)(hp:h.objs.size<=a)(hn:H a=none):Un fs ex H (upd H a o) h h' where
 keep:=fun b u q _ _ _=>k b u q
 slot:=fun b u q _ _ _=>⟨u.slots,k b u q⟩
 free:=fun b u q n _=>by rw[cu (Nat.ne_of_lt (Nat.lt_of_lt_of_le (Heap.lt_size q) hp))];exact n
 there:=fun b u q _=>⟨u,k b u q⟩
 tups:=fun b xs q=>by rw[cu (jc q hn)];exact q
 frzs:=fun b u xs q=>by rw[cu (jc q hn)];exact q
 tbls:=fun b ps q=>⟨#[],by rw[cu (jc q hn),q];simp⟩
theorem Un.write(mu:Mut (H x))(he:e=x∨H e=some (.own x))(k:∀b u,b≠e->h.get? b=some u->h'.get? b=some u)(heo:∃u,h'.get? e=some u):Un fs ex H (upd H x o) h h':=by
 have hx:∀b,H b=none->b≠x:=fun b n z=>by subst z;rw[n] at mu;exact mu
 have hb:∀b,H b=none->b≠e:=fun b n z=>by
  subst z;rcases he with r | r
  ·exact hx b n r
  ·rw[n] at r;cases r
 have hm:∀b u,H b=some u->¬Mut (some u)->b≠x:=fun b u q nm z=>by subst z;rw[q] at mu;exact nm mu
 refine⟨fun b u q n _ _=>k b u (hb b n) q,fun b u q n _ _=>⟨u.slots,k b u (hb b n) q⟩,fun b u q n _=>by rw[cu (hx b n)];exact n,fun b u q _ =>?_,
  fun b xs q=>by rw[cu (hm b _ q fun z=>z)];exact q,fun b u xs q=>by rw[cu (hm b _ q fun z=>z)];exact q,fun b ps q=>⟨#[],by rw[cu (hm b _ q fun z=>z),q];simp⟩⟩
 by_cases hbe:b=e
 ·subst hbe;exact heo
 ·exact⟨u,k b u hbe q⟩
end
def trk(h:Heap)(H:Hp):List Addr:=(List.range h.objs.size).filter fun a=>(H a).isSome
def hidT(h:Heap)(H:Hp):Heap:=PySem.W.hideAll h (trk h H)
theorem aqa(h:Heap)(H:Hp):(hidT h H).objs.size=h.objs.size:=PySem.W.hideAll_size _ _
theorem atf{h:Heap}{H:Hp}{b:Addr}{o:Obj}(e:h.get? b=some o)(n:H b=none):(hidT h H).get? b=some o :=
 PySem.W.hideAll_get _ e fun hm=>by
  have q:(H b).isSome=true:=(List.mem_filter.mp hm).2;rw[n] at q;simp at q
theorem awf{h:Heap}{H:Hp}{b:Addr}{o:Obj}(e:(hidT h H).get? b=some o):h.get? b=some o/\H b=none:=by
 have e':h.get? b=some o:=PySem.W.of_hideAll (trk h H) e;refine⟨e',?_⟩;cases q:H b with
 | none=>rfl
 | some x =>
  have hm:b∈trk h H:=List.mem_filter.mpr ⟨List.mem_range.mpr (Heap.lt_size e'),by simp[q]⟩
  have z:(hidT h H).get? b=none:=PySem.W.hideAll_none (trk h H) hm;rw[z] at e;cases e
def axw(g h:Heap)(L:Addr):List (Addr×Obj):=(List.range h.objs.size).filterMap fun a=>if a=L∨(g.get? a).isSome=true then none else (h.get? a).map fun o=>(a,o)
def rest(g h:Heap)(L d:Addr):List (Addr×Obj):=(axw g h L).filter fun p=>decide (p.1≠d)
structure Mod (K:Fg9) (mg:Str->Option Value) (base:Heap):Prop where
 kin:K.In base
 glob:base.Ns mainGlobals mg
 blt:∃mb,base.Ns builtinsNs mb/\∀x:Str,x ≠ "__name__" -> mb x=bootBuiltins x
 nolimit:base.NoLimit
structure Cx where
 prog:Program
 w:World
 K:Fg9
 mg:Str->Option Value
 base:Heap
 A:Around
 N:List Str
 s₀:Shared
 H₀:Hp
 env:Env
 outer:List Env
 stack:List Env
 ex:List Addr
 fn:Str->Bool
 calm:Bool
 pn:List (Addr×Obj)
 xe:Value->Shared->Prop
def frs(l:List Env):List Addr:=l.filterMap (·.frame)
abbrev Cx.fs(X:Cx):List Addr:=frs X.outer
def Vis(sc:Scope)(x:Str):Prop:=sc.names.lookup x=some .local∨sc.names.lookup x=some .cell∨sc.names.lookup x=some .free
def Loc(sc:Scope)(x:Str):Prop:=sc.names.lookup x=some .local∨sc.names.lookup x=some .cell
def Look(env:Env)(h:Heap)(m:Str->Option Value)(x:Str)(u:Value):Prop :=
 (env.kindOf x=some .local/\m x=some u)∨((env.kindOf x=some .cell∨env.kindOf x=some .free)/\∃c,env.cells.lookup x=some c/\h.IsCell c (some u))
structure Cx.Ok (X:Cx):Prop where
 mod:Mod X.K X.mg X.base
 kind:X.env.scope.kind=.function
 glob:X.env.globals=mainGlobals
 blt:X.env.builtins=builtinsNs
 above:X.s₀.heap.objs.size<=X.env.locals
 inj:∀x y c,X.env.cells.lookup x=some c->X.env.cells.lookup y=some c->x=y
 has:∀x,(X.env.kindOf x=some .cell∨X.env.kindOf x=some .free)->∃c,X.env.cells.lookup x=some c
 cab:∀x c,X.fn x=true->X.env.cells.lookup x=some c->X.s₀.heap.objs.size<=c
 hd:X.calm=true->X.A.handled=none
 frames:X.A.frames=some X.stack
 stk:X.stack=X.outer∨(X.stack=X.env::X.outer/\X.env.frame=some X.env.locals)
 exf:∀b∈X.ex,b≠X.env.locals/\∀x c,X.env.cells.lookup x=some c->c≠b
 bs:∀b o,X.base.get? b=some o->X.s₀.heap.get? b=some o/\X.H₀ b=none
 bsz:X.base.objs.size<=X.s₀.heap.objs.size
 noex:∀b o,X.base.get? b=some o->b∉X.ex
 exfs:∀b∈X.ex,b∉X.fs
 funs:X.s₀.heap.FunFrames X.base X.outer
 frf:∀b∈X.fs,X.H₀ b=none
structure Inv (X:Cx) (qv:List (Addr×Obj)) (σ:List (Option V)) (H:Hp) (s:Shared):Prop where
 ok:X.Ok
 os:s.os=X.s₀.os
 bare:AllBare s.gens
 base:Un X.fs X.ex X.H₀ H X.s₀.heap s.heap
 loc:∃m,s.heap.Ns X.env.locals m/\∀(i:Nat) (x:Str) (v:V),X.N[i]? = some x->σ[i]? = some (some v)->Vis X.env.scope x->∃u,RelV v u/\Look X.env s.heap m x u
 cell:∀x c,X.env.cells.lookup x=some c->∃v,s.heap.IsCell c v
 free:H X.env.locals=none
 freeC:∀x c,X.env.cells.lookup x=some c->H c=none
 pin:∀p∈X.pn++qv,s.heap.get? p.1=some p.2/\H p.1=none/\p.1≠X.env.locals/\p.1∉X.fs/\∀v,p.2.data≠.cell v
 hok:HOk X.prog X.w H s.heap
 len:σ.length=X.N.length
section
variable{X:Cx}{qv:List (Addr×Obj)}{σ:List (Option V)}{H H':Hp}{s:Shared}{h':Heap}
theorem Cx.Ok.nofr(ok:X.Ok){b:Addr}{o:Obj}(e:X.base.get? b=some o):b∉X.fs:=fun hb=>by
 have:=(ok.funs.mem hb).1;rw[e] at this;cases this
theorem Inv.bs(I:Inv X qv σ H s):∀b o,X.base.get? b=some o->s.heap.get? b=some o/\H b=none:=fun b o e =>
 ⟨I.base.keep b o (I.ok.bs b o e).1 (I.ok.bs b o e).2 (I.ok.nofr e) (I.ok.noex b o e),I.base.free b o (I.ok.bs b o e).1 (I.ok.bs b o e).2 (I.ok.noex b o e)⟩
theorem Inv.bk(I:Inv X qv σ H s):∀b o,X.base.get? b=some o->s.heap.get? b=some o:=fun b o e=>(I.bs b o e).1
theorem Inv.mod(I:Inv X qv σ H s):Mod X.K X.mg X.base:=I.ok.mod
theorem Inv.kIn(I:Inv X qv σ H s):X.K.In s.heap:=I.ok.mod.kin.keeps I.bk
theorem Inv.lt(I:Inv X qv σ H s):X.env.locals < s.heap.objs.size:=let ⟨_,hn,_⟩:=I.loc;hn.lt
theorem Inv.sz(I:Inv X qv σ H s):X.s₀.heap.objs.size<=s.heap.objs.size:=Nat.le_trans I.ok.above (Nat.le_of_lt I.lt)
theorem Inv.nofs(I:Inv X qv σ H s){a:Addr}(h:s.heap.objs.size<=a):a∉X.fs:=fun hb=>by
 obtain⟨_,o,ho,_⟩:=I.ok.funs.mem hb;exact absurd (Nat.lt_of_lt_of_le (Heap.lt_size ho) (Nat.le_trans I.sz h)) (Nat.lt_irrefl _)
theorem Inv.cne(I:Inv X qv σ H s):∀x c,X.env.cells.lookup x=some c->c≠X.env.locals:=fun x c e z=>by
 obtain⟨v,o,ho,hd⟩:=I.cell x c e;obtain⟨m,⟨o',es,ep,ho',hd',_⟩,_⟩:=I.loc;rw[z,ho'] at ho;cases ho;rw[hd'] at hd;cases hd
theorem Inv.funs(I:Inv X qv σ H s):s.heap.FunFrames X.base X.outer:=by
 have all:∀(l:List Env),(∀b∈frs l,b∈X.fs)->X.s₀.heap.FunFrames X.base l->s.heap.FunFrames X.base l:=by
  intro l
  induction l with
  | nil=>intro _ _;trivial
  | cons env r ih =>
   intro hs hl;obtain⟨hk,⟨L,o,hf,hn,ho,hd⟩,hr⟩:=hl;have hL:L∈X.fs:=hs L (by unfold frs;rw[List.filterMap_cons,hf];exact List.mem_cons_self)
   obtain⟨sl,e⟩:=I.base.slot L o ho (I.ok.frf L hL) hL fun z=>I.ok.exfs L z hL
   exact⟨hk,⟨L,_,hf,hn,e,hd⟩,ih (fun b hb=>hs b (by unfold frs;rw[List.filterMap_cons,hf];exact List.mem_cons_of_mem _ hb)) hr⟩
 exact all X.outer (fun _ hb=>hb) I.ok.funs
theorem Inv.stack(I:Inv X qv σ H s):s.heap.FunFrames X.base X.stack:=by
 rcases I.ok.stk with e | ⟨e,hf⟩
 ·rw[e];exact I.funs
 ·rw[e];obtain⟨m,hn,_⟩:=I.loc;refine .cons (by rw[I.ok.kind];decide) hf hn ?_ I.funs
  exact Heap.get?_none_of_le (Nat.le_trans I.ok.bsz I.ok.above)
theorem Inv.stkSub(I:Inv X qv σ H s):∀b∈frs X.stack,b∈X.env.locals::X.fs:=fun b hb=>by
 rcases I.ok.stk with e | ⟨e,hf⟩
 ·rw[e] at hb;exact List.mem_cons_of_mem _ hb
 ·rw[e] at hb;unfold frs at hb;rw[List.filterMap_cons,hf] at hb;exact hb
theorem Inv.stkFree(I:Inv X qv σ H s):∀b∈frs X.stack,H b=none:=fun b hb=>by
 rcases List.mem_cons.mp (I.stkSub b hb) with e | hb
 ·rw[e];exact I.free
 ·obtain⟨_,o,ho,_⟩:=I.ok.funs.mem hb;exact I.base.free b o ho (I.ok.frf b hb) fun z=>I.ok.exfs b z hb
theorem Inv.step{g':Array GenState}{t':Nat}{d':Drawn}{ch:List Addr}(I:Inv X qv σ H s)
  (hch:∀b∈ch,(b∈X.ex∨X.s₀.heap.objs.size<=b)/\b≠X.env.locals/\(∀x c,X.env.cells.lookup x=some c->c≠b)/\∀p∈X.pn++qv,p.1≠b)
  (keep:∀b o,b≠X.env.locals->b∉X.fs->b∉ch->s.heap.get? b=some o->H b=none->h'.get? b=some o)
  (slot:∀b o,b≠X.env.locals->b∈X.fs->b∉ch->s.heap.get? b=some o->H b=none->∃sl,h'.get? b=some { o with slots:=sl }) (free:∀b o,b∉ch->s.heap.get? b=some o->H b=none->H' b=none)
  (there:∀b o,b∉ch->s.heap.get? b=some o->∃o',h'.get? b=some o')
  (tups:∀b xs,H b=some (.tup xs)->H' b=some (.tup xs)) (frzs:∀b o u,H b=some (.frz o u)->H' b=some (.frz o u)) (tbls:∀b ps,H b=some (.tbl ps)->∃more,H' b=some (.tbl (ps++more)))
  (ns:∀m,s.heap.Ns X.env.locals m->h'.Ns X.env.locals m) (hok:HOk X.prog X.w H' h') (hg:AllBare g') :
  Inv X qv σ H' { s with heap:=h',gens:=g',drawn:=d',toks:=t' }:=by
 have neL:∀b o,X.s₀.heap.get? b=some o->b≠X.env.locals:=fun b o e=>Nat.ne_of_lt (Nat.lt_of_lt_of_le (Heap.lt_size e) I.ok.above)
 have neC:∀b o,X.s₀.heap.get? b=some o->b∉X.ex->b∉ch:=fun b o e hx hb=>by
  rcases(hch b hb).1 with z | z
  ·exact hx z
  ·exact absurd (Nat.lt_of_lt_of_le (Heap.lt_size e) z) (Nat.lt_irrefl _)
 have cellK:∀x c,X.env.cells.lookup x=some c->∀v,s.heap.IsCell c v->h'.IsCell c v:=fun x c e v hq0=>by
  obtain⟨o,ho,hd⟩:=hq0;have nch:c∉ch:=fun z=>(hch c z).2.2.1 x c e rfl
  by_cases hc:c∈X.fs
  ·obtain⟨sl,q⟩:=slot c o (I.cne x c e) hc nch ho (I.freeC x c e);exact⟨_,q,hd⟩
  ·exact⟨o,keep c o (I.cne x c e) hc nch ho (I.freeC x c e),hd⟩
 refine⟨I.ok,I.os,hg,⟨fun b o e n hb hx =>?_,fun b o e n hb hx =>?_,fun b o e n hx =>?_,fun b o e hx =>?_,fun b xs e=>tups b xs (I.base.tups b xs e),fun b o xs e=>frzs b o xs (I.base.frzs b o xs e),fun b ps e =>?_⟩,?_,fun x c e =>?_,?_,fun x c e =>?_,fun p hp =>?_,hok,I.len⟩
 ·exact keep b o (neL b o e) hb (neC b o e hx) (I.base.keep b o e n hb hx) (I.base.free b o e n hx)
 ·obtain⟨sl,e1⟩:=I.base.slot b o e n hb hx;obtain⟨sl',e2⟩:=slot b _ (neL b o e) hb (neC b o e hx) e1 (I.base.free b o e n hx);exact⟨sl',e2⟩
 ·obtain⟨o',e1⟩:=I.base.there b o e hx;exact free b o' (neC b o e hx) e1 (I.base.free b o e n hx)
 ·obtain⟨o',e1⟩:=I.base.there b o e hx;exact there b o' (neC b o e hx) e1
 ·obtain⟨m1,e1⟩:=I.base.tbls b ps e;obtain⟨m2,e2⟩:=tbls b _ e1;exact⟨m1++m2,by rw[e2,Array.append_assoc]⟩
 ·obtain⟨m,hn,hl⟩:=I.loc;refine⟨m,ns m hn,fun i x v e1 e2 e3 =>?_⟩
  obtain⟨u,r,l⟩:=hl i x v e1 e2 e3;refine⟨u,r,?_⟩;rcases l with l | ⟨k,c,e,z⟩
  ·exact .inl l
  ·exact .inr ⟨k,c,e,cellK x c e _ z⟩
 ·obtain⟨v,z⟩:=I.cell x c e;exact⟨v,cellK x c e v z⟩
 ·obtain⟨m,⟨o,_,_,ho,_⟩,_⟩:=I.loc;exact free _ o (fun z=>(hch _ z).2.1 rfl) ho I.free
 ·obtain⟨v,o,ho,hd⟩:=I.cell x c e;exact free c o (fun z=>(hch c z).2.2.1 x c e rfl) ho (I.freeC x c e)
 ·obtain⟨e,n,ne,nf,d⟩:=I.pin p hp;have nch:p.1∉ch:=fun z=>(hch p.1 z).2.2.2 p hp rfl
  exact⟨keep p.1 p.2 ne nf nch e n,free p.1 p.2 nch e n,ne,nf,d⟩
theorem Inv.un{t':Nat}(I:Inv X qv σ H s)(u:Un X.fs [] H H' s.heap h')(hok:HOk X.prog X.w H' h'):Inv X qv σ H' { s with heap:=h',toks:=t' }:=by
 obtain⟨m,⟨o,es,ep,ho,r⟩,_⟩:=id I.loc;obtain⟨sl,hL⟩:=u.any ho I.free (by simp)
 exact I.step (g':=s.gens) (d':=s.drawn) (ch:=[]) (fun _ z=>nomatch z) (fun b o _ hb _ e n=>u.keep b o e n hb (by simp)) (fun b o _ hb _ e n=>u.slot b o e n hb (by simp)) (fun b o _ e n=>u.free b o e n (by simp)) (fun b o _ e=>u.there b o e (by simp)) u.tups u.frzs u.tbls (fun m' hm=>by
  obtain⟨o',es',ep',ho',r'⟩:=hm;rw[ho] at ho';cases ho';exact⟨_,es',ep',hL,r'⟩) hok I.bare
theorem Inv.call{g':Array GenState}{t':Nat}{d':Drawn}{ch:List Addr}(I:Inv X qv σ H s)(u:Un (frs X.stack) ch H H' s.heap h')(hok:HOk X.prog X.w H' h')(hg:AllBare g')
  (hch:∀b∈ch,(b∈X.ex∨X.s₀.heap.objs.size<=b)/\b≠X.env.locals/\(∀x c,X.env.cells.lookup x=some c->c≠b)/\∀p∈X.pn++qv,p.1≠b) :
  Inv X qv σ H' { s with heap:=h',gens:=g',drawn:=d',toks:=t' }:=by
 obtain⟨m,⟨o,es,ep,ho,r⟩,_⟩:=id I.loc;obtain⟨sl,hL⟩:=u.any ho I.free fun z=>(hch _ z).2.1 rfl
 exact I.step (ch:=ch) hch (fun b o hL hb hc e n=>u.keep b o e n (fun z=>(List.mem_cons.mp (I.stkSub b z)).elim hL hb) hc) (fun b o _ _ hc e n=>u.any e n hc) (fun b o hc e n=>u.free b o e n hc) (fun b o hc e=>u.there b o e hc) u.tups u.frzs u.tbls (fun m' hm=>by
  obtain⟨o',es',ep',ho',r'⟩:=hm;rw[ho] at ho';cases ho';exact⟨_,es',ep',hL,r'⟩) hok hg
theorem Inv.turned{t':Nat}{it:Addr}(I:Inv X qv σ H s)(k:∀b o,b≠it->s.heap.get? b=some o->h'.get? b=some o)(hn:H it=none)(hL:it≠X.env.locals)
  (h1:it∈X.ex∨X.s₀.heap.objs.size<=it) (h2:∀x c,X.env.cells.lookup x=some c->c≠it) (h3:∀p∈X.pn++qv,p.1≠it):Inv X qv σ H { s with heap:=h',toks:=t' }:=by
 have nit:∀b u,H b=some u->b≠it:=fun b u e z=>by rw[z,hn] at e;cases e
 refine I.step (g':=s.gens) (d':=s.drawn) (ch:=[it]) (fun b hb =>?_) (fun b o _ _ hc e _=>k b o (fun z=>hc (by simp[z])) e) (fun b o _ _ hc e _=>⟨o.slots,k b o (fun z=>hc (by simp[z])) e⟩) (fun _ _ _ _ n=>n)
  (fun b o hc e=>⟨o,k b o (fun z=>hc (by simp[z])) e⟩) (fun _ _ e=>e) (fun _ _ _ e=>e) (fun b ps e=>⟨#[],by rw[e];simp⟩) (fun m hm =>?_) (fun b u e =>?_) I.bare
 ·have e:b=it:=by simpa using hb
  subst e;exact⟨h1,hL,h2,h3⟩
 ·obtain⟨o,es,ep,ho,r⟩:=hm;exact⟨o,es,ep,k _ o (Ne.symm hL) ho,r⟩
 ·refine(I.hok b u e).stay (fun c v hc q=>k c v ?_ q) (fun _ q=>q) fun _ _ q=>q
  rcases hc with z | z
  ·rw[z];exact nit b u e
  ·exact nit c _ z
theorem Inv.tok(I:Inv X qv σ H s)(t:Nat):Inv X qv σ H { s with toks:=t }:=I.un (h':=s.heap) (t':=t) Un.refl I.hok
theorem Inv.kept{t':Nat}(I:Inv X qv σ H s)(k:∀b u,s.heap.get? b=some u->h'.get? b=some u):Inv X qv σ H { s with heap:=h',toks:=t' }:=I.un (Un.kept k) (I.hok.kept k)
theorem Inv.laid{a:Addr}{o:HO}{t':Nat}(I:Inv X qv σ H s)(k:∀b u,s.heap.get? b=some u->h'.get? b=some u)(hp:s.heap.objs.size<=a)(new:uo X.prog X.w (upd H a o) h' a o) :
  Inv X qv σ (upd H a o) { s with heap:=h',toks:=t' }:=I.un (Un.laid k hp (I.hok.fresh hp)) (I.hok.laid k hp new)
theorem Inv.write{x e:Addr}{o:HO}{t':Nat}(I:Inv X qv σ H s)(mu:Mut (H x))(he:e=x∨H e=some (.own x))(k:∀b u,b≠e->s.heap.get? b=some u->h'.get? b=some u)(heo:∃u,h'.get? e=some u)
  (new:uo X.prog X.w (upd H x o) h' x o):Inv X qv σ (upd H x o) { s with heap:=h',toks:=t' }:=I.un (Un.write mu he k heo) (I.hok.write mu he k heo new)
theorem Inv.pins_of{pins':List (Addr×Obj)}(I:Inv X qv σ H s)(h:∀p∈pins',s.heap.get? p.1=some p.2/\H p.1=none/\p.1≠X.env.locals/\p.1∉X.fs/\∀v,p.2.data≠.cell v):Inv X pins' σ H s :=
 ⟨I.ok,I.os,I.bare,I.base,I.loc,I.cell,I.free,I.freeC,fun p hp=>(List.mem_append.mp hp).elim (fun z=>I.pin p (List.mem_append_left _ z)) (h p),I.hok,I.len⟩
theorem aip{N:List Str}(hN:N.Nodup){i j:Nat}{x:Str}(a:N[i]? = some x)(b:N[j]? = some x):i=j:=by
 obtain⟨h1,e1⟩:=List.getElem?_eq_some_iff.mp a;obtain⟨h2,e2⟩:=List.getElem?_eq_some_iff.mp b;exact(List.getElem_inj hN).mp (e1.trans e2.symm)
theorem ajg{M:Model}{A:Around}{E:Value->Shared->Prop}{i:Nat}{x:Str}{v:V}{u:Value}{Q:Unit->Shared->Prop}(I:Inv X qv σ H s)(hN:X.N.Nodup)(hi:X.N[i]? = some x)(hx:Loc X.env.scope x)(r:RelV v u)
  (h:∀s',Inv X qv (σ.set i (some v)) H s'->(∃a,Heap.SameBut a s.heap s'.heap/\(a=X.env.locals∨X.env.cells.lookup x=some a))->Q () s') (hf:X.fn x=true∨X.env.scope.names.lookup x=some .local:=by first | exact .inl rfl | exact .inr rfl | assumption):wpAny M A (storeName X.env x u) Q E s:=by
 obtain⟨m,hn,hl⟩:=id I.loc;have hcls:(X.env.scope.kind==.class||(X.env.scope.kind==.module&&X.env.locals != X.env.globals))=false:=by rw[I.ok.kind];rfl
 have hiσ:i < σ.length:=by rw[I.len];exact(List.getElem?_eq_some_iff.mp hi).1
 have cne:=I.cne;have tracked:∀{a:Addr} {h':Heap},(∃o,s.heap.get? a=some o/\H a=none)->Heap.SameBut a s.heap h'->HOk X.prog X.w H h':=fun{a h'} ha hs b ob e=>by
  obtain⟨_,_,hfree⟩:=ha;refine(I.hok b ob e).stay (fun c w' hc q=>(hs.2 c ?_).trans q) (fun _ q=>q) fun _ _ q=>q
  rintro rfl
  rcases hc with rfl | hc
  ·rw[hfree] at e;cases e
  ·rw[hfree] at hc;cases hc
 rcases hx with hk | hk
 ·refine wpAny_storeName_local hk hn (fun h' hn' hs =>?_) hcls
  obtain⟨oL,_,_,hoL,_⟩:=id hn;refine h _ ⟨I.ok,I.os,I.bare,⟨fun b o e n hb hx =>?_,fun b o e n hb hx =>?_,I.base.free,fun b o e hx =>?_,I.base.tups,I.base.frzs,I.base.tbls⟩,⟨_,hn',fun j y v' e1 e2 e3 =>?_⟩,fun y c e =>?_,I.free,I.freeC,fun p hp =>?_,tracked ⟨oL,hoL,I.free⟩ hs,by simpa using I.len⟩ ⟨_,hs,.inl rfl⟩
  ·exact(hs.2 b (Nat.ne_of_lt (Nat.lt_of_lt_of_le (Heap.lt_size e) I.ok.above))).trans (I.base.keep b o e n hb hx)
  ·obtain⟨sl,e1⟩:=I.base.slot b o e n hb hx;exact⟨sl,(hs.2 b (Nat.ne_of_lt (Nat.lt_of_lt_of_le (Heap.lt_size e) I.ok.above))).trans e1⟩
  ·obtain⟨o',e1⟩:=I.base.there b o e hx;exact⟨o',(hs.2 b (Nat.ne_of_lt (Nat.lt_of_lt_of_le (Heap.lt_size e) I.ok.above))).trans e1⟩
  ·by_cases hj:j=i
   ·subst hj;rw[hi] at e1;cases e1;rw[List.getElem?_set_self hiσ] at e2;cases e2;exact⟨u,r,.inl ⟨hk,by simp⟩⟩
   ·rw[List.getElem?_set_ne (Ne.symm hj)] at e2;obtain⟨u',r',q⟩:=hl j y v' e1 e2 e3;refine⟨u',r',?_⟩;rcases q with⟨k,e⟩ | ⟨k,c,e,z⟩
    ·refine .inl ⟨k,?_⟩;have:y≠x:=fun e=>hj (aip hN e1 (e▸hi))
     simp[this,e]
    ·exact .inr ⟨k,c,e,z.sameBut hs (cne y c e)⟩
  ·obtain⟨w',z⟩:=I.cell y c e;exact⟨w',z.sameBut hs (cne y c e)⟩
  ·obtain⟨e,n,ne,nf,d⟩:=I.pin p hp;exact⟨(hs.2 p.1 ne).trans e,n,ne,nf,d⟩
 ·have hfn:X.fn x=true:=by
   rcases hf with z | z
   ·exact z
   ·rw[z] at hk;cases hk
  obtain⟨c,hc⟩:=I.ok.has x (.inl hk);obtain⟨w',z⟩:=I.cell x c hc;refine wpAny_storeName_cell I.ok.kind hk hc z (fun h' hc' hs =>?_)
  obtain⟨oc,hoc,hocd⟩:=id z;refine h { s with heap:=h' } ⟨I.ok,I.os,I.bare,⟨fun b o e n hb hx =>?_,fun b o e n hb hx =>?_,I.base.free,fun b o e hx =>?_,I.base.tups,I.base.frzs,I.base.tbls⟩,⟨m,hn.sameBut hs (Ne.symm (cne x c hc)),fun j y v' e1 e2 e3 =>?_⟩,fun y c' e =>?_,I.free,I.freeC,fun p hp =>?_,tracked ⟨oc,hoc,I.freeC x c hc⟩ hs,by simpa using I.len⟩ ⟨c,hs,.inr hc⟩
  ·exact(hs.2 b (Nat.ne_of_lt (Nat.lt_of_lt_of_le (Heap.lt_size e) (I.ok.cab x c hfn hc)))).trans (I.base.keep b o e n hb hx)
  ·obtain⟨sl,e1⟩:=I.base.slot b o e n hb hx;exact⟨sl,(hs.2 b (Nat.ne_of_lt (Nat.lt_of_lt_of_le (Heap.lt_size e) (I.ok.cab x c hfn hc)))).trans e1⟩
  ·obtain⟨o',e1⟩:=I.base.there b o e hx;exact⟨o',(hs.2 b (Nat.ne_of_lt (Nat.lt_of_lt_of_le (Heap.lt_size e) (I.ok.cab x c hfn hc)))).trans e1⟩
  ·by_cases hj:j=i
   ·subst hj;rw[hi] at e1;cases e1;rw[List.getElem?_set_self hiσ] at e2;cases e2;exact⟨u,r,.inr ⟨.inl hk,c,hc,hc'⟩⟩
   ·rw[List.getElem?_set_ne (Ne.symm hj)] at e2;obtain⟨u',r',q⟩:=hl j y v' e1 e2 e3;refine⟨u',r',?_⟩;rcases q with q | ⟨k,c',e,z'⟩
    ·exact .inl q
    ·refine .inr ⟨k,c',e,z'.sameBut hs ?_⟩
     rintro rfl
     exact hj (aip hN e1 (I.ok.inj _ _ _ e hc▸hi))
  ·by_cases hcc:c'=c
   ·subst hcc;exact⟨_,hc'⟩
   ·obtain⟨w2,z2⟩:=I.cell y c' e;exact⟨w2,z2.sameBut hs hcc⟩
  ·obtain⟨e,n,ne,nf,d⟩:=I.pin p hp;refine⟨(hs.2 p.1 ?_).trans e,n,ne,nf,d⟩;intro q;rw[q,hoc] at e;have q':oc=p.2:=Option.some.inj e;exact d w' (by rw[<-q'];exact hocd)
theorem ac8{M:Model}{A:Around}{E:Value->Shared->Prop}{i:Nat}{x:Str}{v:V}{u:Value}{Q:Unit->Shared->Prop}(I:Inv X qv σ H s)(hN:X.N.Nodup)(hi:X.N[i]? = some x)(hx:Loc X.env.scope x)(r:RelV v u)
  (h:∀s',Inv X qv (σ.set i (some v)) H s'->Q () s') (hf:X.fn x=true∨X.env.scope.names.lookup x=some .local:=by first | exact .inl rfl | exact .inr rfl | assumption):wpAny M A (storeName X.env x u) Q E s :=
 ajg I hN hi hx r (fun s' I' _=>h s' I') hf
theorem Inv.call'{s':Shared}{ch:List Addr}(I:Inv X qv σ H s)(ho:s'.os=s.os)(u:Un (frs X.stack) ch H H' s.heap s'.heap)(hok:HOk X.prog X.w H' s'.heap)(hg:AllBare s'.gens)
  (hch:∀b∈ch,(b∈X.ex∨X.s₀.heap.objs.size<=b)/\b≠X.env.locals/\(∀x c,X.env.cells.lookup x=some c->c≠b)/\∀p∈X.pn++qv,p.1≠b):Inv X qv σ H' s':=by
 obtain⟨h',g',d',t',o'⟩:=s';have e:o'=s.os:=ho;subst e;exact I.call (g':=g') (t':=t') (d':=d') u hok hg hch
end
abbrev XK:=Value->Option Addr->Hp->Prop
abbrev St:=List (Option V)
abbrev VK:=V->Hp->Prop
abbrev TE:=St->Hp->VK->Prop
abbrev TT:=St->Hp->(Bool->Hp->Prop)->Prop
abbrev TA:=St->Hp->(List V->Hp->Prop)->Prop
structure Ends where
 nx:St->Hp->Prop
 rt:VK
 bk:St->Hp->Prop:=fun _ _=>False
 ct:St->Hp->Prop:=fun _ _=>False
abbrev TS:=Ends->St->Hp->Prop
def EP(X:Cx)(qv:List (Addr×Obj))(σ:St)(Q:VK)(u:Value)(s':Shared):Prop:=∃v H',Inv X qv σ H' s'/\RelV v u/\Q v H'
def TP(X:Cx)(qv:List (Addr×Obj))(σ:St)(Q:Bool->Hp->Prop)(b:Bool)(s':Shared):Prop:=∃H',Inv X qv σ H' s'/\Q b H'
def AP(X:Cx)(qv:List (Addr×Obj))(σ:St)(Q:List V->Hp->Prop)(us:List Value)(s':Shared):Prop:=∃vs H',Inv X qv σ H' s'/\Vals vs us/\Q vs H'
def SP(X:Cx)(qv:List (Addr×Obj))(D:Ends)(f:Flow)(s':Shared):Prop :=
 match f with
 | .next=>∃σ' H',Inv X qv σ' H' s'/\D.nx σ' H'
 | .brk=>∃σ' H',Inv X qv σ' H' s'/\D.bk σ' H'
 | .cont=>∃σ' H',Inv X qv σ' H' s'/\D.ct σ' H'
 | .ret u=>∃v σ' H',Inv X qv σ' H' s'/\RelV v u/\D.rt v H'
def PE(X:Cx)(e:Expr)(t:TE):Prop :=
 ∀(qv:List (Addr×Obj)) (s:Shared) (σ:St) (H:Hp) (Q:VK),Inv X qv σ H s->t σ H Q->wpAny (model X.prog X.w) X.A (eval e X.env) (EP X qv σ Q) X.xe s
def PT(X:Cx)(e:Expr)(t:TT):Prop :=
 ∀(qv:List (Addr×Obj)) (s:Shared) (σ:St) (H:Hp) (Q:Bool->Hp->Prop),Inv X qv σ H s->t σ H Q->wpAny (model X.prog X.w) X.A (isTrue e X.env (eval e X.env)) (TP X qv σ Q) X.xe s
def PW(X:Cx)(e:Expr)(t:TT):Prop :=
 ∀(whole:Sem Value) (qv:List (Addr×Obj)) (s:Shared) (σ:St) (H:Hp) (Q:Bool->Hp->Prop),Inv X qv σ H s->t σ H Q->wpAny (model X.prog X.w) X.A (isTrue e X.env whole) (TP X qv σ Q) X.xe s
theorem PW.pt{X:Cx}{e:Expr}{t:TT}(h:PW X e t):PT X e t:=h _
def PA(X:Cx)(es:List Expr)(t:TA):Prop :=
 ∀(pos:Pos) (qv:List (Addr×Obj)) (s:Shared) (σ:St) (H:Hp) (Q:List V->Hp->Prop),Inv X qv σ H s->t σ H Q->wpAny (model X.prog X.w) X.A (spliced (backTo pos (starEach es X.env))) (AP X qv σ Q) X.xe s
def PS(X:Cx)(st:Stmt)(t:TS):Prop :=
 ∀(qv:List (Addr×Obj)) (s:Shared) (σ:St) (H:Hp) (D:Ends),Inv X qv σ H s->t D σ H->wpAny (model X.prog X.w) X.A (exec st X.env) (SP X qv D) X.xe s
def PSs(X:Cx)(st:List Stmt)(t:TS):Prop :=
 ∀(qv:List (Addr×Obj)) (s:Shared) (σ:St) (H:Hp) (D:Ends),Inv X qv σ H s->t D σ H->wpAny (model X.prog X.w) X.A (execs st X.env) (SP X qv D) X.xe s
theorem thn{α:Type}{t:Sem α}{Q Q':α->Shared->Prop}{M:Model}{A:Around}{E:Value->Shared->Prop}{s:Shared}(h:wpAny M A t Q E s)(hQ:∀a s,Q a s->Q' a s):wpAny M A t Q' E s:=wpAny_mono h hQ fun _ _ x=>x
section
variable{X:Cx}
def tVar(i:Nat):TE:=fun σ H Q=>∃v,σ[i]? = some (some v)/\Q v H
def tC(v:V):TE:=fun _ H Q=>Q v H
theorem ayx{i:Nat}{x:Str}{pos:Pos}(hN:X.N[i]? = some x)(hv:Vis X.env.scope x)(hd:(x==("__debug__" : Str))=false:=by decide)(hcd:(x==("__classdict__" : Str))=false:=by decide):PE X (.Name x pos) (tVar i):=by
 intro qv s σ H Q I h;obtain⟨v,e,h⟩:=h;obtain⟨m,hn,hl⟩:=I.loc;obtain⟨u,r,l⟩:=hl i x v hN e hv;have fin:EP X qv σ Q u s:=⟨v,H,I,r,h⟩;rcases l with⟨hk,hm⟩ | ⟨hk,c,hc,hcell⟩
 ·exact wpAny_Name (wpAny_loadName_local I.ok.kind hk hn hm fin) hd
 ·rcases hk with hk | hk
  ·exact wpAny_Name (wpAny_loadName_cell I.ok.kind hk hc hcell fin) hd
  ·exact wpAny_Name (wpAny_loadName_free I.ok.kind hk hc hcell fin hcd) hd
theorem ay5{i j pos}:PE X (.Constant (.int i) j pos) (tC (.int i)):=fun _ _ _ H _ I h=>wpAny_Constant_int ⟨.int i,H,I.tok _,⟨_,rfl⟩,h⟩
theorem a2l{b j pos}:PE X (.Constant (.bool b) j pos) (tC (.bl b)):=fun _ _ _ H _ I h=>Constant_bool ⟨.bl b,H,I,rfl,h⟩
theorem ay2{j pos}:PE X (.Constant .none j pos) (tC .non):=fun _ _ _ H _ I h=>Constant_none ⟨.non,H,I,rfl,h⟩
theorem ayz{x j pos}:PE X (.Constant (.str x) j pos) (tC (.str x)):=fun _ _ _ H _ I h=>Calls.Constant_str ⟨.str x,H,I.tok _,⟨_,rfl⟩,h⟩
def Gl(X:Cx)(x:Str):Prop:=X.env.kindOf x=some .globalImplicit
theorem aei{E:Value->Shared->Prop}{qv:List (Addr×Obj)}{s:Shared}{σ:St}{H:Hp}{x:Str}{u:Value}{pos:Pos}{Q:Value->Shared->Prop}(I:Inv X qv σ H s)(hg:Gl X x)(hm:X.mg x=some u)(h:Q u s)
  (hd:(x==("__debug__" : Str))=false:=by decide):wpAny (model X.prog X.w) X.A (eval (.Name x pos) X.env) Q E s :=
 Calls.Name_function_global I.ok.kind hg (Calls.loadGlobal_global (by rw[I.ok.glob];exact I.mod.glob.keeps I.bk) hm h) hd
theorem aka{E:Value->Shared->Prop}{qv:List (Addr×Obj)}{s:Shared}{σ:St}{H:Hp}{x:Str}{u:Value}{pos:Pos}{Q:Value->Shared->Prop}(I:Inv X qv σ H s)(hg:Gl X x)(hm:X.mg x=none)(hv:bootBuiltins x=some u)(h:Q u s)
  (hn:x ≠ "__name__" := by decide) (hd:(x==("__debug__" : Str))=false:=by decide):wpAny (model X.prog X.w) X.A (eval (.Name x pos) X.env) Q E s:=by
 obtain⟨mb,h1,h2⟩:=I.mod.blt;exact Calls.Name_function_global I.ok.kind hg (Calls.loadGlobal_builtin (by rw[I.ok.glob];exact I.mod.glob.keeps I.bk) hm (by rw[I.ok.blt];exact h1.keeps I.bk) ((h2 x hn).trans hv) h) hd
theorem av5{x:Str}{v:V}{u:Value}{pos:Pos}(hg:Gl X x)(hm:X.mg x=some u)(r:RelV v u)(hd:(x==("__debug__" : Str))=false:=by decide):PE X (.Name x pos) (tC v) :=
 fun _ _ _ H _ I h=>aei I hg hm ⟨v,H,I,r,h⟩ hd
theorem av9{x:Str}{v:V}{u:Value}{pos:Pos}(hg:Gl X x)(hm:X.mg x=none)(hv:bootBuiltins x=some u)(r:RelV v u)(hn:x ≠ "__name__" := by decide)(hd:(x==("__debug__" : Str))=false:=by decide):PE X (.Name x pos) (tC v) :=
 fun _ _ _ H _ I h=>aka I hg hm hv ⟨v,H,I,r,h⟩ hn hd
variable{a b:Expr}{ta tb:TE}{pos:Pos}
def PC(X:Cx)(op:CmpOp)(a b:Expr)(t:TE):Prop :=
 ∀(qv:List (Addr×Obj)) (s:Shared) (σ:St) (H:Hp) (Q:VK),Inv X qv σ H s->t σ H Q ->
  wpAny (model X.prog X.w) X.A (eval a X.env) (fun v s₁=>wpAny (model X.prog X.w) X.A (eval b X.env) (fun u s₂=>wpAny (model X.prog X.w) X.A (compareOp op v u) (EP X qv σ Q) X.xe s₂) X.xe s₁) X.xe s
theorem asw(b:Expr){op:CmpOp}(h:op≠.In)(h2:op≠.NotIn):behindInMarks op b=false:=by
 have e1:(op==CmpOp.In)=false:=by cases op <;> first | rfl | exact absurd rfl h
 have e2:(op==CmpOp.NotIn)=false:=by cases op <;> first | rfl | exact absurd rfl h2
 cases b <;> simp[behindInMarks,e1,e2]
def tIsN(ta:TE):TE:=fun σ H Q=>ta σ H fun x H1=>Q (.bl (decide (x=.non))) H1
def ax7(ta:TE):TE:=fun σ H Q=>ta σ H fun x H1=>Q (.bl (!decide (x=.non))) H1
theorem RelV.none_iff{x:V}{v:Value}(r:RelV x v):(v==Value.none)=decide (x=.non):=by
 cases x with
 | non=>cases r;rfl
 | bl _=>cases r;rfl
 | int _=>obtain⟨t,rfl⟩:=r;rfl
 | str _=>obtain⟨t,rfl⟩:=r;rfl
 | byt _=>obtain⟨t,rfl⟩:=r;rfl
 | flt _=>obtain⟨t,rfl⟩:=r;rfl
 | ref _=>cases r;rfl
 | ty _=>cases r;rfl
theorem ay8{j pos'}(ha:PE X a ta):PC X .Is a (.Constant .none j pos') (tIsN ta):=by
 intro qv s σ H Q I h;refine thn (ha qv s σ H _ I h) fun v s1 ⟨x,H1,I1,r1,q1⟩ =>?_
 exact Constant_none (is_none_gen ⟨.bl _,H1,I1,by rw[r1.none_iff];rfl,q1⟩)
theorem awa{j pos'}(ha:PE X a ta):PC X .IsNot a (.Constant .none j pos') (ax7 ta):=by
 intro qv s σ H Q I h;refine thn (ha qv s σ H _ I h) fun v s1 ⟨x,H1,I1,r1,q1⟩ =>?_
 exact Constant_none (isnot_none_gen ⟨.bl _,H1,I1,by rw[r1.none_iff];rfl,q1⟩)
def tB(t:TE):TT:=fun σ H Q=>t σ H fun x H1=>∃c,x=.bl c/\Q c H1
theorem aum{op:CmpOp}{t:TE}(h:PC X op a b t)(h1:behindInMarks op b=false:=by first | exact asw _ (by decide) (by decide) | rfl):PT X (.Compare a [op] [b] pos) (tB t):=by
 intro qv s σ H Q I hw;refine wpAny_isTrue_Compare1 (thn (h qv s σ H _ I hw) fun v s1 h1=>thn h1 fun u s2 h2=>thn h2 fun c s3 ⟨x,H1,I1,r1,q1⟩ =>?_) h1
 obtain⟨d,rfl,q⟩:=q1;cases r1;exact wpAny_truthy_bool ⟨H1,I1,q⟩
theorem ayr{e:Expr}{t:TE}(h:PE X e t)(he:∀whole,isTrue e X.env whole=(do let v <-whole;standAt e.pos;holding [v] (truthy v)):=by intro _;rfl):PT X e (tB t):=by
 intro qv s σ H Q I hw;refine isTrue_plain (thn (h qv s σ H _ I hw) fun v s1 ⟨x,H1,I1,r1,q1⟩ =>?_) (he _)
 obtain⟨d,rfl,q⟩:=q1;cases r1;exact wpAny_truthy_bool ⟨H1,I1,q⟩
variable{tA tB':TT}{rest:List Expr}
def tAnd(t u:TT):TT:=fun σ H Q=>t σ H fun c H1=>if c=true then u σ H1 Q else Q false H1
def tOr(t u:TT):TT:=fun σ H Q=>t σ H fun c H1=>if c=true then Q true H1 else u σ H1 Q
def tNot(t:TT):TT:=fun σ H Q=>t σ H fun c H1=>Q (!c) H1
theorem avw(ha:PT X a tA):PW X (.BoolOp .And [a] pos) tA:=by
 intro wh qv s σ H Q I h;refine isTrue_and (thn (ha qv s σ H Q I h) fun c s1 e =>?_)
 cases c with
 | true=>exact isTrue_and_nil e
 | false=>exact e
theorem ayn(ha:PT X a tA):PW X (.BoolOp .Or [a] pos) tA:=by
 intro wh qv s σ H Q I h;refine isTrue_or (thn (ha qv s σ H Q I h) fun c s1 e =>?_)
 cases c with
 | false=>exact isTrue_or_nil e
 | true=>exact e
theorem ayo(ha:PT X a tA)(hb:PW X (.BoolOp .And (b::rest) pos) tB'):PW X (.BoolOp .And (a::b::rest) pos) (tAnd tA tB'):=by
 intro wh qv s σ H Q I h;refine isTrue_and (thn (ha qv s σ H _ I h) fun c s1 ⟨H1,I1,q1⟩ =>?_)
 cases c with
 | true=>exact hb wh qv s1 σ H1 Q I1 q1
 | false=>exact⟨H1,I1,q1⟩
theorem a2e(ha:PT X a tA)(hb:PW X (.BoolOp .Or (b::rest) pos) tB'):PW X (.BoolOp .Or (a::b::rest) pos) (tOr tA tB'):=by
 intro wh qv s σ H Q I h;refine isTrue_or (thn (ha qv s σ H _ I h) fun c s1 ⟨H1,I1,q1⟩ =>?_)
 cases c with
 | true=>exact⟨H1,I1,q1⟩
 | false=>exact hb wh qv s1 σ H1 Q I1 q1
theorem ays(ha:PT X a tA):PT X (.UnaryOp .Not a pos) (tNot tA):=by
 intro qv s σ H Q I h;exact isTrue_not (ha qv s σ H (fun c H1=>Q (!c) H1) I h)
def a2a(ta tb:TE):TE:=fun σ H Q=>ta σ H fun x H1=>∃c,x=.bl c/\if c=true then tb σ H1 Q else Q (.bl false) H1
def a1w(ta:TE):TE:=fun σ H Q=>ta σ H fun x H1=>∃c,x=.bl c/\Q (.bl (!c)) H1
theorem ay0{op}{t:TE}(h:PE X a t):PE X (.BoolOp op [a] pos) t:=fun qv s σ H Q I hw=>BoolOp_one (h qv s σ H Q I hw)
theorem ay7(ha:PE X a ta)(hb:PE X (.BoolOp .And (b::rest) pos) tb):PE X (.BoolOp .And (a::b::rest) pos) (a2a ta tb):=by
 intro qv s σ H Q I h;refine BoolOp_and (thn (ha qv s σ H _ I h) fun v s1 ⟨x,H1,I1,r1,q1⟩ =>?_)
 obtain⟨c,rfl,q1⟩:=q1;cases r1;refine wpAny_truthy_bool ?_;cases c with
 | true=>exact hb qv s1 σ H1 Q I1 q1
 | false=>exact⟨.bl false,H1,I1,rfl,q1⟩
theorem ay1(ha:PE X a ta):PE X (.UnaryOp .Not a pos) (a1w ta):=by
 intro qv s σ H Q I h;refine UnaryOp_ (thn (ha qv s σ H _ I h) fun v s1 ⟨x,H1,I1,r1,q1⟩ =>?_)
 obtain⟨c,rfl,q1⟩:=q1;cases r1;exact not_of (wpAny_truthy_bool ⟨.bl (!c),H1,I1,rfl,q1⟩)
def tIf(t:TT)(ta tb:TE):TE:=fun σ H Q=>t σ H fun c H1=>if c=true then ta σ H1 Q else tb σ H1 Q
theorem asd{c:Expr}(hc:PT X c tA)(ha:PE X a ta)(hb:PE X b tb):PE X (.IfExp c a b pos) (tIf tA ta tb):=by
 intro qv s σ H Q I h;refine wpAny_IfExp (thn (hc qv s σ H _ I h) fun d s1 ⟨H1,I1,q1⟩ =>?_)
 cases d with
 | true=>exact ha qv s1 σ H1 Q I1 q1
 | false=>exact hb qv s1 σ H1 Q I1 q1
end
def SqL(K:Fg9)(H:Hp)(a:Addr)(xs:List V):Prop :=
 Rd H a (.lst xs) ∨
  ∃(o:Obj) (its:Array Value) (n:Nat),K.lookup a=some o/\o.cls=.type "list" /\ o.dict=none/\o.data=.seq its n/\its.size<=sizeLine/\Vals xs its.toList
def SqT(K:Fg9)(H:Hp)(a:Addr)(xs:List V):Prop :=
 Rd H a (.tup xs) ∨
  ∃(o:Obj) (its:Array Value) (n:Nat),K.lookup a=some o/\o.cls=.type "tuple" /\ o.data=.seq its n/\its.size<=sizeLine/\Vals xs its.toList
def absV:Value->Option V
 | .none=>some .non
 | .bool b=>some (.bl b)
 | .int i _=>some (.int i)
 | .str x _=>some (.str x)
 | .bytes b _=>some (.byt b)
 | .float b _=>some (.flt b)
 | .ref a=>some (.ref a)
 | .type n=>some (.ty n)
 | _=>none
theorem RelV.abs{x:V}{u:Value}(r:RelV x u):absV u=some x:=by
 cases x with
 | non=>cases r;rfl
 | bl _=>cases r;rfl
 | int _=>obtain⟨t,rfl⟩:=r;rfl
 | str _=>obtain⟨t,rfl⟩:=r;rfl
 | byt _=>obtain⟨t,rfl⟩:=r;rfl
 | flt _=>obtain⟨t,rfl⟩:=r;rfl
 | ref _=>cases r;rfl
 | ty _=>cases r;rfl
theorem RelV.inj{x y:V}{u:Value}(r:RelV x u)(q:RelV y u):x=y:=Option.some.inj (r.abs.symm.trans q.abs)
theorem Vals.inj:∀{xs ys:List V} {us:List Value},Vals xs us->Vals ys us->xs=ys
 | _,_,_,.nil,.nil=>rfl
 | _,_,_,.cons r t,.cons r' t'=>by rw[r.inj r',Vals.inj t t']
section
variable{X:Cx}{qv:List (Addr×Obj)}{σ:St}{H:Hp}{s:Shared}{a:Addr}{xs ys:List V}
theorem SqL.of{K:Fg9}(h:H a=some (.lst xs)):SqL K H a xs:=.inl (.inl h)
theorem SqT.of{K:Fg9}(h:H a=some (.tup xs)):SqT K H a xs:=.inl (.inl h)
theorem Inv.list(I:Inv X qv σ H s)(h:SqL X.K H a xs):∃its:List Value,Vals xs its/\PlainL s.heap a its.toArray/\xs.length<=sizeLine:=by
 rcases h with h | ⟨o,its,n,hk,hc,hd,hs,hz,r⟩
 ·obtain⟨z,its,n,r,e⟩:=h.ok I.hok;exact⟨its,r,⟨_,n,e,rfl,rfl,rfl⟩,z⟩
 ·refine⟨its.toList,r,⟨o,n,I.kIn a o hk,hc,hd,by simpa using hs⟩,?_⟩
  have e:=r.length;simp only[Array.length_toList] at e;omega
theorem Inv.tuple(I:Inv X qv σ H s)(h:SqT X.K H a xs):∃its:List Value,Vals xs its/\IsTup s.heap a its.toArray/\xs.length<=sizeLine:=by
 rcases h with h | ⟨o,its,n,hk,hc,hs,hz,r⟩
 ·obtain⟨z,its,r,p⟩:=h.ok I.hok;exact⟨its,r,p.tup,z⟩
 ·refine⟨its.toList,r,⟨o,I.kIn a o hk,hc,n,by simpa using hs⟩,?_⟩
  have e:=r.length;simp only[Array.length_toList] at e;omega
theorem Inv.list_inj(I:Inv X qv σ H s)(h:SqL X.K H a xs)(h':SqL X.K H a ys):xs=ys:=by
 obtain⟨its,r,⟨o,n,e,_,_,d⟩,_⟩:=I.list h;obtain⟨its',r',⟨o',n',e',_,_,d'⟩,_⟩:=I.list h';rw[e] at e';cases e';rw[d] at d'
 injection d' with d1 _
 have:its=its':=by simpa using congrArg Array.toList d1
 subst this;exact r.inj r'
theorem Inv.tuple_inj(I:Inv X qv σ H s)(h:SqT X.K H a xs)(h':SqT X.K H a ys):xs=ys:=by
 obtain⟨its,r,⟨o,e,_,n,d⟩,_⟩:=I.tuple h;obtain⟨its',r',⟨o',e',_,n',d'⟩,_⟩:=I.tuple h';rw[e] at e';cases e';rw[d] at d'
 injection d' with d1 _
 have:its=its':=by simpa using congrArg Array.toList d1
 subst this;exact r.inj r'
end
abbrev Cx.wish(X:Cx)(E:Value->Shared->Prop):Cx:={ X with xe:=E }
abbrev Cx.nox(X:Cx):Cx:=X.wish fun _ _=>False
theorem Cx.Ok.wish{X:Cx}(ok:X.Ok)(E:Value->Shared->Prop):(X.wish E).Ok :=
 ⟨ok.mod,ok.kind,ok.glob,ok.blt,ok.above,ok.inj,ok.has,ok.cab,ok.hd,ok.frames,ok.stk,ok.exf,ok.bs,ok.bsz,ok.noex,ok.exfs,ok.funs,ok.frf⟩
theorem Cx.Ok.unwish{X:Cx}{E:Value->Shared->Prop}(ok:(X.wish E).Ok):X.Ok :=
 ⟨ok.mod,ok.kind,ok.glob,ok.blt,ok.above,ok.inj,ok.has,ok.cab,ok.hd,ok.frames,ok.stk,ok.exf,ok.bs,ok.bsz,ok.noex,ok.exfs,ok.funs,ok.frf⟩
section
variable{X:Cx}{qv:List (Addr×Obj)}{σ:St}{H:Hp}{s:Shared}{E:Value->Shared->Prop}
theorem Inv.wish(I:Inv X qv σ H s)(E:Value->Shared->Prop):Inv (X.wish E) qv σ H s:=⟨I.ok.wish E,I.os,I.bare,I.base,I.loc,I.cell,I.free,I.freeC,I.pin,I.hok,I.len⟩
theorem Inv.unwish(I:Inv (X.wish E) qv σ H s):Inv X qv σ H s:=⟨I.ok.unwish,I.os,I.bare,I.base,I.loc,I.cell,I.free,I.freeC,I.pin,I.hok,I.len⟩
theorem SP.unwish{D:Ends}{f:Flow}{s':Shared}(h:SP (X.wish E) qv D f s'):SP X qv D f s':=by
 cases f with
 | next=>obtain⟨σ',H',I,q⟩:=h;exact⟨σ',H',I.unwish,q⟩
 | brk=>obtain⟨σ',H',I,q⟩:=h;exact⟨σ',H',I.unwish,q⟩
 | cont=>obtain⟨σ',H',I,q⟩:=h;exact⟨σ',H',I.unwish,q⟩
 | ret u=>obtain⟨v,σ',H',I,r,q⟩:=h;exact⟨v,σ',H',I.unwish,r,q⟩
theorem PSs.nox{st:List Stmt}{t:TS}(h:PSs X.nox st t):PSs X st t:=fun qv s σ H D I hw =>
 wpAny_mono (h qv s σ H D (I.wish _) hw) (fun _ _ q=>q.unwish) fun _ _ z=>False.elim z
end
section
variable{X:Cx}{st:Stmt}{rest:List Stmt}{t u:TS}{e:Expr}{te:TE}{pos:Pos}
def a1x:TS:=fun D σ H=>D.nx σ H
def tSeq(t u:TS):TS:=fun D σ H=>t { D with nx:=u D } σ H
theorem avx:PSs X [] a1x:=fun _ _ σ H _ I h=>wpAny_execs_nil ⟨σ,H,I,h⟩
theorem aah(h1:PS X st t)(h2:PSs X rest u):PSs X (st::rest) (tSeq t u):=by
 intro qv s σ H D I h;refine wpAny_execs_cons (thn (h1 qv s σ H { D with nx:=u D } I h) fun f s1 q =>?_)
 cases f with
 | next =>
  obtain⟨σ',H',I',q⟩:=q;exact h2 qv s1 σ' H' D I' q
 | ret v=>exact q
 | brk=>exact q
 | cont=>exact q
theorem apf(h1:PS X st t):PSs X [st] t:=by
 intro qv s σ H D I h;refine wpAny_execs_cons (thn (h1 qv s σ H D I h) fun f s1 q =>?_)
 cases f with
 | next=>exact wpAny_execs_nil q
 | ret v=>exact q
 | brk=>exact q
 | cont=>exact q
theorem Inv.quiet{qv:List (Addr×Obj)}{σ:St}{H:Hp}{s:Shared}(I:Inv X qv σ H s):interactive X.env=false:=by simp[interactive,I.ok.kind]
def a1y(te:TE):TS:=fun D σ H=>te σ H fun _ H1=>D.nx σ H1
theorem apg(he:PE X e te)(hs:swapsWith e none pos.line X.env=pure false:=by rfl):PS X (.Expr e pos) (a1y te):=by
 intro qv s σ H D I h;exact wpAny_Expr_any (thn (he qv s σ H _ I h) fun v s1 ⟨x,H1,I1,r1,q1⟩=>⟨σ,H1,I1,q1⟩) I.quiet hs
def tRet(te:TE):TS:=fun D σ H=>te σ H D.rt
theorem ayt(he:PE X e te):PS X (.Return (some e) pos) (tRet te):=by
 intro qv s σ H D I h;exact wpAny_Return_some (thn (he qv s σ H _ I h) fun v s1 ⟨x,H1,I1,r1,q1⟩=>⟨x,σ,H1,I1,r1,q1⟩)
def tIfS(c:TT)(t u:TS):TS:=fun D σ H=>c σ H fun b H1=>if b=true then t D σ H1 else u D σ H1
theorem a2h{c:Expr}{a b:List Stmt}{tc:TT}(hc:PT X c tc)(ha:PSs X a t)(hb:PSs X b u):PS X (.If c a b pos) (tIfS tc t u):=by
 intro qv s σ H D I h;refine wpAny_If (thn (hc qv s σ H _ I h) fun d s1 ⟨H1,I1,q1⟩ =>?_)
 cases d with
 | true=>exact ha qv s1 σ H1 D I1 q1
 | false=>exact hb qv s1 σ H1 D I1 q1
def ax8:TS:=fun _ _ _=>False
theorem ar8:PS X st ax8:=fun _ _ _ _ _ _ h=>h.elim
end
abbrev TG:=V->St->Hp->(St->Hp->Prop)->Prop
abbrev TGs:=List V->St->Hp->(St->Hp->Prop)->Prop
def PG(X:Cx)(target:Expr)(t:TG):Prop :=
 ∀(qv:List (Addr×Obj)) (s:Shared) (σ:St) (H:Hp) (v:V) (u:Value) (Q:St->Hp->Prop),Inv X qv σ H s->RelV v u->t v σ H Q ->
  wpAny (model X.prog X.w) X.A (assign target X.env u) (fun _ s'=>∃σ' H',Inv X qv σ' H' s'/\Q σ' H') X.xe s
def PGs(X:Cx)(ts:List Expr)(t:TGs):Prop :=
 ∀(qv:List (Addr×Obj)) (s:Shared) (σ:St) (H:Hp) (vs:List V) (us:List Value) (Q:St->Hp->Prop),Inv X qv σ H s->Vals vs us->t vs σ H Q ->
  wpAny (model X.prog X.w) X.A (assignInOrder ((assignEach ts X.env).map (·.2)) us) (fun _ s'=>∃σ' H',Inv X qv σ' H' s'/\Q σ' H') X.xe s
abbrev TSet:=V->V->V->Hp->(Hp->Prop)->Prop
def PSet(X:Cx)(t:TSet):Prop :=
 ∀(qv:List (Addr×Obj)) (s:Shared) (σ:St) (H:Hp) (o i v:V) (ov iv u:Value) (Q:Hp->Prop),Inv X qv σ H s->RelV o ov->RelV i iv->RelV v u->t o i v H Q ->
  wpAny (model X.prog X.w) X.A (setItem ov iv u) (fun _ s'=>∃H',Inv X qv σ H' s'/\Q H') X.xe s
abbrev TIp:=V->V->Hp->VK->Prop
def PIp(X:Cx)(op:Operator)(t:TIp):Prop :=
 ∀(qv:List (Addr×Obj)) (s:Shared) (σ:St) (H:Hp) (x y:V) (v u:Value) (Q:VK),Inv X qv σ H s->RelV x v->RelV y u->t x y H Q ->
  wpAny (model X.prog X.w) X.A (inplaceOp op v u) (EP X qv σ Q) X.xe s
section
variable{X:Cx}{pos:Pos}
def aw5(i:Nat):TG:=fun v σ H Q=>Q (σ.set i (some v)) H
theorem ali{i:Nat}{x:Str}(hN:X.N.Nodup)(hi:X.N[i]? = some x)(hx:Loc X.env.scope x)(hf:X.fn x=true∨X.env.scope.names.lookup x=some .local:=by first | exact .inl rfl | exact .inr rfl | assumption):PG X (.Name x pos) (aw5 i):=by
 intro qv s σ H v u Q I r h;exact wpAny_assign_Name (ac8 I hN hi hx r (fun s' I'=>⟨_,H,I',h⟩) hf)
def gNil:TGs:=fun vs σ H Q=>vs=[]/\Q σ H
def a3t(t:TG)(u:TGs):TGs:=fun vs σ H Q=>∃v r,vs=v::r/\t v σ H fun σ' H'=>u r σ' H' Q
theorem apl:PGs X [] gNil:=by
 intro qv s σ H vs us Q I r h;obtain⟨e,h⟩:=h;subst e;cases r;exact assignInOrder_nil ⟨σ,H,I,h⟩
theorem aic{e:Expr}{es:List Expr}{t:TG}{u:TGs}(h1:PG X e t)(h2:PGs X es u)
  (hs:(assignEach (e::es) X.env).map (·.2)=assign e X.env::(assignEach es X.env).map (·.2):=by rfl):PGs X (e::es) (a3t t u):=by
 intro qv s σ H vs us Q I r h;obtain⟨v,vr,e1,h⟩:=h;subst e1;cases r with
 | cons r rr =>
  rw[hs];refine assignInOrder_cons (thn (h1 qv s σ H _ _ _ I r h) fun _ s1 ⟨σ1,H1,I1,q1⟩ =>?_)
  exact h2 qv s1 σ1 H1 _ _ Q I1 rr q1
def gTup(K:Fg9)(n:Nat)(t:TGs):TG:=fun v σ H Q=>∃a xs,v=.ref a/\SqT K H a xs/\xs.length=n/\t xs σ H Q
theorem aun{es:List Expr}{k:Nat}{t:TGs}{n:Nat}(hc:X.calm=true)(h:PGs X es t)
  (hn:(assignEach es X.env).length=n:=by rfl) (hst:(assignEach es X.env).findIdx? (·.1)=none:=by rfl):PG X (.Tuple es k pos) (gTup X.K n t):=by
 intro qv s σ H v u Q I r hw;obtain⟨a,xs,e1,hq,hl,hw⟩:=hw;subst e1;cases r;obtain⟨its,rv,ht,hz⟩:=I.tuple hq;refine assign_Tuple_tuple (I.ok.hd hc) ht (by simp[hn,<-hl,rv.length]) hst fun h' hx =>?_
 have I1:Inv X qv σ H { s with heap:=h' }:=I.kept (t':=s.toks) fun b o e=>hx b o (Nat.ne_of_lt (Heap.lt_size e)) e
 exact h qv _ σ H xs _ Q I1 (by simpa using rv) hw
def gSub(to ti:TE)(t:TSet):TG:=fun v σ H Q=>to σ H fun o H1=>ti σ H1 fun i H2=>t o i v H2 fun H3=>Q σ H3
theorem auo{o i:Expr}{to ti:TE}{t:TSet}(ho:PE X o to)(hi:PE X i ti)(hs:PSet X t)
  (ha:∀v,assign (.Subscript o i pos) X.env v=(do
   let ov <-holding [v] (eval o X.env)
   let iv <-holding [v,ov] (eval i X.env)
   standAt pos
   holding [v,ov,iv] (setItem ov iv v)
   release [v,ov,iv] []):=by intro _;rfl):PG X (.Subscript o i pos) (gSub to ti t):=by
 intro qv s σ H v u Q I r h;rw[ha];refine wpAny_bind (wpAny_holding (thn (ho qv s σ H _ I h) fun ov s1 ⟨x,H1,I1,r1,q1⟩ =>?_))
 refine wpAny_bind (wpAny_holding (thn (hi qv s1 σ H1 _ I1 q1) fun iv s2 ⟨y,H2,I2,r2,q2⟩ =>?_))
 refine wpAny_bind (wpAny_standAt (wpAny_bind (wpAny_holding (thn (hs qv s2 σ H2 x y v ov iv u _ I2 r1 r2 r q2) fun _ s3 ⟨H3,I3,q3⟩ =>?_))))
 exact wpAny_release ⟨σ,H3,I3,q3⟩
def tAsg(te:TE)(g:TG):TS:=fun D σ H=>te σ H fun x H1=>g x σ H1 D.nx
theorem amt{tg e:Expr}{te:TE}{g:TG}(he:PE X e te)(hg:PG X tg g)(hs:swapsWithSole [tg] e pos.line X.env=pure false:=by rfl)(hw:swappedStores [tg] e X.env=pure none:=by rfl)
  (h1:(assignEach [tg] X.env).map (·.2)=[assign tg X.env]:=by rfl):PS X (.Assign [tg] e pos) (tAsg te g):=by
 intro qv s σ H D I h;refine wpAny_Assign_stores (thn (he qv s σ H _ I h) fun v s1 ⟨x,H1,I1,r1,q1⟩ =>?_) hs hw
 rw[h1];exact thn (hg qv s1 σ H1 x v _ I1 r1 q1) fun _ s2 q=>q
theorem ams{i:Nat}{x:Str}{e:Expr}{te:TE}{pos':Pos}(hN:X.N.Nodup)(hi:X.N[i]? = some x)(hx:Loc X.env.scope x)(he:PE X e te)(hs:swapsWith e (some (.Name x pos')) pos.line X.env=pure false:=by rfl)(hf:X.fn x=true∨X.env.scope.names.lookup x=some .local:=by first | exact .inl rfl | exact .inr rfl | assumption) :
  PS X (.Assign [.Name x pos'] e pos) (tAsg te (aw5 i)):=by
 intro qv s σ H D I h;refine wpAny_Assign_Name (thn (he qv s σ H _ I h) fun v s1 ⟨y,H1,I1,r1,q1⟩ =>?_) hs
 exact ac8 I1 hN hi hx r1 (fun s2 I2=>⟨_,H1,I2,q1⟩) hf
def tAug(i:Nat)(te:TE)(ti:TIp):TS:=fun D σ H=>∃x,σ[i]? = some (some x)/\te σ H fun y H1=>ti x y H1 fun z H2=>D.nx (σ.set i (some z)) H2
theorem ayv{i:Nat}{x:Str}{e:Expr}{te:TE}{op:Operator}{ti:TIp}{pos':Pos}(hN:X.N.Nodup)(hi:X.N[i]? = some x)(hx:Loc X.env.scope x)(he:PE X e te)(ho:PIp X op ti)(hf:X.fn x=true∨X.env.scope.names.lookup x=some .local:=by first | exact .inl rfl | exact .inr rfl | assumption) :
  PS X (.AugAssign (.Name x pos') op e pos) (tAug i te ti):=by
 intro qv s σ H D I h;obtain⟨v,e1,h⟩:=h;obtain⟨m,hn,hl⟩:=I.loc;have vis:Vis X.env.scope x:=by rcases hx with k | k;exact .inl k;exact .inr (.inl k)
 obtain⟨u,r,l⟩:=hl i x v hi e1 vis;refine wpAny_AugAssign_Name ?_;have go:wpAny (model X.prog X.w) X.A (eval e X.env) (fun w s₂=>wpAny (model X.prog X.w) X.A (inplaceOp op u w) (fun r s₃=>wpAny (model X.prog X.w) X.A (storeName X.env x r) (fun _=>SP X qv D .next) X.xe s₃) X.xe s₂) X.xe s:=by
  refine thn (he qv s σ H _ I h) fun w s1 ⟨y,H1,I1,r1,q1⟩ =>?_
  refine thn (ho qv s1 σ H1 v y u w _ I1 r r1 q1) fun z s2 ⟨zv,H2,I2,r2,q2⟩ =>?_
  exact ac8 I2 hN hi hx r2 (fun s3 I3=>⟨_,H2,I3,q2⟩) hf
 rcases l with⟨hk,hm⟩ | ⟨hk,c,hc,hcell⟩
 ·exact wpAny_loadName_local I.ok.kind hk hn hm go
 ·rcases hk with hk | hk
  ·exact wpAny_loadName_cell I.ok.kind hk hc hcell go
  ·rcases hx with k | k
   ·have:X.env.scope.names.lookup x=some .free:=hk;rw[k] at this;cases this
   ·have:X.env.scope.names.lookup x=some .free:=hk;rw[k] at this;cases this
def ipI(f:Int->Int->Int):TIp:=fun x y H Q=>∃i j,x=.int i/\y=.int j/\Q (.int (f i j)) H
theorem auw:PIp X .Add (ipI fun i j=>i+j):=by
 intro qv s σ H x y v u Q I r1 r2 h;obtain⟨i,j,e1,e2,q⟩:=h;subst e1;subst e2;obtain⟨t,rfl⟩:=r1;obtain⟨t',rfl⟩:=r2;exact iadd_int ⟨.int _,H,I.tok _,⟨_,rfl⟩,q⟩
end
section
variable{X:Cx}{pos:Pos}
def ax6(c:TT)(tb:TS):TS:=fun D σ H=>∃W:Nat->St->Hp->Prop,(∃m,W m σ H)/\∀m σ H,W m σ H ->
 c σ H fun b H1=>if b=true then ∃N:St->Hp->Prop,(∀σ' H',N σ' H'->∃m',m' < m/\W m' σ' H')/\tb { D with nx:=N,ct:=N,bk:=D.nx } σ H1 else D.nx σ H1
theorem amr{c:Expr}{body:List Stmt}{tc:TT}{tb:TS}(hp:PassesOwn (model X.prog X.w) X.A X.env X.xe)(hc:PT X c tc)(hb:PSs X body tb):PS X (.While c body [] pos) (ax6 tc tb):=by
 intro qv s σ H D I h;obtain⟨W,⟨m0,w0⟩,turn⟩:=h;refine wpAny_While (codeAny_whileLoop (fun n s'=>∃σ' H',Inv X qv σ' H' s'/\W n σ' H') ?_ m0 ⟨σ,H,I,w0⟩)
 rintro n s1 ⟨σ1,H1,I1,w1⟩
 refine wpAny_passesOwn hp (thn (hc qv s1 σ1 H1 _ I1 (turn n σ1 H1 w1)) fun b s2 ⟨H2,I2,q2⟩ =>?_)
 cases b with
 | true =>
  obtain⟨N,hN,q2⟩:=q2;rw[if_pos rfl];refine wpAny_passesOwn hp (thn (hb qv s2 σ1 H2 _ I2 q2) fun f s3 q3 =>?_)
  cases f with
  | next =>
   obtain⟨σ3,H3,I3,n3⟩:=q3;obtain⟨m',hm,w3⟩:=hN σ3 H3 n3;exact⟨m',hm,σ3,H3,I3,w3⟩
  | cont =>
   obtain⟨σ3,H3,I3,n3⟩:=q3;obtain⟨m',hm,w3⟩:=hN σ3 H3 n3;exact⟨m',hm,σ3,H3,I3,w3⟩
  | brk=>exact q3
  | ret v=>exact q3
 | false =>
  rw[if_neg Bool.false_ne_true];exact wpAny_execs_nil ⟨σ1,H2,I2,q2⟩
end
structure It where
 go:Nat->Hp->Prop
 yld:Nat->Hp->V->Hp->Prop
 stop:Nat->Hp->Prop
def FpOk(X:Cx)(qv:List (Addr×Obj))(H:Hp)(b:Addr):Prop :=
 H b=none/\b≠X.env.locals/\b∉X.fs/\(b∈X.ex∨X.s₀.heap.objs.size<=b)/\(∀x c,X.env.cells.lookup x=some c->c≠b)/\∀p∈X.pn++qv,p.1≠b
theorem Inv.fpOk{X:Cx}{qv:List (Addr×Obj)}{σ:St}{H H':Hp}{s:Shared}{b:Addr}(I:Inv X qv σ H s)(hb:s.heap.objs.size<=b)(hn:H' b=none):FpOk X qv H' b:=by
 refine⟨hn,Nat.ne_of_gt (Nat.lt_of_lt_of_le I.lt hb),I.nofs hb,.inr (Nat.le_trans I.sz hb),fun x c e z =>?_,fun p hp z =>?_⟩
 ·obtain⟨v,q⟩:=I.cell x c e;exact absurd (Nat.lt_of_lt_of_le q.lt (by rw[z];exact hb)) (Nat.lt_irrefl _)
 ·exact absurd (Nat.lt_of_lt_of_le (Heap.lt_size (I.pin p hp).1) (by rw[z];exact hb)) (Nat.lt_irrefl _)
structure Turn (P:Program) (w:World) (K:Fg9) (tg:Expr) (J:It) (fp:List Addr) (it:Addr) (tn:Nat->Heap->Prop):Prop where
 mem:it∈fp
 obj:∀i h,tn i h->∀b∈fp,∃o,h.get? b=some o/\∀v,o.data≠.cell v
 keep:∀i h h',tn i h->(∀b∈fp,∀o,h.get? b=some o->h'.get? b=some o)->tn i h'
 item:∀(X:Cx),X.prog=P->X.w=w->X.K=K->X.calm=true->∀(i:Nat) (qv:List (Addr×Obj)) (s:Shared) (σ:St) (H:Hp) (E:Value->Shared->Prop),Inv X qv σ H s->(∀b∈fp,FpOk X qv H b)->tn i s.heap->J.go i H ->
  wpAny (model P w) X.A (pyNext (.ref it)) (fun r s1=>∃u,r=some u /\
   wpAny (model P w) X.A (letOwnedTupleGo tg (.ref it) u) (fun _ s2=>∃x H',Inv X qv σ H' s2/\RelV x u/\J.yld i H x H'/\tn (i+1) s2.heap/\∀b∈fp,H' b=none) E s1) E s
 done:∀(X:Cx),X.prog=P->X.w=w->X.K=K->X.calm=true->∀(i:Nat) (qv:List (Addr×Obj)) (s:Shared) (σ:St) (H:Hp) (E:Value->Shared->Prop),Inv X qv σ H s->(∀b∈fp,FpOk X qv H b)->tn i s.heap->J.stop i H ->
  wpAny (model P w) X.A (pyNext (.ref it)) (fun r s1=>r=none/\Inv X qv σ H s1) E s
 self:∀(A:Around) (i:Nat) (s:Shared) (Q:Value->Shared->Prop) (E:Value->Shared->Prop),tn i s.heap->Q (.ref it) s->wpAny (model P w) A (pyIter (.ref it)) Q E s
abbrev TI:=St->Hp->(It->Hp->Prop)->Prop
def PIE(X:Cx)(qv:List (Addr×Obj))(σ:St)(tg:Expr)(R:It->Hp->Prop)(itv:Value)(s2:Shared):Prop :=
 ∃(it:Addr) (fp:List Addr) (tn:Nat->Heap->Prop) (J:It) (H':Hp),itv=.ref it/\Inv X qv σ H' s2/\Turn X.prog X.w X.K tg J fp it tn/\tn 0 s2.heap/\(∀b∈fp,FpOk X qv H' b)/\R J H'
def PI(X:Cx)(tg iter:Expr)(wi:TI):Prop :=
 ∀(qv:List (Addr×Obj)) (s:Shared) (σ:St) (H:Hp) (R:It->Hp->Prop),Inv X qv σ H s->wi σ H R ->
  wpAny (model X.prog X.w) X.A (eval iter X.env) (fun v s1=>wpAny (model X.prog X.w) X.A (pyIter v) (PIE X qv σ tg R) X.xe s1) X.xe s
theorem aw3{M:Model}{A:Around}{E:Value->Shared->Prop}{s:Shared}{tg:Expr}{it:Addr}{u:Value}{o:Obj}{n:String}{vs:Array Value}{Q:Unit->Shared->Prop}(ho:s.heap.get? it=some o)(hc:o.cls=.type n)(hd:o.data=.fields vs)
  (hn:["enumerate","zip","dict_itemiterator","dict_reverseitemiterator","odict_iterator","itertools.zip_longest","itertools.pairwise"].contains n=false) (hQ:Q () s):wpAny M A (letOwnedTupleGo tg (.ref it) u) Q E s:=by
 unfold letOwnedTupleGo;cases tg <;> first
  | exact wpAny_pure hQ
  | (cases u <;> first
    | exact wpAny_pure hQ
    | (refine wpAny_bind (wpAny_load ho ?_)
       rw[hc,hd];show wpAny M A (if (["enumerate","zip","dict_itemiterator","dict_reverseitemiterator","odict_iterator","itertools.zip_longest","itertools.pairwise"].contains n&&vs[0]? == some (rawInt _))=true then _ else _) Q E s
       rw[if_neg (by intro h;rw[hn,Bool.false_and] at h;cases h)]
       exact wpAny_pure hQ))
def Itl(K:Fg9)(a:Addr):It :=
 ⟨fun i H=>∃xs x,SqL K H a xs/\xs[i]? = some x,fun i H x H'=>H'=H/\∀xs,SqL K H a xs->xs[i]? = some x,fun i H=>∃xs,SqL K H a xs/\xs.length<=i⟩
def Itt(K:Fg9)(a:Addr):It :=
 ⟨fun i H=>∃xs x,SqT K H a xs/\xs[i]? = some x,fun i H x H'=>H'=H/\∀xs,SqT K H a xs->xs[i]? = some x,fun i H=>∃xs,SqT K H a xs/\xs.length<=i⟩
def Itr(lo:Int)(n:Nat):It:=⟨fun i _=>i < n,fun i H x H'=>H'=H/\x=.int (lo+i),fun i _=>n<=i⟩
theorem aoz{P:Program}{w:World}{K:Fg9}{tg:Expr}(a it:Addr):Turn P w K tg (Itl K a) [it] it (fun i h=>h.IsListIter it a i) where
 mem:=by simp
 obj:=fun i h st b hb=>by
  have e:b=it:=by simpa using hb
  subst e;obtain⟨o,e,c,d⟩:=st;exact⟨o,e,fun v z=>by rw[d] at z;cases z⟩
 keep:=fun i h h' st k=>st.at fun o e=>k it (by simp) o e
 item:=by
  intro X hP hw hK hc i qv s σ H E I hf st hg;subst hP hw hK;obtain⟨xs,x,hq,hx⟩:=hg;obtain⟨its,rv,p,hz⟩:=I.list hq;obtain⟨u,hu,ru⟩:=rv.get hx;obtain⟨f0,f1,f2,f3,f4,f5⟩:=hf it (by simp)
  refine wpAny_pyNext_list_item st p.isList (x:=u) (by simpa using hu) fun h' st' sb =>?_
  have I1:Inv X qv σ H { s with heap:=h' }:=I.turned (t':=s.toks) (fun b o hb e=>(sb.2 b hb).trans e) f0 f1 f3 f4 f5
  obtain⟨o,e,c,d⟩:=id st';exact⟨u,rfl,aw3 (s:={ s with heap:=h' }) e c d (by decide) ⟨x,H,I1,ru,⟨rfl,fun ys hy=>by rw[I.list_inj hy hq];exact hx⟩,st',fun b hb=>(hf b hb).1⟩⟩
 done:=by
  intro X hP hw hK hc i qv s σ H E I hf st hg;subst hP hw hK;obtain⟨xs,hq,hx⟩:=hg;obtain⟨its,rv,p,hz⟩:=I.list hq;obtain⟨f0,f1,f2,f3,f4,f5⟩:=hf it (by simp)
  have hl:=rv.length;exact wpAny_pyNext_list_end (I.ok.hd hc) st p.isList (by simp;omega) fun h' eb=>⟨rfl,I.turned (t':=s.toks) (fun b o hb e=>eb b o hb e) f0 f1 f3 f4 f5⟩
 self:=fun _ _ _ _ _ st h=>wpAny_pyIter_listiter st h
theorem an0{P:Program}{w:World}{K:Fg9}{tg:Expr}(a it:Addr):Turn P w K tg (Itt K a) [it] it (fun i h=>h.IsTupleIter it a i) where
 mem:=by simp
 obj:=fun i h st b hb=>by
  have e:b=it:=by simpa using hb
  subst e;obtain⟨o,e,c,d⟩:=st;exact⟨o,e,fun v z=>by rw[d] at z;cases z⟩
 keep:=fun i h h' st k=>st.at fun o e=>k it (by simp) o e
 item:=by
  intro X hP hw hK hc i qv s σ H E I hf st hg;subst hP hw hK;obtain⟨xs,x,hq,hx⟩:=hg;obtain⟨its,rv,p,hz⟩:=I.tuple hq;obtain⟨u,hu,ru⟩:=rv.get hx;obtain⟨f0,f1,f2,f3,f4,f5⟩:=hf it (by simp)
  refine wpAny_pyNext_tuple_item st (show s.heap.IsTuple a its.toArray from p) (x:=u) (by simpa using hu) fun h' st' sb =>?_
  have I1:Inv X qv σ H { s with heap:=h' }:=I.turned (t':=s.toks) (fun b o hb e=>(sb.2 b hb).trans e) f0 f1 f3 f4 f5
  obtain⟨o,e,c,d⟩:=id st';exact⟨u,rfl,aw3 (s:={ s with heap:=h' }) e c d (by decide) ⟨x,H,I1,ru,⟨rfl,fun ys hy=>by rw[I.tuple_inj hy hq];exact hx⟩,st',fun b hb=>(hf b hb).1⟩⟩
 done:=by
  intro X hP hw hK hc i qv s σ H E I hf st hg;subst hP hw hK;obtain⟨xs,hq,hx⟩:=hg;obtain⟨its,rv,p,hz⟩:=I.tuple hq;obtain⟨f0,f1,f2,f3,f4,f5⟩:=hf it (by simp)
  have hl:=rv.length;exact wpAny_pyNext_tuple_end (I.ok.hd hc) st (show s.heap.IsTuple a its.toArray from p) (by simp;omega) fun h' eb=>⟨rfl,I.turned (t':=s.toks) (fun b o hb e=>eb b o hb e) f0 f1 f3 f4 f5⟩
 self:=fun _ _ _ _ _ st h=>wpAny_pyIter_tupleiter st h
theorem an1{P:Program}{w:World}{K:Fg9}{tg:Expr}(it:Addr)(lo:Int)(n:Nat):Turn P w K tg (Itr lo n) [it] it (fun i h=>IsRangeIter h it (lo+(i:Nat)*1) ((n:Int) - (i:Nat)) 1) where
 mem:=by simp
 obj:=fun i h st b hb=>by
  have e:b=it:=by simpa using hb
  subst e;exact⟨_,st,fun v z=>by
   have z':Data.fields _=Data.cell v:=z;cases z'⟩
 keep:=fun i h h' st k=>k it (by simp) _ st
 item:=by
  intro X hP hw hK hc i qv s σ H E I hf st hg;subst hP hw hK;obtain⟨f0,f1,f2,f3,f4,f5⟩:=hf it (by simp)
  have W:=Walks.range (prog:=X.prog) (w:=X.w) (I.ok.hd hc) it lo 1 n;refine W.item i s _ _ hg st fun v h' tk hv st' kk =>?_
  obtain⟨t,rfl⟩:=hv;have I1:Inv X qv σ H { s with heap:=h',toks:=tk }:=I.turned (fun b o hb e=>kk b o (by simpa using hb) e) f0 f1 f3 f4 f5
  refine⟨_,rfl,aw3 (s:={ s with heap:=h',toks:=tk }) (n := "range_iterator") st' rfl rfl (by decide) ⟨.int (lo+i),H,I1,⟨t,?_⟩,⟨rfl,rfl⟩,st',fun b hb=>(hf b hb).1⟩⟩
  rw[Int.mul_one]
 done:=by
  intro X hP hw hK hc i qv s σ H E I hf st hg;subst hP hw hK;obtain⟨f0,f1,f2,f3,f4,f5⟩:=hf it (by simp)
  exact wpAny_pyNext_range_end (I.ok.hd hc) st (by have:n<=i:=hg;omega) fun h' eb=>⟨rfl,I.turned (t':=s.toks) (fun b o hb e=>eb b o hb e) f0 f1 f3 f4 f5⟩
 self:=fun _ _ _ _ _ st h=>wpAny_pyIter_rangeiter st h
section
variable{X:Cx}{tg:Expr}
def a3n(K:Fg9)(tl:TE):TI:=fun σ H R=>tl σ H fun x H1=>∃a,x=.ref a/\(∃xs,SqL K H1 a xs)/\R (Itl K a) H1
def iTup(K:Fg9)(tl:TE):TI:=fun σ H R=>tl σ H fun x H1=>∃a,x=.ref a/\(∃xs,SqT K H1 a xs)/\R (Itt K a) H1
theorem apk{l:Expr}{tl:TE}(hl:PE X l tl):PI X tg l (a3n X.K tl):=by
 intro qv s σ H R I h;refine thn (hl qv s σ H _ I h) fun v s1 ⟨x,H1,I1,r1,q1⟩ =>?_
 obtain⟨a,e,⟨xs,hq⟩,q⟩:=q1;subst e;cases r1;obtain⟨its,rv,p,hz⟩:=I1.list hq;refine wpAny_pyIter_list p.isList ?_;refine⟨s1.heap.objs.size,[s1.heap.objs.size],_,_,H1,rfl,I1.kept (t':=s1.toks) fun b o e=>Heap.get?_push_of_some _ e,aoz a _,⟨_,Heap.get?_push_size _ rfl,rfl,rfl⟩,fun b hb =>?_,q⟩
 have e:b=s1.heap.objs.size:=by simpa using hb
 subst e;exact I1.fpOk (Nat.le_refl _) (I1.hok.fresh (Nat.le_refl _))
theorem ayw{l:Expr}{tl:TE}(hl:PE X l tl):PI X tg l (iTup X.K tl):=by
 intro qv s σ H R I h;refine thn (hl qv s σ H _ I h) fun v s1 ⟨x,H1,I1,r1,q1⟩ =>?_
 obtain⟨a,e,⟨xs,hq⟩,q⟩:=q1;subst e;cases r1;obtain⟨its,rv,p,hz⟩:=I1.tuple hq;refine wpAny_pyIter_tuple (show s1.heap.IsTuple a its.toArray from p) ?_
 refine⟨s1.heap.objs.size,[s1.heap.objs.size],_,_,H1,rfl,I1.kept (t':=s1.toks) fun b o e=>Heap.get?_push_of_some _ e,an0 a _,⟨_,Heap.get?_push_size _ rfl,rfl,rfl⟩,fun b hb =>?_,q⟩
 have e:b=s1.heap.objs.size:=by simpa using hb
 subst e;exact I1.fpOk (Nat.le_refl _) (I1.hok.fresh (Nat.le_refl _))
theorem ar6{qv:List (Addr×Obj)}{σ:St}{H:Hp}{s:Shared}{R:It->Hp->Prop}{E:Value->Shared->Prop}{lo hi:Int}{t u v:Tok}{tk:Nat}(I:Inv X qv σ H s)(h1 : -(2 ^ 62)<=lo)(h2:lo < 2 ^ 62)(h3 : -(2 ^ 62)<=hi)(h4:hi < 2 ^ 62)
  (q:R (Itr lo (hi - lo).toNat) H):wpAny (model X.prog X.w) X.A (pyIter (.ref s.heap.objs.size)) (PIE X qv σ tg R) E { s with heap:=s.heap.push { cls:=.type "range", data:=.fields #[.int lo t,.int hi u,.int 1 v] },toks:=tk }:=by
 refine wpAny_pyIter_range (IsRange.new ..) (small_one h1 h2 h3 h4) ?_;have I1:Inv X qv σ H { s with heap:=s.heap.push { cls:=.type "range", data:=.fields #[.int lo t,.int hi u,.int 1 v] },toks:=tk }:=I.kept fun b o e=>Heap.get?_push_of_some _ e
 refine⟨(s.heap.push { cls:=.type "range", data:=.fields #[.int lo t,.int hi u,.int 1 v] }).objs.size,[(s.heap.push { cls:=.type "range", data:=.fields #[.int lo t,.int hi u,.int 1 v] }).objs.size],_,_,H,rfl,
  I1.kept (t':=tk) fun b o e=>Heap.get?_push_of_some _ e,an1 _ lo (hi - lo).toNat,?_,fun b hb =>?_,q⟩
 ·have e1:lo+((0:Nat):Int)*1=lo:=by simp
  have e2:(((hi - lo).toNat:Nat):Int) - ((0:Nat):Int)=Builtin.Range.rangeSize lo hi 1:=by rw[rangeSize_one];split <;> omega
  show IsRangeIter _ _ (lo+((0:Nat):Int)*1) ((((hi - lo).toNat:Nat):Int) - ((0:Nat):Int)) 1;rw[e1,e2];exact Heap.get?_push_size _ rfl
 ·have e:b=(s.heap.push { cls:=.type "range", data:=.fields #[.int lo t,.int hi u,.int 1 v] }).objs.size:=by simpa using hb
  subst e;exact I1.fpOk (Nat.le_refl _) (I1.hok.fresh (Nat.le_refl _))
def a3m(ta:TA):TI:=fun σ H R=>ta σ H fun vs H1=>∃j:Int,vs=[.int j] /\ -(2 ^ 62)<=j/\j < 2 ^ 62/\R (Itr 0 j.toNat) H1
theorem apj{a:Expr}{ta:TA}{p pos:Pos}(hg:Gl X "range")(hm:X.mg "range" = none)(ha:PA X [a] ta)(hs:starEach [a] X.env=[(false,eval a X.env)]:=by rfl):PI X tg (.Call (.Name "range" p) [a] [] pos) (a3m ta):=by
 intro qv s σ H R I h;refine Call_ (aka I hg hm boot_range (PyProof.Rows.callWith_type1 (thn (ha pos qv s σ H _ I h) fun us s1 ⟨vs,H1,I1,r1,q1⟩ =>?_) hs rfl))
 obtain⟨j,e,q1,q2,q⟩:=q1;subst e;cases r1 with
 | cons r rr =>
  cases rr;obtain⟨t,rfl⟩:=r;exact call_range_1 (ar6 I1 (by omega) (by omega) q1 q2 (by simpa using q))
def tFor(wi:TI)(g:TG)(tb:TS):TS:=fun D σ H=>wi σ H fun J H1=>∃W:Nat->Nat->St->Hp->Prop,(∃m,W 0 m σ H1)/\∀i m σ H,W i m σ H ->
 (J.stop i H/\D.nx σ H)∨(J.go i H/\∃N:St->Hp->Prop,(∀σ' H',N σ' H'->∃m',m' < m/\W (i+1) m' σ' H')/\∀x H',J.yld i H x H'->g x σ H' fun σ2 H2=>tb { D with nx:=N,ct:=N,bk:=D.nx } σ2 H2)
def ajq(fp:List Addr)(h:Heap):List (Addr×Obj):=fp.filterMap fun b=>(h.get? b).map fun o=>(b,o)
theorem abw{fp:List Addr}{h:Heap}{b:Addr}{o:Obj}(hb:b∈fp)(e:h.get? b=some o):(b,o)∈ajq fp h:=List.mem_filterMap.mpr ⟨b,hb,by rw[e];rfl⟩
theorem apq{fp:List Addr}{h:Heap}{p:Addr×Obj}(hp:p∈ajq fp h):p.1∈fp/\h.get? p.1=some p.2:=by
 obtain⟨b,hb,e⟩:=List.mem_filterMap.mp hp;cases q:h.get? b with
 | none=>rw[q] at e;cases e
 | some o =>
  rw[q] at e;have e':(b,o)=p:=Option.some.inj e;subst e';exact⟨hb,q⟩
theorem Inv.pinned{qv:List (Addr×Obj)}{σ:St}{H:Hp}{s:Shared}{fp:List Addr}(I:Inv X qv σ H s)(hf:∀b∈fp,FpOk X qv H b)(ho:∀b∈fp,∃o,s.heap.get? b=some o/\∀v,o.data≠.cell v):Inv X (qv++ajq fp s.heap) σ H s :=
 I.pins_of fun p hp=>(List.mem_append.mp hp).elim (fun z=>I.pin p (List.mem_append_right _ z)) fun z=>by
  obtain⟨hb,e⟩:=apq z;obtain⟨f0,f1,f2,_⟩:=hf p.1 hb;obtain⟨o,e',d⟩:=ho p.1 hb;rw[e] at e';cases e';exact⟨e,f0,f1,f2,d⟩
theorem Inv.unpinned{qv pl:List (Addr×Obj)}{σ:St}{H:Hp}{s:Shared}(I:Inv X (qv++pl) σ H s):Inv X qv σ H s:=I.pins_of fun p hp=>I.pin p (List.mem_append_right _ (List.mem_append_left _ hp))
theorem ayu{iter:Expr}{body:List Stmt}{wi:TI}{g:TG}{tb:TS}{pos:Pos}(hp:PassesOwn (model X.prog X.w) X.A X.env X.xe)(hc:X.calm=true)(hi:PI X tg iter wi)(hg:PG X tg g)(hb:PSs X body tb)
  (hs:∀x,foldedSetIterable iter X.env x=pure x:=by intro _;rfl):PS X (.For tg iter body [] pos) (tFor wi g tb):=by
 intro qv s σ H D I h;refine wpAny_For (thn (hi qv s σ H _ I h) fun v s1 h1=>thn h1 fun itv s2 h2 =>?_) hs
 obtain⟨it,fp,tn,J,H2,e,I2,T,st2,f2,W,⟨m0,w0⟩,turn⟩:=h2;subst e;have stat:∀{H':Hp},(∀b∈fp,H' b=none)->∀b∈fp,FpOk X qv H' b:=fun hn b hb=>⟨hn b hb,(f2 b hb).2⟩
 refine codeAny_forLoop_any (fun n s'=>∃i σ' H',Inv X qv σ' H' s'/\tn i s'.heap/\(∀b∈fp,H' b=none)/\W i n σ' H') ?_ m0 ⟨0,σ,H2,I2,st2,fun b hb=>(f2 b hb).1,w0⟩
 rintro n s3 ⟨i,σ3,H3,I3,st3,fr3,w3⟩
 rcases turn i n σ3 H3 w3 with⟨stop,qn⟩ | ⟨go,N,hN,step⟩
 ·refine wpAny_passesOwn hp (thn (T.done X rfl rfl rfl hc i qv s3 σ3 H3 X.xe I3 (stat fr3) st3 stop) fun r s4 ⟨hr,I4⟩ =>?_)
  subst hr;exact wpAny_execs_nil ⟨σ3,H3,I4,qn⟩
 ·refine wpAny_passesOwn hp (thn (T.item X rfl rfl rfl hc i qv s3 σ3 H3 X.xe I3 (stat fr3) st3 go) fun r s4 ⟨u,hr,h4⟩ =>?_)
  subst hr;refine wpAny_passesOwn hp (thn h4 fun _ s5 ⟨x,H5,I5,r5,y5,st5,fr5⟩ =>?_)
  have I5':=I5.pinned (stat fr5) (T.obj _ _ st5);refine wpAny_passesOwn hp (thn (hg _ s5 σ3 H5 x u _ I5' r5 (step x H5 y5)) fun _ s6 ⟨σ6,H6,I6,q6⟩ =>?_)
  refine wpAny_passesOwn hp (thn (hb _ s6 σ6 H6 _ I6 q6) fun f s7 q7 =>?_)
  have again:∀{σ7:St} {H7:Hp},Inv X (qv++ajq fp s5.heap) σ7 H7 s7->N σ7 H7->∃m,m < n/\∃i σ' H',Inv X qv σ' H' s7/\tn i s7.heap/\(∀b∈fp,H' b=none)/\W i m σ' H':=fun{σ7 H7} I7 n7=>by
   obtain⟨m',hm,w7⟩:=hN σ7 H7 n7;refine⟨m',hm,i+1,σ7,H7,I7.unpinned,T.keep _ _ _ st5 fun b hb o e=>(I7.pin (b,o) (List.mem_append_right _ (List.mem_append_right _ (abw hb e)))).1,fun b hb =>?_,w7⟩
   obtain⟨o,e,d⟩:=T.obj _ _ st5 b hb;exact(I7.pin (b,o) (List.mem_append_right _ (List.mem_append_right _ (abw hb e)))).2.1
  cases f with
  | next=>obtain⟨σ7,H7,I7,n7⟩:=q7;exact again I7 n7
  | cont=>obtain⟨σ7,H7,I7,n7⟩:=q7;exact again I7 n7
  | brk=>obtain⟨σ7,H7,I7,q7⟩:=q7;exact⟨σ7,H7,I7.unpinned,q7⟩
  | ret v=>obtain⟨x7,σ7,H7,I7,r7,q7⟩:=q7;exact⟨x7,σ7,H7,I7.unpinned,r7,q7⟩
end
abbrev R2:=V->V->Hp->VK->Prop
def OpR(X:Cx)(f:Value->Value->Sem Value)(r:R2):Prop :=
 ∀(qv:List (Addr×Obj)) (s:Shared) (σ:St) (H:Hp) (x y:V) (v u:Value) (Q:VK),Inv X qv σ H s->RelV x v->RelV y u->r x y H Q ->
  wpAny (model X.prog X.w) X.A (f v u) (EP X qv σ Q) X.xe s
def UnR(X:Cx)(f:Value->Sem Value)(r:V->Hp->VK->Prop):Prop :=
 ∀(qv:List (Addr×Obj)) (s:Shared) (σ:St) (H:Hp) (x:V) (v:Value) (Q:VK),Inv X qv σ H s->RelV x v->r x H Q ->
  wpAny (model X.prog X.w) X.A (f v) (EP X qv σ Q) X.xe s
def ad6(X:Cx)(f:Value)(r:List V->Hp->VK->Prop):Prop :=
 ∀(qv:List (Addr×Obj)) (s:Shared) (σ:St) (H:Hp) (xs:List V) (us:List Value) (Q:VK),Inv X qv σ H s->Vals xs us->r xs H Q ->
  wpAny (model X.prog X.w) X.A (call f us) (EP X qv σ Q) X.xe s
def tOp(r:R2)(ta tb:TE):TE:=fun σ H Q=>ta σ H fun x H1=>tb σ H1 fun y H2=>r x y H2 Q
def tUn(r:V->Hp->VK->Prop)(ta:TE):TE:=fun σ H Q=>ta σ H fun x H1=>r x H1 Q
def rI(C:Int->Int->Prop)(g:Int->Int->V):R2:=fun x y H Q=>∃i j,x=.int i/\y=.int j/\C i j/\Q (g i j) H
def rI0(g:Int->Int->V):R2:=fun x y H Q=>∃i j,x=.int i/\y=.int j/\Q (g i j) H
def rU(g:Int->V):V->Hp->VK->Prop:=fun x H Q=>∃i,x=.int i/\Q (g i) H
section
variable{X:Cx}{a b c:Expr}{ta tb tc:TE}{pos:Pos}
theorem binT(ha:PE X a ta)(hb:PE X b tb){qv:List (Addr×Obj)}{s:Shared}{σ:St}{H:Hp}{R:V->V->Hp->Prop}(I:Inv X qv σ H s)
  (h:ta σ H fun x H1=>tb σ H1 fun y H2=>R x y H2) {Q:Value->Shared->Prop} {f:Value->Value->Sem Value}
  (hf:∀v u s2 x y H2,Inv X qv σ H2 s2->RelV x v->RelV y u->R x y H2->wpAny (model X.prog X.w) X.A (f v u) Q X.xe s2) :
  wpAny (model X.prog X.w) X.A (eval a X.env) (fun v s₁=>wpAny (model X.prog X.w) X.A (eval b X.env) (fun u s₂=>wpAny (model X.prog X.w) X.A (f v u) Q X.xe s₂) X.xe s₁) X.xe s:=by
 refine thn (ha qv s σ H _ I h) fun v s1 ⟨x,H1,I1,r1,q1⟩ =>?_
 refine thn (hb qv s1 σ H1 _ I1 q1) fun u s2 ⟨y,H2,I2,r2,q2⟩ =>?_
 exact hf v u s2 x y H2 I2 r1 r2 q2
theorem a2j{op:Operator}{r:R2}(ho:OpR X (binaryOp op) r)(ha:PE X a ta)(hb:PE X b tb):PE X (.BinOp a op b pos) (tOp r ta tb):=by
 intro qv s σ H Q I h;exact wpAny_BinOp (binT ha hb I h fun v u s2 x y H2 I2 rx ry q=>ho qv s2 σ H2 x y v u Q I2 rx ry q)
theorem a2i{op:UnaryOp}{r:V->Hp->VK->Prop}(ho:UnR X (unaryOp op) r)(ha:PE X a ta):PE X (.UnaryOp op a pos) (tUn r ta):=by
 intro qv s σ H Q I h;exact UnaryOp_ (thn (ha qv s σ H _ I h) fun v s1 ⟨x,H1,I1,r1,q1⟩=>ho qv s1 σ H1 x v Q I1 r1 q1)
theorem opI{f:Value->Value->Sem Value}{C:Int->Int->Prop}{g:Int->Int->Int}
  (rule:∀(i j:Int) (t u:Tok) (s:Shared) (Q:Value->Shared->Prop) (E:Value->Shared->Prop),C i j->Q (.int (g i j) s.toks) { s with toks:=s.toks+1 }->wpAny (model X.prog X.w) X.A (f (.int i t) (.int j u)) Q E s) :
  OpR X f (rI C fun i j=>.int (g i j)):=by
 intro qv s σ H x y v u Q I rx ry h;obtain⟨i,j,rfl,rfl,hc,q⟩:=h;obtain⟨t,rfl⟩:=rx;obtain⟨t',rfl⟩:=ry;exact rule i j t t' s _ _ hc ⟨.int (g i j),H,I.tok _,⟨_,rfl⟩,q⟩
theorem opI0{f:Value->Value->Sem Value}{g:Int->Int->Int}
  (rule:∀(i j:Int) (t u:Tok) (s:Shared) (Q:Value->Shared->Prop) (E:Value->Shared->Prop),Q (.int (g i j) s.toks) { s with toks:=s.toks+1 }->wpAny (model X.prog X.w) X.A (f (.int i t) (.int j u)) Q E s) :
  OpR X f (rI0 fun i j=>.int (g i j)):=by
 intro qv s σ H x y v u Q I rx ry h;obtain⟨i,j,rfl,rfl,q⟩:=h;obtain⟨t,rfl⟩:=rx;obtain⟨t',rfl⟩:=ry;exact rule i j t t' s _ _ ⟨.int (g i j),H,I.tok _,⟨_,rfl⟩,q⟩
theorem opB0{f:Value->Value->Sem Value}{g:Int->Int->Bool}
  (rule:∀(i j:Int) (t u:Tok) (s:Shared) (Q:Value->Shared->Prop) (E:Value->Shared->Prop),Q (.bool (g i j)) s->wpAny (model X.prog X.w) X.A (f (.int i t) (.int j u)) Q E s) :
  OpR X f (rI0 fun i j=>.bl (g i j)):=by
 intro qv s σ H x y v u Q I rx ry h;obtain⟨i,j,rfl,rfl,q⟩:=h;obtain⟨t,rfl⟩:=rx;obtain⟨t',rfl⟩:=ry;exact rule i j t t' s _ _ ⟨.bl (g i j),H,I,rfl,q⟩
def CPow(i j:Int):Prop:=0<=j/\j<=1000000/\i.natAbs < 2 ^ 64
def CMul(i j:Int):Prop:=(-(2 ^ 64) < i/\i < 2 ^ 64)∨(-(2 ^ 64) < j/\j < 2 ^ 64)
theorem CMul.ok{i j:Int}(h:CMul i j):IntMulOk i j:=by
 rcases h with⟨h1,h2⟩ | ⟨h1,h2⟩
 ·exact .of_left (intBits_le_64 h1 h2)
 ·exact .of_right (intBits_le_64 h1 h2)
theorem azg:OpR X (binaryOp .Add) (rI0 fun i j=>.int (i+j)):=opI0 fun _ _ _ _ _ _ _ q=>add_int q
theorem aza:OpR X (binaryOp .Sub) (rI0 fun i j=>.int (i - j)):=opI0 fun _ _ _ _ _ _ _ q=>sub_int q
theorem azd:OpR X (binaryOp .Mult) (rI CMul fun i j=>.int (i*j)):=opI fun _ _ _ _ _ _ _ hc q=>mul_int q hc.ok
theorem aze:OpR X (binaryOp .Mod) (rI (fun _ j=>0 < j) fun i j=>.int (i % j)):=opI fun i j _ _ _ _ _ hc q=>by
 have h1:(0:Int) < j:=hc;exact mod_int' (by omega) (by rw[Int.fmod_eq_emod_of_nonneg i (by omega)];exact q)
theorem azc:OpR X (binaryOp .Pow) (rI CPow fun i j=>.int (i ^ j.toNat)):=opI fun _ _ _ _ _ _ _ hc q=>pow_int_small hc.1 hc.2.1 hc.2.2 q
theorem unI{f:Value->Sem Value}{g:Int->Int}
  (rule:∀(i:Int) (t:Tok) (s:Shared) (Q:Value->Shared->Prop) (E:Value->Shared->Prop),Q (.int (g i) s.toks) { s with toks:=s.toks+1 }->wpAny (model X.prog X.w) X.A (f (.int i t)) Q E s) :
  UnR X f (rU fun i=>.int (g i)):=by
 intro qv s σ H x v Q I rx h;obtain⟨i,rfl,q⟩:=h;obtain⟨t,rfl⟩:=rx;exact rule i t s _ _ ⟨.int (g i),H,I.tok _,⟨_,rfl⟩,q⟩
theorem ax2:UnR X (unaryOp .USub) (rU fun i=>.int (-i)):=unI fun _ _ _ _ _ q=>neg_int q
end
section
variable{X:Cx}{a b c:Expr}{ta tb tc:TE}{pos:Pos}
theorem a2n:OpR X (compareOp .Lt) (rI0 fun i j=>.bl (decide (i < j))):=opB0 fun _ _ _ _ _ _ _ q=>lt_int q
theorem asq:OpR X (compareOp .LtE) (rI0 fun i j=>.bl (decide (i<=j))):=opB0 fun _ _ _ _ _ _ _ q=>le_int q
theorem a2o:OpR X (compareOp .GtE) (rI0 fun i j=>.bl (decide (j<=i))):=opB0 fun _ _ _ _ _ _ _ q=>ge_int q
theorem jx(b:Expr){op:CmpOp}(h:op≠.In:=by decide)(h2:op≠.NotIn:=by decide):behindInMarks op b=false:=by
 have e1:(op==CmpOp.In)=false:=by cases op <;> first | rfl | exact absurd rfl h
 have e2:(op==CmpOp.NotIn)=false:=by cases op <;> first | rfl | exact absurd rfl h2
 cases b <;> simp[behindInMarks,e1,e2]
theorem av7{op:CmpOp}{r:R2}(ho:OpR X (compareOp op) r)(ha:PE X a ta)(hb:PE X b tb)(hm:behindInMarks op b=false):PE X (.Compare a [op] [b] pos) (tOp r ta tb):=by
 intro qv s σ H Q I h;exact wpAny_Compare1 (binT ha hb I h fun v u s2 x y H2 I2 rx ry q=>ho qv s2 σ H2 x y v u Q I2 rx ry q) hm
def a1u(t:TE):TT:=fun σ H Q=>t σ H fun x H'=>∃k,x=.bl k/\Q k H'
theorem ape{op:CmpOp}{r:R2}(ho:OpR X (compareOp op) r)(ha:PE X a ta)(hb:PE X b tb)(hm:behindInMarks op b=false):PT X (.Compare a [op] [b] pos) (a1u (tOp r ta tb)):=by
 intro qv s σ H Q I h;refine wpAny_isTrue_Compare1 (thn (ha qv s σ H _ I h) fun v s1 ⟨x,H1,I1,r1,q1⟩=>thn (hb qv s1 σ H1 _ I1 q1) fun u s2 ⟨y,H2,I2,r2,q2⟩ =>
  thn (ho qv s2 σ H2 x y v u _ I2 r1 r2 q2) fun c s3 ⟨z,H3,I3,r3,k,e,q3⟩ =>?_) hm
 subst e;cases r3;exact wpAny_truthy_bool ⟨H3,I3,q3⟩
def aud(r r':R2)(ta tb tc:TE):TE:=fun σ H Q=>ta σ H fun x H1=>tb σ H1 fun y H2=>r x y H2 fun z H3=>∃k,z=.bl k /\
 (if k=true then tc σ H3 fun w' H4=>r' y w' H4 Q else Q (.bl false) H3)
theorem asi{op op':CmpOp}{r r':R2}(ho:OpR X (compareOp op) r)(ho':OpR X (compareOp op') r')(ha:PE X a ta)(hb:PE X b tb)(hc:PE X c tc)
  (hm:lastMarks [op,op'] [b,c]=false:=by with_unfolding_all rfl):PE X (.Compare a [op,op'] [b,c] pos) (aud r r' ta tb tc):=by
 intro qv s σ H Q I h;refine Compare_chain (thn (ha qv s σ H _ I h) fun v s1 ⟨x,H1,I1,r1,q1⟩=>chain_link (thn (hb qv s1 σ H1 _ I1 q1) fun u s2 ⟨y,H2,I2,r2,q2⟩ =>
  thn (ho qv s2 σ H2 x y v u _ I2 r1 r2 q2) fun d s3 ⟨z,H3,I3,r3,k,e,q3⟩ =>?_)) hm
 subst e;cases r3;refine wpAny_truthy_bool ?_;cases k with
 | false=>exact ite_ff ⟨.bl false,H3,I3,rfl,q3⟩
 | true=>exact ite_tt (chain_last (thn (hc qv s3 σ H3 _ I3 q3) fun w' s4 ⟨z',H4,I4,r4,q4⟩=>ho' qv s4 σ H4 y z' u w' Q I4 r2 r4 q4))
theorem am2:(sizeLine:Nat) < 2 ^ 63:=by rw[sizeLine_eq];decide
theorem aof:OpR X (binaryOp .Add) (fun x y H Q=>∃i j,x=.str i/\y=.str j/\i.length+j.length<=sizeLine/\Q (.str (i++j)) H):=by
 intro qv s σ H x y v u Q I rx ry h;obtain⟨i,j,rfl,rfl,hz,q⟩:=h;obtain⟨t,rfl⟩:=rx;obtain⟨t',rfl⟩:=ry;exact add_str (fun t' tk=>⟨.str (i++j),H,I.tok _,⟨_,rfl⟩,q⟩) hz
theorem vals1{x:V}{us:List Value}(r:Vals [x] us):∃u,us=[u]/\RelV x u:=by
 cases r with
 | cons r1 r2=>cases r2;exact⟨_,rfl,r1⟩
theorem vals2{x y:V}{us:List Value}(r:Vals [x,y] us):∃u w',us=[u,w']/\RelV x u/\RelV y w':=by
 cases r with
 | cons r1 r2 =>
  cases r2 with
  | cons r3 r4=>cases r4;exact⟨_,_,rfl,r1,r3⟩
theorem aq6(hc:X.calm=true):ad6 X (.builtin "max") (fun xs H Q=>∃i j,xs=[.int i,.int j]/\Q (.int (if j > i then j else i)) H):=by
 intro qv s σ H xs us Q I r h;obtain⟨i,j,rfl,q⟩:=h;obtain⟨u,w',rfl,⟨t,rfl⟩,⟨t',rfl⟩⟩:=vals2 r;refine max_two_ints (I.ok.hd hc) fun h' tk k=>⟨_,H,I.kept k,?_,q⟩
 by_cases hj:j > i
 ·rw[if_pos hj,if_pos hj];exact⟨_,rfl⟩
 ·rw[if_neg hj,if_neg hj];exact⟨_,rfl⟩
theorem aq5(hc:X.calm=true):ad6 X (.builtin "min") (fun xs H Q=>∃i j,xs=[.int i,.int j]/\Q (.int (if j < i then j else i)) H):=by
 intro qv s σ H xs us Q I r h;obtain⟨i,j,rfl,q⟩:=h;obtain⟨u,w',rfl,⟨t,rfl⟩,⟨t',rfl⟩⟩:=vals2 r;refine min_two_ints (I.ok.hd hc) fun h' tk k=>⟨_,H,I.kept k,?_,q⟩
 by_cases hj:j < i
 ·rw[if_pos hj,if_pos hj];exact⟨_,rfl⟩
 ·rw[if_neg hj,if_neg hj];exact⟨_,rfl⟩
theorem akv:ad6 X (.type "int") (fun xs H Q=>(∃i,xs=[.int i]/\Q (.int i) H)∨∃k,xs=[.bl k]/\Q (.int (if k then 1 else 0)) H):=by
 intro qv s σ H xs us Q I r h;rcases h with⟨i,rfl,q⟩ | ⟨k,rfl,q⟩
 ·obtain⟨u,rfl,t,rfl⟩:=vals1 r;exact call_int_int ⟨.int i,H,I,⟨_,rfl⟩,q⟩
 ·obtain⟨u,rfl,r1⟩:=vals1 r;cases r1;exact call_int_bool ⟨.int (if k then 1 else 0),H,I.tok _,⟨_,rfl⟩,q⟩
end
structure ObjM (h:Heap) (x dx C:Addr) (mA:Str->Option Value):Prop where
 obj:h.get? x=some (PySem.W.instObj C dx)
 ns:h.Ns1 dx mA
 ne:dx≠x
theorem apy{h:Heap}{dx:Addr}{mA:Str->Option Value}(n:h.Ns1 dx mA):∃od,h.get? dx=some od/\∀name,PySem.W.lookIn name od=some (mA name):=by
 obtain⟨o,es,ep,ho,hd,hk,_,hm⟩:=n;refine⟨o,ho,fun name =>?_⟩
 have e:=hm name;unfold nsFind findBy at e;rw[<-Array.find?_toList] at e;unfold PySem.W.lookIn;rw[hd];dsimp only;split
 ·rename_i y q;rw[q] at e;exact congrArg some e
 ·rename_i q;rw[q] at e;have a:es.toList.any (·.refKey)=false:=by
   rw[List.any_eq_false];intro y hy;obtain⟨z,t,hkey⟩:=hk y (Array.mem_toList_iff.mp hy);simp[DictEntry.refKey,hkey]
  have a':¬es.toList.any (·.refKey)=true:=by rw[a];exact Bool.false_ne_true
  rw[if_neg a'];exact congrArg some e
theorem ObjM.look{h:Heap}{x dx C:Addr}{mA:Str->Option Value}(I:ObjM h x dx C mA):∃od,PySem.W.InstAt h x (PySem.W.instObj C dx) C (some od)/\∀name,PySem.W.lookIn name od=some (mA name) :=
 let ⟨od,ho,hl⟩:=apy I.ns
 ⟨od,⟨I.obj,rfl,rfl,ho⟩,hl⟩
section
variable{prog:Program}{w:World}{A:Around}{E:Value->Shared->Prop}{s:Shared}{K:Fg9}{x dx C f:Addr}{mA:Str->Option Value}{name:Str}{v:Value}
end
section
variable{P:Program}{w:World}{H H':Hp}{h h':Heap}{a C dx:Addr}{fs fs':List (Str×V)}
theorem aw2(hok:HOk P w H h)(e:H a=some (.ins C dx fs)):∃mA,ObjM h a dx C mA/\(∀f,RelO (fs.lookup f) (mA f))/\PySem.Within mA (fs.map (·.1))/\fs.length<=1000/\H dx=some (.own a):=by
 obtain⟨d,z,ne,ob,mA,n,r,q⟩:=(show uo P w H h a (.ins C dx fs) from hok a _ e)
 exact⟨mA,⟨ob,n,ne⟩,r,q,z,d⟩
end
structure Cls (K:Fg9) (C:Addr):Prop where
 pg:PySem.W.plainGet K C Str.empty=true
 hd:PySem.W.hasDictIn K C=true
 po:PySem.W.plainOver K C=true
 sa:findIn K (.ref C) "__setattr__" = some (some (.builtin "object.__setattr__"))
theorem Cls.get{K:Fg9}{C:Addr}(c:Cls K C)(f:Str):PySem.W.plainGet K C f=true:=c.pg
structure Con (K:Fg9) (C:Addr) (f:Str) (v:V) (u:Value):Prop where
 at_:findIn K (.ref C) f=some (some u)
 rel:RelV v u
 get:PySem.W.specialIn K u "__get__" = some none
 cp:PySem.W.copiedNames.contains f=false
structure Meth (K:Fg9) (C:Addr) (m:Str) (f:Addr):Prop where
 at_:findIn K (.ref C) m=some (some (.ref f))
 fn:PySem.W.isFn K (.ref f)=true
 kp:keepIn K (.ref f)=true
section
variable{X:Cx}{qv:List (Addr×Obj)}{σ:St}{H:Hp}{s:Shared}{a C dx:Addr}{fs:List (Str×V)}{f:Str}{v:V}{A:Around}{E:Value->Shared->Prop}
end
section
variable{X:Cx}{o e value:Expr}{f:Str}{pos pos' tpos:Pos}{ta tv:TE}
end
section
variable{X:Cx}{qv:List (Addr×Obj)}{σ:St}{H:Hp}{s:Shared}{A:Around}{E:Value->Shared->Prop}{Q:Value->Shared->Prop}{c:Value}{b:Bool}
inductive TyOf (K:Fg9) (H:Hp):V->Value->Prop where
 | non:TyOf K H .non (.type "NoneType")
 | bl (x:Bool):TyOf K H (.bl x) (.type "bool")
 | int (i:Int):TyOf K H (.int i) (.type "int")
 | str (x:Str):TyOf K H (.str x) (.type "str")
 | flt (x:UInt64):TyOf K H (.flt x) (.type "float")
 | lst {a:Addr} {xs:List V} (e:H a=some (.lst xs)):TyOf K H (.ref a) (.type "list")
 | frz {a:Addr} {o:Obj} {xs:List V} (e:H a=some (.frz o (.lst xs))):TyOf K H (.ref a) (.type "list")
 | tup {a:Addr} {xs:List V} (e:H a=some (.tup xs)):TyOf K H (.ref a) (.type "tuple")
 | dK {a:Addr} {kvs:List (Key×V)} (e:H a=some (.dK kvs)):TyOf K H (.ref a) (.type "dict")
 | dT {a:Addr} {kvs:List (List Key×V)} (e:H a=some (.dT kvs)):TyOf K H (.ref a) (.type "dict")
 | ins {a C dx:Addr} {fs:List (Str×V)} (e:H a=some (.ins C dx fs)) (cl:Cls K C) (ha:findIn K (.ref C) "__class__" = some (some (.builtin "object.__class__")))
   (hn:PySem.W.specialIn K (.builtin "object.__class__") "__get__" = some (some (.builtin "getset_descriptor.__get__"))) (htk:PySem.W.takesIn K (.builtin "object.__class__")=some true)
   (hm:PySem.W.mroIn K C (.type "object")=some true):TyOf K H (.ref a) (.ref C)
theorem ap7{x:V}{u t:Value}(I:Inv X qv σ H s)(rx:RelV x u)(ty:TyOf X.K H x t)(e:PySem.W.kitOne X.K t c=some b)(h:∀tk,Q (.bool b) { s with toks:=tk }) :
  wpAny (model X.prog X.w) A (call (.builtin "isinstance") [u,c]) Q E s:=by
 cases ty with
 | non=>cases(show u=Value.none from rx);exact PySem.W.kia_one PySem.W.kitx_none I.kIn True.intro e (fun z=>nomatch z) h
 | bl y=>cases(show u=Value.bool y from rx);exact PySem.W.kia_one PySem.W.kitx_bool I.kIn True.intro e (fun z=>nomatch z) h
 | int i=>obtain⟨t,q⟩:=(show ∃t,u=Value.int i t from rx);cases q;exact PySem.W.kia_one PySem.W.kitx_int I.kIn True.intro e (fun z=>nomatch z) h
 | str y=>obtain⟨t,q⟩:=(show ∃t,u=Value.str y t from rx);cases q;exact PySem.W.kia_one PySem.W.kitx_str I.kIn True.intro e (fun z=>nomatch z) h
 | flt y=>obtain⟨t,q⟩:=(show ∃t,u=Value.float y t from rx);cases q;exact PySem.W.kia_one PySem.W.kitx_float I.kIn True.intro e (fun z=>nomatch z) h
 | @lst a xs ea =>
  cases(show u=Value.ref a from rx)
  obtain⟨_,_,n,_,h1⟩:=(show uo X.prog X.w H s.heap a (.lst xs) from I.hok a _ ea)
  exact PySem.W.kia_one PySem.W.kitx_list I.kIn ⟨_,h1,rfl⟩ e (fun z=>nomatch z) h
 | @frz a ob xs ea =>
  cases(show u=Value.ref a from rx)
  obtain⟨_,_,_,n,_,h1⟩:=(show uo X.prog X.w H s.heap a (.frz ob (.lst xs)) from I.hok a _ ea)
  exact PySem.W.kia_one PySem.W.kitx_list I.kIn ⟨_,h1,rfl⟩ e (fun z=>nomatch z) h
 | @tup a xs ea =>
  cases(show u=Value.ref a from rx)
  obtain⟨_,_,_,p⟩:=(show uo X.prog X.w H s.heap a (.tup xs) from I.hok a _ ea)
  obtain⟨o,h1,h2,_⟩:=p;exact PySem.W.kia_one PySem.W.kitx_tuple I.kIn ⟨o,h1,h2⟩ e (fun z=>nomatch z) h
 | @dK a kvs ea =>
  cases(show u=Value.ref a from rx)
  obtain⟨_,_,vs,_,p⟩:=(show uo X.prog X.w H s.heap a (.dK kvs) from I.hok a _ ea)
  obtain⟨o,es,ep,h1,h2,_⟩:=p;exact PySem.W.kia_one PySem.W.kitx_dict I.kIn ⟨o,h1,h2.1⟩ e (fun z=>nomatch z) h
 | @dT a kvs ea =>
  cases(show u=Value.ref a from rx)
  obtain⟨_,_,xs,_,o,es,ep,h1,h2,_⟩:=(show uo X.prog X.w H s.heap a (.dT kvs) from I.hok a _ ea)
  exact PySem.W.kia_one PySem.W.kitx_dict I.kIn ⟨o,h1,h2.1⟩ e (fun z=>nomatch z) h
 | @ins a C dx fs ea cl ha hn htk hm =>
  cases(show u=Value.ref a from rx)
  obtain⟨mA,O,_⟩:=aw2 I.hok ea;obtain⟨od,J,_⟩:=O.look;exact PySem.W.kia_one (PySem.W.kitx_own (cl.get _) cl.hd ha hn htk hm) I.kIn J e (fun z=>nomatch z) h
end
structure Room (k:Nat) (A:Around):Prop where
 hd:A.handled=none
 dp:A.depth+3*k+5 < recursionLimit
 un:A.units+16*k+200 < cLine
 gd:A.guards=some []
theorem Room.mono{j k:Nat}{A:Around}(r:Room k A)(h:j<=k):Room j A:=⟨r.hd,by have:=r.dp;omega,by have:=r.un;omega,r.gd⟩
theorem Room.deeper{k:Nat}{A:Around}(r:Room (k+1) A)(env:Env):Room k (A.deeper env) :=
 ⟨r.hd,by have:=r.dp;show A.depth+1+3*k+5 < _;omega,by have:=r.un;show A.units+3+16*k+200 < _;omega,r.gd⟩
theorem Room.depth{k:Nat}{A:Around}(r:Room k A):A.depth < recursionLimit:=by have:=r.dp;omega
theorem Room.units{k:Nat}{A:Around}(r:Room k A):A.units+64 < cLine:=by have:=r.un;omega
def tNil:TA:=fun _ H Q=>Q [] H
def a1z(ta:TE)(tr:TA):TA:=fun σ H Q=>ta σ H fun x H1=>tr σ H1 fun xs H2=>Q (x::xs) H2
section
variable{X:Cx}{e:Expr}{es:List Expr}{te:TE}{t:TA}{pos:Pos}
theorem ahc:PA X [] tNil:=fun _ _ _ _ H Q I h=>Calls.spliced_nil ⟨[],H,I,.nil,h⟩
theorem wg(ha:PE X e te)(hr:PA X es t)(hs:starEach (e::es) X.env=(false,eval e X.env)::starEach es X.env:=by rfl):PA X (e::es) (a1z te t):=by
 intro pos qv s σ H Q I h;rw[hs];show wpAny _ _ (spliced ((false,eval e X.env)::backTo pos (starEach es X.env))) _ _ s;refine Calls.spliced_cons (thn (ha qv s σ H _ I h) fun u s1 ⟨x,H1,I1,r1,q1⟩ =>?_)
 exact thn (hr pos qv s1 σ H1 _ I1 q1) fun us s2 ⟨xs,H2,I2,r2,q2⟩=>⟨x::xs,H2,I2,.cons r1 r2,q2⟩
def tTup(t:TA):TE:=fun σ H Q=>t σ H fun xs H1=>xs.length<=sizeLine/\∀p,H1 p=none->Q (.ref p) (upd H1 p (.tup xs))
def tLst(t:TA):TE:=fun σ H Q=>t σ H fun xs H1=>xs.length<=sizeLine/\∀p,H1 p=none->Q (.ref p) (upd H1 p (.lst xs))
theorem ayy{x1}(h:PA X es t):PE X (.Tuple es x1 pos) (tTup t):=by
 intro qv s σ H Q I hq;refine wpAny_Tuple_spliced (thn (h pos qv s σ H _ I hq) fun us s1 ⟨xs,H1,I1,r,z,q⟩=>⟨by rw[<-r.length];exact z,?_⟩)
 have hf:H1 s1.heap.objs.size=none:=I1.hok.fresh (Nat.le_refl _);refine⟨.ref s1.heap.objs.size,upd H1 s1.heap.objs.size (.tup xs),I1.laid (t':=s1.toks) (fun b u e=>Heap.get?_push_of_some _ e) (Nat.le_refl _) ?_,rfl,q _ hf⟩
 exact⟨z,us,r,⟨_,Heap.get?_push_size _ rfl,rfl,rfl,_,rfl⟩⟩
theorem ay3(h:PA X es t):PE X (.List es pos) (tLst t):=by
 intro qv s σ H Q I hq;refine wpAny_List_spliced (thn (h pos qv s σ H _ I hq) fun us s1 ⟨xs,H1,I1,r,z,q⟩=>⟨by rw[<-r.length];exact z,?_⟩)
 have hf:H1 s1.heap.objs.size=none:=I1.hok.fresh (Nat.le_refl _);refine⟨.ref s1.heap.objs.size,upd H1 s1.heap.objs.size (.lst xs),I1.laid (t':=s1.toks) (fun b u e=>Heap.get?_push_of_some _ e) (Nat.le_refl _) ?_,rfl,q _ hf⟩
 exact⟨z,us,0,r,Heap.get?_push_size _ rfl⟩
end
abbrev Sp:=List V->Hp->VK->XK->Prop
abbrev CXT:=List Env->Hp->Shared->XK->Value->Shared->Prop
structure Env0 (P:Program) (w:World) (K:Fg9) (mg:Str->Option Value) (base:Heap) (A:Around) (outer:List Env) (s:Shared) (H:Hp):Prop where
 frames:A.frames=some outer
 mod:Mod K mg base
 bs:∀b o,base.get? b=some o->s.heap.get? b=some o/\H b=none
 bsz:base.objs.size<=s.heap.objs.size
 funs:s.heap.FunFrames base outer
 frf:∀b∈frs outer,H b=none
 hok:HOk P w H s.heap
 bare:AllBare s.gens
def CE(outer:List Env)(P:Program)(w:World)(H:Hp)(s:Shared)(Q:VK)(u:Value)(s':Shared):Prop :=
 ∃v H',s'.os=s.os/\AllBare s'.gens/\Un (frs outer) [] H H' s.heap s'.heap/\HOk P w H' s'.heap/\RelV v u/\Q v H'
def CR(CX:CXT)(outer:List Env)(P:Program)(w:World)(H:Hp)(s:Shared)(Q:VK)(E:XK)(r:Result)(s':Shared):Prop :=
 match r with
 | .ok (.ret u)=>CE outer P w H s Q u s'
 | .ok _=>False
 | .error e=>CX outer H s E e s'
structure FnOk (P:Program) (w:World) (K:Fg9) (mg:Str->Option Value) (base:Heap) (CX:CXT) (k:Nat) (f:Addr) (fd:FuncData) (ps:List Str) (sp:Sp):Prop where
 len:∀vs H Q E,sp vs H Q E->vs.length=ps.length
 run:∀(A:Around) (outer:List Env) (s:Shared) (H:Hp) (args:Args) (us:List Value) (vs:List V) (Q:VK) (E:XK),Room k A->Env0 P w K mg base A outer s H->BindsTo s fd args (ps.zip us)->Vals vs us->sp vs H Q E ->
  codeAny (model P w) A (.call (.ref f) args) (CR CX outer P w H s Q E) s
section
variable{X:Cx}{qv:List (Addr×Obj)}{σ:St}{H:Hp}{s s':Shared}
theorem Inv.env0(I:Inv X qv σ H s):Env0 X.prog X.w X.K X.mg X.base X.A X.stack s H :=
 ⟨I.ok.frames,I.ok.mod,I.bs,Nat.le_trans I.ok.bsz I.sz,I.stack,I.stkFree,I.hok,I.bare⟩
theorem Inv.after{Q:VK}{u:Value}(I:Inv X qv σ H s)(h:CE X.stack X.prog X.w H s Q u s'):EP X qv σ Q u s':=by
 obtain⟨v,H',os,bare,un,hok,r,q⟩:=h;obtain⟨hh,g,d,t,os'⟩:=s';obtain rfl:os'=s.os:=os;exact⟨v,H',I.call (h':=hh) (g':=g) (d':=d) (t':=t) (ch:=[]) un hok bare (fun b z=>absurd z (by simp)),r,q⟩
end
def avi(sp:Sp)(dvs:List V)(E:XK)(t:TA):TE:=fun σ H Q=>t σ H fun vs H1=>sp (vs++dvs) H1 Q E
def Binds(K:Fg9)(fd:FuncData)(ps:List Str)(ds:List Value):Prop :=
 ∀(s:Shared) (us:List Value),K.In s.heap->(us++ds).length=ps.length->BindsTo s fd ⟨us,[]⟩ (ps.zip (us++ds))
theorem Binds.all{K:Fg9}{fd:FuncData}{ps:List Str}(h:∀us:List Value,us.length=ps.length->bindArgs fd ⟨us,[]⟩=pure (ps.zip us)):Binds K fd ps []:=fun s us _ hl=>by
 rw[List.append_nil] at hl ⊢
 exact .of_eq (h us hl)
def arp(CX:CXT)(X:Cx)(E:XK):Prop:=∀(qv:List (Addr×Obj)) (σ:St) (H:Hp) (s:Shared) (e:Value) (s':Shared),Inv X qv σ H s->CX X.stack H s E e s'->X.xe e s'
section
variable{X:Cx}{CX:CXT}{k:Nat}{f C:Addr}{fd:FuncData}{ps:List Str}{sp:Sp}{dvs:List V}{ds:List Value}{E:XK}{x m:Str}{p pos apos:Pos}{e o:Expr}{es:List Expr}{ta:TE}{t:TA}
theorem ayh{qv:List (Addr×Obj)}{σ:St}{H:Hp}{s:Shared}{Q:VK}{us:List Value}{vs:List V}(F:FnOk X.prog X.w X.K X.mg X.base CX k f fd ps sp)(hr:Room k X.A)(hb:Binds X.K fd ps ds)(hd:Vals dvs ds)(hx:arp CX X E)
  (I:Inv X qv σ H s) (r:Vals vs us) (h:sp (vs++dvs) H Q E):wpAny (model X.prog X.w) X.A (call (.ref f) us) (EP X qv σ Q) X.xe s:=by
 have r2:Vals (vs++dvs) (us++ds):=r.append hd;have hl:(us++ds).length=ps.length:=by rw[<-r2.length];exact F.len _ _ _ _ h
 refine wpAny_call (codeAny_mono (F.run X.A X.stack s H ⟨us,[]⟩ (us++ds) (vs++dvs) Q E hr I.env0 (hb s us I.kIn hl) r2 h) fun r s' hq =>?_)
 cases r with
 | error e=>exact hx qv σ H s e s' I hq
 | ok fl =>
  cases fl with
  | ret u=>exact I.after hq
  | next=>exact False.elim hq
  | brk=>exact False.elim hq
  | cont=>exact False.elim hq
theorem av8(F:FnOk X.prog X.w X.K X.mg X.base CX k f fd ps sp)(hr:Room k X.A)(hg:Gl X x)(hm:X.mg x=some (.ref f))(hk:keepIn X.K (.ref f)=true)(hb:Binds X.K fd ps ds)(hd:Vals dvs ds)(hx:arp CX X E)
  (ha:PA X (e::es) t) (hdb:(x==("__debug__" : Str))=false:=by decide) (he:starEach (e::es) X.env=(false,eval e X.env)::starEach es X.env:=by rfl) (hpl:(backTo pos (starEach es X.env)).any (·.1)=false:=by rfl) :
  PE X (.Call (.Name x p) (e::es) [] pos) (avi sp dvs E t):=by
 intro qv s σ H Q I h;refine wpAny_Call_Name_kw (aei I hg hm ?_ hdb);refine PySem.W.callWith_K (h₀:=X.base) I.ok.mod.kin hk (thn (ha pos qv s σ H _ I h) fun us s1 ⟨vs,H1,I1,r,q⟩=>⟨I1.kIn,?_⟩) he hpl
 exact ayh F hr hb hd hx I1 r q
structure Mk (K:Fg9) (C f:Addr):Prop where
 makes:PySem.W.makesIn K C=true
 init:findIn K (.ref C) "__init__" = some (some (.ref f))
 fn:PySem.W.isFn K (.ref f)=true
 kp:keepIn K (.ref C)=true
end
section
variable{X:Cx}{CX:CXT}{k:Nat}{f C:Addr}{fd:FuncData}{ps ks:List Str}{sp:Sp}{E:XK}{x m:Str}{p pos apos kpos:Pos}{e o:Expr}{es:List Expr}{kws:List Keyword}{te ta:TE}{t tk:TA}{nm:Option Str}
structure KBinds (K:Fg9) (fd:FuncData) (ps ks:List Str) (g:List Value->List Value->List Value) (gV:List V->List V->List V):Prop where
 to:∀(s:Shared) (us ws:List Value),K.In s.heap->(g us ws).length=ps.length->BindsTo s fd ⟨us,ks.zip ws⟩ (ps.zip (g us ws))
 rel:∀{vs:List V} {us:List Value} {zs:List V} {ws:List Value},Vals vs us->Vals zs ws->Vals (gV vs zs) (g us ws)
variable{g:List Value->List Value->List Value}{gV:List V->List V->List V}
end
structure FnScope (N P:List Str) (sc:Scope):Prop where
 kind:sc.kind=.function
 co:sc.isCoroutine=false
 gen:sc.isGenerator=false
 nd:N.Nodup
 pre:N.take P.length=P
 par:∀x∈P,sc.names.lookup x=some .local∨sc.names.lookup x=some .cell
 nofree:∀y∈sc.names,y.2≠.free
theorem ak0{kindOf:Str->Option NameKind}{x:Str}:∀{binds:List (Str×Value)} {m:Str->Option Value},(∀v,(x,v)∉binds)->bindL kindOf binds m x=m x
 | [],_,_=>rfl
 | (n,v)::r,m,h=>by
  unfold bindL;rw[ak0 fun w hw=>h w (List.mem_cons_of_mem _ hw)]
  split
  ·have:x≠n:=by rintro rfl;exact h v List.mem_cons_self
   simp[this]
  ·rfl
theorem ak2{kindOf:Str->Option NameKind}{x:Str}:∀{binds:List (Str×Value)} {m:Str->Option Value},(∀v,(x,v)∉binds)->bindC kindOf binds m x=m x
 | [],_,_=>rfl
 | (n,v)::r,m,h=>by
  unfold bindC;rw[ak2 fun w hw=>h w (List.mem_cons_of_mem _ hw)]
  split
  ·rfl
  ·have:x≠n:=by rintro rfl;exact h v List.mem_cons_self
   simp[this]
theorem ak1{kindOf:Str->Option NameKind}{x:Str}{v:Value}:∀{P:List Str} {vs:List Value} {i:Nat} {m:Str->Option Value},P.Nodup->P[i]? = some x->vs[i]? = some v->kindOf x=some .local ->
  bindL kindOf (P.zip vs) m x=some v
 | [],_,_,_,_,h,_,_=>by simp at h
 | _::_,[],_,_,_,_,h,_=>by simp at h
 | p::P,w::vs,0,m,nd,h1,h2,hk=>by
  simp at h1 h2;subst h1;subst h2;show bindL kindOf ((p,w)::P.zip vs) m p=_;unfold bindL;rw[ak0 fun v hv=>(List.nodup_cons.mp nd).1 (List.of_mem_zip hv).1,if_pos hk]
  simp
 | p::P,w::vs,i+1,m,nd,h1,h2,hk=>by
  show bindL kindOf ((p,w)::P.zip vs) m x=_;unfold bindL;exact ak1 (i:=i) (List.nodup_cons.mp nd).2 (by simpa using h1) (by simpa using h2) hk
theorem ak3{kindOf:Str->Option NameKind}{x:Str}{v:Value}:∀{P:List Str} {vs:List Value} {i:Nat} {m:Str->Option Value},P.Nodup->P[i]? = some x->vs[i]? = some v->kindOf x≠some .local ->
  bindC kindOf (P.zip vs) m x=some v
 | [],_,_,_,_,h,_,_=>by simp at h
 | _::_,[],_,_,_,_,h,_=>by simp at h
 | p::P,w::vs,0,m,nd,h1,h2,hk=>by
  simp at h1 h2;subst h1;subst h2;show bindC kindOf ((p,w)::P.zip vs) m p=_;unfold bindC;rw[ak2 fun v hv=>(List.nodup_cons.mp nd).1 (List.of_mem_zip hv).1,if_neg hk]
  simp
 | p::P,w::vs,i+1,m,nd,h1,h2,hk=>by
  show bindC kindOf ((p,w)::P.zip vs) m x=_;unfold bindC;exact ak3 (i:=i) (List.nodup_cons.mp nd).2 (by simpa using h1) (by simpa using h2) hk
def start(N:List Str)(vs:List V):St:=vs.map some++List.replicate (N.length - vs.length) none
def cxOf(CX:CXT)(P:Program)(w:World)(K:Fg9)(mg:Str->Option Value)(base:Heap)(N:List Str)(qual:Str)(scope:Scope)(f:Addr)(cd:Value)(A:Around)(outer:List Env)(s:Shared)(H:Hp)(E:XK):Cx where
 prog:=P
 w:=w
 K:=K
 mg:=mg
 base:=base
 A:=A.deeper (envOfC qual scope s.heap.objs.size f cd)
 N:=N
 s₀:=s
 H₀:=H
 env:=envOfC qual scope s.heap.objs.size f cd
 outer:=outer
 stack:=envOfC qual scope s.heap.objs.size f cd::outer
 ex:=[]
 calm:=true
 fn:=fun _=>true
 pn:=[]
 xe:=fun e s'=>wpAny (model P w) (A.deeper (envOfC qual scope s.heap.objs.size f cd)) (leaving (envOfC qual scope s.heap.objs.size f cd) e) (fun _ s''=>CX outer H s E e s'') (fun e' s''=>CX outer H s E e' s'') s'
theorem ano{sc:Scope}{n:Nat}{x:Str}(h:sc.names.lookup x=some .cell):∃c,(cellsFrom n sc.names []).lookup x=some c:=by
 have q:=PySem.W.cellsFrom_some sc.names n [] (.inl h);exact Option.isSome_iff_exists.mp q
theorem ake{CX:CXT}{P:Program}{w:World}{K:Fg9}{mg:Str->Option Value}{base:Heap}{N ps:List Str}{qual:Str}{scope:Scope}{f:Addr}{cd:Value}{A:Around}{outer:List Env}{s s1:Shared}{H:Hp}{E:XK}{us:List Value}{vs:List V}
  (S:FnScope N ps scope) (hd:A.handled=none) (e0:Env0 P w K mg base A outer s H) (hl:vs.length=ps.length) (r:Vals vs us)
  (x:InCallC s s.heap.objs.size (bindL (envOfC qual scope s.heap.objs.size f cd).kindOf (ps.zip us) fun _=>none) (cellsFrom (s.heap.objs.size+1) scope.names []) (bindC (envOfC qual scope s.heap.objs.size f cd).kindOf (ps.zip us) fun _=>none) s1) :
  Inv (cxOf CX P w K mg base N qual scope f cd A outer s H E) [] (start N vs) H s1:=by
 have hpl:ps.length<=N.length:=by have:=congrArg List.length S.pre;rw[List.length_take] at this;omega
 obtain⟨h1,tk,rfl,hk⟩:=x.done;have noA:∀b:Addr,b∉(cxOf CX P w K mg base N qual scope f cd A outer s H E).ex:=fun b z=>absurd (show b∈([]:List Addr) from z) (by simp)
 refine⟨⟨e0.mod,S.kind,rfl,rfl,Nat.le_refl _,fun y z c h1 h2 =>?_,fun y hy =>?_,fun y c _ h =>?_,fun _=>hd,Around.frames_deeper e0.frames,.inr ⟨rfl,rfl⟩,fun b z=>absurd z (noA b),e0.bs,e0.bsz,fun b _ _=>noA b,fun b z=>absurd z (noA b),e0.funs,e0.frf⟩,
  rfl,e0.bare,Un.kept hk,⟨_,x.toInCall.ns,fun i y v h1 h2 h3 =>?_⟩,fun y c h=>⟨_,x.cell y c h⟩,e0.hok.fresh (Nat.le_refl _),fun y c h =>?_,fun p hp=>absurd (show p∈([]:List (Addr×Obj)) from hp) (by simp),e0.hok.kept hk,?_⟩
 ·exact name_of_addr x.apart (PySem.mem_of_lookup h1) (PySem.mem_of_lookup h2)
 ·have hy:scope.names.lookup y=some .cell∨scope.names.lookup y=some .free:=hy;rcases hy with hy | hy
  ·exact ano hy
  ·exact absurd rfl (S.nofree _ (PySem.mem_of_lookup hy))
 ·exact Nat.le_of_lt (x.above y c (PySem.mem_of_lookup h))
 ·have hi:i < vs.length:=by
   unfold start at h2
   by_cases hi:i < vs.length
   ·exact hi
   ·rw[List.getElem?_append_right (by simpa using hi)] at h2
    rw[List.getElem?_replicate] at h2;split at h2 <;> cases h2
  have ha:vs[i]? = some v:=by
   unfold start at h2;rw[List.getElem?_append_left (by simpa using hi),List.getElem?_map] at h2
   cases e:vs[i]? with
   | none=>rw[e] at h2;cases h2
   | some a=>rw[e] at h2;cases h2;rfl
  obtain⟨u,hu,rv⟩:=r.get ha;have hp:ps[i]? = some y:=by
   rw[<-S.pre,List.getElem?_take_of_lt (by omega)];exact h1
  have ndP:ps.Nodup:=by rw[<-S.pre];exact S.nd.sublist (List.take_sublist _ _)
  refine⟨u,rv,?_⟩;rcases S.par y (List.mem_of_getElem? hp) with k | k
  ·exact .inl ⟨k,ak1 ndP hp hu k⟩
  ·obtain⟨c,e⟩:=ano (n:=s.heap.objs.size+1) k;refine .inr ⟨.inl k,c,e,?_⟩;have q:=x.cell y c e;rw[ak3 ndP hp hu (by show scope.names.lookup y≠_;rw[k];decide)] at q
   exact q
 ·exact e0.hok.fresh (Nat.le_of_lt (x.above y c (PySem.mem_of_lookup h)))
 ·unfold start;show _=N.length;rw[List.length_append,List.length_map,List.length_replicate];omega
theorem a0h{CX:CXT}{P:Program}{w:World}{K:Fg9}{mg:Str->Option Value}{base:Heap}{k:Nat}{f:Addr}{name qual:Str}{params:Arguments}{body:List Stmt}{scope:Scope}{dV kV doc pm cdv ct oc:Value}{an od:Option Addr}
  {osl:Array (Option Value)} {N ps:List Str} {sp:Sp} (lk:K.lookup f=some ⟨oc,od,.func (fnOf name qual params body scope dV kV doc pm an cdv ct),osl⟩) (hcd:codeIn K cdv qual=true) (S:FnScope N ps scope)
  (len:∀vs H Q E,sp vs H Q E->vs.length=ps.length)
  (hbody:∀(A:Around) (outer:List Env) (s:Shared) (H:Hp) (vs:List V) (Q:VK) (E:XK),Room k (A.deeper (envOfC qual scope s.heap.objs.size f cdv))->sp vs H Q E ->
   ∃t,PSs (cxOf CX P w K mg base N qual scope f cdv A outer s H E) body t/\t { nx:=fun _ H'=>Q .non H',rt:=Q } (start N vs) H) :
  FnOk P w K mg base CX (k+1) f (fnOf name qual params body scope dV kV doc pm an cdv ct) ps sp:=by
 refine⟨len,fun A outer s H args us vs Q E hr e0 hb r hsp =>?_⟩
 have hl:=len _ _ _ _ hsp;have KX:K.In s.heap:=e0.mod.kin.keeps fun b o e=>(e0.bs b o e).1
 have lim:s.heap.NoLimit:=e0.mod.nolimit.keeps fun b o e=>(e0.bs b o e).1
 have hkind:∀y∈ps.zip us,scope.names.lookup y.1=some .local∨(scope.names.lookup y.1=some .cell/\((cellsFrom (s.heap.objs.size+1) scope.names []).lookup y.1).isSome=true):=fun⟨n,v⟩ hy=>by
  rcases S.par n (List.of_mem_zip hy).1 with q | q
  ·exact .inl q
  ·exact .inr ⟨q,PySem.W.cellsFrom_some _ _ _ (.inl q)⟩
 refine codeAny_call_function hr.depth (KX _ _ lk) rfl S.co S.gen rfl (PySem.W.codeRec_of KX hcd) (hb _ _ _ _ ?_);refine wpAny_newFunctionEnv_cells S.kind hkind fun env he s1 x =>?_
 subst he;refine⟨lim.keeps x.toInCall.keep,codeAny_func ?_⟩;obtain⟨t,ht,hq⟩:=hbody A outer s H vs Q E (hr.deeper _) hsp;have I:Inv (cxOf CX P w K mg base N qual scope f cdv A outer s H E) [] (start N vs) H s1:=ake S hr.hd e0 hl r x;refine wpAny_mono (ht [] s1 (start N vs) H _ I hq) (fun fl s' hs =>?_) fun e s' hs=>hs
 have fin:∀{σ':St} {H':Hp} {v:V} {u:Value},Inv (cxOf CX P w K mg base N qual scope f cdv A outer s H E) [] σ' H' s'->RelV v u->Q v H'->CE outer P w H s Q u s' :=
  fun{σ' H' v u} J rv q=>⟨v,H',J.os,J.bare,J.base,J.hok,rv,q⟩
 cases fl with
 | ret u =>
  obtain⟨v,σ',H',J,rv,q⟩:=hs;exact fin J rv q
 | next =>
  obtain⟨σ',H',J,q⟩:=hs;exact fin (v:=V.non) (u:=Value.none) J rfl q
 | brk =>
  obtain⟨_,_,_,q⟩:=hs;exact False.elim q
 | cont =>
  obtain⟨_,_,_,q⟩:=hs;exact False.elim q
section
variable{X:Cx}{x:Str}{p pos:Pos}{e:Expr}{es:List Expr}{t:TA}{id T:String}{r:List V->Hp->VK->Prop}
def tCB(r:List V->Hp->VK->Prop)(t:TA):TE:=fun σ H Q=>t σ H fun vs H1=>r vs H1 Q
theorem ae8(hc:ad6 X (.builtin id) r)(hg:Gl X x)(hm:X.mg x=none)(hv:bootBuiltins x=some (.builtin id))(ha:PA X (e::es) t)(hn:x ≠ "__name__" := by decide)(hdb:(x==("__debug__" : Str))=false:=by decide)
  (he:starEach (e::es) X.env=(false,eval e X.env)::starEach es X.env:=by rfl) (hpl:(backTo pos (starEach es X.env)).any (·.1)=false:=by rfl):PE X (.Call (.Name x p) (e::es) [] pos) (tCB r t):=by
 intro qv s σ H Q I h;refine wpAny_Call_Name_kw (aka I hg hm hv ?_ hn hdb);exact PyProof.Rows.callWith_builtin1 (thn (ha pos qv s σ H _ I h) fun us s1 ⟨vs,H1,I1,r1,q1⟩=>hc qv s1 σ H1 vs us Q I1 r1 q1) he hpl
theorem apm(hc:ad6 X (.type T) r)(hg:Gl X x)(hm:X.mg x=none)(hv:bootBuiltins x=some (.type T))(ha:PA X (e::es) t)(hn:x ≠ "__name__" := by decide)(hdb:(x==("__debug__" : Str))=false:=by decide)
  (he:starEach (e::es) X.env=(false,eval e X.env)::starEach es X.env:=by rfl) (hpl:(backTo pos (starEach es X.env)).any (·.1)=false:=by rfl):PE X (.Call (.Name x p) (e::es) [] pos) (tCB r t):=by
 intro qv s σ H Q I h;refine wpAny_Call_Name_kw (aka I hg hm hv ?_ hn hdb);exact PyProof.Rows.callWith_type1 (thn (ha pos qv s σ H _ I h) fun us s1 ⟨vs,H1,I1,r1,q1⟩=>hc qv s1 σ H1 vs us Q I1 r1 q1) he hpl
end
end L2
namespace HT
open PySem PyProof.Rows
section
open PySem.SeqAt
open PySem.AutoSeq1 (wpAny_loadPart')
open PySem.MeetsSeq PySem.MeetsSeq2 PySem.MeetsSeq3
end
section
variable{prog:Program}{w:World}{A:Around}{E:Value->Shared->Prop}{s:Shared}
theorem axl{t b:Addr}{vs ws:List Value}{Q:Value->Shared->Prop}(ht:IsTup s.heap t vs.toArray)(hb:IsTup s.heap b ws.toArray)(hv:vs≠[])
  (h1:ws=[]->Q (.ref t) s) (h2:ws≠[]->Q (.ref s.heap.objs.size) { s with heap:=s.heap.push { cls:=.type "tuple", data:=.seq (vs++ws).toArray } })
  (hsz:vs.length+ws.length<=sizeLine):wpAny (model prog w) A (binaryOp .Add (.ref t) (.ref b)) Q E s:=by
 obtain⟨⟨cls,dd,data,sl⟩,ho,hc,n,hd⟩:=id ht;obtain⟨⟨cls2,dd2,data2,sl2⟩,ho2,hc2,n2,hd2⟩:=id hb;simp only at hc hd hc2 hd2;subst hc hd hc2 hd2;have e:vs.toArray++ws.toArray=(vs++ws).toArray:=by simp
 by_cases hw:ws=[]
 ·exact concat_meets ⟨_,ho,rfl⟩ ⟨_,ho2,rfl⟩ noFill_tuple_add seq_tuple_add PySem.F.slot_tuple_add PySem.F.entry_tuple_add (PySem.F.args_tuple_add_2 _ _)
   (tuple_addW1 t b vs.toArray ws.toArray n n2 dd dd2 sl sl2 (by simpa using hv) (by simp[hw])) ⟨ho,ho2,h1 hw⟩
 ·refine concat_meets ⟨_,ho,rfl⟩ ⟨_,ho2,rfl⟩ noFill_tuple_add seq_tuple_add PySem.F.slot_tuple_add PySem.F.entry_tuple_add (PySem.F.args_tuple_add_2 _ _)
   (tuple_addW2 t b vs.toArray ws.toArray n n2 dd dd2 sl sl2 (by simpa using hv) (by simpa using hw) (by rw[List.size_toArray,List.size_toArray];exact hsz)) ⟨ho,ho2,?_⟩
  rw[e];exact h2 hw
def sIx(n d:Nat):Option Int->Nat
 | none=>d
 | some v=>if v < 0 then (v+(n:Int)).toNat else min v.toNat n
theorem ayg(n d:Nat)(hd:d<=n)(o:Option Int):sIx n d o<=n:=by
 cases o with
 | none=>exact hd
 | some v =>
  show(if v < 0 then (v+(n:Int)).toNat else min v.toNat n)<=n
  by_cases hv:v < 0
  ·rw[if_pos hv];omega
  ·rw[if_neg hv];exact Nat.min_le_right _ _
theorem aqw(v:Int)(n d:Nat):(if v < 0 then max (v+(n:Int)) 0 else min v (n:Int))=((sIx n d (some v):Nat):Int):=by
 show(if v < 0 then max (v+(n:Int)) 0 else min v (n:Int))=(((if v < 0 then (v+(n:Int)).toNat else min v.toNat n):Nat):Int)
 by_cases hv:v < 0
 ·simp only[if_pos hv];omega
 ·simp only[if_neg hv];omega
theorem aos(lo hi:Option Int)(n:Nat):Builtin.Slice.sliceAdjust lo hi 1 (n:Int)=(((sIx n 0 lo:Nat):Int),((sIx n n hi:Nat):Int)):=by
 have h1:¬((1:Int) < 0):=by omega
 unfold Builtin.Slice.sliceAdjust;simp only[h1,if_false];refine Prod.ext ?_ ?_
 ·cases lo with
  | none=>rfl
  | some v=>exact aqw v n 0
 ·cases hi with
  | none=>rfl
  | some v=>exact aqw v n n
theorem aod(i j:Nat):Builtin.Slice.slicePlaces (i:Int) (j:Int) 1=j - i:=by
 unfold Builtin.Slice.slicePlaces;have h1:(1:Int) > 0:=by omega
 simp only[h1,if_true,Int.ediv_one];split <;> omega
theorem ag8{v:Value}{o:Option Int}{Q:Option Int->Shared->Prop}(p:IsPart v o)(h:Q o s):wpAny (model prog w) A (Builtin.Slice.slicePartIndex v) Q E s:=by
 cases p with
 | none=>exact slicePart_none h
 | int i t=>exact slicePart_int h
theorem aap{sl:Addr}{vl vu:Value}{lo hi:Option Int}{n:Nat}{Q:Int×Int×Nat->Shared->Prop}(hs:s.heap.IsSliceOf sl vl vu .none)(pl:IsPart vl lo)(pu:IsPart vu hi)
  (h:Q (((sIx n 0 lo:Nat):Int),1,sIx n n hi - sIx n 0 lo) s):wpAny (model prog w) A (Builtin.Slice.sliceApplied (.ref sl) (pure (n:Int))) Q E s:=by
 obtain⟨os,hos,hcs,hds⟩:=id hs;unfold Builtin.Slice.sliceApplied Builtin.Slice.sliceFields;refine wpAny_bind (wpAny_bind (wpAny_field hos hds (x:=vl) rfl (wpAny_bind (wpAny_field hos hds (x:=vu) rfl (wpAny_bind (wpAny_field hos hds (x:=.none) rfl (wpAny_pure ?_)))))));refine wpAny_bind (slicePart_none ?_);show wpAny _ _ (if ((1:Int)==0)=true then _ else _) _ _ s
 rw[if_neg (by decide)]
 refine wpAny_bind (ag8 pl (wpAny_bind (ag8 pu (wpAny_bind (wpAny_pure ?_)))));show wpAny _ _ (match Builtin.Slice.sliceAdjust lo hi 1 (n:Int) with | (lo,hi)=>pure (lo,(1:Int),Builtin.Slice.slicePlaces lo hi 1)) _ _ s
 rw[aos lo hi n];show wpAny _ _ (pure (((sIx n 0 lo:Nat):Int),(1:Int),Builtin.Slice.slicePlaces ((sIx n 0 lo:Nat):Int) ((sIx n n hi:Nat):Int) 1)) _ _ s;rw[aod];exact wpAny_pure h
theorem asa(xs:Array Value)(i k:Nat):((List.range k).filterMap fun(m:Nat)=>xs[((i:Int)+(m:Int)*1).toNat]?).toArray=((xs.toList.drop i).take k).toArray:=by
 have e:(fun(m:Nat)=>xs[((i:Int)+(m:Int)*1).toNat]?)=fun m=>xs[i+m]? := by
  funext m
  have:((i:Int)+(m:Int)*1).toNat=i+m:=by omega
  rw[this]
 rw[e];have:=pick_run xs i k;rw[List.filterMap_map] at this;have e2:((fun x=>xs[x]?)∘fun x=>i+x)=fun m=>xs[i+m]? := rfl
 rw[e2] at this;rw[this]
theorem ael{t sl:Addr}{items:Array Value}{vl vu:Value}{lo hi:Option Int}{Q:Value->Shared->Prop}(ht:IsTup s.heap t items)(hs:s.heap.IsSliceOf sl vl vu .none)(pl:IsPart vl lo)(pu:IsPart vu hi)
  (hw:¬(sIx items.size 0 lo=0/\sIx items.size items.size hi=items.size))
  (h:Q (.ref s.heap.objs.size) { s with heap:=s.heap.push { cls:=.type "tuple", data:=.seq ((items.toList.drop (sIx items.size 0 lo)).take (sIx items.size items.size hi - sIx items.size 0 lo)).toArray } })
  (hsz:items.size<=sizeLine):wpAny (model prog w) A (getItem (.ref t) (.ref sl)) Q E s:=by
 have htake:sizeOk (.seq ((items.toList.drop (sIx items.size 0 lo)).take (sIx items.size items.size hi - sIx items.size 0 lo)).toArray):=by
  show((items.toList.drop (sIx items.size 0 lo)).take (sIx items.size items.size hi - sIx items.size 0 lo)).toArray.size<=sizeLine;rw[List.size_toArray,List.length_take,List.length_drop,Array.length_toList];omega
 have hj:sIx items.size items.size hi<=items.size:=ayg _ _ (Nat.le_refl _) hi;obtain⟨os,hos,hcs,hds⟩:=id hs;have hTs:s.TypeIs (.ref sl) "slice" := ⟨os,hos,hcs⟩;unfold getItem
 try with_reducible refine wpAny_holding ?_
 first | refine wpAny_bind (wpAny_pure ?_) | skip
 refine wpAny_bind (wpAny_sequenceKey ht.typeIs (by decide) ?_)
 refine wpAny_bind (wpAny_callSpecial?_slot (name:=Str.ofString "__getitem__") ht.typeIs PyProof.Rows.slot_tuple_getitem
  (wpAny_call_entry PyProof.Rows.slot_tuple_getitem ht.typeIs entry_tuple_getitem ?_ (args_tuple_getitem _ _)))
 show wpAny _ _ (Builtin.Tuple.tupleItemsOf (.ref t) >>= _) _ _ s;refine wpAny_bind (tupleItemsOf_ ht ?_);refine wpAny_bind (wpAny_typeOf hTs ?_);rw[if_pos (by decide)]
 refine wpAny_bind (aap hs pl pu ?_);have hno:¬((((sIx items.size 0 lo:Nat):Int)==0&&(1:Int)==1&&(sIx items.size items.size hi - sIx items.size 0 lo)==items.size)=true):=by
  intro q;rw[Bool.and_eq_true,Bool.and_eq_true] at q;have q1:((sIx items.size 0 lo:Nat):Int)=0:=eq_of_beq q.1.1;have q2:sIx items.size items.size hi - sIx items.size 0 lo=items.size:=eq_of_beq q.2;exact hw ⟨by omega,by omega⟩
 show wpAny _ _ (if (((sIx items.size 0 lo:Nat):Int)==0&&(1:Int)==1&&(sIx items.size items.size hi - sIx items.size 0 lo)==items.size)=true then _ else _) _ _ s
 rw[if_neg hno,asa]
 first
  | exact wpAny_bind (m:=Builtin.Tuple.tupleExact _) (wpAny_newObj_type (wpAny_pure ⟨_,rfl,wpAny_pure h⟩) htake)
  | exact wpAny_bind (m:=Builtin.Tuple.tupleExact _) (wpAny_newObj_type (wpAny_bind (wpAny_pure (wpAny_pure ⟨_,rfl,wpAny_pure h⟩))) htake)
  | exact wpAny_bind (wpAny_bind (m:=Builtin.Tuple.tupleExact _) (wpAny_newObj_type (wpAny_pure (wpAny_pure ⟨_,rfl,wpAny_pure h⟩)) htake))
  | exact wpAny_bind (wpAny_bind (m:=Builtin.Tuple.tupleExact _) (wpAny_newObj_type (wpAny_pure ⟨_,rfl,wpAny_pure h⟩) htake))
end
end HT
namespace L2
abbrev TO:=St->Hp->(Option Int->Hp->Prop)->Prop
def PO(X:Cx)(e:Option Expr)(t:TO):Prop :=
 ∀(qv:List (Addr×Obj)) (s:Shared) (σ:St) (H:Hp) (Q:Option Int->Hp->Prop),Inv X qv σ H s->t σ H Q ->
  wpAny (model X.prog X.w) X.A (evalPart e X.env) (fun u s'=>∃o H',Inv X qv σ H' s'/\IsPart u o/\Q o H') X.xe s
def avf:TO:=fun _ H Q=>Q none H
def a1v(t:TE):TO:=fun σ H Q=>t σ H fun x H1=>∃i,x=.int i/\Q (some i) H1
theorem intsAre_of{ns:List Int}:∀{us:List Value},Vals (ns.map V.int) us->IntsAre us ns:=by
 induction ns with
 | nil=>intro us r;rw[List.map_nil] at r;cases r;exact .nil
 | cons n ns ih =>
  intro us r;rw[List.map_cons] at r;cases r with
  | cons r1 r2 =>
   obtain⟨t,e⟩:=r1;subst e;exact .cons n t (ih r2)
section
variable{X:Cx}{e:Expr}{te:TE}{lo hi:Option Expr}{tl th:TO}{pos p2:Pos}
theorem av1:PO X none avf:=by
 intro qv s σ H Q I h;rw[evalPart_none];exact wpAny_pure ⟨none,H,I,.none,h⟩
theorem av0(h:PE X e te):PO X (some e) (a1v te):=by
 intro qv s σ H Q I hw;rw[evalPart_some];refine thn (h qv s σ H _ I hw) fun u s1 ⟨x,H1,I1,r1,q1⟩ =>?_
 obtain⟨i,rfl,q⟩:=q1;obtain⟨t,rfl⟩:=r1;exact⟨some i,H1,I1,.int i t,q⟩
def SlR(X:Cx)(r:V->Option Int->Option Int->Hp->VK->Prop):Prop :=
 ∀(qv:List (Addr×Obj)) (s:Shared) (σ:St) (H:Hp) (x:V) (v vl vu:Value) (lo hi:Option Int) (sl:Addr) (Q:VK),Inv X qv σ H s->RelV x v->s.heap.IsSliceOf sl vl vu .none->IsPart vl lo->IsPart vu hi->r x lo hi H Q ->
  ∃T id,typeLookup (.type T) "__getitem__" = pure (some (.builtin id))/\s.TypeIs v T/\wpAny (model X.prog X.w) X.A (getItem v (.ref sl)) (EP X qv σ Q) X.xe s
def tSl(r:V->Option Int->Option Int->Hp->VK->Prop)(te:TE)(tl th:TO):TE:=fun σ H Q=>te σ H fun x H1=>tl σ H1 fun l H2=>th σ H2 fun u H3=>r x l u H3 Q
theorem amv{r:V->Option Int->Option Int->Hp->VK->Prop}(hr:SlR X r)(he:PE X e te)(hl:PO X lo tl)(hu:PO X hi th):PE X (.Subscript e (.Slice lo hi none p2) pos) (tSl r te tl th):=by
 intro qv s σ H Q I h;refine Subscript_ (thn (he qv s σ H _ I h) fun v s1 ⟨x,H1,I1,r1,q1⟩ =>?_)
 refine wpAny_Slice (thn (hl qv s1 σ H1 _ I1 q1) fun vl s2 ⟨l,H2,I2,pl,q2⟩=>thn (hu qv s2 σ H2 _ I2 q2) fun vu s3 ⟨u,H3,I3,pu,q3⟩ =>?_)
 rw[evalPart_none];refine wpAny_pure ?_;have I4:Inv X qv σ H3 { s3 with heap:=s3.heap.push { cls:=.type "slice", data:=.fields #[vl,vu,.none] } }:=I3.kept (t':=s3.toks) fun b ob q=>Heap.get?_push_of_some _ q
 obtain⟨T,id,hT,ht,hg⟩:=hr qv { s3 with heap:=s3.heap.push { cls:=.type "slice", data:=.fields #[vl,vu,.none] } } σ H3 x v vl vu l u s3.heap.objs.size Q I4 r1 (Heap.IsSliceOf.new ..) pl pu q3
 show wpAny (model X.prog X.w) X.A (subscriptTail e (.Slice lo hi none p2) v (.ref s3.heap.objs.size)) (EP X qv σ Q) X.xe { s3 with heap:=s3.heap.push { cls:=.type "slice", data:=.fields #[vl,vu,.none] } }
 exact tail_any (ops:=[.ref s3.heap.objs.size,v]) ht hT hg (by with_unfolding_all rfl)
def cutV(xs:List V)(lo hi:Option Int):List V:=(xs.drop (HT.sIx xs.length 0 lo)).take (HT.sIx xs.length xs.length hi - HT.sIx xs.length 0 lo)
theorem agq(xs:List V)(lo hi:Option Int):(cutV xs lo hi).length<=xs.length:=by
 unfold cutV;rw[List.length_take,List.length_drop];omega
def rSlT(K:Fg9):V->Option Int->Option Int->Hp->VK->Prop:=fun x lo hi H Q=>∃a xs,x=.ref a/\SqT K H a xs /\
 ¬(HT.sIx xs.length 0 lo=0/\HT.sIx xs.length xs.length hi=xs.length)/\∀p,H p=none->Q (.ref p) (upd H p (.tup (cutV xs lo hi)))
theorem aye:SlR X (rSlT X.K):=by
 intro qv s σ H x v vl vu lo hi sl Q I rx hs pl pu h;obtain⟨a,xs,rfl,hx,hw,q⟩:=h;cases rx;obtain⟨its,r,ht,hz⟩:=I.tuple hx;have hlen:its.toArray.size=xs.length:=by rw[List.size_toArray];exact r.length.symm
 refine⟨"tuple", _,PyProof.Rows.slot_tuple_getitem.lookup,ht.typeIs,?_⟩;refine HT.ael ht hs pl pu (by rw[hlen];exact hw) ?_ (by rw[hlen];exact hz)
 rw[hlen];refine⟨.ref s.heap.objs.size,_,I.laid (t':=s.toks) (o:=.tup (cutV xs lo hi)) (fun b ob q=>Heap.get?_push_of_some _ q) (Nat.le_refl _) ?_,rfl,q _ (I.hok.fresh (Nat.le_refl _))⟩
 exact⟨Nat.le_trans (agq xs lo hi) hz,_,(r.drop (HT.sIx xs.length 0 lo)).take (HT.sIx xs.length xs.length hi - HT.sIx xs.length 0 lo),IsTp.new _ _⟩
def a2d(K:Fg9):R2:=fun x y H Q=>∃a b xs ys,x=.ref a/\y=.ref b/\SqT K H a xs/\SqT K H b ys/\xs≠[]/\xs.length+ys.length<=sizeLine /\
 (ys=[]->Q (.ref a) H)/\(ys≠[]->∀p,H p=none->Q (.ref p) (upd H p (.tup (xs++ys))))
theorem Vals.nil_iff{xs:List V}{us:List Value}(r:Vals xs us):us=[]↔xs=[]:=by
 cases r with
 | nil=>simp
 | cons _ _=>simp
theorem awe:OpR X (binaryOp .Add) (a2d X.K):=by
 intro qv s σ H x y v u Q I rx ry h;obtain⟨a,b,xs,ys,rfl,rfl,ha,hb,hx,hz,q1,q2⟩:=h;cases rx;cases ry;obtain⟨its,r1,p1,_⟩:=I.tuple ha;obtain⟨its2,r2,p2,_⟩:=I.tuple hb;refine HT.axl p1 p2 (fun z=>hx (r1.nil_iff.mp z)) (fun z=>⟨.ref a,H,I,rfl,q1 (r2.nil_iff.mp z)⟩) (fun z =>?_) (by rw[<-r1.length,<-r2.length];exact hz)
 refine⟨.ref s.heap.objs.size,_,I.laid (t':=s.toks) (o:=.tup (xs++ys)) (fun b ob q=>Heap.get?_push_of_some _ q) (Nat.le_refl _) ?_,rfl,q2 (fun w=>z (r2.nil_iff.mpr w)) _ (I.hok.fresh (Nat.le_refl _))⟩
 exact⟨by rw[List.length_append];exact hz,_,r1.append r2,IsTp.new _ _⟩
end
def ixN(n:Nat)(i:Int):Option Nat:=if 0<=i then (if i < n then some i.toNat else none) else if -(n:Int)<=i then some (i+n).toNat else none
def atI{α:Type}(xs:List α)(i:Int):Option α:=(ixN xs.length i).bind fun j=>xs[j]?
theorem ap3{n:Nat}{i:Int}{j:Nat}(h:ixN n i=some j):seqIndex? i n=some j/\j < n /\ -(n:Int)<=i/\i < n:=by
 unfold ixN at h
 by_cases h0:0<=i
 ·rw[if_pos h0] at h
  by_cases h1:i < n
  ·rw[if_pos h1] at h;have e:i.toNat=j:=Option.some.inj h;exact⟨by rw[seqIndex_of h0 h1,e],by omega,by omega,h1⟩
  ·rw[if_neg h1] at h;cases h
 ·rw[if_neg h0] at h
  by_cases h1 : -(n:Int)<=i
  ·rw[if_pos h1] at h;have e:(i+n).toNat=j:=Option.some.inj h;exact⟨by rw[seqIndex_neg (by omega) h1,e],by omega,h1,by omega⟩
  ·rw[if_neg h1] at h;cases h
theorem arj{α:Type}{xs:List α}{i:Int}{v:α}(h:atI xs i=some v):∃j,seqIndex? i xs.length=some j/\xs[j]? = some v/\j < xs.length /\ -(xs.length:Int)<=i/\i < xs.length:=by
 unfold atI at h;cases e:ixN xs.length i with
 | none=>rw[e] at h;cases h
 | some j =>
  rw[e] at h;obtain⟨h1,h2,h3,h4⟩:=ap3 e;exact⟨j,h1,h,h2,h3,h4⟩
theorem ac1{α:Type}{xs:List α}{j:Nat}{v:α}(h:xs[j]? = some v):atI xs (j:Int)=some v:=by
 have hj:j < xs.length:=(List.getElem?_eq_some_iff.mp h).1;have e:ixN xs.length (j:Int)=some j:=by
  unfold ixN;rw[if_pos (by omega),if_pos (by omega)];simp
 unfold atI;rw[e];exact h
def amh(b:Expr):Prop:=∀o i,subscripted b false o i=operate [o,i] (getItem o i)
def IxR(X:Cx)(r:R2):Prop :=
 ∀(value slice:Expr) (qv:List (Addr×Obj)) (s:Shared) (σ:St) (H:Hp) (x y:V) (v u:Value) (Q:VK),Inv X qv σ H s->RelV x v->RelV y u->r x y H Q ->
  subscripted slice false v u=operate [v,u] (getItem v u)->wpAny (model X.prog X.w) X.A (subscriptTail value slice v u) (EP X qv σ Q) X.xe s
def MtR(X:Cx)(id:String)(r:V->List V->Hp->VK->Prop):Prop :=
 ∀(qv:List (Addr×Obj)) (s:Shared) (σ:St) (H:Hp) (x:V) (xs:List V) (v:Value) (us:List Value) (Q:VK),Inv X qv σ H s->RelV x v->Vals xs us->r x xs H Q ->
  wpAny (model X.prog X.w) X.A (call (.builtin id) (v::us)) (EP X qv σ Q) X.xe s
section
variable{X:Cx}{a b:Expr}{ta tb:TE}{pos:Pos}
theorem ay4{r:R2}(hr:IxR X r)(ha:PE X a ta)(hb:PE X b tb)(hs:amh b):PE X (.Subscript a b pos) (tOp r ta tb):=by
 intro qv s σ H Q I h;exact Subscript_ (binT ha hb I h fun v u s2 x y H2 I2 rx ry q=>hr a b qv s2 σ H2 x y v u Q I2 rx ry q (hs _ _))
def rIxL(K:Fg9):R2:=fun x y H Q=>∃p xs i v,x=.ref p/\y=.int i/\SqL K H p xs/\atI xs i=some v/\Q v H
def rIxT(K:Fg9):R2:=fun x y H Q=>∃p xs i v,x=.ref p/\y=.int i/\SqT K H p xs/\atI xs i=some v/\Q v H
theorem aww:IxR X (rIxL X.K):=by
 intro value slice qv s σ H x y v u Q I rx ry h hs;obtain⟨p,xs,i,z,rfl,rfl,hq,he,q⟩:=h;cases rx;obtain⟨t,rfl⟩:=ry;obtain⟨its,r,pl,hz⟩:=I.list hq;obtain⟨j,h1,h2,h3,h4,h5⟩:=arj he;obtain⟨w,ew,rw'⟩:=r.get h2;have hl:=r.length;have hn:=am2;have fin:EP X qv σ Q w s:=⟨z,H,I,rw',q⟩
 by_cases h0:0<=i
 ·have hj:i.toNat=j:=by
   rw[seqIndex_of h0 h5] at h1;exact Option.some.inj h1
  exact item_listR pl.isList h0 (by omega) (by rw[hj];simpa using ew) fin hs
 ·have hj:(i+(its.toArray.size:Int)).toNat=j:=by
   rw[seqIndex_neg (by omega) h4] at h1
   rw[List.size_toArray,<-hl];exact Option.some.inj h1
  exact subscriptTail_builtinR (x:=w) pl.isList.typeIs slot_list_getitem.lookup
   (wpAny_getItem_list_neg (Q:=fun r s'=>r=w/\EP X qv σ Q r s') pl.isList (by omega) (by rw[List.size_toArray] <;> omega) (by omega) (by rw[hj];simpa using ew) ⟨rfl,fin⟩) hs
theorem az7:IxR X (rIxT X.K):=by
 intro value slice qv s σ H x y v u Q I rx ry h hs;obtain⟨p,xs,i,z,rfl,rfl,hq,he,q⟩:=h;cases rx;obtain⟨t,rfl⟩:=ry;obtain⟨its,r,pl,hz⟩:=I.tuple hq;obtain⟨j,h1,h2,h3,h4,h5⟩:=arj he;obtain⟨w,ew,rw'⟩:=r.get h2;have hl:=r.length;have hn:=am2;have fin:EP X qv σ Q w s:=⟨z,H,I,rw',q⟩;exact subscriptTail_builtinR (x:=w) pl.typeIs slot_tuple_getitem.lookup
  (getItem_tuple (j:=j) (Q:=fun r s'=>r=w/\EP X qv σ Q r s') pl (by omega) (by omega) (by rw[List.size_toArray,<-hl];exact h1) (by simpa using ew) ⟨rfl,fin⟩) hs
theorem aol(its:List Value)(n j:Nat)(u:Value):Obj.mapSeq (·.setIfInBounds j u) { cls:=.type "list", data:=.seq its.toArray n }={ cls:=.type "list", data:=.seq (its.set j u).toArray n }:=by
 simp[Obj.mapSeq]
theorem Inv.lst{qv:List (Addr×Obj)}{σ:St}{H:Hp}{s:Shared}{p:Addr}{xs:List V}(I:Inv X qv σ H s)(h:H p=some (.lst xs)) :
  ∃(its:List Value) (n:Nat),Vals xs its/\s.heap.get? p=some { cls:=.type "list", data:=.seq its.toArray n }/\xs.length<=sizeLine:=by
 obtain⟨z,its,n,r,e⟩:=I.hok p _ h;exact⟨its,n,r,e,z⟩
theorem Inv.lstUpd{qv:List (Addr×Obj)}{σ:St}{H:Hp}{s:Shared}{p:Addr}{xs ys:List V}{its its':List Value}{n n':Nat}{f:Obj->Obj}(I:Inv X qv σ H s)(h:H p=some (.lst xs))
  (ho:s.heap.get? p=some { cls:=.type "list", data:=.seq its.toArray n }) (hf:f { cls:=.type "list", data:=.seq its.toArray n }={ cls:=.type "list", data:=.seq its'.toArray n' }) (r:Vals ys its') (hz:ys.length<=sizeLine) (t:Nat) :
  Inv X qv σ (upd H p (.lst ys)) { s with heap:=s.heap.update p f,toks:=t }:=by
 have e:(s.heap.update p f).get? p=some { cls:=.type "list", data:=.seq its'.toArray n' }:=by
  rw[Heap.get?_update_self f ho (by rw[hf] <;> rfl),hf]
 refine I.write (x:=p) (e:=p) (by rw[h];trivial) (.inl rfl) (fun b u hb q=>(Heap.get?_update_other _ _ (Ne.symm hb)).trans q) ⟨_,e⟩ ?_
 exact⟨hz,its',n',r,e⟩
def a2b:V->V->V->Hp->(Hp->Prop)->Prop:=fun o i v H Q=>∃p xs k j,o=.ref p/\i=.int k/\H p=some (.lst xs)/\ixN xs.length k=some j/\Q (upd H p (.lst (xs.set j v)))
theorem set_list:PSet X a2b:=by
 intro qv s σ H o i v ov iv u Q I ro ri rv h;obtain⟨p,xs,k,j,rfl,rfl,hp,hj,q⟩:=h;cases ro;obtain⟨t,rfl⟩:=ri;obtain⟨its,n,r,ho,hz⟩:=I.lst hp;obtain⟨h1,h2,h3,h4⟩:=ap3 hj;have hl:=r.length;have hn:=am2;have I':Inv X qv σ (upd H p (.lst (xs.set j v))) { s with heap:=s.heap.update p (Obj.mapSeq (·.setIfInBounds j u)) } :=
  I.lstUpd hp ho (aol its n j u) (r.set rv j) (by rw[List.length_set];exact hz) s.toks
 by_cases h0:0<=k
 ·have hk:k.toNat=j:=by
   rw[seqIndex_of h0 h4] at h1;exact Option.some.inj h1
  exact PySem.W.ki_setAt ho h0 (by omega) (by rw[List.size_toArray,<-hl];exact h4) (by rw[hk];exact⟨_,I',q⟩)
 ·have hk:(k+(its.toArray.size:Int)).toNat=j:=by
   rw[seqIndex_neg (by omega) h3] at h1
   rw[List.size_toArray,<-hl];exact Option.some.inj h1
  exact PySem.W.ki_setBack ho (by omega) (by rw[List.size_toArray,<-hl];exact h3) (by omega) (by rw[hk];exact⟨_,I',q⟩)
theorem ajj(lo hi:Option Int)(n:Nat):(sliceBounds lo hi none n).1=((HT.sIx n 0 lo:Nat):Int)/\(sliceBounds lo hi none n).2.1=((HT.sIx n n hi:Nat):Int)/\(sliceBounds lo hi none n).2.2=1:=by
 refine⟨?_,?_,rfl⟩
 ·cases lo with
  | none=>simp[sliceBounds,HT.sIx]
  | some i =>
   simp only[sliceBounds,HT.sIx,Option.getD_none,show(1:Int) > 0 by decide,if_true]
   by_cases h:i < 0
   ·simp only[h,if_true] <;> omega
   ·simp only[h,if_false] <;> omega
 ·cases hi with
  | none=>simp[sliceBounds,HT.sIx]
  | some i =>
   simp only[sliceBounds,HT.sIx,Option.getD_none,show(1:Int) > 0 by decide,if_true]
   by_cases h:i < 0
   ·simp only[h,if_true] <;> omega
   ·simp only[h,if_false] <;> omega
theorem ah4(its:List Value)(lo hi:Option Int):slicePick its.toArray lo hi none=((its.drop (HT.sIx its.length 0 lo)).take (HT.sIx its.length its.length hi - HT.sIx its.length 0 lo)).toArray:=by
 obtain⟨h1,h2,h3⟩:=ajj lo hi its.toArray.size;unfold slicePick;rw[h1,h2,h3];simp only[sliceRange_one,pick_run,List.size_toArray] <;> rfl
def rSlL(K:Fg9):V->Option Int->Option Int->Hp->VK->Prop:=fun x lo hi H Q=>∃a xs,x=.ref a/\SqL K H a xs/\∀p,H p=none->Q (.ref p) (upd H p (.lst (cutV xs lo hi)))
theorem ao1:SlR X (rSlL X.K):=by
 intro qv s σ H x v vl vu lo hi sl Q I rx hs pl pu h;obtain⟨a,xs,rfl,hx,q⟩:=h;cases rx;obtain⟨its,r,ht,hz⟩:=I.list hx;have hlen:=r.length;refine⟨"list", _,slot_list_getitem.lookup,ht.isList.typeIs,?_⟩;refine wpAny_getItem_list_slice ht.isList hs pl pu .none (by simp) ?_ (by rw[List.size_toArray] <;> omega)
 rw[ah4,<-hlen];refine⟨.ref s.heap.objs.size,_,I.laid (t':=s.toks) (o:=.lst (cutV xs lo hi)) (fun b ob q=>Heap.get?_push_of_some _ q) (Nat.le_refl _) ?_,rfl,q _ (I.hok.fresh (Nat.le_refl _))⟩
 exact⟨Nat.le_trans (agq xs lo hi) hz,_,0,(r.drop (HT.sIx xs.length 0 lo)).take (HT.sIx xs.length xs.length hi - HT.sIx xs.length 0 lo),Heap.get?_push_size _ rfl⟩
theorem akt:ad6 X (.builtin "len") (fun xs H Q=>∃p ys,xs=[.ref p]/\(SqL X.K H p ys∨SqT X.K H p ys)/\Q (.int ys.length) H):=by
 intro qv s σ H xs us Q I r h;obtain⟨p,ys,rfl,hq,q⟩:=h;obtain⟨u,rfl,rx⟩:=vals1 r;cases rx;have hn:=am2;rcases hq with hq | hq
 ·obtain⟨its,r',pl,hz⟩:=I.list hq;have hlen:=r'.length;exact Calls.call_len_list pl.isList (by simp only[List.size_toArray] <;> omega) ⟨.int ys.length,H,I.tok _,⟨s.toks+1,by rw[List.size_toArray,hlen]⟩,q⟩
 ·obtain⟨its,r',pl,hz⟩:=I.tuple hq;have hlen:=r'.length;exact len_tuple pl (by simp only[List.size_toArray] <;> omega) ⟨.int ys.length,H,I.tok _,⟨s.toks+1,by rw[List.size_toArray,hlen]⟩,q⟩
theorem aks:ad6 X (.type "list") (fun xs H Q=>∃p ys,xs=[.ref p]/\(SqL X.K H p ys∨SqT X.K H p ys)/\∀l,H l=none->Q (.ref l) (upd H l (.lst ys))):=by
 intro qv s σ H xs us Q I r h;obtain⟨p,ys,rfl,hq,q⟩:=h;obtain⟨u,rfl,rx⟩:=vals1 r;cases rx;have fin:∀(its:List Value),Vals ys its->ys.length<=sizeLine->∀(h':Heap) (c':Nat),(∀b o',s.heap.get? b=some o'->h'.get? b=some o') ->
   h'.get? s.heap.objs.size=some { cls:=.type "list", dict:=none,data:=.seq its.toArray c',slots := #[] }->EP X qv σ Q (.ref s.heap.objs.size) { s with heap:=h' }:=fun its r' hz h' c' kp e =>
  ⟨.ref s.heap.objs.size,_,I.laid (t':=s.toks) kp (Nat.le_refl _) (show uo X.prog X.w _ h' _ (.lst ys) from⟨hz,its,c',r',e⟩),rfl,q _ (I.hok.fresh (Nat.le_refl _))⟩
 rcases hq with hq | hq
 ·obtain⟨its,r',pl,hz⟩:=I.list hq;have hlen:=r'.length;obtain⟨o,ho,hc,n,hd⟩:=pl.isList;exact call_list_seq p (.inl rfl) ho hc hd (fun h' c' kp e=>fin its r' hz h' c' kp e) (by simp only[List.size_toArray] <;> omega)
 ·obtain⟨its,r',pl,hz⟩:=I.tuple hq;have hlen:=r'.length;obtain⟨o,ho,hc,n,hd⟩:=pl;exact call_list_seq p (.inr rfl) ho hc hd (fun h' c' kp e=>fin its r' hz h' c' kp e) (by simp only[List.size_toArray] <;> omega)
theorem aan:ad6 X (.type "tuple") (fun xs H Q=>∃p ys,xs=[.ref p]/\((SqL X.K H p ys/\∀l,H l=none->Q (.ref l) (upd H l (.tup ys)))∨(SqT X.K H p ys/\Q (.ref p) H))):=by
 intro qv s σ H xs us Q I r h;obtain⟨p,ys,rfl,h⟩:=h;obtain⟨u,rfl,rx⟩:=vals1 r;cases rx;rcases h with⟨hq,q⟩ | ⟨hq,q⟩
 ·obtain⟨its,r',pl,hz⟩:=I.list hq;have hlen:=r'.length;refine call_tuple_list pl.isList (fun h' kp =>?_) (by simp only[List.size_toArray] <;> omega)
  have I1:Inv X qv σ H { s with heap:=h' }:=I.kept (t':=s.toks) kp
  have I2:Inv X qv σ (upd H h'.objs.size (.tup ys)) { s with heap:=h'.push { cls:=.type "tuple", data:=.seq its.toArray } } :=
   I1.laid (t':=s.toks) (fun b o e=>Heap.get?_push_of_some _ e) (Nat.le_refl _) (show uo X.prog X.w _ _ _ (.tup ys) from⟨hz,its,r',IsTp.new _ _⟩)
  exact⟨.ref h'.objs.size,_,I2,rfl,q _ (I1.hok.fresh (Nat.le_refl _))⟩
 ·obtain⟨its,r',pl,hz⟩:=I.tuple hq;exact call_tuple_same pl ⟨.ref p,H,I,rfl,q⟩
def tyV(K:Fg9)(T:String)(x:V)(H:Hp):Prop:=match x with
 | .str _=>T = "str"
 | .int _=>T = "int"
 | .ref p=>(T = "list" /\ ∃xs,SqL K H p xs)∨(T = "tuple" /\ ((∃o,K.lookup p=some o/\o.cls=.type "tuple" /\ o.dict=none)∨∃xs,H p=some (.tup xs))) ∨
   (T = "dict" /\ ((∃kvs,H p=some (.dK kvs))∨∃kvs,H p=some (.dT kvs)))∨(T = "set" /\ ∃S n,H p=some (.set S n))
 | _=>False
theorem ax3{qv:List (Addr×Obj)}{σ:St}{H:Hp}{s:Shared}{T:String}{x:V}{v:Value}(I:Inv X qv σ H s)(r:RelV x v)(ty:tyV X.K T x H) :
  s.TypeIs v T/\∀a,v=.ref a->∃ob,s.heap.get? a=some ob/\ob.dict=none:=by
 cases x with
 | str z =>
  obtain⟨t,rfl⟩:=r;cases(show T = "str" from ty)
  exact⟨typeIs_str s z t,fun _ e=>nomatch e⟩
 | int i =>
  obtain⟨t,rfl⟩:=r;cases(show T = "int" from ty)
  exact⟨typeIs_int s i t,fun _ e=>nomatch e⟩
 | ref p =>
  cases r;rcases ty with⟨rfl,xs,hq⟩ | ⟨rfl,⟨o,hk,hc,hd⟩ | ⟨xs,hk⟩⟩ | ⟨rfl,hk⟩ | ⟨rfl,S,n,hk⟩
  ·obtain⟨its,_,pl,_⟩:=I.list hq;refine⟨pl.isList.typeIs,fun a e =>?_⟩
   cases e;obtain⟨o,n,e,c,hd,_⟩:=pl;exact⟨o,e,hd⟩
  ·refine⟨⟨o,I.kIn p o hk,hc⟩,fun a e =>?_⟩
   cases e;exact⟨o,I.kIn _ o hk,hd⟩
  ·obtain⟨_,_,_,o,e,hc,hd,_⟩:=I.hok p _ hk;refine⟨⟨o,e,hc⟩,fun a e2 =>?_⟩
   cases e2;exact⟨o,e,hd⟩
  ·have z:∃o,s.heap.get? p=some o/\o.ExactDict:=by
    rcases hk with⟨kvs,hk⟩ | ⟨kvs,hk⟩
    ·obtain⟨_,_,_,_,o,_,_,e,ex,_⟩:=I.hok p _ hk;exact⟨o,e,ex⟩
    ·obtain⟨_,_,_,_,o,_,_,e,ex,_⟩:=I.hok p _ hk;exact⟨o,e,ex⟩
   obtain⟨o,e,ex⟩:=z;refine⟨⟨o,e,ex.1⟩,fun a e2 =>?_⟩
   cases e2;exact⟨o,e,ex.2.1⟩
  ·obtain⟨o,_,_,_,e,ex,_⟩:=I.hok p _ hk;refine⟨⟨o,e,ex.1⟩,fun a e2 =>?_⟩
   cases e2;exact⟨o,e,ex.2.1⟩
 | _=>exact False.elim ty
def tBM(K:Fg9)(T:String)(r:V->List V->Hp->VK->Prop)(to:TE)(t:TA):TE:=fun σ H Q=>to σ H fun x H1=>tyV K T x H1/\t σ H1 fun xs H2=>r x xs H2 Q
variable{o e:Expr}{es:List Expr}{to:TE}{t:TA}{name:Str}{apos cpos:Pos}{T id:String}{r:V->List V->Hp->VK->Prop}
theorem asj(pa:PlainAttrs T)(slot:Slot T name id)(hty:typeOf (.builtin id)=pure (.type "method_descriptor"))(hm:MtR X id r)(ho:PE X o to)(ha:PA X (e::es) t)
  (hbase:attributeBase o name X.env (eval o X.env)=eval o X.env:=by rfl)
  (hfew:((backTo cpos (starEach (e::es) X.env)).all (fun x => !x.1)&&(backToKw cpos (keywordEach [] X.env)).all (fun x=>x.1.isSome)
   && decide ((e::es).length+([]:List Keyword).length+(if ([]:List Keyword).isEmpty then 0 else 1) < 30))=true:=by rfl)
  (hline:(apos.endLine==cpos.line)=true:=by rfl) (hs:starEach (e::es) X.env=(false,eval e X.env)::starEach es X.env:=by rfl) (hplain:(backTo cpos (starEach es X.env)).any (·.1)=false:=by rfl) :
  PE X (.Call (.Attribute o name apos) (e::es) [] cpos) (tBM X.K T r to t):=by
 intro qv s σ H Q I h;refine wpAny_Call_method_late hbase hfew hline rfl (thn (ho qv s σ H _ I h) fun v s1 ⟨x,H1,I1,r1,ty,q1⟩ =>?_)
 obtain⟨h1,h2⟩:=ax3 I1 r1 ty;refine⟨T,id,pa,slot,hty,h1,h2,?_⟩;have hA:=ha cpos qv s1 σ H1 _ I1 q1;rw[hs] at hA ⊢
 refine Calls.callWith_builtin (by show(false||(backTo cpos (starEach es X.env)).any (·.1))=false;rw[hplain] <;> rfl) (Calls.evalArgs_plain ?_)
 exact thn hA fun us s2 ⟨vs,H2,I2,r2,q2⟩=>hm qv s2 σ H2 x vs v us Q I2 r1 r2 q2
end
def MtM(X:Cx)(id:String)(r:V->List V->Hp->VK->Prop):Prop :=
 ∀(qv:List (Addr×Obj)) (s:Shared) (σ:St) (H:Hp) (x:V) (xs:List V) (v:Value) (us:List Value) (Q:VK),Inv X qv σ H s->RelV x v->Vals xs us->r x xs H Q ->
  wpAny (model X.prog X.w) X.A (call (.builtin id) (v::us)) (EP X qv σ Q) X.xe s
theorem Vals.one:∀{x:V} {us:List Value},Vals [x] us->∃u,us=[u]/\RelV x u
 | _,_,.cons r .nil=>⟨_,rfl,r⟩
theorem Vals.rep{xs:List V}{us:List Value}(h:Vals xs us):∀k:Nat,Vals (List.replicate k xs).flatten (List.replicate k us).flatten
 | 0=>.nil
 | k+1=>by
  rw[List.replicate_succ,List.replicate_succ,List.flatten_cons,List.flatten_cons];exact Vals.append h (Vals.rep h k)
theorem foldl_rep(its:List Value):∀(k:Nat) (acc:List Value),
  List.foldl (fun x1 x2=>x1++x2) acc.toArray (List.replicate k its.toArray)=(acc++(List.replicate k its).flatten).toArray
 | 0,acc=>by simp
 | k+1,acc=>by
  have e:acc.toArray++its.toArray=(acc++its).toArray:=by simp
  have e2:(acc++its)++(List.replicate k its).flatten=acc++(List.replicate (k+1) its).flatten:=by
   rw[List.replicate_succ,List.flatten_cons,List.append_assoc]
  rw[<-e2,<-foldl_rep its k (acc++its),<-e,List.replicate_succ,List.foldl_cons]
section
variable{X:Cx}{qv:List (Addr×Obj)}{σ:St}{H:Hp}{s:Shared}{l b:Addr}{xs ys zs:List V}
theorem Inv.lset{its its':List Value}{n:Nat}{f:Array Value->Array Value}{t':Nat}(I:Inv X qv σ H s)(hH:H l=some (.lst xs))
  (e:s.heap.get? l=some { cls:=.type "list", data:=.seq its.toArray n }) (hf:f its.toArray=its'.toArray) (hv:Vals ys its') (hz:ys.length<=sizeLine) :
  Inv X qv σ (upd H l (.lst ys)) { s with heap:=s.heap.update l (Obj.mapSeq f),toks:=t' }:=by
 have q:=PySem.IsL.update e f;rw[hf] at q;refine I.write (x:=l) (e:=l) (by rw[hH];exact trivial) (.inl rfl) (fun b' u hb hu=>(Heap.get?_update_other s.heap (Obj.mapSeq f) (Ne.symm hb)).trans hu) ⟨_,q⟩ ?_
 exact⟨hz,its',_,hv,q⟩
theorem Inv.lnew{its:List Value}{t':Nat}(I:Inv X qv σ H s)(hv:Vals ys its)(hz:ys.length<=sizeLine) :
  Inv X qv σ (upd H s.heap.objs.size (.lst ys)) { s with heap:=s.heap.push { cls:=.type "list", data:=.seq its.toArray },toks:=t' } :=
 I.laid (fun _ _ q=>Heap.get?_push_of_some _ q) (Nat.le_refl _) ⟨hz,its,0,hv,Heap.get?_push_size _ rfl⟩
theorem Inv.fresh(I:Inv X qv σ H s):H s.heap.objs.size=none:=I.hok.fresh (Nat.le_refl _)
theorem Inv.lstM(I:Inv X qv σ H s)(hH:H l=some (.lst xs)):xs.length<=sizeLine/\∃(its:List Value) (n:Nat),Vals xs its/\xs.length=its.length/\s.heap.get? l=some { cls:=.type "list", data:=.seq its.toArray n }:=by
 obtain⟨z,its,n,r,e⟩:=I.hok l _ hH;exact⟨z,its,n,r,r.length,e⟩
theorem asv{n:Nat}(h:n<=sizeLine):Builtin.List.listTooLong n=false:=by
 unfold Builtin.List.listTooLong;exact decide_eq_false (by omega)
end
section
variable{X:Cx}
def apd:V->List V->Hp->VK->Prop:=fun x vs H Q=>∃l xs y,x=.ref l/\vs=[y]/\H l=some (.lst xs)/\xs.length < sizeLine/\Q .non (upd H l (.lst (xs++[y])))
theorem wk:MtM X "list.append" apd:=by
 intro qv s σ H x vs v us Q I rx rv h;obtain⟨l,xs,y,rfl,rfl,hH,hz,q⟩:=h;cases rx;obtain⟨u,rfl,ru⟩:=rv.one;obtain⟨z,its,n,r,hl,e⟩:=I.lstM hH;refine call_meets F.slot_list_append ⟨_,e,rfl⟩ F.entry_list_append (F.args_list_append_2 _ _) (PySem.list_append l its.toArray n u (by rw[List.size_toArray];omega)) ⟨e,?_⟩
 refine⟨.non,_,I.lset (its':=its++[u]) hH e (by simp) (r.append (.cons ru .nil)) ?_,rfl,q⟩
 rw[List.length_append,List.length_singleton];omega
def rCat:R2:=fun x y H Q=>∃l b xs zs,x=.ref l/\y=.ref b/\H l=some (.lst xs)/\H b=some (.lst zs)/\xs.length+zs.length<=sizeLine/\∀p,H p=none->Q (.ref p) (upd H p (.lst (xs++zs)))
theorem azf:OpR X (binaryOp .Add) rCat:=by
 intro qv s σ H x y v u Q I rx ry h;obtain⟨l,b,xs,zs,rfl,rfl,hH,hB,hz,q⟩:=h;cases rx;cases ry;obtain⟨z,its,n,r,hl,e⟩:=I.lstM hH;obtain⟨z2,its2,n2,r2,hl2,e2⟩:=I.lstM hB;refine PySem.P.add_list e e2 ?_ (by rw[List.size_toArray,List.size_toArray];omega)
 have ea:its.toArray++its2.toArray=(its++its2).toArray:=by simp
 rw[ea];exact⟨.ref _,_,I.lnew (t':=s.toks) (r.append r2) (by rw[List.length_append];omega),rfl,q _ I.fresh⟩
def rRep:R2:=fun x y H Q=>∃l k xs,x=.ref l/\y=.int k/\H l=some (.lst xs) /\ -(2 ^ 63)<=k/\k < 2 ^ 63/\xs.length*k.toNat<=sizeLine /\
 ∀p,H p=none->Q (.ref p) (upd H p (.lst (List.replicate k.toNat xs).flatten))
theorem len_rep{α:Type}(xs:List α)(k:Nat):(List.replicate k xs).flatten.length=k*xs.length:=by
 induction k with
 | zero=>simp
 | succ k ih=>rw[List.replicate_succ,List.flatten_cons,List.length_append,ih,Nat.succ_mul,Nat.add_comm]
theorem azb:OpR X (binaryOp .Mult) rRep:=by
 intro qv s σ H x y v u Q I rx ry h;obtain⟨l,k,xs,rfl,rfl,hH,h1,h2,hz,q⟩:=h;cases rx;obtain⟨t,rfl⟩:=ry;obtain⟨z,its,n,r,hl,e⟩:=I.lstM hH;have hlen:its.toArray.size*k.toNat<=sizeLine:=by rw[List.size_toArray,<-hl];exact hz
 have hcap:¬its.toArray.size*k.toNat > (2 ^ 63 - 1) / 8:=by
  have:(sizeLine:Nat)<=(2 ^ 63 - 1) / 8:=by decide
  omega
 have hfit:¬(!Builtin.List.listFitsIndex k)=true:=by
  rw[fitsIndex_both h1 h2];exact Bool.false_ne_true
 have hlong:¬Builtin.List.listTooLong (its.toArray.size*k.toNat)=true:=by
  rw[asv hlen];exact Bool.false_ne_true
 have hnew:List.foldl (fun x1 x2=>x1++x2) #[] (List.replicate (if its.toArray.isEmpty=true then 0 else k.toNat) its.toArray)=(List.replicate k.toNat its).flatten.toArray:=by
  have f0:∀m:Nat,List.foldl (fun x1 x2=>x1++x2) #[] (List.replicate m its.toArray)=(List.replicate m its).flatten.toArray:=fun m=>by
   have:=foldl_rep its m [];rw[List.nil_append] at this;exact this
  rw[f0];cases its with
  | nil=>simp
  | cons a r'=>rw[if_neg (by simp)]
 refine wpAny_binaryOp_repeat_ref (T := "list") (U := "int") (by decide) ⟨_,e,rfl⟩ (fun s'=>typeIs_int s' k t) noFill_list_mul F.fills_int_mul F.slot_int_rmul repeat_list F.slot_int_index.lookup
  (call_meets F.slot_int_rmul (typeIs_int s k t) F.entry_int_rmul (F.args_int_rmul_2 _ _) (int___rmul___int_list k t l its.toArray n)
   ⟨e,rfl,⟨_,e,rfl⟩,call_meets F.slot_list_mul ⟨_,e,rfl⟩ F.entry_list_mul (F.args_list_mul_2 _ _) (AutoListH.list___mul___list_int_3 l its.toArray n k t hfit hcap hlong) ⟨e,?_⟩⟩)
 rw[hnew];exact⟨.ref _,_,I.lnew (t':=s.toks) (r.rep k.toNat) (by rw[len_rep,Nat.mul_comm];exact hz),rfl,q _ I.fresh⟩
end
section
variable{prog:Program}{w:World}{A:Around}{E:Value->Shared->Prop}{s:Shared}
end
section
variable{X:Cx}
end
end L2
namespace Att
open PySem PySem.W PySem.Calls PyProof.Rows
theorem af8{P:Params}{h:Heap}:∀(ns:List Int) (vs:List Value),WellAll P h vs (ns.map WData.int)->IntsAre vs ns:=by
 intro ns
 induction ns with
 | nil =>
  intro vs w;rw[List.map_nil] at w;cases w;exact .nil
 | cons n ns ih =>
  intro vs w;rw[List.map_cons] at w;cases w with
  | cons a b =>
   cases a;exact .cons _ _ (ih _ b)
theorem ao5{l:OpenLaw}{n:Nat}(hn:l.most=some n){P:Params}{h:Heap}{args:List WData}{vals:List Value}
  (hpre:l.row.toRowW.claim.pre args=true) (hwl:WellAll P h vals args) :
  ∃a vs ns,vals=[Value.ref a]/\args=[WData.list (ns.map WData.int)]/\h.get? a=some { cls:=.type "list", data:=.seq vs.toArray }/\IntsAre vs ns/\ns.length<=n:=by
 have hsh:WShape.hasAll [] args [.list .int]=true:=(pre_splitW hpre).1;have hc:l.pre.holds [] { args:=args }=true:=(pre_splitW hpre).2;obtain⟨d,r,rfl,h1,h2⟩:=hasAllW_cons hsh;obtain rfl:=hasAllW_nil h2;obtain⟨xs,rfl,h3⟩:=hasW_list h1;obtain⟨ns,rfl⟩:=items_int h3;have hlen:ns.length<=n:=by
  unfold OpenLaw.pre at hc;have h4:(WTm.not (.lt (.lit (.int (n:Int))) (.len (.arg 0)))).holds [] { args:=[.list (ns.map .int)] }=true:=by
   have h4:=(holds_andW hc).1;rw[hn] at h4;exact h4
  have h5:=condW_of h4 (w_not (w_lt w_lit (w_len_list (w_arg rfl))));rw[List.length_map] at h5;refine Nat.le_of_not_lt fun q =>?_
  have q':(n:Int) < ((ns.length:Nat):Int):=by omega
  first
   | (rw[decide_eq_true q'] at h5;exact absurd h5 (by decide))
   | (simp at h5;omega)
 cases hwl with
 | cons w1 w2 =>
  cases w2;cases w1 with
  | list ho hall=>exact⟨_,_,ns,rfl,rfl,ho,af8 ns _ hall,hlen⟩
theorem aph(l:OpenLaw)(args:List WData):l.row.toRowW.claim.post args (.bool true) args=true :=
 postW_of (r:=l.row.toRowW) (X:=(true==true))
  (show WShape.has [] (.bool true) .bool=true by first | rfl | decide | simp[WShape.has,WShape.arms,WShape.armsAll])
  (show(WTm.eq .res (.lit (.bool true))).value [] { args:=args,res:=some (.bool true),after:=args }=some (.bool (true==true)) from w_eq_bool (w_res rfl) w_lit) rfl
theorem ame{l:OpenLaw}{n:Nat}{q:Program}{loose:List Str}{XP:(Str->Option Value)->Heap->Prop}{YP:World->Heap->Prop}{d:DefRec}
  (hn:l.most=some n) (hdf:d.params.defaults=[])
  (call:∀(w:World) (s₀ s₁:Shared) (mg mb:Str->Option Value) (fa:Addr) (o:Obj) (pm cd doc:Value) (a:Addr) (vs:List Value) (ns:List Int),
   Ground q loose [] XP w s₀ mg mb s₁.heap->YP w s₁.heap ->
   s₁.heap.get? fa=some o->o.data=.func (docDef d.name d.params d.body d.scope pm cd doc)->s₁.heap.CodeRec cd d.name->mg d.name=some (.ref fa) ->
   s₁.heap.get? a=some { cls:=.type "list", data:=.seq vs.toArray }->IntsAre vs ns->ns.length<=n->s₁.gens = #[] ->
   codeAny (model l.prog w) callerA (.call (.ref fa) ⟨[.ref a],[]⟩) (fun r s'=>r=.ok (.ret (.bool true))/\OldK s₁.heap s'.heap/\s'.os=s₁.os/\AllBare s'.gens) s₁) :
  WalkO q loose XP YP l.row.toRowW d [] (fun f vs=>PySem.call f vs):=by
 intro w s₀ s₁ mg mb G Y fa o pm cd doc dV kV ho hd hcd hD hmg hg args vals as hpre hlay hrd hwl hlo;obtain rfl:dV=.none:=Dflts.none hD hdf;obtain rfl:kV=.none:=Dflts.noKw hD;obtain⟨a,vs,ns,rfl,rfl,hobj,hints,hlen⟩:=ao5 hn hpre hwl;refine enter_call (codeAny_mono (call w s₀ s₁ mg mb fa o pm cd doc a vs ns G Y ho (fd_plain hd) hcd hmg hobj hints hlen hg) fun r s' hq =>?_)
 obtain⟨rfl,h2,h3,h4⟩:=hq;exact⟨.inl ⟨.bool true,.bool true,[],rfl,fun _=>rfl,.bool true,aph l _,fun _=>⟨List.Pairwise.nil,fun _ hm=>(nomatch hm)⟩⟩,h2,h3,h4⟩
section
variable{prog:Program}{w:World}{A:Around}{E:Value->Shared->Prop}{s:Shared}{K:Frag}
end
end Att
namespace L2
theorem aje:∀{vs:List Value} {ns:List Int},IntsAre vs ns->Vals (ns.map V.int) vs
 | _,_,.nil=>.nil
 | _,_,.cons n t h=>.cons ⟨t,rfl⟩ (aje h)
def Only(H:Hp):Prop:=∀b,H b=none∨∃o xs,H b=some (.frz o (.lst xs))
theorem ata{P:Program}{w:World}{K:Fg9}{mg mb:Str->Option Value}{CX:CXT}{k:Nat}{fa a:Addr}{fd:FuncData}{x:Str}{sp:Sp}{s₁:Shared}{vs:List Value}{ns:List Int}
  (KX:K.In s₁.heap) (hns:s₁.heap.Ns mainGlobals mg) (hb:s₁.heap.Ns builtinsNs mb) (hbb:∀x:Str,x ≠ "__name__" -> mb x=bootBuiltins x) (hlim:s₁.heap.NoLimit) (hg:s₁.gens = #[])
  (ha:s₁.heap.get? a=some { cls:=.type "list", data:=.seq vs.toArray }) (hi:IntsAre vs ns) (hl:ns.length<=sizeLine) (hr:Room k callerA)
  (F:∀base:Heap,K.In base->base.Ns mainGlobals mg->FnOk P w K mg base CX k fa fd [x] sp) (hbind:∀(s:Shared) (u:Value),BindsTo s fd ⟨[u],[]⟩ [(x,u)])
  (hsp:∀H:Hp,Only H->SqL K H a (ns.map V.int)->sp [.ref a] H (fun v _=>v=.bl true) fun _ _ _=>False)
  (hCX:∀H e s',CX [] H s₁ (fun _ _ _=>False) e s'->False) :
  codeAny (model P w) callerA (.call (.ref fa) ⟨[.ref a],[]⟩) (fun r s'=>r=.ok (.ret (.bool true))/\OldK s₁.heap s'.heap/\s'.os=s₁.os/\AllBare s'.gens) s₁:=by
 have rv:=aje hi;have lenV:=hi.length;have core:∀H:Hp,Only H->SqL K H a (ns.map V.int)->HOk P w H s₁.heap->(∀b,H b≠none->b=a)->(H a≠none->K.lookup a=none) ->
   codeAny (model P w) callerA (.call (.ref fa) ⟨[.ref a],[]⟩) (fun r s'=>r=.ok (.ret (.bool true))/\OldK s₁.heap s'.heap/\s'.os=s₁.os/\AllBare s'.gens) s₁:=by
  intro H hO hS hok hA hK;have base_of:∀{b:Addr} {o:Obj},s₁.heap.get? b=some o->H b=none->(hidT s₁.heap H).get? b=some o:=fun e n=>atf e n
  have noA:∀{b:Addr} {o:Obj} {es:Array DictEntry} {ep:Nat},s₁.heap.get? b=some o->o.data=.dict es ep->H b=none:=fun{b o es ep} e d=>by
   cases q:H b with
   | none=>rfl
   | some u =>
    have e':b=a:=hA b (by rw[q];simp)
    subst e';rw[ha] at e;cases e;have d':Data.seq vs.toArray _=Data.dict es ep:=d;cases d'
  have nsK:∀{b:Addr} {m:Str->Option Value},s₁.heap.Ns b m->(hidT s₁.heap H).Ns b m:=fun{b m} ⟨o,es,ep,e,d,r⟩=>⟨o,es,ep,base_of e (noA e d),d,r⟩
  have hKb:K.In (hidT s₁.heap H):=fun b o e=>base_of (KX b o e) (by
   cases q:H b with
   | none=>rfl
   | some u =>
    have e':b=a:=hA b (by rw[q];simp)
    subst e';rw[hK (by rw[q];simp)] at e;cases e)
  have hM:Mod K mg (hidT s₁.heap H):=⟨hKb,nsK hns,⟨mb,nsK hb,hbb⟩,let ⟨mc,h1,h2⟩:=hlim;⟨mc,nsK h1,h2⟩⟩
  have e0:Env0 P w K mg (hidT s₁.heap H) callerA [] s₁ H:=⟨rfl,hM,fun b o e=>awf e,Nat.le_of_eq (aqa _ _),trivial,fun b hb=>absurd (show b∈([]:List Addr) from hb) (by simp),hok,.of_eq hg⟩
  refine codeAny_mono ((F _ hKb (nsK hns)).run callerA [] s₁ H ⟨[.ref a],[]⟩ [.ref a] [.ref a] _ _ hr e0 (hbind s₁ (.ref a)) (.cons rfl .nil) (hsp H hO hS)) fun r s' h =>?_
  cases r with
  | error e=>exact(hCX H e s' h).elim
  | ok fl =>
   cases fl with
   | next=>exact False.elim h
   | brk=>exact False.elim h
   | cont=>exact False.elim h
   | ret u =>
    obtain⟨v,H',os,bare,un,hok',r',q⟩:=h;have q':v=.bl true:=q;subst q';obtain rfl:u=Value.bool true:=r';refine⟨rfl,OldK.of_keep fun b o e =>?_,os,bare⟩
    cases q:H b with
    | none=>exact un.keep b o e q (by intro z;exact absurd (show b∈([]:List Addr) from z) (by simp)) (by simp)
    | some u =>
     rcases hO b with z | ⟨ob,xs,z⟩
     ·rw[q] at z;cases z
     ·have z2:=un.frzs b ob _ z;obtain⟨e1,_⟩:=hok b _ z;obtain⟨e2,_⟩:=hok' b _ z2;rw[e] at e1;cases e1;exact e2
 cases hk:K.lookup a with
 | some o =>
  have e:=KX a o hk;rw[ha] at e;cases e;refine core (fun _=>none) (fun _=>.inl rfl) (.inr ⟨_,vs.toArray,_,hk,rfl,rfl,rfl,by rw[List.size_toArray,lenV];exact hl,by simpa using rv⟩) (fun b u z=>by have z':(none:Option HO)=some u:=z;cases z') (fun b z=>absurd rfl z) fun z=>absurd rfl z
 | none =>
  refine core (fun b=>if b=a then some (.frz { cls:=.type "list", data:=.seq vs.toArray } (.lst (ns.map V.int))) else none) (fun b =>?_) (.inl (.inr ⟨{ cls:=.type "list", data:=.seq vs.toArray },if_pos rfl⟩)) (fun b u z =>?_) (fun b z =>?_) fun _=>hk
  ·by_cases hb:b=a
   ·exact .inr ⟨_,_,if_pos hb⟩
   ·exact .inl (if_neg hb)
  ·by_cases hb:b=a
   ·have z':=(if_pos hb).symm.trans z;cases z';subst hb;exact⟨ha,by rw[List.length_map];exact hl,vs,_,rv,ha⟩
   ·have z':=(if_neg hb).symm.trans z;cases z'
  ·by_cases hb:b=a
   ·exact hb
   ·exact absurd (if_neg hb) z
theorem au9{l:PySem.W.OpenLaw}{n k:Nat}{q:Program}{loose:List Str}{XP:(Str->Option Value)->Heap->Prop}{YP:World->Heap->Prop}{d:DefRec}{K:Params->Fg9}{CX:World->CXT}{sp:World->Sp}{x:Str}
  (hn:l.most=some n) (hn2:n<=sizeLine) (hdf:d.params.defaults=[]) (hr:Room k callerA)
  (hY:∀(w:World) (h:Heap),YP w h->(K w.params).In h)
  (F:∀(w:World) (mg:Str->Option Value) (fa:Addr) (h:Heap),(K w.params).In h->h.Ns mainGlobals mg->mg d.name=some (.ref fa) ->
   ∃fd:FuncData,(∀(s:Shared) (u:Value),BindsTo s fd ⟨[u],[]⟩ [(x,u)]) /\
    ∀base:Heap,(K w.params).In base->base.Ns mainGlobals mg->FnOk l.prog w (K w.params) mg base (CX w) k fa fd [x] (sp w))
  (hsp:∀(w:World) (H:Hp) (a:Addr) (ns:List Int),ns.length<=n->Only H->SqL (K w.params) H a (ns.map V.int)->sp w [.ref a] H (fun v _=>v=.bl true) fun _ _ _=>False)
  (hCX:∀(w:World) (H:Hp) (s:Shared) (e:Value) (s':Shared),CX w [] H s (fun _ _ _=>False) e s'->False) :
  PySem.W.WalkO q loose XP YP l.row.toRowW d [] (fun f vs=>PySem.call f vs):=by
 refine Att.ame hn hdf fun w s₀ s₁ mg mb fa o pm cd doc a vs ns G Y ho hd hcd hmg hobj hints hlen hg =>?_
 have KX:=hY w _ Y;obtain⟨fd,hb,hF⟩:=F w mg fa _ KX G.T.g hmg;exact ata KX G.T.g G.T.b G.T.builtins G.T.nolimit hg hobj hints (Nat.le_trans hlen hn2) hr hF hb (fun H hO hS=>hsp w H a ns hlen hO hS) fun H e s'=>hCX w H s₁ e s'
def kj(s:Stmt):Arguments:=match s with
 | .FunctionDef _ a _ _ _ _ _ _ _ _=>a
 | _=>{ posonlyargs:=[],args:=[],vararg:=none,kwonlyargs:=[],kw_defaults:=[],kwarg:=none,defaults:=[] }
def jh(s:Stmt):List Stmt:=match s with
 | .FunctionDef _ _ b _ _ _ _ _ _ _=>b
 | _=>[]
def aq(s:Stmt):Scope:=match s with
 | .FunctionDef _ _ _ _ _ _ sc _ _ _=>sc
 | _=>{ kind:=.function,names:=[],isGenerator:=false,isCoroutine:=false }
abbrev CX0:CXT:=fun _ _ _ _ _ _=>False
abbrev E0:XK:=fun _ _ _=>False
theorem a2m{X:Cx}:arp CX0 X E0:=fun _ _ _ _ _ _ _ h=>h.elim
structure Fun (K:Fg9) (x qual:Str) (st:Stmt) (f:Addr) (fd:FuncData):Prop where
 ex:∃(oc:Value) (od:Option Addr) (kV doc pm:Value) (an:Option Addr) (cdv ct:Value) (osl:Array (Option Value)),
  fd=fnOf x qual (kj st) (jh st) (aq st) .none kV doc pm an cdv ct/\K.lookup f=some ⟨oc,od,.func fd,osl⟩/\codeIn K cdv qual=true
 kp:keepIn K (.ref f)=true
section
variable{P:Program}{w:World}{K:Fg9}{mg:Str->Option Value}{base:Heap}
theorem Fun.ok{x qual:Str}{st:Stmt}{f:Addr}{fd:FuncData}{N ps:List Str}{k:Nat}{sp:Sp}(F:Fun K x qual st f fd)(S:FnScope N ps (aq st))(len:∀vs H Q E,sp vs H Q E->vs.length=ps.length)
  (hbody:∀(cdv:Value) (A:Around) (outer:List Env) (s:Shared) (H:Hp) (vs:List V) (Q:VK) (E:XK),Room k (A.deeper (envOfC qual (aq st) s.heap.objs.size f cdv))->sp vs H Q E ->
   ∃t,PSs (cxOf CX0 P w K mg base N qual (aq st) f cdv A outer s H E).nox (jh st) t/\t { nx:=fun _ H'=>Q .non H',rt:=Q } (start N vs) H):FnOk P w K mg base CX0 (k+1) f fd ps sp:=by
 obtain⟨oc,od,kV,doc,pm,an,cdv,ct,osl,rfl,lk,hcd⟩:=F.ex;refine a0h lk hcd S len fun A outer s H vs Q E hr hsp =>?_
 obtain⟨t,h,q⟩:=hbody cdv A outer s H vs Q E hr hsp;exact⟨t,h.nox,q⟩
theorem Fun.binds{x qual:Str}{st:Stmt}{f:Addr}{fd:FuncData}{ps:List Str}(F:Fun K x qual st f fd)
  (h:∀(kV doc pm:Value) (an:Option Addr) (cdv ct:Value) (us:List Value),us.length=ps.length->bindArgs (fnOf x qual (kj st) (jh st) (aq st) .none kV doc pm an cdv ct) ⟨us,[]⟩=pure (ps.zip us)):Binds K fd ps []:=by
 obtain⟨oc,od,kV,doc,pm,an,cdv,ct,osl,rfl,lk,hcd⟩:=F.ex;exact .all (h kV doc pm an cdv ct)
theorem au0{x qual:Str}{st:Stmt}{f:Addr}{oc:Value}{od an:Option Addr}{osl:Array (Option Value)}{kV doc pm cdv ct:Value}(l:K.lookup f=some ⟨oc,od,.func (fnOf x qual (kj st) (jh st) (aq st) .none kV doc pm an cdv ct),osl⟩)
  (c:codeIn K cdv qual=true) (k:keepIn K (.ref f)=true):Fun K x qual st f (fnOf x qual (kj st) (jh st) (aq st) .none kV doc pm an cdv ct):=⟨⟨oc,od,kV,doc,pm,an,cdv,ct,osl,rfl,l,c⟩,k⟩
end
theorem afq{n:Nat}(h:n<=1000):n < sizeLine:=Nat.lt_of_le_of_lt h (by decide)
section
variable{X:Cx}
theorem pv(i:Nat){x:Str}{pos:Pos}(hN:X.N[i]? = some x:=by rfl)(hv:Vis X.env.scope x:=by first | exact Or.inl rfl | exact Or.inr (Or.inl rfl) | exact Or.inr (Or.inr rfl))(hd:(x==("__debug__" : Str))=false:=by decide)
  (hcd:(x==("__classdict__" : Str))=false:=by decide):PE X (.Name x pos) (tVar i):=ayx hN hv hd hcd
end
theorem iteF{A B:Prop}(h:B):if false=true then A else B:=by
 rw[if_neg Bool.false_ne_true];exact h
theorem iteT{A B:Prop}(h:A):if true=true then A else B:=by
 rw[if_pos rfl];exact h
def Same(H H':Hp):Prop:=∀b o,H b=some o->H' b=some o
theorem Same.refl(H:Hp):Same H H:=fun _ _ h=>h
theorem Same.trans{H H1 H2:Hp}(a:Same H H1)(b:Same H1 H2):Same H H2:=fun c o h=>b c o (a c o h)
theorem Same.seq{K:Fg9}{H H':Hp}{a:Addr}{xs:List V}(e:Same H H')(h:SqL K H a xs):SqL K H' a xs:=by
 rcases h with(h | ⟨o,h⟩) | h
 ·exact .inl (.inl (e _ _ h))
 ·exact .inl (.inr ⟨o,e _ _ h⟩)
 ·exact .inr h
end L2
namespace Mn
open L2
def aaa(env:Env)(fr:List Str):List (Str×Addr):=fr.filterMap fun n=>(env.cells.lookup n).map fun c=>(n,c)
theorem agv{env:Env}{n:Str}{r:List Str}(e:env.cells.lookup n=none):aaa env (n::r)=aaa env r:=by
 unfold aaa;rw[List.filterMap_cons,e];rfl
theorem acz{env:Env}{n:Str}{r:List Str}{c:Addr}(e:env.cells.lookup n=some c):aaa env (n::r)=(n,c)::aaa env r:=by
 unfold aaa;rw[List.filterMap_cons,e];rfl
theorem look_same{x:Str}{c:Addr}{l:List (Str×Addr)}:List.lookup x ((x,c)::l)=some c:=by
 have hb:(x==x)=true:=beq_iff_eq.mpr rfl;simp only[List.lookup,hb]
theorem ahg{x n:Str}{c:Addr}{l:List (Str×Addr)}(h:x≠n):List.lookup x ((n,c)::l)=l.lookup x:=by
 have hb:(x==n)=false:=beq_eq_false_iff_ne.mpr h;simp only[List.lookup,hb]
theorem um{env:Env}:∀{fr:List Str} {x:Str} {c:Addr},(aaa env fr).lookup x=some c->env.cells.lookup x=some c
 | [],x,c,h=>by
  have h':(none:Option Addr)=some c:=h;cases h'
 | n::r,x,c,h=>by
  cases e:env.cells.lookup n with
  | none =>
   rw[agv e] at h;exact um h
  | some d =>
   rw[acz e] at h
   by_cases hx:x=n
   ·subst hx;rw[look_same] at h;rw[e];exact h
   ·rw[ahg hx] at h;exact um h
theorem ab1{env:Env}:∀{fr:List Str} {x:Str} {c:Addr},x∈fr->env.cells.lookup x=some c->(aaa env fr).lookup x=some c
 | [],x,c,hm,h=>absurd hm (by simp)
 | n::r,x,c,hm,h=>by
  by_cases hx:x=n
  ·subst hx;rw[acz h,look_same]
  ·have hm':x∈r:=(List.mem_cons.mp hm).elim (fun e=>absurd e hx) id
   cases e:env.cells.lookup n with
   | none =>
    rw[agv e];exact ab1 hm' h
   | some d =>
    rw[acz e,ahg hx];exact ab1 hm' h
def afo(XN fr:List Str):List Str->List (Option Nat)->Bool
 | [],[]=>true
 | _::N,none::r=>afo XN fr N r
 | x::N,some j::r=>XN[j]? == some x&&fr.contains x&&afo XN fr N r
 | _,_=>false
theorem afn{XN fr:List Str}:∀{N:List Str} {src:List (Option Nat)} {i j:Nat} {x:Str},afo XN fr N src=true->N[i]? = some x->src[i]? = some (some j)->XN[j]? = some x/\x∈fr
 | [],[],i,j,x,_,h,_=>by simp at h
 | [],_::_,i,j,x,_,h,_=>by simp at h
 | _::_,[],i,j,x,_,_,h=>by simp at h
 | y::N,none::r,0,j,x,_,_,h=>by simp at h
 | y::N,none::r,i+1,j,x,hk,h1,h2=>afn (N:=N) (src:=r) (i:=i) hk (by simpa using h1) (by simpa using h2)
 | y::N,some k::r,0,j,x,hk,h1,h2=>by
  simp only[afo,Bool.and_eq_true] at hk;obtain⟨⟨a,b⟩,_⟩:=hk;simp at h1 h2;subst h1 h2;exact⟨by simpa using a,by simpa using b⟩
 | y::N,some k::r,i+1,j,x,hk,h1,h2=>by
  simp only[afo,Bool.and_eq_true] at hk;exact afn (N:=N) (src:=r) (i:=i) hk.2 (by simpa using h1) (by simpa using h2)
theorem afm{XN fr:List Str}:∀{N:List Str} {src:List (Option Nat)},afo XN fr N src=true->src.length=N.length
 | [],[],_=>rfl
 | [],_::_,h=>by simp[afo] at h
 | _::_,[],h=>by simp[afo] at h
 | _::N,none::r,h=>by
  have:=afm (N:=N) (src:=r) h;simp[this]
 | _::N,some k::r,h=>by
  simp only[afo,Bool.and_eq_true] at h;have:=afm (N:=N) (src:=r) h.2;simp[this]
def pick(src:List (Option Nat))(σ:L2.St):L2.St:=src.map fun o=>o.bind fun j=>(σ[j]?).bind id
theorem ar9{src:List (Option Nat)}{σ:L2.St}{i:Nat}{v:V}(h:(pick src σ)[i]? = some (some v)):∃j,src[i]? = some (some j)/\σ[j]? = some (some v):=by
 unfold pick at h;rw[List.getElem?_map] at h;cases e:src[i]? with
 | none=>rw[e] at h;cases h
 | some o =>
  rw[e] at h;have h':(o.bind fun j=>(σ[j]?).bind id)=some v:=Option.some.inj h
  cases o with
  | none=>cases h'
  | some j =>
   refine⟨j,rfl,?_⟩;have h2:(σ[j]?).bind id=some v:=h';cases q:σ[j]? with
   | none=>rw[q] at h2;cases h2
   | some z =>
    rw[q] at h2;have h3:z=some v:=h2;rw[h3]
def ahr(env:Env)(XN:List Str)(scope:Scope)(fr N:List Str)(src:List (Option Nat)):Bool :=
 scope.names.all (fun y=>y.2 != .cell&&(y.2 != .local||scope.names.lookup y.1==some .local)&&(y.2 != .free||fr.contains y.1)) &&
 fr.all (fun x=>scope.names.lookup x==some .free&&(env.kindOf x==some .cell||env.kindOf x==some .free))&&afo XN fr N src
structure CompOk (env:Env) (XN:List Str) (scope:Scope) (fr N:List Str) (src:List (Option Nat)):Prop where
 cell:∀y∈scope.names,y.2≠.cell
 loc:∀y∈scope.names,y.2=.local->scope.names.lookup y.1=some .local
 free:∀y∈scope.names,y.2=.free->y.1∈fr
 frk:∀x∈fr,scope.names.lookup x=some .free
 out:∀x∈fr,env.kindOf x=some .cell∨env.kindOf x=some .free
 src:afo XN fr N src=true
theorem CompOk.of{env:Env}{XN:List Str}{scope:Scope}{fr N:List Str}{src:List (Option Nat)}(h:ahr env XN scope fr N src=true):CompOk env XN scope fr N src:=by
 simp only[ahr,Bool.and_eq_true,List.all_eq_true] at h;obtain⟨⟨h1,h2⟩,h3⟩:=h;refine⟨fun y hy =>?_,fun y hy e =>?_,fun y hy e =>?_,fun x hx =>?_,fun x hx =>?_,h3⟩
 ·have:=(h1 y hy).1.1
  simpa using this
 ·have:=(h1 y hy).1.2;rw[e] at this
  simpa using this
 ·have:=(h1 y hy).2;rw[e] at this
  simpa using this
 ·have:=(h2 x hx).1
  simpa using this
 ·have:=(h2 x hx).2
  simpa using this
theorem aew{env:Env}:∀{names:List (Str×NameKind)} {x:Str} {k:NameKind},
  (names.map fun(n,k)=>if (k==NameKind.free&&env.scope.kind==.function&&env.kindOf n==some .cell) then (n,NameKind.cell) else (n,k)).lookup x=some k ->
  ∃k0,names.lookup x=some k0/\(k=k0∨(k0=.free/\k=.cell))
 | [],x,k,h=>by simp at h
 | (n,q)::r,x,k,h=>by
  by_cases hx:x=n
  ·subst hx;have hb:(x==x)=true:=beq_iff_eq.mpr rfl;refine⟨q,by simp only[List.lookup,hb],?_⟩
   by_cases hc:(q==NameKind.free&&env.scope.kind==.function&&env.kindOf x==some .cell)=true
   ·rw[List.map_cons] at h;simp only[hc,if_true,List.lookup,hb] at h;simp only[Bool.and_eq_true] at hc;exact .inr ⟨by simpa using hc.1.1,(Option.some.inj h).symm⟩
   ·rw[List.map_cons] at h;simp only[hc,List.lookup,hb] at h;exact .inl (by simpa using h.symm)
  ·have hb:(x==n)=false:=beq_eq_false_iff_ne.mpr hx;have h':(r.map fun(n,k)=>if (k==NameKind.free&&env.scope.kind==.function&&env.kindOf n==some .cell) then (n,NameKind.cell) else (n,k)).lookup x=some k:=by
    rw[List.map_cons] at h
    by_cases hc:(q==NameKind.free&&env.scope.kind==.function&&env.kindOf n==some .cell)=true
    ·simp only[hc,if_true,List.lookup,hb] at h;exact h
    ·have h2:List.lookup x ((if (q==NameKind.free&&env.scope.kind==.function&&env.kindOf n==some .cell)=true then (n,NameKind.cell) else (n,q))::(r.map fun(n,k)=>if (k==NameKind.free&&env.scope.kind==.function&&env.kindOf n==some .cell) then (n,NameKind.cell) else (n,k)))=some k:=h
     rw[if_neg hc] at h2;simp only[List.lookup,hb] at h2;exact h2
   obtain⟨k0,e,d⟩:=aew h';exact⟨k0,by simp only[List.lookup,hb];exact e,d⟩
theorem aa4{env:Env}:∀{names:List (Str×NameKind)} {x:Str},names.lookup x=some .free ->
  (names.map fun(n,k)=>if (k==NameKind.free&&env.scope.kind==.function&&env.kindOf n==some .cell) then (n,NameKind.cell) else (n,k)).lookup x=some .free ∨
  (names.map fun(n,k)=>if (k==NameKind.free&&env.scope.kind==.function&&env.kindOf n==some .cell) then (n,NameKind.cell) else (n,k)).lookup x=some .cell
 | [],x,h=>by simp at h
 | (n,q)::r,x,h=>by
  by_cases hx:x=n
  ·subst hx;have hb:(x==x)=true:=beq_iff_eq.mpr rfl;simp only[List.lookup,hb] at h;have hq:q=.free:=Option.some.inj h;subst hq
   by_cases hc:(NameKind.free==NameKind.free&&env.scope.kind==.function&&env.kindOf x==some .cell)=true
   ·right
    rw[List.map_cons];simp only[hc,if_true,List.lookup,hb]
   ·left
    show List.lookup x ((if (NameKind.free==NameKind.free&&env.scope.kind==.function&&env.kindOf x==some .cell)=true then (x,NameKind.cell) else (x,NameKind.free))::_)=some NameKind.free
    rw[if_neg hc];simp only[List.lookup,hb]
  ·have hb:(x==n)=false:=beq_eq_false_iff_ne.mpr hx;simp only[List.lookup,hb] at h;rw[List.map_cons]
   by_cases hc:(q==NameKind.free&&env.scope.kind==.function&&env.kindOf n==some .cell)=true
   ·simp only[hc,if_true,List.lookup,hb];exact aa4 h
   ·simp only[hc,List.lookup,hb]
    simpa[List.lookup,hb] using aa4 (env:=env) h
def cxC(X:Cx)(N:List Str)(scope:Scope)(fr:List Str)(fp:List Addr)(s:Shared)(H:Hp):Cx where
 prog:=X.prog
 w:=X.w
 K:=X.K
 mg:=X.mg
 base:=X.base
 A:=X.A
 N:=N
 s₀:=s
 H₀:=H
 env:=compEnvC scope (aaa X.env fr) s.heap.objs.size X.env
 outer:=X.stack
 stack:=X.stack
 ex:=fp
 fn:=fun _=>false
 calm:=X.calm
 pn:=[]
 xe:=fun _ _=>False
section
variable{X:Cx}{qv:List (Addr×Obj)}{σ:L2.St}{H:Hp}{s:Shared}{scope:Scope}{fr N:List Str}{src:List (Option Nat)}{fp:List Addr}
theorem a0o(I:Inv X qv σ H s)(C:CompOk X.env X.N scope fr N src)(hkind:scope.kind=.function)(hf:∀b∈fp,FpOk X qv H b)(hl:∀b∈fp,b < s.heap.objs.size):(cxC X N scope fr fp s H).Ok where
 mod:=I.ok.mod
 kind:=hkind
 glob:=I.ok.glob
 blt:=I.ok.blt
 above:=Nat.le_refl _
 inj:=fun x y c h1 h2=>I.ok.inj x y c (um h1) (um h2)
 has:=fun x hx=>by
  have mem:∀k,(k=NameKind.cell∨k=NameKind.free)->(cxC X N scope fr fp s H).env.kindOf x=some k->x∈fr:=fun k hk e=>by
   obtain⟨k0,e0,d⟩:=aew (env:=X.env) (names:=scope.names) e;have hm:=PySem.mem_of_lookup e0;rcases d with rfl | ⟨rfl,_⟩
   ·rcases hk with rfl | rfl
    ·exact absurd rfl (C.cell _ hm)
    ·exact C.free _ hm rfl
   ·exact C.free _ hm rfl
  have hm:x∈fr:=by
   rcases hx with e | e
   ·exact mem _ (.inl rfl) e
   ·exact mem _ (.inr rfl) e
  obtain⟨c,hc⟩:=I.ok.has x (C.out x hm);exact⟨c,ab1 hm hc⟩
 cab:=fun _ _ h _=>absurd h Bool.false_ne_true
 hd:=I.ok.hd
 frames:=I.ok.frames
 stk:=.inl rfl
 exf:=fun b hb=>⟨Nat.ne_of_lt (hl b hb),fun x c e=>(hf b hb).2.2.2.2.1 x c (um e)⟩
 bs:=I.bs
 bsz:=Nat.le_trans I.ok.bsz I.sz
 noex:=fun b o e hb=>by
  rcases(hf b hb).2.2.2.1 with z | z
  ·exact I.ok.noex b o e z
  ·exact absurd (Nat.lt_of_lt_of_le (Heap.lt_size e) (Nat.le_trans I.ok.bsz z)) (Nat.lt_irrefl _)
 exfs:=fun b hb z=>by
  rcases List.mem_cons.mp (I.stkSub b z) with e | e
  ·exact(hf b hb).2.1 e
  ·exact(hf b hb).2.2.1 e
 funs:=I.stack
 frf:=I.stkFree
theorem anc(I:Inv X qv σ H s)(C:CompOk X.env X.N scope fr N src)(hkind:scope.kind=.function)(hf:∀b∈fp,FpOk X qv H b)(hl:∀b∈fp,b < s.heap.objs.size){h':Heap}{tk:Nat}{m:Str->Option Value}
  (hns:h'.Ns s.heap.objs.size m) (hk:∀b o,s.heap.get? b=some o->h'.get? b=some o):Inv (cxC X N scope fr fp s H) [] (pick src σ) H { s with heap:=h',toks:=tk } where
 ok:=a0o I C hkind hf hl
 os:=rfl
 bare:=I.bare
 base:=Un.kept hk
 loc:=by
  refine⟨m,hns,fun i x v h1 h2 h3 =>?_⟩
  obtain⟨j,hj,hv⟩:=ar9 h2;obtain⟨hN,hm⟩:=afn C.src h1 hj;obtain⟨mo,_,hlo⟩:=I.loc;have vis:Vis X.env.scope x:=by
   rcases C.out x hm with e | e
   ·exact .inr (.inl e)
   ·exact .inr (.inr e)
  obtain⟨u,r,l⟩:=hlo j x v hN hv vis;refine⟨u,r,.inr ⟨?_,?_⟩⟩
  ·rcases aa4 (env:=X.env) (C.frk x hm) with e | e
   ·exact .inr e
   ·exact .inl e
  ·rcases l with⟨e,_⟩ | ⟨_,c,hc,z⟩
   ·rcases C.out x hm with q | q
    ·rw[q] at e;cases e
    ·rw[q] at e;cases e
   ·obtain⟨o,ho,hd⟩:=z;exact⟨c,ab1 hm hc,o,hk c o ho,hd⟩
 cell:=fun x c e=>by
  obtain⟨v,o,ho,hd⟩:=I.cell x c (um e);exact⟨v,o,hk c o ho,hd⟩
 free:=I.hok.fresh (Nat.le_refl _)
 freeC:=fun x c e=>I.freeC x c (um e)
 pin:=fun p hp=>absurd (show p∈([]:List (Addr×Obj)) from hp) (by simp)
 hok:=I.hok.kept hk
 len:=by
  unfold pick;rw[List.length_map];exact afm C.src
theorem ane{pins':List (Addr×Obj)}{σ':L2.St}{H':Hp}{s':Shared}{h'':Heap}(I:Inv X qv σ H s)(hf:∀b∈fp,FpOk X qv H b)(J:Inv (cxC X N scope fr fp s H) pins' σ' H' s')
  (hs:Heap.SameBut s.heap.objs.size s'.heap h''):Inv X qv σ H' { s' with heap:=h'' }:=by
 have k:∀b o,b≠s.heap.objs.size->s'.heap.get? b=some o->h''.get? b=some o:=fun b o hb e=>(hs.2 b hb).trans e
 have old:∀b o,s.heap.get? b=some o->b≠s.heap.objs.size:=fun b o e=>Nat.ne_of_lt (Heap.lt_size e)
 have un:Un (frs X.stack) fp H H' s.heap h'':=by
  have u:Un (frs X.stack) fp H H' s.heap s'.heap:=J.base;refine⟨fun b o e n hb hx=>k b o (old b o e) (u.keep b o e n hb hx),fun b o e n hb hx =>?_,u.free,fun b o e hx =>?_,u.tups,u.frzs,u.tbls⟩
  ·obtain⟨sl,q⟩:=u.slot b o e n hb hx;exact⟨sl,k b _ (old b o e) q⟩
  ·obtain⟨o',q⟩:=u.there b o e hx;exact⟨o',k b _ (old b o e) q⟩
 have hok:HOk X.prog X.w H' h'':=fun b u e=>by
  have nC:∀c z,H' c=some z->c≠s.heap.objs.size:=fun c z q w=>by
   have f:H' s.heap.objs.size=none:=J.free;rw[w,f] at q;cases q
  refine(J.hok b u e).stay (fun c v hc q=>k c v ?_ q) (fun _ q=>q) fun _ _ q=>q
  rcases hc with z | z
  ·rw[z];exact nC b u e
  ·exact nC c _ z
 have os:s'.os=s.os:=J.os;refine Inv.call' (s':={ s' with heap:=h'' }) I os un hok J.bare fun b hb =>?_
 obtain⟨_,f1,_,f3,f4,f5⟩:=hf b hb;exact⟨f3,f1,f4,f5⟩
end
def ak8(ifs:List Expr)(env:Env):Sem Bool:=forIn ifs true fun c r=>if r=true then do let ok <-isTrue c env (eval c env);pure (ForInStep.yield ok) else pure (ForInStep.yield r)
def PIf(X:Cx)(ifs:List Expr)(t:TT):Prop :=
 ∀(qv:List (Addr×Obj)) (s:Shared) (σ:L2.St) (H:Hp) (Q:Bool->Hp->Prop),Inv X qv σ H s->t σ H Q->wpAny (model X.prog X.w) X.A (ak8 ifs X.env) (TP X qv σ Q) X.xe s
def tYes:TT:=fun _ H Q=>Q true H
theorem av3{X:Cx}:PIf X [] tYes:=fun qv s σ H Q I h=>by
 show wpAny _ _ (pure true) _ _ s;exact wpAny_pure ⟨H,I,h⟩
theorem av2{X:Cx}{c:Expr}{t:TT}(hc:PT X c t):PIf X [c] t:=fun qv s σ H Q I h=>by
 unfold ak8;rw[List.forIn_cons];rw[if_pos rfl];refine wpAny_bind (wpAny_bind (thn (hc qv s σ H _ I h) fun b s1 q=>wpAny_pure ?_))
 show wpAny _ _ (forIn [] b _) _ _ s1;exact wpAny_pure q
section
variable{prog:Program}{w:World}{A:Around}{R:Result->Shared->Prop}{s:Shared}
theorem compLoop{elt target iter:Expr}{ifs:List Expr}{scope:Scope}{pos:Pos}{it acc:Value}{env:Env}(I:Nat->Shared->Prop)
  (turn:∀n s,I n s->wpAny (model prog w) A (pyNext it) (fun r s₁=>match r with
   | none=>R (.ok .next) s₁
   | some v=>wpAny (model prog w) A (letOwnedTupleGo target it v) (fun _ s₁'=>wpAny (model prog w) A (assign target env v) (fun _ s₂ =>
     wpAny (model prog w) A (ak8 ifs env) (fun ok s₃ =>
      if ok=true then wpAny (model prog w) A (eval elt env) (fun x s₄ =>
       wpAny (model prog w) A (call (.builtin "list.append") [acc,x]) (fun _ s₅=>∃m,m < n/\I m s₅) (fun _ _=>False) s₄) (fun _ _=>False) s₃
      else ∃m,m < n/\I m s₃) (fun _ _=>False) s₂) (fun _ _=>False) s₁') (fun _ _=>False) s₁) (fun _ _=>False) s)
  (n:Nat) (h:I n s) :
  codeAny (model prog w) A (.compLoop (.ListComp elt [⟨target,iter,ifs,0⟩] scope pos) 0 it acc env) R s:=by
 refine codeAny_loop rfl I (fun n s hI =>?_) n h
 show wpAny _ A ((compTurn (.ListComp elt [⟨target,iter,ifs,0⟩] scope pos) 0 it acc env).onRaise (fun x=>do noteFrame x env;theTreesLotGoes x)) _ _ s
 refine wpAny_noted ?_;rw[compTurn_list];refine wpAny_bind (wpAny_standAt (wpAny_bind (wpAny_mono (turn n s hI) (fun r s₁ h₁ =>?_) fun _ _ h'=>h'.elim)))
 cases r with
 | none=>exact wpAny_pure h₁
 | some v =>
  refine wpAny_bind (wpAny_mono h₁ (fun _ s₁' h₁' =>?_) fun _ _ h'=>h'.elim)
  refine wpAny_bind (wpAny_mono h₁' (fun _ s₂ h₂=>wpAny_bind (wpAny_mono h₂ (fun ok s₃ h₃ =>?_) fun _ _ h'=>h'.elim)) fun _ _ h'=>h'.elim)
  cases ok with
  | false=>exact wpAny_pure ⟨rfl,h₃⟩
  | true =>
   exact wpAny_bind (wpAny_bind (wpAny_mono h₃ (fun x s₄ h₄=>wpAny_bind (wpAny_mono h₄ (fun _ s₅ h₅=>wpAny_pure (wpAny_pure ⟨rfl,h₅⟩)) fun _ _ h'=>h'.elim)) fun _ _ h'=>h'.elim))
end
def a0x(J:It)(g:TG)(ti:TT)(te:TE)(Q:VK)(d:Addr)(σ0:L2.St)(H1:Hp):Prop :=
 ∃W:Nat->Nat->List V->L2.St->Hp->Prop,(∃m,W 0 m [] σ0 (upd H1 d (.lst [])))/\∀i m ys σ H2,W i m ys σ H2->H2 d=some (.lst ys) /\
  ((J.stop i H2/\Q (.ref d) H2)∨(J.go i H2/\∀x H3,J.yld i H2 x H3->g x σ H3 fun σ4 H4=>ti σ4 H4 fun b H5 =>
   if b=true then te σ4 H5 fun y H6=>H6 d=some (.lst ys)/\ys.length < sizeLine/\∃m',m' < m/\W (i+1) m' (ys++[y]) σ4 (upd H6 d (.lst (ys++[y]))) else ∃m',m' < m/\W (i+1) m' ys σ4 H5))
def avh(wi:TI)(g:TG)(ti:TT)(te:TE)(src:List (Option Nat)):TE:=fun σ H Q=>wi σ H fun J H1=>∀d,H1 d=none->a0x J g ti te Q d (pick src σ) H1
theorem akr{X:Cx}{tg iter elt:Expr}{ifs:List Expr}{scope:Scope}{pos:Pos}{J:It}{fp:List Addr}{it d:Addr}{tn:Nat->Heap->Prop}{g:TG}{ti:TT}{te:TE}{Q:VK}{R:Result->Shared->Prop}
  {W:Nat->Nat->List V->L2.St->Hp->Prop} {m0:Nat} {σ0:L2.St} {H0:Hp} {s:Shared} (hc:X.calm=true) (hE:X.xe=fun _ _=>False) (T:Turn X.prog X.w X.K tg J fp it tn)
  (hf:∀H':Hp,(∀b∈fp,H' b=none)->∀b∈fp,FpOk X [] H' b) (hg:PG X tg g) (ht:PIf X ifs ti) (he:PE X elt te)
  (turn:∀i m ys σ H2,W i m ys σ H2->H2 d=some (.lst ys) /\
   ((J.stop i H2/\Q (.ref d) H2)∨(J.go i H2/\∀x H3,J.yld i H2 x H3->g x σ H3 fun σ4 H4=>ti σ4 H4 fun b H5 =>
    if b=true then te σ4 H5 fun y H6=>H6 d=some (.lst ys)/\ys.length < sizeLine/\∃m',m' < m/\W (i+1) m' (ys++[y]) σ4 (upd H6 d (.lst (ys++[y]))) else ∃m',m' < m/\W (i+1) m' ys σ4 H5)))
  (w0:W 0 m0 [] σ0 H0) (I0:Inv X [] σ0 H0 s) (st0:tn 0 s.heap) (fr0:∀b∈fp,H0 b=none)
  (hR:∀σ' H' s',Inv X [] σ' H' s'->Q (.ref d) H'->R (.ok .next) s') :
  codeAny (model X.prog X.w) X.A (.compLoop (.ListComp elt [⟨tg,iter,ifs,0⟩] scope pos) 0 (.ref it) (.ref d) X.env) R s:=by
 have hE':∀e s',X.xe e s'->False:=fun e s' h=>by rw[hE] at h;exact h
 refine compLoop (fun n s'=>∃i ys σ' H',Inv X [] σ' H' s'/\tn i s'.heap/\(∀b∈fp,H' b=none)/\W i n ys σ' H') ?_ m0 ⟨0,[],σ0,H0,I0,st0,fr0,w0⟩
 rintro n s5 ⟨i,ys,σ5,H5,I5,st5,fr5,w5⟩
 obtain⟨hD,alt⟩:=turn i n ys σ5 H5 w5;rcases alt with⟨stop,qn⟩ | ⟨go,step⟩
 ·refine wpAny_mono (T.done X rfl rfl rfl hc i [] s5 σ5 H5 (fun _ _=>False) I5 (hf _ fr5) st5 stop) (fun r s6 ⟨hr,I6⟩ =>?_) fun _ _ e=>e
  subst hr;exact hR σ5 H5 s6 I6 qn
 ·refine wpAny_mono (T.item X rfl rfl rfl hc i [] s5 σ5 H5 (fun _ _=>False) I5 (hf _ fr5) st5 go) (fun r s6 ⟨u,hr,h6⟩ =>?_) fun _ _ e=>e
  subst hr;refine wpAny_mono h6 (fun _ s7 ⟨x,H7,I7,r7,y7,st7,fr7⟩ =>?_) fun _ _ e=>e
  have I7':=I7.pinned (hf _ fr7) (T.obj _ _ st7);have again:∀{σ':L2.St} {H':Hp} {s':Shared} {ys':List V} {m':Nat},Inv X ([]++ajq fp s7.heap) σ' H' s'->W (i+1) m' ys' σ' H'->∃i ys σ' H',Inv X [] σ' H' s'/\tn i s'.heap/\(∀b∈fp,H' b=none)/\W i m' ys σ' H':=fun{σ' H' s' ys' m'} Ia wa=>by
   refine⟨i+1,ys',σ',H',Ia.unpinned,T.keep _ _ _ st7 fun b hb o e=>(Ia.pin (b,o) (List.mem_append_right _ (List.mem_append_right _ (abw hb e)))).1,fun b hb =>?_,wa⟩
   obtain⟨o,e,d⟩:=T.obj _ _ st7 b hb;exact(Ia.pin (b,o) (List.mem_append_right _ (List.mem_append_right _ (abw hb e)))).2.1
  refine wpAny_mono (hg _ s7 σ5 H7 x u _ I7' r7 (step x H7 y7)) (fun _ s8 ⟨σ8,H8,I8,q8⟩ =>?_) hE'
  refine wpAny_mono (ht _ s8 σ8 H8 _ I8 q8) (fun ok s9 ⟨H9,I9,q9⟩ =>?_) hE'
  cases ok with
  | false =>
   rw[if_neg Bool.false_ne_true] at q9 ⊢
   obtain⟨m',hm,wa⟩:=q9;exact⟨m',hm,again I9 wa⟩
  | true =>
   rw[if_pos rfl] at q9 ⊢
   refine wpAny_mono (he _ s9 σ8 H9 _ I9 q9) (fun z s10 ⟨y,H10,I10,r10,hd10,hz,m',hm,wa⟩ =>?_) hE'
   refine wpAny_mono (wk _ s10 σ8 H10 (.ref d) [y] (.ref d) [z] (fun _ H'=>H'=upd H10 d (.lst (ys++[y]))) I10 rfl (.cons r10 .nil) ⟨d,ys,y,rfl,rfl,hd10,hz,rfl⟩) (fun _ s11 ⟨_,H11,I11,_,e11⟩ =>?_) hE'
   subst e11;exact⟨m',hm,again I11 wa⟩
theorem av6{X:Cx}{tg iter elt:Expr}{ifs:List Expr}{scope:Scope}{pos:Pos}{wi:TI}{g:TG}{ti:TT}{te:TE}(fr N:List Str)(src:List (Option Nat))(hc:X.calm=true)(hi:PI X tg iter wi)
  (hg:∀fp s H,PG (cxC X N scope fr fp s H) tg g) (ht:∀fp s H,PIf (cxC X N scope fr fp s H) ifs ti) (he:∀fp s H,PE (cxC X N scope fr fp s H) elt te)
  (hok:ahr X.env X.N scope fr N src=true:=by rfl) (hkind:scope.kind=.function:=by rfl) (hclos:closureFor scope X.env=pure (aaa X.env fr):=by rfl)
  (hs:∀x,foldedSetIterable iter X.env x=pure x:=by intro _;rfl):PE X (.ListComp elt [⟨tg,iter,ifs,0⟩] scope pos) (avh wi g ti te src):=by
 have C:=CompOk.of hok;intro qv s σ H Q I h;rw[eval_ListComp];refine wpAny_comprehension_free (use:=none) rfl hs hclos hkind C.loc (wpAny_mono (hi qv s σ H _ I h) (fun v s1 h1=>wpAny_mono h1 (fun itv s2 h2 =>?_) fun _ _ e=>e) fun _ _ e=>e)
 obtain⟨it,fp,tn,J,H2,e,I2,T,st2,f2,q2⟩:=h2;subst e;have hd0:H2 s2.heap.objs.size=none:=I2.hok.fresh (Nat.le_refl _);obtain⟨W,⟨m0,w0⟩,turn⟩:=q2 s2.heap.objs.size hd0;refine wpAny_newObj_type ?_;generalize hs3:({ s2 with heap:=s2.heap.push { cls:=.type "list", dict:=none,data:=.seq ([]:List Value).toArray } }:Shared)=s3
 have keep2:∀b o,s2.heap.get? b=some o->s3.heap.get? b=some o:=fun b o e=>by rw[<-hs3];exact Heap.get?_push_of_some _ e
 have I3:Inv X qv σ (upd H2 s2.heap.objs.size (.lst [])) s3:=by
  rw[<-hs3];exact I2.laid (t':=s2.toks) (fun b u q=>Heap.get?_push_of_some _ q) (Nat.le_refl _) ⟨Nat.zero_le _,[],0,.nil,Heap.get?_push_size _ rfl⟩
 have ne0:∀b∈fp,b≠s2.heap.objs.size:=fun b hb=>by
  obtain⟨o,e,_⟩:=T.obj _ _ st2 b hb;exact Nat.ne_of_lt (Heap.lt_size e)
 have f3:∀b∈fp,FpOk X qv (upd H2 s2.heap.objs.size (.lst [])) b:=fun b hb=>⟨by rw[cu (ne0 b hb)];exact(f2 b hb).1,(f2 b hb).2⟩
 have lt3:∀b∈fp,b < s3.heap.objs.size:=fun b hb=>by
  obtain⟨o,e,_⟩:=T.obj _ _ st2 b hb;exact Heap.lt_size (keep2 b o e)
 refine wpAny_newFunctionEnv C.cell (by intro y hy;simp at hy) (fun h₁ hns₁ hsb₁ =>?_) hkind
 have keep3:∀b o,s3.heap.get? b=some o->h₁.get? b=some o:=fun b o e=>hsb₁.extBut b o (Nat.ne_of_lt (Heap.lt_size e)) (Heap.get?_push_of_some _ e)
 have st4:tn 0 h₁:=T.keep _ _ _ st2 fun b hb o e=>keep3 b o (keep2 b o e)
 have I4:=anc (tk:=s3.toks+([]:List (Str×Value)).length) I3 C hkind f3 lt3 hns₁ keep3;have loop:=akr (X:=cxC X N scope fr fp s3 (upd H2 s2.heap.objs.size (.lst []))) (iter:=iter) (scope:=scope) (pos:=pos) (d:=s2.heap.objs.size)
  (R:=compPost (model X.prog X.w) X.A X.xe none (EP X qv σ Q) (.ref s2.heap.objs.size) s3.heap.objs.size) hc rfl T
  (fun H' hn b hb=>⟨hn b hb,Nat.ne_of_lt (lt3 b hb),I4.ok.exfs b hb,.inl hb,(I4.ok.exf b hb).2,fun p hp=>absurd (show p∈([]:List (Addr×Obj)) from hp) (by simp)⟩)
  (hg fp s3 _) (ht fp s3 _) (he fp s3 _) turn w0 I4 st4 (fun b hb=>(f3 b hb).1) (fun σ' H' s' I6 qn=>by
   obtain⟨m6,hn6,_⟩:=I6.loc;exact⟨m6,hn6,fun h'' hs''=>⟨.ref s2.heap.objs.size,H',ane I3 f3 I6 hs'',rfl,qn⟩⟩)
 exact codeAny_compStart_list loop (T.self _ 0 _ _ _ st4 loop)
theorem Same.new{H:Hp}{p:Addr}(h:H p=none)(o:HO):Same H (upd H p o):=fun b u q=>by rw[cu (jc q h)];exact q
structure ItOf (J:It) (xs:List V) (S:Hp->Prop):Prop where
 go:∀i H,S H->i < xs.length->J.go i H
 yld:∀i H x H',S H->J.yld i H x H'->H'=H/\(i < xs.length->xs[i]? = some x)
 stop:∀i H,S H->xs.length<=i->J.stop i H
theorem atd{K:Fg9}{a:Addr}{xs:List V}:ItOf (Itt K a) xs fun H=>SqT K H a xs :=
 ⟨fun i H h hi=>⟨xs,xs[i],h,by simp[hi]⟩,fun i H x H' h y=>⟨y.1,fun _=>y.2 xs h⟩,fun i H h hi=>⟨xs,h,hi⟩⟩
theorem am8{K:Fg9}{a:Addr}{xs:List V}:ItOf (Itl K a) xs fun H=>SqL K H a xs :=
 ⟨fun i H h hi=>⟨xs,xs[i],h,by simp[hi]⟩,fun i H x H' h y=>⟨y.1,fun _=>y.2 xs h⟩,fun i H h hi=>⟨xs,h,hi⟩⟩
def ups(lo:Int)(n:Nat):List V:=(List.range n).map fun i=>V.int (lo+(i:Nat))
theorem ak6(lo:Int)(n:Nat):(ups lo n).length=n:=by simp[ups]
theorem ava{lo:Int}{n i:Nat}(h:i < n):(ups lo n)[i]? = some (.int (lo+(i:Nat))):=by
 unfold ups;rw[List.getElem?_map,List.getElem?_range h];rfl
theorem ate{lo:Int}{n:Nat}:ItOf (Itr lo n) (ups lo n) fun _=>True :=
 ⟨fun i H _ hi=>by rw[ak6] at hi;exact hi,fun i H x H' _ y=>⟨y.1,fun hi=>by rw[ak6] at hi;rw[ava hi,y.2]⟩,fun i H _ hi=>by rw[ak6] at hi;exact hi⟩
section
variable{X:Cx}
def rAll(K:Fg9):List V->Hp->VK->Prop:=fun xs H Q=>∃(p:Addr) (bs:List Bool),xs=[.ref p]/\SqL K H p (bs.map V.bl)/\Q (.bl (bs.all id)) H
theorem at3(hc:X.calm=true):ad6 X (.builtin "all") (rAll X.K):=by
 intro qv s σ H xs us Q I r h;obtain⟨p,bs,rfl,hq,q⟩:=h;obtain⟨u,rfl,ru⟩:=vals1 r;cases ru;obtain⟨its,rv,pl,hz⟩:=I.list hq;have hl:=pl.isList;have hlen:=rv.length;rw[List.length_map] at hlen;have hlt:p < s.heap.objs.size:=by obtain⟨_,e,_⟩:=hl;exact Heap.lt_size e
 refine call_all_walk (wpAny_pyIter_list hl ?_);refine⟨s.heap.objs.size,[s.heap.objs.size,p],[s.heap.objs.size],its.toArray.size,_,_,fun i=>(bs[i]?).getD true,rfl,Walks.list (A:=X.A.in1) (I.ok.hd hc) _ p (Nat.ne_of_lt hlt) its.toArray,
  ⟨⟨_,Heap.get?_push_size _ rfl,rfl,rfl⟩,hl.push _⟩,fun i v s' Q' E' hP hQ =>?_,fun h' tk hk =>?_⟩
 ·have hi:its[i]? = some v:=by simpa using hP
  cases e:bs[i]? with
  | none =>
   have h1:bs.length<=i:=List.getElem?_eq_none_iff.mp e;have h2:i < its.length:=(List.getElem?_eq_some_iff.mp hi).1;omega
  | some b =>
   obtain⟨u,hu,ru⟩:=rv.get (i:=i) (x:=V.bl b) (by rw[List.getElem?_map,e];rfl)
   rw[hi] at hu;cases hu;obtain rfl:v=Value.bool b:=ru;simp only[e,Option.getD_some] at hQ;exact wpAny_truthy_bool hQ
 ·have e:((List.range its.toArray.size).all fun i=>(bs[i]?).getD true)=bs.all id:=by
   rw[List.size_toArray,<-hlen];exact LSm.range_all bs
  rw[e];exact⟨.bl (bs.all id),H,I.kept (t':=tk) (LSm.kept_iter hk),rfl,q⟩
end
def Dfn(P:Program)(w:World)(K:Fg9)(mg:Str->Option Value)(base:Heap)(x:Str)(ps:List Str)(k:Nat)(sp:Sp):Prop :=
 ∃(f:Addr) (fd:FuncData),FnOk P w K mg base CX0 k f fd ps sp/\mg x=some (.ref f)/\keepIn K (.ref f)=true/\Binds K fd ps []
section
variable{X:Cx}{x:Str}{ps:List Str}{k:Nat}{sp:Sp}{e:Expr}{es:List Expr}{t:TA}{p pos:Pos}
theorem a2k(F:Dfn X.prog X.w X.K X.mg X.base x ps k sp)(hr:Room k X.A)(hg:Gl X x)(ha:PA X (e::es) t)(hdb:(x==("__debug__" : Str))=false:=by decide)
  (he:starEach (e::es) X.env=(false,eval e X.env)::starEach es X.env:=by rfl) (hpl:(backTo pos (starEach es X.env)).any (·.1)=false:=by rfl):PE X (.Call (.Name x p) (e::es) [] pos) (avi sp [] E0 t):=by
 obtain⟨f,fd,F,hm,hk,hb⟩:=F;exact av8 F hr hg hm hk hb .nil a2m ha hdb he hpl
theorem ajr{T:String}(hg:Gl X x)(hm:X.mg x=none)(hv:bootBuiltins x=some (.type T))(hn:x ≠ "__name__" := by decide)(hd:(x==("__debug__" : Str))=false:=by decide):PE X (.Name x pos) (tC (.ty T)) :=
 av9 hg hm hv rfl hn hd
end
section
variable{X:Cx}
end
section
variable{prog:Program}{w:World}{A:Around}{E:Value->Shared->Prop}{s:Shared}
theorem atz{t b:Addr}{vs ws:List Value}{Q:Value->Shared->Prop}(ht:IsTup s.heap t vs.toArray)(hb:IsTup s.heap b ws.toArray)(hv:vs=[])(h:Q (.ref b) s):wpAny (model prog w) A (binaryOp .Add (.ref t) (.ref b)) Q E s:=by
 obtain⟨⟨cls,dd,data,sl⟩,ho,hc,n,hd⟩:=id ht;obtain⟨⟨cls2,dd2,data2,sl2⟩,ho2,hc2,n2,hd2⟩:=id hb;simp only at hc hd hc2 hd2;subst hc hd hc2 hd2;exact concat_meets ⟨_,ho,rfl⟩ ⟨_,ho2,rfl⟩ noFill_tuple_add seq_tuple_add PySem.F.slot_tuple_add PySem.F.entry_tuple_add (PySem.F.args_tuple_add_2 _ _)
  (tuple_addW0 t b vs.toArray ws.toArray n n2 dd dd2 sl sl2 (by simp[hv])) ⟨ho,ho2,h⟩
end
section
variable{X:Cx}
end
section
variable{X:Cx}
def aya(x:Str)(n:Int):TE:=fun _ H Q=>∀p,H p=none->Q (.ref p) (upd H p (.dK [(Sum.inr x,.int n)]))
theorem asf{x:Str}{n:Int}{j1 j2:Nat}{p1 p2 pos:Pos}:PE X (.Dict [some (.Constant (.str x) j1 p1)] [.Constant (.int n) j2 p2] pos) (aya x n):=by
 intro qv s σ H Q I q;have big:sysModules < s.heap.objs.size:=by
  have h:mainGlobals < s.heap.objs.size:=(I.mod.glob.keeps I.bk).lt;exact Nat.lt_trans (by decide) h
 have hn:=I.hok.fresh (Nat.le_refl s.heap.objs.size);refine wpAny_Dict_walk (knd:=air X.prog X.w) rfl rfl (by simp) (by show 1<=15;decide) ?_
 refine pairTrees_cons_walk (Calls.Constant_str (wpAny_Constant_int (pairTrees_nil_walk ?_)));refine⟨[((Sum.inr x:Key),Value.int n (s.toks+1))],⟨alu X.prog X.w x s.toks,rfl,True.intro⟩,Heap.DictOf.new s.heap,fun h' dd hs =>?_⟩
 refine⟨.ref s.heap.objs.size,upd H s.heap.objs.size (.dK [(Sum.inr x,.int n)]),?_,rfl,q _ hn⟩;refine I.laid (fun b u e=>hs.extBut b u (Nat.ne_of_lt (Heap.lt_size e)) (Heap.get?_push_of_some _ e)) (Nat.le_refl _) ?_
 exact⟨by show 1<=sizeLine;decide,beq_eq_false_iff_ne.mpr (Ne.symm (Nat.ne_of_lt big)),_,.cons ⟨rfl,_,rfl⟩ .nil,dd⟩
end
theorem aar:fillsNumberSlot (.type "tuple") "mul" = pure false :=
 PySem.fillsNumberSlot_seq (id := "tuple.__mul__") (r:=some (.builtin "tuple.__rmul__")) F.slot_tuple_mul.lookup (by decide +kernel) F.slot_tuple_rmul.lookup (by decide +kernel)
theorem aev:seqRepeat? (.type "tuple")=pure (some (.builtin "tuple.__mul__")):=by
 unfold seqRepeat?;rw[PySem.seqSlot_of (T := "tuple") (name := "__mul__") (id := "tuple.__mul__") F.slot_tuple_mul.lookup (by decide +kernel),PySem.seqSlot_of (T := "tuple") (name := "__rmul__") (id := "tuple.__rmul__") F.slot_tuple_rmul.lookup (by decide +kernel)]
 rfl
theorem aca(a:Int)(t:Tok)(l:Addr)(items:Array Value)(n:Nat)(dd:Option Addr)(sl:Array (Option Value)) :
  Meets (Builtin.«int.__rmul__» ⟨[.int a t,.ref l],[]⟩) (fun _ R s=>s.heap.get? l=some { cls:=.type "tuple", dict:=dd,data:=.seq items n,slots:=sl }/\R (.ok (.ret Value.notImplemented)) s) :=
 .of_wp fun prog w A R s h=>by obtain⟨hp,g,d,tk,os⟩:=s;obtain⟨hl,h⟩:=h;wp_walk;exact⟨_,rfl,h⟩
theorem an2(l:Addr)(items:Array Value)(n:Nat)(dd:Option Addr)(sl:Array (Option Value))(x:Int)(u:Tok)(h0:items.isEmpty=false)(h2:2<=x)(h63:x < 2 ^ 63)(hsz:items.size*x.toNat<=sizeLine) :
  Meets (Builtin.«tuple.__mul__» ⟨[.ref l,.int x u],[]⟩) (fun _ R s=>s.heap.get? l=some { cls:=.type "tuple", dict:=dd,data:=.seq items n,slots:=sl } /\
   R (.ok (.ret (Value.ref s.heap.objs.size))) { s with heap:=s.heap.push { cls:=Value.type "tuple", data:=Data.seq (List.foldl (fun x1 x2=>x1++x2) #[] (List.replicate x.toNat items)) },toks:=s.toks }) :=
 .of_wp fun prog w A R s h=>by
  obtain⟨hp,g,d,tk,os⟩:=s;obtain⟨hl,h⟩:=h;have c1:(decide (x < -2 ^ 63)||decide (x≥2 ^ 63))=false:=by
   rw[Bool.or_eq_false_iff];exact⟨decide_eq_false (by omega),decide_eq_false (by omega)⟩
  have c2:(items.isEmpty||x==1)=false:=by
   rw[h0,Bool.false_or,beq_eq_false_iff_ne];omega
  have c3:(decide (x<=0)||items.isEmpty)=false:=by
   rw[h0,Bool.or_false];exact decide_eq_false (by omega)
  have e4:((items.size:Int)*x)=((items.size*x.toNat:Nat):Int):=by
   have:x=(x.toNat:Int):=by omega
   rw[Int.natCast_mul,<-this]
  have h4:(sizeLine:Int)<=(2 ^ 63 - 1) / 8:=by decide
  have c4:¬((items.size:Int)*x > (2 ^ 63 - 1) / 8):=by rw[e4];omega
  have c5:Builtin.Tuple.tupleTooMany ((items.size:Int)*x)=false:=by
   unfold Builtin.Tuple.tupleTooMany;rw[e4];exact decide_eq_false (by omega)
  wp_walk;refine wpAny_ite_false (by rw[c1];rfl) ?_
  wp_walk;refine wpAny_ite_false (by rw[c2];rfl) ?_
  try dsimp only
  refine wpAny_ite_false (by rw[c3];rfl) ?_
  try dsimp only
  refine wpAny_ite_false (decide_eq_false c4) ?_
  try dsimp only
  refine wpAny_ite_false (by rw[c5];rfl) ?_
  have hso:sizeOk (.seq (List.foldl (fun x1 x2=>x1++x2) #[] (List.replicate x.toNat items))):=by
   show(List.foldl (fun x1 x2=>x1++x2) #[] (List.replicate x.toNat items)).size<=sizeLine
   have hn:=foldl_rep items.toList x.toNat [];rw[List.nil_append] at hn;have hn':List.foldl (fun x1 x2=>x1++x2) #[] (List.replicate x.toNat items)=(List.replicate x.toNat items.toList).flatten.toArray:=hn
   rw[hn',List.size_toArray,len_rep,Array.length_toList,Nat.mul_comm];exact hsz
  refine wpAny_bind (m:=Builtin.Tuple.tupleExact _) (wpAny_newObj_type (wpAny_pure ⟨_,rfl,h⟩) hso)
theorem an3(l:Addr)(items:Array Value)(n:Nat)(dd:Option Addr)(sl:Array (Option Value))(x:Int)(u:Tok)(hx:x=1) :
  Meets (Builtin.«tuple.__mul__» ⟨[.ref l,.int x u],[]⟩) (fun _ R s=>s.heap.get? l=some { cls:=.type "tuple", dict:=dd,data:=.seq items n,slots:=sl }/\R (.ok (.ret (Value.ref l))) s) :=
 .of_wp fun prog w A R s h=>by
  obtain⟨hp,g,d,tk,os⟩:=s;obtain⟨hl,h⟩:=h;have c1:(decide (x < -2 ^ 63)||decide (x≥2 ^ 63))=false:=by
   rw[Bool.or_eq_false_iff];exact⟨decide_eq_false (by omega),decide_eq_false (by omega)⟩
  have c2:(items.isEmpty||x==1)=true:=by rw[hx];simp
  wp_walk;exact⟨_,rfl,h⟩
section
variable{X:Cx}
theorem awd:OpR X (binaryOp .Mult) (fun x y H Q=>∃a xs,x=.ref a/\y=.int 1/\H a=some (.tup xs)/\Q (.ref a) H):=by
 intro qv s σ H x y v u Q I rx ry h;obtain⟨a,xs,rfl,rfl,ha,q⟩:=h;cases rx;obtain⟨t,rfl⟩:=ry;obtain⟨its,r1,p1,_⟩:=I.tuple (SqT.of ha);obtain⟨⟨cls,dd,data,sl⟩,ho,hc,n,hd⟩:=id p1;simp only at hc hd;subst hc hd;exact wpAny_binaryOp_repeat_ref (T := "tuple") (U := "int") (by decide) ⟨_,ho,rfl⟩ (fun s'=>typeIs_int s' 1 t) aar F.fills_int_mul F.slot_int_rmul aev F.slot_int_index.lookup
  (call_meets F.slot_int_rmul (typeIs_int s 1 t) F.entry_int_rmul (F.args_int_rmul_2 _ _) (aca 1 t a its.toArray n dd sl)
   ⟨ho,rfl,⟨_,ho,rfl⟩,call_meets F.slot_tuple_mul ⟨_,ho,rfl⟩ F.entry_tuple_mul (F.args_tuple_mul_2 _ _) (an3 a its.toArray n dd sl 1 t rfl) ⟨ho,⟨.ref a,H,I,rfl,q⟩⟩⟩)
def aym:R2:=fun x y H Q=>∃a xs k,x=.ref a/\y=.int k/\H a=some (.tup xs)/\xs≠[]/\2<=k/\k < 2 ^ 63/\xs.length*k.toNat<=sizeLine/\∀p,H p=none->Q (.ref p) (upd H p (.tup (List.replicate k.toNat xs).flatten))
theorem asp:OpR X (binaryOp .Mult) aym:=by
 intro qv s σ H x y v u Q I rx ry h;obtain⟨a,xs,k,rfl,rfl,ha,hx,h2,h63,hz,q⟩:=h;cases rx;obtain⟨t,rfl⟩:=ry;obtain⟨its,r1,p1,_⟩:=I.tuple (SqT.of ha);obtain⟨⟨cls,dd,data,sl⟩,ho,hc,n,hd⟩:=id p1;simp only at hc hd;subst hc hd;have hnew:List.foldl (fun x1 x2=>x1++x2) #[] (List.replicate k.toNat its.toArray)=(List.replicate k.toNat its).flatten.toArray:=by
  have:=foldl_rep its k.toNat [];rw[List.nil_append] at this;exact this
 refine wpAny_binaryOp_repeat_ref (T := "tuple") (U := "int") (by decide) ⟨_,ho,rfl⟩ (fun s'=>typeIs_int s' k t) aar F.fills_int_mul F.slot_int_rmul aev F.slot_int_index.lookup
  (call_meets F.slot_int_rmul (typeIs_int s k t) F.entry_int_rmul (F.args_int_rmul_2 _ _) (aca k t a its.toArray n dd sl)
   ⟨ho,rfl,⟨_,ho,rfl⟩,call_meets F.slot_tuple_mul ⟨_,ho,rfl⟩ F.entry_tuple_mul (F.args_tuple_mul_2 _ _) (an2 a its.toArray n dd sl k t ?_ h2 h63 ?_) ⟨ho,?_⟩⟩)
 ·cases its with
  | nil=>exact absurd (r1.nil_iff.mp rfl) hx
  | cons _ _=>rfl
 ·rw[List.size_toArray,<-r1.length];exact hz
 ·rw[hnew];refine⟨.ref s.heap.objs.size,_,I.laid (t':=s.toks) (o:=.tup (List.replicate k.toNat xs).flatten) (fun b ob q=>Heap.get?_push_of_some _ q) (Nat.le_refl _) ?_,rfl,q _ (I.hok.fresh (Nat.le_refl _))⟩
  exact⟨by rw[len_rep,Nat.mul_comm];exact hz,_,r1.rep k.toNat,IsTp.new _ _⟩
end
section
variable{prog:Program}{w:World}{A:Around}{E:Value->Shared->Prop}{s:Shared}
theorem acs{t sl:Addr}{items:Array Value}{vl vu:Value}{lo hi:Option Int}{Q:Value->Shared->Prop}(ht:IsTup s.heap t items)(hs:s.heap.IsSliceOf sl vl vu .none)(pl:IsPart vl lo)(pu:IsPart vu hi)
  (h1:HT.sIx items.size 0 lo=0) (h2:HT.sIx items.size items.size hi=items.size) (h:Q (.ref t) s):wpAny (model prog w) A (getItem (.ref t) (.ref sl)) Q E s:=by
 obtain⟨os,hos,hcs,hds⟩:=id hs;have hTs:s.TypeIs (.ref sl) "slice" := ⟨os,hos,hcs⟩;unfold getItem
 try with_reducible refine wpAny_holding ?_
 first | refine wpAny_bind (wpAny_pure ?_) | skip
 refine wpAny_bind (wpAny_sequenceKey ht.typeIs (by decide) ?_)
 refine wpAny_bind (wpAny_callSpecial?_slot (name:=Str.ofString "__getitem__") ht.typeIs PyProof.Rows.slot_tuple_getitem
  (wpAny_call_entry PyProof.Rows.slot_tuple_getitem ht.typeIs entry_tuple_getitem ?_ (args_tuple_getitem _ _)))
 show wpAny _ _ (Builtin.Tuple.tupleItemsOf (.ref t) >>= _) _ _ s;refine wpAny_bind (tupleItemsOf_ ht ?_);refine wpAny_bind (wpAny_typeOf hTs ?_);rw[if_pos (by decide)]
 refine wpAny_bind (HT.aap hs pl pu ?_);have hyes:(((HT.sIx items.size 0 lo:Nat):Int)==0&&(1:Int)==1&&(HT.sIx items.size items.size hi - HT.sIx items.size 0 lo)==items.size)=true:=by
  rw[h1,h2];simp
 show wpAny _ _ (if (((HT.sIx items.size 0 lo:Nat):Int)==0&&(1:Int)==1&&(HT.sIx items.size items.size hi - HT.sIx items.size 0 lo)==items.size)=true then _ else _) _ _ s
 rw[if_pos hyes];refine wpAny_bind (wpAny_bind (wpAny_typeOf ht.typeIs (wpAny_pure ?_)));rw[if_pos (by decide)]
 exact wpAny_bind (wpAny_rule (wpAny_pure ⟨_,rfl,wpAny_pure h⟩))
end
section
variable{X:Cx}
end
section
variable{X:Cx}(K:Fg9)(hK:X.K=K)
include hK
variable{tg:Expr}
end
theorem j9:bootBuiltins "len" = some (.builtin "len"):=by decide +kernel
theorem ard:bootBuiltins "all" = some (.builtin "all"):=by decide +kernel
theorem az:bootBuiltins "isinstance" = some (.builtin "isinstance"):=by decide +kernel
theorem au6:bootBuiltins "max" = some (.builtin "max"):=by decide +kernel
theorem aq9:bootBuiltins "min" = some (.builtin "min"):=by decide +kernel
theorem aky:bootBuiltins "sorted" = some (.builtin "sorted"):=by decide +kernel
theorem arb:bootBuiltins "divmod" = some (.builtin "divmod"):=by decide +kernel
theorem ara:bootBuiltins "int" = some (.type "int"):=by decide +kernel
theorem arc:bootBuiltins "bool" = some (.type "bool"):=by decide +kernel
theorem ut:bootBuiltins "tuple" = some (.type "tuple"):=by decide +kernel
theorem amd:bootBuiltins "list" = some (.type "list"):=by decide +kernel
structure ExcK (K:Fg9) (C:Addr):Prop where
 ga:findIn K (.ref C) "__getattribute__" = some (some (.builtin "BaseException.__getattribute__"))
 gh:findIn K (.ref C) "__getattr__" = some none
 be:PySem.W.mroIn K C (.type "BaseException")=some true
 hd:PySem.W.hasDictIn K C=true
 cl:findIn K (.ref C) "__class__" = some (some (.builtin "object.__class__"))
 sp:PySem.W.specialIn K (.builtin "object.__class__") "__get__" = some (some (.builtin "getset_descriptor.__get__"))
 tk:PySem.W.takesIn K (.builtin "object.__class__")=some true
 ob:PySem.W.mroIn K C (.type "object")=some true
 no:∀T∈["int","bool","tuple","list","str","dict"],PySem.W.subIn K (.ref C) (.type T)=some false
theorem ama{K:Fg9}{C:Addr}{od:Option Obj}{name:Str}{a g:Value}(hc:(PySem.W.clsIn K C).isSome=true)(ha:findIn K (.ref C) name=some (some a))(hg:PySem.W.specialIn K a "__get__" = some (some g))(ht:PySem.W.takesIn K a=some true):PySem.W.findObj K C od name=some (.bind g a):=by
 obtain⟨cd,hc⟩:=Option.isSome_iff_exists.mp hc;unfold PySem.W.findObj;rw[hc,Option.bind_some,ha,Option.bind_some];simp[hg,ht]
section
variable{prog:Program}{w:World}{A:Around}{E:Value->Shared->Prop}{s:Shared}{K:Fg9}{x D:Addr}{ox:Obj}{od:Option Obj}{name:Str}
theorem ato{fill expr:Bool}{tk:Tok}{Q:Value->Shared->Prop}(X:K.In s.heap)(I:PySem.W.InstAt s.heap x ox D od)(k:ExcK K D)
  (h:wpAny (model prog w) A.in1 (Builtin.«object.__getattribute__» ⟨[.ref x,.str name tk],[]⟩)
   (fun fin s'=>match fin with | .done (.ret v)=>wpAny (model prog w) A (handedOut v) Q E s' | _=>False) (fun _ _=>False) s) :
  wpAny (model prog w) A (getAttrBy (.ref x) (.str name tk) fill expr) Q E s:=by
 obtain⟨hh,g,d,t,os⟩:=s;have L0:=I.type (M:=model prog w);have L1:=PySem.W.looks_findIn (M:=model prog w) X k.ga;have L2:=PySem.W.looks_findIn (M:=model prog w) X k.gh;have L3:PySem.W.Looks (model prog w) hh (isInstance (.ref x) (.type "BaseException")) true:=L0.andThen (PySem.W.looks_mroIn X k.be);unfold getAttrBy;refine wpAny_holding (wpAny_bind (L0.at (wpAny_bind (L1.at ?_))));have hx2:(Value.builtin "BaseException.__getattribute__" == Value.builtin "object.__getattribute__")=false:=by decide +kernel
 have hx1:(onTheHeap (Value.ref D)&&Value.builtin "BaseException.__getattribute__" == Value.builtin "object.__getattribute__")=false:=by rw[hx2,Bool.and_false]
 simp only[hx1,Bool.false_eq_true,if_false];unfold getAttrByItsOwn hookBefore;rw[if_pos (show onTheHeap (Value.ref D)=true from rfl)]
 refine wpAny_bind ?_;refine L2.at (wpAny_bind (wpAny_attempt (wpAny_holding ?_)));have hx0:(expr&&onTheHeap (Value.builtin "BaseException.__getattribute__"))=false:=by cases expr <;> rfl
 unfold callGetattribute;rw[if_neg (by rw[hx0];exact Bool.false_ne_true)]
 unfold boundAndCalled;refine wpAny_bind (wpAny_of_eq (PySem.F.attr_ValueError.ga.bind (.ref x)) ?_);have hk1:builtinKind "BaseException.__getattribute__" = some .slot:=by decide +kernel
 have hs1:splitId "BaseException.__getattribute__" = some ("BaseException","__getattribute__"):=by decide +kernel
 have ha1:=PySem.F.args_bexc_ga (.ref x) (.str name tk);dsimp only[List.cons_append,List.nil_append];refine wpAny_call (codeAny_call_builtin (id := "BaseException.__getattribute__") (args:=⟨[.ref x,.str name tk],[]⟩) PySem.F.attr_ValueError.ga.plain PySem.F.entry_bexc_ga ?_);refine PySem.W.check_slot (i := "BaseException.__getattribute__") (owner := "BaseException") (n := "__getattribute__") (self:=.ref x) (rest:=[.str name tk]) (kw:=[]) hk1 hs1 L3 ha1 ?_;refine wpAny_mono h (fun fin s' z =>?_) fun _ _ z=>z.elim
 rcases fin with(_ | _ | _ | _) | _ <;> first | exact z | exact z.elim
theorem atp{g a:Value}{tk:Tok}{P:Value->Shared->Prop}(X:K.In s.heap)(I:PySem.W.InstAt s.heap x ox D od)(hf:PySem.W.findObj K D od name=some (.bind g a))
  (h:wpAny (model prog w) A (call g [a,.ref x,.ref D]) P E s) :
  wpAny (model prog w) A (Builtin.«object.__getattribute__» ⟨[.ref x,.str name tk],[]⟩) (fun fin s'=>match fin with | .done (.ret v)=>P v s' | _=>False) E s:=by
 obtain⟨hh,gg,d,t,os⟩:=s;have L0:=I.type (M:=model prog w);have L1:=PySem.W.looks_find (M:=model prog w) X I hf;unfold Builtin.«object.__getattribute__»
 refine wpAny_bind (wpAny_pure (wpAny_bind (wpAny_pure (wpAny_bind (L0.at (wpAny_bind (L1.at ?_)))))));show wpAny _ _ (Builtin.ObjectAttr.bindTo g a (.ref x) (.ref D)) _ _ _;show wpAny _ _ (holding [a] (call g [a,.ref x,.ref D]) >>= ret) _ _ _;exact wpAny_bind (wpAny_holding (wpAny_mono h (fun v s' z=>wpAny_pure z) fun _ _ z=>z))
end
theorem am5{K:Fg9}{x D:Addr}(k:ExcK K D):PySem.W.KitX K (.ref x) (.ref D) (fun h=>∃ox od,PySem.W.InstAt h x ox D od) where
 ty:=fun _ _ _ ⟨_,_,I⟩=>I.type
 it:=fun _ _ X _=>by
  obtain⟨cdD,hcD,_⟩:=PySem.W.any_some k.hd;unfold PySem.W.clsIn at hcD;split at hcD
  ·rename_i c' d' cd' sl' ho;intro A' Q' E' s' k q;unfold isType loadHead;exact wpAny_bind (wpAny_loadPart (k _ _ (X _ _ ho)) (wpAny_pure q))
  ·cases hcD
 ne:=fun h tp dd its n sl X htp=>by
  obtain⟨cdD,hcD,_⟩:=PySem.W.any_some k.hd;refine Bool.eq_false_iff.mpr fun q =>?_
  have e:D=tp:=Value.ref.inj (beq_iff_eq.mp q);subst e;unfold PySem.W.clsIn at hcD;split at hcD
  ·rename_i c' d' cd' sl' ho;have z:=(X _ _ ho).symm.trans htp;cases z
  ·cases hcD
 ca:=fun{prog w A E Q s} X ⟨ox,od,I⟩ q=>by
  have hf:PySem.W.findObj K D od "__class__" = some (.bind (.builtin "getset_descriptor.__get__") (.builtin "object.__class__")):=ama (by obtain⟨cd,hc,_⟩:=PySem.W.any_some k.hd;rw[hc];rfl) k.cl k.sp k.tk
  unfold getAttr? getAttrBy?;refine wpAny_bind (wpAny_mkText (wpAny_bind (wpAny_attempt (ato (s:={ s with toks:=s.toks+1 }) X I k (atp (s:={ s with toks:=s.toks+1 }) X I hf
   (wpAny_call (PySem.W.class_get (s:={ s with toks:=s.toks+1 }) (ox:=ox) (od:=od) X I k.ob (PySem.W.handed_on rfl (wpAny_pure q)))))))))
end Mn
namespace Dn
open L2 Mn
inductive D where
 | non | bl (b:Bool) | int (i:Int) | str (x:Str) | tup (l:List D) | lst (l:List D) | kst (l:List D) | dct (kvs:List (Key×D)) | exn (c:Str) (fs:List (Str×Int))
def exO(a C:Addr)(dx:Option Addr):Heap->Prop:=fun h=>∃oe vs,h.get? a=some oe/\oe.cls=.ref C/\oe.dict=dx/\oe.data=.fields vs
section
variable(K:Fg9)(F:Hp)
mutual
inductive Is:D->V->Prop
 | non:Is .non .non
 | bl (b:Bool):Is (.bl b) (.bl b)
 | int (i:Int):Is (.int i) (.int i)
 | str (x:Str):Is (.str x) (.str x)
 | tup {a:Addr} {vs:List V} {ds:List D} (e:F a=some (.tup vs)) (h:IsL ds vs):Is (.tup ds) (.ref a)
 | lst {a:Addr} {vs:List V} {ds:List D} (e:F a=some (.lst vs)) (h:IsL ds vs):Is (.lst ds) (.ref a)
 | kst {a:Addr} {vs:List V} {ds:List D} (e:SqL K F a vs) (h:IsL ds vs):Is (.kst ds) (.ref a)
 | dct {a:Addr} {kvs:List (Key×V)} {ds:List (Key×D)} (e:F a=some (.dK kvs)) (h:IsK ds kvs):Is (.dct ds) (.ref a)
 | exn {a C:Addr} {c:Str} {dx:Option Addr} {fs:List (Str×Int)} (e:F a=some (.ext (exO a C dx))) (hc:nsIn K mainGlobals c=some (some (.ref C))) (hk:ExcK K C)
   (hf:(dx=none/\fs=[])∨∃d,dx=some d/\F d=some (.xd (fs.map fun p=>(p.1,V.int p.2)))):Is (.exn c fs) (.ref a)
inductive IsL:List D->List V->Prop
 | nil:IsL [] []
 | cons {d:D} {v:V} {ds:List D} {vs:List V} (h:Is d v) (t:IsL ds vs):IsL (d::ds) (v::vs)
inductive IsK:List (Key×D)->List (Key×V)->Prop
 | nil:IsK [] []
 | cons {k:Key} {d:D} {v:V} {ds:List (Key×D)} {vs:List (Key×V)} (h:Is d v) (t:IsK ds vs):IsK ((k,d)::ds) ((k,v)::vs)
end
end
section
variable{K:Fg9}{F F':Hp}
mutual
theorem Is.mono(g:Same F F'):∀{d:D} {v:V},Is K F d v->Is K F' d v
 | _,_,.non=>.non
 | _,_,.bl b=>.bl b
 | _,_,.int i=>.int i
 | _,_,.str x=>.str x
 | _,_,.tup e h=>.tup (g _ _ e) (IsL.mono g h)
 | _,_,.lst e h=>.lst (g _ _ e) (IsL.mono g h)
 | _,_,.kst e h=>.kst (L2.Same.seq g e) (IsL.mono g h)
 | _,_,.dct e h=>.dct (g _ _ e) (IsK.mono g h)
 | _,_,.exn e hc hk hf=>.exn (g _ _ e) hc hk (hf.imp id fun⟨d,h1,h2⟩=>⟨d,h1,g _ _ h2⟩)
theorem IsL.mono(g:Same F F'):∀{ds:List D} {vs:List V},IsL K F ds vs->IsL K F' ds vs
 | _,_,.nil=>.nil
 | _,_,.cons h t=>.cons (Is.mono g h) (IsL.mono g t)
theorem IsK.mono(g:Same F F'):∀{ds:List (Key×D)} {vs:List (Key×V)},IsK K F ds vs->IsK K F' ds vs
 | _,_,.nil=>.nil
 | _,_,.cons h t=>.cons (Is.mono g h) (IsK.mono g t)
end
theorem IsL.length:∀{ds:List D} {vs:List V},IsL K F ds vs->ds.length=vs.length
 | _,_,.nil=>rfl
 | _,_,.cons _ t=>by simp[IsL.length t]
theorem IsL.append:∀{ds es:List D} {vs ws:List V},IsL K F ds vs->IsL K F es ws->IsL K F (ds++es) (vs++ws)
 | _,_,_,_,.nil,h=>h
 | _,_,_,_,.cons h t,k=>.cons h (IsL.append t k)
theorem IsL.take:∀{ds:List D} {vs:List V} (n:Nat),IsL K F ds vs->IsL K F (ds.take n) (vs.take n)
 | _,_,0,_=>by simpa using IsL.nil
 | _,_,_+1,.nil=>.nil
 | _,_,n+1,.cons h t=>.cons h (IsL.take n t)
theorem IsL.drop:∀{ds:List D} {vs:List V} (n:Nat),IsL K F ds vs->IsL K F (ds.drop n) (vs.drop n)
 | _,_,0,h=>h
 | _,_,_+1,.nil=>.nil
 | _,_,n+1,.cons _ t=>IsL.drop n t
theorem IsL.get:∀{ds:List D} {vs:List V} {i:Nat} {d:D},IsL K F ds vs->ds[i]? = some d->∃v,vs[i]? = some v/\Is K F d v
 | _,_,_,_,.nil,e=>by simp at e
 | _,_,0,_,.cons h _,e=>by simp at e;subst e;exact⟨_,rfl,h⟩
 | _,_,i+1,v,.cons _ t,e=>by
  obtain⟨d,h1,h2⟩:=IsL.get (i:=i) (d:=v) t (by simpa using e)
  exact⟨d,by simpa using h1,h2⟩
theorem IsL.set{d:D}{v:V}(h:Is K F d v):∀{ds:List D} {vs:List V} (i:Nat),IsL K F ds vs->IsL K F (ds.set i d) (vs.set i v)
 | _,_,_,.nil=>.nil
 | _,_,0,.cons _ t=>.cons h t
 | _,_,i+1,.cons q t=>.cons q (IsL.set h i t)
theorem IsL.rep{ds:List D}{vs:List V}(h:IsL K F ds vs):∀k:Nat,IsL K F (List.replicate k ds).flatten (List.replicate k vs).flatten
 | 0=>by simpa using IsL.nil
 | k+1=>by
  rw[List.replicate_succ,List.replicate_succ,List.flatten_cons,List.flatten_cons];exact h.append (IsL.rep h k)
theorem IsL.int_inv:∀{ns:List Int} {vs:List V},IsL K F (ns.map D.int) vs->vs=ns.map V.int
 | [],_,.nil=>rfl
 | n::r,_,.cons (.int _) t=>by rw[List.map_cons,IsL.int_inv t]
theorem IsL.bl_inv:∀{ns:List Bool} {vs:List V},IsL K F (ns.map D.bl) vs->vs=ns.map V.bl
 | [],_,.nil=>rfl
 | n::r,_,.cons (.bl _) t=>by rw[List.map_cons,IsL.bl_inv t]
theorem adv:∀ns:List Int,IsL K F (ns.map D.int) (ns.map V.int)
 | []=>.nil
 | n::r=>.cons (.int n) (adv r)
end
inductive Sl where
 | emp | val (d:D) | own (t:Option Nat) (l:List D) | box (c:Str) (fs:List (Str×(Nat ⊕ D)))
abbrev Ro:=List Sl
def Owns(ρ:Ro)(σ:L2.St)(i:Nat)(a:Addr):Prop:=(∃t l,ρ[i]? = some (.own t l))/\σ[i]? = some (some (.ref a))
def Own(ρ:Ro)(σ:L2.St)(a:Addr):Prop:=∃i,Owns ρ σ i a
def SlOk(K:Fg9)(tg:Nat->Addr)(F H:Hp):Sl->Option V->Prop
 | .emp,_=>True
 | .val d,o=>∃v,o=some v/\Is K F d v
 | .own t l,o=>∃a vs,o=some (.ref a)/\F a=none/\H a=some (.lst vs)/\IsL K F l vs/\∀k,t=some k->tg k=a
 | .box c fs,o=>∃a C dx fvs,o=some (.ref a)/\F a=none/\H a=some (.ins C dx fvs)/\nsIn K mainGlobals c=some (some (.ref C))/\(∀f,fs.lookup f=none->fvs.lookup f=none)/\(∀f k,fs.lookup f=some (.inl k)->fvs.lookup f=some (.ref (tg k)))/\∀f d,fs.lookup f=some (.inr d)->∃v,fvs.lookup f=some v/\Is K F d v
structure Good (K:Fg9) (tg:Nat->Addr) (F H:Hp) (ρ:Ro) (σ:L2.St):Prop where
 sub:Same F H
 len:ρ.length=σ.length
 sl:∀(i:Nat) (s:Sl) (o:Option V),ρ[i]? = some s->σ[i]? = some o->SlOk K tg F H s o
 inj:∀(i j:Nat) (a:Addr),Owns ρ σ i a->Owns ρ σ j a->i=j
structure Ext (O O':Addr->Prop) (F H F' H':Hp):Prop where
 sub:Same F F'
 new:∀a o,F' a=some o->F a=some o∨H a=none∨O a
 keep:∀a o,H a=some o->¬O a->H' a=some o
 own:∀a,O' a->O a∨H a=none
 there:∀a,H' a=none->H a=none
theorem Ext.refl(O:Addr->Prop)(F H:Hp):Ext O O F H F H:=⟨fun _ _ e=>e,fun _ _ e=>.inl e,fun _ _ e _=>e,fun _ h=>.inl h,fun _ h=>h⟩
theorem Ext.trans{O O1 O2:Addr->Prop}{F H F1 H1 F2 H2:Hp}(a:Ext O O1 F H F1 H1)(b:Ext O1 O2 F1 H1 F2 H2):Ext O O2 F H F2 H2 where
 sub:=a.sub.trans b.sub
 new:=fun c o e=>by
  rcases b.new c o e with q | q | q
  ·exact a.new c o q
  ·exact .inr (.inl (a.there c q))
  ·rcases a.own c q with z | z
   ·exact .inr (.inr z)
   ·exact .inr (.inl z)
 keep:=fun c o e n=>b.keep c o (a.keep c o e n) fun z=>by
  rcases a.own c z with q | q
  ·exact n q
  ·rw[e] at q;cases q
 own:=fun c z=>by
  rcases b.own c z with q | q
  ·exact a.own c q
  ·exact .inr (a.there c q)
 there:=fun c z=>a.there c (b.there c z)
section
variable{K:Fg9}{tg:Nat->Addr}{F H F' H':Hp}{ρ ρ':Ro}{σ:L2.St}
theorem Good.ownAt(G:Good K tg F H ρ σ){a:Addr}(h:Own ρ σ a):F a=none/\∃vs,H a=some (.lst vs):=by
 obtain⟨i,⟨t,l,e⟩,q⟩:=h;obtain⟨b,vs,e1,f,e2,_⟩:=G.sl i _ _ e q;cases e1;exact⟨f,vs,e2⟩
theorem Good.grow(G:Good K tg F H ρ σ)(s:Same F F')(s':Same F' H')(k:∀a,Own ρ σ a->F' a=none/\H' a=H a)(kb:∀a C dx fvs,F a=none->H a=some (.ins C dx fvs)->F' a=none/\H' a=H a):Good K tg F' H' ρ σ where
 sub:=s'
 len:=G.len
 inj:=G.inj
 sl:=fun i sl o e q=>by
  have z:=G.sl i sl o e q;cases sl with
  | emp=>trivial
  | val d =>
   obtain⟨v,e1,h⟩:=z;exact⟨v,e1,h.mono s⟩
  | box c fs =>
   obtain⟨a,C,dx,fvs,e1,e2,e3,e4,e7,e5,e6⟩:=z;obtain⟨f1,f2⟩:=kb a C dx fvs e2 e3;exact⟨a,C,dx,fvs,e1,f1,f2.trans e3,e4,e7,e5,fun f d h=>(e6 f d h).imp fun v h=>⟨h.1,h.2.mono s⟩⟩
  | own t l =>
   obtain⟨a,vs,e1,f,e2,h,ht⟩:=z;have w:=k a ⟨i,⟨t,l,e⟩,by rw[q,e1]⟩
   exact⟨a,vs,e1,w.1,by rw[w.2];exact e2,h.mono s,ht⟩
theorem Same.put{p:Addr}(s:Same F H)(h:H p=none)(o:HO):Same (upd F p o) (upd H p o):=fun b u e=>by
 by_cases hb:b=p
 ·subst hb;rw[gw] at e ⊢
  exact e
 ·rw[cu hb] at e ⊢
  exact s b u e
theorem Good.freeF(G:Good K tg F H ρ σ){p:Addr}(h:H p=none):F p=none:=by
 cases e:F p with
 | none=>rfl
 | some o=>rw[G.sub p o e] at h;cases h
theorem Good.own_ne(G:Good K tg F H ρ σ){p a:Addr}(h:H p=none)(w:Own ρ σ a):a≠p:=by
 obtain⟨_,vs,e⟩:=G.ownAt w;exact jc e h
theorem Good.new(G:Good K tg F H ρ σ){p:Addr}(h:H p=none)(o:HO):Good K tg (upd F p o) (upd H p o) ρ σ :=
 G.grow (Same.new (G.freeF h) o) (Same.put G.sub h o) (fun a w=>by
  rw[cu (G.own_ne h w),cu (G.own_ne h w)];exact⟨(G.ownAt w).1,rfl⟩) fun a C dx fvs h1 h2=>by
  rw[cu (jc h2 h),cu (jc h2 h)];exact⟨h1,rfl⟩
theorem Good.newX(G:Good K tg F H ρ σ){p:Addr}(h:H p=none)(o:HO):Ext (Own ρ σ) (Own ρ σ) F H (upd F p o) (upd H p o) where
 sub:=Same.new (G.freeF h) o
 new:=fun a u e=>by
  by_cases ha:a=p
  ·subst ha;exact .inr (.inl h)
  ·rw[cu ha] at e;exact .inl e
 keep:=fun a u e _=>by rw[cu (jc e h)];exact e
 own:=fun a w=>.inl w
 there:=fun a e=>by
  by_cases ha:a=p
  ·subst ha;exact h
  ·rw[cu ha] at e;exact e
theorem Good.fresh(G:Good K tg F H ρ σ){p:Addr}(h:H p=none)(o:HO):Good K tg F (upd H p o) ρ σ :=
 G.grow (Same.refl F) (fun b u e=>by rw[cu (jc (G.sub b u e) h)];exact G.sub b u e) (fun a w=>by
  rw[cu (G.own_ne h w)];exact⟨(G.ownAt w).1,rfl⟩) fun a C dx fvs h1 h2=>⟨h1,cu (jc h2 h)⟩
theorem Good.freshX(G:Good K tg F H ρ σ){p:Addr}(h:H p=none)(o:HO):Ext (Own ρ σ) (Own ρ σ) F H F (upd H p o) where
 sub:=Same.refl F
 new:=fun a u e=>.inl e
 keep:=fun a u e _=>by rw[cu (jc e h)];exact e
 own:=fun a w=>.inl w
 there:=fun a e=>by
  by_cases ha:a=p
  ·subst ha;exact h
  ·rw[cu ha] at e;exact e
theorem Good.freeze(G:Good K tg F H ρ σ){p:Addr}{o:HO}(h:H p=some o)(n:¬Own ρ σ p)(hf:F p=none)(hi:∀C dx fs,o≠.ins C dx fs:=by intro _ _ _ z;cases z):Good K tg (upd F p o) H ρ σ :=
 G.grow (Same.new hf o) (fun b u e=>by
  by_cases hb:b=p
  ·subst hb;rw[gw] at e;cases e;exact h
  ·rw[cu hb] at e;exact G.sub b u e) (fun a w=>by
  have:a≠p:=fun z=>n (z▸w)
  rw[cu this];exact⟨(G.ownAt w).1,rfl⟩) fun a C dx fvs h1 h2=>by
  have:a≠p:=fun z=>by
   subst z;rw[h] at h2;exact hi _ _ _ (Option.some.inj h2)
  rw[cu this];exact⟨h1,rfl⟩
end
end Dn
namespace Dn
open L2 Mn
structure Exn where
 cls:Str
 fs:List (Str×Int)
inductive Out (α:Type) where
 | ok (a:α) | exc (x:Exn)
abbrev M(α:Type):=Ro->Option (Out α×Ro)
noncomputable def M.bind{α β:Type}(m:M α)(k:α->M β):M β:=fun ρ=>match m ρ with
 | some (.ok a,ρ1)=>k a ρ1
 | some (.exc x,ρ1)=>some (.exc x,ρ1)
 | none=>none
noncomputable def ret{α:Type}(a:α):M α:=fun ρ=>some (.ok a,ρ)
noncomputable def lift{α:Type}(o:Option α):M α:=fun ρ=>match o with
 | some a=>some (.ok a,ρ)
 | none=>none
section
variable{α β:Type}
theorem bj{m:M α}{k:α->M β}{ρ ρ2:Ro}{b:β}(h:m.bind k ρ=some (.ok b,ρ2)):∃a ρ1,m ρ=some (.ok a,ρ1)/\k a ρ1=some (.ok b,ρ2):=by
 unfold M.bind at h;split at h
 ·exact⟨_,_,by assumption,h⟩
 ·cases h
 ·cases h
theorem ir{o:Option α}{ρ ρ2:Ro}{b:α}(h:lift o ρ=some (.ok b,ρ2)):o=some b/\ρ2=ρ:=by
 unfold lift at h;split at h
 ·cases h;exact⟨rfl,rfl⟩
 ·cases h
theorem jr{a b:α}{ρ ρ2:Ro}(h:ret a ρ=some (.ok b,ρ2)):a=b/\ρ2=ρ:=by
 unfold ret at h;cases h;exact⟨rfl,rfl⟩
@[simp] theorem a0y(a:α)(k:α->M β):(ret a).bind k=k a:=rfl
@[simp] theorem azz(a:α):lift (some a)=ret a:=rfl
end
inductive Rv where
 | v (d:D) | fr (l:List D)
 | tf (d:D) (l:List D)
abbrev Rel(α:Type):=α->V->(H:Hp)->(O:Addr->Prop)->(F' H':Hp)->(O':Addr->Prop)->Prop
def relD(K:Fg9):Rel D:=fun d v _ _ F' _ _=>Is K F' d v
def Bor(K:Fg9)(F H:Hp)(d:D)(v:V):Prop:=Is K F d v∨∃a vs l,d=.lst l/\v=.ref a/\H a=some (.lst vs)/\IsL K F l vs
def relB(K:Fg9):Rel D:=fun d v _ _ F' H' _=>Bor K F' H' d v
def relR(K:Fg9):Rel Rv:=fun r v H O F' H' O'=>match r with
 | .v d=>Is K F' d v
 | .fr l=>∃a vs,v=.ref a/\(H a=none∨O a)/\F' a=none/\H' a=some (.lst vs)/\IsL K F' l vs/\¬O' a
 | .tf d l=>∃t u a vs,v=.ref t/\F' t=some (.tup [u,.ref a])/\Is K F' d u/\(H a=none∨O a)/\F' a=none/\H' a=some (.lst vs)/\IsL K F' l vs/\¬O' a
def T{α:Type}(K:Fg9)(rel:Rel α)(m:M α):TE:=fun σ H Q=>∃tg F ρ a ρ',Good K tg F H ρ σ/\m ρ=some (.ok a,ρ') /\
 ∀v H' F',Good K tg F' H' ρ' σ->Ext (Own ρ σ) (Own ρ' σ) F H F' H'->rel a v H (Own ρ σ) F' H' (Own ρ' σ)->Q v H'
structure EV (K:Fg9) (X:Cx) (e:Expr) (m:M D):Prop where
 go:X.K=K->PE X e (T K (relD K) m)
instance {K:Fg9} {X:Cx} {e:Expr} {m:M D}:CoeFun (EV K X e m) fun _=>X.K=K->PE X e (T K (relD K) m):=⟨EV.go⟩
structure EB (K:Fg9) (X:Cx) (e:Expr) (m:M D):Prop where
 go:X.K=K->PE X e (T K (relB K) m)
instance {K:Fg9} {X:Cx} {e:Expr} {m:M D}:CoeFun (EB K X e m) fun _=>X.K=K->PE X e (T K (relB K) m):=⟨EB.go⟩
structure ER (K:Fg9) (X:Cx) (e:Expr) (m:M Rv):Prop where
 go:X.K=K->PE X e (T K (relR K) m)
instance {K:Fg9} {X:Cx} {e:Expr} {m:M Rv}:CoeFun (ER K X e m) fun _=>X.K=K->PE X e (T K (relR K) m):=⟨ER.go⟩
theorem PE.imp{X:Cx}{e:Expr}{t t':TE}(h:PE X e t)(w:∀σ H Q,t' σ H Q->t σ H Q):PE X e t':=fun qv s σ H Q I q=>h qv s σ H Q I (w σ H Q q)
section
variable{K:Fg9}{X:Cx}{e a b:Expr}{pos:Pos}
theorem EV.toB{m:M D}(h:EV K X e m):EB K X e m:=EB.mk fun hk=>PE.imp (h hk) fun σ H Q ⟨tg,F,ρ,d,ρ',G,em,q⟩=>⟨tg,F,ρ,d,ρ',G,em,fun v H' F' G' x r=>q v H' F' G' x (.inl r)⟩
def M.v(m:M D):M Rv:=m.bind fun d=>ret (.v d)
theorem EV.toR{m:M D}(h:EV K X e m):ER K X e m.v:=ER.mk fun hk=>PE.imp (h hk) fun σ H Q z9=>by
 obtain⟨tg,F,ρ,r,ρ',G,em,q⟩:=z9;obtain⟨d,ρ1,e1,e2⟩:=bj em;obtain⟨rfl,rfl⟩:=jr e2;exact⟨tg,F,ρ,d,_,G,e1,fun v H' F' G' x r=>q v H' F' G' x r⟩
def Rv.d:Rv->D
 | .v d=>d
 | .fr l=>.lst l
 | .tf d l=>.tup [d,.lst l]
def M.d(m:M Rv):M D:=m.bind fun r=>ret r.d
theorem frz{tg:Nat->Addr}{O:Addr->Prop}{F H F' H':Hp}{ρ':Ro}{σ':L2.St}{r:Rv}{v:V}(G:Good K tg F' H' ρ' σ')(x:Ext O (Own ρ' σ') F H F' H')(h:relR K r v H O F' H' (Own ρ' σ')) :
  ∃F2,Good K tg F2 H' ρ' σ'/\Ext O (Own ρ' σ') F H F2 H'/\Is K F2 r.d v:=by
 cases r with
 | v d=>exact⟨F',G,x,h⟩
 | fr l =>
  obtain⟨a,vs,rfl,ha,hf,hh,hl,hn⟩:=h;refine⟨upd F' a (.lst vs),G.freeze hh hn hf,⟨x.sub.trans (Same.new hf _),fun b o e =>?_,x.keep,x.own,x.there⟩,.lst gw (hl.mono (Same.new hf _))⟩
  by_cases hb:b=a
  ·subst hb;exact .inr ha
  ·rw[cu hb] at e;exact x.new b o e
 | tf d l =>
  obtain⟨t,u,a,vs,rfl,ht,hd,ha,hf,hh,hl,hn⟩:=h;have hta:t≠a:=fun z=>by rw[z,hf] at ht;cases ht
  refine⟨upd F' a (.lst vs),G.freeze hh hn hf,⟨x.sub.trans (Same.new hf _),fun b o e =>?_,x.keep,x.own,x.there⟩,.tup (by rw[cu hta];exact ht) (.cons (hd.mono (Same.new hf _)) (.cons (.lst gw (hl.mono (Same.new hf _))) .nil))⟩
  by_cases hb:b=a
  ·subst hb;exact .inr ha
  ·rw[cu hb] at e;exact x.new b o e
theorem ER.toD{m:M Rv}(h:ER K X e m):EV K X e m.d:=EV.mk fun hk=>PE.imp (h hk) fun σ H Q z9=>by
 obtain⟨tg,F,ρ,d,ρ',G,em,q⟩:=z9;obtain⟨r,ρ1,e1,e2⟩:=bj em;obtain⟨rfl,rfl⟩:=jr e2;refine⟨tg,F,ρ,r,_,G,e1,fun v H' F' G' x w =>?_⟩
 obtain⟨F2,G2,x2,i2⟩:=frz G' x w;exact q v H' F2 G2 x2 i2
noncomputable def di(i:Nat):M D:=fun ρ=>match ρ[i]? with
 | some (.val d)=>some (.ok d,ρ)
 | some (.own _ l)=>some (.ok (.lst l),ρ)
 | _=>none
theorem Good.at{tg:Nat->Addr}{F H:Hp}{ρ:Ro}{σ:L2.St}(G:Good K tg F H ρ σ){i:Nat}{s:Sl}(e:ρ[i]? = some s):∃o,σ[i]? = some o/\SlOk K tg F H s o:=by
 have hi:i < σ.length:=by rw[<-G.len];exact(List.getElem?_eq_some_iff.mp e).1
 exact⟨σ[i],List.getElem?_eq_getElem hi,G.sl i s _ e (List.getElem?_eq_getElem hi)⟩
theorem qm{tg:Nat->Addr}{F H:Hp}{ρ ρ':Ro}{σ:L2.St}(G:Good K tg F H ρ σ){i:Nat}{d:D}(em:di i ρ=some (.ok d,ρ')):ρ'=ρ/\∃v,σ[i]? = some (some v)/\Bor K F H d v:=by
 unfold di at em;split at em
 ·rename_i d' e';cases em;obtain⟨o,ho,v,rfl,hv⟩:=G.at e';exact⟨rfl,v,ho,.inl hv⟩
 ·rename_i t l e';cases em;obtain⟨o,ho,a,vs,rfl,hf,hh,hl,_⟩:=G.at e';exact⟨rfl,_,ho,.inr ⟨a,vs,l,rfl,rfl,hh,hl⟩⟩
 ·cases em
theorem cg{i:Nat}(h:PE X e (tVar i)):EB K X e (di i):=EB.mk fun _=>PE.imp h fun σ H Q z9=>by
 obtain⟨tg,F,ρ,d,ρ',G,em,q⟩:=z9;obtain⟨rfl,v,ho,hv⟩:=qm G em;exact⟨v,ho,q v H F G (Ext.refl _ _ _) hv⟩
def alw(i:Nat):M Rv:=fun ρ=>match ρ[i]? with
 | some (.val d)=>some (.ok (.v d),ρ)
 | some (.own none l)=>some (.ok (.fr l),ρ.set i .emp)
 | _=>none
theorem Good.drop{tg:Nat->Addr}{F H:Hp}{ρ:Ro}{σ:L2.St}(G:Good K tg F H ρ σ)(i:Nat):Good K tg F H (ρ.set i .emp) σ:=by
 have sub:∀j t l,(List.set ρ i Sl.emp)[j]? = some (Sl.own t l)->(ρ:List Sl)[j]? = some (Sl.own t l):=fun j t l e=>by
  rw[List.getElem?_set] at e;split at e
  ·split at e <;> cases e
  ·exact e
 refine⟨G.sub,by rw[List.length_set];exact G.len,fun j s o e q =>?_,fun j k a ⟨⟨t,l,e⟩,q⟩ ⟨⟨t',l',e'⟩,q'⟩=>G.inj j k a ⟨⟨t,l,sub _ _ _ e⟩,q⟩ ⟨⟨t',l',sub _ _ _ e'⟩,q'⟩⟩
 rw[List.getElem?_set] at e;split at e
 ·split at e
  ·cases e;trivial
  ·cases e
 ·exact G.sl j s o e q
theorem ae9{ρ:Ro}{σ:L2.St}{i:Nat}{a:Addr}(h:Own (ρ.set i .emp) σ a):Own ρ σ a/\∀t l,ρ[i]? = some (.own t l)->∀(inj:∀i j a,Owns ρ σ i a->Owns ρ σ j a->i=j),¬Owns ρ σ i a:=by
 obtain⟨j,⟨t,l,e⟩,q⟩:=h;rw[List.getElem?_set] at e;split at e
 ·split at e <;> cases e
 ·rename_i hne;have w:Owns ρ σ j a:=⟨⟨t,l,e⟩,q⟩;exact⟨⟨j,w⟩,fun t' l' _ inj z=>hne (inj _ _ _ z w)⟩
theorem ago{i:Nat}(h:PE X e (tVar i)):ER K X e (alw i):=ER.mk fun _=>PE.imp h fun σ H Q z9=>by
 obtain⟨tg,F,ρ,d,ρ',G,em,q⟩:=z9;unfold alw at em;split at em
 ·rename_i d' e';cases em;obtain⟨o,ho,v,rfl,hv⟩:=G.at e';exact⟨v,ho,q v H F G (Ext.refl _ _ _) hv⟩
 ·rename_i l e';cases em;obtain⟨o,ho,a,vs,rfl,hf,hh,hl,_⟩:=G.at e';have w:Owns ρ σ i a:=⟨⟨_,_,e'⟩,ho⟩;refine⟨_,ho,q _ H F (G.drop i) ⟨Same.refl _,fun _ _ e=>.inl e,fun _ _ e _=>e,fun b z=>.inl (ae9 z).1,fun _ z=>z⟩ ⟨a,vs,rfl,.inr ⟨i,w⟩,hf,hh,hl,fun z=>(ae9 z).2 _ _ e' G.inj w⟩⟩
 ·cases em
noncomputable def mVar(i:Nat):M D:=fun ρ=>match ρ[i]? with
 | some (.val d)=>some (.ok d,ρ)
 | some (.own none l)=>some (.ok (.lst l),ρ.set i (.val (.lst l)))
 | _=>none
theorem asm{ρ:Ro}{σ:L2.St}{i:Nat}{d:D}{a:Addr}(h:Own (ρ.set i (.val d)) σ a):Own (ρ.set i .emp) σ a:=by
 obtain⟨j,⟨t,l,e⟩,q⟩:=h;refine⟨j,⟨t,l,?_⟩,q⟩;rw[List.getElem?_set] at e ⊢
 split at e
 ·split at e <;> cases e
 ·rename_i hne;rw[if_neg hne];exact e
theorem Good.setv{tg:Nat->Addr}{F H:Hp}{ρ:Ro}{σ:L2.St}{i:Nat}{d:D}{v:V}(G:Good K tg F H (ρ.set i .emp) σ)(e:σ[i]? = some (some v))(h:Is K F d v):Good K tg F H (ρ.set i (.val d)) σ:=by
 have sub:∀j t l,(List.set ρ i (Sl.val d))[j]? = some (Sl.own t l)->(List.set ρ i Sl.emp)[j]? = some (Sl.own t l):=fun j t l z=>by
  rw[List.getElem?_set] at z ⊢
  split at z
  ·split at z <;> cases z
  ·rename_i hne;rw[if_neg hne];exact z
 refine⟨G.sub,by have:=G.len;rw[List.length_set] at this ⊢;exact this,fun j s o z q =>?_,fun j k a ⟨⟨t,l,z⟩,q⟩ ⟨⟨t',l',z'⟩,q'⟩=>G.inj j k a ⟨⟨t,l,sub _ _ _ z⟩,q⟩ ⟨⟨t',l',sub _ _ _ z'⟩,q'⟩⟩
 by_cases hij:i=j
 ·subst hij;rw[List.getElem?_set,if_pos rfl] at z;split at z
  ·cases z;rw[e] at q;cases q;exact⟨v,rfl,h⟩
  ·cases z
 ·refine G.sl j s o ?_ q;rw[List.getElem?_set,if_neg hij] at z ⊢
  exact z
theorem ak{i:Nat}(h:PE X e (tVar i)):EV K X e (mVar i):=EV.mk fun _=>PE.imp h fun σ H Q z9=>by
 obtain⟨tg,F,ρ,d,ρ',G,em,q⟩:=z9;unfold mVar at em;split at em
 ·rename_i d' e';cases em;obtain⟨o,ho,v,rfl,hv⟩:=G.at e';exact⟨v,ho,q v H F G (Ext.refl _ _ _) hv⟩
 ·rename_i l e';cases em;obtain⟨o,ho,a,vs,rfl,hf,hh,hl,_⟩:=G.at e';have w:Owns ρ σ i a:=⟨⟨_,_,e'⟩,ho⟩;have nown:¬Own (ρ.set i .emp) σ a:=fun z=>(ae9 z).2 _ _ e' G.inj w
  have G2:=(G.drop i).freeze hh nown hf;have i2:Is K (upd F a (.lst vs)) (.lst l) (.ref a):=.lst gw (hl.mono (Same.new hf _));refine⟨_,ho,q _ H _ (G2.setv ho i2) ⟨Same.new hf _,fun b o z =>?_,fun _ _ z _=>z,fun b z=>.inl (ae9 (asm z)).1,fun _ z=>z⟩ i2⟩
  by_cases hb:b=a
  ·subst hb;exact .inr (.inr ⟨i,w⟩)
  ·rw[cu hb] at z;exact .inl z
 ·cases em
theorem ev_c{d:D}{v:V}(h:PE X e (tC v))(hi:∀F,Is K F d v):EV K X e (ret d):=EV.mk fun _=>PE.imp h fun σ H Q z9=>by
 obtain⟨tg,F,ρ,d',ρ',G,em,q⟩:=z9;obtain⟨rfl,rfl⟩:=jr em;exact q v H F G (Ext.refl _ _ _) (hi F)
theorem au{i:Int}{j:Nat}:EV K X (.Constant (.int i) j pos) (ret (.int i)):=ev_c ay5 fun _=>.int i
theorem acx{i:Bool}{j:Nat}:EV K X (.Constant (.bool i) j pos) (ret (.bl i)):=ev_c a2l fun _=>.bl i
theorem agm{j:Nat}:EV K X (.Constant .none j pos) (ret .non):=ev_c ay2 fun _=>.non
theorem gq{i:Str}{j:Nat}:EV K X (.Constant (.str i) j pos) (ret (.str i)):=ev_c ayz fun _=>.str i
def T2(K:Fg9)(m:M (D×D))(σ:L2.St)(H:Hp)(R:V->V->Hp->Prop):Prop:=∃tg F ρ p ρ',Good K tg F H ρ σ/\m ρ=some (.ok p,ρ') /\
 ∀x y H' F',Good K tg F' H' ρ' σ->Ext (Own ρ σ) (Own ρ' σ) F H F' H'->Bor K F' H' p.1 x->Bor K F' H' p.2 y->R x y H'
structure E2 (K:Fg9) (X:Cx) (a b:Expr) (m:M (D×D)):Prop where
 go:X.K=K->∃ta tb,PE X a ta/\PE X b tb/\∀σ H R,T2 K m σ H R->ta σ H fun x H1=>tb σ H1 fun y H2=>R x y H2
instance {K:Fg9} {X:Cx} {a b:Expr} {m:M (D×D)}:CoeFun (E2 K X a b m) fun _=>X.K=K->∃ta tb,PE X a ta/\PE X b tb/\∀σ H R,T2 K m σ H R->ta σ H fun x H1=>tb σ H1 fun y H2=>R x y H2:=⟨E2.go⟩
def gk(m1 m2:M D):M (D×D):=m1.bind fun x=>m2.bind fun y=>ret (x,y)
def cj(i:Nat)(m2:M D):M (D×D):=(di i).bind fun _=>m2.bind fun y=>(di i).bind fun x=>ret (x,y)
theorem e2_v{m1 m2:M D}(ha:EV K X a m1)(hb:EB K X b m2):E2 K X a b (gk m1 m2):=E2.mk fun hk=>⟨_,_,ha hk,hb hk,fun σ H R z9=>by
 obtain⟨tg,F,ρ,p,ρ',G,em,q⟩:=z9;obtain⟨d1,ρ1,e1,em⟩:=bj em;obtain⟨d2,ρ2,e2,em⟩:=bj em;obtain⟨rfl,rfl⟩:=jr em;exact⟨tg,F,ρ,d1,ρ1,G,e1,fun x H1 F1 G1 x1 r1=>⟨tg,F1,ρ1,d2,_,G1,e2,fun y H2 F2 G2 x2 r2=>q x y H2 F2 G2 (x1.trans x2) (.inl (r1.mono x2.sub)) r2⟩⟩⟩
theorem e2_n{i:Nat}{m2:M D}(ha:PE X a (tVar i))(hb:EB K X b m2):E2 K X a b (cj i m2):=E2.mk fun hk=>⟨_,_,ha,hb hk,fun σ H R z9=>by
 obtain⟨tg,F,ρ,p,ρ',G,em,q⟩:=z9;obtain⟨d0,ρ0,e0,em⟩:=bj em;obtain⟨d2,ρ2,e2,em⟩:=bj em;obtain⟨d1,ρ1,e1,em⟩:=bj em;obtain⟨rfl,rfl⟩:=jr em;obtain⟨rfl,v,hv,_⟩:=qm G e0;exact⟨v,hv,tg,F,ρ0,d2,ρ2,G,e2,fun y H2 F2 G2 x2 r2=>by
  obtain⟨rfl,v',hv',b'⟩:=qm G2 e1;rw[hv] at hv';cases hv';exact q v y H2 F2 G2 x2 b' r2⟩⟩
end
section
variable{K:Fg9}{X:Cx}{e a b c:Expr}{es:List Expr}{pos p:Pos}
section
variable{F H:Hp}{x:V}
theorem Bor.lst{l:List D}(g:Same F H)(h:Bor K F H (.lst l) x):∃a vs,x=.ref a/\H a=some (.lst vs)/\IsL K F l vs:=by
 rcases h with h | ⟨a,vs,l',e1,e2,e3,h⟩
 ·cases h with
  | lst e h=>exact⟨_,_,rfl,g _ _ e,h⟩
 ·cases e1;exact⟨a,vs,e2,e3,h⟩
theorem Bor.tup{l:List D}(h:Bor K F H (.tup l) x):∃a vs,x=.ref a/\F a=some (.tup vs)/\IsL K F l vs:=by
 rcases h with h | ⟨a,vs,l',e1,_⟩
 ·cases h with
  | tup e h=>exact⟨_,_,rfl,e,h⟩
 ·cases e1
theorem Bor.kst{l:List D}(h:Bor K F H (.kst l) x):∃a vs,x=.ref a/\SqL K F a vs/\IsL K F l vs:=by
 rcases h with h | ⟨a,vs,l',e1,_⟩
 ·cases h with
  | kst e h=>exact⟨_,_,rfl,e,h⟩
 ·cases e1
theorem Bor.int{i:Int}(h:Bor K F H (.int i) x):x=.int i:=by
 rcases h with h | ⟨a,vs,l',e1,_⟩
 ·cases h;rfl
 ·cases e1
theorem Bor.bl{i:Bool}(h:Bor K F H (.bl i) x):x=.bl i:=by
 rcases h with h | ⟨a,vs,l',e1,_⟩
 ·cases h;rfl
 ·cases e1
theorem Bor.str{i:Str}(h:Bor K F H (.str i) x):x=.str i:=by
 rcases h with h | ⟨a,vs,l',e1,_⟩
 ·cases h;rfl
 ·cases e1
theorem Bor.non(h:Bor K F H .non x):x=.non:=by
 rcases h with h | ⟨a,vs,l',e1,_⟩
 ·cases h;rfl
 ·cases e1
end
def Res(K:Fg9)(tg:Nat->Addr)(F H:Hp)(ρ:Ro)(σ:L2.St)(r:Rv)(Q:VK):Prop :=
 ∀v H' F',Good K tg F' H' ρ σ->Ext (Own ρ σ) (Own ρ σ) F H F' H'->relR K r v H (Own ρ σ) F' H' (Own ρ σ)->Q v H'
section
variable{tg:Nat->Addr}{F H:Hp}{ρ:Ro}{σ:L2.St}{Q:VK}
theorem Res.same{d:D}{v:V}(G:Good K tg F H ρ σ)(q:Res K tg F H ρ σ (.v d) Q)(h:Is K F d v):Q v H:=q v H F G (Ext.refl _ _ _) h
theorem Res.tup{l:List D}{vs:List V}(G:Good K tg F H ρ σ)(q:Res K tg F H ρ σ (.v (.tup l)) Q)(h:IsL K F l vs){p:Addr}(hp:H p=none):Q (.ref p) (upd H p (.tup vs)) :=
 q _ _ _ (G.new hp _) (G.newX hp _) (.tup gw (h.mono (Same.new (G.freeF hp) _)))
theorem Res.lst{l:List D}{vs:List V}(G:Good K tg F H ρ σ)(q:Res K tg F H ρ σ (.fr l) Q)(h:IsL K F l vs){p:Addr}(hp:H p=none):Q (.ref p) (upd H p (.lst vs)) :=
 q _ _ _ (G.fresh hp _) (G.freshX hp _) ⟨p,vs,rfl,.inl hp,G.freeF hp,gw,h,fun z=>G.own_ne hp z rfl⟩
end
def rOf(K:Fg9)(g:D->D->Option Rv):R2:=fun x y H Q=>∃tg F ρ σ d1 d2 r,Good K tg F H ρ σ/\Bor K F H d1 x/\Bor K F H d2 y/\g d1 d2=some r/\Res K tg F H ρ σ r Q
structure OpD (K:Fg9) (X:Cx) (f:Value->Value->Sem Value) (g:D->D->Option Rv):Prop where
 go:X.K=K->OpR X f (rOf K g)
instance {K:Fg9} {X:Cx} {f:Value->Value->Sem Value} {g:D->D->Option Rv}:CoeFun (OpD K X f g) fun _=>X.K=K->OpR X f (rOf K g):=⟨OpD.go⟩
def mOp(g:D->D->Option Rv)(m:M (D×D)):M Rv:=m.bind fun p=>lift (g p.1 p.2)
theorem amz{g:D->D->Option Rv}{m:M (D×D)}{ta tb:TE}(h:∀σ H R,T2 K m σ H R->ta σ H fun x H1=>tb σ H1 fun y H2=>R x y H2)(σ:L2.St)(H:Hp)(Q:VK)(t:T K (relR K) (mOp g m) σ H Q):tOp (rOf K g) ta tb σ H Q:=by
 obtain⟨tg,F,ρ,r,ρ',G,em,q⟩:=t;obtain⟨p,ρ1,e1,em⟩:=bj em;obtain⟨e2,rfl⟩:=ir em;refine h σ H _ ⟨tg,F,ρ,p,_,G,e1,fun x y H' F' G' x' bx by'=>⟨tg,F',_,σ,p.1,p.2,r,G',bx,by',e2,fun v H2 F2 G2 x2 rr=>q v H2 F2 G2 (x'.trans x2) ?_⟩⟩
 cases r with
 | v d=>exact rr
 | fr l =>
  obtain⟨a,vs,ev,ha,w⟩:=rr;refine⟨a,vs,ev,?_,w⟩;rcases ha with ha | ha
  ·exact .inl (x'.there a ha)
  ·exact(x'.own a ha).symm
 | tf d l =>
  obtain⟨t,u,a,vs,ev,ht,hd,ha,w⟩:=rr;refine⟨t,u,a,vs,ev,ht,hd,?_,w⟩;rcases ha with ha | ha
  ·exact .inl (x'.there a ha)
  ·exact(x'.own a ha).symm
theorem dg{op:Operator}{g:D->D->Option Rv}{m:M (D×D)}(ho:OpD K X (binaryOp op) g)(h:E2 K X a b m):ER K X (.BinOp a op b pos) (mOp g m):=ER.mk fun hk=>by
 obtain⟨ta,tb,ha,hb,h⟩:=h hk;exact PE.imp (a2j (ho hk) ha hb) (amz h)
theorem anj{op:CmpOp}{g:D->D->Option Rv}{m:M (D×D)}(ho:OpD K X (compareOp op) g)(h:E2 K X a b m)(hm:behindInMarks op b=false):ER K X (.Compare a [op] [b] pos) (mOp g m):=ER.mk fun hk=>by
 obtain⟨ta,tb,ha,hb,h⟩:=h hk;exact PE.imp (av7 (ho hk) ha hb hm) (amz h)
def capS:Nat:=16777216
theorem agw{n:Nat}(h:n<=capS):n<=sizeLine:=by rw[sizeLine_eq];exact h
def gAdd:D->D->Option Rv
 | .int i,.int j=>some (.v (.int (i+j)))
 | .tup l,.tup k=>if l.length+k.length<=capS then some (.v (.tup (l++k))) else none
 | .lst l,.lst k=>if l.length+k.length<=capS then some (.fr (l++k)) else none
 | .str i,.str j=>if i.length+j.length<=capS then some (.v (.str (i++j))) else none
 | _,_=>none
theorem gm:OpD K X (binaryOp .Add) gAdd:=OpD.mk fun hk=>by
 intro qv s σ0 H x y v u Q I rx ry ⟨tg,F,ρ,σ,d1,d2,r,G,b1,b2,eg,q⟩;subst hk;unfold gAdd at eg;split at eg
 ·cases eg;obtain rfl:=b1.int;obtain rfl:=b2.int;exact azg qv s σ0 H _ _ v u Q I rx ry ⟨_,_,rfl,rfl,Res.same G q (.int _)⟩
 ·split at eg
  ·rename_i hz;cases eg;obtain⟨a1,vs1,rfl,s1,i1⟩:=b1.tup;obtain⟨a2,vs2,rfl,s2,i2⟩:=b2.tup;have l1:=i1.length;have l2:=i2.length
   by_cases hx:vs1=[]
   ·subst hx;cases i1;cases rx;cases ry;obtain⟨its,r1,p1,_⟩:=I.tuple (SqT.of (G.sub _ _ s1));obtain⟨its2,r2,p2,_⟩:=I.tuple (SqT.of (G.sub _ _ s2));exact atz p1 p2 (r1.nil_iff.mpr rfl) ⟨.ref a2,H,I,rfl,Res.same G q (.tup s2 i2)⟩
   ·refine awe qv s σ0 H _ _ v u Q I rx ry ⟨a1,a2,vs1,vs2,rfl,rfl,SqT.of (G.sub _ _ s1),SqT.of (G.sub _ _ s2),hx,by rw[<-l1,<-l2];exact agw hz,fun e =>?_,fun _ p hp=>Res.tup G q (i1.append i2) hp⟩
    subst e;cases i2;exact Res.same G q (.tup s1 (by simpa using i1))
  ·cases eg
 ·split at eg
  ·rename_i hz;cases eg;obtain⟨a1,vs1,rfl,s1,i1⟩:=b1.lst G.sub;obtain⟨a2,vs2,rfl,s2,i2⟩:=b2.lst G.sub;have l1:=i1.length;have l2:=i2.length;exact azf qv s σ0 H _ _ v u Q I rx ry ⟨a1,a2,vs1,vs2,rfl,rfl,s1,s2,by rw[<-l1,<-l2];exact agw hz,fun p hp=>Res.lst G q (i1.append i2) hp⟩
  ·cases eg
 ·split at eg
  ·rename_i hz;cases eg;obtain rfl:=b1.str;obtain rfl:=b2.str;exact aof qv s σ0 H _ _ v u Q I rx ry ⟨_,_,rfl,rfl,agw hz,Res.same G q (.str _)⟩
  ·cases eg
 ·cases eg
def gInt(f:Int->Int->Option Int):D->D->Option Rv
 | .int i,.int j=>(f i j).map fun k=>.v (.int k)
 | _,_=>none
theorem alm{op:Operator}{f:Int->Int->Option Int}{C:Int->Int->Prop}{g:Int->Int->Int}(h:OpR X (binaryOp op) (rI C fun i j=>.int (g i j)))(hf:∀i j k,f i j=some k->C i j/\k=g i j):OpD K X (binaryOp op) (gInt f):=OpD.mk fun hk=>by
 intro qv s σ0 H x y v u Q I rx ry ⟨tg,F,ρ,σ,d1,d2,r,G,b1,b2,eg,q⟩;unfold gInt at eg;split at eg
 ·rename_i i j;obtain rfl:=b1.int;obtain rfl:=b2.int;cases z:f i j with
  | none=>rw[z] at eg;cases eg
  | some k =>
   rw[z] at eg;cases eg;obtain⟨h1,rfl⟩:=hf i j k z;exact h qv s σ0 H _ _ v u Q I rx ry ⟨_,_,rfl,rfl,h1,Res.same G q (.int _)⟩
 ·cases eg
def fSub(i j:Int):Option Int:=some (i - j)
def fMul(i j:Int):Option Int:=if (-18446744073709551616 < i/\i < 18446744073709551616)∨(-18446744073709551616 < j/\j < 18446744073709551616) then some (i*j) else none
theorem azn{i j:Int}(h0:0 < j)(h:j < 1000000000000000000000000000000000000000000000000000000000000):Builtin.divisionGoesByPylong i j=false:=by
 have e2:(2:Nat) ^ 200=1606938044258990275541962092341162602522202993782792835301376:=by decide +kernel
 have hl:j.natAbs.log2 < 200:=(Nat.log2_lt (by omega)).2 (by rw[e2];omega)
 have hd:¬(j.natAbs.log2 / 30+1 > 300):=by omega
 have hj:(j==0)=false:=by
  rw[beq_eq_false_iff_ne];omega
 unfold Builtin.divisionGoesByPylong;simp only[hj,Bool.false_eq_true,if_false,hd,decide_false,Bool.false_and]
theorem asr:OpR X (binaryOp .FloorDiv) (rI (fun _ j=>0 < j/\j < 1000000000000000000000000000000000000000000000000000000000000) fun i j=>.int (i / j)):=opI fun i j _ _ _ _ _ hc q=>by
 have h1:(0:Int) < j:=hc.1;exact floordiv_int (by omega) (by rw[Int.fdiv_eq_ediv_of_nonneg i (by omega)];exact q) (.inl (azn hc.1 hc.2))
def fDiv(i j:Int):Option Int:=if 0 < j/\j < 1000000000000000000000000000000000000000000000000000000000000 then some (i / j) else none
def fMod(i j:Int):Option Int:=if 0 < j then some (i % j) else none
def fPow(i j:Int):Option Int:=if 0<=j/\j<=1000000/\i.natAbs < 18446744073709551616 then some (i ^ j.toNat) else none
theorem wj:OpD K X (binaryOp .Sub) (gInt fSub):=OpD.mk fun hk=>by
 intro qv s σ0 H x y v u Q I rx ry ⟨tg,F,ρ,σ,d1,d2,r,G,b1,b2,eg,q⟩;unfold gInt at eg;split at eg
 ·obtain rfl:=b1.int;obtain rfl:=b2.int;cases eg;exact aza qv s σ0 H _ _ v u Q I rx ry ⟨_,_,rfl,rfl,Res.same G q (.int _)⟩
 ·cases eg
end
mutual
def toPy:D->PyData
 | .non=>.none
 | .bl b=>.bool b
 | .int i=>.int i
 | .str x=>.str x
 | .tup l=>.tuple (ab3 l)
 | .lst l=>.list (ab3 l)
 | .kst l=>.list (ab3 l)
 | .dct _=>.dict []
 | .exn _ _=>.dict []
def ab3:List D->List PyData
 | []=>[]
 | d::r=>toPy d::ab3 r
end
def okD:Nat->D->Bool
 | _,.non=>true
 | _,.bl _=>true
 | _,.int _=>true
 | _,.str x=>PyData.strOk x
 | n+1,.tup l=>l.all (okD n)
 | n+1,.lst l=>l.all (okD n)
 | n+1,.kst l=>l.all (okD n)
 | _,_=>false
theorem ain{n:Nat}(ih:∀d,okD n d=true->(toPy d).canLay0=true/\(toPy d).depth<=n):∀l:List D,l.all (okD n)=true->PyData.canLayAll0 (ab3 l)=true/\PyData.depthAll (ab3 l)<=n
 | [],_=>⟨rfl,Nat.zero_le _⟩
 | d::r,h=>by
  rw[List.all_cons,Bool.and_eq_true] at h;obtain⟨h1,h2⟩:=ih d h.1;obtain⟨h3,h4⟩:=ain ih r h.2;refine⟨?_,?_⟩
  ·show(PyData.canLay0 (toPy d)&&PyData.canLayAll0 (ab3 r))=true;rw[h1,h3];rfl
  ·show max (PyData.depth (toPy d)) (PyData.depthAll (ab3 r))<=n;omega
theorem aaq:∀(n:Nat) (d:D),okD n d=true->(toPy d).canLay0=true/\(toPy d).depth<=n
 | n,.non,_=>⟨rfl,Nat.zero_le _⟩
 | n,.bl _,_=>⟨rfl,Nat.zero_le _⟩
 | n,.int _,_=>⟨rfl,Nat.zero_le _⟩
 | n,.str x,h=>by
  refine⟨?_,Nat.zero_le _⟩;cases n <;> exact h
 | n+1,.tup l,h=>by
  obtain⟨h1,h2⟩:=ain (aaq n) l h;exact⟨h1,Nat.succ_le_succ h2⟩
 | n+1,.lst l,h=>by
  obtain⟨h1,h2⟩:=ain (aaq n) l h;exact⟨h1,Nat.succ_le_succ h2⟩
 | n+1,.kst l,h=>by
  obtain⟨h1,h2⟩:=ain (aaq n) l h;exact⟨h1,Nat.succ_le_succ h2⟩
 | 0,.tup l,h=>by cases h
 | 0,.lst l,h=>by cases h
 | 0,.kst l,h=>by cases h
 | 0,.dct l,h=>by cases h
 | n+1,.dct l,h=>by cases h
 | 0,.exn _ _,h=>by cases h
 | n+1,.exn _ _,h=>by cases h
def eqD(a b:D):Bool:=PyData.eqv (toPy a) (toPy b)
def eqDs:List D->List D->Bool
 | [],[]=>true
 | a::r,b::t=>eqD a b&&eqDs r t
 | _,_=>false
theorem aqm:∀a b:List D,PyData.eqvAll (ab3 a) (ab3 b)=eqDs a b
 | [],[]=>rfl
 | a::r,b::t=>by
  show(PyData.eqv (toPy a) (toPy b)&&PyData.eqvAll (ab3 r) (ab3 t))=_;rw[aqm r t];rfl
 | [],_::_=>rfl
 | _::_,[]=>rfl
section
variable{K:Fg9}{X:Cx}
section
variable{qv:List (Addr×Obj)}{σ:L2.St}{F H:Hp}{s:Shared}
mutual
theorem xr(I:Inv X qv σ H s)(g:Same F H):∀{n:Nat} {d:D} {v:V} {u:Value},Is X.K F d v->okD n d=true->RelV v u->∃as,Reads s.heap u (toPy d) as
 | _,_,_,_,.non,_,r=>by cases r;exact⟨_,.none⟩
 | _,_,_,_,.bl b,_,r=>by cases r;exact⟨_,.bool b⟩
 | _,_,_,_,.int i,_,r=>by obtain⟨t,rfl⟩:=r;exact⟨_,.int i t⟩
 | _,_,_,_,.str i,_,r=>by obtain⟨t,rfl⟩:=r;exact⟨_,.str i t⟩
 | 0,_,_,_,.tup e h,k,r=>by cases k
 | n+1,_,_,_,.tup e h,k,r=>by
  cases r;obtain⟨its,rv,p1,_⟩:=I.tuple (SqT.of (g _ _ e));obtain⟨o,ho,hc,m,hd⟩:=p1;obtain⟨as,ra⟩:=aa5 I g h k rv;exact⟨_,.tuple ho hc hd (by simpa using ra)⟩
 | 0,_,_,_,.lst e h,k,r=>by cases k
 | n+1,_,_,_,.lst e h,k,r=>by
  cases r;obtain⟨its,rv,p1,_⟩:=I.list (SqL.of (g _ _ e));obtain⟨o,ho,hc,m,hd⟩:=p1.isList;obtain⟨as,ra⟩:=aa5 I g h k rv;exact⟨_,.list ho hc hd (by simpa using ra)⟩
 | 0,_,_,_,.kst e h,k,r=>by cases k
 | n+1,_,_,_,.kst e h,k,r=>by
  cases r;obtain⟨its,rv,p1,_⟩:=I.list (L2.Same.seq g e);obtain⟨o,ho,hc,m,hd⟩:=p1.isList;obtain⟨as,ra⟩:=aa5 I g h k rv;exact⟨_,.list ho hc hd (by simpa using ra)⟩
 | 0,_,_,_,.dct e h,k,r=>by cases k
 | n+1,_,_,_,.dct e h,k,r=>by cases k
 | 0,_,_,_,.exn ..,k,r=>by cases k
 | n+1,_,_,_,.exn ..,k,r=>by cases k
theorem aa5(I:Inv X qv σ H s)(g:Same F H):∀{n:Nat} {ds:List D} {vs:List V} {us:List Value},IsL X.K F ds vs->ds.all (okD n)=true->Vals vs us->∃as,ReadsAll s.heap us (ab3 ds) as
 | _,_,_,_,.nil,_,r=>by cases r;exact⟨_,.nil⟩
 | n,_,_,_,.cons h t,k,r=>by
  rw[List.all_cons,Bool.and_eq_true] at k;cases r with
  | cons r1 r2 =>
   obtain⟨as,ra⟩:=xr I g h k.1 r1;obtain⟨bs,rb⟩:=aa5 I g t k.2 r2;exact⟨_,.cons ra rb⟩
end
theorem yw(I:Inv X qv σ H s)(g:Same F H){n:Nat}{d:D}{v:V}{u:Value}(h:Bor X.K F H d v)(k:okD n d=true)(r:RelV v u):∃as,Reads s.heap u (toPy d) as:=by
 rcases h with h | ⟨a,vs,l,rfl,rfl,e,h⟩
 ·exact xr I g h k r
 ·cases r;cases n with
  | zero=>cases k
  | succ n =>
   obtain⟨its,rv,p1,_⟩:=I.list (SqL.of e);obtain⟨o,ho,hc,m,hd⟩:=p1.isList;obtain⟨as,ra⟩:=aa5 I g h k rv;exact⟨_,.list ho hc hd (by simpa using ra)⟩
end
def gEq(neg:Bool)(a b:D):Option Rv:=if okD 30 a&&okD 30 b then some (.v (.bl (if neg then !eqD a b else eqD a b))) else none
theorem amy(hu:X.A.units+64 < cLine):OpD K X (compareOp .Eq) (gEq false):=OpD.mk fun hk=>by
 intro qv s σ0 H x y v u Q I rx ry ⟨tg,F,ρ,σ,d1,d2,r,G,b1,b2,eg,q⟩;subst hk;unfold gEq at eg;split at eg
 ·rename_i ho;rw[Bool.and_eq_true] at ho;cases eg;obtain⟨as,ra⟩:=yw I G.sub b1 ho.1 rx;obtain⟨bs,rb⟩:=yw I G.sub b2 ho.2 ry;obtain⟨c1,p1⟩:=aaq _ _ ho.1;obtain⟨c2,p2⟩:=aaq _ _ ho.2;exact PySem.SeqAt.compareEq_reads ra rb c1 c2 (by omega) ⟨.bl _,H,I,rfl,Res.same G q (.bl _)⟩
 ·cases eg
theorem za(hu:X.A.units+64 < cLine):OpD K X (compareOp .NotEq) (gEq true):=OpD.mk fun hk=>by
 intro qv s σ0 H x y v u Q I rx ry ⟨tg,F,ρ,σ,d1,d2,r,G,b1,b2,eg,q⟩;subst hk;unfold gEq at eg;split at eg
 ·rename_i ho;rw[Bool.and_eq_true] at ho;cases eg;obtain⟨as,ra⟩:=yw I G.sub b1 ho.1 rx;obtain⟨bs,rb⟩:=yw I G.sub b2 ho.2 ry;obtain⟨c1,p1⟩:=aaq _ _ ho.1;obtain⟨c2,p2⟩:=aaq _ _ ho.2;exact PySem.SeqAt.compareNe_reads ra rb c1 c2 (by omega) ⟨.bl _,H,I,rfl,Res.same G q (.bl _)⟩
 ·cases eg
def itemsD:D->Option (List D)
 | .tup l=>some l
 | .lst l=>some l
 | .kst l=>some l
 | _=>none
def gIn(neg:Bool)(a b:D):Option Rv:=match itemsD b with
 | some l=>if okD 30 a&&l.all (okD 30) then some (.v (.bl (if neg then !l.any (fun y=>eqD y a) else l.any (fun y=>eqD y a)))) else none
 | none=>none
open Classical in
noncomputable def yj(h:Heap)(dx:PyData)(u:Value):Bool:=decide (∃d as,Reads h u d as/\d.canLay0=true/\PyData.eqv d dx=true)
open Classical in
theorem afb{h:Heap}{dx d:PyData}{u:Value}{as:List Addr}(r:Reads h u d as)(c:d.canLay0=true):yj h dx u=PyData.eqv d dx:=by
 unfold yj;cases e:PyData.eqv d dx with
 | true=>exact decide_eq_true ⟨d,as,r,c,e⟩
 | false =>
  refine decide_eq_false ?_
  rintro⟨d',as',r',c',e'⟩
  rw[<-PySem.SeqAt.Reads.unique d d' u as as' c r r'] at e';rw[e] at e';cases e'
theorem u5{qv:List (Addr×Obj)}{σ:L2.St}{F H:Hp}{s:Shared}(I:Inv X qv σ H s)(g:Same F H){a:D}{n:Nat}:∀{ds:List D} {vs:List V} {us:List Value},IsL X.K F ds vs->ds.all (okD n)=true->Vals vs us ->
  us.any (yj s.heap (toPy a))=ds.any (fun y=>eqD y a)/\∀u∈us,∃d as,Reads s.heap u d as/\d.canLay0=true/\d.depth<=n
 | _,_,_,.nil,_,r=>by cases r;exact⟨rfl,fun u hu=>by cases hu⟩
 | _,_,_,.cons h t,k,r=>by
  rw[List.all_cons,Bool.and_eq_true] at k;cases r with
  | cons r1 r2 =>
   obtain⟨as,ra⟩:=xr I g h k.1 r1;obtain⟨c,p⟩:=aaq _ _ k.1;obtain⟨e,z⟩:=u5 I g (a:=a) t k.2 r2;refine⟨?_,fun u hu =>?_⟩
   ·rw[List.any_cons,List.any_cons,e,afb ra c];rfl
   ·rcases List.mem_cons.mp hu with rfl | hu
    ·exact⟨_,as,ra,c,p⟩
    ·exact z u hu
theorem ul{s:Shared}{A:Around}(hu:A.units+64 < cLine){us:List Value}{a:D}{v:Value}{as:List Addr}(ra:Reads s.heap v (toPy a) as)(ka:okD 30 a=true)(z:∀u∈us,∃d as,Reads s.heap u d as/\d.canLay0=true/\d.depth<=30) :
  ∀u∈us,SeqAt.EqAt A.in1 s u v (yj s.heap (toPy a) u):=fun u hm=>by
 obtain⟨d,bs,rb,c,p⟩:=z u hm;obtain⟨c2,p2⟩:=aaq _ _ ka;rw[afb rb c];refine PySem.SeqAt.eqAt_reads d (toPy a) A.in1 s u v bs as rb ra c c2 ?_;show A.units+1+_ < _;omega
theorem akl{a b:D}{neg:Bool}{r:Rv}(h:gIn neg a b=some r):∃l,itemsD b=some l/\okD 30 a=true/\l.all (okD 30)=true/\r=.v (.bl (if neg then !l.any (fun y=>eqD y a) else l.any (fun y=>eqD y a))):=by
 unfold gIn at h;split at h
 ·rename_i l e;split at h
  ·rename_i ho;rw[Bool.and_eq_true] at ho;cases h;exact⟨l,e,ho.1,ho.2,rfl⟩
  ·cases h
 ·cases h
theorem afr{F H:Hp}{d:D}{l:List D}{x:V}(g:Same F H)(e:itemsD d=some l)(h:Bor K F H d x):∃a vs,x=.ref a/\IsL K F l vs/\(SqL K H a vs∨SqT K H a vs):=by
 cases d with
 | tup k =>
  cases e;obtain⟨a,vs,rfl,e,h⟩:=h.tup;exact⟨a,vs,rfl,h,.inr (SqT.of (g _ _ e))⟩
 | lst k =>
  cases e;obtain⟨a,vs,rfl,e,h⟩:=h.lst g;exact⟨a,vs,rfl,h,.inl (SqL.of e)⟩
 | kst k =>
  cases e;obtain⟨a,vs,rfl,e,h⟩:=h.kst;exact⟨a,vs,rfl,h,.inl (L2.Same.seq g e)⟩
 | _=>cases e
theorem ay9(hu:X.A.units+64 < cLine):OpD K X (compareOp .In) (gIn false):=OpD.mk fun hk=>by
 intro qv s σ0 H x y v u Q I rx ry ⟨tg,F,ρ,σ,d1,d2,r,G,b1,b2,eg,q⟩;subst hk;obtain⟨l,e,k1,k2,rfl⟩:=akl eg;obtain⟨as,ra⟩:=yw I G.sub b1 k1 rx;obtain⟨p,vs,rfl,hl,hs⟩:=afr G.sub e b2;cases ry;rcases hs with hs | hs
 ·obtain⟨its,rv,pl,_⟩:=I.list hs;obtain⟨ea,z⟩:=u5 I G.sub (a:=d1) hl k2 rv;refine SeqAt.in_listAt (yj s.heap (toPy d1)) pl.isList (fun w hw=>ul hu ra k1 z w (by simpa using hw)) ⟨.bl _,H,I,rfl,?_⟩
  rw[show its.toArray.any (yj s.heap (toPy d1))=its.any (yj s.heap (toPy d1)) by simp,ea]
  exact Res.same G q (.bl _)
 ·obtain⟨its,rv,pl,_⟩:=I.tuple hs;obtain⟨ea,z⟩:=u5 I G.sub (a:=d1) hl k2 rv;refine SeqAt.in_tupleAt (yj s.heap (toPy d1)) pl (fun w hw=>ul hu ra k1 z w (by simpa using hw)) ⟨.bl _,H,I,rfl,?_⟩
  rw[show its.toArray.any (yj s.heap (toPy d1))=its.any (yj s.heap (toPy d1)) by simp,ea]
  exact Res.same G q (.bl _)
theorem yz(hu:X.A.units+64 < cLine):OpD K X (compareOp .NotIn) (gIn true):=OpD.mk fun hk=>by
 intro qv s σ0 H x y v u Q I rx ry ⟨tg,F,ρ,σ,d1,d2,r,G,b1,b2,eg,q⟩;subst hk;obtain⟨l,e,k1,k2,rfl⟩:=akl eg;obtain⟨as,ra⟩:=yw I G.sub b1 k1 rx;obtain⟨p,vs,rfl,hl,hs⟩:=afr G.sub e b2;cases ry;rcases hs with hs | hs
 ·obtain⟨its,rv,pl,_⟩:=I.list hs;obtain⟨ea,z⟩:=u5 I G.sub (a:=d1) hl k2 rv;refine SeqAt.notIn_listAt (yj s.heap (toPy d1)) pl.isList (fun w hw=>ul hu ra k1 z w (by simpa using hw)) ⟨.bl _,H,I,rfl,?_⟩
  rw[show its.toArray.any (yj s.heap (toPy d1))=its.any (yj s.heap (toPy d1)) by simp,ea]
  exact Res.same G q (.bl _)
 ·obtain⟨its,rv,pl,_⟩:=I.tuple hs;obtain⟨ea,z⟩:=u5 I G.sub (a:=d1) hl k2 rv;refine SeqAt.notIn_tupleAt (yj s.heap (toPy d1)) pl (fun w hw=>ul hu ra k1 z w (by simpa using hw)) ⟨.bl _,H,I,rfl,?_⟩
  rw[show its.toArray.any (yj s.heap (toPy d1))=its.any (yj s.heap (toPy d1)) by simp,ea]
  exact Res.same G q (.bl _)
end
end Dn
namespace Dn
open L2 Mn
section
variable{K:Fg9}{X:Cx}{e a b c:Expr}{es:List Expr}{pos p:Pos}
theorem awc:OpD K X (binaryOp .FloorDiv) (gInt fDiv):=alm asr fun i j k h=>by
 unfold fDiv at h;split at h
 ·cases h;exact⟨by assumption,rfl⟩
 ·cases h
theorem aa7:OpD K X (binaryOp .Mod) (gInt fMod):=alm aze fun i j k h=>by
 unfold fMod at h;split at h
 ·cases h;exact⟨by assumption,rfl⟩
 ·cases h
theorem aie:OpD K X (binaryOp .Pow) (gInt fPow):=alm azc fun i j k h=>by
 unfold fPow at h;split at h
 ·rename_i hc;cases h;exact⟨⟨hc.1,hc.2.1,hc.2.2⟩,rfl⟩
 ·cases h
def gMul:D->D->Option Rv
 | .int i,.int j=>(fMul i j).map fun k=>.v (.int k)
 | .tup l,.int k=>if k=1 then some (.v (.tup l)) else if l≠[]/\2<=k/\k < 9223372036854775808/\l.length*k.toNat<=capS then some (.v (.tup (List.replicate k.toNat l).flatten)) else none
 | .lst l,.int k=>if k.natAbs < 9223372036854775808/\l.length*k.toNat<=capS then some (.fr (List.replicate k.toNat l).flatten) else none
 | _,_=>none
theorem aif:OpD K X (binaryOp .Mult) gMul:=OpD.mk fun hk=>by
 intro qv s σ0 H x y v u Q I rx ry ⟨tg,F,ρ,σ,d1,d2,r,G,b1,b2,eg,q⟩;subst hk;unfold gMul at eg;split at eg
 ·rename_i i j;obtain rfl:=b1.int;obtain rfl:=b2.int;unfold fMul at eg;split at eg
  ·rename_i hc;cases eg;exact azd qv s σ0 H _ _ v u Q I rx ry ⟨_,_,rfl,rfl,hc,Res.same G q (.int _)⟩
  ·cases eg
 ·rename_i l k;split at eg
  ·rename_i hk1;subst hk1;cases eg;obtain⟨a1,vs1,rfl,s1,i1⟩:=b1.tup;obtain rfl:=b2.int;exact awd qv s σ0 H _ _ v u Q I rx ry ⟨a1,vs1,rfl,rfl,G.sub _ _ s1,Res.same G q (.tup s1 i1)⟩
  split at eg
  ·rename_i hc;obtain⟨h0,h2,h3,hz⟩:=hc;cases eg;obtain⟨a1,vs1,rfl,s1,i1⟩:=b1.tup;obtain rfl:=b2.int;have l1:=i1.length;refine asp qv s σ0 H _ _ v u Q I rx ry ⟨a1,vs1,k,rfl,rfl,G.sub _ _ s1,?_,h2,h3,by rw[<-l1];exact agw hz,fun p hp=>Res.tup G q (i1.rep _) hp⟩
   intro z;subst z;cases i1;exact h0 rfl
  ·cases eg
 ·rename_i l k;split at eg
  ·rename_i hc;obtain⟨hab,hz⟩:=hc;have h0 : -9223372036854775808<=k:=by omega
   have h2:k < 9223372036854775808:=by omega
   cases eg;obtain⟨a1,vs1,rfl,s1,i1⟩:=b1.lst G.sub;obtain rfl:=b2.int;have l1:=i1.length;exact azb qv s σ0 H _ _ v u Q I rx ry ⟨a1,k,vs1,rfl,rfl,s1,h0,h2,by rw[<-l1];exact agw hz,fun p hp=>Res.lst G q (i1.rep _) hp⟩
  ·cases eg
 ·cases eg
def gCmp(f:Int->Int->Bool):D->D->Option Rv
 | .int i,.int j=>some (.v (.bl (f i j)))
 | _,_=>none
theorem apn{op:CmpOp}{f:Int->Int->Bool}(h:OpR X (compareOp op) (rI0 fun i j=>.bl (f i j))):OpD K X (compareOp op) (gCmp f):=OpD.mk fun hk=>by
 intro qv s σ0 H x y v u Q I rx ry ⟨tg,F,ρ,σ,d1,d2,r,G,b1,b2,eg,q⟩;unfold gCmp at eg;split at eg
 ·cases eg;obtain rfl:=b1.int;obtain rfl:=b2.int;exact h qv s σ0 H _ _ v u Q I rx ry ⟨_,_,rfl,rfl,Res.same G q (.bl _)⟩
 ·cases eg
theorem amx:OpD K X (compareOp .Lt) (gCmp fun i j=>decide (i < j)):=apn a2n
theorem af0:OpD K X (compareOp .GtE) (gCmp fun i j=>decide (j<=i)):=apn a2o
def gNeg:D->Option D
 | .int i=>some (.int (-i))
 | _=>none
def mUn(g:D->Option D)(m:M D):M D:=m.bind fun d=>lift (g d)
theorem zx{m:M D}(h:EV K X a m):EV K X (.UnaryOp .USub a pos) (mUn gNeg m):=EV.mk fun hk=>PE.imp (a2i ax2 (h hk)) fun σ H Q z9=>by
 obtain⟨tg,F,ρ,d,ρ',G,em,q⟩:=z9;obtain⟨d1,ρ1,e1,em⟩:=bj em;obtain⟨e2,rfl⟩:=ir em;refine⟨tg,F,ρ,d1,_,G,e1,fun v H' F' G' x r =>?_⟩
 cases d1 with
 | int i =>
  cases e2;cases r;exact⟨i,rfl,q _ H' F' G' x (.int _)⟩
 | _=>cases e2
def asB:D->Option Bool
 | .bl b=>some b
 | _=>none
def gNot(d:D):Option D:=(asB d).map fun k=>.bl (!k)
theorem anu{d:D}{k:Bool}(h:asB d=some k):d=.bl k:=by
 cases d with
 | bl b=>cases h;rfl
 | _=>cases h
theorem au3{m:M D}(h:EV K X a m):EV K X (.UnaryOp .Not a pos) (mUn gNot m):=EV.mk fun hk=>PE.imp (ay1 (h hk)) fun σ H Q z9=>by
 obtain⟨tg,F,ρ,d,ρ',G,em,q⟩:=z9;obtain⟨d1,ρ1,e1,em⟩:=bj em;obtain⟨e2,rfl⟩:=ir em;refine⟨tg,F,ρ,d1,_,G,e1,fun v H' F' G' x r =>?_⟩
 cases d1 with
 | bl i =>
  cases e2;cases r;exact⟨i,rfl,q _ H' F' G' x (.bl _)⟩
 | _=>cases e2
def mAnd(m1 m2:M D):M D:=m1.bind fun d=>(lift (asB d)).bind fun k=>if k=true then m2 else ret (.bl false)
theorem ako{op}{m:M D}(h:EV K X a m):EV K X (.BoolOp op [a] pos) m:=EV.mk fun hk=>ay0 (h hk)
theorem akp{m1 m2:M D}{rest:List Expr}(h1:EV K X a m1)(h2:EV K X (.BoolOp .And (b::rest) pos) m2):EV K X (.BoolOp .And (a::b::rest) pos) (mAnd m1 m2):=EV.mk fun hk=>PE.imp (ay7 (h1 hk) (h2 hk)) fun σ H Q z9=>by
 obtain⟨tg,F,ρ,d,ρ',G,em,q⟩:=z9;obtain⟨d1,ρ1,e1,em⟩:=bj em;obtain⟨k,ρ2,e2,em⟩:=bj em;obtain⟨e3,rfl⟩:=ir e2;obtain rfl:=anu e3;refine⟨tg,F,ρ,_,_,G,e1,fun v H' F' G' x r =>?_⟩
 cases r;refine⟨k,rfl,?_⟩;cases k with
 | true=>exact iteT ⟨tg,F',_,d,ρ',G',em,fun v2 H2 F2 G2 x2 r2=>q v2 H2 F2 G2 (x.trans x2) r2⟩
 | false =>
  obtain⟨rfl,rfl⟩:=jr (show ret (D.bl false) _=_ from em)
  exact iteF (q _ H' F' G' x (.bl _))
def TB(K:Fg9)(m:M Bool):TT:=fun σ H Q=>∃tg F ρ k ρ',Good K tg F H ρ σ/\m ρ=some (.ok k,ρ')/\∀H' F',Good K tg F' H' ρ' σ->Ext (Own ρ σ) (Own ρ' σ) F H F' H'->Q k H'
structure ET (K:Fg9) (X:Cx) (e:Expr) (m:M Bool):Prop where
 go:X.K=K->PT X e (TB K m)
instance {K:Fg9} {X:Cx} {e:Expr} {m:M Bool}:CoeFun (ET K X e m) fun _=>X.K=K->PT X e (TB K m):=⟨ET.go⟩
structure EW (K:Fg9) (X:Cx) (e:Expr) (m:M Bool):Prop where
 go:X.K=K->PW X e (TB K m)
instance {K:Fg9} {X:Cx} {e:Expr} {m:M Bool}:CoeFun (EW K X e m) fun _=>X.K=K->PW X e (TB K m):=⟨EW.go⟩
theorem PT.imp{t t':TT}(h:PT X e t)(w:∀σ H Q,t' σ H Q->t σ H Q):PT X e t':=fun qv s σ H Q I q=>h qv s σ H Q I (w σ H Q q)
theorem PW.imp{t t':TT}(h:PW X e t)(w:∀σ H Q,t' σ H Q->t σ H Q):PW X e t':=fun wh qv s σ H Q I q=>h wh qv s σ H Q I (w σ H Q q)
theorem EW.pt{m:M Bool}(h:EW K X e m):ET K X e m:=ET.mk fun hk=>(h hk).pt
def xg(m:M D):M Bool:=m.bind fun d=>lift (asB d)
theorem arw{m:M D}(σ:L2.St)(H:Hp)(Q:Bool->Hp->Prop)(t:TB K (xg m) σ H Q):tB (T K (relD K) m) σ H Q:=by
 obtain⟨tg,F,ρ,k,ρ',G,em,q⟩:=t;obtain⟨d1,ρ1,e1,em⟩:=bj em;obtain⟨e3,rfl⟩:=ir em;obtain rfl:=anu e3;refine⟨tg,F,ρ,_,_,G,e1,fun v H' F' G' x r =>?_⟩
 cases r;exact⟨k,rfl,q H' F' G' x⟩
theorem wy{m:M D}(h:EV K X e m)(he:∀whole,isTrue e X.env whole=(do let v <-whole;standAt e.pos;holding [v] (truthy v)):=by intro _;rfl):ET K X e (xg m):=ET.mk fun hk=>PT.imp (ayr (h hk) he) arw
def j4(g:D->D->Option Rv)(m:M (D×D)):M Bool:=xg (mOp g m).d
theorem jm{op:CmpOp}{g:D->D->Option Rv}{m:M (D×D)}(ho:OpD K X (compareOp op) g)(h:E2 K X a b m)(hm:behindInMarks op b=false):ET K X (.Compare a [op] [b] pos) (j4 g m):=ET.mk fun hk=>by
 obtain⟨ta,tb,ha,hb,h⟩:=h hk;refine PT.imp (ape (ho hk) ha hb hm) fun σ H Q t =>?_
 obtain⟨tg,F,ρ,k,ρ',G,em,q⟩:=t;obtain⟨d1,ρ1,e1,em⟩:=bj em;obtain⟨e3,rfl⟩:=ir em;obtain rfl:=anu e3;obtain⟨r,ρ2,e1,em⟩:=bj e1;obtain⟨er,rfl⟩:=jr em;refine amz h σ H _ ⟨tg,F,ρ,r,_,G,e1,fun v H' F' G' x w =>?_⟩
 cases r with
 | v d =>
  have er:d=.bl k:=er;subst er;have w:Is K F' (.bl k) v:=w;cases w;exact⟨k,rfl,q H' F' G' x⟩
 | fr l=>cases er
 | tf d l=>cases er
def aeg(m:M Bool):M Bool:=m.bind fun k=>ret (!k)
theorem wz{m:M Bool}(h:ET K X a m):ET K X (.UnaryOp .Not a pos) (aeg m):=ET.mk fun hk=>PT.imp (ays (h hk)) fun σ H Q z9=>by
 obtain⟨tg,F,ρ,k,ρ',G,em,q⟩:=z9;obtain⟨d1,ρ1,e1,em⟩:=bj em;obtain⟨rfl,rfl⟩:=jr em;exact⟨tg,F,ρ,d1,_,G,e1,fun H' F' G' x=>q H' F' G' x⟩
def awr(m1 m2:M Bool):M Bool:=m1.bind fun k=>if k=true then m2 else ret false
def mOrB(m1 m2:M Bool):M Bool:=m1.bind fun k=>if k=true then ret true else m2
theorem aqk{m:M Bool}(h:ET K X a m):EW K X (.BoolOp .And [a] pos) m:=EW.mk fun hk=>avw (h hk)
theorem agl{m:M Bool}(h:ET K X a m):EW K X (.BoolOp .Or [a] pos) m:=EW.mk fun hk=>ayn (h hk)
theorem au2{m1 m2:M Bool}{rest:List Expr}(h1:ET K X a m1)(h2:EW K X (.BoolOp .And (b::rest) pos) m2):EW K X (.BoolOp .And (a::b::rest) pos) (awr m1 m2):=EW.mk fun hk=>PW.imp (ayo (h1 hk) (h2 hk)) fun σ H Q z9=>by
 obtain⟨tg,F,ρ,d,ρ',G,em,q⟩:=z9;obtain⟨k,ρ1,e1,em⟩:=bj em;refine⟨tg,F,ρ,k,_,G,e1,fun H' F' G' x =>?_⟩
 cases k with
 | true=>exact iteT ⟨tg,F',_,d,ρ',G',em,fun H2 F2 G2 x2=>q H2 F2 G2 (x.trans x2)⟩
 | false =>
  obtain⟨rfl,rfl⟩:=jr (show ret false _=_ from em)
  exact iteF (q H' F' G' x)
theorem akn{m1 m2:M Bool}{rest:List Expr}(h1:ET K X a m1)(h2:EW K X (.BoolOp .Or (b::rest) pos) m2):EW K X (.BoolOp .Or (a::b::rest) pos) (mOrB m1 m2):=EW.mk fun hk=>PW.imp (a2e (h1 hk) (h2 hk)) fun σ H Q z9=>by
 obtain⟨tg,F,ρ,d,ρ',G,em,q⟩:=z9;obtain⟨k,ρ1,e1,em⟩:=bj em;refine⟨tg,F,ρ,k,_,G,e1,fun H' F' G' x =>?_⟩
 cases k with
 | false=>exact iteF ⟨tg,F',_,d,ρ',G',em,fun H2 F2 G2 x2=>q H2 F2 G2 (x.trans x2)⟩
 | true =>
  obtain⟨rfl,rfl⟩:=jr (show ret true _=_ from em)
  exact iteT (q H' F' G' x)
def aj7(f g:Int->Int->Bool)(m1 m2 m3:M D):M D:=m1.bind fun x=>m2.bind fun y=>match x,y with
 | .int i,.int j=>if f i j=true then m3.bind fun z=>match z with
  | .int k=>ret (.bl (g j k))
  | _=>lift none
  else ret (.bl false)
 | _,_=>lift none
theorem aqx{f g:Int->Int->Bool}{m1 m2 m3:M D}(σ:L2.St)(H:Hp)(Q:VK)(t:T K (relD K) (aj7 f g m1 m2 m3) σ H Q) :
  aud (rI0 fun i j=>.bl (f i j)) (rI0 fun i j=>.bl (g i j)) (T K (relD K) m1) (T K (relD K) m2) (T K (relD K) m3) σ H Q:=by
 obtain⟨tg,F,ρ,d,ρ',G,em,q⟩:=t;obtain⟨d1,ρ1,e1,em⟩:=bj em;obtain⟨d2,ρ2,e2,em⟩:=bj em;have bad:∀{ρ:Ro},(lift (none:Option D)) ρ=some (.ok d,ρ')->False:=fun z=>by
  obtain⟨z,_⟩:=ir z;cases z
 cases d1 with
 | int i =>
  cases d2 with
  | int j =>
   refine⟨tg,F,ρ,_,ρ1,G,e1,fun v H1 F1 G1 x1 r1=>⟨tg,F1,ρ1,_,ρ2,G1,e2,fun v2 H2 F2 G2 x2 r2 =>?_⟩⟩
   cases r1;cases r2;refine⟨i,j,rfl,rfl,f i j,rfl,?_⟩;have em:(if f i j=true then m3.bind fun z=>match z with
    | .int k=>ret (.bl (g j k))
    | _=>lift none
    else ret (.bl false)) ρ2=some (.ok d,ρ'):=em
   by_cases hf:f i j=true
   ·rw[if_pos hf] at em ⊢
    obtain⟨d3,ρ3,e3,em⟩:=bj em;refine⟨tg,F2,ρ2,d3,ρ3,G2,e3,fun v3 H3 F3 G3 x3 r3 =>?_⟩
    cases d3 with
    | int k =>
     obtain⟨rfl,rfl⟩:=jr (show ret (D.bl (g j k)) _=_ from em)
     cases r3;exact⟨j,k,rfl,rfl,q _ H3 F3 G3 ((x1.trans x2).trans x3) (.bl _)⟩
    | _=>exact(bad em).elim
   ·rw[if_neg hf] at em ⊢
    obtain⟨rfl,rfl⟩:=jr em;exact q _ H2 F2 G2 (x1.trans x2) (.bl _)
  | _=>exact(bad em).elim
 | _=>cases d2 <;> exact(bad em).elim
theorem ani{op op':CmpOp}{f g:Int->Int->Bool}{m1 m2 m3:M D}(ho:OpR X (compareOp op) (rI0 fun i j=>.bl (f i j)))(ho':OpR X (compareOp op') (rI0 fun i j=>.bl (g i j)))(h1:EV K X a m1)(h2:EV K X b m2)(h3:EV K X c m3)
  (hm:lastMarks [op,op'] [b,c]=false:=by with_unfolding_all rfl):EV K X (.Compare a [op,op'] [b,c] pos) (aj7 f g m1 m2 m3):=EV.mk fun hk=>PE.imp (asi ho ho' (h1 hk) (h2 hk) (h3 hk) hm) aqx
def mIf{α:Type}(m:M Bool)(m1 m2:M α):M α:=m.bind fun k=>if k=true then m1 else m2
theorem axf{m:M Bool}{m1 m2:M Rv}(h:ET K X c m)(h1:ER K X a m1)(h2:ER K X b m2):ER K X (.IfExp c a b pos) (mIf m m1 m2):=ER.mk fun hk=>PE.imp (asd (h hk) (h1 hk) (h2 hk)) fun σ H Q z9=>by
 obtain⟨tg,F,ρ,d,ρ',G,em,q⟩:=z9;obtain⟨k,ρ1,e1,em⟩:=bj em;refine⟨tg,F,ρ,k,_,G,e1,fun H' F' G' x =>?_⟩
 have fin:∀{m':M Rv},m' ρ1=some (.ok d,ρ')->T K (relR K) m' σ H' Q:=fun{m'} e'=>⟨tg,F',ρ1,d,ρ',G',e',fun v H2 F2 G2 x2 r2=>q v H2 F2 G2 (x.trans x2) (by
  cases d with
  | v d=>exact r2
  | fr l =>
   obtain⟨a,vs,ev,ha,w⟩:=r2;refine⟨a,vs,ev,?_,w⟩;rcases ha with ha | ha
   ·exact .inl (x.there a ha)
   ·exact(x.own a ha).symm
  | tf d l =>
   obtain⟨t,u,a,vs,ev,ht,hd,ha,w⟩:=r2;refine⟨t,u,a,vs,ev,ht,hd,?_,w⟩;rcases ha with ha | ha
   ·exact .inl (x.there a ha)
   ·exact(x.own a ha).symm)⟩
 cases k with
 | true=>exact iteT (fin em)
 | false=>exact iteF (fin em)
end
section
variable{K:Fg9}{X:Cx}{e a b c:Expr}{es:List Expr}{pos p p2:Pos}
def TL(K:Fg9)(m:M (List D)):TA:=fun σ H Q=>∃tg F ρ ds ρ',Good K tg F H ρ σ/\m ρ=some (.ok ds,ρ')/\∀vs H' F',Good K tg F' H' ρ' σ->Ext (Own ρ σ) (Own ρ' σ) F H F' H'->IsL K F' ds vs->Q vs H'
structure ED (K:Fg9) (X:Cx) (es:List Expr) (m:M (List D)):Prop where
 go:X.K=K->PA X es (TL K m)
instance {K:Fg9} {X:Cx} {es:List Expr} {m:M (List D)}:CoeFun (ED K X es m) fun _=>X.K=K->PA X es (TL K m):=⟨ED.go⟩
theorem PA.imp{t t':TA}(h:PA X es t)(w:∀σ H Q,t' σ H Q->t σ H Q):PA X es t':=fun ps qv s σ H Q I q=>h ps qv s σ H Q I (w σ H Q q)
def mNil:M (List D):=ret []
def bf(m:M D)(ms:M (List D)):M (List D):=m.bind fun d=>ms.bind fun ds=>ret (d::ds)
theorem bz:ED K X [] mNil:=ED.mk fun _=>PA.imp ahc fun σ H Q z9=>by
 obtain⟨tg,F,ρ,ds,ρ',G,em,q⟩:=z9;obtain⟨rfl,rfl⟩:=jr em;exact q [] H F G (Ext.refl _ _ _) .nil
theorem aa{m:M D}{ms:M (List D)}(h:EV K X e m)(t:ED K X es ms)(hs:starEach (e::es) X.env=(false,eval e X.env)::starEach es X.env:=by rfl):ED K X (e::es) (bf m ms):=ED.mk fun hk=>PA.imp (wg (h hk) (t hk) hs) fun σ H Q z9=>by
 obtain⟨tg,F,ρ,ds,ρ',G,em,q⟩:=z9;obtain⟨d,ρ1,e1,em⟩:=bj em;obtain⟨r,ρ2,e2,em⟩:=bj em;obtain⟨rfl,rfl⟩:=jr em;exact⟨tg,F,ρ,d,ρ1,G,e1,fun v H1 F1 G1 x1 r1=>⟨tg,F1,ρ1,r,_,G1,e2,fun vs H2 F2 G2 x2 r2=>q _ H2 F2 G2 (x1.trans x2) (.cons (r1.mono x2.sub) r2)⟩⟩
def gTup(ds:List D):Option D:=if ds.length<=capS then some (.tup ds) else none
def gLst(ds:List D):Option Rv:=if ds.length<=capS then some (.fr ds) else none
def mTup(m:M (List D)):M D:=m.bind fun ds=>lift (gTup ds)
def mLst(m:M (List D)):M Rv:=m.bind fun ds=>lift (gLst ds)
theorem jd{k}{m:M (List D)}(h:ED K X es m):EV K X (.Tuple es k pos) (mTup m):=EV.mk fun hk=>PE.imp (ayy (h hk)) fun σ H Q z9=>by
 obtain⟨tg,F,ρ,d,ρ',G,em,q⟩:=z9;obtain⟨ds,ρ1,e1,em⟩:=bj em;obtain⟨e2,rfl⟩:=ir em;unfold gTup at e2;split at e2
 ·rename_i hz;cases e2;refine⟨tg,F,ρ,ds,_,G,e1,fun vs H1 F1 G1 x1 r1=>⟨by rw[<-r1.length];exact agw hz,fun p hp=>q _ _ _ (G1.new hp _) (x1.trans (G1.newX hp _)) (.tup gw (r1.mono (Same.new (G1.freeF hp) _)))⟩⟩
 ·cases e2
theorem ju{m:M (List D)}(h:ED K X es m):ER K X (.List es pos) (mLst m):=ER.mk fun hk=>PE.imp (ay3 (h hk)) fun σ H Q z9=>by
 obtain⟨tg,F,ρ,d,ρ',G,em,q⟩:=z9;obtain⟨ds,ρ1,e1,em⟩:=bj em;obtain⟨e2,rfl⟩:=ir em;unfold gLst at e2;split at e2
 ·rename_i hz;cases e2;refine⟨tg,F,ρ,ds,_,G,e1,fun vs H1 F1 G1 x1 r1=>⟨by rw[<-r1.length];exact agw hz,fun p hp=>q _ _ _ (G1.fresh hp _) (x1.trans (G1.freshX hp _)) ⟨p,vs,rfl,.inl (x1.there p hp),G1.freeF hp,gw,r1,fun z=>G1.own_ne hp z rfl⟩⟩⟩
 ·cases e2
theorem atr{x:Str}{n:Int}{j1 j2:Nat}{p1 p2:Pos}:EV K X (.Dict [some (.Constant (.str x) j1 p1)] [.Constant (.int n) j2 p2] pos) (ret (.dct [(Sum.inr x,.int n)])):=EV.mk fun _=>PE.imp asf fun σ H Q z9=>by
 obtain⟨tg,F,ρ,d,ρ',G,em,q⟩:=z9;obtain⟨rfl,rfl⟩:=jr em;exact fun p hp=>q _ _ _ (G.new hp _) (G.newX hp _) (.dct gw (.cons (.int n) .nil))
inductive BorL (K:Fg9) (F H:Hp):List D->List V->Prop
 | nil:BorL K F H [] []
 | cons {d:D} {v:V} {ds:List D} {vs:List V} (h:Bor K F H d v) (t:BorL K F H ds vs):BorL K F H (d::ds) (v::vs)
def TA'(K:Fg9)(m:M (List D)):TA:=fun σ H Q=>∃tg F ρ ds ρ',Good K tg F H ρ σ/\m ρ=some (.ok ds,ρ')/\∀vs H' F',Good K tg F' H' ρ' σ->Ext (Own ρ σ) (Own ρ' σ) F H F' H'->BorL K F' H' ds vs->Q vs H'
structure EA (K:Fg9) (X:Cx) (es:List Expr) (m:M (List D)):Prop where
 go:X.K=K->PA X es (TA' K m)
instance {K:Fg9} {X:Cx} {es:List Expr} {m:M (List D)}:CoeFun (EA K X es m) fun _=>X.K=K->PA X es (TA' K m):=⟨EA.go⟩
def ie(i:Nat)(ms:M (List D)):M (List D):=(di i).bind fun _=>ms.bind fun ds=>(di i).bind fun d=>ret (d::ds)
theorem f9:EA K X [] mNil:=EA.mk fun _=>PA.imp ahc fun σ H Q z9=>by
 obtain⟨tg,F,ρ,ds,ρ',G,em,q⟩:=z9;obtain⟨rfl,rfl⟩:=jr em;exact q [] H F G (Ext.refl _ _ _) .nil
theorem ea_v{m:M D}{ms:M (List D)}(h:EV K X e m)(t:EA K X es ms)(hs:starEach (e::es) X.env=(false,eval e X.env)::starEach es X.env:=by rfl):EA K X (e::es) (bf m ms):=EA.mk fun hk=>PA.imp (wg (h hk) (t hk) hs) fun σ H Q z9=>by
 obtain⟨tg,F,ρ,ds,ρ',G,em,q⟩:=z9;obtain⟨d,ρ1,e1,em⟩:=bj em;obtain⟨r,ρ2,e2,em⟩:=bj em;obtain⟨rfl,rfl⟩:=jr em;exact⟨tg,F,ρ,d,ρ1,G,e1,fun v H1 F1 G1 x1 r1=>⟨tg,F1,ρ1,r,_,G1,e2,fun vs H2 F2 G2 x2 r2=>q _ H2 F2 G2 (x1.trans x2) (.cons (.inl (r1.mono x2.sub)) r2)⟩⟩
theorem ea_n{i:Nat}{ms:M (List D)}(h:PE X e (tVar i))(t:EA K X es ms)(hs:starEach (e::es) X.env=(false,eval e X.env)::starEach es X.env:=by rfl):EA K X (e::es) (ie i ms):=EA.mk fun hk=>PA.imp (wg h (t hk) hs) fun σ H Q z9=>by
 obtain⟨tg,F,ρ,ds,ρ',G,em,q⟩:=z9;obtain⟨d0,ρ0,e0,em⟩:=bj em;obtain⟨r,ρ2,e2,em⟩:=bj em;obtain⟨d,ρ1,e1,em⟩:=bj em;obtain⟨rfl,rfl⟩:=jr em;obtain⟨rfl,v,hv,_⟩:=qm G e0;exact⟨v,hv,tg,F,ρ0,r,_,G,e2,fun vs H2 F2 G2 x2 r2=>by
  obtain⟨rfl,v',hv',b'⟩:=qm G2 e1;rw[hv] at hv';cases hv';exact q _ H2 F2 G2 x2 (.cons b' r2)⟩
def rcOf(K:Fg9)(g:List D->Option Rv):List V->Hp->VK->Prop:=fun vs H Q=>∃tg F ρ σ ds r,Good K tg F H ρ σ/\BorL K F H ds vs/\g ds=some r/\Res K tg F H ρ σ r Q
structure CallD (K:Fg9) (X:Cx) (f:Value) (g:List D->Option Rv):Prop where
 go:X.K=K->ad6 X f (rcOf K g)
instance {K:Fg9} {X:Cx} {f:Value} {g:List D->Option Rv}:CoeFun (CallD K X f g) fun _=>X.K=K->ad6 X f (rcOf K g):=⟨CallD.go⟩
def jb(g:List D->Option Rv)(m:M (List D)):M Rv:=m.bind fun ds=>lift (g ds)
theorem qu{O O1 O2:Addr->Prop}{F H F1 H1 F2 H2:Hp}{r:Rv}{v:V}(x:Ext O O1 F H F1 H1)(h:relR K r v H1 O1 F2 H2 O2):relR K r v H O F2 H2 O2:=by
 cases r with
 | v d=>exact h
 | fr l =>
  obtain⟨a,vs,ev,ha,w⟩:=h;refine⟨a,vs,ev,?_,w⟩;rcases ha with ha | ha
  ·exact .inl (x.there a ha)
  ·exact(x.own a ha).symm
 | tf d l =>
  obtain⟨t,u,a,vs,ev,ht,hd,ha,w⟩:=h;refine⟨t,u,a,vs,ev,ht,hd,?_,w⟩;rcases ha with ha | ha
  ·exact .inl (x.there a ha)
  ·exact(x.own a ha).symm
theorem anp{g:List D->Option Rv}{m:M (List D)}(σ:L2.St)(H:Hp)(Q:VK)(t:T K (relR K) (jb g m) σ H Q):tCB (rcOf K g) (TA' K m) σ H Q:=by
 obtain⟨tg,F,ρ,r,ρ',G,em,q⟩:=t;obtain⟨ds,ρ1,e1,em⟩:=bj em;obtain⟨e2,rfl⟩:=ir em;exact⟨tg,F,ρ,ds,_,G,e1,fun vs H' F' G' x' bl=>⟨tg,F',_,σ,ds,r,G',bl,e2,fun v H2 F2 G2 x2 rr=>q v H2 F2 G2 (x'.trans x2) (qu x' rr)⟩⟩
section
variable{x:Str}{id Ty:String}{g:List D->Option Rv}{m:M (List D)}
theorem cz(hc:CallD K X (.builtin id) g)(hg:Gl X x)(hm:X.mg x=none)(hv:bootBuiltins x=some (.builtin id))(ha:EA K X (e::es) m)(hn:x ≠ "__name__" := by decide)(hdb:(x==("__debug__" : Str))=false:=by decide)
  (he:starEach (e::es) X.env=(false,eval e X.env)::starEach es X.env:=by rfl) (hpl:(backTo pos (starEach es X.env)).any (·.1)=false:=by rfl):ER K X (.Call (.Name x p) (e::es) [] pos) (jb g m):=ER.mk fun hk=>PE.imp (ae8 (hc hk) hg hm hv (ha hk) hn hdb he hpl) anp
theorem lr(hc:CallD K X (.type Ty) g)(hg:Gl X x)(hm:X.mg x=none)(hv:bootBuiltins x=some (.type Ty))(ha:EA K X (e::es) m)(hn:x ≠ "__name__" := by decide)(hdb:(x==("__debug__" : Str))=false:=by decide)
  (he:starEach (e::es) X.env=(false,eval e X.env)::starEach es X.env:=by rfl) (hpl:(backTo pos (starEach es X.env)).any (·.1)=false:=by rfl):ER K X (.Call (.Name x p) (e::es) [] pos) (jb g m):=ER.mk fun hk=>PE.imp (apm (hc hk) hg hm hv (ha hk) hn hdb he hpl) anp
end
theorem BorL.one{F H:Hp}{d:D}{vs:List V}(h:BorL K F H [d] vs):∃v,vs=[v]/\Bor K F H d v:=by
 cases h with
 | cons h t=>cases t;exact⟨_,rfl,h⟩
theorem BorL.two{F H:Hp}{d d':D}{vs:List V}(h:BorL K F H [d,d'] vs):∃v v',vs=[v,v']/\Bor K F H d v/\Bor K F H d' v':=by
 cases h with
 | cons h t =>
  obtain⟨v',rfl,h'⟩:=t.one;exact⟨_,_,rfl,h,h'⟩
def g1(f:D->Option Rv):List D->Option Rv
 | [d]=>f d
 | _=>none
def g2(f:D->D->Option Rv):List D->Option Rv
 | [d,d']=>f d d'
 | _=>none
theorem abo{f:D->Option Rv}{w:Value} (h:X.K=K->∀(qv:List (Addr×Obj)) (s:Shared) (σ0:L2.St) (H:Hp) (x:V) (u:Value) (Q:VK) (tg:Nat->Addr) (F:Hp) (ρ:Ro) (σ:L2.St) (d:D) (r:Rv),Inv X qv σ0 H s->RelV x u->Good K tg F H ρ σ->Bor K F H d x->f d=some r->Res K tg F H ρ σ r Q ->
  wpAny (model X.prog X.w) X.A (call w [u]) (EP X qv σ0 Q) X.xe s):CallD K X w (g1 f):=CallD.mk fun hk=>by
 intro qv s σ0 H xs us Q I r ⟨tg,F,ρ,σ,ds,rv,G,bl,eg,q⟩
 match ds,eg with
 | [d],eg =>
  obtain⟨v,rfl,bv⟩:=bl.one;obtain⟨u,rfl,ru⟩:=vals1 r;exact h hk qv s σ0 H v u Q tg F ρ σ d rv I ru G bv eg q
theorem j8:CallD K X (.builtin "len") (g1 fun d=>(itemsD d).map fun l=>.v (.int l.length)):=abo fun hk qv s σ0 H x u Q tg F ρ σ d r I ru G bd eg q=>by
 subst hk;cases e:itemsD d with
 | none=>rw[e] at eg;cases eg
 | some l =>
  rw[e] at eg;cases eg;obtain⟨a,vs,rfl,hl,hs⟩:=afr G.sub e bd;have q':=Res.same G q (.int _);rw[hl.length] at q';exact akt qv s σ0 H [.ref a] [u] Q I (.cons ru .nil) ⟨a,vs,rfl,hs,q'⟩
def abq:List D->Option (List Bool)
 | []=>some []
 | .bl b::r=>(abq r).map (b :: ·)
 | _::_=>none
theorem akz:∀{l:List D} {bs:List Bool},abq l=some bs->l=bs.map D.bl
 | [],_,h=>by cases h;rfl
 | .bl b::r,bs,h=>by
  have h':(abq r).map (b :: ·)=some bs:=h;cases e:abq r with
  | none=>rw[e] at h';cases h'
  | some t =>
   rw[e] at h';cases h';rw[akz e];rfl
 | .non::_,_,h=>by cases h
 | .int _::_,_,h=>by cases h
 | .str _::_,_,h=>by cases h
 | .tup _::_,_,h=>by cases h
 | .lst _::_,_,h=>by cases h
 | .kst _::_,_,h=>by cases h
 | .dct _::_,_,h=>by cases h
@[simp] theorem ahv(bs:List Bool):abq (bs.map D.bl)=some bs:=by
 induction bs with
 | nil=>rfl
 | cons b r ih=>show(abq (r.map D.bl)).map (b :: ·)=_;rw[ih];rfl
def gAll:D->Option Rv
 | .lst l=>(abq l).map fun bs=>.v (.bl (bs.all id))
 | _=>none
theorem aq3(hc:X.calm=true):CallD K X (.builtin "all") (g1 gAll):=abo fun hk qv s σ0 H x u Q tg F ρ σ d r I ru G bd eg q=>by
 subst hk;cases d with
 | lst l =>
  have eg:(abq l).map (fun bs=>Rv.v (.bl (bs.all id)))=some r:=eg
  cases e:abq l with
  | none=>rw[e] at eg;cases eg
  | some bs =>
   rw[e] at eg;cases eg;obtain⟨a,vs,rfl,ea,hl⟩:=bd.lst G.sub;rw[akz e] at hl;rw[hl.bl_inv] at ea;exact at3 hc qv s σ0 H [.ref a] [u] Q I (.cons ru .nil) ⟨a,bs,rfl,SqL.of ea,Res.same G q (.bl _)⟩
 | _=>cases eg
def atl:D->Option Rv
 | .int i=>some (.v (.int i))
 | .bl k=>some (.v (.int (if k then 1 else 0)))
 | _=>none
theorem a0q:CallD K X (.type "int") (g1 atl):=abo fun hk qv s σ0 H x u Q tg F ρ σ d r I ru G bd eg q=>by
 cases d with
 | int i =>
  cases eg;obtain rfl:=bd.int;exact akv qv s σ0 H [_] [u] Q I (.cons ru .nil) (.inl ⟨i,rfl,Res.same G q (.int _)⟩)
 | bl k =>
  cases eg;obtain rfl:=bd.bl;exact akv qv s σ0 H [_] [u] Q I (.cons ru .nil) (.inr ⟨k,rfl,Res.same G q (.int _)⟩)
 | _=>cases eg
theorem aam:CallD K X (.type "tuple") (g1 fun d=>(itemsD d).map fun l=>.v (.tup l)):=abo fun hk qv s σ0 H x u Q tg F ρ σ d r I ru G bd eg q=>by
 subst hk;cases d with
 | tup l =>
  cases eg;obtain⟨a,vs,rfl,ea,hl⟩:=bd.tup;exact aan qv s σ0 H [_] [u] Q I (.cons ru .nil) ⟨a,vs,rfl,.inr ⟨SqT.of (G.sub _ _ ea),Res.same G q (.tup ea hl)⟩⟩
 | lst l =>
  cases eg;obtain⟨a,vs,rfl,ea,hl⟩:=bd.lst G.sub;exact aan qv s σ0 H [_] [u] Q I (.cons ru .nil) ⟨a,vs,rfl,.inl ⟨SqL.of ea,fun p hp=>Res.tup G q hl hp⟩⟩
 | kst l =>
  cases eg;obtain⟨a,vs,rfl,ea,hl⟩:=bd.kst;exact aan qv s σ0 H [_] [u] Q I (.cons ru .nil) ⟨a,vs,rfl,.inl ⟨L2.Same.seq G.sub ea,fun p hp=>Res.tup G q hl hp⟩⟩
 | _=>cases eg
theorem amc:CallD K X (.type "list") (g1 fun d=>(itemsD d).map fun l=>.fr l):=abo fun hk qv s σ0 H x u Q tg F ρ σ d r I ru G bd eg q=>by
 subst hk;cases e:itemsD d with
 | none=>rw[e] at eg;cases eg
 | some l =>
  rw[e] at eg;cases eg;obtain⟨a,vs,rfl,hl,hs⟩:=afr G.sub e bd;exact aks qv s σ0 H [_] [u] Q I (.cons ru .nil) ⟨a,vs,rfl,hs,fun p hp=>Res.lst G q hl hp⟩
theorem aqz{f:D->D->Option Rv}{w:Value} (h:X.K=K->∀(qv:List (Addr×Obj)) (s:Shared) (σ0:L2.St) (H:Hp) (x y:V) (u v:Value) (Q:VK) (tg:Nat->Addr) (F:Hp) (ρ:Ro) (σ:L2.St) (d d':D) (r:Rv),Inv X qv σ0 H s->RelV x u->RelV y v->Good K tg F H ρ σ->Bor K F H d x->Bor K F H d' y->f d d'=some r->Res K tg F H ρ σ r Q ->
  wpAny (model X.prog X.w) X.A (call w [u,v]) (EP X qv σ0 Q) X.xe s):CallD K X w (g2 f):=CallD.mk fun hk=>by
 intro qv s σ0 H xs us Q I r ⟨tg,F,ρ,σ,ds,rv,G,bl,eg,q⟩
 match ds,eg with
 | [d,d'],eg =>
  obtain⟨v,v',rfl,bv,bv'⟩:=bl.two;obtain⟨u,w,rfl,ru,rw'⟩:=vals2 r;exact h hk qv s σ0 H v v' u w Q tg F ρ σ d d' rv I ru rw' G bv bv' eg q
theorem au5(hc:X.calm=true):CallD K X (.builtin "max") (g2 (gInt fun i j=>some (if j > i then j else i))):=aqz fun hk qv s σ0 H x y u v Q tg F ρ σ d d' r I ru rv G bd bd' eg q=>by
 unfold gInt at eg;split at eg
 ·cases eg;obtain rfl:=bd.int;obtain rfl:=bd'.int;exact aq6 hc qv s σ0 H [_,_] [u,v] Q I (.cons ru (.cons rv .nil)) ⟨_,_,rfl,Res.same G q (.int _)⟩
 ·cases eg
theorem a0p(hc:X.calm=true):CallD K X (.builtin "min") (g2 (gInt fun i j=>some (if j < i then j else i))):=aqz fun hk qv s σ0 H x y u v Q tg F ρ σ d d' r I ru rv G bd bd' eg q=>by
 unfold gInt at eg;split at eg
 ·cases eg;obtain rfl:=bd.int;obtain rfl:=bd'.int;exact aq5 hc qv s σ0 H [_,_] [u,v] Q I (.cons ru (.cons rv .nil)) ⟨_,_,rfl,Res.same G q (.int _)⟩
 ·cases eg
theorem akx:ad6 X (.builtin "divmod") (fun xs H Q=>∃i j,xs=[.int i,.int j]/\(0 < j/\j < 1000000000000000000000000000000000000000000000000000000000000)/\∀p,H p=none->Q (.ref p) (upd H p (.tup [.int (i / j),.int (i % j)]))):=by
 intro qv s σ H xs us Q I r h;obtain⟨i,j,rfl,hj,q⟩:=h;obtain⟨u,w',rfl,⟨t,rfl⟩,⟨t',rfl⟩⟩:=vals2 r;have h1:=hj.1;refine divmod_int (by omega) ?_ (.inl (azn hj.1 hj.2))
 rw[Int.fdiv_eq_ediv_of_nonneg i (by omega),Int.fmod_eq_emod_of_nonneg i (by omega)]
 refine⟨.ref s.heap.objs.size,_,?_,rfl,q _ (I.hok.fresh (Nat.le_refl _))⟩;exact I.laid (fun b o e=>Heap.get?_push_of_some _ e) (Nat.le_refl _) ⟨by simp only[List.length_cons,List.length_nil];rw[sizeLine_eq];decide,[.int (i / j) s.toks,.int (i % j) (s.toks+1)],.cons ⟨_,rfl⟩ (.cons ⟨_,rfl⟩ .nil),⟨_,Heap.get?_push_size s.heap rfl,rfl,rfl,0,rfl⟩⟩
def ai4:D->D->Option Rv
 | .int i,.int j=>if 0 < j/\j < 1000000000000000000000000000000000000000000000000000000000000 then some (.v (.tup [.int (i / j),.int (i % j)])) else none
 | _,_=>none
theorem aq2:CallD K X (.builtin "divmod") (g2 ai4):=aqz fun hk qv s σ0 H x y u v Q tg F ρ σ d d' r I ru rv G bd bd' eg q=>by
 unfold ai4 at eg;split at eg
 ·split at eg
  ·rename_i hc;cases eg;obtain rfl:=bd.int;obtain rfl:=bd'.int;exact akx qv s σ0 H [_,_] [u,v] Q I (.cons ru (.cons rv .nil)) ⟨_,_,rfl,hc,fun p hp=>Res.tup G q (.cons (.int _) (.cons (.int _) .nil)) hp⟩
  ·cases eg
 ·cases eg
inductive Ty where
 | int | bool | tuple | list | str | dict
def Ty.nm:Ty->String
 | .int => "int" | .bool => "bool" | .tuple => "tuple" | .list => "list" | .str => "str" | .dict => "dict"
def tyD:D->Value
 | .non=>.type "NoneType"
 | .bl _=>.type "bool"
 | .int _=>.type "int"
 | .str _=>.type "str"
 | .tup _=>.type "tuple"
 | .lst _=>.type "list"
 | .kst _=>.type "list"
 | .dct _=>.type "dict"
 | .exn _ _=>.type "NoneType"
def isTy:Ty->D->Bool
 | .int,.int _=>true
 | .int,.bl _=>true
 | .bool,.bl _=>true
 | .tuple,.tup _=>true
 | .list,.lst _=>true
 | .list,.kst _=>true
 | .str,.str _=>true
 | .dict,.dct _=>true
 | _,_=>false
theorem auv(t:Ty)(d:D):PySem.W.kitOne K (tyD d) (.type t.nm)=some (isTy t d):=by
 cases d <;> cases t <;> kernel_rfl
theorem aq7{X:Cx}:ad6 X (.builtin "isinstance") (fun xs H Q=>∃F d x t,xs=[x,.ty (Ty.nm t)]/\Same F H/\Bor X.K F H d x/\Q (.bl (isTy t d)) H):=by
 intro qv s σ H xs us Q I r ⟨F,d,x,t,e,g,h,q⟩;subst e;obtain⟨u,w',rfl,r1,r2⟩:=vals2 r;obtain rfl:w'=Value.type t.nm:=r2;have fin:∀tk,EP X qv σ Q (.bool (isTy t d)) { s with toks:=tk }:=fun tk=>⟨.bl _,H,I.tok tk,rfl,q⟩
 have go:TyOf X.K H x (tyD d)->wpAny (model X.prog X.w) X.A (call (.builtin "isinstance") [u,.type t.nm]) (EP X qv σ Q) X.xe s:=fun ty=>ap7 I r1 ty (auv t d) fin
 cases d with
 | non=>obtain rfl:=h.non;exact go .non
 | bl b=>obtain rfl:=h.bl;exact go (.bl b)
 | int b=>obtain rfl:=h.int;exact go (.int b)
 | str b=>obtain rfl:=h.str;exact go (.str b)
 | tup b=>obtain⟨a,vs,rfl,e,_⟩:=h.tup;exact go (.tup (g _ _ e))
 | lst b=>obtain⟨a,vs,rfl,e,_⟩:=h.lst g;exact go (.lst e)
 | kst b =>
  obtain⟨a,vs,rfl,e,_⟩:=h.kst;cases(show u=Value.ref a from r1)
  obtain⟨its,_,pl,_⟩:=I.list (L2.Same.seq g e);obtain⟨o,ho,hc,n,hd⟩:=pl.isList;exact PySem.W.kia_one PySem.W.kitx_list I.kIn ⟨o,ho,hc⟩ (auv t (.kst b)) (fun z=>nomatch z) fin
 | dct b =>
  rcases h with h | ⟨a,vs,l',e1,_⟩
  ·cases h with
   | dct e h=>exact go (.dK (g _ _ e))
  ·cases e1
 | exn c fs =>
  rcases h with h | ⟨a,vs,l',e1,_⟩
  ·cases h with
   | @exn a C c dx fs e hc hk hf =>
    cases(show u=Value.ref a from r1)
    obtain⟨⟨oe,ws,h1,h2,h3,h4⟩,_⟩:=(show uo X.prog X.w H s.heap a (.ext (exO a C dx)) from I.hok a _ (g _ _ e))
    have hno:PySem.W.notCls oe=true:=by unfold PySem.W.notCls;rw[h4]
    have ia:∃ox od,PySem.W.InstAt s.heap a ox C od:=by
     rcases hf with⟨rfl,_⟩ | ⟨d,rfl,hd⟩
     ·exact⟨oe,none,h1,h2,hno,by rw[h3];trivial⟩
     ·obtain⟨mA,⟨od,_,_,e1,_⟩,_⟩:=(show uo X.prog X.w H s.heap d (.xd _) from I.hok d _ (g _ _ hd))
      exact⟨oe,some od,h1,h2,hno,by rw[h3];exact e1⟩
    have kq:PySem.W.kitOne X.K (.ref C) (.type t.nm)=some false:=by
     have h5:PySem.W.subIn X.K (.ref C) (.type t.nm)=some false:=hk.no _ (by cases t <;> simp[Ty.nm])
     have h6:PySem.W.kitMeta t.nm=true:=by cases t <;> kernel_rfl
     unfold PySem.W.kitOne PySem.W.kitCls;rw[if_neg (by simp)]
     show(if PySem.W.kitMeta t.nm=true then PySem.W.subIn X.K (.ref C) (.type t.nm) else none)=some false
     rw[if_pos h6];exact h5
    have e7:isTy t (.exn c fs)=false:=by cases t <;> rfl
    exact PySem.W.kia_one (am5 hk) I.kIn ia kq (fun z=>nomatch z) fun tk=>e7▸fin tk
  ·cases e1
def mIsi(t:Ty)(m:M D):M D:=m.bind fun d=>ret (.bl (isTy t d))
theorem agn{t:Ty}{tn:Expr}{m:M D}{x:Str}(ht:PE X tn (tC (.ty t.nm)))(hg:Gl X x)(hm:X.mg x=none)(hv:bootBuiltins x=some (.builtin "isinstance"))(h:EB K X e m)(hn:x ≠ "__name__" := by decide)(hdb:(x==("__debug__" : Str))=false:=by decide)
  (h1:starEach [tn] X.env=(false,eval tn X.env)::starEach [] X.env:=by rfl) (he:starEach [e,tn] X.env=(false,eval e X.env)::starEach [tn] X.env:=by rfl) (hpl:(backTo pos (starEach [tn] X.env)).any (·.1)=false:=by rfl) :
  EV K X (.Call (.Name x p) [e,tn] [] pos) (mIsi t m):=EV.mk fun hk=>by
 refine PE.imp (ae8 aq7 hg hm hv (wg (h hk) (wg ht ahc h1) he) hn hdb he hpl) fun σ H Q z9 =>?_
 obtain⟨tg,F,ρ,d,ρ',G,em,q⟩:=z9;obtain⟨d1,ρ1,e1,em⟩:=bj em;obtain⟨rfl,rfl⟩:=jr em;subst hk;exact⟨tg,F,ρ,d1,_,G,e1,fun v H' F' G' x bv=>⟨F',d1,v,t,rfl,G'.sub,bv,q _ H' F' G' x (.bl _)⟩⟩
def gIx(d i:D):Option Rv:=match i with
 | .int k=>(itemsD d).bind fun l=>(atI l k).map fun x=>.v x
 | _=>none
theorem a0t{F:Hp}{l:List D}{vs:List V}{k:Int}{d:D}(h:IsL K F l vs)(e:atI l k=some d):∃v,atI vs k=some v/\Is K F d v:=by
 unfold atI at e ⊢
 rw[h.length] at e;cases q:ixN vs.length k with
 | none=>rw[q] at e;cases e
 | some j =>
  rw[q] at e;obtain⟨v,e1,e2⟩:=h.get (i:=j) e;exact⟨v,e1,e2⟩
theorem ixd:X.K=K->IxR X (rOf K gIx):=fun hk=>by
 intro value slice qv s σ0 H x y v u Q I rx ry ⟨tg,F,ρ,σ,d1,d2,r,G,b1,b2,eg,q⟩ hs;subst hk;cases d2 with
 | int k =>
  have eg:(itemsD d1).bind (fun l=>(atI l k).map fun x=>Rv.v x)=some r:=eg
  cases e:itemsD d1 with
  | none=>rw[e] at eg;cases eg
  | some l =>
   rw[e] at eg;have eg:(atI l k).map (fun x=>Rv.v x)=some r:=eg
   cases e2:atI l k with
   | none=>rw[e2] at eg;cases eg
   | some d =>
    rw[e2] at eg;cases eg;obtain⟨a,vs,rfl,hl,hq⟩:=afr G.sub e b1;obtain rfl:=b2.int;obtain⟨z,hz,iz⟩:=a0t hl e2;rcases hq with hq | hq
    ·exact aww value slice qv s σ0 H _ _ v u Q I rx ry ⟨a,vs,k,z,rfl,rfl,hq,hz,Res.same G q iz⟩ hs
    ·exact az7 value slice qv s σ0 H _ _ v u Q I rx ry ⟨a,vs,k,z,rfl,rfl,hq,hz,Res.same G q iz⟩ hs
 | _=>cases eg
theorem jl{m:M (D×D)}(h:E2 K X a b m)(hs:amh b):ER K X (.Subscript a b pos) (mOp gIx m):=ER.mk fun hk=>by
 obtain⟨ta,tb,ha,hb,h⟩:=h hk;exact PE.imp (ay4 (ixd hk) ha hb hs) (amz h)
def TOp(K:Fg9)(m:M (Option Int)):TO:=fun σ H Q=>∃tg F ρ o ρ',Good K tg F H ρ σ/\m ρ=some (.ok o,ρ')/\∀H' F',Good K tg F' H' ρ' σ->Ext (Own ρ σ) (Own ρ' σ) F H F' H'->Q o H'
structure EO (K:Fg9) (X:Cx) (e:Option Expr) (m:M (Option Int)):Prop where
 go:X.K=K->PO X e (TOp K m)
instance {K:Fg9} {X:Cx} {e:Option Expr} {m:M (Option Int)}:CoeFun (EO K X e m) fun _=>X.K=K->PO X e (TOp K m):=⟨EO.go⟩
theorem PO.imp{eo:Option Expr}{t t':TO}(h:PO X eo t)(w:∀σ H Q,t' σ H Q->t σ H Q):PO X eo t':=fun qv s σ H Q I q=>h qv s σ H Q I (w σ H Q q)
theorem yl:EO K X none (ret none):=EO.mk fun _=>PO.imp av1 fun σ H Q z9=>by
 obtain⟨tg,F,ρ,o,ρ',G,em,q⟩:=z9;obtain⟨rfl,rfl⟩:=jr em;exact q H F G (Ext.refl _ _ _)
def asI:D->Option Int
 | .int i=>some i
 | _=>none
theorem ant{d:D}{k:Int}(h:asI d=some k):d=.int k:=by
 cases d with
 | int b=>cases h;rfl
 | _=>cases h
def ado(m:M D):M (Option Int):=m.bind fun d=>lift ((asI d).map some)
theorem vg{m:M D}(h:EV K X e m):EO K X (some e) (ado m):=EO.mk fun hk=>PO.imp (av0 (h hk)) fun σ H Q z9=>by
 obtain⟨tg,F,ρ,o,ρ',G,em,q⟩:=z9;obtain⟨d,ρ1,e1,em⟩:=bj em;obtain⟨e2,rfl⟩:=ir em;refine⟨tg,F,ρ,d,_,G,e1,fun v H' F' G' x r =>?_⟩
 cases d with
 | int i =>
  cases e2;cases r;exact⟨i,rfl,q H' F' G' x⟩
 | _=>cases e2
def cutD(l:List D)(lo hi:Option Int):List D:=(l.drop (HT.sIx l.length 0 lo)).take (HT.sIx l.length l.length hi - HT.sIx l.length 0 lo)
theorem aqr{F:Hp}{l:List D}{vs:List V}(h:IsL K F l vs)(lo hi:Option Int):IsL K F (cutD l lo hi) (cutV vs lo hi):=by
 unfold cutD cutV;rw[h.length];exact(h.drop _).take _
def gCut(d:D)(lo hi:Option Int):Option Rv:=match d with
 | .tup l=>some (.v (.tup (cutD l lo hi)))
 | .lst l=>some (.fr (cutD l lo hi))
 | .kst l=>some (.fr (cutD l lo hi))
 | _=>none
def rsOf(K:Fg9):V->Option Int->Option Int->Hp->VK->Prop:=fun x lo hi H Q=>∃tg F ρ σ d r,Good K tg F H ρ σ/\Bor K F H d x/\gCut d lo hi=some r/\Res K tg F H ρ σ r Q
theorem sld(hk:X.K=K):SlR X (rsOf K):=by
 intro qv s σ0 H x v vl vu lo hi sl Q I rx hs pl pu ⟨tg,F,ρ,σ,d,r,G,bd,eg,q⟩;subst hk;cases d with
 | tup l =>
  cases eg;obtain⟨a,vs,rfl,ea,hl⟩:=bd.tup
  by_cases hw:HT.sIx vs.length 0 lo=0/\HT.sIx vs.length vs.length hi=vs.length
  ·have ec:cutD l lo hi=l:=by
    unfold cutD;rw[hl.length,hw.1,hw.2,List.drop_zero,Nat.sub_zero,<-hl.length,List.take_length]
   rw[ec] at q;cases rx;obtain⟨its,r,ht,hz⟩:=I.tuple (SqT.of (G.sub _ _ ea));have hlen:its.toArray.size=vs.length:=by rw[List.size_toArray];exact r.length.symm
   refine⟨"tuple", _,PyProof.Rows.slot_tuple_getitem.lookup,ht.typeIs,?_⟩;exact acs ht hs pl pu (by rw[hlen];exact hw.1) (by rw[hlen];exact hw.2) ⟨.ref a,H,I,rfl,Res.same G q (.tup ea hl)⟩
  ·exact aye qv s σ0 H _ v vl vu lo hi sl Q I rx hs pl pu ⟨a,vs,rfl,SqT.of (G.sub _ _ ea),hw,fun p hp=>Res.tup G q (aqr hl lo hi) hp⟩
 | lst l =>
  cases eg;obtain⟨a,vs,rfl,ea,hl⟩:=bd.lst G.sub;exact ao1 qv s σ0 H _ v vl vu lo hi sl Q I rx hs pl pu ⟨a,vs,rfl,SqL.of ea,fun p hp=>Res.lst G q (aqr hl lo hi) hp⟩
 | kst l =>
  cases eg;obtain⟨a,vs,rfl,ea,hl⟩:=bd.kst;exact ao1 qv s σ0 H _ v vl vu lo hi sl Q I rx hs pl pu ⟨a,vs,rfl,L2.Same.seq G.sub ea,fun p hp=>Res.lst G q (aqr hl lo hi) hp⟩
 | _=>cases eg
def mCut(m:M D)(ml mh:M (Option Int)):M Rv:=m.bind fun d=>ml.bind fun lo=>mh.bind fun hi=>lift (gCut d lo hi)
def ae5(i:Nat)(ml mh:M (Option Int)):M Rv:=(di i).bind fun _=>ml.bind fun lo=>mh.bind fun hi=>(di i).bind fun d=>lift (gCut d lo hi)
theorem a0j{m:M D}{ml mh:M (Option Int)}{lo hi:Option Expr}(h:EV K X a m)(hl:EO K X lo ml)(hh:EO K X hi mh):ER K X (.Subscript a (.Slice lo hi none p2) pos) (mCut m ml mh):=ER.mk fun hk=>PE.imp (amv (sld hk) (h hk) (hl hk) (hh hk)) fun σ H Q z9=>by
 obtain⟨tg,F,ρ,r,ρ',G,em,q⟩:=z9;obtain⟨d,ρ1,e1,em⟩:=bj em;obtain⟨o1,ρ2,e2,em⟩:=bj em;obtain⟨o2,ρ3,e3,em⟩:=bj em;obtain⟨e4,rfl⟩:=ir em;refine⟨tg,F,ρ,d,ρ1,G,e1,fun v H1 F1 G1 x1 r1=>⟨tg,F1,ρ1,o1,ρ2,G1,e2,fun H2 F2 G2 x2=>⟨tg,F2,ρ2,o2,_,G2,e3,fun H3 F3 G3 x3 =>?_⟩⟩⟩
 exact⟨tg,F3,_,σ,d,r,G3,.inl ((r1.mono x2.sub).mono x3.sub),e4,fun v' H4 F4 G4 x4 rr=>q v' H4 F4 G4 (((x1.trans x2).trans x3).trans x4) (qu ((x1.trans x2).trans x3) rr)⟩
theorem yh{i:Nat}{ml mh:M (Option Int)}{lo hi:Option Expr}(h:PE X a (tVar i))(hl:EO K X lo ml)(hh:EO K X hi mh):ER K X (.Subscript a (.Slice lo hi none p2) pos) (ae5 i ml mh):=ER.mk fun hk=>PE.imp (amv (sld hk) h (hl hk) (hh hk)) fun σ H Q z9=>by
 obtain⟨tg,F,ρ,r,ρ',G,em,q⟩:=z9;obtain⟨d0,ρ0,e0,em⟩:=bj em;obtain⟨o1,ρ2,e2,em⟩:=bj em;obtain⟨o2,ρ3,e3,em⟩:=bj em;obtain⟨d,ρ4,e1,em⟩:=bj em;obtain⟨e4,rfl⟩:=ir em;obtain⟨rfl,v,hv,_⟩:=qm G e0;refine⟨v,hv,tg,F,ρ0,o1,ρ2,G,e2,fun H2 F2 G2 x2=>⟨tg,F2,ρ2,o2,_,G2,e3,fun H3 F3 G3 x3 =>?_⟩⟩
 obtain⟨rfl,v',hv',b'⟩:=qm G3 e1;rw[hv] at hv';cases hv';exact⟨tg,F3,_,σ,d,r,G3,b',e4,fun v' H4 F4 G4 x4 rr=>q v' H4 F4 G4 ((x2.trans x3).trans x4) (qu (x2.trans x3) rr)⟩
end
inductive Fl where
 | nx | ret (r:Rv) | brk | cont | exc (x:Exn)
abbrev Sd:=Ro->Option (Fl×Ro)
section
variable{K:Fg9}{X:Cx}{e a b c tgt:Expr}{es:List Expr}{pos p p2:Pos}{st:Stmt}{ss:List Stmt}
def FlOk(K:Fg9)(tg:Nat->Addr)(ρ:Ro)(σ:L2.St)(F H:Hp)(E:Ends)(fl:Fl)(ρ':Ro):Prop:=match fl with
 | .nx=>∀σ' H' F',Good K tg F' H' ρ' σ'->Ext (Own ρ σ) (Own ρ' σ') F H F' H'->E.nx σ' H'
 | .brk=>∀σ' H' F',Good K tg F' H' ρ' σ'->Ext (Own ρ σ) (Own ρ' σ') F H F' H'->E.bk σ' H'
 | .cont=>∀σ' H' F',Good K tg F' H' ρ' σ'->Ext (Own ρ σ) (Own ρ' σ') F H F' H'->E.ct σ' H'
 | .ret r=>∀v σ' H' F',Good K tg F' H' ρ' σ'->Ext (Own ρ σ) (Own ρ' σ') F H F' H'->relR K r v H (Own ρ σ) F' H' (Own ρ' σ')->E.rt v H'
 | .exc _=>False
def TSd(K:Fg9)(g:Sd):TS:=fun E σ H=>∃tg F ρ fl ρ',Good K tg F H ρ σ/\g ρ=some (fl,ρ')/\FlOk K tg ρ σ F H E fl ρ'
structure SV (K:Fg9) (X:Cx) (st:Stmt) (g:Sd):Prop where
 go:X.K=K->PS X st (TSd K g)
instance {K:Fg9} {X:Cx} {st:Stmt} {g:Sd}:CoeFun (SV K X st g) fun _=>X.K=K->PS X st (TSd K g):=⟨SV.go⟩
structure SVs (K:Fg9) (X:Cx) (ss:List Stmt) (g:Sd):Prop where
 go:X.K=K->PSs X ss (TSd K g)
instance {K:Fg9} {X:Cx} {ss:List Stmt} {g:Sd}:CoeFun (SVs K X ss g) fun _=>X.K=K->PSs X ss (TSd K g):=⟨SVs.go⟩
theorem PS.imp{t t':TS}(h:PS X st t)(w:∀E σ H,t' E σ H->t E σ H):PS X st t':=fun qv s σ H E I q=>h qv s σ H E I (w E σ H q)
theorem PSs.imp{t t':TS}(h:PSs X ss t)(w:∀E σ H,t' E σ H->t E σ H):PSs X ss t':=fun qv s σ H E I q=>h qv s σ H E I (w E σ H q)
theorem FlOk.back{tg:Nat->Addr}{ρ ρ1 ρ':Ro}{σ σ1:L2.St}{F H F1 H1:Hp}{E:Ends}{fl:Fl}(x:Ext (Own ρ σ) (Own ρ1 σ1) F H F1 H1)(h:FlOk K tg ρ σ F H E fl ρ'):FlOk K tg ρ1 σ1 F1 H1 E fl ρ':=by
 cases fl with
 | nx=>exact fun σ' H' F' G' x'=>h σ' H' F' G' (x.trans x')
 | brk=>exact fun σ' H' F' G' x'=>h σ' H' F' G' (x.trans x')
 | cont=>exact fun σ' H' F' G' x'=>h σ' H' F' G' (x.trans x')
 | ret r=>exact fun v σ' H' F' G' x' rr=>h v σ' H' F' G' (x.trans x') (qu x rr)
 | exc _=>exact h
def dNx:Sd:=fun ρ=>some (.nx,ρ)
noncomputable def dSeq(g k:Sd):Sd:=fun ρ=>match g ρ with
 | some (.nx,ρ1)=>k ρ1
 | r=>r
theorem ik:SVs K X [] dNx:=SVs.mk fun _=>PSs.imp avx fun E σ H z9=>by
 obtain⟨tg,F,ρ,fl,ρ',G,em,q⟩:=z9;cases em;exact q σ H F G (Ext.refl _ _ _)
theorem bc{g:Sd}(h:SV K X st g):SVs K X [st] g:=SVs.mk fun hk=>apf (h hk)
theorem ao{g k:Sd}(h:SV K X st g)(t:SVs K X ss k):SVs K X (st::ss) (dSeq g k):=SVs.mk fun hk=>PSs.imp (aah (h hk) (t hk)) fun E σ H z9=>by
 obtain⟨tg,F,ρ,fl,ρ',G,em,q⟩:=z9;unfold dSeq at em;split at em
 ·rename_i ρ1 e1;exact⟨tg,F,ρ,.nx,ρ1,G,e1,fun σ' H' F' G' x=>⟨tg,F',ρ1,fl,ρ',G',em,q.back x⟩⟩
 ·rename_i hn;refine⟨tg,F,ρ,fl,ρ',G,em,?_⟩;cases fl with
  | nx=>exact absurd em (hn ρ')
  | brk=>exact q
  | cont=>exact q
  | ret r=>exact q
  | exc _=>exact q
noncomputable def dM{α:Type}(m:M α)(k:α->Sd):Sd:=fun ρ=>match m ρ with
 | some (.ok x,ρ1)=>k x ρ1
 | some (.exc x,ρ1)=>some (.exc x,ρ1)
 | none=>none
theorem ab7{α:Type}{m:M α}{k:α->Sd}{ρ ρ':Ro}{fl:Fl}{P:Prop}(h:dM m k ρ=some (fl,ρ'))(hx:FlOk K tg ρ0 σ0 F0 H0 E0' fl ρ')(go:∀x ρ1,m ρ=some (.ok x,ρ1)->k x ρ1=some (fl,ρ')->P):P:=by
 unfold dM at h;split at h
 ·exact go _ _ (by assumption) h
 ·cases h;exact(show False from hx).elim
 ·cases h
noncomputable def dRet(m:M Rv):Sd:=dM m fun r ρ=>some (.ret r,ρ)
theorem dw{m:M Rv}(h:ER K X e m):SV K X (.Return (some e) pos) (dRet m):=SV.mk fun hk=>PS.imp (ayt (h hk)) fun E σ H ⟨tg,F,ρ,fl,ρ',G,em,q⟩=>ab7 em q fun r ρ1 e1 em=>by
 cases em;exact⟨tg,F,ρ,r,_,G,e1,fun v H' F' G' x rr=>q v σ H' F' G' x rr⟩
noncomputable def dIf(m:M Bool)(g k:Sd):Sd:=dM m fun z=>if z=true then g else k
theorem uv{m:M Bool}{g k:Sd}{ss':List Stmt}(h:ET K X c m)(h1:SVs K X ss g)(h2:SVs K X ss' k):SV K X (.If c ss ss' pos) (dIf m g k):=SV.mk fun hk=>PS.imp (a2h (h hk) (h1 hk) (h2 hk)) fun E σ H ⟨tg,F,ρ,fl,ρ',G,em,q⟩=>ab7 em q fun z ρ1 e1 em=>by
 refine⟨tg,F,ρ,z,ρ1,G,e1,fun H' F' G' x =>?_⟩
 cases z with
 | true=>exact iteT ⟨tg,F',ρ1,fl,ρ',G',em,q.back x⟩
 | false=>exact iteF ⟨tg,F',ρ1,fl,ρ',G',em,q.back x⟩
def aep{α:Type}(m:M α):Sd:=dM m fun _ ρ=>some (.nx,ρ)
theorem pq{m:M Rv}(h:ER K X e m)(hs:swapsWith e none pos.line X.env=pure false:=by rfl):SV K X (.Expr e pos) (aep m):=SV.mk fun hk=>PS.imp (apg (h hk) hs) fun E σ H ⟨tg,F,ρ,fl,ρ',G,em,q⟩=>ab7 em q fun r ρ1 e1 em=>by
 cases em;exact⟨tg,F,ρ,r,_,G,e1,fun v H' F' G' x rr=>q σ H' F' G' x⟩
section
variable{tg:Nat->Addr}{F H:Hp}{ρ:Ro}{σ:L2.St}
theorem alk{i:Nat}{s:Sl}{v:V}{b:Addr}(hl:ρ.length=σ.length)(h:Own (List.set ρ i s) (List.set σ i (some v)) b):Own ρ σ b∨((∃t l,s=.own t l)/\v=.ref b):=by
 obtain⟨j,⟨t,l,e⟩,q⟩:=h;rw[List.getElem?_set] at e q
 by_cases hj:i=j
 ·subst hj;rw[if_pos rfl] at e q;split at e
  ·rename_i hi;rw[if_pos (by rw[<-hl];exact hi)] at q
   cases e;cases q;exact .inr ⟨⟨t,l,rfl⟩,rfl⟩
  ·cases e
 ·rw[if_neg hj] at e q;exact .inl ⟨j,⟨t,l,e⟩,q⟩
theorem Good.put(G:Good K tg F H ρ σ){s:Sl}{v:V}(i:Nat)(h:SlOk K tg F H s (some v))(n:∀t l a,s=.own t l->v=.ref a->¬Own ρ σ a):Good K tg F H (List.set ρ i s) (List.set σ i (some v)) where
 sub:=G.sub
 len:=by rw[List.length_set,List.length_set];exact G.len
 sl:=fun j s' o e q=>by
  rw[List.getElem?_set] at e q
  by_cases hj:i=j
  ·subst hj;rw[if_pos rfl] at e q;split at e
   ·rename_i hi;rw[if_pos (by rw[<-G.len];exact hi)] at q
    cases e;cases q;exact h
   ·cases e
  ·rw[if_neg hj] at e q;exact G.sl j s' o e q
 inj:=fun j k a ⟨⟨t,l,e⟩,q⟩ ⟨⟨t',l',e'⟩,q'⟩=>by
  rw[List.getElem?_set] at e q e' q'
  by_cases hj:i=j
  ·subst hj;rw[if_pos rfl] at e q
   by_cases hk:i=k
   ·exact hk
   ·rw[if_neg hk] at e' q';split at e
    ·rename_i hi;rw[if_pos (by rw[<-G.len];exact hi)] at q
     cases e;cases q;exact absurd ⟨k,⟨t',l',e'⟩,q'⟩ (n t l a rfl rfl)
    ·cases e
  ·rw[if_neg hj] at e q
   by_cases hk:i=k
   ·subst hk;rw[if_pos rfl] at e' q';split at e'
    ·rename_i hi;rw[if_pos (by rw[<-G.len];exact hi)] at q'
     cases e';cases q';exact absurd ⟨j,⟨t,l,e⟩,q⟩ (n t' l' a rfl rfl)
    ·cases e'
   ·rw[if_neg hk] at e' q';exact G.inj j k a ⟨⟨t,l,e⟩,q⟩ ⟨⟨t',l',e'⟩,q'⟩
def Rv.sl:Rv->Sl
 | .v d=>.val d
 | .fr l=>.own none l
 | .tf _ _=>.emp
theorem Good.store{F0 H0:Hp}{O:Addr->Prop}(G:Good K tg F H ρ σ)(x:Ext O (Own ρ σ) F0 H0 F H){r:Rv}{v:V}(i:Nat)(h:relR K r v H0 O F H (Own ρ σ)) :
  Good K tg F H (List.set ρ i r.sl) (List.set σ i (some v))/\Ext O (Own (List.set ρ i r.sl) (List.set σ i (some v))) F0 H0 F H:=by
 cases r with
 | v d =>
  refine⟨G.put i ⟨v,rfl,h⟩ (fun t l a e=>by cases e),x.sub,x.new,x.keep,fun b w =>?_,x.there⟩
  rcases alk G.len w with w | ⟨⟨t,l,e⟩,_⟩
  ·exact x.own b w
  ·cases e
 | fr l =>
  obtain⟨a,vs,rfl,ha,hf,hh,hl,hn⟩:=h;refine⟨G.put i ⟨a,vs,rfl,hf,hh,hl,fun k e=>by cases e⟩ (fun t l' b _ e2=>by cases e2;exact hn),x.sub,x.new,x.keep,fun b w =>?_,x.there⟩
  rcases alk G.len w with w | ⟨_,e⟩
  ·exact x.own b w
  ·cases e;exact ha.symm
 | tf d l =>
  refine⟨G.put i trivial (fun t l a e=>by cases e),x.sub,x.new,x.keep,fun b w =>?_,x.there⟩
  rcases alk G.len w with w | ⟨⟨t,l,e⟩,_⟩
  ·exact x.own b w
  ·cases e
end
def dSet(i:Nat)(m:M Rv):Sd:=dM m fun r ρ=>some (.nx,List.set ρ i r.sl)
theorem dh{i:Nat}{x:Str}{m:M Rv}(hN:X.N.Nodup)(hi:X.N[i]? = some x)(hx:Loc X.env.scope x)(h:ER K X e m)(hs:swapsWith e (some (.Name x p)) pos.line X.env=pure false:=by rfl)(hf:X.fn x=true∨X.env.scope.names.lookup x=some .local:=by first | exact .inl rfl | exact .inr rfl | assumption) :
  SV K X (.Assign [.Name x p] e pos) (dSet i m):=SV.mk fun hk=>PS.imp (ams hN hi hx (h hk) hs hf) fun E σ H ⟨tg,F,ρ,fl,ρ',G,em,q⟩=>ab7 em q fun r ρ1 e1 em=>by
 cases em;refine⟨tg,F,ρ,r,ρ1,G,e1,fun v H' F' G' x rr =>?_⟩
 obtain⟨G2,x2⟩:=G'.store x i rr;exact q _ H' F' G2 x2
def TGd(K:Fg9)(b:D->Ro->Option Ro):TG:=fun v σ H Q=>∃tg F ρ d ρ',Good K tg F H ρ σ/\Is K F d v/\b d ρ=some ρ'/\∀σ' H' F',Good K tg F' H' ρ' σ'->Ext (Own ρ σ) (Own ρ' σ') F H F' H'->Q σ' H'
structure GV (K:Fg9) (X:Cx) (e:Expr) (b:D->Ro->Option Ro):Prop where
 go:X.K=K->PG X e (TGd K b)
instance {K:Fg9} {X:Cx} {e:Expr} {b:D->Ro->Option Ro}:CoeFun (GV K X e b) fun _=>X.K=K->PG X e (TGd K b):=⟨GV.go⟩
theorem PG.imp{t t':TG}(h:PG X e t)(w:∀v σ H Q,t' v σ H Q->t v σ H Q):PG X e t':=fun qv s σ H v u Q I r q=>h qv s σ H v u Q I r (w v σ H Q q)
def jo(i:Nat):D->Ro->Option Ro:=fun d ρ=>some (List.set ρ i (.val d))
theorem Good.storeV{tg:Nat->Addr}{F H:Hp}{ρ:Ro}{σ:L2.St}(G:Good K tg F H ρ σ){d:D}{v:V}(i:Nat)(h:Is K F d v):Good K tg F H (List.set ρ i (.val d)) (List.set σ i (some v))/\Ext (Own ρ σ) (Own (List.set ρ i (.val d)) (List.set σ i (some v))) F H F H :=
 G.store (r:=.v d) (Ext.refl _ _ _) i h
theorem je{i:Nat}{x:Str}(hN:X.N.Nodup)(hi:X.N[i]? = some x)(hx:Loc X.env.scope x)(hf:X.fn x=true∨X.env.scope.names.lookup x=some .local:=by first | exact .inl rfl | exact .inr rfl | assumption):GV K X (.Name x pos) (jo i):=GV.mk fun _=>PG.imp (ali hN hi hx hf) fun v σ H Q z9=>by
 obtain⟨tg,F,ρ,d,ρ',G,h,em,q⟩:=z9;cases em;obtain⟨G2,x2⟩:=G.storeV i h;exact q _ H F G2 x2
def TGsd(K:Fg9)(b:List D->Ro->Option Ro):TGs:=fun vs σ H Q=>∃tg F ρ ds ρ',Good K tg F H ρ σ/\IsL K F ds vs/\b ds ρ=some ρ'/\∀σ' H' F',Good K tg F' H' ρ' σ'->Ext (Own ρ σ) (Own ρ' σ') F H F' H'->Q σ' H'
structure GVs (K:Fg9) (X:Cx) (es:List Expr) (b:List D->Ro->Option Ro):Prop where
 go:X.K=K->PGs X es (TGsd K b)
instance {K:Fg9} {X:Cx} {es:List Expr} {b:List D->Ro->Option Ro}:CoeFun (GVs K X es b) fun _=>X.K=K->PGs X es (TGsd K b):=⟨GVs.go⟩
theorem PGs.imp{t t':TGs}(h:PGs X es t)(w:∀v σ H Q,t' v σ H Q->t v σ H Q):PGs X es t':=fun qv s σ H v u Q I r q=>h qv s σ H v u Q I r (w v σ H Q q)
def bNil:List D->Ro->Option Ro:=fun ds ρ=>match ds with
 | []=>some ρ
 | _=>none
def ac0(b:D->Ro->Option Ro)(bs:List D->Ro->Option Ro):List D->Ro->Option Ro:=fun ds ρ=>match ds with
 | d::r=>(b d ρ).bind (bs r)
 | _=>none
theorem aiz:GVs K X [] bNil:=GVs.mk fun _=>PGs.imp apl fun vs σ H Q z9=>by
 obtain⟨tg,F,ρ,ds,ρ',G,h,em,q⟩:=z9;cases ds with
 | nil=>cases em;cases h;exact⟨rfl,q σ H F G (Ext.refl _ _ _)⟩
 | cons _ _=>cases em
theorem vo{b:D->Ro->Option Ro}{bs:List D->Ro->Option Ro}(h1:GV K X e b)(h2:GVs K X es bs)(hs:(assignEach (e::es) X.env).map (·.2)=assign e X.env::(assignEach es X.env).map (·.2):=by rfl):GVs K X (e::es) (ac0 b bs):=GVs.mk fun hk=>PGs.imp (aic (h1 hk) (h2 hk) hs) fun vs σ H Q z9=>by
 obtain⟨tg,F,ρ,ds,ρ',G,h,em,q⟩:=z9;cases h with
 | nil=>cases em
 | @cons d v ds vs hd ht =>
  have em:(b d ρ).bind (bs ds)=some ρ':=em;cases e1:b d ρ with
  | none=>rw[e1] at em;cases em
  | some ρ1 =>
   rw[e1] at em;exact⟨v,vs,rfl,tg,F,ρ,d,ρ1,G,hd,e1,fun σ' H' F' G' x=>⟨tg,F',ρ1,ds,ρ',G',ht.mono x.sub,em,fun σ2 H2 F2 G2 x2=>q σ2 H2 F2 G2 (x.trans x2)⟩⟩
def bTup(n:Nat)(bs:List D->Ro->Option Ro):D->Ro->Option Ro:=fun d ρ=>match d with
 | .tup l=>if l.length=n then bs l ρ else none
 | _=>none
theorem anf{k n:Nat}{bs:List D->Ro->Option Ro}(hc:X.calm=true)(h:GVs K X es bs)(hn:(assignEach es X.env).length=n:=by rfl)(hst:(assignEach es X.env).findIdx? (·.1)=none:=by rfl):GV K X (.Tuple es k pos) (bTup n bs):=GV.mk fun hk=>PG.imp (aun hc (h hk) hn hst) fun v σ H Q z9=>by
 obtain⟨tg,F,ρ,d,ρ',G,hd,em,q⟩:=z9;cases hd with
 | @tup a vs ds e hl =>
  have em:(if ds.length=n then bs ds ρ else none)=some ρ':=em
  split at em
  ·rename_i hz;exact⟨a,vs,rfl,SqT.of (G.sub _ _ e),by rw[<-hl.length];exact hz,tg,F,ρ,ds,ρ',G,hl,em,q⟩
  ·cases em
 | _=>cases em
def dAsg(m:M D)(b:D->Ro->Option Ro):Sd:=dM m fun d ρ=>(b d ρ).map fun ρ'=>(.nx,ρ')
theorem auf{m:M D}{b:D->Ro->Option Ro}(h:EV K X e m)(hg:GV K X tgt b)(hs:swapsWithSole [tgt] e pos.line X.env=pure false:=by rfl)(hw:swappedStores [tgt] e X.env=pure none:=by rfl)
  (h1:(assignEach [tgt] X.env).map (·.2)=[assign tgt X.env]:=by rfl):SV K X (.Assign [tgt] e pos) (dAsg m b):=SV.mk fun hk=>PS.imp (amt (h hk) (hg hk) hs hw h1) fun E σ H ⟨tg,F,ρ,fl,ρ',G,em,q⟩=>ab7 em q fun d ρ1 e1 em=>by
 refine⟨tg,F,ρ,d,ρ1,G,e1,fun v H' F' G' x r =>?_⟩
 cases e2:b d ρ1 with
 | none=>rw[e2] at em;cases em
 | some ρ2 =>
  rw[e2] at em;cases em;exact⟨tg,F',ρ1,d,_,G',r,e2,fun σ2 H2 F2 G2 x2=>q σ2 H2 F2 G2 (x.trans x2)⟩
theorem Good.mut{tg:Nat->Addr}{F H:Hp}{ρ:Ro}{σ:L2.St}(G:Good K tg F H ρ σ){i:Nat}{t:Option Nat}{l l':List D}{a:Addr}{ys:List V}(e:(ρ:List Sl)[i]? = some (.own t l))(q:σ[i]? = some (some (.ref a)))(h:IsL K F l' ys) :
  Good K tg F (upd H a (.lst ys)) (List.set ρ i (.own t l')) σ/\Ext (Own ρ σ) (Own (List.set ρ i (.own t l')) σ) F H F (upd H a (.lst ys)):=by
 obtain⟨a',vs,e1,hf,hh,hl,ht⟩:=G.sl i _ _ e q;cases e1;have ow:∀j b,Owns (List.set ρ i (.own t l')) σ j b->Owns ρ σ j b:=fun j b ⟨⟨t2,l2,e2⟩,q2⟩=>by
  rw[List.getElem?_set] at e2
  by_cases hj:i=j
  ·subst hj;exact⟨⟨t,l,e⟩,q2⟩
  ·rw[if_neg hj] at e2;exact⟨⟨t2,l2,e2⟩,q2⟩
 have me:Own ρ σ a:=⟨i,⟨t,l,e⟩,q⟩;refine⟨⟨fun b o z =>?_,by rw[List.length_set];exact G.len,fun j s o e2 q2 =>?_,fun j k b w1 w2=>G.inj j k b (ow _ _ w1) (ow _ _ w2)⟩,Same.refl F,fun _ _ z=>.inl z,fun b o z n =>?_,fun b ⟨j,w⟩=>.inl ⟨j,ow j b w⟩,fun b z =>?_⟩
 ·have hb:b≠a:=fun z2=>by
   subst z2;rw[hf] at z;cases z
  rw[cu hb];exact G.sub b o z
 ·rw[List.getElem?_set] at e2
  by_cases hj:i=j
  ·subst hj;rw[if_pos rfl] at e2;split at e2
   ·cases e2;rw[q] at q2;cases q2;exact⟨a,ys,rfl,hf,gw,h,ht⟩
   ·cases e2
  ·rw[if_neg hj] at e2;have z:=G.sl j s o e2 q2;cases s with
   | emp=>trivial
   | val d=>exact z
   | box c fs =>
    obtain⟨b,C,dx,fvs,e1,e2,e3,e4⟩:=z;have hb:b≠a:=fun z2=>by
     subst z2;rw[e3] at hh;cases hh
    exact⟨b,C,dx,fvs,e1,e2,by rw[cu hb];exact e3,e4⟩
   | own t2 l2 =>
    obtain⟨b,ws,e3,hf3,hh3,hl3,ht3⟩:=z;have hb:b≠a:=fun z2=>by
     subst z2;exact hj (G.inj i j b ⟨⟨t,l,e⟩,q⟩ ⟨⟨t2,l2,e2⟩,by rw[q2,e3]⟩)
    exact⟨b,ws,e3,hf3,by rw[cu hb];exact hh3,hl3,ht3⟩
 ·have hb:b≠a:=fun z2=>n (z2▸me)
  rw[cu hb];exact z
 ·by_cases hb:b=a
  ·subst hb;rw[gw] at z;cases z
  ·rw[cu hb] at z;exact z
def mOwn(i:Nat):M (List D):=fun ρ=>match ρ[i]? with
 | some (.own _ l)=>some (.ok l,ρ)
 | _=>none
theorem amw{tg:Nat->Addr}{F H:Hp}{ρ ρ':Ro}{σ:L2.St}(G:Good K tg F H ρ σ){i:Nat}{l:List D}(em:mOwn i ρ=some (.ok l,ρ')):ρ'=ρ/\∃t a xs,(ρ:List Sl)[i]? = some (.own t l)/\σ[i]? = some (some (.ref a))/\H a=some (.lst xs)/\IsL K F l xs:=by
 unfold mOwn at em;split at em
 ·rename_i t l' e';cases em;obtain⟨o,ho,a,vs,rfl,hf,hh,hl,_⟩:=G.at e';exact⟨rfl,t,a,vs,e',ho,hh,hl⟩
 ·cases em
def af6(i:Nat)(l':List D):M Unit:=fun ρ=>match ρ[i]? with
 | some (.own t _)=>some (.ok (),List.set ρ i (.own t l'))
 | _=>none
def mMut(i:Nat)(g:List D->List D->Option (D×List D))(ms:M (List D)):M D:=(mOwn i).bind fun _=>ms.bind fun ds=>(mOwn i).bind fun l=>(lift (g l ds)).bind fun r=>(af6 i r.2).bind fun _=>ret r.1
def MutD(K:Fg9)(r:V->List V->Hp->VK->Prop)(g:List D->List D->Option (D×List D)):Prop :=
 ∀(F H:Hp) (a:Addr) (xs vs:List V) (l ds:List D) (d:D) (l':List D) (Q:VK),Same F H->H a=some (.lst xs)->xs.length<=capS->IsL K F l xs->IsL K F ds vs->g l ds=some (d,l')->(∀v ys,Is K F d v->IsL K F l' ys->Q v (upd H a (.lst ys)))->r (.ref a) vs H Q
theorem apu{tg:Nat->Addr}{F H:Hp}{ρ ρ2:Ro}{σ:L2.St}(G:Good K tg F H ρ σ){i:Nat}{l':List D}{u:Unit}{a:Addr}{ys:List V}(e:af6 i l' ρ=some (.ok u,ρ2))(q:σ[i]? = some (some (.ref a)))(h:IsL K F l' ys) :
  Good K tg F (upd H a (.lst ys)) ρ2 σ/\Ext (Own ρ σ) (Own ρ2 σ) F H F (upd H a (.lst ys)):=by
 unfold af6 at e;split at e
 ·rename_i t l e';cases e;exact G.mut e' q h
 ·cases e
theorem ahq{i:Nat}{name:Str}{id:String}{r:V->List V->Hp->VK->Prop}{g:List D->List D->Option (D×List D)}{ms:M (List D)}{apos cpos:Pos}(hr:MutD K r g)(slot:Slot "list" name id)(hty:typeOf (.builtin id)=pure (.type "method_descriptor"))(hm:MtR X id r)(ho:PE X a (tVar i))(ha:ED K X (e::es) ms)
  (hbase:attributeBase a name X.env (eval a X.env)=eval a X.env:=by rfl)
  (hfew:((backTo cpos (starEach (e::es) X.env)).all (fun x => !x.1)&&(backToKw cpos (keywordEach [] X.env)).all (fun x=>x.1.isSome)
   && decide ((e::es).length+([]:List Keyword).length+(if ([]:List Keyword).isEmpty then 0 else 1) < 30))=true:=by rfl)
  (hline:(apos.endLine==cpos.line)=true:=by rfl) (hs:starEach (e::es) X.env=(false,eval e X.env)::starEach es X.env:=by rfl) (hplain:(backTo cpos (starEach es X.env)).any (·.1)=false:=by rfl) :
  EV K X (.Call (.Attribute a name apos) (e::es) [] cpos) (mMut i g ms):=EV.mk fun hk=>by
 intro qv s σ H Q I ⟨tg,F,ρ,d,ρ',G,em,q⟩;obtain⟨l0,ρ0,e0,em1⟩:=bj em;obtain⟨ds,ρ1,e1,em2⟩:=bj em1;obtain⟨l,ρ2,e2,em3⟩:=bj em2;obtain⟨x,ρ3,e3,em4⟩:=bj em3;obtain⟨u,ρ4,e4,em5⟩:=bj em4;obtain⟨rfl,rfl⟩:=jr em5;obtain⟨eg,rfl⟩:=ir e3;obtain⟨rfl,t0,b,xs0,es0,hv,hh0,hl0⟩:=amw G e0;refine asj (r:=fun x vs H Q=>(∀b xs,x=.ref b->H b=some (.lst xs)->xs.length<=capS)->r x vs H Q) PySem.F.plainAttrs_list slot hty (fun qv s σ H x xs v us Q I rx rv h=>hm qv s σ H x xs v us Q I rx rv (h fun b xs _ hb =>?_)) ho (ha hk) hbase hfew hline hs hplain qv s σ H Q I ?_
 ·obtain⟨z,_⟩:=I.lstM hb;rw[sizeLine_eq] at z;exact z
 refine⟨_,hv,.inl ⟨rfl,_,SqL.of hh0⟩,tg,F,ρ0,ds,ρ1,G,e1,fun vs H1 F1 G1 x1 r1 cap =>?_⟩
 obtain⟨rfl,t,a',xs,es',hv',hh,hl⟩:=amw G1 e2;rw[hv] at hv';cases hv';refine hr F1 H1 _ xs vs l ds x.1 x.2 Q G1.sub hh (cap _ _ rfl hh) hl r1 eg fun w ys iw il =>?_
 obtain⟨G2,x2⟩:=apu G1 e4 hv il;exact q w _ F1 G2 (x1.trans x2) iw
def abf(l ds:List D):Option (D×List D):=match ds with
 | [d]=>if l.length < capS then some (.non,l++[d]) else none
 | _=>none
theorem vp:MutD K apd abf:=by
 intro F H a xs vs l ds d l' Q g hh hc hl hd eg q
 match ds,eg with
 | [d1],eg =>
  have eg:(if l.length < capS then some (D.non,l++[d1]) else none)=some (d,l'):=eg
  split at eg
  ·rename_i hz;cases eg;cases hd with
   | cons h t =>
    cases t;exact⟨a,xs,_,rfl,rfl,hh,by rw[sizeLine_eq,<-hl.length];exact hz,q _ _ .non (hl.append (.cons h .nil))⟩
  ·cases eg
def dSub(i:Nat)(mi m:M D):Sd:=dM m fun d=>dM (mOwn i) fun _=>dM mi fun k=>dM (mOwn i) fun l=>dM (lift ((asI k).bind (ixN l.length))) fun j=>dM (af6 i (l.set j d)) fun _=>dNx
theorem amj{i:Nat}{mi m:M D}(h:EV K X e m)(ho:PE X a (tVar i))(hi:EV K X b mi)(hs:swapsWithSole [.Subscript a b p] e pos.line X.env=pure false:=by rfl)(hw:swappedStores [.Subscript a b p] e X.env=pure none:=by rfl)
  (h1:(assignEach [.Subscript a b p] X.env).map (·.2)=[assign (.Subscript a b p) X.env]:=by rfl)
  (ha:∀v,assign (.Subscript a b p) X.env v=(do
   let ov <-holding [v] (eval a X.env)
   let iv <-holding [v,ov] (eval b X.env)
   standAt p
   holding [v,ov,iv] (setItem ov iv v)
   release [v,ov,iv] []):=by intro _;rfl):SV K X (.Assign [.Subscript a b p] e pos) (dSub i mi m):=SV.mk fun hk=>PS.imp (amt (h hk) (auo ho (hi hk) set_list ha) hs hw h1) fun E σ H ⟨tg,F,ρ,fl,ρ',G,em,q⟩ =>
 ab7 em q fun d ρ1 e1 em=>ab7 em q fun l0 ρ0 e0 em=>ab7 em q fun k ρ2 e2 em=>ab7 em q fun l ρ3 e3 em=>ab7 em q fun j ρ4 e4 em=>ab7 em q fun u ρ5 e5 em=>by
 cases em;obtain⟨e6,rfl⟩:=ir e4;refine⟨tg,F,ρ,d,ρ1,G,e1,fun v H1 F1 G1 x1 r1 =>?_⟩
 obtain⟨rfl,t0,a0,xs0,es0,hv,hh0,hl0⟩:=amw G1 e0;refine⟨_,hv,tg,F1,_,k,ρ2,G1,e2,fun w H2 F2 G2 x2 r2 =>?_⟩
 obtain⟨rfl,t,a1,xs,es1,hv',hh,hl⟩:=amw G2 e3;rw[hv] at hv';cases hv';cases ek:asI k with
 | none=>rw[ek] at e6;cases e6
 | some n =>
  rw[ek] at e6;obtain rfl:=ant ek;cases r2;obtain⟨G3,x3⟩:=apu G2 e5 hv (hl.set (r1.mono x2.sub) j);exact⟨_,xs,n,j,rfl,rfl,hh,by rw[<-hl.length];exact e6,q _ _ F2 G3 ((x1.trans x2).trans x3)⟩
def dAug(f:Int->Int->Int)(i:Nat)(m:M D):Sd:=dM (mVar i) fun x=>dM m fun y=>dM (lift ((asI x).bind fun n=>(asI y).map fun k=>D.int (f n k))) fun z ρ=>some (.nx,List.set ρ i (.val z))
theorem aue{f:Int->Int->Int}{op:Operator}{i:Nat}{x:Str}{m:M D}(hN:X.N.Nodup)(hi:X.N[i]? = some x)(hx:Loc X.env.scope x)(h:EV K X e m)(ho:PIp X op (ipI f))(hf:X.fn x=true∨X.env.scope.names.lookup x=some .local:=by first | exact .inl rfl | exact .inr rfl | assumption) :
  SV K X (.AugAssign (.Name x p) op e pos) (dAug f i m):=SV.mk fun hk=>PS.imp (ayv hN hi hx (h hk) ho hf) fun E σ H ⟨tg,F,ρ,fl,ρ',G,em,q⟩=>ab7 em q fun d ρ1 e1 em=>ab7 em q fun d2 ρ2 e2 em=>ab7 em q fun z ρ3 e3 em=>by
 cases em;obtain⟨e4,rfl⟩:=ir e3;cases ed:asI d with
 | none=>rw[ed] at e4;cases e4
 | some n =>
  rw[ed] at e4;obtain rfl:=ant ed;cases ed2:asI d2 with
  | none=>rw[ed2] at e4;cases e4
  | some k =>
   rw[ed2] at e4;obtain rfl:=ant ed2;cases e4;unfold mVar at e1;split at e1
   ·rename_i d' es';cases e1;obtain⟨o,ho',v,rfl,hv⟩:=G.at es';cases hv;refine⟨_,ho',tg,F,ρ,_,_,G,e2,fun y H1 F1 G1 x1 r1 =>?_⟩
    cases r1;obtain⟨G2,x2⟩:=G1.storeV i (Is.int (f n k));exact⟨n,k,rfl,rfl,q _ H1 F1 G2 (x1.trans x2)⟩
   ·cases e1
   ·cases e1
end
section
variable{K:Fg9}{X:Cx}{e a b c tgt iter elt:Expr}{es:List Expr}{pos p p2:Pos}{st:Stmt}{ss:List Stmt}
theorem _root_.Mn.ItOf.imp{J:It}{xs:List V}{S S':Hp->Prop}(Z:ItOf J xs S)(h:∀H,S' H->S H):ItOf J xs S':=⟨fun i H q=>Z.go i H (h H q),fun i H x H' q=>Z.yld i H x H' (h H q),fun i H q=>Z.stop i H (h H q)⟩
def Alt(K:Fg9)(F:Hp)(d:D)(x:V)(H H':Hp):Prop:=(H'=H/\Is K F d x)∨∃q vs ds,H q=none/\x=.ref q/\H'=upd H q (.tup vs)/\d=.tup ds/\IsL K F ds vs
structure ItD (K:Fg9) (J:It) (l:List D) (F:Hp):Prop where
 go:∀i H,Same F H->i < l.length->J.go i H
 yld:∀i H x H' d,Same F H->J.yld i H x H'->l[i]? = some d->Alt K F d x H H'
 stop:∀H,Same F H->J.stop l.length H
theorem ItD.of{J:It}{l:List D}{vs:List V}{F:Hp}(il:IsL K F l vs)(Z:ItOf J vs fun H2=>Same F H2):ItD K J l F where
 go:=fun i H s hi=>Z.go i H s (by rw[<-il.length];exact hi)
 yld:=fun i H x H' d s y hd=>by
  obtain⟨v,hv,iv⟩:=il.get hd;obtain⟨e,z⟩:=Z.yld i H x H' s y;have:=z (List.getElem?_eq_some_iff.mp hv).1;rw[hv] at this;cases this;exact .inl ⟨e,iv⟩
 stop:=fun H s=>Z.stop _ H s (by rw[<-il.length];exact Nat.le_refl _)
theorem anv{tg:Nat->Addr}{O:Addr->Prop}{F H F1 F2 H2 H3:Hp}{ρ2:Ro}{σ2:L2.St}{d:D}{x:V}(G2:Good K tg F2 H2 ρ2 σ2)(x2:Ext O (Own ρ2 σ2) F H F2 H2)(s2:Same F1 F2)(a:Alt K F1 d x H2 H3) :
  ∃F3,Good K tg F3 H3 ρ2 σ2/\Ext O (Own ρ2 σ2) F H F3 H3/\Same F1 F3/\Is K F3 d x/\Ext (Own ρ2 σ2) (Own ρ2 σ2) F2 H2 F3 H3:=by
 rcases a with⟨rfl,id⟩ | ⟨q,vs,ds,hq,rfl,rfl,rfl,il⟩
 ·exact⟨F2,G2,x2,s2,id.mono s2,Ext.refl _ _ _⟩
 ·have z:=G2.newX hq (.tup vs);exact⟨_,G2.new hq _,x2.trans z,s2.trans z.sub,.tup gw (il.mono (s2.trans z.sub)),z⟩
theorem axa{J:It}{l:List D}{F:Hp}(Z:ItD K J l F){g:TG}{tb:TS}{D':Ends}{σ:L2.St}{H:Hp}(Pv:Nat->L2.St->Hp->Prop)(h0:Pv 0 σ H)(hl:∀i σ H,i<=l.length->Pv i σ H->Same F H)
  (hs:∀i d x σ H H',l[i]? = some d->Pv i σ H->Alt K F d x H H'->g x σ H' fun σ2 H2=>tb { D' with nx:=Pv (i+1),ct:=Pv (i+1),bk:=D'.nx } σ2 H2) (hd:∀σ H,Pv l.length σ H->D'.nx σ H) :
  ∃W:Nat->Nat->L2.St->Hp->Prop,(∃m,W 0 m σ H)/\∀i m σ H,W i m σ H ->
   (J.stop i H/\D'.nx σ H)∨(J.go i H/\∃N:L2.St->Hp->Prop,(∀σ' H',N σ' H'->∃m',m' < m/\W (i+1) m' σ' H')/\∀x H',J.yld i H x H'->g x σ H' fun σ2 H2=>tb { D' with nx:=N,ct:=N,bk:=D'.nx } σ2 H2):=by
 refine⟨fun i m σ H=>m=l.length - i/\i<=l.length/\Pv i σ H,⟨l.length,by simp,Nat.zero_le _,h0⟩,?_⟩
 rintro i m σ H ⟨rfl,hi,p⟩
 have q:=hl i σ H hi p
 by_cases hlt:i < l.length
 ·exact .inr ⟨Z.go i H q hlt,Pv (i+1),fun σ' H' p'=>⟨l.length - (i+1),by omega,rfl,hlt,p'⟩,fun x H' y=>hs i _ x σ H H' (List.getElem?_eq_getElem hlt) p (Z.yld i H x H' _ q y (List.getElem?_eq_getElem hlt))⟩
 ·have e:i=l.length:=by omega
  subst e;exact .inl ⟨Z.stop H q,hd σ H p⟩
theorem atw{J:It}{l:List D}{F:Hp}(Z:ItD K J l F){d:Addr}{g:TG}{ti:TT}{te:TE}{Q:VK}{σ0:L2.St}{H1:Hp}(Pv:Nat->List V->L2.St->Hp->Prop)(h0:Pv 0 [] σ0 (upd H1 d (.lst [])))
  (hl:∀i ys σ H,i<=l.length->Pv i ys σ H->Same F H/\H d=some (.lst ys))
  (hs:∀i e x ys σ H H' (M:List V->L2.St->Hp->Prop),l[i]? = some e->Pv i ys σ H->Alt K F e x H H'->(∀ys' σ' H',Pv (i+1) ys' σ' H'->M ys' σ' H') ->
   g x σ H' fun σ4 H4=>ti σ4 H4 fun b H5=>if b=true then te σ4 H5 fun y H6=>H6 d=some (.lst ys)/\ys.length < sizeLine/\M (ys++[y]) σ4 (upd H6 d (.lst (ys++[y]))) else M ys σ4 H5)
  (hd:∀ys σ H,Pv l.length ys σ H->Q (.ref d) H):a0x J g ti te Q d σ0 H1:=by
 refine⟨fun i m ys σ H=>m=l.length - i/\i<=l.length/\Pv i ys σ H,⟨l.length,by simp,Nat.zero_le _,h0⟩,?_⟩
 rintro i m ys σ H ⟨rfl,hi,p⟩
 obtain⟨q,e⟩:=hl i ys σ H hi p;refine⟨e,?_⟩
 by_cases hlt:i < l.length
 ·exact .inr ⟨Z.go i H q hlt,fun x H' y=>hs i _ x ys σ H H' (fun ys' σ' H'=>∃m',m' < l.length - i/\(m'=l.length - (i+1)/\i+1<=l.length/\Pv (i+1) ys' σ' H')) (List.getElem?_eq_getElem hlt) p (Z.yld i H x H' _ q y (List.getElem?_eq_getElem hlt)) fun ys' σ' H' p'=>⟨l.length - (i+1),by omega,rfl,hlt,p'⟩⟩
 ·have e:i=l.length:=by omega
  subst e;exact .inl ⟨Z.stop H q,hd ys σ H p⟩
def TIt(K:Fg9)(m:M (List D)):TI:=fun σ H R=>∃tg F ρ l ρ',Good K tg F H ρ σ/\m ρ=some (.ok l,ρ')/\∀J H' F',Good K tg F' H' ρ' σ->Ext (Own ρ σ) (Own ρ' σ) F H F' H'->ItD K J l F'->R J H'
structure IT (K:Fg9) (X:Cx) (tgt iter:Expr) (m:M (List D)):Prop where
 go:X.K=K->PI X tgt iter (TIt K m)
instance {K:Fg9} {X:Cx} {tgt iter:Expr} {m:M (List D)}:CoeFun (IT K X tgt iter m) fun _=>X.K=K->PI X tgt iter (TIt K m):=⟨IT.go⟩
def zc(m:M D):M (List D):=m.bind fun d=>lift (itemsD d)
theorem aas{m:M D}(h:EV K X iter m):IT K X tgt iter (zc m):=IT.mk fun hk=>by
 intro qv s σ H R I ⟨tg,F,ρ,l,ρ',G,em,q⟩;obtain⟨d,ρ1,e1,em⟩:=bj em;obtain⟨e2,rfl⟩:=ir em;have h:=h hk;subst hk;cases d with
 | tup k =>
  cases e2;refine ayw h qv s σ H R I ⟨tg,F,ρ,_,_,G,e1,fun v H' F' G' x r =>?_⟩
  cases r with
  | @tup a vs _ e hl=>exact⟨a,rfl,⟨vs,SqT.of (G'.sub _ _ e)⟩,q _ H' F' G' x (.of hl (atd.imp fun H2 g=>SqT.of (g _ _ e)))⟩
 | lst k =>
  cases e2;refine apk h qv s σ H R I ⟨tg,F,ρ,_,_,G,e1,fun v H' F' G' x r =>?_⟩
  cases r with
  | @lst a vs _ e hl=>exact⟨a,rfl,⟨vs,SqL.of (G'.sub _ _ e)⟩,q _ H' F' G' x (.of hl (am8.imp fun H2 g=>SqL.of (g _ _ e)))⟩
 | kst k =>
  cases e2;refine apk h qv s σ H R I ⟨tg,F,ρ,_,_,G,e1,fun v H' F' G' x r =>?_⟩
  cases r with
  | @kst a vs _ e hl=>exact⟨a,rfl,⟨vs,L2.Same.seq G'.sub e⟩,q _ H' F' G' x (.of hl (am8.imp fun H2 g=>L2.Same.seq g e))⟩
 | _=>cases e2
def qw(lo:Int)(n:Nat):List D:=(List.range n).map fun i=>D.int (lo+(i:Nat))
theorem ar7{F:Hp}(lo:Int)(n:Nat):IsL K F (qw lo n) (ups lo n):=by
 have e1:qw lo n=((List.range n).map fun i=>lo+((i:Nat):Int)).map D.int:=by unfold qw;rw[List.map_map];rfl
 have e2:ups lo n=((List.range n).map fun i=>lo+((i:Nat):Int)).map V.int:=by unfold ups;rw[List.map_map];rfl
 rw[e1,e2];exact adv _
theorem a0w{j:Int}(h:j.natAbs < 4611686018427387904) : -2 ^ 62<=j/\j < 2 ^ 62:=by
 have e:(2:Int) ^ 62=4611686018427387904:=by decide
 rw[e];omega
def aak:List D->Option (List D)
 | [.int j]=>if j.natAbs < 4611686018427387904 then some (qw 0 j.toNat) else none
 | _=>none
def mGet{α β:Type}(g:α->Option β)(m:M α):M β:=m.bind fun ds=>lift (g ds)
theorem adt{m:M (List D)}(hg:Gl X "range")(hm:X.mg "range" = none)(h:ED K X [a] m)(hs:starEach [a] X.env=[(false,eval a X.env)]:=by rfl):IT K X tgt (.Call (.Name "range" p) [a] [] pos) (mGet aak m):=IT.mk fun hk=>by
 intro qv s σ H R I ⟨tg,F,ρ,l,ρ',G,em,q⟩;obtain⟨ds,ρ1,e1,em⟩:=bj em;obtain⟨e2,rfl⟩:=ir em;refine apj hg hm (h hk) hs qv s σ H R I ⟨tg,F,ρ,ds,_,G,e1,fun vs H' F' G' x r =>?_⟩
 unfold aak at e2;split at e2
 ·split at e2
  ·rename_i j hc;cases e2;cases r with
   | cons h t =>
    cases t;cases h;exact⟨_,rfl,(a0w hc).1,(a0w hc).2,q _ H' F' G' x (.of (ar7 0 _) (ate.imp fun _ _=>trivial))⟩
  ·cases e2
 ·cases e2
noncomputable def forD(b:D->Ro->Option Ro)(g:Sd):List D->Sd
 | [],ρ=>some (.nx,ρ)
 | d::ds,ρ=>match b d ρ with
  | none=>none
  | some ρ1=>match g ρ1 with
   | some (.nx,ρ2)=>forD b g ds ρ2
   | some (.cont,ρ2)=>forD b g ds ρ2
   | some (.brk,ρ2)=>some (.nx,ρ2)
   | some (.ret r,ρ2)=>some (.ret r,ρ2)
   | some (.exc x,ρ2)=>some (.exc x,ρ2)
   | none=>none
def dFor(m:M (List D))(b:D->Ro->Option Ro)(g:Sd):Sd:=dM m (forD b g)
theorem ab9{m:M (List D)}{b:D->Ro->Option Ro}{g:Sd}(hp:PassesOwn (model X.prog X.w) X.A X.env X.xe)(hc:X.calm=true)(hi:IT K X tgt iter m)(hg:GV K X tgt b)(hb:SVs K X ss g)
  (hs:∀x,foldedSetIterable iter X.env x=pure x:=by intro _;rfl):SV K X (.For tgt iter ss [] pos) (dFor m b g):=SV.mk fun hk=>PS.imp (ayu hp hc (hi hk) (hg hk) (hb hk) hs) fun E σ H ⟨tg,F,ρ,fl,ρ',G,em,q⟩=>ab7 em q fun l ρ1 e1 em=>by
 refine⟨tg,F,ρ,l,ρ1,G,e1,fun J H1 F1 G1 x1 Z =>?_⟩
 refine axa Z (fun i σ2 H2=>∃F2 ρ2,Good K tg F2 H2 ρ2 σ2/\Ext (Own ρ σ) (Own ρ2 σ2) F H F2 H2/\Same F1 F2/\forD b g (l.drop i) ρ2=some (fl,ρ')) ⟨F1,ρ1,G1,x1,Same.refl _,em⟩ (fun i σ2 H2 _ ⟨F2,ρ2,G2,_,s2,_⟩=>s2.trans G2.sub) ?_ ?_
 ·rintro i d x σ2 H2' H2 hd ⟨F2',ρ2,G2',x2',s2',em2⟩ al
  obtain⟨F2,G2,x2,s2,id,_⟩:=anv G2' x2' s2' al;have hlt:i < l.length:=(List.getElem?_eq_some_iff.mp hd).1;have ed:l[i]=d:=(List.getElem?_eq_some_iff.mp hd).2;rw[List.drop_eq_getElem_cons hlt,ed] at em2;unfold forD at em2;split at em2
  ·cases em2
  ·rename_i ρ3 e3;refine⟨tg,F2,ρ2,d,ρ3,G2,id,e3,fun σ3 H3 F3 G3 x3 =>?_⟩
   have again:∀{ρ4:Ro},forD b g (l.drop (i+1)) ρ4=some (fl,ρ')->∀σ' H' F',Good K tg F' H' ρ4 σ'->Ext (Own ρ3 σ3) (Own ρ4 σ') F3 H3 F' H' ->
     ∃F2 ρ2,Good K tg F2 H' ρ2 σ'/\Ext (Own ρ σ) (Own ρ2 σ') F H F2 H'/\Same F1 F2/\forD b g (l.drop (i+1)) ρ2=some (fl,ρ') :=
    fun{ρ4} e4 σ' H' F' G' x'=>⟨F',ρ4,G',(x2.trans x3).trans x',(s2.trans x3.sub).trans x'.sub,e4⟩
   split at em2
   ·rename_i ρ4 e4;exact⟨tg,F3,ρ3,.nx,ρ4,G3,e4,again em2⟩
   ·rename_i ρ4 e4;exact⟨tg,F3,ρ3,.cont,ρ4,G3,e4,again em2⟩
   ·rename_i ρ4 e4;cases em2;exact⟨tg,F3,ρ3,.brk,_,G3,e4,fun σ' H' F' G' x'=>q σ' H' F' G' ((x2.trans x3).trans x')⟩
   ·rename_i r ρ4 e4;cases em2;exact⟨tg,F3,ρ3,.ret r,_,G3,e4,fun v σ' H' F' G' x' rr=>q v σ' H' F' G' ((x2.trans x3).trans x') (qu (x2.trans x3) rr)⟩
   ·cases em2;exact(show False from q).elim
   ·cases em2
 ·rintro σ2 H2 ⟨F2,ρ2,G2,x2,s2,em2⟩
  rw[List.drop_eq_nil_of_le (Nat.le_refl _)] at em2;cases em2;exact q σ2 H2 F2 G2 x2
noncomputable def whileD(c:M Bool)(g:Sd):Nat->Sd
 | 0,_=>none
 | n+1,ρ=>match c ρ with
  | some (.ok true,ρ1)=>match g ρ1 with
   | some (.nx,ρ2)=>whileD c g n ρ2
   | some (.cont,ρ2)=>whileD c g n ρ2
   | some (.brk,ρ2)=>some (.nx,ρ2)
   | some (.ret r,ρ2)=>some (.ret r,ρ2)
   | some (.exc x,ρ2)=>some (.exc x,ρ2)
   | none=>none
  | some (.ok false,ρ1)=>some (.nx,ρ1)
  | some (.exc x,ρ1)=>some (.exc x,ρ1)
  | none=>none
theorem ac6{m:M Bool}{g:Sd}(n:Nat)(hp:PassesOwn (model X.prog X.w) X.A X.env X.xe)(hc:ET K X c m)(hb:SVs K X ss g):SV K X (.While c ss [] pos) (whileD m g n):=SV.mk fun hk=>PS.imp (amr hp (hc hk) (hb hk)) fun E σ H z9=>by
 obtain⟨tg,F,ρ,fl,ρ',G,em,q⟩:=z9;refine⟨fun k σ2 H2=>∃F2 ρ2,Good K tg F2 H2 ρ2 σ2/\Ext (Own ρ σ) (Own ρ2 σ2) F H F2 H2/\whileD m g k ρ2=some (fl,ρ'),⟨n,F,ρ,G,Ext.refl _ _ _,em⟩,?_⟩
 rintro k σ2 H2 ⟨F2,ρ2,G2,x2,em2⟩
 cases k with
 | zero=>cases em2
 | succ k =>
  unfold whileD at em2;split at em2
  ·rename_i ρ3 e3;refine⟨tg,F2,ρ2,true,ρ3,G2,e3,fun H3 F3 G3 x3=>iteT ?_⟩
   refine⟨fun σ' H'=>∃F2 ρ2,Good K tg F2 H' ρ2 σ'/\Ext (Own ρ σ) (Own ρ2 σ') F H F2 H'/\whileD m g k ρ2=some (fl,ρ'),fun σ' H' h=>⟨k,Nat.lt_succ_self k,h⟩,?_⟩
   split at em2
   ·rename_i ρ4 e4;exact⟨tg,F3,ρ3,.nx,ρ4,G3,e4,fun σ' H' F' G' x'=>⟨F',ρ4,G',(x2.trans x3).trans x',em2⟩⟩
   ·rename_i ρ4 e4;exact⟨tg,F3,ρ3,.cont,ρ4,G3,e4,fun σ' H' F' G' x'=>⟨F',ρ4,G',(x2.trans x3).trans x',em2⟩⟩
   ·rename_i ρ4 e4;cases em2;exact⟨tg,F3,ρ3,.brk,_,G3,e4,fun σ' H' F' G' x'=>q σ' H' F' G' ((x2.trans x3).trans x')⟩
   ·rename_i r ρ4 e4;cases em2;exact⟨tg,F3,ρ3,.ret r,_,G3,e4,fun v σ' H' F' G' x' rr=>q v σ' H' F' G' ((x2.trans x3).trans x') (qu (x2.trans x3) rr)⟩
   ·cases em2;exact(show False from q).elim
   ·cases em2
  ·rename_i ρ3 e3;cases em2;exact⟨tg,F2,ρ2,false,_,G2,e3,fun H3 F3 G3 x3=>iteF (q σ2 H3 F3 G3 (x2.trans x3))⟩
  ·cases em2;exact(show False from q).elim
  ·cases em2
end
def aj8(ρ:Ro)(i:Nat)(o:Option Nat)(d:Option D):Sl:=match o with
 | some j=>match ρ[j]? with
  | some (.val d)=>.val d
  | some (.own _ l)=>.own (some i) l
  | _=>.emp
 | none=>match d with
  | some d=>.val d
  | none=>.emp
def lend(ρ:Ro)(js:List (Option Nat))(ds:List (Option D)):Ro:=(List.zip js ds).mapIdx fun i p=>aj8 ρ i p.1 p.2
def okJs(ρ:Ro):List (Option Nat)->Bool
 | []=>true
 | none::r=>okJs ρ r
 | some j::r=>(match ρ[j]? with
  | some (.own _ _) => !r.contains (some j)
  | _=>true)&&okJs ρ r
theorem aio{ρ:Ro}:∀{js:List (Option Nat)} {i i' j:Nat} {t:Option Nat} {l:List D},okJs ρ js=true->js[i]? = some (some j)->js[i']? = some (some j)->ρ[j]? = some (.own t l)->i=i'
 | [],_,_,_,_,_,_,h,_,_=>by simp at h
 | o::r,0,0,_,_,_,_,_,_,_=>rfl
 | o::r,0,i'+1,j,t,l,hk,h,h',e=>by
  simp at h h';subst h;unfold okJs at hk;rw[e,Bool.and_eq_true] at hk;have:=List.mem_of_getElem? h';simp[this] at hk
 | o::r,i+1,0,j,t,l,hk,h,h',e=>by
  simp at h h';subst h';unfold okJs at hk;rw[e,Bool.and_eq_true] at hk;have:=List.mem_of_getElem? h;simp[this] at hk
 | none::r,i+1,i'+1,j,t,l,hk,h,h',e=>by
  rw[aio (js:=r) (i:=i) (i':=i') (j:=j) (by unfold okJs at hk;exact hk) (by simpa using h) (by simpa using h') e]
 | some k::r,i+1,i'+1,j,t,l,hk,h,h',e=>by
  unfold okJs at hk;rw[Bool.and_eq_true] at hk;rw[aio (js:=r) (i:=i) (i':=i') (j:=j) hk.2 (by simpa using h) (by simpa using h') e]
def putS(js:List (Option Nat))(ps:Ro)(j:Nat)(s:Sl):Sl:=match js.findIdx? (fun o=>o==some j) with
 | none=>s
 | some i=>match s with
  | .own t _=>match ps[i]? with
   | some (.own (some i') l')=>if i'=i then .own t l' else .emp
   | _=>.emp
  | s=>s
def putB(ρ:Ro)(js:List (Option Nat))(ps:Ro):Ro:=ρ.mapIdx fun j s=>putS js ps j s
def tgOf(τ:L2.St)(i:Nat):Addr:=match τ[i]? with
 | some (some (.ref a))=>a
 | _=>0
section
variable{K:Fg9}{tg:Nat->Addr}{F H F' H':Hp}{ρ ps:Ro}{σ τ:L2.St}{js:List (Option Nat)}{ds:List (Option D)}{O':Addr->Prop}
theorem am3{i:Nat}{s:Sl}(h:(lend ρ js ds:List Sl)[i]? = some s):∃o d,js[i]? = some o/\ds[i]? = some d/\s=aj8 ρ i o d:=by
 unfold lend at h;rw[List.getElem?_mapIdx] at h;cases e:(List.zip js ds)[i]? with
 | none=>rw[e] at h;cases h
 | some p =>
  rw[e] at h;cases h;rw[List.getElem?_zip_eq_some] at e;exact⟨p.1,p.2,e.1,e.2,rfl⟩
theorem as8{i:Nat}{t:Option Nat}{l:List D}(h:(lend ρ js ds:List Sl)[i]? = some (.own t l)):∃j t',js[i]? = some (some j)/\ρ[j]? = some (.own t' l)/\t=some i:=by
 obtain⟨o,d,e1,e2,e3⟩:=am3 h;unfold aj8 at e3;cases o with
 | none=>cases d <;> cases e3
 | some j =>
  simp only at e3;cases e:ρ[j]? with
  | none=>rw[e] at e3;cases e3
  | some s =>
   rw[e] at e3;cases s with
   | emp=>cases e3
   | val _=>cases e3
   | box _ _=>cases e3
   | own t' l'=>cases e3;exact⟨j,t',e1,e,rfl⟩
structure Lent (K:Fg9) (F:Hp) (σ τ:L2.St) (js:List (Option Nat)) (ds:List (Option D)):Prop where
 l1:τ.length=js.length
 l2:ds.length=js.length
 h1:∀(i j:Nat) (o:Option V),js[i]? = some (some j)->σ[j]? = some o->τ[i]? = some o
 h2:∀(i:Nat) (d:D),js[i]? = some none->ds[i]? = some (some d)->∃v,τ[i]? = some (some v)/\Is K F d v
theorem Good.σ_at(G:Good K tg F H ρ σ){j:Nat}{s:Sl}(e:(ρ:List Sl)[j]? = some s):∃o,σ[j]? = some o:=by
 obtain⟨o,h,_⟩:=G.at e;exact⟨o,h⟩
theorem abx(G:Good K tg F H ρ σ)(L:Lent K F σ τ js ds){i:Nat}{a:Addr}(h:Owns (lend ρ js ds) τ i a):∃j,js[i]? = some (some j)/\Owns ρ σ j a:=by
 obtain⟨⟨t,l,e⟩,q⟩:=h;obtain⟨j,t',e1,e2,_⟩:=as8 e;obtain⟨o,ho⟩:=G.σ_at e2;have:=L.h1 i j o e1 ho;rw[q] at this;cases this;exact⟨j,e1,⟨t',l,e2⟩,ho⟩
theorem aa8(G:Good K tg F H ρ σ)(hk:okJs ρ js=true)(L:Lent K F σ τ js ds):Good K (tgOf τ) F H (lend ρ js ds) τ where
 sub:=G.sub
 len:=by
  unfold lend;rw[List.length_mapIdx,List.length_zip,L.l2,L.l1];omega
 sl:=fun i s o e q=>by
  obtain⟨oj,d,e1,e2,rfl⟩:=am3 e;unfold aj8;cases oj with
  | none =>
   cases d with
   | none=>trivial
   | some d =>
    obtain⟨v,h1,h2⟩:=L.h2 i d e1 e2;rw[q] at h1;cases h1;exact⟨v,rfl,h2⟩
  | some j =>
   simp only;cases e3:ρ[j]? with
   | none=>trivial
   | some s =>
    obtain⟨o',ho,w⟩:=G.at e3;have:=L.h1 i j o' e1 ho;rw[q] at this;cases this;cases s with
    | emp=>trivial
    | val d=>exact w
    | box _ _=>trivial
    | own t l =>
     obtain⟨a,vs,rfl,hf,hh,hl,_⟩:=w;refine⟨a,vs,rfl,hf,hh,hl,fun k e =>?_⟩
     cases e;unfold tgOf;rw[q]
 inj:=fun i i' a w w'=>by
  obtain⟨j,e,v⟩:=abx G L w;obtain⟨j',e',v'⟩:=abx G L w';have:=G.inj j j' a v v';subst this;obtain⟨⟨t,l,z⟩,_⟩:=v;exact aio hk e e' z
structure Fin (K:Fg9) (F' H':Hp) (τ:L2.St) (ps:Ro) (O':Addr->Prop):Prop where
 at':∀(i:Nat) (l:List D),(ps:List Sl)[i]? = some (.own (some i) l)->O' (tgOf τ i)/\F' (tgOf τ i)=none/\∃vs,H' (tgOf τ i)=some (.lst vs)/\IsL K F' l vs
theorem aia{j:Nat}{s:Sl}(h:(putB ρ js ps:List Sl)[j]? = some s):∃s0:Sl,(ρ:List Sl)[j]? = some s0/\((∃t l,s0=Sl.own t l/\∃i:Nat,js[i]? = some (some j)/\((∃l',(ps:List Sl)[i]? = some (Sl.own (some i) l')/\s=Sl.own t l')∨s=Sl.emp)) ∨
  (s=s0/\∀t l,s0=Sl.own t l->∀i:Nat,js[i]? ≠ some (some j))):=by
 unfold putB at h;rw[List.getElem?_mapIdx] at h;cases e:(ρ:List Sl)[j]? with
 | none=>rw[e] at h;cases h
 | some s0 =>
  rw[e] at h;refine⟨s0,rfl,?_⟩;have h:putS js ps j s0=s:=Option.some.inj h;unfold putS at h;cases ei:js.findIdx? (fun o=>o==some j) with
  | none =>
   rw[ei] at h;have h:s0=s:=h;refine .inr ⟨h.symm,fun _ _ _ i z =>?_⟩
   rw[List.findIdx?_eq_none_iff] at ei;have:=ei _ (List.mem_of_getElem? z);simp at this
  | some i =>
   rw[ei] at h;cases s0 with
   | emp=>exact .inr ⟨(show Sl.emp=s from h).symm,fun t l z=>by cases z⟩
   | val d=>exact .inr ⟨(show Sl.val d=s from h).symm,fun t l z=>by cases z⟩
   | box c fs=>exact .inr ⟨(show Sl.box c fs=s from h).symm,fun t l z=>by cases z⟩
   | own t l =>
    refine .inl ⟨t,l,rfl,i,?_,?_⟩
    ·obtain⟨hi,hb,_⟩:=List.findIdx?_eq_some_iff_getElem.mp ei;rw[List.getElem?_eq_getElem hi];exact congrArg some (eq_of_beq hb)
    ·have h:(match (ps:List Sl)[i]? with
      | some (.own (some i') l')=>if i'=i then Sl.own t l' else .emp
      | _=>.emp)=s:=h
     cases ep:(ps:List Sl)[i]? with
     | none=>rw[ep] at h;exact .inr h.symm
     | some sp =>
      rw[ep] at h;cases sp with
      | emp=>exact .inr h.symm
      | val _=>exact .inr h.symm
      | box _ _=>exact .inr h.symm
      | own t' l' =>
       cases t' with
       | none=>exact .inr h.symm
       | some i' =>
        have h2:(if i'=i then Sl.own t l' else .emp)=s:=h
        by_cases z:i'=i
        ·subst z;rw[if_pos rfl] at h2;exact .inl ⟨l',rfl,h2.symm⟩
        ·rw[if_neg z] at h2;exact .inr h2.symm
theorem ad4{j:Nat}{a:Addr}(h:Owns (putB ρ js ps) σ j a):Owns ρ σ j a:=by
 obtain⟨⟨t,l,e⟩,q⟩:=h;obtain⟨s0,e0,h | ⟨rfl,_⟩⟩:=aia e
 ·obtain⟨t',l',rfl,i,_,⟨l2,_,z⟩ | z⟩:=h
  ·exact⟨⟨t',l',e0⟩,q⟩
  ·cases z
 ·exact⟨⟨t,l,e0⟩,q⟩
theorem ad5(G:Good K tg F H ρ σ)(L:Lent K F σ τ js ds)(x:Ext (Own (lend ρ js ds) τ) O' F H F' H')(s':Same F' H')(fin:Fin K F' H' τ ps O'):Good K tg F' H' (putB ρ js ps) σ where
 sub:=s'
 len:=by
  unfold putB;rw[List.length_mapIdx];exact G.len
 sl:=fun j s o e q=>by
  obtain⟨s0,e0,h | ⟨rfl,hn⟩⟩:=aia e
  ·obtain⟨t,l,rfl,i,ei,⟨l',ep,rfl⟩ | rfl⟩:=h
   ·obtain⟨a,vs,rfl,hf,hh,hl,ht⟩:=G.sl j _ _ e0 q;obtain⟨_,hf',ws,hh',hl'⟩:=fin.at' i l' ep;have:=L.h1 i j _ ei q;have et:tgOf τ i=a:=by
     unfold tgOf;rw[this]
    rw[et] at hf' hh';exact⟨a,ws,rfl,hf',hh',hl',ht⟩
   ·trivial
  ·have w:=G.sl j _ _ e0 q;cases s with
   | emp=>trivial
   | val d =>
    obtain⟨v,h1,h2⟩:=w;exact⟨v,h1,h2.mono x.sub⟩
   | box c fs =>
    obtain⟨a,C,dx,fvs,e1,e2,e3,e4,e7,e5,e6⟩:=w;have no:¬Own (lend ρ js ds) τ a:=fun⟨i,z⟩=>by
     obtain⟨j',_,v⟩:=abx G L z;obtain⟨_,vs,hv⟩:=G.ownAt ⟨j',v⟩;rw[e3] at hv;cases hv
    have hf:F' a=none:=by
     cases z:F' a with
     | none=>rfl
     | some o =>
      rcases x.new a o z with z | z | z
      ·rw[e2] at z;cases z
      ·rw[e3] at z;cases z
      ·exact absurd z no
    exact⟨a,C,dx,fvs,e1,hf,x.keep a _ e3 no,e4,e7,e5,fun f d h=>(e6 f d h).imp fun v h=>⟨h.1,h.2.mono x.sub⟩⟩
   | own t l =>
    obtain⟨a,vs,rfl,hf,hh,hl,ht⟩:=w;have no:¬Own (lend ρ js ds) τ a:=fun⟨i,z⟩=>by
     obtain⟨j',e1,v⟩:=abx G L z;have:=G.inj j' j a v ⟨⟨t,l,e0⟩,q⟩;subst this;exact hn t l rfl i e1
    refine⟨a,vs,rfl,?_,x.keep a _ hh no,hl.mono x.sub,ht⟩;cases z:F' a with
    | none=>rfl
    | some o =>
     rcases x.new a o z with z | z | z
     ·rw[hf] at z;cases z
     ·rw[hh] at z;cases z
     ·exact absurd z no
 inj:=fun i j a w w'=>G.inj i j a (ad4 w) (ad4 w')
theorem aaj(G:Good K tg F H ρ σ)(L:Lent K F σ τ js ds){a:Addr}(h:Own (lend ρ js ds) τ a):Own ρ σ a:=by
 obtain⟨i,h⟩:=h;obtain⟨j,_,h⟩:=abx G L h;exact⟨j,h⟩
theorem afg(G:Good K tg F H ρ σ)(L:Lent K F σ τ js ds)(x:Ext (Own (lend ρ js ds) τ) O' F H F' H'):Ext (Own ρ σ) (Own (putB ρ js ps) σ) F H F' H' where
 sub:=x.sub
 new:=fun a o e=>by
  rcases x.new a o e with z | z | z
  ·exact .inl z
  ·exact .inr (.inl z)
  ·exact .inr (.inr (aaj G L z))
 keep:=fun a o e n=>x.keep a o e fun z=>n (aaj G L z)
 own:=fun a ⟨j,w⟩=>.inl ⟨j,ad4 w⟩
 there:=x.there
theorem arh(G:Good K tg F H ρ σ)(L:Lent K F σ τ js ds)(fin:Fin K F' H' τ ps O'){a:Addr}(ha:H a=none∨Own (lend ρ js ds) τ a)(hn:¬O' a):¬Own (putB ρ js ps) σ a:=fun⟨j,w⟩=>by
 have v:=ad4 w;obtain⟨⟨t,l2,e⟩,q⟩:=w;obtain⟨s0,e0,z | ⟨rfl,hno⟩⟩:=aia e
 ·obtain⟨t',l',rfl,i,ei,⟨l3,ep,z⟩ | z⟩:=z
  ·have et:tgOf τ i=a:=by
    unfold tgOf;rw[L.h1 i j _ ei q]
   have:=(fin.at' i l3 ep).1;rw[et] at this;exact hn this
  ·cases z
 ·rcases ha with ha | ⟨i,z⟩
  ·obtain⟨a',vs',ea,_,e2,_⟩:=G.sl j _ _ e0 q;cases ea;rw[ha] at e2;cases e2
  ·obtain⟨j',e1,v'⟩:=abx G L z;have:=G.inj j' j a v' v;subst this;exact hno t l2 rfl i e1
theorem anq(G:Good K tg F H ρ σ)(L:Lent K F σ τ js ds)(fin:Fin K F' H' τ ps O'){r:Rv}{v:V}(h:relR K r v H (Own (lend ρ js ds) τ) F' H' O'):relR K r v H (Own ρ σ) F' H' (Own (putB ρ js ps) σ):=by
 cases r with
 | v d=>exact h
 | fr l =>
  obtain⟨a,vs,rfl,ha,hf,hh,hl,hn⟩:=h;exact⟨a,vs,rfl,ha.imp id (aaj G L),hf,hh,hl,arh G L fin ha hn⟩
 | tf d l =>
  obtain⟨t,u,a,vs,rfl,ht,hd,ha,hf,hh,hl,hn⟩:=h;exact⟨t,u,a,vs,rfl,ht,hd,ha.imp id (aaj G L),hf,hh,hl,arh G L fin ha hn⟩
end
abbrev Fd:=Ro->Option (Out Rv×Ro)
noncomputable def fnD(nl np:Nat)(g:Sd):Fd:=fun as=>match g (as++List.replicate (nl - np) .emp) with
 | some (.ret r,ρ)=>some (.ok r,ρ.take np)
 | some (.nx,ρ)=>some (.ok (.v .non),ρ.take np)
 | some (.exc x,ρ)=>some (.exc x,ρ.take np)
 | _=>none
def spOf(K:Fg9)(n:Nat)(f:Fd):Sp:=fun vs H Q _=>vs.length=n/\∃F as r ps,Good K (tgOf (vs.map some)) F H as (vs.map some)/\f as=some (.ok r,ps) /\
 ∀v H' F' O',Same F' H'->Ext (Own as (vs.map some)) O' F H F' H'->Fin K F' H' (vs.map some) ps O'->relR K r v H (Own as (vs.map some)) F' H' O'->Q v H'
section
variable{K:Fg9}
theorem awb{as:Ro}{τ:L2.St}{n:Nat}{a:Addr}(hl:as.length=τ.length)(h:Own (as++List.replicate n .emp) (τ++List.replicate n none) a):Own as τ a:=by
 obtain⟨i,⟨t,l,e⟩,q⟩:=h
 by_cases hi:i < as.length
 ·rw[List.getElem?_append_left hi] at e;rw[List.getElem?_append_left (by omega)] at q
  exact⟨i,⟨t,l,e⟩,q⟩
 ·rw[List.getElem?_append_right (by omega),List.getElem?_replicate] at e
  split at e <;> cases e
theorem asn{as:Ro}{τ:L2.St}{n:Nat}{a:Addr}(hl:as.length=τ.length)(h:Own as τ a):Own (as++List.replicate n .emp) (τ++List.replicate n none) a:=by
 obtain⟨i,⟨t,l,e⟩,q⟩:=h;have hi:=(List.getElem?_eq_some_iff.mp e).1;exact⟨i,⟨t,l,by rw[List.getElem?_append_left hi];exact e⟩,by rw[List.getElem?_append_left (by omega)];exact q⟩
theorem yx{as:Ro}{τ:L2.St}{n:Nat}(hl:as.length=τ.length):Own (as++List.replicate n .emp) (τ++List.replicate n none)=Own as τ:=funext fun a=>propext ⟨awb hl,asn hl⟩
theorem Good.app{tg:Nat->Addr}{F H:Hp}{as:Ro}{τ:L2.St}(G:Good K tg F H as τ)(n:Nat):Good K tg F H (as++List.replicate n .emp) (τ++List.replicate n none) where
 sub:=G.sub
 len:=by rw[List.length_append,List.length_append,G.len,List.length_replicate,List.length_replicate]
 sl:=fun i s o e q=>by
  have hl:=G.len
  by_cases hi:i < as.length
  ·rw[List.getElem?_append_left hi] at e;rw[List.getElem?_append_left (by omega)] at q
   exact G.sl i s o e q
  ·rw[List.getElem?_append_right (by omega),List.getElem?_replicate] at e
   split at e
   ·cases e;trivial
   ·cases e
 inj:=fun i j a w w'=>by
  have hl:=G.len;have f:∀k,Owns (as++List.replicate n .emp) (τ++List.replicate n none) k a->Owns as τ k a:=fun k ⟨⟨t,l,e⟩,q⟩=>by
   by_cases hi:k < as.length
   ·rw[List.getElem?_append_left hi] at e;rw[List.getElem?_append_left (by omega)] at q
    exact⟨⟨t,l,e⟩,q⟩
   ·rw[List.getElem?_append_right (by omega),List.getElem?_replicate] at e
    split at e <;> cases e
  exact G.inj i j a (f i w) (f j w')
theorem a3u{P:Program}{w:World}{mg:Str->Option Value}{base:Heap}{x qual:Str}{st:Stmt}{f:Addr}{fd:FuncData}{N ps:List Str}{k:Nat}{g:Sd}(F:Fun K x qual st f fd)(S:FnScope N ps (aq st))
  (body:∀(cdv:Value) (A:Around) (outer:List Env) (s:Shared) (H:Hp) (E:XK),Room k (A.deeper (envOfC qual (aq st) s.heap.objs.size f cdv))->SVs K (cxOf CX0 P w K mg base N qual (aq st) f cdv A outer s H E).nox (jh st) g) :
  FnOk P w K mg base CX0 (k+1) f fd ps (spOf K ps.length (fnD N.length ps.length g)):=by
 refine F.ok S (fun vs H Q E h=>h.1) (fun cdv A outer s H vs Q E hr h=>⟨_,body cdv A outer s H E hr rfl,?_⟩)
 obtain⟨hn,F,as,r,ps',G,em,q⟩:=h;have hl:as.length=(vs.map some).length:=G.len;have G1:=G.app (N.length - vs.length);have es:start N vs=vs.map some++List.replicate (N.length - vs.length) none:=rfl;rw[es];unfold fnD at em;rw[<-hn] at em;have fin:∀{ρ':Ro} {σ':L2.St} {F' H':Hp},Good K (tgOf (vs.map some)) F' H' ρ' σ'->Fin K F' H' (vs.map some) (ρ'.take vs.length) (Own ρ' σ'):=fun{ρ' σ' F' H'} G'=>⟨fun i l e=>by
  have hi:=(List.getElem?_eq_some_iff.mp e).1;rw[List.length_take] at hi;rw[List.getElem?_take_of_lt (by omega)] at e
  obtain⟨o,ho,a,ws,rfl,hf,hh,hl,ht⟩:=G'.at e;rw[ht i rfl];exact⟨⟨i,⟨_,_,e⟩,ho⟩,hf,ws,hh,hl⟩⟩
 split at em
 ·rename_i r' ρ' e;cases em;refine⟨_,F,_,.ret r,ρ',G1,e,fun v σ' H' F' G' x' rr =>?_⟩
  rw[yx hl] at x' rr;exact q v H' F' (Own ρ' σ') G'.sub x' (fin G') rr
 ·rename_i ρ' e;cases em;refine⟨_,F,_,.nx,ρ',G1,e,fun σ' H' F' G' x' =>?_⟩
  rw[yx hl] at x';exact q .non H' F' (Own ρ' σ') G'.sub x' (fin G') .non
 ·cases em
 ·cases em
end
section
variable{K:Fg9}{X:Cx}{e a b c tgt iter elt:Expr}{es:List Expr}{pos p p2:Pos}
inductive AR (K:Fg9) (F:Hp) (σ:L2.St):List (Option Nat)->List (Option D)->List V->Prop
 | nil:AR K F σ [] [] []
 | ex {d:D} {v:V} {js:List (Option Nat)} {ds:List (Option D)} {vs:List V} (h:Is K F d v) (t:AR K F σ js ds vs):AR K F σ (none::js) (some d::ds) (v::vs)
 | nm {j:Nat} {v:V} {js:List (Option Nat)} {ds:List (Option D)} {vs:List V} (h:σ[j]? = some (some v)) (t:AR K F σ js ds vs):AR K F σ (some j::js) (none::ds) (v::vs)
theorem AR.lent{F:Hp}{σ:L2.St}:∀{js:List (Option Nat)} {ds:List (Option D)} {vs:List V},AR K F σ js ds vs->Lent K F σ (vs.map some) js ds
 | _,_,_,.nil=>⟨rfl,rfl,fun i j o h=>by simp at h,fun i d h=>by simp at h⟩
 | _,_,_,.ex h t=>by
  have L:=t.lent;refine⟨by simp[by simpa using L.l1],by simp[L.l2],fun i j o h q =>?_,fun i d h q =>?_⟩
  ·cases i with
   | zero=>simp at h
   | succ i=>simpa using L.h1 i j o (by simpa using h) q
  ·cases i with
   | zero=>simp at q;subst q;exact⟨_,rfl,‹_›⟩
   | succ i=>simpa using L.h2 i d (by simpa using h) (by simpa using q)
 | _,_,_,.nm h t=>by
  have L:=t.lent;refine⟨by simp[by simpa using L.l1],by simp[L.l2],fun i j o h' q =>?_,fun i d h' q =>?_⟩
  ·cases i with
   | zero =>
    simp at h';subst h';rw[h] at q;cases q;rfl
   | succ i=>simpa using L.h1 i j o (by simpa using h') q
  ·cases i with
   | zero=>simp at h'
   | succ i=>simpa using L.h2 i d (by simpa using h') (by simpa using q)
theorem AR.length{F:Hp}{σ:L2.St}{js:List (Option Nat)}{ds:List (Option D)}{vs:List V}(h:AR K F σ js ds vs):vs.length=js.length:=by
 have:=h.lent.l1
 simpa using this
def TAg(K:Fg9)(js:List (Option Nat))(m:M (List (Option D))):TA:=fun σ H Q=>∃tg F ρ ds ρ',Good K tg F H ρ σ/\m ρ=some (.ok ds,ρ')/\∀vs H' F',Good K tg F' H' ρ' σ->Ext (Own ρ σ) (Own ρ' σ) F H F' H'->AR K F' σ js ds vs->Q vs H'
structure EG (K:Fg9) (X:Cx) (es:List Expr) (js:List (Option Nat)) (m:M (List (Option D))):Prop where
 go:X.K=K->PA X es (TAg K js m)
instance {K:Fg9} {X:Cx} {es:List Expr} {js:List (Option Nat)} {m:M (List (Option D))}:CoeFun (EG K X es js m) fun _=>X.K=K->PA X es (TAg K js m):=⟨EG.go⟩
def gj:M (List (Option D)):=ret []
def bh(m:M D)(ms:M (List (Option D))):M (List (Option D)):=m.bind fun d=>ms.bind fun ds=>ret (some d::ds)
def du(j:Nat)(ms:M (List (Option D))):M (List (Option D)):=(di j).bind fun _=>ms.bind fun ds=>ret (none::ds)
theorem bu:EG K X [] [] gj:=EG.mk fun _=>PA.imp ahc fun σ H Q z9=>by
 obtain⟨tg,F,ρ,ds,ρ',G,em,q⟩:=z9;obtain⟨rfl,rfl⟩:=jr em;exact q [] H F G (Ext.refl _ _ _) .nil
theorem eg_v{m:M D}{js:List (Option Nat)}{ms:M (List (Option D))}(h:EV K X e m)(t:EG K X es js ms)(hs:starEach (e::es) X.env=(false,eval e X.env)::starEach es X.env:=by rfl):EG K X (e::es) (none::js) (bh m ms):=EG.mk fun hk=>PA.imp (wg (h hk) (t hk) hs) fun σ H Q z9=>by
 obtain⟨tg,F,ρ,ds,ρ',G,em,q⟩:=z9;obtain⟨d,ρ1,e1,em⟩:=bj em;obtain⟨r,ρ2,e2,em⟩:=bj em;obtain⟨rfl,rfl⟩:=jr em;exact⟨tg,F,ρ,d,ρ1,G,e1,fun v H1 F1 G1 x1 r1=>⟨tg,F1,ρ1,r,_,G1,e2,fun vs H2 F2 G2 x2 r2=>q _ H2 F2 G2 (x1.trans x2) (.ex (r1.mono x2.sub) r2)⟩⟩
theorem eg_n{j:Nat}{js:List (Option Nat)}{ms:M (List (Option D))}(h:PE X e (tVar j))(t:EG K X es js ms)(hs:starEach (e::es) X.env=(false,eval e X.env)::starEach es X.env:=by rfl):EG K X (e::es) (some j::js) (du j ms):=EG.mk fun hk=>PA.imp (wg h (t hk) hs) fun σ H Q z9=>by
 obtain⟨tg,F,ρ,ds,ρ',G,em,q⟩:=z9;obtain⟨d0,ρ0,e0,em⟩:=bj em;obtain⟨r,ρ2,e2,em⟩:=bj em;obtain⟨rfl,rfl⟩:=jr em;obtain⟨rfl,v,hv,_⟩:=qm G e0;exact⟨v,hv,tg,F,ρ0,r,_,G,e2,fun vs H2 F2 G2 x2 r2=>q _ H2 F2 G2 x2 (.nm hv r2)⟩
noncomputable def mFn(f:Fd)(js:List (Option Nat))(ms:M (List (Option D))):M Rv:=ms.bind fun ds ρ=>if okJs ρ js=true then match f (lend ρ js ds) with
  | some (.ok r,ps)=>some (.ok r,putB ρ js ps)
  | some (.exc x,ps)=>some (.exc x,putB ρ js ps)
  | none=>none
 else none
theorem auq{f:Fd}{js:List (Option Nat)}{ms:M (List (Option D))}{ρ ρ':Ro}{r:Rv}(h:mFn f js ms ρ=some (.ok r,ρ')):∃ds ρ1 ps,ms ρ=some (.ok ds,ρ1)/\okJs ρ1 js=true/\f (lend ρ1 js ds)=some (.ok r,ps)/\ρ'=putB ρ1 js ps:=by
 obtain⟨ds,ρ1,e1,em⟩:=bj h;have em:(if okJs ρ1 js=true then match f (lend ρ1 js ds) with
  | some (.ok r,ps)=>some (Out.ok r,putB ρ1 js ps)
  | some (.exc x,ps)=>some (.exc x,putB ρ1 js ps)
  | none=>none
  else none)=some (.ok r,ρ'):=em
 split at em
 ·rename_i hk;split at em
  ·rename_i r' ps e2;cases em;exact⟨ds,ρ1,ps,e1,hk,e2,rfl⟩
  ·cases em
  ·cases em
 ·cases em
theorem dz{f:Fd}{n k:Nat}{x:Str}{pn:List Str}{js:List (Option Nat)}{ms:M (List (Option D))}(F:Dfn X.prog X.w X.K X.mg X.base x pn k (spOf K n f))(hr:Room k X.A)(hg:Gl X x)(ha:EG K X (e::es) js ms)(hn:js.length=n:=by rfl)(hdb:(x==("__debug__" : Str))=false:=by decide)
  (he:starEach (e::es) X.env=(false,eval e X.env)::starEach es X.env:=by rfl) (hpl:(backTo pos (starEach es X.env)).any (·.1)=false:=by rfl):ER K X (.Call (.Name x p) (e::es) [] pos) (mFn f js ms):=ER.mk fun hk=>PE.imp (a2k F hr hg (ha hk) hdb he hpl) fun σ H Q z9=>by
 obtain⟨tg,F,ρ,r,ρ',G,em,q⟩:=z9;obtain⟨ds,ρ1,ps,e1,hj,e2,rfl⟩:=auq em;refine⟨tg,F,ρ,ds,ρ1,G,e1,fun vs H1 F1 G1 x1 ar =>?_⟩
 have L:=ar.lent;show spOf K n f (vs++[]) H1 Q E0;rw[List.append_nil];refine⟨by rw[ar.length];exact hn,F1,_,r,ps,aa8 G1 hj L,e2,fun v H' F' O' s' x' fin rr =>?_⟩
 exact q v H' F' (ad5 G1 L x' s' fin) (x1.trans (afg G1 L x')) (qu x1 (anq G1 L fin rr))
structure EIf (K:Fg9) (X:Cx) (ifs:List Expr) (m:M Bool):Prop where
 go:X.K=K->PIf X ifs (TB K m)
instance {K:Fg9} {X:Cx} {ifs:List Expr} {m:M Bool}:CoeFun (EIf K X ifs m) fun _=>X.K=K->PIf X ifs (TB K m):=⟨EIf.go⟩
theorem aeo:EIf K X [] (ret true):=EIf.mk fun _ qv s σ H Q I z9=>by
 obtain⟨tg,F,ρ,k,ρ',G,em,q⟩:=z9;obtain⟨rfl,rfl⟩:=jr em;exact av3 qv s σ H Q I (q H F G (Ext.refl _ _ _))
theorem aqn{m:M Bool}(h:ET K X c m):EIf K X [c] m:=EIf.mk fun hk=>av2 (h hk)
noncomputable def compD(b:D->Ro->Option Ro)(mc:M Bool)(me:M D):List D->List D->M (List D)
 | [],ys=>ret ys
 | d::ds,ys=>fun ρ=>match b d ρ with
  | none=>none
  | some ρ1=>(mc.bind fun k=>if k=true then me.bind fun y=>compD b mc me ds (ys++[y]) else compD b mc me ds ys) ρ1
theorem agt{b:D->Ro->Option Ro}{mc:M Bool}{me:M D}:∀{l ys yf:List D} {ρ ρ':Ro},compD b mc me l ys ρ=some (.ok yf,ρ')->ys.length<=yf.length
 | [],ys,yf,ρ,ρ',h=>by
  obtain⟨rfl,_⟩:=jr (show ret ys ρ=_ from h)
  exact Nat.le_refl _
 | d::ds,ys,yf,ρ,ρ',h=>by
  unfold compD at h;split at h
  ·cases h
  ·obtain⟨k,ρ2,e2,h⟩:=bj h;split at h
   ·obtain⟨y,ρ3,e3,h⟩:=bj h;have:=agt h;rw[List.length_append] at this;omega
   ·exact agt h
def adp(src:List (Option Nat))(mi:M (List D))(b:D->Ro->Option Ro)(mc:M Bool)(me:M D):M Rv:=mi.bind fun l ρ=>if okJs ρ src=true then match compD b mc me l [] (lend ρ src (src.map fun _=>none)) with
  | some (.ok ys,ps)=>if ys.length<=capS then some (.ok (.fr ys),putB ρ src ps) else none
  | some (.exc x,ps)=>some (.exc x,putB ρ src ps)
  | none=>none
 else none
theorem as5{src:List (Option Nat)}{mi:M (List D)}{b:D->Ro->Option Ro}{mc:M Bool}{me:M D}{ρ ρ':Ro}{r:Rv}(h:adp src mi b mc me ρ=some (.ok r,ρ')):∃l ρ1 ys ps,mi ρ=some (.ok l,ρ1)/\okJs ρ1 src=true/\compD b mc me l [] (lend ρ1 src (src.map fun _=>none))=some (.ok ys,ps)/\ys.length<=capS/\r=.fr ys/\ρ'=putB ρ1 src ps:=by
 obtain⟨l,ρ1,e1,em⟩:=bj h;have em:(if okJs ρ1 src=true then match compD b mc me l [] (lend ρ1 src (src.map fun _=>none)) with
  | some (.ok ys,ps)=>if ys.length<=capS then some (Out.ok (Rv.fr ys),putB ρ1 src ps) else none
  | some (.exc x,ps)=>some (.exc x,putB ρ1 src ps)
  | none=>none
  else none)=some (.ok r,ρ'):=em
 split at em
 ·rename_i hk;split at em
  ·rename_i ys ps e2;split at em
   ·rename_i hz;cases em;exact⟨l,ρ1,ys,ps,e1,hk,e2,hz,rfl,rfl⟩
   ·cases em
  ·cases em
  ·cases em
 ·cases em
theorem api{F:Hp}{σ:L2.St}(src:List (Option Nat)):Lent K F σ (pick src σ) src (src.map fun _=>none):=by
 refine⟨by simp[pick],by simp,fun i j o h q =>?_,fun i d h q =>?_⟩
 ·unfold pick;rw[List.getElem?_map,h];show some ((σ[j]?).bind id)=some o;rw[q];rfl
 ·rw[List.getElem?_map,h] at q;cases q
theorem Ext.upd{O O':Addr->Prop}{F H F' H':Hp}{d:Addr}{o:HO}(x:Ext O O' F H F' H')(h:H d=none):Ext O O' F H F' (upd H' d o) :=
 ⟨x.sub,x.new,fun a u e n=>by rw[cu (jc e h)];exact x.keep a u e n,x.own,fun a e=>by
  by_cases ha:a=d
  ·subst ha;exact h
  ·rw[cu ha] at e;exact x.there a e⟩
theorem Good.upd{tg:Nat->Addr}{F H:Hp}{ρ:Ro}{σ:L2.St}{d:Addr}(G:Good K tg F H ρ σ)(hf:F d=none)(hn:¬Own ρ σ d)(o:HO)(hi:∀C dx fs,H d≠some (.ins C dx fs)):Good K tg F (upd H d o) ρ σ :=
 G.grow (Same.refl F) (fun b u e=>by
  have hb:b≠d:=fun z=>by
   subst z;rw[hf] at e;cases e
  rw[cu hb];exact G.sub b u e) (fun a w=>⟨(G.ownAt w).1,by
  have hb:a≠d:=fun z=>hn (z▸w)
  rw[cu hb]⟩) fun a C dx fvs h1 h2=>⟨h1,by
  have hb:a≠d:=fun z=>hi C dx fvs (z▸h2)
  rw[cu hb]⟩
theorem anm{mi:M (List D)}{bb:D->Ro->Option Ro}{mc:M Bool}{me:M D}{src:List (Option Nat)}(σ:L2.St)(H:Hp)(Q:VK)(t:T K (relR K) (adp src mi bb mc me) σ H Q):avh (TIt K mi) (TGd K bb) (TB K mc) (T K (relD K) me) src σ H Q:=by
 obtain⟨tg,F,ρ,r,ρ',G,em,q⟩:=t;obtain⟨l,ρ1,yf,ps,e1,hj,e2,hz,rfl,rfl⟩:=as5 em;refine⟨tg,F,ρ,l,ρ1,G,e1,fun J H1 F1 G1 x1 Z dd hd =>?_⟩
 have L:Lent K F1 σ (pick src σ) src (src.map fun _=>none):=api src
 have Gl:=aa8 G1 hj L;have own0:¬Own (lend ρ1 src (src.map fun _=>none)) (pick src σ) dd:=fun z=>Gl.own_ne hd z rfl
 refine atw Z (fun i ys σc Hc=>∃Fc ρc yd,Good K (tgOf (pick src σ)) Fc Hc ρc σc/\Ext (Own (lend ρ1 src (src.map fun _=>none)) (pick src σ)) (Own ρc σc) F1 H1 Fc Hc/\Fc dd=none/\¬Own ρc σc dd/\Hc dd=some (.lst ys)/\IsL K Fc yd ys/\compD bb mc me (l.drop i) yd ρc=some (.ok yf,ps))
  ⟨F1,_,[],Gl.upd (G1.freeF hd) own0 _ (fun _ _ _ z=>by rw[hd] at z;cases z),(Ext.refl _ _ _).upd hd,G1.freeF hd,own0,gw,.nil,e2⟩ ?_ ?_ ?_
 ·rintro i ys σc Hc _ ⟨Fc,ρc,yd,Gc,xc,_,_,hdd,_,_⟩
  exact⟨xc.sub.trans Gc.sub,hdd⟩
 ·rintro i d x ys σc Hc0 Hc M hdl ⟨Fc0,ρc,yd,Gc0,xc0,fd0,od0,hdd0,iy0,ec⟩ al hM
  obtain⟨Fc,Gc,xc,_,idl,xa⟩:=anv Gc0 xc0 xc0.sub al;have iy:=iy0.mono xa.sub;have hlt:i < l.length:=(List.getElem?_eq_some_iff.mp hdl).1;have edl:l[i]=d:=(List.getElem?_eq_some_iff.mp hdl).2;rw[List.drop_eq_getElem_cons hlt,edl] at ec;unfold compD at ec;have step:∀{F2 H2:Hp} {ρ2 ρ3:Ro} {σ2 σ3:L2.St} {F3 H3:Hp},F2 dd=none->¬Own ρ2 σ2 dd->H2 dd=some (.lst ys)->Ext (Own ρ2 σ2) (Own ρ3 σ3) F2 H2 F3 H3->F3 dd=none/\¬Own ρ3 σ3 dd/\H3 dd=some (.lst ys):=fun{F2 H2 ρ2 ρ3 σ2 σ3 F3 H3} h1 h2 h3 x3=>by
   refine⟨?_,fun z =>?_,x3.keep _ _ h3 h2⟩
   ·cases z:F3 dd with
    | none=>rfl
    | some o =>
     rcases x3.new _ _ z with z | z | z
     ·rw[h1] at z;cases z
     ·rw[h3] at z;cases z
     ·exact absurd z h2
   ·rcases x3.own _ z with z | z
    ·exact h2 z
    ·rw[h3] at z;cases z
  obtain⟨fd,od,hdd⟩:=step fd0 od0 hdd0 xa;split at ec
  ·cases ec
  ·rename_i ρ2 eb;refine⟨_,Fc,ρc,d,ρ2,Gc,idl,eb,fun σ2 H2 F2 G2 x2 =>?_⟩
   obtain⟨k,ρ3,ek,ec⟩:=bj ec;obtain⟨fd2,od2,hdd2⟩:=step fd od hdd x2;refine⟨_,F2,ρ2,k,ρ3,G2,ek,fun H3 F3 G3 x3 =>?_⟩
   obtain⟨fd3,od3,hdd3⟩:=step fd2 od2 hdd2 x3;cases k with
   | false =>
    refine iteF (hM _ _ _ ⟨F3,ρ3,yd,G3,(xc.trans x2).trans x3,fd3,od3,hdd3,(iy.mono x2.sub).mono x3.sub,ec⟩)
   | true =>
    obtain⟨y,ρ4,ey,ec⟩:=bj ec;refine iteT ⟨_,F3,ρ3,y,ρ4,G3,ey,fun v H4 F4 G4 x4 iv =>?_⟩
    obtain⟨fd4,od4,hdd4⟩:=step fd3 od3 hdd3 x4;refine⟨hdd4,?_,hM _ _ _ ⟨F4,ρ4,yd++[y],G4.upd fd4 od4 _ (fun _ _ _ z=>by rw[hdd4] at z;cases z),(((xc.trans x2).trans x3).trans x4).upd hd,fd4,od4,gw,?_,ec⟩⟩
    ·have:=agt ec;rw[List.length_append,iy.length] at this;rw[sizeLine_eq];exact Nat.lt_of_lt_of_le (by simpa using Nat.lt_succ_self ys.length) (Nat.le_trans this hz)
    ·exact(((iy.mono x2.sub).mono x3.sub).mono x4.sub).append (.cons iv .nil)
 ·rintro ys σc Hc ⟨Fc,ρc,yd,Gc,xc,fd,od,hdd,iy,ec⟩
  rw[List.drop_eq_nil_of_le (Nat.le_refl _)] at ec;obtain⟨rfl,rfl⟩:=jr (show ret yd ρc=_ from ec)
  have fin:Fin K Fc Hc (pick src σ) ps (Own ps σc):=⟨fun i l' e=>by
   obtain⟨o,ho,a,ws,rfl,hf,hh,hl,ht⟩:=Gc.at e;rw[ht i rfl];exact⟨⟨i,⟨_,_,e⟩,ho⟩,hf,ws,hh,hl⟩⟩
  refine q _ Hc Fc (ad5 G1 L xc Gc.sub fin) (x1.trans (afg G1 L xc)) ⟨dd,ys,rfl,.inl (x1.there dd hd),fd,hdd,iy,fun⟨j,w⟩ =>?_⟩
  exact G1.own_ne hd ⟨j,ad4 w⟩ rfl
theorem acy{ifs:List Expr}{scope:Scope}{mi:M (List D)}{bb:D->Ro->Option Ro}{mc:M Bool}{me:M D}(fr N:List Str)(src:List (Option Nat))(hc:X.calm=true)(hi:IT K X tgt iter mi)
  (hg:∀fp s H,GV K (cxC X N scope fr fp s H) tgt bb) (ht:∀fp s H,EIf K (cxC X N scope fr fp s H) ifs mc) (he:∀fp s H,EV K (cxC X N scope fr fp s H) elt me)
  (hok:ahr X.env X.N scope fr N src=true:=by rfl) (hkind:scope.kind=.function:=by rfl) (hclos:closureFor scope X.env=pure (aaa X.env fr):=by rfl)
  (hs:∀x,foldedSetIterable iter X.env x=pure x:=by intro _;rfl):ER K X (.ListComp elt [⟨tgt,iter,ifs,0⟩] scope pos) (adp src mi bb mc me):=ER.mk fun hk=>by
 have hkc:∀fp s H,(cxC X N scope fr fp s H).K=K:=fun _ _ _=>hk
 refine PE.imp (av6 fr N src hc (hi hk) (fun fp s H=>(hg fp s H).go (hkc _ _ _)) (fun fp s H=>(ht fp s H).go (hkc _ _ _)) (fun fp s H=>(he fp s H).go (hkc _ _ _)) hok hkind hclos hs) anm
end
end Dn
namespace Mn
open L2
theorem avy{X:Cx}{tg iter elt:Expr}{ifs:List Expr}{scope:Scope}{cpos pos px:Pos}{wi:TI}{g:TG}{ti:TT}{te:TE}{i:Nat}{x:Str}(fr N:List Str)(src:List (Option Nat))(hN:X.N.Nodup)(hxi:X.N[i]? = some x)(hx:Loc X.env.scope x)(hc:X.calm=true)(hi:PI X tg iter wi)
  (hg:∀fp s H,PG (cxC X N scope fr fp s H) tg g) (ht:∀fp s H,PIf (cxC X N scope fr fp s H) ifs ti) (he:∀fp s H,PE (cxC X N scope fr fp s H) elt te)
  (hsw:swapsWith (.ListComp elt [⟨tg,iter,ifs,0⟩] scope cpos) (some (.Name x px)) pos.line X.env=pure true:=by rfl)
  (hok:ahr X.env X.N scope fr N src=true:=by rfl) (hkind:scope.kind=.function:=by rfl) (hclos:closureFor scope X.env=pure (aaa X.env fr):=by rfl)
  (hs:∀x,foldedSetIterable iter X.env x=pure x:=by intro _;rfl) (hf:X.fn x=true∨X.env.scope.names.lookup x=some .local:=by first | exact .inl rfl | exact .inr rfl | assumption) :
  PS X (.Assign [.Name x px] (.ListComp elt [⟨tg,iter,ifs,0⟩] scope cpos) pos) (tAsg (avh wi g ti te src) (aw5 i)):=by
 have C:=CompOk.of hok;intro qv s σ H D I h;rw[exec_Assign_Name_used _ _ _ _ hsw];refine wpAny_bind (wpAny_standAt (wpAny_bind ?_));show wpAny _ _ (comprehension (.ListComp elt [⟨tg,iter,ifs,0⟩] scope cpos) scope X.env (firstIterPos [⟨tg,iter,ifs,0⟩] cpos) (newList []) (firstAsync [⟨tg,iter,ifs,0⟩]) (firstIter [⟨tg,iter,ifs,0⟩] X.env) (some (assign (.Name x px) X.env)) >>= fun _=>pure ()) _ _ _
 refine wpAny_bind (wpAny_comprehension_free (use:=some (assign (.Name x px) X.env)) (Q:=fun _ s'=>wpAny (model X.prog X.w) X.A (pure ()) (fun _ s''=>wpAny (model X.prog X.w) X.A (pure Flow.next) (SP X qv D) X.xe s'') X.xe s') rfl hs hclos hkind C.loc (wpAny_mono (hi qv s σ H _ I h) (fun v s1 h1=>wpAny_mono h1 (fun itv s2 h2 =>?_) fun _ _ e=>e) fun _ _ e=>e))
 obtain⟨it,fp,tn,J,H2,e,I2,T,st2,f2,q2⟩:=h2;subst e;have hd0:H2 s2.heap.objs.size=none:=I2.hok.fresh (Nat.le_refl _);obtain⟨W,⟨m0,w0⟩,turn⟩:=q2 s2.heap.objs.size hd0;refine wpAny_newObj_type ?_;generalize hs3:({ s2 with heap:=s2.heap.push { cls:=.type "list", dict:=none,data:=.seq ([]:List Value).toArray } }:Shared)=s3
 have keep2:∀b o,s2.heap.get? b=some o->s3.heap.get? b=some o:=fun b o e=>by rw[<-hs3];exact Heap.get?_push_of_some _ e
 have I3:Inv X qv σ (upd H2 s2.heap.objs.size (.lst [])) s3:=by
  rw[<-hs3];exact I2.laid (t':=s2.toks) (fun b u q=>Heap.get?_push_of_some _ q) (Nat.le_refl _) ⟨Nat.zero_le _,[],0,.nil,Heap.get?_push_size _ rfl⟩
 have ne0:∀b∈fp,b≠s2.heap.objs.size:=fun b hb=>by
  obtain⟨o,e,_⟩:=T.obj _ _ st2 b hb;exact Nat.ne_of_lt (Heap.lt_size e)
 have f3:∀b∈fp,FpOk X qv (upd H2 s2.heap.objs.size (.lst [])) b:=fun b hb=>⟨by rw[cu (ne0 b hb)];exact(f2 b hb).1,(f2 b hb).2⟩
 have lt3:∀b∈fp,b < s3.heap.objs.size:=fun b hb=>by
  obtain⟨o,e,_⟩:=T.obj _ _ st2 b hb;exact Heap.lt_size (keep2 b o e)
 refine wpAny_newFunctionEnv C.cell (by intro y hy;simp at hy) (fun h₁ hns₁ hsb₁ =>?_) hkind
 have keep3:∀b o,s3.heap.get? b=some o->h₁.get? b=some o:=fun b o e=>hsb₁.extBut b o (Nat.ne_of_lt (Heap.lt_size e)) (Heap.get?_push_of_some _ e)
 have st4:tn 0 h₁:=T.keep _ _ _ st2 fun b hb o e=>keep3 b o (keep2 b o e)
 have I4:=anc (tk:=s3.toks+([]:List (Str×Value)).length) I3 C hkind f3 lt3 hns₁ keep3;have loop:=akr (X:=cxC X N scope fr fp s3 (upd H2 s2.heap.objs.size (.lst []))) (iter:=iter) (scope:=scope) (pos:=cpos) (d:=s2.heap.objs.size) (Q:=fun v H1=>D.nx (σ.set i (some v)) H1)
  (R:=compPost (model X.prog X.w) X.A X.xe (some (assign (.Name x px) X.env)) (fun _ s'=>wpAny (model X.prog X.w) X.A (pure ()) (fun _ s''=>wpAny (model X.prog X.w) X.A (pure Flow.next) (SP X qv D) X.xe s'') X.xe s') (.ref s2.heap.objs.size) s3.heap.objs.size) hc rfl T
  (fun H' hn b hb=>⟨hn b hb,Nat.ne_of_lt (lt3 b hb),I4.ok.exfs b hb,.inl hb,(I4.ok.exf b hb).2,fun p hp=>absurd (show p∈([]:List (Addr×Obj)) from hp) (by simp)⟩)
  (hg fp s3 _) (ht fp s3 _) (he fp s3 _) turn w0 I4 st4 (fun b hb=>(f3 b hb).1) (fun σ' H' s' I6 qn=>by
   obtain⟨m6,hn6,_⟩:=I6.loc;have fC:FpOk X qv H' s3.heap.objs.size:=I3.fpOk (Nat.le_refl _) I6.free;have I7:Inv X qv σ H' s':=ane I3 f3 I6 (Heap.SameBut.refl ..);refine wpAny_assign_Name (ajg I7 hN hxi hx (v:=.ref s2.heap.objs.size) rfl (fun s8 I8 ⟨a,sb,ha⟩ =>?_) hf)
   have hne:s3.heap.objs.size≠a:=by
    rcases ha with rfl | ha
    ·exact fC.2.1
    ·exact(fC.2.2.2.2.1 x a ha).symm
   obtain⟨o6,es6,ep6,g6,r6⟩:=hn6;refine⟨m6,⟨o6,es6,ep6,(sb.2 _ hne).trans g6,r6⟩,fun h9 sb9=>wpAny_pure (wpAny_pure ⟨_,H',?_,qn⟩)⟩
   exact I8.turned (t':=s8.toks) (it:=s3.heap.objs.size) (fun b o hb e=>(sb9.2 b hb).trans e) fC.1 fC.2.1 fC.2.2.2.1 fC.2.2.2.2.1 fC.2.2.2.2.2)
 exact codeAny_compStart_list loop (T.self _ 0 _ _ _ st4 loop)
end Mn
namespace Dn
open L2 Mn
section
variable{K:Fg9}{X:Cx}{tgt iter elt:Expr}{pos p:Pos}
theorem avk{i:Nat}{x:Str}{ifs:List Expr}{scope:Scope}{cpos:Pos}{mi:M (List D)}{bb:D->Ro->Option Ro}{mc:M Bool}{me:M D}(fr N:List Str)(src:List (Option Nat))(hN:X.N.Nodup)(hxi:X.N[i]? = some x)(hx:Loc X.env.scope x)(hc:X.calm=true)(hi:IT K X tgt iter mi)
  (hg:∀fp s H,GV K (cxC X N scope fr fp s H) tgt bb) (ht:∀fp s H,EIf K (cxC X N scope fr fp s H) ifs mc) (he:∀fp s H,EV K (cxC X N scope fr fp s H) elt me)
  (hsw:swapsWith (.ListComp elt [⟨tgt,iter,ifs,0⟩] scope cpos) (some (.Name x p)) pos.line X.env=pure true:=by rfl)
  (hok:ahr X.env X.N scope fr N src=true:=by rfl) (hkind:scope.kind=.function:=by rfl) (hclos:closureFor scope X.env=pure (aaa X.env fr):=by rfl)
  (hs:∀x,foldedSetIterable iter X.env x=pure x:=by intro _;rfl) (hf:X.fn x=true∨X.env.scope.names.lookup x=some .local:=by first | exact .inl rfl | exact .inr rfl | assumption) :
  SV K X (.Assign [.Name x p] (.ListComp elt [⟨tgt,iter,ifs,0⟩] scope cpos) pos) (dSet i (adp src mi bb mc me)):=SV.mk fun hk=>by
 have hkc:∀fp s H,(cxC X N scope fr fp s H).K=K:=fun _ _ _=>hk
 refine PS.imp (avy fr N src hN hxi hx hc (hi hk) (fun fp s H=>(hg fp s H).go (hkc _ _ _)) (fun fp s H=>(ht fp s H).go (hkc _ _ _)) (fun fp s H=>(he fp s H).go (hkc _ _ _)) hsw hok hkind hclos hs hf) fun E σ H ⟨tg,F,ρ,fl,ρ',G,em,q⟩=>ab7 em q fun r ρ1 e1 em =>?_
 cases em;refine anm σ H _ ⟨tg,F,ρ,r,ρ1,G,e1,fun v H' F' G' x rr =>?_⟩
 obtain⟨G2,x2⟩:=G'.store x i rr;exact q _ H' F' G2 x2
end
@[irreducible] def fuel:Nat:=1000000000
section
variable{K:Fg9}{X:Cx}{e a b c:Expr}{es:List Expr}{pos p p2:Pos}
def isN:D->Bool
 | .non=>true
 | _=>false
def mIsN(neg:Bool)(m:M D):M D:=m.bind fun d=>ret (.bl (if neg then !isN d else isN d))
theorem axo{F H:Hp}{d:D}{x:V}(h:Bor K F H d x):decide (x=.non)=isN d:=by
 rcases h with h | ⟨a,vs,l',rfl,rfl,_⟩
 ·cases h <;> first | rfl | (simp[isN])
 ·simp[isN]
theorem awy{neg:Bool}{m:M D}{t:TE->TE}(ht:∀te σ H Q,t te σ H Q=te σ H fun x H1=>Q (.bl (if neg then !decide (x=.non) else decide (x=.non))) H1)(σ:L2.St)(H:Hp)(Q:VK)(h:T K (relD K) (mIsN neg m) σ H Q):t (T K (relB K) m) σ H Q:=by
 rw[ht];obtain⟨tg,F,ρ,d,ρ',G,em,q⟩:=h;obtain⟨d1,ρ1,e1,em⟩:=bj em;obtain⟨rfl,rfl⟩:=jr em;refine⟨tg,F,ρ,d1,_,G,e1,fun v H' F' G' x r =>?_⟩
 show Q (.bl (if neg then !decide (v=.non) else decide (v=.non))) H'
 rw[axo r];exact q _ H' F' G' x (.bl _)
theorem am9{neg:Bool}{m:M D}{t:TE->TE}(ht:∀te σ H Q,t te σ H Q=te σ H fun x H1=>Q (.bl (if neg then !decide (x=.non) else decide (x=.non))) H1)(σ:L2.St)(H:Hp)(Q:Bool->Hp->Prop)(h:TB K (xg (mIsN neg m)) σ H Q):tB (t (T K (relB K) m)) σ H Q:=by
 obtain⟨tg,F,ρ,k,ρ',G,em,q⟩:=h;obtain⟨d1,ρ1,e1,em⟩:=bj em;obtain⟨e3,rfl⟩:=ir em;obtain rfl:=anu e3;refine awy ht σ H _ ⟨tg,F,ρ,_,_,G,e1,fun v H' F' G' x r =>?_⟩
 cases r;exact⟨k,rfl,q H' F' G' x⟩
theorem akq{j:Nat}{m:M D}(h:EB K X a m):ET K X (.Compare a [.Is] [.Constant .none j p] p2) (xg (mIsN false m)):=ET.mk fun hk=>PT.imp (aum (ay8 (h hk))) (am9 (t:=tIsN) fun _ _ _ _=>rfl)
theorem aen{j:Nat}{m:M D}(h:EB K X a m):ET K X (.Compare a [.IsNot] [.Constant .none j p] p2) (xg (mIsN true m)):=ET.mk fun hk=>PT.imp (aum (awa (h hk))) (am9 (t:=ax7) fun _ _ _ _=>rfl)
end
def ami(f:Fd):Prop:=∀ns:List Int,ns.length<=63->∃ps,f [.val (.kst (ns.map D.int))]=some (.ok (.v (.bl true)),ps)
theorem ayd{K:Fg9}{f:Fd}(h:ami f)(H:Hp)(a:Addr)(ns:List Int)(hn:ns.length<=63)(hS:SqL K H a (ns.map V.int)):spOf K 1 f [.ref a] H (fun v _=>v=.bl true) fun _ _ _=>False:=by
 obtain⟨ps,e⟩:=h ns hn;refine⟨rfl,H,_,_,ps,⟨Same.refl H,rfl,fun i s o e1 e2 =>?_,fun i j b ⟨⟨t,l,e1⟩,_⟩ _=>by cases i <;> simp at e1⟩,e,fun v H' F' O' _ _ _ rr =>?_⟩
 ·cases i with
  | zero =>
   simp at e1 e2;subst e1 e2;exact⟨_,rfl,.kst hS (adv ns)⟩
  | succ i=>simp at e1
 ·have rr:Is K F' (.bl true) v:=rr;cases rr;rfl
theorem walk{l:PySem.W.OpenLaw}{q:Program}{loose:List Str}{XP:(Str->Option Value)->Heap->Prop}{YP:World->Heap->Prop}{d:DefRec}{K:Params->Fg9}{f:Fd}{k:Nat}(ht:ami f)(hn:l.most=some 63)(hdf:d.params.defaults=[])(hr:Room k callerA)
  (hY:∀(w:World) (h:Heap),YP w h->(K w.params).In h)
  (F:∀(w:World) (mg:Str->Option Value) (fa:Addr) (h:Heap),(K w.params).In h->h.Ns mainGlobals mg->mg d.name=some (.ref fa) ->
   ∃fd:FuncData,(∀(s:Shared) (u:Value),BindsTo s fd ⟨[u],[]⟩ [("script", u)])/\∀base:Heap,(K w.params).In base->base.Ns mainGlobals mg->FnOk l.prog w (K w.params) mg base CX0 k fa fd ["script"] (spOf (K w.params) 1 f)) :
  PySem.W.WalkO q loose XP YP l.row.toRowW d [] (fun f vs=>PySem.call f vs) :=
 L2.au9 (n:=63) (k:=k) (x := "script") (CX:=fun _=>CX0) (sp:=fun w=>spOf (K w.params) 1 f) hn (by decide) hdf hr hY F (fun _ H a ns hl _ hS=>ayd ht H a ns hl hS) fun _ _ _ _ _ z=>z
section
variable{α β:Type}(ρ:Ro)
@[simp] theorem a4p(a:α):ret a ρ=some (.ok a,ρ):=rfl
@[simp] theorem a3c(o:Option α):lift o ρ=match o with
 | some a=>some (.ok a,ρ)
 | none=>none:=rfl
@[simp] theorem axq(m:M α)(k:α->M β):M.bind m k ρ=match m ρ with
 | some (.ok a,ρ1)=>k a ρ1
 | some (.exc x,ρ1)=>some (.exc x,ρ1)
 | none=>none:=rfl
@[simp] theorem v_ap(m:M D):M.v m ρ=(m.bind fun d=>ret (.v d)) ρ:=rfl
@[simp] theorem d_ap(m:M Rv):M.d m ρ=(m.bind fun r=>ret r.d) ρ:=rfl
@[simp] theorem a5g(d:D):(Rv.v d).d=d:=rfl
@[simp] theorem a4o(l:List D):(Rv.fr l).d=.lst l:=rfl
@[simp] theorem a4n(d:D)(l:List D):(Rv.tf d l).d=.tup [d,.lst l]:=rfl
@[simp] theorem a5f(d:D):(Rv.v d).sl=.val d:=rfl
@[simp] theorem a4m(l:List D):(Rv.fr l).sl=.own none l:=rfl
@[simp] theorem a2p(i:Nat):mVar i ρ=match ρ[i]? with
 | some (.val d)=>some (.ok d,ρ)
 | some (.own none l)=>some (.ok (.lst l),ρ.set i (.val (.lst l)))
 | _=>none:=rfl
@[simp] theorem a00(i:Nat):di i ρ=match ρ[i]? with
 | some (.val d)=>some (.ok d,ρ)
 | some (.own _ l)=>some (.ok (.lst l),ρ)
 | _=>none:=rfl
@[simp] theorem a05(i:Nat):alw i ρ=match ρ[i]? with
 | some (.val d)=>some (.ok (.v d),ρ)
 | some (.own none l)=>some (.ok (.fr l),ρ.set i .emp)
 | _=>none:=rfl
@[simp] theorem a2r(i:Nat):mOwn i ρ=match ρ[i]? with
 | some (.own _ l)=>some (.ok l,ρ)
 | _=>none:=rfl
@[simp] theorem azq(i:Nat)(l':List D):af6 i l' ρ=match ρ[i]? with
 | some (.own t _)=>some (.ok (),List.set ρ i (.own t l'))
 | _=>none:=rfl
@[simp] theorem a03(m1 m2:M D):gk m1 m2 ρ=(m1.bind fun x=>m2.bind fun y=>ret (x,y)) ρ:=rfl
@[simp] theorem azr(i:Nat)(m2:M D):cj i m2 ρ=((di i).bind fun _=>m2.bind fun y=>(di i).bind fun x=>ret (x,y)) ρ:=rfl
@[simp] theorem a4s(g:D->D->Option Rv)(m:M (D×D)):mOp g m ρ=(m.bind fun p=>lift (g p.1 p.2)) ρ:=rfl
@[simp] theorem a4r(g:D->Option D)(m:M D):mUn g m ρ=(m.bind fun d=>lift (g d)) ρ:=rfl
@[simp] theorem a3b(m1 m2:M D):mAnd m1 m2 ρ=(m1.bind fun d=>(lift (asB d)).bind fun k=>if k=true then m2 else ret (.bl false)) ρ:=rfl
@[simp] theorem a01(m:M D):xg m ρ=(m.bind fun d=>lift (asB d)) ρ:=rfl
@[simp] theorem azp(g:D->D->Option Rv)(m:M (D×D)):j4 g m ρ=xg (mOp g m).d ρ:=rfl
@[simp] theorem a04(m:M Bool):aeg m ρ=(m.bind fun k=>ret (!k)) ρ:=rfl
@[simp] theorem a1b(m1 m2:M Bool):awr m1 m2 ρ=(m1.bind fun k=>if k=true then m2 else ret false) ρ:=rfl
@[simp] theorem a2s(m1 m2:M Bool):mOrB m1 m2 ρ=(m1.bind fun k=>if k=true then ret true else m2) ρ:=rfl
@[simp] theorem a4t(m:M Bool)(m1 m2:M α):mIf m m1 m2 ρ=(m.bind fun k=>if k=true then m1 else m2) ρ:=rfl
@[simp] theorem a4v(c:Prop)[Decidable c](m1 m2:M α):(if c then m1 else m2) ρ=if c then m1 ρ else m2 ρ:=by split <;> rfl
@[simp] theorem a3k(c:Prop)[Decidable c](m1 m2:Sd):(if c then m1 else m2) ρ=if c then m1 ρ else m2 ρ:=by split <;> rfl
@[simp] theorem a5e(b:Bool):asB (.bl b)=some b:=rfl
@[simp] theorem a4k(b:Int):asI (.int b)=some b:=rfl
@[simp] theorem a3p(b:Bool):gNot (.bl b)=some (.bl (!b)):=rfl
@[simp] theorem a1c(b:Int):gNeg (.int b)=some (.int (-b)):=rfl
@[simp] theorem a1q(i j:Int):gAdd (.int i) (.int j)=some (.v (.int (i+j))):=rfl
@[simp] theorem a1o(l k:List D):gAdd (.tup l) (.tup k)=if l.length+k.length<=capS then some (.v (.tup (l++k))) else none:=rfl
@[simp] theorem a1p(l k:List D):gAdd (.lst l) (.lst k)=if l.length+k.length<=capS then some (.fr (l++k)) else none:=rfl
@[simp] theorem a1h(f:Int->Int->Option Int)(i j:Int):gInt f (.int i) (.int j)=(f i j).map fun k=>.v (.int k):=rfl
@[simp] theorem a3w(i j:Int):fSub i j=some (i - j):=rfl
@[simp] theorem a1f(i j:Int):gMul (.int i) (.int j)=(fMul i j).map fun k=>.v (.int k):=rfl
@[simp] theorem a1d(l:List D)(k:Int):gMul (.tup l) (.int k)=if k=1 then some (.v (.tup l)) else if l≠[]/\2<=k/\k < 9223372036854775808/\l.length*k.toNat<=capS then some (.v (.tup (List.replicate k.toNat l).flatten)) else none:=rfl
@[simp] theorem a1e(l:List D)(k:Int):gMul (.lst l) (.int k)=if k.natAbs < 9223372036854775808/\l.length*k.toNat<=capS then some (.fr (List.replicate k.toNat l).flatten) else none:=rfl
@[simp] theorem a1m(f:Int->Int->Bool)(i j:Int):gCmp f (.int i) (.int j)=some (.v (.bl (f i j))):=rfl
@[simp] theorem a2w(t:Ty)(m:M D):mIsi t m ρ=(m.bind fun d=>ret (.bl (isTy t d))) ρ:=rfl
@[simp] theorem azx(f g:Int->Int->Bool)(m1 m2 m3:M D):aj7 f g m1 m2 m3 ρ=(m1.bind fun x=>m2.bind fun y=>match x,y with
 | .int i,.int j=>if f i j=true then m3.bind fun z=>match z with
  | .int k=>ret (.bl (g j k))
  | _=>lift none
  else ret (.bl false)
 | _,_=>lift none) ρ:=rfl
@[simp] theorem a2t:mNil ρ=some (.ok [],ρ):=rfl
@[simp] theorem a09(m:M D)(ms:M (List D)):bf m ms ρ=(m.bind fun d=>ms.bind fun ds=>ret (d::ds)) ρ:=rfl
@[simp] theorem azw(i:Nat)(ms:M (List D)):ie i ms ρ=((di i).bind fun _=>ms.bind fun ds=>(di i).bind fun d=>ret (d::ds)) ρ:=rfl
@[simp] theorem a2q(m:M (List D)):mTup m ρ=(m.bind fun ds=>lift (gTup ds)) ρ:=rfl
@[simp] theorem a2v(m:M (List D)):mLst m ρ=(m.bind fun ds=>lift (gLst ds)) ρ:=rfl
@[simp] theorem a1a(g:List D->Option Rv)(m:M (List D)):jb g m ρ=(m.bind fun ds=>lift (g ds)) ρ:=rfl
@[simp] theorem a4y(f:D->Option Rv)(d:D):g1 f [d]=f d:=rfl
@[simp] theorem a4x(f:D->D->Option Rv)(d d':D):g2 f [d,d']=f d d':=rfl
@[simp] theorem az9(l:List D):itemsD (.tup l)=some l:=rfl
@[simp] theorem a0a(l:List D):itemsD (.lst l)=some l:=rfl
@[simp] theorem a0b(l:List D):itemsD (.kst l)=some l:=rfl
@[simp] theorem a1n(l:List D):gAll (.lst l)=(abq l).map fun bs=>.v (.bl (bs.all id)):=rfl
@[simp] theorem a0f(i:Int):atl (.int i)=some (.v (.int i)):=rfl
@[simp] theorem a1i(i:Bool):atl (.bl i)=some (.v (.int (if i then 1 else 0))):=rfl
@[simp] theorem a3r(d:D)(k:Int):gIx d (.int k)=(itemsD d).bind fun l=>(atI l k).map fun x=>.v x:=rfl
@[simp] theorem a3a(m:M D)(ml mh:M (Option Int)):mCut m ml mh ρ=(m.bind fun d=>ml.bind fun lo=>mh.bind fun hi=>lift (gCut d lo hi)) ρ:=rfl
@[simp] theorem a08(i:Nat)(ml mh:M (Option Int)):ae5 i ml mh ρ=((di i).bind fun _=>ml.bind fun lo=>mh.bind fun hi=>(di i).bind fun d=>lift (gCut d lo hi)) ρ:=rfl
@[simp] theorem a02(m:M D):ado m ρ=(m.bind fun d=>lift ((asI d).map some)) ρ:=rfl
@[simp] theorem a1j(l:List D)(lo hi:Option Int):gCut (.tup l) lo hi=some (.v (.tup (cutD l lo hi))):=rfl
@[simp] theorem a1k(l:List D)(lo hi:Option Int):gCut (.lst l) lo hi=some (.fr (cutD l lo hi)):=rfl
@[simp] theorem a1l(l:List D)(lo hi:Option Int):gCut (.kst l) lo hi=some (.fr (cutD l lo hi)):=rfl
@[simp] theorem a2x(neg:Bool)(m:M D):mIsN neg m ρ=(m.bind fun d=>ret (.bl (if neg then !isN d else isN d))) ρ:=rfl
@[simp] theorem azs(m:M D):zc m ρ=(m.bind fun d=>lift (itemsD d)) ρ:=rfl
@[simp] theorem a2z(g:α->Option β)(m:M α):mGet g m ρ=(m.bind fun ds=>lift (g ds)) ρ:=rfl
@[simp] theorem al7(j:Int):aak [.int j]=if j.natAbs < 4611686018427387904 then some (qw 0 j.toNat) else none:=rfl
@[simp] theorem aw6(i j:Int):ai4 (.int i) (.int j)=if 0 < j/\j < 1000000000000000000000000000000000000000000000000000000000000 then some (.v (.tup [.int (i / j),.int (i % j)])) else none:=rfl
@[simp] theorem a2u(i:Nat)(g:List D->List D->Option (D×List D))(ms:M (List D)):mMut i g ms ρ=((mOwn i).bind fun _=>ms.bind fun ds=>(mOwn i).bind fun l=>(lift (g l ds)).bind fun r=>(af6 i r.2).bind fun _=>ret r.1) ρ:=rfl
@[simp] theorem aw9(l:List D)(d:D):abf l [d]=if l.length < capS then some (.non,l++[d]) else none:=rfl
@[simp] theorem a07:gj ρ=some (.ok [],ρ):=rfl
@[simp] theorem azu(m:M D)(ms:M (List (Option D))):bh m ms ρ=(m.bind fun d=>ms.bind fun ds=>ret (some d::ds)) ρ:=rfl
@[simp] theorem azt(j:Nat)(ms:M (List (Option D))):du j ms ρ=((di j).bind fun _=>ms.bind fun ds=>ret (none::ds)) ρ:=rfl
@[simp] theorem a4u(f:Fd)(js:List (Option Nat))(ms:M (List (Option D))):mFn f js ms ρ=(ms.bind fun ds ρ=>if okJs ρ js=true then match f (lend ρ js ds) with
  | some (.ok r,ps)=>some (.ok r,putB ρ js ps)
  | some (.exc x,ps)=>some (.exc x,putB ρ js ps)
  | none=>none
 else none) ρ:=rfl
@[simp] theorem as7(src:List (Option Nat))(mi:M (List D))(b:D->Ro->Option Ro)(mc:M Bool)(me:M D):adp src mi b mc me ρ=(mi.bind fun l ρ=>if okJs ρ src=true then match compD b mc me l [] (lend ρ src (src.map fun _=>none)) with
  | some (.ok ys,ps)=>if ys.length<=capS then some (.ok (.fr ys),putB ρ src ps) else none
  | some (.exc x,ps)=>some (.exc x,putB ρ src ps)
  | none=>none
 else none) ρ:=rfl
@[simp] theorem a0z:okJs ρ []=true:=rfl
@[simp] theorem azk(r:List (Option Nat)):okJs ρ (none::r)=okJs ρ r:=rfl
@[simp] theorem azj(j:Nat)(r:List (Option Nat)):okJs ρ (some j::r)=((match ρ[j]? with
  | some (.own _ _) => !r.contains (some j)
  | _=>true)&&okJs ρ r):=rfl
@[simp] theorem lend_eq(js:List (Option Nat))(ds:List (Option D)):lend ρ js ds=(List.zip js ds).mapIdx fun i p=>aj8 ρ i p.1 p.2:=rfl
@[simp] theorem axz(i j:Nat)(d:Option D):aj8 ρ i (some j) d=match ρ[j]? with
  | some (.val d)=>.val d
  | some (.own _ l)=>.own (some i) l
  | _=>.emp:=rfl
@[simp] theorem a3d(i:Nat)(d:D):aj8 ρ i none (some d)=.val d:=rfl
@[simp] theorem a3e(i:Nat):aj8 ρ i none none=.emp:=rfl
@[simp] theorem a2g(js:List (Option Nat))(ps:Ro):putB ρ js ps=ρ.mapIdx fun j s=>putS js ps j s:=rfl
@[simp] theorem a2f(js:List (Option Nat))(ps:Ro)(j:Nat)(s:Sl):putS js ps j s=match js.findIdx? (fun o=>o==some j) with
 | none=>s
 | some i=>match s with
  | .own t _=>match ps[i]? with
   | some (.own (some i') l')=>if i'=i then .own t l' else .emp
   | _=>.emp
  | s=>s:=rfl
@[simp] theorem a4z(nl np:Nat)(g:Sd):fnD nl np g ρ=match g (ρ++List.replicate (nl - np) .emp) with
 | some (.ret r,ρ)=>some (.ok r,ρ.take np)
 | some (.nx,ρ)=>some (.ok (.v .non),ρ.take np)
 | some (.exc x,ρ)=>some (.exc x,ρ.take np)
 | _=>none:=rfl
@[simp] theorem a5c:dNx ρ=some (.nx,ρ):=rfl
@[simp] theorem a4d(g k:Sd):dSeq g k ρ=match g ρ with
 | some (.nx,ρ1)=>k ρ1
 | r=>r:=rfl
@[simp] theorem a5h(m:M α)(k:α->Sd):dM m k ρ=match m ρ with
 | some (.ok x,ρ1)=>k x ρ1
 | some (.exc x,ρ1)=>some (.exc x,ρ1)
 | none=>none:=rfl
@[simp] theorem a4e(m:M Rv):dRet m ρ=dM m (fun r ρ=>some (.ret r,ρ)) ρ:=rfl
@[simp] theorem a5d(m:M Bool)(g k:Sd):dIf m g k ρ=dM m (fun z=>if z=true then g else k) ρ:=rfl
@[simp] theorem a1s(m:M α):aep m ρ=dM m (fun _ ρ=>some (.nx,ρ)) ρ:=rfl
@[simp] theorem a4c(i:Nat)(m:M Rv):dSet i m ρ=dM m (fun r ρ=>some (.nx,List.set ρ i r.sl)) ρ:=rfl
@[simp] theorem a4h(m:M D)(b:D->Ro->Option Ro):dAsg m b ρ=dM m (fun d ρ=>(b d ρ).map fun ρ'=>(.nx,ρ')) ρ:=rfl
@[simp] theorem a4b(i:Nat)(mi m:M D):dSub i mi m ρ=(dM m fun d=>dM (mOwn i) fun _=>dM mi fun k=>dM (mOwn i) fun l=>dM (lift ((asI k).bind (ixN l.length))) fun j=>dM (af6 i (l.set j d)) fun _=>dNx) ρ:=rfl
@[simp] theorem a4g(f:Int->Int->Int)(i:Nat)(m:M D):dAug f i m ρ=(dM (mVar i) fun x=>dM m fun y=>dM (lift ((asI x).bind fun n=>(asI y).map fun k=>D.int (f n k))) fun z ρ=>some (.nx,List.set ρ i (.val z))) ρ:=rfl
@[simp] theorem a4f(m:M (List D))(b:D->Ro->Option Ro)(g:Sd):dFor m b g ρ=dM m (forD b g) ρ:=rfl
@[simp] theorem afh(i:Nat)(d:D):jo i d ρ=some (List.set ρ i (.val d)):=rfl
@[simp] theorem a4j:bNil [] ρ=some ρ:=rfl
@[simp] theorem a1t(b:D->Ro->Option Ro)(bs:List D->Ro->Option Ro)(d:D)(r:List D):ac0 b bs (d::r) ρ=(b d ρ).bind (bs r):=rfl
@[simp] theorem a4i(n:Nat)(bs:List D->Ro->Option Ro)(l:List D):bTup n bs (.tup l) ρ=if l.length=n then bs l ρ else none:=rfl
end
section
variable(c:Prop)[Decidable c](b:Bool)(ρ:Ro)
@[simp] theorem a3j:(if c then some (Out.ok (D.bl b),ρ) else some (Out.ok (D.bl false),ρ))=some (.ok (.bl (decide c&&b)),ρ):=by by_cases h:c <;> simp[h]
end
@[simp] theorem gr{n:Nat}(h:n<=1000):n<=capS:=Nat.le_trans h (by decide)
theorem axn:capS=16777216:=rfl
@[simp] theorem a3o(ds:List D):gTup ds=if ds.length<=capS then some (.tup ds) else none:=rfl
@[simp] theorem a3q(ds:List D):gLst ds=if ds.length<=capS then some (.fr ds) else none:=rfl
@[simp] theorem axp{α:Type}(l:List α)(f:α->Bool):abq (l.map fun d=>D.bl (f d))=some (l.map f):=by
 have:=ahv (l.map f);rw[List.map_map] at this;exact this
def ae6(s:Sl):List D->Sl
 | []=>s
 | d::r=>ae6 (.val d) r
theorem ags{me:M D}{rest:Ro}{f:D->D}:∀{l:List D} {ys:List D} {s:Sl},(∀d∈l,me (.val d::rest)=some (.ok (f d),.val d::rest))->compD (jo 0) (ret true) me l ys (s::rest)=some (.ok (ys++l.map f),ae6 s l::rest)
 | [],ys,s,_=>by simp[compD,ae6]
 | d::r,ys,s,h=>by
  have h1:=h d (List.mem_cons_self ..);have ih:=ags (me:=me) (rest:=rest) (f:=f) (l:=r) (ys:=ys++[f d]) (s:=.val d) fun x hx=>h x (List.mem_cons_of_mem _ hx)
  simp[compD,h1,ih,ae6]
theorem yc{mc:M Bool}{me:M D}{rest:Ro}{p:D->Bool}{f:D->D}:∀{l:List D} {ys:List D} {s:Sl},(∀d∈l,mc (.val d::rest)=some (.ok (p d),.val d::rest))->(∀d∈l,p d=true->me (.val d::rest)=some (.ok (f d),.val d::rest)) ->
  compD (jo 0) mc me l ys (s::rest)=some (.ok (ys++(l.filter p).map f),ae6 s l::rest)
 | [],ys,s,_,_=>by simp[compD,ae6]
 | d::r,ys,s,hc,h=>by
  have h0:=hc d (List.mem_cons_self ..);cases hp:p d with
  | true =>
   have h1:=h d (List.mem_cons_self ..) hp;have ih:=yc (mc:=mc) (me:=me) (rest:=rest) (p:=p) (f:=f) (l:=r) (ys:=ys++[f d]) (s:=.val d) (fun x hx=>hc x (List.mem_cons_of_mem _ hx)) fun x hx=>h x (List.mem_cons_of_mem _ hx)
   simp[compD,h0,h1,ih,ae6,hp]
  | false =>
   have ih:=yc (mc:=mc) (me:=me) (rest:=rest) (p:=p) (f:=f) (l:=r) (ys:=ys) (s:=.val d) (fun x hx=>hc x (List.mem_cons_of_mem _ hx)) fun x hx=>h x (List.mem_cons_of_mem _ hx)
   simp[compD,h0,ih,ae6,hp]
@[simp] theorem a1r(b:D->Ro->Option Ro)(g:Sd)(ρ:Ro):forD b g [] ρ=some (.nx,ρ):=rfl
theorem wu(b:D->Ro->Option Ro)(g:Sd)(d:D)(ds:List D)(ρ:Ro):forD b g (d::ds) ρ=match b d ρ with
  | none=>none
  | some ρ1=>match g ρ1 with
   | some (.nx,ρ2)=>forD b g ds ρ2
   | some (.cont,ρ2)=>forD b g ds ρ2
   | some (.brk,ρ2)=>some (.nx,ρ2)
   | some (.ret r,ρ2)=>some (.ret r,ρ2)
   | some (.exc x,ρ2)=>some (.exc x,ρ2)
   | none=>none:=rfl
@[simp] theorem a3v{α:Type}(p:α->Bool)(a:α)(l:List α):List.findIdx? p (a::l)=if p a=true then some 0 else (List.findIdx? p l).map (· + 1):=by
 rw[List.findIdx?_cons]
@[simp] theorem a5a{α:Type}(p:α->Bool):List.findIdx? p ([]:List α)=none:=rfl
theorem aqs(ns:List Int)(lo hi:Option Int):∃ms:List Int,cutD (ns.map D.int) lo hi=ms.map D.int/\ms.length<=ns.length:=by
 refine⟨(ns.drop (HT.sIx ns.length 0 lo)).take (HT.sIx ns.length ns.length hi - HT.sIx ns.length 0 lo),?_,?_⟩
 ·unfold cutD;rw[List.length_map,List.map_take,List.map_drop]
 ·rw[List.length_take,List.length_drop];omega
theorem ai6{b:D->Ro->Option Ro}{g:Sd}(Inv:Nat->Ro->Prop):∀{l:List D} {ρ:Ro} (k:Nat),Inv k ρ->(∀i d ρ,l[i]? = some d->Inv (k+i) ρ->∃ρ1 ρ2,b d ρ=some ρ1/\(g ρ1=some (.nx,ρ2)∨g ρ1=some (.cont,ρ2))/\Inv (k+i+1) ρ2) ->
  ∃ρ',forD b g l ρ=some (.nx,ρ')/\Inv (k+l.length) ρ'
 | [],ρ,k,h0,_=>⟨ρ,rfl,h0⟩
 | d::r,ρ,k,h0,hs=>by
  obtain⟨ρ1,ρ2,e1,e2,h1⟩:=hs 0 d ρ rfl h0;obtain⟨ρ',e3,h3⟩:=ai6 (b:=b) (g:=g) Inv (l:=r) (ρ:=ρ2) (k+1) h1 fun i x ρ hx hi=>by
   have:=hs (i+1) x ρ (by simpa using hx) ((show k+(i+1)=k+1+i by omega)▸hi)
   have e:k+(i+1)+1=k+1+i+1:=by omega
   rw[e] at this;exact this
  refine⟨ρ',?_,?_⟩
  ·rw[wu,e1];rcases e2 with e2 | e2 <;> simp only[e2] <;> exact e3
  ·have e:k+(d::r).length=k+1+r.length:=by simp;omega
   rw[e];exact h3
theorem abn{b:D->Ro->Option Ro}{mc:M Bool}{me:M D}(Inv:Nat->List D->Ro->Prop):∀{l:List D} {ys:List D} {ρ:Ro} (k:Nat),Inv k ys ρ ->
  (∀i d ys ρ,l[i]? = some d->Inv (k+i) ys ρ->∃ρ1 ρ2 z,b d ρ=some ρ1/\mc ρ1=some (.ok z,ρ2)/\((z=false/\Inv (k+i+1) ys ρ2)∨(z=true/\∃y ρ3,me ρ2=some (.ok y,ρ3)/\Inv (k+i+1) (ys++[y]) ρ3))) ->
  ∃ys' ρ',compD b mc me l ys ρ=some (.ok ys',ρ')/\Inv (k+l.length) ys' ρ'
 | [],ys,ρ,k,h0,_=>⟨ys,ρ,rfl,h0⟩
 | d::r,ys,ρ,k,h0,hs=>by
  obtain⟨ρ1,ρ2,z,e1,e2,h1⟩:=hs 0 d ys ρ rfl h0;have nxt:∀{ys':List D} {ρ':Ro},Inv (k+0+1) ys' ρ'->∃ys2 ρ2,compD b mc me r ys' ρ'=some (.ok ys2,ρ2)/\Inv (k+1+r.length) ys2 ρ2:=fun{ys' ρ'} hi =>
   abn (b:=b) (mc:=mc) (me:=me) Inv (l:=r) (ys:=ys') (ρ:=ρ') (k+1) hi fun i x ys ρ hx hi=>by
    have:=hs (i+1) x ys ρ (by simpa using hx) ((show k+(i+1)=k+1+i by omega)▸hi)
    have e:k+(i+1)+1=k+1+i+1:=by omega
    rw[e] at this;exact this
  have el:k+(d::r).length=k+1+r.length:=by simp;omega
  rw[el];rcases h1 with⟨rfl,h1⟩ | ⟨rfl,y,ρ3,e3,h1⟩
  ·obtain⟨ys2,ρ4,e4,h4⟩:=nxt h1;exact⟨ys2,ρ4,by simp[compD,e1,e2,e4],h4⟩
  ·obtain⟨ys2,ρ4,e4,h4⟩:=nxt h1;exact⟨ys2,ρ4,by simp[compD,e1,e2,e3,e4],h4⟩
@[simp] theorem a3s(neg:Bool)(a b:Int):gEq neg (.int a) (.int b)=some (.v (.bl (if neg then !(a==b) else (a==b)))):=rfl
@[simp] theorem a4w(neg:Bool)(a b:Bool):gEq neg (.bl a) (.bl b)=some (.v (.bl (if neg then !(a==b) else (a==b)))):=rfl
section
variable{K:Fg9}{X:Cx}{e a b c:Expr}{es:List Expr}{pos p p2:Pos}
def sr:List D->Option (List Int)
 | []=>some []
 | .int i::r=>(sr r).map (i :: ·)
 | _::_=>none
theorem aby:∀{l:List D} {ns:List Int},sr l=some ns->l=ns.map D.int
 | [],_,h=>by cases h;rfl
 | .int b::r,bs,h=>by
  have h':(sr r).map (b :: ·)=some bs:=h;cases e:sr r with
  | none=>rw[e] at h';cases h'
  | some t =>
   rw[e] at h';cases h';rw[aby e];rfl
 | .non::_,_,h=>by cases h
 | .bl _::_,_,h=>by cases h
 | .str _::_,_,h=>by cases h
 | .tup _::_,_,h=>by cases h
 | .lst _::_,_,h=>by cases h
 | .kst _::_,_,h=>by cases h
 | .dct _::_,_,h=>by cases h
@[simp] theorem aba(ns:List Int):sr (ns.map D.int)=some ns:=by
 induction ns with
 | nil=>rfl
 | cons b r ih=>show(sr (r.map D.int)).map (b :: ·)=_;rw[ih];rfl
def insI(x:Int):List Int->List Int
 | []=>[x]
 | y::r=>if x<=y then x::y::r else y::insI x r
def sortI:List Int->List Int
 | []=>[]
 | x::r=>insI x (sortI r)
theorem insI_perm(x:Int):∀l:List Int,(insI x l).Perm (x::l)
 | []=>.refl _
 | y::r=>by
  unfold insI;split
  ·exact .refl _
  ·exact((insI_perm x r).cons y).trans (.swap x y r)
theorem sortI_perm:∀l:List Int,(sortI l).Perm l
 | []=>.refl _
 | x::r=>(insI_perm x (sortI r)).trans ((sortI_perm r).cons x)
theorem agc(x:Int):∀{l:List Int},l.Pairwise (· <= ·)->(insI x l).Pairwise (· <= ·)
 | [],_=>by simp[insI]
 | y::r,h=>by
  unfold insI;rw[List.pairwise_cons] at h;split
  ·rename_i hxy;rw[List.pairwise_cons,List.pairwise_cons];refine⟨fun z hz =>?_,h⟩
   rcases List.mem_cons.mp hz with rfl | hz
   ·exact hxy
   ·exact Int.le_trans hxy (h.1 z hz)
  ·rename_i hxy;rw[List.pairwise_cons];refine⟨fun z hz =>?_,agc x h.2⟩
   rcases List.mem_cons.mp ((insI_perm x r).mem_iff.mp hz) with rfl | hz
   ·omega
   ·exact h.1 z hz
theorem aax:∀l:List Int,(sortI l).Pairwise (· <= ·)
 | []=>.nil
 | x::r=>agc x (aax r)
theorem ag7:∀{l k:List Int},l.Perm k->l.Pairwise (· <= ·)->k.Pairwise (· <= ·)->l=k
 | [],k,h,_,_=>h.nil_eq
 | x::r,[],h,_,_=>absurd h.length_eq (by simp)
 | x::r,y::t,h,hl,hk=>by
  rw[List.pairwise_cons] at hl hk;have e:x=y:=by
   have h1:x∈y::t:=h.mem_iff.mp (List.mem_cons_self ..);have h2:y∈x::r:=h.mem_iff.mpr (List.mem_cons_self ..);rcases List.mem_cons.mp h1 with h1 | h1
   ·exact h1
   ·rcases List.mem_cons.mp h2 with h2 | h2
    ·exact h2.symm
    ·have a:=hk.1 x h1;have b:=hl.1 y h2;omega
  subst e;rw[ag7 ((List.perm_cons x).mp h) hl.2 hk.2]
theorem amm{l k:List Int}(h:l.Perm k)(hs:l.Pairwise (· <= ·)):l=sortI k:=ag7 (h.trans (sortI_perm k).symm) hs (aax k)
theorem aaw:∀{ns:List Int} {us:List Value},IntsAre us ns->Vals (ns.map V.int) us
 | _,_,.nil=>.nil
 | _,_,.cons n t h=>.cons ⟨t,rfl⟩ (aaw h)
def ai3:D->Option Rv
 | .lst l=>(sr l).bind fun ns=>if ns.length < 64 then some (.fr ((sortI ns).map D.int)) else none
 | _=>none
theorem aq0:CallD K X (.builtin "sorted") (g1 ai3):=abo fun hk qv s σ0 H x u Q tg F ρ σ d r I ru G bd eg q=>by
 subst hk;cases d with
 | lst l =>
  have eg:(sr l).bind (fun ns=>if ns.length < 64 then some (Rv.fr ((sortI ns).map D.int)) else none)=some r:=eg
  cases e:sr l with
  | none=>rw[e] at eg;cases eg
  | some ns =>
   rw[e] at eg;have eg:(if ns.length < 64 then some (Rv.fr ((sortI ns).map D.int)) else none)=some r:=eg
   split at eg
   ·rename_i h64;cases eg;obtain⟨a,vs,rfl,ea,hl⟩:=bd.lst G.sub;rw[aby e] at hl;rw[hl.int_inv] at ea;cases ru;obtain⟨its,rv,pl,_⟩:=I.list (SqL.of ea);have hlen:=rv.length;rw[List.length_map] at hlen;refine PyProof.Rows.sorted_ints pl.isList (intsAre_of rv) (by omega) fun out ns' i1 hp hs =>?_
    have e':=amm hp hs;subst e';obtain⟨ep,eo⟩:=PyProof.Rows.sortedAll_at s.heap its out;have hn:H (s.heap.objs.size+1)=none:=I.hok.fresh (Nat.le_succ _);refine⟨.ref (s.heap.objs.size+1),upd H (s.heap.objs.size+1) (.lst ((sortI ns).map V.int)),?_,rfl,Res.lst G q (adv _) hn⟩;refine I.laid (t':=s.toks) (fun b u e=>PyProof.Rows.sortedAll_old e) (Nat.le_succ _) ?_
    refine⟨?_,out.toList,ep,aaw i1,by simpa using eo⟩
    rw[List.length_map,(sortI_perm ns).length_eq];exact Nat.le_of_lt (afq (by omega))
   ·cases eg
 | _=>cases eg
end
section
variable{K:Fg9}{X:Cx}{e a b c:Expr}{es:List Expr}{pos p p2:Pos}
def ad3(lt:Int->Int->Bool):List Int->Int
 | []=>0
 | x::r=>r.foldl (fun m y=>if lt y m=true then y else m) x
theorem arf(lt:Int->Int->Bool)(ns:List Int):∀k,k < ns.length->argBest (fun i j=>lt (ns.getD i 0) (ns.getD j 0)) k<=k/\ns.getD (argBest (fun i j=>lt (ns.getD i 0) (ns.getD j 0)) k) 0=ad3 lt (ns.take (k+1))
 | 0,h=>by
  cases ns with
  | nil=>simp at h
  | cons x r=>exact⟨Nat.le_refl _,rfl⟩
 | k+1,h=>by
  obtain⟨h1,h2⟩:=arf lt ns k (by omega)
  have ht:ns.take (k+1+1)=ns.take (k+1)++[ns.getD (k+1) 0]:=by
   rw[List.take_add_one,List.getElem?_eq_getElem h];simp[List.getD,List.getElem?_eq_getElem h]
  have hb:ad3 lt (ns.take (k+1+1))=if lt (ns.getD (k+1) 0) (ad3 lt (ns.take (k+1)))=true then ns.getD (k+1) 0 else ad3 lt (ns.take (k+1)):=by
   rw[ht];cases ns with
   | nil=>simp at h
   | cons x r=>simp[ad3,List.foldl_append]
  have ha:argBest (fun i j=>lt (ns.getD i 0) (ns.getD j 0)) (k+1)=if lt (ns.getD (k+1) 0) (ns.getD (argBest (fun i j=>lt (ns.getD i 0) (ns.getD j 0)) k) 0)=true then k+1 else argBest (fun i j=>lt (ns.getD i 0) (ns.getD j 0)) k:=rfl
  rw[hb,<-h2,ha]
  by_cases hc:lt (ns.getD (k+1) 0) (ns.getD (argBest (fun i j=>lt (ns.getD i 0) (ns.getD j 0)) k) 0)=true
  ·rw[if_pos hc,if_pos hc];exact⟨Nat.le_refl _,rfl⟩
  ·rw[if_neg hc,if_neg hc];exact⟨by omega,rfl⟩
theorem at4(lt:Int->Int->Bool)(ns:List Int)(h:ns≠[]):argBest (fun i j=>lt (ns.getD i 0) (ns.getD j 0)) (ns.length - 1) < ns.length/\ns.getD (argBest (fun i j=>lt (ns.getD i 0) (ns.getD j 0)) (ns.length - 1)) 0=ad3 lt ns:=by
 have hl:0 < ns.length:=List.length_pos_iff.mpr h;obtain⟨h1,h2⟩:=arf lt ns (ns.length - 1) (by omega)
 refine⟨by omega,?_⟩
 rw[h2,show ns.length - 1+1=ns.length by omega,List.take_length]
def a0g(lt:Int->Int->Bool):D->Option Rv
 | .lst l=>(sr l).bind fun ns=>if ns=[] then none else some (.v (.int (ad3 lt ns)))
 | .tup l=>(sr l).bind fun ns=>if ns=[] then none else some (.v (.int (ad3 lt ns)))
 | _=>none
theorem al9{lt:Int->Int->Bool}{d:D}{r:Rv}(h:a0g lt d=some r):∃ns:List Int,ns≠[]/\r=.v (.int (ad3 lt ns))/\(d=.lst (ns.map D.int)∨d=.tup (ns.map D.int)):=by
 have go:∀l,(sr l).bind (fun ns=>if ns=[] then none else some (Rv.v (.int (ad3 lt ns))))=some r->∃ns:List Int,ns≠[]/\r=.v (.int (ad3 lt ns))/\l=ns.map D.int:=fun l h=>by
  cases e:sr l with
  | none=>rw[e] at h;cases h
  | some ns =>
   rw[e] at h;have h:(if ns=[] then none else some (Rv.v (.int (ad3 lt ns))))=some r:=h
   split at h
   ·cases h
   ·rename_i hn;cases h;exact⟨ns,hn,rfl,aby e⟩
 cases d with
 | lst l=>obtain⟨ns,h1,h2,rfl⟩:=go l h;exact⟨ns,h1,h2,.inl rfl⟩
 | tup l=>obtain⟨ns,h1,h2,rfl⟩:=go l h;exact⟨ns,h1,h2,.inr rfl⟩
 | _=>cases h
theorem af9{ns:List Int}{its:List Value}(rv:Vals (ns.map V.int) its)(i:Nat)(v:Value)(h:its.toArray[i]? = some v):∃t,v=.int (ns.getD i 0) t:=by
 have h:its[i]? = some v:=by simpa using h
 have hi:i < its.length:=(List.getElem?_eq_some_iff.mp h).1;have hl:=rv.length;rw[List.length_map] at hl;have hi':i < ns.length:=by omega
 obtain⟨u,hu,t,rfl⟩:=rv.get (i:=i) (x:=V.int ns[i]) (by rw[List.getElem?_map,List.getElem?_eq_getElem hi'];rfl)
 rw[h] at hu;cases hu;exact⟨t,by simp[List.getD,List.getElem?_eq_getElem hi']⟩
def aqe:D->Option Rv:=a0g fun i j=>decide (i < j)
theorem aq1(hc:X.calm=true):CallD K X (.builtin "min") (g1 aqe):=abo fun hk qv s σ0 H x u Q tg F ρ σ d r I ru G bd eg q=>by
 subst hk;obtain⟨ns,hn,rfl,hd⟩:=al9 eg;have q':=Res.same G q (.int _);obtain⟨hb1,hb2⟩:=at4 (fun i j=>decide (i < j)) ns hn
 have fin:∀{its:List Value} (rv:Vals (ns.map V.int) its) {v:Value} {h':Heap} {tk:Nat},its.toArray[argBest (fun i j=>decide (ns.getD i 0 < ns.getD j 0)) (its.toArray.size - 1)]? = some v->(∀b o,s.heap.get? b=some o->h'.get? b=some o)->EP X qv σ0 Q v { s with heap:=h',toks:=tk }:=fun{its} rv {v h' tk} hv hk=>by
  have hl:=rv.length;rw[List.length_map] at hl;rw[List.size_toArray,<-hl] at hv;obtain⟨t,rfl⟩:=af9 rv _ v hv;exact⟨.int (ad3 (fun i j=>decide (i < j)) ns),H,I.kept hk,⟨t,by rw[hb2]⟩,q'⟩
 rcases hd with rfl | rfl
 ·obtain⟨a,vs,rfl,ea,hl⟩:=bd.lst G.sub;rw[hl.int_inv] at ea;cases ru;obtain⟨its,rv,pl,_⟩:=I.list (SqL.of ea);have hl':=pl.isList;have hlt:a < s.heap.objs.size:=by obtain⟨_,e,_⟩:=hl';exact Heap.lt_size e
  have hlen:=rv.length;rw[List.length_map] at hlen;refine call_min_walk (wpAny_pyIter_list hl' ⟨s.heap.objs.size,[s.heap.objs.size,a],[s.heap.objs.size],its.toArray.size,_,_,_,rfl,Walks.list (A:=X.A.in1) (I.ok.hd hc) _ a (Nat.ne_of_lt hlt) its.toArray,
   ⟨⟨_,Heap.get?_push_size _ rfl,rfl,rfl⟩,hl'.push _⟩,fun b hb =>?_,?_,CmpOf.ints_lt (fun i=>ns.getD i 0) (fun i v=>af9 rv i v),fun v h' tk hP hk=>fin rv hP (LSm.kept_iter hk)⟩)
  ·have hs:∀o:Obj,(s.heap.push o).objs.size=s.heap.objs.size+1:=fun o=>Heap.size_push ..
   show b < (s.heap.push _).objs.size;rw[hs];rcases List.mem_cons.mp hb with hb | hb
   ·exact hb▸Nat.lt_succ_self _
   ·have hb:b=a:=by simpa using hb
    exact hb▸Nat.lt_succ_of_lt hlt
  ·rw[List.size_toArray,<-hlen];exact List.length_pos_iff.mpr hn
 ·obtain⟨a,vs,rfl,ea,hl⟩:=bd.tup;rw[hl.int_inv] at ea;cases ru;obtain⟨its,rv,pl,_⟩:=I.tuple (SqT.of (G.sub _ _ ea));have hlt:a < s.heap.objs.size:=by obtain⟨_,e,_⟩:=pl;exact Heap.lt_size e
  have hlen:=rv.length;rw[List.length_map] at hlen;refine call_min_walk (wpAny_pyIter_tuple pl ⟨s.heap.objs.size,[s.heap.objs.size,a],[s.heap.objs.size],its.toArray.size,_,_,_,rfl,Walks.tuple (A:=X.A.in1) (I.ok.hd hc) _ a (Nat.ne_of_lt hlt) its.toArray,
   ⟨⟨_,Heap.get?_push_size _ rfl,rfl,rfl⟩,pl.push _⟩,fun b hb =>?_,?_,CmpOf.ints_lt (fun i=>ns.getD i 0) (fun i v=>af9 rv i v),fun v h' tk hP hk=>fin rv hP (LSm.kept_iter hk)⟩)
  ·have hs:∀o:Obj,(s.heap.push o).objs.size=s.heap.objs.size+1:=fun o=>Heap.size_push ..
   show b < (s.heap.push _).objs.size;rw[hs];rcases List.mem_cons.mp hb with hb | hb
   ·exact hb▸Nat.lt_succ_self _
   ·have hb:b=a:=by simpa using hb
    exact hb▸Nat.lt_succ_of_lt hlt
  ·rw[List.size_toArray,<-hlen];exact List.length_pos_iff.mpr hn
end
section
variable{K:Fg9}{X:Cx}{e a b c:Expr}{es:List Expr}{pos p p2:Pos}
def rmOf(K:Fg9)(g:D->List D->Option D):V->List V->Hp->VK->Prop:=fun x vs H Q=>∃F d ds r,Same F H/\Bor K F H d x/\IsL K F ds vs/\g d ds=some r/\∀v,Is K F r v->Q v H
def as4(i:Nat)(g:D->List D->Option D)(ms:M (List D)):M D:=(di i).bind fun d0=>(lift (match d0 with
 | .lst _=>some ()
 | _=>none)).bind fun _=>ms.bind fun ds=>(di i).bind fun d=>lift (g d ds)
theorem amb{i:Nat}{name:Str}{id:String}{g:D->List D->Option D}{ms:M (List D)}{apos cpos:Pos}(slot:Slot "list" name id)(hty:typeOf (.builtin id)=pure (.type "method_descriptor"))(hm:X.K=K->MtR X id (rmOf K g))(ho:PE X a (tVar i))(ha:ED K X (e::es) ms)
  (hbase:attributeBase a name X.env (eval a X.env)=eval a X.env:=by rfl)
  (hfew:((backTo cpos (starEach (e::es) X.env)).all (fun x => !x.1)&&(backToKw cpos (keywordEach [] X.env)).all (fun x=>x.1.isSome)
   && decide ((e::es).length+([]:List Keyword).length+(if ([]:List Keyword).isEmpty then 0 else 1) < 30))=true:=by rfl)
  (hline:(apos.endLine==cpos.line)=true:=by rfl) (hs:starEach (e::es) X.env=(false,eval e X.env)::starEach es X.env:=by rfl) (hplain:(backTo cpos (starEach es X.env)).any (·.1)=false:=by rfl) :
  EV K X (.Call (.Attribute a name apos) (e::es) [] cpos) (as4 i g ms):=EV.mk fun hk=>PE.imp (asj PySem.F.plainAttrs_list slot hty (hm hk) ho (ha hk) hbase hfew hline hs hplain) fun σ H Q z9=>by
 obtain⟨tg,F,ρ,d,ρ',G,em,q⟩:=z9;obtain⟨d0,ρ0,e0,em1⟩:=bj em;obtain⟨u0,ρ9,e9,em2⟩:=bj em1;obtain⟨ds,ρ1,e1,em3⟩:=bj em2;obtain⟨d1,ρ2,e2,em4⟩:=bj em3;obtain⟨e3,rfl⟩:=ir em4;obtain⟨e9,rfl⟩:=ir e9;obtain⟨rfl,v,hv,bv⟩:=qm G e0;have ty:∃b,v=.ref b/\∃xs,SqL X.K H b xs:=by
  cases d0 with
  | lst l =>
   obtain⟨b,xs,rfl,hb,_⟩:=bv.lst G.sub;exact⟨b,rfl,xs,SqL.of hb⟩
  | _=>cases e9
 obtain⟨b,rfl,hty'⟩:=ty;refine⟨_,hv,.inl ⟨rfl,hty'⟩,tg,F,_,ds,ρ1,G,e1,fun vs H1 F1 G1 x1 r1 =>?_⟩
 obtain⟨rfl,v',hv',b'⟩:=qm G1 e2;rw[hv] at hv';cases hv';exact⟨F1,d1,ds,d,G1.sub,b',r1,e3,fun w iw=>q w H1 F1 G1 x1 iw⟩
def aqh(d:D)(ds:List D):Option D:=match d,ds with
 | .lst l,[x]=>if okD 30 x&&l.all (okD 30) then some (.int (l.countP fun y=>eqD y x)) else none
 | _,_=>none
theorem abm{qv:List (Addr×Obj)}{σ:L2.St}{F H:Hp}{s:Shared}(I:Inv X qv σ H s)(g:Same F H){a:D}{n:Nat}:∀{ds:List D} {vs:List V} {us:List Value},IsL X.K F ds vs->ds.all (okD n)=true->Vals vs us ->
  us.countP (yj s.heap (toPy a))=ds.countP (fun y=>eqD y a)
 | _,_,_,.nil,_,r=>by cases r;rfl
 | _,_,_,.cons h t,k,r=>by
  rw[List.all_cons,Bool.and_eq_true] at k;cases r with
  | cons r1 r2 =>
   obtain⟨as,ra⟩:=xr I g h k.1 r1;obtain⟨c,p⟩:=aaq _ _ k.1;rw[List.countP_cons,List.countP_cons,abm I g t k.2 r2,afb ra c];rfl
theorem asx(hu:X.A.units+64 < cLine):X.K=K->MtR X "list.count" (rmOf K aqh):=fun hk=>by
 subst hk;intro qv s σ H x vs v us Q I rx rv ⟨F,d,ds,r,g,bd,il,eg,q⟩
 match d,ds,eg with
 | .lst l,[y],eg =>
  have eg:(if okD 30 y&&l.all (okD 30) then some (D.int (l.countP fun z=>eqD z y)) else none)=some r:=eg
  split at eg
  ·rename_i ho;rw[Bool.and_eq_true] at ho;cases eg;cases il with
   | cons hy t =>
    cases t;obtain⟨u,rfl,ru⟩:=rv.one;obtain⟨p,ws,rfl,ea,hl⟩:=bd.lst g;cases rx;obtain⟨its,rw',pl,_⟩:=I.list (SqL.of ea);obtain⟨as,ra⟩:=xr I g hy ho.1 ru;obtain⟨_,z⟩:=u5 I g (a:=y) hl ho.2 rw';obtain⟨⟨cls,dd,data,sl⟩,h1,hc,n,hd⟩:=pl.isList;simp only at hc hd;subst hc hd;refine call_meets PySem.F.slot_list_count ⟨_,h1,rfl⟩ PySem.F.entry_list_count (PySem.F.args_list_count_2 _ _) (SeqAt.list_countAt p its.toArray n dd sl u (yj s.heap (toPy y))) ⟨h1,fun w hw =>?_,?_⟩
    ·exact ul (A:=X.A) hu ra ho.1 z w (by simpa using hw)
    ·refine⟨.int (l.countP fun z=>eqD z y),H,I.tok _,⟨s.toks,?_⟩,q _ (.int _)⟩
     rw[abm I g (a:=y) hl ho.2 rw']
  ·cases eg
def aqg(d:D)(ds:List D):Option D:=match d,ds with
 | .tup l,[x]=>if okD 30 x&&l.all (okD 30) then some (.int (l.countP fun y=>eqD y x)) else none
 | _,_=>none
theorem apv(hu:X.A.units+64 < cLine):X.K=K->MtR X "tuple.count" (rmOf K aqg):=fun hk=>by
 subst hk;intro qv s σ H x vs v us Q I rx rv ⟨F,d,ds,r,g,bd,il,eg,q⟩
 match d,ds,eg with
 | .tup l,[y],eg =>
  have eg:(if okD 30 y&&l.all (okD 30) then some (D.int (l.countP fun z=>eqD z y)) else none)=some r:=eg
  split at eg
  ·rename_i ho;rw[Bool.and_eq_true] at ho;cases eg;cases il with
   | cons hy t =>
    cases t;obtain⟨u,rfl,ru⟩:=rv.one;obtain⟨p,ws,rfl,ea,hl⟩:=bd.tup;cases rx;obtain⟨its,rw',pl,_⟩:=I.tuple (SqT.of (g _ _ ea));obtain⟨as,ra⟩:=xr I g hy ho.1 ru;obtain⟨_,z⟩:=u5 I g (a:=y) hl ho.2 rw';obtain⟨⟨cls,dd,data,sl⟩,h1,hc,n,hd⟩:=pl;simp only at hc hd;subst hc hd;refine call_meets PySem.F.slot_tuple_count ⟨_,h1,rfl⟩ PySem.F.entry_tuple_count (PySem.F.args_tuple_count_2 _ _) (SeqAt.tuple_countAt p its.toArray n dd sl u (yj s.heap (toPy y))) ⟨h1,fun w hw =>?_,?_⟩
    ·exact ul (A:=X.A) hu ra ho.1 z w (by simpa using hw)
    ·refine⟨.int (l.countP fun z=>eqD z y),H,I.tok _,⟨s.toks,?_⟩,q _ (.int _)⟩
     rw[abm I g (a:=y) hl ho.2 rw']
  ·cases eg
theorem PE.or{t1 t2:TE}(h1:PE X e t1)(h2:PE X e t2):PE X e fun σ H Q=>t1 σ H Q∨t2 σ H Q:=fun qv s σ H Q I h=>h.elim (h1 qv s σ H Q I) (h2 qv s σ H Q I)
def ai5(d:D)(ds:List D):Option D:=match d with
 | .lst _=>aqh d ds
 | .tup _=>aqg d ds
 | _=>none
def apw(i:Nat)(ms:M (List D)):M D:=(di i).bind fun d0=>ms.bind fun ds=>(di i).bind fun d=>(lift (match d0,d with
 | .lst _,.lst _=>some ()
 | .tup _,.tup _=>some ()
 | _,_=>none)).bind fun _=>lift (ai5 d ds)
theorem atx{d0 d:D}{u:Unit} (h:(match d0,d with
 | .lst _,.lst _=>some ()
 | .tup _,.tup _=>some ()
 | _,_=>none)=some u):(∃l l1,d0=.lst l/\d=.lst l1)∨∃l l1,d0=.tup l/\d=.tup l1:=by
 split at h
 ·exact .inl ⟨_,_,rfl,rfl⟩
 ·exact .inr ⟨_,_,rfl,rfl⟩
 ·cases h
theorem anh{i:Nat}{ms:M (List D)}{apos cpos:Pos}(hu:X.A.units+64 < cLine)(ho:PE X a (tVar i))(ha:ED K X (e::es) ms)
  (hbase:attributeBase a "count" X.env (eval a X.env)=eval a X.env:=by rfl)
  (hfew:((backTo cpos (starEach (e::es) X.env)).all (fun x => !x.1)&&(backToKw cpos (keywordEach [] X.env)).all (fun x=>x.1.isSome)
   && decide ((e::es).length+([]:List Keyword).length+(if ([]:List Keyword).isEmpty then 0 else 1) < 30))=true:=by rfl)
  (hline:(apos.endLine==cpos.line)=true:=by rfl) (hs:starEach (e::es) X.env=(false,eval e X.env)::starEach es X.env:=by rfl) (hplain:(backTo cpos (starEach es X.env)).any (·.1)=false:=by rfl) :
  EV K X (.Call (.Attribute a "count" apos) (e::es) [] cpos) (apw i ms):=EV.mk fun hk=>PE.imp (PE.or (asj PySem.F.plainAttrs_list PySem.F.slot_list_count PySem.F.type_list_count (asx hu hk) ho (ha hk) hbase hfew hline hs hplain) (asj PySem.F.plainAttrs_tuple PySem.F.slot_tuple_count PySem.F.type_tuple_count (apv hu hk) ho (ha hk) hbase hfew hline hs hplain)) fun σ H Q z9=>by
 obtain⟨tg,F,ρ,d,ρ',G,em,q⟩:=z9;obtain⟨d0,ρ0,e0,em1⟩:=bj em;obtain⟨ds,ρ1,e1,em3⟩:=bj em1;obtain⟨d1,ρ2,e2,em4⟩:=bj em3;obtain⟨u0,ρ9,e9,em5⟩:=bj em4;obtain⟨e3,rfl⟩:=ir em5;obtain⟨g9,rfl⟩:=ir e9;obtain⟨rfl,v,hv,bv⟩:=qm G e0;rcases atx g9 with⟨l,l1,rfl,rfl⟩ | ⟨l,l1,rfl,rfl⟩
 ·obtain⟨b,xs,rfl,hb,_⟩:=bv.lst G.sub;refine .inl ⟨_,hv,.inl ⟨rfl,xs,SqL.of hb⟩,tg,F,_,ds,ρ1,G,e1,fun vs H1 F1 G1 x1 r1 =>?_⟩
  obtain⟨rfl,v',hv',b'⟩:=qm G1 e2;rw[hv] at hv';cases hv';exact⟨F1,.lst l1,ds,d,G1.sub,b',r1,e3,fun w iw=>q w H1 F1 G1 x1 iw⟩
 ·obtain⟨b,xs,rfl,hb,_⟩:=bv.tup;refine .inr ⟨_,hv,.inr (.inl ⟨rfl,.inr ⟨xs,G.sub _ _ hb⟩⟩),tg,F,_,ds,ρ1,G,e1,fun vs H1 F1 G1 x1 r1 =>?_⟩
  obtain⟨rfl,v',hv',b'⟩:=qm G1 e2;rw[hv] at hv';cases hv';exact⟨F1,.tup l1,ds,d,G1.sub,b',r1,e3,fun w iw=>q w H1 F1 G1 x1 iw⟩
def aho(d:D)(ds:List D):Option D:=match d,ds with
 | .lst l,[x]=>if okD 30 x&&l.all (okD 30) then (l.findIdx? fun y=>eqD y x).map fun i=>.int i else none
 | _,_=>none
theorem anr{qv:List (Addr×Obj)}{σ:L2.St}{F H:Hp}{s:Shared}(I:Inv X qv σ H s)(g:Same F H){a:D}{n:Nat}{ds:List D}{vs:List V}{us:List Value}(il:IsL X.K F ds vs)(k:ds.all (okD n)=true)(rv:Vals vs us)(i:Nat)(hi:i < us.length)(hd:i < ds.length) :
  yj s.heap (toPy a) us[i]=eqD ds[i] a:=by
 obtain⟨v,hv,iv⟩:=il.get (i:=i) (List.getElem?_eq_getElem hd);obtain⟨u,hu,ru⟩:=rv.get hv;rw[List.getElem?_eq_getElem hi] at hu;cases hu;have ko:okD n ds[i]=true:=List.all_eq_true.mp k _ (List.getElem_mem hd);obtain⟨as,ra⟩:=xr I g iv ko ru;rw[afb ra (aaq _ _ ko).1];rfl
theorem aiq(hu:X.A.units+64 < cLine):X.K=K->MtR X "list.index" (rmOf K aho):=fun hk=>by
 subst hk;intro qv s σ H x vs v us Q I rx rv ⟨F,d,ds,r,g,bd,il,eg,q⟩
 match d,ds,eg with
 | .lst l,[y],eg =>
  have eg:(if okD 30 y&&l.all (okD 30) then (l.findIdx? fun z=>eqD z y).map (fun i=>D.int i) else none)=some r:=eg
  split at eg
  ·rename_i ho;rw[Bool.and_eq_true] at ho;cases ei:l.findIdx? (fun z=>eqD z y) with
   | none=>rw[ei] at eg;cases eg
   | some j =>
    rw[ei] at eg;cases eg;obtain⟨hj,hhit,hno⟩:=List.findIdx?_eq_some_iff_getElem.mp ei;cases il with
    | cons hy t =>
     cases t;obtain⟨u,rfl,ru⟩:=rv.one;obtain⟨p,ws,rfl,ea,hl⟩:=bd.lst g;cases rx;obtain⟨its,rw',pl,hz⟩:=I.list (SqL.of ea);have l1:=hl.length;have l2:=rw'.length;rw[sizeLine_eq] at hz;obtain⟨as,ra⟩:=xr I g hy ho.1 ru;obtain⟨_,z⟩:=u5 I g (a:=y) hl ho.2 rw';obtain⟨⟨cls,dd,data,sl⟩,h1,hc,n,hd⟩:=pl.isList;simp only at hc hd;subst hc hd;have hj':j < its.toArray.size:=by rw[List.size_toArray];omega
     refine call_meets PySem.F.slot_list_index ⟨_,h1,rfl⟩ PySem.F.entry_list_index (PySem.F.args_list_index_2 _ _) (SeqAt.list_indexAt p its.toArray n dd sl u (yj s.heap (toPy y)) j hj' (by omega) ?_ fun m hm hlt =>?_) ⟨h1,fun w hw =>?_,?_⟩
     ·have:=anr I g (a:=y) hl ho.2 rw' j (by omega) hj
      simpa[this] using hhit
     ·rw[List.size_toArray] at hm;have:=anr I g (a:=y) hl ho.2 rw' m hm (by omega)
      have hn:=hno m hlt
      simpa[this] using hn
     ·exact ul (A:=X.A) hu ra ho.1 z w (by simpa using hw)
     ·exact⟨.int j,H,I.tok _,⟨_,rfl⟩,q _ (.int _)⟩
  ·cases eg
section
variable(ρ:Ro)
@[simp] theorem a06(i:Nat)(g:D->List D->Option D)(ms:M (List D)):as4 i g ms ρ=((di i).bind fun d0=>(lift (match d0 with
 | .lst _=>some ()
 | _=>none)).bind fun _=>ms.bind fun ds=>(di i).bind fun d=>lift (g d ds)) ρ:=rfl
@[simp] theorem ax1(l:List D)(x:D):aqh (.lst l) [x]=if okD 30 x&&l.all (okD 30) then some (.int (l.countP fun y=>eqD y x)) else none:=rfl
@[simp] theorem ax0(l:List D)(x:D):aho (.lst l) [x]=if okD 30 x&&l.all (okD 30) then (l.findIdx? fun y=>eqD y x).map (fun i=>D.int i) else none:=rfl
end
end
end Dn
namespace En
open PySem PySem.Builtin
def It1(k:Bool)(h:Heap)(it l:Addr)(i:Nat):Prop:=cond k (h.IsTupleIter it l i) (h.IsListIter it l i)
def Sq1(k:Bool)(h:Heap)(l:Addr)(xs:Array Value):Prop:=cond k (h.IsTuple l xs) (h.IsList l xs)
section
variable{prog:Program}{w:World}{A:Around}{E:Value->Shared->Prop}{s:Shared}
theorem awh{it t:Addr}{i:Nat}{xs:Array Value}{x:Value}{Q:Value->Shared->Prop}(h1:s.heap.IsTupleIter it t i)(h2:s.heap.IsTuple t xs)(hx:xs[i]? = some x)
  (q:∀h',h'.IsTupleIter it t (i+1)->Heap.SameBut it s.heap h'->Q x { s with heap:=h' }):wpAny (model prog w) A (SmallTypes.nextOf (.ref it)) Q E s:=by
 obtain⟨o1,e1,c1,d1⟩:=id h1;obtain⟨o2,e2,_,k2,d2⟩:=h2;have nn:¬((Value.ref t==Value.none)=true):=Bool.false_ne_true;unfold SmallTypes.nextOf;refine wpAny_bind (wpAny_callSpecial?_slot (name:=Str.ofString "__next__") h1.typeIs F.slot_tuple_iterator_next (wpAny_call_entry F.slot_tuple_iterator_next h1.typeIs F.entry_tuple_iterator_next ?_ (F.args_tuple_iterator_next_1 _)));refine wpAny_bind (m:=field (.ref it) 0) (wpAny_field e1 d1 (x:=.ref t) rfl ?_);show wpAny _ _ (if (Value.ref t==Value.none)=true then _ else (field (.ref it) 1 >>= _)) _ _ s;rw[if_neg nn]
 refine wpAny_bind (m:=field (.ref it) 1) (wpAny_field e1 d1 (x:=.int i 0) rfl ?_);refine wpAny_bind (m:=seqItems? (.ref t)) (wpAny_seqItems e2 d2 ?_);simp only[Int.toNat_natCast,hx];refine wpAny_bind (wpAny_setField e1 d1 (by simp) (wpAny_pure ⟨x,rfl,wpAny_pure (q _ ?_ (Heap.SameBut.update ..))⟩))
 refine⟨_,Heap.get?_update_self _ e1 (Obj.isFreed_of_fields (Obj.data_mapFields d1 _)),(Obj.cls_mapFields ..).trans c1,?_⟩;rw[Obj.data_mapFields d1];simp[rawInt]
theorem axg{it t:Addr}{i:Nat}{xs:Array Value}{Q:Value->Shared->Prop}(hh:A.handled=none)(h1:s.heap.IsTupleIter it t i)(h2:s.heap.IsTuple t xs)(hx:xs[i]? = none)
  (q:∀h' e,Heap.ExtBut it s.heap h'->(∃o,h'.get? e=some o/\o.cls=.type "StopIteration")->E (.ref e) { s with heap:=h' }):wpAny (model prog w) A (SmallTypes.nextOf (.ref it)) Q E s:=by
 obtain⟨o1,e1,c1,d1⟩:=id h1;obtain⟨o2,e2,_,k2,d2⟩:=h2;have nn:¬((Value.ref t==Value.none)=true):=Bool.false_ne_true;unfold SmallTypes.nextOf;refine wpAny_bind (wpAny_callSpecial?_slot (name:=Str.ofString "__next__") h1.typeIs F.slot_tuple_iterator_next (wpAny_call_entry F.slot_tuple_iterator_next h1.typeIs F.entry_tuple_iterator_next ?_ (F.args_tuple_iterator_next_1 _)));refine wpAny_bind (m:=field (.ref it) 0) (wpAny_field e1 d1 (x:=.ref t) rfl ?_);show wpAny _ _ (if (Value.ref t==Value.none)=true then _ else (field (.ref it) 1 >>= _)) _ _ s;rw[if_neg nn]
 refine wpAny_bind (m:=field (.ref it) 1) (wpAny_field e1 d1 (x:=.int i 0) rfl ?_);refine wpAny_bind (m:=seqItems? (.ref t)) (wpAny_seqItems e2 d2 ?_);simp only[Int.toNat_natCast,hx];refine wpAny_bind (wpAny_rule (wpAny_bind (wpAny_setField e1 d1 (by simp) ?_)))
 refine wpAny_bind (m:=newExc (.type "StopIteration") []) ?_;simp only[newExc,newTuple];refine wpAny_bind (wpAny_newObj_type ?_ (by size_fits))
 refine wpAny_bind (m:=firstArgMember _ _) (wpAny_of_eq (a:=Value.none) (by first | rfl | (simp only[firstArgMember];rfl)) (wpAny_newObj_type ?_ (by size_fits)))
 simp only[raiseNew];refine wpAny_bind (wpAny_handled ?_);first | rw[show A.in1.handled=none from hh] | rw[hh]
 refine wpAny_bind (wpAny_pure (wpAny_throw (q _ _ ?_ ⟨_,Heap.get?_push_size _ rfl,rfl⟩)));exact((Heap.SameBut.update ..).extBut.push _).push _
theorem src(hh:A.handled=none)(k:Bool)(it l:Addr)(ne:l≠it)(xs:Array Value):Draws prog w A it [it,l] xs.size (fun i v=>xs[i]? = some v) (fun i h=>It1 k h it l i/\Sq1 k h l xs):=by
 cases k with
 | false=>exact Draws.list hh it l ne xs
 | true=>exact{
   live:=fun _ _ z=>let ⟨o,e,_⟩:=z.1;⟨o,e⟩
   frame:=fun _ _ _ z kk=>⟨(let ⟨o,e,r⟩:=z.1;⟨o,kk it (by simp) o e,r⟩),(let ⟨o,e,r⟩:=z.2;⟨o,kk l (by simp) o e,r⟩)⟩
   item:=fun i s Q E hi z q=>awh z.1 z.2 (x:=xs[i]) (by simp[hi]) fun h' z' sb=>q _ h' s.toks (by simp[hi]) ⟨z',Heap.IsTuple.extBut z.2 sb.extBut ne⟩ sb
   done:=fun s Q E z q=>axg hh z.1 z.2 (by simp) q }
theorem It1.at{k:Bool}{h h':Heap}{it l:Addr}{i:Nat}(x:It1 k h it l i)(e:∀o,h.get? it=some o->h'.get? it=some o):It1 k h' it l i:=by
 cases k <;> exact(let ⟨o,z,r⟩:=x;⟨o,e _ z,r⟩)
theorem It1.got{k:Bool}{h:Heap}{it l:Addr}{i:Nat}(x:It1 k h it l i):∃o,h.get? it=some o/\∀v,o.data≠.cell v:=by
 cases k <;> exact(let ⟨o,z,_,r⟩:=x;⟨o,z,fun v e=>by rw[r] at e;cases e⟩)
theorem Sq1.at{k:Bool}{h h':Heap}{l:Addr}{xs:Array Value}(x:Sq1 k h l xs)(e:∀o,h.get? l=some o->h'.get? l=some o):Sq1 k h' l xs:=by
 cases k <;> exact(let ⟨o,z,r⟩:=x;⟨o,e _ z,r⟩)
theorem Sq1.got{k:Bool}{h:Heap}{l:Addr}{xs:Array Value}(x:Sq1 k h l xs):∃o,h.get? l=some o:=by
 cases k <;> exact(let ⟨o,z,_⟩:=x;⟨o,z⟩)
theorem az8{k:Bool}{l:Addr}{xs:Array Value}{Q:Value->Shared->Prop}(h:Sq1 k s.heap l xs)
  (q:Q (.ref s.heap.objs.size) { s with heap:=s.heap.push { cls:=.type (cond k "tuple_iterator" "list_iterator"),data:=.fields #[.ref l,.int 0 0] } }):wpAny (model prog w) A (pyIter (.ref l)) Q E s:=by
 cases k with
 | false=>exact wpAny_pyIter_list h q
 | true=>exact wpAny_pyIter_tuple h q
theorem ap6{k:Bool}{h:Heap}{l a:Addr}(e:h.get? a=some { cls:=.type (cond k "tuple_iterator" "list_iterator"),data:=.fields #[.ref l,.int 0 0] }):It1 k h a l 0:=by
 cases k <;> exact⟨_,e,rfl,rfl⟩
end
set_option maxRecDepth 100000
end En
namespace En
open PySem PySem.Builtin
set_option maxRecDepth 100000
theorem avd(v1 v2:Value):checkTypeCall "zip" ⟨[v1,v2],[]⟩=pure ():=by kernel_rfl
theorem awl(v1 v2:Value):checkBuiltinCall "zip.__new__" ⟨[.type "zip", v1,v2],[]⟩=pure ():=by kernel_rfl
theorem axx(o v1 v2:Value):argsOk "object.__init__" ⟨[o,v1,v2],[]⟩:=by
 unfold argsOk;rw[signature?_of (id := "object.__init__") (n:=['_','_','t','i','n','i','_','_']) (o:=['t','c','e','j','b','o']) (by kernel_rfl) F.owner_object];kernel_rfl
abbrev Row2(h:Heap)(T:Addr)(v1 v2:Value):Prop:=h.get? T=some { cls:=.type "tuple", data:=.seq #[v1,v2] }
structure Apart2 (z TI TO i1 i2 l1 l2:Addr):Prop where
 nTIz:TI≠z
 nTOz:TO≠z
 nTOTI:TO≠TI
 ni1z:i1≠z
 ni1TI:i1≠TI
 ni1TO:i1≠TO
 ni2z:i2≠z
 ni2TI:i2≠TI
 ni2TO:i2≠TO
 ni2i1:i2≠i1
 nl1z:l1≠z
 nl1TO:l1≠TO
 nl1i1:l1≠i1
 nl1i2:l1≠i2
 nl2z:l2≠z
 nl2TO:l2≠TO
 nl2i1:l2≠i1
 nl2i2:l2≠i2
section
variable{prog:Program}{w:World}{A:Around}{E:Value->Shared->Prop}{s:Shared}
theorem ayq{T:Addr}{v1 v2 x:Value}{Q:Unit->Shared->Prop}(h:Row2 s.heap T v1 v2)(q:∀h',Row2 h' T x v2->Heap.SameBut T s.heap h'->Q () { s with heap:=h' }):wpAny (model prog w) A (updateSeq T (·.setIfInBounds 0 x)) Q E s:=by
 refine wpAny_updateSeq h rfl (q _ (show Heap.get? _ T=_ from ?_) (Heap.SameBut.update ..))
 rw[Heap.get?_update_self _ h rfl];simp[Obj.mapSeq]
theorem ayp{T:Addr}{v1 v2 x:Value}{Q:Unit->Shared->Prop}(h:Row2 s.heap T v1 v2)(q:∀h',Row2 h' T v1 x->Heap.SameBut T s.heap h'->Q () { s with heap:=h' }):wpAny (model prog w) A (updateSeq T (·.setIfInBounds 1 x)) Q E s:=by
 refine wpAny_updateSeq h rfl (q _ (show Heap.get? _ T=_ from ?_) (Heap.SameBut.update ..))
 rw[Heap.get?_update_self _ h rfl];simp[Obj.mapSeq]
theorem aou{z TI TO i1 i2 l1 l2:Addr}{k1 k2:Bool}{i:Nat}{x1 x2:Array Value}{v1 v2:Value}{Q:Value->Shared->Prop}(hh:A.handled=none)(D:Apart2 z TI TO i1 i2 l1 l2)
  (hz:IsZip s.heap z TI TO .none) (hI:Row2 s.heap TI (.ref i1) (.ref i2)) (hO:Row2 s.heap TO v1 v2) (h1:It1 k1 s.heap i1 l1 i) (s1:Sq1 k1 s.heap l1 x1) (h2:It1 k2 s.heap i2 l2 i) (s2:Sq1 k2 s.heap l2 x2) (b1:i < x1.size) (b2:i < x2.size)
  (q:∀h' tk y1 y2,x1[i]? = some y1->x2[i]? = some y2->IsZip h' z TI TO (rawInt s.heap.objs.size)->Row2 h' TO y1 y2->It1 k1 h' i1 l1 (i+1)->It1 k2 h' i2 l2 (i+1)->Row2 h' s.heap.objs.size y1 y2->h'.objs.size=s.heap.objs.size+1 ->
   (∀c o,c≠z->c≠TO->c≠i1->c≠i2->s.heap.get? c=some o->h'.get? c=some o)->Q (.ref s.heap.objs.size) { s with heap:=h',toks:=tk }) :
  wpAny (model prog w) A (Builtin.«zip.__next__» ⟨[.ref z],[]⟩) (fun fin s'=>∃v,fin=.done (.ret v)/\Q v s') E s:=by
 refine wpAny_bind (m:=field (.ref z) 2) (wpAny_field hz rfl (x:=.bool false) rfl ?_);refine wpAny_bind (m:=field (.ref z) 3) (wpAny_field hz rfl (x:=.ref TI) rfl ?_);refine wpAny_bind (wpAny_seqItems hI rfl ?_);refine wpAny_bind (m:=SmallTypes.ownedTupleIsFree (.ref z)) ?_;unfold SmallTypes.ownedTupleIsFree;refine wpAny_bind (wpAny_field hz rfl (x:=.none) rfl (wpAny_pure ?_));simp only[if_true];refine wpAny_bind (wpAny_rule (wpAny_bind (wpAny_field hz rfl (x:=.ref TO) rfl ?_)));refine wpAny_bind (wpAny_setField_rec hz (by simp) fun g0 z0 a0 =>?_)
 have z0:IsZip g0 z TI TO .ellipsis:=z0;refine wpAny_bind ?_;simp only[List.zipIdx_cons,List.zipIdx_nil,List.forIn_cons,List.forIn_nil];refine wpAny_bind (wpAny_bind (wpAny_onRaise ?_));refine wpAny_bind (m:=SmallTypes.nextOf (.ref i1)) ((src hh k1 i1 l1 D.nl1i1 x1).item i _ _ _ b1 ⟨(h1.at fun _ e=>(a0.extBut _ _ D.ni1z e)),(s1.at fun _ e=>(a0.extBut _ _ D.nl1z e))⟩ fun y1 f1 t1 p1 q1 c1=>wpAny_pure ?_)
 have c1:Heap.SameBut i1 g0 f1:=c1;have P1:Row2 f1 TO v1 v2:=(c1.extBut _ _ D.ni1TO.symm (a0.extBut _ _ D.nTOz hO));refine wpAny_bind (wpAny_seqItems P1 rfl ?_);refine wpAny_bind (ayq P1 fun g1 O1 a1 =>?_)
 have a1:Heap.SameBut TO f1 g1:=a1;refine wpAny_bind (wpAny_letGo (wpAny_pure ?_));refine wpAny_bind (wpAny_bind (wpAny_onRaise ?_));refine wpAny_bind (m:=SmallTypes.nextOf (.ref i2)) ((src hh k2 i2 l2 D.nl2i2 x2).item i _ _ _ b2 ⟨(h2.at fun _ e=>(a1.extBut _ _ D.ni2TO (c1.extBut _ _ D.ni2i1 (a0.extBut _ _ D.ni2z e)))),(s2.at fun _ e=>(a1.extBut _ _ D.nl2TO (c1.extBut _ _ D.nl2i1 (a0.extBut _ _ D.nl2z e))))⟩ fun y2 f2 t2 p2 q2 c2=>wpAny_pure ?_)
 have c2:Heap.SameBut i2 g1 f2:=c2;have P2:Row2 f2 TO y1 v2:=(c2.extBut _ _ D.ni2TO.symm O1);refine wpAny_bind (wpAny_seqItems P2 rfl ?_);refine wpAny_bind (ayp P2 fun g2 O2 a2 =>?_)
 have a2:Heap.SameBut TO f2 g2:=a2;refine wpAny_bind (wpAny_letGo (wpAny_pure (wpAny_pure ?_)));refine wpAny_bind (wpAny_seqItems O2 rfl (wpAny_bind (wpAny_newTuple ?_)));have sz:g2.objs.size=s.heap.objs.size:=by rw[a2.1,c2.1,a1.1,c1.1,a0.1]
 have zn:IsZip g2 z TI TO .ellipsis:=(a2.extBut _ _ D.nTOz.symm (c2.extBut _ _ D.ni2z.symm (a1.extBut _ _ D.nTOz.symm (c1.extBut _ _ D.ni1z.symm z0))));have kn:∀c o,c≠z->c≠TO->c≠i1->c≠i2->s.heap.get? c=some o->g2.get? c=some o:=fun c o n0 n1 n2 n3 e=>(a2.extBut _ _ n1 (c2.extBut _ _ n3 (a1.extBut _ _ n1 (c1.extBut _ _ n2 (a0.extBut _ _ n0 e)))))
 have j1:It1 k1 g2 i1 l1 (i+1):=q1.1.at fun _ e=>(a2.extBut _ _ D.ni1TO (c2.extBut _ _ D.ni2i1.symm (a1.extBut _ _ D.ni1TO e)))
 have j2:It1 k2 g2 i2 l2 (i+1):=q2.1.at fun _ e=>(a2.extBut _ _ D.ni2TO e)
 have lz:z < g2.objs.size:=Heap.lt_size zn;refine wpAny_bind (m:=SmallTypes.ownedTupleHandOut (.ref z) (.ref g2.objs.size)) ?_;unfold SmallTypes.ownedTupleHandOut;have zp:IsZip (g2.push { cls:=.type "tuple", data:=.seq #[y1,y2] }) z TI TO .ellipsis:=Heap.get?_push_of_some _ zn;refine wpAny_bind (wpAny_setField_rec zp (by simp) fun e1 z1 b1' =>?_)
 have z1:IsZip e1 z TI TO (rawInt g2.objs.size):=z1;refine wpAny_setField_rec z1 (by simp) fun e2 z2 b2' =>?_
 have z2:IsZip e2 z TI TO (rawInt g2.objs.size):=z2;have up:∀c o,c≠z->g2.get? c=some o->e2.get? c=some o:=fun c o n1 e=>b2'.extBut _ _ n1 (b1'.extBut _ _ n1 (Heap.get?_push_of_some _ e))
 have t2:Row2 e2 g2.objs.size y1 y2:=b2'.extBut _ _ (Nat.ne_of_gt lz) (b1'.extBut _ _ (Nat.ne_of_gt lz) (Heap.get?_push_size _ rfl));have s2':e2.objs.size=g2.objs.size+1:=by rw[b2'.1,b1'.1,Heap.size_push]
 rw[sz] at z2 t2 s2';refine wpAny_pure ⟨_,rfl,?_⟩;show Q (.ref g2.objs.size) _;rw[sz];exact q e2 _ y1 y2 p1 p2 z2 (up _ _ D.nTOz O2) (j1.at fun _ e=>up _ _ D.ni1z e) (j2.at fun _ e=>up _ _ D.ni2z e) t2 s2' fun c o n0 n1 n2 n3 e=>up c o n0 (kn c o n0 n1 n2 n3 e)
theorem arq{z TI TO i1 i2 l1 l2:Addr}{k1:Bool}{x1:Array Value}{v1 v2:Value}{Q:Fin->Shared->Prop}(hh:A.handled=none)(D:Apart2 z TI TO i1 i2 l1 l2)
  (hz:IsZip s.heap z TI TO .none) (hI:Row2 s.heap TI (.ref i1) (.ref i2)) (hO:Row2 s.heap TO v1 v2) (h1:It1 k1 s.heap i1 l1 x1.size) (s1:Sq1 k1 s.heap l1 x1)
  (q:∀h' e,(∀c o,c≠z->c≠i1->s.heap.get? c=some o->h'.get? c=some o)->(∃o,h'.get? e=some o/\o.cls=.type "StopIteration")->E (.ref e) { s with heap:=h' }) :
  wpAny (model prog w) A (Builtin.«zip.__next__» ⟨[.ref z],[]⟩) Q E s:=by
 refine wpAny_bind (m:=field (.ref z) 2) (wpAny_field hz rfl (x:=.bool false) rfl ?_);refine wpAny_bind (m:=field (.ref z) 3) (wpAny_field hz rfl (x:=.ref TI) rfl ?_);refine wpAny_bind (wpAny_seqItems hI rfl ?_);refine wpAny_bind (m:=SmallTypes.ownedTupleIsFree (.ref z)) ?_;unfold SmallTypes.ownedTupleIsFree;refine wpAny_bind (wpAny_field hz rfl (x:=.none) rfl (wpAny_pure ?_));simp only[if_true];refine wpAny_bind (wpAny_rule (wpAny_bind (wpAny_field hz rfl (x:=.ref TO) rfl ?_)));refine wpAny_bind (wpAny_setField_rec hz (by simp) fun g0 z0 a0 =>?_)
 have z0:IsZip g0 z TI TO .ellipsis:=z0;refine wpAny_bind ?_;simp only[List.zipIdx_cons,List.zipIdx_nil,List.forIn_cons,List.forIn_nil];refine wpAny_bind (wpAny_bind (wpAny_onRaise ?_));refine wpAny_bind (m:=SmallTypes.nextOf (.ref i1)) ((src hh k1 i1 l1 D.nl1i1 x1).done _ _ _ ⟨(h1.at fun _ e=>a0.extBut _ _ D.ni1z e),(s1.at fun _ e=>a0.extBut _ _ D.nl1z e)⟩ fun f1 e c1 ⟨oe,he,ce⟩ =>?_)
 have zf:IsZip f1 z TI TO .ellipsis:=c1 _ _ D.ni1z.symm z0;have ez:e≠z:=fun x=>by subst x;rw[zf] at he;cases he;simp at ce
 refine wpAny_setField_rec zf (by simp) fun f2 _ a1=>q f2 e (fun c o n1 n2 y=>a1.extBut _ _ n1 (c1 _ _ n2 (a0.extBut _ _ n1 y))) ⟨oe,a1.extBut _ _ ez he,ce⟩
abbrev aov(h:Heap)(k1 k2:Bool)(l1 l2:Addr):Heap:=h.push { cls:=.type (cond k1 "tuple_iterator" "list_iterator"),data:=.fields #[.ref l1,.int 0 0] }
abbrev aru(h:Heap)(k1 k2:Bool)(l1 l2:Addr):Heap:=(aov h k1 k2 l1 l2).push { cls:=.type (cond k2 "tuple_iterator" "list_iterator"),data:=.fields #[.ref l2,.int 0 0] }
abbrev art(h:Heap)(k1 k2:Bool)(l1 l2:Addr):Heap:=(aru h k1 k2 l1 l2).push { cls:=.type "tuple", data:=.seq #[.ref h.objs.size,.ref (aov h k1 k2 l1 l2).objs.size] }
abbrev ars(h:Heap)(k1 k2:Bool)(l1 l2:Addr):Heap:=(art h k1 k2 l1 l2).push { cls:=.type "tuple", data:=.seq #[.none,.none] }
abbrev ak5(h:Heap)(k1 k2:Bool)(l1 l2:Addr):Heap:=(ars h k1 k2 l1 l2).push { cls:=.type "zip", data:=.fields #[.none,.bool false,.bool false,.ref (aru h k1 k2 l1 l2).objs.size,.ref (art h k1 k2 l1 l2).objs.size] }
theorem awm(k1 k2:Bool)(l1 l2:Addr)(x1 x2:Array Value) :
  Meets (Builtin.«zip.__new__» ⟨[.type "zip", .ref l1,.ref l2],[]⟩) (fun _ R s=>Sq1 k1 s.heap l1 x1/\Sq1 k2 s.heap l2 x2/\R (.ok (.ret (.ref (ars s.heap k1 k2 l1 l2).objs.size))) { s with heap:=ak5 s.heap k1 k2 l1 l2 }) :=
 .of_wp fun prog w A R s h=>by
  obtain⟨hp,g,d,tk,os⟩:=s;obtain⟨s1,s2,h⟩:=h;have sb:=sub_zip;have r1:Sq1 k1 (Shared.heap ⟨hp,g,d,tk,os⟩) l1 x1:=s1.at fun _ e=>e
  have r2:Sq1 k2 (Shared.heap ⟨aov hp k1 k2 l1 l2,g,d,tk,os⟩) l2 x2:=s2.at fun _ e=>Heap.get?_push_of_some _ (e)
  wp_walk using az8 r1,az8 r2;exact⟨_,rfl,h⟩
theorem aq4{k1 k2:Bool}{l1 l2:Addr}{x1 x2:Array Value}{Q:Value->Shared->Prop}(s1:Sq1 k1 s.heap l1 x1)(s2:Sq1 k2 s.heap l2 x2)
  (q:∀h',IsZip h' (s.heap.objs.size+4) (s.heap.objs.size+2) (s.heap.objs.size+3) .none->Row2 h' (s.heap.objs.size+2) (.ref s.heap.objs.size) (.ref (s.heap.objs.size+1))->Row2 h' (s.heap.objs.size+3) .none .none->It1 k1 h' s.heap.objs.size l1 0->It1 k2 h' (s.heap.objs.size+1) l2 0->h'.objs.size=s.heap.objs.size+5->(∀c o,s.heap.get? c=some o->h'.get? c=some o)->Q (.ref (s.heap.objs.size+4)) { s with heap:=h' }) :
  wpAny (model prog w) A (call (.type "zip") [.ref l1,.ref l2]) Q E s:=by
 refine callType_new F.called_zip (by decide) (avd _ _) (awl _ _) (fun obj=>axx obj _ _) F.entry_zip_new (awm k1 k2 l1 l2 x1 x2) ⟨s1,s2,?_⟩
 have e1:(aov s.heap k1 k2 l1 l2).objs.size=s.heap.objs.size+1:=by rw[Heap.size_push]
 have e2:(aru s.heap k1 k2 l1 l2).objs.size=s.heap.objs.size+2:=by rw[Heap.size_push,e1]
 have eI:(art s.heap k1 k2 l1 l2).objs.size=s.heap.objs.size+3:=by rw[Heap.size_push,e2]
 have eO:(ars s.heap k1 k2 l1 l2).objs.size=s.heap.objs.size+4:=by rw[Heap.size_push,eI]
 have eZ:(ak5 s.heap k1 k2 l1 l2).objs.size=s.heap.objs.size+5:=by rw[Heap.size_push,eO]
 have gZ:(ak5 s.heap k1 k2 l1 l2).get? (ars s.heap k1 k2 l1 l2).objs.size=some _:=Heap.get?_push_size _ rfl;have gO:(ak5 s.heap k1 k2 l1 l2).get? (art s.heap k1 k2 l1 l2).objs.size=some _:=Heap.get?_push_of_some _ (Heap.get?_push_size _ rfl);have gI:(ak5 s.heap k1 k2 l1 l2).get? (aru s.heap k1 k2 l1 l2).objs.size=some _:=Heap.get?_push_of_some _ (Heap.get?_push_of_some _ (Heap.get?_push_size _ rfl));have j1:(ak5 s.heap k1 k2 l1 l2).get? s.heap.objs.size=some _:=Heap.get?_push_of_some _ (Heap.get?_push_of_some _ (Heap.get?_push_of_some _ (Heap.get?_push_of_some _ (Heap.get?_push_size _ rfl))));have j2:(ak5 s.heap k1 k2 l1 l2).get? (aov s.heap k1 k2 l1 l2).objs.size=some _:=Heap.get?_push_of_some _ (Heap.get?_push_of_some _ (Heap.get?_push_of_some _ (Heap.get?_push_size _ rfl)));show _/\_;rw[e2,eI,eO] at gZ;rw[e1,e2] at gI;rw[eI] at gO;rw[e1] at j2;rw[eO];exact⟨⟨_,gZ,rfl⟩,q _ gZ gI gO (ap6 j1) (ap6 j2) eZ fun c o x=>Heap.get?_push_of_some _ (Heap.get?_push_of_some _ (Heap.get?_push_of_some _ (Heap.get?_push_of_some _ (Heap.get?_push_of_some _ (x)))))⟩
end
structure Apart3 (z TI TO i1 i2 i3 l1 l2 l3:Addr):Prop where
 nTIz:TI≠z
 nTOz:TO≠z
 nTOTI:TO≠TI
 ni1z:i1≠z
 ni1TI:i1≠TI
 ni1TO:i1≠TO
 ni2z:i2≠z
 ni2TI:i2≠TI
 ni2TO:i2≠TO
 ni2i1:i2≠i1
 ni3z:i3≠z
 ni3TI:i3≠TI
 ni3TO:i3≠TO
 ni3i1:i3≠i1
 ni3i2:i3≠i2
 nl1z:l1≠z
 nl1TO:l1≠TO
 nl1i1:l1≠i1
 nl1i2:l1≠i2
 nl1i3:l1≠i3
 nl2z:l2≠z
 nl2TO:l2≠TO
 nl2i1:l2≠i1
 nl2i2:l2≠i2
 nl2i3:l2≠i3
 nl3z:l3≠z
 nl3TO:l3≠TO
 nl3i1:l3≠i1
 nl3i2:l3≠i2
 nl3i3:l3≠i3
section
variable{prog:Program}{w:World}{A:Around}{E:Value->Shared->Prop}{s:Shared}
end
end En
namespace Mn
open L2 En
def SqK(k:Bool)(K:Fg9)(H:Hp)(a:Addr)(xs:List V):Prop:=cond k (SqT K H a xs) (SqL K H a xs)
theorem ajf{xs:List V}{us:List Value}(r:Vals xs us){i:Nat}{x:V}{u:Value}(h:xs[i]? = some x)(h':us.toArray[i]? = some u):RelV x u:=by
 obtain⟨u',e,z⟩:=r.get h;have:us[i]? = some u:=by simpa using h'
 rw[this] at e;cases e;exact z
section
variable{X:Cx}{qv:List (Addr×Obj)}{σ:L2.St}{H:Hp}{s:Shared}{h':Heap}{a:Addr}{xs ys:List V}{k:Bool}
theorem akf(I:Inv X qv σ H s)(h:SqK k X.K H a xs):∃its:List Value,Vals xs its/\Sq1 k s.heap a its.toArray:=by
 cases k with
 | false =>
  obtain⟨its,r,p,_⟩:=I.list h;exact⟨its,r,p.isList⟩
 | true =>
  obtain⟨its,r,p,_⟩:=I.tuple h;exact⟨its,r,p⟩
theorem ap8(I:Inv X qv σ H s)(h:SqK k X.K H a xs)(h2:SqK k X.K H a ys):xs=ys:=by
 cases k with
 | false=>exact I.list_inj h h2
 | true=>exact I.tuple_inj h h2
theorem ahj{t':Nat}{fp:List Addr}(I:Inv X qv σ H s)(kk:∀b o,b∉fp->s.heap.get? b=some o->h'.get? b=some o)(hf:∀b∈fp,FpOk X qv H b):Inv X qv σ H { s with heap:=h',toks:=t' }:=by
 have nit:∀b u,H b=some u->b∉fp:=fun b u e z=>by rw[(hf b z).1] at e;cases e
 have nL:X.env.locals∉fp:=fun z=>(hf _ z).2.1 rfl
 refine I.step (g':=s.gens) (d':=s.drawn) (ch:=fp) (fun b hb=>⟨(hf b hb).2.2.2.1,(hf b hb).2.1,(hf b hb).2.2.2.2.1,(hf b hb).2.2.2.2.2⟩) (fun b o _ _ hc e _=>kk b o hc e) (fun b o _ _ hc e _=>⟨o.slots,kk b o hc e⟩) (fun _ _ _ _ n=>n)
  (fun b o hc e=>⟨o,kk b o hc e⟩) (fun _ _ e=>e) (fun _ _ _ e=>e) (fun b ps e=>⟨#[],by rw[e];simp⟩) (fun m hm =>?_) (fun b u e =>?_) I.bare
 ·obtain⟨o,es,ep,ho,r⟩:=hm;exact⟨o,es,ep,kk _ o nL ho,r⟩
 ·refine(I.hok b u e).stay (fun c v hc q=>kk c v ?_ q) (fun _ q=>q) fun _ _ q=>q
  rcases hc with z | z
  ·rw[z];exact nit b u e
  ·exact nit c _ z
theorem aw1{t':Nat}{fp:List Addr}{vs:List V}{us:List Value}(I:Inv X qv σ H s)(kk:∀b o,b∉fp->s.heap.get? b=some o->h'.get? b=some o)(hf:∀b∈fp,FpOk X qv H b)(hb:∀b∈fp,b < s.heap.objs.size)
  (r:Vals vs us) (hz:vs.length<=sizeLine) (ht:h'.get? s.heap.objs.size=some { cls:=.type "tuple", data:=.seq us.toArray }):Inv X qv σ (upd H s.heap.objs.size (.tup vs)) { s with heap:=h',toks:=t' }:=by
 have I1:=I.laid (h':=s.heap.push { cls:=.type "tuple", data:=.seq us.toArray }) (t':=s.toks) (a:=s.heap.objs.size) (o:=.tup vs) (fun b u e=>Heap.get?_push_of_some _ e) (Nat.le_refl _) ⟨hz,us,r,⟨_,Heap.get?_push_size _ rfl,rfl,rfl,_,rfl⟩⟩
 have k2:∀b o,b∉fp->(s.heap.push { cls:=.type "tuple", data:=.seq us.toArray }).get? b=some o->h'.get? b=some o:=fun b o hn e=>by
  rcases Heap.get?_push_cases e with⟨rfl,rfl⟩ | e
  ·exact ht
  ·exact kk b o hn e
 have f2:∀b∈fp,FpOk X qv (upd H s.heap.objs.size (.tup vs)) b:=fun b hb'=>by
  obtain⟨f0,f⟩:=hf b hb';exact⟨by rw[cu (Nat.ne_of_lt (hb b hb'))];exact f0,f⟩
 have R:=ahj (t':=t') (h':=h') (fp:=fp) I1 k2 f2;exact R
end
theorem a0r:bootBuiltins "zip" = some (.type "zip"):=by decide +kernel
section
variable{X:Cx}
end
end Mn
namespace En
open PySem PySem.Builtin
theorem aup{prog:Program}{w:World}{A:Around}{E:Value->Shared->Prop}{s:Shared}{z TI TO:Addr}{f0:Value}{Q:Option Value->Shared->Prop}(hz:IsZip s.heap z TI TO f0)
  (h:wpAny (model prog w) A.in1 (Builtin.«zip.__next__» ⟨[.ref z],[]⟩) (fun fin s'=>∃v,fin=.done (.ret v)/\Q (some v) s') (fun e s'=>∃a o,e=.ref a/\s'.heap.get? a=some o/\o.cls=.type "StopIteration" /\ Q none s') s) :
  wpAny (model prog w) A (pyNext (.ref z)) Q E s:=by
 have tz:s.TypeIs (.ref z) "zip" := ⟨_,hz,rfl⟩;unfold pyNext;refine wpAny_bind (wpAny_attempt (wpAny_callSpecial?_slot (name:=Str.ofString "__next__") tz F.slot_zip_next (wpAny_call_entry F.slot_zip_next tz F.entry_zip_next (wpAny_mono h (fun fin s' ⟨v,e,q⟩=>⟨v,e,wpAny_pure q⟩) fun e s' ⟨a,o,e1,e2,e3,q⟩ =>?_) (F.args_zip_next_1 _))))
 subst e1;exact wpAny_bind (wpAny_isInstance (T := "StopIteration") (b:=true) ⟨o,e2,e3⟩ isSubtype_stop (wpAny_pure q))
end En
namespace Mn
open L2 En
def Itz2(K:Fg9)(k1 k2:Bool)(a1 a2:Addr):It :=
 ⟨fun i H=>∃x1 x2 v1 v2,(SqK k1 K H a1 x1/\x1[i]? = some v1)/\(SqK k2 K H a2 x2/\x2[i]? = some v2),fun i H x H'=>∃q v1 v2,H q=none/\x=.ref q/\H'=upd H q (.tup [v1,v2])/\(∀xs,SqK k1 K H a1 xs->xs[i]? = some v1)/\(∀xs,SqK k2 K H a2 xs->xs[i]? = some v2),fun i H=>∃xs,SqK k1 K H a1 xs/\xs.length=i⟩
theorem aoy{P:Program}{w:World}{K:Fg9}{elts:List Expr}{n:Nat}{pos:Pos}(k1 k2:Bool)(a1 a2 z TI TO i1 i2:Addr)(D:Apart2 z TI TO i1 i2 a1 a2) :
  Turn P w K (.Tuple elts n pos) (Itz2 K k1 k2 a1 a2) [z,TI,TO,i1,i2] z (fun i h=>IsZip h z TI TO .none/\Row2 h TI (.ref i1) (.ref i2)/\(∃v1 v2,Row2 h TO v1 v2)/\It1 k1 h i1 a1 i/\It1 k2 h i2 a2 i) where
 mem:=by simp
 obj:=fun i h ⟨hz,hI,⟨v1,v2,hO⟩,h1,h2⟩ b hb=>by
  have hb:b=z∨b=TI∨b=TO∨b=i1∨b=i2:=by simpa using hb
  rcases hb with rfl | rfl | rfl | rfl | rfl
  ·exact⟨_,hz,fun v z=>by cases z⟩
  ·exact⟨_,hI,fun v z=>by cases z⟩
  ·exact⟨_,hO,fun v z=>by cases z⟩
  ·exact h1.got
  ·exact h2.got
 keep:=fun i h h' ⟨hz,hI,⟨v1,v2,hO⟩,h1,h2⟩ kk=>⟨kk z (by simp) _ hz,kk TI (by simp) _ hI,⟨v1,v2,kk TO (by simp) _ hO⟩,h1.at fun o e=>kk i1 (by simp) o e,h2.at fun o e=>kk i2 (by simp) o e⟩
 item:=by
  intro X hP hw hK hc i qv s σ H E I hf st hg;subst hP hw hK;obtain⟨hz,hI,⟨o1,o2,hO⟩,h1,h2⟩:=st;obtain⟨x1,x2,v1,v2,⟨hq1,hx1⟩,⟨hq2,hx2⟩⟩:=hg;obtain⟨t1,r1,s1⟩:=akf I hq1;obtain⟨u1,hu1,_⟩:=r1.get hx1;have b1:i < t1.toArray.size:=by simpa using (List.getElem?_eq_some_iff.mp hu1).1
  obtain⟨t2,r2,s2⟩:=akf I hq2;obtain⟨u2,hu2,_⟩:=r2.get hx2;have b2:i < t2.toArray.size:=by simpa using (List.getElem?_eq_some_iff.mp hu2).1
  refine aup hz (aou (I.ok.hd hc) D hz hI hO h1 s1 h2 s2 b1 b2 fun g tk y1 y2 p1 p2 z2 O2 j1 j2 T2 hsz hk =>?_)
  refine⟨_,rfl,wpAny_letOwnedTupleGo_zip z2 fun g2 he2 sb =>?_⟩
  have fr:H s.heap.objs.size=none:=I.hok.fresh (Nat.le_refl _);have lt:∀b∈[z,TI,TO,i1,i2],b < s.heap.objs.size:=fun b hb=>by
   have hb:b=z∨b=TI∨b=TO∨b=i1∨b=i2:=by simpa using hb
   rcases hb with rfl | rfl | rfl | rfl | rfl
   ·exact Heap.lt_size hz
   ·exact Heap.lt_size hI
   ·exact Heap.lt_size hO
   ·obtain⟨o,e,_⟩:=h1.got;exact Heap.lt_size e
   ·obtain⟨o,e,_⟩:=h2.got;exact Heap.lt_size e
  have up:∀b o,b∉[z,TI,TO,i1,i2]->s.heap.get? b=some o->g2.get? b=some o:=fun b o hn e=>sb.extBut _ _ (fun x=>hn (by simp[x])) (hk b o (fun x=>hn (by simp[x])) (fun x=>hn (by simp[x])) (fun x=>hn (by simp[x])) (fun x=>hn (by simp[x])) e)
  have TI2:g2.get? TI=_:=sb.extBut _ _ D.nTIz (hk TI _ D.nTIz D.nTOTI.symm D.ni1TI.symm D.ni2TI.symm hI);refine⟨.ref s.heap.objs.size,upd H s.heap.objs.size (.tup [v1,v2]),?_,rfl,⟨_,v1,v2,fr,rfl,rfl,fun ys hy=>by rw[ap8 I hy hq1];exact hx1,fun ys hy=>by rw[ap8 I hy hq2];exact hx2⟩,⟨he2,TI2,⟨y1,y2,sb.extBut _ _ D.nTOz O2⟩,(j1.at fun o e=>sb.extBut _ _ D.ni1z e),(j2.at fun o e=>sb.extBut _ _ D.ni2z e)⟩,fun b hb =>?_⟩
  ·exact aw1 (fp:=[z,TI,TO,i1,i2]) (us:=[y1,y2]) I up hf lt (.cons (ajf r1 hx1 p1) (.cons (ajf r2 hx2 p2) .nil)) (by rw[sizeLine_eq];simp) (sb.extBut _ _ (Nat.ne_of_gt (lt z (by simp))) T2)
  ·rw[cu (Nat.ne_of_lt (lt b hb))];exact(hf b hb).1
 done:=by
  intro X hP hw hK hc i qv s σ H E I hf st hg;subst hP hw hK;obtain⟨hz,hI,⟨o1,o2,hO⟩,h1,h2⟩:=st;obtain⟨xs,hq,hx⟩:=hg;obtain⟨its,rv,sq⟩:=akf I hq;have hl:i=its.toArray.size:=by have:=rv.length;simp;omega
  subst hl;refine aup hz (arq (I.ok.hd hc) D hz hI hO h1 sq fun g e kk ⟨o,he,ce⟩=>⟨e,o,rfl,he,ce,rfl,ahj (t':=s.toks) (fp:=[z,TI,TO,i1,i2]) I (fun b o hn z=>kk b o (fun z=>hn (by simp[z])) (fun z=>hn (by simp[z])) z) hf⟩)
 self:=fun _ _ _ _ _ st h=>wpAny_pyIter_zip st.1 h
theorem apart2{N l1 l2:Nat}(h1:l1 < N)(h2:l2 < N):Apart2 (N+4) (N+2) (N+3) N (N+1) l1 l2:=by
 constructor <;> (intro e;have e:(_:Nat)=_:=e;omega)
section
variable{X:Cx}
def a3l(K:Fg9)(ta:TA):TI:=fun σ H R=>ta σ H fun vs H1=>∃a1 a2 k1 k2,vs=[.ref a1,.ref a2]/\(∃xs,SqK k1 K H1 a1 xs)/\(∃xs,SqK k2 K H1 a2 xs)/\R (Itz2 K k1 k2 a1 a2) H1
theorem av4{e1 e2:Expr}{ta:TA}{p pos:Pos}{elts:List Expr}{n:Nat}{tp:Pos}(hg:Gl X "zip")(hm:X.mg "zip" = none)(ha:PA X [e1,e2] ta)(hs:starEach [e1,e2] X.env=[(false,eval e1 X.env),(false,eval e2 X.env)]:=by rfl)(hs2:starEach [e2] X.env=[(false,eval e2 X.env)]:=by rfl) :
  PI X (.Tuple elts n tp) (.Call (.Name "zip" p) [e1,e2] [] pos) (a3l X.K ta):=by
 intro qv s σ H R I h;refine Call_ (aka I hg hm a0r (PyProof.Rows.callWith_type1 (thn (ha pos qv s σ H _ I h) fun us s1 ⟨vs,H1,I1,r1,q1⟩ =>?_) (by rw[hs,hs2]) (by rw[hs2];rfl)))
 obtain⟨a1,a2,k1,k2,rfl,⟨x1,hq1⟩,⟨x2,hq2⟩,q⟩:=q1;obtain⟨u1,u2,rfl,ru1,ru2⟩:=vals2 r1;cases ru1;cases ru2;obtain⟨t1,r1',sq1⟩:=akf I1 hq1;have b1:a1 < s1.heap.objs.size:=by obtain⟨o,e⟩:=sq1.got;exact Heap.lt_size e
 obtain⟨t2,r2',sq2⟩:=akf I1 hq2;have b2:a2 < s1.heap.objs.size:=by obtain⟨o,e⟩:=sq2.got;exact Heap.lt_size e
 refine aq4 sq1 sq2 fun g hz hI hO h1 h2 hsz kk=>wpAny_pyIter_zip hz ?_
 have I2:Inv X qv σ H1 { s1 with heap:=g }:=I1.kept (t':=s1.toks) kk
 refine⟨_,[s1.heap.objs.size+4,s1.heap.objs.size+2,s1.heap.objs.size+3,s1.heap.objs.size,s1.heap.objs.size+1],_,_,H1,rfl,I2,aoy k1 k2 a1 a2 _ _ _ _ _ (apart2 b1 b2),⟨hz,hI,⟨_,_,hO⟩,h1,h2⟩,fun c hc =>?_,q⟩
 have hc:s1.heap.objs.size<=c:=by
  simp only[List.mem_cons,List.not_mem_nil,or_false] at hc;rcases hc with rfl | rfl | rfl | rfl | rfl <;> first | exact Nat.le_refl _ | exact Nat.le_add_right _ _
 exact I1.fpOk hc (I1.hok.fresh hc)
end
section
variable{X:Cx}
end
end Mn
namespace Dn
open L2 Mn
section
variable{K:Fg9}{X:Cx}{e a b c:Expr}{es elts:List Expr}{pos p tp:Pos}{n:Nat}
theorem aui{F:Hp}{d:D}{l:List D}{v:V}(e:itemsD d=some l)(h:Is K F d v):∃a k vs,v=.ref a/\IsL K F l vs/\∀H,Same F H->SqK k K H a vs:=by
 cases h with
 | tup e1 h1=>cases e;exact⟨_,true,_,rfl,h1,fun H g=>SqT.of (g _ _ e1)⟩
 | lst e1 h1=>cases e;exact⟨_,false,_,rfl,h1,fun H g=>SqL.of (g _ _ e1)⟩
 | kst e1 h1=>cases e;exact⟨_,false,_,rfl,h1,fun H g=>L2.Same.seq g e1⟩
 | _=>cases e
def ac2(l1 l2:List D):List D:=List.zipWith (fun x y=>.tup [x,y]) l1 l2
def ati:List D->Option (List D)
 | [a,b]=>(itemsD a).bind fun l1=>(itemsD b).bind fun l2=>if l1.length<=l2.length then some (ac2 l1 l2) else none
 | _=>none
theorem afi{l1 l2:List D}{i:Nat}{d:D}(h:(ac2 l1 l2)[i]? = some d):∃d1 d2,l1[i]? = some d1/\l2[i]? = some d2/\d=.tup [d1,d2]:=by
 unfold ac2 at h;rw[List.getElem?_zipWith] at h;cases e1:l1[i]? with
 | none=>rw[e1] at h;cases h
 | some d1 =>
  cases e2:l2[i]? with
  | none=>rw[e1,e2] at h;cases h
  | some d2=>rw[e1,e2] at h;cases h;exact⟨_,_,rfl,rfl,rfl⟩
theorem atc{F:Hp}{k1 k2:Bool}{a1 a2:Addr}{l1 l2:List D}{x1 x2:List V}(h:l1.length<=l2.length)(i1:IsL K F l1 x1)(i2:IsL K F l2 x2)(s1:∀H,Same F H->SqK k1 K H a1 x1)(s2:∀H,Same F H->SqK k2 K H a2 x2):ItD K (Itz2 K k1 k2 a1 a2) (ac2 l1 l2) F where
 go:=fun i H s hi=>by
  have z1:=i1.length;have z2:=i2.length;have hi:i < l1.length:=by unfold ac2 at hi;simp at hi;omega
  exact⟨x1,x2,_,_,⟨s1 H s,List.getElem?_eq_getElem (by omega)⟩,s2 H s,List.getElem?_eq_getElem (by omega)⟩
 yld:=fun i H x H' d s y hd=>by
  obtain⟨d1,d2,h1,h2,rfl⟩:=afi hd;obtain⟨q,v1,v2,hq,rfl,rfl,y1,y2⟩:=y;obtain⟨w1,e1,j1⟩:=i1.get h1;obtain⟨w2,e2,j2⟩:=i2.get h2;have z1:=y1 _ (s1 H s);have z2:=y2 _ (s2 H s);rw[e1] at z1;rw[e2] at z2;cases z1;cases z2;exact .inr ⟨q,_,_,hq,rfl,rfl,rfl,.cons j1 (.cons j2 .nil)⟩
 stop:=fun H s=>⟨x1,s1 H s,by unfold ac2;rw[List.length_zipWith,<-i1.length];omega⟩
theorem ap5{m:M (List D)}(hg:Gl X "zip")(hm:X.mg "zip" = none)(h:ED K X [a,b] m)(hs:starEach [a,b] X.env=[(false,eval a X.env),(false,eval b X.env)]:=by rfl)(hs2:starEach [b] X.env=[(false,eval b X.env)]:=by rfl) :
  IT K X (.Tuple elts n tp) (.Call (.Name "zip" p) [a,b] [] pos) (mGet ati m):=IT.mk fun hk=>by
 intro qv s σ H R I ⟨tg,F,ρ,l,ρ',G,em,q⟩;obtain⟨ds,ρ1,e1,em⟩:=bj em;obtain⟨e2,rfl⟩:=ir em;have h:=h hk;subst hk;refine av4 hg hm h hs hs2 qv s σ H R I ⟨tg,F,ρ,ds,_,G,e1,fun vs H' F' G' x r =>?_⟩
 match ds,e2 with
 | [d,d'],e2 =>
  have e2:((itemsD d).bind fun l1=>(itemsD d').bind fun l2=>if l1.length<=l2.length then some (ac2 l1 l2) else none)=some l:=e2
  cases e3:itemsD d with
  | none=>rw[e3] at e2;cases e2
  | some l1 =>
   cases e4:itemsD d' with
   | none=>rw[e3,e4] at e2;cases e2
   | some l2 =>
    rw[e3,e4] at e2;have e2:(if l1.length<=l2.length then some (ac2 l1 l2) else none)=some l:=e2
    split at e2
    ·rename_i hle;cases e2;cases r with
     | cons h1 t =>
      cases t with
      | cons h2 t =>
       cases t;obtain⟨b1,k1,w1,rfl,il1,hq1⟩:=aui e3 h1;obtain⟨b2,k2,w2,rfl,il2,hq2⟩:=aui e4 h2;exact⟨b1,b2,k1,k2,rfl,⟨w1,hq1 _ G'.sub⟩,⟨w2,hq2 _ G'.sub⟩,q _ H' F' G' x (atc hle il1 il2 hq1 hq2)⟩
    ·cases e2
end
end Dn
namespace Mn
open L2
section
variable{prog:Program}{w:World}{A:Around}{E:Value->Shared->Prop}{s:Shared}
theorem an6{l:Addr}{vs:List Value}{ns:List Int}{Q:Value->Shared->Prop}(hl:IsTup s.heap l vs.toArray)(hI:IntsAre vs ns)(h64:vs.length < 64)
  (h:∀(h1 h':Heap) (out:Array Value) (ns':List Int) (e:Nat),(∀b o,s.heap.get? b=some o->h1.get? b=some o)->(∀b o,h1.get? b=some o->h'.get? b=some o)->h'.get? h1.objs.size=some (seqObj "list" out e)->IntsAre out.toList ns'->ns'.Perm ns->ns'.Pairwise (· <= ·)->Q (.ref h1.objs.size) { s with heap:=h' }) :
  wpAny (model prog w) A (call (.builtin "sorted") [.ref l]) Q E s:=by
 obtain⟨o,ho,hc,n,hd⟩:=id hl;refine Calls.call_function_entry kind_sorted plain_sorted entry_sorted (args_sorted1 _) ?_;unfold Builtin.«sorted»
 refine wpAny_bind (m:=checkCount "sorted" 1 1 _) (wpAny_pure ?_);refine wpAny_bind (wpAny_collect_seq l (.inr rfl) ho hc hd (fun h1 k1 =>?_) (by rw[List.size_toArray,sizeLine_eq];omega))
 refine wpAny_bind (wpAny_newList ?_);have hoL:(h1.push (seqObj "list" vs.toArray 0)).get? h1.objs.size=some (seqObj "list" vs.toArray 0):=Heap.get?_push_size _ rfl;show wpAny _ _ _ _ _ { s with heap:=h1.push (seqObj "list" vs.toArray 0) }
 refine wpAny_bind (wpAny_holding (wpAny_call_entry slot_list_sort ⟨_,hoL,rfl⟩ entry_list_sort (list_sort_tree hoL hI h64 fun out ns' a1 a2 a3=>⟨_,rfl,?_⟩) (args_list_sort _)))
 obtain⟨e,he⟩:=sortedHeap_at (out:=out) hoL;exact wpAny_pure ⟨_,rfl,h h1 _ out ns' e k1 (fun b ob q=>by
  have hlt:b < h1.objs.size:=Heap.lt_size q;rw[sortedHeap_old (Nat.ne_of_lt hlt) (by rw[size_push'];exact Nat.lt_succ_of_lt hlt)]
  exact Heap.get?_push_of_some _ q) he a1 a2 a3⟩
end
end Mn
namespace Dn
open L2 Mn
section
variable{K:Fg9}{X:Cx}
def abz:D->Option Rv
 | .tup l=>(sr l).bind fun ns=>if ns.length < 64 then some (.fr ((sortI ns).map D.int)) else none
 | d=>ai3 d
@[simp] theorem auz(l:List D):abz (.lst l)=ai3 (.lst l):=rfl
theorem aop:CallD K X (.builtin "sorted") (g1 fun d=>match d with | .tup l=>(sr l).bind fun ns=>if ns.length < 64 then some (.fr ((sortI ns).map D.int)) else none | _=>none):=abo fun hk qv s σ0 H x u Q tg F ρ σ d r I ru G bd eg q=>by
 subst hk;cases d with
 | tup l =>
  have eg:(sr l).bind (fun ns=>if ns.length < 64 then some (Rv.fr ((sortI ns).map D.int)) else none)=some r:=eg
  cases e:sr l with
  | none=>rw[e] at eg;cases eg
  | some ns =>
   rw[e] at eg;have eg:(if ns.length < 64 then some (Rv.fr ((sortI ns).map D.int)) else none)=some r:=eg
   split at eg
   ·rename_i h64;cases eg;obtain⟨a,vs,rfl,ea,hl⟩:=bd.tup;rw[aby e] at hl;rw[hl.int_inv] at ea;cases ru;obtain⟨its,rv,pl,_⟩:=I.tuple (SqT.of (G.sub _ _ ea));have hlen:=rv.length;rw[List.length_map] at hlen;refine an6 pl (intsAre_of rv) (by omega) fun h1 h' out ns' ep k1 k2 eo i1 hp hs =>?_
    have e':=amm hp hs;subst e';have I1:=I.kept (h':=h1) (t':=s.toks) k1;have hn:H h1.objs.size=none:=I1.hok.fresh (Nat.le_refl _);refine⟨.ref h1.objs.size,upd H h1.objs.size (.lst ((sortI ns).map V.int)),?_,rfl,Res.lst G q (adv _) hn⟩;refine I1.laid (t':=s.toks) k2 (Nat.le_refl _) ?_;refine⟨?_,out.toList,ep,aaw i1,by simpa using eo⟩
    rw[List.length_map,(sortI_perm ns).length_eq];exact Nat.le_of_lt (afq (by omega))
   ·cases eg
 | _=>cases eg
theorem aht:CallD K X (.builtin "sorted") (g1 abz):=abo fun hk qv s σ0 H x u Q tg F ρ σ d r I ru G bd eg q=>by
 cases d with
 | tup l=>exact aop.go hk qv s σ0 H [x] [u] Q I (.cons ru .nil) ⟨tg,F,ρ,σ,[.tup l],r,G,.cons bd .nil,eg,q⟩
 | lst l=>exact aq0.go hk qv s σ0 H [x] [u] Q I (.cons ru .nil) ⟨tg,F,ρ,σ,[.lst l],r,G,.cons bd .nil,eg,q⟩
 | _=>cases eg
end
end Dn
namespace L2
section
variable{M:Model}{A:Around}{E:Value->Shared->Prop}{s:Shared}
structure KeptBut (fs ch:List Addr) (h h':Heap):Prop where
 keep:∀b o,b∉ch->b∉fs->h.get? b=some o->h'.get? b=some o
 slot:∀b o,b∉ch->h.get? b=some o->∃sl,h'.get? b=some { o with slots:=sl }
theorem KeptBut.trans{fs ch:List Addr}{h h1 h2:Heap}(a:KeptBut fs ch h h1)(b:KeptBut fs ch h1 h2):KeptBut fs ch h h2 :=
 ⟨fun c o n1 n2 e=>b.keep c o n1 n2 (a.keep c o n1 n2 e),fun c o n e=>let ⟨_,e1⟩:=a.slot c o n e;let ⟨sl,e2⟩:=b.slot c _ n e1;⟨sl,e2⟩⟩
theorem KeptBut.sub{fs ch ch':List Addr}{h h':Heap}(a:KeptBut fs ch h h')(q:∀b∈ch,b∈ch'):KeptBut fs ch' h h' :=
 ⟨fun c o n1 n2 e=>a.keep c o (fun z=>n1 (q c z)) n2 e,fun c o n e=>a.slot c o (fun z=>n (q c z)) e⟩
theorem KeptBut.upd{fs:List Addr}{h:Heap}{a:Addr}{f:Obj->Obj}:KeptBut fs [a] h (h.update a f) :=
 ⟨fun b o n _ e=>by rw[Heap.get?_update_other _ _ (fun z=>n (by simp[z]))];exact e,fun b o n e=>⟨o.slots,by rw[Heap.get?_update_other _ _ (fun z=>n (by simp[z]))];exact e⟩⟩
theorem aj5{base:Heap}{env:Env}{outer:List Env}{L e:Addr}{oe:Obj}{vs:Array Value}{head:Value}{hadNext:Bool}{Q:Unit->Shared->Prop}
  (hfr:A.frames=some (env::outer)) (hl:s.heap.FunFrames base (env::outer)) (hf:env.frame=some L) (he:s.heap.get? e=some oe) (hd:oe.data=.fields vs) (hsz:1 < vs.size)
  (h:∀h' T ts,s.heap.objs.size<=T->KeptBut (frs (env::outer)) [e] s.heap h'->h'.get? e=some (oe.mapFields (·.setIfInBounds 1 (.ref T)))->h'.get? T=some { cls:=.type "traceback", dict:=none,data:=.fields ts }->ts[3]? = some (rawInt L)->Q () { s with heap:=h' }) :
  wpAny M A (do let a <-frameOf env;let pl <-entryPlaceOf L hadNext;let b <-EntryCells.newEntry head a .none (rawInt L) .none pl;setField (.ref e) 1 b) Q E s:=by
 have hene:e∉frs (env::outer):=fun hm=>by
  obtain⟨_,o,ho,hnf⟩:=hl.mem hm;rw[he] at ho;injection ho with ho;subst ho;exact hnf vs hd
 refine wpAny_bind (wpAny_frameOf_fun hfr hl hf fun h₁ hs₁ =>?_)
 refine wpAny_bind (wpAny_entryPlaceOf fun pl hpl =>?_)
 unfold EntryCells.newEntry newFields;refine wpAny_bind (wpAny_newObj_type ?_ (hpl.sizeOk5 _ _ _ _ _));have he₁:h₁.get? e=some oe:=(hs₁.2.1 e hene).trans he;have he₂:=Heap.get?_push_of_some (h:=h₁) { cls:=.type "traceback", dict:=none,data:=.fields ([head,.ref L,.none,rawInt L,.none]++(if pl.isEmpty then List.replicate 6 Value.none else pl)).toArray } he₁
 refine wpAny_setField he₂ hd hsz (h _ h₁.objs.size ([head,.ref L,.none,rawInt L,.none]++(if pl.isEmpty then List.replicate 6 Value.none else pl)).toArray ?_ ?_ ?_ ?_ ?_)
 ·exact Nat.le_of_eq hs₁.1.symm
 ·have keep:∀b o,b≠e->h₁.get? b=some o->((h₁.push { cls:=.type "traceback", dict:=none,data:=.fields ([head,.ref L,.none,rawInt L,.none]++(if pl.isEmpty then List.replicate 6 Value.none else pl)).toArray }).update e (Obj.mapFields (·.setIfInBounds 1 (Value.ref h₁.objs.size)))).get? b=some o:=fun b o hbe hb=>by
   rw[Heap.get?_update_other _ _ (Ne.symm hbe)];exact Heap.get?_push_of_some _ hb
  refine⟨fun b o n1 n2 hb=>keep b o (fun z=>n1 (by simp[z])) ((hs₁.2.1 b n2).trans hb),fun b o n hb =>?_⟩
  obtain⟨sl,q⟩:=hs₁.2.2 b o hb;exact⟨sl,keep b _ (fun z=>n (by simp[z])) q⟩
 ·exact Heap.get?_update_self _ he₂ (Obj.isFreed_of_fields (Obj.data_mapFields hd _))
 ·rw[Heap.get?_update_other _ _ (Ne.symm (Nat.ne_of_gt (Heap.lt_size he₁)))];exact Heap.get?_push_size h₁ rfl
 ·rcases hpl with rfl | ⟨_,_,_,_,_,_,_,rfl⟩ <;> simp
end
structure FlyAt (h:Heap) (a:Addr) (C:Addr) (dx:Option Addr) (ch:List Addr) (L:Addr):Prop where
 obj:∃oe vs,h.get? a=some oe/\oe.cls=.ref C/\oe.dict=dx/\oe.data=.fields vs/\1 < vs.size /\
  ((vs[1]? = some .none/\ch=[a])∨∃T oT ts fl,ch=[a,T]/\vs[1]? = some (.ref T)/\T≠a/\h.get? T=some oT/\oT.data=.fields ts/\ts[3]? = some fl/\(fl=.none∨fl=rawInt L))
theorem FlyAt.fresh{h:Heap}{a C L:Addr}{dx:Option Addr}{ch:List Addr}(x:FlyAt h a C dx ch L):a∈ch:=by
 obtain⟨oe,vs,_,_,_,_,_,⟨_,e⟩ | ⟨T,_,_,_,e,_⟩⟩:=x.obj <;> simp[e]
section
variable{M:Model}{A:Around}{E:Value->Shared->Prop}{s:Shared}
theorem acd(o:Obj)(f):(o.mapFields f).dict=o.dict:=by
 obtain⟨c,d,dt,sl⟩:=o;cases dt <;> rfl
theorem azm{base:Heap}{env:Env}{outer:List Env}{L a C:Addr}{dx:Option Addr}{ch:List Addr}{Q:Unit->Shared->Prop}
  (hfr:A.frames=some (env::outer)) (hl:s.heap.FunFrames base (env::outer)) (hf:env.frame=some L) (x:FlyAt s.heap a C dx ch L)
  (h:∀h' T oT ts oe vs,(T∈ch∨s.heap.objs.size<=T)->KeptBut (frs (env::outer)) ch s.heap h'->h'.get? a=some oe->oe.cls=.ref C->oe.dict=dx->oe.data=.fields vs->1 < vs.size->vs[1]? = some (.ref T)->T≠a->h'.get? T=some oT->oT.data=.fields ts->ts[3]? = some (rawInt L)->Q () { s with heap:=h' }) :
  wpAny M A (noteFrame (.ref a) env) Q E s:=by
 obtain⟨oe,vs,he,hc,hdx,hd,hsz,alt⟩:=x.obj;unfold noteFrame;simp only[hf];rcases alt with⟨h1,rfl⟩ | ⟨T,oT,ts,fl,rfl,h1,hTa,hT,hdT,h3,hfl⟩
 ·refine wpAny_bind (wpAny_field he hd h1 ?_);rw[if_neg (by decide)]
  refine aj5 hfr hl hf he hd hsz fun h' T ts hT k e1 e2 e3 =>?_
  refine h h' T _ ts _ _ (.inr hT) k e1 (by rw[Obj.cls_mapFields];exact hc) (by rw[acd];exact hdx) (Obj.data_mapFields hd _) (by simpa using hsz) (by simp[hsz]) ?_ e2 rfl e3
  exact Nat.ne_of_gt (Nat.lt_of_lt_of_le (Heap.lt_size he) hT)
 ·refine wpAny_bind (wpAny_field he hd h1 ?_);rw[if_pos (show(Value.ref T != Value.none)=true from by simp)]
  refine wpAny_bind (wpAny_field hT hdT h3 ?_);rcases hfl with rfl | rfl
  ·rw[if_neg (show ¬((Value.none==rawInt L)=true) from by simp[rawInt])]
   refine wpAny_bind (wpAny_setField hT hdT (Array.getElem?_eq_some_iff.mp h3).1 ?_);have k0:KeptBut (frs (env::outer)) [T] s.heap (s.heap.update T (Obj.mapFields (·.setIfInBounds 3 Value.none))):=KeptBut.upd;have he':=(Heap.get?_update_other s.heap (Obj.mapFields (·.setIfInBounds 3 Value.none)) hTa).trans he;refine aj5 hfr (hl.of_keeps fun b o hb hnf =>?_) hf he' hd hsz fun h' T' ts' hT' k e1 e2 e3 =>?_
   ·exact⟨o,(Heap.get?_update_other _ _ fun z=>by rw[<-z,hT] at hb;cases hb;exact hnf _ hdT).trans hb,rfl⟩
   ·have hsz':s.heap.objs.size<=T':=by
     have:(s.heap.update T (Obj.mapFields (·.setIfInBounds 3 Value.none))).objs.size=s.heap.objs.size:=Heap.size_after_update ..
     exact this▸hT'
    refine h h' T' _ ts' _ _ (.inr hsz') ((k0.sub (by simp)).trans (k.sub (by simp))) e1 (by rw[Obj.cls_mapFields];exact hc) (by rw[acd];exact hdx) (Obj.data_mapFields hd _) (by simpa using hsz) (by simp[hsz]) ?_ e2 rfl e3
    exact Nat.ne_of_gt (Nat.lt_of_lt_of_le (Heap.lt_size he) hsz')
  ·rw[if_pos (show(rawInt L==rawInt L)=true from by simp)]
   refine wpAny_pure (h s.heap T oT ts oe vs (.inl (by simp)) ⟨fun _ _ _ _ e=>e,fun _ o _ e=>⟨o.slots,e⟩⟩ he hc hdx hd hsz h1 hTa hT hdT h3)
theorem az2{base:Heap}{env:Env}{outer:List Env}{L a C:Addr}{dx:Option Addr}{ch:List Addr}{Q:Unit->Shared->Prop}
  (hfr:A.frames=some (env::outer)) (hl:s.heap.FunFrames base (env::outer)) (hf:env.frame=some L) (x:FlyAt s.heap a C dx ch L)
  (h:∀h' ch',(∀b∈ch',b∈ch∨s.heap.objs.size<=b)->KeptBut (frs (env::outer)) ch s.heap h'->(∀L',FlyAt h' a C dx ch' L')->Q () { s with heap:=h' }) :
  wpAny M A (leaving env (.ref a)) Q E s:=by
 unfold leaving;refine wpAny_bind (azm hfr hl hf x fun h' T oT ts oe vs hT k e1 e2 e3 e4 e5 e6 e7 e8 e9 e10 =>?_)
 unfold setFlight;refine wpAny_bind (wpAny_field e1 e4 e6 ?_);rw[if_pos (show(Value.ref T != Value.none)=true from by simp)]
 have hsz3:3 < ts.size:=(Array.getElem?_eq_some_iff.mp e10).1;refine wpAny_setField e8 e9 hsz3 (h _ [a,T] (fun b hb =>?_) ?_ fun L'=>⟨oe,vs,(Heap.get?_update_other _ _ e7).trans e1,e2,e3,e4,e5,.inr ⟨T,_,_,.none,rfl,e6,e7,Heap.get?_update_self _ e8 (Obj.isFreed_of_fields (Obj.data_mapFields e9 _)),Obj.data_mapFields e9 _,by simp[hsz3],.inl rfl⟩⟩)
 ·have:b=a∨b=T:=by simpa using hb
  rcases this with rfl | rfl
  ·exact .inl x.fresh
  ·exact hT
 ·rcases hT with hT | hT
  ·exact k.trans (KeptBut.upd.sub (by simp[hT]))
  ·refine⟨fun b o n1 n2 e =>?_,fun b o n e =>?_⟩
   ·rw[Heap.get?_update_other _ _ fun z=>absurd (Heap.lt_size e) (by rw[<-z];exact Nat.not_lt.mpr hT)]
    exact k.keep b o n1 n2 e
   ·obtain⟨sl,q⟩:=k.slot b o n e;exact⟨sl,by rw[Heap.get?_update_other _ _ fun z=>absurd (Heap.lt_size e) (by rw[<-z];exact Nat.not_lt.mpr hT)];exact q⟩
end
end L2
namespace Dn
open L2 Mn
def axy(F:Hp)(dx:Option Addr)(fs:List (Str×Int)):Prop:=(dx=none/\fs=[])∨∃d,dx=some d/\F d=some (.xd (fs.map fun p=>(p.1,V.int p.2)))
structure ClsOk (K:Fg9) (c:Str) (C:Addr):Prop where
 ns:nsIn K mainGlobals c=some (some (.ref C))
 ok:ExcK K C
def FpX(X:Cx)(qv:List (Addr×Obj))(H:Hp)(b:Addr):Prop :=
 H b=none/\b≠X.env.locals/\b∉X.fs/\(b∈X.ex∨X.s₀.heap.get? b=none)/\(∀x c,X.env.cells.lookup x=some c->c≠b)/\∀p∈X.pn++qv,p.1≠b
section
variable{X:Cx}{qv:List (Addr×Obj)}{σ:L2.St}{H H':Hp}{s:Shared}
theorem Inv.fpX{b:Addr}(I:Inv X qv σ H s)(hb:s.heap.get? b=none)(hn:H' b=none):FpX X qv H' b:=by
 have no:∀{o},s.heap.get? b=some o->False:=fun e=>by rw[hb] at e;cases e
 refine⟨hn,fun z =>?_,fun z =>?_,?_,fun x c e z =>?_,fun p hp z =>?_⟩
 ·obtain⟨m,⟨o,_,_,ho,_⟩,_⟩:=I.loc;rw[<-z] at ho;exact no ho
 ·obtain⟨_,o,ho,_⟩:=I.funs.mem z;exact no ho
 ·by_cases hx:b∈X.ex
  ·exact .inl hx
  ·refine .inr ?_;cases e:X.s₀.heap.get? b with
   | none=>rfl
   | some o =>
    obtain⟨o',e'⟩:=I.base.there b o e hx;exact(no e').elim
 ·obtain⟨v,o,ho,_⟩:=I.cell x c e;rw[z] at ho;exact no ho
 ·have:=(I.pin p hp).1;rw[z] at this;exact no this
theorem Inv.records{h':Heap}{ch:List Addr}(I:Inv X qv σ H s)(k:KeptBut (frs X.stack) ch s.heap h')(hch:∀b∈ch,FpX X qv H b):Inv X qv σ H { s with heap:=h' }:=by
 have nt:∀c z,H c=some z->c∉ch/\c∉frs X.stack:=fun c z q=>⟨(fun m=>by have:=(hch c m).1;rw[q] at this;cases this),(fun m=>by have:=I.stkFree c m;rw[q] at this;cases this)⟩
 have nb:∀b o,X.s₀.heap.get? b=some o->b∉X.ex->b∉ch:=fun b o e hx m=>by
  rcases(hch b m).2.2.2.1 with z | z
  ·exact hx z
  ·rw[z] at e;cases e
 have nl:∀b o,X.s₀.heap.get? b=some o->b∉X.fs->b∉frs X.stack:=fun b o e hf m=>by
  rcases List.mem_cons.mp (I.stkSub b m) with z | z
  ·exact absurd (Heap.lt_size e) (by rw[z];exact Nat.not_lt.mpr I.ok.above)
  ·exact hf z
 have cellK:∀x c,X.env.cells.lookup x=some c->∀v,s.heap.IsCell c v->h'.IsCell c v:=fun x c e v hq0=>by
  obtain⟨o,ho,hd⟩:=hq0;obtain⟨sl,q⟩:=k.slot c o (fun m=>(hch c m).2.2.2.2.1 x c e rfl) ho
  exact⟨_,q,hd⟩
 refine⟨I.ok,I.os,I.bare,⟨fun b o e n hb hx=>k.keep b o (nb b o e hx) (nl b o e hb) (I.base.keep b o e n hb hx),fun b o e n hb hx =>?_,I.base.free,fun b o e hx =>?_,I.base.tups,I.base.frzs,I.base.tbls⟩,?_,fun x c e =>?_,I.free,I.freeC,fun p hp =>?_,fun b u e =>?_,I.len⟩
 ·obtain⟨sl,e1⟩:=I.base.slot b o e n hb hx;obtain⟨sl',e2⟩:=k.slot b _ (nb b o e hx) e1;exact⟨sl',e2⟩
 ·obtain⟨o',e1⟩:=I.base.there b o e hx;obtain⟨sl,e2⟩:=k.slot b o' (nb b o e hx) e1;exact⟨_,e2⟩
 ·obtain⟨m,⟨o,es,ep,ho,r⟩,hl⟩:=I.loc;obtain⟨sl,q⟩:=k.slot _ o (fun m=>(hch _ m).2.1 rfl) ho
  refine⟨m,⟨_,es,ep,q,r⟩,fun i x v e1 e2 e3 =>?_⟩
  obtain⟨u,rv,l⟩:=hl i x v e1 e2 e3;refine⟨u,rv,?_⟩;rcases l with l | ⟨kk,c,e,z⟩
  ·exact .inl l
  ·exact .inr ⟨kk,c,e,cellK x c e _ z⟩
 ·obtain⟨v,z⟩:=I.cell x c e;exact⟨v,cellK x c e v z⟩
 ·obtain⟨e,n,ne,nf,d⟩:=I.pin p hp;refine⟨k.keep p.1 p.2 (fun m=>(hch _ m).2.2.2.2.2 p hp rfl) (fun m =>?_) e,n,ne,nf,d⟩
  rcases List.mem_cons.mp (I.stkSub _ m) with z | z
  ·exact ne z
  ·exact nf z
 ·refine(I.hok b u e).stay (fun c v hc q =>?_) (fun _ q=>q) fun _ _ q=>q
  rcases hc with z | z
  ·rw[z] at q ⊢;exact k.keep _ _ (nt b u e).1 (nt b u e).2 q
  ·exact k.keep _ _ (nt c _ z).1 (nt c _ z).2 q
end
def FlyX(K:Fg9)(X:Cx)(qv:List (Addr×Obj))(x:Exn)(F H:Hp)(h:Heap)(e:Value):Prop :=
 ∃a C dx ch,e=.ref a/\ClsOk K x.cls C/\axy F dx x.fs/\FlyAt h a C dx ch X.env.locals/\∀b∈ch,FpX X qv H b
def RX(K:Fg9)(X:Cx)(qv:List (Addr×Obj))(tg:Nat->Addr)(ρ:Ro)(σ:L2.St)(F H:Hp)(x:Exn)(ρ':Ro)(e:Value)(s':Shared):Prop :=
 ∃σ' H' F',Inv X qv σ' H' s'/\Good K tg F' H' ρ' σ'/\Ext (Own ρ σ) (Own ρ' σ') F H F' H'/\FlyX K X qv x F' H' s'.heap e
theorem RX.back{K:Fg9}{X:Cx}{qv:List (Addr×Obj)}{tg:Nat->Addr}{ρ ρ1 ρ':Ro}{σ σ1:L2.St}{F H F1 H1:Hp}{x:Exn}{e:Value}{s':Shared}(q:Ext (Own ρ σ) (Own ρ1 σ1) F H F1 H1)(h:RX K X qv tg ρ1 σ1 F1 H1 x ρ' e s'):RX K X qv tg ρ σ F H x ρ' e s' :=
 let ⟨σ',H',F',I,G,y,f⟩:=h;⟨σ',H',F',I,G,q.trans y,f⟩
abbrev XGo(K:Fg9)(X:Cx)(α:Type)(c:Sem α)(m:Ro->Option (Exn×Ro)):Prop :=
 X.K=K->X.xe=(fun _ _=>False)->∀qv s σ H tg F ρ x ρ',Inv X qv σ H s->Good K tg F H ρ σ->m ρ=some (x,ρ')->wpAny (model X.prog X.w) X.A c (fun _ _=>False) (RX K X qv tg ρ σ F H x ρ') s
def exE{α:Type}(m:M α):Ro->Option (Exn×Ro):=fun ρ=>match m ρ with
 | some (.exc x,ρ')=>some (x,ρ')
 | _=>none
def exS(g:Sd):Ro->Option (Exn×Ro):=fun ρ=>match g ρ with
 | some (.exc x,ρ')=>some (x,ρ')
 | _=>none
theorem ni{α:Type}{m:M α}{ρ ρ':Ro}{x:Exn}:exE m ρ=some (x,ρ')↔m ρ=some (.exc x,ρ'):=by
 unfold exE;split
 ·rename_i y ρ1 e;rw[e];constructor
  ·intro h;cases h;rfl
  ·intro h;cases h;rfl
 ·rename_i hn;constructor
  ·intro h;cases h
  ·intro h;exact absurd h (hn x ρ')
theorem uh{g:Sd}{ρ ρ':Ro}{x:Exn}:exS g ρ=some (x,ρ')↔g ρ=some (.exc x,ρ'):=by
 unfold exS;split
 ·rename_i y ρ1 e;rw[e];constructor
  ·intro h;cases h;rfl
  ·intro h;cases h;rfl
 ·rename_i hn;constructor
  ·intro h;cases h
  ·intro h;exact absurd h (hn x ρ')
structure XE (K:Fg9) (X:Cx) (e:Expr) {α:Type} (m:M α):Prop where
 go:XGo K X Value (eval e X.env) (exE m)
structure XA (K:Fg9) (X:Cx) (es:List Expr) {α:Type} (m:M α):Prop where
 go:∀(pos:Pos),XGo K X (List Value) (spliced (backTo pos (starEach es X.env))) (exE m)
structure XS (K:Fg9) (X:Cx) (st:Stmt) (g:Sd):Prop where
 go:XGo K X Flow (exec st X.env) (exS g)
structure XSs (K:Fg9) (X:Cx) (ss:List Stmt) (g:Sd):Prop where
 go:XGo K X Flow (execs ss X.env) (exS g)
def NoX{α:Type}(m:M α):Prop:=∀ρ x ρ',m ρ≠some (.exc x,ρ')
def NoS(g:Sd):Prop:=∀ρ x ρ',g ρ≠some (.exc x,ρ')
section
variable{K:Fg9}{X:Cx}{e a b c:Expr}{es:List Expr}{pos p:Pos}{st:Stmt}{ss:List Stmt}
theorem XE.no{α:Type}{m:M α}(h:NoX m):XE K X e m:=⟨fun _ _ qv s σ H tg F ρ x ρ' I G em=>absurd (ni.mp em) (h ρ x ρ')⟩
theorem XS.no{g:Sd}(h:NoS g):XS K X st g:=⟨fun _ _ qv s σ H tg F ρ x ρ' I G em=>absurd (uh.mp em) (h ρ x ρ')⟩
theorem anl{α:Type}{m:M α}{k:α->Sd}{ρ ρ':Ro}{x:Exn}(h:dM m k ρ=some (.exc x,ρ')):m ρ=some (.exc x,ρ')∨∃a ρ1,m ρ=some (.ok a,ρ1)/\k a ρ1=some (.exc x,ρ'):=by
 unfold dM at h;split at h
 ·exact .inr ⟨_,_,by assumption,h⟩
 ·cases h;exact .inl (by assumption)
 ·cases h
theorem aao{α β:Type}{m:M α}{k:α->M β}{ρ ρ':Ro}{x:Exn}(h:m.bind k ρ=some (.exc x,ρ')):m ρ=some (.exc x,ρ')∨∃a ρ1,m ρ=some (.ok a,ρ1)/\k a ρ1=some (.exc x,ρ'):=by
 unfold M.bind at h;split at h
 ·exact .inr ⟨_,_,by assumption,h⟩
 ·cases h;exact .inl (by assumption)
 ·cases h
theorem XA.no{α:Type}{m:M α}(h:NoX m):XA K X es m:=⟨fun _ _ _ qv s σ H tg F ρ x ρ' I G em=>absurd (ni.mp em) (h ρ x ρ')⟩
theorem afj:XSs K X [] dNx:=⟨fun _ _ qv s σ H tg F ρ x ρ' I G em=>by cases em⟩
theorem mz{g:Sd}(h:XS K X st g):XSs K X [st] g:=⟨fun hk hn qv s σ H tg F ρ x ρ' I G em=>wpAny_execs_cons (wpAny_mono (h.go hk hn qv s σ H tg F ρ x ρ' I G em) (fun _ _ z=>z.elim) fun _ _ z=>z)⟩
theorem lu{g k:Sd}(h:SV K X st g)(hx:XS K X st g)(t:XSs K X ss k):XSs K X (st::ss) (dSeq g k):=⟨fun hk hn qv s σ H tg F ρ x ρ' I G em=>by
 have em:=uh.mp em;unfold dSeq at em;split at em
 ·rename_i ρ1 e1;refine wpAny_execs_cons (wpAny_mono (h.go hk qv s σ H { nx:=fun σ1 H1=>∃F1,Good K tg F1 H1 ρ1 σ1/\Ext (Own ρ σ) (Own ρ1 σ1) F H F1 H1,rt:=fun _ _=>False } I ⟨tg,F,ρ,.nx,ρ1,G,e1,fun σ' H' F' G' x=>⟨F',G',x⟩⟩) (fun f s1 q =>?_) fun e s1 q=>by rw[hn] at q;exact q.elim)
  cases f with
  | next =>
   obtain⟨σ1,H1,I1,F1,G1,x1⟩:=q;exact wpAny_mono (t.go hk hn qv s1 σ1 H1 tg F1 ρ1 x ρ' I1 G1 (uh.mpr em)) (fun _ _ z=>z.elim) fun _ _ z=>z.back x1
  | ret v=>obtain⟨_,_,_,_,_,z⟩:=q;exact z.elim
  | brk=>obtain⟨_,_,_,z⟩:=q;exact z.elim
  | cont=>obtain⟨_,_,_,z⟩:=q;exact z.elim
 ·exact wpAny_execs_cons (wpAny_mono (hx.go hk hn qv s σ H tg F ρ x ρ' I G (uh.mpr em)) (fun _ _ z=>z.elim) fun _ _ z=>z)⟩
theorem ad7{α:Type}{m:M α}(h:XE K X e m)(hs:swapsWith e none pos.line X.env=pure false:=by rfl):XS K X (.Expr e pos) (aep m):=⟨fun hk hn qv s σ H tg F ρ x ρ' I G em=>by
 rcases anl (uh.mp em) with em | ⟨_,_,_,em⟩
 ·exact wpAny_Expr_any (wpAny_mono (h.go hk hn qv s σ H tg F ρ x ρ' I G (ni.mpr em)) (fun _ _ z=>z.elim) fun _ _ z=>z) I.quiet hs
 ·cases em⟩
theorem aub{m:M Rv}(h:XE K X e m):XS K X (.Return (some e) pos) (dRet m):=⟨fun hk hn qv s σ H tg F ρ x ρ' I G em=>by
 rcases anl (uh.mp em) with em | ⟨_,_,_,em⟩
 ·exact wpAny_Return_some (wpAny_mono (h.go hk hn qv s σ H tg F ρ x ρ' I G (ni.mpr em)) (fun _ _ z=>z.elim) fun _ _ z=>z)
 ·cases em⟩
theorem aua{i:Nat}{y:Str}{m:M Rv}(h:XE K X e m)(hs:swapsWith e (some (.Name y p)) pos.line X.env=pure false:=by rfl):XS K X (.Assign [.Name y p] e pos) (dSet i m):=⟨fun hk hn qv s σ H tg F ρ x ρ' I G em=>by
 rcases anl (uh.mp em) with em | ⟨_,_,_,em⟩
 ·exact wpAny_Assign_Name (wpAny_mono (h.go hk hn qv s σ H tg F ρ x ρ' I G (ni.mpr em)) (fun _ _ z=>z.elim) fun _ _ z=>z) hs
 ·cases em⟩
theorem aox{m:M Bool}{g k:Sd}{ss':List Stmt}(h:ET K X c m)(hm:NoX m)(h1:XSs K X ss g)(h2:XSs K X ss' k):XS K X (.If c ss ss' pos) (dIf m g k):=⟨fun hk hn qv s σ H tg F ρ x ρ' I G em=>by
 rcases anl (uh.mp em) with em | ⟨z,ρ1,e1,em⟩
 ·exact absurd em (hm _ _ _)
 ·refine wpAny_If (wpAny_mono (h.go hk qv s σ H (fun b H1=>b=z/\∃F1,Good K tg F1 H1 ρ1 σ/\Ext (Own ρ σ) (Own ρ1 σ) F H F1 H1) I ⟨tg,F,ρ,z,ρ1,G,e1,fun H' F' G' x=>⟨rfl,F',G',x⟩⟩) (fun d s1 ⟨H1,I1,hz,F1,G1,x1⟩ =>?_) fun e s1 q=>by rw[hn] at q;exact q.elim)
  subst hz;cases d with
  | true=>exact wpAny_mono (h1.go hk hn qv s1 σ H1 tg F1 ρ1 x ρ' I1 G1 (uh.mpr em)) (fun _ _ z=>z.elim) fun _ _ z=>z.back x1
  | false=>exact wpAny_mono (h2.go hk hn qv s1 σ H1 tg F1 ρ1 x ρ' I1 G1 (uh.mpr em)) (fun _ _ z=>z.elim) fun _ _ z=>z.back x1⟩
def CX1(P:Program)(w:World):CXT:=fun outer H s E e s'=>∃H' a C dx ch,e=.ref a/\s'.os=s.os/\AllBare s'.gens/\Un (frs outer) [] H H' s.heap s'.heap/\HOk P w H' s'.heap /\
 (∀L',FlyAt s'.heap a C dx ch L')/\(∀b∈ch,s.heap.get? b=none/\H' b=none)/\E (.ref C) dx H'
def spX(K:Fg9)(n:Nat)(f:Fd):Sp:=fun vs H _ E=>vs.length=n/\∃F as x ps,Good K (tgOf (vs.map some)) F H as (vs.map some)/\f as=some (.exc x,ps) /\
 ∀C dx H' F' O',Same F' H'->Ext (Own as (vs.map some)) O' F H F' H'->Fin K F' H' (vs.map some) ps O'->ClsOk K x.cls C->axy F' dx x.fs->E (.ref C) dx H'
def DfnX(P:Program)(w:World)(K:Fg9)(mg:Str->Option Value)(base:Heap)(x:Str)(ps:List Str)(k:Nat)(sp:Sp):Prop :=
 ∃(f:Addr) (fd:FuncData),FnOk P w K mg base (CX1 P w) k f fd ps sp/\mg x=some (.ref f)/\keepIn K (.ref f)=true/\Binds K fd ps []
theorem awq{f:Fd}{js:List (Option Nat)}{ms:M (List (Option D))}{ρ ρ':Ro}{x:Exn}(h:mFn f js ms ρ=some (.exc x,ρ')) :
  ms ρ=some (.exc x,ρ')∨∃ds ρ1 ps,ms ρ=some (.ok ds,ρ1)/\okJs ρ1 js=true/\f (lend ρ1 js ds)=some (.exc x,ps)/\ρ'=putB ρ1 js ps:=by
 rcases aao h with h | ⟨ds,ρ1,e1,em⟩
 ·exact .inl h
 ·split at em
  ·rename_i hj;split at em
   ·cases em
   ·rename_i y ps e2;cases em;exact .inr ⟨ds,ρ1,ps,e1,hj,e2,rfl⟩
   ·cases em
  ·cases em
theorem ah1{f:Fd}{n k:Nat}{x:Str}{pn:List Str}{js:List (Option Nat)}{ms:M (List (Option D))}(F:DfnX X.prog X.w X.K X.mg X.base x pn k (spX K n f))(hr:Room k X.A)(hg:Gl X x)(ha:EG K X (e::es) js ms)(hxa:XA K X (e::es) ms)(hn:js.length=n:=by rfl)(hdb:(x==("__debug__" : Str))=false:=by decide)
  (he:starEach (e::es) X.env=(false,eval e X.env)::starEach es X.env:=by rfl) (hpl:(backTo pos (starEach es X.env)).any (·.1)=false:=by rfl):XE K X (.Call (.Name x p) (e::es) [] pos) (mFn f js ms):=⟨fun hk hno qv s σ H tg F0 ρ y ρ' I G em=>by
 obtain⟨fa,fd,Fo,hm,hkp,hb⟩:=F;refine wpAny_Call_Name_kw (aei I hg hm ?_ hdb);rcases awq (ni.mp em) with em | ⟨ds,ρ1,ps,e1,hj,e2,rfl⟩
 ·exact PySem.W.callWith_K (h₀:=X.base) I.ok.mod.kin hkp (wpAny_mono (hxa.go pos hk hno qv s σ H tg F0 ρ y ρ' I G (ni.mpr em)) (fun _ _ z=>z.elim) fun _ _ z=>z) he hpl
 ·refine PySem.W.callWith_K (h₀:=X.base) I.ok.mod.kin hkp (wpAny_mono (ha.go hk pos qv s σ H (fun vs H1=>∃F1,Good K tg F1 H1 ρ1 σ/\Ext (Own ρ σ) (Own ρ1 σ) F0 H F1 H1/\AR K F1 σ js ds vs) I ⟨tg,F0,ρ,ds,ρ1,G,e1,fun vs H1 F1 G1 x1 ar=>⟨F1,G1,x1,ar⟩⟩) (fun us s1 ⟨vs,H1,I1,r,F1,G1,x1,ar⟩=>⟨I1.kIn,?_⟩) fun e s1 q=>by rw[hno] at q;exact q.elim) he hpl
  have L:=ar.lent;have hl:(us++[]).length=pn.length:=by
   rw[List.append_nil,<-r.length];exact Fo.len vs H1 (fun _ _=>True) (fun _ _ _=>True) ⟨by rw[ar.length];exact hn,F1,_,y,ps,aa8 G1 hj L,e2,fun _ _ _ _ _ _ _ _ _ _=>trivial⟩
  have hbn:=hb s1 us I1.kIn hl;rw[List.append_nil] at hbn;refine wpAny_call (codeAny_mono (Fo.run X.A X.stack s1 H1 ⟨[]++us,[]⟩ us vs (fun _ _=>False) (fun cv dx H2=>∃C F2,cv=.ref C/\Good K tg F2 H2 (putB ρ1 js ps) σ/\Ext (Own ρ σ) (Own (putB ρ1 js ps) σ) F0 H F2 H2/\ClsOk K y.cls C/\axy F2 dx y.fs) hr I1.env0 hbn r
   ⟨by rw[ar.length];exact hn,F1,_,y,ps,aa8 G1 hj L,e2,fun C dx H2 F2 O2 s2 x2 fin hc hf=>⟨C,F2,rfl,ad5 G1 L x2 s2 fin,x1.trans (afg G1 L x2),hc,hf⟩⟩) fun r s' hq =>?_)
  cases r with
  | ok fl =>
   cases fl with
   | ret u=>obtain⟨_,_,_,_,_,_,_,z⟩:=hq;exact z.elim
   | next=>exact False.elim hq
   | brk=>exact False.elim hq
   | cont=>exact False.elim hq
  | error er =>
   obtain⟨H',a,C,dx,ch,rfl,os,bare,un,hok,fl,hch,C',F2,ce,G2,x2,hc,hf⟩:=hq;cases ce;exact⟨σ,H',F2,I1.call' os un hok bare (fun b z=>absurd z (by simp)),G2,x2,a,C,dx,ch,rfl,hc,hf,fl _,fun b hb=>Inv.fpX I1 (hch b hb).1 (hch b hb).2⟩⟩
end
theorem fn_x{K:Fg9}{P:Program}{w:World}{mg:Str->Option Value}{base:Heap}{x qual:Str}{st:Stmt}{f:Addr}{fd:FuncData}{N ps:List Str}{k nl np:Nat}{g:Sd}(F:Fun K x qual st f fd)(S:FnScope N ps (aq st))(h1:N.length=nl)(h2:ps.length=np)
  (body:∀(cdv:Value) (A:Around) (outer:List Env) (s:Shared) (H:Hp) (E:XK),Room k (A.deeper (envOfC qual (aq st) s.heap.objs.size f cdv))->XSs K (cxOf CX0 P w K mg base N qual (aq st) f cdv A outer s H E).nox (jh st) g) :
  FnOk P w K mg base (CX1 P w) (k+1) f fd ps (spX K np (fnD nl np g)):=by
 subst h1 h2;obtain⟨oc,od,kV,doc,pm,an,cdv,ct,osl,rfl,lk,hcd⟩:=F.ex;refine a0h lk hcd S (fun vs H Q E h=>h.1) fun A outer s H vs Q E hr hsp =>?_
 obtain⟨hn,F0,as,y,ps',G,em,q⟩:=hsp;have hl:as.length=(vs.map some).length:=G.len;have G1:=G.app (N.length - vs.length);have es:start N vs=vs.map some++List.replicate (N.length - vs.length) none:=rfl;unfold fnD at em;rw[<-hn] at em;have fin:∀{ρ':Ro} {σ':L2.St} {F' H':Hp},Good K (tgOf (vs.map some)) F' H' ρ' σ'->Fin K F' H' (vs.map some) (ρ'.take vs.length) (Own ρ' σ'):=fun{ρ' σ' F' H'} G'=>⟨fun i l e=>by
  have hi:=(List.getElem?_eq_some_iff.mp e).1;rw[List.length_take] at hi;rw[List.getElem?_take_of_lt (by omega)] at e
  obtain⟨o,ho,a,ws,rfl,hf,hh,hl,ht⟩:=G'.at e;rw[ht i rfl];exact⟨⟨i,⟨_,_,e⟩,ho⟩,hf,ws,hh,hl⟩⟩
 refine⟨fun _ σ0 H0=>σ0=start N vs/\H0=H,fun qv s1 σ0 H0 D I hs =>?_,rfl,rfl⟩
 obtain⟨hs1,hs2⟩:=hs;subst hs2;rw[hs1,es] at I;split at em
 ·cases em
 ·cases em
 ·rename_i y' ρ' e;cases em;have run:=(body cdv A outer s H0 E hr).go rfl rfl qv s1 _ H0 (tgOf (vs.map some)) F0 _ y ρ' (I.wish _) G1 (uh.mpr e);refine wpAny_mono run (fun _ _ z=>z.elim) fun er s' z9 =>?_
  obtain⟨σ',H',F',J,G',x',a,C,dx,ch,e1,hc,hf,fl,hch⟩:=z9;subst e1;rw[yx hl] at x';show wpAny _ _ (leaving _ (.ref a)) _ _ s';refine az2 J.ok.frames J.stack rfl fl fun h' ch' hc' kb fl' =>?_
  have J2:=Inv.records J kb hch;have hsz:s.heap.objs.size<=s'.heap.objs.size:=J.sz;refine⟨H',a,C,dx,ch',rfl,J.os,J.bare,J2.base,J2.hok,fl',fun b hb =>?_,q C dx H' F' (Own ρ' σ') G'.sub x' (fin G') hc hf⟩
  rcases hc' b hb with z | z
  ·obtain⟨f1,_,_,f3,_⟩:=hch b z;rcases f3 with f3 | f3
   ·exact absurd (show b∈([]:List Addr) from f3) (by simp)
   ·exact⟨f3,f1⟩
  ·exact⟨Heap.get?_none_of_le (Nat.le_trans hsz z),J.hok.fresh z⟩
 ·cases em
theorem apr{P:Program}{w:World}{H:Hp}{h:Heap}{a:Addr}{o:HO}(x:uo P w H h a o):∃ob,h.get? a=some ob:=by
 cases o with
 | lst xs=>obtain⟨_,_,_,_,e⟩:=x;exact⟨_,e⟩
 | tup xs=>obtain⟨_,_,_,ob,e,_⟩:=x;exact⟨_,e⟩
 | dK kvs=>obtain⟨_,_,_,_,o,_,_,e,_⟩:=x;exact⟨_,e⟩
 | dT kvs=>obtain⟨_,_,_,_,o,_,_,e,_⟩:=x;exact⟨_,e⟩
 | set S n=>obtain⟨o,_,_,_,e,_⟩:=x;exact⟨_,e⟩
 | ins C dx fs=>obtain⟨_,_,_,e,_⟩:=x;exact⟨_,e⟩
 | own y=>exact x
 | xd fs=>obtain⟨_,⟨_,_,_,e,_⟩,_⟩:=x;exact⟨_,e⟩
 | rng lo hi=>obtain⟨_,_,_,e⟩:=x;exact⟨_,e⟩
 | frz ob u=>exact⟨_,x.1⟩
 | tbl ps=>exact⟨_,x⟩
 | met f y=>exact⟨_,x⟩
 | ext φ=>exact x.2.1
abbrev bmV:List Value:=[.type "ValueError", .type "Exception", .type "BaseException", .type "object"]
theorem axc{K:Fg9}{h:Heap}{C:Addr}{bmB:List Value}{newId:String}(X:K.In h)(q:PySem.W.excIn K C bmB newId=true) :
  ∃bm N nm qn bs hdct sn sub ab col dd k0 k1 k2 k3 k5 mN,h.get? C=some (excClassObj nm qn C N bs bm hdct sn sub ab col dd k0 k1 k2 k3 k5 newId)/\h.Ns N mN/\mN "__init__" = none/\OwnTail h bmB bm:=by
 unfold PySem.W.excIn at q;split at q
 ·rename_i dd cd sl ho;split at q
  ·rename_i C' bm k0 k1 k2 k3 n k5 hm hs;simp only[Bool.and_eq_true,beq_iff_eq,Bool.not_eq_true'] at q;obtain⟨⟨⟨⟨⟨e1,e2⟩,e3⟩,e4⟩,e5⟩,e6⟩:=q;subst e1 e2;obtain⟨nm,bs,mro,ns,qn,hd,sn,sub,ab,col,del⟩:=cd;have hm:mro=_:=hm;have e3:del=false:=e3;subst hm e3;have z:sl = #[k0,k1,k2,k3,some (.builtin n),k5]:=Array.toList_inj.mp hs;subst z;exact⟨bm,ns,nm,qn,bs,hd,sn,sub,ab,col,dd,k0,k1,k2,k3,k5,h.nsMap ns,X _ _ ho,.of_isNs (PySem.W.isNs_of_in X e5),PySem.W.nsMap_none_of_in X e5 e6,PySem.W.tail_of_in X e4⟩
  ·cases q
 ·cases q
def ae1(x:Exn):Sd:=fun ρ=>some (.exc x,ρ)
section
variable{K:Fg9}{X:Cx}{c:Str}{C:Addr}{np cpos pos:Pos}
theorem aow(hcalm:X.calm=true)(hg:Gl X c)(hm:X.mg c=some (.ref C))(k:ClsOk X.K c C)(q:PySem.W.excIn X.K C bmV "ValueError.__new__" = true)(hd:(c==("__debug__" : Str))=false:=by decide) :
  XS K X (.Raise (some (.Call (.Name c np) [] [] cpos)) none pos) (ae1 ⟨c,[]⟩):=⟨fun hk hn qv s σ H tg F ρ x ρ' I G em=>by
 have em:=uh.mp em;cases em;subst hk;obtain⟨tl,N,nm,qn,bs,hdct,sn,sub,ab,col,dd,k0,k1,k2,k3,k5,mN,hC,hN,hni,T⟩:=axc I.kIn q;refine wpAny_Raise_call_subU (C:=C) (nm:=nm) (q:=qn) (N:=N) (bs:=bs) (bm:=tl) (hdct:=hdct) (sn:=sn) (sub:=sub) (ab:=ab) (col:=col) (dd:=dd) (k0:=k0) (k1:=k1) (k2:=k2) (k3:=k3) (k5:=k5)
  PySem.F.excBase_ValueError (by decide +kernel) PySem.F.excBase_ValueError (mN:=mN) (T.hasType PySem.F.excBase_ValueError.hasBase) (I.ok.hd hcalm) rfl hni ?_
 refine aei I hg hm ⟨rfl,?_⟩ hd;refine evalArgs_empty ⟨rfl,Nat.zero_le _,hC,hN,T,fun h' e hme =>?_⟩
 obtain⟨t,he,_,_⟩:=hme.there;have J:Inv X qv σ H { s with heap:=h' }:=I.kept (t':=s.toks) hme.keeps
 have hnH:H e=none:=by
  cases z:H e with
  | none=>rfl
  | some o =>
   obtain⟨ob,h1⟩:=apr (I.hok e o z);have h2:s.heap.get? e=none:=hme.new;rw[h2] at h1;cases h1
 exact⟨σ,H,F,J,G,Ext.refl _ _ _,e,C,none,[e],rfl,k,.inl ⟨rfl,rfl⟩,⟨_,_,he,rfl,rfl,rfl,by simp,.inl ⟨rfl,rfl⟩⟩,fun b hb=>by
  obtain rfl:=List.mem_singleton.mp hb;exact Inv.fpX I hme.new hnH⟩⟩
end
end Dn
namespace L2
section
variable{X:Cx}{qv:List (Addr×Obj)}{σ:List (Option V)}{H:Hp}{s:Shared}
theorem a0m{M:Model}{A:Around}{E:Value->Shared->Prop}{i:Nat}{x:Str}{v:V}{Q:Unit->Shared->Prop}(I:Inv X qv σ H s)(hN:X.N.Nodup)(hi:X.N[i]? = some x)(hk:X.env.scope.names.lookup x=some .local)(hv:σ[i]? = some (some v))
  (h:∀s',Inv X qv (σ.set i none) H s'->Q () s'):wpAny M A (unbindName X.env x) Q E s:=by
 obtain⟨m,hn,hl⟩:=id I.loc;have hcls:(X.env.scope.kind==.class||(X.env.scope.kind==.module&&X.env.locals != X.env.globals))=false:=by rw[I.ok.kind];rfl
 have hiσ:i < σ.length:=(List.getElem?_eq_some_iff.mp hv).1;obtain⟨u,_,lk⟩:=hl i x v hi hv (.inl hk);have hmx:∃u,m x=some u:=by
  rcases lk with⟨_,e⟩ | ⟨k,_⟩
  ·exact⟨u,e⟩
  ·rcases k with k | k
   ·exact absurd (hk.symm.trans k) (by simp)
   ·exact absurd (hk.symm.trans k) (by simp)
 obtain⟨u0,hmx⟩:=hmx;refine wpAny_unbindName_local hk hn hmx hcls fun h' u' hn' hs=>h _ ?_
 have ne0:∀b o,X.s₀.heap.get? b=some o->b≠X.env.locals:=fun b o e=>Nat.ne_of_lt (Nat.lt_of_lt_of_le (Heap.lt_size e) I.ok.above)
 refine⟨I.ok,I.os,I.bare,⟨fun b o e n hb hx=>(hs.2 b (ne0 b o e)).trans (I.base.keep b o e n hb hx),fun b o e n hb hx =>?_,I.base.free,fun b o e hx =>?_,I.base.tups,I.base.frzs,I.base.tbls⟩,⟨_,hn',fun j y v' e1 e2 e3 =>?_⟩,fun y c e =>?_,I.free,I.freeC,fun p hp =>?_,fun b ob e =>?_,by simpa using I.len⟩
 ·obtain⟨sl,e1⟩:=I.base.slot b o e n hb hx;exact⟨sl,(hs.2 b (ne0 b o e)).trans e1⟩
 ·obtain⟨o',e1⟩:=I.base.there b o e hx;exact⟨o',(hs.2 b (ne0 b o e)).trans e1⟩
 ·by_cases hj:j=i
  ·subst hj;rw[List.getElem?_set_self hiσ] at e2;cases e2
  ·rw[List.getElem?_set_ne (Ne.symm hj)] at e2;obtain⟨u',r',q⟩:=hl j y v' e1 e2 e3;refine⟨u',r',?_⟩;rcases q with⟨k,e⟩ | ⟨k,c,e,z⟩
   ·refine .inl ⟨k,?_⟩;have:y≠x:=fun e=>hj (aip hN e1 (e▸hi))
    simp[this,e]
   ·exact .inr ⟨k,c,e,z.sameBut hs (I.cne y c e)⟩
 ·obtain⟨w',z⟩:=I.cell y c e;exact⟨w',z.sameBut hs (I.cne y c e)⟩
 ·obtain⟨e,n,ne,nf,d⟩:=I.pin p hp;exact⟨(hs.2 p.1 ne).trans e,n,ne,nf,d⟩
 ·have nL:∀c z,H c=some z->c≠X.env.locals:=fun c z q w=>by
   have:=I.free;rw[<-w,q] at this;cases this
  refine(I.hok b ob e).stay (fun c w' hc q=>(hs.2 c ?_).trans q) (fun _ q=>q) fun _ _ q=>q
  rcases hc with z | z
  ·rw[z];exact nL b ob e
  ·exact nL c _ z
end
section
variable{M:Model}{A:Around}{E:Value->Shared->Prop}{s:Shared}
theorem avb{fs:List Addr}{a C:Addr}{dx:Option Addr}{ch:List Addr}{L:Addr}{Q:Unit->Shared->Prop}(x:FlyAt s.heap a C dx ch L)(hT:ch≠[a])
  (h:∀h',KeptBut fs ch s.heap h'->(∀L',FlyAt h' a C dx ch L')->h'.get? a=s.heap.get? a->Q () { s with heap:=h' }):wpAny M A (setFlight (.ref a) none) Q E s:=by
 obtain⟨oe,vs,he,hc,hdx,hd,hsz,⟨_,e⟩ | ⟨T,oT,ts,fl,rfl,h1,hTa,hT,hdT,h3,hfl⟩⟩:=x.obj
 ·exact absurd e hT
 ·unfold setFlight;refine wpAny_bind (wpAny_field he hd h1 ?_);rw[if_pos (show(Value.ref T != Value.none)=true from by simp)]
  have hsz3:3 < ts.size:=(Array.getElem?_eq_some_iff.mp h3).1;refine wpAny_setField hT hdT hsz3 (h _ (KeptBut.upd.sub (by simp)) (fun L'=>⟨oe,vs,(Heap.get?_update_other _ _ hTa).trans he,hc,hdx,hd,hsz,.inr ⟨T,_,_,.none,rfl,h1,hTa,Heap.get?_update_self _ hT (Obj.isFreed_of_fields (Obj.data_mapFields hdT _)),Obj.data_mapFields hdT _,by simp[hsz3],.inl rfl⟩⟩) (Heap.get?_update_other _ _ hTa))
theorem apt{base:Heap}{env:Env}{outer:List Env}{L a C:Addr}{dx:Option Addr}{ch:List Addr}{Q:Unit->Shared->Prop}
  (hfr:A.frames=some (env::outer)) (hl:s.heap.FunFrames base (env::outer)) (hf:env.frame=some L) (x:FlyAt s.heap a C dx ch L)
  (h:∀h' ch',ch'≠[a]->(∀b∈ch',b∈ch∨s.heap.objs.size<=b)->KeptBut (frs (env::outer)) ch s.heap h'->(∀L',FlyAt h' a C dx ch' L')->Q () { s with heap:=h' }) :
  wpAny M A (noteFrame (.ref a) env) (fun _ s'=>wpAny M A (setFlight (.ref a) none) Q E s') E s:=by
 refine azm hfr hl hf x fun h' T oT ts oe vs hT k e1 e2 e3 e4 e5 e6 e7 e8 e9 e10 =>?_
 unfold setFlight;refine wpAny_bind (wpAny_field e1 e4 e6 ?_);rw[if_pos (show(Value.ref T != Value.none)=true from by simp)]
 have hsz3:3 < ts.size:=(Array.getElem?_eq_some_iff.mp e10).1;refine wpAny_setField e8 e9 hsz3 (h _ [a,T] (by simp) (fun b hb =>?_) ?_ fun L'=>⟨oe,vs,(Heap.get?_update_other _ _ e7).trans e1,e2,e3,e4,e5,.inr ⟨T,_,_,.none,rfl,e6,e7,Heap.get?_update_self _ e8 (Obj.isFreed_of_fields (Obj.data_mapFields e9 _)),Obj.data_mapFields e9 _,by simp[hsz3],.inl rfl⟩⟩)
 ·have:b=a∨b=T:=by simpa using hb
  rcases this with rfl | rfl
  ·exact .inl x.fresh
  ·exact hT
 ·rcases hT with hT | hT
  ·exact k.trans (KeptBut.upd.sub (by simp[hT]))
  ·refine⟨fun b o n1 n2 e =>?_,fun b o n e =>?_⟩
   ·rw[Heap.get?_update_other _ _ fun z=>absurd (Heap.lt_size e) (by rw[<-z];exact Nat.not_lt.mpr hT)]
    exact k.keep b o n1 n2 e
   ·obtain⟨sl,q⟩:=k.slot b o n e;exact⟨sl,by rw[Heap.get?_update_other _ _ fun z=>absurd (Heap.lt_size e) (by rw[<-z];exact Nat.not_lt.mpr hT)];exact q⟩
structure CatK (K:Fg9) (B:Addr):Prop where
 cls:(PySem.W.clsIn K B).isSome=true
 ty:PySem.W.typeIn K (.ref B)=some (.type "type")
 base:PySem.W.subIn K (.ref B) (.type "BaseException")=some true
theorem as3{K:Fg9}{a C B:Addr}{oe:Obj}{b:Bool}{Q:Bool->Shared->Prop}(X:K.In s.heap)(k:CatK K B)(he:s.heap.get? a=some oe)(hc:oe.cls=.ref C)(hs:PySem.W.subIn K (.ref C) (.ref B)=some b)(h:Q b s):wpAny M A (excMatches (.ref a) (.ref B)) Q E s:=by
 obtain⟨hp,g,d,tk,os⟩:=s;have L0:PySem.W.Looks M hp (isInstance (.ref B) (.type "tuple")) false:=(PySem.W.looks_typeIn X k.ty).andThen (PySem.W.Looks.of_pure (by rw[isSubtype_type];kernel_rfl))
 have L1:PySem.W.Looks M hp (isType (.ref B)) true:=by
  have z:=k.cls;unfold PySem.W.clsIn at z;split at z
  ·rename_i c' d' cd' sl' ho;intro A' Q' E' s' kk q;unfold isType loadHead;exact wpAny_bind (wpAny_loadPart (kk _ _ (X _ _ ho)) (wpAny_pure q))
  ·cases z
 have L2:=PySem.W.looks_subIn (M:=M) X k.base;have L3:=PySem.W.looks_subIn (M:=M) X hs;have L4:PySem.W.Looks M hp (isExcClass (.ref B)) true:=L1.andThen (by rw[if_pos rfl];exact L2)
 have L5:PySem.W.Looks M hp (typeOf (.ref a)) (.ref C):=(PySem.W.Looks.ld he).andThen (PySem.W.Looks.of_pure (by rw[hc]))
 unfold excMatches;refine wpAny_bind (L0.at ?_);simp only[Bool.false_eq_true,if_false];refine wpAny_bind (wpAny_pure ?_);simp only[List.forIn_cons,List.forIn_nil];refine wpAny_bind (wpAny_bind (wpAny_bind (L4.at ?_)));rw[if_neg (by simp)]
 refine wpAny_pure (wpAny_pure (wpAny_bind (L5.at (wpAny_bind (wpAny_bind (wpAny_bind (L3.at ?_)))))));cases b with
 | true =>
  rw[if_pos rfl];exact wpAny_pure (wpAny_pure (wpAny_pure h))
 | false =>
  rw[if_neg Bool.false_ne_true];exact wpAny_pure (wpAny_pure (wpAny_pure h))
end
end L2
namespace Dn
open L2 Mn
def aix(c0 c:Str):Bool:=c0==c||c == "ArrowError" || c == "ValueError"
def clsAt(K:Fg9)(c:Str):Option Addr:=match nsIn K mainGlobals c with
 | some (some (.ref C))=>some C
 | _=>none
def ah2(K:Fg9)(ns:List Str):Bool:=ns.all fun c0=>match clsAt K c0 with
 | some C0=>(ns.all fun c=>match clsAt K c with
  | some C=>PySem.W.kitOne K (.ref C0) (.ref C)==some (aix c0 c)
  | none=>false)&&PySem.W.kitOne K (.ref C0) (.type "ValueError")==some true
 | none=>false
theorem afd{K:Fg9}{c:Str}{C:Addr}(h:nsIn K mainGlobals c=some (some (.ref C))):clsAt K c=some C:=by
 unfold clsAt;rw[h]
theorem amk{K:Fg9}{ns:List Str}{c0 c:Str}{C0 C:Addr}(h:ah2 K ns=true)(h0:ns.contains c0=true)(h1:ns.contains c=true)(e0:nsIn K mainGlobals c0=some (some (.ref C0)))(e1:nsIn K mainGlobals c=some (some (.ref C))) :
  PySem.W.kitOne K (.ref C0) (.ref C)=some (aix c0 c):=by
 have z:=List.all_eq_true.mp h c0 (List.contains_iff_mem.mp h0);rw[afd e0] at z;have z1:=List.all_eq_true.mp (Bool.and_eq_true_iff.mp z).1 c (List.contains_iff_mem.mp h1);rw[afd e1] at z1;exact beq_iff_eq.mp z1
theorem avl{K:Fg9}{ns:List Str}{c0:Str}{C0:Addr}(h:ah2 K ns=true)(h0:ns.contains c0=true)(e0:nsIn K mainGlobals c0=some (some (.ref C0))):PySem.W.kitOne K (.ref C0) (.type "ValueError")=some true:=by
 have z:=List.all_eq_true.mp h c0 (List.contains_iff_mem.mp h0);rw[afd e0] at z;exact beq_iff_eq.mp (Bool.and_eq_true_iff.mp z).2
def gIsC(ns:List Str)(c:Str):D->Option D
 | .exn c0 _=>if ns.contains c0 then some (.bl (aix c0 c)) else none
 | _=>none
def mIsC(ns:List Str)(c:Str)(m:M D):M D:=m.bind fun d=>lift (gIsC ns c d)
section
variable{K:Fg9}{X:Cx}{e:Expr}{pos p:Pos}
theorem aku{X:Cx}{cv:Value}{cV:V}(rc:∀u,RelV cV u->u=cv):ad6 X (.builtin "isinstance") (fun xs H Q=>∃F c0 fs x b,xs=[x,cV]/\Same F H/\Is X.K F (.exn c0 fs) x/\(∀C0,nsIn X.K mainGlobals c0=some (some (.ref C0))->PySem.W.kitOne X.K (.ref C0) cv=some b)/\Q (.bl b) H):=by
 intro qv s σ H xs us Q I r ⟨F,c0,fs,x,b,e,g,h,hk1,q⟩;subst e;obtain⟨u,w',rfl,r1,r2⟩:=vals2 r;obtain rfl:=rc w' r2;have fin:∀tk,EP X qv σ Q (.bool b) { s with toks:=tk }:=fun tk=>⟨.bl _,H,I.tok tk,rfl,q⟩
 cases h with
 | @exn a C c dx fs e hc hk hf =>
  cases(show u=Value.ref a from r1)
  obtain⟨⟨oe,ws,h1,h2,h3,h4⟩,_⟩:=(show uo X.prog X.w H s.heap a (.ext (exO a C dx)) from I.hok a _ (g _ _ e))
  have hno:PySem.W.notCls oe=true:=by unfold PySem.W.notCls;rw[h4]
  have ia:∃ox od,PySem.W.InstAt s.heap a ox C od:=by
   rcases hf with⟨rfl,_⟩ | ⟨d,rfl,hd⟩
   ·exact⟨oe,none,h1,h2,hno,by rw[h3];trivial⟩
   ·obtain⟨mA,⟨od,_,_,e1,_⟩,_⟩:=(show uo X.prog X.w H s.heap d (.xd _) from I.hok d _ (g _ _ hd))
    exact⟨oe,some od,h1,h2,hno,by rw[h3];exact e1⟩
  exact PySem.W.kia_one (am5 hk) I.kIn ia (hk1 C hc) (fun z=>nomatch z) fin
theorem au1{F H:Hp}{d:D}{v:V}{ns:List Str}{c:Str}{r:D}(b:Bor K F H d v)(e:gIsC ns c d=some r):∃c0 fs,d=.exn c0 fs/\Is K F (.exn c0 fs) v/\ns.contains c0=true/\r=.bl (aix c0 c):=by
 cases d with
 | exn c0 fs =>
  have e:(if ns.contains c0 then some (D.bl (aix c0 c)) else none)=some r:=e
  split at e
  ·rename_i hn;cases e;refine⟨c0,fs,rfl,?_,hn,rfl⟩;rcases b with b | ⟨_,_,_,z,_⟩
   ·exact b
   ·cases z
  ·cases e
 | _=>cases e
theorem axe{ns:List Str}{c:Str}{C:Addr}{m:M D}{x:Str}{pc:Pos}(sub:ah2 K ns=true)(h1:ns.contains c=true)(hgC:Gl X c)(hmC:X.mg c=some (.ref C))(hnC:nsIn K mainGlobals c=some (some (.ref C)))
  (hg:Gl X x) (hm:X.mg x=none) (hv:bootBuiltins x=some (.builtin "isinstance")) (h:EB K X e m) (hdC:(c==("__debug__" : Str))=false:=by decide) (hn:x ≠ "__name__" := by decide) (hdb:(x==("__debug__" : Str))=false:=by decide)
  (h1':starEach [.Name c pc] X.env=(false,eval (.Name c pc) X.env)::starEach [] X.env:=by rfl) (he:starEach [e,.Name c pc] X.env=(false,eval e X.env)::starEach [.Name c pc] X.env:=by rfl) (hpl:(backTo pos (starEach [.Name c pc] X.env)).any (·.1)=false:=by rfl) :
  EV K X (.Call (.Name x p) [e,.Name c pc] [] pos) (mIsC ns c m):=EV.mk fun hk=>by
 refine PE.imp (ae8 (aku (cv:=.ref C) (cV:=.ref C) fun u r=>r) hg hm hv (wg (h hk) (wg (av5 (v:=.ref C) hgC hmC rfl hdC) ahc h1') he) hn hdb he hpl) fun σ H Q z9 =>?_
 obtain⟨tg,F,ρ,d,ρ',G,em,q⟩:=z9;obtain⟨d1,ρ1,e1,em⟩:=bj em;obtain⟨e2,rfl⟩:=ir em;subst hk;refine⟨tg,F,ρ,d1,_,G,e1,fun v H' F' G' x bv =>?_⟩
 obtain⟨c0,fs,rfl,hi,h0,rfl⟩:=au1 bv e2;exact⟨F',c0,fs,v,_,rfl,G'.sub,hi,fun C0 e0=>amk sub h0 h1 e0 hnC,q _ H' F' G' x (.bl _)⟩
theorem aql{ns:List Str}{m:M D}{x:Str}{pc:Pos}(sub:ah2 K ns=true)(hgC:Gl X "ValueError")(hmC:X.mg "ValueError" = none)(hvC:bootBuiltins "ValueError" = some (.type "ValueError"))
  (hg:Gl X x) (hm:X.mg x=none) (hv:bootBuiltins x=some (.builtin "isinstance")) (h:EB K X e m) (hn:x ≠ "__name__" := by decide) (hdb:(x==("__debug__" : Str))=false:=by decide)
  (h1':starEach [.Name "ValueError" pc] X.env=(false,eval (.Name "ValueError" pc) X.env)::starEach [] X.env:=by rfl) (he:starEach [e,.Name "ValueError" pc] X.env=(false,eval e X.env)::starEach [.Name "ValueError" pc] X.env:=by rfl) (hpl:(backTo pos (starEach [.Name "ValueError" pc] X.env)).any (·.1)=false:=by rfl) :
  EV K X (.Call (.Name x p) [e,.Name "ValueError" pc] [] pos) (mIsC ns "ValueError" m):=EV.mk fun hk=>by
 refine PE.imp (ae8 (aku (cv:=.type "ValueError") (cV:=.ty "ValueError") fun u r=>r) hg hm hv (wg (h hk) (wg (ajr hgC hmC hvC) ahc h1') he) hn hdb he hpl) fun σ H Q z9 =>?_
 obtain⟨tg,F,ρ,d,ρ',G,em,q⟩:=z9;obtain⟨d1,ρ1,e1,em⟩:=bj em;obtain⟨e2,rfl⟩:=ir em;subst hk;refine⟨tg,F,ρ,d1,_,G,e1,fun v H' F' G' x bv =>?_⟩
 obtain⟨c0,fs,rfl,hi,h0,rfl⟩:=au1 bv e2;refine⟨F',c0,fs,v,aix c0 "ValueError", rfl,G'.sub,hi,fun C0 e0 =>?_,q _ H' F' G' x (.bl _)⟩
 rw[avl sub h0 e0];simp[aix]
end
theorem ad2:bootBuiltins "ValueError" = some (.type "ValueError"):=by decide +kernel
@[simp] theorem a2y(ns:List Str)(c:Str)(m:M D)(ρ:Ro):mIsC ns c m ρ=(m.bind fun d=>lift (gIsC ns c d)) ρ:=rfl
@[simp] theorem a1g(ns:List Str)(c c0:Str)(fs:List (Str×Int)):gIsC ns c (.exn c0 fs)=if ns.contains c0 then some (.bl (aix c0 c)) else none:=rfl
end Dn
namespace L2
structure RoomU (k:Nat) (A:Around):Prop where
 dp:A.depth+3*k+5 < recursionLimit
 un:A.units+16*k+200 < cLine
 gd:A.guards=some []
theorem RoomU.mono{j k:Nat}{A:Around}(r:RoomU k A)(h:j<=k):RoomU j A:=⟨by have:=r.dp;omega,by have:=r.un;omega,r.gd⟩
theorem RoomU.deeper{k:Nat}{A:Around}(r:RoomU (k+1) A)(env:Env):RoomU k (A.deeper env) :=
 ⟨by have:=r.dp;show A.depth+1+3*k+5 < _;omega,by have:=r.un;show A.units+3+16*k+200 < _;omega,r.gd⟩
theorem RoomU.depth{k:Nat}{A:Around}(r:RoomU k A):A.depth < recursionLimit:=by have:=r.dp;omega
theorem RoomU.units{k:Nat}{A:Around}(r:RoomU k A):A.units+64 < cLine:=by have:=r.un;omega
theorem Room.mark{k:Nat}{A:Around}(r:Room k A)(e:Value):RoomU k (A.mark (some e)):=⟨r.dp,r.un,r.gd⟩
def cxU(P:Program)(w:World)(K:Fg9)(mg:Str->Option Value)(base:Heap)(N:List Str)(qual:Str)(scope:Scope)(f:Addr)(cd:Value)(A:Around)(outer:List Env)(s:Shared)(H:Hp):Cx :=
 { (cxOf CX0 P w K mg base N qual scope f cd A outer s H E0).nox with calm:=false }
structure FnOkU (P:Program) (w:World) (K:Fg9) (mg:Str->Option Value) (base:Heap) (k:Nat) (f:Addr) (fd:FuncData) (ps:List Str) (sp:Sp):Prop where
 len:∀vs H Q E,sp vs H Q E->vs.length=ps.length
 run:∀(A:Around) (outer:List Env) (s:Shared) (H:Hp) (args:Args) (us:List Value) (vs:List V) (Q:VK),RoomU k A->Env0 P w K mg base A outer s H->BindsTo s fd args (ps.zip us)->Vals vs us->sp vs H Q E0 ->
  codeAny (model P w) A (.call (.ref f) args) (CR CX0 outer P w H s Q E0) s
theorem Fun.okU{P:Program}{w:World}{K:Fg9}{mg:Str->Option Value}{base:Heap}{x qual:Str}{st:Stmt}{f:Addr}{fd:FuncData}{N ps:List Str}{k:Nat}{sp:Sp}(F:Fun K x qual st f fd)(S:FnScope N ps (aq st))(len:∀vs H Q E,sp vs H Q E->vs.length=ps.length)
  (hbody:∀(cdv:Value) (A:Around) (outer:List Env) (s:Shared) (H:Hp) (vs:List V) (Q:VK),RoomU k (A.deeper (envOfC qual (aq st) s.heap.objs.size f cdv))->sp vs H Q E0 ->
   ∃t,PSs (cxU P w K mg base N qual (aq st) f cdv A outer s H) (jh st) t/\t { nx:=fun _ H'=>Q .non H',rt:=Q } (start N vs) H):FnOkU P w K mg base (k+1) f fd ps sp:=by
 obtain⟨oc,od,kV,doc,pm,an,cdv,ct,osl,rfl,lk,hcd⟩:=F.ex;refine⟨len,fun A outer s H args us vs Q hr e0 hb r hsp =>?_⟩
 have hl:=len _ _ _ _ hsp;have KX:K.In s.heap:=e0.mod.kin.keeps fun b o e=>(e0.bs b o e).1
 have lim:s.heap.NoLimit:=e0.mod.nolimit.keeps fun b o e=>(e0.bs b o e).1
 have hkind:∀y∈ps.zip us,(aq st).names.lookup y.1=some .local∨((aq st).names.lookup y.1=some .cell/\((cellsFrom (s.heap.objs.size+1) (aq st).names []).lookup y.1).isSome=true):=fun y hy=>by
  rcases S.par y.1 (List.of_mem_zip hy).1 with q | q
  ·exact .inl q
  ·exact .inr ⟨q,PySem.W.cellsFrom_some _ _ _ (.inl q)⟩
 refine codeAny_call_function hr.depth (KX _ _ lk) rfl S.co S.gen rfl (PySem.W.codeRec_of KX hcd) (hb _ _ _ _ ?_);refine wpAny_newFunctionEnv_cells S.kind hkind fun env he s1 x =>?_
 subst he;refine⟨lim.keeps x.toInCall.keep,codeAny_func ?_⟩;obtain⟨t,ht,hq⟩:=hbody cdv A outer s H vs Q (hr.deeper _) hsp;have e1:Env0 P w K mg base { A with handled:=none } outer s H:=⟨e0.frames,e0.mod,e0.bs,e0.bsz,e0.funs,e0.frf,e0.hok,e0.bare⟩
 have J:Inv (cxOf CX0 P w K mg base N qual (aq st) f cdv { A with handled:=none } outer s H E0) [] (start N vs) H s1:=ake S rfl e1 hl r x
 have I:Inv (cxU P w K mg base N qual (aq st) f cdv A outer s H) [] (start N vs) H s1 :=
  ⟨⟨J.ok.mod,J.ok.kind,J.ok.glob,J.ok.blt,J.ok.above,J.ok.inj,J.ok.has,J.ok.cab,(fun z=>absurd z Bool.false_ne_true),Around.frames_deeper e0.frames,J.ok.stk,J.ok.exf,J.ok.bs,J.ok.bsz,J.ok.noex,J.ok.exfs,J.ok.funs,J.ok.frf⟩,J.os,J.bare,J.base,J.loc,J.cell,J.free,J.freeC,J.pin,J.hok,J.len⟩
 refine wpAny_mono (ht [] s1 (start N vs) H _ I hq) (fun fl s' hs =>?_) fun e s' hs=>False.elim hs
 have fin:∀{σ':St} {H':Hp} {v:V} {u:Value},Inv (cxU P w K mg base N qual (aq st) f cdv A outer s H) [] σ' H' s'->RelV v u->Q v H'->CE outer P w H s Q u s' :=
  fun{σ' H' v u} J rv q=>⟨v,H',J.os,J.bare,J.base,J.hok,rv,q⟩
 cases fl with
 | ret u =>
  obtain⟨v,σ',H',J,rv,q⟩:=hs;exact fin J rv q
 | next =>
  obtain⟨σ',H',J,q⟩:=hs;exact fin (v:=V.non) (u:=Value.none) J rfl q
 | brk =>
  obtain⟨_,_,_,q⟩:=hs;exact False.elim q
 | cont =>
  obtain⟨_,_,_,q⟩:=hs;exact False.elim q
def DfnU(P:Program)(w:World)(K:Fg9)(mg:Str->Option Value)(base:Heap)(x:Str)(ps:List Str)(k:Nat)(sp:Sp):Prop :=
 ∃(f:Addr) (fd:FuncData),FnOkU P w K mg base k f fd ps sp/\mg x=some (.ref f)/\keepIn K (.ref f)=true/\Binds K fd ps []
theorem ay6{X:Cx}{x:Str}{ps:List Str}{k:Nat}{sp:Sp}{e:Expr}{es:List Expr}{t:TA}{p pos:Pos}(F:DfnU X.prog X.w X.K X.mg X.base x ps k sp)(hr:RoomU k X.A)(hg:Gl X x)(ha:PA X (e::es) t)(hdb:(x==("__debug__" : Str))=false:=by decide)
  (he:starEach (e::es) X.env=(false,eval e X.env)::starEach es X.env:=by rfl) (hpl:(backTo pos (starEach es X.env)).any (·.1)=false:=by rfl):PE X (.Call (.Name x p) (e::es) [] pos) (avi sp [] E0 t):=by
 obtain⟨f,fd,F,hm,hk,hb⟩:=F;intro qv s σ H Q I h;refine wpAny_Call_Name_kw (aei I hg hm ?_ hdb);refine PySem.W.callWith_K (h₀:=X.base) I.ok.mod.kin hk (thn (ha pos qv s σ H _ I h) fun us s1 ⟨vs,H1,I1,r,q⟩=>⟨I1.kIn,?_⟩) he hpl
 have q:sp (vs++[]) H1 Q E0:=q;rw[List.append_nil] at q;have hl:(us++[]).length=ps.length:=by rw[List.append_nil,<-r.length];exact F.len _ _ _ _ q
 have hbn:=hb s1 us I1.kIn hl;rw[List.append_nil] at hbn;refine wpAny_call (codeAny_mono (F.run X.A X.stack s1 H1 ⟨[]++us,[]⟩ us vs Q hr I1.env0 hbn r q) fun r s' hq =>?_)
 cases r with
 | error e=>exact False.elim hq
 | ok fl =>
  cases fl with
  | ret u=>exact I1.after hq
  | next=>exact False.elim hq
  | brk=>exact False.elim hq
  | cont=>exact False.elim hq
end L2
namespace Dn
open L2 Mn
theorem a0i{K:Fg9}{X:Cx}{e:Expr}{es:List Expr}{pos p:Pos}{f:Fd}{n k:Nat}{x:Str}{pn:List Str}{js:List (Option Nat)}{ms:M (List (Option D))}(F:DfnU X.prog X.w X.K X.mg X.base x pn k (spOf K n f))(hr:RoomU k X.A)(hg:Gl X x)(ha:EG K X (e::es) js ms)(hn:js.length=n:=by rfl)(hdb:(x==("__debug__" : Str))=false:=by decide)
  (he:starEach (e::es) X.env=(false,eval e X.env)::starEach es X.env:=by rfl) (hpl:(backTo pos (starEach es X.env)).any (·.1)=false:=by rfl):ER K X (.Call (.Name x p) (e::es) [] pos) (mFn f js ms):=ER.mk fun hk=>PE.imp (ay6 F hr hg (ha hk) hdb he hpl) fun σ H Q z9=>by
 obtain⟨tg,F,ρ,r,ρ',G,em,q⟩:=z9;obtain⟨ds,ρ1,ps,e1,hj,e2,rfl⟩:=auq em;refine⟨tg,F,ρ,ds,ρ1,G,e1,fun vs H1 F1 G1 x1 ar =>?_⟩
 have L:=ar.lent;show spOf K n f (vs++[]) H1 Q E0;rw[List.append_nil];refine⟨by rw[ar.length];exact hn,F1,_,r,ps,aa8 G1 hj L,e2,fun v H' F' O' s' x' fin rr =>?_⟩
 exact q v H' F' (ad5 G1 L x' s' fin) (x1.trans (afg G1 L x')) (qu x1 (anq G1 L fin rr))
theorem axb{K:Fg9}{P:Program}{w:World}{mg:Str->Option Value}{base:Heap}{x qual:Str}{st:Stmt}{f:Addr}{fd:FuncData}{N ps:List Str}{k nl np:Nat}{g:Sd}(F:Fun K x qual st f fd)(S:FnScope N ps (aq st))(h1:N.length=nl)(h2:ps.length=np)
  (body:∀(cdv:Value) (A:Around) (outer:List Env) (s:Shared) (H:Hp),RoomU k (A.deeper (envOfC qual (aq st) s.heap.objs.size f cdv))->SVs K (cxU P w K mg base N qual (aq st) f cdv A outer s H) (jh st) g) :
  FnOkU P w K mg base (k+1) f fd ps (spOf K np (fnD nl np g)):=by
 subst h1 h2;refine F.okU S (fun vs H Q E h=>h.1) fun cdv A outer s H vs Q hr h=>⟨_,body cdv A outer s H hr rfl,?_⟩
 obtain⟨hn,F,as,r,ps',G,em,q⟩:=h;have hl:as.length=(vs.map some).length:=G.len;have G1:=G.app (N.length - vs.length);have es:start N vs=vs.map some++List.replicate (N.length - vs.length) none:=rfl;rw[es];unfold fnD at em;rw[<-hn] at em;have fin:∀{ρ':Ro} {σ':L2.St} {F' H':Hp},Good K (tgOf (vs.map some)) F' H' ρ' σ'->Fin K F' H' (vs.map some) (ρ'.take vs.length) (Own ρ' σ'):=fun{ρ' σ' F' H'} G'=>⟨fun i l e=>by
  have hi:=(List.getElem?_eq_some_iff.mp e).1;rw[List.length_take] at hi;rw[List.getElem?_take_of_lt (by omega)] at e
  obtain⟨o,ho,a,ws,rfl,hf,hh,hl,ht⟩:=G'.at e;rw[ht i rfl];exact⟨⟨i,⟨_,_,e⟩,ho⟩,hf,ws,hh,hl⟩⟩
 split at em
 ·rename_i r' ρ' e;cases em;refine⟨_,F,_,.ret r,ρ',G1,e,fun v σ' H' F' G' x' rr =>?_⟩
  rw[yx hl] at x' rr;exact q v H' F' (Own ρ' σ') G'.sub x' (fin G') rr
 ·rename_i ρ' e;cases em;refine⟨_,F,_,.nx,ρ',G1,e,fun σ' H' F' G' x' =>?_⟩
  rw[yx hl] at x';exact q .non H' F' (Own ρ' σ') G'.sub x' (fin G') .non
 ·cases em
 ·cases em
def cxH(X:Cx)(ev:Value):Cx:={ X with A:=X.A.mark (some ev),calm:=false }
section
variable{K:Fg9}{X:Cx}{qv:List (Addr×Obj)}{σ:L2.St}{H:Hp}{s:Shared}{tg:Nat->Addr}{F:Hp}{ρ:Ro}
theorem Inv.hnd(I:Inv X qv σ H s)(ev:Value):Inv (cxH X ev) qv σ H s :=
 ⟨⟨I.ok.mod,I.ok.kind,I.ok.glob,I.ok.blt,I.ok.above,I.ok.inj,I.ok.has,I.ok.cab,(fun z=>absurd z Bool.false_ne_true),I.ok.frames,I.ok.stk,I.ok.exf,I.ok.bs,I.ok.bsz,I.ok.noex,I.ok.exfs,I.ok.funs,I.ok.frf⟩,I.os,I.bare,I.base,I.loc,I.cell,I.free,I.freeC,I.pin,I.hok,I.len⟩
theorem Inv.unhnd{ev:Value}(hd:X.calm=true->X.A.handled=none)(I:Inv (cxH X ev) qv σ H s):Inv X qv σ H s :=
 ⟨⟨I.ok.mod,I.ok.kind,I.ok.glob,I.ok.blt,I.ok.above,I.ok.inj,I.ok.has,I.ok.cab,hd,I.ok.frames,I.ok.stk,I.ok.exf,I.ok.bs,I.ok.bsz,I.ok.noex,I.ok.exfs,I.ok.funs,I.ok.frf⟩,I.os,I.bare,I.base,I.loc,I.cell,I.free,I.freeC,I.pin,I.hok,I.len⟩
theorem Inv.track{a:Addr}{o:HO}(I:Inv X qv σ H s)(f:FpX X qv H a)(new:uo X.prog X.w (upd H a o) s.heap a o):Inv X qv σ (upd H a o) s:=by
 have ne:∀b z,H b=some z->b≠a:=fun b z q w=>by rw[w,f.1] at q;cases q
 refine⟨I.ok,I.os,I.bare,⟨I.base.keep,I.base.slot,fun b o' e n hx =>?_,I.base.there,fun b xs q =>?_,fun b ob u q =>?_,fun b ps q =>?_⟩,I.loc,I.cell,?_,fun x c e =>?_,fun p hp =>?_,fun b u e =>?_,I.len⟩
 ·rw[cu (fun w=>by
   rcases f.2.2.2.1 with z | z
   ·exact hx (w▸z)
   ·rw[w,z] at e;cases e)]
  exact I.base.free b o' e n hx
 ·have:=I.base.tups b xs q;rw[cu (ne _ _ this)];exact this
 ·have:=I.base.frzs b ob u q;rw[cu (ne _ _ this)];exact this
 ·obtain⟨more,h1⟩:=I.base.tbls b ps q;exact⟨more,by rw[cu (ne _ _ h1)];exact h1⟩
 ·rw[cu (Ne.symm f.2.1)];exact I.free
 ·rw[cu (f.2.2.2.2.1 x c e)];exact I.freeC x c e
 ·obtain⟨h1,h2,h3,h4,h5⟩:=I.pin p hp;exact⟨h1,by rw[cu (f.2.2.2.2.2 p hp)];exact h2,h3,h4,h5⟩
 ·by_cases hb:b=a
  ·subst hb;rw[gw] at e;cases e;exact new
  ·rw[cu hb] at e;refine(I.hok b u e).stay (fun c v _ q=>q) (fun c q =>?_) fun c xs q =>?_
   ·rw[cu (ne _ _ q)];exact q
   ·rw[cu (ne _ _ q)];exact q
theorem aoe{i:Nat}{a:Addr}{σ':L2.St}(hs:∀j,j≠i->σ'[j]? = σ[j]?)(h:Own (List.set ρ i .emp) σ' a):Own ρ σ a:=by
 obtain⟨j,⟨t,l,e⟩,q⟩:=h;rw[List.getElem?_set] at e
 by_cases hj:i=j
 ·subst hj;rw[if_pos rfl] at e;split at e <;> cases e
 ·rw[if_neg hj] at e;exact⟨j,⟨t,l,e⟩,by rw[<-hs j (Ne.symm hj)];exact q⟩
theorem Good.forget(G:Good K tg F H ρ σ)(i:Nat):Good K tg F H (List.set ρ i .emp) (List.set σ i none) where
 sub:=G.sub
 len:=by rw[List.length_set,List.length_set];exact G.len
 sl:=fun j s o e q=>by
  rw[List.getElem?_set] at e q
  by_cases hj:i=j
  ·subst hj;rw[if_pos rfl] at e;split at e
   ·cases e;trivial
   ·cases e
  ·rw[if_neg hj] at e q;exact G.sl j s o e q
 inj:=fun j k a ⟨⟨t,l,e⟩,q⟩ ⟨⟨t',l',e'⟩,q'⟩=>by
  have f:∀{j t l},(List.set ρ i Sl.emp)[j]? = some (Sl.own t l)->i≠j:=fun{j t l} e z=>by
   subst z;rw[List.getElem?_set,if_pos rfl] at e;split at e <;> cases e
  have n1:=f e;have n2:=f e';rw[List.getElem?_set,if_neg n1] at e q;rw[List.getElem?_set,if_neg n2] at e' q';exact G.inj j k a ⟨⟨t,l,e⟩,q⟩ ⟨⟨t',l',e'⟩,q'⟩
theorem Ext.less{O O' O2:Addr->Prop}{F H F' H':Hp}(x:Ext O O' F H F' H')(h:∀a,O2 a->O' a):Ext O O2 F H F' H':=⟨x.sub,x.new,x.keep,fun a z=>x.own a (h a z),x.there⟩
theorem apa{O O' O2:Addr->Prop}{F' H H':Hp}{r:Rv}{v:V}(x:relR K r v H O F' H' O')(h:∀a,O2 a->O' a):relR K r v H O F' H' O2:=by
 cases r with
 | v d=>exact x
 | fr l =>
  obtain⟨a,vs,e1,e2,e3,e4,e5,e6⟩:=x;exact⟨a,vs,e1,e2,e3,e4,e5,fun z=>e6 (h a z)⟩
 | tf d l =>
  obtain⟨t,u,a,vs,e0,e1,e2,e3,e4,e5,e6,e7⟩:=x;exact⟨t,u,a,vs,e0,e1,e2,e3,e4,e5,e6,fun z=>e7 (h a z)⟩
end
def dTry(ns:List Str)(gb:Sd)(i:Nat)(gh:Sd):Sd:=fun ρ=>match gb ρ with
 | some (.exc x,ρ1)=>if ns.contains x.cls then match gh (List.set ρ1 i (.val (.exn x.cls x.fs))) with
   | some (.exc _,_)=>none
   | some (fl,ρ2)=>some (fl,List.set ρ2 i .emp)
   | none=>none
  else none
 | r=>r
structure CatN (K:Fg9) (B:Addr):Prop extends CatK K B where
 ns:nsIn K mainGlobals "ArrowError" = some (some (.ref B))
 self:PySem.W.subIn K (.ref B) (.ref B)=some true
theorem an5{K:Fg9}{C B:Addr}(k:CatN K B)(h:PySem.W.kitOne K (.ref C) (.ref B)=some true):PySem.W.subIn K (.ref C) (.ref B)=some true:=by
 by_cases e:C=B
 ·rw[e];exact k.self
 ·have h1:(if (Value.ref C==Value.ref B)=true then some true else PySem.W.kitCls K (.ref C) (.ref B))=some true:=h
  rw[if_neg (fun z=>e (Value.ref.inj (beq_iff_eq.mp z)))] at h1
  have h2:(if ((PySem.W.clsIn K B).isSome&&PySem.W.typeIn K (.ref B)==some (.type "type"))=true then PySem.W.subIn K (.ref C) (.ref B) else none)=some true:=h1
  split at h2
  ·exact h2
  ·cases h2
def a4l(K:Fg9)(tg:Nat->Addr)(ρ:Ro)(σ:L2.St)(F H:Hp)(ρ2:Ro)(fl:Fl):Ends where
 nx:=fun σ6 H6=>fl=.nx/\∃F6,Good K tg F6 H6 ρ2 σ6/\Ext (Own ρ σ) (Own ρ2 σ6) F H F6 H6
 bk:=fun σ6 H6=>fl=.brk/\∃F6,Good K tg F6 H6 ρ2 σ6/\Ext (Own ρ σ) (Own ρ2 σ6) F H F6 H6
 ct:=fun σ6 H6=>fl=.cont/\∃F6,Good K tg F6 H6 ρ2 σ6/\Ext (Own ρ σ) (Own ρ2 σ6) F H F6 H6
 rt:=fun v H6=>∃r σ6 F6,fl=.ret r/\Good K tg F6 H6 ρ2 σ6/\Ext (Own ρ σ) (Own ρ2 σ6) F H F6 H6/\relR K r v H (Own ρ σ) F6 H6 (Own ρ2 σ6)
section
variable{K:Fg9}{X:Cx}{pos hpos bp:Pos}{n:Str}{B:Addr}{i:Nat}{b₀:Stmt}{body suite:List Stmt}{ns:List Str}{gb gh:Sd}
theorem ayc(hcalm:X.calm=true)(hno:X.xe=fun _ _=>False)(hfr:X.env.frame=some X.env.locals)(hst:X.stack=X.env::X.outer)(hN:X.N.Nodup)(hi:X.N[i]? = some n)(hk0:X.env.scope.names.lookup n=some .local)
  (hgB:Gl X "ArrowError") (hmB:X.mg "ArrowError" = some (.ref B)) (cat:CatN K B) (sub:ah2 K ns=true) (hB:ns.contains "ArrowError" = true) (hb:SVs K X body gb) (hx:XSs K X body gb) (hh:∀ev,SVs K (cxH X ev) (b₀::suite) gh) :
  SV K X (.Try body [.ExceptHandler (some (.Name "ArrowError" bp)) (some n) (b₀::suite) hpos] [] [] pos) (dTry ns gb i gh):=SV.mk fun hk qv s σ H E I z9=>by
 obtain⟨tg,F,ρ,fl,ρ',G,em,q⟩:=z9;refine wpAny_Try_except ?_;unfold dTry at em;split at em
 ·rename_i x ρ1 e1;split at em
  ·rename_i hc0;split at em
   ·cases em
   ·rename_i fl' ρ2 hne e2;cases em;refine wpAny_mono (hx.go hk hno qv s σ H tg F ρ x ρ1 I G (uh.mpr e1)) (fun _ _ z=>z.elim) fun er s1 z9 =>?_
    obtain⟨σ1,H1,F1,I1,G1,x1,a,C,dx,ch,ea,hc,hf,fly,hch⟩:=z9;subst ea;have hl1:=I1.stack;rw[hst] at hl1;refine apt (by rw[<-hst];exact I1.ok.frames) hl1 hfr fly fun h2 ch2 hne2 hch2 kb2 fly2 =>?_
    rw[<-hst] at kb2;have I2:=Inv.records I1 kb2 hch;have fp2:∀b∈ch2,FpX X qv H1 b:=fun b hb=>by
     rcases hch2 b hb with z | z
     ·exact hch b z
     ·exact Inv.fpX I1 (Heap.get?_none_of_le z) (I1.hok.fresh z)
    obtain⟨oe,vs,he,hcl,_⟩:=(fly2 X.env.locals).obj;have hsub:=an5 cat (by have z:=amk sub hc0 hB hc.ns cat.ns;rw[z];simp[aix])
    refine wpAny_handleBy_cons (codeAny_handlers_test (aei (X:=cxH X (.ref a)) (Inv.hnd I2 _) hgB hmB ?_ (by decide))) (by intro z;cases z)
    refine as3 (hk▸I2.kIn) cat.toCatK he hcl hsub ?_;refine codeAny_handlers_suite_as ?_;refine avb (fs:=frs X.stack) (fly2 X.env.locals) hne2 fun h3 kb3 fly3 ha3 =>?_
    have I3:=Inv.records I2 kb3 fp2;obtain⟨oe3,vs3,he3,hcl3,hdx3,hd3,_⟩:=(fly3 X.env.locals).obj;have fa:FpX X qv H1 a:=fp2 a (fly2 X.env.locals).fresh;have I4:=Inv.track (o:=.ext (exO a C dx)) I3 fa ⟨⟨oe3,vs3,he3,hcl3,hdx3,hd3⟩,⟨oe3,he3⟩,fun g1 g2 ⟨o,vs',h1,h2,h3,h4⟩ kp=>⟨o,vs',kp o h1,h2,h3,h4⟩⟩
    have G4:=G1.new fa.1 (.ext (exO a C dx));have x4:=G1.newX fa.1 (.ext (exO a C dx));have isE:Is K (upd F1 a (.ext (exO a C dx))) (.exn x.cls x.fs) (.ref a):=.exn gw hc.ns hc.ok (hf.imp id fun⟨d,h1,h2⟩=>⟨d,h1,x4.sub _ _ h2⟩)
    obtain⟨G5,x5⟩:=G4.storeV i isE;refine ac8 I4 hN hi (.inl hk0) (v:=.ref a) rfl (fun s5 I5 =>?_) (.inr hk0)
    have hx5:=(x1.trans x4).trans x5;have back:∀{f:Flow} {s6:Shared} {σ6:L2.St} {H6:Hp},Inv (cxH X (.ref a)) qv σ6 H6 s6->(∀s7,Inv X qv (List.set σ6 i none) H6 s7->SP X qv E f s7) ->
      wpAny (model X.prog X.w) X.A (do bindName X.env n .none;unbindBehindTheSuite X.env n hpos) (fun _ s7=>SP X qv E f s7) X.xe s6:=fun{f s6 σ6 H6} I6 fin=>by
     have I6:=Inv.unhnd I.ok.hd I6;refine wpAny_bind (wpAny_bindName (ac8 I6 hN hi (.inl hk0) (v:=.non) rfl (fun s7 I7 =>?_) (.inr hk0)))
     unfold unbindBehindTheSuite;refine wpAny_onRaise (a0m I7 hN hi hk0 (v:=.non) (List.getElem?_set_self (by rw[I6.len];exact(List.getElem?_eq_some_iff.mp hi).1)) fun s8 I8=>fin s8 ?_)
     rw[List.set_set] at I8;exact I8
    refine wpAny_mono ((hh (.ref a)).go hk qv s5 _ _ (a4l K tg ρ σ F H ρ2 fl) (Inv.hnd I5 (.ref a))
      ⟨tg,_,_,fl,ρ2,G5,e2,?_⟩) (fun f s6 hs =>?_) fun _ _ z=>by
       have z:X.xe _ _:=z;rw[hno] at z;exact z.elim
    ·cases fl with
     | nx=>exact fun σ6 H6 F6 G6 x6=>⟨rfl,F6,G6,hx5.trans x6⟩
     | brk=>exact fun σ6 H6 F6 G6 x6=>⟨rfl,F6,G6,hx5.trans x6⟩
     | cont=>exact fun σ6 H6 F6 G6 x6=>⟨rfl,F6,G6,hx5.trans x6⟩
     | ret r=>exact fun v σ6 H6 F6 G6 x6 rr=>⟨r,σ6,F6,rfl,G6,hx5.trans x6,qu hx5 rr⟩
     | exc y=>exact(hne y rfl).elim
    ·have sub6:∀(σ6:L2.St) (a:Addr),Own (List.set ρ2 i .emp) (List.set σ6 i none) a->Own ρ2 σ6 a:=fun σ6 a z=>aoe (fun j hj=>List.getElem?_set_ne (Ne.symm hj)) z
     cases f with
     | next =>
      obtain⟨σ6,H6,I6,rfl,F6,G6,x6⟩:=hs;exact back I6 fun s7 I7=>⟨_,H6,I7,q _ H6 F6 (G6.forget i) (x6.less (sub6 σ6))⟩
     | brk =>
      obtain⟨σ6,H6,I6,rfl,F6,G6,x6⟩:=hs;exact back I6 fun s7 I7=>⟨_,H6,I7,q _ H6 F6 (G6.forget i) (x6.less (sub6 σ6))⟩
     | cont =>
      obtain⟨σ6,H6,I6,rfl,F6,G6,x6⟩:=hs;exact back I6 fun s7 I7=>⟨_,H6,I7,q _ H6 F6 (G6.forget i) (x6.less (sub6 σ6))⟩
     | ret u =>
      obtain⟨v,σ6,H6,I6,rv,r,σ6',F6,rfl,G6,x6,rr⟩:=hs;exact back I6 fun s7 I7=>⟨v,_,H6,I7,rv,q v _ H6 F6 (G6.forget i) (x6.less (sub6 σ6')) (apa rr (sub6 σ6'))⟩
   ·cases em
  ·cases em
 ·rename_i hn;refine wpAny_mono (hb.go hk qv s σ H E I ⟨tg,F,ρ,fl,ρ',G,em,q⟩) (fun f s1 z =>?_) fun er s1 z=>by rw[hno] at z;exact z.elim
  cases f with
  | next=>exact wpAny_execs_nil z
  | ret v=>exact z
  | brk=>exact z
  | cont=>exact z
end
def okS{α:Type}(m:M α):M α:=fun ρ=>match m ρ with
 | some (.ok a,ρ1)=>some (.ok a,ρ1)
 | _=>none
def dOk(g:Sd):Sd:=fun ρ=>match g ρ with
 | some (.exc _,_)=>none
 | r=>r
@[simp] theorem a4q{α:Type}(m:M α)(ρ:Ro):okS m ρ=match m ρ with
 | some (.ok a,ρ1)=>some (.ok a,ρ1)
 | _=>none:=rfl
@[simp] theorem a5b(g:Sd)(ρ:Ro):dOk g ρ=match g ρ with
 | some (.exc _,_)=>none
 | r=>r:=rfl
theorem aj3{α:Type}{m:M α}{ρ ρ':Ro}{o:Out α}(h:okS m ρ=some (o,ρ')):m ρ=some (o,ρ')/\∃a,o=.ok a:=by
 unfold okS at h;split at h
 ·rename_i a ρ1 e;cases h;exact⟨e,a,rfl⟩
 ·cases h
theorem au4{g:Sd}{ρ ρ':Ro}{fl:Fl}(h:dOk g ρ=some (fl,ρ')):g ρ=some (fl,ρ')/\∀x,fl≠.exc x:=by
 unfold dOk at h;split at h
 ·cases h
 ·rename_i hn;exact⟨h,fun x e=>hn x ρ' (by rw[h,e])⟩
theorem jf{α:Type}{m:M α}:NoX (okS m):=fun ρ x ρ' h=>by
 obtain⟨_,a,e⟩:=aj3 h;cases e
theorem awk{g:Sd}:NoS (dOk g):=fun ρ x ρ' h=>(au4 h).2 x rfl
section
variable{K:Fg9}{X:Cx}{e a b c:Expr}{es:List Expr}{pos p:Pos}{st:Stmt}{ss:List Stmt}
theorem SV.s{g:Sd}(h:SV K X st g):SV K X st (dOk g):=SV.mk fun hk=>PS.imp (h.go hk) fun E σ H ⟨tg,F,ρ,fl,ρ',G,em,q⟩=>⟨tg,F,ρ,fl,ρ',G,(au4 em).1,q⟩
theorem EV.s{m:M D}(h:EV K X e m):EV K X e (okS m):=EV.mk fun hk=>PE.imp (h.go hk) fun σ H Q ⟨tg,F,ρ,d,ρ',G,em,q⟩=>⟨tg,F,ρ,d,ρ',G,(aj3 em).1,q⟩
theorem ER.s{m:M Rv}(h:ER K X e m):ER K X e (okS m):=ER.mk fun hk=>PE.imp (h.go hk) fun σ H Q ⟨tg,F,ρ,d,ρ',G,em,q⟩=>⟨tg,F,ρ,d,ρ',G,(aj3 em).1,q⟩
theorem ET.s{m:M Bool}(h:ET K X e m):ET K X e (okS m):=ET.mk fun hk=>fun qv s σ H Q I ⟨tg,F,ρ,d,ρ',G,em,q⟩=>h.go hk qv s σ H Q I ⟨tg,F,ρ,d,ρ',G,(aj3 em).1,q⟩
theorem EG.s{js:List (Option Nat)}{m:M (List (Option D))}(h:EG K X es js m):EG K X es js (okS m):=EG.mk fun hk=>PA.imp (h.go hk) fun σ H Q ⟨tg,F,ρ,d,ρ',G,em,q⟩=>⟨tg,F,ρ,d,ρ',G,(aj3 em).1,q⟩
theorem ac7{x:Exn}:SV K X st (ae1 x):=SV.mk fun _=>PS.imp ar8 fun E σ H z9=>by
 obtain⟨tg,F,ρ,fl,ρ',G,em,q⟩:=z9;cases em;exact(show False from q).elim
theorem ab8{g:Sd}:XS K X st (dOk g):=XS.no awk
theorem XE.d{m:M Rv}(h:XE K X e m):XE K X e m.d:=⟨fun hk hn qv s σ H tg F ρ x ρ' I G em=>by
 rcases aao (ni.mp em) with em | ⟨_,_,_,em⟩
 ·exact h.go hk hn qv s σ H tg F ρ x ρ' I G (ni.mpr em)
 ·cases em⟩
theorem XE.v{m:M D}(h:XE K X e m):XE K X e m.v:=⟨fun hk hn qv s σ H tg F ρ x ρ' I G em=>by
 rcases aao (ni.mp em) with em | ⟨_,_,_,em⟩
 ·exact h.go hk hn qv s σ H tg F ρ x ρ' I G (ni.mpr em)
 ·cases em⟩
theorem ac4{α:Type}{l:α}:XA K X [] (ret l):=XA.no fun ρ x ρ' h=>by cases h
theorem xa_v{m:M D}{js:List (Option Nat)}{ms:M (List (Option D))}(h:EV K X e m)(hx:XE K X e m)(t:XA K X es ms)(hs:starEach (e::es) X.env=(false,eval e X.env)::starEach es X.env:=by rfl):XA K X (e::es) (bh m ms):=⟨fun pos hk hn qv s σ H tg F ρ x ρ' I G em=>by
 rw[hs];refine Calls.spliced_cons ?_;rcases aao (ni.mp em) with em | ⟨d,ρ1,e1,em⟩
 ·exact wpAny_mono (hx.go hk hn qv s σ H tg F ρ x ρ' I G (ni.mpr em)) (fun _ _ z=>z.elim) fun _ _ z=>z
 ·rcases aao em with em | ⟨_,_,_,em⟩
  ·refine wpAny_mono (h.go hk qv s σ H (fun _ H1=>∃F1,Good K tg F1 H1 ρ1 σ/\Ext (Own ρ σ) (Own ρ1 σ) F H F1 H1) I ⟨tg,F,ρ,d,ρ1,G,e1,fun v H1 F1 G1 x1 _=>⟨F1,G1,x1⟩⟩) (fun u s1 ⟨v,H1,I1,_,F1,G1,x1⟩ =>?_) fun e s1 q=>by rw[hn] at q;exact q.elim
   exact wpAny_mono (t.go pos hk hn qv s1 σ H1 tg F1 ρ1 x ρ' I1 G1 (ni.mpr em)) (fun _ _ z=>z.elim) fun _ _ z=>z.back x1
  ·cases em⟩
theorem xa_n{j:Nat}{ms:M (List (Option D))}(h:PE X e (tVar j))(t:XA K X es ms)(hs:starEach (e::es) X.env=(false,eval e X.env)::starEach es X.env:=by rfl):XA K X (e::es) (du j ms):=⟨fun pos hk hn qv s σ H tg F ρ x ρ' I G em=>by
 rw[hs];refine Calls.spliced_cons ?_;rcases aao (ni.mp em) with em1 | ⟨d,ρ1,e1,em2⟩
 ·exfalso;unfold di at em1;split at em1 <;> cases em1
 ·obtain⟨hρ,v,hv,_⟩:=qm G e1;rw[hρ] at em2;rcases aao em2 with em3 | ⟨_,_,_,em3⟩
  ·refine wpAny_mono (h qv s σ H (fun _ H1=>H1=H) I ⟨v,hv,rfl⟩) (fun u s1 ⟨_,H1,I1,_,e⟩ =>?_) fun e s1 q=>by rw[hn] at q;exact q.elim
   subst e;exact wpAny_mono (t.go pos hk hn qv s1 σ H1 tg F ρ x ρ' I1 G (ni.mpr em3)) (fun _ _ z=>z.elim) fun _ _ z=>z
  ·cases em3⟩
end
section
variable{K:Fg9}{X:Cx}{e:Expr}{es:List Expr}{pos p:Pos}
end
def ClsT(K:Fg9)(mg:Str->Option Value)(c:Str):Prop:=∃C,mg c=some (.ref C)/\ClsOk K c C
def RaiT(K:Fg9)(mg:Str->Option Value)(c:Str):Prop:=∃C,mg c=some (.ref C)/\ClsOk K c C/\PySem.W.excIn K C bmV "ValueError.__new__" = true
def CatT(K:Fg9)(mg:Str->Option Value):Prop:=∃B,mg "ArrowError" = some (.ref B)/\CatN K B
section
variable{K:Fg9}{X:Cx}{e:Expr}{pos p np cpos hpos bp:Pos}{c:Str}
theorem ac3(hk:X.K=K)(hcalm:X.calm=true)(hg:Gl X c)(h:RaiT K X.mg c)(hd:(c==("__debug__" : Str))=false:=by decide):XS K X (.Raise (some (.Call (.Name c np) [] [] cpos)) none pos) (ae1 ⟨c,[]⟩):=by
 obtain⟨C,hm,k,q⟩:=h;subst hk;exact aow hcalm hg hm k q hd
theorem jg{ns:List Str}{m:M D}{x:Str}{pc:Pos}(sub:ah2 K ns=true)(h1:ns.contains c=true)(hgC:Gl X c)(hC:ClsT K X.mg c)(hg:Gl X x)(hm:X.mg x=none)(hv:bootBuiltins x=some (.builtin "isinstance"))(h:EB K X e m)
  (hdC:(c==("__debug__" : Str))=false:=by decide) (hn:x ≠ "__name__" := by decide) (hdb:(x==("__debug__" : Str))=false:=by decide)
  (h1':starEach [.Name c pc] X.env=(false,eval (.Name c pc) X.env)::starEach [] X.env:=by rfl) (he:starEach [e,.Name c pc] X.env=(false,eval e X.env)::starEach [.Name c pc] X.env:=by rfl) (hpl:(backTo pos (starEach [.Name c pc] X.env)).any (·.1)=false:=by rfl) :
  EV K X (.Call (.Name x p) [e,.Name c pc] [] pos) (mIsC ns c m):=by
 obtain⟨C,hmC,k⟩:=hC;exact axe sub h1 hgC hmC k.ns hg hm hv h hdC hn hdb h1' he hpl
theorem avj{n:Str}{i:Nat}{b₀:Stmt}{body suite:List Stmt}{ns:List Str}{gb gh:Sd}(hcalm:X.calm=true)(hno:X.xe=fun _ _=>False)(hfr:X.env.frame=some X.env.locals)(hst:X.stack=X.env::X.outer)(hN:X.N.Nodup)(hi:X.N[i]? = some n)(hk0:X.env.scope.names.lookup n=some .local)
  (hgB:Gl X "ArrowError") (hB:CatT K X.mg) (sub:ah2 K ns=true) (hB2:ns.contains "ArrowError" = true) (hb:SVs K X body gb) (hx:XSs K X body gb) (hh:∀ev,SVs K (cxH X ev) (b₀::suite) gh) :
  SV K X (.Try body [.ExceptHandler (some (.Name "ArrowError" bp)) (some n) (b₀::suite) hpos] [] [] pos) (dTry ns gb i gh):=by
 obtain⟨B,hm,cat⟩:=hB;exact ayc hcalm hno hfr hst hN hi hk0 hgB hm cat sub hB2 hb hx hh
end
@[simp] theorem a0n(x:Exn)(ρ:Ro):ae1 x ρ=some (.exc x,ρ):=rfl
def axd(K:Fg9)(C:Addr):Bool:=(findIn K (.ref C) "__getattribute__" == some (some (.builtin "BaseException.__getattribute__")))&&(findIn K (.ref C) "__getattr__" == some none)&&(PySem.W.mroIn K C (.type "BaseException")==some true)&&PySem.W.hasDictIn K C&&(findIn K (.ref C) "__class__" == some (some (.builtin "object.__class__")))&&(PySem.W.specialIn K (.builtin "object.__class__") "__get__" == some (some (.builtin "getset_descriptor.__get__"))) &&
 (PySem.W.takesIn K (.builtin "object.__class__")==some true)&&(PySem.W.mroIn K C (.type "object")==some true)&&["int","bool","tuple","list","str","dict"].all fun T=>PySem.W.subIn K (.ref C) (.type T)==some false
theorem atq{K:Fg9}{C:Addr}(h:axd K C=true):ExcK K C:=by
 unfold axd at h;simp only[Bool.and_eq_true,beq_iff_eq] at h;obtain⟨⟨⟨⟨⟨⟨⟨⟨h0,h1⟩,h8⟩,h2⟩,h3⟩,h4⟩,h5⟩,h6⟩,h7⟩:=h;exact⟨h0,h1,h8,h2,h3,h4,h5,h6,fun T hT=>beq_iff_eq.mp (List.all_eq_true.mp h7 T hT)⟩
def aqv(K:Fg9)(ns:List Str):Bool:=ns.all fun c=>match clsAt K c with
 | some C=>axd K C
 | none=>false
def aul(K:Fg9)(ns:List Str):Bool:=ns.all fun c=>match clsAt K c with
 | some C=>PySem.W.excIn K C bmV "ValueError.__new__"
 | none=>false
def catB(K:Fg9):Bool:=match clsAt K "ArrowError" with
 | some B=>PySem.W.hasDictIn K B&&(PySem.W.typeIn K (.ref B)==some (.type "type"))&&(PySem.W.subIn K (.ref B) (.type "BaseException")==some true)&&(PySem.W.subIn K (.ref B) (.ref B)==some true)
 | none=>false
theorem afe{K:Fg9}{c:Str}{C:Addr}(h:clsAt K c=some C):nsIn K mainGlobals c=some (some (.ref C)):=by
 unfold clsAt at h;split at h
 ·rename_i C' e;cases h;exact e
 ·cases h
section
variable{K:Fg9}{h:Heap}{mg:Str->Option Value}{ns:List Str}{c:Str}
theorem rn(X:K.In h)(G:h.Ns mainGlobals mg)(e:aqv K ns=true)(hc:ns.contains c=true):ClsT K mg c:=by
 have z:=List.all_eq_true.mp e c (List.contains_iff_mem.mp hc);split at z
 ·rename_i C q;exact⟨C,mg_of X G (afe q),afe q,atq z⟩
 ·cases z
theorem aa6{rs:List Str}(X:K.In h)(G:h.Ns mainGlobals mg)(e:aqv K ns=true)(hc:ns.contains c=true)(e2:aul K rs=true)(hr:rs.contains c=true):RaiT K mg c:=by
 obtain⟨C,h1,h2⟩:=rn X G e hc;have z:=List.all_eq_true.mp e2 c (List.contains_iff_mem.mp hr);rw[afd h2.ns] at z;exact⟨C,h1,h2,z⟩
theorem axm(X:K.In h)(G:h.Ns mainGlobals mg)(e:catB K=true):CatT K mg:=by
 unfold catB at e;split at e
 ·rename_i B q;simp only[Bool.and_eq_true,beq_iff_eq] at e;obtain⟨⟨⟨h1,h2⟩,h3⟩,h4⟩:=e;obtain⟨cd,hc,_⟩:=PySem.W.any_some h1;exact⟨B,mg_of X G (afe q),⟨by rw[hc];rfl,h2,h3⟩,afe q,h4⟩
 ·cases e
end
end Dn
namespace Mn
open L2
section
variable{X:Cx}
def ayb:TE:=fun _ H Q=>∀p,H p=none->Q (.ref p) (upd H p (.dK []))
theorem ash{pos:Pos}:PE X (.Dict [] [] pos) ayb:=by
 intro qv s σ H Q I q;have big:sysModules < s.heap.objs.size:=by
  have h:mainGlobals < s.heap.objs.size:=(I.mod.glob.keeps I.bk).lt;exact Nat.lt_trans (by decide) h
 have hn:=I.hok.fresh (Nat.le_refl s.heap.objs.size);refine wpAny_Dict_empty ⟨.ref s.heap.objs.size,upd H s.heap.objs.size (.dK []),?_,rfl,q _ hn⟩;refine I.laid (t':=s.toks) (fun b u e=>Heap.get?_push_of_some _ e) (Nat.le_refl _) ?_
 exact⟨Nat.zero_le _,beq_eq_false_iff_ne.mpr (Ne.symm (Nat.ne_of_lt big)),[],.nil,Heap.DictOf.new s.heap⟩
end
end Mn
namespace Dn
open L2 Mn
section
variable{K:Fg9}{X:Cx}{a b:Expr}{pos p p2:Pos}
theorem atu:EV K X (.Dict [] [] pos) (ret (.dct [])):=EV.mk fun _=>PE.imp ash fun σ H Q z9=>by
 obtain⟨tg,F,ρ,d,ρ',G,em,q⟩:=z9;obtain⟨rfl,rfl⟩:=jr em;exact fun p hp=>q _ _ _ (G.new hp _) (G.newX hp _) (.dct gw .nil)
end
theorem yq{c:M Bool}{g:Sd}(Inv:Nat->Ro->Prop)(Done:Ro->Prop)(hs:∀k ρ,Inv k ρ->(∃ρ',c ρ=some (.ok false,ρ')/\Done ρ')∨∃ρ1 ρ2 k',c ρ=some (.ok true,ρ1)/\g ρ1=some (.nx,ρ2)/\k' < k/\Inv k' ρ2) :
  ∀(n k:Nat) (ρ:Ro),k < n->Inv k ρ->∃ρ',whileD c g n ρ=some (.nx,ρ')/\Done ρ'
 | 0,k,ρ,h,_=>absurd h (Nat.not_lt_zero _)
 | n+1,k,ρ,h,h0=>by
  unfold whileD;rcases hs k ρ h0 with⟨ρ',e,d⟩ | ⟨ρ1,ρ2,k',e1,e2,hk,h2⟩
  ·rw[e];exact⟨ρ',rfl,d⟩
  ·rw[e1];dsimp only;rw[e2];exact yq Inv Done hs n k' ρ2 (by omega) h2
theorem ad0:100000 < fuel:=by unfold fuel;decide
theorem ai8(a b:Int):eqD (.int a) (.int b)=decide (a=b):=by
 show(a==b)=_
 by_cases h:a=b <;> simp[h]
theorem axv(ns:List Int)(a:Int):(ns.map D.int).any (fun y=>eqD y (.int a))=decide (a∈ns):=by
 induction ns with
 | nil=>simp
 | cons x r ih=>simp[ai8,List.mem_cons,ih,eq_comm]
theorem ahd(n:Nat)(ns:List Int):(ns.map D.int).all (okD n)=true:=by
 induction ns with
 | nil=>rfl
 | cons x r ih=>simp[okD]
theorem al8(neg:Bool)(a:Int)(ns:List Int):gIn neg (.int a) (.lst (ns.map D.int))=some (.v (.bl (if neg then !decide (a∈ns) else decide (a∈ns)))):=by
 have h:=ahd 30 ns;have h2:=axv ns a;simp only[gIn,itemsD,h,h2];simp[okD]
theorem ank:∀(a b:List Int),eqDs (a.map D.int) (b.map D.int)=decide (a=b)
 | [],[]=>rfl
 | [],_::_=>rfl
 | _::_,[]=>rfl
 | x::r,y::t=>by
  show(eqD (.int x) (.int y)&&eqDs (r.map D.int) (t.map D.int))=_;rw[ai8,ank r t]
  by_cases h:x=y <;> simp[h]
theorem agp(a b:List Int):eqD (.tup (a.map D.int)) (.tup (b.map D.int))=decide (a=b):=by
 rw[<-ank];exact aqm _ _
theorem atn(neg:Bool)(a b:List Int):gEq neg (.tup (a.map D.int)) (.tup (b.map D.int))=some (.v (.bl (if neg then !decide (a=b) else decide (a=b)))):=by
 have h1:okD 30 (.tup (a.map D.int))=true:=ahd 29 a;have h2:okD 30 (.tup (b.map D.int))=true:=ahd 29 b;simp only[gEq,h1,h2,agp];simp
def minI(ns:List Int):Int:=ad3 (fun i j=>decide (i < j)) ns
theorem atk{ns:List Int}(h:ns≠[]):aqe (.lst (ns.map D.int))=some (.v (.int (minI ns))):=by
 show(sr (ns.map D.int)).bind _=_;rw[aba];simp[h,minI]
theorem atj{ns:List Int}(h:ns≠[]):aqe (.tup (ns.map D.int))=some (.v (.int (minI ns))):=by
 show(sr (ns.map D.int)).bind _=_;rw[aba];simp[h,minI]
theorem akk{ns:List Int}(h:ns.length < 64):ai3 (.lst (ns.map D.int))=some (.fr ((sortI ns).map D.int)):=by
 show(sr (ns.map D.int)).bind _=_;rw[aba];simp[h]
@[simp] theorem a0e(a b:D):ati [a,b]=(itemsD a).bind fun l1=>(itemsD b).bind fun l2=>if l1.length<=l2.length then some (ac2 l1 l2) else none:=rfl
@[simp] theorem azv(ρ:Ro)(i:Nat)(ms:M (List D)):apw i ms ρ=((di i).bind fun d0=>ms.bind fun ds=>(di i).bind fun d=>(lift (match d0,d with
 | .lst _,.lst _=>some ()
 | .tup _,.tup _=>some ()
 | _,_=>none)).bind fun _=>lift (ai5 d ds)) ρ:=rfl
@[simp] theorem aw8(l:List D)(x:D):ai5 (.lst l) [x]=if okD 30 x&&l.all (okD 30) then some (.int (l.countP fun y=>eqD y x)) else none:=rfl
@[simp] theorem aw7(l:List D)(x:D):ai5 (.tup l) [x]=if okD 30 x&&l.all (okD 30) then some (.int (l.countP fun y=>eqD y x)) else none:=rfl
theorem ajb{l1 l2:List D}(h:l1.length<=l2.length):(ac2 l1 l2).length=l1.length:=by unfold ac2;rw[List.length_zipWith];omega
theorem ab2{ns:List Int}{k:Int}(h0:0<=k)(h1:k < (ns.length:Int)):atI (ns.map D.int) k=some (.int (ns.getD k.toNat 0)):=by
 have hk:k.toNat < ns.length:=by omega
 have q:atI (ns.map D.int) ((k.toNat:Nat):Int)=some (.int (ns.getD k.toNat 0)):=ac1 (by simp[List.getElem?_eq_getElem hk])
 rw[show((k.toNat:Nat):Int)=k by omega] at q
 exact q
theorem awx{n:Nat}{k:Int}(h0:0<=k)(h1:k < (n:Int)):ixN n k=some k.toNat:=by
 unfold ixN;simp[h0,h1]
theorem auj{n d:Nat}{k:Int}(h0:0<=k):HT.sIx n d (some k)=min k.toNat n:=by
 show(if k < 0 then (k+(n:Int)).toNat else min k.toNat n)=_
 rw[if_neg (by omega)]
theorem axk{ns:List D}{k:Int}(h0:0<=k)(h1:k<=(ns.length:Int)):cutD ns none (some k)=ns.take k.toNat:=by
 unfold cutD;rw[auj h0];have:HT.sIx ns.length 0 none=0:=rfl;rw[this,Nat.min_eq_left (by omega),Nat.sub_zero,List.drop_zero]
theorem agr{ns:List D}{k:Int}(h0:0<=k)(h1:k<=(ns.length:Int)):cutD ns (some k) none=ns.drop k.toNat:=by
 unfold cutD;rw[auj h0];have:HT.sIx ns.length ns.length none=ns.length:=rfl;rw[this,Nat.min_eq_left (by omega)]
 exact List.take_of_length_le (by simp)
theorem take_set_drop{α:Type}(l:List α)(k:Nat)(x:α)(h:k < l.length):l.take k++x::l.drop (k+1)=l.set k x:=by
 rw[List.set_eq_take_append_cons_drop,if_pos h]
theorem gn{K:Fg9}{P:Program}{w:World}{mg:Str->Option Value}{base:Heap}{x qual:Str}{st:Stmt}{f:Addr}{fd:FuncData}{N ps:List Str}{k nl np:Nat}{g:Sd}(F:Fun K x qual st f fd)(S:FnScope N ps (aq st))(h1:N.length=nl)(h2:ps.length=np)
  (body:∀(cdv:Value) (A:Around) (outer:List Env) (s:Shared) (H:Hp) (E:XK),Room k (A.deeper (envOfC qual (aq st) s.heap.objs.size f cdv))->SVs K (cxOf CX0 P w K mg base N qual (aq st) f cdv A outer s H E).nox (jh st) g) :
  FnOk P w K mg base CX0 (k+1) f fd ps (spOf K np (fnD nl np g)):=by
 subst h1 h2;exact a3u F S body
end Dn
namespace Mn
open L2
section
variable{X:Cx}
end
end Mn
namespace Dn
open L2 Mn
section
variable{K:Fg9}{X:Cx}
end
theorem mkSc{N P:List Str}{sc:Scope}(a:sc.kind=.function)(b:sc.isCoroutine=false)(c:sc.isGenerator=false)(e:N.take P.length=P)(d:N.Nodup/\(∀x∈P,sc.names.lookup x=some .local∨sc.names.lookup x=some .cell)/\∀y∈sc.names,y.2≠.free):FnScope N P sc:=⟨a,b,c,d.1,e,d.2.1,d.2.2⟩
end Dn
namespace Kst
open PySem PySem.W PyProof.Rows
structure Od (n:Nat) (c:Nat->Nat->Bool):Prop where
 tr:∀i j k,c i j=true->c j k=true->c i k=true
 to:∀i j,i < n->j < n->i≠j->c i j=false->c j i=true
def Asks(n:Nat)(c:Nat->Nat->Bool)(cmp:Nat->Nat->(Bool->Shared->Prop)->Shared->Prop)(s:Shared):Prop:=∀i j,i < n->j < n->∀C:Bool->Shared->Prop,C (c i j) s->cmp i j C s
structure Pm (n:Nat) (p:Array Nat):Prop where
 pm:p.toList.Perm (List.range n)
section
variable{n:Nat}{c:Nat->Nat->Bool}{cmp:Nat->Nat->(Bool->Shared->Prop)->Shared->Prop}{s:Shared}{p:Array Nat}
theorem Pm.size(h:Pm n p):p.size=n:=by have:=h.pm.length_eq;simpa using this
theorem Pm.get(h:Pm n p){k:Nat}(hk:k < n):p[k]? = some (p.getD k 0):=by
 have:=h.size;have h':k < p.size:=by omega
 simp[Array.getD,h']
theorem Pm.lt(h:Pm n p){k:Nat}(hk:k < n):p.getD k 0 < n:=by
 have e:=h.get hk;have m:p.getD k 0∈p.toList:=by
  rw[<-Array.getElem?_toList] at e;exact List.mem_of_getElem? e
 have:=h.pm.mem_iff.mp m
 simpa using this
theorem Pm.inj(h:Pm n p){i j:Nat}(hi:i < n)(hj:j < n)(e:p.getD i 0=p.getD j 0):i=j:=by
 have nd:p.toList.Nodup:=h.pm.nodup_iff.mpr List.nodup_range;have e1:=h.get hi;have e2:=h.get hj;rw[<-Array.getElem?_toList] at e1 e2;have s1:=h.size;exact(List.getElem?_inj (by simpa[s1] using hi) nd).mp (by rw[e1,e2,e])
def Srt(c:Nat->Nat->Bool)(p:Array Nat)(m:Nat):Prop:=∀i j,i < j->j < m->c (p.getD i 0) (p.getD j 0)=true
theorem auh(O:Od n c){m:Nat}(h:∀k,1<=k->k < m->c (p.getD (k - 1) 0) (p.getD k 0)=true):Srt c p m:=by
 intro i j hij hj
 induction j with
 | zero=>omega
 | succ j ih =>
  have a:=h (j+1) (by omega) hj
  rw[Nat.add_sub_cancel] at a
  by_cases e:i=j
  ·subst e;exact a
  ·exact O.tr _ _ _ (ih (by omega) (by omega)) a
theorem ark(A:Asks n c cmp s)(hp:Pm n p){Q:Nat->Shared->Prop}:∀f a,1<=a->a+f<=n->(∀m,a<=m->m<=a+f->(∀k,a<=k->k < m->c (p.getD k 0) (p.getD (k - 1) 0)=false)->(m < a+f->c (p.getD m 0) (p.getD (m - 1) 0)=true)->Q m s)->(kas_asc p f a).kasWp cmp Q s
 | 0,a,_,_,h=>h a (Nat.le_refl _) (Nat.le_refl _) (fun k _ _=>by omega) (fun _=>by omega)
 | f+1,a,h1,h2,h=>A _ _ (hp.lt (by omega)) (hp.lt (by omega)) _ (by
   cases e:c (p.getD a 0) (p.getD (a - 1) 0) with
   | true =>
    dsimp only;rw[if_pos rfl];exact h a (Nat.le_refl _) (by omega) (fun k _ _=>by omega) fun _=>e
   | false =>
    dsimp only;rw[if_neg (by simp)]
    exact ark A hp f (a+1) (by omega) (by omega) fun m x1 x2 x3 x4=>h m (by omega) (by omega) (fun k k1 k2=>by
     by_cases q:k=a
     ·subst q;exact e
     ·exact x3 k (by omega) k2) fun q=>x4 (by omega))
theorem aqq(A:Asks n c cmp s)(O:Od n c)(hp:Pm n p){Q:Array Nat×Nat×Nat->Shared->Prop}:∀f a,1<=a->a+f<=n->(∀k,1<=k->k < a->c (p.getD k 0) (p.getD (k - 1) 0)=true)->(∀m,a<=m->m<=a+f->(∀k,1<=k->k < m->c (p.getD k 0) (p.getD (k - 1) 0)=true)->Q (p,m,0) s)->(kas_desc f p a 0).kasWp cmp Q s
 | 0,a,_,_,hs,h=>h a (Nat.le_refl _) (Nat.le_refl _) hs
 | f+1,a,h1,h2,hs,h=>A _ _ (hp.lt (by omega)) (hp.lt (by omega)) _ (by
   cases e:c (p.getD a 0) (p.getD (a - 1) 0) with
   | true =>
    dsimp only;rw[if_pos rfl,if_neg (by omega)]
    exact aqq A O hp f (a+1) (by omega) (by omega) (fun k k1 k2=>by
     by_cases q:k=a
     ·subst q;exact e
     ·exact hs k k1 (by omega)) fun m x1 x2 x3=>h m (by omega) (by omega) x3
   | false =>
    dsimp only;rw[if_neg (by simp)]
    refine A _ _ (hp.lt (by omega)) (hp.lt (by omega)) _ ?_
    rw[O.to _ _ (hp.lt (by omega)) (hp.lt (by omega)) (fun q=>by have:=hp.inj (by omega) (by omega) q;omega) e]
    dsimp only;rw[if_pos rfl];exact h a (Nat.le_refl _) (by omega) hs)
theorem auk(hp:Pm n p)(i j:Nat):Pm n (kas_rev p i j):=⟨(Array.perm_iff_toList_perm.mp (mirror_perm p i j _)).trans hp.pm⟩
theorem ao9(hp:Pm n p){m:Nat}(hm:m<=n){k:Nat}(hk:k < m):(kas_rev p 0 m).getD k 0=p.getD (m - 1 - k) 0:=by
 have e:=getElem?_mirror_all (xs:=p) (i:=0) (j:=m) (by rw[hp.size];exact hm) k
 rw[if_pos ⟨Nat.zero_le _,hk⟩,hp.get (by omega)] at e
 have e2:=(auk hp 0 m).get (k:=k) (by omega)
 unfold kas_rev at e2 ⊢
 rw[e2] at e;have:=Option.some.inj e;rw[this]
 congr 1
 omega
theorem flip(O:Od n c)(hp:Pm n p){i j:Nat}(hi:i < n)(hj:j < n)(h:i≠j)(e:c (p.getD i 0) (p.getD j 0)=false):c (p.getD j 0) (p.getD i 0)=true :=
 O.to _ _ (hp.lt hi) (hp.lt hj) (fun q=>h (hp.inj hi hj q)) e
theorem ave(A:Asks n c cmp s)(O:Od n c)(hp:Pm n p){m:Nat}(h1:1<=m)(hm:m<=n)(hd:∀k,1<=k->k < m->c (p.getD k 0) (p.getD (k - 1) 0)=true){Q:Nat×Array Nat->Shared->Prop}
  (h:∀m' p',1<=m'->m'<=n->Pm n p'->Srt c p' m'->Q (m',p') s):(kas_tail3 m n p).kasWp cmp Q s:=by
 unfold kas_tail3;rw[KasT.kasWp_bind];have hr:=auk hp 0 m;refine ark A hr _ _ h1 (by omega) fun m' x1 x2 x3 _ =>?_
 refine h m' _ (by omega) (by omega) hr (auh O fun k k1 k2 =>?_)
 by_cases q:k < m
 ·rw[ao9 hp hm q,ao9 hp hm (k:=k - 1) (by omega)]
  have:=hd (m - 1 - (k - 1)) (by omega) (by omega)
  rwa[show m - 1 - (k - 1) - 1=m - 1 - k by omega] at this
 ·exact flip O hr (by omega) (by omega) (by omega) (x3 k (by omega) k2)
theorem atv(A:Asks n c cmp s)(O:Od n c)(hp:Pm n p)(h2:2<=n){Q:Nat×Array Nat->Shared->Prop}
  (h:∀m' p',1<=m'->m'<=n->Pm n p'->Srt c p' m'->Q (m',p') s):(kas_count n p).kasWp cmp Q s:=by
 unfold kas_count;rw[KasT.kasWp_bind];refine ark A hp _ _ (Nat.le_refl _) (by omega) fun m x1 x2 x3 x4 =>?_
 have hs:Srt c p m:=auh O fun k k1 k2=>flip O hp (by omega) (by omega) (by omega) (x3 k k1 k2)
 by_cases q:m=n
 ·rw[if_pos (by simp[q])]
  exact h m p x1 (by omega) hp hs
 ·rw[if_neg (by simp[q])]
  by_cases q1:m > 1
  ·rw[if_pos q1];refine A _ _ (hp.lt (by omega)) (hp.lt (by omega)) _ ?_
   rw[hs 0 (m - 1) (by omega) (by omega)]
   dsimp only;rw[if_pos rfl];exact h m p x1 (by omega) hp hs
  ·rw[if_neg q1];have e1:m=1:=by omega
   subst e1;have y:=x4 (by omega)
   unfold kas_descPart;rw[KasT.kasWp_bind];refine aqq A O hp _ _ (by omega) (by omega) (fun k k1 k2 =>?_) fun m y1 y2 y3 =>?_
   ·have:k=1:=by omega
    subst this;exact y
   ·dsimp only;rw[if_neg (by omega)]
    exact ave A O hp (by omega) (by omega) y3 h
theorem aib(A:Asks n c cmp s)(O:Od n c)(hp:Pm n p){k:Nat}(hk:k < n)(hs:Srt c p k){Q:Nat->Shared->Prop}:∀f l r,l<=r->r<=k->r - l<=f->(∀i,i < l->c (p.getD i 0) (p.getD k 0)=true)->(∀i,r<=i->i < k->c (p.getD k 0) (p.getD i 0)=true) ->
  (∀l',l'<=k->(∀i,i < l'->c (p.getD i 0) (p.getD k 0)=true)->(∀i,l'<=i->i < k->c (p.getD k 0) (p.getD i 0)=true)->Q l' s)->(kas_place p k f l r).kasWp cmp Q s
 | 0,l,r,h1,h2,h3,a,b,h=>h l (by omega) a fun i i1 i2=>b i (by omega) i2
 | f+1,l,r,h1,h2,h3,a,b,h=>by
  show KasT.kasWp cmp (if l≥r then .ret l else _) Q s
  by_cases q:l≥r
  ·rw[if_pos q];exact h l (by omega) a fun i i1 i2=>b i (by omega) i2
  ·rw[if_neg q];refine A _ _ (hp.lt hk) (hp.lt (by omega)) _ ?_
   cases e:c (p.getD k 0) (p.getD ((l+r) / 2) 0) with
   | true =>
    dsimp only;rw[if_pos rfl];refine aib A O hp hk hs f l ((l+r) / 2) (by omega) (by omega) (by omega) a (fun i i1 i2 =>?_) h
    by_cases z:i=(l+r) / 2
    ·subst z;exact e
    ·exact O.tr _ _ _ e (hs _ i (by omega) i2)
   | false =>
    dsimp only;rw[if_neg (by simp)]
    have e':=flip O hp hk (by omega) (by omega) e
    refine aib A O hp hk hs f ((l+r) / 2+1) r (by omega) h2 (by omega) (fun i i1 =>?_) b h
    by_cases z:i=(l+r) / 2
    ·subst z;exact e'
    ·exact O.tr _ _ _ (hs i ((l+r) / 2) (by omega) (by omega)) e'
theorem aq8(hp:Pm n p){k l:Nat}(hk:k < n)(hl:l<=k){j:Nat}(hj:j < n):(bubble p k (k - l)).getD j 0=if j=l then p.getD k 0 else if l < j/\j<=k then p.getD (j - 1) 0 else p.getD j 0:=by
 have e:=getElem?_bubble (xs:=p) (src:=k) (by rw[hp.size];exact hk) (k - l) (by omega) j
 rw[show k - (k - l)=l by omega,hp.get hk,hp.get hj] at e
 have hb:Pm n (bubble p k (k - l)):=⟨(Array.perm_iff_toList_perm.mp (bubble_perm p k _)).trans hp.pm⟩;rw[hb.get hj] at e
 by_cases h1:j=l
 ·rw[if_pos h1] at e ⊢
  exact Option.some.inj e
 ·rw[if_neg h1] at e ⊢
  by_cases h2:l < j/\j<=k
  ·rw[if_pos h2,hp.get (by omega)] at e
   rw[if_pos h2];exact Option.some.inj e
  ·rw[if_neg h2] at e ⊢
   exact Option.some.inj e
theorem au7(A:Asks n c cmp s)(O:Od n c){Q:Array Nat->Shared->Prop}(h:∀p',Pm n p'->Srt c p' n->Q p' s):∀f p k,k+f=n->Pm n p->Srt c p k->(kas_bin f p k).kasWp cmp Q s
 | 0,p,k,e,hp,hs=>h p hp (by rw[<-e];exact hs)
 | f+1,p,k,e,hp,hs=>by
  show KasT.kasWp cmp (KasT.bind _ _) Q s;rw[KasT.kasWp_bind];refine aib A O hp (by omega) hs k 0 k (by omega) (Nat.le_refl _) (by omega) (fun i hi=>by omega) (fun i i1 i2=>by omega) fun l hl a b =>?_
  refine au7 A O h f _ (k+1) (by omega) ⟨(Array.perm_iff_toList_perm.mp (bubble_perm p k _)).trans hp.pm⟩ fun i j hij hj =>?_
  rw[aq8 hp (by omega) hl (by omega),aq8 hp (by omega) hl (by omega)]
  by_cases i1:i=l
  ·rw[if_pos i1,if_neg (by omega),if_pos (by omega)]
   exact b (j - 1) (by omega) (by omega)
  ·rw[if_neg i1]
   by_cases j1:j=l
   ·rw[if_pos j1,if_neg (by omega)]
    exact a i (by omega)
   ·rw[if_neg j1]
    by_cases i2:l < i
    ·rw[if_pos (by omega),if_pos (by omega)]
     exact hs _ _ (by omega) (by omega)
    ·rw[if_neg (by omega)]
     by_cases j2:l < j
     ·rw[if_pos (by omega)]
      by_cases z:i=j - 1
      ·omega
      ·exact hs _ _ (by omega) (by omega)
     ·rw[if_neg (by omega)]
      exact hs _ _ hij (by omega)
theorem avq(A:Asks n c cmp s)(O:Od n c)(h2:2<=n){Q:Array Nat->Shared->Prop}(h:∀p',Pm n p'->Srt c p' n->Q p' s):(kas_sort n).kasWp cmp Q s:=by
 unfold kas_sort;rw[KasT.kasWp_bind];refine atv A O ⟨by simp⟩ h2 fun m p m1 m2 hp hs =>?_
 dsimp only
 by_cases q:m < n
 ·rw[if_pos q];rw[show max m 1=m by omega]
  exact au7 A O h _ _ _ (by omega) hp hs
 ·rw[if_neg q];exact h p hp (by rw[show n=m by omega];exact hs)
end
section
variable{prog:Program}{w:World}{A:Around}{E:Value->Shared->Prop}{s:Shared}
def ajs(vs:List Value)(p:Array Nat):Array Value:=(p.toList.map fun i=>vs.getD i Value.none).toArray
theorem apb(vs:List Value):((List.range vs.length).map fun i=>vs.getD i Value.none)=vs:=by
 apply List.ext_getElem?;intro i;rw[List.getElem?_map]
 by_cases h:i < vs.length
 ·rw[List.getElem?_range h];simp[h]
 ·rw[List.getElem?_eq_none (by simpa using h),List.getElem?_eq_none (by omega)]
  rfl
theorem an7{a:Addr}{vs:List Value}{n:Nat}{P:PySem.Fin->Shared->Prop}{κ:SortKind}{c:Nat->Nat->Bool}(ho:s.heap.get? a=some (seqObj "list" vs.toArray n))(h64:vs.length < 64)(O:Od vs.length c)
  (hk:2<=vs.length->∀h':Heap,(∀b o,b≠a->s.heap.get? b=some o->h'.get? b=some o)->(∀Q:SortKind->Shared->Prop,Q κ { s with heap:=h' }->wpAny (model prog w) A (keyKind' vs.toArray) Q (fun _ _=>False) { s with heap:=h' })/\Asks vs.length c (kas_ask prog w A κ vs) { s with heap:=h' })
  (h:∀p,Pm vs.length p->Srt c p vs.length->P (.done (.ret .none)) { s with heap:=sortedHeap s.heap a vs (ajs vs p) }) :
  wpAny (model prog w) A (Builtin.«list.sort» ⟨[.ref a],[]⟩) P E s:=by
 have ha:a < s.heap.objs.size:=Heap.lt_size ho;obtain⟨e1,ho1⟩:∃e1,(s.heap.update a (Obj.mapSeq fun _=>(#[]:Array Value))).get? a=some (seqObj "list" #[] e1):=⟨_,get?_update_seq ho fun _ => #[]⟩
 have ho6:(((s.heap.update a (Obj.mapSeq fun _=>(#[]:Array Value))).push (seqObj "tuple" vs.toArray 0)).push (seqObj "list" #[] 0)).get? a=some (seqObj "list" #[] e1):=Heap.get?_push_of_some _ (Heap.get?_push_of_some _ ho1)
 have kp:∀b o,b≠a->s.heap.get? b=some o->(((s.heap.update a (Obj.mapSeq fun _=>(#[]:Array Value))).push (seqObj "tuple" vs.toArray 0)).push (seqObj "list" #[] 0)).get? b=some o:=fun b o hb e =>
  Heap.get?_push_of_some _ (Heap.get?_push_of_some _ (by rw[Heap.get?_update_ne _ _ _ _ hb];exact e))
 rw[list_sort_plain];refine wpAny_bind (listItems_at ho rfl ?_);refine wpAny_bind (listUpdate_at ho rfl ?_ (by rw[List.size_toArray,sizeLine_eq];omega) (Nat.zero_le _))
 refine wpAny_bind (seqEpoch_at ho1 rfl ?_);refine wpAny_bind (wpAny_newTuple ?_ (by show vs.length<=_;rw[sizeLine_eq];omega))
 refine wpAny_bind (wpAny_newList ?_ (Nat.zero_le _));refine wpAny_holding ?_;show wpAny (model prog w) A _ P E { s with heap:=((s.heap.update a (Obj.mapSeq fun _=>(#[]:Array Value))).push (seqObj "tuple" vs.toArray 0)).push (seqObj "list" #[] 0) }
 dsimp only
 by_cases h2:vs.length < 2
 ·rw[if_pos (by rw[List.size_toArray];exact h2),if_pos (by rw[List.size_toArray];exact h2)]
  refine wpAny_bind (wpAny_pure ?_);rw[StateT.run_pure];refine wpAny_bind (wpAny_pure ?_);dsimp only;refine wpAny_bind (seqEpoch_at ho6 rfl ?_);have e0:(vs.toArray.zip vs.toArray).map (·.2)=ajs vs (List.toArray (List.range vs.length)):=by
   unfold ajs;rw[show(List.toArray (List.range vs.length)).toList=List.range vs.length from rfl,apb]
   apply Array.toList_inj.mp;simp[List.map_snd_zip]
  have hz:((vs.toArray.zip vs.toArray).map (·.2)).size<=sizeLine:=by
   rw[Array.size_map,Array.size_zip,List.size_toArray,sizeLine_eq];omega
  refine wpAny_bind (listUpdate_at ho6 rfl ?_ (Nat.zero_le _) (Nat.le_succ_of_le hz));simp only[bne_self_eq_false,Bool.false_eq_true,if_false];have z:=h (List.toArray (List.range vs.length)) ⟨List.Perm.refl _⟩ (fun i j hij hj=>by omega)
  rw[<-e0] at z;exact wpAny_pure z
 ·have hn2:¬vs.toArray.size < 2:=by rw[List.size_toArray];exact h2
  rw[if_neg hn2,if_neg hn2];obtain⟨k1,k2⟩:=hk (by omega) _ kp
  refine wpAny_bind (wpAny_mono (k1 _ ?_) (fun κ' s' q=>q) fun _ _ x=>x.elim)
  refine wpAny_bind (wpAny_mono (kat_run (Q:=fun st' s'=>s'={ s with heap:=((s.heap.update a (Obj.mapSeq fun _=>(#[]:Array Value))).push (seqObj "tuple" vs.toArray 0)).push (seqObj "list" #[] 0) }/\∃p:Array Nat,Pm vs.length p/\Srt c p vs.length/\arrOf st'=p.map (kas_item (vs.toArray.zip vs.toArray))/\failedOf st'=none)
   (G:=fun p s'=>s'={ s with heap:=((s.heap.update a (Obj.mapSeq fun _=>(#[]:Array Value))).push (seqObj "tuple" vs.toArray 0)).push (seqObj "list" #[] 0) }/\Pm vs.length p/\Srt c p vs.length)
   rfl (by omega) h64 (fun p st' s' a1 a2 a3 a4=>⟨a4.1,p,a4.2.1,a4.2.2,a2,a3⟩) (avq k2 O (by omega) fun p hp hs=>⟨rfl,hp,hs⟩)) ?_ fun _ _ e=>e)
  intro r s' hr;obtain⟨u,st'⟩:=r;obtain⟨e,p,hp,hs,har,hf⟩:=hr;subst e;dsimp only at har hf ⊢
  have hout:(arrOf st').map (·.2)=ajs vs p:=kat_snds rfl har;rw[hout];have hz:(ajs vs p).size<=sizeLine:=by
   unfold ajs;rw[List.size_toArray,List.length_map,Array.length_toList,hp.size,sizeLine_eq];omega
  refine wpAny_bind (seqEpoch_at ho6 rfl ?_);refine wpAny_bind (listUpdate_at ho6 rfl ?_ (Nat.zero_le _) (Nat.le_succ_of_le hz));rw[hf];simp only[bne_self_eq_false,Bool.false_eq_true,if_false];exact wpAny_pure (h p hp hs)
theorem aji{l:Addr}{vs:List Value}{Q:Value->Shared->Prop}{κ:SortKind}{c:Nat->Nat->Bool}(hl:s.heap.IsList l vs.toArray)(h64:vs.length < 64)(O:Od vs.length c)
  (hk:2<=vs.length->∀h':Heap,(∀b o,s.heap.get? b=some o->h'.get? b=some o)->(∀Q:SortKind->Shared->Prop,Q κ { s with heap:=h' }->wpAny (model prog w) A.in1.in1 (keyKind' vs.toArray) Q (fun _ _=>False) { s with heap:=h' })/\Asks vs.length c (kas_ask prog w A.in1.in1 κ vs) { s with heap:=h' })
  (h:∀p,Pm vs.length p->Srt c p vs.length->Q (.ref (s.heap.objs.size+1)) { s with heap:=sortedAll s.heap vs (ajs vs p) }) :
  wpAny (model prog w) A (call (.builtin "sorted") [.ref l]) Q E s:=by
 refine Calls.call_function_entry kind_sorted plain_sorted entry_sorted (args_sorted1 _) ?_;unfold Builtin.«sorted»
 refine wpAny_bind (m:=checkCount "sorted" 1 1 _) (wpAny_pure ?_);refine wpAny_bind (collect_list hl ?_ (by rw[sizeLine_eq];omega))
 refine wpAny_bind (wpAny_newList ?_ (by rw[sizeLine_eq];omega))
 have hsz:((s.heap.push (seqObj "list" #[] 0)).update s.heap.objs.size (Obj.mapSeq (· ++ vs.toArray))).objs.size=s.heap.objs.size+1:=by
  rw[Heap.size_update,size_push']
 have hoL:(((s.heap.push (seqObj "list" #[] 0)).update s.heap.objs.size (Obj.mapSeq (· ++ vs.toArray))).push (seqObj "list" vs.toArray 0)).get? (s.heap.objs.size+1)=some (seqObj "list" vs.toArray 0):=by
  rw[<-hsz];exact Heap.get?_push_size _ rfl
 have keep:∀b o,s.heap.get? b=some o->(((s.heap.push (seqObj "list" #[] 0)).update s.heap.objs.size (Obj.mapSeq (· ++ vs.toArray))).push (seqObj "list" vs.toArray 0)).get? b=some o:=fun b o q=>by
  have hlt:b < s.heap.objs.size:=Heap.lt_size q;rw[Heap.get?_push_ne _ _ _ (by rw[hsz];exact Nat.ne_of_lt (Nat.lt_succ_of_lt hlt)),Heap.get?_update_ne _ _ _ _ (Nat.ne_of_lt hlt),Heap.get?_push_ne _ _ _ (Nat.ne_of_lt hlt)]
  exact q
 show wpAny _ _ _ _ _ { s with heap:=((s.heap.push (seqObj "list" #[] 0)).update s.heap.objs.size (Obj.mapSeq (· ++ vs.toArray))).push (seqObj "list" vs.toArray 0) }
 rw[hsz];refine wpAny_bind (wpAny_holding (wpAny_call_entry slot_list_sort ⟨_,hoL,rfl⟩ entry_list_sort (an7 (κ:=κ) hoL h64 O (fun h2 h' k'=>hk h2 h' fun b o e=>k' b o (fun q=>absurd (Heap.lt_size e) (by rw[q];exact Nat.not_lt.mpr (Nat.le_succ _))) (keep b o e)) fun p hp hs=>⟨_,rfl,?_⟩) (args_list_sort _)))
 exact wpAny_pure ⟨_,rfl,h p hp hs⟩
def lexB:List Int->List Int->Bool
 | [],[]=>false
 | [],_::_=>true
 | _::_,[]=>false
 | a::x,b::y=>if a=b then lexB x y else decide (a < b)
theorem alx:∀x y z:List Int,lexB x y=true->lexB y z=true->lexB x z=true
 | [],[],_,h,_=>by simp[lexB] at h
 | [],_::_,[],_,h=>by simp[lexB] at h
 | [],_::_,_::_,_,_=>by simp[lexB]
 | _::_,[],_,h,_=>by simp[lexB] at h
 | _::_,_::_,[],_,h=>by simp[lexB] at h
 | a::x,b::y,c::z,h,k=>by
  unfold lexB at h k ⊢
  by_cases e1:a=b
  ·subst e1;rw[if_pos rfl] at h
   by_cases e2:a=c
   ·rw[if_pos e2] at k ⊢
    exact alx x y z h k
   ·rw[if_neg e2] at k ⊢
    exact k
  ·rw[if_neg e1,decide_eq_true_eq] at h
   by_cases e2:b=c
   ·subst e2;rw[if_neg e1,decide_eq_true_eq];exact h
   ·rw[if_neg e2,decide_eq_true_eq] at k;rw[if_neg (by omega),decide_eq_true_eq]
    omega
theorem aly:∀x y:List Int,x≠y->lexB x y=false->lexB y x=true
 | [],[],h,_=>absurd rfl h
 | [],_::_,_,h=>by simp[lexB] at h
 | _::_,[],_,_=>by simp[lexB]
 | a::x,b::y,h,k=>by
  unfold lexB at k ⊢
  by_cases e:a=b
  ·subst e;rw[if_pos rfl] at k ⊢
   exact aly x y (fun q=>h (by rw[q])) k
  ·rw[if_neg e,decide_eq_false_iff_not] at k;rw[if_neg (fun q=>e q.symm),decide_eq_true_eq]
   omega
theorem apz:∀x y:List Int,lexB x y=true->lexB y x=false
 | [],[],h=>by simp[lexB] at h
 | [],_::_,_=>by simp[lexB]
 | _::_,[],h=>by simp[lexB] at h
 | a::x,b::y,h=>by
  unfold lexB at h ⊢
  by_cases e:a=b
  ·subst e;rw[if_pos rfl] at h ⊢
   exact apz x y h
  ·rw[if_neg e,decide_eq_true_eq] at h;rw[if_neg (fun q=>e q.symm),decide_eq_false_iff_not]
   omega
theorem aur{b:Bool}{Q:Bool->Shared->Prop}:∀{xs ys:List Value} {as bs:List Int} (i:Nat),IntsAre xs as->IntsAre ys bs->Q (lexB as bs) s->KatLex prog w A b (decide (as.length < bs.length)) Q (xs.zip ys) i s
 | [],[],_,_,i,.nil,.nil,h=>kat_nil h
 | [],_::_,_,_,i,.nil,.cons n t r,h=>kat_nil (by simpa[lexB] using h)
 | _::_,[],_,_,i,.cons n t r,.nil,h=>kat_nil (by simpa[lexB] using h)
 | _::_,_::_,_,_,i,.cons n t r,.cons m u r',h=>by
  rw[List.zip_cons_cons];refine kat_cons (wpAny_eqBool_int ?_);unfold lexB at h
  by_cases e:n=m
  ·rw[if_pos e] at h;rw[show(n==m)=true by simpa using e]
   refine kat_yes ?_;have:=aur (b:=b) (i+1) r r' h
   simpa using this
  ·rw[if_neg e] at h;rw[show(n==m)=false by simpa using e]
   refine kat_no ?_;cases b&&i==0 with
   | true=>exact oneLt_int h
   | false=>exact kat_one _ _ (lt_int h)
end
end Kst
namespace Dn
open PySem PySem.Spec PySem.W PyProof.Rows L2 Mn Kst
def rowT(r:List Int):D:=.tup (r.map D.int)
def ah8:List D->Option (LL9)
 | []=>some []
 | .tup l::r=>(sr l).bind fun a=>(ah8 r).map (a :: ·)
 | _::_=>none
theorem ajo:∀rows:LL9,ah8 (rows.map rowT)=some rows
 | []=>rfl
 | r::rows=>by
  show(sr (r.map D.int)).bind _=_;rw[aba,Option.bind_some,ajo rows];rfl
theorem amo:∀{l:List D} {rows:LL9},ah8 l=some rows->l=rows.map rowT
 | [],_,h=>by cases h;rfl
 | .tup t::l,rows,h=>by
  have h:(sr t).bind (fun a=>(ah8 l).map (a :: ·))=some rows:=h
  cases e:sr t with
  | none=>rw[e] at h;cases h
  | some a =>
   rw[e,Option.bind_some] at h;cases e2:ah8 l with
   | none=>rw[e2] at h;cases h
   | some rs =>
    rw[e2] at h;cases h;rw[List.map_cons,<-amo e2,rowT,<-aby e]
def insL(x:List Int):LL9->LL9
 | []=>[x]
 | y::r=>if lexB x y then x::y::r else y::insL x r
def afp:LL9->LL9
 | []=>[]
 | x::r=>insL x (afp r)
theorem agb(x:List Int):∀l,(insL x l).Perm (x::l)
 | []=>.refl _
 | y::r=>by
  unfold insL;split
  ·exact .refl _
  ·exact((agb x r).cons y).trans (.swap x y r)
theorem abv:∀l,(afp l).Perm l
 | []=>.refl _
 | x::r=>(agb x (afp r)).trans ((abv r).cons x)
abbrev LxS(l:LL9):Prop:=l.Pairwise fun a b=>lexB a b=true
theorem aga(x:List Int):∀{l},x∉l->LxS l->LxS (insL x l)
 | [],_,_=>by simp[insL,LxS]
 | y::r,hx,h=>by
  unfold insL;have h:=List.pairwise_cons.mp h;split
  ·rename_i hxy;refine List.pairwise_cons.mpr ⟨fun z hz =>?_,List.pairwise_cons.mpr h⟩
   rcases List.mem_cons.mp hz with rfl | hz
   ·exact hxy
   ·exact alx _ _ _ hxy (h.1 z hz)
  ·rename_i hxy;refine List.pairwise_cons.mpr ⟨fun z hz =>?_,aga x (fun q=>hx (List.mem_cons_of_mem _ q)) h.2⟩
   rcases List.mem_cons.mp ((agb x r).mem_iff.mp hz) with rfl | hz
   ·exact aly _ _ (fun q=>hx (by rw[q];exact List.mem_cons_self ..)) (by simpa using hxy)
   ·exact h.1 z hz
theorem aes:∀{l:LL9},l.Nodup->LxS (afp l)
 | [],_=>.nil
 | x::r,h=>by
  have h:=List.nodup_cons.mp h;exact aga x (fun q=>h.1 ((abv r).mem_iff.mp q)) (aes h.2)
theorem apx:∀{l k:LL9},l.Perm k->LxS l->LxS k->l=k
 | [],k,h,_,_=>h.nil_eq
 | x::r,[],h,_,_=>absurd h.length_eq (by simp)
 | x::r,y::t,h,hl,hk=>by
  have hl:=List.pairwise_cons.mp hl;have hk:=List.pairwise_cons.mp hk;have e:x=y:=by
   have h1:x∈y::t:=h.mem_iff.mp (List.mem_cons_self ..);have h2:y∈x::r:=h.mem_iff.mpr (List.mem_cons_self ..);rcases List.mem_cons.mp h1 with h1 | h1
   ·exact h1
   ·rcases List.mem_cons.mp h2 with h2 | h2
    ·exact h2.symm
    ·have a:=hk.1 x h1;have b:=hl.1 y h2;rw[apz _ _ a] at b;cases b
  subst e;rw[apx ((List.perm_cons x).mp h) hl.2 hk.2]
inductive TupsAre (h:Heap):List Value->LL9->Prop
 | nil:TupsAre h [] []
 | cons {a:Addr} {o:Obj} {xs:List Value} {n:Nat} {r:List Int} {us:List Value} {rs:LL9} (e:h.get? a=some o) (c:o.cls=.type "tuple") (d:o.data=.seq xs.toArray n) (i:IntsAre xs r) (t:TupsAre h us rs):TupsAre h (.ref a::us) (r::rs)
theorem TupsAre.len{h:Heap}:∀{us:List Value} {rs:LL9},TupsAre h us rs->us.length=rs.length
 | _,_,.nil=>rfl
 | _,_,.cons _ _ _ _ t=>by rw[List.length_cons,List.length_cons,t.len]
theorem TupsAre.mono{h h':Heap}(k:∀b o,h.get? b=some o->h'.get? b=some o):∀{us:List Value} {rs:LL9},TupsAre h us rs->TupsAre h' us rs
 | _,_,.nil=>.nil
 | _,_,.cons e c d i t=>.cons (k _ _ e) c d i (t.mono k)
theorem TupsAre.at{h:Heap}:∀{us:List Value} {rs:LL9},TupsAre h us rs->∀i,i < rs.length->∃a o xs n,us.getD i Value.none=.ref a/\h.get? a=some o/\o.data=.seq (List.toArray xs) n/\IntsAre xs (rs.getD i [])
 | _,_,.cons e c d i t,0,_=>⟨_,_,_,_,rfl,e,d,i⟩
 | _,_,.cons e c d i t,k+1,hk=>by
  obtain⟨a,o,xs,n,e1,e2,e3,e4⟩:=t.at k (by simpa using hk)
  exact⟨a,o,xs,n,by simpa using e1,e2,e3,by simpa using e4⟩
theorem TupsAre.kat{h:Heap}:∀{us:List Value} {rs:LL9},TupsAre h us rs->(∀r∈rs,r≠[])->∃fs:List Value,KatTups h us fs/\fs.length=rs.length/\∀f∈fs,∃i t,f=Value.int i t
 | _,_,.nil,_=>⟨[],.nil,rfl,fun _ h=>by cases h⟩
 | _,_,.cons (r:=r) e c d i t,hn=>by
  obtain⟨fs,k,l,z⟩:=t.kat fun r hr=>hn r (List.mem_cons_of_mem _ hr)
  cases i with
  | nil=>exact absurd rfl (hn _ (List.mem_cons_self ..))
  | cons m u q =>
   refine⟨.int m u::fs,KatTups.cons e c d (by simp) k,by simp[l],fun f hf =>?_⟩
   rcases List.mem_cons.mp hf with rfl | hf
   ·exact⟨m,u,rfl⟩
   ·exact z f hf
section
variable{K:Fg9}{X:Cx}
theorem ag6{qv:List (Addr×Obj)}{σ:L2.St}{F H:Hp}{s:Shared}(I:Inv X qv σ H s)(g:Same F H):∀{rs:LL9} {vs:List V} {us:List Value},IsL X.K F (rs.map rowT) vs->Vals vs us->TupsAre s.heap us rs
 | [],_,_,h,r=>by cases h;cases r;exact .nil
 | a::rs,_,_,.cons h t,r=>by
  cases r with
  | cons r1 r2 =>
   have z:=ag6 I g t r2;have h:Is X.K F (.tup (a.map D.int)) _:=h;cases h with
   | tup e hl =>
    rw[hl.int_inv] at e;cases r1;obtain⟨its,rv,⟨o,e1,e2,n,e3⟩,_⟩:=I.tuple (SqT.of (g _ _ e));exact .cons e1 e2 e3 (intsAre_of rv) z
def aqd:D->Option Rv
 | .lst l=>(ah8 l).bind fun rows=>if (decide (rows.length < 64)&&rows.all (fun r => !r.isEmpty)&&decide rows.Nodup)=true then some (.fr ((afp rows).map rowT)) else none
 | _=>none
theorem al6{rows:LL9}(h:rows.length < 64)(hn:∀r∈rows,r≠[])(nd:rows.Nodup):aqd (.lst (rows.map rowT))=some (.fr ((afp rows).map rowT)):=by
 show(ah8 (rows.map rowT)).bind _=_;rw[ajo,Option.bind_some,if_pos];simp only[Bool.and_eq_true,decide_eq_true_eq,List.all_eq_true];exact⟨⟨h,fun r hr=>by cases r with
  | nil=>exact absurd rfl (hn _ hr)
  | cons=>rfl⟩,nd⟩
theorem aid{α:Type}(d:α){l:List α}{p:Array Nat}(hp:Pm l.length p):(p.toList.map fun i=>l.getD i d).Perm l:=by
 refine(hp.pm.map _).trans ?_;have e:((List.range l.length).map fun i=>l.getD i d)=l:=by
  apply List.ext_getElem?;intro i;rw[List.getElem?_map]
  by_cases h:i < l.length
  ·rw[List.getElem?_range h];simp[h]
  ·rw[List.getElem?_eq_none (by simpa using h),List.getElem?_eq_none (by omega)]
   rfl
 rw[e]
theorem avp{rows:LL9}{p:Array Nat}(hp:Pm rows.length p)(hs:Srt (fun i j=>lexB (rows.getD i []) (rows.getD j [])) p rows.length):LxS (p.toList.map fun i=>rows.getD i []):=by
 rw[LxS,List.pairwise_map,List.pairwise_iff_getElem];intro i j hi hj hij;have h:=hs i j hij (by rw[<-hp.size];simpa using hj)
 have e1:=hp.get (k:=i) (by rw[<-hp.size];simpa using hi)
 have e2:=hp.get (k:=j) (by rw[<-hp.size];simpa using hj)
 have f1:p.toList[i]=p.getD i 0:=by
  have hi':i < p.size:=by simpa using hi
  simp[Array.getD,hi']
 have f2:p.toList[j]=p.getD j 0:=by
  have hj':j < p.size:=by simpa using hj
  simp[Array.getD,hj']
 rw[f1,f2];exact h
theorem anb{F:Hp}{rows:LL9}{vs:List V}(h:IsL K F (rows.map rowT) vs):∀{p:List Nat},(∀i∈p,i < rows.length)->IsL K F ((p.map fun i=>rows.getD i []).map rowT) (p.map fun i=>vs.getD i .non)
 | [],_=>.nil
 | i::p,hp=>by
  have hi:=hp i (List.mem_cons_self ..);obtain⟨v,e,hv⟩:=h.get (i:=i) (d:=rowT (rows.getD i [])) (by simp[hi])
  have e':vs.getD i .non=v:=by simp[e]
  refine .cons ?_ (anb h fun j hj=>hp j (List.mem_cons_of_mem _ hj))
  dsimp only;rw[e'];exact hv
theorem ajd{vs:List V}{us:List Value}(h:Vals vs us):∀{p:List Nat},(∀i∈p,i < vs.length)->Vals (p.map fun i=>vs.getD i .non) (p.map fun i=>us.getD i Value.none)
 | [],_=>.nil
 | i::p,hp=>by
  have hi:=hp i (List.mem_cons_self ..);refine .cons ?_ (ajd h fun j hj=>hp j (List.mem_cons_of_mem _ hj))
  have:∀{vs:List V} {us:List Value} {i:Nat},Vals vs us->i < vs.length->RelV (vs.getD i .non) (us.getD i Value.none):=by
   intro vs us i h
   induction h generalizing i with
   | nil=>intro h;simp at h
   | cons a b ih =>
    intro hi;cases i with
    | zero=>exact a
    | succ i=>simpa using ih (by simpa using hi)
  exact this h hi
theorem aty:CallD K X (.builtin "sorted") (g1 aqd):=abo fun hk qv s σ0 H x u Q tg F ρ σ d r I ru G bd eg q=>by
 subst hk;cases d with
 | lst l =>
  have eg:(ah8 l).bind (fun rows=>if (decide (rows.length < 64)&&rows.all (fun r => !r.isEmpty)&&decide rows.Nodup)=true then some (Rv.fr ((afp rows).map rowT)) else none)=some r:=eg
  cases e:ah8 l with
  | none=>rw[e] at eg;cases eg
  | some rows =>
   rw[e,Option.bind_some] at eg;split at eg
   ·rename_i hc;simp only[Bool.and_eq_true,decide_eq_true_eq,List.all_eq_true] at hc;obtain⟨⟨h64,hne⟩,nd⟩:=hc;have hne:∀r∈rows,r≠[]:=fun r hr q=>by have:=hne r hr;rw[q] at this;cases this
    cases eg;obtain⟨a,vs,rfl,ea,hl⟩:=bd.lst G.sub;rw[amo e] at hl;cases ru;obtain⟨its,rv,pl,_⟩:=I.list (SqL.of ea);have hlen:vs.length=its.length:=rv.length;have T:=ag6 I G.sub hl rv;have tl:=T.len;have O:Od its.length fun i j=>lexB (rows.getD i []) (rows.getD j []):=⟨fun i j k=>alx _ _ _,fun i j hi hj hij=>aly _ _ fun q=>hij (by
     have hi':i < rows.length:=by omega
     have hj':j < rows.length:=by omega
     exact(List.getElem?_inj hi' nd).mp (by
      have e1:rows[i]? = some (rows.getD i []):=by simp[hi']
      have e2:rows[j]? = some (rows.getD j []):=by simp[hj']
      rw[e1,e2,q]))⟩
    refine aji (κ:=tuples' (Value.type "int" != Value.type "tuple")) pl.isList (by omega) O (fun h2 h' k'=>⟨fun Q q =>?_,fun i j hi hj C hC =>?_⟩) fun p hp hs =>?_
    ·obtain⟨fs,kt,fl,fz⟩:=(T.mono k').kat hne;refine kat_kind kt (by omega) (fun v hv =>?_) (by decide) q
     obtain⟨i,t,rfl⟩:=fz v hv;exact Looks.of_pure rfl
    ·obtain⟨a1,o1,xs1,n1,f1,g1,d1,i1⟩:=(T.mono k').at i (by omega)
     obtain⟨a2,o2,xs2,n2,f2,g2,d2,i2⟩:=(T.mono k').at j (by omega)
     unfold kas_ask;rw[f1,f2];refine kat_lt g1 d1 g2 d2 ?_;have l1:xs1.toArray.size=(rows.getD i []).length:=i1.length;have l2:xs2.toArray.size=(rows.getD j []).length:=i2.length;rw[l1,l2];exact aur 0 i1 i2 hC
    ·have hp':Pm rows.length p:=tl▸hp;have hs':Srt (fun i j=>lexB (rows.getD i []) (rows.getD j [])) p rows.length:=tl▸hs
     have e':(p.toList.map fun i=>rows.getD i [])=afp rows:=apx ((aid [] hp').trans (abv rows).symm) (avp hp' hs') (aes nd)
     have hm:∀i∈p.toList,i < rows.length:=fun i hi=>by simpa using hp'.pm.mem_iff.mp hi
     obtain⟨ep,eo⟩:=PyProof.Rows.sortedAll_at s.heap its (ajs its p);have hn:H (s.heap.objs.size+1)=none:=I.hok.fresh (Nat.le_succ _);have il:=anb hl hm;rw[e'] at il;refine⟨.ref (s.heap.objs.size+1),upd H (s.heap.objs.size+1) (.lst (p.toList.map fun i=>vs.getD i .non)),?_,rfl,Res.lst G q il hn⟩
     refine I.laid (t':=s.toks) (fun b u e=>PyProof.Rows.sortedAll_old e) (Nat.le_succ _) ?_
     refine⟨?_,(p.toList.map fun i=>its.getD i Value.none),ep,ajd rv fun i hi=>by have:=hm i hi;omega,eo⟩
     rw[List.length_map,Array.length_toList,hp'.size];exact Nat.le_of_lt (afq (by omega))
   ·cases eg
 | _=>cases eg
def adz(d:D):Option Rv:=match abz d with
 | some r=>some r
 | none=>aqd d
theorem aoq:CallD K X (.builtin "sorted") (g1 adz):=abo fun hk qv s σ0 H x u Q tg F ρ σ d r I ru G bd eg q=>by
 unfold adz at eg;cases e:abz d with
 | some r' =>
  rw[e] at eg;cases eg;exact aht.go hk qv s σ0 H [x] [u] Q I (.cons ru .nil) ⟨tg,F,ρ,σ,[d],_,G,.cons bd .nil,e,q⟩
 | none =>
  rw[e] at eg;exact aty.go hk qv s σ0 H [x] [u] Q I (.cons ru .nil) ⟨tg,F,ρ,σ,[d],_,G,.cons bd .nil,eg,q⟩
theorem ai2{rows:LL9}(h:rows.length < 64)(hn:∀r∈rows,r≠[])(nd:rows.Nodup):adz (.lst (rows.map rowT))=some (.fr ((afp rows).map rowT)):=by
 cases rows with
 | nil=>rfl
 | cons r rows =>
  unfold adz;rw[show abz (.lst ((r::rows).map rowT))=none from rfl]
  exact al6 h hn nd
end
end Dn
namespace PySem
abbrev StK:=List Int×Int
section
variable{prog:Program}{w:World}
def IsSt(prog:Program)(w:World)(h:Heap)(k:StK)(a:Addr):Prop:=∃o b t n,h.get? a=some o/\o.cls=.type "tuple" /\ o.data=.seq #[.ref b,.int k.2 t] n/\IsTupleKey (intKind prog w) h k.1 b
theorem IsSt.typeIs{s:Shared}{k:StK}{a:Addr}(x:IsSt prog w s.heap k a):s.TypeIs (.ref a) "tuple" := by
 obtain⟨o,b,t,n,ho,hc,_⟩:=x;exact⟨o,ho,hc⟩
theorem IsSt.inj{h:Heap}{a:Addr}{x y:StK}(hx:IsSt prog w h x a)(hy:IsSt prog w h y a):x=y:=by
 obtain⟨o,b,t,n,ho,hc,hd,hi⟩:=hx;obtain⟨o',b',t',n',ho',hc',hd',hi'⟩:=hy;rw[ho] at ho';cases ho';rw[hd] at hd'
 injection hd' with h1 _
 have h1:=congrArg Array.toList h1;simp only[List.cons.injEq,Value.ref.injEq,Value.int.injEq,and_true] at h1;obtain⟨rfl,h2,_⟩:=h1;exact Prod.ext (hi.inj hi') h2
theorem IsSt.keeps{h h':Heap}{k:StK}{a d:Addr}{o:Obj}{es ep}(x:IsSt prog w h k a)(ho:h.get? d=some o)(hd:o.data=.dict es ep)(hs:Heap.SameBut d h h'):IsSt prog w h' k a:=by
 obtain⟨o',b,t,n,ho',hc,hd',hi⟩:=x;have hne:a≠d:=by
  intro z;subst z;rw[ho] at ho';cases ho';rw[hd] at hd';cases hd'
 exact⟨o',b,t,n,(hs.2 a hne).trans ho',hc,hd',hi.keeps ho hd hs⟩
def aqb(prog:Program)(w:World)(k:StK):Int:=reduceHash (Builtin.Tuple.tupleHashOf [tupleKeyHash (intKind prog w) k.1,hashInt k.2])
variable{A:Around}{E:Value->Shared->Prop}{s:Shared}
theorem afk{k:StK}{a:Addr}{Q:Int->Shared->Prop}(hu:A.units+8 < cLine)(hk:IsSt prog w s.heap k a)(h:Q (aqb prog w k) { s with toks:=s.toks+(k.1.length+3) }) :
  wpAny (model prog w) A (pyHash (.ref a)) Q E s:=by
 have hT:=hk.typeIs;obtain⟨o,b,t,n,ho,_,hd,hi⟩:=hk;unfold pyHash
 first | unfold pyHashByItsType | skip
 first | refine wpAny_bind (wpAny_cRoomFor_or (.inr (by omega)) ?_) | skip
 refine wpAny_bind (wpAny_specialOf hT F.slot_tuple_hash.lookup ?_);show wpAny _ _ (if (some (Value.builtin "tuple.__hash__")==some Value.none)=true then _ else _) Q E s
 rw[if_neg (by rw[beq_builtin_none];exact Bool.false_ne_true)]
 refine wpAny_bind (wpAny_specialOf hT F.slot_tuple_hash.lookup ?_);show wpAny _ _ (callSpecialIfBoundUnlessNone? (.ref a) "__hash__" _ >>= _) Q E s;refine wpAny_bind (wpAny_callSpecialIfBoundUnlessNone?_slot hT F.slot_tuple_hash (wpAny_call_entry F.slot_tuple_hash hT F.entry_tuple_hash ?_ (F.args_tuple_hash_1 _)));show wpAny _ _ (Builtin.Tuple.tupleItemsOf (.ref a) >>= _) _ _ s;refine wpAny_bind (wpAny_tupleItemsOf ho hd ?_);refine wpAny_bind ?_;rw[<-Array.forIn_toList];refine wpAny_forIn_list _
  (fun rest (c:Array Int) s'=>(rest=[.ref b,.int k.2 t]/\c.toList=[]/\s'=s)∨(rest=[.int k.2 t]/\c.toList=[tupleKeyHash (intKind prog w) k.1]/\s'={ s with toks:=s.toks+(k.1.length+1) })
   ∨ (rest=[]/\c.toList=[tupleKeyHash (intKind prog w) k.1,hashInt k.2]/\s'={ s with toks:=s.toks+(k.1.length+1)+1 }))
  _ ?_ ?_ _ _ (.inl ⟨rfl,rfl,rfl⟩)
 ·rintro x rest c s' (⟨e,hc,rfl⟩ | ⟨e,hc,rfl⟩ | ⟨e,_⟩)
  ·injection e with e1 e2
   subst e1;subst e2;have z:wpAny (model prog w) A.in1 (pyHash (.ref b)) (fun v s''=>v=tupleKeyHash (intKind prog w) k.1/\s''={ s' with toks:=s'.toks+(k.1.length+1) }) (fun _ _=>False) s' :=
    wpAny_pyHash_tuple (by show A.units+1 < _;omega) hi ⟨rfl,rfl⟩
   refine wpAny_bind (wpAny_mono z (fun v s'' hv =>?_) fun _ _ q=>q.elim)
   obtain⟨rfl,rfl⟩:=hv
   first
    | exact wpAny_pure (.inr (.inl ⟨rfl,by simp[hc],rfl⟩))
    | exact wpAny_bind (wpAny_pure (wpAny_pure (.inr (.inl ⟨rfl,by simp[hc],rfl⟩))))
  ·injection e with e1 e2
   subst e1;subst e2;refine wpAny_bind (wpAny_pyHash_int ?_)
   first
    | exact wpAny_pure (.inr (.inr ⟨rfl,by simp[hc],rfl⟩))
    | exact wpAny_bind (wpAny_pure (wpAny_pure (.inr (.inr ⟨rfl,by simp[hc],rfl⟩))))
  ·cases e
 ·rintro c s' (⟨e,_⟩ | ⟨e,_⟩ | ⟨_,hc,rfl⟩)
  ·cases e
  ·cases e
  ·show wpAny _ _ (retInt (Builtin.Tuple.tupleHashOf c.toList)) _ _ _;rw[hc];refine wpAny_ret_mkInt ?_;show wpAny _ _ (if (decide (-(2:Int) ^ 63<=Builtin.Tuple.tupleHashOf [tupleKeyHash (intKind prog w) k.1,hashInt k.2])&&decide (Builtin.Tuple.tupleHashOf [tupleKeyHash (intKind prog w) k.1,hashInt k.2] < 2 ^ 63))=true then _ else _) Q E _
   unfold aqb reduceHash at h
   by_cases hr:(decide (-(2:Int) ^ 63<=Builtin.Tuple.tupleHashOf [tupleKeyHash (intKind prog w) k.1,hashInt k.2])&&decide (Builtin.Tuple.tupleHashOf [tupleKeyHash (intKind prog w) k.1,hashInt k.2] < 2 ^ 63))=true
   ·rw[if_pos hr];rw[if_pos hr] at h;exact wpAny_pure (by simpa[Nat.add_assoc] using h)
   ·rw[if_neg hr];rw[if_neg hr] at h;exact wpAny_bind (wpAny_rule (wpAny_pure (by simpa[Nat.add_assoc] using h)))
theorem afy{h:Heap}:∀{ks:List Int} {vs:List Value},ItemsAre (intKind prog w) ks vs->ReadsAll h vs (ks.map PyData.int) []
 | _,_,.nil=>.nil
 | _,_,.cons e r=>by
  obtain⟨t,rfl⟩:=Value.isInt_shape e;exact .cons (as:=[]) (bs:=[]) (.int _ _) (afy r)
theorem IsSt.reads{h:Heap}{k:StK}{a:Addr}(x:IsSt prog w h k a):Reads h (.ref a) (.tuple [.tuple (k.1.map PyData.int),.int k.2]) []:=by
 obtain⟨o,b,t,n,ho,hc,hd,ob,its,m,ho2,hc2,hd2,hi⟩:=x;exact .tuple ho hc hd (.cons (as:=[]) (bs:=[]) (.tuple ho2 hc2 hd2 (afy hi)) (.cons (as:=[]) (bs:=[]) (.int _ _) .nil))
theorem ak9{k:StK}{a:Addr}{Q:Bool->Shared->Prop}(hk:IsSt prog w s.heap k a)(h:Q true s):wpAny (model prog w) A (eqIsQuiet 8 (.ref a)) Q E s:=by
 have hT:=hk.typeIs;obtain⟨o,b,t,n,ho,_,hd,hb⟩:=hk;have hT2:=hb.typeIs (s:=s);obtain⟨ob,its,m,ho2,hc2,hd2,hi⟩:=hb;unfold eqIsQuiet;refine wpAny_bind (wpAny_specialOf hT F.slot_tuple_eq.lookup ?_);show wpAny _ _ (isInstance (.ref a) (.type "tuple") >>= _) _ _ s;refine wpAny_bind (wpAny_isInstance hT isSubtype_tuple_tuple ?_);simp only[Bool.not_true,Bool.false_eq_true,if_false];refine wpAny_bind (wpAny_seqItems ho hd ?_);refine wpAny_bind ?_;show wpAny _ _ (forIn _ _ _) _ _ s;rw[<-Array.forIn_toList];refine wpAny_forIn_list _ (fun rest r s'=>r.1=none/\s'=s/\∀v∈rest,v=.ref b∨carriedByValue v=true) _ ?_ ?_ _ _ ⟨rfl,rfl,fun v hv=>by
  rcases List.mem_cons.mp hv with rfl | hv
  ·exact .inl rfl
  ·rcases List.mem_cons.mp hv with rfl | hv
   ·exact .inr rfl
   ·cases hv⟩
 ·rintro v rest r s' ⟨hr,rfl,hall⟩
  rcases hall v List.mem_cons_self with rfl | hv
  ·refine wpAny_bind ?_;unfold eqIsQuiet;refine wpAny_bind (wpAny_specialOf hT2 F.slot_tuple_eq.lookup ?_);show wpAny _ _ (isInstance (.ref b) (.type "tuple") >>= _) _ _ s';refine wpAny_bind (wpAny_isInstance hT2 isSubtype_tuple_tuple ?_);simp only[Bool.not_true,Bool.false_eq_true,if_false];refine wpAny_bind (wpAny_seqItems ho2 hd2 ?_);refine wpAny_bind ?_;show wpAny _ _ (forIn its _ _) _ _ s';rw[<-Array.forIn_toList];refine wpAny_forIn_list _ (fun rest r s2=>r.1=none/\s2=s'/\∀v∈rest,carriedByValue v=true) _ ?_ ?_ _ _ ⟨rfl,rfl,hi.byValue⟩
   ·rintro v rest r s2 ⟨hr,rfl,hall⟩
    rw[eqIsQuiet_byValue _ (hall v List.mem_cons_self)];refine wpAny_bind (wpAny_pure ?_);simp only[Bool.not_true,Bool.false_eq_true,if_false];exact wpAny_pure ⟨rfl,rfl,fun u hu'=>hall u (List.mem_cons_of_mem _ hu')⟩
   ·rintro⟨r1,r2⟩ s2 ⟨hr,rfl,_⟩
    simp only at hr;subst hr;refine wpAny_pure ?_;simp only[Bool.not_true,Bool.false_eq_true,if_false];exact wpAny_pure ⟨rfl,rfl,fun u hu'=>hall u (List.mem_cons_of_mem _ hu')⟩
  ·rw[eqIsQuiet_byValue _ hv];refine wpAny_bind (wpAny_pure ?_);simp only[Bool.not_true,Bool.false_eq_true,if_false];exact wpAny_pure ⟨rfl,rfl,fun u hu'=>hall u (List.mem_cons_of_mem _ hu')⟩
 ·rintro⟨r1,r2⟩ s' ⟨hr,rfl,_⟩
  simp only at hr;subst hr;exact wpAny_pure h
end
end PySem
namespace Dn
open L2 Mn
theorem abu:∀l:List Int,ab3 (l.map D.int)=l.map PyData.int
 | []=>rfl
 | i::l=>by show PyData.int i::ab3 (l.map D.int)=_;rw[abu l];rfl
theorem a0k(x y:StK):PyData.eqv (.tuple [.tuple (x.1.map PyData.int),.int x.2]) (.tuple [.tuple (y.1.map PyData.int),.int y.2])=decide (x=y):=by
 have h1:PyData.eqv (.tuple (x.1.map PyData.int)) (.tuple (y.1.map PyData.int))=decide (x.1=y.1):=by
  rw[<-abu,<-abu];exact agp x.1 y.1
 have h2:PyData.eqv (.int x.2) (.int y.2)=decide (x.2=y.2):=ai8 x.2 y.2;show(PyData.eqv (.tuple (x.1.map PyData.int)) (.tuple (y.1.map PyData.int))&&(PyData.eqv (.int x.2) (.int y.2)&&true))=_;rw[h1,h2,Bool.and_true];obtain⟨a,b⟩:=x;obtain⟨c,d⟩:=y
 by_cases e1:a=c
 ·by_cases e2:b=d
  ·simp[e1,e2]
  ·simp[e2]
 ·simp[e1]
theorem aut(x:StK):(PyData.tuple [.tuple (x.1.map PyData.int),.int x.2]).canLay0=true/\(PyData.tuple [.tuple (x.1.map PyData.int),.int x.2]).depth<=30:=by
 have h:=aaq 30 (.tup [.tup (x.1.map D.int),.int x.2]) (by
  show(okD 29 (.tup (x.1.map D.int))&&(okD 29 (.int x.2)&&true))=true;rw[Bool.and_true,Bool.and_eq_true];refine⟨?_,rfl⟩;show(x.1.map D.int).all (okD 28)=true;rw[List.all_map,List.all_eq_true];exact fun i _=>rfl)
 have e:toPy (.tup [.tup (x.1.map D.int),.int x.2])=.tuple [.tuple (x.1.map PyData.int),.int x.2]:=by
  show PyData.tuple [.tuple (ab3 (x.1.map D.int)),.int x.2]=_;rw[abu]
 rwa[e] at h
def ajh(prog:Program)(w:World):HeapKind prog w StK where
 is:=IsSt prog w
 hash:=aqb prog w
 draws:=fun k=>k.1.length+3
 room:=fun A=>A.units+40 < cLine
 inj:=fun hx hy=>hx.inj hy
 keeps:=fun x ho hd hs=>x.keeps ho hd hs
 pyHash:=fun hu hk h=>afk (by omega) hk h
 eqBool:=fun{A E s x y a b Q} hu hx hy h=>by
  have l1:=aut x;have l2:=aut y;have e:=PySem.SeqAt.eqAt_reads _ _ A s (.ref a) (.ref b) [] [] hx.reads hy.reads l1.1 l2.1 (by omega)
  rw[a0k] at e;exact e _ _ E Q h
 quiet:=fun hk h=>ak9 hk h
end Dn
namespace PySem
section
variable{prog:Program}{w:World}{K:Type}[DecidableEq K]{knd:HeapKind prog w K}{A:Around}{E:Value->Shared->Prop}{s:Shared}{d a:Addr}{k:K}{xs:List (K×Addr×Value)}
theorem aok{Q:Value->Shared->Prop}(hu:knd.room A.in1)(hkey:knd.is s.heap k a)(hd:(d==sysModules)=false)(hm:s.heap.DictOfH knd d xs)
  (h:Q (.bool (!(atKey xs k).isSome)) { s with toks:=s.toks+knd.draws k }):wpAny (model prog w) A (compareOp .NotIn (.ref a) (.ref d)) Q E s:=by
 show wpAny _ _ (do return .bool (!(<-contains (.ref d) (.ref a)))) Q E s
 refine wpAny_bind ?_;unfold contains
 try with_reducible refine wpAny_holding ?_
 refine wpAny_bind (wpAny_specialOf hm.typeIs slot_dict_contains.lookup ?_);show wpAny _ _ (if (some (Value.builtin "dict.__contains__")==some Value.none)=true then _ else _) _ E s
 rw[if_neg (by rw[beq_builtin_none];exact Bool.false_ne_true)]
 refine wpAny_bind (wpAny_callSpecialUnlessNone?_slot (name:=Str.ofString "__contains__") hm.typeIs slot_dict_contains
  (wpAny_call_entry slot_dict_contains hm.typeIs entry_dict_contains ?_ (args_dict_contains _ _)))
 show wpAny _ _ (dictGet d (.ref a) >>= _) _ _ s;refine wpAny_bind (wpAny_dictGet_heap hu hkey hm ?_);cases hf:atKey xs k with
 | some v =>
  rw[hf] at h;show wpAny _ _ (ret (.bool true)) _ _ _;exact wpAny_pure ⟨_,rfl,wpAny_truthy_bool (wpAny_pure h)⟩
 | none =>
  rw[hf] at h;show wpAny _ _ (Builtin.Dict.pendingKey? d (.ref a) >>= _) _ _ _;exact wpAny_bind (wpAny_pendingKey_other hd (wpAny_pure ⟨_,rfl,wpAny_truthy_bool (wpAny_pure h)⟩))
end
end PySem
namespace Dn
open L2 Mn
abbrev StX:=List (StK×Addr×Value)
def avo(P:Program)(w:World)(d:Addr)(xs:StX):Heap->Prop:=fun h=>∃o es ep,h.get? d=some o/\o.ExactDict/\o.data=.dict es ep/\es.toList=xs.map (entryOfKey (ajh P w))/\(xs.map (·.1)).Nodup/\(d==sysModules)=false
abbrev StO(X:Cx)(d:Addr)(xs:StX):HO:=.ext (avo X.prog X.w d xs)
def adq(H:Hp)(xs:StX):Prop:=∀x∈xs,∃b,H x.2.1=some (.tup [.ref b,.int x.1.2])/\H b=some (.tup (x.1.1.map V.int))
section
variable{K:Fg9}{X:Cx}
theorem am7{P:Program}{w:World}:∀{ns:List Int} {us:List Value},Vals (ns.map V.int) us->ItemsAre (intKind P w) ns us
 | [],_,h=>by cases h;exact .nil
 | n::ns,_,h=>by
  cases h with
  | cons a b =>
   obtain⟨t,rfl⟩:=a;exact .cons (by simp[intKind,Value.isInt]) (am7 b)
theorem aiy{qv:List (Addr×Obj)}{σ:L2.St}{H:Hp}{s:Shared}(I:Inv X qv σ H s){a b:Addr}{as:List Int}{r:Int}(e1:H a=some (.tup [.ref b,.int r]))(e2:H b=some (.tup (as.map V.int))):IsSt X.prog X.w s.heap (as,r) a:=by
 obtain⟨its,rv,⟨o,f1,f2,n,f3⟩,_⟩:=I.tuple (SqT.of e1);obtain⟨its2,rv2,⟨o2,g1,g2,n2,g3⟩,_⟩:=I.tuple (SqT.of e2);cases rv with
 | cons h1 t1 =>
  cases t1 with
  | cons h2 t2 =>
   cases t2;cases h1;obtain⟨t,rfl⟩:=h2;exact⟨o,b,t,n,f1,f2,f3,o2,its2.toArray,n2,g1,g2,g3,am7 rv2⟩
theorem aqp{qv:List (Addr×Obj)}{σ:L2.St}{H:Hp}{s:Shared}(I:Inv X qv σ H s){d:Addr}{xs:StX}(h:H d=some (StO X d xs))(k:adq H xs):s.heap.DictOfH (ajh X.prog X.w) d xs/\(d==sysModules)=false:=by
 obtain⟨⟨o,es,ep,e1,e2,e3,e4,e5,e6⟩,_⟩:=(show uo X.prog X.w H s.heap d (StO X d xs) from I.hok d _ h)
 refine⟨⟨o,es,ep,e1,e2,e3,e4,fun x hx =>?_,e5⟩,e6⟩
 obtain⟨b,b1,b2⟩:=k x hx;exact aiy I b1 b2
def ax9(X:Cx):TE:=fun _ H Q=>∀p,H p=none->Q (.ref p) (upd H p (StO X p []))
theorem stable{P:Program}{w:World}{d:Addr}{xs:StX}{h1 h2:Heap}(x:avo P w d xs h1)(k:∀o,h1.get? d=some o->h2.get? d=some o):avo P w d xs h2:=by
 obtain⟨o,es,ep,e1,r⟩:=x;exact⟨o,es,ep,k o e1,r⟩
theorem ase{pos:Pos}:PE X (.Dict [] [] pos) (ax9 X):=by
 intro qv s σ H Q I q;have big:sysModules < s.heap.objs.size:=by
  have h:mainGlobals < s.heap.objs.size:=(I.mod.glob.keeps I.bk).lt;exact Nat.lt_trans (by decide) h
 have hn:=I.hok.fresh (Nat.le_refl s.heap.objs.size);refine wpAny_Dict_empty ⟨.ref s.heap.objs.size,upd H s.heap.objs.size (StO X s.heap.objs.size []),?_,rfl,q _ hn⟩;refine I.laid (t':=s.toks) (fun b u e=>Heap.get?_push_of_some _ e) (Nat.le_refl _) ?_
 have e:(s.heap.push { cls:=.type "dict", data:=.dict #[] }).get? s.heap.objs.size=some { cls:=.type "dict", data:=.dict #[] }:=Heap.get?_push_size _ rfl;exact⟨⟨_,#[],0,e,⟨rfl,rfl,rfl⟩,rfl,rfl,List.nodup_nil,beq_eq_false_iff_ne.mpr (Ne.symm (Nat.ne_of_lt big))⟩,⟨_,e⟩,fun h1 h2=>stable⟩
def ayl(X:Cx):R2:=fun x y H Q=>∃a b as r d xs,x=.ref a/\y=.ref d/\H a=some (.tup [.ref b,.int r])/\H b=some (.tup (as.map V.int))/\H d=some (StO X d xs)/\adq H xs/\Q (.bl (!(atKey xs (as,r)).isSome)) H
theorem aso(hu:X.A.units+64 < cLine):OpR X (compareOp .NotIn) (ayl X):=by
 intro qv s σ H x y v u Q I rx ry h;obtain⟨a,b,as,r,d,xs,rfl,rfl,e1,e2,e3,k,q⟩:=h;cases rx;cases ry;obtain⟨m,md⟩:=aqp I e3 k;exact aok (knd:=ajh X.prog X.w) (by show X.A.units+1+40 < _;omega) (aiy I e1 e2) md m ⟨.bl _,H,I.tok _,rfl,q⟩
def a2c(X:Cx):R2:=fun x y H Q=>∃a b as r d xs p,x=.ref d/\y=.ref a/\H a=some (.tup [.ref b,.int r])/\H b=some (.tup (as.map V.int))/\H d=some (StO X d xs)/\adq H xs/\atKey xs (as,r)=some p/\∃z,RelV z p.2/\Q z H
theorem a3i(hu:X.A.units+64 < cLine):IxR X (a2c X):=by
 intro value slice qv s σ H x y v u Q I rx ry h hs;obtain⟨a,b,as,r,d,xs,p,rfl,rfl,e1,e2,e3,k,ek,z,rz,q⟩:=h;cases rx;cases ry;obtain⟨m,md⟩:=aqp I e3 k;exact tail_any m.typeIs slot_dict_getitem.lookup (wpAny_getItem_heap (knd:=ajh X.prog X.w) (by show X.A.units+1+40 < _;omega) (aiy I e1 e2) m ek ⟨z,H,I.tok _,rz,q⟩) hs
def ayk(X:Cx):TSet:=fun o i v H Q=>∃a b as r d xs,o=.ref d/\i=.ref a/\H a=some (.tup [.ref b,.int r])/\H b=some (.tup (as.map V.int))/\H d=some (StO X d xs)/\adq H xs/\atKey xs (as,r)=none/\xs.length<=100000 /\
 ∀u,RelV v u->Q (upd H d (StO X d (xs++[((as,r),a,u)])))
theorem ayf(hu:X.A.units+64 < cLine):PSet X (ayk X):=by
 intro qv s σ H o i v ov iv u Q I ro ri rv h;obtain⟨a,b,as,r,d,xs,rfl,rfl,e1,e2,e3,k,ek,hz,q⟩:=h;cases ro;cases ri;obtain⟨m,md⟩:=aqp I e3 k;refine wpAny_setItem_heap (knd:=ajh X.prog X.w) (by show X.A.units+1+40 < _;omega) (aiy I e1 e2) m (fun h' m' hs =>?_) (by rw[sizeLine_eq];omega)
 rw[storedH_new ek] at m';refine⟨_,?_,q u rv⟩;obtain⟨o,es,ep,f1,f2,f3,f4,_,f5⟩:=m';exact I.write (by rw[e3];trivial) (.inl rfl) (fun b u hb e=>(hs.2 b hb).trans e) ⟨o,f1⟩ ⟨⟨o,es,ep,f1,f2,f3,f4,f5,md⟩,⟨o,f1⟩,fun h1 h2=>stable⟩
end
def okR{α:Type}(m:M α)(ρ:Ro):Option (α×Ro):=match m ρ with
 | some (.ok a,ρ')=>some (a,ρ')
 | _=>none
theorem af4{α:Type}{m:M α}{ρ ρ':Ro}{a:α}(h:okR m ρ=some (a,ρ')):m ρ=some (.ok a,ρ'):=by
 unfold okR at h;split at h
 ·rename_i e;cases h;exact e
 ·cases h
theorem af3{α:Type}{m:M α}{ρ ρ':Ro}{a:α}(h:m ρ=some (.ok a,ρ')):okR m ρ=some (a,ρ'):=by
 unfold okR;rw[h]
theorem nj{α β:Type}{o:Option α}{f:α->Option β}{b:β}(h:o.bind f=some b):∃a,o=some a/\f a=some b:=by
 cases o with
 | none=>cases h
 | some a=>exact⟨a,rfl,h⟩
def keyD:D->Option StK
 | .tup [.tup l,.int r]=>(sr l).map fun as=>(as,r)
 | _=>none
theorem al2{d:D}{k:StK}(h:keyD d=some k):d=.tup [.tup (k.1.map D.int),.int k.2]:=by
 unfold keyD at h;split at h
 ·rename_i l r;cases e:sr l with
  | none=>rw[e] at h;cases h
  | some as =>
   rw[e] at h;cases h;rw[aby e]
 ·cases h
@[simp] theorem al1(as:List Int)(r:Int):keyD (.tup [.tup (as.map D.int),.int r])=some (as,r):=by
 show(sr (as.map D.int)).map _=_;rw[aba];rfl
abbrev Kvs:=List (StK×Int)
def pairD:D->Option (D×D)
 | .tup [x,y]=>some (x,y)
 | _=>none
theorem asl{d:D}{p:D×D}(h:pairD d=some p):d=.tup [p.1,p.2]:=by
 unfold pairD at h;split at h
 ·cases h;rfl
 ·cases h
def avr(mk mv:M D)(ma:M Rv)(ml:M D)(iA iR:Nat)(kvs:Kvs)(ρ:Ro):Option (Kvs×Ro) :=
 (okR mv ρ).bind fun p=>(asI p.1).bind fun n=>(okR mk p.2).bind fun q=>(keyD q.1).bind fun k =>
  if (decide (k∈kvs.map (·.1))||decide (100000 < kvs.length))=true then none else (okR ma q.2).bind fun r=>(okR ml r.2).bind fun t=>(pairD t.1).bind fun z =>
   some (kvs++[(k,n)],List.set (List.set t.2 iA (.val z.1)) iR (.val z.2))
def alb(mk mv:M D)(ma:M Rv)(ml:M D)(iA iR:Nat):Nat->Kvs->Ro->Option (Kvs×Ro)
 | 0,_,_=>none
 | n+1,kvs,ρ=>(okR mk ρ).bind fun p=>(keyD p.1).bind fun k=>if decide (k∈kvs.map (·.1))=true then some (kvs,p.2) else (avr mk mv ma ml iA iR kvs p.2).bind fun q=>alb mk mv ma ml iA iR n q.1 q.2
def axh(iS iL iA iR iH:Nat)(m0:M Rv)(mk mv:M D)(ma:M Rv)(ml:M D)(n:Nat)(g:Sd):Sd:=fun ρ=>(ρ[iS]?).bind fun _ =>
 (okR m0 (List.set ρ iS .emp)).bind fun p=>(alb mk mv ma ml iA iR n [] (List.set p.2 iL p.1.sl)).bind fun q=>(okR mk q.2).bind fun r=>(keyD r.1).bind fun k=>(q.1.lookup k).bind fun j=>g (List.set r.2 iH (.val (.int j)))
theorem ahw{xs:StX}{k:StK}:(atKey xs k).isSome=decide (k∈xs.map (·.1)):=by
 induction xs with
 | nil=>rfl
 | cons x xs ih =>
  by_cases e:x.1=k
  ·simp[atKey,List.find?_cons,e]
  ·have e':¬k=x.1:=fun q=>e q.symm
   have:atKey (x::xs) k=atKey xs k:=by simp[atKey,List.find?_cons,e]
   rw[this,ih,List.map_cons];simp[e']
theorem ahx{k:StK}{n:Int}:∀{xs:StX} {kvs:Kvs},xs.map (·.1)=kvs.map (·.1)->IntsAre (xs.map (·.2.2)) (kvs.map (·.2))->kvs.lookup k=some n->∃p:Addr×Value,atKey xs k=some p/\∃t,p.2=.int n t
 | [],[],_,_,h=>by cases h
 | [],_::_,h,_,_=>by cases h
 | _::_,[],h,_,_=>by cases h
 | x::xs,y::kvs,h1,h2,h=>by
  obtain⟨k',a',u'⟩:=x;obtain⟨ky,ny⟩:=y;simp only[List.map_cons,List.cons.injEq] at h1 h2;obtain⟨rfl,h1⟩:=h1
  by_cases e:k=k'
  ·subst e;rw[List.lookup_cons_self] at h;cases h;cases h2 with
   | cons n t r=>exact⟨(a',.int _ t),by simp[atKey],t,rfl⟩
  ·have e':¬k'=k:=fun q=>e q.symm
   rw[List.lookup_cons,show(k==k')=false by simpa using e] at h
   cases h2 with
   | cons n t r =>
    obtain⟨p,hp,t',ht⟩:=ahx h1 r h;refine⟨p,?_,t',ht⟩;rw[<-hp];simp[atKey,List.find?_cons,e']
section
variable{K:Fg9}{X:Cx}
theorem Good.empS{tg:Nat->Addr}{F H:Hp}{ρ:Ro}{σ:L2.St}(G:Good K tg F H ρ σ)(i:Nat)(o:Option V):Good K tg F H (List.set ρ i .emp) (List.set σ i o)/\∀a,Own (List.set ρ i .emp) (List.set σ i o) a->Own ρ σ a:=by
 have key:∀j (t:Option Nat) (l:List D),(List.set ρ i Sl.emp)[j]? = some (Sl.own t l)->i≠j/\ρ[j]? = some (Sl.own t l):=fun j t l e=>by
  rw[List.getElem?_set] at e;split at e
  ·split at e <;> cases e
  ·rename_i h;exact⟨h,e⟩
 have ow:∀j a,Owns (List.set ρ i .emp) (List.set σ i o) j a->Owns ρ σ j a:=fun j a z=>by
  obtain⟨⟨t,l,e⟩,q⟩:=z;obtain⟨h,e'⟩:=key j t l e;rw[List.getElem?_set_ne h] at q;exact⟨⟨t,l,e'⟩,q⟩
 refine⟨⟨G.sub,by rw[List.length_set,List.length_set];exact G.len,fun j sl o' e q =>?_,fun j1 j2 a h1 h2=>G.inj j1 j2 a (ow j1 a h1) (ow j2 a h2)⟩,fun a z =>?_⟩
 ·by_cases h:i=j
  ·subst h;rw[List.getElem?_set] at e;simp only[if_true] at e;split at e
   ·cases e;trivial
   ·cases e
  ·rw[List.getElem?_set_ne h] at e q;exact G.sl j sl o' e q
 ·obtain⟨j,z⟩:=z;exact⟨j,ow j a z⟩
structure SeenI (K:Fg9) (X:Cx) (tg:Nat->Addr) (F0 H0:Hp) (O:Addr->Prop) (iS:Nat) (p:Addr) (kvs:Kvs) (F H:Hp) (ρ:Ro) (σ:L2.St):Prop where
 good:Good K tg F H ρ σ
 ext:Ext O (Own ρ σ) F0 H0 F H
 at':σ[iS]? = some (some (.ref p))
 new:H0 p=none
 free:F p=none
 nown:¬Own ρ σ p
 xs:∃xs:StX,H p=some (StO X p xs)/\adq F xs/\xs.map (·.1)=kvs.map (·.1)/\IntsAre (xs.map (·.2.2)) (kvs.map (·.2))
section
variable{tg:Nat->Addr}{F0 H0:Hp}{O:Addr->Prop}{iS:Nat}{p:Addr}{kvs:Kvs}{F H F' H':Hp}{ρ ρ':Ro}{σ σ':L2.St}
theorem adq.mono{F F':Hp}{xs:StX}(s:Same F F')(h:adq F xs):adq F' xs:=fun x hx=>by
 obtain⟨b,b1,b2⟩:=h x hx;exact⟨b,s _ _ b1,s _ _ b2⟩
theorem SeenI.step(J:SeenI K X tg F0 H0 O iS p kvs F H ρ σ)(G:Good K tg F' H' ρ' σ')(x:Ext (Own ρ σ) (Own ρ' σ') F H F' H')(hs:σ'[iS]? = σ[iS]?):SeenI K X tg F0 H0 O iS p kvs F' H' ρ' σ':=by
 obtain⟨xs,h1,h2,h3,h4⟩:=J.xs;refine⟨G,J.ext.trans x,hs.trans J.at',J.new,?_,fun z =>?_,xs,x.keep _ _ h1 J.nown,h2.mono x.sub,h3,h4⟩
 ·cases e:F' p with
  | none=>rfl
  | some o =>
   rcases x.new p o e with q | q | q
   ·rw[J.free] at q;cases q
   ·rw[h1] at q;cases q
   ·exact absurd q J.nown
 ·rcases x.own p z with q | q
  ·exact J.nown q
  ·rw[h1] at q;cases q
theorem SeenI.store(J:SeenI K X tg F0 H0 O iS p kvs F H ρ σ){i:Nat}(hi:i≠iS){d:D}{v:V}(h:Is K F d v):SeenI K X tg F0 H0 O iS p kvs F H (List.set ρ i (.val d)) (List.set σ i (some v)):=by
 obtain⟨G,x⟩:=J.good.storeV i h;exact J.step G x (List.getElem?_set_ne hi)
theorem al0{k:StK}{v:V}(h:Is K F (.tup [.tup (k.1.map D.int),.int k.2]) v):∃a b,v=.ref a/\F a=some (.tup [.ref b,.int k.2])/\F b=some (.tup (k.1.map V.int)):=by
 cases h with
 | tup e hl =>
  cases hl with
  | cons h1 t1 =>
   cases t1 with
   | cons h2 t2 =>
    cases t2;cases h2;cases h1 with
    | tup e' hl' =>
     rw[hl'.int_inv] at e';exact⟨_,_,rfl,e,e'⟩
theorem SeenI.write(J:SeenI K X tg F0 H0 O iS p kvs F H ρ σ){xs:StX}(h1:H p=some (StO X p xs))(h2:adq F xs)(h3:xs.map (·.1)=kvs.map (·.1))(h4:IntsAre (xs.map (·.2.2)) (kvs.map (·.2))){k:StK}{a b:Addr}{n:Int}{u:Value}(ea:F a=some (.tup [.ref b,.int k.2]))(eb:F b=some (.tup (k.1.map V.int)))(ru:RelV (.int n) u) :
  SeenI K X tg F0 H0 O iS p (kvs++[(k,n)]) F (upd H p (StO X p (xs++[(k,a,u)]))) ρ σ:=by
 have hp:∀b o,F b=some o->b≠p:=fun b o e z=>by rw[z,J.free] at e;cases e
 have ap:∀{ys:List Value} {ns:List Int} {m:Int} {t:Tok},IntsAre ys ns->IntsAre (ys++[.int m t]) (ns++[m]):=by
  intro ys ns m t h
  induction h with
  | nil=>exact .cons m t .nil
  | cons n' t' r ih=>exact .cons n' t' ih
 obtain⟨t,rfl⟩:=ru;refine⟨J.good.grow (Same.refl F) (fun b o e=>by rw[cu (hp b o e)];exact J.good.sub b o e) (fun c w =>?_) (fun c C dx fvs f1 f2=>⟨f1,?_⟩),?_,J.at',J.new,J.free,J.nown,xs++[(k,a,.int n t)],gw,fun x hx =>?_,?_,?_⟩
 ·have:c≠p:=fun z=>J.nown (z▸w)
  rw[cu this];exact⟨(J.good.ownAt w).1,rfl⟩
 ·have:c≠p:=fun z=>by rw[z,h1] at f2;cases f2
  rw[cu this]
 ·refine⟨J.ext.sub,J.ext.new,fun c o e n' =>?_,J.ext.own,fun c e =>?_⟩
  ·have:c≠p:=fun z=>by rw[z,J.new] at e;cases e
   rw[cu this];exact J.ext.keep c o e n'
  ·by_cases hc:c=p
   ·rw[hc];exact J.new
   ·rw[cu hc] at e;exact J.ext.there c e
 ·rcases List.mem_append.mp hx with hx | hx
  ·exact h2 x hx
  ·rcases List.mem_singleton.mp hx with rfl;exact⟨b,ea,eb⟩
 ·rw[List.map_append,List.map_append,h3];rfl
 ·rw[List.map_append,List.map_append];exact ap h4
end
variable{ek1 ek2 ek3 e0 ev ea el eS1 eS2 eS3:Expr}{ss:List Stmt}{p1 p2 p3 p4 p5 p6 p7 p8 p9 p10 p11 p12 p13 p14 p15 p16 p17:Pos}
theorem arx{iS iL iA iR iH kt:Nat}{xS xL xA xR xH:Str}{mk mv ml:M D}{m0 ma:M Rv}{g:Sd}(n:Nat)(hu:X.A.units+64 < cLine)(hp:PassesOwn (model X.prog X.w) X.A X.env X.xe)(hc:X.calm=true)(hN:X.N.Nodup)
  (nS:X.N[iS]? = some xS) (nL:X.N[iL]? = some xL) (nA:X.N[iA]? = some xA) (nR:X.N[iR]? = some xR) (nH:X.N[iH]? = some xH)
  (lS:Loc X.env.scope xS) (lL:Loc X.env.scope xL) (lA:Loc X.env.scope xA) (lR:Loc X.env.scope xR) (lH:Loc X.env.scope xH) (dL:iL≠iS) (dA:iA≠iS) (dR:iR≠iS)
  (s1:PE X eS1 (tVar iS)) (s2:PE X eS2 (tVar iS)) (s3:PE X eS3 (tVar iS)) (h0:ER K X e0 m0) (k1:EV K X ek1 mk) (k2:EV K X ek2 mk) (k3:EV K X ek3 mk) (hv:EV K X ev mv) (ha:ER K X ea ma) (hl:EV K X el ml) (hg:SVs K X ss g) (hix:amh ek3)
  (hm:behindInMarks .NotIn eS1=false:=by with_unfolding_all rfl)
  (w1:swapsWith (.Dict [] [] p2) (some (.Name xS p1)) p3.line X.env=pure false:=by rfl) (f1:X.fn xS=true∨X.env.scope.names.lookup xS=some .local:=by first | exact .inl rfl | exact .inr rfl | assumption)
  (w2:swapsWith e0 (some (.Name xL p4)) p5.line X.env=pure false:=by rfl) (f2:X.fn xL=true∨X.env.scope.names.lookup xL=some .local:=by first | exact .inl rfl | exact .inr rfl | assumption)
  (w3:swapsWithSole [.Subscript eS2 ek2 p7] ev p8.line X.env=pure false:=by rfl) (w4:swappedStores [.Subscript eS2 ek2 p7] ev X.env=pure none:=by rfl)
  (w5:(assignEach [.Subscript eS2 ek2 p7] X.env).map (·.2)=[assign (.Subscript eS2 ek2 p7) X.env]:=by rfl)
  (w6:∀v,assign (.Subscript eS2 ek2 p7) X.env v=(do
   let ov <-holding [v] (eval eS2 X.env)
   let iv <-holding [v,ov] (eval ek2 X.env)
   standAt p7
   holding [v,ov,iv] (setItem ov iv v)
   release [v,ov,iv] []):=by intro _;rfl)
  (w7:swapsWith ea none p9.line X.env=pure false:=by rfl)
  (w8:swapsWithSole [.Tuple [.Name xA p10,.Name xR p11] kt p12] el p13.line X.env=pure false:=by rfl) (w9:swappedStores [.Tuple [.Name xA p10,.Name xR p11] kt p12] el X.env=pure none:=by rfl)
  (w10:(assignEach [.Tuple [.Name xA p10,.Name xR p11] kt p12] X.env).map (·.2)=[assign (.Tuple [.Name xA p10,.Name xR p11] kt p12) X.env]:=by rfl)
  (w11:(assignEach [.Name xA p10,.Name xR p11] X.env).map (·.2)=assign (.Name xA p10) X.env::(assignEach [.Name xR p11] X.env).map (·.2):=by rfl) (w12:(assignEach [.Name xR p11] X.env).map (·.2)=assign (.Name xR p11) X.env::(assignEach [] X.env).map (·.2):=by rfl)
  (w13:(assignEach [.Name xA p10,.Name xR p11] X.env).length=2:=by rfl) (w14:(assignEach [.Name xA p10,.Name xR p11] X.env).findIdx? (·.1)=none:=by rfl)
  (f3:X.fn xA=true∨X.env.scope.names.lookup xA=some .local:=by first | exact .inl rfl | exact .inr rfl | assumption) (f4:X.fn xR=true∨X.env.scope.names.lookup xR=some .local:=by first | exact .inl rfl | exact .inr rfl | assumption)
  (w15:swapsWith (.Subscript eS3 ek3 p16) (some (.Name xH p15)) p17.line X.env=pure false:=by rfl) (f5:X.fn xH=true∨X.env.scope.names.lookup xH=some .local:=by first | exact .inl rfl | exact .inr rfl | assumption) :
  SVs K X (.Assign [.Name xS p1] (.Dict [] [] p2) p3::.Assign [.Name xL p4] e0 p5::.While (.Compare ek1 [.NotIn] [eS1] p6) [.Assign [.Subscript eS2 ek2 p7] ev p8,.Expr ea p9,.Assign [.Tuple [.Name xA p10,.Name xR p11] kt p12] el p13] [] p14::.Assign [.Name xH p15] (.Subscript eS3 ek3 p16) p17::ss)
   (axh iS iL iA iR iH m0 mk mv ma ml n g):=SVs.mk fun hk=>PSs.imp (aah (ams hN nS lS ase w1 f1) (aah (ams hN nL lL (h0 hk) w2 f2) (aah (amr hp (ape (aso hu) (k1 hk) s1 hm)
    (aah (amt (hv hk) (auo s2 (k2 hk) (ayf hu) w6) w3 w4 w5) (aah (apg (ha hk) w7) (apf (amt (hl hk) (aun hc (aic (ali hN nA lA f3) (aic (ali hN nR lR f4) apl w12) w11) w13 w14) w8 w9 w10)))))
    (aah (ams hN nH lH (ay4 (a3i hu) s3 (k3 hk) hix) w15 f5) (hg hk))))) fun E σ H z9=>by
 obtain⟨tg,F,ρ,fl,ρ',G,em,q⟩:=z9;subst hk;obtain⟨sl0,esl,em⟩:=nj em;obtain⟨⟨r0,ρ0⟩,em0,em⟩:=nj em;obtain⟨⟨kvE,ρE⟩,emL,em⟩:=nj em;obtain⟨⟨dE,ρK⟩,emK,em⟩:=nj em;obtain⟨kE,ekE,em⟩:=nj em;obtain⟨jE,ejE,emF⟩:=nj em
 clear em
 intro p hpn;have Gf:=G.fresh hpn (StO X p []);have Xf:=G.freshX hpn (StO X p []);obtain⟨Ge,oe⟩:=Gf.empS iS (some (.ref p));have oe':=oe;have hlen:iS < σ.length:=by
  rw[<-G.len];exact(List.getElem?_eq_some_iff.mp esl).1
 have J0:SeenI X.K X tg F H (Own ρ σ) iS p [] F (upd H p (StO X p [])) (List.set ρ iS .emp) (List.set σ iS (some (.ref p))) :=
  ⟨Ge,⟨Xf.sub,Xf.new,Xf.keep,fun a z=>Xf.own a (oe a z),Xf.there⟩,by rw[List.getElem?_set_self hlen],hpn,G.freeF hpn,(fun z=>by
   obtain⟨_,vs,e⟩:=G.ownAt (oe' p z);rw[hpn] at e;cases e),⟨[],gw,(fun x hx=>by cases hx),rfl,.nil⟩⟩
 refine⟨tg,F,List.set ρ iS .emp,r0,ρ0,Ge,af4 em0,fun v H1 F1 G1 x1 rr =>?_⟩
 obtain⟨G2,x2⟩:=G1.store x1 iL rr;have J1:=J0.step G2 x2 (List.getElem?_set_ne dL);refine⟨fun m σ' H'=>∃kvs F' ρ',SeenI X.K X tg F H (Own ρ σ) iS p kvs F' H' ρ' σ'/\alb mk mv ma ml iA iR m kvs ρ'=some (kvE,ρE),⟨n,[],F1,_,J1,emL⟩,?_⟩
 rintro m σ2 H2 ⟨kvs,F2,ρ2,J,es⟩
 cases m with
 | zero=>cases es
 | succ m =>
  obtain⟨⟨d1,ρ3⟩,e1,es⟩:=nj es;obtain⟨k,ek,es⟩:=nj es;refine⟨tg,F2,ρ2,d1,ρ3,J.good,af4 e1,fun v H3 F3 G3 x3 r3 =>?_⟩
  have J3:=J.step G3 x3 rfl;have r3:Is X.K F3 d1 v:=r3;have ek:keyD d1=some k:=ek;rw[al2 ek] at r3;obtain⟨a,b,rfl,ea,eb⟩:=al0 r3;obtain⟨xs,h1,h2,h3,h4⟩:=J3.xs;refine⟨.ref p,J3.at',a,b,k.1,k.2,p,xs,rfl,rfl,G3.sub _ _ ea,G3.sub _ _ eb,h1,h2.mono G3.sub,!(atKey xs k).isSome,rfl,?_⟩;rw[ahw,h3]
  by_cases hkk:k∈kvs.map (·.1)
  ·rw[if_pos (decide_eq_true hkk)] at es;cases es;rw[decide_eq_true hkk];refine iteF ?_;refine⟨.ref p,J3.at',tg,F3,_,dE,ρK,G3,af4 emK,fun v4 H4 F4 G4 x4 r4 =>?_⟩
   have J4:=J3.step G4 x4 rfl;have r4:Is X.K F4 dE v4:=r4;have ekE:keyD dE=some kE:=ekE;rw[al2 ekE] at r4;obtain⟨a4,b4,rfl,ea4,eb4⟩:=al0 r4;obtain⟨ys,g1,g2,g3,g4⟩:=J4.xs;obtain⟨pp,gp,t,gt⟩:=ahx g3 g4 ejE;refine⟨a4,b4,kE.1,kE.2,p,ys,pp,rfl,rfl,G4.sub _ _ ea4,G4.sub _ _ eb4,g1,g2.mono G4.sub,gp,.int jE,⟨t,gt⟩,?_⟩;obtain⟨G5,x5⟩:=J4.good.storeV iH (.int jE);exact⟨tg,F4,_,fl,ρ',G5,emF,FlOk.back (J4.ext.trans x5) q⟩
  ·rw[if_neg (by simpa using hkk)] at es
   obtain⟨⟨kv2,ρ9⟩,et,es⟩:=nj es;obtain⟨⟨dv,ρ4⟩,ev',et⟩:=nj et;obtain⟨nv,en,et⟩:=nj et;obtain⟨⟨d2,ρ5⟩,e2,et⟩:=nj et;obtain⟨k2',ek2',et⟩:=nj et;split at et
   ·cases et
   rename_i hc2;simp only[Bool.or_eq_true,decide_eq_true_eq,not_or] at hc2;obtain⟨⟨ra,ρ6⟩,ea',et⟩:=nj et;obtain⟨⟨dt,ρ7⟩,el',et⟩:=nj et;obtain⟨z,ez,et⟩:=nj et;cases et;rw[decide_eq_false hkk];refine iteT ⟨fun σ' H'=>∃kvs F' ρ',SeenI X.K X tg F H (Own ρ σ) iS p kvs F' H' ρ' σ'/\alb mk mv ma ml iA iR m kvs ρ'=some (kvE,ρE),fun σ' H' h=>⟨m,Nat.lt_succ_self m,h⟩,?_⟩
   refine⟨tg,F3,ρ3,dv,ρ4,G3,af4 ev',fun vv H5 F5 G5 x5 r5 =>?_⟩
   have J5:=J3.step G5 x5 rfl;refine⟨.ref p,J5.at',tg,F5,ρ4,d2,ρ5,G5,af4 e2,fun v6 H6 F6 G6 x6 r6 =>?_⟩
   have J6:=J5.step G6 x6 rfl;have r6:Is X.K F6 d2 v6:=r6;have ek2':keyD d2=some k2':=ek2';rw[al2 ek2'] at r6;obtain⟨a6,b6,rfl,ea6,eb6⟩:=al0 r6;obtain⟨ys,g1,g2,g3,g4⟩:=J6.xs;have r5:Is X.K F5 dv vv:=r5;have en:asI dv=some nv:=en;rw[ant en] at r5;cases r5;have hnone:atKey ys k2'=none:=by
    have:(atKey ys k2').isSome=false:=by rw[ahw,g3];exact decide_eq_false hc2.1
    cases e:atKey ys k2' with
    | none=>rfl
    | some _=>rw[e] at this;cases this
   have hlen2:ys.length=kvs.length:=by
    have:=congrArg List.length g3
    simpa using this
   refine⟨a6,b6,k2'.1,k2'.2,p,ys,rfl,rfl,G6.sub _ _ ea6,G6.sub _ _ eb6,g1,g2.mono G6.sub,hnone,by omega,fun u ru =>?_⟩
   have J7:=J6.write g1 g2 g3 g4 ea6 eb6 ru;refine⟨tg,F6,ρ5,ra,ρ6,J7.good,af4 ea',fun v7 H7 F7 G7 x7 r7 =>?_⟩
   have J8:=J7.step G7 x7 rfl;refine⟨tg,F7,ρ6,dt,ρ7,G7,af4 el',fun v8 H8 F8 G8 x8 r8 =>?_⟩
   have J9:=J8.step G8 x8 rfl;have r8:Is X.K F8 dt v8:=r8;have ez:pairD dt=some z:=ez;rw[asl ez] at r8;cases r8 with
   | tup e8 hl8 =>
    cases hl8 with
    | cons i1 t1 =>
     cases t1 with
     | cons i2 t2 =>
      cases t2;exact⟨_,_,rfl,SqT.of (G8.sub _ _ e8),rfl,_,_,rfl,_,_,rfl,rfl,_,F8,_,(J9.store dA i1).store dR i2,es⟩
end
end Dn
end
namespace Dn
open PySem L2
@[simp] abbrev gL9(d:D):Option Rv:=(itemsD d).map fun l=>.v (.int l.length)
@[simp] abbrev gT9(d:D):Option Rv:=(itemsD d).map fun l=>.v (.tup l)
end Dn
namespace My
open PySem L2 Mn Dn
def NS:List Str:=["ArrowError","NoArrows","NoRoom","NoWalkers","NotShut","NeverBack","NoTour","NoRow","NoHouse","NotOpen","Nobody","NoText","TooGreat"]
def ahl:Sd :=
 (dRet (M.v (mAnd (mIsi .int (di 0)) (mUn gNot (mIsi .bool (di 0))))))
def zu:Fd:=fnD 1 1 ahl
def zm:Sd :=
 (dRet (M.v (mAnd (M.d (mFn zu [some 0] (du 0 gj))) (aj7 (fun i j=>decide (i<=j)) (fun i j=>decide (i<=j)) (mVar 1) (mVar 0) (mVar 2)))))
def jk:Fd:=fnD 3 3 zm
def zq:Sd :=
 (dRet (M.v (mAnd (mIsi .tuple (di 0)) (aj7 (fun i j=>decide (i<=j)) (fun i j=>decide (i<=j)) (mVar 1) (M.d (jb (g1 gL9) (ie 0 mNil))) (mVar 2)))))
def jz:Fd:=fnD 3 3 zq
def akh:Sd :=
 (dRet (mOp gAdd (gk (M.d (mOp gAdd (gk (M.d (ae5 0 (ret none) (ado (mVar 1)))) (mTup (bf (mVar 2) mNil))))) (M.d (ae5 0 (ado (M.d (mOp gAdd (cj 1 (ret (.int 1)))))) (ret none))))))
def abg:Fd:=fnD 3 3 akh
def aat:Sd :=
 (dRet (mFn jk [none,none,none] (bh (mVar 1) (bh (ret (.int 0)) (bh (M.d (mOp (gInt fSub) (gk (M.d (jb (g1 gL9) (ie 0 mNil))) (ret (.int 1))))) gj)))))
def j7:Fd:=fnD 2 2 aat
def ph:Sd :=
 (dIf (okS (aeg (xg (M.d (mFn j7 [some 0,none] (du 0 (bh (mVar 1) gj))))))) (ae1 ⟨"NoRoom", []⟩) dNx)
def dj:Fd:=fnD 2 2 ph
def vq:Sd :=
 (dIf (awr (j4 (gCmp fun i j=>decide (j<=i)) (cj 5 (ret (.int 0)))) (j4 (gIn true) (cj 5 (di 2)))) (aep (M.v (mMut 2 abf (bf (mVar 5) mNil)))) dNx)
def yr:M Bool :=
 (j4 (gCmp fun i j=>decide (i < j)) (cj 3 (M.d (jb (g1 gL9) (ie 2 mNil)))))
def abt:Sd :=
 (dSeq (dSet 4 (mOp gIx (cj 0 (M.d (mOp gIx (cj 2 (di 3))))))) (dSeq (dFor (zc (mVar 4)) (jo 5) vq) (dAug (fun i j=>i+j) 3 (ret (.int 1)))))
def akj:Sd :=
 (dSeq (aep (mFn dj [some 0,none] (du 0 (bh (okS (mVar 1)) gj)))) (dSeq (dOk (dSet 2 (mLst (bf (mVar 1) mNil)))) (dSeq (dOk (dSet 3 (M.v (ret (.int 0))))) (dSeq (dOk (whileD yr abt fuel)) (dOk (dRet (jb (g1 gT9) (bf (M.d (jb (g1 abz) (ie 2 mNil))) mNil))))))))
def rm:Fd:=fnD 6 2 akj
def ab0:M D :=
 (M.d (mOp (gCmp fun i j=>decide (j<=i)) (gk (M.d (jb (g1 aqe) (ie 0 mNil))) (ret (.int 0)))))
def aki:Sd :=
 (dRet (jb (g1 gAll) (bf (M.d (adp [none] (zc (mVar 0)) (jo 0) (ret true) ab0)) mNil)))
def abh:Fd:=fnD 1 1 aki
def uc:Sd :=
 (dIf (okS (aeg (xg (M.d (mFn abh [none] (bh (mVar 0) gj)))))) (ae1 ⟨"NotShut", []⟩) dNx)
def gf:Fd:=fnD 1 1 uc
def abj:M D :=
 (M.d (mFn jk [some 0,none,none] (du 0 (bh (ret (.int 0)) (bh (M.d (mOp (gInt fSub) (gk (M.d (jb (g1 gL9) (ie 1 mNil))) (ret (.int 1))))) gj)))))
def acu:Sd :=
 (dSeq (dIf (aeg (xg (M.d (mFn jz [some 1,none,none] (du 1 (bh (M.d (jb (g1 gL9) (ie 0 mNil))) (bh (M.d (jb (g1 gL9) (ie 0 mNil))) gj))))))) (dRet (M.v (ret (.bl false)))) dNx) (dRet (jb (g1 gAll) (bf (M.d (adp [none,none] (mGet ati (bf (mVar 1) (bf (mVar 0) mNil))) (bTup 2 (ac0 (jo 0) (ac0 (jo 1) bNil))) (ret true) abj)) mNil))))
def qb:Fd:=fnD 2 2 acu
def qx:Sd :=
 (dIf (okS (aeg (xg (M.d (mFn qb [none,none] (bh (mVar 0) (bh (mVar 1) gj))))))) (ae1 ⟨"NoArrows", []⟩) dNx)
def fc:Fd:=fnD 2 2 qx
def adw:Sd :=
 (dRet (mFn abg [some 1,none,none] (du 1 (bh (mVar 2) (bh (M.d (mOp (gInt fMod) (gk (M.d (mOp gAdd (gk (M.d (mOp gIx (cj 1 (di 2)))) (di 3)))) (M.d (jb (g1 gL9) (bf (M.d (mOp gIx (cj 0 (di 2)))) mNil)))))) gj)))))
def qy:Fd:=fnD 4 4 adw
def abi:M D :=
 (M.d (mOp gIx (cj 1 (M.d (mOp (gInt fSub) (cj 0 (ret (.int 1))))))))
def agf:Sd :=
 (dRet (jb (g1 gT9) (bf (M.d (adp [none,none] (mGet ati (bf (mVar 1) (bf (mVar 0) mNil))) (bTup 2 (ac0 (jo 0) (ac0 (jo 1) bNil))) (ret true) abi)) mNil)))
def uf:Fd:=fnD 2 2 agf
def yp:M Bool :=
 (j4 (gIn false) (gk (M.d (mOp gIx (cj 2 (di 0)))) (di 1)))
def ym:M D :=
 (mVar 0)
def nq:M Bool :=
 (j4 (gCmp fun i j=>decide (i < j)) (gk (M.d (jb (g1 gL9) (ie 2 mNil))) (di 3)))
def uq:Sd :=
 (dSeq (dSet 3 (jb (g1 gL9) (ie 2 mNil))) (dSet 2 (adp [none,some 2,some 0] (zc (mVar 2)) (jo 0) yp ym)))
def adx:Sd :=
 (dSeq (dSet 2 (jb (g1 fun d=>(itemsD d).map fun l=>.fr l) (ie 1 mNil))) (dSeq (dSet 3 (mOp gAdd (gk (M.d (jb (g1 gL9) (ie 2 mNil))) (ret (.int 1))))) (dSeq (whileD nq uq fuel) (dRet (alw 2)))))
def qz:Fd:=fnD 4 2 adx
def my:Sd :=
 (dSeq (aep (mFn fc [none,none] (bh (okS (mVar 0)) (bh (okS (mVar 1)) gj)))) (aep (mFn dj [some 0,none] (du 0 (bh (okS (mVar 2)) gj)))))
def dq:Fd:=fnD 3 3 my
def aa9:Sd :=
 (dSet 2 (mOp gIx (cj 0 (di 2))))
def xj:M Bool :=
 (j4 (gEq true) (gk (M.d (mOp gIx (cj 0 (M.d (mOp gIx (cj 4 (mUn gNeg (ret (.int 1))))))))) (di 2)))
def aav:Sd :=
 (aep (M.v (mMut 4 abf (bf (M.d (mOp gIx (cj 0 (M.d (mOp gIx (cj 4 (mUn gNeg (ret (.int 1))))))))) mNil))))
def age:Sd :=
 (dSeq (dSet 2 (M.v (mVar 1))) (dSeq (dFor (mGet aak (bf (M.d (jb (g1 gL9) (ie 0 mNil))) mNil)) (jo 3) aa9) (dSeq (dSet 4 (mLst (bf (mVar 2) mNil))) (dSeq (whileD xj aav fuel) (dSeq (dSet 5 (M.v (as4 4 aho (bf (M.d (jb (g1 aqe) (ie 4 mNil))) mNil)))) (dRet (jb (g1 gT9) (bf (M.d (mOp gAdd (gk (M.d (ae5 4 (ado (mVar 5)) (ret none))) (M.d (ae5 4 (ret none) (ado (mVar 5))))))) mNil))))))))
def ue:Fd:=fnD 6 2 age
def tu:Sd :=
 (dSeq (dSet 4 (mFn ue [some 0,none] (du 0 (bh (mVar 3) gj)))) (dIf (j4 (gIn true) (cj 4 (di 2))) (aep (M.v (mMut 2 abf (bf (mVar 4) mNil)))) dNx))
def ahk:Sd :=
 (dSeq (dSet 2 (mLst mNil)) (dSeq (dFor (zc (M.d (mFn qz [some 0,some 1] (du 0 (du 1 gj))))) (jo 3) tu) (dRet (jb (g1 adz) (ie 2 mNil)))))
def zr:Fd:=fnD 5 2 ahk
def g8:Sd :=
 (dSeq (aep (mFn dq [none,none,none] (bh (okS (mVar 0)) (bh (okS (mVar 1)) (bh (okS (mVar 2)) gj))))) (aep (mFn gf [none] (bh (okS (mVar 0)) gj))))
def bw:Fd:=fnD 3 3 g8
def abp:M Bool :=
 (j4 (gIn true) (cj 1 (M.d (mFn rm [some 2,some 0] (du 2 (du 0 gj))))))
def abk:M D :=
 (mVar 0)
def agg:Sd :=
 (dRet (okS (adp [none,some 1,some 0] (zc (M.d (mFn rm [some 0,none] (du 0 (bh (mVar 1) gj))))) (jo 0) abp abk)))
def qd:Fd:=fnD 2 2 agg
def jy:Sd :=
 (dIf (j4 (gIn true) (cj 2 (di 3))) (dRet (alw 3)) dNx)
def yg:Sd :=
 (dSeq (dOk (dFor (zc (M.d (mFn zr [none,none] (bh (M.d (mFn uf [none,none] (bh (mVar 0) (bh (mVar 1) gj)))) (bh (M.d (mFn rm [some 0,none] (du 0 (bh (mVar 2) gj)))) gj))))) (jo 3) jy)) (dOk (dRet (M.v (ret .non)))))
def jj:Fd:=fnD 4 3 yg
def afa:Sd :=
 (dSeq (dSet 3 (mFn qd [some 0,none] (du 0 (bh (okS (mVar 2)) gj)))) (dSeq (dIf (okS (j4 (gEq true) (cj 3 (M.d (mLst mNil))))) (dOk (dRet (M.v (mTup (bf (ret (.str "gone")) (bf (M.d (mOp gIx (cj 3 (ret (.int 0))))) mNil)))))) dNx) (dSeq (dSet 4 (mFn jj [none,none,none] (bh (okS (mVar 0)) (bh (okS (mVar 1)) (bh (okS (mVar 2)) gj))))) (dOk (dRet (mIf (xg (mIsN false (di 4))) (M.v (ret .non)) (M.v (mTup (bf (ret (.str "ring")) (bf (mVar 4) mNil))))))))))
def xx:Fd:=fnD 5 3 afa
def oh:M Bool :=
 (j4 (gEq true) (cj 4 (di 2)))
def u6:Sd :=
 (dSeq (dSet 3 (M.v (mVar 4))) (dSet 4 (mIf (j4 (gCmp fun i j=>decide (j<=i)) (cj 3 (ret (.int 0)))) (mOp gIx (cj 0 (di 3))) (M.v (mVar 1)))))
def abb:Sd :=
 (dSeq (dSet 3 (M.v (mVar 2))) (dSeq (dSet 4 (mIf (j4 (gCmp fun i j=>decide (j<=i)) (cj 3 (ret (.int 0)))) (mOp gIx (cj 0 (di 3))) (M.v (mVar 1)))) (dSeq (whileD oh u6 fuel) (dRet (alw 3)))))
def lg:Fd:=fnD 5 3 abb
def qj:Sd :=
 (dSeq (aep (mFn bw [none,none,none] (bh (okS (mVar 0)) (bh (okS (mVar 1)) (bh (okS (mVar 2)) gj))))) (dSeq (dIf (okS (xg (mIsN true (M.d (mFn xx [none,none,none] (bh (mVar 0) (bh (mVar 1) (bh (mVar 2) gj)))))))) (ae1 ⟨"NeverBack", []⟩) dNx) (dSeq (dOk (dSet 3 (mFn lg [none,none,none] (bh (M.d (mFn uf [none,none] (bh (mVar 0) (bh (mVar 1) gj)))) (bh (mVar 2) (bh (mVar 2) gj)))))) (dOk (dRet (M.v (mTup (bf (M.d (mFn qy [some 0,some 1,none,none] (du 0 (du 1 (bh (mVar 3) (bh (mUn gNeg (ret (.int 1))) gj)))))) (bf (mVar 3) mNil)))))))))
def fj:Fd:=fnD 4 3 qj
def acw:Sd :=
 (dSeq (dIf (j4 (gCmp fun i j=>decide (i < j)) (cj 1 (M.d (jb (g1 gL9) (ie 0 mNil))))) (dRet (mOp gIx (cj 0 (di 1)))) dNx) (dRet (M.v (ret (.int 0)))))
def f__law_cell:Fd:=fnD 2 2 acw
def ahm:Sd :=
 (dSeq (dSet 1 (jb (g2 (gInt fun i j=>some (if j > i then j else i))) (ie 0 (bf (M.d (mOp (gInt fSub) (gk (ret (.int 0)) (di 0)))) mNil)))) (dRet (mLst (bf (mVar 1) (bf (M.d (jb (g1 atl) (bf (M.d (mOp (gCmp fun i j=>decide (j<=i)) (cj 1 (M.d (mOp (gInt fPow) (gk (ret (.int 10)) (ret (.int 18)))))))) mNil))) mNil)))))
def f__law_pen:Fd:=fnD 2 1 ahm
def acv:Sd :=
 (dSeq (dIf (j4 (gEq false) (gk (M.d (mOp gIx (cj 0 (ret (.int 1))))) (ret (.int 1)))) (dSeq (dAsg (M.d (jb (g2 ai4) (bf (M.d (mOp gIx (cj 0 (ret (.int 0))))) (ie 1 mNil)))) (bTup 2 (ac0 (jo 2) (ac0 (jo 3) bNil)))) (dSeq (dSub 0 (ret (.int 0)) (mVar 2)) (dRet (alw 3)))) dNx) (dSeq (dSet 4 (mOp (gInt fMod) (gk (M.d (mOp gMul (gk (M.d (mOp gAdd (gk (M.d (mOp (gInt fMod) (gk (M.d (mOp gIx (cj 0 (ret (.int 0))))) (ret (.int 2147483647))))) (ret (.int 40503))))) (ret (.int 69621))))) (ret (.int 2147483629))))) (dSeq (dSet 4 (mOp (gInt fMod) (gk (M.d (mOp gAdd (gk (M.d (mOp gMul (cj 4 (di 4)))) (ret (.int 7817))))) (ret (.int 2147483587))))) (dSeq (dSub 0 (ret (.int 0)) (M.d (mOp (gInt fMod) (gk (M.d (mOp gAdd (gk (M.d (mOp gMul (cj 4 (ret (.int 48271))))) (ret (.int 11))))) (ret (.int 2147483629)))))) (dRet (mOp (gInt fMod) (gk (M.d (mOp (gInt fDiv) (gk (M.d (mOp gIx (cj 0 (ret (.int 0))))) (ret (.int 32))))) (di 1))))))))
def f__law_draw:Fd:=fnD 5 2 acv
def aez:Sd :=
 (dRet (M.v (mAnd (mIsi .int (di 0)) (mUn gNot (mIsi .bool (di 0))))))
def ql:Fd:=fnD 1 1 aez
def ahn:Sd :=
 (dSeq (dSet 1 (mLst (bf (ret .non) (bf (ret (.bl true)) (bf (ret (.bl false)) (bf (mUn gNeg (ret (.int 1))) (bf (ret (.str "1")) (bf (ret (.str "")) (bf (mTup mNil) (bf (M.d (mLst mNil)) (bf (mTup (bf (ret (.int 0)) mNil)) (bf (M.d (mLst (bf (ret (.int 0)) mNil))) (bf (ret (.dct [(Sum.inr "a", .int 1)])) (bf (mTup (bf (ret (.int 0)) (bf (ret (.int 1)) mNil))) (bf (M.d (mOp (gInt fPow) (gk (ret (.int 10)) (ret (.int 30))))) (bf (mTup (bf (mTup (bf (ret (.int 0)) mNil)) mNil)) (bf (ret (.str "ab")) mNil))))))))))))))))) (dRet (mOp gIx (gk (M.d (mOp gAdd (cj 1 (M.d (mLst (bf (mTup (bf (mTup (bf (mUn gNeg (ret (.int 1))) mNil)) (bf (mTup (bf (ret (.int 0)) (bf (ret (.int 1)) mNil))) mNil))) mNil)))))) (M.d (mFn f__law_draw [some 0,none] (du 0 (bh (ret (.int 16)) gj))))))))
def f__law_odd:Fd:=fnD 2 1 ahn
def abl:M D :=
 (M.d (mFn f__law_draw [some 1,some 2] (du 1 (du 2 gj))))
def l1__law_shut:Sd :=
 (dSeq (dSet 6 (mOp gAdd (gk (ret (.int 1)) (M.d (mFn f__law_draw [some 0,some 2] (du 0 (du 2 gj))))))) (dSeq (dSet 7 (adp [none,some 0,some 3] (mGet aak (bf (mVar 6) mNil)) (jo 0) (ret true) abl)) (dSeq (dIf (j4 (gEq false) (gk (M.d (mFn f__law_draw [some 0,none] (du 0 (bh (ret (.int 2)) gj)))) (ret (.int 1)))) (dSub 7 (ret (.int 0)) (M.d (mOp (gInt fMod) (gk (M.d (mOp gAdd (cj 5 (ret (.int 1))))) (di 3))))) dNx) (aep (M.v (mMut 4 abf (bf (M.d (jb (g1 gT9) (ie 7 mNil))) mNil)))))))
def agh:Sd :=
 (dSeq (dSet 3 (mOp gAdd (gk (ret (.int 1)) (M.d (mFn f__law_draw [some 0,some 1] (du 0 (du 1 gj))))))) (dSeq (dSet 4 (mLst mNil)) (dSeq (dFor (mGet aak (bf (mVar 3) mNil)) (jo 5) l1__law_shut) (dRet (jb (g1 gT9) (ie 4 mNil))))))
def f__law_shut:Fd:=fnD 8 3 agh
def yo:M D :=
 (M.d (mFn f__law_draw [some 1,none] (du 1 (bh (M.d (jb (g1 gL9) (ie 0 mNil))) gj))))
def ady:Sd :=
 (dRet (jb (g1 gT9) (bf (M.d (adp [none,some 0] (zc (mVar 1)) (jo 0) (ret true) yo)) mNil)))
def f__law_arrows:Fd:=fnD 2 2 ady
def al5:Sd :=
 (dSeq (dSet 1 (mLst (bf (mIsC NS "NoArrows" (di 0)) (bf (mIsC NS "NoRoom" (di 0)) (bf (mIsC NS "NoWalkers" (di 0)) (bf (mIsC NS "NotShut" (di 0)) mNil)))))) (dSeq (dSet 1 (mOp gAdd (cj 1 (M.d (mLst (bf (mIsC NS "NeverBack" (di 0)) (bf (mIsC NS "NoTour" (di 0)) (bf (mIsC NS "NoRow" (di 0)) (bf (mIsC NS "NoHouse" (di 0)) mNil))))))))) (dSeq (dSet 1 (mOp gAdd (cj 1 (M.d (mLst (bf (mIsC NS "NotOpen" (di 0)) (bf (mIsC NS "Nobody" (di 0)) (bf (mIsC NS "NoText" (di 0)) (bf (mIsC NS "TooGreat" (di 0)) mNil))))))))) (dSeq (dIf (mOrB (aeg (xg (mIsC NS "ValueError" (di 0)))) (j4 (gEq true) (gk (apw 1 (bf (ret (.bl true)) mNil)) (ret (.int 1))))) (dRet (M.v (ret (.str "other")))) dNx) (dSeq (dSet 2 (mLst (bf (ret (.str "arrows")) (bf (ret (.str "room")) (bf (ret (.str "walkers")) (bf (ret (.str "shut")) (bf (ret (.str "never")) (bf (ret (.str "tour")) (bf (ret (.str "row")) (bf (ret (.str "house")) (bf (ret (.str "open")) (bf (ret (.str "nobody")) (bf (ret (.str "text")) (bf (ret (.str "great")) mNil)))))))))))))) (dRet (mOp gIx (cj 2 (as4 1 aho (bf (ret (.bl true)) mNil))))))))))
def lq:Fd:=fnD 3 1 al5
def agi:Sd :=
 (dSeq (dSet 3 (mOp gIx (cj 1 (di 2)))) (dSeq (dSet 4 (jb (g1 fun d=>(itemsD d).map fun l=>.fr l) (ie 1 mNil))) (dSeq (dSub 4 (mVar 2) (M.d (mOp (gInt fMod) (gk (M.d (mOp gAdd (cj 3 (ret (.int 1))))) (M.d (jb (g1 gL9) (bf (M.d (mOp gIx (cj 0 (di 2)))) mNil))))))) (dRet (M.v (mTup (bf (M.d (jb (g1 gT9) (ie 4 mNil))) (bf (M.d (mOp gIx (gk (M.d (mOp gIx (cj 0 (di 2)))) (di 3)))) mNil))))))))
def ug:Fd:=fnD 5 3 agi
def aal:M D :=
 (M.d (mFn ql [some 0] (du 0 gj)))
def ae0:Sd :=
 (dSeq (dIf (mOrB (aeg (xg (mIsi .tuple (di 0)))) (j4 (gEq true) (cj 0 (di 1)))) (dRet (M.v (ret (.bl false)))) dNx) (dRet (jb (g1 gAll) (bf (M.d (adp [none] (zc (mVar 0)) (jo 0) (ret true) aal)) mNil))))
def uy:Fd:=fnD 2 2 ae0
def abd:Sd :=
 (axh 3 4 1 2 5 (mLst mNil) (mTup (bf (mVar 1) (bf (mVar 2) mNil))) (M.d (jb (g1 gL9) (ie 4 mNil))) (M.v (mMut 4 abf (bf (mTup (bf (mVar 1) (bf (mVar 2) mNil))) mNil))) (M.d (mFn ug [some 0,some 1,none] (du 0 (du 1 (bh (mVar 2) gj))))) fuel (dRet (M.v (mTup (bf (mVar 5) (bf (M.d (mOp (gInt fSub) (gk (M.d (jb (g1 gL9) (ie 4 mNil))) (di 5)))) (bf (mVar 4) mNil)))))))
def uz:Fd:=fnD 6 3 abd
def aau:Sd :=
 (dSeq (dSet 3 (mFn f__law_draw [some 0,none] (du 0 (bh (M.d (jb (g1 gL9) (ie 1 mNil))) gj)))) (dSeq (dSet 4 (mOp gIx (gk (M.d (mLst (bf (M.d (jb (g1 gL9) (bf (M.d (mOp gIx (cj 1 (di 3)))) mNil))) (bf (mUn gNeg (ret (.int 1))) (bf (ret (.bl true)) (bf (ret .non) (bf (ret (.str "0")) (bf (mTup (bf (M.d (mOp gIx (cj 2 (di 3)))) mNil)) (bf (M.d (mOp gAdd (gk (M.d (jb (g1 gL9) (bf (M.d (mOp gIx (cj 1 (di 3)))) mNil))) (ret (.int 7))))) mNil))))))))) (M.d (mFn f__law_draw [some 0,none] (du 0 (bh (ret (.int 7)) gj))))))) (dSeq (dSet 5 (mLst (bf (M.d (mOp gAdd (cj 2 (mTup (bf (ret (.int 0)) mNil))))) (bf (M.d (ae5 2 (ado (ret (.int 1))) (ret none))) (bf (M.d (jb (g1 fun d=>(itemsD d).map fun l=>.fr l) (ie 2 mNil))) (bf (mTup (bf (mVar 2) mNil)) (bf (ret .non) (bf (M.d (mOp gAdd (gk (M.d (mOp gAdd (gk (M.d (ae5 2 (ret none) (ado (mVar 3)))) (mTup (bf (mVar 4) mNil))))) (M.d (ae5 2 (ado (M.d (mOp gAdd (cj 3 (ret (.int 1)))))) (ret none)))))) (bf (ret (.str "")) (bf (ret (.dct [])) mNil)))))))))) (dRet (mOp gIx (cj 5 (M.d (mFn f__law_draw [some 0,none] (du 0 (bh (ret (.int 8)) gj))))))))))
def f__law_no_arrows:Fd:=fnD 6 3 aau
def acb:Sd :=
 (dSeq (dSet 2 (mLst (bf (M.d (jb (g1 gL9) (ie 1 mNil))) (bf (M.d (mOp gAdd (gk (M.d (mOp gAdd (gk (M.d (jb (g1 gL9) (ie 1 mNil))) (ret (.int 1))))) (M.d (mFn f__law_draw [some 0,none] (du 0 (bh (M.d (mOp (gInt fPow) (gk (ret (.int 10)) (ret (.int 6))))) gj))))))) (bf (mUn gNeg (ret (.int 1))) (bf (mUn gNeg (ret (.int 2))) (bf (M.d (mOp (gInt fPow) (gk (ret (.int 10)) (ret (.int 59))))) (bf (M.d (mOp (gInt fSub) (gk (mUn gNeg (ret (.int 1))) (M.d (mFn f__law_draw [some 0,none] (du 0 (bh (ret (.int 99)) gj))))))) mNil)))))))) (dRet (mOp gIx (gk (M.d (mLst (bf (M.d (mFn f__law_odd [some 0] (du 0 gj))) (bf (M.d (mOp gIx (cj 2 (M.d (mFn f__law_draw [some 0,none] (du 0 (bh (ret (.int 6)) gj))))))) mNil)))) (M.d (mFn f__law_draw [some 0,none] (du 0 (bh (ret (.int 2)) gj))))))))
def f__law_no_room:Fd:=fnD 3 2 acb
def ux:Sd :=
 (dRet (mFn lq [some 3] (du 3 gj)))
def ud:Sd :=
 (dTry NS (dRet (mFn fj [none,none,none] (bh (okS (mVar 0)) (bh (okS (mVar 1)) (bh (okS (mVar 2)) gj))))) 3 ux)
def fu:Fd:=fnD 4 3 ud
def abe:Sd :=
 (dSeq (dSet 4 (mFn fu [none,none,none] (bh (mVar 0) (bh (mVar 1) (bh (mVar 2) gj))))) (dSeq (dIf (xg (mIsN false (di 3))) (dRet (mOp (gEq false) (cj 4 (ret (.str "never"))))) dNx) (dSeq (dIf (mOrB (aeg (xg (mIsi .tuple (di 4)))) (mOrB (j4 (gEq true) (gk (M.d (jb (g1 gL9) (ie 4 mNil))) (ret (.int 2)))) (aeg (xg (M.d (mFn uy [none,none] (bh (M.d (mOp gIx (cj 4 (ret (.int 0))))) (bh (M.d (mOp gIx (cj 3 (ret (.int 0))))) gj)))))))) (dRet (M.v (ret (.bl false)))) dNx) (dRet (M.v (mAnd (M.d (mFn ql [none] (bh (M.d (mOp gIx (cj 4 (ret (.int 1))))) gj))) (M.d (mOp (gEq false) (gk (M.d (mOp gIx (cj 4 (ret (.int 1))))) (M.d (mOp gIx (cj 3 (ret (.int 1))))))))))))))
def iu:Fd:=fnD 5 4 abe
def l1_law:Sd :=
 (dSeq (dSet 9 (jb (g2 (gInt fun i j=>some (if j < i then j else i))) (ie 9 (bf (M.d (mOp (gInt fSub) (gk (M.d (jb (g1 gL9) (ie 8 mNil))) (ret (.int 1))))) mNil)))) (dSeq (dSet 10 (M.v (ret .non))) (dSeq (dIf (j4 (gCmp fun i j=>decide (j<=i)) (cj 9 (di 6))) (dSet 10 (mOp gIx (gk (M.d (mOp gMul (gk (M.d (ae5 8 (ado (mVar 6)) (ret none))) (ret (.int 2))))) (M.d (mOp (gInt fSub) (gk (M.d (mOp gAdd (gk (M.d (mOp (gInt fSub) (cj 9 (di 6)))) (di 7)))) (ret (.int 1)))))))) dNx) (dIf (aeg (xg (M.d (mFn iu [none,none,none,some 10] (bh (mVar 3) (bh (M.d (mOp gIx (gk (M.d (mOp gIx (cj 8 (di 9)))) (ret (.int 0))))) (bh (M.d (mOp gIx (gk (M.d (mOp gIx (cj 8 (di 9)))) (ret (.int 1))))) (du 10 gj)))))))) (dRet (M.v (ret (.bl false)))) dNx))))
def l2_law:Sd :=
 (dSeq (dAsg (M.d (mFn uz [some 3,none,none] (du 3 (bh (mVar 4) (bh (mVar 5) gj))))) (bTup 3 (ac0 (jo 6) (ac0 (jo 7) (ac0 (jo 8) bNil))))) (dFor (zc (M.d (mLst (bf (ret (.int 0)) (bf (M.d (jb (g2 (gInt fun i j=>some (if j > i then j else i))) (bf (ret (.int 0)) (bf (M.d (mOp (gInt fSub) (cj 6 (ret (.int 1))))) mNil)))) (bf (mVar 6) (bf (M.d (mOp gAdd (cj 6 (ret (.int 1))))) (bf (M.d (mOp (gInt fSub) (gk (M.d (mOp gAdd (cj 6 (di 7)))) (ret (.int 1))))) mNil)))))))) (jo 9) l1_law))
def l3_law:Sd :=
 (dSeq (dSet 2 (mFn f__law_pen [some 1] (du 1 gj))) (dSeq (dSet 3 (mFn f__law_shut [some 2,none,none] (du 2 (bh (M.d (mOp gIx (gk (M.d (mLst (bf (ret (.int 3)) (bf (ret (.int 4)) (bf (ret (.int 5)) mNil))))) (M.d (mFn f__law_draw [some 2,none] (du 2 (bh (ret (.int 3)) gj))))))) (bh (ret (.int 3)) gj))))) (dSeq (dSet 4 (mFn f__law_arrows [some 2,none] (du 2 (bh (mVar 3) gj)))) (dSeq (dFor (mGet aak (bf (M.d (jb (g1 gL9) (ie 3 mNil))) mNil)) (jo 5) l2_law) (dSeq (dSet 11 (mFn f__law_no_arrows [some 2,some 3,none] (du 2 (du 3 (bh (mVar 4) gj))))) (dSeq (dSet 12 (mFn f__law_no_room [some 2,some 3] (du 2 (du 3 gj)))) (dSeq (dIf (mOrB (j4 (gEq true) (gk (M.d (mFn fu [none,none,none] (bh (mVar 3) (bh (mVar 11) (bh (mVar 12) gj))))) (ret (.str "arrows")))) (j4 (gEq true) (gk (M.d (mFn fu [none,none,none] (bh (mVar 3) (bh (mVar 4) (bh (mVar 12) gj))))) (ret (.str "room"))))) (dRet (M.v (ret (.bl false)))) dNx) (dSeq (dSet 13 (mOp gAdd (gk (M.d (ae5 3 (ret none) (ado (mUn gNeg (ret (.int 1)))))) (mTup (bf (M.d (mOp gAdd (gk (M.d (mCut (M.d (mOp gIx (cj 3 (mUn gNeg (ret (.int 1)))))) (ret none) (ado (mUn gNeg (ret (.int 1)))))) (mTup (bf (mUn gNeg (ret (.int 1))) mNil))))) mNil))))) (dIf (mOrB (j4 (gEq true) (gk (M.d (mFn fu [none,none,none] (bh (mVar 13) (bh (mVar 4) (bh (mVar 12) gj))))) (ret (.str "room")))) (j4 (gEq true) (gk (M.d (mFn fu [none,none,none] (bh (mVar 13) (bh (mVar 4) (bh (ret (.int 0)) gj))))) (ret (.str "shut"))))) (dRet (M.v (ret (.bl false)))) dNx)))))))))
def a0d:Sd :=
 (dSeq (dIf (mOrB (aeg (xg (M.d (mFn iu [none,none,none,none] (bh (mTup (bf (mTup (bf (ret (.int 0)) mNil)) mNil)) (bh (mTup (bf (ret (.int 0)) mNil)) (bh (ret (.int 0)) (bh (mTup (bf (mTup (bf (ret (.int 0)) mNil)) (bf (ret (.int 0)) mNil))) gj)))))))) (aeg (xg (M.d (mFn iu [none,none,none,none] (bh (mTup (bf (mTup (bf (ret (.int 0)) (bf (ret (.int 1)) mNil))) (bf (mTup (bf (ret (.int 1)) mNil)) mNil))) (bh (mTup (bf (ret (.int 0)) (bf (ret (.int 0)) mNil))) (bh (ret (.int 0)) (bh (ret .non) gj))))))))) (dRet (M.v (ret (.bl false)))) dNx) (dSeq (dFor (zc (M.d (mOp gAdd (gk (M.d (mLst (bf (M.d (mFn f__law_cell [some 0,none] (du 0 (bh (ret (.int 0)) gj)))) mNil))) (M.d (ae5 0 (ado (ret (.int 1))) (ado (ret (.int 4))))))))) (jo 1) l3_law) (dRet (M.v (ret (.bl true))))))
def aqj:Fd:=fnD 14 1 a0d
def afl:D->Bool
 | .int _=>true
 | _=>false
def ig(a b:Int):D->Bool
 | .int i=>decide (a<=i)&&decide (i<=b)
 | _=>false
@[simp] theorem awz(d:D):zu [.val d]=some (.ok (.v (.bl (afl d))),[.val d]):=by
 cases d <;> simp[zu,ahl,isTy,afl]
@[simp] theorem ana(d:D)(a b:Int):jk [.val d,.val (.int a),.val (.int b)]=some (.ok (.v (.bl (ig a b d))),[.val d,.val (.int a),.val (.int b)]):=by
 cases d <;> simp[jk,zm,afl,ig]
theorem aqy(ns:List Int)(k:Int)(h:0<=k):∃n,f__law_cell [.val (.kst (ns.map D.int)),.val (.int k)]=some (.ok (.v (.int n)),[.val (.kst (ns.map D.int)),.val (.int k)]):=by
 by_cases hk:k < (ns.length:Int)
 ·have e:atI (ns.map D.int) k=some (.int (ns[k.toNat]'(by omega))):=by
   have h2:atI (ns.map D.int) ((k.toNat:Nat):Int)=some (.int (ns[k.toNat]'(by omega))):=ac1 (by simp[List.getElem?_map,List.getElem?_eq_getElem (show k.toNat < ns.length by omega)])
   rw[show((k.toNat:Nat):Int)=k by omega] at h2
   exact h2
  exact⟨ns[k.toNat]'(by omega),by simp[f__law_cell,acw,hk,e]⟩
 ·exact⟨0,by simp[f__law_cell,acw,hk]⟩
def pen(P:Int×Int):List D:=[.int P.1,.int P.2]
theorem asb(n:Int):∃P,f__law_pen [.val (.int n)]=some (.ok (.fr (pen P)),[.val (.int n)]):=by
 refine⟨(if 0 - n > n then 0 - n else n,if 10 ^ 18<=(if 0 - n > n then 0 - n else n) then 1 else 0),?_⟩
 simp[f__law_pen,ahm,pen,fPow]
theorem jw(P:Int×Int)(m:Int)(h0:0 < m)(h1:m < 1000000000000000000000000000000000000000000000000000000000000):∃r P',f__law_draw [.own (some 0) (pen P),.val (.int m)]=some (.ok (.v (.int r)),[.own (some 0) (pen P'),.val (.int m)])/\0<=r/\r < m:=by
 obtain⟨a,b⟩:=P
 by_cases hb:b=1
 ·refine⟨a % m,(a / m,b),?_,Int.emod_nonneg _ (by omega),Int.emod_lt_of_pos _ h0⟩
  simp[f__law_draw,acv,pen,hb,h0,h1,atI,ixN]
 ·have z0:0<=(a % 2147483647+40503)*69621 % 2147483629:=Int.emod_nonneg _ (by decide)
  have z1:(a % 2147483647+40503)*69621 % 2147483629 < 2147483629:=Int.emod_lt_of_pos _ (by decide)
  generalize hz:(a % 2147483647+40503)*69621 % 2147483629=z at z0 z1;have hm:fMul z z=some (z*z):=by
   unfold fMul;rw[if_pos (.inl ⟨by omega,by omega⟩)]
  refine⟨((z*z+7817) % 2147483587*48271+11) % 2147483629 / 32 % m,(((z*z+7817) % 2147483587*48271+11) % 2147483629,b),?_,Int.emod_nonneg _ (by omega),Int.emod_lt_of_pos _ h0⟩
  have h69:∀x:Int,fMul x 69621=some (x*69621):=fun x=>by unfold fMul;rw[if_pos (.inr (by decide))]
  have h48:∀x:Int,fMul x 48271=some (x*48271):=fun x=>by unfold fMul;rw[if_pos (.inr (by decide))]
  simp[f__law_draw,acv,pen,hb,h0,h1,atI,ixN,h69,h48,hm,fMod,fDiv,hz]
structure HouseOk (m w:Int) (qq:LL9):Prop where
 one:1<=qq.length
 most:(qq.length:Int)<=m
 room:∀r∈qq,1<=r.length/\(r.length:Int)<=w/\∀x∈r,0<=x/\x < (qq.length:Int)
def hDs(qq:LL9):List D:=qq.map fun r=>D.tup (r.map D.int)
def hD(qq:LL9):D:=.tup (hDs qq)
theorem ao2(P:Int×Int)(m w:Int)(w1:1<=w)(w2:w<=6){n:Int}(n1:1<=n)(n2:n<=10)(i:Nat)(hi:(i:Int) < n)(qq:LL9)(hl:qq.length<=10)(o1 o2:Sl):∃ns P' q1 q2,l1__law_shut [.own (some 0) (pen P),.val (.int m),.val (.int w),.val (.int n),.own none (hDs qq),.val (.int (i:Int)),o1,o2]=some (.nx,[.own (some 0) (pen P'),.val (.int m),.val (.int w),.val (.int n),.own none (hDs (qq++[ns])),.val (.int (i:Int)),q1,q2])
  /\ 1<=ns.length/\(ns.length:Int)<=w/\∀x∈ns,0<=x/\x < n:=by
 obtain⟨r5,P5,e5,r5a,r5b⟩:=jw P w (by omega) (by omega)
 have comp:=abn (b:=jo 0) (mc:=ret true) (me:=abl) (fun j ys ρ=>∃ns P o,ρ=[o,.own (some 1) (pen P),.val (.int n)]/\ys=ns.map D.int/\ns.length=j/\∀x∈ns,0<=x/\x < n)
  (l:=qw 0 (1+r5).toNat) (ys:=[]) (ρ:=[.emp,.own (some 1) (pen P5),.val (.int n)]) 0 ⟨[],P5,.emp,rfl,rfl,rfl,by simp⟩ ?_
 ·obtain⟨ys,ρ',e6,ns,P6,o,rfl,rfl,hn,hx⟩:=comp;have hn:ns.length=(1+r5).toNat:=by simpa[qw] using hn
  have hb:(1+r5).natAbs < 4611686018427387904:=by omega
  have hc1:ns.length<=capS:=gr (by omega)
  have hc2:(hDs qq).length < capS:=by simp[hDs,capS];omega
  obtain⟨r7,P7,e7,r7a,r7b⟩:=jw P6 2 (by decide) (by decide)
  have hm:fMod ((i:Int)+1) n=some (((i:Int)+1) % n):=by
   unfold fMod;rw[if_pos (by omega)]
  cases ns with
  | nil=>simp at hn;omega
  | cons x r =>
   have hc1:r.length+1<=capS:=by simpa using hc1
   by_cases q:r7=1
   ·refine⟨((i:Int)+1) % n::r,P7,.val (.int (1+r5)),.own none ((((i:Int)+1) % n::r).map D.int),?_,by simp,by simp at hn ⊢;omega,fun y hy =>?_⟩
    ·have e8:ixN (r.length+1) 0=some 0:=by simp[ixN]
     simp[l1__law_shut,e5,hb,e6,hc1,e7,q,hm,hc2,e8];simp[hDs]
    ·rcases List.mem_cons.mp hy with rfl | hy
     ·exact⟨Int.emod_nonneg _ (by omega),Int.emod_lt_of_pos _ (by omega)⟩
     ·exact hx y (List.mem_cons_of_mem _ hy)
   ·refine⟨x::r,P7,.val (.int (1+r5)),.own none ((x::r).map D.int),?_,by simp,by simp at hn ⊢;omega,hx⟩
    simp[l1__law_shut,e5,hb,e6,hc1,e7,q,hc2];simp[hDs]
 ·rintro j d ys ρ hd ⟨ns,P6,o,rfl,rfl,hn,hx⟩
  obtain⟨r7,P7,e7,r7a,r7b⟩:=jw P6 n (by omega) (by omega)
  refine⟨_,_,true,rfl,rfl,.inr ⟨rfl,.int r7,_,by simp[abl,e7];rfl,ns++[r7],P7,_,rfl,by simp,by simp[hn],fun x h =>?_⟩⟩
  rcases List.mem_append.mp h with h | h
  ·exact hx x h
  ·obtain rfl:x=r7:=by simpa using h
   omega
theorem ao3(P:Int×Int)(m w:Int)(m1:1<=m)(m2:m<=10)(w1:1<=w)(w2:w<=6):∃qq P',f__law_shut [.own (some 0) (pen P),.val (.int m),.val (.int w)]=some (.ok (.v (hD qq)),[.own (some 0) (pen P'),.val (.int m),.val (.int w)])/\HouseOk m w qq:=by
 obtain⟨r1,P1,e1,r1a,r1b⟩:=jw P m (by omega) (by omega)
 have loop:=ai6 (b:=jo 5) (g:=l1__law_shut) (fun i ρ=>∃qq P o o1 o2,ρ=[.own (some 0) (pen P),.val (.int m),.val (.int w),.val (.int (1+r1)),.own none (hDs qq),o,o1,o2]/\qq.length=i/\∀r∈qq,1<=r.length/\(r.length:Int)<=w/\∀x∈r,0<=x/\x < 1+r1)
  (l:=qw 0 (1+r1).toNat) (ρ:=[.own (some 0) (pen P1),.val (.int m),.val (.int w),.val (.int (1+r1)),.own none [],.emp,.emp,.emp]) 0 ⟨[],P1,.emp,.emp,.emp,rfl,rfl,by simp⟩ ?_
 ·obtain⟨ρ',e3,qq,P3,o,o1,o2,rfl,hl,hr⟩:=loop;have hl:qq.length=(1+r1).toNat:=by simpa[qw] using hl
  refine⟨qq,P3,?_,by omega,by omega,fun r h =>?_⟩
  ·have hb:(1+r1).natAbs < 4611686018427387904:=by omega
   simp[f__law_shut,agh,e1,hb,e3,hD]
  ·obtain⟨a,b,c⟩:=hr r h;exact⟨a,b,fun x hx=>by have:=c x hx;omega⟩
 ·rintro i d ρ hd ⟨qq,P4,o,o1,o2,rfl,hl,hr⟩
  have hi:i < (1+r1).toNat:=by
   have:=(List.getElem?_eq_some_iff.mp hd).1
   simpa[qw] using this
  have ed:d=.int (i:Int):=by
   unfold qw at hd;rw[List.getElem?_map,List.getElem?_range hi] at hd;have:=Option.some.inj hd
   simpa using this.symm
  subst ed;obtain⟨ns,P5,q1,q2,e,z1,z2,z3⟩:=ao2 P4 m w w1 w2 (n:=1+r1) (by omega) (by omega) i (by omega) qq (by omega) o1 o2
  refine⟨_,_,rfl,.inl e,qq++[ns],P5,_,_,_,rfl,by simp[hl],fun r h =>?_⟩
  rcases List.mem_append.mp h with h | h
  ·exact hr r h
  ·obtain rfl:r=ns:=by simpa using h
   exact⟨z1,z2,z3⟩
structure Hs (qq:LL9):Prop where
 one:1<=qq.length
 most:qq.length<=10
 room:∀r∈qq,1<=r.length/\r.length<=6/\∀x∈r,-3<=x/\x < (qq.length:Int)
def dr(qq:LL9)(x:Int):List Int:=qq.getD x.toNat []
inductive Rch (qq:LL9) (a:Int):Int->Prop
 | base:Rch qq a a
 | step {x d:Int}:Rch qq a x->0<=x->d∈dr qq x->Rch qq a d
theorem ai9{qq:LL9}{x:Int}(h0:0<=x)(h1:x < (qq.length:Int)):atI (hDs qq) x=some (.tup ((dr qq x).map D.int)):=by
 have hk:x.toNat < qq.length:=by omega
 have q:atI (hDs qq) ((x.toNat:Nat):Int)=some (.tup ((dr qq x).map D.int)):=ac1 (by simp[hDs,dr,List.getElem?_eq_getElem hk])
 rw[show((x.toNat:Nat):Int)=x by omega] at q
 exact q
theorem Hs.dr{qq:LL9}(h:Hs qq){x:Int}(h0:0<=x)(h1:x < (qq.length:Int)):1<=(dr qq x).length/\(My.dr qq x).length<=6/\∀y∈My.dr qq x,-3<=y/\y < (qq.length:Int):=by
 have hk:x.toNat < qq.length:=by omega
 have e:My.dr qq x=qq[x.toNat]:=by simp[My.dr,hk]
 rw[e];exact h.room _ (List.getElem_mem hk)
theorem Rch.range{qq:LL9}(h:Hs qq){a x:Int}(ha:0<=a/\a < (qq.length:Int))(r:Rch qq a x) : -3<=x/\x < (qq.length:Int):=by
 induction r with
 | base=>omega
 | step r h0 hd ih=>exact(h.dr h0 ih.2).2.2 _ hd
theorem af5:∀(m:Nat) (l:List Int),l.Nodup->(∀x∈l,-3<=x/\x < (m:Int) - 3)->l.length<=m
 | 0,l,_,h=>by
  cases l with
  | nil=>simp
  | cons x r=>have:=h x (List.mem_cons_self ..);omega
 | m+1,l,hn,h=>by
  have h1:(l.erase ((m:Int) - 3)).length<=m:=af5 m _ (hn.erase _) fun x hx=>by
   rw[hn.mem_erase_iff] at hx;have:=h x hx.2;have:=hx.1;omega
  have h2:l.length<=(l.erase ((m:Int) - 3)).length+1:=by
   rw[List.length_erase];split <;> omega
  omega
theorem avv{qq:LL9}(h:Hs qq){a:Int}(ha:0<=a/\a < (qq.length:Int)){ns:List Int}(hn:ns.Nodup)(hr:∀x∈ns,Rch qq a x):ns.length<=13:=by
 have:=af5 (qq.length+3) ns hn fun x hx=>by have:=Rch.range h ha (hr x hx);omega
 have:=h.most;omega
theorem aoc{qq:LL9}{a:Int}{ns:List Int}(h0:a∈ns)(hc:∀x∈ns,0<=x->∀d∈dr qq x,d∈ns){x:Int}(r:Rch qq a x):x∈ns:=by
 induction r with
 | base=>exact h0
 | step r h0 hd ih=>exact hc _ ih h0 _ hd
theorem alg{qq:LL9}{a:Int}{ns:List Int}(h0:a∈ns)(hc:∀x∈ns,∀d∈dr qq x,0<=d->d∈ns){x:Int}(r:Rch qq a x)(hx:0<=x):x∈ns:=by
 induction r with
 | base=>exact h0
 | step r h0 hd ih=>exact hc _ (ih h0) _ hd hx
theorem a0s{ns:List Int}{i:Nat}(h:i < ns.length):atI (ns.map D.int) (i:Int)=some (.int ns[i]):=ac1 (by simp[List.getElem?_eq_getElem h])
def Sh(qq:LL9):Prop:=∀r∈qq,∀x∈r,0<=x
theorem HouseOk.hs{m w:Int}{qq:LL9}(h:HouseOk m w qq)(hm:m<=10)(hw:w<=6):Hs qq :=
 ⟨h.one,by have:=h.most;omega,fun r hr=>by obtain⟨a,b,c⟩:=h.room r hr;exact⟨a,by omega,fun x hx=>by have:=c x hx;omega⟩⟩
theorem HouseOk.sh{m w:Int}{qq:LL9}(h:HouseOk m w qq):Sh qq:=fun r hr x hx=>((h.room r hr).2.2 x hx).1
@[simp] theorem auu(d:D):ql [.val d]=some (.ok (.v (.bl (afl d))),[.val d]):=by
 cases d <;> simp[ql,aez,isTy,afl]
open Classical in
noncomputable def caught(qq:LL9)(a:Int):Bool:=decide (∀x,Rch qq a x->0<=x)
theorem ahu(qq:LL9)(a:Int):caught qq a=true↔∀x,Rch qq a x->0<=x:=by
 unfold caught;exact @decide_eq_true_iff _ (Classical.propDecidable _)
def upto(n:Nat):List Int:=(List.range n).map fun i=>((i:Nat):Int)
theorem alh(n:Nat):qw 0 n=(upto n).map D.int:=by
 unfold qw upto;rw[List.map_map];apply List.map_congr_left;intro i _;simp
theorem ais{n:Nat}{x:Int}(h:x∈upto n):0<=x/\x < (n:Int):=by
 obtain⟨i,hi,rfl⟩:=List.mem_map.mp h;have:=List.mem_range.mp hi;omega
noncomputable def ace(qq:LL9):List Int:=(upto qq.length).filter (caught qq)
theorem ala{qq:LL9}(h:Hs qq):(qq.length:Int).natAbs < 4611686018427387904:=by have:=h.most;omega
theorem apc{qq:LL9}(h:Hs qq):aak [.int (qq.length:Int)]=some (qw 0 qq.length):=by
 rw[al7,if_pos (ala h),Int.toNat_natCast]
theorem az0{qq:LL9}(h:Hs qq):∃L:Int,((hDs qq).length:Int)=L/\aak [.int L]=some (qw 0 qq.length) :=
 ⟨_,rfl,by rw[show(hDs qq).length=qq.length by simp[hDs]];exact apc h⟩
theorem as6{src:List (Option Nat)}{mi:M (List D)}{b:D->Ro->Option Ro}{mc:M Bool}{me:M D}{ρ ρ1 ps:Ro}{l ys:List D}(e:mi ρ=some (.ok l,ρ1))(hj:okJs ρ1 src=true)(ec:compD b mc me l [] (lend ρ1 src (src.map fun _=>none))=some (.ok ys,ps))(hc:ys.length<=capS) :
  adp src mi b mc me ρ=some (.ok (.fr ys),putB ρ1 src ps):=by
 rw[as7,axq,e];dsimp only;rw[if_pos hj,ec];dsimp only;rw[if_pos hc]
theorem acr(qq:LL9):(hDs qq).length=qq.length:=by simp[hDs]
theorem al4{qq:LL9}{i:Nat}{d:D}(h:(hDs qq)[i]? = some d):∃r,qq[i]? = some r/\d=.tup (r.map D.int):=by
 unfold hDs at h;rw[List.getElem?_map] at h;obtain⟨r,e,rfl⟩:=Option.map_eq_some_iff.mp h;exact⟨r,e,rfl⟩
structure Arr (qq:LL9) (as:List Int):Prop where
 len:as.length=qq.length
 ok:∀(i:Nat) (a:Int) (r:List Int),as[i]? = some a->qq[i]? = some r->0<=a/\a < (r.length:Int)
def ar(as:List Int)(x:Int):Int:=as.getD x.toNat 0
theorem Arr.at{qq:LL9}{as:List Int}(h:Arr qq as){x:Int}(h0:0<=x)(h1:x < (qq.length:Int)):0<=ar as x/\ar as x < ((dr qq x).length:Int):=by
 have hk:x.toNat < qq.length:=by omega
 have hk2:x.toNat < as.length:=by rw[h.len];exact hk
 have:=h.ok x.toNat as[x.toNat] qq[x.toNat] (List.getElem?_eq_getElem hk2) (List.getElem?_eq_getElem hk)
 simpa[ar,dr,hk,hk2] using this
theorem amf(P:Int×Int){qq:LL9}(h:Hs qq):∃as P',f__law_arrows [.own (some 0) (pen P),.val (hD qq)]=some (.ok (.v (.tup (as.map D.int))),[.own (some 0) (pen P'),.val (hD qq)])/\Arr qq as:=by
 have comp:=abn (b:=jo 0) (mc:=ret true) (me:=yo) (fun j ys ρ=>∃ns P o,ρ=[o,.own (some 1) (pen P)]/\ys=ns.map D.int/\ns.length=j/\∀(i:Nat) (a:Int) (r:List Int),ns[i]? = some a->qq[i]? = some r->0<=a/\a < (r.length:Int))
  (l:=hDs qq) (ys:=[]) (ρ:=[.emp,.own (some 1) (pen P)]) 0 ⟨[],P,.emp,rfl,rfl,rfl,by simp⟩ ?_
 ·obtain⟨ys,ρ',e6,ns,P6,o,rfl,rfl,hn,hx⟩:=comp;rw[acr,Nat.zero_add] at hn;have hc:ns.length<=capS:=gr (by have:=h.most;omega)
  exact⟨ns,P6,by simp[f__law_arrows,ady,hD,e6,hc],hn,hx⟩
 ·rintro j d ys ρ hd ⟨ns,P6,o,rfl,rfl,hn,hx⟩
  obtain⟨r,hr,rfl⟩:=al4 hd;obtain⟨k1,k2,k3⟩:=h.room r (List.mem_of_getElem? hr);obtain⟨r7,P7,e7,r7a,r7b⟩:=jw P6 (r.length:Int) (by omega) (by omega)
  refine⟨_,_,true,rfl,rfl,.inr ⟨rfl,.int r7,[.val (.tup (r.map D.int)),.own (some 1) (pen P7)],by simp[yo,e7],ns++[r7],P7,_,rfl,by simp,by simp[hn],fun i a q ha hq =>?_⟩⟩
  rcases Nat.lt_or_ge i ns.length with z | z
  ·rw[List.getElem?_append_left z] at ha;exact hx i a q ha hq
  ·have hi:i=ns.length:=by
    have:=(List.getElem?_eq_some_iff.mp ha).1;simp at this;omega
   subst hi;simp at ha;subst ha;have:ns.length=j:=by omega
   rw[this,hr] at hq;cases hq;exact⟨r7a,r7b⟩
def gone(qq:LL9)(as:List Int)(k:Int):List Int:=as.set k.toNat ((ar as k+1) % ((dr qq k).length:Int))
def led(qq:LL9)(as:List Int)(k:Int):Int:=(dr qq k).getD (ar as k).toNat 0
section
variable{qq:LL9}(h:Hs qq){as:List Int}(ha:Arr qq as){k:Int}(h0:0<=k)(h1:k < (qq.length:Int))
include h ha h0 h1
theorem aja:atI (as.map D.int) k=some (.int (ar as k)):=ab2 h0 (by rw[ha.len];exact h1)
theorem axs:atI ((dr qq k).map D.int) (ar as k)=some (.int (led qq as k)):=ab2 (ha.at h0 h1).1 (ha.at h0 h1).2
theorem akm(x:Int):fMod x ((dr qq k).length:Int)=some (x % ((dr qq k).length:Int)):=by
 have:=(h.dr h0 h1).1;unfold fMod;rw[if_pos (by omega)]
theorem aws:ug [.val (hD qq),.val (.tup (as.map D.int)),.val (.int k)]=some (.ok (.v (.tup [.tup ((gone qq as k).map D.int),.int (led qq as k)])),[.val (hD qq),.val (.tup (as.map D.int)),.val (.int k)]):=by
 have e1:=ai9 h0 h1;have e2:=aja h ha h0 h1;have e3:=axs h ha h0 h1;have e4:=akm h ha h0 h1 (ar as k+1);have e5:ixN as.length k=some k.toNat:=awx h0 (by rw[ha.len];exact h1)
 have e6:as.length<=capS:=gr (by have:=h.most;rw[ha.len];omega)
 simp[ug,agi,hD,e1,e2,e3,e4,e5,e6,gone]
end
section
variable{qq:LL9}(h:Hs qq){as:List Int}(ha:Arr qq as){k:Int}(h0:0<=k)(h1:k < (qq.length:Int))
include h ha h0 h1
theorem ai0:Arr qq (gone qq as k):=by
 have hd:=(h.dr h0 h1).1;refine⟨by unfold gone;rw[List.length_set];exact ha.len,fun i a r g1 g2 =>?_⟩
 unfold gone at g1;rw[List.getElem?_set] at g1;split at g1
 ·rename_i hi;subst hi;split at g1
  ·cases g1;have:dr qq k=r:=by simp[dr,g2]
   rw[this] at hd ⊢
   exact⟨Int.emod_nonneg _ (by omega),Int.emod_lt_of_pos _ (by omega)⟩
  ·cases g1
 ·exact ha.ok i a r g1 g2
end
theorem az1{qq:LL9}(h:Hs qq){as:List Int}(ha:Arr qq as){k:Int}(h0:0<=k)(h1:k < (qq.length:Int)) : -3<=led qq as k/\led qq as k < (qq.length:Int):=by
 obtain⟨a1,a2⟩:=ha.at h0 h1;have hk:(ar as k).toNat < (dr qq k).length:=by omega
 have:led qq as k∈dr qq k:=by
  unfold led;simp[hk]
 exact(h.dr h0 h1).2.2 _ this
@[simp] theorem aek(qq:LL9)(d:D):j7 [.val (hD qq),.val d]=some (.ok (.v (.bl (ig 0 ((qq.length:Int) - 1) d))),[.val (hD qq),.val d]):=by
 simp[j7,aat,hD,hDs]
theorem ag0{qq:LL9}{a:Int}(h0:0<=a)(h1:a < (qq.length:Int)):dj [.val (hD qq),.val (.int a)]=some (.ok (.v .non),[.val (hD qq),.val (.int a)]):=by
 have h1:a<=(qq.length:Int) - 1:=by omega
 simp[dj,ph,ig,h0,h1]
theorem ap1:lq [.val (.exn "NoRoom" [])]=some (.ok (.v (.str "room")),[.val (.exn "NoRoom" [])]):=by kernel_rfl
theorem alz:lq [.val (.exn "NoArrows" [])]=some (.ok (.v (.str "arrows")),[.val (.exn "NoArrows" [])]):=by kernel_rfl
theorem awj:("NoRoom" : Str)∈NS:=List.contains_iff_mem.mp (by decide +kernel)
theorem aps:("NoArrows" : Str)∈NS:=List.contains_iff_mem.mp (by decide +kernel)
def tupB(a b:Int):D->Bool
 | .tup l=>decide (a<=(l.length:Int))&&decide ((l.length:Int)<=b)
 | _=>false
theorem adu(d:D)(a b:Int):jz [.val d,.val (.int a),.val (.int b)]=some (.ok (.v (.bl (tupB a b d))),[.val d,.val (.int a),.val (.int b)]):=by
 cases d <;> simp[jz,zq,isTy,tupB]
def arrB(qq:LL9):D->Bool
 | .tup l=>decide (l.length=qq.length)&&(l.zip qq).all fun p=>ig 0 ((p.2.length:Int) - 1) p.1
 | _=>false
theorem aey{qq:LL9}(h:Hs qq)(d:D):qb [.val (hD qq),.val d]=some (.ok (.v (.bl (arrB qq d))),[.val (hD qq),.val d]):=by
 have e1:=adu d (qq.length:Int) (qq.length:Int);have hl3:=acr qq;have hm:=h.most;have no:tupB (qq.length:Int) (qq.length:Int) d=false->arrB qq d=false->qb [.val (hD qq),.val d]=some (.ok (.v (.bl (arrB qq d))),[.val (hD qq),.val d]):=fun q1 q2=>by
  rw[q1] at e1;rw[q2];simp only[hD] at *;simp[qb,acu,hl3,e1]
 cases d with
 | tup l =>
  by_cases hl:l.length=qq.length
  ·have hle:l.length<=(hDs qq).length:=by rw[acr];omega
   have comp:=abn (b:=bTup 2 (ac0 (jo 0) (ac0 (jo 1) bNil))) (mc:=ret true) (me:=abj) (fun j ys ρ=>∃o1 o2,ρ=[o1,o2]/\ys=(((l.zip qq).take j).map fun p=>ig 0 ((p.2.length:Int) - 1) p.1).map D.bl)
    (l:=ac2 l (hDs qq)) (ys:=[]) (ρ:=[.emp,.emp]) 0 ⟨.emp,.emp,rfl,rfl⟩ ?_
   ·obtain⟨ys,ρ',e6,o1,o2,rfl,rfl⟩:=comp;have hz:(ac2 l (hDs qq)).length=(l.zip qq).length:=by rw[ajb hle,List.length_zip];omega
    rw[hz,Nat.zero_add,List.take_length] at e6;have hc:((l.zip qq).map fun p=>ig 0 ((p.2.length:Int) - 1) p.1).length<=capS:=gr (by rw[List.length_map,List.length_zip];omega)
    have hb:=ahv ((l.zip qq).map fun p=>ig 0 ((p.2.length:Int) - 1) p.1)
    have hall:((l.zip qq).map fun p=>ig 0 ((p.2.length:Int) - 1) p.1).all id=(l.zip qq).all fun p=>ig 0 ((p.2.length:Int) - 1) p.1:=by rw[List.all_map];rfl
    have ha:arrB qq (.tup l)=((l.zip qq).map fun p=>ig 0 ((p.2.length:Int) - 1) p.1).all id:=by
     rw[hall];simp only[arrB,hl,decide_true,Bool.true_and]
    rw[ha];have q1:tupB (qq.length:Int) (qq.length:Int) (.tup l)=true:=by simp[tupB,hl]
    rw[q1] at e1;generalize ((l.zip qq).map fun p=>ig 0 ((p.2.length:Int) - 1) p.1)=bs at *
    simp only[hD] at *;simp[qb,acu,hl3,e1,hl,e6,hc,hb]
   ·rintro j d ys ρ hd ⟨o1,o2,rfl,rfl⟩
    obtain⟨d1,d2,g1,g2,rfl⟩:=afi hd;obtain⟨r,hr,rfl⟩:=al4 g2;refine⟨[.val d1,.val (.tup (r.map D.int))],_,true,by simp,rfl,.inr ⟨rfl,.bl (ig 0 ((r.length:Int) - 1) d1),[.val d1,.val (.tup (r.map D.int))],by simp[abj],_,_,rfl,?_⟩⟩
    have hz:(l.zip qq)[0+j]? = some (d1,r):=by rw[Nat.zero_add,List.getElem?_zip_eq_some];exact⟨g1,hr⟩
    rw[List.take_succ,hz];simp
  ·refine no ?_ ?_
   ·show(decide ((qq.length:Int)<=(l.length:Int))&&decide ((l.length:Int)<=(qq.length:Int)))=false;rw[Bool.and_eq_false_iff,decide_eq_false_iff_not,decide_eq_false_iff_not];omega
   ·show(decide (l.length=qq.length)&&_)=false;rw[decide_eq_false hl];rfl
 | _=>exact no rfl rfl
theorem at6{qq:LL9}{as:List Int}(ha:Arr qq as):arrB qq (.tup (as.map D.int))=true:=by
 show(decide ((as.map D.int).length=qq.length)&&_)=true;rw[List.length_map,decide_eq_true ha.len,Bool.true_and,List.all_eq_true]
 rintro⟨d,r⟩ hp
 obtain⟨i,hi,e⟩:=List.mem_iff_getElem.mp hp;have e2:((as.map D.int).zip qq)[i]? = some (d,r):=by rw[List.getElem?_eq_getElem hi,e]
 rw[List.getElem?_zip_eq_some,List.getElem?_map] at e2;obtain⟨e3,e4⟩:=e2;obtain⟨a,ea,rfl⟩:=Option.map_eq_some_iff.mp e3;obtain⟨h0,h1⟩:=ha.ok i a r ea e4;show(decide (0<=a)&&decide (a<=(r.length:Int) - 1))=true;rw[Bool.and_eq_true,decide_eq_true_eq,decide_eq_true_eq];omega
section
variable{qq:LL9}(h:Hs qq){bad:D}(hb:arrB qq bad=false)
include h hb
theorem arl:fc [.val (hD qq),.val bad]=some (.exc ⟨"NoArrows", []⟩,[.val (hD qq),.val bad]):=by
 have e:=aey h bad;rw[hb] at e;generalize hD qq=hh at *;simp[fc,qx,e]
end
section
variable{qq:LL9}(h:Hs qq){as:List Int}(ha:Arr qq as)
include h ha
theorem ahy:fc [.val (hD qq),.val (.tup (as.map D.int))]=some (.ok (.v .non),[.val (hD qq),.val (.tup (as.map D.int))]):=by
 have e:=aey h (.tup (as.map D.int));rw[at6 ha] at e;generalize hD qq=hh at *;simp[fc,qx,e]
end
theorem avt{qq:LL9}{d:D}(hd:ig 0 ((qq.length:Int) - 1) d=false):dj [.val (hD qq),.val d]=some (.exc ⟨"NoRoom", []⟩,[.val (hD qq),.val d]):=by
 have e:=aek qq d;rw[hd] at e;generalize hD qq=hh at *;simp[dj,ph,e]
theorem awg(P:Int×Int):∃d P',f__law_odd [.own (some 0) (pen P)]=some (.ok (.v d),[.own (some 0) (pen P')])/\∀n:Nat,n<=10->ig 0 ((n:Int) - 1) d=false:=by
 obtain⟨r,P',e,h0,h1⟩:=jw P 16 (by decide) (by decide)
 have big:fPow 10 30=some 1000000000000000000000000000000:=by decide +kernel
 have hT:∃d,atI [.non,.bl true,.bl false,.int (-1),.str "1", .str "", .tup [],.lst [],.tup [.int 0],.lst [.int 0],.dct [(Sum.inr "a", .int 1)],.tup [.int 0,.int 1],.int 1000000000000000000000000000000,.tup [.tup [.int 0]],.str "ab", .tup [.tup [.int (-1)],.tup [.int 0,.int 1]]] r=some d/\∀n:Nat,n<=10->ig 0 ((n:Int) - 1) d=false:=by
  have:r=0∨r=1∨r=2∨r=3∨r=4∨r=5∨r=6∨r=7∨r=8∨r=9∨r=10∨r=11∨r=12∨r=13∨r=14∨r=15:=by omega
  have hn:∀i:Int,i < 0∨10<=i->∀n:Nat,n<=10->ig 0 ((n:Int) - 1) (.int i)=false:=fun i hi n hn=>by
   show(decide (0<=i)&&decide (i<=(n:Int) - 1))=false;rw[Bool.and_eq_false_iff,decide_eq_false_iff_not,decide_eq_false_iff_not];omega
  rcases this with rfl | rfl | rfl | rfl | rfl | rfl | rfl | rfl | rfl | rfl | rfl | rfl | rfl | rfl | rfl | rfl
  ·exact⟨_,rfl,fun _ _=>rfl⟩
  ·exact⟨_,rfl,fun _ _=>rfl⟩
  ·exact⟨_,rfl,fun _ _=>rfl⟩
  ·exact⟨_,rfl,hn _ (by decide)⟩
  ·exact⟨_,rfl,fun _ _=>rfl⟩
  ·exact⟨_,rfl,fun _ _=>rfl⟩
  ·exact⟨_,rfl,fun _ _=>rfl⟩
  ·exact⟨_,rfl,fun _ _=>rfl⟩
  ·exact⟨_,rfl,fun _ _=>rfl⟩
  ·exact⟨_,rfl,fun _ _=>rfl⟩
  ·exact⟨_,rfl,fun _ _=>rfl⟩
  ·exact⟨_,rfl,fun _ _=>rfl⟩
  ·exact⟨_,rfl,hn _ (by decide)⟩
  ·exact⟨_,rfl,fun _ _=>rfl⟩
  ·exact⟨_,rfl,fun _ _=>rfl⟩
  ·exact⟨_,rfl,fun _ _=>rfl⟩
 obtain⟨T,eT,t⟩:=hT;have hc:(16:Nat)<=capS:=by decide
 exact⟨T,P',by simp[f__law_odd,ahn,e,big,eT,hc],t⟩
theorem ac5{n:Int}{i:Int}(hi:i < 0∨n<=i):ig 0 (n - 1) (.int i)=false:=by
 show(decide (0<=i)&&decide (i<=n - 1))=false;rw[Bool.and_eq_false_iff,decide_eq_false_iff_not,decide_eq_false_iff_not];omega
theorem aer{qq:LL9}{l:List D}(hl:l.length≠qq.length):arrB qq (.tup l)=false:=by
 show(decide (l.length=qq.length)&&_)=false;rw[decide_eq_false hl];rfl
theorem ak4{qq:LL9}{l:List D}{k:Int}(h0:0<=k)(h1:k < (qq.length:Int)){d:D}(hk:l[k.toNat]? = some d)(hd:ig 0 (((dr qq k).length:Int) - 1) d=false):arrB qq (.tup l)=false:=by
 show(decide (l.length=qq.length)&&_)=false;rw[Bool.and_eq_false_iff]
 right
 rw[<-Bool.not_eq_true,List.all_eq_true];intro hall;have hr:qq[k.toNat]? = some (dr qq k):=by
  unfold dr;rw[List.getD_eq_getElem?_getD,List.getElem?_eq_getElem (by omega)]
  rfl
 have hz:(l.zip qq)[k.toNat]? = some (d,dr qq k):=by rw[List.getElem?_zip_eq_some];exact⟨hk,hr⟩
 have:=hall _ (List.mem_of_getElem? hz);simp only at this;rw[hd] at this;exact Bool.noConfusion this
section
variable{qq:LL9}(h:Hs qq){as:List Int}(ha:Arr qq as)
include h ha
theorem ag5(P:Int×Int):∃bad P',f__law_no_arrows [.own (some 0) (pen P),.val (hD qq),.val (.tup (as.map D.int))]=some (.ok (.v bad),[.own (some 0) (pen P'),.val (hD qq),.val (.tup (as.map D.int))])/\arrB qq bad=false:=by
 have hm:=h.most;have h1':=h.one;have hl:=ha.len;obtain⟨k,P1,e1,k0,k1⟩:=jw P (qq.length:Int) (by omega) (by omega)
 obtain⟨r2,P2,e2,r2a,r2b⟩:=jw P1 7 (by decide) (by decide)
 obtain⟨r3,P3,e3,r3a,r3b⟩:=jw P2 8 (by decide) (by decide)
 have a1:=ai9 k0 k1;have a2:=aja h ha k0 k1;obtain⟨w1,w2,w3⟩:=h.dr k0 k1;have ho:∃odd,atI [.int ((dr qq k).length:Int),.int (-1),.bl true,.non,.str "0", .tup [.int (ar as k)],.int (((dr qq k).length:Int)+7)] r2=some odd/\ig 0 (((dr qq k).length:Int) - 1) odd=false:=by
  have:r2=0∨r2=1∨r2=2∨r2=3∨r2=4∨r2=5∨r2=6:=by omega
  rcases this with rfl | rfl | rfl | rfl | rfl | rfl | rfl
  ·exact⟨_,rfl,ac5 (by omega)⟩
  ·exact⟨_,rfl,ac5 (by omega)⟩
  ·exact⟨_,rfl,rfl⟩
  ·exact⟨_,rfl,rfl⟩
  ·exact⟨_,rfl,rfl⟩
  ·exact⟨_,rfl,rfl⟩
  ·exact⟨_,rfl,ac5 (by omega)⟩
 obtain⟨odd,eo,hodd⟩:=ho;have c1:=axk (ns:=as.map D.int) k0 (by rw[List.length_map];omega)
 have c2:=agr (ns:=as.map D.int) (k:=k+1) (by omega) (by rw[List.length_map];omega)
 have c3:=agr (ns:=as.map D.int) (k:=1) (by omega) (by rw[List.length_map];omega)
 have l1:((as.map D.int).take k.toNat).length=k.toNat:=by rw[List.length_take,List.length_map];omega
 have l2:((as.map D.int).drop (k+1).toNat).length<=10:=by rw[List.length_drop,List.length_map];omega
 have l3:((as.map D.int).drop (1:Int).toNat).length=qq.length - 1:=by rw[List.length_drop,List.length_map];omega
 have l0:(as.map D.int).length=qq.length:=by rw[List.length_map];omega
 generalize (as.map D.int).take k.toNat=ta at c1 l1;generalize (as.map D.int).drop (k+1).toNat=td at c2 l2;generalize (as.map D.int).drop (1:Int).toNat=tf at c3 l3;have hT:∃bad,atI [.tup (as.map D.int++[.int 0]),.tup tf,.lst (as.map D.int),.tup [.tup (as.map D.int)],.non,.tup (ta++odd::td),.str "", .dct []] r3=some bad/\arrB qq bad=false:=by
  have:r3=0∨r3=1∨r3=2∨r3=3∨r3=4∨r3=5∨r3=6∨r3=7:=by omega
  rcases this with rfl | rfl | rfl | rfl | rfl | rfl | rfl | rfl
  ·exact⟨_,rfl,aer (by rw[List.length_append];simp only[List.length_cons,List.length_nil];omega)⟩
  ·exact⟨_,rfl,aer (by omega)⟩
  ·exact⟨_,rfl,rfl⟩
  ·refine⟨_,rfl,?_⟩
   by_cases z:qq.length=1
   ·exact ak4 (k:=0) (by decide) (by omega) (d:=.tup (as.map D.int)) rfl rfl
   ·exact aer (by simp only[List.length_cons,List.length_nil];omega)
  ·exact⟨_,rfl,rfl⟩
  ·exact⟨_,rfl,ak4 k0 k1 (d:=odd) (by rw[List.getElem?_append_right (by omega),l1,Nat.sub_self];rfl) hodd⟩
  ·exact⟨_,rfl,rfl⟩
  ·exact⟨_,rfl,rfl⟩
 obtain⟨bad,eb,hb⟩:=hT;have q1:ta.length+1<=capS:=gr (by omega)
 have q2:ta.length+1+td.length<=capS:=gr (by omega)
 have q3:(as.map D.int).length+1<=capS:=gr (by omega)
 have q4:(as.map D.int).length<=capS:=gr (by omega)
 have hw:(dr qq k).length < 4611686018427387904:=by omega
 have hl3:=acr qq;refine⟨bad,P3,?_,hb⟩;generalize as.map D.int=la at *;simp only[hD] at *;generalize hDs qq=hh at *;have e1':f__law_draw [.own (some 0) (pen P),.val (.int (hh.length:Int))]=some (.ok (.v (.int k)),[.own (some 0) (pen P1),.val (.int (hh.length:Int))]):=by rw[hl3];exact e1
 simp[f__law_no_arrows,aau,e1',a1,a2,e2,eo,e3,c1,c2,c3,q1,q2,q3,q4,eb]
end
theorem aj4(P:Int×Int){qq:LL9}(h:Hs qq):∃d P',f__law_no_room [.own (some 0) (pen P),.val (hD qq)]=some (.ok (.v d),[.own (some 0) (pen P'),.val (hD qq)])/\ig 0 ((qq.length:Int) - 1) d=false:=by
 have hm:=h.most;obtain⟨r1,P1,e1,r1a,r1b⟩:=jw P 1000000 (by decide) (by decide)
 obtain⟨r2,P2,e2,r2a,r2b⟩:=jw P1 99 (by decide) (by decide)
 obtain⟨d3,P3,e3,h3⟩:=awg P2;obtain⟨r4,P4,e4,r4a,r4b⟩:=jw P3 6 (by decide) (by decide)
 obtain⟨r5,P5,e5,r5a,r5b⟩:=jw P4 2 (by decide) (by decide)
 have p1:fPow 10 6=some 1000000:=by decide +kernel
 have p2:fPow 10 59=some 100000000000000000000000000000000000000000000000000000000000:=by decide +kernel
 have hf:∃far,atI [.int (qq.length:Int),.int ((qq.length:Int)+1+r1),.int (-1),.int (-2),.int 100000000000000000000000000000000000000000000000000000000000,.int (-1 - r2)] r4=some far/\ig 0 ((qq.length:Int) - 1) far=false:=by
  have:r4=0∨r4=1∨r4=2∨r4=3∨r4=4∨r4=5:=by omega
  rcases this with rfl | rfl | rfl | rfl | rfl | rfl <;> exact⟨_,rfl,ac5 (by omega)⟩
 obtain⟨far,ef,hf⟩:=hf;have hT:∃d,atI [d3,far] r5=some d/\ig 0 ((qq.length:Int) - 1) d=false:=by
  have:r5=0∨r5=1:=by omega
  rcases this with rfl | rfl
  ·exact⟨_,rfl,h3 _ hm⟩
  ·exact⟨_,rfl,hf⟩
 obtain⟨d,ed,hd⟩:=hT;have hl3:=acr qq;have hw:qq.length < 4611686018427387904:=by omega
 refine⟨d,P5,?_,hd⟩;rw[<-hl3] at ef hw;simp only[hD] at *;generalize hDs qq=hh at *;have s1:fSub (-1) r2=some (-1 - r2):=by simp
 simp[f__law_no_room,acb,p1,p2,e1,e2,e3,e4,e5,ef,ed,hw,s1]
section
variable{qq:LL9}(h:Hs qq)
include h
theorem avn{bad:D}(hb:arrB qq bad=false)(d:D):dq [.val (hD qq),.val bad,.val d]=some (.exc ⟨"NoArrows", []⟩,[.val (hD qq),.val bad,.val d]):=by
 have e:=arl h hb;generalize hD qq=hh at *;simp[dq,my,e]
theorem avm{as:List Int}(ha:Arr qq as){d:D}(hd:ig 0 ((qq.length:Int) - 1) d=false):dq [.val (hD qq),.val (.tup (as.map D.int)),.val d]=some (.exc ⟨"NoRoom", []⟩,[.val (hD qq),.val (.tup (as.map D.int)),.val d]):=by
 have e1:=ahy h ha;have e2:=avt hd;generalize hD qq=hh at *;simp[dq,my,e1,e2]
end
section
variable{qq:LL9}(h:Hs qq){as:List Int}(ha:Arr qq as){k:Int}(h0:0<=k)(h1:k < (qq.length:Int))
include h ha h0 h1
theorem aml:dq [.val (hD qq),.val (.tup (as.map D.int)),.val (.int k)]=some (.ok (.v .non),[.val (hD qq),.val (.tup (as.map D.int)),.val (.int k)]):=by
 have r1:=ahy h ha;have r2:=ag0 h0 h1;generalize hD qq=hh at *;simp[dq,my,r1,r2]
end
def wd(qq:LL9)(k:Int):Int:=((dr qq k).length:Int)
def ab6(qq:LL9)(as:List Int)(k:Int):Int:=(dr qq k).getD ((ar as k - 1) % wd qq k).toNat 0
theorem axr{r:List Int}{a:Int}(h0:0<=a)(h1:a < (r.length:Int)):atI (r.map D.int) (a - 1)=some (.int (r.getD ((a - 1) % (r.length:Int)).toNat 0)):=by
 by_cases z:1<=a
 ·rw[Int.emod_eq_of_lt (by omega) (by omega)]
  exact ab2 (by omega) (by omega)
 ·have:a=0:=by omega
  subst this;have e:((0:Int) - 1) % (r.length:Int)=(r.length:Int) - 1:=by
   have:=Int.add_emod_right ((0:Int) - 1) (r.length:Int);rw[<-this,Int.emod_eq_of_lt (by omega) (by omega)]
   omega
  rw[e];have hn:((r.length:Int) - 1).toNat=r.length - 1:=by omega
  rw[hn];have hl:r.length - 1 < r.length:=by omega
  have h3:ixN (r.map D.int).length (0 - 1)=some (r.length - 1):=by
   unfold ixN;rw[List.length_map];have a1:¬(0<=(0:Int) - 1):=by omega
   have a2 : -(r.length:Int)<=(0:Int) - 1:=by omega
   simp[a2];omega
  unfold atI;rw[h3];simp[List.getElem?_eq_getElem hl]
def lasts(qq:LL9)(as:List Int):List Int:=(List.range qq.length).map fun(i:Nat)=>ab6 qq as (i:Int)
theorem jt(qq:LL9)(as:List Int):(lasts qq as).length=qq.length:=by unfold lasts;rw[List.length_map,List.length_range]
theorem aom(qq:LL9)(as:List Int)(j:Nat):((List.range (j+1)).map fun(i:Nat)=>ab6 qq as (i:Int))=((List.range j).map fun(i:Nat)=>ab6 qq as (i:Int))++[ab6 qq as (j:Int)]:=by
 rw[List.range_succ,List.map_append];rfl
section
variable{qq:LL9}(h:Hs qq){as:List Int}(ha:Arr qq as)
include h ha
theorem aex:uf [.val (hD qq),.val (.tup (as.map D.int))]=some (.ok (.v (.tup ((lasts qq as).map D.int))),[.val (hD qq),.val (.tup (as.map D.int))]):=by
 have hl:=ha.len;have hm:=h.most;have hle:(as.map D.int).length<=(hDs qq).length:=by rw[acr,List.length_map];omega
 have comp:=abn (b:=bTup 2 (ac0 (jo 0) (ac0 (jo 1) bNil))) (mc:=ret true) (me:=abi) (fun j ys ρ=>∃(o1 o2:Sl),ρ=[o1,o2]/\ys=((List.range j).map fun(i:Nat)=>ab6 qq as (i:Int)).map D.int)
  (l:=ac2 (as.map D.int) (hDs qq)) (ys:=[]) (ρ:=[.emp,.emp]) 0 ⟨.emp,.emp,rfl,rfl⟩ ?_
 ·obtain⟨ys,ρ',e6,o1,o2,rfl,rfl⟩:=comp;rw[ajb hle,List.length_map,Nat.zero_add,hl] at e6;have hc:((lasts qq as).map D.int).length<=capS:=by rw[List.length_map,jt];exact gr (by omega)
  have hle2:as.length<=(hDs qq).length:=by simpa using hle
  change compD _ _ _ _ _ _=some (.ok ((lasts qq as).map D.int),_) at e6
  generalize (lasts qq as).map D.int=ld at *;simp only[hD];simp[uf,agf,hle2,e6,hc]
 ·rintro j d ys ρ hd ⟨o1,o2,rfl,rfl⟩
  obtain⟨d1,d2,g1,g2,rfl⟩:=afi hd;obtain⟨r,hr,rfl⟩:=al4 g2;rw[List.getElem?_map] at g1;obtain⟨a,ea,rfl⟩:=Option.map_eq_some_iff.mp g1;obtain⟨b0,b1⟩:=ha.ok j a r ea hr;have er:dr qq (j:Int)=r:=by unfold dr;rw[List.getD_eq_getElem?_getD,Int.toNat_natCast,hr];rfl
  have e3:ar as (j:Int)=a:=by unfold ar;rw[List.getD_eq_getElem?_getD,Int.toNat_natCast,ea];rfl
  have e4:=axr b0 b1;have e5:ab6 qq as ((0+j:Nat):Int)=r.getD ((a - 1) % (r.length:Int)).toNat 0:=by rw[Nat.zero_add];unfold ab6 wd;rw[er,e3]
  refine⟨[.val (.int a),.val (.tup (r.map D.int))],_,true,by simp,rfl,.inr ⟨rfl,.int (r.getD ((a - 1) % (r.length:Int)).toNat 0),[.val (.int a),.val (.tup (r.map D.int))],by simp[abi,e4],_,_,rfl,?_⟩⟩
  rw[aom,List.map_append,e5];rfl
end
def lp(L:List Int):LL9:=L.map fun y=>[y]
theorem ahf(L:List Int):(lp L).length=L.length:=List.length_map ..
theorem a0l{L:List Int}{x:Int}(h0:0<=x)(h1:x < (L.length:Int)):dr (lp L) x=[L.getD x.toNat 0]:=by
 have hk:x.toNat < L.length:=by omega
 simp[dr,lp,hk]
structure Ways (L:List Int):Prop where
 one:1<=L.length
 most:L.length<=10
 ok:∀y∈L,-3<=y/\y < (L.length:Int)
theorem Ways.hs{L:List Int}(w:Ways L):Hs (lp L):=⟨by rw[ahf];exact w.one,by rw[ahf];exact w.most,fun r hr=>by
 obtain⟨y,hy,rfl⟩:=List.mem_map.mp hr;rw[ahf];exact⟨by simp,by simp,fun x hx=>by rw[List.mem_singleton] at hx;rw[hx];exact w.ok _ hy⟩⟩
theorem aej{qq:LL9}(h:Hs qq){as:List Int}(ha:Arr qq as):Ways (lasts qq as):=⟨by rw[jt];exact h.one,by rw[jt];exact h.most,fun y hy=>by
 rw[jt];unfold lasts at hy;obtain⟨i,hi,rfl⟩:=List.mem_map.mp hy;have hi:=List.mem_range.mp hi;obtain⟨a1,a2,a3⟩:=h.dr (x:=(i:Int)) (by omega) (by omega)
 refine a3 _ ?_;unfold ab6;have w0:0 < wd qq (i:Int):=by unfold wd;omega
 have b0:=Int.emod_nonneg (ar as (i:Int) - 1) (show wd qq (i:Int)≠0 by omega)
 have b1:=Int.emod_lt_of_pos (ar as (i:Int) - 1) w0;have hk:((ar as (i:Int) - 1) % wd qq (i:Int)).toNat < (dr qq (i:Int)).length:=by unfold wd at *;omega
 rw[List.getD_eq_getElem?_getD,List.getElem?_eq_getElem hk];exact List.getElem_mem hk⟩
theorem ahe:∀(m:Nat) (l:List Int),l.Nodup->(∀x∈l,0<=x/\x < (m:Int))->l.length<=m
 | 0,l,_,h=>by
  cases l with
  | nil=>simp
  | cons x r=>have:=h x (List.mem_cons_self ..);omega
 | m+1,l,hn,h=>by
  have h1:(l.erase (m:Int)).length<=m:=ahe m _ (hn.erase _) fun x hx=>by
   rw[hn.mem_erase_iff] at hx;have:=h x hx.2;have:=hx.1;omega
  have h2:l.length<=(l.erase (m:Int)).length+1:=by
   rw[List.length_erase];split <;> omega
  omega
theorem pig(f:Nat->Int)(n:Nat)(hf:∀i,i<=n->0<=f i/\f i < (n:Int)):∃i j,i < j/\j<=n/\f i=f j:=by
 apply Classical.byContradiction;intro H;have hn:((List.range (n+1)).map f).Nodup:=by
  rw[List.Nodup,List.pairwise_map];refine List.Pairwise.imp_of_mem (fun{a b} ha hb hlt e=>H ⟨a,b,hlt,?_,e⟩) List.pairwise_lt_range
  have:=List.mem_range.mp hb;omega
 have:=ahe n _ hn fun x hx=>by
  obtain⟨i,hi,rfl⟩:=List.mem_map.mp hx;have:=List.mem_range.mp hi;exact hf i (by omega)
 rw[List.length_map,List.length_range] at this;omega
theorem least{P:Nat->Prop}:∀n,P n->∃m,P m/\∀i < m,¬P i:=fun n=>by
 induction n using Nat.strongRecOn with
 | _ n ih =>
  intro hn
  by_cases q:∃i,i < n/\P i
  ·obtain⟨i,hi,hp⟩:=q;exact ih i hi hp
  ·exact⟨n,hn,fun i hi hp=>q ⟨i,hi,hp⟩⟩
def nxt(L:List Int)(p:Int):Int:=if 0<=p then L.getD p.toNat 0 else p
def itr(L:List Int)(p:Int):Nat->Int
 | 0=>p
 | t+1=>itr L (nxt L p) t
theorem kh(L:List Int):∀(s t:Nat) (p:Int),itr L p (s+t)=itr L (itr L p s) t
 | 0,t,p=>by rw[Nat.zero_add];rfl
 | s+1,t,p=>by
  rw[show s+1+t=(s+t)+1 by omega]
  exact kh L s t (nxt L p)
theorem azl{L:List Int}(w:Ways L){p:Int}(hp:p < (L.length:Int)):nxt L p < (L.length:Int):=by
 unfold nxt;split
 ·rename_i h0;have hk:p.toNat < L.length:=by omega
  rw[List.getD_eq_getElem?_getD,List.getElem?_eq_getElem hk];exact(w.ok _ (List.getElem_mem hk)).2
 ·exact hp
theorem ap4{L:List Int}(w:Ways L):∀(t:Nat) {p:Int},p < (L.length:Int)->itr L p t < (L.length:Int)
 | 0,_,h=>h
 | t+1,_,h=>ap4 w t (azl w h)
theorem abr{qq:LL9}{bs:List Int}{p:Int}(hp:p.toNat < bs.length):ar (gone qq bs p) p=(ar bs p+1) % ((dr qq p).length:Int):=by
 unfold gone;generalize (ar bs p+1) % ((dr qq p).length:Int)=z;unfold ar;simp[hp]
theorem ahz{qq:LL9}{bs:List Int}{p x:Int}(hx:0<=x)(hp:0<=p)(hne:x≠p):ar (gone qq bs p) x=ar bs x:=by
 have:p.toNat≠x.toNat:=by omega
 unfold gone;generalize (ar bs p+1) % ((dr qq p).length:Int)=z;unfold ar;simp[List.getD_eq_getElem?_getD,List.getElem?_set,this]
def run(qq:LL9)(as:List Int)(k:Int):Nat->List Int×Int
 | 0=>(as,k)
 | n+1=>(gone qq (run qq as k n).1 (run qq as k n).2,led qq (run qq as k n).1 (run qq as k n).2)
section
variable{qq:LL9}(h:Hs qq){as:List Int}(ha:Arr qq as){k:Int}(h0:0<=k)(h1:k < (qq.length:Int))
include h ha h0 h1
end
theorem am0{a w:Int}(h0:0<=a)(h1:a < w):((a+1) % w - 1) % w=a:=by
 rcases Int.lt_or_le (a+1) w with q | q
 ·rw[Int.emod_eq_of_lt (by omega) q,show a+1 - 1=a by omega,Int.emod_eq_of_lt h0 h1]
 ·have e0:a+1=w:=by omega
  have e:=Int.add_emod_right (-1) w;rw[e0,Int.emod_self,show(0:Int) - 1 = -1 by omega,<-e,Int.emod_eq_of_lt (by omega) (by omega)]
  omega
theorem af7{qq:LL9}{as:List Int}{i:Nat}(hi:i < qq.length):(lasts qq as)[i]? = some (ab6 qq as (i:Int)):=by
 unfold lasts;rw[List.getElem?_map,List.getElem?_range hi];rfl
section
variable{qq:LL9}(h:Hs qq){bs:List Int}(hb:Arr qq bs){p:Int}(p0:0<=p)(p1:p < (qq.length:Int))
include h hb p0 p1
theorem aon:ab6 qq (gone qq bs p) p=led qq bs p:=by
 have a:=hb.at p0 p1;have hl:=hb.len;unfold ab6 wd led;rw[abr (by omega),am0 a.1 a.2]
theorem zg:lasts qq (gone qq bs p)=(lasts qq bs).set p.toNat (led qq bs p):=by
 apply List.ext_getElem?;intro i
 by_cases hi:i < qq.length
 ·rw[af7 hi,List.getElem?_set]
  by_cases q:p.toNat=i
  ·rw[if_pos q,if_pos (by rw[jt];omega)]
   have:((i:Nat):Int)=p:=by omega
   rw[this,aon h hb p0 p1]
  ·rw[if_neg q,af7 hi];unfold ab6;rw[ahz (by omega) p0 (by omega)]
 ·rw[List.getElem?_eq_none (by rw[jt];omega),List.getElem?_eq_none (by rw[List.length_set,jt];omega)]
theorem aeq:(ar (gone qq bs p) p - 1) % ((dr qq p).length:Int)=ar bs p:=by
 have a:=hb.at p0 p1;have hl:=hb.len;rw[abr (by omega)]
 exact am0 a.1 a.2
theorem agd:(gone qq bs p).set p.toNat (ar bs p)=bs:=by
 have hl:=hb.len;unfold gone;rw[List.set_set];apply List.ext_getElem?;intro i;rw[List.getElem?_set]
 by_cases q:p.toNat=i
 ·have hk:i < bs.length:=by omega
  rw[if_pos q,if_pos (by omega),List.getElem?_eq_getElem hk]
  unfold ar;rw[q,List.getD_eq_getElem?_getD,List.getElem?_eq_getElem hk];rfl
 ·rw[if_neg q]
end
def code:List Int->Int
 | []=>0
 | a::r=>a+6*code r
theorem aqu:∀{l:List Int},(∀a∈l,0<=a/\a < 6)->0<=code l/\code l < ((6 ^ l.length:Nat):Int)
 | [],_=>⟨Int.le_refl 0,by show(0:Int) < ((6 ^ 0:Nat):Int);decide⟩
 | a::r,h=>by
  obtain⟨h1,h2⟩:=aqu (l:=r) fun x hx=>h x (List.mem_cons_of_mem _ hx)
  have h3:=h a (List.mem_cons_self ..);have e:6 ^ (a::r).length=6*6 ^ r.length:=by rw[List.length_cons,Nat.pow_succ,Nat.mul_comm]
  rw[e];show 0<=a+6*code r/\a+6*code r < _;generalize 6 ^ r.length=q at *;constructor <;> omega
theorem code_inj:∀{l m:List Int},l.length=m.length->(∀a∈l,0<=a/\a < 6)->(∀a∈m,0<=a/\a < 6)->code l=code m->l=m
 | [],[],_,_,_,_=>rfl
 | [],_::_,h,_,_,_=>by simp at h
 | _::_,[],h,_,_,_=>by simp at h
 | a::r,b::t,h,h1,h2,e=>by
  have a1:=h1 a (List.mem_cons_self ..);have b1:=h2 b (List.mem_cons_self ..);have e:a+6*code r=b+6*code t:=e;have hab:a=b:=by omega
  have hr:code r=code t:=by omega
  rw[hab,code_inj (by simpa using h) (fun x hx=>h1 x (List.mem_cons_of_mem _ hx)) (fun x hx=>h2 x (List.mem_cons_of_mem _ hx)) hr]
theorem amg{qq:LL9}(h:Hs qq){bs:List Int}(hb:Arr qq bs):∀a∈bs,0<=a/\a < 6:=fun a ha=>by
 obtain⟨i,hi,rfl⟩:=List.mem_iff_getElem.mp ha;have hr:i < qq.length:=by rw[<-hb.len];exact hi
 have h1:=hb.ok i bs[i] qq[i] (List.getElem?_eq_getElem hi) (List.getElem?_eq_getElem hr);have h2:=(h.room qq[i] (List.getElem_mem hr)).2.1;omega
theorem adg(qq:LL9)(as:List Int)(k:Int){i j:Nat}(e:run qq as k i=run qq as k j):∀m,run qq as k (i+m)=run qq as k (j+m)
 | 0=>e
 | m+1=>by
  have ih:=adg qq as k e m;show(gone qq (run qq as k (i+m)).1 (run qq as k (i+m)).2,led qq (run qq as k (i+m)).1 (run qq as k (i+m)).2)=(gone qq (run qq as k (j+m)).1 (run qq as k (j+m)).2,led qq (run qq as k (j+m)).1 (run qq as k (j+m)).2);rw[ih]
theorem ag9{qq:LL9}(h:Hs qq)(f:Nat->List Int×Int)(hf:∀i,i<=10*6 ^ qq.length->Arr qq (f i).1/\0<=(f i).2/\(f i).2 < (qq.length:Int)):∃i j,i < j/\j<=10*6 ^ qq.length/\f i=f j:=by
 have hm:=h.most;have cd:∀i,i<=10*6 ^ qq.length->0<=code (f i).1/\code (f i).1 < ((6 ^ qq.length:Nat):Int):=fun i hi=>by
  have a:=(hf i hi).1;have:=aqu (amg h a);rw[a.len] at this;exact this
 obtain⟨i,j,hij,hj,e⟩:=pig (fun i=>10*code (f i).1+(f i).2) (10*6 ^ qq.length) fun i hi=>by
  have a:=hf i hi;have b:=cd i hi;generalize 6 ^ qq.length=q6 at *;constructor <;> omega
 have ai:=hf i (by omega)
 have aj:=hf j hj;have e:10*code (f i).1+(f i).2=10*code (f j).1+(f j).2:=e;have e1:(f i).2=(f j).2:=by omega
 have e2:(f i).1=(f j).1:=code_inj (by rw[ai.1.len,aj.1.len]) (amg h ai.1) (amg h aj.1) (by omega)
 exact⟨i,j,hij,hj,Prod.ext e2 e1⟩
theorem Sh.dr{qq:LL9}(s:Sh qq){x:Int}{d:Int}(hd:d∈dr qq x):0<=d:=by
 unfold My.dr at hd;rw[List.getD_eq_getElem?_getD] at hd;cases e:qq[x.toNat]? with
 | none=>rw[e] at hd;cases hd
 | some r =>
  rw[e] at hd;exact s r (List.mem_of_getElem? e) d hd
theorem als{L:List Int}{p d:Int}(p0:0<=p)(p1:p < (L.length:Int))(x:Int):nxt (L.set p.toNat d) x=if x=p then d else nxt L x:=by
 unfold nxt
 by_cases hx:x=p
 ·subst hx;have hk:x.toNat < L.length:=by omega
  rw[if_pos p0,if_pos rfl,List.getD_eq_getElem?_getD,List.getElem?_set];simp[hk]
 ·rw[if_neg hx]
  by_cases h0:0<=x
  ·have:p.toNat≠x.toNat:=by omega
   rw[if_pos h0,if_pos h0,List.getD_eq_getElem?_getD,List.getElem?_set,if_neg this,<-List.getD_eq_getElem?_getD]
  ·rw[if_neg h0,if_neg h0]
theorem aiw(L:List Int)(x:Int)(m:Nat):itr L x (m+1)=nxt L (itr L x m):=kh L m 1 x
theorem aiv{L:List Int}{p d:Int}(p0:0<=p)(p1:p < (L.length:Int)):∀(m:Nat) {x:Int},(∀i,i < m->itr L x i≠p)->itr (L.set p.toNat d) x m=itr L x m
 | 0,_,_=>rfl
 | m+1,x,h=>by
  have h0:x≠p:=h 0 (by omega)
  show itr (L.set p.toNat d) (nxt (L.set p.toNat d) x) m=itr L (nxt L x) m;rw[als p0 p1,if_neg h0];exact aiv p0 p1 m fun i hi=>h (i+1) (by omega)
theorem aj9{L:List Int}{p d x:Int}(p0:0<=p)(p1:p < (L.length:Int))(h:∃m,itr L x m=p):∃m,itr (L.set p.toNat d) x m=d:=by
 obtain⟨m0,e0⟩:=h;obtain⟨m,e,hmin⟩:=least (P:=fun m=>itr L x m=p) m0 e0
 refine⟨m+1,?_⟩;rw[aiw,aiv p0 p1 m hmin,e,als p0 p1,if_pos rfl]
theorem aiu{L:List Int}{p d:Int}(p0:0<=p)(p1:p < (L.length:Int))(h:∃m,itr L d m=p):∃m,itr (L.set p.toNat d) d m=p/\(∀i,i < m->itr (L.set p.toNat d) d i≠p)/\nxt (L.set p.toNat d) p=d:=by
 obtain⟨m0,e0⟩:=h;obtain⟨m,e,hmin⟩:=least (P:=fun m=>itr L d m=p) m0 e0
 refine⟨m,?_,fun i hi =>?_,?_⟩
 ·rw[aiv p0 p1 m hmin];exact e
 ·rw[aiv p0 p1 i fun j hj=>hmin j (by omega)]
  exact hmin i hi
 ·rw[als p0 p1,if_pos rfl]
theorem amq{L:List Int}{d k1 k2:Int}{m1 m2:Nat}(e1:itr L d m1=k1)(n1:nxt L k1=d)(e2:itr L d m2=k2)(h2:∀i,i < m2->itr L d i≠k2):¬m1 < m2:=fun q=>by
 have z:itr L d (m1+1)=d:=by rw[aiw,e1,n1]
 have:itr L d (m2 - (m1+1))=k2:=by
  have y:=kh L (m1+1) (m2 - (m1+1)) d;rw[show m1+1+(m2 - (m1+1))=m2 by omega,z,e2] at y
  exact y.symm
 exact h2 _ (by omega) this
theorem afz{qq:LL9}{a b c:Int}(h1:Rch qq a b)(h2:Rch qq b c):Rch qq a c:=by
 induction h2 with
 | base=>exact h1
 | step r h0 hd ih=>exact .step ih h0 hd
theorem aeh{qq:LL9}{as:List Int}(ha:Arr qq as){k:Int}(h0:0<=k)(h1:k < (qq.length:Int)):led qq as k∈dr qq k:=by
 have a:=ha.at h0 h1;unfold led;have hk:(ar as k).toNat < (dr qq k).length:=by omega
 rw[List.getD_eq_getElem?_getD,List.getElem?_eq_getElem hk];exact List.getElem_mem hk
structure InG (qq:LL9) (as:List Int) (k:Int):Prop where
 back:∀x,Rch qq k x->Rch qq x k
 lead:∀x,Rch qq k x->∃m,itr (lasts qq as) x m=k
section
variable{qq:LL9}(h:Hs qq)(sh:Sh qq)
include h sh
theorem aus{as:List Int}(ha:Arr qq as){k:Int}(h0:0<=k)(h1:k < (qq.length:Int)):0<=led qq as k/\led qq as k < (qq.length:Int) :=
 ⟨sh.dr (aeh ha h0 h1),(az1 h ha h0 h1).2⟩
theorem InG.step{as:List Int}(ha:Arr qq as){k:Int}(h0:0<=k)(h1:k < (qq.length:Int))(g:InG qq as k):InG qq (gone qq as k) (led qq as k):=by
 have rk:Rch qq k (led qq as k):=.step .base h0 (aeh ha h0 h1);refine⟨fun x hx=>afz (g.back x (afz rk hx)) rk,fun x hx =>?_⟩
 rw[zg h ha h0 h1];exact aj9 h0 (by rw[jt];exact h1) (g.lead x (afz rk hx))
theorem arz{as1 as2:List Int}(ha1:Arr qq as1)(ha2:Arr qq as2){k1 k2:Int}(h01:0<=k1)(h11:k1 < (qq.length:Int))(h02:0<=k2)(h12:k2 < (qq.length:Int))(g1:InG qq as1 k1)(g2:InG qq as2 k2)
  (e1:gone qq as1 k1=gone qq as2 k2) (e2:led qq as1 k1=led qq as2 k2):as1=as2/\k1=k2:=by
 have r1:Rch qq k1 (led qq as1 k1):=.step .base h01 (aeh ha1 h01 h11);have r2:Rch qq k2 (led qq as2 k2):=.step .base h02 (aeh ha2 h02 h12);obtain⟨m1,a1,b1,c1⟩:=aiu h01 (by rw[jt];exact h11) (g1.lead _ r1)
 obtain⟨m2,a2,b2,c2⟩:=aiu h02 (by rw[jt];exact h12) (g2.lead _ r2)
 rw[<-zg h ha1 h01 h11] at a1 b1 c1;rw[<-zg h ha2 h02 h12,<-e1,<-e2] at a2 b2 c2;have q1:=amq a1 c1 a2 b2;have q2:=amq a2 c2 a1 b1;have:m1=m2:=by omega
 subst this;have ek:k1=k2:=a1.symm.trans a2;subst ek;refine⟨?_,rfl⟩;have u1:=aeq h ha1 h01 h11;have u2:=aeq h ha2 h02 h12;rw[e1] at u1;rw[<-agd h ha1 h01 h11,<-agd h ha2 h02 h12,e1,<-u1,<-u2]
variable{as:List Int}(ha:Arr qq as){k:Int}(h0:0<=k)(h1:k < (qq.length:Int))
include ha h0 h1
theorem srun:∀t:Nat,Arr qq (run qq as k t).1/\0<=(run qq as k t).2/\(run qq as k t).2 < (qq.length:Int)
 | 0=>⟨ha,h0,h1⟩
 | t+1=>by
  obtain⟨a1,a2,a3⟩:=srun t;exact⟨ai0 h a1 a2 a3,aus h sh a1 a2 a3⟩
theorem avs(g:InG qq as k):∀t:Nat,InG qq (run qq as k t).1 (run qq as k t).2
 | 0=>g
 | t+1=>by
  obtain⟨a1,a2,a3⟩:=srun h sh ha h0 h1 t;exact InG.step h sh a1 a2 a3 (avs g t)
theorem amn(g:InG qq as k):∀i j:Nat,i < j->run qq as k i=run qq as k j->run qq as k (j - i)=(as,k)
 | 0,j,_,e=>by rw[Nat.sub_zero,<-e];rfl
 | i+1,0,q,_=>by omega
 | i+1,j+1,q,e=>by
  obtain⟨a1,a2,a3⟩:=srun h sh ha h0 h1 i;obtain⟨b1,b2,b3⟩:=srun h sh ha h0 h1 j;have ee:(gone qq (run qq as k i).1 (run qq as k i).2,led qq (run qq as k i).1 (run qq as k i).2)=(gone qq (run qq as k j).1 (run qq as k j).2,led qq (run qq as k j).1 (run qq as k j).2):=e;obtain⟨f1,f2⟩:=Prod.mk.inj ee;obtain⟨z1,z2⟩:=arz h sh a1 b1 a2 a3 b2 b3 (avs h sh ha h0 h1 g i) (avs h sh ha h0 h1 g j) f1 f2;have:=amn g i j (by omega) (Prod.ext z1 z2)
  rw[show j+1 - (i+1)=j - i by omega]
  exact this
theorem aob(g:InG qq as k):∃T,1<=T/\run qq as k T=(as,k):=by
 obtain⟨i,j,hij,_,e⟩:=ag9 h (run qq as k) fun i _=>srun h sh ha h0 h1 i
 exact⟨j - i,by omega,amn h sh ha h0 h1 g i j hij e⟩
theorem ao6(i:Nat):∀m:Nat,Rch qq (run qq as k i).2 (run qq as k (i+m)).2
 | 0=>.base
 | m+1=>by
  obtain⟨a1,a2,a3⟩:=srun h sh ha h0 h1 (i+m);exact .step (ao6 i m) a2 (aeh a1 a2 a3)
theorem arn{x:Int}(hx:0<=x)(t:Nat):ar (run qq as k (t+1)).1 x=if x=(run qq as k t).2 then (ar (run qq as k t).1 x+1) % ((dr qq x).length:Int) else ar (run qq as k t).1 x:=by
 obtain⟨a1,a2,a3⟩:=srun h sh ha h0 h1 t;show ar (gone qq (run qq as k t).1 (run qq as k t).2) x=_
 by_cases e:x=(run qq as k t).2
 ·rw[if_pos e,e];exact abr (by have:=a1.len;omega)
 ·rw[if_neg e];exact ahz hx a2 e
theorem aro{x:Int}(hx:0<=x)(i:Nat):∀d:Nat,(∀j,i<=j->j < i+d->(run qq as k j).2≠x)->ar (run qq as k (i+d)).1 x=ar (run qq as k i).1 x
 | 0,_=>rfl
 | d+1,q=>by
  have e:=arn h sh ha h0 h1 hx (i+d);rw[if_neg (fun z=>q (i+d) (by omega) (by omega) z.symm)] at e
  rw[show i+(d+1)=i+d+1 by omega,e]
  exact aro hx i d fun j j1 j2=>q j j1 (by omega)
variable{T:Nat}(hT:1<=T)(eT:run qq as k T=(as,k))
include hT eT
theorem per(i:Nat):run qq as k (i+T)=run qq as k i:=by
 have:=adg qq as k (i:=T) (j:=0) eT i;rw[Nat.zero_add,Nat.add_comm] at this;exact this
theorem alj:∀n:Nat,run qq as k (n*T)=(as,k)
 | 0=>by rw[Nat.zero_mul];rfl
 | n+1=>by rw[Nat.succ_mul,per h sh ha h0 h1 hT eT];exact alj n
theorem turns{x:Int}(hx:0<=x){i:Nat}(hi:(run qq as k i).2=x):∀n:Nat,∃i',(run qq as k i').2=x/\ar (run qq as k i').1 x=(ar (run qq as k i).1 x+n) % ((dr qq x).length:Int)
 | 0=>by
  obtain⟨a1,a2,a3⟩:=srun h sh ha h0 h1 i;rw[hi] at a2 a3;have b:=a1.at a2 a3;exact⟨i,hi,by rw[show((0:Nat):Int)=0 from rfl,Int.add_zero,Int.emod_eq_of_lt b.1 b.2]⟩
 | n+1=>by
  obtain⟨i',e1,e2⟩:=turns hx hi n;obtain⟨d,⟨d1,d2⟩,dm⟩:=least (P:=fun d=>1<=d/\(run qq as k (i'+d)).2=x) T ⟨hT,by rw[per h sh ha h0 h1 hT eT];exact e1⟩
  refine⟨i'+d,d2,?_⟩;have s1:=arn h sh ha h0 h1 hx i';rw[if_pos e1.symm,e2] at s1;have s2:=aro h sh ha h0 h1 hx (i'+1) (d - 1) fun j j1 j2 z=>dm (j - i') (by omega) ⟨by omega,by rw[show i'+(j - i')=j by omega];exact z⟩
  rw[show i'+1+(d - 1)=i'+d by omega,s1] at s2
  rw[s2,show((n+1:Nat):Int)=(n:Int)+1 by omega,Int.emod_add_emod]
  congr 1
  omega
theorem anx{x:Int}(r:Rch qq k x):∃i,(run qq as k i).2=x:=by
 induction r with
 | base=>exact⟨0,rfl⟩
 | @step x d r q hd ih =>
  obtain⟨i,hi⟩:=ih;obtain⟨a1,a2,a3⟩:=srun h sh ha h0 h1 i;rw[hi] at a2 a3;have b:=a1.at a2 a3;obtain⟨j,hj,ej⟩:=List.mem_iff_getElem.mp hd;obtain⟨i',e1,e2⟩:=turns h sh ha h0 h1 hT eT q hi (j+(dr qq x).length - (ar (run qq as k i).1 x).toNat);have e3:ar (run qq as k i').1 x=(j:Int):=by
   rw[e2,show ar (run qq as k i).1 x+((j+(dr qq x).length - (ar (run qq as k i).1 x).toNat:Nat):Int)=(j:Int)+((dr qq x).length:Int) by omega,Int.add_emod_right]
   exact Int.emod_eq_of_lt (by omega) (by omega)
  refine⟨i'+1,?_⟩;show led qq (run qq as k i').1 (run qq as k i').2=d;rw[e1];unfold led;rw[e3,Int.toNat_natCast,List.getD_eq_getElem?_getD,List.getElem?_eq_getElem (by omega)]
  exact ej
theorem ah0:InG qq as k:=by
 have led:∀t j:Nat,j<=t->∃m,itr (lasts qq (run qq as k t).1) (run qq as k j).2 m=(run qq as k t).2:=by
  intro t
  induction t with
  | zero=>intro j hj;exact⟨0,by rw[show j=0 by omega];rfl⟩
  | succ t ih =>
   intro j hj;obtain⟨a1,a2,a3⟩:=srun h sh ha h0 h1 t
   by_cases e:j=t+1
   ·exact⟨0,by rw[e];rfl⟩
   ·have z:=aj9 (d:=(run qq as k (t+1)).2) a2 (by rw[jt];exact a3) (ih j (by omega))
    have l:=zg h a1 a2 a3;show ∃m,itr (lasts qq (gone qq (run qq as k t).1 (run qq as k t).2)) (run qq as k j).2 m=_
    rw[l];exact z
 refine⟨fun x hx =>?_,fun x hx =>?_⟩
 ·obtain⟨i,rfl⟩:=anx h sh ha h0 h1 hT eT hx;have:=ao6 h sh ha h0 h1 i (i*T+T - i);have e:i+(i*T+T - i)=(i+1)*T:=by
   have:i<=i*T:=Nat.le_mul_of_pos_right i (by omega)
   rw[Nat.succ_mul];omega
  rw[e,alj h sh ha h0 h1 hT eT] at this;exact this
 ·obtain⟨i,rfl⟩:=anx h sh ha h0 h1 hT eT hx;have:=led ((i+1)*T) i (by
   have:i<=i*T:=Nat.le_mul_of_pos_right i (by omega)
   rw[Nat.succ_mul];omega)
  rw[alj h sh ha h0 h1 hT eT] at this;exact this
end
def an8(qq:LL9):Bool:=qq.all fun r=>decide (0<=minI r)
theorem a0u{C:M Rv}{s:Sl}{f:List Int->Bool}{qq:LL9}(e:C [s]=some (.ok (.fr (qq.map fun r=>D.bl (f r))),[s])):fnD 1 1 (dRet (jb (g1 gAll) (bf (M.d C) mNil))) [s]=some (.ok (.v (.bl (qq.all f))),[s]):=by
 simp[e,Function.comp_def]
theorem ahi{qq:LL9}(h:Hs qq):abh [.val (hD qq)]=some (.ok (.v (.bl (an8 qq))),[.val (hD qq)]):=by
 have ef:compD (jo 0) (ret true) ab0 (hDs qq) [] [.emp]=some (.ok (qq.map fun r=>.bl (decide (0<=minI r))),ae6 .emp (hDs qq)::[]):=by
  rw[ags (f:=fun d=>match d with | .tup l=>.bl (decide (0<=minI ((sr l).getD []))) | _=>.non)]
  ·simp[hDs,Function.comp_def]
  ·intro d hd;obtain⟨r,hr,rfl⟩:=List.mem_map.mp hd;have hne:r≠[]:=fun z=>by have:=(h.room r hr).1;rw[z] at this;simp at this
   simp[ab0,atj hne]
 have hc:(qq.map fun r=>D.bl (decide (0<=minI r))).length<=capS:=by rw[List.length_map];exact gr (Nat.le_trans h.most (by decide))
 have e1:=as6 (src:=[none]) (mi:=zc (mVar 0)) (ρ:=[.val (hD qq)]) (ρ1:=[.val (hD qq)]) (b:=jo 0) (mc:=ret true) (me:=ab0) (l:=hDs qq) rfl rfl ef hc;unfold abh aki;exact a0u e1
theorem awo:∀{r:List Int},r≠[]->minI r∈r
 | [],h=>absurd rfl h
 | x::r,_=>by
  have:∀(r:List Int) (x:Int),r.foldl (fun m y=>if decide (y < m)=true then y else m) x∈x::r:=by
   intro r
   induction r with
   | nil=>intro x;simp
   | cons z t ih =>
    intro x;rw[List.foldl_cons];have:=ih (if decide (z < x)=true then z else x)
    rcases List.mem_cons.mp this with e | e
    ·rw[e];split <;> simp
    ·exact List.mem_cons_of_mem _ (List.mem_cons_of_mem _ e)
  exact this r x
theorem ar4{qq:LL9}(h:Hs qq)(s:Sh qq):an8 qq=true:=by
 unfold an8;rw[List.all_eq_true];intro r hr;have hne:r≠[]:=fun z=>by have:=(h.room r hr).1;rw[z] at this;simp at this
 exact decide_eq_true (s r hr _ (awo hne))
theorem agz{qq:LL9}(h:Hs qq)(s:Sh qq):gf [.val (hD qq)]=some (.ok (.v .non),[.val (hD qq)]):=by
 have e:=ahi h;rw[ar4 h s] at e;simp[gf,uc,e]
def addD(ms:List Int)(d:Int):List Int:=if 0<=d/\d∉ms then ms++[d] else ms
theorem at8(ms:List Int)(d x:Int):x∈addD ms d↔x∈ms∨(x=d/\0<=d):=by
 unfold addD;split
 ·rename_i h;simp only[List.mem_append,List.mem_singleton];constructor
  ·rintro(q | q)
   ·exact .inl q
   ·exact .inr ⟨q,h.1⟩
  ·rintro(q | ⟨q,_⟩)
   ·exact .inl q
   ·exact .inr q
 ·rename_i h;constructor
  ·exact .inl
  ·rintro(q | ⟨rfl,q⟩)
   ·exact q
   ·exact Classical.byContradiction fun z=>h ⟨q,z⟩
theorem aot{ms:List Int}(h:ms.Nodup)(d:Int):(addD ms d).Nodup:=by
 unfold addD;split
 ·rename_i q;rw[List.nodup_append];refine⟨h,by simp,fun x hx y hy e =>?_⟩
  rw[List.mem_singleton] at hy;subst hy;subst e;exact q.2 hx
 ·exact h
theorem at7(ms:List Int)(d:Int):∃t,addD ms d=ms++t:=by
 unfold addD;split
 ·exact⟨_,rfl⟩
 ·exact⟨[],by simp⟩
theorem at9(ms:List Int)(d:Int):(addD ms d).length<=ms.length+1:=by
 unfold addD;split <;> simp
theorem ad1:∀(ds ms:List Int) (x:Int),x∈ds.foldl addD ms↔x∈ms∨(x∈ds/\0<=x)
 | [],ms,x=>by simp
 | d::r,ms,x=>by
  rw[List.foldl_cons,ad1 r,at8];simp only[List.mem_cons];constructor
  ·rintro((q | ⟨rfl,q⟩) | ⟨q,w⟩)
   ·exact .inl q
   ·exact .inr ⟨.inl rfl,q⟩
   ·exact .inr ⟨.inr q,w⟩
  ·rintro(q | ⟨rfl | q,w⟩)
   ·exact .inl (.inl q)
   ·exact .inl (.inr ⟨rfl,w⟩)
   ·exact .inr ⟨q,w⟩
theorem ahp:∀(ds:List Int) {ms:List Int},ms.Nodup->(ds.foldl addD ms).Nodup
 | [],_,h=>h
 | d::r,_,h=>ahp r (aot h d)
theorem ai7:∀(ds ms:List Int),∃t,ds.foldl addD ms=ms++t
 | [],ms=>⟨[],by simp⟩
 | d::r,ms=>by
  obtain⟨t,e⟩:=at7 ms d;obtain⟨u,e2⟩:=ai7 r (addD ms d);exact⟨t++u,by rw[List.foldl_cons,e2,e,List.append_assoc]⟩
theorem ahs(a b c e:Sl):∀(ds ms:List Int) (o:Sl),ms.length+ds.length<=100->∃o',forD (jo 5) vq (ds.map D.int) [a,b,.own none (ms.map D.int),c,e,o]=some (.nx,[a,b,.own none ((ds.foldl addD ms).map D.int),c,e,o'])
 | [],ms,o,_=>⟨o,rfl⟩
 | d::r,ms,o,hl=>by
  rw[List.length_cons] at hl;have hal:=at9 ms d;obtain⟨o',q⟩:=ahs a b c e r (addD ms d) (.val (.int d)) (by omega)
  refine⟨o',?_⟩;have hc:ms.length < capS:=by rw[axn];omega
  have es:vq [a,b,.own none (ms.map D.int),c,e,.val (.int d)]=some (.nx,[a,b,.own none ((addD ms d).map D.int),c,e,.val (.int d)]):=by
   have ei:=al8 true d ms
   by_cases h0:0<=d
   ·by_cases h1:d∈ms
    ·have:addD ms d=ms:=if_neg fun z=>z.2 h1
     rw[this];simp[vq,h0,ei,h1]
    ·have:addD ms d=ms++[d]:=if_pos ⟨h0,h1⟩;rw[this,List.map_append];simp[vq,h0,ei,h1,hc]
   ·have:addD ms d=ms:=if_neg fun z=>h0 z.1
    rw[this];simp[vq,h0]
  rw[List.map_cons,wu,List.foldl_cons];simp only[afh,List.set_cons_succ,List.set_cons_zero];rw[es];exact q
theorem ar3{l:List Int}(h:l.Nodup):(sortI l).Pairwise (· < ·):=by
 have h1:=aax l;have h2:(sortI l).Nodup:=(sortI_perm l).nodup_iff.mpr h;have:=h1.and h2;exact this.imp fun⟨a,b⟩=>by omega
structure Come (qq:LL9) (a:Int) (cs:List Int):Prop where
 lt:cs.Pairwise (· < ·)
 mem:∀x,x∈cs↔Rch qq a x/\0<=x
 len:cs.length<=10
theorem ae2{qq:LL9}(h:Hs qq){a:Int}(ha:0<=a/\a < (qq.length:Int)) :
  ∃cs:List Int,rm [.val (hD qq),.val (.int a)]=some (.ok (.v (.tup (cs.map D.int))),[.val (hD qq),.val (.int a)])/\Come qq a cs:=by
 have hm:=h.most;have loop:=yq (c:=yr) (g:=abt)
  (fun k ρ=>∃(ms:List Int) (i:Nat) (o4 o5:Sl),ρ=[.val (hD qq),.val (.int a),.own none (ms.map D.int),.val (.int (i:Nat)),o4,o5]/\k=20 - i/\i<=ms.length/\ms.Nodup/\a∈ms/\(∀x∈ms,Rch qq a x/\0<=x)/\∀j (hj:j < ms.length),j < i->∀d∈dr qq ms[j],0<=d->d∈ms)
  (fun ρ=>∃(ms:List Int) (o3 o4 o5:Sl),ρ=[.val (hD qq),.val (.int a),.own none (ms.map D.int),o3,o4,o5]/\ms.Nodup/\∀x,x∈ms↔Rch qq a x/\0<=x) ?_ fuel 20 [.val (hD qq),.val (.int a),.own none ([a].map D.int),.val (.int ((0:Nat):Int)),.emp,.emp] (Nat.lt_trans (by decide) ad0)
  ⟨[a],0,.emp,.emp,rfl,rfl,by simp,by simp,by simp,by simp;exact⟨.base,ha.1⟩,fun j hj hlt=>absurd hlt (Nat.not_lt_zero _)⟩
 ·obtain⟨ρ',e,ms,o3,o4,o5,rfl,hn,hm'⟩:=loop;have e:whileD yr abt fuel [.val (hD qq),.val (.int a),.own none [.int a],.val (.int 0),.emp,.emp]=some (.nx,[.val (hD qq),.val (.int a),.own none (ms.map D.int),o3,o4,o5]):=e;have hlen:ms.length<=10:=by
   have:=af5 (qq.length+3) ([-3,-2,-1]++ms) (by
    rw[List.nodup_append];refine⟨by decide,hn,fun x hx y hy e =>?_⟩
    subst e;have:=((hm' x).mp hy).2;simp at hx;omega) (fun x hx=>by
    rcases List.mem_append.mp hx with hx | hx
    ·simp at hx;omega
    ·have:=(hm' x).mp hx;have:=Rch.range h ha this.1;omega)
   simp at this;omega
  have es:=akk (ns:=ms) (by omega)
  have hp:=sortI_perm ms;refine⟨sortI ms,?_,ar3 hn,fun x=>by rw[hp.mem_iff];exact hm' x,by rw[hp.length_eq];exact hlen⟩
  have er:dj [.val (hD qq),.val (.int a)]=some (.ok (.v .non),[.val (hD qq),.val (.int a)]):=by
   have h1:a<=(qq.length:Int) - 1:=by omega
   simp[dj,ph,ig,ha.1,h1]
  simp only[hD] at e er ⊢
  simp[rm,akj,er,e,es]
 ·rintro k ρ ⟨ms,i,o4,o5,rfl,rfl,hi,hn,h0,hr,hc⟩
  have hz:=avv h ha hn fun x hx=>(hr x hx).1
  by_cases hlt:i < ms.length
  ·obtain⟨q1,q2⟩:=hr _ (List.getElem_mem hlt);have q3:=(Rch.range h ha q1).2;obtain⟨d1,d2,d3⟩:=h.dr q2 q3;have er:=ai9 q2 q3;have ei:=a0s hlt;obtain⟨o5',el⟩:=ahs (.val (hD qq)) (.val (.int a)) (.val (.int (i:Nat))) (.val (.tup ((dr qq ms[i]).map D.int))) (dr qq ms[i]) ms o5 (by omega)
   refine .inr ⟨[.val (hD qq),.val (.int a),.own none (ms.map D.int),.val (.int (i:Nat)),o4,o5],[.val (hD qq),.val (.int a),.own none (((dr qq ms[i]).foldl addD ms).map D.int),.val (.int ((i+1:Nat):Int)),.val (.tup ((dr qq ms[i]).map D.int)),o5'],20 - (i+1),?_,?_,by omega,(dr qq ms[i]).foldl addD ms,i+1,_,_,rfl,rfl,?_,ahp _ hn,(ad1 _ _ _).mpr (.inl h0),fun x hx =>?_,fun j hj hji d hd hd0 =>?_⟩
   ·have:(i:Int) < (ms.length:Int):=by omega
    simp[yr,this]
   ·have hcast:((i+1:Nat):Int)=(i:Int)+1:=by omega
    rw[hcast];simp only[hD] at el ⊢
    generalize (dr qq ms[i]).map D.int=dd at er el;simp[abt,ei,er,el]
   ·obtain⟨t,et⟩:=ai7 (dr qq ms[i]) ms;rw[et,List.length_append];omega
   ·rcases(ad1 _ _ _).mp hx with hx | ⟨hx,hx0⟩
    ·exact hr x hx
    ·exact⟨.step q1 q2 hx,hx0⟩
   ·obtain⟨t,et⟩:=ai7 (dr qq ms[i]) ms;have hjl:j < ms.length:=by omega
    have ej:((dr qq ms[i]).foldl addD ms)[j]=ms[j]:=by
     simp only[et];exact List.getElem_append_left hjl
    rw[ej] at hd;rcases Nat.lt_or_ge j i with z | z
    ·exact(ad1 _ _ _).mpr (.inl (hc j hjl z d hd hd0))
    ·have:j=i:=by omega
     subst this;exact(ad1 _ _ _).mpr (.inr ⟨hd,hd0⟩)
  ·refine .inl ⟨[.val (hD qq),.val (.int a),.own none (ms.map D.int),.val (.int (i:Nat)),o4,o5],?_,ms,_,_,_,rfl,hn,fun x=>⟨fun hx=>hr x hx,fun⟨hx,hx0⟩ =>?_⟩⟩
   ·have:¬(i:Int) < (ms.length:Int):=by omega
    simp[yr,this]
   ·exact alg h0 (fun y hy d hd hd0=>by
     obtain⟨j,hj,rfl⟩:=List.mem_iff_getElem.mp hy;exact hc j hj (by omega) d hd hd0) hx hx0
open Classical in
noncomputable def xf(qq:LL9)(a:Int):List Int:=if q:Hs qq/\0<=a/\a < (qq.length:Int) then (ae2 q.1 q.2).choose else []
section
variable{qq:LL9}(h:Hs qq){a:Int}(ha:0<=a/\a < (qq.length:Int))
include h ha
theorem zz:rm [.val (hD qq),.val (.int a)]=some (.ok (.v (.tup ((xf qq a).map D.int))),[.val (hD qq),.val (.int a)])/\Come qq a (xf qq a):=by
 unfold xf;rw[dif_pos ⟨h,ha⟩];exact(ae2 h ha).choose_spec
theorem zy:∀x∈xf qq a,0<=x/\x < (qq.length:Int):=fun x hx=>by
 obtain⟨q,q0⟩:=((zz h ha).2.mem x).mp hx;exact⟨q0,(Rch.range h ha q).2⟩
end
theorem aqf(neg:Bool)(a:Int)(ns:List Int):gIn neg (.int a) (.tup (ns.map D.int))=some (.v (.bl (if neg then !decide (a∈ns) else decide (a∈ns)))):=al8 neg a ns
noncomputable def ai1(qq:LL9)(k:Int):List Int:=(xf qq k).filter fun x => !decide (k∈xf qq x)
section
variable{qq:LL9}(h:Hs qq){k:Int}(hk:0<=k/\k < (qq.length:Int))
include h hk
theorem akg:qd [.val (hD qq),.val (.int k)]=some (.ok (.fr ((ai1 qq k).map D.int)),[.val (hD qq),.val (.int k)]):=by
 obtain⟨e1,C⟩:=zz h hk;have ef:compD (jo 0) abp abk ((xf qq k).map D.int) [] [.emp,.val (.int k),.val (hD qq)]=some (.ok ((ai1 qq k).map D.int),ae6 .emp ((xf qq k).map D.int)::[.val (.int k),.val (hD qq)]):=by
  rw[yc (p:=fun d=>match d with | .int x => !decide (k∈xf qq x) | _=>false) (f:=fun d=>d)]
  ·rw[List.nil_append,List.map_id',List.filter_map];rfl
  ·intro d hd;obtain⟨x,hx,rfl⟩:=List.mem_map.mp hd;have hr:=zy h hk x hx;obtain⟨e2,_⟩:=zz h hr;have e3:=aqf true k (xf qq x);generalize (xf qq x).map D.int=cc at *;generalize hD qq=hh at *;simp[abp,e2,e3]
  ·intro d hd _;obtain⟨x,hx,rfl⟩:=List.mem_map.mp hd;simp[abk]
 have hc:((ai1 qq k).map D.int).length<=capS:=by
  rw[List.length_map];exact gr (Nat.le_trans (List.length_filter_le _ _) (Nat.le_trans C.len (by decide)))
 generalize (ai1 qq k).map D.int=gg at *;generalize (xf qq k).map D.int=cc at *;generalize hD qq=hh at *;simp[qd,agg,e1,ef,hc]
theorem xu(sh:Sh qq){x:Int}:x∈xf qq k↔Rch qq k x:=by
 obtain⟨_,C⟩:=zz h hk;rw[C.mem];refine⟨fun q=>q.1,fun q=>⟨q,?_⟩⟩
 cases q with
 | base=>exact hk.1
 | step r h0 hd=>exact sh.dr hd
theorem ang(sh:Sh qq):ai1 qq k=[]↔∀x,Rch qq k x->Rch qq x k:=by
 unfold ai1;rw[List.filter_eq_nil_iff];constructor
 ·intro q x hx;have hm:=(xu h hk sh).mpr hx;have:=q x hm;have hr:=zy h hk x hm;exact(xu h hr sh).mp (by simpa using this)
 ·intro q x hx;have hr:=zy h hk x hx;have:=(xu h hr sh).mpr (q x ((xu h hk sh).mp hx));simp[this]
end
theorem awu(l:List Int)(x:Int):atI ((l++[x]).map D.int) (-1)=some (.int x):=by
 unfold atI;have:ixN ((l++[x]).map D.int).length (-1)=some l.length:=by
  unfold ixN;rw[List.length_map,List.length_append];simp;omega
 rw[this];simp
theorem aqi(r:List Int):∀x:Int,r.foldl (fun m y=>if decide (y < m)=true then y else m) x∈x::r:=by
 induction r with
 | nil=>intro x;simp
 | cons z t ih =>
  intro x;rw[List.foldl_cons];have:=ih (if decide (z < x)=true then z else x)
  rcases List.mem_cons.mp this with e | e
  ·rw[e];split <;> simp
  ·exact List.mem_cons_of_mem _ (List.mem_cons_of_mem _ e)
theorem asy{ns:List Int}(h:ns≠[]):minI ns∈ns:=by
 cases ns with
 | nil=>exact absurd rfl h
 | cons x r=>exact aqi r x
def ixm(ns:List Int):Nat:=((ns.map D.int).findIdx? fun y=>eqD y (.int (minI ns))).getD 0
def rotm(ns:List Int):List Int:=ns.drop (ixm ns)++ns.take (ixm ns)
theorem ap9{ns:List Int}(h:ns≠[]):aho (.lst (ns.map D.int)) [.int (minI ns)]=some (.int (ixm ns:Int))/\ixm ns<=ns.length:=by
 have hm:=asy h;have h1:=ahd 30 ns;cases e:(ns.map D.int).findIdx? fun y=>eqD y (.int (minI ns)) with
 | none =>
  rw[List.findIdx?_eq_none_iff] at e;have:=e (.int (minI ns)) (List.mem_map.mpr ⟨_,hm,rfl⟩);rw[ai8] at this;simp at this
 | some i =>
  have hi:=(List.findIdx?_eq_some_iff_getElem.mp e).1;rw[List.length_map] at hi;have ei:ixm ns=i:=by unfold ixm;rw[e];rfl
  rw[ei];refine⟨?_,by omega⟩
  have ho:okD 30 (D.int (minI ns))=true:=rfl;simp only[aho,ho,h1,Bool.and_self,if_true,e];rfl
theorem al3{L:List Int}(w:Ways L){s:Int}(hs:s∈ace (lp L))(m:Nat):0<=itr L s m/\itr L s m < (L.length:Int):=by
 have tI:ace (lp L)=(upto L.length).filter (caught (lp L)):=by unfold ace;rw[ahf]
 rw[tI] at hs;obtain⟨a1,a2⟩:=List.mem_filter.mp hs;have a0:=ais a1;have hc:=(ahu _ _).mp a2;have hr:∀m:Nat,Rch (lp L) s (itr L s m):=fun m=>by
  induction m with
  | zero=>exact .base
  | succ m ih =>
   have h0:=hc _ ih;have hl:=ap4 w m a0.2;rw[kh];refine .step ih h0 ?_;rw[a0l h0 hl,List.mem_singleton];show nxt L (itr L s m)=_;exact if_pos h0
 exact⟨hc _ (hr m),ap4 w m a0.2⟩
theorem am6(L:List Int)(s:Int)(m:Nat)(h:0<=itr L s m):itr L s (m+1)=L.getD (itr L s m).toNat 0:=by
 rw[kh];show nxt L (itr L s m)=_;exact if_pos h
theorem ayi{L:List Int}(w:Ways L){s:Int}(hs:s∈ace (lp L)):∃T,T < L.length/\itr L (itr L s L.length) (T+1)=itr L s L.length/\∀i,1<=i->i<=T->itr L (itr L s L.length) i≠itr L s L.length:=by
 obtain⟨i,j,hij,hj,e⟩:=pig (fun m=>itr L s m) L.length fun m _=>al3 w hs m
 have e:itr L s i=itr L s j:=e;have ed:itr L (itr L s L.length) (j - i)=itr L s L.length:=by
  rw[<-kh,show L.length+(j - i)=j+(L.length - i) by omega,kh,<-e,<-kh,show i+(L.length - i)=L.length by omega]
 obtain⟨T,hT,hl⟩:=least (P:=fun T=>itr L (itr L s L.length) (T+1)=itr L s L.length) (j - i - 1) (by
  show itr L (itr L s L.length) (j - i - 1+1)=_;rw[show j - i - 1+1=j - i by omega]
  exact ed)
 refine⟨T,?_,hT,fun m m1 m2 z =>?_⟩
 ·rcases Nat.lt_or_ge (j - i - 1) T with q | q
  ·have:=hl (j - i - 1) q;rw[show j - i - 1+1=j - i by omega] at this
   exact absurd ed this
  ·omega
 ·have:=hl (m - 1) (by omega)
  rw[show m - 1+1=m by omega] at this
  exact this z
def rg(L:List Int)(p:Int)(t:Nat):List Int:=(List.range (t+1)).map fun i=>itr L p i
theorem ao7(L:List Int)(p:Int)(t:Nat):rg L p (t+1)=rg L p t++[itr L p (t+1)]:=by
 unfold rg;rw[List.range_succ,List.map_append];rfl
theorem ao8(L:List Int)(p:Int)(t:Nat):(rg L p t).length=t+1:=by unfold rg;simp
theorem ar5(L:List Int)(p:Int):∀t:Nat,∃l,rg L p t=l++[itr L p t]
 | 0=>⟨[],rfl⟩
 | t+1=>⟨rg L p t,ao7 L p t⟩
section
variable{L:List Int}(w:Ways L)
include w
variable{s:Int}(hs:s∈ace (lp L)){T:Nat}(hT:T < L.length)(eT:itr L (itr L s L.length) (T+1)=itr L s L.length)(hl:∀i,1<=i->i<=T->itr L (itr L s L.length) i≠itr L s L.length)
include hs
theorem au8(m:Nat):atI (L.map D.int) (itr L s m)=some (.int (itr L s (m+1))):=by
 have h:=al3 w hs m;rw[am6 L s m h.1];exact ab2 h.1 h.2
include hT eT hl
theorem ajp:ue [.val (.tup (L.map D.int)),.val (.int s)]=some (.ok (.v (.tup ((rotm (rg L (itr L s L.length) T)).map D.int))),[.val (.tup (L.map D.int)),.val (.int s)]):=by
 have hm:=w.most;have loop:=ai6 (b:=jo 3) (g:=aa9) (fun i ρ=>∃o3:Sl,ρ=[.val (.tup (L.map D.int)),.val (.int s),.val (.int (itr L s i)),o3,.emp,.emp])
  (l:=qw 0 L.length) (ρ:=[.val (.tup (L.map D.int)),.val (.int s),.val (.int s),.emp,.emp,.emp]) 0 ⟨.emp,rfl⟩ ?_
 ·have rl:(qw 0 L.length).length=L.length:=by simp[qw]
  rw[rl,Nat.zero_add] at loop;obtain⟨ρ',e,o3,rfl⟩:=loop;generalize hp:itr L s L.length=p at *;have at2:∀m,atI (L.map D.int) (itr L p m)=some (.int (itr L p (m+1))):=fun m=>by
   have:=au8 w hs (L.length+m);rw[kh,hp,show L.length+m+1=L.length+(m+1) by omega,kh,hp] at this
   exact this
  have loop2:=yq (c:=xj) (g:=aav)
   (fun n ρ=>∃t:Nat,t<=T/\n=T - t/\ρ=[.val (.tup (L.map D.int)),.val (.int s),.val (.int p),o3,.own none ((rg L p t).map D.int),.emp])
   (fun ρ=>ρ=[.val (.tup (L.map D.int)),.val (.int s),.val (.int p),o3,.own none ((rg L p T).map D.int),.emp])
   ?_ fuel T [.val (.tup (L.map D.int)),.val (.int s),.val (.int p),o3,.own none [.int p],.emp] (Nat.lt_trans (show T < 100000 by omega) ad0) ⟨0,by omega,rfl,rfl⟩
  ·obtain⟨ρ',e2,rfl⟩:=loop2;have hne:rg L p T≠[]:=fun z=>by have:=ao8 L p T;rw[z] at this;simp at this
   have e3:=atk hne;obtain⟨e4,hle⟩:=ap9 hne;have hrl:=ao8 L p T;have c1:=agr (ns:=(rg L p T).map D.int) (k:=(ixm (rg L p T):Int)) (by omega) (by rw[List.length_map];omega)
   have c2:=axk (ns:=(rg L p T).map D.int) (k:=(ixm (rg L p T):Int)) (by omega) (by rw[List.length_map];omega)
   rw[Int.toNat_natCast] at c1 c2;have e5:(rotm (rg L p T)).map D.int=((rg L p T).map D.int).drop (ixm (rg L p T))++((rg L p T).map D.int).take (ixm (rg L p T)):=by
    unfold rotm;rw[List.map_append,List.map_drop,List.map_take]
   have hc:(((rg L p T).map D.int).drop (ixm (rg L p T))).length+(((rg L p T).map D.int).take (ixm (rg L p T))).length<=capS:=by
    rw[List.length_drop,List.length_take,List.length_map];exact gr (by omega)
   have hl2:(L.map D.int).length=L.length:=List.length_map ..
   have hb:L.length < 4611686018427387904:=by omega
   rw[e5];generalize ((rg L p T).map D.int).drop (ixm (rg L p T))=X1 at *;generalize ((rg L p T).map D.int).take (ixm (rg L p T))=X2 at *;generalize (rg L p T).map D.int=RR at *;generalize L.map D.int=LL at *;simp[ue,age,hl2,hb,e,e2,e3,e4,c1,c2,hc]
  ·rintro n ρ ⟨t,t2,rfl,rfl⟩
   obtain⟨l,el⟩:=ar5 L p t;have e1:atI ((rg L p t).map D.int) (-1)=some (.int (itr L p t)):=by rw[el];exact awu l _
   have e2:=at2 t;rcases Nat.lt_or_ge t T with q | q
   ·have hne:=hl (t+1) (by omega) (by omega)
    have hcap:((rg L p t).map D.int).length < capS:=by rw[List.length_map,ao8];unfold capS;omega
    refine .inr ⟨[.val (.tup (L.map D.int)),.val (.int s),.val (.int p),o3,.own none ((rg L p t).map D.int),.emp],[.val (.tup (L.map D.int)),.val (.int s),.val (.int p),o3,.own none ((rg L p (t+1)).map D.int),.emp],T - (t+1),?_,?_,by omega,t+1,by omega,rfl,rfl⟩
    ·generalize (rg L p t).map D.int=RR at *;generalize L.map D.int=LL at *;generalize itr L p (t+1)=y at *;simp[xj,e1,e2,hne]
    ·rw[ao7,List.map_append];generalize (rg L p t).map D.int=RR at *;generalize L.map D.int=LL at *;simp[aav,e1,e2,hcap]
   ·have:t=T:=by omega
    subst this;refine .inl ⟨[.val (.tup (L.map D.int)),.val (.int s),.val (.int p),o3,.own none ((rg L p t).map D.int),.emp],?_,rfl⟩;rw[eT] at e2;generalize (rg L p t).map D.int=RR at *;generalize L.map D.int=LL at *;simp[xj,e1,e2]
 ·rintro i d ρ hd ⟨o3,rfl⟩
  rw[Nat.zero_add];have e:=au8 w hs i;refine⟨_,[.val (.tup (L.map D.int)),.val (.int s),.val (.int (itr L s (i+1))),.val d,.emp,.emp],rfl,.inl ?_,_,rfl⟩;generalize itr L s (i+1)=y at *;generalize L.map D.int=LL at *;simp[aa9,e]
end
theorem azi(n:Nat)(r:List Int):okD (n+1) (rowT r)=true:=by
 show(r.map D.int).all (okD n)=true;exact ahd n r
theorem atm(neg:Bool)(r:List Int)(rows:LL9):gIn neg (rowT r) (.lst (rows.map rowT))=some (.v (.bl (if neg then !decide (r∈rows) else decide (r∈rows)))):=by
 have h1:(rows.map rowT).all (okD 30)=true:=by
  rw[List.all_map,List.all_eq_true];exact fun x _=>azi 29 x
 have h2:(rows.map rowT).any (fun y=>eqD y (rowT r))=decide (r∈rows):=by
  rw[List.any_map]
  induction rows with
  | nil=>rfl
  | cons a l ih =>
   have ih:=ih (by rw[List.map_cons,List.all_cons,Bool.and_eq_true] at h1;exact h1.2)
   rw[List.any_cons,ih];have:eqD (rowT a) (rowT r)=decide (a=r):=agp a r;show(eqD (rowT a) (rowT r)||_)=_;rw[this]
   by_cases q:a=r
   ·simp[q]
   ·have q':¬r=a:=fun z=>q z.symm
    simp[q,q']
 have h3:okD 30 (rowT r)=true:=azi 29 r;simp only[gIn,itemsD,h1,h2,h3,Bool.and_self,if_true]
open Classical in
noncomputable def ah9(L:List Int)(s:Int):Nat:=if q:∃T,T < L.length/\itr L (itr L s L.length) (T+1)=itr L s L.length/\∀i,1<=i->i<=T->itr L (itr L s L.length) i≠itr L s L.length then q.choose else 0
noncomputable def ab4(L:List Int)(s:Int):List Int:=rotm (rg L (itr L s L.length) (ah9 L s))
section
variable{L:List Int}(w:Ways L){s:Int}(hs:s∈ace (lp L))
include w hs
theorem aha:ah9 L s < L.length/\itr L (itr L s L.length) (ah9 L s+1)=itr L s L.length/\∀i,1<=i->i<=ah9 L s->itr L (itr L s L.length) i≠itr L s L.length:=by
 have q:=ayi w hs;unfold ah9;rw[dif_pos q];exact q.choose_spec
theorem alf:ue [.val (.tup (L.map D.int)),.val (.int s)]=some (.ok (.v (rowT (ab4 L s))),[.val (.tup (L.map D.int)),.val (.int s)]):=by
 obtain⟨a,b,c⟩:=aha w hs;exact ajp w hs a b c
omit w hs in
theorem asz{ns:List Int}{x:Int}:x∈rotm ns↔x∈ns:=by
 unfold rotm;rw[List.mem_append,Or.comm,<-List.mem_append,List.take_append_drop]
theorem ait{x:Int}:x∈ab4 L s↔∃m,x=itr L (itr L s L.length) m:=by
 obtain⟨a,b,c⟩:=aha w hs;unfold ab4;rw[asz];unfold rg;constructor
 ·intro q;obtain⟨i,_,rfl⟩:=List.mem_map.mp q;exact⟨i,rfl⟩
 ·rintro⟨m,rfl⟩
  have em:∀n:Nat,itr L (itr L s L.length) (n*(ah9 L s+1))=itr L s L.length:=fun n=>by
   induction n with
   | zero=>rw[Nat.zero_mul];rfl
   | succ n ih=>rw[Nat.succ_mul,kh,ih,b]
  refine List.mem_map.mpr ⟨m % (ah9 L s+1),List.mem_range.mpr (Nat.mod_lt _ (by omega)),?_⟩
  have e:=Nat.div_add_mod m (ah9 L s+1);have:itr L (itr L s L.length) m=itr L (itr L s L.length) (m % (ah9 L s+1)):=by
   rw[<-e,Nat.mul_comm,kh,em,Nat.mul_comm,e]
  exact this.symm
theorem avu:ab4 L s≠[]:=fun z=>by
 have:itr L s L.length∈ab4 L s:=(ait w hs).mpr ⟨0,rfl⟩;rw[z] at this;cases this
end
noncomputable def addR(L:List Int)(rs:LL9)(x:Int):LL9:=if ab4 L x∈rs then rs else rs++[ab4 L x]
theorem aem(L:List Int):∀(C:List Int) (rs:LL9) (r:List Int),r∈C.foldl (addR L) rs↔r∈rs∨∃x∈C,r=ab4 L x
 | [],rs,r=>by simp
 | x::C,rs,r=>by
  rw[List.foldl_cons,aem L C];unfold addR;split
  ·rename_i q;constructor
   ·rintro(z | ⟨y,hy,e⟩)
    ·exact .inl z
    ·exact .inr ⟨y,List.mem_cons_of_mem _ hy,e⟩
   ·rintro(z | ⟨y,hy,e⟩)
    ·exact .inl z
    ·rcases List.mem_cons.mp hy with rfl | hy
     ·exact .inl (e▸q)
     ·exact .inr ⟨y,hy,e⟩
  ·constructor
   ·rintro(z | ⟨y,hy,e⟩)
    ·rcases List.mem_append.mp z with z | z
     ·exact .inl z
     ·exact .inr ⟨x,List.mem_cons_self ..,by simpa using z⟩
    ·exact .inr ⟨y,List.mem_cons_of_mem _ hy,e⟩
   ·rintro(z | ⟨y,hy,e⟩)
    ·exact .inl (List.mem_append_left _ z)
    ·rcases List.mem_cons.mp hy with rfl | hy
     ·exact .inl (List.mem_append_right _ (by simp[e]))
     ·exact .inr ⟨y,hy,e⟩
theorem agk(L:List Int):∀(C:List Int) {rs:LL9},rs.Nodup->(C.foldl (addR L) rs).Nodup
 | [],_,h=>h
 | x::C,rs,h=>by
  rw[List.foldl_cons];refine agk L C ?_;unfold addR;split
  ·exact h
  ·rename_i q;exact List.nodup_append.mpr ⟨h,(by simp),fun a ha b hb z=>q (by rw[List.mem_singleton] at hb;rw[<-hb,<-z];exact ha)⟩
theorem agj(L:List Int):∀(C:List Int) (rs:LL9),(C.foldl (addR L) rs).length<=rs.length+C.length
 | [],_=>by simp
 | x::C,rs=>by
  rw[List.foldl_cons];have:=agj L C (addR L rs x);have:(addR L rs x).length<=rs.length+1:=by unfold addR;split <;> simp
  rw[List.length_cons];omega
noncomputable def adh(L C:List Int):LL9:=afp (C.foldl (addR L) [])
theorem aj6{L C:List Int}{r:List Int}:r∈adh L C↔∃x∈C,r=ab4 L x:=by
 unfold adh;rw[(abv _).mem_iff,aem];simp
section
variable{L:List Int}(w:Ways L){C:List Int}(hC:∀x∈C,x∈ace (lp L))(hz:C.length<=10)(cl:∀x∈C,nxt L x∈C)
include w hC hz cl
theorem avc{x:Int}(hx:x∈ace (lp L)):0<=x/\x < (L.length:Int):=by
 have tI:ace (lp L)=(upto L.length).filter (caught (lp L)):=by unfold ace;rw[ahf]
 rw[tI] at hx;exact ais (List.mem_filter.mp hx).1
theorem aqc:qz [.val (.tup (L.map D.int)),.val (.tup (C.map D.int))]=some (.ok (.fr (C.map D.int)),[.val (.tup (L.map D.int)),.val (.tup (C.map D.int))]):=by
 have ef:compD (jo 0) yp ym (C.map D.int) [] [.emp,.val (.lst (C.map D.int)),.val (.tup (L.map D.int))]=some (.ok (C.map D.int),ae6 .emp (C.map D.int)::[.val (.lst (C.map D.int)),.val (.tup (L.map D.int))]):=by
  rw[yc (p:=fun _=>true) (f:=fun d=>d)]
  ·rw[List.nil_append,List.map_id',List.filter_eq_self.mpr fun _ _=>rfl]
  ·intro d hd;obtain⟨x,hx,rfl⟩:=List.mem_map.mp hd;have hr:=avc w hC hz cl (hC x hx);have er:=ab2 (ns:=L) hr.1 hr.2;have hn:=cl x hx;have:nxt L x=L.getD x.toNat 0:=if_pos hr.1;rw[this] at hn;have e2:=al8 false (L.getD x.toNat 0) C;rw[decide_eq_true hn] at e2;generalize L.getD x.toNat 0=y at *;generalize L.map D.int=LL at *;generalize C.map D.int=CC at *;simp[yp,er,e2]
  ·intro d hd _;obtain⟨x,hx,rfl⟩:=List.mem_map.mp hd;simp[ym]
 have hc:(C.map D.int).length<=capS:=by rw[List.length_map];exact gr (by omega)
 have loop:=yq (c:=nq) (g:=uq)
  (fun n ρ=>ρ=[.val (.tup (L.map D.int)),.val (.tup (C.map D.int)),.own none (C.map D.int),.val (.int ((C.length:Int)+n))]/\n<=1)
  (fun ρ=>∃o,ρ=[.val (.tup (L.map D.int)),.val (.tup (C.map D.int)),.own none (C.map D.int),o])
  ?_ fuel 1 [.val (.tup (L.map D.int)),.val (.tup (C.map D.int)),.own none (C.map D.int),.val (.int ((C.length:Int)+(1:Nat)))] (Nat.lt_trans (by decide) ad0) ⟨rfl,Nat.le_refl _⟩
 ·obtain⟨ρ',e,o,rfl⟩:=loop;have hl:(C.map D.int).length=C.length:=List.length_map ..
  have e:whileD nq uq fuel [.val (.tup (L.map D.int)),.val (.tup (C.map D.int)),.own none (C.map D.int),.val (.int ((C.length:Int)+1))]=some (.nx,[.val (.tup (L.map D.int)),.val (.tup (C.map D.int)),.own none (C.map D.int),o]):=e;generalize L.map D.int=LL at *;generalize C.map D.int=CC at *;simp[qz,adx,hl,e]
 ·rintro n ρ ⟨rfl,hn⟩
  have hl:(C.map D.int).length=C.length:=List.length_map ..
  by_cases q:n=0
  ·subst q;refine .inl ⟨[.val (.tup (L.map D.int)),.val (.tup (C.map D.int)),.own none (C.map D.int),.val (.int ((C.length:Int)+(0:Nat)))],?_,_,rfl⟩;generalize L.map D.int=LL at *;generalize C.map D.int=CC at *;simp[nq,hl]
  ·have:n=1:=by omega
   subst this;refine .inr ⟨[.val (.tup (L.map D.int)),.val (.tup (C.map D.int)),.own none (C.map D.int),.val (.int ((C.length:Int)+(1:Nat)))],[.val (.tup (L.map D.int)),.val (.tup (C.map D.int)),.own none (C.map D.int),.val (.int ((C.length:Int)+(0:Nat)))],0,?_,?_,by omega,rfl,by omega⟩
   ·generalize L.map D.int=LL at *;generalize C.map D.int=CC at *;have:(C.length:Int) < (C.length:Int)+1:=by omega
    simp[nq,hl,this]
   ·generalize L.map D.int=LL at *;generalize C.map D.int=CC at *;rw[hl] at hc;simp[uq,hl,ef,hc]
theorem ale:zr [.val (.tup (L.map D.int)),.val (.tup (C.map D.int))]=some (.ok (.fr ((adh L C).map rowT)),[.val (.tup (L.map D.int)),.val (.tup (C.map D.int))]):=by
 have eg:=aqc w hC hz cl;have loop:∀(xs:List Int) (rs:LL9) (o3 o4:Sl),(∀x∈xs,x∈ace (lp L))->rs.length+xs.length<=10->∃q3 q4,forD (jo 3) tu (xs.map D.int) [.val (.tup (L.map D.int)),.val (.tup (C.map D.int)),.own none (rs.map rowT),o3,o4]=some (.nx,[.val (.tup (L.map D.int)),.val (.tup (C.map D.int)),.own none ((xs.foldl (addR L) rs).map rowT),q3,q4]):=by
  intro xs
  induction xs with
  | nil=>intro rs o3 o4 _ _;exact⟨o3,o4,rfl⟩
  | cons x xs ih =>
   intro rs o3 o4 hx hn;have e1:=alf w (hx x (List.mem_cons_self ..));have e2:=atm true (ab4 L x) rs;have es:tu [.val (.tup (L.map D.int)),.val (.tup (C.map D.int)),.own none (rs.map rowT),.val (.int x),o4]=some (.nx,[.val (.tup (L.map D.int)),.val (.tup (C.map D.int)),.own none ((addR L rs x).map rowT),.val (.int x),.val (rowT (ab4 L x))]):=by
    have hcap:(rs.map rowT).length < capS:=by rw[List.length_map];unfold capS;rw[List.length_cons] at hn;omega
    by_cases q:ab4 L x∈rs
    ·rw[decide_eq_true q] at e2;have:addR L rs x=rs:=if_pos q;rw[this];generalize rowT (ab4 L x)=rr at *;generalize rs.map rowT=RR at *;generalize L.map D.int=LL at *;generalize C.map D.int=CC at *;simp[tu,e1,e2]
    ·rw[decide_eq_false q] at e2;have:addR L rs x=rs++[ab4 L x]:=if_neg q;rw[this,List.map_append];generalize hrr:rowT (ab4 L x)=rr at *;generalize rs.map rowT=RR at *;generalize L.map D.int=LL at *;generalize C.map D.int=CC at *;simp[tu,e1,e2,hcap,hrr]
   have hz2:(addR L rs x).length<=rs.length+1:=by unfold addR;split <;> simp
   obtain⟨q3,q4,e3⟩:=ih (addR L rs x) (.val (.int x)) (.val (rowT (ab4 L x))) (fun y hy=>hx y (List.mem_cons_of_mem _ hy)) (by rw[List.length_cons] at hn;omega)
   refine⟨q3,q4,?_⟩;rw[List.map_cons,wu,List.foldl_cons];simp only[afh,List.set_cons_succ,List.set_cons_zero];rw[es];exact e3
 obtain⟨q3,q4,e⟩:=loop C [] .emp .emp hC (by simpa using hz)
 have hz3:=agj L C [];have es:=ai2 (rows:=C.foldl (addR L) []) (by simp at hz3;omega) (fun r hr=>by
  rcases(aem L C [] r).mp hr with z | ⟨x,hx,rfl⟩
  ·cases z
  ·exact avu w (hC x hx)) (agk L C List.nodup_nil)
 have e:forD (jo 3) tu (C.map D.int) [.val (.tup (L.map D.int)),.val (.tup (C.map D.int)),.own none [],.emp,.emp]=some (.nx,[.val (.tup (L.map D.int)),.val (.tup (C.map D.int)),.own none ((C.foldl (addR L) []).map rowT),q3,q4]):=e;unfold adh;generalize (afp (C.foldl (addR L) [])).map rowT=SS at *;generalize (C.foldl (addR L) []).map rowT=FF at *;generalize L.map D.int=LL at *;generalize C.map D.int=CC at *;simp[zr,ahk,eg,e,es]
end
section
variable{qq:LL9}(h:Hs qq)(sh:Sh qq){as:List Int}(ha:Arr qq as)
include h sh ha
theorem lasts_get0{x:Int}(h0:0<=x)(h1:x < (qq.length:Int)):(lasts qq as).getD x.toNat 0=ab6 qq as x:=by
 have hx:x.toNat < qq.length:=by omega
 rw[List.getD_eq_getElem?_getD,af7 hx,show((x.toNat:Nat):Int)=x by omega]
 rfl
theorem akd{x:Int}(h0:0<=x)(h1:x < (qq.length:Int)):ab6 qq as x∈dr qq x:=by
 have a:=(h.dr h0 h1).1;unfold ab6;have w0:0 < wd qq x:=by unfold wd;omega
 have b0:=Int.emod_nonneg (ar as x - 1) (show wd qq x≠0 by omega)
 have b1:=Int.emod_lt_of_pos (ar as x - 1) w0;have hk:((ar as x - 1) % wd qq x).toNat < (dr qq x).length:=by unfold wd at *;omega
 rw[List.getD_eq_getElem?_getD,List.getElem?_eq_getElem hk];exact List.getElem_mem hk
theorem ass{x:Int}(h0:0<=x)(h1:x < (qq.length:Int)):nxt (lasts qq as) x=ab6 qq as x:=by
 unfold nxt;rw[if_pos h0];exact lasts_get0 h sh ha h0 h1
theorem anw{x:Int}(h0:0<=x)(h1:x < (qq.length:Int)):x∈ace (lp (lasts qq as)):=by
 have tI:ace (lp (lasts qq as))=(upto qq.length).filter (caught (lp (lasts qq as))):=by unfold ace;rw[ahf,jt]
 rw[tI];refine List.mem_filter.mpr ⟨List.mem_map.mpr ⟨x.toNat,List.mem_range.mpr (by omega),by omega⟩,(ahu _ _).mpr fun y r =>?_⟩
 have key:0<=y/\y < (qq.length:Int):=by
  induction r with
  | base=>exact⟨h0,h1⟩
  | step r q hd ih =>
   obtain⟨i0,i1⟩:=ih;rw[a0l i0 (by rw[jt];exact i1),List.mem_singleton,lasts_get0 h sh ha i0 i1] at hd
   have m:=akd h sh ha i0 i1;rw[hd];exact⟨sh.dr m,((h.dr i0 i1).2.2 _ m).2⟩
 exact key.1
variable{k:Int}(hk:0<=k/\k < (qq.length:Int))
include hk
theorem aqt:∀x∈xf qq k,nxt (lasts qq as) x∈xf qq k:=fun x hx=>by
 have hr:=zy h hk x hx;rw[ass h sh ha hr.1 hr.2];exact(xu h hk sh).mpr (.step ((xu h hk sh).mp hx) hr.1 (akd h sh ha hr.1 hr.2))
omit hk in
theorem agu(hk:0<=k/\k < (qq.length:Int)):∀x∈xf qq k,x∈ace (lp (lasts qq as)):=fun x hx=>by
 have hr:=zy h hk x hx;exact anw h sh ha hr.1 hr.2
theorem ahh:(∀r∈adh (lasts qq as) (xf qq k),k∈r)↔∀x,Rch qq k x->∃m,itr (lasts qq as) x m=k:=by
 have w:=aej h ha;constructor
 ·intro q x hx;have hm:=(xu h hk sh).mpr hx;have:=q _ (aj6.mpr ⟨x,hm,rfl⟩);obtain⟨m,e⟩:=(ait w (agu h sh ha hk x hm)).mp this;exact⟨(lasts qq as).length+m,by rw[kh];exact e.symm⟩
 ·intro q r hr;obtain⟨x,hx,rfl⟩:=aj6.mp hr;have cl:∀m:Nat,itr (lasts qq as) x m∈xf qq k:=fun m=>by
   induction m with
   | zero=>exact hx
   | succ m ih=>rw[aiw];exact aqt h sh ha hk _ ih
  obtain⟨m,e⟩:=q _ ((xu h hk sh).mp (cl (lasts qq as).length));exact(ait w (agu h sh ha hk x hx)).mpr ⟨m,e.symm⟩
noncomputable def outR(qq:LL9)(as:List Int)(k:Int):Option (List Int):=(adh (lasts qq as) (xf qq k)).find? fun r => !decide (k∈r)
theorem afw:jj [.val (hD qq),.val (.tup (as.map D.int)),.val (.int k)]=some (.ok (.v (match outR qq as k with | some r=>rowT r | none=>.non)),[.val (hD qq),.val (.tup (as.map D.int)),.val (.int k)]):=by
 have e1:=aex h ha;obtain⟨e2,C⟩:=zz h hk;have w:=aej h ha;have e3:=ale w (agu h sh ha hk) C.len (aqt h sh ha hk);have loop:∀(rs:LL9) (o:Sl),∃q,forD (jo 3) jy (rs.map rowT) [.val (hD qq),.val (.tup (as.map D.int)),.val (.int k),o]=some (match rs.find? fun r => !decide (k∈r) with | some r=>.ret (.v (rowT r)) | none=>.nx,[.val (hD qq),.val (.tup (as.map D.int)),.val (.int k),q]):=by
  intro rs
  induction rs with
  | nil=>intro o;exact⟨o,rfl⟩
  | cons r rs ih =>
   intro o;have e4:gIn true (.int k) (rowT r)=some (.v (.bl (!decide (k∈r)))):=aqf true k r;obtain⟨q,eq⟩:=ih (.val (rowT r));rw[List.map_cons,wu];simp only[afh,List.set_cons_succ,List.set_cons_zero]
   by_cases z:k∈r
   ·rw[decide_eq_true z] at e4;have es:jy [.val (hD qq),.val (.tup (as.map D.int)),.val (.int k),.val (rowT r)]=some (.nx,[.val (hD qq),.val (.tup (as.map D.int)),.val (.int k),.val (rowT r)]):=by
     generalize rowT r=rr at *;generalize hD qq=hh at *;simp[jy,e4]
    rw[es,List.find?_cons,decide_eq_true z];exact⟨q,eq⟩
   ·rw[decide_eq_false z] at e4;have es:jy [.val (hD qq),.val (.tup (as.map D.int)),.val (.int k),.val (rowT r)]=some (.ret (.v (rowT r)),[.val (hD qq),.val (.tup (as.map D.int)),.val (.int k),.val (rowT r)]):=by
     generalize rowT r=rr at *;generalize hD qq=hh at *;simp[jy,e4]
    rw[es,List.find?_cons,decide_eq_false z];exact⟨_,rfl⟩
 obtain⟨q,e5⟩:=loop (adh (lasts qq as) (xf qq k)) .emp;unfold outR;generalize ((adh (lasts qq as) (xf qq k)).find? fun r => !decide (k∈r))=ff at *
 generalize (adh (lasts qq as) (xf qq k)).map rowT=RR at *;generalize (lasts qq as).map D.int=LL at *;generalize (xf qq k).map D.int=CC at *;generalize as.map D.int=AA at *;generalize hD qq=hh at *;cases ff with
 | none =>
  simp only at e5;simp[jj,yg,e1,e2,e3,e5]
 | some r =>
  dsimp only at e5 ⊢
  generalize rowT r=rr at *;simp[jj,yg,e1,e2,e3,e5]
noncomputable def whyD(qq:LL9)(as:List Int)(k:Int):D:=match ai1 qq k with
 | x::_=>.tup [.str "gone", .int x]
 | []=>match outR qq as k with
  | some r=>.tup [.str "ring", rowT r]
  | none=>.non
theorem ajc:xx [.val (hD qq),.val (.tup (as.map D.int)),.val (.int k)]=some (.ok (.v (whyD qq as k)),[.val (hD qq),.val (.tup (as.map D.int)),.val (.int k)]):=by
 have e1:=akg h hk;have e2:=afw h sh ha hk;unfold whyD;cases hg:ai1 qq k with
 | nil =>
  rw[hg] at e1;have e3:gEq true (.lst []) (.lst [])=some (.v (.bl false)):=by kernel_rfl
  generalize as.map D.int=AA at *;generalize hD qq=hh at *;generalize outR qq as k=oo at *;cases oo with
  | none =>
   dsimp only at e2 ⊢
   simp[xx,afa,e1,e2,e3,isN]
  | some r =>
   dsimp only at e2 ⊢
   have e4:rowT r=.tup (r.map D.int):=rfl;simp only[e4] at e2;simp only[e4];generalize r.map D.int=rr at *;simp[xx,afa,e1,e2,e3,isN]
 | cons x r =>
  rw[hg] at e1;have e3:gEq true (.lst ((x::r).map D.int)) (.lst [])=some (.v (.bl true)):=by
   have h1:okD 30 (.lst ((x::r).map D.int))=true:=ahd 29 (x::r);have h2:eqD (.lst ((x::r).map D.int)) (.lst [])=false:=rfl;have h3:okD 30 (.lst [])=true:=rfl;simp only[gEq,h1,h2,h3,Bool.and_self,if_true];rfl
  have e4:atI ((x::r).map D.int) 0=some (.int x):=by simp[atI,ixN]
  generalize as.map D.int=AA at *;generalize hD qq=hh at *;generalize (x::r).map D.int=GG at *;simp[xx,afa,e1,e3,e4]
theorem arv:whyD qq as k=.non↔InG qq as k:=by
 unfold whyD;cases hg:ai1 qq k with
 | nil =>
  have b:=(ang h hk sh).mp hg;cases ho:outR qq as k with
  | none =>
   refine⟨fun _=>⟨b,(ahh h sh ha hk).mp fun r hr =>?_⟩,fun _=>rfl⟩
   have:=List.find?_eq_none.mp ho r hr
   simpa using this
  | some r =>
   refine⟨fun z=>(by cases z),fun g =>?_⟩
   have h1:=List.find?_some ho;have h2:=List.mem_of_find?_eq_some ho;have:=(ahh h sh ha hk).mpr g.lead r h2;simp[this] at h1
 | cons x r =>
  refine⟨fun z=>(by cases z),fun g =>?_⟩
  have:=(ang h hk sh).mpr g.back;rw[hg] at this;cases this
end
def stO(s:List Int×Int):D:=.tup [.tup (s.1.map D.int),.int s.2]
def stD(qq:LL9)(as:List Int)(k:Int)(t:Nat):List D:=(List.range t).map fun i=>stO (run qq as k i)
def kvR(qq:LL9)(as:List Int)(k:Int)(t:Nat):Kvs:=(List.range t).map fun i=>(run qq as k i,(i:Int))
theorem ah3(qq:LL9)(as:List Int)(k:Int)(t:Nat):(stD qq as k t).length=t:=by unfold stD;simp
theorem ar0(qq:LL9)(as:List Int)(k:Int)(t:Nat):stD qq as k (t+1)=stD qq as k t++[stO (run qq as k t)]:=by
 unfold stD;rw[List.range_succ,List.map_append];rfl
theorem am4(qq:LL9)(as:List Int)(k:Int)(t:Nat):kvR qq as k (t+1)=kvR qq as k t++[(run qq as k t,(t:Int))]:=by
 unfold kvR;rw[List.range_succ,List.map_append];rfl
theorem awv(qq:LL9)(as:List Int)(k:Int)(t:Nat):(kvR qq as k t).length=t:=by unfold kvR;simp
theorem alv{qq:LL9}{as:List Int}{k:Int}{t:Nat}{s:StK}:s∈(kvR qq as k t).map (·.1)↔∃i,i < t/\s=run qq as k i:=by
 unfold kvR;rw[List.map_map,List.mem_map];constructor
 ·rintro⟨i,hi,rfl⟩
  exact⟨i,List.mem_range.mp hi,rfl⟩
 ·rintro⟨i,hi,rfl⟩
  exact⟨i,List.mem_range.mpr hi,rfl⟩
theorem am1{qq:LL9}{as:List Int}{k:Int}:∀{N:Nat},(∀i j,i < j->j < N->run qq as k i≠run qq as k j)->∀{a:Nat},a < N->(kvR qq as k N).lookup (run qq as k a)=some (a:Int)
 | 0,_,a,h=>by omega
 | N+1,hd,a,h=>by
  rw[am4,List.lookup_append]
  by_cases q:a < N
  ·rw[am1 (fun i j x y=>hd i j x (by omega)) q]
   rfl
  ·have e:a=N:=by omega
   subst e;have:(kvR qq as k a).lookup (run qq as k a)=none:=by
    rw[List.lookup_eq_none_iff];intro p hp;obtain⟨i,hi,rfl⟩:=List.mem_map.mp hp;have:=hd i a (List.mem_range.mp hi) (by omega)
    simpa using fun z=>this z.symm
   rw[this];simp
abbrev mkR:M D:=mTup (bf (mVar 1) (bf (mVar 2) mNil))
abbrev mvR:M D:=M.d (jb (g1 gL9) (ie 4 mNil))
abbrev maR:M Rv:=M.v (mMut 4 abf (bf (mTup (bf (mVar 1) (bf (mVar 2) mNil))) mNil))
abbrev mlR:M D:=M.d (mFn ug [some 0,some 1,none] (du 0 (du 1 (bh (mVar 2) gj))))
abbrev roR(hh:D)(as:List D)(k:Int)(S:List D):Ro:=[.val hh,.val (.tup as),.val (.int k),.emp,.own none S,.emp]
section
variable{qq:LL9}(h:Hs qq)(sh:Sh qq){as:List Int}(ha:Arr qq as){k:Int}(h0:0<=k)(h1:k < (qq.length:Int))
include h sh ha h0 h1
theorem ao4(t:Nat)(ht:t<=100000)(hn:∀i,i < t->run qq as k i≠run qq as k t) :
  avr mkR mvR maR mlR 1 2 (kvR qq as k t) (roR (hD qq) ((run qq as k t).1.map D.int) (run qq as k t).2 (stD qq as k t))=some (kvR qq as k (t+1),roR (hD qq) ((run qq as k (t+1)).1.map D.int) (run qq as k (t+1)).2 (stD qq as k (t+1))):=by
 obtain⟨a1,a2,a3⟩:=srun h sh ha h0 h1 t;have el:=aws h a1 a2 a3;have hl:=ah3 qq as k t;have hcap:(stD qq as k t).length < capS:=by rw[hl];unfold capS;omega
 have ek:keyD (.tup [.tup ((run qq as k t).1.map D.int),.int (run qq as k t).2])=some (run qq as k t):=al1 _ _;have e1:okR mvR (roR (hD qq) ((run qq as k t).1.map D.int) (run qq as k t).2 (stD qq as k t))=some (.int (t:Int),roR (hD qq) ((run qq as k t).1.map D.int) (run qq as k t).2 (stD qq as k t)):=af3 (by
  generalize stD qq as k t=SS at *;simp[roR,hl])
 have e2:okR mkR (roR (hD qq) ((run qq as k t).1.map D.int) (run qq as k t).2 (stD qq as k t))=some (.tup [.tup ((run qq as k t).1.map D.int),.int (run qq as k t).2],roR (hD qq) ((run qq as k t).1.map D.int) (run qq as k t).2 (stD qq as k t)):=af3 (by simp[roR])
 have e3:okR maR (roR (hD qq) ((run qq as k t).1.map D.int) (run qq as k t).2 (stD qq as k t))=some (.v .non,roR (hD qq) ((run qq as k t).1.map D.int) (run qq as k t).2 (stD qq as k t++[.tup [.tup ((run qq as k t).1.map D.int),.int (run qq as k t).2]])):=af3 (by
  generalize stD qq as k t=SS at *;simp[roR,hcap])
 have e4:okR mlR (roR (hD qq) ((run qq as k t).1.map D.int) (run qq as k t).2 (stD qq as k t++[.tup [.tup ((run qq as k t).1.map D.int),.int (run qq as k t).2]]))=some (.tup [.tup ((gone qq (run qq as k t).1 (run qq as k t).2).map D.int),.int (led qq (run qq as k t).1 (run qq as k t).2)],roR (hD qq) ((run qq as k t).1.map D.int) (run qq as k t).2 (stD qq as k t++[.tup [.tup ((run qq as k t).1.map D.int),.int (run qq as k t).2]])):=af3 (by
  generalize stD qq as k t++[.tup [.tup ((run qq as k t).1.map D.int),.int (run qq as k t).2]]=SS at *;generalize hD qq=hh at *;simp[roR,el])
 have hb:(decide (run qq as k t∈(kvR qq as k t).map (·.1))||decide (100000 < (kvR qq as k t).length))=false:=by
  rw[decide_eq_false,decide_eq_false]
  ·rfl
  ·rw[awv];omega
  ·intro z;obtain⟨i,hi,e⟩:=alv.mp z;exact hn i hi e.symm
 unfold avr;rw[e1];dsimp only[Option.bind_some];rw[show asI (D.int (t:Int))=some (t:Int) from rfl]
 dsimp only[Option.bind_some];rw[e2];dsimp only[Option.bind_some];rw[ek];dsimp only[Option.bind_some];rw[hb,if_neg (by simp),e3]
 dsimp only[Option.bind_some];rw[e4];dsimp only[Option.bind_some,pairD];rw[am4,ar0];rfl
theorem ajk{N:Nat}(hN:N<=100000)(hd:∀i j,i < j->j < N->run qq as k i≠run qq as k j)(hl:∃i,i < N/\run qq as k N=run qq as k i):∀(d t n:Nat),t+d=N->d < n ->
  alb mkR mvR maR mlR 1 2 n (kvR qq as k t) (roR (hD qq) ((run qq as k t).1.map D.int) (run qq as k t).2 (stD qq as k t))=some (kvR qq as k N,roR (hD qq) ((run qq as k N).1.map D.int) (run qq as k N).2 (stD qq as k N))
 | d,t,0,_,h=>absurd h (Nat.not_lt_zero _)
 | d,t,n+1,e,hn=>by
  have ek:keyD (.tup [.tup ((run qq as k t).1.map D.int),.int (run qq as k t).2])=some (run qq as k t):=al1 _ _;have e2:okR mkR (roR (hD qq) ((run qq as k t).1.map D.int) (run qq as k t).2 (stD qq as k t))=some (.tup [.tup ((run qq as k t).1.map D.int),.int (run qq as k t).2],roR (hD qq) ((run qq as k t).1.map D.int) (run qq as k t).2 (stD qq as k t)):=af3 (by simp[roR])
  unfold alb;rw[e2];dsimp only[Option.bind_some];rw[ek];dsimp only[Option.bind_some];cases d with
  | zero =>
   have:t=N:=by omega
   subst this;rw[if_pos];obtain⟨i,hi,ei⟩:=hl;exact decide_eq_true (alv.mpr ⟨i,hi,ei⟩)
  | succ d =>
   rw[if_neg]
   ·rw[ao4 h sh ha h0 h1 t (by omega) fun i hi=>hd i t hi (by omega)]
    dsimp only[Option.bind_some];exact ajk hN hd hl d (t+1) n (by omega) (by omega)
   ·simp only[decide_eq_true_eq];intro z;obtain⟨i,hi,ei⟩:=alv.mp z;exact hd i t hi (by omega) ei.symm
theorem akc(h5:qq.length<=5):∃a m:Nat,1<=m/\a+m<=77760/\(∀i j,i < j->j < a+m->run qq as k i≠run qq as k j)/\run qq as k (a+m)=run qq as k a /\
  uz [.val (hD qq),.val (.tup (as.map D.int)),.val (.int k)]=some (.ok (.v (.tup [.int (a:Int),.int (m:Int),.lst (stD qq as k (a+m))])),[.val (hD qq),.val (.tup ((run qq as k (a+m)).1.map D.int)),.val (.int (run qq as k (a+m)).2)]):=by
 have hp:10*6 ^ qq.length<=77760:=by
  have:6 ^ qq.length<=6 ^ 5:=Nat.pow_le_pow_right (by decide) h5
  omega
 obtain⟨i0,j0,hij,hj,e0⟩:=ag9 h (run qq as k) fun i _=>srun h sh ha h0 h1 i
 obtain⟨N,⟨a,haN,eN⟩,hmin⟩:=least (P:=fun N=>∃i,i < N/\run qq as k i=run qq as k N) j0 ⟨i0,hij,e0⟩
 have hNj:N<=j0:=by
  rcases Nat.lt_or_ge j0 N with q | q
  ·exact absurd ⟨i0,hij,e0⟩ (hmin j0 q)
  ·exact q
 have hd:∀i j,i < j->j < N->run qq as k i≠run qq as k j:=fun i j x y z=>hmin j y ⟨i,x,z⟩
 refine⟨a,N - a,by omega,by omega,by rw[show a+(N - a)=N by omega];exact hd,by rw[show a+(N - a)=N by omega];exact eN.symm,?_⟩
 rw[show a+(N - a)=N by omega]
 have lo:=ajk h sh ha h0 h1 (by omega) hd ⟨a,haN,eN.symm⟩ N 0 fuel (by omega) (Nat.lt_trans (show N < 100000 by omega) ad0)
 have lo:alb mkR mvR maR mlR 1 2 fuel [] [.val (hD qq),.val (.tup (as.map D.int)),.val (.int k),.emp,.own none [],.emp]=some (kvR qq as k N,roR (hD qq) ((run qq as k N).1.map D.int) (run qq as k N).2 (stD qq as k N)):=lo;have lk:=am1 hd haN;rw[eN] at lk;have ek:keyD (.tup [.tup ((run qq as k N).1.map D.int),.int (run qq as k N).2])=some (run qq as k N):=al1 _ _;have e2:okR mkR (roR (hD qq) ((run qq as k N).1.map D.int) (run qq as k N).2 (stD qq as k N))=some (.tup [.tup ((run qq as k N).1.map D.int),.int (run qq as k N).2],roR (hD qq) ((run qq as k N).1.map D.int) (run qq as k N).2 (stD qq as k N)):=af3 (by simp[roR])
 have hl:=ah3 qq as k N;have e0':okR (mLst mNil) [.val (hD qq),.val (.tup (as.map D.int)),.val (.int k),.emp,.emp,.emp]=some (.fr [],[.val (hD qq),.val (.tup (as.map D.int)),.val (.int k),.emp,.emp,.emp]):=af3 (by simp)
 have eg:abd [.val (hD qq),.val (.tup (as.map D.int)),.val (.int k),.emp,.emp,.emp]=some (.ret (.v (.tup [.int (a:Int),.int ((N - a:Nat):Int),.lst (stD qq as k N)])),[.val (hD qq),.val (.tup ((run qq as k N).1.map D.int)),.val (.int (run qq as k N).2),.emp,.val (.lst (stD qq as k N)),.val (.int (a:Int))]):=by
  unfold abd axh;simp only[List.getElem?_cons_succ,List.getElem?_cons_zero,Option.bind_some,List.set_cons_succ,List.set_cons_zero];rw[e0'];simp only[Option.bind_some,List.set_cons_succ,List.set_cons_zero,Rv.sl];rw[lo];dsimp only[Option.bind_some];rw[e2];dsimp only[Option.bind_some];rw[ek];dsimp only[Option.bind_some];rw[lk];dsimp only[Option.bind_some];have ec:(N:Int) - (a:Int)=((N - a:Nat):Int):=by omega
  generalize stD qq as k N=SS at *;simp[roR,hl,ec]
 unfold uz;generalize stD qq as k N=SS at *;generalize hD qq=hh at *;simp[fnD,eg]
end
theorem ald(qq:LL9)(as:List Int)(k:Int)(t:Nat):∀m:Nat,run qq (run qq as k t).1 (run qq as k t).2 m=run qq as k (t+m)
 | 0=>rfl
 | m+1=>by
  show(gone qq (run qq (run qq as k t).1 (run qq as k t).2 m).1 (run qq (run qq as k t).1 (run qq as k t).2 m).2,led qq (run qq (run qq as k t).1 (run qq as k t).2 m).1 (run qq (run qq as k t).1 (run qq as k t).2 m).2)=_;rw[ald qq as k t m];rfl
section
variable{qq:LL9}{as:List Int}{k:Int}{a m:Nat}(hm:1<=m)(e:run qq as k (a+m)=run qq as k a)
include hm e
theorem amu(y:Nat):run qq as k (a+y+m)=run qq as k (a+y):=by
 have:=adg qq as k e y;rw[show a+y+m=a+m+y by omega]
 exact this
theorem ayj:∀x:Nat,a<=x->∃j,a<=j/\j < a+m/\run qq as k x=run qq as k j:=fun x=>by
 induction x using Nat.strongRecOn with
 | ind x ih =>
  intro hx
  by_cases q:x < a+m
  ·exact⟨x,hx,q,rfl⟩
  ·obtain⟨j,j1,j2,j3⟩:=ih (x - m) (by omega) (by omega)
   refine⟨j,j1,j2,?_⟩;have:=amu hm e (x - m - a);rw[show a+(x - m - a)+m=x by omega,show a+(x - m - a)=x - m by omega] at this
   rw[this];exact j3
theorem awt(h:Hs qq)(sh:Sh qq)(ha:Arr qq as)(h0:0<=k)(h1:k < (qq.length:Int)){t:Nat}(ht:a<=t):InG qq (run qq as k t).1 (run qq as k t).2:=by
 obtain⟨a1,a2,a3⟩:=srun h sh ha h0 h1 t;refine ah0 h sh a1 a2 a3 (T:=m) hm ?_;rw[ald];have:=amu hm e (t - a);rw[show a+(t - a)+m=t+m by omega,show a+(t - a)=t by omega] at this
 exact this
theorem aqo(h:Hs qq)(sh:Sh qq)(ha:Arr qq as)(h0:0<=k)(h1:k < (qq.length:Int))(hd:∀i j,i < j->j < a+m->run qq as k i≠run qq as k j){t:Nat}(ht:t < a):¬InG qq (run qq as k t).1 (run qq as k t).2:=fun g=>by
 obtain⟨a1,a2,a3⟩:=srun h sh ha h0 h1 t;obtain⟨T,hT,eT⟩:=aob h sh a1 a2 a3 g;rw[ald] at eT;have em:∀n:Nat,run qq as k (t+n*T)=run qq as k t:=fun n=>by
  induction n with
  | zero=>rw[Nat.zero_mul];rfl
  | succ n ih =>
   have:=adg qq as k (i:=t+T) (j:=t) eT (n*T);rw[Nat.succ_mul,show t+(n*T+T)=t+T+n*T by omega,this]
   exact ih
 obtain⟨j,j1,j2,j3⟩:=ayj hm e (t+a*T) (by
  have:a<=a*T:=Nat.le_mul_of_pos_right a (by omega)
  omega)
 rw[em] at j3;exact hd t j (by omega) j2 j3
end
theorem aw0(d:D):isN d=true↔d=.non:=by cases d <;> simp[isN]
section
variable{qq:LL9}(h:Hs qq)(sh:Sh qq){as:List Int}(ha:Arr qq as){k:Int}(h0:0<=k)(h1:k < (qq.length:Int))
include h sh ha h0 h1
theorem auy:isN (whyD qq as k)=true↔InG qq as k:=by rw[aw0];exact arv h sh ha ⟨h0,h1⟩
end
section
variable{qq:LL9}(h:Hs qq){as:List Int}(ha:Arr qq as){k:Int}(h0:0<=k)(h1:k < (qq.length:Int))
include h ha h0 h1
theorem anz(x:Int):abg [.val (.tup (as.map D.int)),.val (.int k),.val (.int x)]=some (.ok (.v (.tup ((as.set k.toNat x).map D.int))),[.val (.tup (as.map D.int)),.val (.int k),.val (.int x)]):=by
 have hl:=ha.len;have hm:=h.most;have c1:=axk (ns:=as.map D.int) h0 (by rw[List.length_map];omega)
 have c2:=agr (ns:=as.map D.int) (k:=k+1) (by omega) (by rw[List.length_map];omega)
 have hk:(k+1).toNat=k.toNat+1:=by omega
 rw[hk] at c2;have e:(as.map D.int).take k.toNat++[D.int x]++(as.map D.int).drop (k.toNat+1)=(as.set k.toNat x).map D.int:=by
  rw[List.append_assoc,List.singleton_append,take_set_drop _ _ _ (by rw[List.length_map];omega),List.map_set]
 have l1:((as.map D.int).take k.toNat).length<=10:=by rw[List.length_take,List.length_map];omega
 have l2:((as.map D.int).drop (k.toNat+1)).length<=10:=by rw[List.length_drop,List.length_map];omega
 generalize (as.map D.int).take k.toNat=ta at c1 e l1;generalize (as.map D.int).drop (k.toNat+1)=td at c2 e l2;have l3:ta.length+1<=capS:=gr (by omega)
 have l4:ta.length+1+td.length<=capS:=gr (by omega)
 simp only[List.append_assoc,List.singleton_append] at e;simp[abg,akh,c1,c2,l3,l4,e]
end
theorem akb{l:List Int}(hl:l.length<=1000):uy [.val (.tup (l.map D.int)),.val (.tup (l.map D.int))]=some (.ok (.v (.bl true)),[.val (.tup (l.map D.int)),.val (.tup (l.map D.int))]):=by
 have e1:gEq true (.tup (l.map D.int)) (.tup (l.map D.int))=some (.v (.bl false)):=by rw[atn];simp
 have e4:compD (jo 0) (ret true) aal (l.map D.int) [] [.emp]=some (.ok (l.map fun _=>.bl true),ae6 .emp (l.map D.int)::[]):=by
  rw[ags (f:=fun _=>.bl true)]
  ·simp
  ·intro d hd;obtain⟨k,_,rfl⟩:=List.mem_map.mp hd;simp[aal,afl]
 have hc:l.length<=capS:=gr hl;simp[uy,ae0,isTy,e1,e4,hc,Function.comp_def]
theorem aor{L:List Int}(hL:L.length<=10){p q r:Int}(hp:∀m,0<=itr L p m/\itr L p m < (L.length:Int)){m:Nat}(e:itr L p m=q)(hmin:∀i,i < m->itr L p i≠q)(hq:nxt L q=p) :
  lg [.val (.tup (L.map D.int)),.val (.int r),.val (.int p)]=some (.ok (.v (.int q)),[.val (.tup (L.map D.int)),.val (.int r),.val (.int p)]):=by
 have hm:m < 100:=by
  rcases Nat.lt_or_ge m 100 with z | z
  ·exact z
  ·obtain⟨i,j,hij,hj,ee⟩:=pig (fun i=>itr L p i) L.length fun i _=>hp i
   have ee:itr L p i=itr L p j:=ee;have e3:itr L p (i+(m - j))=q:=by
    rw[kh,ee,<-kh,show j+(m - j)=m by omega]
    exact e
   exact absurd e3 (hmin _ (by omega))
 have at2:∀i,atI (L.map D.int) (itr L p i)=some (.int (itr L p (i+1))):=fun i=>by
  rw[am6 L p i (hp i).1];exact ab2 (hp i).1 (hp i).2
 have nb:∀i,i < m->itr L p (i+1)≠p:=fun i hi z=>by
  have e3:itr L p (m - (i+1))=q:=by
   have:=kh L (i+1) (m - (i+1)) p;rw[show i+1+(m - (i+1))=m by omega,z,e] at this
   exact this.symm
  exact hmin _ (by omega) e3
 have last:itr L p (m+1)=p:=by rw[aiw,e,hq]
 have loop:=yq (c:=oh) (g:=u6)
  (fun n ρ=>∃i:Nat,i<=m/\n=m - i/\ρ=[.val (.tup (L.map D.int)),.val (.int r),.val (.int p),.val (.int (itr L p i)),.val (.int (itr L p (i+1)))])
  (fun ρ=>∃o,ρ=[.val (.tup (L.map D.int)),.val (.int r),.val (.int p),.val (.int q),o])
  ?_ fuel m [.val (.tup (L.map D.int)),.val (.int r),.val (.int p),.val (.int p),.val (.int (itr L p 1))] (Nat.lt_trans (show m < 100000 by omega) ad0) ⟨0,by omega,rfl,rfl⟩
 ·obtain⟨ρ',e2,o,rfl⟩:=loop;have a0:=at2 0;have p0:0<=p:=(hp 0).1;have a0:atI (L.map D.int) p=some (.int (itr L p 1)):=a0;generalize itr L p 1=y at *;generalize L.map D.int=LL at *;simp[lg,abb,p0,a0,e2]
 ·rintro n ρ ⟨i,hi,rfl,rfl⟩
  rcases Nat.lt_or_ge i m with z | z
  ·have hne:=nb i z;have a1:=at2 (i+1);have p1:=(hp (i+1)).1;refine .inr ⟨[.val (.tup (L.map D.int)),.val (.int r),.val (.int p),.val (.int (itr L p i)),.val (.int (itr L p (i+1)))],[.val (.tup (L.map D.int)),.val (.int r),.val (.int p),.val (.int (itr L p (i+1))),.val (.int (itr L p (i+1+1)))],m - (i+1),?_,?_,by omega,i+1,by omega,rfl,rfl⟩
   ·generalize itr L p (i+1)=y at *;generalize L.map D.int=LL at *;simp[oh,hne]
   ·generalize itr L p (i+1+1)=y2 at *;generalize itr L p (i+1)=y at *;generalize L.map D.int=LL at *;simp[u6,p1,a1]
  ·have:i=m:=by omega
   subst this;refine .inl ⟨[.val (.tup (L.map D.int)),.val (.int r),.val (.int p),.val (.int (itr L p i)),.val (.int (itr L p (i+1)))],?_,_,by rw[e]⟩
   rw[last];generalize L.map D.int=LL at *;simp[oh]
theorem aoo:lq [.val (.exn "NeverBack" [])]=some (.ok (.v (.str "never")),[.val (.exn "NeverBack" [])]):=by kernel_rfl
theorem ap0:lq [.val (.exn "NotShut" [])]=some (.ok (.v (.str "shut")),[.val (.exn "NotShut" [])]):=by kernel_rfl
theorem asu:("NeverBack" : Str)∈NS:=List.contains_iff_mem.mp (by decide +kernel)
theorem awi:("NotShut" : Str)∈NS:=List.contains_iff_mem.mp (by decide +kernel)
section
variable{qq:LL9}(h:Hs qq)
include h
theorem ax5{bad:D}(hb:arrB qq bad=false)(d:D):fu [.val (hD qq),.val bad,.val d]=some (.ok (.v (.str "arrows")),[.val (hD qq),.val bad,.val d]):=by
 have e:=avn h hb d;have e2:bw [.val (hD qq),.val bad,.val d]=some (.exc ⟨"NoArrows", []⟩,[.val (hD qq),.val bad,.val d]):=by
  generalize hD qq=hh at *;simp[bw,g8,e]
 have e3:fj [.val (hD qq),.val bad,.val d]=some (.exc ⟨"NoArrows", []⟩,[.val (hD qq),.val bad,.val d]):=by
  generalize hD qq=hh at *;simp[fj,qj,e2]
 generalize hD qq=hh at *;simp[fu,ud,dTry,e3,aps,ux,alz]
theorem auc{as:List Int}(ha:Arr qq as){d:D}(hd:ig 0 ((qq.length:Int) - 1) d=false):fu [.val (hD qq),.val (.tup (as.map D.int)),.val d]=some (.ok (.v (.str "room")),[.val (hD qq),.val (.tup (as.map D.int)),.val d]):=by
 have e:=avm h ha hd;have e2:bw [.val (hD qq),.val (.tup (as.map D.int)),.val d]=some (.exc ⟨"NoRoom", []⟩,[.val (hD qq),.val (.tup (as.map D.int)),.val d]):=by
  generalize hD qq=hh at *;simp[bw,g8,e]
 have e3:fj [.val (hD qq),.val (.tup (as.map D.int)),.val d]=some (.exc ⟨"NoRoom", []⟩,[.val (hD qq),.val (.tup (as.map D.int)),.val d]):=by
  generalize hD qq=hh at *;simp[fj,qj,e2]
 generalize hD qq=hh at *;simp[fu,ud,dTry,e3,awj,ux,ap1]
variable{as:List Int}(ha:Arr qq as){k:Int}(hk:0<=k/\k < (qq.length:Int))
include ha hk
theorem ax4(hs:an8 qq=false):fu [.val (hD qq),.val (.tup (as.map D.int)),.val (.int k)]=some (.ok (.v (.str "shut")),[.val (hD qq),.val (.tup (as.map D.int)),.val (.int k)]):=by
 have e:=aml h ha hk.1 hk.2;have es:=ahi h;rw[hs] at es;have e1:gf [.val (hD qq)]=some (.exc ⟨"NotShut", []⟩,[.val (hD qq)]):=by
  generalize hD qq=hh at *;simp[gf,uc,es]
 have e2:bw [.val (hD qq),.val (.tup (as.map D.int)),.val (.int k)]=some (.exc ⟨"NotShut", []⟩,[.val (hD qq),.val (.tup (as.map D.int)),.val (.int k)]):=by
  generalize hD qq=hh at *;simp[bw,g8,e,e1]
 have e3:fj [.val (hD qq),.val (.tup (as.map D.int)),.val (.int k)]=some (.exc ⟨"NotShut", []⟩,[.val (hD qq),.val (.tup (as.map D.int)),.val (.int k)]):=by
  generalize hD qq=hh at *;simp[fj,qj,e2]
 generalize hD qq=hh at *;simp[fu,ud,dTry,e3,awi,ux,ap0]
variable(sh:Sh qq)
include sh
theorem ac9:bw [.val (hD qq),.val (.tup (as.map D.int)),.val (.int k)]=some (.ok (.v .non),[.val (hD qq),.val (.tup (as.map D.int)),.val (.int k)]):=by
 have e:=aml h ha hk.1 hk.2;have e1:=agz h sh;generalize hD qq=hh at *;simp[bw,g8,e,e1]
theorem an4(hn:¬InG qq as k):fu [.val (hD qq),.val (.tup (as.map D.int)),.val (.int k)]=some (.ok (.v (.str "never")),[.val (hD qq),.val (.tup (as.map D.int)),.val (.int k)]):=by
 have e:=ac9 h ha hk sh;have ew:=ajc h sh ha hk;have hw:isN (whyD qq as k)=false:=by
  cases z:isN (whyD qq as k) with
  | false=>rfl
  | true=>exact absurd ((auy h sh ha hk.1 hk.2).mp z) hn
 have e3:fj [.val (hD qq),.val (.tup (as.map D.int)),.val (.int k)]=some (.exc ⟨"NeverBack", []⟩,[.val (hD qq),.val (.tup (as.map D.int)),.val (.int k)]):=by
  generalize whyD qq as k=ww at *;generalize hD qq=hh at *;simp[fj,qj,e,ew,hw]
 generalize hD qq=hh at *;simp[fu,ud,dTry,e3,asu,ux,aoo]
theorem ak7:qy [.val (hD qq),.val (.tup ((gone qq as k).map D.int)),.val (.int k),.val (.int (-1))]=some (.ok (.v (.tup (as.map D.int))),[.val (hD qq),.val (.tup ((gone qq as k).map D.int)),.val (.int k),.val (.int (-1))]):=by
 have hg:=ai0 h ha hk.1 hk.2;have e1:=ai9 hk.1 hk.2;have e2:=aja h hg hk.1 hk.2;have e4:=akm h hg hk.1 hk.2 (ar (gone qq as k) k + -1);have e5:=anz h hg hk.1 hk.2 ((ar (gone qq as k) k + -1) % ((dr qq k).length:Int));have u:(ar (gone qq as k) k + -1) % ((dr qq k).length:Int)=ar as k:=aeq h ha hk.1 hk.2;rw[u] at e4 e5;rw[agd h ha hk.1 hk.2] at e5;generalize gone qq as k=G at *;simp[qy,adw,hD,e1,e2,e4,e5]
theorem ao0(g:InG qq as k):fu [.val (hD qq),.val (.tup ((gone qq as k).map D.int)),.val (.int (led qq as k))]=some (.ok (.v (.tup [.tup (as.map D.int),.int k])),[.val (hD qq),.val (.tup ((gone qq as k).map D.int)),.val (.int (led qq as k))]):=by
 have hg:=ai0 h ha hk.1 hk.2;have hl:=aus h sh ha hk.1 hk.2;have e:=ac9 h hg hl sh;have ew:=ajc h sh hg hl;have hw:isN (whyD qq (gone qq as k) (led qq as k))=true:=(auy h sh hg hl.1 hl.2).mpr (InG.step h sh ha hk.1 hk.2 g);have el:=aex h hg;have rk:Rch qq k (led qq as k):=.step .base hk.1 (aeh ha hk.1 hk.2);obtain⟨m,m1,m2,m3⟩:=aiu (d:=led qq as k) hk.1 (by rw[jt];exact hk.2) (g.lead _ rk)
 rw[<-zg h ha hk.1 hk.2] at m1 m2 m3;have w:=aej h hg;have ea:=aor (r:=led qq as k) w.most (fun i=>al3 w (anw h sh hg hl.1 hl.2) i) m1 m2 m3
 have et:=ak7 h ha hk sh;have e3:fj [.val (hD qq),.val (.tup ((gone qq as k).map D.int)),.val (.int (led qq as k))]=some (.ok (.v (.tup [.tup (as.map D.int),.int k])),[.val (hD qq),.val (.tup ((gone qq as k).map D.int)),.val (.int (led qq as k))]):=by
  generalize whyD qq (gone qq as k) (led qq as k)=ww at *;generalize (lasts qq (gone qq as k)).map D.int=LL at *;generalize (gone qq as k).map D.int=GG at *;generalize led qq as k=y at *;generalize hD qq=hh at *;simp[fj,qj,e,ew,hw,el,ea,et]
 generalize (gone qq as k).map D.int=GG at *;generalize led qq as k=y at *;generalize hD qq=hh at *;simp[fu,ud,dTry,e3]
end
structure Cy (L:List Int) (r:List Int) (μ:Int) (T:Nat):Prop where
 is:r=rg L μ T
 per:itr L μ (T+1)=μ
 min:∀i,1<=i->i<=T->itr L μ i≠μ
 least:minI r=μ
theorem azo{L:List Int}{p:Int}{T:Nat}{x:Int}:x∈rg L p T↔∃i,i<=T/\x=itr L p i:=by
 unfold rg;rw[List.mem_map];constructor
 ·rintro⟨i,hi,rfl⟩
  exact⟨i,by have:=List.mem_range.mp hi;omega,rfl⟩
 ·rintro⟨i,hi,rfl⟩
  exact⟨i,List.mem_range.mpr (by omega),rfl⟩
theorem axi{L:List Int}{p:Int}{T:Nat}(e:itr L p (T+1)=p)(n:Nat):itr L p (n*(T+1))=p:=by
 induction n with
 | zero=>rw[Nat.zero_mul];rfl
 | succ n ih=>rw[Nat.succ_mul,kh,ih,e]
theorem axj{L:List Int}{p:Int}{T:Nat}(e:itr L p (T+1)=p)(m:Nat):itr L p m=itr L p (m % (T+1)):=by
 have z:=Nat.div_add_mod m (T+1);have:itr L p m=itr L p (m / (T+1)*(T+1)+m % (T+1)):=by rw[Nat.mul_comm,z]
 rw[this,kh,axi e]
theorem awp{L:List Int}{p:Int}{T:Nat}(e:itr L p (T+1)=p){x:Int}:x∈rg L p T↔∃m,x=itr L p m:=by
 rw[azo];constructor
 ·rintro⟨i,_,rfl⟩
  exact⟨i,rfl⟩
 ·rintro⟨m,rfl⟩
  exact⟨m % (T+1),by have:=Nat.mod_lt m (show 0 < T+1 by omega);omega,axj e m⟩
theorem awn:∀{r:List Int} {x:Int},x∈r->minI r<=x
 | [],_,h=>by cases h
 | y::r,x,h=>by
  have key:∀(r:List Int) (y:Int),r.foldl (fun m z=>if decide (z < m)=true then z else m) y<=y/\∀x∈r,r.foldl (fun m z=>if decide (z < m)=true then z else m) y<=x:=by
   intro r
   induction r with
   | nil=>intro y;exact⟨Int.le_refl _,fun x hx=>by cases hx⟩
   | cons z t ih =>
    intro y;rw[List.foldl_cons];obtain⟨a,b⟩:=ih (if decide (z < y)=true then z else y)
    by_cases q:z < y
    ·rw[decide_eq_true q,if_pos rfl] at a b ⊢
     exact⟨by omega,fun x hx=>by
      rcases List.mem_cons.mp hx with rfl | hx
      ·exact a
      ·exact b x hx⟩
    ·rw[decide_eq_false q,if_neg (by simp)] at a b ⊢
     exact⟨a,fun x hx=>by
      rcases List.mem_cons.mp hx with rfl | hx
      ·omega
      ·exact b x hx⟩
  obtain⟨a,b⟩:=key r y;rcases List.mem_cons.mp h with rfl | h
  ·exact a
  ·exact b x h
theorem Cy.mem{L r:List Int}{μ:Int}{T:Nat}(c:Cy L r μ T){x:Int}:x∈r↔∃m,x=itr L μ m:=by
 rw[c.is];exact awp c.per
theorem a3z:gEq false (.str "never") (.str "never")=some (.v (.bl true)):=by kernel_rfl
theorem a4a:gEq true (.str "arrows") (.str "arrows")=some (.v (.bl false)):=by kernel_rfl
theorem a3y:gEq true (.str "room") (.str "room")=some (.v (.bl false)):=by kernel_rfl
theorem a3x:gEq true (.str "shut") (.str "shut")=some (.v (.bl false)):=by kernel_rfl
section
variable{qq:LL9}(h:Hs qq)(sh:Sh qq){as:List Int}(ha:Arr qq as){k:Int}(hk:0<=k/\k < (qq.length:Int))
include h sh ha hk
theorem afx(hn:¬InG qq as k):iu [.val (hD qq),.val (.tup (as.map D.int)),.val (.int k),.val .non]=some (.ok (.v (.bl true)),[.val (hD qq),.val (.tup (as.map D.int)),.val (.int k),.val .non]):=by
 have e:=an4 h ha hk sh hn;generalize as.map D.int=AA at *;generalize hD qq=hh at *;simp[iu,abe,e,isN,a3z]
theorem ahb(g:InG qq as k):iu [.val (hD qq),.val (.tup ((gone qq as k).map D.int)),.val (.int (led qq as k)),.val (stO (as,k))]=some (.ok (.v (.bl true)),[.val (hD qq),.val (.tup ((gone qq as k).map D.int)),.val (.int (led qq as k)),.val (stO (as,k))]):=by
 have e:=ao0 h ha hk sh g;have et:=akb (l:=as) (by have:=ha.len;have:=h.most;omega)
 have a0:atI [D.tup (as.map D.int),.int k] 0=some (.tup (as.map D.int)):=by simp[atI,ixN]
 have a1:atI [D.tup (as.map D.int),.int k] 1=some (.int k):=by simp[atI,ixN]
 have es:stO (as,k)=.tup [.tup (as.map D.int),.int k]:=rfl;rw[es];generalize (gone qq as k).map D.int=GG at *;generalize led qq as k=y at *;generalize as.map D.int=AA at *;generalize hD qq=hh at *;simp[iu,abe,e,isN,isTy,a0,a1,et,afl]
end
theorem ari{qq:LL9}{as:List Int}{k:Int}{t:Nat}(n:Nat)(ht:t < n):(stD qq as k n)[t]? = some (stO (run qq as k t)):=by
 unfold stD;rw[List.getElem?_map,List.getElem?_range ht];rfl
theorem avz{qq:LL9}{as:List Int}{k:Int}{a m t:Nat}(hm:1<=m)(e:run qq as k (a+m)=run qq as k a)(h1:a<=t)(h2:t < a+m) :
  ∃j,a<=j/\atI ((stD qq as k (a+m)).drop a++(stD qq as k (a+m)).drop a) ((t:Int) - (a:Int)+(m:Int) - 1)=some (stO (run qq as k j))/\run qq as k (j+1)=run qq as k t:=by
 have hl:((stD qq as k (a+m)).drop a).length=m:=by rw[List.length_drop,ah3];omega
 have ei:(t:Int) - (a:Int)+(m:Int) - 1=((t - a+m - 1:Nat):Int):=by omega
 rw[ei]
 by_cases q:t=a
 ·refine⟨a+m - 1,by omega,ac1 ?_,by rw[show a+m - 1+1=a+m by omega,e,q]⟩
  rw[List.getElem?_append_left (by omega),List.getElem?_drop,ari _ (by omega)]
  congr 3
  omega
 ·refine⟨t - 1,by omega,ac1 ?_,by rw[show t - 1+1=t by omega]⟩
  rw[List.getElem?_append_right (by omega),List.getElem?_drop,ari _ (by omega)]
  congr 3
  omega
theorem a3h{qq:LL9}(h:Hs qq)(sh:Sh qq){as:List Int}(ha:Arr qq as){k:Int}(h0:0<=k)(h1:k < (qq.length:Int)){a m:Nat}(hm:1<=m)(hz:a+m<=77760)(hd:∀i j,i < j->j < a+m->run qq as k i≠run qq as k j)(e:run qq as k (a+m)=run qq as k a)(S C P A K:Sl)(u:Nat)(o10 o11 o12 o13:Sl) :
  ∃q9 q10,l1_law [S,C,P,.val (hD qq),A,K,.val (.int (a:Int)),.val (.int (m:Int)),.val (.lst (stD qq as k (a+m))),.val (.int (u:Int)),o10,o11,o12,o13]=some (.nx,[S,C,P,.val (hD qq),A,K,.val (.int (a:Int)),.val (.int (m:Int)),.val (.lst (stD qq as k (a+m))),q9,q10,o11,o12,o13]):=by
 have hl:=ah3 qq as k (a+m);obtain⟨t,ht,et⟩:∃t:Nat,t < a+m/\(if ((a+m:Nat):Int) - 1 < (u:Int) then ((a+m:Nat):Int) - 1 else (u:Int))=(t:Int):=by
  by_cases q:((a+m:Nat):Int) - 1 < (u:Int)
  ·exact⟨a+m - 1,by omega,by rw[if_pos q];omega⟩
  ·exact⟨u,by omega,by rw[if_neg q]⟩
 obtain⟨a1,a2,a3⟩:=srun h sh ha h0 h1 t;have e1:atI (stD qq as k (a+m)) (t:Int)=some (stO (run qq as k t)):=ac1 (ari (a+m) ht);have x0:atI [D.tup ((run qq as k t).1.map D.int),.int (run qq as k t).2] 0=some (.tup ((run qq as k t).1.map D.int)):=by simp[atI,ixN]
 have x1:atI [D.tup ((run qq as k t).1.map D.int),.int (run qq as k t).2] 1=some (.int (run qq as k t).2):=by simp[atI,ixN]
 by_cases q:a<=t
 ·obtain⟨j,j1,j2,j3⟩:=avz hm e q ht;obtain⟨b1,b2,b3⟩:=srun h sh ha h0 h1 j;have r:=ahb h sh b1 ⟨b2,b3⟩ (awt hm e h sh ha h0 h1 j1);have g1:gone qq (run qq as k j).1 (run qq as k j).2=(run qq as k t).1:=congrArg Prod.fst j3;have g2:led qq (run qq as k j).1 (run qq as k j).2=(run qq as k t).2:=congrArg Prod.snd j3;rw[g1,g2] at r;have c1:=agr (ns:=stD qq as k (a+m)) (k:=(a:Int)) (by omega) (by rw[hl];omega)
  rw[Int.toNat_natCast] at c1;have hcap:(((stD qq as k (a+m)).drop a).length*2<=capS):=by rw[List.length_drop,hl];unfold capS;omega
  have qi:(a:Int)<=(t:Int):=by omega
  have er:(List.replicate 2 ((stD qq as k (a+m)).drop a)).flatten=(stD qq as k (a+m)).drop a++(stD qq as k (a+m)).drop a:=by simp[List.replicate]
  refine⟨.val (.int (t:Int)),.val (stO (run qq as k j)),?_⟩;rw[show((run qq as k j).1,(run qq as k j).2)=run qq as k j from rfl] at r
  unfold stO at e1;generalize stO (run qq as k j)=dd at *;generalize (stD qq as k (a+m)).drop a=XX at *;generalize stD qq as k (a+m)=SS at *;generalize (run qq as k t).1.map D.int=RR at *;generalize (run qq as k t).2=pp at *;generalize hD qq=hh at *;rw[<-hl] at et;generalize (a:Int)=x at *;generalize (t:Int)=y at *;generalize (m:Int)=z at *;generalize (u:Int)=uu at *;simp[l1_law,et,qi,c1,hcap,er,j2,e1,x0,x1,r]
 ·have r:=afx h sh a1 ⟨a2,a3⟩ (aqo hm e h sh ha h0 h1 hd (by omega))
  have qi:¬(a:Int)<=(t:Int):=by omega
  refine⟨.val (.int (t:Int)),.val .non,?_⟩;unfold stO at e1;generalize stD qq as k (a+m)=SS at *;generalize (run qq as k t).1.map D.int=RR at *;generalize (run qq as k t).2=pp at *;generalize hD qq=hh at *;rw[<-hl] at et;generalize (a:Int)=x at *;generalize (t:Int)=y at *;generalize (u:Int)=uu at *;simp[l1_law,et,qi,e1,x0,x1,r]
theorem a3g(S C P:Sl){qq:LL9}(h:Hs qq)(h5:qq.length<=5)(sh:Sh qq){as:List Int}(ha:Arr qq as){k:Int}(h0:0<=k)(h1:k < (qq.length:Int))(o6 o7 o8 o9 o10 o11 o12 o13:Sl) :
  ∃q6 q7 q8 q9 q10,l2_law [S,C,P,.val (hD qq),.val (.tup (as.map D.int)),.val (.int k),o6,o7,o8,o9,o10,o11,o12,o13]=some (.nx,[S,C,P,.val (hD qq),.val (.tup (as.map D.int)),.val (.int k),q6,q7,q8,q9,q10,o11,o12,o13]):=by
 obtain⟨a,m,hm,hz,hd,e,er⟩:=akc h sh ha h0 h1 h5;have L:=fun(u:Nat) (o10:Sl)=>a3h h sh ha h0 h1 hm hz hd e S C P (.val (.tup (as.map D.int))) (.val (.int k)) u o10 o11 o12 o13
 obtain⟨s9,s10,z0⟩:=L 0 o10;obtain⟨t9,t10,z1⟩:=L (a - 1) s10;obtain⟨u9,u10,z2⟩:=L a t10;obtain⟨v9,v10,z3⟩:=L (a+1) u10;obtain⟨w9,w10,z4⟩:=L (a+m - 1) v10
 clear L
 have c1:(if 1 < (a:Int) then (a:Int) - 1 else 0)=((a - 1:Nat):Int):=by split <;> omega
 have c2:(a:Int)+1=((a+1:Nat):Int):=by omega
 have c3:(a:Int)+(m:Int) - 1=((a+m - 1:Nat):Int):=by omega
 refine⟨.val (.int (a:Int)),.val (.int (m:Int)),.val (.lst (stD qq as k (a+m))),w9,w10,?_⟩;generalize stD qq as k (a+m)=SS at *;generalize (run qq as k (a+m)).1.map D.int=RR at *;generalize as.map D.int=AA at *;generalize hD qq=hh at *;rw[show((0:Nat):Int)=0 from rfl] at z0
 generalize ((a - 1:Nat):Int)=x1 at *;generalize ((a+1:Nat):Int)=x2 at *;generalize ((a+m - 1:Nat):Int)=x3 at *;generalize (a:Int)=x at *;generalize (m:Int)=y at *;simp[l2_law,er,c1,c2,c3,wu,z0,z1,z2,z3,z4]
theorem loop2(S C P:Sl){qq:LL9}(h:Hs qq)(h5:qq.length<=5)(sh:Sh qq){as:List Int}(ha:Arr qq as)(o11 o12 o13:Sl):∀(ks:List Int) (o5 o6 o7 o8 o9 o10:Sl),(∀k∈ks,0<=k/\k < (qq.length:Int)) ->
  ∃q5 q6 q7 q8 q9 q10,forD (jo 5) l2_law (ks.map D.int) [S,C,P,.val (hD qq),.val (.tup (as.map D.int)),o5,o6,o7,o8,o9,o10,o11,o12,o13]=some (.nx,[S,C,P,.val (hD qq),.val (.tup (as.map D.int)),q5,q6,q7,q8,q9,q10,o11,o12,o13])
 | [],o5,o6,o7,o8,o9,o10,_=>⟨_,_,_,_,_,_,rfl⟩
 | k::ks,o5,o6,o7,o8,o9,o10,hk=>by
  obtain⟨k0,k1⟩:=hk k (List.mem_cons_self ..);obtain⟨p6,p7,p8,p9,p10,e1⟩:=a3g S C P h h5 sh ha k0 k1 o6 o7 o8 o9 o10 o11 o12 o13;obtain⟨q5,q6,q7,q8,q9,q10,e2⟩:=loop2 S C P h h5 sh ha o11 o12 o13 ks (.val (.int k)) p6 p7 p8 p9 p10 fun x hx=>hk x (List.mem_cons_of_mem _ hx)
  refine⟨q5,q6,q7,q8,q9,q10,?_⟩;rw[List.map_cons,wu];simp only[afh,List.set_cons_succ,List.set_cons_zero];rw[e1];exact e2
theorem afc{l:List D}:cutD l none (some (-1))=l.dropLast:=by
 unfold cutD;have e1:HT.sIx l.length 0 none=0:=rfl;have e2:HT.sIx l.length l.length (some (-1))=l.length - 1:=by
  show(if (-1:Int) < 0 then ((-1:Int)+(l.length:Int)).toNat else min (-1:Int).toNat l.length)=_
  rw[if_pos (by decide)]
  omega
 rw[e1,e2,List.drop_zero,Nat.sub_zero,List.dropLast_eq_take]
theorem at5{l:List D}{d:D}:atI (l++[d]) (-1)=some d:=by
 have h3:ixN (l++[d]).length (-1)=some l.length:=by
  unfold ixN;have a2 : -((l++[d]).length:Int)<=(-1:Int):=by rw[List.length_append,List.length_singleton];omega
  rw[if_neg (by decide),if_pos a2]
  congr 1
  rw[List.length_append,List.length_singleton];omega
 unfold atI;rw[h3];simp
def gat(qq:LL9):LL9:=qq.dropLast++[(qq.getLast?.getD []).dropLast++[-1]]
section
variable{qq:LL9}(h:Hs qq)
include h
theorem zj:∃init r,qq=init++[r]/\gat qq=init++[r.dropLast++[-1]]/\1<=r.length:=by
 have hne:qq≠[]:=fun z=>by have:=h.one;rw[z] at this;simp at this
 obtain⟨init,r,rfl⟩:∃init r,qq=init++[r]:=⟨qq.dropLast,qq.getLast hne,(List.dropLast_concat_getLast hne).symm⟩
 refine⟨init,r,rfl,?_,(h.room r (by simp)).1⟩
 unfold gat;simp
theorem a0c:Hs (gat qq):=by
 obtain⟨init,r,e1,e2,hr⟩:=zj h;have hl:(gat qq).length=qq.length:=by rw[e2,e1];simp
 refine⟨by rw[hl];exact h.one,by rw[hl];exact h.most,fun q hq =>?_⟩
 rw[hl];rw[e2] at hq;have h1:=h.one;rcases List.mem_append.mp hq with z | z
 ·exact h.room q (by rw[e1];exact List.mem_append_left _ z)
 ·rw[List.mem_singleton] at z;obtain⟨_,b,c⟩:=h.room r (by rw[e1];simp)
  refine⟨by rw[z];simp,by rw[z,List.length_append,List.length_dropLast,List.length_singleton];omega,fun x hx =>?_⟩
  rw[z] at hx;rcases List.mem_append.mp hx with y | y
  ·exact c x ((List.dropLast_sublist r).subset y)
  ·rw[List.mem_singleton] at y;omega
theorem aw4{as:List Int}(ha:Arr qq as):Arr (gat qq) as:=by
 obtain⟨init,r,e1,e2,hr⟩:=zj h;have hl:(gat qq).length=qq.length:=by rw[e2,e1];simp
 refine⟨by rw[hl];exact ha.len,fun i a q g1 g2 =>?_⟩
 rw[e2] at g2
 by_cases z:i < init.length
 ·rw[List.getElem?_append_left z] at g2;exact ha.ok i a q g1 (by rw[e1,List.getElem?_append_left z];exact g2)
 ·have hi:i < (gat qq).length:=by
   rw[hl,<-ha.len];exact(List.getElem?_eq_some_iff.mp g1).1
  rw[e2,List.length_append,List.length_singleton] at hi;have ei:i=init.length:=by omega
  subst ei;rw[List.getElem?_append_right (Nat.le_refl _)] at g2;simp at g2;have:=ha.ok init.length a r g1 (by rw[e1,List.getElem?_append_right (Nat.le_refl _)];simp)
  rw[<-g2,List.length_append,List.length_dropLast,List.length_singleton];omega
theorem atg:an8 (gat qq)=false:=by
 obtain⟨init,r,e1,e2,hr⟩:=zj h;unfold an8;rw[e2,List.all_append];have:decide (0<=minI (r.dropLast++[-1]))=false:=decide_eq_false fun z=>by
  have:=awn (r:=r.dropLast++[-1]) (x := -1) (by simp)
  omega
 simp[this]
theorem ath:cutD (hDs qq) none (some (-1))++[D.tup ((((qq.getLast?.getD []).map D.int).dropLast)++[.int (-1)])]=hDs (gat qq)/\atI (hDs qq) (-1)=some (.tup ((qq.getLast?.getD []).map D.int)):=by
 obtain⟨init,r,e1,e2,hr⟩:=zj h;rw[e2,afc,e1];constructor
 ·simp[hDs]
 ·have:hDs (init++[r])=hDs init++[.tup (r.map D.int)]:=by simp[hDs]
  rw[this,at5];simp
end
theorem a3f(S:D)(n:Int)(a2 a3 a4 a5 a6 a7 a8 a9 a10 a11 a12 a13:Sl):∃b2 b3 b4 b5 b6 b7 b8 b9 b10 b11 b12 b13,l3_law [.val S,.val (.int n),a2,a3,a4,a5,a6,a7,a8,a9,a10,a11,a12,a13]=some (.nx,[.val S,.val (.int n),b2,b3,b4,b5,b6,b7,b8,b9,b10,b11,b12,b13]):=by
 obtain⟨P,e0⟩:=asb n;obtain⟨r,P1,e1,r0,r1⟩:=jw P 3 (by decide) (by decide)
 have ei:∃m:Int,atI [D.int 3,.int 4,.int 5] r=some (.int m)/\1<=m/\m<=5:=by
  have:r=0∨r=1∨r=2:=by omega
  rcases this with rfl | rfl | rfl
  ·exact⟨3,rfl,by decide,by decide⟩
  ·exact⟨4,rfl,by decide,by decide⟩
  ·exact⟨5,rfl,by decide,by decide⟩
 obtain⟨m,em,m1,m2⟩:=ei;obtain⟨qq,P2,e2,hk⟩:=ao3 P1 m 3 m1 (by omega) (by decide) (by decide)
 have h:Hs qq:=hk.hs (by omega) (by decide)
 have h5:qq.length<=5:=by have:=hk.most;omega
 obtain⟨as,P3,e3,ha⟩:=amf P2 h;obtain⟨q5,q6,q7,q8,q9,q10,e4⟩:=loop2 (.val S) (.val (.int n)) (.own none (pen P3)) h h5 hk.sh ha a11 a12 a13 (upto qq.length) a5 a6 a7 a8 a9 a10 fun x hx=>ais hx
 rw[<-alh] at e4;obtain⟨L,hL,eL⟩:=az0 h;obtain⟨bad,P4,e5,hb⟩:=ag5 h ha P3;obtain⟨worse,P5,e6,hw⟩:=aj4 P4 h;have t1:=ax5 h hb worse;have t2:=auc h ha hw;have hg:=a0c h;have hga:=aw4 h ha;have hgl:(gat qq).length=qq.length:=by obtain⟨init,r,x1,x2,_⟩:=zj h;rw[x2,x1];simp
 have t3:=auc hg hga (d:=worse) (by rw[hgl];exact hw)
 have t4:=ax4 hg hga (k:=0) ⟨by decide,by have:=hg.one;omega⟩ (atg h)
 obtain⟨g1,g2⟩:=ath h;have hcl:(cutD (hDs qq) none (some (-1))).length<=10:=by rw[afc,List.length_dropLast,acr];have:=h.most;omega
 have hcr:(cutD ((qq.getLast?.getD []).map D.int) none (some (-1))).length<=10:=by
  rw[afc,List.length_dropLast,List.length_map];obtain⟨init,r,x1,x2,_⟩:=zj h;have:=(h.room r (by rw[x1];simp)).2.1
  rw[x1];simp;omega
 rw[<-afc (l:=(qq.getLast?.getD []).map D.int)] at g1;have c1:(cutD (hDs qq) none (some (-1))).length+1<=capS:=gr (by omega)
 have c2:(cutD ((qq.getLast?.getD []).map D.int) none (some (-1))).length+1<=capS:=gr (by omega)
 refine⟨.own none (pen P5),.val (hD qq),.val (.tup (as.map D.int)),q5,q6,q7,q8,q9,q10,.val bad,.val worse,.val (hD (gat qq)),?_⟩;simp only[hD] at *;rw[<-g1] at t3 t4 ⊢
 clear g1
 have ech:∃CH,cutD (hDs qq) none (some (-1))=CH:=⟨_,rfl⟩
 obtain⟨CH,ech⟩:=ech;rw[ech] at t3 t4 c1 ⊢
 have ecr:∃CR,cutD ((qq.getLast?.getD []).map D.int) none (some (-1))=CR:=⟨_,rfl⟩
 obtain⟨CR,ecr⟩:=ecr;rw[ecr] at t3 t4 c2 ⊢
 clear hcl hcr
 generalize (qq.getLast?.getD []).map D.int=LR at *;generalize as.map D.int=la at *;generalize qw 0 qq.length=RR at *;generalize hDs qq=hh at *;simp[l3_law,e0,e1,em,e2,e3,hL,eL,e4,e5,e6,t1,t2,a4a,a3y,ech,g2,ecr,c1,c2,t3,t4,a3x]
theorem azy(S:D):∀(ns:List Int) (q a2 a3 a4 a5 a6 a7 a8 a9 a10 a11 a12 a13:Sl),∃ρ,forD (jo 1) l3_law (ns.map D.int) [.val S,q,a2,a3,a4,a5,a6,a7,a8,a9,a10,a11,a12,a13]=some (.nx,.val S::ρ)
 | [],q,a2,a3,a4,a5,a6,a7,a8,a9,a10,a11,a12,a13=>⟨_,rfl⟩
 | n::r,q,a2,a3,a4,a5,a6,a7,a8,a9,a10,a11,a12,a13=>by
  obtain⟨b2,b3,b4,b5,b6,b7,b8,b9,b10,b11,b12,b13,z⟩:=a3f S n a2 a3 a4 a5 a6 a7 a8 a9 a10 a11 a12 a13;obtain⟨ρ,z2⟩:=azy S r (.val (.int n)) b2 b3 b4 b5 b6 b7 b8 b9 b10 b11 b12 b13;exact⟨ρ,by rw[List.map_cons,wu];simp[z,z2]⟩
theorem axu{r:List Int}{a:Int}(h0:0<=a)(h1:a < (r.length:Int)):Arr [r] [a]:=⟨rfl,fun i x q g1 g2=>by
 cases i with
 | zero=>simp at g1 g2;subst g1 g2;exact⟨h0,h1⟩
 | succ i=>simp at g1⟩
theorem axt:Arr [[0,1],[1]] [0,0]:=⟨rfl,fun i x q g1 g2=>by
 match i,g1,g2 with
 | 0,g1,g2=>simp at g1 g2;subst g1 g2;exact⟨by decide,by decide⟩
 | 1,g1,g2=>simp at g1 g2;subst g1 g2;exact⟨by decide,by decide⟩
 | i+2,g1,_=>simp at g1⟩
theorem as9:ami aqj:=fun ns hn=>by
 obtain⟨n0,e0⟩:=aqy ns 0 (by decide)
 obtain⟨ms,em,hm⟩:=aqs ns (some 1) (some 4);have hc:1+ms.length<=capS:=gr (by omega)
 have H1:Hs [[0]]:=⟨by decide,by decide,by decide⟩
 have S1:Sh [[0]]:=by unfold Sh;decide
 have H2:Hs [[0,1],[1]]:=⟨by decide,by decide,by decide⟩
 have S2:Sh [[0,1],[1]]:=by unfold Sh;decide
 have A1:Arr [[0]] [0]:=axu (by decide) (by decide)
 have b1:InG [[0]] [0] 0:=ah0 H1 S1 A1 (by decide) (by decide) (T:=1) (by decide) (by decide)
 have b2:¬InG [[0,1],[1]] [0,0] 0:=fun g=>by
  have r:=g.back 1 (.step .base (by decide) (by decide))
  have:=aoc (ns:=[1]) (by decide) (fun x hx _ d hd=>by
   rw[List.mem_singleton] at hx;subst hx;exact hd) r
  exact absurd this (by decide)
 have r1:iu [.val (.tup [.tup [.int 0]]),.val (.tup [.int 0]),.val (.int 0),.val (.tup [.tup [.int 0],.int 0])]=some (.ok (.v (.bl true)),[.val (.tup [.tup [.int 0]]),.val (.tup [.int 0]),.val (.int 0),.val (.tup [.tup [.int 0],.int 0])]):=by
  have z:=ahb H1 S1 A1 ⟨by decide,by decide⟩ b1
  rw[show gone [[0]] [0] 0=[0] by decide,show led [[0]] [0] 0=0 by decide] at z
  exact z
 have r2:iu [.val (.tup [.tup [.int 0,.int 1],.tup [.int 1]]),.val (.tup [.int 0,.int 0]),.val (.int 0),.val .non]=some (.ok (.v (.bl true)),[.val (.tup [.tup [.int 0,.int 1],.tup [.int 1]]),.val (.tup [.int 0,.int 0]),.val (.int 0),.val .non]):=afx H2 S2 axt ⟨by decide,by decide⟩ b2
 obtain⟨ρ,q⟩:=azy (.kst (ns.map D.int)) (n0::ms) .emp .emp .emp .emp .emp .emp .emp .emp .emp .emp .emp .emp .emp;simp only[List.map_cons] at q;simp[aqj,a0d,r1,r2,e0,em,hc,q]
end My
set_option maxHeartbeats 0
namespace My
open PySem L2 Mn Dn
def top(i:Nat):Stmt:=PySem.Challenge.pw_turnarrows_k48_rounds_led_back.main.body.getD i (.Pass ⟨0,0,0,0⟩)
abbrev aea:Stmt:=top 15
theorem alc:FnScope ["thing"] ["thing"] (aq aea):=mkSc rfl rfl rfl rfl (by decide +kernel)
abbrev su:Stmt:=top 16
theorem ada:FnScope ["thing","least","most"] ["thing","least","most"] (aq su):=mkSc rfl rfl rfl rfl (by decide +kernel)
abbrev sy:Stmt:=top 17
theorem adb:FnScope ["thing","least","most"] ["thing","least","most"] (aq sy):=mkSc rfl rfl rfl rfl (by decide +kernel)
abbrev afu:Stmt:=top 18
theorem an9:FnScope ["row","at","thing"] ["row","at","thing"] (aq afu):=mkSc rfl rfl rfl rfl (by decide +kernel)
abbrev vd:Stmt:=top 20
theorem ad8:FnScope ["house","thing"] ["house","thing"] (aq vd):=mkSc rfl rfl rfl rfl (by decide +kernel)
abbrev ou:Stmt:=top 21
theorem yu:FnScope ["house","thing"] ["house","thing"] (aq ou):=mkSc rfl rfl rfl rfl (by decide +kernel)
abbrev adf:Stmt:=top 22
theorem jq:FnScope ["house","room","met","looked_at","doors","door"] ["house","room"] (aq adf):=mkSc rfl rfl rfl rfl (by decide +kernel)
abbrev afv:Stmt:=top 23
theorem aoa:FnScope ["house"] ["house"] (aq afv):=mkSc rfl rfl rfl rfl (by decide +kernel)
abbrev mj:Stmt:=top 24
theorem xm:FnScope ["house"] ["house"] (aq mj):=mkSc rfl rfl rfl rfl (by decide +kernel)
abbrev ach:Stmt:=top 26
theorem ajm:FnScope ["house","thing"] ["house","thing"] (aq ach):=mkSc rfl rfl rfl rfl (by decide +kernel)
abbrev km:Stmt:=top 27
theorem vy:FnScope ["house","thing"] ["house","thing"] (aq km):=mkSc rfl rfl rfl rfl (by decide +kernel)
abbrev aac:Stmt:=top 28
theorem agx:FnScope ["house","arrows","room","turn"] ["house","arrows","room","turn"] (aq aac):=mkSc rfl rfl rfl rfl (by decide +kernel)
abbrev acg:Stmt:=top 29
theorem ajl:FnScope ["house","arrows"] ["house","arrows"] (aq acg):=mkSc rfl rfl rfl rfl (by decide +kernel)
abbrev aae:Stmt:=top 30
theorem nu:FnScope ["last","rooms","staying","many"] ["last","rooms"] (aq aae):=mkSc rfl rfl rfl rfl (by decide +kernel)
abbrev mq:Stmt:=top 32
theorem xn:FnScope ["house","arrows","room"] ["house","arrows","room"] (aq mq):=mkSc rfl rfl rfl rfl (by decide +kernel)
abbrev acf:Stmt:=top 34
theorem qe:FnScope ["last","room","place","turn","ring","least"] ["last","room"] (aq acf):=mkSc rfl rfl rfl rfl (by decide +kernel)
abbrev ad9:Stmt:=top 35
theorem aab:FnScope ["last","rooms","rings","room","ring"] ["last","rooms"] (aq ad9):=mkSc rfl rfl rfl rfl (by decide +kernel)
abbrev jn:Stmt:=top 37
theorem qt:FnScope ["house","arrows","room"] ["house","arrows","room"] (aq jn):=mkSc rfl rfl rfl rfl (by decide +kernel)
abbrev aad:Stmt:=top 38
theorem aet:FnScope ["house","room"] ["house","room"] (aq aad):=mkSc rfl rfl rfl rfl (by decide +kernel)
abbrev ur:Stmt:=top 39
theorem qp:FnScope ["house","arrows","room","ring"] ["house","arrows","room"] (aq ur):=mkSc rfl rfl rfl rfl (by decide +kernel)
abbrev ae7:Stmt:=top 40
theorem yt:FnScope ["house","arrows","room","gone","ring"] ["house","arrows","room"] (aq ae7):=mkSc rfl rfl rfl rfl (by decide +kernel)
abbrev vz:Stmt:=top 42
theorem j6:FnScope ["last","put_in","place","at","onward"] ["last","put_in","place"] (aq vz):=mkSc rfl rfl rfl rfl (by decide +kernel)
abbrev xq:Stmt:=top 43
theorem vm:FnScope ["house","arrows","room","ahead"] ["house","arrows","room"] (aq xq):=mkSc rfl rfl rfl rfl (by decide +kernel)
abbrev acn:Stmt:=top 45
theorem ajn:FnScope ["script","k"] ["script","k"] (aq acn):=mkSc rfl rfl rfl rfl (by decide +kernel)
abbrev aeb:Stmt:=top 46
theorem afs:FnScope ["cell","left"] ["cell"] (aq aeb):=mkSc rfl rfl rfl rfl (by decide +kernel)
abbrev acl:Stmt:=top 47
theorem uw:FnScope ["pen","many","left","found","stir"] ["pen","many"] (aq acl):=mkSc rfl rfl rfl rfl (by decide +kernel)
abbrev aa0:Stmt:=top 48
theorem ah5:FnScope ["thing"] ["thing"] (aq aa0):=mkSc rfl rfl rfl rfl (by decide +kernel)
abbrev aec:Stmt:=top 49
theorem aft:FnScope ["pen","some"] ["pen"] (aq aec):=mkSc rfl rfl rfl rfl (by decide +kernel)
abbrev acj:Stmt:=top 50
theorem qg:FnScope ["pen","most","doors","many","house","room","wide","some"] ["pen","most","doors"] (aq acj):=mkSc rfl rfl rfl rfl (by decide +kernel)
abbrev aag:Stmt:=top 51
theorem agy:FnScope ["pen","house"] ["pen","house"] (aq aag):=mkSc rfl rfl rfl rfl (by decide +kernel)
abbrev aaf:Stmt:=top 52
theorem ji:FnScope ["e","marks","words"] ["e"] (aq aaf):=mkSc rfl rfl rfl rfl (by decide +kernel)
abbrev ack:Stmt:=top 53
theorem aaz:FnScope ["house","arrows","room","door","later"] ["house","arrows","room"] (aq ack):=mkSc rfl rfl rfl rfl (by decide +kernel)
abbrev aa1:Stmt:=top 54
theorem ah6:FnScope ["found","due"] ["found","due"] (aq aa1):=mkSc rfl rfl rfl rfl (by decide +kernel)
abbrev aa2:Stmt:=top 55
theorem adc:FnScope ["house","arrows","room","seen","states","ahead"] ["house","arrows","room"] (aq aa2):=mkSc rfl rfl rfl rfl (by decide +kernel)
abbrev vf:Stmt:=top 56
theorem lw:FnScope ["pen","house","arrows","at","odd","some"] ["pen","house","arrows"] (aq vf):=mkSc rfl rfl rfl rfl (by decide +kernel)
abbrev ye:Stmt:=top 57
theorem aay:FnScope ["pen","house","far"] ["pen","house"] (aq ye):=mkSc rfl rfl rfl rfl (by decide +kernel)
abbrev aci:Stmt:=top 58
theorem aeu:FnScope ["house","arrows","room","e"] ["house","arrows","room"] (aq aci):=mkSc rfl rfl rfl rfl (by decide +kernel)
abbrev aa3:Stmt:=top 59
theorem ade:FnScope ["house","arrows","room","due","found"] ["house","arrows","room","due"] (aq aa3):=mkSc rfl rfl rfl rfl (by decide +kernel)
abbrev ah7:Stmt:=top 60
theorem vh:FnScope ["script","cell","pen","house","arrows","room","ahead","many","states","at","due","bad","worse","gated"] ["script"] (aq ah7):=mkSc rfl rfl rfl rfl (by decide +kernel)
theorem lnS{k:Nat}{us:List Value}(h:us.length=k+1):∃a r,us=a::r/\r.length=k:=by
 cases us with
 | nil=>cases h
 | cons a r=>exact⟨a,r,rfl,Nat.succ.inj h⟩
theorem ln1{us:List Value}(h:us.length=1):∃a0,us=[a0]:=by
 obtain⟨a,r,rfl,h'⟩:=lnS h;cases List.eq_nil_of_length_eq_zero h';exact⟨a,rfl⟩
theorem ln2{us:List Value}(h:us.length=2):∃a0 a1,us=[a0,a1]:=by
 obtain⟨a,r,rfl,h'⟩:=lnS h;obtain⟨_,rfl⟩:=ln1 h';exact⟨_,_,rfl⟩
theorem ln3{us:List Value}(h:us.length=3):∃a0 a1 a2,us=[a0,a1,a2]:=by
 obtain⟨a,r,rfl,h'⟩:=lnS h;obtain⟨_,_,rfl⟩:=ln2 h';exact⟨_,_,_,rfl⟩
theorem ln4{us:List Value}(h:us.length=4):∃a0 a1 a2 a3,us=[a0,a1,a2,a3]:=by
 obtain⟨a,r,rfl,h'⟩:=lnS h;obtain⟨_,_,_,rfl⟩:=ln3 h';exact⟨_,_,_,_,rfl⟩
structure Txt (K:Fg9) (mg:Str->Option Value):Prop where
 z_ValueError:mg "ValueError" = none
 z_all:mg "all" = none
 z_bool:mg "bool" = none
 z_divmod:mg "divmod" = none
 z_int:mg "int" = none
 z_isinstance:mg "isinstance" = none
 z_len:mg "len" = none
 z_list:mg "list" = none
 z_max:mg "max" = none
 z_min:mg "min" = none
 z_range:mg "range" = none
 z_sorted:mg "sorted" = none
 z_tuple:mg "tuple" = none
 z_zip:mg "zip" = none
 sub:ah2 K NS=true
 cat:CatT K mg
 k_ArrowError:ClsT K mg "ArrowError"
 k_NoArrows:ClsT K mg "NoArrows"
 k_NoRoom:ClsT K mg "NoRoom"
 k_NoWalkers:ClsT K mg "NoWalkers"
 k_NotShut:ClsT K mg "NotShut"
 k_NeverBack:ClsT K mg "NeverBack"
 k_NoTour:ClsT K mg "NoTour"
 k_NoRow:ClsT K mg "NoRow"
 k_NoHouse:ClsT K mg "NoHouse"
 k_NotOpen:ClsT K mg "NotOpen"
 k_Nobody:ClsT K mg "Nobody"
 k_NoText:ClsT K mg "NoText"
 k_TooGreat:ClsT K mg "TooGreat"
 r_ArrowError:RaiT K mg "ArrowError"
 r_NoArrows:RaiT K mg "NoArrows"
 r_NoRoom:RaiT K mg "NoRoom"
 r_NoWalkers:RaiT K mg "NoWalkers"
 r_NotShut:RaiT K mg "NotShut"
 r_NeverBack:RaiT K mg "NeverBack"
 r_NoTour:RaiT K mg "NoTour"
 r_NoRow:RaiT K mg "NoRow"
section
variable(P:Program)(w:World)(K:Fg9)(mg:Str->Option Value)(base:Heap)
abbrev Dd0:Prop:=Dfn P w K mg base "is_whole" ["thing"] 1 (spOf K 1 zu)
abbrev Dd1:Prop:=Dfn P w K mg base "is_whole_within" ["thing","least","most"] 2 (spOf K 3 jk)
abbrev Dd4:Prop:=Dfn P w K mg base "is_room_number" ["house","thing"] 3 (spOf K 2 j7)
abbrev Dd5:Prop:=Dfn P w K mg base "refuse_no_room" ["house","thing"] 4 (spOf K 2 dj)
abbrev Dx5:Prop:=DfnX P w K mg base "refuse_no_room" ["house","thing"] 4 (spX K 2 dj)
abbrev Dd7:Prop:=Dfn P w K mg base "is_shut" ["house"] 1 (spOf K 1 abh)
abbrev Dd2:Prop:=Dfn P w K mg base "is_tuple_within" ["thing","least","most"] 1 (spOf K 3 jz)
abbrev Dd9:Prop:=Dfn P w K mg base "is_arrows" ["house","thing"] 3 (spOf K 2 qb)
abbrev Dd3:Prop:=Dfn P w K mg base "with_at" ["row","at","thing"] 1 (spOf K 3 abg)
abbrev Dd10:Prop:=Dfn P w K mg base "refuse_no_arrows" ["house","thing"] 4 (spOf K 2 fc)
abbrev Dx10:Prop:=DfnX P w K mg base "refuse_no_arrows" ["house","thing"] 4 (spX K 2 fc)
abbrev Dd13:Prop:=Dfn P w K mg base "going_round" ["last","rooms"] 1 (spOf K 2 qz)
abbrev Dd15:Prop:=Dfn P w K mg base "ring_from" ["last","room"] 1 (spOf K 2 ue)
abbrev Dd14:Prop:=Dfn P w K mg base "refuse_no_state" ["house","arrows","room"] 5 (spOf K 3 dq)
abbrev Dd8:Prop:=Dfn P w K mg base "refuse_not_shut" ["house"] 2 (spOf K 1 gf)
abbrev Dx14:Prop:=DfnX P w K mg base "refuse_no_state" ["house","arrows","room"] 5 (spX K 3 dq)
abbrev Dx8:Prop:=DfnX P w K mg base "refuse_not_shut" ["house"] 2 (spX K 1 gf)
abbrev Dd6:Prop:=Dfn P w K mg base "come_to" ["house","room"] 5 (spOf K 2 rm)
abbrev Dd12:Prop:=Dfn P w K mg base "last_ways" ["house","arrows"] 1 (spOf K 2 uf)
abbrev Dd16:Prop:=Dfn P w K mg base "rings_of" ["last","rooms"] 2 (spOf K 2 zr)
abbrev Dd18:Prop:=Dfn P w K mg base "gone_from" ["house","room"] 6 (spOf K 2 qd)
abbrev Dd19:Prop:=Dfn P w K mg base "ring_without" ["house","arrows","room"] 6 (spOf K 3 jj)
abbrev Dx18:Prop:=DfnX P w K mg base "gone_from" ["house","room"] 6 (spX K 2 qd)
abbrev Dx19:Prop:=DfnX P w K mg base "ring_without" ["house","arrows","room"] 6 (spX K 3 jj)
abbrev Dd17:Prop:=Dfn P w K mg base "refuse_no_shut_state" ["house","arrows","room"] 6 (spOf K 3 bw)
abbrev Dd20:Prop:=Dfn P w K mg base "why_of" ["house","arrows","room"] 7 (spOf K 3 xx)
abbrev Dd21:Prop:=Dfn P w K mg base "ahead_on_ring" ["last","put_in","place"] 1 (spOf K 3 lg)
abbrev Dd11:Prop:=Dfn P w K mg base "turned_once" ["house","arrows","room","turn"] 2 (spOf K 4 qy)
abbrev Dx17:Prop:=DfnX P w K mg base "refuse_no_shut_state" ["house","arrows","room"] 6 (spX K 3 bw)
abbrev Dd25:Prop:=Dfn P w K mg base "_law_draw" ["pen","many"] 1 (spOf K 2 f__law_draw)
abbrev Dd26:Prop:=Dfn P w K mg base "_law_whole" ["thing"] 1 (spOf K 1 ql)
abbrev Dd31:Prop:=Dfn P w K mg base "_law_left" ["house","arrows","room"] 1 (spOf K 3 ug)
abbrev Dd27:Prop:=Dfn P w K mg base "_law_odd" ["pen"] 2 (spOf K 1 f__law_odd)
abbrev Dd22:Prop:=Dfn P w K mg base "round_back" ["house","arrows","room"] 8 (spOf K 3 fj)
abbrev Dx22:Prop:=DfnX P w K mg base "round_back" ["house","arrows","room"] 8 (spX K 3 fj)
abbrev Du30:Prop:=DfnU P w K mg base "_law_kind" ["e"] 1 (spOf K 1 lq)
abbrev Dd36:Prop:=Dfn P w K mg base "_law_told" ["house","arrows","room"] 9 (spOf K 3 fu)
abbrev Dd32:Prop:=Dfn P w K mg base "_law_tuple" ["found","due"] 2 (spOf K 2 uy)
abbrev Dd37:Prop:=Dfn P w K mg base "_law_right" ["house","arrows","room","due"] 10 (spOf K 4 iu)
abbrev Dd23:Prop:=Dfn P w K mg base "_law_cell" ["script","k"] 1 (spOf K 2 f__law_cell)
abbrev Dd24:Prop:=Dfn P w K mg base "_law_pen" ["cell"] 1 (spOf K 1 f__law_pen)
abbrev Dd28:Prop:=Dfn P w K mg base "_law_shut" ["pen","most","doors"] 2 (spOf K 3 f__law_shut)
abbrev Dd29:Prop:=Dfn P w K mg base "_law_arrows" ["pen","house"] 2 (spOf K 2 f__law_arrows)
abbrev Dd33:Prop:=Dfn P w K mg base "_law_round" ["house","arrows","room"] 2 (spOf K 3 uz)
abbrev Dd34:Prop:=Dfn P w K mg base "_law_no_arrows" ["pen","house","arrows"] 2 (spOf K 3 f__law_no_arrows)
abbrev Dd35:Prop:=Dfn P w K mg base "_law_no_room" ["pen","house"] 3 (spOf K 2 f__law_no_room)
end
section
variable{P:Program}{w:World}{K:Fg9}{mg:Str->Option Value}{base:Heap}{f:Addr}{fd:FuncData}
theorem alp(F:Fun K "is_whole" "is_whole" aea f fd)(T:Txt K mg):FnOk P w K mg base CX0 1 f fd ["thing"] (spOf K 1 zu) :=
 gn F alc rfl rfl fun cdv A outer s H E hr =>
  (bc (dw (EV.toR (akp (agn (t:=.int) (ajr (by rfl) T.z_int ara) (by rfl) T.z_isinstance az (cg (pv 0))) (ako (au3 (agn (t:=.bool) (ajr (by rfl) T.z_bool arc) (by rfl) T.z_isinstance az (cg (pv 0)))))))))
theorem adm(F:Fun K "is_whole_within" "is_whole_within" su f fd)(T:Txt K mg)(d0:Dd0 P w K mg base):FnOk P w K mg base CX0 2 f fd ["thing","least","most"] (spOf K 3 jk) :=
 gn F ada rfl rfl fun cdv A outer s H E hr =>
  (bc (dw (EV.toR (akp (ER.toD (dz d0 (hr.mono (by decide)) (by rfl) (eg_n (pv 0) bu))) (ako (ani asq asq (ak (pv 1)) (ak (pv 0)) (ak (pv 2))))))))
theorem adn(F:Fun K "is_tuple_within" "is_tuple_within" sy f fd)(T:Txt K mg):FnOk P w K mg base CX0 1 f fd ["thing","least","most"] (spOf K 3 jz) :=
 gn F adb rfl rfl fun cdv A outer s H E hr =>
  (bc (dw (EV.toR (akp (agn (t:=.tuple) (ajr (by rfl) T.z_tuple ut) (by rfl) T.z_isinstance az (cg (pv 0))) (ako (ani asq asq (ak (pv 1)) (ER.toD (cz j8 (by rfl) T.z_len j9 (ea_n (pv 0) f9))) (ak (pv 2))))))))
theorem aoh(F:Fun K "with_at" "with_at" afu f fd)(T:Txt K mg):FnOk P w K mg base CX0 1 f fd ["row","at","thing"] (spOf K 3 abg) :=
 gn F an9 rfl rfl fun cdv A outer s H E hr =>
  (bc (dw (dg gm (e2_v (ER.toD (dg gm (e2_v (ER.toD (yh (pv 0) yl (vg (ak (pv 1))))) (EV.toB (jd (aa (ak (pv 2)) bz)))))) (EV.toB (ER.toD (yh (pv 0) (vg (ER.toD (dg gm (e2_n (pv 1) (EV.toB au))))) yl)))))))
theorem aee(F:Fun K "is_room_number" "is_room_number" vd f fd)(T:Txt K mg)(d1:Dd1 P w K mg base):FnOk P w K mg base CX0 3 f fd ["house","thing"] (spOf K 2 j7) :=
 gn F ad8 rfl rfl fun cdv A outer s H E hr =>
  (bc (dw (dz d1 (hr.mono (by decide)) (by rfl) (eg_v (ak (pv 1)) (eg_v au (eg_v (ER.toD (dg wj (e2_v (ER.toD (cz j8 (by rfl) T.z_len j9 (ea_n (pv 0) f9))) (EV.toB au)))) bu))))))
theorem aed(F:Fun K "refuse_no_room" "refuse_no_room" ou f fd)(T:Txt K mg)(d4:Dd4 P w K mg base):FnOk P w K mg base CX0 4 f fd ["house","thing"] (spOf K 2 dj) :=
 gn F yu rfl rfl fun cdv A outer s H E hr =>
  (bc (uv (ET.s (wz (wy (ER.toD (dz d4 (hr.mono (by decide)) (by rfl) (eg_n (pv 0) (eg_v (ak (pv 1)) bu))))))) (bc ac7) ik))
theorem adi(F:Fun K "refuse_no_room" "refuse_no_room" ou f fd)(T:Txt K mg)(d4:Dd4 P w K mg base):FnOk P w K mg base (CX1 P w) 4 f fd ["house","thing"] (spX K 2 dj) :=
 fn_x F yu rfl rfl fun cdv A outer s H E hr =>
  (mz (aox (ET.s (wz (wy (ER.toD (dz d4 (hr.mono (by decide)) (by rfl) (eg_n (pv 0) (eg_v (ak (pv 1)) bu))))))) jf (mz (ac3 rfl rfl (by rfl) T.r_NoRoom)) afj))
theorem aoj(F:Fun K "come_to" "come_to" adf f fd)(T:Txt K mg)(d5:Dd5 P w K mg base)(x5:Dx5 P w K mg base):FnOk P w K mg base CX0 5 f fd ["house","room"] (spOf K 2 rm) :=
 gn F jq rfl rfl fun cdv A outer s H E hr =>
  (ao (pq (dz d5 (hr.mono (by decide)) (by rfl) (eg_n (pv 0) (eg_v (EV.s (ak (pv 1))) bu)))) (ao (SV.s (dh (i:=2) jq.nd rfl (Or.inl rfl) (ju (aa (ak (pv 1)) bz)))) (ao (SV.s (dh (i:=3) jq.nd rfl (Or.inl rfl) (EV.toR au))) (ao (SV.s (ac6 fuel PassesOwn.never (jm amx (e2_n (pv 3) (EV.toB (ER.toD (cz j8 (by rfl) T.z_len j9 (ea_n (pv 2) f9))))) (jx _)) (ao (dh (i:=4) jq.nd rfl (Or.inl rfl) (jl (e2_n (pv 0) (EV.toB (ER.toD (jl (e2_n (pv 2) (cg (pv 3))) (fun _ _=>by rfl))))) (fun _ _=>by rfl))) (ao (ab9 PassesOwn.never rfl (aas (ak (pv 4))) (je (i:=5) jq.nd rfl (Or.inl rfl)) (bc (uv (EW.pt (au2 (jm af0 (e2_n (pv 5) (EV.toB au)) (jx _)) (aqk (jm (yz hr.units) (e2_n (pv 5) (cg (pv 2))) (by with_unfolding_all rfl))))) (bc (pq (EV.toR (ahq vp PySem.F.slot_list_append PySem.F.type_list_append wk (pv 2) (aa (ak (pv 5)) bz))))) ik))) (bc (aue (i:=3) jq.nd rfl (Or.inl rfl) au auw)))))) (bc (SV.s (dw (lr aam (by rfl) T.z_tuple ut (ea_v (ER.toD (cz aht (by rfl) T.z_sorted aky (ea_n (pv 2) f9))) f9)))))))))
theorem aln(F:Fun K "come_to" "come_to" adf f fd)(T:Txt K mg)(d5:Dd5 P w K mg base)(x5:Dx5 P w K mg base):FnOk P w K mg base (CX1 P w) 5 f fd ["house","room"] (spX K 2 rm) :=
 fn_x F jq rfl rfl fun cdv A outer s H E hr =>
  (lu (pq (dz d5 (hr.mono (by decide)) (by rfl) (eg_n (pv 0) (eg_v (EV.s (ak (pv 1))) bu)))) (ad7 (ah1 x5 (hr.mono (by decide)) (by rfl) (eg_n (pv 0) (eg_v (EV.s (ak (pv 1))) bu)) (xa_n (pv 0) (xa_v (js:=[]) (EV.s (ak (pv 1))) (XE.no jf) ac4)))) (lu (SV.s (dh (i:=2) jq.nd rfl (Or.inl rfl) (ju (aa (ak (pv 1)) bz)))) ab8 (lu (SV.s (dh (i:=3) jq.nd rfl (Or.inl rfl) (EV.toR au))) ab8 (lu (SV.s (ac6 fuel PassesOwn.never (jm amx (e2_n (pv 3) (EV.toB (ER.toD (cz j8 (by rfl) T.z_len j9 (ea_n (pv 2) f9))))) (jx _)) (ao (dh (i:=4) jq.nd rfl (Or.inl rfl) (jl (e2_n (pv 0) (EV.toB (ER.toD (jl (e2_n (pv 2) (cg (pv 3))) (fun _ _=>by rfl))))) (fun _ _=>by rfl))) (ao (ab9 PassesOwn.never rfl (aas (ak (pv 4))) (je (i:=5) jq.nd rfl (Or.inl rfl)) (bc (uv (EW.pt (au2 (jm af0 (e2_n (pv 5) (EV.toB au)) (jx _)) (aqk (jm (yz hr.units) (e2_n (pv 5) (cg (pv 2))) (by with_unfolding_all rfl))))) (bc (pq (EV.toR (ahq vp PySem.F.slot_list_append PySem.F.type_list_append wk (pv 2) (aa (ak (pv 5)) bz))))) ik))) (bc (aue (i:=3) jq.nd rfl (Or.inl rfl) au auw)))))) ab8 (mz ab8)))))
theorem aoi(F:Fun K "is_shut" "is_shut" afv f fd)(T:Txt K mg):FnOk P w K mg base CX0 1 f fd ["house"] (spOf K 1 abh) :=
 gn F aoa rfl rfl fun cdv A outer s H E hr =>
  (bc (dw (cz (aq3 rfl) (by rfl) T.z_all ard (ea_v (ER.toD (acy [] ["doors"] [none] rfl (aas (ak (pv 0))) (fun _ _ _=>(je (i:=0) (show(["doors"]:List Str).Nodup by decide +kernel) rfl (Or.inl rfl))) (fun _ _ _=>aeo) (fun _ _ _=>(ER.toD (anj af0 (e2_v (ER.toD (cz (aq1 rfl) (by rfl) T.z_min aq9 (ea_n (pv 0) f9))) (EV.toB au)) (jx _)))))) f9))))
theorem adk(F:Fun K "refuse_not_shut" "refuse_not_shut" mj f fd)(T:Txt K mg)(d7:Dd7 P w K mg base):FnOk P w K mg base CX0 2 f fd ["house"] (spOf K 1 gf) :=
 gn F xm rfl rfl fun cdv A outer s H E hr =>
  (bc (uv (ET.s (wz (wy (ER.toD (dz d7 (hr.mono (by decide)) (by rfl) (eg_v (ak (pv 0)) bu)))))) (bc ac7) ik))
theorem aco(F:Fun K "refuse_not_shut" "refuse_not_shut" mj f fd)(T:Txt K mg)(d7:Dd7 P w K mg base):FnOk P w K mg base (CX1 P w) 2 f fd ["house"] (spX K 1 gf) :=
 fn_x F xm rfl rfl fun cdv A outer s H E hr =>
  (mz (aox (ET.s (wz (wy (ER.toD (dz d7 (hr.mono (by decide)) (by rfl) (eg_v (ak (pv 0)) bu)))))) jf (mz (ac3 rfl rfl (by rfl) T.r_NotShut)) afj))
theorem ajv(F:Fun K "is_arrows" "is_arrows" ach f fd)(T:Txt K mg)(d2:Dd2 P w K mg base)(d1:Dd1 P w K mg base):FnOk P w K mg base CX0 3 f fd ["house","thing"] (spOf K 2 qb) :=
 gn F ajm rfl rfl fun cdv A outer s H E hr =>
  (ao (uv (wz (wy (ER.toD (dz d2 (hr.mono (by decide)) (by rfl) (eg_n (pv 1) (eg_v (ER.toD (cz j8 (by rfl) T.z_len j9 (ea_n (pv 0) f9))) (eg_v (ER.toD (cz j8 (by rfl) T.z_len j9 (ea_n (pv 0) f9))) bu))))))) (bc (dw (EV.toR acx))) ik) (bc (dw (cz (aq3 rfl) (by rfl) T.z_all ard (ea_v (ER.toD (acy [] ["arrow","doors"] [none,none] rfl (ap5 (by rfl) T.z_zip (aa (ak (pv 1)) (aa (ak (pv 0)) bz))) (fun _ _ _=>(anf rfl (vo (je (i:=0) (show(["arrow","doors"]:List Str).Nodup by decide +kernel) rfl (Or.inl rfl)) (vo (je (i:=1) (show(["arrow","doors"]:List Str).Nodup by decide +kernel) rfl (Or.inl rfl)) aiz)))) (fun _ _ _=>aeo) (fun _ _ _=>(ER.toD (dz d1 (hr.mono (by decide)) (by rfl) (eg_n (pv 0) (eg_v au (eg_v (ER.toD (dg wj (e2_v (ER.toD (cz j8 (by rfl) T.z_len j9 (ea_n (pv 1) f9))) (EV.toB au)))) bu)))))))) f9)))))
theorem acq(F:Fun K "refuse_no_arrows" "refuse_no_arrows" km f fd)(T:Txt K mg)(d9:Dd9 P w K mg base):FnOk P w K mg base CX0 4 f fd ["house","thing"] (spOf K 2 fc) :=
 gn F vy rfl rfl fun cdv A outer s H E hr =>
  (bc (uv (ET.s (wz (wy (ER.toD (dz d9 (hr.mono (by decide)) (by rfl) (eg_v (ak (pv 0)) (eg_v (ak (pv 1)) bu))))))) (bc ac7) ik))
theorem ab5(F:Fun K "refuse_no_arrows" "refuse_no_arrows" km f fd)(T:Txt K mg)(d9:Dd9 P w K mg base):FnOk P w K mg base (CX1 P w) 4 f fd ["house","thing"] (spX K 2 fc) :=
 fn_x F vy rfl rfl fun cdv A outer s H E hr =>
  (mz (aox (ET.s (wz (wy (ER.toD (dz d9 (hr.mono (by decide)) (by rfl) (eg_v (ak (pv 0)) (eg_v (ak (pv 1)) bu))))))) jf (mz (ac3 rfl rfl (by rfl) T.r_NoArrows)) afj))
theorem ag2(F:Fun K "turned_once" "turned_once" aac f fd)(T:Txt K mg)(d3:Dd3 P w K mg base):FnOk P w K mg base CX0 2 f fd ["house","arrows","room","turn"] (spOf K 4 qy) :=
 gn F agx rfl rfl fun cdv A outer s H E hr =>
  (bc (dw (dz d3 (hr.mono (by decide)) (by rfl) (eg_n (pv 1) (eg_v (ak (pv 2)) (eg_v (ER.toD (dg aa7 (e2_v (ER.toD (dg gm (e2_v (ER.toD (jl (e2_n (pv 1) (cg (pv 2))) (fun _ _=>by rfl))) (cg (pv 3))))) (EV.toB (ER.toD (cz j8 (by rfl) T.z_len j9 (ea_v (ER.toD (jl (e2_n (pv 0) (cg (pv 2))) (fun _ _=>by rfl))) f9))))))) bu))))))
theorem aju(F:Fun K "last_ways" "last_ways" acg f fd)(T:Txt K mg):FnOk P w K mg base CX0 1 f fd ["house","arrows"] (spOf K 2 uf) :=
 gn F ajl rfl rfl fun cdv A outer s H E hr =>
  (bc (dw (lr aam (by rfl) T.z_tuple ut (ea_v (ER.toD (acy [] ["arrow","doors"] [none,none] rfl (ap5 (by rfl) T.z_zip (aa (ak (pv 1)) (aa (ak (pv 0)) bz))) (fun _ _ _=>(anf rfl (vo (je (i:=0) (show(["arrow","doors"]:List Str).Nodup by decide +kernel) rfl (Or.inl rfl)) (vo (je (i:=1) (show(["arrow","doors"]:List Str).Nodup by decide +kernel) rfl (Or.inl rfl)) aiz)))) (fun _ _ _=>aeo) (fun _ _ _=>(ER.toD (jl (e2_n (pv 1) (EV.toB (ER.toD (dg wj (e2_n (pv 0) (EV.toB au)))))) (fun _ _=>by rfl)))))) f9))))
theorem ag3(F:Fun K "going_round" "going_round" aae f fd)(T:Txt K mg):FnOk P w K mg base CX0 1 f fd ["last","rooms"] (spOf K 2 qz) :=
 gn F nu rfl rfl fun cdv A outer s H E hr =>
  (ao (dh (i:=2) nu.nd rfl (Or.inr rfl) (lr amc (by rfl) T.z_list amd (ea_n (pv 1) f9))) (ao (dh (i:=3) nu.nd rfl (Or.inl rfl) (dg gm (e2_v (ER.toD (cz j8 (by rfl) T.z_len j9 (ea_n (pv 2) f9))) (EV.toB au)))) (ao (ac6 fuel PassesOwn.never (jm amx (e2_v (ER.toD (cz j8 (by rfl) T.z_len j9 (ea_n (pv 2) f9))) (cg (pv 3))) (jx _)) (ao (dh (i:=3) nu.nd rfl (Or.inl rfl) (cz j8 (by rfl) T.z_len j9 (ea_n (pv 2) f9))) (bc (dh (i:=2) nu.nd rfl (Or.inr rfl) (acy ["staying","last"] ["room","staying","last"] [none,some 2,some 0] rfl (aas (ak (pv 2))) (fun _ _ _=>(je (i:=0) (show(["room","staying","last"]:List Str).Nodup by decide +kernel) rfl (Or.inl rfl))) (fun _ _ _=>(aqn (jm (ay9 hr.units) (e2_v (ER.toD (jl (e2_n (pv 2) (cg (pv 0))) (fun _ _=>by rfl))) (cg (pv 1))) (by with_unfolding_all rfl)))) (fun _ _ _=>(ak (pv 0)))))))) (bc (dw (ago (pv 2)))))))
theorem adl(F:Fun K "refuse_no_state" "refuse_no_state" mq f fd)(T:Txt K mg)(d10:Dd10 P w K mg base)(d5:Dd5 P w K mg base)(x10:Dx10 P w K mg base)(x5:Dx5 P w K mg base):FnOk P w K mg base CX0 5 f fd ["house","arrows","room"] (spOf K 3 dq) :=
 gn F xn rfl rfl fun cdv A outer s H E hr =>
  (ao (pq (dz d10 (hr.mono (by decide)) (by rfl) (eg_v (EV.s (ak (pv 0))) (eg_v (EV.s (ak (pv 1))) bu)))) (bc (pq (dz d5 (hr.mono (by decide)) (by rfl) (eg_n (pv 0) (eg_v (EV.s (ak (pv 2))) bu))))))
theorem acp(F:Fun K "refuse_no_state" "refuse_no_state" mq f fd)(T:Txt K mg)(d10:Dd10 P w K mg base)(d5:Dd5 P w K mg base)(x10:Dx10 P w K mg base)(x5:Dx5 P w K mg base):FnOk P w K mg base (CX1 P w) 5 f fd ["house","arrows","room"] (spX K 3 dq) :=
 fn_x F xn rfl rfl fun cdv A outer s H E hr =>
  (lu (pq (dz d10 (hr.mono (by decide)) (by rfl) (eg_v (EV.s (ak (pv 0))) (eg_v (EV.s (ak (pv 1))) bu)))) (ad7 (ah1 x10 (hr.mono (by decide)) (by rfl) (eg_v (EV.s (ak (pv 0))) (eg_v (EV.s (ak (pv 1))) bu)) (xa_v (js:=[]) (EV.s (ak (pv 0))) (XE.no jf) (xa_v (js:=[]) (EV.s (ak (pv 1))) (XE.no jf) ac4)))) (mz (ad7 (ah1 x5 (hr.mono (by decide)) (by rfl) (eg_n (pv 0) (eg_v (EV.s (ak (pv 2))) bu)) (xa_n (pv 0) (xa_v (js:=[]) (EV.s (ak (pv 2))) (XE.no jf) ac4))))))
theorem ajt(F:Fun K "ring_from" "ring_from" acf f fd)(T:Txt K mg):FnOk P w K mg base CX0 1 f fd ["last","room"] (spOf K 2 ue) :=
 gn F qe rfl rfl fun cdv A outer s H E hr =>
  (ao (dh (i:=2) qe.nd rfl (Or.inl rfl) (EV.toR (ak (pv 1)))) (ao (ab9 PassesOwn.never rfl (adt (by rfl) T.z_range (aa (ER.toD (cz j8 (by rfl) T.z_len j9 (ea_n (pv 0) f9))) bz)) (je (i:=3) qe.nd rfl (Or.inl rfl)) (bc (dh (i:=2) qe.nd rfl (Or.inl rfl) (jl (e2_n (pv 0) (cg (pv 2))) (fun _ _=>by rfl))))) (ao (dh (i:=4) qe.nd rfl (Or.inl rfl) (ju (aa (ak (pv 2)) bz))) (ao (ac6 fuel PassesOwn.never (jm (za hr.units) (e2_v (ER.toD (jl (e2_n (pv 0) (EV.toB (ER.toD (jl (e2_n (pv 4) (EV.toB (zx au))) (fun _ _=>by rfl))))) (fun _ _=>by rfl))) (cg (pv 2))) (jx _)) (bc (pq (EV.toR (ahq vp PySem.F.slot_list_append PySem.F.type_list_append wk (pv 4) (aa (ER.toD (jl (e2_n (pv 0) (EV.toB (ER.toD (jl (e2_n (pv 4) (EV.toB (zx au))) (fun _ _=>by rfl))))) (fun _ _=>by rfl))) bz)))))) (ao (dh (i:=5) qe.nd rfl (Or.inl rfl) (EV.toR (amb PySem.F.slot_list_index PySem.F.type_list_index (aiq hr.units) (pv 4) (aa (ER.toD (cz (aq1 rfl) (by rfl) T.z_min aq9 (ea_n (pv 4) f9))) bz)))) (bc (dw (lr aam (by rfl) T.z_tuple ut (ea_v (ER.toD (dg gm (e2_v (ER.toD (yh (pv 4) (vg (ak (pv 5))) yl)) (EV.toB (ER.toD (yh (pv 4) yl (vg (ak (pv 5))))))))) f9)))))))))
theorem alo(F:Fun K "rings_of" "rings_of" ad9 f fd)(T:Txt K mg)(d13:Dd13 P w K mg base)(d15:Dd15 P w K mg base):FnOk P w K mg base CX0 2 f fd ["last","rooms"] (spOf K 2 zr) :=
 gn F aab rfl rfl fun cdv A outer s H E hr =>
  (ao (dh (i:=2) aab.nd rfl (Or.inl rfl) (ju bz)) (ao (ab9 PassesOwn.never rfl (aas (ER.toD (dz d13 (hr.mono (by decide)) (by rfl) (eg_n (pv 0) (eg_n (pv 1) bu))))) (je (i:=3) aab.nd rfl (Or.inl rfl)) (ao (dh (i:=4) aab.nd rfl (Or.inl rfl) (dz d15 (hr.mono (by decide)) (by rfl) (eg_n (pv 0) (eg_v (ak (pv 3)) bu)))) (bc (uv (jm (yz hr.units) (e2_n (pv 4) (cg (pv 2))) (by with_unfolding_all rfl)) (bc (pq (EV.toR (ahq vp PySem.F.slot_list_append PySem.F.type_list_append wk (pv 2) (aa (ak (pv 4)) bz))))) ik)))) (bc (dw (cz aoq (by rfl) T.z_sorted aky (ea_n (pv 2) f9))))))
theorem aai(F:Fun K "refuse_no_shut_state" "refuse_no_shut_state" jn f fd)(T:Txt K mg)(d14:Dd14 P w K mg base)(d8:Dd8 P w K mg base)(x14:Dx14 P w K mg base)(x8:Dx8 P w K mg base):FnOk P w K mg base CX0 6 f fd ["house","arrows","room"] (spOf K 3 bw) :=
 gn F qt rfl rfl fun cdv A outer s H E hr =>
  (ao (pq (dz d14 (hr.mono (by decide)) (by rfl) (eg_v (EV.s (ak (pv 0))) (eg_v (EV.s (ak (pv 1))) (eg_v (EV.s (ak (pv 2))) bu))))) (bc (pq (dz d8 (hr.mono (by decide)) (by rfl) (eg_v (EV.s (ak (pv 0))) bu)))))
theorem zb(F:Fun K "refuse_no_shut_state" "refuse_no_shut_state" jn f fd)(T:Txt K mg)(d14:Dd14 P w K mg base)(d8:Dd8 P w K mg base)(x14:Dx14 P w K mg base)(x8:Dx8 P w K mg base):FnOk P w K mg base (CX1 P w) 6 f fd ["house","arrows","room"] (spX K 3 bw) :=
 fn_x F qt rfl rfl fun cdv A outer s H E hr =>
  (lu (pq (dz d14 (hr.mono (by decide)) (by rfl) (eg_v (EV.s (ak (pv 0))) (eg_v (EV.s (ak (pv 1))) (eg_v (EV.s (ak (pv 2))) bu))))) (ad7 (ah1 x14 (hr.mono (by decide)) (by rfl) (eg_v (EV.s (ak (pv 0))) (eg_v (EV.s (ak (pv 1))) (eg_v (EV.s (ak (pv 2))) bu))) (xa_v (js:=[]) (EV.s (ak (pv 0))) (XE.no jf) (xa_v (js:=[]) (EV.s (ak (pv 1))) (XE.no jf) (xa_v (js:=[]) (EV.s (ak (pv 2))) (XE.no jf) ac4))))) (mz (ad7 (ah1 x8 (hr.mono (by decide)) (by rfl) (eg_v (EV.s (ak (pv 0))) bu) (xa_v (js:=[]) (EV.s (ak (pv 0))) (XE.no jf) ac4)))))
theorem ajw(F:Fun K "gone_from" "gone_from" aad f fd)(T:Txt K mg)(d6:Dd6 P w K mg base):FnOk P w K mg base CX0 6 f fd ["house","room"] (spOf K 2 qd) :=
 gn F aet rfl rfl fun cdv A outer s H E hr =>
  (bc (dw (ER.s (acy ["room","house"] ["there","room","house"] [none,some 1,some 0] rfl (aas (ER.toD (dz d6 (hr.mono (by decide)) (by rfl) (eg_n (pv 0) (eg_v (ak (pv 1)) bu))))) (fun _ _ _=>(je (i:=0) (show(["there","room","house"]:List Str).Nodup by decide +kernel) rfl (Or.inl rfl))) (fun _ _ _=>(aqn (jm (yz hr.units) (e2_n (pv 1) (EV.toB (ER.toD (dz d6 (hr.mono (by decide)) (by rfl) (eg_n (pv 2) (eg_n (pv 0) bu)))))) (by with_unfolding_all rfl)))) (fun _ _ _=>(ak (pv 0)))))))
theorem aig(F:Fun K "gone_from" "gone_from" aad f fd)(T:Txt K mg)(d6:Dd6 P w K mg base):FnOk P w K mg base (CX1 P w) 6 f fd ["house","room"] (spX K 2 qd) :=
 fn_x F aet rfl rfl fun cdv A outer s H E hr =>
  (mz (aub (XE.no jf)))
theorem af1(F:Fun K "ring_without" "ring_without" ur f fd)(T:Txt K mg)(d12:Dd12 P w K mg base)(d6:Dd6 P w K mg base)(d16:Dd16 P w K mg base):FnOk P w K mg base CX0 6 f fd ["house","arrows","room"] (spOf K 3 jj) :=
 gn F qp rfl rfl fun cdv A outer s H E hr =>
  (ao (SV.s (ab9 PassesOwn.never rfl (aas (ER.toD (dz d16 (hr.mono (by decide)) (by rfl) (eg_v (ER.toD (dz d12 (hr.mono (by decide)) (by rfl) (eg_v (ak (pv 0)) (eg_v (ak (pv 1)) bu)))) (eg_v (ER.toD (dz d6 (hr.mono (by decide)) (by rfl) (eg_n (pv 0) (eg_v (ak (pv 2)) bu)))) bu))))) (je (i:=3) qp.nd rfl (Or.inl rfl)) (bc (uv (jm (yz hr.units) (e2_n (pv 2) (cg (pv 3))) (by with_unfolding_all rfl)) (bc (dw (ago (pv 3)))) ik)))) (bc (SV.s (dw (EV.toR agm)))))
theorem ae3(F:Fun K "ring_without" "ring_without" ur f fd)(T:Txt K mg)(d12:Dd12 P w K mg base)(d6:Dd6 P w K mg base)(d16:Dd16 P w K mg base):FnOk P w K mg base (CX1 P w) 6 f fd ["house","arrows","room"] (spX K 3 jj) :=
 fn_x F qp rfl rfl fun cdv A outer s H E hr =>
  (lu (SV.s (ab9 PassesOwn.never rfl (aas (ER.toD (dz d16 (hr.mono (by decide)) (by rfl) (eg_v (ER.toD (dz d12 (hr.mono (by decide)) (by rfl) (eg_v (ak (pv 0)) (eg_v (ak (pv 1)) bu)))) (eg_v (ER.toD (dz d6 (hr.mono (by decide)) (by rfl) (eg_n (pv 0) (eg_v (ak (pv 2)) bu)))) bu))))) (je (i:=3) qp.nd rfl (Or.inl rfl)) (bc (uv (jm (yz hr.units) (e2_n (pv 2) (cg (pv 3))) (by with_unfolding_all rfl)) (bc (dw (ago (pv 3)))) ik)))) ab8 (mz ab8))
theorem apo(F:Fun K "why_of" "why_of" ae7 f fd)(T:Txt K mg)(d18:Dd18 P w K mg base)(d19:Dd19 P w K mg base)(x18:Dx18 P w K mg base)(x19:Dx19 P w K mg base):FnOk P w K mg base CX0 7 f fd ["house","arrows","room"] (spOf K 3 xx) :=
 gn F yt rfl rfl fun cdv A outer s H E hr =>
  (ao (dh (i:=3) yt.nd rfl (Or.inl rfl) (dz d18 (hr.mono (by decide)) (by rfl) (eg_n (pv 0) (eg_v (EV.s (ak (pv 2))) bu)))) (ao (uv (ET.s (jm (za hr.units) (e2_n (pv 3) (EV.toB (ER.toD (ju bz)))) (jx _))) (bc (SV.s (dw (EV.toR (jd (aa gq (aa (ER.toD (jl (e2_n (pv 3) (EV.toB au)) (fun _ _=>by rfl))) bz))))))) ik) (ao (dh (i:=4) yt.nd rfl (Or.inl rfl) (dz d19 (hr.mono (by decide)) (by rfl) (eg_v (EV.s (ak (pv 0))) (eg_v (EV.s (ak (pv 1))) (eg_v (EV.s (ak (pv 2))) bu))))) (bc (SV.s (dw (axf (akq (cg (pv 4))) (EV.toR agm) (EV.toR (jd (aa gq (aa (ak (pv 4)) bz)))))))))))
theorem aog(F:Fun K "why_of" "why_of" ae7 f fd)(T:Txt K mg)(d18:Dd18 P w K mg base)(d19:Dd19 P w K mg base)(x18:Dx18 P w K mg base)(x19:Dx19 P w K mg base):FnOk P w K mg base (CX1 P w) 7 f fd ["house","arrows","room"] (spX K 3 xx) :=
 fn_x F yt rfl rfl fun cdv A outer s H E hr =>
  (lu (dh (i:=3) yt.nd rfl (Or.inl rfl) (dz d18 (hr.mono (by decide)) (by rfl) (eg_n (pv 0) (eg_v (EV.s (ak (pv 2))) bu)))) (aua (ah1 x18 (hr.mono (by decide)) (by rfl) (eg_n (pv 0) (eg_v (EV.s (ak (pv 2))) bu)) (xa_n (pv 0) (xa_v (js:=[]) (EV.s (ak (pv 2))) (XE.no jf) ac4)))) (lu (uv (ET.s (jm (za hr.units) (e2_n (pv 3) (EV.toB (ER.toD (ju bz)))) (jx _))) (bc (SV.s (dw (EV.toR (jd (aa gq (aa (ER.toD (jl (e2_n (pv 3) (EV.toB au)) (fun _ _=>by rfl))) bz))))))) ik) (aox (ET.s (jm (za hr.units) (e2_n (pv 3) (EV.toB (ER.toD (ju bz)))) (jx _))) jf (mz ab8) afj) (lu (dh (i:=4) yt.nd rfl (Or.inl rfl) (dz d19 (hr.mono (by decide)) (by rfl) (eg_v (EV.s (ak (pv 0))) (eg_v (EV.s (ak (pv 1))) (eg_v (EV.s (ak (pv 2))) bu))))) (aua (ah1 x19 (hr.mono (by decide)) (by rfl) (eg_v (EV.s (ak (pv 0))) (eg_v (EV.s (ak (pv 1))) (eg_v (EV.s (ak (pv 2))) bu))) (xa_v (js:=[]) (EV.s (ak (pv 0))) (XE.no jf) (xa_v (js:=[]) (EV.s (ak (pv 1))) (XE.no jf) (xa_v (js:=[]) (EV.s (ak (pv 2))) (XE.no jf) ac4))))) (mz ab8))))
theorem ae4(F:Fun K "ahead_on_ring" "ahead_on_ring" vz f fd)(T:Txt K mg):FnOk P w K mg base CX0 1 f fd ["last","put_in","place"] (spOf K 3 lg) :=
 gn F j6 rfl rfl fun cdv A outer s H E hr =>
  (ao (dh (i:=3) j6.nd rfl (Or.inl rfl) (EV.toR (ak (pv 2)))) (ao (dh (i:=4) j6.nd rfl (Or.inl rfl) (axf (jm af0 (e2_n (pv 3) (EV.toB au)) (jx _)) (jl (e2_n (pv 0) (cg (pv 3))) (fun _ _=>by rfl)) (EV.toR (ak (pv 1))))) (ao (ac6 fuel PassesOwn.never (jm (za hr.units) (e2_n (pv 4) (cg (pv 2))) (jx _)) (ao (dh (i:=3) j6.nd rfl (Or.inl rfl) (EV.toR (ak (pv 4)))) (bc (dh (i:=4) j6.nd rfl (Or.inl rfl) (axf (jm af0 (e2_n (pv 3) (EV.toB au)) (jx _)) (jl (e2_n (pv 0) (cg (pv 3))) (fun _ _=>by rfl)) (EV.toR (ak (pv 1)))))))) (bc (dw (ago (pv 3)))))))
theorem aii(F:Fun K "round_back" "round_back" xq f fd)(T:Txt K mg)(d17:Dd17 P w K mg base)(d20:Dd20 P w K mg base)(d12:Dd12 P w K mg base)(d21:Dd21 P w K mg base)(d11:Dd11 P w K mg base)(x17:Dx17 P w K mg base):FnOk P w K mg base CX0 8 f fd ["house","arrows","room"] (spOf K 3 fj) :=
 gn F vm rfl rfl fun cdv A outer s H E hr =>
  (ao (pq (dz d17 (hr.mono (by decide)) (by rfl) (eg_v (EV.s (ak (pv 0))) (eg_v (EV.s (ak (pv 1))) (eg_v (EV.s (ak (pv 2))) bu))))) (ao (uv (ET.s (aen (EV.toB (ER.toD (dz d20 (hr.mono (by decide)) (by rfl) (eg_v (ak (pv 0)) (eg_v (ak (pv 1)) (eg_v (ak (pv 2)) bu)))))))) (bc ac7) ik) (ao (SV.s (dh (i:=3) vm.nd rfl (Or.inl rfl) (dz d21 (hr.mono (by decide)) (by rfl) (eg_v (ER.toD (dz d12 (hr.mono (by decide)) (by rfl) (eg_v (ak (pv 0)) (eg_v (ak (pv 1)) bu)))) (eg_v (ak (pv 2)) (eg_v (ak (pv 2)) bu)))))) (bc (SV.s (dw (EV.toR (jd (aa (ER.toD (dz d11 (hr.mono (by decide)) (by rfl) (eg_n (pv 0) (eg_n (pv 1) (eg_v (ak (pv 3)) (eg_v (zx au) bu)))))) (aa (ak (pv 3)) bz))))))))))
theorem ag1(F:Fun K "round_back" "round_back" xq f fd)(T:Txt K mg)(d17:Dd17 P w K mg base)(d20:Dd20 P w K mg base)(d12:Dd12 P w K mg base)(d21:Dd21 P w K mg base)(d11:Dd11 P w K mg base)(x17:Dx17 P w K mg base):FnOk P w K mg base (CX1 P w) 8 f fd ["house","arrows","room"] (spX K 3 fj) :=
 fn_x F vm rfl rfl fun cdv A outer s H E hr =>
  (lu (pq (dz d17 (hr.mono (by decide)) (by rfl) (eg_v (EV.s (ak (pv 0))) (eg_v (EV.s (ak (pv 1))) (eg_v (EV.s (ak (pv 2))) bu))))) (ad7 (ah1 x17 (hr.mono (by decide)) (by rfl) (eg_v (EV.s (ak (pv 0))) (eg_v (EV.s (ak (pv 1))) (eg_v (EV.s (ak (pv 2))) bu))) (xa_v (js:=[]) (EV.s (ak (pv 0))) (XE.no jf) (xa_v (js:=[]) (EV.s (ak (pv 1))) (XE.no jf) (xa_v (js:=[]) (EV.s (ak (pv 2))) (XE.no jf) ac4))))) (lu (uv (ET.s (aen (EV.toB (ER.toD (dz d20 (hr.mono (by decide)) (by rfl) (eg_v (ak (pv 0)) (eg_v (ak (pv 1)) (eg_v (ak (pv 2)) bu)))))))) (bc ac7) ik) (aox (ET.s (aen (EV.toB (ER.toD (dz d20 (hr.mono (by decide)) (by rfl) (eg_v (ak (pv 0)) (eg_v (ak (pv 1)) (eg_v (ak (pv 2)) bu)))))))) jf (mz (ac3 rfl rfl (by rfl) T.r_NeverBack)) afj) (lu (SV.s (dh (i:=3) vm.nd rfl (Or.inl rfl) (dz d21 (hr.mono (by decide)) (by rfl) (eg_v (ER.toD (dz d12 (hr.mono (by decide)) (by rfl) (eg_v (ak (pv 0)) (eg_v (ak (pv 1)) bu)))) (eg_v (ak (pv 2)) (eg_v (ak (pv 2)) bu)))))) ab8 (mz ab8))))
theorem aj2(F:Fun K "_law_cell" "_law_cell" acn f fd)(T:Txt K mg):FnOk P w K mg base CX0 1 f fd ["script","k"] (spOf K 2 f__law_cell) :=
 gn F ajn rfl rfl fun cdv A outer s H E hr =>
  (ao (uv (jm amx (e2_n (pv 1) (EV.toB (ER.toD (cz j8 (by rfl) T.z_len j9 (ea_n (pv 0) f9))))) (jx _)) (bc (dw (jl (e2_n (pv 0) (cg (pv 1))) (fun _ _=>by rfl)))) ik) (bc (dw (EV.toR au))))
theorem alq(F:Fun K "_law_pen" "_law_pen" aeb f fd)(T:Txt K mg):FnOk P w K mg base CX0 1 f fd ["cell"] (spOf K 1 f__law_pen) :=
 gn F afs rfl rfl fun cdv A outer s H E hr =>
  (ao (dh (i:=1) afs.nd rfl (Or.inl rfl) (cz (au5 rfl) (by rfl) T.z_max au6 (ea_n (pv 0) (ea_v (ER.toD (dg wj (e2_v au (cg (pv 0))))) f9)))) (bc (dw (ju (aa (ak (pv 1)) (aa (ER.toD (lr a0q (by rfl) T.z_int ara (ea_v (ER.toD (anj af0 (e2_n (pv 1) (EV.toB (ER.toD (dg aie (e2_v au (EV.toB au)))))) (jx _))) f9))) bz))))))
theorem aj1(F:Fun K "_law_draw" "_law_draw" acl f fd)(T:Txt K mg):FnOk P w K mg base CX0 1 f fd ["pen","many"] (spOf K 2 f__law_draw) :=
 gn F uw rfl rfl fun cdv A outer s H E hr =>
  (ao (uv (jm (amy hr.units) (e2_v (ER.toD (jl (e2_n (pv 0) (EV.toB au)) (fun _ _=>by rfl))) (EV.toB au)) (jx _)) (ao (auf (ER.toD (cz aq2 (by rfl) T.z_divmod arb (ea_v (ER.toD (jl (e2_n (pv 0) (EV.toB au)) (fun _ _=>by rfl))) (ea_n (pv 1) f9)))) (anf rfl (vo (je (i:=2) uw.nd rfl (Or.inl rfl)) (vo (je (i:=3) uw.nd rfl (Or.inl rfl)) aiz)))) (ao (amj (ak (pv 2)) (pv 0) au) (bc (dw (ago (pv 3)))))) ik) (ao (dh (i:=4) uw.nd rfl (Or.inl rfl) (dg aa7 (e2_v (ER.toD (dg aif (e2_v (ER.toD (dg gm (e2_v (ER.toD (dg aa7 (e2_v (ER.toD (jl (e2_n (pv 0) (EV.toB au)) (fun _ _=>by rfl))) (EV.toB au)))) (EV.toB au)))) (EV.toB au)))) (EV.toB au)))) (ao (dh (i:=4) uw.nd rfl (Or.inl rfl) (dg aa7 (e2_v (ER.toD (dg gm (e2_v (ER.toD (dg aif (e2_n (pv 4) (cg (pv 4))))) (EV.toB au)))) (EV.toB au)))) (ao (amj (ER.toD (dg aa7 (e2_v (ER.toD (dg gm (e2_v (ER.toD (dg aif (e2_n (pv 4) (EV.toB au)))) (EV.toB au)))) (EV.toB au)))) (pv 0) au) (bc (dw (dg aa7 (e2_v (ER.toD (dg awc (e2_v (ER.toD (jl (e2_n (pv 0) (EV.toB au)) (fun _ _=>by rfl))) (EV.toB au)))) (cg (pv 1))))))))))
theorem aij(F:Fun K "_law_whole" "_law_whole" aa0 f fd)(T:Txt K mg):FnOk P w K mg base CX0 1 f fd ["thing"] (spOf K 1 ql) :=
 gn F ah5 rfl rfl fun cdv A outer s H E hr =>
  (bc (dw (EV.toR (akp (agn (t:=.int) (ajr (by rfl) T.z_int ara) (by rfl) T.z_isinstance az (cg (pv 0))) (ako (au3 (agn (t:=.bool) (ajr (by rfl) T.z_bool arc) (by rfl) T.z_isinstance az (cg (pv 0)))))))))
theorem alr(F:Fun K "_law_odd" "_law_odd" aec f fd)(T:Txt K mg)(d25:Dd25 P w K mg base):FnOk P w K mg base CX0 2 f fd ["pen"] (spOf K 1 f__law_odd) :=
 gn F aft rfl rfl fun cdv A outer s H E hr =>
  (ao (dh (i:=1) aft.nd rfl (Or.inl rfl) (ju (aa agm (aa acx (aa acx (aa (zx au) (aa gq (aa gq (aa (jd bz) (aa (ER.toD (ju bz)) (aa (jd (aa au bz)) (aa (ER.toD (ju (aa au bz))) (aa atr (aa (jd (aa au (aa au bz))) (aa (ER.toD (dg aie (e2_v au (EV.toB au)))) (aa (jd (aa (jd (aa au bz)) bz)) (aa gq bz))))))))))))))))) (bc (dw (jl (e2_v (ER.toD (dg gm (e2_n (pv 1) (EV.toB (ER.toD (ju (aa (jd (aa (jd (aa (zx au) bz)) (aa (jd (aa au (aa au bz))) bz))) bz))))))) (EV.toB (ER.toD (dz d25 (hr.mono (by decide)) (by rfl) (eg_n (pv 0) (eg_v au bu)))))) (fun _ _=>by rfl)))))
theorem ajy(F:Fun K "_law_shut" "_law_shut" acj f fd)(T:Txt K mg)(d25:Dd25 P w K mg base):FnOk P w K mg base CX0 2 f fd ["pen","most","doors"] (spOf K 3 f__law_shut) :=
 gn F qg rfl rfl fun cdv A outer s H E hr =>
  (ao (dh (i:=3) qg.nd rfl (Or.inr rfl) (dg gm (e2_v au (EV.toB (ER.toD (dz d25 (hr.mono (by decide)) (by rfl) (eg_n (pv 0) (eg_n (pv 1) bu)))))))) (ao (dh (i:=4) qg.nd rfl (Or.inl rfl) (ju bz)) (ao (ab9 PassesOwn.never rfl (adt (by rfl) T.z_range (aa (ak (pv 3)) bz)) (je (i:=5) qg.nd rfl (Or.inl rfl)) (ao (dh (i:=6) qg.nd rfl (Or.inl rfl) (dg gm (e2_v au (EV.toB (ER.toD (dz d25 (hr.mono (by decide)) (by rfl) (eg_n (pv 0) (eg_n (pv 2) bu)))))))) (ao (avk (i:=7) ["pen","many"] ["door","pen","many"] [none,some 0,some 3] qg.nd rfl (Or.inl rfl) rfl (adt (by rfl) T.z_range (aa (ak (pv 6)) bz)) (fun _ _ _=>(je (i:=0) (show(["door","pen","many"]:List Str).Nodup by decide +kernel) rfl (Or.inl rfl))) (fun _ _ _=>aeo) (fun _ _ _=>(ER.toD (dz d25 (hr.mono (by decide)) (by rfl) (eg_n (pv 1) (eg_n (pv 2) bu)))))) (ao (uv (jm (amy hr.units) (e2_v (ER.toD (dz d25 (hr.mono (by decide)) (by rfl) (eg_n (pv 0) (eg_v au bu)))) (EV.toB au)) (jx _)) (bc (amj (ER.toD (dg aa7 (e2_v (ER.toD (dg gm (e2_n (pv 5) (EV.toB au)))) (cg (pv 3))))) (pv 7) au)) ik) (bc (pq (EV.toR (ahq vp PySem.F.slot_list_append PySem.F.type_list_append wk (pv 4) (aa (ER.toD (lr aam (by rfl) T.z_tuple ut (ea_n (pv 7) f9))) bz))))))))) (bc (dw (lr aam (by rfl) T.z_tuple ut (ea_n (pv 4) f9)))))))
theorem ag4(F:Fun K "_law_arrows" "_law_arrows" aag f fd)(T:Txt K mg)(d25:Dd25 P w K mg base):FnOk P w K mg base CX0 2 f fd ["pen","house"] (spOf K 2 f__law_arrows) :=
 gn F agy rfl rfl fun cdv A outer s H E hr =>
  (bc (dw (lr aam (by rfl) T.z_tuple ut (ea_v (ER.toD (acy ["pen"] ["doors","pen"] [none,some 0] rfl (aas (ak (pv 1))) (fun _ _ _=>(je (i:=0) (show(["doors","pen"]:List Str).Nodup by decide +kernel) rfl (Or.inl rfl))) (fun _ _ _=>aeo) (fun _ _ _=>(ER.toD (dz d25 (hr.mono (by decide)) (by rfl) (eg_n (pv 1) (eg_v (ER.toD (cz j8 (by rfl) T.z_len j9 (ea_n (pv 0) f9))) bu))))))) f9))))
theorem aj0(F:Fun K "_law_kind" "_law_kind" aaf f fd)(T:Txt K mg):FnOk P w K mg base CX0 1 f fd ["e"] (spOf K 1 lq) :=
 gn F ji rfl rfl fun cdv A outer s H E hr =>
  (ao (dh (i:=1) ji.nd rfl (Or.inl rfl) (ju (aa (jg T.sub (by decide +kernel) (by rfl) T.k_NoArrows (by rfl) T.z_isinstance az (cg (pv 0))) (aa (jg T.sub (by decide +kernel) (by rfl) T.k_NoRoom (by rfl) T.z_isinstance az (cg (pv 0))) (aa (jg T.sub (by decide +kernel) (by rfl) T.k_NoWalkers (by rfl) T.z_isinstance az (cg (pv 0))) (aa (jg T.sub (by decide +kernel) (by rfl) T.k_NotShut (by rfl) T.z_isinstance az (cg (pv 0))) bz)))))) (ao (dh (i:=1) ji.nd rfl (Or.inl rfl) (dg gm (e2_n (pv 1) (EV.toB (ER.toD (ju (aa (jg T.sub (by decide +kernel) (by rfl) T.k_NeverBack (by rfl) T.z_isinstance az (cg (pv 0))) (aa (jg T.sub (by decide +kernel) (by rfl) T.k_NoTour (by rfl) T.z_isinstance az (cg (pv 0))) (aa (jg T.sub (by decide +kernel) (by rfl) T.k_NoRow (by rfl) T.z_isinstance az (cg (pv 0))) (aa (jg T.sub (by decide +kernel) (by rfl) T.k_NoHouse (by rfl) T.z_isinstance az (cg (pv 0))) bz)))))))))) (ao (dh (i:=1) ji.nd rfl (Or.inl rfl) (dg gm (e2_n (pv 1) (EV.toB (ER.toD (ju (aa (jg T.sub (by decide +kernel) (by rfl) T.k_NotOpen (by rfl) T.z_isinstance az (cg (pv 0))) (aa (jg T.sub (by decide +kernel) (by rfl) T.k_Nobody (by rfl) T.z_isinstance az (cg (pv 0))) (aa (jg T.sub (by decide +kernel) (by rfl) T.k_NoText (by rfl) T.z_isinstance az (cg (pv 0))) (aa (jg T.sub (by decide +kernel) (by rfl) T.k_TooGreat (by rfl) T.z_isinstance az (cg (pv 0))) bz)))))))))) (ao (uv (EW.pt (akn (wz (wy (aql T.sub (by rfl) T.z_ValueError ad2 (by rfl) T.z_isinstance az (cg (pv 0))))) (agl (jm (za hr.units) (e2_v (anh hr.units (pv 1) (aa acx bz)) (EV.toB au)) (jx _))))) (bc (dw (EV.toR gq))) ik) (ao (dh (i:=2) ji.nd rfl (Or.inl rfl) (ju (aa gq (aa gq (aa gq (aa gq (aa gq (aa gq (aa gq (aa gq (aa gq (aa gq (aa gq (aa gq bz)))))))))))))) (bc (dw (jl (e2_n (pv 2) (EV.toB (amb PySem.F.slot_list_index PySem.F.type_list_index (aiq hr.units) (pv 1) (aa acx bz)))) (fun _ _=>by rfl)))))))))
theorem aih(F:Fun K "_law_kind" "_law_kind" aaf f fd)(T:Txt K mg):FnOkU P w K mg base 1 f fd ["e"] (spOf K 1 lq) :=
 axb F ji rfl rfl fun cdv A outer s H hr =>
  (ao (dh (i:=1) ji.nd rfl (Or.inl rfl) (ju (aa (jg T.sub (by decide +kernel) (by rfl) T.k_NoArrows (by rfl) T.z_isinstance az (cg (pv 0))) (aa (jg T.sub (by decide +kernel) (by rfl) T.k_NoRoom (by rfl) T.z_isinstance az (cg (pv 0))) (aa (jg T.sub (by decide +kernel) (by rfl) T.k_NoWalkers (by rfl) T.z_isinstance az (cg (pv 0))) (aa (jg T.sub (by decide +kernel) (by rfl) T.k_NotShut (by rfl) T.z_isinstance az (cg (pv 0))) bz)))))) (ao (dh (i:=1) ji.nd rfl (Or.inl rfl) (dg gm (e2_n (pv 1) (EV.toB (ER.toD (ju (aa (jg T.sub (by decide +kernel) (by rfl) T.k_NeverBack (by rfl) T.z_isinstance az (cg (pv 0))) (aa (jg T.sub (by decide +kernel) (by rfl) T.k_NoTour (by rfl) T.z_isinstance az (cg (pv 0))) (aa (jg T.sub (by decide +kernel) (by rfl) T.k_NoRow (by rfl) T.z_isinstance az (cg (pv 0))) (aa (jg T.sub (by decide +kernel) (by rfl) T.k_NoHouse (by rfl) T.z_isinstance az (cg (pv 0))) bz)))))))))) (ao (dh (i:=1) ji.nd rfl (Or.inl rfl) (dg gm (e2_n (pv 1) (EV.toB (ER.toD (ju (aa (jg T.sub (by decide +kernel) (by rfl) T.k_NotOpen (by rfl) T.z_isinstance az (cg (pv 0))) (aa (jg T.sub (by decide +kernel) (by rfl) T.k_Nobody (by rfl) T.z_isinstance az (cg (pv 0))) (aa (jg T.sub (by decide +kernel) (by rfl) T.k_NoText (by rfl) T.z_isinstance az (cg (pv 0))) (aa (jg T.sub (by decide +kernel) (by rfl) T.k_TooGreat (by rfl) T.z_isinstance az (cg (pv 0))) bz)))))))))) (ao (uv (EW.pt (akn (wz (wy (aql T.sub (by rfl) T.z_ValueError ad2 (by rfl) T.z_isinstance az (cg (pv 0))))) (agl (jm (za hr.units) (e2_v (anh hr.units (pv 1) (aa acx bz)) (EV.toB au)) (jx _))))) (bc (dw (EV.toR gq))) ik) (ao (dh (i:=2) ji.nd rfl (Or.inl rfl) (ju (aa gq (aa gq (aa gq (aa gq (aa gq (aa gq (aa gq (aa gq (aa gq (aa gq (aa gq (aa gq bz)))))))))))))) (bc (dw (jl (e2_n (pv 2) (EV.toB (amb PySem.F.slot_list_index PySem.F.type_list_index (aiq hr.units) (pv 1) (aa acx bz)))) (fun _ _=>by rfl)))))))))
theorem ajz(F:Fun K "_law_left" "_law_left" ack f fd)(T:Txt K mg):FnOk P w K mg base CX0 1 f fd ["house","arrows","room"] (spOf K 3 ug) :=
 gn F aaz rfl rfl fun cdv A outer s H E hr =>
  (ao (dh (i:=3) aaz.nd rfl (Or.inl rfl) (jl (e2_n (pv 1) (cg (pv 2))) (fun _ _=>by rfl))) (ao (dh (i:=4) aaz.nd rfl (Or.inl rfl) (lr amc (by rfl) T.z_list amd (ea_n (pv 1) f9))) (ao (amj (ER.toD (dg aa7 (e2_v (ER.toD (dg gm (e2_n (pv 3) (EV.toB au)))) (EV.toB (ER.toD (cz j8 (by rfl) T.z_len j9 (ea_v (ER.toD (jl (e2_n (pv 0) (cg (pv 2))) (fun _ _=>by rfl))) f9))))))) (pv 4) (ak (pv 2))) (bc (dw (EV.toR (jd (aa (ER.toD (lr aam (by rfl) T.z_tuple ut (ea_n (pv 4) f9))) (aa (ER.toD (jl (e2_v (ER.toD (jl (e2_n (pv 0) (cg (pv 2))) (fun _ _=>by rfl))) (cg (pv 3))) (fun _ _=>by rfl))) bz)))))))))
theorem aik(F:Fun K "_law_tuple" "_law_tuple" aa1 f fd)(T:Txt K mg)(d26:Dd26 P w K mg base):FnOk P w K mg base CX0 2 f fd ["found","due"] (spOf K 2 uy) :=
 gn F ah6 rfl rfl fun cdv A outer s H E hr =>
  (ao (uv (EW.pt (akn (wz (wy (agn (t:=.tuple) (ajr (by rfl) T.z_tuple ut) (by rfl) T.z_isinstance az (cg (pv 0))))) (agl (jm (za hr.units) (e2_n (pv 0) (cg (pv 1))) (jx _))))) (bc (dw (EV.toR acx))) ik) (bc (dw (cz (aq3 rfl) (by rfl) T.z_all ard (ea_v (ER.toD (acy [] ["one"] [none] rfl (aas (ak (pv 0))) (fun _ _ _=>(je (i:=0) (show(["one"]:List Str).Nodup by decide +kernel) rfl (Or.inl rfl))) (fun _ _ _=>aeo) (fun _ _ _=>(ER.toD (dz d26 (hr.mono (by decide)) (by rfl) (eg_n (pv 0) bu)))))) f9)))))
theorem ail(F:Fun K "_law_round" "_law_round" aa2 f fd)(T:Txt K mg)(d31:Dd31 P w K mg base):FnOk P w K mg base CX0 2 f fd ["house","arrows","room"] (spOf K 3 uz) :=
 gn F adc rfl rfl fun cdv A outer s H E hr =>
  (arx (iS:=3) (iL:=4) (iA:=1) (iR:=2) (iH:=5) fuel hr.units PassesOwn.never rfl adc.nd rfl rfl rfl rfl rfl (Or.inl rfl) (Or.inl rfl) (Or.inl rfl) (Or.inl rfl) (Or.inl rfl) (by decide) (by decide) (by decide) (pv 3) (pv 3) (pv 3) (ju bz) (jd (aa (ak (pv 1)) (aa (ak (pv 2)) bz))) (jd (aa (ak (pv 1)) (aa (ak (pv 2)) bz))) (jd (aa (ak (pv 1)) (aa (ak (pv 2)) bz))) (ER.toD (cz j8 (by rfl) T.z_len j9 (ea_n (pv 4) f9))) (EV.toR (ahq vp PySem.F.slot_list_append PySem.F.type_list_append wk (pv 4) (aa (jd (aa (ak (pv 1)) (aa (ak (pv 2)) bz))) bz))) (ER.toD (dz d31 (hr.mono (by decide)) (by rfl) (eg_n (pv 0) (eg_n (pv 1) (eg_v (ak (pv 2)) bu))))) (bc (dw (EV.toR (jd (aa (ak (pv 5)) (aa (ER.toD (dg wj (e2_v (ER.toD (cz j8 (by rfl) T.z_len j9 (ea_n (pv 4) f9))) (cg (pv 5))))) (aa (ak (pv 4)) bz))))))) (fun _ _=>by rfl))
theorem aef(F:Fun K "_law_no_arrows" "_law_no_arrows" vf f fd)(T:Txt K mg)(d25:Dd25 P w K mg base):FnOk P w K mg base CX0 2 f fd ["pen","house","arrows"] (spOf K 3 f__law_no_arrows) :=
 gn F lw rfl rfl fun cdv A outer s H E hr =>
  (ao (dh (i:=3) lw.nd rfl (Or.inl rfl) (dz d25 (hr.mono (by decide)) (by rfl) (eg_n (pv 0) (eg_v (ER.toD (cz j8 (by rfl) T.z_len j9 (ea_n (pv 1) f9))) bu)))) (ao (dh (i:=4) lw.nd rfl (Or.inl rfl) (jl (e2_v (ER.toD (ju (aa (ER.toD (cz j8 (by rfl) T.z_len j9 (ea_v (ER.toD (jl (e2_n (pv 1) (cg (pv 3))) (fun _ _=>by rfl))) f9))) (aa (zx au) (aa acx (aa agm (aa gq (aa (jd (aa (ER.toD (jl (e2_n (pv 2) (cg (pv 3))) (fun _ _=>by rfl))) bz)) (aa (ER.toD (dg gm (e2_v (ER.toD (cz j8 (by rfl) T.z_len j9 (ea_v (ER.toD (jl (e2_n (pv 1) (cg (pv 3))) (fun _ _=>by rfl))) f9))) (EV.toB au)))) bz))))))))) (EV.toB (ER.toD (dz d25 (hr.mono (by decide)) (by rfl) (eg_n (pv 0) (eg_v au bu)))))) (fun _ _=>by rfl))) (ao (dh (i:=5) lw.nd rfl (Or.inl rfl) (ju (aa (ER.toD (dg gm (e2_n (pv 2) (EV.toB (jd (aa au bz)))))) (aa (ER.toD (yh (pv 2) (vg au) yl)) (aa (ER.toD (lr amc (by rfl) T.z_list amd (ea_n (pv 2) f9))) (aa (jd (aa (ak (pv 2)) bz)) (aa agm (aa (ER.toD (dg gm (e2_v (ER.toD (dg gm (e2_v (ER.toD (yh (pv 2) yl (vg (ak (pv 3))))) (EV.toB (jd (aa (ak (pv 4)) bz)))))) (EV.toB (ER.toD (yh (pv 2) (vg (ER.toD (dg gm (e2_n (pv 3) (EV.toB au))))) yl)))))) (aa gq (aa atu bz)))))))))) (bc (dw (jl (e2_n (pv 5) (EV.toB (ER.toD (dz d25 (hr.mono (by decide)) (by rfl) (eg_n (pv 0) (eg_v au bu)))))) (fun _ _=>by rfl)))))))
theorem af2(F:Fun K "_law_no_room" "_law_no_room" ye f fd)(T:Txt K mg)(d25:Dd25 P w K mg base)(d27:Dd27 P w K mg base):FnOk P w K mg base CX0 3 f fd ["pen","house"] (spOf K 2 f__law_no_room) :=
 gn F aay rfl rfl fun cdv A outer s H E hr =>
  (ao (dh (i:=2) aay.nd rfl (Or.inl rfl) (ju (aa (ER.toD (cz j8 (by rfl) T.z_len j9 (ea_n (pv 1) f9))) (aa (ER.toD (dg gm (e2_v (ER.toD (dg gm (e2_v (ER.toD (cz j8 (by rfl) T.z_len j9 (ea_n (pv 1) f9))) (EV.toB au)))) (EV.toB (ER.toD (dz d25 (hr.mono (by decide)) (by rfl) (eg_n (pv 0) (eg_v (ER.toD (dg aie (e2_v au (EV.toB au)))) bu)))))))) (aa (zx au) (aa (zx au) (aa (ER.toD (dg aie (e2_v au (EV.toB au)))) (aa (ER.toD (dg wj (e2_v (zx au) (EV.toB (ER.toD (dz d25 (hr.mono (by decide)) (by rfl) (eg_n (pv 0) (eg_v au bu)))))))) bz)))))))) (bc (dw (jl (e2_v (ER.toD (ju (aa (ER.toD (dz d27 (hr.mono (by decide)) (by rfl) (eg_n (pv 0) bu))) (aa (ER.toD (jl (e2_n (pv 2) (EV.toB (ER.toD (dz d25 (hr.mono (by decide)) (by rfl) (eg_n (pv 0) (eg_v au bu)))))) (fun _ _=>by rfl))) bz)))) (EV.toB (ER.toD (dz d25 (hr.mono (by decide)) (by rfl) (eg_n (pv 0) (eg_v au bu)))))) (fun _ _=>by rfl)))))
theorem ajx(F:Fun K "_law_told" "_law_told" aci f fd)(T:Txt K mg)(d22:Dd22 P w K mg base)(x22:Dx22 P w K mg base)(u30:Du30 P w K mg base):FnOk P w K mg base CX0 9 f fd ["house","arrows","room"] (spOf K 3 fu) :=
 gn F aeu rfl rfl fun cdv A outer s H E hr =>
  (bc (avj rfl rfl rfl rfl aeu.nd rfl rfl (by rfl) T.cat T.sub (by decide +kernel) (bc (dw (dz d22 (hr.mono (by decide)) (by rfl) (eg_v (EV.s (ak (pv 0))) (eg_v (EV.s (ak (pv 1))) (eg_v (EV.s (ak (pv 2))) bu)))))) (mz (aub (ah1 x22 (hr.mono (by decide)) (by rfl) (eg_v (EV.s (ak (pv 0))) (eg_v (EV.s (ak (pv 1))) (eg_v (EV.s (ak (pv 2))) bu))) (xa_v (js:=[]) (EV.s (ak (pv 0))) (XE.no jf) (xa_v (js:=[]) (EV.s (ak (pv 1))) (XE.no jf) (xa_v (js:=[]) (EV.s (ak (pv 2))) (XE.no jf) ac4)))))) (fun ev=>(bc (dw (a0i u30 ((hr.mark ev).mono (by decide)) (by rfl) (eg_n (pv 3) bu)))))))
theorem aim(F:Fun K "_law_right" "_law_right" aa3 f fd)(T:Txt K mg)(d36:Dd36 P w K mg base)(d32:Dd32 P w K mg base)(d26:Dd26 P w K mg base):FnOk P w K mg base CX0 10 f fd ["house","arrows","room","due"] (spOf K 4 iu) :=
 gn F ade rfl rfl fun cdv A outer s H E hr =>
  (ao (dh (i:=4) ade.nd rfl (Or.inl rfl) (dz d36 (hr.mono (by decide)) (by rfl) (eg_v (ak (pv 0)) (eg_v (ak (pv 1)) (eg_v (ak (pv 2)) bu))))) (ao (uv (akq (cg (pv 3))) (bc (dw (anj (amy hr.units) (e2_n (pv 4) (EV.toB gq)) (jx _)))) ik) (ao (uv (EW.pt (akn (wz (wy (agn (t:=.tuple) (ajr (by rfl) T.z_tuple ut) (by rfl) T.z_isinstance az (cg (pv 4))))) (akn (jm (za hr.units) (e2_v (ER.toD (cz j8 (by rfl) T.z_len j9 (ea_n (pv 4) f9))) (EV.toB au)) (jx _)) (agl (wz (wy (ER.toD (dz d32 (hr.mono (by decide)) (by rfl) (eg_v (ER.toD (jl (e2_n (pv 4) (EV.toB au)) (fun _ _=>by rfl))) (eg_v (ER.toD (jl (e2_n (pv 3) (EV.toB au)) (fun _ _=>by rfl))) bu)))))))))) (bc (dw (EV.toR acx))) ik) (bc (dw (EV.toR (akp (ER.toD (dz d26 (hr.mono (by decide)) (by rfl) (eg_v (ER.toD (jl (e2_n (pv 4) (EV.toB au)) (fun _ _=>by rfl))) bu))) (ako (ER.toD (anj (amy hr.units) (e2_v (ER.toD (jl (e2_n (pv 4) (EV.toB au)) (fun _ _=>by rfl))) (EV.toB (ER.toD (jl (e2_n (pv 3) (EV.toB au)) (fun _ _=>by rfl))))) (jx _)))))))))))
theorem azh(F:Fun K "law" "law" ah7 f fd)(T:Txt K mg)(d37:Dd37 P w K mg base)(d23:Dd23 P w K mg base)(d24:Dd24 P w K mg base)(d25:Dd25 P w K mg base)(d28:Dd28 P w K mg base)(d29:Dd29 P w K mg base)(d33:Dd33 P w K mg base)(d34:Dd34 P w K mg base)(d35:Dd35 P w K mg base)(d36:Dd36 P w K mg base):FnOk P w K mg base CX0 11 f fd ["script"] (spOf K 1 aqj) :=
 gn F vh rfl rfl fun cdv A outer s H E hr =>
  (ao (uv (EW.pt (akn (wz (wy (ER.toD (dz d37 (hr.mono (by decide)) (by rfl) (eg_v (jd (aa (jd (aa au bz)) bz)) (eg_v (jd (aa au bz)) (eg_v au (eg_v (jd (aa (jd (aa au bz)) (aa au bz))) bu)))))))) (agl (wz (wy (ER.toD (dz d37 (hr.mono (by decide)) (by rfl) (eg_v (jd (aa (jd (aa au (aa au bz))) (aa (jd (aa au bz)) bz))) (eg_v (jd (aa au (aa au bz))) (eg_v au (eg_v agm bu))))))))))) (bc (dw (EV.toR acx))) ik) (ao (ab9 PassesOwn.never rfl (aas (ER.toD (dg gm (e2_v (ER.toD (ju (aa (ER.toD (dz d23 (hr.mono (by decide)) (by rfl) (eg_n (pv 0) (eg_v au bu)))) bz))) (EV.toB (ER.toD (yh (pv 0) (vg au) (vg au)))))))) (je (i:=1) vh.nd rfl (Or.inl rfl)) (ao (dh (i:=2) vh.nd rfl (Or.inl rfl) (dz d24 (hr.mono (by decide)) (by rfl) (eg_n (pv 1) bu))) (ao (dh (i:=3) vh.nd rfl (Or.inl rfl) (dz d28 (hr.mono (by decide)) (by rfl) (eg_n (pv 2) (eg_v (ER.toD (jl (e2_v (ER.toD (ju (aa au (aa au (aa au bz))))) (EV.toB (ER.toD (dz d25 (hr.mono (by decide)) (by rfl) (eg_n (pv 2) (eg_v au bu)))))) (fun _ _=>by rfl))) (eg_v au bu))))) (ao (dh (i:=4) vh.nd rfl (Or.inl rfl) (dz d29 (hr.mono (by decide)) (by rfl) (eg_n (pv 2) (eg_v (ak (pv 3)) bu)))) (ao (ab9 PassesOwn.never rfl (adt (by rfl) T.z_range (aa (ER.toD (cz j8 (by rfl) T.z_len j9 (ea_n (pv 3) f9))) bz)) (je (i:=5) vh.nd rfl (Or.inl rfl)) (ao (auf (ER.toD (dz d33 (hr.mono (by decide)) (by rfl) (eg_n (pv 3) (eg_v (ak (pv 4)) (eg_v (ak (pv 5)) bu))))) (anf rfl (vo (je (i:=6) vh.nd rfl (Or.inl rfl)) (vo (je (i:=7) vh.nd rfl (Or.inl rfl)) (vo (je (i:=8) vh.nd rfl (Or.inl rfl)) aiz))))) (bc (ab9 PassesOwn.never rfl (aas (ER.toD (ju (aa au (aa (ER.toD (cz (au5 rfl) (by rfl) T.z_max au6 (ea_v au (ea_v (ER.toD (dg wj (e2_n (pv 6) (EV.toB au)))) f9)))) (aa (ak (pv 6)) (aa (ER.toD (dg gm (e2_n (pv 6) (EV.toB au)))) (aa (ER.toD (dg wj (e2_v (ER.toD (dg gm (e2_n (pv 6) (cg (pv 7))))) (EV.toB au)))) bz)))))))) (je (i:=9) vh.nd rfl (Or.inl rfl)) (ao (dh (i:=9) vh.nd rfl (Or.inl rfl) (cz (a0p rfl) (by rfl) T.z_min aq9 (ea_n (pv 9) (ea_v (ER.toD (dg wj (e2_v (ER.toD (cz j8 (by rfl) T.z_len j9 (ea_n (pv 8) f9))) (EV.toB au)))) f9)))) (ao (dh (i:=10) vh.nd rfl (Or.inl rfl) (EV.toR agm)) (ao (uv (jm af0 (e2_n (pv 9) (cg (pv 6))) (jx _)) (bc (dh (i:=10) vh.nd rfl (Or.inl rfl) (jl (e2_v (ER.toD (dg aif (e2_v (ER.toD (yh (pv 8) (vg (ak (pv 6))) yl)) (EV.toB au)))) (EV.toB (ER.toD (dg wj (e2_v (ER.toD (dg gm (e2_v (ER.toD (dg wj (e2_n (pv 9) (cg (pv 6))))) (cg (pv 7))))) (EV.toB au)))))) (fun _ _=>by rfl)))) ik) (bc (uv (wz (wy (ER.toD (dz d37 (hr.mono (by decide)) (by rfl) (eg_v (ak (pv 3)) (eg_v (ER.toD (jl (e2_v (ER.toD (jl (e2_n (pv 8) (cg (pv 9))) (fun _ _=>by rfl))) (EV.toB au)) (fun _ _=>by rfl))) (eg_v (ER.toD (jl (e2_v (ER.toD (jl (e2_n (pv 8) (cg (pv 9))) (fun _ _=>by rfl))) (EV.toB au)) (fun _ _=>by rfl))) (eg_n (pv 10) bu)))))))) (bc (dw (EV.toR acx))) ik))))))))) (ao (dh (i:=11) vh.nd rfl (Or.inl rfl) (dz d34 (hr.mono (by decide)) (by rfl) (eg_n (pv 2) (eg_n (pv 3) (eg_v (ak (pv 4)) bu))))) (ao (dh (i:=12) vh.nd rfl (Or.inl rfl) (dz d35 (hr.mono (by decide)) (by rfl) (eg_n (pv 2) (eg_n (pv 3) bu)))) (ao (uv (EW.pt (akn (jm (za hr.units) (e2_v (ER.toD (dz d36 (hr.mono (by decide)) (by rfl) (eg_v (ak (pv 3)) (eg_v (ak (pv 11)) (eg_v (ak (pv 12)) bu))))) (EV.toB gq)) (jx _)) (agl (jm (za hr.units) (e2_v (ER.toD (dz d36 (hr.mono (by decide)) (by rfl) (eg_v (ak (pv 3)) (eg_v (ak (pv 4)) (eg_v (ak (pv 12)) bu))))) (EV.toB gq)) (jx _))))) (bc (dw (EV.toR acx))) ik) (ao (dh (i:=13) vh.nd rfl (Or.inl rfl) (dg gm (e2_v (ER.toD (yh (pv 3) yl (vg (zx au)))) (EV.toB (jd (aa (ER.toD (dg gm (e2_v (ER.toD (a0j (ER.toD (jl (e2_n (pv 3) (EV.toB (zx au))) (fun _ _=>by rfl))) yl (vg (zx au)))) (EV.toB (jd (aa (zx au) bz)))))) bz)))))) (bc (uv (EW.pt (akn (jm (za hr.units) (e2_v (ER.toD (dz d36 (hr.mono (by decide)) (by rfl) (eg_v (ak (pv 13)) (eg_v (ak (pv 4)) (eg_v (ak (pv 12)) bu))))) (EV.toB gq)) (jx _)) (agl (jm (za hr.units) (e2_v (ER.toD (dz d36 (hr.mono (by decide)) (by rfl) (eg_v (ak (pv 13)) (eg_v (ak (pv 4)) (eg_v au bu))))) (EV.toB gq)) (jx _))))) (bc (dw (EV.toR acx))) ik))))))))))) (bc (dw (EV.toR acx)))))
end
abbrev Q(K:Fg9)(x:Str)(st:Stmt)(f:Addr)(oc:Value)(od:Option Addr)(kV dc pm:Value)(an:Option Addr)(cd ct:Value)(sl:Array (Option Value)):Prop:=nsIn K mainGlobals x=some (some (.ref f))/\K.lookup f=some ⟨oc,od,.func (fnOf x x (kj st) (jh st) (aq st) .none kV dc pm an cd ct),sl⟩/\codeIn K cd x=true/\keepIn K (.ref f)=true
section
variable{K:Fg9}{x:Str}{st:Stmt}{f:Addr}{oc:Value}{od:Option Addr}{kV dc pm:Value}{an:Option Addr}{cd ct:Value}{sl:Array (Option Value)}(q:Q K x st f oc od kV dc pm an cd ct sl){h:Heap}{mg:Str->Option Value}
include q
theorem Q.F:Fun K x x st f (fnOf x x (kj st) (jh st) (aq st) .none kV dc pm an cd ct):=au0 q.2.1 q.2.2.1 q.2.2.2
theorem Q.E{ps:List Str}(X:K.In h)(G:h.Ns mainGlobals mg)(b:∀(kV doc pm:Value) (an:Option Addr) (cdv ct:Value) (us:List Value),us.length=ps.length->bindArgs (fnOf x x (kj st) (jh st) (aq st) .none kV doc pm an cdv ct) ⟨us,[]⟩=pure (ps.zip us)):mg x=some (.ref f)/\keepIn K (.ref f)=true/\Binds K (fnOf x x (kj st) (jh st) (aq st) .none kV dc pm an cd ct) ps []:=⟨mg_of X G q.1,q.2.2.2,(Q.F q).binds b⟩
theorem Q.E1{p0:Str}(X:K.In h)(G:h.Ns mainGlobals mg)(b:∀(kV doc pm:Value) (an:Option Addr) (cdv ct u0:Value),bindArgs (fnOf x x (kj st) (jh st) (aq st) .none kV doc pm an cdv ct) ⟨[u0],[]⟩=pure ([p0].zip [u0]):=by intros;rfl):mg x=some (.ref f)/\keepIn K (.ref f)=true/\Binds K (fnOf x x (kj st) (jh st) (aq st) .none kV dc pm an cd ct) [p0] []:=q.E X G fun _ _ _ _ _ _ us hl=>by obtain⟨_,rfl⟩:=ln1 hl;apply b
theorem Q.E2{p0 p1:Str}(X:K.In h)(G:h.Ns mainGlobals mg)(b:∀(kV doc pm:Value) (an:Option Addr) (cdv ct u0 u1:Value),bindArgs (fnOf x x (kj st) (jh st) (aq st) .none kV doc pm an cdv ct) ⟨[u0,u1],[]⟩=pure ([p0,p1].zip [u0,u1]):=by intros;rfl):mg x=some (.ref f)/\keepIn K (.ref f)=true/\Binds K (fnOf x x (kj st) (jh st) (aq st) .none kV dc pm an cd ct) [p0,p1] []:=q.E X G fun _ _ _ _ _ _ us hl=>by obtain⟨_,_,rfl⟩:=ln2 hl;apply b
theorem Q.E3{p0 p1 p2:Str}(X:K.In h)(G:h.Ns mainGlobals mg)(b:∀(kV doc pm:Value) (an:Option Addr) (cdv ct u0 u1 u2:Value),bindArgs (fnOf x x (kj st) (jh st) (aq st) .none kV doc pm an cdv ct) ⟨[u0,u1,u2],[]⟩=pure ([p0,p1,p2].zip [u0,u1,u2]):=by intros;rfl):mg x=some (.ref f)/\keepIn K (.ref f)=true/\Binds K (fnOf x x (kj st) (jh st) (aq st) .none kV dc pm an cd ct) [p0,p1,p2] []:=q.E X G fun _ _ _ _ _ _ us hl=>by obtain⟨_,_,_,rfl⟩:=ln3 hl;apply b
theorem Q.E4{p0 p1 p2 p3:Str}(X:K.In h)(G:h.Ns mainGlobals mg)(b:∀(kV doc pm:Value) (an:Option Addr) (cdv ct u0 u1 u2 u3:Value),bindArgs (fnOf x x (kj st) (jh st) (aq st) .none kV doc pm an cdv ct) ⟨[u0,u1,u2,u3],[]⟩=pure ([p0,p1,p2,p3].zip [u0,u1,u2,u3]):=by intros;rfl):mg x=some (.ref f)/\keepIn K (.ref f)=true/\Binds K (fnOf x x (kj st) (jh st) (aq st) .none kV dc pm an cd ct) [p0,p1,p2,p3] []:=q.E X G fun _ _ _ _ _ _ us hl=>by obtain⟨_,_,_,_,rfl⟩:=ln4 hl;apply b
end
theorem a0v{l:PySem.W.OpenLaw}{w:World}{K:Fg9}{h:Heap}{mg:Str->Option Value}(X:K.In h)(G:h.Ns mainGlobals mg)(hfa:mg "law" = some (.ref fa))
  (q0:Q K "is_whole" aea f0' o0 p0 v0 t0 m0 n0 c0 r0 z0)
  (q1:Q K "is_whole_within" su f1' o1 p1 v1 t1 m1 n1 c1 r1 z1)
  (q2:Q K "is_tuple_within" sy f2' o2 p2 v2 t2 m2 n2 c2 r2 z2)
  (q3:Q K "with_at" afu f3' o3 p3 v3 t3 m3 n3 c3 r3 z3)
  (q4:Q K "is_room_number" vd f4' o4 p4 v4 t4 m4 n4 c4 r4 z4)
  (q5:Q K "refuse_no_room" ou f5' o5 p5 v5 t5 m5 n5 c5 r5 z5)
  (q6:Q K "come_to" adf f6' o6 p6 v6 t6 m6 n6 c6 r6 z6)
  (q7:Q K "is_shut" afv f7' o7 p7 v7 t7 m7 n7 c7 r7 z7)
  (q8:Q K "refuse_not_shut" mj f8' o8 p8 v8 t8 m8 n8 c8 r8 z8)
  (q9:Q K "is_arrows" ach f9' o9 p9 v9 t9 m9 n9 c9 r9 z9)
  (q10:Q K "refuse_no_arrows" km f10' o10 p10 v10 t10 m10 n10 c10 r10 z10)
  (q11:Q K "turned_once" aac f11' o11 p11 v11 t11 m11 n11 c11 r11 z11)
  (q12:Q K "last_ways" acg f12' o12 p12 v12 t12 m12 n12 c12 r12 z12)
  (q13:Q K "going_round" aae f13' o13 p13 v13 t13 m13 n13 c13 r13 z13)
  (q14:Q K "refuse_no_state" mq f14' o14 p14 v14 t14 m14 n14 c14 r14 z14)
  (q15:Q K "ring_from" acf f15' o15 p15 v15 t15 m15 n15 c15 r15 z15)
  (q16:Q K "rings_of" ad9 f16' o16 p16 v16 t16 m16 n16 c16 r16 z16)
  (q17:Q K "refuse_no_shut_state" jn f17' o17 p17 v17 t17 m17 n17 c17 r17 z17)
  (q18:Q K "gone_from" aad f18' o18 p18 v18 t18 m18 n18 c18 r18 z18)
  (q19:Q K "ring_without" ur f19' o19 p19 v19 t19 m19 n19 c19 r19 z19)
  (q20:Q K "why_of" ae7 f20' o20 p20 v20 t20 m20 n20 c20 r20 z20)
  (q21:Q K "ahead_on_ring" vz f21' o21 p21 v21 t21 m21 n21 c21 r21 z21)
  (q22:Q K "round_back" xq f22' o22 p22 v22 t22 m22 n22 c22 r22 z22)
  (q23:Q K "_law_cell" acn f23' o23 p23 v23 t23 m23 n23 c23 r23 z23)
  (q24:Q K "_law_pen" aeb f24' o24 p24 v24 t24 m24 n24 c24 r24 z24)
  (q25:Q K "_law_draw" acl f25' o25 p25 v25 t25 m25 n25 c25 r25 z25)
  (q26:Q K "_law_whole" aa0 f26' o26 p26 v26 t26 m26 n26 c26 r26 z26)
  (q27:Q K "_law_odd" aec f27' o27 p27 v27 t27 m27 n27 c27 r27 z27)
  (q28:Q K "_law_shut" acj f28' o28 p28 v28 t28 m28 n28 c28 r28 z28)
  (q29:Q K "_law_arrows" aag f29' o29 p29 v29 t29 m29 n29 c29 r29 z29)
  (q30:Q K "_law_kind" aaf f30' o30 p30 v30 t30 m30 n30 c30 r30 z30)
  (q31:Q K "_law_left" ack f31' o31 p31 v31 t31 m31 n31 c31 r31 z31)
  (q32:Q K "_law_tuple" aa1 f32' o32 p32 v32 t32 m32 n32 c32 r32 z32)
  (q33:Q K "_law_round" aa2 f33' o33 p33 v33 t33 m33 n33 c33 r33 z33)
  (q34:Q K "_law_no_arrows" vf f34' o34 p34 v34 t34 m34 n34 c34 r34 z34)
  (q35:Q K "_law_no_room" ye f35' o35 p35 v35 t35 m35 n35 c35 r35 z35)
  (q36:Q K "_law_told" aci f36' o36 p36 v36 t36 m36 n36 c36 r36 z36)
  (q37:Q K "_law_right" aa3 f37' o37 p37 v37 t37 m37 n37 c37 r37 z37)
  (a38:nsIn K mainGlobals "law" = some (some (.ref f38'))) (l38:K.lookup f38'=some ⟨oc38,od38,.func (fnOf "law" "law" (kj ah7) (jh ah7) (aq ah7) .none kV38 dc38 pm38 an38 cd38 ct38),sl38⟩) (c38:codeIn K cd38 "law" = true) (k38:keepIn K (.ref f38')=true)
  (e_cls:aqv K NS=true) (e_sub:ah2 K NS=true) (e_rai:aul K ["ArrowError","NoArrows","NoRoom","NoWalkers","NotShut","NeverBack","NoTour","NoRow"]=true) (e_cat:catB K=true)
  (y_ValueError:nsIn K mainGlobals "ValueError" = some none)
  (y_all:nsIn K mainGlobals "all" = some none)
  (y_bool:nsIn K mainGlobals "bool" = some none)
  (y_divmod:nsIn K mainGlobals "divmod" = some none)
  (y_int:nsIn K mainGlobals "int" = some none)
  (y_isinstance:nsIn K mainGlobals "isinstance" = some none)
  (y_len:nsIn K mainGlobals "len" = some none)
  (y_list:nsIn K mainGlobals "list" = some none)
  (y_max:nsIn K mainGlobals "max" = some none)
  (y_min:nsIn K mainGlobals "min" = some none)
  (y_range:nsIn K mainGlobals "range" = some none)
  (y_sorted:nsIn K mainGlobals "sorted" = some none)
  (y_tuple:nsIn K mainGlobals "tuple" = some none)
  (y_zip:nsIn K mainGlobals "zip" = some none)
  : ∃fd:FuncData,(∀(s:Shared) (v:Value),BindsTo s fd ⟨[v],[]⟩ [("script", v)])/\∀base:Heap,K.In base->base.Ns mainGlobals mg->FnOk l.prog w K mg base CX0 11 fa fd ["script"] (spOf K 1 aqj):=by
 have e:=hfa.symm.trans (mg_of X G a38);cases e;have T:Txt K mg:=⟨mg_none_of X G y_ValueError,mg_none_of X G y_all,mg_none_of X G y_bool,mg_none_of X G y_divmod,mg_none_of X G y_int,mg_none_of X G y_isinstance,mg_none_of X G y_len,mg_none_of X G y_list,mg_none_of X G y_max,mg_none_of X G y_min,mg_none_of X G y_range,mg_none_of X G y_sorted,mg_none_of X G y_tuple,mg_none_of X G y_zip,e_sub,axm X G e_cat,rn X G e_cls (by decide +kernel),rn X G e_cls (by decide +kernel),rn X G e_cls (by decide +kernel),rn X G e_cls (by decide +kernel),rn X G e_cls (by decide +kernel),rn X G e_cls (by decide +kernel),rn X G e_cls (by decide +kernel),rn X G e_cls (by decide +kernel),rn X G e_cls (by decide +kernel),rn X G e_cls (by decide +kernel),rn X G e_cls (by decide +kernel),rn X G e_cls (by decide +kernel),rn X G e_cls (by decide +kernel),aa6 X G e_cls (by decide +kernel) e_rai (by decide +kernel),aa6 X G e_cls (by decide +kernel) e_rai (by decide +kernel),aa6 X G e_cls (by decide +kernel) e_rai (by decide +kernel),aa6 X G e_cls (by decide +kernel) e_rai (by decide +kernel),aa6 X G e_cls (by decide +kernel) e_rai (by decide +kernel),aa6 X G e_cls (by decide +kernel) e_rai (by decide +kernel),aa6 X G e_cls (by decide +kernel) e_rai (by decide +kernel),aa6 X G e_cls (by decide +kernel) e_rai (by decide +kernel)⟩
 have F38:=au0 (st:=ah7) l38 c38 k38;refine⟨fnOf "law" "law" (kj ah7) (jh ah7) (aq ah7) .none kV38 dc38 pm38 an38 cd38 ct38,fun s v=>.of_eq rfl,fun base _ _ =>?_⟩
 have d0:Dd0 l.prog w K mg base:=⟨_,_,alp q0.F T,q0.E1 X G⟩;have d1:Dd1 l.prog w K mg base:=⟨_,_,adm q1.F T d0,q1.E3 X G⟩;have d2:Dd2 l.prog w K mg base:=⟨_,_,adn q2.F T,q2.E3 X G⟩;have d3:Dd3 l.prog w K mg base:=⟨_,_,aoh q3.F T,q3.E3 X G⟩;have d4:Dd4 l.prog w K mg base:=⟨_,_,aee q4.F T d1,q4.E2 X G⟩;have d5:Dd5 l.prog w K mg base:=⟨_,_,aed q5.F T d4,q5.E2 X G⟩;have x5:Dx5 l.prog w K mg base:=⟨_,_,adi q5.F T d4,q5.E2 X G⟩;have d6:Dd6 l.prog w K mg base:=⟨_,_,aoj q6.F T d5 x5,q6.E2 X G⟩;have x6:DfnX l.prog w K mg base _ _ _ _:=⟨_,_,aln (P:=l.prog) (w:=w) (base:=base) q6.F T d5 x5,q6.E2 X G⟩;have d7:Dd7 l.prog w K mg base:=⟨_,_,aoi q7.F T,q7.E1 X G⟩;have d8:Dd8 l.prog w K mg base:=⟨_,_,adk q8.F T d7,q8.E1 X G⟩;have x8:Dx8 l.prog w K mg base:=⟨_,_,aco q8.F T d7,q8.E1 X G⟩;have d9:Dd9 l.prog w K mg base:=⟨_,_,ajv q9.F T d2 d1,q9.E2 X G⟩;have d10:Dd10 l.prog w K mg base:=⟨_,_,acq q10.F T d9,q10.E2 X G⟩;have x10:Dx10 l.prog w K mg base:=⟨_,_,ab5 q10.F T d9,q10.E2 X G⟩;have d11:Dd11 l.prog w K mg base:=⟨_,_,ag2 q11.F T d3,q11.E4 X G⟩;have d12:Dd12 l.prog w K mg base:=⟨_,_,aju q12.F T,q12.E2 X G⟩;have d13:Dd13 l.prog w K mg base:=⟨_,_,ag3 q13.F T,q13.E2 X G⟩;have d14:Dd14 l.prog w K mg base:=⟨_,_,adl q14.F T d10 d5 x10 x5,q14.E3 X G⟩;have x14:Dx14 l.prog w K mg base:=⟨_,_,acp q14.F T d10 d5 x10 x5,q14.E3 X G⟩;have d15:Dd15 l.prog w K mg base:=⟨_,_,ajt q15.F T,q15.E2 X G⟩;have d16:Dd16 l.prog w K mg base:=⟨_,_,alo q16.F T d13 d15,q16.E2 X G⟩;have d17:Dd17 l.prog w K mg base:=⟨_,_,aai q17.F T d14 d8 x14 x8,q17.E3 X G⟩;have x17:Dx17 l.prog w K mg base:=⟨_,_,zb q17.F T d14 d8 x14 x8,q17.E3 X G⟩;have d18:Dd18 l.prog w K mg base:=⟨_,_,ajw q18.F T d6,q18.E2 X G⟩;have x18:Dx18 l.prog w K mg base:=⟨_,_,aig q18.F T d6,q18.E2 X G⟩;have d19:Dd19 l.prog w K mg base:=⟨_,_,af1 q19.F T d12 d6 d16,q19.E3 X G⟩;have x19:Dx19 l.prog w K mg base:=⟨_,_,ae3 q19.F T d12 d6 d16,q19.E3 X G⟩;have d20:Dd20 l.prog w K mg base:=⟨_,_,apo q20.F T d18 d19 x18 x19,q20.E3 X G⟩;have x20:DfnX l.prog w K mg base _ _ _ _:=⟨_,_,aog (P:=l.prog) (w:=w) (base:=base) q20.F T d18 d19 x18 x19,q20.E3 X G⟩;have d21:Dd21 l.prog w K mg base:=⟨_,_,ae4 q21.F T,q21.E3 X G⟩;have d22:Dd22 l.prog w K mg base:=⟨_,_,aii q22.F T d17 d20 d12 d21 d11 x17,q22.E3 X G⟩;have x22:Dx22 l.prog w K mg base:=⟨_,_,ag1 q22.F T d17 d20 d12 d21 d11 x17,q22.E3 X G⟩;have d23:Dd23 l.prog w K mg base:=⟨_,_,aj2 q23.F T,q23.E2 X G⟩;have d24:Dd24 l.prog w K mg base:=⟨_,_,alq q24.F T,q24.E1 X G⟩;have d25:Dd25 l.prog w K mg base:=⟨_,_,aj1 q25.F T,q25.E2 X G⟩;have d26:Dd26 l.prog w K mg base:=⟨_,_,aij q26.F T,q26.E1 X G⟩;have d27:Dd27 l.prog w K mg base:=⟨_,_,alr q27.F T d25,q27.E1 X G⟩;have d28:Dd28 l.prog w K mg base:=⟨_,_,ajy q28.F T d25,q28.E3 X G⟩;have d29:Dd29 l.prog w K mg base:=⟨_,_,ag4 q29.F T d25,q29.E2 X G⟩;have u30:Du30 l.prog w K mg base:=⟨_,_,aih q30.F T,q30.E1 X G⟩;have d30:Dfn l.prog w K mg base _ _ _ _:=⟨_,_,aj0 (P:=l.prog) (w:=w) (base:=base) q30.F T,q30.E1 X G⟩;have d31:Dd31 l.prog w K mg base:=⟨_,_,ajz q31.F T,q31.E3 X G⟩;have d32:Dd32 l.prog w K mg base:=⟨_,_,aik q32.F T d26,q32.E2 X G⟩;have d33:Dd33 l.prog w K mg base:=⟨_,_,ail q33.F T d31,q33.E3 X G⟩;have d34:Dd34 l.prog w K mg base:=⟨_,_,aef q34.F T d25,q34.E3 X G⟩;have d35:Dd35 l.prog w K mg base:=⟨_,_,af2 q35.F T d25 d27,q35.E2 X G⟩;have d36:Dd36 l.prog w K mg base:=⟨_,_,ajx q36.F T d22 x22 u30,q36.E3 X G⟩;have d37:Dd37 l.prog w K mg base:=⟨_,_,aim q37.F T d36 d32 d26,q37.E4 X G⟩;exact azh F38 T d37 d23 d24 d25 d28 d29 d33 d34 d35 d36
end My
set_option genInjectivity false in
structure PySem.W.Fast where(tw6246807180267498112 tw8892816978834821792 tw17943790580513106656 tw9340736790040322816 tw15501378992924353312 tw4672245800940842081 tw13203578100039220705 tw15624698401974342369 tw16556444876633192193 tw929694754949989570 tw1048918371970469923 tw11591551683710320835 tw3372998500761333699 tw2563815968663927909 tw10975096412854877733 tw81719737331081093 tw679118431621094662 tw13314721850136013255 tw8567558691006233098 tw10532871361530838443 tw5233647584913016876 tw13210368491975745549 tw8892434146541569357 tw10886467801591634509 tw2317286898582115053 tw10008658196108793645 tw2693622207039118606 tw15951937982319711598 tw498435751034305998 tw15569586963227847150 tw12297399730447315438 tw17992715738032281230 tw10053731596087278446 tw10539481922641286160 tw9310761581525669072 tw9158568408417118160 tw12727417116959027281 tw4281101653485741650 tw8150625493723552211 tw2628217081508437459 tw3219565349268900723 tw6693692812925998035 tw503801674836971732 tw7269058309523724660 tw9264819816111058324 tw13971756120166095284 tw225312683543033269 tw14954868960953500469 tw4327015454489629621 tw439649688000144598 tw14065597310467659063 tw11403653126698995639 tw4429527982590525272 tw10965431982283650713 tw16072511339357359258 tw14214513661013852602 tw3818588324947588894 tw17161623808320209854 tw1508314202095662175 tw16503410413758059775 tw1626858543855523679 tw18212213811332943711 tw14282663367700963295 tw1883067115284360625 tw12243447071012888519 tw3421140079599896615 tw7244815664726845539 tw7744269251222506093 tw14496663592059264792 tw13355511087289352822 tw18379556091962636866 tw4076393896514314831 tw3300207633836837459 tw11783229107380081541 tw12434673929200132677 tw14003695648490246731 tw4316553474123167048 tw2875169278525903245 tw3830286346265105785 tw4349495138091075057 tw15882477860523102268 tw11295749519702999598 tw14697758335320838312 tw5377145407785679628 tw10870301631423386618 tw4354104203813678889 tw13938081212069030536 tw7207641837706996563 tw3906207469047383185 tw759239489325350062 tw14157047218699549273 tw8723950999517892271 tw2526028195330367064 tw2138083693981983198 tw15495857662922141721 tw13408105077053309080 tw9765200359731047843 tw17929917392512063961 tw2310936021776694091 tw5555988156309508610 tw1309697755048511498 tw479000744276487737 tw14063678758209491200 tw11709184146131017378 tw15436023020657849915 tw3476678542313813239 tw36421616806789939 tw10576562225424294960 tw3319069349711208693 tw4310731330699001586 tw3583585644836581474 tw12632640362858213654 tw128232680252487708 tw837533558702823310 tw12857274949417337722 tw4833583560835894831 tw12271919608894321772 tw1979061498558881622 tw17413707906023600985 tw9052189617503678673 tw3263117605925147182 tw16419809312334162019 tw12447148714699333933 tw5747210577483231214 tw11531750980989309929 tw15116859210669299388 tw7869731400118190229 tw1796236483964206870 tw7275847639370650385 tw5843402175502901015 tw6745969177835160494 tw10195563905189321403 tw1627761799408460897 tw8362388401832159080 tw2120664414033386771 tw1680006803076927624 tw12028584275238266204 tw11261730595555030219 tw15220716392821892677 tw8909530317198176481 tw11684346471045082465 tw12923694136943311450 tw1747257459050889015 tw4548182568921511166 tw7462705346489140368 tw6075279311028094352 tw13729235799171494873 tw176093683361624260 tw7711400064287801713 tw14255904303436374917 tw14477870787772243346 tw17238861847662155712 tw13097410552268617149 tw16839879033073625105 tw10472755422557733840 tw14800839433224482688 tw14709125847446617498 tw13237425191546470197 tw15406606863434648666 tw8537758859632886969 tw11318864444501705715 tw3149810270099796185 tw10222983983177271953 tw14852085180358443188 tw12929074018752572627 tw3576085354972652585 tw9413616530309136170 tw9659687181178810961 tw4537234736961832524 tw6969021827950563640 tw7067980624584844770 tw16648444984344065189 tw8840385639845416989 tw928924711261620587 tw6389685322144195059 tw5675900273912716937 tw15518466445979011876 tw2134655782062655187 tw4949762464677083727 tw4483042966435348499 tw6561783609757681092 tw17040695961511655198 tw16079943834230329500 tw17159036955316977324 tw9775386267748783472 tw10918645124678192471 tw11357142603154386990 tw5633356534975728807 tw10006136459229364614 tw3157271851604639710 tw5210008860744435576 tw7928021847282090350 tw8837045272214085686 tw1056114296806896015 tw10798475160970590065 tw6721687205432834240 tw2429012264701204325 tw721142964237824814 tw8851274046928185393 tw17891985201073047922 tw11133420293845674931 tw4006178000232763416 tw4072860872100844062 tw14233584063365783856:Unit)
open PySem PySem.W PyProof.Rows
set_option maxRecDepth 100000 in
set_option maxHeartbeats 0 in
theorem PySem.Challenge.cw_turnarrows_k48_rounds_led_back_holds : PySem.Challenge.rw_turnarrows_k48_rounds_led_back.Holds := by
 w_on;o_law;k_head;(case hw=>w_witness2)
 k_fill
 refine Dn.walk (l:=PySem.Challenge.rw_turnarrows_k48_rounds_led_back) (f:=My.aqj) (k:=11) My.as9 rfl rfl ⟨rfl,by decide,by decide,rfl⟩ (fun w h Y=>PySem.W.kIn_of Y) ?F
 case F =>
  intro w mg fa h KX G hmg;refine' My.a0v KX G hmg ?_ ?_ ?_ ?_ ?_ ?_ ?_ ?_ ?_ ?_ ?_ ?_ ?_ ?_ ?_ ?_ ?_ ?_ ?_ ?_ ?_ ?_ ?_ ?_ ?_ ?_ ?_ ?_ ?_ ?_ ?_ ?_ ?_ ?_ ?_ ?_ ?_ ?_ ?_ ?_ ?_ ?_ ?_ ?_ ?_ ?_ ?_ ?_ ?_ ?_ ?_ ?_ ?_ ?_ ?_ ?_ ?_ ?_ ?_ ?_
  all_goals try refine' And.intro ?_ (And.intro ?_ (And.intro ?_ ?_))
  any_goals k_is
  all_goals kernel_rfl
