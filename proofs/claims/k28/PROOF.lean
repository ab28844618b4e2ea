import PyProof.Rows.All
import Wide.All
import OpenK.AllK
import Wide.FinOn
import Lean
import PyProof.EqAt
import PyProof.EqKinds
import PyProof.TupleCall
import PySem.Challenge.RW_turnarrows_k28_why_in_no_round
set_option Elab.async false
set_option linter.all false
set_option maxRecDepth 100000
noncomputable section
open PySem.W (nsIn mg_of keepIn fnOf codeIn findIn mg_none_of)
abbrev Fg9:=PySem.W.Frag
abbrev LL9:=List (List Int)
section
open PySem PySem.Spec PyProof.Rows
namespace L2
abbrev Key:=Sum Int Str
def ayp:Key->Value->Bool
 | .inl k,v=>Value.isInt k v
 | .inr x,v=>Value.isStrOf x v
def keyH(w:World):Key->Int
 | .inl k=>hashInt k
 | .inr x=>hashStr w x
theorem jh:∀{k:Key} {v:Value},ayp k v=true->(∃i t,k=Sum.inl i/\v=Value.int i t)∨(∃x t,k=Sum.inr x/\v=Value.str x t)
 | .inl i,v,h=>by
  obtain⟨t,e⟩:=Value.isInt_shape (k:=i) (v:=v) h;exact .inl ⟨i,t,rfl,e⟩
 | .inr x,v,h=>by
  obtain⟨t,e⟩:=Value.isStrOf_shape (x:=x) (v:=v) h;exact .inr ⟨x,t,rfl,e⟩
theorem ayo(a b:Int):decide ((Sum.inl a:Key)=Sum.inl b)=(a==b):=by
 by_cases e:a=b
 ·subst e;simp
 ·have h:¬(Sum.inl a:Key)=Sum.inl b:=fun q=>e (Sum.inl.inj q)
  rw[decide_eq_false h];exact(beq_eq_false_iff_ne.mpr e).symm
theorem ayl(a b:Str):decide ((Sum.inr a:Key)=Sum.inr b)=decide (a=b):=by
 by_cases e:a=b
 ·subst e;simp
 ·have h:¬(Sum.inr a:Key)=Sum.inr b:=fun q=>e (Sum.inr.inj q)
  rw[decide_eq_false h,decide_eq_false e]
theorem ayn(a:Int)(b:Str):decide ((Sum.inl a:Key)=Sum.inr b)=false:=decide_eq_false (fun q=>nomatch q)
theorem aym(a:Str)(b:Int):decide ((Sum.inr a:Key)=Sum.inl b)=false:=decide_eq_false (fun q=>nomatch q)
def api(prog:Program)(w:World):PySem.KeyKind prog w Key where
 is:=ayp
 hash:=keyH w
 inj:=fun v a b ha hb=>by
  rcases jh ha with⟨i,t,rfl,rfl⟩ | ⟨x,t,rfl,rfl⟩
  ·rcases jh hb with⟨j,u,rfl,e⟩ | ⟨y,u,rfl,e⟩
   ·injection e with e1 _;rw[e1]
   ·exact nomatch e
  ·rcases jh hb with⟨j,u,rfl,e⟩ | ⟨y,u,rfl,e⟩
   ·exact nomatch e
   ·injection e with e1 _;rw[e1]
 byValue:=fun k v h=>by
  rcases jh h with⟨i,t,rfl,rfl⟩ | ⟨x,t,rfl,rfl⟩ <;> rfl
 pyHash:=fun hv h=>by
  rcases jh hv with⟨i,t,rfl,rfl⟩ | ⟨x,t,rfl,rfl⟩
  ·exact wpAny_pyHash_int h
  ·exact wpAny_pyHash_str h
 eqBool:=fun hu hv h=>by
  rcases jh hu with⟨i,t,rfl,rfl⟩ | ⟨x,t,rfl,rfl⟩
  ·rcases jh hv with⟨j,u,rfl,rfl⟩ | ⟨y,u,rfl,rfl⟩
   ·rw[ayo] at h;exact wpAny_eqBool_int h
   ·rw[ayn] at h;exact SeqAt.EqAt.int_str i t y u _ _ _ _ h
  ·rcases jh hv with⟨j,u,rfl,rfl⟩ | ⟨y,u,rfl,rfl⟩
   ·rw[aym] at h;exact SeqAt.EqAt.str_int x t j u _ _ _ _ h
   ·rw[ayl] at h;exact wpAny_eqBool_str h
 «strs» := fun k x t v h=>by
  rcases jh h with⟨i,u,rfl,e⟩ | ⟨y,u,rfl,e⟩
  ·exact nomatch e
  ·injection e with e1 _
   subst e1;cases v <;> rfl
def IsTp(h:Heap)(a:Addr)(items:Array Value):Prop:=∃o,h.get? a=some o/\o.cls=.type "tuple" /\ o.dict=none/\∃n,o.data=.seq items n
theorem IsTp.tup{h:Heap}{a:Addr}{items:Array Value}(x:IsTp h a items):IsTup h a items:=let ⟨o,e,c,_,n,d⟩:=x;⟨o,e,c,n,d⟩
theorem IsTp.new(h:Heap)(items:Array Value):IsTp (h.push { cls:=.type "tuple", data:=.seq items }) h.objs.size items:=⟨_,Heap.get?_push_size _ rfl,rfl,rfl,_,rfl⟩
inductive V where
 | non | bl (b:Bool) | int (i:Int) | str (x:Str) | byt (b:Array UInt8) | flt (b:UInt64) | ref (a:Addr) | ty (n:String)
 deriving DecidableEq
def RelV:V->Value->Prop
 | .non,u=>u=Value.none
 | .bl b,u=>u=Value.bool b
 | .int i,u=>∃t,u=Value.int i t
 | .str x,u=>∃t,u=Value.str x t
 | .byt b,u=>∃t,u=Value.bytes b t
 | .flt b,u=>∃t,u=Value.float b t
 | .ref a,u=>u=Value.ref a
 | .ty n,u=>u=Value.type n
abbrev Vals:List V->List Value->Prop:=Paired RelV
theorem Vals.length{xs:List V}{us:List Value}(r:Vals xs us):xs.length=us.length:=Paired.length r
theorem Vals.get:∀{xs:List V} {us:List Value} {i:Nat} {x:V},Vals xs us->xs[i]? = some x->∃u,us[i]? = some u/\RelV x u
 | _,_,_,_,.nil,e=>by simp at e
 | _,_,0,_,.cons r _,e=>by simp at e;subst e;exact⟨_,rfl,r⟩
 | _,_,i+1,x,.cons _ t,e=>by
  obtain⟨u,h1,h2⟩:=Vals.get (i:=i) (x:=x) t (by simpa using e)
  exact⟨u,by simpa using h1,h2⟩
theorem Vals.set{x:V}{u:Value}(r:RelV x u):∀{xs:List V} {us:List Value} (i:Nat),Vals xs us->Vals (xs.set i x) (us.set i u)
 | _,_,_,.nil=>.nil
 | _,_,0,.cons _ t=>.cons r t
 | _,_,i+1,.cons q t=>.cons q (Vals.set r i t)
theorem Vals.append:∀{xs ys:List V} {us ws:List Value},Vals xs us->Vals ys ws->Vals (xs++ys) (us++ws)
 | _,_,_,_,.nil,s=>s
 | _,_,_,_,.cons r t,s=>.cons r (Vals.append t s)
theorem Vals.take:∀{xs:List V} {us:List Value} (n:Nat),Vals xs us->Vals (xs.take n) (us.take n)
 | _,_,0,_=>.nil
 | _,_,_+1,.nil=>.nil
 | _,_,n+1,.cons r t=>.cons r (Vals.take n t)
theorem Vals.drop:∀{xs:List V} {us:List Value} (n:Nat),Vals xs us->Vals (xs.drop n) (us.drop n)
 | _,_,0,r=>r
 | _,_,_+1,.nil=>.nil
 | _,_,n+1,.cons _ t=>Vals.drop n t
def RelO:Option V->Option Value->Prop
 | some v,some u=>RelV v u
 | none,none=>True
 | _,_=>False
def KV{κ:Type}:List (κ×V)->List (κ×Value)->Prop:=Paired fun(p:κ×V) (q:κ×Value)=>p.1=q.1/\RelV p.2 q.2
def kV:Key->V
 | .inl i=>.int i
 | .inr x=>.str x
inductive HO where
 | lst (xs:List V)
 | tup (xs:List V)
 | dK (kvs:List (Key×V)) | dT (kvs:List (List Key×V))
 | set (S:Int->Bool) (n:Nat)
 | ins (C dx:Addr) (fs:List (Str×V))
 | own (x:Addr)
 | xd (fs:List (Str×V))
 | met (f x:Addr)
 | rng (lo hi:Int)
 | frz (o:Obj) (u:HO)
 | tbl (ps:Array Value)
 | ext (φ:Heap->Prop)
abbrev Hp:=Addr->Option HO
def upd(H:Hp)(a:Addr)(o:HO):Hp:=fun b=>if b=a then some o else H b
theorem fj{H:Hp}{a:Addr}{o:HO}:upd H a o a=some o:=by unfold upd;rw[if_pos rfl]
theorem bj{H:Hp}{a b:Addr}{o:HO}(h:b≠a):upd H a o b=H b:=by unfold upd;rw[if_neg h]
theorem fu{H:Hp}{a b:Addr}{o:HO}(h:H a=some o)(h':H b=none):a≠b:=by
 intro e;subst e;rw[h] at h';cases h'
section
variable(P:Program)(w:World)
def ux(H:Hp)(h:Heap)(a:Addr):HO->Prop
 | .lst xs=>xs.length<=sizeLine/\∃(its:List Value) (n:Nat),Vals xs its/\h.get? a=some { cls:=.type "list", data:=.seq its.toArray n }
 | .tup xs=>xs.length<=sizeLine/\∃its:List Value,Vals xs its/\IsTp h a its.toArray
 | .dK kvs=>kvs.length<=sizeLine/\(a==sysModules)=false/\∃vs,KV kvs vs/\h.DictOf (api P w) a vs
 | .dT kvs=>kvs.length<=sizeLine/\(a==sysModules)=false/\∃xs:List (List Key×Addr×Value),
   Paired (fun(p:List Key×V) (q:List Key×Addr×Value)=>p.1=q.1/\H q.2.1=some (.tup (p.1.map kV))/\RelV p.2 q.2.2) kvs xs /\
   ∃o es ep,h.get? a=some o/\o.ExactDict/\o.data=.dict es ep/\es.toList=xs.map (entryOfKey (tupleKind (api P w)))/\(xs.map (·.1)).Nodup
 | .set S n=>h.SetOf (intKind P w) a S n
 | .ins C dx fs=>H dx=some (.own a)/\fs.length<=1000/\dx≠a/\h.get? a=some (PySem.W.instObj C dx) /\
   ∃mA,h.Ns1 dx mA/\(∀f,RelO (fs.lookup f) (mA f))/\PySem.Within mA (fs.map (·.1))
 | .own _=>∃o,h.get? a=some o
 | .xd fs=>∃mA,h.Ns1 a mA/\∀f,RelO (fs.lookup f) (mA f)
 | .rng lo hi=>∃t u v,h.get? a=some { cls:=.type "range", data:=.fields #[.int lo t,.int hi u,.int 1 v] }
 | .frz o u=>h.get? a=some o/\ux H h a u
 | .tbl ps=>h.get? a=some { cls:=.none,data:=.fields ps }
 | .met f x=>h.get? a=some (PySem.W.methodObj (.ref f) (.ref x))
 | .ext φ=>φ h/\(∃o,h.get? a=some o)/\∀h1 h2:Heap,φ h1->(∀o,h1.get? a=some o->h2.get? a=some o)->φ h2
def HOk(H:Hp)(h:Heap):Prop:=∀a o,H a=some o->ux P w H h a o
end
section
variable{P:Program}{w:World}{H H':Hp}{h h':Heap}{a:Addr}{o:HO}
theorem ux.lt(x:ux P w H h a o):a < h.objs.size:=by
 cases o with
 | lst xs=>obtain⟨_,_,_,_,e⟩:=x;exact Heap.lt_size e
 | tup xs=>obtain⟨_,_,_,p⟩:=x;exact p.tup.lt
 | dK kvs=>obtain⟨_,_,_,_,o,_,_,e,_⟩:=x;exact Heap.lt_size e
 | dT kvs=>obtain⟨_,_,_,_,o,_,_,e,_⟩:=x;exact Heap.lt_size e
 | set S n=>obtain⟨o,_,_,_,e,_⟩:=x;exact Heap.lt_size e
 | ins C dx fs=>obtain⟨_,_,_,e,_⟩:=x;exact Heap.lt_size e
 | own y=>obtain⟨_,e⟩:=x;exact Heap.lt_size e
 | xd fs=>obtain⟨_,⟨_,_,_,e,_⟩,_⟩:=x;exact Heap.lt_size e
 | rng lo hi=>obtain⟨_,_,_,e⟩:=x;exact Heap.lt_size e
 | frz ob u=>obtain⟨e,_⟩:=x;exact Heap.lt_size e
 | tbl ps=>exact Heap.lt_size (show h.get? a=some _ from x)
 | met f y=>exact Heap.lt_size (show h.get? a=some _ from x)
 | ext φ=>obtain⟨_,⟨_,e⟩,_⟩:=x;exact Heap.lt_size e
theorem Paired.mapP{α β:Type}{F G:α->β->Prop}:∀{l₁:List α} {l₂:List β},Paired F l₁ l₂->(∀a b,F a b->G a b)->Paired G l₁ l₂
 | _,_,.nil,_=>.nil
 | _,_,.cons r t,f=>.cons (f _ _ r) (Paired.mapP t f)
theorem ux.stay(x:ux P w H h a o)(k:∀b u,(b=a∨H b=some (.own a))->h.get? b=some u->h'.get? b=some u)
  (ho:∀b,H b=some (.own a)->H' b=some (.own a)) (ht:∀b xs,H b=some (.tup xs)->H' b=some (.tup xs)):ux P w H' h' a o:=by
 induction o with
 | lst xs=>obtain⟨z,its,n,r,e⟩:=x;exact⟨z,its,n,r,k _ _ (.inl rfl) e⟩
 | tup xs=>obtain⟨z,its,r,ob,e,c⟩:=x;exact⟨z,its,r,ob,k _ _ (.inl rfl) e,c⟩
 | dK kvs=>obtain⟨z,y,vs,r,ob,es,ep,e,c⟩:=x;exact⟨z,y,vs,r,ob,es,ep,k _ _ (.inl rfl) e,c⟩
 | dT kvs =>
  obtain⟨z,y,xs,r,ob,es,ep,e,c⟩:=x;exact⟨z,y,xs,Paired.mapP r fun p q z=>⟨z.1,ht _ _ z.2.1,z.2.2⟩,ob,es,ep,k _ _ (.inl rfl) e,c⟩
 | set S n=>obtain⟨ob,es,ep,t,e,c⟩:=x;exact⟨ob,es,ep,t,k _ _ (.inl rfl) e,c⟩
 | ins C dx fs =>
  obtain⟨d,z,ne,e,mA,⟨od,es,ep,e2,c⟩,r⟩:=x;exact⟨ho _ d,z,ne,k _ _ (.inl rfl) e,mA,⟨od,es,ep,k _ _ (.inr d) e2,c⟩,r⟩
 | own y=>obtain⟨ob,e⟩:=x;exact⟨ob,k _ _ (.inl rfl) e⟩
 | xd fs=>obtain⟨mA,⟨od,es,ep,e,c⟩,r⟩:=x;exact⟨mA,⟨od,es,ep,k _ _ (.inl rfl) e,c⟩,r⟩
 | rng lo hi=>obtain⟨t,u,v,e⟩:=x;exact⟨t,u,v,k _ _ (.inl rfl) e⟩
 | frz ob u ih=>obtain⟨e,q⟩:=x;exact⟨k _ _ (.inl rfl) e,ih q⟩
 | tbl ps =>
  have e:h.get? a=some { cls:=.none,data:=.fields ps }:=x;show h'.get? a=some { cls:=.none,data:=.fields ps };exact k a _ (.inl rfl) e
 | met f y =>
  have e:h.get? a=some (PySem.W.methodObj (.ref f) (.ref y)):=x;show h'.get? a=some (PySem.W.methodObj (.ref f) (.ref y));exact k a _ (.inl rfl) e
 | ext φ=>obtain⟨p,⟨o,e⟩,st⟩:=x;exact⟨st _ _ p fun o q=>k _ _ (.inl rfl) q,⟨o,k _ _ (.inl rfl) e⟩,st⟩
theorem HOk.lt(x:HOk P w H h)(e:H a=some o):a < h.objs.size:=(x a o e).lt
theorem HOk.fresh(x:HOk P w H h)(e:h.objs.size<=a):H a=none:=by
 cases q:H a with
 | none=>rfl
 | some u=>exact absurd (Nat.lt_of_lt_of_le (x.lt q) e) (Nat.lt_irrefl _)
theorem HOk.kept(x:HOk P w H h)(k:∀b u,h.get? b=some u->h'.get? b=some u):HOk P w H h':=fun a o e =>
 (x a o e).stay (fun b u _ q=>k b u q) (fun _ q=>q) fun _ _ q=>q
theorem HOk.laid(x:HOk P w H h)(k:∀b u,h.get? b=some u->h'.get? b=some u)(hp:h.objs.size<=a)(new:ux P w (upd H a o) h' a o):HOk P w (upd H a o) h':=fun b u e=>by
 have hn:=x.fresh hp
 by_cases hb:b=a
 ·subst hb;rw[fj] at e;cases e;exact new
 ·rw[bj hb] at e;exact(x b u e).stay (fun c v _ q=>k c v q) (fun c q=>by rw[bj (fu q hn)];exact q) fun c xs q=>by rw[bj (fu q hn)];exact q
end
def Rd(H:Hp)(a:Addr)(u:HO):Prop:=H a=some u∨∃o,H a=some (.frz o u)
theorem Rd.ok{P:Program}{w:World}{H:Hp}{h:Heap}{a:Addr}{u:HO}(r:Rd H a u)(x:HOk P w H h):ux P w H h a u:=by
 rcases r with r | ⟨o,r⟩
 ·exact x a u r
 ·obtain⟨_,q⟩:=x a _ r;exact q
def Mut:Option HO->Prop
 | some (.lst _)=>True
 | some (.dK _)=>True
 | some (.dT _)=>True
 | some (.set _ _)=>True
 | some (.ins _ _ _)=>True
 | some (.ext _)=>True
 | _=>False
section
variable{P:Program}{w:World}{H:Hp}{h h':Heap}{x e:Addr}{o':HO}
theorem HOk.write(ok:HOk P w H h)(mu:Mut (H x))(he:e=x∨H e=some (.own x))(k:∀b u,b≠e->h.get? b=some u->h'.get? b=some u)(heo:∃u,h'.get? e=some u)
  (new:ux P w (upd H x o') h' x o'):HOk P w (upd H x o') h':=fun b u q=>by
 have nown:∀c y,H c=some (.own y)->c≠x:=fun c y r z=>by subst z;rw[r] at mu;exact mu
 have ntup:∀c xs,H c=some (.tup xs)->c≠x:=fun c xs r z=>by subst z;rw[r] at mu;exact mu
 by_cases hb:b=x
 ·subst hb;rw[fj] at q;cases q;exact new
 ·rw[bj hb] at q
  by_cases hbe:b=e
  ·have q':H b=some (.own x):=by
    rcases he with z | z
    ·exact absurd (hbe.trans z) hb
    ·rw[hbe];exact z
   rw[q] at q';cases q';obtain⟨v,hv⟩:=heo;exact⟨v,by rw[hbe];exact hv⟩
  ·refine(ok b u q).stay (fun c v hc r=>k c v ?_ r) (fun c r=>by rw[bj (nown c b r)];exact r) fun c xs r=>by rw[bj (ntup c xs r)];exact r
   rcases hc with rfl | hc
   ·exact hbe
   ·rintro rfl
    rcases he with z | z
    ·exact nown c b hc z
    ·rw[hc] at z;cases z;exact hb rfl
end
structure Un (fs ex:List Addr) (H H':Hp) (h h':Heap):Prop where
 keep:∀b o,h.get? b=some o->H b=none->b∉fs->b∉ex->h'.get? b=some o
 slot:∀b o,h.get? b=some o->H b=none->b∈fs->b∉ex->∃sl,h'.get? b=some { o with slots:=sl }
 free:∀b o,h.get? b=some o->H b=none->b∉ex->H' b=none
 there:∀b o,h.get? b=some o->b∉ex->∃o',h'.get? b=some o'
 tups:∀b xs,H b=some (.tup xs)->H' b=some (.tup xs)
 frzs:∀b o u,H b=some (.frz o u)->H' b=some (.frz o u)
 tbls:∀b ps,H b=some (.tbl ps)->∃more,H' b=some (.tbl (ps++more))
section
variable{fs fs' ex ex':List Addr}{H H1 H2:Hp}{h h1 h2 h':Heap}{a x e:Addr}{o:HO}
theorem Un.any(u:Un fs ex H H1 h h1){b:Addr}{ob:Obj}(q:h.get? b=some ob)(n:H b=none)(hx:b∉ex):∃sl,h1.get? b=some { ob with slots:=sl }:=by
 by_cases hb:b∈fs
 ·exact u.slot b ob q n hb hx
 ·exact⟨ob.slots,u.keep b ob q n hb hx⟩
theorem Un.kept(k:∀b u,h.get? b=some u->h'.get? b=some u):Un fs ex H H h h' :=
 ⟨fun b ob q _ _ _=>k b ob q,fun b ob q _ _ _=>⟨ob.slots,k b ob q⟩,fun _ _ _ n _=>n,fun b ob q _=>⟨ob,k b ob q⟩,fun _ _ q=>q,fun _ _ _ q=>q,fun _ ps q=>⟨#[],by rw[q];simp⟩⟩
theorem Un.refl:Un fs ex H H h h:=Un.kept fun _ _ q=>q
theorem Un.laid(k:∀b u,h.get? b=some u->h'.get? b=some u)(hp:h.objs.size<=a)(hn:H a=none):Un fs ex H (upd H a o) h h' where
 keep:=fun b u q _ _ _=>k b u q
 slot:=fun b u q _ _ _=>⟨u.slots,k b u q⟩
 free:=fun b u q n _=>by rw[bj (Nat.ne_of_lt (Nat.lt_of_lt_of_le (Heap.lt_size q) hp))];exact n
 there:=fun b u q _=>⟨u,k b u q⟩
 tups:=fun b xs q=>by rw[bj (fu q hn)];exact q
 frzs:=fun b u xs q=>by rw[bj (fu q hn)];exact q
 tbls:=fun b ps q=>⟨#[],by rw[bj (fu q hn),q];simp⟩
theorem Un.write(mu:Mut (H x))(he:e=x∨H e=some (.own x))(k:∀b u,b≠e->h.get? b=some u->h'.get? b=some u)(heo:∃u,h'.get? e=some u):Un fs ex H (upd H x o) h h':=by
 have hx:∀b,H b=none->b≠x:=fun b n z=>by subst z;rw[n] at mu;exact mu
 have hb:∀b,H b=none->b≠e:=fun b n z=>by
  subst z;rcases he with r | r
  ·exact hx b n r
  ·rw[n] at r;cases r
 have hm:∀b u,H b=some u->¬Mut (some u)->b≠x:=fun b u q nm z=>by subst z;rw[q] at mu;exact nm mu
 refine⟨fun b u q n _ _=>k b u (hb b n) q,fun b u q n _ _=>⟨u.slots,k b u (hb b n) q⟩,fun b u q n _=>by rw[bj (hx b n)];exact n,fun b u q _ =>?_,
  fun b xs q=>by rw[bj (hm b _ q fun z=>z)];exact q,fun b u xs q=>by rw[bj (hm b _ q fun z=>z)];exact q,fun b ps q=>⟨#[],by rw[bj (hm b _ q fun z=>z),q];simp⟩⟩
 by_cases hbe:b=e
 ·subst hbe;exact heo
 ·exact⟨u,k b u hbe q⟩
end
def trk(h:Heap)(H:Hp):List Addr:=(List.range h.objs.size).filter fun a=>(H a).isSome
def hidT(h:Heap)(H:Hp):Heap:=PySem.W.hideAll h (trk h H)
theorem apy(h:Heap)(H:Hp):(hidT h H).objs.size=h.objs.size:=PySem.W.hideAll_size _ _
theorem asx{h:Heap}{H:Hp}{b:Addr}{o:Obj}(e:h.get? b=some o)(n:H b=none):(hidT h H).get? b=some o :=
 PySem.W.hideAll_get _ e fun hm=>by
  have q:(H b).isSome=true:=(List.mem_filter.mp hm).2;rw[n] at q;simp at q
theorem avd{h:Heap}{H:Hp}{b:Addr}{o:Obj}(e:(hidT h H).get? b=some o):h.get? b=some o/\H b=none:=by
 have e':h.get? b=some o:=PySem.W.of_hideAll (trk h H) e;refine⟨e',?_⟩;cases q:H b with
 | none=>rfl
 | some x =>
  have hm:b∈trk h H:=List.mem_filter.mpr ⟨List.mem_range.mpr (Heap.lt_size e'),by simp[q]⟩
  have z:(hidT h H).get? b=none:=PySem.W.hideAll_none (trk h H) hm;rw[z] at e;cases e
def awj(g h:Heap)(L:Addr):List (Addr×Obj):=(List.range h.objs.size).filterMap fun a=>if a=L∨(g.get? a).isSome=true then none else (h.get? a).map fun o=>(a,o)
def rest(g h:Heap)(L d:Addr):List (Addr×Obj):=(awj g h L).filter fun p=>decide (p.1≠d)
structure Mod (K:Fg9) (mg:Str->Option Value) (base:Heap):Prop where
 kin:K.In base
 glob:base.Ns mainGlobals mg
 blt:∃mb,base.Ns builtinsNs mb/\∀x:Str,x ≠ "__name__" -> mb x=bootBuiltins x
 nolimit:base.NoLimit
structure Cx where
 prog:Program
 w:World
 K:Fg9
 mg:Str->Option Value
 base:Heap
 A:Around
 N:List Str
 s₀:Shared
 H₀:Hp
 env:Env
 outer:List Env
 stack:List Env
 ex:List Addr
 fn:Str->Bool
 calm:Bool
 pn:List (Addr×Obj)
 xe:Value->Shared->Prop
def frs(l:List Env):List Addr:=l.filterMap (·.frame)
abbrev Cx.fs(X:Cx):List Addr:=frs X.outer
def Vis(sc:Scope)(x:Str):Prop:=sc.names.lookup x=some .local∨sc.names.lookup x=some .cell∨sc.names.lookup x=some .free
def Loc(sc:Scope)(x:Str):Prop:=sc.names.lookup x=some .local∨sc.names.lookup x=some .cell
def Look(env:Env)(h:Heap)(m:Str->Option Value)(x:Str)(u:Value):Prop :=
 (env.kindOf x=some .local/\m x=some u)∨((env.kindOf x=some .cell∨env.kindOf x=some .free)/\∃c,env.cells.lookup x=some c/\h.IsCell c (some u))
structure Cx.Ok (X:Cx):Prop where
 mod:Mod X.K X.mg X.base
 kind:X.env.scope.kind=.function
 glob:X.env.globals=mainGlobals
 blt:X.env.builtins=builtinsNs
 above:X.s₀.heap.objs.size<=X.env.locals
 inj:∀x y c,X.env.cells.lookup x=some c->X.env.cells.lookup y=some c->x=y
 has:∀x,(X.env.kindOf x=some .cell∨X.env.kindOf x=some .free)->∃c,X.env.cells.lookup x=some c
 cab:∀x c,X.fn x=true->X.env.cells.lookup x=some c->X.s₀.heap.objs.size<=c
 hd:X.calm=true->X.A.handled=none
 frames:X.A.frames=some X.stack
 stk:X.stack=X.outer∨(X.stack=X.env::X.outer/\X.env.frame=some X.env.locals)
 exf:∀b∈X.ex,b≠X.env.locals/\∀x c,X.env.cells.lookup x=some c->c≠b
 bs:∀b o,X.base.get? b=some o->X.s₀.heap.get? b=some o/\X.H₀ b=none
 bsz:X.base.objs.size<=X.s₀.heap.objs.size
 noex:∀b o,X.base.get? b=some o->b∉X.ex
 exfs:∀b∈X.ex,b∉X.fs
 funs:X.s₀.heap.FunFrames X.base X.outer
 frf:∀b∈X.fs,X.H₀ b=none
structure Inv (X:Cx) (jv:List (Addr×Obj)) (σ:List (Option V)) (H:Hp) (s:Shared):Prop where
 ok:X.Ok
 os:s.os=X.s₀.os
 bare:AllBare s.gens
 base:Un X.fs X.ex X.H₀ H X.s₀.heap s.heap
 loc:∃m,s.heap.Ns X.env.locals m/\∀(i:Nat) (x:Str) (v:V),X.N[i]? = some x->σ[i]? = some (some v)->Vis X.env.scope x->∃u,RelV v u/\Look X.env s.heap m x u
 cell:∀x c,X.env.cells.lookup x=some c->∃v,s.heap.IsCell c v
 free:H X.env.locals=none
 freeC:∀x c,X.env.cells.lookup x=some c->H c=none
 pin:∀p∈X.pn++jv,s.heap.get? p.1=some p.2/\H p.1=none/\p.1≠X.env.locals/\p.1∉X.fs/\∀v,p.2.data≠.cell v
 hok:HOk X.prog X.w H s.heap
 len:σ.length=X.N.length
section
variable{X:Cx}{jv:List (Addr×Obj)}{σ:List (Option V)}{H H':Hp}{s:Shared}{h':Heap}
theorem Cx.Ok.nofr(ok:X.Ok){b:Addr}{o:Obj}(e:X.base.get? b=some o):b∉X.fs:=fun hb=>by
 have:=(ok.funs.mem hb).1;rw[e] at this;cases this
theorem Inv.bs(I:Inv X jv σ H s):∀b o,X.base.get? b=some o->s.heap.get? b=some o/\H b=none:=fun b o e =>
 ⟨I.base.keep b o (I.ok.bs b o e).1 (I.ok.bs b o e).2 (I.ok.nofr e) (I.ok.noex b o e),I.base.free b o (I.ok.bs b o e).1 (I.ok.bs b o e).2 (I.ok.noex b o e)⟩
theorem Inv.bk(I:Inv X jv σ H s):∀b o,X.base.get? b=some o->s.heap.get? b=some o:=fun b o e=>(I.bs b o e).1
theorem Inv.mod(I:Inv X jv σ H s):Mod X.K X.mg X.base:=I.ok.mod
theorem Inv.kIn(I:Inv X jv σ H s):X.K.In s.heap:=I.ok.mod.kin.keeps I.bk
theorem Inv.lt(I:Inv X jv σ H s):X.env.locals < s.heap.objs.size:=let ⟨_,hn,_⟩:=I.loc;hn.lt
theorem Inv.sz(I:Inv X jv σ H s):X.s₀.heap.objs.size<=s.heap.objs.size:=Nat.le_trans I.ok.above (Nat.le_of_lt I.lt)
theorem Inv.nofs(I:Inv X jv σ H s){a:Addr}(h:s.heap.objs.size<=a):a∉X.fs:=fun hb=>by
 obtain⟨_,o,ho,_⟩:=I.ok.funs.mem hb;exact absurd (Nat.lt_of_lt_of_le (Heap.lt_size ho) (Nat.le_trans I.sz h)) (Nat.lt_irrefl _)
theorem Inv.cne(I:Inv X jv σ H s):∀x c,X.env.cells.lookup x=some c->c≠X.env.locals:=fun x c e z=>by
 obtain⟨v,o,ho,hd⟩:=I.cell x c e;obtain⟨m,⟨o',es,ep,ho',hd',_⟩,_⟩:=I.loc;rw[z,ho'] at ho;cases ho;rw[hd'] at hd;cases hd
theorem Inv.funs(I:Inv X jv σ H s):s.heap.FunFrames X.base X.outer:=by
 have all:∀(l:List Env),(∀b∈frs l,b∈X.fs)->X.s₀.heap.FunFrames X.base l->s.heap.FunFrames X.base l:=by
  intro l
  induction l with
  | nil=>intro _ _;trivial
  | cons env r ih =>
   intro hs hl;obtain⟨hk,⟨L,o,hf,hn,ho,hd⟩,hr⟩:=hl;have hL:L∈X.fs:=hs L (by unfold frs;rw[List.filterMap_cons,hf];exact List.mem_cons_self)
   obtain⟨sl,e⟩:=I.base.slot L o ho (I.ok.frf L hL) hL fun z=>I.ok.exfs L z hL
   exact⟨hk,⟨L,_,hf,hn,e,hd⟩,ih (fun b hb=>hs b (by unfold frs;rw[List.filterMap_cons,hf];exact List.mem_cons_of_mem _ hb)) hr⟩
 exact all X.outer (fun _ hb=>hb) I.ok.funs
theorem Inv.stack(I:Inv X jv σ H s):s.heap.FunFrames X.base X.stack:=by
 rcases I.ok.stk with e | ⟨e,hf⟩
 ·rw[e];exact I.funs
 ·rw[e];obtain⟨m,hn,_⟩:=I.loc;refine .cons (by rw[I.ok.kind];decide) hf hn ?_ I.funs
  exact Heap.get?_none_of_le (Nat.le_trans I.ok.bsz I.ok.above)
theorem Inv.stkSub(I:Inv X jv σ H s):∀b∈frs X.stack,b∈X.env.locals::X.fs:=fun b hb=>by
 rcases I.ok.stk with e | ⟨e,hf⟩
 ·rw[e] at hb;exact List.mem_cons_of_mem _ hb
 ·rw[e] at hb;unfold frs at hb;rw[List.filterMap_cons,hf] at hb;exact hb
theorem Inv.stkFree(I:Inv X jv σ H s):∀b∈frs X.stack,H b=none:=fun b hb=>by
 rcases List.mem_cons.mp (I.stkSub b hb) with e | hb
 ·rw[e];exact I.free
 ·obtain⟨_,o,ho,_⟩:=I.ok.funs.mem hb;exact I.base.free b o ho (I.ok.frf b hb) fun z=>I.ok.exfs b z hb
theorem Inv.step{g':Array GenState}{t':Nat}{d':Drawn}{ch:List Addr}(I:Inv X jv σ H s)
  (hch:∀b∈ch,(b∈X.ex∨X.s₀.heap.objs.size<=b)/\b≠X.env.locals/\(∀x c,X.env.cells.lookup x=some c->c≠b)/\∀p∈X.pn++jv,p.1≠b)
  (keep:∀b o,b≠X.env.locals->b∉X.fs->b∉ch->s.heap.get? b=some o->H b=none->h'.get? b=some o)
  (slot:∀b o,b≠X.env.locals->b∈X.fs->b∉ch->s.heap.get? b=some o->H b=none->∃sl,h'.get? b=some { o with slots:=sl }) (free:∀b o,b∉ch->s.heap.get? b=some o->H b=none->H' b=none)
  (there:∀b o,b∉ch->s.heap.get? b=some o->∃o',h'.get? b=some o')
  (tups:∀b xs,H b=some (.tup xs)->H' b=some (.tup xs)) (frzs:∀b o u,H b=some (.frz o u)->H' b=some (.frz o u)) (tbls:∀b ps,H b=some (.tbl ps)->∃more,H' b=some (.tbl (ps++more)))
  (ns:∀m,s.heap.Ns X.env.locals m->h'.Ns X.env.locals m) (hok:HOk X.prog X.w H' h') (hg:AllBare g') :
  Inv X jv σ H' { s with heap:=h',gens:=g',drawn:=d',toks:=t' }:=by
 have neL:∀b o,X.s₀.heap.get? b=some o->b≠X.env.locals:=fun b o e=>Nat.ne_of_lt (Nat.lt_of_lt_of_le (Heap.lt_size e) I.ok.above)
 have neC:∀b o,X.s₀.heap.get? b=some o->b∉X.ex->b∉ch:=fun b o e hx hb=>by
  rcases(hch b hb).1 with z | z
  ·exact hx z
  ·exact absurd (Nat.lt_of_lt_of_le (Heap.lt_size e) z) (Nat.lt_irrefl _)
 have cellK:∀x c,X.env.cells.lookup x=some c->∀v,s.heap.IsCell c v->h'.IsCell c v:=fun x c e v hq0=>by
  obtain⟨o,ho,hd⟩:=hq0;have nch:c∉ch:=fun z=>(hch c z).2.2.1 x c e rfl
  by_cases hc:c∈X.fs
  ·obtain⟨sl,q⟩:=slot c o (I.cne x c e) hc nch ho (I.freeC x c e);exact⟨_,q,hd⟩
  ·exact⟨o,keep c o (I.cne x c e) hc nch ho (I.freeC x c e),hd⟩
 refine⟨I.ok,I.os,hg,⟨fun b o e n hb hx =>?_,fun b o e n hb hx =>?_,fun b o e n hx =>?_,fun b o e hx =>?_,fun b xs e=>tups b xs (I.base.tups b xs e),fun b o xs e=>frzs b o xs (I.base.frzs b o xs e),fun b ps e =>?_⟩,?_,fun x c e =>?_,?_,fun x c e =>?_,fun p hp =>?_,hok,I.len⟩
 ·exact keep b o (neL b o e) hb (neC b o e hx) (I.base.keep b o e n hb hx) (I.base.free b o e n hx)
 ·obtain⟨sl,e1⟩:=I.base.slot b o e n hb hx;obtain⟨sl',e2⟩:=slot b _ (neL b o e) hb (neC b o e hx) e1 (I.base.free b o e n hx);exact⟨sl',e2⟩
 ·obtain⟨o',e1⟩:=I.base.there b o e hx;exact free b o' (neC b o e hx) e1 (I.base.free b o e n hx)
 ·obtain⟨o',e1⟩:=I.base.there b o e hx;exact there b o' (neC b o e hx) e1
 ·obtain⟨m1,e1⟩:=I.base.tbls b ps e;obtain⟨m2,e2⟩:=tbls b _ e1;exact⟨m1++m2,by rw[e2,Array.append_assoc]⟩
 ·obtain⟨m,hn,hl⟩:=I.loc;refine⟨m,ns m hn,fun i x v e1 e2 e3 =>?_⟩
  obtain⟨u,r,l⟩:=hl i x v e1 e2 e3;refine⟨u,r,?_⟩;rcases l with l | ⟨k,c,e,z⟩
  ·exact .inl l
  ·exact .inr ⟨k,c,e,cellK x c e _ z⟩
 ·obtain⟨v,z⟩:=I.cell x c e;exact⟨v,cellK x c e v z⟩
 ·obtain⟨m,⟨o,_,_,ho,_⟩,_⟩:=I.loc;exact free _ o (fun z=>(hch _ z).2.1 rfl) ho I.free
 ·obtain⟨v,o,ho,hd⟩:=I.cell x c e;exact free c o (fun z=>(hch c z).2.2.1 x c e rfl) ho (I.freeC x c e)
 ·obtain⟨e,n,ne,nf,d⟩:=I.pin p hp;have nch:p.1∉ch:=fun z=>(hch p.1 z).2.2.2 p hp rfl
  exact⟨keep p.1 p.2 ne nf nch e n,free p.1 p.2 nch e n,ne,nf,d⟩
theorem Inv.un{t':Nat}(I:Inv X jv σ H s)(u:Un X.fs [] H H' s.heap h')(hok:HOk X.prog X.w H' h'):Inv X jv σ H' { s with heap:=h',toks:=t' }:=by
 obtain⟨m,⟨o,es,ep,ho,r⟩,_⟩:=id I.loc;obtain⟨sl,hL⟩:=u.any ho I.free (by simp)
 exact I.step (g':=s.gens) (d':=s.drawn) (ch:=[]) (fun _ z=>nomatch z) (fun b o _ hb _ e n=>u.keep b o e n hb (by simp)) (fun b o _ hb _ e n=>u.slot b o e n hb (by simp)) (fun b o _ e n=>u.free b o e n (by simp)) (fun b o _ e=>u.there b o e (by simp)) u.tups u.frzs u.tbls (fun m' hm=>by
  obtain⟨o',es',ep',ho',r'⟩:=hm;rw[ho] at ho';cases ho';exact⟨_,es',ep',hL,r'⟩) hok I.bare
theorem Inv.call{g':Array GenState}{t':Nat}{d':Drawn}{ch:List Addr}(I:Inv X jv σ H s)(u:Un (frs X.stack) ch H H' s.heap h')(hok:HOk X.prog X.w H' h')(hg:AllBare g')
  (hch:∀b∈ch,(b∈X.ex∨X.s₀.heap.objs.size<=b)/\b≠X.env.locals/\(∀x c,X.env.cells.lookup x=some c->c≠b)/\∀p∈X.pn++jv,p.1≠b) :
  Inv X jv σ H' { s with heap:=h',gens:=g',drawn:=d',toks:=t' }:=by
 obtain⟨m,⟨o,es,ep,ho,r⟩,_⟩:=id I.loc;obtain⟨sl,hL⟩:=u.any ho I.free fun z=>(hch _ z).2.1 rfl
 exact I.step (ch:=ch) hch (fun b o hL hb hc e n=>u.keep b o e n (fun z=>(List.mem_cons.mp (I.stkSub b z)).elim hL hb) hc) (fun b o _ _ hc e n=>u.any e n hc) (fun b o hc e n=>u.free b o e n hc) (fun b o hc e=>u.there b o e hc) u.tups u.frzs u.tbls (fun m' hm=>by
  obtain⟨o',es',ep',ho',r'⟩:=hm;rw[ho] at ho';cases ho';exact⟨_,es',ep',hL,r'⟩) hok hg
theorem Inv.turned{t':Nat}{it:Addr}(I:Inv X jv σ H s)(k:∀b o,b≠it->s.heap.get? b=some o->h'.get? b=some o)(hn:H it=none)(hL:it≠X.env.locals)
  (h1:it∈X.ex∨X.s₀.heap.objs.size<=it) (h2:∀x c,X.env.cells.lookup x=some c->c≠it) (h3:∀p∈X.pn++jv,p.1≠it):Inv X jv σ H { s with heap:=h',toks:=t' }:=by
 have nit:∀b u,H b=some u->b≠it:=fun b u e z=>by rw[z,hn] at e;cases e
 refine I.step (g':=s.gens) (d':=s.drawn) (ch:=[it]) (fun b hb =>?_) (fun b o _ _ hc e _=>k b o (fun z=>hc (by simp[z])) e) (fun b o _ _ hc e _=>⟨o.slots,k b o (fun z=>hc (by simp[z])) e⟩) (fun _ _ _ _ n=>n)
  (fun b o hc e=>⟨o,k b o (fun z=>hc (by simp[z])) e⟩) (fun _ _ e=>e) (fun _ _ _ e=>e) (fun b ps e=>⟨#[],by rw[e];simp⟩) (fun m hm =>?_) (fun b u e =>?_) I.bare
 ·have e:b=it:=by simpa using hb
  subst e;exact⟨h1,hL,h2,h3⟩
 ·obtain⟨o,es,ep,ho,r⟩:=hm;exact⟨o,es,ep,k _ o (Ne.symm hL) ho,r⟩
 ·refine(I.hok b u e).stay (fun c v hc q=>k c v ?_ q) (fun _ q=>q) fun _ _ q=>q
  rcases hc with z | z
  ·rw[z];exact nit b u e
  ·exact nit c _ z
theorem Inv.tok(I:Inv X jv σ H s)(t:Nat):Inv X jv σ H { s with toks:=t }:=I.un (h':=s.heap) (t':=t) Un.refl I.hok
theorem Inv.kept{t':Nat}(I:Inv X jv σ H s)(k:∀b u,s.heap.get? b=some u->h'.get? b=some u):Inv X jv σ H { s with heap:=h',toks:=t' }:=I.un (Un.kept k) (I.hok.kept k)
theorem Inv.laid{a:Addr}{o:HO}{t':Nat}(I:Inv X jv σ H s)(k:∀b u,s.heap.get? b=some u->h'.get? b=some u)(hp:s.heap.objs.size<=a)(new:ux X.prog X.w (upd H a o) h' a o) :
  Inv X jv σ (upd H a o) { s with heap:=h',toks:=t' }:=I.un (Un.laid k hp (I.hok.fresh hp)) (I.hok.laid k hp new)
theorem Inv.write{x e:Addr}{o:HO}{t':Nat}(I:Inv X jv σ H s)(mu:Mut (H x))(he:e=x∨H e=some (.own x))(k:∀b u,b≠e->s.heap.get? b=some u->h'.get? b=some u)(heo:∃u,h'.get? e=some u)
  (new:ux X.prog X.w (upd H x o) h' x o):Inv X jv σ (upd H x o) { s with heap:=h',toks:=t' }:=I.un (Un.write mu he k heo) (I.hok.write mu he k heo new)
theorem Inv.pins_of{pins':List (Addr×Obj)}(I:Inv X jv σ H s)(h:∀p∈pins',s.heap.get? p.1=some p.2/\H p.1=none/\p.1≠X.env.locals/\p.1∉X.fs/\∀v,p.2.data≠.cell v):Inv X pins' σ H s :=
 ⟨I.ok,I.os,I.bare,I.base,I.loc,I.cell,I.free,I.freeC,fun p hp=>(List.mem_append.mp hp).elim (fun z=>I.pin p (List.mem_append_left _ z)) (h p),I.hok,I.len⟩
theorem al6{N:List Str}(hN:N.Nodup){i j:Nat}{x:Str}(a:N[i]? = some x)(b:N[j]? = some x):i=j:=by
 obtain⟨h1,e1⟩:=List.getElem?_eq_some_iff.mp a;obtain⟨h2,e2⟩:=List.getElem?_eq_some_iff.mp b;exact(List.getElem_inj hN).mp (e1.trans e2.symm)
theorem ah5{M:Model}{A:Around}{E:Value->Shared->Prop}{i:Nat}{x:Str}{v:V}{u:Value}{Q:Unit->Shared->Prop}(I:Inv X jv σ H s)(hN:X.N.Nodup)(hi:X.N[i]? = some x)(hx:Loc X.env.scope x)(r:RelV v u)
  (h:∀s',Inv X jv (σ.set i (some v)) H s'->(∃a,Heap.SameBut a s.heap s'.heap/\(a=X.env.locals∨X.env.cells.lookup x=some a))->Q () s') (hf:X.fn x=true∨X.env.scope.names.lookup x=some .local:=by first | exact .inl rfl | exact .inr rfl | assumption):wpAny M A (storeName X.env x u) Q E s:=by
 obtain⟨m,hn,hl⟩:=id I.loc;have hcls:(X.env.scope.kind==.class||(X.env.scope.kind==.module&&X.env.locals != X.env.globals))=false:=by rw[I.ok.kind];rfl
 have hiσ:i < σ.length:=by rw[I.len];exact(List.getElem?_eq_some_iff.mp hi).1
 have cne:=I.cne;have tracked:∀{a:Addr} {h':Heap},(∃o,s.heap.get? a=some o/\H a=none)->Heap.SameBut a s.heap h'->HOk X.prog X.w H h':=fun{a h'} ha hs b ob e=>by
  obtain⟨_,_,hfree⟩:=ha;refine(I.hok b ob e).stay (fun c w' hc q=>(hs.2 c ?_).trans q) (fun _ q=>q) fun _ _ q=>q
  rintro rfl
  rcases hc with rfl | hc
  ·rw[hfree] at e;cases e
  ·rw[hfree] at hc;cases hc
 rcases hx with hk | hk
 ·refine wpAny_storeName_local hk hn (fun h' hn' hs =>?_) hcls
  obtain⟨oL,_,_,hoL,_⟩:=id hn;refine h _ ⟨I.ok,I.os,I.bare,⟨fun b o e n hb hx =>?_,fun b o e n hb hx =>?_,I.base.free,fun b o e hx =>?_,I.base.tups,I.base.frzs,I.base.tbls⟩,⟨_,hn',fun j y v' e1 e2 e3 =>?_⟩,fun y c e =>?_,I.free,I.freeC,fun p hp =>?_,tracked ⟨oL,hoL,I.free⟩ hs,by simpa using I.len⟩ ⟨_,hs,.inl rfl⟩
  ·exact(hs.2 b (Nat.ne_of_lt (Nat.lt_of_lt_of_le (Heap.lt_size e) I.ok.above))).trans (I.base.keep b o e n hb hx)
  ·obtain⟨sl,e1⟩:=I.base.slot b o e n hb hx;exact⟨sl,(hs.2 b (Nat.ne_of_lt (Nat.lt_of_lt_of_le (Heap.lt_size e) I.ok.above))).trans e1⟩
  ·obtain⟨o',e1⟩:=I.base.there b o e hx;exact⟨o',(hs.2 b (Nat.ne_of_lt (Nat.lt_of_lt_of_le (Heap.lt_size e) I.ok.above))).trans e1⟩
  ·by_cases hj:j=i
   ·subst hj;rw[hi] at e1;cases e1;rw[List.getElem?_set_self hiσ] at e2;cases e2;exact⟨u,r,.inl ⟨hk,by simp⟩⟩
   ·rw[List.getElem?_set_ne (Ne.symm hj)] at e2;obtain⟨u',r',q⟩:=hl j y v' e1 e2 e3;refine⟨u',r',?_⟩;rcases q with⟨k,e⟩ | ⟨k,c,e,z⟩
    ·refine .inl ⟨k,?_⟩;have:y≠x:=fun e=>hj (al6 hN e1 (e▸hi))
     simp[this,e]
    ·exact .inr ⟨k,c,e,z.sameBut hs (cne y c e)⟩
  ·obtain⟨w',z⟩:=I.cell y c e;exact⟨w',z.sameBut hs (cne y c e)⟩
  ·obtain⟨e,n,ne,nf,d⟩:=I.pin p hp;exact⟨(hs.2 p.1 ne).trans e,n,ne,nf,d⟩
 ·have hfn:X.fn x=true:=by
   rcases hf with z | z
   ·exact z
   ·rw[z] at hk;cases hk
  obtain⟨c,hc⟩:=I.ok.has x (.inl hk);obtain⟨w',z⟩:=I.cell x c hc;refine wpAny_storeName_cell I.ok.kind hk hc z (fun h' hc' hs =>?_)
  obtain⟨oc,hoc,hocd⟩:=id z;refine h { s with heap:=h' } ⟨I.ok,I.os,I.bare,⟨fun b o e n hb hx =>?_,fun b o e n hb hx =>?_,I.base.free,fun b o e hx =>?_,I.base.tups,I.base.frzs,I.base.tbls⟩,⟨m,hn.sameBut hs (Ne.symm (cne x c hc)),fun j y v' e1 e2 e3 =>?_⟩,fun y c' e =>?_,I.free,I.freeC,fun p hp =>?_,tracked ⟨oc,hoc,I.freeC x c hc⟩ hs,by simpa using I.len⟩ ⟨c,hs,.inr hc⟩
  ·exact(hs.2 b (Nat.ne_of_lt (Nat.lt_of_lt_of_le (Heap.lt_size e) (I.ok.cab x c hfn hc)))).trans (I.base.keep b o e n hb hx)
  ·obtain⟨sl,e1⟩:=I.base.slot b o e n hb hx;exact⟨sl,(hs.2 b (Nat.ne_of_lt (Nat.lt_of_lt_of_le (Heap.lt_size e) (I.ok.cab x c hfn hc)))).trans e1⟩
  ·obtain⟨o',e1⟩:=I.base.there b o e hx;exact⟨o',(hs.2 b (Nat.ne_of_lt (Nat.lt_of_lt_of_le (Heap.lt_size e) (I.ok.cab x c hfn hc)))).trans e1⟩
  ·by_cases hj:j=i
   ·subst hj;rw[hi] at e1;cases e1;rw[List.getElem?_set_self hiσ] at e2;cases e2;exact⟨u,r,.inr ⟨.inl hk,c,hc,hc'⟩⟩
   ·rw[List.getElem?_set_ne (Ne.symm hj)] at e2;obtain⟨u',r',q⟩:=hl j y v' e1 e2 e3;refine⟨u',r',?_⟩;rcases q with q | ⟨k,c',e,z'⟩
    ·exact .inl q
    ·refine .inr ⟨k,c',e,z'.sameBut hs ?_⟩
     rintro rfl
     exact hj (al6 hN e1 (I.ok.inj _ _ _ e hc▸hi))
  ·by_cases hcc:c'=c
   ·subst hcc;exact⟨_,hc'⟩
   ·obtain⟨w2,z2⟩:=I.cell y c' e;exact⟨w2,z2.sameBut hs hcc⟩
  ·obtain⟨e,n,ne,nf,d⟩:=I.pin p hp;refine⟨(hs.2 p.1 ?_).trans e,n,ne,nf,d⟩;intro q;rw[q,hoc] at e;have q':oc=p.2:=Option.some.inj e;exact d w' (by rw[<-q'];exact hocd)
theorem agv{M:Model}{A:Around}{E:Value->Shared->Prop}{i:Nat}{x:Str}{v:V}{u:Value}{Q:Unit->Shared->Prop}(I:Inv X jv σ H s)(hN:X.N.Nodup)(hi:X.N[i]? = some x)(hx:Loc X.env.scope x)(r:RelV v u)
  (h:∀s',Inv X jv (σ.set i (some v)) H s'->Q () s') (hf:X.fn x=true∨X.env.scope.names.lookup x=some .local:=by first | exact .inl rfl | exact .inr rfl | assumption):wpAny M A (storeName X.env x u) Q E s :=
 ah5 I hN hi hx r (fun s' I' _=>h s' I') hf
theorem Inv.call'{s':Shared}{ch:List Addr}(I:Inv X jv σ H s)(ho:s'.os=s.os)(u:Un (frs X.stack) ch H H' s.heap s'.heap)(hok:HOk X.prog X.w H' s'.heap)(hg:AllBare s'.gens)
  (hch:∀b∈ch,(b∈X.ex∨X.s₀.heap.objs.size<=b)/\b≠X.env.locals/\(∀x c,X.env.cells.lookup x=some c->c≠b)/\∀p∈X.pn++jv,p.1≠b):Inv X jv σ H' s':=by
 obtain⟨h',g',d',t',o'⟩:=s';have e:o'=s.os:=ho;subst e;exact I.call (g':=g') (t':=t') (d':=d') u hok hg hch
end
abbrev XK:=Value->Option Addr->Hp->Prop
abbrev St:=List (Option V)
abbrev VK:=V->Hp->Prop
abbrev TE:=St->Hp->VK->Prop
abbrev TT:=St->Hp->(Bool->Hp->Prop)->Prop
abbrev TA:=St->Hp->(List V->Hp->Prop)->Prop
structure Ends where
 nx:St->Hp->Prop
 rt:VK
 bk:St->Hp->Prop:=fun _ _=>False
 ct:St->Hp->Prop:=fun _ _=>False
abbrev TS:=Ends->St->Hp->Prop
def EP(X:Cx)(jv:List (Addr×Obj))(σ:St)(Q:VK)(u:Value)(s':Shared):Prop:=∃v H',Inv X jv σ H' s'/\RelV v u/\Q v H'
def TP(X:Cx)(jv:List (Addr×Obj))(σ:St)(Q:Bool->Hp->Prop)(b:Bool)(s':Shared):Prop:=∃H',Inv X jv σ H' s'/\Q b H'
def AP(X:Cx)(jv:List (Addr×Obj))(σ:St)(Q:List V->Hp->Prop)(us:List Value)(s':Shared):Prop:=∃vs H',Inv X jv σ H' s'/\Vals vs us/\Q vs H'
def SP(X:Cx)(jv:List (Addr×Obj))(D:Ends)(f:Flow)(s':Shared):Prop :=
 match f with
 | .next=>∃σ' H',Inv X jv σ' H' s'/\D.nx σ' H'
 | .brk=>∃σ' H',Inv X jv σ' H' s'/\D.bk σ' H'
 | .cont=>∃σ' H',Inv X jv σ' H' s'/\D.ct σ' H'
 | .ret u=>∃v σ' H',Inv X jv σ' H' s'/\RelV v u/\D.rt v H'
def PE(X:Cx)(e:Expr)(t:TE):Prop :=
 ∀(jv:List (Addr×Obj)) (s:Shared) (σ:St) (H:Hp) (Q:VK),Inv X jv σ H s->t σ H Q->wpAny (model X.prog X.w) X.A (eval e X.env) (EP X jv σ Q) X.xe s
def PT(X:Cx)(e:Expr)(t:TT):Prop :=
 ∀(jv:List (Addr×Obj)) (s:Shared) (σ:St) (H:Hp) (Q:Bool->Hp->Prop),Inv X jv σ H s->t σ H Q->wpAny (model X.prog X.w) X.A (isTrue e X.env (eval e X.env)) (TP X jv σ Q) X.xe s
def PW(X:Cx)(e:Expr)(t:TT):Prop :=
 ∀(whole:Sem Value) (jv:List (Addr×Obj)) (s:Shared) (σ:St) (H:Hp) (Q:Bool->Hp->Prop),Inv X jv σ H s->t σ H Q->wpAny (model X.prog X.w) X.A (isTrue e X.env whole) (TP X jv σ Q) X.xe s
theorem PW.pt{X:Cx}{e:Expr}{t:TT}(h:PW X e t):PT X e t:=h _
def PA(X:Cx)(es:List Expr)(t:TA):Prop :=
 ∀(pos:Pos) (jv:List (Addr×Obj)) (s:Shared) (σ:St) (H:Hp) (Q:List V->Hp->Prop),Inv X jv σ H s->t σ H Q->wpAny (model X.prog X.w) X.A (spliced (backTo pos (starEach es X.env))) (AP X jv σ Q) X.xe s
def PS(X:Cx)(st:Stmt)(t:TS):Prop :=
 ∀(jv:List (Addr×Obj)) (s:Shared) (σ:St) (H:Hp) (D:Ends),Inv X jv σ H s->t D σ H->wpAny (model X.prog X.w) X.A (exec st X.env) (SP X jv D) X.xe s
def PSs(X:Cx)(st:List Stmt)(t:TS):Prop :=
 ∀(jv:List (Addr×Obj)) (s:Shared) (σ:St) (H:Hp) (D:Ends),Inv X jv σ H s->t D σ H->wpAny (model X.prog X.w) X.A (execs st X.env) (SP X jv D) X.xe s
theorem thn{α:Type}{t:Sem α}{Q Q':α->Shared->Prop}{M:Model}{A:Around}{E:Value->Shared->Prop}{s:Shared}(h:wpAny M A t Q E s)(hQ:∀a s,Q a s->Q' a s):wpAny M A t Q' E s:=wpAny_mono h hQ fun _ _ x=>x
section
variable{X:Cx}
def tVar(i:Nat):TE:=fun σ H Q=>∃v,σ[i]? = some (some v)/\Q v H
def tC(v:V):TE:=fun _ H Q=>Q v H
theorem axi{i:Nat}{x:Str}{pos:Pos}(hN:X.N[i]? = some x)(hv:Vis X.env.scope x)(hd:(x==("__debug__" : Str))=false:=by decide)(hcd:(x==("__classdict__" : Str))=false:=by decide):PE X (.Name x pos) (tVar i):=by
 intro jv s σ H Q I h;obtain⟨v,e,h⟩:=h;obtain⟨m,hn,hl⟩:=I.loc;obtain⟨u,r,l⟩:=hl i x v hN e hv;have fin:EP X jv σ Q u s:=⟨v,H,I,r,h⟩;rcases l with⟨hk,hm⟩ | ⟨hk,c,hc,hcell⟩
 ·exact wpAny_Name (wpAny_loadName_local I.ok.kind hk hn hm fin) hd
 ·rcases hk with hk | hk
  ·exact wpAny_Name (wpAny_loadName_cell I.ok.kind hk hc hcell fin) hd
  ·exact wpAny_Name (wpAny_loadName_free I.ok.kind hk hc hcell fin hcd) hd
theorem axq{i j pos}:PE X (.Constant (.int i) j pos) (tC (.int i)):=fun _ _ _ H _ I h=>wpAny_Constant_int ⟨.int i,H,I.tok _,⟨_,rfl⟩,h⟩
theorem a0x{b j pos}:PE X (.Constant (.bool b) j pos) (tC (.bl b)):=fun _ _ _ H _ I h=>Constant_bool ⟨.bl b,H,I,rfl,h⟩
theorem axn{j pos}:PE X (.Constant .none j pos) (tC .non):=fun _ _ _ H _ I h=>Constant_none ⟨.non,H,I,rfl,h⟩
theorem axk{x j pos}:PE X (.Constant (.str x) j pos) (tC (.str x)):=fun _ _ _ H _ I h=>Calls.Constant_str ⟨.str x,H,I.tok _,⟨_,rfl⟩,h⟩
def Gl(X:Cx)(x:Str):Prop:=X.env.kindOf x=some .globalImplicit
theorem avn{E:Value->Shared->Prop}{jv:List (Addr×Obj)}{s:Shared}{σ:St}{H:Hp}{x:Str}{u:Value}{pos:Pos}{Q:Value->Shared->Prop}(I:Inv X jv σ H s)(hg:Gl X x)(hm:X.mg x=some u)(h:Q u s)
  (hd:(x==("__debug__" : Str))=false:=by decide):wpAny (model X.prog X.w) X.A (eval (.Name x pos) X.env) Q E s :=
 Calls.Name_function_global I.ok.kind hg (Calls.loadGlobal_global (by rw[I.ok.glob];exact I.mod.glob.keeps I.bk) hm h) hd
theorem ai7{E:Value->Shared->Prop}{jv:List (Addr×Obj)}{s:Shared}{σ:St}{H:Hp}{x:Str}{u:Value}{pos:Pos}{Q:Value->Shared->Prop}(I:Inv X jv σ H s)(hg:Gl X x)(hm:X.mg x=none)(hv:bootBuiltins x=some u)(h:Q u s)
  (hn:x ≠ "__name__" := by decide) (hd:(x==("__debug__" : Str))=false:=by decide):wpAny (model X.prog X.w) X.A (eval (.Name x pos) X.env) Q E s:=by
 obtain⟨mb,h1,h2⟩:=I.mod.blt;exact Calls.Name_function_global I.ok.kind hg (Calls.loadGlobal_builtin (by rw[I.ok.glob];exact I.mod.glob.keeps I.bk) hm (by rw[I.ok.blt];exact h1.keeps I.bk) ((h2 x hn).trans hv) h) hd
theorem au5{x:Str}{v:V}{u:Value}{pos:Pos}(hg:Gl X x)(hm:X.mg x=none)(hv:bootBuiltins x=some u)(r:RelV v u)(hn:x ≠ "__name__" := by decide)(hd:(x==("__debug__" : Str))=false:=by decide):PE X (.Name x pos) (tC v) :=
 fun _ _ _ H _ I h=>ai7 I hg hm hv ⟨v,H,I,r,h⟩ hn hd
variable{a b:Expr}{ta tb:TE}{pos:Pos}
def PC(X:Cx)(op:CmpOp)(a b:Expr)(t:TE):Prop :=
 ∀(jv:List (Addr×Obj)) (s:Shared) (σ:St) (H:Hp) (Q:VK),Inv X jv σ H s->t σ H Q ->
  wpAny (model X.prog X.w) X.A (eval a X.env) (fun v s₁=>wpAny (model X.prog X.w) X.A (eval b X.env) (fun u s₂=>wpAny (model X.prog X.w) X.A (compareOp op v u) (EP X jv σ Q) X.xe s₂) X.xe s₁) X.xe s
theorem al7(b:Expr){op:CmpOp}(h:op≠.In)(h2:op≠.NotIn):behindInMarks op b=false:=by
 have e1:(op==CmpOp.In)=false:=by cases op <;> first | rfl | exact absurd rfl h
 have e2:(op==CmpOp.NotIn)=false:=by cases op <;> first | rfl | exact absurd rfl h2
 cases b <;> simp[behindInMarks,e1,e2]
def tIsN(ta:TE):TE:=fun σ H Q=>ta σ H fun x H1=>Q (.bl (decide (x=.non))) H1
def awq(ta:TE):TE:=fun σ H Q=>ta σ H fun x H1=>Q (.bl (!decide (x=.non))) H1
theorem RelV.none_iff{x:V}{v:Value}(r:RelV x v):(v==Value.none)=decide (x=.non):=by
 cases x with
 | non=>cases r;rfl
 | bl _=>cases r;rfl
 | int _=>obtain⟨t,rfl⟩:=r;rfl
 | str _=>obtain⟨t,rfl⟩:=r;rfl
 | byt _=>obtain⟨t,rfl⟩:=r;rfl
 | flt _=>obtain⟨t,rfl⟩:=r;rfl
 | ref _=>cases r;rfl
 | ty _=>cases r;rfl
theorem atu{j pos'}(ha:PE X a ta):PC X .Is a (.Constant .none j pos') (tIsN ta):=by
 intro jv s σ H Q I h;refine thn (ha jv s σ H _ I h) fun v s1 ⟨x,H1,I1,r1,q1⟩ =>?_
 exact Constant_none (is_none_gen ⟨.bl _,H1,I1,by rw[r1.none_iff];rfl,q1⟩)
theorem au6{j pos'}(ha:PE X a ta):PC X .IsNot a (.Constant .none j pos') (awq ta):=by
 intro jv s σ H Q I h;refine thn (ha jv s σ H _ I h) fun v s1 ⟨x,H1,I1,r1,q1⟩ =>?_
 exact Constant_none (isnot_none_gen ⟨.bl _,H1,I1,by rw[r1.none_iff];rfl,q1⟩)
def tB(t:TE):TT:=fun σ H Q=>t σ H fun x H1=>∃c,x=.bl c/\Q c H1
theorem axr{op:CmpOp}{t:TE}(h:PC X op a b t)(h1:behindInMarks op b=false:=by first | exact al7 _ (by decide) (by decide) | rfl):PE X (.Compare a [op] [b] pos) t:=fun jv s σ H Q I hw=>wpAny_Compare1 (h jv s σ H Q I hw) h1
theorem atp{op:CmpOp}{t:TE}(h:PC X op a b t)(h1:behindInMarks op b=false:=by first | exact al7 _ (by decide) (by decide) | rfl):PT X (.Compare a [op] [b] pos) (tB t):=by
 intro jv s σ H Q I hw;refine wpAny_isTrue_Compare1 (thn (h jv s σ H _ I hw) fun v s1 h1=>thn h1 fun u s2 h2=>thn h2 fun c s3 ⟨x,H1,I1,r1,q1⟩ =>?_) h1
 obtain⟨d,rfl,q⟩:=q1;cases r1;exact wpAny_truthy_bool ⟨H1,I1,q⟩
theorem axc{e:Expr}{t:TE}(h:PE X e t)(he:∀whole,isTrue e X.env whole=(do let v <-whole;standAt e.pos;holding [v] (truthy v)):=by intro _;rfl):PT X e (tB t):=by
 intro jv s σ H Q I hw;refine isTrue_plain (thn (h jv s σ H _ I hw) fun v s1 ⟨x,H1,I1,r1,q1⟩ =>?_) (he _)
 obtain⟨d,rfl,q⟩:=q1;cases r1;exact wpAny_truthy_bool ⟨H1,I1,q⟩
variable{tA tB':TT}{rest:List Expr}
def tAnd(t u:TT):TT:=fun σ H Q=>t σ H fun c H1=>if c=true then u σ H1 Q else Q false H1
def tOr(t u:TT):TT:=fun σ H Q=>t σ H fun c H1=>if c=true then Q true H1 else u σ H1 Q
def tNot(t:TT):TT:=fun σ H Q=>t σ H fun c H1=>Q (!c) H1
theorem aut(ha:PT X a tA):PW X (.BoolOp .And [a] pos) tA:=by
 intro wh jv s σ H Q I h;refine isTrue_and (thn (ha jv s σ H Q I h) fun c s1 e =>?_)
 cases c with
 | true=>exact isTrue_and_nil e
 | false=>exact e
theorem aw8(ha:PT X a tA):PW X (.BoolOp .Or [a] pos) tA:=by
 intro wh jv s σ H Q I h;refine isTrue_or (thn (ha jv s σ H Q I h) fun c s1 e =>?_)
 cases c with
 | false=>exact isTrue_or_nil e
 | true=>exact e
theorem aw9(ha:PT X a tA)(hb:PW X (.BoolOp .And (b::rest) pos) tB'):PW X (.BoolOp .And (a::b::rest) pos) (tAnd tA tB'):=by
 intro wh jv s σ H Q I h;refine isTrue_and (thn (ha jv s σ H _ I h) fun c s1 ⟨H1,I1,q1⟩ =>?_)
 cases c with
 | true=>exact hb wh jv s1 σ H1 Q I1 q1
 | false=>exact⟨H1,I1,q1⟩
theorem a0q(ha:PT X a tA)(hb:PW X (.BoolOp .Or (b::rest) pos) tB'):PW X (.BoolOp .Or (a::b::rest) pos) (tOr tA tB'):=by
 intro wh jv s σ H Q I h;refine isTrue_or (thn (ha jv s σ H _ I h) fun c s1 ⟨H1,I1,q1⟩ =>?_)
 cases c with
 | true=>exact⟨H1,I1,q1⟩
 | false=>exact hb wh jv s1 σ H1 Q I1 q1
theorem axd(ha:PT X a tA):PT X (.UnaryOp .Not a pos) (tNot tA):=by
 intro jv s σ H Q I h;exact isTrue_not (ha jv s σ H (fun c H1=>Q (!c) H1) I h)
def a0l(ta tb:TE):TE:=fun σ H Q=>ta σ H fun x H1=>∃c,x=.bl c/\if c=true then tb σ H1 Q else Q (.bl false) H1
def a0h(ta:TE):TE:=fun σ H Q=>ta σ H fun x H1=>∃c,x=.bl c/\Q (.bl (!c)) H1
theorem axl{op}{t:TE}(h:PE X a t):PE X (.BoolOp op [a] pos) t:=fun jv s σ H Q I hw=>BoolOp_one (h jv s σ H Q I hw)
theorem axt(ha:PE X a ta)(hb:PE X (.BoolOp .And (b::rest) pos) tb):PE X (.BoolOp .And (a::b::rest) pos) (a0l ta tb):=by
 intro jv s σ H Q I h;refine BoolOp_and (thn (ha jv s σ H _ I h) fun v s1 ⟨x,H1,I1,r1,q1⟩ =>?_)
 obtain⟨c,rfl,q1⟩:=q1;cases r1;refine wpAny_truthy_bool ?_;cases c with
 | true=>exact hb jv s1 σ H1 Q I1 q1
 | false=>exact⟨.bl false,H1,I1,rfl,q1⟩
theorem axm(ha:PE X a ta):PE X (.UnaryOp .Not a pos) (a0h ta):=by
 intro jv s σ H Q I h;refine UnaryOp_ (thn (ha jv s σ H _ I h) fun v s1 ⟨x,H1,I1,r1,q1⟩ =>?_)
 obtain⟨c,rfl,q1⟩:=q1;cases r1;exact not_of (wpAny_truthy_bool ⟨.bl (!c),H1,I1,rfl,q1⟩)
def tIf(t:TT)(ta tb:TE):TE:=fun σ H Q=>t σ H fun c H1=>if c=true then ta σ H1 Q else tb σ H1 Q
theorem ar5{c:Expr}(hc:PT X c tA)(ha:PE X a ta)(hb:PE X b tb):PE X (.IfExp c a b pos) (tIf tA ta tb):=by
 intro jv s σ H Q I h;refine wpAny_IfExp (thn (hc jv s σ H _ I h) fun d s1 ⟨H1,I1,q1⟩ =>?_)
 cases d with
 | true=>exact ha jv s1 σ H1 Q I1 q1
 | false=>exact hb jv s1 σ H1 Q I1 q1
end
def SqL(K:Fg9)(H:Hp)(a:Addr)(xs:List V):Prop :=
 Rd H a (.lst xs) ∨
  ∃(o:Obj) (its:Array Value) (n:Nat),K.lookup a=some o/\o.cls=.type "list" /\ o.dict=none/\o.data=.seq its n/\its.size<=sizeLine/\Vals xs its.toList
def SqT(K:Fg9)(H:Hp)(a:Addr)(xs:List V):Prop :=
 Rd H a (.tup xs) ∨
  ∃(o:Obj) (its:Array Value) (n:Nat),K.lookup a=some o/\o.cls=.type "tuple" /\ o.data=.seq its n/\its.size<=sizeLine/\Vals xs its.toList
def absV:Value->Option V
 | .none=>some .non
 | .bool b=>some (.bl b)
 | .int i _=>some (.int i)
 | .str x _=>some (.str x)
 | .bytes b _=>some (.byt b)
 | .float b _=>some (.flt b)
 | .ref a=>some (.ref a)
 | .type n=>some (.ty n)
 | _=>none
theorem RelV.abs{x:V}{u:Value}(r:RelV x u):absV u=some x:=by
 cases x with
 | non=>cases r;rfl
 | bl _=>cases r;rfl
 | int _=>obtain⟨t,rfl⟩:=r;rfl
 | str _=>obtain⟨t,rfl⟩:=r;rfl
 | byt _=>obtain⟨t,rfl⟩:=r;rfl
 | flt _=>obtain⟨t,rfl⟩:=r;rfl
 | ref _=>cases r;rfl
 | ty _=>cases r;rfl
theorem RelV.inj{x y:V}{u:Value}(r:RelV x u)(q:RelV y u):x=y:=Option.some.inj (r.abs.symm.trans q.abs)
theorem Vals.inj:∀{xs ys:List V} {us:List Value},Vals xs us->Vals ys us->xs=ys
 | _,_,_,.nil,.nil=>rfl
 | _,_,_,.cons r t,.cons r' t'=>by rw[r.inj r',Vals.inj t t']
section
variable{X:Cx}{jv:List (Addr×Obj)}{σ:St}{H:Hp}{s:Shared}{a:Addr}{xs ys:List V}
theorem SqL.of{K:Fg9}(h:H a=some (.lst xs)):SqL K H a xs:=.inl (.inl h)
theorem SqT.of{K:Fg9}(h:H a=some (.tup xs)):SqT K H a xs:=.inl (.inl h)
theorem Inv.list(I:Inv X jv σ H s)(h:SqL X.K H a xs):∃its:List Value,Vals xs its/\PlainL s.heap a its.toArray/\xs.length<=sizeLine:=by
 rcases h with h | ⟨o,its,n,hk,hc,hd,hs,hz,r⟩
 ·obtain⟨z,its,n,r,e⟩:=h.ok I.hok;exact⟨its,r,⟨_,n,e,rfl,rfl,rfl⟩,z⟩
 ·refine⟨its.toList,r,⟨o,n,I.kIn a o hk,hc,hd,by simpa using hs⟩,?_⟩
  have e:=r.length;simp only[Array.length_toList] at e;omega
theorem Inv.tuple(I:Inv X jv σ H s)(h:SqT X.K H a xs):∃its:List Value,Vals xs its/\IsTup s.heap a its.toArray/\xs.length<=sizeLine:=by
 rcases h with h | ⟨o,its,n,hk,hc,hs,hz,r⟩
 ·obtain⟨z,its,r,p⟩:=h.ok I.hok;exact⟨its,r,p.tup,z⟩
 ·refine⟨its.toList,r,⟨o,I.kIn a o hk,hc,n,by simpa using hs⟩,?_⟩
  have e:=r.length;simp only[Array.length_toList] at e;omega
theorem Inv.list_inj(I:Inv X jv σ H s)(h:SqL X.K H a xs)(h':SqL X.K H a ys):xs=ys:=by
 obtain⟨its,r,⟨o,n,e,_,_,d⟩,_⟩:=I.list h;obtain⟨its',r',⟨o',n',e',_,_,d'⟩,_⟩:=I.list h';rw[e] at e';cases e';rw[d] at d'
 injection d' with d1 _
 have:its=its':=by simpa using congrArg Array.toList d1
 subst this;exact r.inj r'
theorem Inv.tuple_inj(I:Inv X jv σ H s)(h:SqT X.K H a xs)(h':SqT X.K H a ys):xs=ys:=by
 obtain⟨its,r,⟨o,e,_,n,d⟩,_⟩:=I.tuple h;obtain⟨its',r',⟨o',e',_,n',d'⟩,_⟩:=I.tuple h';rw[e] at e';cases e';rw[d] at d'
 injection d' with d1 _
 have:its=its':=by simpa using congrArg Array.toList d1
 subst this;exact r.inj r'
end
abbrev Cx.wish(X:Cx)(E:Value->Shared->Prop):Cx:={ X with xe:=E }
abbrev Cx.nox(X:Cx):Cx:=X.wish fun _ _=>False
theorem Cx.Ok.wish{X:Cx}(ok:X.Ok)(E:Value->Shared->Prop):(X.wish E).Ok :=
 ⟨ok.mod,ok.kind,ok.glob,ok.blt,ok.above,ok.inj,ok.has,ok.cab,ok.hd,ok.frames,ok.stk,ok.exf,ok.bs,ok.bsz,ok.noex,ok.exfs,ok.funs,ok.frf⟩
theorem Cx.Ok.unwish{X:Cx}{E:Value->Shared->Prop}(ok:(X.wish E).Ok):X.Ok :=
 ⟨ok.mod,ok.kind,ok.glob,ok.blt,ok.above,ok.inj,ok.has,ok.cab,ok.hd,ok.frames,ok.stk,ok.exf,ok.bs,ok.bsz,ok.noex,ok.exfs,ok.funs,ok.frf⟩
section
variable{X:Cx}{jv:List (Addr×Obj)}{σ:St}{H:Hp}{s:Shared}{E:Value->Shared->Prop}
theorem Inv.wish(I:Inv X jv σ H s)(E:Value->Shared->Prop):Inv (X.wish E) jv σ H s:=⟨I.ok.wish E,I.os,I.bare,I.base,I.loc,I.cell,I.free,I.freeC,I.pin,I.hok,I.len⟩
theorem Inv.unwish(I:Inv (X.wish E) jv σ H s):Inv X jv σ H s:=⟨I.ok.unwish,I.os,I.bare,I.base,I.loc,I.cell,I.free,I.freeC,I.pin,I.hok,I.len⟩
theorem SP.unwish{D:Ends}{f:Flow}{s':Shared}(h:SP (X.wish E) jv D f s'):SP X jv D f s':=by
 cases f with
 | next=>obtain⟨σ',H',I,q⟩:=h;exact⟨σ',H',I.unwish,q⟩
 | brk=>obtain⟨σ',H',I,q⟩:=h;exact⟨σ',H',I.unwish,q⟩
 | cont=>obtain⟨σ',H',I,q⟩:=h;exact⟨σ',H',I.unwish,q⟩
 | ret u=>obtain⟨v,σ',H',I,r,q⟩:=h;exact⟨v,σ',H',I.unwish,r,q⟩
theorem PSs.nox{st:List Stmt}{t:TS}(h:PSs X.nox st t):PSs X st t:=fun jv s σ H D I hw =>
 wpAny_mono (h jv s σ H D (I.wish _) hw) (fun _ _ q=>q.unwish) fun _ _ z=>False.elim z
end
section
variable{X:Cx}{st:Stmt}{rest:List Stmt}{t u:TS}{e:Expr}{te:TE}{pos:Pos}
def a0i:TS:=fun D σ H=>D.nx σ H
def tSeq(t u:TS):TS:=fun D σ H=>t { D with nx:=u D } σ H
theorem auu:PSs X [] a0i:=fun _ _ σ H _ I h=>wpAny_execs_nil ⟨σ,H,I,h⟩
theorem yw(h1:PS X st t)(h2:PSs X rest u):PSs X (st::rest) (tSeq t u):=by
 intro jv s σ H D I h;refine wpAny_execs_cons (thn (h1 jv s σ H { D with nx:=u D } I h) fun f s1 q =>?_)
 cases f with
 | next =>
  obtain⟨σ',H',I',q⟩:=q;exact h2 jv s1 σ' H' D I' q
 | ret v=>exact q
 | brk=>exact q
 | cont=>exact q
theorem ao5(h1:PS X st t):PSs X [st] t:=by
 intro jv s σ H D I h;refine wpAny_execs_cons (thn (h1 jv s σ H D I h) fun f s1 q =>?_)
 cases f with
 | next=>exact wpAny_execs_nil q
 | ret v=>exact q
 | brk=>exact q
 | cont=>exact q
theorem Inv.quiet{jv:List (Addr×Obj)}{σ:St}{H:Hp}{s:Shared}(I:Inv X jv σ H s):interactive X.env=false:=by simp[interactive,I.ok.kind]
def a0j(te:TE):TS:=fun D σ H=>te σ H fun _ H1=>D.nx σ H1
theorem ao6(he:PE X e te)(hs:swapsWith e none pos.line X.env=pure false:=by rfl):PS X (.Expr e pos) (a0j te):=by
 intro jv s σ H D I h;exact wpAny_Expr_any (thn (he jv s σ H _ I h) fun v s1 ⟨x,H1,I1,r1,q1⟩=>⟨σ,H1,I1,q1⟩) I.quiet hs
def tRet(te:TE):TS:=fun D σ H=>te σ H D.rt
theorem axe(he:PE X e te):PS X (.Return (some e) pos) (tRet te):=by
 intro jv s σ H D I h;exact wpAny_Return_some (thn (he jv s σ H _ I h) fun v s1 ⟨x,H1,I1,r1,q1⟩=>⟨x,σ,H1,I1,r1,q1⟩)
def tIfS(c:TT)(t u:TS):TS:=fun D σ H=>c σ H fun b H1=>if b=true then t D σ H1 else u D σ H1
theorem a0t{c:Expr}{a b:List Stmt}{tc:TT}(hc:PT X c tc)(ha:PSs X a t)(hb:PSs X b u):PS X (.If c a b pos) (tIfS tc t u):=by
 intro jv s σ H D I h;refine wpAny_If (thn (hc jv s σ H _ I h) fun d s1 ⟨H1,I1,q1⟩ =>?_)
 cases d with
 | true=>exact ha jv s1 σ H1 D I1 q1
 | false=>exact hb jv s1 σ H1 D I1 q1
def awr:TS:=fun _ _ _=>False
theorem arx:PS X st awr:=fun _ _ _ _ _ _ h=>h.elim
end
abbrev TG:=V->St->Hp->(St->Hp->Prop)->Prop
abbrev TGs:=List V->St->Hp->(St->Hp->Prop)->Prop
def PG(X:Cx)(target:Expr)(t:TG):Prop :=
 ∀(jv:List (Addr×Obj)) (s:Shared) (σ:St) (H:Hp) (v:V) (u:Value) (Q:St->Hp->Prop),Inv X jv σ H s->RelV v u->t v σ H Q ->
  wpAny (model X.prog X.w) X.A (assign target X.env u) (fun _ s'=>∃σ' H',Inv X jv σ' H' s'/\Q σ' H') X.xe s
def PGs(X:Cx)(ts:List Expr)(t:TGs):Prop :=
 ∀(jv:List (Addr×Obj)) (s:Shared) (σ:St) (H:Hp) (vs:List V) (us:List Value) (Q:St->Hp->Prop),Inv X jv σ H s->Vals vs us->t vs σ H Q ->
  wpAny (model X.prog X.w) X.A (assignInOrder ((assignEach ts X.env).map (·.2)) us) (fun _ s'=>∃σ' H',Inv X jv σ' H' s'/\Q σ' H') X.xe s
abbrev TSet:=V->V->V->Hp->(Hp->Prop)->Prop
def PSet(X:Cx)(t:TSet):Prop :=
 ∀(jv:List (Addr×Obj)) (s:Shared) (σ:St) (H:Hp) (o i v:V) (ov iv u:Value) (Q:Hp->Prop),Inv X jv σ H s->RelV o ov->RelV i iv->RelV v u->t o i v H Q ->
  wpAny (model X.prog X.w) X.A (setItem ov iv u) (fun _ s'=>∃H',Inv X jv σ H' s'/\Q H') X.xe s
abbrev TIp:=V->V->Hp->VK->Prop
def PIp(X:Cx)(op:Operator)(t:TIp):Prop :=
 ∀(jv:List (Addr×Obj)) (s:Shared) (σ:St) (H:Hp) (x y:V) (v u:Value) (Q:VK),Inv X jv σ H s->RelV x v->RelV y u->t x y H Q ->
  wpAny (model X.prog X.w) X.A (inplaceOp op v u) (EP X jv σ Q) X.xe s
section
variable{X:Cx}{pos:Pos}
def avx(i:Nat):TG:=fun v σ H Q=>Q (σ.set i (some v)) H
theorem akj{i:Nat}{x:Str}(hN:X.N.Nodup)(hi:X.N[i]? = some x)(hx:Loc X.env.scope x)(hf:X.fn x=true∨X.env.scope.names.lookup x=some .local:=by first | exact .inl rfl | exact .inr rfl | assumption):PG X (.Name x pos) (avx i):=by
 intro jv s σ H v u Q I r h;exact wpAny_assign_Name (agv I hN hi hx r (fun s' I'=>⟨_,H,I',h⟩) hf)
def gNil:TGs:=fun vs σ H Q=>vs=[]/\Q σ H
def a1r(t:TG)(u:TGs):TGs:=fun vs σ H Q=>∃v r,vs=v::r/\t v σ H fun σ' H'=>u r σ' H' Q
theorem apc:PGs X [] gNil:=by
 intro jv s σ H vs us Q I r h;obtain⟨e,h⟩:=h;subst e;cases r;exact assignInOrder_nil ⟨σ,H,I,h⟩
theorem ag7{e:Expr}{es:List Expr}{t:TG}{u:TGs}(h1:PG X e t)(h2:PGs X es u)
  (hs:(assignEach (e::es) X.env).map (·.2)=assign e X.env::(assignEach es X.env).map (·.2):=by rfl):PGs X (e::es) (a1r t u):=by
 intro jv s σ H vs us Q I r h;obtain⟨v,vr,e1,h⟩:=h;subst e1;cases r with
 | cons r rr =>
  rw[hs];refine assignInOrder_cons (thn (h1 jv s σ H _ _ _ I r h) fun _ s1 ⟨σ1,H1,I1,q1⟩ =>?_)
  exact h2 jv s1 σ1 H1 _ _ Q I1 rr q1
def gTup(K:Fg9)(n:Nat)(t:TGs):TG:=fun v σ H Q=>∃a xs,v=.ref a/\SqT K H a xs/\xs.length=n/\t xs σ H Q
theorem atq{es:List Expr}{k:Nat}{t:TGs}{n:Nat}(hc:X.calm=true)(h:PGs X es t)
  (hn:(assignEach es X.env).length=n:=by rfl) (hst:(assignEach es X.env).findIdx? (·.1)=none:=by rfl):PG X (.Tuple es k pos) (gTup X.K n t):=by
 intro jv s σ H v u Q I r hw;obtain⟨a,xs,e1,hq,hl,hw⟩:=hw;subst e1;cases r;obtain⟨its,rv,ht,hz⟩:=I.tuple hq;refine assign_Tuple_tuple (I.ok.hd hc) ht (by simp[hn,<-hl,rv.length]) hst fun h' hx =>?_
 have I1:Inv X jv σ H { s with heap:=h' }:=I.kept (t':=s.toks) fun b o e=>hx b o (Nat.ne_of_lt (Heap.lt_size e)) e
 exact h jv _ σ H xs _ Q I1 (by simpa using rv) hw
def gSub(to ti:TE)(t:TSet):TG:=fun v σ H Q=>to σ H fun o H1=>ti σ H1 fun i H2=>t o i v H2 fun H3=>Q σ H3
theorem atr{o i:Expr}{to ti:TE}{t:TSet}(ho:PE X o to)(hi:PE X i ti)(hs:PSet X t)
  (ha:∀v,assign (.Subscript o i pos) X.env v=(do
   let ov <-holding [v] (eval o X.env)
   let iv <-holding [v,ov] (eval i X.env)
   standAt pos
   holding [v,ov,iv] (setItem ov iv v)
   release [v,ov,iv] []):=by intro _;rfl):PG X (.Subscript o i pos) (gSub to ti t):=by
 intro jv s σ H v u Q I r h;rw[ha];refine wpAny_bind (wpAny_holding (thn (ho jv s σ H _ I h) fun ov s1 ⟨x,H1,I1,r1,q1⟩ =>?_))
 refine wpAny_bind (wpAny_holding (thn (hi jv s1 σ H1 _ I1 q1) fun iv s2 ⟨y,H2,I2,r2,q2⟩ =>?_))
 refine wpAny_bind (wpAny_standAt (wpAny_bind (wpAny_holding (thn (hs jv s2 σ H2 x y v ov iv u _ I2 r1 r2 r q2) fun _ s3 ⟨H3,I3,q3⟩ =>?_))))
 exact wpAny_release ⟨σ,H3,I3,q3⟩
def tAsg(te:TE)(g:TG):TS:=fun D σ H=>te σ H fun x H1=>g x σ H1 D.nx
theorem al0{tg e:Expr}{te:TE}{g:TG}(he:PE X e te)(hg:PG X tg g)(hs:swapsWithSole [tg] e pos.line X.env=pure false:=by rfl)(hw:swappedStores [tg] e X.env=pure none:=by rfl)
  (h1:(assignEach [tg] X.env).map (·.2)=[assign tg X.env]:=by rfl):PS X (.Assign [tg] e pos) (tAsg te g):=by
 intro jv s σ H D I h;refine wpAny_Assign_stores (thn (he jv s σ H _ I h) fun v s1 ⟨x,H1,I1,r1,q1⟩ =>?_) hs hw
 rw[h1];exact thn (hg jv s1 σ H1 x v _ I1 r1 q1) fun _ s2 q=>q
theorem alz{i:Nat}{x:Str}{e:Expr}{te:TE}{pos':Pos}(hN:X.N.Nodup)(hi:X.N[i]? = some x)(hx:Loc X.env.scope x)(he:PE X e te)(hs:swapsWith e (some (.Name x pos')) pos.line X.env=pure false:=by rfl)(hf:X.fn x=true∨X.env.scope.names.lookup x=some .local:=by first | exact .inl rfl | exact .inr rfl | assumption) :
  PS X (.Assign [.Name x pos'] e pos) (tAsg te (avx i)):=by
 intro jv s σ H D I h;refine wpAny_Assign_Name (thn (he jv s σ H _ I h) fun v s1 ⟨y,H1,I1,r1,q1⟩ =>?_) hs
 exact agv I1 hN hi hx r1 (fun s2 I2=>⟨_,H1,I2,q1⟩) hf
def tAug(i:Nat)(te:TE)(ti:TIp):TS:=fun D σ H=>∃x,σ[i]? = some (some x)/\te σ H fun y H1=>ti x y H1 fun z H2=>D.nx (σ.set i (some z)) H2
theorem axg{i:Nat}{x:Str}{e:Expr}{te:TE}{op:Operator}{ti:TIp}{pos':Pos}(hN:X.N.Nodup)(hi:X.N[i]? = some x)(hx:Loc X.env.scope x)(he:PE X e te)(ho:PIp X op ti)(hf:X.fn x=true∨X.env.scope.names.lookup x=some .local:=by first | exact .inl rfl | exact .inr rfl | assumption) :
  PS X (.AugAssign (.Name x pos') op e pos) (tAug i te ti):=by
 intro jv s σ H D I h;obtain⟨v,e1,h⟩:=h;obtain⟨m,hn,hl⟩:=I.loc;have vis:Vis X.env.scope x:=by rcases hx with k | k;exact .inl k;exact .inr (.inl k)
 obtain⟨u,r,l⟩:=hl i x v hi e1 vis;refine wpAny_AugAssign_Name ?_;have go:wpAny (model X.prog X.w) X.A (eval e X.env) (fun w s₂=>wpAny (model X.prog X.w) X.A (inplaceOp op u w) (fun r s₃=>wpAny (model X.prog X.w) X.A (storeName X.env x r) (fun _=>SP X jv D .next) X.xe s₃) X.xe s₂) X.xe s:=by
  refine thn (he jv s σ H _ I h) fun w s1 ⟨y,H1,I1,r1,q1⟩ =>?_
  refine thn (ho jv s1 σ H1 v y u w _ I1 r r1 q1) fun z s2 ⟨zv,H2,I2,r2,q2⟩ =>?_
  exact agv I2 hN hi hx r2 (fun s3 I3=>⟨_,H2,I3,q2⟩) hf
 rcases l with⟨hk,hm⟩ | ⟨hk,c,hc,hcell⟩
 ·exact wpAny_loadName_local I.ok.kind hk hn hm go
 ·rcases hk with hk | hk
  ·exact wpAny_loadName_cell I.ok.kind hk hc hcell go
  ·rcases hx with k | k
   ·have:X.env.scope.names.lookup x=some .free:=hk;rw[k] at this;cases this
   ·have:X.env.scope.names.lookup x=some .free:=hk;rw[k] at this;cases this
def ipI(f:Int->Int->Int):TIp:=fun x y H Q=>∃i j,x=.int i/\y=.int j/\Q (.int (f i j)) H
theorem ayw:PIp X .Add (ipI fun i j=>i+j):=by
 intro jv s σ H x y v u Q I r1 r2 h;obtain⟨i,j,e1,e2,q⟩:=h;subst e1;subst e2;obtain⟨t,rfl⟩:=r1;obtain⟨t',rfl⟩:=r2;exact iadd_int ⟨.int _,H,I.tok _,⟨_,rfl⟩,q⟩
end
section
variable{X:Cx}{pos:Pos}
def awp(c:TT)(tb:TS):TS:=fun D σ H=>∃W:Nat->St->Hp->Prop,(∃m,W m σ H)/\∀m σ H,W m σ H ->
 c σ H fun b H1=>if b=true then ∃N:St->Hp->Prop,(∀σ' H',N σ' H'->∃m',m' < m/\W m' σ' H')/\tb { D with nx:=N,ct:=N,bk:=D.nx } σ H1 else D.nx σ H1
theorem aly{c:Expr}{body:List Stmt}{tc:TT}{tb:TS}(hp:PassesOwn (model X.prog X.w) X.A X.env X.xe)(hc:PT X c tc)(hb:PSs X body tb):PS X (.While c body [] pos) (awp tc tb):=by
 intro jv s σ H D I h;obtain⟨W,⟨m0,w0⟩,turn⟩:=h;refine wpAny_While (codeAny_whileLoop (fun n s'=>∃σ' H',Inv X jv σ' H' s'/\W n σ' H') ?_ m0 ⟨σ,H,I,w0⟩)
 rintro n s1 ⟨σ1,H1,I1,w1⟩
 refine wpAny_passesOwn hp (thn (hc jv s1 σ1 H1 _ I1 (turn n σ1 H1 w1)) fun b s2 ⟨H2,I2,q2⟩ =>?_)
 cases b with
 | true =>
  obtain⟨N,hN,q2⟩:=q2;rw[if_pos rfl];refine wpAny_passesOwn hp (thn (hb jv s2 σ1 H2 _ I2 q2) fun f s3 q3 =>?_)
  cases f with
  | next =>
   obtain⟨σ3,H3,I3,n3⟩:=q3;obtain⟨m',hm,w3⟩:=hN σ3 H3 n3;exact⟨m',hm,σ3,H3,I3,w3⟩
  | cont =>
   obtain⟨σ3,H3,I3,n3⟩:=q3;obtain⟨m',hm,w3⟩:=hN σ3 H3 n3;exact⟨m',hm,σ3,H3,I3,w3⟩
  | brk=>exact q3
  | ret v=>exact q3
 | false =>
  rw[if_neg Bool.false_ne_true];exact wpAny_execs_nil ⟨σ1,H2,I2,q2⟩
end
structure It where
 go:Nat->Hp->Prop
 yld:Nat->Hp->V->Hp->Prop
 stop:Nat->Hp->Prop
def FpOk(X:Cx)(jv:List (Addr×Obj))(H:Hp)(b:Addr):Prop :=
 H b=none/\b≠X.env.locals/\b∉X.fs/\(b∈X.ex∨X.s₀.heap.objs.size<=b)/\(∀x c,X.env.cells.lookup x=some c->c≠b)/\∀p∈X.pn++jv,p.1≠b
theorem Inv.fpOk{X:Cx}{jv:List (Addr×Obj)}{σ:St}{H H':Hp}{s:Shared}{b:Addr}(I:Inv X jv σ H s)(hb:s.heap.objs.size<=b)(hn:H' b=none):FpOk X jv H' b:=by
 refine⟨hn,Nat.ne_of_gt (Nat.lt_of_lt_of_le I.lt hb),I.nofs hb,.inr (Nat.le_trans I.sz hb),fun x c e z =>?_,fun p hp z =>?_⟩
 ·obtain⟨v,q⟩:=I.cell x c e;exact absurd (Nat.lt_of_lt_of_le q.lt (by rw[z];exact hb)) (Nat.lt_irrefl _)
 ·exact absurd (Nat.lt_of_lt_of_le (Heap.lt_size (I.pin p hp).1) (by rw[z];exact hb)) (Nat.lt_irrefl _)
structure Turn (P:Program) (w:World) (K:Fg9) (tg:Expr) (J:It) (fp:List Addr) (it:Addr) (tn:Nat->Heap->Prop):Prop where
 mem:it∈fp
 obj:∀i h,tn i h->∀b∈fp,∃o,h.get? b=some o/\∀v,o.data≠.cell v
 keep:∀i h h',tn i h->(∀b∈fp,∀o,h.get? b=some o->h'.get? b=some o)->tn i h'
 item:∀(X:Cx),X.prog=P->X.w=w->X.K=K->X.calm=true->∀(i:Nat) (jv:List (Addr×Obj)) (s:Shared) (σ:St) (H:Hp) (E:Value->Shared->Prop),Inv X jv σ H s->(∀b∈fp,FpOk X jv H b)->tn i s.heap->J.go i H ->
  wpAny (model P w) X.A (pyNext (.ref it)) (fun r s1=>∃u,r=some u /\
   wpAny (model P w) X.A (letOwnedTupleGo tg (.ref it) u) (fun _ s2=>∃x H',Inv X jv σ H' s2/\RelV x u/\J.yld i H x H'/\tn (i+1) s2.heap/\∀b∈fp,H' b=none) E s1) E s
 done:∀(X:Cx),X.prog=P->X.w=w->X.K=K->X.calm=true->∀(i:Nat) (jv:List (Addr×Obj)) (s:Shared) (σ:St) (H:Hp) (E:Value->Shared->Prop),Inv X jv σ H s->(∀b∈fp,FpOk X jv H b)->tn i s.heap->J.stop i H ->
  wpAny (model P w) X.A (pyNext (.ref it)) (fun r s1=>r=none/\Inv X jv σ H s1) E s
 self:∀(A:Around) (i:Nat) (s:Shared) (Q:Value->Shared->Prop) (E:Value->Shared->Prop),tn i s.heap->Q (.ref it) s->wpAny (model P w) A (pyIter (.ref it)) Q E s
abbrev TI:=St->Hp->(It->Hp->Prop)->Prop
def PIE(X:Cx)(jv:List (Addr×Obj))(σ:St)(tg:Expr)(R:It->Hp->Prop)(itv:Value)(s2:Shared):Prop :=
 ∃(it:Addr) (fp:List Addr) (tn:Nat->Heap->Prop) (J:It) (H':Hp),itv=.ref it/\Inv X jv σ H' s2/\Turn X.prog X.w X.K tg J fp it tn/\tn 0 s2.heap/\(∀b∈fp,FpOk X jv H' b)/\R J H'
def PI(X:Cx)(tg iter:Expr)(wi:TI):Prop :=
 ∀(jv:List (Addr×Obj)) (s:Shared) (σ:St) (H:Hp) (R:It->Hp->Prop),Inv X jv σ H s->wi σ H R ->
  wpAny (model X.prog X.w) X.A (eval iter X.env) (fun v s1=>wpAny (model X.prog X.w) X.A (pyIter v) (PIE X jv σ tg R) X.xe s1) X.xe s
theorem avw{M:Model}{A:Around}{E:Value->Shared->Prop}{s:Shared}{tg:Expr}{it:Addr}{u:Value}{o:Obj}{n:String}{vs:Array Value}{Q:Unit->Shared->Prop}(ho:s.heap.get? it=some o)(hc:o.cls=.type n)(hd:o.data=.fields vs)
  (hn:["enumerate","zip","dict_itemiterator","dict_reverseitemiterator","odict_iterator","itertools.zip_longest","itertools.pairwise"].contains n=false) (hQ:Q () s):wpAny M A (letOwnedTupleGo tg (.ref it) u) Q E s:=by
 unfold letOwnedTupleGo;cases tg <;> first
  | exact wpAny_pure hQ
  | (cases u <;> first
    | exact wpAny_pure hQ
    | (refine wpAny_bind (wpAny_load ho ?_)
       rw[hc,hd];show wpAny M A (if (["enumerate","zip","dict_itemiterator","dict_reverseitemiterator","odict_iterator","itertools.zip_longest","itertools.pairwise"].contains n&&vs[0]? == some (rawInt _))=true then _ else _) Q E s
       rw[if_neg (by intro h;rw[hn,Bool.false_and] at h;cases h)]
       exact wpAny_pure hQ))
def Itl(K:Fg9)(a:Addr):It :=
 ⟨fun i H=>∃xs x,SqL K H a xs/\xs[i]? = some x,fun i H x H'=>H'=H/\∀xs,SqL K H a xs->xs[i]? = some x,fun i H=>∃xs,SqL K H a xs/\xs.length<=i⟩
def Itt(K:Fg9)(a:Addr):It :=
 ⟨fun i H=>∃xs x,SqT K H a xs/\xs[i]? = some x,fun i H x H'=>H'=H/\∀xs,SqT K H a xs->xs[i]? = some x,fun i H=>∃xs,SqT K H a xs/\xs.length<=i⟩
def Itr(lo:Int)(n:Nat):It:=⟨fun i _=>i < n,fun i H x H'=>H'=H/\x=.int (lo+i),fun i _=>n<=i⟩
theorem aom{P:Program}{w:World}{K:Fg9}{tg:Expr}(a it:Addr):Turn P w K tg (Itl K a) [it] it (fun i h=>h.IsListIter it a i) where
 mem:=by simp
 obj:=fun i h st b hb=>by
  have e:b=it:=by simpa using hb
  subst e;obtain⟨o,e,c,d⟩:=st;exact⟨o,e,fun v z=>by rw[d] at z;cases z⟩
 keep:=fun i h h' st k=>st.at fun o e=>k it (by simp) o e
 item:=by
  intro X hP hw hK hc i jv s σ H E I hf st hg;subst hP hw hK;obtain⟨xs,x,hq,hx⟩:=hg;obtain⟨its,rv,p,hz⟩:=I.list hq;obtain⟨u,hu,ru⟩:=rv.get hx;obtain⟨f0,f1,f2,f3,f4,f5⟩:=hf it (by simp)
  refine wpAny_pyNext_list_item st p.isList (x:=u) (by simpa using hu) fun h' st' sb =>?_
  have I1:Inv X jv σ H { s with heap:=h' }:=I.turned (t':=s.toks) (fun b o hb e=>(sb.2 b hb).trans e) f0 f1 f3 f4 f5
  obtain⟨o,e,c,d⟩:=id st';exact⟨u,rfl,avw (s:={ s with heap:=h' }) e c d (by decide) ⟨x,H,I1,ru,⟨rfl,fun ys hy=>by rw[I.list_inj hy hq];exact hx⟩,st',fun b hb=>(hf b hb).1⟩⟩
 done:=by
  intro X hP hw hK hc i jv s σ H E I hf st hg;subst hP hw hK;obtain⟨xs,hq,hx⟩:=hg;obtain⟨its,rv,p,hz⟩:=I.list hq;obtain⟨f0,f1,f2,f3,f4,f5⟩:=hf it (by simp)
  have hl:=rv.length;exact wpAny_pyNext_list_end (I.ok.hd hc) st p.isList (by simp;omega) fun h' eb=>⟨rfl,I.turned (t':=s.toks) (fun b o hb e=>eb b o hb e) f0 f1 f3 f4 f5⟩
 self:=fun _ _ _ _ _ st h=>wpAny_pyIter_listiter st h
theorem am7{P:Program}{w:World}{K:Fg9}{tg:Expr}(a it:Addr):Turn P w K tg (Itt K a) [it] it (fun i h=>h.IsTupleIter it a i) where
 mem:=by simp
 obj:=fun i h st b hb=>by
  have e:b=it:=by simpa using hb
  subst e;obtain⟨o,e,c,d⟩:=st;exact⟨o,e,fun v z=>by rw[d] at z;cases z⟩
 keep:=fun i h h' st k=>st.at fun o e=>k it (by simp) o e
 item:=by
  intro X hP hw hK hc i jv s σ H E I hf st hg;subst hP hw hK;obtain⟨xs,x,hq,hx⟩:=hg;obtain⟨its,rv,p,hz⟩:=I.tuple hq;obtain⟨u,hu,ru⟩:=rv.get hx;obtain⟨f0,f1,f2,f3,f4,f5⟩:=hf it (by simp)
  refine wpAny_pyNext_tuple_item st (show s.heap.IsTuple a its.toArray from p) (x:=u) (by simpa using hu) fun h' st' sb =>?_
  have I1:Inv X jv σ H { s with heap:=h' }:=I.turned (t':=s.toks) (fun b o hb e=>(sb.2 b hb).trans e) f0 f1 f3 f4 f5
  obtain⟨o,e,c,d⟩:=id st';exact⟨u,rfl,avw (s:={ s with heap:=h' }) e c d (by decide) ⟨x,H,I1,ru,⟨rfl,fun ys hy=>by rw[I.tuple_inj hy hq];exact hx⟩,st',fun b hb=>(hf b hb).1⟩⟩
 done:=by
  intro X hP hw hK hc i jv s σ H E I hf st hg;subst hP hw hK;obtain⟨xs,hq,hx⟩:=hg;obtain⟨its,rv,p,hz⟩:=I.tuple hq;obtain⟨f0,f1,f2,f3,f4,f5⟩:=hf it (by simp)
  have hl:=rv.length;exact wpAny_pyNext_tuple_end (I.ok.hd hc) st (show s.heap.IsTuple a its.toArray from p) (by simp;omega) fun h' eb=>⟨rfl,I.turned (t':=s.toks) (fun b o hb e=>eb b o hb e) f0 f1 f3 f4 f5⟩
 self:=fun _ _ _ _ _ st h=>wpAny_pyIter_tupleiter st h
theorem am8{P:Program}{w:World}{K:Fg9}{tg:Expr}(it:Addr)(lo:Int)(n:Nat):Turn P w K tg (Itr lo n) [it] it (fun i h=>IsRangeIter h it (lo+(i:Nat)*1) ((n:Int) - (i:Nat)) 1) where
 mem:=by simp
 obj:=fun i h st b hb=>by
  have e:b=it:=by simpa using hb
  subst e;exact⟨_,st,fun v z=>by
   have z':Data.fields _=Data.cell v:=z;cases z'⟩
 keep:=fun i h h' st k=>k it (by simp) _ st
 item:=by
  intro X hP hw hK hc i jv s σ H E I hf st hg;subst hP hw hK;obtain⟨f0,f1,f2,f3,f4,f5⟩:=hf it (by simp)
  have W:=Walks.range (prog:=X.prog) (w:=X.w) (I.ok.hd hc) it lo 1 n;refine W.item i s _ _ hg st fun v h' tk hv st' kk =>?_
  obtain⟨t,rfl⟩:=hv;have I1:Inv X jv σ H { s with heap:=h',toks:=tk }:=I.turned (fun b o hb e=>kk b o (by simpa using hb) e) f0 f1 f3 f4 f5
  refine⟨_,rfl,avw (s:={ s with heap:=h',toks:=tk }) (n := "range_iterator") st' rfl rfl (by decide) ⟨.int (lo+i),H,I1,⟨t,?_⟩,⟨rfl,rfl⟩,st',fun b hb=>(hf b hb).1⟩⟩
  rw[Int.mul_one]
 done:=by
  intro X hP hw hK hc i jv s σ H E I hf st hg;subst hP hw hK;obtain⟨f0,f1,f2,f3,f4,f5⟩:=hf it (by simp)
  exact wpAny_pyNext_range_end (I.ok.hd hc) st (by have:n<=i:=hg;omega) fun h' eb=>⟨rfl,I.turned (t':=s.toks) (fun b o hb e=>eb b o hb e) f0 f1 f3 f4 f5⟩
 self:=fun _ _ _ _ _ st h=>wpAny_pyIter_rangeiter st h
section
variable{X:Cx}{tg:Expr}
def a1l(K:Fg9)(tl:TE):TI:=fun σ H R=>tl σ H fun x H1=>∃a,x=.ref a/\(∃xs,SqL K H1 a xs)/\R (Itl K a) H1
def iTup(K:Fg9)(tl:TE):TI:=fun σ H R=>tl σ H fun x H1=>∃a,x=.ref a/\(∃xs,SqT K H1 a xs)/\R (Itt K a) H1
theorem apb{l:Expr}{tl:TE}(hl:PE X l tl):PI X tg l (a1l X.K tl):=by
 intro jv s σ H R I h;refine thn (hl jv s σ H _ I h) fun v s1 ⟨x,H1,I1,r1,q1⟩ =>?_
 obtain⟨a,e,⟨xs,hq⟩,q⟩:=q1;subst e;cases r1;obtain⟨its,rv,p,hz⟩:=I1.list hq;refine wpAny_pyIter_list p.isList ?_;refine⟨s1.heap.objs.size,[s1.heap.objs.size],_,_,H1,rfl,I1.kept (t':=s1.toks) fun b o e=>Heap.get?_push_of_some _ e,aom a _,⟨_,Heap.get?_push_size _ rfl,rfl,rfl⟩,fun b hb =>?_,q⟩
 have e:b=s1.heap.objs.size:=by simpa using hb
 subst e;exact I1.fpOk (Nat.le_refl _) (I1.hok.fresh (Nat.le_refl _))
theorem axh{l:Expr}{tl:TE}(hl:PE X l tl):PI X tg l (iTup X.K tl):=by
 intro jv s σ H R I h;refine thn (hl jv s σ H _ I h) fun v s1 ⟨x,H1,I1,r1,q1⟩ =>?_
 obtain⟨a,e,⟨xs,hq⟩,q⟩:=q1;subst e;cases r1;obtain⟨its,rv,p,hz⟩:=I1.tuple hq;refine wpAny_pyIter_tuple (show s1.heap.IsTuple a its.toArray from p) ?_
 refine⟨s1.heap.objs.size,[s1.heap.objs.size],_,_,H1,rfl,I1.kept (t':=s1.toks) fun b o e=>Heap.get?_push_of_some _ e,am7 a _,⟨_,Heap.get?_push_size _ rfl,rfl,rfl⟩,fun b hb =>?_,q⟩
 have e:b=s1.heap.objs.size:=by simpa using hb
 subst e;exact I1.fpOk (Nat.le_refl _) (I1.hok.fresh (Nat.le_refl _))
theorem arv{jv:List (Addr×Obj)}{σ:St}{H:Hp}{s:Shared}{R:It->Hp->Prop}{E:Value->Shared->Prop}{lo hi:Int}{t u v:Tok}{tk:Nat}(I:Inv X jv σ H s)(h1 : -(2 ^ 62)<=lo)(h2:lo < 2 ^ 62)(h3 : -(2 ^ 62)<=hi)(h4:hi < 2 ^ 62)
  (q:R (Itr lo (hi - lo).toNat) H):wpAny (model X.prog X.w) X.A (pyIter (.ref s.heap.objs.size)) (PIE X jv σ tg R) E { s with heap:=s.heap.push { cls:=.type "range", data:=.fields #[.int lo t,.int hi u,.int 1 v] },toks:=tk }:=by
 refine wpAny_pyIter_range (IsRange.new ..) (small_one h1 h2 h3 h4) ?_;have I1:Inv X jv σ H { s with heap:=s.heap.push { cls:=.type "range", data:=.fields #[.int lo t,.int hi u,.int 1 v] },toks:=tk }:=I.kept fun b o e=>Heap.get?_push_of_some _ e
 refine⟨(s.heap.push { cls:=.type "range", data:=.fields #[.int lo t,.int hi u,.int 1 v] }).objs.size,[(s.heap.push { cls:=.type "range", data:=.fields #[.int lo t,.int hi u,.int 1 v] }).objs.size],_,_,H,rfl,
  I1.kept (t':=tk) fun b o e=>Heap.get?_push_of_some _ e,am8 _ lo (hi - lo).toNat,?_,fun b hb =>?_,q⟩
 ·have e1:lo+((0:Nat):Int)*1=lo:=by simp
  have e2:(((hi - lo).toNat:Nat):Int) - ((0:Nat):Int)=Builtin.Range.rangeSize lo hi 1:=by rw[rangeSize_one];split <;> omega
  show IsRangeIter _ _ (lo+((0:Nat):Int)*1) ((((hi - lo).toNat:Nat):Int) - ((0:Nat):Int)) 1;rw[e1,e2];exact Heap.get?_push_size _ rfl
 ·have e:b=(s.heap.push { cls:=.type "range", data:=.fields #[.int lo t,.int hi u,.int 1 v] }).objs.size:=by simpa using hb
  subst e;exact I1.fpOk (Nat.le_refl _) (I1.hok.fresh (Nat.le_refl _))
def a1k(ta:TA):TI:=fun σ H R=>ta σ H fun vs H1=>∃j:Int,vs=[.int j] /\ -(2 ^ 62)<=j/\j < 2 ^ 62/\R (Itr 0 j.toNat) H1
theorem apa{a:Expr}{ta:TA}{p pos:Pos}(hg:Gl X "range")(hm:X.mg "range" = none)(ha:PA X [a] ta)(hs:starEach [a] X.env=[(false,eval a X.env)]:=by rfl):PI X tg (.Call (.Name "range" p) [a] [] pos) (a1k ta):=by
 intro jv s σ H R I h;refine Call_ (ai7 I hg hm boot_range (PyProof.Rows.callWith_type1 (thn (ha pos jv s σ H _ I h) fun us s1 ⟨vs,H1,I1,r1,q1⟩ =>?_) hs rfl))
 obtain⟨j,e,q1,q2,q⟩:=q1;subst e;cases r1 with
 | cons r rr =>
  cases rr;obtain⟨t,rfl⟩:=r;exact call_range_1 (arv I1 (by omega) (by omega) q1 q2 (by simpa using q))
def tFor(wi:TI)(g:TG)(tb:TS):TS:=fun D σ H=>wi σ H fun J H1=>∃W:Nat->Nat->St->Hp->Prop,(∃m,W 0 m σ H1)/\∀i m σ H,W i m σ H ->
 (J.stop i H/\D.nx σ H)∨(J.go i H/\∃N:St->Hp->Prop,(∀σ' H',N σ' H'->∃m',m' < m/\W (i+1) m' σ' H')/\∀x H',J.yld i H x H'->g x σ H' fun σ2 H2=>tb { D with nx:=N,ct:=N,bk:=D.nx } σ2 H2)
def aik(fp:List Addr)(h:Heap):List (Addr×Obj):=fp.filterMap fun b=>(h.get? b).map fun o=>(b,o)
theorem aba{fp:List Addr}{h:Heap}{b:Addr}{o:Obj}(hb:b∈fp)(e:h.get? b=some o):(b,o)∈aik fp h:=List.mem_filterMap.mpr ⟨b,hb,by rw[e];rfl⟩
theorem apf{fp:List Addr}{h:Heap}{p:Addr×Obj}(hp:p∈aik fp h):p.1∈fp/\h.get? p.1=some p.2:=by
 obtain⟨b,hb,e⟩:=List.mem_filterMap.mp hp;cases q:h.get? b with
 | none=>rw[q] at e;cases e
 | some o =>
  rw[q] at e;have e':(b,o)=p:=Option.some.inj e;subst e';exact⟨hb,q⟩
theorem Inv.pinned{jv:List (Addr×Obj)}{σ:St}{H:Hp}{s:Shared}{fp:List Addr}(I:Inv X jv σ H s)(hf:∀b∈fp,FpOk X jv H b)(ho:∀b∈fp,∃o,s.heap.get? b=some o/\∀v,o.data≠.cell v):Inv X (jv++aik fp s.heap) σ H s :=
 I.pins_of fun p hp=>(List.mem_append.mp hp).elim (fun z=>I.pin p (List.mem_append_right _ z)) fun z=>by
  obtain⟨hb,e⟩:=apf z;obtain⟨f0,f1,f2,_⟩:=hf p.1 hb;obtain⟨o,e',d⟩:=ho p.1 hb;rw[e] at e';cases e';exact⟨e,f0,f1,f2,d⟩
theorem Inv.unpinned{jv pl:List (Addr×Obj)}{σ:St}{H:Hp}{s:Shared}(I:Inv X (jv++pl) σ H s):Inv X jv σ H s:=I.pins_of fun p hp=>I.pin p (List.mem_append_right _ (List.mem_append_left _ hp))
theorem axf{iter:Expr}{body:List Stmt}{wi:TI}{g:TG}{tb:TS}{pos:Pos}(hp:PassesOwn (model X.prog X.w) X.A X.env X.xe)(hc:X.calm=true)(hi:PI X tg iter wi)(hg:PG X tg g)(hb:PSs X body tb)
  (hs:∀x,foldedSetIterable iter X.env x=pure x:=by intro _;rfl):PS X (.For tg iter body [] pos) (tFor wi g tb):=by
 intro jv s σ H D I h;refine wpAny_For (thn (hi jv s σ H _ I h) fun v s1 h1=>thn h1 fun itv s2 h2 =>?_) hs
 obtain⟨it,fp,tn,J,H2,e,I2,T,st2,f2,W,⟨m0,w0⟩,turn⟩:=h2;subst e;have stat:∀{H':Hp},(∀b∈fp,H' b=none)->∀b∈fp,FpOk X jv H' b:=fun hn b hb=>⟨hn b hb,(f2 b hb).2⟩
 refine codeAny_forLoop_any (fun n s'=>∃i σ' H',Inv X jv σ' H' s'/\tn i s'.heap/\(∀b∈fp,H' b=none)/\W i n σ' H') ?_ m0 ⟨0,σ,H2,I2,st2,fun b hb=>(f2 b hb).1,w0⟩
 rintro n s3 ⟨i,σ3,H3,I3,st3,fr3,w3⟩
 rcases turn i n σ3 H3 w3 with⟨stop,qn⟩ | ⟨go,N,hN,step⟩
 ·refine wpAny_passesOwn hp (thn (T.done X rfl rfl rfl hc i jv s3 σ3 H3 X.xe I3 (stat fr3) st3 stop) fun r s4 ⟨hr,I4⟩ =>?_)
  subst hr;exact wpAny_execs_nil ⟨σ3,H3,I4,qn⟩
 ·refine wpAny_passesOwn hp (thn (T.item X rfl rfl rfl hc i jv s3 σ3 H3 X.xe I3 (stat fr3) st3 go) fun r s4 ⟨u,hr,h4⟩ =>?_)
  subst hr;refine wpAny_passesOwn hp (thn h4 fun _ s5 ⟨x,H5,I5,r5,y5,st5,fr5⟩ =>?_)
  have I5':=I5.pinned (stat fr5) (T.obj _ _ st5);refine wpAny_passesOwn hp (thn (hg _ s5 σ3 H5 x u _ I5' r5 (step x H5 y5)) fun _ s6 ⟨σ6,H6,I6,q6⟩ =>?_)
  refine wpAny_passesOwn hp (thn (hb _ s6 σ6 H6 _ I6 q6) fun f s7 q7 =>?_)
  have again:∀{σ7:St} {H7:Hp},Inv X (jv++aik fp s5.heap) σ7 H7 s7->N σ7 H7->∃m,m < n/\∃i σ' H',Inv X jv σ' H' s7/\tn i s7.heap/\(∀b∈fp,H' b=none)/\W i m σ' H':=fun{σ7 H7} I7 n7=>by
   obtain⟨m',hm,w7⟩:=hN σ7 H7 n7;refine⟨m',hm,i+1,σ7,H7,I7.unpinned,T.keep _ _ _ st5 fun b hb o e=>(I7.pin (b,o) (List.mem_append_right _ (List.mem_append_right _ (aba hb e)))).1,fun b hb =>?_,w7⟩
   obtain⟨o,e,d⟩:=T.obj _ _ st5 b hb;exact(I7.pin (b,o) (List.mem_append_right _ (List.mem_append_right _ (aba hb e)))).2.1
  cases f with
  | next=>obtain⟨σ7,H7,I7,n7⟩:=q7;exact again I7 n7
  | cont=>obtain⟨σ7,H7,I7,n7⟩:=q7;exact again I7 n7
  | brk=>obtain⟨σ7,H7,I7,q7⟩:=q7;exact⟨σ7,H7,I7.unpinned,q7⟩
  | ret v=>obtain⟨x7,σ7,H7,I7,r7,q7⟩:=q7;exact⟨x7,σ7,H7,I7.unpinned,r7,q7⟩
end
abbrev R2:=V->V->Hp->VK->Prop
def OpR(X:Cx)(f:Value->Value->Sem Value)(r:R2):Prop :=
 ∀(jv:List (Addr×Obj)) (s:Shared) (σ:St) (H:Hp) (x y:V) (v u:Value) (Q:VK),Inv X jv σ H s->RelV x v->RelV y u->r x y H Q ->
  wpAny (model X.prog X.w) X.A (f v u) (EP X jv σ Q) X.xe s
def UnR(X:Cx)(f:Value->Sem Value)(r:V->Hp->VK->Prop):Prop :=
 ∀(jv:List (Addr×Obj)) (s:Shared) (σ:St) (H:Hp) (x:V) (v:Value) (Q:VK),Inv X jv σ H s->RelV x v->r x H Q ->
  wpAny (model X.prog X.w) X.A (f v) (EP X jv σ Q) X.xe s
def ada(X:Cx)(f:Value)(r:List V->Hp->VK->Prop):Prop :=
 ∀(jv:List (Addr×Obj)) (s:Shared) (σ:St) (H:Hp) (xs:List V) (us:List Value) (Q:VK),Inv X jv σ H s->Vals xs us->r xs H Q ->
  wpAny (model X.prog X.w) X.A (call f us) (EP X jv σ Q) X.xe s
def tOp(r:R2)(ta tb:TE):TE:=fun σ H Q=>ta σ H fun x H1=>tb σ H1 fun y H2=>r x y H2 Q
def tUn(r:V->Hp->VK->Prop)(ta:TE):TE:=fun σ H Q=>ta σ H fun x H1=>r x H1 Q
def rI(C:Int->Int->Prop)(g:Int->Int->V):R2:=fun x y H Q=>∃i j,x=.int i/\y=.int j/\C i j/\Q (g i j) H
def rI0(g:Int->Int->V):R2:=fun x y H Q=>∃i j,x=.int i/\y=.int j/\Q (g i j) H
def rU(g:Int->V):V->Hp->VK->Prop:=fun x H Q=>∃i,x=.int i/\Q (g i) H
section
variable{X:Cx}{a b c:Expr}{ta tb tc:TE}{pos:Pos}
theorem binT(ha:PE X a ta)(hb:PE X b tb){jv:List (Addr×Obj)}{s:Shared}{σ:St}{H:Hp}{R:V->V->Hp->Prop}(I:Inv X jv σ H s)
  (h:ta σ H fun x H1=>tb σ H1 fun y H2=>R x y H2) {Q:Value->Shared->Prop} {f:Value->Value->Sem Value}
  (hf:∀v u s2 x y H2,Inv X jv σ H2 s2->RelV x v->RelV y u->R x y H2->wpAny (model X.prog X.w) X.A (f v u) Q X.xe s2) :
  wpAny (model X.prog X.w) X.A (eval a X.env) (fun v s₁=>wpAny (model X.prog X.w) X.A (eval b X.env) (fun u s₂=>wpAny (model X.prog X.w) X.A (f v u) Q X.xe s₂) X.xe s₁) X.xe s:=by
 refine thn (ha jv s σ H _ I h) fun v s1 ⟨x,H1,I1,r1,q1⟩ =>?_
 refine thn (hb jv s1 σ H1 _ I1 q1) fun u s2 ⟨y,H2,I2,r2,q2⟩ =>?_
 exact hf v u s2 x y H2 I2 r1 r2 q2
theorem a0v{op:Operator}{r:R2}(ho:OpR X (binaryOp op) r)(ha:PE X a ta)(hb:PE X b tb):PE X (.BinOp a op b pos) (tOp r ta tb):=by
 intro jv s σ H Q I h;exact wpAny_BinOp (binT ha hb I h fun v u s2 x y H2 I2 rx ry q=>ho jv s2 σ H2 x y v u Q I2 rx ry q)
theorem a0u{op:UnaryOp}{r:V->Hp->VK->Prop}(ho:UnR X (unaryOp op) r)(ha:PE X a ta):PE X (.UnaryOp op a pos) (tUn r ta):=by
 intro jv s σ H Q I h;exact UnaryOp_ (thn (ha jv s σ H _ I h) fun v s1 ⟨x,H1,I1,r1,q1⟩=>ho jv s1 σ H1 x v Q I1 r1 q1)
theorem opI{f:Value->Value->Sem Value}{C:Int->Int->Prop}{g:Int->Int->Int}
  (rule:∀(i j:Int) (t u:Tok) (s:Shared) (Q:Value->Shared->Prop) (E:Value->Shared->Prop),C i j->Q (.int (g i j) s.toks) { s with toks:=s.toks+1 }->wpAny (model X.prog X.w) X.A (f (.int i t) (.int j u)) Q E s) :
  OpR X f (rI C fun i j=>.int (g i j)):=by
 intro jv s σ H x y v u Q I rx ry h;obtain⟨i,j,rfl,rfl,hc,q⟩:=h;obtain⟨t,rfl⟩:=rx;obtain⟨t',rfl⟩:=ry;exact rule i j t t' s _ _ hc ⟨.int (g i j),H,I.tok _,⟨_,rfl⟩,q⟩
theorem opI0{f:Value->Value->Sem Value}{g:Int->Int->Int}
  (rule:∀(i j:Int) (t u:Tok) (s:Shared) (Q:Value->Shared->Prop) (E:Value->Shared->Prop),Q (.int (g i j) s.toks) { s with toks:=s.toks+1 }->wpAny (model X.prog X.w) X.A (f (.int i t) (.int j u)) Q E s) :
  OpR X f (rI0 fun i j=>.int (g i j)):=by
 intro jv s σ H x y v u Q I rx ry h;obtain⟨i,j,rfl,rfl,q⟩:=h;obtain⟨t,rfl⟩:=rx;obtain⟨t',rfl⟩:=ry;exact rule i j t t' s _ _ ⟨.int (g i j),H,I.tok _,⟨_,rfl⟩,q⟩
theorem opB0{f:Value->Value->Sem Value}{g:Int->Int->Bool}
  (rule:∀(i j:Int) (t u:Tok) (s:Shared) (Q:Value->Shared->Prop) (E:Value->Shared->Prop),Q (.bool (g i j)) s->wpAny (model X.prog X.w) X.A (f (.int i t) (.int j u)) Q E s) :
  OpR X f (rI0 fun i j=>.bl (g i j)):=by
 intro jv s σ H x y v u Q I rx ry h;obtain⟨i,j,rfl,rfl,q⟩:=h;obtain⟨t,rfl⟩:=rx;obtain⟨t',rfl⟩:=ry;exact rule i j t t' s _ _ ⟨.bl (g i j),H,I,rfl,q⟩
def CPow(i j:Int):Prop:=0<=j/\j<=1000000/\i.natAbs < 2 ^ 64
def CMul(i j:Int):Prop:=(-(2 ^ 64) < i/\i < 2 ^ 64)∨(-(2 ^ 64) < j/\j < 2 ^ 64)
theorem CMul.ok{i j:Int}(h:CMul i j):IntMulOk i j:=by
 rcases h with⟨h1,h2⟩ | ⟨h1,h2⟩
 ·exact .of_left (intBits_le_64 h1 h2)
 ·exact .of_right (intBits_le_64 h1 h2)
theorem ax1:OpR X (binaryOp .Add) (rI0 fun i j=>.int (i+j)):=opI0 fun _ _ _ _ _ _ _ q=>add_int q
theorem axv:OpR X (binaryOp .Sub) (rI0 fun i j=>.int (i - j)):=opI0 fun _ _ _ _ _ _ _ q=>sub_int q
theorem axy:OpR X (binaryOp .Mult) (rI CMul fun i j=>.int (i*j)):=opI fun _ _ _ _ _ _ _ hc q=>mul_int q hc.ok
theorem axz:OpR X (binaryOp .Mod) (rI (fun _ j=>0 < j) fun i j=>.int (i % j)):=opI fun i j _ _ _ _ _ hc q=>by
 have h1:(0:Int) < j:=hc;exact mod_int' (by omega) (by rw[Int.fmod_eq_emod_of_nonneg i (by omega)];exact q)
theorem axx:OpR X (binaryOp .Pow) (rI CPow fun i j=>.int (i ^ j.toNat)):=opI fun _ _ _ _ _ _ _ hc q=>pow_int_small hc.1 hc.2.1 hc.2.2 q
theorem unI{f:Value->Sem Value}{g:Int->Int}
  (rule:∀(i:Int) (t:Tok) (s:Shared) (Q:Value->Shared->Prop) (E:Value->Shared->Prop),Q (.int (g i) s.toks) { s with toks:=s.toks+1 }->wpAny (model X.prog X.w) X.A (f (.int i t)) Q E s) :
  UnR X f (rU fun i=>.int (g i)):=by
 intro jv s σ H x v Q I rx h;obtain⟨i,rfl,q⟩:=h;obtain⟨t,rfl⟩:=rx;exact rule i t s _ _ ⟨.int (g i),H,I.tok _,⟨_,rfl⟩,q⟩
theorem awn:UnR X (unaryOp .USub) (rU fun i=>.int (-i)):=unI fun _ _ _ _ _ q=>neg_int q
end
section
variable{X:Cx}{a b c:Expr}{ta tb tc:TE}{pos:Pos}
theorem a0z:OpR X (compareOp .Lt) (rI0 fun i j=>.bl (decide (i < j))):=opB0 fun _ _ _ _ _ _ _ q=>lt_int q
theorem ase:OpR X (compareOp .LtE) (rI0 fun i j=>.bl (decide (i<=j))):=opB0 fun _ _ _ _ _ _ _ q=>le_int q
theorem a00:OpR X (compareOp .GtE) (rI0 fun i j=>.bl (decide (j<=i))):=opB0 fun _ _ _ _ _ _ _ q=>ge_int q
theorem j5(b:Expr){op:CmpOp}(h:op≠.In:=by decide)(h2:op≠.NotIn:=by decide):behindInMarks op b=false:=by
 have e1:(op==CmpOp.In)=false:=by cases op <;> first | rfl | exact absurd rfl h
 have e2:(op==CmpOp.NotIn)=false:=by cases op <;> first | rfl | exact absurd rfl h2
 cases b <;> simp[behindInMarks,e1,e2]
theorem au3{op:CmpOp}{r:R2}(ho:OpR X (compareOp op) r)(ha:PE X a ta)(hb:PE X b tb)(hm:behindInMarks op b=false):PE X (.Compare a [op] [b] pos) (tOp r ta tb):=by
 intro jv s σ H Q I h;exact wpAny_Compare1 (binT ha hb I h fun v u s2 x y H2 I2 rx ry q=>ho jv s2 σ H2 x y v u Q I2 rx ry q) hm
def a0f(t:TE):TT:=fun σ H Q=>t σ H fun x H'=>∃k,x=.bl k/\Q k H'
theorem ao4{op:CmpOp}{r:R2}(ho:OpR X (compareOp op) r)(ha:PE X a ta)(hb:PE X b tb)(hm:behindInMarks op b=false):PT X (.Compare a [op] [b] pos) (a0f (tOp r ta tb)):=by
 intro jv s σ H Q I h;refine wpAny_isTrue_Compare1 (thn (ha jv s σ H _ I h) fun v s1 ⟨x,H1,I1,r1,q1⟩=>thn (hb jv s1 σ H1 _ I1 q1) fun u s2 ⟨y,H2,I2,r2,q2⟩ =>
  thn (ho jv s2 σ H2 x y v u _ I2 r1 r2 q2) fun c s3 ⟨z,H3,I3,r3,k,e,q3⟩ =>?_) hm
 subst e;cases r3;exact wpAny_truthy_bool ⟨H3,I3,q3⟩
def atj(r r':R2)(ta tb tc:TE):TE:=fun σ H Q=>ta σ H fun x H1=>tb σ H1 fun y H2=>r x y H2 fun z H3=>∃k,z=.bl k /\
 (if k=true then tc σ H3 fun w' H4=>r' y w' H4 Q else Q (.bl false) H3)
theorem ar7{op op':CmpOp}{r r':R2}(ho:OpR X (compareOp op) r)(ho':OpR X (compareOp op') r')(ha:PE X a ta)(hb:PE X b tb)(hc:PE X c tc)
  (hm:lastMarks [op,op'] [b,c]=false:=by with_unfolding_all rfl):PE X (.Compare a [op,op'] [b,c] pos) (atj r r' ta tb tc):=by
 intro jv s σ H Q I h;refine Compare_chain (thn (ha jv s σ H _ I h) fun v s1 ⟨x,H1,I1,r1,q1⟩=>chain_link (thn (hb jv s1 σ H1 _ I1 q1) fun u s2 ⟨y,H2,I2,r2,q2⟩ =>
  thn (ho jv s2 σ H2 x y v u _ I2 r1 r2 q2) fun d s3 ⟨z,H3,I3,r3,k,e,q3⟩ =>?_)) hm
 subst e;cases r3;refine wpAny_truthy_bool ?_;cases k with
 | false=>exact ite_ff ⟨.bl false,H3,I3,rfl,q3⟩
 | true=>exact ite_tt (chain_last (thn (hc jv s3 σ H3 _ I3 q3) fun w' s4 ⟨z',H4,I4,r4,q4⟩=>ho' jv s4 σ H4 y z' u w' Q I4 r2 r4 q4))
theorem amd:(sizeLine:Nat) < 2 ^ 63:=by rw[sizeLine_eq];decide
theorem ano:OpR X (binaryOp .Add) (fun x y H Q=>∃i j,x=.str i/\y=.str j/\i.length+j.length<=sizeLine/\Q (.str (i++j)) H):=by
 intro jv s σ H x y v u Q I rx ry h;obtain⟨i,j,rfl,rfl,hz,q⟩:=h;obtain⟨t,rfl⟩:=rx;obtain⟨t',rfl⟩:=ry;exact add_str (fun t' tk=>⟨.str (i++j),H,I.tok _,⟨_,rfl⟩,q⟩) hz
theorem vals1{x:V}{us:List Value}(r:Vals [x] us):∃u,us=[u]/\RelV x u:=by
 cases r with
 | cons r1 r2=>cases r2;exact⟨_,rfl,r1⟩
theorem vals2{x y:V}{us:List Value}(r:Vals [x,y] us):∃u w',us=[u,w']/\RelV x u/\RelV y w':=by
 cases r with
 | cons r1 r2 =>
  cases r2 with
  | cons r3 r4=>cases r4;exact⟨_,_,rfl,r1,r3⟩
theorem aqv(hc:X.calm=true):ada X (.builtin "max") (fun xs H Q=>∃i j,xs=[.int i,.int j]/\Q (.int (if j > i then j else i)) H):=by
 intro jv s σ H xs us Q I r h;obtain⟨i,j,rfl,q⟩:=h;obtain⟨u,w',rfl,⟨t,rfl⟩,⟨t',rfl⟩⟩:=vals2 r;refine max_two_ints (I.ok.hd hc) fun h' tk k=>⟨_,H,I.kept k,?_,q⟩
 by_cases hj:j > i
 ·rw[if_pos hj,if_pos hj];exact⟨_,rfl⟩
 ·rw[if_neg hj,if_neg hj];exact⟨_,rfl⟩
theorem aju:ada X (.type "int") (fun xs H Q=>(∃i,xs=[.int i]/\Q (.int i) H)∨∃k,xs=[.bl k]/\Q (.int (if k then 1 else 0)) H):=by
 intro jv s σ H xs us Q I r h;rcases h with⟨i,rfl,q⟩ | ⟨k,rfl,q⟩
 ·obtain⟨u,rfl,t,rfl⟩:=vals1 r;exact call_int_int ⟨.int i,H,I,⟨_,rfl⟩,q⟩
 ·obtain⟨u,rfl,r1⟩:=vals1 r;cases r1;exact call_int_bool ⟨.int (if k then 1 else 0),H,I.tok _,⟨_,rfl⟩,q⟩
end
structure ObjM (h:Heap) (x dx C:Addr) (mA:Str->Option Value):Prop where
 obj:h.get? x=some (PySem.W.instObj C dx)
 ns:h.Ns1 dx mA
 ne:dx≠x
theorem apl{h:Heap}{dx:Addr}{mA:Str->Option Value}(n:h.Ns1 dx mA):∃od,h.get? dx=some od/\∀name,PySem.W.lookIn name od=some (mA name):=by
 obtain⟨o,es,ep,ho,hd,hk,_,hm⟩:=n;refine⟨o,ho,fun name =>?_⟩
 have e:=hm name;unfold nsFind findBy at e;rw[<-Array.find?_toList] at e;unfold PySem.W.lookIn;rw[hd];dsimp only;split
 ·rename_i y q;rw[q] at e;exact congrArg some e
 ·rename_i q;rw[q] at e;have a:es.toList.any (·.refKey)=false:=by
   rw[List.any_eq_false];intro y hy;obtain⟨z,t,hkey⟩:=hk y (Array.mem_toList_iff.mp hy);simp[DictEntry.refKey,hkey]
  have a':¬es.toList.any (·.refKey)=true:=by rw[a];exact Bool.false_ne_true
  rw[if_neg a'];exact congrArg some e
theorem ObjM.look{h:Heap}{x dx C:Addr}{mA:Str->Option Value}(I:ObjM h x dx C mA):∃od,PySem.W.InstAt h x (PySem.W.instObj C dx) C (some od)/\∀name,PySem.W.lookIn name od=some (mA name) :=
 let ⟨od,ho,hl⟩:=apl I.ns
 ⟨od,⟨I.obj,rfl,rfl,ho⟩,hl⟩
section
variable{prog:Program}{w:World}{A:Around}{E:Value->Shared->Prop}{s:Shared}{K:Fg9}{x dx C f:Addr}{mA:Str->Option Value}{name:Str}{v:Value}
end
section
variable{P:Program}{w:World}{H H':Hp}{h h':Heap}{a C dx:Addr}{fs fs':List (Str×V)}
theorem avv(hok:HOk P w H h)(e:H a=some (.ins C dx fs)):∃mA,ObjM h a dx C mA/\(∀f,RelO (fs.lookup f) (mA f))/\PySem.Within mA (fs.map (·.1))/\fs.length<=1000/\H dx=some (.own a):=by
 obtain⟨d,z,ne,ob,mA,n,r,q⟩:=(show ux P w H h a (.ins C dx fs) from hok a _ e)
 exact⟨mA,⟨ob,n,ne⟩,r,q,z,d⟩
end
structure Cls (K:Fg9) (C:Addr):Prop where
 pg:PySem.W.plainGet K C Str.empty=true
 hd:PySem.W.hasDictIn K C=true
 po:PySem.W.plainOver K C=true
 sa:findIn K (.ref C) "__setattr__" = some (some (.builtin "object.__setattr__"))
theorem Cls.get{K:Fg9}{C:Addr}(c:Cls K C)(f:Str):PySem.W.plainGet K C f=true:=c.pg
structure Con (K:Fg9) (C:Addr) (f:Str) (v:V) (u:Value):Prop where
 at_:findIn K (.ref C) f=some (some u)
 rel:RelV v u
 get:PySem.W.specialIn K u "__get__" = some none
 cp:PySem.W.copiedNames.contains f=false
structure Meth (K:Fg9) (C:Addr) (m:Str) (f:Addr):Prop where
 at_:findIn K (.ref C) m=some (some (.ref f))
 fn:PySem.W.isFn K (.ref f)=true
 kp:keepIn K (.ref f)=true
section
variable{X:Cx}{jv:List (Addr×Obj)}{σ:St}{H:Hp}{s:Shared}{a C dx:Addr}{fs:List (Str×V)}{f:Str}{v:V}{A:Around}{E:Value->Shared->Prop}
theorem Inv.made(I:Inv X jv σ H s):Inv X jv σ (upd (upd H s.heap.objs.size (.own (s.heap.objs.size+1))) (s.heap.objs.size+1) (.ins C s.heap.objs.size []))
  { s with heap:=(s.heap.push PySem.W.emptyDict).push (PySem.W.instObj C s.heap.objs.size) }:=by
 have e1:(s.heap.push PySem.W.emptyDict).get? s.heap.objs.size=some PySem.W.emptyDict:=Heap.get?_push_size s.heap rfl;have e2:((s.heap.push PySem.W.emptyDict).push (PySem.W.instObj C s.heap.objs.size)).get? (s.heap.objs.size+1)=some (PySem.W.instObj C s.heap.objs.size):=by
  have:=Heap.get?_push_size (s.heap.push PySem.W.emptyDict) (o:=PySem.W.instObj C s.heap.objs.size) rfl;rwa[Heap.size_push] at this
 have e3:(s.heap.push PySem.W.emptyDict).Ns s.heap.objs.size (fun _=>none):=⟨PySem.W.emptyDict,#[],_,e1,rfl,(fun e he=>absurd he (by simp)),fun _=>rfl⟩
 have I1:=I.laid (a:=s.heap.objs.size) (o:=.own (s.heap.objs.size+1)) (h':=s.heap.push PySem.W.emptyDict) (t':=s.toks) (fun b u q=>Heap.get?_push_of_some _ q) (Nat.le_refl _) ⟨_,e1⟩
 refine I1.laid (a:=s.heap.objs.size+1) (o:=.ins C s.heap.objs.size []) (t':=s.toks) (fun b u q=>Heap.get?_push_of_some _ q) (Nat.le_of_eq (Heap.size_push _ _)) ?_
 have ne:s.heap.objs.size≠s.heap.objs.size+1:=Nat.ne_of_lt (Nat.lt_succ_self _);refine⟨by rw[bj ne,fj],Nat.zero_le _,ne,e2,fun _=>none,(Heap.Ns1.of_empty e3).at fun o q=>Heap.get?_push_of_some _ q,fun _=>True.intro,fun y hy=>absurd rfl hy⟩
end
section
variable{X:Cx}{o e value:Expr}{f:Str}{pos pos' tpos:Pos}{ta tv:TE}
end
section
variable{X:Cx}{jv:List (Addr×Obj)}{σ:St}{H:Hp}{s:Shared}{A:Around}{E:Value->Shared->Prop}{Q:Value->Shared->Prop}{c:Value}{b:Bool}
inductive TyOf (K:Fg9) (H:Hp):V->Value->Prop where
 | non:TyOf K H .non (.type "NoneType")
 | bl (x:Bool):TyOf K H (.bl x) (.type "bool")
 | int (i:Int):TyOf K H (.int i) (.type "int")
 | str (x:Str):TyOf K H (.str x) (.type "str")
 | flt (x:UInt64):TyOf K H (.flt x) (.type "float")
 | lst {a:Addr} {xs:List V} (e:H a=some (.lst xs)):TyOf K H (.ref a) (.type "list")
 | frz {a:Addr} {o:Obj} {xs:List V} (e:H a=some (.frz o (.lst xs))):TyOf K H (.ref a) (.type "list")
 | tup {a:Addr} {xs:List V} (e:H a=some (.tup xs)):TyOf K H (.ref a) (.type "tuple")
 | dK {a:Addr} {kvs:List (Key×V)} (e:H a=some (.dK kvs)):TyOf K H (.ref a) (.type "dict")
 | dT {a:Addr} {kvs:List (List Key×V)} (e:H a=some (.dT kvs)):TyOf K H (.ref a) (.type "dict")
 | ins {a C dx:Addr} {fs:List (Str×V)} (e:H a=some (.ins C dx fs)) (cl:Cls K C) (ha:findIn K (.ref C) "__class__" = some (some (.builtin "object.__class__")))
   (hn:PySem.W.specialIn K (.builtin "object.__class__") "__get__" = some (some (.builtin "getset_descriptor.__get__"))) (htk:PySem.W.takesIn K (.builtin "object.__class__")=some true)
   (hm:PySem.W.mroIn K C (.type "object")=some true):TyOf K H (.ref a) (.ref C)
theorem apu{x:V}{u t:Value}(I:Inv X jv σ H s)(rx:RelV x u)(ty:TyOf X.K H x t)(e:PySem.W.kitOne X.K t c=some b)(h:∀tk,Q (.bool b) { s with toks:=tk }) :
  wpAny (model X.prog X.w) A (call (.builtin "isinstance") [u,c]) Q E s:=by
 cases ty with
 | non=>cases(show u=Value.none from rx);exact PySem.W.kia_one PySem.W.kitx_none I.kIn True.intro e (fun z=>nomatch z) h
 | bl y=>cases(show u=Value.bool y from rx);exact PySem.W.kia_one PySem.W.kitx_bool I.kIn True.intro e (fun z=>nomatch z) h
 | int i=>obtain⟨t,q⟩:=(show ∃t,u=Value.int i t from rx);cases q;exact PySem.W.kia_one PySem.W.kitx_int I.kIn True.intro e (fun z=>nomatch z) h
 | str y=>obtain⟨t,q⟩:=(show ∃t,u=Value.str y t from rx);cases q;exact PySem.W.kia_one PySem.W.kitx_str I.kIn True.intro e (fun z=>nomatch z) h
 | flt y=>obtain⟨t,q⟩:=(show ∃t,u=Value.float y t from rx);cases q;exact PySem.W.kia_one PySem.W.kitx_float I.kIn True.intro e (fun z=>nomatch z) h
 | @lst a xs ea =>
  cases(show u=Value.ref a from rx)
  obtain⟨_,_,n,_,h1⟩:=(show ux X.prog X.w H s.heap a (.lst xs) from I.hok a _ ea)
  exact PySem.W.kia_one PySem.W.kitx_list I.kIn ⟨_,h1,rfl⟩ e (fun z=>nomatch z) h
 | @frz a ob xs ea =>
  cases(show u=Value.ref a from rx)
  obtain⟨_,_,_,n,_,h1⟩:=(show ux X.prog X.w H s.heap a (.frz ob (.lst xs)) from I.hok a _ ea)
  exact PySem.W.kia_one PySem.W.kitx_list I.kIn ⟨_,h1,rfl⟩ e (fun z=>nomatch z) h
 | @tup a xs ea =>
  cases(show u=Value.ref a from rx)
  obtain⟨_,_,_,p⟩:=(show ux X.prog X.w H s.heap a (.tup xs) from I.hok a _ ea)
  obtain⟨o,h1,h2,_⟩:=p;exact PySem.W.kia_one PySem.W.kitx_tuple I.kIn ⟨o,h1,h2⟩ e (fun z=>nomatch z) h
 | @dK a kvs ea =>
  cases(show u=Value.ref a from rx)
  obtain⟨_,_,vs,_,p⟩:=(show ux X.prog X.w H s.heap a (.dK kvs) from I.hok a _ ea)
  obtain⟨o,es,ep,h1,h2,_⟩:=p;exact PySem.W.kia_one PySem.W.kitx_dict I.kIn ⟨o,h1,h2.1⟩ e (fun z=>nomatch z) h
 | @dT a kvs ea =>
  cases(show u=Value.ref a from rx)
  obtain⟨_,_,xs,_,o,es,ep,h1,h2,_⟩:=(show ux X.prog X.w H s.heap a (.dT kvs) from I.hok a _ ea)
  exact PySem.W.kia_one PySem.W.kitx_dict I.kIn ⟨o,h1,h2.1⟩ e (fun z=>nomatch z) h
 | @ins a C dx fs ea cl ha hn htk hm =>
  cases(show u=Value.ref a from rx)
  obtain⟨mA,O,_⟩:=avv I.hok ea;obtain⟨od,J,_⟩:=O.look;exact PySem.W.kia_one (PySem.W.kitx_own (cl.get _) cl.hd ha hn htk hm) I.kIn J e (fun z=>nomatch z) h
end
structure Room (k:Nat) (A:Around):Prop where
 hd:A.handled=none
 dp:A.depth+3*k+5 < recursionLimit
 un:A.units+16*k+200 < cLine
 gd:A.guards=some []
theorem Room.mono{j k:Nat}{A:Around}(r:Room k A)(h:j<=k):Room j A:=⟨r.hd,by have:=r.dp;omega,by have:=r.un;omega,r.gd⟩
theorem Room.deeper{k:Nat}{A:Around}(r:Room (k+1) A)(env:Env):Room k (A.deeper env) :=
 ⟨r.hd,by have:=r.dp;show A.depth+1+3*k+5 < _;omega,by have:=r.un;show A.units+3+16*k+200 < _;omega,r.gd⟩
theorem Room.depth{k:Nat}{A:Around}(r:Room k A):A.depth < recursionLimit:=by have:=r.dp;omega
theorem Room.units{k:Nat}{A:Around}(r:Room k A):A.units+64 < cLine:=by have:=r.un;omega
def tNil:TA:=fun _ H Q=>Q [] H
def a0k(ta:TE)(tr:TA):TA:=fun σ H Q=>ta σ H fun x H1=>tr σ H1 fun xs H2=>Q (x::xs) H2
section
variable{X:Cx}{e:Expr}{es:List Expr}{te:TE}{t:TA}{pos:Pos}
theorem ain:PA X [] tNil:=fun _ _ _ _ H Q I h=>Calls.spliced_nil ⟨[],H,I,.nil,h⟩
theorem aan(ha:PE X e te)(hr:PA X es t)(hs:starEach (e::es) X.env=(false,eval e X.env)::starEach es X.env:=by rfl):PA X (e::es) (a0k te t):=by
 intro pos jv s σ H Q I h;rw[hs];show wpAny _ _ (spliced ((false,eval e X.env)::backTo pos (starEach es X.env))) _ _ s;refine Calls.spliced_cons (thn (ha jv s σ H _ I h) fun u s1 ⟨x,H1,I1,r1,q1⟩ =>?_)
 exact thn (hr pos jv s1 σ H1 _ I1 q1) fun us s2 ⟨xs,H2,I2,r2,q2⟩=>⟨x::xs,H2,I2,.cons r1 r2,q2⟩
def tTup(t:TA):TE:=fun σ H Q=>t σ H fun xs H1=>xs.length<=sizeLine/\∀p,H1 p=none->Q (.ref p) (upd H1 p (.tup xs))
def tLst(t:TA):TE:=fun σ H Q=>t σ H fun xs H1=>xs.length<=sizeLine/\∀p,H1 p=none->Q (.ref p) (upd H1 p (.lst xs))
theorem axj{x1}(h:PA X es t):PE X (.Tuple es x1 pos) (tTup t):=by
 intro jv s σ H Q I hq;refine wpAny_Tuple_spliced (thn (h pos jv s σ H _ I hq) fun us s1 ⟨xs,H1,I1,r,z,q⟩=>⟨by rw[<-r.length];exact z,?_⟩)
 have hf:H1 s1.heap.objs.size=none:=I1.hok.fresh (Nat.le_refl _);refine⟨.ref s1.heap.objs.size,upd H1 s1.heap.objs.size (.tup xs),I1.laid (t':=s1.toks) (fun b u e=>Heap.get?_push_of_some _ e) (Nat.le_refl _) ?_,rfl,q _ hf⟩
 exact⟨z,us,r,⟨_,Heap.get?_push_size _ rfl,rfl,rfl,_,rfl⟩⟩
theorem axo(h:PA X es t):PE X (.List es pos) (tLst t):=by
 intro jv s σ H Q I hq;refine wpAny_List_spliced (thn (h pos jv s σ H _ I hq) fun us s1 ⟨xs,H1,I1,r,z,q⟩=>⟨by rw[<-r.length];exact z,?_⟩)
 have hf:H1 s1.heap.objs.size=none:=I1.hok.fresh (Nat.le_refl _);refine⟨.ref s1.heap.objs.size,upd H1 s1.heap.objs.size (.lst xs),I1.laid (t':=s1.toks) (fun b u e=>Heap.get?_push_of_some _ e) (Nat.le_refl _) ?_,rfl,q _ hf⟩
 exact⟨z,us,0,r,Heap.get?_push_size _ rfl⟩
end
abbrev Sp:=List V->Hp->VK->XK->Prop
abbrev CXT:=List Env->Hp->Shared->XK->Value->Shared->Prop
structure Env0 (P:Program) (w:World) (K:Fg9) (mg:Str->Option Value) (base:Heap) (A:Around) (outer:List Env) (s:Shared) (H:Hp):Prop where
 frames:A.frames=some outer
 mod:Mod K mg base
 bs:∀b o,base.get? b=some o->s.heap.get? b=some o/\H b=none
 bsz:base.objs.size<=s.heap.objs.size
 funs:s.heap.FunFrames base outer
 frf:∀b∈frs outer,H b=none
 hok:HOk P w H s.heap
 bare:AllBare s.gens
def CE(outer:List Env)(P:Program)(w:World)(H:Hp)(s:Shared)(Q:VK)(u:Value)(s':Shared):Prop :=
 ∃v H',s'.os=s.os/\AllBare s'.gens/\Un (frs outer) [] H H' s.heap s'.heap/\HOk P w H' s'.heap/\RelV v u/\Q v H'
def CR(CX:CXT)(outer:List Env)(P:Program)(w:World)(H:Hp)(s:Shared)(Q:VK)(E:XK)(r:Result)(s':Shared):Prop :=
 match r with
 | .ok (.ret u)=>CE outer P w H s Q u s'
 | .ok _=>False
 | .error e=>CX outer H s E e s'
structure FnOk (P:Program) (w:World) (K:Fg9) (mg:Str->Option Value) (base:Heap) (CX:CXT) (k:Nat) (f:Addr) (fd:FuncData) (ps:List Str) (sp:Sp):Prop where
 len:∀vs H Q E,sp vs H Q E->vs.length=ps.length
 run:∀(A:Around) (outer:List Env) (s:Shared) (H:Hp) (args:Args) (us:List Value) (vs:List V) (Q:VK) (E:XK),Room k A->Env0 P w K mg base A outer s H->BindsTo s fd args (ps.zip us)->Vals vs us->sp vs H Q E ->
  codeAny (model P w) A (.call (.ref f) args) (CR CX outer P w H s Q E) s
section
variable{X:Cx}{jv:List (Addr×Obj)}{σ:St}{H:Hp}{s s':Shared}
theorem Inv.env0(I:Inv X jv σ H s):Env0 X.prog X.w X.K X.mg X.base X.A X.stack s H :=
 ⟨I.ok.frames,I.ok.mod,I.bs,Nat.le_trans I.ok.bsz I.sz,I.stack,I.stkFree,I.hok,I.bare⟩
theorem Inv.after{Q:VK}{u:Value}(I:Inv X jv σ H s)(h:CE X.stack X.prog X.w H s Q u s'):EP X jv σ Q u s':=by
 obtain⟨v,H',os,bare,un,hok,r,q⟩:=h;obtain⟨hh,g,d,t,os'⟩:=s';obtain rfl:os'=s.os:=os;exact⟨v,H',I.call (h':=hh) (g':=g) (d':=d) (t':=t) (ch:=[]) un hok bare (fun b z=>absurd z (by simp)),r,q⟩
end
def awt(sp:Sp)(dvs:List V)(E:XK)(t:TA):TE:=fun σ H Q=>t σ H fun vs H1=>sp (vs++dvs) H1 Q E
def Binds(K:Fg9)(fd:FuncData)(ps:List Str)(ds:List Value):Prop :=
 ∀(s:Shared) (us:List Value),K.In s.heap->(us++ds).length=ps.length->BindsTo s fd ⟨us,[]⟩ (ps.zip (us++ds))
theorem Binds.all{K:Fg9}{fd:FuncData}{ps:List Str}(h:∀us:List Value,us.length=ps.length->bindArgs fd ⟨us,[]⟩=pure (ps.zip us)):Binds K fd ps []:=fun s us _ hl=>by
 rw[List.append_nil] at hl ⊢
 exact .of_eq (h us hl)
def ara(CX:CXT)(X:Cx)(E:XK):Prop:=∀(jv:List (Addr×Obj)) (σ:St) (H:Hp) (s:Shared) (e:Value) (s':Shared),Inv X jv σ H s->CX X.stack H s E e s'->X.xe e s'
section
variable{X:Cx}{CX:CXT}{k:Nat}{f C:Addr}{fd:FuncData}{ps:List Str}{sp:Sp}{dvs:List V}{ds:List Value}{E:XK}{x m:Str}{p pos apos:Pos}{e o:Expr}{es:List Expr}{ta:TE}{t:TA}
theorem aw1{jv:List (Addr×Obj)}{σ:St}{H:Hp}{s:Shared}{Q:VK}{us:List Value}{vs:List V}(F:FnOk X.prog X.w X.K X.mg X.base CX k f fd ps sp)(hr:Room k X.A)(hb:Binds X.K fd ps ds)(hd:Vals dvs ds)(hx:ara CX X E)
  (I:Inv X jv σ H s) (r:Vals vs us) (h:sp (vs++dvs) H Q E):wpAny (model X.prog X.w) X.A (call (.ref f) us) (EP X jv σ Q) X.xe s:=by
 have r2:Vals (vs++dvs) (us++ds):=r.append hd;have hl:(us++ds).length=ps.length:=by rw[<-r2.length];exact F.len _ _ _ _ h
 refine wpAny_call (codeAny_mono (F.run X.A X.stack s H ⟨us,[]⟩ (us++ds) (vs++dvs) Q E hr I.env0 (hb s us I.kIn hl) r2 h) fun r s' hq =>?_)
 cases r with
 | error e=>exact hx jv σ H s e s' I hq
 | ok fl =>
  cases fl with
  | ret u=>exact I.after hq
  | next=>exact False.elim hq
  | brk=>exact False.elim hq
  | cont=>exact False.elim hq
theorem au4(F:FnOk X.prog X.w X.K X.mg X.base CX k f fd ps sp)(hr:Room k X.A)(hg:Gl X x)(hm:X.mg x=some (.ref f))(hk:keepIn X.K (.ref f)=true)(hb:Binds X.K fd ps ds)(hd:Vals dvs ds)(hx:ara CX X E)
  (ha:PA X (e::es) t) (hdb:(x==("__debug__" : Str))=false:=by decide) (he:starEach (e::es) X.env=(false,eval e X.env)::starEach es X.env:=by rfl) (hpl:(backTo pos (starEach es X.env)).any (·.1)=false:=by rfl) :
  PE X (.Call (.Name x p) (e::es) [] pos) (awt sp dvs E t):=by
 intro jv s σ H Q I h;refine wpAny_Call_Name_kw (avn I hg hm ?_ hdb);refine PySem.W.callWith_K (h₀:=X.base) I.ok.mod.kin hk (thn (ha pos jv s σ H _ I h) fun us s1 ⟨vs,H1,I1,r,q⟩=>⟨I1.kIn,?_⟩) he hpl
 exact aw1 F hr hb hd hx I1 r q
structure Mk (K:Fg9) (C f:Addr):Prop where
 makes:PySem.W.makesIn K C=true
 init:findIn K (.ref C) "__init__" = some (some (.ref f))
 fn:PySem.W.isFn K (.ref f)=true
 kp:keepIn K (.ref C)=true
end
section
variable{X:Cx}{CX:CXT}{k:Nat}{f C:Addr}{fd:FuncData}{ps ks:List Str}{sp:Sp}{E:XK}{x m:Str}{p pos apos kpos:Pos}{e o:Expr}{es:List Expr}{kws:List Keyword}{te ta:TE}{t tk:TA}{nm:Option Str}
structure KBinds (K:Fg9) (fd:FuncData) (ps ks:List Str) (g:List Value->List Value->List Value) (gV:List V->List V->List V):Prop where
 to:∀(s:Shared) (us ws:List Value),K.In s.heap->(g us ws).length=ps.length->BindsTo s fd ⟨us,ks.zip ws⟩ (ps.zip (g us ws))
 rel:∀{vs:List V} {us:List Value} {zs:List V} {ws:List Value},Vals vs us->Vals zs ws->Vals (gV vs zs) (g us ws)
variable{g:List Value->List Value->List Value}{gV:List V->List V->List V}
end
structure FnScope (N P:List Str) (sc:Scope):Prop where
 kind:sc.kind=.function
 co:sc.isCoroutine=false
 gen:sc.isGenerator=false
 nd:N.Nodup
 pre:N.take P.length=P
 par:∀x∈P,sc.names.lookup x=some .local∨sc.names.lookup x=some .cell
 nofree:∀y∈sc.names,y.2≠.free
theorem ajx{kindOf:Str->Option NameKind}{x:Str}:∀{binds:List (Str×Value)} {m:Str->Option Value},(∀v,(x,v)∉binds)->bindL kindOf binds m x=m x
 | [],_,_=>rfl
 | (n,v)::r,m,h=>by
  unfold bindL;rw[ajx fun w hw=>h w (List.mem_cons_of_mem _ hw)]
  split
  ·have:x≠n:=by rintro rfl;exact h v List.mem_cons_self
   simp[this]
  ·rfl
theorem ajz{kindOf:Str->Option NameKind}{x:Str}:∀{binds:List (Str×Value)} {m:Str->Option Value},(∀v,(x,v)∉binds)->bindC kindOf binds m x=m x
 | [],_,_=>rfl
 | (n,v)::r,m,h=>by
  unfold bindC;rw[ajz fun w hw=>h w (List.mem_cons_of_mem _ hw)]
  split
  ·rfl
  ·have:x≠n:=by rintro rfl;exact h v List.mem_cons_self
   simp[this]
theorem ajy{kindOf:Str->Option NameKind}{x:Str}{v:Value}:∀{P:List Str} {vs:List Value} {i:Nat} {m:Str->Option Value},P.Nodup->P[i]? = some x->vs[i]? = some v->kindOf x=some .local ->
  bindL kindOf (P.zip vs) m x=some v
 | [],_,_,_,_,h,_,_=>by simp at h
 | _::_,[],_,_,_,_,h,_=>by simp at h
 | p::P,w::vs,0,m,nd,h1,h2,hk=>by
  simp at h1 h2;subst h1;subst h2;show bindL kindOf ((p,w)::P.zip vs) m p=_;unfold bindL;rw[ajx fun v hv=>(List.nodup_cons.mp nd).1 (List.of_mem_zip hv).1,if_pos hk]
  simp
 | p::P,w::vs,i+1,m,nd,h1,h2,hk=>by
  show bindL kindOf ((p,w)::P.zip vs) m x=_;unfold bindL;exact ajy (i:=i) (List.nodup_cons.mp nd).2 (by simpa using h1) (by simpa using h2) hk
theorem aj0{kindOf:Str->Option NameKind}{x:Str}{v:Value}:∀{P:List Str} {vs:List Value} {i:Nat} {m:Str->Option Value},P.Nodup->P[i]? = some x->vs[i]? = some v->kindOf x≠some .local ->
  bindC kindOf (P.zip vs) m x=some v
 | [],_,_,_,_,h,_,_=>by simp at h
 | _::_,[],_,_,_,_,h,_=>by simp at h
 | p::P,w::vs,0,m,nd,h1,h2,hk=>by
  simp at h1 h2;subst h1;subst h2;show bindC kindOf ((p,w)::P.zip vs) m p=_;unfold bindC;rw[ajz fun v hv=>(List.nodup_cons.mp nd).1 (List.of_mem_zip hv).1,if_neg hk]
  simp
 | p::P,w::vs,i+1,m,nd,h1,h2,hk=>by
  show bindC kindOf ((p,w)::P.zip vs) m x=_;unfold bindC;exact aj0 (i:=i) (List.nodup_cons.mp nd).2 (by simpa using h1) (by simpa using h2) hk
def start(N:List Str)(vs:List V):St:=vs.map some++List.replicate (N.length - vs.length) none
def cxOf(CX:CXT)(P:Program)(w:World)(K:Fg9)(mg:Str->Option Value)(base:Heap)(N:List Str)(qual:Str)(scope:Scope)(f:Addr)(cd:Value)(A:Around)(outer:List Env)(s:Shared)(H:Hp)(E:XK):Cx where
 prog:=P
 w:=w
 K:=K
 mg:=mg
 base:=base
 A:=A.deeper (envOfC qual scope s.heap.objs.size f cd)
 N:=N
 s₀:=s
 H₀:=H
 env:=envOfC qual scope s.heap.objs.size f cd
 outer:=outer
 stack:=envOfC qual scope s.heap.objs.size f cd::outer
 ex:=[]
 calm:=true
 fn:=fun _=>true
 pn:=[]
 xe:=fun e s'=>wpAny (model P w) (A.deeper (envOfC qual scope s.heap.objs.size f cd)) (leaving (envOfC qual scope s.heap.objs.size f cd) e) (fun _ s''=>CX outer H s E e s'') (fun e' s''=>CX outer H s E e' s'') s'
theorem amy{sc:Scope}{n:Nat}{x:Str}(h:sc.names.lookup x=some .cell):∃c,(cellsFrom n sc.names []).lookup x=some c:=by
 have q:=PySem.W.cellsFrom_some sc.names n [] (.inl h);exact Option.isSome_iff_exists.mp q
theorem apv{CX:CXT}{P:Program}{w:World}{K:Fg9}{mg:Str->Option Value}{base:Heap}{N ps:List Str}{qual:Str}{scope:Scope}{f:Addr}{cd:Value}{A:Around}{outer:List Env}{s s1:Shared}{H:Hp}{E:XK}{us:List Value}{vs:List V}
  (S:FnScope N ps scope) (hd:A.handled=none) (e0:Env0 P w K mg base A outer s H) (hl:vs.length=ps.length) (r:Vals vs us)
  (x:InCallC s s.heap.objs.size (bindL (envOfC qual scope s.heap.objs.size f cd).kindOf (ps.zip us) fun _=>none) (cellsFrom (s.heap.objs.size+1) scope.names []) (bindC (envOfC qual scope s.heap.objs.size f cd).kindOf (ps.zip us) fun _=>none) s1) :
  Inv (cxOf CX P w K mg base N qual scope f cd A outer s H E) [] (start N vs) H s1:=by
 have hpl:ps.length<=N.length:=by have:=congrArg List.length S.pre;rw[List.length_take] at this;omega
 obtain⟨h1,tk,rfl,hk⟩:=x.done;have noA:∀b:Addr,b∉(cxOf CX P w K mg base N qual scope f cd A outer s H E).ex:=fun b z=>absurd (show b∈([]:List Addr) from z) (by simp)
 refine⟨⟨e0.mod,S.kind,rfl,rfl,Nat.le_refl _,fun y z c h1 h2 =>?_,fun y hy =>?_,fun y c _ h =>?_,fun _=>hd,Around.frames_deeper e0.frames,.inr ⟨rfl,rfl⟩,fun b z=>absurd z (noA b),e0.bs,e0.bsz,fun b _ _=>noA b,fun b z=>absurd z (noA b),e0.funs,e0.frf⟩,
  rfl,e0.bare,Un.kept hk,⟨_,x.toInCall.ns,fun i y v h1 h2 h3 =>?_⟩,fun y c h=>⟨_,x.cell y c h⟩,e0.hok.fresh (Nat.le_refl _),fun y c h =>?_,fun p hp=>absurd (show p∈([]:List (Addr×Obj)) from hp) (by simp),e0.hok.kept hk,?_⟩
 ·exact name_of_addr x.apart (PySem.mem_of_lookup h1) (PySem.mem_of_lookup h2)
 ·have hy:scope.names.lookup y=some .cell∨scope.names.lookup y=some .free:=hy;rcases hy with hy | hy
  ·exact amy hy
  ·exact absurd rfl (S.nofree _ (PySem.mem_of_lookup hy))
 ·exact Nat.le_of_lt (x.above y c (PySem.mem_of_lookup h))
 ·have hi:i < vs.length:=by
   unfold start at h2
   by_cases hi:i < vs.length
   ·exact hi
   ·rw[List.getElem?_append_right (by simpa using hi)] at h2
    rw[List.getElem?_replicate] at h2;split at h2 <;> cases h2
  have ha:vs[i]? = some v:=by
   unfold start at h2;rw[List.getElem?_append_left (by simpa using hi),List.getElem?_map] at h2
   cases e:vs[i]? with
   | none=>rw[e] at h2;cases h2
   | some a=>rw[e] at h2;cases h2;rfl
  obtain⟨u,hu,rv⟩:=r.get ha;have hp:ps[i]? = some y:=by
   rw[<-S.pre,List.getElem?_take_of_lt (by omega)];exact h1
  have ndP:ps.Nodup:=by rw[<-S.pre];exact S.nd.sublist (List.take_sublist _ _)
  refine⟨u,rv,?_⟩;rcases S.par y (List.mem_of_getElem? hp) with k | k
  ·exact .inl ⟨k,ajy ndP hp hu k⟩
  ·obtain⟨c,e⟩:=amy (n:=s.heap.objs.size+1) k;refine .inr ⟨.inl k,c,e,?_⟩;have q:=x.cell y c e;rw[aj0 ndP hp hu (by show scope.names.lookup y≠_;rw[k];decide)] at q
   exact q
 ·exact e0.hok.fresh (Nat.le_of_lt (x.above y c (PySem.mem_of_lookup h)))
 ·unfold start;show _=N.length;rw[List.length_append,List.length_map,List.length_replicate];omega
theorem a1t{CX:CXT}{P:Program}{w:World}{K:Fg9}{mg:Str->Option Value}{base:Heap}{k:Nat}{f:Addr}{name qual:Str}{params:Arguments}{body:List Stmt}{scope:Scope}{dV kV doc pm cdv ct oc:Value}{an od:Option Addr}
  {osl:Array (Option Value)} {N ps:List Str} {sp:Sp} (lk:K.lookup f=some ⟨oc,od,.func (fnOf name qual params body scope dV kV doc pm an cdv ct),osl⟩) (hcd:codeIn K cdv qual=true) (S:FnScope N ps scope)
  (len:∀vs H Q E,sp vs H Q E->vs.length=ps.length)
  (hbody:∀(A:Around) (outer:List Env) (s:Shared) (H:Hp) (vs:List V) (Q:VK) (E:XK),Room k (A.deeper (envOfC qual scope s.heap.objs.size f cdv))->sp vs H Q E ->
   ∃t,PSs (cxOf CX P w K mg base N qual scope f cdv A outer s H E) body t/\t { nx:=fun _ H'=>Q .non H',rt:=Q } (start N vs) H) :
  FnOk P w K mg base CX (k+1) f (fnOf name qual params body scope dV kV doc pm an cdv ct) ps sp:=by
 refine⟨len,fun A outer s H args us vs Q E hr e0 hb r hsp =>?_⟩
 have hl:=len _ _ _ _ hsp;have KX:K.In s.heap:=e0.mod.kin.keeps fun b o e=>(e0.bs b o e).1
 have lim:s.heap.NoLimit:=e0.mod.nolimit.keeps fun b o e=>(e0.bs b o e).1
 have hkind:∀y∈ps.zip us,scope.names.lookup y.1=some .local∨(scope.names.lookup y.1=some .cell/\((cellsFrom (s.heap.objs.size+1) scope.names []).lookup y.1).isSome=true):=fun⟨n,v⟩ hy=>by
  rcases S.par n (List.of_mem_zip hy).1 with q | q
  ·exact .inl q
  ·exact .inr ⟨q,PySem.W.cellsFrom_some _ _ _ (.inl q)⟩
 refine codeAny_call_function hr.depth (KX _ _ lk) rfl S.co S.gen rfl (PySem.W.codeRec_of KX hcd) (hb _ _ _ _ ?_);refine wpAny_newFunctionEnv_cells S.kind hkind fun env he s1 x =>?_
 subst he;refine⟨lim.keeps x.toInCall.keep,codeAny_func ?_⟩;obtain⟨t,ht,hq⟩:=hbody A outer s H vs Q E (hr.deeper _) hsp;have I:Inv (cxOf CX P w K mg base N qual scope f cdv A outer s H E) [] (start N vs) H s1:=apv S hr.hd e0 hl r x;refine wpAny_mono (ht [] s1 (start N vs) H _ I hq) (fun fl s' hs =>?_) fun e s' hs=>hs
 have fin:∀{σ':St} {H':Hp} {v:V} {u:Value},Inv (cxOf CX P w K mg base N qual scope f cdv A outer s H E) [] σ' H' s'->RelV v u->Q v H'->CE outer P w H s Q u s' :=
  fun{σ' H' v u} J rv q=>⟨v,H',J.os,J.bare,J.base,J.hok,rv,q⟩
 cases fl with
 | ret u =>
  obtain⟨v,σ',H',J,rv,q⟩:=hs;exact fin J rv q
 | next =>
  obtain⟨σ',H',J,q⟩:=hs;exact fin (v:=V.non) (u:=Value.none) J rfl q
 | brk =>
  obtain⟨_,_,_,q⟩:=hs;exact False.elim q
 | cont =>
  obtain⟨_,_,_,q⟩:=hs;exact False.elim q
section
variable{X:Cx}{x:Str}{p pos:Pos}{e:Expr}{es:List Expr}{t:TA}{id T:String}{r:List V->Hp->VK->Prop}
def tCB(r:List V->Hp->VK->Prop)(t:TA):TE:=fun σ H Q=>t σ H fun vs H1=>r vs H1 Q
theorem ag9(hc:ada X (.builtin id) r)(hg:Gl X x)(hm:X.mg x=none)(hv:bootBuiltins x=some (.builtin id))(ha:PA X (e::es) t)(hn:x ≠ "__name__" := by decide)(hdb:(x==("__debug__" : Str))=false:=by decide)
  (he:starEach (e::es) X.env=(false,eval e X.env)::starEach es X.env:=by rfl) (hpl:(backTo pos (starEach es X.env)).any (·.1)=false:=by rfl):PE X (.Call (.Name x p) (e::es) [] pos) (tCB r t):=by
 intro jv s σ H Q I h;refine wpAny_Call_Name_kw (ai7 I hg hm hv ?_ hn hdb);exact PyProof.Rows.callWith_builtin1 (thn (ha pos jv s σ H _ I h) fun us s1 ⟨vs,H1,I1,r1,q1⟩=>hc jv s1 σ H1 vs us Q I1 r1 q1) he hpl
theorem aim(hc:ada X (.type T) r)(hg:Gl X x)(hm:X.mg x=none)(hv:bootBuiltins x=some (.type T))(ha:PA X (e::es) t)(hn:x ≠ "__name__" := by decide)(hdb:(x==("__debug__" : Str))=false:=by decide)
  (he:starEach (e::es) X.env=(false,eval e X.env)::starEach es X.env:=by rfl) (hpl:(backTo pos (starEach es X.env)).any (·.1)=false:=by rfl):PE X (.Call (.Name x p) (e::es) [] pos) (tCB r t):=by
 intro jv s σ H Q I h;refine wpAny_Call_Name_kw (ai7 I hg hm hv ?_ hn hdb);exact PyProof.Rows.callWith_type1 (thn (ha pos jv s σ H _ I h) fun us s1 ⟨vs,H1,I1,r1,q1⟩=>hc jv s1 σ H1 vs us Q I1 r1 q1) he hpl
end
end L2
namespace HT
open PySem PyProof.Rows
section
open PySem.SeqAt
open PySem.AutoSeq1 (wpAny_loadPart')
open PySem.MeetsSeq PySem.MeetsSeq2 PySem.MeetsSeq3
end
section
variable{prog:Program}{w:World}{A:Around}{E:Value->Shared->Prop}{s:Shared}
theorem av8{t b:Addr}{vs ws:List Value}{Q:Value->Shared->Prop}(ht:IsTup s.heap t vs.toArray)(hb:IsTup s.heap b ws.toArray)(hv:vs≠[])
  (h1:ws=[]->Q (.ref t) s) (h2:ws≠[]->Q (.ref s.heap.objs.size) { s with heap:=s.heap.push { cls:=.type "tuple", data:=.seq (vs++ws).toArray } })
  (hsz:vs.length+ws.length<=sizeLine):wpAny (model prog w) A (binaryOp .Add (.ref t) (.ref b)) Q E s:=by
 obtain⟨⟨cls,dd,data,sl⟩,ho,hc,n,hd⟩:=id ht;obtain⟨⟨cls2,dd2,data2,sl2⟩,ho2,hc2,n2,hd2⟩:=id hb;simp only at hc hd hc2 hd2;subst hc hd hc2 hd2;have e:vs.toArray++ws.toArray=(vs++ws).toArray:=by simp
 by_cases hw:ws=[]
 ·exact concat_meets ⟨_,ho,rfl⟩ ⟨_,ho2,rfl⟩ noFill_tuple_add seq_tuple_add PySem.F.slot_tuple_add PySem.F.entry_tuple_add (PySem.F.args_tuple_add_2 _ _)
   (tuple_addW1 t b vs.toArray ws.toArray n n2 dd dd2 sl sl2 (by simpa using hv) (by simp[hw])) ⟨ho,ho2,h1 hw⟩
 ·refine concat_meets ⟨_,ho,rfl⟩ ⟨_,ho2,rfl⟩ noFill_tuple_add seq_tuple_add PySem.F.slot_tuple_add PySem.F.entry_tuple_add (PySem.F.args_tuple_add_2 _ _)
   (tuple_addW2 t b vs.toArray ws.toArray n n2 dd dd2 sl sl2 (by simpa using hv) (by simpa using hw) (by rw[List.size_toArray,List.size_toArray];exact hsz)) ⟨ho,ho2,?_⟩
  rw[e];exact h2 hw
def sIx(n d:Nat):Option Int->Nat
 | none=>d
 | some v=>if v < 0 then (v+(n:Int)).toNat else min v.toNat n
theorem aw0(n d:Nat)(hd:d<=n)(o:Option Int):sIx n d o<=n:=by
 cases o with
 | none=>exact hd
 | some v =>
  show(if v < 0 then (v+(n:Int)).toNat else min v.toNat n)<=n
  by_cases hv:v < 0
  ·rw[if_pos hv];omega
  ·rw[if_neg hv];exact Nat.min_le_right _ _
theorem aqn(v:Int)(n d:Nat):(if v < 0 then max (v+(n:Int)) 0 else min v (n:Int))=((sIx n d (some v):Nat):Int):=by
 show(if v < 0 then max (v+(n:Int)) 0 else min v (n:Int))=(((if v < 0 then (v+(n:Int)).toNat else min v.toNat n):Nat):Int)
 by_cases hv:v < 0
 ·simp only[if_pos hv];omega
 ·simp only[if_neg hv];omega
theorem aob(lo hi:Option Int)(n:Nat):Builtin.Slice.sliceAdjust lo hi 1 (n:Int)=(((sIx n 0 lo:Nat):Int),((sIx n n hi:Nat):Int)):=by
 have h1:¬((1:Int) < 0):=by omega
 unfold Builtin.Slice.sliceAdjust;simp only[h1,if_false];refine Prod.ext ?_ ?_
 ·cases lo with
  | none=>rfl
  | some v=>exact aqn v n 0
 ·cases hi with
  | none=>rfl
  | some v=>exact aqn v n n
theorem anm(i j:Nat):Builtin.Slice.slicePlaces (i:Int) (j:Int) 1=j - i:=by
 unfold Builtin.Slice.slicePlaces;have h1:(1:Int) > 0:=by omega
 simp only[h1,if_true,Int.ediv_one];split <;> omega
theorem af1{v:Value}{o:Option Int}{Q:Option Int->Shared->Prop}(p:IsPart v o)(h:Q o s):wpAny (model prog w) A (Builtin.Slice.slicePartIndex v) Q E s:=by
 cases p with
 | none=>exact slicePart_none h
 | int i t=>exact slicePart_int h
theorem zr{sl:Addr}{vl vu:Value}{lo hi:Option Int}{n:Nat}{Q:Int×Int×Nat->Shared->Prop}(hs:s.heap.IsSliceOf sl vl vu .none)(pl:IsPart vl lo)(pu:IsPart vu hi)
  (h:Q (((sIx n 0 lo:Nat):Int),1,sIx n n hi - sIx n 0 lo) s):wpAny (model prog w) A (Builtin.Slice.sliceApplied (.ref sl) (pure (n:Int))) Q E s:=by
 obtain⟨os,hos,hcs,hds⟩:=id hs;unfold Builtin.Slice.sliceApplied Builtin.Slice.sliceFields;refine wpAny_bind (wpAny_bind (wpAny_field hos hds (x:=vl) rfl (wpAny_bind (wpAny_field hos hds (x:=vu) rfl (wpAny_bind (wpAny_field hos hds (x:=.none) rfl (wpAny_pure ?_)))))));refine wpAny_bind (slicePart_none ?_);show wpAny _ _ (if ((1:Int)==0)=true then _ else _) _ _ s
 rw[if_neg (by decide)]
 refine wpAny_bind (af1 pl (wpAny_bind (af1 pu (wpAny_bind (wpAny_pure ?_)))));show wpAny _ _ (match Builtin.Slice.sliceAdjust lo hi 1 (n:Int) with | (lo,hi)=>pure (lo,(1:Int),Builtin.Slice.slicePlaces lo hi 1)) _ _ s
 rw[aob lo hi n];show wpAny _ _ (pure (((sIx n 0 lo:Nat):Int),(1:Int),Builtin.Slice.slicePlaces ((sIx n 0 lo:Nat):Int) ((sIx n n hi:Nat):Int) 1)) _ _ s;rw[anm];exact wpAny_pure h
theorem ar0(xs:Array Value)(i k:Nat):((List.range k).filterMap fun(m:Nat)=>xs[((i:Int)+(m:Int)*1).toNat]?).toArray=((xs.toList.drop i).take k).toArray:=by
 have e:(fun(m:Nat)=>xs[((i:Int)+(m:Int)*1).toNat]?)=fun m=>xs[i+m]? := by
  funext m
  have:((i:Int)+(m:Int)*1).toNat=i+m:=by omega
  rw[this]
 rw[e];have:=pick_run xs i k;rw[List.filterMap_map] at this;have e2:((fun x=>xs[x]?)∘fun x=>i+x)=fun m=>xs[i+m]? := rfl
 rw[e2] at this;rw[this]
theorem adp{t sl:Addr}{items:Array Value}{vl vu:Value}{lo hi:Option Int}{Q:Value->Shared->Prop}(ht:IsTup s.heap t items)(hs:s.heap.IsSliceOf sl vl vu .none)(pl:IsPart vl lo)(pu:IsPart vu hi)
  (hw:¬(sIx items.size 0 lo=0/\sIx items.size items.size hi=items.size))
  (h:Q (.ref s.heap.objs.size) { s with heap:=s.heap.push { cls:=.type "tuple", data:=.seq ((items.toList.drop (sIx items.size 0 lo)).take (sIx items.size items.size hi - sIx items.size 0 lo)).toArray } })
  (hsz:items.size<=sizeLine):wpAny (model prog w) A (getItem (.ref t) (.ref sl)) Q E s:=by
 have htake:sizeOk (.seq ((items.toList.drop (sIx items.size 0 lo)).take (sIx items.size items.size hi - sIx items.size 0 lo)).toArray):=by
  show((items.toList.drop (sIx items.size 0 lo)).take (sIx items.size items.size hi - sIx items.size 0 lo)).toArray.size<=sizeLine;rw[List.size_toArray,List.length_take,List.length_drop,Array.length_toList];omega
 have hj:sIx items.size items.size hi<=items.size:=aw0 _ _ (Nat.le_refl _) hi;obtain⟨os,hos,hcs,hds⟩:=id hs;have hTs:s.TypeIs (.ref sl) "slice" := ⟨os,hos,hcs⟩;unfold getItem
 try with_reducible refine wpAny_holding ?_
 first | refine wpAny_bind (wpAny_pure ?_) | skip
 refine wpAny_bind (wpAny_sequenceKey ht.typeIs (by decide) ?_)
 refine wpAny_bind (wpAny_callSpecial?_slot (name:=Str.ofString "__getitem__") ht.typeIs PyProof.Rows.slot_tuple_getitem
  (wpAny_call_entry PyProof.Rows.slot_tuple_getitem ht.typeIs entry_tuple_getitem ?_ (args_tuple_getitem _ _)))
 show wpAny _ _ (Builtin.Tuple.tupleItemsOf (.ref t) >>= _) _ _ s;refine wpAny_bind (tupleItemsOf_ ht ?_);refine wpAny_bind (wpAny_typeOf hTs ?_);rw[if_pos (by decide)]
 refine wpAny_bind (zr hs pl pu ?_);have hno:¬((((sIx items.size 0 lo:Nat):Int)==0&&(1:Int)==1&&(sIx items.size items.size hi - sIx items.size 0 lo)==items.size)=true):=by
  intro q;rw[Bool.and_eq_true,Bool.and_eq_true] at q;have q1:((sIx items.size 0 lo:Nat):Int)=0:=eq_of_beq q.1.1;have q2:sIx items.size items.size hi - sIx items.size 0 lo=items.size:=eq_of_beq q.2;exact hw ⟨by omega,by omega⟩
 show wpAny _ _ (if (((sIx items.size 0 lo:Nat):Int)==0&&(1:Int)==1&&(sIx items.size items.size hi - sIx items.size 0 lo)==items.size)=true then _ else _) _ _ s
 rw[if_neg hno,ar0]
 first
  | exact wpAny_bind (m:=Builtin.Tuple.tupleExact _) (wpAny_newObj_type (wpAny_pure ⟨_,rfl,wpAny_pure h⟩) htake)
  | exact wpAny_bind (m:=Builtin.Tuple.tupleExact _) (wpAny_newObj_type (wpAny_bind (wpAny_pure (wpAny_pure ⟨_,rfl,wpAny_pure h⟩))) htake)
  | exact wpAny_bind (wpAny_bind (m:=Builtin.Tuple.tupleExact _) (wpAny_newObj_type (wpAny_pure (wpAny_pure ⟨_,rfl,wpAny_pure h⟩)) htake))
  | exact wpAny_bind (wpAny_bind (m:=Builtin.Tuple.tupleExact _) (wpAny_newObj_type (wpAny_pure ⟨_,rfl,wpAny_pure h⟩) htake))
end
end HT
namespace L2
abbrev TO:=St->Hp->(Option Int->Hp->Prop)->Prop
def PO(X:Cx)(e:Option Expr)(t:TO):Prop :=
 ∀(jv:List (Addr×Obj)) (s:Shared) (σ:St) (H:Hp) (Q:Option Int->Hp->Prop),Inv X jv σ H s->t σ H Q ->
  wpAny (model X.prog X.w) X.A (evalPart e X.env) (fun u s'=>∃o H',Inv X jv σ H' s'/\IsPart u o/\Q o H') X.xe s
def auj:TO:=fun _ H Q=>Q none H
def a0g(t:TE):TO:=fun σ H Q=>t σ H fun x H1=>∃i,x=.int i/\Q (some i) H1
theorem intsAre_of{ns:List Int}:∀{us:List Value},Vals (ns.map V.int) us->IntsAre us ns:=by
 induction ns with
 | nil=>intro us r;rw[List.map_nil] at r;cases r;exact .nil
 | cons n ns ih =>
  intro us r;rw[List.map_cons] at r;cases r with
  | cons r1 r2 =>
   obtain⟨t,e⟩:=r1;subst e;exact .cons n t (ih r2)
section
variable{X:Cx}{e:Expr}{te:TE}{lo hi:Option Expr}{tl th:TO}{pos p2:Pos}
theorem auy:PO X none auj:=by
 intro jv s σ H Q I h;rw[evalPart_none];exact wpAny_pure ⟨none,H,I,.none,h⟩
theorem auw(h:PE X e te):PO X (some e) (a0g te):=by
 intro jv s σ H Q I hw;rw[evalPart_some];refine thn (h jv s σ H _ I hw) fun u s1 ⟨x,H1,I1,r1,q1⟩ =>?_
 obtain⟨i,rfl,q⟩:=q1;obtain⟨t,rfl⟩:=r1;exact⟨some i,H1,I1,.int i t,q⟩
def SlR(X:Cx)(r:V->Option Int->Option Int->Hp->VK->Prop):Prop :=
 ∀(jv:List (Addr×Obj)) (s:Shared) (σ:St) (H:Hp) (x:V) (v vl vu:Value) (lo hi:Option Int) (sl:Addr) (Q:VK),Inv X jv σ H s->RelV x v->s.heap.IsSliceOf sl vl vu .none->IsPart vl lo->IsPart vu hi->r x lo hi H Q ->
  ∃T id,typeLookup (.type T) "__getitem__" = pure (some (.builtin id))/\s.TypeIs v T/\wpAny (model X.prog X.w) X.A (getItem v (.ref sl)) (EP X jv σ Q) X.xe s
def tSl(r:V->Option Int->Option Int->Hp->VK->Prop)(te:TE)(tl th:TO):TE:=fun σ H Q=>te σ H fun x H1=>tl σ H1 fun l H2=>th σ H2 fun u H3=>r x l u H3 Q
theorem ar4{r:V->Option Int->Option Int->Hp->VK->Prop}(hr:SlR X r)(he:PE X e te)(hl:PO X lo tl)(hu:PO X hi th):PE X (.Subscript e (.Slice lo hi none p2) pos) (tSl r te tl th):=by
 intro jv s σ H Q I h;refine Subscript_ (thn (he jv s σ H _ I h) fun v s1 ⟨x,H1,I1,r1,q1⟩ =>?_)
 refine wpAny_Slice (thn (hl jv s1 σ H1 _ I1 q1) fun vl s2 ⟨l,H2,I2,pl,q2⟩=>thn (hu jv s2 σ H2 _ I2 q2) fun vu s3 ⟨u,H3,I3,pu,q3⟩ =>?_)
 rw[evalPart_none];refine wpAny_pure ?_;have I4:Inv X jv σ H3 { s3 with heap:=s3.heap.push { cls:=.type "slice", data:=.fields #[vl,vu,.none] } }:=I3.kept (t':=s3.toks) fun b ob q=>Heap.get?_push_of_some _ q
 obtain⟨T,id,hT,ht,hg⟩:=hr jv { s3 with heap:=s3.heap.push { cls:=.type "slice", data:=.fields #[vl,vu,.none] } } σ H3 x v vl vu l u s3.heap.objs.size Q I4 r1 (Heap.IsSliceOf.new ..) pl pu q3
 show wpAny (model X.prog X.w) X.A (subscriptTail e (.Slice lo hi none p2) v (.ref s3.heap.objs.size)) (EP X jv σ Q) X.xe { s3 with heap:=s3.heap.push { cls:=.type "slice", data:=.fields #[vl,vu,.none] } }
 exact tail_any (ops:=[.ref s3.heap.objs.size,v]) ht hT hg (by with_unfolding_all rfl)
def cutV(xs:List V)(lo hi:Option Int):List V:=(xs.drop (HT.sIx xs.length 0 lo)).take (HT.sIx xs.length xs.length hi - HT.sIx xs.length 0 lo)
theorem afl(xs:List V)(lo hi:Option Int):(cutV xs lo hi).length<=xs.length:=by
 unfold cutV;rw[List.length_take,List.length_drop];omega
def rSlT(K:Fg9):V->Option Int->Option Int->Hp->VK->Prop:=fun x lo hi H Q=>∃a xs,x=.ref a/\SqT K H a xs /\
 ¬(HT.sIx xs.length 0 lo=0/\HT.sIx xs.length xs.length hi=xs.length)/\∀p,H p=none->Q (.ref p) (upd H p (.tup (cutV xs lo hi)))
theorem awx:SlR X (rSlT X.K):=by
 intro jv s σ H x v vl vu lo hi sl Q I rx hs pl pu h;obtain⟨a,xs,rfl,hx,hw,q⟩:=h;cases rx;obtain⟨its,r,ht,hz⟩:=I.tuple hx;have hlen:its.toArray.size=xs.length:=by rw[List.size_toArray];exact r.length.symm
 refine⟨"tuple", _,PyProof.Rows.slot_tuple_getitem.lookup,ht.typeIs,?_⟩;refine HT.adp ht hs pl pu (by rw[hlen];exact hw) ?_ (by rw[hlen];exact hz)
 rw[hlen];refine⟨.ref s.heap.objs.size,_,I.laid (t':=s.toks) (o:=.tup (cutV xs lo hi)) (fun b ob q=>Heap.get?_push_of_some _ q) (Nat.le_refl _) ?_,rfl,q _ (I.hok.fresh (Nat.le_refl _))⟩
 exact⟨Nat.le_trans (afl xs lo hi) hz,_,(r.drop (HT.sIx xs.length 0 lo)).take (HT.sIx xs.length xs.length hi - HT.sIx xs.length 0 lo),IsTp.new _ _⟩
def a0p(K:Fg9):R2:=fun x y H Q=>∃a b xs ys,x=.ref a/\y=.ref b/\SqT K H a xs/\SqT K H b ys/\xs≠[]/\xs.length+ys.length<=sizeLine /\
 (ys=[]->Q (.ref a) H)/\(ys≠[]->∀p,H p=none->Q (.ref p) (upd H p (.tup (xs++ys))))
theorem Vals.nil_iff{xs:List V}{us:List Value}(r:Vals xs us):us=[]↔xs=[]:=by
 cases r with
 | nil=>simp
 | cons _ _=>simp
theorem avc:OpR X (binaryOp .Add) (a0p X.K):=by
 intro jv s σ H x y v u Q I rx ry h;obtain⟨a,b,xs,ys,rfl,rfl,ha,hb,hx,hz,q1,q2⟩:=h;cases rx;cases ry;obtain⟨its,r1,p1,_⟩:=I.tuple ha;obtain⟨its2,r2,p2,_⟩:=I.tuple hb;refine HT.av8 p1 p2 (fun z=>hx (r1.nil_iff.mp z)) (fun z=>⟨.ref a,H,I,rfl,q1 (r2.nil_iff.mp z)⟩) (fun z =>?_) (by rw[<-r1.length,<-r2.length];exact hz)
 refine⟨.ref s.heap.objs.size,_,I.laid (t':=s.toks) (o:=.tup (xs++ys)) (fun b ob q=>Heap.get?_push_of_some _ q) (Nat.le_refl _) ?_,rfl,q2 (fun w=>z (r2.nil_iff.mpr w)) _ (I.hok.fresh (Nat.le_refl _))⟩
 exact⟨by rw[List.length_append];exact hz,_,r1.append r2,IsTp.new _ _⟩
end
def ixN(n:Nat)(i:Int):Option Nat:=if 0<=i then (if i < n then some i.toNat else none) else if -(n:Int)<=i then some (i+n).toNat else none
def atI{α:Type}(xs:List α)(i:Int):Option α:=(ixN xs.length i).bind fun j=>xs[j]?
theorem apo{n:Nat}{i:Int}{j:Nat}(h:ixN n i=some j):seqIndex? i n=some j/\j < n /\ -(n:Int)<=i/\i < n:=by
 unfold ixN at h
 by_cases h0:0<=i
 ·rw[if_pos h0] at h
  by_cases h1:i < n
  ·rw[if_pos h1] at h;have e:i.toNat=j:=Option.some.inj h;exact⟨by rw[seqIndex_of h0 h1,e],by omega,by omega,h1⟩
  ·rw[if_neg h1] at h;cases h
 ·rw[if_neg h0] at h
  by_cases h1 : -(n:Int)<=i
  ·rw[if_pos h1] at h;have e:(i+n).toNat=j:=Option.some.inj h;exact⟨by rw[seqIndex_neg (by omega) h1,e],by omega,h1,by omega⟩
  ·rw[if_neg h1] at h;cases h
theorem aq6{α:Type}{xs:List α}{i:Int}{v:α}(h:atI xs i=some v):∃j,seqIndex? i xs.length=some j/\xs[j]? = some v/\j < xs.length /\ -(xs.length:Int)<=i/\i < xs.length:=by
 unfold atI at h;cases e:ixN xs.length i with
 | none=>rw[e] at h;cases h
 | some j =>
  rw[e] at h;obtain⟨h1,h2,h3,h4⟩:=apo e;exact⟨j,h1,h,h2,h3,h4⟩
theorem ah0{α:Type}{xs:List α}{j:Nat}{v:α}(h:xs[j]? = some v):atI xs (j:Int)=some v:=by
 have hj:j < xs.length:=(List.getElem?_eq_some_iff.mp h).1;have e:ixN xs.length (j:Int)=some j:=by
  unfold ixN;rw[if_pos (by omega),if_pos (by omega)];simp
 unfold atI;rw[e];exact h
def alk(b:Expr):Prop:=∀o i,subscripted b false o i=operate [o,i] (getItem o i)
def IxR(X:Cx)(r:R2):Prop :=
 ∀(value slice:Expr) (jv:List (Addr×Obj)) (s:Shared) (σ:St) (H:Hp) (x y:V) (v u:Value) (Q:VK),Inv X jv σ H s->RelV x v->RelV y u->r x y H Q ->
  subscripted slice false v u=operate [v,u] (getItem v u)->wpAny (model X.prog X.w) X.A (subscriptTail value slice v u) (EP X jv σ Q) X.xe s
def MtR(X:Cx)(id:String)(r:V->List V->Hp->VK->Prop):Prop :=
 ∀(jv:List (Addr×Obj)) (s:Shared) (σ:St) (H:Hp) (x:V) (xs:List V) (v:Value) (us:List Value) (Q:VK),Inv X jv σ H s->RelV x v->Vals xs us->r x xs H Q ->
  wpAny (model X.prog X.w) X.A (call (.builtin id) (v::us)) (EP X jv σ Q) X.xe s
section
variable{X:Cx}{a b:Expr}{ta tb:TE}{pos:Pos}
theorem axp{r:R2}(hr:IxR X r)(ha:PE X a ta)(hb:PE X b tb)(hs:alk b):PE X (.Subscript a b pos) (tOp r ta tb):=by
 intro jv s σ H Q I h;exact Subscript_ (binT ha hb I h fun v u s2 x y H2 I2 rx ry q=>hr a b jv s2 σ H2 x y v u Q I2 rx ry q (hs _ _))
def rIxL(K:Fg9):R2:=fun x y H Q=>∃p xs i v,x=.ref p/\y=.int i/\SqL K H p xs/\atI xs i=some v/\Q v H
def rIxT(K:Fg9):R2:=fun x y H Q=>∃p xs i v,x=.ref p/\y=.int i/\SqT K H p xs/\atI xs i=some v/\Q v H
theorem avq:IxR X (rIxL X.K):=by
 intro value slice jv s σ H x y v u Q I rx ry h hs;obtain⟨p,xs,i,z,rfl,rfl,hq,he,q⟩:=h;cases rx;obtain⟨t,rfl⟩:=ry;obtain⟨its,r,pl,hz⟩:=I.list hq;obtain⟨j,h1,h2,h3,h4,h5⟩:=aq6 he;obtain⟨w,ew,rw'⟩:=r.get h2;have hl:=r.length;have hn:=amd;have fin:EP X jv σ Q w s:=⟨z,H,I,rw',q⟩
 by_cases h0:0<=i
 ·have hj:i.toNat=j:=by
   rw[seqIndex_of h0 h5] at h1;exact Option.some.inj h1
  exact item_listR pl.isList h0 (by omega) (by rw[hj];simpa using ew) fin hs
 ·have hj:(i+(its.toArray.size:Int)).toNat=j:=by
   rw[seqIndex_neg (by omega) h4] at h1
   rw[List.size_toArray,<-hl];exact Option.some.inj h1
  exact subscriptTail_builtinR (x:=w) pl.isList.typeIs slot_list_getitem.lookup
   (wpAny_getItem_list_neg (Q:=fun r s'=>r=w/\EP X jv σ Q r s') pl.isList (by omega) (by rw[List.size_toArray] <;> omega) (by omega) (by rw[hj];simpa using ew) ⟨rfl,fin⟩) hs
theorem ayr:IxR X (rIxT X.K):=by
 intro value slice jv s σ H x y v u Q I rx ry h hs;obtain⟨p,xs,i,z,rfl,rfl,hq,he,q⟩:=h;cases rx;obtain⟨t,rfl⟩:=ry;obtain⟨its,r,pl,hz⟩:=I.tuple hq;obtain⟨j,h1,h2,h3,h4,h5⟩:=aq6 he;obtain⟨w,ew,rw'⟩:=r.get h2;have hl:=r.length;have hn:=amd;have fin:EP X jv σ Q w s:=⟨z,H,I,rw',q⟩;exact subscriptTail_builtinR (x:=w) pl.typeIs slot_tuple_getitem.lookup
  (getItem_tuple (j:=j) (Q:=fun r s'=>r=w/\EP X jv σ Q r s') pl (by omega) (by omega) (by rw[List.size_toArray,<-hl];exact h1) (by simpa using ew) ⟨rfl,fin⟩) hs
theorem anw(its:List Value)(n j:Nat)(u:Value):Obj.mapSeq (·.setIfInBounds j u) { cls:=.type "list", data:=.seq its.toArray n }={ cls:=.type "list", data:=.seq (its.set j u).toArray n }:=by
 simp[Obj.mapSeq]
theorem Inv.lst{jv:List (Addr×Obj)}{σ:St}{H:Hp}{s:Shared}{p:Addr}{xs:List V}(I:Inv X jv σ H s)(h:H p=some (.lst xs)) :
  ∃(its:List Value) (n:Nat),Vals xs its/\s.heap.get? p=some { cls:=.type "list", data:=.seq its.toArray n }/\xs.length<=sizeLine:=by
 obtain⟨z,its,n,r,e⟩:=I.hok p _ h;exact⟨its,n,r,e,z⟩
theorem Inv.lstUpd{jv:List (Addr×Obj)}{σ:St}{H:Hp}{s:Shared}{p:Addr}{xs ys:List V}{its its':List Value}{n n':Nat}{f:Obj->Obj}(I:Inv X jv σ H s)(h:H p=some (.lst xs))
  (ho:s.heap.get? p=some { cls:=.type "list", data:=.seq its.toArray n }) (hf:f { cls:=.type "list", data:=.seq its.toArray n }={ cls:=.type "list", data:=.seq its'.toArray n' }) (r:Vals ys its') (hz:ys.length<=sizeLine) (t:Nat) :
  Inv X jv σ (upd H p (.lst ys)) { s with heap:=s.heap.update p f,toks:=t }:=by
 have e:(s.heap.update p f).get? p=some { cls:=.type "list", data:=.seq its'.toArray n' }:=by
  rw[Heap.get?_update_self f ho (by rw[hf] <;> rfl),hf]
 refine I.write (x:=p) (e:=p) (by rw[h];trivial) (.inl rfl) (fun b u hb q=>(Heap.get?_update_other _ _ (Ne.symm hb)).trans q) ⟨_,e⟩ ?_
 exact⟨hz,its',n',r,e⟩
def a0n:V->V->V->Hp->(Hp->Prop)->Prop:=fun o i v H Q=>∃p xs k j,o=.ref p/\i=.int k/\H p=some (.lst xs)/\ixN xs.length k=some j/\Q (upd H p (.lst (xs.set j v)))
theorem set_list:PSet X a0n:=by
 intro jv s σ H o i v ov iv u Q I ro ri rv h;obtain⟨p,xs,k,j,rfl,rfl,hp,hj,q⟩:=h;cases ro;obtain⟨t,rfl⟩:=ri;obtain⟨its,n,r,ho,hz⟩:=I.lst hp;obtain⟨h1,h2,h3,h4⟩:=apo hj;have hl:=r.length;have hn:=amd;have I':Inv X jv σ (upd H p (.lst (xs.set j v))) { s with heap:=s.heap.update p (Obj.mapSeq (·.setIfInBounds j u)) } :=
  I.lstUpd hp ho (anw its n j u) (r.set rv j) (by rw[List.length_set];exact hz) s.toks
 by_cases h0:0<=k
 ·have hk:k.toNat=j:=by
   rw[seqIndex_of h0 h4] at h1;exact Option.some.inj h1
  exact PySem.W.ki_setAt ho h0 (by omega) (by rw[List.size_toArray,<-hl];exact h4) (by rw[hk];exact⟨_,I',q⟩)
 ·have hk:(k+(its.toArray.size:Int)).toNat=j:=by
   rw[seqIndex_neg (by omega) h3] at h1
   rw[List.size_toArray,<-hl];exact Option.some.inj h1
  exact PySem.W.ki_setBack ho (by omega) (by rw[List.size_toArray,<-hl];exact h3) (by omega) (by rw[hk];exact⟨_,I',q⟩)
theorem ah9(lo hi:Option Int)(n:Nat):(sliceBounds lo hi none n).1=((HT.sIx n 0 lo:Nat):Int)/\(sliceBounds lo hi none n).2.1=((HT.sIx n n hi:Nat):Int)/\(sliceBounds lo hi none n).2.2=1:=by
 refine⟨?_,?_,rfl⟩
 ·cases lo with
  | none=>simp[sliceBounds,HT.sIx]
  | some i =>
   simp only[sliceBounds,HT.sIx,Option.getD_none,show(1:Int) > 0 by decide,if_true]
   by_cases h:i < 0
   ·simp only[h,if_true] <;> omega
   ·simp only[h,if_false] <;> omega
 ·cases hi with
  | none=>simp[sliceBounds,HT.sIx]
  | some i =>
   simp only[sliceBounds,HT.sIx,Option.getD_none,show(1:Int) > 0 by decide,if_true]
   by_cases h:i < 0
   ·simp only[h,if_true] <;> omega
   ·simp only[h,if_false] <;> omega
theorem agw(its:List Value)(lo hi:Option Int):slicePick its.toArray lo hi none=((its.drop (HT.sIx its.length 0 lo)).take (HT.sIx its.length its.length hi - HT.sIx its.length 0 lo)).toArray:=by
 obtain⟨h1,h2,h3⟩:=ah9 lo hi its.toArray.size;unfold slicePick;rw[h1,h2,h3];simp only[sliceRange_one,pick_run,List.size_toArray] <;> rfl
def rSlL(K:Fg9):V->Option Int->Option Int->Hp->VK->Prop:=fun x lo hi H Q=>∃a xs,x=.ref a/\SqL K H a xs/\∀p,H p=none->Q (.ref p) (upd H p (.lst (cutV xs lo hi)))
theorem aor:SlR X (rSlL X.K):=by
 intro jv s σ H x v vl vu lo hi sl Q I rx hs pl pu h;obtain⟨a,xs,rfl,hx,q⟩:=h;cases rx;obtain⟨its,r,ht,hz⟩:=I.list hx;have hlen:=r.length;refine⟨"list", _,slot_list_getitem.lookup,ht.isList.typeIs,?_⟩;refine wpAny_getItem_list_slice ht.isList hs pl pu .none (by simp) ?_ (by rw[List.size_toArray] <;> omega)
 rw[agw,<-hlen];refine⟨.ref s.heap.objs.size,_,I.laid (t':=s.toks) (o:=.lst (cutV xs lo hi)) (fun b ob q=>Heap.get?_push_of_some _ q) (Nat.le_refl _) ?_,rfl,q _ (I.hok.fresh (Nat.le_refl _))⟩
 exact⟨Nat.le_trans (afl xs lo hi) hz,_,0,(r.drop (HT.sIx xs.length 0 lo)).take (HT.sIx xs.length xs.length hi - HT.sIx xs.length 0 lo),Heap.get?_push_size _ rfl⟩
theorem ajt:ada X (.builtin "len") (fun xs H Q=>∃p ys,xs=[.ref p]/\(SqL X.K H p ys∨SqT X.K H p ys)/\Q (.int ys.length) H):=by
 intro jv s σ H xs us Q I r h;obtain⟨p,ys,rfl,hq,q⟩:=h;obtain⟨u,rfl,rx⟩:=vals1 r;cases rx;have hn:=amd;rcases hq with hq | hq
 ·obtain⟨its,r',pl,hz⟩:=I.list hq;have hlen:=r'.length;exact Calls.call_len_list pl.isList (by simp only[List.size_toArray] <;> omega) ⟨.int ys.length,H,I.tok _,⟨s.toks+1,by rw[List.size_toArray,hlen]⟩,q⟩
 ·obtain⟨its,r',pl,hz⟩:=I.tuple hq;have hlen:=r'.length;exact len_tuple pl (by simp only[List.size_toArray] <;> omega) ⟨.int ys.length,H,I.tok _,⟨s.toks+1,by rw[List.size_toArray,hlen]⟩,q⟩
theorem ajs:ada X (.type "list") (fun xs H Q=>∃p ys,xs=[.ref p]/\(SqL X.K H p ys∨SqT X.K H p ys)/\∀l,H l=none->Q (.ref l) (upd H l (.lst ys))):=by
 intro jv s σ H xs us Q I r h;obtain⟨p,ys,rfl,hq,q⟩:=h;obtain⟨u,rfl,rx⟩:=vals1 r;cases rx;have fin:∀(its:List Value),Vals ys its->ys.length<=sizeLine->∀(h':Heap) (c':Nat),(∀b o',s.heap.get? b=some o'->h'.get? b=some o') ->
   h'.get? s.heap.objs.size=some { cls:=.type "list", dict:=none,data:=.seq its.toArray c',slots := #[] }->EP X jv σ Q (.ref s.heap.objs.size) { s with heap:=h' }:=fun its r' hz h' c' kp e =>
  ⟨.ref s.heap.objs.size,_,I.laid (t':=s.toks) kp (Nat.le_refl _) (show ux X.prog X.w _ h' _ (.lst ys) from⟨hz,its,c',r',e⟩),rfl,q _ (I.hok.fresh (Nat.le_refl _))⟩
 rcases hq with hq | hq
 ·obtain⟨its,r',pl,hz⟩:=I.list hq;have hlen:=r'.length;obtain⟨o,ho,hc,n,hd⟩:=pl.isList;exact call_list_seq p (.inl rfl) ho hc hd (fun h' c' kp e=>fin its r' hz h' c' kp e) (by simp only[List.size_toArray] <;> omega)
 ·obtain⟨its,r',pl,hz⟩:=I.tuple hq;have hlen:=r'.length;obtain⟨o,ho,hc,n,hd⟩:=pl;exact call_list_seq p (.inr rfl) ho hc hd (fun h' c' kp e=>fin its r' hz h' c' kp e) (by simp only[List.size_toArray] <;> omega)
theorem zm:ada X (.type "tuple") (fun xs H Q=>∃p ys,xs=[.ref p]/\((SqL X.K H p ys/\∀l,H l=none->Q (.ref l) (upd H l (.tup ys)))∨(SqT X.K H p ys/\Q (.ref p) H))):=by
 intro jv s σ H xs us Q I r h;obtain⟨p,ys,rfl,h⟩:=h;obtain⟨u,rfl,rx⟩:=vals1 r;cases rx;rcases h with⟨hq,q⟩ | ⟨hq,q⟩
 ·obtain⟨its,r',pl,hz⟩:=I.list hq;have hlen:=r'.length;refine call_tuple_list pl.isList (fun h' kp =>?_) (by simp only[List.size_toArray] <;> omega)
  have I1:Inv X jv σ H { s with heap:=h' }:=I.kept (t':=s.toks) kp
  have I2:Inv X jv σ (upd H h'.objs.size (.tup ys)) { s with heap:=h'.push { cls:=.type "tuple", data:=.seq its.toArray } } :=
   I1.laid (t':=s.toks) (fun b o e=>Heap.get?_push_of_some _ e) (Nat.le_refl _) (show ux X.prog X.w _ _ _ (.tup ys) from⟨hz,its,r',IsTp.new _ _⟩)
  exact⟨.ref h'.objs.size,_,I2,rfl,q _ (I1.hok.fresh (Nat.le_refl _))⟩
 ·obtain⟨its,r',pl,hz⟩:=I.tuple hq;exact call_tuple_same pl ⟨.ref p,H,I,rfl,q⟩
def tyV(K:Fg9)(T:String)(x:V)(H:Hp):Prop:=match x with
 | .str _=>T = "str"
 | .int _=>T = "int"
 | .ref p=>(T = "list" /\ ∃xs,SqL K H p xs)∨(T = "tuple" /\ ((∃o,K.lookup p=some o/\o.cls=.type "tuple" /\ o.dict=none)∨∃xs,H p=some (.tup xs))) ∨
   (T = "dict" /\ ((∃kvs,H p=some (.dK kvs))∨∃kvs,H p=some (.dT kvs)))∨(T = "set" /\ ∃S n,H p=some (.set S n))
 | _=>False
theorem awo{jv:List (Addr×Obj)}{σ:St}{H:Hp}{s:Shared}{T:String}{x:V}{v:Value}(I:Inv X jv σ H s)(r:RelV x v)(ty:tyV X.K T x H) :
  s.TypeIs v T/\∀a,v=.ref a->∃ob,s.heap.get? a=some ob/\ob.dict=none:=by
 cases x with
 | str z =>
  obtain⟨t,rfl⟩:=r;cases(show T = "str" from ty)
  exact⟨typeIs_str s z t,fun _ e=>nomatch e⟩
 | int i =>
  obtain⟨t,rfl⟩:=r;cases(show T = "int" from ty)
  exact⟨typeIs_int s i t,fun _ e=>nomatch e⟩
 | ref p =>
  cases r;rcases ty with⟨rfl,xs,hq⟩ | ⟨rfl,⟨o,hk,hc,hd⟩ | ⟨xs,hk⟩⟩ | ⟨rfl,hk⟩ | ⟨rfl,S,n,hk⟩
  ·obtain⟨its,_,pl,_⟩:=I.list hq;refine⟨pl.isList.typeIs,fun a e =>?_⟩
   cases e;obtain⟨o,n,e,c,hd,_⟩:=pl;exact⟨o,e,hd⟩
  ·refine⟨⟨o,I.kIn p o hk,hc⟩,fun a e =>?_⟩
   cases e;exact⟨o,I.kIn _ o hk,hd⟩
  ·obtain⟨_,_,_,o,e,hc,hd,_⟩:=I.hok p _ hk;refine⟨⟨o,e,hc⟩,fun a e2 =>?_⟩
   cases e2;exact⟨o,e,hd⟩
  ·have z:∃o,s.heap.get? p=some o/\o.ExactDict:=by
    rcases hk with⟨kvs,hk⟩ | ⟨kvs,hk⟩
    ·obtain⟨_,_,_,_,o,_,_,e,ex,_⟩:=I.hok p _ hk;exact⟨o,e,ex⟩
    ·obtain⟨_,_,_,_,o,_,_,e,ex,_⟩:=I.hok p _ hk;exact⟨o,e,ex⟩
   obtain⟨o,e,ex⟩:=z;refine⟨⟨o,e,ex.1⟩,fun a e2 =>?_⟩
   cases e2;exact⟨o,e,ex.2.1⟩
  ·obtain⟨o,_,_,_,e,ex,_⟩:=I.hok p _ hk;refine⟨⟨o,e,ex.1⟩,fun a e2 =>?_⟩
   cases e2;exact⟨o,e,ex.2.1⟩
 | _=>exact False.elim ty
def tBM(K:Fg9)(T:String)(r:V->List V->Hp->VK->Prop)(to:TE)(t:TA):TE:=fun σ H Q=>to σ H fun x H1=>tyV K T x H1/\t σ H1 fun xs H2=>r x xs H2 Q
variable{o e:Expr}{es:List Expr}{to:TE}{t:TA}{name:Str}{apos cpos:Pos}{T id:String}{r:V->List V->Hp->VK->Prop}
theorem axs(pa:PlainAttrs T)(slot:Slot T name id)(hty:typeOf (.builtin id)=pure (.type "method_descriptor"))(hm:MtR X id r)(ho:PE X o to)(ha:PA X (e::es) t)
  (hbase:attributeBase o name X.env (eval o X.env)=eval o X.env:=by rfl)
  (hfew:((backTo cpos (starEach (e::es) X.env)).all (fun x => !x.1)&&(backToKw cpos (keywordEach [] X.env)).all (fun x=>x.1.isSome)
   && decide ((e::es).length+([]:List Keyword).length+(if ([]:List Keyword).isEmpty then 0 else 1) < 30))=true:=by rfl)
  (hline:(apos.endLine==cpos.line)=true:=by rfl) (hs:starEach (e::es) X.env=(false,eval e X.env)::starEach es X.env:=by rfl) (hplain:(backTo cpos (starEach es X.env)).any (·.1)=false:=by rfl) :
  PE X (.Call (.Attribute o name apos) (e::es) [] cpos) (tBM X.K T r to t):=by
 intro jv s σ H Q I h;refine wpAny_Call_method_late hbase hfew hline rfl (thn (ho jv s σ H _ I h) fun v s1 ⟨x,H1,I1,r1,ty,q1⟩ =>?_)
 obtain⟨h1,h2⟩:=awo I1 r1 ty;refine⟨T,id,pa,slot,hty,h1,h2,?_⟩;have hA:=ha cpos jv s1 σ H1 _ I1 q1;rw[hs] at hA ⊢
 refine Calls.callWith_builtin (by show(false||(backTo cpos (starEach es X.env)).any (·.1))=false;rw[hplain] <;> rfl) (Calls.evalArgs_plain ?_)
 exact thn hA fun us s2 ⟨vs,H2,I2,r2,q2⟩=>hm jv s2 σ H2 x vs v us Q I2 r1 r2 q2
end
def MtM(X:Cx)(id:String)(r:V->List V->Hp->VK->Prop):Prop :=
 ∀(jv:List (Addr×Obj)) (s:Shared) (σ:St) (H:Hp) (x:V) (xs:List V) (v:Value) (us:List Value) (Q:VK),Inv X jv σ H s->RelV x v->Vals xs us->r x xs H Q ->
  wpAny (model X.prog X.w) X.A (call (.builtin id) (v::us)) (EP X jv σ Q) X.xe s
theorem Vals.one:∀{x:V} {us:List Value},Vals [x] us->∃u,us=[u]/\RelV x u
 | _,_,.cons r .nil=>⟨_,rfl,r⟩
theorem Vals.rep{xs:List V}{us:List Value}(h:Vals xs us):∀k:Nat,Vals (List.replicate k xs).flatten (List.replicate k us).flatten
 | 0=>.nil
 | k+1=>by
  rw[List.replicate_succ,List.replicate_succ,List.flatten_cons,List.flatten_cons];exact Vals.append h (Vals.rep h k)
theorem foldl_rep(its:List Value):∀(k:Nat) (acc:List Value),
  List.foldl (fun x1 x2=>x1++x2) acc.toArray (List.replicate k its.toArray)=(acc++(List.replicate k its).flatten).toArray
 | 0,acc=>by simp
 | k+1,acc=>by
  have e:acc.toArray++its.toArray=(acc++its).toArray:=by simp
  have e2:(acc++its)++(List.replicate k its).flatten=acc++(List.replicate (k+1) its).flatten:=by
   rw[List.replicate_succ,List.flatten_cons,List.append_assoc]
  rw[<-e2,<-foldl_rep its k (acc++its),<-e,List.replicate_succ,List.foldl_cons]
section
variable{X:Cx}{jv:List (Addr×Obj)}{σ:St}{H:Hp}{s:Shared}{l b:Addr}{xs ys zs:List V}
theorem Inv.lset{its its':List Value}{n:Nat}{f:Array Value->Array Value}{t':Nat}(I:Inv X jv σ H s)(hH:H l=some (.lst xs))
  (e:s.heap.get? l=some { cls:=.type "list", data:=.seq its.toArray n }) (hf:f its.toArray=its'.toArray) (hv:Vals ys its') (hz:ys.length<=sizeLine) :
  Inv X jv σ (upd H l (.lst ys)) { s with heap:=s.heap.update l (Obj.mapSeq f),toks:=t' }:=by
 have q:=PySem.IsL.update e f;rw[hf] at q;refine I.write (x:=l) (e:=l) (by rw[hH];exact trivial) (.inl rfl) (fun b' u hb hu=>(Heap.get?_update_other s.heap (Obj.mapSeq f) (Ne.symm hb)).trans hu) ⟨_,q⟩ ?_
 exact⟨hz,its',_,hv,q⟩
theorem Inv.lnew{its:List Value}{t':Nat}(I:Inv X jv σ H s)(hv:Vals ys its)(hz:ys.length<=sizeLine) :
  Inv X jv σ (upd H s.heap.objs.size (.lst ys)) { s with heap:=s.heap.push { cls:=.type "list", data:=.seq its.toArray },toks:=t' } :=
 I.laid (fun _ _ q=>Heap.get?_push_of_some _ q) (Nat.le_refl _) ⟨hz,its,0,hv,Heap.get?_push_size _ rfl⟩
theorem Inv.fresh(I:Inv X jv σ H s):H s.heap.objs.size=none:=I.hok.fresh (Nat.le_refl _)
theorem Inv.lstM(I:Inv X jv σ H s)(hH:H l=some (.lst xs)):xs.length<=sizeLine/\∃(its:List Value) (n:Nat),Vals xs its/\xs.length=its.length/\s.heap.get? l=some { cls:=.type "list", data:=.seq its.toArray n }:=by
 obtain⟨z,its,n,r,e⟩:=I.hok l _ hH;exact⟨z,its,n,r,r.length,e⟩
theorem asj{n:Nat}(h:n<=sizeLine):Builtin.List.listTooLong n=false:=by
 unfold Builtin.List.listTooLong;exact decide_eq_false (by omega)
end
section
variable{X:Cx}
def ao3:V->List V->Hp->VK->Prop:=fun x vs H Q=>∃l xs y,x=.ref l/\vs=[y]/\H l=some (.lst xs)/\xs.length < sizeLine/\Q .non (upd H l (.lst (xs++[y])))
theorem qp:MtM X "list.append" ao3:=by
 intro jv s σ H x vs v us Q I rx rv h;obtain⟨l,xs,y,rfl,rfl,hH,hz,q⟩:=h;cases rx;obtain⟨u,rfl,ru⟩:=rv.one;obtain⟨z,its,n,r,hl,e⟩:=I.lstM hH;refine call_meets F.slot_list_append ⟨_,e,rfl⟩ F.entry_list_append (F.args_list_append_2 _ _) (PySem.list_append l its.toArray n u (by rw[List.size_toArray];omega)) ⟨e,?_⟩
 refine⟨.non,_,I.lset (its':=its++[u]) hH e (by simp) (r.append (.cons ru .nil)) ?_,rfl,q⟩
 rw[List.length_append,List.length_singleton];omega
def rCat:R2:=fun x y H Q=>∃l b xs zs,x=.ref l/\y=.ref b/\H l=some (.lst xs)/\H b=some (.lst zs)/\xs.length+zs.length<=sizeLine/\∀p,H p=none->Q (.ref p) (upd H p (.lst (xs++zs)))
theorem ax0:OpR X (binaryOp .Add) rCat:=by
 intro jv s σ H x y v u Q I rx ry h;obtain⟨l,b,xs,zs,rfl,rfl,hH,hB,hz,q⟩:=h;cases rx;cases ry;obtain⟨z,its,n,r,hl,e⟩:=I.lstM hH;obtain⟨z2,its2,n2,r2,hl2,e2⟩:=I.lstM hB;refine PySem.P.add_list e e2 ?_ (by rw[List.size_toArray,List.size_toArray];omega)
 have ea:its.toArray++its2.toArray=(its++its2).toArray:=by simp
 rw[ea];exact⟨.ref _,_,I.lnew (t':=s.toks) (r.append r2) (by rw[List.length_append];omega),rfl,q _ I.fresh⟩
def rRep:R2:=fun x y H Q=>∃l k xs,x=.ref l/\y=.int k/\H l=some (.lst xs) /\ -(2 ^ 63)<=k/\k < 2 ^ 63/\xs.length*k.toNat<=sizeLine /\
 ∀p,H p=none->Q (.ref p) (upd H p (.lst (List.replicate k.toNat xs).flatten))
theorem len_rep{α:Type}(xs:List α)(k:Nat):(List.replicate k xs).flatten.length=k*xs.length:=by
 induction k with
 | zero=>simp
 | succ k ih=>rw[List.replicate_succ,List.flatten_cons,List.length_append,ih,Nat.succ_mul,Nat.add_comm]
theorem axw:OpR X (binaryOp .Mult) rRep:=by
 intro jv s σ H x y v u Q I rx ry h;obtain⟨l,k,xs,rfl,rfl,hH,h1,h2,hz,q⟩:=h;cases rx;obtain⟨t,rfl⟩:=ry;obtain⟨z,its,n,r,hl,e⟩:=I.lstM hH;have hlen:its.toArray.size*k.toNat<=sizeLine:=by rw[List.size_toArray,<-hl];exact hz
 have hcap:¬its.toArray.size*k.toNat > (2 ^ 63 - 1) / 8:=by
  have:(sizeLine:Nat)<=(2 ^ 63 - 1) / 8:=by decide
  omega
 have hfit:¬(!Builtin.List.listFitsIndex k)=true:=by
  rw[fitsIndex_both h1 h2];exact Bool.false_ne_true
 have hlong:¬Builtin.List.listTooLong (its.toArray.size*k.toNat)=true:=by
  rw[asj hlen];exact Bool.false_ne_true
 have hnew:List.foldl (fun x1 x2=>x1++x2) #[] (List.replicate (if its.toArray.isEmpty=true then 0 else k.toNat) its.toArray)=(List.replicate k.toNat its).flatten.toArray:=by
  have f0:∀m:Nat,List.foldl (fun x1 x2=>x1++x2) #[] (List.replicate m its.toArray)=(List.replicate m its).flatten.toArray:=fun m=>by
   have:=foldl_rep its m [];rw[List.nil_append] at this;exact this
  rw[f0];cases its with
  | nil=>simp
  | cons a r'=>rw[if_neg (by simp)]
 refine wpAny_binaryOp_repeat_ref (T := "list") (U := "int") (by decide) ⟨_,e,rfl⟩ (fun s'=>typeIs_int s' k t) noFill_list_mul F.fills_int_mul F.slot_int_rmul repeat_list F.slot_int_index.lookup
  (call_meets F.slot_int_rmul (typeIs_int s k t) F.entry_int_rmul (F.args_int_rmul_2 _ _) (int___rmul___int_list k t l its.toArray n)
   ⟨e,rfl,⟨_,e,rfl⟩,call_meets F.slot_list_mul ⟨_,e,rfl⟩ F.entry_list_mul (F.args_list_mul_2 _ _) (AutoListH.list___mul___list_int_3 l its.toArray n k t hfit hcap hlong) ⟨e,?_⟩⟩)
 rw[hnew];exact⟨.ref _,_,I.lnew (t':=s.toks) (r.rep k.toNat) (by rw[len_rep,Nat.mul_comm];exact hz),rfl,q _ I.fresh⟩
end
section
variable{prog:Program}{w:World}{A:Around}{E:Value->Shared->Prop}{s:Shared}
end
section
variable{X:Cx}
end
end L2
namespace Att
open PySem PySem.W PySem.Calls PyProof.Rows
theorem ae6{P:Params}{h:Heap}:∀(ns:List Int) (vs:List Value),WellAll P h vs (ns.map WData.int)->IntsAre vs ns:=by
 intro ns
 induction ns with
 | nil =>
  intro vs w;rw[List.map_nil] at w;cases w;exact .nil
 | cons n ns ih =>
  intro vs w;rw[List.map_cons] at w;cases w with
  | cons a b =>
   cases a;exact .cons _ _ (ih _ b)
theorem aox{l:OpenLaw}{n:Nat}(hn:l.most=some n){P:Params}{h:Heap}{args:List WData}{vals:List Value}
  (hpre:l.row.toRowW.claim.pre args=true) (hwl:WellAll P h vals args) :
  ∃a vs ns,vals=[Value.ref a]/\args=[WData.list (ns.map WData.int)]/\h.get? a=some { cls:=.type "list", data:=.seq vs.toArray }/\IntsAre vs ns/\ns.length<=n:=by
 have hsh:WShape.hasAll [] args [.list .int]=true:=(pre_splitW hpre).1;have hc:l.pre.holds [] { args:=args }=true:=(pre_splitW hpre).2;obtain⟨d,r,rfl,h1,h2⟩:=hasAllW_cons hsh;obtain rfl:=hasAllW_nil h2;obtain⟨xs,rfl,h3⟩:=hasW_list h1;obtain⟨ns,rfl⟩:=items_int h3;have hlen:ns.length<=n:=by
  unfold OpenLaw.pre at hc;have h4:(WTm.not (.lt (.lit (.int (n:Int))) (.len (.arg 0)))).holds [] { args:=[.list (ns.map .int)] }=true:=by
   have h4:=(holds_andW hc).1;rw[hn] at h4;exact h4
  have h5:=condW_of h4 (w_not (w_lt w_lit (w_len_list (w_arg rfl))));rw[List.length_map] at h5;refine Nat.le_of_not_lt fun q =>?_
  have q':(n:Int) < ((ns.length:Nat):Int):=by omega
  first
   | (rw[decide_eq_true q'] at h5;exact absurd h5 (by decide))
   | (simp at h5;omega)
 cases hwl with
 | cons w1 w2 =>
  cases w2;cases w1 with
  | list ho hall=>exact⟨_,_,ns,rfl,rfl,ho,ae6 ns _ hall,hlen⟩
theorem ao7(l:OpenLaw)(args:List WData):l.row.toRowW.claim.post args (.bool true) args=true :=
 postW_of (r:=l.row.toRowW) (X:=(true==true))
  (show WShape.has [] (.bool true) .bool=true by first | rfl | decide | simp[WShape.has,WShape.arms,WShape.armsAll])
  (show(WTm.eq .res (.lit (.bool true))).value [] { args:=args,res:=some (.bool true),after:=args }=some (.bool (true==true)) from w_eq_bool (w_res rfl) w_lit) rfl
theorem alg{l:OpenLaw}{n:Nat}{q:Program}{loose:List Str}{XP:(Str->Option Value)->Heap->Prop}{YP:World->Heap->Prop}{d:DefRec}
  (hn:l.most=some n) (hdf:d.params.defaults=[])
  (call:∀(w:World) (s₀ s₁:Shared) (mg mb:Str->Option Value) (fa:Addr) (o:Obj) (pm cd doc:Value) (a:Addr) (vs:List Value) (ns:List Int),
   Ground q loose [] XP w s₀ mg mb s₁.heap->YP w s₁.heap ->
   s₁.heap.get? fa=some o->o.data=.func (docDef d.name d.params d.body d.scope pm cd doc)->s₁.heap.CodeRec cd d.name->mg d.name=some (.ref fa) ->
   s₁.heap.get? a=some { cls:=.type "list", data:=.seq vs.toArray }->IntsAre vs ns->ns.length<=n->s₁.gens = #[] ->
   codeAny (model l.prog w) callerA (.call (.ref fa) ⟨[.ref a],[]⟩) (fun r s'=>r=.ok (.ret (.bool true))/\OldK s₁.heap s'.heap/\s'.os=s₁.os/\AllBare s'.gens) s₁) :
  WalkO q loose XP YP l.row.toRowW d [] (fun f vs=>PySem.call f vs):=by
 intro w s₀ s₁ mg mb G Y fa o pm cd doc dV kV ho hd hcd hD hmg hg args vals as hpre hlay hrd hwl hlo;obtain rfl:dV=.none:=Dflts.none hD hdf;obtain rfl:kV=.none:=Dflts.noKw hD;obtain⟨a,vs,ns,rfl,rfl,hobj,hints,hlen⟩:=aox hn hpre hwl;refine enter_call (codeAny_mono (call w s₀ s₁ mg mb fa o pm cd doc a vs ns G Y ho (fd_plain hd) hcd hmg hobj hints hlen hg) fun r s' hq =>?_)
 obtain⟨rfl,h2,h3,h4⟩:=hq;exact⟨.inl ⟨.bool true,.bool true,[],rfl,fun _=>rfl,.bool true,ao7 l _,fun _=>⟨List.Pairwise.nil,fun _ hm=>(nomatch hm)⟩⟩,h2,h3,h4⟩
section
variable{prog:Program}{w:World}{A:Around}{E:Value->Shared->Prop}{s:Shared}{K:Frag}
end
end Att
namespace L2
theorem ah3:∀{vs:List Value} {ns:List Int},IntsAre vs ns->Vals (ns.map V.int) vs
 | _,_,.nil=>.nil
 | _,_,.cons n t h=>.cons ⟨t,rfl⟩ (ah3 h)
def Only(H:Hp):Prop:=∀b,H b=none∨∃o xs,H b=some (.frz o (.lst xs))
theorem asr{P:Program}{w:World}{K:Fg9}{mg mb:Str->Option Value}{CX:CXT}{k:Nat}{fa a:Addr}{fd:FuncData}{x:Str}{sp:Sp}{s₁:Shared}{vs:List Value}{ns:List Int}
  (KX:K.In s₁.heap) (hns:s₁.heap.Ns mainGlobals mg) (hb:s₁.heap.Ns builtinsNs mb) (hbb:∀x:Str,x ≠ "__name__" -> mb x=bootBuiltins x) (hlim:s₁.heap.NoLimit) (hg:s₁.gens = #[])
  (ha:s₁.heap.get? a=some { cls:=.type "list", data:=.seq vs.toArray }) (hi:IntsAre vs ns) (hl:ns.length<=sizeLine) (hr:Room k callerA)
  (F:∀base:Heap,K.In base->base.Ns mainGlobals mg->FnOk P w K mg base CX k fa fd [x] sp) (hbind:∀(s:Shared) (u:Value),BindsTo s fd ⟨[u],[]⟩ [(x,u)])
  (hsp:∀H:Hp,Only H->SqL K H a (ns.map V.int)->sp [.ref a] H (fun v _=>v=.bl true) fun _ _ _=>False)
  (hCX:∀H e s',CX [] H s₁ (fun _ _ _=>False) e s'->False) :
  codeAny (model P w) callerA (.call (.ref fa) ⟨[.ref a],[]⟩) (fun r s'=>r=.ok (.ret (.bool true))/\OldK s₁.heap s'.heap/\s'.os=s₁.os/\AllBare s'.gens) s₁:=by
 have rv:=ah3 hi;have lenV:=hi.length;have core:∀H:Hp,Only H->SqL K H a (ns.map V.int)->HOk P w H s₁.heap->(∀b,H b≠none->b=a)->(H a≠none->K.lookup a=none) ->
   codeAny (model P w) callerA (.call (.ref fa) ⟨[.ref a],[]⟩) (fun r s'=>r=.ok (.ret (.bool true))/\OldK s₁.heap s'.heap/\s'.os=s₁.os/\AllBare s'.gens) s₁:=by
  intro H hO hS hok hA hK;have base_of:∀{b:Addr} {o:Obj},s₁.heap.get? b=some o->H b=none->(hidT s₁.heap H).get? b=some o:=fun e n=>asx e n
  have noA:∀{b:Addr} {o:Obj} {es:Array DictEntry} {ep:Nat},s₁.heap.get? b=some o->o.data=.dict es ep->H b=none:=fun{b o es ep} e d=>by
   cases q:H b with
   | none=>rfl
   | some u =>
    have e':b=a:=hA b (by rw[q];simp)
    subst e';rw[ha] at e;cases e;have d':Data.seq vs.toArray _=Data.dict es ep:=d;cases d'
  have nsK:∀{b:Addr} {m:Str->Option Value},s₁.heap.Ns b m->(hidT s₁.heap H).Ns b m:=fun{b m} ⟨o,es,ep,e,d,r⟩=>⟨o,es,ep,base_of e (noA e d),d,r⟩
  have hKb:K.In (hidT s₁.heap H):=fun b o e=>base_of (KX b o e) (by
   cases q:H b with
   | none=>rfl
   | some u =>
    have e':b=a:=hA b (by rw[q];simp)
    subst e';rw[hK (by rw[q];simp)] at e;cases e)
  have hM:Mod K mg (hidT s₁.heap H):=⟨hKb,nsK hns,⟨mb,nsK hb,hbb⟩,let ⟨mc,h1,h2⟩:=hlim;⟨mc,nsK h1,h2⟩⟩
  have e0:Env0 P w K mg (hidT s₁.heap H) callerA [] s₁ H:=⟨rfl,hM,fun b o e=>avd e,Nat.le_of_eq (apy _ _),trivial,fun b hb=>absurd (show b∈([]:List Addr) from hb) (by simp),hok,.of_eq hg⟩
  refine codeAny_mono ((F _ hKb (nsK hns)).run callerA [] s₁ H ⟨[.ref a],[]⟩ [.ref a] [.ref a] _ _ hr e0 (hbind s₁ (.ref a)) (.cons rfl .nil) (hsp H hO hS)) fun r s' h =>?_
  cases r with
  | error e=>exact(hCX H e s' h).elim
  | ok fl =>
   cases fl with
   | next=>exact False.elim h
   | brk=>exact False.elim h
   | cont=>exact False.elim h
   | ret u =>
    obtain⟨v,H',os,bare,un,hok',r',q⟩:=h;have q':v=.bl true:=q;subst q';obtain rfl:u=Value.bool true:=r';refine⟨rfl,OldK.of_keep fun b o e =>?_,os,bare⟩
    cases q:H b with
    | none=>exact un.keep b o e q (by intro z;exact absurd (show b∈([]:List Addr) from z) (by simp)) (by simp)
    | some u =>
     rcases hO b with z | ⟨ob,xs,z⟩
     ·rw[q] at z;cases z
     ·have z2:=un.frzs b ob _ z;obtain⟨e1,_⟩:=hok b _ z;obtain⟨e2,_⟩:=hok' b _ z2;rw[e] at e1;cases e1;exact e2
 cases hk:K.lookup a with
 | some o =>
  have e:=KX a o hk;rw[ha] at e;cases e;refine core (fun _=>none) (fun _=>.inl rfl) (.inr ⟨_,vs.toArray,_,hk,rfl,rfl,rfl,by rw[List.size_toArray,lenV];exact hl,by simpa using rv⟩) (fun b u z=>by have z':(none:Option HO)=some u:=z;cases z') (fun b z=>absurd rfl z) fun z=>absurd rfl z
 | none =>
  refine core (fun b=>if b=a then some (.frz { cls:=.type "list", data:=.seq vs.toArray } (.lst (ns.map V.int))) else none) (fun b =>?_) (.inl (.inr ⟨{ cls:=.type "list", data:=.seq vs.toArray },if_pos rfl⟩)) (fun b u z =>?_) (fun b z =>?_) fun _=>hk
  ·by_cases hb:b=a
   ·exact .inr ⟨_,_,if_pos hb⟩
   ·exact .inl (if_neg hb)
  ·by_cases hb:b=a
   ·have z':=(if_pos hb).symm.trans z;cases z';subst hb;exact⟨ha,by rw[List.length_map];exact hl,vs,_,rv,ha⟩
   ·have z':=(if_neg hb).symm.trans z;cases z'
  ·by_cases hb:b=a
   ·exact hb
   ·exact absurd (if_neg hb) z
theorem auc{l:PySem.W.OpenLaw}{n k:Nat}{q:Program}{loose:List Str}{XP:(Str->Option Value)->Heap->Prop}{YP:World->Heap->Prop}{d:DefRec}{K:Params->Fg9}{CX:World->CXT}{sp:World->Sp}{x:Str}
  (hn:l.most=some n) (hn2:n<=sizeLine) (hdf:d.params.defaults=[]) (hr:Room k callerA)
  (hY:∀(w:World) (h:Heap),YP w h->(K w.params).In h)
  (F:∀(w:World) (mg:Str->Option Value) (fa:Addr) (h:Heap),(K w.params).In h->h.Ns mainGlobals mg->mg d.name=some (.ref fa) ->
   ∃fd:FuncData,(∀(s:Shared) (u:Value),BindsTo s fd ⟨[u],[]⟩ [(x,u)]) /\
    ∀base:Heap,(K w.params).In base->base.Ns mainGlobals mg->FnOk l.prog w (K w.params) mg base (CX w) k fa fd [x] (sp w))
  (hsp:∀(w:World) (H:Hp) (a:Addr) (ns:List Int),ns.length<=n->Only H->SqL (K w.params) H a (ns.map V.int)->sp w [.ref a] H (fun v _=>v=.bl true) fun _ _ _=>False)
  (hCX:∀(w:World) (H:Hp) (s:Shared) (e:Value) (s':Shared),CX w [] H s (fun _ _ _=>False) e s'->False) :
  PySem.W.WalkO q loose XP YP l.row.toRowW d [] (fun f vs=>PySem.call f vs):=by
 refine Att.alg hn hdf fun w s₀ s₁ mg mb fa o pm cd doc a vs ns G Y ho hd hcd hmg hobj hints hlen hg =>?_
 have KX:=hY w _ Y;obtain⟨fd,hb,hF⟩:=F w mg fa _ KX G.T.g hmg;exact asr KX G.T.g G.T.b G.T.builtins G.T.nolimit hg hobj hints (Nat.le_trans hlen hn2) hr hF hb (fun H hO hS=>hsp w H a ns hlen hO hS) fun H e s'=>hCX w H s₁ e s'
def jx(s:Stmt):Arguments:=match s with
 | .FunctionDef _ a _ _ _ _ _ _ _ _=>a
 | _=>{ posonlyargs:=[],args:=[],vararg:=none,kwonlyargs:=[],kw_defaults:=[],kwarg:=none,defaults:=[] }
def jj(s:Stmt):List Stmt:=match s with
 | .FunctionDef _ _ b _ _ _ _ _ _ _=>b
 | _=>[]
def ak(s:Stmt):Scope:=match s with
 | .FunctionDef _ _ _ _ _ _ sc _ _ _=>sc
 | _=>{ kind:=.function,names:=[],isGenerator:=false,isCoroutine:=false }
abbrev CX0:CXT:=fun _ _ _ _ _ _=>False
abbrev E0:XK:=fun _ _ _=>False
theorem a0y{X:Cx}:ara CX0 X E0:=fun _ _ _ _ _ _ _ h=>h.elim
structure Fun (K:Fg9) (x qual:Str) (st:Stmt) (f:Addr) (fd:FuncData):Prop where
 ex:∃(oc:Value) (od:Option Addr) (kV doc pm:Value) (an:Option Addr) (cdv ct:Value) (osl:Array (Option Value)),
  fd=fnOf x qual (jx st) (jj st) (ak st) .none kV doc pm an cdv ct/\K.lookup f=some ⟨oc,od,.func fd,osl⟩/\codeIn K cdv qual=true
 kp:keepIn K (.ref f)=true
section
variable{P:Program}{w:World}{K:Fg9}{mg:Str->Option Value}{base:Heap}
theorem Fun.ok{x qual:Str}{st:Stmt}{f:Addr}{fd:FuncData}{N ps:List Str}{k:Nat}{sp:Sp}(F:Fun K x qual st f fd)(S:FnScope N ps (ak st))(len:∀vs H Q E,sp vs H Q E->vs.length=ps.length)
  (hbody:∀(cdv:Value) (A:Around) (outer:List Env) (s:Shared) (H:Hp) (vs:List V) (Q:VK) (E:XK),Room k (A.deeper (envOfC qual (ak st) s.heap.objs.size f cdv))->sp vs H Q E ->
   ∃t,PSs (cxOf CX0 P w K mg base N qual (ak st) f cdv A outer s H E).nox (jj st) t/\t { nx:=fun _ H'=>Q .non H',rt:=Q } (start N vs) H):FnOk P w K mg base CX0 (k+1) f fd ps sp:=by
 obtain⟨oc,od,kV,doc,pm,an,cdv,ct,osl,rfl,lk,hcd⟩:=F.ex;refine a1t lk hcd S len fun A outer s H vs Q E hr hsp =>?_
 obtain⟨t,h,q⟩:=hbody cdv A outer s H vs Q E hr hsp;exact⟨t,h.nox,q⟩
theorem Fun.binds{x qual:Str}{st:Stmt}{f:Addr}{fd:FuncData}{ps:List Str}(F:Fun K x qual st f fd)
  (h:∀(kV doc pm:Value) (an:Option Addr) (cdv ct:Value) (us:List Value),us.length=ps.length->bindArgs (fnOf x qual (jx st) (jj st) (ak st) .none kV doc pm an cdv ct) ⟨us,[]⟩=pure (ps.zip us)):Binds K fd ps []:=by
 obtain⟨oc,od,kV,doc,pm,an,cdv,ct,osl,rfl,lk,hcd⟩:=F.ex;exact .all (h kV doc pm an cdv ct)
theorem at5{x qual:Str}{st:Stmt}{f:Addr}{oc:Value}{od an:Option Addr}{osl:Array (Option Value)}{kV doc pm cdv ct:Value}(l:K.lookup f=some ⟨oc,od,.func (fnOf x qual (jx st) (jj st) (ak st) .none kV doc pm an cdv ct),osl⟩)
  (c:codeIn K cdv qual=true) (k:keepIn K (.ref f)=true):Fun K x qual st f (fnOf x qual (jx st) (jj st) (ak st) .none kV doc pm an cdv ct):=⟨⟨oc,od,kV,doc,pm,an,cdv,ct,osl,rfl,l,c⟩,k⟩
end
theorem ack{n:Nat}(h:n<=1000):n < sizeLine:=Nat.lt_of_le_of_lt h (by decide)
section
variable{X:Cx}
theorem pv(i:Nat){x:Str}{pos:Pos}(hN:X.N[i]? = some x:=by rfl)(hv:Vis X.env.scope x:=by first | exact Or.inl rfl | exact Or.inr (Or.inl rfl) | exact Or.inr (Or.inr rfl))(hd:(x==("__debug__" : Str))=false:=by decide)
  (hcd:(x==("__classdict__" : Str))=false:=by decide):PE X (.Name x pos) (tVar i):=axi hN hv hd hcd
end
theorem iteF{A B:Prop}(h:B):if false=true then A else B:=by
 rw[if_neg Bool.false_ne_true];exact h
theorem iteT{A B:Prop}(h:A):if true=true then A else B:=by
 rw[if_pos rfl];exact h
def Same(H H':Hp):Prop:=∀b o,H b=some o->H' b=some o
theorem Same.refl(H:Hp):Same H H:=fun _ _ h=>h
theorem Same.trans{H H1 H2:Hp}(a:Same H H1)(b:Same H1 H2):Same H H2:=fun c o h=>b c o (a c o h)
theorem Same.seq{K:Fg9}{H H':Hp}{a:Addr}{xs:List V}(e:Same H H')(h:SqL K H a xs):SqL K H' a xs:=by
 rcases h with(h | ⟨o,h⟩) | h
 ·exact .inl (.inl (e _ _ h))
 ·exact .inl (.inr ⟨o,e _ _ h⟩)
 ·exact .inr h
end L2
namespace Mn
open L2
def yl(env:Env)(fr:List Str):List (Str×Addr):=fr.filterMap fun n=>(env.cells.lookup n).map fun c=>(n,c)
theorem afo{env:Env}{n:Str}{r:List Str}(e:env.cells.lookup n=none):yl env (n::r)=yl env r:=by
 unfold yl;rw[List.filterMap_cons,e];rfl
theorem acg{env:Env}{n:Str}{r:List Str}{c:Addr}(e:env.cells.lookup n=some c):yl env (n::r)=(n,c)::yl env r:=by
 unfold yl;rw[List.filterMap_cons,e];rfl
theorem look_same{x:Str}{c:Addr}{l:List (Str×Addr)}:List.lookup x ((x,c)::l)=some c:=by
 have hb:(x==x)=true:=beq_iff_eq.mpr rfl;simp only[List.lookup,hb]
theorem af9{x n:Str}{c:Addr}{l:List (Str×Addr)}(h:x≠n):List.lookup x ((n,c)::l)=l.lookup x:=by
 have hb:(x==n)=false:=beq_eq_false_iff_ne.mpr h;simp only[List.lookup,hb]
theorem qg{env:Env}:∀{fr:List Str} {x:Str} {c:Addr},(yl env fr).lookup x=some c->env.cells.lookup x=some c
 | [],x,c,h=>by
  have h':(none:Option Addr)=some c:=h;cases h'
 | n::r,x,c,h=>by
  cases e:env.cells.lookup n with
  | none =>
   rw[afo e] at h;exact qg h
  | some d =>
   rw[acg e] at h
   by_cases hx:x=n
   ·subst hx;rw[look_same] at h;rw[e];exact h
   ·rw[af9 hx] at h;exact qg h
theorem abk{env:Env}:∀{fr:List Str} {x:Str} {c:Addr},x∈fr->env.cells.lookup x=some c->(yl env fr).lookup x=some c
 | [],x,c,hm,h=>absurd hm (by simp)
 | n::r,x,c,hm,h=>by
  by_cases hx:x=n
  ·subst hx;rw[acg h,look_same]
  ·have hm':x∈r:=(List.mem_cons.mp hm).elim (fun e=>absurd e hx) id
   cases e:env.cells.lookup n with
   | none =>
    rw[afo e];exact abk hm' h
   | some d =>
    rw[acg e,af9 hx];exact abk hm' h
def aek(XN fr:List Str):List Str->List (Option Nat)->Bool
 | [],[]=>true
 | _::N,none::r=>aek XN fr N r
 | x::N,some j::r=>XN[j]? == some x&&fr.contains x&&aek XN fr N r
 | _,_=>false
theorem aej{XN fr:List Str}:∀{N:List Str} {src:List (Option Nat)} {i j:Nat} {x:Str},aek XN fr N src=true->N[i]? = some x->src[i]? = some (some j)->XN[j]? = some x/\x∈fr
 | [],[],i,j,x,_,h,_=>by simp at h
 | [],_::_,i,j,x,_,h,_=>by simp at h
 | _::_,[],i,j,x,_,_,h=>by simp at h
 | y::N,none::r,0,j,x,_,_,h=>by simp at h
 | y::N,none::r,i+1,j,x,hk,h1,h2=>aej (N:=N) (src:=r) (i:=i) hk (by simpa using h1) (by simpa using h2)
 | y::N,some k::r,0,j,x,hk,h1,h2=>by
  simp only[aek,Bool.and_eq_true] at hk;obtain⟨⟨a,b⟩,_⟩:=hk;simp at h1 h2;subst h1 h2;exact⟨by simpa using a,by simpa using b⟩
 | y::N,some k::r,i+1,j,x,hk,h1,h2=>by
  simp only[aek,Bool.and_eq_true] at hk;exact aej (N:=N) (src:=r) (i:=i) hk.2 (by simpa using h1) (by simpa using h2)
theorem aei{XN fr:List Str}:∀{N:List Str} {src:List (Option Nat)},aek XN fr N src=true->src.length=N.length
 | [],[],_=>rfl
 | [],_::_,h=>by simp[aek] at h
 | _::_,[],h=>by simp[aek] at h
 | _::N,none::r,h=>by
  have:=aei (N:=N) (src:=r) h;simp[this]
 | _::N,some k::r,h=>by
  simp only[aek,Bool.and_eq_true] at h;have:=aei (N:=N) (src:=r) h.2;simp[this]
def pick(src:List (Option Nat))(σ:L2.St):L2.St:=src.map fun o=>o.bind fun j=>(σ[j]?).bind id
theorem arz{src:List (Option Nat)}{σ:L2.St}{i:Nat}{v:V}(h:(pick src σ)[i]? = some (some v)):∃j,src[i]? = some (some j)/\σ[j]? = some (some v):=by
 unfold pick at h;rw[List.getElem?_map] at h;cases e:src[i]? with
 | none=>rw[e] at h;cases h
 | some o =>
  rw[e] at h;have h':(o.bind fun j=>(σ[j]?).bind id)=some v:=Option.some.inj h
  cases o with
  | none=>cases h'
  | some j =>
   refine⟨j,rfl,?_⟩;have h2:(σ[j]?).bind id=some v:=h';cases q:σ[j]? with
   | none=>rw[q] at h2;cases h2
   | some z =>
    rw[q] at h2;have h3:z=some v:=h2;rw[h3]
def agm(env:Env)(XN:List Str)(scope:Scope)(fr N:List Str)(src:List (Option Nat)):Bool :=
 scope.names.all (fun y=>y.2 != .cell&&(y.2 != .local||scope.names.lookup y.1==some .local)&&(y.2 != .free||fr.contains y.1)) &&
 fr.all (fun x=>scope.names.lookup x==some .free&&(env.kindOf x==some .cell||env.kindOf x==some .free))&&aek XN fr N src
structure CompOk (env:Env) (XN:List Str) (scope:Scope) (fr N:List Str) (src:List (Option Nat)):Prop where
 cell:∀y∈scope.names,y.2≠.cell
 loc:∀y∈scope.names,y.2=.local->scope.names.lookup y.1=some .local
 free:∀y∈scope.names,y.2=.free->y.1∈fr
 frk:∀x∈fr,scope.names.lookup x=some .free
 out:∀x∈fr,env.kindOf x=some .cell∨env.kindOf x=some .free
 src:aek XN fr N src=true
theorem CompOk.of{env:Env}{XN:List Str}{scope:Scope}{fr N:List Str}{src:List (Option Nat)}(h:agm env XN scope fr N src=true):CompOk env XN scope fr N src:=by
 simp only[agm,Bool.and_eq_true,List.all_eq_true] at h;obtain⟨⟨h1,h2⟩,h3⟩:=h;refine⟨fun y hy =>?_,fun y hy e =>?_,fun y hy e =>?_,fun x hx =>?_,fun x hx =>?_,h3⟩
 ·have:=(h1 y hy).1.1
  simpa using this
 ·have:=(h1 y hy).1.2;rw[e] at this
  simpa using this
 ·have:=(h1 y hy).2;rw[e] at this
  simpa using this
 ·have:=(h2 x hx).1
  simpa using this
 ·have:=(h2 x hx).2
  simpa using this
theorem ad1{env:Env}:∀{names:List (Str×NameKind)} {x:Str} {k:NameKind},
  (names.map fun(n,k)=>if (k==NameKind.free&&env.scope.kind==.function&&env.kindOf n==some .cell) then (n,NameKind.cell) else (n,k)).lookup x=some k ->
  ∃k0,names.lookup x=some k0/\(k=k0∨(k0=.free/\k=.cell))
 | [],x,k,h=>by simp at h
 | (n,q)::r,x,k,h=>by
  by_cases hx:x=n
  ·subst hx;have hb:(x==x)=true:=beq_iff_eq.mpr rfl;refine⟨q,by simp only[List.lookup,hb],?_⟩
   by_cases hc:(q==NameKind.free&&env.scope.kind==.function&&env.kindOf x==some .cell)=true
   ·rw[List.map_cons] at h;simp only[hc,if_true,List.lookup,hb] at h;simp only[Bool.and_eq_true] at hc;exact .inr ⟨by simpa using hc.1.1,(Option.some.inj h).symm⟩
   ·rw[List.map_cons] at h;simp only[hc,List.lookup,hb] at h;exact .inl (by simpa using h.symm)
  ·have hb:(x==n)=false:=beq_eq_false_iff_ne.mpr hx;have h':(r.map fun(n,k)=>if (k==NameKind.free&&env.scope.kind==.function&&env.kindOf n==some .cell) then (n,NameKind.cell) else (n,k)).lookup x=some k:=by
    rw[List.map_cons] at h
    by_cases hc:(q==NameKind.free&&env.scope.kind==.function&&env.kindOf n==some .cell)=true
    ·simp only[hc,if_true,List.lookup,hb] at h;exact h
    ·have h2:List.lookup x ((if (q==NameKind.free&&env.scope.kind==.function&&env.kindOf n==some .cell)=true then (n,NameKind.cell) else (n,q))::(r.map fun(n,k)=>if (k==NameKind.free&&env.scope.kind==.function&&env.kindOf n==some .cell) then (n,NameKind.cell) else (n,k)))=some k:=h
     rw[if_neg hc] at h2;simp only[List.lookup,hb] at h2;exact h2
   obtain⟨k0,e,d⟩:=ad1 h';exact⟨k0,by simp only[List.lookup,hb];exact e,d⟩
theorem aal{env:Env}:∀{names:List (Str×NameKind)} {x:Str},names.lookup x=some .free ->
  (names.map fun(n,k)=>if (k==NameKind.free&&env.scope.kind==.function&&env.kindOf n==some .cell) then (n,NameKind.cell) else (n,k)).lookup x=some .free ∨
  (names.map fun(n,k)=>if (k==NameKind.free&&env.scope.kind==.function&&env.kindOf n==some .cell) then (n,NameKind.cell) else (n,k)).lookup x=some .cell
 | [],x,h=>by simp at h
 | (n,q)::r,x,h=>by
  by_cases hx:x=n
  ·subst hx;have hb:(x==x)=true:=beq_iff_eq.mpr rfl;simp only[List.lookup,hb] at h;have hq:q=.free:=Option.some.inj h;subst hq
   by_cases hc:(NameKind.free==NameKind.free&&env.scope.kind==.function&&env.kindOf x==some .cell)=true
   ·right
    rw[List.map_cons];simp only[hc,if_true,List.lookup,hb]
   ·left
    show List.lookup x ((if (NameKind.free==NameKind.free&&env.scope.kind==.function&&env.kindOf x==some .cell)=true then (x,NameKind.cell) else (x,NameKind.free))::_)=some NameKind.free
    rw[if_neg hc];simp only[List.lookup,hb]
  ·have hb:(x==n)=false:=beq_eq_false_iff_ne.mpr hx;simp only[List.lookup,hb] at h;rw[List.map_cons]
   by_cases hc:(q==NameKind.free&&env.scope.kind==.function&&env.kindOf n==some .cell)=true
   ·simp only[hc,if_true,List.lookup,hb];exact aal h
   ·simp only[hc,List.lookup,hb]
    simpa[List.lookup,hb] using aal (env:=env) h
def cxC(X:Cx)(N:List Str)(scope:Scope)(fr:List Str)(fp:List Addr)(s:Shared)(H:Hp):Cx where
 prog:=X.prog
 w:=X.w
 K:=X.K
 mg:=X.mg
 base:=X.base
 A:=X.A
 N:=N
 s₀:=s
 H₀:=H
 env:=compEnvC scope (yl X.env fr) s.heap.objs.size X.env
 outer:=X.stack
 stack:=X.stack
 ex:=fp
 fn:=fun _=>false
 calm:=X.calm
 pn:=[]
 xe:=fun _ _=>False
section
variable{X:Cx}{jv:List (Addr×Obj)}{σ:L2.St}{H:Hp}{s:Shared}{scope:Scope}{fr N:List Str}{src:List (Option Nat)}{fp:List Addr}
theorem ay5(I:Inv X jv σ H s)(C:CompOk X.env X.N scope fr N src)(hkind:scope.kind=.function)(hf:∀b∈fp,FpOk X jv H b)(hl:∀b∈fp,b < s.heap.objs.size):(cxC X N scope fr fp s H).Ok where
 mod:=I.ok.mod
 kind:=hkind
 glob:=I.ok.glob
 blt:=I.ok.blt
 above:=Nat.le_refl _
 inj:=fun x y c h1 h2=>I.ok.inj x y c (qg h1) (qg h2)
 has:=fun x hx=>by
  have mem:∀k,(k=NameKind.cell∨k=NameKind.free)->(cxC X N scope fr fp s H).env.kindOf x=some k->x∈fr:=fun k hk e=>by
   obtain⟨k0,e0,d⟩:=ad1 (env:=X.env) (names:=scope.names) e;have hm:=PySem.mem_of_lookup e0;rcases d with rfl | ⟨rfl,_⟩
   ·rcases hk with rfl | rfl
    ·exact absurd rfl (C.cell _ hm)
    ·exact C.free _ hm rfl
   ·exact C.free _ hm rfl
  have hm:x∈fr:=by
   rcases hx with e | e
   ·exact mem _ (.inl rfl) e
   ·exact mem _ (.inr rfl) e
  obtain⟨c,hc⟩:=I.ok.has x (C.out x hm);exact⟨c,abk hm hc⟩
 cab:=fun _ _ h _=>absurd h Bool.false_ne_true
 hd:=I.ok.hd
 frames:=I.ok.frames
 stk:=.inl rfl
 exf:=fun b hb=>⟨Nat.ne_of_lt (hl b hb),fun x c e=>(hf b hb).2.2.2.2.1 x c (qg e)⟩
 bs:=I.bs
 bsz:=Nat.le_trans I.ok.bsz I.sz
 noex:=fun b o e hb=>by
  rcases(hf b hb).2.2.2.1 with z | z
  ·exact I.ok.noex b o e z
  ·exact absurd (Nat.lt_of_lt_of_le (Heap.lt_size e) (Nat.le_trans I.ok.bsz z)) (Nat.lt_irrefl _)
 exfs:=fun b hb z=>by
  rcases List.mem_cons.mp (I.stkSub b z) with e | e
  ·exact(hf b hb).2.1 e
  ·exact(hf b hb).2.2.1 e
 funs:=I.stack
 frf:=I.stkFree
theorem amo(I:Inv X jv σ H s)(C:CompOk X.env X.N scope fr N src)(hkind:scope.kind=.function)(hf:∀b∈fp,FpOk X jv H b)(hl:∀b∈fp,b < s.heap.objs.size){h':Heap}{tk:Nat}{m:Str->Option Value}
  (hns:h'.Ns s.heap.objs.size m) (hk:∀b o,s.heap.get? b=some o->h'.get? b=some o):Inv (cxC X N scope fr fp s H) [] (pick src σ) H { s with heap:=h',toks:=tk } where
 ok:=ay5 I C hkind hf hl
 os:=rfl
 bare:=I.bare
 base:=Un.kept hk
 loc:=by
  refine⟨m,hns,fun i x v h1 h2 h3 =>?_⟩
  obtain⟨j,hj,hv⟩:=arz h2;obtain⟨hN,hm⟩:=aej C.src h1 hj;obtain⟨mo,_,hlo⟩:=I.loc;have vis:Vis X.env.scope x:=by
   rcases C.out x hm with e | e
   ·exact .inr (.inl e)
   ·exact .inr (.inr e)
  obtain⟨u,r,l⟩:=hlo j x v hN hv vis;refine⟨u,r,.inr ⟨?_,?_⟩⟩
  ·rcases aal (env:=X.env) (C.frk x hm) with e | e
   ·exact .inr e
   ·exact .inl e
  ·rcases l with⟨e,_⟩ | ⟨_,c,hc,z⟩
   ·rcases C.out x hm with q | q
    ·rw[q] at e;cases e
    ·rw[q] at e;cases e
   ·obtain⟨o,ho,hd⟩:=z;exact⟨c,abk hm hc,o,hk c o ho,hd⟩
 cell:=fun x c e=>by
  obtain⟨v,o,ho,hd⟩:=I.cell x c (qg e);exact⟨v,o,hk c o ho,hd⟩
 free:=I.hok.fresh (Nat.le_refl _)
 freeC:=fun x c e=>I.freeC x c (qg e)
 pin:=fun p hp=>absurd (show p∈([]:List (Addr×Obj)) from hp) (by simp)
 hok:=I.hok.kept hk
 len:=by
  unfold pick;rw[List.length_map];exact aei C.src
theorem amq{pins':List (Addr×Obj)}{σ':L2.St}{H':Hp}{s':Shared}{h'':Heap}(I:Inv X jv σ H s)(hf:∀b∈fp,FpOk X jv H b)(J:Inv (cxC X N scope fr fp s H) pins' σ' H' s')
  (hs:Heap.SameBut s.heap.objs.size s'.heap h''):Inv X jv σ H' { s' with heap:=h'' }:=by
 have k:∀b o,b≠s.heap.objs.size->s'.heap.get? b=some o->h''.get? b=some o:=fun b o hb e=>(hs.2 b hb).trans e
 have old:∀b o,s.heap.get? b=some o->b≠s.heap.objs.size:=fun b o e=>Nat.ne_of_lt (Heap.lt_size e)
 have un:Un (frs X.stack) fp H H' s.heap h'':=by
  have u:Un (frs X.stack) fp H H' s.heap s'.heap:=J.base;refine⟨fun b o e n hb hx=>k b o (old b o e) (u.keep b o e n hb hx),fun b o e n hb hx =>?_,u.free,fun b o e hx =>?_,u.tups,u.frzs,u.tbls⟩
  ·obtain⟨sl,q⟩:=u.slot b o e n hb hx;exact⟨sl,k b _ (old b o e) q⟩
  ·obtain⟨o',q⟩:=u.there b o e hx;exact⟨o',k b _ (old b o e) q⟩
 have hok:HOk X.prog X.w H' h'':=fun b u e=>by
  have nC:∀c z,H' c=some z->c≠s.heap.objs.size:=fun c z q w=>by
   have f:H' s.heap.objs.size=none:=J.free;rw[w,f] at q;cases q
  refine(J.hok b u e).stay (fun c v hc q=>k c v ?_ q) (fun _ q=>q) fun _ _ q=>q
  rcases hc with z | z
  ·rw[z];exact nC b u e
  ·exact nC c _ z
 have os:s'.os=s.os:=J.os;refine Inv.call' (s':={ s' with heap:=h'' }) I os un hok J.bare fun b hb =>?_
 obtain⟨_,f1,_,f3,f4,f5⟩:=hf b hb;exact⟨f3,f1,f4,f5⟩
end
def aj5(ifs:List Expr)(env:Env):Sem Bool:=forIn ifs true fun c r=>if r=true then do let ok <-isTrue c env (eval c env);pure (ForInStep.yield ok) else pure (ForInStep.yield r)
def PIf(X:Cx)(ifs:List Expr)(t:TT):Prop :=
 ∀(jv:List (Addr×Obj)) (s:Shared) (σ:L2.St) (H:Hp) (Q:Bool->Hp->Prop),Inv X jv σ H s->t σ H Q->wpAny (model X.prog X.w) X.A (aj5 ifs X.env) (TP X jv σ Q) X.xe s
def tYes:TT:=fun _ H Q=>Q true H
theorem au0{X:Cx}:PIf X [] tYes:=fun jv s σ H Q I h=>by
 show wpAny _ _ (pure true) _ _ s;exact wpAny_pure ⟨H,I,h⟩
theorem auz{X:Cx}{c:Expr}{t:TT}(hc:PT X c t):PIf X [c] t:=fun jv s σ H Q I h=>by
 unfold aj5;rw[List.forIn_cons];rw[if_pos rfl];refine wpAny_bind (wpAny_bind (thn (hc jv s σ H _ I h) fun b s1 q=>wpAny_pure ?_))
 show wpAny _ _ (forIn [] b _) _ _ s1;exact wpAny_pure q
section
variable{prog:Program}{w:World}{A:Around}{R:Result->Shared->Prop}{s:Shared}
theorem compLoop{elt target iter:Expr}{ifs:List Expr}{scope:Scope}{pos:Pos}{it acc:Value}{env:Env}(I:Nat->Shared->Prop)
  (turn:∀n s,I n s->wpAny (model prog w) A (pyNext it) (fun r s₁=>match r with
   | none=>R (.ok .next) s₁
   | some v=>wpAny (model prog w) A (letOwnedTupleGo target it v) (fun _ s₁'=>wpAny (model prog w) A (assign target env v) (fun _ s₂ =>
     wpAny (model prog w) A (aj5 ifs env) (fun ok s₃ =>
      if ok=true then wpAny (model prog w) A (eval elt env) (fun x s₄ =>
       wpAny (model prog w) A (call (.builtin "list.append") [acc,x]) (fun _ s₅=>∃m,m < n/\I m s₅) (fun _ _=>False) s₄) (fun _ _=>False) s₃
      else ∃m,m < n/\I m s₃) (fun _ _=>False) s₂) (fun _ _=>False) s₁') (fun _ _=>False) s₁) (fun _ _=>False) s)
  (n:Nat) (h:I n s) :
  codeAny (model prog w) A (.compLoop (.ListComp elt [⟨target,iter,ifs,0⟩] scope pos) 0 it acc env) R s:=by
 refine codeAny_loop rfl I (fun n s hI =>?_) n h
 show wpAny _ A ((compTurn (.ListComp elt [⟨target,iter,ifs,0⟩] scope pos) 0 it acc env).onRaise (fun x=>do noteFrame x env;theTreesLotGoes x)) _ _ s
 refine wpAny_noted ?_;rw[compTurn_list];refine wpAny_bind (wpAny_standAt (wpAny_bind (wpAny_mono (turn n s hI) (fun r s₁ h₁ =>?_) fun _ _ h'=>h'.elim)))
 cases r with
 | none=>exact wpAny_pure h₁
 | some v =>
  refine wpAny_bind (wpAny_mono h₁ (fun _ s₁' h₁' =>?_) fun _ _ h'=>h'.elim)
  refine wpAny_bind (wpAny_mono h₁' (fun _ s₂ h₂=>wpAny_bind (wpAny_mono h₂ (fun ok s₃ h₃ =>?_) fun _ _ h'=>h'.elim)) fun _ _ h'=>h'.elim)
  cases ok with
  | false=>exact wpAny_pure ⟨rfl,h₃⟩
  | true =>
   exact wpAny_bind (wpAny_bind (wpAny_mono h₃ (fun x s₄ h₄=>wpAny_bind (wpAny_mono h₄ (fun _ s₅ h₅=>wpAny_pure (wpAny_pure ⟨rfl,h₅⟩)) fun _ _ h'=>h'.elim)) fun _ _ h'=>h'.elim))
end
def azi(J:It)(g:TG)(ti:TT)(te:TE)(Q:VK)(d:Addr)(σ0:L2.St)(H1:Hp):Prop :=
 ∃W:Nat->Nat->List V->L2.St->Hp->Prop,(∃m,W 0 m [] σ0 (upd H1 d (.lst [])))/\∀i m ys σ H2,W i m ys σ H2->H2 d=some (.lst ys) /\
  ((J.stop i H2/\Q (.ref d) H2)∨(J.go i H2/\∀x H3,J.yld i H2 x H3->g x σ H3 fun σ4 H4=>ti σ4 H4 fun b H5 =>
   if b=true then te σ4 H5 fun y H6=>H6 d=some (.lst ys)/\ys.length < sizeLine/\∃m',m' < m/\W (i+1) m' (ys++[y]) σ4 (upd H6 d (.lst (ys++[y]))) else ∃m',m' < m/\W (i+1) m' ys σ4 H5))
def auk(wi:TI)(g:TG)(ti:TT)(te:TE)(src:List (Option Nat)):TE:=fun σ H Q=>wi σ H fun J H1=>∀d,H1 d=none->azi J g ti te Q d (pick src σ) H1
theorem ajr{X:Cx}{tg iter elt:Expr}{ifs:List Expr}{scope:Scope}{pos:Pos}{J:It}{fp:List Addr}{it d:Addr}{tn:Nat->Heap->Prop}{g:TG}{ti:TT}{te:TE}{Q:VK}{R:Result->Shared->Prop}
  {W:Nat->Nat->List V->L2.St->Hp->Prop} {m0:Nat} {σ0:L2.St} {H0:Hp} {s:Shared} (hc:X.calm=true) (hE:X.xe=fun _ _=>False) (T:Turn X.prog X.w X.K tg J fp it tn)
  (hf:∀H':Hp,(∀b∈fp,H' b=none)->∀b∈fp,FpOk X [] H' b) (hg:PG X tg g) (ht:PIf X ifs ti) (he:PE X elt te)
  (turn:∀i m ys σ H2,W i m ys σ H2->H2 d=some (.lst ys) /\
   ((J.stop i H2/\Q (.ref d) H2)∨(J.go i H2/\∀x H3,J.yld i H2 x H3->g x σ H3 fun σ4 H4=>ti σ4 H4 fun b H5 =>
    if b=true then te σ4 H5 fun y H6=>H6 d=some (.lst ys)/\ys.length < sizeLine/\∃m',m' < m/\W (i+1) m' (ys++[y]) σ4 (upd H6 d (.lst (ys++[y]))) else ∃m',m' < m/\W (i+1) m' ys σ4 H5)))
  (w0:W 0 m0 [] σ0 H0) (I0:Inv X [] σ0 H0 s) (st0:tn 0 s.heap) (fr0:∀b∈fp,H0 b=none)
  (hR:∀σ' H' s',Inv X [] σ' H' s'->Q (.ref d) H'->R (.ok .next) s') :
  codeAny (model X.prog X.w) X.A (.compLoop (.ListComp elt [⟨tg,iter,ifs,0⟩] scope pos) 0 (.ref it) (.ref d) X.env) R s:=by
 have hE':∀e s',X.xe e s'->False:=fun e s' h=>by rw[hE] at h;exact h
 refine compLoop (fun n s'=>∃i ys σ' H',Inv X [] σ' H' s'/\tn i s'.heap/\(∀b∈fp,H' b=none)/\W i n ys σ' H') ?_ m0 ⟨0,[],σ0,H0,I0,st0,fr0,w0⟩
 rintro n s5 ⟨i,ys,σ5,H5,I5,st5,fr5,w5⟩
 obtain⟨hD,alt⟩:=turn i n ys σ5 H5 w5;rcases alt with⟨stop,qn⟩ | ⟨go,step⟩
 ·refine wpAny_mono (T.done X rfl rfl rfl hc i [] s5 σ5 H5 (fun _ _=>False) I5 (hf _ fr5) st5 stop) (fun r s6 ⟨hr,I6⟩ =>?_) fun _ _ e=>e
  subst hr;exact hR σ5 H5 s6 I6 qn
 ·refine wpAny_mono (T.item X rfl rfl rfl hc i [] s5 σ5 H5 (fun _ _=>False) I5 (hf _ fr5) st5 go) (fun r s6 ⟨u,hr,h6⟩ =>?_) fun _ _ e=>e
  subst hr;refine wpAny_mono h6 (fun _ s7 ⟨x,H7,I7,r7,y7,st7,fr7⟩ =>?_) fun _ _ e=>e
  have I7':=I7.pinned (hf _ fr7) (T.obj _ _ st7);have again:∀{σ':L2.St} {H':Hp} {s':Shared} {ys':List V} {m':Nat},Inv X ([]++aik fp s7.heap) σ' H' s'->W (i+1) m' ys' σ' H'->∃i ys σ' H',Inv X [] σ' H' s'/\tn i s'.heap/\(∀b∈fp,H' b=none)/\W i m' ys σ' H':=fun{σ' H' s' ys' m'} Ia wa=>by
   refine⟨i+1,ys',σ',H',Ia.unpinned,T.keep _ _ _ st7 fun b hb o e=>(Ia.pin (b,o) (List.mem_append_right _ (List.mem_append_right _ (aba hb e)))).1,fun b hb =>?_,wa⟩
   obtain⟨o,e,d⟩:=T.obj _ _ st7 b hb;exact(Ia.pin (b,o) (List.mem_append_right _ (List.mem_append_right _ (aba hb e)))).2.1
  refine wpAny_mono (hg _ s7 σ5 H7 x u _ I7' r7 (step x H7 y7)) (fun _ s8 ⟨σ8,H8,I8,q8⟩ =>?_) hE'
  refine wpAny_mono (ht _ s8 σ8 H8 _ I8 q8) (fun ok s9 ⟨H9,I9,q9⟩ =>?_) hE'
  cases ok with
  | false =>
   rw[if_neg Bool.false_ne_true] at q9 ⊢
   obtain⟨m',hm,wa⟩:=q9;exact⟨m',hm,again I9 wa⟩
  | true =>
   rw[if_pos rfl] at q9 ⊢
   refine wpAny_mono (he _ s9 σ8 H9 _ I9 q9) (fun z s10 ⟨y,H10,I10,r10,hd10,hz,m',hm,wa⟩ =>?_) hE'
   refine wpAny_mono (qp _ s10 σ8 H10 (.ref d) [y] (.ref d) [z] (fun _ H'=>H'=upd H10 d (.lst (ys++[y]))) I10 rfl (.cons r10 .nil) ⟨d,ys,y,rfl,rfl,hd10,hz,rfl⟩) (fun _ s11 ⟨_,H11,I11,_,e11⟩ =>?_) hE'
   subst e11;exact⟨m',hm,again I11 wa⟩
theorem au2{X:Cx}{tg iter elt:Expr}{ifs:List Expr}{scope:Scope}{pos:Pos}{wi:TI}{g:TG}{ti:TT}{te:TE}(fr N:List Str)(src:List (Option Nat))(hc:X.calm=true)(hi:PI X tg iter wi)
  (hg:∀fp s H,PG (cxC X N scope fr fp s H) tg g) (ht:∀fp s H,PIf (cxC X N scope fr fp s H) ifs ti) (he:∀fp s H,PE (cxC X N scope fr fp s H) elt te)
  (hok:agm X.env X.N scope fr N src=true:=by rfl) (hkind:scope.kind=.function:=by rfl) (hclos:closureFor scope X.env=pure (yl X.env fr):=by rfl)
  (hs:∀x,foldedSetIterable iter X.env x=pure x:=by intro _;rfl):PE X (.ListComp elt [⟨tg,iter,ifs,0⟩] scope pos) (auk wi g ti te src):=by
 have C:=CompOk.of hok;intro jv s σ H Q I h;rw[eval_ListComp];refine wpAny_comprehension_free (use:=none) rfl hs hclos hkind C.loc (wpAny_mono (hi jv s σ H _ I h) (fun v s1 h1=>wpAny_mono h1 (fun itv s2 h2 =>?_) fun _ _ e=>e) fun _ _ e=>e)
 obtain⟨it,fp,tn,J,H2,e,I2,T,st2,f2,q2⟩:=h2;subst e;have hd0:H2 s2.heap.objs.size=none:=I2.hok.fresh (Nat.le_refl _);obtain⟨W,⟨m0,w0⟩,turn⟩:=q2 s2.heap.objs.size hd0;refine wpAny_newObj_type ?_;generalize hs3:({ s2 with heap:=s2.heap.push { cls:=.type "list", dict:=none,data:=.seq ([]:List Value).toArray } }:Shared)=s3
 have keep2:∀b o,s2.heap.get? b=some o->s3.heap.get? b=some o:=fun b o e=>by rw[<-hs3];exact Heap.get?_push_of_some _ e
 have I3:Inv X jv σ (upd H2 s2.heap.objs.size (.lst [])) s3:=by
  rw[<-hs3];exact I2.laid (t':=s2.toks) (fun b u q=>Heap.get?_push_of_some _ q) (Nat.le_refl _) ⟨Nat.zero_le _,[],0,.nil,Heap.get?_push_size _ rfl⟩
 have ne0:∀b∈fp,b≠s2.heap.objs.size:=fun b hb=>by
  obtain⟨o,e,_⟩:=T.obj _ _ st2 b hb;exact Nat.ne_of_lt (Heap.lt_size e)
 have f3:∀b∈fp,FpOk X jv (upd H2 s2.heap.objs.size (.lst [])) b:=fun b hb=>⟨by rw[bj (ne0 b hb)];exact(f2 b hb).1,(f2 b hb).2⟩
 have lt3:∀b∈fp,b < s3.heap.objs.size:=fun b hb=>by
  obtain⟨o,e,_⟩:=T.obj _ _ st2 b hb;exact Heap.lt_size (keep2 b o e)
 refine wpAny_newFunctionEnv C.cell (by intro y hy;simp at hy) (fun h₁ hns₁ hsb₁ =>?_) hkind
 have keep3:∀b o,s3.heap.get? b=some o->h₁.get? b=some o:=fun b o e=>hsb₁.extBut b o (Nat.ne_of_lt (Heap.lt_size e)) (Heap.get?_push_of_some _ e)
 have st4:tn 0 h₁:=T.keep _ _ _ st2 fun b hb o e=>keep3 b o (keep2 b o e)
 have I4:=amo (tk:=s3.toks+([]:List (Str×Value)).length) I3 C hkind f3 lt3 hns₁ keep3;have loop:=ajr (X:=cxC X N scope fr fp s3 (upd H2 s2.heap.objs.size (.lst []))) (iter:=iter) (scope:=scope) (pos:=pos) (d:=s2.heap.objs.size)
  (R:=compPost (model X.prog X.w) X.A X.xe none (EP X jv σ Q) (.ref s2.heap.objs.size) s3.heap.objs.size) hc rfl T
  (fun H' hn b hb=>⟨hn b hb,Nat.ne_of_lt (lt3 b hb),I4.ok.exfs b hb,.inl hb,(I4.ok.exf b hb).2,fun p hp=>absurd (show p∈([]:List (Addr×Obj)) from hp) (by simp)⟩)
  (hg fp s3 _) (ht fp s3 _) (he fp s3 _) turn w0 I4 st4 (fun b hb=>(f3 b hb).1) (fun σ' H' s' I6 qn=>by
   obtain⟨m6,hn6,_⟩:=I6.loc;exact⟨m6,hn6,fun h'' hs''=>⟨.ref s2.heap.objs.size,H',amq I3 f3 I6 hs'',rfl,qn⟩⟩)
 exact codeAny_compStart_list loop (T.self _ 0 _ _ _ st4 loop)
theorem Same.new{H:Hp}{p:Addr}(h:H p=none)(o:HO):Same H (upd H p o):=fun b u q=>by rw[bj (fu q h)];exact q
structure ItOf (J:It) (xs:List V) (S:Hp->Prop):Prop where
 go:∀i H,S H->i < xs.length->J.go i H
 yld:∀i H x H',S H->J.yld i H x H'->H'=H/\(i < xs.length->xs[i]? = some x)
 stop:∀i H,S H->xs.length<=i->J.stop i H
theorem asv{K:Fg9}{a:Addr}{xs:List V}:ItOf (Itt K a) xs fun H=>SqT K H a xs :=
 ⟨fun i H h hi=>⟨xs,xs[i],h,by simp[hi]⟩,fun i H x H' h y=>⟨y.1,fun _=>y.2 xs h⟩,fun i H h hi=>⟨xs,h,hi⟩⟩
theorem amk{K:Fg9}{a:Addr}{xs:List V}:ItOf (Itl K a) xs fun H=>SqL K H a xs :=
 ⟨fun i H h hi=>⟨xs,xs[i],h,by simp[hi]⟩,fun i H x H' h y=>⟨y.1,fun _=>y.2 xs h⟩,fun i H h hi=>⟨xs,h,hi⟩⟩
def ups(lo:Int)(n:Nat):List V:=(List.range n).map fun i=>V.int (lo+(i:Nat))
theorem aj4(lo:Int)(n:Nat):(ups lo n).length=n:=by simp[ups]
theorem aud{lo:Int}{n i:Nat}(h:i < n):(ups lo n)[i]? = some (.int (lo+(i:Nat))):=by
 unfold ups;rw[List.getElem?_map,List.getElem?_range h];rfl
theorem asw{lo:Int}{n:Nat}:ItOf (Itr lo n) (ups lo n) fun _=>True :=
 ⟨fun i H _ hi=>by rw[aj4] at hi;exact hi,fun i H x H' _ y=>⟨y.1,fun hi=>by rw[aj4] at hi;rw[aud hi,y.2]⟩,fun i H _ hi=>by rw[aj4] at hi;exact hi⟩
section
variable{X:Cx}
def rAll(K:Fg9):List V->Hp->VK->Prop:=fun xs H Q=>∃(p:Addr) (bs:List Bool),xs=[.ref p]/\SqL K H p (bs.map V.bl)/\Q (.bl (bs.all id)) H
theorem atc(hc:X.calm=true):ada X (.builtin "all") (rAll X.K):=by
 intro jv s σ H xs us Q I r h;obtain⟨p,bs,rfl,hq,q⟩:=h;obtain⟨u,rfl,ru⟩:=vals1 r;cases ru;obtain⟨its,rv,pl,hz⟩:=I.list hq;have hl:=pl.isList;have hlen:=rv.length;rw[List.length_map] at hlen;have hlt:p < s.heap.objs.size:=by obtain⟨_,e,_⟩:=hl;exact Heap.lt_size e
 refine call_all_walk (wpAny_pyIter_list hl ?_);refine⟨s.heap.objs.size,[s.heap.objs.size,p],[s.heap.objs.size],its.toArray.size,_,_,fun i=>(bs[i]?).getD true,rfl,Walks.list (A:=X.A.in1) (I.ok.hd hc) _ p (Nat.ne_of_lt hlt) its.toArray,
  ⟨⟨_,Heap.get?_push_size _ rfl,rfl,rfl⟩,hl.push _⟩,fun i v s' Q' E' hP hQ =>?_,fun h' tk hk =>?_⟩
 ·have hi:its[i]? = some v:=by simpa using hP
  cases e:bs[i]? with
  | none =>
   have h1:bs.length<=i:=List.getElem?_eq_none_iff.mp e;have h2:i < its.length:=(List.getElem?_eq_some_iff.mp hi).1;omega
  | some b =>
   obtain⟨u,hu,ru⟩:=rv.get (i:=i) (x:=V.bl b) (by rw[List.getElem?_map,e];rfl)
   rw[hi] at hu;cases hu;obtain rfl:v=Value.bool b:=ru;simp only[e,Option.getD_some] at hQ;exact wpAny_truthy_bool hQ
 ·have e:((List.range its.toArray.size).all fun i=>(bs[i]?).getD true)=bs.all id:=by
   rw[List.size_toArray,<-hlen];exact LSm.range_all bs
  rw[e];exact⟨.bl (bs.all id),H,I.kept (t':=tk) (LSm.kept_iter hk),rfl,q⟩
end
def Dfn(P:Program)(w:World)(K:Fg9)(mg:Str->Option Value)(base:Heap)(x:Str)(ps:List Str)(k:Nat)(sp:Sp):Prop :=
 ∃(f:Addr) (fd:FuncData),FnOk P w K mg base CX0 k f fd ps sp/\mg x=some (.ref f)/\keepIn K (.ref f)=true/\Binds K fd ps []
section
variable{X:Cx}{x:Str}{ps:List Str}{k:Nat}{sp:Sp}{e:Expr}{es:List Expr}{t:TA}{p pos:Pos}
theorem a0w(F:Dfn X.prog X.w X.K X.mg X.base x ps k sp)(hr:Room k X.A)(hg:Gl X x)(ha:PA X (e::es) t)(hdb:(x==("__debug__" : Str))=false:=by decide)
  (he:starEach (e::es) X.env=(false,eval e X.env)::starEach es X.env:=by rfl) (hpl:(backTo pos (starEach es X.env)).any (·.1)=false:=by rfl):PE X (.Call (.Name x p) (e::es) [] pos) (awt sp [] E0 t):=by
 obtain⟨f,fd,F,hm,hk,hb⟩:=F;exact au4 F hr hg hm hk hb .nil a0y ha hdb he hpl
theorem ail{T:String}(hg:Gl X x)(hm:X.mg x=none)(hv:bootBuiltins x=some (.type T))(hn:x ≠ "__name__" := by decide)(hd:(x==("__debug__" : Str))=false:=by decide):PE X (.Name x pos) (tC (.ty T)) :=
 au5 hg hm hv rfl hn hd
end
section
variable{X:Cx}
end
section
variable{prog:Program}{w:World}{A:Around}{E:Value->Shared->Prop}{s:Shared}
theorem ata{t b:Addr}{vs ws:List Value}{Q:Value->Shared->Prop}(ht:IsTup s.heap t vs.toArray)(hb:IsTup s.heap b ws.toArray)(hv:vs=[])(h:Q (.ref b) s):wpAny (model prog w) A (binaryOp .Add (.ref t) (.ref b)) Q E s:=by
 obtain⟨⟨cls,dd,data,sl⟩,ho,hc,n,hd⟩:=id ht;obtain⟨⟨cls2,dd2,data2,sl2⟩,ho2,hc2,n2,hd2⟩:=id hb;simp only at hc hd hc2 hd2;subst hc hd hc2 hd2;exact concat_meets ⟨_,ho,rfl⟩ ⟨_,ho2,rfl⟩ noFill_tuple_add seq_tuple_add PySem.F.slot_tuple_add PySem.F.entry_tuple_add (PySem.F.args_tuple_add_2 _ _)
  (tuple_addW0 t b vs.toArray ws.toArray n n2 dd dd2 sl sl2 (by simp[hv])) ⟨ho,ho2,h⟩
end
section
variable{X:Cx}
end
section
variable{X:Cx}
end
theorem zx:fillsNumberSlot (.type "tuple") "mul" = pure false :=
 PySem.fillsNumberSlot_seq (id := "tuple.__mul__") (r:=some (.builtin "tuple.__rmul__")) F.slot_tuple_mul.lookup (by decide +kernel) F.slot_tuple_rmul.lookup (by decide +kernel)
theorem ad0:seqRepeat? (.type "tuple")=pure (some (.builtin "tuple.__mul__")):=by
 unfold seqRepeat?;rw[PySem.seqSlot_of (T := "tuple") (name := "__mul__") (id := "tuple.__mul__") F.slot_tuple_mul.lookup (by decide +kernel),PySem.seqSlot_of (T := "tuple") (name := "__rmul__") (id := "tuple.__rmul__") F.slot_tuple_rmul.lookup (by decide +kernel)]
 rfl
theorem abr(a:Int)(t:Tok)(l:Addr)(items:Array Value)(n:Nat)(dd:Option Addr)(sl:Array (Option Value)) :
  Meets (Builtin.«int.__rmul__» ⟨[.int a t,.ref l],[]⟩) (fun _ R s=>s.heap.get? l=some { cls:=.type "tuple", dict:=dd,data:=.seq items n,slots:=sl }/\R (.ok (.ret Value.notImplemented)) s) :=
 .of_wp fun prog w A R s h=>by obtain⟨hp,g,d,tk,os⟩:=s;obtain⟨hl,h⟩:=h;wp_walk;exact⟨_,rfl,h⟩
theorem am9(l:Addr)(items:Array Value)(n:Nat)(dd:Option Addr)(sl:Array (Option Value))(x:Int)(u:Tok)(h0:items.isEmpty=false)(h2:2<=x)(h63:x < 2 ^ 63)(hsz:items.size*x.toNat<=sizeLine) :
  Meets (Builtin.«tuple.__mul__» ⟨[.ref l,.int x u],[]⟩) (fun _ R s=>s.heap.get? l=some { cls:=.type "tuple", dict:=dd,data:=.seq items n,slots:=sl } /\
   R (.ok (.ret (Value.ref s.heap.objs.size))) { s with heap:=s.heap.push { cls:=Value.type "tuple", data:=Data.seq (List.foldl (fun x1 x2=>x1++x2) #[] (List.replicate x.toNat items)) },toks:=s.toks }) :=
 .of_wp fun prog w A R s h=>by
  obtain⟨hp,g,d,tk,os⟩:=s;obtain⟨hl,h⟩:=h;have c1:(decide (x < -2 ^ 63)||decide (x≥2 ^ 63))=false:=by
   rw[Bool.or_eq_false_iff];exact⟨decide_eq_false (by omega),decide_eq_false (by omega)⟩
  have c2:(items.isEmpty||x==1)=false:=by
   rw[h0,Bool.false_or,beq_eq_false_iff_ne];omega
  have c3:(decide (x<=0)||items.isEmpty)=false:=by
   rw[h0,Bool.or_false];exact decide_eq_false (by omega)
  have e4:((items.size:Int)*x)=((items.size*x.toNat:Nat):Int):=by
   have:x=(x.toNat:Int):=by omega
   rw[Int.natCast_mul,<-this]
  have h4:(sizeLine:Int)<=(2 ^ 63 - 1) / 8:=by decide
  have c4:¬((items.size:Int)*x > (2 ^ 63 - 1) / 8):=by rw[e4];omega
  have c5:Builtin.Tuple.tupleTooMany ((items.size:Int)*x)=false:=by
   unfold Builtin.Tuple.tupleTooMany;rw[e4];exact decide_eq_false (by omega)
  wp_walk;refine wpAny_ite_false (by rw[c1];rfl) ?_
  wp_walk;refine wpAny_ite_false (by rw[c2];rfl) ?_
  try dsimp only
  refine wpAny_ite_false (by rw[c3];rfl) ?_
  try dsimp only
  refine wpAny_ite_false (decide_eq_false c4) ?_
  try dsimp only
  refine wpAny_ite_false (by rw[c5];rfl) ?_
  have hso:sizeOk (.seq (List.foldl (fun x1 x2=>x1++x2) #[] (List.replicate x.toNat items))):=by
   show(List.foldl (fun x1 x2=>x1++x2) #[] (List.replicate x.toNat items)).size<=sizeLine
   have hn:=foldl_rep items.toList x.toNat [];rw[List.nil_append] at hn;have hn':List.foldl (fun x1 x2=>x1++x2) #[] (List.replicate x.toNat items)=(List.replicate x.toNat items.toList).flatten.toArray:=hn
   rw[hn',List.size_toArray,len_rep,Array.length_toList,Nat.mul_comm];exact hsz
  refine wpAny_bind (m:=Builtin.Tuple.tupleExact _) (wpAny_newObj_type (wpAny_pure ⟨_,rfl,h⟩) hso)
theorem ana(l:Addr)(items:Array Value)(n:Nat)(dd:Option Addr)(sl:Array (Option Value))(x:Int)(u:Tok)(hx:x=1) :
  Meets (Builtin.«tuple.__mul__» ⟨[.ref l,.int x u],[]⟩) (fun _ R s=>s.heap.get? l=some { cls:=.type "tuple", dict:=dd,data:=.seq items n,slots:=sl }/\R (.ok (.ret (Value.ref l))) s) :=
 .of_wp fun prog w A R s h=>by
  obtain⟨hp,g,d,tk,os⟩:=s;obtain⟨hl,h⟩:=h;have c1:(decide (x < -2 ^ 63)||decide (x≥2 ^ 63))=false:=by
   rw[Bool.or_eq_false_iff];exact⟨decide_eq_false (by omega),decide_eq_false (by omega)⟩
  have c2:(items.isEmpty||x==1)=true:=by rw[hx];simp
  wp_walk;exact⟨_,rfl,h⟩
section
variable{X:Cx}
theorem avb:OpR X (binaryOp .Mult) (fun x y H Q=>∃a xs,x=.ref a/\y=.int 1/\H a=some (.tup xs)/\Q (.ref a) H):=by
 intro jv s σ H x y v u Q I rx ry h;obtain⟨a,xs,rfl,rfl,ha,q⟩:=h;cases rx;obtain⟨t,rfl⟩:=ry;obtain⟨its,r1,p1,_⟩:=I.tuple (SqT.of ha);obtain⟨⟨cls,dd,data,sl⟩,ho,hc,n,hd⟩:=id p1;simp only at hc hd;subst hc hd;exact wpAny_binaryOp_repeat_ref (T := "tuple") (U := "int") (by decide) ⟨_,ho,rfl⟩ (fun s'=>typeIs_int s' 1 t) zx F.fills_int_mul F.slot_int_rmul ad0 F.slot_int_index.lookup
  (call_meets F.slot_int_rmul (typeIs_int s 1 t) F.entry_int_rmul (F.args_int_rmul_2 _ _) (abr 1 t a its.toArray n dd sl)
   ⟨ho,rfl,⟨_,ho,rfl⟩,call_meets F.slot_tuple_mul ⟨_,ho,rfl⟩ F.entry_tuple_mul (F.args_tuple_mul_2 _ _) (ana a its.toArray n dd sl 1 t rfl) ⟨ho,⟨.ref a,H,I,rfl,q⟩⟩⟩)
def aw7:R2:=fun x y H Q=>∃a xs k,x=.ref a/\y=.int k/\H a=some (.tup xs)/\xs≠[]/\2<=k/\k < 2 ^ 63/\xs.length*k.toNat<=sizeLine/\∀p,H p=none->Q (.ref p) (upd H p (.tup (List.replicate k.toNat xs).flatten))
theorem asd:OpR X (binaryOp .Mult) aw7:=by
 intro jv s σ H x y v u Q I rx ry h;obtain⟨a,xs,k,rfl,rfl,ha,hx,h2,h63,hz,q⟩:=h;cases rx;obtain⟨t,rfl⟩:=ry;obtain⟨its,r1,p1,_⟩:=I.tuple (SqT.of ha);obtain⟨⟨cls,dd,data,sl⟩,ho,hc,n,hd⟩:=id p1;simp only at hc hd;subst hc hd;have hnew:List.foldl (fun x1 x2=>x1++x2) #[] (List.replicate k.toNat its.toArray)=(List.replicate k.toNat its).flatten.toArray:=by
  have:=foldl_rep its k.toNat [];rw[List.nil_append] at this;exact this
 refine wpAny_binaryOp_repeat_ref (T := "tuple") (U := "int") (by decide) ⟨_,ho,rfl⟩ (fun s'=>typeIs_int s' k t) zx F.fills_int_mul F.slot_int_rmul ad0 F.slot_int_index.lookup
  (call_meets F.slot_int_rmul (typeIs_int s k t) F.entry_int_rmul (F.args_int_rmul_2 _ _) (abr k t a its.toArray n dd sl)
   ⟨ho,rfl,⟨_,ho,rfl⟩,call_meets F.slot_tuple_mul ⟨_,ho,rfl⟩ F.entry_tuple_mul (F.args_tuple_mul_2 _ _) (am9 a its.toArray n dd sl k t ?_ h2 h63 ?_) ⟨ho,?_⟩⟩)
 ·cases its with
  | nil=>exact absurd (r1.nil_iff.mp rfl) hx
  | cons _ _=>rfl
 ·rw[List.size_toArray,<-r1.length];exact hz
 ·rw[hnew];refine⟨.ref s.heap.objs.size,_,I.laid (t':=s.toks) (o:=.tup (List.replicate k.toNat xs).flatten) (fun b ob q=>Heap.get?_push_of_some _ q) (Nat.le_refl _) ?_,rfl,q _ (I.hok.fresh (Nat.le_refl _))⟩
  exact⟨by rw[len_rep,Nat.mul_comm];exact hz,_,r1.rep k.toNat,IsTp.new _ _⟩
end
section
variable{prog:Program}{w:World}{A:Around}{E:Value->Shared->Prop}{s:Shared}
theorem ab9{t sl:Addr}{items:Array Value}{vl vu:Value}{lo hi:Option Int}{Q:Value->Shared->Prop}(ht:IsTup s.heap t items)(hs:s.heap.IsSliceOf sl vl vu .none)(pl:IsPart vl lo)(pu:IsPart vu hi)
  (h1:HT.sIx items.size 0 lo=0) (h2:HT.sIx items.size items.size hi=items.size) (h:Q (.ref t) s):wpAny (model prog w) A (getItem (.ref t) (.ref sl)) Q E s:=by
 obtain⟨os,hos,hcs,hds⟩:=id hs;have hTs:s.TypeIs (.ref sl) "slice" := ⟨os,hos,hcs⟩;unfold getItem
 try with_reducible refine wpAny_holding ?_
 first | refine wpAny_bind (wpAny_pure ?_) | skip
 refine wpAny_bind (wpAny_sequenceKey ht.typeIs (by decide) ?_)
 refine wpAny_bind (wpAny_callSpecial?_slot (name:=Str.ofString "__getitem__") ht.typeIs PyProof.Rows.slot_tuple_getitem
  (wpAny_call_entry PyProof.Rows.slot_tuple_getitem ht.typeIs entry_tuple_getitem ?_ (args_tuple_getitem _ _)))
 show wpAny _ _ (Builtin.Tuple.tupleItemsOf (.ref t) >>= _) _ _ s;refine wpAny_bind (tupleItemsOf_ ht ?_);refine wpAny_bind (wpAny_typeOf hTs ?_);rw[if_pos (by decide)]
 refine wpAny_bind (HT.zr hs pl pu ?_);have hyes:(((HT.sIx items.size 0 lo:Nat):Int)==0&&(1:Int)==1&&(HT.sIx items.size items.size hi - HT.sIx items.size 0 lo)==items.size)=true:=by
  rw[h1,h2];simp
 show wpAny _ _ (if (((HT.sIx items.size 0 lo:Nat):Int)==0&&(1:Int)==1&&(HT.sIx items.size items.size hi - HT.sIx items.size 0 lo)==items.size)=true then _ else _) _ _ s
 rw[if_pos hyes];refine wpAny_bind (wpAny_bind (wpAny_typeOf ht.typeIs (wpAny_pure ?_)));rw[if_pos (by decide)]
 exact wpAny_bind (wpAny_rule (wpAny_pure ⟨_,rfl,wpAny_pure h⟩))
end
section
variable{X:Cx}
end
section
variable{X:Cx}(K:Fg9)(hK:X.K=K)
include hK
variable{tg:Expr}
end
theorem mj:bootBuiltins "len" = some (.builtin "len"):=by decide +kernel
theorem aq3:bootBuiltins "all" = some (.builtin "all"):=by decide +kernel
theorem ir:bootBuiltins "isinstance" = some (.builtin "isinstance"):=by decide +kernel
theorem azb:bootBuiltins "max" = some (.builtin "max"):=by decide +kernel
theorem aqy:bootBuiltins "min" = some (.builtin "min"):=by decide +kernel
theorem aa4:bootBuiltins "sorted" = some (.builtin "sorted"):=by decide +kernel
theorem aq1:bootBuiltins "divmod" = some (.builtin "divmod"):=by decide +kernel
theorem aq0:bootBuiltins "int" = some (.type "int"):=by decide +kernel
theorem aq2:bootBuiltins "bool" = some (.type "bool"):=by decide +kernel
theorem lw:bootBuiltins "tuple" = some (.type "tuple"):=by decide +kernel
theorem aqz:bootBuiltins "list" = some (.type "list"):=by decide +kernel
theorem aza:bootBuiltins "set" = some (.type "set"):=by decide +kernel
theorem ay9:bootBuiltins "str" = some (.type "str"):=by decide +kernel
structure ExcK (K:Fg9) (C:Addr):Prop where
 ga:findIn K (.ref C) "__getattribute__" = some (some (.builtin "BaseException.__getattribute__"))
 gh:findIn K (.ref C) "__getattr__" = some none
 be:PySem.W.mroIn K C (.type "BaseException")=some true
 hd:PySem.W.hasDictIn K C=true
 cl:findIn K (.ref C) "__class__" = some (some (.builtin "object.__class__"))
 sp:PySem.W.specialIn K (.builtin "object.__class__") "__get__" = some (some (.builtin "getset_descriptor.__get__"))
 tk:PySem.W.takesIn K (.builtin "object.__class__")=some true
 ob:PySem.W.mroIn K C (.type "object")=some true
 no:∀T∈["int","bool","tuple","list","str","dict"],PySem.W.subIn K (.ref C) (.type T)=some false
theorem alb{K:Fg9}{C:Addr}{od:Option Obj}{name:Str}{a g:Value}(hc:(PySem.W.clsIn K C).isSome=true)(ha:findIn K (.ref C) name=some (some a))(hg:PySem.W.specialIn K a "__get__" = some (some g))(ht:PySem.W.takesIn K a=some true):PySem.W.findObj K C od name=some (.bind g a):=by
 obtain⟨cd,hc⟩:=Option.isSome_iff_exists.mp hc;unfold PySem.W.findObj;rw[hc,Option.bind_some,ha,Option.bind_some];simp[hg,ht]
section
variable{prog:Program}{w:World}{A:Around}{E:Value->Shared->Prop}{s:Shared}{K:Fg9}{x D:Addr}{ox:Obj}{od:Option Obj}{name:Str}
theorem as5{fill expr:Bool}{tk:Tok}{Q:Value->Shared->Prop}(X:K.In s.heap)(I:PySem.W.InstAt s.heap x ox D od)(k:ExcK K D)
  (h:wpAny (model prog w) A.in1 (Builtin.«object.__getattribute__» ⟨[.ref x,.str name tk],[]⟩)
   (fun fin s'=>match fin with | .done (.ret v)=>wpAny (model prog w) A (handedOut v) Q E s' | _=>False) (fun _ _=>False) s) :
  wpAny (model prog w) A (getAttrBy (.ref x) (.str name tk) fill expr) Q E s:=by
 obtain⟨hh,g,d,t,os⟩:=s;have L0:=I.type (M:=model prog w);have L1:=PySem.W.looks_findIn (M:=model prog w) X k.ga;have L2:=PySem.W.looks_findIn (M:=model prog w) X k.gh;have L3:PySem.W.Looks (model prog w) hh (isInstance (.ref x) (.type "BaseException")) true:=L0.andThen (PySem.W.looks_mroIn X k.be);unfold getAttrBy;refine wpAny_holding (wpAny_bind (L0.at (wpAny_bind (L1.at ?_))));have hx2:(Value.builtin "BaseException.__getattribute__" == Value.builtin "object.__getattribute__")=false:=by decide +kernel
 have hx1:(onTheHeap (Value.ref D)&&Value.builtin "BaseException.__getattribute__" == Value.builtin "object.__getattribute__")=false:=by rw[hx2,Bool.and_false]
 simp only[hx1,Bool.false_eq_true,if_false];unfold getAttrByItsOwn hookBefore;rw[if_pos (show onTheHeap (Value.ref D)=true from rfl)]
 refine wpAny_bind ?_;refine L2.at (wpAny_bind (wpAny_attempt (wpAny_holding ?_)));have hx0:(expr&&onTheHeap (Value.builtin "BaseException.__getattribute__"))=false:=by cases expr <;> rfl
 unfold callGetattribute;rw[if_neg (by rw[hx0];exact Bool.false_ne_true)]
 unfold boundAndCalled;refine wpAny_bind (wpAny_of_eq (PySem.F.attr_ValueError.ga.bind (.ref x)) ?_);have hk1:builtinKind "BaseException.__getattribute__" = some .slot:=by decide +kernel
 have hs1:splitId "BaseException.__getattribute__" = some ("BaseException","__getattribute__"):=by decide +kernel
 have ha1:=PySem.F.args_bexc_ga (.ref x) (.str name tk);dsimp only[List.cons_append,List.nil_append];refine wpAny_call (codeAny_call_builtin (id := "BaseException.__getattribute__") (args:=⟨[.ref x,.str name tk],[]⟩) PySem.F.attr_ValueError.ga.plain PySem.F.entry_bexc_ga ?_);refine PySem.W.check_slot (i := "BaseException.__getattribute__") (owner := "BaseException") (n := "__getattribute__") (self:=.ref x) (rest:=[.str name tk]) (kw:=[]) hk1 hs1 L3 ha1 ?_;refine wpAny_mono h (fun fin s' z =>?_) fun _ _ z=>z.elim
 rcases fin with(_ | _ | _ | _) | _ <;> first | exact z | exact z.elim
theorem as6{g a:Value}{tk:Tok}{P:Value->Shared->Prop}(X:K.In s.heap)(I:PySem.W.InstAt s.heap x ox D od)(hf:PySem.W.findObj K D od name=some (.bind g a))
  (h:wpAny (model prog w) A (call g [a,.ref x,.ref D]) P E s) :
  wpAny (model prog w) A (Builtin.«object.__getattribute__» ⟨[.ref x,.str name tk],[]⟩) (fun fin s'=>match fin with | .done (.ret v)=>P v s' | _=>False) E s:=by
 obtain⟨hh,gg,d,t,os⟩:=s;have L0:=I.type (M:=model prog w);have L1:=PySem.W.looks_find (M:=model prog w) X I hf;unfold Builtin.«object.__getattribute__»
 refine wpAny_bind (wpAny_pure (wpAny_bind (wpAny_pure (wpAny_bind (L0.at (wpAny_bind (L1.at ?_)))))));show wpAny _ _ (Builtin.ObjectAttr.bindTo g a (.ref x) (.ref D)) _ _ _;show wpAny _ _ (holding [a] (call g [a,.ref x,.ref D]) >>= ret) _ _ _;exact wpAny_bind (wpAny_holding (wpAny_mono h (fun v s' z=>wpAny_pure z) fun _ _ z=>z))
end
theorem ass{K:Fg9}{x D:Addr}(k:ExcK K D):PySem.W.KitX K (.ref x) (.ref D) (fun h=>∃ox od,PySem.W.InstAt h x ox D od) where
 ty:=fun _ _ _ ⟨_,_,I⟩=>I.type
 it:=fun _ _ X _=>by
  obtain⟨cdD,hcD,_⟩:=PySem.W.any_some k.hd;unfold PySem.W.clsIn at hcD;split at hcD
  ·rename_i c' d' cd' sl' ho;intro A' Q' E' s' k q;unfold isType loadHead;exact wpAny_bind (wpAny_loadPart (k _ _ (X _ _ ho)) (wpAny_pure q))
  ·cases hcD
 ne:=fun h tp dd its n sl X htp=>by
  obtain⟨cdD,hcD,_⟩:=PySem.W.any_some k.hd;refine Bool.eq_false_iff.mpr fun q =>?_
  have e:D=tp:=Value.ref.inj (beq_iff_eq.mp q);subst e;unfold PySem.W.clsIn at hcD;split at hcD
  ·rename_i c' d' cd' sl' ho;have z:=(X _ _ ho).symm.trans htp;cases z
  ·cases hcD
 ca:=fun{prog w A E Q s} X ⟨ox,od,I⟩ q=>by
  have hf:PySem.W.findObj K D od "__class__" = some (.bind (.builtin "getset_descriptor.__get__") (.builtin "object.__class__")):=alb (by obtain⟨cd,hc,_⟩:=PySem.W.any_some k.hd;rw[hc];rfl) k.cl k.sp k.tk
  unfold getAttr? getAttrBy?;refine wpAny_bind (wpAny_mkText (wpAny_bind (wpAny_attempt (as5 (s:={ s with toks:=s.toks+1 }) X I k (as6 (s:={ s with toks:=s.toks+1 }) X I hf
   (wpAny_call (PySem.W.class_get (s:={ s with toks:=s.toks+1 }) (ox:=ox) (od:=od) X I k.ob (PySem.W.handed_on rfl (wpAny_pure q)))))))))
end Mn
namespace Dn
open L2 Mn
inductive D where
 | non | bl (b:Bool) | int (i:Int) | str (x:Str) | tup (l:List D) | lst (l:List D) | kst (l:List D) | dct (kvs:List (Key×D)) | exn (c:Str) (fs:List (Str×Int))
def exO(a C:Addr)(dx:Option Addr):Heap->Prop:=fun h=>∃oe vs,h.get? a=some oe/\oe.cls=.ref C/\oe.dict=dx/\oe.data=.fields vs
section
variable(K:Fg9)(F:Hp)
mutual
inductive Is:D->V->Prop
 | non:Is .non .non
 | bl (b:Bool):Is (.bl b) (.bl b)
 | int (i:Int):Is (.int i) (.int i)
 | str (x:Str):Is (.str x) (.str x)
 | tup {a:Addr} {vs:List V} {ds:List D} (e:F a=some (.tup vs)) (h:IsL ds vs):Is (.tup ds) (.ref a)
 | lst {a:Addr} {vs:List V} {ds:List D} (e:F a=some (.lst vs)) (h:IsL ds vs):Is (.lst ds) (.ref a)
 | kst {a:Addr} {vs:List V} {ds:List D} (e:SqL K F a vs) (h:IsL ds vs):Is (.kst ds) (.ref a)
 | dct {a:Addr} {kvs:List (Key×V)} {ds:List (Key×D)} (e:F a=some (.dK kvs)) (h:IsK ds kvs):Is (.dct ds) (.ref a)
 | exn {a C:Addr} {c:Str} {dx:Option Addr} {fs:List (Str×Int)} (e:F a=some (.ext (exO a C dx))) (hc:nsIn K mainGlobals c=some (some (.ref C))) (hk:ExcK K C)
   (hf:(dx=none/\fs=[])∨∃d,dx=some d/\F d=some (.xd (fs.map fun p=>(p.1,V.int p.2)))):Is (.exn c fs) (.ref a)
inductive IsL:List D->List V->Prop
 | nil:IsL [] []
 | cons {d:D} {v:V} {ds:List D} {vs:List V} (h:Is d v) (t:IsL ds vs):IsL (d::ds) (v::vs)
inductive IsK:List (Key×D)->List (Key×V)->Prop
 | nil:IsK [] []
 | cons {k:Key} {d:D} {v:V} {ds:List (Key×D)} {vs:List (Key×V)} (h:Is d v) (t:IsK ds vs):IsK ((k,d)::ds) ((k,v)::vs)
end
end
section
variable{K:Fg9}{F F':Hp}
mutual
theorem Is.mono(g:Same F F'):∀{d:D} {v:V},Is K F d v->Is K F' d v
 | _,_,.non=>.non
 | _,_,.bl b=>.bl b
 | _,_,.int i=>.int i
 | _,_,.str x=>.str x
 | _,_,.tup e h=>.tup (g _ _ e) (IsL.mono g h)
 | _,_,.lst e h=>.lst (g _ _ e) (IsL.mono g h)
 | _,_,.kst e h=>.kst (L2.Same.seq g e) (IsL.mono g h)
 | _,_,.dct e h=>.dct (g _ _ e) (IsK.mono g h)
 | _,_,.exn e hc hk hf=>.exn (g _ _ e) hc hk (hf.imp id fun⟨d,h1,h2⟩=>⟨d,h1,g _ _ h2⟩)
theorem IsL.mono(g:Same F F'):∀{ds:List D} {vs:List V},IsL K F ds vs->IsL K F' ds vs
 | _,_,.nil=>.nil
 | _,_,.cons h t=>.cons (Is.mono g h) (IsL.mono g t)
theorem IsK.mono(g:Same F F'):∀{ds:List (Key×D)} {vs:List (Key×V)},IsK K F ds vs->IsK K F' ds vs
 | _,_,.nil=>.nil
 | _,_,.cons h t=>.cons (Is.mono g h) (IsK.mono g t)
end
theorem IsL.length:∀{ds:List D} {vs:List V},IsL K F ds vs->ds.length=vs.length
 | _,_,.nil=>rfl
 | _,_,.cons _ t=>by simp[IsL.length t]
theorem IsL.append:∀{ds es:List D} {vs ws:List V},IsL K F ds vs->IsL K F es ws->IsL K F (ds++es) (vs++ws)
 | _,_,_,_,.nil,h=>h
 | _,_,_,_,.cons h t,k=>.cons h (IsL.append t k)
theorem IsL.take:∀{ds:List D} {vs:List V} (n:Nat),IsL K F ds vs->IsL K F (ds.take n) (vs.take n)
 | _,_,0,_=>by simpa using IsL.nil
 | _,_,_+1,.nil=>.nil
 | _,_,n+1,.cons h t=>.cons h (IsL.take n t)
theorem IsL.drop:∀{ds:List D} {vs:List V} (n:Nat),IsL K F ds vs->IsL K F (ds.drop n) (vs.drop n)
 | _,_,0,h=>h
 | _,_,_+1,.nil=>.nil
 | _,_,n+1,.cons _ t=>IsL.drop n t
theorem IsL.get:∀{ds:List D} {vs:List V} {i:Nat} {d:D},IsL K F ds vs->ds[i]? = some d->∃v,vs[i]? = some v/\Is K F d v
 | _,_,_,_,.nil,e=>by simp at e
 | _,_,0,_,.cons h _,e=>by simp at e;subst e;exact⟨_,rfl,h⟩
 | _,_,i+1,v,.cons _ t,e=>by
  obtain⟨d,h1,h2⟩:=IsL.get (i:=i) (d:=v) t (by simpa using e)
  exact⟨d,by simpa using h1,h2⟩
theorem IsL.set{d:D}{v:V}(h:Is K F d v):∀{ds:List D} {vs:List V} (i:Nat),IsL K F ds vs->IsL K F (ds.set i d) (vs.set i v)
 | _,_,_,.nil=>.nil
 | _,_,0,.cons _ t=>.cons h t
 | _,_,i+1,.cons q t=>.cons q (IsL.set h i t)
theorem IsL.rep{ds:List D}{vs:List V}(h:IsL K F ds vs):∀k:Nat,IsL K F (List.replicate k ds).flatten (List.replicate k vs).flatten
 | 0=>by simpa using IsL.nil
 | k+1=>by
  rw[List.replicate_succ,List.replicate_succ,List.flatten_cons,List.flatten_cons];exact h.append (IsL.rep h k)
theorem IsL.int_inv:∀{ns:List Int} {vs:List V},IsL K F (ns.map D.int) vs->vs=ns.map V.int
 | [],_,.nil=>rfl
 | n::r,_,.cons (.int _) t=>by rw[List.map_cons,IsL.int_inv t]
theorem IsL.bl_inv:∀{ns:List Bool} {vs:List V},IsL K F (ns.map D.bl) vs->vs=ns.map V.bl
 | [],_,.nil=>rfl
 | n::r,_,.cons (.bl _) t=>by rw[List.map_cons,IsL.bl_inv t]
theorem abe:∀ns:List Int,IsL K F (ns.map D.int) (ns.map V.int)
 | []=>.nil
 | n::r=>.cons (.int n) (abe r)
end
inductive Sl where
 | emp | val (d:D) | own (t:Option Nat) (l:List D) | box (c:Str) (fs:List (Str×(Nat ⊕ D)))
abbrev Ro:=List Sl
def Owns(ρ:Ro)(σ:L2.St)(i:Nat)(a:Addr):Prop:=(∃t l,ρ[i]? = some (.own t l))/\σ[i]? = some (some (.ref a))
def Own(ρ:Ro)(σ:L2.St)(a:Addr):Prop:=∃i,Owns ρ σ i a
def SlOk(K:Fg9)(tg:Nat->Addr)(F H:Hp):Sl->Option V->Prop
 | .emp,_=>True
 | .val d,o=>∃v,o=some v/\Is K F d v
 | .own t l,o=>∃a vs,o=some (.ref a)/\F a=none/\H a=some (.lst vs)/\IsL K F l vs/\∀k,t=some k->tg k=a
 | .box c fs,o=>∃a C dx fvs,o=some (.ref a)/\F a=none/\H a=some (.ins C dx fvs)/\nsIn K mainGlobals c=some (some (.ref C))/\(∀f,fs.lookup f=none->fvs.lookup f=none)/\(∀f k,fs.lookup f=some (.inl k)->fvs.lookup f=some (.ref (tg k)))/\∀f d,fs.lookup f=some (.inr d)->∃v,fvs.lookup f=some v/\Is K F d v
structure Good (K:Fg9) (tg:Nat->Addr) (F H:Hp) (ρ:Ro) (σ:L2.St):Prop where
 sub:Same F H
 len:ρ.length=σ.length
 sl:∀(i:Nat) (s:Sl) (o:Option V),ρ[i]? = some s->σ[i]? = some o->SlOk K tg F H s o
 inj:∀(i j:Nat) (a:Addr),Owns ρ σ i a->Owns ρ σ j a->i=j
structure Ext (O O':Addr->Prop) (F H F' H':Hp):Prop where
 sub:Same F F'
 new:∀a o,F' a=some o->F a=some o∨H a=none∨O a
 keep:∀a o,H a=some o->¬O a->H' a=some o
 own:∀a,O' a->O a∨H a=none
 there:∀a,H' a=none->H a=none
theorem Ext.refl(O:Addr->Prop)(F H:Hp):Ext O O F H F H:=⟨fun _ _ e=>e,fun _ _ e=>.inl e,fun _ _ e _=>e,fun _ h=>.inl h,fun _ h=>h⟩
theorem Ext.trans{O O1 O2:Addr->Prop}{F H F1 H1 F2 H2:Hp}(a:Ext O O1 F H F1 H1)(b:Ext O1 O2 F1 H1 F2 H2):Ext O O2 F H F2 H2 where
 sub:=a.sub.trans b.sub
 new:=fun c o e=>by
  rcases b.new c o e with q | q | q
  ·exact a.new c o q
  ·exact .inr (.inl (a.there c q))
  ·rcases a.own c q with z | z
   ·exact .inr (.inr z)
   ·exact .inr (.inl z)
 keep:=fun c o e n=>b.keep c o (a.keep c o e n) fun z=>by
  rcases a.own c z with q | q
  ·exact n q
  ·rw[e] at q;cases q
 own:=fun c z=>by
  rcases b.own c z with q | q
  ·exact a.own c q
  ·exact .inr (a.there c q)
 there:=fun c z=>a.there c (b.there c z)
section
variable{K:Fg9}{tg:Nat->Addr}{F H F' H':Hp}{ρ ρ':Ro}{σ:L2.St}
theorem Good.ownAt(G:Good K tg F H ρ σ){a:Addr}(h:Own ρ σ a):F a=none/\∃vs,H a=some (.lst vs):=by
 obtain⟨i,⟨t,l,e⟩,q⟩:=h;obtain⟨b,vs,e1,f,e2,_⟩:=G.sl i _ _ e q;cases e1;exact⟨f,vs,e2⟩
theorem Good.grow(G:Good K tg F H ρ σ)(s:Same F F')(s':Same F' H')(k:∀a,Own ρ σ a->F' a=none/\H' a=H a)(kb:∀a C dx fvs,F a=none->H a=some (.ins C dx fvs)->F' a=none/\H' a=H a):Good K tg F' H' ρ σ where
 sub:=s'
 len:=G.len
 inj:=G.inj
 sl:=fun i sl o e q=>by
  have z:=G.sl i sl o e q;cases sl with
  | emp=>trivial
  | val d =>
   obtain⟨v,e1,h⟩:=z;exact⟨v,e1,h.mono s⟩
  | box c fs =>
   obtain⟨a,C,dx,fvs,e1,e2,e3,e4,e7,e5,e6⟩:=z;obtain⟨f1,f2⟩:=kb a C dx fvs e2 e3;exact⟨a,C,dx,fvs,e1,f1,f2.trans e3,e4,e7,e5,fun f d h=>(e6 f d h).imp fun v h=>⟨h.1,h.2.mono s⟩⟩
  | own t l =>
   obtain⟨a,vs,e1,f,e2,h,ht⟩:=z;have w:=k a ⟨i,⟨t,l,e⟩,by rw[q,e1]⟩
   exact⟨a,vs,e1,w.1,by rw[w.2];exact e2,h.mono s,ht⟩
theorem Same.put{p:Addr}(s:Same F H)(h:H p=none)(o:HO):Same (upd F p o) (upd H p o):=fun b u e=>by
 by_cases hb:b=p
 ·subst hb;rw[fj] at e ⊢
  exact e
 ·rw[bj hb] at e ⊢
  exact s b u e
theorem Good.freeF(G:Good K tg F H ρ σ){p:Addr}(h:H p=none):F p=none:=by
 cases e:F p with
 | none=>rfl
 | some o=>rw[G.sub p o e] at h;cases h
theorem Good.own_ne(G:Good K tg F H ρ σ){p a:Addr}(h:H p=none)(w:Own ρ σ a):a≠p:=by
 obtain⟨_,vs,e⟩:=G.ownAt w;exact fu e h
theorem Good.new(G:Good K tg F H ρ σ){p:Addr}(h:H p=none)(o:HO):Good K tg (upd F p o) (upd H p o) ρ σ :=
 G.grow (Same.new (G.freeF h) o) (Same.put G.sub h o) (fun a w=>by
  rw[bj (G.own_ne h w),bj (G.own_ne h w)];exact⟨(G.ownAt w).1,rfl⟩) fun a C dx fvs h1 h2=>by
  rw[bj (fu h2 h),bj (fu h2 h)];exact⟨h1,rfl⟩
theorem Good.newX(G:Good K tg F H ρ σ){p:Addr}(h:H p=none)(o:HO):Ext (Own ρ σ) (Own ρ σ) F H (upd F p o) (upd H p o) where
 sub:=Same.new (G.freeF h) o
 new:=fun a u e=>by
  by_cases ha:a=p
  ·subst ha;exact .inr (.inl h)
  ·rw[bj ha] at e;exact .inl e
 keep:=fun a u e _=>by rw[bj (fu e h)];exact e
 own:=fun a w=>.inl w
 there:=fun a e=>by
  by_cases ha:a=p
  ·subst ha;exact h
  ·rw[bj ha] at e;exact e
theorem Good.fresh(G:Good K tg F H ρ σ){p:Addr}(h:H p=none)(o:HO):Good K tg F (upd H p o) ρ σ :=
 G.grow (Same.refl F) (fun b u e=>by rw[bj (fu (G.sub b u e) h)];exact G.sub b u e) (fun a w=>by
  rw[bj (G.own_ne h w)];exact⟨(G.ownAt w).1,rfl⟩) fun a C dx fvs h1 h2=>⟨h1,bj (fu h2 h)⟩
theorem Good.freshX(G:Good K tg F H ρ σ){p:Addr}(h:H p=none)(o:HO):Ext (Own ρ σ) (Own ρ σ) F H F (upd H p o) where
 sub:=Same.refl F
 new:=fun a u e=>.inl e
 keep:=fun a u e _=>by rw[bj (fu e h)];exact e
 own:=fun a w=>.inl w
 there:=fun a e=>by
  by_cases ha:a=p
  ·subst ha;exact h
  ·rw[bj ha] at e;exact e
theorem Good.freeze(G:Good K tg F H ρ σ){p:Addr}{o:HO}(h:H p=some o)(n:¬Own ρ σ p)(hf:F p=none)(hi:∀C dx fs,o≠.ins C dx fs:=by intro _ _ _ z;cases z):Good K tg (upd F p o) H ρ σ :=
 G.grow (Same.new hf o) (fun b u e=>by
  by_cases hb:b=p
  ·subst hb;rw[fj] at e;cases e;exact h
  ·rw[bj hb] at e;exact G.sub b u e) (fun a w=>by
  have:a≠p:=fun z=>n (z▸w)
  rw[bj this];exact⟨(G.ownAt w).1,rfl⟩) fun a C dx fvs h1 h2=>by
  have:a≠p:=fun z=>by
   subst z;rw[h] at h2;exact hi _ _ _ (Option.some.inj h2)
  rw[bj this];exact⟨h1,rfl⟩
end
end Dn
namespace Dn
open L2 Mn
structure Exn where
 cls:Str
 fs:List (Str×Int)
inductive Out (α:Type) where
 | ok (a:α) | exc (x:Exn)
abbrev M(α:Type):=Ro->Option (Out α×Ro)
noncomputable def M.bind{α β:Type}(m:M α)(k:α->M β):M β:=fun ρ=>match m ρ with
 | some (.ok a,ρ1)=>k a ρ1
 | some (.exc x,ρ1)=>some (.exc x,ρ1)
 | none=>none
noncomputable def ret{α:Type}(a:α):M α:=fun ρ=>some (.ok a,ρ)
noncomputable def lift{α:Type}(o:Option α):M α:=fun ρ=>match o with
 | some a=>some (.ok a,ρ)
 | none=>none
section
variable{α β:Type}
theorem au{m:M α}{k:α->M β}{ρ ρ2:Ro}{b:β}(h:m.bind k ρ=some (.ok b,ρ2)):∃a ρ1,m ρ=some (.ok a,ρ1)/\k a ρ1=some (.ok b,ρ2):=by
 unfold M.bind at h;split at h
 ·exact⟨_,_,by assumption,h⟩
 ·cases h
 ·cases h
theorem gw{o:Option α}{ρ ρ2:Ro}{b:α}(h:lift o ρ=some (.ok b,ρ2)):o=some b/\ρ2=ρ:=by
 unfold lift at h;split at h
 ·cases h;exact⟨rfl,rfl⟩
 ·cases h
theorem jb{a b:α}{ρ ρ2:Ro}(h:ret a ρ=some (.ok b,ρ2)):a=b/\ρ2=ρ:=by
 unfold ret at h;cases h;exact⟨rfl,rfl⟩
@[simp] theorem azj(a:α)(k:α->M β):(ret a).bind k=k a:=rfl
@[simp] theorem ayh(a:α):lift (some a)=ret a:=rfl
end
inductive Rv where
 | v (d:D) | fr (l:List D)
 | tf (d:D) (l:List D)
abbrev Rel(α:Type):=α->V->(H:Hp)->(O:Addr->Prop)->(F' H':Hp)->(O':Addr->Prop)->Prop
def relD(K:Fg9):Rel D:=fun d v _ _ F' _ _=>Is K F' d v
def Bor(K:Fg9)(F H:Hp)(d:D)(v:V):Prop:=Is K F d v∨∃a vs l,d=.lst l/\v=.ref a/\H a=some (.lst vs)/\IsL K F l vs
def relB(K:Fg9):Rel D:=fun d v _ _ F' H' _=>Bor K F' H' d v
def relR(K:Fg9):Rel Rv:=fun r v H O F' H' O'=>match r with
 | .v d=>Is K F' d v
 | .fr l=>∃a vs,v=.ref a/\(H a=none∨O a)/\F' a=none/\H' a=some (.lst vs)/\IsL K F' l vs/\¬O' a
 | .tf d l=>∃t u a vs,v=.ref t/\F' t=some (.tup [u,.ref a])/\Is K F' d u/\(H a=none∨O a)/\F' a=none/\H' a=some (.lst vs)/\IsL K F' l vs/\¬O' a
def T{α:Type}(K:Fg9)(rel:Rel α)(m:M α):TE:=fun σ H Q=>∃tg F ρ a ρ',Good K tg F H ρ σ/\m ρ=some (.ok a,ρ') /\
 ∀v H' F',Good K tg F' H' ρ' σ->Ext (Own ρ σ) (Own ρ' σ) F H F' H'->rel a v H (Own ρ σ) F' H' (Own ρ' σ)->Q v H'
structure EV (K:Fg9) (X:Cx) (e:Expr) (m:M D):Prop where
 go:X.K=K->PE X e (T K (relD K) m)
instance {K:Fg9} {X:Cx} {e:Expr} {m:M D}:CoeFun (EV K X e m) fun _=>X.K=K->PE X e (T K (relD K) m):=⟨EV.go⟩
structure EB (K:Fg9) (X:Cx) (e:Expr) (m:M D):Prop where
 go:X.K=K->PE X e (T K (relB K) m)
instance {K:Fg9} {X:Cx} {e:Expr} {m:M D}:CoeFun (EB K X e m) fun _=>X.K=K->PE X e (T K (relB K) m):=⟨EB.go⟩
structure ER (K:Fg9) (X:Cx) (e:Expr) (m:M Rv):Prop where
 go:X.K=K->PE X e (T K (relR K) m)
instance {K:Fg9} {X:Cx} {e:Expr} {m:M Rv}:CoeFun (ER K X e m) fun _=>X.K=K->PE X e (T K (relR K) m):=⟨ER.go⟩
theorem PE.imp{X:Cx}{e:Expr}{t t':TE}(h:PE X e t)(w:∀σ H Q,t' σ H Q->t σ H Q):PE X e t':=fun jv s σ H Q I q=>h jv s σ H Q I (w σ H Q q)
section
variable{K:Fg9}{X:Cx}{e a b:Expr}{pos:Pos}
theorem EV.toB{m:M D}(h:EV K X e m):EB K X e m:=EB.mk fun hk=>PE.imp (h hk) fun σ H Q ⟨tg,F,ρ,d,ρ',G,em,q⟩=>⟨tg,F,ρ,d,ρ',G,em,fun v H' F' G' x r=>q v H' F' G' x (.inl r)⟩
def M.v(m:M D):M Rv:=m.bind fun d=>ret (.v d)
theorem EV.toR{m:M D}(h:EV K X e m):ER K X e m.v:=ER.mk fun hk=>PE.imp (h hk) fun σ H Q z9=>by
 obtain⟨tg,F,ρ,r,ρ',G,em,q⟩:=z9;obtain⟨d,ρ1,e1,e2⟩:=au em;obtain⟨rfl,rfl⟩:=jb e2;exact⟨tg,F,ρ,d,_,G,e1,fun v H' F' G' x r=>q v H' F' G' x r⟩
def Rv.d:Rv->D
 | .v d=>d
 | .fr l=>.lst l
 | .tf d l=>.tup [d,.lst l]
def M.d(m:M Rv):M D:=m.bind fun r=>ret r.d
theorem frz{tg:Nat->Addr}{O:Addr->Prop}{F H F' H':Hp}{ρ':Ro}{σ':L2.St}{r:Rv}{v:V}(G:Good K tg F' H' ρ' σ')(x:Ext O (Own ρ' σ') F H F' H')(h:relR K r v H O F' H' (Own ρ' σ')) :
  ∃F2,Good K tg F2 H' ρ' σ'/\Ext O (Own ρ' σ') F H F2 H'/\Is K F2 r.d v:=by
 cases r with
 | v d=>exact⟨F',G,x,h⟩
 | fr l =>
  obtain⟨a,vs,rfl,ha,hf,hh,hl,hn⟩:=h;refine⟨upd F' a (.lst vs),G.freeze hh hn hf,⟨x.sub.trans (Same.new hf _),fun b o e =>?_,x.keep,x.own,x.there⟩,.lst fj (hl.mono (Same.new hf _))⟩
  by_cases hb:b=a
  ·subst hb;exact .inr ha
  ·rw[bj hb] at e;exact x.new b o e
 | tf d l =>
  obtain⟨t,u,a,vs,rfl,ht,hd,ha,hf,hh,hl,hn⟩:=h;have hta:t≠a:=fun z=>by rw[z,hf] at ht;cases ht
  refine⟨upd F' a (.lst vs),G.freeze hh hn hf,⟨x.sub.trans (Same.new hf _),fun b o e =>?_,x.keep,x.own,x.there⟩,.tup (by rw[bj hta];exact ht) (.cons (hd.mono (Same.new hf _)) (.cons (.lst fj (hl.mono (Same.new hf _))) .nil))⟩
  by_cases hb:b=a
  ·subst hb;exact .inr ha
  ·rw[bj hb] at e;exact x.new b o e
theorem ER.toD{m:M Rv}(h:ER K X e m):EV K X e m.d:=EV.mk fun hk=>PE.imp (h hk) fun σ H Q z9=>by
 obtain⟨tg,F,ρ,d,ρ',G,em,q⟩:=z9;obtain⟨r,ρ1,e1,e2⟩:=au em;obtain⟨rfl,rfl⟩:=jb e2;refine⟨tg,F,ρ,r,_,G,e1,fun v H' F' G' x w =>?_⟩
 obtain⟨F2,G2,x2,i2⟩:=frz G' x w;exact q v H' F2 G2 x2 i2
noncomputable def cu(i:Nat):M D:=fun ρ=>match ρ[i]? with
 | some (.val d)=>some (.ok d,ρ)
 | some (.own _ l)=>some (.ok (.lst l),ρ)
 | _=>none
theorem Good.at{tg:Nat->Addr}{F H:Hp}{ρ:Ro}{σ:L2.St}(G:Good K tg F H ρ σ){i:Nat}{s:Sl}(e:ρ[i]? = some s):∃o,σ[i]? = some o/\SlOk K tg F H s o:=by
 have hi:i < σ.length:=by rw[<-G.len];exact(List.getElem?_eq_some_iff.mp e).1
 exact⟨σ[i],List.getElem?_eq_getElem hi,G.sl i s _ e (List.getElem?_eq_getElem hi)⟩
theorem vp{tg:Nat->Addr}{F H:Hp}{ρ ρ':Ro}{σ:L2.St}(G:Good K tg F H ρ σ){i:Nat}{d:D}(em:cu i ρ=some (.ok d,ρ')):ρ'=ρ/\∃v,σ[i]? = some (some v)/\Bor K F H d v:=by
 unfold cu at em;split at em
 ·rename_i d' e';cases em;obtain⟨o,ho,v,rfl,hv⟩:=G.at e';exact⟨rfl,v,ho,.inl hv⟩
 ·rename_i t l e';cases em;obtain⟨o,ho,a,vs,rfl,hf,hh,hl,_⟩:=G.at e';exact⟨rfl,_,ho,.inr ⟨a,vs,l,rfl,rfl,hh,hl⟩⟩
 ·cases em
theorem di{i:Nat}(h:PE X e (tVar i)):EB K X e (cu i):=EB.mk fun _=>PE.imp h fun σ H Q z9=>by
 obtain⟨tg,F,ρ,d,ρ',G,em,q⟩:=z9;obtain⟨rfl,v,ho,hv⟩:=vp G em;exact⟨v,ho,q v H F G (Ext.refl _ _ _) hv⟩
def aku(i:Nat):M Rv:=fun ρ=>match ρ[i]? with
 | some (.val d)=>some (.ok (.v d),ρ)
 | some (.own none l)=>some (.ok (.fr l),ρ.set i .emp)
 | _=>none
theorem Good.drop{tg:Nat->Addr}{F H:Hp}{ρ:Ro}{σ:L2.St}(G:Good K tg F H ρ σ)(i:Nat):Good K tg F H (ρ.set i .emp) σ:=by
 have sub:∀j t l,(List.set ρ i Sl.emp)[j]? = some (Sl.own t l)->(ρ:List Sl)[j]? = some (Sl.own t l):=fun j t l e=>by
  rw[List.getElem?_set] at e;split at e
  ·split at e <;> cases e
  ·exact e
 refine⟨G.sub,by rw[List.length_set];exact G.len,fun j s o e q =>?_,fun j k a ⟨⟨t,l,e⟩,q⟩ ⟨⟨t',l',e'⟩,q'⟩=>G.inj j k a ⟨⟨t,l,sub _ _ _ e⟩,q⟩ ⟨⟨t',l',sub _ _ _ e'⟩,q'⟩⟩
 rw[List.getElem?_set] at e;split at e
 ·split at e
  ·cases e;trivial
  ·cases e
 ·exact G.sl j s o e q
theorem aec{ρ:Ro}{σ:L2.St}{i:Nat}{a:Addr}(h:Own (ρ.set i .emp) σ a):Own ρ σ a/\∀t l,ρ[i]? = some (.own t l)->∀(inj:∀i j a,Owns ρ σ i a->Owns ρ σ j a->i=j),¬Owns ρ σ i a:=by
 obtain⟨j,⟨t,l,e⟩,q⟩:=h;rw[List.getElem?_set] at e;split at e
 ·split at e <;> cases e
 ·rename_i hne;have w:Owns ρ σ j a:=⟨⟨t,l,e⟩,q⟩;exact⟨⟨j,w⟩,fun t' l' _ inj z=>hne (inj _ _ _ z w)⟩
theorem ahu{i:Nat}(h:PE X e (tVar i)):ER K X e (aku i):=ER.mk fun _=>PE.imp h fun σ H Q z9=>by
 obtain⟨tg,F,ρ,d,ρ',G,em,q⟩:=z9;unfold aku at em;split at em
 ·rename_i d' e';cases em;obtain⟨o,ho,v,rfl,hv⟩:=G.at e';exact⟨v,ho,q v H F G (Ext.refl _ _ _) hv⟩
 ·rename_i l e';cases em;obtain⟨o,ho,a,vs,rfl,hf,hh,hl,_⟩:=G.at e';have w:Owns ρ σ i a:=⟨⟨_,_,e'⟩,ho⟩;refine⟨_,ho,q _ H F (G.drop i) ⟨Same.refl _,fun _ _ e=>.inl e,fun _ _ e _=>e,fun b z=>.inl (aec z).1,fun _ z=>z⟩ ⟨a,vs,rfl,.inr ⟨i,w⟩,hf,hh,hl,fun z=>(aec z).2 _ _ e' G.inj w⟩⟩
 ·cases em
noncomputable def mVar(i:Nat):M D:=fun ρ=>match ρ[i]? with
 | some (.val d)=>some (.ok d,ρ)
 | some (.own none l)=>some (.ok (.lst l),ρ.set i (.val (.lst l)))
 | _=>none
theorem ar9{ρ:Ro}{σ:L2.St}{i:Nat}{d:D}{a:Addr}(h:Own (ρ.set i (.val d)) σ a):Own (ρ.set i .emp) σ a:=by
 obtain⟨j,⟨t,l,e⟩,q⟩:=h;refine⟨j,⟨t,l,?_⟩,q⟩;rw[List.getElem?_set] at e ⊢
 split at e
 ·split at e <;> cases e
 ·rename_i hne;rw[if_neg hne];exact e
theorem Good.setv{tg:Nat->Addr}{F H:Hp}{ρ:Ro}{σ:L2.St}{i:Nat}{d:D}{v:V}(G:Good K tg F H (ρ.set i .emp) σ)(e:σ[i]? = some (some v))(h:Is K F d v):Good K tg F H (ρ.set i (.val d)) σ:=by
 have sub:∀j t l,(List.set ρ i (Sl.val d))[j]? = some (Sl.own t l)->(List.set ρ i Sl.emp)[j]? = some (Sl.own t l):=fun j t l z=>by
  rw[List.getElem?_set] at z ⊢
  split at z
  ·split at z <;> cases z
  ·rename_i hne;rw[if_neg hne];exact z
 refine⟨G.sub,by have:=G.len;rw[List.length_set] at this ⊢;exact this,fun j s o z q =>?_,fun j k a ⟨⟨t,l,z⟩,q⟩ ⟨⟨t',l',z'⟩,q'⟩=>G.inj j k a ⟨⟨t,l,sub _ _ _ z⟩,q⟩ ⟨⟨t',l',sub _ _ _ z'⟩,q'⟩⟩
 by_cases hij:i=j
 ·subst hij;rw[List.getElem?_set,if_pos rfl] at z;split at z
  ·cases z;rw[e] at q;cases q;exact⟨v,rfl,h⟩
  ·cases z
 ·refine G.sl j s o ?_ q;rw[List.getElem?_set,if_neg hij] at z ⊢
  exact z
theorem aq{i:Nat}(h:PE X e (tVar i)):EV K X e (mVar i):=EV.mk fun _=>PE.imp h fun σ H Q z9=>by
 obtain⟨tg,F,ρ,d,ρ',G,em,q⟩:=z9;unfold mVar at em;split at em
 ·rename_i d' e';cases em;obtain⟨o,ho,v,rfl,hv⟩:=G.at e';exact⟨v,ho,q v H F G (Ext.refl _ _ _) hv⟩
 ·rename_i l e';cases em;obtain⟨o,ho,a,vs,rfl,hf,hh,hl,_⟩:=G.at e';have w:Owns ρ σ i a:=⟨⟨_,_,e'⟩,ho⟩;have nown:¬Own (ρ.set i .emp) σ a:=fun z=>(aec z).2 _ _ e' G.inj w
  have G2:=(G.drop i).freeze hh nown hf;have i2:Is K (upd F a (.lst vs)) (.lst l) (.ref a):=.lst fj (hl.mono (Same.new hf _));refine⟨_,ho,q _ H _ (G2.setv ho i2) ⟨Same.new hf _,fun b o z =>?_,fun _ _ z _=>z,fun b z=>.inl (aec (ar9 z)).1,fun _ z=>z⟩ i2⟩
  by_cases hb:b=a
  ·subst hb;exact .inr (.inr ⟨i,w⟩)
  ·rw[bj hb] at z;exact .inl z
 ·cases em
theorem ev_c{d:D}{v:V}(h:PE X e (tC v))(hi:∀F,Is K F d v):EV K X e (ret d):=EV.mk fun _=>PE.imp h fun σ H Q z9=>by
 obtain⟨tg,F,ρ,d',ρ',G,em,q⟩:=z9;obtain⟨rfl,rfl⟩:=jb em;exact q v H F G (Ext.refl _ _ _) (hi F)
theorem bc{i:Int}{j:Nat}:EV K X (.Constant (.int i) j pos) (ret (.int i)):=ev_c axq fun _=>.int i
theorem aht{i:Bool}{j:Nat}:EV K X (.Constant (.bool i) j pos) (ret (.bl i)):=ev_c a0x fun _=>.bl i
theorem aqa{j:Nat}:EV K X (.Constant .none j pos) (ret .non):=ev_c axn fun _=>.non
theorem ajl{i:Str}{j:Nat}:EV K X (.Constant (.str i) j pos) (ret (.str i)):=ev_c axk fun _=>.str i
def T2(K:Fg9)(m:M (D×D))(σ:L2.St)(H:Hp)(R:V->V->Hp->Prop):Prop:=∃tg F ρ p ρ',Good K tg F H ρ σ/\m ρ=some (.ok p,ρ') /\
 ∀x y H' F',Good K tg F' H' ρ' σ->Ext (Own ρ σ) (Own ρ' σ) F H F' H'->Bor K F' H' p.1 x->Bor K F' H' p.2 y->R x y H'
structure E2 (K:Fg9) (X:Cx) (a b:Expr) (m:M (D×D)):Prop where
 go:X.K=K->∃ta tb,PE X a ta/\PE X b tb/\∀σ H R,T2 K m σ H R->ta σ H fun x H1=>tb σ H1 fun y H2=>R x y H2
instance {K:Fg9} {X:Cx} {a b:Expr} {m:M (D×D)}:CoeFun (E2 K X a b m) fun _=>X.K=K->∃ta tb,PE X a ta/\PE X b tb/\∀σ H R,T2 K m σ H R->ta σ H fun x H1=>tb σ H1 fun y H2=>R x y H2:=⟨E2.go⟩
def iu(m1 m2:M D):M (D×D):=m1.bind fun x=>m2.bind fun y=>ret (x,y)
def bh(i:Nat)(m2:M D):M (D×D):=(cu i).bind fun _=>m2.bind fun y=>(cu i).bind fun x=>ret (x,y)
theorem e2_v{m1 m2:M D}(ha:EV K X a m1)(hb:EB K X b m2):E2 K X a b (iu m1 m2):=E2.mk fun hk=>⟨_,_,ha hk,hb hk,fun σ H R z9=>by
 obtain⟨tg,F,ρ,p,ρ',G,em,q⟩:=z9;obtain⟨d1,ρ1,e1,em⟩:=au em;obtain⟨d2,ρ2,e2,em⟩:=au em;obtain⟨rfl,rfl⟩:=jb em;exact⟨tg,F,ρ,d1,ρ1,G,e1,fun x H1 F1 G1 x1 r1=>⟨tg,F1,ρ1,d2,_,G1,e2,fun y H2 F2 G2 x2 r2=>q x y H2 F2 G2 (x1.trans x2) (.inl (r1.mono x2.sub)) r2⟩⟩⟩
theorem e2_n{i:Nat}{m2:M D}(ha:PE X a (tVar i))(hb:EB K X b m2):E2 K X a b (bh i m2):=E2.mk fun hk=>⟨_,_,ha,hb hk,fun σ H R z9=>by
 obtain⟨tg,F,ρ,p,ρ',G,em,q⟩:=z9;obtain⟨d0,ρ0,e0,em⟩:=au em;obtain⟨d2,ρ2,e2,em⟩:=au em;obtain⟨d1,ρ1,e1,em⟩:=au em;obtain⟨rfl,rfl⟩:=jb em;obtain⟨rfl,v,hv,_⟩:=vp G e0;exact⟨v,hv,tg,F,ρ0,d2,ρ2,G,e2,fun y H2 F2 G2 x2 r2=>by
  obtain⟨rfl,v',hv',b'⟩:=vp G2 e1;rw[hv] at hv';cases hv';exact q v y H2 F2 G2 x2 b' r2⟩⟩
end
section
variable{K:Fg9}{X:Cx}{e a b c:Expr}{es:List Expr}{pos p:Pos}
section
variable{F H:Hp}{x:V}
theorem Bor.lst{l:List D}(g:Same F H)(h:Bor K F H (.lst l) x):∃a vs,x=.ref a/\H a=some (.lst vs)/\IsL K F l vs:=by
 rcases h with h | ⟨a,vs,l',e1,e2,e3,h⟩
 ·cases h with
  | lst e h=>exact⟨_,_,rfl,g _ _ e,h⟩
 ·cases e1;exact⟨a,vs,e2,e3,h⟩
theorem Bor.tup{l:List D}(h:Bor K F H (.tup l) x):∃a vs,x=.ref a/\F a=some (.tup vs)/\IsL K F l vs:=by
 rcases h with h | ⟨a,vs,l',e1,_⟩
 ·cases h with
  | tup e h=>exact⟨_,_,rfl,e,h⟩
 ·cases e1
theorem Bor.kst{l:List D}(h:Bor K F H (.kst l) x):∃a vs,x=.ref a/\SqL K F a vs/\IsL K F l vs:=by
 rcases h with h | ⟨a,vs,l',e1,_⟩
 ·cases h with
  | kst e h=>exact⟨_,_,rfl,e,h⟩
 ·cases e1
theorem Bor.int{i:Int}(h:Bor K F H (.int i) x):x=.int i:=by
 rcases h with h | ⟨a,vs,l',e1,_⟩
 ·cases h;rfl
 ·cases e1
theorem Bor.bl{i:Bool}(h:Bor K F H (.bl i) x):x=.bl i:=by
 rcases h with h | ⟨a,vs,l',e1,_⟩
 ·cases h;rfl
 ·cases e1
theorem Bor.str{i:Str}(h:Bor K F H (.str i) x):x=.str i:=by
 rcases h with h | ⟨a,vs,l',e1,_⟩
 ·cases h;rfl
 ·cases e1
theorem Bor.non(h:Bor K F H .non x):x=.non:=by
 rcases h with h | ⟨a,vs,l',e1,_⟩
 ·cases h;rfl
 ·cases e1
end
def Res(K:Fg9)(tg:Nat->Addr)(F H:Hp)(ρ:Ro)(σ:L2.St)(r:Rv)(Q:VK):Prop :=
 ∀v H' F',Good K tg F' H' ρ σ->Ext (Own ρ σ) (Own ρ σ) F H F' H'->relR K r v H (Own ρ σ) F' H' (Own ρ σ)->Q v H'
section
variable{tg:Nat->Addr}{F H:Hp}{ρ:Ro}{σ:L2.St}{Q:VK}
theorem Res.same{d:D}{v:V}(G:Good K tg F H ρ σ)(q:Res K tg F H ρ σ (.v d) Q)(h:Is K F d v):Q v H:=q v H F G (Ext.refl _ _ _) h
theorem Res.tup{l:List D}{vs:List V}(G:Good K tg F H ρ σ)(q:Res K tg F H ρ σ (.v (.tup l)) Q)(h:IsL K F l vs){p:Addr}(hp:H p=none):Q (.ref p) (upd H p (.tup vs)) :=
 q _ _ _ (G.new hp _) (G.newX hp _) (.tup fj (h.mono (Same.new (G.freeF hp) _)))
theorem Res.lst{l:List D}{vs:List V}(G:Good K tg F H ρ σ)(q:Res K tg F H ρ σ (.fr l) Q)(h:IsL K F l vs){p:Addr}(hp:H p=none):Q (.ref p) (upd H p (.lst vs)) :=
 q _ _ _ (G.fresh hp _) (G.freshX hp _) ⟨p,vs,rfl,.inl hp,G.freeF hp,fj,h,fun z=>G.own_ne hp z rfl⟩
end
def rOf(K:Fg9)(g:D->D->Option Rv):R2:=fun x y H Q=>∃tg F ρ σ d1 d2 r,Good K tg F H ρ σ/\Bor K F H d1 x/\Bor K F H d2 y/\g d1 d2=some r/\Res K tg F H ρ σ r Q
structure OpD (K:Fg9) (X:Cx) (f:Value->Value->Sem Value) (g:D->D->Option Rv):Prop where
 go:X.K=K->OpR X f (rOf K g)
instance {K:Fg9} {X:Cx} {f:Value->Value->Sem Value} {g:D->D->Option Rv}:CoeFun (OpD K X f g) fun _=>X.K=K->OpR X f (rOf K g):=⟨OpD.go⟩
def mOp(g:D->D->Option Rv)(m:M (D×D)):M Rv:=m.bind fun p=>lift (g p.1 p.2)
theorem al4{g:D->D->Option Rv}{m:M (D×D)}{ta tb:TE}(h:∀σ H R,T2 K m σ H R->ta σ H fun x H1=>tb σ H1 fun y H2=>R x y H2)(σ:L2.St)(H:Hp)(Q:VK)(t:T K (relR K) (mOp g m) σ H Q):tOp (rOf K g) ta tb σ H Q:=by
 obtain⟨tg,F,ρ,r,ρ',G,em,q⟩:=t;obtain⟨p,ρ1,e1,em⟩:=au em;obtain⟨e2,rfl⟩:=gw em;refine h σ H _ ⟨tg,F,ρ,p,_,G,e1,fun x y H' F' G' x' bx by'=>⟨tg,F',_,σ,p.1,p.2,r,G',bx,by',e2,fun v H2 F2 G2 x2 rr=>q v H2 F2 G2 (x'.trans x2) ?_⟩⟩
 cases r with
 | v d=>exact rr
 | fr l =>
  obtain⟨a,vs,ev,ha,w⟩:=rr;refine⟨a,vs,ev,?_,w⟩;rcases ha with ha | ha
  ·exact .inl (x'.there a ha)
  ·exact(x'.own a ha).symm
 | tf d l =>
  obtain⟨t,u,a,vs,ev,ht,hd,ha,w⟩:=rr;refine⟨t,u,a,vs,ev,ht,hd,?_,w⟩;rcases ha with ha | ha
  ·exact .inl (x'.there a ha)
  ·exact(x'.own a ha).symm
theorem gn{op:Operator}{g:D->D->Option Rv}{m:M (D×D)}(ho:OpD K X (binaryOp op) g)(h:E2 K X a b m):ER K X (.BinOp a op b pos) (mOp g m):=ER.mk fun hk=>by
 obtain⟨ta,tb,ha,hb,h⟩:=h hk;exact PE.imp (a0v (ho hk) ha hb) (al4 h)
theorem aqc{op:CmpOp}{g:D->D->Option Rv}{m:M (D×D)}(ho:OpD K X (compareOp op) g)(h:E2 K X a b m)(hm:behindInMarks op b=false):ER K X (.Compare a [op] [b] pos) (mOp g m):=ER.mk fun hk=>by
 obtain⟨ta,tb,ha,hb,h⟩:=h hk;exact PE.imp (au3 (ho hk) ha hb hm) (al4 h)
def capS:Nat:=16777216
theorem afp{n:Nat}(h:n<=capS):n<=sizeLine:=by rw[sizeLine_eq];exact h
def gAdd:D->D->Option Rv
 | .int i,.int j=>some (.v (.int (i+j)))
 | .tup l,.tup k=>if l.length+k.length<=capS then some (.v (.tup (l++k))) else none
 | .lst l,.lst k=>if l.length+k.length<=capS then some (.fr (l++k)) else none
 | .str i,.str j=>if i.length+j.length<=capS then some (.v (.str (i++j))) else none
 | _,_=>none
theorem sr:OpD K X (binaryOp .Add) gAdd:=OpD.mk fun hk=>by
 intro jv s σ0 H x y v u Q I rx ry ⟨tg,F,ρ,σ,d1,d2,r,G,b1,b2,eg,q⟩;subst hk;unfold gAdd at eg;split at eg
 ·cases eg;obtain rfl:=b1.int;obtain rfl:=b2.int;exact ax1 jv s σ0 H _ _ v u Q I rx ry ⟨_,_,rfl,rfl,Res.same G q (.int _)⟩
 ·split at eg
  ·rename_i hz;cases eg;obtain⟨a1,vs1,rfl,s1,i1⟩:=b1.tup;obtain⟨a2,vs2,rfl,s2,i2⟩:=b2.tup;have l1:=i1.length;have l2:=i2.length
   by_cases hx:vs1=[]
   ·subst hx;cases i1;cases rx;cases ry;obtain⟨its,r1,p1,_⟩:=I.tuple (SqT.of (G.sub _ _ s1));obtain⟨its2,r2,p2,_⟩:=I.tuple (SqT.of (G.sub _ _ s2));exact ata p1 p2 (r1.nil_iff.mpr rfl) ⟨.ref a2,H,I,rfl,Res.same G q (.tup s2 i2)⟩
   ·refine avc jv s σ0 H _ _ v u Q I rx ry ⟨a1,a2,vs1,vs2,rfl,rfl,SqT.of (G.sub _ _ s1),SqT.of (G.sub _ _ s2),hx,by rw[<-l1,<-l2];exact afp hz,fun e =>?_,fun _ p hp=>Res.tup G q (i1.append i2) hp⟩
    subst e;cases i2;exact Res.same G q (.tup s1 (by simpa using i1))
  ·cases eg
 ·split at eg
  ·rename_i hz;cases eg;obtain⟨a1,vs1,rfl,s1,i1⟩:=b1.lst G.sub;obtain⟨a2,vs2,rfl,s2,i2⟩:=b2.lst G.sub;have l1:=i1.length;have l2:=i2.length;exact ax0 jv s σ0 H _ _ v u Q I rx ry ⟨a1,a2,vs1,vs2,rfl,rfl,s1,s2,by rw[<-l1,<-l2];exact afp hz,fun p hp=>Res.lst G q (i1.append i2) hp⟩
  ·cases eg
 ·split at eg
  ·rename_i hz;cases eg;obtain rfl:=b1.str;obtain rfl:=b2.str;exact ano jv s σ0 H _ _ v u Q I rx ry ⟨_,_,rfl,rfl,afp hz,Res.same G q (.str _)⟩
  ·cases eg
 ·cases eg
def gInt(f:Int->Int->Option Int):D->D->Option Rv
 | .int i,.int j=>(f i j).map fun k=>.v (.int k)
 | _,_=>none
theorem akn{op:Operator}{f:Int->Int->Option Int}{C:Int->Int->Prop}{g:Int->Int->Int}(h:OpR X (binaryOp op) (rI C fun i j=>.int (g i j)))(hf:∀i j k,f i j=some k->C i j/\k=g i j):OpD K X (binaryOp op) (gInt f):=OpD.mk fun hk=>by
 intro jv s σ0 H x y v u Q I rx ry ⟨tg,F,ρ,σ,d1,d2,r,G,b1,b2,eg,q⟩;unfold gInt at eg;split at eg
 ·rename_i i j;obtain rfl:=b1.int;obtain rfl:=b2.int;cases z:f i j with
  | none=>rw[z] at eg;cases eg
  | some k =>
   rw[z] at eg;cases eg;obtain⟨h1,rfl⟩:=hf i j k z;exact h jv s σ0 H _ _ v u Q I rx ry ⟨_,_,rfl,rfl,h1,Res.same G q (.int _)⟩
 ·cases eg
def fSub(i j:Int):Option Int:=some (i - j)
def fMul(i j:Int):Option Int:=if (-18446744073709551616 < i/\i < 18446744073709551616)∨(-18446744073709551616 < j/\j < 18446744073709551616) then some (i*j) else none
theorem ax6{i j:Int}(h0:0 < j)(h:j < 1000000000000000000000000000000000000000000000000000000000000):Builtin.divisionGoesByPylong i j=false:=by
 have e2:(2:Nat) ^ 200=1606938044258990275541962092341162602522202993782792835301376:=by decide +kernel
 have hl:j.natAbs.log2 < 200:=(Nat.log2_lt (by omega)).2 (by rw[e2];omega)
 have hd:¬(j.natAbs.log2 / 30+1 > 300):=by omega
 have hj:(j==0)=false:=by
  rw[beq_eq_false_iff_ne];omega
 unfold Builtin.divisionGoesByPylong;simp only[hj,Bool.false_eq_true,if_false,hd,decide_false,Bool.false_and]
theorem asf:OpR X (binaryOp .FloorDiv) (rI (fun _ j=>0 < j/\j < 1000000000000000000000000000000000000000000000000000000000000) fun i j=>.int (i / j)):=opI fun i j _ _ _ _ _ hc q=>by
 have h1:(0:Int) < j:=hc.1;exact floordiv_int (by omega) (by rw[Int.fdiv_eq_ediv_of_nonneg i (by omega)];exact q) (.inl (ax6 hc.1 hc.2))
def fDiv(i j:Int):Option Int:=if 0 < j/\j < 1000000000000000000000000000000000000000000000000000000000000 then some (i / j) else none
def fMod(i j:Int):Option Int:=if 0 < j then some (i % j) else none
def fPow(i j:Int):Option Int:=if 0<=j/\j<=1000000/\i.natAbs < 18446744073709551616 then some (i ^ j.toNat) else none
theorem adl:OpD K X (binaryOp .Sub) (gInt fSub):=OpD.mk fun hk=>by
 intro jv s σ0 H x y v u Q I rx ry ⟨tg,F,ρ,σ,d1,d2,r,G,b1,b2,eg,q⟩;unfold gInt at eg;split at eg
 ·obtain rfl:=b1.int;obtain rfl:=b2.int;cases eg;exact axv jv s σ0 H _ _ v u Q I rx ry ⟨_,_,rfl,rfl,Res.same G q (.int _)⟩
 ·cases eg
end
mutual
def toPy:D->PyData
 | .non=>.none
 | .bl b=>.bool b
 | .int i=>.int i
 | .str x=>.str x
 | .tup l=>.tuple (abm l)
 | .lst l=>.list (abm l)
 | .kst l=>.list (abm l)
 | .dct _=>.dict []
 | .exn _ _=>.dict []
def abm:List D->List PyData
 | []=>[]
 | d::r=>toPy d::abm r
end
def okD:Nat->D->Bool
 | _,.non=>true
 | _,.bl _=>true
 | _,.int _=>true
 | _,.str x=>PyData.strOk x
 | n+1,.tup l=>l.all (okD n)
 | n+1,.lst l=>l.all (okD n)
 | n+1,.kst l=>l.all (okD n)
 | _,_=>false
theorem ahf{n:Nat}(ih:∀d,okD n d=true->(toPy d).canLay0=true/\(toPy d).depth<=n):∀l:List D,l.all (okD n)=true->PyData.canLayAll0 (abm l)=true/\PyData.depthAll (abm l)<=n
 | [],_=>⟨rfl,Nat.zero_le _⟩
 | d::r,h=>by
  rw[List.all_cons,Bool.and_eq_true] at h;obtain⟨h1,h2⟩:=ih d h.1;obtain⟨h3,h4⟩:=ahf ih r h.2;refine⟨?_,?_⟩
  ·show(PyData.canLay0 (toPy d)&&PyData.canLayAll0 (abm r))=true;rw[h1,h3];rfl
  ·show max (PyData.depth (toPy d)) (PyData.depthAll (abm r))<=n;omega
theorem zu:∀(n:Nat) (d:D),okD n d=true->(toPy d).canLay0=true/\(toPy d).depth<=n
 | n,.non,_=>⟨rfl,Nat.zero_le _⟩
 | n,.bl _,_=>⟨rfl,Nat.zero_le _⟩
 | n,.int _,_=>⟨rfl,Nat.zero_le _⟩
 | n,.str x,h=>by
  refine⟨?_,Nat.zero_le _⟩;cases n <;> exact h
 | n+1,.tup l,h=>by
  obtain⟨h1,h2⟩:=ahf (zu n) l h;exact⟨h1,Nat.succ_le_succ h2⟩
 | n+1,.lst l,h=>by
  obtain⟨h1,h2⟩:=ahf (zu n) l h;exact⟨h1,Nat.succ_le_succ h2⟩
 | n+1,.kst l,h=>by
  obtain⟨h1,h2⟩:=ahf (zu n) l h;exact⟨h1,Nat.succ_le_succ h2⟩
 | 0,.tup l,h=>by cases h
 | 0,.lst l,h=>by cases h
 | 0,.kst l,h=>by cases h
 | 0,.dct l,h=>by cases h
 | n+1,.dct l,h=>by cases h
 | 0,.exn _ _,h=>by cases h
 | n+1,.exn _ _,h=>by cases h
def eqD(a b:D):Bool:=PyData.eqv (toPy a) (toPy b)
def eqDs:List D->List D->Bool
 | [],[]=>true
 | a::r,b::t=>eqD a b&&eqDs r t
 | _,_=>false
theorem aqd:∀a b:List D,PyData.eqvAll (abm a) (abm b)=eqDs a b
 | [],[]=>rfl
 | a::r,b::t=>by
  show(PyData.eqv (toPy a) (toPy b)&&PyData.eqvAll (abm r) (abm t))=_;rw[aqd r t];rfl
 | [],_::_=>rfl
 | _::_,[]=>rfl
section
variable{K:Fg9}{X:Cx}
section
variable{jv:List (Addr×Obj)}{σ:L2.St}{F H:Hp}{s:Shared}
mutual
theorem acs(I:Inv X jv σ H s)(g:Same F H):∀{n:Nat} {d:D} {v:V} {u:Value},Is X.K F d v->okD n d=true->RelV v u->∃as,Reads s.heap u (toPy d) as
 | _,_,_,_,.non,_,r=>by cases r;exact⟨_,.none⟩
 | _,_,_,_,.bl b,_,r=>by cases r;exact⟨_,.bool b⟩
 | _,_,_,_,.int i,_,r=>by obtain⟨t,rfl⟩:=r;exact⟨_,.int i t⟩
 | _,_,_,_,.str i,_,r=>by obtain⟨t,rfl⟩:=r;exact⟨_,.str i t⟩
 | 0,_,_,_,.tup e h,k,r=>by cases k
 | n+1,_,_,_,.tup e h,k,r=>by
  cases r;obtain⟨its,rv,p1,_⟩:=I.tuple (SqT.of (g _ _ e));obtain⟨o,ho,hc,m,hd⟩:=p1;obtain⟨as,ra⟩:=aam I g h k rv;exact⟨_,.tuple ho hc hd (by simpa using ra)⟩
 | 0,_,_,_,.lst e h,k,r=>by cases k
 | n+1,_,_,_,.lst e h,k,r=>by
  cases r;obtain⟨its,rv,p1,_⟩:=I.list (SqL.of (g _ _ e));obtain⟨o,ho,hc,m,hd⟩:=p1.isList;obtain⟨as,ra⟩:=aam I g h k rv;exact⟨_,.list ho hc hd (by simpa using ra)⟩
 | 0,_,_,_,.kst e h,k,r=>by cases k
 | n+1,_,_,_,.kst e h,k,r=>by
  cases r;obtain⟨its,rv,p1,_⟩:=I.list (L2.Same.seq g e);obtain⟨o,ho,hc,m,hd⟩:=p1.isList;obtain⟨as,ra⟩:=aam I g h k rv;exact⟨_,.list ho hc hd (by simpa using ra)⟩
 | 0,_,_,_,.dct e h,k,r=>by cases k
 | n+1,_,_,_,.dct e h,k,r=>by cases k
 | 0,_,_,_,.exn ..,k,r=>by cases k
 | n+1,_,_,_,.exn ..,k,r=>by cases k
theorem aam(I:Inv X jv σ H s)(g:Same F H):∀{n:Nat} {ds:List D} {vs:List V} {us:List Value},IsL X.K F ds vs->ds.all (okD n)=true->Vals vs us->∃as,ReadsAll s.heap us (abm ds) as
 | _,_,_,_,.nil,_,r=>by cases r;exact⟨_,.nil⟩
 | n,_,_,_,.cons h t,k,r=>by
  rw[List.all_cons,Bool.and_eq_true] at k;cases r with
  | cons r1 r2 =>
   obtain⟨as,ra⟩:=acs I g h k.1 r1;obtain⟨bs,rb⟩:=aam I g t k.2 r2;exact⟨_,.cons ra rb⟩
end
theorem xg(I:Inv X jv σ H s)(g:Same F H){n:Nat}{d:D}{v:V}{u:Value}(h:Bor X.K F H d v)(k:okD n d=true)(r:RelV v u):∃as,Reads s.heap u (toPy d) as:=by
 rcases h with h | ⟨a,vs,l,rfl,rfl,e,h⟩
 ·exact acs I g h k r
 ·cases r;cases n with
  | zero=>cases k
  | succ n =>
   obtain⟨its,rv,p1,_⟩:=I.list (SqL.of e);obtain⟨o,ho,hc,m,hd⟩:=p1.isList;obtain⟨as,ra⟩:=aam I g h k rv;exact⟨_,.list ho hc hd (by simpa using ra)⟩
end
def gEq(neg:Bool)(a b:D):Option Rv:=if okD 30 a&&okD 30 b then some (.v (.bl (if neg then !eqD a b else eqD a b))) else none
theorem af5(hu:X.A.units+64 < cLine):OpD K X (compareOp .Eq) (gEq false):=OpD.mk fun hk=>by
 intro jv s σ0 H x y v u Q I rx ry ⟨tg,F,ρ,σ,d1,d2,r,G,b1,b2,eg,q⟩;subst hk;unfold gEq at eg;split at eg
 ·rename_i ho;rw[Bool.and_eq_true] at ho;cases eg;obtain⟨as,ra⟩:=xg I G.sub b1 ho.1 rx;obtain⟨bs,rb⟩:=xg I G.sub b2 ho.2 ry;obtain⟨c1,p1⟩:=zu _ _ ho.1;obtain⟨c2,p2⟩:=zu _ _ ho.2;exact PySem.SeqAt.compareEq_reads ra rb c1 c2 (by omega) ⟨.bl _,H,I,rfl,Res.same G q (.bl _)⟩
 ·cases eg
theorem aip(hu:X.A.units+64 < cLine):OpD K X (compareOp .NotEq) (gEq true):=OpD.mk fun hk=>by
 intro jv s σ0 H x y v u Q I rx ry ⟨tg,F,ρ,σ,d1,d2,r,G,b1,b2,eg,q⟩;subst hk;unfold gEq at eg;split at eg
 ·rename_i ho;rw[Bool.and_eq_true] at ho;cases eg;obtain⟨as,ra⟩:=xg I G.sub b1 ho.1 rx;obtain⟨bs,rb⟩:=xg I G.sub b2 ho.2 ry;obtain⟨c1,p1⟩:=zu _ _ ho.1;obtain⟨c2,p2⟩:=zu _ _ ho.2;exact PySem.SeqAt.compareNe_reads ra rb c1 c2 (by omega) ⟨.bl _,H,I,rfl,Res.same G q (.bl _)⟩
 ·cases eg
def itemsD:D->Option (List D)
 | .tup l=>some l
 | .lst l=>some l
 | .kst l=>some l
 | _=>none
def gIn(neg:Bool)(a b:D):Option Rv:=match itemsD b with
 | some l=>if okD 30 a&&l.all (okD 30) then some (.v (.bl (if neg then !l.any (fun y=>eqD y a) else l.any (fun y=>eqD y a)))) else none
 | none=>none
open Classical in
noncomputable def aab(h:Heap)(dx:PyData)(u:Value):Bool:=decide (∃d as,Reads h u d as/\d.canLay0=true/\PyData.eqv d dx=true)
open Classical in
theorem ahv{h:Heap}{dx d:PyData}{u:Value}{as:List Addr}(r:Reads h u d as)(c:d.canLay0=true):aab h dx u=PyData.eqv d dx:=by
 unfold aab;cases e:PyData.eqv d dx with
 | true=>exact decide_eq_true ⟨d,as,r,c,e⟩
 | false =>
  refine decide_eq_false ?_
  rintro⟨d',as',r',c',e'⟩
  rw[<-PySem.SeqAt.Reads.unique d d' u as as' c r r'] at e';rw[e] at e';cases e'
theorem ym{jv:List (Addr×Obj)}{σ:L2.St}{F H:Hp}{s:Shared}(I:Inv X jv σ H s)(g:Same F H){a:D}{n:Nat}:∀{ds:List D} {vs:List V} {us:List Value},IsL X.K F ds vs->ds.all (okD n)=true->Vals vs us ->
  us.any (aab s.heap (toPy a))=ds.any (fun y=>eqD y a)/\∀u∈us,∃d as,Reads s.heap u d as/\d.canLay0=true/\d.depth<=n
 | _,_,_,.nil,_,r=>by cases r;exact⟨rfl,fun u hu=>by cases hu⟩
 | _,_,_,.cons h t,k,r=>by
  rw[List.all_cons,Bool.and_eq_true] at k;cases r with
  | cons r1 r2 =>
   obtain⟨as,ra⟩:=acs I g h k.1 r1;obtain⟨c,p⟩:=zu _ _ k.1;obtain⟨e,z⟩:=ym I g (a:=a) t k.2 r2;refine⟨?_,fun u hu =>?_⟩
   ·rw[List.any_cons,List.any_cons,e,ahv ra c];rfl
   ·rcases List.mem_cons.mp hu with rfl | hu
    ·exact⟨_,as,ra,c,p⟩
    ·exact z u hu
theorem yg{s:Shared}{A:Around}(hu:A.units+64 < cLine){us:List Value}{a:D}{v:Value}{as:List Addr}(ra:Reads s.heap v (toPy a) as)(ka:okD 30 a=true)(z:∀u∈us,∃d as,Reads s.heap u d as/\d.canLay0=true/\d.depth<=30) :
  ∀u∈us,SeqAt.EqAt A.in1 s u v (aab s.heap (toPy a) u):=fun u hm=>by
 obtain⟨d,bs,rb,c,p⟩:=z u hm;obtain⟨c2,p2⟩:=zu _ _ ka;rw[ahv rb c];refine PySem.SeqAt.eqAt_reads d (toPy a) A.in1 s u v bs as rb ra c c2 ?_;show A.units+1+_ < _;omega
theorem ajk{a b:D}{neg:Bool}{r:Rv}(h:gIn neg a b=some r):∃l,itemsD b=some l/\okD 30 a=true/\l.all (okD 30)=true/\r=.v (.bl (if neg then !l.any (fun y=>eqD y a) else l.any (fun y=>eqD y a))):=by
 unfold gIn at h;split at h
 ·rename_i l e;split at h
  ·rename_i ho;rw[Bool.and_eq_true] at ho;cases h;exact⟨l,e,ho.1,ho.2,rfl⟩
  ·cases h
 ·cases h
theorem ael{F H:Hp}{d:D}{l:List D}{x:V}(g:Same F H)(e:itemsD d=some l)(h:Bor K F H d x):∃a vs,x=.ref a/\IsL K F l vs/\(SqL K H a vs∨SqT K H a vs):=by
 cases d with
 | tup k =>
  cases e;obtain⟨a,vs,rfl,e,h⟩:=h.tup;exact⟨a,vs,rfl,h,.inr (SqT.of (g _ _ e))⟩
 | lst k =>
  cases e;obtain⟨a,vs,rfl,e,h⟩:=h.lst g;exact⟨a,vs,rfl,h,.inl (SqL.of e)⟩
 | kst k =>
  cases e;obtain⟨a,vs,rfl,e,h⟩:=h.kst;exact⟨a,vs,rfl,h,.inl (L2.Same.seq g e)⟩
 | _=>cases e
theorem axu(hu:X.A.units+64 < cLine):OpD K X (compareOp .In) (gIn false):=OpD.mk fun hk=>by
 intro jv s σ0 H x y v u Q I rx ry ⟨tg,F,ρ,σ,d1,d2,r,G,b1,b2,eg,q⟩;subst hk;obtain⟨l,e,k1,k2,rfl⟩:=ajk eg;obtain⟨as,ra⟩:=xg I G.sub b1 k1 rx;obtain⟨p,vs,rfl,hl,hs⟩:=ael G.sub e b2;cases ry;rcases hs with hs | hs
 ·obtain⟨its,rv,pl,_⟩:=I.list hs;obtain⟨ea,z⟩:=ym I G.sub (a:=d1) hl k2 rv;refine SeqAt.in_listAt (aab s.heap (toPy d1)) pl.isList (fun w hw=>yg hu ra k1 z w (by simpa using hw)) ⟨.bl _,H,I,rfl,?_⟩
  rw[show its.toArray.any (aab s.heap (toPy d1))=its.any (aab s.heap (toPy d1)) by simp,ea]
  exact Res.same G q (.bl _)
 ·obtain⟨its,rv,pl,_⟩:=I.tuple hs;obtain⟨ea,z⟩:=ym I G.sub (a:=d1) hl k2 rv;refine SeqAt.in_tupleAt (aab s.heap (toPy d1)) pl (fun w hw=>yg hu ra k1 z w (by simpa using hw)) ⟨.bl _,H,I,rfl,?_⟩
  rw[show its.toArray.any (aab s.heap (toPy d1))=its.any (aab s.heap (toPy d1)) by simp,ea]
  exact Res.same G q (.bl _)
theorem qm(hu:X.A.units+64 < cLine):OpD K X (compareOp .NotIn) (gIn true):=OpD.mk fun hk=>by
 intro jv s σ0 H x y v u Q I rx ry ⟨tg,F,ρ,σ,d1,d2,r,G,b1,b2,eg,q⟩;subst hk;obtain⟨l,e,k1,k2,rfl⟩:=ajk eg;obtain⟨as,ra⟩:=xg I G.sub b1 k1 rx;obtain⟨p,vs,rfl,hl,hs⟩:=ael G.sub e b2;cases ry;rcases hs with hs | hs
 ·obtain⟨its,rv,pl,_⟩:=I.list hs;obtain⟨ea,z⟩:=ym I G.sub (a:=d1) hl k2 rv;refine SeqAt.notIn_listAt (aab s.heap (toPy d1)) pl.isList (fun w hw=>yg hu ra k1 z w (by simpa using hw)) ⟨.bl _,H,I,rfl,?_⟩
  rw[show its.toArray.any (aab s.heap (toPy d1))=its.any (aab s.heap (toPy d1)) by simp,ea]
  exact Res.same G q (.bl _)
 ·obtain⟨its,rv,pl,_⟩:=I.tuple hs;obtain⟨ea,z⟩:=ym I G.sub (a:=d1) hl k2 rv;refine SeqAt.notIn_tupleAt (aab s.heap (toPy d1)) pl (fun w hw=>yg hu ra k1 z w (by simpa using hw)) ⟨.bl _,H,I,rfl,?_⟩
  rw[show its.toArray.any (aab s.heap (toPy d1))=its.any (aab s.heap (toPy d1)) by simp,ea]
  exact Res.same G q (.bl _)
end
end Dn
namespace Dn
open L2 Mn
section
variable{K:Fg9}{X:Cx}{e a b c:Expr}{es:List Expr}{pos p:Pos}
theorem ava:OpD K X (binaryOp .FloorDiv) (gInt fDiv):=akn asf fun i j k h=>by
 unfold fDiv at h;split at h
 ·cases h;exact⟨by assumption,rfl⟩
 ·cases h
theorem aao:OpD K X (binaryOp .Mod) (gInt fMod):=akn axz fun i j k h=>by
 unfold fMod at h;split at h
 ·cases h;exact⟨by assumption,rfl⟩
 ·cases h
theorem au9:OpD K X (binaryOp .Pow) (gInt fPow):=akn axx fun i j k h=>by
 unfold fPow at h;split at h
 ·rename_i hc;cases h;exact⟨⟨hc.1,hc.2.1,hc.2.2⟩,rfl⟩
 ·cases h
def gMul:D->D->Option Rv
 | .int i,.int j=>(fMul i j).map fun k=>.v (.int k)
 | .tup l,.int k=>if k=1 then some (.v (.tup l)) else if l≠[]/\2<=k/\k < 9223372036854775808/\l.length*k.toNat<=capS then some (.v (.tup (List.replicate k.toNat l).flatten)) else none
 | .lst l,.int k=>if k.natAbs < 9223372036854775808/\l.length*k.toNat<=capS then some (.fr (List.replicate k.toNat l).flatten) else none
 | _,_=>none
theorem akm:OpD K X (binaryOp .Mult) gMul:=OpD.mk fun hk=>by
 intro jv s σ0 H x y v u Q I rx ry ⟨tg,F,ρ,σ,d1,d2,r,G,b1,b2,eg,q⟩;subst hk;unfold gMul at eg;split at eg
 ·rename_i i j;obtain rfl:=b1.int;obtain rfl:=b2.int;unfold fMul at eg;split at eg
  ·rename_i hc;cases eg;exact axy jv s σ0 H _ _ v u Q I rx ry ⟨_,_,rfl,rfl,hc,Res.same G q (.int _)⟩
  ·cases eg
 ·rename_i l k;split at eg
  ·rename_i hk1;subst hk1;cases eg;obtain⟨a1,vs1,rfl,s1,i1⟩:=b1.tup;obtain rfl:=b2.int;exact avb jv s σ0 H _ _ v u Q I rx ry ⟨a1,vs1,rfl,rfl,G.sub _ _ s1,Res.same G q (.tup s1 i1)⟩
  split at eg
  ·rename_i hc;obtain⟨h0,h2,h3,hz⟩:=hc;cases eg;obtain⟨a1,vs1,rfl,s1,i1⟩:=b1.tup;obtain rfl:=b2.int;have l1:=i1.length;refine asd jv s σ0 H _ _ v u Q I rx ry ⟨a1,vs1,k,rfl,rfl,G.sub _ _ s1,?_,h2,h3,by rw[<-l1];exact afp hz,fun p hp=>Res.tup G q (i1.rep _) hp⟩
   intro z;subst z;cases i1;exact h0 rfl
  ·cases eg
 ·rename_i l k;split at eg
  ·rename_i hc;obtain⟨hab,hz⟩:=hc;have h0 : -9223372036854775808<=k:=by omega
   have h2:k < 9223372036854775808:=by omega
   cases eg;obtain⟨a1,vs1,rfl,s1,i1⟩:=b1.lst G.sub;obtain rfl:=b2.int;have l1:=i1.length;exact axw jv s σ0 H _ _ v u Q I rx ry ⟨a1,k,vs1,rfl,rfl,s1,h0,h2,by rw[<-l1];exact afp hz,fun p hp=>Res.lst G q (i1.rep _) hp⟩
  ·cases eg
 ·cases eg
def gCmp(f:Int->Int->Bool):D->D->Option Rv
 | .int i,.int j=>some (.v (.bl (f i j)))
 | _,_=>none
theorem apd{op:CmpOp}{f:Int->Int->Bool}(h:OpR X (compareOp op) (rI0 fun i j=>.bl (f i j))):OpD K X (compareOp op) (gCmp f):=OpD.mk fun hk=>by
 intro jv s σ0 H x y v u Q I rx ry ⟨tg,F,ρ,σ,d1,d2,r,G,b1,b2,eg,q⟩;unfold gCmp at eg;split at eg
 ·cases eg;obtain rfl:=b1.int;obtain rfl:=b2.int;exact h jv s σ0 H _ _ v u Q I rx ry ⟨_,_,rfl,rfl,Res.same G q (.bl _)⟩
 ·cases eg
theorem aiq:OpD K X (compareOp .Lt) (gCmp fun i j=>decide (i < j)):=apd a0z
theorem air:OpD K X (compareOp .GtE) (gCmp fun i j=>decide (j<=i)):=apd a00
def gNeg:D->Option D
 | .int i=>some (.int (-i))
 | _=>none
def mUn(g:D->Option D)(m:M D):M D:=m.bind fun d=>lift (g d)
theorem agj{m:M D}(h:EV K X a m):EV K X (.UnaryOp .USub a pos) (mUn gNeg m):=EV.mk fun hk=>PE.imp (a0u awn (h hk)) fun σ H Q z9=>by
 obtain⟨tg,F,ρ,d,ρ',G,em,q⟩:=z9;obtain⟨d1,ρ1,e1,em⟩:=au em;obtain⟨e2,rfl⟩:=gw em;refine⟨tg,F,ρ,d1,_,G,e1,fun v H' F' G' x r =>?_⟩
 cases d1 with
 | int i =>
  cases e2;cases r;exact⟨i,rfl,q _ H' F' G' x (.int _)⟩
 | _=>cases e2
def asB:D->Option Bool
 | .bl b=>some b
 | _=>none
def gNot(d:D):Option D:=(asB d).map fun k=>.bl (!k)
theorem am3{d:D}{k:Bool}(h:asB d=some k):d=.bl k:=by
 cases d with
 | bl b=>cases h;rfl
 | _=>cases h
theorem at6{m:M D}(h:EV K X a m):EV K X (.UnaryOp .Not a pos) (mUn gNot m):=EV.mk fun hk=>PE.imp (axm (h hk)) fun σ H Q z9=>by
 obtain⟨tg,F,ρ,d,ρ',G,em,q⟩:=z9;obtain⟨d1,ρ1,e1,em⟩:=au em;obtain⟨e2,rfl⟩:=gw em;refine⟨tg,F,ρ,d1,_,G,e1,fun v H' F' G' x r =>?_⟩
 cases d1 with
 | bl i =>
  cases e2;cases r;exact⟨i,rfl,q _ H' F' G' x (.bl _)⟩
 | _=>cases e2
def mAnd(m1 m2:M D):M D:=m1.bind fun d=>(lift (asB d)).bind fun k=>if k=true then m2 else ret (.bl false)
theorem ajm{op}{m:M D}(h:EV K X a m):EV K X (.BoolOp op [a] pos) m:=EV.mk fun hk=>axl (h hk)
theorem ajn{m1 m2:M D}{rest:List Expr}(h1:EV K X a m1)(h2:EV K X (.BoolOp .And (b::rest) pos) m2):EV K X (.BoolOp .And (a::b::rest) pos) (mAnd m1 m2):=EV.mk fun hk=>PE.imp (axt (h1 hk) (h2 hk)) fun σ H Q z9=>by
 obtain⟨tg,F,ρ,d,ρ',G,em,q⟩:=z9;obtain⟨d1,ρ1,e1,em⟩:=au em;obtain⟨k,ρ2,e2,em⟩:=au em;obtain⟨e3,rfl⟩:=gw e2;obtain rfl:=am3 e3;refine⟨tg,F,ρ,_,_,G,e1,fun v H' F' G' x r =>?_⟩
 cases r;refine⟨k,rfl,?_⟩;cases k with
 | true=>exact iteT ⟨tg,F',_,d,ρ',G',em,fun v2 H2 F2 G2 x2 r2=>q v2 H2 F2 G2 (x.trans x2) r2⟩
 | false =>
  obtain⟨rfl,rfl⟩:=jb (show ret (D.bl false) _=_ from em)
  exact iteF (q _ H' F' G' x (.bl _))
def TB(K:Fg9)(m:M Bool):TT:=fun σ H Q=>∃tg F ρ k ρ',Good K tg F H ρ σ/\m ρ=some (.ok k,ρ')/\∀H' F',Good K tg F' H' ρ' σ->Ext (Own ρ σ) (Own ρ' σ) F H F' H'->Q k H'
structure ET (K:Fg9) (X:Cx) (e:Expr) (m:M Bool):Prop where
 go:X.K=K->PT X e (TB K m)
instance {K:Fg9} {X:Cx} {e:Expr} {m:M Bool}:CoeFun (ET K X e m) fun _=>X.K=K->PT X e (TB K m):=⟨ET.go⟩
structure EW (K:Fg9) (X:Cx) (e:Expr) (m:M Bool):Prop where
 go:X.K=K->PW X e (TB K m)
instance {K:Fg9} {X:Cx} {e:Expr} {m:M Bool}:CoeFun (EW K X e m) fun _=>X.K=K->PW X e (TB K m):=⟨EW.go⟩
theorem PT.imp{t t':TT}(h:PT X e t)(w:∀σ H Q,t' σ H Q->t σ H Q):PT X e t':=fun jv s σ H Q I q=>h jv s σ H Q I (w σ H Q q)
theorem PW.imp{t t':TT}(h:PW X e t)(w:∀σ H Q,t' σ H Q->t σ H Q):PW X e t':=fun wh jv s σ H Q I q=>h wh jv s σ H Q I (w σ H Q q)
theorem EW.pt{m:M Bool}(h:EW K X e m):ET K X e m:=ET.mk fun hk=>(h hk).pt
def uz(m:M D):M Bool:=m.bind fun d=>lift (asB d)
theorem arj{m:M D}(σ:L2.St)(H:Hp)(Q:Bool->Hp->Prop)(t:TB K (uz m) σ H Q):tB (T K (relD K) m) σ H Q:=by
 obtain⟨tg,F,ρ,k,ρ',G,em,q⟩:=t;obtain⟨d1,ρ1,e1,em⟩:=au em;obtain⟨e3,rfl⟩:=gw em;obtain rfl:=am3 e3;refine⟨tg,F,ρ,_,_,G,e1,fun v H' F' G' x r =>?_⟩
 cases r;exact⟨k,rfl,q H' F' G' x⟩
theorem abu{m:M D}(h:EV K X e m)(he:∀whole,isTrue e X.env whole=(do let v <-whole;standAt e.pos;holding [v] (truthy v)):=by intro _;rfl):ET K X e (uz m):=ET.mk fun hk=>PT.imp (axc (h hk) he) arj
def g8(g:D->D->Option Rv)(m:M (D×D)):M Bool:=uz (mOp g m).d
theorem jg{op:CmpOp}{g:D->D->Option Rv}{m:M (D×D)}(ho:OpD K X (compareOp op) g)(h:E2 K X a b m)(hm:behindInMarks op b=false):ET K X (.Compare a [op] [b] pos) (g8 g m):=ET.mk fun hk=>by
 obtain⟨ta,tb,ha,hb,h⟩:=h hk;refine PT.imp (ao4 (ho hk) ha hb hm) fun σ H Q t =>?_
 obtain⟨tg,F,ρ,k,ρ',G,em,q⟩:=t;obtain⟨d1,ρ1,e1,em⟩:=au em;obtain⟨e3,rfl⟩:=gw em;obtain rfl:=am3 e3;obtain⟨r,ρ2,e1,em⟩:=au e1;obtain⟨er,rfl⟩:=jb em;refine al4 h σ H _ ⟨tg,F,ρ,r,_,G,e1,fun v H' F' G' x w =>?_⟩
 cases r with
 | v d =>
  have er:d=.bl k:=er;subst er;have w:Is K F' (.bl k) v:=w;cases w;exact⟨k,rfl,q H' F' G' x⟩
 | fr l=>cases er
 | tf d l=>cases er
def aea(m:M Bool):M Bool:=m.bind fun k=>ret (!k)
theorem abv{m:M Bool}(h:ET K X a m):ET K X (.UnaryOp .Not a pos) (aea m):=ET.mk fun hk=>PT.imp (axd (h hk)) fun σ H Q z9=>by
 obtain⟨tg,F,ρ,k,ρ',G,em,q⟩:=z9;obtain⟨d1,ρ1,e1,em⟩:=au em;obtain⟨rfl,rfl⟩:=jb em;exact⟨tg,F,ρ,d1,_,G,e1,fun H' F' G' x=>q H' F' G' x⟩
def ai3(m1 m2:M Bool):M Bool:=m1.bind fun k=>if k=true then m2 else ret false
def mOrB(m1 m2:M Bool):M Bool:=m1.bind fun k=>if k=true then ret true else m2
theorem adt{m:M Bool}(h:ET K X a m):EW K X (.BoolOp .And [a] pos) m:=EW.mk fun hk=>aut (h hk)
theorem ap9{m:M Bool}(h:ET K X a m):EW K X (.BoolOp .Or [a] pos) m:=EW.mk fun hk=>aw8 (h hk)
theorem agi{m1 m2:M Bool}{rest:List Expr}(h1:ET K X a m1)(h2:EW K X (.BoolOp .And (b::rest) pos) m2):EW K X (.BoolOp .And (a::b::rest) pos) (ai3 m1 m2):=EW.mk fun hk=>PW.imp (aw9 (h1 hk) (h2 hk)) fun σ H Q z9=>by
 obtain⟨tg,F,ρ,d,ρ',G,em,q⟩:=z9;obtain⟨k,ρ1,e1,em⟩:=au em;refine⟨tg,F,ρ,k,_,G,e1,fun H' F' G' x =>?_⟩
 cases k with
 | true=>exact iteT ⟨tg,F',_,d,ρ',G',em,fun H2 F2 G2 x2=>q H2 F2 G2 (x.trans x2)⟩
 | false =>
  obtain⟨rfl,rfl⟩:=jb (show ret false _=_ from em)
  exact iteF (q H' F' G' x)
theorem av1{m1 m2:M Bool}{rest:List Expr}(h1:ET K X a m1)(h2:EW K X (.BoolOp .Or (b::rest) pos) m2):EW K X (.BoolOp .Or (a::b::rest) pos) (mOrB m1 m2):=EW.mk fun hk=>PW.imp (a0q (h1 hk) (h2 hk)) fun σ H Q z9=>by
 obtain⟨tg,F,ρ,d,ρ',G,em,q⟩:=z9;obtain⟨k,ρ1,e1,em⟩:=au em;refine⟨tg,F,ρ,k,_,G,e1,fun H' F' G' x =>?_⟩
 cases k with
 | false=>exact iteF ⟨tg,F',_,d,ρ',G',em,fun H2 F2 G2 x2=>q H2 F2 G2 (x.trans x2)⟩
 | true =>
  obtain⟨rfl,rfl⟩:=jb (show ret true _=_ from em)
  exact iteT (q H' F' G' x)
def ai2(f g:Int->Int->Bool)(m1 m2 m3:M D):M D:=m1.bind fun x=>m2.bind fun y=>match x,y with
 | .int i,.int j=>if f i j=true then m3.bind fun z=>match z with
  | .int k=>ret (.bl (g j k))
  | _=>lift none
  else ret (.bl false)
 | _,_=>lift none
theorem aqo{f g:Int->Int->Bool}{m1 m2 m3:M D}(σ:L2.St)(H:Hp)(Q:VK)(t:T K (relD K) (ai2 f g m1 m2 m3) σ H Q) :
  atj (rI0 fun i j=>.bl (f i j)) (rI0 fun i j=>.bl (g i j)) (T K (relD K) m1) (T K (relD K) m2) (T K (relD K) m3) σ H Q:=by
 obtain⟨tg,F,ρ,d,ρ',G,em,q⟩:=t;obtain⟨d1,ρ1,e1,em⟩:=au em;obtain⟨d2,ρ2,e2,em⟩:=au em;have bad:∀{ρ:Ro},(lift (none:Option D)) ρ=some (.ok d,ρ')->False:=fun z=>by
  obtain⟨z,_⟩:=gw z;cases z
 cases d1 with
 | int i =>
  cases d2 with
  | int j =>
   refine⟨tg,F,ρ,_,ρ1,G,e1,fun v H1 F1 G1 x1 r1=>⟨tg,F1,ρ1,_,ρ2,G1,e2,fun v2 H2 F2 G2 x2 r2 =>?_⟩⟩
   cases r1;cases r2;refine⟨i,j,rfl,rfl,f i j,rfl,?_⟩;have em:(if f i j=true then m3.bind fun z=>match z with
    | .int k=>ret (.bl (g j k))
    | _=>lift none
    else ret (.bl false)) ρ2=some (.ok d,ρ'):=em
   by_cases hf:f i j=true
   ·rw[if_pos hf] at em ⊢
    obtain⟨d3,ρ3,e3,em⟩:=au em;refine⟨tg,F2,ρ2,d3,ρ3,G2,e3,fun v3 H3 F3 G3 x3 r3 =>?_⟩
    cases d3 with
    | int k =>
     obtain⟨rfl,rfl⟩:=jb (show ret (D.bl (g j k)) _=_ from em)
     cases r3;exact⟨j,k,rfl,rfl,q _ H3 F3 G3 ((x1.trans x2).trans x3) (.bl _)⟩
    | _=>exact(bad em).elim
   ·rw[if_neg hf] at em ⊢
    obtain⟨rfl,rfl⟩:=jb em;exact q _ H2 F2 G2 (x1.trans x2) (.bl _)
  | _=>exact(bad em).elim
 | _=>cases d2 <;> exact(bad em).elim
theorem amv{op op':CmpOp}{f g:Int->Int->Bool}{m1 m2 m3:M D}(ho:OpR X (compareOp op) (rI0 fun i j=>.bl (f i j)))(ho':OpR X (compareOp op') (rI0 fun i j=>.bl (g i j)))(h1:EV K X a m1)(h2:EV K X b m2)(h3:EV K X c m3)
  (hm:lastMarks [op,op'] [b,c]=false:=by with_unfolding_all rfl):EV K X (.Compare a [op,op'] [b,c] pos) (ai2 f g m1 m2 m3):=EV.mk fun hk=>PE.imp (ar7 ho ho' (h1 hk) (h2 hk) (h3 hk) hm) aqo
def mIf{α:Type}(m:M Bool)(m1 m2:M α):M α:=m.bind fun k=>if k=true then m1 else m2
theorem a1w{m:M Bool}{m1 m2:M Rv}(h:ET K X c m)(h1:ER K X a m1)(h2:ER K X b m2):ER K X (.IfExp c a b pos) (mIf m m1 m2):=ER.mk fun hk=>PE.imp (ar5 (h hk) (h1 hk) (h2 hk)) fun σ H Q z9=>by
 obtain⟨tg,F,ρ,d,ρ',G,em,q⟩:=z9;obtain⟨k,ρ1,e1,em⟩:=au em;refine⟨tg,F,ρ,k,_,G,e1,fun H' F' G' x =>?_⟩
 have fin:∀{m':M Rv},m' ρ1=some (.ok d,ρ')->T K (relR K) m' σ H' Q:=fun{m'} e'=>⟨tg,F',ρ1,d,ρ',G',e',fun v H2 F2 G2 x2 r2=>q v H2 F2 G2 (x.trans x2) (by
  cases d with
  | v d=>exact r2
  | fr l =>
   obtain⟨a,vs,ev,ha,w⟩:=r2;refine⟨a,vs,ev,?_,w⟩;rcases ha with ha | ha
   ·exact .inl (x.there a ha)
   ·exact(x.own a ha).symm
  | tf d l =>
   obtain⟨t,u,a,vs,ev,ht,hd,ha,w⟩:=r2;refine⟨t,u,a,vs,ev,ht,hd,?_,w⟩;rcases ha with ha | ha
   ·exact .inl (x.there a ha)
   ·exact(x.own a ha).symm)⟩
 cases k with
 | true=>exact iteT (fin em)
 | false=>exact iteF (fin em)
end
section
variable{K:Fg9}{X:Cx}{e a b c:Expr}{es:List Expr}{pos p p2:Pos}
def TL(K:Fg9)(m:M (List D)):TA:=fun σ H Q=>∃tg F ρ ds ρ',Good K tg F H ρ σ/\m ρ=some (.ok ds,ρ')/\∀vs H' F',Good K tg F' H' ρ' σ->Ext (Own ρ σ) (Own ρ' σ) F H F' H'->IsL K F' ds vs->Q vs H'
structure ED (K:Fg9) (X:Cx) (es:List Expr) (m:M (List D)):Prop where
 go:X.K=K->PA X es (TL K m)
instance {K:Fg9} {X:Cx} {es:List Expr} {m:M (List D)}:CoeFun (ED K X es m) fun _=>X.K=K->PA X es (TL K m):=⟨ED.go⟩
theorem PA.imp{t t':TA}(h:PA X es t)(w:∀σ H Q,t' σ H Q->t σ H Q):PA X es t':=fun ps jv s σ H Q I q=>h ps jv s σ H Q I (w σ H Q q)
def mNil:M (List D):=ret []
def bw(m:M D)(ms:M (List D)):M (List D):=m.bind fun d=>ms.bind fun ds=>ret (d::ds)
theorem b7:ED K X [] mNil:=ED.mk fun _=>PA.imp ain fun σ H Q z9=>by
 obtain⟨tg,F,ρ,ds,ρ',G,em,q⟩:=z9;obtain⟨rfl,rfl⟩:=jb em;exact q [] H F G (Ext.refl _ _ _) .nil
theorem az{m:M D}{ms:M (List D)}(h:EV K X e m)(t:ED K X es ms)(hs:starEach (e::es) X.env=(false,eval e X.env)::starEach es X.env:=by rfl):ED K X (e::es) (bw m ms):=ED.mk fun hk=>PA.imp (aan (h hk) (t hk) hs) fun σ H Q z9=>by
 obtain⟨tg,F,ρ,ds,ρ',G,em,q⟩:=z9;obtain⟨d,ρ1,e1,em⟩:=au em;obtain⟨r,ρ2,e2,em⟩:=au em;obtain⟨rfl,rfl⟩:=jb em;exact⟨tg,F,ρ,d,ρ1,G,e1,fun v H1 F1 G1 x1 r1=>⟨tg,F1,ρ1,r,_,G1,e2,fun vs H2 F2 G2 x2 r2=>q _ H2 F2 G2 (x1.trans x2) (.cons (r1.mono x2.sub) r2)⟩⟩
def gTup(ds:List D):Option D:=if ds.length<=capS then some (.tup ds) else none
def gLst(ds:List D):Option Rv:=if ds.length<=capS then some (.fr ds) else none
def mTup(m:M (List D)):M D:=m.bind fun ds=>lift (gTup ds)
def mLst(m:M (List D)):M Rv:=m.bind fun ds=>lift (gLst ds)
theorem qy{k}{m:M (List D)}(h:ED K X es m):EV K X (.Tuple es k pos) (mTup m):=EV.mk fun hk=>PE.imp (axj (h hk)) fun σ H Q z9=>by
 obtain⟨tg,F,ρ,d,ρ',G,em,q⟩:=z9;obtain⟨ds,ρ1,e1,em⟩:=au em;obtain⟨e2,rfl⟩:=gw em;unfold gTup at e2;split at e2
 ·rename_i hz;cases e2;refine⟨tg,F,ρ,ds,_,G,e1,fun vs H1 F1 G1 x1 r1=>⟨by rw[<-r1.length];exact afp hz,fun p hp=>q _ _ _ (G1.new hp _) (x1.trans (G1.newX hp _)) (.tup fj (r1.mono (Same.new (G1.freeF hp) _)))⟩⟩
 ·cases e2
theorem ye{m:M (List D)}(h:ED K X es m):ER K X (.List es pos) (mLst m):=ER.mk fun hk=>PE.imp (axo (h hk)) fun σ H Q z9=>by
 obtain⟨tg,F,ρ,d,ρ',G,em,q⟩:=z9;obtain⟨ds,ρ1,e1,em⟩:=au em;obtain⟨e2,rfl⟩:=gw em;unfold gLst at e2;split at e2
 ·rename_i hz;cases e2;refine⟨tg,F,ρ,ds,_,G,e1,fun vs H1 F1 G1 x1 r1=>⟨by rw[<-r1.length];exact afp hz,fun p hp=>q _ _ _ (G1.fresh hp _) (x1.trans (G1.freshX hp _)) ⟨p,vs,rfl,.inl (x1.there p hp),G1.freeF hp,fj,r1,fun z=>G1.own_ne hp z rfl⟩⟩⟩
 ·cases e2
inductive BorL (K:Fg9) (F H:Hp):List D->List V->Prop
 | nil:BorL K F H [] []
 | cons {d:D} {v:V} {ds:List D} {vs:List V} (h:Bor K F H d v) (t:BorL K F H ds vs):BorL K F H (d::ds) (v::vs)
def TA'(K:Fg9)(m:M (List D)):TA:=fun σ H Q=>∃tg F ρ ds ρ',Good K tg F H ρ σ/\m ρ=some (.ok ds,ρ')/\∀vs H' F',Good K tg F' H' ρ' σ->Ext (Own ρ σ) (Own ρ' σ) F H F' H'->BorL K F' H' ds vs->Q vs H'
structure EA (K:Fg9) (X:Cx) (es:List Expr) (m:M (List D)):Prop where
 go:X.K=K->PA X es (TA' K m)
instance {K:Fg9} {X:Cx} {es:List Expr} {m:M (List D)}:CoeFun (EA K X es m) fun _=>X.K=K->PA X es (TA' K m):=⟨EA.go⟩
def dw(i:Nat)(ms:M (List D)):M (List D):=(cu i).bind fun _=>ms.bind fun ds=>(cu i).bind fun d=>ret (d::ds)
theorem cg:EA K X [] mNil:=EA.mk fun _=>PA.imp ain fun σ H Q z9=>by
 obtain⟨tg,F,ρ,ds,ρ',G,em,q⟩:=z9;obtain⟨rfl,rfl⟩:=jb em;exact q [] H F G (Ext.refl _ _ _) .nil
theorem ea_v{m:M D}{ms:M (List D)}(h:EV K X e m)(t:EA K X es ms)(hs:starEach (e::es) X.env=(false,eval e X.env)::starEach es X.env:=by rfl):EA K X (e::es) (bw m ms):=EA.mk fun hk=>PA.imp (aan (h hk) (t hk) hs) fun σ H Q z9=>by
 obtain⟨tg,F,ρ,ds,ρ',G,em,q⟩:=z9;obtain⟨d,ρ1,e1,em⟩:=au em;obtain⟨r,ρ2,e2,em⟩:=au em;obtain⟨rfl,rfl⟩:=jb em;exact⟨tg,F,ρ,d,ρ1,G,e1,fun v H1 F1 G1 x1 r1=>⟨tg,F1,ρ1,r,_,G1,e2,fun vs H2 F2 G2 x2 r2=>q _ H2 F2 G2 (x1.trans x2) (.cons (.inl (r1.mono x2.sub)) r2)⟩⟩
theorem ea_n{i:Nat}{ms:M (List D)}(h:PE X e (tVar i))(t:EA K X es ms)(hs:starEach (e::es) X.env=(false,eval e X.env)::starEach es X.env:=by rfl):EA K X (e::es) (dw i ms):=EA.mk fun hk=>PA.imp (aan h (t hk) hs) fun σ H Q z9=>by
 obtain⟨tg,F,ρ,ds,ρ',G,em,q⟩:=z9;obtain⟨d0,ρ0,e0,em⟩:=au em;obtain⟨r,ρ2,e2,em⟩:=au em;obtain⟨d,ρ1,e1,em⟩:=au em;obtain⟨rfl,rfl⟩:=jb em;obtain⟨rfl,v,hv,_⟩:=vp G e0;exact⟨v,hv,tg,F,ρ0,r,_,G,e2,fun vs H2 F2 G2 x2 r2=>by
  obtain⟨rfl,v',hv',b'⟩:=vp G2 e1;rw[hv] at hv';cases hv';exact q _ H2 F2 G2 x2 (.cons b' r2)⟩
def rcOf(K:Fg9)(g:List D->Option Rv):List V->Hp->VK->Prop:=fun vs H Q=>∃tg F ρ σ ds r,Good K tg F H ρ σ/\BorL K F H ds vs/\g ds=some r/\Res K tg F H ρ σ r Q
structure CallD (K:Fg9) (X:Cx) (f:Value) (g:List D->Option Rv):Prop where
 go:X.K=K->ada X f (rcOf K g)
instance {K:Fg9} {X:Cx} {f:Value} {g:List D->Option Rv}:CoeFun (CallD K X f g) fun _=>X.K=K->ada X f (rcOf K g):=⟨CallD.go⟩
def gb(g:List D->Option Rv)(m:M (List D)):M Rv:=m.bind fun ds=>lift (g ds)
theorem uh{O O1 O2:Addr->Prop}{F H F1 H1 F2 H2:Hp}{r:Rv}{v:V}(x:Ext O O1 F H F1 H1)(h:relR K r v H1 O1 F2 H2 O2):relR K r v H O F2 H2 O2:=by
 cases r with
 | v d=>exact h
 | fr l =>
  obtain⟨a,vs,ev,ha,w⟩:=h;refine⟨a,vs,ev,?_,w⟩;rcases ha with ha | ha
  ·exact .inl (x.there a ha)
  ·exact(x.own a ha).symm
 | tf d l =>
  obtain⟨t,u,a,vs,ev,ht,hd,ha,w⟩:=h;refine⟨t,u,a,vs,ev,ht,hd,?_,w⟩;rcases ha with ha | ha
  ·exact .inl (x.there a ha)
  ·exact(x.own a ha).symm
theorem amz{g:List D->Option Rv}{m:M (List D)}(σ:L2.St)(H:Hp)(Q:VK)(t:T K (relR K) (gb g m) σ H Q):tCB (rcOf K g) (TA' K m) σ H Q:=by
 obtain⟨tg,F,ρ,r,ρ',G,em,q⟩:=t;obtain⟨ds,ρ1,e1,em⟩:=au em;obtain⟨e2,rfl⟩:=gw em;exact⟨tg,F,ρ,ds,_,G,e1,fun vs H' F' G' x' bl=>⟨tg,F',_,σ,ds,r,G',bl,e2,fun v H2 F2 G2 x2 rr=>q v H2 F2 G2 (x'.trans x2) (uh x' rr)⟩⟩
section
variable{x:Str}{id Ty:String}{g:List D->Option Rv}{m:M (List D)}
theorem bu(hc:CallD K X (.builtin id) g)(hg:Gl X x)(hm:X.mg x=none)(hv:bootBuiltins x=some (.builtin id))(ha:EA K X (e::es) m)(hn:x ≠ "__name__" := by decide)(hdb:(x==("__debug__" : Str))=false:=by decide)
  (he:starEach (e::es) X.env=(false,eval e X.env)::starEach es X.env:=by rfl) (hpl:(backTo pos (starEach es X.env)).any (·.1)=false:=by rfl):ER K X (.Call (.Name x p) (e::es) [] pos) (gb g m):=ER.mk fun hk=>PE.imp (ag9 (hc hk) hg hm hv (ha hk) hn hdb he hpl) amz
theorem ju(hc:CallD K X (.type Ty) g)(hg:Gl X x)(hm:X.mg x=none)(hv:bootBuiltins x=some (.type Ty))(ha:EA K X (e::es) m)(hn:x ≠ "__name__" := by decide)(hdb:(x==("__debug__" : Str))=false:=by decide)
  (he:starEach (e::es) X.env=(false,eval e X.env)::starEach es X.env:=by rfl) (hpl:(backTo pos (starEach es X.env)).any (·.1)=false:=by rfl):ER K X (.Call (.Name x p) (e::es) [] pos) (gb g m):=ER.mk fun hk=>PE.imp (aim (hc hk) hg hm hv (ha hk) hn hdb he hpl) amz
end
theorem BorL.one{F H:Hp}{d:D}{vs:List V}(h:BorL K F H [d] vs):∃v,vs=[v]/\Bor K F H d v:=by
 cases h with
 | cons h t=>cases t;exact⟨_,rfl,h⟩
theorem BorL.two{F H:Hp}{d d':D}{vs:List V}(h:BorL K F H [d,d'] vs):∃v v',vs=[v,v']/\Bor K F H d v/\Bor K F H d' v':=by
 cases h with
 | cons h t =>
  obtain⟨v',rfl,h'⟩:=t.one;exact⟨_,_,rfl,h,h'⟩
def g1(f:D->Option Rv):List D->Option Rv
 | [d]=>f d
 | _=>none
def g2(f:D->D->Option Rv):List D->Option Rv
 | [d,d']=>f d d'
 | _=>none
theorem aa2{f:D->Option Rv}{w:Value} (h:X.K=K->∀(jv:List (Addr×Obj)) (s:Shared) (σ0:L2.St) (H:Hp) (x:V) (u:Value) (Q:VK) (tg:Nat->Addr) (F:Hp) (ρ:Ro) (σ:L2.St) (d:D) (r:Rv),Inv X jv σ0 H s->RelV x u->Good K tg F H ρ σ->Bor K F H d x->f d=some r->Res K tg F H ρ σ r Q ->
  wpAny (model X.prog X.w) X.A (call w [u]) (EP X jv σ0 Q) X.xe s):CallD K X w (g1 f):=CallD.mk fun hk=>by
 intro jv s σ0 H xs us Q I r ⟨tg,F,ρ,σ,ds,rv,G,bl,eg,q⟩
 match ds,eg with
 | [d],eg =>
  obtain⟨v,rfl,bv⟩:=bl.one;obtain⟨u,rfl,ru⟩:=vals1 r;exact h hk jv s σ0 H v u Q tg F ρ σ d rv I ru G bv eg q
theorem lu:CallD K X (.builtin "len") (g1 fun d=>(itemsD d).map fun l=>.v (.int l.length)):=aa2 fun hk jv s σ0 H x u Q tg F ρ σ d r I ru G bd eg q=>by
 subst hk;cases e:itemsD d with
 | none=>rw[e] at eg;cases eg
 | some l =>
  rw[e] at eg;cases eg;obtain⟨a,vs,rfl,hl,hs⟩:=ael G.sub e bd;have q':=Res.same G q (.int _);rw[hl.length] at q';exact ajt jv s σ0 H [.ref a] [u] Q I (.cons ru .nil) ⟨a,vs,rfl,hs,q'⟩
def vm:List D->Option (List Bool)
 | []=>some []
 | .bl b::r=>(vm r).map (b :: ·)
 | _::_=>none
theorem ajw:∀{l:List D} {bs:List Bool},vm l=some bs->l=bs.map D.bl
 | [],_,h=>by cases h;rfl
 | .bl b::r,bs,h=>by
  have h':(vm r).map (b :: ·)=some bs:=h;cases e:vm r with
  | none=>rw[e] at h';cases h'
  | some t =>
   rw[e] at h';cases h';rw[ajw e];rfl
 | .non::_,_,h=>by cases h
 | .int _::_,_,h=>by cases h
 | .str _::_,_,h=>by cases h
 | .tup _::_,_,h=>by cases h
 | .lst _::_,_,h=>by cases h
 | .kst _::_,_,h=>by cases h
 | .dct _::_,_,h=>by cases h
@[simp] theorem ady(bs:List Bool):vm (bs.map D.bl)=some bs:=by
 induction bs with
 | nil=>rfl
 | cons b r ih=>show(vm (r.map D.bl)).map (b :: ·)=_;rw[ih];rfl
def gAll:D->Option Rv
 | .lst l=>(vm l).map fun bs=>.v (.bl (bs.all id))
 | _=>none
theorem aqt(hc:X.calm=true):CallD K X (.builtin "all") (g1 gAll):=aa2 fun hk jv s σ0 H x u Q tg F ρ σ d r I ru G bd eg q=>by
 subst hk;cases d with
 | lst l =>
  have eg:(vm l).map (fun bs=>Rv.v (.bl (bs.all id)))=some r:=eg
  cases e:vm l with
  | none=>rw[e] at eg;cases eg
  | some bs =>
   rw[e] at eg;cases eg;obtain⟨a,vs,rfl,ea,hl⟩:=bd.lst G.sub;rw[ajw e] at hl;rw[hl.bl_inv] at ea;exact atc hc jv s σ0 H [.ref a] [u] Q I (.cons ru .nil) ⟨a,bs,rfl,SqL.of ea,Res.same G q (.bl _)⟩
 | _=>cases eg
def as3:D->Option Rv
 | .int i=>some (.v (.int i))
 | .bl k=>some (.v (.int (if k then 1 else 0)))
 | _=>none
theorem ay7:CallD K X (.type "int") (g1 as3):=aa2 fun hk jv s σ0 H x u Q tg F ρ σ d r I ru G bd eg q=>by
 cases d with
 | int i =>
  cases eg;obtain rfl:=bd.int;exact aju jv s σ0 H [_] [u] Q I (.cons ru .nil) (.inl ⟨i,rfl,Res.same G q (.int _)⟩)
 | bl k =>
  cases eg;obtain rfl:=bd.bl;exact aju jv s σ0 H [_] [u] Q I (.cons ru .nil) (.inr ⟨k,rfl,Res.same G q (.int _)⟩)
 | _=>cases eg
theorem vh:CallD K X (.type "tuple") (g1 fun d=>(itemsD d).map fun l=>.v (.tup l)):=aa2 fun hk jv s σ0 H x u Q tg F ρ σ d r I ru G bd eg q=>by
 subst hk;cases d with
 | tup l =>
  cases eg;obtain⟨a,vs,rfl,ea,hl⟩:=bd.tup;exact zm jv s σ0 H [_] [u] Q I (.cons ru .nil) ⟨a,vs,rfl,.inr ⟨SqT.of (G.sub _ _ ea),Res.same G q (.tup ea hl)⟩⟩
 | lst l =>
  cases eg;obtain⟨a,vs,rfl,ea,hl⟩:=bd.lst G.sub;exact zm jv s σ0 H [_] [u] Q I (.cons ru .nil) ⟨a,vs,rfl,.inl ⟨SqL.of ea,fun p hp=>Res.tup G q hl hp⟩⟩
 | kst l =>
  cases eg;obtain⟨a,vs,rfl,ea,hl⟩:=bd.kst;exact zm jv s σ0 H [_] [u] Q I (.cons ru .nil) ⟨a,vs,rfl,.inl ⟨L2.Same.seq G.sub ea,fun p hp=>Res.tup G q hl hp⟩⟩
 | _=>cases eg
theorem aqr:CallD K X (.type "list") (g1 fun d=>(itemsD d).map fun l=>.fr l):=aa2 fun hk jv s σ0 H x u Q tg F ρ σ d r I ru G bd eg q=>by
 subst hk;cases e:itemsD d with
 | none=>rw[e] at eg;cases eg
 | some l =>
  rw[e] at eg;cases eg;obtain⟨a,vs,rfl,hl,hs⟩:=ael G.sub e bd;exact ajs jv s σ0 H [_] [u] Q I (.cons ru .nil) ⟨a,vs,rfl,hs,fun p hp=>Res.lst G q hl hp⟩
theorem at7{f:D->D->Option Rv}{w:Value} (h:X.K=K->∀(jv:List (Addr×Obj)) (s:Shared) (σ0:L2.St) (H:Hp) (x y:V) (u v:Value) (Q:VK) (tg:Nat->Addr) (F:Hp) (ρ:Ro) (σ:L2.St) (d d':D) (r:Rv),Inv X jv σ0 H s->RelV x u->RelV y v->Good K tg F H ρ σ->Bor K F H d x->Bor K F H d' y->f d d'=some r->Res K tg F H ρ σ r Q ->
  wpAny (model X.prog X.w) X.A (call w [u,v]) (EP X jv σ0 Q) X.xe s):CallD K X w (g2 f):=CallD.mk fun hk=>by
 intro jv s σ0 H xs us Q I r ⟨tg,F,ρ,σ,ds,rv,G,bl,eg,q⟩
 match ds,eg with
 | [d,d'],eg =>
  obtain⟨v,v',rfl,bv,bv'⟩:=bl.two;obtain⟨u,w,rfl,ru,rw'⟩:=vals2 r;exact h hk jv s σ0 H v v' u w Q tg F ρ σ d d' rv I ru rw' G bv bv' eg q
theorem ay6(hc:X.calm=true):CallD K X (.builtin "max") (g2 (gInt fun i j=>some (if j > i then j else i))):=at7 fun hk jv s σ0 H x y u v Q tg F ρ σ d d' r I ru rv G bd bd' eg q=>by
 unfold gInt at eg;split at eg
 ·cases eg;obtain rfl:=bd.int;obtain rfl:=bd'.int;exact aqv hc jv s σ0 H [_,_] [u,v] Q I (.cons ru (.cons rv .nil)) ⟨_,_,rfl,Res.same G q (.int _)⟩
 ·cases eg
theorem ajv:ada X (.builtin "divmod") (fun xs H Q=>∃i j,xs=[.int i,.int j]/\(0 < j/\j < 1000000000000000000000000000000000000000000000000000000000000)/\∀p,H p=none->Q (.ref p) (upd H p (.tup [.int (i / j),.int (i % j)]))):=by
 intro jv s σ H xs us Q I r h;obtain⟨i,j,rfl,hj,q⟩:=h;obtain⟨u,w',rfl,⟨t,rfl⟩,⟨t',rfl⟩⟩:=vals2 r;have h1:=hj.1;refine divmod_int (by omega) ?_ (.inl (ax6 hj.1 hj.2))
 rw[Int.fdiv_eq_ediv_of_nonneg i (by omega),Int.fmod_eq_emod_of_nonneg i (by omega)]
 refine⟨.ref s.heap.objs.size,_,?_,rfl,q _ (I.hok.fresh (Nat.le_refl _))⟩;exact I.laid (fun b o e=>Heap.get?_push_of_some _ e) (Nat.le_refl _) ⟨by simp only[List.length_cons,List.length_nil];rw[sizeLine_eq];decide,[.int (i / j) s.toks,.int (i % j) (s.toks+1)],.cons ⟨_,rfl⟩ (.cons ⟨_,rfl⟩ .nil),⟨_,Heap.get?_push_size s.heap rfl,rfl,rfl,0,rfl⟩⟩
def ahq:D->D->Option Rv
 | .int i,.int j=>if 0 < j/\j < 1000000000000000000000000000000000000000000000000000000000000 then some (.v (.tup [.int (i / j),.int (i % j)])) else none
 | _,_=>none
theorem aqs:CallD K X (.builtin "divmod") (g2 ahq):=at7 fun hk jv s σ0 H x y u v Q tg F ρ σ d d' r I ru rv G bd bd' eg q=>by
 unfold ahq at eg;split at eg
 ·split at eg
  ·rename_i hc;cases eg;obtain rfl:=bd.int;obtain rfl:=bd'.int;exact ajv jv s σ0 H [_,_] [u,v] Q I (.cons ru (.cons rv .nil)) ⟨_,_,rfl,hc,fun p hp=>Res.tup G q (.cons (.int _) (.cons (.int _) .nil)) hp⟩
  ·cases eg
 ·cases eg
inductive Ty where
 | int | bool | tuple | list | str | dict
def Ty.nm:Ty->String
 | .int => "int" | .bool => "bool" | .tuple => "tuple" | .list => "list" | .str => "str" | .dict => "dict"
def tyD:D->Value
 | .non=>.type "NoneType"
 | .bl _=>.type "bool"
 | .int _=>.type "int"
 | .str _=>.type "str"
 | .tup _=>.type "tuple"
 | .lst _=>.type "list"
 | .kst _=>.type "list"
 | .dct _=>.type "dict"
 | .exn _ _=>.type "NoneType"
def isTy:Ty->D->Bool
 | .int,.int _=>true
 | .int,.bl _=>true
 | .bool,.bl _=>true
 | .tuple,.tup _=>true
 | .list,.lst _=>true
 | .list,.kst _=>true
 | .str,.str _=>true
 | .dict,.dct _=>true
 | _,_=>false
theorem atz(t:Ty)(d:D):PySem.W.kitOne K (tyD d) (.type t.nm)=some (isTy t d):=by
 cases d <;> cases t <;> kernel_rfl
theorem aqw{X:Cx}:ada X (.builtin "isinstance") (fun xs H Q=>∃F d x t,xs=[x,.ty (Ty.nm t)]/\Same F H/\Bor X.K F H d x/\Q (.bl (isTy t d)) H):=by
 intro jv s σ H xs us Q I r ⟨F,d,x,t,e,g,h,q⟩;subst e;obtain⟨u,w',rfl,r1,r2⟩:=vals2 r;obtain rfl:w'=Value.type t.nm:=r2;have fin:∀tk,EP X jv σ Q (.bool (isTy t d)) { s with toks:=tk }:=fun tk=>⟨.bl _,H,I.tok tk,rfl,q⟩
 have go:TyOf X.K H x (tyD d)->wpAny (model X.prog X.w) X.A (call (.builtin "isinstance") [u,.type t.nm]) (EP X jv σ Q) X.xe s:=fun ty=>apu I r1 ty (atz t d) fin
 cases d with
 | non=>obtain rfl:=h.non;exact go .non
 | bl b=>obtain rfl:=h.bl;exact go (.bl b)
 | int b=>obtain rfl:=h.int;exact go (.int b)
 | str b=>obtain rfl:=h.str;exact go (.str b)
 | tup b=>obtain⟨a,vs,rfl,e,_⟩:=h.tup;exact go (.tup (g _ _ e))
 | lst b=>obtain⟨a,vs,rfl,e,_⟩:=h.lst g;exact go (.lst e)
 | kst b =>
  obtain⟨a,vs,rfl,e,_⟩:=h.kst;cases(show u=Value.ref a from r1)
  obtain⟨its,_,pl,_⟩:=I.list (L2.Same.seq g e);obtain⟨o,ho,hc,n,hd⟩:=pl.isList;exact PySem.W.kia_one PySem.W.kitx_list I.kIn ⟨o,ho,hc⟩ (atz t (.kst b)) (fun z=>nomatch z) fin
 | dct b =>
  rcases h with h | ⟨a,vs,l',e1,_⟩
  ·cases h with
   | dct e h=>exact go (.dK (g _ _ e))
  ·cases e1
 | exn c fs =>
  rcases h with h | ⟨a,vs,l',e1,_⟩
  ·cases h with
   | @exn a C c dx fs e hc hk hf =>
    cases(show u=Value.ref a from r1)
    obtain⟨⟨oe,ws,h1,h2,h3,h4⟩,_⟩:=(show ux X.prog X.w H s.heap a (.ext (exO a C dx)) from I.hok a _ (g _ _ e))
    have hno:PySem.W.notCls oe=true:=by unfold PySem.W.notCls;rw[h4]
    have ia:∃ox od,PySem.W.InstAt s.heap a ox C od:=by
     rcases hf with⟨rfl,_⟩ | ⟨d,rfl,hd⟩
     ·exact⟨oe,none,h1,h2,hno,by rw[h3];trivial⟩
     ·obtain⟨mA,⟨od,_,_,e1,_⟩,_⟩:=(show ux X.prog X.w H s.heap d (.xd _) from I.hok d _ (g _ _ hd))
      exact⟨oe,some od,h1,h2,hno,by rw[h3];exact e1⟩
    have kq:PySem.W.kitOne X.K (.ref C) (.type t.nm)=some false:=by
     have h5:PySem.W.subIn X.K (.ref C) (.type t.nm)=some false:=hk.no _ (by cases t <;> simp[Ty.nm])
     have h6:PySem.W.kitMeta t.nm=true:=by cases t <;> kernel_rfl
     unfold PySem.W.kitOne PySem.W.kitCls;rw[if_neg (by simp)]
     show(if PySem.W.kitMeta t.nm=true then PySem.W.subIn X.K (.ref C) (.type t.nm) else none)=some false
     rw[if_pos h6];exact h5
    have e7:isTy t (.exn c fs)=false:=by cases t <;> rfl
    exact PySem.W.kia_one (ass hk) I.kIn ia kq (fun z=>nomatch z) fun tk=>e7▸fin tk
  ·cases e1
def mIsi(t:Ty)(m:M D):M D:=m.bind fun d=>ret (.bl (isTy t d))
theorem ad7{t:Ty}{tn:Expr}{m:M D}{x:Str}(ht:PE X tn (tC (.ty t.nm)))(hg:Gl X x)(hm:X.mg x=none)(hv:bootBuiltins x=some (.builtin "isinstance"))(h:EB K X e m)(hn:x ≠ "__name__" := by decide)(hdb:(x==("__debug__" : Str))=false:=by decide)
  (h1:starEach [tn] X.env=(false,eval tn X.env)::starEach [] X.env:=by rfl) (he:starEach [e,tn] X.env=(false,eval e X.env)::starEach [tn] X.env:=by rfl) (hpl:(backTo pos (starEach [tn] X.env)).any (·.1)=false:=by rfl) :
  EV K X (.Call (.Name x p) [e,tn] [] pos) (mIsi t m):=EV.mk fun hk=>by
 refine PE.imp (ag9 aqw hg hm hv (aan (h hk) (aan ht ain h1) he) hn hdb he hpl) fun σ H Q z9 =>?_
 obtain⟨tg,F,ρ,d,ρ',G,em,q⟩:=z9;obtain⟨d1,ρ1,e1,em⟩:=au em;obtain⟨rfl,rfl⟩:=jb em;subst hk;exact⟨tg,F,ρ,d1,_,G,e1,fun v H' F' G' x bv=>⟨F',d1,v,t,rfl,G'.sub,bv,q _ H' F' G' x (.bl _)⟩⟩
def gIx(d i:D):Option Rv:=match i with
 | .int k=>(itemsD d).bind fun l=>(atI l k).map fun x=>.v x
 | _=>none
theorem azc{F:Hp}{l:List D}{vs:List V}{k:Int}{d:D}(h:IsL K F l vs)(e:atI l k=some d):∃v,atI vs k=some v/\Is K F d v:=by
 unfold atI at e ⊢
 rw[h.length] at e;cases q:ixN vs.length k with
 | none=>rw[q] at e;cases e
 | some j =>
  rw[q] at e;obtain⟨v,e1,e2⟩:=h.get (i:=j) e;exact⟨v,e1,e2⟩
theorem ixd:X.K=K->IxR X (rOf K gIx):=fun hk=>by
 intro value slice jv s σ0 H x y v u Q I rx ry ⟨tg,F,ρ,σ,d1,d2,r,G,b1,b2,eg,q⟩ hs;subst hk;cases d2 with
 | int k =>
  have eg:(itemsD d1).bind (fun l=>(atI l k).map fun x=>Rv.v x)=some r:=eg
  cases e:itemsD d1 with
  | none=>rw[e] at eg;cases eg
  | some l =>
   rw[e] at eg;have eg:(atI l k).map (fun x=>Rv.v x)=some r:=eg
   cases e2:atI l k with
   | none=>rw[e2] at eg;cases eg
   | some d =>
    rw[e2] at eg;cases eg;obtain⟨a,vs,rfl,hl,hq⟩:=ael G.sub e b1;obtain rfl:=b2.int;obtain⟨z,hz,iz⟩:=azc hl e2;rcases hq with hq | hq
    ·exact avq value slice jv s σ0 H _ _ v u Q I rx ry ⟨a,vs,k,z,rfl,rfl,hq,hz,Res.same G q iz⟩ hs
    ·exact ayr value slice jv s σ0 H _ _ v u Q I rx ry ⟨a,vs,k,z,rfl,rfl,hq,hz,Res.same G q iz⟩ hs
 | _=>cases eg
theorem ji{m:M (D×D)}(h:E2 K X a b m)(hs:alk b):ER K X (.Subscript a b pos) (mOp gIx m):=ER.mk fun hk=>by
 obtain⟨ta,tb,ha,hb,h⟩:=h hk;exact PE.imp (axp (ixd hk) ha hb hs) (al4 h)
def TOp(K:Fg9)(m:M (Option Int)):TO:=fun σ H Q=>∃tg F ρ o ρ',Good K tg F H ρ σ/\m ρ=some (.ok o,ρ')/\∀H' F',Good K tg F' H' ρ' σ->Ext (Own ρ σ) (Own ρ' σ) F H F' H'->Q o H'
structure EO (K:Fg9) (X:Cx) (e:Option Expr) (m:M (Option Int)):Prop where
 go:X.K=K->PO X e (TOp K m)
instance {K:Fg9} {X:Cx} {e:Option Expr} {m:M (Option Int)}:CoeFun (EO K X e m) fun _=>X.K=K->PO X e (TOp K m):=⟨EO.go⟩
theorem PO.imp{eo:Option Expr}{t t':TO}(h:PO X eo t)(w:∀σ H Q,t' σ H Q->t σ H Q):PO X eo t':=fun jv s σ H Q I q=>h jv s σ H Q I (w σ H Q q)
theorem aqe:EO K X none (ret none):=EO.mk fun _=>PO.imp auy fun σ H Q z9=>by
 obtain⟨tg,F,ρ,o,ρ',G,em,q⟩:=z9;obtain⟨rfl,rfl⟩:=jb em;exact q H F G (Ext.refl _ _ _)
def asI:D->Option Int
 | .int i=>some i
 | _=>none
theorem am2{d:D}{k:Int}(h:asI d=some k):d=.int k:=by
 cases d with
 | int b=>cases h;rfl
 | _=>cases h
def anx(m:M D):M (Option Int):=m.bind fun d=>lift ((asI d).map some)
theorem ahw{m:M D}(h:EV K X e m):EO K X (some e) (anx m):=EO.mk fun hk=>PO.imp (auw (h hk)) fun σ H Q z9=>by
 obtain⟨tg,F,ρ,o,ρ',G,em,q⟩:=z9;obtain⟨d,ρ1,e1,em⟩:=au em;obtain⟨e2,rfl⟩:=gw em;refine⟨tg,F,ρ,d,_,G,e1,fun v H' F' G' x r =>?_⟩
 cases d with
 | int i =>
  cases e2;cases r;exact⟨i,rfl,q H' F' G' x⟩
 | _=>cases e2
def cutD(l:List D)(lo hi:Option Int):List D:=(l.drop (HT.sIx l.length 0 lo)).take (HT.sIx l.length l.length hi - HT.sIx l.length 0 lo)
theorem aqk{F:Hp}{l:List D}{vs:List V}(h:IsL K F l vs)(lo hi:Option Int):IsL K F (cutD l lo hi) (cutV vs lo hi):=by
 unfold cutD cutV;rw[h.length];exact(h.drop _).take _
def gCut(d:D)(lo hi:Option Int):Option Rv:=match d with
 | .tup l=>some (.v (.tup (cutD l lo hi)))
 | .lst l=>some (.fr (cutD l lo hi))
 | .kst l=>some (.fr (cutD l lo hi))
 | _=>none
def rsOf(K:Fg9):V->Option Int->Option Int->Hp->VK->Prop:=fun x lo hi H Q=>∃tg F ρ σ d r,Good K tg F H ρ σ/\Bor K F H d x/\gCut d lo hi=some r/\Res K tg F H ρ σ r Q
theorem sld(hk:X.K=K):SlR X (rsOf K):=by
 intro jv s σ0 H x v vl vu lo hi sl Q I rx hs pl pu ⟨tg,F,ρ,σ,d,r,G,bd,eg,q⟩;subst hk;cases d with
 | tup l =>
  cases eg;obtain⟨a,vs,rfl,ea,hl⟩:=bd.tup
  by_cases hw:HT.sIx vs.length 0 lo=0/\HT.sIx vs.length vs.length hi=vs.length
  ·have ec:cutD l lo hi=l:=by
    unfold cutD;rw[hl.length,hw.1,hw.2,List.drop_zero,Nat.sub_zero,<-hl.length,List.take_length]
   rw[ec] at q;cases rx;obtain⟨its,r,ht,hz⟩:=I.tuple (SqT.of (G.sub _ _ ea));have hlen:its.toArray.size=vs.length:=by rw[List.size_toArray];exact r.length.symm
   refine⟨"tuple", _,PyProof.Rows.slot_tuple_getitem.lookup,ht.typeIs,?_⟩;exact ab9 ht hs pl pu (by rw[hlen];exact hw.1) (by rw[hlen];exact hw.2) ⟨.ref a,H,I,rfl,Res.same G q (.tup ea hl)⟩
  ·exact awx jv s σ0 H _ v vl vu lo hi sl Q I rx hs pl pu ⟨a,vs,rfl,SqT.of (G.sub _ _ ea),hw,fun p hp=>Res.tup G q (aqk hl lo hi) hp⟩
 | lst l =>
  cases eg;obtain⟨a,vs,rfl,ea,hl⟩:=bd.lst G.sub;exact aor jv s σ0 H _ v vl vu lo hi sl Q I rx hs pl pu ⟨a,vs,rfl,SqL.of ea,fun p hp=>Res.lst G q (aqk hl lo hi) hp⟩
 | kst l =>
  cases eg;obtain⟨a,vs,rfl,ea,hl⟩:=bd.kst;exact aor jv s σ0 H _ v vl vu lo hi sl Q I rx hs pl pu ⟨a,vs,rfl,L2.Same.seq G.sub ea,fun p hp=>Res.lst G q (aqk hl lo hi) hp⟩
 | _=>cases eg
def apk(i:Nat)(ml mh:M (Option Int)):M Rv:=(cu i).bind fun _=>ml.bind fun lo=>mh.bind fun hi=>(cu i).bind fun d=>lift (gCut d lo hi)
theorem alc{i:Nat}{ml mh:M (Option Int)}{lo hi:Option Expr}(h:PE X a (tVar i))(hl:EO K X lo ml)(hh:EO K X hi mh):ER K X (.Subscript a (.Slice lo hi none p2) pos) (apk i ml mh):=ER.mk fun hk=>PE.imp (ar4 (sld hk) h (hl hk) (hh hk)) fun σ H Q z9=>by
 obtain⟨tg,F,ρ,r,ρ',G,em,q⟩:=z9;obtain⟨d0,ρ0,e0,em⟩:=au em;obtain⟨o1,ρ2,e2,em⟩:=au em;obtain⟨o2,ρ3,e3,em⟩:=au em;obtain⟨d,ρ4,e1,em⟩:=au em;obtain⟨e4,rfl⟩:=gw em;obtain⟨rfl,v,hv,_⟩:=vp G e0;refine⟨v,hv,tg,F,ρ0,o1,ρ2,G,e2,fun H2 F2 G2 x2=>⟨tg,F2,ρ2,o2,_,G2,e3,fun H3 F3 G3 x3 =>?_⟩⟩
 obtain⟨rfl,v',hv',b'⟩:=vp G3 e1;rw[hv] at hv';cases hv';exact⟨tg,F3,_,σ,d,r,G3,b',e4,fun v' H4 F4 G4 x4 rr=>q v' H4 F4 G4 ((x2.trans x3).trans x4) (uh (x2.trans x3) rr)⟩
end
inductive Fl where
 | nx | ret (r:Rv) | brk | cont | exc (x:Exn)
abbrev Sd:=Ro->Option (Fl×Ro)
section
variable{K:Fg9}{X:Cx}{e a b c tgt:Expr}{es:List Expr}{pos p p2:Pos}{st:Stmt}{ss:List Stmt}
def FlOk(K:Fg9)(tg:Nat->Addr)(ρ:Ro)(σ:L2.St)(F H:Hp)(E:Ends)(fl:Fl)(ρ':Ro):Prop:=match fl with
 | .nx=>∀σ' H' F',Good K tg F' H' ρ' σ'->Ext (Own ρ σ) (Own ρ' σ') F H F' H'->E.nx σ' H'
 | .brk=>∀σ' H' F',Good K tg F' H' ρ' σ'->Ext (Own ρ σ) (Own ρ' σ') F H F' H'->E.bk σ' H'
 | .cont=>∀σ' H' F',Good K tg F' H' ρ' σ'->Ext (Own ρ σ) (Own ρ' σ') F H F' H'->E.ct σ' H'
 | .ret r=>∀v σ' H' F',Good K tg F' H' ρ' σ'->Ext (Own ρ σ) (Own ρ' σ') F H F' H'->relR K r v H (Own ρ σ) F' H' (Own ρ' σ')->E.rt v H'
 | .exc _=>False
def TSd(K:Fg9)(g:Sd):TS:=fun E σ H=>∃tg F ρ fl ρ',Good K tg F H ρ σ/\g ρ=some (fl,ρ')/\FlOk K tg ρ σ F H E fl ρ'
structure SV (K:Fg9) (X:Cx) (st:Stmt) (g:Sd):Prop where
 go:X.K=K->PS X st (TSd K g)
instance {K:Fg9} {X:Cx} {st:Stmt} {g:Sd}:CoeFun (SV K X st g) fun _=>X.K=K->PS X st (TSd K g):=⟨SV.go⟩
structure SVs (K:Fg9) (X:Cx) (ss:List Stmt) (g:Sd):Prop where
 go:X.K=K->PSs X ss (TSd K g)
instance {K:Fg9} {X:Cx} {ss:List Stmt} {g:Sd}:CoeFun (SVs K X ss g) fun _=>X.K=K->PSs X ss (TSd K g):=⟨SVs.go⟩
theorem PS.imp{t t':TS}(h:PS X st t)(w:∀E σ H,t' E σ H->t E σ H):PS X st t':=fun jv s σ H E I q=>h jv s σ H E I (w E σ H q)
theorem PSs.imp{t t':TS}(h:PSs X ss t)(w:∀E σ H,t' E σ H->t E σ H):PSs X ss t':=fun jv s σ H E I q=>h jv s σ H E I (w E σ H q)
theorem FlOk.back{tg:Nat->Addr}{ρ ρ1 ρ':Ro}{σ σ1:L2.St}{F H F1 H1:Hp}{E:Ends}{fl:Fl}(x:Ext (Own ρ σ) (Own ρ1 σ1) F H F1 H1)(h:FlOk K tg ρ σ F H E fl ρ'):FlOk K tg ρ1 σ1 F1 H1 E fl ρ':=by
 cases fl with
 | nx=>exact fun σ' H' F' G' x'=>h σ' H' F' G' (x.trans x')
 | brk=>exact fun σ' H' F' G' x'=>h σ' H' F' G' (x.trans x')
 | cont=>exact fun σ' H' F' G' x'=>h σ' H' F' G' (x.trans x')
 | ret r=>exact fun v σ' H' F' G' x' rr=>h v σ' H' F' G' (x.trans x') (uh x rr)
 | exc _=>exact h
def dNx:Sd:=fun ρ=>some (.nx,ρ)
noncomputable def dSeq(g k:Sd):Sd:=fun ρ=>match g ρ with
 | some (.nx,ρ1)=>k ρ1
 | r=>r
theorem gr:SVs K X [] dNx:=SVs.mk fun _=>PSs.imp auu fun E σ H z9=>by
 obtain⟨tg,F,ρ,fl,ρ',G,em,q⟩:=z9;cases em;exact q σ H F G (Ext.refl _ _ _)
theorem ao{g:Sd}(h:SV K X st g):SVs K X [st] g:=SVs.mk fun hk=>ao5 (h hk)
theorem aa{g k:Sd}(h:SV K X st g)(t:SVs K X ss k):SVs K X (st::ss) (dSeq g k):=SVs.mk fun hk=>PSs.imp (yw (h hk) (t hk)) fun E σ H z9=>by
 obtain⟨tg,F,ρ,fl,ρ',G,em,q⟩:=z9;unfold dSeq at em;split at em
 ·rename_i ρ1 e1;exact⟨tg,F,ρ,.nx,ρ1,G,e1,fun σ' H' F' G' x=>⟨tg,F',ρ1,fl,ρ',G',em,q.back x⟩⟩
 ·rename_i hn;refine⟨tg,F,ρ,fl,ρ',G,em,?_⟩;cases fl with
  | nx=>exact absurd em (hn ρ')
  | brk=>exact q
  | cont=>exact q
  | ret r=>exact q
  | exc _=>exact q
theorem agu:SV K X st (fun _=>none):=SV.mk fun _=>PS.imp arx fun E σ H ⟨tg,F,ρ,fl,ρ',G,em,q⟩=>by cases em
noncomputable def dM{α:Type}(m:M α)(k:α->Sd):Sd:=fun ρ=>match m ρ with
 | some (.ok x,ρ1)=>k x ρ1
 | some (.exc x,ρ1)=>some (.exc x,ρ1)
 | none=>none
theorem abn{α:Type}{m:M α}{k:α->Sd}{ρ ρ':Ro}{fl:Fl}{P:Prop}(h:dM m k ρ=some (fl,ρ'))(hx:FlOk K tg ρ0 σ0 F0 H0 E0' fl ρ')(go:∀x ρ1,m ρ=some (.ok x,ρ1)->k x ρ1=some (fl,ρ')->P):P:=by
 unfold dM at h;split at h
 ·exact go _ _ (by assumption) h
 ·cases h;exact(show False from hx).elim
 ·cases h
noncomputable def dRet(m:M Rv):Sd:=dM m fun r ρ=>some (.ret r,ρ)
theorem b8{m:M Rv}(h:ER K X e m):SV K X (.Return (some e) pos) (dRet m):=SV.mk fun hk=>PS.imp (axe (h hk)) fun E σ H ⟨tg,F,ρ,fl,ρ',G,em,q⟩=>abn em q fun r ρ1 e1 em=>by
 cases em;exact⟨tg,F,ρ,r,_,G,e1,fun v H' F' G' x rr=>q v σ H' F' G' x rr⟩
noncomputable def dIf(m:M Bool)(g k:Sd):Sd:=dM m fun z=>if z=true then g else k
theorem uy{m:M Bool}{g k:Sd}{ss':List Stmt}(h:ET K X c m)(h1:SVs K X ss g)(h2:SVs K X ss' k):SV K X (.If c ss ss' pos) (dIf m g k):=SV.mk fun hk=>PS.imp (a0t (h hk) (h1 hk) (h2 hk)) fun E σ H ⟨tg,F,ρ,fl,ρ',G,em,q⟩=>abn em q fun z ρ1 e1 em=>by
 refine⟨tg,F,ρ,z,ρ1,G,e1,fun H' F' G' x =>?_⟩
 cases z with
 | true=>exact iteT ⟨tg,F',ρ1,fl,ρ',G',em,q.back x⟩
 | false=>exact iteF ⟨tg,F',ρ1,fl,ρ',G',em,q.back x⟩
def ac6{α:Type}(m:M α):Sd:=dM m fun _ ρ=>some (.nx,ρ)
theorem qz{m:M Rv}(h:ER K X e m)(hs:swapsWith e none pos.line X.env=pure false:=by rfl):SV K X (.Expr e pos) (ac6 m):=SV.mk fun hk=>PS.imp (ao6 (h hk) hs) fun E σ H ⟨tg,F,ρ,fl,ρ',G,em,q⟩=>abn em q fun r ρ1 e1 em=>by
 cases em;exact⟨tg,F,ρ,r,_,G,e1,fun v H' F' G' x rr=>q σ H' F' G' x⟩
section
variable{tg:Nat->Addr}{F H:Hp}{ρ:Ro}{σ:L2.St}
theorem akl{i:Nat}{s:Sl}{v:V}{b:Addr}(hl:ρ.length=σ.length)(h:Own (List.set ρ i s) (List.set σ i (some v)) b):Own ρ σ b∨((∃t l,s=.own t l)/\v=.ref b):=by
 obtain⟨j,⟨t,l,e⟩,q⟩:=h;rw[List.getElem?_set] at e q
 by_cases hj:i=j
 ·subst hj;rw[if_pos rfl] at e q;split at e
  ·rename_i hi;rw[if_pos (by rw[<-hl];exact hi)] at q
   cases e;cases q;exact .inr ⟨⟨t,l,rfl⟩,rfl⟩
  ·cases e
 ·rw[if_neg hj] at e q;exact .inl ⟨j,⟨t,l,e⟩,q⟩
theorem Good.put(G:Good K tg F H ρ σ){s:Sl}{v:V}(i:Nat)(h:SlOk K tg F H s (some v))(n:∀t l a,s=.own t l->v=.ref a->¬Own ρ σ a):Good K tg F H (List.set ρ i s) (List.set σ i (some v)) where
 sub:=G.sub
 len:=by rw[List.length_set,List.length_set];exact G.len
 sl:=fun j s' o e q=>by
  rw[List.getElem?_set] at e q
  by_cases hj:i=j
  ·subst hj;rw[if_pos rfl] at e q;split at e
   ·rename_i hi;rw[if_pos (by rw[<-G.len];exact hi)] at q
    cases e;cases q;exact h
   ·cases e
  ·rw[if_neg hj] at e q;exact G.sl j s' o e q
 inj:=fun j k a ⟨⟨t,l,e⟩,q⟩ ⟨⟨t',l',e'⟩,q'⟩=>by
  rw[List.getElem?_set] at e q e' q'
  by_cases hj:i=j
  ·subst hj;rw[if_pos rfl] at e q
   by_cases hk:i=k
   ·exact hk
   ·rw[if_neg hk] at e' q';split at e
    ·rename_i hi;rw[if_pos (by rw[<-G.len];exact hi)] at q
     cases e;cases q;exact absurd ⟨k,⟨t',l',e'⟩,q'⟩ (n t l a rfl rfl)
    ·cases e
  ·rw[if_neg hj] at e q
   by_cases hk:i=k
   ·subst hk;rw[if_pos rfl] at e' q';split at e'
    ·rename_i hi;rw[if_pos (by rw[<-G.len];exact hi)] at q'
     cases e';cases q';exact absurd ⟨j,⟨t,l,e⟩,q⟩ (n t' l' a rfl rfl)
    ·cases e'
   ·rw[if_neg hk] at e' q';exact G.inj j k a ⟨⟨t,l,e⟩,q⟩ ⟨⟨t',l',e'⟩,q'⟩
def Rv.sl:Rv->Sl
 | .v d=>.val d
 | .fr l=>.own none l
 | .tf _ _=>.emp
theorem Good.store{F0 H0:Hp}{O:Addr->Prop}(G:Good K tg F H ρ σ)(x:Ext O (Own ρ σ) F0 H0 F H){r:Rv}{v:V}(i:Nat)(h:relR K r v H0 O F H (Own ρ σ)) :
  Good K tg F H (List.set ρ i r.sl) (List.set σ i (some v))/\Ext O (Own (List.set ρ i r.sl) (List.set σ i (some v))) F0 H0 F H:=by
 cases r with
 | v d =>
  refine⟨G.put i ⟨v,rfl,h⟩ (fun t l a e=>by cases e),x.sub,x.new,x.keep,fun b w =>?_,x.there⟩
  rcases akl G.len w with w | ⟨⟨t,l,e⟩,_⟩
  ·exact x.own b w
  ·cases e
 | fr l =>
  obtain⟨a,vs,rfl,ha,hf,hh,hl,hn⟩:=h;refine⟨G.put i ⟨a,vs,rfl,hf,hh,hl,fun k e=>by cases e⟩ (fun t l' b _ e2=>by cases e2;exact hn),x.sub,x.new,x.keep,fun b w =>?_,x.there⟩
  rcases akl G.len w with w | ⟨_,e⟩
  ·exact x.own b w
  ·cases e;exact ha.symm
 | tf d l =>
  refine⟨G.put i trivial (fun t l a e=>by cases e),x.sub,x.new,x.keep,fun b w =>?_,x.there⟩
  rcases akl G.len w with w | ⟨⟨t,l,e⟩,_⟩
  ·exact x.own b w
  ·cases e
end
def dSet(i:Nat)(m:M Rv):Sd:=dM m fun r ρ=>some (.nx,List.set ρ i r.sl)
theorem du{i:Nat}{x:Str}{m:M Rv}(hN:X.N.Nodup)(hi:X.N[i]? = some x)(hx:Loc X.env.scope x)(h:ER K X e m)(hs:swapsWith e (some (.Name x p)) pos.line X.env=pure false:=by rfl)(hf:X.fn x=true∨X.env.scope.names.lookup x=some .local:=by first | exact .inl rfl | exact .inr rfl | assumption) :
  SV K X (.Assign [.Name x p] e pos) (dSet i m):=SV.mk fun hk=>PS.imp (alz hN hi hx (h hk) hs hf) fun E σ H ⟨tg,F,ρ,fl,ρ',G,em,q⟩=>abn em q fun r ρ1 e1 em=>by
 cases em;refine⟨tg,F,ρ,r,ρ1,G,e1,fun v H' F' G' x rr =>?_⟩
 obtain⟨G2,x2⟩:=G'.store x i rr;exact q _ H' F' G2 x2
def TGd(K:Fg9)(b:D->Ro->Option Ro):TG:=fun v σ H Q=>∃tg F ρ d ρ',Good K tg F H ρ σ/\Is K F d v/\b d ρ=some ρ'/\∀σ' H' F',Good K tg F' H' ρ' σ'->Ext (Own ρ σ) (Own ρ' σ') F H F' H'->Q σ' H'
structure GV (K:Fg9) (X:Cx) (e:Expr) (b:D->Ro->Option Ro):Prop where
 go:X.K=K->PG X e (TGd K b)
instance {K:Fg9} {X:Cx} {e:Expr} {b:D->Ro->Option Ro}:CoeFun (GV K X e b) fun _=>X.K=K->PG X e (TGd K b):=⟨GV.go⟩
theorem PG.imp{t t':TG}(h:PG X e t)(w:∀v σ H Q,t' v σ H Q->t v σ H Q):PG X e t':=fun jv s σ H v u Q I r q=>h jv s σ H v u Q I r (w v σ H Q q)
def dq(i:Nat):D->Ro->Option Ro:=fun d ρ=>some (List.set ρ i (.val d))
theorem Good.storeV{tg:Nat->Addr}{F H:Hp}{ρ:Ro}{σ:L2.St}(G:Good K tg F H ρ σ){d:D}{v:V}(i:Nat)(h:Is K F d v):Good K tg F H (List.set ρ i (.val d)) (List.set σ i (some v))/\Ext (Own ρ σ) (Own (List.set ρ i (.val d)) (List.set σ i (some v))) F H F H :=
 G.store (r:=.v d) (Ext.refl _ _ _) i h
theorem dz{i:Nat}{x:Str}(hN:X.N.Nodup)(hi:X.N[i]? = some x)(hx:Loc X.env.scope x)(hf:X.fn x=true∨X.env.scope.names.lookup x=some .local:=by first | exact .inl rfl | exact .inr rfl | assumption):GV K X (.Name x pos) (dq i):=GV.mk fun _=>PG.imp (akj hN hi hx hf) fun v σ H Q z9=>by
 obtain⟨tg,F,ρ,d,ρ',G,h,em,q⟩:=z9;cases em;obtain⟨G2,x2⟩:=G.storeV i h;exact q _ H F G2 x2
def TGsd(K:Fg9)(b:List D->Ro->Option Ro):TGs:=fun vs σ H Q=>∃tg F ρ ds ρ',Good K tg F H ρ σ/\IsL K F ds vs/\b ds ρ=some ρ'/\∀σ' H' F',Good K tg F' H' ρ' σ'->Ext (Own ρ σ) (Own ρ' σ') F H F' H'->Q σ' H'
structure GVs (K:Fg9) (X:Cx) (es:List Expr) (b:List D->Ro->Option Ro):Prop where
 go:X.K=K->PGs X es (TGsd K b)
instance {K:Fg9} {X:Cx} {es:List Expr} {b:List D->Ro->Option Ro}:CoeFun (GVs K X es b) fun _=>X.K=K->PGs X es (TGsd K b):=⟨GVs.go⟩
theorem PGs.imp{t t':TGs}(h:PGs X es t)(w:∀v σ H Q,t' v σ H Q->t v σ H Q):PGs X es t':=fun jv s σ H v u Q I r q=>h jv s σ H v u Q I r (w v σ H Q q)
def bNil:List D->Ro->Option Ro:=fun ds ρ=>match ds with
 | []=>some ρ
 | _=>none
def abo(b:D->Ro->Option Ro)(bs:List D->Ro->Option Ro):List D->Ro->Option Ro:=fun ds ρ=>match ds with
 | d::r=>(b d ρ).bind (bs r)
 | _=>none
theorem aho:GVs K X [] bNil:=GVs.mk fun _=>PGs.imp apc fun vs σ H Q z9=>by
 obtain⟨tg,F,ρ,ds,ρ',G,h,em,q⟩:=z9;cases ds with
 | nil=>cases em;cases h;exact⟨rfl,q σ H F G (Ext.refl _ _ _)⟩
 | cons _ _=>cases em
theorem vd{b:D->Ro->Option Ro}{bs:List D->Ro->Option Ro}(h1:GV K X e b)(h2:GVs K X es bs)(hs:(assignEach (e::es) X.env).map (·.2)=assign e X.env::(assignEach es X.env).map (·.2):=by rfl):GVs K X (e::es) (abo b bs):=GVs.mk fun hk=>PGs.imp (ag7 (h1 hk) (h2 hk) hs) fun vs σ H Q z9=>by
 obtain⟨tg,F,ρ,ds,ρ',G,h,em,q⟩:=z9;cases h with
 | nil=>cases em
 | @cons d v ds vs hd ht =>
  have em:(b d ρ).bind (bs ds)=some ρ':=em;cases e1:b d ρ with
  | none=>rw[e1] at em;cases em
  | some ρ1 =>
   rw[e1] at em;exact⟨v,vs,rfl,tg,F,ρ,d,ρ1,G,hd,e1,fun σ' H' F' G' x=>⟨tg,F',ρ1,ds,ρ',G',ht.mono x.sub,em,fun σ2 H2 F2 G2 x2=>q σ2 H2 F2 G2 (x.trans x2)⟩⟩
def bTup(n:Nat)(bs:List D->Ro->Option Ro):D->Ro->Option Ro:=fun d ρ=>match d with
 | .tup l=>if l.length=n then bs l ρ else none
 | _=>none
theorem amr{k n:Nat}{bs:List D->Ro->Option Ro}(hc:X.calm=true)(h:GVs K X es bs)(hn:(assignEach es X.env).length=n:=by rfl)(hst:(assignEach es X.env).findIdx? (·.1)=none:=by rfl):GV K X (.Tuple es k pos) (bTup n bs):=GV.mk fun hk=>PG.imp (atq hc (h hk) hn hst) fun v σ H Q z9=>by
 obtain⟨tg,F,ρ,d,ρ',G,hd,em,q⟩:=z9;cases hd with
 | @tup a vs ds e hl =>
  have em:(if ds.length=n then bs ds ρ else none)=some ρ':=em
  split at em
  ·rename_i hz;exact⟨a,vs,rfl,SqT.of (G.sub _ _ e),by rw[<-hl.length];exact hz,tg,F,ρ,ds,ρ',G,hl,em,q⟩
  ·cases em
 | _=>cases em
def dAsg(m:M D)(b:D->Ro->Option Ro):Sd:=dM m fun d ρ=>(b d ρ).map fun ρ'=>(.nx,ρ')
theorem awv{m:M D}{b:D->Ro->Option Ro}(h:EV K X e m)(hg:GV K X tgt b)(hs:swapsWithSole [tgt] e pos.line X.env=pure false:=by rfl)(hw:swappedStores [tgt] e X.env=pure none:=by rfl)
  (h1:(assignEach [tgt] X.env).map (·.2)=[assign tgt X.env]:=by rfl):SV K X (.Assign [tgt] e pos) (dAsg m b):=SV.mk fun hk=>PS.imp (al0 (h hk) (hg hk) hs hw h1) fun E σ H ⟨tg,F,ρ,fl,ρ',G,em,q⟩=>abn em q fun d ρ1 e1 em=>by
 refine⟨tg,F,ρ,d,ρ1,G,e1,fun v H' F' G' x r =>?_⟩
 cases e2:b d ρ1 with
 | none=>rw[e2] at em;cases em
 | some ρ2 =>
  rw[e2] at em;cases em;exact⟨tg,F',ρ1,d,_,G',r,e2,fun σ2 H2 F2 G2 x2=>q σ2 H2 F2 G2 (x.trans x2)⟩
theorem Good.mut{tg:Nat->Addr}{F H:Hp}{ρ:Ro}{σ:L2.St}(G:Good K tg F H ρ σ){i:Nat}{t:Option Nat}{l l':List D}{a:Addr}{ys:List V}(e:(ρ:List Sl)[i]? = some (.own t l))(q:σ[i]? = some (some (.ref a)))(h:IsL K F l' ys) :
  Good K tg F (upd H a (.lst ys)) (List.set ρ i (.own t l')) σ/\Ext (Own ρ σ) (Own (List.set ρ i (.own t l')) σ) F H F (upd H a (.lst ys)):=by
 obtain⟨a',vs,e1,hf,hh,hl,ht⟩:=G.sl i _ _ e q;cases e1;have ow:∀j b,Owns (List.set ρ i (.own t l')) σ j b->Owns ρ σ j b:=fun j b ⟨⟨t2,l2,e2⟩,q2⟩=>by
  rw[List.getElem?_set] at e2
  by_cases hj:i=j
  ·subst hj;exact⟨⟨t,l,e⟩,q2⟩
  ·rw[if_neg hj] at e2;exact⟨⟨t2,l2,e2⟩,q2⟩
 have me:Own ρ σ a:=⟨i,⟨t,l,e⟩,q⟩;refine⟨⟨fun b o z =>?_,by rw[List.length_set];exact G.len,fun j s o e2 q2 =>?_,fun j k b w1 w2=>G.inj j k b (ow _ _ w1) (ow _ _ w2)⟩,Same.refl F,fun _ _ z=>.inl z,fun b o z n =>?_,fun b ⟨j,w⟩=>.inl ⟨j,ow j b w⟩,fun b z =>?_⟩
 ·have hb:b≠a:=fun z2=>by
   subst z2;rw[hf] at z;cases z
  rw[bj hb];exact G.sub b o z
 ·rw[List.getElem?_set] at e2
  by_cases hj:i=j
  ·subst hj;rw[if_pos rfl] at e2;split at e2
   ·cases e2;rw[q] at q2;cases q2;exact⟨a,ys,rfl,hf,fj,h,ht⟩
   ·cases e2
  ·rw[if_neg hj] at e2;have z:=G.sl j s o e2 q2;cases s with
   | emp=>trivial
   | val d=>exact z
   | box c fs =>
    obtain⟨b,C,dx,fvs,e1,e2,e3,e4⟩:=z;have hb:b≠a:=fun z2=>by
     subst z2;rw[e3] at hh;cases hh
    exact⟨b,C,dx,fvs,e1,e2,by rw[bj hb];exact e3,e4⟩
   | own t2 l2 =>
    obtain⟨b,ws,e3,hf3,hh3,hl3,ht3⟩:=z;have hb:b≠a:=fun z2=>by
     subst z2;exact hj (G.inj i j b ⟨⟨t,l,e⟩,q⟩ ⟨⟨t2,l2,e2⟩,by rw[q2,e3]⟩)
    exact⟨b,ws,e3,hf3,by rw[bj hb];exact hh3,hl3,ht3⟩
 ·have hb:b≠a:=fun z2=>n (z2▸me)
  rw[bj hb];exact z
 ·by_cases hb:b=a
  ·subst hb;rw[fj] at z;cases z
  ·rw[bj hb] at z;exact z
def mOwn(i:Nat):M (List D):=fun ρ=>match ρ[i]? with
 | some (.own _ l)=>some (.ok l,ρ)
 | _=>none
theorem al3{tg:Nat->Addr}{F H:Hp}{ρ ρ':Ro}{σ:L2.St}(G:Good K tg F H ρ σ){i:Nat}{l:List D}(em:mOwn i ρ=some (.ok l,ρ')):ρ'=ρ/\∃t a xs,(ρ:List Sl)[i]? = some (.own t l)/\σ[i]? = some (some (.ref a))/\H a=some (.lst xs)/\IsL K F l xs:=by
 unfold mOwn at em;split at em
 ·rename_i t l' e';cases em;obtain⟨o,ho,a,vs,rfl,hf,hh,hl,_⟩:=G.at e';exact⟨rfl,t,a,vs,e',ho,hh,hl⟩
 ·cases em
def ae2(i:Nat)(l':List D):M Unit:=fun ρ=>match ρ[i]? with
 | some (.own t _)=>some (.ok (),List.set ρ i (.own t l'))
 | _=>none
def mMut(i:Nat)(g:List D->List D->Option (D×List D))(ms:M (List D)):M D:=(mOwn i).bind fun _=>ms.bind fun ds=>(mOwn i).bind fun l=>(lift (g l ds)).bind fun r=>(ae2 i r.2).bind fun _=>ret r.1
def MutD(K:Fg9)(r:V->List V->Hp->VK->Prop)(g:List D->List D->Option (D×List D)):Prop :=
 ∀(F H:Hp) (a:Addr) (xs vs:List V) (l ds:List D) (d:D) (l':List D) (Q:VK),Same F H->H a=some (.lst xs)->xs.length<=capS->IsL K F l xs->IsL K F ds vs->g l ds=some (d,l')->(∀v ys,Is K F d v->IsL K F l' ys->Q v (upd H a (.lst ys)))->r (.ref a) vs H Q
theorem aph{tg:Nat->Addr}{F H:Hp}{ρ ρ2:Ro}{σ:L2.St}(G:Good K tg F H ρ σ){i:Nat}{l':List D}{u:Unit}{a:Addr}{ys:List V}(e:ae2 i l' ρ=some (.ok u,ρ2))(q:σ[i]? = some (some (.ref a)))(h:IsL K F l' ys) :
  Good K tg F (upd H a (.lst ys)) ρ2 σ/\Ext (Own ρ σ) (Own ρ2 σ) F H F (upd H a (.lst ys)):=by
 unfold ae2 at e;split at e
 ·rename_i t l e';cases e;exact G.mut e' q h
 ·cases e
theorem afk{i:Nat}{name:Str}{id:String}{r:V->List V->Hp->VK->Prop}{g:List D->List D->Option (D×List D)}{ms:M (List D)}{apos cpos:Pos}(hr:MutD K r g)(slot:Slot "list" name id)(hty:typeOf (.builtin id)=pure (.type "method_descriptor"))(hm:MtR X id r)(ho:PE X a (tVar i))(ha:ED K X (e::es) ms)
  (hbase:attributeBase a name X.env (eval a X.env)=eval a X.env:=by rfl)
  (hfew:((backTo cpos (starEach (e::es) X.env)).all (fun x => !x.1)&&(backToKw cpos (keywordEach [] X.env)).all (fun x=>x.1.isSome)
   && decide ((e::es).length+([]:List Keyword).length+(if ([]:List Keyword).isEmpty then 0 else 1) < 30))=true:=by rfl)
  (hline:(apos.endLine==cpos.line)=true:=by rfl) (hs:starEach (e::es) X.env=(false,eval e X.env)::starEach es X.env:=by rfl) (hplain:(backTo cpos (starEach es X.env)).any (·.1)=false:=by rfl) :
  EV K X (.Call (.Attribute a name apos) (e::es) [] cpos) (mMut i g ms):=EV.mk fun hk=>by
 intro jv s σ H Q I ⟨tg,F,ρ,d,ρ',G,em,q⟩;obtain⟨l0,ρ0,e0,em1⟩:=au em;obtain⟨ds,ρ1,e1,em2⟩:=au em1;obtain⟨l,ρ2,e2,em3⟩:=au em2;obtain⟨x,ρ3,e3,em4⟩:=au em3;obtain⟨u,ρ4,e4,em5⟩:=au em4;obtain⟨rfl,rfl⟩:=jb em5;obtain⟨eg,rfl⟩:=gw e3;obtain⟨rfl,t0,b,xs0,es0,hv,hh0,hl0⟩:=al3 G e0;refine axs (r:=fun x vs H Q=>(∀b xs,x=.ref b->H b=some (.lst xs)->xs.length<=capS)->r x vs H Q) PySem.F.plainAttrs_list slot hty (fun jv s σ H x xs v us Q I rx rv h=>hm jv s σ H x xs v us Q I rx rv (h fun b xs _ hb =>?_)) ho (ha hk) hbase hfew hline hs hplain jv s σ H Q I ?_
 ·obtain⟨z,_⟩:=I.lstM hb;rw[sizeLine_eq] at z;exact z
 refine⟨_,hv,.inl ⟨rfl,_,SqL.of hh0⟩,tg,F,ρ0,ds,ρ1,G,e1,fun vs H1 F1 G1 x1 r1 cap =>?_⟩
 obtain⟨rfl,t,a',xs,es',hv',hh,hl⟩:=al3 G1 e2;rw[hv] at hv';cases hv';refine hr F1 H1 _ xs vs l ds x.1 x.2 Q G1.sub hh (cap _ _ rfl hh) hl r1 eg fun w ys iw il =>?_
 obtain⟨G2,x2⟩:=aph G1 e4 hv il;exact q w _ F1 G2 (x1.trans x2) iw
def wj(l ds:List D):Option (D×List D):=match ds with
 | [d]=>if l.length < capS then some (.non,l++[d]) else none
 | _=>none
theorem nu:MutD K ao3 wj:=by
 intro F H a xs vs l ds d l' Q g hh hc hl hd eg q
 match ds,eg with
 | [d1],eg =>
  have eg:(if l.length < capS then some (D.non,l++[d1]) else none)=some (d,l'):=eg
  split at eg
  ·rename_i hz;cases eg;cases hd with
   | cons h t =>
    cases t;exact⟨a,xs,_,rfl,rfl,hh,by rw[sizeLine_eq,<-hl.length];exact hz,q _ _ .non (hl.append (.cons h .nil))⟩
  ·cases eg
def dSub(i:Nat)(mi m:M D):Sd:=dM m fun d=>dM (mOwn i) fun _=>dM mi fun k=>dM (mOwn i) fun l=>dM (lift ((asI k).bind (ixN l.length))) fun j=>dM (ae2 i (l.set j d)) fun _=>dNx
theorem alo{i:Nat}{mi m:M D}(h:EV K X e m)(ho:PE X a (tVar i))(hi:EV K X b mi)(hs:swapsWithSole [.Subscript a b p] e pos.line X.env=pure false:=by rfl)(hw:swappedStores [.Subscript a b p] e X.env=pure none:=by rfl)
  (h1:(assignEach [.Subscript a b p] X.env).map (·.2)=[assign (.Subscript a b p) X.env]:=by rfl)
  (ha:∀v,assign (.Subscript a b p) X.env v=(do
   let ov <-holding [v] (eval a X.env)
   let iv <-holding [v,ov] (eval b X.env)
   standAt p
   holding [v,ov,iv] (setItem ov iv v)
   release [v,ov,iv] []):=by intro _;rfl):SV K X (.Assign [.Subscript a b p] e pos) (dSub i mi m):=SV.mk fun hk=>PS.imp (al0 (h hk) (atr ho (hi hk) set_list ha) hs hw h1) fun E σ H ⟨tg,F,ρ,fl,ρ',G,em,q⟩ =>
 abn em q fun d ρ1 e1 em=>abn em q fun l0 ρ0 e0 em=>abn em q fun k ρ2 e2 em=>abn em q fun l ρ3 e3 em=>abn em q fun j ρ4 e4 em=>abn em q fun u ρ5 e5 em=>by
 cases em;obtain⟨e6,rfl⟩:=gw e4;refine⟨tg,F,ρ,d,ρ1,G,e1,fun v H1 F1 G1 x1 r1 =>?_⟩
 obtain⟨rfl,t0,a0,xs0,es0,hv,hh0,hl0⟩:=al3 G1 e0;refine⟨_,hv,tg,F1,_,k,ρ2,G1,e2,fun w H2 F2 G2 x2 r2 =>?_⟩
 obtain⟨rfl,t,a1,xs,es1,hv',hh,hl⟩:=al3 G2 e3;rw[hv] at hv';cases hv';cases ek:asI k with
 | none=>rw[ek] at e6;cases e6
 | some n =>
  rw[ek] at e6;obtain rfl:=am2 ek;cases r2;obtain⟨G3,x3⟩:=aph G2 e5 hv (hl.set (r1.mono x2.sub) j);exact⟨_,xs,n,j,rfl,rfl,hh,by rw[<-hl.length];exact e6,q _ _ F2 G3 ((x1.trans x2).trans x3)⟩
def dAug(f:Int->Int->Int)(i:Nat)(m:M D):Sd:=dM (mVar i) fun x=>dM m fun y=>dM (lift ((asI x).bind fun n=>(asI y).map fun k=>D.int (f n k))) fun z ρ=>some (.nx,List.set ρ i (.val z))
theorem awu{f:Int->Int->Int}{op:Operator}{i:Nat}{x:Str}{m:M D}(hN:X.N.Nodup)(hi:X.N[i]? = some x)(hx:Loc X.env.scope x)(h:EV K X e m)(ho:PIp X op (ipI f))(hf:X.fn x=true∨X.env.scope.names.lookup x=some .local:=by first | exact .inl rfl | exact .inr rfl | assumption) :
  SV K X (.AugAssign (.Name x p) op e pos) (dAug f i m):=SV.mk fun hk=>PS.imp (axg hN hi hx (h hk) ho hf) fun E σ H ⟨tg,F,ρ,fl,ρ',G,em,q⟩=>abn em q fun d ρ1 e1 em=>abn em q fun d2 ρ2 e2 em=>abn em q fun z ρ3 e3 em=>by
 cases em;obtain⟨e4,rfl⟩:=gw e3;cases ed:asI d with
 | none=>rw[ed] at e4;cases e4
 | some n =>
  rw[ed] at e4;obtain rfl:=am2 ed;cases ed2:asI d2 with
  | none=>rw[ed2] at e4;cases e4
  | some k =>
   rw[ed2] at e4;obtain rfl:=am2 ed2;cases e4;unfold mVar at e1;split at e1
   ·rename_i d' es';cases e1;obtain⟨o,ho',v,rfl,hv⟩:=G.at es';cases hv;refine⟨_,ho',tg,F,ρ,_,_,G,e2,fun y H1 F1 G1 x1 r1 =>?_⟩
    cases r1;obtain⟨G2,x2⟩:=G1.storeV i (Is.int (f n k));exact⟨n,k,rfl,rfl,q _ H1 F1 G2 (x1.trans x2)⟩
   ·cases e1
   ·cases e1
end
section
variable{K:Fg9}{X:Cx}{e a b c tgt iter elt:Expr}{es:List Expr}{pos p p2:Pos}{st:Stmt}{ss:List Stmt}
theorem _root_.Mn.ItOf.imp{J:It}{xs:List V}{S S':Hp->Prop}(Z:ItOf J xs S)(h:∀H,S' H->S H):ItOf J xs S':=⟨fun i H q=>Z.go i H (h H q),fun i H x H' q=>Z.yld i H x H' (h H q),fun i H q=>Z.stop i H (h H q)⟩
def Alt(K:Fg9)(F:Hp)(d:D)(x:V)(H H':Hp):Prop:=(H'=H/\Is K F d x)∨∃q vs ds,H q=none/\x=.ref q/\H'=upd H q (.tup vs)/\d=.tup ds/\IsL K F ds vs
structure ItD (K:Fg9) (J:It) (l:List D) (F:Hp):Prop where
 go:∀i H,Same F H->i < l.length->J.go i H
 yld:∀i H x H' d,Same F H->J.yld i H x H'->l[i]? = some d->Alt K F d x H H'
 stop:∀H,Same F H->J.stop l.length H
theorem ItD.of{J:It}{l:List D}{vs:List V}{F:Hp}(il:IsL K F l vs)(Z:ItOf J vs fun H2=>Same F H2):ItD K J l F where
 go:=fun i H s hi=>Z.go i H s (by rw[<-il.length];exact hi)
 yld:=fun i H x H' d s y hd=>by
  obtain⟨v,hv,iv⟩:=il.get hd;obtain⟨e,z⟩:=Z.yld i H x H' s y;have:=z (List.getElem?_eq_some_iff.mp hv).1;rw[hv] at this;cases this;exact .inl ⟨e,iv⟩
 stop:=fun H s=>Z.stop _ H s (by rw[<-il.length];exact Nat.le_refl _)
theorem am4{tg:Nat->Addr}{O:Addr->Prop}{F H F1 F2 H2 H3:Hp}{ρ2:Ro}{σ2:L2.St}{d:D}{x:V}(G2:Good K tg F2 H2 ρ2 σ2)(x2:Ext O (Own ρ2 σ2) F H F2 H2)(s2:Same F1 F2)(a:Alt K F1 d x H2 H3) :
  ∃F3,Good K tg F3 H3 ρ2 σ2/\Ext O (Own ρ2 σ2) F H F3 H3/\Same F1 F3/\Is K F3 d x/\Ext (Own ρ2 σ2) (Own ρ2 σ2) F2 H2 F3 H3:=by
 rcases a with⟨rfl,id⟩ | ⟨q,vs,ds,hq,rfl,rfl,rfl,il⟩
 ·exact⟨F2,G2,x2,s2,id.mono s2,Ext.refl _ _ _⟩
 ·have z:=G2.newX hq (.tup vs);exact⟨_,G2.new hq _,x2.trans z,s2.trans z.sub,.tup fj (il.mono (s2.trans z.sub)),z⟩
theorem av0{J:It}{l:List D}{F:Hp}(Z:ItD K J l F){g:TG}{tb:TS}{D':Ends}{σ:L2.St}{H:Hp}(Pv:Nat->L2.St->Hp->Prop)(h0:Pv 0 σ H)(hl:∀i σ H,i<=l.length->Pv i σ H->Same F H)
  (hs:∀i d x σ H H',l[i]? = some d->Pv i σ H->Alt K F d x H H'->g x σ H' fun σ2 H2=>tb { D' with nx:=Pv (i+1),ct:=Pv (i+1),bk:=D'.nx } σ2 H2) (hd:∀σ H,Pv l.length σ H->D'.nx σ H) :
  ∃W:Nat->Nat->L2.St->Hp->Prop,(∃m,W 0 m σ H)/\∀i m σ H,W i m σ H ->
   (J.stop i H/\D'.nx σ H)∨(J.go i H/\∃N:L2.St->Hp->Prop,(∀σ' H',N σ' H'->∃m',m' < m/\W (i+1) m' σ' H')/\∀x H',J.yld i H x H'->g x σ H' fun σ2 H2=>tb { D' with nx:=N,ct:=N,bk:=D'.nx } σ2 H2):=by
 refine⟨fun i m σ H=>m=l.length - i/\i<=l.length/\Pv i σ H,⟨l.length,by simp,Nat.zero_le _,h0⟩,?_⟩
 rintro i m σ H ⟨rfl,hi,p⟩
 have q:=hl i σ H hi p
 by_cases hlt:i < l.length
 ·exact .inr ⟨Z.go i H q hlt,Pv (i+1),fun σ' H' p'=>⟨l.length - (i+1),by omega,rfl,hlt,p'⟩,fun x H' y=>hs i _ x σ H H' (List.getElem?_eq_getElem hlt) p (Z.yld i H x H' _ q y (List.getElem?_eq_getElem hlt))⟩
 ·have e:i=l.length:=by omega
  subst e;exact .inl ⟨Z.stop H q,hd σ H p⟩
theorem as8{J:It}{l:List D}{F:Hp}(Z:ItD K J l F){d:Addr}{g:TG}{ti:TT}{te:TE}{Q:VK}{σ0:L2.St}{H1:Hp}(Pv:Nat->List V->L2.St->Hp->Prop)(h0:Pv 0 [] σ0 (upd H1 d (.lst [])))
  (hl:∀i ys σ H,i<=l.length->Pv i ys σ H->Same F H/\H d=some (.lst ys))
  (hs:∀i e x ys σ H H' (M:List V->L2.St->Hp->Prop),l[i]? = some e->Pv i ys σ H->Alt K F e x H H'->(∀ys' σ' H',Pv (i+1) ys' σ' H'->M ys' σ' H') ->
   g x σ H' fun σ4 H4=>ti σ4 H4 fun b H5=>if b=true then te σ4 H5 fun y H6=>H6 d=some (.lst ys)/\ys.length < sizeLine/\M (ys++[y]) σ4 (upd H6 d (.lst (ys++[y]))) else M ys σ4 H5)
  (hd:∀ys σ H,Pv l.length ys σ H->Q (.ref d) H):azi J g ti te Q d σ0 H1:=by
 refine⟨fun i m ys σ H=>m=l.length - i/\i<=l.length/\Pv i ys σ H,⟨l.length,by simp,Nat.zero_le _,h0⟩,?_⟩
 rintro i m ys σ H ⟨rfl,hi,p⟩
 obtain⟨q,e⟩:=hl i ys σ H hi p;refine⟨e,?_⟩
 by_cases hlt:i < l.length
 ·exact .inr ⟨Z.go i H q hlt,fun x H' y=>hs i _ x ys σ H H' (fun ys' σ' H'=>∃m',m' < l.length - i/\(m'=l.length - (i+1)/\i+1<=l.length/\Pv (i+1) ys' σ' H')) (List.getElem?_eq_getElem hlt) p (Z.yld i H x H' _ q y (List.getElem?_eq_getElem hlt)) fun ys' σ' H' p'=>⟨l.length - (i+1),by omega,rfl,hlt,p'⟩⟩
 ·have e:i=l.length:=by omega
  subst e;exact .inl ⟨Z.stop H q,hd ys σ H p⟩
def TIt(K:Fg9)(m:M (List D)):TI:=fun σ H R=>∃tg F ρ l ρ',Good K tg F H ρ σ/\m ρ=some (.ok l,ρ')/\∀J H' F',Good K tg F' H' ρ' σ->Ext (Own ρ σ) (Own ρ' σ) F H F' H'->ItD K J l F'->R J H'
structure IT (K:Fg9) (X:Cx) (tgt iter:Expr) (m:M (List D)):Prop where
 go:X.K=K->PI X tgt iter (TIt K m)
instance {K:Fg9} {X:Cx} {tgt iter:Expr} {m:M (List D)}:CoeFun (IT K X tgt iter m) fun _=>X.K=K->PI X tgt iter (TIt K m):=⟨IT.go⟩
def sy(m:M D):M (List D):=m.bind fun d=>lift (itemsD d)
theorem xm{m:M D}(h:EV K X iter m):IT K X tgt iter (sy m):=IT.mk fun hk=>by
 intro jv s σ H R I ⟨tg,F,ρ,l,ρ',G,em,q⟩;obtain⟨d,ρ1,e1,em⟩:=au em;obtain⟨e2,rfl⟩:=gw em;have h:=h hk;subst hk;cases d with
 | tup k =>
  cases e2;refine axh h jv s σ H R I ⟨tg,F,ρ,_,_,G,e1,fun v H' F' G' x r =>?_⟩
  cases r with
  | @tup a vs _ e hl=>exact⟨a,rfl,⟨vs,SqT.of (G'.sub _ _ e)⟩,q _ H' F' G' x (.of hl (asv.imp fun H2 g=>SqT.of (g _ _ e)))⟩
 | lst k =>
  cases e2;refine apb h jv s σ H R I ⟨tg,F,ρ,_,_,G,e1,fun v H' F' G' x r =>?_⟩
  cases r with
  | @lst a vs _ e hl=>exact⟨a,rfl,⟨vs,SqL.of (G'.sub _ _ e)⟩,q _ H' F' G' x (.of hl (amk.imp fun H2 g=>SqL.of (g _ _ e)))⟩
 | kst k =>
  cases e2;refine apb h jv s σ H R I ⟨tg,F,ρ,_,_,G,e1,fun v H' F' G' x r =>?_⟩
  cases r with
  | @kst a vs _ e hl=>exact⟨a,rfl,⟨vs,L2.Same.seq G'.sub e⟩,q _ H' F' G' x (.of hl (amk.imp fun H2 g=>L2.Same.seq g e))⟩
 | _=>cases e2
def j9(lo:Int)(n:Nat):List D:=(List.range n).map fun i=>D.int (lo+(i:Nat))
theorem arw{F:Hp}(lo:Int)(n:Nat):IsL K F (j9 lo n) (ups lo n):=by
 have e1:j9 lo n=((List.range n).map fun i=>lo+((i:Nat):Int)).map D.int:=by unfold j9;rw[List.map_map];rfl
 have e2:ups lo n=((List.range n).map fun i=>lo+((i:Nat):Int)).map V.int:=by unfold ups;rw[List.map_map];rfl
 rw[e1,e2];exact abe _
theorem azg{j:Int}(h:j.natAbs < 4611686018427387904) : -2 ^ 62<=j/\j < 2 ^ 62:=by
 have e:(2:Int) ^ 62=4611686018427387904:=by decide
 rw[e];omega
def wg:List D->Option (List D)
 | [.int j]=>if j.natAbs < 4611686018427387904 then some (j9 0 j.toNat) else none
 | _=>none
def mGet{α β:Type}(g:α->Option β)(m:M α):M β:=m.bind fun ds=>lift (g ds)
theorem aar{m:M (List D)}(hg:Gl X "range")(hm:X.mg "range" = none)(h:ED K X [a] m)(hs:starEach [a] X.env=[(false,eval a X.env)]:=by rfl):IT K X tgt (.Call (.Name "range" p) [a] [] pos) (mGet wg m):=IT.mk fun hk=>by
 intro jv s σ H R I ⟨tg,F,ρ,l,ρ',G,em,q⟩;obtain⟨ds,ρ1,e1,em⟩:=au em;obtain⟨e2,rfl⟩:=gw em;refine apa hg hm (h hk) hs jv s σ H R I ⟨tg,F,ρ,ds,_,G,e1,fun vs H' F' G' x r =>?_⟩
 unfold wg at e2;split at e2
 ·split at e2
  ·rename_i j hc;cases e2;cases r with
   | cons h t =>
    cases t;cases h;exact⟨_,rfl,(azg hc).1,(azg hc).2,q _ H' F' G' x (.of (arw 0 _) (asw.imp fun _ _=>trivial))⟩
  ·cases e2
 ·cases e2
noncomputable def forD(b:D->Ro->Option Ro)(g:Sd):List D->Sd
 | [],ρ=>some (.nx,ρ)
 | d::ds,ρ=>match b d ρ with
  | none=>none
  | some ρ1=>match g ρ1 with
   | some (.nx,ρ2)=>forD b g ds ρ2
   | some (.cont,ρ2)=>forD b g ds ρ2
   | some (.brk,ρ2)=>some (.nx,ρ2)
   | some (.ret r,ρ2)=>some (.ret r,ρ2)
   | some (.exc x,ρ2)=>some (.exc x,ρ2)
   | none=>none
def dFor(m:M (List D))(b:D->Ro->Option Ro)(g:Sd):Sd:=dM m (forD b g)
theorem abp{m:M (List D)}{b:D->Ro->Option Ro}{g:Sd}(hp:PassesOwn (model X.prog X.w) X.A X.env X.xe)(hc:X.calm=true)(hi:IT K X tgt iter m)(hg:GV K X tgt b)(hb:SVs K X ss g)
  (hs:∀x,foldedSetIterable iter X.env x=pure x:=by intro _;rfl):SV K X (.For tgt iter ss [] pos) (dFor m b g):=SV.mk fun hk=>PS.imp (axf hp hc (hi hk) (hg hk) (hb hk) hs) fun E σ H ⟨tg,F,ρ,fl,ρ',G,em,q⟩=>abn em q fun l ρ1 e1 em=>by
 refine⟨tg,F,ρ,l,ρ1,G,e1,fun J H1 F1 G1 x1 Z =>?_⟩
 refine av0 Z (fun i σ2 H2=>∃F2 ρ2,Good K tg F2 H2 ρ2 σ2/\Ext (Own ρ σ) (Own ρ2 σ2) F H F2 H2/\Same F1 F2/\forD b g (l.drop i) ρ2=some (fl,ρ')) ⟨F1,ρ1,G1,x1,Same.refl _,em⟩ (fun i σ2 H2 _ ⟨F2,ρ2,G2,_,s2,_⟩=>s2.trans G2.sub) ?_ ?_
 ·rintro i d x σ2 H2' H2 hd ⟨F2',ρ2,G2',x2',s2',em2⟩ al
  obtain⟨F2,G2,x2,s2,id,_⟩:=am4 G2' x2' s2' al;have hlt:i < l.length:=(List.getElem?_eq_some_iff.mp hd).1;have ed:l[i]=d:=(List.getElem?_eq_some_iff.mp hd).2;rw[List.drop_eq_getElem_cons hlt,ed] at em2;unfold forD at em2;split at em2
  ·cases em2
  ·rename_i ρ3 e3;refine⟨tg,F2,ρ2,d,ρ3,G2,id,e3,fun σ3 H3 F3 G3 x3 =>?_⟩
   have again:∀{ρ4:Ro},forD b g (l.drop (i+1)) ρ4=some (fl,ρ')->∀σ' H' F',Good K tg F' H' ρ4 σ'->Ext (Own ρ3 σ3) (Own ρ4 σ') F3 H3 F' H' ->
     ∃F2 ρ2,Good K tg F2 H' ρ2 σ'/\Ext (Own ρ σ) (Own ρ2 σ') F H F2 H'/\Same F1 F2/\forD b g (l.drop (i+1)) ρ2=some (fl,ρ') :=
    fun{ρ4} e4 σ' H' F' G' x'=>⟨F',ρ4,G',(x2.trans x3).trans x',(s2.trans x3.sub).trans x'.sub,e4⟩
   split at em2
   ·rename_i ρ4 e4;exact⟨tg,F3,ρ3,.nx,ρ4,G3,e4,again em2⟩
   ·rename_i ρ4 e4;exact⟨tg,F3,ρ3,.cont,ρ4,G3,e4,again em2⟩
   ·rename_i ρ4 e4;cases em2;exact⟨tg,F3,ρ3,.brk,_,G3,e4,fun σ' H' F' G' x'=>q σ' H' F' G' ((x2.trans x3).trans x')⟩
   ·rename_i r ρ4 e4;cases em2;exact⟨tg,F3,ρ3,.ret r,_,G3,e4,fun v σ' H' F' G' x' rr=>q v σ' H' F' G' ((x2.trans x3).trans x') (uh (x2.trans x3) rr)⟩
   ·cases em2;exact(show False from q).elim
   ·cases em2
 ·rintro σ2 H2 ⟨F2,ρ2,G2,x2,s2,em2⟩
  rw[List.drop_eq_nil_of_le (Nat.le_refl _)] at em2;cases em2;exact q σ2 H2 F2 G2 x2
noncomputable def whileD(c:M Bool)(g:Sd):Nat->Sd
 | 0,_=>none
 | n+1,ρ=>match c ρ with
  | some (.ok true,ρ1)=>match g ρ1 with
   | some (.nx,ρ2)=>whileD c g n ρ2
   | some (.cont,ρ2)=>whileD c g n ρ2
   | some (.brk,ρ2)=>some (.nx,ρ2)
   | some (.ret r,ρ2)=>some (.ret r,ρ2)
   | some (.exc x,ρ2)=>some (.exc x,ρ2)
   | none=>none
  | some (.ok false,ρ1)=>some (.nx,ρ1)
  | some (.exc x,ρ1)=>some (.exc x,ρ1)
  | none=>none
theorem acj{m:M Bool}{g:Sd}(n:Nat)(hp:PassesOwn (model X.prog X.w) X.A X.env X.xe)(hc:ET K X c m)(hb:SVs K X ss g):SV K X (.While c ss [] pos) (whileD m g n):=SV.mk fun hk=>PS.imp (aly hp (hc hk) (hb hk)) fun E σ H z9=>by
 obtain⟨tg,F,ρ,fl,ρ',G,em,q⟩:=z9;refine⟨fun k σ2 H2=>∃F2 ρ2,Good K tg F2 H2 ρ2 σ2/\Ext (Own ρ σ) (Own ρ2 σ2) F H F2 H2/\whileD m g k ρ2=some (fl,ρ'),⟨n,F,ρ,G,Ext.refl _ _ _,em⟩,?_⟩
 rintro k σ2 H2 ⟨F2,ρ2,G2,x2,em2⟩
 cases k with
 | zero=>cases em2
 | succ k =>
  unfold whileD at em2;split at em2
  ·rename_i ρ3 e3;refine⟨tg,F2,ρ2,true,ρ3,G2,e3,fun H3 F3 G3 x3=>iteT ?_⟩
   refine⟨fun σ' H'=>∃F2 ρ2,Good K tg F2 H' ρ2 σ'/\Ext (Own ρ σ) (Own ρ2 σ') F H F2 H'/\whileD m g k ρ2=some (fl,ρ'),fun σ' H' h=>⟨k,Nat.lt_succ_self k,h⟩,?_⟩
   split at em2
   ·rename_i ρ4 e4;exact⟨tg,F3,ρ3,.nx,ρ4,G3,e4,fun σ' H' F' G' x'=>⟨F',ρ4,G',(x2.trans x3).trans x',em2⟩⟩
   ·rename_i ρ4 e4;exact⟨tg,F3,ρ3,.cont,ρ4,G3,e4,fun σ' H' F' G' x'=>⟨F',ρ4,G',(x2.trans x3).trans x',em2⟩⟩
   ·rename_i ρ4 e4;cases em2;exact⟨tg,F3,ρ3,.brk,_,G3,e4,fun σ' H' F' G' x'=>q σ' H' F' G' ((x2.trans x3).trans x')⟩
   ·rename_i r ρ4 e4;cases em2;exact⟨tg,F3,ρ3,.ret r,_,G3,e4,fun v σ' H' F' G' x' rr=>q v σ' H' F' G' ((x2.trans x3).trans x') (uh (x2.trans x3) rr)⟩
   ·cases em2;exact(show False from q).elim
   ·cases em2
  ·rename_i ρ3 e3;cases em2;exact⟨tg,F2,ρ2,false,_,G2,e3,fun H3 F3 G3 x3=>iteF (q σ2 H3 F3 G3 (x2.trans x3))⟩
  ·cases em2;exact(show False from q).elim
  ·cases em2
end
def ai5(ρ:Ro)(i:Nat)(o:Option Nat)(d:Option D):Sl:=match o with
 | some j=>match ρ[j]? with
  | some (.val d)=>.val d
  | some (.own _ l)=>.own (some i) l
  | _=>.emp
 | none=>match d with
  | some d=>.val d
  | none=>.emp
def lend(ρ:Ro)(js:List (Option Nat))(ds:List (Option D)):Ro:=(List.zip js ds).mapIdx fun i p=>ai5 ρ i p.1 p.2
def okJs(ρ:Ro):List (Option Nat)->Bool
 | []=>true
 | none::r=>okJs ρ r
 | some j::r=>(match ρ[j]? with
  | some (.own _ _) => !r.contains (some j)
  | _=>true)&&okJs ρ r
theorem ahg{ρ:Ro}:∀{js:List (Option Nat)} {i i' j:Nat} {t:Option Nat} {l:List D},okJs ρ js=true->js[i]? = some (some j)->js[i']? = some (some j)->ρ[j]? = some (.own t l)->i=i'
 | [],_,_,_,_,_,_,h,_,_=>by simp at h
 | o::r,0,0,_,_,_,_,_,_,_=>rfl
 | o::r,0,i'+1,j,t,l,hk,h,h',e=>by
  simp at h h';subst h;unfold okJs at hk;rw[e,Bool.and_eq_true] at hk;have:=List.mem_of_getElem? h';simp[this] at hk
 | o::r,i+1,0,j,t,l,hk,h,h',e=>by
  simp at h h';subst h';unfold okJs at hk;rw[e,Bool.and_eq_true] at hk;have:=List.mem_of_getElem? h;simp[this] at hk
 | none::r,i+1,i'+1,j,t,l,hk,h,h',e=>by
  rw[ahg (js:=r) (i:=i) (i':=i') (j:=j) (by unfold okJs at hk;exact hk) (by simpa using h) (by simpa using h') e]
 | some k::r,i+1,i'+1,j,t,l,hk,h,h',e=>by
  unfold okJs at hk;rw[Bool.and_eq_true] at hk;rw[ahg (js:=r) (i:=i) (i':=i') (j:=j) hk.2 (by simpa using h) (by simpa using h') e]
def putS(js:List (Option Nat))(ps:Ro)(j:Nat)(s:Sl):Sl:=match js.findIdx? (fun o=>o==some j) with
 | none=>s
 | some i=>match s with
  | .own t _=>match ps[i]? with
   | some (.own (some i') l')=>if i'=i then .own t l' else .emp
   | _=>.emp
  | s=>s
def putB(ρ:Ro)(js:List (Option Nat))(ps:Ro):Ro:=ρ.mapIdx fun j s=>putS js ps j s
def tgOf(τ:L2.St)(i:Nat):Addr:=match τ[i]? with
 | some (some (.ref a))=>a
 | _=>0
section
variable{K:Fg9}{tg:Nat->Addr}{F H F' H':Hp}{ρ ps:Ro}{σ τ:L2.St}{js:List (Option Nat)}{ds:List (Option D)}{O':Addr->Prop}
theorem ame{i:Nat}{s:Sl}(h:(lend ρ js ds:List Sl)[i]? = some s):∃o d,js[i]? = some o/\ds[i]? = some d/\s=ai5 ρ i o d:=by
 unfold lend at h;rw[List.getElem?_mapIdx] at h;cases e:(List.zip js ds)[i]? with
 | none=>rw[e] at h;cases h
 | some p =>
  rw[e] at h;cases h;rw[List.getElem?_zip_eq_some] at e;exact⟨p.1,p.2,e.1,e.2,rfl⟩
theorem asp{i:Nat}{t:Option Nat}{l:List D}(h:(lend ρ js ds:List Sl)[i]? = some (.own t l)):∃j t',js[i]? = some (some j)/\ρ[j]? = some (.own t' l)/\t=some i:=by
 obtain⟨o,d,e1,e2,e3⟩:=ame h;unfold ai5 at e3;cases o with
 | none=>cases d <;> cases e3
 | some j =>
  simp only at e3;cases e:ρ[j]? with
  | none=>rw[e] at e3;cases e3
  | some s =>
   rw[e] at e3;cases s with
   | emp=>cases e3
   | val _=>cases e3
   | box _ _=>cases e3
   | own t' l'=>cases e3;exact⟨j,t',e1,e,rfl⟩
structure Lent (K:Fg9) (F:Hp) (σ τ:L2.St) (js:List (Option Nat)) (ds:List (Option D)):Prop where
 l1:τ.length=js.length
 l2:ds.length=js.length
 h1:∀(i j:Nat) (o:Option V),js[i]? = some (some j)->σ[j]? = some o->τ[i]? = some o
 h2:∀(i:Nat) (d:D),js[i]? = some none->ds[i]? = some (some d)->∃v,τ[i]? = some (some v)/\Is K F d v
theorem Good.σ_at(G:Good K tg F H ρ σ){j:Nat}{s:Sl}(e:(ρ:List Sl)[j]? = some s):∃o,σ[j]? = some o:=by
 obtain⟨o,h,_⟩:=G.at e;exact⟨o,h⟩
theorem abb(G:Good K tg F H ρ σ)(L:Lent K F σ τ js ds){i:Nat}{a:Addr}(h:Owns (lend ρ js ds) τ i a):∃j,js[i]? = some (some j)/\Owns ρ σ j a:=by
 obtain⟨⟨t,l,e⟩,q⟩:=h;obtain⟨j,t',e1,e2,_⟩:=asp e;obtain⟨o,ho⟩:=G.σ_at e2;have:=L.h1 i j o e1 ho;rw[q] at this;cases this;exact⟨j,e1,⟨t',l,e2⟩,ho⟩
theorem ai4(G:Good K tg F H ρ σ)(hk:okJs ρ js=true)(L:Lent K F σ τ js ds):Good K (tgOf τ) F H (lend ρ js ds) τ where
 sub:=G.sub
 len:=by
  unfold lend;rw[List.length_mapIdx,List.length_zip,L.l2,L.l1];omega
 sl:=fun i s o e q=>by
  obtain⟨oj,d,e1,e2,rfl⟩:=ame e;unfold ai5;cases oj with
  | none =>
   cases d with
   | none=>trivial
   | some d =>
    obtain⟨v,h1,h2⟩:=L.h2 i d e1 e2;rw[q] at h1;cases h1;exact⟨v,rfl,h2⟩
  | some j =>
   simp only;cases e3:ρ[j]? with
   | none=>trivial
   | some s =>
    obtain⟨o',ho,w⟩:=G.at e3;have:=L.h1 i j o' e1 ho;rw[q] at this;cases this;cases s with
    | emp=>trivial
    | val d=>exact w
    | box _ _=>trivial
    | own t l =>
     obtain⟨a,vs,rfl,hf,hh,hl,_⟩:=w;refine⟨a,vs,rfl,hf,hh,hl,fun k e =>?_⟩
     cases e;unfold tgOf;rw[q]
 inj:=fun i i' a w w'=>by
  obtain⟨j,e,v⟩:=abb G L w;obtain⟨j',e',v'⟩:=abb G L w';have:=G.inj j j' a v v';subst this;obtain⟨⟨t,l,z⟩,_⟩:=v;exact ahg hk e e' z
structure Fin (K:Fg9) (F' H':Hp) (τ:L2.St) (ps:Ro) (O':Addr->Prop):Prop where
 at':∀(i:Nat) (l:List D),(ps:List Sl)[i]? = some (.own (some i) l)->O' (tgOf τ i)/\F' (tgOf τ i)=none/\∃vs,H' (tgOf τ i)=some (.lst vs)/\IsL K F' l vs
theorem ag5{j:Nat}{s:Sl}(h:(putB ρ js ps:List Sl)[j]? = some s):∃s0:Sl,(ρ:List Sl)[j]? = some s0/\((∃t l,s0=Sl.own t l/\∃i:Nat,js[i]? = some (some j)/\((∃l',(ps:List Sl)[i]? = some (Sl.own (some i) l')/\s=Sl.own t l')∨s=Sl.emp)) ∨
  (s=s0/\∀t l,s0=Sl.own t l->∀i:Nat,js[i]? ≠ some (some j))):=by
 unfold putB at h;rw[List.getElem?_mapIdx] at h;cases e:(ρ:List Sl)[j]? with
 | none=>rw[e] at h;cases h
 | some s0 =>
  rw[e] at h;refine⟨s0,rfl,?_⟩;have h:putS js ps j s0=s:=Option.some.inj h;unfold putS at h;cases ei:js.findIdx? (fun o=>o==some j) with
  | none =>
   rw[ei] at h;have h:s0=s:=h;refine .inr ⟨h.symm,fun _ _ _ i z =>?_⟩
   rw[List.findIdx?_eq_none_iff] at ei;have:=ei _ (List.mem_of_getElem? z);simp at this
  | some i =>
   rw[ei] at h;cases s0 with
   | emp=>exact .inr ⟨(show Sl.emp=s from h).symm,fun t l z=>by cases z⟩
   | val d=>exact .inr ⟨(show Sl.val d=s from h).symm,fun t l z=>by cases z⟩
   | box c fs=>exact .inr ⟨(show Sl.box c fs=s from h).symm,fun t l z=>by cases z⟩
   | own t l =>
    refine .inl ⟨t,l,rfl,i,?_,?_⟩
    ·obtain⟨hi,hb,_⟩:=List.findIdx?_eq_some_iff_getElem.mp ei;rw[List.getElem?_eq_getElem hi];exact congrArg some (eq_of_beq hb)
    ·have h:(match (ps:List Sl)[i]? with
      | some (.own (some i') l')=>if i'=i then Sl.own t l' else .emp
      | _=>.emp)=s:=h
     cases ep:(ps:List Sl)[i]? with
     | none=>rw[ep] at h;exact .inr h.symm
     | some sp =>
      rw[ep] at h;cases sp with
      | emp=>exact .inr h.symm
      | val _=>exact .inr h.symm
      | box _ _=>exact .inr h.symm
      | own t' l' =>
       cases t' with
       | none=>exact .inr h.symm
       | some i' =>
        have h2:(if i'=i then Sl.own t l' else .emp)=s:=h
        by_cases z:i'=i
        ·subst z;rw[if_pos rfl] at h2;exact .inl ⟨l',rfl,h2.symm⟩
        ·rw[if_neg z] at h2;exact .inr h2.symm
theorem ac9{j:Nat}{a:Addr}(h:Owns (putB ρ js ps) σ j a):Owns ρ σ j a:=by
 obtain⟨⟨t,l,e⟩,q⟩:=h;obtain⟨s0,e0,h | ⟨rfl,_⟩⟩:=ag5 e
 ·obtain⟨t',l',rfl,i,_,⟨l2,_,z⟩ | z⟩:=h
  ·exact⟨⟨t',l',e0⟩,q⟩
  ·cases z
 ·exact⟨⟨t,l,e0⟩,q⟩
theorem aj1(G:Good K tg F H ρ σ)(L:Lent K F σ τ js ds)(x:Ext (Own (lend ρ js ds) τ) O' F H F' H')(s':Same F' H')(fin:Fin K F' H' τ ps O'):Good K tg F' H' (putB ρ js ps) σ where
 sub:=s'
 len:=by
  unfold putB;rw[List.length_mapIdx];exact G.len
 sl:=fun j s o e q=>by
  obtain⟨s0,e0,h | ⟨rfl,hn⟩⟩:=ag5 e
  ·obtain⟨t,l,rfl,i,ei,⟨l',ep,rfl⟩ | rfl⟩:=h
   ·obtain⟨a,vs,rfl,hf,hh,hl,ht⟩:=G.sl j _ _ e0 q;obtain⟨_,hf',ws,hh',hl'⟩:=fin.at' i l' ep;have:=L.h1 i j _ ei q;have et:tgOf τ i=a:=by
     unfold tgOf;rw[this]
    rw[et] at hf' hh';exact⟨a,ws,rfl,hf',hh',hl',ht⟩
   ·trivial
  ·have w:=G.sl j _ _ e0 q;cases s with
   | emp=>trivial
   | val d =>
    obtain⟨v,h1,h2⟩:=w;exact⟨v,h1,h2.mono x.sub⟩
   | box c fs =>
    obtain⟨a,C,dx,fvs,e1,e2,e3,e4,e7,e5,e6⟩:=w;have no:¬Own (lend ρ js ds) τ a:=fun⟨i,z⟩=>by
     obtain⟨j',_,v⟩:=abb G L z;obtain⟨_,vs,hv⟩:=G.ownAt ⟨j',v⟩;rw[e3] at hv;cases hv
    have hf:F' a=none:=by
     cases z:F' a with
     | none=>rfl
     | some o =>
      rcases x.new a o z with z | z | z
      ·rw[e2] at z;cases z
      ·rw[e3] at z;cases z
      ·exact absurd z no
    exact⟨a,C,dx,fvs,e1,hf,x.keep a _ e3 no,e4,e7,e5,fun f d h=>(e6 f d h).imp fun v h=>⟨h.1,h.2.mono x.sub⟩⟩
   | own t l =>
    obtain⟨a,vs,rfl,hf,hh,hl,ht⟩:=w;have no:¬Own (lend ρ js ds) τ a:=fun⟨i,z⟩=>by
     obtain⟨j',e1,v⟩:=abb G L z;have:=G.inj j' j a v ⟨⟨t,l,e0⟩,q⟩;subst this;exact hn t l rfl i e1
    refine⟨a,vs,rfl,?_,x.keep a _ hh no,hl.mono x.sub,ht⟩;cases z:F' a with
    | none=>rfl
    | some o =>
     rcases x.new a o z with z | z | z
     ·rw[hf] at z;cases z
     ·rw[hh] at z;cases z
     ·exact absurd z no
 inj:=fun i j a w w'=>G.inj i j a (ac9 w) (ac9 w')
theorem yz(G:Good K tg F H ρ σ)(L:Lent K F σ τ js ds){a:Addr}(h:Own (lend ρ js ds) τ a):Own ρ σ a:=by
 obtain⟨i,h⟩:=h;obtain⟨j,_,h⟩:=abb G L h;exact⟨j,h⟩
theorem am0(G:Good K tg F H ρ σ)(L:Lent K F σ τ js ds)(x:Ext (Own (lend ρ js ds) τ) O' F H F' H'):Ext (Own ρ σ) (Own (putB ρ js ps) σ) F H F' H' where
 sub:=x.sub
 new:=fun a o e=>by
  rcases x.new a o e with z | z | z
  ·exact .inl z
  ·exact .inr (.inl z)
  ·exact .inr (.inr (yz G L z))
 keep:=fun a o e n=>x.keep a o e fun z=>n (yz G L z)
 own:=fun a ⟨j,w⟩=>.inl ⟨j,ac9 w⟩
 there:=x.there
theorem aq5(G:Good K tg F H ρ σ)(L:Lent K F σ τ js ds)(fin:Fin K F' H' τ ps O'){a:Addr}(ha:H a=none∨Own (lend ρ js ds) τ a)(hn:¬O' a):¬Own (putB ρ js ps) σ a:=fun⟨j,w⟩=>by
 have v:=ac9 w;obtain⟨⟨t,l2,e⟩,q⟩:=w;obtain⟨s0,e0,z | ⟨rfl,hno⟩⟩:=ag5 e
 ·obtain⟨t',l',rfl,i,ei,⟨l3,ep,z⟩ | z⟩:=z
  ·have et:tgOf τ i=a:=by
    unfold tgOf;rw[L.h1 i j _ ei q]
   have:=(fin.at' i l3 ep).1;rw[et] at this;exact hn this
  ·cases z
 ·rcases ha with ha | ⟨i,z⟩
  ·obtain⟨a',vs',ea,_,e2,_⟩:=G.sl j _ _ e0 q;cases ea;rw[ha] at e2;cases e2
  ·obtain⟨j',e1,v'⟩:=abb G L z;have:=G.inj j' j a v' v;subst this;exact hno t l2 rfl i e1
theorem ate(G:Good K tg F H ρ σ)(L:Lent K F σ τ js ds)(fin:Fin K F' H' τ ps O'){r:Rv}{v:V}(h:relR K r v H (Own (lend ρ js ds) τ) F' H' O'):relR K r v H (Own ρ σ) F' H' (Own (putB ρ js ps) σ):=by
 cases r with
 | v d=>exact h
 | fr l =>
  obtain⟨a,vs,rfl,ha,hf,hh,hl,hn⟩:=h;exact⟨a,vs,rfl,ha.imp id (yz G L),hf,hh,hl,aq5 G L fin ha hn⟩
 | tf d l =>
  obtain⟨t,u,a,vs,rfl,ht,hd,ha,hf,hh,hl,hn⟩:=h;exact⟨t,u,a,vs,rfl,ht,hd,ha.imp id (yz G L),hf,hh,hl,aq5 G L fin ha hn⟩
end
abbrev Fd:=Ro->Option (Out Rv×Ro)
noncomputable def fnD(nl np:Nat)(g:Sd):Fd:=fun as=>match g (as++List.replicate (nl - np) .emp) with
 | some (.ret r,ρ)=>some (.ok r,ρ.take np)
 | some (.nx,ρ)=>some (.ok (.v .non),ρ.take np)
 | some (.exc x,ρ)=>some (.exc x,ρ.take np)
 | _=>none
def spOf(K:Fg9)(n:Nat)(f:Fd):Sp:=fun vs H Q _=>vs.length=n/\∃F as r ps,Good K (tgOf (vs.map some)) F H as (vs.map some)/\f as=some (.ok r,ps) /\
 ∀v H' F' O',Same F' H'->Ext (Own as (vs.map some)) O' F H F' H'->Fin K F' H' (vs.map some) ps O'->relR K r v H (Own as (vs.map some)) F' H' O'->Q v H'
section
variable{K:Fg9}
theorem au7{as:Ro}{τ:L2.St}{n:Nat}{a:Addr}(hl:as.length=τ.length)(h:Own (as++List.replicate n .emp) (τ++List.replicate n none) a):Own as τ a:=by
 obtain⟨i,⟨t,l,e⟩,q⟩:=h
 by_cases hi:i < as.length
 ·rw[List.getElem?_append_left hi] at e;rw[List.getElem?_append_left (by omega)] at q
  exact⟨i,⟨t,l,e⟩,q⟩
 ·rw[List.getElem?_append_right (by omega),List.getElem?_replicate] at e
  split at e <;> cases e
theorem asa{as:Ro}{τ:L2.St}{n:Nat}{a:Addr}(hl:as.length=τ.length)(h:Own as τ a):Own (as++List.replicate n .emp) (τ++List.replicate n none) a:=by
 obtain⟨i,⟨t,l,e⟩,q⟩:=h;have hi:=(List.getElem?_eq_some_iff.mp e).1;exact⟨i,⟨t,l,by rw[List.getElem?_append_left hi];exact e⟩,by rw[List.getElem?_append_left (by omega)];exact q⟩
theorem af4{as:Ro}{τ:L2.St}{n:Nat}(hl:as.length=τ.length):Own (as++List.replicate n .emp) (τ++List.replicate n none)=Own as τ:=funext fun a=>propext ⟨au7 hl,asa hl⟩
theorem Good.app{tg:Nat->Addr}{F H:Hp}{as:Ro}{τ:L2.St}(G:Good K tg F H as τ)(n:Nat):Good K tg F H (as++List.replicate n .emp) (τ++List.replicate n none) where
 sub:=G.sub
 len:=by rw[List.length_append,List.length_append,G.len,List.length_replicate,List.length_replicate]
 sl:=fun i s o e q=>by
  have hl:=G.len
  by_cases hi:i < as.length
  ·rw[List.getElem?_append_left hi] at e;rw[List.getElem?_append_left (by omega)] at q
   exact G.sl i s o e q
  ·rw[List.getElem?_append_right (by omega),List.getElem?_replicate] at e
   split at e
   ·cases e;trivial
   ·cases e
 inj:=fun i j a w w'=>by
  have hl:=G.len;have f:∀k,Owns (as++List.replicate n .emp) (τ++List.replicate n none) k a->Owns as τ k a:=fun k ⟨⟨t,l,e⟩,q⟩=>by
   by_cases hi:k < as.length
   ·rw[List.getElem?_append_left hi] at e;rw[List.getElem?_append_left (by omega)] at q
    exact⟨⟨t,l,e⟩,q⟩
   ·rw[List.getElem?_append_right (by omega),List.getElem?_replicate] at e
    split at e <;> cases e
  exact G.inj i j a (f i w) (f j w')
theorem a1s{P:Program}{w:World}{mg:Str->Option Value}{base:Heap}{x qual:Str}{st:Stmt}{f:Addr}{fd:FuncData}{N ps:List Str}{k:Nat}{g:Sd}(F:Fun K x qual st f fd)(S:FnScope N ps (ak st))
  (body:∀(cdv:Value) (A:Around) (outer:List Env) (s:Shared) (H:Hp) (E:XK),Room k (A.deeper (envOfC qual (ak st) s.heap.objs.size f cdv))->SVs K (cxOf CX0 P w K mg base N qual (ak st) f cdv A outer s H E).nox (jj st) g) :
  FnOk P w K mg base CX0 (k+1) f fd ps (spOf K ps.length (fnD N.length ps.length g)):=by
 refine F.ok S (fun vs H Q E h=>h.1) (fun cdv A outer s H vs Q E hr h=>⟨_,body cdv A outer s H E hr rfl,?_⟩)
 obtain⟨hn,F,as,r,ps',G,em,q⟩:=h;have hl:as.length=(vs.map some).length:=G.len;have G1:=G.app (N.length - vs.length);have es:start N vs=vs.map some++List.replicate (N.length - vs.length) none:=rfl;rw[es];unfold fnD at em;rw[<-hn] at em;have fin:∀{ρ':Ro} {σ':L2.St} {F' H':Hp},Good K (tgOf (vs.map some)) F' H' ρ' σ'->Fin K F' H' (vs.map some) (ρ'.take vs.length) (Own ρ' σ'):=fun{ρ' σ' F' H'} G'=>⟨fun i l e=>by
  have hi:=(List.getElem?_eq_some_iff.mp e).1;rw[List.length_take] at hi;rw[List.getElem?_take_of_lt (by omega)] at e
  obtain⟨o,ho,a,ws,rfl,hf,hh,hl,ht⟩:=G'.at e;rw[ht i rfl];exact⟨⟨i,⟨_,_,e⟩,ho⟩,hf,ws,hh,hl⟩⟩
 split at em
 ·rename_i r' ρ' e;cases em;refine⟨_,F,_,.ret r,ρ',G1,e,fun v σ' H' F' G' x' rr =>?_⟩
  rw[af4 hl] at x' rr;exact q v H' F' (Own ρ' σ') G'.sub x' (fin G') rr
 ·rename_i ρ' e;cases em;refine⟨_,F,_,.nx,ρ',G1,e,fun σ' H' F' G' x' =>?_⟩
  rw[af4 hl] at x';exact q .non H' F' (Own ρ' σ') G'.sub x' (fin G') .non
 ·cases em
 ·cases em
end
section
variable{K:Fg9}{X:Cx}{e a b c tgt iter elt:Expr}{es:List Expr}{pos p p2:Pos}
inductive AR (K:Fg9) (F:Hp) (σ:L2.St):List (Option Nat)->List (Option D)->List V->Prop
 | nil:AR K F σ [] [] []
 | ex {d:D} {v:V} {js:List (Option Nat)} {ds:List (Option D)} {vs:List V} (h:Is K F d v) (t:AR K F σ js ds vs):AR K F σ (none::js) (some d::ds) (v::vs)
 | nm {j:Nat} {v:V} {js:List (Option Nat)} {ds:List (Option D)} {vs:List V} (h:σ[j]? = some (some v)) (t:AR K F σ js ds vs):AR K F σ (some j::js) (none::ds) (v::vs)
theorem AR.lent{F:Hp}{σ:L2.St}:∀{js:List (Option Nat)} {ds:List (Option D)} {vs:List V},AR K F σ js ds vs->Lent K F σ (vs.map some) js ds
 | _,_,_,.nil=>⟨rfl,rfl,fun i j o h=>by simp at h,fun i d h=>by simp at h⟩
 | _,_,_,.ex h t=>by
  have L:=t.lent;refine⟨by simp[by simpa using L.l1],by simp[L.l2],fun i j o h q =>?_,fun i d h q =>?_⟩
  ·cases i with
   | zero=>simp at h
   | succ i=>simpa using L.h1 i j o (by simpa using h) q
  ·cases i with
   | zero=>simp at q;subst q;exact⟨_,rfl,‹_›⟩
   | succ i=>simpa using L.h2 i d (by simpa using h) (by simpa using q)
 | _,_,_,.nm h t=>by
  have L:=t.lent;refine⟨by simp[by simpa using L.l1],by simp[L.l2],fun i j o h' q =>?_,fun i d h' q =>?_⟩
  ·cases i with
   | zero =>
    simp at h';subst h';rw[h] at q;cases q;rfl
   | succ i=>simpa using L.h1 i j o (by simpa using h') q
  ·cases i with
   | zero=>simp at h'
   | succ i=>simpa using L.h2 i d (by simpa using h') (by simpa using q)
theorem AR.length{F:Hp}{σ:L2.St}{js:List (Option Nat)}{ds:List (Option D)}{vs:List V}(h:AR K F σ js ds vs):vs.length=js.length:=by
 have:=h.lent.l1
 simpa using this
def TAg(K:Fg9)(js:List (Option Nat))(m:M (List (Option D))):TA:=fun σ H Q=>∃tg F ρ ds ρ',Good K tg F H ρ σ/\m ρ=some (.ok ds,ρ')/\∀vs H' F',Good K tg F' H' ρ' σ->Ext (Own ρ σ) (Own ρ' σ) F H F' H'->AR K F' σ js ds vs->Q vs H'
structure EG (K:Fg9) (X:Cx) (es:List Expr) (js:List (Option Nat)) (m:M (List (Option D))):Prop where
 go:X.K=K->PA X es (TAg K js m)
instance {K:Fg9} {X:Cx} {es:List Expr} {js:List (Option Nat)} {m:M (List (Option D))}:CoeFun (EG K X es js m) fun _=>X.K=K->PA X es (TAg K js m):=⟨EG.go⟩
def f9:M (List (Option D)):=ret []
def bf(m:M D)(ms:M (List (Option D))):M (List (Option D)):=m.bind fun d=>ms.bind fun ds=>ret (some d::ds)
def dg(j:Nat)(ms:M (List (Option D))):M (List (Option D)):=(cu j).bind fun _=>ms.bind fun ds=>ret (none::ds)
theorem bz:EG K X [] [] f9:=EG.mk fun _=>PA.imp ain fun σ H Q z9=>by
 obtain⟨tg,F,ρ,ds,ρ',G,em,q⟩:=z9;obtain⟨rfl,rfl⟩:=jb em;exact q [] H F G (Ext.refl _ _ _) .nil
theorem eg_v{m:M D}{js:List (Option Nat)}{ms:M (List (Option D))}(h:EV K X e m)(t:EG K X es js ms)(hs:starEach (e::es) X.env=(false,eval e X.env)::starEach es X.env:=by rfl):EG K X (e::es) (none::js) (bf m ms):=EG.mk fun hk=>PA.imp (aan (h hk) (t hk) hs) fun σ H Q z9=>by
 obtain⟨tg,F,ρ,ds,ρ',G,em,q⟩:=z9;obtain⟨d,ρ1,e1,em⟩:=au em;obtain⟨r,ρ2,e2,em⟩:=au em;obtain⟨rfl,rfl⟩:=jb em;exact⟨tg,F,ρ,d,ρ1,G,e1,fun v H1 F1 G1 x1 r1=>⟨tg,F1,ρ1,r,_,G1,e2,fun vs H2 F2 G2 x2 r2=>q _ H2 F2 G2 (x1.trans x2) (.ex (r1.mono x2.sub) r2)⟩⟩
theorem eg_n{j:Nat}{js:List (Option Nat)}{ms:M (List (Option D))}(h:PE X e (tVar j))(t:EG K X es js ms)(hs:starEach (e::es) X.env=(false,eval e X.env)::starEach es X.env:=by rfl):EG K X (e::es) (some j::js) (dg j ms):=EG.mk fun hk=>PA.imp (aan h (t hk) hs) fun σ H Q z9=>by
 obtain⟨tg,F,ρ,ds,ρ',G,em,q⟩:=z9;obtain⟨d0,ρ0,e0,em⟩:=au em;obtain⟨r,ρ2,e2,em⟩:=au em;obtain⟨rfl,rfl⟩:=jb em;obtain⟨rfl,v,hv,_⟩:=vp G e0;exact⟨v,hv,tg,F,ρ0,r,_,G,e2,fun vs H2 F2 G2 x2 r2=>q _ H2 F2 G2 x2 (.nm hv r2)⟩
noncomputable def mFn(f:Fd)(js:List (Option Nat))(ms:M (List (Option D))):M Rv:=ms.bind fun ds ρ=>if okJs ρ js=true then match f (lend ρ js ds) with
  | some (.ok r,ps)=>some (.ok r,putB ρ js ps)
  | some (.exc x,ps)=>some (.exc x,putB ρ js ps)
  | none=>none
 else none
theorem ayd{f:Fd}{js:List (Option Nat)}{ms:M (List (Option D))}{ρ ρ':Ro}{r:Rv}(h:mFn f js ms ρ=some (.ok r,ρ')):∃ds ρ1 ps,ms ρ=some (.ok ds,ρ1)/\okJs ρ1 js=true/\f (lend ρ1 js ds)=some (.ok r,ps)/\ρ'=putB ρ1 js ps:=by
 obtain⟨ds,ρ1,e1,em⟩:=au h;have em:(if okJs ρ1 js=true then match f (lend ρ1 js ds) with
  | some (.ok r,ps)=>some (Out.ok r,putB ρ1 js ps)
  | some (.exc x,ps)=>some (.exc x,putB ρ1 js ps)
  | none=>none
  else none)=some (.ok r,ρ'):=em
 split at em
 ·rename_i hk;split at em
  ·rename_i r' ps e2;cases em;exact⟨ds,ρ1,ps,e1,hk,e2,rfl⟩
  ·cases em
  ·cases em
 ·cases em
theorem gm{f:Fd}{n k:Nat}{x:Str}{pn:List Str}{js:List (Option Nat)}{ms:M (List (Option D))}(F:Dfn X.prog X.w X.K X.mg X.base x pn k (spOf K n f))(hr:Room k X.A)(hg:Gl X x)(ha:EG K X (e::es) js ms)(hn:js.length=n:=by rfl)(hdb:(x==("__debug__" : Str))=false:=by decide)
  (he:starEach (e::es) X.env=(false,eval e X.env)::starEach es X.env:=by rfl) (hpl:(backTo pos (starEach es X.env)).any (·.1)=false:=by rfl):ER K X (.Call (.Name x p) (e::es) [] pos) (mFn f js ms):=ER.mk fun hk=>PE.imp (a0w F hr hg (ha hk) hdb he hpl) fun σ H Q z9=>by
 obtain⟨tg,F,ρ,r,ρ',G,em,q⟩:=z9;obtain⟨ds,ρ1,ps,e1,hj,e2,rfl⟩:=ayd em;refine⟨tg,F,ρ,ds,ρ1,G,e1,fun vs H1 F1 G1 x1 ar =>?_⟩
 have L:=ar.lent;show spOf K n f (vs++[]) H1 Q E0;rw[List.append_nil];refine⟨by rw[ar.length];exact hn,F1,_,r,ps,ai4 G1 hj L,e2,fun v H' F' O' s' x' fin rr =>?_⟩
 exact q v H' F' (aj1 G1 L x' s' fin) (x1.trans (am0 G1 L x')) (uh x1 (ate G1 L fin rr))
structure EIf (K:Fg9) (X:Cx) (ifs:List Expr) (m:M Bool):Prop where
 go:X.K=K->PIf X ifs (TB K m)
instance {K:Fg9} {X:Cx} {ifs:List Expr} {m:M Bool}:CoeFun (EIf K X ifs m) fun _=>X.K=K->PIf X ifs (TB K m):=⟨EIf.go⟩
theorem ace:EIf K X [] (ret true):=EIf.mk fun _ jv s σ H Q I z9=>by
 obtain⟨tg,F,ρ,k,ρ',G,em,q⟩:=z9;obtain⟨rfl,rfl⟩:=jb em;exact au0 jv s σ H Q I (q H F G (Ext.refl _ _ _))
theorem ahy{m:M Bool}(h:ET K X c m):EIf K X [c] m:=EIf.mk fun hk=>auz (h hk)
noncomputable def compD(b:D->Ro->Option Ro)(mc:M Bool)(me:M D):List D->List D->M (List D)
 | [],ys=>ret ys
 | d::ds,ys=>fun ρ=>match b d ρ with
  | none=>none
  | some ρ1=>(mc.bind fun k=>if k=true then me.bind fun y=>compD b mc me ds (ys++[y]) else compD b mc me ds ys) ρ1
theorem afn{b:D->Ro->Option Ro}{mc:M Bool}{me:M D}:∀{l ys yf:List D} {ρ ρ':Ro},compD b mc me l ys ρ=some (.ok yf,ρ')->ys.length<=yf.length
 | [],ys,yf,ρ,ρ',h=>by
  obtain⟨rfl,_⟩:=jb (show ret ys ρ=_ from h)
  exact Nat.le_refl _
 | d::ds,ys,yf,ρ,ρ',h=>by
  unfold compD at h;split at h
  ·cases h
  ·obtain⟨k,ρ2,e2,h⟩:=au h;split at h
   ·obtain⟨y,ρ3,e3,h⟩:=au h;have:=afn h;rw[List.length_append] at this;omega
   ·exact afn h
def aap(src:List (Option Nat))(mi:M (List D))(b:D->Ro->Option Ro)(mc:M Bool)(me:M D):M Rv:=mi.bind fun l ρ=>if okJs ρ src=true then match compD b mc me l [] (lend ρ src (src.map fun _=>none)) with
  | some (.ok ys,ps)=>if ys.length<=capS then some (.ok (.fr ys),putB ρ src ps) else none
  | some (.exc x,ps)=>some (.exc x,putB ρ src ps)
  | none=>none
 else none
theorem asm{src:List (Option Nat)}{mi:M (List D)}{b:D->Ro->Option Ro}{mc:M Bool}{me:M D}{ρ ρ':Ro}{r:Rv}(h:aap src mi b mc me ρ=some (.ok r,ρ')):∃l ρ1 ys ps,mi ρ=some (.ok l,ρ1)/\okJs ρ1 src=true/\compD b mc me l [] (lend ρ1 src (src.map fun _=>none))=some (.ok ys,ps)/\ys.length<=capS/\r=.fr ys/\ρ'=putB ρ1 src ps:=by
 obtain⟨l,ρ1,e1,em⟩:=au h;have em:(if okJs ρ1 src=true then match compD b mc me l [] (lend ρ1 src (src.map fun _=>none)) with
  | some (.ok ys,ps)=>if ys.length<=capS then some (Out.ok (Rv.fr ys),putB ρ1 src ps) else none
  | some (.exc x,ps)=>some (.exc x,putB ρ1 src ps)
  | none=>none
  else none)=some (.ok r,ρ'):=em
 split at em
 ·rename_i hk;split at em
  ·rename_i ys ps e2;split at em
   ·rename_i hz;cases em;exact⟨l,ρ1,ys,ps,e1,hk,e2,hz,rfl,rfl⟩
   ·cases em
  ·cases em
  ·cases em
 ·cases em
theorem ao8{F:Hp}{σ:L2.St}(src:List (Option Nat)):Lent K F σ (pick src σ) src (src.map fun _=>none):=by
 refine⟨by simp[pick],by simp,fun i j o h q =>?_,fun i d h q =>?_⟩
 ·unfold pick;rw[List.getElem?_map,h];show some ((σ[j]?).bind id)=some o;rw[q];rfl
 ·rw[List.getElem?_map,h] at q;cases q
theorem Ext.upd{O O':Addr->Prop}{F H F' H':Hp}{d:Addr}{o:HO}(x:Ext O O' F H F' H')(h:H d=none):Ext O O' F H F' (upd H' d o) :=
 ⟨x.sub,x.new,fun a u e n=>by rw[bj (fu e h)];exact x.keep a u e n,x.own,fun a e=>by
  by_cases ha:a=d
  ·subst ha;exact h
  ·rw[bj ha] at e;exact x.there a e⟩
theorem Good.upd{tg:Nat->Addr}{F H:Hp}{ρ:Ro}{σ:L2.St}{d:Addr}(G:Good K tg F H ρ σ)(hf:F d=none)(hn:¬Own ρ σ d)(o:HO)(hi:∀C dx fs,H d≠some (.ins C dx fs)):Good K tg F (upd H d o) ρ σ :=
 G.grow (Same.refl F) (fun b u e=>by
  have hb:b≠d:=fun z=>by
   subst z;rw[hf] at e;cases e
  rw[bj hb];exact G.sub b u e) (fun a w=>⟨(G.ownAt w).1,by
  have hb:a≠d:=fun z=>hn (z▸w)
  rw[bj hb]⟩) fun a C dx fvs h1 h2=>⟨h1,by
  have hb:a≠d:=fun z=>hi C dx fvs (z▸h2)
  rw[bj hb]⟩
theorem amx{mi:M (List D)}{bb:D->Ro->Option Ro}{mc:M Bool}{me:M D}{src:List (Option Nat)}(σ:L2.St)(H:Hp)(Q:VK)(t:T K (relR K) (aap src mi bb mc me) σ H Q):auk (TIt K mi) (TGd K bb) (TB K mc) (T K (relD K) me) src σ H Q:=by
 obtain⟨tg,F,ρ,r,ρ',G,em,q⟩:=t;obtain⟨l,ρ1,yf,ps,e1,hj,e2,hz,rfl,rfl⟩:=asm em;refine⟨tg,F,ρ,l,ρ1,G,e1,fun J H1 F1 G1 x1 Z dd hd =>?_⟩
 have L:Lent K F1 σ (pick src σ) src (src.map fun _=>none):=ao8 src
 have Gl:=ai4 G1 hj L;have own0:¬Own (lend ρ1 src (src.map fun _=>none)) (pick src σ) dd:=fun z=>Gl.own_ne hd z rfl
 refine as8 Z (fun i ys σc Hc=>∃Fc ρc yd,Good K (tgOf (pick src σ)) Fc Hc ρc σc/\Ext (Own (lend ρ1 src (src.map fun _=>none)) (pick src σ)) (Own ρc σc) F1 H1 Fc Hc/\Fc dd=none/\¬Own ρc σc dd/\Hc dd=some (.lst ys)/\IsL K Fc yd ys/\compD bb mc me (l.drop i) yd ρc=some (.ok yf,ps))
  ⟨F1,_,[],Gl.upd (G1.freeF hd) own0 _ (fun _ _ _ z=>by rw[hd] at z;cases z),(Ext.refl _ _ _).upd hd,G1.freeF hd,own0,fj,.nil,e2⟩ ?_ ?_ ?_
 ·rintro i ys σc Hc _ ⟨Fc,ρc,yd,Gc,xc,_,_,hdd,_,_⟩
  exact⟨xc.sub.trans Gc.sub,hdd⟩
 ·rintro i d x ys σc Hc0 Hc M hdl ⟨Fc0,ρc,yd,Gc0,xc0,fd0,od0,hdd0,iy0,ec⟩ al hM
  obtain⟨Fc,Gc,xc,_,idl,xa⟩:=am4 Gc0 xc0 xc0.sub al;have iy:=iy0.mono xa.sub;have hlt:i < l.length:=(List.getElem?_eq_some_iff.mp hdl).1;have edl:l[i]=d:=(List.getElem?_eq_some_iff.mp hdl).2;rw[List.drop_eq_getElem_cons hlt,edl] at ec;unfold compD at ec;have step:∀{F2 H2:Hp} {ρ2 ρ3:Ro} {σ2 σ3:L2.St} {F3 H3:Hp},F2 dd=none->¬Own ρ2 σ2 dd->H2 dd=some (.lst ys)->Ext (Own ρ2 σ2) (Own ρ3 σ3) F2 H2 F3 H3->F3 dd=none/\¬Own ρ3 σ3 dd/\H3 dd=some (.lst ys):=fun{F2 H2 ρ2 ρ3 σ2 σ3 F3 H3} h1 h2 h3 x3=>by
   refine⟨?_,fun z =>?_,x3.keep _ _ h3 h2⟩
   ·cases z:F3 dd with
    | none=>rfl
    | some o =>
     rcases x3.new _ _ z with z | z | z
     ·rw[h1] at z;cases z
     ·rw[h3] at z;cases z
     ·exact absurd z h2
   ·rcases x3.own _ z with z | z
    ·exact h2 z
    ·rw[h3] at z;cases z
  obtain⟨fd,od,hdd⟩:=step fd0 od0 hdd0 xa;split at ec
  ·cases ec
  ·rename_i ρ2 eb;refine⟨_,Fc,ρc,d,ρ2,Gc,idl,eb,fun σ2 H2 F2 G2 x2 =>?_⟩
   obtain⟨k,ρ3,ek,ec⟩:=au ec;obtain⟨fd2,od2,hdd2⟩:=step fd od hdd x2;refine⟨_,F2,ρ2,k,ρ3,G2,ek,fun H3 F3 G3 x3 =>?_⟩
   obtain⟨fd3,od3,hdd3⟩:=step fd2 od2 hdd2 x3;cases k with
   | false =>
    refine iteF (hM _ _ _ ⟨F3,ρ3,yd,G3,(xc.trans x2).trans x3,fd3,od3,hdd3,(iy.mono x2.sub).mono x3.sub,ec⟩)
   | true =>
    obtain⟨y,ρ4,ey,ec⟩:=au ec;refine iteT ⟨_,F3,ρ3,y,ρ4,G3,ey,fun v H4 F4 G4 x4 iv =>?_⟩
    obtain⟨fd4,od4,hdd4⟩:=step fd3 od3 hdd3 x4;refine⟨hdd4,?_,hM _ _ _ ⟨F4,ρ4,yd++[y],G4.upd fd4 od4 _ (fun _ _ _ z=>by rw[hdd4] at z;cases z),(((xc.trans x2).trans x3).trans x4).upd hd,fd4,od4,fj,?_,ec⟩⟩
    ·have:=afn ec;rw[List.length_append,iy.length] at this;rw[sizeLine_eq];exact Nat.lt_of_lt_of_le (by simpa using Nat.lt_succ_self ys.length) (Nat.le_trans this hz)
    ·exact(((iy.mono x2.sub).mono x3.sub).mono x4.sub).append (.cons iv .nil)
 ·rintro ys σc Hc ⟨Fc,ρc,yd,Gc,xc,fd,od,hdd,iy,ec⟩
  rw[List.drop_eq_nil_of_le (Nat.le_refl _)] at ec;obtain⟨rfl,rfl⟩:=jb (show ret yd ρc=_ from ec)
  have fin:Fin K Fc Hc (pick src σ) ps (Own ps σc):=⟨fun i l' e=>by
   obtain⟨o,ho,a,ws,rfl,hf,hh,hl,ht⟩:=Gc.at e;rw[ht i rfl];exact⟨⟨i,⟨_,_,e⟩,ho⟩,hf,ws,hh,hl⟩⟩
  refine q _ Hc Fc (aj1 G1 L xc Gc.sub fin) (x1.trans (am0 G1 L xc)) ⟨dd,ys,rfl,.inl (x1.there dd hd),fd,hdd,iy,fun⟨j,w⟩ =>?_⟩
  exact G1.own_ne hd ⟨j,ac9 w⟩ rfl
theorem zg{ifs:List Expr}{scope:Scope}{mi:M (List D)}{bb:D->Ro->Option Ro}{mc:M Bool}{me:M D}(fr N:List Str)(src:List (Option Nat))(hc:X.calm=true)(hi:IT K X tgt iter mi)
  (hg:∀fp s H,GV K (cxC X N scope fr fp s H) tgt bb) (ht:∀fp s H,EIf K (cxC X N scope fr fp s H) ifs mc) (he:∀fp s H,EV K (cxC X N scope fr fp s H) elt me)
  (hok:agm X.env X.N scope fr N src=true:=by rfl) (hkind:scope.kind=.function:=by rfl) (hclos:closureFor scope X.env=pure (yl X.env fr):=by rfl)
  (hs:∀x,foldedSetIterable iter X.env x=pure x:=by intro _;rfl):ER K X (.ListComp elt [⟨tgt,iter,ifs,0⟩] scope pos) (aap src mi bb mc me):=ER.mk fun hk=>by
 have hkc:∀fp s H,(cxC X N scope fr fp s H).K=K:=fun _ _ _=>hk
 refine PE.imp (au2 fr N src hc (hi hk) (fun fp s H=>(hg fp s H).go (hkc _ _ _)) (fun fp s H=>(ht fp s H).go (hkc _ _ _)) (fun fp s H=>(he fp s H).go (hkc _ _ _)) hok hkind hclos hs) amx
end
end Dn
namespace Mn
open L2
theorem auv{X:Cx}{tg iter elt:Expr}{ifs:List Expr}{scope:Scope}{cpos pos px:Pos}{wi:TI}{g:TG}{ti:TT}{te:TE}{i:Nat}{x:Str}(fr N:List Str)(src:List (Option Nat))(hN:X.N.Nodup)(hxi:X.N[i]? = some x)(hx:Loc X.env.scope x)(hc:X.calm=true)(hi:PI X tg iter wi)
  (hg:∀fp s H,PG (cxC X N scope fr fp s H) tg g) (ht:∀fp s H,PIf (cxC X N scope fr fp s H) ifs ti) (he:∀fp s H,PE (cxC X N scope fr fp s H) elt te)
  (hsw:swapsWith (.ListComp elt [⟨tg,iter,ifs,0⟩] scope cpos) (some (.Name x px)) pos.line X.env=pure true:=by rfl)
  (hok:agm X.env X.N scope fr N src=true:=by rfl) (hkind:scope.kind=.function:=by rfl) (hclos:closureFor scope X.env=pure (yl X.env fr):=by rfl)
  (hs:∀x,foldedSetIterable iter X.env x=pure x:=by intro _;rfl) (hf:X.fn x=true∨X.env.scope.names.lookup x=some .local:=by first | exact .inl rfl | exact .inr rfl | assumption) :
  PS X (.Assign [.Name x px] (.ListComp elt [⟨tg,iter,ifs,0⟩] scope cpos) pos) (tAsg (auk wi g ti te src) (avx i)):=by
 have C:=CompOk.of hok;intro jv s σ H D I h;rw[exec_Assign_Name_used _ _ _ _ hsw];refine wpAny_bind (wpAny_standAt (wpAny_bind ?_));show wpAny _ _ (comprehension (.ListComp elt [⟨tg,iter,ifs,0⟩] scope cpos) scope X.env (firstIterPos [⟨tg,iter,ifs,0⟩] cpos) (newList []) (firstAsync [⟨tg,iter,ifs,0⟩]) (firstIter [⟨tg,iter,ifs,0⟩] X.env) (some (assign (.Name x px) X.env)) >>= fun _=>pure ()) _ _ _
 refine wpAny_bind (wpAny_comprehension_free (use:=some (assign (.Name x px) X.env)) (Q:=fun _ s'=>wpAny (model X.prog X.w) X.A (pure ()) (fun _ s''=>wpAny (model X.prog X.w) X.A (pure Flow.next) (SP X jv D) X.xe s'') X.xe s') rfl hs hclos hkind C.loc (wpAny_mono (hi jv s σ H _ I h) (fun v s1 h1=>wpAny_mono h1 (fun itv s2 h2 =>?_) fun _ _ e=>e) fun _ _ e=>e))
 obtain⟨it,fp,tn,J,H2,e,I2,T,st2,f2,q2⟩:=h2;subst e;have hd0:H2 s2.heap.objs.size=none:=I2.hok.fresh (Nat.le_refl _);obtain⟨W,⟨m0,w0⟩,turn⟩:=q2 s2.heap.objs.size hd0;refine wpAny_newObj_type ?_;generalize hs3:({ s2 with heap:=s2.heap.push { cls:=.type "list", dict:=none,data:=.seq ([]:List Value).toArray } }:Shared)=s3
 have keep2:∀b o,s2.heap.get? b=some o->s3.heap.get? b=some o:=fun b o e=>by rw[<-hs3];exact Heap.get?_push_of_some _ e
 have I3:Inv X jv σ (upd H2 s2.heap.objs.size (.lst [])) s3:=by
  rw[<-hs3];exact I2.laid (t':=s2.toks) (fun b u q=>Heap.get?_push_of_some _ q) (Nat.le_refl _) ⟨Nat.zero_le _,[],0,.nil,Heap.get?_push_size _ rfl⟩
 have ne0:∀b∈fp,b≠s2.heap.objs.size:=fun b hb=>by
  obtain⟨o,e,_⟩:=T.obj _ _ st2 b hb;exact Nat.ne_of_lt (Heap.lt_size e)
 have f3:∀b∈fp,FpOk X jv (upd H2 s2.heap.objs.size (.lst [])) b:=fun b hb=>⟨by rw[bj (ne0 b hb)];exact(f2 b hb).1,(f2 b hb).2⟩
 have lt3:∀b∈fp,b < s3.heap.objs.size:=fun b hb=>by
  obtain⟨o,e,_⟩:=T.obj _ _ st2 b hb;exact Heap.lt_size (keep2 b o e)
 refine wpAny_newFunctionEnv C.cell (by intro y hy;simp at hy) (fun h₁ hns₁ hsb₁ =>?_) hkind
 have keep3:∀b o,s3.heap.get? b=some o->h₁.get? b=some o:=fun b o e=>hsb₁.extBut b o (Nat.ne_of_lt (Heap.lt_size e)) (Heap.get?_push_of_some _ e)
 have st4:tn 0 h₁:=T.keep _ _ _ st2 fun b hb o e=>keep3 b o (keep2 b o e)
 have I4:=amo (tk:=s3.toks+([]:List (Str×Value)).length) I3 C hkind f3 lt3 hns₁ keep3;have loop:=ajr (X:=cxC X N scope fr fp s3 (upd H2 s2.heap.objs.size (.lst []))) (iter:=iter) (scope:=scope) (pos:=cpos) (d:=s2.heap.objs.size) (Q:=fun v H1=>D.nx (σ.set i (some v)) H1)
  (R:=compPost (model X.prog X.w) X.A X.xe (some (assign (.Name x px) X.env)) (fun _ s'=>wpAny (model X.prog X.w) X.A (pure ()) (fun _ s''=>wpAny (model X.prog X.w) X.A (pure Flow.next) (SP X jv D) X.xe s'') X.xe s') (.ref s2.heap.objs.size) s3.heap.objs.size) hc rfl T
  (fun H' hn b hb=>⟨hn b hb,Nat.ne_of_lt (lt3 b hb),I4.ok.exfs b hb,.inl hb,(I4.ok.exf b hb).2,fun p hp=>absurd (show p∈([]:List (Addr×Obj)) from hp) (by simp)⟩)
  (hg fp s3 _) (ht fp s3 _) (he fp s3 _) turn w0 I4 st4 (fun b hb=>(f3 b hb).1) (fun σ' H' s' I6 qn=>by
   obtain⟨m6,hn6,_⟩:=I6.loc;have fC:FpOk X jv H' s3.heap.objs.size:=I3.fpOk (Nat.le_refl _) I6.free;have I7:Inv X jv σ H' s':=amq I3 f3 I6 (Heap.SameBut.refl ..);refine wpAny_assign_Name (ah5 I7 hN hxi hx (v:=.ref s2.heap.objs.size) rfl (fun s8 I8 ⟨a,sb,ha⟩ =>?_) hf)
   have hne:s3.heap.objs.size≠a:=by
    rcases ha with rfl | ha
    ·exact fC.2.1
    ·exact(fC.2.2.2.2.1 x a ha).symm
   obtain⟨o6,es6,ep6,g6,r6⟩:=hn6;refine⟨m6,⟨o6,es6,ep6,(sb.2 _ hne).trans g6,r6⟩,fun h9 sb9=>wpAny_pure (wpAny_pure ⟨_,H',?_,qn⟩)⟩
   exact I8.turned (t':=s8.toks) (it:=s3.heap.objs.size) (fun b o hb e=>(sb9.2 b hb).trans e) fC.1 fC.2.1 fC.2.2.2.1 fC.2.2.2.2.1 fC.2.2.2.2.2)
 exact codeAny_compStart_list loop (T.self _ 0 _ _ _ st4 loop)
end Mn
namespace Dn
open L2 Mn
section
variable{K:Fg9}{X:Cx}{tgt iter elt:Expr}{pos p:Pos}
theorem aon{i:Nat}{x:Str}{ifs:List Expr}{scope:Scope}{cpos:Pos}{mi:M (List D)}{bb:D->Ro->Option Ro}{mc:M Bool}{me:M D}(fr N:List Str)(src:List (Option Nat))(hN:X.N.Nodup)(hxi:X.N[i]? = some x)(hx:Loc X.env.scope x)(hc:X.calm=true)(hi:IT K X tgt iter mi)
  (hg:∀fp s H,GV K (cxC X N scope fr fp s H) tgt bb) (ht:∀fp s H,EIf K (cxC X N scope fr fp s H) ifs mc) (he:∀fp s H,EV K (cxC X N scope fr fp s H) elt me)
  (hsw:swapsWith (.ListComp elt [⟨tgt,iter,ifs,0⟩] scope cpos) (some (.Name x p)) pos.line X.env=pure true:=by rfl)
  (hok:agm X.env X.N scope fr N src=true:=by rfl) (hkind:scope.kind=.function:=by rfl) (hclos:closureFor scope X.env=pure (yl X.env fr):=by rfl)
  (hs:∀x,foldedSetIterable iter X.env x=pure x:=by intro _;rfl) (hf:X.fn x=true∨X.env.scope.names.lookup x=some .local:=by first | exact .inl rfl | exact .inr rfl | assumption) :
  SV K X (.Assign [.Name x p] (.ListComp elt [⟨tgt,iter,ifs,0⟩] scope cpos) pos) (dSet i (aap src mi bb mc me)):=SV.mk fun hk=>by
 have hkc:∀fp s H,(cxC X N scope fr fp s H).K=K:=fun _ _ _=>hk
 refine PS.imp (auv fr N src hN hxi hx hc (hi hk) (fun fp s H=>(hg fp s H).go (hkc _ _ _)) (fun fp s H=>(ht fp s H).go (hkc _ _ _)) (fun fp s H=>(he fp s H).go (hkc _ _ _)) hsw hok hkind hclos hs hf) fun E σ H ⟨tg,F,ρ,fl,ρ',G,em,q⟩=>abn em q fun r ρ1 e1 em =>?_
 cases em;refine amx σ H _ ⟨tg,F,ρ,r,ρ1,G,e1,fun v H' F' G' x rr =>?_⟩
 obtain⟨G2,x2⟩:=G'.store x i rr;exact q _ H' F' G2 x2
end
@[irreducible] def fuel:Nat:=1000000000
section
variable{K:Fg9}{X:Cx}{e a b c:Expr}{es:List Expr}{pos p p2:Pos}
def isN:D->Bool
 | .non=>true
 | _=>false
def mIsN(neg:Bool)(m:M D):M D:=m.bind fun d=>ret (.bl (if neg then !isN d else isN d))
theorem awb{F H:Hp}{d:D}{x:V}(h:Bor K F H d x):decide (x=.non)=isN d:=by
 rcases h with h | ⟨a,vs,l',rfl,rfl,_⟩
 ·cases h <;> first | rfl | (simp[isN])
 ·simp[isN]
theorem apt{neg:Bool}{m:M D}{t:TE->TE}(ht:∀te σ H Q,t te σ H Q=te σ H fun x H1=>Q (.bl (if neg then !decide (x=.non) else decide (x=.non))) H1)(σ:L2.St)(H:Hp)(Q:VK)(h:T K (relD K) (mIsN neg m) σ H Q):t (T K (relB K) m) σ H Q:=by
 rw[ht];obtain⟨tg,F,ρ,d,ρ',G,em,q⟩:=h;obtain⟨d1,ρ1,e1,em⟩:=au em;obtain⟨rfl,rfl⟩:=jb em;refine⟨tg,F,ρ,d1,_,G,e1,fun v H' F' G' x r =>?_⟩
 show Q (.bl (if neg then !decide (v=.non) else decide (v=.non))) H'
 rw[awb r];exact q _ H' F' G' x (.bl _)
theorem aqb{j:Nat}{m:M D}(h:EB K X a m):EV K X (.Compare a [.Is] [.Constant .none j p] p2) (mIsN false m):=EV.mk fun hk=>PE.imp (axr (atu (h hk))) (apt (t:=tIsN) fun _ _ _ _=>rfl)
theorem aml{neg:Bool}{m:M D}{t:TE->TE}(ht:∀te σ H Q,t te σ H Q=te σ H fun x H1=>Q (.bl (if neg then !decide (x=.non) else decide (x=.non))) H1)(σ:L2.St)(H:Hp)(Q:Bool->Hp->Prop)(h:TB K (uz (mIsN neg m)) σ H Q):tB (t (T K (relB K) m)) σ H Q:=by
 obtain⟨tg,F,ρ,k,ρ',G,em,q⟩:=h;obtain⟨d1,ρ1,e1,em⟩:=au em;obtain⟨e3,rfl⟩:=gw em;obtain rfl:=am3 e3;refine apt ht σ H _ ⟨tg,F,ρ,_,_,G,e1,fun v H' F' G' x r =>?_⟩
 cases r;exact⟨k,rfl,q H' F' G' x⟩
theorem ajo{j:Nat}{m:M D}(h:EB K X a m):ET K X (.Compare a [.Is] [.Constant .none j p] p2) (uz (mIsN false m)):=ET.mk fun hk=>PT.imp (atp (atu (h hk))) (aml (t:=tIsN) fun _ _ _ _=>rfl)
theorem agk{j:Nat}{m:M D}(h:EB K X a m):ET K X (.Compare a [.IsNot] [.Constant .none j p] p2) (uz (mIsN true m)):=ET.mk fun hk=>PT.imp (atp (au6 (h hk))) (aml (t:=awq) fun _ _ _ _=>rfl)
end
def alm(f:Fd):Prop:=∀ns:List Int,ns.length<=63->∃ps,f [.val (.kst (ns.map D.int))]=some (.ok (.v (.bl true)),ps)
theorem aww{K:Fg9}{f:Fd}(h:alm f)(H:Hp)(a:Addr)(ns:List Int)(hn:ns.length<=63)(hS:SqL K H a (ns.map V.int)):spOf K 1 f [.ref a] H (fun v _=>v=.bl true) fun _ _ _=>False:=by
 obtain⟨ps,e⟩:=h ns hn;refine⟨rfl,H,_,_,ps,⟨Same.refl H,rfl,fun i s o e1 e2 =>?_,fun i j b ⟨⟨t,l,e1⟩,_⟩ _=>by cases i <;> simp at e1⟩,e,fun v H' F' O' _ _ _ rr =>?_⟩
 ·cases i with
  | zero =>
   simp at e1 e2;subst e1 e2;exact⟨_,rfl,.kst hS (abe ns)⟩
  | succ i=>simp at e1
 ·have rr:Is K F' (.bl true) v:=rr;cases rr;rfl
theorem walk{l:PySem.W.OpenLaw}{q:Program}{loose:List Str}{XP:(Str->Option Value)->Heap->Prop}{YP:World->Heap->Prop}{d:DefRec}{K:Params->Fg9}{f:Fd}{k:Nat}(ht:alm f)(hn:l.most=some 63)(hdf:d.params.defaults=[])(hr:Room k callerA)
  (hY:∀(w:World) (h:Heap),YP w h->(K w.params).In h)
  (F:∀(w:World) (mg:Str->Option Value) (fa:Addr) (h:Heap),(K w.params).In h->h.Ns mainGlobals mg->mg d.name=some (.ref fa) ->
   ∃fd:FuncData,(∀(s:Shared) (u:Value),BindsTo s fd ⟨[u],[]⟩ [("script", u)])/\∀base:Heap,(K w.params).In base->base.Ns mainGlobals mg->FnOk l.prog w (K w.params) mg base CX0 k fa fd ["script"] (spOf (K w.params) 1 f)) :
  PySem.W.WalkO q loose XP YP l.row.toRowW d [] (fun f vs=>PySem.call f vs) :=
 L2.auc (n:=63) (k:=k) (x := "script") (CX:=fun _=>CX0) (sp:=fun w=>spOf (K w.params) 1 f) hn (by decide) hdf hr hY F (fun _ H a ns hl _ hS=>aww ht H a ns hl hS) fun _ _ _ _ _ z=>z
section
variable{α β:Type}(ρ:Ro)
@[simp] theorem a2n(a:α):ret a ρ=some (.ok a,ρ):=rfl
@[simp] theorem a1c(o:Option α):lift o ρ=match o with
 | some a=>some (.ok a,ρ)
 | none=>none:=rfl
@[simp] theorem awd(m:M α)(k:α->M β):M.bind m k ρ=match m ρ with
 | some (.ok a,ρ1)=>k a ρ1
 | some (.exc x,ρ1)=>some (.exc x,ρ1)
 | none=>none:=rfl
@[simp] theorem v_ap(m:M D):M.v m ρ=(m.bind fun d=>ret (.v d)) ρ:=rfl
@[simp] theorem d_ap(m:M Rv):M.d m ρ=(m.bind fun r=>ret r.d) ρ:=rfl
@[simp] theorem a3c(d:D):(Rv.v d).d=d:=rfl
@[simp] theorem a2m(l:List D):(Rv.fr l).d=.lst l:=rfl
@[simp] theorem a2l(d:D)(l:List D):(Rv.tf d l).d=.tup [d,.lst l]:=rfl
@[simp] theorem a3b(d:D):(Rv.v d).sl=.val d:=rfl
@[simp] theorem a2k(l:List D):(Rv.fr l).sl=.own none l:=rfl
@[simp] theorem a01(i:Nat):mVar i ρ=match ρ[i]? with
 | some (.val d)=>some (.ok d,ρ)
 | some (.own none l)=>some (.ok (.lst l),ρ.set i (.val (.lst l)))
 | _=>none:=rfl
@[simp] theorem azl(i:Nat):cu i ρ=match ρ[i]? with
 | some (.val d)=>some (.ok d,ρ)
 | some (.own _ l)=>some (.ok (.lst l),ρ)
 | _=>none:=rfl
@[simp] theorem azq(i:Nat):aku i ρ=match ρ[i]? with
 | some (.val d)=>some (.ok (.v d),ρ)
 | some (.own none l)=>some (.ok (.fr l),ρ.set i .emp)
 | _=>none:=rfl
@[simp] theorem a03(i:Nat):mOwn i ρ=match ρ[i]? with
 | some (.own _ l)=>some (.ok l,ρ)
 | _=>none:=rfl
@[simp] theorem ax8(i:Nat)(l':List D):ae2 i l' ρ=match ρ[i]? with
 | some (.own t _)=>some (.ok (),List.set ρ i (.own t l'))
 | _=>none:=rfl
@[simp] theorem azo(m1 m2:M D):iu m1 m2 ρ=(m1.bind fun x=>m2.bind fun y=>ret (x,y)) ρ:=rfl
@[simp] theorem ax9(i:Nat)(m2:M D):bh i m2 ρ=((cu i).bind fun _=>m2.bind fun y=>(cu i).bind fun x=>ret (x,y)) ρ:=rfl
@[simp] theorem a2p(g:D->D->Option Rv)(m:M (D×D)):mOp g m ρ=(m.bind fun p=>lift (g p.1 p.2)) ρ:=rfl
@[simp] theorem a2o(g:D->Option D)(m:M D):mUn g m ρ=(m.bind fun d=>lift (g d)) ρ:=rfl
@[simp] theorem a1b(m1 m2:M D):mAnd m1 m2 ρ=(m1.bind fun d=>(lift (asB d)).bind fun k=>if k=true then m2 else ret (.bl false)) ρ:=rfl
@[simp] theorem azm(m:M D):uz m ρ=(m.bind fun d=>lift (asB d)) ρ:=rfl
@[simp] theorem ax7(g:D->D->Option Rv)(m:M (D×D)):g8 g m ρ=uz (mOp g m).d ρ:=rfl
@[simp] theorem azp(m:M Bool):aea m ρ=(m.bind fun k=>ret (!k)) ρ:=rfl
@[simp] theorem azw(m1 m2:M Bool):ai3 m1 m2 ρ=(m1.bind fun k=>if k=true then m2 else ret false) ρ:=rfl
@[simp] theorem a04(m1 m2:M Bool):mOrB m1 m2 ρ=(m1.bind fun k=>if k=true then ret true else m2) ρ:=rfl
@[simp] theorem a2q(m:M Bool)(m1 m2:M α):mIf m m1 m2 ρ=(m.bind fun k=>if k=true then m1 else m2) ρ:=rfl
@[simp] theorem a2s(c:Prop)[Decidable c](m1 m2:M α):(if c then m1 else m2) ρ=if c then m1 ρ else m2 ρ:=by split <;> rfl
@[simp] theorem a1i(c:Prop)[Decidable c](m1 m2:Sd):(if c then m1 else m2) ρ=if c then m1 ρ else m2 ρ:=by split <;> rfl
@[simp] theorem a3a(b:Bool):asB (.bl b)=some b:=rfl
@[simp] theorem a2j(b:Int):asI (.int b)=some b:=rfl
@[simp] theorem a1n(b:Bool):gNot (.bl b)=some (.bl (!b)):=rfl
@[simp] theorem azy(b:Int):gNeg (.int b)=some (.int (-b)):=rfl
@[simp] theorem a0b(i j:Int):gAdd (.int i) (.int j)=some (.v (.int (i+j))):=rfl
@[simp] theorem az9(l k:List D):gAdd (.tup l) (.tup k)=if l.length+k.length<=capS then some (.v (.tup (l++k))) else none:=rfl
@[simp] theorem a0a(l k:List D):gAdd (.lst l) (.lst k)=if l.length+k.length<=capS then some (.fr (l++k)) else none:=rfl
@[simp] theorem az2(f:Int->Int->Option Int)(i j:Int):gInt f (.int i) (.int j)=(f i j).map fun k=>.v (.int k):=rfl
@[simp] theorem a1v(i j:Int):fSub i j=some (i - j):=rfl
@[simp] theorem az1(i j:Int):gMul (.int i) (.int j)=(fMul i j).map fun k=>.v (.int k):=rfl
@[simp] theorem azz(l:List D)(k:Int):gMul (.tup l) (.int k)=if k=1 then some (.v (.tup l)) else if l≠[]/\2<=k/\k < 9223372036854775808/\l.length*k.toNat<=capS then some (.v (.tup (List.replicate k.toNat l).flatten)) else none:=rfl
@[simp] theorem az0(l:List D)(k:Int):gMul (.lst l) (.int k)=if k.natAbs < 9223372036854775808/\l.length*k.toNat<=capS then some (.fr (List.replicate k.toNat l).flatten) else none:=rfl
@[simp] theorem az7(f:Int->Int->Bool)(i j:Int):gCmp f (.int i) (.int j)=some (.v (.bl (f i j))):=rfl
@[simp] theorem a08(t:Ty)(m:M D):mIsi t m ρ=(m.bind fun d=>ret (.bl (isTy t d))) ρ:=rfl
@[simp] theorem ayf(f g:Int->Int->Bool)(m1 m2 m3:M D):ai2 f g m1 m2 m3 ρ=(m1.bind fun x=>m2.bind fun y=>match x,y with
 | .int i,.int j=>if f i j=true then m3.bind fun z=>match z with
  | .int k=>ret (.bl (g j k))
  | _=>lift none
  else ret (.bl false)
 | _,_=>lift none) ρ:=rfl
@[simp] theorem a05:mNil ρ=some (.ok [],ρ):=rfl
@[simp] theorem azu(m:M D)(ms:M (List D)):bw m ms ρ=(m.bind fun d=>ms.bind fun ds=>ret (d::ds)) ρ:=rfl
@[simp] theorem aye(i:Nat)(ms:M (List D)):dw i ms ρ=((cu i).bind fun _=>ms.bind fun ds=>(cu i).bind fun d=>ret (d::ds)) ρ:=rfl
@[simp] theorem a02(m:M (List D)):mTup m ρ=(m.bind fun ds=>lift (gTup ds)) ρ:=rfl
@[simp] theorem a07(m:M (List D)):mLst m ρ=(m.bind fun ds=>lift (gLst ds)) ρ:=rfl
@[simp] theorem azv(g:List D->Option Rv)(m:M (List D)):gb g m ρ=(m.bind fun ds=>lift (g ds)) ρ:=rfl
@[simp] theorem a2v(f:D->Option Rv)(d:D):g1 f [d]=f d:=rfl
@[simp] theorem a2u(f:D->D->Option Rv)(d d':D):g2 f [d,d']=f d d':=rfl
@[simp] theorem ayt(l:List D):itemsD (.tup l)=some l:=rfl
@[simp] theorem ayu(l:List D):itemsD (.lst l)=some l:=rfl
@[simp] theorem ayv(l:List D):itemsD (.kst l)=some l:=rfl
@[simp] theorem az8(l:List D):gAll (.lst l)=(vm l).map fun bs=>.v (.bl (bs.all id)):=rfl
@[simp] theorem ayz(i:Int):as3 (.int i)=some (.v (.int i)):=rfl
@[simp] theorem az3(i:Bool):as3 (.bl i)=some (.v (.int (if i then 1 else 0))):=rfl
@[simp] theorem a1p(d:D)(k:Int):gIx d (.int k)=(itemsD d).bind fun l=>(atI l k).map fun x=>.v x:=rfl
@[simp] theorem azt(i:Nat)(ml mh:M (Option Int)):apk i ml mh ρ=((cu i).bind fun _=>ml.bind fun lo=>mh.bind fun hi=>(cu i).bind fun d=>lift (gCut d lo hi)) ρ:=rfl
@[simp] theorem azn(m:M D):anx m ρ=(m.bind fun d=>lift ((asI d).map some)) ρ:=rfl
@[simp] theorem az4(l:List D)(lo hi:Option Int):gCut (.tup l) lo hi=some (.v (.tup (cutD l lo hi))):=rfl
@[simp] theorem az5(l:List D)(lo hi:Option Int):gCut (.lst l) lo hi=some (.fr (cutD l lo hi)):=rfl
@[simp] theorem az6(l:List D)(lo hi:Option Int):gCut (.kst l) lo hi=some (.fr (cutD l lo hi)):=rfl
@[simp] theorem a09(neg:Bool)(m:M D):mIsN neg m ρ=(m.bind fun d=>ret (.bl (if neg then !isN d else isN d))) ρ:=rfl
@[simp] theorem aya(m:M D):sy m ρ=(m.bind fun d=>lift (itemsD d)) ρ:=rfl
@[simp] theorem a1a(g:α->Option β)(m:M α):mGet g m ρ=(m.bind fun ds=>lift (g ds)) ρ:=rfl
@[simp] theorem ak8(j:Int):wg [.int j]=if j.natAbs < 4611686018427387904 then some (j9 0 j.toNat) else none:=rfl
@[simp] theorem avy(i j:Int):ahq (.int i) (.int j)=if 0 < j/\j < 1000000000000000000000000000000000000000000000000000000000000 then some (.v (.tup [.int (i / j),.int (i % j)])) else none:=rfl
@[simp] theorem a06(i:Nat)(g:List D->List D->Option (D×List D))(ms:M (List D)):mMut i g ms ρ=((mOwn i).bind fun _=>ms.bind fun ds=>(mOwn i).bind fun l=>(lift (g l ds)).bind fun r=>(ae2 i r.2).bind fun _=>ret r.1) ρ:=rfl
@[simp] theorem avz(l:List D)(d:D):wj l [d]=if l.length < capS then some (.non,l++[d]) else none:=rfl
@[simp] theorem azs:f9 ρ=some (.ok [],ρ):=rfl
@[simp] theorem ayc(m:M D)(ms:M (List (Option D))):bf m ms ρ=(m.bind fun d=>ms.bind fun ds=>ret (some d::ds)) ρ:=rfl
@[simp] theorem ayb(j:Nat)(ms:M (List (Option D))):dg j ms ρ=((cu j).bind fun _=>ms.bind fun ds=>ret (none::ds)) ρ:=rfl
@[simp] theorem a2r(f:Fd)(js:List (Option Nat))(ms:M (List (Option D))):mFn f js ms ρ=(ms.bind fun ds ρ=>if okJs ρ js=true then match f (lend ρ js ds) with
  | some (.ok r,ps)=>some (.ok r,putB ρ js ps)
  | some (.exc x,ps)=>some (.exc x,putB ρ js ps)
  | none=>none
 else none) ρ:=rfl
@[simp] theorem aso(src:List (Option Nat))(mi:M (List D))(b:D->Ro->Option Ro)(mc:M Bool)(me:M D):aap src mi b mc me ρ=(mi.bind fun l ρ=>if okJs ρ src=true then match compD b mc me l [] (lend ρ src (src.map fun _=>none)) with
  | some (.ok ys,ps)=>if ys.length<=capS then some (.ok (.fr ys),putB ρ src ps) else none
  | some (.exc x,ps)=>some (.exc x,putB ρ src ps)
  | none=>none
 else none) ρ:=rfl
@[simp] theorem azk:okJs ρ []=true:=rfl
@[simp] theorem ax4(r:List (Option Nat)):okJs ρ (none::r)=okJs ρ r:=rfl
@[simp] theorem ax3(j:Nat)(r:List (Option Nat)):okJs ρ (some j::r)=((match ρ[j]? with
  | some (.own _ _) => !r.contains (some j)
  | _=>true)&&okJs ρ r):=rfl
@[simp] theorem lend_eq(js:List (Option Nat))(ds:List (Option D)):lend ρ js ds=(List.zip js ds).mapIdx fun i p=>ai5 ρ i p.1 p.2:=rfl
@[simp] theorem awl(i j:Nat)(d:Option D):ai5 ρ i (some j) d=match ρ[j]? with
  | some (.val d)=>.val d
  | some (.own _ l)=>.own (some i) l
  | _=>.emp:=rfl
@[simp] theorem a1d(i:Nat)(d:D):ai5 ρ i none (some d)=.val d:=rfl
@[simp] theorem a1e(i:Nat):ai5 ρ i none none=.emp:=rfl
@[simp] theorem a0s(js:List (Option Nat))(ps:Ro):putB ρ js ps=ρ.mapIdx fun j s=>putS js ps j s:=rfl
@[simp] theorem a0r(js:List (Option Nat))(ps:Ro)(j:Nat)(s:Sl):putS js ps j s=match js.findIdx? (fun o=>o==some j) with
 | none=>s
 | some i=>match s with
  | .own t _=>match ps[i]? with
   | some (.own (some i') l')=>if i'=i then .own t l' else .emp
   | _=>.emp
  | s=>s:=rfl
@[simp] theorem a2w(nl np:Nat)(g:Sd):fnD nl np g ρ=match g (ρ++List.replicate (nl - np) .emp) with
 | some (.ret r,ρ)=>some (.ok r,ρ.take np)
 | some (.nx,ρ)=>some (.ok (.v .non),ρ.take np)
 | some (.exc x,ρ)=>some (.exc x,ρ.take np)
 | _=>none:=rfl
@[simp] theorem a2y:dNx ρ=some (.nx,ρ):=rfl
@[simp] theorem a2b(g k:Sd):dSeq g k ρ=match g ρ with
 | some (.nx,ρ1)=>k ρ1
 | r=>r:=rfl
@[simp] theorem a3d(m:M α)(k:α->Sd):dM m k ρ=match m ρ with
 | some (.ok x,ρ1)=>k x ρ1
 | some (.exc x,ρ1)=>some (.exc x,ρ1)
 | none=>none:=rfl
@[simp] theorem a2c(m:M Rv):dRet m ρ=dM m (fun r ρ=>some (.ret r,ρ)) ρ:=rfl
@[simp] theorem a2z(m:M Bool)(g k:Sd):dIf m g k ρ=dM m (fun z=>if z=true then g else k) ρ:=rfl
@[simp] theorem a0d(m:M α):ac6 m ρ=dM m (fun _ ρ=>some (.nx,ρ)) ρ:=rfl
@[simp] theorem a2a(i:Nat)(m:M Rv):dSet i m ρ=dM m (fun r ρ=>some (.nx,List.set ρ i r.sl)) ρ:=rfl
@[simp] theorem a2f(m:M D)(b:D->Ro->Option Ro):dAsg m b ρ=dM m (fun d ρ=>(b d ρ).map fun ρ'=>(.nx,ρ')) ρ:=rfl
@[simp] theorem a1z(i:Nat)(mi m:M D):dSub i mi m ρ=(dM m fun d=>dM (mOwn i) fun _=>dM mi fun k=>dM (mOwn i) fun l=>dM (lift ((asI k).bind (ixN l.length))) fun j=>dM (ae2 i (l.set j d)) fun _=>dNx) ρ:=rfl
@[simp] theorem a2e(f:Int->Int->Int)(i:Nat)(m:M D):dAug f i m ρ=(dM (mVar i) fun x=>dM m fun y=>dM (lift ((asI x).bind fun n=>(asI y).map fun k=>D.int (f n k))) fun z ρ=>some (.nx,List.set ρ i (.val z))) ρ:=rfl
@[simp] theorem a2d(m:M (List D))(b:D->Ro->Option Ro)(g:Sd):dFor m b g ρ=dM m (forD b g) ρ:=rfl
@[simp] theorem abl(i:Nat)(d:D):dq i d ρ=some (List.set ρ i (.val d)):=rfl
@[simp] theorem a2i:bNil [] ρ=some ρ:=rfl
@[simp] theorem a0e(b:D->Ro->Option Ro)(bs:List D->Ro->Option Ro)(d:D)(r:List D):abo b bs (d::r) ρ=(b d ρ).bind (bs r):=rfl
@[simp] theorem a2h(n:Nat)(bs:List D->Ro->Option Ro)(l:List D):bTup n bs (.tup l) ρ=if l.length=n then bs l ρ else none:=rfl
end
section
variable(c:Prop)[Decidable c](b:Bool)(ρ:Ro)
@[simp] theorem a1h:(if c then some (Out.ok (D.bl b),ρ) else some (Out.ok (D.bl false),ρ))=some (.ok (.bl (decide c&&b)),ρ):=by by_cases h:c <;> simp[h]
end
@[simp] theorem gq{n:Nat}(h:n<=1000):n<=capS:=Nat.le_trans h (by decide)
theorem av9:capS=16777216:=rfl
@[simp] theorem a1m(ds:List D):gTup ds=if ds.length<=capS then some (.tup ds) else none:=rfl
@[simp] theorem a1o(ds:List D):gLst ds=if ds.length<=capS then some (.fr ds) else none:=rfl
@[simp] theorem awc{α:Type}(l:List α)(f:α->Bool):vm (l.map fun d=>D.bl (f d))=some (l.map f):=by
 have:=ady (l.map f);rw[List.map_map] at this;exact this
def ac0(s:Sl):List D->Sl
 | []=>s
 | d::r=>ac0 (.val d) r
theorem afm{me:M D}{rest:Ro}{f:D->D}:∀{l:List D} {ys:List D} {s:Sl},(∀d∈l,me (.val d::rest)=some (.ok (f d),.val d::rest))->compD (dq 0) (ret true) me l ys (s::rest)=some (.ok (ys++l.map f),ac0 s l::rest)
 | [],ys,s,_=>by simp[compD,ac0]
 | d::r,ys,s,h=>by
  have h1:=h d (List.mem_cons_self ..);have ih:=afm (me:=me) (rest:=rest) (f:=f) (l:=r) (ys:=ys++[f d]) (s:=.val d) fun x hx=>h x (List.mem_cons_of_mem _ hx)
  simp[compD,h1,ih,ac0]
theorem kj{mc:M Bool}{me:M D}{rest:Ro}{p:D->Bool}{f:D->D}:∀{l:List D} {ys:List D} {s:Sl},(∀d∈l,mc (.val d::rest)=some (.ok (p d),.val d::rest))->(∀d∈l,p d=true->me (.val d::rest)=some (.ok (f d),.val d::rest)) ->
  compD (dq 0) mc me l ys (s::rest)=some (.ok (ys++(l.filter p).map f),ac0 s l::rest)
 | [],ys,s,_,_=>by simp[compD,ac0]
 | d::r,ys,s,hc,h=>by
  have h0:=hc d (List.mem_cons_self ..);cases hp:p d with
  | true =>
   have h1:=h d (List.mem_cons_self ..) hp;have ih:=kj (mc:=mc) (me:=me) (rest:=rest) (p:=p) (f:=f) (l:=r) (ys:=ys++[f d]) (s:=.val d) (fun x hx=>hc x (List.mem_cons_of_mem _ hx)) fun x hx=>h x (List.mem_cons_of_mem _ hx)
   simp[compD,h0,h1,ih,ac0,hp]
  | false =>
   have ih:=kj (mc:=mc) (me:=me) (rest:=rest) (p:=p) (f:=f) (l:=r) (ys:=ys) (s:=.val d) (fun x hx=>hc x (List.mem_cons_of_mem _ hx)) fun x hx=>h x (List.mem_cons_of_mem _ hx)
   simp[compD,h0,ih,ac0,hp]
@[simp] theorem a0c(b:D->Ro->Option Ro)(g:Sd)(ρ:Ro):forD b g [] ρ=some (.nx,ρ):=rfl
theorem j6(b:D->Ro->Option Ro)(g:Sd)(d:D)(ds:List D)(ρ:Ro):forD b g (d::ds) ρ=match b d ρ with
  | none=>none
  | some ρ1=>match g ρ1 with
   | some (.nx,ρ2)=>forD b g ds ρ2
   | some (.cont,ρ2)=>forD b g ds ρ2
   | some (.brk,ρ2)=>some (.nx,ρ2)
   | some (.ret r,ρ2)=>some (.ret r,ρ2)
   | some (.exc x,ρ2)=>some (.exc x,ρ2)
   | none=>none:=rfl
@[simp] theorem a1u{α:Type}(p:α->Bool)(a:α)(l:List α):List.findIdx? p (a::l)=if p a=true then some 0 else (List.findIdx? p l).map (· + 1):=by
 rw[List.findIdx?_cons]
@[simp] theorem a2x{α:Type}(p:α->Bool):List.findIdx? p ([]:List α)=none:=rfl
theorem aql(ns:List Int)(lo hi:Option Int):∃ms:List Int,cutD (ns.map D.int) lo hi=ms.map D.int/\ms.length<=ns.length:=by
 refine⟨(ns.drop (HT.sIx ns.length 0 lo)).take (HT.sIx ns.length ns.length hi - HT.sIx ns.length 0 lo),?_,?_⟩
 ·unfold cutD;rw[List.length_map,List.map_take,List.map_drop]
 ·rw[List.length_take,List.length_drop];omega
theorem ahr{b:D->Ro->Option Ro}{g:Sd}(Inv:Nat->Ro->Prop):∀{l:List D} {ρ:Ro} (k:Nat),Inv k ρ->(∀i d ρ,l[i]? = some d->Inv (k+i) ρ->∃ρ1 ρ2,b d ρ=some ρ1/\(g ρ1=some (.nx,ρ2)∨g ρ1=some (.cont,ρ2))/\Inv (k+i+1) ρ2) ->
  ∃ρ',forD b g l ρ=some (.nx,ρ')/\Inv (k+l.length) ρ'
 | [],ρ,k,h0,_=>⟨ρ,rfl,h0⟩
 | d::r,ρ,k,h0,hs=>by
  obtain⟨ρ1,ρ2,e1,e2,h1⟩:=hs 0 d ρ rfl h0;obtain⟨ρ',e3,h3⟩:=ahr (b:=b) (g:=g) Inv (l:=r) (ρ:=ρ2) (k+1) h1 fun i x ρ hx hi=>by
   have:=hs (i+1) x ρ (by simpa using hx) ((show k+(i+1)=k+1+i by omega)▸hi)
   have e:k+(i+1)+1=k+1+i+1:=by omega
   rw[e] at this;exact this
  refine⟨ρ',?_,?_⟩
  ·rw[j6,e1];rcases e2 with e2 | e2 <;> simp only[e2] <;> exact e3
  ·have e:k+(d::r).length=k+1+r.length:=by simp;omega
   rw[e];exact h3
theorem yj{b:D->Ro->Option Ro}{mc:M Bool}{me:M D}(Inv:Nat->List D->Ro->Prop):∀{l:List D} {ys:List D} {ρ:Ro} (k:Nat),Inv k ys ρ ->
  (∀i d ys ρ,l[i]? = some d->Inv (k+i) ys ρ->∃ρ1 ρ2 z,b d ρ=some ρ1/\mc ρ1=some (.ok z,ρ2)/\((z=false/\Inv (k+i+1) ys ρ2)∨(z=true/\∃y ρ3,me ρ2=some (.ok y,ρ3)/\Inv (k+i+1) (ys++[y]) ρ3))) ->
  ∃ys' ρ',compD b mc me l ys ρ=some (.ok ys',ρ')/\Inv (k+l.length) ys' ρ'
 | [],ys,ρ,k,h0,_=>⟨ys,ρ,rfl,h0⟩
 | d::r,ys,ρ,k,h0,hs=>by
  obtain⟨ρ1,ρ2,z,e1,e2,h1⟩:=hs 0 d ys ρ rfl h0;have nxt:∀{ys':List D} {ρ':Ro},Inv (k+0+1) ys' ρ'->∃ys2 ρ2,compD b mc me r ys' ρ'=some (.ok ys2,ρ2)/\Inv (k+1+r.length) ys2 ρ2:=fun{ys' ρ'} hi =>
   yj (b:=b) (mc:=mc) (me:=me) Inv (l:=r) (ys:=ys') (ρ:=ρ') (k+1) hi fun i x ys ρ hx hi=>by
    have:=hs (i+1) x ys ρ (by simpa using hx) ((show k+(i+1)=k+1+i by omega)▸hi)
    have e:k+(i+1)+1=k+1+i+1:=by omega
    rw[e] at this;exact this
  have el:k+(d::r).length=k+1+r.length:=by simp;omega
  rw[el];rcases h1 with⟨rfl,h1⟩ | ⟨rfl,y,ρ3,e3,h1⟩
  ·obtain⟨ys2,ρ4,e4,h4⟩:=nxt h1;exact⟨ys2,ρ4,by simp[compD,e1,e2,e4],h4⟩
  ·obtain⟨ys2,ρ4,e4,h4⟩:=nxt h1;exact⟨ys2,ρ4,by simp[compD,e1,e2,e3,e4],h4⟩
@[simp] theorem a1q(neg:Bool)(a b:Int):gEq neg (.int a) (.int b)=some (.v (.bl (if neg then !(a==b) else (a==b)))):=rfl
@[simp] theorem a2t(neg:Bool)(a b:Bool):gEq neg (.bl a) (.bl b)=some (.v (.bl (if neg then !(a==b) else (a==b)))):=rfl
section
variable{K:Fg9}{X:Cx}{e a b c:Expr}{es:List Expr}{pos p p2:Pos}
def jo:List D->Option (List Int)
 | []=>some []
 | .int i::r=>(jo r).map (i :: ·)
 | _::_=>none
theorem zb:∀{l:List D} {ns:List Int},jo l=some ns->l=ns.map D.int
 | [],_,h=>by cases h;rfl
 | .int b::r,bs,h=>by
  have h':(jo r).map (b :: ·)=some bs:=h;cases e:jo r with
  | none=>rw[e] at h';cases h'
  | some t =>
   rw[e] at h';cases h';rw[zb e];rfl
 | .non::_,_,h=>by cases h
 | .bl _::_,_,h=>by cases h
 | .str _::_,_,h=>by cases h
 | .tup _::_,_,h=>by cases h
 | .lst _::_,_,h=>by cases h
 | .kst _::_,_,h=>by cases h
 | .dct _::_,_,h=>by cases h
@[simp] theorem qt(ns:List Int):jo (ns.map D.int)=some ns:=by
 induction ns with
 | nil=>rfl
 | cons b r ih=>show(jo (r.map D.int)).map (b :: ·)=_;rw[ih];rfl
def insI(x:Int):List Int->List Int
 | []=>[x]
 | y::r=>if x<=y then x::y::r else y::insI x r
def sortI:List Int->List Int
 | []=>[]
 | x::r=>insI x (sortI r)
theorem insI_perm(x:Int):∀l:List Int,(insI x l).Perm (x::l)
 | []=>.refl _
 | y::r=>by
  unfold insI;split
  ·exact .refl _
  ·exact((insI_perm x r).cons y).trans (.swap x y r)
theorem sortI_perm:∀l:List Int,(sortI l).Perm l
 | []=>.refl _
 | x::r=>(insI_perm x (sortI r)).trans ((sortI_perm r).cons x)
theorem afa(x:Int):∀{l:List Int},l.Pairwise (· <= ·)->(insI x l).Pairwise (· <= ·)
 | [],_=>by simp[insI]
 | y::r,h=>by
  unfold insI;rw[List.pairwise_cons] at h;split
  ·rename_i hxy;rw[List.pairwise_cons,List.pairwise_cons];refine⟨fun z hz =>?_,h⟩
   rcases List.mem_cons.mp hz with rfl | hz
   ·exact hxy
   ·exact Int.le_trans hxy (h.1 z hz)
  ·rename_i hxy;rw[List.pairwise_cons];refine⟨fun z hz =>?_,afa x h.2⟩
   rcases List.mem_cons.mp ((insI_perm x r).mem_iff.mp hz) with rfl | hz
   ·omega
   ·exact h.1 z hz
theorem aad:∀l:List Int,(sortI l).Pairwise (· <= ·)
 | []=>.nil
 | x::r=>afa x (aad r)
theorem af0:∀{l k:List Int},l.Perm k->l.Pairwise (· <= ·)->k.Pairwise (· <= ·)->l=k
 | [],k,h,_,_=>h.nil_eq
 | x::r,[],h,_,_=>absurd h.length_eq (by simp)
 | x::r,y::t,h,hl,hk=>by
  rw[List.pairwise_cons] at hl hk;have e:x=y:=by
   have h1:x∈y::t:=h.mem_iff.mp (List.mem_cons_self ..);have h2:y∈x::r:=h.mem_iff.mpr (List.mem_cons_self ..);rcases List.mem_cons.mp h1 with h1 | h1
   ·exact h1
   ·rcases List.mem_cons.mp h2 with h2 | h2
    ·exact h2.symm
    ·have a:=hk.1 x h1;have b:=hl.1 y h2;omega
  subst e;rw[af0 ((List.perm_cons x).mp h) hl.2 hk.2]
theorem aeb{l k:List Int}(h:l.Perm k)(hs:l.Pairwise (· <= ·)):l=sortI k:=af0 (h.trans (sortI_perm k).symm) hs (aad k)
theorem u5:∀{ns:List Int} {us:List Value},IntsAre us ns->Vals (ns.map V.int) us
 | _,_,.nil=>.nil
 | _,_,.cons n t h=>.cons ⟨t,rfl⟩ (u5 h)
def ahp:D->Option Rv
 | .lst l=>(jo l).bind fun ns=>if ns.length < 64 then some (.fr ((sortI ns).map D.int)) else none
 | _=>none
theorem aqq:CallD K X (.builtin "sorted") (g1 ahp):=aa2 fun hk jv s σ0 H x u Q tg F ρ σ d r I ru G bd eg q=>by
 subst hk;cases d with
 | lst l =>
  have eg:(jo l).bind (fun ns=>if ns.length < 64 then some (Rv.fr ((sortI ns).map D.int)) else none)=some r:=eg
  cases e:jo l with
  | none=>rw[e] at eg;cases eg
  | some ns =>
   rw[e] at eg;have eg:(if ns.length < 64 then some (Rv.fr ((sortI ns).map D.int)) else none)=some r:=eg
   split at eg
   ·rename_i h64;cases eg;obtain⟨a,vs,rfl,ea,hl⟩:=bd.lst G.sub;rw[zb e] at hl;rw[hl.int_inv] at ea;cases ru;obtain⟨its,rv,pl,_⟩:=I.list (SqL.of ea);have hlen:=rv.length;rw[List.length_map] at hlen;refine PyProof.Rows.sorted_ints pl.isList (intsAre_of rv) (by omega) fun out ns' i1 hp hs =>?_
    have e':=aeb hp hs;subst e';obtain⟨ep,eo⟩:=PyProof.Rows.sortedAll_at s.heap its out;have hn:H (s.heap.objs.size+1)=none:=I.hok.fresh (Nat.le_succ _);refine⟨.ref (s.heap.objs.size+1),upd H (s.heap.objs.size+1) (.lst ((sortI ns).map V.int)),?_,rfl,Res.lst G q (abe _) hn⟩;refine I.laid (t':=s.toks) (fun b u e=>PyProof.Rows.sortedAll_old e) (Nat.le_succ _) ?_
    refine⟨?_,out.toList,ep,u5 i1,by simpa using eo⟩
    rw[List.length_map,(sortI_perm ns).length_eq];exact Nat.le_of_lt (ack (by omega))
   ·cases eg
 | _=>cases eg
end
section
variable{K:Fg9}{X:Cx}{e a b c:Expr}{es:List Expr}{pos p p2:Pos}
def ac8(lt:Int->Int->Bool):List Int->Int
 | []=>0
 | x::r=>r.foldl (fun m y=>if lt y m=true then y else m) x
theorem aq4(lt:Int->Int->Bool)(ns:List Int):∀k,k < ns.length->argBest (fun i j=>lt (ns.getD i 0) (ns.getD j 0)) k<=k/\ns.getD (argBest (fun i j=>lt (ns.getD i 0) (ns.getD j 0)) k) 0=ac8 lt (ns.take (k+1))
 | 0,h=>by
  cases ns with
  | nil=>simp at h
  | cons x r=>exact⟨Nat.le_refl _,rfl⟩
 | k+1,h=>by
  obtain⟨h1,h2⟩:=aq4 lt ns k (by omega)
  have ht:ns.take (k+1+1)=ns.take (k+1)++[ns.getD (k+1) 0]:=by
   rw[List.take_add_one,List.getElem?_eq_getElem h];simp[List.getD,List.getElem?_eq_getElem h]
  have hb:ac8 lt (ns.take (k+1+1))=if lt (ns.getD (k+1) 0) (ac8 lt (ns.take (k+1)))=true then ns.getD (k+1) 0 else ac8 lt (ns.take (k+1)):=by
   rw[ht];cases ns with
   | nil=>simp at h
   | cons x r=>simp[ac8,List.foldl_append]
  have ha:argBest (fun i j=>lt (ns.getD i 0) (ns.getD j 0)) (k+1)=if lt (ns.getD (k+1) 0) (ns.getD (argBest (fun i j=>lt (ns.getD i 0) (ns.getD j 0)) k) 0)=true then k+1 else argBest (fun i j=>lt (ns.getD i 0) (ns.getD j 0)) k:=rfl
  rw[hb,<-h2,ha]
  by_cases hc:lt (ns.getD (k+1) 0) (ns.getD (argBest (fun i j=>lt (ns.getD i 0) (ns.getD j 0)) k) 0)=true
  ·rw[if_pos hc,if_pos hc];exact⟨Nat.le_refl _,rfl⟩
  ·rw[if_neg hc,if_neg hc];exact⟨by omega,rfl⟩
theorem atd(lt:Int->Int->Bool)(ns:List Int)(h:ns≠[]):argBest (fun i j=>lt (ns.getD i 0) (ns.getD j 0)) (ns.length - 1) < ns.length/\ns.getD (argBest (fun i j=>lt (ns.getD i 0) (ns.getD j 0)) (ns.length - 1)) 0=ac8 lt ns:=by
 have hl:0 < ns.length:=List.length_pos_iff.mpr h;obtain⟨h1,h2⟩:=aq4 lt ns (ns.length - 1) (by omega)
 refine⟨by omega,?_⟩
 rw[h2,show ns.length - 1+1=ns.length by omega,List.take_length]
def ay0(lt:Int->Int->Bool):D->Option Rv
 | .lst l=>(jo l).bind fun ns=>if ns=[] then none else some (.v (.int (ac8 lt ns)))
 | .tup l=>(jo l).bind fun ns=>if ns=[] then none else some (.v (.int (ac8 lt ns)))
 | _=>none
theorem ala{lt:Int->Int->Bool}{d:D}{r:Rv}(h:ay0 lt d=some r):∃ns:List Int,ns≠[]/\r=.v (.int (ac8 lt ns))/\(d=.lst (ns.map D.int)∨d=.tup (ns.map D.int)):=by
 have go:∀l,(jo l).bind (fun ns=>if ns=[] then none else some (Rv.v (.int (ac8 lt ns))))=some r->∃ns:List Int,ns≠[]/\r=.v (.int (ac8 lt ns))/\l=ns.map D.int:=fun l h=>by
  cases e:jo l with
  | none=>rw[e] at h;cases h
  | some ns =>
   rw[e] at h;have h:(if ns=[] then none else some (Rv.v (.int (ac8 lt ns))))=some r:=h
   split at h
   ·cases h
   ·rename_i hn;cases h;exact⟨ns,hn,rfl,zb e⟩
 cases d with
 | lst l=>obtain⟨ns,h1,h2,rfl⟩:=go l h;exact⟨ns,h1,h2,.inl rfl⟩
 | tup l=>obtain⟨ns,h1,h2,rfl⟩:=go l h;exact⟨ns,h1,h2,.inr rfl⟩
 | _=>cases h
theorem ae7{ns:List Int}{its:List Value}(rv:Vals (ns.map V.int) its)(i:Nat)(v:Value)(h:its.toArray[i]? = some v):∃t,v=.int (ns.getD i 0) t:=by
 have h:its[i]? = some v:=by simpa using h
 have hi:i < its.length:=(List.getElem?_eq_some_iff.mp h).1;have hl:=rv.length;rw[List.length_map] at hl;have hi':i < ns.length:=by omega
 obtain⟨u,hu,t,rfl⟩:=rv.get (i:=i) (x:=V.int ns[i]) (by rw[List.getElem?_map,List.getElem?_eq_getElem hi'];rfl)
 rw[h] at hu;cases hu;exact⟨t,by simp[List.getD,List.getElem?_eq_getElem hi']⟩
def an5:D->Option Rv:=ay0 fun i j=>decide (i < j)
theorem alf(hc:X.calm=true):CallD K X (.builtin "min") (g1 an5):=aa2 fun hk jv s σ0 H x u Q tg F ρ σ d r I ru G bd eg q=>by
 subst hk;obtain⟨ns,hn,rfl,hd⟩:=ala eg;have q':=Res.same G q (.int _);obtain⟨hb1,hb2⟩:=atd (fun i j=>decide (i < j)) ns hn
 have fin:∀{its:List Value} (rv:Vals (ns.map V.int) its) {v:Value} {h':Heap} {tk:Nat},its.toArray[argBest (fun i j=>decide (ns.getD i 0 < ns.getD j 0)) (its.toArray.size - 1)]? = some v->(∀b o,s.heap.get? b=some o->h'.get? b=some o)->EP X jv σ0 Q v { s with heap:=h',toks:=tk }:=fun{its} rv {v h' tk} hv hk=>by
  have hl:=rv.length;rw[List.length_map] at hl;rw[List.size_toArray,<-hl] at hv;obtain⟨t,rfl⟩:=ae7 rv _ v hv;exact⟨.int (ac8 (fun i j=>decide (i < j)) ns),H,I.kept hk,⟨t,by rw[hb2]⟩,q'⟩
 rcases hd with rfl | rfl
 ·obtain⟨a,vs,rfl,ea,hl⟩:=bd.lst G.sub;rw[hl.int_inv] at ea;cases ru;obtain⟨its,rv,pl,_⟩:=I.list (SqL.of ea);have hl':=pl.isList;have hlt:a < s.heap.objs.size:=by obtain⟨_,e,_⟩:=hl';exact Heap.lt_size e
  have hlen:=rv.length;rw[List.length_map] at hlen;refine call_min_walk (wpAny_pyIter_list hl' ⟨s.heap.objs.size,[s.heap.objs.size,a],[s.heap.objs.size],its.toArray.size,_,_,_,rfl,Walks.list (A:=X.A.in1) (I.ok.hd hc) _ a (Nat.ne_of_lt hlt) its.toArray,
   ⟨⟨_,Heap.get?_push_size _ rfl,rfl,rfl⟩,hl'.push _⟩,fun b hb =>?_,?_,CmpOf.ints_lt (fun i=>ns.getD i 0) (fun i v=>ae7 rv i v),fun v h' tk hP hk=>fin rv hP (LSm.kept_iter hk)⟩)
  ·have hs:∀o:Obj,(s.heap.push o).objs.size=s.heap.objs.size+1:=fun o=>Heap.size_push ..
   show b < (s.heap.push _).objs.size;rw[hs];rcases List.mem_cons.mp hb with hb | hb
   ·exact hb▸Nat.lt_succ_self _
   ·have hb:b=a:=by simpa using hb
    exact hb▸Nat.lt_succ_of_lt hlt
  ·rw[List.size_toArray,<-hlen];exact List.length_pos_iff.mpr hn
 ·obtain⟨a,vs,rfl,ea,hl⟩:=bd.tup;rw[hl.int_inv] at ea;cases ru;obtain⟨its,rv,pl,_⟩:=I.tuple (SqT.of (G.sub _ _ ea));have hlt:a < s.heap.objs.size:=by obtain⟨_,e,_⟩:=pl;exact Heap.lt_size e
  have hlen:=rv.length;rw[List.length_map] at hlen;refine call_min_walk (wpAny_pyIter_tuple pl ⟨s.heap.objs.size,[s.heap.objs.size,a],[s.heap.objs.size],its.toArray.size,_,_,_,rfl,Walks.tuple (A:=X.A.in1) (I.ok.hd hc) _ a (Nat.ne_of_lt hlt) its.toArray,
   ⟨⟨_,Heap.get?_push_size _ rfl,rfl,rfl⟩,pl.push _⟩,fun b hb =>?_,?_,CmpOf.ints_lt (fun i=>ns.getD i 0) (fun i v=>ae7 rv i v),fun v h' tk hP hk=>fin rv hP (LSm.kept_iter hk)⟩)
  ·have hs:∀o:Obj,(s.heap.push o).objs.size=s.heap.objs.size+1:=fun o=>Heap.size_push ..
   show b < (s.heap.push _).objs.size;rw[hs];rcases List.mem_cons.mp hb with hb | hb
   ·exact hb▸Nat.lt_succ_self _
   ·have hb:b=a:=by simpa using hb
    exact hb▸Nat.lt_succ_of_lt hlt
  ·rw[List.size_toArray,<-hlen];exact List.length_pos_iff.mpr hn
end
section
variable{K:Fg9}{X:Cx}{e a b c:Expr}{es:List Expr}{pos p p2:Pos}
def rmOf(K:Fg9)(g:D->List D->Option D):V->List V->Hp->VK->Prop:=fun x vs H Q=>∃F d ds r,Same F H/\Bor K F H d x/\IsL K F ds vs/\g d ds=some r/\∀v,Is K F r v->Q v H
def avl(i:Nat)(g:D->List D->Option D)(ms:M (List D)):M D:=(cu i).bind fun d0=>(lift (match d0 with
 | .lst _=>some ()
 | _=>none)).bind fun _=>ms.bind fun ds=>(cu i).bind fun d=>lift (g d ds)
theorem av2{i:Nat}{name:Str}{id:String}{g:D->List D->Option D}{ms:M (List D)}{apos cpos:Pos}(slot:Slot "list" name id)(hty:typeOf (.builtin id)=pure (.type "method_descriptor"))(hm:X.K=K->MtR X id (rmOf K g))(ho:PE X a (tVar i))(ha:ED K X (e::es) ms)
  (hbase:attributeBase a name X.env (eval a X.env)=eval a X.env:=by rfl)
  (hfew:((backTo cpos (starEach (e::es) X.env)).all (fun x => !x.1)&&(backToKw cpos (keywordEach [] X.env)).all (fun x=>x.1.isSome)
   && decide ((e::es).length+([]:List Keyword).length+(if ([]:List Keyword).isEmpty then 0 else 1) < 30))=true:=by rfl)
  (hline:(apos.endLine==cpos.line)=true:=by rfl) (hs:starEach (e::es) X.env=(false,eval e X.env)::starEach es X.env:=by rfl) (hplain:(backTo cpos (starEach es X.env)).any (·.1)=false:=by rfl) :
  EV K X (.Call (.Attribute a name apos) (e::es) [] cpos) (avl i g ms):=EV.mk fun hk=>PE.imp (axs PySem.F.plainAttrs_list slot hty (hm hk) ho (ha hk) hbase hfew hline hs hplain) fun σ H Q z9=>by
 obtain⟨tg,F,ρ,d,ρ',G,em,q⟩:=z9;obtain⟨d0,ρ0,e0,em1⟩:=au em;obtain⟨u0,ρ9,e9,em2⟩:=au em1;obtain⟨ds,ρ1,e1,em3⟩:=au em2;obtain⟨d1,ρ2,e2,em4⟩:=au em3;obtain⟨e3,rfl⟩:=gw em4;obtain⟨e9,rfl⟩:=gw e9;obtain⟨rfl,v,hv,bv⟩:=vp G e0;have ty:∃b,v=.ref b/\∃xs,SqL X.K H b xs:=by
  cases d0 with
  | lst l =>
   obtain⟨b,xs,rfl,hb,_⟩:=bv.lst G.sub;exact⟨b,rfl,xs,SqL.of hb⟩
  | _=>cases e9
 obtain⟨b,rfl,hty'⟩:=ty;refine⟨_,hv,.inl ⟨rfl,hty'⟩,tg,F,_,ds,ρ1,G,e1,fun vs H1 F1 G1 x1 r1 =>?_⟩
 obtain⟨rfl,v',hv',b'⟩:=vp G1 e2;rw[hv] at hv';cases hv';exact⟨F1,d1,ds,d,G1.sub,b',r1,e3,fun w iw=>q w H1 F1 G1 x1 iw⟩
def ajj(d:D)(ds:List D):Option D:=match d,ds with
 | .lst l,[x]=>if okD 30 x&&l.all (okD 30) then (l.findIdx? fun y=>eqD y x).map fun i=>.int i else none
 | _,_=>none
theorem am1{jv:List (Addr×Obj)}{σ:L2.St}{F H:Hp}{s:Shared}(I:Inv X jv σ H s)(g:Same F H){a:D}{n:Nat}{ds:List D}{vs:List V}{us:List Value}(il:IsL X.K F ds vs)(k:ds.all (okD n)=true)(rv:Vals vs us)(i:Nat)(hi:i < us.length)(hd:i < ds.length) :
  aab s.heap (toPy a) us[i]=eqD ds[i] a:=by
 obtain⟨v,hv,iv⟩:=il.get (i:=i) (List.getElem?_eq_getElem hd);obtain⟨u,hu,ru⟩:=rv.get hv;rw[List.getElem?_eq_getElem hi] at hu;cases hu;have ko:okD n ds[i]=true:=List.all_eq_true.mp k _ (List.getElem_mem hd);obtain⟨as,ra⟩:=acs I g iv ko ru;rw[ahv ra (zu _ _ ko).1];rfl
theorem asl(hu:X.A.units+64 < cLine):X.K=K->MtR X "list.index" (rmOf K ajj):=fun hk=>by
 subst hk;intro jv s σ H x vs v us Q I rx rv ⟨F,d,ds,r,g,bd,il,eg,q⟩
 match d,ds,eg with
 | .lst l,[y],eg =>
  have eg:(if okD 30 y&&l.all (okD 30) then (l.findIdx? fun z=>eqD z y).map (fun i=>D.int i) else none)=some r:=eg
  split at eg
  ·rename_i ho;rw[Bool.and_eq_true] at ho;cases ei:l.findIdx? (fun z=>eqD z y) with
   | none=>rw[ei] at eg;cases eg
   | some j =>
    rw[ei] at eg;cases eg;obtain⟨hj,hhit,hno⟩:=List.findIdx?_eq_some_iff_getElem.mp ei;cases il with
    | cons hy t =>
     cases t;obtain⟨u,rfl,ru⟩:=rv.one;obtain⟨p,ws,rfl,ea,hl⟩:=bd.lst g;cases rx;obtain⟨its,rw',pl,hz⟩:=I.list (SqL.of ea);have l1:=hl.length;have l2:=rw'.length;rw[sizeLine_eq] at hz;obtain⟨as,ra⟩:=acs I g hy ho.1 ru;obtain⟨_,z⟩:=ym I g (a:=y) hl ho.2 rw';obtain⟨⟨cls,dd,data,sl⟩,h1,hc,n,hd⟩:=pl.isList;simp only at hc hd;subst hc hd;have hj':j < its.toArray.size:=by rw[List.size_toArray];omega
     refine call_meets PySem.F.slot_list_index ⟨_,h1,rfl⟩ PySem.F.entry_list_index (PySem.F.args_list_index_2 _ _) (SeqAt.list_indexAt p its.toArray n dd sl u (aab s.heap (toPy y)) j hj' (by omega) ?_ fun m hm hlt =>?_) ⟨h1,fun w hw =>?_,?_⟩
     ·have:=am1 I g (a:=y) hl ho.2 rw' j (by omega) hj
      simpa[this] using hhit
     ·rw[List.size_toArray] at hm;have:=am1 I g (a:=y) hl ho.2 rw' m hm (by omega)
      have hn:=hno m hlt
      simpa[this] using hn
     ·exact yg (A:=X.A) hu ra ho.1 z w (by simpa using hw)
     ·exact⟨.int j,H,I.tok _,⟨_,rfl⟩,q _ (.int _)⟩
  ·cases eg
section
variable(ρ:Ro)
@[simp] theorem azr(i:Nat)(g:D->List D->Option D)(ms:M (List D)):avl i g ms ρ=((cu i).bind fun d0=>(lift (match d0 with
 | .lst _=>some ()
 | _=>none)).bind fun _=>ms.bind fun ds=>(cu i).bind fun d=>lift (g d ds)) ρ:=rfl
@[simp] theorem awm(l:List D)(x:D):ajj (.lst l) [x]=if okD 30 x&&l.all (okD 30) then (l.findIdx? fun y=>eqD y x).map (fun i=>D.int i) else none:=rfl
end
end
end Dn
namespace En
open PySem PySem.Builtin
def It1(k:Bool)(h:Heap)(it l:Addr)(i:Nat):Prop:=cond k (h.IsTupleIter it l i) (h.IsListIter it l i)
def Sq1(k:Bool)(h:Heap)(l:Addr)(xs:Array Value):Prop:=cond k (h.IsTuple l xs) (h.IsList l xs)
section
variable{prog:Program}{w:World}{A:Around}{E:Value->Shared->Prop}{s:Shared}
theorem ave{it t:Addr}{i:Nat}{xs:Array Value}{x:Value}{Q:Value->Shared->Prop}(h1:s.heap.IsTupleIter it t i)(h2:s.heap.IsTuple t xs)(hx:xs[i]? = some x)
  (q:∀h',h'.IsTupleIter it t (i+1)->Heap.SameBut it s.heap h'->Q x { s with heap:=h' }):wpAny (model prog w) A (SmallTypes.nextOf (.ref it)) Q E s:=by
 obtain⟨o1,e1,c1,d1⟩:=id h1;obtain⟨o2,e2,_,k2,d2⟩:=h2;have nn:¬((Value.ref t==Value.none)=true):=Bool.false_ne_true;unfold SmallTypes.nextOf;refine wpAny_bind (wpAny_callSpecial?_slot (name:=Str.ofString "__next__") h1.typeIs F.slot_tuple_iterator_next (wpAny_call_entry F.slot_tuple_iterator_next h1.typeIs F.entry_tuple_iterator_next ?_ (F.args_tuple_iterator_next_1 _)));refine wpAny_bind (m:=field (.ref it) 0) (wpAny_field e1 d1 (x:=.ref t) rfl ?_);show wpAny _ _ (if (Value.ref t==Value.none)=true then _ else (field (.ref it) 1 >>= _)) _ _ s;rw[if_neg nn]
 refine wpAny_bind (m:=field (.ref it) 1) (wpAny_field e1 d1 (x:=.int i 0) rfl ?_);refine wpAny_bind (m:=seqItems? (.ref t)) (wpAny_seqItems e2 d2 ?_);simp only[Int.toNat_natCast,hx];refine wpAny_bind (wpAny_setField e1 d1 (by simp) (wpAny_pure ⟨x,rfl,wpAny_pure (q _ ?_ (Heap.SameBut.update ..))⟩))
 refine⟨_,Heap.get?_update_self _ e1 (Obj.isFreed_of_fields (Obj.data_mapFields d1 _)),(Obj.cls_mapFields ..).trans c1,?_⟩;rw[Obj.data_mapFields d1];simp[rawInt]
theorem av3{it t:Addr}{i:Nat}{xs:Array Value}{Q:Value->Shared->Prop}(hh:A.handled=none)(h1:s.heap.IsTupleIter it t i)(h2:s.heap.IsTuple t xs)(hx:xs[i]? = none)
  (q:∀h' e,Heap.ExtBut it s.heap h'->(∃o,h'.get? e=some o/\o.cls=.type "StopIteration")->E (.ref e) { s with heap:=h' }):wpAny (model prog w) A (SmallTypes.nextOf (.ref it)) Q E s:=by
 obtain⟨o1,e1,c1,d1⟩:=id h1;obtain⟨o2,e2,_,k2,d2⟩:=h2;have nn:¬((Value.ref t==Value.none)=true):=Bool.false_ne_true;unfold SmallTypes.nextOf;refine wpAny_bind (wpAny_callSpecial?_slot (name:=Str.ofString "__next__") h1.typeIs F.slot_tuple_iterator_next (wpAny_call_entry F.slot_tuple_iterator_next h1.typeIs F.entry_tuple_iterator_next ?_ (F.args_tuple_iterator_next_1 _)));refine wpAny_bind (m:=field (.ref it) 0) (wpAny_field e1 d1 (x:=.ref t) rfl ?_);show wpAny _ _ (if (Value.ref t==Value.none)=true then _ else (field (.ref it) 1 >>= _)) _ _ s;rw[if_neg nn]
 refine wpAny_bind (m:=field (.ref it) 1) (wpAny_field e1 d1 (x:=.int i 0) rfl ?_);refine wpAny_bind (m:=seqItems? (.ref t)) (wpAny_seqItems e2 d2 ?_);simp only[Int.toNat_natCast,hx];refine wpAny_bind (wpAny_rule (wpAny_bind (wpAny_setField e1 d1 (by simp) ?_)))
 refine wpAny_bind (m:=newExc (.type "StopIteration") []) ?_;simp only[newExc,newTuple];refine wpAny_bind (wpAny_newObj_type ?_ (by size_fits))
 refine wpAny_bind (m:=firstArgMember _ _) (wpAny_of_eq (a:=Value.none) (by first | rfl | (simp only[firstArgMember];rfl)) (wpAny_newObj_type ?_ (by size_fits)))
 simp only[raiseNew];refine wpAny_bind (wpAny_handled ?_);first | rw[show A.in1.handled=none from hh] | rw[hh]
 refine wpAny_bind (wpAny_pure (wpAny_throw (q _ _ ?_ ⟨_,Heap.get?_push_size _ rfl,rfl⟩)));exact((Heap.SameBut.update ..).extBut.push _).push _
theorem src(hh:A.handled=none)(k:Bool)(it l:Addr)(ne:l≠it)(xs:Array Value):Draws prog w A it [it,l] xs.size (fun i v=>xs[i]? = some v) (fun i h=>It1 k h it l i/\Sq1 k h l xs):=by
 cases k with
 | false=>exact Draws.list hh it l ne xs
 | true=>exact{
   live:=fun _ _ z=>let ⟨o,e,_⟩:=z.1;⟨o,e⟩
   frame:=fun _ _ _ z kk=>⟨(let ⟨o,e,r⟩:=z.1;⟨o,kk it (by simp) o e,r⟩),(let ⟨o,e,r⟩:=z.2;⟨o,kk l (by simp) o e,r⟩)⟩
   item:=fun i s Q E hi z q=>ave z.1 z.2 (x:=xs[i]) (by simp[hi]) fun h' z' sb=>q _ h' s.toks (by simp[hi]) ⟨z',Heap.IsTuple.extBut z.2 sb.extBut ne⟩ sb
   done:=fun s Q E z q=>av3 hh z.1 z.2 (by simp) q }
theorem It1.at{k:Bool}{h h':Heap}{it l:Addr}{i:Nat}(x:It1 k h it l i)(e:∀o,h.get? it=some o->h'.get? it=some o):It1 k h' it l i:=by
 cases k <;> exact(let ⟨o,z,r⟩:=x;⟨o,e _ z,r⟩)
theorem It1.got{k:Bool}{h:Heap}{it l:Addr}{i:Nat}(x:It1 k h it l i):∃o,h.get? it=some o/\∀v,o.data≠.cell v:=by
 cases k <;> exact(let ⟨o,z,_,r⟩:=x;⟨o,z,fun v e=>by rw[r] at e;cases e⟩)
theorem Sq1.at{k:Bool}{h h':Heap}{l:Addr}{xs:Array Value}(x:Sq1 k h l xs)(e:∀o,h.get? l=some o->h'.get? l=some o):Sq1 k h' l xs:=by
 cases k <;> exact(let ⟨o,z,r⟩:=x;⟨o,e _ z,r⟩)
theorem Sq1.got{k:Bool}{h:Heap}{l:Addr}{xs:Array Value}(x:Sq1 k h l xs):∃o,h.get? l=some o:=by
 cases k <;> exact(let ⟨o,z,_⟩:=x;⟨o,z⟩)
theorem ays{k:Bool}{l:Addr}{xs:Array Value}{Q:Value->Shared->Prop}(h:Sq1 k s.heap l xs)
  (q:Q (.ref s.heap.objs.size) { s with heap:=s.heap.push { cls:=.type (cond k "tuple_iterator" "list_iterator"),data:=.fields #[.ref l,.int 0 0] } }):wpAny (model prog w) A (pyIter (.ref l)) Q E s:=by
 cases k with
 | false=>exact wpAny_pyIter_list h q
 | true=>exact wpAny_pyIter_tuple h q
theorem aps{k:Bool}{h:Heap}{l a:Addr}(e:h.get? a=some { cls:=.type (cond k "tuple_iterator" "list_iterator"),data:=.fields #[.ref l,.int 0 0] }):It1 k h a l 0:=by
 cases k <;> exact⟨_,e,rfl,rfl⟩
end
set_option maxRecDepth 100000
end En
namespace En
open PySem PySem.Builtin
set_option maxRecDepth 100000
theorem auh(v1 v2:Value):checkTypeCall "zip" ⟨[v1,v2],[]⟩=pure ():=by kernel_rfl
theorem avh(v1 v2:Value):checkBuiltinCall "zip.__new__" ⟨[.type "zip", v1,v2],[]⟩=pure ():=by kernel_rfl
theorem awk(o v1 v2:Value):argsOk "object.__init__" ⟨[o,v1,v2],[]⟩:=by
 unfold argsOk;rw[signature?_of (id := "object.__init__") (n:=['_','_','t','i','n','i','_','_']) (o:=['t','c','e','j','b','o']) (by kernel_rfl) F.owner_object];kernel_rfl
abbrev Row2(h:Heap)(T:Addr)(v1 v2:Value):Prop:=h.get? T=some { cls:=.type "tuple", data:=.seq #[v1,v2] }
structure Apart2 (z TI TO i1 i2 l1 l2:Addr):Prop where
 nTIz:TI≠z
 nTOz:TO≠z
 nTOTI:TO≠TI
 ni1z:i1≠z
 ni1TI:i1≠TI
 ni1TO:i1≠TO
 ni2z:i2≠z
 ni2TI:i2≠TI
 ni2TO:i2≠TO
 ni2i1:i2≠i1
 nl1z:l1≠z
 nl1TO:l1≠TO
 nl1i1:l1≠i1
 nl1i2:l1≠i2
 nl2z:l2≠z
 nl2TO:l2≠TO
 nl2i1:l2≠i1
 nl2i2:l2≠i2
section
variable{prog:Program}{w:World}{A:Around}{E:Value->Shared->Prop}{s:Shared}
theorem axb{T:Addr}{v1 v2 x:Value}{Q:Unit->Shared->Prop}(h:Row2 s.heap T v1 v2)(q:∀h',Row2 h' T x v2->Heap.SameBut T s.heap h'->Q () { s with heap:=h' }):wpAny (model prog w) A (updateSeq T (·.setIfInBounds 0 x)) Q E s:=by
 refine wpAny_updateSeq h rfl (q _ (show Heap.get? _ T=_ from ?_) (Heap.SameBut.update ..))
 rw[Heap.get?_update_self _ h rfl];simp[Obj.mapSeq]
theorem axa{T:Addr}{v1 v2 x:Value}{Q:Unit->Shared->Prop}(h:Row2 s.heap T v1 v2)(q:∀h',Row2 h' T v1 x->Heap.SameBut T s.heap h'->Q () { s with heap:=h' }):wpAny (model prog w) A (updateSeq T (·.setIfInBounds 1 x)) Q E s:=by
 refine wpAny_updateSeq h rfl (q _ (show Heap.get? _ T=_ from ?_) (Heap.SameBut.update ..))
 rw[Heap.get?_update_self _ h rfl];simp[Obj.mapSeq]
theorem aoe{z TI TO i1 i2 l1 l2:Addr}{k1 k2:Bool}{i:Nat}{x1 x2:Array Value}{v1 v2:Value}{Q:Value->Shared->Prop}(hh:A.handled=none)(D:Apart2 z TI TO i1 i2 l1 l2)
  (hz:IsZip s.heap z TI TO .none) (hI:Row2 s.heap TI (.ref i1) (.ref i2)) (hO:Row2 s.heap TO v1 v2) (h1:It1 k1 s.heap i1 l1 i) (s1:Sq1 k1 s.heap l1 x1) (h2:It1 k2 s.heap i2 l2 i) (s2:Sq1 k2 s.heap l2 x2) (b1:i < x1.size) (b2:i < x2.size)
  (q:∀h' tk y1 y2,x1[i]? = some y1->x2[i]? = some y2->IsZip h' z TI TO (rawInt s.heap.objs.size)->Row2 h' TO y1 y2->It1 k1 h' i1 l1 (i+1)->It1 k2 h' i2 l2 (i+1)->Row2 h' s.heap.objs.size y1 y2->h'.objs.size=s.heap.objs.size+1 ->
   (∀c o,c≠z->c≠TO->c≠i1->c≠i2->s.heap.get? c=some o->h'.get? c=some o)->Q (.ref s.heap.objs.size) { s with heap:=h',toks:=tk }) :
  wpAny (model prog w) A (Builtin.«zip.__next__» ⟨[.ref z],[]⟩) (fun fin s'=>∃v,fin=.done (.ret v)/\Q v s') E s:=by
 refine wpAny_bind (m:=field (.ref z) 2) (wpAny_field hz rfl (x:=.bool false) rfl ?_);refine wpAny_bind (m:=field (.ref z) 3) (wpAny_field hz rfl (x:=.ref TI) rfl ?_);refine wpAny_bind (wpAny_seqItems hI rfl ?_);refine wpAny_bind (m:=SmallTypes.ownedTupleIsFree (.ref z)) ?_;unfold SmallTypes.ownedTupleIsFree;refine wpAny_bind (wpAny_field hz rfl (x:=.none) rfl (wpAny_pure ?_));simp only[if_true];refine wpAny_bind (wpAny_rule (wpAny_bind (wpAny_field hz rfl (x:=.ref TO) rfl ?_)));refine wpAny_bind (wpAny_setField_rec hz (by simp) fun g0 z0 a0 =>?_)
 have z0:IsZip g0 z TI TO .ellipsis:=z0;refine wpAny_bind ?_;simp only[List.zipIdx_cons,List.zipIdx_nil,List.forIn_cons,List.forIn_nil];refine wpAny_bind (wpAny_bind (wpAny_onRaise ?_));refine wpAny_bind (m:=SmallTypes.nextOf (.ref i1)) ((src hh k1 i1 l1 D.nl1i1 x1).item i _ _ _ b1 ⟨(h1.at fun _ e=>(a0.extBut _ _ D.ni1z e)),(s1.at fun _ e=>(a0.extBut _ _ D.nl1z e))⟩ fun y1 f1 t1 p1 q1 c1=>wpAny_pure ?_)
 have c1:Heap.SameBut i1 g0 f1:=c1;have P1:Row2 f1 TO v1 v2:=(c1.extBut _ _ D.ni1TO.symm (a0.extBut _ _ D.nTOz hO));refine wpAny_bind (wpAny_seqItems P1 rfl ?_);refine wpAny_bind (axb P1 fun g1 O1 a1 =>?_)
 have a1:Heap.SameBut TO f1 g1:=a1;refine wpAny_bind (wpAny_letGo (wpAny_pure ?_));refine wpAny_bind (wpAny_bind (wpAny_onRaise ?_));refine wpAny_bind (m:=SmallTypes.nextOf (.ref i2)) ((src hh k2 i2 l2 D.nl2i2 x2).item i _ _ _ b2 ⟨(h2.at fun _ e=>(a1.extBut _ _ D.ni2TO (c1.extBut _ _ D.ni2i1 (a0.extBut _ _ D.ni2z e)))),(s2.at fun _ e=>(a1.extBut _ _ D.nl2TO (c1.extBut _ _ D.nl2i1 (a0.extBut _ _ D.nl2z e))))⟩ fun y2 f2 t2 p2 q2 c2=>wpAny_pure ?_)
 have c2:Heap.SameBut i2 g1 f2:=c2;have P2:Row2 f2 TO y1 v2:=(c2.extBut _ _ D.ni2TO.symm O1);refine wpAny_bind (wpAny_seqItems P2 rfl ?_);refine wpAny_bind (axa P2 fun g2 O2 a2 =>?_)
 have a2:Heap.SameBut TO f2 g2:=a2;refine wpAny_bind (wpAny_letGo (wpAny_pure (wpAny_pure ?_)));refine wpAny_bind (wpAny_seqItems O2 rfl (wpAny_bind (wpAny_newTuple ?_)));have sz:g2.objs.size=s.heap.objs.size:=by rw[a2.1,c2.1,a1.1,c1.1,a0.1]
 have zn:IsZip g2 z TI TO .ellipsis:=(a2.extBut _ _ D.nTOz.symm (c2.extBut _ _ D.ni2z.symm (a1.extBut _ _ D.nTOz.symm (c1.extBut _ _ D.ni1z.symm z0))));have kn:∀c o,c≠z->c≠TO->c≠i1->c≠i2->s.heap.get? c=some o->g2.get? c=some o:=fun c o n0 n1 n2 n3 e=>(a2.extBut _ _ n1 (c2.extBut _ _ n3 (a1.extBut _ _ n1 (c1.extBut _ _ n2 (a0.extBut _ _ n0 e)))))
 have j1:It1 k1 g2 i1 l1 (i+1):=q1.1.at fun _ e=>(a2.extBut _ _ D.ni1TO (c2.extBut _ _ D.ni2i1.symm (a1.extBut _ _ D.ni1TO e)))
 have j2:It1 k2 g2 i2 l2 (i+1):=q2.1.at fun _ e=>(a2.extBut _ _ D.ni2TO e)
 have lz:z < g2.objs.size:=Heap.lt_size zn;refine wpAny_bind (m:=SmallTypes.ownedTupleHandOut (.ref z) (.ref g2.objs.size)) ?_;unfold SmallTypes.ownedTupleHandOut;have zp:IsZip (g2.push { cls:=.type "tuple", data:=.seq #[y1,y2] }) z TI TO .ellipsis:=Heap.get?_push_of_some _ zn;refine wpAny_bind (wpAny_setField_rec zp (by simp) fun e1 z1 b1' =>?_)
 have z1:IsZip e1 z TI TO (rawInt g2.objs.size):=z1;refine wpAny_setField_rec z1 (by simp) fun e2 z2 b2' =>?_
 have z2:IsZip e2 z TI TO (rawInt g2.objs.size):=z2;have up:∀c o,c≠z->g2.get? c=some o->e2.get? c=some o:=fun c o n1 e=>b2'.extBut _ _ n1 (b1'.extBut _ _ n1 (Heap.get?_push_of_some _ e))
 have t2:Row2 e2 g2.objs.size y1 y2:=b2'.extBut _ _ (Nat.ne_of_gt lz) (b1'.extBut _ _ (Nat.ne_of_gt lz) (Heap.get?_push_size _ rfl));have s2':e2.objs.size=g2.objs.size+1:=by rw[b2'.1,b1'.1,Heap.size_push]
 rw[sz] at z2 t2 s2';refine wpAny_pure ⟨_,rfl,?_⟩;show Q (.ref g2.objs.size) _;rw[sz];exact q e2 _ y1 y2 p1 p2 z2 (up _ _ D.nTOz O2) (j1.at fun _ e=>up _ _ D.ni1z e) (j2.at fun _ e=>up _ _ D.ni2z e) t2 s2' fun c o n0 n1 n2 n3 e=>up c o n0 (kn c o n0 n1 n2 n3 e)
theorem arb{z TI TO i1 i2 l1 l2:Addr}{k1:Bool}{x1:Array Value}{v1 v2:Value}{Q:Fin->Shared->Prop}(hh:A.handled=none)(D:Apart2 z TI TO i1 i2 l1 l2)
  (hz:IsZip s.heap z TI TO .none) (hI:Row2 s.heap TI (.ref i1) (.ref i2)) (hO:Row2 s.heap TO v1 v2) (h1:It1 k1 s.heap i1 l1 x1.size) (s1:Sq1 k1 s.heap l1 x1)
  (q:∀h' e,(∀c o,c≠z->c≠i1->s.heap.get? c=some o->h'.get? c=some o)->(∃o,h'.get? e=some o/\o.cls=.type "StopIteration")->E (.ref e) { s with heap:=h' }) :
  wpAny (model prog w) A (Builtin.«zip.__next__» ⟨[.ref z],[]⟩) Q E s:=by
 refine wpAny_bind (m:=field (.ref z) 2) (wpAny_field hz rfl (x:=.bool false) rfl ?_);refine wpAny_bind (m:=field (.ref z) 3) (wpAny_field hz rfl (x:=.ref TI) rfl ?_);refine wpAny_bind (wpAny_seqItems hI rfl ?_);refine wpAny_bind (m:=SmallTypes.ownedTupleIsFree (.ref z)) ?_;unfold SmallTypes.ownedTupleIsFree;refine wpAny_bind (wpAny_field hz rfl (x:=.none) rfl (wpAny_pure ?_));simp only[if_true];refine wpAny_bind (wpAny_rule (wpAny_bind (wpAny_field hz rfl (x:=.ref TO) rfl ?_)));refine wpAny_bind (wpAny_setField_rec hz (by simp) fun g0 z0 a0 =>?_)
 have z0:IsZip g0 z TI TO .ellipsis:=z0;refine wpAny_bind ?_;simp only[List.zipIdx_cons,List.zipIdx_nil,List.forIn_cons,List.forIn_nil];refine wpAny_bind (wpAny_bind (wpAny_onRaise ?_));refine wpAny_bind (m:=SmallTypes.nextOf (.ref i1)) ((src hh k1 i1 l1 D.nl1i1 x1).done _ _ _ ⟨(h1.at fun _ e=>a0.extBut _ _ D.ni1z e),(s1.at fun _ e=>a0.extBut _ _ D.nl1z e)⟩ fun f1 e c1 ⟨oe,he,ce⟩ =>?_)
 have zf:IsZip f1 z TI TO .ellipsis:=c1 _ _ D.ni1z.symm z0;have ez:e≠z:=fun x=>by subst x;rw[zf] at he;cases he;simp at ce
 refine wpAny_setField_rec zf (by simp) fun f2 _ a1=>q f2 e (fun c o n1 n2 y=>a1.extBut _ _ n1 (c1 _ _ n2 (a0.extBut _ _ n1 y))) ⟨oe,a1.extBut _ _ ez he,ce⟩
abbrev aof(h:Heap)(k1 k2:Bool)(l1 l2:Addr):Heap:=h.push { cls:=.type (cond k1 "tuple_iterator" "list_iterator"),data:=.fields #[.ref l1,.int 0 0] }
abbrev arf(h:Heap)(k1 k2:Bool)(l1 l2:Addr):Heap:=(aof h k1 k2 l1 l2).push { cls:=.type (cond k2 "tuple_iterator" "list_iterator"),data:=.fields #[.ref l2,.int 0 0] }
abbrev ard(h:Heap)(k1 k2:Bool)(l1 l2:Addr):Heap:=(arf h k1 k2 l1 l2).push { cls:=.type "tuple", data:=.seq #[.ref h.objs.size,.ref (aof h k1 k2 l1 l2).objs.size] }
abbrev arc(h:Heap)(k1 k2:Bool)(l1 l2:Addr):Heap:=(ard h k1 k2 l1 l2).push { cls:=.type "tuple", data:=.seq #[.none,.none] }
abbrev aj3(h:Heap)(k1 k2:Bool)(l1 l2:Addr):Heap:=(arc h k1 k2 l1 l2).push { cls:=.type "zip", data:=.fields #[.none,.bool false,.bool false,.ref (arf h k1 k2 l1 l2).objs.size,.ref (ard h k1 k2 l1 l2).objs.size] }
theorem avi(k1 k2:Bool)(l1 l2:Addr)(x1 x2:Array Value) :
  Meets (Builtin.«zip.__new__» ⟨[.type "zip", .ref l1,.ref l2],[]⟩) (fun _ R s=>Sq1 k1 s.heap l1 x1/\Sq1 k2 s.heap l2 x2/\R (.ok (.ret (.ref (arc s.heap k1 k2 l1 l2).objs.size))) { s with heap:=aj3 s.heap k1 k2 l1 l2 }) :=
 .of_wp fun prog w A R s h=>by
  obtain⟨hp,g,d,tk,os⟩:=s;obtain⟨s1,s2,h⟩:=h;have sb:=sub_zip;have r1:Sq1 k1 (Shared.heap ⟨hp,g,d,tk,os⟩) l1 x1:=s1.at fun _ e=>e
  have r2:Sq1 k2 (Shared.heap ⟨aof hp k1 k2 l1 l2,g,d,tk,os⟩) l2 x2:=s2.at fun _ e=>Heap.get?_push_of_some _ (e)
  wp_walk using ays r1,ays r2;exact⟨_,rfl,h⟩
theorem aqu{k1 k2:Bool}{l1 l2:Addr}{x1 x2:Array Value}{Q:Value->Shared->Prop}(s1:Sq1 k1 s.heap l1 x1)(s2:Sq1 k2 s.heap l2 x2)
  (q:∀h',IsZip h' (s.heap.objs.size+4) (s.heap.objs.size+2) (s.heap.objs.size+3) .none->Row2 h' (s.heap.objs.size+2) (.ref s.heap.objs.size) (.ref (s.heap.objs.size+1))->Row2 h' (s.heap.objs.size+3) .none .none->It1 k1 h' s.heap.objs.size l1 0->It1 k2 h' (s.heap.objs.size+1) l2 0->h'.objs.size=s.heap.objs.size+5->(∀c o,s.heap.get? c=some o->h'.get? c=some o)->Q (.ref (s.heap.objs.size+4)) { s with heap:=h' }) :
  wpAny (model prog w) A (call (.type "zip") [.ref l1,.ref l2]) Q E s:=by
 refine callType_new F.called_zip (by decide) (auh _ _) (avh _ _) (fun obj=>awk obj _ _) F.entry_zip_new (avi k1 k2 l1 l2 x1 x2) ⟨s1,s2,?_⟩
 have e1:(aof s.heap k1 k2 l1 l2).objs.size=s.heap.objs.size+1:=by rw[Heap.size_push]
 have e2:(arf s.heap k1 k2 l1 l2).objs.size=s.heap.objs.size+2:=by rw[Heap.size_push,e1]
 have eI:(ard s.heap k1 k2 l1 l2).objs.size=s.heap.objs.size+3:=by rw[Heap.size_push,e2]
 have eO:(arc s.heap k1 k2 l1 l2).objs.size=s.heap.objs.size+4:=by rw[Heap.size_push,eI]
 have eZ:(aj3 s.heap k1 k2 l1 l2).objs.size=s.heap.objs.size+5:=by rw[Heap.size_push,eO]
 have gZ:(aj3 s.heap k1 k2 l1 l2).get? (arc s.heap k1 k2 l1 l2).objs.size=some _:=Heap.get?_push_size _ rfl;have gO:(aj3 s.heap k1 k2 l1 l2).get? (ard s.heap k1 k2 l1 l2).objs.size=some _:=Heap.get?_push_of_some _ (Heap.get?_push_size _ rfl);have gI:(aj3 s.heap k1 k2 l1 l2).get? (arf s.heap k1 k2 l1 l2).objs.size=some _:=Heap.get?_push_of_some _ (Heap.get?_push_of_some _ (Heap.get?_push_size _ rfl));have j1:(aj3 s.heap k1 k2 l1 l2).get? s.heap.objs.size=some _:=Heap.get?_push_of_some _ (Heap.get?_push_of_some _ (Heap.get?_push_of_some _ (Heap.get?_push_of_some _ (Heap.get?_push_size _ rfl))));have j2:(aj3 s.heap k1 k2 l1 l2).get? (aof s.heap k1 k2 l1 l2).objs.size=some _:=Heap.get?_push_of_some _ (Heap.get?_push_of_some _ (Heap.get?_push_of_some _ (Heap.get?_push_size _ rfl)));show _/\_;rw[e2,eI,eO] at gZ;rw[e1,e2] at gI;rw[eI] at gO;rw[e1] at j2;rw[eO];exact⟨⟨_,gZ,rfl⟩,q _ gZ gI gO (aps j1) (aps j2) eZ fun c o x=>Heap.get?_push_of_some _ (Heap.get?_push_of_some _ (Heap.get?_push_of_some _ (Heap.get?_push_of_some _ (Heap.get?_push_of_some _ (x)))))⟩
end
structure Apart3 (z TI TO i1 i2 i3 l1 l2 l3:Addr):Prop where
 nTIz:TI≠z
 nTOz:TO≠z
 nTOTI:TO≠TI
 ni1z:i1≠z
 ni1TI:i1≠TI
 ni1TO:i1≠TO
 ni2z:i2≠z
 ni2TI:i2≠TI
 ni2TO:i2≠TO
 ni2i1:i2≠i1
 ni3z:i3≠z
 ni3TI:i3≠TI
 ni3TO:i3≠TO
 ni3i1:i3≠i1
 ni3i2:i3≠i2
 nl1z:l1≠z
 nl1TO:l1≠TO
 nl1i1:l1≠i1
 nl1i2:l1≠i2
 nl1i3:l1≠i3
 nl2z:l2≠z
 nl2TO:l2≠TO
 nl2i1:l2≠i1
 nl2i2:l2≠i2
 nl2i3:l2≠i3
 nl3z:l3≠z
 nl3TO:l3≠TO
 nl3i1:l3≠i1
 nl3i2:l3≠i2
 nl3i3:l3≠i3
section
variable{prog:Program}{w:World}{A:Around}{E:Value->Shared->Prop}{s:Shared}
end
end En
namespace Mn
open L2 En
def SqK(k:Bool)(K:Fg9)(H:Hp)(a:Addr)(xs:List V):Prop:=cond k (SqT K H a xs) (SqL K H a xs)
theorem ah4{xs:List V}{us:List Value}(r:Vals xs us){i:Nat}{x:V}{u:Value}(h:xs[i]? = some x)(h':us.toArray[i]? = some u):RelV x u:=by
 obtain⟨u',e,z⟩:=r.get h;have:us[i]? = some u:=by simpa using h'
 rw[this] at e;cases e;exact z
section
variable{X:Cx}{jv:List (Addr×Obj)}{σ:L2.St}{H:Hp}{s:Shared}{h':Heap}{a:Addr}{xs ys:List V}{k:Bool}
theorem ajd(I:Inv X jv σ H s)(h:SqK k X.K H a xs):∃its:List Value,Vals xs its/\Sq1 k s.heap a its.toArray:=by
 cases k with
 | false =>
  obtain⟨its,r,p,_⟩:=I.list h;exact⟨its,r,p.isList⟩
 | true =>
  obtain⟨its,r,p,_⟩:=I.tuple h;exact⟨its,r,p⟩
theorem apw(I:Inv X jv σ H s)(h:SqK k X.K H a xs)(h2:SqK k X.K H a ys):xs=ys:=by
 cases k with
 | false=>exact I.list_inj h h2
 | true=>exact I.tuple_inj h h2
theorem agc{t':Nat}{fp:List Addr}(I:Inv X jv σ H s)(kk:∀b o,b∉fp->s.heap.get? b=some o->h'.get? b=some o)(hf:∀b∈fp,FpOk X jv H b):Inv X jv σ H { s with heap:=h',toks:=t' }:=by
 have nit:∀b u,H b=some u->b∉fp:=fun b u e z=>by rw[(hf b z).1] at e;cases e
 have nL:X.env.locals∉fp:=fun z=>(hf _ z).2.1 rfl
 refine I.step (g':=s.gens) (d':=s.drawn) (ch:=fp) (fun b hb=>⟨(hf b hb).2.2.2.1,(hf b hb).2.1,(hf b hb).2.2.2.2.1,(hf b hb).2.2.2.2.2⟩) (fun b o _ _ hc e _=>kk b o hc e) (fun b o _ _ hc e _=>⟨o.slots,kk b o hc e⟩) (fun _ _ _ _ n=>n)
  (fun b o hc e=>⟨o,kk b o hc e⟩) (fun _ _ e=>e) (fun _ _ _ e=>e) (fun b ps e=>⟨#[],by rw[e];simp⟩) (fun m hm =>?_) (fun b u e =>?_) I.bare
 ·obtain⟨o,es,ep,ho,r⟩:=hm;exact⟨o,es,ep,kk _ o nL ho,r⟩
 ·refine(I.hok b u e).stay (fun c v hc q=>kk c v ?_ q) (fun _ q=>q) fun _ _ q=>q
  rcases hc with z | z
  ·rw[z];exact nit b u e
  ·exact nit c _ z
theorem avu{t':Nat}{fp:List Addr}{vs:List V}{us:List Value}(I:Inv X jv σ H s)(kk:∀b o,b∉fp->s.heap.get? b=some o->h'.get? b=some o)(hf:∀b∈fp,FpOk X jv H b)(hb:∀b∈fp,b < s.heap.objs.size)
  (r:Vals vs us) (hz:vs.length<=sizeLine) (ht:h'.get? s.heap.objs.size=some { cls:=.type "tuple", data:=.seq us.toArray }):Inv X jv σ (upd H s.heap.objs.size (.tup vs)) { s with heap:=h',toks:=t' }:=by
 have I1:=I.laid (h':=s.heap.push { cls:=.type "tuple", data:=.seq us.toArray }) (t':=s.toks) (a:=s.heap.objs.size) (o:=.tup vs) (fun b u e=>Heap.get?_push_of_some _ e) (Nat.le_refl _) ⟨hz,us,r,⟨_,Heap.get?_push_size _ rfl,rfl,rfl,_,rfl⟩⟩
 have k2:∀b o,b∉fp->(s.heap.push { cls:=.type "tuple", data:=.seq us.toArray }).get? b=some o->h'.get? b=some o:=fun b o hn e=>by
  rcases Heap.get?_push_cases e with⟨rfl,rfl⟩ | e
  ·exact ht
  ·exact kk b o hn e
 have f2:∀b∈fp,FpOk X jv (upd H s.heap.objs.size (.tup vs)) b:=fun b hb'=>by
  obtain⟨f0,f⟩:=hf b hb';exact⟨by rw[bj (Nat.ne_of_lt (hb b hb'))];exact f0,f⟩
 have R:=agc (t':=t') (h':=h') (fp:=fp) I1 k2 f2;exact R
end
theorem ay8:bootBuiltins "zip" = some (.type "zip"):=by decide +kernel
section
variable{X:Cx}
end
end Mn
namespace En
open PySem PySem.Builtin
theorem atv{prog:Program}{w:World}{A:Around}{E:Value->Shared->Prop}{s:Shared}{z TI TO:Addr}{f0:Value}{Q:Option Value->Shared->Prop}(hz:IsZip s.heap z TI TO f0)
  (h:wpAny (model prog w) A.in1 (Builtin.«zip.__next__» ⟨[.ref z],[]⟩) (fun fin s'=>∃v,fin=.done (.ret v)/\Q (some v) s') (fun e s'=>∃a o,e=.ref a/\s'.heap.get? a=some o/\o.cls=.type "StopIteration" /\ Q none s') s) :
  wpAny (model prog w) A (pyNext (.ref z)) Q E s:=by
 have tz:s.TypeIs (.ref z) "zip" := ⟨_,hz,rfl⟩;unfold pyNext;refine wpAny_bind (wpAny_attempt (wpAny_callSpecial?_slot (name:=Str.ofString "__next__") tz F.slot_zip_next (wpAny_call_entry F.slot_zip_next tz F.entry_zip_next (wpAny_mono h (fun fin s' ⟨v,e,q⟩=>⟨v,e,wpAny_pure q⟩) fun e s' ⟨a,o,e1,e2,e3,q⟩ =>?_) (F.args_zip_next_1 _))))
 subst e1;exact wpAny_bind (wpAny_isInstance (T := "StopIteration") (b:=true) ⟨o,e2,e3⟩ isSubtype_stop (wpAny_pure q))
end En
namespace Mn
open L2 En
def Itz2(K:Fg9)(k1 k2:Bool)(a1 a2:Addr):It :=
 ⟨fun i H=>∃x1 x2 v1 v2,(SqK k1 K H a1 x1/\x1[i]? = some v1)/\(SqK k2 K H a2 x2/\x2[i]? = some v2),fun i H x H'=>∃q v1 v2,H q=none/\x=.ref q/\H'=upd H q (.tup [v1,v2])/\(∀xs,SqK k1 K H a1 xs->xs[i]? = some v1)/\(∀xs,SqK k2 K H a2 xs->xs[i]? = some v2),fun i H=>∃xs,SqK k1 K H a1 xs/\xs.length=i⟩
theorem aok{P:Program}{w:World}{K:Fg9}{elts:List Expr}{n:Nat}{pos:Pos}(k1 k2:Bool)(a1 a2 z TI TO i1 i2:Addr)(D:Apart2 z TI TO i1 i2 a1 a2) :
  Turn P w K (.Tuple elts n pos) (Itz2 K k1 k2 a1 a2) [z,TI,TO,i1,i2] z (fun i h=>IsZip h z TI TO .none/\Row2 h TI (.ref i1) (.ref i2)/\(∃v1 v2,Row2 h TO v1 v2)/\It1 k1 h i1 a1 i/\It1 k2 h i2 a2 i) where
 mem:=by simp
 obj:=fun i h ⟨hz,hI,⟨v1,v2,hO⟩,h1,h2⟩ b hb=>by
  have hb:b=z∨b=TI∨b=TO∨b=i1∨b=i2:=by simpa using hb
  rcases hb with rfl | rfl | rfl | rfl | rfl
  ·exact⟨_,hz,fun v z=>by cases z⟩
  ·exact⟨_,hI,fun v z=>by cases z⟩
  ·exact⟨_,hO,fun v z=>by cases z⟩
  ·exact h1.got
  ·exact h2.got
 keep:=fun i h h' ⟨hz,hI,⟨v1,v2,hO⟩,h1,h2⟩ kk=>⟨kk z (by simp) _ hz,kk TI (by simp) _ hI,⟨v1,v2,kk TO (by simp) _ hO⟩,h1.at fun o e=>kk i1 (by simp) o e,h2.at fun o e=>kk i2 (by simp) o e⟩
 item:=by
  intro X hP hw hK hc i jv s σ H E I hf st hg;subst hP hw hK;obtain⟨hz,hI,⟨o1,o2,hO⟩,h1,h2⟩:=st;obtain⟨x1,x2,v1,v2,⟨hq1,hx1⟩,⟨hq2,hx2⟩⟩:=hg;obtain⟨t1,r1,s1⟩:=ajd I hq1;obtain⟨u1,hu1,_⟩:=r1.get hx1;have b1:i < t1.toArray.size:=by simpa using (List.getElem?_eq_some_iff.mp hu1).1
  obtain⟨t2,r2,s2⟩:=ajd I hq2;obtain⟨u2,hu2,_⟩:=r2.get hx2;have b2:i < t2.toArray.size:=by simpa using (List.getElem?_eq_some_iff.mp hu2).1
  refine atv hz (aoe (I.ok.hd hc) D hz hI hO h1 s1 h2 s2 b1 b2 fun g tk y1 y2 p1 p2 z2 O2 j1 j2 T2 hsz hk =>?_)
  refine⟨_,rfl,wpAny_letOwnedTupleGo_zip z2 fun g2 he2 sb =>?_⟩
  have fr:H s.heap.objs.size=none:=I.hok.fresh (Nat.le_refl _);have lt:∀b∈[z,TI,TO,i1,i2],b < s.heap.objs.size:=fun b hb=>by
   have hb:b=z∨b=TI∨b=TO∨b=i1∨b=i2:=by simpa using hb
   rcases hb with rfl | rfl | rfl | rfl | rfl
   ·exact Heap.lt_size hz
   ·exact Heap.lt_size hI
   ·exact Heap.lt_size hO
   ·obtain⟨o,e,_⟩:=h1.got;exact Heap.lt_size e
   ·obtain⟨o,e,_⟩:=h2.got;exact Heap.lt_size e
  have up:∀b o,b∉[z,TI,TO,i1,i2]->s.heap.get? b=some o->g2.get? b=some o:=fun b o hn e=>sb.extBut _ _ (fun x=>hn (by simp[x])) (hk b o (fun x=>hn (by simp[x])) (fun x=>hn (by simp[x])) (fun x=>hn (by simp[x])) (fun x=>hn (by simp[x])) e)
  have TI2:g2.get? TI=_:=sb.extBut _ _ D.nTIz (hk TI _ D.nTIz D.nTOTI.symm D.ni1TI.symm D.ni2TI.symm hI);refine⟨.ref s.heap.objs.size,upd H s.heap.objs.size (.tup [v1,v2]),?_,rfl,⟨_,v1,v2,fr,rfl,rfl,fun ys hy=>by rw[apw I hy hq1];exact hx1,fun ys hy=>by rw[apw I hy hq2];exact hx2⟩,⟨he2,TI2,⟨y1,y2,sb.extBut _ _ D.nTOz O2⟩,(j1.at fun o e=>sb.extBut _ _ D.ni1z e),(j2.at fun o e=>sb.extBut _ _ D.ni2z e)⟩,fun b hb =>?_⟩
  ·exact avu (fp:=[z,TI,TO,i1,i2]) (us:=[y1,y2]) I up hf lt (.cons (ah4 r1 hx1 p1) (.cons (ah4 r2 hx2 p2) .nil)) (by rw[sizeLine_eq];simp) (sb.extBut _ _ (Nat.ne_of_gt (lt z (by simp))) T2)
  ·rw[bj (Nat.ne_of_lt (lt b hb))];exact(hf b hb).1
 done:=by
  intro X hP hw hK hc i jv s σ H E I hf st hg;subst hP hw hK;obtain⟨hz,hI,⟨o1,o2,hO⟩,h1,h2⟩:=st;obtain⟨xs,hq,hx⟩:=hg;obtain⟨its,rv,sq⟩:=ajd I hq;have hl:i=its.toArray.size:=by have:=rv.length;simp;omega
  subst hl;refine atv hz (arb (I.ok.hd hc) D hz hI hO h1 sq fun g e kk ⟨o,he,ce⟩=>⟨e,o,rfl,he,ce,rfl,agc (t':=s.toks) (fp:=[z,TI,TO,i1,i2]) I (fun b o hn z=>kk b o (fun z=>hn (by simp[z])) (fun z=>hn (by simp[z])) z) hf⟩)
 self:=fun _ _ _ _ _ st h=>wpAny_pyIter_zip st.1 h
theorem apart2{N l1 l2:Nat}(h1:l1 < N)(h2:l2 < N):Apart2 (N+4) (N+2) (N+3) N (N+1) l1 l2:=by
 constructor <;> (intro e;have e:(_:Nat)=_:=e;omega)
section
variable{X:Cx}
def a1j(K:Fg9)(ta:TA):TI:=fun σ H R=>ta σ H fun vs H1=>∃a1 a2 k1 k2,vs=[.ref a1,.ref a2]/\(∃xs,SqK k1 K H1 a1 xs)/\(∃xs,SqK k2 K H1 a2 xs)/\R (Itz2 K k1 k2 a1 a2) H1
theorem au1{e1 e2:Expr}{ta:TA}{p pos:Pos}{elts:List Expr}{n:Nat}{tp:Pos}(hg:Gl X "zip")(hm:X.mg "zip" = none)(ha:PA X [e1,e2] ta)(hs:starEach [e1,e2] X.env=[(false,eval e1 X.env),(false,eval e2 X.env)]:=by rfl)(hs2:starEach [e2] X.env=[(false,eval e2 X.env)]:=by rfl) :
  PI X (.Tuple elts n tp) (.Call (.Name "zip" p) [e1,e2] [] pos) (a1j X.K ta):=by
 intro jv s σ H R I h;refine Call_ (ai7 I hg hm ay8 (PyProof.Rows.callWith_type1 (thn (ha pos jv s σ H _ I h) fun us s1 ⟨vs,H1,I1,r1,q1⟩ =>?_) (by rw[hs,hs2]) (by rw[hs2];rfl)))
 obtain⟨a1,a2,k1,k2,rfl,⟨x1,hq1⟩,⟨x2,hq2⟩,q⟩:=q1;obtain⟨u1,u2,rfl,ru1,ru2⟩:=vals2 r1;cases ru1;cases ru2;obtain⟨t1,r1',sq1⟩:=ajd I1 hq1;have b1:a1 < s1.heap.objs.size:=by obtain⟨o,e⟩:=sq1.got;exact Heap.lt_size e
 obtain⟨t2,r2',sq2⟩:=ajd I1 hq2;have b2:a2 < s1.heap.objs.size:=by obtain⟨o,e⟩:=sq2.got;exact Heap.lt_size e
 refine aqu sq1 sq2 fun g hz hI hO h1 h2 hsz kk=>wpAny_pyIter_zip hz ?_
 have I2:Inv X jv σ H1 { s1 with heap:=g }:=I1.kept (t':=s1.toks) kk
 refine⟨_,[s1.heap.objs.size+4,s1.heap.objs.size+2,s1.heap.objs.size+3,s1.heap.objs.size,s1.heap.objs.size+1],_,_,H1,rfl,I2,aok k1 k2 a1 a2 _ _ _ _ _ (apart2 b1 b2),⟨hz,hI,⟨_,_,hO⟩,h1,h2⟩,fun c hc =>?_,q⟩
 have hc:s1.heap.objs.size<=c:=by
  simp only[List.mem_cons,List.not_mem_nil,or_false] at hc;rcases hc with rfl | rfl | rfl | rfl | rfl <;> first | exact Nat.le_refl _ | exact Nat.le_add_right _ _
 exact I1.fpOk hc (I1.hok.fresh hc)
end
section
variable{X:Cx}
end
end Mn
namespace Dn
open L2 Mn
section
variable{K:Fg9}{X:Cx}{e a b c:Expr}{es elts:List Expr}{pos p tp:Pos}{n:Nat}
theorem atm{F:Hp}{d:D}{l:List D}{v:V}(e:itemsD d=some l)(h:Is K F d v):∃a k vs,v=.ref a/\IsL K F l vs/\∀H,Same F H->SqK k K H a vs:=by
 cases h with
 | tup e1 h1=>cases e;exact⟨_,true,_,rfl,h1,fun H g=>SqT.of (g _ _ e1)⟩
 | lst e1 h1=>cases e;exact⟨_,false,_,rfl,h1,fun H g=>SqL.of (g _ _ e1)⟩
 | kst e1 h1=>cases e;exact⟨_,false,_,rfl,h1,fun H g=>L2.Same.seq g e1⟩
 | _=>cases e
def aci(l1 l2:List D):List D:=List.zipWith (fun x y=>.tup [x,y]) l1 l2
def ap1:List D->Option (List D)
 | [a,b]=>(itemsD a).bind fun l1=>(itemsD b).bind fun l2=>if l1.length<=l2.length then some (aci l1 l2) else none
 | _=>none
theorem ach{l1 l2:List D}{i:Nat}{d:D}(h:(aci l1 l2)[i]? = some d):∃d1 d2,l1[i]? = some d1/\l2[i]? = some d2/\d=.tup [d1,d2]:=by
 unfold aci at h;rw[List.getElem?_zipWith] at h;cases e1:l1[i]? with
 | none=>rw[e1] at h;cases h
 | some d1 =>
  cases e2:l2[i]? with
  | none=>rw[e1,e2] at h;cases h
  | some d2=>rw[e1,e2] at h;cases h;exact⟨_,_,rfl,rfl,rfl⟩
theorem asu{F:Hp}{k1 k2:Bool}{a1 a2:Addr}{l1 l2:List D}{x1 x2:List V}(h:l1.length<=l2.length)(i1:IsL K F l1 x1)(i2:IsL K F l2 x2)(s1:∀H,Same F H->SqK k1 K H a1 x1)(s2:∀H,Same F H->SqK k2 K H a2 x2):ItD K (Itz2 K k1 k2 a1 a2) (aci l1 l2) F where
 go:=fun i H s hi=>by
  have z1:=i1.length;have z2:=i2.length;have hi:i < l1.length:=by unfold aci at hi;simp at hi;omega
  exact⟨x1,x2,_,_,⟨s1 H s,List.getElem?_eq_getElem (by omega)⟩,s2 H s,List.getElem?_eq_getElem (by omega)⟩
 yld:=fun i H x H' d s y hd=>by
  obtain⟨d1,d2,h1,h2,rfl⟩:=ach hd;obtain⟨q,v1,v2,hq,rfl,rfl,y1,y2⟩:=y;obtain⟨w1,e1,j1⟩:=i1.get h1;obtain⟨w2,e2,j2⟩:=i2.get h2;have z1:=y1 _ (s1 H s);have z2:=y2 _ (s2 H s);rw[e1] at z1;rw[e2] at z2;cases z1;cases z2;exact .inr ⟨q,_,_,hq,rfl,rfl,rfl,.cons j1 (.cons j2 .nil)⟩
 stop:=fun H s=>⟨x1,s1 H s,by unfold aci;rw[List.length_zipWith,<-i1.length];omega⟩
theorem ak6{m:M (List D)}(hg:Gl X "zip")(hm:X.mg "zip" = none)(h:ED K X [a,b] m)(hs:starEach [a,b] X.env=[(false,eval a X.env),(false,eval b X.env)]:=by rfl)(hs2:starEach [b] X.env=[(false,eval b X.env)]:=by rfl) :
  IT K X (.Tuple elts n tp) (.Call (.Name "zip" p) [a,b] [] pos) (mGet ap1 m):=IT.mk fun hk=>by
 intro jv s σ H R I ⟨tg,F,ρ,l,ρ',G,em,q⟩;obtain⟨ds,ρ1,e1,em⟩:=au em;obtain⟨e2,rfl⟩:=gw em;have h:=h hk;subst hk;refine au1 hg hm h hs hs2 jv s σ H R I ⟨tg,F,ρ,ds,_,G,e1,fun vs H' F' G' x r =>?_⟩
 match ds,e2 with
 | [d,d'],e2 =>
  have e2:((itemsD d).bind fun l1=>(itemsD d').bind fun l2=>if l1.length<=l2.length then some (aci l1 l2) else none)=some l:=e2
  cases e3:itemsD d with
  | none=>rw[e3] at e2;cases e2
  | some l1 =>
   cases e4:itemsD d' with
   | none=>rw[e3,e4] at e2;cases e2
   | some l2 =>
    rw[e3,e4] at e2;have e2:(if l1.length<=l2.length then some (aci l1 l2) else none)=some l:=e2
    split at e2
    ·rename_i hle;cases e2;cases r with
     | cons h1 t =>
      cases t with
      | cons h2 t =>
       cases t;obtain⟨b1,k1,w1,rfl,il1,hq1⟩:=atm e3 h1;obtain⟨b2,k2,w2,rfl,il2,hq2⟩:=atm e4 h2;exact⟨b1,b2,k1,k2,rfl,⟨w1,hq1 _ G'.sub⟩,⟨w2,hq2 _ G'.sub⟩,q _ H' F' G' x (asu hle il1 il2 hq1 hq2)⟩
    ·cases e2
end
end Dn
namespace Mn
open L2
section
variable{prog:Program}{w:World}{A:Around}{E:Value->Shared->Prop}{s:Shared}
theorem anb{l:Addr}{vs:List Value}{ns:List Int}{Q:Value->Shared->Prop}(hl:IsTup s.heap l vs.toArray)(hI:IntsAre vs ns)(h64:vs.length < 64)
  (h:∀(h1 h':Heap) (out:Array Value) (ns':List Int) (e:Nat),(∀b o,s.heap.get? b=some o->h1.get? b=some o)->(∀b o,h1.get? b=some o->h'.get? b=some o)->h'.get? h1.objs.size=some (seqObj "list" out e)->IntsAre out.toList ns'->ns'.Perm ns->ns'.Pairwise (· <= ·)->Q (.ref h1.objs.size) { s with heap:=h' }) :
  wpAny (model prog w) A (call (.builtin "sorted") [.ref l]) Q E s:=by
 obtain⟨o,ho,hc,n,hd⟩:=id hl;refine Calls.call_function_entry kind_sorted plain_sorted entry_sorted (args_sorted1 _) ?_;unfold Builtin.«sorted»
 refine wpAny_bind (m:=checkCount "sorted" 1 1 _) (wpAny_pure ?_);refine wpAny_bind (wpAny_collect_seq l (.inr rfl) ho hc hd (fun h1 k1 =>?_) (by rw[List.size_toArray,sizeLine_eq];omega))
 refine wpAny_bind (wpAny_newList ?_);have hoL:(h1.push (seqObj "list" vs.toArray 0)).get? h1.objs.size=some (seqObj "list" vs.toArray 0):=Heap.get?_push_size _ rfl;show wpAny _ _ _ _ _ { s with heap:=h1.push (seqObj "list" vs.toArray 0) }
 refine wpAny_bind (wpAny_holding (wpAny_call_entry slot_list_sort ⟨_,hoL,rfl⟩ entry_list_sort (list_sort_tree hoL hI h64 fun out ns' a1 a2 a3=>⟨_,rfl,?_⟩) (args_list_sort _)))
 obtain⟨e,he⟩:=sortedHeap_at (out:=out) hoL;exact wpAny_pure ⟨_,rfl,h h1 _ out ns' e k1 (fun b ob q=>by
  have hlt:b < h1.objs.size:=Heap.lt_size q;rw[sortedHeap_old (Nat.ne_of_lt hlt) (by rw[size_push'];exact Nat.lt_succ_of_lt hlt)]
  exact Heap.get?_push_of_some _ q) he a1 a2 a3⟩
end
end Mn
namespace Dn
open L2 Mn
section
variable{K:Fg9}{X:Cx}
def vg:D->Option Rv
 | .tup l=>(jo l).bind fun ns=>if ns.length < 64 then some (.fr ((sortI ns).map D.int)) else none
 | d=>ahp d
@[simp] theorem at4(l:List D):vg (.lst l)=ahp (.lst l):=rfl
theorem an8:CallD K X (.builtin "sorted") (g1 fun d=>match d with | .tup l=>(jo l).bind fun ns=>if ns.length < 64 then some (.fr ((sortI ns).map D.int)) else none | _=>none):=aa2 fun hk jv s σ0 H x u Q tg F ρ σ d r I ru G bd eg q=>by
 subst hk;cases d with
 | tup l =>
  have eg:(jo l).bind (fun ns=>if ns.length < 64 then some (Rv.fr ((sortI ns).map D.int)) else none)=some r:=eg
  cases e:jo l with
  | none=>rw[e] at eg;cases eg
  | some ns =>
   rw[e] at eg;have eg:(if ns.length < 64 then some (Rv.fr ((sortI ns).map D.int)) else none)=some r:=eg
   split at eg
   ·rename_i h64;cases eg;obtain⟨a,vs,rfl,ea,hl⟩:=bd.tup;rw[zb e] at hl;rw[hl.int_inv] at ea;cases ru;obtain⟨its,rv,pl,_⟩:=I.tuple (SqT.of (G.sub _ _ ea));have hlen:=rv.length;rw[List.length_map] at hlen;refine anb pl (intsAre_of rv) (by omega) fun h1 h' out ns' ep k1 k2 eo i1 hp hs =>?_
    have e':=aeb hp hs;subst e';have I1:=I.kept (h':=h1) (t':=s.toks) k1;have hn:H h1.objs.size=none:=I1.hok.fresh (Nat.le_refl _);refine⟨.ref h1.objs.size,upd H h1.objs.size (.lst ((sortI ns).map V.int)),?_,rfl,Res.lst G q (abe _) hn⟩;refine I1.laid (t':=s.toks) k2 (Nat.le_refl _) ?_;refine⟨?_,out.toList,ep,u5 i1,by simpa using eo⟩
    rw[List.length_map,(sortI_perm ns).length_eq];exact Nat.le_of_lt (ack (by omega))
   ·cases eg
 | _=>cases eg
theorem adx:CallD K X (.builtin "sorted") (g1 vg):=aa2 fun hk jv s σ0 H x u Q tg F ρ σ d r I ru G bd eg q=>by
 cases d with
 | tup l=>exact an8.go hk jv s σ0 H [x] [u] Q I (.cons ru .nil) ⟨tg,F,ρ,σ,[.tup l],r,G,.cons bd .nil,eg,q⟩
 | lst l=>exact aqq.go hk jv s σ0 H [x] [u] Q I (.cons ru .nil) ⟨tg,F,ρ,σ,[.lst l],r,G,.cons bd .nil,eg,q⟩
 | _=>cases eg
end
end Dn
namespace Stt
open PySem
def Rise(t:SetTable):Prop:=t.place.toList.Pairwise (· < ·)
theorem Rise.lt{t:SetTable}(h:Rise t){i j:Nat}{x y:Nat}(hij:i < j)(hx:t.place[i]? = some x)(hy:t.place[j]? = some y):x < y:=by
 obtain⟨hi,rfl⟩:=Array.getElem?_eq_some_iff.mp hx;obtain⟨hj,rfl⟩:=Array.getElem?_eq_some_iff.mp hy;have:=List.pairwise_iff_getElem.mp h i j (by simpa using hi) (by simpa using hj) hij
 simpa using this
def Cut(xs:Array Nat)(j p:Nat):Prop:=p<=xs.size/\(∀i x,i < p->xs[i]? = some x->x < j)/\∀i x,p<=i->xs[i]? = some x->j<=x
theorem ahz{xs:Array Nat}(hs:xs.toList.Pairwise (· < ·))(j:Nat):∀(fuel lo hi:Nat),hi - lo<=fuel->lo<=hi->hi<=xs.size->(∀i x,i < lo->xs[i]? = some x->x < j)->(∀i x,hi<=i->xs[i]? = some x->j<=x) ->
  Cut xs j (SetTable.below.go xs j fuel lo hi)
 | 0,lo,hi,hf,hle,hsz,a,b=>by
  have:lo=hi:=by omega
  subst this;exact⟨hsz,a,b⟩
 | fuel+1,lo,hi,hf,hle,hsz,a,b=>by
  unfold SetTable.below.go;split
  ·rename_i hlt;dsimp only;have hm:(lo+hi) / 2 < xs.size:=by omega
   have hg:xs.getD ((lo+hi) / 2) j=xs[(lo+hi) / 2]:=by simp[Array.getD,hm]
   have hx:xs[(lo+hi) / 2]? = some (xs[(lo+hi) / 2]):=by simp[hm]
   rw[hg]
   by_cases hc:xs[(lo+hi) / 2] < j
   ·rw[if_pos hc];refine ahz hs j fuel ((lo+hi) / 2+1) hi (by omega) (by omega) hsz (fun i x hi' hx' =>?_) b
    rcases Nat.lt_or_ge i ((lo+hi) / 2) with h | h
    ·exact Nat.lt_trans (Rise.lt (t:={ mask:=0,place:=xs,dummies := #[],finger:=0,led:=true,moves:=0,plain:=true }) hs h hx' hx) hc
    ·have:i=(lo+hi) / 2:=by omega
     subst this;rw[hx] at hx';cases hx';exact hc
   ·rw[if_neg hc];refine ahz hs j fuel lo ((lo+hi) / 2) (by omega) (by omega) (by omega) a (fun i x hi' hx' =>?_)
    rcases Nat.lt_or_ge ((lo+hi) / 2) i with h | h
    ·exact Nat.le_trans (Nat.not_lt.mp hc) (Nat.le_of_lt (Rise.lt (t:={ mask:=0,place:=xs,dummies := #[],finger:=0,led:=true,moves:=0,plain:=true }) hs h hx hx'))
    ·have:i=(lo+hi) / 2:=by omega
     subst this;rw[hx] at hx';cases hx';omega
  ·have:lo=hi:=by omega
   subst this;exact⟨hsz,a,b⟩
theorem afr{xs:Array Nat}(hs:xs.toList.Pairwise (· < ·))(j:Nat):Cut xs j (SetTable.below xs j) :=
 ahz hs j xs.size 0 xs.size (by omega) (Nat.zero_le _) (Nat.le_refl _) (fun i x h _=>absurd h (Nat.not_lt_zero _)) fun i x h hx=>by
  obtain⟨h',_⟩:=Array.getElem?_eq_some_iff.mp hx;omega
theorem an9{t:SetTable}(h:Rise t):SetTable.below t.place 0=0:=by
 obtain⟨hp,a,b⟩:=afr h 0;rcases Nat.eq_zero_or_pos (SetTable.below t.place 0) with h0 | h0
 ·exact h0
 ·have h1:0 < t.place.size:=by omega
  exact absurd (a 0 t.place[0] h0 (by simp[h1])) (Nat.not_lt_zero _)
theorem aoa{t:SetTable}(h:Rise t){i x:Nat}(hx:t.place[i]? = some x):SetTable.below t.place (x+1)=i+1:=by
 obtain⟨hp,a,b⟩:=afr h (x+1);rcases Nat.lt_trichotomy (SetTable.below t.place (x+1)) (i+1) with h1 | h1 | h1
 ·have:=b i x (by omega) hx
  omega
 ·exact h1
 ·have h2:i+1 < t.place.size:=by omega
  have h3:t.place[i+1]? = some t.place[i+1]:=by simp[h2]
  have:=a (i+1) _ h1 h3;have:=h.lt (Nat.lt_succ_self i) hx h3;omega
theorem akd{t:SetTable}(h:Rise t){j:Nat}(hj:t.place[SetTable.below t.place j]? ≠ some j):(SetTable.insertAt t.place (SetTable.below t.place j) j).toList.Pairwise (· < ·):=by
 obtain⟨hp,a,b⟩:=afr h j;rw[SetTable.toList_insertAt];generalize hq:SetTable.below t.place j=p at *;rw[List.pairwise_append];refine⟨List.Pairwise.sublist (List.take_sublist _ _) h,?_,?_⟩
 ·rw[List.pairwise_cons];refine⟨fun y hy =>?_,List.Pairwise.sublist (List.drop_sublist _ _) h⟩
  obtain⟨i,hi,rfl⟩:=List.mem_iff_getElem.mp hy;rw[List.length_drop,Array.length_toList] at hi;rw[List.getElem_drop,Array.getElem_toList];have h1:t.place[p+i]? = some t.place[p+i]:=by simp
  have h2:=b (p+i) _ (by omega) h1
  rcases Nat.eq_or_lt_of_le h2 with e | e
  ·exfalso;rcases Nat.eq_zero_or_pos i with z | z
   ·subst z;exact hj (by rw[e];exact h1)
   ·have h3:t.place[p]? = some t.place[p]:=by simp
    have h4:=h.lt (show p < p+i by omega) h3 h1
    have h5:=b p _ (Nat.le_refl _) h3;omega
  ·exact e
 ·intro x hx y hy;have hxj:x < j:=by
   obtain⟨i,hi,rfl⟩:=List.mem_iff_getElem.mp hx;rw[List.length_take,Array.length_toList] at hi;rw[List.getElem_take,Array.getElem_toList];exact a i _ (by omega) (by simp)
  rcases List.mem_cons.mp hy with rfl | hy
  ·exact hxj
  ·obtain⟨i,hi,rfl⟩:=List.mem_iff_getElem.mp hy;rw[List.length_drop,Array.length_toList] at hi;rw[List.getElem_drop,Array.getElem_toList];have:=b (p+i) t.place[p+i] (by omega) (by simp)
   omega
def Away(t:SetTable)(j:Nat):Prop:=t.place[SetTable.below t.place j]? ≠ some j
theorem ah8{t:SetTable}{j:Nat}(h:∀i,t.slot j≠.live i):Away t j:=fun e=>h (SetTable.below t.place j) (by
 unfold SetTable.slot;dsimp only;rw[if_pos (by rw[e];exact beq_self_eq_true _)])
theorem adk{t:SetTable}{f:Nat->Int}{h:Int}:∀(fuel:Nat) (p:SetTable.Probe) (j:Nat) (d:Option Nat),(∀x,p.dummy=some x->Away t x)->SetTable.probe.go t f h fuel p=some (.empty j d)->Away t (d.getD j)
 | 0,p,j,d,_,e=>by cases e
 | fuel+1,p,j,d,hd,e=>by
  unfold SetTable.probe.go at e;have adv:∀q:SetTable.Probe,(t.advance q).dummy=q.dummy:=fun q=>by unfold SetTable.advance;split <;> rfl
  split at e
  ·rename_i hs;cases e;cases hq:p.dummy with
   | none=>exact ah8 fun i z=>by rw[Option.getD_none,hs] at z;cases z
   | some x=>exact hd x hq
  ·rename_i hs;refine adk fuel _ j d (fun x hx =>?_) e
   rw[adv] at hx;cases hx;exact ah8 fun i z=>by rw[hs] at z;cases z
  ·split at e
   ·cases e
   ·exact adk fuel _ j d (fun x hx=>by rw[adv] at hx;exact hd x hx) e
theorem ap4{t:SetTable}{h:Int}{j:Nat}{b:Bool}(e:t.freeSlot h=some (j,b)):Away t j:=by
 unfold SetTable.freeSlot at e;split at e
 ·rename_i j' d hp;cases e;exact adk _ _ j' d (fun x hx=>by cases hx) hp
 ·cases e
theorem anl(n:Nat):(Array.range n).toList.Pairwise (· < ·):=by
 rw[Array.toList_range];exact List.pairwise_lt_range
def Kept(b:Bool)(t:SetTable):Prop:=Rise t/\t.led=b
theorem Kept.standIn{b:Bool}{t:SetTable}(h:Kept b t)(n:Nat):Kept b (t.standIn n):=⟨anl n,h.2⟩
theorem akz{b:Bool}{t:SetTable}(h:Kept b t)(es:Array (Int×Value))(k:Int)(x:Value):Kept b (layNew t es k x).2.1:=by
 unfold layNew;split
 ·rename_i slot wd e;dsimp only;have h':Kept b (t.put slot).1:=⟨akd h.1 (ap4 e),h.2⟩;unfold SetTable.orStandIn;split
  ·exact h'
  ·exact h'.standIn _
 ·exact h.standIn _
theorem apn{m f mv:Nat}{b p:Bool}{hs:Array Int}{t:SetTable}{o:Array Nat}(e:SetTable.laid m f mv b p hs=some (t,o)):Kept b t:=by
 unfold SetTable.laid at e;cases e1:SetTable.layClean m hs with
 | none=>rw[e1] at e;cases e
 | some ow =>
  rw[e1] at e;cases e;refine⟨?_,rfl⟩;show List.Pairwise _ _;dsimp only;have h0:((List.range (m+1)).filterMap fun j=>(ow.getD j none).map (j,·)).map (·.1)=(List.range (m+1)).filter fun j=>(ow.getD j none).isSome:=by
   generalize List.range (m+1)=l
   induction l with
   | nil=>rfl
   | cons a r ih =>
    cases h:ow.getD a none with
    | none=>simp only[List.filterMap_cons,List.filter_cons,h,Option.map_none,Option.isSome_none];simpa using ih
    | some z=>simp only[List.filterMap_cons,List.filter_cons,h,Option.map_some,Option.isSome_some,List.map_cons];simpa using ih
  rw[h0];exact List.Pairwise.sublist List.filter_sublist List.pairwise_lt_range
theorem anj{b:Bool}{t:SetTable}(h:Kept b t)(es:Array (Int×Value))(n:Nat):Kept b (relayAll t es n).2.1:=by
 unfold relayAll;split
 ·rename_i t' o e;dsimp only;split
  ·have:=apn e;rw[h.2] at this;exact this
  ·exact h.standIn _
 ·exact h.standIn _
theorem an6(b:Bool):Kept b (.fresh 0 0 b):=⟨List.Pairwise.nil,rfl⟩
open PySem.Spec PyProof.Rows
def keyE(e:Int×Value):Int:=match e.2 with
 | .int k _=>k
 | _=>0
def Ent(e:Int×Value):Prop:=∃k u,e=(hashInt k,Value.int k u)
structure SetG (w:World) (es:Array (Int×Value)) (t:SetTable) (ns:List Int):Prop where
 ent:∀e∈es.toList,Ent e
 nd:(es.toList.map keyE).Nodup
 mem:∀k,k∈es.toList.map keyE↔k∈ns
 fit:t.fits es.size=true
 kept:Kept (!w.params.followText "set-order") t
def setO(es:Array (Int×Value))(ep:Nat)(t:SetTable):Obj:={ cls:=.type "set", dict:=none,data:=.set es ep t }
theorem SetG.elems{prog:Program}{w:World}{es:Array (Int×Value)}{t:SetTable}{ns:List Int}(g:SetG w es t ns):ElemsOf (intKind prog w) es.toList:=fun e he=>by
 obtain⟨k,u,rfl⟩:=g.ent e he;exact⟨⟨k,intKind_is _ _ _ _,rfl⟩,rfl⟩
theorem SetG.empty(w:World):SetG w #[] (.fresh 0 0 (!w.params.followText "set-order")) []:=⟨fun e he=>by simp at he,List.Pairwise.nil,fun k=>by simp,rfl,an6 _⟩
theorem aqf{e:Int×Value}(h:Ent e)(k:Int):Value.isInt k e.2=true↔keyE e=k:=by
 obtain⟨j,u,rfl⟩:=h;simp[Value.isInt,keyE]
theorem SetG.push{w:World}{es es':Array (Int×Value)}{t t':SetTable}{ns:List Int}{k:Int}{u:Tok}(g:SetG w es t ns)(hn:k∉es.toList.map keyE)(hp:es'.toList.Perm (es.push (hashInt k,.int k u)).toList)(hf:t'.fits es'.size=true)
  (hk:Kept (!w.params.followText "set-order") t'):SetG w es' t' (ns++[k]):=by
 rw[Array.toList_push] at hp;have hm:=hp.map keyE;rw[List.map_append] at hm;refine⟨fun e he =>?_,?_,fun j =>?_,hf,hk⟩
 ·rcases List.mem_append.mp (hp.mem_iff.mp he) with h | h
  ·exact g.ent e h
  ·rw[List.mem_singleton] at h;exact⟨k,u,h⟩
 ·rw[hm.nodup_iff,List.nodup_append];refine⟨g.nd,by simp,fun a ha b hb e =>?_⟩
  simp only[List.map_cons,List.map_nil,List.mem_singleton] at hb;subst hb;subst e;exact hn ha
 ·rw[hm.mem_iff,List.mem_append,List.mem_append,g.mem j];rfl
theorem SetG.perm{w:World}{es es':Array (Int×Value)}{t t':SetTable}{ns:List Int}(g:SetG w es t ns)(hp:es'.toList.Perm es.toList)(hf:t'.fits es'.size=true)(hk:Kept (!w.params.followText "set-order") t'):SetG w es' t' ns :=
 ⟨fun e he=>g.ent e (hp.mem_iff.mp he),(hp.map keyE).nodup_iff.mpr g.nd,fun k=>by rw[(hp.map keyE).mem_iff,g.mem k],hf,hk⟩
section
variable{prog:Program}{w:World}{A:Around}{E:Value->Shared->Prop}{s:Shared}
theorem alp{h:Heap}{a:Addr}{es es':Array (Int×Value)}{ep:Nat}{t t':SetTable}(ho:h.get? a=some (setO es ep t)):(h.update a (Obj.putSet es' t')).get? a=some (setO es' (ep+1) t'):=by
 have:=Heap.get?_update_self (Obj.putSet es' t') ho (by rw[putSet_of es' t' (o:=setO es ep t) rfl];rfl)
 rw[putSet_of es' t' (o:=setO es ep t) rfl] at this;exact this
theorem aub{a:Addr}{es es1:Array (Int×Value)}{ep:Nat}{t t2:SetTable}{ns:List Int}(g:Bool->Sem Unit)(hg:∀(b:Bool) (s₁:Shared) (Q':Unit->Shared->Prop),Q' () s₁->wpAny (model prog w) A (g b) Q' E s₁)
  (ho:s.heap.get? a=some (setO es ep t)) (G:SetG w es1 t2 ns) (hb:es1.size < scanBound) {wasDummy:Bool} {R:Option Bool->Shared->Prop}
  (h:∀h' es' ep' t',Heap.SameBut a s.heap h'->h'.get? a=some (setO es' ep' t')->SetG w es' t' ns->es'.size=es1.size->R (some true) { s with heap:=h' }) :
  wpAny (model prog w) A (do
    storeSet a es1 t2
    if (!wasDummy&&t2.tooFull)=true then do
      g (relayAll t2 es1 (SetTable.grown es1.size)).2.2
      storeSet a (relayAll t2 es1 (SetTable.grown es1.size)).1 (relayAll t2 es1 (SetTable.grown es1.size)).2.1
      pure (some true)
     else pure (some true)) R E s:=by
 refine wpAny_bind (wpAny_storeSet_of ho rfl ?_ (fits_of_scanBound hb));have h1:=alp (es':=es1) (t':=t2) ho;have b1:=Heap.SameBut.update s.heap a (Obj.putSet es1 t2);split
 ·have hp:=relayAll_perm t2 es1 (SetTable.grown es1.size);have hsz:(relayAll t2 es1 (SetTable.grown es1.size)).1.size=es1.size:=by rw[<-Array.length_toList,hp.length_eq,Array.length_toList]
  refine wpAny_bind (hg _ _ _ ?_);refine wpAny_bind (wpAny_storeSet_of h1 rfl ?_ (fits_of_scanBound (by rw[hsz];exact hb)))
  exact wpAny_pure (h _ _ _ _ (b1.trans (Heap.SameBut.update _ a _)) (alp h1) (G.perm hp (relayAll_fits _ _ _) (anj G.kept _ _)) hsz)
 ·exact wpAny_pure (h _ _ _ _ b1 h1 G rfl)
theorem azf{a:Addr}{es:Array (Int×Value)}{ep:Nat}{t:SetTable}{ns:List Int}{k:Int}{u:Tok}{Q:Bool->Shared->Prop}(ho:s.heap.get? a=some (setO es ep t))(G:SetG w es t ns)(hb:es.size+1 < scanBound)
  (h:∀h' es' ep' t' b,Heap.SameBut a s.heap h'->h'.get? a=some (setO es' ep' t')->SetG w es' t' (ns++[k])->es'.size<=es.size+1->Q b { s with heap:=h' }) :
  wpAny (model prog w) A (setAddHashed a (.int k u) (hashInt k)) Q E s:=by
 have hel:ElemsOf (intKind prog w) es.toList:=G.elems;have hkey:(intKind prog w).is k (.int k u)=true:=intKind_is _ _ _ _;unfold setAddHashed setAddHashedIn;refine wpAny_holding (wpAny_bind (wpAny_setState_of ho rfl G.fit ?_));dsimp only;rw[byScan_of (knd:=intKind prog w) rfl (by omega) hel]
 simp only[↓reduceIte];unfold setAddByScan;refine wpAny_bind ?_;refine wpAny_bind (wpAny_rule ?_);refine wpAny_bind (wpAny_setScan_of (knd:=intKind prog w) hkey ho rfl G.fit hel ?_);cases hr:List.findIdx? (fun e=>(intKind prog w).is k e.2) es.toList with
 | some j =>
  dsimp only;obtain⟨hj,hpj,_⟩:=List.findIdx?_eq_some_iff_getElem.mp hr;have hin:k∈es.toList.map keyE:=List.mem_map.mpr ⟨_,List.getElem_mem hj,(aqf (G.ent _ (List.getElem_mem hj)) k).mp hpj⟩;refine wpAny_pure (wpAny_pure ?_);refine h s.heap es ep t _ (Heap.SameBut.refl a s.heap) ho ⟨G.ent,G.nd,fun j' =>?_,G.fit,G.kept⟩ (by omega)
  rw[List.mem_append,List.mem_singleton,G.mem j'];exact⟨.inl,fun z=>z.elim id fun z=>z▸(G.mem k).mp hin⟩
 | none =>
  dsimp only;have hout:k∉es.toList.map keyE:=fun z=>by
   obtain⟨e,he,hk⟩:=List.mem_map.mp z;have h1:=List.findIdx?_eq_none_iff.mp hr e he;have h2:(intKind prog w).is k e.2=true:=(aqf (G.ent e he) k).mpr hk;rw[h2] at h1;cases h1
  have hgw:∀(b:Bool) {s₁:Shared} {Q':Unit->Shared->Prop},Q' () s₁->wpAny (model prog w) A (match b with | true=>rule "set.scan.the-table-gave-way" | false=>pure ()) Q' E s₁ :=
   fun b s₁ Q' hq=>by cases b <;> first | exact wpAny_pure hq | exact wpAny_rule hq
  have hperm:=layNew_perm t es (hashInt k) (.int k u);have hfits:=layNew_fits t es (hashInt k) (.int k u);have hkept:=akz G.kept es (hashInt k) (.int k u);show wpAny (model prog w) A _ _ _ _
  change wpAny (model prog w) A (match layNew t es (hashInt k) (.int k u) with | (es,t,wasDummy,gave)=>_) _ _ _
  generalize hL:layNew t es (hashInt k) (.int k u)=L at hperm hfits hkept ⊢
  obtain⟨es1,t1,wasDummy,gave⟩:=L;dsimp only at hperm hfits hkept ⊢
  have G1:=G.push hout hperm hfits hkept;have hsz1:es1.size=es.size+1:=by rw[<-Array.length_toList,hperm.length_eq,Array.length_toList,Array.size_push]
  refine wpAny_bind (hgw _ ?_);split
  ·refine wpAny_bind ?_;rw[hashByValue_scannable 8 rfl];refine wpAny_pure ?_;refine aub _ ?_ ho (ns:=ns++[k]) ?_ (by omega) ?_
   ·intro b s₁ Q' hq;cases b <;> first | exact wpAny_pure hq | exact wpAny_rule hq
   ·exact G1
   ·intro h' es' ep' t' hsb ho' G' hz;exact wpAny_pure (h h' es' ep' t' _ hsb ho' G' (by omega))
  ·refine wpAny_bind (wpAny_pure ?_);simp only[↓reduceIte];refine aub _ ?_ ho (ns:=ns++[k]) G1 (by omega) ?_
   ·intro b s₁ Q' hq;cases b <;> first | exact wpAny_pure hq | exact wpAny_rule hq
   ·intro h' es' ep' t' hsb ho' G' hz;exact wpAny_pure (h h' es' ep' t' _ hsb ho' G' (by omega))
end
section
variable{prog:Program}{w:World}{A:Around}{R:Result->Shared->Prop}{I:Addr}{fp wr:List Addr}{G:Array GenState->Array GenState->Prop}{n:Nat}{P:Nat->Value->Prop}{St:Nat->Shared->Prop}
theorem aue(W:WalksS prog w A.in1 I fp wr G n P St)(S:Addr)(hSf:S∉fp)(val:Nat->Int)(hval:∀i v,P i v->∃t,v=.int (val i) t)(hb:n+1 < scanBound) :
  ∀(k i:Nat) (s:Shared) (es:Array (Int×Value)) (ep:Nat) (t:SetTable),n - i=k->i<=n->St i s->s.heap.get? S=some (setO es ep t)->SetG w es t ((List.range i).map val)->es.size<=i ->
   (∀s' es' ep' t',Moved (S::wr) G s s'->s'.heap.get? S=some (setO es' ep' t')->SetG w es' t' ((List.range n).map val)->es'.size<=n->R (.ok (.ret .none)) s') ->
   codeAny (model prog w) A (.builtin "set.update.loop" ⟨[.ref S,.ref I],[]⟩) R s:=by
 have hSw:S∉wr:=fun h=>hSf (W.sub _ h)
 have hsub:∀b∈wr,b∈S::wr:=fun b hb=>List.mem_cons_of_mem _ hb
 intro k
 induction k with
 | zero =>
  intro i s es ep t hk hi hst ho g hz hR;have hin:i=n:=by omega
  subst hin;refine codeAny_builtin F.entry_set_update_loop ?_;rw[Around.under_plainId F.plain_set_update_loop _];show wpAny _ A.in1 (pyNext (.ref I) >>= _) _ _ s;refine wpAny_bind (W.done s _ _ hst fun s' hm =>?_)
  show wpAny _ A.in1 (ret Value.none) _ _ s';exact wpAny_pure (hR s' es ep t (hm.mono hsub) (hm.heap S _ hSw ho) g hz)
 | succ k ih =>
  intro i s es ep t hk hi hst ho g hz hR;have hlt:i < n:=by omega
  refine codeAny_builtin F.entry_set_update_loop ?_;rw[Around.under_plainId F.plain_set_update_loop _];show wpAny _ A.in1 (pyNext (.ref I) >>= _) _ _ s;refine wpAny_bind (W.item i s _ _ hlt hst fun v s' hP hst' hm =>?_)
  obtain⟨u,rfl⟩:=hval i v hP;have ho':s'.heap.get? S=some (setO es ep t):=hm.heap S _ hSw ho;show wpAny _ A.in1 (holding [Value.int (val i) u] (setAdd S (.int (val i) u)) >>= _) _ _ s';refine wpAny_bind (wpAny_holding ?_);unfold setAdd;refine wpAny_holding ?_;refine wpAny_bind ((intKind prog w).pyHash (k:=val i) (intKind_is _ _ _ _) ?_);refine azf (s:={ s' with toks:=s'.toks+1 }) (u:=u) (k:=val i) ho' g (by omega) fun h' es' ep' t' b hsb ho2 g2 hz2 =>?_
  have g3:SetG w es' t' ((List.range (i+1)).map val):=by
   rw[List.range_succ,List.map_append];exact g2
  refine wpAny_pure ⟨plainId_quiet F.plain_set_update_loop _,ih (i+1) _ es' ep' t' (by omega) hlt (W.frame _ s' _ _ hst' (Nat.le_succ _) fun b hb o e =>?_) ho2 g3 (by omega) fun s'' es'' ep'' t'' hm'' ho'' g'' hz'' =>?_⟩
  ·rw[hsb.2 b (fun h:b=S=>hSf (by rw[<-h];exact hb))];exact e
  ·refine hR s'' es'' ep'' t'' (Moved.trans W.gtrans ((hm.mono hsub).then_heap (Nat.le_succ _) fun b o hb e =>?_) hm'') ho'' g'' hz''
   rw[hsb.2 b (fun h:b=S=>hb (by rw[h];exact List.mem_cons_self))];exact e
end
theorem sub_tuple_set:isSubtype (.type "tuple") (.type "set")=pure false:=by rw[isSubtype_type];kernel_rfl
theorem sub_tuple_frozenset:isSubtype (.type "tuple") (.type "frozenset")=pure false:=by rw[isSubtype_type];kernel_rfl
section
variable{prog:Program}{w:World}{A:Around}{E:Value->Shared->Prop}{s:Shared}
abbrev fresh0(w:World):Obj:=setO #[] 0 (.fresh 0 0 (!w.params.followText "set-order"))
theorem avf(a:Value){Q₁:Value->Shared->Prop}(h:Q₁ (.ref s.heap.objs.size) { s with heap:=s.heap.push (fresh0 w) }) :
  codeAny (model prog w) A (.call (.builtin "set.__new__") ⟨[.type "set", a],[]⟩) (wants Q₁ E) s:=by
 refine codeAny_of_tree ?_;show wpAny _ A.in1 (do checkBuiltinCall "set.__new__" ⟨[.type "set", a],[]⟩;again (.builtin "set.__new__" ⟨[.type "set", a],[]⟩)) _ _ s
 refine wpAny_bind (wpAny_of_eq (F.newCall_set_1 a) (wpAny_pure ⟨plainId_quiet F.plain_set_new _,codeAny_builtin F.entry_set_new ?_⟩));rw[Around.under_plainId F.plain_set_new _];unfold Builtin.«set.__new__» Builtin.Frozenset.newClass;have hsub:=sub_set_self;obtain⟨hp,g,d,tk,os⟩:=s;dsimp only;wp_walk;refine wpAny_askSetting (wpAny_pure ?_);dsimp only;simp only[newObj];refine wpAny_bind (wpAny_alloc (wpAny_pure ?_));exact wpAny_pure h
set_option maxRecDepth 100000 in
set_option maxHeartbeats 3200000 in
theorem awz{l:Addr}{items:Array Value}{ns:List Int}{Q:Value->Shared->Prop}(hh:A.handled=none)(hl:s.heap.IsTuple l items)(hi:IntsAre items.toList ns)(hb:items.size+1 < scanBound)
  (h:∀(h':Heap) (tk:Nat) es ep t,h'.get? s.heap.objs.size=some (setO es ep t)->SetG w es t ns->es.size<=items.size->(∀b o,s.heap.get? b=some o->h'.get? b=some o)->Q (.ref s.heap.objs.size) { s with heap:=h',toks:=tk }) :
  wpAny (model prog w) A (call (.type "set") [.ref l]) Q E s:=by
 obtain⟨c,tl,hmro⟩:=F.called_set.mro;have hmade:=F.called_set.made;have hsub:=F.called_set.sub;refine wpAny_call (codeAny_of_tree ?_);show wpAny _ _ (callAny (.type "set") _) _ _ _;refine wpAny_pure ⟨Code.quiet_builtin _ (by decide +kernel),codeAny_builtin F.entry_type_call ?_⟩
 rw[Around.under_plain (weight_type_call_type "set" [.ref l] []) rfl];have h1:=F.called_set.notType;have h2:=F.called_set.canCreate;have hct:=F.typeCall_set_1 (.ref l)
 repeat (any_goals (first | assumption | wp_step))
 refine codeAny_mono (avf (.ref l) (E:=E) (Q₁:=fun obj s₁=>obj=.ref s.heap.objs.size/\s₁={ s with heap:=s.heap.push (fresh0 w) }) ⟨rfl,rfl⟩) fun r s₁ hr =>?_
 cases r with
 | error e=>exact hr
 | ok fl =>
  cases fl with
  | ret obj =>
   obtain⟨rfl,rfl⟩:=hr;have hS:(s.heap.push (fresh0 w)).get? s.heap.objs.size=some (fresh0 w):=Heap.get?_push_size _ rfl;have hT:Shared.TypeIs { s with heap:=s.heap.push (fresh0 w) } (.ref s.heap.objs.size) "set" := ⟨_,hS,rfl⟩
   have hli:=F.called_set.init.lookup;have hbi:=F.called_set.init.bind (.ref s.heap.objs.size)
   repeat (any_goals (first | assumption | wp_step))
   refine codeAny_mono (codeAny_call_builtin (R:=wants (fun r s₂=>r=.none/\∃h' tk es ep t,s₂={ s with heap:=h',toks:=tk }/\h'.get? s.heap.objs.size=some (setO es ep t)/\SetG w es t ns/\es.size<=items.size /\
     (∀b o,s.heap.get? b=some o->h'.get? b=some o)) E) F.called_set.init.plain F.entry_set_init (check_set_init_1 hT ?_)) fun r₂ s₂ hr₂ =>?_
   ·obtain⟨ol,hol,hcl,nl,hdl⟩:=hl;obtain⟨ocls,odict,odata,oslots⟩:=ol;simp only at hcl hdl;subst hcl;subst hdl;have hol':(s.heap.push (fresh0 w)).get? l=some { cls:=.type "tuple", dict:=odict,data:=.seq items nl,slots:=oslots }:=Heap.get?_push_of_some _ hol;have hsls:=sub_tuple_set;have hslf:=sub_tuple_frozenset;have hne:(Value.type "tuple" == Value.type "dict")=false:=by decide
    have hl1:(s.heap.push (fresh0 w)).IsTuple l items:=⟨_,hol',rfl,nl,rfl⟩;unfold Builtin.«set.__init__» noKeywords Builtin.Frozenset.updateFrom;generalize hPI:pyIter=PI;wp_walk;subst hPI;refine wpAny_pyIter_tuple hl1 ?_;refine wpAny_bind (wpAny_runValue ?_);have hlS:l < s.heap.objs.size:=Heap.lt_size hol;have hh3:A.in1.in1.in1.handled=none:=by simp[hh]
    have hneI:l≠(s.heap.push (fresh0 w)).objs.size:=by
     rw[Heap.size_push];exact Nat.ne_of_lt (Nat.lt_succ_of_lt hlS)
    have hSf:s.heap.objs.size∉[(s.heap.push (fresh0 w)).objs.size,l]:=by
     rw[Heap.size_push];simp only[List.mem_cons,List.mem_singleton,List.not_mem_nil,or_false,not_or];exact⟨Nat.ne_of_lt (Nat.lt_succ_self _),Nat.ne_of_gt hlS⟩
    have hval:∀(i:Nat) (v:Value),items[i]? = some v->∃t,v=.int ((fun i=>ns.getD i 0) i) t:=fun i v hv =>
     PyProof.Rows.IntsAre.int_at hi i v (by rw[Array.getElem?_toList];exact hv)
    have hlen:items.size=ns.length:=by rw[<-Array.length_toList];exact hi.length
    have hns:(List.range items.size).map (fun i=>ns.getD i 0)=ns:=by
     rw[hlen];apply List.ext_getElem
     ·simp
     ·intro i h1 h2;simp[List.getD_eq_getElem?_getD,h2]
    refine aue ((Walks.tuple hh3 _ l hneI items).toS) s.heap.objs.size hSf (fun i=>ns.getD i 0) hval hb (items.size - 0) 0 _ #[] 0 _ (by omega) (Nat.zero_le _)
     ⟨⟨_,Heap.get?_push_size _ rfl,rfl,rfl⟩,(hl1.push _)⟩ (Heap.get?_push_of_some _ hS) (SetG.empty w) (Nat.zero_le _) ?hR
    case hR =>
     intro s' es ep t hm ho' g' hz';rw[hns] at g';obtain⟨h',g₀,d',tk',os'⟩:=s';have eg:g₀=s.gens:=hm.gens;have ed:d'=s.drawn:=hm.drawn;have eo:os'=s.os:=hm.os;subst eg;subst ed;subst eo;show wpAny _ _ _ _ _ _;refine wpAny_pure ?_;show wpAny _ _ (ret Value.none) _ _ _;refine wpAny_pure ⟨rfl,h',tk',es,ep,t,rfl,ho',g',hz',fun b o e =>?_⟩
     have hlt:=Heap.lt_size e;have hb1:b≠s.heap.objs.size:=Nat.ne_of_lt hlt;have hb2:b≠(s.heap.push (fresh0 w)).objs.size:=by
      rw[Heap.size_push];exact Nat.ne_of_lt (Nat.lt_succ_of_lt hlt)
     exact hm.heap b o (by simp only[List.mem_cons,List.mem_singleton,List.not_mem_nil,or_false,not_or];exact⟨hb1,hb2⟩) (Heap.get?_push_of_some _ (Heap.get?_push_of_some _ e))
   ·cases r₂ with
    | error e=>exact hr₂
    | ok fl₂ =>
     cases fl₂ with
     | ret r =>
      obtain⟨rfl,h',tk,es,ep,t,rfl,hS',g',hz',hk'⟩:=hr₂
      repeat (any_goals (first | assumption | wp_step))
      exact h _ _ _ _ _ hS' g' hz' hk'
     | _=>exact hr₂.elim
  | _=>exact hr.elim
end
theorem afy:entryFor table "set.__iter__" = some Builtin.«frozenset.__iter__» :=
 entryFor_alias (id' := "frozenset.__iter__") (by kernel_rfl) rfl (by decide +kernel) (by kernel_rfl)
theorem cz:Slot "set_iterator" "__next__" "set_iterator.__next__" :=
 .of (owner := "set_iterator") (n := "__next__") (by rw[typeLookup_type,builtinLookup_eq_fast];kernel_rfl) (by decide +kernel) (by decide +kernel) (by decide +kernel)
  (by first | exact .inl (by decide +kernel) | exact .inr (by decide +kernel)) (by rw[isSubtype_type];kernel_rfl)
theorem ud:entryFor table "set_iterator.__next__" = some Builtin.«set_iterator.__next__» := entryFor_of_tree (by kernel_rfl)
theorem adz:Slot "set_iterator" "__iter__" "set_iterator.__iter__" :=
 .of (owner := "set_iterator") (n := "__iter__") (by rw[typeLookup_type,builtinLookup_eq_fast];kernel_rfl) (by decide +kernel) (by decide +kernel) (by decide +kernel)
  (by first | exact .inl (by decide +kernel) | exact .inr (by decide +kernel)) (by rw[isSubtype_type];kernel_rfl)
theorem ahx:entryFor table "set_iterator.__iter__" = some Builtin.«dict_keyiterator.__iter__» :=
 entryFor_alias (id' := "dict_keyiterator.__iter__") (by kernel_rfl) rfl (by decide +kernel) (by kernel_rfl)
theorem al2:Manifest.owners.lookup (String.ofList ['r','o','t','a','r','e','t','i','_','t','e','s'].reverse)=some Manifest.sig_set_iterator:=by kernel_rfl
theorem vo(a:Value):argsOk "set_iterator.__next__" ⟨[a],[]⟩:=by
 unfold argsOk;rw[signature?_of (id := "set_iterator.__next__") (n:=['_','_','t','x','e','n','_','_']) (o:=['r','o','t','a','r','e','t','i','_','t','e','s']) (by kernel_rfl) al2];kernel_rfl
theorem aj2(a:Value):argsOk "set_iterator.__iter__" ⟨[a],[]⟩:=by
 unfold argsOk;rw[signature?_of (id := "set_iterator.__iter__") (n:=['_','_','r','e','t','i','_','_']) (o:=['r','o','t','a','r','e','t','i','_','t','e','s']) (by kernel_rfl) al2];kernel_rfl
def IsSI(h:Heap)(I S:Addr)(first:Value)(i n ep:Nat):Prop:=∃o,h.get? I=some o/\o.cls=.type "set_iterator" /\ o.data=.fields #[first,.int i 0,.ref S,.int n 0,.int ep 0]
theorem IsSI.typeIs{s:Shared}{I S:Addr}{first:Value}{i n ep:Nat}(x:IsSI s.heap I S first i n ep):s.TypeIs (.ref I) "set_iterator" := let ⟨o,ho,hc,_⟩:=x;⟨o,ho,hc⟩
theorem IsSI.at{h h':Heap}{I S:Addr}{first:Value}{i n ep:Nat}(x:IsSI h I S first i n ep)(e:∀o,h.get? I=some o->h'.get? I=some o):IsSI h' I S first i n ep:=let ⟨o,ho,r⟩:=x;⟨o,e _ ho,r⟩
section
variable{prog:Program}{w:World}{A:Around}{E:Value->Shared->Prop}{s:Shared}
theorem aj8{I S:Addr}{first:Value}{i n ep:Nat}{Q:Value->Shared->Prop}(hit:IsSI s.heap I S first i n ep)(h:Q (.ref I) s):wpAny (model prog w) A (pyIter (.ref I)) Q E s:=by
 refine wpAny_pyIter_slot hit.typeIs adz (wpAny_call_entry adz hit.typeIs ahx ?_ (aj2 _));show wpAny _ _ (ret (.ref I)) _ _ s;exact wpAny_pure ⟨_,rfl, "set_iterator", _,hit.typeIs,cz.lookup,h⟩
theorem aos{I S:Addr}{slot i:Nat}{es:Array (Int×Value)}{ep:Nat}{t:SetTable}{Q:Option Value->Shared->Prop}{x:Value}{slot':Nat}(hit:IsSI s.heap I S (.int slot 0) i es.size ep)(ho:s.heap.get? S=some (setO es ep t))(hf:t.fits es.size=true)
  (hn:∀(A':Around) (Q':Option (Value×Nat)->Shared->Prop) (E':Value->Shared->Prop),Q' (some (x,slot')) s->wpAny (model prog w) A' (setNext S slot i ep) Q' E' s)
  (hQ:∀h',IsSI h' I S (.int slot' 0) (i+1) es.size ep->Heap.SameBut I s.heap h'->Q (some x) { s with heap:=h' }) :
  wpAny (model prog w) A (pyNext (.ref I)) Q E s:=by
 obtain⟨o,hI,hc,hd⟩:=id hit;unfold pyNext;refine wpAny_bind (wpAny_attempt (wpAny_callSpecial?_slot (name:=Str.ofString "__next__") hit.typeIs cz
  (wpAny_call_entry cz hit.typeIs ud ?_ (vo _))))
 refine wpAny_bind (wpAny_pure ?_);refine wpAny_bind (wpAny_fieldsOf hI hd ?_);dsimp only;refine wpAny_bind (wpAny_setEntries_of ho rfl hf ?_);rw[if_neg (by simp)]
 simp only[Int.toNat_natCast];refine wpAny_bind (hn _ _ _ ?_);dsimp only;refine wpAny_bind (wpAny_setField hI hd (by simp) ?_)
 have h1:=Heap.get?_update_self (Obj.mapFields (·.setIfInBounds 0 (rawInt (slot':Int)))) hI (Obj.isFreed_of_fields (Obj.data_mapFields hd _));refine wpAny_bind (wpAny_setField h1 (Obj.data_mapFields hd _) (by simp) ?_)
 refine wpAny_pure ⟨_,rfl,wpAny_pure (hQ _ ?_ ((Heap.SameBut.update ..).trans (Heap.SameBut.update ..)))⟩;exact⟨_,Heap.get?_update_self _ h1 (Obj.isFreed_of_fields (Obj.data_mapFields (Obj.data_mapFields hd _) _)),(Obj.cls_mapFields ..).trans ((Obj.cls_mapFields ..).trans hc),by
  rw[Obj.data_mapFields (Obj.data_mapFields hd _)];simp[rawInt]⟩
theorem atl{I S:Addr}{slot i:Nat}{es:Array (Int×Value)}{ep:Nat}{t:SetTable}{Q:Option Value->Shared->Prop}(hh:A.handled=none)(hit:IsSI s.heap I S (.int slot 0) i es.size ep)(ho:s.heap.get? S=some (setO es ep t))(hf:t.fits es.size=true)
  (hn:∀(A':Around) (Q':Option (Value×Nat)->Shared->Prop) (E':Value->Shared->Prop),Q' none s->wpAny (model prog w) A' (setNext S slot i ep) Q' E' s)
  (hQ:∀h',Heap.ExtBut I s.heap h'->Q none { s with heap:=h' }):wpAny (model prog w) A (pyNext (.ref I)) Q E s:=by
 obtain⟨o,hI,hc,hd⟩:=id hit;unfold pyNext;refine wpAny_bind (wpAny_attempt (wpAny_callSpecial?_slot (name:=Str.ofString "__next__") hit.typeIs cz
  (wpAny_call_entry cz hit.typeIs ud ?_ (vo _))))
 refine wpAny_bind (wpAny_pure ?_);refine wpAny_bind (wpAny_fieldsOf hI hd ?_);dsimp only;refine wpAny_bind (wpAny_setEntries_of ho rfl hf ?_);rw[if_neg (by simp)]
 simp only[Int.toNat_natCast];refine wpAny_bind (hn _ _ _ ?_);dsimp only;refine wpAny_bind (wpAny_setField hI hd (by simp) ?_)
 show wpAny _ _ (newExc (.type "StopIteration") [] >>= _) _ _ _;refine wpAny_bind ?_;simp only[newExc,newTuple];refine wpAny_bind (wpAny_newObj_type ?_ (by size_fits))
 refine wpAny_bind (m:=firstArgMember _ _) (wpAny_of_eq (a:=Value.none) (by first | rfl | (simp only[firstArgMember];rfl)) ?_)
 refine wpAny_newObj_type ?_ (by size_fits)
 simp only[raiseNew];refine wpAny_bind (wpAny_handled ?_);rw[show A.in1.handled=none from hh]
 refine wpAny_bind (wpAny_pure (wpAny_throw ?_));refine wpAny_bind (wpAny_isInstance (T := "StopIteration") (b:=true) ⟨_,Heap.get?_push_size _ rfl,rfl⟩ isSubtype_stop ?_);exact wpAny_pure (hQ _ (((Heap.SameBut.update ..).extBut.push _).push _))
theorem arp{I S q:Addr}{i j m:Nat}{es:Array (Int×Value)}{ep:Nat}{t:SetTable}{Q:Option Value->Shared->Prop}{x:Int×Value}{ps:Array Value}(hit:IsSI s.heap I S (.ref q) i es.size ep)(ho:s.heap.get? S=some (setO es ep t))(hf:t.fits es.size=true)
  (hq:∃oq,s.heap.get? q=some oq/\oq.data=.seq ps m) (hp:ps[i]? = some (.int (j:Nat) 0)) (hx:es[j]? = some x)
  (hQ:∀h',IsSI h' I S (.ref q) (i+1) es.size ep->Heap.SameBut I s.heap h'->Q (some x.2) { s with heap:=h' }) :
  wpAny (model prog w) A (pyNext (.ref I)) Q E s:=by
 obtain⟨o,hI,hc,hd⟩:=id hit;obtain⟨oq,hoq,hdq⟩:=hq;unfold pyNext;refine wpAny_bind (wpAny_attempt (wpAny_callSpecial?_slot (name:=Str.ofString "__next__") hit.typeIs cz
  (wpAny_call_entry cz hit.typeIs ud ?_ (vo _))))
 refine wpAny_bind (wpAny_pure ?_);refine wpAny_bind (wpAny_fieldsOf hI hd ?_);dsimp only;refine wpAny_bind (wpAny_setEntries_of ho rfl hf ?_);rw[if_neg (by simp)]
 refine wpAny_bind (wpAny_seqItems hoq hdq ?_);dsimp only;simp only[Int.toNat_natCast,hp];unfold setNextDrawn;refine wpAny_bind (wpAny_bind (wpAny_setState_of ho rfl hf ?_));dsimp only;rw[if_neg (by simp)]
 rw[hx];refine wpAny_pure ?_;refine wpAny_bind (wpAny_setField hI hd (by simp) ?_)
 refine wpAny_pure ⟨_,rfl,wpAny_pure (hQ _ ?_ (Heap.SameBut.update ..))⟩;exact⟨_,Heap.get?_update_self _ hI (Obj.isFreed_of_fields (Obj.data_mapFields hd _)),(Obj.cls_mapFields ..).trans hc,by
  rw[Obj.data_mapFields hd];simp[rawInt]⟩
theorem aia{I S q:Addr}{i m:Nat}{es:Array (Int×Value)}{ep:Nat}{t:SetTable}{Q:Option Value->Shared->Prop}{ps:Array Value}(hh:A.handled=none)(hit:IsSI s.heap I S (.ref q) i es.size ep)(ho:s.heap.get? S=some (setO es ep t))(hf:t.fits es.size=true)
  (hq:∃oq,s.heap.get? q=some oq/\oq.data=.seq ps m) (hp:ps[i]? = none)
  (hQ:∀h',Heap.ExtBut I s.heap h'->Q none { s with heap:=h' }):wpAny (model prog w) A (pyNext (.ref I)) Q E s:=by
 obtain⟨o,hI,hc,hd⟩:=id hit;obtain⟨oq,hoq,hdq⟩:=hq;unfold pyNext;refine wpAny_bind (wpAny_attempt (wpAny_callSpecial?_slot (name:=Str.ofString "__next__") hit.typeIs cz
  (wpAny_call_entry cz hit.typeIs ud ?_ (vo _))))
 refine wpAny_bind (wpAny_pure ?_);refine wpAny_bind (wpAny_fieldsOf hI hd ?_);dsimp only;refine wpAny_bind (wpAny_setEntries_of ho rfl hf ?_);rw[if_neg (by simp)]
 refine wpAny_bind (wpAny_seqItems hoq hdq ?_);dsimp only;simp only[Int.toNat_natCast,hp];refine wpAny_bind (wpAny_setField hI hd (by simp) ?_)
 have h1:=Heap.get?_update_self (Obj.mapFields (·.setIfInBounds 0 (rawInt 0))) hI (Obj.isFreed_of_fields (Obj.data_mapFields hd _));refine wpAny_bind (wpAny_setField h1 (Obj.data_mapFields hd _) (by simp) ?_)
 show wpAny _ _ (newExc (.type "StopIteration") [] >>= _) _ _ _;refine wpAny_bind ?_;simp only[newExc,newTuple];refine wpAny_bind (wpAny_newObj_type ?_ (by size_fits))
 refine wpAny_bind (m:=firstArgMember _ _) (wpAny_of_eq (a:=Value.none) (by first | rfl | (simp only[firstArgMember];rfl)) ?_)
 refine wpAny_newObj_type ?_ (by size_fits)
 simp only[raiseNew];refine wpAny_bind (wpAny_handled ?_);rw[show A.in1.handled=none from hh]
 refine wpAny_bind (wpAny_pure (wpAny_throw ?_));refine wpAny_bind (wpAny_isInstance (T := "StopIteration") (b:=true) ⟨_,Heap.get?_push_size _ rfl,rfl⟩ isSubtype_stop ?_);exact wpAny_pure (hQ _ ((((Heap.SameBut.update ..).trans (Heap.SameBut.update ..)).extBut.push _).push _))
end
section
variable{prog:Program}{w:World}{A:Around}{E:Value->Shared->Prop}{s:Shared}
theorem afq{Q:Bool->Shared->Prop}(h:Q (w.params.followText "set-order") s):wpAny (model prog w) A setsByText Q E s:=by
 unfold setsByText;exact wpAny_bind (wpAny_askSetting (wpAny_pure h))
theorem anv{S:Addr}{slot g i j:Nat}{es:Array (Int×Value)}{ep:Nat}{t:SetTable}{e:Int×Value}{Q:Option (Value×Nat)->Shared->Prop}(ho:s.heap.get? S=some (setO es ep t))(hf:t.fits es.size=true)
  (hw:w.params.followText "set-order" = false) (hd:(!t.plain&&decide (es.size > 1))=false) (hl:t.led=true) (hb:SetTable.below t.place slot=i) (he:es[i]? = some e) (hp:t.place[i]? = some j)
  (h:Q (some (e.2,j+1)) s):wpAny (model prog w) A (setNext S slot g ep) Q E s:=by
 unfold setNext;refine wpAny_bind (wpAny_setState_of ho rfl hf ?_);dsimp only;refine wpAny_bind (afq ?_);rw[hw,if_neg (by simp)]
 show wpAny _ _ (if (!t.plain&&decide (es.size > 1))=true then _ else _) _ _ _
 rw[hd,if_neg (by simp)]
 refine wpAny_bind (m:=if (!t.led && !es.isEmpty)=true then _ else _) ?_
 rw[hl,if_neg (by simp)]
 refine wpAny_pure ?_;rw[hb,he,hp];exact wpAny_pure h
theorem apg{S:Addr}{slot g i:Nat}{es:Array (Int×Value)}{ep:Nat}{t:SetTable}{Q:Option (Value×Nat)->Shared->Prop}(ho:s.heap.get? S=some (setO es ep t))(hf:t.fits es.size=true)
  (hw:w.params.followText "set-order" = false) (hd:(!t.plain&&decide (es.size > 1))=false) (hl:t.led=true) (hb:SetTable.below t.place slot=i) (he:es[i]? = none)
  (h:Q none s):wpAny (model prog w) A (setNext S slot g ep) Q E s:=by
 unfold setNext;refine wpAny_bind (wpAny_setState_of ho rfl hf ?_);dsimp only;refine wpAny_bind (afq ?_);rw[hw,if_neg (by simp)]
 show wpAny _ _ (if (!t.plain&&decide (es.size > 1))=true then _ else _) _ _ _
 rw[hd,if_neg (by simp)]
 refine wpAny_bind (m:=if (!t.led && !es.isEmpty)=true then _ else _) ?_
 rw[hl,if_neg (by simp)]
 refine wpAny_pure ?_;rw[hb,he];exact wpAny_pure h
theorem ai1{S:Addr}{slot g:Nat}{es:Array (Int×Value)}{ep:Nat}{t:SetTable}{Q:Option (Value×Nat)->Shared->Prop}(ho:s.heap.get? S=some (setO es ep t))(hf:t.fits es.size=true)
  (hw:w.params.followText "set-order" = true) (h:Q (((pickOrder (w.params.setOrder S ep) es)[g]?).map fun e=>(e.2,slot)) s):wpAny (model prog w) A (setNext S slot g ep) Q E s:=by
 unfold setNext;refine wpAny_bind (wpAny_setState_of ho rfl hf ?_);dsimp only;refine wpAny_bind (afq ?_);rw[hw,if_pos rfl,if_neg (by simp)]
 unfold setWalk;refine wpAny_bind (wpAny_bind (wpAny_setState_of ho rfl hf ?_));dsimp only;refine wpAny_bind (afq ?_);rw[hw,if_pos rfl];exact wpAny_bind (wpAny_askSetting (wpAny_pure (wpAny_pure h)))
theorem adu{α:Type}:∀(l:List α) (i:Nat) (x:α),l[i]? = some x->(x::l.eraseIdx i).Perm l
 | [],i,x,h=>by simp at h
 | a::r,0,x,h=>by simp at h;subst h;exact .refl _
 | a::r,i+1,x,h=>by
  rw[List.getElem?_cons_succ] at h;exact(List.Perm.swap a x _).trans ((adu r i x h).cons a)
theorem ao9{α:Type}(next:Nat->Nat):∀(fuel k:Nat) (left:List α) (out:Array α),left.length=fuel->(pickOrder.go next fuel k left out).toList.Perm (out.toList++left)
 | 0,k,left,out,h=>by
  have:left=[]:=List.length_eq_zero_iff.mp h;subst this;show out.toList.Perm _;simp
 | fuel+1,k,left,out,h=>by
  have hlt:next k % left.length < left.length:=Nat.mod_lt _ (by omega)
  unfold pickOrder.go;have hx:left[next k % left.length]? = some left[next k % left.length]:=List.getElem?_eq_getElem hlt;rw[hx];dsimp only;have hlen:(left.eraseIdx (next k % left.length)).length=fuel:=by rw[List.length_eraseIdx_of_lt hlt];omega
  refine(ao9 next fuel (k+1) _ _ hlen).trans ?_;rw[Array.toList_push,List.append_assoc];exact List.Perm.append_left _ (adu _ _ _ hx)
theorem aev{α:Type}(next:Nat->Nat)(xs:Array α):(pickOrder next xs).toList.Perm xs.toList:=by
 have:=ao9 next xs.size 0 xs.toList #[] (by simp)
 simpa[pickOrder] using this
theorem agl:∀(n:Nat) {α:Type} (xs:List α) (s:Shared) (Q:List α->Shared->Prop),xs.length=n->(∀ys d,ys.Perm xs->Q ys { s with drawn:=d })->wpAny (model prog w) A (drawOrder n xs) Q E s
 | 0,α,xs,s,Q,h,q=>by
  have:xs=[]:=List.length_eq_zero_iff.mp h;subst this;exact wpAny_pure (q [] s.drawn (.refl _))
 | n+1,α,[],s,Q,h,q=>by cases h
 | n+1,α,x::r,s,Q,h,q=>by
  unfold drawOrder;intro Γ p hΓ;show(x::r).length≠0/\_;refine⟨by simp,?_⟩
  revert Γ p hΓ
  show wpAny _ _ (match (x::r)[(model prog w).w.draws .order (s.drawn.get .order) % (x::r).length]? with | some y=>_ | none=>_) _ _ _
  have hlt:(model prog w).w.draws .order (s.drawn.get .order) % (x::r).length < (x::r).length:=Nat.mod_lt _ (by simp)
  have hx:=List.getElem?_eq_getElem hlt;rw[hx];refine wpAny_bind (agl n _ _ _ (by rw[List.length_eraseIdx_of_lt hlt];simpa using h) fun ys d hp =>?_)
  exact wpAny_pure (q _ _ ((hp.cons _).trans (adu _ _ _ hx)))
end
def PW(ord:Array (Int×Value))(i:Nat)(v:Value):Prop:=∃e,ord[i]? = some e/\v=e.2
theorem aj9{h h':Heap}{I S:Addr}{o:Obj}(hne:S≠I)(ho:h.get? S=some o)(hs:Heap.SameBut I h h'):h'.get? S=some o:=(hs.2 S hne).trans ho
theorem ap7{t:SetTable}{n:Nat}(h:t.fits n=true):t.place.size=n:=by
 unfold SetTable.fits at h;rw[Bool.and_eq_true] at h;exact eq_of_beq h.1
section
variable{prog:Program}{w:World}{A:Around}
theorem ari(hh:A.handled=none)(I S:Addr)(hne:S≠I){es:Array (Int×Value)}{ep:Nat}{t:SetTable}(hf:t.fits es.size=true)(hw:w.params.followText "set-order" = true) :
  Walks prog w A I [I,S] [I] es.size (PW (pickOrder (w.params.setOrder S ep) es)) (fun i h=>IsSI h I S (.int (0:Nat) 0) i es.size ep/\h.get? S=some (setO es ep t)) where
 sub:=fun b hb=>by simp at hb;simp[hb]
 frame:=fun _ _ _ st hk=>⟨st.1.at fun o e=>hk I (by simp) o e,hk S (by simp) _ st.2⟩
 item:=fun i s Q E hi st hQ=>by
  have hsz:(pickOrder (w.params.setOrder S ep) es).size=es.size:=by rw[<-Array.length_toList,(aev _ _).length_eq,Array.length_toList]
  have hx:(pickOrder (w.params.setOrder S ep) es)[i]? = some (pickOrder (w.params.setOrder S ep) es)[i]:=by simp[hsz,hi]
  refine aos (x:=((pickOrder (w.params.setOrder S ep) es)[i]).2) (slot':=0) st.1 st.2 hf (fun A' Q' E' q=>ai1 st.2 hf hw (by rw[hx];exact q)) fun h' hit' hs' =>?_
  exact hQ _ h' s.toks ⟨_,hx,rfl⟩ ⟨hit',aj9 hne st.2 hs'⟩ fun b o hb e=>hs'.extBut b o (fun h=>hb (by simp[h])) e
 done:=fun s Q E st hQ=>by
  have hsz:(pickOrder (w.params.setOrder S ep) es).size=es.size:=by rw[<-Array.length_toList,(aev _ _).length_eq,Array.length_toList]
  refine atl hh st.1 st.2 hf (fun A' Q' E' q=>ai1 st.2 hf hw (by rw[Array.getElem?_eq_none (by omega)];exact q)) fun h' he'=>hQ h' s.toks fun b o hb e=>he' b o (fun h=>hb (by simp[h])) e
 self:=fun _ _ _ _ st hQ=>aj8 st.1 hQ
theorem aoi(hh:A.handled=none)(I S:Addr)(hne:S≠I){es:Array (Int×Value)}{ep:Nat}{t:SetTable}(hf:t.fits es.size=true)(hw:w.params.followText "set-order" = false)(hr:Rise t)(hd:(!t.plain&&decide (es.size > 1))=false)(hl:t.led=true) :
  Walks prog w A I [I,S] [I] es.size (PW es) (fun i h=>(∃slot:Nat,SetTable.below t.place slot=i/\IsSI h I S (.int slot 0) i es.size ep)/\h.get? S=some (setO es ep t)) where
 sub:=fun b hb=>by simp at hb;simp[hb]
 frame:=fun _ _ _ ⟨⟨slot,hb,st⟩,ho⟩ hk=>⟨⟨slot,hb,st.at fun o e=>hk I (by simp) o e⟩,hk S (by simp) _ ho⟩
 item:=fun i s Q E hi ⟨⟨slot,hb,st⟩,ho⟩ hQ=>by
  have hx:es[i]? = some es[i]:=by simp[hi]
  have hps:=ap7 hf;have hp:t.place[i]? = some (t.place[i]):=by simp[hps,hi]
  refine aos (x:=(es[i]).2) (slot':=t.place[i]+1) st ho hf (fun A' Q' E' q=>anv ho hf hw hd hl hb hx hp q) fun h' hit' hs' =>?_
  exact hQ _ h' s.toks ⟨_,hx,rfl⟩ ⟨⟨_,aoa hr hp,hit'⟩,aj9 hne ho hs'⟩ fun b o hb e=>hs'.extBut b o (fun h=>hb (by simp[h])) e
 done:=fun s Q E ⟨⟨slot,hb,st⟩,ho⟩ hQ=>by
  refine atl hh st ho hf (fun A' Q' E' q=>apg ho hf hw hd hl hb (Array.getElem?_eq_none (Nat.le_refl _)) q) fun h' he'=>hQ h' s.toks fun b o hb e=>he' b o (fun h=>hb (by simp[h])) e
 self:=fun _ _ _ _ ⟨⟨slot,hb,st⟩,ho⟩ hQ=>aj8 st hQ
theorem aoj(hh:A.handled=none)(I S q:Addr)(hne:S≠I)(hq:q≠I){es:Array (Int×Value)}{ep:Nat}{t:SetTable}(hf:t.fits es.size=true)(js:List Nat)(hj:js.Perm (List.range es.size)) :
  Walks prog w A I [I,S,q] [I] es.size (PW (js.map fun j=>es.getD j (0,.none)).toArray) (fun i h=>IsSI h I S (.ref q) i es.size ep/\h.get? S=some (setO es ep t)/\∃oq m,h.get? q=some oq/\oq.data=.seq (js.map fun(j:Nat)=>rawInt j).toArray m) where
 sub:=fun b hb=>by simp at hb;simp[hb]
 frame:=fun _ _ _ ⟨st,ho,oq,m,h1,h2⟩ hk=>⟨st.at fun o e=>hk I (by simp) o e,hk S (by simp) _ ho,oq,m,hk q (by simp) _ h1,h2⟩
 item:=fun i s Q E hi ⟨st,ho,oq,m,h1,h2⟩ hQ=>by
  have hlen:js.length=es.size:=by rw[hj.length_eq,List.length_range]
  have hjlt:js[i] < es.size:=List.mem_range.mp (hj.mem_iff.mp (List.getElem_mem (by omega)))
  have hx:es[js[i]]? = some es[js[i]]:=by simp[hjlt]
  refine arp (j:=js[i]) (x:=es[js[i]]) st ho hf ⟨oq,h1,h2⟩ (by simp[hlen,hi,rawInt]) hx fun h' hit' hs' =>?_
  refine hQ _ h' s.toks ⟨es[js[i]],?_,rfl⟩ ⟨hit',aj9 hne ho hs',oq,m,(hs'.2 q hq).trans h1,h2⟩ fun b o hb e=>hs'.extBut b o (fun h=>hb (by simp[h])) e
  simp[hlen,hi,Array.getD,hjlt]
 done:=fun s Q E ⟨st,ho,oq,m,h1,h2⟩ hQ=>by
  have hlen:js.length=es.size:=by rw[hj.length_eq,List.length_range]
  refine aia hh st ho hf ⟨oq,h1,h2⟩ (by simp[hlen]) fun h' he'=>hQ h' s.toks fun b o hb e=>he' b o (fun h=>hb (by simp[h])) e
 self:=fun _ _ _ _ st hQ=>aj8 st.1 hQ
variable{E:Value->Shared->Prop}{s:Shared}
theorem aov{S:Addr}{es:Array (Int×Value)}{ep:Nat}{t:SetTable}{Q:Bool->Shared->Prop}(ho:s.heap.get? S=some (setO es ep t))(hf:t.fits es.size=true)(h:Q (!w.params.followText "set-order" && (!t.plain&&decide (es.size > 1))) s) :
  wpAny (model prog w) A (setDrawn S) Q E s:=by
 unfold setDrawn;refine wpAny_bind (wpAny_setState_of ho rfl hf ?_);dsimp only;refine wpAny_bind (afq ?_);exact wpAny_pure h
theorem ars{S:Addr}{es:Array (Int×Value)}{ep:Nat}{t:SetTable}{ns:List Int}{Q:Value->Shared->Prop}(ho:s.heap.get? S=some (setO es ep t))(G:SetG w es t ns)(hb:es.size < scanBound)
  (h:∀(I:Addr) (fp:List Addr) (St:Nat->Heap->Prop) (ord:Array (Int×Value)) (s':Shared),(∀A':Around,A'.handled=none->Walks prog w A' I fp [I] es.size (PW ord) St)->St 0 s'.heap->ord.toList.Perm es.toList ->
   s.heap.objs.size<=I->(∀b∈fp,b=S∨s.heap.objs.size<=b)->(∀b o,s.heap.get? b=some o->s'.heap.get? b=some o)->s'.gens=s.gens->s'.os=s.os->s'.toks=s.toks->Q (.ref I) s') :
  wpAny (model prog w) A (pyIter (.ref S)) Q E s:=by
 have hT:s.TypeIs (.ref S) "set" := ⟨_,ho,rfl⟩;have hSlt:S < s.heap.objs.size:=Heap.lt_size ho;refine wpAny_pyIter_slot hT F.slot_set_iter (wpAny_call_entry F.slot_set_iter hT afy ?_ (F.args_set_iter_1 _));show wpAny _ _ (pure S >>= _) _ _ s;refine wpAny_bind (wpAny_pure ?_);unfold Builtin.Frozenset.sizeOf;refine wpAny_bind (wpAny_bind (wpAny_setEntries_of ho rfl G.fit (wpAny_pure ?_)));refine wpAny_bind (aov ho G.fit ?_);cases hw:w.params.followText "set-order" with
 | true =>
  rw[Bool.not_true,Bool.false_and,if_neg (by simp)]
  refine wpAny_bind (wpAny_pure ?_);refine wpAny_bind (wpAny_setEpoch_of ho rfl G.fit ?_);refine wpAny_bind (wpAny_newObj_type (wpAny_pure ⟨_,rfl, "set_iterator", _,⟨_,Heap.get?_push_size _ rfl,rfl⟩,cz.lookup,?_⟩));refine h s.heap.objs.size [s.heap.objs.size,S] _ _ _ (fun A' hh=>ari hh _ S (Nat.ne_of_lt hSlt) G.fit hw) ⟨⟨_,Heap.get?_push_size _ rfl,rfl,rfl⟩,Heap.get?_push_of_some _ ho⟩ (aev _ _) (Nat.le_refl _) (fun b hb =>?_) (fun b o e=>Heap.get?_push_of_some _ e) rfl rfl rfl
  simp only[List.mem_cons,List.not_mem_nil,or_false] at hb;rcases hb with rfl | rfl
  ·exact .inr (Nat.le_refl _)
  ·exact .inl rfl
 | false =>
  have hl:t.led=true:=by
   have:=G.kept.2;rw[hw] at this;exact this
  cases hd:(!t.plain&&decide (es.size > 1)) with
  | false =>
   rw[Bool.and_false,if_neg (by simp)]
   refine wpAny_bind (wpAny_pure ?_);refine wpAny_bind (wpAny_setEpoch_of ho rfl G.fit ?_);refine wpAny_bind (wpAny_newObj_type (wpAny_pure ⟨_,rfl, "set_iterator", _,⟨_,Heap.get?_push_size _ rfl,rfl⟩,cz.lookup,?_⟩));refine h s.heap.objs.size [s.heap.objs.size,S] _ _ _ (fun A' hh=>aoi hh _ S (Nat.ne_of_lt hSlt) G.fit hw G.kept.1 hd hl) ⟨⟨0,an9 G.kept.1,_,Heap.get?_push_size _ rfl,rfl,rfl⟩,Heap.get?_push_of_some _ ho⟩ (.refl _) (Nat.le_refl _) (fun b hb =>?_) (fun b o e=>Heap.get?_push_of_some _ e) rfl rfl rfl
   simp only[List.mem_cons,List.not_mem_nil,or_false] at hb;rcases hb with rfl | rfl
   ·exact .inr (Nat.le_refl _)
   ·exact .inl rfl
  | true =>
   rw[Bool.not_false,Bool.true_and,if_pos rfl];refine wpAny_bind (agl _ (List.range es.size) _ _ List.length_range fun js d hj =>?_)
   have hlen:js.length=es.size:=by rw[hj.length_eq,List.length_range]
   simp only[newTuple];refine wpAny_bind (wpAny_newObj_type ?_ (by show(js.map fun(i:Nat)=>rawInt i).toArray.size<=sizeLine;rw[List.size_toArray,List.length_map,hlen];exact fits_of_scanBound hb))
   refine wpAny_bind (wpAny_setEpoch_of (Heap.get?_push_of_some _ ho) rfl G.fit ?_);refine wpAny_bind (wpAny_newObj_type (wpAny_pure ⟨_,rfl, "set_iterator", _,⟨_,Heap.get?_push_size _ rfl,rfl⟩,cz.lookup,?_⟩));have hq:∀o:Obj,s.heap.objs.size≠(s.heap.push o).objs.size:=fun o=>by rw[Heap.size_push];exact Nat.ne_of_lt (Nat.lt_succ_self _)
   have hS2:∀o:Obj,S≠(s.heap.push o).objs.size:=fun o=>by rw[Heap.size_push];exact Nat.ne_of_lt (Nat.lt_succ_of_lt hSlt)
   refine h _ _ _ _ _ (fun A' hh=>aoj hh _ S s.heap.objs.size (hS2 _) (hq _) G.fit js hj) ⟨⟨_,Heap.get?_push_size _ rfl,rfl,rfl⟩,Heap.get?_push_of_some _ (Heap.get?_push_of_some _ ho),_,_,Heap.get?_push_of_some _ (Heap.get?_push_size _ rfl),rfl⟩ ?_ ?_ (fun b hb =>?_) (fun b o e=>Heap.get?_push_of_some _ (Heap.get?_push_of_some _ e)) rfl rfl rfl
   ·refine(hj.map _).trans ?_;have e:(List.range es.size).map (fun j=>es.getD j (0,Value.none))=es.toList:=by
     apply List.ext_getElem
     ·simp
     ·intro i h1 h2;have h3:i < es.size:=by simpa using h2
      simp[Array.getD,h3]
    rw[e]
   ·rw[Heap.size_push];exact Nat.le_succ _
   ·simp only[List.mem_cons,List.not_mem_nil,or_false] at hb;rcases hb with rfl | rfl | rfl
    ·right;rw[Heap.size_push];exact Nat.le_succ _
    ·exact .inl rfl
    ·exact .inr (Nat.le_refl _)
end
theorem afs:typeLookup (.type "set") "__len__" = pure (some (.builtin "set.__len__")):=by rw[typeLookup_type,builtinLookup_eq_fast];kernel_rfl
theorem ad3:∀{es:List (Int×Value)},(∀e∈es,Ent e)->IntsAre (es.map (·.2)) (es.map keyE)
 | [],_=>.nil
 | e::r,h=>by
  obtain⟨k,u,he⟩:=h e (List.mem_cons_self ..);subst he;exact .cons k u (ad3 fun e he=>h e (List.mem_cons_of_mem _ he))
theorem apr{ord:Array (Int×Value)}{acc:Array Value}{n:Nat}(h:ItemsOf (PW ord) acc n)(hn:ord.size=n):acc.toList=ord.toList.map (·.2):=by
 apply List.ext_getElem
 ·rw[List.length_map,Array.length_toList,Array.length_toList,h.1,hn]
 ·intro i h1 h2;obtain⟨e,he,hv⟩:=h.2 i acc.toList[i] (by rw[<-Array.getElem?_toList];exact List.getElem?_eq_getElem h1)
  rw[hv,List.getElem_map];rw[<-Array.getElem?_toList] at he;have h3:i < ord.toList.length:=by simpa using h2
  rw[List.getElem?_eq_getElem h3] at he;cases he;rfl
theorem aop{h:Heap}{a:Addr}{xs:Array Value}{n:Nat}(ho:h.get? a=some (seqObj "list" xs n))(vs:List Value)(out:Array Value):∃m,(sortedHeap h a vs out).get? a=some (seqObj "list" out m) :=
 ⟨_,get?_update_seq (Heap.get?_push_of_some _ (Heap.get?_push_of_some _ (get?_update_seq ho (fun _ => #[])))) (fun _=>out)⟩
theorem ane{h:Heap}{a b:Addr}{o:Obj}{vs:List Value}{out:Array Value}(e:h.get? b=some o)(hb:b≠a):(sortedHeap h a vs out).get? b=some o :=
 (Heap.get?_update_other _ _ (Ne.symm hb)).trans (Heap.get?_push_of_some _ (Heap.get?_push_of_some _ ((Heap.get?_update_other _ _ (Ne.symm hb)).trans e)))
section
variable{prog:Program}{w:World}{A:Around}{E:Value->Shared->Prop}{s:Shared}
theorem ale{S:Addr}{es:Array (Int×Value)}{ep:Nat}{t:SetTable}{ns:List Int}{Q:List Value->Shared->Prop}(hh:A.handled=none)(ho:s.heap.get? S=some (setO es ep t))(G:SetG w es t ns)(hb:es.size < scanBound)
  (hQ:∀(s':Shared) (acc:List Value) (ks:List Int),s.heap.objs.size < s'.heap.objs.size->(∀b o,s.heap.get? b=some o->s'.heap.get? b=some o)->s'.gens=s.gens->s'.os=s.os->IntsAre acc ks->ks.Perm (es.toList.map keyE)->Q acc s') :
  wpAny (model prog w) A (collect (.ref S)) Q E s:=by
 have hSlt:S < s.heap.objs.size:=Heap.lt_size ho;unfold collect;refine wpAny_bind (wpAny_runValue (codeAny_builtin F.entry_proto_collect ?_));rw[Around.under_plainId F.plain_proto_collect _];show wpAny _ A.in1 (newList [] >>= fun l=>again (.builtin "list.__iadd__" ⟨[l,.ref S],[]⟩)) _ _ s
 refine wpAny_bind (wpAny_newObj_type ?_);refine wpAny_pure ⟨plainId_quiet F.plain_list_iadd _,codeAny_builtin F.entry_list_iadd ?_⟩;rw[Around.under_plainId F.plain_list_iadd _];have ho1:(s.heap.push { cls:=.type "list", data:=.seq ([]:List Value).toArray }).get? S=some (setO es ep t):=Heap.get?_push_of_some _ ho;have hL:(s.heap.push { cls:=.type "list", data:=.seq ([]:List Value).toArray }).get? s.heap.objs.size=some { cls:=.type "list", data:=.seq ([]:List Value).toArray }:=Heap.get?_push_size _ rfl;have hold:∀b o,s.heap.get? b=some o->(s.heap.push { cls:=.type "list", data:=.seq ([]:List Value).toArray }).get? b=some o:=fun b o e=>Heap.get?_push_of_some _ e
 have hsz1:(s.heap.push { cls:=.type "list", data:=.seq ([]:List Value).toArray }).objs.size=s.heap.objs.size+1:=Heap.size_push _ _;show wpAny _ A.in1 (Builtin.List.listExtendWith (.ref s.heap.objs.size) (.ref S) (.ref s.heap.objs.size)) _ _ { s with heap:=s.heap.push { cls:=.type "list", data:=.seq ([]:List Value).toArray } }
 generalize s.heap.push { cls:=.type "list", data:=.seq ([]:List Value).toArray }=H1 at ho1 hL hold hsz1 ⊢
 unfold Builtin.List.listExtendWith;refine wpAny_bind (wpAny_typeOf (T := "set") ⟨_,ho1,rfl⟩ ?_);have h1:Builtin.List.listSameRef (.ref s.heap.objs.size) (.ref S)=false:=by simp[Builtin.List.listSameRef,Nat.ne_of_gt hSlt]
 have h2:(Value.type "set" == Value.type "list")=false:=by decide
 have h3:(Value.type "set" == Value.type "tuple")=false:=by decide
 simp only[h1,h2,h3,Bool.or_false,Bool.false_eq_true,if_false];refine wpAny_bind (ars (s:={ s with heap:=H1 }) ho1 G hb fun I fp St ord s2 W hst hord hI hfp hk2 hg2 ho2 ht2 =>?_)
 have hSs:s2.heap.get? S=some (setO es ep t):=hk2 _ _ ho1;have hLs:s2.heap.get? s.heap.objs.size=some { cls:=.type "list", data:=.seq ([]:List Value).toArray }:=hk2 _ _ hL;refine wpAny_bind (wpAny_holding ?_);unfold Builtin.List.listLengthHint;refine wpAny_bind (wpAny_specialOf (T := "set") ⟨_,hSs,rfl⟩ afs ?_);generalize hid:("set.__len__" : String)=id0
 wp_delta
 rw[show splitId id0=some ("set","__len__") from by subst hid;decide +kernel]
 subst hid;refine wpAny_bind (wpAny_isInstance (T := "set") (b:=true) ⟨_,hSs,rfl⟩ (by rw[isSubtype_type];kernel_rfl) ?_)
 show wpAny _ A.in1 (typeOf (Value.ref S) >>= _) _ _ _;refine wpAny_bind (wpAny_typeOf (T := "set") ⟨_,hSs,rfl⟩ ?_);refine wpAny_pure ?_;rw[if_pos (by decide)]
 refine wpAny_bind (wpAny_rule ?_);refine wpAny_bind ?_;show wpAny _ A.in1 (updateSeq s.heap.objs.size (·.push .none) >>= fun _=>updateSeq s.heap.objs.size (·.pop)) _ _ _
 refine wpAny_bind (wpAny_updateSeq hLs rfl ?_);have hS₂:=Heap.get?_update_self (Obj.mapSeq (·.push Value.none)) hLs rfl;refine wpAny_updateSeq hS₂ rfl ?_;have hS₃:=Heap.get?_update_self (Obj.mapSeq (·.pop)) hS₂ rfl;have oth:∀b o,b≠s.heap.objs.size->s2.heap.get? b=some o ->
   ((s2.heap.update s.heap.objs.size (Obj.mapSeq (·.push Value.none))).update s.heap.objs.size (Obj.mapSeq (·.pop))).get? b=some o :=
  fun b o hb e=>(Heap.get?_update_other _ _ (Ne.symm hb)).trans ((Heap.get?_update_other _ _ (Ne.symm hb)).trans e)
 have hSf:s.heap.objs.size∉fp:=fun hm=>by
  rcases hfp _ hm with e | e
  ·exact Nat.ne_of_gt hSlt e
  ·have e':s.heap.objs.size+1<=s.heap.objs.size:=hsz1▸e;exact Nat.not_succ_le_self _ e'
 have hIne:s.heap.objs.size+1<=I:=hsz1▸hI;refine wpAny_pure ⟨plainId_quiet F.plain_extend_loop _,codeAny_extend_loopS (W A.in1 hh).toS (fits_of_scanBound hb) _ hSf _ es.size 0 _ _ _ rfl (Nat.zero_le _)
  ((W A.in1 hh).frame 0 s2.heap _ hst fun b hb o e=>oth b o (fun h=>hSf (h▸hb)) e) hS₃ (ItemsOf.nil _) fun s' acc' c' hm hS' hacc =>?_⟩
 show wpAny _ A (load s.heap.objs.size >>= _) _ _ s';refine wpAny_bind (wpAny_load hS' ?_);have hosz:ord.size=es.size:=by rw[<-Array.length_toList,hord.length_eq,Array.length_toList]
 have hacc':=apr hacc hosz;refine wpAny_pure (hQ s' acc'.toList (ord.toList.map keyE) (Heap.lt_size hS') (fun b o e =>?_) (hm.gens.trans hg2) (hm.os.trans ho2) ?_ (hord.map _))
 ·have hlt:=Heap.lt_size e;refine hm.heap b o (fun hb =>?_) (oth b o (Nat.ne_of_lt hlt) (hk2 b o (hold b o e)))
  simp only[List.mem_cons,List.not_mem_nil,or_false] at hb;rcases hb with rfl | rfl
  ·exact Nat.lt_irrefl _ hlt
  ·exact absurd hlt (Nat.not_lt.mpr (Nat.le_trans (Nat.le_succ _) hIne))
 ·rw[hacc'];exact ad3 fun e he=>G.ent e (hord.mem_iff.mp he)
set_option maxHeartbeats 1000000 in
theorem anc{S:Addr}{es:Array (Int×Value)}{ep:Nat}{t:SetTable}{ns:List Int}{Q:Value->Shared->Prop}(hh:A.handled=none)(ho:s.heap.get? S=some (setO es ep t))(G:SetG w es t ns)(h64:es.size < 64)
  (h:∀(s':Shared) (a:Addr) (out:Array Value) (m:Nat) (ns':List Int),s.heap.objs.size<=a->(∀b o,s.heap.get? b=some o->s'.heap.get? b=some o)->s'.gens=s.gens->s'.os=s.os->s'.heap.get? a=some (seqObj "list" out m) ->
   IntsAre out.toList ns'->ns'.Perm (es.toList.map keyE)->ns'.Pairwise (· <= ·)->Q (.ref a) s') :
  wpAny (model prog w) A (call (.builtin "sorted") [.ref S]) Q E s:=by
 refine Calls.call_function_entry kind_sorted plain_sorted entry_sorted (args_sorted1 _) ?_;unfold Builtin.«sorted»
 refine wpAny_bind (m:=checkCount "sorted" 1 1 _) (wpAny_pure ?_);refine wpAny_bind (ale hh ho G (by unfold scanBound;omega) fun s1 acc ks hlt1 hk hg hos hI hp =>?_)
 have hlen:acc.length=es.size:=by rw[hI.length,hp.length_eq,List.length_map,Array.length_toList]
 refine wpAny_bind (wpAny_newList ?_);have hoL:(s1.heap.push (seqObj "list" acc.toArray 0)).get? s1.heap.objs.size=some (seqObj "list" acc.toArray 0):=Heap.get?_push_size _ rfl;show wpAny _ _ _ _ _ { s1 with heap:=s1.heap.push (seqObj "list" acc.toArray 0) }
 refine wpAny_bind (wpAny_holding (wpAny_call_entry slot_list_sort ⟨_,hoL,rfl⟩ entry_list_sort (list_sort_tree hoL hI (by omega) fun out ns' a1 a2 a3=>⟨_,rfl,?_⟩) (args_list_sort _)))
 obtain⟨m,hm⟩:=aop hoL acc out;refine wpAny_pure ⟨_,rfl,?_⟩;refine h _ s1.heap.objs.size out m ns' (Nat.le_of_lt hlt1) ?_ hg hos hm a1 (a2.trans hp) a3;intro b o e;exact ane (Heap.get?_push_of_some _ (hk b o e)) (Nat.ne_of_lt (Nat.lt_trans (Heap.lt_size e) hlt1))
end
end Stt
namespace Dn
open L2 Mn
def dedI:List Int->List Int
 | []=>[]
 | x::r=>if r.contains x then dedI r else x::dedI r
theorem acz:∀(l:List Int) (x:Int),x∈dedI l↔x∈l
 | [],x=>.rfl
 | y::r,x=>by
  unfold dedI;split
  ·rename_i h;rw[acz r x,List.mem_cons];exact⟨.inr,fun z=>z.elim (fun e=>e▸List.contains_iff_mem.mp h) id⟩
  ·rw[List.mem_cons,List.mem_cons,acz r x]
theorem aa9:∀l:List Int,(dedI l).Nodup
 | []=>List.Pairwise.nil
 | y::r=>by
  unfold dedI;split
  ·exact aa9 r
  ·rename_i h;exact List.Pairwise.cons (fun z hz e=>h (List.contains_iff_mem.mpr (e▸(acz r z).mp hz))) (aa9 r)
theorem ab7:∀l:List Int,(dedI l).length<=l.length
 | []=>Nat.le_refl _
 | y::r=>by
  unfold dedI;have:=ab7 r;split
  ·simp only[List.length_cons];omega
  ·simp only[List.length_cons];omega
theorem acu:∀{a b:List Int},a.Nodup->b.Nodup->(∀x,x∈a↔x∈b)->a.Perm b
 | [],b,_,_,h=>by
  cases b with
  | nil=>exact .refl _
  | cons y r=>exact absurd ((h y).mpr (List.mem_cons_self ..)) (List.not_mem_nil)
 | x::r,b,ha,hb,h=>by
  have hx:x∈b:=(h x).mp (List.mem_cons_self ..);have hp:=List.perm_cons_erase hx;refine(List.Perm.cons x (acu (List.Pairwise.of_cons ha) (hb.erase x) fun y =>?_)).trans hp.symm
  rw[hb.mem_erase_iff];have hxr:x∉r:=fun z=>(List.pairwise_cons.mp ha).1 x z rfl
  constructor
  ·intro hy;exact⟨fun e=>hxr (e▸hy),(h y).mp (List.mem_cons_of_mem _ hy)⟩
  ·rintro⟨hne,hy⟩
   exact(List.mem_cons.mp ((h y).mpr hy)).resolve_left hne
def setI(ns:List Int):List Int:=sortI (dedI ns)
section
variable{K:Fg9}{X:Cx}{e a b c:Expr}{es:List Expr}{pos p p2:Pos}
def SetH(w:World)(a:Addr)(ns:List Int):Heap->Prop:=fun h=>∃es ep t,h.get? a=some (Stt.setO es ep t)/\Stt.SetG w es t ns/\es.size<=ns.length
def a0m(w:World):List V->Hp->VK->Prop:=fun vs H Q=>∃p ns,vs=[.ref p]/\H p=some (.tup (ns.map V.int))/\ns.length < 4000/\∀a,H a=none->Q (.ref a) (upd H a (.ext (SetH w a ns)))
theorem atb(hc:X.calm=true):ada X (.type "set") (a0m X.w):=by
 intro jv s σ H xs us Q I r ⟨p,ns,hv,hp,hz,q⟩;subst hv;obtain⟨u,rfl,ru⟩:=vals1 r;cases ru;obtain⟨its,rv,pt,_⟩:=I.tuple (SqT.of hp);have hlen:=rv.length;rw[List.length_map] at hlen;refine Stt.awz (I.ok.hd hc) pt (intsAre_of rv) (by rw[List.size_toArray];unfold scanBound;omega) fun h' tk es ep t ho g hsz hk =>?_
 have hn:H s.heap.objs.size=none:=I.hok.fresh (Nat.le_refl _);refine⟨.ref s.heap.objs.size,_,I.laid hk (Nat.le_refl _) ?_,rfl,q _ hn⟩;refine⟨⟨es,ep,t,ho,g,?_⟩,⟨_,ho⟩,fun h1 h2 ⟨es,ep,t,z,g,zz⟩ k=>⟨es,ep,t,k _ z,g,zz⟩⟩
 have hsz':es.size<=its.length:=by simpa using hsz
 omega
def rcSS(w:World):List V->Hp->VK->Prop:=fun vs H Q=>∃a ns,vs=[.ref a]/\H a=some (.ext (SetH w a ns))/\ns.length < 64/\∀b,H b=none->Q (.ref b) (upd H b (.lst ((setI ns).map V.int)))
theorem awa(hc:X.calm=true):ada X (.builtin "sorted") (rcSS X.w):=by
 intro jv s σ H xs us Q I r ⟨a,ns,hv,ha,hz,q⟩;subst hv;obtain⟨u,rfl,ru⟩:=vals1 r;cases ru;obtain⟨⟨es,ep,t,ho,g,hsz⟩,_⟩:=I.hok a _ ha;refine Stt.anc (I.ok.hd hc) ho g (by omega) fun s' b out m ns' hb hk hg hos hob hI hp hs =>?_
 have hn:H b=none:=I.hok.fresh hb;have e':ns'=setI ns:=aeb (hp.trans (acu g.nd (aa9 ns) fun k=>by rw[g.mem k,acz])) hs
 subst e';obtain⟨h',g',d',tk',os'⟩:=s';subst hg;subst hos;have I1:Inv X jv σ (upd H b (.lst ((setI ns).map V.int))) { s with heap:=h',toks:=tk' }:=I.laid hk hb ⟨by
  rw[List.length_map];have h1:(setI ns).length=(dedI ns).length:=(sortI_perm _).length_eq;have h2:=ab7 ns;exact Nat.le_of_lt (ack (by omega)),out.toList,m,u5 hI,by simpa using hob⟩
 exact⟨.ref b,_,⟨I1.ok,I1.os,I1.bare,I1.base,I1.loc,I1.cell,I1.free,I1.freeC,I1.pin,I1.hok,I1.len⟩,rfl,q b hn⟩
def gSet:D->Option Rv
 | .tup l=>(jo l).bind fun ns=>if ns.length < 64 then some (.fr ((setI ns).map D.int)) else none
 | _=>none
theorem ajp{x y:Str}{m:M (List D)}{pp qq:Pos}{ppos:Pos}(hc:X.calm=true)(hg1:Gl X x)(hm1:X.mg x=none)(hv1:bootBuiltins x=some (.builtin "sorted"))(hg2:Gl X y)(hm2:X.mg y=none)(hv2:bootBuiltins y=some (.type "set"))
  (ha:EA K X [e] m) (hn1:x ≠ "__name__" := by decide) (hdb1:(x==("__debug__" : Str))=false:=by decide) (hn2:y ≠ "__name__" := by decide) (hdb2:(y==("__debug__" : Str))=false:=by decide)
  (he:starEach [e] X.env=[(false,eval e X.env)]:=by rfl) (he2:starEach [.Call (.Name y qq) [e] [] ppos] X.env=[(false,eval (.Call (.Name y qq) [e] [] ppos) X.env)]:=by rfl) :
  ER K X (.Call (.Name x pp) [.Call (.Name y qq) [e] [] ppos] [] pos) (gb (g1 gSet) m):=ER.mk fun hk=>PE.imp (ag9 (awa hc) hg1 hm1 hv1 (aan (aim (atb hc) hg2 hm2 hv2 (ha hk) hn2 hdb2 he rfl) ain he2) hn1 hdb1 he2 rfl) fun σ H Q z9=>by
 obtain⟨tg,F,ρ,r,ρ',G,em,q⟩:=z9;obtain⟨ds,ρ1,e1,em⟩:=au em;obtain⟨e2,rfl⟩:=gw em;refine⟨tg,F,ρ,ds,_,G,e1,fun vs H1 F1 G1 x1 bl =>?_⟩
 cases ds with
 | nil=>cases e2
 | cons d tl =>
  cases tl with
  | cons _ _=>cases e2
  | nil =>
   cases d with
   | tup l =>
    have e2:(jo l).bind (fun ns=>if ns.length < 64 then some (Rv.fr ((setI ns).map D.int)) else none)=some r:=e2
    cases ei:jo l with
    | none=>rw[ei] at e2;cases e2
    | some ns =>
     rw[ei] at e2;have e2:(if ns.length < 64 then some (Rv.fr ((setI ns).map D.int)) else none)=some r:=e2
     split at e2
     ·rename_i h64;cases e2;obtain⟨v,rfl,bv⟩:=bl.one;obtain⟨p,ws,rfl,ea,hl⟩:=bv.tup;rw[zb ei] at hl;rw[hl.int_inv] at ea;refine⟨p,ns,rfl,G1.sub _ _ ea,by omega,fun a hna =>?_⟩
      show rcSS X.w _ _ _;refine⟨a,ns,rfl,fj,h64,fun b hnb =>?_⟩
      have G2:=G1.fresh hna (.ext (SetH X.w a ns));have X2:=G1.freshX hna (.ext (SetH X.w a ns));exact Res.lst G2 (fun v H3 F3 G3 x3 rr=>q v H3 F3 G3 ((x1.trans X2).trans x3) (uh (x1.trans X2) rr)) (abe _) hnb
     ·cases e2
   | _=>cases e2
@[simp] theorem azx(l:List D):gSet (.tup l)=(jo l).bind fun ns=>if ns.length < 64 then some (.fr ((setI ns).map D.int)) else none:=rfl
end
theorem ue{c:M Bool}{g:Sd}(Inv:Nat->Ro->Prop)(Done:Ro->Prop)(hs:∀k ρ,Inv k ρ->(∃ρ',c ρ=some (.ok false,ρ')/\Done ρ')∨∃ρ1 ρ2 k',c ρ=some (.ok true,ρ1)/\g ρ1=some (.nx,ρ2)/\k' < k/\Inv k' ρ2) :
  ∀(n k:Nat) (ρ:Ro),k < n->Inv k ρ->∃ρ',whileD c g n ρ=some (.nx,ρ')/\Done ρ'
 | 0,k,ρ,h,_=>absurd h (Nat.not_lt_zero _)
 | n+1,k,ρ,h,h0=>by
  unfold whileD;rcases hs k ρ h0 with⟨ρ',e,d⟩ | ⟨ρ1,ρ2,k',e1,e2,hk,h2⟩
  ·rw[e];exact⟨ρ',rfl,d⟩
  ·rw[e1];dsimp only;rw[e2];exact ue Inv Done hs n k' ρ2 (by omega) h2
theorem abh:100000 < fuel:=by unfold fuel;decide
theorem adw(a b:Int):eqD (.int a) (.int b)=decide (a=b):=by
 show(a==b)=_
 by_cases h:a=b <;> simp[h]
theorem awi(ns:List Int)(a:Int):(ns.map D.int).any (fun y=>eqD y (.int a))=decide (a∈ns):=by
 induction ns with
 | nil=>simp
 | cons x r ih=>simp[adw,List.mem_cons,ih,eq_comm]
theorem al5(n:Nat)(ns:List Int):(ns.map D.int).all (okD n)=true:=by
 induction ns with
 | nil=>rfl
 | cons x r ih=>simp[okD]
theorem adq(neg:Bool)(a:Int)(ns:List Int):gIn neg (.int a) (.lst (ns.map D.int))=some (.v (.bl (if neg then !decide (a∈ns) else decide (a∈ns)))):=by
 have h:=al5 30 ns;have h2:=awi ns a;simp only[gIn,itemsD,h,h2];simp[okD]
theorem amw:∀(a b:List Int),eqDs (a.map D.int) (b.map D.int)=decide (a=b)
 | [],[]=>rfl
 | [],_::_=>rfl
 | _::_,[]=>rfl
 | x::r,y::t=>by
  show(eqD (.int x) (.int y)&&eqDs (r.map D.int) (t.map D.int))=_;rw[adw,amw r t]
  by_cases h:x=y <;> simp[h]
theorem ajq(a b:List Int):eqD (.tup (a.map D.int)) (.tup (b.map D.int))=decide (a=b):=by
 rw[<-amw];exact aqd _ _
def minI(ns:List Int):Int:=ac8 (fun i j=>decide (i < j)) ns
theorem amt{ns:List Int}(h:ns≠[]):an5 (.lst (ns.map D.int))=some (.v (.int (minI ns))):=by
 show(jo (ns.map D.int)).bind _=_;rw[qt];simp[h,minI]
theorem asz{ns:List Int}(h:ns≠[]):an5 (.tup (ns.map D.int))=some (.v (.int (minI ns))):=by
 show(jo (ns.map D.int)).bind _=_;rw[qt];simp[h,minI]
theorem ad6{ns:List Int}(h:ns.length < 64):ahp (.lst (ns.map D.int))=some (.fr ((sortI ns).map D.int)):=by
 show(jo (ns.map D.int)).bind _=_;rw[qt];simp[h]
theorem ap3{ns:List Int}(h:ns.length < 64):gSet (.tup (ns.map D.int))=some (.fr ((setI ns).map D.int)):=by
 show(jo (ns.map D.int)).bind _=_;rw[qt];simp[h]
theorem ama(ns:List Int)(x:Int):x∈setI ns↔x∈ns:=by
 unfold setI;rw[(sortI_perm _).mem_iff,acz]
theorem anu(ns:List Int):(setI ns).Nodup:=by
 unfold setI;rw[(sortI_perm _).nodup_iff];exact aa9 ns
@[simp] theorem ayy(a b:D):ap1 [a,b]=(itemsD a).bind fun l1=>(itemsD b).bind fun l2=>if l1.length<=l2.length then some (aci l1 l2) else none:=rfl
theorem aef{l1 l2:List D}(h:l1.length<=l2.length):(aci l1 l2).length=l1.length:=by unfold aci;rw[List.length_zipWith];omega
theorem zq{ns:List Int}{k:Int}(h0:0<=k)(h1:k < (ns.length:Int)):atI (ns.map D.int) k=some (.int (ns.getD k.toNat 0)):=by
 have hk:k.toNat < ns.length:=by omega
 have q:atI (ns.map D.int) ((k.toNat:Nat):Int)=some (.int (ns.getD k.toNat 0)):=ah0 (by simp[List.getElem?_eq_getElem hk])
 rw[show((k.toNat:Nat):Int)=k by omega] at q
 exact q
theorem avr{n:Nat}{k:Int}(h0:0<=k)(h1:k < (n:Int)):ixN n k=some k.toNat:=by
 unfold ixN;simp[h0,h1]
theorem atn{n d:Nat}{k:Int}(h0:0<=k):HT.sIx n d (some k)=min k.toNat n:=by
 show(if k < 0 then (k+(n:Int)).toNat else min k.toNat n)=_
 rw[if_neg (by omega)]
theorem a2g{ns:List D}{k:Int}(h0:0<=k)(h1:k<=(ns.length:Int)):cutD ns none (some k)=ns.take k.toNat:=by
 unfold cutD;rw[atn h0];have:HT.sIx ns.length 0 none=0:=rfl;rw[this,Nat.min_eq_left (by omega),Nat.sub_zero,List.drop_zero]
theorem av7{ns:List D}{k:Int}(h0:0<=k)(h1:k<=(ns.length:Int)):cutD ns (some k) none=ns.drop k.toNat:=by
 unfold cutD;rw[atn h0];have:HT.sIx ns.length ns.length none=ns.length:=rfl;rw[this,Nat.min_eq_left (by omega)]
 exact List.take_of_length_le (by simp)
theorem fc{K:Fg9}{P:Program}{w:World}{mg:Str->Option Value}{base:Heap}{x qual:Str}{st:Stmt}{f:Addr}{fd:FuncData}{N ps:List Str}{k nl np:Nat}{g:Sd}(F:Fun K x qual st f fd)(S:FnScope N ps (ak st))(h1:N.length=nl)(h2:ps.length=np)
  (body:∀(cdv:Value) (A:Around) (outer:List Env) (s:Shared) (H:Hp) (E:XK),Room k (A.deeper (envOfC qual (ak st) s.heap.objs.size f cdv))->SVs K (cxOf CX0 P w K mg base N qual (ak st) f cdv A outer s H E).nox (jj st) g) :
  FnOk P w K mg base CX0 (k+1) f fd ps (spOf K np (fnD nl np g)):=by
 subst h1 h2;exact a1s F S body
end Dn
namespace Mn
open L2
section
variable{X:Cx}
end
end Mn
namespace Dn
open L2 Mn
section
variable{K:Fg9}{X:Cx}
end
theorem mkSc{N P:List Str}{sc:Scope}(a:sc.kind=.function)(b:sc.isCoroutine=false)(c:sc.isGenerator=false)(e:N.take P.length=P)(d:N.Nodup/\(∀x∈P,sc.names.lookup x=some .local∨sc.names.lookup x=some .cell)/\∀y∈sc.names,y.2≠.free):FnScope N P sc:=⟨a,b,c,d.1,e,d.2.1,d.2.2⟩
end Dn
namespace Kst
open PySem PySem.W PyProof.Rows
structure Od (n:Nat) (c:Nat->Nat->Bool):Prop where
 tr:∀i j k,c i j=true->c j k=true->c i k=true
 to:∀i j,i < n->j < n->i≠j->c i j=false->c j i=true
def Asks(n:Nat)(c:Nat->Nat->Bool)(cmp:Nat->Nat->(Bool->Shared->Prop)->Shared->Prop)(s:Shared):Prop:=∀i j,i < n->j < n->∀C:Bool->Shared->Prop,C (c i j) s->cmp i j C s
structure Pm (n:Nat) (p:Array Nat):Prop where
 pm:p.toList.Perm (List.range n)
section
variable{n:Nat}{c:Nat->Nat->Bool}{cmp:Nat->Nat->(Bool->Shared->Prop)->Shared->Prop}{s:Shared}{p:Array Nat}
theorem Pm.size(h:Pm n p):p.size=n:=by have:=h.pm.length_eq;simpa using this
theorem Pm.get(h:Pm n p){k:Nat}(hk:k < n):p[k]? = some (p.getD k 0):=by
 have:=h.size;have h':k < p.size:=by omega
 simp[Array.getD,h']
theorem Pm.lt(h:Pm n p){k:Nat}(hk:k < n):p.getD k 0 < n:=by
 have e:=h.get hk;have m:p.getD k 0∈p.toList:=by
  rw[<-Array.getElem?_toList] at e;exact List.mem_of_getElem? e
 have:=h.pm.mem_iff.mp m
 simpa using this
theorem Pm.inj(h:Pm n p){i j:Nat}(hi:i < n)(hj:j < n)(e:p.getD i 0=p.getD j 0):i=j:=by
 have nd:p.toList.Nodup:=h.pm.nodup_iff.mpr List.nodup_range;have e1:=h.get hi;have e2:=h.get hj;rw[<-Array.getElem?_toList] at e1 e2;have s1:=h.size;exact(List.getElem?_inj (by simpa[s1] using hi) nd).mp (by rw[e1,e2,e])
def Srt(c:Nat->Nat->Bool)(p:Array Nat)(m:Nat):Prop:=∀i j,i < j->j < m->c (p.getD i 0) (p.getD j 0)=true
theorem atk(O:Od n c){m:Nat}(h:∀k,1<=k->k < m->c (p.getD (k - 1) 0) (p.getD k 0)=true):Srt c p m:=by
 intro i j hij hj
 induction j with
 | zero=>omega
 | succ j ih =>
  have a:=h (j+1) (by omega) hj
  rw[Nat.add_sub_cancel] at a
  by_cases e:i=j
  ·subst e;exact a
  ·exact O.tr _ _ _ (ih (by omega) (by omega)) a
theorem aq7(A:Asks n c cmp s)(hp:Pm n p){Q:Nat->Shared->Prop}:∀f a,1<=a->a+f<=n->(∀m,a<=m->m<=a+f->(∀k,a<=k->k < m->c (p.getD k 0) (p.getD (k - 1) 0)=false)->(m < a+f->c (p.getD m 0) (p.getD (m - 1) 0)=true)->Q m s)->(kas_asc p f a).kasWp cmp Q s
 | 0,a,_,_,h=>h a (Nat.le_refl _) (Nat.le_refl _) (fun k _ _=>by omega) (fun _=>by omega)
 | f+1,a,h1,h2,h=>A _ _ (hp.lt (by omega)) (hp.lt (by omega)) _ (by
   cases e:c (p.getD a 0) (p.getD (a - 1) 0) with
   | true =>
    dsimp only;rw[if_pos rfl];exact h a (Nat.le_refl _) (by omega) (fun k _ _=>by omega) fun _=>e
   | false =>
    dsimp only;rw[if_neg (by simp)]
    exact aq7 A hp f (a+1) (by omega) (by omega) fun m x1 x2 x3 x4=>h m (by omega) (by omega) (fun k k1 k2=>by
     by_cases q:k=a
     ·subst q;exact e
     ·exact x3 k (by omega) k2) fun q=>x4 (by omega))
theorem aqi(A:Asks n c cmp s)(O:Od n c)(hp:Pm n p){Q:Array Nat×Nat×Nat->Shared->Prop}:∀f a,1<=a->a+f<=n->(∀k,1<=k->k < a->c (p.getD k 0) (p.getD (k - 1) 0)=true)->(∀m,a<=m->m<=a+f->(∀k,1<=k->k < m->c (p.getD k 0) (p.getD (k - 1) 0)=true)->Q (p,m,0) s)->(kas_desc f p a 0).kasWp cmp Q s
 | 0,a,_,_,hs,h=>h a (Nat.le_refl _) (Nat.le_refl _) hs
 | f+1,a,h1,h2,hs,h=>A _ _ (hp.lt (by omega)) (hp.lt (by omega)) _ (by
   cases e:c (p.getD a 0) (p.getD (a - 1) 0) with
   | true =>
    dsimp only;rw[if_pos rfl,if_neg (by omega)]
    exact aqi A O hp f (a+1) (by omega) (by omega) (fun k k1 k2=>by
     by_cases q:k=a
     ·subst q;exact e
     ·exact hs k k1 (by omega)) fun m x1 x2 x3=>h m (by omega) (by omega) x3
   | false =>
    dsimp only;rw[if_neg (by simp)]
    refine A _ _ (hp.lt (by omega)) (hp.lt (by omega)) _ ?_
    rw[O.to _ _ (hp.lt (by omega)) (hp.lt (by omega)) (fun q=>by have:=hp.inj (by omega) (by omega) q;omega) e]
    dsimp only;rw[if_pos rfl];exact h a (Nat.le_refl _) (by omega) hs)
theorem ato(hp:Pm n p)(i j:Nat):Pm n (kas_rev p i j):=⟨(Array.perm_iff_toList_perm.mp (mirror_perm p i j _)).trans hp.pm⟩
theorem aoz(hp:Pm n p){m:Nat}(hm:m<=n){k:Nat}(hk:k < m):(kas_rev p 0 m).getD k 0=p.getD (m - 1 - k) 0:=by
 have e:=getElem?_mirror_all (xs:=p) (i:=0) (j:=m) (by rw[hp.size];exact hm) k
 rw[if_pos ⟨Nat.zero_le _,hk⟩,hp.get (by omega)] at e
 have e2:=(ato hp 0 m).get (k:=k) (by omega)
 unfold kas_rev at e2 ⊢
 rw[e2] at e;have:=Option.some.inj e;rw[this]
 congr 1
 omega
theorem flip(O:Od n c)(hp:Pm n p){i j:Nat}(hi:i < n)(hj:j < n)(h:i≠j)(e:c (p.getD i 0) (p.getD j 0)=false):c (p.getD j 0) (p.getD i 0)=true :=
 O.to _ _ (hp.lt hi) (hp.lt hj) (fun q=>h (hp.inj hi hj q)) e
theorem aui(A:Asks n c cmp s)(O:Od n c)(hp:Pm n p){m:Nat}(h1:1<=m)(hm:m<=n)(hd:∀k,1<=k->k < m->c (p.getD k 0) (p.getD (k - 1) 0)=true){Q:Nat×Array Nat->Shared->Prop}
  (h:∀m' p',1<=m'->m'<=n->Pm n p'->Srt c p' m'->Q (m',p') s):(kas_tail3 m n p).kasWp cmp Q s:=by
 unfold kas_tail3;rw[KasT.kasWp_bind];have hr:=ato hp 0 m;refine aq7 A hr _ _ h1 (by omega) fun m' x1 x2 x3 _ =>?_
 refine h m' _ (by omega) (by omega) hr (atk O fun k k1 k2 =>?_)
 by_cases q:k < m
 ·rw[aoz hp hm q,aoz hp hm (k:=k - 1) (by omega)]
  have:=hd (m - 1 - (k - 1)) (by omega) (by omega)
  rwa[show m - 1 - (k - 1) - 1=m - 1 - k by omega] at this
 ·exact flip O hr (by omega) (by omega) (by omega) (x3 k (by omega) k2)
theorem as7(A:Asks n c cmp s)(O:Od n c)(hp:Pm n p)(h2:2<=n){Q:Nat×Array Nat->Shared->Prop}
  (h:∀m' p',1<=m'->m'<=n->Pm n p'->Srt c p' m'->Q (m',p') s):(kas_count n p).kasWp cmp Q s:=by
 unfold kas_count;rw[KasT.kasWp_bind];refine aq7 A hp _ _ (Nat.le_refl _) (by omega) fun m x1 x2 x3 x4 =>?_
 have hs:Srt c p m:=atk O fun k k1 k2=>flip O hp (by omega) (by omega) (by omega) (x3 k k1 k2)
 by_cases q:m=n
 ·rw[if_pos (by simp[q])]
  exact h m p x1 (by omega) hp hs
 ·rw[if_neg (by simp[q])]
  by_cases q1:m > 1
  ·rw[if_pos q1];refine A _ _ (hp.lt (by omega)) (hp.lt (by omega)) _ ?_
   rw[hs 0 (m - 1) (by omega) (by omega)]
   dsimp only;rw[if_pos rfl];exact h m p x1 (by omega) hp hs
  ·rw[if_neg q1];have e1:m=1:=by omega
   subst e1;have y:=x4 (by omega)
   unfold kas_descPart;rw[KasT.kasWp_bind];refine aqi A O hp _ _ (by omega) (by omega) (fun k k1 k2 =>?_) fun m y1 y2 y3 =>?_
   ·have:k=1:=by omega
    subst this;exact y
   ·dsimp only;rw[if_neg (by omega)]
    exact aui A O hp (by omega) (by omega) y3 h
theorem ag6(A:Asks n c cmp s)(O:Od n c)(hp:Pm n p){k:Nat}(hk:k < n)(hs:Srt c p k){Q:Nat->Shared->Prop}:∀f l r,l<=r->r<=k->r - l<=f->(∀i,i < l->c (p.getD i 0) (p.getD k 0)=true)->(∀i,r<=i->i < k->c (p.getD k 0) (p.getD i 0)=true) ->
  (∀l',l'<=k->(∀i,i < l'->c (p.getD i 0) (p.getD k 0)=true)->(∀i,l'<=i->i < k->c (p.getD k 0) (p.getD i 0)=true)->Q l' s)->(kas_place p k f l r).kasWp cmp Q s
 | 0,l,r,h1,h2,h3,a,b,h=>h l (by omega) a fun i i1 i2=>b i (by omega) i2
 | f+1,l,r,h1,h2,h3,a,b,h=>by
  show KasT.kasWp cmp (if l≥r then .ret l else _) Q s
  by_cases q:l≥r
  ·rw[if_pos q];exact h l (by omega) a fun i i1 i2=>b i (by omega) i2
  ·rw[if_neg q];refine A _ _ (hp.lt hk) (hp.lt (by omega)) _ ?_
   cases e:c (p.getD k 0) (p.getD ((l+r) / 2) 0) with
   | true =>
    dsimp only;rw[if_pos rfl];refine ag6 A O hp hk hs f l ((l+r) / 2) (by omega) (by omega) (by omega) a (fun i i1 i2 =>?_) h
    by_cases z:i=(l+r) / 2
    ·subst z;exact e
    ·exact O.tr _ _ _ e (hs _ i (by omega) i2)
   | false =>
    dsimp only;rw[if_neg (by simp)]
    have e':=flip O hp hk (by omega) (by omega) e
    refine ag6 A O hp hk hs f ((l+r) / 2+1) r (by omega) h2 (by omega) (fun i i1 =>?_) b h
    by_cases z:i=(l+r) / 2
    ·subst z;exact e'
    ·exact O.tr _ _ _ (hs i ((l+r) / 2) (by omega) (by omega)) e'
theorem aqx(hp:Pm n p){k l:Nat}(hk:k < n)(hl:l<=k){j:Nat}(hj:j < n):(bubble p k (k - l)).getD j 0=if j=l then p.getD k 0 else if l < j/\j<=k then p.getD (j - 1) 0 else p.getD j 0:=by
 have e:=getElem?_bubble (xs:=p) (src:=k) (by rw[hp.size];exact hk) (k - l) (by omega) j
 rw[show k - (k - l)=l by omega,hp.get hk,hp.get hj] at e
 have hb:Pm n (bubble p k (k - l)):=⟨(Array.perm_iff_toList_perm.mp (bubble_perm p k _)).trans hp.pm⟩;rw[hb.get hj] at e
 by_cases h1:j=l
 ·rw[if_pos h1] at e ⊢
  exact Option.some.inj e
 ·rw[if_neg h1] at e ⊢
  by_cases h2:l < j/\j<=k
  ·rw[if_pos h2,hp.get (by omega)] at e
   rw[if_pos h2];exact Option.some.inj e
  ·rw[if_neg h2] at e ⊢
   exact Option.some.inj e
theorem at8(A:Asks n c cmp s)(O:Od n c){Q:Array Nat->Shared->Prop}(h:∀p',Pm n p'->Srt c p' n->Q p' s):∀f p k,k+f=n->Pm n p->Srt c p k->(kas_bin f p k).kasWp cmp Q s
 | 0,p,k,e,hp,hs=>h p hp (by rw[<-e];exact hs)
 | f+1,p,k,e,hp,hs=>by
  show KasT.kasWp cmp (KasT.bind _ _) Q s;rw[KasT.kasWp_bind];refine ag6 A O hp (by omega) hs k 0 k (by omega) (Nat.le_refl _) (by omega) (fun i hi=>by omega) (fun i i1 i2=>by omega) fun l hl a b =>?_
  refine at8 A O h f _ (k+1) (by omega) ⟨(Array.perm_iff_toList_perm.mp (bubble_perm p k _)).trans hp.pm⟩ fun i j hij hj =>?_
  rw[aqx hp (by omega) hl (by omega),aqx hp (by omega) hl (by omega)]
  by_cases i1:i=l
  ·rw[if_pos i1,if_neg (by omega),if_pos (by omega)]
   exact b (j - 1) (by omega) (by omega)
  ·rw[if_neg i1]
   by_cases j1:j=l
   ·rw[if_pos j1,if_neg (by omega)]
    exact a i (by omega)
   ·rw[if_neg j1]
    by_cases i2:l < i
    ·rw[if_pos (by omega),if_pos (by omega)]
     exact hs _ _ (by omega) (by omega)
    ·rw[if_neg (by omega)]
     by_cases j2:l < j
     ·rw[if_pos (by omega)]
      by_cases z:i=j - 1
      ·omega
      ·exact hs _ _ (by omega) (by omega)
     ·rw[if_neg (by omega)]
      exact hs _ _ hij (by omega)
theorem aun(A:Asks n c cmp s)(O:Od n c)(h2:2<=n){Q:Array Nat->Shared->Prop}(h:∀p',Pm n p'->Srt c p' n->Q p' s):(kas_sort n).kasWp cmp Q s:=by
 unfold kas_sort;rw[KasT.kasWp_bind];refine as7 A O ⟨by simp⟩ h2 fun m p m1 m2 hp hs =>?_
 dsimp only
 by_cases q:m < n
 ·rw[if_pos q];rw[show max m 1=m by omega]
  exact at8 A O h _ _ _ (by omega) hp hs
 ·rw[if_neg q];exact h p hp (by rw[show n=m by omega];exact hs)
end
section
variable{prog:Program}{w:World}{A:Around}{E:Value->Shared->Prop}{s:Shared}
def aio(vs:List Value)(p:Array Nat):Array Value:=(p.toList.map fun i=>vs.getD i Value.none).toArray
theorem ao1(vs:List Value):((List.range vs.length).map fun i=>vs.getD i Value.none)=vs:=by
 apply List.ext_getElem?;intro i;rw[List.getElem?_map]
 by_cases h:i < vs.length
 ·rw[List.getElem?_range h];simp[h]
 ·rw[List.getElem?_eq_none (by simpa using h),List.getElem?_eq_none (by omega)]
  rfl
theorem anf{a:Addr}{vs:List Value}{n:Nat}{P:PySem.Fin->Shared->Prop}{κ:SortKind}{c:Nat->Nat->Bool}(ho:s.heap.get? a=some (seqObj "list" vs.toArray n))(h64:vs.length < 64)(O:Od vs.length c)
  (hk:2<=vs.length->∀h':Heap,(∀b o,b≠a->s.heap.get? b=some o->h'.get? b=some o)->(∀Q:SortKind->Shared->Prop,Q κ { s with heap:=h' }->wpAny (model prog w) A (keyKind' vs.toArray) Q (fun _ _=>False) { s with heap:=h' })/\Asks vs.length c (kas_ask prog w A κ vs) { s with heap:=h' })
  (h:∀p,Pm vs.length p->Srt c p vs.length->P (.done (.ret .none)) { s with heap:=sortedHeap s.heap a vs (aio vs p) }) :
  wpAny (model prog w) A (Builtin.«list.sort» ⟨[.ref a],[]⟩) P E s:=by
 have ha:a < s.heap.objs.size:=Heap.lt_size ho;obtain⟨e1,ho1⟩:∃e1,(s.heap.update a (Obj.mapSeq fun _=>(#[]:Array Value))).get? a=some (seqObj "list" #[] e1):=⟨_,get?_update_seq ho fun _ => #[]⟩
 have ho6:(((s.heap.update a (Obj.mapSeq fun _=>(#[]:Array Value))).push (seqObj "tuple" vs.toArray 0)).push (seqObj "list" #[] 0)).get? a=some (seqObj "list" #[] e1):=Heap.get?_push_of_some _ (Heap.get?_push_of_some _ ho1)
 have kp:∀b o,b≠a->s.heap.get? b=some o->(((s.heap.update a (Obj.mapSeq fun _=>(#[]:Array Value))).push (seqObj "tuple" vs.toArray 0)).push (seqObj "list" #[] 0)).get? b=some o:=fun b o hb e =>
  Heap.get?_push_of_some _ (Heap.get?_push_of_some _ (by rw[Heap.get?_update_ne _ _ _ _ hb];exact e))
 rw[list_sort_plain];refine wpAny_bind (listItems_at ho rfl ?_);refine wpAny_bind (listUpdate_at ho rfl ?_ (by rw[List.size_toArray,sizeLine_eq];omega) (Nat.zero_le _))
 refine wpAny_bind (seqEpoch_at ho1 rfl ?_);refine wpAny_bind (wpAny_newTuple ?_ (by show vs.length<=_;rw[sizeLine_eq];omega))
 refine wpAny_bind (wpAny_newList ?_ (Nat.zero_le _));refine wpAny_holding ?_;show wpAny (model prog w) A _ P E { s with heap:=((s.heap.update a (Obj.mapSeq fun _=>(#[]:Array Value))).push (seqObj "tuple" vs.toArray 0)).push (seqObj "list" #[] 0) }
 dsimp only
 by_cases h2:vs.length < 2
 ·rw[if_pos (by rw[List.size_toArray];exact h2),if_pos (by rw[List.size_toArray];exact h2)]
  refine wpAny_bind (wpAny_pure ?_);rw[StateT.run_pure];refine wpAny_bind (wpAny_pure ?_);dsimp only;refine wpAny_bind (seqEpoch_at ho6 rfl ?_);have e0:(vs.toArray.zip vs.toArray).map (·.2)=aio vs (List.toArray (List.range vs.length)):=by
   unfold aio;rw[show(List.toArray (List.range vs.length)).toList=List.range vs.length from rfl,ao1]
   apply Array.toList_inj.mp;simp[List.map_snd_zip]
  have hz:((vs.toArray.zip vs.toArray).map (·.2)).size<=sizeLine:=by
   rw[Array.size_map,Array.size_zip,List.size_toArray,sizeLine_eq];omega
  refine wpAny_bind (listUpdate_at ho6 rfl ?_ (Nat.zero_le _) (Nat.le_succ_of_le hz));simp only[bne_self_eq_false,Bool.false_eq_true,if_false];have z:=h (List.toArray (List.range vs.length)) ⟨List.Perm.refl _⟩ (fun i j hij hj=>by omega)
  rw[<-e0] at z;exact wpAny_pure z
 ·have hn2:¬vs.toArray.size < 2:=by rw[List.size_toArray];exact h2
  rw[if_neg hn2,if_neg hn2];obtain⟨k1,k2⟩:=hk (by omega) _ kp
  refine wpAny_bind (wpAny_mono (k1 _ ?_) (fun κ' s' q=>q) fun _ _ x=>x.elim)
  refine wpAny_bind (wpAny_mono (kat_run (Q:=fun st' s'=>s'={ s with heap:=((s.heap.update a (Obj.mapSeq fun _=>(#[]:Array Value))).push (seqObj "tuple" vs.toArray 0)).push (seqObj "list" #[] 0) }/\∃p:Array Nat,Pm vs.length p/\Srt c p vs.length/\arrOf st'=p.map (kas_item (vs.toArray.zip vs.toArray))/\failedOf st'=none)
   (G:=fun p s'=>s'={ s with heap:=((s.heap.update a (Obj.mapSeq fun _=>(#[]:Array Value))).push (seqObj "tuple" vs.toArray 0)).push (seqObj "list" #[] 0) }/\Pm vs.length p/\Srt c p vs.length)
   rfl (by omega) h64 (fun p st' s' a1 a2 a3 a4=>⟨a4.1,p,a4.2.1,a4.2.2,a2,a3⟩) (aun k2 O (by omega) fun p hp hs=>⟨rfl,hp,hs⟩)) ?_ fun _ _ e=>e)
  intro r s' hr;obtain⟨u,st'⟩:=r;obtain⟨e,p,hp,hs,har,hf⟩:=hr;subst e;dsimp only at har hf ⊢
  have hout:(arrOf st').map (·.2)=aio vs p:=kat_snds rfl har;rw[hout];have hz:(aio vs p).size<=sizeLine:=by
   unfold aio;rw[List.size_toArray,List.length_map,Array.length_toList,hp.size,sizeLine_eq];omega
  refine wpAny_bind (seqEpoch_at ho6 rfl ?_);refine wpAny_bind (listUpdate_at ho6 rfl ?_ (Nat.zero_le _) (Nat.le_succ_of_le hz));rw[hf];simp only[bne_self_eq_false,Bool.false_eq_true,if_false];exact wpAny_pure (h p hp hs)
theorem ah7{l:Addr}{vs:List Value}{Q:Value->Shared->Prop}{κ:SortKind}{c:Nat->Nat->Bool}(hl:s.heap.IsList l vs.toArray)(h64:vs.length < 64)(O:Od vs.length c)
  (hk:2<=vs.length->∀h':Heap,(∀b o,s.heap.get? b=some o->h'.get? b=some o)->(∀Q:SortKind->Shared->Prop,Q κ { s with heap:=h' }->wpAny (model prog w) A.in1.in1 (keyKind' vs.toArray) Q (fun _ _=>False) { s with heap:=h' })/\Asks vs.length c (kas_ask prog w A.in1.in1 κ vs) { s with heap:=h' })
  (h:∀p,Pm vs.length p->Srt c p vs.length->Q (.ref (s.heap.objs.size+1)) { s with heap:=sortedAll s.heap vs (aio vs p) }) :
  wpAny (model prog w) A (call (.builtin "sorted") [.ref l]) Q E s:=by
 refine Calls.call_function_entry kind_sorted plain_sorted entry_sorted (args_sorted1 _) ?_;unfold Builtin.«sorted»
 refine wpAny_bind (m:=checkCount "sorted" 1 1 _) (wpAny_pure ?_);refine wpAny_bind (collect_list hl ?_ (by rw[sizeLine_eq];omega))
 refine wpAny_bind (wpAny_newList ?_ (by rw[sizeLine_eq];omega))
 have hsz:((s.heap.push (seqObj "list" #[] 0)).update s.heap.objs.size (Obj.mapSeq (· ++ vs.toArray))).objs.size=s.heap.objs.size+1:=by
  rw[Heap.size_update,size_push']
 have hoL:(((s.heap.push (seqObj "list" #[] 0)).update s.heap.objs.size (Obj.mapSeq (· ++ vs.toArray))).push (seqObj "list" vs.toArray 0)).get? (s.heap.objs.size+1)=some (seqObj "list" vs.toArray 0):=by
  rw[<-hsz];exact Heap.get?_push_size _ rfl
 have keep:∀b o,s.heap.get? b=some o->(((s.heap.push (seqObj "list" #[] 0)).update s.heap.objs.size (Obj.mapSeq (· ++ vs.toArray))).push (seqObj "list" vs.toArray 0)).get? b=some o:=fun b o q=>by
  have hlt:b < s.heap.objs.size:=Heap.lt_size q;rw[Heap.get?_push_ne _ _ _ (by rw[hsz];exact Nat.ne_of_lt (Nat.lt_succ_of_lt hlt)),Heap.get?_update_ne _ _ _ _ (Nat.ne_of_lt hlt),Heap.get?_push_ne _ _ _ (Nat.ne_of_lt hlt)]
  exact q
 show wpAny _ _ _ _ _ { s with heap:=((s.heap.push (seqObj "list" #[] 0)).update s.heap.objs.size (Obj.mapSeq (· ++ vs.toArray))).push (seqObj "list" vs.toArray 0) }
 rw[hsz];refine wpAny_bind (wpAny_holding (wpAny_call_entry slot_list_sort ⟨_,hoL,rfl⟩ entry_list_sort (anf (κ:=κ) hoL h64 O (fun h2 h' k'=>hk h2 h' fun b o e=>k' b o (fun q=>absurd (Heap.lt_size e) (by rw[q];exact Nat.not_lt.mpr (Nat.le_succ _))) (keep b o e)) fun p hp hs=>⟨_,rfl,?_⟩) (args_list_sort _)))
 exact wpAny_pure ⟨_,rfl,h p hp hs⟩
def lexB:List Int->List Int->Bool
 | [],[]=>false
 | [],_::_=>true
 | _::_,[]=>false
 | a::x,b::y=>if a=b then lexB x y else decide (a < b)
theorem akx:∀x y z:List Int,lexB x y=true->lexB y z=true->lexB x z=true
 | [],[],_,h,_=>by simp[lexB] at h
 | [],_::_,[],_,h=>by simp[lexB] at h
 | [],_::_,_::_,_,_=>by simp[lexB]
 | _::_,[],_,h,_=>by simp[lexB] at h
 | _::_,_::_,[],_,h=>by simp[lexB] at h
 | a::x,b::y,c::z,h,k=>by
  unfold lexB at h k ⊢
  by_cases e1:a=b
  ·subst e1;rw[if_pos rfl] at h
   by_cases e2:a=c
   ·rw[if_pos e2] at k ⊢
    exact akx x y z h k
   ·rw[if_neg e2] at k ⊢
    exact k
  ·rw[if_neg e1,decide_eq_true_eq] at h
   by_cases e2:b=c
   ·subst e2;rw[if_neg e1,decide_eq_true_eq];exact h
   ·rw[if_neg e2,decide_eq_true_eq] at k;rw[if_neg (by omega),decide_eq_true_eq]
    omega
theorem aky:∀x y:List Int,x≠y->lexB x y=false->lexB y x=true
 | [],[],h,_=>absurd rfl h
 | [],_::_,_,h=>by simp[lexB] at h
 | _::_,[],_,_=>by simp[lexB]
 | a::x,b::y,h,k=>by
  unfold lexB at k ⊢
  by_cases e:a=b
  ·subst e;rw[if_pos rfl] at k ⊢
   exact aky x y (fun q=>h (by rw[q])) k
  ·rw[if_neg e,decide_eq_false_iff_not] at k;rw[if_neg (fun q=>e q.symm),decide_eq_true_eq]
   omega
theorem apm:∀x y:List Int,lexB x y=true->lexB y x=false
 | [],[],h=>by simp[lexB] at h
 | [],_::_,_=>by simp[lexB]
 | _::_,[],h=>by simp[lexB] at h
 | a::x,b::y,h=>by
  unfold lexB at h ⊢
  by_cases e:a=b
  ·subst e;rw[if_pos rfl] at h ⊢
   exact apm x y h
  ·rw[if_neg e,decide_eq_true_eq] at h;rw[if_neg (fun q=>e q.symm),decide_eq_false_iff_not]
   omega
theorem atw{b:Bool}{Q:Bool->Shared->Prop}:∀{xs ys:List Value} {as bs:List Int} (i:Nat),IntsAre xs as->IntsAre ys bs->Q (lexB as bs) s->KatLex prog w A b (decide (as.length < bs.length)) Q (xs.zip ys) i s
 | [],[],_,_,i,.nil,.nil,h=>kat_nil h
 | [],_::_,_,_,i,.nil,.cons n t r,h=>kat_nil (by simpa[lexB] using h)
 | _::_,[],_,_,i,.cons n t r,.nil,h=>kat_nil (by simpa[lexB] using h)
 | _::_,_::_,_,_,i,.cons n t r,.cons m u r',h=>by
  rw[List.zip_cons_cons];refine kat_cons (wpAny_eqBool_int ?_);unfold lexB at h
  by_cases e:n=m
  ·rw[if_pos e] at h;rw[show(n==m)=true by simpa using e]
   refine kat_yes ?_;have:=atw (b:=b) (i+1) r r' h
   simpa using this
  ·rw[if_neg e] at h;rw[show(n==m)=false by simpa using e]
   refine kat_no ?_;cases b&&i==0 with
   | true=>exact oneLt_int h
   | false=>exact kat_one _ _ (lt_int h)
end
end Kst
namespace Dn
open PySem PySem.Spec PySem.W PyProof.Rows L2 Mn Kst
def rowT(r:List Int):D:=.tup (r.map D.int)
def ag2:List D->Option (LL9)
 | []=>some []
 | .tup l::r=>(jo l).bind fun a=>(ag2 r).map (a :: ·)
 | _::_=>none
theorem aih:∀rows:LL9,ag2 (rows.map rowT)=some rows
 | []=>rfl
 | r::rows=>by
  show(jo (r.map D.int)).bind _=_;rw[qt,Option.bind_some,aih rows];rfl
theorem alr:∀{l:List D} {rows:LL9},ag2 l=some rows->l=rows.map rowT
 | [],_,h=>by cases h;rfl
 | .tup t::l,rows,h=>by
  have h:(jo t).bind (fun a=>(ag2 l).map (a :: ·))=some rows:=h
  cases e:jo t with
  | none=>rw[e] at h;cases h
  | some a =>
   rw[e,Option.bind_some] at h;cases e2:ag2 l with
   | none=>rw[e2] at h;cases h
   | some rs =>
    rw[e2] at h;cases h;rw[List.map_cons,<-alr e2,rowT,<-zb e]
def insL(x:List Int):LL9->LL9
 | []=>[x]
 | y::r=>if lexB x y then x::y::r else y::insL x r
def ad9:LL9->LL9
 | []=>[]
 | x::r=>insL x (ad9 r)
theorem ae9(x:List Int):∀l,(insL x l).Perm (x::l)
 | []=>.refl _
 | y::r=>by
  unfold insL;split
  ·exact .refl _
  ·exact((ae9 x r).cons y).trans (.swap x y r)
theorem my:∀l,(ad9 l).Perm l
 | []=>.refl _
 | x::r=>(ae9 x (ad9 r)).trans ((my r).cons x)
abbrev LxS(l:LL9):Prop:=l.Pairwise fun a b=>lexB a b=true
theorem ae8(x:List Int):∀{l},x∉l->LxS l->LxS (insL x l)
 | [],_,_=>by simp[insL,LxS]
 | y::r,hx,h=>by
  unfold insL;have h:=List.pairwise_cons.mp h;split
  ·rename_i hxy;refine List.pairwise_cons.mpr ⟨fun z hz =>?_,List.pairwise_cons.mpr h⟩
   rcases List.mem_cons.mp hz with rfl | hz
   ·exact hxy
   ·exact akx _ _ _ hxy (h.1 z hz)
  ·rename_i hxy;refine List.pairwise_cons.mpr ⟨fun z hz =>?_,ae8 x (fun q=>hx (List.mem_cons_of_mem _ q)) h.2⟩
   rcases List.mem_cons.mp ((ae9 x r).mem_iff.mp hz) with rfl | hz
   ·exact aky _ _ (fun q=>hx (by rw[q];exact List.mem_cons_self ..)) (by simpa using hxy)
   ·exact h.1 z hz
theorem u9:∀{l:LL9},l.Nodup->LxS (ad9 l)
 | [],_=>.nil
 | x::r,h=>by
  have h:=List.nodup_cons.mp h;exact ae8 x (fun q=>h.1 ((my r).mem_iff.mp q)) (u9 h.2)
theorem akv:∀{l k:LL9},l.Perm k->LxS l->LxS k->l=k
 | [],k,h,_,_=>h.nil_eq
 | x::r,[],h,_,_=>absurd h.length_eq (by simp)
 | x::r,y::t,h,hl,hk=>by
  have hl:=List.pairwise_cons.mp hl;have hk:=List.pairwise_cons.mp hk;have e:x=y:=by
   have h1:x∈y::t:=h.mem_iff.mp (List.mem_cons_self ..);have h2:y∈x::r:=h.mem_iff.mpr (List.mem_cons_self ..);rcases List.mem_cons.mp h1 with h1 | h1
   ·exact h1
   ·rcases List.mem_cons.mp h2 with h2 | h2
    ·exact h2.symm
    ·have a:=hk.1 x h1;have b:=hl.1 y h2;rw[apm _ _ a] at b;cases b
  subst e;rw[akv ((List.perm_cons x).mp h) hl.2 hk.2]
inductive TupsAre (h:Heap):List Value->LL9->Prop
 | nil:TupsAre h [] []
 | cons {a:Addr} {o:Obj} {xs:List Value} {n:Nat} {r:List Int} {us:List Value} {rs:LL9} (e:h.get? a=some o) (c:o.cls=.type "tuple") (d:o.data=.seq xs.toArray n) (i:IntsAre xs r) (t:TupsAre h us rs):TupsAre h (.ref a::us) (r::rs)
theorem TupsAre.len{h:Heap}:∀{us:List Value} {rs:LL9},TupsAre h us rs->us.length=rs.length
 | _,_,.nil=>rfl
 | _,_,.cons _ _ _ _ t=>by rw[List.length_cons,List.length_cons,t.len]
theorem TupsAre.mono{h h':Heap}(k:∀b o,h.get? b=some o->h'.get? b=some o):∀{us:List Value} {rs:LL9},TupsAre h us rs->TupsAre h' us rs
 | _,_,.nil=>.nil
 | _,_,.cons e c d i t=>.cons (k _ _ e) c d i (t.mono k)
theorem TupsAre.at{h:Heap}:∀{us:List Value} {rs:LL9},TupsAre h us rs->∀i,i < rs.length->∃a o xs n,us.getD i Value.none=.ref a/\h.get? a=some o/\o.data=.seq (List.toArray xs) n/\IntsAre xs (rs.getD i [])
 | _,_,.cons e c d i t,0,_=>⟨_,_,_,_,rfl,e,d,i⟩
 | _,_,.cons e c d i t,k+1,hk=>by
  obtain⟨a,o,xs,n,e1,e2,e3,e4⟩:=t.at k (by simpa using hk)
  exact⟨a,o,xs,n,by simpa using e1,e2,e3,by simpa using e4⟩
theorem TupsAre.kat{h:Heap}:∀{us:List Value} {rs:LL9},TupsAre h us rs->(∀r∈rs,r≠[])->∃fs:List Value,KatTups h us fs/\fs.length=rs.length/\∀f∈fs,∃i t,f=Value.int i t
 | _,_,.nil,_=>⟨[],.nil,rfl,fun _ h=>by cases h⟩
 | _,_,.cons (r:=r) e c d i t,hn=>by
  obtain⟨fs,k,l,z⟩:=t.kat fun r hr=>hn r (List.mem_cons_of_mem _ hr)
  cases i with
  | nil=>exact absurd rfl (hn _ (List.mem_cons_self ..))
  | cons m u q =>
   refine⟨.int m u::fs,KatTups.cons e c d (by simp) k,by simp[l],fun f hf =>?_⟩
   rcases List.mem_cons.mp hf with rfl | hf
   ·exact⟨m,u,rfl⟩
   ·exact z f hf
section
variable{K:Fg9}{X:Cx}
theorem afz{jv:List (Addr×Obj)}{σ:L2.St}{F H:Hp}{s:Shared}(I:Inv X jv σ H s)(g:Same F H):∀{rs:LL9} {vs:List V} {us:List Value},IsL X.K F (rs.map rowT) vs->Vals vs us->TupsAre s.heap us rs
 | [],_,_,h,r=>by cases h;cases r;exact .nil
 | a::rs,_,_,.cons h t,r=>by
  cases r with
  | cons r1 r2 =>
   have z:=afz I g t r2;have h:Is X.K F (.tup (a.map D.int)) _:=h;cases h with
   | tup e hl =>
    rw[hl.int_inv] at e;cases r1;obtain⟨its,rv,⟨o,e1,e2,n,e3⟩,_⟩:=I.tuple (SqT.of (g _ _ e));exact .cons e1 e2 e3 (intsAre_of rv) z
def ap2:D->Option Rv
 | .lst l=>(ag2 l).bind fun rows=>if (decide (rows.length < 64)&&rows.all (fun r => !r.isEmpty)&&decide rows.Nodup)=true then some (.fr ((ad9 rows).map rowT)) else none
 | _=>none
theorem ak7{rows:LL9}(h:rows.length < 64)(hn:∀r∈rows,r≠[])(nd:rows.Nodup):ap2 (.lst (rows.map rowT))=some (.fr ((ad9 rows).map rowT)):=by
 show(ag2 (rows.map rowT)).bind _=_;rw[aih,Option.bind_some,if_pos];simp only[Bool.and_eq_true,decide_eq_true_eq,List.all_eq_true];exact⟨⟨h,fun r hr=>by cases r with
  | nil=>exact absurd rfl (hn _ hr)
  | cons=>rfl⟩,nd⟩
theorem ag8{α:Type}(d:α){l:List α}{p:Array Nat}(hp:Pm l.length p):(p.toList.map fun i=>l.getD i d).Perm l:=by
 refine(hp.pm.map _).trans ?_;have e:((List.range l.length).map fun i=>l.getD i d)=l:=by
  apply List.ext_getElem?;intro i;rw[List.getElem?_map]
  by_cases h:i < l.length
  ·rw[List.getElem?_range h];simp[h]
  ·rw[List.getElem?_eq_none (by simpa using h),List.getElem?_eq_none (by omega)]
   rfl
 rw[e]
theorem aum{rows:LL9}{p:Array Nat}(hp:Pm rows.length p)(hs:Srt (fun i j=>lexB (rows.getD i []) (rows.getD j [])) p rows.length):LxS (p.toList.map fun i=>rows.getD i []):=by
 rw[LxS,List.pairwise_map,List.pairwise_iff_getElem];intro i j hi hj hij;have h:=hs i j hij (by rw[<-hp.size];simpa using hj)
 have e1:=hp.get (k:=i) (by rw[<-hp.size];simpa using hi)
 have e2:=hp.get (k:=j) (by rw[<-hp.size];simpa using hj)
 have f1:p.toList[i]=p.getD i 0:=by
  have hi':i < p.size:=by simpa using hi
  simp[Array.getD,hi']
 have f2:p.toList[j]=p.getD j 0:=by
  have hj':j < p.size:=by simpa using hj
  simp[Array.getD,hj']
 rw[f1,f2];exact h
theorem amn{F:Hp}{rows:LL9}{vs:List V}(h:IsL K F (rows.map rowT) vs):∀{p:List Nat},(∀i∈p,i < rows.length)->IsL K F ((p.map fun i=>rows.getD i []).map rowT) (p.map fun i=>vs.getD i .non)
 | [],_=>.nil
 | i::p,hp=>by
  have hi:=hp i (List.mem_cons_self ..);obtain⟨v,e,hv⟩:=h.get (i:=i) (d:=rowT (rows.getD i [])) (by simp[hi])
  have e':vs.getD i .non=v:=by simp[e]
  refine .cons ?_ (amn h fun j hj=>hp j (List.mem_cons_of_mem _ hj))
  dsimp only;rw[e'];exact hv
theorem ah2{vs:List V}{us:List Value}(h:Vals vs us):∀{p:List Nat},(∀i∈p,i < vs.length)->Vals (p.map fun i=>vs.getD i .non) (p.map fun i=>us.getD i Value.none)
 | [],_=>.nil
 | i::p,hp=>by
  have hi:=hp i (List.mem_cons_self ..);refine .cons ?_ (ah2 h fun j hj=>hp j (List.mem_cons_of_mem _ hj))
  have:∀{vs:List V} {us:List Value} {i:Nat},Vals vs us->i < vs.length->RelV (vs.getD i .non) (us.getD i Value.none):=by
   intro vs us i h
   induction h generalizing i with
   | nil=>intro h;simp at h
   | cons a b ih =>
    intro hi;cases i with
    | zero=>exact a
    | succ i=>simpa using ih (by simpa using hi)
  exact this h hi
theorem as9:CallD K X (.builtin "sorted") (g1 ap2):=aa2 fun hk jv s σ0 H x u Q tg F ρ σ d r I ru G bd eg q=>by
 subst hk;cases d with
 | lst l =>
  have eg:(ag2 l).bind (fun rows=>if (decide (rows.length < 64)&&rows.all (fun r => !r.isEmpty)&&decide rows.Nodup)=true then some (Rv.fr ((ad9 rows).map rowT)) else none)=some r:=eg
  cases e:ag2 l with
  | none=>rw[e] at eg;cases eg
  | some rows =>
   rw[e,Option.bind_some] at eg;split at eg
   ·rename_i hc;simp only[Bool.and_eq_true,decide_eq_true_eq,List.all_eq_true] at hc;obtain⟨⟨h64,hne⟩,nd⟩:=hc;have hne:∀r∈rows,r≠[]:=fun r hr q=>by have:=hne r hr;rw[q] at this;cases this
    cases eg;obtain⟨a,vs,rfl,ea,hl⟩:=bd.lst G.sub;rw[alr e] at hl;cases ru;obtain⟨its,rv,pl,_⟩:=I.list (SqL.of ea);have hlen:vs.length=its.length:=rv.length;have T:=afz I G.sub hl rv;have tl:=T.len;have O:Od its.length fun i j=>lexB (rows.getD i []) (rows.getD j []):=⟨fun i j k=>akx _ _ _,fun i j hi hj hij=>aky _ _ fun q=>hij (by
     have hi':i < rows.length:=by omega
     have hj':j < rows.length:=by omega
     exact(List.getElem?_inj hi' nd).mp (by
      have e1:rows[i]? = some (rows.getD i []):=by simp[hi']
      have e2:rows[j]? = some (rows.getD j []):=by simp[hj']
      rw[e1,e2,q]))⟩
    refine ah7 (κ:=tuples' (Value.type "int" != Value.type "tuple")) pl.isList (by omega) O (fun h2 h' k'=>⟨fun Q q =>?_,fun i j hi hj C hC =>?_⟩) fun p hp hs =>?_
    ·obtain⟨fs,kt,fl,fz⟩:=(T.mono k').kat hne;refine kat_kind kt (by omega) (fun v hv =>?_) (by decide) q
     obtain⟨i,t,rfl⟩:=fz v hv;exact Looks.of_pure rfl
    ·obtain⟨a1,o1,xs1,n1,f1,g1,d1,i1⟩:=(T.mono k').at i (by omega)
     obtain⟨a2,o2,xs2,n2,f2,g2,d2,i2⟩:=(T.mono k').at j (by omega)
     unfold kas_ask;rw[f1,f2];refine kat_lt g1 d1 g2 d2 ?_;have l1:xs1.toArray.size=(rows.getD i []).length:=i1.length;have l2:xs2.toArray.size=(rows.getD j []).length:=i2.length;rw[l1,l2];exact atw 0 i1 i2 hC
    ·have hp':Pm rows.length p:=tl▸hp;have hs':Srt (fun i j=>lexB (rows.getD i []) (rows.getD j [])) p rows.length:=tl▸hs
     have e':(p.toList.map fun i=>rows.getD i [])=ad9 rows:=akv ((ag8 [] hp').trans (my rows).symm) (aum hp' hs') (u9 nd)
     have hm:∀i∈p.toList,i < rows.length:=fun i hi=>by simpa using hp'.pm.mem_iff.mp hi
     obtain⟨ep,eo⟩:=PyProof.Rows.sortedAll_at s.heap its (aio its p);have hn:H (s.heap.objs.size+1)=none:=I.hok.fresh (Nat.le_succ _);have il:=amn hl hm;rw[e'] at il;refine⟨.ref (s.heap.objs.size+1),upd H (s.heap.objs.size+1) (.lst (p.toList.map fun i=>vs.getD i .non)),?_,rfl,Res.lst G q il hn⟩
     refine I.laid (t':=s.toks) (fun b u e=>PyProof.Rows.sortedAll_old e) (Nat.le_succ _) ?_
     refine⟨?_,(p.toList.map fun i=>its.getD i Value.none),ep,ah2 rv fun i hi=>by have:=hm i hi;omega,eo⟩
     rw[List.length_map,Array.length_toList,hp'.size];exact Nat.le_of_lt (ack (by omega))
   ·cases eg
 | _=>cases eg
def abg(d:D):Option Rv:=match vg d with
 | some r=>some r
 | none=>ap2 d
theorem ago:CallD K X (.builtin "sorted") (g1 abg):=aa2 fun hk jv s σ0 H x u Q tg F ρ σ d r I ru G bd eg q=>by
 unfold abg at eg;cases e:vg d with
 | some r' =>
  rw[e] at eg;cases eg;exact adx.go hk jv s σ0 H [x] [u] Q I (.cons ru .nil) ⟨tg,F,ρ,σ,[d],_,G,.cons bd .nil,e,q⟩
 | none =>
  rw[e] at eg;exact as9.go hk jv s σ0 H [x] [u] Q I (.cons ru .nil) ⟨tg,F,ρ,σ,[d],_,G,.cons bd .nil,eg,q⟩
theorem ac4{rows:LL9}(h:rows.length < 64)(hn:∀r∈rows,r≠[])(nd:rows.Nodup):abg (.lst (rows.map rowT))=some (.fr ((ad9 rows).map rowT)):=by
 cases rows with
 | nil=>rfl
 | cons r rows =>
  unfold abg;rw[show vg (.lst ((r::rows).map rowT))=none from rfl]
  exact ak7 h hn nd
end
end Dn
namespace PySem
abbrev StK:=List Int×Int
section
variable{prog:Program}{w:World}
def IsSt(prog:Program)(w:World)(h:Heap)(k:StK)(a:Addr):Prop:=∃o b t n,h.get? a=some o/\o.cls=.type "tuple" /\ o.data=.seq #[.ref b,.int k.2 t] n/\IsTupleKey (intKind prog w) h k.1 b
theorem IsSt.typeIs{s:Shared}{k:StK}{a:Addr}(x:IsSt prog w s.heap k a):s.TypeIs (.ref a) "tuple" := by
 obtain⟨o,b,t,n,ho,hc,_⟩:=x;exact⟨o,ho,hc⟩
theorem IsSt.inj{h:Heap}{a:Addr}{x y:StK}(hx:IsSt prog w h x a)(hy:IsSt prog w h y a):x=y:=by
 obtain⟨o,b,t,n,ho,hc,hd,hi⟩:=hx;obtain⟨o',b',t',n',ho',hc',hd',hi'⟩:=hy;rw[ho] at ho';cases ho';rw[hd] at hd'
 injection hd' with h1 _
 have h1:=congrArg Array.toList h1;simp only[List.cons.injEq,Value.ref.injEq,Value.int.injEq,and_true] at h1;obtain⟨rfl,h2,_⟩:=h1;exact Prod.ext (hi.inj hi') h2
theorem IsSt.keeps{h h':Heap}{k:StK}{a d:Addr}{o:Obj}{es ep}(x:IsSt prog w h k a)(ho:h.get? d=some o)(hd:o.data=.dict es ep)(hs:Heap.SameBut d h h'):IsSt prog w h' k a:=by
 obtain⟨o',b,t,n,ho',hc,hd',hi⟩:=x;have hne:a≠d:=by
  intro z;subst z;rw[ho] at ho';cases ho';rw[hd] at hd';cases hd'
 exact⟨o',b,t,n,(hs.2 a hne).trans ho',hc,hd',hi.keeps ho hd hs⟩
def apz(prog:Program)(w:World)(k:StK):Int:=reduceHash (Builtin.Tuple.tupleHashOf [tupleKeyHash (intKind prog w) k.1,hashInt k.2])
variable{A:Around}{E:Value->Shared->Prop}{s:Shared}
theorem aeg{k:StK}{a:Addr}{Q:Int->Shared->Prop}(hu:A.units+8 < cLine)(hk:IsSt prog w s.heap k a)(h:Q (apz prog w k) { s with toks:=s.toks+(k.1.length+3) }) :
  wpAny (model prog w) A (pyHash (.ref a)) Q E s:=by
 have hT:=hk.typeIs;obtain⟨o,b,t,n,ho,_,hd,hi⟩:=hk;unfold pyHash
 first | unfold pyHashByItsType | skip
 first | refine wpAny_bind (wpAny_cRoomFor_or (.inr (by omega)) ?_) | skip
 refine wpAny_bind (wpAny_specialOf hT F.slot_tuple_hash.lookup ?_);show wpAny _ _ (if (some (Value.builtin "tuple.__hash__")==some Value.none)=true then _ else _) Q E s
 rw[if_neg (by rw[beq_builtin_none];exact Bool.false_ne_true)]
 refine wpAny_bind (wpAny_specialOf hT F.slot_tuple_hash.lookup ?_);show wpAny _ _ (callSpecialIfBoundUnlessNone? (.ref a) "__hash__" _ >>= _) Q E s;refine wpAny_bind (wpAny_callSpecialIfBoundUnlessNone?_slot hT F.slot_tuple_hash (wpAny_call_entry F.slot_tuple_hash hT F.entry_tuple_hash ?_ (F.args_tuple_hash_1 _)));show wpAny _ _ (Builtin.Tuple.tupleItemsOf (.ref a) >>= _) _ _ s;refine wpAny_bind (wpAny_tupleItemsOf ho hd ?_);refine wpAny_bind ?_;rw[<-Array.forIn_toList];refine wpAny_forIn_list _
  (fun rest (c:Array Int) s'=>(rest=[.ref b,.int k.2 t]/\c.toList=[]/\s'=s)∨(rest=[.int k.2 t]/\c.toList=[tupleKeyHash (intKind prog w) k.1]/\s'={ s with toks:=s.toks+(k.1.length+1) })
   ∨ (rest=[]/\c.toList=[tupleKeyHash (intKind prog w) k.1,hashInt k.2]/\s'={ s with toks:=s.toks+(k.1.length+1)+1 }))
  _ ?_ ?_ _ _ (.inl ⟨rfl,rfl,rfl⟩)
 ·rintro x rest c s' (⟨e,hc,rfl⟩ | ⟨e,hc,rfl⟩ | ⟨e,_⟩)
  ·injection e with e1 e2
   subst e1;subst e2;have z:wpAny (model prog w) A.in1 (pyHash (.ref b)) (fun v s''=>v=tupleKeyHash (intKind prog w) k.1/\s''={ s' with toks:=s'.toks+(k.1.length+1) }) (fun _ _=>False) s' :=
    wpAny_pyHash_tuple (by show A.units+1 < _;omega) hi ⟨rfl,rfl⟩
   refine wpAny_bind (wpAny_mono z (fun v s'' hv =>?_) fun _ _ q=>q.elim)
   obtain⟨rfl,rfl⟩:=hv
   first
    | exact wpAny_pure (.inr (.inl ⟨rfl,by simp[hc],rfl⟩))
    | exact wpAny_bind (wpAny_pure (wpAny_pure (.inr (.inl ⟨rfl,by simp[hc],rfl⟩))))
  ·injection e with e1 e2
   subst e1;subst e2;refine wpAny_bind (wpAny_pyHash_int ?_)
   first
    | exact wpAny_pure (.inr (.inr ⟨rfl,by simp[hc],rfl⟩))
    | exact wpAny_bind (wpAny_pure (wpAny_pure (.inr (.inr ⟨rfl,by simp[hc],rfl⟩))))
  ·cases e
 ·rintro c s' (⟨e,_⟩ | ⟨e,_⟩ | ⟨_,hc,rfl⟩)
  ·cases e
  ·cases e
  ·show wpAny _ _ (retInt (Builtin.Tuple.tupleHashOf c.toList)) _ _ _;rw[hc];refine wpAny_ret_mkInt ?_;show wpAny _ _ (if (decide (-(2:Int) ^ 63<=Builtin.Tuple.tupleHashOf [tupleKeyHash (intKind prog w) k.1,hashInt k.2])&&decide (Builtin.Tuple.tupleHashOf [tupleKeyHash (intKind prog w) k.1,hashInt k.2] < 2 ^ 63))=true then _ else _) Q E _
   unfold apz reduceHash at h
   by_cases hr:(decide (-(2:Int) ^ 63<=Builtin.Tuple.tupleHashOf [tupleKeyHash (intKind prog w) k.1,hashInt k.2])&&decide (Builtin.Tuple.tupleHashOf [tupleKeyHash (intKind prog w) k.1,hashInt k.2] < 2 ^ 63))=true
   ·rw[if_pos hr];rw[if_pos hr] at h;exact wpAny_pure (by simpa[Nat.add_assoc] using h)
   ·rw[if_neg hr];rw[if_neg hr] at h;exact wpAny_bind (wpAny_rule (wpAny_pure (by simpa[Nat.add_assoc] using h)))
theorem aet{h:Heap}:∀{ks:List Int} {vs:List Value},ItemsAre (intKind prog w) ks vs->ReadsAll h vs (ks.map PyData.int) []
 | _,_,.nil=>.nil
 | _,_,.cons e r=>by
  obtain⟨t,rfl⟩:=Value.isInt_shape e;exact .cons (as:=[]) (bs:=[]) (.int _ _) (aet r)
theorem IsSt.reads{h:Heap}{k:StK}{a:Addr}(x:IsSt prog w h k a):Reads h (.ref a) (.tuple [.tuple (k.1.map PyData.int),.int k.2]) []:=by
 obtain⟨o,b,t,n,ho,hc,hd,ob,its,m,ho2,hc2,hd2,hi⟩:=x;exact .tuple ho hc hd (.cons (as:=[]) (bs:=[]) (.tuple ho2 hc2 hd2 (aet hi)) (.cons (as:=[]) (bs:=[]) (.int _ _) .nil))
theorem aj6{k:StK}{a:Addr}{Q:Bool->Shared->Prop}(hk:IsSt prog w s.heap k a)(h:Q true s):wpAny (model prog w) A (eqIsQuiet 8 (.ref a)) Q E s:=by
 have hT:=hk.typeIs;obtain⟨o,b,t,n,ho,_,hd,hb⟩:=hk;have hT2:=hb.typeIs (s:=s);obtain⟨ob,its,m,ho2,hc2,hd2,hi⟩:=hb;unfold eqIsQuiet;refine wpAny_bind (wpAny_specialOf hT F.slot_tuple_eq.lookup ?_);show wpAny _ _ (isInstance (.ref a) (.type "tuple") >>= _) _ _ s;refine wpAny_bind (wpAny_isInstance hT isSubtype_tuple_tuple ?_);simp only[Bool.not_true,Bool.false_eq_true,if_false];refine wpAny_bind (wpAny_seqItems ho hd ?_);refine wpAny_bind ?_;show wpAny _ _ (forIn _ _ _) _ _ s;rw[<-Array.forIn_toList];refine wpAny_forIn_list _ (fun rest r s'=>r.1=none/\s'=s/\∀v∈rest,v=.ref b∨carriedByValue v=true) _ ?_ ?_ _ _ ⟨rfl,rfl,fun v hv=>by
  rcases List.mem_cons.mp hv with rfl | hv
  ·exact .inl rfl
  ·rcases List.mem_cons.mp hv with rfl | hv
   ·exact .inr rfl
   ·cases hv⟩
 ·rintro v rest r s' ⟨hr,rfl,hall⟩
  rcases hall v List.mem_cons_self with rfl | hv
  ·refine wpAny_bind ?_;unfold eqIsQuiet;refine wpAny_bind (wpAny_specialOf hT2 F.slot_tuple_eq.lookup ?_);show wpAny _ _ (isInstance (.ref b) (.type "tuple") >>= _) _ _ s';refine wpAny_bind (wpAny_isInstance hT2 isSubtype_tuple_tuple ?_);simp only[Bool.not_true,Bool.false_eq_true,if_false];refine wpAny_bind (wpAny_seqItems ho2 hd2 ?_);refine wpAny_bind ?_;show wpAny _ _ (forIn its _ _) _ _ s';rw[<-Array.forIn_toList];refine wpAny_forIn_list _ (fun rest r s2=>r.1=none/\s2=s'/\∀v∈rest,carriedByValue v=true) _ ?_ ?_ _ _ ⟨rfl,rfl,hi.byValue⟩
   ·rintro v rest r s2 ⟨hr,rfl,hall⟩
    rw[eqIsQuiet_byValue _ (hall v List.mem_cons_self)];refine wpAny_bind (wpAny_pure ?_);simp only[Bool.not_true,Bool.false_eq_true,if_false];exact wpAny_pure ⟨rfl,rfl,fun u hu'=>hall u (List.mem_cons_of_mem _ hu')⟩
   ·rintro⟨r1,r2⟩ s2 ⟨hr,rfl,_⟩
    simp only at hr;subst hr;refine wpAny_pure ?_;simp only[Bool.not_true,Bool.false_eq_true,if_false];exact wpAny_pure ⟨rfl,rfl,fun u hu'=>hall u (List.mem_cons_of_mem _ hu')⟩
  ·rw[eqIsQuiet_byValue _ hv];refine wpAny_bind (wpAny_pure ?_);simp only[Bool.not_true,Bool.false_eq_true,if_false];exact wpAny_pure ⟨rfl,rfl,fun u hu'=>hall u (List.mem_cons_of_mem _ hu')⟩
 ·rintro⟨r1,r2⟩ s' ⟨hr,rfl,_⟩
  simp only at hr;subst hr;exact wpAny_pure h
end
end PySem
namespace Dn
open L2 Mn
theorem aa7:∀l:List Int,abm (l.map D.int)=l.map PyData.int
 | []=>rfl
 | i::l=>by show PyData.int i::abm (l.map D.int)=_;rw[aa7 l];rfl
theorem ay1(x y:StK):PyData.eqv (.tuple [.tuple (x.1.map PyData.int),.int x.2]) (.tuple [.tuple (y.1.map PyData.int),.int y.2])=decide (x=y):=by
 have h1:PyData.eqv (.tuple (x.1.map PyData.int)) (.tuple (y.1.map PyData.int))=decide (x.1=y.1):=by
  rw[<-aa7,<-aa7];exact ajq x.1 y.1
 have h2:PyData.eqv (.int x.2) (.int y.2)=decide (x.2=y.2):=adw x.2 y.2;show(PyData.eqv (.tuple (x.1.map PyData.int)) (.tuple (y.1.map PyData.int))&&(PyData.eqv (.int x.2) (.int y.2)&&true))=_;rw[h1,h2,Bool.and_true];obtain⟨a,b⟩:=x;obtain⟨c,d⟩:=y
 by_cases e1:a=c
 ·by_cases e2:b=d
  ·simp[e1,e2]
  ·simp[e2]
 ·simp[e1]
theorem atx(x:StK):(PyData.tuple [.tuple (x.1.map PyData.int),.int x.2]).canLay0=true/\(PyData.tuple [.tuple (x.1.map PyData.int),.int x.2]).depth<=30:=by
 have h:=zu 30 (.tup [.tup (x.1.map D.int),.int x.2]) (by
  show(okD 29 (.tup (x.1.map D.int))&&(okD 29 (.int x.2)&&true))=true;rw[Bool.and_true,Bool.and_eq_true];refine⟨?_,rfl⟩;show(x.1.map D.int).all (okD 28)=true;rw[List.all_map,List.all_eq_true];exact fun i _=>rfl)
 have e:toPy (.tup [.tup (x.1.map D.int),.int x.2])=.tuple [.tuple (x.1.map PyData.int),.int x.2]:=by
  show PyData.tuple [.tuple (abm (x.1.map D.int)),.int x.2]=_;rw[aa7]
 rwa[e] at h
def ah6(prog:Program)(w:World):HeapKind prog w StK where
 is:=IsSt prog w
 hash:=apz prog w
 draws:=fun k=>k.1.length+3
 room:=fun A=>A.units+40 < cLine
 inj:=fun hx hy=>hx.inj hy
 keeps:=fun x ho hd hs=>x.keeps ho hd hs
 pyHash:=fun hu hk h=>aeg (by omega) hk h
 eqBool:=fun{A E s x y a b Q} hu hx hy h=>by
  have l1:=atx x;have l2:=atx y;have e:=PySem.SeqAt.eqAt_reads _ _ A s (.ref a) (.ref b) [] [] hx.reads hy.reads l1.1 l2.1 (by omega)
  rw[ay1] at e;exact e _ _ E Q h
 quiet:=fun hk h=>aj6 hk h
end Dn
namespace PySem
section
variable{prog:Program}{w:World}{K:Type}[DecidableEq K]{knd:HeapKind prog w K}{A:Around}{E:Value->Shared->Prop}{s:Shared}{d a:Addr}{k:K}{xs:List (K×Addr×Value)}
theorem ant{Q:Value->Shared->Prop}(hu:knd.room A.in1)(hkey:knd.is s.heap k a)(hd:(d==sysModules)=false)(hm:s.heap.DictOfH knd d xs)
  (h:Q (.bool (!(atKey xs k).isSome)) { s with toks:=s.toks+knd.draws k }):wpAny (model prog w) A (compareOp .NotIn (.ref a) (.ref d)) Q E s:=by
 show wpAny _ _ (do return .bool (!(<-contains (.ref d) (.ref a)))) Q E s
 refine wpAny_bind ?_;unfold contains
 try with_reducible refine wpAny_holding ?_
 refine wpAny_bind (wpAny_specialOf hm.typeIs slot_dict_contains.lookup ?_);show wpAny _ _ (if (some (Value.builtin "dict.__contains__")==some Value.none)=true then _ else _) _ E s
 rw[if_neg (by rw[beq_builtin_none];exact Bool.false_ne_true)]
 refine wpAny_bind (wpAny_callSpecialUnlessNone?_slot (name:=Str.ofString "__contains__") hm.typeIs slot_dict_contains
  (wpAny_call_entry slot_dict_contains hm.typeIs entry_dict_contains ?_ (args_dict_contains _ _)))
 show wpAny _ _ (dictGet d (.ref a) >>= _) _ _ s;refine wpAny_bind (wpAny_dictGet_heap hu hkey hm ?_);cases hf:atKey xs k with
 | some v =>
  rw[hf] at h;show wpAny _ _ (ret (.bool true)) _ _ _;exact wpAny_pure ⟨_,rfl,wpAny_truthy_bool (wpAny_pure h)⟩
 | none =>
  rw[hf] at h;show wpAny _ _ (Builtin.Dict.pendingKey? d (.ref a) >>= _) _ _ _;exact wpAny_bind (wpAny_pendingKey_other hd (wpAny_pure ⟨_,rfl,wpAny_truthy_bool (wpAny_pure h)⟩))
end
end PySem
namespace Dn
open L2 Mn
abbrev StX:=List (StK×Addr×Value)
def aul(P:Program)(w:World)(d:Addr)(xs:StX):Heap->Prop:=fun h=>∃o es ep,h.get? d=some o/\o.ExactDict/\o.data=.dict es ep/\es.toList=xs.map (entryOfKey (ah6 P w))/\(xs.map (·.1)).Nodup/\(d==sysModules)=false
abbrev StO(X:Cx)(d:Addr)(xs:StX):HO:=.ext (aul X.prog X.w d xs)
def ac1(H:Hp)(xs:StX):Prop:=∀x∈xs,∃b,H x.2.1=some (.tup [.ref b,.int x.1.2])/\H b=some (.tup (x.1.1.map V.int))
section
variable{K:Fg9}{X:Cx}
theorem amj{P:Program}{w:World}:∀{ns:List Int} {us:List Value},Vals (ns.map V.int) us->ItemsAre (intKind P w) ns us
 | [],_,h=>by cases h;exact .nil
 | n::ns,_,h=>by
  cases h with
  | cons a b =>
   obtain⟨t,rfl⟩:=a;exact .cons (by simp[intKind,Value.isInt]) (amj b)
theorem ahm{jv:List (Addr×Obj)}{σ:L2.St}{H:Hp}{s:Shared}(I:Inv X jv σ H s){a b:Addr}{as:List Int}{r:Int}(e1:H a=some (.tup [.ref b,.int r]))(e2:H b=some (.tup (as.map V.int))):IsSt X.prog X.w s.heap (as,r) a:=by
 obtain⟨its,rv,⟨o,f1,f2,n,f3⟩,_⟩:=I.tuple (SqT.of e1);obtain⟨its2,rv2,⟨o2,g1,g2,n2,g3⟩,_⟩:=I.tuple (SqT.of e2);cases rv with
 | cons h1 t1 =>
  cases t1 with
  | cons h2 t2 =>
   cases t2;cases h1;obtain⟨t,rfl⟩:=h2;exact⟨o,b,t,n,f1,f2,f3,o2,its2.toArray,n2,g1,g2,g3,amj rv2⟩
theorem aqh{jv:List (Addr×Obj)}{σ:L2.St}{H:Hp}{s:Shared}(I:Inv X jv σ H s){d:Addr}{xs:StX}(h:H d=some (StO X d xs))(k:ac1 H xs):s.heap.DictOfH (ah6 X.prog X.w) d xs/\(d==sysModules)=false:=by
 obtain⟨⟨o,es,ep,e1,e2,e3,e4,e5,e6⟩,_⟩:=(show ux X.prog X.w H s.heap d (StO X d xs) from I.hok d _ h)
 refine⟨⟨o,es,ep,e1,e2,e3,e4,fun x hx =>?_,e5⟩,e6⟩
 obtain⟨b,b1,b2⟩:=k x hx;exact ahm I b1 b2
def aws(X:Cx):TE:=fun _ H Q=>∀p,H p=none->Q (.ref p) (upd H p (StO X p []))
theorem stable{P:Program}{w:World}{d:Addr}{xs:StX}{h1 h2:Heap}(x:aul P w d xs h1)(k:∀o,h1.get? d=some o->h2.get? d=some o):aul P w d xs h2:=by
 obtain⟨o,es,ep,e1,r⟩:=x;exact⟨o,es,ep,k o e1,r⟩
theorem ar6{pos:Pos}:PE X (.Dict [] [] pos) (aws X):=by
 intro jv s σ H Q I q;have big:sysModules < s.heap.objs.size:=by
  have h:mainGlobals < s.heap.objs.size:=(I.mod.glob.keeps I.bk).lt;exact Nat.lt_trans (by decide) h
 have hn:=I.hok.fresh (Nat.le_refl s.heap.objs.size);refine wpAny_Dict_empty ⟨.ref s.heap.objs.size,upd H s.heap.objs.size (StO X s.heap.objs.size []),?_,rfl,q _ hn⟩;refine I.laid (t':=s.toks) (fun b u e=>Heap.get?_push_of_some _ e) (Nat.le_refl _) ?_
 have e:(s.heap.push { cls:=.type "dict", data:=.dict #[] }).get? s.heap.objs.size=some { cls:=.type "dict", data:=.dict #[] }:=Heap.get?_push_size _ rfl;exact⟨⟨_,#[],0,e,⟨rfl,rfl,rfl⟩,rfl,rfl,List.nodup_nil,beq_eq_false_iff_ne.mpr (Ne.symm (Nat.ne_of_lt big))⟩,⟨_,e⟩,fun h1 h2=>stable⟩
def aw6(X:Cx):R2:=fun x y H Q=>∃a b as r d xs,x=.ref a/\y=.ref d/\H a=some (.tup [.ref b,.int r])/\H b=some (.tup (as.map V.int))/\H d=some (StO X d xs)/\ac1 H xs/\Q (.bl (!(atKey xs (as,r)).isSome)) H
theorem asb(hu:X.A.units+64 < cLine):OpR X (compareOp .NotIn) (aw6 X):=by
 intro jv s σ H x y v u Q I rx ry h;obtain⟨a,b,as,r,d,xs,rfl,rfl,e1,e2,e3,k,q⟩:=h;cases rx;cases ry;obtain⟨m,md⟩:=aqh I e3 k;exact ant (knd:=ah6 X.prog X.w) (by show X.A.units+1+40 < _;omega) (ahm I e1 e2) md m ⟨.bl _,H,I.tok _,rfl,q⟩
def a0o(X:Cx):R2:=fun x y H Q=>∃a b as r d xs p,x=.ref d/\y=.ref a/\H a=some (.tup [.ref b,.int r])/\H b=some (.tup (as.map V.int))/\H d=some (StO X d xs)/\ac1 H xs/\atKey xs (as,r)=some p/\∃z,RelV z p.2/\Q z H
theorem a1g(hu:X.A.units+64 < cLine):IxR X (a0o X):=by
 intro value slice jv s σ H x y v u Q I rx ry h hs;obtain⟨a,b,as,r,d,xs,p,rfl,rfl,e1,e2,e3,k,ek,z,rz,q⟩:=h;cases rx;cases ry;obtain⟨m,md⟩:=aqh I e3 k;exact tail_any m.typeIs slot_dict_getitem.lookup (wpAny_getItem_heap (knd:=ah6 X.prog X.w) (by show X.A.units+1+40 < _;omega) (ahm I e1 e2) m ek ⟨z,H,I.tok _,rz,q⟩) hs
def aw5(X:Cx):TSet:=fun o i v H Q=>∃a b as r d xs,o=.ref d/\i=.ref a/\H a=some (.tup [.ref b,.int r])/\H b=some (.tup (as.map V.int))/\H d=some (StO X d xs)/\ac1 H xs/\atKey xs (as,r)=none/\xs.length<=100000 /\
 ∀u,RelV v u->Q (upd H d (StO X d (xs++[((as,r),a,u)])))
theorem awy(hu:X.A.units+64 < cLine):PSet X (aw5 X):=by
 intro jv s σ H o i v ov iv u Q I ro ri rv h;obtain⟨a,b,as,r,d,xs,rfl,rfl,e1,e2,e3,k,ek,hz,q⟩:=h;cases ro;cases ri;obtain⟨m,md⟩:=aqh I e3 k;refine wpAny_setItem_heap (knd:=ah6 X.prog X.w) (by show X.A.units+1+40 < _;omega) (ahm I e1 e2) m (fun h' m' hs =>?_) (by rw[sizeLine_eq];omega)
 rw[storedH_new ek] at m';refine⟨_,?_,q u rv⟩;obtain⟨o,es,ep,f1,f2,f3,f4,_,f5⟩:=m';exact I.write (by rw[e3];trivial) (.inl rfl) (fun b u hb e=>(hs.2 b hb).trans e) ⟨o,f1⟩ ⟨⟨o,es,ep,f1,f2,f3,f4,f5,md⟩,⟨o,f1⟩,fun h1 h2=>stable⟩
end
def okR{α:Type}(m:M α)(ρ:Ro):Option (α×Ro):=match m ρ with
 | some (.ok a,ρ')=>some (a,ρ')
 | _=>none
theorem aez{α:Type}{m:M α}{ρ ρ':Ro}{a:α}(h:okR m ρ=some (a,ρ')):m ρ=some (.ok a,ρ'):=by
 unfold okR at h;split at h
 ·rename_i e;cases h;exact e
 ·cases h
theorem aey{α:Type}{m:M α}{ρ ρ':Ro}{a:α}(h:m ρ=some (.ok a,ρ')):okR m ρ=some (a,ρ'):=by
 unfold okR;rw[h]
theorem jy{α β:Type}{o:Option α}{f:α->Option β}{b:β}(h:o.bind f=some b):∃a,o=some a/\f a=some b:=by
 cases o with
 | none=>cases h
 | some a=>exact⟨a,rfl,h⟩
def keyD:D->Option StK
 | .tup [.tup l,.int r]=>(jo l).map fun as=>(as,r)
 | _=>none
theorem ak5{d:D}{k:StK}(h:keyD d=some k):d=.tup [.tup (k.1.map D.int),.int k.2]:=by
 unfold keyD at h;split at h
 ·rename_i l r;cases e:jo l with
  | none=>rw[e] at h;cases h
  | some as =>
   rw[e] at h;cases h;rw[zb e]
 ·cases h
@[simp] theorem ak4(as:List Int)(r:Int):keyD (.tup [.tup (as.map D.int),.int r])=some (as,r):=by
 show(jo (as.map D.int)).map _=_;rw[qt];rfl
abbrev Kvs:=List (StK×Int)
def pairD:D->Option (D×D)
 | .tup [x,y]=>some (x,y)
 | _=>none
theorem ar8{d:D}{p:D×D}(h:pairD d=some p):d=.tup [p.1,p.2]:=by
 unfold pairD at h;split at h
 ·cases h;rfl
 ·cases h
def aup(mk mv:M D)(ma:M Rv)(ml:M D)(iA iR:Nat)(kvs:Kvs)(ρ:Ro):Option (Kvs×Ro) :=
 (okR mv ρ).bind fun p=>(asI p.1).bind fun n=>(okR mk p.2).bind fun q=>(keyD q.1).bind fun k =>
  if (decide (k∈kvs.map (·.1))||decide (100000 < kvs.length))=true then none else (okR ma q.2).bind fun r=>(okR ml r.2).bind fun t=>(pairD t.1).bind fun z =>
   some (kvs++[(k,n)],List.set (List.set t.2 iA (.val z.1)) iR (.val z.2))
def aka(mk mv:M D)(ma:M Rv)(ml:M D)(iA iR:Nat):Nat->Kvs->Ro->Option (Kvs×Ro)
 | 0,_,_=>none
 | n+1,kvs,ρ=>(okR mk ρ).bind fun p=>(keyD p.1).bind fun k=>if decide (k∈kvs.map (·.1))=true then some (kvs,p.2) else (aup mk mv ma ml iA iR kvs p.2).bind fun q=>aka mk mv ma ml iA iR n q.1 q.2
def av4(iS iL iA iR iH:Nat)(m0:M Rv)(mk mv:M D)(ma:M Rv)(ml:M D)(n:Nat)(g:Sd):Sd:=fun ρ=>(ρ[iS]?).bind fun _ =>
 (okR m0 (List.set ρ iS .emp)).bind fun p=>(aka mk mv ma ml iA iR n [] (List.set p.2 iL p.1.sl)).bind fun q=>(okR mk q.2).bind fun r=>(keyD r.1).bind fun k=>(q.1.lookup k).bind fun j=>g (List.set r.2 iH (.val (.int j)))
theorem agq{xs:StX}{k:StK}:(atKey xs k).isSome=decide (k∈xs.map (·.1)):=by
 induction xs with
 | nil=>rfl
 | cons x xs ih =>
  by_cases e:x.1=k
  ·simp[atKey,List.find?_cons,e]
  ·have e':¬k=x.1:=fun q=>e q.symm
   have:atKey (x::xs) k=atKey xs k:=by simp[atKey,List.find?_cons,e]
   rw[this,ih,List.map_cons];simp[e']
theorem agr{k:StK}{n:Int}:∀{xs:StX} {kvs:Kvs},xs.map (·.1)=kvs.map (·.1)->IntsAre (xs.map (·.2.2)) (kvs.map (·.2))->kvs.lookup k=some n->∃p:Addr×Value,atKey xs k=some p/\∃t,p.2=.int n t
 | [],[],_,_,h=>by cases h
 | [],_::_,h,_,_=>by cases h
 | _::_,[],h,_,_=>by cases h
 | x::xs,y::kvs,h1,h2,h=>by
  obtain⟨k',a',u'⟩:=x;obtain⟨ky,ny⟩:=y;simp only[List.map_cons,List.cons.injEq] at h1 h2;obtain⟨rfl,h1⟩:=h1
  by_cases e:k=k'
  ·subst e;rw[List.lookup_cons_self] at h;cases h;cases h2 with
   | cons n t r=>exact⟨(a',.int _ t),by simp[atKey],t,rfl⟩
  ·have e':¬k'=k:=fun q=>e q.symm
   rw[List.lookup_cons,show(k==k')=false by simpa using e] at h
   cases h2 with
   | cons n t r =>
    obtain⟨p,hp,t',ht⟩:=agr h1 r h;refine⟨p,?_,t',ht⟩;rw[<-hp];simp[atKey,List.find?_cons,e']
section
variable{K:Fg9}{X:Cx}
theorem Good.empS{tg:Nat->Addr}{F H:Hp}{ρ:Ro}{σ:L2.St}(G:Good K tg F H ρ σ)(i:Nat)(o:Option V):Good K tg F H (List.set ρ i .emp) (List.set σ i o)/\∀a,Own (List.set ρ i .emp) (List.set σ i o) a->Own ρ σ a:=by
 have key:∀j (t:Option Nat) (l:List D),(List.set ρ i Sl.emp)[j]? = some (Sl.own t l)->i≠j/\ρ[j]? = some (Sl.own t l):=fun j t l e=>by
  rw[List.getElem?_set] at e;split at e
  ·split at e <;> cases e
  ·rename_i h;exact⟨h,e⟩
 have ow:∀j a,Owns (List.set ρ i .emp) (List.set σ i o) j a->Owns ρ σ j a:=fun j a z=>by
  obtain⟨⟨t,l,e⟩,q⟩:=z;obtain⟨h,e'⟩:=key j t l e;rw[List.getElem?_set_ne h] at q;exact⟨⟨t,l,e'⟩,q⟩
 refine⟨⟨G.sub,by rw[List.length_set,List.length_set];exact G.len,fun j sl o' e q =>?_,fun j1 j2 a h1 h2=>G.inj j1 j2 a (ow j1 a h1) (ow j2 a h2)⟩,fun a z =>?_⟩
 ·by_cases h:i=j
  ·subst h;rw[List.getElem?_set] at e;simp only[if_true] at e;split at e
   ·cases e;trivial
   ·cases e
  ·rw[List.getElem?_set_ne h] at e q;exact G.sl j sl o' e q
 ·obtain⟨j,z⟩:=z;exact⟨j,ow j a z⟩
structure SeenI (K:Fg9) (X:Cx) (tg:Nat->Addr) (F0 H0:Hp) (O:Addr->Prop) (iS:Nat) (p:Addr) (kvs:Kvs) (F H:Hp) (ρ:Ro) (σ:L2.St):Prop where
 good:Good K tg F H ρ σ
 ext:Ext O (Own ρ σ) F0 H0 F H
 at':σ[iS]? = some (some (.ref p))
 new:H0 p=none
 free:F p=none
 nown:¬Own ρ σ p
 xs:∃xs:StX,H p=some (StO X p xs)/\ac1 F xs/\xs.map (·.1)=kvs.map (·.1)/\IntsAre (xs.map (·.2.2)) (kvs.map (·.2))
section
variable{tg:Nat->Addr}{F0 H0:Hp}{O:Addr->Prop}{iS:Nat}{p:Addr}{kvs:Kvs}{F H F' H':Hp}{ρ ρ':Ro}{σ σ':L2.St}
theorem ac1.mono{F F':Hp}{xs:StX}(s:Same F F')(h:ac1 F xs):ac1 F' xs:=fun x hx=>by
 obtain⟨b,b1,b2⟩:=h x hx;exact⟨b,s _ _ b1,s _ _ b2⟩
theorem SeenI.step(J:SeenI K X tg F0 H0 O iS p kvs F H ρ σ)(G:Good K tg F' H' ρ' σ')(x:Ext (Own ρ σ) (Own ρ' σ') F H F' H')(hs:σ'[iS]? = σ[iS]?):SeenI K X tg F0 H0 O iS p kvs F' H' ρ' σ':=by
 obtain⟨xs,h1,h2,h3,h4⟩:=J.xs;refine⟨G,J.ext.trans x,hs.trans J.at',J.new,?_,fun z =>?_,xs,x.keep _ _ h1 J.nown,h2.mono x.sub,h3,h4⟩
 ·cases e:F' p with
  | none=>rfl
  | some o =>
   rcases x.new p o e with q | q | q
   ·rw[J.free] at q;cases q
   ·rw[h1] at q;cases q
   ·exact absurd q J.nown
 ·rcases x.own p z with q | q
  ·exact J.nown q
  ·rw[h1] at q;cases q
theorem SeenI.store(J:SeenI K X tg F0 H0 O iS p kvs F H ρ σ){i:Nat}(hi:i≠iS){d:D}{v:V}(h:Is K F d v):SeenI K X tg F0 H0 O iS p kvs F H (List.set ρ i (.val d)) (List.set σ i (some v)):=by
 obtain⟨G,x⟩:=J.good.storeV i h;exact J.step G x (List.getElem?_set_ne hi)
theorem ak3{k:StK}{v:V}(h:Is K F (.tup [.tup (k.1.map D.int),.int k.2]) v):∃a b,v=.ref a/\F a=some (.tup [.ref b,.int k.2])/\F b=some (.tup (k.1.map V.int)):=by
 cases h with
 | tup e hl =>
  cases hl with
  | cons h1 t1 =>
   cases t1 with
   | cons h2 t2 =>
    cases t2;cases h2;cases h1 with
    | tup e' hl' =>
     rw[hl'.int_inv] at e';exact⟨_,_,rfl,e,e'⟩
theorem SeenI.write(J:SeenI K X tg F0 H0 O iS p kvs F H ρ σ){xs:StX}(h1:H p=some (StO X p xs))(h2:ac1 F xs)(h3:xs.map (·.1)=kvs.map (·.1))(h4:IntsAre (xs.map (·.2.2)) (kvs.map (·.2))){k:StK}{a b:Addr}{n:Int}{u:Value}(ea:F a=some (.tup [.ref b,.int k.2]))(eb:F b=some (.tup (k.1.map V.int)))(ru:RelV (.int n) u) :
  SeenI K X tg F0 H0 O iS p (kvs++[(k,n)]) F (upd H p (StO X p (xs++[(k,a,u)]))) ρ σ:=by
 have hp:∀b o,F b=some o->b≠p:=fun b o e z=>by rw[z,J.free] at e;cases e
 have ap:∀{ys:List Value} {ns:List Int} {m:Int} {t:Tok},IntsAre ys ns->IntsAre (ys++[.int m t]) (ns++[m]):=by
  intro ys ns m t h
  induction h with
  | nil=>exact .cons m t .nil
  | cons n' t' r ih=>exact .cons n' t' ih
 obtain⟨t,rfl⟩:=ru;refine⟨J.good.grow (Same.refl F) (fun b o e=>by rw[bj (hp b o e)];exact J.good.sub b o e) (fun c w =>?_) (fun c C dx fvs f1 f2=>⟨f1,?_⟩),?_,J.at',J.new,J.free,J.nown,xs++[(k,a,.int n t)],fj,fun x hx =>?_,?_,?_⟩
 ·have:c≠p:=fun z=>J.nown (z▸w)
  rw[bj this];exact⟨(J.good.ownAt w).1,rfl⟩
 ·have:c≠p:=fun z=>by rw[z,h1] at f2;cases f2
  rw[bj this]
 ·refine⟨J.ext.sub,J.ext.new,fun c o e n' =>?_,J.ext.own,fun c e =>?_⟩
  ·have:c≠p:=fun z=>by rw[z,J.new] at e;cases e
   rw[bj this];exact J.ext.keep c o e n'
  ·by_cases hc:c=p
   ·rw[hc];exact J.new
   ·rw[bj hc] at e;exact J.ext.there c e
 ·rcases List.mem_append.mp hx with hx | hx
  ·exact h2 x hx
  ·rcases List.mem_singleton.mp hx with rfl;exact⟨b,ea,eb⟩
 ·rw[List.map_append,List.map_append,h3];rfl
 ·rw[List.map_append,List.map_append];exact ap h4
end
variable{ek1 ek2 ek3 e0 ev ea el eS1 eS2 eS3:Expr}{ss:List Stmt}{p1 p2 p3 p4 p5 p6 p7 p8 p9 p10 p11 p12 p13 p14 p15 p16 p17:Pos}
theorem ark{iS iL iA iR iH kt:Nat}{xS xL xA xR xH:Str}{mk mv ml:M D}{m0 ma:M Rv}{g:Sd}(n:Nat)(hu:X.A.units+64 < cLine)(hp:PassesOwn (model X.prog X.w) X.A X.env X.xe)(hc:X.calm=true)(hN:X.N.Nodup)
  (nS:X.N[iS]? = some xS) (nL:X.N[iL]? = some xL) (nA:X.N[iA]? = some xA) (nR:X.N[iR]? = some xR) (nH:X.N[iH]? = some xH)
  (lS:Loc X.env.scope xS) (lL:Loc X.env.scope xL) (lA:Loc X.env.scope xA) (lR:Loc X.env.scope xR) (lH:Loc X.env.scope xH) (dL:iL≠iS) (dA:iA≠iS) (dR:iR≠iS)
  (s1:PE X eS1 (tVar iS)) (s2:PE X eS2 (tVar iS)) (s3:PE X eS3 (tVar iS)) (h0:ER K X e0 m0) (k1:EV K X ek1 mk) (k2:EV K X ek2 mk) (k3:EV K X ek3 mk) (hv:EV K X ev mv) (ha:ER K X ea ma) (hl:EV K X el ml) (hg:SVs K X ss g) (hix:alk ek3)
  (hm:behindInMarks .NotIn eS1=false:=by with_unfolding_all rfl)
  (w1:swapsWith (.Dict [] [] p2) (some (.Name xS p1)) p3.line X.env=pure false:=by rfl) (f1:X.fn xS=true∨X.env.scope.names.lookup xS=some .local:=by first | exact .inl rfl | exact .inr rfl | assumption)
  (w2:swapsWith e0 (some (.Name xL p4)) p5.line X.env=pure false:=by rfl) (f2:X.fn xL=true∨X.env.scope.names.lookup xL=some .local:=by first | exact .inl rfl | exact .inr rfl | assumption)
  (w3:swapsWithSole [.Subscript eS2 ek2 p7] ev p8.line X.env=pure false:=by rfl) (w4:swappedStores [.Subscript eS2 ek2 p7] ev X.env=pure none:=by rfl)
  (w5:(assignEach [.Subscript eS2 ek2 p7] X.env).map (·.2)=[assign (.Subscript eS2 ek2 p7) X.env]:=by rfl)
  (w6:∀v,assign (.Subscript eS2 ek2 p7) X.env v=(do
   let ov <-holding [v] (eval eS2 X.env)
   let iv <-holding [v,ov] (eval ek2 X.env)
   standAt p7
   holding [v,ov,iv] (setItem ov iv v)
   release [v,ov,iv] []):=by intro _;rfl)
  (w7:swapsWith ea none p9.line X.env=pure false:=by rfl)
  (w8:swapsWithSole [.Tuple [.Name xA p10,.Name xR p11] kt p12] el p13.line X.env=pure false:=by rfl) (w9:swappedStores [.Tuple [.Name xA p10,.Name xR p11] kt p12] el X.env=pure none:=by rfl)
  (w10:(assignEach [.Tuple [.Name xA p10,.Name xR p11] kt p12] X.env).map (·.2)=[assign (.Tuple [.Name xA p10,.Name xR p11] kt p12) X.env]:=by rfl)
  (w11:(assignEach [.Name xA p10,.Name xR p11] X.env).map (·.2)=assign (.Name xA p10) X.env::(assignEach [.Name xR p11] X.env).map (·.2):=by rfl) (w12:(assignEach [.Name xR p11] X.env).map (·.2)=assign (.Name xR p11) X.env::(assignEach [] X.env).map (·.2):=by rfl)
  (w13:(assignEach [.Name xA p10,.Name xR p11] X.env).length=2:=by rfl) (w14:(assignEach [.Name xA p10,.Name xR p11] X.env).findIdx? (·.1)=none:=by rfl)
  (f3:X.fn xA=true∨X.env.scope.names.lookup xA=some .local:=by first | exact .inl rfl | exact .inr rfl | assumption) (f4:X.fn xR=true∨X.env.scope.names.lookup xR=some .local:=by first | exact .inl rfl | exact .inr rfl | assumption)
  (w15:swapsWith (.Subscript eS3 ek3 p16) (some (.Name xH p15)) p17.line X.env=pure false:=by rfl) (f5:X.fn xH=true∨X.env.scope.names.lookup xH=some .local:=by first | exact .inl rfl | exact .inr rfl | assumption) :
  SVs K X (.Assign [.Name xS p1] (.Dict [] [] p2) p3::.Assign [.Name xL p4] e0 p5::.While (.Compare ek1 [.NotIn] [eS1] p6) [.Assign [.Subscript eS2 ek2 p7] ev p8,.Expr ea p9,.Assign [.Tuple [.Name xA p10,.Name xR p11] kt p12] el p13] [] p14::.Assign [.Name xH p15] (.Subscript eS3 ek3 p16) p17::ss)
   (av4 iS iL iA iR iH m0 mk mv ma ml n g):=SVs.mk fun hk=>PSs.imp (yw (alz hN nS lS ar6 w1 f1) (yw (alz hN nL lL (h0 hk) w2 f2) (yw (aly hp (ao4 (asb hu) (k1 hk) s1 hm)
    (yw (al0 (hv hk) (atr s2 (k2 hk) (awy hu) w6) w3 w4 w5) (yw (ao6 (ha hk) w7) (ao5 (al0 (hl hk) (atq hc (ag7 (akj hN nA lA f3) (ag7 (akj hN nR lR f4) apc w12) w11) w13 w14) w8 w9 w10)))))
    (yw (alz hN nH lH (axp (a1g hu) s3 (k3 hk) hix) w15 f5) (hg hk))))) fun E σ H z9=>by
 obtain⟨tg,F,ρ,fl,ρ',G,em,q⟩:=z9;subst hk;obtain⟨sl0,esl,em⟩:=jy em;obtain⟨⟨r0,ρ0⟩,em0,em⟩:=jy em;obtain⟨⟨kvE,ρE⟩,emL,em⟩:=jy em;obtain⟨⟨dE,ρK⟩,emK,em⟩:=jy em;obtain⟨kE,ekE,em⟩:=jy em;obtain⟨jE,ejE,emF⟩:=jy em
 clear em
 intro p hpn;have Gf:=G.fresh hpn (StO X p []);have Xf:=G.freshX hpn (StO X p []);obtain⟨Ge,oe⟩:=Gf.empS iS (some (.ref p));have oe':=oe;have hlen:iS < σ.length:=by
  rw[<-G.len];exact(List.getElem?_eq_some_iff.mp esl).1
 have J0:SeenI X.K X tg F H (Own ρ σ) iS p [] F (upd H p (StO X p [])) (List.set ρ iS .emp) (List.set σ iS (some (.ref p))) :=
  ⟨Ge,⟨Xf.sub,Xf.new,Xf.keep,fun a z=>Xf.own a (oe a z),Xf.there⟩,by rw[List.getElem?_set_self hlen],hpn,G.freeF hpn,(fun z=>by
   obtain⟨_,vs,e⟩:=G.ownAt (oe' p z);rw[hpn] at e;cases e),⟨[],fj,(fun x hx=>by cases hx),rfl,.nil⟩⟩
 refine⟨tg,F,List.set ρ iS .emp,r0,ρ0,Ge,aez em0,fun v H1 F1 G1 x1 rr =>?_⟩
 obtain⟨G2,x2⟩:=G1.store x1 iL rr;have J1:=J0.step G2 x2 (List.getElem?_set_ne dL);refine⟨fun m σ' H'=>∃kvs F' ρ',SeenI X.K X tg F H (Own ρ σ) iS p kvs F' H' ρ' σ'/\aka mk mv ma ml iA iR m kvs ρ'=some (kvE,ρE),⟨n,[],F1,_,J1,emL⟩,?_⟩
 rintro m σ2 H2 ⟨kvs,F2,ρ2,J,es⟩
 cases m with
 | zero=>cases es
 | succ m =>
  obtain⟨⟨d1,ρ3⟩,e1,es⟩:=jy es;obtain⟨k,ek,es⟩:=jy es;refine⟨tg,F2,ρ2,d1,ρ3,J.good,aez e1,fun v H3 F3 G3 x3 r3 =>?_⟩
  have J3:=J.step G3 x3 rfl;have r3:Is X.K F3 d1 v:=r3;have ek:keyD d1=some k:=ek;rw[ak5 ek] at r3;obtain⟨a,b,rfl,ea,eb⟩:=ak3 r3;obtain⟨xs,h1,h2,h3,h4⟩:=J3.xs;refine⟨.ref p,J3.at',a,b,k.1,k.2,p,xs,rfl,rfl,G3.sub _ _ ea,G3.sub _ _ eb,h1,h2.mono G3.sub,!(atKey xs k).isSome,rfl,?_⟩;rw[agq,h3]
  by_cases hkk:k∈kvs.map (·.1)
  ·rw[if_pos (decide_eq_true hkk)] at es;cases es;rw[decide_eq_true hkk];refine iteF ?_;refine⟨.ref p,J3.at',tg,F3,_,dE,ρK,G3,aez emK,fun v4 H4 F4 G4 x4 r4 =>?_⟩
   have J4:=J3.step G4 x4 rfl;have r4:Is X.K F4 dE v4:=r4;have ekE:keyD dE=some kE:=ekE;rw[ak5 ekE] at r4;obtain⟨a4,b4,rfl,ea4,eb4⟩:=ak3 r4;obtain⟨ys,g1,g2,g3,g4⟩:=J4.xs;obtain⟨pp,gp,t,gt⟩:=agr g3 g4 ejE;refine⟨a4,b4,kE.1,kE.2,p,ys,pp,rfl,rfl,G4.sub _ _ ea4,G4.sub _ _ eb4,g1,g2.mono G4.sub,gp,.int jE,⟨t,gt⟩,?_⟩;obtain⟨G5,x5⟩:=J4.good.storeV iH (.int jE);exact⟨tg,F4,_,fl,ρ',G5,emF,FlOk.back (J4.ext.trans x5) q⟩
  ·rw[if_neg (by simpa using hkk)] at es
   obtain⟨⟨kv2,ρ9⟩,et,es⟩:=jy es;obtain⟨⟨dv,ρ4⟩,ev',et⟩:=jy et;obtain⟨nv,en,et⟩:=jy et;obtain⟨⟨d2,ρ5⟩,e2,et⟩:=jy et;obtain⟨k2',ek2',et⟩:=jy et;split at et
   ·cases et
   rename_i hc2;simp only[Bool.or_eq_true,decide_eq_true_eq,not_or] at hc2;obtain⟨⟨ra,ρ6⟩,ea',et⟩:=jy et;obtain⟨⟨dt,ρ7⟩,el',et⟩:=jy et;obtain⟨z,ez,et⟩:=jy et;cases et;rw[decide_eq_false hkk];refine iteT ⟨fun σ' H'=>∃kvs F' ρ',SeenI X.K X tg F H (Own ρ σ) iS p kvs F' H' ρ' σ'/\aka mk mv ma ml iA iR m kvs ρ'=some (kvE,ρE),fun σ' H' h=>⟨m,Nat.lt_succ_self m,h⟩,?_⟩
   refine⟨tg,F3,ρ3,dv,ρ4,G3,aez ev',fun vv H5 F5 G5 x5 r5 =>?_⟩
   have J5:=J3.step G5 x5 rfl;refine⟨.ref p,J5.at',tg,F5,ρ4,d2,ρ5,G5,aez e2,fun v6 H6 F6 G6 x6 r6 =>?_⟩
   have J6:=J5.step G6 x6 rfl;have r6:Is X.K F6 d2 v6:=r6;have ek2':keyD d2=some k2':=ek2';rw[ak5 ek2'] at r6;obtain⟨a6,b6,rfl,ea6,eb6⟩:=ak3 r6;obtain⟨ys,g1,g2,g3,g4⟩:=J6.xs;have r5:Is X.K F5 dv vv:=r5;have en:asI dv=some nv:=en;rw[am2 en] at r5;cases r5;have hnone:atKey ys k2'=none:=by
    have:(atKey ys k2').isSome=false:=by rw[agq,g3];exact decide_eq_false hc2.1
    cases e:atKey ys k2' with
    | none=>rfl
    | some _=>rw[e] at this;cases this
   have hlen2:ys.length=kvs.length:=by
    have:=congrArg List.length g3
    simpa using this
   refine⟨a6,b6,k2'.1,k2'.2,p,ys,rfl,rfl,G6.sub _ _ ea6,G6.sub _ _ eb6,g1,g2.mono G6.sub,hnone,by omega,fun u ru =>?_⟩
   have J7:=J6.write g1 g2 g3 g4 ea6 eb6 ru;refine⟨tg,F6,ρ5,ra,ρ6,J7.good,aez ea',fun v7 H7 F7 G7 x7 r7 =>?_⟩
   have J8:=J7.step G7 x7 rfl;refine⟨tg,F7,ρ6,dt,ρ7,G7,aez el',fun v8 H8 F8 G8 x8 r8 =>?_⟩
   have J9:=J8.step G8 x8 rfl;have r8:Is X.K F8 dt v8:=r8;have ez:pairD dt=some z:=ez;rw[ar8 ez] at r8;cases r8 with
   | tup e8 hl8 =>
    cases hl8 with
    | cons i1 t1 =>
     cases t1 with
     | cons i2 t2 =>
      cases t2;exact⟨_,_,rfl,SqT.of (G8.sub _ _ e8),rfl,_,_,rfl,_,_,rfl,rfl,_,F8,_,(J9.store dA i1).store dR i2,es⟩
end
end Dn
end
namespace Dn
open PySem L2
@[simp] abbrev gL9(d:D):Option Rv:=(itemsD d).map fun l=>.v (.int l.length)
@[simp] abbrev gT9(d:D):Option Rv:=(itemsD d).map fun l=>.v (.tup l)
end Dn
namespace My
open PySem L2 Mn Dn
def age:Sd :=
 (dRet (M.v (mAnd (mIsi .int (cu 0)) (mUn gNot (mIsi .bool (cu 0))))))
def yc:Fd:=fnD 1 1 age
def xr:Sd :=
 (dRet (M.v (mAnd (M.d (mFn yc [some 0] (dg 0 f9))) (ai2 (fun i j=>decide (i<=j)) (fun i j=>decide (i<=j)) (mVar 1) (mVar 0) (mVar 2)))))
def gf:Fd:=fnD 3 3 xr
def xu:Sd :=
 (dRet (M.v (mAnd (mIsi .tuple (cu 0)) (ai2 (fun i j=>decide (i<=j)) (fun i j=>decide (i<=j)) (mVar 1) (M.d (gb (g1 gL9) (dw 0 mNil))) (mVar 2)))))
def jf:Fd:=fnD 3 3 xu
def zy:Sd :=
 (dRet (mFn gf [none,none,none] (bf (mVar 1) (bf (ret (.int 0)) (bf (M.d (mOp (gInt fSub) (iu (M.d (gb (g1 gL9) (dw 0 mNil))) (ret (.int 1))))) f9)))))
def jk:Fd:=fnD 2 2 zy
def su:Sd :=
 (dIf (aea (uz (M.d (mFn jk [some 0,none] (dg 0 (bf (mVar 1) f9)))))) (fun _=>none) dNx)
def dh:Fd:=fnD 2 2 su
def ug:Sd :=
 (dIf (ai3 (g8 (gCmp fun i j=>decide (j<=i)) (bh 5 (ret (.int 0)))) (g8 (gIn true) (bh 5 (cu 2)))) (ac6 (M.v (mMut 2 wj (bw (mVar 5) mNil)))) dNx)
def wz:M Bool :=
 (g8 (gCmp fun i j=>decide (i < j)) (bh 3 (M.d (gb (g1 gL9) (dw 2 mNil)))))
def aa6:Sd :=
 (dSeq (dSet 4 (mOp gIx (bh 0 (M.d (mOp gIx (bh 2 (cu 3))))))) (dSeq (dFor (sy (mVar 4)) (dq 5) ug) (dAug (fun i j=>i+j) 3 (ret (.int 1)))))
def aji:Sd :=
 (dSeq (ac6 (mFn dh [some 0,none] (dg 0 (bf (mVar 1) f9)))) (dSeq (dSet 2 (mLst (bw (mVar 1) mNil))) (dSeq (dSet 3 (M.v (ret (.int 0)))) (dSeq (whileD wz aa6 fuel) (dRet (gb (g1 gT9) (bw (M.d (gb (g1 vg) (dw 2 mNil))) mNil)))))))
def qu:Fd:=fnD 6 2 aji
def abj:M D :=
 (M.d (mOp (gCmp fun i j=>decide (j<=i)) (iu (M.d (gb (g1 an5) (dw 0 mNil))) (ret (.int 0)))))
def ajh:Sd :=
 (dRet (gb (g1 gAll) (bw (M.d (aap [none] (sy (mVar 0)) (dq 0) (ret true) abj)) mNil)))
def aaw:Fd:=fnD 1 1 ajh
def xn:Sd :=
 (dIf (aea (uz (M.d (mFn aaw [none] (bf (mVar 0) f9))))) (fun _=>none) dNx)
def jd:Fd:=fnD 1 1 xn
def aay:M D :=
 (M.d (mFn gf [some 0,none,none] (dg 0 (bf (ret (.int 0)) (bf (M.d (mOp (gInt fSub) (iu (M.d (gb (g1 gL9) (dw 1 mNil))) (ret (.int 1))))) f9)))))
def afe:Sd :=
 (dSeq (dIf (aea (uz (M.d (mFn jf [some 1,none,none] (dg 1 (bf (M.d (gb (g1 gL9) (dw 0 mNil))) (bf (M.d (gb (g1 gL9) (dw 0 mNil))) f9))))))) (dRet (M.v (ret (.bl false)))) dNx) (dRet (gb (g1 gAll) (bw (M.d (aap [none,none] (mGet ap1 (bw (mVar 1) (bw (mVar 0) mNil))) (bTup 2 (abo (dq 0) (abo (dq 1) bNil))) (ret true) aay)) mNil))))
def uo:Fd:=fnD 2 2 afe
def vf:Sd :=
 (dIf (aea (uz (M.d (mFn uo [none,none] (bf (mVar 0) (bf (mVar 1) f9)))))) (fun _=>none) dNx)
def ig:Fd:=fnD 2 2 vf
def aax:M D :=
 (M.d (mOp gIx (bh 1 (M.d (mOp (gInt fSub) (bh 0 (ret (.int 1))))))))
def afd:Sd :=
 (dRet (gb (g1 gT9) (bw (M.d (aap [none,none] (mGet ap1 (bw (mVar 1) (bw (mVar 0) mNil))) (bTup 2 (abo (dq 0) (abo (dq 1) bNil))) (ret true) aax)) mNil)))
def um:Fd:=fnD 2 2 afd
def wy:M Bool :=
 (g8 (gIn false) (iu (M.d (mOp gIx (bh 2 (cu 0)))) (cu 1)))
def wk:M D :=
 (mVar 0)
def jz:M Bool :=
 (g8 (gCmp fun i j=>decide (i < j)) (iu (M.d (gb (g1 gL9) (dw 2 mNil))) (cu 3)))
def qi:Sd :=
 (dSeq (dSet 3 (gb (g1 gL9) (dw 2 mNil))) (dSet 2 (aap [none,some 2,some 0] (sy (mVar 2)) (dq 0) wy wk)))
def ac2:Sd :=
 (dSeq (dSet 2 (gb (g1 fun d=>(itemsD d).map fun l=>.fr l) (dw 1 mNil))) (dSeq (dSet 3 (mOp gAdd (iu (M.d (gb (g1 gL9) (dw 2 mNil))) (ret (.int 1))))) (dSeq (whileD jz qi fuel) (dRet (aku 2)))))
def lr:Fd:=fnD 4 2 ac2
def aaq:Sd :=
 (dSet 2 (mOp gIx (bh 0 (cu 2))))
def u6:M Bool :=
 (g8 (gEq true) (iu (M.d (mOp gIx (bh 0 (M.d (mOp gIx (bh 4 (mUn gNeg (ret (.int 1))))))))) (cu 2)))
def aac:Sd :=
 (ac6 (M.v (mMut 4 wj (bw (M.d (mOp gIx (bh 0 (M.d (mOp gIx (bh 4 (mUn gNeg (ret (.int 1))))))))) mNil))))
def afc:Sd :=
 (dSeq (dSet 2 (M.v (mVar 1))) (dSeq (dFor (mGet wg (bw (M.d (gb (g1 gL9) (dw 0 mNil))) mNil)) (dq 3) aaq) (dSeq (dSet 4 (mLst (bw (mVar 2) mNil))) (dSeq (whileD u6 aac fuel) (dSeq (dSet 5 (M.v (avl 4 ajj (bw (M.d (gb (g1 an5) (dw 4 mNil))) mNil)))) (dRet (gb (g1 gT9) (bw (M.d (mOp gAdd (iu (M.d (apk 4 (anx (mVar 5)) (ret none))) (M.d (apk 4 (ret none) (anx (mVar 5))))))) mNil))))))))
def ph:Fd:=fnD 6 2 afc
def oh:Sd :=
 (dSeq (dSet 4 (mFn ph [some 0,none] (dg 0 (bf (mVar 3) f9)))) (dIf (g8 (gIn true) (bh 4 (cu 2))) (ac6 (M.v (mMut 2 wj (bw (mVar 4) mNil)))) dNx))
def agd:Sd :=
 (dSeq (dSet 2 (mLst mNil)) (dSeq (dFor (sy (M.d (mFn lr [some 0,some 1] (dg 0 (dg 1 f9))))) (dq 3) oh) (dRet (gb (g1 abg) (dw 2 mNil)))))
def xx:Fd:=fnD 5 2 agd
def xq:Sd :=
 (dSeq (ac6 (mFn ig [none,none] (bf (mVar 0) (bf (mVar 1) f9)))) (ac6 (mFn dh [some 0,none] (dg 0 (bf (mVar 2) f9)))))
def je:Fd:=fnD 3 3 xq
def mq:Sd :=
 (dSeq (ac6 (mFn je [none,none,none] (bf (mVar 0) (bf (mVar 1) (bf (mVar 2) f9))))) (ac6 (mFn jd [none] (bf (mVar 0) f9))))
def dj:Fd:=fnD 3 3 mq
def aa3:M Bool :=
 (g8 (gIn true) (bh 1 (M.d (mFn qu [some 2,some 0] (dg 2 (dg 0 f9))))))
def aaz:M D :=
 (mVar 0)
def afg:Sd :=
 (dRet (aap [none,some 1,some 0] (sy (M.d (mFn qu [some 0,none] (dg 0 (bf (mVar 1) f9))))) (dq 0) aa3 aaz))
def uq:Fd:=fnD 2 2 afg
def jc:Sd :=
 (dIf (g8 (gIn true) (bh 2 (cu 3))) (dRet (aku 3)) dNx)
def vz:Sd :=
 (dSeq (dFor (sy (M.d (mFn xx [none,none] (bf (M.d (mFn um [none,none] (bf (mVar 0) (bf (mVar 1) f9)))) (bf (M.d (mFn qu [some 0,none] (dg 0 (bf (mVar 2) f9)))) f9))))) (dq 3) jc) (dRet (M.v (ret .non))))
def jl:Fd:=fnD 4 3 vz
def aee:Sd :=
 (dSeq (dSet 3 (mFn uq [some 0,none] (dg 0 (bf (mVar 2) f9)))) (dSeq (dIf (g8 (gEq true) (bh 3 (M.d (mLst mNil)))) (dRet (M.v (mTup (bw (ret (.str "gone")) (bw (M.d (mOp gIx (bh 3 (ret (.int 0))))) mNil))))) dNx) (dSeq (dSet 4 (mFn jl [none,none,none] (bf (mVar 0) (bf (mVar 1) (bf (mVar 2) f9))))) (dRet (mIf (uz (mIsN false (cu 4))) (M.v (ret .non)) (M.v (mTup (bw (ret (.str "ring")) (bw (mVar 4) mNil)))))))))
def zc:Fd:=fnD 5 3 aee
def ajg:Sd :=
 (dSeq (ac6 (mFn dj [none,none,none] (bf (mVar 0) (bf (mVar 1) (bf (mVar 2) f9))))) (dRet (mFn zc [none,none,none] (bf (mVar 0) (bf (mVar 1) (bf (mVar 2) f9))))))
def aav:Fd:=fnD 3 3 ajg
def acb:Sd :=
 (dSeq (dIf (g8 (gCmp fun i j=>decide (i < j)) (bh 1 (M.d (gb (g1 gL9) (dw 0 mNil))))) (dRet (mOp gIx (bh 0 (cu 1)))) dNx) (dRet (M.v (ret (.int 0)))))
def f__law_cell:Fd:=fnD 2 2 acb
def agf:Sd :=
 (dSeq (dSet 1 (gb (g2 (gInt fun i j=>some (if j > i then j else i))) (dw 0 (bw (M.d (mOp (gInt fSub) (iu (ret (.int 0)) (cu 0)))) mNil)))) (dRet (mLst (bw (mVar 1) (bw (M.d (gb (g1 as3) (bw (M.d (mOp (gCmp fun i j=>decide (j<=i)) (bh 1 (M.d (mOp (gInt fPow) (iu (ret (.int 10)) (ret (.int 18)))))))) mNil))) mNil)))))
def f__law_pen:Fd:=fnD 2 1 agf
def aca:Sd :=
 (dSeq (dIf (g8 (gEq false) (iu (M.d (mOp gIx (bh 0 (ret (.int 1))))) (ret (.int 1)))) (dSeq (dAsg (M.d (gb (g2 ahq) (bw (M.d (mOp gIx (bh 0 (ret (.int 0))))) (dw 1 mNil)))) (bTup 2 (abo (dq 2) (abo (dq 3) bNil)))) (dSeq (dSub 0 (ret (.int 0)) (mVar 2)) (dRet (aku 3)))) dNx) (dSeq (dSet 4 (mOp (gInt fMod) (iu (M.d (mOp gMul (iu (M.d (mOp gAdd (iu (M.d (mOp (gInt fMod) (iu (M.d (mOp gIx (bh 0 (ret (.int 0))))) (ret (.int 2147483647))))) (ret (.int 40503))))) (ret (.int 69621))))) (ret (.int 2147483629))))) (dSeq (dSet 4 (mOp (gInt fMod) (iu (M.d (mOp gAdd (iu (M.d (mOp gMul (bh 4 (cu 4)))) (ret (.int 7817))))) (ret (.int 2147483587))))) (dSeq (dSub 0 (ret (.int 0)) (M.d (mOp (gInt fMod) (iu (M.d (mOp gAdd (iu (M.d (mOp gMul (bh 4 (ret (.int 48271))))) (ret (.int 11))))) (ret (.int 2147483629)))))) (dRet (mOp (gInt fMod) (iu (M.d (mOp (gInt fDiv) (iu (M.d (mOp gIx (bh 0 (ret (.int 0))))) (ret (.int 32))))) (cu 1))))))))
def f__law_draw:Fd:=fnD 5 2 aca
def ad4:Sd :=
 (dRet (M.v (mAnd (mIsi .int (cu 0)) (mUn gNot (mIsi .bool (cu 0))))))
def kh:Fd:=fnD 1 1 ad4
def uw:M Bool :=
 (g8 (gIn true) (bh 0 (cu 1)))
def ut:M D :=
 (mVar 0)
def jq:M Bool :=
 (g8 (gCmp fun i j=>decide (i < j)) (bh 3 (M.d (gb (g1 gL9) (dw 2 mNil)))))
def gk:Sd :=
 (dSeq (dIf (g8 (gCmp fun i j=>decide (j<=i)) (iu (M.d (mOp gIx (bh 2 (cu 3)))) (ret (.int 0)))) (dSet 2 (mOp gAdd (bh 2 (M.d (aap [none,some 2] (sy (M.d (gb (g1 gSet) (bw (M.d (mOp gIx (bh 0 (M.d (mOp gIx (bh 2 (cu 3))))))) mNil)))) (dq 0) uw ut))))) dNx) (dSet 3 (mOp gAdd (bh 3 (ret (.int 1))))))
def abt:Sd :=
 (dSeq (dSet 2 (mLst (bw (mVar 1) mNil))) (dSeq (dSet 3 (M.v (ret (.int 0)))) (dSeq (whileD jq gk fuel) (dRet (aku 2)))))
def jm:Fd:=fnD 4 2 abt
def aa0:M D :=
 (M.d (mFn f__law_draw [some 1,some 2] (dg 1 (dg 2 f9))))
def l1__law_shut:Sd :=
 (dSeq (dSet 6 (mOp gAdd (iu (ret (.int 1)) (M.d (mFn f__law_draw [some 0,some 2] (dg 0 (dg 2 f9))))))) (dSeq (dSet 7 (aap [none,some 0,some 3] (mGet wg (bw (mVar 6) mNil)) (dq 0) (ret true) aa0)) (dSeq (dIf (g8 (gEq false) (iu (M.d (mFn f__law_draw [some 0,none] (dg 0 (bf (ret (.int 2)) f9)))) (ret (.int 1)))) (dSub 7 (ret (.int 0)) (M.d (mOp (gInt fMod) (iu (M.d (mOp gAdd (bh 5 (ret (.int 1))))) (cu 3))))) dNx) (ac6 (M.v (mMut 4 wj (bw (M.d (gb (g1 gT9) (dw 7 mNil))) mNil)))))))
def afh:Sd :=
 (dSeq (dSet 3 (mOp gAdd (iu (ret (.int 1)) (M.d (mFn f__law_draw [some 0,some 1] (dg 0 (dg 1 f9))))))) (dSeq (dSet 4 (mLst mNil)) (dSeq (dFor (mGet wg (bw (mVar 3) mNil)) (dq 5) l1__law_shut) (dRet (gb (g1 gT9) (dw 4 mNil))))))
def f__law_shut:Fd:=fnD 8 3 afh
def wu:M D :=
 (M.d (mFn f__law_draw [some 1,none] (dg 1 (bf (M.d (gb (g1 gL9) (dw 0 mNil))) f9))))
def ac3:Sd :=
 (dRet (gb (g1 gT9) (bw (M.d (aap [none,some 0] (sy (mVar 1)) (dq 0) (ret true) wu)) mNil)))
def f__law_arrows:Fd:=fnD 2 2 ac3
def afi:Sd :=
 (dSeq (dSet 3 (mOp gIx (bh 1 (cu 2)))) (dSeq (dSet 4 (gb (g1 fun d=>(itemsD d).map fun l=>.fr l) (dw 1 mNil))) (dSeq (dSub 4 (mVar 2) (M.d (mOp (gInt fMod) (iu (M.d (mOp gAdd (bh 3 (ret (.int 1))))) (M.d (gb (g1 gL9) (bw (M.d (mOp gIx (bh 0 (cu 2)))) mNil))))))) (dRet (M.v (mTup (bw (M.d (gb (g1 gT9) (dw 4 mNil))) (bw (M.d (mOp gIx (iu (M.d (mOp gIx (bh 0 (cu 2)))) (cu 3)))) mNil))))))))
def qb:Fd:=fnD 5 3 afi
def aas:Sd :=
 (av4 3 4 1 2 5 (mLst mNil) (mTup (bw (mVar 1) (bw (mVar 2) mNil))) (M.d (gb (g1 gL9) (dw 4 mNil))) (M.v (mMut 4 wj (bw (mTup (bw (mVar 1) (bw (mVar 2) mNil))) mNil))) (M.d (mFn qb [some 0,some 1,none] (dg 0 (dg 1 (bf (mVar 2) f9))))) fuel (dRet (M.v (mTup (bw (mVar 5) (bw (M.d (mOp (gInt fSub) (iu (M.d (gb (g1 gL9) (dw 4 mNil))) (cu 5)))) (bw (mVar 4) mNil)))))))
def qw:Fd:=fnD 6 3 aas
def aa1:M D :=
 (M.d (mOp gIx (bh 0 (M.d (mOp (gInt fMod) (iu (M.d (mOp (gInt fSub) (bh 1 (ret (.int 1))))) (M.d (gb (g1 gL9) (dw 0 mNil)))))))))
def afj:Sd :=
 (dRet (aap [none,none] (mGet ap1 (bw (mVar 0) (bw (mVar 1) mNil))) (bTup 2 (abo (dq 0) (abo (dq 1) bNil))) (ret true) aa1))
def ur:Fd:=fnD 2 2 afj
def tu:M Bool :=
 (ai3 (g8 (gIn true) (iu (M.d (mOp gIx (bh 3 (M.d (mOp gIx (bh 6 (mUn gNeg (ret (.int 1))))))))) (cu 6))) (g8 (gCmp fun i j=>decide (j<=i)) (iu (M.d (mOp gIx (bh 3 (M.d (mOp gIx (bh 6 (mUn gNeg (ret (.int 1))))))))) (ret (.int 0)))))
def yo:Sd :=
 (ac6 (M.v (mMut 6 wj (bw (M.d (mOp gIx (bh 3 (M.d (mOp gIx (bh 6 (mUn gNeg (ret (.int 1))))))))) mNil))))
def l1__law_rings:Sd :=
 (dSeq (dSet 6 (mLst (bw (mVar 5) mNil))) (dSeq (whileD tu yo fuel) (dIf (ai3 (g8 (gEq false) (iu (M.d (mOp gIx (bh 3 (M.d (mOp gIx (bh 6 (mUn gNeg (ret (.int 1))))))))) (cu 5))) (g8 (gEq false) (iu (M.d (gb (g1 an5) (dw 6 mNil))) (cu 5)))) (ac6 (M.v (mMut 4 wj (bw (M.d (gb (g1 gT9) (dw 6 mNil))) mNil)))) dNx)))
def ad5:Sd :=
 (dSeq (dSet 3 (mFn ur [none,none] (bf (mVar 0) (bf (mVar 1) f9)))) (dSeq (dSet 4 (mLst mNil)) (dSeq (dFor (sy (mVar 2)) (dq 5) l1__law_rings) (dRet (gb (g1 abg) (dw 4 mNil))))))
def qx:Fd:=fnD 7 3 ad5
def ou:Sd :=
 (dIf (g8 (gIn true) (bh 2 (M.d (mFn jm [some 0,none] (dg 0 (bf (mVar 4) f9)))))) (dRet (M.v (mTup (bw (ret (.str "gone")) (bw (mVar 4) mNil))))) dNx)
def uv:M Bool :=
 (g8 (gIn true) (bh 1 (cu 0)))
def acf:M D :=
 (mVar 0)
def abf:Sd :=
 (dSeq (dSet 3 (gb (g1 vg) (bw (M.d (mFn jm [some 0,none] (dg 0 (bf (mVar 2) f9)))) mNil))) (dSeq (dFor (sy (mVar 3)) (dq 4) ou) (dSeq (dSet 5 (aap [none,some 2] (sy (M.d (mFn qx [none,none,none] (bf (mVar 0) (bf (mVar 1) (bf (mVar 3) f9)))))) (dq 0) uv acf)) (dSeq (dIf (g8 (gEq true) (bh 5 (M.d (mLst mNil)))) (dRet (M.v (mTup (bw (ret (.str "ring")) (bw (M.d (mOp gIx (bh 5 (ret (.int 0))))) mNil))))) dNx) (dRet (M.v (ret .non)))))))
def pq:Fd:=fnD 6 3 abf
def zj:M D :=
 (M.d (mFn kh [some 0] (dg 0 f9)))
def aau:Sd :=
 (dSeq (dIf (mOrB (aea (uz (mIsi .tuple (cu 0)))) (aea (uz (mIsi .str (M.d (mOp gIx (bh 0 (ret (.int 0))))))))) (dRet (M.v (ret (.bl false)))) dNx) (dSeq (dIf (g8 (gEq false) (iu (M.d (mOp gIx (bh 0 (ret (.int 0))))) (ret (.str "gone")))) (dRet (mFn kh [none] (bf (M.d (mOp gIx (bh 0 (ret (.int 1))))) f9))) dNx) (dRet (M.v (mAnd (mIsi .tuple (M.d (mOp gIx (bh 0 (ret (.int 1)))))) (M.d (gb (g1 gAll) (bw (M.d (aap [none] (sy (M.d (mOp gIx (bh 0 (ret (.int 1)))))) (dq 0) (ret true) zj)) mNil))))))))
def jt:Fd:=fnD 1 1 aau
def lq:Sd :=
 (dSeq (dSet 5 (mFn aav [none,none,none] (bf (mVar 0) (bf (mVar 1) (bf (mVar 2) f9))))) (dSeq (dIf (ai3 (uz (mIsN false (cu 3))) (uz (mIsN true (cu 5)))) (dRet (M.v (ret (.bl false)))) dNx) (dIf (ai3 (uz (mIsN true (cu 3))) (mOrB (g8 (gEq true) (bh 5 (cu 3))) (aea (uz (M.d (mFn jt [some 5] (dg 5 f9))))))) (dRet (M.v (ret (.bl false)))) dNx)))
def aat:Sd :=
 (dSeq (dSet 3 (mFn pq [none,none,none] (bf (mVar 0) (bf (mVar 1) (bf (mVar 2) f9))))) (dSeq (dIf (ai3 (g8 (gCmp fun i j=>decide (i < j)) (iu (M.d (gb (g1 gL9) (dw 0 mNil))) (ret (.int 6)))) (g8 (gEq true) (iu (mIsN false (cu 3)) (M.d (mOp (gEq false) (iu (M.d (mOp gIx (iu (M.d (mFn qw [some 0,none,none] (dg 0 (bf (mVar 1) (bf (mVar 2) f9))))) (ret (.int 0))))) (ret (.int 0)))))))) (dRet (M.v (ret (.bl false)))) dNx) (dSeq (dFor (mGet wg (bw (ret (.int 2)) mNil)) (dq 4) lq) (dRet (M.v (ret (.bl true)))))))
def ik:Fd:=fnD 6 3 aat
def amg:Sd :=
 (dIf (aea (uz (M.d (mFn ik [none,none,none] (bf (mVar 3) (bf (mVar 4) (bf (mVar 5) f9))))))) (dRet (M.v (ret (.bl false)))) dNx)
def l2_law:Sd :=
 (dSeq (dSet 2 (mFn f__law_pen [some 1] (dg 1 f9))) (dSeq (dSet 3 (mFn f__law_shut [some 2,none,none] (dg 2 (bf (M.d (mOp gIx (iu (M.d (mLst (bw (ret (.int 3)) (bw (ret (.int 5)) (bw (ret (.int 7)) mNil))))) (M.d (mFn f__law_draw [some 2,none] (dg 2 (bf (ret (.int 3)) f9))))))) (bf (ret (.int 3)) f9))))) (dSeq (dSet 4 (mFn f__law_arrows [some 2,none] (dg 2 (bf (mVar 3) f9)))) (dFor (mGet wg (bw (M.d (gb (g1 gL9) (dw 3 mNil))) mNil)) (dq 5) amg))))
def ayx:Sd :=
 (dSeq (dIf (mOrB (aea (uz (M.d (mFn ik [none,none,none] (bf (mTup (bw (mTup (bw (ret (.int 0)) mNil)) mNil)) (bf (mTup (bw (ret (.int 0)) mNil)) (bf (ret (.int 0)) f9))))))) (aea (uz (M.d (mFn ik [none,none,none] (bf (mTup (bw (mTup (bw (ret (.int 0)) (bw (ret (.int 1)) mNil))) (bw (mTup (bw (ret (.int 1)) mNil)) mNil))) (bf (mTup (bw (ret (.int 0)) (bw (ret (.int 0)) mNil))) (bf (ret (.int 0)) f9)))))))) (dRet (M.v (ret (.bl false)))) dNx) (dSeq (dFor (sy (M.d (mOp gAdd (iu (M.d (mLst (bw (M.d (mFn f__law_cell [some 0,none] (dg 0 (bf (ret (.int 0)) f9)))) mNil))) (M.d (apk 0 (anx (ret (.int 1))) (anx (ret (.int 4))))))))) (dq 1) l2_law) (dRet (M.v (ret (.bl true))))))
def ap8:Fd:=fnD 6 1 ayx
def aeh:D->Bool
 | .int _=>true
 | _=>false
def adb(a b:Int):D->Bool
 | .int i=>decide (a<=i)&&decide (i<=b)
 | _=>false
@[simp] theorem avs(d:D):yc [.val d]=some (.ok (.v (.bl (aeh d))),[.val d]):=by
 cases d <;> simp[yc,age,isTy,aeh]
@[simp] theorem amm(d:D)(a b:Int):gf [.val d,.val (.int a),.val (.int b)]=some (.ok (.v (.bl (adb a b d))),[.val d,.val (.int a),.val (.int b)]):=by
 cases d <;> simp[gf,xr,aeh,adb]
theorem aqp(ns:List Int)(k:Int)(h:0<=k):∃n,f__law_cell [.val (.kst (ns.map D.int)),.val (.int k)]=some (.ok (.v (.int n)),[.val (.kst (ns.map D.int)),.val (.int k)]):=by
 by_cases hk:k < (ns.length:Int)
 ·have e:atI (ns.map D.int) k=some (.int (ns[k.toNat]'(by omega))):=by
   have h2:atI (ns.map D.int) ((k.toNat:Nat):Int)=some (.int (ns[k.toNat]'(by omega))):=ah0 (by simp[List.getElem?_map,List.getElem?_eq_getElem (show k.toNat < ns.length by omega)])
   rw[show((k.toNat:Nat):Int)=k by omega] at h2
   exact h2
  exact⟨ns[k.toNat]'(by omega),by simp[f__law_cell,acb,hk,e]⟩
 ·exact⟨0,by simp[f__law_cell,acb,hk]⟩
def pen(P:Int×Int):List D:=[.int P.1,.int P.2]
theorem ar3(n:Int):∃P,f__law_pen [.val (.int n)]=some (.ok (.fr (pen P)),[.val (.int n)]):=by
 refine⟨(if 0 - n > n then 0 - n else n,if 10 ^ 18<=(if 0 - n > n then 0 - n else n) then 1 else 0),?_⟩
 simp[f__law_pen,agf,pen,fPow]
theorem yh(P:Int×Int)(m:Int)(h0:0 < m)(h1:m < 1000000000000000000000000000000000000000000000000000000000000):∃r P',f__law_draw [.own (some 0) (pen P),.val (.int m)]=some (.ok (.v (.int r)),[.own (some 0) (pen P'),.val (.int m)])/\0<=r/\r < m:=by
 obtain⟨a,b⟩:=P
 by_cases hb:b=1
 ·refine⟨a % m,(a / m,b),?_,Int.emod_nonneg _ (by omega),Int.emod_lt_of_pos _ h0⟩
  simp[f__law_draw,aca,pen,hb,h0,h1,atI,ixN]
 ·have z0:0<=(a % 2147483647+40503)*69621 % 2147483629:=Int.emod_nonneg _ (by decide)
  have z1:(a % 2147483647+40503)*69621 % 2147483629 < 2147483629:=Int.emod_lt_of_pos _ (by decide)
  generalize hz:(a % 2147483647+40503)*69621 % 2147483629=z at z0 z1;have hm:fMul z z=some (z*z):=by
   unfold fMul;rw[if_pos (.inl ⟨by omega,by omega⟩)]
  refine⟨((z*z+7817) % 2147483587*48271+11) % 2147483629 / 32 % m,(((z*z+7817) % 2147483587*48271+11) % 2147483629,b),?_,Int.emod_nonneg _ (by omega),Int.emod_lt_of_pos _ h0⟩
  have h69:∀x:Int,fMul x 69621=some (x*69621):=fun x=>by unfold fMul;rw[if_pos (.inr (by decide))]
  have h48:∀x:Int,fMul x 48271=some (x*48271):=fun x=>by unfold fMul;rw[if_pos (.inr (by decide))]
  simp[f__law_draw,aca,pen,hb,h0,h1,atI,ixN,h69,h48,hm,fMod,fDiv,hz]
structure HouseOk (m w:Int) (qv:LL9):Prop where
 one:1<=qv.length
 most:(qv.length:Int)<=m
 room:∀r∈qv,1<=r.length/\(r.length:Int)<=w/\∀x∈r,0<=x/\x < (qv.length:Int)
def hDs(qv:LL9):List D:=qv.map fun r=>D.tup (r.map D.int)
def hD(qv:LL9):D:=.tup (hDs qv)
theorem aot(P:Int×Int)(m w:Int)(w1:1<=w)(w2:w<=6){n:Int}(n1:1<=n)(n2:n<=10)(i:Nat)(hi:(i:Int) < n)(qv:LL9)(hl:qv.length<=10)(o1 o2:Sl):∃ns P' q1 q2,l1__law_shut [.own (some 0) (pen P),.val (.int m),.val (.int w),.val (.int n),.own none (hDs qv),.val (.int (i:Int)),o1,o2]=some (.nx,[.own (some 0) (pen P'),.val (.int m),.val (.int w),.val (.int n),.own none (hDs (qv++[ns])),.val (.int (i:Int)),q1,q2])
  /\ 1<=ns.length/\(ns.length:Int)<=w/\∀x∈ns,0<=x/\x < n:=by
 obtain⟨r5,P5,e5,r5a,r5b⟩:=yh P w (by omega) (by omega)
 have comp:=yj (b:=dq 0) (mc:=ret true) (me:=aa0) (fun j ys ρ=>∃ns P o,ρ=[o,.own (some 1) (pen P),.val (.int n)]/\ys=ns.map D.int/\ns.length=j/\∀x∈ns,0<=x/\x < n)
  (l:=j9 0 (1+r5).toNat) (ys:=[]) (ρ:=[.emp,.own (some 1) (pen P5),.val (.int n)]) 0 ⟨[],P5,.emp,rfl,rfl,rfl,by simp⟩ ?_
 ·obtain⟨ys,ρ',e6,ns,P6,o,rfl,rfl,hn,hx⟩:=comp;have hn:ns.length=(1+r5).toNat:=by simpa[j9] using hn
  have hb:(1+r5).natAbs < 4611686018427387904:=by omega
  have hc1:ns.length<=capS:=gq (by omega)
  have hc2:(hDs qv).length < capS:=by simp[hDs,capS];omega
  obtain⟨r7,P7,e7,r7a,r7b⟩:=yh P6 2 (by decide) (by decide)
  have hm:fMod ((i:Int)+1) n=some (((i:Int)+1) % n):=by
   unfold fMod;rw[if_pos (by omega)]
  cases ns with
  | nil=>simp at hn;omega
  | cons x r =>
   have hc1:r.length+1<=capS:=by simpa using hc1
   by_cases q:r7=1
   ·refine⟨((i:Int)+1) % n::r,P7,.val (.int (1+r5)),.own none ((((i:Int)+1) % n::r).map D.int),?_,by simp,by simp at hn ⊢;omega,fun y hy =>?_⟩
    ·have e8:ixN (r.length+1) 0=some 0:=by simp[ixN]
     simp[l1__law_shut,e5,hb,e6,hc1,e7,q,hm,hc2,e8];simp[hDs]
    ·rcases List.mem_cons.mp hy with rfl | hy
     ·exact⟨Int.emod_nonneg _ (by omega),Int.emod_lt_of_pos _ (by omega)⟩
     ·exact hx y (List.mem_cons_of_mem _ hy)
   ·refine⟨x::r,P7,.val (.int (1+r5)),.own none ((x::r).map D.int),?_,by simp,by simp at hn ⊢;omega,hx⟩
    simp[l1__law_shut,e5,hb,e6,hc1,e7,q,hc2];simp[hDs]
 ·rintro j d ys ρ hd ⟨ns,P6,o,rfl,rfl,hn,hx⟩
  obtain⟨r7,P7,e7,r7a,r7b⟩:=yh P6 n (by omega) (by omega)
  refine⟨_,_,true,rfl,rfl,.inr ⟨rfl,.int r7,_,by simp[aa0,e7];rfl,ns++[r7],P7,_,rfl,by simp,by simp[hn],fun x h =>?_⟩⟩
  rcases List.mem_append.mp h with h | h
  ·exact hx x h
  ·obtain rfl:x=r7:=by simpa using h
   omega
theorem aou(P:Int×Int)(m w:Int)(m1:1<=m)(m2:m<=10)(w1:1<=w)(w2:w<=6):∃qv P',f__law_shut [.own (some 0) (pen P),.val (.int m),.val (.int w)]=some (.ok (.v (hD qv)),[.own (some 0) (pen P'),.val (.int m),.val (.int w)])/\HouseOk m w qv:=by
 obtain⟨r1,P1,e1,r1a,r1b⟩:=yh P m (by omega) (by omega)
 have loop:=ahr (b:=dq 5) (g:=l1__law_shut) (fun i ρ=>∃qv P o o1 o2,ρ=[.own (some 0) (pen P),.val (.int m),.val (.int w),.val (.int (1+r1)),.own none (hDs qv),o,o1,o2]/\qv.length=i/\∀r∈qv,1<=r.length/\(r.length:Int)<=w/\∀x∈r,0<=x/\x < 1+r1)
  (l:=j9 0 (1+r1).toNat) (ρ:=[.own (some 0) (pen P1),.val (.int m),.val (.int w),.val (.int (1+r1)),.own none [],.emp,.emp,.emp]) 0 ⟨[],P1,.emp,.emp,.emp,rfl,rfl,by simp⟩ ?_
 ·obtain⟨ρ',e3,qv,P3,o,o1,o2,rfl,hl,hr⟩:=loop;have hl:qv.length=(1+r1).toNat:=by simpa[j9] using hl
  refine⟨qv,P3,?_,by omega,by omega,fun r h =>?_⟩
  ·have hb:(1+r1).natAbs < 4611686018427387904:=by omega
   simp[f__law_shut,afh,e1,hb,e3,hD]
  ·obtain⟨a,b,c⟩:=hr r h;exact⟨a,b,fun x hx=>by have:=c x hx;omega⟩
 ·rintro i d ρ hd ⟨qv,P4,o,o1,o2,rfl,hl,hr⟩
  have hi:i < (1+r1).toNat:=by
   have:=(List.getElem?_eq_some_iff.mp hd).1
   simpa[j9] using this
  have ed:d=.int (i:Int):=by
   unfold j9 at hd;rw[List.getElem?_map,List.getElem?_range hi] at hd;have:=Option.some.inj hd
   simpa using this.symm
  subst ed;obtain⟨ns,P5,q1,q2,e,z1,z2,z3⟩:=aot P4 m w w1 w2 (n:=1+r1) (by omega) (by omega) i (by omega) qv (by omega) o1 o2
  refine⟨_,_,rfl,.inl e,qv++[ns],P5,_,_,_,rfl,by simp[hl],fun r h =>?_⟩
  rcases List.mem_append.mp h with h | h
  ·exact hr r h
  ·obtain rfl:r=ns:=by simpa using h
   exact⟨z1,z2,z3⟩
structure Hs (qv:LL9):Prop where
 one:1<=qv.length
 most:qv.length<=10
 room:∀r∈qv,1<=r.length/\r.length<=6/\∀x∈r,-3<=x/\x < (qv.length:Int)
def dr(qv:LL9)(x:Int):List Int:=qv.getD x.toNat []
inductive Rch (qv:LL9) (a:Int):Int->Prop
 | base:Rch qv a a
 | step {x d:Int}:Rch qv a x->0<=x->d∈dr qv x->Rch qv a d
theorem alh{qv:LL9}{x:Int}(h0:0<=x)(h1:x < (qv.length:Int)):atI (hDs qv) x=some (.tup ((dr qv x).map D.int)):=by
 have hk:x.toNat < qv.length:=by omega
 have q:atI (hDs qv) ((x.toNat:Nat):Int)=some (.tup ((dr qv x).map D.int)):=ah0 (by simp[hDs,dr,List.getElem?_eq_getElem hk])
 rw[show((x.toNat:Nat):Int)=x by omega] at q
 exact q
theorem Hs.dr{qv:LL9}(h:Hs qv){x:Int}(h0:0<=x)(h1:x < (qv.length:Int)):1<=(dr qv x).length/\(My.dr qv x).length<=6/\∀y∈My.dr qv x,-3<=y/\y < (qv.length:Int):=by
 have hk:x.toNat < qv.length:=by omega
 have e:My.dr qv x=qv[x.toNat]:=by simp[My.dr,hk]
 rw[e];exact h.room _ (List.getElem_mem hk)
theorem Rch.range{qv:LL9}(h:Hs qv){a x:Int}(ha:0<=a/\a < (qv.length:Int))(r:Rch qv a x) : -3<=x/\x < (qv.length:Int):=by
 induction r with
 | base=>omega
 | step r h0 hd ih=>exact(h.dr h0 ih.2).2.2 _ hd
theorem ae0:∀(m:Nat) (l:List Int),l.Nodup->(∀x∈l,-3<=x/\x < (m:Int) - 3)->l.length<=m
 | 0,l,_,h=>by
  cases l with
  | nil=>simp
  | cons x r=>have:=h x (List.mem_cons_self ..);omega
 | m+1,l,hn,h=>by
  have h1:(l.erase ((m:Int) - 3)).length<=m:=ae0 m _ (hn.erase _) fun x hx=>by
   rw[hn.mem_erase_iff] at hx;have:=h x hx.2;have:=hx.1;omega
  have h2:l.length<=(l.erase ((m:Int) - 3)).length+1:=by
   rw[List.length_erase];split <;> omega
  omega
theorem ao0{qv:LL9}(h:Hs qv){a:Int}(ha:0<=a/\a < (qv.length:Int)){ns:List Int}(hn:ns.Nodup)(hr:∀x∈ns,Rch qv a x):ns.length<=13:=by
 have:=ae0 (qv.length+3) ns hn fun x hx=>by have:=Rch.range h ha (hr x hx);omega
 have:=h.most;omega
theorem ank{qv:LL9}{a:Int}{ns:List Int}(h0:a∈ns)(hc:∀x∈ns,0<=x->∀d∈dr qv x,d∈ns){x:Int}(r:Rch qv a x):x∈ns:=by
 induction r with
 | base=>exact h0
 | step r h0 hd ih=>exact hc _ ih h0 _ hd
theorem akh{qv:LL9}{a:Int}{ns:List Int}(h0:a∈ns)(hc:∀x∈ns,∀d∈dr qv x,0<=d->d∈ns){x:Int}(r:Rch qv a x)(hx:0<=x):x∈ns:=by
 induction r with
 | base=>exact h0
 | step r h0 hd ih=>exact hc _ (ih h0) _ hd hx
theorem aua{ns:List Int}{i:Nat}(h:i < ns.length):atI (ns.map D.int) (i:Int)=some (.int ns[i]):=ah0 (by simp[List.getElem?_eq_getElem h])
def azh(qv:LL9)(S:Sl):Prop:=S=.val (hD qv)∨S=.own (some 0) (hDs qv)
theorem aij{qv:LL9}(h:Hs qv){S:Sl}(hS:azh qv S){a:Int}{ns:List Int}{i:Nat}(hi:i < ns.length)(hz:ns.length<=13)(hx:ns[i] < (qv.length:Int)) :
  gk [S,.val (.int a),.own none (ns.map D.int),.val (.int (i:Nat))]=some (.nx,[S,.val (.int a),.own none ((if 0<=ns[i] then ns++(setI (dr qv ns[i])).filter (fun d => !decide (d∈ns)) else ns).map D.int),.val (.int ((i:Nat)+1))]):=by
 have ei:=aua hi
 by_cases h0:0<=ns[i]
 ·obtain⟨k1,k2,k3⟩:=h.dr h0 hx;have er:=alh h0 hx;have es:=ap3 (ns:=dr qv ns[i]) (by omega)
  have ef:compD (dq 0) uw ut ((setI (dr qv ns[i])).map D.int) [] [.emp,.own (some 1) (ns.map D.int)]=some (.ok (((setI (dr qv ns[i])).filter (fun d => !decide (d∈ns))).map D.int),ac0 .emp ((setI (dr qv ns[i])).map D.int)::[.own (some 1) (ns.map D.int)]):=by
   rw[kj (p:=fun d=>match d with | .int k => !decide (k∈ns) | _=>false) (f:=id)]
   ·simp[List.filter_map,Function.comp_def]
   ·intro d hd;obtain⟨k,_,rfl⟩:=List.mem_map.mp hd;simp[uw,adq]
   ·intro d hd _;simp[ut]
  have hlen:(setI (dr qv ns[i])).length<=6:=by
   unfold setI;rw[(sortI_perm _).length_eq];exact Nat.le_trans (ab7 _) k2
  have hc1:((setI (dr qv ns[i])).filter (fun d => !decide (d∈ns))).length<=6:=Nat.le_trans (List.length_filter_le _ _) hlen
  have hc2:ns.length+((setI (dr qv ns[i])).filter (fun d => !decide (d∈ns))).length<=capS:=gq (by omega)
  have hc3:((setI (dr qv ns[i])).filter (fun d => !decide (d∈ns))).length<=capS:=gq (by omega)
  rcases hS with rfl | rfl
  ·simp[gk,hD,ei,h0,er,es,ef,hc1,hc2,hc3]
  ·simp[gk,ei,h0,er,es,ef,hc1,hc2,hc3]
 ·simp[gk,ei,h0]
def Sh(qv:LL9):Prop:=∀r∈qv,∀x∈r,0<=x
theorem HouseOk.hs{m w:Int}{qv:LL9}(h:HouseOk m w qv)(hm:m<=10)(hw:w<=6):Hs qv :=
 ⟨h.one,by have:=h.most;omega,fun r hr=>by obtain⟨a,b,c⟩:=h.room r hr;exact⟨a,by omega,fun x hx=>by have:=c x hx;omega⟩⟩
theorem HouseOk.sh{m w:Int}{qv:LL9}(h:HouseOk m w qv):Sh qv:=fun r hr x hx=>((h.room r hr).2.2 x hx).1
theorem ad2{qv:LL9}(h:Hs qv){S:Sl}(hS:azh qv S){a:Int}(ha:0<=a/\a < (qv.length:Int)) :
  ∃ns:List Int,jm [S,.val (.int a)]=some (.ok (.fr (ns.map D.int)),[S,.val (.int a)])/\ns≠[]/\ns.length<=13/\ns.Nodup/\∀x,x∈ns↔Rch qv a x:=by
 have loop:=ue (c:=jq) (g:=gk)
  (fun k ρ=>∃(ns:List Int) (i:Nat),ρ=[S,.val (.int a),.own none (ns.map D.int),.val (.int (i:Nat))]/\k=20 - i/\i<=ns.length/\ns.Nodup/\a∈ns/\(∀x∈ns,Rch qv a x)/\∀j (hj:j < ns.length),j < i->0<=ns[j]->∀d∈dr qv ns[j],d∈ns)
  (fun ρ=>∃(ns:List Int) (o:Sl),ρ=[S,.val (.int a),.own none (ns.map D.int),o]/\ns≠[]/\ns.length<=13/\ns.Nodup/\∀x,x∈ns↔Rch qv a x) ?_ fuel 20 [S,.val (.int a),.own none ([a].map D.int),.val (.int ((0:Nat):Int))] (Nat.lt_trans (by decide) abh)
  ⟨[a],0,rfl,rfl,by simp,by simp,by simp,by simp;exact .base,fun j hj hlt=>absurd hlt (Nat.not_lt_zero _)⟩
 ·obtain⟨ρ',e,ns,o,rfl,hne,hz,hnd,hm⟩:=loop;have e:whileD jq gk fuel [S,.val (.int a),.own none [.int a],.val (.int 0)]=some (.nx,[S,.val (.int a),.own none (ns.map D.int),o]):=e;refine⟨ns,?_,hne,hz,hnd,hm⟩;rcases hS with rfl | rfl <;> simp[jm,abt,e]
 ·rintro k ρ ⟨ns,i,rfl,rfl,hi,hn,h0,hr,hc⟩
  have hz:=ao0 h ha hn hr
  by_cases hlt:i < ns.length
  ·refine .inr ⟨[S,.val (.int a),.own none (ns.map D.int),.val (.int (i:Nat))],_,20 - (i+1),?_,aij h hS hlt hz (Rch.range h ha (hr _ (List.getElem_mem hlt))).2,by omega,?_⟩
   ·have:(i:Int) < (ns.length:Int):=by omega
    rcases hS with rfl | rfl <;> simp[jq,this]
   ·by_cases hp:0<=ns[i]
    ·rw[if_pos hp];refine⟨_,i+1,rfl,rfl,by simp;omega,?_,List.mem_append_left _ h0,?_,?_⟩
     ·rw[List.nodup_append];refine⟨hn,List.Pairwise.sublist List.filter_sublist (anu _),fun x hx y hy e =>?_⟩
      have:=(List.mem_filter.mp hy).2;subst e;simp[hx] at this
     ·intro x hx;rcases List.mem_append.mp hx with hx | hx
      ·exact hr x hx
      ·exact .step (hr _ (List.getElem_mem hlt)) hp ((ama _ _).mp (List.mem_filter.mp hx).1)
     ·intro j hj hji hjp d hd;have hjl:j < ns.length:=by omega
      rw[List.getElem_append_left hjl] at hjp hd;rcases Nat.lt_or_ge j i with z | z
      ·exact List.mem_append_left _ (hc j hjl z hjp d hd)
      ·have:j=i:=by omega
       subst this
       by_cases hdn:d∈ns
       ·exact List.mem_append_left _ hdn
       ·exact List.mem_append_right _ (List.mem_filter.mpr ⟨(ama _ _).mpr hd,by simp[hdn]⟩)
    ·rw[if_neg hp];refine⟨_,i+1,rfl,rfl,hlt,hn,h0,hr,?_⟩;intro j hj hji hjp d hd;rcases Nat.lt_or_ge j i with z | z
     ·exact hc j hj z hjp d hd
     ·have:j=i:=by omega
      subst this;exact absurd hjp hp
  ·refine .inl ⟨[S,.val (.int a),.own none (ns.map D.int),.val (.int (i:Nat))],?_,ns,_,rfl,List.ne_nil_of_mem h0,hz,hn,fun x=>⟨hr x,ank h0 fun y hy hp d hd =>?_⟩⟩
   ·have:¬(i:Int) < (ns.length:Int):=by omega
    rcases hS with rfl | rfl <;> simp[jq,this]
   ·obtain⟨j,hj,rfl⟩:=List.mem_iff_getElem.mp hy;exact hc j hj (by omega) hp d hd
@[simp] theorem aty(d:D):kh [.val d]=some (.ok (.v (.bl (aeh d))),[.val d]):=by
 cases d <;> simp[kh,ad4,isTy,aeh]
open Classical in
noncomputable def caught(qv:LL9)(a:Int):Bool:=decide (∀x,Rch qv a x->0<=x)
theorem agp(qv:LL9)(a:Int):caught qv a=true↔∀x,Rch qv a x->0<=x:=by
 unfold caught;exact @decide_eq_true_iff _ (Classical.propDecidable _)
def upto(n:Nat):List Int:=(List.range n).map fun i=>((i:Nat):Int)
theorem aki(n:Nat):j9 0 n=(upto n).map D.int:=by
 unfold j9 upto;rw[List.map_map];apply List.map_congr_left;intro i _;simp
theorem ahh{n:Nat}{x:Int}(h:x∈upto n):0<=x/\x < (n:Int):=by
 obtain⟨i,hi,rfl⟩:=List.mem_map.mp h;have:=List.mem_range.mp hi;omega
noncomputable def aaa(qv:LL9):List Int:=(upto qv.length).filter (caught qv)
theorem aj7{qv:LL9}(h:Hs qv):(qv.length:Int).natAbs < 4611686018427387904:=by have:=h.most;omega
theorem ao2{qv:LL9}(h:Hs qv):wg [.int (qv.length:Int)]=some (j9 0 qv.length):=by
 rw[ak8,if_pos (aj7 h),Int.toNat_natCast]
theorem ayi{qv:LL9}(h:Hs qv):∃L:Int,((hDs qv).length:Int)=L/\wg [.int L]=some (j9 0 qv.length) :=
 ⟨_,rfl,by rw[show(hDs qv).length=qv.length by simp[hDs]];exact ao2 h⟩
theorem asn{src:List (Option Nat)}{mi:M (List D)}{b:D->Ro->Option Ro}{mc:M Bool}{me:M D}{ρ ρ1 ps:Ro}{l ys:List D}(e:mi ρ=some (.ok l,ρ1))(hj:okJs ρ1 src=true)(ec:compD b mc me l [] (lend ρ1 src (src.map fun _=>none))=some (.ok ys,ps))(hc:ys.length<=capS) :
  aap src mi b mc me ρ=some (.ok (.fr ys),putB ρ1 src ps):=by
 rw[aso,awd,e];dsimp only;rw[if_pos hj,ec];dsimp only;rw[if_pos hc]
theorem ab8(qv:LL9):(hDs qv).length=qv.length:=by simp[hDs]
theorem ahn{qv:LL9}{i:Nat}{d:D}(h:(hDs qv)[i]? = some d):∃r,qv[i]? = some r/\d=.tup (r.map D.int):=by
 unfold hDs at h;rw[List.getElem?_map] at h;obtain⟨r,e,rfl⟩:=Option.map_eq_some_iff.mp h;exact⟨r,e,rfl⟩
structure Arr (qv:LL9) (as:List Int):Prop where
 len:as.length=qv.length
 ok:∀(i:Nat) (a:Int) (r:List Int),as[i]? = some a->qv[i]? = some r->0<=a/\a < (r.length:Int)
def ar(as:List Int)(x:Int):Int:=as.getD x.toNat 0
theorem Arr.at{qv:LL9}{as:List Int}(h:Arr qv as){x:Int}(h0:0<=x)(h1:x < (qv.length:Int)):0<=ar as x/\ar as x < ((dr qv x).length:Int):=by
 have hk:x.toNat < qv.length:=by omega
 have hk2:x.toNat < as.length:=by rw[h.len];exact hk
 have:=h.ok x.toNat as[x.toNat] qv[x.toNat] (List.getElem?_eq_getElem hk2) (List.getElem?_eq_getElem hk)
 simpa[ar,dr,hk,hk2] using this
theorem ali(P:Int×Int){qv:LL9}(h:Hs qv):∃as P',f__law_arrows [.own (some 0) (pen P),.val (hD qv)]=some (.ok (.v (.tup (as.map D.int))),[.own (some 0) (pen P'),.val (hD qv)])/\Arr qv as:=by
 have comp:=yj (b:=dq 0) (mc:=ret true) (me:=wu) (fun j ys ρ=>∃ns P o,ρ=[o,.own (some 1) (pen P)]/\ys=ns.map D.int/\ns.length=j/\∀(i:Nat) (a:Int) (r:List Int),ns[i]? = some a->qv[i]? = some r->0<=a/\a < (r.length:Int))
  (l:=hDs qv) (ys:=[]) (ρ:=[.emp,.own (some 1) (pen P)]) 0 ⟨[],P,.emp,rfl,rfl,rfl,by simp⟩ ?_
 ·obtain⟨ys,ρ',e6,ns,P6,o,rfl,rfl,hn,hx⟩:=comp;rw[ab8,Nat.zero_add] at hn;have hc:ns.length<=capS:=gq (by have:=h.most;omega)
  exact⟨ns,P6,by simp[f__law_arrows,ac3,hD,e6,hc],hn,hx⟩
 ·rintro j d ys ρ hd ⟨ns,P6,o,rfl,rfl,hn,hx⟩
  obtain⟨r,hr,rfl⟩:=ahn hd;obtain⟨k1,k2,k3⟩:=h.room r (List.mem_of_getElem? hr);obtain⟨r7,P7,e7,r7a,r7b⟩:=yh P6 (r.length:Int) (by omega) (by omega)
  refine⟨_,_,true,rfl,rfl,.inr ⟨rfl,.int r7,[.val (.tup (r.map D.int)),.own (some 1) (pen P7)],by simp[wu,e7],ns++[r7],P7,_,rfl,by simp,by simp[hn],fun i a q ha hq =>?_⟩⟩
  rcases Nat.lt_or_ge i ns.length with z | z
  ·rw[List.getElem?_append_left z] at ha;exact hx i a q ha hq
  ·have hi:i=ns.length:=by
    have:=(List.getElem?_eq_some_iff.mp ha).1;simp at this;omega
   subst hi;simp at ha;subst ha;have:ns.length=j:=by omega
   rw[this,hr] at hq;cases hq;exact⟨r7a,r7b⟩
def gone(qv:LL9)(as:List Int)(k:Int):List Int:=as.set k.toNat ((ar as k+1) % ((dr qv k).length:Int))
def led(qv:LL9)(as:List Int)(k:Int):Int:=(dr qv k).getD (ar as k).toNat 0
section
variable{qv:LL9}(h:Hs qv){as:List Int}(ha:Arr qv as){k:Int}(h0:0<=k)(h1:k < (qv.length:Int))
include h ha h0 h1
theorem atf:atI (as.map D.int) k=some (.int (ar as k)):=zq h0 (by rw[ha.len];exact h1)
theorem awf:atI ((dr qv k).map D.int) (ar as k)=some (.int (led qv as k)):=zq (ha.at h0 h1).1 (ha.at h0 h1).2
theorem ap6(x:Int):fMod x ((dr qv k).length:Int)=some (x % ((dr qv k).length:Int)):=by
 have:=(h.dr h0 h1).1;unfold fMod;rw[if_pos (by omega)]
theorem avm:qb [.val (hD qv),.val (.tup (as.map D.int)),.val (.int k)]=some (.ok (.v (.tup [.tup ((gone qv as k).map D.int),.int (led qv as k)])),[.val (hD qv),.val (.tup (as.map D.int)),.val (.int k)]):=by
 have e1:=alh h0 h1;have e2:=atf h ha h0 h1;have e3:=awf h ha h0 h1;have e4:=ap6 h ha h0 h1 (ar as k+1);have e5:ixN as.length k=some k.toNat:=avr h0 (by rw[ha.len];exact h1)
 have e6:as.length<=capS:=gq (by have:=h.most;rw[ha.len];omega)
 simp[qb,afi,hD,e1,e2,e3,e4,e5,e6,gone]
end
section
variable{qv:LL9}(h:Hs qv){as:List Int}(ha:Arr qv as){k:Int}(h0:0<=k)(h1:k < (qv.length:Int))
include h ha h0 h1
theorem asy:Arr qv (gone qv as k):=by
 have hd:=(h.dr h0 h1).1;refine⟨by unfold gone;rw[List.length_set];exact ha.len,fun i a r g1 g2 =>?_⟩
 unfold gone at g1;rw[List.getElem?_set] at g1;split at g1
 ·rename_i hi;subst hi;split at g1
  ·cases g1;have:dr qv k=r:=by simp[dr,g2]
   rw[this] at hd ⊢
   exact⟨Int.emod_nonneg _ (by omega),Int.emod_lt_of_pos _ (by omega)⟩
  ·cases g1
 ·exact ha.ok i a r g1 g2
end
theorem ayk{qv:LL9}(h:Hs qv){as:List Int}(ha:Arr qv as){k:Int}(h0:0<=k)(h1:k < (qv.length:Int)) : -3<=led qv as k/\led qv as k < (qv.length:Int):=by
 obtain⟨a1,a2⟩:=ha.at h0 h1;have hk:(ar as k).toNat < (dr qv k).length:=by omega
 have:led qv as k∈dr qv k:=by
  unfold led;simp[hk]
 exact(h.dr h0 h1).2.2 _ this
def wd(qv:LL9)(k:Int):Int:=((dr qv k).length:Int)
def za(qv:LL9)(as:List Int)(k:Int):Int:=(dr qv k).getD ((ar as k - 1) % wd qv k).toNat 0
theorem awe{r:List Int}{a:Int}(h0:0<=a)(h1:a < (r.length:Int)):atI (r.map D.int) (a - 1)=some (.int (r.getD ((a - 1) % (r.length:Int)).toNat 0)):=by
 by_cases z:1<=a
 ·rw[Int.emod_eq_of_lt (by omega) (by omega)]
  exact zq (by omega) (by omega)
 ·have:a=0:=by omega
  subst this;have e:((0:Int) - 1) % (r.length:Int)=(r.length:Int) - 1:=by
   have:=Int.add_emod_right ((0:Int) - 1) (r.length:Int);rw[<-this,Int.emod_eq_of_lt (by omega) (by omega)]
   omega
  rw[e];have hn:((r.length:Int) - 1).toNat=r.length - 1:=by omega
  rw[hn];have hl:r.length - 1 < r.length:=by omega
  have h3:ixN (r.map D.int).length (0 - 1)=some (r.length - 1):=by
   unfold ixN;rw[List.length_map];have a1:¬(0<=(0:Int) - 1):=by omega
   have a2 : -(r.length:Int)<=(0:Int) - 1:=by omega
   simp[a2];omega
  unfold atI;rw[h3];simp[List.getElem?_eq_getElem hl]
def lasts(qv:LL9)(as:List Int):List Int:=(List.range qv.length).map fun(i:Nat)=>za qv as (i:Int)
theorem ie(qv:LL9)(as:List Int):(lasts qv as).length=qv.length:=by unfold lasts;rw[List.length_map,List.length_range]
theorem agb(qv:LL9)(as:List Int)(j:Nat):((List.range (j+1)).map fun(i:Nat)=>za qv as (i:Int))=((List.range j).map fun(i:Nat)=>za qv as (i:Int))++[za qv as (j:Int)]:=by
 rw[List.range_succ,List.map_append];rfl
section
variable{qv:LL9}(h:Hs qv){as:List Int}(ha:Arr qv as)
include h ha
theorem aja:um [.val (hD qv),.val (.tup (as.map D.int))]=some (.ok (.v (.tup ((lasts qv as).map D.int))),[.val (hD qv),.val (.tup (as.map D.int))]):=by
 have hl:=ha.len;have hm:=h.most;have hle:(as.map D.int).length<=(hDs qv).length:=by rw[ab8,List.length_map];omega
 have comp:=yj (b:=bTup 2 (abo (dq 0) (abo (dq 1) bNil))) (mc:=ret true) (me:=aax) (fun j ys ρ=>∃(o1 o2:Sl),ρ=[o1,o2]/\ys=((List.range j).map fun(i:Nat)=>za qv as (i:Int)).map D.int)
  (l:=aci (as.map D.int) (hDs qv)) (ys:=[]) (ρ:=[.emp,.emp]) 0 ⟨.emp,.emp,rfl,rfl⟩ ?_
 ·obtain⟨ys,ρ',e6,o1,o2,rfl,rfl⟩:=comp;rw[aef hle,List.length_map,Nat.zero_add,hl] at e6;have hc:((lasts qv as).map D.int).length<=capS:=by rw[List.length_map,ie];exact gq (by omega)
  have hle2:as.length<=(hDs qv).length:=by simpa using hle
  change compD _ _ _ _ _ _=some (.ok ((lasts qv as).map D.int),_) at e6
  generalize (lasts qv as).map D.int=ld at *;simp only[hD];simp[um,afd,hle2,e6,hc]
 ·rintro j d ys ρ hd ⟨o1,o2,rfl,rfl⟩
  obtain⟨d1,d2,g1,g2,rfl⟩:=ach hd;obtain⟨r,hr,rfl⟩:=ahn g2;rw[List.getElem?_map] at g1;obtain⟨a,ea,rfl⟩:=Option.map_eq_some_iff.mp g1;obtain⟨b0,b1⟩:=ha.ok j a r ea hr;have er:dr qv (j:Int)=r:=by unfold dr;rw[List.getD_eq_getElem?_getD,Int.toNat_natCast,hr];rfl
  have e3:ar as (j:Int)=a:=by unfold ar;rw[List.getD_eq_getElem?_getD,Int.toNat_natCast,ea];rfl
  have e4:=awe b0 b1;have e5:za qv as ((0+j:Nat):Int)=r.getD ((a - 1) % (r.length:Int)).toNat 0:=by rw[Nat.zero_add];unfold za wd;rw[er,e3]
  refine⟨[.val (.int a),.val (.tup (r.map D.int))],_,true,by simp,rfl,.inr ⟨rfl,.int (r.getD ((a - 1) % (r.length:Int)).toNat 0),[.val (.int a),.val (.tup (r.map D.int))],by simp[aax,e4],_,_,rfl,?_⟩⟩
  rw[agb,List.map_append,e5];rfl
end
def lp(L:List Int):LL9:=L.map fun y=>[y]
theorem af8(L:List Int):(lp L).length=L.length:=List.length_map ..
theorem ay2{L:List Int}{x:Int}(h0:0<=x)(h1:x < (L.length:Int)):dr (lp L) x=[L.getD x.toNat 0]:=by
 have hk:x.toNat < L.length:=by omega
 simp[dr,lp,hk]
structure Ways (L:List Int):Prop where
 one:1<=L.length
 most:L.length<=10
 ok:∀y∈L,-3<=y/\y < (L.length:Int)
theorem Ways.hs{L:List Int}(w:Ways L):Hs (lp L):=⟨by rw[af8];exact w.one,by rw[af8];exact w.most,fun r hr=>by
 obtain⟨y,hy,rfl⟩:=List.mem_map.mp hr;rw[af8];exact⟨by simp,by simp,fun x hx=>by rw[List.mem_singleton] at hx;rw[hx];exact w.ok _ hy⟩⟩
theorem xj{qv:LL9}(h:Hs qv){as:List Int}(ha:Arr qv as):Ways (lasts qv as):=⟨by rw[ie];exact h.one,by rw[ie];exact h.most,fun y hy=>by
 rw[ie];unfold lasts at hy;obtain⟨i,hi,rfl⟩:=List.mem_map.mp hy;have hi:=List.mem_range.mp hi;obtain⟨a1,a2,a3⟩:=h.dr (x:=(i:Int)) (by omega) (by omega)
 refine a3 _ ?_;unfold za;have w0:0 < wd qv (i:Int):=by unfold wd;omega
 have b0:=Int.emod_nonneg (ar as (i:Int) - 1) (show wd qv (i:Int)≠0 by omega)
 have b1:=Int.emod_lt_of_pos (ar as (i:Int) - 1) w0;have hk:((ar as (i:Int) - 1) % wd qv (i:Int)).toNat < (dr qv (i:Int)).length:=by unfold wd at *;omega
 rw[List.getD_eq_getElem?_getD,List.getElem?_eq_getElem hk];exact List.getElem_mem hk⟩
theorem af6:∀(m:Nat) (l:List Int),l.Nodup->(∀x∈l,0<=x/\x < (m:Int))->l.length<=m
 | 0,l,_,h=>by
  cases l with
  | nil=>simp
  | cons x r=>have:=h x (List.mem_cons_self ..);omega
 | m+1,l,hn,h=>by
  have h1:(l.erase (m:Int)).length<=m:=af6 m _ (hn.erase _) fun x hx=>by
   rw[hn.mem_erase_iff] at hx;have:=h x hx.2;have:=hx.1;omega
  have h2:l.length<=(l.erase (m:Int)).length+1:=by
   rw[List.length_erase];split <;> omega
  omega
theorem pig(f:Nat->Int)(n:Nat)(hf:∀i,i<=n->0<=f i/\f i < (n:Int)):∃i j,i < j/\j<=n/\f i=f j:=by
 apply Classical.byContradiction;intro H;have hn:((List.range (n+1)).map f).Nodup:=by
  rw[List.Nodup,List.pairwise_map];refine List.Pairwise.imp_of_mem (fun{a b} ha hb hlt e=>H ⟨a,b,hlt,?_,e⟩) List.pairwise_lt_range
  have:=List.mem_range.mp hb;omega
 have:=af6 n _ hn fun x hx=>by
  obtain⟨i,hi,rfl⟩:=List.mem_map.mp hx;have:=List.mem_range.mp hi;exact hf i (by omega)
 rw[List.length_map,List.length_range] at this;omega
theorem least{P:Nat->Prop}:∀n,P n->∃m,P m/\∀i < m,¬P i:=fun n=>by
 induction n using Nat.strongRecOn with
 | _ n ih =>
  intro hn
  by_cases q:∃i,i < n/\P i
  ·obtain⟨i,hi,hp⟩:=q;exact ih i hi hp
  ·exact⟨n,hn,fun i hi hp=>q ⟨i,hi,hp⟩⟩
def nxt(L:List Int)(p:Int):Int:=if 0<=p then L.getD p.toNat 0 else p
def itr(L:List Int)(p:Int):Nat->Int
 | 0=>p
 | t+1=>itr L (nxt L p) t
theorem cj(L:List Int):∀(s t:Nat) (p:Int),itr L p (s+t)=itr L (itr L p s) t
 | 0,t,p=>by rw[Nat.zero_add];rfl
 | s+1,t,p=>by
  rw[show s+1+t=(s+t)+1 by omega]
  exact cj L s t (nxt L p)
theorem ax5{L:List Int}(w:Ways L){p:Int}(hp:p < (L.length:Int)):nxt L p < (L.length:Int):=by
 unfold nxt;split
 ·rename_i h0;have hk:p.toNat < L.length:=by omega
  rw[List.getD_eq_getElem?_getD,List.getElem?_eq_getElem hk];exact(w.ok _ (List.getElem_mem hk)).2
 ·exact hp
theorem apq{L:List Int}(w:Ways L):∀(t:Nat) {p:Int},p < (L.length:Int)->itr L p t < (L.length:Int)
 | 0,_,h=>h
 | t+1,_,h=>apq w t (ax5 w h)
theorem aa5{qv:LL9}{bs:List Int}{p:Int}(hp:p.toNat < bs.length):ar (gone qv bs p) p=(ar bs p+1) % ((dr qv p).length:Int):=by
 unfold gone;generalize (ar bs p+1) % ((dr qv p).length:Int)=z;unfold ar;simp[hp]
theorem agt{qv:LL9}{bs:List Int}{p x:Int}(hx:0<=x)(hp:0<=p)(hne:x≠p):ar (gone qv bs p) x=ar bs x:=by
 have:p.toNat≠x.toNat:=by omega
 unfold gone;generalize (ar bs p+1) % ((dr qv p).length:Int)=z;unfold ar;simp[List.getD_eq_getElem?_getD,List.getElem?_set,this]
def run(qv:LL9)(as:List Int)(k:Int):Nat->List Int×Int
 | 0=>(as,k)
 | n+1=>(gone qv (run qv as k n).1 (run qv as k n).2,led qv (run qv as k n).1 (run qv as k n).2)
section
variable{qv:LL9}(h:Hs qv){as:List Int}(ha:Arr qv as){k:Int}(h0:0<=k)(h1:k < (qv.length:Int))
include h ha h0 h1
end
theorem al8{a w:Int}(h0:0<=a)(h1:a < w):((a+1) % w - 1) % w=a:=by
 rcases Int.lt_or_le (a+1) w with q | q
 ·rw[Int.emod_eq_of_lt (by omega) q,show a+1 - 1=a by omega,Int.emod_eq_of_lt h0 h1]
 ·have e0:a+1=w:=by omega
  have e:=Int.add_emod_right (-1) w;rw[e0,Int.emod_self,show(0:Int) - 1 = -1 by omega,<-e,Int.emod_eq_of_lt (by omega) (by omega)]
  omega
theorem ae4{qv:LL9}{as:List Int}{i:Nat}(hi:i < qv.length):(lasts qv as)[i]? = some (za qv as (i:Int)):=by
 unfold lasts;rw[List.getElem?_map,List.getElem?_range hi];rfl
section
variable{qv:LL9}(h:Hs qv){bs:List Int}(hb:Arr qv bs){p:Int}(p0:0<=p)(p1:p < (qv.length:Int))
include h hb p0 p1
theorem an0:za qv (gone qv bs p) p=led qv bs p:=by
 have a:=hb.at p0 p1;have hl:=hb.len;unfold za wd led;rw[aa5 (by omega),al8 a.1 a.2]
theorem abd:lasts qv (gone qv bs p)=(lasts qv bs).set p.toNat (led qv bs p):=by
 apply List.ext_getElem?;intro i
 by_cases hi:i < qv.length
 ·rw[ae4 hi,List.getElem?_set]
  by_cases q:p.toNat=i
  ·rw[if_pos q,if_pos (by rw[ie];omega)]
   have:((i:Nat):Int)=p:=by omega
   rw[this,an0 h hb p0 p1]
  ·rw[if_neg q,ae4 hi];unfold za;rw[agt (by omega) p0 (by omega)]
 ·rw[List.getElem?_eq_none (by rw[ie];omega),List.getElem?_eq_none (by rw[List.length_set,ie];omega)]
theorem ags:(ar (gone qv bs p) p - 1) % ((dr qv p).length:Int)=ar bs p:=by
 have a:=hb.at p0 p1;have hl:=hb.len;rw[aa5 (by omega)]
 exact al8 a.1 a.2
theorem aje:(gone qv bs p).set p.toNat (ar bs p)=bs:=by
 have hl:=hb.len;unfold gone;rw[List.set_set];apply List.ext_getElem?;intro i;rw[List.getElem?_set]
 by_cases q:p.toNat=i
 ·have hk:i < bs.length:=by omega
  rw[if_pos q,if_pos (by omega),List.getElem?_eq_getElem hk]
  unfold ar;rw[q,List.getD_eq_getElem?_getD,List.getElem?_eq_getElem hk];rfl
 ·rw[if_neg q]
end
def code:List Int->Int
 | []=>0
 | a::r=>a+6*code r
theorem aqm:∀{l:List Int},(∀a∈l,0<=a/\a < 6)->0<=code l/\code l < ((6 ^ l.length:Nat):Int)
 | [],_=>⟨Int.le_refl 0,by show(0:Int) < ((6 ^ 0:Nat):Int);decide⟩
 | a::r,h=>by
  obtain⟨h1,h2⟩:=aqm (l:=r) fun x hx=>h x (List.mem_cons_of_mem _ hx)
  have h3:=h a (List.mem_cons_self ..);have e:6 ^ (a::r).length=6*6 ^ r.length:=by rw[List.length_cons,Nat.pow_succ,Nat.mul_comm]
  rw[e];show 0<=a+6*code r/\a+6*code r < _;generalize 6 ^ r.length=q at *;constructor <;> omega
theorem code_inj:∀{l m:List Int},l.length=m.length->(∀a∈l,0<=a/\a < 6)->(∀a∈m,0<=a/\a < 6)->code l=code m->l=m
 | [],[],_,_,_,_=>rfl
 | [],_::_,h,_,_,_=>by simp at h
 | _::_,[],h,_,_,_=>by simp at h
 | a::r,b::t,h,h1,h2,e=>by
  have a1:=h1 a (List.mem_cons_self ..);have b1:=h2 b (List.mem_cons_self ..);have e:a+6*code r=b+6*code t:=e;have hab:a=b:=by omega
  have hr:code r=code t:=by omega
  rw[hab,code_inj (by simpa using h) (fun x hx=>h1 x (List.mem_cons_of_mem _ hx)) (fun x hx=>h2 x (List.mem_cons_of_mem _ hx)) hr]
theorem alj{qv:LL9}(h:Hs qv){bs:List Int}(hb:Arr qv bs):∀a∈bs,0<=a/\a < 6:=fun a ha=>by
 obtain⟨i,hi,rfl⟩:=List.mem_iff_getElem.mp ha;have hr:i < qv.length:=by rw[<-hb.len];exact hi
 have h1:=hb.ok i bs[i] qv[i] (List.getElem?_eq_getElem hi) (List.getElem?_eq_getElem hr);have h2:=(h.room qv[i] (List.getElem_mem hr)).2.1;omega
theorem acr(qv:LL9)(as:List Int)(k:Int){i j:Nat}(e:run qv as k i=run qv as k j):∀m,run qv as k (i+m)=run qv as k (j+m)
 | 0=>e
 | m+1=>by
  have ih:=acr qv as k e m;show(gone qv (run qv as k (i+m)).1 (run qv as k (i+m)).2,led qv (run qv as k (i+m)).1 (run qv as k (i+m)).2)=(gone qv (run qv as k (j+m)).1 (run qv as k (j+m)).2,led qv (run qv as k (j+m)).1 (run qv as k (j+m)).2);rw[ih]
theorem af3{qv:LL9}(h:Hs qv)(f:Nat->List Int×Int)(hf:∀i,i<=10*6 ^ qv.length->Arr qv (f i).1/\0<=(f i).2/\(f i).2 < (qv.length:Int)):∃i j,i < j/\j<=10*6 ^ qv.length/\f i=f j:=by
 have hm:=h.most;have cd:∀i,i<=10*6 ^ qv.length->0<=code (f i).1/\code (f i).1 < ((6 ^ qv.length:Nat):Int):=fun i hi=>by
  have a:=(hf i hi).1;have:=aqm (alj h a);rw[a.len] at this;exact this
 obtain⟨i,j,hij,hj,e⟩:=pig (fun i=>10*code (f i).1+(f i).2) (10*6 ^ qv.length) fun i hi=>by
  have a:=hf i hi;have b:=cd i hi;generalize 6 ^ qv.length=q6 at *;constructor <;> omega
 have ai:=hf i (by omega)
 have aj:=hf j hj;have e:10*code (f i).1+(f i).2=10*code (f j).1+(f j).2:=e;have e1:(f i).2=(f j).2:=by omega
 have e2:(f i).1=(f j).1:=code_inj (by rw[ai.1.len,aj.1.len]) (alj h ai.1) (alj h aj.1) (by omega)
 exact⟨i,j,hij,hj,Prod.ext e2 e1⟩
theorem Sh.dr{qv:LL9}(s:Sh qv){x:Int}{d:Int}(hd:d∈dr qv x):0<=d:=by
 unfold My.dr at hd;rw[List.getD_eq_getElem?_getD] at hd;cases e:qv[x.toNat]? with
 | none=>rw[e] at hd;cases hd
 | some r =>
  rw[e] at hd;exact s r (List.mem_of_getElem? e) d hd
theorem aks{L:List Int}{p d:Int}(p0:0<=p)(p1:p < (L.length:Int))(x:Int):nxt (L.set p.toNat d) x=if x=p then d else nxt L x:=by
 unfold nxt
 by_cases hx:x=p
 ·subst hx;have hk:x.toNat < L.length:=by omega
  rw[if_pos p0,if_pos rfl,List.getD_eq_getElem?_getD,List.getElem?_set];simp[hk]
 ·rw[if_neg hx]
  by_cases h0:0<=x
  ·have:p.toNat≠x.toNat:=by omega
   rw[if_pos h0,if_pos h0,List.getD_eq_getElem?_getD,List.getElem?_set,if_neg this,<-List.getD_eq_getElem?_getD]
  ·rw[if_neg h0,if_neg h0]
theorem ahl(L:List Int)(x:Int)(m:Nat):itr L x (m+1)=nxt L (itr L x m):=cj L m 1 x
theorem ahk{L:List Int}{p d:Int}(p0:0<=p)(p1:p < (L.length:Int)):∀(m:Nat) {x:Int},(∀i,i < m->itr L x i≠p)->itr (L.set p.toNat d) x m=itr L x m
 | 0,_,_=>rfl
 | m+1,x,h=>by
  have h0:x≠p:=h 0 (by omega)
  show itr (L.set p.toNat d) (nxt (L.set p.toNat d) x) m=itr L (nxt L x) m;rw[aks p0 p1,if_neg h0];exact ahk p0 p1 m fun i hi=>h (i+1) (by omega)
theorem ai6{L:List Int}{p d x:Int}(p0:0<=p)(p1:p < (L.length:Int))(h:∃m,itr L x m=p):∃m,itr (L.set p.toNat d) x m=d:=by
 obtain⟨m0,e0⟩:=h;obtain⟨m,e,hmin⟩:=least (P:=fun m=>itr L x m=p) m0 e0
 refine⟨m+1,?_⟩;rw[ahl,ahk p0 p1 m hmin,e,aks p0 p1,if_pos rfl]
theorem amf{L:List Int}{p d:Int}(p0:0<=p)(p1:p < (L.length:Int))(h:∃m,itr L d m=p):∃m,itr (L.set p.toNat d) d m=p/\(∀i,i < m->itr (L.set p.toNat d) d i≠p)/\nxt (L.set p.toNat d) p=d:=by
 obtain⟨m0,e0⟩:=h;obtain⟨m,e,hmin⟩:=least (P:=fun m=>itr L d m=p) m0 e0
 refine⟨m,?_,fun i hi =>?_,?_⟩
 ·rw[ahk p0 p1 m hmin];exact e
 ·rw[ahk p0 p1 i fun j hj=>hmin j (by omega)]
  exact hmin i hi
 ·rw[aks p0 p1,if_pos rfl]
theorem alu{L:List Int}{d k1 k2:Int}{m1 m2:Nat}(e1:itr L d m1=k1)(n1:nxt L k1=d)(e2:itr L d m2=k2)(h2:∀i,i < m2->itr L d i≠k2):¬m1 < m2:=fun q=>by
 have z:itr L d (m1+1)=d:=by rw[ahl,e1,n1]
 have:itr L d (m2 - (m1+1))=k2:=by
  have y:=cj L (m1+1) (m2 - (m1+1)) d;rw[show m1+1+(m2 - (m1+1))=m2 by omega,z,e2] at y
  exact y.symm
 exact h2 _ (by omega) this
theorem aeu{qv:LL9}{a b c:Int}(h1:Rch qv a b)(h2:Rch qv b c):Rch qv a c:=by
 induction h2 with
 | base=>exact h1
 | step r h0 hd ih=>exact .step ih h0 hd
theorem ae3{qv:LL9}{as:List Int}(ha:Arr qv as){k:Int}(h0:0<=k)(h1:k < (qv.length:Int)):led qv as k∈dr qv k:=by
 have a:=ha.at h0 h1;unfold led;have hk:(ar as k).toNat < (dr qv k).length:=by omega
 rw[List.getD_eq_getElem?_getD,List.getElem?_eq_getElem hk];exact List.getElem_mem hk
structure InG (qv:LL9) (as:List Int) (k:Int):Prop where
 back:∀x,Rch qv k x->Rch qv x k
 lead:∀x,Rch qv k x->∃m,itr (lasts qv as) x m=k
section
variable{qv:LL9}(h:Hs qv)(sh:Sh qv)
include h sh
theorem ayj{as:List Int}(ha:Arr qv as){k:Int}(h0:0<=k)(h1:k < (qv.length:Int)):0<=led qv as k/\led qv as k < (qv.length:Int) :=
 ⟨sh.dr (ae3 ha h0 h1),(ayk h ha h0 h1).2⟩
theorem InG.step{as:List Int}(ha:Arr qv as){k:Int}(h0:0<=k)(h1:k < (qv.length:Int))(g:InG qv as k):InG qv (gone qv as k) (led qv as k):=by
 have rk:Rch qv k (led qv as k):=.step .base h0 (ae3 ha h0 h1);refine⟨fun x hx=>aeu (g.back x (aeu rk hx)) rk,fun x hx =>?_⟩
 rw[abd h ha h0 h1];exact ai6 h0 (by rw[ie];exact h1) (g.lead x (aeu rk hx))
theorem arl{as1 as2:List Int}(ha1:Arr qv as1)(ha2:Arr qv as2){k1 k2:Int}(h01:0<=k1)(h11:k1 < (qv.length:Int))(h02:0<=k2)(h12:k2 < (qv.length:Int))(g1:InG qv as1 k1)(g2:InG qv as2 k2)
  (e1:gone qv as1 k1=gone qv as2 k2) (e2:led qv as1 k1=led qv as2 k2):as1=as2/\k1=k2:=by
 have r1:Rch qv k1 (led qv as1 k1):=.step .base h01 (ae3 ha1 h01 h11);have r2:Rch qv k2 (led qv as2 k2):=.step .base h02 (ae3 ha2 h02 h12);obtain⟨m1,a1,b1,c1⟩:=amf h01 (by rw[ie];exact h11) (g1.lead _ r1)
 obtain⟨m2,a2,b2,c2⟩:=amf h02 (by rw[ie];exact h12) (g2.lead _ r2)
 rw[<-abd h ha1 h01 h11] at a1 b1 c1;rw[<-abd h ha2 h02 h12,<-e1,<-e2] at a2 b2 c2;have q1:=alu a1 c1 a2 b2;have q2:=alu a2 c2 a1 b1;have:m1=m2:=by omega
 subst this;have ek:k1=k2:=a1.symm.trans a2;subst ek;refine⟨?_,rfl⟩;have u1:=ags h ha1 h01 h11;have u2:=ags h ha2 h02 h12;rw[e1] at u1;rw[<-aje h ha1 h01 h11,<-aje h ha2 h02 h12,e1,<-u1,<-u2]
variable{as:List Int}(ha:Arr qv as){k:Int}(h0:0<=k)(h1:k < (qv.length:Int))
include ha h0 h1
theorem srun:∀t:Nat,Arr qv (run qv as k t).1/\0<=(run qv as k t).2/\(run qv as k t).2 < (qv.length:Int)
 | 0=>⟨ha,h0,h1⟩
 | t+1=>by
  obtain⟨a1,a2,a3⟩:=srun t;exact⟨asy h a1 a2 a3,ayj h sh a1 a2 a3⟩
theorem auq(g:InG qv as k):∀t:Nat,InG qv (run qv as k t).1 (run qv as k t).2
 | 0=>g
 | t+1=>by
  obtain⟨a1,a2,a3⟩:=srun h sh ha h0 h1 t;exact InG.step h sh a1 a2 a3 (auq g t)
theorem alq(g:InG qv as k):∀i j:Nat,i < j->run qv as k i=run qv as k j->run qv as k (j - i)=(as,k)
 | 0,j,_,e=>by rw[Nat.sub_zero,<-e];rfl
 | i+1,0,q,_=>by omega
 | i+1,j+1,q,e=>by
  obtain⟨a1,a2,a3⟩:=srun h sh ha h0 h1 i;obtain⟨b1,b2,b3⟩:=srun h sh ha h0 h1 j;have ee:(gone qv (run qv as k i).1 (run qv as k i).2,led qv (run qv as k i).1 (run qv as k i).2)=(gone qv (run qv as k j).1 (run qv as k j).2,led qv (run qv as k j).1 (run qv as k j).2):=e;obtain⟨f1,f2⟩:=Prod.mk.inj ee;obtain⟨z1,z2⟩:=arl h sh a1 b1 a2 a3 b2 b3 (auq h sh ha h0 h1 g i) (auq h sh ha h0 h1 g j) f1 f2;have:=alq g i j (by omega) (Prod.ext z1 z2)
  rw[show j+1 - (i+1)=j - i by omega]
  exact this
theorem ani(g:InG qv as k):∃T,1<=T/\run qv as k T=(as,k):=by
 obtain⟨i,j,hij,_,e⟩:=af3 h (run qv as k) fun i _=>srun h sh ha h0 h1 i
 exact⟨j - i,by omega,alq h sh ha h0 h1 g i j hij e⟩
theorem aoy(i:Nat):∀m:Nat,Rch qv (run qv as k i).2 (run qv as k (i+m)).2
 | 0=>.base
 | m+1=>by
  obtain⟨a1,a2,a3⟩:=srun h sh ha h0 h1 (i+m);exact .step (aoy i m) a2 (ae3 a1 a2 a3)
theorem aq8{x:Int}(hx:0<=x)(t:Nat):ar (run qv as k (t+1)).1 x=if x=(run qv as k t).2 then (ar (run qv as k t).1 x+1) % ((dr qv x).length:Int) else ar (run qv as k t).1 x:=by
 obtain⟨a1,a2,a3⟩:=srun h sh ha h0 h1 t;show ar (gone qv (run qv as k t).1 (run qv as k t).2) x=_
 by_cases e:x=(run qv as k t).2
 ·rw[if_pos e,e];exact aa5 (by have:=a1.len;omega)
 ·rw[if_neg e];exact agt hx a2 e
theorem aq9{x:Int}(hx:0<=x)(i:Nat):∀d:Nat,(∀j,i<=j->j < i+d->(run qv as k j).2≠x)->ar (run qv as k (i+d)).1 x=ar (run qv as k i).1 x
 | 0,_=>rfl
 | d+1,q=>by
  have e:=aq8 h sh ha h0 h1 hx (i+d);rw[if_neg (fun z=>q (i+d) (by omega) (by omega) z.symm)] at e
  rw[show i+(d+1)=i+d+1 by omega,e]
  exact aq9 hx i d fun j j1 j2=>q j j1 (by omega)
variable{T:Nat}(hT:1<=T)(eT:run qv as k T=(as,k))
include hT eT
theorem per(i:Nat):run qv as k (i+T)=run qv as k i:=by
 have:=acr qv as k (i:=T) (j:=0) eT i;rw[Nat.zero_add,Nat.add_comm] at this;exact this
theorem akk:∀n:Nat,run qv as k (n*T)=(as,k)
 | 0=>by rw[Nat.zero_mul];rfl
 | n+1=>by rw[Nat.succ_mul,per h sh ha h0 h1 hT eT];exact akk n
theorem turns{x:Int}(hx:0<=x){i:Nat}(hi:(run qv as k i).2=x):∀n:Nat,∃i',(run qv as k i').2=x/\ar (run qv as k i').1 x=(ar (run qv as k i).1 x+n) % ((dr qv x).length:Int)
 | 0=>by
  obtain⟨a1,a2,a3⟩:=srun h sh ha h0 h1 i;rw[hi] at a2 a3;have b:=a1.at a2 a3;exact⟨i,hi,by rw[show((0:Nat):Int)=0 from rfl,Int.add_zero,Int.emod_eq_of_lt b.1 b.2]⟩
 | n+1=>by
  obtain⟨i',e1,e2⟩:=turns hx hi n;obtain⟨d,⟨d1,d2⟩,dm⟩:=least (P:=fun d=>1<=d/\(run qv as k (i'+d)).2=x) T ⟨hT,by rw[per h sh ha h0 h1 hT eT];exact e1⟩
  refine⟨i'+d,d2,?_⟩;have s1:=aq8 h sh ha h0 h1 hx i';rw[if_pos e1.symm,e2] at s1;have s2:=aq9 h sh ha h0 h1 hx (i'+1) (d - 1) fun j j1 j2 z=>dm (j - i') (by omega) ⟨by omega,by rw[show i'+(j - i')=j by omega];exact z⟩
  rw[show i'+1+(d - 1)=i'+d by omega,s1] at s2
  rw[s2,show((n+1:Nat):Int)=(n:Int)+1 by omega,Int.emod_add_emod]
  congr 1
  omega
theorem am5{x:Int}(r:Rch qv k x):∃i,(run qv as k i).2=x:=by
 induction r with
 | base=>exact⟨0,rfl⟩
 | @step x d r q hd ih =>
  obtain⟨i,hi⟩:=ih;obtain⟨a1,a2,a3⟩:=srun h sh ha h0 h1 i;rw[hi] at a2 a3;have b:=a1.at a2 a3;obtain⟨j,hj,ej⟩:=List.mem_iff_getElem.mp hd;obtain⟨i',e1,e2⟩:=turns h sh ha h0 h1 hT eT q hi (j+(dr qv x).length - (ar (run qv as k i).1 x).toNat);have e3:ar (run qv as k i').1 x=(j:Int):=by
   rw[e2,show ar (run qv as k i).1 x+((j+(dr qv x).length - (ar (run qv as k i).1 x).toNat:Nat):Int)=(j:Int)+((dr qv x).length:Int) by omega,Int.add_emod_right]
   exact Int.emod_eq_of_lt (by omega) (by omega)
  refine⟨i'+1,?_⟩;show led qv (run qv as k i').1 (run qv as k i').2=d;rw[e1];unfold led;rw[e3,Int.toNat_natCast,List.getD_eq_getElem?_getD,List.getElem?_eq_getElem (by omega)]
  exact ej
theorem aod:InG qv as k:=by
 have led:∀t j:Nat,j<=t->∃m,itr (lasts qv (run qv as k t).1) (run qv as k j).2 m=(run qv as k t).2:=by
  intro t
  induction t with
  | zero=>intro j hj;exact⟨0,by rw[show j=0 by omega];rfl⟩
  | succ t ih =>
   intro j hj;obtain⟨a1,a2,a3⟩:=srun h sh ha h0 h1 t
   by_cases e:j=t+1
   ·exact⟨0,by rw[e];rfl⟩
   ·have z:=ai6 (d:=(run qv as k (t+1)).2) a2 (by rw[ie];exact a3) (ih j (by omega))
    have l:=abd h a1 a2 a3;show ∃m,itr (lasts qv (gone qv (run qv as k t).1 (run qv as k t).2)) (run qv as k j).2 m=_
    rw[l];exact z
 refine⟨fun x hx =>?_,fun x hx =>?_⟩
 ·obtain⟨i,rfl⟩:=am5 h sh ha h0 h1 hT eT hx;have:=aoy h sh ha h0 h1 i (i*T+T - i);have e:i+(i*T+T - i)=(i+1)*T:=by
   have:i<=i*T:=Nat.le_mul_of_pos_right i (by omega)
   rw[Nat.succ_mul];omega
  rw[e,akk h sh ha h0 h1 hT eT] at this;exact this
 ·obtain⟨i,rfl⟩:=am5 h sh ha h0 h1 hT eT hx;have:=led ((i+1)*T) i (by
   have:i<=i*T:=Nat.le_mul_of_pos_right i (by omega)
   rw[Nat.succ_mul];omega)
  rw[akk h sh ha h0 h1 hT eT] at this;exact this
end
@[simp] theorem an4(qv:LL9)(d:D):jk [.val (hD qv),.val d]=some (.ok (.v (.bl (adb 0 ((qv.length:Int) - 1) d))),[.val (hD qv),.val d]):=by
 simp[jk,zy,hD,hDs]
theorem afv{qv:LL9}{a:Int}(h0:0<=a)(h1:a < (qv.length:Int)):dh [.val (hD qv),.val (.int a)]=some (.ok (.v .non),[.val (hD qv),.val (.int a)]):=by
 have h1:a<=(qv.length:Int) - 1:=by omega
 simp[dh,su,adb,h0,h1]
theorem ajc{qv:LL9}(h:Hs qv){as:List Int}(ha:Arr qv as):uo [.val (hD qv),.val (.tup (as.map D.int))]=some (.ok (.v (.bl true)),[.val (hD qv),.val (.tup (as.map D.int))]):=by
 have hl:=ha.len;have hle:(as.map D.int).length<=(hDs qv).length:=by rw[ab8,List.length_map];omega
 have comp:=yj (b:=bTup 2 (abo (dq 0) (abo (dq 1) bNil))) (mc:=ret true) (me:=aay) (fun j ys ρ=>∃o1 o2,ρ=[o1,o2]/\ys=(List.replicate j true).map D.bl)
  (l:=aci (as.map D.int) (hDs qv)) (ys:=[]) (ρ:=[.emp,.emp]) 0 ⟨.emp,.emp,rfl,rfl⟩ ?_
 ·obtain⟨ys,ρ',e6,o1,o2,rfl,rfl⟩:=comp;rw[aef hle,List.length_map,Nat.zero_add] at e6;have hc:as.length<=capS:=gq (by have:=h.most;omega)
  have e1:jf [.val (.tup (as.map D.int)),.val (.int (qv.length:Int)),.val (.int (qv.length:Int))]=some (.ok (.v (.bl true)),[.val (.tup (as.map D.int)),.val (.int (qv.length:Int)),.val (.int (qv.length:Int))]):=by
   have:(as.length:Int)=qv.length:=by omega
   simp[jf,xu,isTy,this]
  have hle2:as.length<=(hDs qv).length:=by simpa using hle
  have hl3:=ab8 qv;have hl4:qv.length<=capS:=hl▸hc;have hbl:vm (List.replicate qv.length (D.bl true))=some (List.replicate qv.length true):=by
   have:=ady (List.replicate qv.length true);rwa[List.map_replicate] at this
  simp only[hD];simp[uo,afe,hl3,e1,e6,hl,hl4,hbl]
 ·rintro j d ys ρ hd ⟨o1,o2,rfl,rfl⟩
  obtain⟨d1,d2,g1,g2,rfl⟩:=ach hd;obtain⟨r,hr,rfl⟩:=ahn g2;rw[List.getElem?_map] at g1;obtain⟨a,ga,rfl⟩:=Option.map_eq_some_iff.mp g1;obtain⟨b0,b1⟩:=ha.ok j a r ga hr;have b2:a<=(r.length:Int) - 1:=by omega
  refine⟨[.val (.int a),.val (.tup (r.map D.int))],_,true,by simp,rfl,.inr ⟨rfl,.bl true,[.val (.int a),.val (.tup (r.map D.int))],by simp[aay,adb,b0,b2],_,_,rfl,?_⟩⟩
  rw[List.replicate_succ',List.map_append];rfl
theorem aes{qv:LL9}(h:Hs qv){as:List Int}(ha:Arr qv as){k:Int}(h0:0<=k)(h1:k < (qv.length:Int)):je [.val (hD qv),.val (.tup (as.map D.int)),.val (.int k)]=some (.ok (.v .non),[.val (hD qv),.val (.tup (as.map D.int)),.val (.int k)]):=by
 have r1:ig [.val (hD qv),.val (.tup (as.map D.int))]=some (.ok (.v .non),[.val (hD qv),.val (.tup (as.map D.int))]):=by
  simp[ig,vf,ajc h ha]
 have r2:=afv h0 h1;simp[je,xq,r1,r2]
def auo(qv:LL9):Bool:=qv.all fun r=>decide (0<=minI r)
theorem azd{C:M Rv}{s:Sl}{f:List Int->Bool}{qv:LL9}(e:C [s]=some (.ok (.fr (qv.map fun r=>D.bl (f r))),[s])):fnD 1 1 (dRet (gb (g1 gAll) (bw (M.d C) mNil))) [s]=some (.ok (.v (.bl (qv.all f))),[s]):=by
 simp[e,Function.comp_def]
theorem an3{qv:LL9}(h:Hs qv):aaw [.val (hD qv)]=some (.ok (.v (.bl (auo qv))),[.val (hD qv)]):=by
 have ef:compD (dq 0) (ret true) abj (hDs qv) [] [.emp]=some (.ok (qv.map fun r=>.bl (decide (0<=minI r))),ac0 .emp (hDs qv)::[]):=by
  rw[afm (f:=fun d=>match d with | .tup l=>.bl (decide (0<=minI ((jo l).getD []))) | _=>.non)]
  ·simp[hDs,Function.comp_def]
  ·intro d hd;obtain⟨r,hr,rfl⟩:=List.mem_map.mp hd;have hne:r≠[]:=fun z=>by have:=(h.room r hr).1;rw[z] at this;simp at this
   simp[abj,asz hne]
 have hc:(qv.map fun r=>D.bl (decide (0<=minI r))).length<=capS:=by rw[List.length_map];exact gq (Nat.le_trans h.most (by decide))
 have e1:=asn (src:=[none]) (mi:=sy (mVar 0)) (ρ:=[.val (hD qv)]) (ρ1:=[.val (hD qv)]) (b:=dq 0) (mc:=ret true) (me:=abj) (l:=hDs qv) rfl rfl ef hc;unfold aaw ajh;exact azd e1
theorem avj:∀{r:List Int},r≠[]->minI r∈r
 | [],h=>absurd rfl h
 | x::r,_=>by
  have:∀(r:List Int) (x:Int),r.foldl (fun m y=>if decide (y < m)=true then y else m) x∈x::r:=by
   intro r
   induction r with
   | nil=>intro x;simp
   | cons z t ih =>
    intro x;rw[List.foldl_cons];have:=ih (if decide (z < x)=true then z else x)
    rcases List.mem_cons.mp this with e | e
    ·rw[e];split <;> simp
    ·exact List.mem_cons_of_mem _ (List.mem_cons_of_mem _ e)
  exact this r x
theorem arq{qv:LL9}(h:Hs qv)(s:Sh qv):auo qv=true:=by
 unfold auo;rw[List.all_eq_true];intro r hr;have hne:r≠[]:=fun z=>by have:=(h.room r hr).1;rw[z] at this;simp at this
 exact decide_eq_true (s r hr _ (avj hne))
theorem afu{qv:LL9}(h:Hs qv)(s:Sh qv):jd [.val (hD qv)]=some (.ok (.v .non),[.val (hD qv)]):=by
 have e:=an3 h;rw[arq h s] at e;simp[jd,xn,e]
def addD(ms:List Int)(d:Int):List Int:=if 0<=d/\d∉ms then ms++[d] else ms
theorem ath(ms:List Int)(d x:Int):x∈addD ms d↔x∈ms∨(x=d/\0<=d):=by
 unfold addD;split
 ·rename_i h;simp only[List.mem_append,List.mem_singleton];constructor
  ·rintro(q | q)
   ·exact .inl q
   ·exact .inr ⟨q,h.1⟩
  ·rintro(q | ⟨q,_⟩)
   ·exact .inl q
   ·exact .inr q
 ·rename_i h;constructor
  ·exact .inl
  ·rintro(q | ⟨rfl,q⟩)
   ·exact q
   ·exact Classical.byContradiction fun z=>h ⟨q,z⟩
theorem aoc{ms:List Int}(h:ms.Nodup)(d:Int):(addD ms d).Nodup:=by
 unfold addD;split
 ·rename_i q;rw[List.nodup_append];refine⟨h,by simp,fun x hx y hy e =>?_⟩
  rw[List.mem_singleton] at hy;subst hy;subst e;exact q.2 hx
 ·exact h
theorem atg(ms:List Int)(d:Int):∃t,addD ms d=ms++t:=by
 unfold addD;split
 ·exact⟨_,rfl⟩
 ·exact⟨[],by simp⟩
theorem ati(ms:List Int)(d:Int):(addD ms d).length<=ms.length+1:=by
 unfold addD;split <;> simp
theorem ac5:∀(ds ms:List Int) (x:Int),x∈ds.foldl addD ms↔x∈ms∨(x∈ds/\0<=x)
 | [],ms,x=>by simp
 | d::r,ms,x=>by
  rw[List.foldl_cons,ac5 r,ath];simp only[List.mem_cons];constructor
  ·rintro((q | ⟨rfl,q⟩) | ⟨q,w⟩)
   ·exact .inl q
   ·exact .inr ⟨.inl rfl,q⟩
   ·exact .inr ⟨.inr q,w⟩
  ·rintro(q | ⟨rfl | q,w⟩)
   ·exact .inl (.inl q)
   ·exact .inl (.inr ⟨rfl,w⟩)
   ·exact .inr ⟨q,w⟩
theorem agh:∀(ds:List Int) {ms:List Int},ms.Nodup->(ds.foldl addD ms).Nodup
 | [],_,h=>h
 | d::r,_,h=>agh r (aoc h d)
theorem ahs:∀(ds ms:List Int),∃t,ds.foldl addD ms=ms++t
 | [],ms=>⟨[],by simp⟩
 | d::r,ms=>by
  obtain⟨t,e⟩:=atg ms d;obtain⟨u,e2⟩:=ahs r (addD ms d);exact⟨t++u,by rw[List.foldl_cons,e2,e,List.append_assoc]⟩
theorem agn(a b c e:Sl):∀(ds ms:List Int) (o:Sl),ms.length+ds.length<=100->∃o',forD (dq 5) ug (ds.map D.int) [a,b,.own none (ms.map D.int),c,e,o]=some (.nx,[a,b,.own none ((ds.foldl addD ms).map D.int),c,e,o'])
 | [],ms,o,_=>⟨o,rfl⟩
 | d::r,ms,o,hl=>by
  rw[List.length_cons] at hl;have hal:=ati ms d;obtain⟨o',q⟩:=agn a b c e r (addD ms d) (.val (.int d)) (by omega)
  refine⟨o',?_⟩;have hc:ms.length < capS:=by rw[av9];omega
  have es:ug [a,b,.own none (ms.map D.int),c,e,.val (.int d)]=some (.nx,[a,b,.own none ((addD ms d).map D.int),c,e,.val (.int d)]):=by
   have ei:=adq true d ms
   by_cases h0:0<=d
   ·by_cases h1:d∈ms
    ·have:addD ms d=ms:=if_neg fun z=>z.2 h1
     rw[this];simp[ug,h0,ei,h1]
    ·have:addD ms d=ms++[d]:=if_pos ⟨h0,h1⟩;rw[this,List.map_append];simp[ug,h0,ei,h1,hc]
   ·have:addD ms d=ms:=if_neg fun z=>h0 z.1
    rw[this];simp[ug,h0]
  rw[List.map_cons,j6,List.foldl_cons];simp only[abl,List.set_cons_succ,List.set_cons_zero];rw[es];exact q
theorem aro{l:List Int}(h:l.Nodup):(sortI l).Pairwise (· < ·):=by
 have h1:=aad l;have h2:(sortI l).Nodup:=(sortI_perm l).nodup_iff.mpr h;have:=h1.and h2;exact this.imp fun⟨a,b⟩=>by omega
structure Come (qv:LL9) (a:Int) (cs:List Int):Prop where
 lt:cs.Pairwise (· < ·)
 mem:∀x,x∈cs↔Rch qv a x/\0<=x
 len:cs.length<=10
theorem ad8{qv:LL9}(h:Hs qv){a:Int}(ha:0<=a/\a < (qv.length:Int)) :
  ∃cs:List Int,qu [.val (hD qv),.val (.int a)]=some (.ok (.v (.tup (cs.map D.int))),[.val (hD qv),.val (.int a)])/\Come qv a cs:=by
 have hm:=h.most;have loop:=ue (c:=wz) (g:=aa6)
  (fun k ρ=>∃(ms:List Int) (i:Nat) (o4 o5:Sl),ρ=[.val (hD qv),.val (.int a),.own none (ms.map D.int),.val (.int (i:Nat)),o4,o5]/\k=20 - i/\i<=ms.length/\ms.Nodup/\a∈ms/\(∀x∈ms,Rch qv a x/\0<=x)/\∀j (hj:j < ms.length),j < i->∀d∈dr qv ms[j],0<=d->d∈ms)
  (fun ρ=>∃(ms:List Int) (o3 o4 o5:Sl),ρ=[.val (hD qv),.val (.int a),.own none (ms.map D.int),o3,o4,o5]/\ms.Nodup/\∀x,x∈ms↔Rch qv a x/\0<=x) ?_ fuel 20 [.val (hD qv),.val (.int a),.own none ([a].map D.int),.val (.int ((0:Nat):Int)),.emp,.emp] (Nat.lt_trans (by decide) abh)
  ⟨[a],0,.emp,.emp,rfl,rfl,by simp,by simp,by simp,by simp;exact⟨.base,ha.1⟩,fun j hj hlt=>absurd hlt (Nat.not_lt_zero _)⟩
 ·obtain⟨ρ',e,ms,o3,o4,o5,rfl,hn,hm'⟩:=loop;have e:whileD wz aa6 fuel [.val (hD qv),.val (.int a),.own none [.int a],.val (.int 0),.emp,.emp]=some (.nx,[.val (hD qv),.val (.int a),.own none (ms.map D.int),o3,o4,o5]):=e;have hlen:ms.length<=10:=by
   have:=ae0 (qv.length+3) ([-3,-2,-1]++ms) (by
    rw[List.nodup_append];refine⟨by decide,hn,fun x hx y hy e =>?_⟩
    subst e;have:=((hm' x).mp hy).2;simp at hx;omega) (fun x hx=>by
    rcases List.mem_append.mp hx with hx | hx
    ·simp at hx;omega
    ·have:=(hm' x).mp hx;have:=Rch.range h ha this.1;omega)
   simp at this;omega
  have es:=ad6 (ns:=ms) (by omega)
  have hp:=sortI_perm ms;refine⟨sortI ms,?_,aro hn,fun x=>by rw[hp.mem_iff];exact hm' x,by rw[hp.length_eq];exact hlen⟩
  have er:dh [.val (hD qv),.val (.int a)]=some (.ok (.v .non),[.val (hD qv),.val (.int a)]):=by
   have h1:a<=(qv.length:Int) - 1:=by omega
   simp[dh,su,adb,ha.1,h1]
  simp only[hD] at e er ⊢
  simp[qu,aji,er,e,es]
 ·rintro k ρ ⟨ms,i,o4,o5,rfl,rfl,hi,hn,h0,hr,hc⟩
  have hz:=ao0 h ha hn fun x hx=>(hr x hx).1
  by_cases hlt:i < ms.length
  ·obtain⟨q1,q2⟩:=hr _ (List.getElem_mem hlt);have q3:=(Rch.range h ha q1).2;obtain⟨d1,d2,d3⟩:=h.dr q2 q3;have er:=alh q2 q3;have ei:=aua hlt;obtain⟨o5',el⟩:=agn (.val (hD qv)) (.val (.int a)) (.val (.int (i:Nat))) (.val (.tup ((dr qv ms[i]).map D.int))) (dr qv ms[i]) ms o5 (by omega)
   refine .inr ⟨[.val (hD qv),.val (.int a),.own none (ms.map D.int),.val (.int (i:Nat)),o4,o5],[.val (hD qv),.val (.int a),.own none (((dr qv ms[i]).foldl addD ms).map D.int),.val (.int ((i+1:Nat):Int)),.val (.tup ((dr qv ms[i]).map D.int)),o5'],20 - (i+1),?_,?_,by omega,(dr qv ms[i]).foldl addD ms,i+1,_,_,rfl,rfl,?_,agh _ hn,(ac5 _ _ _).mpr (.inl h0),fun x hx =>?_,fun j hj hji d hd hd0 =>?_⟩
   ·have:(i:Int) < (ms.length:Int):=by omega
    simp[wz,this]
   ·have hcast:((i+1:Nat):Int)=(i:Int)+1:=by omega
    rw[hcast];simp only[hD] at el ⊢
    generalize (dr qv ms[i]).map D.int=dd at er el;simp[aa6,ei,er,el]
   ·obtain⟨t,et⟩:=ahs (dr qv ms[i]) ms;rw[et,List.length_append];omega
   ·rcases(ac5 _ _ _).mp hx with hx | ⟨hx,hx0⟩
    ·exact hr x hx
    ·exact⟨.step q1 q2 hx,hx0⟩
   ·obtain⟨t,et⟩:=ahs (dr qv ms[i]) ms;have hjl:j < ms.length:=by omega
    have ej:((dr qv ms[i]).foldl addD ms)[j]=ms[j]:=by
     simp only[et];exact List.getElem_append_left hjl
    rw[ej] at hd;rcases Nat.lt_or_ge j i with z | z
    ·exact(ac5 _ _ _).mpr (.inl (hc j hjl z d hd hd0))
    ·have:j=i:=by omega
     subst this;exact(ac5 _ _ _).mpr (.inr ⟨hd,hd0⟩)
  ·refine .inl ⟨[.val (hD qv),.val (.int a),.own none (ms.map D.int),.val (.int (i:Nat)),o4,o5],?_,ms,_,_,_,rfl,hn,fun x=>⟨fun hx=>hr x hx,fun⟨hx,hx0⟩ =>?_⟩⟩
   ·have:¬(i:Int) < (ms.length:Int):=by omega
    simp[wz,this]
   ·exact akh h0 (fun y hy d hd hd0=>by
     obtain⟨j,hj,rfl⟩:=List.mem_iff_getElem.mp hy;exact hc j hj (by omega) d hd hd0) hx hx0
open Classical in
noncomputable def gj(qv:LL9)(a:Int):List Int:=if q:Hs qv/\0<=a/\a < (qv.length:Int) then (ad8 q.1 q.2).choose else []
section
variable{qv:LL9}(h:Hs qv){a:Int}(ha:0<=a/\a < (qv.length:Int))
include h ha
theorem qe:qu [.val (hD qv),.val (.int a)]=some (.ok (.v (.tup ((gj qv a).map D.int))),[.val (hD qv),.val (.int a)])/\Come qv a (gj qv a):=by
 unfold gj;rw[dif_pos ⟨h,ha⟩];exact(ad8 h ha).choose_spec
theorem qd:∀x∈gj qv a,0<=x/\x < (qv.length:Int):=fun x hx=>by
 obtain⟨q,q0⟩:=((qe h ha).2.mem x).mp hx;exact⟨q0,(Rch.range h ha q).2⟩
end
theorem ak9(neg:Bool)(a:Int)(ns:List Int):gIn neg (.int a) (.tup (ns.map D.int))=some (.v (.bl (if neg then !decide (a∈ns) else decide (a∈ns)))):=adq neg a ns
noncomputable def afb(qv:LL9)(k:Int):List Int:=(gj qv k).filter fun x => !decide (k∈gj qv x)
section
variable{qv:LL9}(h:Hs qv){k:Int}(hk:0<=k/\k < (qv.length:Int))
include h hk
theorem ajf:uq [.val (hD qv),.val (.int k)]=some (.ok (.fr ((afb qv k).map D.int)),[.val (hD qv),.val (.int k)]):=by
 obtain⟨e1,C⟩:=qe h hk;have ef:compD (dq 0) aa3 aaz ((gj qv k).map D.int) [] [.emp,.val (.int k),.val (hD qv)]=some (.ok ((afb qv k).map D.int),ac0 .emp ((gj qv k).map D.int)::[.val (.int k),.val (hD qv)]):=by
  rw[kj (p:=fun d=>match d with | .int x => !decide (k∈gj qv x) | _=>false) (f:=fun d=>d)]
  ·rw[List.nil_append,List.map_id',List.filter_map];rfl
  ·intro d hd;obtain⟨x,hx,rfl⟩:=List.mem_map.mp hd;have hr:=qd h hk x hx;obtain⟨e2,_⟩:=qe h hr;have e3:=ak9 true k (gj qv x);generalize (gj qv x).map D.int=cc at *;generalize hD qv=hh at *;simp[aa3,e2,e3]
  ·intro d hd _;obtain⟨x,hx,rfl⟩:=List.mem_map.mp hd;simp[aaz]
 have hc:((afb qv k).map D.int).length<=capS:=by
  rw[List.length_map];exact gq (Nat.le_trans (List.length_filter_le _ _) (Nat.le_trans C.len (by decide)))
 generalize (afb qv k).map D.int=gg at *;generalize (gj qv k).map D.int=cc at *;generalize hD qv=hh at *;simp[uq,afg,e1,ef,hc]
theorem qj(sh:Sh qv){x:Int}:x∈gj qv k↔Rch qv k x:=by
 obtain⟨_,C⟩:=qe h hk;rw[C.mem];refine⟨fun q=>q.1,fun q=>⟨q,?_⟩⟩
 cases q with
 | base=>exact hk.1
 | step r h0 hd=>exact sh.dr hd
theorem ams(sh:Sh qv):afb qv k=[]↔∀x,Rch qv k x->Rch qv x k:=by
 unfold afb;rw[List.filter_eq_nil_iff];constructor
 ·intro q x hx;have hm:=(qj h hk sh).mpr hx;have:=q x hm;have hr:=qd h hk x hm;exact(qj h hr sh).mp (by simpa using this)
 ·intro q x hx;have hr:=qd h hk x hx;have:=(qj h hr sh).mpr (q x ((qj h hk sh).mp hx));simp[this]
end
theorem ak2(l:List Int)(x:Int):atI ((l++[x]).map D.int) (-1)=some (.int x):=by
 unfold atI;have:ixN ((l++[x]).map D.int).length (-1)=some l.length:=by
  unfold ixN;rw[List.length_map,List.length_append];simp;omega
 rw[this];simp
theorem ap5(r:List Int):∀x:Int,r.foldl (fun m y=>if decide (y < m)=true then y else m) x∈x::r:=by
 induction r with
 | nil=>intro x;simp
 | cons z t ih =>
  intro x;rw[List.foldl_cons];have:=ih (if decide (z < x)=true then z else x)
  rcases List.mem_cons.mp this with e | e
  ·rw[e];split <;> simp
  ·exact List.mem_cons_of_mem _ (List.mem_cons_of_mem _ e)
theorem aed{ns:List Int}(h:ns≠[]):minI ns∈ns:=by
 cases ns with
 | nil=>exact absurd rfl h
 | cons x r=>exact ap5 r x
def ixm(ns:List Int):Nat:=((ns.map D.int).findIdx? fun y=>eqD y (.int (minI ns))).getD 0
def rotm(ns:List Int):List Int:=ns.drop (ixm ns)++ns.take (ixm ns)
theorem apx{ns:List Int}(h:ns≠[]):ajj (.lst (ns.map D.int)) [.int (minI ns)]=some (.int (ixm ns:Int))/\ixm ns<=ns.length:=by
 have hm:=aed h;have h1:=al5 30 ns;cases e:(ns.map D.int).findIdx? fun y=>eqD y (.int (minI ns)) with
 | none =>
  rw[List.findIdx?_eq_none_iff] at e;have:=e (.int (minI ns)) (List.mem_map.mpr ⟨_,hm,rfl⟩);rw[adw] at this;simp at this
 | some i =>
  have hi:=(List.findIdx?_eq_some_iff_getElem.mp e).1;rw[List.length_map] at hi;have ei:ixm ns=i:=by unfold ixm;rw[e];rfl
  rw[ei];refine⟨?_,by omega⟩
  have ho:okD 30 (D.int (minI ns))=true:=rfl;simp only[ajj,ho,h1,Bool.and_self,if_true,e];rfl
theorem ae5{L:List Int}(w:Ways L){s:Int}(hs:s∈aaa (lp L))(m:Nat):0<=itr L s m/\itr L s m < (L.length:Int):=by
 have tI:aaa (lp L)=(upto L.length).filter (caught (lp L)):=by unfold aaa;rw[af8]
 rw[tI] at hs;obtain⟨a1,a2⟩:=List.mem_filter.mp hs;have a0:=ahh a1;have hc:=(agp _ _).mp a2;have hr:∀m:Nat,Rch (lp L) s (itr L s m):=fun m=>by
  induction m with
  | zero=>exact .base
  | succ m ih =>
   have h0:=hc _ ih;have hl:=apq w m a0.2;rw[cj];refine .step ih h0 ?_;rw[ay2 h0 hl,List.mem_singleton];show nxt L (itr L s m)=_;exact if_pos h0
 exact⟨hc _ (hr m),apq w m a0.2⟩
theorem ami(L:List Int)(s:Int)(m:Nat)(h:0<=itr L s m):itr L s (m+1)=L.getD (itr L s m).toNat 0:=by
 rw[cj];show nxt L (itr L s m)=_;exact if_pos h
theorem aw2{L:List Int}(w:Ways L){s:Int}(hs:s∈aaa (lp L)):∃T,T < L.length/\itr L (itr L s L.length) (T+1)=itr L s L.length/\∀i,1<=i->i<=T->itr L (itr L s L.length) i≠itr L s L.length:=by
 obtain⟨i,j,hij,hj,e⟩:=pig (fun m=>itr L s m) L.length fun m _=>ae5 w hs m
 have e:itr L s i=itr L s j:=e;have ed:itr L (itr L s L.length) (j - i)=itr L s L.length:=by
  rw[<-cj,show L.length+(j - i)=j+(L.length - i) by omega,cj,<-e,<-cj,show i+(L.length - i)=L.length by omega]
 obtain⟨T,hT,hl⟩:=least (P:=fun T=>itr L (itr L s L.length) (T+1)=itr L s L.length) (j - i - 1) (by
  show itr L (itr L s L.length) (j - i - 1+1)=_;rw[show j - i - 1+1=j - i by omega]
  exact ed)
 refine⟨T,?_,hT,fun m m1 m2 z =>?_⟩
 ·rcases Nat.lt_or_ge (j - i - 1) T with q | q
  ·have:=hl (j - i - 1) q;rw[show j - i - 1+1=j - i by omega] at this
   exact absurd ed this
  ·omega
 ·have:=hl (m - 1) (by omega)
  rw[show m - 1+1=m by omega] at this
  exact this z
def rg(L:List Int)(p:Int)(t:Nat):List Int:=(List.range (t+1)).map fun i=>itr L p i
theorem akg(L:List Int)(p:Int)(t:Nat):rg L p (t+1)=rg L p t++[itr L p (t+1)]:=by
 unfold rg;rw[List.range_succ,List.map_append];rfl
theorem abq(L:List Int)(p:Int)(t:Nat):(rg L p t).length=t+1:=by unfold rg;simp
theorem ag4(L:List Int)(p:Int):∀t:Nat,∃l,rg L p t=l++[itr L p t]
 | 0=>⟨[],rfl⟩
 | t+1=>⟨rg L p t,akg L p t⟩
section
variable{L:List Int}(w:Ways L)
include w
variable{s:Int}(hs:s∈aaa (lp L)){T:Nat}(hT:T < L.length)(eT:itr L (itr L s L.length) (T+1)=itr L s L.length)(hl:∀i,1<=i->i<=T->itr L (itr L s L.length) i≠itr L s L.length)
include hs
theorem at9(m:Nat):atI (L.map D.int) (itr L s m)=some (.int (itr L s (m+1))):=by
 have h:=ae5 w hs m;rw[ami L s m h.1];exact zq h.1 h.2
include hT eT hl
theorem aii:ph [.val (.tup (L.map D.int)),.val (.int s)]=some (.ok (.v (.tup ((rotm (rg L (itr L s L.length) T)).map D.int))),[.val (.tup (L.map D.int)),.val (.int s)]):=by
 have hm:=w.most;have loop:=ahr (b:=dq 3) (g:=aaq) (fun i ρ=>∃o3:Sl,ρ=[.val (.tup (L.map D.int)),.val (.int s),.val (.int (itr L s i)),o3,.emp,.emp])
  (l:=j9 0 L.length) (ρ:=[.val (.tup (L.map D.int)),.val (.int s),.val (.int s),.emp,.emp,.emp]) 0 ⟨.emp,rfl⟩ ?_
 ·have rl:(j9 0 L.length).length=L.length:=by simp[j9]
  rw[rl,Nat.zero_add] at loop;obtain⟨ρ',e,o3,rfl⟩:=loop;generalize hp:itr L s L.length=p at *;have at2:∀m,atI (L.map D.int) (itr L p m)=some (.int (itr L p (m+1))):=fun m=>by
   have:=at9 w hs (L.length+m);rw[cj,hp,show L.length+m+1=L.length+(m+1) by omega,cj,hp] at this
   exact this
  have loop2:=ue (c:=u6) (g:=aac)
   (fun n ρ=>∃t:Nat,t<=T/\n=T - t/\ρ=[.val (.tup (L.map D.int)),.val (.int s),.val (.int p),o3,.own none ((rg L p t).map D.int),.emp])
   (fun ρ=>ρ=[.val (.tup (L.map D.int)),.val (.int s),.val (.int p),o3,.own none ((rg L p T).map D.int),.emp])
   ?_ fuel T [.val (.tup (L.map D.int)),.val (.int s),.val (.int p),o3,.own none [.int p],.emp] (Nat.lt_trans (show T < 100000 by omega) abh) ⟨0,by omega,rfl,rfl⟩
  ·obtain⟨ρ',e2,rfl⟩:=loop2;have hne:rg L p T≠[]:=fun z=>by have:=abq L p T;rw[z] at this;simp at this
   have e3:=amt hne;obtain⟨e4,hle⟩:=apx hne;have hrl:=abq L p T;have c1:=av7 (ns:=(rg L p T).map D.int) (k:=(ixm (rg L p T):Int)) (by omega) (by rw[List.length_map];omega)
   have c2:=a2g (ns:=(rg L p T).map D.int) (k:=(ixm (rg L p T):Int)) (by omega) (by rw[List.length_map];omega)
   rw[Int.toNat_natCast] at c1 c2;have e5:(rotm (rg L p T)).map D.int=((rg L p T).map D.int).drop (ixm (rg L p T))++((rg L p T).map D.int).take (ixm (rg L p T)):=by
    unfold rotm;rw[List.map_append,List.map_drop,List.map_take]
   have hc:(((rg L p T).map D.int).drop (ixm (rg L p T))).length+(((rg L p T).map D.int).take (ixm (rg L p T))).length<=capS:=by
    rw[List.length_drop,List.length_take,List.length_map];exact gq (by omega)
   have hl2:(L.map D.int).length=L.length:=List.length_map ..
   have hb:L.length < 4611686018427387904:=by omega
   rw[e5];generalize ((rg L p T).map D.int).drop (ixm (rg L p T))=X1 at *;generalize ((rg L p T).map D.int).take (ixm (rg L p T))=X2 at *;generalize (rg L p T).map D.int=RR at *;generalize L.map D.int=LL at *;simp[ph,afc,hl2,hb,e,e2,e3,e4,c1,c2,hc]
  ·rintro n ρ ⟨t,t2,rfl,rfl⟩
   obtain⟨l,el⟩:=ag4 L p t;have e1:atI ((rg L p t).map D.int) (-1)=some (.int (itr L p t)):=by rw[el];exact ak2 l _
   have e2:=at2 t;rcases Nat.lt_or_ge t T with q | q
   ·have hne:=hl (t+1) (by omega) (by omega)
    have hcap:((rg L p t).map D.int).length < capS:=by rw[List.length_map,abq];unfold capS;omega
    refine .inr ⟨[.val (.tup (L.map D.int)),.val (.int s),.val (.int p),o3,.own none ((rg L p t).map D.int),.emp],[.val (.tup (L.map D.int)),.val (.int s),.val (.int p),o3,.own none ((rg L p (t+1)).map D.int),.emp],T - (t+1),?_,?_,by omega,t+1,by omega,rfl,rfl⟩
    ·generalize (rg L p t).map D.int=RR at *;generalize L.map D.int=LL at *;generalize itr L p (t+1)=y at *;simp[u6,e1,e2,hne]
    ·rw[akg,List.map_append];generalize (rg L p t).map D.int=RR at *;generalize L.map D.int=LL at *;simp[aac,e1,e2,hcap]
   ·have:t=T:=by omega
    subst this;refine .inl ⟨[.val (.tup (L.map D.int)),.val (.int s),.val (.int p),o3,.own none ((rg L p t).map D.int),.emp],?_,rfl⟩;rw[eT] at e2;generalize (rg L p t).map D.int=RR at *;generalize L.map D.int=LL at *;simp[u6,e1,e2]
 ·rintro i d ρ hd ⟨o3,rfl⟩
  rw[Nat.zero_add];have e:=at9 w hs i;refine⟨_,[.val (.tup (L.map D.int)),.val (.int s),.val (.int (itr L s (i+1))),.val d,.emp,.emp],rfl,.inl ?_,_,rfl⟩;generalize itr L s (i+1)=y at *;generalize L.map D.int=LL at *;simp[aaq,e]
end
theorem ash(n:Nat)(r:List Int):okD (n+1) (rowT r)=true:=by
 show(r.map D.int).all (okD n)=true;exact al5 n r
theorem as4(neg:Bool)(r:List Int)(rows:LL9):gIn neg (rowT r) (.lst (rows.map rowT))=some (.v (.bl (if neg then !decide (r∈rows) else decide (r∈rows)))):=by
 have h1:(rows.map rowT).all (okD 30)=true:=by
  rw[List.all_map,List.all_eq_true];exact fun x _=>ash 29 x
 have h2:(rows.map rowT).any (fun y=>eqD y (rowT r))=decide (r∈rows):=by
  rw[List.any_map]
  induction rows with
  | nil=>rfl
  | cons a l ih =>
   have ih:=ih (by rw[List.map_cons,List.all_cons,Bool.and_eq_true] at h1;exact h1.2)
   rw[List.any_cons,ih];have:eqD (rowT a) (rowT r)=decide (a=r):=ajq a r;show(eqD (rowT a) (rowT r)||_)=_;rw[this]
   by_cases q:a=r
   ·simp[q]
   ·have q':¬r=a:=fun z=>q z.symm
    simp[q,q']
 have h3:okD 30 (rowT r)=true:=ash 29 r;simp only[gIn,itemsD,h1,h2,h3,Bool.and_self,if_true]
open Classical in
noncomputable def ag3(L:List Int)(s:Int):Nat:=if q:∃T,T < L.length/\itr L (itr L s L.length) (T+1)=itr L s L.length/\∀i,1<=i->i<=T->itr L (itr L s L.length) i≠itr L s L.length then q.choose else 0
noncomputable def xf(L:List Int)(s:Int):List Int:=rotm (rg L (itr L s L.length) (ag3 L s))
section
variable{L:List Int}(w:Ways L){s:Int}(hs:s∈aaa (lp L))
include w hs
theorem aa8:ag3 L s < L.length/\itr L (itr L s L.length) (ag3 L s+1)=itr L s L.length/\∀i,1<=i->i<=ag3 L s->itr L (itr L s L.length) i≠itr L s L.length:=by
 have q:=aw2 w hs;unfold ag3;rw[dif_pos q];exact q.choose_spec
theorem akf:ph [.val (.tup (L.map D.int)),.val (.int s)]=some (.ok (.v (rowT (xf L s))),[.val (.tup (L.map D.int)),.val (.int s)]):=by
 obtain⟨a,b,c⟩:=aa8 w hs;exact aii w hs a b c
omit w hs in
theorem amb{ns:List Int}{x:Int}:x∈rotm ns↔x∈ns:=by
 unfold rotm;rw[List.mem_append,Or.comm,<-List.mem_append,List.take_append_drop]
omit w hs in
theorem als(ns:List Int):(rotm ns).length=ns.length:=by
 unfold rotm;rw[List.length_append,List.length_drop,List.length_take];omega
theorem ahi{x:Int}:x∈xf L s↔∃m,x=itr L (itr L s L.length) m:=by
 obtain⟨a,b,c⟩:=aa8 w hs;unfold xf;rw[amb];unfold rg;constructor
 ·intro q;obtain⟨i,_,rfl⟩:=List.mem_map.mp q;exact⟨i,rfl⟩
 ·rintro⟨m,rfl⟩
  have em:∀n:Nat,itr L (itr L s L.length) (n*(ag3 L s+1))=itr L s L.length:=fun n=>by
   induction n with
   | zero=>rw[Nat.zero_mul];rfl
   | succ n ih=>rw[Nat.succ_mul,cj,ih,b]
  refine List.mem_map.mpr ⟨m % (ag3 L s+1),List.mem_range.mpr (Nat.mod_lt _ (by omega)),?_⟩
  have e:=Nat.div_add_mod m (ag3 L s+1);have:itr L (itr L s L.length) m=itr L (itr L s L.length) (m % (ag3 L s+1)):=by
   rw[<-e,Nat.mul_comm,cj,em,Nat.mul_comm,e]
  exact this.symm
theorem aus:xf L s≠[]:=fun z=>by
 have:itr L s L.length∈xf L s:=(ahi w hs).mpr ⟨0,rfl⟩;rw[z] at this;cases this
theorem art:(xf L s).length<=10:=by
 obtain⟨a,b,c⟩:=aa8 w hs;have:=w.most;unfold xf;rw[als,abq];omega
end
noncomputable def addR(L:List Int)(rs:LL9)(x:Int):LL9:=if xf L x∈rs then rs else rs++[xf L x]
theorem abi(L:List Int):∀(C:List Int) (rs:LL9) (r:List Int),r∈C.foldl (addR L) rs↔r∈rs∨∃x∈C,r=xf L x
 | [],rs,r=>by simp
 | x::C,rs,r=>by
  rw[List.foldl_cons,abi L C];unfold addR;split
  ·rename_i q;constructor
   ·rintro(z | ⟨y,hy,e⟩)
    ·exact .inl z
    ·exact .inr ⟨y,List.mem_cons_of_mem _ hy,e⟩
   ·rintro(z | ⟨y,hy,e⟩)
    ·exact .inl z
    ·rcases List.mem_cons.mp hy with rfl | hy
     ·exact .inl (e▸q)
     ·exact .inr ⟨y,hy,e⟩
  ·constructor
   ·rintro(z | ⟨y,hy,e⟩)
    ·rcases List.mem_append.mp z with z | z
     ·exact .inl z
     ·exact .inr ⟨x,List.mem_cons_self ..,by simpa using z⟩
    ·exact .inr ⟨y,List.mem_cons_of_mem _ hy,e⟩
   ·rintro(z | ⟨y,hy,e⟩)
    ·exact .inl (List.mem_append_left _ z)
    ·rcases List.mem_cons.mp hy with rfl | hy
     ·exact .inl (List.mem_append_right _ (by simp[e]))
     ·exact .inr ⟨y,hy,e⟩
theorem ul(L:List Int):∀(C:List Int) {rs:LL9},rs.Nodup->(C.foldl (addR L) rs).Nodup
 | [],_,h=>h
 | x::C,rs,h=>by
  rw[List.foldl_cons];refine ul L C ?_;unfold addR;split
  ·exact h
  ·rename_i q;exact List.nodup_append.mpr ⟨h,(by simp),fun a ha b hb z=>q (by rw[List.mem_singleton] at hb;rw[<-hb,<-z];exact ha)⟩
theorem acd(L:List Int):∀(C:List Int) (rs:LL9),(C.foldl (addR L) rs).length<=rs.length+C.length
 | [],_=>by simp
 | x::C,rs=>by
  rw[List.foldl_cons];have:=acd L C (addR L rs x);have:(addR L rs x).length<=rs.length+1:=by unfold addR;split <;> simp
  rw[List.length_cons];omega
noncomputable def jw(L C:List Int):LL9:=ad9 (C.foldl (addR L) [])
theorem ae1{L C:List Int}{r:List Int}:r∈jw L C↔∃x∈C,r=xf L x:=by
 unfold jw;rw[(my _).mem_iff,abi];simp
section
variable{L:List Int}(w:Ways L){C:List Int}(hC:∀x∈C,x∈aaa (lp L))(hz:C.length<=10)(cl:∀x∈C,nxt L x∈C)
include w hC hz cl
theorem auf{x:Int}(hx:x∈aaa (lp L)):0<=x/\x < (L.length:Int):=by
 have tI:aaa (lp L)=(upto L.length).filter (caught (lp L)):=by unfold aaa;rw[af8]
 rw[tI] at hx;exact ahh (List.mem_filter.mp hx).1
theorem ap0:lr [.val (.tup (L.map D.int)),.val (.tup (C.map D.int))]=some (.ok (.fr (C.map D.int)),[.val (.tup (L.map D.int)),.val (.tup (C.map D.int))]):=by
 have ef:compD (dq 0) wy wk (C.map D.int) [] [.emp,.val (.lst (C.map D.int)),.val (.tup (L.map D.int))]=some (.ok (C.map D.int),ac0 .emp (C.map D.int)::[.val (.lst (C.map D.int)),.val (.tup (L.map D.int))]):=by
  rw[kj (p:=fun _=>true) (f:=fun d=>d)]
  ·rw[List.nil_append,List.map_id',List.filter_eq_self.mpr fun _ _=>rfl]
  ·intro d hd;obtain⟨x,hx,rfl⟩:=List.mem_map.mp hd;have hr:=auf w hC hz cl (hC x hx);have er:=zq (ns:=L) hr.1 hr.2;have hn:=cl x hx;have:nxt L x=L.getD x.toNat 0:=if_pos hr.1;rw[this] at hn;have e2:=adq false (L.getD x.toNat 0) C;rw[decide_eq_true hn] at e2;generalize L.getD x.toNat 0=y at *;generalize L.map D.int=LL at *;generalize C.map D.int=CC at *;simp[wy,er,e2]
  ·intro d hd _;obtain⟨x,hx,rfl⟩:=List.mem_map.mp hd;simp[wk]
 have hc:(C.map D.int).length<=capS:=by rw[List.length_map];exact gq (by omega)
 have loop:=ue (c:=jz) (g:=qi)
  (fun n ρ=>ρ=[.val (.tup (L.map D.int)),.val (.tup (C.map D.int)),.own none (C.map D.int),.val (.int ((C.length:Int)+n))]/\n<=1)
  (fun ρ=>∃o,ρ=[.val (.tup (L.map D.int)),.val (.tup (C.map D.int)),.own none (C.map D.int),o])
  ?_ fuel 1 [.val (.tup (L.map D.int)),.val (.tup (C.map D.int)),.own none (C.map D.int),.val (.int ((C.length:Int)+(1:Nat)))] (Nat.lt_trans (by decide) abh) ⟨rfl,Nat.le_refl _⟩
 ·obtain⟨ρ',e,o,rfl⟩:=loop;have hl:(C.map D.int).length=C.length:=List.length_map ..
  have e:whileD jz qi fuel [.val (.tup (L.map D.int)),.val (.tup (C.map D.int)),.own none (C.map D.int),.val (.int ((C.length:Int)+1))]=some (.nx,[.val (.tup (L.map D.int)),.val (.tup (C.map D.int)),.own none (C.map D.int),o]):=e;generalize L.map D.int=LL at *;generalize C.map D.int=CC at *;simp[lr,ac2,hl,e]
 ·rintro n ρ ⟨rfl,hn⟩
  have hl:(C.map D.int).length=C.length:=List.length_map ..
  by_cases q:n=0
  ·subst q;refine .inl ⟨[.val (.tup (L.map D.int)),.val (.tup (C.map D.int)),.own none (C.map D.int),.val (.int ((C.length:Int)+(0:Nat)))],?_,_,rfl⟩;generalize L.map D.int=LL at *;generalize C.map D.int=CC at *;simp[jz,hl]
  ·have:n=1:=by omega
   subst this;refine .inr ⟨[.val (.tup (L.map D.int)),.val (.tup (C.map D.int)),.own none (C.map D.int),.val (.int ((C.length:Int)+(1:Nat)))],[.val (.tup (L.map D.int)),.val (.tup (C.map D.int)),.own none (C.map D.int),.val (.int ((C.length:Int)+(0:Nat)))],0,?_,?_,by omega,rfl,by omega⟩
   ·generalize L.map D.int=LL at *;generalize C.map D.int=CC at *;have:(C.length:Int) < (C.length:Int)+1:=by omega
    simp[jz,hl,this]
   ·generalize L.map D.int=LL at *;generalize C.map D.int=CC at *;rw[hl] at hc;simp[qi,hl,ef,hc]
theorem ake:xx [.val (.tup (L.map D.int)),.val (.tup (C.map D.int))]=some (.ok (.fr ((jw L C).map rowT)),[.val (.tup (L.map D.int)),.val (.tup (C.map D.int))]):=by
 have eg:=ap0 w hC hz cl;have loop:∀(xs:List Int) (rs:LL9) (o3 o4:Sl),(∀x∈xs,x∈aaa (lp L))->rs.length+xs.length<=10->∃q3 q4,forD (dq 3) oh (xs.map D.int) [.val (.tup (L.map D.int)),.val (.tup (C.map D.int)),.own none (rs.map rowT),o3,o4]=some (.nx,[.val (.tup (L.map D.int)),.val (.tup (C.map D.int)),.own none ((xs.foldl (addR L) rs).map rowT),q3,q4]):=by
  intro xs
  induction xs with
  | nil=>intro rs o3 o4 _ _;exact⟨o3,o4,rfl⟩
  | cons x xs ih =>
   intro rs o3 o4 hx hn;have e1:=akf w (hx x (List.mem_cons_self ..));have e2:=as4 true (xf L x) rs;have es:oh [.val (.tup (L.map D.int)),.val (.tup (C.map D.int)),.own none (rs.map rowT),.val (.int x),o4]=some (.nx,[.val (.tup (L.map D.int)),.val (.tup (C.map D.int)),.own none ((addR L rs x).map rowT),.val (.int x),.val (rowT (xf L x))]):=by
    have hcap:(rs.map rowT).length < capS:=by rw[List.length_map];unfold capS;rw[List.length_cons] at hn;omega
    by_cases q:xf L x∈rs
    ·rw[decide_eq_true q] at e2;have:addR L rs x=rs:=if_pos q;rw[this];generalize rowT (xf L x)=rr at *;generalize rs.map rowT=RR at *;generalize L.map D.int=LL at *;generalize C.map D.int=CC at *;simp[oh,e1,e2]
    ·rw[decide_eq_false q] at e2;have:addR L rs x=rs++[xf L x]:=if_neg q;rw[this,List.map_append];generalize hrr:rowT (xf L x)=rr at *;generalize rs.map rowT=RR at *;generalize L.map D.int=LL at *;generalize C.map D.int=CC at *;simp[oh,e1,e2,hcap,hrr]
   have hz2:(addR L rs x).length<=rs.length+1:=by unfold addR;split <;> simp
   obtain⟨q3,q4,e3⟩:=ih (addR L rs x) (.val (.int x)) (.val (rowT (xf L x))) (fun y hy=>hx y (List.mem_cons_of_mem _ hy)) (by rw[List.length_cons] at hn;omega)
   refine⟨q3,q4,?_⟩;rw[List.map_cons,j6,List.foldl_cons];simp only[abl,List.set_cons_succ,List.set_cons_zero];rw[es];exact e3
 obtain⟨q3,q4,e⟩:=loop C [] .emp .emp hC (by simpa using hz)
 have hz3:=acd L C [];have es:=ac4 (rows:=C.foldl (addR L) []) (by simp at hz3;omega) (fun r hr=>by
  rcases(abi L C [] r).mp hr with z | ⟨x,hx,rfl⟩
  ·cases z
  ·exact aus w (hC x hx)) (ul L C List.nodup_nil)
 have e:forD (dq 3) oh (C.map D.int) [.val (.tup (L.map D.int)),.val (.tup (C.map D.int)),.own none [],.emp,.emp]=some (.nx,[.val (.tup (L.map D.int)),.val (.tup (C.map D.int)),.own none ((C.foldl (addR L) []).map rowT),q3,q4]):=e;unfold jw;generalize (ad9 (C.foldl (addR L) [])).map rowT=SS at *;generalize (C.foldl (addR L) []).map rowT=FF at *;generalize L.map D.int=LL at *;generalize C.map D.int=CC at *;simp[xx,agd,eg,e,es]
end
section
variable{qv:LL9}(h:Hs qv)(sh:Sh qv){as:List Int}(ha:Arr qv as)
include h sh ha
theorem lasts_get0{x:Int}(h0:0<=x)(h1:x < (qv.length:Int)):(lasts qv as).getD x.toNat 0=za qv as x:=by
 have hx:x.toNat < qv.length:=by omega
 rw[List.getD_eq_getElem?_getD,ae4 hx,show((x.toNat:Nat):Int)=x by omega]
 rfl
theorem ajb{x:Int}(h0:0<=x)(h1:x < (qv.length:Int)):za qv as x∈dr qv x:=by
 have a:=(h.dr h0 h1).1;unfold za;have w0:0 < wd qv x:=by unfold wd;omega
 have b0:=Int.emod_nonneg (ar as x - 1) (show wd qv x≠0 by omega)
 have b1:=Int.emod_lt_of_pos (ar as x - 1) w0;have hk:((ar as x - 1) % wd qv x).toNat < (dr qv x).length:=by unfold wd at *;omega
 rw[List.getD_eq_getElem?_getD,List.getElem?_eq_getElem hk];exact List.getElem_mem hk
theorem asi{x:Int}(h0:0<=x)(h1:x < (qv.length:Int)):nxt (lasts qv as) x=za qv as x:=by
 unfold nxt;rw[if_pos h0];exact lasts_get0 h sh ha h0 h1
theorem ah1{x:Int}(h0:0<=x)(h1:x < (qv.length:Int)):x∈aaa (lp (lasts qv as)):=by
 have tI:aaa (lp (lasts qv as))=(upto qv.length).filter (caught (lp (lasts qv as))):=by unfold aaa;rw[af8,ie]
 rw[tI];refine List.mem_filter.mpr ⟨List.mem_map.mpr ⟨x.toNat,List.mem_range.mpr (by omega),by omega⟩,(agp _ _).mpr fun y r =>?_⟩
 have key:0<=y/\y < (qv.length:Int):=by
  induction r with
  | base=>exact⟨h0,h1⟩
  | step r q hd ih =>
   obtain⟨i0,i1⟩:=ih;rw[ay2 i0 (by rw[ie];exact i1),List.mem_singleton,lasts_get0 h sh ha i0 i1] at hd
   have m:=ajb h sh ha i0 i1;rw[hd];exact⟨sh.dr m,((h.dr i0 i1).2.2 _ m).2⟩
 exact key.1
variable{k:Int}(hk:0<=k/\k < (qv.length:Int))
include hk
theorem ald:∀x∈gj qv k,nxt (lasts qv as) x∈gj qv k:=fun x hx=>by
 have hr:=qd h hk x hx;rw[asi h sh ha hr.1 hr.2];exact(qj h hk sh).mpr (.step ((qj h hk sh).mp hx) hr.1 (ajb h sh ha hr.1 hr.2))
omit hk in
theorem ac7(hk:0<=k/\k < (qv.length:Int)):∀x∈gj qv k,x∈aaa (lp (lasts qv as)):=fun x hx=>by
 have hr:=qd h hk x hx;exact ah1 h sh ha hr.1 hr.2
theorem aga:(∀r∈jw (lasts qv as) (gj qv k),k∈r)↔∀x,Rch qv k x->∃m,itr (lasts qv as) x m=k:=by
 have w:=xj h ha;constructor
 ·intro q x hx;have hm:=(qj h hk sh).mpr hx;have:=q _ (ae1.mpr ⟨x,hm,rfl⟩);obtain⟨m,e⟩:=(ahi w (ac7 h sh ha hk x hm)).mp this;exact⟨(lasts qv as).length+m,by rw[cj];exact e.symm⟩
 ·intro q r hr;obtain⟨x,hx,rfl⟩:=ae1.mp hr;have cl:∀m:Nat,itr (lasts qv as) x m∈gj qv k:=fun m=>by
   induction m with
   | zero=>exact hx
   | succ m ih=>rw[ahl];exact ald h sh ha hk _ ih
  obtain⟨m,e⟩:=q _ ((qj h hk sh).mp (cl (lasts qv as).length));exact(ahi w (ac7 h sh ha hk x hx)).mpr ⟨m,e.symm⟩
noncomputable def outR(qv:LL9)(as:List Int)(k:Int):Option (List Int):=(jw (lasts qv as) (gj qv k)).find? fun r => !decide (k∈r)
theorem aer:jl [.val (hD qv),.val (.tup (as.map D.int)),.val (.int k)]=some (.ok (.v (match outR qv as k with | some r=>rowT r | none=>.non)),[.val (hD qv),.val (.tup (as.map D.int)),.val (.int k)]):=by
 have e1:=aja h ha;obtain⟨e2,C⟩:=qe h hk;have w:=xj h ha;have e3:=ake w (ac7 h sh ha hk) C.len (ald h sh ha hk);have loop:∀(rs:LL9) (o:Sl),∃q,forD (dq 3) jc (rs.map rowT) [.val (hD qv),.val (.tup (as.map D.int)),.val (.int k),o]=some (match rs.find? fun r => !decide (k∈r) with | some r=>.ret (.v (rowT r)) | none=>.nx,[.val (hD qv),.val (.tup (as.map D.int)),.val (.int k),q]):=by
  intro rs
  induction rs with
  | nil=>intro o;exact⟨o,rfl⟩
  | cons r rs ih =>
   intro o;have e4:gIn true (.int k) (rowT r)=some (.v (.bl (!decide (k∈r)))):=ak9 true k r;obtain⟨q,eq⟩:=ih (.val (rowT r));rw[List.map_cons,j6];simp only[abl,List.set_cons_succ,List.set_cons_zero]
   by_cases z:k∈r
   ·rw[decide_eq_true z] at e4;have es:jc [.val (hD qv),.val (.tup (as.map D.int)),.val (.int k),.val (rowT r)]=some (.nx,[.val (hD qv),.val (.tup (as.map D.int)),.val (.int k),.val (rowT r)]):=by
     generalize rowT r=rr at *;generalize hD qv=hh at *;simp[jc,e4]
    rw[es,List.find?_cons,decide_eq_true z];exact⟨q,eq⟩
   ·rw[decide_eq_false z] at e4;have es:jc [.val (hD qv),.val (.tup (as.map D.int)),.val (.int k),.val (rowT r)]=some (.ret (.v (rowT r)),[.val (hD qv),.val (.tup (as.map D.int)),.val (.int k),.val (rowT r)]):=by
     generalize rowT r=rr at *;generalize hD qv=hh at *;simp[jc,e4]
    rw[es,List.find?_cons,decide_eq_false z];exact⟨_,rfl⟩
 obtain⟨q,e5⟩:=loop (jw (lasts qv as) (gj qv k)) .emp;unfold outR;generalize ((jw (lasts qv as) (gj qv k)).find? fun r => !decide (k∈r))=ff at *
 generalize (jw (lasts qv as) (gj qv k)).map rowT=RR at *;generalize (lasts qv as).map D.int=LL at *;generalize (gj qv k).map D.int=CC at *;generalize as.map D.int=AA at *;generalize hD qv=hh at *;cases ff with
 | none =>
  simp only at e5;simp[jl,vz,e1,e2,e3,e5]
 | some r =>
  dsimp only at e5 ⊢
  generalize rowT r=rr at *;simp[jl,vz,e1,e2,e3,e5]
noncomputable def whyD(qv:LL9)(as:List Int)(k:Int):D:=match afb qv k with
 | x::_=>.tup [.str "gone", .int x]
 | []=>match outR qv as k with
  | some r=>.tup [.str "ring", rowT r]
  | none=>.non
theorem aoh:zc [.val (hD qv),.val (.tup (as.map D.int)),.val (.int k)]=some (.ok (.v (whyD qv as k)),[.val (hD qv),.val (.tup (as.map D.int)),.val (.int k)]):=by
 have e1:=ajf h hk;have e2:=aer h sh ha hk;unfold whyD;cases hg:afb qv k with
 | nil =>
  rw[hg] at e1;have e3:gEq true (.lst []) (.lst [])=some (.v (.bl false)):=by kernel_rfl
  generalize as.map D.int=AA at *;generalize hD qv=hh at *;generalize outR qv as k=oo at *;cases oo with
  | none =>
   dsimp only at e2 ⊢
   simp[zc,aee,e1,e2,e3,isN]
  | some r =>
   dsimp only at e2 ⊢
   have e4:rowT r=.tup (r.map D.int):=rfl;simp only[e4] at e2;simp only[e4];generalize r.map D.int=rr at *;simp[zc,aee,e1,e2,e3,isN]
 | cons x r =>
  rw[hg] at e1;have e3:gEq true (.lst ((x::r).map D.int)) (.lst [])=some (.v (.bl true)):=by
   have h1:okD 30 (.lst ((x::r).map D.int))=true:=al5 29 (x::r);have h2:eqD (.lst ((x::r).map D.int)) (.lst [])=false:=rfl;have h3:okD 30 (.lst [])=true:=rfl;simp only[gEq,h1,h2,h3,Bool.and_self,if_true];rfl
  have e4:atI ((x::r).map D.int) 0=some (.int x):=by simp[atI,ixN]
  generalize as.map D.int=AA at *;generalize hD qv=hh at *;generalize (x::r).map D.int=GG at *;simp[zc,aee,e1,e3,e4]
theorem arh:whyD qv as k=.non↔InG qv as k:=by
 unfold whyD;cases hg:afb qv k with
 | nil =>
  have b:=(ams h hk sh).mp hg;cases ho:outR qv as k with
  | none =>
   refine⟨fun _=>⟨b,(aga h sh ha hk).mp fun r hr =>?_⟩,fun _=>rfl⟩
   have:=List.find?_eq_none.mp ho r hr
   simpa using this
  | some r =>
   refine⟨fun z=>(by cases z),fun g =>?_⟩
   have h1:=List.find?_some ho;have h2:=List.mem_of_find?_eq_some ho;have:=(aga h sh ha hk).mpr g.lead r h2;simp[this] at h1
 | cons x r =>
  refine⟨fun z=>(by cases z),fun g =>?_⟩
  have:=(ams h hk sh).mpr g.back;rw[hg] at this;cases this
end
def stO(s:List Int×Int):D:=.tup [.tup (s.1.map D.int),.int s.2]
def stD(qv:LL9)(as:List Int)(k:Int)(t:Nat):List D:=(List.range t).map fun i=>stO (run qv as k i)
def kvR(qv:LL9)(as:List Int)(k:Int)(t:Nat):Kvs:=(List.range t).map fun i=>(run qv as k i,(i:Int))
theorem aoo(qv:LL9)(as:List Int)(k:Int)(t:Nat):(stD qv as k t).length=t:=by unfold stD;simp
theorem arn(qv:LL9)(as:List Int)(k:Int)(t:Nat):stD qv as k (t+1)=stD qv as k t++[stO (run qv as k t)]:=by
 unfold stD;rw[List.range_succ,List.map_append];rfl
theorem amh(qv:LL9)(as:List Int)(k:Int)(t:Nat):kvR qv as k (t+1)=kvR qv as k t++[(run qv as k t,(t:Int))]:=by
 unfold kvR;rw[List.range_succ,List.map_append];rfl
theorem avp(qv:LL9)(as:List Int)(k:Int)(t:Nat):(kvR qv as k t).length=t:=by unfold kvR;simp
theorem akt{qv:LL9}{as:List Int}{k:Int}{t:Nat}{s:StK}:s∈(kvR qv as k t).map (·.1)↔∃i,i < t/\s=run qv as k i:=by
 unfold kvR;rw[List.map_map,List.mem_map];constructor
 ·rintro⟨i,hi,rfl⟩
  exact⟨i,List.mem_range.mp hi,rfl⟩
 ·rintro⟨i,hi,rfl⟩
  exact⟨i,List.mem_range.mpr hi,rfl⟩
theorem amc{qv:LL9}{as:List Int}{k:Int}:∀{N:Nat},(∀i j,i < j->j < N->run qv as k i≠run qv as k j)->∀{a:Nat},a < N->(kvR qv as k N).lookup (run qv as k a)=some (a:Int)
 | 0,_,a,h=>by omega
 | N+1,hd,a,h=>by
  rw[amh,List.lookup_append]
  by_cases q:a < N
  ·rw[amc (fun i j x y=>hd i j x (by omega)) q]
   rfl
  ·have e:a=N:=by omega
   subst e;have:(kvR qv as k a).lookup (run qv as k a)=none:=by
    rw[List.lookup_eq_none_iff];intro p hp;obtain⟨i,hi,rfl⟩:=List.mem_map.mp hp;have:=hd i a (List.mem_range.mp hi) (by omega)
    simpa using fun z=>this z.symm
   rw[this];simp
abbrev mkR:M D:=mTup (bw (mVar 1) (bw (mVar 2) mNil))
abbrev mvR:M D:=M.d (gb (g1 gL9) (dw 4 mNil))
abbrev maR:M Rv:=M.v (mMut 4 wj (bw (mTup (bw (mVar 1) (bw (mVar 2) mNil))) mNil))
abbrev mlR:M D:=M.d (mFn qb [some 0,some 1,none] (dg 0 (dg 1 (bf (mVar 2) f9))))
abbrev roR(hh:D)(as:List D)(k:Int)(S:List D):Ro:=[.val hh,.val (.tup as),.val (.int k),.emp,.own none S,.emp]
section
variable{qv:LL9}(h:Hs qv)(sh:Sh qv){as:List Int}(ha:Arr qv as){k:Int}(h0:0<=k)(h1:k < (qv.length:Int))
include h sh ha h0 h1
theorem aow(t:Nat)(ht:t<=100000)(hn:∀i,i < t->run qv as k i≠run qv as k t) :
  aup mkR mvR maR mlR 1 2 (kvR qv as k t) (roR (hD qv) ((run qv as k t).1.map D.int) (run qv as k t).2 (stD qv as k t))=some (kvR qv as k (t+1),roR (hD qv) ((run qv as k (t+1)).1.map D.int) (run qv as k (t+1)).2 (stD qv as k (t+1))):=by
 obtain⟨a1,a2,a3⟩:=srun h sh ha h0 h1 t;have el:=avm h a1 a2 a3;have hl:=aoo qv as k t;have hcap:(stD qv as k t).length < capS:=by rw[hl];unfold capS;omega
 have ek:keyD (.tup [.tup ((run qv as k t).1.map D.int),.int (run qv as k t).2])=some (run qv as k t):=ak4 _ _;have e1:okR mvR (roR (hD qv) ((run qv as k t).1.map D.int) (run qv as k t).2 (stD qv as k t))=some (.int (t:Int),roR (hD qv) ((run qv as k t).1.map D.int) (run qv as k t).2 (stD qv as k t)):=aey (by
  generalize stD qv as k t=SS at *;simp[roR,hl])
 have e2:okR mkR (roR (hD qv) ((run qv as k t).1.map D.int) (run qv as k t).2 (stD qv as k t))=some (.tup [.tup ((run qv as k t).1.map D.int),.int (run qv as k t).2],roR (hD qv) ((run qv as k t).1.map D.int) (run qv as k t).2 (stD qv as k t)):=aey (by simp[roR])
 have e3:okR maR (roR (hD qv) ((run qv as k t).1.map D.int) (run qv as k t).2 (stD qv as k t))=some (.v .non,roR (hD qv) ((run qv as k t).1.map D.int) (run qv as k t).2 (stD qv as k t++[.tup [.tup ((run qv as k t).1.map D.int),.int (run qv as k t).2]])):=aey (by
  generalize stD qv as k t=SS at *;simp[roR,hcap])
 have e4:okR mlR (roR (hD qv) ((run qv as k t).1.map D.int) (run qv as k t).2 (stD qv as k t++[.tup [.tup ((run qv as k t).1.map D.int),.int (run qv as k t).2]]))=some (.tup [.tup ((gone qv (run qv as k t).1 (run qv as k t).2).map D.int),.int (led qv (run qv as k t).1 (run qv as k t).2)],roR (hD qv) ((run qv as k t).1.map D.int) (run qv as k t).2 (stD qv as k t++[.tup [.tup ((run qv as k t).1.map D.int),.int (run qv as k t).2]])):=aey (by
  generalize stD qv as k t++[.tup [.tup ((run qv as k t).1.map D.int),.int (run qv as k t).2]]=SS at *;generalize hD qv=hh at *;simp[roR,el])
 have hb:(decide (run qv as k t∈(kvR qv as k t).map (·.1))||decide (100000 < (kvR qv as k t).length))=false:=by
  rw[decide_eq_false,decide_eq_false]
  ·rfl
  ·rw[avp];omega
  ·intro z;obtain⟨i,hi,e⟩:=akt.mp z;exact hn i hi e.symm
 unfold aup;rw[e1];dsimp only[Option.bind_some];rw[show asI (D.int (t:Int))=some (t:Int) from rfl]
 dsimp only[Option.bind_some];rw[e2];dsimp only[Option.bind_some];rw[ek];dsimp only[Option.bind_some];rw[hb,if_neg (by simp),e3]
 dsimp only[Option.bind_some];rw[e4];dsimp only[Option.bind_some,pairD];rw[amh,arn];rfl
theorem aib{N:Nat}(hN:N<=100000)(hd:∀i j,i < j->j < N->run qv as k i≠run qv as k j)(hl:∃i,i < N/\run qv as k N=run qv as k i):∀(d t n:Nat),t+d=N->d < n ->
  aka mkR mvR maR mlR 1 2 n (kvR qv as k t) (roR (hD qv) ((run qv as k t).1.map D.int) (run qv as k t).2 (stD qv as k t))=some (kvR qv as k N,roR (hD qv) ((run qv as k N).1.map D.int) (run qv as k N).2 (stD qv as k N))
 | d,t,0,_,h=>absurd h (Nat.not_lt_zero _)
 | d,t,n+1,e,hn=>by
  have ek:keyD (.tup [.tup ((run qv as k t).1.map D.int),.int (run qv as k t).2])=some (run qv as k t):=ak4 _ _;have e2:okR mkR (roR (hD qv) ((run qv as k t).1.map D.int) (run qv as k t).2 (stD qv as k t))=some (.tup [.tup ((run qv as k t).1.map D.int),.int (run qv as k t).2],roR (hD qv) ((run qv as k t).1.map D.int) (run qv as k t).2 (stD qv as k t)):=aey (by simp[roR])
  unfold aka;rw[e2];dsimp only[Option.bind_some];rw[ek];dsimp only[Option.bind_some];cases d with
  | zero =>
   have:t=N:=by omega
   subst this;rw[if_pos];obtain⟨i,hi,ei⟩:=hl;exact decide_eq_true (akt.mpr ⟨i,hi,ei⟩)
  | succ d =>
   rw[if_neg]
   ·rw[aow h sh ha h0 h1 t (by omega) fun i hi=>hd i t hi (by omega)]
    dsimp only[Option.bind_some];exact aib hN hd hl d (t+1) n (by omega) (by omega)
   ·simp only[decide_eq_true_eq];intro z;obtain⟨i,hi,ei⟩:=akt.mp z;exact hd i t hi (by omega) ei.symm
theorem ai8(h5:qv.length<=5):∃a m:Nat,1<=m/\a+m<=77760/\(∀i j,i < j->j < a+m->run qv as k i≠run qv as k j)/\run qv as k (a+m)=run qv as k a /\
  qw [.val (hD qv),.val (.tup (as.map D.int)),.val (.int k)]=some (.ok (.v (.tup [.int (a:Int),.int (m:Int),.lst (stD qv as k (a+m))])),[.val (hD qv),.val (.tup ((run qv as k (a+m)).1.map D.int)),.val (.int (run qv as k (a+m)).2)]):=by
 have hp:10*6 ^ qv.length<=77760:=by
  have:6 ^ qv.length<=6 ^ 5:=Nat.pow_le_pow_right (by decide) h5
  omega
 obtain⟨i0,j0,hij,hj,e0⟩:=af3 h (run qv as k) fun i _=>srun h sh ha h0 h1 i
 obtain⟨N,⟨a,haN,eN⟩,hmin⟩:=least (P:=fun N=>∃i,i < N/\run qv as k i=run qv as k N) j0 ⟨i0,hij,e0⟩
 have hNj:N<=j0:=by
  rcases Nat.lt_or_ge j0 N with q | q
  ·exact absurd ⟨i0,hij,e0⟩ (hmin j0 q)
  ·exact q
 have hd:∀i j,i < j->j < N->run qv as k i≠run qv as k j:=fun i j x y z=>hmin j y ⟨i,x,z⟩
 refine⟨a,N - a,by omega,by omega,by rw[show a+(N - a)=N by omega];exact hd,by rw[show a+(N - a)=N by omega];exact eN.symm,?_⟩
 rw[show a+(N - a)=N by omega]
 have lo:=aib h sh ha h0 h1 (by omega) hd ⟨a,haN,eN.symm⟩ N 0 fuel (by omega) (Nat.lt_trans (show N < 100000 by omega) abh)
 have lo:aka mkR mvR maR mlR 1 2 fuel [] [.val (hD qv),.val (.tup (as.map D.int)),.val (.int k),.emp,.own none [],.emp]=some (kvR qv as k N,roR (hD qv) ((run qv as k N).1.map D.int) (run qv as k N).2 (stD qv as k N)):=lo;have lk:=amc hd haN;rw[eN] at lk;have ek:keyD (.tup [.tup ((run qv as k N).1.map D.int),.int (run qv as k N).2])=some (run qv as k N):=ak4 _ _;have e2:okR mkR (roR (hD qv) ((run qv as k N).1.map D.int) (run qv as k N).2 (stD qv as k N))=some (.tup [.tup ((run qv as k N).1.map D.int),.int (run qv as k N).2],roR (hD qv) ((run qv as k N).1.map D.int) (run qv as k N).2 (stD qv as k N)):=aey (by simp[roR])
 have hl:=aoo qv as k N;have e0':okR (mLst mNil) [.val (hD qv),.val (.tup (as.map D.int)),.val (.int k),.emp,.emp,.emp]=some (.fr [],[.val (hD qv),.val (.tup (as.map D.int)),.val (.int k),.emp,.emp,.emp]):=aey (by simp)
 have eg:aas [.val (hD qv),.val (.tup (as.map D.int)),.val (.int k),.emp,.emp,.emp]=some (.ret (.v (.tup [.int (a:Int),.int ((N - a:Nat):Int),.lst (stD qv as k N)])),[.val (hD qv),.val (.tup ((run qv as k N).1.map D.int)),.val (.int (run qv as k N).2),.emp,.val (.lst (stD qv as k N)),.val (.int (a:Int))]):=by
  unfold aas av4;simp only[List.getElem?_cons_succ,List.getElem?_cons_zero,Option.bind_some,List.set_cons_succ,List.set_cons_zero];rw[e0'];simp only[Option.bind_some,List.set_cons_succ,List.set_cons_zero,Rv.sl];rw[lo];dsimp only[Option.bind_some];rw[e2];dsimp only[Option.bind_some];rw[ek];dsimp only[Option.bind_some];rw[lk];dsimp only[Option.bind_some];have ec:(N:Int) - (a:Int)=((N - a:Nat):Int):=by omega
  generalize stD qv as k N=SS at *;simp[roR,hl,ec]
 unfold qw;generalize stD qv as k N=SS at *;generalize hD qv=hh at *;simp[fnD,eg]
end
theorem akc(qv:LL9)(as:List Int)(k:Int)(t:Nat):∀m:Nat,run qv (run qv as k t).1 (run qv as k t).2 m=run qv as k (t+m)
 | 0=>rfl
 | m+1=>by
  show(gone qv (run qv (run qv as k t).1 (run qv as k t).2 m).1 (run qv (run qv as k t).1 (run qv as k t).2 m).2,led qv (run qv (run qv as k t).1 (run qv as k t).2 m).1 (run qv (run qv as k t).1 (run qv as k t).2 m).2)=_;rw[akc qv as k t m];rfl
section
variable{qv:LL9}{as:List Int}{k:Int}{a m:Nat}(hm:1<=m)(e:run qv as k (a+m)=run qv as k a)
include hm e
theorem al1(y:Nat):run qv as k (a+y+m)=run qv as k (a+y):=by
 have:=acr qv as k e y;rw[show a+y+m=a+m+y by omega]
 exact this
theorem aw4:∀x:Nat,a<=x->∃j,a<=j/\j < a+m/\run qv as k x=run qv as k j:=fun x=>by
 induction x using Nat.strongRecOn with
 | ind x ih =>
  intro hx
  by_cases q:x < a+m
  ·exact⟨x,hx,q,rfl⟩
  ·obtain⟨j,j1,j2,j3⟩:=ih (x - m) (by omega) (by omega)
   refine⟨j,j1,j2,?_⟩;have:=al1 hm e (x - m - a);rw[show a+(x - m - a)+m=x by omega,show a+(x - m - a)=x - m by omega] at this
   rw[this];exact j3
theorem avo(h:Hs qv)(sh:Sh qv)(ha:Arr qv as)(h0:0<=k)(h1:k < (qv.length:Int)){t:Nat}(ht:a<=t):InG qv (run qv as k t).1 (run qv as k t).2:=by
 obtain⟨a1,a2,a3⟩:=srun h sh ha h0 h1 t;refine aod h sh a1 a2 a3 (T:=m) hm ?_;rw[akc];have:=al1 hm e (t - a);rw[show a+(t - a)+m=t+m by omega,show a+(t - a)=t by omega] at this
 exact this
theorem aqg(h:Hs qv)(sh:Sh qv)(ha:Arr qv as)(h0:0<=k)(h1:k < (qv.length:Int))(hd:∀i j,i < j->j < a+m->run qv as k i≠run qv as k j){t:Nat}(ht:t < a):¬InG qv (run qv as k t).1 (run qv as k t).2:=fun g=>by
 obtain⟨a1,a2,a3⟩:=srun h sh ha h0 h1 t;obtain⟨T,hT,eT⟩:=ani h sh a1 a2 a3 g;rw[akc] at eT;have em:∀n:Nat,run qv as k (t+n*T)=run qv as k t:=fun n=>by
  induction n with
  | zero=>rw[Nat.zero_mul];rfl
  | succ n ih =>
   have:=acr qv as k (i:=t+T) (j:=t) eT (n*T);rw[Nat.succ_mul,show t+(n*T+T)=t+T+n*T by omega,this]
   exact ih
 obtain⟨j,j1,j2,j3⟩:=aw4 hm e (t+a*T) (by
  have:a<=a*T:=Nat.le_mul_of_pos_right a (by omega)
  omega)
 rw[em] at j3;exact hd t j (by omega) j2 j3
end
theorem avt(d:D):isN d=true↔d=.non:=by cases d <;> simp[isN]
section
variable{qv:LL9}(h:Hs qv)(sh:Sh qv){as:List Int}(ha:Arr qv as){k:Int}(h0:0<=k)(h1:k < (qv.length:Int))
include h sh ha h0 h1
theorem agx:dj [.val (hD qv),.val (.tup (as.map D.int)),.val (.int k)]=some (.ok (.v .non),[.val (hD qv),.val (.tup (as.map D.int)),.val (.int k)]):=by
 have e1:=aes h ha h0 h1;have e2:=afu h sh;generalize hD qv=hh at *;simp[dj,mq,e1,e2]
theorem at3:isN (whyD qv as k)=true↔InG qv as k:=by rw[avt];exact arh h sh ha ⟨h0,h1⟩
end
structure Cy (L:List Int) (r:List Int) (μ:Int) (T:Nat):Prop where
 is:r=rg L μ T
 per:itr L μ (T+1)=μ
 min:∀i,1<=i->i<=T->itr L μ i≠μ
 least:minI r=μ
theorem alx(L:List Int)(p:Int){T i:Nat}(hi:i < T+1):(rg L p T)[i]? = some (itr L p i):=by
 unfold rg;rw[List.getElem?_map,List.getElem?_range hi];rfl
theorem af7{L:List Int}{p:Int}{T:Nat}{x:Int}:x∈rg L p T↔∃i,i<=T/\x=itr L p i:=by
 unfold rg;rw[List.mem_map];constructor
 ·rintro⟨i,hi,rfl⟩
  exact⟨i,by have:=List.mem_range.mp hi;omega,rfl⟩
 ·rintro⟨i,hi,rfl⟩
  exact⟨i,List.mem_range.mpr (by omega),rfl⟩
theorem aqj{L:List Int}{p:Int}{T:Nat}(e:itr L p (T+1)=p)(n:Nat):itr L p (n*(T+1))=p:=by
 induction n with
 | zero=>rw[Nat.zero_mul];rfl
 | succ n ih=>rw[Nat.succ_mul,cj,ih,e]
theorem av5{L:List Int}{p:Int}{T:Nat}(e:itr L p (T+1)=p)(m:Nat):itr L p m=itr L p (m % (T+1)):=by
 have z:=Nat.div_add_mod m (T+1);have:itr L p m=itr L p (m / (T+1)*(T+1)+m % (T+1)):=by rw[Nat.mul_comm,z]
 rw[this,cj,aqj e]
theorem avk{L:List Int}{p:Int}{T:Nat}(e:itr L p (T+1)=p){x:Int}:x∈rg L p T↔∃m,x=itr L p m:=by
 rw[af7];constructor
 ·rintro⟨i,_,rfl⟩
  exact⟨i,rfl⟩
 ·rintro⟨m,rfl⟩
  exact⟨m % (T+1),by have:=Nat.mod_lt m (show 0 < T+1 by omega);omega,av5 e m⟩
theorem aur{L:List Int}{p:Int}{T:Nat}(e:itr L p (T+1)=p){j:Nat}(hj:j<=T):(rg L p T).drop j++(rg L p T).take j=rg L (itr L p j) T:=by
 have hl:=abq L p T;apply List.ext_getElem?;intro i
 by_cases hi:i < T+1
 ·rw[alx L _ hi,<-cj]
  by_cases q:i < T+1 - j
  ·rw[List.getElem?_append_left (by rw[List.length_drop];omega),List.getElem?_drop,alx L p (by omega)]
  ·rw[List.getElem?_append_right (by rw[List.length_drop];omega),List.length_drop,List.getElem?_take_of_lt (by omega),alx L p (by omega)]
   have:itr L p (j+i)=itr L p (i - ((rg L p T).length - j)):=by
    rw[hl,show j+i=(T+1)+(i - (T+1 - j)) by omega,cj,e]
   rw[this]
 ·rw[List.getElem?_eq_none (by rw[List.length_append,List.length_drop,List.length_take];omega),List.getElem?_eq_none (by rw[abq];omega)]
theorem ay3{L:List Int}{p:Int}{T:Nat}(e:itr L p (T+1)=p)(hm:∀i,1<=i->i<=T->itr L p i≠p){j:Nat}(hj:j<=T):itr L (itr L p j) (T+1)=itr L p j/\∀i,1<=i->i<=T->itr L (itr L p j) i≠itr L p j:=by
 refine⟨by rw[<-cj,show j+(T+1)=(T+1)+j by omega,cj,e],fun i i1 i2 z =>?_⟩
 have:itr L p i=p:=by
  have a:itr L (itr L (itr L p j) i) (T+1 - j)=itr L (itr L p j) (T+1 - j):=by rw[z]
  rw[<-cj,<-cj,<-cj,show j+(i+(T+1 - j))=(T+1)+i by omega,show j+(T+1 - j)=T+1 by omega,cj,e] at a
  exact a
 exact hm i i1 i2 this
theorem apj:∀{r:List Int} {x:Int},x∈r->minI r<=x
 | [],_,h=>by cases h
 | y::r,x,h=>by
  have key:∀(r:List Int) (y:Int),r.foldl (fun m z=>if decide (z < m)=true then z else m) y<=y/\∀x∈r,r.foldl (fun m z=>if decide (z < m)=true then z else m) y<=x:=by
   intro r
   induction r with
   | nil=>intro y;exact⟨Int.le_refl _,fun x hx=>by cases hx⟩
   | cons z t ih =>
    intro y;rw[List.foldl_cons];obtain⟨a,b⟩:=ih (if decide (z < y)=true then z else y)
    by_cases q:z < y
    ·rw[decide_eq_true q,if_pos rfl] at a b ⊢
     exact⟨by omega,fun x hx=>by
      rcases List.mem_cons.mp hx with rfl | hx
      ·exact a
      ·exact b x hx⟩
    ·rw[decide_eq_false q,if_neg (by simp)] at a b ⊢
     exact⟨a,fun x hx=>by
      rcases List.mem_cons.mp hx with rfl | hx
      ·omega
      ·exact b x hx⟩
  obtain⟨a,b⟩:=key r y;rcases List.mem_cons.mp h with rfl | h
  ·exact a
  ·exact b x h
theorem al9{r t:List Int}(hr:r≠[])(ht:t≠[])(h:∀x,x∈r↔x∈t):minI r=minI t:=by
 have a:=apj ((h _).mp (aed hr));have b:=apj ((h _).mpr (aed ht));omega
theorem aru(L:List Int)(p:Int)(T:Nat):rg L p T≠[]:=fun z=>by have:=abq L p T;rw[z] at this;simp at this
theorem ayq{ns:List Int}(h:ns≠[]):ixm ns < ns.length/\ns[ixm ns]? = some (minI ns):=by
 have hm:=aed h;unfold ixm;cases e:(ns.map D.int).findIdx? fun y=>eqD y (.int (minI ns)) with
 | none =>
  rw[List.findIdx?_eq_none_iff] at e;have:=e (.int (minI ns)) (List.mem_map.mpr ⟨_,hm,rfl⟩);rw[adw] at this;simp at this
 | some i =>
  obtain⟨hi,hp,_⟩:=List.findIdx?_eq_some_iff_getElem.mp e;have hi':i < ns.length:=by simpa using hi
  refine⟨hi',?_⟩;show ns[i]? = _;rw[List.getElem_map,adw] at hp;rw[List.getElem?_eq_getElem hi']
  congr 1
  simpa using hp
theorem ay4{L:List Int}{p:Int}{T:Nat}(e:itr L p (T+1)=p)(hm:∀i,1<=i->i<=T->itr L p i≠p):∃j,j<=T/\Cy L (rotm (rg L p T)) (itr L p j) T:=by
 obtain⟨a,b⟩:=ayq (aru L p T);rw[abq] at a;rw[alx L p a] at b;have b:=Option.some.inj b;obtain⟨c1,c2⟩:=ay3 e hm (j:=ixm (rg L p T)) (by omega)
 refine⟨ixm (rg L p T),by omega,aur e (by omega),c1,c2,?_⟩
 rw[b];refine al9 (fun z =>?_) (aru L p T) fun x=>amb
 have:=als (rg L p T);rw[z,abq] at this;simp at this
theorem Cy.mem{L r:List Int}{μ:Int}{T:Nat}(c:Cy L r μ T){x:Int}:x∈r↔∃m,x=itr L μ m:=by
 rw[c.is];exact avk c.per
theorem Cy.orb{L r:List Int}{μ:Int}{T:Nat}(c:Cy L r μ T){x:Int}(hx:x∈r)(y:Int):y∈r↔∃m,y=itr L x m:=by
 obtain⟨i,rfl⟩:=c.mem.mp hx;constructor
 ·intro hy;obtain⟨j,rfl⟩:=c.mem.mp hy;refine⟨i*T+j,?_⟩;rw[<-cj,show i+(i*T+j)=i*(T+1)+j by rw[Nat.mul_succ];omega,cj,aqj c.per]
 ·rintro⟨m,rfl⟩
  rw[<-cj];exact c.mem.mpr ⟨i+m,rfl⟩
theorem Cy.uniq{L r r':List Int}{μ μ':Int}{T T':Nat}(c:Cy L r μ T)(c':Cy L r' μ' T'){x:Int}(hx:x∈r)(hx':x∈r'):r=r':=by
 have ne:r≠[]:=fun z=>by rw[z] at hx;cases hx
 have ne':r'≠[]:=fun z=>by rw[z] at hx';cases hx'
 have e:μ=μ':=by
  rw[<-c.least,<-c'.least];exact al9 ne ne' fun y=>by rw[c.orb hx,c'.orb hx']
 subst e;have:T=T':=by
  rcases Nat.lt_trichotomy T T' with q | q | q
  ·exact absurd c.per (c'.min (T+1) (by omega) (by omega))
  ·exact q
  ·exact absurd c'.per (c.min (T'+1) (by omega) (by omega))
 subst this;rw[c.is,c'.is]
theorem alv{L:List Int}(w:Ways L){s:Int}(hs:s∈aaa (lp L)):∃μ T,Cy L (xf L s) μ T/\T < L.length/\∃m,μ=itr L s m:=by
 obtain⟨a,b,c⟩:=aa8 w hs;obtain⟨j,hj,cy⟩:=ay4 b c;exact⟨_,_,cy,a,L.length+j,by rw[cj]⟩
section
variable{qv:LL9}(h:Hs qv){as:List Int}(ha:Arr qv as)
include h ha
theorem ak0:ur [.val (hD qv),.val (.tup (as.map D.int))]=some (.ok (.fr ((lasts qv as).map D.int)),[.val (hD qv),.val (.tup (as.map D.int))]):=by
 have hl:=ha.len;have hm:=h.most;have hle:(hDs qv).length<=(as.map D.int).length:=by rw[ab8,List.length_map];omega
 have comp:=yj (b:=bTup 2 (abo (dq 0) (abo (dq 1) bNil))) (mc:=ret true) (me:=aa1) (fun j ys ρ=>∃(o1 o2:Sl),ρ=[o1,o2]/\ys=((List.range j).map fun(i:Nat)=>za qv as (i:Int)).map D.int)
  (l:=aci (hDs qv) (as.map D.int)) (ys:=[]) (ρ:=[.emp,.emp]) 0 ⟨.emp,.emp,rfl,rfl⟩ ?_
 ·obtain⟨ys,ρ',e6,o1,o2,rfl,rfl⟩:=comp;rw[aef hle,ab8,Nat.zero_add] at e6;have hc:((lasts qv as).map D.int).length<=capS:=by rw[List.length_map,ie];exact gq (by omega)
  have hle2:(hDs qv).length<=as.length:=by simpa using hle
  change compD _ _ _ _ _ _=some (.ok ((lasts qv as).map D.int),_) at e6
  generalize (lasts qv as).map D.int=ld at *;simp only[hD];simp[ur,afj,hle2,e6,hc]
 ·rintro j d ys ρ hd ⟨o1,o2,rfl,rfl⟩
  obtain⟨d2,d1,g2,g1,rfl⟩:=ach hd;obtain⟨r,hr,rfl⟩:=ahn g2;rw[List.getElem?_map] at g1;obtain⟨a,ea,rfl⟩:=Option.map_eq_some_iff.mp g1;obtain⟨b0,b1⟩:=ha.ok j a r ea hr;have er:dr qv (j:Int)=r:=by unfold dr;rw[List.getD_eq_getElem?_getD,Int.toNat_natCast,hr];rfl
  have e3:ar as (j:Int)=a:=by unfold ar;rw[List.getD_eq_getElem?_getD,Int.toNat_natCast,ea];rfl
  have q0:=Int.emod_nonneg (a - 1) (b:=(r.length:Int)) (by omega)
  have q1:=Int.emod_lt_of_pos (a - 1) (b:=(r.length:Int)) (by omega)
  have e4:atI (r.map D.int) ((a - 1) % (r.length:Int))=some (.int (r.getD ((a - 1) % (r.length:Int)).toNat 0)):=zq q0 q1;have e7:fMod (a - 1) (r.length:Int)=some ((a - 1) % (r.length:Int)):=by
   unfold fMod;rw[if_pos (by omega)]
  have e5:za qv as ((0+j:Nat):Int)=r.getD ((a - 1) % (r.length:Int)).toNat 0:=by rw[Nat.zero_add];unfold za wd;rw[er,e3]
  refine⟨[.val (.tup (r.map D.int)),.val (.int a)],_,true,by simp,rfl,.inr ⟨rfl,.int (r.getD ((a - 1) % (r.length:Int)).toNat 0),[.val (.tup (r.map D.int)),.val (.int a)],by simp[aa1,e4,e7],_,_,rfl,?_⟩⟩
  rw[agb,List.map_append,e5];rfl
end
theorem aw3{L:List Int}{s:Int}(hp:∀m,0<=itr L s m/\itr L s m < (L.length:Int)):∃T,T < L.length/\itr L s (T+1)∈rg L s T/\∀t,t < T->itr L s (t+1)∉rg L s t:=by
 obtain⟨i,j,hij,hj,e⟩:=pig (fun m=>itr L s m) L.length fun m _=>hp m
 have e:itr L s i=itr L s j:=e;obtain⟨T,hT,hl⟩:=least (P:=fun T=>itr L s (T+1)∈rg L s T) (j - 1) (af7.mpr ⟨i,by omega,by rw[show j - 1+1=j by omega];exact e.symm⟩)
 refine⟨T,?_,hT,hl⟩;rcases Nat.lt_or_ge (j - 1) T with q | q
 ·exact absurd (af7.mpr ⟨i,by omega,by rw[show j - 1+1=j by omega];exact e.symm⟩) (hl (j - 1) q)
 ·omega
open Classical in
noncomputable def lawR(L:List Int)(s:Int):Option (List Int):=if q:∃T,T < L.length/\itr L s (T+1)∈rg L s T/\∀t,t < T->itr L s (t+1)∉rg L s t then (if itr L s (q.choose+1)=s/\minI (rg L s q.choose)=s then some (rg L s q.choose) else none) else none
theorem ak1{L:List Int}{s:Int}{T:Nat}(h1:T < L.length)(h2:itr L s (T+1)∈rg L s T)(h3:∀t,t < T->itr L s (t+1)∉rg L s t):lawR L s=if itr L s (T+1)=s/\minI (rg L s T)=s then some (rg L s T) else none:=by
 have q:∃T,T < L.length/\itr L s (T+1)∈rg L s T/\∀t,t < T->itr L s (t+1)∉rg L s t:=⟨T,h1,h2,h3⟩
 have e:q.choose=T:=by
  obtain⟨_,c2,c3⟩:=q.choose_spec;rcases Nat.lt_trichotomy q.choose T with z | z | z
  ·exact absurd c2 (h3 _ z)
  ·exact z
  ·exact absurd h2 (c3 _ z)
 unfold lawR;rw[dif_pos q,e]
theorem ado{L:List Int}{s:Int}{r:List Int}(hp:∀m,0<=itr L s m/\itr L s m < (L.length:Int))(h:lawR L s=some r):∃T,Cy L r s T/\T < L.length:=by
 obtain⟨T,h1,h2,h3⟩:=aw3 hp;rw[ak1 h1 h2 h3] at h;split at h
 ·rename_i q;cases h;refine⟨T,⟨rfl,q.1,fun i i1 i2 z =>?_,q.2⟩,h1⟩
  have:=h3 (i - 1) (by omega)
  rw[show i - 1+1=i by omega] at this
  exact this (af7.mpr ⟨0,by omega,z⟩)
 ·cases h
theorem av6{L:List Int}{μ:Int}{r:List Int}{T:Nat}(c:Cy L r μ T)(hT:T < L.length):lawR L μ=some r:=by
 rw[ak1 (T:=T) hT (af7.mpr ⟨0,by omega,c.per⟩) fun t ht z =>?_]
 ·have:=c.least;rw[c.is] at this;rw[if_pos ⟨c.per,this⟩,c.is]
 ·obtain⟨i,hi,e⟩:=af7.mp z;have:itr L μ (t+1 - i)=μ:=by
   have a:itr L (itr L μ (t+1)) (T+1 - i)=itr L (itr L μ i) (T+1 - i):=by rw[e]
   rw[<-cj,<-cj,show t+1+(T+1 - i)=(T+1)+(t+1 - i) by omega,show i+(T+1 - i)=T+1 by omega,cj,c.per] at a
   exact a
  exact c.min (t+1 - i) (by omega) (by omega) this
section
variable{L:List Int}(w:Ways L){C:List Int}(hC:∀x∈C,x∈aaa (lp L))(hn:C.Nodup)(cl:∀x∈C,nxt L x∈C)
include w hC hn cl
theorem agg:(C.filterMap (lawR L)).Perm (C.foldl (addR L) []):=by
 have ic:∀x∈C,∀m,itr L x m∈C:=fun x hx m=>by
  induction m with
  | zero=>exact hx
  | succ m ih=>rw[ahl];exact cl _ ih
 have hp:∀x∈C,∀m,0<=itr L x m/\itr L x m < (L.length:Int):=fun x hx m=>ae5 w (hC x hx) m
 have nd:(C.filterMap (lawR L)).Nodup:=by
  clear ic
  induction C with
  | nil=>simp
  | cons s C ih =>
   have hn':=List.nodup_cons.mp hn;have ih':(C.filterMap (lawR L)).Nodup:=by
    have:∀(C:List Int),C.Nodup->(∀x∈C,∀m,0<=itr L x m/\itr L x m < (L.length:Int))->(C.filterMap (lawR L)).Nodup:=by
     intro C
     induction C with
     | nil=>intro _ _;simp
     | cons s C ih =>
      intro hn hp;have hn':=List.nodup_cons.mp hn;have i1:=ih hn'.2 fun x hx=>hp x (List.mem_cons_of_mem _ hx)
      rw[List.filterMap_cons];cases e:lawR L s with
      | none=>exact i1
      | some r =>
       refine List.nodup_cons.mpr ⟨fun z =>?_,i1⟩
       obtain⟨s',hs',e'⟩:=List.mem_filterMap.mp z;obtain⟨T,c,_⟩:=ado (hp s (List.mem_cons_self ..)) e;obtain⟨T',c',_⟩:=ado (hp s' (List.mem_cons_of_mem _ hs')) e';have:s=s':=c.least.symm.trans c'.least;exact hn'.1 (this▸hs')
    exact this C hn'.2 fun x hx=>hp x (List.mem_cons_of_mem _ hx)
   rw[List.filterMap_cons];cases e:lawR L s with
   | none=>exact ih'
   | some r =>
    refine List.nodup_cons.mpr ⟨fun z =>?_,ih'⟩
    obtain⟨s',hs',e'⟩:=List.mem_filterMap.mp z;obtain⟨T,c,_⟩:=ado (hp s (List.mem_cons_self ..)) e;obtain⟨T',c',_⟩:=ado (hp s' (List.mem_cons_of_mem _ hs')) e';have:s=s':=c.least.symm.trans c'.least;exact hn'.1 (this▸hs')
 rw[List.perm_ext_iff_of_nodup nd (ul L C List.nodup_nil)];intro r;rw[abi,List.mem_filterMap];constructor
 ·rintro⟨s,hs,e⟩
  refine .inr ⟨s,hs,?_⟩;obtain⟨T,c,_⟩:=ado (hp s hs) e;obtain⟨μ,T',c',_,m,rfl⟩:=alv w (hC s hs);exact c.uniq c' (x:=itr L s m) (c.mem.mpr ⟨m,rfl⟩) (c'.mem.mpr ⟨0,rfl⟩)
 ·rintro(z | ⟨s,hs,rfl⟩)
  ·cases z
  ·obtain⟨μ,T',c',hT,m,rfl⟩:=alv w (hC s hs);exact⟨itr L s m,ic s hs m,av6 c' hT⟩
theorem an7:ad9 (C.filterMap (lawR L))=jw L C:=by
 have p:=agg w hC hn cl;have n2:=ul L C (rs:=[]) List.nodup_nil;have n1:(C.filterMap (lawR L)).Nodup:=p.nodup_iff.mpr n2;exact akv ((my _).trans (p.trans (my _).symm)) (u9 n1) (u9 n2)
end
section
variable{qv:LL9}(h:Hs qv)(sh:Sh qv){as:List Int}(ha:Arr qv as){C:List Int}(hr:∀x∈C,0<=x/\x < (qv.length:Int))(hn:C.Nodup)(cl:∀x∈C,nxt (lasts qv as) x∈C)(hz:C.length<=10)
include h sh ha hr
omit hr in
theorem ahj(hh A CC:Sl)(F:LL9)(hF:F.length<=10){s:Int}(s0:0<=s)(s1:s < (qv.length:Int))(o6:Sl):∃q6,l1__law_rings [hh,A,CC,.own none ((lasts qv as).map D.int),.own none (F.map rowT),.val (.int s),o6]=some (.nx,[hh,A,CC,.own none ((lasts qv as).map D.int),.own none ((F++(lawR (lasts qv as) s).toList).map rowT),.val (.int s),q6]):=by
 have w:=xj h ha;have hp:∀m,0<=itr (lasts qv as) s m/\itr (lasts qv as) s m < ((lasts qv as).length:Int):=fun m=>ae5 w (ah1 h sh ha s0 s1) m
 have hm:=w.most;generalize lasts qv as=L at *;obtain⟨T,h1,h2,h3⟩:=aw3 hp;have e4:=ak1 h1 h2 h3;have at2:∀m,atI (L.map D.int) (itr L s m)=some (.int (itr L s (m+1))):=fun m=>by
  rw[ami L s m (hp m).1];exact zq (hp m).1 (hp m).2
 have loop:=ue (c:=tu) (g:=yo)
  (fun n ρ=>∃t:Nat,t<=T/\n=T - t/\ρ=[hh,A,CC,.own none (L.map D.int),.own none (F.map rowT),.val (.int s),.own none ((rg L s t).map D.int)])
  (fun ρ=>ρ=[hh,A,CC,.own none (L.map D.int),.own none (F.map rowT),.val (.int s),.own none ((rg L s T).map D.int)])
  ?_ fuel T [hh,A,CC,.own none (L.map D.int),.own none (F.map rowT),.val (.int s),.own none [.int s]] (Nat.lt_trans (show T < 100000 by omega) abh) ⟨0,by omega,rfl,rfl⟩
 ·obtain⟨ρ',e,rfl⟩:=loop;obtain⟨l,el⟩:=ag4 L s T;have e1:atI ((rg L s T).map D.int) (-1)=some (.int (itr L s T)):=by rw[el];exact ak2 l _
  have e2:=at2 T;have e3:=amt (aru L s T);have hcap:(F.map rowT).length < capS:=by rw[List.length_map];unfold capS;omega
  refine⟨.own none ((rg L s T).map D.int),?_⟩;rw[e4]
  by_cases q1:itr L s (T+1)=s
  ·by_cases q2:minI (rg L s T)=s
   ·rw[if_pos ⟨q1,q2⟩];rw[Option.toList_some,List.map_append];have e7:List.map rowT [rg L s T]=[.tup ((rg L s T).map D.int)]:=rfl;rw[e7];generalize minI (rg L s T)=mm at *;generalize itr L s (T+1)=y1 at *;generalize itr L s T=y0 at *;generalize (rg L s T).map D.int=RR at *;generalize L.map D.int=LL at *;generalize F.map rowT=FF at *;simp[l1__law_rings,e,e1,e2,e3,q1,q2,hcap]
   ·rw[if_neg (fun z=>q2 z.2)]
    rw[Option.toList_none,List.append_nil];generalize minI (rg L s T)=mm at *;generalize itr L s (T+1)=y1 at *;generalize itr L s T=y0 at *;generalize (rg L s T).map D.int=RR at *;generalize L.map D.int=LL at *;generalize F.map rowT=FF at *;simp[l1__law_rings,e,e1,e2,e3,q1,q2]
  ·rw[if_neg (fun z=>q1 z.1)]
   rw[Option.toList_none,List.append_nil];generalize itr L s (T+1)=y1 at *;generalize itr L s T=y0 at *;generalize (rg L s T).map D.int=RR at *;generalize L.map D.int=LL at *;generalize F.map rowT=FF at *;simp[l1__law_rings,e,e1,e2,q1]
 ·rintro n ρ ⟨t,t2,rfl,rfl⟩
  obtain⟨l,el⟩:=ag4 L s t;have e1:atI ((rg L s t).map D.int) (-1)=some (.int (itr L s t)):=by rw[el];exact ak2 l _
  have e2:=at2 t;have e3:=adq true (itr L s (t+1)) (rg L s t);have p0:=(hp (t+1)).1;rcases Nat.lt_or_ge t T with q | q
  ·have hne:=h3 t q;rw[decide_eq_false hne] at e3;have hcap:((rg L s t).map D.int).length < capS:=by rw[List.length_map,abq];unfold capS;omega
   refine .inr ⟨[hh,A,CC,.own none (L.map D.int),.own none (F.map rowT),.val (.int s),.own none ((rg L s t).map D.int)],[hh,A,CC,.own none (L.map D.int),.own none (F.map rowT),.val (.int s),.own none ((rg L s (t+1)).map D.int)],T - (t+1),?_,?_,by omega,t+1,by omega,rfl,rfl⟩
   ·generalize (rg L s t).map D.int=RR at *;generalize L.map D.int=LL at *;generalize itr L s (t+1)=y at *;generalize F.map rowT=FF at *;simp[tu,e1,e2,e3,p0]
   ·rw[akg,List.map_append];generalize (rg L s t).map D.int=RR at *;generalize L.map D.int=LL at *;generalize F.map rowT=FF at *;simp[yo,e1,e2,hcap]
  ·have:t=T:=by omega
   subst this;rw[decide_eq_true h2] at e3;refine .inl ⟨[hh,A,CC,.own none (L.map D.int),.own none (F.map rowT),.val (.int s),.own none ((rg L s t).map D.int)],?_,rfl⟩;generalize (rg L s t).map D.int=RR at *;generalize L.map D.int=LL at *;generalize itr L s (t+1)=y at *;generalize F.map rowT=FF at *;simp[tu,e1,e2,e3]
include hn cl hz
theorem ai9:qx [.val (hD qv),.val (.tup (as.map D.int)),.val (.lst (C.map D.int))]=some (.ok (.fr ((jw (lasts qv as) C).map rowT)),[.val (hD qv),.val (.tup (as.map D.int)),.val (.lst (C.map D.int))]):=by
 have w:=xj h ha;have hC:∀x∈C,x∈aaa (lp (lasts qv as)):=fun x hx=>ah1 h sh ha (hr x hx).1 (hr x hx).2
 have loop:∀(xs:List Int) (F:LL9) (o5 o6:Sl),(∀x∈xs,0<=x/\x < (qv.length:Int))->F.length+xs.length<=10->∃q5 q6,forD (dq 5) l1__law_rings (xs.map D.int) [.val (hD qv),.val (.tup (as.map D.int)),.val (.lst (C.map D.int)),.own none ((lasts qv as).map D.int),.own none (F.map rowT),o5,o6]=some (.nx,[.val (hD qv),.val (.tup (as.map D.int)),.val (.lst (C.map D.int)),.own none ((lasts qv as).map D.int),.own none ((F++xs.filterMap (lawR (lasts qv as))).map rowT),q5,q6]):=by
  intro xs
  induction xs with
  | nil=>intro F o5 o6 _ _;exact⟨o5,o6,by rw[List.filterMap_nil,List.append_nil];rfl⟩
  | cons x xs ih =>
   intro F o5 o6 hx hl;obtain⟨x0,x1⟩:=hx x (List.mem_cons_self ..);rw[List.length_cons] at hl;obtain⟨p6,e1⟩:=ahj h sh ha (.val (hD qv)) (.val (.tup (as.map D.int))) (.val (.lst (C.map D.int))) F (by omega) x0 x1 o6
   have hz2:(lawR (lasts qv as) x).toList.length<=1:=by cases lawR (lasts qv as) x <;> simp
   obtain⟨q5,q6,e2⟩:=ih (F++(lawR (lasts qv as) x).toList) (.val (.int x)) p6 (fun y hy=>hx y (List.mem_cons_of_mem _ hy)) (by rw[List.length_append];omega)
   refine⟨q5,q6,?_⟩;rw[List.map_cons,j6];simp only[abl,List.set_cons_succ,List.set_cons_zero];rw[e1];have:F++List.filterMap (lawR (lasts qv as)) (x::xs)=F++(lawR (lasts qv as) x).toList++List.filterMap (lawR (lasts qv as)) xs:=by
    rw[List.filterMap_cons,List.append_assoc];cases lawR (lasts qv as) x <;> rfl
   rw[this];exact e2
 obtain⟨q5,q6,e⟩:=loop C [] .emp .emp hr (by simpa using hz)
 rw[List.nil_append] at e;have n1:(C.filterMap (lawR (lasts qv as))).Nodup:=(agg w hC hn cl).nodup_iff.mpr (ul _ C List.nodup_nil);have es:=ac4 (rows:=C.filterMap (lawR (lasts qv as))) (by have:=List.length_filterMap_le (lawR (lasts qv as)) C;omega) (fun r hr'=>by
  obtain⟨s,hs,e'⟩:=List.mem_filterMap.mp hr';obtain⟨T,c,_⟩:=ado (fun m=>ae5 w (hC s hs) m) e'
  rw[c.is];exact aru _ _ _) n1
 rw[an7 w hC hn cl] at es;have el:=ak0 h ha;have e:forD (dq 5) l1__law_rings (C.map D.int) [.val (hD qv),.val (.tup (as.map D.int)),.val (.lst (C.map D.int)),.own none ((lasts qv as).map D.int),.own none [],.emp,.emp]=some (.nx,[.val (hD qv),.val (.tup (as.map D.int)),.val (.lst (C.map D.int)),.own none ((lasts qv as).map D.int),.own none ((C.filterMap (lawR (lasts qv as))).map rowT),q5,q6]):=e;generalize (jw (lasts qv as) C).map rowT=SS at *;generalize (C.filterMap (lawR (lasts qv as))).map rowT=FF at *;generalize (lasts qv as).map D.int=LL at *;generalize C.map D.int=CC at *;generalize as.map D.int=AA at *;generalize hD qv=hh at *;simp[qx,ad5,el,e,es]
end
theorem amu{d:D}(hd:okD 30 d=true)(neg:Bool):gEq neg d d=some (.v (.bl (!neg))):=by
 have e:eqD d d=true:=PySem.SeqAt.eqv_refl _ (zu _ _ hd).1;unfold gEq;rw[hd,e];cases neg <;> rfl
section
variable{qv:LL9}(h:Hs qv)(sh:Sh qv)
include h sh
theorem aoq{a:Int}(ha:0<=a/\a < (qv.length:Int)){ns:List Int}(hn:ns.Nodup)(hm:∀x,x∈ns↔Rch qv a x):sortI ns=gj qv a:=by
 obtain⟨_,C⟩:=qe h ha;have hd:(gj qv a).Nodup:=C.lt.imp fun q=>by omega
 have hp:(gj qv a).Perm ns:=by
  rw[List.perm_ext_iff_of_nodup hd hn];intro x;rw[hm,qj h ha sh]
 exact(aeb hp (C.lt.imp fun q=>by omega)).symm
variable{as:List Int}(ha:Arr qv as){k:Int}(hk:0<=k/\k < (qv.length:Int))
include ha hk
omit ha hk in
theorem aln(A R:Sl):∀(xs:List Int) (o4 o5:Sl),(∀x∈xs,0<=x/\x < (qv.length:Int))->∃q4,forD (dq 4) ou (xs.map D.int) [.val (hD qv),A,.val (.int k),R,o4,o5]=some (match xs.find? fun x => !decide (k∈gj qv x) with | some x=>.ret (.v (.tup [.str "gone", .int x])) | none=>.nx,[.val (hD qv),A,.val (.int k),R,q4,o5])
 | [],o4,o5,_=>⟨o4,rfl⟩
 | x::xs,o4,o5,hx=>by
  have hr:=hx x (List.mem_cons_self ..);obtain⟨ns,e1,_,_,hn,hm⟩:=ad2 h (S:=.val (hD qv)) (.inl rfl) hr;have e2:=adq true k ns;have e3:decide (k∈ns)=decide (k∈gj qv x):=by
   have:k∈ns↔k∈gj qv x:=by rw[hm,qj h hr sh]
   by_cases q:k∈ns
   ·rw[decide_eq_true q,decide_eq_true (this.mp q)]
   ·rw[decide_eq_false q,decide_eq_false fun z=>q (this.mpr z)]
  rw[e3] at e2;obtain⟨q4,e4⟩:=aln A R xs (.val (.int x)) o5 fun y hy=>hx y (List.mem_cons_of_mem _ hy)
  rw[List.map_cons,j6];simp only[abl,List.set_cons_succ,List.set_cons_zero]
  by_cases z:k∈gj qv x
  ·rw[decide_eq_true z] at e2;have es:ou [.val (hD qv),A,.val (.int k),R,.val (.int x),o5]=some (.nx,[.val (hD qv),A,.val (.int k),R,.val (.int x),o5]):=by
    generalize ns.map D.int=NN at *;generalize hD qv=hh at *;simp[ou,e1,e2]
   rw[es,List.find?_cons,decide_eq_true z];exact⟨q4,e4⟩
  ·rw[decide_eq_false z] at e2;have es:ou [.val (hD qv),A,.val (.int k),R,.val (.int x),o5]=some (.ret (.v (.tup [.str "gone", .int x])),[.val (hD qv),A,.val (.int k),R,.val (.int x),o5]):=by
    generalize ns.map D.int=NN at *;generalize hD qv=hh at *;simp[ou,e1,e2]
   rw[es,List.find?_cons,decide_eq_false z];exact⟨_,rfl⟩
theorem anz:pq [.val (hD qv),.val (.tup (as.map D.int)),.val (.int k)]=some (.ok (.v (whyD qv as k)),[.val (hD qv),.val (.tup (as.map D.int)),.val (.int k)]):=by
 obtain⟨ns,e1,_,hl,hn,hm⟩:=ad2 h (S:=.val (hD qv)) (.inl rfl) hk;obtain⟨_,C⟩:=qe h hk;have e2:=ad6 (ns:=ns) (by omega)
 rw[aoq h sh hk hn hm] at e2;have e2':vg (.lst (ns.map D.int))=some (.fr ((gj qv k).map D.int)):=e2;obtain⟨q4,e3⟩:=aln h sh (k:=k) (.val (.tup (as.map D.int))) (.val (.lst ((gj qv k).map D.int))) (gj qv k) .emp .emp (qd h hk);have hf:(gj qv k).find? (fun x => !decide (k∈gj qv x))=(afb qv k).head? := List.head?_filter.symm
 rw[hf] at e3;have nd:(gj qv k).Nodup:=C.lt.imp fun q=>by omega
 have e4:=ai9 h sh ha (qd h hk) nd (ald h sh ha hk) C.len;unfold whyD;cases hg:afb qv k with
 | cons x r =>
  rw[hg] at e3;dsimp only[List.head?_cons] at e3 ⊢
  generalize (gj qv k).map D.int=CC at *;generalize ns.map D.int=NN at *;generalize as.map D.int=AA at *;generalize hD qv=hh at *;simp[pq,abf,e1,e2',e3]
 | nil =>
  rw[hg] at e3;dsimp only[List.head?_nil] at e3 ⊢
  have ef:compD (dq 0) uv acf ((jw (lasts qv as) (gj qv k)).map rowT) [] [.emp,.val (.int k)]=some (.ok (((jw (lasts qv as) (gj qv k)).filter fun r => !decide (k∈r)).map rowT),ac0 .emp ((jw (lasts qv as) (gj qv k)).map rowT)::[.val (.int k)]):=by
   rw[kj (p:=fun d=>match d with | .tup l => !decide (k∈(jo l).getD []) | _=>false) (f:=fun d=>d)]
   ·rw[List.nil_append,List.map_id',List.filter_map]
    congr 4
    apply List.filter_congr;intro r _;show(!decide (k∈(jo (r.map D.int)).getD []))=_;rw[qt];rfl
   ·intro d hd;obtain⟨r,hr,rfl⟩:=List.mem_map.mp hd;have e5:gIn true (.int k) (.tup (r.map D.int))=some (.v (.bl (!decide (k∈r)))):=ak9 true k r;show uv [.val (.tup (r.map D.int)),.val (.int k)]=some (.ok (!decide (k∈(jo (r.map D.int)).getD [])),[.val (.tup (r.map D.int)),.val (.int k)]);rw[qt];show uv [.val (.tup (r.map D.int)),.val (.int k)]=some (.ok (!decide (k∈r)),[.val (.tup (r.map D.int)),.val (.int k)]);generalize (!decide (k∈r))=bb at *;generalize r.map D.int=rr at *;simp[uv,e5]
   ·intro d hd _;obtain⟨r,hr,rfl⟩:=List.mem_map.mp hd;generalize rowT r=rr;simp[acf]
  have hc:(((jw (lasts qv as) (gj qv k)).filter fun r => !decide (k∈r)).map rowT).length<=capS:=by
   rw[List.length_map];have z1:=List.length_filter_le (fun r => !decide (k∈r)) (jw (lasts qv as) (gj qv k))
   have z2:(jw (lasts qv as) (gj qv k)).length<=10:=by
    unfold jw;rw[(my _).length_eq];have:=acd (lasts qv as) (gj qv k) [];have:=C.len;simp at *;omega
   exact gq (by omega)
  have ho:outR qv as k=((jw (lasts qv as) (gj qv k)).filter fun r => !decide (k∈r)).head? := List.head?_filter.symm
  rw[ho];generalize ((jw (lasts qv as) (gj qv k)).filter fun r => !decide (k∈r))=RF at *
  generalize (jw (lasts qv as) (gj qv k)).map rowT=RR at *;generalize (gj qv k).map D.int=CC at *;generalize ns.map D.int=NN at *;generalize as.map D.int=AA at *;generalize hD qv=hh at *;cases RF with
  | nil =>
   have e6:gEq true (.lst []) (.lst [])=some (.v (.bl false)):=by kernel_rfl
   dsimp only[List.head?_nil,List.map_nil] at ef hc ⊢
   simp[pq,abf,e1,e2',e3,e4,ef,e6]
  | cons r RF =>
   have e6:gEq true (.lst ((r::RF).map rowT)) (.lst [])=some (.v (.bl true)):=by
    have h1:okD 30 (.lst ((r::RF).map rowT))=true:=by
     show((r::RF).map rowT).all (okD 29)=true;rw[List.all_map,List.all_eq_true];exact fun x _=>ash 28 x
    have h2:eqD (.lst ((r::RF).map rowT)) (.lst [])=false:=rfl;have h3:okD 30 (.lst [])=true:=rfl;simp only[gEq,h1,h2,h3,Bool.and_self,if_true];rfl
   have e7:atI ((r::RF).map rowT) 0=some (rowT r):=by simp[atI,ixN]
   dsimp only[List.head?_cons];generalize rowT r=rr at *;generalize (r::RF).map rowT=R2 at *;simp[pq,abf,e1,e2',e3,e4,ef,hc,e6,e7]
omit sh ha hk h in
theorem aog(qv:LL9)(as:List Int)(k:Int):whyD qv as k=.non∨(∃x,whyD qv as k=.tup [.str "gone", .int x])∨∃r,whyD qv as k=.tup [.str "ring", rowT r]:=by
 unfold whyD;split
 ·exact .inr (.inl ⟨_,rfl⟩)
 ·split
  ·exact .inr (.inr ⟨_,rfl⟩)
  ·exact .inl rfl
theorem am6:aav [.val (hD qv),.val (.tup (as.map D.int)),.val (.int k)]=some (.ok (.v (whyD qv as k)),[.val (hD qv),.val (.tup (as.map D.int)),.val (.int k)]):=by
 have e1:=agx h sh ha hk.1 hk.2;have e2:=aoh h sh ha hk;generalize whyD qv as k=ww at *;generalize hD qv=hh at *;simp[aav,ajg,e1,e2]
omit sh ha hk h in
theorem a1y:gEq false (.str "gone") (.str "gone")=some (.v (.bl true)):=by kernel_rfl
omit sh ha hk h in
theorem a1x:gEq false (.str "ring") (.str "gone")=some (.v (.bl false)):=by kernel_rfl
omit sh ha hk h in
theorem an2(x:Int):jt [.val (.tup [.str "gone", .int x])]=some (.ok (.v (.bl true)),[.val (.tup [.str "gone", .int x])]):=by
 have a0:atI [D.str "gone", .int x] 0=some (.str "gone"):=rfl;have a1:atI [D.str "gone", .int x] 1=some (.int x):=rfl;simp[jt,aau,a0,a1,a1y,isTy,aeh]
omit sh ha hk h in
theorem an1(r:List Int)(hr:r.length<=100):jt [.val (.tup [.str "ring", rowT r])]=some (.ok (.v (.bl true)),[.val (.tup [.str "ring", rowT r])]):=by
 have e0:rowT r=.tup (r.map D.int):=rfl;rw[e0];have ec:compD (dq 0) (ret true) zj (r.map D.int) [] [.emp]=some (.ok (r.map fun _=>.bl true),ac0 .emp (r.map D.int)::[]):=by
  rw[afm (f:=fun _=>.bl true)]
  ·rw[List.nil_append,List.map_map];rfl
  ·intro d hd;obtain⟨i,_,rfl⟩:=List.mem_map.mp hd;simp[zj,aeh]
 have hc:(r.map fun _=>D.bl true).length<=capS:=by rw[List.length_map];exact gq (by omega)
 have ea:gAll (.lst (r.map fun _=>D.bl true))=some (.v (.bl true)):=by
  rw[show(r.map fun _=>D.bl true)=(r.map fun _=>true).map D.bl by rw[List.map_map];rfl]
  have:vm ((r.map fun _=>true).map D.bl)=some (r.map fun _=>true):=ady _
  show(vm ((r.map fun _=>true).map D.bl)).map _=_
  rw[this];simp
 generalize (r.map fun _=>D.bl true)=BB at *
 generalize r.map D.int=rr at *;have a0:atI [D.str "ring", .tup rr] 0=some (.str "ring"):=rfl;have a1:atI [D.str "ring", .tup rr] 1=some (.tup rr):=rfl;simp[jt,aau,a0,a1,a1x,isTy,ec,hc,ea]
end
section
variable{qv:LL9}(h:Hs qv)(sh:Sh qv){as:List Int}(ha:Arr qv as){k:Int}(hk:0<=k/\k < (qv.length:Int))
include h sh ha hk
theorem au8{r:List Int}(e:whyD qv as k=.tup [.str "ring", rowT r]):r.length<=100:=by
 unfold whyD at e;split at e
 ·simp at e;exact nomatch (show D.int _=D.tup (r.map D.int) from e.2)
 ·cases ho:outR qv as k with
  | none=>rw[ho] at e;cases e
  | some r' =>
   rw[ho] at e;have e:=D.tup.inj e;simp only[List.cons.injEq,and_true,true_and] at e;have h2:=List.mem_of_find?_eq_some ho;obtain⟨x,hx,rfl⟩:=ae1.mp h2;have:=art (xj h ha) (ac7 h sh ha hk x hx);have e2:(rowT (xf (lasts qv as) x))=rowT r:=e;have e3:=D.tup.inj e2;have:=congrArg List.length e3;rw[List.length_map,List.length_map] at this;omega
theorem aol(t:D)(o5:Sl):lq [.val (hD qv),.val (.tup (as.map D.int)),.val (.int k),.val (whyD qv as k),.val t,o5]=some (.nx,[.val (hD qv),.val (.tup (as.map D.int)),.val (.int k),.val (whyD qv as k),.val t,.val (whyD qv as k)]):=by
 have e1:=am6 h sh ha hk;rcases aog qv as k with e | ⟨x,e⟩ | ⟨r,e⟩
 ·rw[e] at e1 ⊢
  generalize as.map D.int=AA at *;generalize hD qv=hh at *;simp[lq,e1,isN]
 ·have e2:=amu (d:=.tup [.str "gone", .int x]) (by
   show(okD 29 (.str "gone")&&(okD 29 (.int x)&&true))=true;rw[show okD 29 (.str "gone")=true by kernel_rfl]
   rfl) true
  have e3:=an2 x;rw[e] at e1 ⊢
  generalize as.map D.int=AA at *;generalize hD qv=hh at *;generalize hw:D.tup [.str "gone", .int x]=ww at *;have hn:isN ww=false:=by rw[<-hw];rfl
  simp[lq,e1,hn,e2,e3]
 ·have e2:=amu (d:=.tup [.str "ring", rowT r]) (by
   show(okD 29 (.str "ring")&&(okD 29 (rowT r)&&true))=true;rw[show okD 29 (rowT r)=true from ash 28 r,show okD 29 (.str "ring")=true by kernel_rfl]
   rfl) true
  have e3:=an1 r (au8 h sh ha hk e);rw[e] at e1 ⊢
  generalize as.map D.int=AA at *;generalize hD qv=hh at *;generalize hw:D.tup [.str "ring", rowT r]=ww at *;have hn:isN ww=false:=by rw[<-hw];rfl
  simp[lq,e1,hn,e2,e3]
theorem alw:ik [.val (hD qv),.val (.tup (as.map D.int)),.val (.int k)]=some (.ok (.v (.bl true)),[.val (hD qv),.val (.tup (as.map D.int)),.val (.int k)]):=by
 have e1:=anz h sh ha hk;have t0:=aol h sh ha hk (.int 0) .emp;have t1:=aol h sh ha hk (.int 1) (.val (whyD qv as k));have e8:j9 0 2=[.int 0,.int 1]:=rfl;have hl:=ab8 qv
 by_cases h5:qv.length<=5
 ·obtain⟨a,m,hm,hz,hd,e,er⟩:=ai8 h sh ha hk.1 hk.2 h5;have hb:isN (whyD qv as k)=decide ((a:Int)=0):=by
   by_cases q:a=0
   ·rw[decide_eq_true (by omega)]
    exact(at3 h sh ha hk.1 hk.2).mpr (avo hm e h sh ha hk.1 hk.2 (t:=0) (by omega))
   ·rw[decide_eq_false (by omega)]
    cases z:isN (whyD qv as k) with
    | false=>rfl
    | true=>exact absurd ((at3 h sh ha hk.1 hk.2).mp z) (aqg hm e h sh ha hk.1 hk.2 hd (t:=0) (by omega))
  have e4:atI [D.int (a:Int),.int (m:Int),.lst (stD qv as k (a+m))] 0=some (.int (a:Int)):=by simp[atI,ixN]
  have e5:((qv.length:Nat):Int) < 6:=by omega
  generalize stD qv as k (a+m)=SS at *;generalize (run qv as k (a+m)).1.map D.int=RR at *;generalize whyD qv as k=ww at *;generalize as.map D.int=AA at *;simp only[hD] at *;generalize hDs qv=hh at *;generalize (a:Int)=x at *;have e6:gEq true (.bl (isN ww)) (.bl (x==0))=some (.v (.bl false)):=by
   rw[hb]
   by_cases q:x=0
   ·subst q;kernel_rfl
   ·rw[decide_eq_false q,show(x==0)=false by simpa using q]
    kernel_rfl
  simp[ik,aat,e1,hl,e5,er,e4,e6,e8,j6,t0,t1]
 ·have e5:¬((qv.length:Nat):Int) < 6:=by omega
  generalize whyD qv as k=ww at *;generalize as.map D.int=AA at *;simp only[hD] at *;generalize hDs qv=hh at *;simp[ik,aat,e1,hl,e5,e8,j6,t0,t1]
end
theorem ayg(S C P:Sl){qv:LL9}(h:Hs qv)(sh:Sh qv){as:List Int}(ha:Arr qv as):∀(ks:List Int) (o5:Sl),(∀k∈ks,0<=k/\k < (qv.length:Int)) ->
  ∃q5,forD (dq 5) amg (ks.map D.int) [S,C,P,.val (hD qv),.val (.tup (as.map D.int)),o5]=some (.nx,[S,C,P,.val (hD qv),.val (.tup (as.map D.int)),q5])
 | [],o5,_=>⟨_,rfl⟩
 | k::ks,o5,hk=>by
  have e:=alw h sh ha (hk k (List.mem_cons_self ..));obtain⟨q5,e2⟩:=ayg S C P h sh ha ks (.val (.int k)) fun x hx=>hk x (List.mem_cons_of_mem _ hx)
  have e1:amg [S,C,P,.val (hD qv),.val (.tup (as.map D.int)),.val (.int k)]=some (.nx,[S,C,P,.val (hD qv),.val (.tup (as.map D.int)),.val (.int k)]):=by
   generalize as.map D.int=AA at *;generalize hD qv=hh at *;simp[amg,e]
  refine⟨q5,?_⟩;rw[List.map_cons,j6];simp only[abl,List.set_cons_succ,List.set_cons_zero];rw[e1];exact e2
theorem a1f(S:D)(n:Int)(a2 a3 a4 a5:Sl):∃b2 b3 b4 b5,l2_law [.val S,.val (.int n),a2,a3,a4,a5]=some (.nx,[.val S,.val (.int n),b2,b3,b4,b5]):=by
 obtain⟨P,e0⟩:=ar3 n;obtain⟨r,P1,e1,r0,r1⟩:=yh P 3 (by decide) (by decide)
 have ei:∃m:Int,atI [D.int 3,.int 5,.int 7] r=some (.int m)/\1<=m/\m<=7:=by
  have:r=0∨r=1∨r=2:=by omega
  rcases this with rfl | rfl | rfl
  ·exact⟨3,rfl,by decide,by decide⟩
  ·exact⟨5,rfl,by decide,by decide⟩
  ·exact⟨7,rfl,by decide,by decide⟩
 obtain⟨m,em,m1,m2⟩:=ei;obtain⟨qv,P2,e2,hk⟩:=aou P1 m 3 m1 (by omega) (by decide) (by decide)
 have h:Hs qv:=hk.hs (by omega) (by decide)
 obtain⟨as,P3,e3,ha⟩:=ali P2 h;obtain⟨q5,e4⟩:=ayg (.val S) (.val (.int n)) (.own none (pen P3)) h hk.sh ha (upto qv.length) a5 fun x hx=>ahh hx
 rw[<-aki] at e4;obtain⟨L,hL,eL⟩:=ayi h;refine⟨.own none (pen P3),.val (hD qv),.val (.tup (as.map D.int)),q5,?_⟩;generalize as.map D.int=la at *;generalize j9 0 qv.length=RR at *;simp only[hD] at *;generalize hDs qv=hh at *;simp[l2_law,e0,e1,em,e2,e3,hL,eL,e4]
theorem loop2(S:D):∀(ns:List Int) (q a2 a3 a4 a5:Sl),∃ρ,forD (dq 1) l2_law (ns.map D.int) [.val S,q,a2,a3,a4,a5]=some (.nx,.val S::ρ)
 | [],q,a2,a3,a4,a5=>⟨_,rfl⟩
 | n::r,q,a2,a3,a4,a5=>by
  obtain⟨b2,b3,b4,b5,z⟩:=a1f S n a2 a3 a4 a5;obtain⟨ρ,z2⟩:=loop2 S r (.val (.int n)) b2 b3 b4 b5;exact⟨ρ,by rw[List.map_cons,j6];simp[z,z2]⟩
theorem right_of{d e:D}{k:Int}(qv:LL9)(as:List Int)(e1:hD qv=d)(e2:D.tup (as.map D.int)=e)(h:Hs qv)(sh:Sh qv)(ha:Arr qv as)(hk:0<=k/\k < (qv.length:Int)):ik [.val d,.val e,.val (.int k)]=some (.ok (.v (.bl true)),[.val d,.val e,.val (.int k)]):=by
 subst e1 e2;exact alw h sh ha hk
theorem awh{r:List Int}{a:Int}(h0:0<=a)(h1:a < (r.length:Int)):Arr [r] [a]:=⟨rfl,fun i x q g1 g2=>by
 cases i with
 | zero=>simp at g1 g2;subst g1 g2;exact⟨h0,h1⟩
 | succ i=>simp at g1⟩
theorem awg:Arr [[0,1],[1]] [0,0]:=⟨rfl,fun i x q g1 g2=>by
 match i,g1,g2 with
 | 0,g1,g2=>simp at g1 g2;subst g1 g2;exact⟨by decide,by decide⟩
 | 1,g1,g2=>simp at g1 g2;subst g1 g2;exact⟨by decide,by decide⟩
 | i+2,g1,_=>simp at g1⟩
theorem asq:alm ap8:=fun ns hn=>by
 obtain⟨n0,e0⟩:=aqp ns 0 (by decide)
 obtain⟨ms,em,hm⟩:=aql ns (some 1) (some 4);have hc:1+ms.length<=capS:=gq (by omega)
 have H1:Hs [[0]]:=⟨by decide,by decide,by decide⟩
 have S1:Sh [[0]]:=by unfold Sh;decide
 have H2:Hs [[0,1],[1]]:=⟨by decide,by decide,by decide⟩
 have S2:Sh [[0,1],[1]]:=by unfold Sh;decide
 have r1:=right_of (d:=.tup [.tup [.int 0]]) (e:=.tup [.int 0]) (k:=0) [[0]] [0] rfl rfl H1 S1 (awh (by decide) (by decide)) (by decide)
 have r2:=right_of (d:=.tup [.tup [.int 0,.int 1],.tup [.int 1]]) (e:=.tup [.int 0,.int 0]) (k:=0) [[0,1],[1]] [0,0] rfl rfl H2 S2 awg (by decide)
 obtain⟨ρ,q⟩:=loop2 (.kst (ns.map D.int)) (n0::ms) .emp .emp .emp .emp .emp;simp only[List.map_cons] at q;simp[ap8,ayx,r1,r2,e0,em,hc,q]
end My
set_option maxHeartbeats 0
namespace My
open PySem L2 Mn Dn
def top(i:Nat):Stmt:=PySem.Challenge.pw_turnarrows_k28_why_in_no_round.main.body.getD i (.Pass ⟨0,0,0,0⟩)
abbrev adg:Stmt:=top 6
theorem akb:FnScope ["thing"] ["thing"] (ak adg):=mkSc rfl rfl rfl rfl (by decide +kernel)
abbrev nj:Stmt:=top 7
theorem aco:FnScope ["thing","least","most"] ["thing","least","most"] (ak nj):=mkSc rfl rfl rfl rfl (by decide +kernel)
abbrev nq:Stmt:=top 8
theorem acp:FnScope ["thing","least","most"] ["thing","least","most"] (ak nq):=mkSc rfl rfl rfl rfl (by decide +kernel)
abbrev rn:Stmt:=top 10
theorem ade:FnScope ["house","thing"] ["house","thing"] (ak rn):=mkSc rfl rfl rfl rfl (by decide +kernel)
abbrev rm:Stmt:=top 11
theorem adc:FnScope ["house","thing"] ["house","thing"] (ak rm):=mkSc rfl rfl rfl rfl (by decide +kernel)
abbrev aeq:Stmt:=top 12
theorem uf:FnScope ["house","room","met","looked_at","doors","door"] ["house","room"] (ak aeq):=mkSc rfl rfl rfl rfl (by decide +kernel)
abbrev aep:Stmt:=top 13
theorem anh:FnScope ["house"] ["house"] (ak aep):=mkSc rfl rfl rfl rfl (by decide +kernel)
abbrev mz:Stmt:=top 14
theorem acl:FnScope ["house"] ["house"] (ak mz):=mkSc rfl rfl rfl rfl (by decide +kernel)
abbrev abz:Stmt:=top 16
theorem aid:FnScope ["house","thing"] ["house","thing"] (ak abz):=mkSc rfl rfl rfl rfl (by decide +kernel)
abbrev lg:Stmt:=top 17
theorem abw:FnScope ["house","thing"] ["house","thing"] (ak lg):=mkSc rfl rfl rfl rfl (by decide +kernel)
abbrev aby:Stmt:=top 18
theorem aic:FnScope ["house","arrows"] ["house","arrows"] (ak aby):=mkSc rfl rfl rfl rfl (by decide +kernel)
abbrev yt:Stmt:=top 19
theorem j4:FnScope ["last","rooms","staying","many"] ["last","rooms"] (ak yt):=mkSc rfl rfl rfl rfl (by decide +kernel)
abbrev abx:Stmt:=top 21
theorem j7:FnScope ["last","room","place","turn","ring","least"] ["last","room"] (ak abx):=mkSc rfl rfl rfl rfl (by decide +kernel)
abbrev adf:Stmt:=top 22
theorem yp:FnScope ["last","rooms","rings","room","ring"] ["last","rooms"] (ak adf):=mkSc rfl rfl rfl rfl (by decide +kernel)
abbrev ni:Stmt:=top 24
theorem acn:FnScope ["house","arrows","room"] ["house","arrows","room"] (ak ni):=mkSc rfl rfl rfl rfl (by decide +kernel)
abbrev jn:Stmt:=top 26
theorem yq:FnScope ["house","arrows","room"] ["house","arrows","room"] (ak jn):=mkSc rfl rfl rfl rfl (by decide +kernel)
abbrev ab0:Stmt:=top 27
theorem aie:FnScope ["house","room"] ["house","room"] (ak ab0):=mkSc rfl rfl rfl rfl (by decide +kernel)
abbrev vq:Stmt:=top 28
theorem aae:FnScope ["house","arrows","room","ring"] ["house","arrows","room"] (ak vq):=mkSc rfl rfl rfl rfl (by decide +kernel)
abbrev ag0:Stmt:=top 29
theorem aem:FnScope ["house","arrows","room","gone","ring"] ["house","arrows","room"] (ak ag0):=mkSc rfl rfl rfl rfl (by decide +kernel)
abbrev aeo:Stmt:=top 30
theorem ang:FnScope ["house","arrows","room"] ["house","arrows","room"] (ak aeo):=mkSc rfl rfl rfl rfl (by decide +kernel)
abbrev ab5:Stmt:=top 32
theorem aig:FnScope ["script","k"] ["script","k"] (ak ab5):=mkSc rfl rfl rfl rfl (by decide +kernel)
abbrev adi:Stmt:=top 33
theorem aen:FnScope ["cell","left"] ["cell"] (ak adi):=mkSc rfl rfl rfl rfl (by decide +kernel)
abbrev ab4:Stmt:=top 34
theorem ql:FnScope ["pen","many","left","found","stir"] ["pen","many"] (ak ab4):=mkSc rfl rfl rfl rfl (by decide +kernel)
abbrev aag:Stmt:=top 35
theorem agy:FnScope ["thing"] ["thing"] (ak aag):=mkSc rfl rfl rfl rfl (by decide +kernel)
abbrev vy:Stmt:=top 36
theorem jr:FnScope ["house","room","found","at"] ["house","room"] (ak vy):=mkSc rfl rfl rfl rfl (by decide +kernel)
abbrev ab1:Stmt:=top 37
theorem j8:FnScope ["pen","most","doors","many","house","room","wide","some"] ["pen","most","doors"] (ak ab1):=mkSc rfl rfl rfl rfl (by decide +kernel)
abbrev yu:Stmt:=top 38
theorem aft:FnScope ["pen","house"] ["pen","house"] (ak yu):=mkSc rfl rfl rfl rfl (by decide +kernel)
abbrev ab2:Stmt:=top 39
theorem aaf:FnScope ["house","arrows","room","door","later"] ["house","arrows","room"] (ak ab2):=mkSc rfl rfl rfl rfl (by decide +kernel)
abbrev aah:Stmt:=top 40
theorem acq:FnScope ["house","arrows","room","seen","states","ahead"] ["house","arrows","room"] (ak aah):=mkSc rfl rfl rfl rfl (by decide +kernel)
abbrev ab3:Stmt:=top 41
theorem aif:FnScope ["house","arrows"] ["house","arrows"] (ak ab3):=mkSc rfl rfl rfl rfl (by decide +kernel)
abbrev aai:Stmt:=top 42
theorem km:FnScope ["house","arrows","rooms","last","found","room","ring"] ["house","arrows","rooms"] (ak aai):=mkSc rfl rfl rfl rfl (by decide +kernel)
abbrev adh:Stmt:=top 43
theorem yr:FnScope ["house","arrows","room","rooms","there","rings"] ["house","arrows","room"] (ak adh):=mkSc rfl rfl rfl rfl (by decide +kernel)
abbrev aak:Stmt:=top 44
theorem agz:FnScope ["found"] ["found"] (ak aak):=mkSc rfl rfl rfl rfl (by decide +kernel)
abbrev aaj:Stmt:=top 45
theorem uc:FnScope ["house","arrows","room","due","turn","found"] ["house","arrows","room"] (ak aaj):=mkSc rfl rfl rfl rfl (by decide +kernel)
abbrev ag1:Stmt:=top 46
theorem af2:FnScope ["script","cell","pen","house","arrows","room"] ["script"] (ak ag1):=mkSc rfl rfl rfl rfl (by decide +kernel)
theorem lnS{k:Nat}{us:List Value}(h:us.length=k+1):∃a r,us=a::r/\r.length=k:=by
 cases us with
 | nil=>cases h
 | cons a r=>exact⟨a,r,rfl,Nat.succ.inj h⟩
theorem ln1{us:List Value}(h:us.length=1):∃a0,us=[a0]:=by
 obtain⟨a,r,rfl,h'⟩:=lnS h;cases List.eq_nil_of_length_eq_zero h';exact⟨a,rfl⟩
theorem ln2{us:List Value}(h:us.length=2):∃a0 a1,us=[a0,a1]:=by
 obtain⟨a,r,rfl,h'⟩:=lnS h;obtain⟨_,rfl⟩:=ln1 h';exact⟨_,_,rfl⟩
theorem ln3{us:List Value}(h:us.length=3):∃a0 a1 a2,us=[a0,a1,a2]:=by
 obtain⟨a,r,rfl,h'⟩:=lnS h;obtain⟨_,_,rfl⟩:=ln2 h';exact⟨_,_,_,rfl⟩
structure Txt (K:Fg9) (mg:Str->Option Value):Prop where
 z_all:mg "all" = none
 z_bool:mg "bool" = none
 z_divmod:mg "divmod" = none
 z_int:mg "int" = none
 z_isinstance:mg "isinstance" = none
 z_len:mg "len" = none
 z_list:mg "list" = none
 z_max:mg "max" = none
 z_min:mg "min" = none
 z_range:mg "range" = none
 z_set:mg "set" = none
 z_sorted:mg "sorted" = none
 z_str:mg "str" = none
 z_tuple:mg "tuple" = none
 z_zip:mg "zip" = none
section
variable(P:Program)(w:World)(K:Fg9)(mg:Str->Option Value)(base:Heap)
abbrev Dd0:Prop:=Dfn P w K mg base "is_whole" ["thing"] 1 (spOf K 1 yc)
abbrev Dd1:Prop:=Dfn P w K mg base "is_whole_within" ["thing","least","most"] 2 (spOf K 3 gf)
abbrev Dd3:Prop:=Dfn P w K mg base "is_room_number" ["house","thing"] 3 (spOf K 2 jk)
abbrev Dd4:Prop:=Dfn P w K mg base "refuse_no_room" ["house","thing"] 4 (spOf K 2 dh)
abbrev Dd6:Prop:=Dfn P w K mg base "is_shut" ["house"] 1 (spOf K 1 aaw)
abbrev Dd2:Prop:=Dfn P w K mg base "is_tuple_within" ["thing","least","most"] 1 (spOf K 3 jf)
abbrev Dd8:Prop:=Dfn P w K mg base "is_arrows" ["house","thing"] 3 (spOf K 2 uo)
abbrev Dd11:Prop:=Dfn P w K mg base "going_round" ["last","rooms"] 1 (spOf K 2 lr)
abbrev Dd12:Prop:=Dfn P w K mg base "ring_from" ["last","room"] 1 (spOf K 2 ph)
abbrev Dd9:Prop:=Dfn P w K mg base "refuse_no_arrows" ["house","thing"] 4 (spOf K 2 ig)
abbrev Dd14:Prop:=Dfn P w K mg base "refuse_no_state" ["house","arrows","room"] 5 (spOf K 3 je)
abbrev Dd7:Prop:=Dfn P w K mg base "refuse_not_shut" ["house"] 2 (spOf K 1 jd)
abbrev Dd5:Prop:=Dfn P w K mg base "come_to" ["house","room"] 5 (spOf K 2 qu)
abbrev Dd10:Prop:=Dfn P w K mg base "last_ways" ["house","arrows"] 1 (spOf K 2 um)
abbrev Dd13:Prop:=Dfn P w K mg base "rings_of" ["last","rooms"] 2 (spOf K 2 xx)
abbrev Dd16:Prop:=Dfn P w K mg base "gone_from" ["house","room"] 6 (spOf K 2 uq)
abbrev Dd17:Prop:=Dfn P w K mg base "ring_without" ["house","arrows","room"] 6 (spOf K 3 jl)
abbrev Dd15:Prop:=Dfn P w K mg base "refuse_no_shut_state" ["house","arrows","room"] 6 (spOf K 3 dj)
abbrev Dd18:Prop:=Dfn P w K mg base "why_of" ["house","arrows","room"] 7 (spOf K 3 zc)
abbrev Dd22:Prop:=Dfn P w K mg base "_law_draw" ["pen","many"] 1 (spOf K 2 f__law_draw)
abbrev Dd27:Prop:=Dfn P w K mg base "_law_left" ["house","arrows","room"] 1 (spOf K 3 qb)
abbrev Dd29:Prop:=Dfn P w K mg base "_law_last" ["house","arrows"] 1 (spOf K 2 ur)
abbrev Dd24:Prop:=Dfn P w K mg base "_law_reached" ["house","room"] 1 (spOf K 2 jm)
abbrev Dd30:Prop:=Dfn P w K mg base "_law_rings" ["house","arrows","rooms"] 2 (spOf K 3 qx)
abbrev Dd23:Prop:=Dfn P w K mg base "_law_whole" ["thing"] 1 (spOf K 1 kh)
abbrev Dd31:Prop:=Dfn P w K mg base "_law_why" ["house","arrows","room"] 3 (spOf K 3 pq)
abbrev Dd28:Prop:=Dfn P w K mg base "_law_round" ["house","arrows","room"] 2 (spOf K 3 qw)
abbrev Dd19:Prop:=Dfn P w K mg base "why_not" ["house","arrows","room"] 8 (spOf K 3 aav)
abbrev Dd32:Prop:=Dfn P w K mg base "_law_kinds" ["found"] 2 (spOf K 1 jt)
abbrev Dd33:Prop:=Dfn P w K mg base "_law_right" ["house","arrows","room"] 9 (spOf K 3 ik)
abbrev Dd20:Prop:=Dfn P w K mg base "_law_cell" ["script","k"] 1 (spOf K 2 f__law_cell)
abbrev Dd21:Prop:=Dfn P w K mg base "_law_pen" ["cell"] 1 (spOf K 1 f__law_pen)
abbrev Dd25:Prop:=Dfn P w K mg base "_law_shut" ["pen","most","doors"] 2 (spOf K 3 f__law_shut)
abbrev Dd26:Prop:=Dfn P w K mg base "_law_arrows" ["pen","house"] 2 (spOf K 2 f__law_arrows)
end
section
variable{P:Program}{w:World}{K:Fg9}{mg:Str->Option Value}{base:Heap}{f:Addr}{fd:FuncData}
theorem akp(F:Fun K "is_whole" "is_whole" adg f fd)(T:Txt K mg):FnOk P w K mg base CX0 1 f fd ["thing"] (spOf K 1 yc) :=
 fc F akb rfl rfl fun cdv A outer s H E hr =>
  (ao (b8 (EV.toR (ajn (ad7 (t:=.int) (ail (by rfl) T.z_int aq0) (by rfl) T.z_isinstance ir (di (pv 0))) (ajm (at6 (ad7 (t:=.bool) (ail (by rfl) T.z_bool aq2) (by rfl) T.z_isinstance ir (di (pv 0)))))))))
theorem acx(F:Fun K "is_whole_within" "is_whole_within" nj f fd)(T:Txt K mg)(d0:Dd0 P w K mg base):FnOk P w K mg base CX0 2 f fd ["thing","least","most"] (spOf K 3 gf) :=
 fc F aco rfl rfl fun cdv A outer s H E hr =>
  (ao (b8 (EV.toR (ajn (ER.toD (gm d0 (hr.mono (by decide)) (by rfl) (eg_n (pv 0) bz))) (ajm (amv ase ase (aq (pv 1)) (aq (pv 0)) (aq (pv 2))))))))
theorem acy(F:Fun K "is_tuple_within" "is_tuple_within" nq f fd)(T:Txt K mg):FnOk P w K mg base CX0 1 f fd ["thing","least","most"] (spOf K 3 jf) :=
 fc F acp rfl rfl fun cdv A outer s H E hr =>
  (ao (b8 (EV.toR (ajn (ad7 (t:=.tuple) (ail (by rfl) T.z_tuple lw) (by rfl) T.z_isinstance ir (di (pv 0))) (ajm (amv ase ase (aq (pv 1)) (ER.toD (bu lu (by rfl) T.z_len mj (ea_n (pv 0) cg))) (aq (pv 2))))))))
theorem adn(F:Fun K "is_room_number" "is_room_number" rn f fd)(T:Txt K mg)(d1:Dd1 P w K mg base):FnOk P w K mg base CX0 3 f fd ["house","thing"] (spOf K 2 jk) :=
 fc F ade rfl rfl fun cdv A outer s H E hr =>
  (ao (b8 (gm d1 (hr.mono (by decide)) (by rfl) (eg_v (aq (pv 1)) (eg_v bc (eg_v (ER.toD (gn adl (e2_v (ER.toD (bu lu (by rfl) T.z_len mj (ea_n (pv 0) cg))) (EV.toB bc)))) bz))))))
theorem adm(F:Fun K "refuse_no_room" "refuse_no_room" rm f fd)(T:Txt K mg)(d3:Dd3 P w K mg base):FnOk P w K mg base CX0 4 f fd ["house","thing"] (spOf K 2 dh) :=
 fc F adc rfl rfl fun cdv A outer s H E hr =>
  (ao (uy (abv (abu (ER.toD (gm d3 (hr.mono (by decide)) (by rfl) (eg_n (pv 0) (eg_v (aq (pv 1)) bz)))))) (ao agu) gr))
theorem anr(F:Fun K "come_to" "come_to" aeq f fd)(T:Txt K mg)(d4:Dd4 P w K mg base):FnOk P w K mg base CX0 5 f fd ["house","room"] (spOf K 2 qu) :=
 fc F uf rfl rfl fun cdv A outer s H E hr =>
  (aa (qz (gm d4 (hr.mono (by decide)) (by rfl) (eg_n (pv 0) (eg_v (aq (pv 1)) bz)))) (aa (du (i:=2) uf.nd rfl (Or.inl rfl) (ye (az (aq (pv 1)) b7))) (aa (du (i:=3) uf.nd rfl (Or.inl rfl) (EV.toR bc)) (aa (acj fuel PassesOwn.never (jg aiq (e2_n (pv 3) (EV.toB (ER.toD (bu lu (by rfl) T.z_len mj (ea_n (pv 2) cg))))) (j5 _)) (aa (du (i:=4) uf.nd rfl (Or.inl rfl) (ji (e2_n (pv 0) (EV.toB (ER.toD (ji (e2_n (pv 2) (di (pv 3))) (fun _ _=>by rfl))))) (fun _ _=>by rfl))) (aa (abp PassesOwn.never rfl (xm (aq (pv 4))) (dz (i:=5) uf.nd rfl (Or.inl rfl)) (ao (uy (EW.pt (agi (jg air (e2_n (pv 5) (EV.toB bc)) (j5 _)) (adt (jg (qm hr.units) (e2_n (pv 5) (di (pv 2))) (by with_unfolding_all rfl))))) (ao (qz (EV.toR (afk nu PySem.F.slot_list_append PySem.F.type_list_append qp (pv 2) (az (aq (pv 5)) b7))))) gr))) (ao (awu (i:=3) uf.nd rfl (Or.inl rfl) bc ayw))))) (ao (b8 (ju vh (by rfl) T.z_tuple lw (ea_v (ER.toD (bu adx (by rfl) T.z_sorted aa4 (ea_n (pv 2) cg))) cg))))))))
theorem anq(F:Fun K "is_shut" "is_shut" aep f fd)(T:Txt K mg):FnOk P w K mg base CX0 1 f fd ["house"] (spOf K 1 aaw) :=
 fc F anh rfl rfl fun cdv A outer s H E hr =>
  (ao (b8 (bu (aqt rfl) (by rfl) T.z_all aq3 (ea_v (ER.toD (zg [] ["doors"] [none] rfl (xm (aq (pv 0))) (fun _ _ _=>(dz (i:=0) (show(["doors"]:List Str).Nodup by decide +kernel) rfl (Or.inl rfl))) (fun _ _ _=>ace) (fun _ _ _=>(ER.toD (aqc air (e2_v (ER.toD (bu (alf rfl) (by rfl) T.z_min aqy (ea_n (pv 0) cg))) (EV.toB bc)) (j5 _)))))) cg))))
theorem acv(F:Fun K "refuse_not_shut" "refuse_not_shut" mz f fd)(T:Txt K mg)(d6:Dd6 P w K mg base):FnOk P w K mg base CX0 2 f fd ["house"] (spOf K 1 jd) :=
 fc F acl rfl rfl fun cdv A outer s H E hr =>
  (ao (uy (abv (abu (ER.toD (gm d6 (hr.mono (by decide)) (by rfl) (eg_v (aq (pv 0)) bz))))) (ao agu) gr))
theorem aiu(F:Fun K "is_arrows" "is_arrows" abz f fd)(T:Txt K mg)(d2:Dd2 P w K mg base)(d1:Dd1 P w K mg base):FnOk P w K mg base CX0 3 f fd ["house","thing"] (spOf K 2 uo) :=
 fc F aid rfl rfl fun cdv A outer s H E hr =>
  (aa (uy (abv (abu (ER.toD (gm d2 (hr.mono (by decide)) (by rfl) (eg_n (pv 1) (eg_v (ER.toD (bu lu (by rfl) T.z_len mj (ea_n (pv 0) cg))) (eg_v (ER.toD (bu lu (by rfl) T.z_len mj (ea_n (pv 0) cg))) bz))))))) (ao (b8 (EV.toR aht))) gr) (ao (b8 (bu (aqt rfl) (by rfl) T.z_all aq3 (ea_v (ER.toD (zg [] ["arrow","doors"] [none,none] rfl (ak6 (by rfl) T.z_zip (az (aq (pv 1)) (az (aq (pv 0)) b7))) (fun _ _ _=>(amr rfl (vd (dz (i:=0) (show(["arrow","doors"]:List Str).Nodup by decide +kernel) rfl (Or.inl rfl)) (vd (dz (i:=1) (show(["arrow","doors"]:List Str).Nodup by decide +kernel) rfl (Or.inl rfl)) aho)))) (fun _ _ _=>ace) (fun _ _ _=>(ER.toD (gm d1 (hr.mono (by decide)) (by rfl) (eg_n (pv 0) (eg_v bc (eg_v (ER.toD (gn adl (e2_v (ER.toD (bu lu (by rfl) T.z_len mj (ea_n (pv 1) cg))) (EV.toB bc)))) bz)))))))) cg)))))
theorem ab6(F:Fun K "refuse_no_arrows" "refuse_no_arrows" lg f fd)(T:Txt K mg)(d8:Dd8 P w K mg base):FnOk P w K mg base CX0 4 f fd ["house","thing"] (spOf K 2 ig) :=
 fc F abw rfl rfl fun cdv A outer s H E hr =>
  (ao (uy (abv (abu (ER.toD (gm d8 (hr.mono (by decide)) (by rfl) (eg_v (aq (pv 0)) (eg_v (aq (pv 1)) bz)))))) (ao agu) gr))
theorem ait(F:Fun K "last_ways" "last_ways" aby f fd)(T:Txt K mg):FnOk P w K mg base CX0 1 f fd ["house","arrows"] (spOf K 2 um) :=
 fc F aic rfl rfl fun cdv A outer s H E hr =>
  (ao (b8 (ju vh (by rfl) T.z_tuple lw (ea_v (ER.toD (zg [] ["arrow","doors"] [none,none] rfl (ak6 (by rfl) T.z_zip (az (aq (pv 1)) (az (aq (pv 0)) b7))) (fun _ _ _=>(amr rfl (vd (dz (i:=0) (show(["arrow","doors"]:List Str).Nodup by decide +kernel) rfl (Or.inl rfl)) (vd (dz (i:=1) (show(["arrow","doors"]:List Str).Nodup by decide +kernel) rfl (Or.inl rfl)) aho)))) (fun _ _ _=>ace) (fun _ _ _=>(ER.toD (ji (e2_n (pv 1) (EV.toB (ER.toD (gn adl (e2_n (pv 0) (EV.toB bc)))))) (fun _ _=>by rfl)))))) cg))))
theorem afw(F:Fun K "going_round" "going_round" yt f fd)(T:Txt K mg):FnOk P w K mg base CX0 1 f fd ["last","rooms"] (spOf K 2 lr) :=
 fc F j4 rfl rfl fun cdv A outer s H E hr =>
  (aa (du (i:=2) j4.nd rfl (Or.inr rfl) (ju aqr (by rfl) T.z_list aqz (ea_n (pv 1) cg))) (aa (du (i:=3) j4.nd rfl (Or.inl rfl) (gn sr (e2_v (ER.toD (bu lu (by rfl) T.z_len mj (ea_n (pv 2) cg))) (EV.toB bc)))) (aa (acj fuel PassesOwn.never (jg aiq (e2_v (ER.toD (bu lu (by rfl) T.z_len mj (ea_n (pv 2) cg))) (di (pv 3))) (j5 _)) (aa (du (i:=3) j4.nd rfl (Or.inl rfl) (bu lu (by rfl) T.z_len mj (ea_n (pv 2) cg))) (ao (du (i:=2) j4.nd rfl (Or.inr rfl) (zg ["staying","last"] ["room","staying","last"] [none,some 2,some 0] rfl (xm (aq (pv 2))) (fun _ _ _=>(dz (i:=0) (show(["room","staying","last"]:List Str).Nodup by decide +kernel) rfl (Or.inl rfl))) (fun _ _ _=>(ahy (jg (axu hr.units) (e2_v (ER.toD (ji (e2_n (pv 2) (di (pv 0))) (fun _ _=>by rfl))) (di (pv 1))) (by with_unfolding_all rfl)))) (fun _ _ _=>(aq (pv 0)))))))) (ao (b8 (ahu (pv 2)))))))
theorem ais(F:Fun K "ring_from" "ring_from" abx f fd)(T:Txt K mg):FnOk P w K mg base CX0 1 f fd ["last","room"] (spOf K 2 ph) :=
 fc F j7 rfl rfl fun cdv A outer s H E hr =>
  (aa (du (i:=2) j7.nd rfl (Or.inl rfl) (EV.toR (aq (pv 1)))) (aa (abp PassesOwn.never rfl (aar (by rfl) T.z_range (az (ER.toD (bu lu (by rfl) T.z_len mj (ea_n (pv 0) cg))) b7)) (dz (i:=3) j7.nd rfl (Or.inl rfl)) (ao (du (i:=2) j7.nd rfl (Or.inl rfl) (ji (e2_n (pv 0) (di (pv 2))) (fun _ _=>by rfl))))) (aa (du (i:=4) j7.nd rfl (Or.inl rfl) (ye (az (aq (pv 2)) b7))) (aa (acj fuel PassesOwn.never (jg (aip hr.units) (e2_v (ER.toD (ji (e2_n (pv 0) (EV.toB (ER.toD (ji (e2_n (pv 4) (EV.toB (agj bc))) (fun _ _=>by rfl))))) (fun _ _=>by rfl))) (di (pv 2))) (j5 _)) (ao (qz (EV.toR (afk nu PySem.F.slot_list_append PySem.F.type_list_append qp (pv 4) (az (ER.toD (ji (e2_n (pv 0) (EV.toB (ER.toD (ji (e2_n (pv 4) (EV.toB (agj bc))) (fun _ _=>by rfl))))) (fun _ _=>by rfl))) b7)))))) (aa (du (i:=5) j7.nd rfl (Or.inl rfl) (EV.toR (av2 PySem.F.slot_list_index PySem.F.type_list_index (asl hr.units) (pv 4) (az (ER.toD (bu (alf rfl) (by rfl) T.z_min aqy (ea_n (pv 4) cg))) b7)))) (ao (b8 (ju vh (by rfl) T.z_tuple lw (ea_v (ER.toD (gn sr (e2_v (ER.toD (alc (pv 4) (ahw (aq (pv 5))) aqe)) (EV.toB (ER.toD (alc (pv 4) aqe (ahw (aq (pv 5))))))))) cg)))))))))
theorem ako(F:Fun K "rings_of" "rings_of" adf f fd)(T:Txt K mg)(d11:Dd11 P w K mg base)(d12:Dd12 P w K mg base):FnOk P w K mg base CX0 2 f fd ["last","rooms"] (spOf K 2 xx) :=
 fc F yp rfl rfl fun cdv A outer s H E hr =>
  (aa (du (i:=2) yp.nd rfl (Or.inl rfl) (ye b7)) (aa (abp PassesOwn.never rfl (xm (ER.toD (gm d11 (hr.mono (by decide)) (by rfl) (eg_n (pv 0) (eg_n (pv 1) bz))))) (dz (i:=3) yp.nd rfl (Or.inl rfl)) (aa (du (i:=4) yp.nd rfl (Or.inl rfl) (gm d12 (hr.mono (by decide)) (by rfl) (eg_n (pv 0) (eg_v (aq (pv 3)) bz)))) (ao (uy (jg (qm hr.units) (e2_n (pv 4) (di (pv 2))) (by with_unfolding_all rfl)) (ao (qz (EV.toR (afk nu PySem.F.slot_list_append PySem.F.type_list_append qp (pv 2) (az (aq (pv 4)) b7))))) gr)))) (ao (b8 (bu ago (by rfl) T.z_sorted aa4 (ea_n (pv 2) cg))))))
theorem acw(F:Fun K "refuse_no_state" "refuse_no_state" ni f fd)(T:Txt K mg)(d9:Dd9 P w K mg base)(d4:Dd4 P w K mg base):FnOk P w K mg base CX0 5 f fd ["house","arrows","room"] (spOf K 3 je) :=
 fc F acn rfl rfl fun cdv A outer s H E hr =>
  (aa (qz (gm d9 (hr.mono (by decide)) (by rfl) (eg_v (aq (pv 0)) (eg_v (aq (pv 1)) bz)))) (ao (qz (gm d4 (hr.mono (by decide)) (by rfl) (eg_n (pv 0) (eg_v (aq (pv 2)) bz))))))
theorem yx(F:Fun K "refuse_no_shut_state" "refuse_no_shut_state" jn f fd)(T:Txt K mg)(d14:Dd14 P w K mg base)(d7:Dd7 P w K mg base):FnOk P w K mg base CX0 6 f fd ["house","arrows","room"] (spOf K 3 dj) :=
 fc F yq rfl rfl fun cdv A outer s H E hr =>
  (aa (qz (gm d14 (hr.mono (by decide)) (by rfl) (eg_v (aq (pv 0)) (eg_v (aq (pv 1)) (eg_v (aq (pv 2)) bz))))) (ao (qz (gm d7 (hr.mono (by decide)) (by rfl) (eg_v (aq (pv 0)) bz)))))
theorem aiv(F:Fun K "gone_from" "gone_from" ab0 f fd)(T:Txt K mg)(d5:Dd5 P w K mg base):FnOk P w K mg base CX0 6 f fd ["house","room"] (spOf K 2 uq) :=
 fc F aie rfl rfl fun cdv A outer s H E hr =>
  (ao (b8 (zg ["room","house"] ["there","room","house"] [none,some 1,some 0] rfl (xm (ER.toD (gm d5 (hr.mono (by decide)) (by rfl) (eg_n (pv 0) (eg_v (aq (pv 1)) bz))))) (fun _ _ _=>(dz (i:=0) (show(["there","room","house"]:List Str).Nodup by decide +kernel) rfl (Or.inl rfl))) (fun _ _ _=>(ahy (jg (qm hr.units) (e2_n (pv 1) (EV.toB (ER.toD (gm d5 (hr.mono (by decide)) (by rfl) (eg_n (pv 2) (eg_n (pv 0) bz)))))) (by with_unfolding_all rfl)))) (fun _ _ _=>(aq (pv 0))))))
theorem aew(F:Fun K "ring_without" "ring_without" vq f fd)(T:Txt K mg)(d10:Dd10 P w K mg base)(d5:Dd5 P w K mg base)(d13:Dd13 P w K mg base):FnOk P w K mg base CX0 6 f fd ["house","arrows","room"] (spOf K 3 jl) :=
 fc F aae rfl rfl fun cdv A outer s H E hr =>
  (aa (abp PassesOwn.never rfl (xm (ER.toD (gm d13 (hr.mono (by decide)) (by rfl) (eg_v (ER.toD (gm d10 (hr.mono (by decide)) (by rfl) (eg_v (aq (pv 0)) (eg_v (aq (pv 1)) bz)))) (eg_v (ER.toD (gm d5 (hr.mono (by decide)) (by rfl) (eg_n (pv 0) (eg_v (aq (pv 2)) bz)))) bz))))) (dz (i:=3) aae.nd rfl (Or.inl rfl)) (ao (uy (jg (qm hr.units) (e2_n (pv 2) (di (pv 3))) (by with_unfolding_all rfl)) (ao (b8 (ahu (pv 3)))) gr))) (ao (b8 (EV.toR aqa))))
theorem ape(F:Fun K "why_of" "why_of" ag0 f fd)(T:Txt K mg)(d16:Dd16 P w K mg base)(d17:Dd17 P w K mg base):FnOk P w K mg base CX0 7 f fd ["house","arrows","room"] (spOf K 3 zc) :=
 fc F aem rfl rfl fun cdv A outer s H E hr =>
  (aa (du (i:=3) aem.nd rfl (Or.inl rfl) (gm d16 (hr.mono (by decide)) (by rfl) (eg_n (pv 0) (eg_v (aq (pv 2)) bz)))) (aa (uy (jg (aip hr.units) (e2_n (pv 3) (EV.toB (ER.toD (ye b7)))) (j5 _)) (ao (b8 (EV.toR (qy (az ajl (az (ER.toD (ji (e2_n (pv 3) (EV.toB bc)) (fun _ _=>by rfl))) b7)))))) gr) (aa (du (i:=4) aem.nd rfl (Or.inl rfl) (gm d17 (hr.mono (by decide)) (by rfl) (eg_v (aq (pv 0)) (eg_v (aq (pv 1)) (eg_v (aq (pv 2)) bz))))) (ao (b8 (a1w (ajo (di (pv 4))) (EV.toR aqa) (EV.toR (qy (az ajl (az (aq (pv 4)) b7))))))))))
theorem anp(F:Fun K "why_not" "why_not" aeo f fd)(T:Txt K mg)(d15:Dd15 P w K mg base)(d18:Dd18 P w K mg base):FnOk P w K mg base CX0 8 f fd ["house","arrows","room"] (spOf K 3 aav) :=
 fc F ang rfl rfl fun cdv A outer s H E hr =>
  (aa (qz (gm d15 (hr.mono (by decide)) (by rfl) (eg_v (aq (pv 0)) (eg_v (aq (pv 1)) (eg_v (aq (pv 2)) bz))))) (ao (b8 (gm d18 (hr.mono (by decide)) (by rfl) (eg_v (aq (pv 0)) (eg_v (aq (pv 1)) (eg_v (aq (pv 2)) bz)))))))
theorem ai0(F:Fun K "_law_cell" "_law_cell" ab5 f fd)(T:Txt K mg):FnOk P w K mg base CX0 1 f fd ["script","k"] (spOf K 2 f__law_cell) :=
 fc F aig rfl rfl fun cdv A outer s H E hr =>
  (aa (uy (jg aiq (e2_n (pv 1) (EV.toB (ER.toD (bu lu (by rfl) T.z_len mj (ea_n (pv 0) cg))))) (j5 _)) (ao (b8 (ji (e2_n (pv 0) (di (pv 1))) (fun _ _=>by rfl)))) gr) (ao (b8 (EV.toR bc))))
theorem akr(F:Fun K "_law_pen" "_law_pen" adi f fd)(T:Txt K mg):FnOk P w K mg base CX0 1 f fd ["cell"] (spOf K 1 f__law_pen) :=
 fc F aen rfl rfl fun cdv A outer s H E hr =>
  (aa (du (i:=1) aen.nd rfl (Or.inl rfl) (bu (ay6 rfl) (by rfl) T.z_max azb (ea_n (pv 0) (ea_v (ER.toD (gn adl (e2_v bc (di (pv 0))))) cg)))) (ao (b8 (ye (az (aq (pv 1)) (az (ER.toD (ju ay7 (by rfl) T.z_int aq0 (ea_v (ER.toD (aqc air (e2_n (pv 1) (EV.toB (ER.toD (gn au9 (e2_v bc (EV.toB bc)))))) (j5 _))) cg))) b7))))))
theorem aiz(F:Fun K "_law_draw" "_law_draw" ab4 f fd)(T:Txt K mg):FnOk P w K mg base CX0 1 f fd ["pen","many"] (spOf K 2 f__law_draw) :=
 fc F ql rfl rfl fun cdv A outer s H E hr =>
  (aa (uy (jg (af5 hr.units) (e2_v (ER.toD (ji (e2_n (pv 0) (EV.toB bc)) (fun _ _=>by rfl))) (EV.toB bc)) (j5 _)) (aa (awv (ER.toD (bu aqs (by rfl) T.z_divmod aq1 (ea_v (ER.toD (ji (e2_n (pv 0) (EV.toB bc)) (fun _ _=>by rfl))) (ea_n (pv 1) cg)))) (amr rfl (vd (dz (i:=2) ql.nd rfl (Or.inl rfl)) (vd (dz (i:=3) ql.nd rfl (Or.inl rfl)) aho)))) (aa (alo (aq (pv 2)) (pv 0) bc) (ao (b8 (ahu (pv 3)))))) gr) (aa (du (i:=4) ql.nd rfl (Or.inl rfl) (gn aao (e2_v (ER.toD (gn akm (e2_v (ER.toD (gn sr (e2_v (ER.toD (gn aao (e2_v (ER.toD (ji (e2_n (pv 0) (EV.toB bc)) (fun _ _=>by rfl))) (EV.toB bc)))) (EV.toB bc)))) (EV.toB bc)))) (EV.toB bc)))) (aa (du (i:=4) ql.nd rfl (Or.inl rfl) (gn aao (e2_v (ER.toD (gn sr (e2_v (ER.toD (gn akm (e2_n (pv 4) (di (pv 4))))) (EV.toB bc)))) (EV.toB bc)))) (aa (alo (ER.toD (gn aao (e2_v (ER.toD (gn sr (e2_v (ER.toD (gn akm (e2_n (pv 4) (EV.toB bc)))) (EV.toB bc)))) (EV.toB bc)))) (pv 0) bc) (ao (b8 (gn aao (e2_v (ER.toD (gn ava (e2_v (ER.toD (ji (e2_n (pv 0) (EV.toB bc)) (fun _ _=>by rfl))) (EV.toB bc)))) (di (pv 1))))))))))
theorem aha(F:Fun K "_law_whole" "_law_whole" aag f fd)(T:Txt K mg):FnOk P w K mg base CX0 1 f fd ["thing"] (spOf K 1 kh) :=
 fc F agy rfl rfl fun cdv A outer s H E hr =>
  (ao (b8 (EV.toR (ajn (ad7 (t:=.int) (ail (by rfl) T.z_int aq0) (by rfl) T.z_isinstance ir (di (pv 0))) (ajm (at6 (ad7 (t:=.bool) (ail (by rfl) T.z_bool aq2) (by rfl) T.z_isinstance ir (di (pv 0)))))))))
theorem aex(F:Fun K "_law_reached" "_law_reached" vy f fd)(T:Txt K mg):FnOk P w K mg base CX0 1 f fd ["house","room"] (spOf K 2 jm) :=
 fc F jr rfl rfl fun cdv A outer s H E hr =>
  (aa (du (i:=2) jr.nd rfl (Or.inr rfl) (ye (az (aq (pv 1)) b7))) (aa (du (i:=3) jr.nd rfl (Or.inl rfl) (EV.toR bc)) (aa (acj fuel PassesOwn.never (jg aiq (e2_n (pv 3) (EV.toB (ER.toD (bu lu (by rfl) T.z_len mj (ea_n (pv 2) cg))))) (j5 _)) (aa (uy (jg air (e2_v (ER.toD (ji (e2_n (pv 2) (di (pv 3))) (fun _ _=>by rfl))) (EV.toB bc)) (j5 _)) (ao (du (i:=2) jr.nd rfl (Or.inr rfl) (gn sr (e2_n (pv 2) (EV.toB (ER.toD (zg ["found"] ["door","found"] [none,some 2] rfl (xm (ER.toD (ajp rfl (by rfl) T.z_sorted aa4 (by rfl) T.z_set aza (ea_v (ER.toD (ji (e2_n (pv 0) (EV.toB (ER.toD (ji (e2_n (pv 2) (di (pv 3))) (fun _ _=>by rfl))))) (fun _ _=>by rfl))) cg)))) (fun _ _ _=>(dz (i:=0) (show(["door","found"]:List Str).Nodup by decide +kernel) rfl (Or.inl rfl))) (fun _ _ _=>(ahy (jg (qm hr.units) (e2_n (pv 0) (di (pv 1))) (by with_unfolding_all rfl)))) (fun _ _ _=>(aq (pv 0)))))))))) gr) (ao (du (i:=3) jr.nd rfl (Or.inl rfl) (gn sr (e2_n (pv 3) (EV.toB bc))))))) (ao (b8 (ahu (pv 2)))))))
theorem aiw(F:Fun K "_law_shut" "_law_shut" ab1 f fd)(T:Txt K mg)(d22:Dd22 P w K mg base):FnOk P w K mg base CX0 2 f fd ["pen","most","doors"] (spOf K 3 f__law_shut) :=
 fc F j8 rfl rfl fun cdv A outer s H E hr =>
  (aa (du (i:=3) j8.nd rfl (Or.inr rfl) (gn sr (e2_v bc (EV.toB (ER.toD (gm d22 (hr.mono (by decide)) (by rfl) (eg_n (pv 0) (eg_n (pv 1) bz)))))))) (aa (du (i:=4) j8.nd rfl (Or.inl rfl) (ye b7)) (aa (abp PassesOwn.never rfl (aar (by rfl) T.z_range (az (aq (pv 3)) b7)) (dz (i:=5) j8.nd rfl (Or.inl rfl)) (aa (du (i:=6) j8.nd rfl (Or.inl rfl) (gn sr (e2_v bc (EV.toB (ER.toD (gm d22 (hr.mono (by decide)) (by rfl) (eg_n (pv 0) (eg_n (pv 2) bz)))))))) (aa (aon (i:=7) ["pen","many"] ["door","pen","many"] [none,some 0,some 3] j8.nd rfl (Or.inl rfl) rfl (aar (by rfl) T.z_range (az (aq (pv 6)) b7)) (fun _ _ _=>(dz (i:=0) (show(["door","pen","many"]:List Str).Nodup by decide +kernel) rfl (Or.inl rfl))) (fun _ _ _=>ace) (fun _ _ _=>(ER.toD (gm d22 (hr.mono (by decide)) (by rfl) (eg_n (pv 1) (eg_n (pv 2) bz)))))) (aa (uy (jg (af5 hr.units) (e2_v (ER.toD (gm d22 (hr.mono (by decide)) (by rfl) (eg_n (pv 0) (eg_v bc bz)))) (EV.toB bc)) (j5 _)) (ao (alo (ER.toD (gn aao (e2_v (ER.toD (gn sr (e2_n (pv 5) (EV.toB bc)))) (di (pv 3))))) (pv 7) bc)) gr) (ao (qz (EV.toR (afk nu PySem.F.slot_list_append PySem.F.type_list_append qp (pv 4) (az (ER.toD (ju vh (by rfl) T.z_tuple lw (ea_n (pv 7) cg))) b7))))))))) (ao (b8 (ju vh (by rfl) T.z_tuple lw (ea_n (pv 4) cg)))))))
theorem afx(F:Fun K "_law_arrows" "_law_arrows" yu f fd)(T:Txt K mg)(d22:Dd22 P w K mg base):FnOk P w K mg base CX0 2 f fd ["pen","house"] (spOf K 2 f__law_arrows) :=
 fc F aft rfl rfl fun cdv A outer s H E hr =>
  (ao (b8 (ju vh (by rfl) T.z_tuple lw (ea_v (ER.toD (zg ["pen"] ["doors","pen"] [none,some 0] rfl (xm (aq (pv 1))) (fun _ _ _=>(dz (i:=0) (show(["doors","pen"]:List Str).Nodup by decide +kernel) rfl (Or.inl rfl))) (fun _ _ _=>ace) (fun _ _ _=>(ER.toD (gm d22 (hr.mono (by decide)) (by rfl) (eg_n (pv 1) (eg_v (ER.toD (bu lu (by rfl) T.z_len mj (ea_n (pv 0) cg))) bz))))))) cg))))
theorem aix(F:Fun K "_law_left" "_law_left" ab2 f fd)(T:Txt K mg):FnOk P w K mg base CX0 1 f fd ["house","arrows","room"] (spOf K 3 qb) :=
 fc F aaf rfl rfl fun cdv A outer s H E hr =>
  (aa (du (i:=3) aaf.nd rfl (Or.inl rfl) (ji (e2_n (pv 1) (di (pv 2))) (fun _ _=>by rfl))) (aa (du (i:=4) aaf.nd rfl (Or.inl rfl) (ju aqr (by rfl) T.z_list aqz (ea_n (pv 1) cg))) (aa (alo (ER.toD (gn aao (e2_v (ER.toD (gn sr (e2_n (pv 3) (EV.toB bc)))) (EV.toB (ER.toD (bu lu (by rfl) T.z_len mj (ea_v (ER.toD (ji (e2_n (pv 0) (di (pv 2))) (fun _ _=>by rfl))) cg))))))) (pv 4) (aq (pv 2))) (ao (b8 (EV.toR (qy (az (ER.toD (ju vh (by rfl) T.z_tuple lw (ea_n (pv 4) cg))) (az (ER.toD (ji (e2_v (ER.toD (ji (e2_n (pv 0) (di (pv 2))) (fun _ _=>by rfl))) (di (pv 3))) (fun _ _=>by rfl))) b7)))))))))
theorem ahb(F:Fun K "_law_round" "_law_round" aah f fd)(T:Txt K mg)(d27:Dd27 P w K mg base):FnOk P w K mg base CX0 2 f fd ["house","arrows","room"] (spOf K 3 qw) :=
 fc F acq rfl rfl fun cdv A outer s H E hr =>
  (ark (iS:=3) (iL:=4) (iA:=1) (iR:=2) (iH:=5) fuel hr.units PassesOwn.never rfl acq.nd rfl rfl rfl rfl rfl (Or.inl rfl) (Or.inl rfl) (Or.inl rfl) (Or.inl rfl) (Or.inl rfl) (by decide) (by decide) (by decide) (pv 3) (pv 3) (pv 3) (ye b7) (qy (az (aq (pv 1)) (az (aq (pv 2)) b7))) (qy (az (aq (pv 1)) (az (aq (pv 2)) b7))) (qy (az (aq (pv 1)) (az (aq (pv 2)) b7))) (ER.toD (bu lu (by rfl) T.z_len mj (ea_n (pv 4) cg))) (EV.toR (afk nu PySem.F.slot_list_append PySem.F.type_list_append qp (pv 4) (az (qy (az (aq (pv 1)) (az (aq (pv 2)) b7))) b7))) (ER.toD (gm d27 (hr.mono (by decide)) (by rfl) (eg_n (pv 0) (eg_n (pv 1) (eg_v (aq (pv 2)) bz))))) (ao (b8 (EV.toR (qy (az (aq (pv 5)) (az (ER.toD (gn adl (e2_v (ER.toD (bu lu (by rfl) T.z_len mj (ea_n (pv 4) cg))) (di (pv 5))))) (az (aq (pv 4)) b7))))))) (fun _ _=>by rfl))
theorem aiy(F:Fun K "_law_last" "_law_last" ab3 f fd)(T:Txt K mg):FnOk P w K mg base CX0 1 f fd ["house","arrows"] (spOf K 2 ur) :=
 fc F aif rfl rfl fun cdv A outer s H E hr =>
  (ao (b8 (zg [] ["doors","arrow"] [none,none] rfl (ak6 (by rfl) T.z_zip (az (aq (pv 0)) (az (aq (pv 1)) b7))) (fun _ _ _=>(amr rfl (vd (dz (i:=0) (show(["doors","arrow"]:List Str).Nodup by decide +kernel) rfl (Or.inl rfl)) (vd (dz (i:=1) (show(["doors","arrow"]:List Str).Nodup by decide +kernel) rfl (Or.inl rfl)) aho)))) (fun _ _ _=>ace) (fun _ _ _=>(ER.toD (ji (e2_n (pv 0) (EV.toB (ER.toD (gn aao (e2_v (ER.toD (gn adl (e2_n (pv 1) (EV.toB bc)))) (EV.toB (ER.toD (bu lu (by rfl) T.z_len mj (ea_n (pv 0) cg))))))))) (fun _ _=>by rfl)))))))
theorem ahc(F:Fun K "_law_rings" "_law_rings" aai f fd)(T:Txt K mg)(d29:Dd29 P w K mg base):FnOk P w K mg base CX0 2 f fd ["house","arrows","rooms"] (spOf K 3 qx) :=
 fc F km rfl rfl fun cdv A outer s H E hr =>
  (aa (du (i:=3) km.nd rfl (Or.inl rfl) (gm d29 (hr.mono (by decide)) (by rfl) (eg_v (aq (pv 0)) (eg_v (aq (pv 1)) bz)))) (aa (du (i:=4) km.nd rfl (Or.inl rfl) (ye b7)) (aa (abp PassesOwn.never rfl (xm (aq (pv 2))) (dz (i:=5) km.nd rfl (Or.inl rfl)) (aa (du (i:=6) km.nd rfl (Or.inl rfl) (ye (az (aq (pv 5)) b7))) (aa (acj fuel PassesOwn.never (EW.pt (agi (jg (qm hr.units) (e2_v (ER.toD (ji (e2_n (pv 3) (EV.toB (ER.toD (ji (e2_n (pv 6) (EV.toB (agj bc))) (fun _ _=>by rfl))))) (fun _ _=>by rfl))) (di (pv 6))) (by with_unfolding_all rfl)) (adt (jg air (e2_v (ER.toD (ji (e2_n (pv 3) (EV.toB (ER.toD (ji (e2_n (pv 6) (EV.toB (agj bc))) (fun _ _=>by rfl))))) (fun _ _=>by rfl))) (EV.toB bc)) (j5 _))))) (ao (qz (EV.toR (afk nu PySem.F.slot_list_append PySem.F.type_list_append qp (pv 6) (az (ER.toD (ji (e2_n (pv 3) (EV.toB (ER.toD (ji (e2_n (pv 6) (EV.toB (agj bc))) (fun _ _=>by rfl))))) (fun _ _=>by rfl))) b7)))))) (ao (uy (EW.pt (agi (jg (af5 hr.units) (e2_v (ER.toD (ji (e2_n (pv 3) (EV.toB (ER.toD (ji (e2_n (pv 6) (EV.toB (agj bc))) (fun _ _=>by rfl))))) (fun _ _=>by rfl))) (di (pv 5))) (j5 _)) (adt (jg (af5 hr.units) (e2_v (ER.toD (bu (alf rfl) (by rfl) T.z_min aqy (ea_n (pv 6) cg))) (di (pv 5))) (j5 _))))) (ao (qz (EV.toR (afk nu PySem.F.slot_list_append PySem.F.type_list_append qp (pv 4) (az (ER.toD (ju vh (by rfl) T.z_tuple lw (ea_n (pv 6) cg))) b7))))) gr))))) (ao (b8 (bu ago (by rfl) T.z_sorted aa4 (ea_n (pv 4) cg)))))))
theorem akq(F:Fun K "_law_why" "_law_why" adh f fd)(T:Txt K mg)(d24:Dd24 P w K mg base)(d30:Dd30 P w K mg base):FnOk P w K mg base CX0 3 f fd ["house","arrows","room"] (spOf K 3 pq) :=
 fc F yr rfl rfl fun cdv A outer s H E hr =>
  (aa (du (i:=3) yr.nd rfl (Or.inl rfl) (bu adx (by rfl) T.z_sorted aa4 (ea_v (ER.toD (gm d24 (hr.mono (by decide)) (by rfl) (eg_n (pv 0) (eg_v (aq (pv 2)) bz)))) cg))) (aa (abp PassesOwn.never rfl (xm (aq (pv 3))) (dz (i:=4) yr.nd rfl (Or.inl rfl)) (ao (uy (jg (qm hr.units) (e2_n (pv 2) (EV.toB (ER.toD (gm d24 (hr.mono (by decide)) (by rfl) (eg_n (pv 0) (eg_v (aq (pv 4)) bz)))))) (by with_unfolding_all rfl)) (ao (b8 (EV.toR (qy (az ajl (az (aq (pv 4)) b7)))))) gr))) (aa (aon (i:=5) ["room"] ["ring","room"] [none,some 2] yr.nd rfl (Or.inl rfl) rfl (xm (ER.toD (gm d30 (hr.mono (by decide)) (by rfl) (eg_v (aq (pv 0)) (eg_v (aq (pv 1)) (eg_v (aq (pv 3)) bz)))))) (fun _ _ _=>(dz (i:=0) (show(["ring","room"]:List Str).Nodup by decide +kernel) rfl (Or.inl rfl))) (fun _ _ _=>(ahy (jg (qm hr.units) (e2_n (pv 1) (di (pv 0))) (by with_unfolding_all rfl)))) (fun _ _ _=>(aq (pv 0)))) (aa (uy (jg (aip hr.units) (e2_n (pv 5) (EV.toB (ER.toD (ye b7)))) (j5 _)) (ao (b8 (EV.toR (qy (az ajl (az (ER.toD (ji (e2_n (pv 5) (EV.toB bc)) (fun _ _=>by rfl))) b7)))))) gr) (ao (b8 (EV.toR aqa)))))))
theorem ahe(F:Fun K "_law_kinds" "_law_kinds" aak f fd)(T:Txt K mg)(d23:Dd23 P w K mg base):FnOk P w K mg base CX0 2 f fd ["found"] (spOf K 1 jt) :=
 fc F agz rfl rfl fun cdv A outer s H E hr =>
  (aa (uy (EW.pt (av1 (abv (abu (ad7 (t:=.tuple) (ail (by rfl) T.z_tuple lw) (by rfl) T.z_isinstance ir (di (pv 0))))) (ap9 (abv (abu (ad7 (t:=.str) (ail (by rfl) T.z_str ay9) (by rfl) T.z_isinstance ir (EV.toB (ER.toD (ji (e2_n (pv 0) (EV.toB bc)) (fun _ _=>by rfl)))))))))) (ao (b8 (EV.toR aht))) gr) (aa (uy (jg (af5 hr.units) (e2_v (ER.toD (ji (e2_n (pv 0) (EV.toB bc)) (fun _ _=>by rfl))) (EV.toB ajl)) (j5 _)) (ao (b8 (gm d23 (hr.mono (by decide)) (by rfl) (eg_v (ER.toD (ji (e2_n (pv 0) (EV.toB bc)) (fun _ _=>by rfl))) bz)))) gr) (ao (b8 (EV.toR (ajn (ad7 (t:=.tuple) (ail (by rfl) T.z_tuple lw) (by rfl) T.z_isinstance ir (EV.toB (ER.toD (ji (e2_n (pv 0) (EV.toB bc)) (fun _ _=>by rfl))))) (ajm (ER.toD (bu (aqt rfl) (by rfl) T.z_all aq3 (ea_v (ER.toD (zg [] ["one"] [none] rfl (xm (ER.toD (ji (e2_n (pv 0) (EV.toB bc)) (fun _ _=>by rfl)))) (fun _ _ _=>(dz (i:=0) (show(["one"]:List Str).Nodup by decide +kernel) rfl (Or.inl rfl))) (fun _ _ _=>ace) (fun _ _ _=>(ER.toD (gm d23 (hr.mono (by decide)) (by rfl) (eg_n (pv 0) bz)))))) cg))))))))))
theorem ahd(F:Fun K "_law_right" "_law_right" aaj f fd)(T:Txt K mg)(d31:Dd31 P w K mg base)(d28:Dd28 P w K mg base)(d19:Dd19 P w K mg base)(d32:Dd32 P w K mg base):FnOk P w K mg base CX0 9 f fd ["house","arrows","room"] (spOf K 3 ik) :=
 fc F uc rfl rfl fun cdv A outer s H E hr =>
  (aa (du (i:=3) uc.nd rfl (Or.inl rfl) (gm d31 (hr.mono (by decide)) (by rfl) (eg_v (aq (pv 0)) (eg_v (aq (pv 1)) (eg_v (aq (pv 2)) bz))))) (aa (uy (EW.pt (agi (jg aiq (e2_v (ER.toD (bu lu (by rfl) T.z_len mj (ea_n (pv 0) cg))) (EV.toB bc)) (j5 _)) (adt (jg (aip hr.units) (e2_v (aqb (di (pv 3))) (EV.toB (ER.toD (aqc (af5 hr.units) (e2_v (ER.toD (ji (e2_v (ER.toD (gm d28 (hr.mono (by decide)) (by rfl) (eg_n (pv 0) (eg_v (aq (pv 1)) (eg_v (aq (pv 2)) bz))))) (EV.toB bc)) (fun _ _=>by rfl))) (EV.toB bc)) (j5 _))))) (j5 _))))) (ao (b8 (EV.toR aht))) gr) (aa (abp PassesOwn.never rfl (aar (by rfl) T.z_range (az bc b7)) (dz (i:=4) uc.nd rfl (Or.inl rfl)) (aa (du (i:=5) uc.nd rfl (Or.inl rfl) (gm d19 (hr.mono (by decide)) (by rfl) (eg_v (aq (pv 0)) (eg_v (aq (pv 1)) (eg_v (aq (pv 2)) bz))))) (aa (uy (EW.pt (agi (ajo (di (pv 3))) (adt (agk (di (pv 5)))))) (ao (b8 (EV.toR aht))) gr) (ao (uy (EW.pt (agi (agk (di (pv 3))) (adt (EW.pt (av1 (jg (aip hr.units) (e2_n (pv 5) (di (pv 3))) (j5 _)) (ap9 (abv (abu (ER.toD (gm d32 (hr.mono (by decide)) (by rfl) (eg_n (pv 5) bz))))))))))) (ao (b8 (EV.toR aht))) gr))))) (ao (b8 (EV.toR aht))))))
theorem ax2(F:Fun K "law" "law" ag1 f fd)(T:Txt K mg)(d33:Dd33 P w K mg base)(d20:Dd20 P w K mg base)(d21:Dd21 P w K mg base)(d22:Dd22 P w K mg base)(d25:Dd25 P w K mg base)(d26:Dd26 P w K mg base):FnOk P w K mg base CX0 10 f fd ["script"] (spOf K 1 ap8) :=
 fc F af2 rfl rfl fun cdv A outer s H E hr =>
  (aa (uy (EW.pt (av1 (abv (abu (ER.toD (gm d33 (hr.mono (by decide)) (by rfl) (eg_v (qy (az (qy (az bc b7)) b7)) (eg_v (qy (az bc b7)) (eg_v bc bz))))))) (ap9 (abv (abu (ER.toD (gm d33 (hr.mono (by decide)) (by rfl) (eg_v (qy (az (qy (az bc (az bc b7))) (az (qy (az bc b7)) b7))) (eg_v (qy (az bc (az bc b7))) (eg_v bc bz)))))))))) (ao (b8 (EV.toR aht))) gr) (aa (abp PassesOwn.never rfl (xm (ER.toD (gn sr (e2_v (ER.toD (ye (az (ER.toD (gm d20 (hr.mono (by decide)) (by rfl) (eg_n (pv 0) (eg_v bc bz)))) b7))) (EV.toB (ER.toD (alc (pv 0) (ahw bc) (ahw bc)))))))) (dz (i:=1) af2.nd rfl (Or.inl rfl)) (aa (du (i:=2) af2.nd rfl (Or.inl rfl) (gm d21 (hr.mono (by decide)) (by rfl) (eg_n (pv 1) bz))) (aa (du (i:=3) af2.nd rfl (Or.inl rfl) (gm d25 (hr.mono (by decide)) (by rfl) (eg_n (pv 2) (eg_v (ER.toD (ji (e2_v (ER.toD (ye (az bc (az bc (az bc b7))))) (EV.toB (ER.toD (gm d22 (hr.mono (by decide)) (by rfl) (eg_n (pv 2) (eg_v bc bz)))))) (fun _ _=>by rfl))) (eg_v bc bz))))) (aa (du (i:=4) af2.nd rfl (Or.inl rfl) (gm d26 (hr.mono (by decide)) (by rfl) (eg_n (pv 2) (eg_v (aq (pv 3)) bz)))) (ao (abp PassesOwn.never rfl (aar (by rfl) T.z_range (az (ER.toD (bu lu (by rfl) T.z_len mj (ea_n (pv 3) cg))) b7)) (dz (i:=5) af2.nd rfl (Or.inl rfl)) (ao (uy (abv (abu (ER.toD (gm d33 (hr.mono (by decide)) (by rfl) (eg_v (aq (pv 3)) (eg_v (aq (pv 4)) (eg_v (aq (pv 5)) bz))))))) (ao (b8 (EV.toR aht))) gr)))))))) (ao (b8 (EV.toR aht)))))
end
abbrev Q(K:Fg9)(x:Str)(st:Stmt)(f:Addr)(oc:Value)(od:Option Addr)(kV dc pm:Value)(an:Option Addr)(cd ct:Value)(sl:Array (Option Value)):Prop:=nsIn K mainGlobals x=some (some (.ref f))/\K.lookup f=some ⟨oc,od,.func (fnOf x x (jx st) (jj st) (ak st) .none kV dc pm an cd ct),sl⟩/\codeIn K cd x=true/\keepIn K (.ref f)=true
section
variable{K:Fg9}{x:Str}{st:Stmt}{f:Addr}{oc:Value}{od:Option Addr}{kV dc pm:Value}{an:Option Addr}{cd ct:Value}{sl:Array (Option Value)}(q:Q K x st f oc od kV dc pm an cd ct sl){h:Heap}{mg:Str->Option Value}
include q
theorem Q.F:Fun K x x st f (fnOf x x (jx st) (jj st) (ak st) .none kV dc pm an cd ct):=at5 q.2.1 q.2.2.1 q.2.2.2
theorem Q.E{ps:List Str}(X:K.In h)(G:h.Ns mainGlobals mg)(b:∀(kV doc pm:Value) (an:Option Addr) (cdv ct:Value) (us:List Value),us.length=ps.length->bindArgs (fnOf x x (jx st) (jj st) (ak st) .none kV doc pm an cdv ct) ⟨us,[]⟩=pure (ps.zip us)):mg x=some (.ref f)/\keepIn K (.ref f)=true/\Binds K (fnOf x x (jx st) (jj st) (ak st) .none kV dc pm an cd ct) ps []:=⟨mg_of X G q.1,q.2.2.2,(Q.F q).binds b⟩
theorem Q.E1{p0:Str}(X:K.In h)(G:h.Ns mainGlobals mg)(b:∀(kV doc pm:Value) (an:Option Addr) (cdv ct u0:Value),bindArgs (fnOf x x (jx st) (jj st) (ak st) .none kV doc pm an cdv ct) ⟨[u0],[]⟩=pure ([p0].zip [u0]):=by intros;rfl):mg x=some (.ref f)/\keepIn K (.ref f)=true/\Binds K (fnOf x x (jx st) (jj st) (ak st) .none kV dc pm an cd ct) [p0] []:=q.E X G fun _ _ _ _ _ _ us hl=>by obtain⟨_,rfl⟩:=ln1 hl;apply b
theorem Q.E2{p0 p1:Str}(X:K.In h)(G:h.Ns mainGlobals mg)(b:∀(kV doc pm:Value) (an:Option Addr) (cdv ct u0 u1:Value),bindArgs (fnOf x x (jx st) (jj st) (ak st) .none kV doc pm an cdv ct) ⟨[u0,u1],[]⟩=pure ([p0,p1].zip [u0,u1]):=by intros;rfl):mg x=some (.ref f)/\keepIn K (.ref f)=true/\Binds K (fnOf x x (jx st) (jj st) (ak st) .none kV dc pm an cd ct) [p0,p1] []:=q.E X G fun _ _ _ _ _ _ us hl=>by obtain⟨_,_,rfl⟩:=ln2 hl;apply b
theorem Q.E3{p0 p1 p2:Str}(X:K.In h)(G:h.Ns mainGlobals mg)(b:∀(kV doc pm:Value) (an:Option Addr) (cdv ct u0 u1 u2:Value),bindArgs (fnOf x x (jx st) (jj st) (ak st) .none kV doc pm an cdv ct) ⟨[u0,u1,u2],[]⟩=pure ([p0,p1,p2].zip [u0,u1,u2]):=by intros;rfl):mg x=some (.ref f)/\keepIn K (.ref f)=true/\Binds K (fnOf x x (jx st) (jj st) (ak st) .none kV dc pm an cd ct) [p0,p1,p2] []:=q.E X G fun _ _ _ _ _ _ us hl=>by obtain⟨_,_,_,rfl⟩:=ln3 hl;apply b
end
theorem aze{l:PySem.W.OpenLaw}{w:World}{K:Fg9}{h:Heap}{mg:Str->Option Value}(X:K.In h)(G:h.Ns mainGlobals mg)(hfa:mg "law" = some (.ref fa))
  (q0:Q K "is_whole" adg f0' o0 p0 v0 t0 m0 n0 c0 r0 z0)
  (q1:Q K "is_whole_within" nj f1' o1 p1 v1 t1 m1 n1 c1 r1 z1)
  (q2:Q K "is_tuple_within" nq f2' o2 p2 v2 t2 m2 n2 c2 r2 z2)
  (q3:Q K "is_room_number" rn f3' o3 p3 v3 t3 m3 n3 c3 r3 z3)
  (q4:Q K "refuse_no_room" rm f4' o4 p4 v4 t4 m4 n4 c4 r4 z4)
  (q5:Q K "come_to" aeq f5' o5 p5 v5 t5 m5 n5 c5 r5 z5)
  (q6:Q K "is_shut" aep f6' o6 p6 v6 t6 m6 n6 c6 r6 z6)
  (q7:Q K "refuse_not_shut" mz f7' o7 p7 v7 t7 m7 n7 c7 r7 z7)
  (q8:Q K "is_arrows" abz f8' o8 p8 v8 t8 m8 n8 c8 r8 z8)
  (q9:Q K "refuse_no_arrows" lg f9' o9 p9 v9 t9 m9 n9 c9 r9 z9)
  (q10:Q K "last_ways" aby f10' o10 p10 v10 t10 m10 n10 c10 r10 z10)
  (q11:Q K "going_round" yt f11' o11 p11 v11 t11 m11 n11 c11 r11 z11)
  (q12:Q K "ring_from" abx f12' o12 p12 v12 t12 m12 n12 c12 r12 z12)
  (q13:Q K "rings_of" adf f13' o13 p13 v13 t13 m13 n13 c13 r13 z13)
  (q14:Q K "refuse_no_state" ni f14' o14 p14 v14 t14 m14 n14 c14 r14 z14)
  (q15:Q K "refuse_no_shut_state" jn f15' o15 p15 v15 t15 m15 n15 c15 r15 z15)
  (q16:Q K "gone_from" ab0 f16' o16 p16 v16 t16 m16 n16 c16 r16 z16)
  (q17:Q K "ring_without" vq f17' o17 p17 v17 t17 m17 n17 c17 r17 z17)
  (q18:Q K "why_of" ag0 f18' o18 p18 v18 t18 m18 n18 c18 r18 z18)
  (q19:Q K "why_not" aeo f19' o19 p19 v19 t19 m19 n19 c19 r19 z19)
  (q20:Q K "_law_cell" ab5 f20' o20 p20 v20 t20 m20 n20 c20 r20 z20)
  (q21:Q K "_law_pen" adi f21' o21 p21 v21 t21 m21 n21 c21 r21 z21)
  (q22:Q K "_law_draw" ab4 f22' o22 p22 v22 t22 m22 n22 c22 r22 z22)
  (q23:Q K "_law_whole" aag f23' o23 p23 v23 t23 m23 n23 c23 r23 z23)
  (q24:Q K "_law_reached" vy f24' o24 p24 v24 t24 m24 n24 c24 r24 z24)
  (q25:Q K "_law_shut" ab1 f25' o25 p25 v25 t25 m25 n25 c25 r25 z25)
  (q26:Q K "_law_arrows" yu f26' o26 p26 v26 t26 m26 n26 c26 r26 z26)
  (q27:Q K "_law_left" ab2 f27' o27 p27 v27 t27 m27 n27 c27 r27 z27)
  (q28:Q K "_law_round" aah f28' o28 p28 v28 t28 m28 n28 c28 r28 z28)
  (q29:Q K "_law_last" ab3 f29' o29 p29 v29 t29 m29 n29 c29 r29 z29)
  (q30:Q K "_law_rings" aai f30' o30 p30 v30 t30 m30 n30 c30 r30 z30)
  (q31:Q K "_law_why" adh f31' o31 p31 v31 t31 m31 n31 c31 r31 z31)
  (q32:Q K "_law_kinds" aak f32' o32 p32 v32 t32 m32 n32 c32 r32 z32)
  (q33:Q K "_law_right" aaj f33' o33 p33 v33 t33 m33 n33 c33 r33 z33)
  (a34:nsIn K mainGlobals "law" = some (some (.ref f34'))) (l34:K.lookup f34'=some ⟨oc34,od34,.func (fnOf "law" "law" (jx ag1) (jj ag1) (ak ag1) .none kV34 dc34 pm34 an34 cd34 ct34),sl34⟩) (c34:codeIn K cd34 "law" = true) (k34:keepIn K (.ref f34')=true)
  (y_all:nsIn K mainGlobals "all" = some none)
  (y_bool:nsIn K mainGlobals "bool" = some none)
  (y_divmod:nsIn K mainGlobals "divmod" = some none)
  (y_int:nsIn K mainGlobals "int" = some none)
  (y_isinstance:nsIn K mainGlobals "isinstance" = some none)
  (y_len:nsIn K mainGlobals "len" = some none)
  (y_list:nsIn K mainGlobals "list" = some none)
  (y_max:nsIn K mainGlobals "max" = some none)
  (y_min:nsIn K mainGlobals "min" = some none)
  (y_range:nsIn K mainGlobals "range" = some none)
  (y_set:nsIn K mainGlobals "set" = some none)
  (y_sorted:nsIn K mainGlobals "sorted" = some none)
  (y_str:nsIn K mainGlobals "str" = some none)
  (y_tuple:nsIn K mainGlobals "tuple" = some none)
  (y_zip:nsIn K mainGlobals "zip" = some none)
  : ∃fd:FuncData,(∀(s:Shared) (v:Value),BindsTo s fd ⟨[v],[]⟩ [("script", v)])/\∀base:Heap,K.In base->base.Ns mainGlobals mg->FnOk l.prog w K mg base CX0 10 fa fd ["script"] (spOf K 1 ap8):=by
 have e:=hfa.symm.trans (mg_of X G a34);cases e;have T:Txt K mg:=⟨mg_none_of X G y_all,mg_none_of X G y_bool,mg_none_of X G y_divmod,mg_none_of X G y_int,mg_none_of X G y_isinstance,mg_none_of X G y_len,mg_none_of X G y_list,mg_none_of X G y_max,mg_none_of X G y_min,mg_none_of X G y_range,mg_none_of X G y_set,mg_none_of X G y_sorted,mg_none_of X G y_str,mg_none_of X G y_tuple,mg_none_of X G y_zip⟩;have F34:=at5 (st:=ag1) l34 c34 k34;refine⟨fnOf "law" "law" (jx ag1) (jj ag1) (ak ag1) .none kV34 dc34 pm34 an34 cd34 ct34,fun s v=>.of_eq rfl,fun base _ _ =>?_⟩
 have d0:Dd0 l.prog w K mg base:=⟨_,_,akp q0.F T,q0.E1 X G⟩;have d1:Dd1 l.prog w K mg base:=⟨_,_,acx q1.F T d0,q1.E3 X G⟩;have d2:Dd2 l.prog w K mg base:=⟨_,_,acy q2.F T,q2.E3 X G⟩;have d3:Dd3 l.prog w K mg base:=⟨_,_,adn q3.F T d1,q3.E2 X G⟩;have d4:Dd4 l.prog w K mg base:=⟨_,_,adm q4.F T d3,q4.E2 X G⟩;have d5:Dd5 l.prog w K mg base:=⟨_,_,anr q5.F T d4,q5.E2 X G⟩;have d6:Dd6 l.prog w K mg base:=⟨_,_,anq q6.F T,q6.E1 X G⟩;have d7:Dd7 l.prog w K mg base:=⟨_,_,acv q7.F T d6,q7.E1 X G⟩;have d8:Dd8 l.prog w K mg base:=⟨_,_,aiu q8.F T d2 d1,q8.E2 X G⟩;have d9:Dd9 l.prog w K mg base:=⟨_,_,ab6 q9.F T d8,q9.E2 X G⟩;have d10:Dd10 l.prog w K mg base:=⟨_,_,ait q10.F T,q10.E2 X G⟩;have d11:Dd11 l.prog w K mg base:=⟨_,_,afw q11.F T,q11.E2 X G⟩;have d12:Dd12 l.prog w K mg base:=⟨_,_,ais q12.F T,q12.E2 X G⟩;have d13:Dd13 l.prog w K mg base:=⟨_,_,ako q13.F T d11 d12,q13.E2 X G⟩;have d14:Dd14 l.prog w K mg base:=⟨_,_,acw q14.F T d9 d4,q14.E3 X G⟩;have d15:Dd15 l.prog w K mg base:=⟨_,_,yx q15.F T d14 d7,q15.E3 X G⟩;have d16:Dd16 l.prog w K mg base:=⟨_,_,aiv q16.F T d5,q16.E2 X G⟩;have d17:Dd17 l.prog w K mg base:=⟨_,_,aew q17.F T d10 d5 d13,q17.E3 X G⟩;have d18:Dd18 l.prog w K mg base:=⟨_,_,ape q18.F T d16 d17,q18.E3 X G⟩;have d19:Dd19 l.prog w K mg base:=⟨_,_,anp q19.F T d15 d18,q19.E3 X G⟩;have d20:Dd20 l.prog w K mg base:=⟨_,_,ai0 q20.F T,q20.E2 X G⟩;have d21:Dd21 l.prog w K mg base:=⟨_,_,akr q21.F T,q21.E1 X G⟩;have d22:Dd22 l.prog w K mg base:=⟨_,_,aiz q22.F T,q22.E2 X G⟩;have d23:Dd23 l.prog w K mg base:=⟨_,_,aha q23.F T,q23.E1 X G⟩;have d24:Dd24 l.prog w K mg base:=⟨_,_,aex q24.F T,q24.E2 X G⟩;have d25:Dd25 l.prog w K mg base:=⟨_,_,aiw q25.F T d22,q25.E3 X G⟩;have d26:Dd26 l.prog w K mg base:=⟨_,_,afx q26.F T d22,q26.E2 X G⟩;have d27:Dd27 l.prog w K mg base:=⟨_,_,aix q27.F T,q27.E3 X G⟩;have d28:Dd28 l.prog w K mg base:=⟨_,_,ahb q28.F T d27,q28.E3 X G⟩;have d29:Dd29 l.prog w K mg base:=⟨_,_,aiy q29.F T,q29.E2 X G⟩;have d30:Dd30 l.prog w K mg base:=⟨_,_,ahc q30.F T d29,q30.E3 X G⟩;have d31:Dd31 l.prog w K mg base:=⟨_,_,akq q31.F T d24 d30,q31.E3 X G⟩;have d32:Dd32 l.prog w K mg base:=⟨_,_,ahe q32.F T d23,q32.E1 X G⟩;have d33:Dd33 l.prog w K mg base:=⟨_,_,ahd q33.F T d31 d28 d19 d32,q33.E3 X G⟩;exact ax2 F34 T d33 d20 d21 d22 d25 d26
end My
set_option genInjectivity false in
structure PySem.W.Fast where(tw4471412565727022144 tw13458402528832822816 tw12414954997728309185 tw15947543032329072931 tw2154310676617655651 tw14287670502397396228 tw16781806943952952741 tw6068253885410608709 tw10486175265093259109 tw10453719186499510726 tw18336228114010772871 tw1964697826781605960 tw2563717333711613449 tw14506187950646912649 tw9082494396306072970 tw3579208141575543179 tw15281499518560872781 tw15039060726835356112 tw5173309845693262353 tw15755521141339711025 tw13283182741382659474 tw15089627812720707476 tw11329455704663575830 tw13644949854632998518 tw13754521502433443478 tw285402190351501399 tw992723734537217271 tw11382665806399237272 tw13218703833905815768 tw12280358607856377752 tw4956842670606232602 tw11595325599948622618 tw2109977832939106170 tw10612624063134595994 tw10973581578444500667 tw2397175532103127003 tw7893965101845748028 tw13342079297235942909 tw9919903203166836733 tw75985097816586622 tw815018297348486942 tw6977824770130397150 tw2025204610699805973 tw11266125429700126796 tw7399818662128311595 tw11398754315334917523 tw9975804061733936109 tw10721367601781393496 tw17153906693220487032 tw24406696284710794 tw16328286697524840714 tw7402750622193291815 tw16361014543027537839 tw16796205520742483922 tw9766992648358460984 tw10707725905163973583 tw10773970054961615773 tw470625000691343986 tw4720880144865445662 tw4597156391873199526 tw18268188489921447883 tw8253574830499193361 tw13702003116982459378 tw9459119815016518834 tw10173685972795797912 tw162866653268760076 tw7146373439514433094 tw11064687923722297474 tw4898962487880042967 tw13663524914496824410 tw6337432121829978160 tw864546823061103940 tw11406920269640108407 tw12163629243633720478 tw3057880425817875479 tw16366494927400247889 tw3057933141598369058 tw12856052992445182048 tw16017224317410364475 tw7565612742643213268 tw10680721171655214931 tw6557513713718813004 tw12452177661699330999 tw14519326454668840530 tw12590135890670071629 tw88849123470181448 tw13349733363869313702 tw8615428951507752453 tw3928272282597608301 tw16146229374473432838 tw13654965823438817540 tw5635635977158186617 tw1163711186665032219 tw6515708534088590918 tw11892789830965384584 tw11036714646356105840 tw12158887426243860371 tw10002558523416722157 tw12546863665771480364 tw9142069358984079857 tw11645173812709789701 tw7346567477565472672 tw14172643498661910370 tw7708618714123114869 tw16893361713815049668 tw1489893721247483618 tw11552352192618412813 tw5469229236808818902 tw14660150826750615357 tw2428176873366115673 tw8399364989362703249 tw11053892822581742175 tw9071258222094805424 tw9158714570613071068 tw15515667334376230082 tw10688087175144094135 tw8107752968425934189 tw15717001569295601989 tw11435552723935357746 tw6178812274776100210 tw2090968585859961442 tw4886302140204147171:Unit)
open PySem PySem.W PyProof.Rows
set_option maxRecDepth 100000 in
set_option maxHeartbeats 0 in
theorem PySem.Challenge.cw_turnarrows_k28_why_in_no_round_holds : PySem.Challenge.rw_turnarrows_k28_why_in_no_round.Holds := by
 w_on;o_law;k_head;(case hw=>w_witness2)
 k_fill
 refine Dn.walk (l:=PySem.Challenge.rw_turnarrows_k28_why_in_no_round) (f:=My.ap8) (k:=10) My.asq rfl rfl ⟨rfl,by decide,by decide,rfl⟩ (fun w h Y=>PySem.W.kIn_of Y) ?F
 case F =>
  intro w mg fa h KX G hmg;refine' My.aze KX G hmg ?_ ?_ ?_ ?_ ?_ ?_ ?_ ?_ ?_ ?_ ?_ ?_ ?_ ?_ ?_ ?_ ?_ ?_ ?_ ?_ ?_ ?_ ?_ ?_ ?_ ?_ ?_ ?_ ?_ ?_ ?_ ?_ ?_ ?_ ?_ ?_ ?_ ?_ ?_ ?_ ?_ ?_ ?_ ?_ ?_ ?_ ?_ ?_ ?_ ?_ ?_ ?_ ?_
  all_goals try refine' And.intro ?_ (And.intro ?_ (And.intro ?_ ?_))
  any_goals k_is
  all_goals kernel_rfl
